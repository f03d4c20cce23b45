import PyProof.Rows.All
import PyProof.Rows.StrBin
import KE.IntTextLaws
import PyProof.StrLawsChain
import PyProof.SliceStr2
import PyProof.StrWalks
import PyProof.StrBlockG
import KE.KIntText
import PyProof.MeetsStr3
import PyProof.StrCalls5
import PyProof.StrBlockL
import PyProof.Rows.CallKwBuiltin
import KE.KRevIter
import PyProof.EnumMake
import Wide.All
import OpenK.AllK
import Wide.FinOn
import Lean
import PyProof.EqAt
import PyProof.EqKinds
import PyProof.TupleCall
import PySem.Challenge.RW_surestretch_k50_fractions_and_rules_writ
set_option Elab.async false
set_option linter.all false
set_option maxRecDepth 100000
namespace L2
open PySem PySem.Spec PyProof.Rows
noncomputable abbrev Key := Sum Int Str
noncomputable def keyIs : Key → Value → Bool
  | .inl k, v => Value.isInt k v
  | .inr x, v => Value.isStrOf x v
noncomputable def keyH (w : World) : Key → Int
  | .inl k => hashInt k
  | .inr x => hashStr w x
theorem keyIs_shape : ∀ {k : Key} {v : Value}, keyIs k v = true → (∃ i t, k = Sum.inl i ∧ v = Value.int i t) ∨ (∃ x t, k = Sum.inr x ∧ v = Value.str x t)
  | .inl i, v, h => by
    obtain ⟨t, e⟩ := Value.isInt_shape (k := i) (v := v) h
    exact .inl ⟨i, t, rfl, e⟩
  | .inr x, v, h => by
    obtain ⟨t, e⟩ := Value.isStrOf_shape (x := x) (v := v) h
    exact .inr ⟨x, t, rfl, e⟩
theorem key_ll (a b : Int) : decide ((Sum.inl a : Key) = Sum.inl b) = (a == b) := by
  by_cases e : a = b
  · subst e; simp
  · have h : ¬ (Sum.inl a : Key) = Sum.inl b := fun q => e (Sum.inl.inj q)
    rw [decide_eq_false h]
    exact (beq_eq_false_iff_ne.mpr e).symm
theorem key_rr (a b : Str) : decide ((Sum.inr a : Key) = Sum.inr b) = decide (a = b) := by
  by_cases e : a = b
  · subst e; simp
  · have h : ¬ (Sum.inr a : Key) = Sum.inr b := fun q => e (Sum.inr.inj q)
    rw [decide_eq_false h, decide_eq_false e]
theorem key_lr (a : Int) (b : Str) : decide ((Sum.inl a : Key) = Sum.inr b) = false := decide_eq_false (fun q => nomatch q)
theorem key_rl (a : Str) (b : Int) : decide ((Sum.inr a : Key) = Sum.inl b) = false := decide_eq_false (fun q => nomatch q)
noncomputable def mixKind (prog : Program) (w : World) : PySem.KeyKind prog w Key where
  is := keyIs
  hash := keyH w
  inj := fun v a b ha hb => by
    rcases keyIs_shape ha with ⟨i, t, rfl, rfl⟩ | ⟨x, t, rfl, rfl⟩
    · rcases keyIs_shape hb with ⟨j, u, rfl, e⟩ | ⟨y, u, rfl, e⟩
      · injection e with e1 _; rw [e1]
      · exact nomatch e
    · rcases keyIs_shape hb with ⟨j, u, rfl, e⟩ | ⟨y, u, rfl, e⟩
      · exact nomatch e
      · injection e with e1 _; rw [e1]
  byValue := fun k v h => by
    rcases keyIs_shape h with ⟨i, t, rfl, rfl⟩ | ⟨x, t, rfl, rfl⟩ <;> rfl
  pyHash := fun hv h => by
    rcases keyIs_shape hv with ⟨i, t, rfl, rfl⟩ | ⟨x, t, rfl, rfl⟩
    · exact wpAny_pyHash_int h
    · exact wpAny_pyHash_str h
  eqBool := fun hu hv h => by
    rcases keyIs_shape hu with ⟨i, t, rfl, rfl⟩ | ⟨x, t, rfl, rfl⟩
    · rcases keyIs_shape hv with ⟨j, u, rfl, rfl⟩ | ⟨y, u, rfl, rfl⟩
      · rw [key_ll] at h; exact wpAny_eqBool_int h
      · rw [key_lr] at h; exact SeqAt.EqAt.int_str i t y u _ _ _ _ h
    · rcases keyIs_shape hv with ⟨j, u, rfl, rfl⟩ | ⟨y, u, rfl, rfl⟩
      · rw [key_rl] at h; exact SeqAt.EqAt.str_int x t j u _ _ _ _ h
      · rw [key_rr] at h; exact wpAny_eqBool_str h
  «strs» := fun k x t v h => by
    rcases keyIs_shape h with ⟨i, u, rfl, e⟩ | ⟨y, u, rfl, e⟩
    · exact nomatch e
    · injection e with e1 _
      subst e1
      cases v <;> rfl
end L2
namespace L2
open PySem PySem.Spec PyProof.Rows
inductive V where
  | non | bl (b : Bool) | int (i : Int) | str (x : Str) | byt (b : Array UInt8) | flt (b : UInt64) | ref (a : Addr) | ty (n : String)
  deriving DecidableEq
noncomputable def RelV : V → Value → Prop
  | .non, u => u = Value.none
  | .bl b, u => u = Value.bool b
  | .int i, u => ∃ t, u = Value.int i t
  | .str x, u => ∃ t, u = Value.str x t
  | .byt b, u => ∃ t, u = Value.bytes b t
  | .flt b, u => ∃ t, u = Value.float b t
  | .ref a, u => u = Value.ref a
  | .ty n, u => u = Value.type n
noncomputable abbrev Vals : List V → List Value → Prop := Paired RelV
theorem Vals.length {xs : List V} {us : List Value} (r : Vals xs us) : xs.length = us.length := Paired.length r
theorem Vals.get : ∀ {xs : List V} {us : List Value} {i : Nat} {x : V}, Vals xs us → xs[i]? = some x → ∃ u, us[i]? = some u ∧ RelV x u
  | _, _, _, _, .nil, e => by simp at e
  | _, _, 0, _, .cons r _, e => by simp at e; subst e; exact ⟨_, rfl, r⟩
  | _, _, i + 1, x, .cons _ t, e => by
    obtain ⟨u, h1, h2⟩ := Vals.get (i := i) (x := x) t (by simpa using e)
    exact ⟨u, by simpa using h1, h2⟩
theorem Vals.set {x : V} {u : Value} (r : RelV x u) : ∀ {xs : List V} {us : List Value} (i : Nat), Vals xs us → Vals (xs.set i x) (us.set i u)
  | _, _, _, .nil => .nil
  | _, _, 0, .cons _ t => .cons r t
  | _, _, i + 1, .cons q t => .cons q (Vals.set r i t)
theorem Vals.append : ∀ {xs ys : List V} {us ws : List Value}, Vals xs us → Vals ys ws → Vals (xs ++ ys) (us ++ ws)
  | _, _, _, _, .nil, s => s
  | _, _, _, _, .cons r t, s => .cons r (Vals.append t s)
theorem Vals.take : ∀ {xs : List V} {us : List Value} (n : Nat), Vals xs us → Vals (xs.take n) (us.take n)
  | _, _, 0, _ => .nil
  | _, _, _ + 1, .nil => .nil
  | _, _, n + 1, .cons r t => .cons r (Vals.take n t)
theorem Vals.drop : ∀ {xs : List V} {us : List Value} (n : Nat), Vals xs us → Vals (xs.drop n) (us.drop n)
  | _, _, 0, r => r
  | _, _, _ + 1, .nil => .nil
  | _, _, n + 1, .cons _ t => Vals.drop n t
noncomputable def RelO : Option V → Option Value → Prop
  | some v, some u => RelV v u
  | none, none => True
  | _, _ => False
noncomputable def KV {κ : Type} : List (κ × V) → List (κ × Value) → Prop := Paired fun (p : κ × V) (q : κ × Value) => p.1 = q.1 ∧ RelV p.2 q.2
noncomputable def kV : Key → V
  | .inl i => .int i
  | .inr x => .str x
inductive HO where
  | lst (xs : List V)
  | tup (xs : List V)
  | dK (kvs : List (Key × V)) | dT (kvs : List (List Key × V))
  | set (S : Int → Bool) (n : Nat)
  | ins (C dx : Addr) (fs : List (Str × V))
  | own (x : Addr)
  | xd (fs : List (Str × V))
  | met (f x : Addr)
  | rng (lo hi : Int)
  | frz (o : Obj) (u : HO)
  | tbl (ps : Array Value)
  | ext (φ : Heap → Prop)
noncomputable abbrev Hp := Addr → Option HO
noncomputable def upd (H : Hp) (a : Addr) (o : HO) : Hp := fun b => if b = a then some o else H b
theorem upd_same {H : Hp} {a : Addr} {o : HO} : upd H a o a = some o := by unfold upd; rw [if_pos rfl]
theorem upd_ne {H : Hp} {a b : Addr} {o : HO} (h : b ≠ a) : upd H a o b = H b := by unfold upd; rw [if_neg h]
theorem ne_of {H : Hp} {a b : Addr} {o u : HO} (h : H a = some o) (h' : H b = some u) (d : o ≠ u) : a ≠ b := by
  intro e; subst e; rw [h] at h'; exact d (Option.some.inj h')
theorem ne_of_none {H : Hp} {a b : Addr} {o : HO} (h : H a = some o) (h' : H b = none) : a ≠ b := by
  intro e; subst e; rw [h] at h'; cases h'
section
variable (P : Program) (w : World)
noncomputable def ObjOk (H : Hp) (h : Heap) (a : Addr) : HO → Prop
  | .lst xs => xs.length ≤ sizeLine ∧ ∃ (its : List Value) (n : Nat), Vals xs its ∧ h.get? a = some { cls := .type "list", data := .seq its.toArray n }
  | .tup xs => xs.length ≤ sizeLine ∧ ∃ its : List Value, Vals xs its ∧ IsTup h a its.toArray
  | .dK kvs => kvs.length ≤ sizeLine ∧ (a == sysModules) = false ∧ ∃ vs, KV kvs vs ∧ h.DictOf (mixKind P w) a vs
  | .dT kvs => kvs.length ≤ sizeLine ∧ (a == sysModules) = false ∧ ∃ xs : List (List Key × Addr × Value),
      Paired (fun (p : List Key × V) (q : List Key × Addr × Value) => p.1 = q.1 ∧ H q.2.1 = some (.tup (p.1.map kV)) ∧ RelV p.2 q.2.2) kvs xs ∧
      ∃ o es ep, h.get? a = some o ∧ o.ExactDict ∧ o.data = .dict es ep ∧ es.toList = xs.map (entryOfKey (tupleKind (mixKind P w))) ∧ (xs.map (·.1)).Nodup
  | .set S n => h.SetOf (intKind P w) a S n
  | .ins C dx fs => H dx = some (.own a) ∧ fs.length ≤ 1000 ∧ dx ≠ a ∧ h.get? a = some (PySem.W.instObj C dx) ∧
      ∃ mA, h.Ns1 dx mA ∧ (∀ f, RelO (fs.lookup f) (mA f)) ∧ PySem.Within mA (fs.map (·.1))
  | .own _ => ∃ o, h.get? a = some o
  | .xd fs => ∃ mA, h.Ns1 a mA ∧ ∀ f, RelO (fs.lookup f) (mA f)
  | .rng lo hi => ∃ t u v, h.get? a = some { cls := .type "range", data := .fields #[.int lo t, .int hi u, .int 1 v] }
  | .frz o u => h.get? a = some o ∧ ObjOk H h a u
  | .tbl ps => h.get? a = some { cls := .none, data := .fields ps }
  | .met f x => h.get? a = some (PySem.W.methodObj (.ref f) (.ref x))
  | .ext φ => φ h ∧ (∃ o, h.get? a = some o) ∧ ∀ h1 h2 : Heap, φ h1 → (∀ o, h1.get? a = some o → h2.get? a = some o) → φ h2
noncomputable def HOk (H : Hp) (h : Heap) : Prop := ∀ a o, H a = some o → ObjOk P w H h a o
end
section
variable {P : Program} {w : World} {H H' : Hp} {h h' : Heap} {a : Addr} {o : HO}
theorem ObjOk.lt (x : ObjOk P w H h a o) : a < h.objs.size := by
  cases o with
  | lst xs => obtain ⟨_, _, _, _, e⟩ := x; exact Heap.lt_size e
  | tup xs => obtain ⟨_, _, _, p⟩ := x; exact p.lt
  | dK kvs => obtain ⟨_, _, _, _, o, _, _, e, _⟩ := x; exact Heap.lt_size e
  | dT kvs => obtain ⟨_, _, _, _, o, _, _, e, _⟩ := x; exact Heap.lt_size e
  | set S n => obtain ⟨o, _, _, _, e, _⟩ := x; exact Heap.lt_size e
  | ins C dx fs => obtain ⟨_, _, _, e, _⟩ := x; exact Heap.lt_size e
  | own y => obtain ⟨_, e⟩ := x; exact Heap.lt_size e
  | xd fs => obtain ⟨_, ⟨_, _, _, e, _⟩, _⟩ := x; exact Heap.lt_size e
  | rng lo hi => obtain ⟨_, _, _, e⟩ := x; exact Heap.lt_size e
  | frz ob u => obtain ⟨e, _⟩ := x; exact Heap.lt_size e
  | tbl ps => exact Heap.lt_size (show h.get? a = some _ from x)
  | met f y => exact Heap.lt_size (show h.get? a = some _ from x)
  | ext φ => obtain ⟨_, ⟨_, e⟩, _⟩ := x; exact Heap.lt_size e
theorem Paired.mapP {α β : Type} {F G : α → β → Prop} : ∀ {l₁ : List α} {l₂ : List β}, Paired F l₁ l₂ → (∀ a b, F a b → G a b) → Paired G l₁ l₂
  | _, _, .nil, _ => .nil
  | _, _, .cons r t, f => .cons (f _ _ r) (Paired.mapP t f)
theorem ObjOk.stay (x : ObjOk P w H h a o) (k : ∀ b u, (b = a ∨ H b = some (.own a)) → h.get? b = some u → h'.get? b = some u)
    (ho : ∀ b, H b = some (.own a) → H' b = some (.own a)) (ht : ∀ b xs, H b = some (.tup xs) → H' b = some (.tup xs)) : ObjOk P w H' h' a o := by
  induction o with
  | lst xs => obtain ⟨z, its, n, r, e⟩ := x; exact ⟨z, its, n, r, k _ _ (.inl rfl) e⟩
  | tup xs => obtain ⟨z, its, r, ob, e, c⟩ := x; exact ⟨z, its, r, ob, k _ _ (.inl rfl) e, c⟩
  | dK kvs => obtain ⟨z, y, vs, r, ob, es, ep, e, c⟩ := x; exact ⟨z, y, vs, r, ob, es, ep, k _ _ (.inl rfl) e, c⟩
  | dT kvs =>
    obtain ⟨z, y, xs, r, ob, es, ep, e, c⟩ := x
    exact ⟨z, y, xs, Paired.mapP r fun p q z => ⟨z.1, ht _ _ z.2.1, z.2.2⟩, ob, es, ep, k _ _ (.inl rfl) e, c⟩
  | set S n => obtain ⟨ob, es, ep, t, e, c⟩ := x; exact ⟨ob, es, ep, t, k _ _ (.inl rfl) e, c⟩
  | ins C dx fs =>
    obtain ⟨d, z, ne, e, mA, ⟨od, es, ep, e2, c⟩, r⟩ := x
    exact ⟨ho _ d, z, ne, k _ _ (.inl rfl) e, mA, ⟨od, es, ep, k _ _ (.inr d) e2, c⟩, r⟩
  | own y => obtain ⟨ob, e⟩ := x; exact ⟨ob, k _ _ (.inl rfl) e⟩
  | xd fs => obtain ⟨mA, ⟨od, es, ep, e, c⟩, r⟩ := x; exact ⟨mA, ⟨od, es, ep, k _ _ (.inl rfl) e, c⟩, r⟩
  | rng lo hi => obtain ⟨t, u, v, e⟩ := x; exact ⟨t, u, v, k _ _ (.inl rfl) e⟩
  | frz ob u ih => obtain ⟨e, q⟩ := x; exact ⟨k _ _ (.inl rfl) e, ih q⟩
  | tbl ps =>
    have e : h.get? a = some { cls := .none, data := .fields ps } := x
    show h'.get? a = some { cls := .none, data := .fields ps }
    exact k a _ (.inl rfl) e
  | met f y =>
    have e : h.get? a = some (PySem.W.methodObj (.ref f) (.ref y)) := x
    show h'.get? a = some (PySem.W.methodObj (.ref f) (.ref y))
    exact k a _ (.inl rfl) e
  | ext φ => obtain ⟨p, ⟨o, e⟩, st⟩ := x; exact ⟨st _ _ p fun o q => k _ _ (.inl rfl) q, ⟨o, k _ _ (.inl rfl) e⟩, st⟩
theorem HOk.lt (x : HOk P w H h) (e : H a = some o) : a < h.objs.size := (x a o e).lt
theorem HOk.fresh (x : HOk P w H h) (e : h.objs.size ≤ a) : H a = none := by
  cases q : H a with
  | none => rfl
  | some u => exact absurd (Nat.lt_of_lt_of_le (x.lt q) e) (Nat.lt_irrefl _)
theorem HOk.kept (x : HOk P w H h) (k : ∀ b u, h.get? b = some u → h'.get? b = some u) : HOk P w H h' := fun a o e =>
  (x a o e).stay (fun b u _ q => k b u q) (fun _ q => q) fun _ _ q => q
theorem HOk.laid (x : HOk P w H h) (k : ∀ b u, h.get? b = some u → h'.get? b = some u) (hp : h.objs.size ≤ a) (new : ObjOk P w (upd H a o) h' a o) : HOk P w (upd H a o) h' := fun b u e => by
  have hn := x.fresh hp
  by_cases hb : b = a
  · subst hb; rw [upd_same] at e; cases e; exact new
  · rw [upd_ne hb] at e
    exact (x b u e).stay (fun c v _ q => k c v q) (fun c q => by rw [upd_ne (ne_of_none q hn)]; exact q) fun c xs q => by rw [upd_ne (ne_of_none q hn)]; exact q
end
noncomputable def Rd (H : Hp) (a : Addr) (u : HO) : Prop := H a = some u ∨ ∃ o, H a = some (.frz o u)
theorem Rd.of {H : Hp} {a : Addr} {u : HO} (h : H a = some u) : Rd H a u := .inl h
theorem Rd.ok {P : Program} {w : World} {H : Hp} {h : Heap} {a : Addr} {u : HO} (r : Rd H a u) (x : HOk P w H h) : ObjOk P w H h a u := by
  rcases r with r | ⟨o, r⟩
  · exact x a u r
  · obtain ⟨_, q⟩ := x a _ r
    exact q
noncomputable def Mut : Option HO → Prop
  | some (.lst _) => True
  | some (.dK _) => True
  | some (.dT _) => True
  | some (.set _ _) => True
  | some (.ins _ _ _) => True
  | some (.ext _) => True
  | _ => False
section
variable {P : Program} {w : World} {H : Hp} {h h' : Heap} {x e : Addr} {o' : HO}
theorem HOk.write (ok : HOk P w H h) (mu : Mut (H x)) (he : e = x ∨ H e = some (.own x)) (k : ∀ b u, b ≠ e → h.get? b = some u → h'.get? b = some u) (heo : ∃ u, h'.get? e = some u)
    (new : ObjOk P w (upd H x o') h' x o') : HOk P w (upd H x o') h' := fun b u q => by
  have nown : ∀ c y, H c = some (.own y) → c ≠ x := fun c y r z => by subst z; rw [r] at mu; exact mu
  have ntup : ∀ c xs, H c = some (.tup xs) → c ≠ x := fun c xs r z => by subst z; rw [r] at mu; exact mu
  by_cases hb : b = x
  · subst hb; rw [upd_same] at q; cases q; exact new
  · rw [upd_ne hb] at q
    by_cases hbe : b = e
    · have q' : H b = some (.own x) := by
        rcases he with z | z
        · exact absurd (hbe.trans z) hb
        · rw [hbe]; exact z
      rw [q] at q'; cases q'
      obtain ⟨v, hv⟩ := heo
      exact ⟨v, by rw [hbe]; exact hv⟩
    · refine (ok b u q).stay (fun c v hc r => k c v ?_ r) (fun c r => by rw [upd_ne (nown c b r)]; exact r) fun c xs r => by rw [upd_ne (ntup c xs r)]; exact r
      rcases hc with rfl | hc
      · exact hbe
      · rintro rfl
        rcases he with z | z
        · exact nown c b hc z
        · rw [hc] at z; cases z; exact hb rfl
end
structure Un (fs ex : List Addr) (H H' : Hp) (h h' : Heap) : Prop where
  keep : ∀ b o, h.get? b = some o → H b = none → b ∉ fs → b ∉ ex → h'.get? b = some o
  slot : ∀ b o, h.get? b = some o → H b = none → b ∈ fs → b ∉ ex → ∃ sl, h'.get? b = some { o with slots := sl }
  free : ∀ b o, h.get? b = some o → H b = none → b ∉ ex → H' b = none
  there : ∀ b o, h.get? b = some o → b ∉ ex → ∃ o', h'.get? b = some o'
  tups : ∀ b xs, H b = some (.tup xs) → H' b = some (.tup xs)
  frzs : ∀ b o u, H b = some (.frz o u) → H' b = some (.frz o u)
  tbls : ∀ b ps, H b = some (.tbl ps) → ∃ more, H' b = some (.tbl (ps ++ more))
section
variable {fs fs' ex ex' : List Addr} {H H1 H2 : Hp} {h h1 h2 h' : Heap} {a x e : Addr} {o : HO}
theorem Un.any (u : Un fs ex H H1 h h1) {b : Addr} {ob : Obj} (q : h.get? b = some ob) (n : H b = none) (hx : b ∉ ex) : ∃ sl, h1.get? b = some { ob with slots := sl } := by
  by_cases hb : b ∈ fs
  · exact u.slot b ob q n hb hx
  · exact ⟨ob.slots, u.keep b ob q n hb hx⟩
theorem Un.trans (a : Un fs ex H H1 h h1) (b : Un fs ex H1 H2 h1 h2) : Un fs ex H H2 h h2 where
  keep := fun c ob q n hc hx => b.keep c ob (a.keep c ob q n hc hx) (a.free c ob q n hx) hc hx
  slot := fun c ob q n hc hx => by
    obtain ⟨sl, e1⟩ := a.slot c ob q n hc hx
    obtain ⟨sl', e2⟩ := b.slot c _ e1 (a.free c ob q n hx) hc hx
    exact ⟨sl', e2⟩
  free := fun c ob q n hx => by
    obtain ⟨o', e1⟩ := a.there c ob q hx
    exact b.free c o' e1 (a.free c ob q n hx) hx
  there := fun c ob q hx => by
    obtain ⟨o', e1⟩ := a.there c ob q hx
    exact b.there c o' e1 hx
  tups := fun c xs q => b.tups c xs (a.tups c xs q)
  frzs := fun c ob xs q => b.frzs c ob xs (a.frzs c ob xs q)
  tbls := fun c ps q => by
    obtain ⟨m1, e1⟩ := a.tbls c ps q
    obtain ⟨m2, e2⟩ := b.tbls c _ e1
    exact ⟨m1 ++ m2, by rw [e2, Array.append_assoc]⟩
theorem Un.kept (k : ∀ b u, h.get? b = some u → h'.get? b = some u) : Un fs ex H H h h' :=
  ⟨fun b ob q _ _ _ => k b ob q, fun b ob q _ _ _ => ⟨ob.slots, k b ob q⟩, fun _ _ _ n _ => n, fun b ob q _ => ⟨ob, k b ob q⟩, fun _ _ q => q, fun _ _ _ q => q, fun _ ps q => ⟨#[], by rw [q]; simp⟩⟩
theorem Un.refl : Un fs ex H H h h := Un.kept fun _ _ q => q
theorem Un.laid (k : ∀ b u, h.get? b = some u → h'.get? b = some u) (hp : h.objs.size ≤ a) (hn : H a = none) : Un fs ex H (upd H a o) h h' where
  keep := fun b u q _ _ _ => k b u q
  slot := fun b u q _ _ _ => ⟨u.slots, k b u q⟩
  free := fun b u q n _ => by rw [upd_ne (Nat.ne_of_lt (Nat.lt_of_lt_of_le (Heap.lt_size q) hp))]; exact n
  there := fun b u q _ => ⟨u, k b u q⟩
  tups := fun b xs q => by rw [upd_ne (ne_of_none q hn)]; exact q
  frzs := fun b u xs q => by rw [upd_ne (ne_of_none q hn)]; exact q
  tbls := fun b ps q => ⟨#[], by rw [upd_ne (ne_of_none q hn), q]; simp⟩
theorem Un.write (mu : Mut (H x)) (he : e = x ∨ H e = some (.own x)) (k : ∀ b u, b ≠ e → h.get? b = some u → h'.get? b = some u) (heo : ∃ u, h'.get? e = some u) : Un fs ex H (upd H x o) h h' := by
  have hx : ∀ b, H b = none → b ≠ x := fun b n z => by subst z; rw [n] at mu; exact mu
  have hb : ∀ b, H b = none → b ≠ e := fun b n z => by
    subst z
    rcases he with r | r
    · exact hx b n r
    · rw [n] at r; cases r
  have hm : ∀ b u, H b = some u → ¬ Mut (some u) → b ≠ x := fun b u q nm z => by subst z; rw [q] at mu; exact nm mu
  refine ⟨fun b u q n _ _ => k b u (hb b n) q, fun b u q n _ _ => ⟨u.slots, k b u (hb b n) q⟩, fun b u q n _ => by rw [upd_ne (hx b n)]; exact n, fun b u q _ => ?_,
    fun b xs q => by rw [upd_ne (hm b _ q fun z => z)]; exact q, fun b u xs q => by rw [upd_ne (hm b _ q fun z => z)]; exact q, fun b ps q => ⟨#[], by rw [upd_ne (hm b _ q fun z => z), q]; simp⟩⟩
  by_cases hbe : b = e
  · subst hbe; exact heo
  · exact ⟨u, k b u hbe q⟩
theorem Un.mono (u : Un fs ex H H1 h h1) (hs : ∀ b ∈ fs, b ∈ fs') (hx : ∀ b ∈ ex, b ∈ ex') : Un fs' ex' H H1 h h1 :=
  ⟨fun b ob q n hb he => u.keep b ob q n (fun z => hb (hs b z)) fun z => he (hx b z), fun _ _ q n _ he => u.any q n fun z => he (hx _ z), fun b ob q n he => u.free b ob q n fun z => he (hx b z), fun b ob q he => u.there b ob q fun z => he (hx b z), u.tups, u.frzs, u.tbls⟩
end
noncomputable def trk (h : Heap) (H : Hp) : List Addr := (List.range h.objs.size).filter fun a => (H a).isSome
noncomputable def hidT (h : Heap) (H : Hp) : Heap := PySem.W.hideAll h (trk h H)
theorem hidT_size (h : Heap) (H : Hp) : (hidT h H).objs.size = h.objs.size := PySem.W.hideAll_size _ _
theorem hidT_get {h : Heap} {H : Hp} {b : Addr} {o : Obj} (e : h.get? b = some o) (n : H b = none) : (hidT h H).get? b = some o :=
  PySem.W.hideAll_get _ e fun hm => by
    have q : (H b).isSome = true := (List.mem_filter.mp hm).2
    rw [n] at q; simp at q
theorem of_hidT {h : Heap} {H : Hp} {b : Addr} {o : Obj} (e : (hidT h H).get? b = some o) : h.get? b = some o ∧ H b = none := by
  have e' : h.get? b = some o := PySem.W.of_hideAll (trk h H) e
  refine ⟨e', ?_⟩
  cases q : H b with
  | none => rfl
  | some x =>
    have hm : b ∈ trk h H := List.mem_filter.mpr ⟨List.mem_range.mpr (Heap.lt_size e'), by simp [q]⟩
    have z : (hidT h H).get? b = none := PySem.W.hideAll_none (trk h H) hm
    rw [z] at e; cases e
noncomputable def allNews (g h : Heap) (L : Addr) : List (Addr × Obj) := (List.range h.objs.size).filterMap fun a => if a = L ∨ (g.get? a).isSome = true then none else (h.get? a).map fun o => (a, o)
noncomputable def rest (g h : Heap) (L d : Addr) : List (Addr × Obj) := (allNews g h L).filter fun p => decide (p.1 ≠ d)
end L2
namespace L2
open PySem PySem.Spec PyProof.Rows
structure Mod (K : PySem.W.Frag) (mg : Str → Option Value) (base : Heap) : Prop where
  kin : K.In base
  glob : base.Ns mainGlobals mg
  blt : ∃ mb, base.Ns builtinsNs mb ∧ ∀ x : Str, x ≠ "__name__" → mb x = bootBuiltins x
  nolimit : base.NoLimit
structure Cx where
  prog : Program
  w : World
  K : PySem.W.Frag
  mg : Str → Option Value
  base : Heap
  A : Around
  N : List Str
  s₀ : Shared
  H₀ : Hp
  env : Env
  outer : List Env
  stack : List Env
  ex : List Addr
  fn : Str → Bool
  calm : Bool
  pn : List (Addr × Obj)
  xe : Value → Shared → Prop
noncomputable def frs (l : List Env) : List Addr := l.filterMap (·.frame)
noncomputable abbrev Cx.fs (X : Cx) : List Addr := frs X.outer
noncomputable def Vis (sc : Scope) (x : Str) : Prop := sc.names.lookup x = some .local ∨ sc.names.lookup x = some .cell ∨ sc.names.lookup x = some .free
noncomputable def Loc (sc : Scope) (x : Str) : Prop := sc.names.lookup x = some .local ∨ sc.names.lookup x = some .cell
noncomputable def Look (env : Env) (h : Heap) (m : Str → Option Value) (x : Str) (u : Value) : Prop :=
  (env.kindOf x = some .local ∧ m x = some u) ∨ ((env.kindOf x = some .cell ∨ env.kindOf x = some .free) ∧ ∃ c, env.cells.lookup x = some c ∧ h.IsCell c (some u))
structure Cx.Ok (X : Cx) : Prop where
  mod : Mod X.K X.mg X.base
  kind : X.env.scope.kind = .function
  glob : X.env.globals = mainGlobals
  blt : X.env.builtins = builtinsNs
  above : X.s₀.heap.objs.size ≤ X.env.locals
  inj : ∀ x y c, X.env.cells.lookup x = some c → X.env.cells.lookup y = some c → x = y
  has : ∀ x, (X.env.kindOf x = some .cell ∨ X.env.kindOf x = some .free) → ∃ c, X.env.cells.lookup x = some c
  cab : ∀ x c, X.fn x = true → X.env.cells.lookup x = some c → X.s₀.heap.objs.size ≤ c
  hd : X.calm = true → X.A.handled = none
  frames : X.A.frames = some X.stack
  stk : X.stack = X.outer ∨ (X.stack = X.env :: X.outer ∧ X.env.frame = some X.env.locals)
  exf : ∀ b ∈ X.ex, b ≠ X.env.locals ∧ ∀ x c, X.env.cells.lookup x = some c → c ≠ b
  bs : ∀ b o, X.base.get? b = some o → X.s₀.heap.get? b = some o ∧ X.H₀ b = none
  bsz : X.base.objs.size ≤ X.s₀.heap.objs.size
  noex : ∀ b o, X.base.get? b = some o → b ∉ X.ex
  exfs : ∀ b ∈ X.ex, b ∉ X.fs
  funs : X.s₀.heap.FunFrames X.base X.outer
  frf : ∀ b ∈ X.fs, X.H₀ b = none
structure Inv (X : Cx) (pins : List (Addr × Obj)) (σ : List (Option V)) (H : Hp) (s : Shared) : Prop where
  ok : X.Ok
  os : s.os = X.s₀.os
  bare : AllBare s.gens
  base : Un X.fs X.ex X.H₀ H X.s₀.heap s.heap
  loc : ∃ m, s.heap.Ns X.env.locals m ∧ ∀ (i : Nat) (x : Str) (v : V), X.N[i]? = some x → σ[i]? = some (some v) → Vis X.env.scope x → ∃ u, RelV v u ∧ Look X.env s.heap m x u
  cell : ∀ x c, X.env.cells.lookup x = some c → ∃ v, s.heap.IsCell c v
  free : H X.env.locals = none
  freeC : ∀ x c, X.env.cells.lookup x = some c → H c = none
  pin : ∀ p ∈ X.pn ++ pins, s.heap.get? p.1 = some p.2 ∧ H p.1 = none ∧ p.1 ≠ X.env.locals ∧ p.1 ∉ X.fs ∧ ∀ v, p.2.data ≠ .cell v
  hok : HOk X.prog X.w H s.heap
  len : σ.length = X.N.length
section
variable {X : Cx} {pins : List (Addr × Obj)} {σ : List (Option V)} {H H' : Hp} {s : Shared} {h' : Heap}
theorem Cx.Ok.nofr (ok : X.Ok) {b : Addr} {o : Obj} (e : X.base.get? b = some o) : b ∉ X.fs := fun hb => by
  have := (ok.funs.mem hb).1
  rw [e] at this; cases this
theorem Inv.bs (I : Inv X pins σ H s) : ∀ b o, X.base.get? b = some o → s.heap.get? b = some o ∧ H b = none := fun b o e =>
  ⟨I.base.keep b o (I.ok.bs b o e).1 (I.ok.bs b o e).2 (I.ok.nofr e) (I.ok.noex b o e), I.base.free b o (I.ok.bs b o e).1 (I.ok.bs b o e).2 (I.ok.noex b o e)⟩
theorem Inv.bk (I : Inv X pins σ H s) : ∀ b o, X.base.get? b = some o → s.heap.get? b = some o := fun b o e => (I.bs b o e).1
theorem Inv.mod (I : Inv X pins σ H s) : Mod X.K X.mg X.base := I.ok.mod
theorem Inv.kIn (I : Inv X pins σ H s) : X.K.In s.heap := I.ok.mod.kin.keeps I.bk
theorem Inv.nolimit (I : Inv X pins σ H s) : s.heap.NoLimit := I.ok.mod.nolimit.keeps I.bk
theorem Inv.fr (I : Inv X pins σ H s) : ∃ m, Fr X.base X.env.locals s.heap m :=
  let ⟨m, hn, _⟩ := I.loc
  ⟨m, hn, I.bk, Nat.le_trans I.ok.bsz I.ok.above⟩
theorem Inv.lt (I : Inv X pins σ H s) : X.env.locals < s.heap.objs.size := let ⟨_, hn, _⟩ := I.loc; hn.lt
theorem Inv.sz (I : Inv X pins σ H s) : X.s₀.heap.objs.size ≤ s.heap.objs.size := Nat.le_trans I.ok.above (Nat.le_of_lt I.lt)
theorem Inv.nofs (I : Inv X pins σ H s) {a : Addr} (h : s.heap.objs.size ≤ a) : a ∉ X.fs := fun hb => by
  obtain ⟨_, o, ho, _⟩ := I.ok.funs.mem hb
  exact absurd (Nat.lt_of_lt_of_le (Heap.lt_size ho) (Nat.le_trans I.sz h)) (Nat.lt_irrefl _)
theorem Inv.cne (I : Inv X pins σ H s) : ∀ x c, X.env.cells.lookup x = some c → c ≠ X.env.locals := fun x c e z => by
  obtain ⟨v, o, ho, hd⟩ := I.cell x c e
  obtain ⟨m, ⟨o', es, ep, ho', hd', _⟩, _⟩ := I.loc
  rw [z, ho'] at ho; cases ho; rw [hd'] at hd; cases hd
theorem Inv.funs (I : Inv X pins σ H s) : s.heap.FunFrames X.base X.outer := by
  have all : ∀ (l : List Env), (∀ b ∈ frs l, b ∈ X.fs) → X.s₀.heap.FunFrames X.base l → s.heap.FunFrames X.base l := by
    intro l
    induction l with
    | nil => intro _ _; trivial
    | cons env r ih =>
      intro hs hl
      obtain ⟨hk, ⟨L, o, hf, hn, ho, hd⟩, hr⟩ := hl
      have hL : L ∈ X.fs := hs L (by unfold frs; rw [List.filterMap_cons, hf]; exact List.mem_cons_self)
      obtain ⟨sl, e⟩ := I.base.slot L o ho (I.ok.frf L hL) hL fun z => I.ok.exfs L z hL
      exact ⟨hk, ⟨L, _, hf, hn, e, hd⟩, ih (fun b hb => hs b (by unfold frs; rw [List.filterMap_cons, hf]; exact List.mem_cons_of_mem _ hb)) hr⟩
  exact all X.outer (fun _ hb => hb) I.ok.funs
theorem Inv.stack (I : Inv X pins σ H s) : s.heap.FunFrames X.base X.stack := by
  rcases I.ok.stk with e | ⟨e, hf⟩
  · rw [e]; exact I.funs
  · rw [e]
    obtain ⟨m, hn, _⟩ := I.loc
    refine .cons (by rw [I.ok.kind]; decide) hf hn ?_ I.funs
    exact Heap.get?_none_of_le (Nat.le_trans I.ok.bsz I.ok.above)
theorem Inv.stkSub (I : Inv X pins σ H s) : ∀ b ∈ frs X.stack, b ∈ X.env.locals :: X.fs := fun b hb => by
  rcases I.ok.stk with e | ⟨e, hf⟩
  · rw [e] at hb; exact List.mem_cons_of_mem _ hb
  · rw [e] at hb
    unfold frs at hb
    rw [List.filterMap_cons, hf] at hb
    exact hb
theorem Inv.stkFree (I : Inv X pins σ H s) : ∀ b ∈ frs X.stack, H b = none := fun b hb => by
  rcases List.mem_cons.mp (I.stkSub b hb) with e | hb
  · rw [e]; exact I.free
  · obtain ⟨_, o, ho, _⟩ := I.ok.funs.mem hb
    exact I.base.free b o ho (I.ok.frf b hb) fun z => I.ok.exfs b z hb
theorem Inv.step {g' : Array GenState} {t' : Nat} {d' : Drawn} {ch : List Addr} (I : Inv X pins σ H s)
    (hch : ∀ b ∈ ch, (b ∈ X.ex ∨ X.s₀.heap.objs.size ≤ b) ∧ b ≠ X.env.locals ∧ (∀ x c, X.env.cells.lookup x = some c → c ≠ b) ∧ ∀ p ∈ X.pn ++ pins, p.1 ≠ b)
    (keep : ∀ b o, b ≠ X.env.locals → b ∉ X.fs → b ∉ ch → s.heap.get? b = some o → H b = none → h'.get? b = some o)
    (slot : ∀ b o, b ≠ X.env.locals → b ∈ X.fs → b ∉ ch → s.heap.get? b = some o → H b = none → ∃ sl, h'.get? b = some { o with slots := sl }) (free : ∀ b o, b ∉ ch → s.heap.get? b = some o → H b = none → H' b = none)
    (there : ∀ b o, b ∉ ch → s.heap.get? b = some o → ∃ o', h'.get? b = some o')
    (tups : ∀ b xs, H b = some (.tup xs) → H' b = some (.tup xs)) (frzs : ∀ b o u, H b = some (.frz o u) → H' b = some (.frz o u)) (tbls : ∀ b ps, H b = some (.tbl ps) → ∃ more, H' b = some (.tbl (ps ++ more)))
    (ns : ∀ m, s.heap.Ns X.env.locals m → h'.Ns X.env.locals m) (hok : HOk X.prog X.w H' h') (hg : AllBare g') :
    Inv X pins σ H' { s with heap := h', gens := g', drawn := d', toks := t' } := by
  have neL : ∀ b o, X.s₀.heap.get? b = some o → b ≠ X.env.locals := fun b o e => Nat.ne_of_lt (Nat.lt_of_lt_of_le (Heap.lt_size e) I.ok.above)
  have neC : ∀ b o, X.s₀.heap.get? b = some o → b ∉ X.ex → b ∉ ch := fun b o e hx hb => by
    rcases (hch b hb).1 with z | z
    · exact hx z
    · exact absurd (Nat.lt_of_lt_of_le (Heap.lt_size e) z) (Nat.lt_irrefl _)
  have cellK : ∀ x c, X.env.cells.lookup x = some c → ∀ v, s.heap.IsCell c v → h'.IsCell c v := fun x c e v ⟨o, ho, hd⟩ => by
    have nch : c ∉ ch := fun z => (hch c z).2.2.1 x c e rfl
    by_cases hc : c ∈ X.fs
    · obtain ⟨sl, q⟩ := slot c o (I.cne x c e) hc nch ho (I.freeC x c e)
      exact ⟨_, q, hd⟩
    · exact ⟨o, keep c o (I.cne x c e) hc nch ho (I.freeC x c e), hd⟩
  refine ⟨I.ok, I.os, hg, ⟨fun b o e n hb hx => ?_, fun b o e n hb hx => ?_, fun b o e n hx => ?_, fun b o e hx => ?_, fun b xs e => tups b xs (I.base.tups b xs e), fun b o xs e => frzs b o xs (I.base.frzs b o xs e), fun b ps e => ?_⟩, ?_, fun x c e => ?_, ?_, fun x c e => ?_, fun p hp => ?_, hok, I.len⟩
  · exact keep b o (neL b o e) hb (neC b o e hx) (I.base.keep b o e n hb hx) (I.base.free b o e n hx)
  · obtain ⟨sl, e1⟩ := I.base.slot b o e n hb hx
    obtain ⟨sl', e2⟩ := slot b _ (neL b o e) hb (neC b o e hx) e1 (I.base.free b o e n hx)
    exact ⟨sl', e2⟩
  · obtain ⟨o', e1⟩ := I.base.there b o e hx
    exact free b o' (neC b o e hx) e1 (I.base.free b o e n hx)
  · obtain ⟨o', e1⟩ := I.base.there b o e hx
    exact there b o' (neC b o e hx) e1
  · obtain ⟨m1, e1⟩ := I.base.tbls b ps e
    obtain ⟨m2, e2⟩ := tbls b _ e1
    exact ⟨m1 ++ m2, by rw [e2, Array.append_assoc]⟩
  · obtain ⟨m, hn, hl⟩ := I.loc
    refine ⟨m, ns m hn, fun i x v e1 e2 e3 => ?_⟩
    obtain ⟨u, r, l⟩ := hl i x v e1 e2 e3
    refine ⟨u, r, ?_⟩
    rcases l with l | ⟨k, c, e, z⟩
    · exact .inl l
    · exact .inr ⟨k, c, e, cellK x c e _ z⟩
  · obtain ⟨v, z⟩ := I.cell x c e
    exact ⟨v, cellK x c e v z⟩
  · obtain ⟨m, ⟨o, _, _, ho, _⟩, _⟩ := I.loc
    exact free _ o (fun z => (hch _ z).2.1 rfl) ho I.free
  · obtain ⟨v, o, ho, hd⟩ := I.cell x c e
    exact free c o (fun z => (hch c z).2.2.1 x c e rfl) ho (I.freeC x c e)
  · obtain ⟨e, n, ne, nf, d⟩ := I.pin p hp
    have nch : p.1 ∉ ch := fun z => (hch p.1 z).2.2.2 p hp rfl
    exact ⟨keep p.1 p.2 ne nf nch e n, free p.1 p.2 nch e n, ne, nf, d⟩
theorem Inv.un {t' : Nat} (I : Inv X pins σ H s) (u : Un X.fs [] H H' s.heap h') (hok : HOk X.prog X.w H' h') : Inv X pins σ H' { s with heap := h', toks := t' } := by
  obtain ⟨m, ⟨o, es, ep, ho, r⟩, _⟩ := id I.loc
  obtain ⟨sl, hL⟩ := u.any ho I.free (by simp)
  exact I.step (g' := s.gens) (d' := s.drawn) (ch := []) (fun _ z => nomatch z) (fun b o _ hb _ e n => u.keep b o e n hb (by simp)) (fun b o _ hb _ e n => u.slot b o e n hb (by simp)) (fun b o _ e n => u.free b o e n (by simp)) (fun b o _ e => u.there b o e (by simp)) u.tups u.frzs u.tbls (fun m' hm => by
    obtain ⟨o', es', ep', ho', r'⟩ := hm
    rw [ho] at ho'; cases ho'
    exact ⟨_, es', ep', hL, r'⟩) hok I.bare
theorem Inv.call {g' : Array GenState} {t' : Nat} {d' : Drawn} {ch : List Addr} (I : Inv X pins σ H s) (u : Un (frs X.stack) ch H H' s.heap h') (hok : HOk X.prog X.w H' h') (hg : AllBare g')
    (hch : ∀ b ∈ ch, (b ∈ X.ex ∨ X.s₀.heap.objs.size ≤ b) ∧ b ≠ X.env.locals ∧ (∀ x c, X.env.cells.lookup x = some c → c ≠ b) ∧ ∀ p ∈ X.pn ++ pins, p.1 ≠ b) :
    Inv X pins σ H' { s with heap := h', gens := g', drawn := d', toks := t' } := by
  obtain ⟨m, ⟨o, es, ep, ho, r⟩, _⟩ := id I.loc
  obtain ⟨sl, hL⟩ := u.any ho I.free fun z => (hch _ z).2.1 rfl
  exact I.step (ch := ch) hch (fun b o hL hb hc e n => u.keep b o e n (fun z => (List.mem_cons.mp (I.stkSub b z)).elim hL hb) hc) (fun b o _ _ hc e n => u.any e n hc) (fun b o hc e n => u.free b o e n hc) (fun b o hc e => u.there b o e hc) u.tups u.frzs u.tbls (fun m' hm => by
    obtain ⟨o', es', ep', ho', r'⟩ := hm
    rw [ho] at ho'; cases ho'
    exact ⟨_, es', ep', hL, r'⟩) hok hg
theorem Inv.turned {t' : Nat} {it : Addr} (I : Inv X pins σ H s) (k : ∀ b o, b ≠ it → s.heap.get? b = some o → h'.get? b = some o) (hn : H it = none) (hL : it ≠ X.env.locals)
    (h1 : it ∈ X.ex ∨ X.s₀.heap.objs.size ≤ it) (h2 : ∀ x c, X.env.cells.lookup x = some c → c ≠ it) (h3 : ∀ p ∈ X.pn ++ pins, p.1 ≠ it) : Inv X pins σ H { s with heap := h', toks := t' } := by
  have nit : ∀ b u, H b = some u → b ≠ it := fun b u e z => by rw [z, hn] at e; cases e
  refine I.step (g' := s.gens) (d' := s.drawn) (ch := [it]) (fun b hb => ?_) (fun b o _ _ hc e _ => k b o (fun z => hc (by simp [z])) e) (fun b o _ _ hc e _ => ⟨o.slots, k b o (fun z => hc (by simp [z])) e⟩) (fun _ _ _ _ n => n)
    (fun b o hc e => ⟨o, k b o (fun z => hc (by simp [z])) e⟩) (fun _ _ e => e) (fun _ _ _ e => e) (fun b ps e => ⟨#[], by rw [e]; simp⟩) (fun m hm => ?_) (fun b u e => ?_) I.bare
  · have e : b = it := by simpa using hb
    subst e
    exact ⟨h1, hL, h2, h3⟩
  · obtain ⟨o, es, ep, ho, r⟩ := hm
    exact ⟨o, es, ep, k _ o (Ne.symm hL) ho, r⟩
  · refine (I.hok b u e).stay (fun c v hc q => k c v ?_ q) (fun _ q => q) fun _ _ q => q
    rcases hc with z | z
    · rw [z]; exact nit b u e
    · exact nit c _ z
theorem Inv.tok (I : Inv X pins σ H s) (t : Nat) : Inv X pins σ H { s with toks := t } := I.un (h' := s.heap) (t' := t) Un.refl I.hok
theorem Inv.kept {t' : Nat} (I : Inv X pins σ H s) (k : ∀ b u, s.heap.get? b = some u → h'.get? b = some u) : Inv X pins σ H { s with heap := h', toks := t' } := I.un (Un.kept k) (I.hok.kept k)
theorem Inv.laid {a : Addr} {o : HO} {t' : Nat} (I : Inv X pins σ H s) (k : ∀ b u, s.heap.get? b = some u → h'.get? b = some u) (hp : s.heap.objs.size ≤ a) (new : ObjOk X.prog X.w (upd H a o) h' a o) :
    Inv X pins σ (upd H a o) { s with heap := h', toks := t' } := I.un (Un.laid k hp (I.hok.fresh hp)) (I.hok.laid k hp new)
theorem Inv.write {x e : Addr} {o : HO} {t' : Nat} (I : Inv X pins σ H s) (mu : Mut (H x)) (he : e = x ∨ H e = some (.own x)) (k : ∀ b u, b ≠ e → s.heap.get? b = some u → h'.get? b = some u) (heo : ∃ u, h'.get? e = some u)
    (new : ObjOk X.prog X.w (upd H x o) h' x o) : Inv X pins σ (upd H x o) { s with heap := h', toks := t' } := I.un (Un.write mu he k heo) (I.hok.write mu he k heo new)
theorem Inv.pins_of {pins' : List (Addr × Obj)} (I : Inv X pins σ H s) (h : ∀ p ∈ pins', s.heap.get? p.1 = some p.2 ∧ H p.1 = none ∧ p.1 ≠ X.env.locals ∧ p.1 ∉ X.fs ∧ ∀ v, p.2.data ≠ .cell v) : Inv X pins' σ H s :=
  ⟨I.ok, I.os, I.bare, I.base, I.loc, I.cell, I.free, I.freeC, fun p hp => (List.mem_append.mp hp).elim (fun z => I.pin p (List.mem_append_left _ z)) (h p), I.hok, I.len⟩
theorem nodup_ix {N : List Str} (hN : N.Nodup) {i j : Nat} {x : Str} (a : N[i]? = some x) (b : N[j]? = some x) : i = j := by
  obtain ⟨h1, e1⟩ := List.getElem?_eq_some_iff.mp a
  obtain ⟨h2, e2⟩ := List.getElem?_eq_some_iff.mp b
  exact (List.getElem_inj hN).mp (e1.trans e2.symm)
theorem store_ok2 {M : Model} {A : Around} {E : Value → Shared → Prop} {i : Nat} {x : Str} {v : V} {u : Value} {Q : Unit → Shared → Prop} (I : Inv X pins σ H s) (hN : X.N.Nodup) (hi : X.N[i]? = some x) (hx : Loc X.env.scope x) (r : RelV v u)
    (h : ∀ s', Inv X pins (σ.set i (some v)) H s' → (∃ a, Heap.SameBut a s.heap s'.heap ∧ (a = X.env.locals ∨ X.env.cells.lookup x = some a)) → Q () s') (hf : X.fn x = true ∨ X.env.scope.names.lookup x = some .local := by first | exact .inl rfl | exact .inr rfl | assumption) : wpAny M A (storeName X.env x u) Q E s := by
  obtain ⟨m, hn, hl⟩ := id I.loc
  have hcls : (X.env.scope.kind == .class || (X.env.scope.kind == .module && X.env.locals != X.env.globals)) = false := by rw [I.ok.kind]; rfl
  have hiσ : i < σ.length := by rw [I.len]; exact (List.getElem?_eq_some_iff.mp hi).1
  have cne := I.cne
  have tracked : ∀ {a : Addr} {h' : Heap}, (∃ o, s.heap.get? a = some o ∧ H a = none) → Heap.SameBut a s.heap h' → HOk X.prog X.w H h' := fun {a h'} ha hs b ob e => by
    obtain ⟨_, _, hfree⟩ := ha
    refine (I.hok b ob e).stay (fun c w' hc q => (hs.2 c ?_).trans q) (fun _ q => q) fun _ _ q => q
    rintro rfl
    rcases hc with rfl | hc
    · rw [hfree] at e; cases e
    · rw [hfree] at hc; cases hc
  rcases hx with hk | hk
  · refine wpAny_storeName_local hk hn (fun h' hn' hs => ?_) hcls
    obtain ⟨oL, _, _, hoL, _⟩ := id hn
    refine h _ ⟨I.ok, I.os, I.bare, ⟨fun b o e n hb hx => ?_, fun b o e n hb hx => ?_, I.base.free, fun b o e hx => ?_, I.base.tups, I.base.frzs, I.base.tbls⟩, ⟨_, hn', fun j y v' e1 e2 e3 => ?_⟩, fun y c e => ?_, I.free, I.freeC, fun p hp => ?_, tracked ⟨oL, hoL, I.free⟩ hs, by simpa using I.len⟩ ⟨_, hs, .inl rfl⟩
    · exact (hs.2 b (Nat.ne_of_lt (Nat.lt_of_lt_of_le (Heap.lt_size e) I.ok.above))).trans (I.base.keep b o e n hb hx)
    · obtain ⟨sl, e1⟩ := I.base.slot b o e n hb hx
      exact ⟨sl, (hs.2 b (Nat.ne_of_lt (Nat.lt_of_lt_of_le (Heap.lt_size e) I.ok.above))).trans e1⟩
    · obtain ⟨o', e1⟩ := I.base.there b o e hx
      exact ⟨o', (hs.2 b (Nat.ne_of_lt (Nat.lt_of_lt_of_le (Heap.lt_size e) I.ok.above))).trans e1⟩
    · by_cases hj : j = i
      · subst hj
        rw [hi] at e1; cases e1
        rw [List.getElem?_set_self hiσ] at e2
        cases e2
        exact ⟨u, r, .inl ⟨hk, by simp⟩⟩
      · rw [List.getElem?_set_ne (Ne.symm hj)] at e2
        obtain ⟨u', r', q⟩ := hl j y v' e1 e2 e3
        refine ⟨u', r', ?_⟩
        rcases q with ⟨k, e⟩ | ⟨k, c, e, z⟩
        · refine .inl ⟨k, ?_⟩
          have : y ≠ x := fun e => hj (nodup_ix hN e1 (e ▸ hi))
          simp [this, e]
        · exact .inr ⟨k, c, e, z.sameBut hs (cne y c e)⟩
    · obtain ⟨w', z⟩ := I.cell y c e
      exact ⟨w', z.sameBut hs (cne y c e)⟩
    · obtain ⟨e, n, ne, nf, d⟩ := I.pin p hp
      exact ⟨(hs.2 p.1 ne).trans e, n, ne, nf, d⟩
  · have hfn : X.fn x = true := by
      rcases hf with z | z
      · exact z
      · rw [z] at hk; cases hk
    obtain ⟨c, hc⟩ := I.ok.has x (.inl hk)
    obtain ⟨w', z⟩ := I.cell x c hc
    refine wpAny_storeName_cell I.ok.kind hk hc z (fun h' hc' hs => ?_)
    obtain ⟨oc, hoc, hocd⟩ := id z
    refine h { s with heap := h' } ⟨I.ok, I.os, I.bare, ⟨fun b o e n hb hx => ?_, fun b o e n hb hx => ?_, I.base.free, fun b o e hx => ?_, I.base.tups, I.base.frzs, I.base.tbls⟩, ⟨m, hn.sameBut hs (Ne.symm (cne x c hc)), fun j y v' e1 e2 e3 => ?_⟩, fun y c' e => ?_, I.free, I.freeC, fun p hp => ?_, tracked ⟨oc, hoc, I.freeC x c hc⟩ hs, by simpa using I.len⟩ ⟨c, hs, .inr hc⟩
    · exact (hs.2 b (Nat.ne_of_lt (Nat.lt_of_lt_of_le (Heap.lt_size e) (I.ok.cab x c hfn hc)))).trans (I.base.keep b o e n hb hx)
    · obtain ⟨sl, e1⟩ := I.base.slot b o e n hb hx
      exact ⟨sl, (hs.2 b (Nat.ne_of_lt (Nat.lt_of_lt_of_le (Heap.lt_size e) (I.ok.cab x c hfn hc)))).trans e1⟩
    · obtain ⟨o', e1⟩ := I.base.there b o e hx
      exact ⟨o', (hs.2 b (Nat.ne_of_lt (Nat.lt_of_lt_of_le (Heap.lt_size e) (I.ok.cab x c hfn hc)))).trans e1⟩
    · by_cases hj : j = i
      · subst hj
        rw [hi] at e1; cases e1
        rw [List.getElem?_set_self hiσ] at e2
        cases e2
        exact ⟨u, r, .inr ⟨.inl hk, c, hc, hc'⟩⟩
      · rw [List.getElem?_set_ne (Ne.symm hj)] at e2
        obtain ⟨u', r', q⟩ := hl j y v' e1 e2 e3
        refine ⟨u', r', ?_⟩
        rcases q with q | ⟨k, c', e, z'⟩
        · exact .inl q
        · refine .inr ⟨k, c', e, z'.sameBut hs ?_⟩
          rintro rfl
          exact hj (nodup_ix hN e1 (I.ok.inj _ _ _ e hc ▸ hi))
    · by_cases hcc : c' = c
      · subst hcc; exact ⟨_, hc'⟩
      · obtain ⟨w2, z2⟩ := I.cell y c' e
        exact ⟨w2, z2.sameBut hs hcc⟩
    · obtain ⟨e, n, ne, nf, d⟩ := I.pin p hp
      refine ⟨(hs.2 p.1 ?_).trans e, n, ne, nf, d⟩
      intro q
      rw [q, hoc] at e
      have q' : oc = p.2 := Option.some.inj e
      exact d w' (by rw [← q']; exact hocd)
theorem store_ok {M : Model} {A : Around} {E : Value → Shared → Prop} {i : Nat} {x : Str} {v : V} {u : Value} {Q : Unit → Shared → Prop} (I : Inv X pins σ H s) (hN : X.N.Nodup) (hi : X.N[i]? = some x) (hx : Loc X.env.scope x) (r : RelV v u)
    (h : ∀ s', Inv X pins (σ.set i (some v)) H s' → Q () s') (hf : X.fn x = true ∨ X.env.scope.names.lookup x = some .local := by first | exact .inl rfl | exact .inr rfl | assumption) : wpAny M A (storeName X.env x u) Q E s :=
  store_ok2 I hN hi hx r (fun s' I' _ => h s' I') hf
theorem Inv.call' {s' : Shared} {ch : List Addr} (I : Inv X pins σ H s) (ho : s'.os = s.os) (u : Un (frs X.stack) ch H H' s.heap s'.heap) (hok : HOk X.prog X.w H' s'.heap) (hg : AllBare s'.gens)
    (hch : ∀ b ∈ ch, (b ∈ X.ex ∨ X.s₀.heap.objs.size ≤ b) ∧ b ≠ X.env.locals ∧ (∀ x c, X.env.cells.lookup x = some c → c ≠ b) ∧ ∀ p ∈ X.pn ++ pins, p.1 ≠ b) : Inv X pins σ H' s' := by
  obtain ⟨h', g', d', t', o'⟩ := s'
  have e : o' = s.os := ho
  subst e
  exact I.call (g' := g') (t' := t') (d' := d') u hok hg hch
end
noncomputable abbrev XK := Value → Option Addr → Hp → Prop
noncomputable abbrev St := List (Option V)
noncomputable abbrev VK := V → Hp → Prop
noncomputable abbrev TE := St → Hp → VK → Prop
noncomputable abbrev TT := St → Hp → (Bool → Hp → Prop) → Prop
noncomputable abbrev TA := St → Hp → (List V → Hp → Prop) → Prop
structure Ends where
  nx : St → Hp → Prop
  rt : VK
  bk : St → Hp → Prop := fun _ _ => False
  ct : St → Hp → Prop := fun _ _ => False
noncomputable abbrev TS := Ends → St → Hp → Prop
noncomputable def EP (X : Cx) (pins : List (Addr × Obj)) (σ : St) (Q : VK) (u : Value) (s' : Shared) : Prop := ∃ v H', Inv X pins σ H' s' ∧ RelV v u ∧ Q v H'
noncomputable def TP (X : Cx) (pins : List (Addr × Obj)) (σ : St) (Q : Bool → Hp → Prop) (b : Bool) (s' : Shared) : Prop := ∃ H', Inv X pins σ H' s' ∧ Q b H'
noncomputable def AP (X : Cx) (pins : List (Addr × Obj)) (σ : St) (Q : List V → Hp → Prop) (us : List Value) (s' : Shared) : Prop := ∃ vs H', Inv X pins σ H' s' ∧ Vals vs us ∧ Q vs H'
noncomputable def SP (X : Cx) (pins : List (Addr × Obj)) (D : Ends) (f : Flow) (s' : Shared) : Prop :=
  match f with
  | .next => ∃ σ' H', Inv X pins σ' H' s' ∧ D.nx σ' H'
  | .brk => ∃ σ' H', Inv X pins σ' H' s' ∧ D.bk σ' H'
  | .cont => ∃ σ' H', Inv X pins σ' H' s' ∧ D.ct σ' H'
  | .ret u => ∃ v σ' H', Inv X pins σ' H' s' ∧ RelV v u ∧ D.rt v H'
noncomputable def PE (X : Cx) (e : Expr) (t : TE) : Prop :=
  ∀ (pins : List (Addr × Obj)) (s : Shared) (σ : St) (H : Hp) (Q : VK), Inv X pins σ H s → t σ H Q → wpAny (model X.prog X.w) X.A (eval e X.env) (EP X pins σ Q) X.xe s
noncomputable def PT (X : Cx) (e : Expr) (t : TT) : Prop :=
  ∀ (pins : List (Addr × Obj)) (s : Shared) (σ : St) (H : Hp) (Q : Bool → Hp → Prop), Inv X pins σ H s → t σ H Q → wpAny (model X.prog X.w) X.A (isTrue e X.env (eval e X.env)) (TP X pins σ Q) X.xe s
noncomputable def PW (X : Cx) (e : Expr) (t : TT) : Prop :=
  ∀ (whole : Sem Value) (pins : List (Addr × Obj)) (s : Shared) (σ : St) (H : Hp) (Q : Bool → Hp → Prop), Inv X pins σ H s → t σ H Q → wpAny (model X.prog X.w) X.A (isTrue e X.env whole) (TP X pins σ Q) X.xe s
theorem PW.pt {X : Cx} {e : Expr} {t : TT} (h : PW X e t) : PT X e t := h _
noncomputable def PA (X : Cx) (es : List Expr) (t : TA) : Prop :=
  ∀ (pos : Pos) (pins : List (Addr × Obj)) (s : Shared) (σ : St) (H : Hp) (Q : List V → Hp → Prop), Inv X pins σ H s → t σ H Q → wpAny (model X.prog X.w) X.A (spliced (backTo pos (starEach es X.env))) (AP X pins σ Q) X.xe s
noncomputable def PS (X : Cx) (st : Stmt) (t : TS) : Prop :=
  ∀ (pins : List (Addr × Obj)) (s : Shared) (σ : St) (H : Hp) (D : Ends), Inv X pins σ H s → t D σ H → wpAny (model X.prog X.w) X.A (exec st X.env) (SP X pins D) X.xe s
noncomputable def PSs (X : Cx) (st : List Stmt) (t : TS) : Prop :=
  ∀ (pins : List (Addr × Obj)) (s : Shared) (σ : St) (H : Hp) (D : Ends), Inv X pins σ H s → t D σ H → wpAny (model X.prog X.w) X.A (execs st X.env) (SP X pins D) X.xe s
theorem thn {α : Type} {t : Sem α} {Q Q' : α → Shared → Prop} {M : Model} {A : Around} {E : Value → Shared → Prop} {s : Shared} (h : wpAny M A t Q E s) (hQ : ∀ a s, Q a s → Q' a s) : wpAny M A t Q' E s := wpAny_mono h hQ fun _ _ x => x
end L2
namespace L2
open PySem PySem.Spec PyProof.Rows
section
variable {X : Cx}
noncomputable def tVar (i : Nat) : TE := fun σ H Q => ∃ v, σ[i]? = some (some v) ∧ Q v H
noncomputable def tC (v : V) : TE := fun _ H Q => Q v H
theorem pe_var {i : Nat} {x : Str} {pos : Pos} (hN : X.N[i]? = some x) (hv : Vis X.env.scope x) (hd : (x == ("__debug__" : Str)) = false := by decide) (hcd : (x == ("__classdict__" : Str)) = false := by decide) : PE X (.Name x pos) (tVar i) := by
  intro pins s σ H Q I h
  obtain ⟨v, e, h⟩ := h
  obtain ⟨m, hn, hl⟩ := I.loc
  obtain ⟨u, r, l⟩ := hl i x v hN e hv
  have fin : EP X pins σ Q u s := ⟨v, H, I, r, h⟩
  rcases l with ⟨hk, hm⟩ | ⟨hk, c, hc, hcell⟩
  · exact wpAny_Name (wpAny_loadName_local I.ok.kind hk hn hm fin) hd
  · rcases hk with hk | hk
    · exact wpAny_Name (wpAny_loadName_cell I.ok.kind hk hc hcell fin) hd
    · exact wpAny_Name (wpAny_loadName_free I.ok.kind hk hc hcell fin hcd) hd
theorem pe_int {i j pos} : PE X (.Constant (.int i) j pos) (tC (.int i)) := fun _ _ _ H _ I h => wpAny_Constant_int ⟨.int i, H, I.tok _, ⟨_, rfl⟩, h⟩
theorem pe_bl {b j pos} : PE X (.Constant (.bool b) j pos) (tC (.bl b)) := fun _ _ _ H _ I h => Constant_bool ⟨.bl b, H, I, rfl, h⟩
theorem pe_str {x j pos} : PE X (.Constant (.str x) j pos) (tC (.str x)) := fun _ _ _ H _ I h => Calls.Constant_str ⟨.str x, H, I.tok _, ⟨_, rfl⟩, h⟩
noncomputable def Gl (X : Cx) (x : Str) : Prop := X.env.kindOf x = some .globalImplicit
theorem ld_glob {E : Value → Shared → Prop} {pins : List (Addr × Obj)} {s : Shared} {σ : St} {H : Hp} {x : Str} {u : Value} {pos : Pos} {Q : Value → Shared → Prop} (I : Inv X pins σ H s) (hg : Gl X x) (hm : X.mg x = some u) (h : Q u s)
    (hd : (x == ("__debug__" : Str)) = false := by decide) : wpAny (model X.prog X.w) X.A (eval (.Name x pos) X.env) Q E s :=
  Calls.Name_function_global I.ok.kind hg (Calls.loadGlobal_global (by rw [I.ok.glob]; exact I.mod.glob.keeps I.bk) hm h) hd
theorem ld_blt {E : Value → Shared → Prop} {pins : List (Addr × Obj)} {s : Shared} {σ : St} {H : Hp} {x : Str} {u : Value} {pos : Pos} {Q : Value → Shared → Prop} (I : Inv X pins σ H s) (hg : Gl X x) (hm : X.mg x = none) (hv : bootBuiltins x = some u) (h : Q u s)
    (hn : x ≠ "__name__" := by decide) (hd : (x == ("__debug__" : Str)) = false := by decide) : wpAny (model X.prog X.w) X.A (eval (.Name x pos) X.env) Q E s := by
  obtain ⟨mb, h1, h2⟩ := I.mod.blt
  exact Calls.Name_function_global I.ok.kind hg (Calls.loadGlobal_builtin (by rw [I.ok.glob]; exact I.mod.glob.keeps I.bk) hm (by rw [I.ok.blt]; exact h1.keeps I.bk) ((h2 x hn).trans hv) h) hd
theorem pe_glob {x : Str} {v : V} {u : Value} {pos : Pos} (hg : Gl X x) (hm : X.mg x = some u) (r : RelV v u) (hd : (x == ("__debug__" : Str)) = false := by decide) : PE X (.Name x pos) (tC v) :=
  fun _ _ _ H _ I h => ld_glob I hg hm ⟨v, H, I, r, h⟩ hd
theorem pe_bltn {x : Str} {v : V} {u : Value} {pos : Pos} (hg : Gl X x) (hm : X.mg x = none) (hv : bootBuiltins x = some u) (r : RelV v u) (hn : x ≠ "__name__" := by decide) (hd : (x == ("__debug__" : Str)) = false := by decide) : PE X (.Name x pos) (tC v) :=
  fun _ _ _ H _ I h => ld_blt I hg hm hv ⟨v, H, I, r, h⟩ hn hd
variable {a b : Expr} {ta tb : TE} {pos : Pos}
noncomputable def tB (t : TE) : TT := fun σ H Q => t σ H fun x H1 => ∃ c, x = .bl c ∧ Q c H1
theorem pt_val {e : Expr} {t : TE} (h : PE X e t) (he : ∀ whole, isTrue e X.env whole = (do let v ← whole; standAt e.pos; holding [v] (truthy v)) := by intro _; rfl) : PT X e (tB t) := by
  intro pins s σ H Q I hw
  refine isTrue_plain (thn (h pins s σ H _ I hw) fun v s1 ⟨x, H1, I1, r1, q1⟩ => ?_) (he _)
  obtain ⟨d, rfl, q⟩ := q1
  cases r1
  exact wpAny_truthy_bool ⟨H1, I1, q⟩
variable {tA tB' : TT} {rest : List Expr}
noncomputable def tAnd (t u : TT) : TT := fun σ H Q => t σ H fun c H1 => if c = true then u σ H1 Q else Q false H1
noncomputable def tOr (t u : TT) : TT := fun σ H Q => t σ H fun c H1 => if c = true then Q true H1 else u σ H1 Q
noncomputable def tNot (t : TT) : TT := fun σ H Q => t σ H fun c H1 => Q (!c) H1
theorem pw_and1 (ha : PT X a tA) : PW X (.BoolOp .And [a] pos) tA := by
  intro wh pins s σ H Q I h
  refine isTrue_and (thn (ha pins s σ H Q I h) fun c s1 e => ?_)
  cases c with
  | true => exact isTrue_and_nil e
  | false => exact e
theorem pw_or1 (ha : PT X a tA) : PW X (.BoolOp .Or [a] pos) tA := by
  intro wh pins s σ H Q I h
  refine isTrue_or (thn (ha pins s σ H Q I h) fun c s1 e => ?_)
  cases c with
  | false => exact isTrue_or_nil e
  | true => exact e
theorem pw_and (ha : PT X a tA) (hb : PW X (.BoolOp .And (b :: rest) pos) tB') : PW X (.BoolOp .And (a :: b :: rest) pos) (tAnd tA tB') := by
  intro wh pins s σ H Q I h
  refine isTrue_and (thn (ha pins s σ H _ I h) fun c s1 ⟨H1, I1, q1⟩ => ?_)
  cases c with
  | true => exact hb wh pins s1 σ H1 Q I1 q1
  | false => exact ⟨H1, I1, q1⟩
theorem pw_or (ha : PT X a tA) (hb : PW X (.BoolOp .Or (b :: rest) pos) tB') : PW X (.BoolOp .Or (a :: b :: rest) pos) (tOr tA tB') := by
  intro wh pins s σ H Q I h
  refine isTrue_or (thn (ha pins s σ H _ I h) fun c s1 ⟨H1, I1, q1⟩ => ?_)
  cases c with
  | true => exact ⟨H1, I1, q1⟩
  | false => exact hb wh pins s1 σ H1 Q I1 q1
theorem pt_not (ha : PT X a tA) : PT X (.UnaryOp .Not a pos) (tNot tA) := by
  intro pins s σ H Q I h
  exact isTrue_not (ha pins s σ H (fun c H1 => Q (!c) H1) I h)
noncomputable def tAndV (ta tb : TE) : TE := fun σ H Q => ta σ H fun x H1 => ∃ c, x = .bl c ∧ if c = true then tb σ H1 Q else Q (.bl false) H1
noncomputable def tNotV (ta : TE) : TE := fun σ H Q => ta σ H fun x H1 => ∃ c, x = .bl c ∧ Q (.bl (!c)) H1
theorem pe_one {op} {t : TE} (h : PE X a t) : PE X (.BoolOp op [a] pos) t := fun pins s σ H Q I hw => BoolOp_one (h pins s σ H Q I hw)
theorem pe_and (ha : PE X a ta) (hb : PE X (.BoolOp .And (b :: rest) pos) tb) : PE X (.BoolOp .And (a :: b :: rest) pos) (tAndV ta tb) := by
  intro pins s σ H Q I h
  refine BoolOp_and (thn (ha pins s σ H _ I h) fun v s1 ⟨x, H1, I1, r1, q1⟩ => ?_)
  obtain ⟨c, rfl, q1⟩ := q1
  cases r1
  refine wpAny_truthy_bool ?_
  cases c with
  | true => exact hb pins s1 σ H1 Q I1 q1
  | false => exact ⟨.bl false, H1, I1, rfl, q1⟩
theorem pe_not (ha : PE X a ta) : PE X (.UnaryOp .Not a pos) (tNotV ta) := by
  intro pins s σ H Q I h
  refine UnaryOp_ (thn (ha pins s σ H _ I h) fun v s1 ⟨x, H1, I1, r1, q1⟩ => ?_)
  obtain ⟨c, rfl, q1⟩ := q1
  cases r1
  exact not_of (wpAny_truthy_bool ⟨.bl (!c), H1, I1, rfl, q1⟩)
noncomputable def tIf (t : TT) (ta tb : TE) : TE := fun σ H Q => t σ H fun c H1 => if c = true then ta σ H1 Q else tb σ H1 Q
theorem pe_ifExp {c : Expr} (hc : PT X c tA) (ha : PE X a ta) (hb : PE X b tb) : PE X (.IfExp c a b pos) (tIf tA ta tb) := by
  intro pins s σ H Q I h
  refine wpAny_IfExp (thn (hc pins s σ H _ I h) fun d s1 ⟨H1, I1, q1⟩ => ?_)
  cases d with
  | true => exact ha pins s1 σ H1 Q I1 q1
  | false => exact hb pins s1 σ H1 Q I1 q1
end
end L2
namespace L2
open PySem PySem.Spec PyProof.Rows
noncomputable def SqL (K : PySem.W.Frag) (H : Hp) (a : Addr) (xs : List V) : Prop :=
  Rd H a (.lst xs) ∨
    ∃ (o : Obj) (its : Array Value) (n : Nat), K.lookup a = some o ∧ o.cls = .type "list" ∧ o.dict = none ∧ o.data = .seq its n ∧ its.size ≤ sizeLine ∧ Vals xs its.toList
noncomputable def SqT (K : PySem.W.Frag) (H : Hp) (a : Addr) (xs : List V) : Prop :=
  Rd H a (.tup xs) ∨
    ∃ (o : Obj) (its : Array Value) (n : Nat), K.lookup a = some o ∧ o.cls = .type "tuple" ∧ o.data = .seq its n ∧ its.size ≤ sizeLine ∧ Vals xs its.toList
noncomputable def absV : Value → Option V
  | .none => some .non
  | .bool b => some (.bl b)
  | .int i _ => some (.int i)
  | .str x _ => some (.str x)
  | .bytes b _ => some (.byt b)
  | .float b _ => some (.flt b)
  | .ref a => some (.ref a)
  | .type n => some (.ty n)
  | _ => none
theorem RelV.abs {x : V} {u : Value} (r : RelV x u) : absV u = some x := by
  cases x with
  | non => cases r; rfl
  | bl _ => cases r; rfl
  | int _ => obtain ⟨t, rfl⟩ := r; rfl
  | str _ => obtain ⟨t, rfl⟩ := r; rfl
  | byt _ => obtain ⟨t, rfl⟩ := r; rfl
  | flt _ => obtain ⟨t, rfl⟩ := r; rfl
  | ref _ => cases r; rfl
  | ty _ => cases r; rfl
theorem RelV.inj {x y : V} {u : Value} (r : RelV x u) (q : RelV y u) : x = y := Option.some.inj (r.abs.symm.trans q.abs)
theorem Vals.inj : ∀ {xs ys : List V} {us : List Value}, Vals xs us → Vals ys us → xs = ys
  | _, _, _, .nil, .nil => rfl
  | _, _, _, .cons r t, .cons r' t' => by rw [r.inj r', Vals.inj t t']
section
variable {X : Cx} {pins : List (Addr × Obj)} {σ : St} {H : Hp} {s : Shared} {a : Addr} {xs ys : List V}
theorem SqL.of {K : PySem.W.Frag} (h : H a = some (.lst xs)) : SqL K H a xs := .inl (.inl h)
theorem SqT.of {K : PySem.W.Frag} (h : H a = some (.tup xs)) : SqT K H a xs := .inl (.inl h)
theorem Inv.list (I : Inv X pins σ H s) (h : SqL X.K H a xs) : ∃ its : List Value, Vals xs its ∧ PlainL s.heap a its.toArray ∧ xs.length ≤ sizeLine := by
  rcases h with h | ⟨o, its, n, hk, hc, hd, hs, hz, r⟩
  · obtain ⟨z, its, n, r, e⟩ := h.ok I.hok
    exact ⟨its, r, ⟨_, n, e, rfl, rfl, rfl⟩, z⟩
  · refine ⟨its.toList, r, ⟨o, n, I.kIn a o hk, hc, hd, by simpa using hs⟩, ?_⟩
    have e := r.length
    simp only [Array.length_toList] at e
    omega
theorem Inv.tuple (I : Inv X pins σ H s) (h : SqT X.K H a xs) : ∃ its : List Value, Vals xs its ∧ IsTup s.heap a its.toArray ∧ xs.length ≤ sizeLine := by
  rcases h with h | ⟨o, its, n, hk, hc, hs, hz, r⟩
  · obtain ⟨z, its, r, p⟩ := h.ok I.hok
    exact ⟨its, r, p, z⟩
  · refine ⟨its.toList, r, ⟨o, I.kIn a o hk, hc, n, by simpa using hs⟩, ?_⟩
    have e := r.length
    simp only [Array.length_toList] at e
    omega
theorem Inv.list_inj (I : Inv X pins σ H s) (h : SqL X.K H a xs) (h' : SqL X.K H a ys) : xs = ys := by
  obtain ⟨its, r, ⟨o, n, e, _, _, d⟩, _⟩ := I.list h
  obtain ⟨its', r', ⟨o', n', e', _, _, d'⟩, _⟩ := I.list h'
  rw [e] at e'; cases e'
  rw [d] at d'
  injection d' with d1 _
  have : its = its' := by simpa using congrArg Array.toList d1
  subst this
  exact r.inj r'
theorem Inv.tuple_inj (I : Inv X pins σ H s) (h : SqT X.K H a xs) (h' : SqT X.K H a ys) : xs = ys := by
  obtain ⟨its, r, ⟨o, e, _, n, d⟩, _⟩ := I.tuple h
  obtain ⟨its', r', ⟨o', e', _, n', d'⟩, _⟩ := I.tuple h'
  rw [e] at e'; cases e'
  rw [d] at d'
  injection d' with d1 _
  have : its = its' := by simpa using congrArg Array.toList d1
  subst this
  exact r.inj r'
end
noncomputable abbrev Cx.wish (X : Cx) (E : Value → Shared → Prop) : Cx := { X with xe := E }
noncomputable abbrev Cx.nox (X : Cx) : Cx := X.wish fun _ _ => False
theorem Cx.Ok.wish {X : Cx} (ok : X.Ok) (E : Value → Shared → Prop) : (X.wish E).Ok :=
  ⟨ok.mod, ok.kind, ok.glob, ok.blt, ok.above, ok.inj, ok.has, ok.cab, ok.hd, ok.frames, ok.stk, ok.exf, ok.bs, ok.bsz, ok.noex, ok.exfs, ok.funs, ok.frf⟩
theorem Cx.Ok.unwish {X : Cx} {E : Value → Shared → Prop} (ok : (X.wish E).Ok) : X.Ok :=
  ⟨ok.mod, ok.kind, ok.glob, ok.blt, ok.above, ok.inj, ok.has, ok.cab, ok.hd, ok.frames, ok.stk, ok.exf, ok.bs, ok.bsz, ok.noex, ok.exfs, ok.funs, ok.frf⟩
section
variable {X : Cx} {pins : List (Addr × Obj)} {σ : St} {H : Hp} {s : Shared} {E : Value → Shared → Prop}
theorem Inv.wish (I : Inv X pins σ H s) (E : Value → Shared → Prop) : Inv (X.wish E) pins σ H s := ⟨I.ok.wish E, I.os, I.bare, I.base, I.loc, I.cell, I.free, I.freeC, I.pin, I.hok, I.len⟩
theorem Inv.unwish (I : Inv (X.wish E) pins σ H s) : Inv X pins σ H s := ⟨I.ok.unwish, I.os, I.bare, I.base, I.loc, I.cell, I.free, I.freeC, I.pin, I.hok, I.len⟩
theorem SP.unwish {D : Ends} {f : Flow} {s' : Shared} (h : SP (X.wish E) pins D f s') : SP X pins D f s' := by
  cases f with
  | next => obtain ⟨σ', H', I, q⟩ := h; exact ⟨σ', H', I.unwish, q⟩
  | brk => obtain ⟨σ', H', I, q⟩ := h; exact ⟨σ', H', I.unwish, q⟩
  | cont => obtain ⟨σ', H', I, q⟩ := h; exact ⟨σ', H', I.unwish, q⟩
  | ret u => obtain ⟨v, σ', H', I, r, q⟩ := h; exact ⟨v, σ', H', I.unwish, r, q⟩
theorem PE.nox {e : Expr} {t : TE} (h : PE X.nox e t) : PE X e t := fun pins s σ H Q I hw =>
  wpAny_mono (h pins s σ H Q (I.wish _) hw) (fun _ _ ⟨v, H', I', r, q⟩ => ⟨v, H', I'.unwish, r, q⟩) fun _ _ z => False.elim z
theorem PT.nox {e : Expr} {t : TT} (h : PT X.nox e t) : PT X e t := fun pins s σ H Q I hw =>
  wpAny_mono (h pins s σ H Q (I.wish _) hw) (fun _ _ ⟨H', I', q⟩ => ⟨H', I'.unwish, q⟩) fun _ _ z => False.elim z
theorem PSs.nox {st : List Stmt} {t : TS} (h : PSs X.nox st t) : PSs X st t := fun pins s σ H D I hw =>
  wpAny_mono (h pins s σ H D (I.wish _) hw) (fun _ _ q => q.unwish) fun _ _ z => False.elim z
end
section
variable {X : Cx} {st : Stmt} {rest : List Stmt} {t u : TS} {e : Expr} {te : TE} {pos : Pos}
noncomputable def tNext : TS := fun D σ H => D.nx σ H
noncomputable def tSeq (t u : TS) : TS := fun D σ H => t { D with nx := u D } σ H
theorem pss_nil : PSs X [] tNext := fun _ _ σ H _ I h => wpAny_execs_nil ⟨σ, H, I, h⟩
theorem pss_cons (h1 : PS X st t) (h2 : PSs X rest u) : PSs X (st :: rest) (tSeq t u) := by
  intro pins s σ H D I h
  refine wpAny_execs_cons (thn (h1 pins s σ H { D with nx := u D } I h) fun f s1 q => ?_)
  cases f with
  | next =>
    obtain ⟨σ', H', I', q⟩ := q
    exact h2 pins s1 σ' H' D I' q
  | ret v => exact q
  | brk => exact q
  | cont => exact q
theorem pss_one (h1 : PS X st t) : PSs X [st] t := by
  intro pins s σ H D I h
  refine wpAny_execs_cons (thn (h1 pins s σ H D I h) fun f s1 q => ?_)
  cases f with
  | next => exact wpAny_execs_nil q
  | ret v => exact q
  | brk => exact q
  | cont => exact q
theorem Inv.quiet {pins : List (Addr × Obj)} {σ : St} {H : Hp} {s : Shared} (I : Inv X pins σ H s) : interactive X.env = false := by simp [interactive, I.ok.kind]
noncomputable def tDrop (te : TE) : TS := fun D σ H => te σ H fun _ H1 => D.nx σ H1
theorem ps_expr (he : PE X e te) (hs : swapsWith e none pos.line X.env = pure false := by rfl) : PS X (.Expr e pos) (tDrop te) := by
  intro pins s σ H D I h
  exact wpAny_Expr_any (thn (he pins s σ H _ I h) fun v s1 ⟨x, H1, I1, r1, q1⟩ => ⟨σ, H1, I1, q1⟩) I.quiet hs
noncomputable def tRet (te : TE) : TS := fun D σ H => te σ H D.rt
theorem ps_ret (he : PE X e te) : PS X (.Return (some e) pos) (tRet te) := by
  intro pins s σ H D I h
  exact wpAny_Return_some (thn (he pins s σ H _ I h) fun v s1 ⟨x, H1, I1, r1, q1⟩ => ⟨x, σ, H1, I1, r1, q1⟩)
noncomputable def tIfS (c : TT) (t u : TS) : TS := fun D σ H => c σ H fun b H1 => if b = true then t D σ H1 else u D σ H1
theorem ps_if {c : Expr} {a b : List Stmt} {tc : TT} (hc : PT X c tc) (ha : PSs X a t) (hb : PSs X b u) : PS X (.If c a b pos) (tIfS tc t u) := by
  intro pins s σ H D I h
  refine wpAny_If (thn (hc pins s σ H _ I h) fun d s1 ⟨H1, I1, q1⟩ => ?_)
  cases d with
  | true => exact ha pins s1 σ H1 D I1 q1
  | false => exact hb pins s1 σ H1 D I1 q1
end
noncomputable abbrev TG := V → St → Hp → (St → Hp → Prop) → Prop
noncomputable abbrev TGs := List V → St → Hp → (St → Hp → Prop) → Prop
noncomputable def PG (X : Cx) (target : Expr) (t : TG) : Prop :=
  ∀ (pins : List (Addr × Obj)) (s : Shared) (σ : St) (H : Hp) (v : V) (u : Value) (Q : St → Hp → Prop), Inv X pins σ H s → RelV v u → t v σ H Q →
    wpAny (model X.prog X.w) X.A (assign target X.env u) (fun _ s' => ∃ σ' H', Inv X pins σ' H' s' ∧ Q σ' H') X.xe s
noncomputable def PGs (X : Cx) (ts : List Expr) (t : TGs) : Prop :=
  ∀ (pins : List (Addr × Obj)) (s : Shared) (σ : St) (H : Hp) (vs : List V) (us : List Value) (Q : St → Hp → Prop), Inv X pins σ H s → Vals vs us → t vs σ H Q →
    wpAny (model X.prog X.w) X.A (assignInOrder ((assignEach ts X.env).map (·.2)) us) (fun _ s' => ∃ σ' H', Inv X pins σ' H' s' ∧ Q σ' H') X.xe s
noncomputable abbrev TSet := V → V → V → Hp → (Hp → Prop) → Prop
noncomputable def PSet (X : Cx) (t : TSet) : Prop :=
  ∀ (pins : List (Addr × Obj)) (s : Shared) (σ : St) (H : Hp) (o i v : V) (ov iv u : Value) (Q : Hp → Prop), Inv X pins σ H s → RelV o ov → RelV i iv → RelV v u → t o i v H Q →
    wpAny (model X.prog X.w) X.A (setItem ov iv u) (fun _ s' => ∃ H', Inv X pins σ H' s' ∧ Q H') X.xe s
section
variable {X : Cx} {pos : Pos}
noncomputable def gName (i : Nat) : TG := fun v σ H Q => Q (σ.set i (some v)) H
theorem pg_name {i : Nat} {x : Str} (hN : X.N.Nodup) (hi : X.N[i]? = some x) (hx : Loc X.env.scope x) (hf : X.fn x = true ∨ X.env.scope.names.lookup x = some .local := by first | exact .inl rfl | exact .inr rfl | assumption) : PG X (.Name x pos) (gName i) := by
  intro pins s σ H v u Q I r h
  exact wpAny_assign_Name (store_ok I hN hi hx r (fun s' I' => ⟨_, H, I', h⟩) hf)
noncomputable def gNil : TGs := fun vs σ H Q => vs = [] ∧ Q σ H
noncomputable def gCons (t : TG) (u : TGs) : TGs := fun vs σ H Q => ∃ v r, vs = v :: r ∧ t v σ H fun σ' H' => u r σ' H' Q
theorem pgs_nil : PGs X [] gNil := by
  intro pins s σ H vs us Q I r h
  obtain ⟨e, h⟩ := h
  subst e
  cases r
  exact assignInOrder_nil ⟨σ, H, I, h⟩
theorem pgs_cons {e : Expr} {es : List Expr} {t : TG} {u : TGs} (h1 : PG X e t) (h2 : PGs X es u)
    (hs : (assignEach (e :: es) X.env).map (·.2) = assign e X.env :: (assignEach es X.env).map (·.2) := by rfl) : PGs X (e :: es) (gCons t u) := by
  intro pins s σ H vs us Q I r h
  obtain ⟨v, vr, e1, h⟩ := h
  subst e1
  cases r with
  | cons r rr =>
    rw [hs]
    refine assignInOrder_cons (thn (h1 pins s σ H _ _ _ I r h) fun _ s1 ⟨σ1, H1, I1, q1⟩ => ?_)
    exact h2 pins s1 σ1 H1 _ _ Q I1 rr q1
noncomputable def gTup (K : PySem.W.Frag) (n : Nat) (t : TGs) : TG := fun v σ H Q => ∃ a xs, v = .ref a ∧ SqT K H a xs ∧ xs.length = n ∧ t xs σ H Q
theorem pg_tup {es : List Expr} {k : Nat} {t : TGs} {n : Nat} (hc : X.calm = true) (h : PGs X es t)
    (hn : (assignEach es X.env).length = n := by rfl) (hst : (assignEach es X.env).findIdx? (·.1) = none := by rfl) : PG X (.Tuple es k pos) (gTup X.K n t) := by
  intro pins s σ H v u Q I r hw
  obtain ⟨a, xs, e1, hq, hl, hw⟩ := hw
  subst e1
  cases r
  obtain ⟨its, rv, ht, hz⟩ := I.tuple hq
  refine assign_Tuple_tuple (I.ok.hd hc) ht (by simp [hn, ← hl, rv.length]) hst fun h' hx => ?_
  have I1 : Inv X pins σ H { s with heap := h' } := I.kept (t' := s.toks) fun b o e => hx b o (Nat.ne_of_lt (Heap.lt_size e)) e
  exact h pins _ σ H xs _ Q I1 (by simpa using rv) hw
noncomputable def gSub (to ti : TE) (t : TSet) : TG := fun v σ H Q => to σ H fun o H1 => ti σ H1 fun i H2 => t o i v H2 fun H3 => Q σ H3
theorem pg_sub {o i : Expr} {to ti : TE} {t : TSet} (ho : PE X o to) (hi : PE X i ti) (hs : PSet X t)
    (ha : ∀ v, assign (.Subscript o i pos) X.env v = (do
      let ov ← holding [v] (eval o X.env)
      let iv ← holding [v, ov] (eval i X.env)
      standAt pos
      holding [v, ov, iv] (setItem ov iv v)
      release [v, ov, iv] []) := by intro _; rfl) : PG X (.Subscript o i pos) (gSub to ti t) := by
  intro pins s σ H v u Q I r h
  rw [ha]
  refine wpAny_bind (wpAny_holding (thn (ho pins s σ H _ I h) fun ov s1 ⟨x, H1, I1, r1, q1⟩ => ?_))
  refine wpAny_bind (wpAny_holding (thn (hi pins s1 σ H1 _ I1 q1) fun iv s2 ⟨y, H2, I2, r2, q2⟩ => ?_))
  refine wpAny_bind (wpAny_standAt (wpAny_bind (wpAny_holding (thn (hs pins s2 σ H2 x y v ov iv u _ I2 r1 r2 r q2) fun _ s3 ⟨H3, I3, q3⟩ => ?_))))
  exact wpAny_release ⟨σ, H3, I3, q3⟩
noncomputable def tAsg (te : TE) (g : TG) : TS := fun D σ H => te σ H fun x H1 => g x σ H1 D.nx
theorem ps_asg {tg e : Expr} {te : TE} {g : TG} (he : PE X e te) (hg : PG X tg g) (hs : swapsWithSole [tg] e pos.line X.env = pure false := by rfl) (hw : swappedStores [tg] e X.env = pure none := by rfl)
    (h1 : (assignEach [tg] X.env).map (·.2) = [assign tg X.env] := by rfl) : PS X (.Assign [tg] e pos) (tAsg te g) := by
  intro pins s σ H D I h
  refine wpAny_Assign_stores (thn (he pins s σ H _ I h) fun v s1 ⟨x, H1, I1, r1, q1⟩ => ?_) hs hw
  rw [h1]
  exact thn (hg pins s1 σ H1 x v _ I1 r1 q1) fun _ s2 q => q
theorem ps_set {i : Nat} {x : Str} {e : Expr} {te : TE} {pos' : Pos} (hN : X.N.Nodup) (hi : X.N[i]? = some x) (hx : Loc X.env.scope x) (he : PE X e te) (hs : swapsWith e (some (.Name x pos')) pos.line X.env = pure false := by rfl) (hf : X.fn x = true ∨ X.env.scope.names.lookup x = some .local := by first | exact .inl rfl | exact .inr rfl | assumption) :
    PS X (.Assign [.Name x pos'] e pos) (tAsg te (gName i)) := by
  intro pins s σ H D I h
  refine wpAny_Assign_Name (thn (he pins s σ H _ I h) fun v s1 ⟨y, H1, I1, r1, q1⟩ => ?_) hs
  exact store_ok I1 hN hi hx r1 (fun s2 I2 => ⟨_, H1, I2, q1⟩) hf
noncomputable def tPar (i j : Nat) (ta : TA) : TS := fun D σ H => ta σ H fun vs H1 => ∃ v w, vs = [v, w] ∧ D.nx ((σ.set i (some v)).set j (some w)) H1
theorem ps_par {i j : Nat} {x y : Str} {a b : Expr} {ta : TA} {px py pt : Pos} {kt k2 pt2} (hc : X.calm = true) (hN : X.N.Nodup) (hi : X.N[i]? = some x) (hj : X.N[j]? = some y) (hij : i ≠ j)
    (hx : X.env.scope.names.lookup x = some .local) (hy : X.env.scope.names.lookup y = some .local) (ha : PA X [a, b] ta)
    (hw : swappedStores [.Tuple [.Name x px, .Name y py] kt pt] (.Tuple [a, b] k2 pt2) X.env = pure (some [x, y]))
    (hs : swapsWithSole [.Tuple [.Name x px, .Name y py] kt pt] (.Tuple [a, b] k2 pt2) pos.line X.env = pure false := by rfl) :
    PS X (.Assign [.Tuple [.Name x px, .Name y py] kt pt] (.Tuple [a, b] k2 pt2) pos) (tPar i j ta) := by
  intro pins s σ H D I h
  rw [exec_Assign_arm]
  refine wpAny_bind (wpAny_standAt ?_)
  rw [hs]
  refine wpAny_bind (wpAny_pure ?_)
  rw [if_neg (by decide)]
  refine wpAny_bind (Tuple_ (thn (ha _ pins s σ H _ I h) fun us s1 ⟨vs, H1, I1, r1, q1⟩ => ?_))
  obtain ⟨v, w, e1, q1⟩ := q1
  subst e1
  obtain ⟨u1, u2, rfl, rv, rw'⟩ : ∃ u1 u2, us = [u1, u2] ∧ RelV v u1 ∧ RelV w u2 := by
    cases r1 with
    | cons p q =>
      cases q with
      | cons p' q' =>
        cases q'
        exact ⟨_, _, rfl, p, p'⟩
  refine wpAny_newObj_type ?_ (by show 2 ≤ sizeLine; decide)
  have I2 : Inv X pins σ H1 { s1 with heap := s1.heap.push { cls := .type "tuple", data := .seq [u1, u2].toArray } } := I1.kept (t' := s1.toks) fun b o e => Heap.get?_push_of_some _ e
  rw [hw]
  refine wpAny_bind (wpAny_pure ?_)
  show wpAny (model X.prog X.w) X.A (do rule "assign.swapped-stores"; let items ← unpackItems (.ref s1.heap.objs.size) 2 none; assignInOrder [fun v => bindName X.env y v, fun v => bindName X.env x v] items.reverse; pure Flow.next) _ _ _
  refine wpAny_bind (wpAny_rule (wpAny_bind (unpackItems_tuple (items := #[u1, u2]) (I.ok.hd hc) (IsTup.new s1.heap _) fun h' hx' => ?_)))
  have I3 := I2.kept (h' := h') (t' := s1.toks) fun b o e => hx' b o (Nat.ne_of_lt (Heap.lt_size e)) e
  show wpAny _ _ (assignInOrder [fun v => bindName X.env y v, fun v => bindName X.env x v] [u2, u1] >>= fun _ => pure Flow.next) _ _ _
  refine wpAny_bind (assignInOrder_cons (wpAny_bindName (store_ok I3 hN hj (.inl hy) rw' (fun s2 I4 => ?_) (.inr hy))))
  refine assignInOrder_cons (wpAny_bindName (store_ok I4 hN hi (.inl hx) rv (fun s3 I5 => assignInOrder_nil (wpAny_pure ?_)) (.inr hx)))
  rw [List.set_comm _ _ (Ne.symm hij)] at I5
  exact ⟨_, H1, I5, q1⟩
end
section
variable {X : Cx} {pos : Pos}
noncomputable def tWhile (c : TT) (tb : TS) : TS := fun D σ H => ∃ W : Nat → St → Hp → Prop, (∃ m, W m σ H) ∧ ∀ m σ H, W m σ H →
  c σ H fun b H1 => if b = true then ∃ N : St → Hp → Prop, (∀ σ' H', N σ' H' → ∃ m', m' < m ∧ W m' σ' H') ∧ tb { D with nx := N, ct := N, bk := D.nx } σ H1 else D.nx σ H1
theorem ps_while {c : Expr} {body : List Stmt} {tc : TT} {tb : TS} (hp : PassesOwn (model X.prog X.w) X.A X.env X.xe) (hc : PT X c tc) (hb : PSs X body tb) : PS X (.While c body [] pos) (tWhile tc tb) := by
  intro pins s σ H D I h
  obtain ⟨W, ⟨m0, w0⟩, turn⟩ := h
  refine wpAny_While (codeAny_whileLoop (fun n s' => ∃ σ' H', Inv X pins σ' H' s' ∧ W n σ' H') ?_ m0 ⟨σ, H, I, w0⟩)
  rintro n s1 ⟨σ1, H1, I1, w1⟩
  refine wpAny_passesOwn hp (thn (hc pins s1 σ1 H1 _ I1 (turn n σ1 H1 w1)) fun b s2 ⟨H2, I2, q2⟩ => ?_)
  cases b with
  | true =>
    obtain ⟨N, hN, q2⟩ := q2
    rw [if_pos rfl]
    refine wpAny_passesOwn hp (thn (hb pins s2 σ1 H2 _ I2 q2) fun f s3 q3 => ?_)
    cases f with
    | next =>
      obtain ⟨σ3, H3, I3, n3⟩ := q3
      obtain ⟨m', hm, w3⟩ := hN σ3 H3 n3
      exact ⟨m', hm, σ3, H3, I3, w3⟩
    | cont =>
      obtain ⟨σ3, H3, I3, n3⟩ := q3
      obtain ⟨m', hm, w3⟩ := hN σ3 H3 n3
      exact ⟨m', hm, σ3, H3, I3, w3⟩
    | brk => exact q3
    | ret v => exact q3
  | false =>
    rw [if_neg Bool.false_ne_true]
    exact wpAny_execs_nil ⟨σ1, H2, I2, q2⟩
end
structure It where
  go : Nat → Hp → Prop
  yld : Nat → Hp → V → Hp → Prop
  stop : Nat → Hp → Prop
noncomputable def FpOk (X : Cx) (pins : List (Addr × Obj)) (H : Hp) (b : Addr) : Prop :=
  H b = none ∧ b ≠ X.env.locals ∧ b ∉ X.fs ∧ (b ∈ X.ex ∨ X.s₀.heap.objs.size ≤ b) ∧ (∀ x c, X.env.cells.lookup x = some c → c ≠ b) ∧ ∀ p ∈ X.pn ++ pins, p.1 ≠ b
theorem Inv.fpOk {X : Cx} {pins : List (Addr × Obj)} {σ : St} {H H' : Hp} {s : Shared} {b : Addr} (I : Inv X pins σ H s) (hb : s.heap.objs.size ≤ b) (hn : H' b = none) : FpOk X pins H' b := by
  refine ⟨hn, Nat.ne_of_gt (Nat.lt_of_lt_of_le I.lt hb), I.nofs hb, .inr (Nat.le_trans I.sz hb), fun x c e z => ?_, fun p hp z => ?_⟩
  · obtain ⟨v, q⟩ := I.cell x c e
    exact absurd (Nat.lt_of_lt_of_le q.lt (by rw [z]; exact hb)) (Nat.lt_irrefl _)
  · exact absurd (Nat.lt_of_lt_of_le (Heap.lt_size (I.pin p hp).1) (by rw [z]; exact hb)) (Nat.lt_irrefl _)
structure Turn (P : Program) (w : World) (K : PySem.W.Frag) (tg : Expr) (J : It) (fp : List Addr) (it : Addr) (tn : Nat → Heap → Prop) : Prop where
  mem : it ∈ fp
  obj : ∀ i h, tn i h → ∀ b ∈ fp, ∃ o, h.get? b = some o ∧ ∀ v, o.data ≠ .cell v
  keep : ∀ i h h', tn i h → (∀ b ∈ fp, ∀ o, h.get? b = some o → h'.get? b = some o) → tn i h'
  item : ∀ (X : Cx), X.prog = P → X.w = w → X.K = K → X.calm = true → ∀ (i : Nat) (pins : List (Addr × Obj)) (s : Shared) (σ : St) (H : Hp) (E : Value → Shared → Prop), Inv X pins σ H s → (∀ b ∈ fp, FpOk X pins H b) → tn i s.heap → J.go i H →
    wpAny (model P w) X.A (pyNext (.ref it)) (fun r s1 => ∃ u, r = some u ∧
      wpAny (model P w) X.A (letOwnedTupleGo tg (.ref it) u) (fun _ s2 => ∃ x H', Inv X pins σ H' s2 ∧ RelV x u ∧ J.yld i H x H' ∧ tn (i + 1) s2.heap ∧ ∀ b ∈ fp, H' b = none) E s1) E s
  done : ∀ (X : Cx), X.prog = P → X.w = w → X.K = K → X.calm = true → ∀ (i : Nat) (pins : List (Addr × Obj)) (s : Shared) (σ : St) (H : Hp) (E : Value → Shared → Prop), Inv X pins σ H s → (∀ b ∈ fp, FpOk X pins H b) → tn i s.heap → J.stop i H →
    wpAny (model P w) X.A (pyNext (.ref it)) (fun r s1 => r = none ∧ Inv X pins σ H s1) E s
  self : ∀ (A : Around) (i : Nat) (s : Shared) (Q : Value → Shared → Prop) (E : Value → Shared → Prop), tn i s.heap → Q (.ref it) s → wpAny (model P w) A (pyIter (.ref it)) Q E s
noncomputable abbrev TI := St → Hp → (It → Hp → Prop) → Prop
noncomputable def PIE (X : Cx) (pins : List (Addr × Obj)) (σ : St) (tg : Expr) (R : It → Hp → Prop) (itv : Value) (s2 : Shared) : Prop :=
  ∃ (it : Addr) (fp : List Addr) (tn : Nat → Heap → Prop) (J : It) (H' : Hp), itv = .ref it ∧ Inv X pins σ H' s2 ∧ Turn X.prog X.w X.K tg J fp it tn ∧ tn 0 s2.heap ∧ (∀ b ∈ fp, FpOk X pins H' b) ∧ R J H'
noncomputable def PI (X : Cx) (tg iter : Expr) (wi : TI) : Prop :=
  ∀ (pins : List (Addr × Obj)) (s : Shared) (σ : St) (H : Hp) (R : It → Hp → Prop), Inv X pins σ H s → wi σ H R →
    wpAny (model X.prog X.w) X.A (eval iter X.env) (fun v s1 => wpAny (model X.prog X.w) X.A (pyIter v) (PIE X pins σ tg R) X.xe s1) X.xe s
theorem go_of {M : Model} {A : Around} {E : Value → Shared → Prop} {s : Shared} {tg : Expr} {it : Addr} {u : Value} {o : Obj} {n : String} {vs : Array Value} {Q : Unit → Shared → Prop} (ho : s.heap.get? it = some o) (hc : o.cls = .type n) (hd : o.data = .fields vs)
    (hn : ["enumerate", "zip", "dict_itemiterator", "dict_reverseitemiterator", "odict_iterator", "itertools.zip_longest", "itertools.pairwise"].contains n = false) (hQ : Q () s) : wpAny M A (letOwnedTupleGo tg (.ref it) u) Q E s := by
  unfold letOwnedTupleGo
  cases tg <;> first
    | exact wpAny_pure hQ
    | (cases u <;> first
        | exact wpAny_pure hQ
        | (refine wpAny_bind (wpAny_load ho ?_)
           rw [hc, hd]
           show wpAny M A (if (["enumerate", "zip", "dict_itemiterator", "dict_reverseitemiterator", "odict_iterator", "itertools.zip_longest", "itertools.pairwise"].contains n && vs[0]? == some (rawInt _)) = true then _ else _) Q E s
           rw [if_neg (by intro h; rw [hn, Bool.false_and] at h; cases h)]
           exact wpAny_pure hQ))
noncomputable def Itl (K : PySem.W.Frag) (a : Addr) : It :=
  ⟨fun i H => ∃ xs x, SqL K H a xs ∧ xs[i]? = some x, fun i H x H' => H' = H ∧ ∀ xs, SqL K H a xs → xs[i]? = some x, fun i H => ∃ xs, SqL K H a xs ∧ xs.length ≤ i⟩
noncomputable def Itt (K : PySem.W.Frag) (a : Addr) : It :=
  ⟨fun i H => ∃ xs x, SqT K H a xs ∧ xs[i]? = some x, fun i H x H' => H' = H ∧ ∀ xs, SqT K H a xs → xs[i]? = some x, fun i H => ∃ xs, SqT K H a xs ∧ xs.length ≤ i⟩
noncomputable def Itr (lo : Int) (n : Nat) : It := ⟨fun i _ => i < n, fun i H x H' => H' = H ∧ x = .int (lo + i), fun i _ => n ≤ i⟩
theorem turn_list {P : Program} {w : World} {K : PySem.W.Frag} {tg : Expr} (a it : Addr) : Turn P w K tg (Itl K a) [it] it (fun i h => h.IsListIter it a i) where
  mem := by simp
  obj := fun i h st b hb => by
    have e : b = it := by simpa using hb
    subst e
    obtain ⟨o, e, c, d⟩ := st
    exact ⟨o, e, fun v z => by rw [d] at z; cases z⟩
  keep := fun i h h' st k => st.at fun o e => k it (by simp) o e
  item := by
    intro X hP hw hK hc i pins s σ H E I hf st hg
    subst hP hw hK
    obtain ⟨xs, x, hq, hx⟩ := hg
    obtain ⟨its, rv, p, hz⟩ := I.list hq
    obtain ⟨u, hu, ru⟩ := rv.get hx
    obtain ⟨f0, f1, f2, f3, f4, f5⟩ := hf it (by simp)
    refine wpAny_pyNext_list_item st p.isList (x := u) (by simpa using hu) fun h' st' sb => ?_
    have I1 : Inv X pins σ H { s with heap := h' } := I.turned (t' := s.toks) (fun b o hb e => (sb.2 b hb).trans e) f0 f1 f3 f4 f5
    obtain ⟨o, e, c, d⟩ := id st'
    exact ⟨u, rfl, go_of (s := { s with heap := h' }) e c d (by decide) ⟨x, H, I1, ru, ⟨rfl, fun ys hy => by rw [I.list_inj hy hq]; exact hx⟩, st', fun b hb => (hf b hb).1⟩⟩
  done := by
    intro X hP hw hK hc i pins s σ H E I hf st hg
    subst hP hw hK
    obtain ⟨xs, hq, hx⟩ := hg
    obtain ⟨its, rv, p, hz⟩ := I.list hq
    obtain ⟨f0, f1, f2, f3, f4, f5⟩ := hf it (by simp)
    have hl := rv.length
    exact wpAny_pyNext_list_end (I.ok.hd hc) st p.isList (by simp; omega) fun h' eb => ⟨rfl, I.turned (t' := s.toks) (fun b o hb e => eb b o hb e) f0 f1 f3 f4 f5⟩
  self := fun _ _ _ _ _ st h => wpAny_pyIter_listiter st h
theorem turn_tuple {P : Program} {w : World} {K : PySem.W.Frag} {tg : Expr} (a it : Addr) : Turn P w K tg (Itt K a) [it] it (fun i h => h.IsTupleIter it a i) where
  mem := by simp
  obj := fun i h st b hb => by
    have e : b = it := by simpa using hb
    subst e
    obtain ⟨o, e, c, d⟩ := st
    exact ⟨o, e, fun v z => by rw [d] at z; cases z⟩
  keep := fun i h h' st k => st.at fun o e => k it (by simp) o e
  item := by
    intro X hP hw hK hc i pins s σ H E I hf st hg
    subst hP hw hK
    obtain ⟨xs, x, hq, hx⟩ := hg
    obtain ⟨its, rv, p, hz⟩ := I.tuple hq
    obtain ⟨u, hu, ru⟩ := rv.get hx
    obtain ⟨f0, f1, f2, f3, f4, f5⟩ := hf it (by simp)
    refine wpAny_pyNext_tuple_item st (show s.heap.IsTuple a its.toArray from p) (x := u) (by simpa using hu) fun h' st' sb => ?_
    have I1 : Inv X pins σ H { s with heap := h' } := I.turned (t' := s.toks) (fun b o hb e => (sb.2 b hb).trans e) f0 f1 f3 f4 f5
    obtain ⟨o, e, c, d⟩ := id st'
    exact ⟨u, rfl, go_of (s := { s with heap := h' }) e c d (by decide) ⟨x, H, I1, ru, ⟨rfl, fun ys hy => by rw [I.tuple_inj hy hq]; exact hx⟩, st', fun b hb => (hf b hb).1⟩⟩
  done := by
    intro X hP hw hK hc i pins s σ H E I hf st hg
    subst hP hw hK
    obtain ⟨xs, hq, hx⟩ := hg
    obtain ⟨its, rv, p, hz⟩ := I.tuple hq
    obtain ⟨f0, f1, f2, f3, f4, f5⟩ := hf it (by simp)
    have hl := rv.length
    exact wpAny_pyNext_tuple_end (I.ok.hd hc) st (show s.heap.IsTuple a its.toArray from p) (by simp; omega) fun h' eb => ⟨rfl, I.turned (t' := s.toks) (fun b o hb e => eb b o hb e) f0 f1 f3 f4 f5⟩
  self := fun _ _ _ _ _ st h => wpAny_pyIter_tupleiter st h
theorem turn_range {P : Program} {w : World} {K : PySem.W.Frag} {tg : Expr} (it : Addr) (lo : Int) (n : Nat) : Turn P w K tg (Itr lo n) [it] it (fun i h => IsRangeIter h it (lo + (i : Nat) * 1) ((n : Int) - (i : Nat)) 1) where
  mem := by simp
  obj := fun i h st b hb => by
    have e : b = it := by simpa using hb
    subst e
    exact ⟨_, st, fun v z => by
      have z' : Data.fields _ = Data.cell v := z
      cases z'⟩
  keep := fun i h h' st k => k it (by simp) _ st
  item := by
    intro X hP hw hK hc i pins s σ H E I hf st hg
    subst hP hw hK
    obtain ⟨f0, f1, f2, f3, f4, f5⟩ := hf it (by simp)
    have W := Walks.range (prog := X.prog) (w := X.w) (I.ok.hd hc) it lo 1 n
    refine W.item i s _ _ hg st fun v h' tk hv st' kk => ?_
    obtain ⟨t, rfl⟩ := hv
    have I1 : Inv X pins σ H { s with heap := h', toks := tk } := I.turned (fun b o hb e => kk b o (by simpa using hb) e) f0 f1 f3 f4 f5
    refine ⟨_, rfl, go_of (s := { s with heap := h', toks := tk }) (n := "range_iterator") st' rfl rfl (by decide) ⟨.int (lo + i), H, I1, ⟨t, ?_⟩, ⟨rfl, rfl⟩, st', fun b hb => (hf b hb).1⟩⟩
    rw [Int.mul_one]
  done := by
    intro X hP hw hK hc i pins s σ H E I hf st hg
    subst hP hw hK
    obtain ⟨f0, f1, f2, f3, f4, f5⟩ := hf it (by simp)
    exact wpAny_pyNext_range_end (I.ok.hd hc) st (by have : n ≤ i := hg; omega) fun h' eb => ⟨rfl, I.turned (t' := s.toks) (fun b o hb e => eb b o hb e) f0 f1 f3 f4 f5⟩
  self := fun _ _ _ _ _ st h => wpAny_pyIter_rangeiter st h
end L2
namespace L2
open PySem PySem.Spec PyProof.Rows
section
variable {X : Cx} {tg : Expr}
noncomputable def iList (K : PySem.W.Frag) (tl : TE) : TI := fun σ H R => tl σ H fun x H1 => ∃ a, x = .ref a ∧ (∃ xs, SqL K H1 a xs) ∧ R (Itl K a) H1
noncomputable def iTup (K : PySem.W.Frag) (tl : TE) : TI := fun σ H R => tl σ H fun x H1 => ∃ a, x = .ref a ∧ (∃ xs, SqT K H1 a xs) ∧ R (Itt K a) H1
theorem pi_list {l : Expr} {tl : TE} (hl : PE X l tl) : PI X tg l (iList X.K tl) := by
  intro pins s σ H R I h
  refine thn (hl pins s σ H _ I h) fun v s1 ⟨x, H1, I1, r1, q1⟩ => ?_
  obtain ⟨a, e, ⟨xs, hq⟩, q⟩ := q1
  subst e
  cases r1
  obtain ⟨its, rv, p, hz⟩ := I1.list hq
  refine wpAny_pyIter_list p.isList ?_
  refine ⟨s1.heap.objs.size, [s1.heap.objs.size], _, _, H1, rfl, I1.kept (t' := s1.toks) fun b o e => Heap.get?_push_of_some _ e, turn_list a _, ⟨_, Heap.get?_push_size _ rfl, rfl, rfl⟩, fun b hb => ?_, q⟩
  have e : b = s1.heap.objs.size := by simpa using hb
  subst e
  exact I1.fpOk (Nat.le_refl _) (I1.hok.fresh (Nat.le_refl _))
theorem pi_tup {l : Expr} {tl : TE} (hl : PE X l tl) : PI X tg l (iTup X.K tl) := by
  intro pins s σ H R I h
  refine thn (hl pins s σ H _ I h) fun v s1 ⟨x, H1, I1, r1, q1⟩ => ?_
  obtain ⟨a, e, ⟨xs, hq⟩, q⟩ := q1
  subst e
  cases r1
  obtain ⟨its, rv, p, hz⟩ := I1.tuple hq
  refine wpAny_pyIter_tuple (show s1.heap.IsTuple a its.toArray from p) ?_
  refine ⟨s1.heap.objs.size, [s1.heap.objs.size], _, _, H1, rfl, I1.kept (t' := s1.toks) fun b o e => Heap.get?_push_of_some _ e, turn_tuple a _, ⟨_, Heap.get?_push_size _ rfl, rfl, rfl⟩, fun b hb => ?_, q⟩
  have e : b = s1.heap.objs.size := by simpa using hb
  subst e
  exact I1.fpOk (Nat.le_refl _) (I1.hok.fresh (Nat.le_refl _))
theorem range_it {pins : List (Addr × Obj)} {σ : St} {H : Hp} {s : Shared} {R : It → Hp → Prop} {E : Value → Shared → Prop} {lo hi : Int} {t u v : Tok} {tk : Nat} (I : Inv X pins σ H s) (h1 : -(2 ^ 62) ≤ lo) (h2 : lo < 2 ^ 62) (h3 : -(2 ^ 62) ≤ hi) (h4 : hi < 2 ^ 62)
    (q : R (Itr lo (hi - lo).toNat) H) : wpAny (model X.prog X.w) X.A (pyIter (.ref s.heap.objs.size)) (PIE X pins σ tg R) E { s with heap := s.heap.push { cls := .type "range", data := .fields #[.int lo t, .int hi u, .int 1 v] }, toks := tk } := by
  refine wpAny_pyIter_range (IsRange.new ..) (small_one h1 h2 h3 h4) ?_
  have I1 : Inv X pins σ H { s with heap := s.heap.push { cls := .type "range", data := .fields #[.int lo t, .int hi u, .int 1 v] }, toks := tk } := I.kept fun b o e => Heap.get?_push_of_some _ e
  refine ⟨(s.heap.push { cls := .type "range", data := .fields #[.int lo t, .int hi u, .int 1 v] }).objs.size, [(s.heap.push { cls := .type "range", data := .fields #[.int lo t, .int hi u, .int 1 v] }).objs.size], _, _, H, rfl,
    I1.kept (t' := tk) fun b o e => Heap.get?_push_of_some _ e, turn_range _ lo (hi - lo).toNat, ?_, fun b hb => ?_, q⟩
  · have e1 : lo + ((0 : Nat) : Int) * 1 = lo := by simp
    have e2 : (((hi - lo).toNat : Nat) : Int) - ((0 : Nat) : Int) = Builtin.Range.rangeSize lo hi 1 := by rw [rangeSize_one]; split <;> omega
    show IsRangeIter _ _ (lo + ((0 : Nat) : Int) * 1) ((((hi - lo).toNat : Nat) : Int) - ((0 : Nat) : Int)) 1
    rw [e1, e2]
    exact Heap.get?_push_size _ rfl
  · have e : b = (s.heap.push { cls := .type "range", data := .fields #[.int lo t, .int hi u, .int 1 v] }).objs.size := by simpa using hb
    subst e
    exact I1.fpOk (Nat.le_refl _) (I1.hok.fresh (Nat.le_refl _))
noncomputable def iRng1 (ta : TA) : TI := fun σ H R => ta σ H fun vs H1 => ∃ j : Int, vs = [.int j] ∧ -(2 ^ 62) ≤ j ∧ j < 2 ^ 62 ∧ R (Itr 0 j.toNat) H1
theorem pi_range1 {a : Expr} {ta : TA} {p pos : Pos} (hg : Gl X "range") (hm : X.mg "range" = none) (ha : PA X [a] ta) (hs : starEach [a] X.env = [(false, eval a X.env)] := by rfl) : PI X tg (.Call (.Name "range" p) [a] [] pos) (iRng1 ta) := by
  intro pins s σ H R I h
  refine Call_ (ld_blt I hg hm boot_range (PyProof.Rows.callWith_type1 (thn (ha pos pins s σ H _ I h) fun us s1 ⟨vs, H1, I1, r1, q1⟩ => ?_) hs rfl))
  obtain ⟨j, e, q1, q2, q⟩ := q1
  subst e
  cases r1 with
  | cons r rr =>
    cases rr
    obtain ⟨t, rfl⟩ := r
    exact call_range_1 (range_it I1 (by omega) (by omega) q1 q2 (by simpa using q))
noncomputable def tFor (wi : TI) (g : TG) (tb : TS) : TS := fun D σ H => wi σ H fun J H1 => ∃ W : Nat → Nat → St → Hp → Prop, (∃ m, W 0 m σ H1) ∧ ∀ i m σ H, W i m σ H →
  (J.stop i H ∧ D.nx σ H) ∨ (J.go i H ∧ ∃ N : St → Hp → Prop, (∀ σ' H', N σ' H' → ∃ m', m' < m ∧ W (i + 1) m' σ' H') ∧ ∀ x H', J.yld i H x H' → g x σ H' fun σ2 H2 => tb { D with nx := N, ct := N, bk := D.nx } σ2 H2)
noncomputable def pinsAt (fp : List Addr) (h : Heap) : List (Addr × Obj) := fp.filterMap fun b => (h.get? b).map fun o => (b, o)
theorem mem_pinsAt {fp : List Addr} {h : Heap} {b : Addr} {o : Obj} (hb : b ∈ fp) (e : h.get? b = some o) : (b, o) ∈ pinsAt fp h := List.mem_filterMap.mpr ⟨b, hb, by rw [e]; rfl⟩
theorem of_pinsAt {fp : List Addr} {h : Heap} {p : Addr × Obj} (hp : p ∈ pinsAt fp h) : p.1 ∈ fp ∧ h.get? p.1 = some p.2 := by
  obtain ⟨b, hb, e⟩ := List.mem_filterMap.mp hp
  cases q : h.get? b with
  | none => rw [q] at e; cases e
  | some o =>
    rw [q] at e
    have e' : (b, o) = p := Option.some.inj e
    subst e'
    exact ⟨hb, q⟩
theorem Inv.pinned {pins : List (Addr × Obj)} {σ : St} {H : Hp} {s : Shared} {fp : List Addr} (I : Inv X pins σ H s) (hf : ∀ b ∈ fp, FpOk X pins H b) (ho : ∀ b ∈ fp, ∃ o, s.heap.get? b = some o ∧ ∀ v, o.data ≠ .cell v) : Inv X (pins ++ pinsAt fp s.heap) σ H s :=
  I.pins_of fun p hp => (List.mem_append.mp hp).elim (fun z => I.pin p (List.mem_append_right _ z)) fun z => by
    obtain ⟨hb, e⟩ := of_pinsAt z
    obtain ⟨f0, f1, f2, _⟩ := hf p.1 hb
    obtain ⟨o, e', d⟩ := ho p.1 hb
    rw [e] at e'; cases e'
    exact ⟨e, f0, f1, f2, d⟩
theorem Inv.unpinned {pins pl : List (Addr × Obj)} {σ : St} {H : Hp} {s : Shared} (I : Inv X (pins ++ pl) σ H s) : Inv X pins σ H s := I.pins_of fun p hp => I.pin p (List.mem_append_right _ (List.mem_append_left _ hp))
theorem ps_for {iter : Expr} {body : List Stmt} {wi : TI} {g : TG} {tb : TS} {pos : Pos} (hp : PassesOwn (model X.prog X.w) X.A X.env X.xe) (hc : X.calm = true) (hi : PI X tg iter wi) (hg : PG X tg g) (hb : PSs X body tb)
    (hs : ∀ x, foldedSetIterable iter X.env x = pure x := by intro _; rfl) : PS X (.For tg iter body [] pos) (tFor wi g tb) := by
  intro pins s σ H D I h
  refine wpAny_For (thn (hi pins s σ H _ I h) fun v s1 h1 => thn h1 fun itv s2 h2 => ?_) hs
  obtain ⟨it, fp, tn, J, H2, e, I2, T, st2, f2, W, ⟨m0, w0⟩, turn⟩ := h2
  subst e
  have stat : ∀ {H' : Hp}, (∀ b ∈ fp, H' b = none) → ∀ b ∈ fp, FpOk X pins H' b := fun hn b hb => ⟨hn b hb, (f2 b hb).2⟩
  refine codeAny_forLoop_any (fun n s' => ∃ i σ' H', Inv X pins σ' H' s' ∧ tn i s'.heap ∧ (∀ b ∈ fp, H' b = none) ∧ W i n σ' H') ?_ m0 ⟨0, σ, H2, I2, st2, fun b hb => (f2 b hb).1, w0⟩
  rintro n s3 ⟨i, σ3, H3, I3, st3, fr3, w3⟩
  rcases turn i n σ3 H3 w3 with ⟨stop, qn⟩ | ⟨go, N, hN, step⟩
  · refine wpAny_passesOwn hp (thn (T.done X rfl rfl rfl hc i pins s3 σ3 H3 X.xe I3 (stat fr3) st3 stop) fun r s4 ⟨hr, I4⟩ => ?_)
    subst hr
    exact wpAny_execs_nil ⟨σ3, H3, I4, qn⟩
  · refine wpAny_passesOwn hp (thn (T.item X rfl rfl rfl hc i pins s3 σ3 H3 X.xe I3 (stat fr3) st3 go) fun r s4 ⟨u, hr, h4⟩ => ?_)
    subst hr
    refine wpAny_passesOwn hp (thn h4 fun _ s5 ⟨x, H5, I5, r5, y5, st5, fr5⟩ => ?_)
    have I5' := I5.pinned (stat fr5) (T.obj _ _ st5)
    refine wpAny_passesOwn hp (thn (hg _ s5 σ3 H5 x u _ I5' r5 (step x H5 y5)) fun _ s6 ⟨σ6, H6, I6, q6⟩ => ?_)
    refine wpAny_passesOwn hp (thn (hb _ s6 σ6 H6 _ I6 q6) fun f s7 q7 => ?_)
    have again : ∀ {σ7 : St} {H7 : Hp}, Inv X (pins ++ pinsAt fp s5.heap) σ7 H7 s7 → N σ7 H7 → ∃ m, m < n ∧ ∃ i σ' H', Inv X pins σ' H' s7 ∧ tn i s7.heap ∧ (∀ b ∈ fp, H' b = none) ∧ W i m σ' H' := fun {σ7 H7} I7 n7 => by
      obtain ⟨m', hm, w7⟩ := hN σ7 H7 n7
      refine ⟨m', hm, i + 1, σ7, H7, I7.unpinned, T.keep _ _ _ st5 fun b hb o e => (I7.pin (b, o) (List.mem_append_right _ (List.mem_append_right _ (mem_pinsAt hb e)))).1, fun b hb => ?_, w7⟩
      obtain ⟨o, e, d⟩ := T.obj _ _ st5 b hb
      exact (I7.pin (b, o) (List.mem_append_right _ (List.mem_append_right _ (mem_pinsAt hb e)))).2.1
    cases f with
    | next => obtain ⟨σ7, H7, I7, n7⟩ := q7; exact again I7 n7
    | cont => obtain ⟨σ7, H7, I7, n7⟩ := q7; exact again I7 n7
    | brk => obtain ⟨σ7, H7, I7, q7⟩ := q7; exact ⟨σ7, H7, I7.unpinned, q7⟩
    | ret v => obtain ⟨x7, σ7, H7, I7, r7, q7⟩ := q7; exact ⟨x7, σ7, H7, I7.unpinned, r7, q7⟩
end
theorem for_range {lo : Int} {n : Nat} {g : TG} {tb : TS} {D : Ends} {σ : St} {H : Hp} (Pv : Nat → St → Hp → Prop) (h0 : Pv 0 σ H)
    (hs : ∀ i σ H, i < n → Pv i σ H → g (.int (lo + i)) σ H fun σ2 H2 => tb { D with nx := Pv (i + 1), ct := Pv (i + 1), bk := D.nx } σ2 H2) (hd : ∀ σ H, Pv n σ H → D.nx σ H) :
    ∃ W : Nat → Nat → St → Hp → Prop, (∃ m, W 0 m σ H) ∧ ∀ i m σ H, W i m σ H →
      ((Itr lo n).stop i H ∧ D.nx σ H) ∨ ((Itr lo n).go i H ∧ ∃ N : St → Hp → Prop, (∀ σ' H', N σ' H' → ∃ m', m' < m ∧ W (i + 1) m' σ' H') ∧ ∀ x H', (Itr lo n).yld i H x H' → g x σ H' fun σ2 H2 => tb { D with nx := N, ct := N, bk := D.nx } σ2 H2) := by
  refine ⟨fun i m σ H => m = n - i ∧ i ≤ n ∧ Pv i σ H, ⟨n, by simp, Nat.zero_le _, h0⟩, ?_⟩
  rintro i m σ H ⟨rfl, hi, p⟩
  by_cases hlt : i < n
  · refine .inr ⟨hlt, Pv (i + 1), fun σ' H' p' => ⟨n - (i + 1), by omega, rfl, hlt, p'⟩, fun x H' y => ?_⟩
    obtain ⟨e, y⟩ := y
    subst e y
    exact hs i σ _ hlt p
  · have e : i = n := by omega
    subst e
    exact .inl ⟨Nat.le_refl _, hd σ H p⟩
theorem while_by {c : TT} {tb : TS} {D : Ends} {σ : St} {H : Hp} (Pv : St → Hp → Prop) (μ : St → Hp → Nat) (h0 : Pv σ H)
    (hs : ∀ σ H, Pv σ H → c σ H fun b H1 => if b = true then tb { D with nx := fun σ' H' => Pv σ' H' ∧ μ σ' H' < μ σ H, ct := fun σ' H' => Pv σ' H' ∧ μ σ' H' < μ σ H, bk := D.nx } σ H1 else D.nx σ H1)
    (mono : ∀ σ H Q Q', (∀ b H1, Q b H1 → Q' b H1) → c σ H Q → c σ H Q') : tWhile c tb D σ H := by
  refine ⟨fun m σ H => m = μ σ H ∧ Pv σ H, ⟨_, rfl, h0⟩, ?_⟩
  rintro m σ H ⟨rfl, p⟩
  refine mono σ H _ _ (fun b H1 q => ?_) (hs σ H p)
  cases b with
  | true => exact ⟨_, fun σ' H' ⟨p', l⟩ => ⟨_, l, rfl, p'⟩, q⟩
  | false => exact q
end L2
namespace L2
open PySem PySem.Spec PyProof.Rows
noncomputable abbrev R2 := V → V → Hp → VK → Prop
noncomputable def OpR (X : Cx) (f : Value → Value → Sem Value) (r : R2) : Prop :=
  ∀ (pins : List (Addr × Obj)) (s : Shared) (σ : St) (H : Hp) (x y : V) (v u : Value) (Q : VK), Inv X pins σ H s → RelV x v → RelV y u → r x y H Q →
    wpAny (model X.prog X.w) X.A (f v u) (EP X pins σ Q) X.xe s
noncomputable def CallR (X : Cx) (f : Value) (r : List V → Hp → VK → Prop) : Prop :=
  ∀ (pins : List (Addr × Obj)) (s : Shared) (σ : St) (H : Hp) (xs : List V) (us : List Value) (Q : VK), Inv X pins σ H s → Vals xs us → r xs H Q →
    wpAny (model X.prog X.w) X.A (call f us) (EP X pins σ Q) X.xe s
noncomputable def tOp (r : R2) (ta tb : TE) : TE := fun σ H Q => ta σ H fun x H1 => tb σ H1 fun y H2 => r x y H2 Q
noncomputable def rI (C : Int → Int → Prop) (g : Int → Int → V) : R2 := fun x y H Q => ∃ i j, x = .int i ∧ y = .int j ∧ C i j ∧ Q (g i j) H
noncomputable def rI0 (g : Int → Int → V) : R2 := fun x y H Q => ∃ i j, x = .int i ∧ y = .int j ∧ Q (g i j) H
section
variable {X : Cx} {a b c : Expr} {ta tb tc : TE} {pos : Pos}
theorem binT (ha : PE X a ta) (hb : PE X b tb) {pins : List (Addr × Obj)} {s : Shared} {σ : St} {H : Hp} {R : V → V → Hp → Prop} (I : Inv X pins σ H s)
    (h : ta σ H fun x H1 => tb σ H1 fun y H2 => R x y H2) {Q : Value → Shared → Prop} {f : Value → Value → Sem Value}
    (hf : ∀ v u s2 x y H2, Inv X pins σ H2 s2 → RelV x v → RelV y u → R x y H2 → wpAny (model X.prog X.w) X.A (f v u) Q X.xe s2) :
    wpAny (model X.prog X.w) X.A (eval a X.env) (fun v s₁ => wpAny (model X.prog X.w) X.A (eval b X.env) (fun u s₂ => wpAny (model X.prog X.w) X.A (f v u) Q X.xe s₂) X.xe s₁) X.xe s := by
  refine thn (ha pins s σ H _ I h) fun v s1 ⟨x, H1, I1, r1, q1⟩ => ?_
  refine thn (hb pins s1 σ H1 _ I1 q1) fun u s2 ⟨y, H2, I2, r2, q2⟩ => ?_
  exact hf v u s2 x y H2 I2 r1 r2 q2
theorem pe_op {op : Operator} {r : R2} (ho : OpR X (binaryOp op) r) (ha : PE X a ta) (hb : PE X b tb) : PE X (.BinOp a op b pos) (tOp r ta tb) := by
  intro pins s σ H Q I h
  exact wpAny_BinOp (binT ha hb I h fun v u s2 x y H2 I2 rx ry q => ho pins s2 σ H2 x y v u Q I2 rx ry q)
theorem opI {f : Value → Value → Sem Value} {C : Int → Int → Prop} {g : Int → Int → Int}
    (rule : ∀ (i j : Int) (t u : Tok) (s : Shared) (Q : Value → Shared → Prop) (E : Value → Shared → Prop), C i j → Q (.int (g i j) s.toks) { s with toks := s.toks + 1 } → wpAny (model X.prog X.w) X.A (f (.int i t) (.int j u)) Q E s) :
    OpR X f (rI C fun i j => .int (g i j)) := by
  intro pins s σ H x y v u Q I rx ry h
  obtain ⟨i, j, rfl, rfl, hc, q⟩ := h
  obtain ⟨t, rfl⟩ := rx
  obtain ⟨t', rfl⟩ := ry
  exact rule i j t t' s _ _ hc ⟨.int (g i j), H, I.tok _, ⟨_, rfl⟩, q⟩
theorem opI0 {f : Value → Value → Sem Value} {g : Int → Int → Int}
    (rule : ∀ (i j : Int) (t u : Tok) (s : Shared) (Q : Value → Shared → Prop) (E : Value → Shared → Prop), Q (.int (g i j) s.toks) { s with toks := s.toks + 1 } → wpAny (model X.prog X.w) X.A (f (.int i t) (.int j u)) Q E s) :
    OpR X f (rI0 fun i j => .int (g i j)) := by
  intro pins s σ H x y v u Q I rx ry h
  obtain ⟨i, j, rfl, rfl, q⟩ := h
  obtain ⟨t, rfl⟩ := rx
  obtain ⟨t', rfl⟩ := ry
  exact rule i j t t' s _ _ ⟨.int (g i j), H, I.tok _, ⟨_, rfl⟩, q⟩
theorem opB0 {f : Value → Value → Sem Value} {g : Int → Int → Bool}
    (rule : ∀ (i j : Int) (t u : Tok) (s : Shared) (Q : Value → Shared → Prop) (E : Value → Shared → Prop), Q (.bool (g i j)) s → wpAny (model X.prog X.w) X.A (f (.int i t) (.int j u)) Q E s) :
    OpR X f (rI0 fun i j => .bl (g i j)) := by
  intro pins s σ H x y v u Q I rx ry h
  obtain ⟨i, j, rfl, rfl, q⟩ := h
  obtain ⟨t, rfl⟩ := rx
  obtain ⟨t', rfl⟩ := ry
  exact rule i j t t' s _ _ ⟨.bl (g i j), H, I, rfl, q⟩
noncomputable def CDiv (i j : Int) : Prop := 0 < j ∧ j < 1073741824
noncomputable def CPow (i j : Int) : Prop := 0 ≤ j ∧ j ≤ 1000000 ∧ i.natAbs < 2 ^ 64
noncomputable def CMul (i j : Int) : Prop := (-(2 ^ 64) < i ∧ i < 2 ^ 64) ∨ (-(2 ^ 64) < j ∧ j < 2 ^ 64)
theorem CMul.ok {i j : Int} (h : CMul i j) : IntMulOk i j := by
  rcases h with ⟨h1, h2⟩ | ⟨h1, h2⟩
  · exact .of_left (intBits_le_64 h1 h2)
  · exact .of_right (intBits_le_64 h1 h2)
theorem op_add : OpR X (binaryOp .Add) (rI0 fun i j => .int (i + j)) := opI0 fun _ _ _ _ _ _ _ q => add_int q
theorem op_sub : OpR X (binaryOp .Sub) (rI0 fun i j => .int (i - j)) := opI0 fun _ _ _ _ _ _ _ q => sub_int q
theorem op_mul : OpR X (binaryOp .Mult) (rI CMul fun i j => .int (i * j)) := opI fun _ _ _ _ _ _ _ hc q => mul_int q hc.ok
theorem op_fdiv : OpR X (binaryOp .FloorDiv) (rI CDiv fun i j => .int (i / j)) := opI fun i j _ _ _ _ _ hc q => by
  have h1 : (0 : Int) < j := hc.1
  have h2 : j < 1073741824 := hc.2
  exact floordiv_int (by omega) (by rw [Int.fdiv_eq_ediv_of_nonneg i (by omega)]; exact q) (.inl (PyProof.noPylong_small (by omega)))
theorem op_mod : OpR X (binaryOp .Mod) (rI (fun _ j => 0 < j) fun i j => .int (i % j)) := opI fun i j _ _ _ _ _ hc q => by
  have h1 : (0 : Int) < j := hc
  exact mod_int' (by omega) (by rw [Int.fmod_eq_emod_of_nonneg i (by omega)]; exact q)
theorem op_pow : OpR X (binaryOp .Pow) (rI CPow fun i j => .int (i ^ j.toNat)) := opI fun _ _ _ _ _ _ _ hc q => pow_int_small hc.1 hc.2.1 hc.2.2 q
end
noncomputable def scal : V → V → Bool
  | .non, .non => true | .non, .int _ => true | .int _, .non => true | .non, .bl _ => true | .bl _, .non => true | .non, .str _ => true | .str _, .non => true
  | .int _, .int _ => true | .bl _, .bl _ => true | .str _, .str _ => true | .byt _, .byt _ => true
  | .int _, .str _ => true | .str _, .int _ => true | .bl _, .str _ => true | .str _, .bl _ => true
  | _, _ => false
noncomputable def rEq : R2 := fun x y H Q => scal x y = true ∧ Q (.bl (decide (x = y))) H
noncomputable def rNe : R2 := fun x y H Q => scal x y = true ∧ Q (.bl (!decide (x = y))) H
theorem dec_int {i j : Int} : decide (V.int i = V.int j) = (i == j) := by
  rw [Bool.eq_iff_iff]
  simp
theorem dec_bl {i j : Bool} : decide (V.bl i = V.bl j) = (i == j) := by
  rw [Bool.eq_iff_iff]
  simp
theorem dec_str {i j : Str} : decide (V.str i = V.str j) = (i == j) := by
  rw [Bool.eq_iff_iff]
  simp
theorem dec_byt {i j : Array UInt8} : decide (V.byt i = V.byt j) = (i.toList == j.toList) := by
  rw [Bool.eq_iff_iff]
  cases i
  cases j
  simp
section
variable {X : Cx} {a b c : Expr} {ta tb tc : TE} {pos : Pos}
theorem fin_bl {pins : List (Addr × Obj)} {σ : St} {H : Hp} {s : Shared} {Q : VK} {k k' : Bool} (I : Inv X pins σ H s) (q : Q (.bl k) H) (e : k = k') : EP X pins σ Q (.bool k') s := by
  subst e
  exact ⟨.bl k, H, I, rfl, q⟩
theorem op_eq : OpR X (compareOp .Eq) rEq := by
  intro pins s σ H x y v u Q I rx ry h
  obtain ⟨hs, q⟩ := h
  cases x with
  | non =>
    cases rx
    cases y with
    | non => cases ry; exact PySem.EqNone.eq_none_none (fin_bl I q (by simp))
    | bl j => cases ry; exact PySem.EqNone.eq_none_bool (fin_bl I q (by simp))
    | int j => obtain ⟨t', rfl⟩ := ry; exact PySem.EqNone.eq_none_int (fin_bl I q (by simp))
    | str j => obtain ⟨t', rfl⟩ := ry; exact PySem.EqNone.eq_none_str (fin_bl I q (by simp))
    | _ => exact absurd (show false = true from hs) Bool.false_ne_true
  | bl i =>
    cases rx
    cases y with
    | non => cases ry; exact PySem.EqNone.eq_bool_none (fin_bl I q (by simp))
    | bl j => cases ry; exact eq_bool (fin_bl I q dec_bl)
    | str j => obtain ⟨t', rfl⟩ := ry; exact PySem.EqMixed.eq_bool_str (fin_bl I q (by simp))
    | _ => exact absurd (show false = true from hs) Bool.false_ne_true
  | int i =>
    obtain ⟨t, rfl⟩ := rx
    cases y with
    | non => cases ry; exact PySem.EqNone.eq_int_none (fin_bl I q (by simp))
    | int j => obtain ⟨t', rfl⟩ := ry; exact eq_int (fin_bl I q dec_int)
    | str j => obtain ⟨t', rfl⟩ := ry; exact PySem.EqMixed.eq_int_str (fin_bl I q (by simp))
    | _ => exact absurd (show false = true from hs) Bool.false_ne_true
  | str i =>
    obtain ⟨t, rfl⟩ := rx
    cases y with
    | non => cases ry; exact PySem.EqNone.eq_str_none (fin_bl I q (by simp))
    | bl j => cases ry; exact PySem.EqMixed.eq_str_bool (fin_bl I q (by simp))
    | int j => obtain ⟨t', rfl⟩ := ry; exact PySem.EqMixed.eq_str_int (fin_bl I q (by simp))
    | str j => obtain ⟨t', rfl⟩ := ry; exact eq_str (fin_bl I q dec_str)
    | _ => exact absurd (show false = true from hs) Bool.false_ne_true
  | byt i =>
    obtain ⟨t, rfl⟩ := rx
    cases y with
    | byt j => obtain ⟨t', rfl⟩ := ry; exact PySem.W.eq_bytes (fin_bl I q dec_byt)
    | _ => exact absurd (show false = true from hs) Bool.false_ne_true
  | _ => cases y <;> exact absurd (show false = true from hs) Bool.false_ne_true
theorem op_ne : OpR X (compareOp .NotEq) rNe := by
  intro pins s σ H x y v u Q I rx ry h
  obtain ⟨hs, q⟩ := h
  cases x with
  | non =>
    cases rx
    cases y with
    | non => cases ry; exact PySem.EqNone.ne_none_none (fin_bl I q (by simp))
    | bl j => cases ry; exact PySem.EqNone.ne_none_bool (fin_bl I q (by simp))
    | int j => obtain ⟨t', rfl⟩ := ry; exact PySem.EqNone.ne_none_int (fin_bl I q (by simp))
    | str j => obtain ⟨t', rfl⟩ := ry; exact PySem.EqNone.ne_none_str (fin_bl I q (by simp))
    | _ => exact absurd (show false = true from hs) Bool.false_ne_true
  | bl i =>
    cases rx
    cases y with
    | non => cases ry; exact PySem.EqNone.ne_bool_none (fin_bl I q (by simp))
    | bl j => cases ry; exact ne_bool (fin_bl I q (congrArg not dec_bl))
    | str j => obtain ⟨t', rfl⟩ := ry; exact PySem.EqMixed.ne_bool_str (fin_bl I q (by simp))
    | _ => exact absurd (show false = true from hs) Bool.false_ne_true
  | int i =>
    obtain ⟨t, rfl⟩ := rx
    cases y with
    | non => cases ry; exact PySem.EqNone.ne_int_none (fin_bl I q (by simp))
    | int j => obtain ⟨t', rfl⟩ := ry; exact ne_int (fin_bl I q (congrArg not dec_int))
    | str j => obtain ⟨t', rfl⟩ := ry; exact PySem.EqMixed.ne_int_str (fin_bl I q (by simp))
    | _ => exact absurd (show false = true from hs) Bool.false_ne_true
  | str i =>
    obtain ⟨t, rfl⟩ := rx
    cases y with
    | non => cases ry; exact PySem.EqNone.ne_str_none (fin_bl I q (by simp))
    | bl j => cases ry; exact PySem.EqMixed.ne_str_bool (fin_bl I q (by simp))
    | int j => obtain ⟨t', rfl⟩ := ry; exact PySem.EqMixed.ne_str_int (fin_bl I q (by simp))
    | str j => obtain ⟨t', rfl⟩ := ry; exact ne_str (fin_bl I q (congrArg not dec_str))
    | _ => exact absurd (show false = true from hs) Bool.false_ne_true
  | byt i =>
    obtain ⟨t, rfl⟩ := rx
    cases y with
    | byt j => obtain ⟨t', rfl⟩ := ry; exact PySem.W.ne_bytes (fin_bl I q (congrArg not dec_byt))
    | _ => exact absurd (show false = true from hs) Bool.false_ne_true
  | _ => cases y <;> exact absurd (show false = true from hs) Bool.false_ne_true
theorem op_lt : OpR X (compareOp .Lt) (rI0 fun i j => .bl (decide (i < j))) := opB0 fun _ _ _ _ _ _ _ q => lt_int q
theorem op_le : OpR X (compareOp .LtE) (rI0 fun i j => .bl (decide (i ≤ j))) := opB0 fun _ _ _ _ _ _ _ q => le_int q
theorem op_gt : OpR X (compareOp .Gt) (rI0 fun i j => .bl (decide (j < i))) := opB0 fun _ _ _ _ _ _ _ q => gt_int q
theorem op_ge : OpR X (compareOp .GtE) (rI0 fun i j => .bl (decide (j ≤ i))) := opB0 fun _ _ _ _ _ _ _ q => ge_int q
theorem OpR.or {f : Value → Value → Sem Value} {r r' : R2} (h : OpR X f r) (h' : OpR X f r') : OpR X f (fun x y H Q => r x y H Q ∨ r' x y H Q) := by
  intro pins s σ H x y v u Q I rx ry q
  rcases q with q | q
  · exact h pins s σ H x y v u Q I rx ry q
  · exact h' pins s σ H x y v u Q I rx ry q
theorem nomark (b : Expr) {op : CmpOp} (h : op ≠ .In := by decide) (h2 : op ≠ .NotIn := by decide) : behindInMarks op b = false := by
  have e1 : (op == CmpOp.In) = false := by cases op <;> first | rfl | exact absurd rfl h
  have e2 : (op == CmpOp.NotIn) = false := by cases op <;> first | rfl | exact absurd rfl h2
  cases b <;> simp [behindInMarks, e1, e2]
theorem pe_cmpR {op : CmpOp} {r : R2} (ho : OpR X (compareOp op) r) (ha : PE X a ta) (hb : PE X b tb) (hm : behindInMarks op b = false) : PE X (.Compare a [op] [b] pos) (tOp r ta tb) := by
  intro pins s σ H Q I h
  exact wpAny_Compare1 (binT ha hb I h fun v u s2 x y H2 I2 rx ry q => ho pins s2 σ H2 x y v u Q I2 rx ry q) hm
noncomputable def tTest (t : TE) : TT := fun σ H Q => t σ H fun x H' => ∃ k, x = .bl k ∧ Q k H'
theorem pt_cmpR {op : CmpOp} {r : R2} (ho : OpR X (compareOp op) r) (ha : PE X a ta) (hb : PE X b tb) (hm : behindInMarks op b = false) : PT X (.Compare a [op] [b] pos) (tTest (tOp r ta tb)) := by
  intro pins s σ H Q I h
  refine wpAny_isTrue_Compare1 (thn (ha pins s σ H _ I h) fun v s1 ⟨x, H1, I1, r1, q1⟩ => thn (hb pins s1 σ H1 _ I1 q1) fun u s2 ⟨y, H2, I2, r2, q2⟩ =>
    thn (ho pins s2 σ H2 x y v u _ I2 r1 r2 q2) fun c s3 ⟨z, H3, I3, r3, k, e, q3⟩ => ?_) hm
  subst e
  cases r3
  exact wpAny_truthy_bool ⟨H3, I3, q3⟩
noncomputable def tChain (r r' : R2) (ta tb tc : TE) : TE := fun σ H Q => ta σ H fun x H1 => tb σ H1 fun y H2 => r x y H2 fun z H3 => ∃ k, z = .bl k ∧
  (if k = true then tc σ H3 fun w' H4 => r' y w' H4 Q else Q (.bl false) H3)
theorem pe_chain {op op' : CmpOp} {r r' : R2} (ho : OpR X (compareOp op) r) (ho' : OpR X (compareOp op') r') (ha : PE X a ta) (hb : PE X b tb) (hc : PE X c tc)
    (hm : lastMarks [op, op'] [b, c] = false := by with_unfolding_all rfl) : PE X (.Compare a [op, op'] [b, c] pos) (tChain r r' ta tb tc) := by
  intro pins s σ H Q I h
  refine Compare_chain (thn (ha pins s σ H _ I h) fun v s1 ⟨x, H1, I1, r1, q1⟩ => chain_link (thn (hb pins s1 σ H1 _ I1 q1) fun u s2 ⟨y, H2, I2, r2, q2⟩ =>
    thn (ho pins s2 σ H2 x y v u _ I2 r1 r2 q2) fun d s3 ⟨z, H3, I3, r3, k, e, q3⟩ => ?_)) hm
  subst e
  cases r3
  refine wpAny_truthy_bool ?_
  cases k with
  | false => exact ite_ff ⟨.bl false, H3, I3, rfl, q3⟩
  | true => exact ite_tt (chain_last (thn (hc pins s3 σ H3 _ I3 q3) fun w' s4 ⟨z', H4, I4, r4, q4⟩ => ho' pins s4 σ H4 y z' u w' Q I4 r2 r4 q4))
theorem line63 : (sizeLine : Nat) < 2 ^ 63 := by rw [sizeLine_eq]; decide
theorem vals1 {x : V} {us : List Value} (r : Vals [x] us) : ∃ u, us = [u] ∧ RelV x u := by
  cases r with
  | cons r1 r2 => cases r2; exact ⟨_, rfl, r1⟩
theorem vals2 {x y : V} {us : List Value} (r : Vals [x, y] us) : ∃ u w', us = [u, w'] ∧ RelV x u ∧ RelV y w' := by
  cases r with
  | cons r1 r2 =>
    cases r2 with
    | cons r3 r4 => cases r4; exact ⟨_, _, rfl, r1, r3⟩
theorem call_abs : CallR X (.builtin "abs") (fun xs H Q => ∃ i, xs = [.int i] ∧ Q (.int (if i < 0 then -i else i)) H) := by
  intro pins s σ H xs us Q I r h
  obtain ⟨i, rfl, q⟩ := h
  obtain ⟨u, rfl, t, rfl⟩ := vals1 r
  exact call_abs_int fun u tk => ⟨.int (if i < 0 then -i else i), H, I.tok _, ⟨_, rfl⟩, q⟩
theorem call_max2 (hc : X.calm = true) : CallR X (.builtin "max") (fun xs H Q => ∃ i j, xs = [.int i, .int j] ∧ Q (.int (if j > i then j else i)) H) := by
  intro pins s σ H xs us Q I r h
  obtain ⟨i, j, rfl, q⟩ := h
  obtain ⟨u, w', rfl, ⟨t, rfl⟩, ⟨t', rfl⟩⟩ := vals2 r
  refine max_two_ints (I.ok.hd hc) fun h' tk k => ⟨_, H, I.kept k, ?_, q⟩
  by_cases hj : j > i
  · rw [if_pos hj, if_pos hj]; exact ⟨_, rfl⟩
  · rw [if_neg hj, if_neg hj]; exact ⟨_, rfl⟩
theorem call_min2 (hc : X.calm = true) : CallR X (.builtin "min") (fun xs H Q => ∃ i j, xs = [.int i, .int j] ∧ Q (.int (if j < i then j else i)) H) := by
  intro pins s σ H xs us Q I r h
  obtain ⟨i, j, rfl, q⟩ := h
  obtain ⟨u, w', rfl, ⟨t, rfl⟩, ⟨t', rfl⟩⟩ := vals2 r
  refine min_two_ints (I.ok.hd hc) fun h' tk k => ⟨_, H, I.kept k, ?_, q⟩
  by_cases hj : j < i
  · rw [if_pos hj, if_pos hj]; exact ⟨_, rfl⟩
  · rw [if_neg hj, if_neg hj]; exact ⟨_, rfl⟩
theorem call_str_int : CallR X (.type "str") (fun xs H Q => ∃ i, xs = [.int i] ∧ i.natAbs.log2 < 1920 ∧ Q (.str (toString i)) H) := by
  intro pins s σ H xs us Q I r h
  obtain ⟨i, rfl, hz, q⟩ := h
  obtain ⟨u, rfl, t, rfl⟩ := vals1 r
  exact PySem.P.str_of_int hz ⟨.str _, H, I.tok _, ⟨_, rfl⟩, q⟩
end
end L2
namespace L2
open PySem PySem.Spec PyProof.Rows
structure ObjM (h : Heap) (x dx C : Addr) (mA : Str → Option Value) : Prop where
  obj : h.get? x = some (PySem.W.instObj C dx)
  ns : h.Ns1 dx mA
  ne : dx ≠ x
theorem lookIn_ns {h : Heap} {dx : Addr} {mA : Str → Option Value} (n : h.Ns1 dx mA) : ∃ od, h.get? dx = some od ∧ ∀ name, PySem.W.lookIn name od = some (mA name) := by
  obtain ⟨o, es, ep, ho, hd, hk, _, hm⟩ := n
  refine ⟨o, ho, fun name => ?_⟩
  have e := hm name
  unfold nsFind findBy at e
  rw [← Array.find?_toList] at e
  unfold PySem.W.lookIn
  rw [hd]
  dsimp only
  split
  · rename_i y q
    rw [q] at e
    exact congrArg some e
  · rename_i q
    rw [q] at e
    have a : es.toList.any (·.refKey) = false := by
      rw [List.any_eq_false]
      intro y hy
      obtain ⟨z, t, hkey⟩ := hk y (Array.mem_toList_iff.mp hy)
      simp [DictEntry.refKey, hkey]
    have a' : ¬ es.toList.any (·.refKey) = true := by rw [a]; exact Bool.false_ne_true
    rw [if_neg a']
    exact congrArg some e
theorem ObjM.look {h : Heap} {x dx C : Addr} {mA : Str → Option Value} (I : ObjM h x dx C mA) : ∃ od, PySem.W.InstAt h x (PySem.W.instObj C dx) C (some od) ∧ ∀ name, PySem.W.lookIn name od = some (mA name) :=
  let ⟨od, ho, hl⟩ := lookIn_ns I.ns
  ⟨od, ⟨I.obj, rfl, rfl, ho⟩, hl⟩
section
variable {prog : Program} {w : World} {A : Around} {E : Value → Shared → Prop} {s : Shared} {K : PySem.W.Frag} {x dx C f : Addr} {mA : Str → Option Value} {name : Str} {v : Value}
end
section
variable {P : Program} {w : World} {H H' : Hp} {h h' : Heap} {a C dx : Addr} {fs fs' : List (Str × V)}
theorem ins_get (hok : HOk P w H h) (e : H a = some (.ins C dx fs)) : ∃ mA, ObjM h a dx C mA ∧ (∀ f, RelO (fs.lookup f) (mA f)) ∧ PySem.Within mA (fs.map (·.1)) ∧ fs.length ≤ 1000 ∧ H dx = some (.own a) := by
  obtain ⟨d, z, ne, ob, mA, n, r, q⟩ := (show ObjOk P w H h a (.ins C dx fs) from hok a _ e)
  exact ⟨mA, ⟨ob, n, ne⟩, r, q, z, d⟩
end
structure Cls (K : PySem.W.Frag) (C : Addr) : Prop where
  pg : PySem.W.plainGet K C Str.empty = true
  hd : PySem.W.hasDictIn K C = true
  po : PySem.W.plainOver K C = true
  sa : PySem.W.findIn K (.ref C) "__setattr__" = some (some (.builtin "object.__setattr__"))
theorem Cls.get {K : PySem.W.Frag} {C : Addr} (c : Cls K C) (f : Str) : PySem.W.plainGet K C f = true := c.pg
structure Con (K : PySem.W.Frag) (C : Addr) (f : Str) (v : V) (u : Value) : Prop where
  at_ : PySem.W.findIn K (.ref C) f = some (some u)
  rel : RelV v u
  get : PySem.W.specialIn K u "__get__" = some none
  cp : PySem.W.copiedNames.contains f = false
structure Meth (K : PySem.W.Frag) (C : Addr) (m : Str) (f : Addr) : Prop where
  at_ : PySem.W.findIn K (.ref C) m = some (some (.ref f))
  fn : PySem.W.isFn K (.ref f) = true
  kp : PySem.W.keepIn K (.ref f) = true
section
variable {X : Cx} {pins : List (Addr × Obj)} {σ : St} {H : Hp} {s : Shared} {a C dx : Addr} {fs : List (Str × V)} {f : Str} {v : V} {A : Around} {E : Value → Shared → Prop}
end
section
variable {X : Cx} {o e value : Expr} {f : Str} {pos pos' tpos : Pos} {ta tv : TE}
end
section
variable {X : Cx} {pins : List (Addr × Obj)} {σ : St} {H : Hp} {s : Shared} {A : Around} {E : Value → Shared → Prop} {Q : Value → Shared → Prop} {c : Value} {b : Bool}
inductive TyOf (K : PySem.W.Frag) (H : Hp) : V → Value → Prop where
  | non : TyOf K H .non (.type "NoneType")
  | bl (x : Bool) : TyOf K H (.bl x) (.type "bool")
  | int (i : Int) : TyOf K H (.int i) (.type "int")
  | str (x : Str) : TyOf K H (.str x) (.type "str")
  | flt (x : UInt64) : TyOf K H (.flt x) (.type "float")
  | lst {a : Addr} {xs : List V} (e : H a = some (.lst xs)) : TyOf K H (.ref a) (.type "list")
  | frz {a : Addr} {o : Obj} {xs : List V} (e : H a = some (.frz o (.lst xs))) : TyOf K H (.ref a) (.type "list")
  | tup {a : Addr} {xs : List V} (e : H a = some (.tup xs)) : TyOf K H (.ref a) (.type "tuple")
  | dK {a : Addr} {kvs : List (Key × V)} (e : H a = some (.dK kvs)) : TyOf K H (.ref a) (.type "dict")
  | dT {a : Addr} {kvs : List (List Key × V)} (e : H a = some (.dT kvs)) : TyOf K H (.ref a) (.type "dict")
  | ins {a C dx : Addr} {fs : List (Str × V)} (e : H a = some (.ins C dx fs)) (cl : Cls K C) (ha : PySem.W.findIn K (.ref C) "__class__" = some (some (.builtin "object.__class__")))
      (hn : PySem.W.specialIn K (.builtin "object.__class__") "__get__" = some (some (.builtin "getset_descriptor.__get__"))) (htk : PySem.W.takesIn K (.builtin "object.__class__") = some true)
      (hm : PySem.W.mroIn K C (.type "object") = some true) : TyOf K H (.ref a) (.ref C)
theorem isinst_ok {x : V} {u t : Value} (I : Inv X pins σ H s) (rx : RelV x u) (ty : TyOf X.K H x t) (e : PySem.W.kitOne X.K t c = some b) (h : ∀ tk, Q (.bool b) { s with toks := tk }) :
    wpAny (model X.prog X.w) A (call (.builtin "isinstance") [u, c]) Q E s := by
  cases ty with
  | non => cases (show u = Value.none from rx); exact PySem.W.kia_one PySem.W.kitx_none I.kIn True.intro e (fun z => nomatch z) h
  | bl y => cases (show u = Value.bool y from rx); exact PySem.W.kia_one PySem.W.kitx_bool I.kIn True.intro e (fun z => nomatch z) h
  | int i => obtain ⟨t, q⟩ := (show ∃ t, u = Value.int i t from rx); cases q; exact PySem.W.kia_one PySem.W.kitx_int I.kIn True.intro e (fun z => nomatch z) h
  | str y => obtain ⟨t, q⟩ := (show ∃ t, u = Value.str y t from rx); cases q; exact PySem.W.kia_one PySem.W.kitx_str I.kIn True.intro e (fun z => nomatch z) h
  | flt y => obtain ⟨t, q⟩ := (show ∃ t, u = Value.float y t from rx); cases q; exact PySem.W.kia_one PySem.W.kitx_float I.kIn True.intro e (fun z => nomatch z) h
  | @lst a xs ea =>
    cases (show u = Value.ref a from rx)
    obtain ⟨_, _, n, _, h1⟩ := (show ObjOk X.prog X.w H s.heap a (.lst xs) from I.hok a _ ea)
    exact PySem.W.kia_one PySem.W.kitx_list I.kIn ⟨_, h1, rfl⟩ e (fun z => nomatch z) h
  | @frz a ob xs ea =>
    cases (show u = Value.ref a from rx)
    obtain ⟨_, _, _, n, _, h1⟩ := (show ObjOk X.prog X.w H s.heap a (.frz ob (.lst xs)) from I.hok a _ ea)
    exact PySem.W.kia_one PySem.W.kitx_list I.kIn ⟨_, h1, rfl⟩ e (fun z => nomatch z) h
  | @tup a xs ea =>
    cases (show u = Value.ref a from rx)
    obtain ⟨_, _, _, p⟩ := (show ObjOk X.prog X.w H s.heap a (.tup xs) from I.hok a _ ea)
    obtain ⟨o, h1, h2, _⟩ := p
    exact PySem.W.kia_one PySem.W.kitx_tuple I.kIn ⟨o, h1, h2⟩ e (fun z => nomatch z) h
  | @dK a kvs ea =>
    cases (show u = Value.ref a from rx)
    obtain ⟨_, _, vs, _, p⟩ := (show ObjOk X.prog X.w H s.heap a (.dK kvs) from I.hok a _ ea)
    obtain ⟨o, es, ep, h1, h2, _⟩ := p
    exact PySem.W.kia_one PySem.W.kitx_dict I.kIn ⟨o, h1, h2.1⟩ e (fun z => nomatch z) h
  | @dT a kvs ea =>
    cases (show u = Value.ref a from rx)
    obtain ⟨_, _, xs, _, o, es, ep, h1, h2, _⟩ := (show ObjOk X.prog X.w H s.heap a (.dT kvs) from I.hok a _ ea)
    exact PySem.W.kia_one PySem.W.kitx_dict I.kIn ⟨o, h1, h2.1⟩ e (fun z => nomatch z) h
  | @ins a C dx fs ea cl ha hn htk hm =>
    cases (show u = Value.ref a from rx)
    obtain ⟨mA, O, _⟩ := ins_get I.hok ea
    obtain ⟨od, J, _⟩ := O.look
    exact PySem.W.kia_one (PySem.W.kitx_own (cl.get _) cl.hd ha hn htk hm) I.kIn J e (fun z => nomatch z) h
end
end L2
namespace L2
open PySem PySem.Spec PyProof.Rows
structure Room (k : Nat) (A : Around) : Prop where
  hd : A.handled = none
  dp : A.depth + 3 * k + 5 < recursionLimit
  un : A.units + 16 * k + 200 < cLine
theorem Room.mono {j k : Nat} {A : Around} (r : Room k A) (h : j ≤ k) : Room j A := ⟨r.hd, by have := r.dp; omega, by have := r.un; omega⟩
theorem Room.deeper {k : Nat} {A : Around} (r : Room (k + 1) A) (env : Env) : Room k (A.deeper env) :=
  ⟨r.hd, by have := r.dp; show A.depth + 1 + 3 * k + 5 < _; omega, by have := r.un; show A.units + 3 + 16 * k + 200 < _; omega⟩
theorem Room.in1 {k : Nat} {A : Around} (r : Room (k + 1) A) : Room k A.in1 :=
  ⟨r.hd, by have := r.dp; show A.depth + 3 * k + 5 < _; omega, by have := r.un; show A.units + 1 + 16 * k + 200 < _; omega⟩
theorem Room.depth {k : Nat} {A : Around} (r : Room k A) : A.depth < recursionLimit := by have := r.dp; omega
theorem Room.units {k : Nat} {A : Around} (r : Room k A) : A.units + 64 < cLine := by have := r.un; omega
noncomputable def tNil : TA := fun _ H Q => Q [] H
noncomputable def tCons (ta : TE) (tr : TA) : TA := fun σ H Q => ta σ H fun x H1 => tr σ H1 fun xs H2 => Q (x :: xs) H2
section
variable {X : Cx} {e : Expr} {es : List Expr} {te : TE} {t : TA} {pos : Pos}
theorem pa_nil : PA X [] tNil := fun _ _ _ _ H Q I h => Calls.spliced_nil ⟨[], H, I, .nil, h⟩
theorem pa_cons (ha : PE X e te) (hr : PA X es t) (hs : starEach (e :: es) X.env = (false, eval e X.env) :: starEach es X.env := by rfl) : PA X (e :: es) (tCons te t) := by
  intro pos pins s σ H Q I h
  rw [hs]
  show wpAny _ _ (spliced ((false, eval e X.env) :: backTo pos (starEach es X.env))) _ _ s
  refine Calls.spliced_cons (thn (ha pins s σ H _ I h) fun u s1 ⟨x, H1, I1, r1, q1⟩ => ?_)
  exact thn (hr pos pins s1 σ H1 _ I1 q1) fun us s2 ⟨xs, H2, I2, r2, q2⟩ => ⟨x :: xs, H2, I2, .cons r1 r2, q2⟩
noncomputable def tTup (t : TA) : TE := fun σ H Q => t σ H fun xs H1 => xs.length ≤ sizeLine ∧ ∀ p, H1 p = none → Q (.ref p) (upd H1 p (.tup xs))
noncomputable def tLst (t : TA) : TE := fun σ H Q => t σ H fun xs H1 => xs.length ≤ sizeLine ∧ ∀ p, H1 p = none → Q (.ref p) (upd H1 p (.lst xs))
theorem pe_tup {x1} (h : PA X es t) : PE X (.Tuple es x1 pos) (tTup t) := by
  intro pins s σ H Q I hq
  refine wpAny_Tuple_spliced (thn (h pos pins s σ H _ I hq) fun us s1 ⟨xs, H1, I1, r, z, q⟩ => ⟨by rw [← r.length]; exact z, ?_⟩)
  have hf : H1 s1.heap.objs.size = none := I1.hok.fresh (Nat.le_refl _)
  refine ⟨.ref s1.heap.objs.size, upd H1 s1.heap.objs.size (.tup xs), I1.laid (t' := s1.toks) (fun b u e => Heap.get?_push_of_some _ e) (Nat.le_refl _) ?_, rfl, q _ hf⟩
  exact ⟨z, us, r, ⟨_, Heap.get?_push_size _ rfl, rfl, _, rfl⟩⟩
theorem pe_lst (h : PA X es t) : PE X (.List es pos) (tLst t) := by
  intro pins s σ H Q I hq
  refine wpAny_List_spliced (thn (h pos pins s σ H _ I hq) fun us s1 ⟨xs, H1, I1, r, z, q⟩ => ⟨by rw [← r.length]; exact z, ?_⟩)
  have hf : H1 s1.heap.objs.size = none := I1.hok.fresh (Nat.le_refl _)
  refine ⟨.ref s1.heap.objs.size, upd H1 s1.heap.objs.size (.lst xs), I1.laid (t' := s1.toks) (fun b u e => Heap.get?_push_of_some _ e) (Nat.le_refl _) ?_, rfl, q _ hf⟩
  exact ⟨z, us, 0, r, Heap.get?_push_size _ rfl⟩
end
noncomputable abbrev Sp := List V → Hp → VK → XK → Prop
noncomputable abbrev CXT := List Env → Hp → Shared → XK → Value → Shared → Prop
structure Env0 (P : Program) (w : World) (K : PySem.W.Frag) (mg : Str → Option Value) (base : Heap) (A : Around) (outer : List Env) (s : Shared) (H : Hp) : Prop where
  frames : A.frames = some outer
  mod : Mod K mg base
  bs : ∀ b o, base.get? b = some o → s.heap.get? b = some o ∧ H b = none
  bsz : base.objs.size ≤ s.heap.objs.size
  funs : s.heap.FunFrames base outer
  frf : ∀ b ∈ frs outer, H b = none
  hok : HOk P w H s.heap
  bare : AllBare s.gens
noncomputable def CE (outer : List Env) (P : Program) (w : World) (H : Hp) (s : Shared) (Q : VK) (u : Value) (s' : Shared) : Prop :=
  ∃ v H', s'.os = s.os ∧ AllBare s'.gens ∧ Un (frs outer) [] H H' s.heap s'.heap ∧ HOk P w H' s'.heap ∧ RelV v u ∧ Q v H'
noncomputable def CR (CX : CXT) (outer : List Env) (P : Program) (w : World) (H : Hp) (s : Shared) (Q : VK) (E : XK) (r : Result) (s' : Shared) : Prop :=
  match r with
  | .ok (.ret u) => CE outer P w H s Q u s'
  | .ok _ => False
  | .error e => CX outer H s E e s'
structure FnOk (P : Program) (w : World) (K : PySem.W.Frag) (mg : Str → Option Value) (base : Heap) (CX : CXT) (k : Nat) (f : Addr) (fd : FuncData) (ps : List Str) (sp : Sp) : Prop where
  len : ∀ vs H Q E, sp vs H Q E → vs.length = ps.length
  run : ∀ (A : Around) (outer : List Env) (s : Shared) (H : Hp) (args : Args) (us : List Value) (vs : List V) (Q : VK) (E : XK), Room k A → Env0 P w K mg base A outer s H → BindsTo s fd args (ps.zip us) → Vals vs us → sp vs H Q E →
    codeAny (model P w) A (.call (.ref f) args) (CR CX outer P w H s Q E) s
theorem FnOk.mono {P : Program} {w : World} {K : PySem.W.Frag} {mg : Str → Option Value} {base : Heap} {CX : CXT} {j k : Nat} {f : Addr} {fd : FuncData} {ps : List Str} {sp : Sp} (F : FnOk P w K mg base CX j f fd ps sp) (h : j ≤ k) :
    FnOk P w K mg base CX k f fd ps sp := ⟨F.len, fun A outer s H args us vs Q E hr => F.run A outer s H args us vs Q E (hr.mono h)⟩
theorem FnOk.imp {P : Program} {w : World} {K : PySem.W.Frag} {mg : Str → Option Value} {base : Heap} {CX : CXT} {k : Nat} {f : Addr} {fd : FuncData} {ps : List Str} {sp sp' : Sp} (F : FnOk P w K mg base CX k f fd ps sp)
    (h : ∀ vs H Q E, sp' vs H Q E → sp vs H Q E) : FnOk P w K mg base CX k f fd ps sp' :=
  ⟨fun vs H Q E q => F.len vs H Q E (h _ _ _ _ q), fun A outer s H args us vs Q E hr he hb hv hs => F.run A outer s H args us vs Q E hr he hb hv (h _ _ _ _ hs)⟩
theorem Env0.in1 {P : Program} {w : World} {K : PySem.W.Frag} {mg : Str → Option Value} {base : Heap} {A : Around} {outer : List Env} {s : Shared} {H : Hp} (e : Env0 P w K mg base A outer s H) :
    Env0 P w K mg base A.in1 outer s H := ⟨e.frames, e.mod, e.bs, e.bsz, e.funs, e.frf, e.hok, e.bare⟩
section
variable {X : Cx} {pins : List (Addr × Obj)} {σ : St} {H : Hp} {s s' : Shared}
theorem Inv.env0 (I : Inv X pins σ H s) : Env0 X.prog X.w X.K X.mg X.base X.A X.stack s H :=
  ⟨I.ok.frames, I.ok.mod, I.bs, Nat.le_trans I.ok.bsz I.sz, I.stack, I.stkFree, I.hok, I.bare⟩
theorem Inv.after {Q : VK} {u : Value} (I : Inv X pins σ H s) (h : CE X.stack X.prog X.w H s Q u s') : EP X pins σ Q u s' := by
  obtain ⟨v, H', os, bare, un, hok, r, q⟩ := h
  obtain ⟨hh, g, d, t, os'⟩ := s'
  obtain rfl : os' = s.os := os
  exact ⟨v, H', I.call (h' := hh) (g' := g) (d' := d) (t' := t) (ch := []) un hok bare (fun b z => absurd z (by simp)), r, q⟩
end
noncomputable def tCall (sp : Sp) (dvs : List V) (E : XK) (t : TA) : TE := fun σ H Q => t σ H fun vs H1 => sp (vs ++ dvs) H1 Q E
noncomputable def Binds (K : PySem.W.Frag) (fd : FuncData) (ps : List Str) (ds : List Value) : Prop :=
  ∀ (s : Shared) (us : List Value), K.In s.heap → (us ++ ds).length = ps.length → BindsTo s fd ⟨us, []⟩ (ps.zip (us ++ ds))
theorem Binds.all {K : PySem.W.Frag} {fd : FuncData} {ps : List Str} (h : ∀ us : List Value, us.length = ps.length → bindArgs fd ⟨us, []⟩ = pure (ps.zip us)) : Binds K fd ps [] := fun s us _ hl => by
  rw [List.append_nil] at hl ⊢
  exact .of_eq (h us hl)
noncomputable def Passes (CX : CXT) (X : Cx) (E : XK) : Prop := ∀ (pins : List (Addr × Obj)) (σ : St) (H : Hp) (s : Shared) (e : Value) (s' : Shared), Inv X pins σ H s → CX X.stack H s E e s' → X.xe e s'
section
variable {X : Cx} {CX : CXT} {k : Nat} {f C : Addr} {fd : FuncData} {ps : List Str} {sp : Sp} {dvs : List V} {ds : List Value} {E : XK} {x m : Str} {p pos apos : Pos} {e o : Expr} {es : List Expr} {ta : TE} {t : TA}
theorem run_fn {pins : List (Addr × Obj)} {σ : St} {H : Hp} {s : Shared} {Q : VK} {us : List Value} {vs : List V} (F : FnOk X.prog X.w X.K X.mg X.base CX k f fd ps sp) (hr : Room k X.A) (hb : Binds X.K fd ps ds) (hd : Vals dvs ds) (hx : Passes CX X E)
    (I : Inv X pins σ H s) (r : Vals vs us) (h : sp (vs ++ dvs) H Q E) : wpAny (model X.prog X.w) X.A (call (.ref f) us) (EP X pins σ Q) X.xe s := by
  have r2 : Vals (vs ++ dvs) (us ++ ds) := r.append hd
  have hl : (us ++ ds).length = ps.length := by rw [← r2.length]; exact F.len _ _ _ _ h
  refine wpAny_call (codeAny_mono (F.run X.A X.stack s H ⟨us, []⟩ (us ++ ds) (vs ++ dvs) Q E hr I.env0 (hb s us I.kIn hl) r2 h) fun r s' hq => ?_)
  cases r with
  | error e => exact hx pins σ H s e s' I hq
  | ok fl =>
    cases fl with
    | ret u => exact I.after hq
    | next => exact False.elim hq
    | brk => exact False.elim hq
    | cont => exact False.elim hq
theorem pe_call (F : FnOk X.prog X.w X.K X.mg X.base CX k f fd ps sp) (hr : Room k X.A) (hg : Gl X x) (hm : X.mg x = some (.ref f)) (hk : PySem.W.keepIn X.K (.ref f) = true) (hb : Binds X.K fd ps ds) (hd : Vals dvs ds) (hx : Passes CX X E)
    (ha : PA X (e :: es) t) (hdb : (x == ("__debug__" : Str)) = false := by decide) (he : starEach (e :: es) X.env = (false, eval e X.env) :: starEach es X.env := by rfl) (hpl : (backTo pos (starEach es X.env)).any (·.1) = false := by rfl) :
    PE X (.Call (.Name x p) (e :: es) [] pos) (tCall sp dvs E t) := by
  intro pins s σ H Q I h
  refine wpAny_Call_Name_kw (ld_glob I hg hm ?_ hdb)
  refine PySem.W.callWith_K (h₀ := X.base) I.ok.mod.kin hk (thn (ha pos pins s σ H _ I h) fun us s1 ⟨vs, H1, I1, r, q⟩ => ⟨I1.kIn, ?_⟩) he hpl
  exact run_fn F hr hb hd hx I1 r q
structure Mk (K : PySem.W.Frag) (C f : Addr) : Prop where
  makes : PySem.W.makesIn K C = true
  init : PySem.W.findIn K (.ref C) "__init__" = some (some (.ref f))
  fn : PySem.W.isFn K (.ref f) = true
  kp : PySem.W.keepIn K (.ref C) = true
end
section
variable {X : Cx} {CX : CXT} {k : Nat} {f C : Addr} {fd : FuncData} {ps ks : List Str} {sp : Sp} {E : XK} {x m : Str} {p pos apos kpos : Pos} {e o : Expr} {es : List Expr} {kws : List Keyword} {te ta : TE} {t tk : TA} {nm : Option Str}
structure KBinds (K : PySem.W.Frag) (fd : FuncData) (ps ks : List Str) (g : List Value → List Value → List Value) (gV : List V → List V → List V) : Prop where
  to : ∀ (s : Shared) (us ws : List Value), K.In s.heap → (g us ws).length = ps.length → BindsTo s fd ⟨us, ks.zip ws⟩ (ps.zip (g us ws))
  rel : ∀ {vs : List V} {us : List Value} {zs : List V} {ws : List Value}, Vals vs us → Vals zs ws → Vals (gV vs zs) (g us ws)
variable {g : List Value → List Value → List Value} {gV : List V → List V → List V}
end
structure FnScope (N P : List Str) (sc : Scope) : Prop where
  kind : sc.kind = .function
  co : sc.isCoroutine = false
  gen : sc.isGenerator = false
  nd : N.Nodup
  pre : N.take P.length = P
  par : ∀ x ∈ P, sc.names.lookup x = some .local ∨ sc.names.lookup x = some .cell
  nofree : ∀ y ∈ sc.names, y.2 ≠ .free
theorem bindL_out {kindOf : Str → Option NameKind} {x : Str} : ∀ {binds : List (Str × Value)} {m : Str → Option Value}, (∀ v, (x, v) ∉ binds) → bindL kindOf binds m x = m x
  | [], _, _ => rfl
  | (n, v) :: r, m, h => by
    unfold bindL
    rw [bindL_out fun w hw => h w (List.mem_cons_of_mem _ hw)]
    split
    · have : x ≠ n := by rintro rfl; exact h v List.mem_cons_self
      simp [this]
    · rfl
theorem bindC_out {kindOf : Str → Option NameKind} {x : Str} : ∀ {binds : List (Str × Value)} {m : Str → Option Value}, (∀ v, (x, v) ∉ binds) → bindC kindOf binds m x = m x
  | [], _, _ => rfl
  | (n, v) :: r, m, h => by
    unfold bindC
    rw [bindC_out fun w hw => h w (List.mem_cons_of_mem _ hw)]
    split
    · rfl
    · have : x ≠ n := by rintro rfl; exact h v List.mem_cons_self
      simp [this]
theorem bindL_get {kindOf : Str → Option NameKind} {x : Str} {v : Value} : ∀ {P : List Str} {vs : List Value} {i : Nat} {m : Str → Option Value}, P.Nodup → P[i]? = some x → vs[i]? = some v → kindOf x = some .local →
    bindL kindOf (P.zip vs) m x = some v
  | [], _, _, _, _, h, _, _ => by simp at h
  | _ :: _, [], _, _, _, _, h, _ => by simp at h
  | p :: P, w :: vs, 0, m, nd, h1, h2, hk => by
    simp at h1 h2; subst h1; subst h2
    show bindL kindOf ((p, w) :: P.zip vs) m p = _
    unfold bindL
    rw [bindL_out fun v hv => (List.nodup_cons.mp nd).1 (List.of_mem_zip hv).1, if_pos hk]
    simp
  | p :: P, w :: vs, i + 1, m, nd, h1, h2, hk => by
    show bindL kindOf ((p, w) :: P.zip vs) m x = _
    unfold bindL
    exact bindL_get (i := i) (List.nodup_cons.mp nd).2 (by simpa using h1) (by simpa using h2) hk
theorem bindC_get {kindOf : Str → Option NameKind} {x : Str} {v : Value} : ∀ {P : List Str} {vs : List Value} {i : Nat} {m : Str → Option Value}, P.Nodup → P[i]? = some x → vs[i]? = some v → kindOf x ≠ some .local →
    bindC kindOf (P.zip vs) m x = some v
  | [], _, _, _, _, h, _, _ => by simp at h
  | _ :: _, [], _, _, _, _, h, _ => by simp at h
  | p :: P, w :: vs, 0, m, nd, h1, h2, hk => by
    simp at h1 h2; subst h1; subst h2
    show bindC kindOf ((p, w) :: P.zip vs) m p = _
    unfold bindC
    rw [bindC_out fun v hv => (List.nodup_cons.mp nd).1 (List.of_mem_zip hv).1, if_neg hk]
    simp
  | p :: P, w :: vs, i + 1, m, nd, h1, h2, hk => by
    show bindC kindOf ((p, w) :: P.zip vs) m x = _
    unfold bindC
    exact bindC_get (i := i) (List.nodup_cons.mp nd).2 (by simpa using h1) (by simpa using h2) hk
noncomputable def start (N : List Str) (vs : List V) : St := vs.map some ++ List.replicate (N.length - vs.length) none
noncomputable def cxOf (CX : CXT) (P : Program) (w : World) (K : PySem.W.Frag) (mg : Str → Option Value) (base : Heap) (N : List Str) (qual : Str) (scope : Scope) (f : Addr) (cd : Value) (A : Around) (outer : List Env) (s : Shared) (H : Hp) (E : XK) : Cx where
  prog := P
  w := w
  K := K
  mg := mg
  base := base
  A := A.deeper (envOfC qual scope s.heap.objs.size f cd)
  N := N
  s₀ := s
  H₀ := H
  env := envOfC qual scope s.heap.objs.size f cd
  outer := outer
  stack := envOfC qual scope s.heap.objs.size f cd :: outer
  ex := []
  calm := true
  fn := fun _ => true
  pn := []
  xe := fun e s' => wpAny (model P w) (A.deeper (envOfC qual scope s.heap.objs.size f cd)) (leaving (envOfC qual scope s.heap.objs.size f cd) e) (fun _ s'' => CX outer H s E e s'') (fun e' s'' => CX outer H s E e' s'') s'
theorem cell_has {sc : Scope} {n : Nat} {x : Str} (h : sc.names.lookup x = some .cell) : ∃ c, (cellsFrom n sc.names []).lookup x = some c := by
  have q := PySem.W.cellsFrom_some sc.names n [] (.inl h)
  exact Option.isSome_iff_exists.mp q
theorem inv_start {CX : CXT} {P : Program} {w : World} {K : PySem.W.Frag} {mg : Str → Option Value} {base : Heap} {N ps : List Str} {qual : Str} {scope : Scope} {f : Addr} {cd : Value} {A : Around} {outer : List Env} {s s1 : Shared} {H : Hp} {E : XK} {us : List Value} {vs : List V}
    (S : FnScope N ps scope) (hd : A.handled = none) (e0 : Env0 P w K mg base A outer s H) (hl : vs.length = ps.length) (r : Vals vs us)
    (x : InCallC s s.heap.objs.size (bindL (envOfC qual scope s.heap.objs.size f cd).kindOf (ps.zip us) fun _ => none) (cellsFrom (s.heap.objs.size + 1) scope.names []) (bindC (envOfC qual scope s.heap.objs.size f cd).kindOf (ps.zip us) fun _ => none) s1) :
    Inv (cxOf CX P w K mg base N qual scope f cd A outer s H E) [] (start N vs) H s1 := by
  have hpl : ps.length ≤ N.length := by have := congrArg List.length S.pre; rw [List.length_take] at this; omega
  obtain ⟨h1, tk, rfl, hk⟩ := x.done
  have noA : ∀ b : Addr, b ∉ (cxOf CX P w K mg base N qual scope f cd A outer s H E).ex := fun b z => absurd (show b ∈ ([] : List Addr) from z) (by simp)
  refine ⟨⟨e0.mod, S.kind, rfl, rfl, Nat.le_refl _, fun y z c h1 h2 => ?_, fun y hy => ?_, fun y c _ h => ?_, fun _ => hd, Around.frames_deeper e0.frames, .inr ⟨rfl, rfl⟩, fun b z => absurd z (noA b), e0.bs, e0.bsz, fun b _ _ => noA b, fun b z => absurd z (noA b), e0.funs, e0.frf⟩,
    rfl, e0.bare, Un.kept hk, ⟨_, x.toInCall.ns, fun i y v h1 h2 h3 => ?_⟩, fun y c h => ⟨_, x.cell y c h⟩, e0.hok.fresh (Nat.le_refl _), fun y c h => ?_, fun p hp => absurd (show p ∈ ([] : List (Addr × Obj)) from hp) (by simp), e0.hok.kept hk, ?_⟩
  · exact name_of_addr x.apart (PySem.mem_of_lookup h1) (PySem.mem_of_lookup h2)
  · have hy : scope.names.lookup y = some .cell ∨ scope.names.lookup y = some .free := hy
    rcases hy with hy | hy
    · exact cell_has hy
    · exact absurd rfl (S.nofree _ (PySem.mem_of_lookup hy))
  · exact Nat.le_of_lt (x.above y c (PySem.mem_of_lookup h))
  · have hi : i < vs.length := by
      unfold start at h2
      by_cases hi : i < vs.length
      · exact hi
      · rw [List.getElem?_append_right (by simpa using hi)] at h2
        rw [List.getElem?_replicate] at h2
        split at h2 <;> cases h2
    have ha : vs[i]? = some v := by
      unfold start at h2
      rw [List.getElem?_append_left (by simpa using hi), List.getElem?_map] at h2
      cases e : vs[i]? with
      | none => rw [e] at h2; cases h2
      | some a => rw [e] at h2; cases h2; rfl
    obtain ⟨u, hu, rv⟩ := r.get ha
    have hp : ps[i]? = some y := by
      rw [← S.pre, List.getElem?_take_of_lt (by omega)]; exact h1
    have ndP : ps.Nodup := by rw [← S.pre]; exact S.nd.sublist (List.take_sublist _ _)
    refine ⟨u, rv, ?_⟩
    rcases S.par y (List.mem_of_getElem? hp) with k | k
    · exact .inl ⟨k, bindL_get ndP hp hu k⟩
    · obtain ⟨c, e⟩ := cell_has (n := s.heap.objs.size + 1) k
      refine .inr ⟨.inl k, c, e, ?_⟩
      have q := x.cell y c e
      rw [bindC_get ndP hp hu (by show scope.names.lookup y ≠ _; rw [k]; decide)] at q
      exact q
  · exact e0.hok.fresh (Nat.le_of_lt (x.above y c (PySem.mem_of_lookup h)))
  · unfold start
    show _ = N.length
    rw [List.length_append, List.length_map, List.length_replicate]
    omega
theorem fn_of {CX : CXT} {P : Program} {w : World} {K : PySem.W.Frag} {mg : Str → Option Value} {base : Heap} {k : Nat} {f : Addr} {name qual : Str} {params : Arguments} {body : List Stmt} {scope : Scope} {dV kV doc pm cdv ct oc : Value} {an od : Option Addr}
    {osl : Array (Option Value)} {N ps : List Str} {sp : Sp} (lk : K.lookup f = some ⟨oc, od, .func (PySem.W.fnOf name qual params body scope dV kV doc pm an cdv ct), osl⟩) (hcd : PySem.W.codeIn K cdv qual = true) (S : FnScope N ps scope)
    (len : ∀ vs H Q E, sp vs H Q E → vs.length = ps.length)
    (hbody : ∀ (A : Around) (outer : List Env) (s : Shared) (H : Hp) (vs : List V) (Q : VK) (E : XK), Room k (A.deeper (envOfC qual scope s.heap.objs.size f cdv)) → sp vs H Q E →
      ∃ t, PSs (cxOf CX P w K mg base N qual scope f cdv A outer s H E) body t ∧ t { nx := fun _ H' => Q .non H', rt := Q } (start N vs) H) :
    FnOk P w K mg base CX (k + 1) f (PySem.W.fnOf name qual params body scope dV kV doc pm an cdv ct) ps sp := by
  refine ⟨len, fun A outer s H args us vs Q E hr e0 hb r hsp => ?_⟩
  have hl := len _ _ _ _ hsp
  have KX : K.In s.heap := e0.mod.kin.keeps fun b o e => (e0.bs b o e).1
  have lim : s.heap.NoLimit := e0.mod.nolimit.keeps fun b o e => (e0.bs b o e).1
  have hkind : ∀ y ∈ ps.zip us, scope.names.lookup y.1 = some .local ∨ (scope.names.lookup y.1 = some .cell ∧ ((cellsFrom (s.heap.objs.size + 1) scope.names []).lookup y.1).isSome = true) := fun ⟨n, v⟩ hy => by
    rcases S.par n (List.of_mem_zip hy).1 with q | q
    · exact .inl q
    · exact .inr ⟨q, PySem.W.cellsFrom_some _ _ _ (.inl q)⟩
  refine codeAny_call_function hr.depth (KX _ _ lk) rfl S.co S.gen rfl (PySem.W.codeRec_of KX hcd) (hb _ _ _ _ ?_)
  refine wpAny_newFunctionEnv_cells S.kind hkind fun env he s1 x => ?_
  subst he
  refine ⟨lim.keeps x.toInCall.keep, codeAny_func ?_⟩
  obtain ⟨t, ht, hq⟩ := hbody A outer s H vs Q E (hr.deeper _) hsp
  have I : Inv (cxOf CX P w K mg base N qual scope f cdv A outer s H E) [] (start N vs) H s1 := inv_start S hr.hd e0 hl r x
  refine wpAny_mono (ht [] s1 (start N vs) H _ I hq) (fun fl s' hs => ?_) fun e s' hs => hs
  have fin : ∀ {σ' : St} {H' : Hp} {v : V} {u : Value}, Inv (cxOf CX P w K mg base N qual scope f cdv A outer s H E) [] σ' H' s' → RelV v u → Q v H' → CE outer P w H s Q u s' :=
    fun {σ' H' v u} J rv q => ⟨v, H', J.os, J.bare, J.base, J.hok, rv, q⟩
  cases fl with
  | ret u =>
    obtain ⟨v, σ', H', J, rv, q⟩ := hs
    exact fin J rv q
  | next =>
    obtain ⟨σ', H', J, q⟩ := hs
    exact fin (v := V.non) (u := Value.none) J rfl q
  | brk =>
    obtain ⟨_, _, _, q⟩ := hs
    exact False.elim q
  | cont =>
    obtain ⟨_, _, _, q⟩ := hs
    exact False.elim q
end L2
namespace L2
open PySem PySem.Spec PyProof.Rows
section
variable {X : Cx} {x : Str} {p pos : Pos} {e : Expr} {es : List Expr} {t : TA} {id T : String} {r : List V → Hp → VK → Prop}
noncomputable def tCB (r : List V → Hp → VK → Prop) (t : TA) : TE := fun σ H Q => t σ H fun vs H1 => r vs H1 Q
theorem pe_callB (hc : CallR X (.builtin id) r) (hg : Gl X x) (hm : X.mg x = none) (hv : bootBuiltins x = some (.builtin id)) (ha : PA X (e :: es) t) (hn : x ≠ "__name__" := by decide) (hdb : (x == ("__debug__" : Str)) = false := by decide)
    (he : starEach (e :: es) X.env = (false, eval e X.env) :: starEach es X.env := by rfl) (hpl : (backTo pos (starEach es X.env)).any (·.1) = false := by rfl) : PE X (.Call (.Name x p) (e :: es) [] pos) (tCB r t) := by
  intro pins s σ H Q I h
  refine wpAny_Call_Name_kw (ld_blt I hg hm hv ?_ hn hdb)
  exact PyProof.Rows.callWith_builtin1 (thn (ha pos pins s σ H _ I h) fun us s1 ⟨vs, H1, I1, r1, q1⟩ => hc pins s1 σ H1 vs us Q I1 r1 q1) he hpl
theorem pe_callTy (hc : CallR X (.type T) r) (hg : Gl X x) (hm : X.mg x = none) (hv : bootBuiltins x = some (.type T)) (ha : PA X (e :: es) t) (hn : x ≠ "__name__" := by decide) (hdb : (x == ("__debug__" : Str)) = false := by decide)
    (he : starEach (e :: es) X.env = (false, eval e X.env) :: starEach es X.env := by rfl) (hpl : (backTo pos (starEach es X.env)).any (·.1) = false := by rfl) : PE X (.Call (.Name x p) (e :: es) [] pos) (tCB r t) := by
  intro pins s σ H Q I h
  refine wpAny_Call_Name_kw (ld_blt I hg hm hv ?_ hn hdb)
  exact PyProof.Rows.callWith_type1 (thn (ha pos pins s σ H _ I h) fun us s1 ⟨vs, H1, I1, r1, q1⟩ => hc pins s1 σ H1 vs us Q I1 r1 q1) he hpl
end
end L2
namespace HT
open PySem PyProof.Rows
section
open PySem.SeqAt
open PySem.AutoSeq1 (wpAny_loadPart')
open PySem.MeetsSeq PySem.MeetsSeq2 PySem.MeetsSeq3
end
section
variable {prog : Program} {w : World} {A : Around} {E : Value → Shared → Prop} {s : Shared}
noncomputable def sIx (n d : Nat) : Option Int → Nat
  | none => d
  | some v => if v < 0 then (v + (n : Int)).toNat else min v.toNat n
theorem sIx_none (n d : Nat) : sIx n d none = d := rfl
theorem sIx_nat (n d k : Nat) : sIx n d (some (k : Int)) = min k n := by
  show (if (k : Int) < 0 then ((k : Int) + (n : Int)).toNat else min (k : Int).toNat n) = min k n
  rw [if_neg (by omega), Int.toNat_natCast]
theorem sIx_le (n d : Nat) (hd : d ≤ n) (o : Option Int) : sIx n d o ≤ n := by
  cases o with
  | none => exact hd
  | some v =>
    show (if v < 0 then (v + (n : Int)).toNat else min v.toNat n) ≤ n
    by_cases hv : v < 0
    · rw [if_pos hv]; omega
    · rw [if_neg hv]; exact Nat.min_le_right _ _
theorem clip_eq (v : Int) (n d : Nat) : (if v < 0 then max (v + (n : Int)) 0 else min v (n : Int)) = ((sIx n d (some v) : Nat) : Int) := by
  show (if v < 0 then max (v + (n : Int)) 0 else min v (n : Int)) = (((if v < 0 then (v + (n : Int)).toNat else min v.toNat n) : Nat) : Int)
  by_cases hv : v < 0
  · simp only [if_pos hv]; omega
  · simp only [if_neg hv]; omega
theorem adjust_gen (lo hi : Option Int) (n : Nat) : Builtin.Slice.sliceAdjust lo hi 1 (n : Int) = (((sIx n 0 lo : Nat) : Int), ((sIx n n hi : Nat) : Int)) := by
  have h1 : ¬ ((1 : Int) < 0) := by omega
  unfold Builtin.Slice.sliceAdjust
  simp only [h1, if_false]
  refine Prod.ext ?_ ?_
  · cases lo with
    | none => rfl
    | some v => exact clip_eq v n 0
  · cases hi with
    | none => rfl
    | some v => exact clip_eq v n n
theorem places_gen (i j : Nat) : Builtin.Slice.slicePlaces (i : Int) (j : Int) 1 = j - i := by
  unfold Builtin.Slice.slicePlaces
  have h1 : (1 : Int) > 0 := by omega
  simp only [h1, if_true, Int.ediv_one]
  split <;> omega
theorem slicePart_ {v : Value} {o : Option Int} {Q : Option Int → Shared → Prop} (p : IsPart v o) (h : Q o s) : wpAny (model prog w) A (Builtin.Slice.slicePartIndex v) Q E s := by
  cases p with
  | none => exact slicePart_none h
  | int i t => exact slicePart_int h
theorem sliceApplied_gen {sl : Addr} {vl vu : Value} {lo hi : Option Int} {n : Nat} {Q : Int × Int × Nat → Shared → Prop} (hs : s.heap.IsSliceOf sl vl vu .none) (pl : IsPart vl lo) (pu : IsPart vu hi)
    (h : Q (((sIx n 0 lo : Nat) : Int), 1, sIx n n hi - sIx n 0 lo) s) : wpAny (model prog w) A (Builtin.Slice.sliceApplied (.ref sl) (pure (n : Int))) Q E s := by
  obtain ⟨os, hos, hcs, hds⟩ := id hs
  unfold Builtin.Slice.sliceApplied Builtin.Slice.sliceFields
  refine wpAny_bind (wpAny_bind (wpAny_field hos hds (x := vl) rfl (wpAny_bind (wpAny_field hos hds (x := vu) rfl (wpAny_bind (wpAny_field hos hds (x := .none) rfl (wpAny_pure ?_)))))))
  refine wpAny_bind (slicePart_none ?_)
  show wpAny _ _ (if ((1 : Int) == 0) = true then _ else _) _ _ s
  rw [if_neg (by decide)]
  refine wpAny_bind (slicePart_ pl (wpAny_bind (slicePart_ pu (wpAny_bind (wpAny_pure ?_)))))
  show wpAny _ _ (match Builtin.Slice.sliceAdjust lo hi 1 (n : Int) with | (lo, hi) => pure (lo, (1 : Int), Builtin.Slice.slicePlaces lo hi 1)) _ _ s
  rw [adjust_gen lo hi n]
  show wpAny _ _ (pure (((sIx n 0 lo : Nat) : Int), (1 : Int), Builtin.Slice.slicePlaces ((sIx n 0 lo : Nat) : Int) ((sIx n n hi : Nat) : Int) 1)) _ _ s
  rw [places_gen]
  exact wpAny_pure h
theorem pick_gen (xs : Array Value) (i k : Nat) : ((List.range k).filterMap fun (m : Nat) => xs[((i : Int) + (m : Int) * 1).toNat]?).toArray = ((xs.toList.drop i).take k).toArray := by
  have e : (fun (m : Nat) => xs[((i : Int) + (m : Int) * 1).toNat]?) = fun m => xs[i + m]? := by
    funext m
    have : ((i : Int) + (m : Int) * 1).toNat = i + m := by omega
    rw [this]
  rw [e]
  have := pick_run xs i k
  rw [List.filterMap_map] at this
  have e2 : ((fun x => xs[x]?) ∘ fun x => i + x) = fun m => xs[i + m]? := rfl
  rw [e2] at this
  rw [this]
theorem getItem_tuple_cut {t sl : Addr} {items : Array Value} {vl vu : Value} {lo hi : Option Int} {Q : Value → Shared → Prop} (ht : IsTup s.heap t items) (hs : s.heap.IsSliceOf sl vl vu .none) (pl : IsPart vl lo) (pu : IsPart vu hi)
    (hw : ¬ (sIx items.size 0 lo = 0 ∧ sIx items.size items.size hi = items.size))
    (h : Q (.ref s.heap.objs.size) { s with heap := s.heap.push { cls := .type "tuple", data := .seq ((items.toList.drop (sIx items.size 0 lo)).take (sIx items.size items.size hi - sIx items.size 0 lo)).toArray } })
    (hsz : items.size ≤ sizeLine) : wpAny (model prog w) A (getItem (.ref t) (.ref sl)) Q E s := by
  have htake : sizeOk (.seq ((items.toList.drop (sIx items.size 0 lo)).take (sIx items.size items.size hi - sIx items.size 0 lo)).toArray) := by
    show ((items.toList.drop (sIx items.size 0 lo)).take (sIx items.size items.size hi - sIx items.size 0 lo)).toArray.size ≤ sizeLine
    rw [List.size_toArray, List.length_take, List.length_drop, Array.length_toList]
    omega
  have hj : sIx items.size items.size hi ≤ items.size := sIx_le _ _ (Nat.le_refl _) hi
  obtain ⟨os, hos, hcs, hds⟩ := id hs
  have hTs : s.TypeIs (.ref sl) "slice" := ⟨os, hos, hcs⟩
  unfold getItem
  try with_reducible refine wpAny_holding ?_
  first | refine wpAny_bind (wpAny_pure ?_) | skip
  refine wpAny_bind (wpAny_sequenceKey ht.typeIs (by decide) ?_)
  refine wpAny_bind (wpAny_callSpecial?_slot (name := Str.ofString "__getitem__") ht.typeIs PyProof.Rows.slot_tuple_getitem
    (wpAny_call_entry PyProof.Rows.slot_tuple_getitem ht.typeIs entry_tuple_getitem ?_ (args_tuple_getitem _ _)))
  show wpAny _ _ (Builtin.Tuple.tupleItemsOf (.ref t) >>= _) _ _ s
  refine wpAny_bind (tupleItemsOf_ ht ?_)
  refine wpAny_bind (wpAny_typeOf hTs ?_)
  rw [if_pos (by decide)]
  refine wpAny_bind (sliceApplied_gen hs pl pu ?_)
  have hno : ¬ ((((sIx items.size 0 lo : Nat) : Int) == 0 && (1 : Int) == 1 && (sIx items.size items.size hi - sIx items.size 0 lo) == items.size) = true) := by
    intro q
    rw [Bool.and_eq_true, Bool.and_eq_true] at q
    have q1 : ((sIx items.size 0 lo : Nat) : Int) = 0 := eq_of_beq q.1.1
    have q2 : sIx items.size items.size hi - sIx items.size 0 lo = items.size := eq_of_beq q.2
    exact hw ⟨by omega, by omega⟩
  show wpAny _ _ (if (((sIx items.size 0 lo : Nat) : Int) == 0 && (1 : Int) == 1 && (sIx items.size items.size hi - sIx items.size 0 lo) == items.size) = true then _ else _) _ _ s
  rw [if_neg hno, pick_gen]
  first
    | exact wpAny_bind (m := Builtin.Tuple.tupleExact _) (wpAny_newObj_type (wpAny_pure ⟨_, rfl, wpAny_pure h⟩) htake)
    | exact wpAny_bind (m := Builtin.Tuple.tupleExact _) (wpAny_newObj_type (wpAny_bind (wpAny_pure (wpAny_pure ⟨_, rfl, wpAny_pure h⟩))) htake)
    | exact wpAny_bind (wpAny_bind (m := Builtin.Tuple.tupleExact _) (wpAny_newObj_type (wpAny_pure (wpAny_pure ⟨_, rfl, wpAny_pure h⟩)) htake))
    | exact wpAny_bind (wpAny_bind (m := Builtin.Tuple.tupleExact _) (wpAny_newObj_type (wpAny_pure ⟨_, rfl, wpAny_pure h⟩) htake))
end
end HT
namespace L2
open PySem PySem.Spec PyProof.Rows
noncomputable abbrev TO := St → Hp → (Option Int → Hp → Prop) → Prop
noncomputable def PO (X : Cx) (e : Option Expr) (t : TO) : Prop :=
  ∀ (pins : List (Addr × Obj)) (s : Shared) (σ : St) (H : Hp) (Q : Option Int → Hp → Prop), Inv X pins σ H s → t σ H Q →
    wpAny (model X.prog X.w) X.A (evalPart e X.env) (fun u s' => ∃ o H', Inv X pins σ H' s' ∧ IsPart u o ∧ Q o H') X.xe s
noncomputable def tNoPart : TO := fun _ H Q => Q none H
noncomputable def tPart (t : TE) : TO := fun σ H Q => t σ H fun x H1 => ∃ i, x = .int i ∧ Q (some i) H1
section
variable {X : Cx} {e : Expr} {te : TE} {lo hi : Option Expr} {tl th : TO} {pos p2 : Pos}
theorem po_none : PO X none tNoPart := by
  intro pins s σ H Q I h
  rw [evalPart_none]
  exact wpAny_pure ⟨none, H, I, .none, h⟩
theorem po_some (h : PE X e te) : PO X (some e) (tPart te) := by
  intro pins s σ H Q I hw
  rw [evalPart_some]
  refine thn (h pins s σ H _ I hw) fun u s1 ⟨x, H1, I1, r1, q1⟩ => ?_
  obtain ⟨i, rfl, q⟩ := q1
  obtain ⟨t, rfl⟩ := r1
  exact ⟨some i, H1, I1, .int i t, q⟩
noncomputable def SlR (X : Cx) (r : V → Option Int → Option Int → Hp → VK → Prop) : Prop :=
  ∀ (pins : List (Addr × Obj)) (s : Shared) (σ : St) (H : Hp) (x : V) (v vl vu : Value) (lo hi : Option Int) (sl : Addr) (Q : VK), Inv X pins σ H s → RelV x v → s.heap.IsSliceOf sl vl vu .none → IsPart vl lo → IsPart vu hi → r x lo hi H Q →
    ∃ T id, typeLookup (.type T) "__getitem__" = pure (some (.builtin id)) ∧ s.TypeIs v T ∧ wpAny (model X.prog X.w) X.A (getItem v (.ref sl)) (EP X pins σ Q) X.xe s
theorem SlR.or {r r' : V → Option Int → Option Int → Hp → VK → Prop} (h : SlR X r) (h' : SlR X r') : SlR X (fun x lo hi H Q => r x lo hi H Q ∨ r' x lo hi H Q) := by
  intro pins s σ H x v vl vu lo hi sl Q I rx hs pl pu q
  rcases q with q | q
  · exact h pins s σ H x v vl vu lo hi sl Q I rx hs pl pu q
  · exact h' pins s σ H x v vl vu lo hi sl Q I rx hs pl pu q
noncomputable def tSl (r : V → Option Int → Option Int → Hp → VK → Prop) (te : TE) (tl th : TO) : TE := fun σ H Q => te σ H fun x H1 => tl σ H1 fun l H2 => th σ H2 fun u H3 => r x l u H3 Q
theorem pe_slice {r : V → Option Int → Option Int → Hp → VK → Prop} (hr : SlR X r) (he : PE X e te) (hl : PO X lo tl) (hu : PO X hi th) : PE X (.Subscript e (.Slice lo hi none p2) pos) (tSl r te tl th) := by
  intro pins s σ H Q I h
  refine Subscript_ (thn (he pins s σ H _ I h) fun v s1 ⟨x, H1, I1, r1, q1⟩ => ?_)
  refine wpAny_Slice (thn (hl pins s1 σ H1 _ I1 q1) fun vl s2 ⟨l, H2, I2, pl, q2⟩ => thn (hu pins s2 σ H2 _ I2 q2) fun vu s3 ⟨u, H3, I3, pu, q3⟩ => ?_)
  rw [evalPart_none]
  refine wpAny_pure ?_
  have I4 : Inv X pins σ H3 { s3 with heap := s3.heap.push { cls := .type "slice", data := .fields #[vl, vu, .none] } } := I3.kept (t' := s3.toks) fun b ob q => Heap.get?_push_of_some _ q
  obtain ⟨T, id, hT, ht, hg⟩ := hr pins { s3 with heap := s3.heap.push { cls := .type "slice", data := .fields #[vl, vu, .none] } } σ H3 x v vl vu l u s3.heap.objs.size Q I4 r1 (Heap.IsSliceOf.new ..) pl pu q3
  show wpAny (model X.prog X.w) X.A (subscriptTail e (.Slice lo hi none p2) v (.ref s3.heap.objs.size)) (EP X pins σ Q) X.xe { s3 with heap := s3.heap.push { cls := .type "slice", data := .fields #[vl, vu, .none] } }
  exact tail_any (ops := [.ref s3.heap.objs.size, v]) ht hT hg (by with_unfolding_all rfl)
noncomputable def cutV (xs : List V) (lo hi : Option Int) : List V := (xs.drop (HT.sIx xs.length 0 lo)).take (HT.sIx xs.length xs.length hi - HT.sIx xs.length 0 lo)
theorem cutV_length (xs : List V) (lo hi : Option Int) : (cutV xs lo hi).length ≤ xs.length := by
  unfold cutV
  rw [List.length_take, List.length_drop]
  omega
noncomputable def rSlT (K : PySem.W.Frag) : V → Option Int → Option Int → Hp → VK → Prop := fun x lo hi H Q => ∃ a xs, x = .ref a ∧ SqT K H a xs ∧
  ¬ (HT.sIx xs.length 0 lo = 0 ∧ HT.sIx xs.length xs.length hi = xs.length) ∧ ∀ p, H p = none → Q (.ref p) (upd H p (.tup (cutV xs lo hi)))
theorem sl_tup : SlR X (rSlT X.K) := by
  intro pins s σ H x v vl vu lo hi sl Q I rx hs pl pu h
  obtain ⟨a, xs, rfl, hx, hw, q⟩ := h
  cases rx
  obtain ⟨its, r, ht, hz⟩ := I.tuple hx
  have hlen : its.toArray.size = xs.length := by rw [List.size_toArray]; exact r.length.symm
  refine ⟨"tuple", _, PyProof.Rows.slot_tuple_getitem.lookup, ht.typeIs, ?_⟩
  refine HT.getItem_tuple_cut ht hs pl pu (by rw [hlen]; exact hw) ?_ (by rw [hlen]; exact hz)
  rw [hlen]
  refine ⟨.ref s.heap.objs.size, _, I.laid (t' := s.toks) (o := .tup (cutV xs lo hi)) (fun b ob q => Heap.get?_push_of_some _ q) (Nat.le_refl _) ?_, rfl, q _ (I.hok.fresh (Nat.le_refl _))⟩
  exact ⟨Nat.le_trans (cutV_length xs lo hi) hz, _, (r.drop (HT.sIx xs.length 0 lo)).take (HT.sIx xs.length xs.length hi - HT.sIx xs.length 0 lo), IsTup.new _ _⟩
end
end L2
namespace L2
open PySem PySem.Spec PyProof.Rows
noncomputable def ixN (n : Nat) (i : Int) : Option Nat := if 0 ≤ i then (if i < n then some i.toNat else none) else if -(n : Int) ≤ i then some (i + n).toNat else none
noncomputable def atI {α : Type} (xs : List α) (i : Int) : Option α := (ixN xs.length i).bind fun j => xs[j]?
theorem ixN_seq {n : Nat} {i : Int} {j : Nat} (h : ixN n i = some j) : seqIndex? i n = some j ∧ j < n ∧ -(n : Int) ≤ i ∧ i < n := by
  unfold ixN at h
  by_cases h0 : 0 ≤ i
  · rw [if_pos h0] at h
    by_cases h1 : i < n
    · rw [if_pos h1] at h
      have e : i.toNat = j := Option.some.inj h
      exact ⟨by rw [seqIndex_of h0 h1, e], by omega, by omega, h1⟩
    · rw [if_neg h1] at h; cases h
  · rw [if_neg h0] at h
    by_cases h1 : -(n : Int) ≤ i
    · rw [if_pos h1] at h
      have e : (i + n).toNat = j := Option.some.inj h
      exact ⟨by rw [seqIndex_neg (by omega) h1, e], by omega, h1, by omega⟩
    · rw [if_neg h1] at h; cases h
theorem atI_get {α : Type} {xs : List α} {i : Int} {v : α} (h : atI xs i = some v) : ∃ j, seqIndex? i xs.length = some j ∧ xs[j]? = some v ∧ j < xs.length ∧ -(xs.length : Int) ≤ i ∧ i < xs.length := by
  unfold atI at h
  cases e : ixN xs.length i with
  | none => rw [e] at h; cases h
  | some j =>
    rw [e] at h
    obtain ⟨h1, h2, h3, h4⟩ := ixN_seq e
    exact ⟨j, h1, h, h2, h3, h4⟩
theorem atI_nat {α : Type} {xs : List α} {j : Nat} {v : α} (h : xs[j]? = some v) : atI xs (j : Int) = some v := by
  have hj : j < xs.length := (List.getElem?_eq_some_iff.mp h).1
  have e : ixN xs.length (j : Int) = some j := by
    unfold ixN
    rw [if_pos (by omega), if_pos (by omega)]; simp
  unfold atI; rw [e]; exact h
noncomputable def PlainIx (b : Expr) : Prop := ∀ o i, subscripted b false o i = operate [o, i] (getItem o i)
noncomputable def IxR (X : Cx) (r : R2) : Prop :=
  ∀ (value slice : Expr) (pins : List (Addr × Obj)) (s : Shared) (σ : St) (H : Hp) (x y : V) (v u : Value) (Q : VK), Inv X pins σ H s → RelV x v → RelV y u → r x y H Q →
    subscripted slice false v u = operate [v, u] (getItem v u) → wpAny (model X.prog X.w) X.A (subscriptTail value slice v u) (EP X pins σ Q) X.xe s
noncomputable def MtR (X : Cx) (id : String) (r : V → List V → Hp → VK → Prop) : Prop :=
  ∀ (pins : List (Addr × Obj)) (s : Shared) (σ : St) (H : Hp) (x : V) (xs : List V) (v : Value) (us : List Value) (Q : VK), Inv X pins σ H s → RelV x v → Vals xs us → r x xs H Q →
    wpAny (model X.prog X.w) X.A (call (.builtin id) (v :: us)) (EP X pins σ Q) X.xe s
section
variable {X : Cx} {a b : Expr} {ta tb : TE} {pos : Pos}
theorem IxR.or {r r' : R2} (h : IxR X r) (h' : IxR X r') : IxR X (fun x y H Q => r x y H Q ∨ r' x y H Q) := by
  intro value slice pins s σ H x y v u Q I rx ry q hs
  rcases q with q | q
  · exact h value slice pins s σ H x y v u Q I rx ry q hs
  · exact h' value slice pins s σ H x y v u Q I rx ry q hs
theorem MtR.or {id : String} {r r' : V → List V → Hp → VK → Prop} (h : MtR X id r) (h' : MtR X id r') : MtR X id (fun x xs H Q => r x xs H Q ∨ r' x xs H Q) := by
  intro pins s σ H x xs v us Q I rx rs q
  rcases q with q | q
  · exact h pins s σ H x xs v us Q I rx rs q
  · exact h' pins s σ H x xs v us Q I rx rs q
theorem pe_ix {r : R2} (hr : IxR X r) (ha : PE X a ta) (hb : PE X b tb) (hs : PlainIx b) : PE X (.Subscript a b pos) (tOp r ta tb) := by
  intro pins s σ H Q I h
  exact Subscript_ (binT ha hb I h fun v u s2 x y H2 I2 rx ry q => hr a b pins s2 σ H2 x y v u Q I2 rx ry q (hs _ _))
noncomputable def rIxL (K : PySem.W.Frag) : R2 := fun x y H Q => ∃ p xs i v, x = .ref p ∧ y = .int i ∧ SqL K H p xs ∧ atI xs i = some v ∧ Q v H
noncomputable def rIxT (K : PySem.W.Frag) : R2 := fun x y H Q => ∃ p xs i v, x = .ref p ∧ y = .int i ∧ SqT K H p xs ∧ atI xs i = some v ∧ Q v H
noncomputable def rIxS : R2 := fun x y H Q => ∃ z i c, x = .str z ∧ y = .int i ∧ z.length ≤ sizeLine ∧ atI z.cps.toList i = some c ∧ Q (.str ⟨#[c]⟩) H
theorem ix_list : IxR X (rIxL X.K) := by
  intro value slice pins s σ H x y v u Q I rx ry h hs
  obtain ⟨p, xs, i, z, rfl, rfl, hq, he, q⟩ := h
  cases rx
  obtain ⟨t, rfl⟩ := ry
  obtain ⟨its, r, pl, hz⟩ := I.list hq
  obtain ⟨j, h1, h2, h3, h4, h5⟩ := atI_get he
  obtain ⟨w, ew, rw'⟩ := r.get h2
  have hl := r.length
  have hn := line63
  have fin : EP X pins σ Q w s := ⟨z, H, I, rw', q⟩
  by_cases h0 : 0 ≤ i
  · have hj : i.toNat = j := by
      rw [seqIndex_of h0 h5] at h1
      exact Option.some.inj h1
    exact item_listR pl.isList h0 (by omega) (by rw [hj]; simpa using ew) fin hs
  · have hj : (i + (its.toArray.size : Int)).toNat = j := by
      rw [seqIndex_neg (by omega) h4] at h1
      rw [List.size_toArray, ← hl]
      exact Option.some.inj h1
    exact subscriptTail_builtinR (x := w) pl.isList.typeIs slot_list_getitem.lookup
      (wpAny_getItem_list_neg (Q := fun r s' => r = w ∧ EP X pins σ Q r s') pl.isList (by omega) (by rw [List.size_toArray] <;> omega) (by omega) (by rw [hj]; simpa using ew) ⟨rfl, fin⟩) hs
theorem ix_tup : IxR X (rIxT X.K) := by
  intro value slice pins s σ H x y v u Q I rx ry h hs
  obtain ⟨p, xs, i, z, rfl, rfl, hq, he, q⟩ := h
  cases rx
  obtain ⟨t, rfl⟩ := ry
  obtain ⟨its, r, pl, hz⟩ := I.tuple hq
  obtain ⟨j, h1, h2, h3, h4, h5⟩ := atI_get he
  obtain ⟨w, ew, rw'⟩ := r.get h2
  have hl := r.length
  have hn := line63
  have fin : EP X pins σ Q w s := ⟨z, H, I, rw', q⟩
  exact subscriptTail_builtinR (x := w) pl.typeIs slot_tuple_getitem.lookup
    (getItem_tuple (j := j) (Q := fun r s' => r = w ∧ EP X pins σ Q r s') pl (by omega) (by omega) (by rw [List.size_toArray, ← hl]; exact h1) (by simpa using ew) ⟨rfl, fin⟩) hs
theorem ix_str : IxR X rIxS := by
  intro value slice pins s σ H x y v u Q I rx ry h hs
  obtain ⟨z, i, c, rfl, rfl, hz, he, q⟩ := h
  obtain ⟨t, rfl⟩ := rx
  obtain ⟨t', rfl⟩ := ry
  obtain ⟨j, h1, h2, h3, h4, h5⟩ := atI_get he
  have hl : z.cps.toList.length = z.length := by simp [Str.length]
  rw [hl] at h1 h4 h5
  have hn := line63
  exact tail_any (typeIs_str s z t) slot_str_getitem.lookup (getItem_str (c := c) (by
    have e1 : decide (i < -(2 ^ 63 : Int)) = false := decide_eq_false (by omega)
    have e2 : decide (i ≥ 2 ^ 63) = false := decide_eq_false (by omega)
    rw [e1, e2, Bool.or_false]) (by rw [h1]; simpa using h2) ⟨.str ⟨#[c]⟩, H, I.tok _, ⟨_, rfl⟩, q⟩) hs
noncomputable def rIx (K : PySem.W.Frag) : R2 := fun x y H Q => rIxL K x y H Q ∨ rIxT K x y H Q ∨ rIxS x y H Q
theorem ix_seq : IxR X (rIx X.K) := ix_list.or (ix_tup.or ix_str)
theorem mapSeq_set (its : List Value) (n j : Nat) (u : Value) : Obj.mapSeq (·.setIfInBounds j u) { cls := .type "list", data := .seq its.toArray n } = { cls := .type "list", data := .seq (its.set j u).toArray n } := by
  simp [Obj.mapSeq]
theorem Inv.lst {pins : List (Addr × Obj)} {σ : St} {H : Hp} {s : Shared} {p : Addr} {xs : List V} (I : Inv X pins σ H s) (h : H p = some (.lst xs)) :
    ∃ (its : List Value) (n : Nat), Vals xs its ∧ s.heap.get? p = some { cls := .type "list", data := .seq its.toArray n } ∧ xs.length ≤ sizeLine := by
  obtain ⟨z, its, n, r, e⟩ := I.hok p _ h
  exact ⟨its, n, r, e, z⟩
theorem Inv.lstUpd {pins : List (Addr × Obj)} {σ : St} {H : Hp} {s : Shared} {p : Addr} {xs ys : List V} {its its' : List Value} {n n' : Nat} {f : Obj → Obj} (I : Inv X pins σ H s) (h : H p = some (.lst xs))
    (ho : s.heap.get? p = some { cls := .type "list", data := .seq its.toArray n }) (hf : f { cls := .type "list", data := .seq its.toArray n } = { cls := .type "list", data := .seq its'.toArray n' }) (r : Vals ys its') (hz : ys.length ≤ sizeLine) (t : Nat) :
    Inv X pins σ (upd H p (.lst ys)) { s with heap := s.heap.update p f, toks := t } := by
  have e : (s.heap.update p f).get? p = some { cls := .type "list", data := .seq its'.toArray n' } := by
    rw [Heap.get?_update_self f ho (by rw [hf] <;> rfl), hf]
  refine I.write (x := p) (e := p) (by rw [h]; trivial) (.inl rfl) (fun b u hb q => (Heap.get?_update_other _ _ (Ne.symm hb)).trans q) ⟨_, e⟩ ?_
  exact ⟨hz, its', n', r, e⟩
noncomputable def rSetL : V → V → V → Hp → (Hp → Prop) → Prop := fun o i v H Q => ∃ p xs k j, o = .ref p ∧ i = .int k ∧ H p = some (.lst xs) ∧ ixN xs.length k = some j ∧ Q (upd H p (.lst (xs.set j v)))
theorem set_list : PSet X rSetL := by
  intro pins s σ H o i v ov iv u Q I ro ri rv h
  obtain ⟨p, xs, k, j, rfl, rfl, hp, hj, q⟩ := h
  cases ro
  obtain ⟨t, rfl⟩ := ri
  obtain ⟨its, n, r, ho, hz⟩ := I.lst hp
  obtain ⟨h1, h2, h3, h4⟩ := ixN_seq hj
  have hl := r.length
  have hn := line63
  have I' : Inv X pins σ (upd H p (.lst (xs.set j v))) { s with heap := s.heap.update p (Obj.mapSeq (·.setIfInBounds j u)) } :=
    I.lstUpd hp ho (mapSeq_set its n j u) (r.set rv j) (by rw [List.length_set]; exact hz) s.toks
  by_cases h0 : 0 ≤ k
  · have hk : k.toNat = j := by
      rw [seqIndex_of h0 h4] at h1
      exact Option.some.inj h1
    exact PySem.W.ki_setAt ho h0 (by omega) (by rw [List.size_toArray, ← hl]; exact h4) (by rw [hk]; exact ⟨_, I', q⟩)
  · have hk : (k + (its.toArray.size : Int)).toNat = j := by
      rw [seqIndex_neg (by omega) h3] at h1
      rw [List.size_toArray, ← hl]
      exact Option.some.inj h1
    exact PySem.W.ki_setBack ho (by omega) (by rw [List.size_toArray, ← hl]; exact h3) (by omega) (by rw [hk]; exact ⟨_, I', q⟩)
theorem call_len_seq : CallR X (.builtin "len") (fun xs H Q => ∃ p ys, xs = [.ref p] ∧ (SqL X.K H p ys ∨ SqT X.K H p ys) ∧ Q (.int ys.length) H) := by
  intro pins s σ H xs us Q I r h
  obtain ⟨p, ys, rfl, hq, q⟩ := h
  obtain ⟨u, rfl, rx⟩ := vals1 r
  cases rx
  have hn := line63
  rcases hq with hq | hq
  · obtain ⟨its, r', pl, hz⟩ := I.list hq
    have hlen := r'.length
    exact Calls.call_len_list pl.isList (by simp only [List.size_toArray] <;> omega) ⟨.int ys.length, H, I.tok _, ⟨s.toks + 1, by rw [List.size_toArray, hlen]⟩, q⟩
  · obtain ⟨its, r', pl, hz⟩ := I.tuple hq
    have hlen := r'.length
    exact len_tuple pl (by simp only [List.size_toArray] <;> omega) ⟨.int ys.length, H, I.tok _, ⟨s.toks + 1, by rw [List.size_toArray, hlen]⟩, q⟩
theorem call_len_str : CallR X (.builtin "len") (fun xs H Q => ∃ z, xs = [.str z] ∧ z.length ≤ sizeLine ∧ Q (.int z.length) H) := by
  intro pins s σ H xs us Q I r h
  obtain ⟨z, rfl, hz, q⟩ := h
  obtain ⟨u, rfl, t, rfl⟩ := vals1 r
  have hn := line63
  exact len_str (by omega) ⟨.int z.length, H, I.tok _, ⟨_, rfl⟩, q⟩
theorem CallR.or {f : Value} {r r' : List V → Hp → VK → Prop} (h : CallR X f r) (h' : CallR X f r') : CallR X f (fun xs H Q => r xs H Q ∨ r' xs H Q) := by
  intro pins s σ H xs us Q I rs q
  rcases q with q | q
  · exact h pins s σ H xs us Q I rs q
  · exact h' pins s σ H xs us Q I rs q
theorem call_tuple_of : CallR X (.type "tuple") (fun xs H Q => ∃ p ys, xs = [.ref p] ∧ ((SqL X.K H p ys ∧ ∀ l, H l = none → Q (.ref l) (upd H l (.tup ys))) ∨ (SqT X.K H p ys ∧ Q (.ref p) H))) := by
  intro pins s σ H xs us Q I r h
  obtain ⟨p, ys, rfl, h⟩ := h
  obtain ⟨u, rfl, rx⟩ := vals1 r
  cases rx
  rcases h with ⟨hq, q⟩ | ⟨hq, q⟩
  · obtain ⟨its, r', pl, hz⟩ := I.list hq
    have hlen := r'.length
    refine call_tuple_list pl.isList (fun h' kp => ?_) (by simp only [List.size_toArray] <;> omega)
    have I1 : Inv X pins σ H { s with heap := h' } := I.kept (t' := s.toks) kp
    have I2 : Inv X pins σ (upd H h'.objs.size (.tup ys)) { s with heap := h'.push { cls := .type "tuple", data := .seq its.toArray } } :=
      I1.laid (t' := s.toks) (fun b o e => Heap.get?_push_of_some _ e) (Nat.le_refl _) (show ObjOk X.prog X.w _ _ _ (.tup ys) from ⟨hz, its, r', IsTup.new _ _⟩)
    exact ⟨.ref h'.objs.size, _, I2, rfl, q _ (I1.hok.fresh (Nat.le_refl _))⟩
  · obtain ⟨its, r', pl, hz⟩ := I.tuple hq
    exact call_tuple_same pl ⟨.ref p, H, I, rfl, q⟩
noncomputable def tyV (K : PySem.W.Frag) (T : String) (x : V) (H : Hp) : Prop := match x with
  | .str _ => T = "str"
  | .int _ => T = "int"
  | .ref p => (T = "list" ∧ ∃ xs, SqL K H p xs) ∨ (T = "tuple" ∧ ∃ o, K.lookup p = some o ∧ o.cls = .type "tuple" ∧ o.dict = none) ∨
      (T = "dict" ∧ ((∃ kvs, H p = some (.dK kvs)) ∨ ∃ kvs, H p = some (.dT kvs))) ∨ (T = "set" ∧ ∃ S n, H p = some (.set S n))
  | _ => False
theorem tyV_is {pins : List (Addr × Obj)} {σ : St} {H : Hp} {s : Shared} {T : String} {x : V} {v : Value} (I : Inv X pins σ H s) (r : RelV x v) (ty : tyV X.K T x H) :
    s.TypeIs v T ∧ ∀ a, v = .ref a → ∃ ob, s.heap.get? a = some ob ∧ ob.dict = none := by
  cases x with
  | str z =>
    obtain ⟨t, rfl⟩ := r
    cases (show T = "str" from ty)
    exact ⟨typeIs_str s z t, fun _ e => nomatch e⟩
  | int i =>
    obtain ⟨t, rfl⟩ := r
    cases (show T = "int" from ty)
    exact ⟨typeIs_int s i t, fun _ e => nomatch e⟩
  | ref p =>
    cases r
    rcases ty with ⟨rfl, xs, hq⟩ | ⟨rfl, o, hk, hc, hd⟩ | ⟨rfl, hk⟩ | ⟨rfl, S, n, hk⟩
    · obtain ⟨its, _, pl, _⟩ := I.list hq
      refine ⟨pl.isList.typeIs, fun a e => ?_⟩
      cases e
      obtain ⟨o, n, e, c, hd, _⟩ := pl
      exact ⟨o, e, hd⟩
    · refine ⟨⟨o, I.kIn p o hk, hc⟩, fun a e => ?_⟩
      cases e
      exact ⟨o, I.kIn _ o hk, hd⟩
    · have z : ∃ o, s.heap.get? p = some o ∧ o.ExactDict := by
        rcases hk with ⟨kvs, hk⟩ | ⟨kvs, hk⟩
        · obtain ⟨_, _, _, _, o, _, _, e, ex, _⟩ := I.hok p _ hk
          exact ⟨o, e, ex⟩
        · obtain ⟨_, _, _, _, o, _, _, e, ex, _⟩ := I.hok p _ hk
          exact ⟨o, e, ex⟩
      obtain ⟨o, e, ex⟩ := z
      refine ⟨⟨o, e, ex.1⟩, fun a e2 => ?_⟩
      cases e2
      exact ⟨o, e, ex.2.1⟩
    · obtain ⟨o, _, _, _, e, ex, _⟩ := I.hok p _ hk
      refine ⟨⟨o, e, ex.1⟩, fun a e2 => ?_⟩
      cases e2
      exact ⟨o, e, ex.2.1⟩
  | _ => exact False.elim ty
noncomputable def tBM (K : PySem.W.Frag) (T : String) (r : V → List V → Hp → VK → Prop) (to : TE) (t : TA) : TE := fun σ H Q => to σ H fun x H1 => tyV K T x H1 ∧ t σ H1 fun xs H2 => r x xs H2 Q
variable {o e : Expr} {es : List Expr} {to : TE} {t : TA} {name : Str} {apos cpos : Pos} {T id : String} {r : V → List V → Hp → VK → Prop}
theorem pe_bm (pa : PlainAttrs T) (slot : Slot T name id) (hty : typeOf (.builtin id) = pure (.type "method_descriptor")) (hm : MtR X id r) (ho : PE X o to) (ha : PA X (e :: es) t)
    (hbase : attributeBase o name X.env (eval o X.env) = eval o X.env := by rfl)
    (hfew : ((backTo cpos (starEach (e :: es) X.env)).all (fun x => !x.1) && (backToKw cpos (keywordEach [] X.env)).all (fun x => x.1.isSome)
      && decide ((e :: es).length + ([] : List Keyword).length + (if ([] : List Keyword).isEmpty then 0 else 1) < 30)) = true := by rfl)
    (hline : (apos.endLine == cpos.line) = true := by rfl) (hs : starEach (e :: es) X.env = (false, eval e X.env) :: starEach es X.env := by rfl) (hplain : (backTo cpos (starEach es X.env)).any (·.1) = false := by rfl) :
    PE X (.Call (.Attribute o name apos) (e :: es) [] cpos) (tBM X.K T r to t) := by
  intro pins s σ H Q I h
  refine wpAny_Call_method_late hbase hfew hline rfl (thn (ho pins s σ H _ I h) fun v s1 ⟨x, H1, I1, r1, ty, q1⟩ => ?_)
  obtain ⟨h1, h2⟩ := tyV_is I1 r1 ty
  refine ⟨T, id, pa, slot, hty, h1, h2, ?_⟩
  have hA := ha cpos pins s1 σ H1 _ I1 q1
  rw [hs] at hA ⊢
  refine Calls.callWith_builtin (by show (false || (backTo cpos (starEach es X.env)).any (·.1)) = false; rw [hplain] <;> rfl) (Calls.evalArgs_plain ?_)
  exact thn hA fun us s2 ⟨vs, H2, I2, r2, q2⟩ => hm pins s2 σ H2 x vs v us Q I2 r1 r2 q2
end
end L2
namespace L2
open PySem PySem.Spec PyProof.Rows
noncomputable def MtM (X : Cx) (id : String) (r : V → List V → Hp → VK → Prop) : Prop :=
  ∀ (pins : List (Addr × Obj)) (s : Shared) (σ : St) (H : Hp) (x : V) (xs : List V) (v : Value) (us : List Value) (Q : VK), Inv X pins σ H s → RelV x v → Vals xs us → r x xs H Q →
    wpAny (model X.prog X.w) X.A (call (.builtin id) (v :: us)) (EP X pins σ Q) X.xe s
theorem Vals.one : ∀ {x : V} {us : List Value}, Vals [x] us → ∃ u, us = [u] ∧ RelV x u
  | _, _, .cons r .nil => ⟨_, rfl, r⟩
theorem Vals.zero : ∀ {us : List Value}, Vals [] us → us = []
  | _, .nil => rfl
theorem Vals.reverse {xs : List V} {us : List Value} (h : Vals xs us) : Vals xs.reverse us.reverse := by
  induction h with
  | nil => exact .nil
  | cons r t ih => rw [List.reverse_cons, List.reverse_cons]; exact Vals.append ih (.cons r .nil)
section
variable {X : Cx} {pins : List (Addr × Obj)} {σ : St} {H : Hp} {s : Shared} {l b : Addr} {xs ys zs : List V}
theorem Inv.lset {its its' : List Value} {n : Nat} {f : Array Value → Array Value} {t' : Nat} (I : Inv X pins σ H s) (hH : H l = some (.lst xs))
    (e : s.heap.get? l = some { cls := .type "list", data := .seq its.toArray n }) (hf : f its.toArray = its'.toArray) (hv : Vals ys its') (hz : ys.length ≤ sizeLine) :
    Inv X pins σ (upd H l (.lst ys)) { s with heap := s.heap.update l (Obj.mapSeq f), toks := t' } := by
  have q := PySem.IsL.update e f
  rw [hf] at q
  refine I.write (x := l) (e := l) (by rw [hH]; exact trivial) (.inl rfl) (fun b' u hb hu => (Heap.get?_update_other s.heap (Obj.mapSeq f) (Ne.symm hb)).trans hu) ⟨_, q⟩ ?_
  exact ⟨hz, its', _, hv, q⟩
theorem Inv.fresh (I : Inv X pins σ H s) : H s.heap.objs.size = none := I.hok.fresh (Nat.le_refl _)
theorem Inv.lstM (I : Inv X pins σ H s) (hH : H l = some (.lst xs)) : xs.length ≤ sizeLine ∧ ∃ (its : List Value) (n : Nat), Vals xs its ∧ xs.length = its.length ∧ s.heap.get? l = some { cls := .type "list", data := .seq its.toArray n } := by
  obtain ⟨z, its, n, r, e⟩ := I.hok l _ hH
  exact ⟨z, its, n, r, r.length, e⟩
end
section
variable {X : Cx}
noncomputable def rAppend : V → List V → Hp → VK → Prop := fun x vs H Q => ∃ l xs y, x = .ref l ∧ vs = [y] ∧ H l = some (.lst xs) ∧ xs.length < sizeLine ∧ Q .non (upd H l (.lst (xs ++ [y])))
theorem mt_append : MtM X "list.append" rAppend := by
  intro pins s σ H x vs v us Q I rx rv h
  obtain ⟨l, xs, y, rfl, rfl, hH, hz, q⟩ := h
  cases rx
  obtain ⟨u, rfl, ru⟩ := rv.one
  obtain ⟨z, its, n, r, hl, e⟩ := I.lstM hH
  refine call_meets F.slot_list_append ⟨_, e, rfl⟩ F.entry_list_append (F.args_list_append_2 _ _) (PySem.list_append l its.toArray n u (by rw [List.size_toArray]; omega)) ⟨e, ?_⟩
  refine ⟨.non, _, I.lset (its' := its ++ [u]) hH e (by simp) (r.append (.cons ru .nil)) ?_, rfl, q⟩
  rw [List.length_append, List.length_singleton]
  omega
end
section
variable {prog : Program} {w : World} {A : Around} {E : Value → Shared → Prop} {s : Shared}
end
section
variable {X : Cx}
end
end L2
namespace Att
open PySem PySem.W PySem.Calls PyProof.Rows
theorem ints_of_wellAll {P : Params} {h : Heap} : ∀ (ns : List Int) (vs : List Value), WellAll P h vs (ns.map WData.int) → IntsAre vs ns := by
  intro ns
  induction ns with
  | nil =>
    intro vs w
    rw [List.map_nil] at w
    cases w
    exact .nil
  | cons n ns ih =>
    intro vs w
    rw [List.map_cons] at w
    cases w with
    | cons a b =>
      cases a
      exact .cons _ _ (ih _ b)
theorem script_of {l : OpenLaw} {n : Nat} (hn : l.most = some n) {P : Params} {h : Heap} {args : List WData} {vals : List Value}
    (hpre : l.row.toRowW.claim.pre args = true) (hwl : WellAll P h vals args) :
    ∃ a vs ns, vals = [Value.ref a] ∧ args = [WData.list (ns.map WData.int)] ∧ h.get? a = some { cls := .type "list", data := .seq vs.toArray } ∧ IntsAre vs ns ∧ ns.length ≤ n := by
  have hsh : WShape.hasAll [] args [.list .int] = true := (pre_splitW hpre).1
  have hc : l.pre.holds [] { args := args } = true := (pre_splitW hpre).2
  obtain ⟨d, r, rfl, h1, h2⟩ := hasAllW_cons hsh
  obtain rfl := hasAllW_nil h2
  obtain ⟨xs, rfl, h3⟩ := hasW_list h1
  obtain ⟨ns, rfl⟩ := items_int h3
  have hlen : ns.length ≤ n := by
    unfold OpenLaw.pre at hc
    have h4 : (WTm.not (.lt (.lit (.int (n : Int))) (.len (.arg 0)))).holds [] { args := [.list (ns.map .int)] } = true := by
      have h4 := (holds_andW hc).1
      rw [hn] at h4
      exact h4
    have h5 := condW_of h4 (w_not (w_lt w_lit (w_len_list (w_arg rfl))))
    rw [List.length_map] at h5
    refine Nat.le_of_not_lt fun q => ?_
    have q' : (n : Int) < ((ns.length : Nat) : Int) := by omega
    first
      | (rw [decide_eq_true q'] at h5; exact absurd h5 (by decide))
      | (simp at h5; omega)
  cases hwl with
  | cons w1 w2 =>
    cases w2
    cases w1 with
    | list ho hall => exact ⟨_, _, ns, rfl, rfl, ho, ints_of_wellAll ns _ hall, hlen⟩
theorem post_true (l : OpenLaw) (args : List WData) : l.row.toRowW.claim.post args (.bool true) args = true :=
  postW_of (r := l.row.toRowW) (X := (true == true))
    (show WShape.has [] (.bool true) .bool = true by first | rfl | decide | simp [WShape.has, WShape.arms, WShape.armsAll])
    (show (WTm.eq .res (.lit (.bool true))).value [] { args := args, res := some (.bool true), after := args } = some (.bool (true == true)) from w_eq_bool (w_res rfl) w_lit) rfl
section
variable {prog : Program} {w : World} {A : Around} {E : Value → Shared → Prop} {s : Shared} {K : Frag}
end
end Att
namespace L2
open PySem PySem.Spec PyProof.Rows
theorem vals_ints : ∀ {vs : List Value} {ns : List Int}, IntsAre vs ns → Vals (ns.map V.int) vs
  | _, _, .nil => .nil
  | _, _, .cons n t h => .cons ⟨t, rfl⟩ (vals_ints h)
noncomputable def Only (H : Hp) : Prop := ∀ b, H b = none ∨ ∃ o xs, H b = some (.frz o (.lst xs))
theorem law_call {P : Program} {w : World} {K : PySem.W.Frag} {mg mb : Str → Option Value} {CX : CXT} {k : Nat} {fa a : Addr} {fd : FuncData} {x : Str} {sp : Sp} {s₁ : Shared} {vs : List Value} {ns : List Int}
    (KX : K.In s₁.heap) (hns : s₁.heap.Ns mainGlobals mg) (hb : s₁.heap.Ns builtinsNs mb) (hbb : ∀ x : Str, x ≠ "__name__" → mb x = bootBuiltins x) (hlim : s₁.heap.NoLimit) (hg : s₁.gens = #[])
    (ha : s₁.heap.get? a = some { cls := .type "list", data := .seq vs.toArray }) (hi : IntsAre vs ns) (hl : ns.length ≤ sizeLine) (hr : Room k callerA)
    (F : ∀ base : Heap, K.In base → base.Ns mainGlobals mg → FnOk P w K mg base CX k fa fd [x] sp) (hbind : ∀ (s : Shared) (u : Value), BindsTo s fd ⟨[u], []⟩ [(x, u)])
    (hsp : ∀ H : Hp, Only H → SqL K H a (ns.map V.int) → sp [.ref a] H (fun v _ => v = .bl true) fun _ _ _ => False)
    (hCX : ∀ H e s', CX [] H s₁ (fun _ _ _ => False) e s' → False) :
    codeAny (model P w) callerA (.call (.ref fa) ⟨[.ref a], []⟩) (fun r s' => r = .ok (.ret (.bool true)) ∧ OldK s₁.heap s'.heap ∧ s'.os = s₁.os ∧ AllBare s'.gens) s₁ := by
  have rv := vals_ints hi
  have lenV := hi.length
  have core : ∀ H : Hp, Only H → SqL K H a (ns.map V.int) → HOk P w H s₁.heap → (∀ b, H b ≠ none → b = a) → (H a ≠ none → K.lookup a = none) →
      codeAny (model P w) callerA (.call (.ref fa) ⟨[.ref a], []⟩) (fun r s' => r = .ok (.ret (.bool true)) ∧ OldK s₁.heap s'.heap ∧ s'.os = s₁.os ∧ AllBare s'.gens) s₁ := by
    intro H hO hS hok hA hK
    have base_of : ∀ {b : Addr} {o : Obj}, s₁.heap.get? b = some o → H b = none → (hidT s₁.heap H).get? b = some o := fun e n => hidT_get e n
    have noA : ∀ {b : Addr} {o : Obj} {es : Array DictEntry} {ep : Nat}, s₁.heap.get? b = some o → o.data = .dict es ep → H b = none := fun {b o es ep} e d => by
      cases q : H b with
      | none => rfl
      | some u =>
        have e' : b = a := hA b (by rw [q]; simp)
        subst e'
        rw [ha] at e; cases e
        have d' : Data.seq vs.toArray _ = Data.dict es ep := d
        cases d'
    have nsK : ∀ {b : Addr} {m : Str → Option Value}, s₁.heap.Ns b m → (hidT s₁.heap H).Ns b m := fun {b m} ⟨o, es, ep, e, d, r⟩ => ⟨o, es, ep, base_of e (noA e d), d, r⟩
    have hKb : K.In (hidT s₁.heap H) := fun b o e => base_of (KX b o e) (by
      cases q : H b with
      | none => rfl
      | some u =>
        have e' : b = a := hA b (by rw [q]; simp)
        subst e'
        rw [hK (by rw [q]; simp)] at e; cases e)
    have hM : Mod K mg (hidT s₁.heap H) := ⟨hKb, nsK hns, ⟨mb, nsK hb, hbb⟩, let ⟨mc, h1, h2⟩ := hlim; ⟨mc, nsK h1, h2⟩⟩
    have e0 : Env0 P w K mg (hidT s₁.heap H) callerA [] s₁ H := ⟨rfl, hM, fun b o e => of_hidT e, Nat.le_of_eq (hidT_size _ _), trivial, fun b hb => absurd (show b ∈ ([] : List Addr) from hb) (by simp), hok, .of_eq hg⟩
    refine codeAny_mono ((F _ hKb (nsK hns)).run callerA [] s₁ H ⟨[.ref a], []⟩ [.ref a] [.ref a] _ _ hr e0 (hbind s₁ (.ref a)) (.cons rfl .nil) (hsp H hO hS)) fun r s' h => ?_
    cases r with
    | error e => exact (hCX H e s' h).elim
    | ok fl =>
      cases fl with
      | next => exact False.elim h
      | brk => exact False.elim h
      | cont => exact False.elim h
      | ret u =>
        obtain ⟨v, H', os, bare, un, hok', r', q⟩ := h
        have q' : v = .bl true := q
        subst q'
        obtain rfl : u = Value.bool true := r'
        refine ⟨rfl, OldK.of_keep fun b o e => ?_, os, bare⟩
        cases q : H b with
        | none => exact un.keep b o e q (by intro z; exact absurd (show b ∈ ([] : List Addr) from z) (by simp)) (by simp)
        | some u =>
          rcases hO b with z | ⟨ob, xs, z⟩
          · rw [q] at z; cases z
          · have z2 := un.frzs b ob _ z
            obtain ⟨e1, _⟩ := hok b _ z
            obtain ⟨e2, _⟩ := hok' b _ z2
            rw [e] at e1; cases e1
            exact e2
  cases hk : K.lookup a with
  | some o =>
    have e := KX a o hk
    rw [ha] at e
    cases e
    refine core (fun _ => none) (fun _ => .inl rfl) (.inr ⟨_, vs.toArray, _, hk, rfl, rfl, rfl, by rw [List.size_toArray, lenV]; exact hl, by simpa using rv⟩) (fun b u z => by have z' : (none : Option HO) = some u := z; cases z') (fun b z => absurd rfl z) fun z => absurd rfl z
  | none =>
    refine core (fun b => if b = a then some (.frz { cls := .type "list", data := .seq vs.toArray } (.lst (ns.map V.int))) else none) (fun b => ?_) (.inl (.inr ⟨{ cls := .type "list", data := .seq vs.toArray }, if_pos rfl⟩)) (fun b u z => ?_) (fun b z => ?_) fun _ => hk
    · by_cases hb : b = a
      · exact .inr ⟨_, _, if_pos hb⟩
      · exact .inl (if_neg hb)
    · by_cases hb : b = a
      · have z' := (if_pos hb).symm.trans z
        cases z'
        subst hb
        exact ⟨ha, by rw [List.length_map]; exact hl, vs, _, rv, ha⟩
      · have z' := (if_neg hb).symm.trans z
        cases z'
    · by_cases hb : b = a
      · exact hb
      · exact absurd (if_neg hb) z
end L2
namespace L2
open PySem PySem.Spec PyProof.Rows
end L2
namespace L2
open PySem PySem.Spec PyProof.Rows
noncomputable def defArgs (s : Stmt) : Arguments := match s with
  | .FunctionDef _ a _ _ _ _ _ _ _ _ => a
  | _ => { posonlyargs := [], args := [], vararg := none, kwonlyargs := [], kw_defaults := [], kwarg := none, defaults := [] }
noncomputable def defBody (s : Stmt) : List Stmt := match s with
  | .FunctionDef _ _ b _ _ _ _ _ _ _ => b
  | _ => []
noncomputable def defScope (s : Stmt) : Scope := match s with
  | .FunctionDef _ _ _ _ _ _ sc _ _ _ => sc
  | _ => { kind := .function, names := [], isGenerator := false, isCoroutine := false }
noncomputable abbrev CX0 : CXT := fun _ _ _ _ _ _ => False
noncomputable abbrev E0 : XK := fun _ _ _ => False
theorem pass0 {X : Cx} : Passes CX0 X E0 := fun _ _ _ _ _ _ _ h => h.elim
structure Fun (K : PySem.W.Frag) (x qual : Str) (st : Stmt) (f : Addr) (fd : FuncData) : Prop where
  ex : ∃ (oc : Value) (od : Option Addr) (kV doc pm : Value) (an : Option Addr) (cdv ct : Value) (osl : Array (Option Value)),
    fd = PySem.W.fnOf x qual (defArgs st) (defBody st) (defScope st) .none kV doc pm an cdv ct ∧ K.lookup f = some ⟨oc, od, .func fd, osl⟩ ∧ PySem.W.codeIn K cdv qual = true
  kp : PySem.W.keepIn K (.ref f) = true
section
variable {P : Program} {w : World} {K : PySem.W.Frag} {mg : Str → Option Value} {base : Heap}
theorem Fun.ok {x qual : Str} {st : Stmt} {f : Addr} {fd : FuncData} {N ps : List Str} {k : Nat} {sp : Sp} (F : Fun K x qual st f fd) (S : FnScope N ps (defScope st)) (len : ∀ vs H Q E, sp vs H Q E → vs.length = ps.length)
    (hbody : ∀ (cdv : Value) (A : Around) (outer : List Env) (s : Shared) (H : Hp) (vs : List V) (Q : VK) (E : XK), Room k (A.deeper (envOfC qual (defScope st) s.heap.objs.size f cdv)) → sp vs H Q E →
      ∃ t, PSs (cxOf CX0 P w K mg base N qual (defScope st) f cdv A outer s H E).nox (defBody st) t ∧ t { nx := fun _ H' => Q .non H', rt := Q } (start N vs) H) : FnOk P w K mg base CX0 (k + 1) f fd ps sp := by
  obtain ⟨oc, od, kV, doc, pm, an, cdv, ct, osl, rfl, lk, hcd⟩ := F.ex
  refine fn_of lk hcd S len fun A outer s H vs Q E hr hsp => ?_
  obtain ⟨t, h, q⟩ := hbody cdv A outer s H vs Q E hr hsp
  exact ⟨t, h.nox, q⟩
theorem Fun.binds {x qual : Str} {st : Stmt} {f : Addr} {fd : FuncData} {ps : List Str} (F : Fun K x qual st f fd)
    (h : ∀ (kV doc pm : Value) (an : Option Addr) (cdv ct : Value) (us : List Value), us.length = ps.length → bindArgs (PySem.W.fnOf x qual (defArgs st) (defBody st) (defScope st) .none kV doc pm an cdv ct) ⟨us, []⟩ = pure (ps.zip us)) : Binds K fd ps [] := by
  obtain ⟨oc, od, kV, doc, pm, an, cdv, ct, osl, rfl, lk, hcd⟩ := F.ex
  exact .all (h kV doc pm an cdv ct)
theorem fun_mk {x qual : Str} {st : Stmt} {f : Addr} {oc : Value} {od an : Option Addr} {osl : Array (Option Value)} {kV doc pm cdv ct : Value} (l : K.lookup f = some ⟨oc, od, .func (PySem.W.fnOf x qual (defArgs st) (defBody st) (defScope st) .none kV doc pm an cdv ct), osl⟩)
    (c : PySem.W.codeIn K cdv qual = true) (k : PySem.W.keepIn K (.ref f) = true) : Fun K x qual st f (PySem.W.fnOf x qual (defArgs st) (defBody st) (defScope st) .none kV doc pm an cdv ct) := ⟨⟨oc, od, kV, doc, pm, an, cdv, ct, osl, rfl, l, c⟩, k⟩
end
section
variable {X : Cx}
theorem pv (i : Nat) {x : Str} {pos : Pos} (hN : X.N[i]? = some x := by rfl) (hv : Vis X.env.scope x := by first | exact Or.inl rfl | exact Or.inr (Or.inl rfl) | exact Or.inr (Or.inr rfl)) (hd : (x == ("__debug__" : Str)) = false := by decide)
    (hcd : (x == ("__classdict__" : Str)) = false := by decide) : PE X (.Name x pos) (tVar i) := pe_var hN hv hd hcd
end
theorem iteF {A B : Prop} (h : B) : if false = true then A else B := by
  rw [if_neg Bool.false_ne_true]
  exact h
theorem iteT {A B : Prop} (h : A) : if true = true then A else B := by
  rw [if_pos rfl]
  exact h
theorem ite2 {c A B : Prop} [Decidable c] (h1 : c → A) (h2 : ¬ c → B) : if c then A else B := by
  by_cases h : c
  · rw [if_pos h]
    exact h1 h
  · rw [if_neg h]
    exact h2 h
noncomputable def Same (H H' : Hp) : Prop := ∀ b o, H b = some o → H' b = some o
theorem Same.refl (H : Hp) : Same H H := fun _ _ h => h
theorem Same.trans {H H1 H2 : Hp} (a : Same H H1) (b : Same H1 H2) : Same H H2 := fun c o h => b c o (a c o h)
theorem Same.free {H H' : Hp} (e : Same H H') {l : Addr} (h : H' l = Option.none) : H l = Option.none := by
  cases q : H l with
  | none => rfl
  | some o =>
    rw [e l o q] at h
    cases h
theorem Same.seq {K : PySem.W.Frag} {H H' : Hp} {a : Addr} {xs : List V} (e : Same H H') (h : SqL K H a xs) : SqL K H' a xs := by
  rcases h with (h | ⟨o, h⟩) | h
  · exact .inl (.inl (e _ _ h))
  · exact .inl (.inr ⟨o, e _ _ h⟩)
  · exact .inr h
end L2
set_option maxHeartbeats 4000000
namespace L2
open PySem PySem.Spec PyProof.Rows
section
variable {X : Cx}
noncomputable def Sml (i : Int) : Prop := i.natAbs < 2 ^ 4000
theorem Sml.bits {i : Int} (h : Sml i) : Builtin.Int.intBits i ≤ 4000 := intBits_le_iff.mpr h
theorem call_isinst : CallR X (.builtin "isinstance") (fun xs H Q => ∃ x t T b, xs = [x, .ty T] ∧ TyOf X.K H x t ∧ PySem.W.kitOne X.K t (.type T) = some b ∧ Q (.bl b) H) := by
  intro pins s σ H xs us Q I r h
  obtain ⟨x, t, T, b, rfl, ty, e, q⟩ := h
  obtain ⟨u, w', rfl, r1, r2⟩ := vals2 r
  cases r2
  exact isinst_ok I r1 ty e fun tk => ⟨.bl b, H, I.tok _, rfl, q⟩
theorem vals_bools : ∀ {bs : List Bool} {us : List Value} {i : Nat} {v : Value}, Vals (bs.map V.bl) us → us[i]? = some v → ∃ b, bs[i]? = some b ∧ v = .bool b
  | [], _, _, _, .nil, e => by simp at e
  | b :: bs, _, 0, v, .cons r t, e => by
    simp at e; subst e
    exact ⟨b, rfl, r⟩
  | b :: bs, _, i + 1, v, .cons r t, e => by
    obtain ⟨c, h1, h2⟩ := vals_bools (i := i) (v := v) t (by simpa using e)
    exact ⟨c, by simpa using h1, h2⟩
theorem call_all (hc : X.calm = true) : CallR X (.builtin "all") (fun xs H Q => ∃ (p : Addr) (bs : List Bool), xs = [.ref p] ∧ SqL X.K H p (bs.map V.bl) ∧ Q (.bl (bs.all id)) H) := by
  intro pins s σ H xs us Q I r h
  obtain ⟨p, bs, rfl, hq, q⟩ := h
  obtain ⟨u, rfl, r1⟩ := vals1 r
  cases r1
  obtain ⟨its, rv, pl, hz⟩ := I.list hq
  have hl := pl.isList
  have hlt : p < s.heap.objs.size := by obtain ⟨_, e, _⟩ := hl; exact Heap.lt_size e
  have hlen : bs.length = its.length := by have := rv.length; rw [List.length_map] at this; exact this
  refine call_all_walk (wpAny_pyIter_list hl ?_)
  refine ⟨s.heap.objs.size, [s.heap.objs.size, p], [s.heap.objs.size], its.toArray.size, _, _, fun i => (bs[i]?).getD true, rfl, Walks.list (A := X.A.in1) (I.ok.hd hc) _ p (Nat.ne_of_lt hlt) its.toArray,
    ⟨⟨_, Heap.get?_push_size _ rfl, rfl, rfl⟩, hl.push _⟩, fun i v s' Q' E' hP hQ => ?_, fun h' tk hk => ?_⟩
  · obtain ⟨b, e, rfl⟩ := vals_bools (i := i) (v := v) rv (by simpa using hP)
    simp only [e, Option.getD_some] at hQ
    exact wpAny_truthy_bool hQ
  · have e : ((List.range its.toArray.size).all fun i => (bs[i]?).getD true) = bs.all id := by
      rw [List.size_toArray, ← hlen]; exact LSm.range_all bs
    rw [e]
    exact ⟨.bl (bs.all id), H, I.kept (LSm.kept_iter hk), rfl, q⟩
end
theorem boot_min : bootBuiltins "min" = some (.builtin "min") := PyProof.Rows.boot_min
theorem boot_max : bootBuiltins "max" = some (.builtin "max") := PyProof.Rows.boot_max
theorem boot_all : bootBuiltins "all" = some (.builtin "all") := PyProof.Rows.boot_all
theorem boot_abs : bootBuiltins "abs" = some (.builtin "abs") := PyProof.Rows.boot_abs
theorem boot_isinstance : bootBuiltins "isinstance" = some (.builtin "isinstance") := PyProof.Rows.boot_isinstance
theorem boot_int : bootBuiltins "int" = some (.type "int") := PyProof.Rows.boot_int
theorem boot_bool : bootBuiltins "bool" = some (.type "bool") := PyProof.Rows.boot_bool
theorem boot_tuple : bootBuiltins "tuple" = some (.type "tuple") := PyProof.Rows.boot_tuple
theorem boot_list : bootBuiltins "list" = some (.type "list") := PyProof.Rows.boot_list
theorem getD_in {α : Type} {ns : List α} {i : Nat} {d : α} (h : i < ns.length) : ns.getD i d = ns[i] := by simp [List.getD, h]
theorem same_new {H : Hp} {p : Addr} (h : H p = none) (o : HO) : Same H (upd H p o) := fun b u q => by rw [upd_ne (ne_of_none q h)]; exact q
theorem ofD {p : Prop} [Decidable p] (h : ¬ decide p = true) : ¬ p := of_decide_eq_false (Bool.eq_false_iff.mpr h)
theorem sub1 {cs : List (Str × Addr)} {x : Str} {c : Addr} (h : cs.lookup x = some c) : ∀ y c', [(x, c)].lookup y = some c' → cs.lookup y = some c' := fun y c' e => by
  by_cases z : y = x
  · subst z
    simp at e
    subst e
    exact h
  · have : (y == x) = false := by simpa using z
    simp [List.lookup, this] at e
theorem at_getD {ns : List Int} {i : Int} (h0 : 0 ≤ i) (h1 : i < (ns.length : Int)) : atI (ns.map V.int) i = some (.int (ns.getD i.toNat 0)) := by
  have hk : i.toNat < ns.length := by omega
  have ek : i = ((i.toNat : Nat) : Int) := by omega
  have z : atI (ns.map V.int) ((i.toNat : Nat) : Int) = some (.int ns[i.toNat]) := atI_nat (by rw [List.getElem?_map, List.getElem?_eq_getElem hk] <;> rfl)
  rw [← ek] at z
  rw [z, getD_in hk]
theorem md0 (c : Int) {m : Int} (h : 0 < m) : 0 ≤ c % m := Int.emod_nonneg _ (by omega)
theorem md1 (c : Int) {m : Int} (h : 0 < m) : c % m < m := Int.emod_lt_of_pos _ h
end L2
set_option maxHeartbeats 4000000
namespace L2
open PySem PySem.Spec PyProof.Rows
noncomputable def cxComp (X : Cx) (N' : List Str) (scope : Scope) (cl : List (Str × Addr)) (C : Addr) (s3 : Shared) (H3 : Hp) (fp : List Addr) : Cx where
  prog := X.prog
  w := X.w
  K := X.K
  mg := X.mg
  base := X.base
  A := X.A
  N := N'
  s₀ := s3
  H₀ := H3
  env := compEnvC scope cl C X.env
  outer := X.stack
  stack := X.stack
  ex := fp
  fn := fun _ => false
  calm := X.calm
  pn := []
  xe := fun _ _ => False
noncomputable def taken (σ : St) (fr : List Nat) : St := fr.map fun j => (σ[j]?).getD none
noncomputable def CompGo (J : It) (te : TE) (st : St) (D : Addr) (H1 : Hp) (Q : VK) : Prop :=
  ∃ W : Nat → Nat → List V → Hp → Prop, (∃ m, W 0 m [] (upd H1 D (.lst []))) ∧ ∀ i m ys H2, W i m ys H2 →
    (J.stop i H2 ∧ Q (.ref D) H2) ∨ (J.go i H2 ∧ ∀ x H3, J.yld i H2 x H3 → te (some x :: st) H3 fun y H4 => H4 D = some (.lst ys) ∧ ys.length < sizeLine ∧ ∃ m', m' < m ∧ W (i + 1) m' (ys ++ [y]) (upd H4 D (.lst (ys ++ [y]))))
noncomputable def tComp (wi : TI) (fr : List Nat) (te : TE) : TE := fun σ H Q => wi σ H fun J H1 => ∀ D, H1 D = none → CompGo J te (taken σ fr) D H1 Q
theorem compLoop_any {prog : Program} {w : World} {A : Around} {R : Result → Shared → Prop} {s : Shared} {elt tg iter : Expr} {scope : Scope} {pos : Pos} {it acc : Value} {env : Env} (Iv : Nat → Shared → Prop)
    (turn : ∀ k s, Iv k s → wpAny (model prog w) A (pyNext it) (fun r s1 => match r with
      | none => R (.ok .next) s1
      | some v => wpAny (model prog w) A (letOwnedTupleGo tg it v) (fun _ s2 => wpAny (model prog w) A (assign tg env v) (fun _ s3 => wpAny (model prog w) A (eval elt env) (fun y s4 =>
          wpAny (model prog w) A (call (.builtin "list.append") [acc, y]) (fun _ s5 => ∃ m, m < k ∧ Iv m s5) (fun _ _ => False) s4) (fun _ _ => False) s3) (fun _ _ => False) s2) (fun _ _ => False) s1) (fun _ _ => False) s)
    (k : Nat) (h : Iv k s) : codeAny (model prog w) A (.compLoop (.ListComp elt [⟨tg, iter, [], 0⟩] scope pos) 0 it acc env) R s := by
  refine codeAny_loop rfl Iv (fun k s hI => ?_) k h
  show wpAny _ _ ((compTurn (.ListComp elt [⟨tg, iter, [], 0⟩] scope pos) 0 it acc env).onRaise (fun e => do noteFrame e env; theTreesLotGoes e)) _ _ s
  refine wpAny_noted ?_
  rw [compTurn_list1]
  refine wpAny_bind (wpAny_standAt (wpAny_bind (wpAny_mono (turn k s hI) (fun r s1 h1 => ?_) fun _ _ f => f.elim)))
  cases r with
  | none => exact wpAny_pure h1
  | some v =>
    exact wpAny_bind (wpAny_mono h1 (fun _ s2 h2 => wpAny_bind (wpAny_mono h2 (fun _ s3 h3 => wpAny_bind (wpAny_bind (wpAny_mono h3 (fun y s4 h4 => wpAny_bind (wpAny_mono h4
      (fun _ s5 h5 => wpAny_pure (wpAny_pure ⟨rfl, h5⟩)) fun _ _ f => f.elim)) fun _ _ f => f.elim))) fun _ _ f => f.elim)) fun _ _ f => f.elim)
structure CompOk (X : Cx) (x : Str) (ts : List (Str × Nat)) (scope : Scope) (cl : List (Str × Addr)) : Prop where
  clos : closureFor scope X.env = pure cl
  sub : ∀ y c, cl.lookup y = some c → X.env.cells.lookup y = some c
  nocell : (scope.names.all fun p => p.2 != .cell) = true
  kind : scope.kind = .function
  locs : (scope.names.all fun p => p.2 != .local || scope.names.lookup p.1 == some .local) = true
  var : scope.names.lookup x = some .local
  nd : (x :: ts.map (·.1)).Nodup
  around : (ts.all fun p => decide (X.N[p.2]? = some p.1) && (X.env.kindOf p.1 == some .cell || X.env.kindOf p.1 == some .free) && (cl.lookup p.1).isSome &&
    ((relabel scope X.env).names.lookup p.1 == some .cell || (relabel scope X.env).names.lookup p.1 == some .free)) = true
  has : ((relabel scope X.env).names.all fun p => !(p.2 == .cell || p.2 == .free) || (cl.lookup p.1).isSome) = true
noncomputable abbrev nmsOf (x : Str) (ts : List (Str × Nat)) : List Str := x :: ts.map (·.1)
noncomputable abbrev sltOf (ts : List (Str × Nat)) : List Nat := ts.map (·.2)
theorem CompOk.nocell' {X : Cx} {x : Str} {ts : List (Str × Nat)} {scope : Scope} {cl : List (Str × Addr)} (O : CompOk X x ts scope cl) : ∀ y ∈ scope.names, y.2 ≠ .cell := fun y hy e => by
  have := List.all_eq_true.mp O.nocell y hy
  rw [e] at this
  cases this
theorem CompOk.locs' {X : Cx} {x : Str} {ts : List (Str × Nat)} {scope : Scope} {cl : List (Str × Addr)} (O : CompOk X x ts scope cl) : ∀ y ∈ scope.names, y.2 = .local → scope.names.lookup y.1 = some .local := fun y hy e => by
  have h := List.all_eq_true.mp O.locs y hy
  rw [e] at h
  rcases Bool.or_eq_true_iff.mp h with z | z
  · cases z
  · exact beq_iff_eq.mp z
theorem CompOk.from' {X : Cx} {x : Str} {ts : List (Str × Nat)} {scope : Scope} {cl : List (Str × Addr)} (O : CompOk X x ts scope cl) : ∀ (i : Nat) (y : Str), (nmsOf x ts)[i + 1]? = some y → ∃ j, (sltOf ts)[i]? = some j ∧ X.N[j]? = some y ∧ (X.env.kindOf y = some .cell ∨ X.env.kindOf y = some .free) ∧ (cl.lookup y).isSome = true ∧
    ((relabel scope X.env).names.lookup y = some .cell ∨ (relabel scope X.env).names.lookup y = some .free) := fun i y e => by
  have e1 : (ts.map (·.1))[i]? = some y := by simpa using e
  rw [List.getElem?_map] at e1
  cases q : ts[i]? with
  | none => rw [q] at e1; cases e1
  | some p =>
    rw [q] at e1
    have e2 : p.1 = y := Option.some.inj e1
    subst e2
    have h := List.all_eq_true.mp O.around p (List.mem_of_getElem? q)
    simp only [Bool.and_eq_true, Bool.or_eq_true, beq_iff_eq, decide_eq_true_eq] at h
    obtain ⟨⟨⟨h1, h2⟩, h3⟩, h4⟩ := h
    refine ⟨p.2, ?_, h1, h2, h3, h4⟩
    show (ts.map (·.2))[i]? = some p.2
    rw [List.getElem?_map, q] <;> rfl
theorem CompOk.has' {X : Cx} {x : Str} {ts : List (Str × Nat)} {scope : Scope} {cl : List (Str × Addr)} (O : CompOk X x ts scope cl) : ∀ y, ((relabel scope X.env).names.lookup y = some .cell ∨ (relabel scope X.env).names.lookup y = some .free) → (cl.lookup y).isSome = true := fun y h => by
  have go : ∀ k : NameKind, (k = .cell ∨ k = .free) → (relabel scope X.env).names.lookup y = some k → (cl.lookup y).isSome = true := fun k hk e => by
    have z := List.all_eq_true.mp O.has (y, k) (PySem.mem_of_lookup e)
    rcases Bool.or_eq_true_iff.mp z with z | z
    · rcases hk with e | e <;> (rw [e] at z; cases z)
    · exact z
  rcases h with h | h
  · exact go _ (.inl rfl) h
  · exact go _ (.inr rfl) h
section
variable {X : Cx} {elt iter : Expr} {x : Str} {px pos : Pos} {scope : Scope} {cl : List (Str × Addr)} {ts : List (Str × Nat)} {wi : TI} {te : TE}
theorem comp_ok {pins : List (Addr × Obj)} {σ : St} {H3 : Hp} {s3 : Shared} {fp : List Addr} (O : CompOk X x ts scope cl) (I3 : Inv X pins σ H3 s3) (hfp : ∀ b ∈ fp, FpOk X pins H3 b ∧ b < s3.heap.objs.size) :
    (cxComp X (nmsOf x ts) scope cl s3.heap.objs.size s3 H3 fp).Ok where
  mod := I3.ok.mod
  kind := O.kind
  glob := I3.ok.glob
  blt := I3.ok.blt
  above := Nat.le_refl _
  inj := fun y z c h1 h2 => I3.ok.inj y z c (O.sub y c h1) (O.sub z c h2)
  has := fun y h => Option.isSome_iff_exists.mp (O.has' y h)
  cab := fun y c h => by cases h
  hd := I3.ok.hd
  frames := I3.ok.frames
  stk := .inl rfl
  exf := fun b hb => ⟨Nat.ne_of_lt (hfp b hb).2, fun y c e => (hfp b hb).1.2.2.2.2.1 y c (O.sub y c e)⟩
  bs := fun b o e => I3.bs b o e
  bsz := Nat.le_trans I3.ok.bsz I3.sz
  noex := fun b o e hb => by
    rcases (hfp b hb).1.2.2.2.1 with z | z
    · exact I3.ok.noex b o e z
    · exact absurd (Nat.lt_of_lt_of_le (Heap.lt_size (I3.ok.bs b o e).1) z) (Nat.lt_irrefl _)
  exfs := fun b hb hz => by
    rcases List.mem_cons.mp (I3.stkSub b hz) with e | e
    · exact (hfp b hb).1.2.1 e
    · exact (hfp b hb).1.2.2.1 e
  funs := I3.stack
  frf := I3.stkFree
theorem comp_start {pins : List (Addr × Obj)} {σ : St} {H3 : Hp} {s3 : Shared} {fp : List Addr} {h1 : Heap} {tk : Nat} (O : CompOk X x ts scope cl) (I3 : Inv X pins σ H3 s3) (hfp : ∀ b ∈ fp, FpOk X pins H3 b ∧ b < s3.heap.objs.size)
    (hns : h1.Ns s3.heap.objs.size fun _ => none) (old : ∀ b o, s3.heap.get? b = some o → h1.get? b = some o) :
    Inv (cxComp X (nmsOf x ts) scope cl s3.heap.objs.size s3 H3 fp) [] (none :: taken σ (sltOf ts)) H3 { s3 with heap := h1, toks := tk } := by
  refine ⟨comp_ok O I3 hfp, rfl, I3.bare, Un.kept old, ⟨_, hns, fun i y v e1 e2 e3 => ?_⟩, fun y c e => ?_, I3.hok.fresh (Nat.le_refl _), fun y c e => I3.freeC y c (O.sub y c e), fun p hp => absurd (show p ∈ ([] : List (Addr × Obj)) from hp) (by simp), I3.hok.kept old, ?_⟩
  · cases i with
    | zero => simp at e2
    | succ i =>
      obtain ⟨j, hj, hN, hk, hcl, hk2⟩ := O.from' i y e1
      have e2' : σ[j]? = some (some v) := by
        have q : (taken σ (sltOf ts))[i]? = some (some v) := by simpa using e2
        unfold taken at q
        rw [List.getElem?_map, hj] at q
        have q' : (σ[j]?).getD none = some v := Option.some.inj q
        cases z : σ[j]? with
        | none => rw [z] at q'; cases q'
        | some w => rw [z] at q'; rw [show w = some v from q']
      obtain ⟨m, hn, hl⟩ := I3.loc
      have vis : Vis X.env.scope y := hk.elim (fun z => .inr (.inl z)) fun z => .inr (.inr z)
      obtain ⟨u, r, l⟩ := hl j y v hN e2' vis
      obtain ⟨c, hc⟩ := Option.isSome_iff_exists.mp hcl
      refine ⟨u, r, .inr ⟨hk2, c, hc, ?_⟩⟩
      rcases l with ⟨k, _⟩ | ⟨_, c', hc', z⟩
      · rcases hk with hk | hk
        · rw [k] at hk; cases hk
        · rw [k] at hk; cases hk
      · rw [O.sub y c hc] at hc'
        cases hc'
        obtain ⟨o, ho, hd⟩ := z
        exact ⟨o, old c o ho, hd⟩
  · obtain ⟨v, o, ho, hd⟩ := I3.cell y c (O.sub y c e)
    exact ⟨v, o, old c o ho, hd⟩
  · show (none :: taken σ (sltOf ts)).length = (nmsOf x ts).length
    simp [taken]
theorem pe_comp (hc : X.calm = true) (O : CompOk X x ts scope cl) (hi : PI X (.Name x px) iter wi) (he : ∀ C s3 H3 fp, PE (cxComp X (nmsOf x ts) scope cl C s3 H3 fp) elt te)
    (hs : ∀ x, foldedSetIterable iter X.env x = pure x := by intro _; rfl) : PE X (.ListComp elt [⟨.Name x px, iter, [], 0⟩] scope pos) (tComp wi (sltOf ts) te) := by
  intro pins s σ H Q I h
  rw [eval_ListComp]
  refine wpAny_comprehension_free (use := none) rfl hs O.clos O.kind O.locs' (thn (hi pins s σ H _ I h) fun v s1 h1 => thn h1 fun itv s2 h2 => ?_)
  obtain ⟨it, fp, tn, J, H2, rfl, I2, T, st2, f2, q⟩ := h2
  have hD : H2 s2.heap.objs.size = none := I2.hok.fresh (Nat.le_refl _)
  obtain ⟨W, ⟨m0, w0⟩, turn⟩ := q s2.heap.objs.size hD
  refine wpAny_newObj_type ?_
  have I3 : Inv X pins σ (upd H2 s2.heap.objs.size (.lst [])) { s2 with heap := s2.heap.push { cls := .type "list", dict := none, data := .seq ([] : List Value).toArray } } :=
    I2.laid (a := s2.heap.objs.size) (o := .lst []) (t' := s2.toks) (fun b u e => Heap.get?_push_of_some _ e) (Nat.le_refl _) ⟨Nat.zero_le _, [], 0, .nil, Heap.get?_push_size _ rfl⟩
  generalize hs3 : ({ s2 with heap := s2.heap.push { cls := .type "list", dict := none, data := .seq ([] : List Value).toArray } } : Shared) = s3 at I3
  have sz3 : s3.heap.objs.size = s2.heap.objs.size + 1 := by rw [← hs3, Heap.size_push]
  have old3 : ∀ b u, s2.heap.get? b = some u → s3.heap.get? b = some u := fun b u e => by rw [← hs3]; exact Heap.get?_push_of_some _ e
  generalize hH3 : upd H2 s2.heap.objs.size (.lst []) = H3 at I3 w0
  have H3D : H3 s2.heap.objs.size = some (.lst []) := by rw [← hH3]; exact upd_same
  have fp2 : ∀ b ∈ fp, b < s2.heap.objs.size := fun b hb => by
    obtain ⟨o, e, _⟩ := T.obj _ _ st2 b hb
    exact Heap.lt_size e
  have hfp : ∀ b ∈ fp, FpOk X pins H3 b ∧ b < s3.heap.objs.size := fun b hb => by
    refine ⟨⟨?_, (f2 b hb).2⟩, by rw [sz3]; exact Nat.lt_succ_of_lt (fp2 b hb)⟩
    rw [← hH3, upd_ne (Nat.ne_of_lt (fp2 b hb))]
    exact (f2 b hb).1
  refine wpAny_newFunctionEnv O.nocell' (by intro y hy; simp at hy) (fun h₁ hns₁ hsb₁ => ?_) O.kind
  have old : ∀ b o, s3.heap.get? b = some o → h₁.get? b = some o := fun b o e => hsb₁.extBut b o (Nat.ne_of_lt (Heap.lt_size e)) (Heap.get?_push_of_some _ e)
  have start : Inv (cxComp X (nmsOf x ts) scope cl s3.heap.objs.size s3 H3 fp) [] (none :: taken σ (sltOf ts)) H3 { s3 with heap := h₁, toks := s3.toks + 0 } := comp_start O I3 hfp hns₁ old
  have st4 : tn 0 h₁ := T.keep _ _ _ st2 fun b hb o e => old b o (old3 b o e)
  have okX : ∀ {H' : Hp}, (∀ b ∈ fp, H' b = none) → ∀ b ∈ fp, FpOk (cxComp X (nmsOf x ts) scope cl s3.heap.objs.size s3 H3 fp) [] H' b := fun hn b hb => by
    refine ⟨hn b hb, Nat.ne_of_lt (hfp b hb).2, fun z => ?_, .inl hb, fun y c e => (f2 b hb).2.2.2.2.1 y c (O.sub y c e), fun p hp => absurd (show p ∈ ([] : List (Addr × Obj)) from hp) (by simp)⟩
    rcases List.mem_cons.mp (I3.stkSub b z) with e | e
    · exact (f2 b hb).2.1 e
    · exact (f2 b hb).2.2.1 e
  have loop : ∀ s₄ : Shared, s₄ = { s3 with heap := h₁, toks := s3.toks + 0 } →
      codeAny (model X.prog X.w) X.A (.compLoop (.ListComp elt [⟨.Name x px, iter, [], 0⟩] scope pos) 0 (.ref it) (.ref s2.heap.objs.size) (compEnvC scope cl s3.heap.objs.size X.env))
        (compPost (model X.prog X.w) X.A X.xe none (EP X pins σ Q) (.ref s2.heap.objs.size) s3.heap.objs.size) s₄ := by
    rintro s₄ rfl
    refine compLoop_any (fun n s' => ∃ i ys σ0 H', Inv (cxComp X (nmsOf x ts) scope cl s3.heap.objs.size s3 H3 fp) [] (σ0 :: taken σ (sltOf ts)) H' s' ∧ tn i s'.heap ∧ (∀ b ∈ fp, H' b = none) ∧ W i n ys H') ?_ m0
      ⟨0, [], none, H3, start, st4, fun b hb => (hfp b hb).1.1, w0⟩
    rintro n s5 ⟨i, ys, σ0, H5, I5, st5, fr5, w5⟩
    rcases turn i n ys H5 w5 with ⟨stop, qn⟩ | ⟨go, step⟩
    · refine thn (T.done (cxComp X (nmsOf x ts) scope cl s3.heap.objs.size s3 H3 fp) rfl rfl rfl hc i [] s5 (σ0 :: taken σ (sltOf ts)) H5 _ I5 (okX fr5) st5 stop) fun r s6 ⟨hr, I6⟩ => ?_
      subst hr
      obtain ⟨m, hn, _⟩ := id I6.loc
      refine ⟨m, hn, fun h' sb => ?_⟩
      have u6 : Un (frs X.stack) fp H3 H5 s3.heap s6.heap := I6.base
      have neC : ∀ b o, s3.heap.get? b = some o → b ≠ s3.heap.objs.size := fun b o e => Nat.ne_of_lt (Heap.lt_size e)
      have un : Un (frs X.stack) fp H3 H5 s3.heap h' := ⟨fun b o e n1 hb hx => (sb.2 b (neC b o e)).trans (u6.keep b o e n1 hb hx), fun b o e n1 hb hx => by
          obtain ⟨sl, z⟩ := u6.slot b o e n1 hb hx
          exact ⟨sl, (sb.2 b (neC b o e)).trans z⟩, u6.free, fun b o e hx => by
          obtain ⟨o', z⟩ := u6.there b o e hx
          exact ⟨o', (sb.2 b (neC b o e)).trans z⟩, u6.tups, u6.frzs, u6.tbls⟩
      have hok : HOk X.prog X.w H5 h' := fun b u e => by
        refine (I6.hok b u e).stay (fun c v hc' z => (sb.2 c ?_).trans z) (fun _ z => z) fun _ _ z => z
        rintro rfl
        have fC : H5 s3.heap.objs.size = none := I6.free
        rcases hc' with z' | z'
        · rw [← z', fC] at e; cases e
        · rw [fC] at z'; cases z'
      refine ⟨.ref s2.heap.objs.size, H5, I3.call' (s' := { s6 with heap := h' }) (ch := fp) ?_ un hok I6.bare (fun b hb => ⟨(f2 b hb).2.2.2.1, (f2 b hb).2.1, (f2 b hb).2.2.2.2.1, (f2 b hb).2.2.2.2.2⟩), rfl, qn⟩
      exact I6.os
    · refine thn (T.item (cxComp X (nmsOf x ts) scope cl s3.heap.objs.size s3 H3 fp) rfl rfl rfl hc i [] s5 (σ0 :: taken σ (sltOf ts)) H5 _ I5 (okX fr5) st5 go) fun r s6 ⟨u, hr, h6⟩ => ?_
      subst hr
      refine thn h6 fun _ s7 ⟨z, H7, I7, rz, yz, st7, fr7⟩ => ?_
      have I7' := I7.pinned (okX fr7) (T.obj _ _ st7)
      have PG' : PG (cxComp X (nmsOf x ts) scope cl s3.heap.objs.size s3 H3 fp) (.Name x px) (gName 0) := pg_name (i := 0) O.nd rfl (.inl (lookup_relabel_local O.var)) (.inr (lookup_relabel_local O.var))
      refine thn (PG' _ s7 _ H7 z u (fun σ' H' => σ' = some z :: taken σ (sltOf ts) ∧ H' = H7) I7' rz ⟨rfl, rfl⟩) fun _ s8 ⟨σ8, H8, I8, e8, eh8⟩ => ?_
      subst e8 eh8
      refine thn (he s3.heap.objs.size s3 H3 fp _ s8 _ H8 _ I8 (step z H8 yz)) fun y s9 ⟨vy, H9, I9, ry, hD9, hl9, m', hm', w9⟩ => ?_
      refine thn (mt_append (X := cxComp X (nmsOf x ts) scope cl s3.heap.objs.size s3 H3 fp) _ s9 _ H9 (.ref s2.heap.objs.size) [vy] (.ref s2.heap.objs.size) [y] (fun _ H10 => H10 = upd H9 s2.heap.objs.size (.lst (ys ++ [vy]))) I9 rfl (.cons ry .nil) ⟨_, ys, vy, rfl, rfl, hD9, hl9, rfl⟩) fun _ s10 ⟨_, H10, I10, _, e10⟩ => ?_
      subst e10
      refine ⟨m', hm', i + 1, ys ++ [vy], some z, _, I10.unpinned, T.keep _ _ _ st7 fun b hb o e => (I10.pin (b, o) (List.mem_append_right _ (List.mem_append_right _ (mem_pinsAt hb e)))).1, fun b hb => ?_, w9⟩
      obtain ⟨o, e, d⟩ := T.obj _ _ st7 b hb
      exact (I10.pin (b, o) (List.mem_append_right _ (List.mem_append_right _ (mem_pinsAt hb e)))).2.1
  have hst := codeAny_compStart_list (loop _ rfl) (T.self X.A 0 _ _ _ st4 (loop _ rfl))
  exact hst
end
end L2
set_option maxHeartbeats 4000000
namespace L2
open PySem PySem.Spec PyProof.Rows
inductive Th where
  | non | bl (b : Bool) | int (i : Int) | str (x : Str) | lst (xs : List Th) | tup (xs : List Th) | emp | dic
mutual
noncomputable def Den (H : Hp) : Th → V → Prop
  | .non, v => v = .non
  | .bl b, v => v = .bl b
  | .int i, v => v = .int i
  | .str x, v => v = .str x
  | .lst ts, v => ∃ a xs, v = .ref a ∧ H a = some (.lst xs) ∧ Dens H ts xs
  | .tup ts, v => ∃ a xs, v = .ref a ∧ H a = some (.tup xs) ∧ Dens H ts xs
  | .emp, v => ∃ a, v = .ref a ∧ H a = some (.dK [])
  | .dic, v => ∃ a kvs, v = .ref a ∧ H a = some (.dK kvs)
noncomputable def Dens (H : Hp) : List Th → List V → Prop
  | [], xs => xs = []
  | t :: ts, xs => ∃ y ys, xs = y :: ys ∧ Den H t y ∧ Dens H ts ys
end
mutual
theorem Den.keep {H H' : Hp} (s : Same H H') : ∀ {t : Th} {v : V}, Den H t v → Den H' t v
  | .non, _, h => h
  | .bl _, _, h => h
  | .int _, _, h => h
  | .str _, _, h => h
  | .lst _, _, ⟨a, xs, e, h, d⟩ => ⟨a, xs, e, s _ _ h, Dens.keep s d⟩
  | .tup _, _, ⟨a, xs, e, h, d⟩ => ⟨a, xs, e, s _ _ h, Dens.keep s d⟩
  | .emp, _, ⟨a, e, h⟩ => ⟨a, e, s _ _ h⟩
  | .dic, _, ⟨a, k, e, h⟩ => ⟨a, k, e, s _ _ h⟩
theorem Dens.keep {H H' : Hp} (s : Same H H') : ∀ {ts : List Th} {xs : List V}, Dens H ts xs → Dens H' ts xs
  | [], _, h => h
  | _ :: _, _, ⟨y, ys, e, d, ds⟩ => ⟨y, ys, e, Den.keep s d, Dens.keep s ds⟩
end
theorem Dens.len {H : Hp} : ∀ {ts : List Th} {xs : List V}, Dens H ts xs → xs.length = ts.length
  | [], _, h => by rw [show _ = [] from h]; rfl
  | _ :: _, _, ⟨y, ys, e, d, ds⟩ => by rw [e, List.length_cons, List.length_cons, Dens.len ds]
theorem Dens.get {H : Hp} : ∀ {ts : List Th} {xs : List V} {i : Nat} {t : Th}, Dens H ts xs → ts[i]? = some t → ∃ v, xs[i]? = some v ∧ Den H t v
  | _ :: _, _, 0, t, ⟨y, ys, e, d, ds⟩, h => by
    rw [List.getElem?_cons_zero] at h
    cases h
    exact ⟨y, by rw [e]; rfl, d⟩
  | _ :: _, _, i + 1, t, ⟨y, ys, e, d, ds⟩, h => by
    rw [List.getElem?_cons_succ] at h
    obtain ⟨v, h1, h2⟩ := Dens.get ds h
    exact ⟨v, by rw [e, List.getElem?_cons_succ]; exact h1, h2⟩
noncomputable def tyTh : Th → Value
  | .non => .type "NoneType"
  | .bl _ => .type "bool"
  | .int _ => .type "int"
  | .str _ => .type "str"
  | .lst _ => .type "list"
  | .tup _ => .type "tuple"
  | .emp => .type "dict"
  | .dic => .type "dict"
theorem Den.ty {K : PySem.W.Frag} {H : Hp} : ∀ {t : Th} {v : V}, Den H t v → TyOf K H v (tyTh t)
  | .non, _, h => by cases (show _ = V.non from h); exact .non
  | .bl b, _, h => by cases (show _ = V.bl b from h); exact .bl b
  | .int i, _, h => by cases (show _ = V.int i from h); exact .int i
  | .str x, _, h => by cases (show _ = V.str x from h); exact .str x
  | .lst _, _, ⟨a, xs, e, h, _⟩ => by subst e; exact .lst h
  | .tup _, _, ⟨a, xs, e, h, _⟩ => by subst e; exact .tup h
  | .emp, _, ⟨a, e, h⟩ => by subst e; exact .dK h
  | .dic, _, ⟨a, k, e, h⟩ => by subst e; exact .dK h
noncomputable def isIntT : Th → Bool
  | .int _ => true
  | .bl _ => true
  | _ => false
noncomputable def isBoolT : Th → Bool
  | .bl _ => true
  | _ => false
noncomputable def isTupT : Th → Bool
  | .tup _ => true
  | _ => false
noncomputable def isLstT : Th → Bool
  | .lst _ => true
  | _ => false
theorem kit_int {K : PySem.W.Frag} (t : Th) : PySem.W.kitOne K (tyTh t) (.type "int") = some (isIntT t) := by cases t <;> rfl
theorem kit_bool {K : PySem.W.Frag} (t : Th) : PySem.W.kitOne K (tyTh t) (.type "bool") = some (isBoolT t) := by cases t <;> rfl
theorem kit_tuple {K : PySem.W.Frag} (t : Th) : PySem.W.kitOne K (tyTh t) (.type "tuple") = some (isTupT t) := by cases t <;> rfl
section
variable {X : Cx}
theorem kitx_ty {pins : List (Addr × Obj)} {σ : St} {H : Hp} {s : Shared} {t : Th} {x : V} {u : Value} (I : Inv X pins σ H s) (rx : RelV x u) (d : Den H t x) : ∃ HP : Heap → Prop, PySem.W.KitX X.K u (tyTh t) HP ∧ HP s.heap ∧ u ≠ .builtin "__main__.__loader__#opaque" := by
  cases t with
  | non => cases (show x = V.non from d); cases (show u = Value.none from rx); exact ⟨_, PySem.W.kitx_none, True.intro, fun z => nomatch z⟩
  | bl b => cases (show x = V.bl b from d); cases (show u = Value.bool b from rx); exact ⟨_, PySem.W.kitx_bool, True.intro, fun z => nomatch z⟩
  | int i => cases (show x = V.int i from d); obtain ⟨k, q⟩ := (show ∃ k, u = Value.int i k from rx); cases q; exact ⟨_, PySem.W.kitx_int, True.intro, fun z => nomatch z⟩
  | str y => cases (show x = V.str y from d); obtain ⟨k, q⟩ := (show ∃ k, u = Value.str y k from rx); cases q; exact ⟨_, PySem.W.kitx_str, True.intro, fun z => nomatch z⟩
  | lst ts =>
    obtain ⟨a, xs, e, h, _⟩ := d
    subst e
    cases (show u = Value.ref a from rx)
    obtain ⟨_, _, n, _, h1⟩ := (show ObjOk X.prog X.w H s.heap a (.lst xs) from I.hok a _ h)
    exact ⟨_, PySem.W.kitx_list, ⟨_, h1, rfl⟩, fun z => nomatch z⟩
  | tup ts =>
    obtain ⟨a, xs, e, h, _⟩ := d
    subst e
    cases (show u = Value.ref a from rx)
    obtain ⟨_, _, _, p⟩ := (show ObjOk X.prog X.w H s.heap a (.tup xs) from I.hok a _ h)
    obtain ⟨o, h1, h2, _⟩ := p
    exact ⟨_, PySem.W.kitx_tuple, ⟨o, h1, h2⟩, fun z => nomatch z⟩
  | emp =>
    obtain ⟨a, e, h⟩ := d
    subst e
    cases (show u = Value.ref a from rx)
    obtain ⟨_, _, vs, _, p⟩ := (show ObjOk X.prog X.w H s.heap a (.dK []) from I.hok a _ h)
    obtain ⟨o, es, ep, h1, h2, _⟩ := p
    exact ⟨_, PySem.W.kitx_dict, ⟨o, h1, h2.1⟩, fun z => nomatch z⟩
  | dic =>
    obtain ⟨a, kvs, e, h⟩ := d
    subst e
    cases (show u = Value.ref a from rx)
    obtain ⟨_, _, vs, _, p⟩ := (show ObjOk X.prog X.w H s.heap a (.dK kvs) from I.hok a _ h)
    obtain ⟨o, es, ep, h1, h2, _⟩ := p
    exact ⟨_, PySem.W.kitx_dict, ⟨o, h1, h2.1⟩, fun z => nomatch z⟩
theorem vals_tys : ∀ {Ts : List String} {us : List Value}, Vals (Ts.map V.ty) us → us = Ts.map Value.type
  | [], _, .nil => rfl
  | T :: Ts, _, .cons r t => by rw [vals_tys t, show _ = Value.type T from r]; rfl
theorem call_isinstT : CallR X (.builtin "isinstance") (fun xs H Q => ∃ (x : V) (p : Addr) (t : Th) (Ts : List String) (b : Bool), xs = [x, .ref p] ∧ H p = some (.tup (Ts.map V.ty)) ∧ Den H t x ∧ PySem.W.kitAny X.K (tyTh t) (Ts.map Value.type) = some b ∧ Q (.bl b) H) := by
  intro pins s σ H xs us Q I r h
  obtain ⟨x, p, t, Ts, b, rfl, hp, d, e, q⟩ := h
  obtain ⟨u, w', rfl, r1, r2⟩ := vals2 r
  cases r2
  obtain ⟨HP, Z, hz, hx⟩ := kitx_ty I r1 d
  obtain ⟨_, its, rv, tp⟩ := (show ObjOk X.prog X.w H s.heap p (.tup (Ts.map V.ty)) from I.hok p _ hp)
  have ei := vals_tys rv
  subst ei
  obtain ⟨⟨cls, dd, data, sl⟩, h1, h2, n, h3⟩ := tp
  simp only at h2 h3
  subst h2 h3
  exact PySem.W.kia_tup Z I.kIn hz h1 e hx fun tk => ⟨.bl b, H, I.tok _, rfl, q⟩
theorem call_isinstD : CallR X (.builtin "isinstance") (fun xs H Q => ∃ x t T b, xs = [x, .ty T] ∧ Den H t x ∧ PySem.W.kitOne X.K (tyTh t) (.type T) = some b ∧ Q (.bl b) H) := by
  intro pins s σ H xs us Q I r h
  obtain ⟨x, t, T, b, e, d, k, q⟩ := h
  exact call_isinst pins s σ H xs us Q I r ⟨x, tyTh t, T, b, e, d.ty, k, q⟩
noncomputable def iSeq (K : PySem.W.Frag) (tl : TE) : TI := fun σ H R => tl σ H fun x H1 => ∃ a xs, x = .ref a ∧ ((SqL K H1 a xs ∧ R (Itl K a) H1) ∨ (SqT K H1 a xs ∧ R (Itt K a) H1))
theorem pi_seq {tg l : Expr} {tl : TE} (hl : PE X l tl) : PI X tg l (iSeq X.K tl) := by
  intro pins s σ H R I h
  refine thn (hl pins s σ H _ I h) fun v s1 ⟨x, H1, I1, r1, q1⟩ => ?_
  obtain ⟨a, xs, e, q⟩ := q1
  subst e
  cases r1
  rcases q with ⟨hq, q⟩ | ⟨hq, q⟩
  · obtain ⟨its, rv, p, hz⟩ := I1.list hq
    refine wpAny_pyIter_list p.isList ?_
    refine ⟨s1.heap.objs.size, [s1.heap.objs.size], _, _, H1, rfl, I1.kept (t' := s1.toks) fun b o e => Heap.get?_push_of_some _ e, turn_list a _, ⟨_, Heap.get?_push_size _ rfl, rfl, rfl⟩, fun b hb => ?_, q⟩
    have e : b = s1.heap.objs.size := by simpa using hb
    subst e
    exact I1.fpOk (Nat.le_refl _) (I1.hok.fresh (Nat.le_refl _))
  · obtain ⟨its, rv, p, hz⟩ := I1.tuple hq
    refine wpAny_pyIter_tuple (show s1.heap.IsTuple a its.toArray from p) ?_
    refine ⟨s1.heap.objs.size, [s1.heap.objs.size], _, _, H1, rfl, I1.kept (t' := s1.toks) fun b o e => Heap.get?_push_of_some _ e, turn_tuple a _, ⟨_, Heap.get?_push_size _ rfl, rfl, rfl⟩, fun b hb => ?_, q⟩
    have e : b = s1.heap.objs.size := by simpa using hb
    subst e
    exact I1.fpOk (Nat.le_refl _) (I1.hok.fresh (Nat.le_refl _))
end
end L2
set_option maxHeartbeats 4000000
namespace L2
open PySem PySem.Spec PyProof.Rows
theorem ObjOk.there {P : Program} {w : World} {H : Hp} {h : Heap} {a : Addr} {o : HO} (k : ObjOk P w H h a o) : ∃ ob, h.get? a = some ob := by
  cases o with
  | lst _ => obtain ⟨_, _, _, _, e⟩ := k; exact ⟨_, e⟩
  | tup _ => obtain ⟨_, _, _, o, e, _⟩ := k; exact ⟨o, e⟩
  | dK _ => obtain ⟨_, _, _, _, o, _, _, e, _⟩ := k; exact ⟨o, e⟩
  | dT _ => obtain ⟨_, _, _, _, o, _, _, e, _⟩ := k; exact ⟨o, e⟩
  | set _ _ => obtain ⟨o, _, _, _, e, _⟩ := k; exact ⟨o, e⟩
  | ins _ _ _ => obtain ⟨_, _, _, e, _⟩ := k; exact ⟨_, e⟩
  | own _ => obtain ⟨o, e⟩ := k; exact ⟨o, e⟩
  | xd _ => obtain ⟨_, ⟨o, _, _, e, _⟩, _⟩ := k; exact ⟨o, e⟩
  | rng _ _ => obtain ⟨_, _, _, e⟩ := k; exact ⟨_, e⟩
  | frz _ _ => obtain ⟨e, _⟩ := k; exact ⟨_, e⟩
  | tbl _ => exact ⟨_, k⟩
  | met _ _ => exact ⟨_, k⟩
  | ext _ => obtain ⟨_, ⟨o, e⟩, _⟩ := k; exact ⟨o, e⟩
noncomputable def Fly (l : List Env) (h0 : Heap) (H' : Hp) (e : Addr) (cls : Value) (h : Heap) : Prop :=
  ∃ (B : Heap) (t : Addr), Heap.FlyingW B l e cls (.ref t) h ∧ h0.get? e = none ∧ H' e = none ∧
    ∀ b o, h.get? b = some o → ((∃ o', h0.get? b = some o') ∨ ∃ u, H' b = some u) → b ∉ frs l → B.get? b = some o
noncomputable def CXX (P : Program) (w : World) : CXT := fun outer H s E e s' =>
  ∃ a cls H', e = .ref a ∧ s'.os = s.os ∧ AllBare s'.gens ∧ Un (frs outer) [] H H' s.heap s'.heap ∧ HOk P w H' s'.heap ∧ Fly outer s.heap H' a cls s'.heap ∧ E cls none H'
theorem cxx_never {P : Program} {w : World} {H : Hp} {s : Shared} {e : Value} {s' : Shared} {l : List Env} (h : CXX P w l H s (fun _ _ _ => False) e s') : False := by
  obtain ⟨_, _, _, _, _, _, _, _, _, q⟩ := h
  exact q
theorem fly_keeps {P : Program} {w : World} {fs : List Addr} {l : List Env} {base B h0 h h5 : Heap} {H H' : Hp} (un : Un fs [] H H' h0 h) (hok : HOk P w H' h)
    (kB : ∀ b o, h.get? b = some o → ((∃ o', h0.get? b = some o') ∨ ∃ u, H' b = some u) → b ∉ frs l → B.get? b = some o)
    (ff : h.FunFrames base l) (hfs : ∀ b ∈ fs, b ∈ frs l) (hl : ∀ b ∈ frs l, b ∉ fs → h0.get? b = none) (hu : ∀ b ∈ frs l, H' b = none)
    (st : B.StaysIn h5) (up : h.UpToSlots h5) : Un fs [] H H' h0 h5 ∧ HOk P w H' h5 := by
  have kk : ∀ b o, h.get? b = some o → (∃ o', h0.get? b = some o') → b ∉ fs → h5.get? b = some o := fun b o e1 ⟨o', e0⟩ hb => by
    refine st b o (kB b o e1 (.inl ⟨o', e0⟩) fun z => ?_)
    rw [hl b z hb] at e0; cases e0
  have ks : ∀ b o, h.get? b = some o → b ∈ fs → ∃ sl, h5.get? b = some { o with slots := sl } := fun b o e1 hb => by
    obtain ⟨_, o2, e2, nf⟩ := ff.mem (hfs b hb)
    rw [e1] at e2; cases e2
    exact up b o e1 nf
  refine ⟨⟨fun b o e n hb hx => kk b o (un.keep b o e n hb hx) ⟨o, e⟩ hb, fun b o e n hb hx => ?_, un.free, fun b o e hx => ?_, un.tups, un.frzs, un.tbls⟩, fun a o e => ?_⟩
  · obtain ⟨s1, e1⟩ := un.slot b o e n hb hx
    obtain ⟨s2, e2⟩ := ks b _ e1 hb
    exact ⟨s2, e2⟩
  · obtain ⟨o', e1⟩ := un.there b o e hx
    by_cases hb : b ∈ fs
    · obtain ⟨s2, e2⟩ := ks b _ e1 hb
      exact ⟨_, e2⟩
    · exact ⟨o', kk b o' e1 ⟨o, e⟩ hb⟩
  · have tr : ∀ b u v, H' b = some u → h.get? b = some v → h5.get? b = some v := fun b u v q e1 => st b v (kB b v e1 (.inr ⟨u, q⟩) fun z => by rw [hu b z] at q; cases q)
    refine (hok a o e).stay (fun b v hb q => ?_) (fun _ q => q) fun _ _ q => q
    rcases hb with z | z
    · subst z; exact tr b o v e q
    · exact tr b _ v z q
structure DefCx (X : Cx) : Prop where
  st : X.stack = X.env :: X.outer
  fr : X.env.frame = some X.env.locals
  ex : X.ex = []
section
variable {X : Cx} {pins : List (Addr × Obj)} {σ : St} {H : Hp} {s : Shared} {E : XK} {M : Model}
theorem Inv.gone (I : Inv X pins σ H s) (dx : DefCx X) {e : Addr} (n : s.heap.get? e = none) : X.s₀.heap.get? e = none ∧ H e = none := by
  constructor
  · cases q : X.s₀.heap.get? e with
    | none => rfl
    | some o =>
      obtain ⟨o', z⟩ := I.base.there e o q (by rw [dx.ex]; simp)
      rw [n] at z; cases z
  · cases q : H e with
    | none => rfl
    | some u =>
      obtain ⟨o', z⟩ := (I.hok e u q).there
      rw [n] at z; cases z
theorem Inv.notMine (I : Inv X pins σ H s) {b : Addr} {o : Obj} (e : X.s₀.heap.get? b = some o) : b ≠ X.env.locals := Nat.ne_of_lt (Nat.lt_of_lt_of_le (Heap.lt_size e) I.ok.above)
theorem fly_out (dx : DefCx X) (I : Inv X pins σ H s) {B h' : Heap} {e t : Addr} {cls : Value}
    (kB : ∀ b o, s.heap.get? b = some o → ((∃ o', X.s₀.heap.get? b = some o') ∨ ∃ u, H b = some u) → b ∉ frs X.stack → B.get? b = some o)
    (fw : Heap.FlyingW B X.outer e cls (.ref t) h') (up : s.heap.UpToSlots h') (ne : X.s₀.heap.get? e = none) (hn : H e = none) (q : E cls none H) :
    CXX X.prog X.w X.outer X.H₀ X.s₀ E (.ref e) { s with heap := h' } := by
  have un0 : Un X.fs [] X.H₀ H X.s₀.heap s.heap := by have := I.base; rw [dx.ex] at this; exact this
  have sub : ∀ b ∈ X.fs, b ∈ frs X.stack := fun b hb => by
    rw [dx.st]; unfold frs; rw [List.filterMap_cons, dx.fr]; exact List.mem_cons_of_mem _ hb
  have hl : ∀ b ∈ frs X.stack, b ∉ X.fs → X.s₀.heap.get? b = none := fun b hb hn => by
    rcases List.mem_cons.mp (I.stkSub b hb) with z | z
    · cases q : X.s₀.heap.get? b with
      | none => rfl
      | some o => exact absurd z (I.notMine q)
    · exact absurd z hn
  obtain ⟨un, hok⟩ := fly_keeps (h5 := h') un0 I.hok kB I.stack sub hl I.stkFree fw.1 up
  refine ⟨e, cls, H, rfl, I.os, I.bare, un, hok, ⟨B, t, fw, ne, hn, fun b o e1 hz hb => ?_⟩, q⟩
  have there : ∃ o2, s.heap.get? b = some o2 := by
    rcases hz with ⟨o', z⟩ | ⟨u, z⟩
    · exact un0.there b o' z (by simp)
    · exact (I.hok b u z).there
  have nst : b ∉ frs X.stack := fun z => by
    rcases List.mem_cons.mp (I.stkSub b z) with y | y
    · rcases hz with ⟨o', q⟩ | ⟨u, q⟩
      · exact I.notMine q y
      · rw [I.stkFree b z] at q; cases q
    · exact hb y
  obtain ⟨o2, e2⟩ := there
  have e3 := kB b o2 e2 hz nst
  have e4 := fw.1 b o2 e3
  have e1' : h'.get? b = some o := e1
  rw [e1'] at e4
  cases e4
  exact e3
theorem leave_made (dx : DefCx X) (I : Inv X pins σ H s) {h1 : Heap} {e : Addr} {cls : Value} {args : List Value} (mk : Heap.MadeExcOf s.heap h1 e cls args) (q : E cls none H) {E' : Value → Shared → Prop} :
    wpAny M X.A (leaving X.env (.ref e)) (fun _ s2 => CXX X.prog X.w X.outer X.H₀ X.s₀ E (.ref e) s2) E' { s with heap := h1 } := by
  have hin : ∀ env ∈ X.stack, ∀ b, env.frame = some b → b ∈ frs X.stack := fun env he b hb => List.mem_filterMap.mpr ⟨env, he, hb⟩
  have ff := PySem.W.funFrames_hide I.stack hin
  rw [dx.st] at ff
  obtain ⟨n1, n2⟩ := I.gone dx mk.new
  refine wpAny_leaves_madeW (base := PySem.W.hideAll s.heap (frs (X.env :: X.outer))) (h := s.heap) (by rw [I.ok.frames, dx.st]) dx.fr (fun b o z => PySem.W.of_hideAll _ z) ff mk fun h' t x1 _ _ x4 => ?_
  exact fly_out dx I (fun b o e1 _ hb => PySem.W.hideAll_get _ e1 (by rw [← dx.st]; exact hb)) x1 ((Heap.UpToSlots.of_keeps mk.keeps).trans x4) n1 n2 q
end
end L2
set_option maxHeartbeats 4000000
namespace L2
open PySem PySem.Spec PyProof.Rows
abbrev vbm : List Value := [.type "ValueError", .type "Exception", .type "BaseException", .type "object"]
theorem cls_of {K : PySem.W.Frag} {h : Heap} {C : Addr} {nid : String} {bmB : List Value} (kin : K.In h) (z : PySem.W.excIn K C bmB nid = true) :
    ∃ (tl : List Value) (N : Addr) (nm qn : Str) (bs : List Value) (hd : Bool) (sn : List Str) (su : List Value) (ab : Bool) (co : Option Bool) (dd : Option Addr) (k0 k1 k2 k3 k5 : Option Value) (mN : Str → Option Value),
      h.get? C = some (excClassObj nm qn C N bs tl hd sn su ab co dd k0 k1 k2 k3 k5 nid) ∧ h.Ns N mN ∧ mN "__init__" = none ∧ OwnTail h bmB tl := by
  unfold PySem.W.excIn at z
  split at z
  · rename_i d0 c0 slt lk
    split at z
    · rename_i C2 tl a0 a1 a2 a3 nn a5 em es
      simp only [Bool.and_eq_true, beq_iff_eq, Bool.not_eq_true'] at z
      obtain ⟨⟨⟨⟨⟨y1, y2⟩, y3⟩, y4⟩, y5⟩, y6⟩ := z
      subst y1 y2
      obtain ⟨nm, bs, mr, ns, qn, hd, sn, su, ab, co, de⟩ := c0
      dsimp only at em y3 y5 y6
      subst em y3
      have sz : slt = #[a0, a1, a2, a3, some (.builtin nn), a5] := by
        cases slt with | mk l => exact congrArg Array.mk es
      subst sz
      exact ⟨tl, ns, nm, qn, bs, hd, sn, su, ab, co, d0, a0, a1, a2, a3, a5, _, kin _ _ lk, .of_isNs (PySem.W.isNs_of_in kin y5), PySem.W.nsMap_none_of_in kin y5 y6, PySem.W.tail_of_in kin y4⟩
    · cases z
  · cases z
structure XCls (K : PySem.W.Frag) (mg : Str → Option Value) (x : Str) (C : Addr) : Prop where
  at_ : mg x = some (.ref C)
  ok : PySem.W.excIn K C vbm "ValueError.__new__" = true
section
variable {X : Cx} {E : XK} {x : Str} {C : Addr} {np cpos pos : Pos} {e : Expr} {es : List Expr} {t : TA}
noncomputable def Reach (X : Cx) (E : XK) : Prop := ∀ (pins : List (Addr × Obj)) (σ : St) (H : Hp) (s : Shared) (h1 : Heap) (e : Addr) (cls : Value) (args : List Value), Inv X pins σ H s → Heap.MadeExcOf s.heap h1 e cls args → E cls none H → X.xe (.ref e) { s with heap := h1 }
noncomputable def tRaise (C : Addr) (E : XK) (t : TA) : TS := fun _ σ H => t σ H fun vs H1 => vs.length ≤ sizeLine ∧ E (.ref C) none H1
theorem ps_raise (hr : Reach X E) (hc : X.calm = true) (xc : XCls X.K X.mg x C) (hg : Gl X x) (ha : PA X (e :: es) t)
    (hdb : (x == ("__debug__" : Str)) = false := by decide) (he : starEach (e :: es) X.env = (false, eval e X.env) :: starEach es X.env := by rfl) (hpl : (backTo cpos (starEach es X.env)).any (·.1) = false := by rfl) :
    PS X (.Raise (some (.Call (.Name x np) (e :: es) [] cpos)) none pos) (tRaise C E t) := by
  intro pins s σ H D I h
  obtain ⟨tl, N, nm, qn, bs, hd, sn, su, ab, co, dd, k0, k1, k2, k3, k5, mN, hC, hN, hni, T⟩ := cls_of I.mod.kin xc.ok
  refine wpAny_Raise_call_subT (C := C) (nm := nm) (q := qn) (N := N) (bs := bs) (bm := tl) (hdct := hd) (sn := sn) (sub := su) (ab := ab) (col := co) (dd := dd) (k0 := k0) (k1 := k1) (k2 := k2) (k3 := k3) (k5 := k5)
    PySem.F.excBase_ValueError (mN := mN) (T.hasType PySem.F.excBase_ValueError.hasBase) (I.ok.hd hc) (by rw [he]; show (false || _) = false; exact hpl) hni (ld_glob I hg xc.at_ ⟨rfl, ?_⟩ hdb)
  have h2 := ha cpos pins s σ H _ I h
  rw [he] at h2 ⊢
  exact Calls.evalArgs_plain (wpAny_mono h2 (fun us s2 ⟨vs, H1, I1, rv, hl, q⟩ => ⟨rfl, by rw [← rv.length]; exact hl, I1.bk _ _ hC, hN.keeps I1.bk, T.keeps I1.bk, fun h' e mk => hr pins σ H1 s2 h' e _ us I1 mk q⟩) fun _ _ y => y)
end
section
variable {P : Program} {w : World} {K : PySem.W.Frag} {mg : Str → Option Value} {base : Heap} {N : List Str} {qual : Str} {scope : Scope} {f : Addr} {cd : Value} {A : Around} {outer : List Env} {s : Shared} {H : Hp} {E : XK}
theorem dxOf {CX : CXT} : DefCx (cxOf CX P w K mg base N qual scope f cd A outer s H E) := ⟨rfl, rfl, rfl⟩
theorem reachOf : Reach (cxOf (CXX P w) P w K mg base N qual scope f cd A outer s H E) E := fun _ _ _ _ _ _ _ _ I mk q => leave_made dxOf I mk q
theorem Fun.okX {x : Str} {st : Stmt} {fd : FuncData} {ps : List Str} {k : Nat} {sp : Sp} (F : Fun K x qual st f fd) (S : FnScope N ps (defScope st)) (len : ∀ vs H Q E, sp vs H Q E → vs.length = ps.length)
    (hbody : ∀ (cdv : Value) (A : Around) (outer : List Env) (s : Shared) (H : Hp) (vs : List V) (Q : VK) (E : XK), Room k (A.deeper (envOfC qual (defScope st) s.heap.objs.size f cdv)) → sp vs H Q E →
      ∃ t, PSs (cxOf (CXX P w) P w K mg base N qual (defScope st) f cdv A outer s H E) (defBody st) t ∧ t { nx := fun _ H' => Q .non H', rt := Q } (start N vs) H) : FnOk P w K mg base (CXX P w) (k + 1) f fd ps sp := by
  obtain ⟨oc, od, kV, doc, pm, an, cdv, ct, osl, rfl, lk, hcd⟩ := F.ex
  exact fn_of lk hcd S len fun A outer s H vs Q E hr hsp => hbody cdv A outer s H vs Q E hr hsp
end
theorem FnOk.calm {P : Program} {w : World} {K : PySem.W.Frag} {mg : Str → Option Value} {base : Heap} {CX : CXT} {k : Nat} {f : Addr} {fd : FuncData} {ps : List Str} {sp : Sp} (F : FnOk P w K mg base CX0 k f fd ps sp) : FnOk P w K mg base CX k f fd ps sp :=
  ⟨F.len, fun A outer s H args us vs Q E hr he hb hv hs => codeAny_mono (F.run A outer s H args us vs Q E hr he hb hv hs) fun r s' h => by
    cases r with
    | ok fl => cases fl <;> exact h
    | error e => exact False.elim h⟩
section
variable {X : Cx}
theorem PS.nox {st : Stmt} {t : TS} (h : PS X.nox st t) : PS X st t := fun pins s σ H D I hw =>
  wpAny_mono (h pins s σ H D (I.wish _) hw) (fun _ _ q => q.unwish) fun _ _ z => z.elim
end
end L2
set_option maxHeartbeats 4000000
namespace L2
open PySem PySem.Spec PyProof.Rows
section
variable {X : Cx} {pins pins' : List (Addr × Obj)} {σ : St} {H : Hp} {s : Shared} {xe : Value → Shared → Prop} {e : Addr} {oe : Obj}
end
section
variable {X : Cx} {CX : CXT} {k : Nat} {f : Addr} {fd : FuncData} {ps : List Str} {sp : Sp} {dvs : List V} {ds : List Value} {E : St → XK} {x : Str} {p pos : Pos} {e : Expr} {es : List Expr} {t : TA}
end
structure Catch (K : PySem.W.Frag) (CS : Addr) : Prop where
  ty : PySem.W.typeIn K (.ref CS) = some (.type "type")
  isc : PySem.W.isClsIn K CS = true
  base : PySem.W.subIn K (.ref CS) (.type "BaseException") = some true
end L2
set_option maxHeartbeats 4000000
namespace L2
open PySem PySem.Spec PyProof.Rows
noncomputable def Bg (i : Int) : Prop := Builtin.Int.intBits i ≤ 1048576
theorem Bg.zero : Bg 0 := by unfold Bg Builtin.Int.intBits; decide
open PySem.W in
theorem bg_of_lay {ns : List Int} (h : WData.layableAll [WData.list (ns.map WData.int)] = true) : ∀ i ∈ ns, Bg i := fun i hi => by
  have h1 := layableW_arg h _ (List.mem_singleton.mpr rfl)
  have h2 := layableW_item h1 (.int i) (List.mem_map.mpr ⟨i, hi, rfl⟩)
  have h3 := (layableW_iff.mp h2).2.2
  exact h3
open PySem.W in
theorem attachB {l : OpenLaw} {n : Nat} {q : Program} {loose : List Str} {XP : (Str → Option Value) → Heap → Prop} {YP : World → Heap → Prop} {d : DefRec}
    (hn : l.most = some n) (hdf : d.params.defaults = [])
    (run : ∀ (w : World) (s0 s1 : Shared) (mg mb : Str → Option Value) (fa : Addr) (o : Obj) (pm cd doc : Value) (a : Addr) (vs : List Value) (ns : List Int),
      Ground q loose [] XP w s0 mg mb s1.heap → YP w s1.heap →
      s1.heap.get? fa = some o → o.data = .func (Calls.docDef d.name d.params d.body d.scope pm cd doc) → s1.heap.CodeRec cd d.name → mg d.name = some (.ref fa) →
      s1.heap.get? a = some { cls := .type "list", data := .seq vs.toArray } → IntsAre vs ns → ns.length ≤ n → (∀ i ∈ ns, Bg i) → s1.gens = #[] →
      codeAny (model l.prog w) callerA (.call (.ref fa) ⟨[.ref a], []⟩) (fun r s' => r = .ok (.ret (.bool true)) ∧ OldK s1.heap s'.heap ∧ s'.os = s1.os ∧ AllBare s'.gens) s1) :
    WalkO q loose XP YP l.row.toRowW d [] (fun f vs => PySem.call f vs) := by
  intro w s0 s1 mg mb G Y fa o pm cd doc dV kV ho hd hcd hD hmg hg args vals as hpre hlay hrd hwl hlo
  obtain rfl : dV = .none := Dflts.none hD hdf
  obtain rfl : kV = .none := Dflts.noKw hD
  obtain ⟨a, vs, ns, rfl, rfl, hobj, hints, hlen⟩ := Att.script_of hn hpre hwl
  have hbg := bg_of_lay hlay
  refine enter_call (codeAny_mono (run w s0 s1 mg mb fa o pm cd doc a vs ns G Y ho (fd_plain hd) hcd hmg hobj hints hlen hbg hg) fun r s' hq => ?_)
  obtain ⟨e1, h2, h3, h4⟩ := hq
  subst e1
  exact ⟨.inl ⟨.bool true, .bool true, [], rfl, fun _ => rfl, .bool true, Att.post_true l _, fun _ => ⟨List.Pairwise.nil, fun _ hm => (nomatch hm)⟩⟩, h2, h3, h4⟩
theorem walk_ofB {l : PySem.W.OpenLaw} {n k : Nat} {q : Program} {loose : List Str} {XP : (Str → Option Value) → Heap → Prop} {YP : World → Heap → Prop} {d : DefRec} {K : Params → PySem.W.Frag} {CX : World → CXT} {sp : World → Sp} {x : Str}
    (hn : l.most = some n) (hn2 : n ≤ sizeLine) (hdf : d.params.defaults = []) (hr : Room k callerA)
    (hY : ∀ (w : World) (h : Heap), YP w h → (K w.params).In h)
    (F : ∀ (w : World) (mg : Str → Option Value) (fa : Addr) (h : Heap), (K w.params).In h → h.Ns mainGlobals mg → mg d.name = some (.ref fa) →
      ∃ fd : FuncData, (∀ (s : Shared) (u : Value), BindsTo s fd ⟨[u], []⟩ [(x, u)]) ∧
        ∀ base : Heap, (K w.params).In base → base.Ns mainGlobals mg → FnOk l.prog w (K w.params) mg base (CX w) k fa fd [x] (sp w))
    (hsp : ∀ (w : World) (H : Hp) (a : Addr) (ns : List Int), ns.length ≤ n → (∀ i ∈ ns, Bg i) → Only H → SqL (K w.params) H a (ns.map V.int) → sp w [.ref a] H (fun v _ => v = .bl true) fun _ _ _ => False)
    (hCX : ∀ (w : World) (H : Hp) (s : Shared) (e : Value) (s' : Shared), CX w [] H s (fun _ _ _ => False) e s' → False) :
    PySem.W.WalkO q loose XP YP l.row.toRowW d [] (fun f vs => PySem.call f vs) := by
  refine attachB hn hdf fun w s0 s1 mg mb fa o pm cd doc a vs ns G Y ho hd hcd hmg hobj hints hlen hbg hg => ?_
  have KX := hY w _ Y
  obtain ⟨fd, hb, hF⟩ := F w mg fa _ KX G.T.g hmg
  exact law_call KX G.T.g G.T.b G.T.builtins G.T.nolimit hg hobj hints (Nat.le_trans hlen hn2) hr hF hb (fun H hO hS => hsp w H a ns hlen hbg hO hS) fun H e s' => hCX w H s1 e s'
theorem Dens.at {H : Hp} {ts : List Th} {xs : List V} {i : Int} (d : Th) (h : Dens H ts xs) (h0 : 0 ≤ i) (h1 : i < (ts.length : Int)) : ∃ v, atI xs i = some v ∧ Den H (ts.getD i.toNat d) v := by
  have hk : i.toNat < ts.length := by omega
  have ek : i = ((i.toNat : Nat) : Int) := by omega
  obtain ⟨v, e, q⟩ := h.get (List.getElem?_eq_getElem hk)
  have z := atI_nat e
  rw [← ek] at z
  refine ⟨v, z, ?_⟩
  rw [getD_in hk]; exact q
end L2
set_option maxHeartbeats 4000000
namespace L2
open PySem PySem.Spec PyProof.Rows
section
variable {prog : Program} {w : World} {A : Around} {E : Value → Shared → Prop}
end
end L2
set_option maxHeartbeats 4000000
namespace L2
open PySem PySem.Spec PySem.W PyProof.Rows Builtin Builtin.ObjectAttr Builtin.Getset_descriptor
structure XInst (K : Frag) (C : Addr) : Prop where
  ga : findIn K (.ref C) "__getattribute__" = some (some (.builtin "BaseException.__getattribute__"))
  gt : findIn K (.ref C) "__getattr__" = some none
  cl : findIn K (.ref C) "__class__" = some (some (.builtin "object.__class__"))
  sg : specialIn K (.builtin "object.__class__") "__get__" = some (some (.builtin "getset_descriptor.__get__"))
  tk : takesIn K (.builtin "object.__class__") = some true
  ob : mroIn K C (.type "object") = some true
  be : mroIn K C (.type "BaseException") = some true
  ok : isClsIn K C = true
section
variable {prog : Program} {w : World} {A : Around} {E : Value → Shared → Prop} {K : Frag} {a C : Addr} {oe : Obj} {h : Heap} {g : Array GenState} {d : Drawn} {t : Nat} {os : OsState}
end
section
variable {X : Cx} {e : Addr} {oe : Obj}
end
end L2
set_option maxHeartbeats 4000000
namespace L2
open PySem PySem.Spec PyProof.Rows
section
variable {X : Cx} {pins : List (Addr × Obj)} {σ : St} {H : Hp} {s : Shared} {h' : Heap}
theorem Inv.turnedL {t' : Nat} {fp : List Addr} (I : Inv X pins σ H s) (k : ∀ b o, b ∉ fp → s.heap.get? b = some o → h'.get? b = some o) (hf : ∀ b ∈ fp, FpOk X pins H b) :
    Inv X pins σ H { s with heap := h', toks := t' } := by
  have nin : ∀ b u, H b = some u → b ∉ fp := fun b u e z => by rw [(hf b z).1] at e; cases e
  refine I.step (g' := s.gens) (d' := s.drawn) (ch := fp) (fun b hb => ⟨(hf b hb).2.2.2.1, (hf b hb).2.1, (hf b hb).2.2.2.2.1, (hf b hb).2.2.2.2.2⟩) (fun b o _ _ hc e _ => k b o hc e) (fun b o _ _ hc e _ => ⟨o.slots, k b o hc e⟩) (fun _ _ _ _ n => n)
    (fun b o hc e => ⟨o, k b o hc e⟩) (fun _ _ e => e) (fun _ _ _ e => e) (fun b ps e => ⟨#[], by rw [e]; simp⟩) (fun m hm => ?_) (fun b u e => ?_) I.bare
  · obtain ⟨o, es, ep, ho, r⟩ := hm
    exact ⟨o, es, ep, k _ o (fun z => (hf _ z).2.1 rfl) ho, r⟩
  · refine (I.hok b u e).stay (fun c v hc q => k c v ?_ q) (fun _ q => q) fun _ _ q => q
    rcases hc with z | z
    · rw [z]; exact nin b u e
    · exact nin c _ z
theorem Inv.turnLay {t' : Nat} {fp : List Addr} {a : Addr} {o : HO} (I : Inv X pins σ H s) (k : ∀ b u, b ∉ fp → s.heap.get? b = some u → h'.get? b = some u) (hf : ∀ b ∈ fp, FpOk X pins H b)
    (ha : s.heap.objs.size ≤ a) (new : ObjOk X.prog X.w (upd H a o) h' a o) : Inv X pins σ (upd H a o) { s with heap := h', toks := t' } := by
  have nin : ∀ b u, H b = some u → b ∉ fp := fun b u e z => by rw [(hf b z).1] at e; cases e
  have hn : H a = none := I.hok.fresh ha
  have ne : ∀ b u, H b = some u → b ≠ a := fun b u e z => by rw [z, hn] at e; cases e
  refine I.step (g' := s.gens) (d' := s.drawn) (ch := fp) (fun b hb => ⟨(hf b hb).2.2.2.1, (hf b hb).2.1, (hf b hb).2.2.2.2.1, (hf b hb).2.2.2.2.2⟩) (fun b o _ _ hc e _ => k b o hc e) (fun b o _ _ hc e _ => ⟨o.slots, k b o hc e⟩)
    (fun b u _ e n => by rw [upd_ne (Nat.ne_of_lt (Nat.lt_of_lt_of_le (Heap.lt_size e) ha))]; exact n)
    (fun b o hc e => ⟨o, k b o hc e⟩) (fun b xs e => by rw [upd_ne (ne b _ e)]; exact e) (fun b o u e => by rw [upd_ne (ne b _ e)]; exact e) (fun b ps e => ⟨#[], by rw [upd_ne (ne b _ e), e]; simp⟩) (fun m hm => ?_) (fun b u e => ?_) I.bare
  · obtain ⟨o, es, ep, ho, r⟩ := hm
    exact ⟨o, es, ep, k _ o (fun z => (hf _ z).2.1 rfl) ho, r⟩
  · by_cases hb : b = a
    · subst hb
      rw [upd_same] at e
      cases e
      exact new
    · rw [upd_ne hb] at e
      refine (I.hok b u e).stay (fun c v hc q => k c v ?_ q) (fun c q => by rw [upd_ne (ne c _ q)]; exact q) fun c xs q => by rw [upd_ne (ne c _ q)]; exact q
      rcases hc with z | z
      · rw [z]; exact nin b u e
      · exact nin c _ z
end
theorem zapart {n l1 l2 : Nat} (h1 : l1 < n) (h2 : l2 < n) : ZipApart (n + 4) (n + 2) (n + 3) n (n + 1) l1 l2 := by
  constructor <;> (show (_ : Nat) ≠ (_ : Nat); omega)
end L2
set_option maxHeartbeats 4000000
namespace L2
open PySem PySem.Spec PyProof.Rows
noncomputable abbrev testsOf (ifs : List Expr) (env : Env) : Sem Bool := forIn ifs true fun c ok => if ok = true then do
      let ok ← PySem.isTrue c env (eval c env)
      pure (ForInStep.yield ok)
    else pure (ForInStep.yield ok)
theorem compTurn_ifs (elt target iter : Expr) (ifs : List Expr) (scope : Scope) (pos : Pos) (it acc : Value) (env : Env) :
  compTurn (elt.ListComp [⟨target, iter, ifs, 0⟩] scope pos) 0 it acc env = (do
    standAt iter.pos
    let r ← pyNext it
    match r with
      | none => pure (Fin.done Flow.next)
      | some v => do
        letOwnedTupleGo target it v
        assign target env v
        let ok ← testsOf ifs env
        if ok = true then do
          let x ← eval elt env
          let _ ← call (Value.builtin "list.append") [acc, x]
          again (Code.compLoop (elt.ListComp [⟨target, iter, ifs, 0⟩] scope pos) 0 it acc env)
        else again (Code.compLoop (elt.ListComp [⟨target, iter, ifs, 0⟩] scope pos) 0 it acc env)) := by
  unfold compTurn
  simp
  rfl
noncomputable def PIf (X : Cx) (ifs : List Expr) (t : TT) : Prop :=
  ∀ (pins : List (Addr × Obj)) (s : Shared) (σ : St) (H : Hp) (Q : Bool → Hp → Prop), Inv X pins σ H s → t σ H Q → wpAny (model X.prog X.w) X.A (testsOf ifs X.env) (TP X pins σ Q) X.xe s
noncomputable def tYes : TT := fun _ H Q => Q true H
theorem pif_nil {X : Cx} : PIf X [] tYes := fun pins s σ H Q I h => by
  show wpAny _ _ (pure true) _ _ s
  exact wpAny_pure ⟨H, I, h⟩
theorem compLoop_ifs {prog : Program} {w : World} {A : Around} {R : Result → Shared → Prop} {s : Shared} {elt tg iter : Expr} {ifs : List Expr} {scope : Scope} {pos : Pos} {it acc : Value} {env : Env} (Iv : Nat → Shared → Prop)
    (turn : ∀ k s, Iv k s → wpAny (model prog w) A (pyNext it) (fun r s1 => match r with
      | none => R (.ok .next) s1
      | some v => wpAny (model prog w) A (letOwnedTupleGo tg it v) (fun _ s2 => wpAny (model prog w) A (assign tg env v) (fun _ s3 => wpAny (model prog w) A (testsOf ifs env) (fun b s4 => if b = true then
          wpAny (model prog w) A (eval elt env) (fun y s5 => wpAny (model prog w) A (call (.builtin "list.append") [acc, y]) (fun _ s6 => ∃ m, m < k ∧ Iv m s6) (fun _ _ => False) s5) (fun _ _ => False) s4
          else ∃ m, m < k ∧ Iv m s4) (fun _ _ => False) s3) (fun _ _ => False) s2) (fun _ _ => False) s1) (fun _ _ => False) s)
    (k : Nat) (h : Iv k s) : codeAny (model prog w) A (.compLoop (.ListComp elt [⟨tg, iter, ifs, 0⟩] scope pos) 0 it acc env) R s := by
  refine codeAny_loop rfl Iv (fun k s hI => ?_) k h
  show wpAny _ _ ((compTurn (.ListComp elt [⟨tg, iter, ifs, 0⟩] scope pos) 0 it acc env).onRaise (fun e => do noteFrame e env; theTreesLotGoes e)) _ _ s
  refine wpAny_noted ?_
  rw [compTurn_ifs]
  refine wpAny_bind (wpAny_standAt (wpAny_bind (wpAny_mono (turn k s hI) (fun r s1 h1 => ?_) fun _ _ f => f.elim)))
  cases r with
  | none => exact wpAny_pure h1
  | some v =>
    refine wpAny_bind (wpAny_mono h1 (fun _ s2 h2 => wpAny_bind (wpAny_mono h2 (fun _ s3 h3 => wpAny_bind (wpAny_mono h3 (fun b s4 h4 => ?_) fun _ _ f => f.elim)) fun _ _ f => f.elim)) fun _ _ f => f.elim)
    cases b with
    | true =>
      rw [if_pos rfl] at h4 ⊢
      exact wpAny_bind (wpAny_mono h4 (fun y s5 h5 => wpAny_bind (wpAny_mono h5 (fun _ s6 h6 => wpAny_pure ⟨rfl, h6⟩) fun _ _ f => f.elim)) fun _ _ f => f.elim)
    | false =>
      rw [if_neg Bool.false_ne_true] at h4 ⊢
      exact wpAny_pure ⟨rfl, h4⟩
structure CompOkL (X : Cx) (xs : List Str) (ts : List (Str × Nat)) (scope : Scope) (cl : List (Str × Addr)) : Prop where
  clos : closureFor scope X.env = pure cl
  sub : ∀ y c, cl.lookup y = some c → X.env.cells.lookup y = some c
  nocell : (scope.names.all fun p => p.2 != .cell) = true
  kind : scope.kind = .function
  locs : (scope.names.all fun p => p.2 != .local || scope.names.lookup p.1 == some .local) = true
  nd : (xs ++ ts.map (·.1)).Nodup
  around : (ts.all fun p => decide (X.N[p.2]? = some p.1) && (X.env.kindOf p.1 == some .cell || X.env.kindOf p.1 == some .free) && (cl.lookup p.1).isSome &&
    ((relabel scope X.env).names.lookup p.1 == some .cell || (relabel scope X.env).names.lookup p.1 == some .free)) = true
  has : ((relabel scope X.env).names.all fun p => !(p.2 == .cell || p.2 == .free) || (cl.lookup p.1).isSome) = true
noncomputable abbrev nmsL (xs : List Str) (ts : List (Str × Nat)) : List Str := xs ++ ts.map (·.1)
noncomputable def CompG (J : It) (g : TG) (tt : TT) (te : TE) (k : Nat) (st : St) (D : Addr) (H1 : Hp) (Q : VK) : Prop :=
  ∃ W : Nat → Nat → List V → Hp → Prop, (∃ m, W 0 m [] (upd H1 D (.lst []))) ∧ ∀ i m ys H2, W i m ys H2 →
    (J.stop i H2 ∧ Q (.ref D) H2) ∨ (J.go i H2 ∧ ∀ x H3 σ0, J.yld i H2 x H3 → σ0.length = k → g x (σ0 ++ st) H3 fun σ2 H4 => (∃ σ1, σ1.length = k ∧ σ2 = σ1 ++ st) ∧ tt σ2 H4 fun b H5 =>
      if b = true then te σ2 H5 fun y H6 => H6 D = some (.lst ys) ∧ ys.length < sizeLine ∧ ∃ m', m' < m ∧ W (i + 1) m' (ys ++ [y]) (upd H6 D (.lst (ys ++ [y])))
      else ∃ m', m' < m ∧ W (i + 1) m' ys H5)
noncomputable def tCompG (wi : TI) (g : TG) (tt : TT) (k : Nat) (fr : List Nat) (te : TE) : TE := fun σ H Q => wi σ H fun J H1 => ∀ D, H1 D = none → CompG J g tt te k (taken σ fr) D H1 Q
section
variable {X : Cx} {elt iter tg : Expr} {ifs : List Expr} {xs : List Str} {pos : Pos} {scope : Scope} {cl : List (Str × Addr)} {ts : List (Str × Nat)} {wi : TI} {te : TE} {g : TG} {tt : TT}
theorem CompOkL.nocell' (O : CompOkL X xs ts scope cl) : ∀ y ∈ scope.names, y.2 ≠ .cell := fun y hy e => by
  have := List.all_eq_true.mp O.nocell y hy
  rw [e] at this
  cases this
theorem CompOkL.locs' (O : CompOkL X xs ts scope cl) : ∀ y ∈ scope.names, y.2 = .local → scope.names.lookup y.1 = some .local := fun y hy e => by
  have h := List.all_eq_true.mp O.locs y hy
  rw [e] at h
  rcases Bool.or_eq_true_iff.mp h with z | z
  · cases z
  · exact beq_iff_eq.mp z
theorem CompOkL.from' (O : CompOkL X xs ts scope cl) : ∀ (i : Nat) (y : Str), (ts.map (·.1))[i]? = some y → ∃ j, (sltOf ts)[i]? = some j ∧ X.N[j]? = some y ∧ (X.env.kindOf y = some .cell ∨ X.env.kindOf y = some .free) ∧ (cl.lookup y).isSome = true ∧
    ((relabel scope X.env).names.lookup y = some .cell ∨ (relabel scope X.env).names.lookup y = some .free) := fun i y e1 => by
  rw [List.getElem?_map] at e1
  cases q : ts[i]? with
  | none => rw [q] at e1; cases e1
  | some p =>
    rw [q] at e1
    have e2 : p.1 = y := Option.some.inj e1
    subst e2
    have h := List.all_eq_true.mp O.around p (List.mem_of_getElem? q)
    simp only [Bool.and_eq_true, Bool.or_eq_true, beq_iff_eq, decide_eq_true_eq] at h
    obtain ⟨⟨⟨h1, h2⟩, h3⟩, h4⟩ := h
    refine ⟨p.2, ?_, h1, h2, h3, h4⟩
    show (ts.map (·.2))[i]? = some p.2
    rw [List.getElem?_map, q] <;> rfl
theorem CompOkL.has' (O : CompOkL X xs ts scope cl) : ∀ y, ((relabel scope X.env).names.lookup y = some .cell ∨ (relabel scope X.env).names.lookup y = some .free) → (cl.lookup y).isSome = true := fun y h => by
  have go : ∀ k : NameKind, (k = .cell ∨ k = .free) → (relabel scope X.env).names.lookup y = some k → (cl.lookup y).isSome = true := fun k hk e => by
    have z := List.all_eq_true.mp O.has (y, k) (PySem.mem_of_lookup e)
    rcases Bool.or_eq_true_iff.mp z with z | z
    · rcases hk with e | e <;> (rw [e] at z; cases z)
    · exact z
  rcases h with h | h
  · exact go _ (.inl rfl) h
  · exact go _ (.inr rfl) h
theorem compL_ok {pins : List (Addr × Obj)} {σ : St} {H3 : Hp} {s3 : Shared} {fp : List Addr} (O : CompOkL X xs ts scope cl) (I3 : Inv X pins σ H3 s3) (hfp : ∀ b ∈ fp, FpOk X pins H3 b ∧ b < s3.heap.objs.size) :
    (cxComp X (nmsL xs ts) scope cl s3.heap.objs.size s3 H3 fp).Ok where
  mod := I3.ok.mod
  kind := O.kind
  glob := I3.ok.glob
  blt := I3.ok.blt
  above := Nat.le_refl _
  inj := fun y z c h1 h2 => I3.ok.inj y z c (O.sub y c h1) (O.sub z c h2)
  has := fun y h => Option.isSome_iff_exists.mp (O.has' y h)
  cab := fun y c h => by cases h
  hd := I3.ok.hd
  frames := I3.ok.frames
  stk := .inl rfl
  exf := fun b hb => ⟨Nat.ne_of_lt (hfp b hb).2, fun y c e => (hfp b hb).1.2.2.2.2.1 y c (O.sub y c e)⟩
  bs := fun b o e => I3.bs b o e
  bsz := Nat.le_trans I3.ok.bsz I3.sz
  noex := fun b o e hb => by
    rcases (hfp b hb).1.2.2.2.1 with z | z
    · exact I3.ok.noex b o e z
    · exact absurd (Nat.lt_of_lt_of_le (Heap.lt_size (I3.ok.bs b o e).1) z) (Nat.lt_irrefl _)
  exfs := fun b hb hz => by
    rcases List.mem_cons.mp (I3.stkSub b hz) with e | e
    · exact (hfp b hb).1.2.1 e
    · exact (hfp b hb).1.2.2.1 e
  funs := I3.stack
  frf := I3.stkFree
theorem compL_start {pins : List (Addr × Obj)} {σ : St} {H3 : Hp} {s3 : Shared} {fp : List Addr} {h1 : Heap} {tk : Nat} (O : CompOkL X xs ts scope cl) (I3 : Inv X pins σ H3 s3) (hfp : ∀ b ∈ fp, FpOk X pins H3 b ∧ b < s3.heap.objs.size)
    (hns : h1.Ns s3.heap.objs.size fun _ => none) (old : ∀ b o, s3.heap.get? b = some o → h1.get? b = some o) :
    Inv (cxComp X (nmsL xs ts) scope cl s3.heap.objs.size s3 H3 fp) [] (List.replicate xs.length none ++ taken σ (sltOf ts)) H3 { s3 with heap := h1, toks := tk } := by
  refine ⟨compL_ok O I3 hfp, rfl, I3.bare, Un.kept old, ⟨_, hns, fun i y v e1 e2 e3 => ?_⟩, fun y c e => ?_, I3.hok.fresh (Nat.le_refl _), fun y c e => I3.freeC y c (O.sub y c e), fun p hp => absurd (show p ∈ ([] : List (Addr × Obj)) from hp) (by simp), I3.hok.kept old, ?_⟩
  · by_cases hi : i < xs.length
    · rw [List.getElem?_append_left (by simpa using hi), List.getElem?_replicate, if_pos hi] at e2
      cases e2
    · have hi' : xs.length ≤ i := Nat.le_of_not_lt hi
      have e1' : (ts.map (·.1))[i - xs.length]? = some y := by
        have : (xs ++ ts.map (·.1))[i]? = some y := e1
        rw [List.getElem?_append_right hi'] at this; exact this
      rw [List.getElem?_append_right (by simpa using hi')] at e2
      rw [List.length_replicate] at e2
      obtain ⟨j, hj, hN, hk, hcl, hk2⟩ := O.from' _ y e1'
      have e2' : σ[j]? = some (some v) := by
        have q := e2
        unfold taken at q
        rw [List.getElem?_map, hj] at q
        have q' : (σ[j]?).getD none = some v := Option.some.inj q
        cases z : σ[j]? with
        | none => rw [z] at q'; cases q'
        | some w => rw [z] at q'; rw [show w = some v from q']
      obtain ⟨m, hn, hl⟩ := I3.loc
      have vis : Vis X.env.scope y := hk.elim (fun z => .inr (.inl z)) fun z => .inr (.inr z)
      obtain ⟨u, r, l⟩ := hl j y v hN e2' vis
      obtain ⟨c, hc⟩ := Option.isSome_iff_exists.mp hcl
      refine ⟨u, r, .inr ⟨hk2, c, hc, ?_⟩⟩
      rcases l with ⟨k, _⟩ | ⟨_, c', hc', z⟩
      · rcases hk with hk | hk
        · rw [k] at hk; cases hk
        · rw [k] at hk; cases hk
      · rw [O.sub y c hc] at hc'
        cases hc'
        obtain ⟨o, ho, hd⟩ := z
        exact ⟨o, old c o ho, hd⟩
  · obtain ⟨v, o, ho, hd⟩ := I3.cell y c (O.sub y c e)
    exact ⟨v, o, old c o ho, hd⟩
  · show (List.replicate xs.length none ++ taken σ (sltOf ts)).length = (nmsL xs ts).length
    simp [taken]
theorem compG_run {use : Option (Value → Sem Unit)} {QV : Value → Shared → Prop} {cpos : Pos} {pins : List (Addr × Obj)} {s : Shared} {σ : St} {H : Hp} {Q : VK} (hc : X.calm = true) (O : CompOkL X xs ts scope cl) (hi : PI X tg iter wi) (hg : ∀ C s3 H3 fp, PG (cxComp X (nmsL xs ts) scope cl C s3 H3 fp) tg g)
    (ht : ∀ C s3 H3 fp, PIf (cxComp X (nmsL xs ts) scope cl C s3 H3 fp) ifs tt) (he : ∀ C s3 H3 fp, PE (cxComp X (nmsL xs ts) scope cl C s3 H3 fp) elt te)
    (hs : ∀ x, foldedSetIterable iter X.env x = pure x) (I : Inv X pins σ H s) (h : tCompG wi g tt xs.length (sltOf ts) te σ H Q)
    (fin : ∀ (D C : Addr) (s6 : Shared) (H5 : Hp), Inv X pins σ H5 s6 → FpOk X pins H5 C → (∃ m, s6.heap.Ns C m) → Q (.ref D) H5 → compPost (model X.prog X.w) X.A X.xe use QV (.ref D) C (.ok .next) s6) :
    wpAny (model X.prog X.w) X.A (comprehension (.ListComp elt [⟨tg, iter, ifs, 0⟩] scope pos) scope X.env cpos (newList []) false (eval iter X.env) use) QV X.xe s := by
  refine wpAny_comprehension_free (use := use) rfl hs O.clos O.kind O.locs' (thn (hi pins s σ H _ I h) fun v s1 h1 => thn h1 fun itv s2 h2 => ?_)
  obtain ⟨it, fp, tn, J, H2, rfl, I2, T, st2, f2, q⟩ := h2
  have hD : H2 s2.heap.objs.size = none := I2.hok.fresh (Nat.le_refl _)
  obtain ⟨W, ⟨m0, w0⟩, turn⟩ := q s2.heap.objs.size hD
  refine wpAny_newObj_type ?_
  have I3 : Inv X pins σ (upd H2 s2.heap.objs.size (.lst [])) { s2 with heap := s2.heap.push { cls := .type "list", dict := none, data := .seq ([] : List Value).toArray } } :=
    I2.laid (a := s2.heap.objs.size) (o := .lst []) (t' := s2.toks) (fun b u e => Heap.get?_push_of_some _ e) (Nat.le_refl _) ⟨Nat.zero_le _, [], 0, .nil, Heap.get?_push_size _ rfl⟩
  generalize hs3 : ({ s2 with heap := s2.heap.push { cls := .type "list", dict := none, data := .seq ([] : List Value).toArray } } : Shared) = s3 at I3
  have sz3 : s3.heap.objs.size = s2.heap.objs.size + 1 := by rw [← hs3, Heap.size_push]
  have old3 : ∀ b u, s2.heap.get? b = some u → s3.heap.get? b = some u := fun b u e => by rw [← hs3]; exact Heap.get?_push_of_some _ e
  generalize hH3 : upd H2 s2.heap.objs.size (.lst []) = H3 at I3 w0
  have fp2 : ∀ b ∈ fp, b < s2.heap.objs.size := fun b hb => by
    obtain ⟨o, e, _⟩ := T.obj _ _ st2 b hb
    exact Heap.lt_size e
  have hfp : ∀ b ∈ fp, FpOk X pins H3 b ∧ b < s3.heap.objs.size := fun b hb => by
    refine ⟨⟨?_, (f2 b hb).2⟩, by rw [sz3]; exact Nat.lt_succ_of_lt (fp2 b hb)⟩
    rw [← hH3, upd_ne (Nat.ne_of_lt (fp2 b hb))]
    exact (f2 b hb).1
  refine wpAny_newFunctionEnv O.nocell' (by intro y hy; simp at hy) (fun h₁ hns₁ hsb₁ => ?_) O.kind
  have old : ∀ b o, s3.heap.get? b = some o → h₁.get? b = some o := fun b o e => hsb₁.extBut b o (Nat.ne_of_lt (Heap.lt_size e)) (Heap.get?_push_of_some _ e)
  have start : Inv (cxComp X (nmsL xs ts) scope cl s3.heap.objs.size s3 H3 fp) [] (List.replicate xs.length none ++ taken σ (sltOf ts)) H3 { s3 with heap := h₁, toks := s3.toks + 0 } := compL_start O I3 hfp hns₁ old
  have st4 : tn 0 h₁ := T.keep _ _ _ st2 fun b hb o e => old b o (old3 b o e)
  have okX : ∀ {H' : Hp}, (∀ b ∈ fp, H' b = none) → ∀ b ∈ fp, FpOk (cxComp X (nmsL xs ts) scope cl s3.heap.objs.size s3 H3 fp) [] H' b := fun hn b hb => by
    refine ⟨hn b hb, Nat.ne_of_lt (hfp b hb).2, fun z => ?_, .inl hb, fun y c e => (f2 b hb).2.2.2.2.1 y c (O.sub y c e), fun p hp => absurd (show p ∈ ([] : List (Addr × Obj)) from hp) (by simp)⟩
    rcases List.mem_cons.mp (I3.stkSub b z) with e | e
    · exact (f2 b hb).2.1 e
    · exact (f2 b hb).2.2.1 e
  have loop : ∀ s₄ : Shared, s₄ = { s3 with heap := h₁, toks := s3.toks + 0 } →
      codeAny (model X.prog X.w) X.A (.compLoop (.ListComp elt [⟨tg, iter, ifs, 0⟩] scope pos) 0 (.ref it) (.ref s2.heap.objs.size) (compEnvC scope cl s3.heap.objs.size X.env))
        (compPost (model X.prog X.w) X.A X.xe use QV (.ref s2.heap.objs.size) s3.heap.objs.size) s₄ := by
    rintro s₄ rfl
    refine compLoop_ifs (fun n s' => ∃ i ys σ0 H', σ0.length = xs.length ∧ Inv (cxComp X (nmsL xs ts) scope cl s3.heap.objs.size s3 H3 fp) [] (σ0 ++ taken σ (sltOf ts)) H' s' ∧ tn i s'.heap ∧ (∀ b ∈ fp, H' b = none) ∧ W i n ys H') ?_ m0
      ⟨0, [], _, H3, by simp, start, st4, fun b hb => (hfp b hb).1.1, w0⟩
    rintro n s5 ⟨i, ys, σ0, H5, l0, I5, st5, fr5, w5⟩
    rcases turn i n ys H5 w5 with ⟨stop, qn⟩ | ⟨go, step⟩
    · refine thn (T.done (cxComp X (nmsL xs ts) scope cl s3.heap.objs.size s3 H3 fp) rfl rfl rfl hc i [] s5 (σ0 ++ taken σ (sltOf ts)) H5 _ I5 (okX fr5) st5 stop) fun r s6 ⟨hr, I6⟩ => ?_
      subst hr
      obtain ⟨m, hn, _⟩ := id I6.loc
      have u6 : Un (frs X.stack) fp H3 H5 s3.heap s6.heap := I6.base
      have fC : H5 s3.heap.objs.size = none := I6.free
      exact fin s2.heap.objs.size s3.heap.objs.size s6 H5 (I3.call' (s' := s6) (ch := fp) I6.os u6 I6.hok I6.bare (fun b hb => ⟨(f2 b hb).2.2.2.1, (f2 b hb).2.1, (f2 b hb).2.2.2.2.1, (f2 b hb).2.2.2.2.2⟩))
        (I3.fpOk (Nat.le_refl _) fC) ⟨m, hn⟩ qn
    · refine thn (T.item (cxComp X (nmsL xs ts) scope cl s3.heap.objs.size s3 H3 fp) rfl rfl rfl hc i [] s5 (σ0 ++ taken σ (sltOf ts)) H5 _ I5 (okX fr5) st5 go) fun r s6 ⟨u, hr, h6⟩ => ?_
      subst hr
      refine thn h6 fun _ s7 ⟨z, H7, I7, rz, yz, st7, fr7⟩ => ?_
      have I7' := I7.pinned (okX fr7) (T.obj _ _ st7)
      refine thn (hg s3.heap.objs.size s3 H3 fp _ s7 _ H7 z u _ I7' rz (step z H7 σ0 yz l0)) fun _ s8 ⟨σ8, H8, I8, ⟨σ1, l1, e8⟩, q8⟩ => ?_
      subst e8
      refine thn (ht s3.heap.objs.size s3 H3 fp _ s8 _ H8 _ I8 q8) fun b s9 ⟨H9, I9, q9⟩ => ?_
      cases b with
      | true =>
        rw [if_pos rfl] at q9 ⊢
        refine thn (he s3.heap.objs.size s3 H3 fp _ s9 _ H9 _ I9 q9) fun y s10 ⟨vy, H10, I10, ry, hD9, hl9, m', hm', w9⟩ => ?_
        refine thn (mt_append (X := cxComp X (nmsL xs ts) scope cl s3.heap.objs.size s3 H3 fp) _ s10 _ H10 (.ref s2.heap.objs.size) [vy] (.ref s2.heap.objs.size) [y] (fun _ H11 => H11 = upd H10 s2.heap.objs.size (.lst (ys ++ [vy]))) I10 rfl (.cons ry .nil) ⟨_, ys, vy, rfl, rfl, hD9, hl9, rfl⟩) fun _ s11 ⟨_, H11, I11, _, e11⟩ => ?_
        subst e11
        refine ⟨m', hm', i + 1, ys ++ [vy], σ1, _, l1, I11.unpinned, T.keep _ _ _ st7 fun b hb o e => (I11.pin (b, o) (List.mem_append_right _ (List.mem_append_right _ (mem_pinsAt hb e)))).1, fun b hb => ?_, w9⟩
        obtain ⟨o, e, d⟩ := T.obj _ _ st7 b hb
        exact (I11.pin (b, o) (List.mem_append_right _ (List.mem_append_right _ (mem_pinsAt hb e)))).2.1
      | false =>
        rw [if_neg Bool.false_ne_true] at q9 ⊢
        obtain ⟨m', hm', w9⟩ := q9
        refine ⟨m', hm', i + 1, ys, σ1, _, l1, I9.unpinned, T.keep _ _ _ st7 fun b hb o e => (I9.pin (b, o) (List.mem_append_right _ (List.mem_append_right _ (mem_pinsAt hb e)))).1, fun b hb => ?_, w9⟩
        obtain ⟨o, e, d⟩ := T.obj _ _ st7 b hb
        exact (I9.pin (b, o) (List.mem_append_right _ (List.mem_append_right _ (mem_pinsAt hb e)))).2.1
  have hst := codeAny_compStart_list (loop _ rfl) (T.self X.A 0 _ _ _ st4 (loop _ rfl))
  exact hst
theorem pe_compG (hc : X.calm = true) (O : CompOkL X xs ts scope cl) (hi : PI X tg iter wi) (hg : ∀ C s3 H3 fp, PG (cxComp X (nmsL xs ts) scope cl C s3 H3 fp) tg g)
    (ht : ∀ C s3 H3 fp, PIf (cxComp X (nmsL xs ts) scope cl C s3 H3 fp) ifs tt) (he : ∀ C s3 H3 fp, PE (cxComp X (nmsL xs ts) scope cl C s3 H3 fp) elt te)
    (hs : ∀ x, foldedSetIterable iter X.env x = pure x := by intro _; rfl) : PE X (.ListComp elt [⟨tg, iter, ifs, 0⟩] scope pos) (tCompG wi g tt xs.length (sltOf ts) te) := by
  intro pins s σ H Q I h
  rw [eval_ListComp]
  refine compG_run (use := none) hc O hi hg ht he hs I h fun D C s6 H5 I6 fC ⟨m, hn⟩ q => ?_
  refine ⟨m, hn, fun h' sb => ⟨.ref D, H5, ?_, rfl, q⟩⟩
  exact I6.turned (it := C) (t' := s6.toks) (fun b o hb e => (sb.2 b hb).trans e) fC.1 fC.2.1 fC.2.2.2.1 fC.2.2.2.2.1 fC.2.2.2.2.2
theorem ps_setC {i : Nat} {x : Str} {pos' sp : Pos} (hN : X.N.Nodup) (hix : X.N[i]? = some x) (hx : Loc X.env.scope x) (hc : X.calm = true) (O : CompOkL X xs ts scope cl) (hi : PI X tg iter wi) (hg : ∀ C s3 H3 fp, PG (cxComp X (nmsL xs ts) scope cl C s3 H3 fp) tg g)
    (ht : ∀ C s3 H3 fp, PIf (cxComp X (nmsL xs ts) scope cl C s3 H3 fp) ifs tt) (he : ∀ C s3 H3 fp, PE (cxComp X (nmsL xs ts) scope cl C s3 H3 fp) elt te)
    (hs : ∀ x, foldedSetIterable iter X.env x = pure x := by intro _; rfl) (hw : swapsWith (.ListComp elt [⟨tg, iter, ifs, 0⟩] scope pos) (some (.Name x pos')) sp.line X.env = pure true := by rfl)
    (hf : X.fn x = true ∨ X.env.scope.names.lookup x = some .local := by first | exact .inl rfl | exact .inr rfl | assumption) :
    PS X (.Assign [.Name x pos'] (.ListComp elt [⟨tg, iter, ifs, 0⟩] scope pos) sp) (tAsg (tCompG wi g tt xs.length (sltOf ts) te) (gName i)) := by
  intro pins s σ H D I h
  rw [exec_Assign_Name_used x pos' _ sp hw]
  refine wpAny_bind (wpAny_standAt (wpAny_bind ?_))
  show wpAny _ _ ((comprehension _ scope X.env _ (newList []) _ _ (some _)) >>= fun _ => pure ()) _ _ s
  refine wpAny_bind (compG_run (use := some (assign (.Name x pos') X.env)) hc O hi hg ht he hs I h fun A C s6 H5 I6 fC ⟨m, hn⟩ q => ?_)
  obtain ⟨o, es, ep, ho, r⟩ := id hn
  have onlyC : ∀ b : Addr, b ∈ [C] → b = C := fun b hb => by simpa using hb
  have I6' := I6.pinned (fp := [C]) (fun b hb => onlyC b hb ▸ fC) (fun b hb => by
    rw [onlyC b hb]
    exact ⟨o, ho, fun v z => by rw [r.1] at z; cases z⟩)
  refine wpAny_assign_Name (store_ok I6' hN hix hx (v := .ref A) rfl (fun s7 I7 => ?_) hf)
  have e7 : s7.heap.get? C = some o := (I7.pin (C, o) (List.mem_append_right _ (List.mem_append_right _ (mem_pinsAt (by simp) ho)))).1
  refine ⟨m, ⟨o, es, ep, e7, r⟩, fun h' sb => wpAny_pure (wpAny_pure ⟨_, H5, ?_, q⟩)⟩
  exact I7.unpinned.turned (it := C) (t' := s7.toks) (fun b o hb e => (sb.2 b hb).trans e) fC.1 fC.2.1 fC.2.2.2.1 fC.2.2.2.2.1 fC.2.2.2.2.2
end
theorem pg_tupC {X : Cx} {N' : List Str} {scope : Scope} {cl : List (Str × Addr)} {C : Addr} {s3 : Shared} {H3 : Hp} {fp : List Addr} {pos : Pos} {es : List Expr} {k : Nat} {t : TGs} {n : Nat} (hc : X.calm = true) (h : PGs (cxComp X N' scope cl C s3 H3 fp) es t)
    (hn : (assignEach es (cxComp X N' scope cl C s3 H3 fp).env).length = n := by rfl) (hst : (assignEach es (cxComp X N' scope cl C s3 H3 fp).env).findIdx? (·.1) = none := by rfl) : PG (cxComp X N' scope cl C s3 H3 fp) (.Tuple es k pos) (gTup X.K n t) := pg_tup hc h hn hst
theorem sub0 {cs : List (Str × Addr)} : ∀ (y : Str) (c : Addr), List.lookup y ([] : List (Str × Addr)) = some c → cs.lookup y = some c := fun _ _ h => by cases h
end L2
set_option maxHeartbeats 4000000
namespace L2
open PySem PySem.Spec PyProof.Rows
section
variable {X : Cx}
end
end L2
set_option maxHeartbeats 4000000
namespace L2
open PySem PySem.Spec PyProof.Rows
section
variable {X : Cx}
noncomputable def Smk (i : Int) : Prop := i.natAbs < 2 ^ 8900
theorem Smk.bits {i : Int} (h : Smk i) : Builtin.Int.intBits i ≤ 8900 := intBits_le_iff.mpr h
theorem mulOk_smk {i j : Int} (hi : Smk i) (hj : Smk j) : IntMulOk i j := by
  have h1 := hi.bits
  have h2 := hj.bits
  unfold IntMulOk Builtin.Int.intTooBig
  intro h
  have h4 := of_decide_eq_true (Bool.and_eq_true_iff.mp h).2
  rw [bitsLine_eq] at h4
  omega
theorem noPy_smk {i j : Int} (hj : Smk j) : Builtin.divisionGoesByPylong i j = false := by
  refine PyProof.noPylong_of_log2 ?_
  by_cases h0 : j.natAbs = 0
  · rw [h0]; decide +kernel
  · have h : j.natAbs.log2 < 8900 := (Nat.log2_lt h0).mpr hj
    omega
theorem op_mulK : OpR X (binaryOp .Mult) (rI (fun i j => Smk i ∧ Smk j) fun i j => .int (i * j)) := opI fun _ _ _ _ _ _ _ hc q => mul_int q (mulOk_smk hc.1 hc.2)
theorem op_fdivK : OpR X (binaryOp .FloorDiv) (rI (fun _ j => j ≠ 0 ∧ Smk j) fun i j => .int (i.fdiv j)) := opI fun _ _ _ _ _ _ _ hc q => floordiv_int hc.1 q (.inl (noPy_smk hc.2))
end
section
variable {X : Cx} {N' : List Str} {scope : Scope} {cl : List (Str × Addr)} {C : Addr} {s3 : Shared} {H3 : Hp} {fp : List Addr}
end
theorem Rd.same {H H' : Hp} {a : Addr} {u : HO} (e : Same H H') (h : Rd H a u) : Rd H' a u := by
  rcases h with h | ⟨o, h⟩
  · exact .inl (e a _ h)
  · exact .inr ⟨o, e a _ h⟩
theorem Same.tup {K : PySem.W.Frag} {H H' : Hp} {a : Addr} {xs : List V} (e : Same H H') (h : SqT K H a xs) : SqT K H' a xs := by
  rcases h with h | h
  · exact .inl (h.same e)
  · exact .inr h
theorem same_upd {H1 H2 : Hp} {D : Addr} {o : HO} (h : Same H1 H2) (hD : H1 D = none) : Same H1 (upd H2 D o) := fun b u e => by
  rw [upd_ne (ne_of_none e hD)]; exact h b u e
end L2
set_option maxHeartbeats 4000000
namespace L2
open PySem PySem.Spec PyProof.Rows
mutual
noncomputable def cmpTh : Th → Th → Bool
  | .int _, .int _ => true
  | .str _, .str _ => true
  | .non, .non => true
  | .tup ts, .tup us => cmpThs ts us
  | .lst ts, .lst us => cmpThs ts us && ts.length == us.length
  | _, _ => false
noncomputable def cmpThs : List Th → List Th → Bool
  | t :: ts, u :: us => cmpTh t u && cmpThs ts us
  | _, _ => true
end
theorem cmp_int {i : Int} {u : Th} (c : cmpTh (.int i) u = true) : ∃ j, u = .int j := by cases u <;> first | exact ⟨_, rfl⟩ | cases c
theorem cmp_str {i : Str} {u : Th} (c : cmpTh (.str i) u = true) : ∃ j, u = .str j := by cases u <;> first | exact ⟨_, rfl⟩ | cases c
theorem cmp_non {u : Th} (c : cmpTh .non u = true) : u = .non := by cases u <;> first | rfl | cases c
theorem cmp_tup {i : List Th} {u : Th} (c : cmpTh (.tup i) u = true) : ∃ j, u = .tup j := by cases u <;> first | exact ⟨_, rfl⟩ | cases c
theorem cmp_lst {i : List Th} {u : Th} (c : cmpTh (.lst i) u = true) : ∃ j, u = .lst j := by cases u <;> first | exact ⟨_, rfl⟩ | cases c
theorem cmp_bl {b : Bool} {u : Th} (c : cmpTh (.bl b) u = true) : False := by cases u <;> cases c
theorem cmp_emp {u : Th} (c : cmpTh .emp u = true) : False := by cases u <;> cases c
theorem cmp_dic {u : Th} (c : cmpTh .dic u = true) : False := by cases u <;> cases c
mutual
theorem Den.inj {H : Hp} : ∀ {t u : Th} {v : V}, cmpTh t u = true → Den H t v → Den H u v → t = u
  | .bl _, u, v, c, d1, d2 => (cmp_bl c).elim
  | .emp, u, v, c, d1, d2 => (cmp_emp c).elim
  | .dic, u, v, c, d1, d2 => (cmp_dic c).elim
  | .int i, u, v, c, d1, d2 => by
    obtain ⟨j, rfl⟩ := cmp_int c
    cases (show v = V.int i from d1); cases (show V.int i = V.int j from d2); rfl
  | .str i, u, v, c, d1, d2 => by
    obtain ⟨j, rfl⟩ := cmp_str c
    cases (show v = V.str i from d1); cases (show V.str i = V.str j from d2); rfl
  | .non, u, v, c, d1, d2 => (cmp_non c).symm
  | .tup ts, u, v, c, d1, d2 => by
    obtain ⟨us, rfl⟩ := cmp_tup c
    obtain ⟨a1, xs, rfl, h1, e1⟩ := d1
    obtain ⟨a2, ys, e0, h2, e2⟩ := d2
    cases e0
    rw [h1] at h2
    cases h2
    rw [cmpTh] at c
    rw [Dens.inj c e1 e2]
  | .lst ts, u, v, c, d1, d2 => by
    obtain ⟨us, rfl⟩ := cmp_lst c
    obtain ⟨a1, xs, rfl, h1, e1⟩ := d1
    obtain ⟨a2, ys, e0, h2, e2⟩ := d2
    cases e0
    rw [h1] at h2
    cases h2
    rw [cmpTh, Bool.and_eq_true] at c
    rw [Dens.inj c.1 e1 e2]
theorem Dens.inj {H : Hp} : ∀ {ts us : List Th} {xs : List V}, cmpThs ts us = true → Dens H ts xs → Dens H us xs → ts = us
  | [], [], _, _, _, _ => rfl
  | [], u :: us, xs, _, d1, d2 => by
    have e1 := d1.len
    have e2 := d2.len
    simp at e1 e2
    rw [e1] at e2
    simp at e2
  | t :: ts, [], xs, _, d1, d2 => by
    have e1 := d1.len
    have e2 := d2.len
    simp at e1 e2
    rw [e2] at e1
    simp at e1
  | t :: ts, u :: us, xs, c, d1, d2 => by
    obtain ⟨x, r, rfl, p1, q1⟩ := d1
    obtain ⟨x', r', e, p2, q2⟩ := d2
    cases e
    rw [cmpThs, Bool.and_eq_true] at c
    rw [Den.inj c.1 p1 p2, Dens.inj c.2 q1 q2]
end
section
variable {X : Cx}
end
theorem subL {cs : List (Str × Addr)} : ∀ {l : List (Str × Addr)}, (∀ p ∈ l, cs.lookup p.1 = some p.2) → ∀ (y : Str) (c : Addr), l.lookup y = some c → cs.lookup y = some c
  | [], _, y, c, h => by cases h
  | p :: l, k, y, c, h => by
    rw [List.lookup_cons] at h
    by_cases e : (y == p.1) = true
    · rw [e] at h
      have h' : p.2 = c := Option.some.inj h
      have ey : y = p.1 := beq_iff_eq.mp e
      rw [ey, ← h']
      exact k p (List.mem_cons_self ..)
    · have e' : (y == p.1) = false := Bool.eq_false_iff.mpr e
      rw [e'] at h
      exact subL (fun q hq => k q (List.mem_cons_of_mem _ hq)) y c h
theorem sub2 {cs : List (Str × Addr)} {x1 x2 : Str} {c1 c2 : Addr} (h1 : cs.lookup x1 = some c1) (h2 : cs.lookup x2 = some c2) : ∀ (y : Str) (c : Addr), List.lookup y [(x1, c1), (x2, c2)] = some c → cs.lookup y = some c :=
  subL fun p hp => by
    simp only [List.mem_cons, List.not_mem_nil, or_false] at hp
    rcases hp with rfl | rfl <;> assumption
theorem comp_rangeR {lo : Int} {n : Nat} {te : TE} {st : St} {H1 : Hp} {Q : VK} {D : Addr} (R : Nat → List V → Hp → Prop) (hD : H1 D = none) (hn : n ≤ sizeLine) (h0 : R 0 [] (upd H1 D (.lst [])))
    (hs : ∀ (i : Nat) (ys : List V) (H2 : Hp) (k : VK), i < n → Same H1 H2 → H2 D = some (.lst ys) → R i ys H2 → (∀ y H4, Same H2 H4 → R (i + 1) (ys ++ [y]) (upd H4 D (.lst (ys ++ [y]))) → k y H4) → te (some (.int (lo + i)) :: st) H2 k)
    (hd : ∀ ys H2, Same H1 H2 → H2 D = some (.lst ys) → ys.length = n → R n ys H2 → Q (.ref D) H2) : CompGo (Itr lo n) te st D H1 Q := by
  refine ⟨fun i m ys H2 => m = n - i ∧ i ≤ n ∧ ys.length = i ∧ Same H1 H2 ∧ H2 D = some (.lst ys) ∧ R i ys H2, ⟨n, by simp, Nat.zero_le _, rfl, same_upd (Same.refl H1) hD, upd_same, h0⟩, ?_⟩
  rintro i m ys H2 ⟨rfl, hi, hl, sm, e, r⟩
  by_cases hlt : i < n
  · refine .inr ⟨hlt, ?_⟩
    rintro x H3 ⟨rfl, rfl⟩
    refine hs i ys _ _ hlt sm e r fun y H4 s4 r4 => ⟨s4 _ _ e, by omega, n - (i + 1), by omega, rfl, hlt, by simp [hl], same_upd (sm.trans s4) hD, upd_same, r4⟩
  · have ei : i = n := by omega
    subst ei
    exact .inl ⟨Nat.le_refl _, hd ys H2 sm e hl r⟩
end L2
set_option maxHeartbeats 4000000
namespace L2
open PySem PySem.Spec PyProof.Rows
theorem comp_listR {K : PySem.W.Frag} {a : Addr} {xs : List V} {te : TE} {st : St} {H1 : Hp} {Q : VK} {D : Addr} (R : Nat → List V → Hp → Prop) (hD : H1 D = none) (q1 : SqL K H1 a xs) (hn : xs.length ≤ sizeLine) (h0 : R 0 [] (upd H1 D (.lst [])))
    (hs : ∀ (i : Nat) (x : V) (ys : List V) (H2 : Hp) (k : VK), xs[i]? = some x → Same H1 H2 → H2 D = some (.lst ys) → R i ys H2 → (∀ y H4, Same H2 H4 → R (i + 1) (ys ++ [y]) (upd H4 D (.lst (ys ++ [y]))) → k y H4) → te (some x :: st) H2 k)
    (hd : ∀ ys H2, Same H1 H2 → H2 D = some (.lst ys) → ys.length = xs.length → R xs.length ys H2 → Q (.ref D) H2) : CompGo (Itl K a) te st D H1 Q := by
  refine ⟨fun i m ys H2 => m = xs.length - i ∧ i ≤ xs.length ∧ ys.length = i ∧ Same H1 H2 ∧ H2 D = some (.lst ys) ∧ R i ys H2, ⟨xs.length, by simp, Nat.zero_le _, rfl, same_upd (Same.refl H1) hD, upd_same, h0⟩, ?_⟩
  rintro i m ys H2 ⟨rfl, hi, hl, sm, e, r⟩
  by_cases hlt : i < xs.length
  · have ex : xs[i]? = some xs[i] := List.getElem?_eq_getElem hlt
    refine .inr ⟨⟨xs, _, sm.seq q1, ex⟩, ?_⟩
    rintro x H3 ⟨rfl, hx⟩
    have hx' := hx xs (sm.seq q1)
    exact hs i x ys _ _ hx' sm e r fun y H4 s4 r4 => ⟨s4 _ _ e, by omega, xs.length - (i + 1), by omega, rfl, hlt, by simp [hl], same_upd (sm.trans s4) hD, upd_same, r4⟩
  · have ei : i = xs.length := by omega
    subst ei
    exact .inl ⟨⟨xs, sm.seq q1, Nat.le_refl _⟩, hd ys H2 sm e hl r⟩
noncomputable def tDead : TS := fun _ _ _ => False
theorem ps_dead {X : Cx} {st : Stmt} : PS X st tDead := fun _ _ _ _ _ _ h => h.elim
theorem comp_pairR {K : PySem.W.Frag} {a : Addr} {xs : List V} {te : TE} {st : St} {H1 : Hp} {Q : VK} {D : Addr} (R : Nat → List V → Hp → Prop) (hD : H1 D = none) (q1 : SqT K H1 a xs) (hn : xs.length ≤ sizeLine) (h0 : R 0 [] (upd H1 D (.lst [])))
    (hx : ∀ (i : Nat), i < xs.length → ∃ b u v, xs[i]? = some (.ref b) ∧ H1 b = some (.tup [u, v]))
    (hs : ∀ (i : Nat) (b : Addr) (u v : V) (ys : List V) (H2 : Hp) (k : VK), xs[i]? = some (.ref b) → H1 b = some (.tup [u, v]) → Same H1 H2 → H2 D = some (.lst ys) → R i ys H2 → (∀ y H4, Same H2 H4 → R (i + 1) (ys ++ [y]) (upd H4 D (.lst (ys ++ [y]))) → k y H4) → te (some u :: some v :: st) H2 k)
    (hd : ∀ ys H2, Same H1 H2 → H2 D = some (.lst ys) → ys.length = xs.length → R xs.length ys H2 → Q (.ref D) H2) : CompG (Itt K a) (gTup K 2 (gCons (gName 0) (gCons (gName 1) gNil))) tYes te 2 st D H1 Q := by
  refine ⟨fun i m ys H2 => m = xs.length - i ∧ i ≤ xs.length ∧ ys.length = i ∧ Same H1 H2 ∧ H2 D = some (.lst ys) ∧ R i ys H2, ⟨xs.length, by simp, Nat.zero_le _, rfl, same_upd (Same.refl H1) hD, upd_same, h0⟩, ?_⟩
  rintro i m ys H2 ⟨rfl, hi, hl, sm, e, r⟩
  by_cases hlt : i < xs.length
  · have ex : xs[i]? = some xs[i] := List.getElem?_eq_getElem hlt
    obtain ⟨b, u, v, e1, e2⟩ := hx i hlt
    refine .inr ⟨⟨xs, _, sm.tup q1, ex⟩, ?_⟩
    rintro x H3 σ0 ⟨rfl, hx'⟩ l0
    have hx2 := hx' xs (sm.tup q1)
    rw [e1] at hx2
    cases hx2
    obtain ⟨a', b', rfl⟩ : ∃ a b, σ0 = [a, b] := by
      match σ0, l0 with
      | [a, b], _ => exact ⟨a, b, rfl⟩
    refine ⟨b, [u, v], rfl, SqT.of (sm _ _ e2), rfl, u, [v], rfl, v, [], rfl, rfl, ⟨[some u, some v], rfl, rfl⟩, ?_⟩
    exact hs i b u v ys _ _ e1 e2 sm e r fun y H4 s4 r4 => ⟨s4 _ _ e, by omega, xs.length - (i + 1), by omega, rfl, hlt, by simp [hl], same_upd (sm.trans s4) hD, upd_same, r4⟩
  · have ei : i = xs.length := by omega
    subst ei
    exact .inl ⟨⟨xs, sm.tup q1, Nat.le_refl _⟩, hd ys H2 sm e hl r⟩
end L2
set_option maxHeartbeats 4000000
namespace L2
open PySem PySem.Spec PyProof.Rows
section
variable {prog : Program} {w : World} {A : Around} {E : Value → Shared → Prop} {s : Shared}
theorem tnext_item {j tu : Addr} {i : Nat} {its : Array Value} {v : Value} {Q : Value → Shared → Prop} (hj : s.heap.IsTupleIter j tu i) (ht : s.heap.IsTuple tu its) (hv : its[i]? = some v)
    (k : ∀ g, g.IsTupleIter j tu (i + 1) → Heap.SameBut j s.heap g → Q v { s with heap := g }) : wpAny (model prog w) A (Builtin.SmallTypes.nextOf (.ref j)) Q E s := by
  obtain ⟨oj, ej, cj, dj⟩ := id hj
  obtain ⟨ot, et, _, nt, dt⟩ := ht
  unfold Builtin.SmallTypes.nextOf
  refine (wpAny_bind (wpAny_callSpecial?_slot (name := Str.ofString "__next__") hj.typeIs F.slot_tuple_iterator_next (wpAny_call_entry F.slot_tuple_iterator_next hj.typeIs F.entry_tuple_iterator_next ?_ (F.args_tuple_iterator_next_1 _))))
  show wpAny _ _ (field (.ref j) 0 >>= _) _ _ s
  refine (wpAny_bind (wpAny_field ej dj (x := .ref tu) rfl ?_))
  show wpAny _ _ (if (Value.ref tu == Value.none) = true then _ else _) _ _ s
  rw [if_neg (show ¬ ((Value.ref tu == Value.none) = true) from Bool.false_ne_true)]
  show wpAny _ _ (field (.ref j) 1 >>= _) _ _ s
  refine (wpAny_bind (wpAny_field ej dj (x := .int i 0) rfl ?_))
  show wpAny _ _ (seqItems? (.ref tu) >>= _) _ _ s
  refine (wpAny_bind (wpAny_seqItems et dt ?_))
  simp only [Int.toNat_natCast, hv]
  refine (wpAny_bind (wpAny_setField ej dj (by simp) (wpAny_pure ⟨v, rfl, wpAny_pure (k _ ?_ (Heap.SameBut.update ..))⟩)))
  refine ⟨_, Heap.get?_update_self _ ej (Obj.isFreed_of_fields (Obj.data_mapFields dj _)), (Obj.cls_mapFields ..).trans cj, ?_⟩
  rw [Obj.data_mapFields dj]
  simp [rawInt]
theorem tnext_end {j tu : Addr} {i : Nat} {its : Array Value} {Q : Value → Shared → Prop} (hh : A.handled = none) (hj : s.heap.IsTupleIter j tu i) (ht : s.heap.IsTuple tu its) (hv : its[i]? = none)
    (k : ∀ g e, Heap.ExtBut j s.heap g → (∃ o, g.get? e = some o ∧ o.cls = .type "StopIteration") → E (.ref e) { s with heap := g }) : wpAny (model prog w) A (Builtin.SmallTypes.nextOf (.ref j)) Q E s := by
  obtain ⟨oj, ej, cj, dj⟩ := id hj
  obtain ⟨ot, et, _, nt, dt⟩ := ht
  unfold Builtin.SmallTypes.nextOf
  refine (wpAny_bind (wpAny_callSpecial?_slot (name := Str.ofString "__next__") hj.typeIs F.slot_tuple_iterator_next (wpAny_call_entry F.slot_tuple_iterator_next hj.typeIs F.entry_tuple_iterator_next ?_ (F.args_tuple_iterator_next_1 _))))
  show wpAny _ _ (field (.ref j) 0 >>= _) _ _ s
  refine (wpAny_bind (wpAny_field ej dj (x := .ref tu) rfl ?_))
  show wpAny _ _ (if (Value.ref tu == Value.none) = true then _ else _) _ _ s
  rw [if_neg (show ¬ ((Value.ref tu == Value.none) = true) from Bool.false_ne_true)]
  show wpAny _ _ (field (.ref j) 1 >>= _) _ _ s
  refine (wpAny_bind (wpAny_field ej dj (x := .int i 0) rfl ?_))
  show wpAny _ _ (seqItems? (.ref tu) >>= _) _ _ s
  refine (wpAny_bind (wpAny_seqItems et dt ?_))
  simp only [Int.toNat_natCast, hv]
  refine (wpAny_bind (wpAny_rule (wpAny_bind (wpAny_setField ej dj (by simp) ?_))))
  show wpAny _ _ (newExc (.type "StopIteration") [] >>= _) (_) _ _
  refine (wpAny_bind ?_)
  simp only [newExc, newTuple]
  refine (wpAny_bind (wpAny_newObj_type ?_ (by size_fits)))
  refine (wpAny_bind (m := firstArgMember _ _) (wpAny_of_eq (a := Value.none) (by first | rfl | (simp only [firstArgMember]; rfl)) ?_))
  refine (wpAny_newObj_type ?_ (by size_fits))
  simp only [raiseNew]
  refine (wpAny_bind (wpAny_handled ?_))
  rw [show A.in1.handled = none from hh]
  refine (wpAny_bind (wpAny_pure (wpAny_throw ?_)))
  exact k _ _ (((Heap.SameBut.update ..).extBut.push _).push _) ⟨_, Heap.get?_push_size _ rfl, rfl⟩
theorem zt_next {z TI TO j1 j2 t1 t2 : Addr} {k1 k2 : Nat} {xs ys : Array Value} {u v c d : Value} {Q : Value → Shared → Prop} (ap : ZipApart z TI TO j1 j2 t1 t2) (hz : IsZip s.heap z TI TO .none) (hI : IsPair s.heap TI (.ref j1) (.ref j2)) (hO : IsPair s.heap TO c d)
    (i1 : s.heap.IsTupleIter j1 t1 k1) (i2 : s.heap.IsTupleIter j2 t2 k2) (q1 : s.heap.IsTuple t1 xs) (q2 : s.heap.IsTuple t2 ys) (hu : xs[k1]? = some u) (hv : ys[k2]? = some v)
    (k : ∀ g, IsZip g z TI TO (rawInt s.heap.objs.size) → IsPair g TO u v → g.IsTupleIter j1 t1 (k1 + 1) → g.IsTupleIter j2 t2 (k2 + 1) → IsPair g s.heap.objs.size u v → g.objs.size = s.heap.objs.size + 1 →
      (∀ b o, b ≠ z → b ≠ TO → b ≠ j1 → b ≠ j2 → s.heap.get? b = some o → g.get? b = some o) → Q (.ref s.heap.objs.size) { s with heap := g }) :
    wpAny (model prog w) A (Builtin.«zip.__next__» ⟨[.ref z], []⟩) (fun f s' => ∃ r, f = .done (.ret r) ∧ Q r s') E s := by
  show wpAny _ _ (field (.ref z) 2 >>= _) (_) _ _
  refine (wpAny_bind (wpAny_field hz rfl (x := .bool false) rfl ?_))
  show wpAny _ _ (field (.ref z) 3 >>= _) (_) _ _
  refine (wpAny_bind (wpAny_field hz rfl (x := .ref TI) rfl ?_))
  refine (wpAny_bind (wpAny_seqItems hI rfl ?_))
  show wpAny _ _ (Builtin.SmallTypes.ownedTupleIsFree (.ref z) >>= _) (_) _ _
  refine (wpAny_bind ?_)
  unfold Builtin.SmallTypes.ownedTupleIsFree
  refine (wpAny_bind (wpAny_field hz rfl (x := .none) rfl (wpAny_pure ?_)))
  simp only [if_true]
  refine (wpAny_bind (wpAny_rule ?_))
  refine (wpAny_bind (wpAny_field hz rfl (x := .ref TO) rfl ?_))
  refine (wpAny_bind (wpAny_setField_rec hz (by simp) fun g1 z1 s1 => ?_))
  replace z1 : IsZip g1 z TI TO .ellipsis := z1
  refine (wpAny_bind ?_)
  simp only [List.zipIdx_cons, List.zipIdx_nil, List.forIn_cons, List.forIn_nil, id]
  refine (wpAny_bind (wpAny_bind (wpAny_onRaise ?_)))
  show wpAny _ _ (Builtin.SmallTypes.nextOf (.ref j1) >>= _) (_) _ _
  refine (wpAny_bind (tnext_item (i1.extBut s1.extBut ap.i1z) (q1.extBut s1.extBut ap.l1z) hu fun g2 n1 s2 => wpAny_pure ?_))
  have O2 : IsPair g2 TO c d := s2.extBut _ _ ap.TOi1 (s1.extBut _ _ ap.TOz hO)
  refine (wpAny_bind (wpAny_seqItems O2 rfl ?_))
  refine (wpAny_bind (wpAny_updateSeq_pair O2 fun g3 O3 s3 => ?_))
  replace O3 : IsPair g3 TO u d := O3
  refine (wpAny_bind (wpAny_letGo (wpAny_pure ?_)))
  refine (wpAny_bind (wpAny_bind (wpAny_onRaise ?_)))
  show wpAny _ _ (Builtin.SmallTypes.nextOf (.ref j2) >>= _) (_) _ _
  refine (wpAny_bind (tnext_item (((i2.extBut s1.extBut ap.i2z).extBut s2.extBut ap.i12.symm).extBut s3.extBut ap.TOi2.symm) (((q2.extBut s1.extBut ap.l2z).extBut s2.extBut ap.l2i1).extBut s3.extBut ap.l2TO) hv fun g4 n2 s4 => wpAny_pure ?_))
  have O4 : IsPair g4 TO u d := s4.extBut _ _ ap.TOi2 O3
  refine (wpAny_bind (wpAny_seqItems O4 rfl ?_))
  refine (wpAny_bind (wpAny_updateSeq_pair O4 fun g5 O5 s5 => ?_))
  replace O5 : IsPair g5 TO u v := O5
  refine (wpAny_bind (wpAny_letGo (wpAny_pure (wpAny_pure ?_))))
  refine (wpAny_bind (wpAny_seqItems O5 rfl ?_))
  refine (wpAny_bind (wpAny_newTuple ?_))
  have sz : g5.objs.size = s.heap.objs.size := by rw [s5.1, s4.1, s3.1, s2.1, s1.1]
  have Z5 : IsZip g5 z TI TO .ellipsis := s5.extBut _ _ ap.TOz.symm (s4.extBut _ _ ap.i2z.symm (s3.extBut _ _ ap.TOz.symm (s2.extBut _ _ ap.i1z.symm z1)))
  have K5 : ∀ b o, b ≠ z → b ≠ TO → b ≠ j1 → b ≠ j2 → s.heap.get? b = some o → g5.get? b = some o := fun b o b1 b2 b3 b4 e => s5.extBut _ _ b2 (s4.extBut _ _ b4 (s3.extBut _ _ b2 (s2.extBut _ _ b3 (s1.extBut _ _ b1 e))))
  have I1 : g5.IsTupleIter j1 t1 (k1 + 1) := ((n1.extBut s3.extBut ap.TOi1.symm).extBut s4.extBut ap.i12).extBut s5.extBut ap.TOi1.symm
  have I2 : g5.IsTupleIter j2 t2 (k2 + 1) := n2.extBut s5.extBut ap.TOi2.symm
  have zlt : z < g5.objs.size := Heap.lt_size Z5
  show wpAny _ _ (Builtin.SmallTypes.ownedTupleHandOut (.ref z) (.ref g5.objs.size) >>= _) (_) _ _
  refine (wpAny_bind ?_)
  unfold Builtin.SmallTypes.ownedTupleHandOut
  have Z6 : IsZip (g5.push { cls := .type "tuple", data := .seq #[u, v] }) z TI TO .ellipsis := Heap.get?_push_of_some _ Z5
  refine (wpAny_bind (wpAny_setField_rec Z6 (by simp) fun g7 Z7 s7 => ?_))
  replace Z7 : IsZip g7 z TI TO (rawInt g5.objs.size) := Z7
  refine wpAny_setField_rec Z7 (by simp) fun g8 Z8 s8 => ?_
  replace Z8 : IsZip g8 z TI TO (rawInt g5.objs.size) := Z8
  have up : ∀ b o, b ≠ z → g5.get? b = some o → g8.get? b = some o := fun b o nb e => s8.extBut _ _ nb (s7.extBut _ _ nb (Heap.get?_push_of_some _ e))
  have T8 : IsPair g8 g5.objs.size u v := s8.extBut _ _ (Nat.ne_of_gt zlt) (s7.extBut _ _ (Nat.ne_of_gt zlt) (Heap.get?_push_size _ rfl))
  have N8 : g8.objs.size = g5.objs.size + 1 := by rw [s8.1, s7.1, Heap.size_push]
  rw [sz] at Z8 T8 N8
  refine wpAny_pure ⟨_, rfl, ?_⟩
  show Q (.ref g5.objs.size) _
  rw [sz]
  exact k g8 Z8 (up _ _ ap.TOz O5) (I1.at fun o e => up _ o ap.i1z e) (I2.at fun o e => up _ o ap.i2z e) T8 N8 fun b o b1 b2 b3 b4 e => up b o b1 (K5 b o b1 b2 b3 b4 e)
theorem zt_end {z TI TO j1 j2 t1 t2 : Addr} {k1 k2 : Nat} {xs ys : Array Value} {c d : Value} {Q : Fin → Shared → Prop} (hh : A.handled = none) (ap : ZipApart z TI TO j1 j2 t1 t2) (hz : IsZip s.heap z TI TO .none) (hI : IsPair s.heap TI (.ref j1) (.ref j2)) (hO : IsPair s.heap TO c d)
    (i1 : s.heap.IsTupleIter j1 t1 k1) (i2 : s.heap.IsTupleIter j2 t2 k2) (q1 : s.heap.IsTuple t1 xs) (q2 : s.heap.IsTuple t2 ys) (he : xs[k1]? = none ∨ ys[k2]? = none)
    (k : ∀ g e, (∀ b o, b ≠ z → b ≠ TO → b ≠ j1 → b ≠ j2 → s.heap.get? b = some o → g.get? b = some o) → (∃ o, g.get? e = some o ∧ o.cls = .type "StopIteration") → E (.ref e) { s with heap := g }) :
    wpAny (model prog w) A (Builtin.«zip.__next__» ⟨[.ref z], []⟩) Q E s := by
  show wpAny _ _ (field (.ref z) 2 >>= _) (_) _ _
  refine (wpAny_bind (wpAny_field hz rfl (x := .bool false) rfl ?_))
  show wpAny _ _ (field (.ref z) 3 >>= _) (_) _ _
  refine (wpAny_bind (wpAny_field hz rfl (x := .ref TI) rfl ?_))
  refine (wpAny_bind (wpAny_seqItems hI rfl ?_))
  show wpAny _ _ (Builtin.SmallTypes.ownedTupleIsFree (.ref z) >>= _) (_) _ _
  refine (wpAny_bind ?_)
  unfold Builtin.SmallTypes.ownedTupleIsFree
  refine (wpAny_bind (wpAny_field hz rfl (x := .none) rfl (wpAny_pure ?_)))
  simp only [if_true]
  refine (wpAny_bind (wpAny_rule ?_))
  refine (wpAny_bind (wpAny_field hz rfl (x := .ref TO) rfl ?_))
  refine (wpAny_bind (wpAny_setField_rec hz (by simp) fun g1 z1 s1 => ?_))
  replace z1 : IsZip g1 z TI TO .ellipsis := z1
  refine (wpAny_bind ?_)
  simp only [List.zipIdx_cons, List.zipIdx_nil, List.forIn_cons, List.forIn_nil, id]
  refine (wpAny_bind (wpAny_bind (wpAny_onRaise ?_)))
  show wpAny _ _ (Builtin.SmallTypes.nextOf (.ref j1) >>= _) (_) _ _
  cases hu : xs[k1]? with
  | none =>
    refine (wpAny_bind (tnext_end hh (i1.extBut s1.extBut ap.i1z) (q1.extBut s1.extBut ap.l1z) hu fun g2 e s2 he => ?_))
    obtain ⟨oe, ho, hc⟩ := he
    have Z2 : IsZip g2 z TI TO .ellipsis := s2 _ _ ap.i1z.symm z1
    have nz : e ≠ z := fun x => by
      subst x
      rw [Z2] at ho
      cases ho
      simp at hc
    refine wpAny_setField_rec Z2 (by simp) fun g3 _ s3 => k g3 e (fun b o b1 _ b3 _ x => s3.extBut _ _ b1 (s2 _ _ b3 (s1.extBut _ _ b1 x))) ⟨oe, s3.extBut _ _ nz ho, hc⟩
  | some u =>
    have hv : ys[k2]? = none := by
      rcases he with q | q
      · rw [hu] at q; cases q
      · exact q
    refine (wpAny_bind (tnext_item (i1.extBut s1.extBut ap.i1z) (q1.extBut s1.extBut ap.l1z) hu fun g2 n1 s2 => wpAny_pure ?_))
    have O2 : IsPair g2 TO c d := s2.extBut _ _ ap.TOi1 (s1.extBut _ _ ap.TOz hO)
    refine (wpAny_bind (wpAny_seqItems O2 rfl ?_))
    refine (wpAny_bind (wpAny_updateSeq_pair O2 fun g3 O3 s3 => ?_))
    refine (wpAny_bind (wpAny_letGo (wpAny_pure ?_)))
    refine (wpAny_bind (wpAny_bind (wpAny_onRaise ?_)))
    show wpAny _ _ (Builtin.SmallTypes.nextOf (.ref j2) >>= _) (_) _ _
    refine (wpAny_bind (tnext_end hh (((i2.extBut s1.extBut ap.i2z).extBut s2.extBut ap.i12.symm).extBut s3.extBut ap.TOi2.symm) (((q2.extBut s1.extBut ap.l2z).extBut s2.extBut ap.l2i1).extBut s3.extBut ap.l2TO) hv fun g4 e s4 he => ?_))
    obtain ⟨oe, ho, hc⟩ := he
    have Z4 : IsZip g4 z TI TO .ellipsis := s4 _ _ ap.i2z.symm (s3.extBut _ _ ap.TOz.symm (s2.extBut _ _ ap.i1z.symm z1))
    have nz : e ≠ z := fun x => by
      subst x
      rw [Z4] at ho
      cases ho
      simp at hc
    refine wpAny_setField_rec Z4 (by simp) fun g5 _ s5 => k g5 e (fun b o b1 b2 b3 b4 x => s5.extBut _ _ b1 (s4 _ _ b4 (s3.extBut _ _ b2 (s2.extBut _ _ b3 (s1.extBut _ _ b1 x))))) ⟨oe, s5.extBut _ _ nz ho, hc⟩
theorem zt_pyNext {z TI TO j1 j2 t1 t2 : Addr} {k1 k2 : Nat} {xs ys : Array Value} {u v c d : Value} {Q : Option Value → Shared → Prop} (ap : ZipApart z TI TO j1 j2 t1 t2) (hz : IsZip s.heap z TI TO .none) (hI : IsPair s.heap TI (.ref j1) (.ref j2)) (hO : IsPair s.heap TO c d)
    (i1 : s.heap.IsTupleIter j1 t1 k1) (i2 : s.heap.IsTupleIter j2 t2 k2) (q1 : s.heap.IsTuple t1 xs) (q2 : s.heap.IsTuple t2 ys) (hu : xs[k1]? = some u) (hv : ys[k2]? = some v)
    (k : ∀ g, IsZip g z TI TO (rawInt s.heap.objs.size) → IsPair g TO u v → g.IsTupleIter j1 t1 (k1 + 1) → g.IsTupleIter j2 t2 (k2 + 1) → IsPair g s.heap.objs.size u v → g.objs.size = s.heap.objs.size + 1 →
      (∀ b o, b ≠ z → b ≠ TO → b ≠ j1 → b ≠ j2 → s.heap.get? b = some o → g.get? b = some o) → Q (some (.ref s.heap.objs.size)) { s with heap := g }) : wpAny (model prog w) A (pyNext (.ref z)) Q E s := by
  have ty : s.TypeIs (.ref z) "zip" := ⟨_, hz, rfl⟩
  unfold pyNext
  exact wpAny_bind (wpAny_attempt (wpAny_callSpecial?_slot (name := Str.ofString "__next__") ty F.slot_zip_next (wpAny_call_entry F.slot_zip_next ty F.entry_zip_next (zt_next ap hz hI hO i1 i2 q1 q2 hu hv fun g a1 a2 a3 a4 a5 a6 a7 => wpAny_pure (k g a1 a2 a3 a4 a5 a6 a7)) (F.args_zip_next_1 _))))
theorem zt_pyEnd {z TI TO j1 j2 t1 t2 : Addr} {k1 k2 : Nat} {xs ys : Array Value} {c d : Value} {Q : Option Value → Shared → Prop} (hh : A.handled = none) (ap : ZipApart z TI TO j1 j2 t1 t2) (hz : IsZip s.heap z TI TO .none) (hI : IsPair s.heap TI (.ref j1) (.ref j2)) (hO : IsPair s.heap TO c d)
    (i1 : s.heap.IsTupleIter j1 t1 k1) (i2 : s.heap.IsTupleIter j2 t2 k2) (q1 : s.heap.IsTuple t1 xs) (q2 : s.heap.IsTuple t2 ys) (he : xs[k1]? = none ∨ ys[k2]? = none)
    (k : ∀ g, (∀ b o, b ≠ z → b ≠ TO → b ≠ j1 → b ≠ j2 → s.heap.get? b = some o → g.get? b = some o) → Q none { s with heap := g }) : wpAny (model prog w) A (pyNext (.ref z)) Q E s := by
  have ty : s.TypeIs (.ref z) "zip" := ⟨_, hz, rfl⟩
  unfold pyNext
  refine (wpAny_bind (wpAny_attempt (wpAny_callSpecial?_slot (name := Str.ofString "__next__") ty F.slot_zip_next (wpAny_call_entry F.slot_zip_next ty F.entry_zip_next (zt_end hh ap hz hI hO i1 i2 q1 q2 he fun g e hk hs => ?_) (F.args_zip_next_1 _)))))
  obtain ⟨o, ho, hc⟩ := hs
  refine (wpAny_bind (wpAny_isInstance (T := "StopIteration") (b := true) ⟨o, ho, hc⟩ isSubtype_stop ?_))
  exact wpAny_pure (k _ hk)
noncomputable abbrev zt1 (h : Heap) (a : Addr) : Heap := h.push { cls := .type "tuple_iterator", data := .fields #[.ref a, .int 0 0] }
noncomputable abbrev zt2 (h : Heap) (a b : Addr) : Heap := (zt1 h a).push { cls := .type "tuple_iterator", data := .fields #[.ref b, .int 0 0] }
noncomputable abbrev zt3 (h : Heap) (a b : Addr) : Heap := (zt2 h a b).push { cls := .type "tuple", data := .seq #[.ref h.objs.size, .ref (zt1 h a).objs.size] }
noncomputable abbrev zt4 (h : Heap) (a b : Addr) : Heap := (zt3 h a b).push { cls := .type "tuple", data := .seq #[.none, .none] }
noncomputable abbrev zt5 (h : Heap) (a b : Addr) : Heap := (zt4 h a b).push { cls := .type "zip", data := .fields #[.none, .bool false, .bool false, .ref (zt2 h a b).objs.size, .ref (zt3 h a b).objs.size] }
theorem zt_new (a b : Addr) (xs ys : Array Value) :
    Meets (Builtin.«zip.__new__» ⟨[.type "zip", .ref a, .ref b], []⟩) (fun _ R s => s.heap.IsTuple a xs ∧ s.heap.IsTuple b ys ∧ R (.ok (.ret (.ref (zt4 s.heap a b).objs.size))) { s with heap := zt5 s.heap a b }) :=
  .of_wp fun prog w A R s h => by
    obtain ⟨hp, g, dr, tk, os⟩ := s
    obtain ⟨h1, h2, h⟩ := h
    have sub := sub_zip
    have L1 : Heap.IsTuple (Shared.heap ⟨hp, g, dr, tk, os⟩) a xs := h1
    have L2 : Heap.IsTuple (Shared.heap ⟨hp.push { cls := .type "tuple_iterator", data := .fields #[.ref a, .int 0 0] }, g, dr, tk, os⟩) b ys := Heap.IsTuple.push h2 _
    wp_walk using wpAny_pyIter_tuple L1, wpAny_pyIter_tuple L2
    exact ⟨_, rfl, h⟩
theorem zt_call {a b : Addr} {xs ys : Array Value} {Q : Value → Shared → Prop} (h1 : s.heap.IsTuple a xs) (h2 : s.heap.IsTuple b ys)
    (k : ∀ g, IsZip g (s.heap.objs.size + 4) (s.heap.objs.size + 2) (s.heap.objs.size + 3) .none → IsPair g (s.heap.objs.size + 2) (.ref s.heap.objs.size) (.ref (s.heap.objs.size + 1)) → IsPair g (s.heap.objs.size + 3) .none .none →
      g.IsTupleIter s.heap.objs.size a 0 → g.IsTupleIter (s.heap.objs.size + 1) b 0 → (∀ c o, s.heap.get? c = some o → g.get? c = some o) → Q (.ref (s.heap.objs.size + 4)) { s with heap := g }) :
    wpAny (model prog w) A (call (.type "zip") [.ref a, .ref b]) Q E s := by
  refine callType_new F.called_zip (by decide) (F.typeCall_zip_2 _ _) (F.newCall_zip_2 _ _) (fun o => F.args_object_init_3 o _ _) F.entry_zip_new (zt_new a b xs ys) ⟨h1, h2, ?_⟩
  have z1 : (zt1 s.heap a).objs.size = s.heap.objs.size + 1 := Heap.size_push ..
  have z2 : (zt2 s.heap a b).objs.size = s.heap.objs.size + 2 := by rw [Heap.size_push, z1]
  have z3 : (zt3 s.heap a b).objs.size = s.heap.objs.size + 3 := by rw [Heap.size_push, z2]
  have z4 : (zt4 s.heap a b).objs.size = s.heap.objs.size + 4 := by rw [Heap.size_push, z3]
  have g5 : (zt5 s.heap a b).get? (zt4 s.heap a b).objs.size = some _ := Heap.get?_push_size _ rfl
  have g4 : (zt5 s.heap a b).get? (zt3 s.heap a b).objs.size = some _ := Heap.get?_push_of_some _ (Heap.get?_push_size _ rfl)
  have g3 : (zt5 s.heap a b).get? (zt2 s.heap a b).objs.size = some _ := Heap.get?_push_of_some _ (Heap.get?_push_of_some _ (Heap.get?_push_size _ rfl))
  have g2 : (zt5 s.heap a b).get? (zt1 s.heap a).objs.size = some _ := Heap.get?_push_of_some _ (Heap.get?_push_of_some _ (Heap.get?_push_of_some _ (Heap.get?_push_size _ rfl)))
  have g1 : (zt5 s.heap a b).get? s.heap.objs.size = some _ := Heap.get?_push_of_some _ (Heap.get?_push_of_some _ (Heap.get?_push_of_some _ (Heap.get?_push_of_some _ (Heap.get?_push_size _ rfl))))
  show _ ∧ _
  rw [z2, z3, z4] at g5
  rw [z1, z2] at g3
  rw [z3] at g4
  rw [z1] at g2
  rw [z4]
  exact ⟨⟨_, g5, rfl⟩, k _ g5 g3 g4 ⟨_, g1, rfl, rfl⟩ ⟨_, g2, rfl, rfl⟩ fun c o x => Heap.get?_push_of_some _ (Heap.get?_push_of_some _ (Heap.get?_push_of_some _ (Heap.get?_push_of_some _ (Heap.get?_push_of_some _ x))))⟩
end
noncomputable def Itzt (K : PySem.W.Frag) (t1 t2 : Addr) : It :=
  ⟨fun i H => ∃ xs ys x y, SqT K H t1 xs ∧ SqT K H t2 ys ∧ xs[i]? = some x ∧ ys[i]? = some y,
   fun i H v H' => ∃ T x y, H T = none ∧ H' = upd H T (.tup [x, y]) ∧ v = .ref T ∧ (∀ xs, SqT K H t1 xs → xs[i]? = some x) ∧ ∀ ys, SqT K H t2 ys → ys[i]? = some y,
   fun i H => ∃ xs ys, SqT K H t1 xs ∧ SqT K H t2 ys ∧ (xs.length ≤ i ∨ ys.length ≤ i)⟩
noncomputable def ZStT (z TI TO j1 j2 t1 t2 : Addr) (i : Nat) (h : Heap) : Prop :=
  IsZip h z TI TO Value.none ∧ IsPair h TI (.ref j1) (.ref j2) ∧ (∃ a b, IsPair h TO a b) ∧ h.IsTupleIter j1 t1 i ∧ h.IsTupleIter j2 t2 i
theorem isTuple_at {h : Heap} {l : Addr} {items : Array Value} (x : h.IsTuple l items) : ∃ o, h.get? l = some o ∧ o.cls = .type "tuple" := by
  obtain ⟨o, e, c, _⟩ := x
  exact ⟨o, e, c⟩
theorem turn_zipT {P : Program} {w : World} {K : PySem.W.Frag} {es : List Expr} {k0 : Nat} {p0 : Pos} {z TI TO i1 i2 l1 l2 : Addr} (ap : ZipApart z TI TO i1 i2 l1 l2) :
    Turn P w K (.Tuple es k0 p0) (Itzt K l1 l2) [z, TI, TO, i1, i2] z (ZStT z TI TO i1 i2 l1 l2) where
  mem := by simp
  obj := fun i h ⟨a, b, ⟨c1, c2, c⟩, d, e⟩ x hx => by
    simp only [List.mem_cons, List.not_mem_nil, or_false] at hx
    rcases hx with rfl | rfl | rfl | rfl | rfl
    · exact ⟨_, a, fun v q => by cases q⟩
    · exact ⟨_, b, fun v q => by cases q⟩
    · exact ⟨_, c, fun v q => by cases q⟩
    · obtain ⟨o, e1, _, e2⟩ := d
      exact ⟨o, e1, fun v q => by rw [e2] at q; cases q⟩
    · obtain ⟨o, e1, _, e2⟩ := e
      exact ⟨o, e1, fun v q => by rw [e2] at q; cases q⟩
  keep := fun i h h' ⟨a, b, ⟨c1, c2, c⟩, d, e⟩ kk =>
    ⟨kk _ (by simp) _ a, kk _ (by simp) _ b, ⟨c1, c2, kk _ (by simp) _ c⟩, d.at fun o q => kk _ (by simp) o q, e.at fun o q => kk _ (by simp) o q⟩
  item := by
    intro X hP hw hK hc i pins s σ H E I hf st hg
    subst hP hw hK
    obtain ⟨a, b, ⟨c1, c2, c⟩, d, e⟩ := st
    obtain ⟨xs, ys, x, y, q1, q2, x1, y1⟩ := hg
    obtain ⟨its1, rv1, pl1, hz1⟩ := I.tuple q1
    obtain ⟨its2, rv2, pl2, hz2⟩ := I.tuple q2
    obtain ⟨u1, hu1, ru1⟩ := rv1.get x1
    obtain ⟨u2, hu2, ru2⟩ := rv2.get y1
    refine zt_pyNext ap a b c d e (show s.heap.IsTuple l1 its1.toArray from pl1) (show s.heap.IsTuple l2 its2.toArray from pl2) (u := u1) (v := u2) (by simpa using hu1) (by simpa using hu2) fun h' za zb zc zd ze zs zk => ?_
    refine ⟨_, rfl, wpAny_letOwnedTupleGo_zip (s := { s with heap := h' }) za fun h2 za2 sb => ?_⟩
    have kk : ∀ b o, b ∉ [z, TI, TO, i1, i2] → s.heap.get? b = some o → h2.get? b = some o := fun b o hb q => by
      simp only [List.mem_cons, List.not_mem_nil, or_false, not_or] at hb
      exact (sb.2 b hb.1).trans (zk b o hb.1 hb.2.2.1 hb.2.2.2.1 hb.2.2.2.2 q)
    have szn : s.heap.objs.size ≠ z := fun q => by
      obtain ⟨f0, _⟩ := hf z (by simp)
      exact absurd (Heap.lt_size a) (by rw [← q]; exact Nat.lt_irrefl _)
    have hT : h2.get? s.heap.objs.size = some { cls := .type "tuple", data := .seq #[u1, u2] } := (sb.2 _ szn).trans ze
    have fr : H s.heap.objs.size = none := I.hok.fresh (Nat.le_refl _)
    have I2 : Inv X pins σ (upd H s.heap.objs.size (.tup [x, y])) { s with heap := h2 } := I.turnLay (t' := s.toks) (fp := [z, TI, TO, i1, i2]) kk hf (Nat.le_refl _)
      ⟨by show 2 ≤ sizeLine; decide, [u1, u2], .cons ru1 (.cons ru2 .nil), ⟨_, hT, rfl, _, rfl⟩⟩
    have kTI : h2.get? TI = some _ := (sb.2 TI ap.TIz).trans (zk TI _ ap.TIz ap.TITO ap.TIi1 ap.TIi2 b)
    refine ⟨.ref s.heap.objs.size, _, I2, rfl, ⟨_, x, y, fr, rfl, rfl, fun zs hz => by rw [I.tuple_inj hz q1]; exact x1, fun zs hz => by rw [I.tuple_inj hz q2]; exact y1⟩,
      ⟨za2, kTI, ⟨_, _, (sb.2 TO ap.TOz).trans zb⟩, zc.at fun o q => (sb.2 _ ap.i1z).trans q, zd.at fun o q => (sb.2 _ ap.i2z).trans q⟩, fun b hb => ?_⟩
    have h0 := (hf b hb).1
    have hlt : b ≠ s.heap.objs.size := fun q => by
      subst q
      simp only [List.mem_cons, List.not_mem_nil, or_false] at hb
      rcases hb with q | q | q | q | q
      · exact szn q
      · exact absurd (Heap.lt_size b) (by rw [← q]; exact Nat.lt_irrefl _)
      · exact absurd (Heap.lt_size c) (by rw [← q]; exact Nat.lt_irrefl _)
      · obtain ⟨o, e1, _⟩ := d
        exact absurd (Heap.lt_size e1) (by rw [← q]; exact Nat.lt_irrefl _)
      · obtain ⟨o, e1, _⟩ := e
        exact absurd (Heap.lt_size e1) (by rw [← q]; exact Nat.lt_irrefl _)
    rw [upd_ne hlt]
    exact h0
  done := by
    intro X hP hw hK hc i pins s σ H E I hf st hg
    subst hP hw hK
    obtain ⟨a, b, ⟨c1, c2, c⟩, d, e⟩ := st
    obtain ⟨xs, ys, q1, q2, hl⟩ := hg
    obtain ⟨its1, rv1, pl1, hz1⟩ := I.tuple q1
    obtain ⟨its2, rv2, pl2, hz2⟩ := I.tuple q2
    have g1 := rv1.length
    have g2 := rv2.length
    refine zt_pyEnd (I.ok.hd hc) ap a b c d e (show s.heap.IsTuple l1 its1.toArray from pl1) (show s.heap.IsTuple l2 its2.toArray from pl2) ?_ fun h' zk => ⟨rfl, I.turnedL (t' := s.toks) (fp := [z, TI, TO, i1, i2]) (fun b o hb q => ?_) hf⟩
    · rcases hl with q | q
      · left; simp; omega
      · right; simp; omega
    · simp only [List.mem_cons, List.not_mem_nil, or_false, not_or] at hb
      exact zk b o hb.1 hb.2.2.1 hb.2.2.2.1 hb.2.2.2.2 q
  self := fun _ _ _ _ _ st h => wpAny_pyIter_zip st.1 h
noncomputable def iZipT (K : PySem.W.Frag) (ta : TA) : TI := fun σ H R => ta σ H fun vs H1 => ∃ a b, vs = [.ref a, .ref b] ∧ (∃ xs, SqT K H1 a xs) ∧ (∃ ys, SqT K H1 b ys) ∧ R (Itzt K a b) H1
theorem pi_zipT {X : Cx} {es : List Expr} {k0 : Nat} {p0 : Pos} {a b : Expr} {ta : TA} {p pos : Pos} (hg : Gl X "zip") (hm : X.mg "zip" = none) (ha : PA X [a, b] ta) (hs : starEach [a, b] X.env = [(false, eval a X.env), (false, eval b X.env)] := by rfl) (hs2 : starEach [b] X.env = [(false, eval b X.env)] := by rfl) :
    PI X (.Tuple es k0 p0) (.Call (.Name "zip" p) [a, b] [] pos) (iZipT X.K ta) := by
  intro pins s σ H R I h
  refine Call_ (ld_blt I hg hm boot_zip (PyProof.Rows.callWith_type1 (thn (ha pos pins s σ H _ I h) fun us s1 ⟨vs, H1, I1, r1, q1⟩ => ?_) (by rw [hs, hs2]) (by rw [hs2]; rfl)))
  obtain ⟨l1, l2, e, ⟨xs, q1⟩, ⟨ys, q2⟩, q⟩ := q1
  subst e
  cases r1 with
  | cons r rr =>
    cases rr with
    | cons r' rr =>
      cases rr
      cases r
      cases r'
      obtain ⟨its1, rv1, pl1, hz1⟩ := I1.tuple q1
      obtain ⟨its2, rv2, pl2, hz2⟩ := I1.tuple q2
      have T1 : s1.heap.IsTuple l1 its1.toArray := pl1
      have T2 : s1.heap.IsTuple l2 its2.toArray := pl2
      have lt1 : l1 < s1.heap.objs.size := by obtain ⟨o, e, _⟩ := isTuple_at T1; exact Heap.lt_size e
      have lt2 : l2 < s1.heap.objs.size := by obtain ⟨o, e, _⟩ := isTuple_at T2; exact Heap.lt_size e
      refine zt_call T1 T2 fun h' za zb zc zd ze zk => ?_
      refine wpAny_pyIter_zip (s := { s1 with heap := h' }) za ?_
      have I2 : Inv X pins σ H1 { s1 with heap := h' } := I1.kept (t' := s1.toks) fun b o e => zk b o e
      refine ⟨_, [_, _, _, _, _], _, _, H1, rfl, I2, turn_zipT (z := s1.heap.objs.size + 4) (TI := s1.heap.objs.size + 2) (TO := s1.heap.objs.size + 3) (i1 := s1.heap.objs.size) (i2 := s1.heap.objs.size + 1) (l1 := l1) (l2 := l2) ?_, ⟨za, zb, ⟨_, _, zc⟩, zd, ze⟩, fun b hb => ?_, q⟩
      · exact zapart lt1 lt2
      · simp only [List.mem_cons, List.not_mem_nil, or_false] at hb
        have ge : s1.heap.objs.size ≤ b := by rcases hb with z | z | z | z | z <;> (subst z; first | exact Nat.le_add_right _ _ | exact Nat.le_refl _)
        exact I1.fpOk ge (I1.hok.fresh ge)
theorem for_zipT {K : PySem.W.Frag} {l1 l2 : Addr} {xs ys : List V} {g : TG} {tb : TS} {D : Ends} {σ : St} {H : Hp} {n : Nat} (Pv : Nat → St → Hp → Prop) (h0 : Pv 0 σ H) (n1 : n ≤ xs.length) (n2 : n ≤ ys.length) (ne : xs.length = n ∨ ys.length = n)
    (hl : ∀ i σ H, i ≤ n → Pv i σ H → SqT K H l1 xs ∧ SqT K H l2 ys)
    (hs : ∀ i x y T σ H, i < n → xs[i]? = some x → ys[i]? = some y → H T = none → Pv i σ H → g (.ref T) σ (upd H T (.tup [x, y])) fun σ2 H2 => tb { D with nx := Pv (i + 1), ct := Pv (i + 1), bk := D.nx } σ2 H2) (hd : ∀ σ H, Pv n σ H → D.nx σ H) :
    ∃ W : Nat → Nat → St → Hp → Prop, (∃ m, W 0 m σ H) ∧ ∀ i m σ H, W i m σ H →
      ((Itzt K l1 l2).stop i H ∧ D.nx σ H) ∨ ((Itzt K l1 l2).go i H ∧ ∃ N : St → Hp → Prop, (∀ σ' H', N σ' H' → ∃ m', m' < m ∧ W (i + 1) m' σ' H') ∧ ∀ x H', (Itzt K l1 l2).yld i H x H' → g x σ H' fun σ2 H2 => tb { D with nx := N, ct := N, bk := D.nx } σ2 H2) := by
  refine ⟨fun i m σ H => m = n - i ∧ i ≤ n ∧ Pv i σ H, ⟨n, by simp, Nat.zero_le _, h0⟩, ?_⟩
  rintro i m σ H ⟨rfl, hi, p⟩
  obtain ⟨q1, q2⟩ := hl i σ H hi p
  by_cases hlt : i < n
  · have ex : xs[i]? = some (xs[i]'(by omega)) := List.getElem?_eq_getElem (by omega)
    have ey : ys[i]? = some (ys[i]'(by omega)) := List.getElem?_eq_getElem (by omega)
    refine .inr ⟨⟨xs, ys, _, _, q1, q2, ex, ey⟩, Pv (i + 1), fun σ' H' z => ⟨n - (i + 1), by omega, rfl, hlt, z⟩, ?_⟩
    rintro v H' ⟨T, x, y, fr, rfl, rfl, hx, hy⟩
    exact hs i x y T σ H hlt (hx xs q1) (hy ys q2) fr p
  · have ei : i = n := by omega
    subst ei
    refine .inl ⟨⟨xs, ys, q1, q2, ?_⟩, hd σ H p⟩
    rcases ne with z | z
    · exact .inl (by omega)
    · exact .inr (by omega)
end L2
set_option maxHeartbeats 4000000
namespace L2
open PySem PySem.Spec PyProof.Rows
section
variable {X : Cx}
end
section
variable {X : Cx}
end
end L2
set_option maxHeartbeats 4000000
namespace L2
open PySem PySem.Spec PyProof.Rows
section
variable {X : Cx} {e st : Expr} {te ts : TE} {pos p2 : Pos}
end
theorem comp_lpairR {K : PySem.W.Frag} {a : Addr} {xs : List V} {te : TE} {st : St} {H1 : Hp} {Q : VK} {D : Addr} (R : Nat → List V → Hp → Prop) (hD : H1 D = none) (q1 : SqL K H1 a xs) (hn : xs.length ≤ sizeLine) (h0 : R 0 [] (upd H1 D (.lst [])))
    (hx : ∀ (i : Nat), i < xs.length → ∃ b u v, xs[i]? = some (.ref b) ∧ H1 b = some (.tup [u, v]))
    (hs : ∀ (i : Nat) (b : Addr) (u v : V) (ys : List V) (H2 : Hp) (k : VK), xs[i]? = some (.ref b) → H1 b = some (.tup [u, v]) → Same H1 H2 → H2 D = some (.lst ys) → R i ys H2 → (∀ y H4, Same H2 H4 → R (i + 1) (ys ++ [y]) (upd H4 D (.lst (ys ++ [y]))) → k y H4) → te (some u :: some v :: st) H2 k)
    (hd : ∀ ys H2, Same H1 H2 → H2 D = some (.lst ys) → ys.length = xs.length → R xs.length ys H2 → Q (.ref D) H2) : CompG (Itl K a) (gTup K 2 (gCons (gName 0) (gCons (gName 1) gNil))) tYes te 2 st D H1 Q := by
  refine ⟨fun i m ys H2 => m = xs.length - i ∧ i ≤ xs.length ∧ ys.length = i ∧ Same H1 H2 ∧ H2 D = some (.lst ys) ∧ R i ys H2, ⟨xs.length, by simp, Nat.zero_le _, rfl, same_upd (Same.refl H1) hD, upd_same, h0⟩, ?_⟩
  rintro i m ys H2 ⟨rfl, hi, hl, sm, e, r⟩
  by_cases hlt : i < xs.length
  · have ex : xs[i]? = some xs[i] := List.getElem?_eq_getElem hlt
    obtain ⟨b, u, v, e1, e2⟩ := hx i hlt
    refine .inr ⟨⟨xs, _, sm.seq q1, ex⟩, ?_⟩
    rintro x H3 σ0 ⟨rfl, hx'⟩ l0
    have hx2 := hx' xs (sm.seq q1)
    rw [e1] at hx2
    cases hx2
    obtain ⟨a', b', rfl⟩ : ∃ a b, σ0 = [a, b] := by
      match σ0, l0 with
      | [a, b], _ => exact ⟨a, b, rfl⟩
    refine ⟨b, [u, v], rfl, SqT.of (sm _ _ e2), rfl, u, [v], rfl, v, [], rfl, rfl, ⟨[some u, some v], rfl, rfl⟩, ?_⟩
    exact hs i b u v ys _ _ e1 e2 sm e r fun y H4 s4 r4 => ⟨s4 _ _ e, by omega, xs.length - (i + 1), by omega, rfl, hlt, by simp [hl], same_upd (sm.trans s4) hD, upd_same, r4⟩
  · have ei : i = xs.length := by omega
    subst ei
    exact .inl ⟨⟨xs, sm.seq q1, Nat.le_refl _⟩, hd ys H2 sm e hl r⟩
end L2
set_option maxHeartbeats 4000000
namespace L2
open PySem PySem.Spec PyProof.Rows
section
variable {X : Cx}
end
end L2
namespace Gc
theorem gstep {a b : Int} (ha : 0 ≤ a) (hb : 0 ≤ b) (h : b ≠ 0) : Int.gcd b (a % b) = Int.gcd a b := by
  rw [Int.gcd_comm a b]
  unfold Int.gcd
  have e : (a % b).natAbs = a.natAbs % b.natAbs := by
    rw [Int.natAbs_emod_of_nonneg ha]
  rw [e, Nat.gcd_comm b.natAbs (a.natAbs % b.natAbs), ← Nat.gcd_rec]
theorem gend {a : Int} (ha : 0 ≤ a) : (Int.gcd a 0 : Int) = a := by
  rw [Int.gcd_zero_right]; omega
theorem gabs (a b : Int) : Int.gcd (if a < 0 then -a else a) (if b < 0 then -b else b) = Int.gcd a b := by
  unfold Int.gcd
  have h1 : (if a < 0 then -a else a).natAbs = a.natAbs := by split <;> omega
  have h2 : (if b < 0 then -b else b).natAbs = b.natAbs := by split <;> omega
  rw [h1, h2]
end Gc
namespace Gc
theorem fdiv_mul {g t : Int} (h : g ≠ 0) : (g * t).fdiv g = t := by
  rw [Int.mul_comm]; exact Int.mul_fdiv_cancel _ h
noncomputable def frD (t b : Int) : Int := if b < 0 then -(Int.gcd t b : Int) else (Int.gcd t b : Int)
noncomputable def frT (t b : Int) : Int := t.fdiv (frD t b)
noncomputable def frB (t b : Int) : Int := b.fdiv (frD t b)
theorem gne {t b : Int} (h : b ≠ 0) : Int.gcd t b ≠ 0 := fun e => h (Int.gcd_eq_zero_iff.mp e).2
theorem frD_ne {t b : Int} (h : b ≠ 0) : frD t b ≠ 0 := by
  have := gne (t := t) h
  unfold frD; split <;> omega
theorem fr_split {t b : Int} (h : b ≠ 0) : t = frD t b * frT t b ∧ b = frD t b * frB t b := by
  have hd : (Int.gcd t b : Int) ∣ t := Int.gcd_dvd_left ..
  have hb : (Int.gcd t b : Int) ∣ b := Int.gcd_dvd_right ..
  have hd' : frD t b ∣ t := by unfold frD; split; · exact Int.neg_dvd.mpr hd
                               · exact hd
  have hb' : frD t b ∣ b := by unfold frD; split; · exact Int.neg_dvd.mpr hb
                               · exact hb
  obtain ⟨x, hx⟩ := hd'
  obtain ⟨y, hy⟩ := hb'
  have ne := frD_ne (t := t) h
  generalize hD : frD t b = d at *
  have e1 : frT t b = x := by unfold frT; rw [hD]; conv => lhs; rw [hx]
                              exact fdiv_mul ne
  have e2 : frB t b = y := by unfold frB; rw [hD]; conv => lhs; rw [hy]
                              exact fdiv_mul ne
  rw [e1, e2]; exact ⟨hx, hy⟩
theorem frB_pos {t b : Int} (h : b ≠ 0) : 0 < frB t b := by
  obtain ⟨_, e⟩ := fr_split (t := t) h
  have g := gne (t := t) h
  rcases Int.lt_trichotomy (frB t b) 0 with c | c | c
  · exfalso
    by_cases hb : b < 0
    · have hd : frD t b < 0 := by unfold frD; rw [if_pos hb]; omega
      have := Int.mul_pos_of_neg_of_neg hd c
      omega
    · have hd : 0 < frD t b := by unfold frD; rw [if_neg hb]; omega
      have := Int.mul_neg_of_pos_of_neg hd c
      omega
  · rw [c, Int.mul_zero] at e; exact absurd e h
  · exact c
theorem fr_gcd {t b : Int} (h : b ≠ 0) : Int.gcd (frT t b) (frB t b) = 1 := by
  obtain ⟨e1, e2⟩ := fr_split (t := t) h
  have g := gne (t := t) h
  have k : Int.gcd t b = (frD t b).natAbs * Int.gcd (frT t b) (frB t b) := by
    rw [← Int.gcd_mul_left, ← e1, ← e2]
  have hn : (frD t b).natAbs = Int.gcd t b := by unfold frD; split <;> omega
  rw [hn] at k
  have : Int.gcd t b * 1 = Int.gcd t b * Int.gcd (frT t b) (frB t b) := by rw [Nat.mul_one]; exact k
  exact (Nat.eq_of_mul_eq_mul_left (Nat.pos_of_ne_zero g) this).symm
theorem dvd_cop {k m n : Int} (h : k ∣ m * n) (c : Int.gcd k m = 1) : k ∣ n := by
  have h' : k.natAbs ∣ m.natAbs * n.natAbs := by rw [← Int.natAbs_mul]; exact Int.natAbs_dvd_natAbs.mpr h
  exact Int.natAbs_dvd_natAbs.mp (Nat.Coprime.dvd_of_dvd_mul_left c h')
end Gc
namespace Gc
noncomputable def Sz (n : Nat) (i : Int) : Prop := i.natAbs < 2 ^ n
theorem Sz.mono {m n : Nat} {i : Int} (h : Sz m i) (hn : m ≤ n) : Sz n i := Nat.lt_of_lt_of_le h (Nat.pow_le_pow_right (by decide) hn)
theorem Sz.add {n : Nat} {i j : Int} (h1 : Sz n i) (h2 : Sz n j) : Sz (n + 1) (i + j) := by
  unfold Sz at *
  rw [Nat.pow_succ]; omega
theorem Sz.sub {n : Nat} {i j : Int} (h1 : Sz n i) (h2 : Sz n j) : Sz (n + 1) (i - j) := by
  unfold Sz at *
  rw [Nat.pow_succ]; omega
theorem Sz.fr {n m : Nat} {a b : Int} (h : b ≠ 0) (sa : Sz n a) (sb : Sz m b) : Sz n (frT a b) ∧ Sz m (frB a b) := by
  obtain ⟨e1, e2⟩ := fr_split (t := a) h
  have nd := frD_ne (t := a) h
  have h1 : (frT a b).natAbs ≤ a.natAbs := by
    have : a.natAbs = (frD a b).natAbs * (frT a b).natAbs := by rw [← Int.natAbs_mul, ← e1]
    rw [this]; exact Nat.le_mul_of_pos_left _ (by omega)
  have h2 : (frB a b).natAbs ≤ b.natAbs := by
    have : b.natAbs = (frD a b).natAbs * (frB a b).natAbs := by rw [← Int.natAbs_mul, ← e2]
    rw [this]; exact Nat.le_mul_of_pos_left _ (by omega)
  exact ⟨Nat.lt_of_le_of_lt h1 sa, Nat.lt_of_le_of_lt h2 sb⟩
structure FrOK (a b : Int) : Prop where
  pos : 0 < b
  low : Int.gcd a b = 1
  s1 : Sz 200 a
  s2 : Sz 200 b
theorem FrOK.of {a b : Int} (h : 0 < b) (sa : Sz 200 a) (sb : Sz 200 b) : FrOK (frT a b) (frB a b) :=
  have z := Sz.fr (by omega) sa sb
  ⟨frB_pos (by omega), fr_gcd (by omega), z.1, z.2⟩
end Gc
namespace Ch
noncomputable def binom : Nat → Nat → Nat
  | _, 0 => 1
  | 0, _ + 1 => 0
  | n + 1, k + 1 => binom n k + binom n (k + 1)
theorem bs (n k : Nat) : binom (n + 1) (k + 1) = binom n k + binom n (k + 1) := rfl
theorem blt : ∀ {n k : Nat}, n < k → binom n k = 0
  | 0, k + 1, _ => rfl
  | n + 1, k + 1, h => by rw [bs, blt (by omega : n < k), blt (by omega : n < k + 1)]
end Ch
namespace Gc
open Ch
theorem rle {a b c : Rat} (h : a ≤ b) (hc : 0 ≤ c) : c * a ≤ c * b := Rat.mul_le_mul_of_nonneg_left h hc
noncomputable def sm (f : Nat → Rat) : Nat → Rat
  | 0 => 0
  | m + 1 => sm f m + f m
end Gc
namespace Gc
open Ch
noncomputable def Cvx (G : Nat → Rat) : Prop := ∀ k, G (k + 1) - G k ≤ G (k + 2) - G (k + 1)
theorem Cvx.steps {G : Nat → Rat} (h : Cvx G) (a : Nat) : ∀ e, G (a + 1) - G a ≤ G (a + e + 1) - G (a + e)
  | 0 => Rat.le_refl
  | e + 1 => by
      have := h.steps a e
      have s := h (a + e)
      have e1 : a + (e + 1) = a + e + 1 := by omega
      have e2 : a + (e + 1) + 1 = a + e + 2 := by omega
      rw [e2, e1]; grind
theorem Cvx.up {G : Nat → Rat} (h : Cvx G) (a : Nat) : ∀ e : Nat, (e : Rat) * (G (a + 1) - G a) ≤ G (a + e) - G a
  | 0 => by have : a + 0 = a := rfl
            rw [this]; push_cast; grind
  | e + 1 => by
      have i := h.up a e
      have s := h.steps a e
      have e1 : a + (e + 1) = a + e + 1 := by omega
      rw [e1]; push_cast; grind
theorem Cvx.dn {G : Nat → Rat} (h : Cvx G) (a : Nat) : ∀ e : Nat, G (a + e) - G a ≤ (e : Rat) * (G (a + e + 1) - G (a + e))
  | 0 => by have : a + 0 = a := rfl
            rw [this]; push_cast; grind
  | e + 1 => by
      have i := h.dn a e
      have s := h (a + e)
      have m := rle s (show (0 : Rat) ≤ (e : Rat) by exact_mod_cast Nat.zero_le e)
      have e1 : a + (e + 1) = a + e + 1 := by omega
      have e2 : a + (e + 1) + 1 = a + e + 2 := by omega
      rw [e2, e1]; push_cast; grind
theorem castpos {e : Nat} (h : 0 < e) : (0 : Rat) < (e : Rat) := by exact_mod_cast h
theorem pos_of {e x : Rat} (he : 0 < e) (h : 0 < e * x) : 0 < x := by
  by_cases hx : 0 < x
  · exact hx
  · have := rle (show x ≤ 0 by grind) (show 0 ≤ e by grind); grind
theorem nonneg_of {e x : Rat} (he : 0 < e) (h : 0 ≤ e * x) : 0 ≤ x := by
  by_cases hx : 0 ≤ x
  · exact hx
  · have := Rat.mul_pos he (show 0 < -x by grind); grind
theorem Cvx.out {G : Nat → Rat} (h : Cvx G) {a d k : Nat} (ha : G a = 0) (hd : G d = 0) (had : a < d) (h1 : k ≤ a ∨ d ≤ k) : 0 ≤ G k := by
  obtain ⟨f, rfl⟩ := Nat.exists_eq_add_of_le (Nat.le_of_lt had)
  have fp := castpos (show 0 < f by omega)
  cases h1 with
  | inl h1 =>
    obtain ⟨e, rfl⟩ := Nat.exists_eq_add_of_le h1
    have u := h.dn k e
    have v := h.up (k + e) f
    have x : 0 ≤ -(G (k + e + 1) - G (k + e)) := nonneg_of fp (by grind)
    have y := Rat.mul_nonneg (show (0 : Rat) ≤ (e : Rat) by exact_mod_cast Nat.zero_le e) x
    grind
  | inr h1 =>
    obtain ⟨e, rfl⟩ := Nat.exists_eq_add_of_le h1
    have u := h.dn a f
    have v := h.up (a + f) e
    have x : 0 ≤ G (a + f + 1) - G (a + f) := nonneg_of fp (by grind)
    have y := Rat.mul_nonneg (show (0 : Rat) ≤ (e : Rat) by exact_mod_cast Nat.zero_le e) x
    grind
end Gc
namespace Gc
open Ch
theorem rgcd (r : Rat) : Int.gcd r.num (r.den : Int) = 1 := by
  have := r.reduced
  rw [Int.gcd]; simpa [Nat.Coprime] using this
theorem rdenQ (r : Rat) : (r.den : Rat) ≠ 0 := by
  have := r.den_nz
  intro h; exact this (by exact_mod_cast h)
theorem rsplit (r : Rat) : r * (r.den : Rat) = (r.num : Rat) := by
  have h := Rat.mkRat_self r
  rw [Rat.mkRat_eq_div] at h
  have d := rdenQ r
  generalize (r.num : Rat) = x at *
  generalize (r.den : Rat) = y at *
  grind
theorem castlt {a b : Int} : ((a : Rat) < (b : Rat)) ↔ a < b := Rat.intCast_lt_intCast
theorem r_under (r s : Rat) : r.num * (s.den : Int) < s.num * (r.den : Int) ↔ r < s := by
  have a := rsplit r; have b := rsplit s
  have dr : (0 : Rat) < (r.den : Rat) := by exact_mod_cast (show 0 < r.den by have := r.den_nz; omega)
  have ds : (0 : Rat) < (s.den : Rat) := by exact_mod_cast (show 0 < s.den by have := s.den_nz; omega)
  have p := Rat.mul_pos dr ds
  rw [← castlt]; push_cast; rw [← a, ← b]
  constructor
  · intro h
    have := pos_of p (x := s - r) (by grind); grind
  · intro h
    have := Rat.mul_pos p (show 0 < s - r by grind); grind
theorem r_nonneg (r : Rat) : 0 ≤ r.num ↔ 0 ≤ r := Rat.num_nonneg
theorem r_le1 (r : Rat) : r.num ≤ (r.den : Int) ↔ r ≤ 1 := by
  have := r_under 1 r
  have e1 : (1 : Rat).num = 1 := rfl
  have e2 : ((1 : Rat).den : Int) = 1 := rfl
  rw [e1, e2] at this
  constructor
  · intro h
    by_cases c : 1 < r
    · exact absurd (this.mpr c) (by omega)
    · grind
  · intro h
    by_cases c : 1 * (r.den : Int) < r.num * 1
    · have := this.mp c; grind
    · omega
noncomputable def Ov (B : Nat) (r : Rat) : Prop := ∃ m : Int, r * (B : Rat) = (m : Rat)
theorem Ov.dvd {B : Nat} {r : Rat} (h : Ov B r) : r.den ∣ B := by
  obtain ⟨m, hm⟩ := h
  have s := rsplit r
  have : ((r.num * (B : Int) : Int) : Rat) = ((m * (r.den : Int) : Int) : Rat) := by push_cast; rw [← hm, ← s]; grind
  have e : r.num * (B : Int) = m * (r.den : Int) := by exact_mod_cast this
  have d : (r.den : Int) ∣ (B : Int) := dvd_cop (k := (r.den : Int)) (m := r.num) ⟨m, by rw [e]; exact Int.mul_comm _ _⟩ (by rw [Int.gcd_comm]; exact rgcd r)
  exact_mod_cast d
theorem Ov.self (r : Rat) : Ov r.den r := ⟨r.num, rsplit r⟩
theorem Ov.add {B : Nat} {r s : Rat} (h : Ov B r) (k : Ov B s) : Ov B (r + s) := by
  obtain ⟨a, ha⟩ := h; obtain ⟨b, hb⟩ := k
  exact ⟨a + b, by push_cast; rw [← ha, ← hb]; grind⟩
theorem Ov.sub {B : Nat} {r s : Rat} (h : Ov B r) (k : Ov B s) : Ov B (r - s) := by
  obtain ⟨a, ha⟩ := h; obtain ⟨b, hb⟩ := k
  exact ⟨a - b, by push_cast; rw [← ha, ← hb]; grind⟩
theorem Ov.up {A B : Nat} {r : Rat} (h : Ov A r) (k : A ∣ B) : Ov B r := by
  obtain ⟨c, rfl⟩ := k
  obtain ⟨a, ha⟩ := h
  exact ⟨a * c, by push_cast; rw [← ha]; grind⟩
theorem Ov.one (B : Nat) : Ov B 1 := ⟨(B : Int), by push_cast; grind⟩
structure RSz (n : Nat) (r : Rat) : Prop where
  t : Sz n r.num
  b : Sz n (r.den : Int)
theorem RSz.of {n B : Nat} {r : Rat} (h : Ov B r) (hB : 0 < B) (hn : B < 2 ^ n) (h0 : 0 ≤ r) (h1 : r ≤ 1) : RSz n r := by
  have a := (r_nonneg r).mpr h0
  have b := (r_le1 r).mpr h1
  have c := Nat.le_of_dvd hB h.dvd
  constructor <;> (unfold Sz; omega)
end Gc
namespace Gc
open Ch
end Gc
namespace Gc
open Ch
end Gc
namespace Gc
noncomputable abbrev Up (l : List Rat) : Prop := l.Pairwise (· ≤ ·)
theorem Up.at {l : List Rat} (h : Up l) {i j : Nat} {x y : Rat} (hij : i ≤ j) (ex : l[i]? = some x) (ey : l[j]? = some y) : x ≤ y := by
  by_cases e : i = j
  · subst e; rw [ex] at ey; cases ey; exact Rat.le_refl
  · obtain ⟨hi, rfl⟩ := List.getElem?_eq_some_iff.mp ex
    obtain ⟨hj, rfl⟩ := List.getElem?_eq_some_iff.mp ey
    exact List.pairwise_iff_getElem.mp h i j hi hj (by omega)
end Gc
namespace Gc
end Gc
namespace Gc
end Gc
namespace Gc
end Gc
set_option maxHeartbeats 4000000
namespace L2
open PySem PySem.Spec PyProof.Rows PySem.W Gc
theorem comp_listRG {K : PySem.W.Frag} {a : Addr} {xs : List V} {te : TE} {st : St} {H1 : Hp} {Q : VK} {D : Addr} (R : Nat → List V → Hp → Prop) (hD : H1 D = none) (q1 : SqL K H1 a xs) (hn : xs.length ≤ sizeLine) (h0 : R 0 [] (upd H1 D (.lst [])))
    (hs : ∀ (i : Nat) (x : V) (ys : List V) (H2 : Hp) (k : VK), xs[i]? = some x → Same H1 H2 → H2 D = some (.lst ys) → ys.length = i → R i ys H2 → (∀ y H4, Same H2 H4 → R (i + 1) (ys ++ [y]) (upd H4 D (.lst (ys ++ [y]))) → k y H4) → te (some x :: st) H2 k)
    (hd : ∀ ys H2, Same H1 H2 → H2 D = some (.lst ys) → ys.length = xs.length → R xs.length ys H2 → Q (.ref D) H2) : CompG (Itl K a) (gName 0) tYes te 1 st D H1 Q := by
  refine ⟨fun i m ys H2 => m = xs.length - i ∧ i ≤ xs.length ∧ ys.length = i ∧ Same H1 H2 ∧ H2 D = some (.lst ys) ∧ R i ys H2, ⟨xs.length, by simp, Nat.zero_le _, rfl, same_upd (Same.refl H1) hD, upd_same, h0⟩, ?_⟩
  rintro i m ys H2 ⟨rfl, hi, hl, sm, e, r⟩
  by_cases hlt : i < xs.length
  · have ex : xs[i]? = some xs[i] := List.getElem?_eq_getElem hlt
    refine .inr ⟨⟨xs, _, sm.seq q1, ex⟩, ?_⟩
    rintro x H3 σ0 ⟨rfl, hx⟩ l0
    have hx' := hx xs (sm.seq q1)
    obtain ⟨a', rfl⟩ : ∃ a, σ0 = [a] := by
      match σ0, l0 with
      | [a], _ => exact ⟨a, rfl⟩
    refine ⟨⟨[some x], rfl, rfl⟩, ?_⟩
    exact hs i x ys _ _ hx' sm e hl r fun y H4 s4 r4 => ⟨s4 _ _ e, by omega, xs.length - (i + 1), by omega, rfl, hlt, by simp [hl], same_upd (sm.trans s4) hD, upd_same, r4⟩
  · have ei : i = xs.length := by omega
    subst ei
    exact .inl ⟨⟨xs, sm.seq q1, Nat.le_refl _⟩, hd ys H2 sm e hl r⟩
end L2
namespace L2
open PySem PySem.Spec PyProof.Rows PySem.W Gc
end L2
set_option maxHeartbeats 4000000
namespace L2
open PySem PySem.Spec PyProof.Rows PySem.W Gc
theorem ints_of : ∀ {ns : List Int} {us : List Value}, Vals (ns.map V.int) us → IntsAre us ns
  | [], us, r => by cases r; exact .nil
  | n :: ns, us, r => by
    cases r with
    | cons r1 r2 =>
      obtain ⟨t, rfl⟩ := r1
      exact .cons n t (ints_of r2)
theorem ints_to : ∀ {ns : List Int} {us : List Value}, IntsAre us ns → Vals (ns.map V.int) us
  | _, _, .nil => .nil
  | _, _, .cons n t r => .cons ⟨t, rfl⟩ (ints_to r)
theorem call_sortedI {X : Cx} : CallR X (.builtin "sorted") (fun xs H Q => ∃ (p : Addr) (ns : List Int), xs = [.ref p] ∧ SqL X.K H p (ns.map V.int) ∧ ns.length < 64 ∧
    ∀ (D : Addr) (ms : List Int), H D = none → ms.Perm ns → ms.Pairwise (· ≤ ·) → Q (.ref D) (upd H D (.lst (ms.map V.int)))) := by
  intro pins s σ H xs us Q I r h
  obtain ⟨p, ns, rfl, hq, h64, q⟩ := h
  obtain ⟨u, rfl, rx⟩ := vals1 r
  cases rx
  obtain ⟨its, rv, pl, hz⟩ := I.list hq
  have li : its.length = ns.length := by rw [← rv.length, List.length_map]
  refine sorted_ints pl.isList (ints_of rv) (by omega) fun out ms a1 a2 a3 => ?_
  obtain ⟨e, he⟩ := sortedAll_at s.heap its out
  have hD : H (s.heap.objs.size + 1) = none := I.hok.fresh (Nat.le_succ _)
  refine ⟨.ref (s.heap.objs.size + 1), _, I.laid (t' := s.toks) (fun _ _ => sortedAll_old) (Nat.le_succ _) (show ObjOk X.prog X.w _ _ _ (.lst (ms.map V.int)) from ⟨?_, out.toList, e, ints_to a1, ?_⟩), rfl, q _ ms hD a2 a3⟩
  · rw [List.length_map, a2.length_eq, sizeLine_eq]; omega
  · exact he
section
variable {prog : Program} {w : World} {A : Around} {E : Value → Shared → Prop} {s : Shared}
end
section
variable {X : Cx} {a b c d : Expr} {ta tb tc td : TE} {pos : Pos}
end
end L2
set_option maxHeartbeats 4000000
namespace L2
open PySem PySem.Spec PyProof.Rows PySem.W Gc
section
variable {X : Cx}
end
end L2
set_option maxHeartbeats 4000000
namespace L2
open PySem PySem.Spec PyProof.Rows PySem.W Gc
section
end
section
variable {prog : Program} {w : World} {A : Around} {E : Value → Shared → Prop} {s : Shared}
end
section
variable {prog : Program} {w : World} {A : Around} {E : Value → Shared → Prop} {s : Shared}
end
end L2
set_option maxHeartbeats 4000000
namespace L2
open PySem PySem.Spec PyProof.Rows
theorem compLoop_ifsX {prog : Program} {w : World} {A : Around} {R : Result → Shared → Prop} {s : Shared} {elt tg iter : Expr} {ifs : List Expr} {scope : Scope} {pos : Pos} {it acc : Value} {env : Env} (Iv : Nat → Shared → Prop)
    (turn : ∀ k s, Iv k s → wpAny (model prog w) A (pyNext it) (fun r s1 => match r with
      | none => R (.ok .next) s1
      | some v => wpAny (model prog w) A (letOwnedTupleGo tg it v) (fun _ s2 => wpAny (model prog w) A (assign tg env v) (fun _ s3 => wpAny (model prog w) A (testsOf ifs env) (fun b s4 => if b = true then
          wpAny (model prog w) A (eval elt env) (fun y s5 => wpAny (model prog w) A (call (.builtin "list.append") [acc, y]) (fun _ s6 => ∃ m, m < k ∧ Iv m s6) (fun _ _ => False) s5) (notedBy (model prog w) A env fun e s' => R (.error e) s') s4
          else ∃ m, m < k ∧ Iv m s4) (fun _ _ => False) s3) (fun _ _ => False) s2) (fun _ _ => False) s1) (fun _ _ => False) s)
    (k : Nat) (h : Iv k s) : codeAny (model prog w) A (.compLoop (.ListComp elt [⟨tg, iter, ifs, 0⟩] scope pos) 0 it acc env) R s := by
  refine codeAny_loop rfl Iv (fun k s hI => ?_) k h
  show wpAny _ _ ((compTurn (.ListComp elt [⟨tg, iter, ifs, 0⟩] scope pos) 0 it acc env).onRaise (fun e => do noteFrame e env; theTreesLotGoes e)) _ _ s
  refine wpAny_noted ?_
  rw [compTurn_ifs]
  refine wpAny_bind (wpAny_standAt (wpAny_bind (wpAny_mono (turn k s hI) (fun r s1 h1 => ?_) fun _ _ f => f.elim)))
  cases r with
  | none => exact wpAny_pure h1
  | some v =>
    refine wpAny_bind (wpAny_mono h1 (fun _ s2 h2 => wpAny_bind (wpAny_mono h2 (fun _ s3 h3 => wpAny_bind (wpAny_mono h3 (fun b s4 h4 => ?_) fun _ _ f => f.elim)) fun _ _ f => f.elim)) fun _ _ f => f.elim)
    cases b with
    | true =>
      rw [if_pos rfl] at h4 ⊢
      exact wpAny_bind (wpAny_mono h4 (fun y s5 h5 => wpAny_bind (wpAny_mono h5 (fun _ s6 h6 => wpAny_pure ⟨rfl, h6⟩) fun _ _ f => f.elim)) fun _ _ f => f)
    | false =>
      rw [if_neg Bool.false_ne_true] at h4 ⊢
      exact wpAny_pure ⟨rfl, h4⟩
noncomputable def postX (M : Model) (A : Around) (E : Value → Shared → Prop) (Q : Value → Shared → Prop) (acc : Value) (cenv : Env) : Result → Shared → Prop
  | .ok _, s' => ∃ m, s'.heap.Ns cenv.locals m ∧ ∀ h', Heap.SameBut cenv.locals s'.heap h' → Q acc { s' with heap := h' }
  | .error x, s' => ∃ m, s'.heap.Ns cenv.locals m ∧ ∀ h', Heap.SameBut cenv.locals s'.heap h' → wpAny M A (passOn "comprehension.variables-let-go" x cenv : Sem Value) (fun _ _ => False) E { s' with heap := h' }
theorem comp_freeX {M : Model} {A : Around} {E : Value → Shared → Prop} {s : Shared} {env : Env} {e : Expr} {scope : Scope} {pos : Pos} {newAcc first : Sem Value} {g : Comprehension} {gs : List Comprehension} {cl : List (Str × Addr)} {Q : Value → Shared → Prop}
    (hcl : clausesOf e = g :: gs) (hs : ∀ x, foldedSetIterable g.iter env x = pure x) (hclos : closureFor scope env = pure cl)
    (hkind : scope.kind = .function) (hnames : ∀ x ∈ scope.names, x.2 = .local → scope.names.lookup x.1 = some .local)
    (h : wpAny M A first (fun x s₁ => wpAny M A (pyIter x) (fun it s₂ => wpAny M A newAcc (fun acc s₃ =>
      wpAny M A (newFunctionEnv scope env.globals cl [] env.qual none .none (some env)) (fun cenv s₄ =>
        codeAny M A (.compStart e 0 it acc { cenv with scope := relabel scope env }) (postX M A E Q acc { cenv with scope := relabel scope env }) s₄) E s₃) E s₂) E s₁) E s) :
    wpAny M A (comprehension e scope env pos newAcc false first none) Q E s := by
  unfold comprehension
  rw [hclos, hcl]
  have same : ∀ {α : Type} {m : Sem α} {P P' : α → Shared → Prop} {t : Shared}, wpAny M A m P E t → (∀ a t', P a t' → P' a t') → wpAny M A m P' E t := fun h1 h2 => wpAny_mono h1 h2 fun _ _ y => y
  refine wpAny_bind (same h fun x s₁ h₁ => wpAny_bind (wpAny_standAt (wpAny_bind (wpAny_of_eq (hs x) (wpAny_bind (wpAny_holding (same h₁ fun it s₂ h₂ =>
    wpAny_standIf (wpAny_bind (same h₂ fun acc s₃ h₃ => wpAny_bind (wpAny_pure (wpAny_bind (same h₃ fun cenv s₄ h₄ => ?_))))))))))))
  dsimp only
  have hv : ∀ x ∈ (scope.names.filter fun x => (x.2 == .local || x.2 == .cell) && x.1 != (".0" : Str)).reverse, x.2 = .local →
      Env.kindOf { cenv with scope := relabel scope env } x.1 = some .local := fun x hx hl => lookup_relabel_local (hnames x (List.mem_filter.mp (List.mem_reverse.mp hx)).1 hl)
  refine wpAny_holding (wpAny_bind (wpAny_attempt (wpAny_holding (wpAny_run (codeAny_mono h₄ fun r s' hr => ?_)))))
  cases r with
  | ok f =>
    obtain ⟨m, hn, hr⟩ := hr
    exact wpAny_bind (wpAny_holding (wpAny_comp_letGo (cenv := { cenv with scope := relabel scope env }) hkind _ s' m hv hn fun h' _ _ z => wpAny_pure (hr h' z)))
  | error x =>
    obtain ⟨m, hn, hr⟩ := hr
    exact wpAny_bind (wpAny_holding (wpAny_comp_letGo (cenv := { cenv with scope := relabel scope env }) hkind _ s' m hv hn fun h' _ _ z => wpAny_mono (hr h' z) (fun _ _ f => f.elim) fun _ _ y => y))
section
variable {M : Model} {A : Around} {E : Value → Shared → Prop} {s : Shared} {B : Heap} {l : List Env} {e L : Addr} {cls a0 : Value}
theorem setFlight_held {Q : Unit → Shared → Prop} (x : Heap.HeldW B l e cls a0 L s.heap) (h : ∀ h', Heap.HeldW B l e cls a0 L h' → s.heap.UpToSlots h' → Q () { s with heap := h' }) :
    wpAny M A (setFlight (.ref e) (some L)) Q E s := by
  obtain ⟨st, en, ff, oe, vs, T, oT, ts, he, hc, hd, h1, nT, Te, hT, hdT, h3⟩ := x
  have sz := (Array.getElem?_eq_some_iff.mp h3).1
  have oth : ∀ b, b ≠ T → (s.heap.update T (Obj.mapFields (·.setIfInBounds 3 ((some L).elim Value.none fun f => rawInt f)))).get? b = s.heap.get? b := fun b hb => Heap.get?_update_other _ _ (Ne.symm hb)
  have nr : ∀ b o, s.heap.get? b = some o → (∀ vs, o.data ≠ .fields vs) → b ≠ T := fun b o hb hnf q => by
    rw [q, hT] at hb; cases hb; exact hnf ts hdT
  unfold setFlight
  refine wpAny_bind (wpAny_field he hd h1 ?_)
  rw [if_pos (show (Value.ref T != Value.none) = true from by simp)]
  refine wpAny_setField hT hdT sz (h _ ⟨fun b o z => (oth b fun q => by rw [q, nT] at z; cases z).trans (st b o z), en, ff.of_keeps fun b o hb hnf => ⟨o, (oth b (nr b o hb hnf)).trans hb, rfl⟩, ?_⟩ fun b o hb hnf => ⟨o.slots, (oth b (nr b o hb hnf)).trans hb⟩)
  exact ⟨oe, vs, T, _, _, (oth e (Ne.symm Te)).trans he, hc, hd, h1, nT, Te, Heap.get?_update_self _ hT (Obj.isFreed_of_fields (Obj.data_mapFields hdT _)), Obj.data_mapFields hdT _, by simp [sz]⟩
theorem pass_held {α : Type} {what : String} {cenv : Env} {Q : α → Shared → Prop} (hf : cenv.frame = some L) (x : Heap.HeldW B l e cls a0 L s.heap) (h : ∀ h', Heap.HeldW B l e cls a0 L h' → s.heap.UpToSlots h' → E (.ref e) { s with heap := h' }) :
    wpAny M A (passOn what (.ref e) cenv : Sem α) Q E s := by
  have y := x
  obtain ⟨st, en, ff, oe, vs, T, oT, ts, he, hc, hd, h1, nT, Te, hT, hdT, h3⟩ := y
  unfold PySem.passOn
  refine wpAny_bind (wpAny_field he hd h1 ?_)
  rw [if_neg (show ¬ ((Value.ref T == Value.none) = true) from by simp), hf]
  exact wpAny_bind (setFlight_held x fun h' y up => wpAny_throw (h h' y up))
theorem leave_held {env : Env} {outer : List Env} {Q : Unit → Shared → Prop} (hf : env.frame = some L) (x : Heap.HeldW B (env :: outer) e cls a0 L s.heap)
    (h : ∀ h', Heap.FlyingW B outer e cls a0 h' → s.heap.UpToSlots h' → Q () { s with heap := h' }) : wpAny M A (leaving env (.ref e)) Q E s := by
  unfold leaving
  refine wpAny_bind (wpAny_noteFrame_againW hf x.2.2.2 (wpAny_landsW x fun h' fl up => ?_))
  obtain ⟨k1, k2, ⟨_, _, k3⟩, k4⟩ := fl
  exact h h' ⟨k1, k2, k3, k4⟩ up
end
theorem funFrames_but {h h' B : Heap} {C : Addr} (k : Heap.SameBut C h h') : ∀ {l : List Env}, C ∉ frs l → h.FunFrames B l → h'.FunFrames B l
  | [], _, _ => trivial
  | env :: l, hC, ⟨hk, ⟨L, o, hf, hn, ho, hd⟩, hr⟩ => by
    have e1 : frs (env :: l) = L :: frs l := by unfold frs; rw [List.filterMap_cons, hf]
    rw [e1] at hC
    exact ⟨hk, ⟨L, o, hf, hn, (k.2 L fun z => hC (by simp [z])).trans ho, hd⟩, funFrames_but k (fun z => hC (by simp [z])) hr⟩
theorem held_but {h h' B : Heap} {C e L : Addr} {l : List Env} {cls a0 : Value} {m : Str → Option Value} (k : Heap.SameBut C h h') (hC : C ∉ frs l) (hn : h.Ns C m) (x : Heap.HeldW B l e cls a0 L h) :
    Heap.HeldW (PySem.W.hideAll B [C]) l e cls a0 L h' := by
  have x' := PySem.W.heldW_base (base := PySem.W.hideAll B [C]) (fun b o q => PySem.W.of_hideAll _ q) x
  obtain ⟨st, en, ff, oe, vs, T, oT, ts, he, hc, hd, h1, nT, Te, hT, hdT, h3⟩ := x'
  obtain ⟨o, es, ep, ho, od, _⟩ := hn
  have nC : ∀ b u ws, h.get? b = some u → u.data = .fields ws → b ≠ C := fun b u ws q d z => by
    rw [z, ho] at q; cases q; rw [od] at d; cases d
  refine ⟨fun b u q => (k.2 b fun z => ?_).trans (st b u q), en, funFrames_but k hC ff, oe, vs, T, oT, ts, (k.2 e (nC e oe vs he hd)).trans he, hc, hd, h1, nT, Te, (k.2 T (nC T oT ts hT hdT)).trans hT, hdT, h3⟩
  rw [z, PySem.W.hideAll_none [C] (by simp)] at q
  cases q
section
variable {X : Cx} {E : XK} {N' : List Str} {scope : Scope} {cl : List (Str × Addr)} {pins0 : List (Addr × Obj)} {σ0 : St} {H3 : Hp} {s3 : Shared} {fp : List Addr} {Q : Value → Shared → Prop} {acc : Value}
theorem comp_pass (dx : DefCx X) (hxe : ∀ e s', wpAny (model X.prog X.w) X.A (leaving X.env e) (fun _ s2 => CXX X.prog X.w X.outer X.H₀ X.s₀ E e s2) (fun e' s2 => CXX X.prog X.w X.outer X.H₀ X.s₀ E e' s2) s' → X.xe e s')
    (I3 : Inv X pins0 σ0 H3 s3) (hfp : ∀ b ∈ fp, FpOk X pins0 H3 b) {C : Addr} (hC : C = s3.heap.objs.size) :
    Passes (CXX X.prog X.w) ((cxComp X N' scope cl C s3 H3 fp).wish (notedBy (model X.prog X.w) X.A (compEnvC scope cl C X.env) fun e s' => postX (model X.prog X.w) X.A X.xe Q acc (compEnvC scope cl C X.env) (.error e) s')) E := by
  intro pins σ H s e s' I h
  obtain ⟨a, cls, H', rfl, os, bare, un, hok, ⟨B, t, fw, ne, hn, kB⟩, q⟩ := h
  have fl : X.env.frame = some X.env.locals := dx.fr
  have nofp : ∀ b o, X.s₀.heap.get? b = some o → b ∉ fp := fun b o e1 z => by
    rcases (hfp b z).2.2.2.1 with y | y
    · rw [dx.ex] at y; cases y
    · exact absurd (Nat.lt_of_lt_of_le (Heap.lt_size e1) y) (Nat.lt_irrefl _)
  have thr : ∀ b o, X.s₀.heap.get? b = some o → ∃ o', s.heap.get? b = some o' := fun b o e1 => by
    obtain ⟨o1, e2⟩ := I3.base.there b o e1 (by rw [dx.ex]; simp)
    exact I.base.there b o1 e2 (nofp b o e1)
  have I1 : Inv ((cxComp X N' scope cl C s3 H3 fp).wish (notedBy (model X.prog X.w) X.A (compEnvC scope cl C X.env) fun e s' => postX (model X.prog X.w) X.A X.xe Q acc (compEnvC scope cl C X.env) (.error e) s')) pins σ H' s' :=
    I.call' (ch := []) os un hok bare (fun b z => absurd z (by simp))
  have sf : ∀ b ∈ frs X.stack, H' b = none := I1.stkFree
  have fw' : Heap.FlyingW B (X.env :: X.outer) a cls (.ref t) s'.heap := by rw [← dx.st]; exact fw
  show wpAny (model X.prog X.w) X.A (noteFrame (.ref a) X.env) _ _ s'
  refine wpAny_looks_onW (L := X.env.locals) (by rw [I3.ok.frames, dx.st]) fl fw' fun h1 hw up => ?_
  have hw' : Heap.HeldW B X.stack a cls (.ref t) X.env.locals h1 := by rw [dx.st]; exact hw
  obtain ⟨un1, hok1⟩ := fly_keeps (h5 := h1) un hok kB fw.2.2.1 (fun b hb => hb) (fun b hb hb' => absurd hb hb') sf hw.1 up
  have I2 : Inv ((cxComp X N' scope cl C s3 H3 fp).wish (notedBy (model X.prog X.w) X.A (compEnvC scope cl C X.env) fun e s' => postX (model X.prog X.w) X.A X.xe Q acc (compEnvC scope cl C X.env) (.error e) s')) pins σ H' { s' with heap := h1 } :=
    I.call' (s' := { s' with heap := h1 }) (ch := []) os un1 hok1 bare (fun b z => absurd z (by simp))
  obtain ⟨m, ns, _⟩ := id I2.loc
  have ns' : h1.Ns C m := ns
  have u2 : Un (frs X.stack) fp H3 H' s3.heap h1 := I2.base
  have fC : H' C = none := I2.free
  have I4 : Inv X pins0 σ0 H' { s' with heap := h1 } := I3.call' (s' := { s' with heap := h1 }) (ch := fp) I2.os u2 I2.hok I2.bare (fun b hb => ⟨(hfp b hb).2.2.2.1, (hfp b hb).2.1, (hfp b hb).2.2.2.2.1, (hfp b hb).2.2.2.2.2⟩)
  have okC : FpOk X pins0 H' C := I3.fpOk (Nat.le_of_eq hC.symm) fC
  have nC : C ∉ frs X.stack := fun z => by
    rcases List.mem_cons.mp (I4.stkSub C z) with y | y
    · exact okC.2.1 y
    · exact okC.2.2.1 y
  refine ⟨m, ns', fun h2 sb => ?_⟩
  have I5 : Inv X pins0 σ0 H' { s' with heap := h2 } := Inv.turned (s := { s' with heap := h1 }) (it := C) (t' := s'.toks) I4 (fun b o hb e => (sb.2 b hb).trans e) okC.1 okC.2.1 okC.2.2.2.1 okC.2.2.2.2.1 okC.2.2.2.2.2
  refine pass_held (L := X.env.locals) fl (held_but sb nC ns' hw') fun h3 hw3 up3 => hxe _ _ ?_
  have hw3' : Heap.HeldW (PySem.W.hideAll B [C]) (X.env :: X.outer) a cls (.ref t) X.env.locals h3 := by rw [← dx.st]; exact hw3
  refine leave_held (s := { s' with heap := h3 }) fl hw3' fun h4 fw4 up4 => ?_
  have n1 : X.s₀.heap.get? a = none := by
    cases z : X.s₀.heap.get? a with
    | none => rfl
    | some o =>
      obtain ⟨o', y⟩ := thr a o z
      rw [ne] at y; cases y
  refine fly_out (s := { s' with heap := h2 }) dx I5 (fun b o e1 hz hb => ?_) fw4 (up3.trans up4) n1 hn q
  have bC : b ≠ C := fun z => by
    subst z
    rcases hz with ⟨o', y⟩ | ⟨u, y⟩
    · rcases okC.2.2.2.1 with w | w
      · rw [dx.ex] at w; cases w
      · exact absurd (Nat.lt_of_lt_of_le (Heap.lt_size y) w) (Nat.lt_irrefl _)
    · rw [fC] at y; cases y
  have e2 : h1.get? b = some o := (sb.2 b bC).symm.trans e1
  have hz' : (∃ o', s.heap.get? b = some o') ∨ ∃ u, H' b = some u := hz.imp (fun ⟨o', y⟩ => thr b o' y) id
  have th : ∃ o2, s'.heap.get? b = some o2 := by
    rcases hz' with ⟨o', y⟩ | ⟨u, y⟩
    · exact un.there b o' y (by simp)
    · exact (hok b u y).there
  obtain ⟨o2, e3⟩ := th
  have e4 := kB b o2 e3 hz' hb
  have e5 := hw.1 b o2 e4
  rw [e2] at e5
  cases e5
  exact PySem.W.hideAll_get [C] e4 (by simpa using bC)
end
section
variable {X : Cx} {E : XK} {elt iter tg : Expr} {ifs : List Expr} {xs : List Str} {pos : Pos} {scope : Scope} {cl : List (Str × Addr)} {ts : List (Str × Nat)} {wi : TI} {te : TE} {g : TG} {tt : TT}
theorem pe_compX (dx : DefCx X) (hxe : ∀ e s', wpAny (model X.prog X.w) X.A (leaving X.env e) (fun _ s2 => CXX X.prog X.w X.outer X.H₀ X.s₀ E e s2) (fun e' s2 => CXX X.prog X.w X.outer X.H₀ X.s₀ E e' s2) s' → X.xe e s')
    (hc : X.calm = true) (O : CompOkL X xs ts scope cl) (hi : PI X tg iter wi) (hg : ∀ C s3 H3 fp, PG (cxComp X (nmsL xs ts) scope cl C s3 H3 fp) tg g)
    (ht : ∀ C s3 H3 fp, PIf (cxComp X (nmsL xs ts) scope cl C s3 H3 fp) ifs tt)
    (he : ∀ C s3 H3 fp xe, Passes (CXX X.prog X.w) ((cxComp X (nmsL xs ts) scope cl C s3 H3 fp).wish xe) E → PE ((cxComp X (nmsL xs ts) scope cl C s3 H3 fp).wish xe) elt te)
    (hs : ∀ x, foldedSetIterable iter X.env x = pure x := by intro _; rfl) : PE X (.ListComp elt [⟨tg, iter, ifs, 0⟩] scope pos) (tCompG wi g tt xs.length (sltOf ts) te) := by
  intro pins s σ H Q I h
  rw [eval_ListComp]
  refine comp_freeX rfl hs O.clos O.kind O.locs' (thn (hi pins s σ H _ I h) fun v s1 h1 => thn h1 fun itv s2 h2 => ?_)
  obtain ⟨it, fp, tn, J, H2, rfl, I2, T, st2, f2, q⟩ := h2
  have hD : H2 s2.heap.objs.size = none := I2.hok.fresh (Nat.le_refl _)
  obtain ⟨W, ⟨m0, w0⟩, turn⟩ := q s2.heap.objs.size hD
  refine wpAny_newObj_type ?_
  have I3 : Inv X pins σ (upd H2 s2.heap.objs.size (.lst [])) { s2 with heap := s2.heap.push { cls := .type "list", dict := none, data := .seq ([] : List Value).toArray } } :=
    I2.laid (a := s2.heap.objs.size) (o := .lst []) (t' := s2.toks) (fun b u e => Heap.get?_push_of_some _ e) (Nat.le_refl _) ⟨Nat.zero_le _, [], 0, .nil, Heap.get?_push_size _ rfl⟩
  generalize hs3 : ({ s2 with heap := s2.heap.push { cls := .type "list", dict := none, data := .seq ([] : List Value).toArray } } : Shared) = s3 at I3
  have sz3 : s3.heap.objs.size = s2.heap.objs.size + 1 := by rw [← hs3, Heap.size_push]
  have old3 : ∀ b u, s2.heap.get? b = some u → s3.heap.get? b = some u := fun b u e => by rw [← hs3]; exact Heap.get?_push_of_some _ e
  generalize hH3 : upd H2 s2.heap.objs.size (.lst []) = H3 at I3 w0
  have fp2 : ∀ b ∈ fp, b < s2.heap.objs.size := fun b hb => by
    obtain ⟨o, e, _⟩ := T.obj _ _ st2 b hb
    exact Heap.lt_size e
  have hfp : ∀ b ∈ fp, FpOk X pins H3 b ∧ b < s3.heap.objs.size := fun b hb => by
    refine ⟨⟨?_, (f2 b hb).2⟩, by rw [sz3]; exact Nat.lt_succ_of_lt (fp2 b hb)⟩
    rw [← hH3, upd_ne (Nat.ne_of_lt (fp2 b hb))]
    exact (f2 b hb).1
  refine wpAny_newFunctionEnv O.nocell' (by intro y hy; simp at hy) (fun h₁ hns₁ hsb₁ => ?_) O.kind
  have old : ∀ b o, s3.heap.get? b = some o → h₁.get? b = some o := fun b o e => hsb₁.extBut b o (Nat.ne_of_lt (Heap.lt_size e)) (Heap.get?_push_of_some _ e)
  have start : Inv (cxComp X (nmsL xs ts) scope cl s3.heap.objs.size s3 H3 fp) [] (List.replicate xs.length none ++ taken σ (sltOf ts)) H3 { s3 with heap := h₁, toks := s3.toks + 0 } := compL_start O I3 hfp hns₁ old
  have st4 : tn 0 h₁ := T.keep _ _ _ st2 fun b hb o e => old b o (old3 b o e)
  have okX : ∀ {H' : Hp}, (∀ b ∈ fp, H' b = none) → ∀ b ∈ fp, FpOk (cxComp X (nmsL xs ts) scope cl s3.heap.objs.size s3 H3 fp) [] H' b := fun hn b hb => by
    refine ⟨hn b hb, Nat.ne_of_lt (hfp b hb).2, fun z => ?_, .inl hb, fun y c e => (f2 b hb).2.2.2.2.1 y c (O.sub y c e), fun p hp => absurd (show p ∈ ([] : List (Addr × Obj)) from hp) (by simp)⟩
    rcases List.mem_cons.mp (I3.stkSub b z) with e | e
    · exact (f2 b hb).2.1 e
    · exact (f2 b hb).2.2.1 e
  have loop : ∀ s₄ : Shared, s₄ = { s3 with heap := h₁, toks := s3.toks + 0 } →
      codeAny (model X.prog X.w) X.A (.compLoop (.ListComp elt [⟨tg, iter, ifs, 0⟩] scope pos) 0 (.ref it) (.ref s2.heap.objs.size) (compEnvC scope cl s3.heap.objs.size X.env))
        (postX (model X.prog X.w) X.A X.xe (EP X pins σ Q) (.ref s2.heap.objs.size) (compEnvC scope cl s3.heap.objs.size X.env)) s₄ := by
    rintro s₄ rfl
    refine compLoop_ifsX (fun n s' => ∃ i ys σ0 H', σ0.length = xs.length ∧ Inv (cxComp X (nmsL xs ts) scope cl s3.heap.objs.size s3 H3 fp) [] (σ0 ++ taken σ (sltOf ts)) H' s' ∧ tn i s'.heap ∧ (∀ b ∈ fp, H' b = none) ∧ W i n ys H') ?_ m0
      ⟨0, [], _, H3, by simp, start, st4, fun b hb => (hfp b hb).1.1, w0⟩
    rintro n s5 ⟨i, ys, σ0, H5, l0, I5, st5, fr5, w5⟩
    rcases turn i n ys H5 w5 with ⟨stop, qn⟩ | ⟨go, step⟩
    · refine thn (T.done (cxComp X (nmsL xs ts) scope cl s3.heap.objs.size s3 H3 fp) rfl rfl rfl hc i [] s5 (σ0 ++ taken σ (sltOf ts)) H5 _ I5 (okX fr5) st5 stop) fun r s6 ⟨hr, I6⟩ => ?_
      subst hr
      obtain ⟨m, hn, _⟩ := id I6.loc
      have u6 : Un (frs X.stack) fp H3 H5 s3.heap s6.heap := I6.base
      have fC : H5 s3.heap.objs.size = none := I6.free
      have J6 : Inv X pins σ H5 s6 := I3.call' (s' := s6) (ch := fp) I6.os u6 I6.hok I6.bare (fun b hb => ⟨(f2 b hb).2.2.2.1, (f2 b hb).2.1, (f2 b hb).2.2.2.2.1, (f2 b hb).2.2.2.2.2⟩)
      have oC : FpOk X pins H5 s3.heap.objs.size := I3.fpOk (Nat.le_refl _) fC
      exact ⟨m, hn, fun h' sb => ⟨.ref s2.heap.objs.size, H5, J6.turned (it := s3.heap.objs.size) (t' := s6.toks) (fun b o hb e => (sb.2 b hb).trans e) oC.1 oC.2.1 oC.2.2.2.1 oC.2.2.2.2.1 oC.2.2.2.2.2, rfl, qn⟩⟩
    · refine thn (T.item (cxComp X (nmsL xs ts) scope cl s3.heap.objs.size s3 H3 fp) rfl rfl rfl hc i [] s5 (σ0 ++ taken σ (sltOf ts)) H5 _ I5 (okX fr5) st5 go) fun r s6 ⟨u, hr, h6⟩ => ?_
      subst hr
      refine thn h6 fun _ s7 ⟨z, H7, I7, rz, yz, st7, fr7⟩ => ?_
      have I7' := I7.pinned (okX fr7) (T.obj _ _ st7)
      refine thn (hg s3.heap.objs.size s3 H3 fp _ s7 _ H7 z u _ I7' rz (step z H7 σ0 yz l0)) fun _ s8 ⟨σ8, H8, I8, ⟨σ1, l1, e8⟩, q8⟩ => ?_
      subst e8
      refine thn (ht s3.heap.objs.size s3 H3 fp _ s8 _ H8 _ I8 q8) fun b s9 ⟨H9, I9, q9⟩ => ?_
      cases b with
      | true =>
        rw [if_pos rfl] at q9 ⊢
        have hx := comp_pass (E := E) (N' := nmsL xs ts) (scope := scope) (cl := cl) (Q := EP X pins σ Q) (acc := .ref s2.heap.objs.size) dx hxe I3 (fun b hb => (hfp b hb).1) rfl
        refine wpAny_mono (he s3.heap.objs.size s3 H3 fp _ hx _ s9 _ H9 _ (I9.wish _) q9) (fun y s10 ⟨vy, H10, I10', ry, hD9, hl9, m', hm', w9⟩ => ?_) fun _ _ z => z
        have I10 := I10'.unwish
        refine thn (mt_append (X := cxComp X (nmsL xs ts) scope cl s3.heap.objs.size s3 H3 fp) _ s10 _ H10 (.ref s2.heap.objs.size) [vy] (.ref s2.heap.objs.size) [y] (fun _ H11 => H11 = upd H10 s2.heap.objs.size (.lst (ys ++ [vy]))) I10 rfl (.cons ry .nil) ⟨_, ys, vy, rfl, rfl, hD9, hl9, rfl⟩) fun _ s11 ⟨_, H11, I11, _, e11⟩ => ?_
        subst e11
        refine ⟨m', hm', i + 1, ys ++ [vy], σ1, _, l1, I11.unpinned, T.keep _ _ _ st7 fun b hb o e => (I11.pin (b, o) (List.mem_append_right _ (List.mem_append_right _ (mem_pinsAt hb e)))).1, fun b hb => ?_, w9⟩
        obtain ⟨o, e, d⟩ := T.obj _ _ st7 b hb
        exact (I11.pin (b, o) (List.mem_append_right _ (List.mem_append_right _ (mem_pinsAt hb e)))).2.1
      | false =>
        rw [if_neg Bool.false_ne_true] at q9 ⊢
        obtain ⟨m', hm', w9⟩ := q9
        refine ⟨m', hm', i + 1, ys, σ1, _, l1, I9.unpinned, T.keep _ _ _ st7 fun b hb o e => (I9.pin (b, o) (List.mem_append_right _ (List.mem_append_right _ (mem_pinsAt hb e)))).1, fun b hb => ?_, w9⟩
        obtain ⟨o, e, d⟩ := T.obj _ _ st7 b hb
        exact (I9.pin (b, o) (List.mem_append_right _ (List.mem_append_right _ (mem_pinsAt hb e)))).2.1
  have hst := codeAny_compStart_list (loop _ rfl) (T.self X.A 0 _ _ _ st4 (loop _ rfl))
  exact hst
end
section
open PySem.W
variable {X : Cx}
end
theorem comp_tupRG {K : PySem.W.Frag} {a : Addr} {xs : List V} {te : TE} {st : St} {H1 : Hp} {Q : VK} {D : Addr} (R : Nat → List V → Hp → Prop) (hD : H1 D = none) (q1 : SqT K H1 a xs) (hn : xs.length ≤ sizeLine) (h0 : R 0 [] (upd H1 D (.lst [])))
    (hs : ∀ (i : Nat) (x : V) (ys : List V) (H2 : Hp) (k : VK), xs[i]? = some x → Same H1 H2 → H2 D = some (.lst ys) → ys.length = i → R i ys H2 → (∀ y H4, Same H2 H4 → R (i + 1) (ys ++ [y]) (upd H4 D (.lst (ys ++ [y]))) → k y H4) → te (some x :: st) H2 k)
    (hd : ∀ ys H2, Same H1 H2 → H2 D = some (.lst ys) → ys.length = xs.length → R xs.length ys H2 → Q (.ref D) H2) : CompG (Itt K a) (gName 0) tYes te 1 st D H1 Q := by
  refine ⟨fun i m ys H2 => m = xs.length - i ∧ i ≤ xs.length ∧ ys.length = i ∧ Same H1 H2 ∧ H2 D = some (.lst ys) ∧ R i ys H2, ⟨xs.length, by simp, Nat.zero_le _, rfl, same_upd (Same.refl H1) hD, upd_same, h0⟩, ?_⟩
  rintro i m ys H2 ⟨rfl, hi, hl, sm, e, r⟩
  by_cases hlt : i < xs.length
  · have ex : xs[i]? = some xs[i] := List.getElem?_eq_getElem hlt
    refine .inr ⟨⟨xs, _, sm.tup q1, ex⟩, ?_⟩
    rintro x H3 σ0 ⟨rfl, hx⟩ l0
    have hx' := hx xs (sm.tup q1)
    obtain ⟨a', rfl⟩ : ∃ a, σ0 = [a] := by
      match σ0, l0 with
      | [a], _ => exact ⟨a, rfl⟩
    refine ⟨⟨[some x], rfl, rfl⟩, ?_⟩
    exact hs i x ys _ _ hx' sm e hl r fun y H4 s4 r4 => ⟨s4 _ _ e, by omega, xs.length - (i + 1), by omega, rfl, hlt, by simp [hl], same_upd (sm.trans s4) hD, upd_same, r4⟩
  · have ei : i = xs.length := by omega
    subst ei
    exact .inl ⟨⟨xs, sm.tup q1, Nat.le_refl _⟩, hd ys H2 sm e hl r⟩
noncomputable abbrev SeqAt2 (H : Hp) (a : Addr) (xs : List V) : Prop := H a = some (.lst xs) ∨ H a = some (.tup xs)
theorem SeqAt2.keep {H H' : Hp} {a : Addr} {xs : List V} (h : SeqAt2 H a xs) (s : Same H H') : SeqAt2 H' a xs := h.imp (s _ _) (s _ _)
theorem SeqAt2.sq {K : PySem.W.Frag} {H : Hp} {a : Addr} {xs : List V} (h : SeqAt2 H a xs) : SqL K H a xs ∨ SqT K H a xs := h.imp SqL.of SqT.of
theorem SeqAt2.ix {K : PySem.W.Frag} {H : Hp} {a : Addr} {xs : List V} {i : Int} {v : V} {Q : VK} (h : SeqAt2 H a xs) (e : atI xs i = some v) (q : Q v H) : rIx K (.ref a) (.int i) H Q := by
  rcases h with h | h
  · exact .inl ⟨a, xs, i, v, rfl, rfl, SqL.of h, e, q⟩
  · exact .inr (.inl ⟨a, xs, i, v, rfl, rfl, SqT.of h, e, q⟩)
theorem seq_comp {K : PySem.W.Frag} {a : Addr} {xs : List V} {te : TE} {st : St} {H1 : Hp} {Q : VK} (hq : SeqAt2 H1 a xs) (hn : xs.length ≤ sizeLine) (R : Addr → Nat → List V → Hp → Prop)
    (h0 : ∀ D, H1 D = none → R D 0 [] (upd H1 D (.lst [])))
    (hs : ∀ (D : Addr) (i : Nat) (x : V) (ys : List V) (H2 : Hp) (k : VK), H1 D = none → xs[i]? = some x → Same H1 H2 → H2 D = some (.lst ys) → ys.length = i → R D i ys H2 → (∀ y H4, Same H2 H4 → R D (i + 1) (ys ++ [y]) (upd H4 D (.lst (ys ++ [y]))) → k y H4) → te (some x :: st) H2 k)
    (hd : ∀ D ys H2, H1 D = none → Same H1 H2 → H2 D = some (.lst ys) → ys.length = xs.length → R D xs.length ys H2 → Q (.ref D) H2) :
    (SqL K H1 a xs ∧ ∀ D, H1 D = none → CompG (Itl K a) (gName 0) tYes te 1 st D H1 Q) ∨ (SqT K H1 a xs ∧ ∀ D, H1 D = none → CompG (Itt K a) (gName 0) tYes te 1 st D H1 Q) := by
  rcases hq with h | h
  · exact .inl ⟨SqL.of h, fun D hD => comp_listRG (R D) hD (SqL.of h) hn (h0 D hD) (fun i x ys H2 k a1 a2 a3 a4 a5 => hs D i x ys H2 k hD a1 a2 a3 a4 a5) fun ys H2 => hd D ys H2 hD⟩
  · exact .inr ⟨SqT.of h, fun D hD => comp_tupRG (R D) hD (SqT.of h) hn (h0 D hD) (fun i x ys H2 k a1 a2 a3 a4 a5 => hs D i x ys H2 k hD a1 a2 a3 a4 a5) fun ys H2 => hd D ys H2 hD⟩
end L2
set_option maxHeartbeats 4000000
namespace L2
open PySem PySem.Spec PyProof.Rows PySem.W Gc
section
variable {prog : Program} {w : World} {A : Around} {E : Value → Shared → Prop} {s : Shared}
end
section
variable {X : Cx}
end
end L2
set_option maxHeartbeats 4000000
namespace L2
open PySem PySem.Spec PyProof.Rows
end L2
set_option maxHeartbeats 4000000
namespace L2
open PySem PySem.Spec PyProof.Rows PySem.W Gc
section
variable {prog : Program} {w : World} {A : Around} {E : Value → Shared → Prop} {s : Shared}
end
noncomputable def SIt (b : Bool) (h : Heap) (it t : Addr) (i : Nat) : Prop := match b with
  | true => h.IsTupleIter it t i
  | false => h.IsListIter it t i
noncomputable def SqH (b : Bool) (h : Heap) (t : Addr) (xs : Array Value) : Prop := match b with
  | true => h.IsTuple t xs
  | false => h.IsList t xs
noncomputable def SqB (b : Bool) (K : PySem.W.Frag) (H : Hp) (a : Addr) (xs : List V) : Prop := match b with
  | true => SqT K H a xs
  | false => SqL K H a xs
theorem SIt.at {b : Bool} {h h' : Heap} {it t : Addr} {i : Nat} (x : SIt b h it t i) (k : ∀ o, h.get? it = some o → h'.get? it = some o) : SIt b h' it t i := by
  cases b with
  | true => exact (show h.IsTupleIter it t i from x).at k
  | false =>
    obtain ⟨o, e1, e2⟩ := (show h.IsListIter it t i from x)
    exact ⟨o, k o e1, e2⟩
theorem SqB.keep {b : Bool} {K : PySem.W.Frag} {H H' : Hp} {a : Addr} {xs : List V} (h : SqB b K H a xs) (s : Same H H') : SqB b K H' a xs := by
  cases b with
  | true => exact s.tup h
  | false => exact s.seq h
section
variable {prog : Program} {w : World} {A : Around} {E : Value → Shared → Prop} {s : Shared}
noncomputable def sItO (b : Bool) (a : Addr) : Obj := match b with
  | true => { cls := .type "tuple_iterator", data := .fields #[.ref a, rawInt 0] }
  | false => { cls := .type "list_iterator", data := .fields #[.ref a, .int 0 0] }
end
end L2
set_option maxHeartbeats 4000000
namespace L2
open PySem PySem.Spec PyProof.Rows Gc
theorem SIt.extBut {b : Bool} {h h' : Heap} {it t : Addr} {i : Nat} {c : Addr} (x : SIt b h it t i) (k : Heap.ExtBut c h h') (ne : it ≠ c) : SIt b h' it t i := x.at fun o q => k it o ne q
theorem SqH.at' {b : Bool} {h h' : Heap} {t : Addr} {xs : Array Value} (x : SqH b h t xs) (k : ∀ o, h.get? t = some o → h'.get? t = some o) : SqH b h' t xs := by
  cases b with
  | true =>
    obtain ⟨o, e1, e2⟩ := (show h.IsTuple t xs from x)
    exact ⟨o, k o e1, e2⟩
  | false =>
    obtain ⟨o, e1, e2⟩ := (show h.IsList t xs from x)
    exact ⟨o, k o e1, e2⟩
theorem SqH.extBut {b : Bool} {h h' : Heap} {t : Addr} {xs : Array Value} {c : Addr} (x : SqH b h t xs) (k : Heap.ExtBut c h h') (ne : t ≠ c) : SqH b h' t xs := x.at' fun o q => k t o ne q
theorem SqH.push {b : Bool} {h : Heap} {t : Addr} {xs : Array Value} (x : SqH b h t xs) (o : Obj) : SqH b (h.push o) t xs := x.at' fun _ q => Heap.get?_push_of_some _ q
theorem SqH.lt {b : Bool} {h : Heap} {t : Addr} {xs : Array Value} (x : SqH b h t xs) : t < h.objs.size := by
  cases b with
  | true =>
    obtain ⟨o, e1, e2⟩ := (show h.IsTuple t xs from x)
    exact Heap.lt_size e1
  | false =>
    obtain ⟨o, e1, e2⟩ := (show h.IsList t xs from x)
    exact Heap.lt_size e1
theorem SIt.new {b : Bool} {h : Heap} {it a : Addr} (e : h.get? it = some (sItO b a)) : SIt b h it a 0 := by
  cases b with
  | true => exact ⟨_, e, rfl, rfl⟩
  | false => exact ⟨_, e, rfl, rfl⟩
section
variable {prog : Program} {w : World} {A : Around} {E : Value → Shared → Prop} {s : Shared}
end
end L2
set_option maxHeartbeats 4000000
namespace L2
open PySem PySem.Spec PyProof.Rows Gc
end L2
set_option maxHeartbeats 4000000
namespace L2
open PySem PySem.Spec PyProof.Rows Gc HT
section
variable {prog : Program} {w : World} {A : Around} {E : Value → Shared → Prop} {s : Shared}
end
section
variable {X : Cx}
end
end L2
set_option maxHeartbeats 4000000
namespace L2
open PySem PySem.Spec PyProof.Rows
section
variable {X : Cx}
theorem op_addS : OpR X (binaryOp .Add) (fun x y H Q => ∃ a b, x = .str a ∧ y = .str b ∧ a.length + b.length ≤ sizeLine ∧ Q (.str (a ++ b)) H) := by
  rintro pins s σ H x y v u Q I rx ry ⟨a, b, rfl, rfl, hl, q⟩
  obtain ⟨t, rfl⟩ := rx
  obtain ⟨t', rfl⟩ := ry
  exact SB.add (fun t2 k => ⟨.str (a ++ b), H, I.tok k, ⟨t2, rfl⟩, q⟩) hl
theorem op_inS : OpR X (compareOp .In) (fun x y H Q => ∃ a b, x = .str a ∧ y = .str b ∧ Q (.bl (Txt.contains b a)) H) := by
  rintro pins s σ H x y v u Q I rx ry ⟨a, b, rfl, rfl, q⟩
  obtain ⟨t, rfl⟩ := rx
  obtain ⟨t', rfl⟩ := ry
  exact SB.contains ⟨.bl _, H, I, rfl, q⟩
theorem call_intS : CallR X (.type "int") (fun xs H Q => ∃ a n, xs = [.str a] ∧ intText? a = some n ∧ a.length ≤ 640 ∧ Q (.int n) H) := by
  rintro pins s σ H xs us Q I r ⟨a, n, rfl, hn, hl, q⟩
  obtain ⟨u, rfl, t, rfl⟩ := vals1 r
  exact PySem.W.KIN.call_text hn hl ⟨.int n, H, I.tok _, ⟨_, rfl⟩, q⟩
noncomputable def tSM (r : Str → V → Hp → VK → Prop) (to te : TE) : TE := fun σ H Q => to σ H fun x H1 => ∃ a, x = .str a ∧ te σ H1 fun y H2 => r a y H2 Q
variable {o e : Expr} {to te : TE} {apos pos : Pos}
theorem pe_starts (ho : PE X o to) (he : PE X e te) (hbase : attributeBase o "startswith" X.env (eval o X.env) = eval o X.env := by rfl) (hs : starEach [e] X.env = [(false, eval e X.env)] := by rfl) (hline : (apos.endLine == pos.line) = true := by rfl) :
    PE X (.Call (.Attribute o "startswith" apos) [e] [] pos) (tSM (fun a y H Q => ∃ b, y = .str b ∧ Q (.bl (Txt.startswith a b)) H) to te) := by
  intro pins s σ H Q I h
  refine Call_method1 hbase hs hline (thn (ho pins s σ H _ I h) fun v s1 ⟨x, H1, I1, r1, a, e1, q1⟩ => ?_)
  subst e1
  obtain ⟨t, rfl⟩ := r1
  refine SB.startswith (thn (he pins s1 σ H1 _ I1 q1) fun u s2 ⟨y, H2, I2, r2, b, e2, q2⟩ => ?_)
  subst e2
  obtain ⟨t2, rfl⟩ := r2
  exact ⟨b, t2, rfl, .bl _, H2, I2, rfl, q2⟩
theorem strs_of : ∀ {ts : List Str} {its : List Value}, Vals (ts.map V.str) its → ∃ l : List (Str × Tok), strValues l = its ∧ l.map (·.1) = ts
  | [], _, .nil => ⟨[], rfl, rfl⟩
  | t :: ts, _, .cons r rs => by
    obtain ⟨k, rfl⟩ := r
    obtain ⟨l, e1, e2⟩ := strs_of (ts := ts) rs
    exact ⟨(t, k) :: l, by rw [← e1]; rfl, by rw [← e2]; rfl⟩
theorem vals_strs : ∀ l : List (Str × Tok), Vals ((l.map (·.1)).map V.str) (strValues l)
  | [] => .nil
  | p :: l => .cons ⟨p.2, rfl⟩ (vals_strs l)
theorem pe_join (ho : PE X o to) (he : PE X e te) (hbase : attributeBase o "join" X.env (eval o X.env) = eval o X.env := by rfl) (hs : starEach [e] X.env = [(false, eval e X.env)] := by rfl) (hline : (apos.endLine == pos.line) = true := by rfl) :
    PE X (.Call (.Attribute o "join" apos) [e] [] pos) (tSM (fun a y H Q => ∃ D ts, y = .ref D ∧ SqL X.K H D (ts.map V.str) ∧ JoinOk a ts = true ∧ Q (.str (Txt.join a ts)) H) to te) := by
  intro pins s σ H Q I h
  refine Call_method1 hbase hs hline (thn (ho pins s σ H _ I h) fun v s1 ⟨x, H1, I1, r1, a, e1, q1⟩ => ?_)
  subst e1
  obtain ⟨t, rfl⟩ := r1
  refine SB.join (thn (he pins s1 σ H1 _ I1 q1) fun u s2 ⟨y, H2, I2, r2, D, ts, e2, hq, hok, q2⟩ => ?_)
  subst e2
  cases r2
  obtain ⟨its, rv, p, hz⟩ := I2.list hq
  obtain ⟨l, e3, e4⟩ := strs_of rv
  exact ⟨D, l, rfl, by rw [e3]; exact p.isList, ts, e4, hok, fun t' k => ⟨.str _, H2, I2.tok k, ⟨t', rfl⟩, q2⟩⟩
end
end L2
set_option maxHeartbeats 4000000
namespace L2
open PySem PySem.Spec PyProof.Rows
section
variable {X : Cx} {o e : Expr} {to te : TE} {apos pos : Pos}
theorem texts_laid {pins : List (Addr × Obj)} {σ : St} {H : Hp} {s : Shared} {Q : VK} {k : Nat} (I : Inv X pins σ H s) (l : List (Str × Tok)) (ts : List Str) (hl : l.map (·.1) = ts) (z : ts.length ≤ sizeLine)
    (q : ∀ p, H p = none → Q (.ref p) (upd H p (.lst (ts.map V.str)))) : EP X pins σ Q (.ref s.heap.objs.size) { s with toks := k, heap := s.heap.push { cls := .type "list", data := .seq (strValues l).toArray } } := by
  subst hl
  refine ⟨.ref s.heap.objs.size, _, I.laid (t' := k) (o := .lst ((l.map (·.1)).map V.str)) (fun b u e => Heap.get?_push_of_some _ e) (Nat.le_refl _) ?_, rfl, q _ (I.hok.fresh (Nat.le_refl _))⟩
  exact ⟨by rw [List.length_map]; exact z, _, 0, vals_strs l, Heap.get?_push_size _ rfl⟩
noncomputable def rSplit : Str → V → Hp → VK → Prop := fun a y H Q => ∃ b, y = .str b ∧ (b.length == 0) = false ∧ a.length ≤ sizeLine ∧ (Txt.split a b).length ≤ sizeLine ∧ ∀ p, H p = none → Q (.ref p) (upd H p (.lst ((Txt.split a b).map V.str)))
theorem pe_split (ho : PE X o to) (he : PE X e te) (hbase : attributeBase o "split" X.env (eval o X.env) = eval o X.env := by rfl) (hs : starEach [e] X.env = [(false, eval e X.env)] := by rfl) (hline : (apos.endLine == pos.line) = true := by rfl) :
    PE X (.Call (.Attribute o "split" apos) [e] [] pos) (tSM rSplit to te) := by
  intro pins s σ H Q I h
  refine Call_method1 hbase hs hline (thn (ho pins s σ H _ I h) fun v s1 ⟨x, H1, I1, r1, a, e1, q1⟩ => ?_)
  subst e1
  obtain ⟨t, rfl⟩ := r1
  refine ⟨"str", _, F.plainAttrs_str, F.slot_str_split, F.type_str_split, typeIs_str _ _ _, (fun _ e => nomatch e),
    method1_meets F.slot_str_split F.entry_str_split (thn (he pins s1 σ H1 _ I1 q1) fun u s2 ⟨y, H2, I2, r2, b, e2, hy, hx, hn, q2⟩ => ?_)⟩
  subst e2
  obtain ⟨t2, rfl⟩ := r2
  refine ⟨typeIs_str _ _ _, F.args_str_split_2 _ _, ?_⟩
  unfold Txt.split at hn q2
  cases h1 : (decide (a.length < b.length) || decide (Builtin.Str.strKind a < Builtin.Str.strKind b))
  · rw [if_neg (ne_true_of_eq_false h1)] at hn q2
    cases hf : (Builtin.Str.occurrences a b 0 a.length (a.length + 1)).isEmpty
    · rw [if_neg (ne_true_of_eq_false hf)] at hn q2
      refine ⟨_, meets_str_split_sep a b t t2 h1 hy hf hx hn, ?_⟩
      rw [strsFrom_eq]
      exact texts_laid I2 _ _ (numbered_texts _ _) hn q2
    · rw [if_pos hf] at hn q2
      exact ⟨_, meets_str_split_not_found a b t t2 h1 hy hf, texts_laid (k := s2.toks) I2 [(a, t)] _ rfl hn q2⟩
  · rw [if_pos h1] at hn q2
    exact ⟨_, meets_str_split_cannot_occur a b t t2 h1, texts_laid (k := s2.toks) I2 [(a, t)] _ rfl hn q2⟩
noncomputable def parts3 (a b : Str) : List Str := match Builtin.Str.occurrences a b 0 a.length 1 with
  | i :: _ => [Builtin.Str.strSub a 0 i, b, Builtin.Str.strSub a (i + b.length) a.length]
  | [] => [a, Str.empty, Str.empty]
noncomputable def rPart : Str → V → Hp → VK → Prop := fun a y H Q => ∃ b, y = .str b ∧ (b.length == 0) = false ∧ a.length ≤ sizeLine ∧ ∀ p, H p = none → Q (.ref p) (upd H p (.tup ((parts3 a b).map V.str)))
theorem pe_partition (ho : PE X o to) (he : PE X e te) (hbase : attributeBase o "partition" X.env (eval o X.env) = eval o X.env := by rfl) (hs : starEach [e] X.env = [(false, eval e X.env)] := by rfl) (hline : (apos.endLine == pos.line) = true := by rfl) :
    PE X (.Call (.Attribute o "partition" apos) [e] [] pos) (tSM rPart to te) := by
  intro pins s σ H Q I h
  refine Call_method1 hbase hs hline (thn (ho pins s σ H _ I h) fun v s1 ⟨x, H1, I1, r1, a, e1, q1⟩ => ?_)
  subst e1
  obtain ⟨t, rfl⟩ := r1
  refine ⟨"str", _, F.plainAttrs_str, F.slot_str_partition, F.type_str_partition, typeIs_str _ _ _, (fun _ e => nomatch e),
    method1_meets F.slot_str_partition F.entry_str_partition (thn (he pins s1 σ H1 _ I1 q1) fun u s2 ⟨y, H2, I2, r2, b, e2, hy, hx, q2⟩ => ?_)⟩
  subst e2
  obtain ⟨t2, rfl⟩ := r2
  refine ⟨typeIs_str _ _ _, F.args_str_partition_2 _ _, _, meets_str_partition a b t t2 hy hx, ?_⟩
  unfold parts3 at q2
  revert q2
  cases Builtin.Str.occurrences a b 0 a.length 1 with
  | nil =>
    intro q2
    refine ⟨.ref s2.heap.objs.size, _, I2.laid (t' := s2.toks + 1) (o := .tup _) (fun b ob q => Heap.get?_push_of_some _ q) (Nat.le_refl _) ?_, rfl, q2 _ (I2.hok.fresh (Nat.le_refl _))⟩
    exact ⟨by show 3 ≤ sizeLine; decide, _, .cons ⟨_, rfl⟩ (.cons ⟨_, rfl⟩ (.cons ⟨_, rfl⟩ .nil)), IsTup.new _ _⟩
  | cons i r =>
    intro q2
    refine ⟨.ref s2.heap.objs.size, _, I2.laid (t' := s2.toks + 1 + 1) (o := .tup _) (fun b ob q => Heap.get?_push_of_some _ q) (Nat.le_refl _) ?_, rfl, q2 _ (I2.hok.fresh (Nat.le_refl _))⟩
    exact ⟨by show 3 ≤ sizeLine; decide, _, .cons ⟨_, rfl⟩ (.cons ⟨_, rfl⟩ (.cons ⟨_, rfl⟩ .nil)), IsTup.new _ _⟩
theorem sl_str : SlR X (fun x lo hi H Q => ∃ a, x = .str a ∧ a.length ≤ sizeLine ∧ Q (.str (Txt.slice a lo hi)) H) := by
  intro pins s σ H x v vl vu lo hi sl Q I rx hs pl pu h
  obtain ⟨a, rfl, hz, q⟩ := h
  obtain ⟨t, rfl⟩ := rx
  refine ⟨"str", _, F.slot_str_getitem.lookup, typeIs_str _ _ _, ?_⟩
  cases pl <;> cases pu
  · exact wpAny_getItem_str_slice (l := none) (u := none) (st := none) hs rfl (post_val_or_str ⟨Nat.le_trans (Txt.slice_le a _ _) hz, fun t' k => ⟨.str _, H, I.tok k, ⟨t', rfl⟩, q⟩⟩)
  · exact wpAny_getItem_str_slice (l := none) (u := some (_, _)) (st := none) hs rfl (post_val_or_str ⟨Nat.le_trans (Txt.slice_le a _ _) hz, fun t' k => ⟨.str _, H, I.tok k, ⟨t', rfl⟩, q⟩⟩)
  · exact wpAny_getItem_str_slice (l := some (_, _)) (u := none) (st := none) hs rfl (post_val_or_str ⟨Nat.le_trans (Txt.slice_le a _ _) hz, fun t' k => ⟨.str _, H, I.tok k, ⟨t', rfl⟩, q⟩⟩)
  · exact wpAny_getItem_str_slice (l := some (_, _)) (u := some (_, _)) (st := none) hs rfl (post_val_or_str ⟨Nat.le_trans (Txt.slice_le a _ _) hz, fun t' k => ⟨.str _, H, I.tok k, ⟨t', rfl⟩, q⟩⟩)
noncomputable def Its (a : Str) : It := ⟨fun i _ => i < a.cps.size, fun i H x H' => H' = H ∧ ∃ c, a.cps[i]? = some c ∧ x = .str ⟨#[c]⟩, fun i _ => a.cps.size ≤ i⟩
theorem turn_str {P : Program} {w : World} {K : PySem.W.Frag} {tg : Expr} (it : Addr) (a : Str) (t : Tok) : Turn P w K tg (Its a) [it] it (fun i h => h.IsStrIter it "str_ascii_iterator" a t i) where
  mem := by simp
  obj := fun i h st b hb => by
    have e : b = it := by simpa using hb
    subst e
    obtain ⟨o, e, c, d⟩ := st
    exact ⟨o, e, fun v z => by
      rw [d] at z
      cases z⟩
  keep := fun i h h' st k => by
    obtain ⟨o, e, c, d⟩ := st
    exact ⟨o, k it (by simp) _ e, c, d⟩
  item := by
    intro X hP hw hK hc i pins s σ H E I hf st hg
    subst hP hw hK
    obtain ⟨f0, f1, f2, f3, f4, f5⟩ := hf it (by simp)
    have hi : i < a.cps.size := hg
    refine wpAny_pyNext_ascii_item st (c := a.cps[i]) (by simp [hi]) fun h' st' sb => ?_
    have I1 : Inv X pins σ H { s with heap := h', toks := s.toks + 1 } := I.turned (fun b o hb e => sb.extBut b o hb e) f0 f1 f3 f4 f5
    obtain ⟨o, e, c, d⟩ := id st'
    exact ⟨_, rfl, go_of (s := { s with heap := h', toks := s.toks + 1 }) (n := "str_ascii_iterator") e c d (by decide) ⟨.str ⟨#[a.cps[i]]⟩, H, I1, ⟨_, rfl⟩, ⟨rfl, _, by simp [hi], rfl⟩, st', fun b hb => (hf b hb).1⟩⟩
  done := by
    intro X hP hw hK hc i pins s σ H E I hf st hg
    subst hP hw hK
    obtain ⟨f0, f1, f2, f3, f4, f5⟩ := hf it (by simp)
    exact wpAny_pyNext_ascii_end (I.ok.hd hc) st (by have : a.cps.size ≤ i := hg; simp; omega) fun h' eb => ⟨rfl, I.turned (t' := s.toks) (fun b o hb e => eb b o hb e) f0 f1 f3 f4 f5⟩
  self := fun _ _ _ _ _ st h => wpAny_pyIter_striter_ascii st h
noncomputable def iStr (tl : TE) : TI := fun σ H R => tl σ H fun x H1 => ∃ a, x = .str a ∧ a.cps.all (· < 128) = true ∧ R (Its a) H1
theorem pi_str {l tg : Expr} {tl : TE} (hl : PE X l tl) : PI X tg l (iStr tl) := by
  intro pins s σ H R I h
  refine thn (hl pins s σ H _ I h) fun v s1 ⟨x, H1, I1, r1, q1⟩ => ?_
  obtain ⟨a, e, ha, q⟩ := q1
  subst e
  obtain ⟨t, rfl⟩ := r1
  refine wpAny_pyIter_ascii ha ?_
  refine ⟨s1.heap.objs.size, [s1.heap.objs.size], _, _, H1, rfl, I1.kept (t' := s1.toks) fun b o e => Heap.get?_push_of_some _ e, turn_str _ a t, ⟨_, Heap.get?_push_size _ rfl, rfl, rfl⟩, fun b hb => ?_, q⟩
  have e : b = s1.heap.objs.size := by simpa using hb
  subst e
  exact I1.fpOk (Nat.le_refl _) (I1.hok.fresh (Nat.le_refl _))
end
end L2
set_option maxHeartbeats 4000000
namespace Tx
open PySem PySem.Builtin.Str PySem.StrLaws
noncomputable def go (P : Nat → Bool) (w : Nat) : Nat → Nat → Nat → List Nat
  | _, _, 0 => []
  | i, free, n + 1 => if free ≤ i ∧ P i = true then i :: go P w (i + 1) (i + w) n else go P w (i + 1) free n
noncomputable def isAt (x y : Str) (j : Nat) : Bool := decide (j + y.length ≤ x.length) && subAt x y j
theorem walk_go (x y : Str) (limit : Nat) : ∀ (n i free : Nat) (acc : Array Nat), (forIn (List.range' i n) (acc, free) (occBody x y x.length limit)).run.fst.toList = acc.toList ++ (go (isAt x y) y.length i free n).take (limit - acc.size)
  | 0, i, free, acc => by simp [go]
  | n + 1, i, free, acc => by
    rw [List.range'_succ, List.forIn_cons]
    unfold occBody
    dsimp only
    by_cases h : free ≤ i ∧ isAt x y i = true
    · have h2 := h.2
      unfold isAt at h2
      rw [Bool.and_eq_true, decide_eq_true_eq] at h2
      rw [go, if_pos h]
      by_cases hl : acc.size < limit
      · rw [if_pos ⟨⟨⟨hl, h.1⟩, h2.1⟩, h2.2⟩]
        have := walk_go x y limit n (i + 1) (i + y.length) (acc.push i)
        refine Eq.trans this ?_
        rw [Array.toList_push, Array.size_push, List.append_assoc, show limit - acc.size = (limit - (acc.size + 1)) + 1 by omega, List.take_succ_cons]
        rfl
      · rw [if_neg (fun z => hl z.1.1.1)]
        refine Eq.trans (walk_go x y limit n (i + 1) free acc) ?_
        rw [show limit - acc.size = 0 by omega, List.take_zero, List.take_zero]
    · rw [go, if_neg h, if_neg (fun z => h ⟨z.1.1.2, by unfold isAt; rw [Bool.and_eq_true, decide_eq_true_eq]; exact ⟨z.1.2, z.2⟩⟩)]
      exact walk_go x y limit n (i + 1) free acc
theorem occ_go (x y : Str) (limit : Nat) : occurrences x y 0 x.length limit = (go (isAt x y) y.length 0 0 (x.length + 1)).take limit := by
  rw [occ_eq]
  refine Eq.trans (walk_go x y limit _ _ _ _) ?_
  simp
theorem go_skip {P : Nat → Bool} {w free : Nat} : ∀ (k i n : Nat), (∀ j, i ≤ j → j < i + k → P j = false ∨ j < free) → go P w i free (k + n) = go P w (i + k) free n
  | 0, i, n, _ => by rw [Nat.zero_add]; rfl
  | k + 1, i, n, h => by
    rw [show k + 1 + n = (k + n) + 1 by omega, go, if_neg, go_skip k (i + 1) n (fun j h1 h2 => h j (by omega) (by omega)), show i + 1 + k = i + (k + 1) by omega]
    rintro ⟨a, b⟩
    rcases h i (Nat.le_refl _) (by omega) with z | z
    · rw [z] at b; cases b
    · omega
noncomputable def jn (y : List Nat) : List Str → List Nat
  | [] => []
  | [p] => p.cps.toList
  | p :: q :: r => p.cps.toList ++ (y ++ jn y (q :: r))
noncomputable def cuts (w : Nat) : Nat → List Str → List Nat
  | _, [] => []
  | _, [_] => []
  | a, p :: q :: r => (a + p.length) :: cuts w (a + p.length + w) (q :: r)
theorem len_toList (p : Str) : p.cps.toList.length = p.length := by simp [Str.length]
theorem isAt_iff {x y : Str} {j : Nat} : isAt x y j = true ↔ j + y.length ≤ x.length ∧ (x.cps.toList.drop j).take y.length = y.cps.toList := by
  unfold isAt
  rw [Bool.and_eq_true, decide_eq_true_eq, subAt_eq, beq_iff_eq]
theorem isAt_head {x y : Str} {c : Nat} {r : List Nat} (hy : y.cps.toList = c :: r) {j : Nat} (h : isAt x y j = true) : x.cps.toList[j]? = some c := by
  have h2 := (isAt_iff.mp h).2
  rw [hy] at h2
  have e : ((x.cps.toList.drop j).take y.length)[0]? = some c := by rw [h2]; rfl
  rw [List.getElem?_take] at e
  split at e
  · rw [List.getElem?_drop] at e
    exact e
  · cases e
theorem go_cuts {x y : Str} {c : Nat} {r : List Nat} (hy : y.cps.toList = c :: r) : ∀ (ps : List Str) (a n : Nat), ps ≠ [] → x.cps.toList.drop a = jn y.cps.toList ps → a + n = x.length + 1 → (∀ p ∈ ps, c ∉ p.cps.toList) → go (isAt x y) y.length a a n = cuts y.length a ps
  | [], _, _, h, _, _, _ => absurd rfl h
  | [p], a, n, _, hd, hn, hc => by
    have e := go_skip (P := isAt x y) (w := y.length) (free := a) n a 0 (fun j h1 h2 => .inl (by
      rw [Bool.eq_false_iff]
      intro z
      have q := isAt_head hy z
      have : (x.cps.toList.drop a)[j - a]? = some c := by rw [List.getElem?_drop, show a + (j - a) = j by omega]; exact q
      rw [hd] at this
      exact hc p (List.mem_singleton.mpr rfl) (List.mem_of_getElem? this)))
    rw [Nat.add_zero] at e
    rw [e]
    rfl
  | p :: p' :: ps, a, n, _, hd, hn, hc => by
    have hw : y.length = r.length + 1 := by rw [← len_toList, hy]; rfl
    have hd' : x.cps.toList.drop a = p.cps.toList ++ (y.cps.toList ++ jn y.cps.toList (p' :: ps)) := hd
    have hL : x.length - a = p.length + (y.length + (jn y.cps.toList (p' :: ps)).length) := by
      have := congrArg List.length hd'
      rw [List.length_drop, len_toList, List.length_append, List.length_append, len_toList, len_toList] at this
      exact this
    have hle : a + p.length + y.length ≤ x.length := by omega
    have hd2 : x.cps.toList.drop (a + p.length) = y.cps.toList ++ jn y.cps.toList (p' :: ps) := by
      rw [← List.drop_drop, hd', ← len_toList p, List.drop_left]
    have hd3 : x.cps.toList.drop (a + p.length + y.length) = jn y.cps.toList (p' :: ps) := by
      rw [← List.drop_drop, hd2, ← len_toList y, List.drop_left]
    have yes : isAt x y (a + p.length) = true := isAt_iff.mpr ⟨hle, by rw [hd2, ← len_toList y, List.take_left]⟩
    obtain ⟨m, rfl⟩ : ∃ m, n = p.length + (1 + (r.length + m)) := ⟨n - (p.length + (1 + r.length)), by omega⟩
    rw [go_skip p.length a _ (fun j h1 h2 => .inl (by
      rw [Bool.eq_false_iff]
      intro z
      have q := isAt_head hy z
      have : (x.cps.toList.drop a)[j - a]? = some c := by rw [List.getElem?_drop, show a + (j - a) = j by omega]; exact q
      rw [hd', List.getElem?_append_left (by rw [len_toList]; omega)] at this
      exact hc p (List.mem_cons_self ..) (List.mem_of_getElem? this)))]
    rw [show 1 + (r.length + m) = (r.length + m) + 1 by omega, go, if_pos ⟨by omega, yes⟩, go_skip r.length _ _ (fun j h1 h2 => .inr (by omega))]
    rw [show a + p.length + 1 + r.length = a + p.length + y.length by omega]
    rw [go_cuts hy (p' :: ps) (a + p.length + y.length) m (by simp) hd3 (by omega) (fun q hq => hc q (List.mem_cons_of_mem _ hq))]
    rfl
theorem ext_list {a b : Str} (h : a.cps.toList = b.cps.toList) : a = b := Str.ext' (Array.toList_inj.mp h)
theorem parts_cuts {x y : Str} : ∀ (ps : List Str) (a : Nat), ps ≠ [] → x.cps.toList.drop a = jn y.cps.toList ps → partsFrom x y.length a (cuts y.length a ps) = ps
  | [], _, h, _ => absurd rfl h
  | [p], a, _, hd => by
    show [strSub x a x.length] = [p]
    refine congrArg (fun z => [z]) (ext_list ?_)
    rw [strSub_toList]
    have hd' : x.cps.toList.drop a = p.cps.toList := hd
    rw [hd', List.take_of_length_le]
    have := congrArg List.length hd'
    rw [List.length_drop, len_toList] at this
    omega
  | p :: p' :: ps, a, _, hd => by
    have hd' : x.cps.toList.drop a = p.cps.toList ++ (y.cps.toList ++ jn y.cps.toList (p' :: ps)) := hd
    have hd2 : x.cps.toList.drop (a + p.length) = y.cps.toList ++ jn y.cps.toList (p' :: ps) := by
      rw [← List.drop_drop, hd', ← len_toList p, List.drop_left]
    have hd3 : x.cps.toList.drop (a + p.length + y.length) = jn y.cps.toList (p' :: ps) := by
      rw [← List.drop_drop, hd2, ← len_toList y, List.drop_left]
    show strSub x a (a + p.length) :: partsFrom x y.length (a + p.length + y.length) (cuts y.length (a + p.length + y.length) (p' :: ps)) = _
    rw [parts_cuts (p' :: ps) _ (by simp) hd3]
    refine congrArg (· :: p' :: ps) (ext_list ?_)
    rw [strSub_toList, hd', show a + p.length - a = p.length by omega, ← len_toList p, List.take_left]
theorem jn_join (y : Str) : ∀ (ps : List Str), (Str.join y ps).cps.toList = jn y.cps.toList ps
  | [] => rfl
  | [p] => rfl
  | p :: q :: r => by
    show (p ++ y ++ Str.join y (q :: r)).cps.toList = _
    rw [Str.cps_append, Str.cps_append, Array.toList_append, Array.toList_append, jn_join y (q :: r), List.append_assoc]
    rfl
theorem kind_pos (x : Str) : 1 ≤ PySem.Builtin.Str.strKind x := by
  unfold PySem.Builtin.Str.strKind
  split
  · exact Nat.le_refl _
  · split <;> omega
theorem split_join {y : Str} {c : Nat} {r : List Nat} (hy : y.cps.toList = c :: r) (hk : PySem.Builtin.Str.strKind y = 1) (ps : List Str) (h0 : ps ≠ []) (hc : ∀ p ∈ ps, c ∉ p.cps.toList) : Txt.split (Txt.join y ps) y = ps := by
  have hj : (Txt.join y ps).cps.toList = jn y.cps.toList ps := by
    show (glued y ps).cps.toList = _
    rw [glued_eq_join]
    exact jn_join y ps
  have ho : occurrences (Txt.join y ps) y 0 (Txt.join y ps).length ((Txt.join y ps).length + 1) = cuts y.length 0 ps := by
    rw [occ_go, go_cuts hy ps 0 _ h0 (by rw [List.drop_zero]; exact hj) (by omega) hc]
    refine List.take_of_length_le ?_
    have : occurrences (Txt.join y ps) y 0 (Txt.join y ps).length ((Txt.join y ps).length + 1) = (cuts y.length 0 ps).take ((Txt.join y ps).length + 1) := by
      rw [occ_go, go_cuts hy ps 0 _ h0 (by rw [List.drop_zero]; exact hj) (by omega) hc]
    have gl : ∀ (P : Nat → Bool) (w n i f : Nat), (go P w i f n).length ≤ n := by
      intro P w n
      induction n with
      | zero => intro i f; simp [go]
      | succ n ih =>
        intro i f
        rw [go]
        split
        · rw [List.length_cons]; have := ih (i + 1) (i + w); omega
        · have := ih (i + 1) f; omega
    have g1 := gl (isAt (Txt.join y ps) y) y.length ((Txt.join y ps).length + 1) 0 0
    rw [go_cuts hy ps 0 _ h0 (by rw [List.drop_zero]; exact hj) (by omega) hc] at g1
    exact g1
  unfold Txt.split
  rw [ho]
  match ps, h0, hc, hj with
  | [p], _, _, _ =>
    have e : Txt.join y [p] = p := rfl
    rw [e]
    simp [cuts]
  | p :: q :: rest, h0, _, hj =>
    have hl : y.length ≤ (Txt.join y (p :: q :: rest)).length := by
      rw [← len_toList, ← len_toList, hj]
      show _ ≤ (p.cps.toList ++ (y.cps.toList ++ jn y.cps.toList (q :: rest))).length
      rw [List.length_append, List.length_append]
      omega
    rw [if_neg, if_neg (by simp [cuts]), partsBetween_eq, parts_cuts _ 0 h0 (by rw [List.drop_zero]; exact hj)]
    rw [Bool.or_eq_true, decide_eq_true_eq, decide_eq_true_eq, hk]
    have := kind_pos (Txt.join y (p :: q :: rest))
    omega
theorem occ_first {x a y b : Str} {c : Nat} {r : List Nat} (hy : y.cps.toList = c :: r) (hx : x = a ++ (y ++ b)) (hc : c ∉ a.cps.toList) : occurrences x y 0 x.length 1 = [a.length] := by
  have hd : x.cps.toList = a.cps.toList ++ (y.cps.toList ++ b.cps.toList) := by rw [hx, Str.cps_append, Str.cps_append, Array.toList_append, Array.toList_append]
  have hL : x.length = a.length + (y.length + b.length) := by
    rw [← len_toList x, hd, List.length_append, List.length_append, len_toList, len_toList, len_toList]
  have yes : isAt x y a.length = true := isAt_iff.mpr ⟨by omega, by rw [hd, ← len_toList a, List.drop_left, ← len_toList y, List.take_left]⟩
  obtain ⟨m, hm⟩ : ∃ m, x.length + 1 = a.length + (m + 1) := ⟨y.length + b.length, by omega⟩
  rw [occ_go, hm, go_skip a.length 0 _ (fun j h1 h2 => .inl (by
    rw [Bool.eq_false_iff]
    intro z
    have q := isAt_head hy z
    rw [hd, List.getElem?_append_left (by rw [len_toList]; omega)] at q
    exact hc (List.mem_of_getElem? q)))]
  rw [Nat.zero_add, go, if_pos ⟨Nat.zero_le _, yes⟩]
  rfl
theorem sub_left {x a z : Str} (hx : x = a ++ z) : strSub x 0 a.length = a := ext_list (by
  rw [strSub_toList, hx, Str.cps_append, Array.toList_append, List.drop_zero, Nat.sub_zero, ← len_toList a, List.take_left])
theorem sub_right {x a y b : Str} (hx : x = a ++ (y ++ b)) : strSub x (a.length + y.length) x.length = b := ext_list (by
  have hd : x.cps.toList = a.cps.toList ++ (y.cps.toList ++ b.cps.toList) := by rw [hx, Str.cps_append, Str.cps_append, Array.toList_append, Array.toList_append]
  have hL : x.length = a.length + (y.length + b.length) := by
    rw [← len_toList x, hd, List.length_append, List.length_append, len_toList, len_toList, len_toList]
  rw [strSub_toList, hd, ← List.drop_drop, ← len_toList a, List.drop_left, ← len_toList y, List.drop_left, List.take_of_length_le]
  rw [len_toList, len_toList, len_toList]
  omega)
theorem app_assoc (a b c : Str) : a ++ b ++ c = a ++ (b ++ c) := ext_list (by simp [Str.cps_append])
end Tx
set_option maxHeartbeats 4000000
namespace Tx
open PySem PySem.Builtin.Str PySem.StrLaws
noncomputable def wds : List Str := ["-1", "0", "1", "2", "3", "4", "5", "6", "7", "8", "9", "10", "11", "12", "13"]
noncomputable def wd (i : Int) : Str := wds.getD (i + 1).toNat ""
noncomputable def figs (w : Str) : Str := if Txt.startswith w "-" = true then Txt.slice w (some 1) none else w
noncomputable def FIG : Str := "0123456789"
structure Wd (i : Int) : Prop where
  len : (wd i).length ≤ 3
  l1 : 1 ≤ (figs (wd i)).length
  l3 : (figs (wd i)).length ≤ 3
  asc : (figs (wd i)).cps.all (· < 128) = true
  fig : ∀ (j c : Nat), (figs (wd i)).cps[j]? = some c → Txt.contains FIG ⟨#[c]⟩ = true
  nou : (Txt.startswith (figs (wd i)) "0" && (Txt.startswith (wd i) "-" || decide ((figs (wd i)).length > 1))) = false
  int : intText? (wd i) = some i
  str : ((toString i : String) : Str) = wd i
  no : ∀ c ∈ (wd i).cps.toList, c ≠ 32 ∧ c ≠ 58 ∧ c ≠ 59
theorem idx_none (a len : Nat) : strSliceIndices (some (a : Int)) none 1 len = strSliceIndices (some (a : Int)) (some (len : Int)) 1 len := by
  have h : ¬ ((len : Int) < 0) := by omega
  have e : max (0 : Int) (min (len : Int) (len : Int)) = len := by omega
  simp only [strSliceIndices, h, if_false, e, show ((1 : Int) > 0) = True from by simp, if_true]
theorem slice_from {x a b : Str} {k : Nat} (hx : x = a ++ b) (hk : a.length = k) : Txt.slice x (some (k : Int)) none = b := by
  have hd : x.cps.toList = a.cps.toList ++ b.cps.toList := by rw [hx, Str.cps_append, Array.toList_append]
  have hL : x.length = a.length + b.length := by rw [← len_toList x, hd, List.length_append, len_toList, len_toList]
  have e := sliced_plain x (a := k) (b := x.length) (by omega) (Nat.le_refl _)
  rw [← idx_none, hd, ← hk, ← len_toList a, List.drop_left, len_toList, List.take_of_length_le (by rw [len_toList]; omega)] at e
  unfold Txt.slice
  split
  · rename_i h
    have h2 : (strSliceIndices (some (k : Int)) none 1 x.length).length = x.length := by simpa using h
    rw [idx_none, strSliceIndices_plain (by omega) (Nat.le_refl _), List.length_map, List.length_range] at h2
    refine ext_list ?_
    have ha : a.cps.toList = [] := List.eq_nil_of_length_eq_zero (by rw [len_toList]; omega)
    have hb : 0 < x.length ∨ x.length = 0 := by omega
    rw [hd, ha, List.nil_append]
  · refine ext_list ?_
    rw [← hk]
    simpa using e
end Tx
set_option maxHeartbeats 4000000
namespace L2
open PySem PySem.Spec PyProof.Rows
section
variable {X : Cx} {CX : CXT} {k : Nat} {f : Addr} {fd : FuncData} {ps : List Str} {ds : List Value} {dvs : List V} {sp : Sp} {x : Str} {p pos : Pos} {e : Expr} {es : List Expr} {t : TA} {E : XK}
noncomputable def tCallL (f : Addr) (i : Nat) (sp : Sp) (t : TA) : TE := fun σ H Q => σ[i]? = some (some (.ref f)) ∧ t σ H fun vs H1 => sp vs H1 Q E0
theorem pe_callL {i : Nat} (F : FnOk X.prog X.w X.K X.mg X.base CX0 k f fd ps sp) (hr : Room k X.A) (hk : PySem.W.keepIn X.K (.ref f) = true) (hb : Binds X.K fd ps []) (hn : PE X (.Name x p) (tVar i))
    (ha : PA X (e :: es) t) (he : starEach (e :: es) X.env = (false, eval e X.env) :: starEach es X.env := by rfl) (hpl : (backTo pos (starEach es X.env)).any (·.1) = false := by rfl) :
    PE X (.Call (.Name x p) (e :: es) [] pos) (tCallL f i sp t) := by
  intro pins s σ H Q I h
  obtain ⟨hσ, h⟩ := h
  refine wpAny_Call_Name_kw (thn (hn pins s σ H (fun v H' => v = .ref f ∧ H' = H) I ⟨_, hσ, rfl, rfl⟩) fun fv s0 ⟨v, H0, I0, rv, e1, e2⟩ => ?_)
  subst e1 e2
  obtain rfl : fv = Value.ref f := rv
  refine PySem.W.callWith_K (h₀ := X.base) I0.ok.mod.kin hk (thn (ha pos pins s0 σ H0 _ I0 h) fun us s1 ⟨vs, H1, I1, r, q⟩ => ⟨I1.kIn, ?_⟩) he hpl
  exact run_fn (dvs := []) (ds := []) F hr hb .nil pass0 I1 r (by rw [List.append_nil]; exact q)
theorem pe_globS {a : Str} (hg : Gl X x) (hm : ∃ t, X.mg x = some (.str a t)) (hd : (x == ("__debug__" : Str)) = false := by decide) : PE X (.Name x pos) (tC (.str a)) := by
  obtain ⟨t, hm⟩ := hm
  exact pe_glob hg hm ⟨t, rfl⟩ hd
end
theorem comp_strT {a : Str} {te : TE} {st : St} {H1 : Hp} {Q : VK} {D : Addr} (hD : H1 D = none) (hn : a.cps.size ≤ sizeLine)
    (hs : ∀ (i c : Nat) (H2 : Hp) (k : VK), a.cps[i]? = some c → Same H1 H2 → (∀ H4, Same H2 H4 → k (.bl true) H4) → te (some (.str ⟨#[c]⟩) :: st) H2 k)
    (hd : ∀ H2, Same H1 H2 → H2 D = some (.lst ((List.replicate a.cps.size true).map V.bl)) → Q (.ref D) H2) : CompGo (Its a) te st D H1 Q := by
  refine ⟨fun i m zs H2 => m = a.cps.size - i ∧ i ≤ a.cps.size ∧ zs = (List.replicate i true).map V.bl ∧ Same H1 H2 ∧ H2 D = some (.lst zs), ⟨a.cps.size, by simp, Nat.zero_le _, rfl, same_upd (Same.refl H1) hD, upd_same⟩, ?_⟩
  rintro i m zs H2 ⟨rfl, hi, rfl, sm, e⟩
  by_cases hlt : i < a.cps.size
  · refine .inr ⟨hlt, ?_⟩
    rintro x H3 ⟨rfl, c, hc, rfl⟩
    refine hs i c _ _ hc sm fun H4 s4 => ⟨s4 _ _ e, by simp; omega, a.cps.size - (i + 1), by omega, rfl, hlt, ?_, same_upd (sm.trans s4) hD, upd_same⟩
    rw [List.replicate_succ', List.map_append]
    rfl
  · have ei : i = a.cps.size := by omega
    subst ei
    exact .inl ⟨Nat.le_refl _, hd _ sm e⟩
end L2
set_option maxHeartbeats 4000000
namespace Tx
open PySem PySem.Builtin.Str PySem.StrLaws
noncomputable def num (i : Int) : Str := Str.ofString (toString i)
theorem num_nat (m : Nat) : (num (m : Int)).cps.toList = (Nat.toDigits 10 m).map Char.toNat := PySem.W.KIN.signs_num m
theorem num_neg (m : Nat) : num (-((m + 1 : Nat) : Int)) = "-" ++ num ((m + 1 : Nat) : Int) := by
  refine ext_list ?_
  rw [Str.cps_append, Array.toList_append, num_nat]
  unfold num
  rw [PyProof.Rows.signs_ofString]
  rw [show -((m + 1 : Nat) : Int) = Int.negSucc m from rfl]
  show ("-" ++ Nat.repr (m + 1)).toList.map Char.toNat = _
  rw [String.toList_append, List.map_append, Nat.toList_repr]
  rfl
theorem lead : ∀ m : Nat, 1 ≤ m → ∃ c r, Nat.toDigits 10 m = c :: r ∧ c ≠ '0' := fun m => by
  induction m using Nat.strongRecOn with
  | _ m ih =>
    intro h1
    by_cases h : m < 10
    · refine ⟨_, [], Nat.toDigits_of_lt_base h, ?_⟩
      have : ∀ k, k < 10 → 1 ≤ k → Nat.digitChar k ≠ '0' := by decide
      exact this m h h1
    · rw [Nat.toDigits_of_base_le (by decide) (by omega)]
      obtain ⟨c, r, e, hc⟩ := ih (m / 10) (by omega) (by omega)
      rw [e]
      exact ⟨c, _, rfl, hc⟩
theorem digs (m : Nat) : ∀ c ∈ (num (m : Int)).cps.toList, 48 ≤ c ∧ c ≤ 57 := by
  intro c hc
  rw [num_nat] at hc
  obtain ⟨ch, hch, e⟩ := List.mem_map.mp hc
  have r := PyProof.Rows.digit_range (Nat.isDigit_of_mem_toDigits (by decide) (by decide) hch)
  rw [← e]
  exact r
theorem num_len {m k : Nat} (hk : 1 ≤ k) (h : m < 10 ^ k) : 1 ≤ (num (m : Int)).length ∧ (num (m : Int)).length ≤ k := by
  rw [← len_toList, num_nat, List.length_map]
  exact ⟨PySem.toDigits_len_ge 10 m, PySem.toDigits_len_pow (by decide) hk h⟩
theorem sw1 {x y : Str} {c d : Nat} {r : List Nat} (hx : x.cps.toList = c :: r) (hy : y.cps.toList = [d]) : Txt.startswith x y = (c == d) := by
  have l1 : x.length = r.length + 1 := by rw [← len_toList, hx]; rfl
  have l2 : y.length = 1 := by rw [← len_toList, hy]; rfl
  unfold Txt.startswith
  rw [subAt_eq, hx, hy, l1, l2, decide_eq_true (by omega), Bool.true_and]
  simp
structure Nm (i : Int) : Prop where
  len : (num i).length ≤ 61
  l1 : 1 ≤ (figs (num i)).length
  l3 : (figs (num i)).length ≤ 60
  asc : (figs (num i)).cps.all (· < 128) = true
  fig : ∀ (j c : Nat), (figs (num i)).cps[j]? = some c → Txt.contains FIG ⟨#[c]⟩ = true
  nou : (Txt.startswith (figs (num i)) "0" && (Txt.startswith (num i) "-" || decide ((figs (num i)).length > 1))) = false
  int : intText? (num i) = some i
  no : ∀ c ∈ (num i).cps.toList, c ≠ 32 ∧ c ≠ 47 ∧ c ≠ 58 ∧ c ≠ 59
theorem fig_in : ∀ c : Nat, c < 58 → 48 ≤ c → Txt.contains FIG ⟨#[c]⟩ = true := by decide +kernel
theorem num_cons (m : Nat) : ∃ c r, (num (m : Int)).cps.toList = c :: r ∧ (c = 48 → m = 0) ∧ 48 ≤ c := by
  have hd := digs m
  by_cases h : m = 0
  · subst h
    exact ⟨48, [], by decide +kernel, fun _ => rfl, Nat.le_refl _⟩
  · obtain ⟨c, r, e, hc⟩ := lead m (by omega)
    rw [num_nat, e] at hd
    refine ⟨c.toNat, r.map Char.toNat, by rw [num_nat, e]; rfl, fun z => ?_, (hd _ (List.mem_cons_self ..)).1⟩
    exfalso
    apply hc
    exact Char.ext (UInt32.toNat_inj.mp z)
theorem nm_ok {i : Int} (h : i.natAbs < 10 ^ 60) : Nm i := by
  have key : ∀ m : Nat, m < 10 ^ 60 → ((num (m : Int)).cps.all (· < 128) = true) ∧ (∀ (j c : Nat), (num (m : Int)).cps[j]? = some c → Txt.contains FIG ⟨#[c]⟩ = true) := fun m hm => by
    refine ⟨?_, fun j c hc => ?_⟩
    · rw [Array.all_eq_true_iff_forall_mem]
      intro c hc
      have := digs m c (Array.mem_def.mp hc)
      exact decide_eq_true (by omega)
    · have := digs m c (Array.mem_def.mp (Array.mem_of_getElem? hc))
      exact fig_in c (by omega) this.1
  cases i with
  | ofNat m =>
    have hm : m < 10 ^ 60 := h
    show Nm ((m : Nat) : Int)
    obtain ⟨c, r, e, h0, h48⟩ := num_cons m
    obtain ⟨a1, a2⟩ := num_len (by decide) hm
    obtain ⟨k1, k2⟩ := key m hm
    have sw : Txt.startswith (num (m : Int)) "-" = false := by
      rw [sw1 e (d := 45) (by decide +kernel)]
      exact beq_false_of_ne (by omega)
    have ef : figs (num (m : Int)) = num (m : Int) := by unfold figs; rw [sw]; rfl
    refine ⟨by omega, by rw [ef]; exact a1, by rw [ef]; exact a2, by rw [ef]; exact k1, by rw [ef]; exact k2, ?_, ?_, fun c hc => ?_⟩
    · rw [ef, sw, Bool.false_or, sw1 e (d := 48) (by decide +kernel)]
      by_cases z : c = 48
      · have z0 := h0 z
        subst z0
        rw [show decide ((num ((0 : Nat) : Int)).length > 1) = false by decide +kernel, Bool.and_false]
      · rw [beq_false_of_ne z, Bool.false_and]
    · have := PySem.W.KIN.val_back m
      rw [intText_digits (fun c hc => digs m c hc) (by rw [e]; simp) (by omega), num_nat, this]
    · have := digs m c hc
      omega
  | negSucc m =>
    have hm : m + 1 < 10 ^ 60 := h
    show Nm (-((m + 1 : Nat) : Int))
    obtain ⟨c, r, e, h0, h48⟩ := num_cons (m + 1)
    obtain ⟨a1, a2⟩ := num_len (by decide) hm
    obtain ⟨k1, k2⟩ := key (m + 1) hm
    have en := num_neg m
    have hn : (num (-((m + 1 : Nat) : Int))).cps.toList = 45 :: (num ((m + 1 : Nat) : Int)).cps.toList := by
      rw [en, Str.cps_append, Array.toList_append]
      rfl
    have sw : Txt.startswith (num (-((m + 1 : Nat) : Int))) "-" = true := by
      rw [sw1 hn (d := 45) (by decide +kernel)]
      rfl
    have ef : figs (num (-((m + 1 : Nat) : Int))) = num ((m + 1 : Nat) : Int) := by
      unfold figs
      rw [sw, if_pos rfl]
      exact slice_from (k := 1) en (by decide +kernel)
    have ll : (num (-((m + 1 : Nat) : Int))).length = (num ((m + 1 : Nat) : Int)).length + 1 := by
      rw [← len_toList, hn, List.length_cons, len_toList]
    refine ⟨by omega, by rw [ef]; exact a1, by rw [ef]; exact a2, by rw [ef]; exact k1, by rw [ef]; exact k2, ?_, ?_, fun c hc => ?_⟩
    · rw [ef, sw1 e (d := 48) (by decide +kernel), beq_false_of_ne (fun z => by have := h0 z; omega), Bool.false_and]
    · have := PySem.W.KIN.val_back (m + 1)
      rw [intText_neg hn (fun c hc => digs (m + 1) c hc) (by rw [e]; simp) (by omega), num_nat, this]
    · rw [hn] at hc
      rcases List.mem_cons.mp hc with rfl | hc
      · decide
      · have := digs (m + 1) c hc
        omega
theorem occ_no {x y : Str} {c : Nat} {r : List Nat} (hy : y.cps.toList = c :: r) (hc : c ∉ x.cps.toList) : occurrences x y 0 x.length 1 = [] := by
  have e := go_skip (P := isAt x y) (w := y.length) (free := 0) (x.length + 1) 0 0 (fun j h1 h2 => .inl (by
    rw [Bool.eq_false_iff]
    intro z
    exact hc (List.mem_of_getElem? (isAt_head hy z))))
  rw [Nat.add_zero] at e
  rw [occ_go, e]
  rfl
end Tx
set_option maxHeartbeats 4000000
namespace Tx
open PySem PySem.Builtin.Str PySem.StrLaws
noncomputable def frS (p : Int × Int) : Str := if p.2 = 1 then num p.1 else num p.1 ++ "/" ++ num p.2
structure FrB (p : Int × Int) : Prop where
  a : p.1.natAbs < 10 ^ 60
  b1 : 1 ≤ p.2
  b : p.2.natAbs < 10 ^ 60
theorem frS_no {p : Int × Int} (h : FrB p) : ∀ c ∈ (frS p).cps.toList, c ≠ 32 ∧ c ≠ 58 ∧ c ≠ 59 := by
  have n1 := (nm_ok h.a).no
  have n2 := (nm_ok h.b).no
  unfold frS
  split
  · intro c hc
    have := n1 c hc
    omega
  · intro c hc
    rw [Str.cps_append, Str.cps_append, Array.toList_append, Array.toList_append] at hc
    rcases List.mem_append.mp hc with hc | hc
    · rcases List.mem_append.mp hc with hc | hc
      · have := n1 c hc
        omega
      · have e : ("/" : Str).cps.toList = [47] := by decide +kernel
        rw [e] at hc
        cases List.mem_singleton.mp hc
        decide
    · have := n2 c hc
      omega
theorem slash_len : ("/" : Str).length = 1 := by decide +kernel
theorem frS_len {p : Int × Int} (h : FrB p) : (frS p).length ≤ 123 := by
  have n1 := (nm_ok h.a).len
  have n2 := (nm_ok h.b).len
  unfold frS
  split
  · omega
  · rw [Str.length_append, Str.length_append, slash_len]
    omega
theorem frS_parts {p : Int × Int} (h : FrB p) : L2.parts3 (frS p) "/" = if p.2 = 1 then [num p.1, Str.empty, Str.empty] else [num p.1, "/", num p.2] := by
  have n1 := (nm_ok h.a).no
  by_cases hp : p.2 = 1
  · have e : frS p = num p.1 := if_pos hp
    rw [if_pos hp, e]
    unfold L2.parts3
    rw [occ_no (c := 47) (r := []) (by decide +kernel) (fun z => (n1 _ z).2.1 rfl)]
  · have e : frS p = num p.1 ++ ("/" ++ num p.2) := (if_neg hp).trans (app_assoc _ _ _)
    rw [if_neg hp]
    unfold L2.parts3
    rw [occ_first (c := 47) (r := []) (by decide +kernel) e (fun z => (n1 _ z).2.1 rfl)]
    dsimp only
    rw [sub_left e, sub_right e]
noncomputable def prF (s : (Int × Int) × (Int × Int)) : Str := frS s.1 ++ " " ++ frS s.2
noncomputable def PrB (s : (Int × Int) × (Int × Int)) : Prop := FrB s.1 ∧ FrB s.2
noncomputable def rbody (n : Int) (ss : List ((Int × Int) × (Int × Int))) : Str := num n ++ ": " ++ Txt.join "; " (ss.map prF)
theorem prF_no {b : (Int × Int) × (Int × Int)} (h : PrB b) : 59 ∉ (prF b).cps.toList := by
  unfold prF
  rw [Str.cps_append, Str.cps_append, Array.toList_append, Array.toList_append]
  simp only [List.mem_append, not_or]
  exact ⟨⟨fun z => (frS_no h.1 _ z).2.2 rfl, by decide +kernel⟩, fun z => (frS_no h.2 _ z).2.2 rfl⟩
theorem prF_split {b : (Int × Int) × (Int × Int)} (h : PrB b) : Txt.split (prF b) " " = [frS b.1, frS b.2] := by
  have e : prF b = Txt.join " " [frS b.1, frS b.2] := by
    show _ = glued _ _
    rw [glued_eq_join]
    rfl
  rw [e]
  refine split_join (c := 32) (r := []) (by decide +kernel) (by decide +kernel) _ (by simp) fun p hp => ?_
  rcases List.mem_cons.mp hp with rfl | hp
  · exact fun z => (frS_no h.1 _ z).1 rfl
  · cases List.mem_singleton.mp hp
    exact fun z => (frS_no h.2 _ z).1 rfl
theorem prF_len {b : (Int × Int) × (Int × Int)} (h : PrB b) : (prF b).length ≤ 247 := by
  unfold prF
  rw [Str.length_append, Str.length_append]
  have := frS_len h.1
  have := frS_len h.2
  have : (" " : Str).length = 1 := by decide +kernel
  omega
theorem rbody_split {bs : List ((Int × Int) × (Int × Int))} (h0 : bs ≠ []) (h : ∀ b ∈ bs, PrB b) : Txt.split (Txt.join "; " (bs.map prF)) "; " = bs.map prF := by
  refine split_join (c := 59) (r := [32]) (by decide +kernel) (by decide +kernel) _ (by simpa using h0) fun p hp => ?_
  obtain ⟨b, hb, rfl⟩ := List.mem_map.mp hp
  exact prF_no (h b hb)
theorem rbody_parts {n : Int} (hn : n.natAbs < 10 ^ 60) (bs : List ((Int × Int) × (Int × Int))) : L2.parts3 (rbody n bs) ": " = [num n, ": ", Txt.join "; " (bs.map prF)] := by
  have e : rbody n bs = num n ++ (": " ++ Txt.join "; " (bs.map prF)) := app_assoc _ _ _
  unfold L2.parts3
  rw [occ_first (c := 58) (r := [32]) (by decide +kernel) e (fun z => ((nm_ok hn).no _ z).2.2.1 rfl)]
  dsimp only
  rw [sub_left e, sub_right e]
theorem rjoin_len {bs : List ((Int × Int) × (Int × Int))} (hl : bs.length ≤ 13) (h : ∀ b ∈ bs, PrB b) : (Txt.join "; " (bs.map prF)).length ≤ 3237 := by
  show (glued _ _).length ≤ 3237
  rw [glued_eq_join]
  refine Nat.le_trans (StrLaws.join_length_le _ _) ?_
  have e : ("; " : Str).length = 2 := by decide +kernel
  have s := sumLen_le (B := 247) (bs.map prF) fun y hy => by
    obtain ⟨b, hb, rfl⟩ := List.mem_map.mp hy
    exact prF_len (h b hb)
  rw [e]
  rw [List.length_map] at s ⊢
  omega
theorem rjoin_ok {bs : List ((Int × Int) × (Int × Int))} (hl : bs.length ≤ 13) (h : ∀ b ∈ bs, PrB b) : JoinOk "; " (bs.map prF) = true := by
  unfold JoinOk
  rw [Bool.not_eq_true']
  have e : ("; " : Str).length = 2 := by decide +kernel
  refine joinFits (B := 247) (fun y hy => ?_) ?_
  · obtain ⟨b, hb, rfl⟩ := List.mem_map.mp hy
    exact prF_len (h b hb)
  · rw [List.length_map, e]; omega
theorem rbody_len {n : Int} {bs : List ((Int × Int) × (Int × Int))} (hn : n.natAbs < 10 ^ 60) (hl : bs.length ≤ 13) (h : ∀ b ∈ bs, PrB b) : (rbody n bs).length ≤ 3300 := by
  unfold rbody
  rw [Str.length_append, Str.length_append]
  have := (nm_ok hn).len
  have := rjoin_len hl h
  have : (": " : Str).length = 2 := by decide +kernel
  omega
end Tx
set_option maxHeartbeats 4000000
namespace K50
open PySem L2 Gc Ch Tx
seal wpAny
noncomputable def top (i : Nat) : Stmt := PySem.Challenge.pw_surestretch_k50_fractions_and_rules_writ.main.body.getD i (.Pass ⟨0, 0, 0, 0⟩)
noncomputable abbrev s_whole : Stmt := top 5
noncomputable abbrev s_share : Stmt := top 6
noncomputable abbrev s_wpair : Stmt := top 7
noncomputable abbrev s_cd : Stmt := top 8
noncomputable abbrev s_und : Stmt := top 9
noncomputable abbrev s_ruleof : Stmt := top 11
noncomputable abbrev s_rowof : Stmt := top 12
noncomputable abbrev s_str : Stmt := top 13
noncomputable abbrev s_shf : Stmt := top 16
noncomputable abbrev s_show : Stmt := top 17
noncomputable abbrev s_shp : Stmt := top 18
noncomputable abbrev s_rr : Stmt := top 19
noncomputable abbrev s_rps : Stmt := top 20
noncomputable abbrev s_rp : Stmt := top 21
noncomputable abbrev s_rf : Stmt := top 22
noncomputable abbrev s_rw : Stmt := top 23
noncomputable abbrev s_atU : Stmt := top 25
noncomputable abbrev s_div : Stmt := top 26
noncomputable abbrev s_low : Stmt := top 27
noncomputable abbrev s_fgs : Stmt := top 28
noncomputable abbrev s_wrt : Stmt := top 29
noncomputable abbrev s_alk : Stmt := top 32
noncomputable abbrev s_frn : Stmt := top 30
noncomputable abbrev s_sts : Stmt := top 31
noncomputable abbrev s_law : Stmt := top 33
structure Txt (mg : Str → Option Value) : Prop where
  range : mg "range" = none
  min : mg "min" = none
  max : mg "max" = none
  len : mg "len" = none
  isinstance : mg "isinstance" = none
  int : mg "int" = none
  bool : mg "bool" = none
  str : mg "str" = none
  tuple : mg "tuple" = none
  list : mg "list" = none
  zip : mg "zip" = none
  enumerate : mg "enumerate" = none
  all : mg "all" = none
  abs : mg "abs" = none
  sorted : mg "sorted" = none
  FIGURES : ∃ t, mg "FIGURES" = some (.str "0123456789" t)
structure CA where
  StretchError : Addr
  NoRule : Addr
  NoText : Addr
structure CF (K : PySem.W.Frag) (mg : Str → Option Value) (C : CA) : Prop where
  mStretchError : mg "StretchError" = some (.ref C.StretchError)
  mNoRule : mg "NoRule" = some (.ref C.NoRule)
  mNoText : mg "NoText" = some (.ref C.NoText)
  xNoRule : XCls K mg "NoRule" C.NoRule
  iNoRule : XInst K C.NoRule
noncomputable def isW (t : Th) : Bool := isIntT t && !isBoolT t
theorem isW_shape {t : Th} (h : isW t = true) : ∃ i, t = .int i := by
  cases t <;> first | exact ⟨_, rfl⟩ | (simp [isW, isIntT, isBoolT] at h)
theorem at0 {x : V} {xs : List V} : atI (x :: xs) 0 = some x := atI_nat (xs := x :: xs) (j := 0) rfl
theorem at1 {x y : V} {xs : List V} : atI (x :: y :: xs) 1 = some y := atI_nat (xs := x :: y :: xs) (j := 1) rfl
theorem den_pair {H : Hp} {a b : Int} {v : V} (d : Den H (.tup [.int a, .int b]) v) : ∃ p, v = .ref p ∧ H p = some (.tup [.int a, .int b]) := by
  obtain ⟨p, xs, rfl, h, y, ys, e1, e2, z, zs, e3, e4, e5⟩ := d
  have e2' : y = V.int a := e2
  have e4' : z = V.int b := e4
  have e5' : zs = [] := e5
  subst e5' e4' e3 e2' e1
  exact ⟨p, rfl, h⟩
theorem getD_mem {α : Type} {l : List α} {i : Nat} {d : α} (h : i < l.length) : l.getD i d ∈ l := by rw [getD_in h]; exact List.getElem_mem h
theorem den_p {H : Hp} {p : Addr} {a b : Int} (h : H p = some (.tup [.int a, .int b])) : Den H (.tup [.int a, .int b]) (.ref p) := ⟨p, _, rfl, h, _, _, rfl, rfl, _, _, rfl, rfl, rfl⟩
theorem den2 {H : Hp} {p : Addr} {x y : V} {a b : Th} (h : H p = some (.tup [x, y])) (d1 : Den H a x) (d2 : Den H b y) : Den H (.tup [a, b]) (.ref p) := ⟨p, _, rfl, h, _, _, rfl, d1, _, _, rfl, d2, rfl⟩
theorem passN {P : Program} {w : World} {X : Cx} : Passes (CXX P w) X E0 := fun _ _ _ _ _ _ _ h => (cxx_never h).elim
theorem boot_sorted : bootBuiltins "sorted" = some (.builtin "sorted") := by decide +kernel
theorem boot_str : bootBuiltins "str" = some (.type "str") := by decide +kernel
theorem lt40 {n : Nat} (h : n ≤ 40) : n < sizeLine := Nat.lt_of_le_of_lt h (by decide)
theorem le200 {n : Nat} (h : n ≤ 4000) : n ≤ sizeLine := Nat.le_trans h (by decide)
theorem iteF' {c : Bool} {A B : Prop} (h : c = false) (b : B) : if c = true then A else B := by rw [h, if_neg Bool.false_ne_true]; exact b
theorem iteT2 {c : Bool} {A B : Prop} (h : c = true) (a : A) : if c = true then A else B := by rw [if_pos h]; exact a
section
variable {P : Program} {w : World} {K : PySem.W.Frag} {mg : Str → Option Value} {base : Heap}
noncomputable def spWhole : Sp := fun vs H Q _ => ∃ x t, vs = [x] ∧ Den H t x ∧ Q (.bl (isW t)) H
theorem sc_whole : FnScope ["thing"] ["thing"] (defScope s_whole) := ⟨rfl, rfl, rfl, by decide +kernel, rfl, by decide +kernel, by decide +kernel⟩
theorem ok_whole {f : Addr} {fd : FuncData} (F : Fun K "is_whole" "is_whole" s_whole f fd) (T : Txt mg) : FnOk P w K mg base CX0 1 f fd ["thing"] spWhole := by
  refine F.ok sc_whole (fun vs H Q E h => ?_) (fun cdv A outer s H vs Q E hr h => ?_)
  · obtain ⟨x, t, rfl, _⟩ := h
    rfl
  obtain ⟨x, t, rfl, d, q⟩ := h
  refine ⟨_, (pss_one (ps_ret (pe_and (pe_callB call_isinstD rfl T.isinstance boot_isinstance (pa_cons (pv 0) (pa_cons (pe_bltn (v := .ty "int") rfl T.int boot_int rfl) pa_nil))) (pe_one (pe_not (pe_callB call_isinstD rfl T.isinstance boot_isinstance (pa_cons (pv 0) (pa_cons (pe_bltn (v := .ty "bool") rfl T.bool boot_bool rfl) pa_nil)))))))), ?_⟩
  refine ⟨_, rfl, x, t, _, _, rfl, d, kit_int t, _, rfl, ?_⟩
  cases hi : isIntT t with
  | false =>
    unfold isW at q
    rw [hi, Bool.false_and] at q
    exact iteF q
  | true =>
    unfold isW at q
    rw [hi, Bool.true_and] at q
    exact iteT ⟨_, rfl, x, t, _, _, rfl, d, kit_bool t, _, rfl, q⟩
noncomputable def pairT : Th → Bool
  | .tup [a, b] => isW a && isW b
  | _ => false
noncomputable def shareT (t : Th) : Bool := pairT t && (match t with
  | .tup [.int a, .int b] => decide (1 ≤ b) && (decide (0 ≤ a) && (decide (a ≤ b) && decide (Int.gcd a b = 1)))
  | _ => false)
theorem pair_shape {t : Th} (h : pairT t = true) : ∃ a b, t = .tup [.int a, .int b] := by
  match t, h with
  | .tup [a, b], h =>
    have h' : (isW a && isW b) = true := h
    rw [Bool.and_eq_true] at h'
    obtain ⟨i, rfl⟩ := isW_shape h'.1
    obtain ⟨j, rfl⟩ := isW_shape h'.2
    exact ⟨i, j, rfl⟩
theorem share_not {t : Th} (h : pairT t = false) : shareT t = false := by unfold shareT; rw [h]; rfl
noncomputable def spWpair : Sp := fun vs H Q _ => ∃ x t, vs = [x] ∧ Den H t x ∧ Q (.bl (pairT t)) H
theorem pair_len {ts : List Th} (h : ts.length ≠ 2) : pairT (.tup ts) = false := by
  match ts, h with
  | [], _ => rfl
  | [_], _ => rfl
  | [_, _], h => exact absurd rfl h
  | _ :: _ :: _ :: _, _ => rfl
theorem sc_wpair : FnScope ["thing"] ["thing"] (defScope s_wpair) := ⟨rfl, rfl, rfl, by decide +kernel, rfl, by decide +kernel, by decide +kernel⟩
theorem ok_wpair {f : Addr} {fd : FuncData} (F : Fun K "is_whole_pair" "is_whole_pair" s_wpair f fd) (T : Txt mg) {fwhole : Addr} {dwhole : FuncData} (Gwhole : FnOk P w K mg base CX0 1 fwhole dwhole ["thing"] spWhole) (bwhole : Binds K dwhole ["thing"] []) (kwhole : PySem.W.keepIn K (.ref fwhole) = true) (mwhole : mg "is_whole" = some (.ref fwhole)) : FnOk P w K mg base CX0 2 f fd ["thing"] spWpair := by
  refine F.ok sc_wpair (fun vs H Q E h => ?_) (fun cdv A outer s H vs Q E hr h => ?_)
  · obtain ⟨x, t, rfl, _⟩ := h
    rfl
  obtain ⟨x, t, rfl, d, q⟩ := h
  refine ⟨_, (pss_one (ps_ret (pe_and (pe_callB call_isinstD rfl T.isinstance boot_isinstance (pa_cons (pv 0) (pa_cons (pe_bltn (v := .ty "tuple") rfl T.tuple boot_tuple rfl) pa_nil))) (pe_and (pe_cmpR op_eq (pe_callB call_len_seq rfl T.len boot_len (pa_cons (pv 0) pa_nil)) pe_int (nomark _)) (pe_and (pe_call Gwhole hr rfl mwhole kwhole bwhole .nil pass0 (pa_cons (pe_ix ix_tup (pv 0) pe_int (fun _ _ => rfl)) pa_nil)) (pe_one (pe_call Gwhole hr rfl mwhole kwhole bwhole .nil pass0 (pa_cons (pe_ix ix_tup (pv 0) pe_int (fun _ _ => rfl)) pa_nil)))))))), ?_⟩
  refine ⟨_, rfl, x, t, _, _, rfl, d, kit_tuple t, _, rfl, ?_⟩
  cases t with
  | tup ts =>
    refine iteT ?_
    obtain ⟨p, xs, rfl, hH, dd⟩ := d
    refine ⟨_, rfl, p, xs, rfl, .inr (SqT.of hH), rfl, _, rfl, ?_⟩
    refine ite2 (fun c => ?_) (fun c => ?_)
    · have c' : V.int (xs.length : Int) = V.int 2 := of_decide_eq_true c
      have c2 : xs.length = 2 := by injection c' with z; omega
      rw [dd.len] at c2
      match ts, c2, dd, q with
      | [a, b], _, dd, q =>
        obtain ⟨y, ys, rfl, d1, z, zs, rfl, d2, e5⟩ := dd
        have e5' : zs = [] := e5
        subst e5'
        refine ⟨_, rfl, p, _, 0, _, rfl, rfl, SqT.of hH, at0, y, a, rfl, d1, _, rfl, ?_⟩
        have q' : Q (.bl (isW a && isW b)) H := q
        cases ha : isW a with
        | false => rw [ha, Bool.false_and] at q'; exact iteF q'
        | true =>
          rw [ha, Bool.true_and] at q'
          exact iteT ⟨_, rfl, p, _, 1, _, rfl, rfl, SqT.of hH, at1, z, b, rfl, d2, q'⟩
    · have c2 : ts.length ≠ 2 := fun z => c (decide_eq_true (by rw [dd.len, z] <;> rfl))
      rw [pair_len c2] at q
      exact q
  | non => exact iteF q
  | bl _ => exact iteF q
  | int _ => exact iteF q
  | str _ => exact iteF q
  | lst _ => exact iteF q
  | emp => exact iteF q
  | dic => exact iteF q
noncomputable def spCd : Sp := fun vs H Q _ => ∃ a b : Int, vs = [.int a, .int b] ∧ 0 ≤ a ∧ 0 ≤ b ∧ Q (.int (Int.gcd a b)) H
noncomputable def mu2 (σ : St) : Nat := match σ with
  | _ :: some (.int y) :: _ => y.toNat
  | _ => 0
theorem sc_cd : FnScope ["one", "other", "rest"] ["one", "other"] (defScope s_cd) := ⟨rfl, rfl, rfl, by decide +kernel, rfl, by decide +kernel, by decide +kernel⟩
theorem ok_cd {f : Addr} {fd : FuncData} (F : Fun K "common_divisor" "common_divisor" s_cd f fd) (T : Txt mg) : FnOk P w K mg base CX0 1 f fd ["one", "other"] spCd := by
  refine F.ok sc_cd (fun vs H Q E h => ?_) (fun cdv A outer s H vs Q E hr h => ?_)
  · obtain ⟨a, b, rfl, _⟩ := h
    rfl
  obtain ⟨a, b, rfl, ha, hb, q⟩ := h
  refine ⟨_, (pss_cons (ps_while PassesOwn.never (pt_cmpR op_ne (pv 1) pe_int (nomark _)) (pss_cons (ps_set (i := 2) sc_cd.nd rfl (Or.inl rfl) (pe_op op_mod (pv 0) (pv 1)))
      (pss_cons (ps_set (i := 0) sc_cd.nd rfl (Or.inl rfl) (pv 1))
      (pss_one (ps_set (i := 1) sc_cd.nd rfl (Or.inl rfl) (pv 2))))))
    (pss_one (ps_ret (pv 0)))), ?_⟩
  refine while_by (fun σ H' => H' = H ∧ ∃ x y v, σ = [some (.int x), some (.int y), v] ∧ 0 ≤ x ∧ 0 ≤ y ∧ Int.gcd x y = Int.gcd a b) (fun σ _ => mu2 σ) ⟨rfl, a, b, none, rfl, ha, hb, rfl⟩ ?_ ?_
  · rintro σ H' ⟨rfl, x, y, v, rfl, hx, hy, g⟩
    refine ⟨_, rfl, rfl, _, rfl, ?_⟩
    refine ite2 (fun c => ?_) (fun c => ?_)
    · have c' : y ≠ 0 := by rintro rfl; exact absurd c (by decide)
      have hm := Int.emod_nonneg x c'
      have hl := Int.emod_lt_of_pos x (show 0 < y by omega)
      refine ⟨_, rfl, _, rfl, _, _, rfl, rfl, (by show 0 < y; omega), _, rfl, _, rfl, ?_⟩
      refine ⟨⟨rfl, y, x % y, some (.int (x % y)), rfl, hy, hm, by rw [gstep hx hy c']; exact g⟩, ?_⟩
      show (x % y).toNat < y.toNat
      omega
    · have c' : y = 0 := by
        by_cases z : y = 0
        · exact z
        · exact absurd (show (!decide (V.int y = V.int 0)) = true by rw [decide_eq_false (fun w => z (by injection w))]; rfl) c
      subst c'
      refine ⟨_, rfl, ?_⟩
      rw [← g, gend hx] at q
      exact q
  · intro σ H Q Q' hq h
    obtain ⟨v, e, h1, k, e2, h2⟩ := h
    exact ⟨v, e, h1, k, e2, hq _ _ h2⟩
noncomputable def spShare : Sp := fun vs H Q _ => ∃ x t, vs = [x] ∧ Den H t x ∧ Q (.bl (shareT t)) H
theorem share_gcd {a b : Int} : (decide (V.int (Int.gcd a b : Int) = V.int 1)) = decide (Int.gcd a b = 1) := by
  apply decide_eq_decide.mpr
  constructor
  · intro h; injection h with z; omega
  · intro h; rw [h]; rfl
theorem sc_share : FnScope ["thing", "top", "bottom"] ["thing"] (defScope s_share) := ⟨rfl, rfl, rfl, by decide +kernel, rfl, by decide +kernel, by decide +kernel⟩
theorem ok_share {f : Addr} {fd : FuncData} (F : Fun K "is_share" "is_share" s_share f fd) (T : Txt mg) {fwpair : Addr} {dwpair : FuncData} (Gwpair : FnOk P w K mg base CX0 2 fwpair dwpair ["thing"] spWpair) (bwpair : Binds K dwpair ["thing"] []) (kwpair : PySem.W.keepIn K (.ref fwpair) = true) (mwpair : mg "is_whole_pair" = some (.ref fwpair)) {fcd : Addr} {dcd : FuncData} (Gcd : FnOk P w K mg base CX0 2 fcd dcd ["one", "other"] spCd) (bcd : Binds K dcd ["one", "other"] []) (kcd : PySem.W.keepIn K (.ref fcd) = true) (mcd : mg "common_divisor" = some (.ref fcd)) : FnOk P w K mg base CX0 3 f fd ["thing"] spShare := by
  refine F.ok sc_share (fun vs H Q E h => ?_) (fun cdv A outer s H vs Q E hr h => ?_)
  · obtain ⟨x, t, rfl, _⟩ := h
    rfl
  obtain ⟨x, t, rfl, d, q⟩ := h
  refine ⟨_, (pss_cons (ps_if (pt_not (pt_val (pe_call Gwpair hr rfl mwpair kwpair bwpair .nil pass0 (pa_cons (pv 0) pa_nil)))) (pss_one (ps_ret pe_bl)) pss_nil)
    (pss_cons (ps_set (i := 1) sc_share.nd rfl (Or.inl rfl) (pe_ix ix_tup (pv 0) pe_int (fun _ _ => rfl)))
    (pss_cons (ps_set (i := 2) sc_share.nd rfl (Or.inl rfl) (pe_ix ix_tup (pv 0) pe_int (fun _ _ => rfl)))
    (pss_one (ps_ret (pe_and (pe_cmpR op_ge (pv 2) pe_int (nomark _)) (pe_and (pe_chain op_le op_le pe_int (pv 1) (pv 2)) (pe_one (pe_cmpR op_eq (pe_call Gcd hr rfl mcd kcd bcd .nil pass0 (pa_cons (pv 1) (pa_cons (pv 2) pa_nil))) pe_int (nomark _)))))))))), ?_⟩
  refine ⟨_, rfl, x, t, rfl, d, _, rfl, ?_⟩
  cases hp : pairT t with
  | false =>
    rw [share_not hp] at q
    exact iteT q
  | true =>
    obtain ⟨a, b, rfl⟩ := pair_shape hp
    obtain ⟨p, rfl, hH⟩ := den_pair d
    refine iteF ?_
    refine ⟨_, rfl, p, _, 0, _, rfl, rfl, SqT.of hH, at0, ?_⟩
    refine ⟨_, rfl, p, _, 1, _, rfl, rfl, SqT.of hH, at1, ?_⟩
    have q' : Q (.bl (decide (1 ≤ b) && (decide (0 ≤ a) && (decide (a ≤ b) && decide (Int.gcd a b = 1))))) H := q
    refine ⟨_, rfl, _, _, rfl, rfl, _, rfl, ?_⟩
    refine ite2 (fun c => ?_) (fun c => ?_)
    · rw [c, Bool.true_and] at q'
      refine ⟨_, rfl, _, _, rfl, rfl, _, rfl, ?_⟩
      refine ite2 (fun c2 => ?_) (fun c2 => ?_)
      · rw [c2, Bool.true_and] at q'
        refine ⟨_, rfl, _, _, rfl, rfl, _, rfl, ?_⟩
        refine ite2 (fun c3 => ?_) (fun c3 => ?_)
        · rw [c3, Bool.true_and] at q'
          refine ⟨_, rfl, _, rfl, a, b, rfl, of_decide_eq_true c2, ?_, rfl, ?_⟩
          · have := of_decide_eq_true c; omega
          rw [share_gcd]; exact q'
        · rw [Bool.eq_false_iff.mpr c3, Bool.false_and] at q'
          exact q'
      · rw [Bool.eq_false_iff.mpr c2, Bool.false_and] at q'
        exact ⟨_, rfl, iteF q'⟩
    · rw [Bool.eq_false_iff.mpr c, Bool.false_and] at q'
      exact q'
theorem kit_lt {K : PySem.W.Frag} (t : Th) : PySem.W.kitAny K (tyTh t) (["list", "tuple"].map Value.type) = some (isLstT t || isTupT t) := by cases t <;> rfl
noncomputable def seqOf : Th → Option (List Th)
  | .lst ts => some ts
  | .tup ts => some ts
  | _ => none
noncomputable def rowB (t : Th) (c : Int) : Bool := match seqOf t with
  | some ts => decide ((ts.length : Int) = c)
  | none => false
theorem seq_den {H : Hp} {t : Th} {ts : List Th} {v : V} (h : seqOf t = some ts) (d : Den H t v) : ∃ a xs, v = .ref a ∧ SeqAt2 H a xs ∧ Dens H ts xs := by
  cases t with
  | lst us =>
    cases h
    obtain ⟨a, xs, e, h1, h2⟩ := d
    exact ⟨a, xs, e, .inl h1, h2⟩
  | tup us =>
    cases h
    obtain ⟨a, xs, e, h1, h2⟩ := d
    exact ⟨a, xs, e, .inr h1, h2⟩
  | non => cases h
  | bl _ => cases h
  | int _ => cases h
  | str _ => cases h
  | emp => cases h
  | dic => cases h
theorem row_seq {t : Th} {c : Int} (h : rowB t c = true) : ∃ ts, seqOf t = some ts ∧ (ts.length : Int) = c := by
  unfold rowB at h
  cases e : seqOf t with
  | none => rw [e] at h; cases h
  | some ts => rw [e] at h; exact ⟨ts, rfl, of_decide_eq_true h⟩
theorem row_two {t : Th} (h : rowB t 2 = true) : ∃ x y, seqOf t = some [x, y] := by
  obtain ⟨ts, e, l⟩ := row_seq h
  match ts, l with
  | [x, y], _ => exact ⟨x, y, e⟩
theorem dec_int {a b : Int} : decide (V.int a = V.int b) = decide (a = b) := decide_eq_decide.mpr ⟨fun h => by injection h, fun h => by rw [h]⟩
noncomputable def spRowT : Sp := fun vs H Q _ => ∃ (x : V) (c : Int) (t : Th), vs = [x, .int c] ∧ Den H t x ∧ ∀ H', Same H H' → Q (.bl (rowB t c)) H'
theorem sc_rowof : FnScope ["thing", "count"] ["thing", "count"] (defScope s_rowof) := ⟨rfl, rfl, rfl, by decide +kernel, rfl, by decide +kernel, by decide +kernel⟩
theorem ok_rowof {f : Addr} {fd : FuncData} (F : Fun K "is_row_of" "is_row_of" s_rowof f fd) (T : Txt mg) : FnOk P w K mg base CX0 1 f fd ["thing", "count"] spRowT := by
  refine F.ok sc_rowof (fun vs H Q E h => ?_) (fun cdv A outer s H vs Q E hr h => ?_)
  · obtain ⟨x, c, t, rfl, _⟩ := h
    rfl
  obtain ⟨x, c, t, rfl, d, q⟩ := h
  refine ⟨_, (pss_one (ps_ret (pe_and (pe_callB call_isinstT rfl T.isinstance boot_isinstance (pa_cons (pv 0) (pa_cons (pe_tup (pa_cons (pe_bltn (v := .ty "list") rfl T.list boot_list rfl) (pa_cons (pe_bltn (v := .ty "tuple") rfl T.tuple boot_tuple rfl) pa_nil))) pa_nil))) (pe_one (pe_cmpR op_eq (pe_callB call_len_seq rfl T.len boot_len (pa_cons (pv 0) pa_nil)) (pv 1) (nomark _)))))), ?_⟩
  refine ⟨_, rfl, (by show 2 ≤ sizeLine; decide), fun p hp => ?_⟩
  have s1 := same_new hp (.tup [V.ty "list", V.ty "tuple"])
  refine ⟨x, p, t, ["list", "tuple"], _, rfl, upd_same, d.keep s1, kit_lt t, _, rfl, ?_⟩
  have q1 := q _ s1
  cases t with
  | lst ts =>
    obtain ⟨a, xs, rfl, h1, dd⟩ := d
    refine iteT ⟨_, rfl, a, xs, rfl, .inl (SqL.of (s1 _ _ h1)), _, rfl, rfl, ?_⟩
    show Q (.bl (decide (V.int (xs.length : Int) = V.int c))) _
    rw [dec_int, dd.len]
    exact q1
  | tup ts =>
    obtain ⟨a, xs, rfl, h1, dd⟩ := d
    refine iteT ⟨_, rfl, a, xs, rfl, .inr (SqT.of (s1 _ _ h1)), _, rfl, rfl, ?_⟩
    show Q (.bl (decide (V.int (xs.length : Int) = V.int c))) _
    rw [dec_int, dd.len]
    exact q1
  | non => exact iteF q1
  | bl _ => exact iteF q1
  | int _ => exact iteF q1
  | str _ => exact iteF q1
  | emp => exact iteF q1
  | dic => exact iteF q1
theorem cut_tail {ws : List V} (h : 1 ≤ ws.length) : cutV ws (some 1) none = ws.drop 1 := by
  have h1 : HT.sIx ws.length 0 (some 1) = 1 := by
    rw [show (1 : Int) = ((1 : Nat) : Int) from rfl, HT.sIx_nat]
    omega
  unfold cutV
  rw [h1, HT.sIx_none, List.take_of_length_le (by simp)]
noncomputable abbrev Fq := Int × Int
noncomputable abbrev Sq := Fq × Fq
noncomputable def ppT (p : Fq) : Th := .tup [.int p.1, .int p.2]
noncomputable def ssT (s : Sq) : Th := .tup [ppT s.1, ppT s.2]
noncomputable def shOf (t : Th) : Option Fq := if shareT t = true then (match t with
  | .tup [.int a, .int b] => some (a, b)
  | _ => none) else none
theorem sh_yes {t : Th} (h : shareT t = true) : ∃ p, t = ppT p ∧ shOf t = some p := by
  have hp : pairT t = true := by
    cases e : pairT t with
    | true => rfl
    | false => rw [share_not e] at h; cases h
  obtain ⟨a, b, rfl⟩ := pair_shape hp
  exact ⟨(a, b), rfl, by unfold shOf; rw [if_pos h]⟩
theorem sh_no {t : Th} (h : shareT t = false) : shOf t = none := by unfold shOf; rw [if_neg (by rw [h]; exact Bool.false_ne_true)]
noncomputable def st2 (t : Th) : Option Sq := match seqOf t with
  | some [x, y] => (shOf x).bind fun p => (shOf y).bind fun q => some (p, q)
  | _ => none
noncomputable def und2 (p q : Fq) : Bool := decide (p.1 * q.2 < q.1 * p.2)
noncomputable def Sm2 (p : Fq) : Prop := Smk p.1 ∧ Smk p.2
theorem den_pp {H : Hp} {p : Fq} {v : V} (d : Den H (ppT p) v) : ∃ a, v = .ref a ∧ H a = some (.tup [.int p.1, .int p.2]) := den_pair d
theorem den_ss {H : Hp} {s : Sq} {v : V} (d : Den H (ssT s) v) : ∃ c a b, v = .ref c ∧ H c = some (.tup [.ref a, .ref b]) ∧ H a = some (.tup [.int s.1.1, .int s.1.2]) ∧ H b = some (.tup [.int s.2.1, .int s.2.2]) := by
  obtain ⟨c, xs, rfl, h, y, ys, rfl, d1, z, zs, rfl, d2, e⟩ := d
  have e' : zs = [] := e
  subst e'
  obtain ⟨a, rfl, ha⟩ := den_pp d1
  obtain ⟨b, rfl, hb⟩ := den_pp d2
  exact ⟨c, a, b, rfl, h, ha, hb⟩
noncomputable def spUndI : Sp := fun vs H Q _ => ∃ (f g : Addr) (p q : Fq), vs = [.ref f, .ref g] ∧ H f = some (.tup [.int p.1, .int p.2]) ∧ H g = some (.tup [.int q.1, .int q.2]) ∧ Sm2 p ∧ Sm2 q ∧ Q (.bl (und2 p q)) H
theorem sc_und : FnScope ["one", "other"] ["one", "other"] (defScope s_und) := ⟨rfl, rfl, rfl, by decide +kernel, rfl, by decide +kernel, by decide +kernel⟩
theorem ok_und {f : Addr} {fd : FuncData} (F : Fun K "under" "under" s_und f fd) (T : Txt mg) : FnOk P w K mg base CX0 1 f fd ["one", "other"] spUndI := by
  refine F.ok sc_und (fun vs H Q E h => ?_) (fun cdv A outer s H vs Q E hr h => ?_)
  · obtain ⟨f, g, p, q, rfl, _⟩ := h
    rfl
  obtain ⟨f, g, p, q, rfl, h1, h2, t, u, k⟩ := h
  refine ⟨_, (pss_one (ps_ret (pe_cmpR op_lt (pe_op op_mulK (pe_ix ix_tup (pv 0) pe_int (fun _ _ => rfl)) (pe_ix ix_tup (pv 1) pe_int (fun _ _ => rfl))) (pe_op op_mulK (pe_ix ix_tup (pv 1) pe_int (fun _ _ => rfl)) (pe_ix ix_tup (pv 0) pe_int (fun _ _ => rfl))) (nomark _)))), ?_⟩
  exact ⟨_, rfl, f, _, 0, _, rfl, rfl, SqT.of h1, at0, _, rfl, g, _, 1, _, rfl, rfl, SqT.of h2, at1, _, _, rfl, rfl, ⟨t.1, u.2⟩, _, rfl, g, _, 0, _, rfl, rfl, SqT.of h2, at0, _, rfl, f, _, 1, _, rfl, rfl, SqT.of h1, at1, _, _, rfl, rfl, ⟨u.1, t.2⟩, _, _, rfl, rfl, k⟩
noncomputable def spStrX (C : CA) : Sp := fun vs H Q E => ∃ (x : V) (t : Th), vs = [x] ∧ Den H t x ∧ (∀ s, st2 t = some s → Sm2 s.1 ∧ Sm2 s.2) ∧ (∀ s, st2 t = some s → und2 s.2 s.1 = false → ∀ p H', Same H H' → Den H' (ssT s) (.ref p) → Q (.ref p) H') ∧
  ((∀ s, st2 t = some s → und2 s.2 s.1 = true) → ∀ H', Same H H' → E (.ref C.NoRule) none H')
theorem sc_str : FnScope ["thing", "low", "high"] ["thing"] (defScope s_str) := ⟨rfl, rfl, rfl, by decide +kernel, rfl, by decide +kernel, by decide +kernel⟩
theorem ok_str {C : CA} {f : Addr} {fd : FuncData} (F : Fun K "stretch_of" "stretch_of" s_str f fd) (T : Txt mg) (cf : CF K mg C) {frowof : Addr} {drowof : FuncData} (Growof : FnOk P w K mg base CX0 4 frowof drowof ["thing", "count"] spRowT) (browof : Binds K drowof ["thing", "count"] []) (krowof : PySem.W.keepIn K (.ref frowof) = true) (mrowof : mg "is_row_of" = some (.ref frowof)) {fshare : Addr} {dshare : FuncData} (Gshare : FnOk P w K mg base CX0 4 fshare dshare ["thing"] spShare) (bshare : Binds K dshare ["thing"] []) (kshare : PySem.W.keepIn K (.ref fshare) = true) (mshare : mg "is_share" = some (.ref fshare)) {fund : Addr} {dund : FuncData} (Gund : FnOk P w K mg base CX0 4 fund dund ["one", "other"] spUndI) (bund : Binds K dund ["one", "other"] []) (kund : PySem.W.keepIn K (.ref fund) = true) (mund : mg "under" = some (.ref fund)) : FnOk P w K mg base (CXX P w) 5 f fd ["thing"] (spStrX C) := by
  refine F.okX sc_str (fun vs H Q E h => ?_) (fun cdv A outer s H vs Q E hr h => ?_)
  · obtain ⟨x, t, rfl, _⟩ := h
    rfl
  obtain ⟨x, t, rfl, d, hsm, q1, q2⟩ := h
  refine ⟨_, (pss_cons (ps_if (pt_not (pt_val (pe_call Growof hr rfl mrowof krowof browof .nil pass0 (pa_cons (pv 0) (pa_cons pe_int pa_nil))))) (pss_one (ps_raise reachOf rfl cf.xNoRule rfl (pa_cons pe_str pa_nil))) pss_nil)
    (pss_cons (ps_set (i := 1) sc_str.nd rfl (Or.inl rfl) (pe_ix ix_seq (pv 0) pe_int (fun _ _ => rfl)))
    (pss_cons (ps_set (i := 2) sc_str.nd rfl (Or.inl rfl) (pe_ix ix_seq (pv 0) pe_int (fun _ _ => rfl)))
    (pss_cons (ps_if (PW.pt (pw_or (pt_not (pt_val (pe_call Gshare hr rfl mshare kshare bshare .nil pass0 (pa_cons (pv 1) pa_nil)))) (pw_or1 (pt_not (pt_val (pe_call Gshare hr rfl mshare kshare bshare .nil pass0 (pa_cons (pv 2) pa_nil))))))) (pss_one (ps_raise reachOf rfl cf.xNoRule rfl (pa_cons pe_str pa_nil))) pss_nil)
    (pss_cons (ps_if (pt_val (pe_call Gund hr rfl mund kund bund .nil pass0 (pa_cons (pv 2) (pa_cons (pv 1) pa_nil)))) (pss_one (ps_raise reachOf rfl cf.xNoRule rfl (pa_cons pe_str pa_nil))) pss_nil)
    (pss_one (ps_ret (pe_tup (pa_cons (pv 1) (pa_cons (pv 2) pa_nil)))))))))), ?_⟩
  have one : 1 ≤ sizeLine := by decide
  refine ⟨_, rfl, x, 2, t, rfl, d, fun H1 s1 => ⟨_, rfl, ?_⟩⟩
  cases hr2 : rowB t 2 with
  | false =>
    refine iteT ⟨one, q2 (fun s hs => ?_) _ s1⟩
    exfalso
    unfold st2 at hs
    unfold rowB at hr2
    split at hs
    · rename_i e
      rw [e] at hr2
      exact absurd hr2 (by simp)
    · cases hs
  | true =>
    obtain ⟨t0, t1, e2⟩ := row_two hr2
    obtain ⟨a, xs, rfl, sq, dd⟩ := seq_den e2 d
    obtain ⟨y, ys, rfl, d0, z, zs, rfl, d1, e5⟩ := dd
    have e5' : zs = [] := e5
    subst e5'
    refine iteF ?_
    have sq1 := sq.keep s1
    have es : st2 t = (shOf t0).bind fun p => (shOf t1).bind fun q => some (p, q) := by unfold st2; rw [e2]
    refine ⟨_, rfl, sq1.ix at0 ?_⟩
    refine ⟨_, rfl, sq1.ix at1 ?_⟩
    refine ⟨_, rfl, y, t0, rfl, d0.keep s1, _, rfl, ?_⟩
    cases h0 : shareT t0 with
    | false =>
      refine iteT (iteT ⟨one, q2 (fun s hs => ?_) _ s1⟩)
      rw [es, sh_no h0] at hs
      cases hs
    | true =>
      refine iteF ⟨_, rfl, z, t1, rfl, d1.keep s1, _, rfl, ?_⟩
      cases h1 : shareT t1 with
      | false =>
        refine iteT ⟨one, q2 (fun s hs => ?_) _ s1⟩
        obtain ⟨p, _, ep⟩ := sh_yes h0
        rw [es, ep, sh_no h1] at hs
        cases hs
      | true =>
        refine iteF ?_
        obtain ⟨p, rfl, ep⟩ := sh_yes h0
        obtain ⟨q, rfl, eq⟩ := sh_yes h1
        have e3 : st2 t = some (p, q) := by rw [es, ep, eq]; rfl
        obtain ⟨m1, m2⟩ := hsm _ e3
        obtain ⟨b, rfl, hb⟩ := den_pp (d0.keep s1)
        obtain ⟨c, rfl, hc⟩ := den_pp (d1.keep s1)
        refine ⟨_, rfl, _, rfl, c, b, q, p, rfl, hc, hb, m2, m1, _, rfl, ?_⟩
        cases hu : und2 q p with
        | true => exact iteT ⟨one, q2 (fun s hs => by rw [e3] at hs; cases hs; exact hu) _ s1⟩
        | false =>
          refine iteF ⟨_, rfl, _, rfl, (by show 2 ≤ sizeLine; decide), fun m hm => ?_⟩
          have s2 := same_new hm (.tup [V.ref b, V.ref c])
          exact q1 (p, q) e3 hu m _ (s1.trans s2) (den2 upd_same (den_p (s2 _ _ hb)) (den_p (s2 _ _ hc)))
noncomputable def RisU (ps : List Sq) : Prop := ∀ i p q, ps[i]? = some p → ps[i + 1]? = some q → und2 q.1 p.1 = false ∧ und2 q.2 p.2 = false
structure GoodU (A S : Th) (n : Int) (ps : List Sq) : Prop where
  a : A = .int n
  seq : ∃ ts, seqOf S = some ts ∧ ts.map st2 = ps.map some
  n1 : 1 ≤ n
  n12 : n ≤ 12
  len : (ps.length : Int) = n + 1
  inn : ∀ p ∈ ps, und2 p.2 p.1 = false
  ris : RisU ps
noncomputable def ruT (n : Int) (ps : List Sq) : Th := .tup [.int n, .tup (ps.map ssT)]
theorem dens_snoc {H : Hp} : ∀ {ts : List Th} {xs : List V} {t : Th} {v : V}, Dens H ts xs → Den H t v → Dens H (ts ++ [t]) (xs ++ [v])
  | [], xs, t, v, h, d => by
    rw [show xs = [] from h]
    exact ⟨v, [], rfl, d, rfl⟩
  | u :: us, xs, t, v, ⟨y, ys, e, d1, d2⟩, d => by
    rw [e]
    exact ⟨y, ys ++ [v], rfl, d1, dens_snoc d2 d⟩
theorem map_snoc {ts : List Th} {ps : List Sq} {i : Nat} {t : Th} {a : Sq} (h : (ts.take i).map st2 = ps.map some) (e : ts[i]? = some t) (ha : st2 t = some a) : (ts.take (i + 1)).map st2 = (ps ++ [a]).map some := by
  rw [List.take_add_one, e, List.map_append, List.map_append, h]
  show _ ++ [st2 t] = _
  rw [ha]
  rfl
theorem map_at {ts : List Th} {ps : List Sq} (h : ts.map st2 = ps.map some) {i : Nat} {t : Th} (e : ts[i]? = some t) : ∃ p, ps[i]? = some p ∧ st2 t = some p := by
  have h1 : (ts.map st2)[i]? = some (st2 t) := by rw [List.getElem?_map, e]; rfl
  rw [h, List.getElem?_map] at h1
  cases q : ps[i]? with
  | none => rw [q] at h1; cases h1
  | some p => rw [q] at h1; exact ⟨p, rfl, (Option.some.inj h1).symm⟩
theorem some_inj : ∀ {ps qs : List Sq}, ps.map some = qs.map some → ps = qs
  | [], [], _ => rfl
  | [], _ :: _, h => by cases h
  | _ :: _, [], h => by cases h
  | p :: ps, q :: qs, h => by
    rw [List.map_cons, List.map_cons] at h
    injection h with h1 h2
    injection h1 with h1
    rw [h1, some_inj h2]
theorem dens_write {H : Hp} {l : Addr} {zs ws : List V} (hl : H l = some (.lst zs)) : ∀ {ts : List Th} {xs : List V}, (∀ t ∈ ts, ∃ p, t = ssT p) → Dens H ts xs → Dens (upd H l (.lst ws)) ts xs
  | [], _, _, h => h
  | t :: ts, xs, ht, ⟨y, ys, e, d1, d2⟩ => by
    obtain ⟨p, rfl⟩ := ht t (by simp)
    obtain ⟨c, a, b, rfl, hc, ha, hb⟩ := den_ss d1
    have k : ∀ {x o}, H x = some (.tup o) → upd H l (.lst ws) x = some (.tup o) := fun h => by rw [upd_ne (ne_of h hl (by intro z; cases z))]; exact h
    exact ⟨.ref c, ys, e, den2 (k hc) (den_p (k ha)) (den_p (k hb)), dens_write hl (fun t' h' => ht t' (by simp [h'])) d2⟩
noncomputable def spRuX (C : CA) : Sp := fun vs H Q E => ∃ (x z : V) (A S : Th), vs = [x, z] ∧ Den H A x ∧ Den H S z ∧ (∀ ts, seqOf S = some ts → ∀ t ∈ ts, ∀ s, st2 t = some s → Sm2 s.1 ∧ Sm2 s.2) ∧ (∀ n ps, GoodU A S n ps → ∀ p H', Same H H' → Den H' (ruT n ps) (.ref p) → Q (.ref p) H') ∧
  ((∀ n ps, ¬ GoodU A S n ps) → ∀ H', Same H H' → E (.ref C.NoRule) none H')
theorem sc_ruleof : FnScope ["n", "stretches", "kept", "ahead", "behind"] ["n", "stretches"] (defScope s_ruleof) := ⟨rfl, rfl, rfl, by decide +kernel, rfl, by decide +kernel, by decide +kernel⟩
theorem ok_ruleof {C : CA} {f : Addr} {fd : FuncData} (F : Fun K "rule_of" "rule_of" s_ruleof f fd) (T : Txt mg) (cf : CF K mg C) {fwhole : Addr} {dwhole : FuncData} (Gwhole : FnOk P w K mg base CX0 5 fwhole dwhole ["thing"] spWhole) (bwhole : Binds K dwhole ["thing"] []) (kwhole : PySem.W.keepIn K (.ref fwhole) = true) (mwhole : mg "is_whole" = some (.ref fwhole)) {frowof : Addr} {drowof : FuncData} (Growof : FnOk P w K mg base CX0 5 frowof drowof ["thing", "count"] spRowT) (browof : Binds K drowof ["thing", "count"] []) (krowof : PySem.W.keepIn K (.ref frowof) = true) (mrowof : mg "is_row_of" = some (.ref frowof)) {fstr : Addr} {dstr : FuncData} (Gstr : FnOk P w K mg base (CXX P w) 5 fstr dstr ["thing"] (spStrX C)) (bstr : Binds K dstr ["thing"] []) (kstr : PySem.W.keepIn K (.ref fstr) = true) (mstr : mg "stretch_of" = some (.ref fstr)) {fund : Addr} {dund : FuncData} (Gund : FnOk P w K mg base CX0 5 fund dund ["one", "other"] spUndI) (bund : Binds K dund ["one", "other"] []) (kund : PySem.W.keepIn K (.ref fund) = true) (mund : mg "under" = some (.ref fund)) : FnOk P w K mg base (CXX P w) 6 f fd ["n", "stretches"] (spRuX C) := by
  refine F.okX sc_ruleof (fun vs H Q E h => ?_) (fun cdv A outer s H vs Q E hr h => ?_)
  · obtain ⟨x, z, A', S', rfl, _⟩ := h
    rfl
  obtain ⟨x, z, A', S', rfl, dA, dS, hsm, q1, q2⟩ := h
  refine ⟨_, (pss_cons (ps_if (PW.pt (pw_or (pt_not (pt_val (pe_call Gwhole hr rfl mwhole kwhole bwhole .nil pass0 (pa_cons (pv 0) pa_nil)))) (pw_or (pt_cmpR op_lt (pv 0) pe_int (nomark _)) (pw_or1 (pt_cmpR op_gt (pv 0) pe_int (nomark _)))))) (pss_one (ps_raise reachOf rfl cf.xNoRule rfl (pa_cons pe_str pa_nil))) pss_nil)
    (pss_cons (ps_if (pt_not (pt_val (pe_call Growof hr rfl mrowof krowof browof .nil pass0 (pa_cons (pv 1) (pa_cons (pe_op op_add (pv 0) pe_int) pa_nil))))) (pss_one (ps_raise reachOf rfl cf.xNoRule rfl (pa_cons pe_str pa_nil))) pss_nil)
    (pss_cons (ps_set (i := 2) sc_ruleof.nd rfl (Or.inl rfl) (pe_callTy call_tuple_of rfl T.tuple boot_tuple (pa_cons (pe_compX (xs := ["stretch"]) (ts := []) dxOf (fun _ _ h => h) rfl ⟨rfl, sub0, rfl, rfl, rfl, by decide +kernel, rfl, rfl⟩ (pi_seq (pv 1)) (fun C s3 H3 fp => (pg_name (i := 0) (show (["stretch"] : List Str).Nodup by decide +kernel) rfl (Or.inl rfl) (Or.inr rfl))) (fun C s3 H3 fp => pif_nil) (fun C s3 H3 fp xe hx => (pe_call Gstr hr rfl mstr kstr bstr .nil hx (pa_cons (pv 0) pa_nil)))) pa_nil)))
    (pss_cons (ps_for PassesOwn.leaving rfl (pi_zipT rfl T.zip (pa_cons (pv 2) (pa_cons (pe_slice sl_tup (pv 2) (po_some pe_int) po_none) pa_nil))) (pg_tup rfl (pgs_cons (pg_name (i := 3) sc_ruleof.nd rfl (Or.inl rfl)) (pgs_cons (pg_name (i := 4) sc_ruleof.nd rfl (Or.inl rfl)) pgs_nil))) (pss_one (ps_if (PW.pt (pw_or (pt_val (pe_call Gund hr rfl mund kund bund .nil pass0 (pa_cons (pe_ix ix_tup (pv 4) pe_int (fun _ _ => rfl)) (pa_cons (pe_ix ix_tup (pv 3) pe_int (fun _ _ => rfl)) pa_nil)))) (pw_or1 (pt_val (pe_call Gund hr rfl mund kund bund .nil pass0 (pa_cons (pe_ix ix_tup (pv 4) pe_int (fun _ _ => rfl)) (pa_cons (pe_ix ix_tup (pv 3) pe_int (fun _ _ => rfl)) pa_nil))))))) (pss_one (ps_raise reachOf rfl cf.xNoRule rfl (pa_cons pe_str pa_nil))) pss_nil)))
    (pss_one (ps_ret (pe_tup (pa_cons (pv 0) (pa_cons (pv 2) pa_nil))))))))), ?_⟩
  have one : 1 ≤ sizeLine := by decide
  refine ⟨_, rfl, x, A', rfl, dA, _, rfl, ?_⟩
  cases hA : isW A' with
  | false => exact iteT (iteT ⟨one, q2 (fun n ps g => by rw [g.a] at hA; cases hA) _ (Same.refl H)⟩)
  | true =>
  obtain ⟨n, rfl⟩ := isW_shape hA
  cases (show x = V.int n from dA)
  have gn : ∀ {n' ps}, GoodU (.int n) S' n' ps → n' = n := fun g => by
    have e := g.a
    cases e
    rfl
  refine iteF ⟨_, rfl, _, _, rfl, rfl, _, rfl, ?_⟩
  refine ite2 (fun c => iteT ⟨one, q2 (fun n' ps g => ?_) _ (Same.refl H)⟩) (fun c1 => ?_)
  · cases gn g
    have := of_decide_eq_true c
    have := g.n1
    omega
  refine ⟨_, rfl, _, _, rfl, rfl, _, rfl, ?_⟩
  refine ite2 (fun c => ⟨one, q2 (fun n' ps g => ?_) _ (Same.refl H)⟩) (fun c2 => ?_)
  · cases gn g
    have := of_decide_eq_true c
    have := g.n12
    omega
  have k1 : ¬ n < 1 := ofD c1
  have k2 : ¬ (12 : Int) < n := ofD c2
  refine ⟨_, rfl, _, rfl, _, _, rfl, rfl, z, n + 1, S', rfl, dS, fun H1 s1 => ⟨_, rfl, ?_⟩⟩
  cases hR : rowB S' (n + 1) with
  | false =>
    refine iteT ⟨one, q2 (fun n' ps g => ?_) _ s1⟩
    cases gn g
    obtain ⟨ts, e1, e2⟩ := g.seq
    have l1 : ts.length = ps.length := by simpa using congrArg List.length e2
    have l2 := g.len
    unfold rowB at hR
    rw [e1] at hR
    exact absurd hR (by simp; omega)
  | true =>
  refine iteF ?_
  obtain ⟨ts, es, lt⟩ := row_seq hR
  have hsm := hsm ts es
  obtain ⟨a, xs, rfl, sq, dd⟩ := seq_den es dS
  have lx := dd.len
  have sq1 := sq.keep s1
  have dd1 := dd.keep s1
  refine ⟨_, rfl, a, xs, rfl, ?_⟩
  refine seq_comp sq1 (Nat.le_of_lt (lt40 (by omega))) (fun D i ws H2 => ∃ ps : List Sq, (ts.take i).map st2 = ps.map some ∧ (∀ p ∈ ps, und2 p.2 p.1 = false) ∧ Dens H2 (ps.map ssT) ws) (fun D hD => ⟨[], rfl, (fun p hp => absurd hp (by simp)), rfl⟩) ?_ ?_
  · rintro D i v ws H2 k hD hv sm e hl ⟨ps, m1, m2, m3⟩ hk
    have hi := (List.getElem?_eq_some_iff.mp hv).1
    have et := List.getElem?_eq_getElem (show i < ts.length by omega)
    obtain ⟨v', f1, f2⟩ := (dd1.keep sm).get et
    rw [hv] at f1
    cases f1
    refine ⟨_, rfl, v, _, rfl, f2, hsm _ (List.getElem_mem _), fun b hb hin p H3 s3 hp => hk _ _ s3 ⟨ps ++ [b], map_snoc m1 et hb, fun p' hp' => ?_, ?_⟩, fun hbad H3 s3 => q2 (fun n' ps' g => ?_) _ ((s1.trans sm).trans s3)⟩
    · rcases List.mem_append.mp hp' with y | y
      · exact m2 p' y
      · rw [List.mem_singleton.mp y]; exact hin
    · rw [List.map_append]
      exact dens_write (s3 _ _ e) (fun p' hp' => by
        rcases List.mem_append.mp hp' with y | y
        · obtain ⟨q, _, rfl⟩ := List.mem_map.mp y; exact ⟨q, rfl⟩
        · exact ⟨b, List.mem_singleton.mp y⟩) (dens_snoc (m3.keep s3) hp)
    · obtain ⟨ts', e1, e2⟩ := g.seq
      rw [es] at e1
      cases e1
      obtain ⟨p, y1, y2⟩ := map_at e2 et
      have := hbad p y2
      rw [g.inn p (List.mem_of_getElem? y1)] at this
      cases this
  rintro D ws H2 hD s2 hD2 hlw ⟨ps, m1, m2, m3⟩
  rw [List.take_of_length_le (by omega)] at m1
  have lp : ts.length = ps.length := by simpa using congrArg List.length m1
  have psm : ∀ p ∈ ps, Sm2 p.1 ∧ Sm2 p.2 := fun p hp => by
    obtain ⟨i, hi⟩ := List.mem_iff_getElem?.mp hp
    have hi' := (List.getElem?_eq_some_iff.mp hi).1
    have et := List.getElem?_eq_getElem (show i < ts.length by omega)
    obtain ⟨p', y1, y2⟩ := map_at m1 et
    rw [hi] at y1
    cases y1
    exact hsm _ (List.getElem_mem _) p y2
  refine ⟨D, ws, rfl, .inl ⟨SqL.of hD2, fun t ht => ?_⟩⟩
  have s3 := same_new ht (.tup ws)
  have r3 := m3.keep s3
  have t3 : (upd H2 t (.tup ws)) t = some (.tup ws) := upd_same
  have s13 := (s1.trans s2).trans s3
  generalize hH3 : upd H2 t (.tup ws) = H3 at *
  have hcut : ¬ (HT.sIx ws.length 0 (some 1) = 0 ∧ HT.sIx ws.length ws.length none = ws.length) := by
    rw [show (1 : Int) = ((1 : Nat) : Int) from rfl, HT.sIx_nat]
    omega
  refine ⟨_, rfl, _, rfl, _, rfl, t, ws, rfl, SqT.of t3, hcut, fun m hm => ?_⟩
  rw [cut_tail (by omega)]
  have s4 := same_new hm (.tup (ws.drop 1))
  refine ⟨t, m, rfl, ⟨_, SqT.of (s4 _ _ t3)⟩, ⟨_, SqT.of upd_same⟩, ?_⟩
  have m4 : (upd H3 m (.tup (ws.drop 1))) m = some (.tup (ws.drop 1)) := upd_same
  have r4 := r3.keep s4
  have t4 := s4 _ _ t3
  generalize hH4 : upd H3 m (.tup (ws.drop 1)) = H4 at *
  have pin : ∀ {n' ps'}, GoodU (.int n) S' n' ps' → ps' = ps := fun g => by
    obtain ⟨ts', e1, e2⟩ := g.seq
    rw [es] at e1
    cases e1
    exact some_inj (e2.symm.trans m1)
  refine for_zipT (n := ws.length - 1) (xs := ws) (ys := ws.drop 1) (fun i σ H' => Same H4 H' ∧ (∀ j, j < i → ∀ p q, ps[j]? = some p → ps[j + 1]? = some q → und2 q.1 p.1 = false ∧ und2 q.2 p.2 = false) ∧ ∃ v1 v2, σ = [some (.int n), some (.ref a), some (.ref t), v1, v2]) ⟨Same.refl H4, fun j hj => absurd hj (by omega), none, none, rfl⟩ (by omega) (by simp) (.inr (by simp)) ?_ ?_ ?_
  · rintro i σ H' hi ⟨sm, _⟩
    exact ⟨SqT.of (sm _ _ t4), SqT.of (sm _ _ m4)⟩
  · rintro i u v U σ H' hi hu hv hU ⟨sm, hj, v1, v2, rfl⟩
    have ep := List.getElem?_eq_getElem (show i < ps.length by omega)
    have ep2 := List.getElem?_eq_getElem (show i + 1 < ps.length by omega)
    obtain ⟨w1, f1, g1⟩ := (r4.keep sm).get (i := i) (t := ssT ps[i]) (by rw [List.getElem?_map, ep]; rfl)
    obtain ⟨w2, f2, g2⟩ := (r4.keep sm).get (i := i + 1) (t := ssT ps[i + 1]) (by rw [List.getElem?_map, ep2]; rfl)
    rw [hu] at f1
    cases f1
    rw [List.getElem?_drop, Nat.add_comm, f2] at hv
    cases hv
    obtain ⟨b, bl, bh, rfl, b2, b3, b4⟩ := den_ss g1
    obtain ⟨c, cl, ch, rfl, c2', c3, c4⟩ := den_ss g2
    have sU := same_new hU (.tup [.ref b, .ref c])
    have z1 := psm _ (List.mem_of_getElem? ep)
    have z2 := psm _ (List.mem_of_getElem? ep2)
    refine ⟨U, _, rfl, SqT.of upd_same, rfl, .ref b, [.ref c], rfl, .ref c, [], rfl, rfl, ?_⟩
    have b2 := sU _ _ b2
    have b3 := sU _ _ b3
    have b4 := sU _ _ b4
    have c2' := sU _ _ c2'
    have c3 := sU _ _ c3
    have c4 := sU _ _ c4
    refine ⟨_, rfl, c, _, 0, _, rfl, rfl, SqT.of c2', at0, _, rfl, b, _, 0, _, rfl, rfl, SqT.of b2, at0, cl, bl, _, _, rfl, c3, b3, z2.1, z1.1, _, rfl, ?_⟩
    cases u1 : und2 ps[i + 1].1 ps[i].1 with
    | true =>
      refine iteT (iteT ⟨one, q2 (fun n' ps' g => ?_) _ ((((s13.trans s4).trans sm)).trans sU)⟩)
      have y := g.ris
      rw [pin g] at y
      have y' := (y i _ _ ep ep2).1
      rw [u1] at y'
      cases y'
    | false =>
    refine iteF ⟨_, rfl, c, _, 1, _, rfl, rfl, SqT.of c2', at1, _, rfl, b, _, 1, _, rfl, rfl, SqT.of b2, at1, ch, bh, _, _, rfl, c4, b4, z2.2, z1.2, _, rfl, ?_⟩
    cases u2 : und2 ps[i + 1].2 ps[i].2 with
    | true =>
      refine iteT ⟨one, q2 (fun n' ps' g => ?_) _ ((((s13.trans s4).trans sm)).trans sU)⟩
      have y := g.ris
      rw [pin g] at y
      have y' := (y i _ _ ep ep2).2
      rw [u2] at y'
      cases y'
    | false =>
    refine iteF ⟨sm.trans sU, fun j hj' p q hp hq => ?_, _, _, rfl⟩
    by_cases ej : j < i
    · exact hj j ej p q hp hq
    · have : j = i := by omega
      subst this
      rw [ep] at hp
      rw [ep2] at hq
      cases hp
      cases hq
      exact ⟨u1, u2⟩
  · rintro σ H' ⟨sm, hj, v1, v2, rfl⟩
    refine ⟨_, rfl, _, rfl, (by show 2 ≤ sizeLine; decide), fun x hx => ?_⟩
    have s5 := same_new hx (.tup [V.int n, V.ref t])
    have gd : GoodU (.int n) S' n ps := ⟨rfl, ⟨ts, es, m1⟩, by omega, by omega, by omega, m2, fun i p q hp hq => hj i (by have := (List.getElem?_eq_some_iff.mp hq).1; omega) p q hp hq⟩
    exact q1 n ps gd x _ (((s13.trans s4).trans sm).trans s5) ⟨x, _, rfl, upd_same, _, _, rfl, rfl, _, _, rfl, ⟨t, ws, rfl, s5 _ _ (sm _ _ t4), (r4.keep sm).keep s5⟩, rfl⟩
theorem seq_by {t u : TS} {D : Ends} {σ : St} {H : Hp} (P : St → Hp → Prop) (h1 : ∀ N : St → Hp → Prop, (∀ σ H, P σ H → N σ H) → t { D with nx := N } σ H) (h2 : ∀ σ H, P σ H → u D σ H) : tSeq t u D σ H := h1 _ h2
noncomputable def spAtU (K : PySem.W.Frag) : Sp := fun vs H Q _ => ∃ (a : Addr) (ns : List Int) (k : Int), vs = [.ref a, .int k] ∧ SqL K H a (ns.map V.int) ∧ ns.length ≤ 63 ∧ 0 ≤ k ∧ k ≤ 400 ∧ ∀ r : Int, Q (.int r) H
theorem sc_atU : FnScope ["_law_script", "_law_k"] ["_law_script", "_law_k"] (defScope s_atU) := ⟨rfl, rfl, rfl, by decide +kernel, rfl, by decide +kernel, by decide +kernel⟩
theorem ok_atU {f : Addr} {fd : FuncData} (F : Fun K "_law_at" "_law_at" s_atU f fd) (T : Txt mg) : FnOk P w K mg base CX0 1 f fd ["_law_script", "_law_k"] (spAtU K) := by
  refine F.ok sc_atU (fun vs H Q E h => ?_) (fun cdv A outer s H vs Q E hr h => ?_)
  · obtain ⟨a, ns, k, rfl, _⟩ := h
    rfl
  obtain ⟨a, ns, k, rfl, hS, h63, h0, h4, q⟩ := h
  refine ⟨_, (pss_cons (ps_if (pt_cmpR op_lt (pv 1) (pe_callB call_len_seq rfl T.len boot_len (pa_cons (pv 0) pa_nil)) (nomark _)) (pss_one (ps_ret (pe_ix ix_list (pv 0) (pv 1) (fun _ _ => rfl)))) pss_nil)
    (pss_cons (ps_if (pt_cmpR op_eq (pe_callB call_len_seq rfl T.len boot_len (pa_cons (pv 0) pa_nil)) pe_int (nomark _)) (pss_one (ps_ret (pe_op op_add (pe_op op_mul (pe_op op_mul (pv 1) (pv 1)) pe_int) pe_int))) pss_nil)
    (pss_one (ps_ret (pe_op op_add (pe_op op_mul (pe_ix ix_list (pv 0) (pe_op op_mod (pv 1) (pe_callB call_len_seq rfl T.len boot_len (pa_cons (pv 0) pa_nil))) (fun _ _ => rfl)) (pe_op op_add (pv 1) pe_int)) (pe_op op_mul (pe_op op_mul (pv 1) (pv 1)) pe_int)))))), ?_⟩
  have hl : (ns.map V.int).length = ns.length := List.length_map _
  have kk : k * k ≤ 160000 := Int.le_trans (Int.mul_le_mul h4 h4 h0 (by decide)) (by decide)
  have kk0 : 0 ≤ k * k := Int.mul_nonneg h0 h0
  refine ⟨_, rfl, _, rfl, a, _, rfl, .inl hS, _, _, rfl, rfl, _, rfl, ?_⟩
  refine ite2 (fun c => ?_) (fun c => ?_)
  · have c' : k < (((ns.map V.int).length : Nat) : Int) := of_decide_eq_true c
    rw [hl] at c'
    exact ⟨_, rfl, _, rfl, a, _, k, _, rfl, rfl, hS, at_getD h0 c', q _⟩
  refine ⟨_, rfl, a, _, rfl, .inl hS, rfl, _, rfl, ?_⟩
  refine ite2 (fun c1 => ?_) (fun c1 => ?_)
  · exact ⟨_, rfl, _, rfl, _, _, rfl, rfl, .inl ⟨by omega, by omega⟩, _, _, rfl, rfl, .inr ⟨by decide, by decide⟩, _, _, rfl, rfl, q _⟩
  · have l0 : (0 : Int) < ((ns.map V.int).length : Nat) := by
      have : ¬ (((ns.map V.int).length : Nat) : Int) = 0 := by
        intro z
        rw [z] at c1
        exact absurd c1 (by simp)
      omega
    refine ⟨_, rfl, _, rfl, _, rfl, a, _, rfl, .inl hS, _, _, rfl, rfl, l0, a, _, _, _, rfl, rfl, hS, at_getD (md0 _ l0) (by rw [← hl]; exact md1 _ l0), _, rfl, _, _, rfl, rfl, _, _, rfl, rfl, .inr ⟨by omega, by omega⟩, _, rfl, _, rfl, _, _, rfl, rfl, .inl ⟨by omega, by omega⟩, _, _, rfl, rfl, .inr ⟨by decide, by decide⟩, _, _, rfl, rfl, q _⟩
noncomputable def spRw : Sp := fun vs H Q _ => ∃ i : Int, vs = [.str (num i)] ∧ i.natAbs < 10 ^ 60 ∧ ∀ H', Same H H' → Q (.int i) H'
theorem sc_rw : FnScope ["text", "below", "figures"] ["text"] (defScope s_rw) := ⟨rfl, rfl, rfl, by decide +kernel, rfl, by decide +kernel, by decide +kernel⟩
theorem ok_rw {f : Addr} {fd : FuncData} (F : Fun K "read_whole" "read_whole" s_rw f fd) (T : Txt mg) : FnOk P w K mg base CX0 1 f fd ["text"] spRw := by
  refine F.ok sc_rw (fun vs H Q E h => ?_) (fun cdv A outer s H vs Q E hr h => ?_)
  · obtain ⟨i, rfl, _⟩ := h
    rfl
  obtain ⟨i, rfl, hi, q⟩ := h
  have W := nm_ok hi
  have wl := W.len
  refine ⟨_, (pss_cons (ps_set (i := 1) sc_rw.nd rfl (Or.inl rfl) (pe_starts (pv 0) pe_str))
    (pss_cons (ps_set (i := 2) sc_rw.nd rfl (Or.inl rfl) (pe_ifExp (pt_val (pv 1)) (pe_slice sl_str (pv 0) (po_some pe_int) po_none) (pv 0)))
    (pss_cons (ps_if (PW.pt (pw_or (pt_cmpR op_lt (pe_callB call_len_str rfl T.len boot_len (pa_cons (pv 2) pa_nil)) pe_int (nomark _)) (pw_or (pt_cmpR op_gt (pe_callB call_len_str rfl T.len boot_len (pa_cons (pv 2) pa_nil)) pe_int (nomark _)) (pw_or1 (pt_not (pt_val (pe_callB (call_all rfl) rfl T.all boot_all (pa_cons (pe_comp (ts := []) rfl ⟨rfl, sub0, rfl, rfl, rfl, rfl, by decide +kernel, rfl, rfl⟩ (pi_str (pv 2)) (fun C s3 H3 fp => (pe_cmpR op_inS (pv 0) (pe_globS rfl T.FIGURES) (by with_unfolding_all rfl)))) pa_nil)))))))) (pss_one (ps_dead)) pss_nil)
    (pss_cons (ps_if (PW.pt (pw_and (pt_val (pe_starts (pv 2) pe_str)) (pw_and1 (PW.pt (pw_or (pt_val (pv 1)) (pw_or1 (pt_cmpR op_gt (pe_callB call_len_str rfl T.len boot_len (pa_cons (pv 2) pa_nil)) pe_int (nomark _)))))))) (pss_one (ps_dead)) pss_nil)
    (pss_one (ps_ret (pe_callTy call_intS rfl T.int boot_int (pa_cons (pv 0) pa_nil)))))))), ?_⟩
  refine ⟨_, rfl, _, rfl, _, rfl, ?_⟩
  dsimp only
  refine seq_by (fun σ H' => H' = H ∧ σ = [some (.str (num i)), some (.bl (Txt.startswith (num i) "-")), some (.str (figs (num i)))]) ?_ ?_
  · intro M hM
    refine ⟨_, rfl, _, rfl, ?_⟩
    unfold figs at hM
    cases hb : Txt.startswith (num i) "-" with
    | true =>
      rw [hb, if_pos rfl] at hM
      refine iteT ⟨_, rfl, 1, rfl, _, rfl, le200 (by omega), hM _ _ ⟨rfl, ?_⟩⟩
      rw [← hb]; rfl
    | false =>
      rw [hb, if_neg Bool.false_ne_true] at hM
      refine iteF ⟨_, rfl, hM _ _ ⟨rfl, ?_⟩⟩
      rw [← hb]; rfl
  rintro σ H' ⟨rfl, rfl⟩
  have l1 := W.l1
  have l3 := W.l3
  have W4 := W.asc
  have W5 := W.fig
  have W6 := W.nou
  generalize figs (num i) = fg at *
  generalize Txt.startswith (num i) "-" = bl at *
  refine ⟨_, rfl, _, rfl, le200 (by omega), _, _, rfl, rfl, _, rfl, ?_⟩
  refine ite2 (fun c => absurd (of_decide_eq_true c) (by omega)) (fun c => ?_)
  refine ⟨_, rfl, _, rfl, le200 (by omega), _, _, rfl, rfl, _, rfl, ?_⟩
  refine ite2 (fun c => absurd (of_decide_eq_true c) (by omega)) (fun c => ?_)
  refine ⟨_, rfl, fg, rfl, W4, fun D hD => comp_strT hD (le200 (by have : fg.cps.size ≤ 60 := l3; omega)) (fun j c H2 k hc s2 hk => ⟨_, rfl, _, _, rfl, rfl, ?_⟩) fun H2 s2 hD2 => ?_⟩
  · rw [show Txt.contains ("0123456789" : Str) ⟨#[c]⟩ = true from W5 j c hc]
    exact hk _ (Same.refl _)
  refine ⟨D, _, rfl, SqL.of hD2, _, rfl, ?_⟩
  rw [show (List.replicate fg.cps.size true).all id = true by simp]
  refine iteF ?_
  refine ⟨_, rfl, _, rfl, _, rfl, _, rfl, ?_⟩
  have fin : ∃ v, [some (V.str (num i)), some (V.bl bl), some (V.str fg)][0]? = some (some v) ∧ ∃ a n, [v] = [V.str a] ∧ intText? a = some n ∧ a.length ≤ 640 ∧ Q (V.int n) H2 := ⟨_, rfl, _, i, rfl, W.int, by omega, q _ s2⟩
  cases hs : Txt.startswith fg "0" with
  | false => exact iteF fin
  | true =>
    rw [hs, Bool.true_and, Bool.or_eq_false_iff] at W6
    rw [W6.1]
    rw [W6.1] at fin
    refine iteT ⟨_, rfl, _, rfl, iteF ⟨_, rfl, _, rfl, le200 (by omega), _, _, rfl, rfl, _, rfl, ?_⟩⟩
    have g : ¬ fg.length > 1 := of_decide_eq_false W6.2
    exact ite2 (fun c => absurd (of_decide_eq_true c) (by omega)) (fun c => fin)
theorem none_back {H H' : Hp} {b : Addr} (s : Same H H') (h : H' b = none) : H b = none := by
  cases e : H b with
  | none => rfl
  | some o => rw [s _ _ e] at h; cases h
theorem shOf_pp {p : Fq} (h : shareT (ppT p) = true) : shOf (ppT p) = some p := by
  unfold shOf
  rw [if_pos h]
  rfl
noncomputable def Shs (s : Sq) : Prop := shareT (ppT s.1) = true ∧ shareT (ppT s.2) = true
theorem st2_ss {s : Sq} (h : Shs s) : st2 (ssT s) = some s := by
  show ((shOf (ppT s.1)).bind fun p => (shOf (ppT s.2)).bind fun q => some (p, q)) = some s
  rw [shOf_pp h.1, shOf_pp h.2]
  rfl
structure GdS (n : Int) (ps : List Sq) : Prop where
  n1 : 1 ≤ n
  n12 : n ≤ 12
  len : (ps.length : Int) = n + 1
  inn : ∀ p ∈ ps, und2 p.2 p.1 = false
  ris : RisU ps
  sh : ∀ p ∈ ps, Shs p
  sm : ∀ p ∈ ps, Sm2 p.1 ∧ Sm2 p.2
theorem map_st {f : Sq → Th} {ps : List Sq} (h : ∀ s ∈ ps, st2 (f s) = some s) : (ps.map f).map st2 = ps.map some := by
  rw [List.map_map]
  exact List.map_congr_left h
theorem GdS.good {n : Int} {ps : List Sq} (g : GdS n ps) {S : Th} {ts : List Th} (e : seqOf S = some ts) (m : ts.map st2 = ps.map some) : GoodU (.int n) S n ps := ⟨rfl, ⟨ts, e, m⟩, g.n1, g.n12, g.len, g.inn, g.ris⟩
theorem GoodU.uq {A S : Th} {n n' : Int} {ps ps' : List Sq} (g : GoodU A S n ps) (g' : GoodU A S n' ps') : n' = n ∧ ps' = ps := by
  have e := g.a.symm.trans g'.a
  injection e with e
  obtain ⟨ts, e1, e2⟩ := g.seq
  obtain ⟨ts', y1, y2⟩ := g'.seq
  rw [e1] at y1
  cases y1
  exact ⟨e.symm, some_inj (y2.symm.trans e2)⟩
noncomputable def flat : Nat → Th → Prop
  | _, .int _ => True
  | _, .str _ => True
  | d + 1, .tup ts => ∀ t ∈ ts, flat d t
  | _, _ => False
theorem dens_map {H H' : Hp} : ∀ {ts : List Th} {xs : List V}, (∀ t ∈ ts, ∀ v, Den H t v → Den H' t v) → Dens H ts xs → Dens H' ts xs
  | [], _, _, h => h
  | t :: ts, xs, hk, ⟨y, ys, e, d1, d2⟩ => ⟨y, ys, e, hk t (List.mem_cons_self ..) _ d1, dens_map (fun u hu => hk u (List.mem_cons_of_mem _ hu)) d2⟩
theorem den_upd {H : Hp} {D : Addr} {zs ws : List V} (hD : H D = some (.lst zs)) : ∀ (d : Nat) (t : Th) (v : V), flat d t → Den H t v → Den (upd H D (.lst ws)) t v := by
  intro d
  induction d with
  | zero =>
    intro t v f h
    cases t with
    | int i => exact h
    | str i => exact h
    | _ => exact f.elim
  | succ d ih =>
    intro t v f h
    cases t with
    | int i => exact h
    | str i => exact h
    | tup ts =>
      obtain ⟨a, xs, rfl, ha, dd⟩ := h
      exact ⟨a, xs, rfl, by rw [upd_ne (ne_of ha hD (by intro z; cases z))]; exact ha, dens_map (fun t ht v => ih t v (f t ht)) dd⟩
    | _ => exact f.elim
theorem dens_upd {H : Hp} {D : Addr} {zs ws : List V} (hD : H D = some (.lst zs)) {d : Nat} {ts : List Th} {xs : List V} (f : ∀ t ∈ ts, flat d t) (h : Dens H ts xs) : Dens (upd H D (.lst ws)) ts xs := dens_map (fun t ht v => den_upd hD d t v (f t ht)) h
theorem flat_ss (s : Sq) : flat 2 (ssT s) := by
  intro t ht
  rcases List.mem_cons.mp ht with rfl | ht
  · intro u hu
    rcases List.mem_cons.mp hu with rfl | hu
    · trivial
    · cases List.mem_singleton.mp hu; trivial
  · cases List.mem_singleton.mp ht
    intro u hu
    rcases List.mem_cons.mp hu with rfl | hu
    · trivial
    · cases List.mem_singleton.mp hu; trivial
noncomputable def sfT (s : Sq) : Th := .tup [.str (frS s.1), .str (frS s.2)]
theorem flat_sf (s : Sq) : flat 2 (sfT s) := by
  intro t ht
  rcases List.mem_cons.mp ht with rfl | ht
  · trivial
  · cases List.mem_singleton.mp ht; trivial
theorem flat_map {f : Sq → Th} (h : ∀ s, flat 2 (f s)) (ss : List Sq) : ∀ t ∈ ss.map f, flat 2 t := fun t ht => by
  obtain ⟨s, _, rfl⟩ := List.mem_map.mp ht
  exact h s
structure FrG (p : Fq) : Prop extends FrB p where
  g : Int.gcd p.1 p.2 = 1
noncomputable def spRf : Sp := fun vs H Q _ => ∃ p : Fq, vs = [.str (frS p)] ∧ FrG p ∧ ∀ a H', Same H H' → H' a = some (.tup [.int p.1, .int p.2]) → Q (.ref a) H'
theorem sc_rf : FnScope ["text", "parts", "top", "bottom"] ["text"] (defScope s_rf) := ⟨rfl, rfl, rfl, by decide +kernel, rfl, by decide +kernel, by decide +kernel⟩
theorem ok_rf {f : Addr} {fd : FuncData} (F : Fun K "read_fraction" "read_fraction" s_rf f fd) (T : Txt mg) {frw : Addr} {drw : FuncData} (Grw : FnOk P w K mg base CX0 1 frw drw ["text"] spRw) (brw : Binds K drw ["text"] []) (krw : PySem.W.keepIn K (.ref frw) = true) (mrw : mg "read_whole" = some (.ref frw)) {fcd : Addr} {dcd : FuncData} (Gcd : FnOk P w K mg base CX0 1 fcd dcd ["one", "other"] spCd) (bcd : Binds K dcd ["one", "other"] []) (kcd : PySem.W.keepIn K (.ref fcd) = true) (mcd : mg "common_divisor" = some (.ref fcd)) : FnOk P w K mg base CX0 2 f fd ["text"] spRf := by
  refine F.ok sc_rf (fun vs H Q E h => ?_) (fun cdv A outer s H vs Q E hr h => ?_)
  · obtain ⟨i, rfl, _⟩ := h
    rfl
  obtain ⟨p, rfl, hp, q⟩ := h
  have pl := frS_len hp.toFrB
  have b1 := hp.b1
  refine ⟨_, (pss_cons (ps_set (i := 1) sc_rf.nd rfl (Or.inl rfl) (pe_partition (pv 0) pe_str))
    (pss_cons (ps_set (i := 2) sc_rf.nd rfl (Or.inl rfl) (pe_call Grw hr rfl mrw krw brw .nil pass0 (pa_cons (pe_ix ix_tup (pv 1) pe_int (fun _ _ => rfl)) pa_nil)))
    (pss_cons (ps_if (pt_cmpR op_eq (pe_ix ix_tup (pv 1) pe_int (fun _ _ => rfl)) pe_str (nomark _)) (pss_one (ps_ret (pe_tup (pa_cons (pv 2) (pa_cons pe_int pa_nil))))) pss_nil)
    (pss_cons (ps_set (i := 3) sc_rf.nd rfl (Or.inl rfl) (pe_call Grw hr rfl mrw krw brw .nil pass0 (pa_cons (pe_ix ix_tup (pv 1) pe_int (fun _ _ => rfl)) pa_nil)))
    (pss_cons (ps_if (PW.pt (pw_or (pt_cmpR op_lt (pv 3) pe_int (nomark _)) (pw_or1 (pt_cmpR op_ne (pe_call Gcd hr rfl mcd kcd bcd .nil pass0 (pa_cons (pe_callB call_abs rfl T.abs boot_abs (pa_cons (pv 2) pa_nil)) (pa_cons (pv 3) pa_nil))) pe_int (nomark _))))) (pss_one (ps_dead)) pss_nil)
    (pss_one (ps_ret (pe_tup (pa_cons (pv 2) (pa_cons (pv 3) pa_nil)))))))))), ?_⟩
  refine ⟨_, rfl, _, rfl, _, rfl, by decide +kernel, le200 (by omega), fun t ht => ?_⟩
  rw [frS_parts hp.toFrB]
  by_cases h1 : p.2 = 1
  · rw [if_pos h1]
    have s1 := same_new ht (.tup ([num p.1, Str.empty, Str.empty].map V.str))
    have xt : upd H t (.tup ([num p.1, Str.empty, Str.empty].map V.str)) t = some (.tup [.str (num p.1), .str Str.empty, .str Str.empty]) := upd_same
    generalize upd H t (.tup ([num p.1, Str.empty, Str.empty].map V.str)) = H1 at *
    refine ⟨_, rfl, t, _, 0, _, rfl, rfl, SqT.of xt, at0, p.1, rfl, hp.a, fun H2 s2 => ?_⟩
    refine ⟨_, rfl, t, _, 1, _, rfl, rfl, SqT.of (s2 _ _ xt), at1, rfl, _, rfl, iteT2 (by decide +kernel) ?_⟩
    refine ⟨_, rfl, (by show 2 ≤ sizeLine; decide), fun a ha => q a _ (s1.trans (s2.trans (same_new ha _))) ?_⟩
    rw [h1]
    exact upd_same
  · rw [if_neg h1]
    have s1 := same_new ht (.tup (([num p.1, "/", num p.2] : List Str).map V.str))
    have xt : upd H t (.tup (([num p.1, "/", num p.2] : List Str).map V.str)) t = some (.tup [.str (num p.1), .str "/", .str (num p.2)]) := upd_same
    generalize upd H t (.tup (([num p.1, "/", num p.2] : List Str).map V.str)) = H1 at *
    refine ⟨_, rfl, t, _, 0, _, rfl, rfl, SqT.of xt, at0, p.1, rfl, hp.a, fun H2 s2 => ?_⟩
    refine ⟨_, rfl, t, _, 1, _, rfl, rfl, SqT.of (s2 _ _ xt), at1, rfl, _, rfl, iteF' (by decide +kernel) ?_⟩
    refine ⟨_, rfl, t, _, 2, _, rfl, rfl, SqT.of (s2 _ _ xt), atI_nat (j := 2) rfl, p.2, rfl, hp.b, fun H3 s3 => ?_⟩
    refine ⟨_, rfl, _, _, rfl, rfl, _, rfl, ?_⟩
    refine ite2 (fun c => absurd (of_decide_eq_true c) (by omega)) (fun c => ?_)
    refine ⟨_, rfl, _, rfl, _, rfl, _, _, rfl, by split <;> omega, by omega, rfl, _, rfl, ?_⟩
    have gg : Int.gcd (if p.1 < 0 then -p.1 else p.1) p.2 = 1 := by
      have := gabs p.1 p.2
      rw [if_neg (show ¬ p.2 < 0 by omega)] at this
      rw [this]
      exact hp.g
    rw [gg]
    refine iteF' (by decide) ?_
    exact ⟨_, rfl, _, rfl, (by show 2 ≤ sizeLine; decide), fun a ha => q a _ (s1.trans (s2.trans (s3.trans (same_new ha _)))) upd_same⟩
noncomputable def SqG (s : Sq) : Prop := FrG s.1 ∧ FrG s.2
theorem SqG.b {s : Sq} (h : SqG s) : PrB s := ⟨h.1.toFrB, h.2.toFrB⟩
noncomputable def spRp (frf : Addr) : Sp := fun vs H Q _ => ∃ b : Sq, vs = [.str (prF b), .ref frf] ∧ SqG b ∧ ∀ p H', Same H H' → Den H' (ssT b) (.ref p) → Q (.ref p) H'
theorem sc_rp : FnScope ["text", "read_end", "written"] ["text", "read_end"] (defScope s_rp) := ⟨rfl, rfl, rfl, by decide +kernel, rfl, by decide +kernel, by decide +kernel⟩
theorem ok_rp {f : Addr} {fd : FuncData} (F : Fun K "read_pair" "read_pair" s_rp f fd) (T : Txt mg) {frf : Addr} {drf : FuncData} (Grf : FnOk P w K mg base CX0 2 frf drf ["text"] spRf) (brf : Binds K drf ["text"] []) (krf : PySem.W.keepIn K (.ref frf) = true) (mrf : mg "read_fraction" = some (.ref frf)) : FnOk P w K mg base CX0 3 f fd ["text", "read_end"] (spRp frf) := by
  refine F.ok sc_rp (fun vs H Q E h => ?_) (fun cdv A outer s H vs Q E hr h => ?_)
  · obtain ⟨i, rfl, _⟩ := h
    rfl
  obtain ⟨b, rfl, hb, q⟩ := h
  have pl := prF_len hb.b
  have ps := prF_split hb.b
  refine ⟨_, (pss_cons (ps_set (i := 2) sc_rp.nd rfl (Or.inl rfl) (pe_split (pv 0) pe_str))
    (pss_cons (ps_if (pt_cmpR op_ne (pe_callB call_len_seq rfl T.len boot_len (pa_cons (pv 2) pa_nil)) pe_int (nomark _)) (pss_one (ps_dead)) pss_nil)
    (pss_one (ps_ret (pe_tup (pa_cons (pe_callL Grf hr krf brf (pv 1) (pa_cons (pe_ix ix_list (pv 2) pe_int (fun _ _ => rfl)) pa_nil)) (pa_cons (pe_callL Grf hr krf brf (pv 1) (pa_cons (pe_ix ix_list (pv 2) pe_int (fun _ _ => rfl)) pa_nil)) pa_nil))))))), ?_⟩
  have lS : (Txt.split (prF b) " ").length ≤ sizeLine := by rw [ps]; show 2 ≤ sizeLine; decide
  refine ⟨_, rfl, _, rfl, _, rfl, by decide +kernel, le200 (by omega), lS, fun l hl => ?_⟩
  rw [ps]
  have sl := same_new hl (.lst ([frS b.1, frS b.2].map V.str))
  have xl : upd H l (.lst ([frS b.1, frS b.2].map V.str)) l = some (.lst [.str (frS b.1), .str (frS b.2)]) := upd_same
  generalize upd H l (.lst ([frS b.1, frS b.2].map V.str)) = H1 at *
  refine ⟨_, rfl, l, _, rfl, .inl (SqL.of xl), rfl, _, rfl, iteF ?_⟩
  refine ⟨rfl, _, rfl, l, _, 0, _, rfl, rfl, SqL.of xl, at0, b.1, rfl, hb.1, fun c H2 s2 hc => ?_⟩
  refine ⟨rfl, _, rfl, l, _, 1, _, rfl, rfl, SqL.of (s2 _ _ xl), at1, b.2, rfl, hb.2, fun d H3 s3 hd => ?_⟩
  refine ⟨(by show 2 ≤ sizeLine; decide), fun p hp => ?_⟩
  have s4 := same_new hp (.tup [V.ref c, V.ref d])
  exact q p _ (sl.trans (s2.trans (s3.trans s4))) (den2 upd_same (den_p (s4 _ _ (s3 _ _ hc))) (den_p (s4 _ _ hd)))
noncomputable def spRps (frf : Addr) : Sp := fun vs H Q _ => ∃ (n : Int) (bs : List Sq), vs = [.str (rbody n bs), .ref frf] ∧ n.natAbs < 10 ^ 60 ∧ bs ≠ [] ∧ bs.length ≤ 13 ∧ (∀ b ∈ bs, SqG b) ∧ ∀ p l zs H', Same H H' → H' p = some (.tup [.int n, .ref l]) → H' l = some (.lst zs) → Dens H' (bs.map ssT) zs → Q (.ref p) H'
theorem sc_rps : FnScope ["text", "read_end", "parts"] ["text", "read_end"] (defScope s_rps) := ⟨rfl, rfl, rfl, by decide +kernel, rfl, by decide +kernel, by decide +kernel⟩
theorem ok_rps {f : Addr} {fd : FuncData} (F : Fun K "read_pairs" "read_pairs" s_rps f fd) (T : Txt mg) {frf : Addr} {drf : FuncData} (Grf : FnOk P w K mg base CX0 3 frf drf ["text"] spRf) (brf : Binds K drf ["text"] []) (krf : PySem.W.keepIn K (.ref frf) = true) (mrf : mg "read_fraction" = some (.ref frf)) {frw : Addr} {drw : FuncData} (Grw : FnOk P w K mg base CX0 3 frw drw ["text"] spRw) (brw : Binds K drw ["text"] []) (krw : PySem.W.keepIn K (.ref frw) = true) (mrw : mg "read_whole" = some (.ref frw)) {frp : Addr} {drp : FuncData} (Grp : FnOk P w K mg base CX0 3 frp drp ["text", "read_end"] (spRp frf)) (brp : Binds K drp ["text", "read_end"] []) (krp : PySem.W.keepIn K (.ref frp) = true) (mrp : mg "read_pair" = some (.ref frp)) : FnOk P w K mg base CX0 4 f fd ["text", "read_end"] (spRps frf) := by
  refine F.ok sc_rps (fun vs H Q E h => ?_) (fun cdv A outer s H vs Q E hr h => ?_)
  · obtain ⟨i, b, rfl, _⟩ := h
    rfl
  obtain ⟨n, bs, rfl, hn, h0, h12, hb, q⟩ := h
  have hB := fun b h => (hb b h).b
  have bl := rbody_len hn h12 hB
  have jl := rjoin_len h12 hB
  have e3 := rbody_split h0 hB
  refine ⟨_, (pss_cons (ps_if (pt_not (pt_val (pe_callB call_isinstD rfl T.isinstance boot_isinstance (pa_cons (pv 0) (pa_cons (pe_bltn (v := .ty "str") rfl T.str boot_str rfl) pa_nil))))) (pss_one (ps_dead)) pss_nil)
    (pss_cons (ps_set (i := 2) sc_rps.nd rfl (Or.inl rfl) (pe_partition (pv 0) pe_str))
    (pss_one (ps_ret (pe_tup (pa_cons (pe_call Grw hr rfl mrw krw brw .nil pass0 (pa_cons (pe_ix ix_tup (pv 2) pe_int (fun _ _ => rfl)) pa_nil)) (pa_cons (pe_comp (ts := [("read_end", 1)]) rfl ⟨rfl, sub1 rfl, rfl, rfl, rfl, rfl, by decide +kernel, rfl, rfl⟩ (pi_list (pe_split (pe_ix ix_tup (pv 2) pe_int (fun _ _ => rfl)) pe_str)) (fun C s3 H3 fp => (pe_call Grp hr rfl mrp krp brp .nil pass0 (pa_cons (pv 0) (pa_cons (pv 1) pa_nil))))) pa_nil))))))), ?_⟩
  refine ⟨_, rfl, _, .str (rbody n bs), _, _, rfl, rfl, rfl, _, rfl, iteF ?_⟩
  refine ⟨_, rfl, _, rfl, _, rfl, by decide +kernel, le200 (by omega), fun p hp => ?_⟩
  rw [rbody_parts hn bs]
  have s1 := same_new hp (.tup (([num n, ": ", Txt.join "; " (bs.map prF)] : List Str).map V.str))
  have xp : upd H p (.tup (([num n, ": ", Txt.join "; " (bs.map prF)] : List Str).map V.str)) p = some (.tup [.str (num n), .str ": ", .str (Txt.join "; " (bs.map prF))]) := upd_same
  generalize upd H p (.tup (([num n, ": ", Txt.join "; " (bs.map prF)] : List Str).map V.str)) = H1 at *
  refine ⟨_, rfl, p, _, 0, _, rfl, rfl, SqT.of xp, at0, n, rfl, hn, fun H2 s2 => ?_⟩
  have x2 := s2 _ _ xp
  refine ⟨_, rfl, p, _, 2, _, rfl, rfl, SqT.of x2, atI_nat (j := 2) rfl, _, rfl, _, rfl, by decide +kernel, le200 (by omega), ?_⟩
  rw [e3]
  have lb : ((bs.map prF).map V.str).length = bs.length := by rw [List.length_map, List.length_map]
  refine ⟨by rw [List.length_map]; exact le200 (by omega), fun l hl => ⟨l, rfl, ⟨_, SqL.of upd_same⟩, ?_⟩⟩
  have s3 := same_new hl (.lst ((bs.map prF).map V.str))
  have xl : upd H2 l (.lst ((bs.map prF).map V.str)) l = some (.lst ((bs.map prF).map V.str)) := upd_same
  generalize upd H2 l (.lst ((bs.map prF).map V.str)) = H3 at *
  intro D hD
  refine comp_listR (fun i ws G => Dens G ((bs.take i).map ssT) ws) hD (SqL.of xl) (le200 (by omega)) rfl (fun i v ws H5 k hv sm e rr hk => ?_) ?_
  · obtain ⟨b, hbi, rfl⟩ : ∃ b, bs[i]? = some b ∧ v = .str (prF b) := by
      rw [List.map_map, List.getElem?_map] at hv
      cases hq : bs[i]? with
      | none => rw [hq] at hv; cases hv
      | some b => rw [hq] at hv; exact ⟨b, rfl, (Option.some.inj hv).symm⟩
    refine ⟨_, rfl, _, rfl, b, rfl, hb b (List.mem_of_getElem? hbi), fun g H6 s6 dg => hk _ _ s6 ?_⟩
    refine dens_upd (d := 2) (s6 _ _ e) (flat_map flat_ss _) ?_
    rw [List.take_add_one, hbi, List.map_append]
    exact dens_snoc (rr.keep s6) dg
  rintro ws H5 s5 hD5 lw rr
  rw [List.take_of_length_le (by omega)] at rr
  refine ⟨(by show 2 ≤ sizeLine; decide), fun t ht => ?_⟩
  have s6 := same_new ht (.tup [V.int n, V.ref D])
  exact q t D ws _ (s1.trans (s2.trans (s3.trans (s5.trans s6)))) upd_same (s6 _ _ hD5) (rr.keep s6)
theorem one_len : (" " : Str).length = 1 := by decide +kernel
theorem two_len : (": " : Str).length = 2 := by decide +kernel
theorem lg {i : Int} (h : i.natAbs < 10 ^ 60) : i.natAbs.log2 < 1920 := by
  by_cases z : i.natAbs = 0
  · rw [z]; decide
  · rw [Nat.log2_lt z]
    exact Nat.lt_trans h (by decide)
noncomputable def spShf : Sp := fun vs H Q _ => ∃ (p : Fq) (f : Addr), vs = [.ref f] ∧ H f = some (.tup [.int p.1, .int p.2]) ∧ FrB p ∧ ∀ H', Same H H' → Q (.str (frS p)) H'
theorem sc_shf : FnScope ["one"] ["one"] (defScope s_shf) := ⟨rfl, rfl, rfl, by decide +kernel, rfl, by decide +kernel, by decide +kernel⟩
theorem ok_shf {f : Addr} {fd : FuncData} (F : Fun K "show_fraction" "show_fraction" s_shf f fd) (T : Txt mg) : FnOk P w K mg base CX0 1 f fd ["one"] spShf := by
  refine F.ok sc_shf (fun vs H Q E h => ?_) (fun cdv A outer s H vs Q E hr h => ?_)
  · obtain ⟨i, b, rfl, _⟩ := h
    rfl
  obtain ⟨p, f, rfl, hf, hp, q⟩ := h
  have w1 := (nm_ok hp.a).len
  have w2 := (nm_ok hp.b).len
  refine ⟨_, (pss_cons (ps_if (pt_cmpR op_eq (pe_ix ix_tup (pv 0) pe_int (fun _ _ => rfl)) pe_int (nomark _)) (pss_one (ps_ret (pe_callTy call_str_int rfl T.str boot_str (pa_cons (pe_ix ix_tup (pv 0) pe_int (fun _ _ => rfl)) pa_nil)))) pss_nil)
    (pss_one (ps_ret (pe_op op_addS (pe_op op_addS (pe_callTy call_str_int rfl T.str boot_str (pa_cons (pe_ix ix_tup (pv 0) pe_int (fun _ _ => rfl)) pa_nil)) pe_str) (pe_callTy call_str_int rfl T.str boot_str (pa_cons (pe_ix ix_tup (pv 0) pe_int (fun _ _ => rfl)) pa_nil)))))), ?_⟩
  have q' := q H (Same.refl H)
  unfold frS at q'
  refine ⟨_, rfl, f, _, 1, _, rfl, rfl, SqT.of hf, at1, rfl, _, rfl, ?_⟩
  by_cases h1 : p.2 = 1
  · rw [if_pos h1] at q'
    refine iteT2 (by rw [h1]; decide) ?_
    exact ⟨_, rfl, f, _, 0, _, rfl, rfl, SqT.of hf, at0, p.1, rfl, lg hp.a, q'⟩
  · rw [if_neg h1] at q'
    refine iteF' (by rw [dec_int]; simpa using h1) ?_
    refine ⟨_, rfl, f, _, 0, _, rfl, rfl, SqT.of hf, at0, p.1, rfl, lg hp.a, ?_⟩
    refine ⟨_, _, rfl, rfl, le200 (by rw [slash_len]; have : (num p.1).length ≤ 61 := w1; exact Nat.le_trans (Nat.add_le_add_right this 1) (by decide)), ?_⟩
    refine ⟨_, rfl, f, _, 1, _, rfl, rfl, SqT.of hf, at1, p.2, rfl, lg hp.b, _, _, rfl, rfl, le200 ?_, q'⟩
    rw [Str.length_append, slash_len]
    have h1 : (num p.1).length ≤ 61 := w1
    have h2 : (num p.2).length ≤ 61 := w2
    exact Nat.le_trans (Nat.add_le_add (Nat.add_le_add_right h1 1) h2) (by decide)
theorem den_sf {H : Hp} {b : Sq} {v : V} (d : Den H (sfT b) v) : ∃ a, v = .ref a ∧ H a = some (.tup [.str (frS b.1), .str (frS b.2)]) := by
  obtain ⟨p, xs, rfl, h, y, ys, e1, e2, z, zs, e3, e4, e5⟩ := d
  have e2' : y = V.str (frS b.1) := e2
  have e4' : z = V.str (frS b.2) := e4
  have e5' : zs = [] := e5
  subst e5' e4' e3 e2' e1
  exact ⟨p, rfl, h⟩
theorem sf_den {H : Hp} {b : Sq} {p : Addr} (h : H p = some (.tup [.str (frS b.1), .str (frS b.2)])) : Den H (sfT b) (.ref p) := ⟨p, _, rfl, h, _, _, rfl, rfl, _, _, rfl, rfl, rfl⟩
noncomputable def spShp : Sp := fun vs H Q _ => ∃ (n : Int) (bs : List Sq) (l : Addr) (zs : List V), vs = [.int n, .ref l] ∧ H l = some (.lst zs) ∧ Dens H (bs.map sfT) zs ∧ n.natAbs < 10 ^ 60 ∧ bs.length ≤ 13 ∧ (∀ b ∈ bs, PrB b) ∧ ∀ H', Same H H' → Q (.str (rbody n bs)) H'
theorem sc_shp : FnScope ["n", "pairs"] ["n", "pairs"] (defScope s_shp) := ⟨rfl, rfl, rfl, by decide +kernel, rfl, by decide +kernel, by decide +kernel⟩
theorem ok_shp {f : Addr} {fd : FuncData} (F : Fun K "show_pairs" "show_pairs" s_shp f fd) (T : Txt mg) : FnOk P w K mg base CX0 1 f fd ["n", "pairs"] spShp := by
  refine F.ok sc_shp (fun vs H Q E h => ?_) (fun cdv A outer s H vs Q E hr h => ?_)
  · obtain ⟨i, b, c, d, rfl, _⟩ := h
    rfl
  obtain ⟨n, bs, l, zs, rfl, hl, dz, hn, h12, hb, q⟩ := h
  have W := nm_ok hn
  have wl := W.len
  have jl := rjoin_len h12 hb
  have lz := dz.len
  rw [List.length_map] at lz
  refine ⟨_, (pss_one (ps_ret (pe_op op_addS (pe_op op_addS (pe_callTy call_str_int rfl T.str boot_str (pa_cons (pv 0) pa_nil)) pe_str) (pe_join pe_str (pe_compG (xs := ["low", "high"]) (ts := []) rfl ⟨rfl, sub0, rfl, rfl, rfl, by decide +kernel, rfl, rfl⟩ (pi_list (pv 1)) (fun C s3 H3 fp => (pg_tupC (n := 2) rfl (pgs_cons (pg_name (i := 0) (show (["low", "high"] : List Str).Nodup by decide +kernel) rfl (Or.inl rfl) (Or.inr rfl)) (pgs_cons (pg_name (i := 1) (show (["low", "high"] : List Str).Nodup by decide +kernel) rfl (Or.inl rfl) (Or.inr rfl)) pgs_nil)))) (fun C s3 H3 fp => pif_nil) (fun C s3 H3 fp => (pe_op op_addS (pe_op op_addS (pv 0) pe_str) (pv 1)))))))), ?_⟩
  refine ⟨_, rfl, n, rfl, lg hn, ?_⟩
  rw [show Str.ofString (toString n) = num n from rfl]
  refine ⟨_, _, rfl, rfl, le200 (by rw [two_len]; omega), _, rfl, _, rfl, l, rfl, ⟨_, SqL.of hl⟩, fun D hD => ?_⟩
  have at_ : ∀ (i : Nat) (b : Sq), bs[i]? = some b → ∃ c, zs[i]? = some (.ref c) ∧ H c = some (.tup [.str (frS b.1), .str (frS b.2)]) := fun i b hi => by
    obtain ⟨v, hv, dv⟩ := dz.get (show (bs.map sfT)[i]? = some (sfT b) by rw [List.getElem?_map, hi]; rfl)
    obtain ⟨c, rfl, hc⟩ := den_sf dv
    exact ⟨c, hv, hc⟩
  refine comp_lpairR (fun i ws _ => ws = (bs.take i).map fun b => V.str (prF b)) hD (SqL.of hl) (le200 (by omega)) rfl (fun i hi => ?_) (fun i c u v ws H2 k hc hx s2 e r hk => ?_) ?_
  · obtain ⟨c, h1, h2⟩ := at_ i _ (List.getElem?_eq_getElem (by omega : i < bs.length))
    exact ⟨c, _, _, h1, h2⟩
  · have hi : i < bs.length := by
      have := (List.getElem?_eq_some_iff.mp hc).1
      omega
    have hbi : bs[i]? = some bs[i] := List.getElem?_eq_getElem hi
    obtain ⟨c', h1, h2⟩ := at_ i _ hbi
    rw [hc] at h1
    cases h1
    rw [hx] at h2
    cases h2
    have ib := hb _ (List.getElem_mem hi)
    have w1 := frS_len ib.1
    have w2 := frS_len ib.2
    refine ⟨_, rfl, _, _, rfl, rfl, le200 (by rw [one_len]; omega), _, rfl, _, _, rfl, rfl, le200 (by rw [Str.length_append, one_len]; omega), hk _ _ (Same.refl _) ?_⟩
    rw [List.take_add_one, hbi, List.map_append, r]
    rfl
  rintro ws H2 s2 hD2 lw r
  rw [List.take_of_length_le (by omega)] at r
  subst r
  have e2 : (bs.map fun b => V.str (prF b)) = (bs.map prF).map V.str := by rw [List.map_map]; rfl
  rw [e2] at hD2
  exact ⟨D, bs.map prF, rfl, SqL.of hD2, rjoin_ok h12 hb, _, _, rfl, rfl, le200 (by rw [Str.length_append, two_len]; omega), q _ s2⟩
noncomputable def IsRu (n : Int) (ss : List Sq) : Prop := GdS n ss ∧ ∀ s ∈ ss, SqG s
theorem IsRu.l13 {n : Int} {ss : List Sq} (h : IsRu n ss) : ss.length ≤ 13 := by
  have := h.1.len
  have := h.1.n12
  omega
theorem IsRu.n60 {n : Int} {ss : List Sq} (h : IsRu n ss) : n.natAbs < 10 ^ 60 := by
  have := h.1.n1
  have := h.1.n12
  exact Nat.lt_of_le_of_lt (show n.natAbs ≤ 12 by omega) (by decide)
theorem IsRu.ne {n : Int} {ss : List Sq} (h : IsRu n ss) : ss ≠ [] := fun z => by
  have a := h.1.len
  have b := h.1.n1
  rw [z] at a
  simp at a
  omega
theorem den_rule {H : Hp} {n : Int} {bs : List Sq} {p : Addr} (d : Den H (ruT n bs) (.ref p)) : ∃ q zs, H p = some (.tup [.int n, .ref q]) ∧ H q = some (.tup zs) ∧ Dens H (bs.map ssT) zs := by
  obtain ⟨p', xs, e0, h, y, ys, e1, e2, z, zs, e3, e4, e5⟩ := d
  cases e0
  have e2' : y = V.int n := e2
  have e5' : zs = [] := e5
  subst e5' e3 e2' e1
  obtain ⟨q, ws, rfl, hq, dq⟩ := e4
  exact ⟨q, ws, h, hq, dq⟩
noncomputable def spShow : Sp := fun vs H Q _ => ∃ (n : Int) (bs : List Sq) (p : Addr), vs = [.ref p] ∧ Den H (ruT n bs) (.ref p) ∧ IsRu n bs ∧ ∀ H', Same H H' → Q (.str (rbody n bs)) H'
theorem sc_show : FnScope ["rule"] ["rule"] (defScope s_show) := ⟨rfl, rfl, rfl, by decide +kernel, rfl, by decide +kernel, by decide +kernel⟩
theorem ok_show {f : Addr} {fd : FuncData} (F : Fun K "show_rule" "show_rule" s_show f fd) (T : Txt mg) {fshf : Addr} {dshf : FuncData} (Gshf : FnOk P w K mg base CX0 1 fshf dshf ["one"] spShf) (bshf : Binds K dshf ["one"] []) (kshf : PySem.W.keepIn K (.ref fshf) = true) (mshf : mg "show_fraction" = some (.ref fshf)) {fshp : Addr} {dshp : FuncData} (Gshp : FnOk P w K mg base CX0 1 fshp dshp ["n", "pairs"] spShp) (bshp : Binds K dshp ["n", "pairs"] []) (kshp : PySem.W.keepIn K (.ref fshp) = true) (mshp : mg "show_pairs" = some (.ref fshp)) : FnOk P w K mg base CX0 2 f fd ["rule"] spShow := by
  refine F.ok sc_show (fun vs H Q E h => ?_) (fun cdv A outer s H vs Q E hr h => ?_)
  · obtain ⟨i, b, c, rfl, _⟩ := h
    rfl
  obtain ⟨n, bs, p, rfl, dp, pl, q⟩ := h
  obtain ⟨t, zs, hp, ht, dz⟩ := den_rule dp
  have lz := dz.len
  rw [List.length_map] at lz
  have h12 := pl.l13
  refine ⟨_, (pss_one (ps_ret (pe_call Gshp hr rfl mshp kshp bshp .nil pass0 (pa_cons (pe_ix ix_tup (pv 0) pe_int (fun _ _ => rfl)) (pa_cons (pe_compG (xs := ["low", "high"]) (ts := []) rfl ⟨rfl, sub0, rfl, rfl, rfl, by decide +kernel, rfl, rfl⟩ (pi_tup (pe_ix ix_tup (pv 0) pe_int (fun _ _ => rfl))) (fun C s3 H3 fp => (pg_tupC (n := 2) rfl (pgs_cons (pg_name (i := 0) (show (["low", "high"] : List Str).Nodup by decide +kernel) rfl (Or.inl rfl) (Or.inr rfl)) (pgs_cons (pg_name (i := 1) (show (["low", "high"] : List Str).Nodup by decide +kernel) rfl (Or.inl rfl) (Or.inr rfl)) pgs_nil)))) (fun C s3 H3 fp => pif_nil) (fun C s3 H3 fp => (pe_tup (pa_cons (pe_call Gshf hr rfl mshf kshf bshf .nil pass0 (pa_cons (pv 0) pa_nil)) (pa_cons (pe_call Gshf hr rfl mshf kshf bshf .nil pass0 (pa_cons (pv 1) pa_nil)) pa_nil))))) pa_nil))))), ?_⟩
  refine ⟨_, rfl, p, _, 0, _, rfl, rfl, SqT.of hp, at0, ?_⟩
  refine ⟨_, rfl, p, _, 1, _, rfl, rfl, SqT.of hp, at1, t, rfl, ⟨_, SqT.of ht⟩, fun D hD => ?_⟩
  have at_ : ∀ (i : Nat) (b : Sq), bs[i]? = some b → ∃ c a' b', zs[i]? = some (.ref c) ∧ H c = some (.tup [.ref a', .ref b']) ∧ H a' = some (.tup [.int b.1.1, .int b.1.2]) ∧ H b' = some (.tup [.int b.2.1, .int b.2.2]) := fun i b hi => by
    obtain ⟨v, hv, dv⟩ := dz.get (show (bs.map ssT)[i]? = some (ssT b) by rw [List.getElem?_map, hi]; rfl)
    obtain ⟨c, a', b', rfl, hc, ha, hb⟩ := den_ss dv
    exact ⟨c, a', b', hv, hc, ha, hb⟩
  refine comp_pairR (fun i ws G => Dens G ((bs.take i).map sfT) ws) hD (SqT.of ht) (le200 (by omega)) rfl (fun i hi => ?_) (fun i c u v ws H2 k hc hx s2 e rr hk => ?_) ?_
  · obtain ⟨c, _, _, h1, h2, _, _⟩ := at_ i _ (List.getElem?_eq_getElem (by omega : i < bs.length))
    exact ⟨c, _, _, h1, h2⟩
  · have hi : i < bs.length := by
      have := (List.getElem?_eq_some_iff.mp hc).1
      omega
    have hbi : bs[i]? = some bs[i] := List.getElem?_eq_getElem hi
    obtain ⟨c', a', b', h1, h2, ha, hb⟩ := at_ i _ hbi
    rw [hc] at h1
    cases h1
    rw [hx] at h2
    cases h2
    have ib := (pl.2 _ (List.getElem_mem hi)).b
    refine ⟨_, rfl, _, _, rfl, s2 _ _ ha, ib.1, fun H3 s3 => ⟨_, rfl, _, _, rfl, s3 _ _ (s2 _ _ hb), ib.2, fun H4 s4 => ⟨(by show 2 ≤ sizeLine; decide), fun g hg => ?_⟩⟩⟩
    have s5 := same_new hg (.tup [V.str (frS bs[i].1), V.str (frS bs[i].2)])
    have s34 := s3.trans (s4.trans s5)
    refine hk _ _ s34 ?_
    refine dens_upd (d := 2) (s34 _ _ e) (flat_map flat_sf _) ?_
    rw [List.take_add_one, hbi, List.map_append]
    exact dens_snoc (rr.keep s34) (sf_den upd_same)
  rintro ws H2 s2 hD2 lw rr
  rw [List.take_of_length_le (by omega)] at rr
  exact ⟨n, bs, D, ws, rfl, hD2, rr, pl.n60, pl.l13, fun b hb => (pl.2 b hb).b, fun H3 s3 => q _ (s2.trans s3)⟩
theorem ru_good {n : Int} {bs : List Sq} (h : IsRu n bs) : GoodU (.int n) (.lst (bs.map ssT)) n bs := h.1.good rfl (map_st fun s hs => st2_ss (h.1.sh s hs))
theorem ru_sm {n : Int} {bs : List Sq} (h : IsRu n bs) : ∀ ts, seqOf (.lst (bs.map ssT)) = some ts → ∀ t ∈ ts, ∀ s, st2 t = some s → Sm2 s.1 ∧ Sm2 s.2 := fun ts e t ht s hs => by
  cases e
  obtain ⟨s', hs', rfl⟩ := List.mem_map.mp ht
  rw [st2_ss (h.1.sh s' hs')] at hs
  cases hs
  exact h.1.sm _ hs'
noncomputable def spRr : Sp := fun vs H Q _ => ∃ (n : Int) (bs : List Sq), vs = [.str (rbody n bs)] ∧ IsRu n bs ∧ ∀ p H', Same H H' → Den H' (ruT n bs) (.ref p) → Q (.ref p) H'
theorem sc_rr : FnScope ["text", "written"] ["text"] (defScope s_rr) := ⟨rfl, rfl, rfl, by decide +kernel, rfl, by decide +kernel, by decide +kernel⟩
theorem ok_rr {C : CA} {f : Addr} {fd : FuncData} (F : Fun K "read_rule" "read_rule" s_rr f fd) (T : Txt mg) (cf : CF K mg C) {frf : Addr} {drf : FuncData} (Grf : FnOk P w K mg base CX0 6 frf drf ["text"] spRf) (brf : Binds K drf ["text"] []) (krf : PySem.W.keepIn K (.ref frf) = true) (mrf : mg "read_fraction" = some (.ref frf)) {frps : Addr} {drps : FuncData} (Grps : FnOk P w K mg base CX0 6 frps drps ["text", "read_end"] (spRps frf)) (brps : Binds K drps ["text", "read_end"] []) (krps : PySem.W.keepIn K (.ref frps) = true) (mrps : mg "read_pairs" = some (.ref frps)) {fruleof : Addr} {druleof : FuncData} (Gruleof : FnOk P w K mg base (CXX P w) 6 fruleof druleof ["n", "stretches"] (spRuX C)) (bruleof : Binds K druleof ["n", "stretches"] []) (kruleof : PySem.W.keepIn K (.ref fruleof) = true) (mruleof : mg "rule_of" = some (.ref fruleof)) : FnOk P w K mg base CX0 7 f fd ["text"] spRr := by
  refine F.ok sc_rr (fun vs H Q E h => ?_) (fun cdv A outer s H vs Q E hr h => ?_)
  · obtain ⟨i, b, rfl, _⟩ := h
    rfl
  obtain ⟨n, bs, rfl, pl, q⟩ := h
  refine ⟨_, (pss_cons (ps_set (i := 1) sc_rr.nd rfl (Or.inl rfl) (pe_call Grps hr rfl mrps krps brps .nil pass0 (pa_cons (pv 0) (pa_cons (pe_glob (v := .ref frf) rfl mrf rfl) pa_nil))))
    (pss_one (ps_ret (pe_call Gruleof hr rfl mruleof kruleof bruleof .nil passN (pa_cons (pe_ix ix_tup (pv 1) pe_int (fun _ _ => rfl)) (pa_cons (pe_ix ix_tup (pv 1) pe_int (fun _ _ => rfl)) pa_nil)))))), ?_⟩
  refine ⟨_, rfl, n, bs, rfl, pl.n60, pl.ne, pl.l13, pl.2, fun p l zs H1 s1 hp hl dz => ?_⟩
  refine ⟨_, rfl, p, _, 0, _, rfl, rfl, SqT.of hp, at0, _, rfl, p, _, 1, _, rfl, rfl, SqT.of hp, at1, ?_⟩
  refine ⟨_, _, .int n, .lst (bs.map ssT), rfl, rfl, ⟨l, zs, rfl, hl, dz⟩, ru_sm pl, fun n' bs' g' f H2 s2 d2 => ?_, fun hb => absurd (ru_good pl) (hb _ _)⟩
  obtain ⟨rfl, rfl⟩ := (ru_good pl).uq g'
  exact q f H2 (s1.trans s2) d2
noncomputable def spDivA : Sp := fun vs H Q _ => ∃ a b : Int, vs = [.int a, .int b] ∧ 0 ≤ b ∧ Q (.int (Int.gcd a b)) H
theorem sc_div : FnScope ["_law_one", "_law_other"] ["_law_one", "_law_other"] (defScope s_div) := ⟨rfl, rfl, rfl, by decide +kernel, rfl, by decide +kernel, by decide +kernel⟩
theorem ok_div {f : Addr} {fd : FuncData} (F : Fun K "_law_divisor" "_law_divisor" s_div f fd) (T : Txt mg) : FnOk P w K mg base CX0 1 f fd ["_law_one", "_law_other"] spDivA := by
  refine F.ok sc_div (fun vs H Q E h => ?_) (fun cdv A outer s H vs Q E hr h => ?_)
  · obtain ⟨a, b, rfl, _⟩ := h
    rfl
  obtain ⟨a, b, rfl, hb, q⟩ := h
  refine ⟨_, (pss_cons (ps_set (i := 0) sc_div.nd rfl (Or.inl rfl) (pe_callB call_abs rfl T.abs boot_abs (pa_cons (pv 0) pa_nil)))
    (pss_cons (ps_while PassesOwn.never (pt_cmpR op_gt (pv 1) pe_int (nomark _)) (pss_one (ps_par (i := 0) (j := 1) rfl sc_div.nd rfl rfl (by decide) rfl rfl (pa_cons (pv 1) (pa_cons (pe_op op_mod (pv 0) (pv 1)) pa_nil)) rfl)))
    (pss_one (ps_ret (pv 0))))), ?_⟩
  refine ⟨_, rfl, _, rfl, ?_⟩
  have ha : 0 ≤ (if a < 0 then -a else a) := by split <;> omega
  have hg : Int.gcd (if a < 0 then -a else a) b = Int.gcd a b := by
    have := gabs a b
    rw [if_neg (show ¬ b < 0 by omega)] at this
    exact this
  refine while_by (fun σ H' => H' = H ∧ ∃ x y, σ = [some (.int x), some (.int y)] ∧ 0 ≤ x ∧ 0 ≤ y ∧ Int.gcd x y = Int.gcd a b) (fun σ _ => mu2 σ) ⟨rfl, _, _, rfl, ha, hb, hg⟩ ?_ ?_
  · rintro σ H' ⟨rfl, x, y, rfl, hx, hy, g⟩
    refine ⟨_, rfl, _, _, rfl, rfl, _, rfl, ?_⟩
    refine ite2 (fun c => ?_) (fun c => ?_)
    · have c' : 0 < y := of_decide_eq_true c
      have hm := Int.emod_nonneg x (show y ≠ 0 by omega)
      have hl := Int.emod_lt_of_pos x c'
      refine ⟨_, rfl, _, rfl, _, rfl, _, _, rfl, rfl, c', _, _, rfl, ?_⟩
      refine ⟨⟨rfl, y, x % y, rfl, hy, hm, by rw [gstep hx hy (by omega)]; exact g⟩, ?_⟩
      show (x % y).toNat < y.toNat
      omega
    · have c' : ¬ 0 < y := ofD c
      have : y = 0 := by omega
      subst this
      refine ⟨_, rfl, ?_⟩
      rw [← g, gend hx] at q
      exact q
  · intro σ H Q Q' hq h
    obtain ⟨v, e, i, j, e1, e2, k, e3, h2⟩ := h
    exact ⟨v, e, i, j, e1, e2, k, e3, hq _ _ h2⟩
theorem smk60 {b : Int} (h : b.natAbs < 10 ^ 60) : Smk b := Nat.lt_trans h (by
  show 10 ^ 60 < 2 ^ 8900
  exact Nat.lt_of_lt_of_le (show 10 ^ 60 < 2 ^ 200 by decide) (Nat.pow_le_pow_right (by decide) (by decide)))
noncomputable def spLow : Sp := fun vs H Q _ => ∃ t b : Int, vs = [.int t, .int b] ∧ 1 ≤ b ∧ b.natAbs < 10 ^ 60 ∧ ∀ (p : Addr) (H' : Hp), Same H H' → H' p = some (.tup [.int (frT t b), .int (frB t b)]) → Q (.ref p) H'
theorem sc_low : FnScope ["_law_top", "_law_bottom", "_law_by"] ["_law_top", "_law_bottom"] (defScope s_low) := ⟨rfl, rfl, rfl, by decide +kernel, rfl, by decide +kernel, by decide +kernel⟩
theorem ok_low {f : Addr} {fd : FuncData} (F : Fun K "_law_low" "_law_low" s_low f fd) (T : Txt mg) {fdiv : Addr} {ddiv : FuncData} (Gdiv : FnOk P w K mg base CX0 1 fdiv ddiv ["_law_one", "_law_other"] spDivA) (bdiv : Binds K ddiv ["_law_one", "_law_other"] []) (kdiv : PySem.W.keepIn K (.ref fdiv) = true) (mdiv : mg "_law_divisor" = some (.ref fdiv)) : FnOk P w K mg base CX0 2 f fd ["_law_top", "_law_bottom"] spLow := by
  refine F.ok sc_low (fun vs H Q E h => ?_) (fun cdv A outer s H vs Q E hr h => ?_)
  · obtain ⟨t, b, rfl, _⟩ := h
    rfl
  obtain ⟨t, b, rfl, b1, b60, q⟩ := h
  refine ⟨_, (pss_cons (ps_set (i := 2) sc_low.nd rfl (Or.inl rfl) (pe_call Gdiv hr rfl mdiv kdiv bdiv .nil pass0 (pa_cons (pv 0) (pa_cons (pv 1) pa_nil))))
    (pss_one (ps_ret (pe_tup (pa_cons (pe_op op_fdivK (pv 0) (pv 2)) (pa_cons (pe_op op_fdivK (pv 1) (pv 2)) pa_nil)))))), ?_⟩
  refine ⟨_, rfl, _, rfl, t, b, rfl, by omega, ?_⟩
  have bn : b ≠ 0 := by omega
  have eD : frD t b = (Int.gcd t b : Int) := if_neg (by omega)
  have gp : 0 < (Int.gcd t b : Int) := by
    have : 0 < Int.gcd t b := Nat.pos_of_ne_zero fun z => bn (Int.gcd_eq_zero_iff.mp z).2
    omega
  have sg : Smk (Int.gcd t b : Int) := by
    have : Int.gcd t b ≤ b.natAbs := Nat.le_of_dvd (by omega) (Nat.gcd_dvd_right ..)
    exact smk60 (Nat.lt_of_le_of_lt this b60)
  refine ⟨_, rfl, _, rfl, _, _, rfl, rfl, ⟨by omega, sg⟩, _, rfl, _, rfl, _, _, rfl, rfl, ⟨by omega, sg⟩, (by show 2 ≤ sizeLine; decide), fun p hp => ?_⟩
  have e1 : t.fdiv (Int.gcd t b : Int) = frT t b := by unfold frT; rw [eD]
  have e2 : b.fdiv (Int.gcd t b : Int) = frB t b := by unfold frB; rw [eD]
  exact q p _ (same_new hp _) (by rw [← e1, ← e2]; exact upd_same)
theorem fr_sh {t b : Int} (t0 : 0 ≤ t) (tb : t ≤ b) (b1 : 1 ≤ b) : 0 ≤ frT t b ∧ frT t b ≤ frB t b ∧ 1 ≤ frB t b ∧ frB t b ≤ b := by
  have bn : b ≠ 0 := by omega
  have eD : frD t b = (Int.gcd t b : Int) := if_neg (by omega)
  obtain ⟨f1, f2⟩ := fr_split (t := t) (b := b) bn
  have f3 := frB_pos (t := t) (b := b) bn
  have gp : 0 < (Int.gcd t b : Int) := by
    have : 0 < Int.gcd t b := Nat.pos_of_ne_zero fun z => bn (Int.gcd_eq_zero_iff.mp z).2
    omega
  rw [eD] at f1 f2
  refine ⟨?_, ?_, by omega, ?_⟩
  · exact Int.le_of_mul_le_mul_left (a := (Int.gcd t b : Int)) (by rw [Int.mul_zero, ← f1]; exact t0) gp
  · exact Int.le_of_mul_le_mul_left (a := (Int.gcd t b : Int)) (by rw [← f1, ← f2]; exact tb) gp
  · have g1 : 1 ≤ (Int.gcd t b : Int) := by omega
    have := Int.mul_le_mul_of_nonneg_right g1 (show 0 ≤ frB t b by omega)
    rw [Int.one_mul, ← f2] at this
    exact this
theorem fr_le {C B C' B' : Int} (hB : 0 < B) (hB' : 0 < B') (h : C * B' ≤ C' * B) : frT C B * frB C' B' ≤ frT C' B' * frB C B := by
  have dp : ∀ {x y : Int}, 0 < y → 0 < frD x y := fun {x y} hy => by
    have eD : frD x y = (Int.gcd x y : Int) := if_neg (by omega)
    have : 0 < Int.gcd x y := Nat.pos_of_ne_zero fun z => (show y ≠ 0 by omega) (Int.gcd_eq_zero_iff.mp z).2
    omega
  have d1 := dp (x := C) hB
  have d2 := dp (x := C') hB'
  obtain ⟨f1, f2⟩ := fr_split (t := C) (b := B) (by omega)
  obtain ⟨g1, g2⟩ := fr_split (t := C') (b := B') (by omega)
  refine Int.le_of_mul_le_mul_left (a := frD C B * frD C' B') ?_ (Int.mul_pos d1 d2)
  generalize frD C B = D at *
  generalize frD C' B' = D' at *
  generalize frT C B = t at *
  generalize frB C B = b at *
  generalize frT C' B' = t' at *
  generalize frB C' B' = b' at *
  rw [f1, g2, g1, f2] at h
  grind
theorem fr_abs {t b : Int} (b1 : 1 ≤ b) : (frT t b).natAbs ≤ t.natAbs ∧ 1 ≤ frB t b ∧ (frB t b).natAbs ≤ b.natAbs := by
  have bn : b ≠ 0 := by omega
  obtain ⟨f1, f2⟩ := fr_split (t := t) (b := b) bn
  have f3 := frB_pos (t := t) (b := b) bn
  have nd : frD t b ≠ 0 := frD_ne bn
  have a1 : t.natAbs = (frD t b).natAbs * (frT t b).natAbs := by rw [← Int.natAbs_mul, ← f1]
  have a2 : b.natAbs = (frD t b).natAbs * (frB t b).natAbs := by rw [← Int.natAbs_mul, ← f2]
  have dp : 1 ≤ (frD t b).natAbs := by omega
  refine ⟨?_, by omega, ?_⟩
  · rw [a1]; exact Nat.le_mul_of_pos_left _ dp
  · rw [a2]; exact Nat.le_mul_of_pos_left _ dp
theorem fr_g {t b : Int} (b1 : 1 ≤ b) (ht : t.natAbs < 10 ^ 60) (hb : b.natAbs < 10 ^ 60) : FrG (frT t b, frB t b) := by
  obtain ⟨h1, h2, h3⟩ := fr_abs (t := t) b1
  exact ⟨⟨Nat.lt_of_le_of_lt h1 ht, h2, Nat.lt_of_le_of_lt h3 hb⟩, fr_gcd (by omega)⟩
noncomputable def dig (d : Nat) : Str := ⟨#[48 + d]⟩
theorem dig_at : ∀ d : Fin 10, (Str.ofString "0123456789").cps.toList[d.val]? = some (48 + d.val) := by decide +kernel
theorem dig_num : ∀ d : Fin 10, num ((d.val : Nat) : Int) = dig d.val := by decide +kernel
theorem num_step {m : Nat} (h : 10 ≤ m) : num (m : Int) = num ((m / 10 : Nat) : Int) ++ dig (m % 10) := by
  have hm : m % 10 < 10 := Nat.mod_lt _ (by decide)
  have e := dig_num ⟨m % 10, hm⟩
  dsimp only at e
  rw [← e]
  refine ext_list ?_
  rw [Str.cps_append, Array.toList_append, num_nat, num_nat, num_nat, Nat.toDigits_of_base_le (by decide) h, List.map_append, Nat.toDigits_of_lt_base hm]
noncomputable def spFgs : Sp := fun vs H Q _ => ∃ m : Nat, vs = [.int (m : Int)] ∧ m < 10 ^ 60 ∧ Q (.str (num (m : Int))) H
theorem at_dig {n : Nat} : atI (Str.ofString "0123456789").cps.toList ((n : Int) % 10) = some (48 + n % 10) := by
  have hm : n % 10 < 10 := Nat.mod_lt _ (by decide)
  rw [show (n : Int) % 10 = ((n % 10 : Nat) : Int) by omega]
  exact atI_nat (dig_at ⟨n % 10, hm⟩)
theorem ten_len : (Str.ofString "0123456789").length ≤ sizeLine := by decide +kernel
noncomputable def mu1 : St → Nat
  | some (.int x) :: _ => x.toNat
  | _ => 0
theorem sc_fgs : FnScope ["_law_number", "_law_text"] ["_law_number"] (defScope s_fgs) := ⟨rfl, rfl, rfl, by decide +kernel, rfl, by decide +kernel, by decide +kernel⟩
theorem ok_fgs {f : Addr} {fd : FuncData} (F : Fun K "_law_figures" "_law_figures" s_fgs f fd) (T : Txt mg) : FnOk P w K mg base CX0 1 f fd ["_law_number"] spFgs := by
  refine F.ok sc_fgs (fun vs H Q E h => ?_) (fun cdv A outer s H vs Q E hr h => ?_)
  · obtain ⟨t, rfl, _⟩ := h
    rfl
  obtain ⟨N, rfl, hN, q⟩ := h
  have nl : (num (N : Int)).length ≤ 60 := (num_len (by decide) hN).2
  refine ⟨_, (pss_cons (ps_set (i := 1) sc_fgs.nd rfl (Or.inl rfl) (pe_ix ix_str pe_str (pe_op op_mod (pv 0) pe_int) (fun _ _ => rfl)))
    (pss_cons (ps_while PassesOwn.never (pt_cmpR op_gt (pv 0) pe_int (nomark _)) (pss_cons (ps_set (i := 0) sc_fgs.nd rfl (Or.inl rfl) (pe_op op_fdiv (pv 0) pe_int))
      (pss_one (ps_set (i := 1) sc_fgs.nd rfl (Or.inl rfl) (pe_op op_addS (pe_ix ix_str pe_str (pe_op op_mod (pv 0) pe_int) (fun _ _ => rfl)) (pv 1))))))
    (pss_one (ps_ret (pv 1))))), ?_⟩
  refine ⟨_, rfl, _, _, rfl, rfl, (by show (0 : Int) < 10; decide), _, _, _, rfl, rfl, ten_len, at_dig, ?_⟩
  refine while_by (fun σ H' => H' = H ∧ ∃ (m : Nat) (tx : Str), σ = [some (.int (m : Int)), some (.str tx)] ∧ num (N : Int) = (if m ≤ 9 then tx else num ((m / 10 : Nat) : Int) ++ tx)) (fun σ _ => mu1 σ) ⟨rfl, N, dig (N % 10), rfl, ?_⟩ ?_ ?_
  · by_cases h : N ≤ 9
    · rw [if_pos h, Nat.mod_eq_of_lt (by omega)]
      exact dig_num ⟨N, by omega⟩
    · rw [if_neg h]
      exact num_step (by omega)
  · rintro σ H' ⟨rfl, m, tx, rfl, e⟩
    refine ⟨_, rfl, _, _, rfl, rfl, _, rfl, ?_⟩
    refine ite2 (fun c => ?_) (fun c => ?_)
    · have c' : (9 : Int) < (m : Int) := of_decide_eq_true c
      rw [if_neg (by omega)] at e
      have tl : tx.length ≤ 60 := by
        have := congrArg Str.length e
        rw [Str.length_append] at this
        omega
      refine ⟨_, rfl, _, _, rfl, rfl, ⟨by decide, by decide⟩, ?_⟩
      dsimp only
      rw [show (m : Int) / 10 = ((m / 10 : Nat) : Int) by omega]
      refine ⟨_, rfl, _, _, rfl, rfl, (by show (0 : Int) < 10; decide), _, _, _, rfl, rfl, ten_len, at_dig, _, rfl, _, _, rfl, rfl, le200 (by show 1 + tx.length ≤ 4000; omega), ?_⟩
      refine ⟨⟨rfl, m / 10, dig (m / 10 % 10) ++ tx, rfl, ?_⟩, ?_⟩
      · rw [e]
        by_cases h : m / 10 ≤ 9
        · rw [if_pos h, Nat.mod_eq_of_lt (show m / 10 < 10 by omega)]
          have := dig_num ⟨m / 10, by omega⟩
          dsimp only at this
          rw [this]
        · rw [if_neg h, ← app_assoc, ← num_step (show 10 ≤ m / 10 by omega)]
      · show ((m / 10 : Nat) : Int).toNat < (m : Int).toNat
        omega
    · have c' : ¬ (9 : Int) < (m : Int) := ofD c
      rw [if_pos (by omega)] at e
      rw [e] at q
      exact ⟨_, rfl, q⟩
  · intro σ H Q Q' hq h
    obtain ⟨v, e, i, j, e1, e2, k, e3, h2⟩ := h
    exact ⟨v, e, i, j, e1, e2, k, e3, hq _ _ h2⟩
noncomputable def spWrt : Sp := fun vs H Q _ => ∃ (p : Fq) (f : Addr), vs = [.ref f] ∧ H f = some (.tup [.int p.1, .int p.2]) ∧ FrB p ∧ Q (.str (frS p)) H
theorem sc_wrt : FnScope ["_law_one", "_law_text"] ["_law_one"] (defScope s_wrt) := ⟨rfl, rfl, rfl, by decide +kernel, rfl, by decide +kernel, by decide +kernel⟩
theorem ok_wrt {f : Addr} {fd : FuncData} (F : Fun K "_law_written" "_law_written" s_wrt f fd) (T : Txt mg) {ffgs : Addr} {dfgs : FuncData} (Gfgs : FnOk P w K mg base CX0 1 ffgs dfgs ["_law_number"] spFgs) (bfgs : Binds K dfgs ["_law_number"] []) (kfgs : PySem.W.keepIn K (.ref ffgs) = true) (mfgs : mg "_law_figures" = some (.ref ffgs)) : FnOk P w K mg base CX0 2 f fd ["_law_one"] spWrt := by
  refine F.ok sc_wrt (fun vs H Q E h => ?_) (fun cdv A outer s H vs Q E hr h => ?_)
  · obtain ⟨t, b, rfl, _⟩ := h
    rfl
  obtain ⟨p, f, rfl, hf, hp, q⟩ := h
  have w1 := (nm_ok hp.a).len
  have w2 := (nm_ok hp.b).len
  have b1 := hp.b1
  have eA : (if p.1 < 0 then -p.1 else p.1) = (p.1.natAbs : Int) := by split <;> omega
  refine ⟨_, (pss_cons (ps_set (i := 1) sc_wrt.nd rfl (Or.inl rfl) (pe_call Gfgs hr rfl mfgs kfgs bfgs .nil pass0 (pa_cons (pe_callB call_abs rfl T.abs boot_abs (pa_cons (pe_ix ix_tup (pv 0) pe_int (fun _ _ => rfl)) pa_nil)) pa_nil)))
    (pss_cons (ps_if (pt_cmpR op_lt (pe_ix ix_tup (pv 0) pe_int (fun _ _ => rfl)) pe_int (nomark _)) (pss_one (ps_set (i := 1) sc_wrt.nd rfl (Or.inl rfl) (pe_op op_addS pe_str (pv 1)))) pss_nil)
    (pss_cons (ps_if (pt_cmpR op_gt (pe_ix ix_tup (pv 0) pe_int (fun _ _ => rfl)) pe_int (nomark _)) (pss_one (ps_set (i := 1) sc_wrt.nd rfl (Or.inl rfl) (pe_op op_addS (pe_op op_addS (pv 1) pe_str) (pe_call Gfgs hr rfl mfgs kfgs bfgs .nil pass0 (pa_cons (pe_ix ix_tup (pv 0) pe_int (fun _ _ => rfl)) pa_nil))))) pss_nil)
    (pss_one (ps_ret (pv 1)))))), ?_⟩
  refine ⟨_, rfl, f, _, 0, _, rfl, rfl, SqT.of hf, at0, _, rfl, ?_⟩
  refine ⟨p.1.natAbs, by show [V.int _] = _; rw [eA], hp.a, ?_⟩
  dsimp only
  refine seq_by (fun σ H' => H' = H ∧ σ = [some (.ref f), some (.str (num p.1))]) ?_ ?_
  · intro M hM
    refine ⟨_, rfl, f, _, 0, _, rfl, rfl, SqT.of hf, at0, _, _, rfl, rfl, _, rfl, ?_⟩
    refine ite2 (fun c => ?_) (fun c => ?_)
    · have c' : p.1 < 0 := of_decide_eq_true c
      obtain ⟨m, em⟩ : ∃ m : Nat, p.1 = -((m + 1 : Nat) : Int) := ⟨p.1.natAbs - 1, by omega⟩
      have en := num_neg m
      rw [← em, show ((m + 1 : Nat) : Int) = (p.1.natAbs : Int) by omega] at en
      have ml : (num (p.1.natAbs : Int)).length ≤ 61 := by
        have := congrArg Str.length en
        rw [Str.length_append] at this
        omega
      refine ⟨_, rfl, _, _, rfl, rfl, le200 ?_, hM _ _ ⟨rfl, ?_⟩⟩
      · rw [show (Str.ofString "-").length = 1 by decide +kernel]
        exact Nat.le_trans (Nat.add_le_add_left ml 1) (by decide)
      · rw [en]; rfl
    · have c' : ¬ p.1 < 0 := ofD c
      refine hM _ _ ⟨rfl, ?_⟩
      rw [show (p.1.natAbs : Int) = p.1 by omega]
      rfl
  rintro σ H' ⟨rfl, rfl⟩
  refine seq_by (fun σ H'' => H'' = H' ∧ σ = [some (.ref f), some (.str (frS p))]) ?_ ?_
  · intro M hM
    refine ⟨_, rfl, f, _, 1, _, rfl, rfl, SqT.of hf, at1, _, _, rfl, rfl, _, rfl, ?_⟩
    unfold frS at hM
    refine ite2 (fun c => ?_) (fun c => ?_)
    · have c' : 1 < p.2 := of_decide_eq_true c
      rw [if_neg (by omega)] at hM
      refine ⟨_, rfl, _, _, rfl, rfl, le200 (by rw [slash_len]; exact Nat.le_trans (Nat.add_le_add_right w1 1) (by decide)), ?_⟩
      refine ⟨_, rfl, f, _, 1, _, rfl, rfl, SqT.of hf, at1, p.2.natAbs, by show [V.int _] = _; rw [show (p.2.natAbs : Int) = p.2 by omega], hp.b, ?_⟩
      rw [show (p.2.natAbs : Int) = p.2 by omega]
      refine ⟨_, _, rfl, rfl, le200 ?_, hM _ _ ⟨rfl, rfl⟩⟩
      rw [Str.length_append, slash_len]
      exact Nat.le_trans (Nat.add_le_add (Nat.add_le_add_right w1 1) w2) (by decide)
    · have c' : ¬ 1 < p.2 := ofD c
      rw [if_pos (by omega)] at hM
      exact hM _ _ ⟨rfl, rfl⟩
  rintro σ H'' ⟨rfl, rfl⟩
  exact ⟨_, rfl, q⟩
noncomputable def okT : Nat → Th → Prop
  | 0, .int _ => True
  | _ + 1, .int _ => True
  | d + 1, .tup ts => ∀ t ∈ ts, okT d t
  | _, _ => False
noncomputable def spAlk (d : Nat) : Sp := fun vs H Q _ => ∃ (x y : V) (t : Th), vs = [x, y] ∧ Den H t x ∧ Den H t y ∧ okT d t ∧ ∀ H', Same H H' → Q (.bl true) H'
theorem okT_int {d : Nat} {t : Th} (h : okT d t) (hn : isTupT t = false) : ∃ i, t = .int i := by
  cases t with
  | int i => exact ⟨i, rfl⟩
  | tup ts => cases hn
  | _ => cases d <;> exact h.elim
theorem okT_tup {d : Nat} {ts : List Th} (h : okT d (.tup ts)) : ∃ e, d = e + 1 ∧ ∀ t ∈ ts, okT e t := by
  cases d with
  | zero => exact h.elim
  | succ e => exact ⟨e, rfl, h⟩
theorem sc_alk : FnScope ["_law_found", "_law_due", "_law_one", "_law_other"] ["_law_found", "_law_due"] (defScope s_alk) := ⟨rfl, rfl, rfl, by decide +kernel, rfl, by decide +kernel, by decide +kernel⟩
theorem step_alk {f : Addr} {fd : FuncData} (F : Fun K "_law_alike" "_law_alike" s_alk f fd) (T : Txt mg) {k : Nat} {d : Nat} {f' : Addr} {fd' : FuncData} (Galk : FnOk P w K mg base CX0 k f' fd' ["_law_found", "_law_due"] (fun vs H Q E => ∃ e, d = e + 1 ∧ spAlk e vs H Q E)) (balk : Binds K fd' ["_law_found", "_law_due"] []) (kalk : PySem.W.keepIn K (.ref f') = true) (malk : mg "_law_alike" = some (.ref f')) :
    FnOk P w K mg base CX0 (k + 1) f fd ["_law_found", "_law_due"] (spAlk d) := by
  refine F.ok sc_alk (fun vs H Q E h => ?_) (fun cdv A outer s H vs Q E hr h => ?_)
  · obtain ⟨i, b, c, rfl, _⟩ := h
    rfl
  obtain ⟨x, y, t, rfl, dx, dy, ok, q⟩ := h
  refine ⟨_, (pss_cons (ps_if (pt_val (pe_callB call_isinstD rfl T.isinstance boot_isinstance (pa_cons (pv 1) (pa_cons (pe_bltn (v := .ty "tuple") rfl T.tuple boot_tuple rfl) pa_nil)))) (pss_cons (ps_if (PW.pt (pw_or (pt_not (pt_val (pe_callB call_isinstD rfl T.isinstance boot_isinstance (pa_cons (pv 0) (pa_cons (pe_bltn (v := .ty "tuple") rfl T.tuple boot_tuple rfl) pa_nil))))) (pw_or1 (pt_cmpR op_ne (pe_callB call_len_seq rfl T.len boot_len (pa_cons (pv 0) pa_nil)) (pe_callB call_len_seq rfl T.len boot_len (pa_cons (pv 1) pa_nil)) (nomark _))))) (pss_one (ps_ret pe_bl)) pss_nil)
      (pss_cons (ps_for PassesOwn.never rfl (pi_zipT rfl T.zip (pa_cons (pv 0) (pa_cons (pv 1) pa_nil))) (pg_tup rfl (pgs_cons (pg_name (i := 2) sc_alk.nd rfl (Or.inl rfl)) (pgs_cons (pg_name (i := 3) sc_alk.nd rfl (Or.inl rfl)) pgs_nil))) (pss_one (ps_if (pt_not (pt_val (pe_call Galk hr rfl malk kalk balk .nil pass0 (pa_cons (pv 2) (pa_cons (pv 3) pa_nil))))) (pss_one (ps_ret pe_bl)) pss_nil)))
      (pss_one (ps_ret pe_bl)))) pss_nil)
    (pss_one (ps_ret (pe_and (pe_callB call_isinstD rfl T.isinstance boot_isinstance (pa_cons (pv 0) (pa_cons (pe_bltn (v := .ty "int") rfl T.int boot_int rfl) pa_nil))) (pe_and (pe_not (pe_callB call_isinstD rfl T.isinstance boot_isinstance (pa_cons (pv 0) (pa_cons (pe_bltn (v := .ty "bool") rfl T.bool boot_bool rfl) pa_nil)))) (pe_one (pe_cmpR op_eq (pv 0) (pv 1) (nomark _)))))))), ?_⟩
  refine ⟨_, rfl, y, t, _, _, rfl, dy, kit_tuple t, _, rfl, ?_⟩
  cases ht : isTupT t with
  | false =>
    obtain ⟨i, rfl⟩ := okT_int ok ht
    cases (show x = V.int i from dx)
    cases (show y = V.int i from dy)
    refine iteF ⟨_, rfl, _, .int i, _, _, rfl, rfl, kit_int _, _, rfl, iteT ⟨_, rfl, _, .int i, _, _, rfl, rfl, kit_bool _, _, rfl, _, rfl, iteT ⟨_, rfl, _, rfl, rfl, ?_⟩⟩⟩
    have := q H (Same.refl H)
    simpa using this
  | true =>
    cases t with
    | tup ts =>
      obtain ⟨e, rfl, okk⟩ := okT_tup ok
      obtain ⟨a1, xs, rfl, h1, d1⟩ := dx
      obtain ⟨a2, ys, rfl, h2, d2⟩ := dy
      have l1 := d1.len
      have l2 := d2.len
      refine iteT ⟨_, rfl, _, .tup ts, _, _, rfl, ⟨a1, xs, rfl, h1, d1⟩, kit_tuple _, _, rfl, iteF ?_⟩
      refine ⟨_, rfl, a1, xs, rfl, .inr (SqT.of h1), _, rfl, a2, ys, rfl, .inr (SqT.of h2), rfl, _, rfl, ?_⟩
      refine ite2 (fun c => absurd c (by rw [l1, l2]; simp)) (fun c => ?_)
      refine ⟨_, rfl, _, rfl, a1, a2, rfl, ⟨_, SqT.of h1⟩, ⟨_, SqT.of h2⟩, ?_⟩
      refine for_zipT (n := ts.length) (xs := xs) (ys := ys) (fun i σ H' => Same H H' ∧ ∃ v1 v2, σ = [some (.ref a1), some (.ref a2), v1, v2]) ⟨Same.refl H, none, none, rfl⟩ (by omega) (by omega) (.inl (by omega)) ?_ ?_ ?_
      · rintro i σ H' hi ⟨sm, _⟩
        exact ⟨SqT.of (sm _ _ h1), SqT.of (sm _ _ h2)⟩
      · rintro i u v U σ H' hi hu hv hU ⟨sm, v1, v2, rfl⟩
        have et := List.getElem?_eq_getElem hi
        obtain ⟨u', f1, g1⟩ := (d1.keep sm).get et
        obtain ⟨v', f2, g2⟩ := (d2.keep sm).get et
        rw [hu] at f1
        cases f1
        rw [hv] at f2
        cases f2
        have sU := same_new hU (.tup [u, v])
        refine ⟨U, [u, v], rfl, SqT.of upd_same, rfl, _, _, rfl, _, _, rfl, rfl, ?_⟩
        refine ⟨_, rfl, _, rfl, e, rfl, _, _, ts[i], rfl, g1.keep sU, g2.keep sU, okk _ (List.getElem_mem hi), fun H2 s2 => ⟨_, rfl, iteF ?_⟩⟩
        exact ⟨sm.trans (sU.trans s2), _, _, rfl⟩
      · rintro σ H' ⟨sm, v1, v2, rfl⟩
        exact q _ sm
    | _ => cases ht
theorem no_alk {f : Addr} {fd : FuncData} : FnOk P w K mg base CX0 0 f fd ["_law_found", "_law_due"] (fun vs H Q E => ∃ e, 0 = e + 1 ∧ spAlk e vs H Q E) where
  len := fun vs H Q E ⟨e, h, _⟩ => by omega
  run := fun A outer s H args us vs Q E _ _ _ _ ⟨e, h, _⟩ => by omega
theorem dn_alk {k d : Nat} {f : Addr} {fd : FuncData} (G : FnOk P w K mg base CX0 k f fd ["_law_found", "_law_due"] (spAlk d)) : FnOk P w K mg base CX0 k f fd ["_law_found", "_law_due"] (fun vs H Q E => ∃ e, d + 1 = e + 1 ∧ spAlk e vs H Q E) where
  len := fun vs H Q E ⟨e, h, h2⟩ => by
    cases h
    exact G.len vs H Q E h2
  run := fun A outer s H args us vs Q E a1 a2 a3 a4 ⟨e, h, h2⟩ => by
    cases h
    exact G.run A outer s H args us vs Q E a1 a2 a3 a4 h2
theorem ok_alk {f : Addr} {fd : FuncData} (F : Fun K "_law_alike" "_law_alike" s_alk f fd) (T : Txt mg) (bS : Binds K fd ["_law_found", "_law_due"] []) (kS : PySem.W.keepIn K (.ref f) = true) (mS : mg "_law_alike" = some (.ref f)) : FnOk P w K mg base CX0 5 f fd ["_law_found", "_law_due"] (spAlk 4) := by
  have g0 := step_alk (P := P) (w := w) (base := base) F T (no_alk (f := f) (fd := fd)) bS kS mS
  have g1 := step_alk F T (dn_alk g0) bS kS mS
  have g2 := step_alk F T (dn_alk g1) bS kS mS
  have g3 := step_alk F T (dn_alk g2) bS kS mS
  exact step_alk F T (dn_alk g3) bS kS mS
noncomputable def spFrn (K : PySem.W.Frag) : Sp := fun vs H Q _ => ∃ (a : Addr) (ns : List Int), vs = [.ref a] ∧ SqL K H a (ns.map V.int) ∧ ns.length ≤ 63 ∧ ∀ (p : Fq) (f : Addr) (H' : Hp), FrB p → Same H H' → H' f = some (.tup [.int p.1, .int p.2]) → Q (.ref f) H'
theorem sc_frn : FnScope ["_law_script", "_law_cell", "_law_top", "_law_bottom"] ["_law_script"] (defScope s_frn) := ⟨rfl, rfl, rfl, by decide +kernel, rfl, by decide +kernel, by decide +kernel⟩
theorem ok_frn {f : Addr} {fd : FuncData} (F : Fun K "_law_fraction" "_law_fraction" s_frn f fd) (T : Txt mg) {fatU : Addr} {datU : FuncData} (GatU : FnOk P w K mg base CX0 2 fatU datU ["_law_script", "_law_k"] (spAtU K)) (batU : Binds K datU ["_law_script", "_law_k"] []) (katU : PySem.W.keepIn K (.ref fatU) = true) (matU : mg "_law_at" = some (.ref fatU)) {flow : Addr} {dlow : FuncData} (Glow : FnOk P w K mg base CX0 2 flow dlow ["_law_top", "_law_bottom"] spLow) (blow : Binds K dlow ["_law_top", "_law_bottom"] []) (klow : PySem.W.keepIn K (.ref flow) = true) (mlow : mg "_law_low" = some (.ref flow)) : FnOk P w K mg base CX0 3 f fd ["_law_script"] (spFrn K) := by
  refine F.ok sc_frn (fun vs H Q E h => ?_) (fun cdv A outer s H vs Q E hr h => ?_)
  · obtain ⟨t, b, rfl, _⟩ := h
    rfl
  obtain ⟨a, ns, rfl, hS, h63, q⟩ := h
  refine ⟨_, (pss_cons (ps_set (i := 1) sc_frn.nd rfl (Or.inl rfl) (pe_call GatU hr rfl matU katU batU .nil pass0 (pa_cons (pv 0) (pa_cons pe_int pa_nil))))
    (pss_cons (ps_set (i := 2) sc_frn.nd rfl (Or.inl rfl) (pe_op op_sub (pe_op op_mod (pe_call GatU hr rfl matU katU batU .nil pass0 (pa_cons (pv 0) (pa_cons pe_int pa_nil))) (pe_op op_sub (pe_op op_mul pe_int (pe_op op_pow pe_int pe_int)) pe_int)) (pe_op op_sub (pe_op op_pow pe_int pe_int) pe_int)))
    (pss_cons (ps_if (pt_cmpR op_eq (pe_op op_mod (pv 1) pe_int) pe_int (nomark _)) (pss_one (ps_set (i := 2) sc_frn.nd rfl (Or.inl rfl) (pe_op op_sub (pe_op op_mod (pe_call GatU hr rfl matU katU batU .nil pass0 (pa_cons (pv 0) (pa_cons pe_int pa_nil))) pe_int) pe_int))) pss_nil)
    (pss_cons (ps_set (i := 3) sc_frn.nd rfl (Or.inl rfl) (pe_ix ix_list (pe_lst (pa_cons pe_int (pa_cons (pe_op op_add pe_int (pe_op op_mod (pe_op op_fdiv (pv 1) pe_int) pe_int)) (pa_cons (pe_op op_add pe_int (pe_op op_mod (pe_op op_mul (pe_call GatU hr rfl matU katU batU .nil pass0 (pa_cons (pv 0) (pa_cons pe_int pa_nil))) pe_int) (pe_op op_sub (pe_op op_pow pe_int pe_int) pe_int))) pa_nil)))) (pe_op op_mod (pe_op op_fdiv (pv 1) pe_int) pe_int) (fun _ _ => rfl)))
    (pss_one (ps_ret (pe_call Glow hr rfl mlow klow blow .nil pass0 (pa_cons (pv 2) (pa_cons (pv 3) pa_nil))))))))), ?_⟩
  refine ⟨_, rfl, a, ns, 0, rfl, hS, h63, by omega, by omega, fun cl => ?_⟩
  refine ⟨_, rfl, a, ns, 1, rfl, hS, h63, by omega, by omega, fun r1 => ?_⟩
  have P3 : (0 : Int) < 3 := by decide
  have P12 : (0 : Int) < 12 := by decide
  have P41 : (0 : Int) < 41 := by decide
  have M1 : (0 : Int) < 2 * 10 ^ ((60 : Int).toNat) - 1 := by decide
  have M2 : (0 : Int) < 10 ^ ((60 : Int).toNat) - 1 := by decide
  refine ⟨_, _, rfl, rfl, ⟨by decide, by decide, by decide⟩, _, _, rfl, rfl, .inl ⟨by decide, by decide⟩, _, _, rfl, rfl, _, _, rfl, rfl, M1, _, _, rfl, rfl, ⟨by decide, by decide, by decide⟩, _, _, rfl, rfl, _, _, rfl, rfl, ?_⟩
  have m0 := md0 r1 M1
  have m1 := md1 r1 M1
  have ea : ((10 : Int) ^ ((60 : Int).toNat)) = ((10 ^ 60 : Nat) : Int) := by decide
  rw [ea] at m0 m1 M1 M2
  dsimp only
  rw [ea]
  have lit : (10 : Nat) ^ 60 = 1000000000000000000000000000000000000000000000000000000000000 := by decide
  refine seq_by (fun σ H' => H' = H ∧ ∃ tp : Int, σ = [some (.ref a), some (.int cl), some (.int tp), none] ∧ tp.natAbs < 10 ^ 60) ?_ ?_
  · intro M hM
    refine ⟨_, rfl, _, _, rfl, rfl, P3, rfl, _, rfl, ?_⟩
    refine ite2 (fun c => ?_) (fun c => hM _ _ ⟨rfl, _, rfl, ?_⟩)
    · refine ⟨_, rfl, a, ns, 1, rfl, hS, h63, by omega, by omega, fun r2 => ⟨_, _, rfl, rfl, P41, _, _, rfl, rfl, hM _ _ ⟨rfl, _, rfl, ?_⟩⟩⟩
      have k0 := md0 r2 P41
      have k1 := md1 r2 P41
      exact Nat.lt_of_le_of_lt (show (r2 % 41 - 20).natAbs ≤ 20 by omega) (by decide)
    · generalize r1 % (2 * ((10 ^ 60 : Nat) : Int) - 1) = x at *
      generalize (10 : Nat) ^ 60 = Z at *
      omega
  rintro σ H' ⟨rfl, tp, rfl, t60⟩
  refine ⟨_, rfl, _, _, rfl, rfl, ⟨by decide, by decide⟩, _, _, rfl, rfl, P12, _, _, rfl, rfl, ?_⟩
  refine ⟨_, rfl, a, ns, 2, rfl, hS, h63, by omega, by omega, fun r3 => ?_⟩
  refine ⟨_, _, rfl, rfl, .inr ⟨by decide, by decide⟩, _, _, rfl, rfl, ⟨by decide, by decide, by decide⟩, _, _, rfl, rfl, _, _, rfl, rfl, by rw [ea]; exact M2, _, _, rfl, rfl, (by show 3 ≤ sizeLine; decide), fun l hl => ?_⟩
  have sl := same_new hl (.lst [V.int 1, V.int (1 + cl / 3 % 12), V.int (1 + r3 * 48271 % (10 ^ ((60 : Int).toNat) - 1))])
  have xl : upd H' l (.lst [V.int 1, V.int (1 + cl / 3 % 12), V.int (1 + r3 * 48271 % (10 ^ ((60 : Int).toNat) - 1))]) l = some (.lst [V.int 1, V.int (1 + cl / 3 % 12), V.int (1 + r3 * 48271 % (10 ^ ((60 : Int).toNat) - 1))]) := upd_same
  rw [ea] at sl xl
  rw [ea]
  have j0 := md0 (r3 * 48271) M2
  have j1 := md1 (r3 * 48271) M2
  generalize r3 * 48271 % (((10 ^ 60 : Nat) : Int) - 1) = z at *
  have y0 := md0 (cl / 3) P12
  have y1 := md1 (cl / 3) P12
  generalize cl / 3 % 12 = y at *
  generalize upd H' l (.lst [V.int 1, V.int (1 + y), V.int (1 + z)]) = H1 at *
  refine ⟨_, rfl, _, _, rfl, rfl, ⟨by decide, by decide⟩, _, _, rfl, rfl, P3, ?_⟩
  have i0 := md0 (cl / 36) P3
  have i1 := md1 (cl / 36) P3
  dsimp only
  generalize cl / 36 % 3 = ix at *
  have z60 : (1 + z).natAbs < 10 ^ 60 := by
    generalize (10 : Nat) ^ 60 = Z at *
    omega
  have hix : ix = 0 ∨ ix = 1 ∨ ix = 2 := by omega
  rcases hix with rfl | rfl | rfl
  · refine ⟨l, _, 0, _, rfl, rfl, SqL.of xl, at0, ?_⟩
    exact ⟨_, rfl, _, rfl, tp, 1, rfl, by omega, by decide, fun p H2 s2 hp => q _ p _ (fr_g (by omega) t60 (by decide)).toFrB (sl.trans s2) hp⟩
  · refine ⟨l, _, 1, _, rfl, rfl, SqL.of xl, at1, ?_⟩
    have y60 : (1 + y).natAbs < 10 ^ 60 := Nat.lt_of_le_of_lt (show (1 + y).natAbs ≤ 12 by omega) (by decide)
    exact ⟨_, rfl, _, rfl, tp, 1 + y, rfl, by omega, y60, fun p H2 s2 hp => q _ p _ (fr_g (by omega) t60 y60).toFrB (sl.trans s2) hp⟩
  · refine ⟨l, _, 2, _, rfl, rfl, SqL.of xl, atI_nat (j := 2) rfl, ?_⟩
    exact ⟨_, rfl, _, rfl, tp, 1 + z, rfl, by omega, z60, fun p H2 s2 hp => q _ p _ (fr_g (by omega) t60 z60).toFrB (sl.trans s2) hp⟩
theorem ixN_nat {n k : Nat} {i : Int} (e : i = (k : Int)) (h : k < n) : ixN n i = some k := by
  unfold ixN
  rw [if_pos (by omega), if_pos (by omega), e]
  rfl
structure Rw (n : Nat) (bt : Int) (xs : List Int) : Prop where
  len : xs.length = n + 1
  asc : ∀ i j, i ≤ j → j ≤ n → xs.getD i 0 ≤ xs.getD j 0
  bd : ∀ i, i ≤ n → 0 ≤ xs.getD i 0 ∧ xs.getD i 0 ≤ bt
theorem rw_of {n : Nat} {bt : Int} {xs : List Int} (l : xs.length = n + 1) (p : xs.Pairwise (· ≤ ·)) (b : ∀ m ∈ xs, 0 ≤ m ∧ m ≤ bt) : Rw n bt xs := by
  refine ⟨l, fun i j hij hj => ?_, fun i hi => ?_⟩
  · rw [getD_in (by omega), getD_in (by omega)]
    rcases Nat.lt_or_ge i j with h | h
    · exact List.pairwise_iff_getElem.mp p i j (by omega) (by omega) h
    · have : i = j := by omega
      subst this
      exact Int.le_refl _
  · exact b _ (getD_mem (by omega))
theorem getD_set {xs : List Int} {k i : Nat} {v : Int} (h : k < xs.length) : (xs.set k v).getD i 0 = if k = i then v else xs.getD i 0 := by
  simp only [List.getD_eq_getElem?_getD, List.getElem?_set]
  split
  · rename_i e
    subst e
    simp [h]
  · rfl
theorem Rw.set0 {n : Nat} {bt : Int} {xs : List Int} (h : Rw n bt xs) (hb : 0 ≤ bt) : Rw n bt (xs.set 0 0) := by
  have l := h.len
  refine ⟨by simp [l], fun i j hij hj => ?_, fun i hi => ?_⟩
  · rw [getD_set (by omega), getD_set (by omega)]
    have a := h.asc i j hij hj
    have b := (h.bd j hj).1
    split <;> split <;> omega
  · rw [getD_set (by omega)]
    have b := h.bd i hi
    split <;> omega
theorem Rw.setn {n : Nat} {bt : Int} {xs : List Int} (h : Rw n bt xs) (hb : 0 ≤ bt) : Rw n bt (xs.set n bt) := by
  have l := h.len
  refine ⟨by simp [l], fun i j hij hj => ?_, fun i hi => ?_⟩
  · rw [getD_set (by omega), getD_set (by omega)]
    have a := h.asc i j hij hj
    have b := (h.bd i (by omega)).2
    split <;> split <;> omega
  · rw [getD_set (by omega)]
    have b := h.bd i hi
    split <;> omega
noncomputable def mnO (os us : List Int) (k : Nat) : Int := if us.getD k 0 < os.getD k 0 then us.getD k 0 else os.getD k 0
noncomputable def mxO (os us : List Int) (k : Nat) : Int := if os.getD k 0 < us.getD k 0 then us.getD k 0 else os.getD k 0
noncomputable def stO (os us : List Int) (bt : Int) (k : Nat) : Sq := ((frT (mnO os us k) bt, frB (mnO os us k) bt), (frT (mxO os us k) bt, frB (mxO os us k) bt))
theorem und_le {x y bt : Int} (hb : 1 ≤ bt) (h : x ≤ y) : und2 (frT y bt, frB y bt) (frT x bt, frB x bt) = false := by
  have := fr_le (C := x) (B := bt) (C' := y) (B' := bt) (by omega) (by omega) (Int.mul_le_mul_of_nonneg_right h (by omega))
  unfold und2
  exact decide_eq_false (by dsimp only; omega)
theorem share_fr {t bt : Int} (t0 : 0 ≤ t) (tb : t ≤ bt) (hb : 1 ≤ bt) : shareT (ppT (frT t bt, frB t bt)) = true := by
  obtain ⟨h1, h2, h3, h4⟩ := fr_sh t0 tb hb
  have g : Int.gcd (frT t bt) (frB t bt) = 1 := fr_gcd (by omega)
  show (true && (decide ((1 : Int) ≤ frB t bt) && (decide (0 ≤ frT t bt) && (decide (frT t bt ≤ frB t bt) && decide (Int.gcd (frT t bt) (frB t bt) = 1))))) = true
  rw [decide_eq_true h1, decide_eq_true h2, decide_eq_true h3, decide_eq_true g]
  rfl
theorem ru_of {n : Nat} {bt : Int} {os us : List Int} (n1 : 1 ≤ n) (n12 : n ≤ 12) (hb : 1 ≤ bt) (b60 : bt.natAbs < 10 ^ 60) (A : Rw n bt os) (B : Rw n bt us) : IsRu n ((List.range (n + 1)).map (stO os us bt)) := by
  have at_ : ∀ s ∈ (List.range (n + 1)).map (stO os us bt), ∃ k, k ≤ n ∧ s = stO os us bt k := fun s hs => by
    obtain ⟨k, hk, e⟩ := List.mem_map.mp hs
    exact ⟨k, by have := List.mem_range.mp hk; omega, e.symm⟩
  have bd : ∀ k, k ≤ n → (0 ≤ mnO os us k ∧ mnO os us k ≤ bt) ∧ (0 ≤ mxO os us k ∧ mxO os us k ≤ bt) ∧ mnO os us k ≤ mxO os us k := fun k hk => by
    have a := A.bd k hk
    have b := B.bd k hk
    unfold mnO mxO
    refine ⟨?_, ?_, ?_⟩ <;> (split <;> (try split) <;> omega)
  have g60 : ∀ {t : Int}, 0 ≤ t → t ≤ bt → t.natAbs < 10 ^ 60 := fun h0 h1 => Nat.lt_of_le_of_lt (by omega) b60
  have fg : ∀ k, k ≤ n → SqG (stO os us bt k) := fun k hk => by
    obtain ⟨⟨a1, a2⟩, ⟨a3, a4⟩, _⟩ := bd k hk
    exact ⟨fr_g hb (g60 a1 a2) b60, fr_g hb (g60 a3 a4) b60⟩
  refine ⟨⟨by omega, by omega, by simp, fun s hs => ?_, fun i p q hp hq => ?_, fun s hs => ?_, fun s hs => ?_⟩, fun s hs => ?_⟩
  · obtain ⟨k, hk, rfl⟩ := at_ s hs
    exact und_le hb (bd k hk).2.2
  · rw [List.getElem?_map] at hp hq
    have hi : i + 1 < n + 1 := by
      cases e : (List.range (n + 1))[i + 1]? with
      | none => rw [e] at hq; cases hq
      | some z =>
        have := (List.getElem?_eq_some_iff.mp e).1
        simpa using this
    rw [List.getElem?_range (by omega)] at hp
    rw [List.getElem?_range hi] at hq
    cases hp
    cases hq
    have a := A.asc i (i + 1) (by omega) (by omega)
    have b := B.asc i (i + 1) (by omega) (by omega)
    refine ⟨und_le hb ?_, und_le hb ?_⟩
    · unfold mnO
      split <;> split <;> omega
    · unfold mxO
      split <;> split <;> omega
  · obtain ⟨k, hk, rfl⟩ := at_ s hs
    obtain ⟨⟨a1, a2⟩, ⟨a3, a4⟩, _⟩ := bd k hk
    exact ⟨share_fr a1 a2 hb, share_fr a3 a4 hb⟩
  · obtain ⟨k, hk, rfl⟩ := at_ s hs
    have g := fg k hk
    exact ⟨⟨smk60 g.1.a, smk60 g.1.b⟩, ⟨smk60 g.2.a, smk60 g.2.b⟩⟩
  · obtain ⟨k, hk, rfl⟩ := at_ s hs
    exact fg k hk
noncomputable def spSts (K : PySem.W.Frag) : Sp := fun vs H Q _ => ∃ (a : Addr) (ns : List Int) (n : Nat), vs = [.ref a, .int n] ∧ SqL K H a (ns.map V.int) ∧ ns.length ≤ 63 ∧ 1 ≤ n ∧ n ≤ 12 ∧ ∀ (bs : List Sq) (zs : List V) (l : Addr) (H' : Hp), Same H H' → H' l = some (.lst zs) → Dens H' (bs.map ssT) zs → IsRu n bs → Q (.ref l) H'
theorem sc_sts : FnScope ["_law_script", "_law_n", "_law_bottom", "_law_ones", "_law_others", "_law_found", "_law_k", "_law_low_here"] ["_law_script", "_law_n"] (defScope s_sts) := ⟨rfl, rfl, rfl, by decide +kernel, rfl, by decide +kernel, by decide +kernel⟩
theorem ok_sts {f : Addr} {fd : FuncData} (F : Fun K "_law_stretches" "_law_stretches" s_sts f fd) (T : Txt mg) {fatU : Addr} {datU : FuncData} (GatU : FnOk P w K mg base CX0 2 fatU datU ["_law_script", "_law_k"] (spAtU K)) (batU : Binds K datU ["_law_script", "_law_k"] []) (katU : PySem.W.keepIn K (.ref fatU) = true) (matU : mg "_law_at" = some (.ref fatU)) {flow : Addr} {dlow : FuncData} (Glow : FnOk P w K mg base CX0 2 flow dlow ["_law_top", "_law_bottom"] spLow) (blow : Binds K dlow ["_law_top", "_law_bottom"] []) (klow : PySem.W.keepIn K (.ref flow) = true) (mlow : mg "_law_low" = some (.ref flow)) : FnOk P w K mg base CX0 3 f fd ["_law_script", "_law_n"] (spSts K) := by
  refine F.ok sc_sts (fun vs H Q E h => ?_) (fun cdv A outer s H vs Q E hr h => ?_)
  · obtain ⟨t, b, c, rfl, _⟩ := h
    rfl
  obtain ⟨a, ns, n, rfl, hS, h63, n1, n12, q⟩ := h
  refine ⟨_, (pss_cons (ps_set (i := 2) sc_sts.nd rfl (Or.inr rfl) (pe_op op_add pe_int (pe_op op_mod (pe_call GatU hr rfl matU katU batU .nil pass0 (pa_cons (pv 0) (pa_cons pe_int pa_nil))) pe_int)))
    (pss_cons (ps_if (pt_cmpR op_eq (pe_op op_mod (pe_call GatU hr rfl matU katU batU .nil pass0 (pa_cons (pv 0) (pa_cons pe_int pa_nil))) pe_int) pe_int (nomark _)) (pss_one (ps_set (i := 2) sc_sts.nd rfl (Or.inr rfl) (pe_op op_add pe_int (pe_op op_mod (pe_op op_mul (pe_call GatU hr rfl matU katU batU .nil pass0 (pa_cons (pv 0) (pa_cons pe_int pa_nil))) pe_int) (pe_op op_pow pe_int pe_int))))) pss_nil)
    (pss_cons (ps_set (i := 3) sc_sts.nd rfl (Or.inl rfl) (pe_callB call_sortedI rfl T.sorted boot_sorted (pa_cons (pe_comp (ts := [("_law_bottom", 2), ("_law_script", 0)]) rfl ⟨rfl, sub2 rfl rfl, rfl, rfl, rfl, rfl, by decide +kernel, rfl, rfl⟩ (pi_range1 rfl T.range (pa_cons (pe_op op_add (pv 1) pe_int) pa_nil)) (fun C s3 H3 fp => (pe_op op_mod (pe_op op_mul (pe_call GatU hr rfl matU katU batU .nil pass0 (pa_cons (pv 2) (pa_cons (pe_op op_add pe_int (pv 0)) pa_nil))) pe_int) (pe_op op_add (pv 1) pe_int)))) pa_nil)))
    (pss_cons (ps_set (i := 4) sc_sts.nd rfl (Or.inl rfl) (pe_callB call_sortedI rfl T.sorted boot_sorted (pa_cons (pe_comp (ts := [("_law_bottom", 2), ("_law_script", 0)]) rfl ⟨rfl, sub2 rfl rfl, rfl, rfl, rfl, rfl, by decide +kernel, rfl, rfl⟩ (pi_range1 rfl T.range (pa_cons (pe_op op_add (pv 1) pe_int) pa_nil)) (fun C s3 H3 fp => (pe_op op_mod (pe_op op_mul (pe_call GatU hr rfl matU katU batU .nil pass0 (pa_cons (pv 2) (pa_cons (pe_op op_add pe_int (pv 0)) pa_nil))) pe_int) (pe_op op_add (pv 1) pe_int)))) pa_nil)))
    (pss_cons (ps_if (pt_cmpR op_eq (pe_op op_mod (pe_op op_fdiv (pe_call GatU hr rfl matU katU batU .nil pass0 (pa_cons (pv 0) (pa_cons pe_int pa_nil))) pe_int) pe_int) pe_int (nomark _)) (pss_cons (ps_asg pe_int (pg_sub (pv 3) pe_int set_list))
      (pss_one (ps_asg (pv 2) (pg_sub (pv 4) (pv 1) set_list)))) pss_nil)
    (pss_cons (ps_set (i := 5) sc_sts.nd rfl (Or.inl rfl) (pe_lst pa_nil))
    (pss_cons (ps_for PassesOwn.never rfl (pi_range1 rfl T.range (pa_cons (pe_op op_add (pv 1) pe_int) pa_nil)) (pg_name (i := 6) sc_sts.nd rfl (Or.inl rfl)) (pss_cons (ps_set (i := 7) sc_sts.nd rfl (Or.inl rfl) (pe_call Glow hr rfl mlow klow blow .nil pass0 (pa_cons (pe_callB (call_min2 rfl) rfl T.min boot_min (pa_cons (pe_ix ix_list (pv 3) (pv 6) (fun _ _ => rfl)) (pa_cons (pe_ix ix_list (pv 4) (pv 6) (fun _ _ => rfl)) pa_nil))) (pa_cons (pv 2) pa_nil))))
      (pss_one (ps_expr (pe_bm PySem.F.plainAttrs_list PySem.F.slot_list_append PySem.F.type_list_append mt_append (pv 5) (pa_cons (pe_tup (pa_cons (pv 7) (pa_cons (pe_call Glow hr rfl mlow klow blow .nil pass0 (pa_cons (pe_callB (call_max2 rfl) rfl T.max boot_max (pa_cons (pe_ix ix_list (pv 3) (pv 6) (fun _ _ => rfl)) (pa_cons (pe_ix ix_list (pv 4) (pv 6) (fun _ _ => rfl)) pa_nil))) (pa_cons (pv 2) pa_nil))) pa_nil))) pa_nil))))))
    (pss_one (ps_ret (pv 5)))))))))), ?_⟩
  have P20 : (0 : Int) < 20 := by decide
  have P3 : (0 : Int) < 3 := by decide
  refine ⟨_, rfl, a, ns, 3, rfl, hS, h63, by omega, by omega, fun r => ⟨_, _, rfl, rfl, P20, _, _, rfl, rfl, ?_⟩⟩
  have k0 := md0 r P20
  have k1 := md1 r P20
  dsimp only
  refine seq_by (fun σ H' => H' = H ∧ ∃ bt : Int, σ = [some (.ref a), some (.int n), some (.int bt), none, none, none, none, none] ∧ 1 ≤ bt ∧ bt.natAbs < 10 ^ 60) ?_ ?_
  · intro M hM
    refine ⟨_, rfl, a, ns, 4, rfl, hS, h63, by omega, by omega, fun r1 => ⟨_, _, rfl, rfl, P3, rfl, _, rfl, ?_⟩⟩
    refine ite2 (fun c => ?_) (fun c => hM _ _ ⟨rfl, _, rfl, by omega, Nat.lt_of_le_of_lt (show (1 + r % 20).natAbs ≤ 20 by omega) (by decide)⟩)
    have M3 : (0 : Int) < 10 ^ ((30 : Int).toNat) := by decide
    refine ⟨_, rfl, a, ns, 3, rfl, hS, h63, by omega, by omega, fun r2 => ⟨_, _, rfl, rfl, .inr ⟨by decide, by decide⟩, _, _, rfl, rfl, ⟨by decide, by decide, by decide⟩, _, _, rfl, rfl, M3, _, _, rfl, rfl, hM _ _ ⟨rfl, _, rfl, ?_, ?_⟩⟩⟩
    · have j0 := md0 (r2 * 982451653) M3
      omega
    · have j0 := md0 (r2 * 982451653) M3
      have j1 := md1 (r2 * 982451653) M3
      have ea : ((10 : Int) ^ ((30 : Int).toNat)) = ((10 ^ 30 : Nat) : Int) := by decide
      rw [ea] at j0 j1
      rw [ea]
      generalize r2 * 982451653 % ((10 ^ 30 : Nat) : Int) = z at *
      exact Nat.lt_of_le_of_lt (show (1 + z).natAbs ≤ 10 ^ 30 by generalize (10 : Nat) ^ 30 = Z at *; omega) (by decide)
  rintro σ H' ⟨rfl, bt, rfl, b1, b60⟩
  have Pb : (0 : Int) < bt + 1 := by omega
  refine ⟨_, rfl, _, _, rfl, rfl, _, rfl, by omega, by omega, fun D hD => ?_⟩
  refine comp_rangeR (fun i ys _ => ∃ ms : List Int, ys = ms.map V.int ∧ ms.length = i ∧ ∀ m ∈ ms, 0 ≤ m ∧ m ≤ bt) hD (le200 (by omega)) ⟨[], rfl, rfl, fun m hm => absurd hm (by simp)⟩ ?_ ?_
  · rintro i ys H2 k hi s2 e ⟨ms, rfl, lm, bm⟩ hk
    refine ⟨_, rfl, _, rfl, _, _, rfl, rfl, a, ns, 5 + (0 + (i : Int)), rfl, s2.seq hS, h63, by omega, by omega, fun r2 => ⟨_, _, rfl, rfl, .inr ⟨by decide, by decide⟩, _, rfl, _, _, rfl, rfl, _, _, rfl, rfl, Pb, hk _ _ (Same.refl _) ⟨ms ++ [_], by rw [List.map_append]; rfl, by simp [lm], fun m hm => ?_⟩⟩⟩
    rcases List.mem_append.mp hm with hm | hm
    · exact bm m hm
    · rw [List.mem_singleton.mp hm]
      have := md0 (r2 * 48271) Pb
      have := md1 (r2 * 48271) Pb
      omega
  rintro ys H1 s1 hD1 ly ⟨ms, rfl, lm, bm⟩
  refine ⟨D, ms, rfl, SqL.of hD1, by omega, fun l1 os hl1 pm1 pw1 => ?_⟩
  have t1 := same_new hl1 (.lst (os.map V.int))
  have x1 : upd H1 l1 (.lst (os.map V.int)) l1 = some (.lst (os.map V.int)) := upd_same
  have f1 : H' l1 = none := none_back s1 hl1
  have lo1 : os.length = n + 1 := by rw [pm1.length_eq]; omega
  have bo1 : ∀ m ∈ os, 0 ≤ m ∧ m ≤ bt := fun m hm => bm m (pm1.mem_iff.mp hm)
  have sA := s1.trans t1
  generalize upd H1 l1 (.lst (os.map V.int)) = HA at *
  refine ⟨_, rfl, _, _, rfl, rfl, _, rfl, by omega, by omega, fun D2 hD2 => ?_⟩
  refine comp_rangeR (fun i ys _ => ∃ ms : List Int, ys = ms.map V.int ∧ ms.length = i ∧ ∀ m ∈ ms, 0 ≤ m ∧ m ≤ bt) hD2 (le200 (by omega)) ⟨[], rfl, rfl, fun m hm => absurd hm (by simp)⟩ ?_ ?_
  · rintro i ys H2 k hi s2 e ⟨ms', rfl, lm', bm'⟩ hk
    refine ⟨_, rfl, _, rfl, _, _, rfl, rfl, a, ns, 18 + (0 + (i : Int)), rfl, (sA.trans s2).seq hS, h63, by omega, by omega, fun r2 => ⟨_, _, rfl, rfl, .inr ⟨by decide, by decide⟩, _, rfl, _, _, rfl, rfl, _, _, rfl, rfl, Pb, hk _ _ (Same.refl _) ⟨ms' ++ [_], by rw [List.map_append]; rfl, by simp [lm'], fun m hm => ?_⟩⟩⟩
    rcases List.mem_append.mp hm with hm | hm
    · exact bm' m hm
    · rw [List.mem_singleton.mp hm]
      have := md0 (r2 * 69621) Pb
      have := md1 (r2 * 69621) Pb
      omega
  rintro ys H2 s2 hD2' ly2 ⟨ms2, rfl, lm2, bm2⟩
  refine ⟨D2, ms2, rfl, SqL.of hD2', by omega, fun l2 us hl2 pm2 pw2 => ?_⟩
  have t2 := same_new hl2 (.lst (us.map V.int))
  have x2 : upd H2 l2 (.lst (us.map V.int)) l2 = some (.lst (us.map V.int)) := upd_same
  have x12 := (s2.trans t2) _ _ x1
  have n12' : l1 ≠ l2 := fun z => by rw [← z, s2 _ _ x1] at hl2; cases hl2
  have f2 : H' l2 = none := none_back (sA.trans s2) hl2
  have lo2 : us.length = n + 1 := by rw [pm2.length_eq]; omega
  have bo2 : ∀ m ∈ us, 0 ≤ m ∧ m ≤ bt := fun m hm => bm2 m (pm2.mem_iff.mp hm)
  have sB := sA.trans (s2.trans t2)
  generalize upd H2 l2 (.lst (us.map V.int)) = HB at *
  have RA := rw_of lo1 pw1 bo1
  have RB := rw_of lo2 pw2 bo2
  dsimp only
  refine seq_by (fun σ G => Same H' G ∧ σ = [some (.ref a), some (.int n), some (.int bt), some (.ref l1), some (.ref l2), none, none, none] ∧ ∃ os us : List Int, G l1 = some (.lst (os.map V.int)) ∧ G l2 = some (.lst (us.map V.int)) ∧ Rw n bt os ∧ Rw n bt us) ?_ ?_
  · intro M hM
    refine ⟨_, rfl, a, ns, 4, rfl, sB.seq hS, h63, by omega, by omega, fun r1 => ⟨_, _, rfl, rfl, ⟨by decide, by decide⟩, _, _, rfl, rfl, P3, rfl, _, rfl, ?_⟩⟩
    refine ite2 (fun c => ?_) (fun c => hM _ _ ⟨sB, rfl, os, us, x12, x2, RA, RB⟩)
    refine ⟨_, rfl, l1, _, 0, 0, rfl, rfl, x12, ixN_nat (by omega) (by simp; omega), ?_⟩
    refine ⟨_, rfl, _, rfl, _, rfl, l2, _, _, n, rfl, rfl, by rw [upd_ne (Ne.symm n12')]; exact x2, ixN_nat rfl (by simp; omega), ?_⟩
    refine hM _ _ ⟨same_upd (same_upd sB f1) f2, rfl, os.set 0 0, us.set n bt, ?_, ?_, RA.set0 (by omega), RB.setn (by omega)⟩
    · rw [upd_ne n12', upd_same, List.map_set]
    · rw [upd_same, List.map_set]
  rintro σ G ⟨sG, rfl, os, us, g1, g2, RA, RB⟩
  refine ⟨(by show 0 ≤ sizeLine; decide), fun l hl => ?_⟩
  have tl := same_new hl (.lst [])
  have ll1 : l1 ≠ l := ne_of_none g1 hl
  have ll2 : l2 ≠ l := ne_of_none g2 hl
  have fl : H' l = none := none_back sG hl
  refine ⟨_, rfl, _, _, rfl, rfl, _, rfl, by omega, by omega, ?_⟩
  refine for_range (lo := 0) (fun i σ G' => Same H' G' ∧ (∃ v6 v7, σ = [some (.ref a), some (.int n), some (.int bt), some (.ref l1), some (.ref l2), some (.ref l), v6, v7]) ∧ G' l1 = some (.lst (os.map V.int)) ∧ G' l2 = some (.lst (us.map V.int)) ∧ ∃ zs, G' l = some (.lst zs) ∧ Dens G' (((List.range i).map (stO os us bt)).map ssT) zs) ⟨sG.trans tl, ⟨none, none, rfl⟩, tl _ _ g1, tl _ _ g2, [], upd_same, rfl⟩ ?_ ?_
  · rintro i σ G' hi ⟨sm, ⟨v6, v7, rfl⟩, y1, y2, zs, yl, dz⟩
    have hi' : i ≤ n := by omega
    have la := RA.len
    have lb := RB.len
    have c1 : (0 : Int) + (i : Int) < (os.length : Int) := by omega
    have c2 : (0 : Int) + (i : Int) < (us.length : Int) := by omega
    have c0 : (0 : Int) ≤ 0 + (i : Int) := by omega
    have et : (0 + (i : Int)).toNat = i := by omega
    have at1' := at_getD c0 c1
    have at2' := at_getD c0 c2
    rw [et] at at1' at2'
    have lz := dz.len
    rw [List.length_map, List.length_map, List.length_range] at lz
    refine ⟨_, rfl, _, rfl, l1, _, _, _, rfl, rfl, SqL.of y1, at1', _, rfl, _, rfl, l2, _, _, _, rfl, rfl, SqL.of y2, at2', _, _, rfl, _, rfl, mnO os us i, bt, rfl, b1, b60, fun p1 G1 w1 hp1 => ?_⟩
    have z1 := w1 _ _ y1
    have z2 := w1 _ _ y2
    refine ⟨_, rfl, .inl ⟨rfl, _, SqL.of (w1 _ _ yl)⟩, _, rfl, ?_⟩
    refine ⟨_, rfl, _, rfl, l1, _, _, _, rfl, rfl, SqL.of z1, at1', _, rfl, _, rfl, l2, _, _, _, rfl, rfl, SqL.of z2, at2', _, _, rfl, _, rfl, mxO os us i, bt, rfl, b1, b60, fun p2 G2 w2 hp2 => ?_⟩
    refine ⟨(by show 2 ≤ sizeLine; decide), fun g hg => ?_⟩
    have w3 := same_new hg (.tup [V.ref p1, V.ref p2])
    have xg : upd G2 g (.tup [V.ref p1, V.ref p2]) g = some (.tup [V.ref p1, V.ref p2]) := upd_same
    generalize upd G2 g (.tup [V.ref p1, V.ref p2]) = G3 at *
    have w13 := w1.trans (w2.trans w3)
    have yl3 := w13 _ _ yl
    refine ⟨l, zs, _, rfl, rfl, yl3, lt40 (by omega), ?_⟩
    refine ⟨same_upd (sm.trans w13) fl, ⟨_, _, rfl⟩, by rw [upd_ne ll1]; exact w13 _ _ y1, by rw [upd_ne ll2]; exact w13 _ _ y2, zs ++ [.ref g], upd_same, ?_⟩
    rw [List.range_succ, List.map_append, List.map_append]
    refine dens_upd (d := 2) yl3 (fun t ht => ?_) (dens_snoc (dz.keep w13) (show Den G3 (ssT (stO os us bt i)) (.ref g) from den2 xg (den_p (w3 _ _ (w2 _ _ hp1))) (den_p (w3 _ _ hp2))))
    rcases List.mem_append.mp ht with h | h
    · obtain ⟨s, _, rfl⟩ := List.mem_map.mp h
      exact flat_ss s
    · cases List.mem_singleton.mp h
      exact flat_ss _
  · rintro σ G' ⟨sm, ⟨v6, v7, rfl⟩, y1, y2, zs, yl, dz⟩
    rw [show ((n : Int) + 1).toNat = n + 1 by omega] at dz
    exact ⟨_, rfl, q _ zs l G' sm yl dz (ru_of n1 n12 b1 b60 RA RB)⟩
theorem ok_pp (p : Fq) : okT 1 (ppT p) := by
  intro v hv
  rcases List.mem_cons.mp hv with rfl | hv
  · trivial
  · cases List.mem_singleton.mp hv
    trivial
theorem ok_ruT (n : Int) (bs : List Sq) : okT 4 (ruT n bs) := by
  intro t ht
  rcases List.mem_cons.mp ht with rfl | ht
  · trivial
  · cases List.mem_singleton.mp ht
    intro u hu
    obtain ⟨b, _, rfl⟩ := List.mem_map.mp hu
    intro v hv
    rcases List.mem_cons.mp hv with rfl | hv
    · exact ok_pp _
    · cases List.mem_singleton.mp hv
      exact ok_pp _
noncomputable def spLaw (K : PySem.W.Frag) : Sp := fun vs H Q _ => ∃ (a : Addr) (ns : List Int), vs = [.ref a] ∧ SqL K H a (ns.map V.int) ∧ ns.length ≤ 63 ∧ (∀ i ∈ ns, Bg i) ∧ ∀ H', Q (.bl true) H'
theorem sc_law : FnScope ["_law_script", "_law_one", "_law_told", "_law_n", "_law_stretches_here", "_law_rule", "_law_pairs", "_law_text", "_law_shown_text", "_law_found"] ["_law_script"] (defScope s_law) := ⟨rfl, rfl, rfl, by decide +kernel, rfl, by decide +kernel, by decide +kernel⟩
theorem ok_law {C : CA} {f : Addr} {fd : FuncData} (F : Fun K "law" "law" s_law f fd) (T : Txt mg) (cf : CF K mg C) {ffrn : Addr} {dfrn : FuncData} (Gfrn : FnOk P w K mg base CX0 7 ffrn dfrn ["_law_script"] (spFrn K)) (bfrn : Binds K dfrn ["_law_script"] []) (kfrn : PySem.W.keepIn K (.ref ffrn) = true) (mfrn : mg "_law_fraction" = some (.ref ffrn)) {fshf : Addr} {dshf : FuncData} (Gshf : FnOk P w K mg base CX0 7 fshf dshf ["one"] spShf) (bshf : Binds K dshf ["one"] []) (kshf : PySem.W.keepIn K (.ref fshf) = true) (mshf : mg "show_fraction" = some (.ref fshf)) {fwrt : Addr} {dwrt : FuncData} (Gwrt : FnOk P w K mg base CX0 7 fwrt dwrt ["_law_one"] spWrt) (bwrt : Binds K dwrt ["_law_one"] []) (kwrt : PySem.W.keepIn K (.ref fwrt) = true) (mwrt : mg "_law_written" = some (.ref fwrt)) {fatU : Addr} {datU : FuncData} (GatU : FnOk P w K mg base CX0 7 fatU datU ["_law_script", "_law_k"] (spAtU K)) (batU : Binds K datU ["_law_script", "_law_k"] []) (katU : PySem.W.keepIn K (.ref fatU) = true) (matU : mg "_law_at" = some (.ref fatU)) {fsts : Addr} {dsts : FuncData} (Gsts : FnOk P w K mg base CX0 7 fsts dsts ["_law_script", "_law_n"] (spSts K)) (bsts : Binds K dsts ["_law_script", "_law_n"] []) (ksts : PySem.W.keepIn K (.ref fsts) = true) (msts : mg "_law_stretches" = some (.ref fsts)) {fruleof : Addr} {druleof : FuncData} (Gruleof : FnOk P w K mg base (CXX P w) 7 fruleof druleof ["n", "stretches"] (spRuX C)) (bruleof : Binds K druleof ["n", "stretches"] []) (kruleof : PySem.W.keepIn K (.ref fruleof) = true) (mruleof : mg "rule_of" = some (.ref fruleof)) {ffgs : Addr} {dfgs : FuncData} (Gfgs : FnOk P w K mg base CX0 7 ffgs dfgs ["_law_number"] spFgs) (bfgs : Binds K dfgs ["_law_number"] []) (kfgs : PySem.W.keepIn K (.ref ffgs) = true) (mfgs : mg "_law_figures" = some (.ref ffgs)) {fshow : Addr} {dshow : FuncData} (Gshow : FnOk P w K mg base CX0 7 fshow dshow ["rule"] spShow) (bshow : Binds K dshow ["rule"] []) (kshow : PySem.W.keepIn K (.ref fshow) = true) (mshow : mg "show_rule" = some (.ref fshow)) {frr : Addr} {drr : FuncData} (Grr : FnOk P w K mg base CX0 7 frr drr ["text"] spRr) (brr : Binds K drr ["text"] []) (krr : PySem.W.keepIn K (.ref frr) = true) (mrr : mg "read_rule" = some (.ref frr)) {falk : Addr} {dalk : FuncData} (Galk : FnOk P w K mg base CX0 7 falk dalk ["_law_found", "_law_due"] (spAlk 4)) (balk : Binds K dalk ["_law_found", "_law_due"] []) (kalk : PySem.W.keepIn K (.ref falk) = true) (malk : mg "_law_alike" = some (.ref falk)) : FnOk P w K mg base CX0 8 f fd ["_law_script"] (spLaw K) := by
  refine F.ok sc_law (fun vs H Q E h => ?_) (fun cdv A outer s H vs Q E hr h => ?_)
  · obtain ⟨a, ns, rfl, _⟩ := h
    rfl
  obtain ⟨a, ns, rfl, hS, h63, hbg, q⟩ := h
  refine ⟨_, (pss_cons (ps_set (i := 1) sc_law.nd rfl (Or.inl rfl) (pe_call Gfrn hr rfl mfrn kfrn bfrn .nil pass0 (pa_cons (pv 0) pa_nil)))
    (pss_cons (ps_set (i := 2) sc_law.nd rfl (Or.inl rfl) (pe_call Gshf hr rfl mshf kshf bshf .nil pass0 (pa_cons (pv 1) pa_nil)))
    (pss_cons (ps_if (PW.pt (pw_or (pt_not (pt_val (pe_callB call_isinstD rfl T.isinstance boot_isinstance (pa_cons (pv 2) (pa_cons (pe_bltn (v := .ty "str") rfl T.str boot_str rfl) pa_nil))))) (pw_or1 (pt_cmpR op_ne (pv 2) (pe_call Gwrt hr rfl mwrt kwrt bwrt .nil pass0 (pa_cons (pv 1) pa_nil)) (nomark _))))) (pss_one (ps_ret pe_bl)) pss_nil)
    (pss_cons (ps_set (i := 3) sc_law.nd rfl (Or.inl rfl) (pe_op op_add pe_int (pe_op op_mod (pe_call GatU hr rfl matU katU batU .nil pass0 (pa_cons (pv 0) (pa_cons pe_int pa_nil))) pe_int)))
    (pss_cons (ps_set (i := 4) sc_law.nd rfl (Or.inl rfl) (pe_call Gsts hr rfl msts ksts bsts .nil pass0 (pa_cons (pv 0) (pa_cons (pv 3) pa_nil))))
    (pss_cons (ps_set (i := 5) sc_law.nd rfl (Or.inl rfl) (pe_call Gruleof hr rfl mruleof kruleof bruleof .nil passN (pa_cons (pv 3) (pa_cons (pv 4) pa_nil))))
    (pss_cons (ps_setC (i := 6) sc_law.nd rfl (Or.inl rfl) (xs := ["_law_low_here", "_law_high"]) (ts := []) rfl ⟨rfl, sub0, rfl, rfl, rfl, by decide +kernel, rfl, rfl⟩ (pi_list (pv 4)) (fun C s3 H3 fp => (pg_tupC (n := 2) rfl (pgs_cons (pg_name (i := 0) (show (["_law_low_here", "_law_high"] : List Str).Nodup by decide +kernel) rfl (Or.inl rfl) (Or.inr rfl)) (pgs_cons (pg_name (i := 1) (show (["_law_low_here", "_law_high"] : List Str).Nodup by decide +kernel) rfl (Or.inl rfl) (Or.inr rfl)) pgs_nil)))) (fun C s3 H3 fp => pif_nil) (fun C s3 H3 fp => (pe_op op_addS (pe_op op_addS (pe_call Gwrt hr rfl mwrt kwrt bwrt .nil pass0 (pa_cons (pv 0) pa_nil)) pe_str) (pe_call Gwrt hr rfl mwrt kwrt bwrt .nil pass0 (pa_cons (pv 1) pa_nil)))))
    (pss_cons (ps_set (i := 7) sc_law.nd rfl (Or.inl rfl) (pe_op op_addS (pe_op op_addS (pe_call Gfgs hr rfl mfgs kfgs bfgs .nil pass0 (pa_cons (pv 3) pa_nil)) pe_str) (pe_join pe_str (pv 6))))
    (pss_cons (ps_set (i := 8) sc_law.nd rfl (Or.inl rfl) (pe_call Gshow hr rfl mshow kshow bshow .nil pass0 (pa_cons (pv 5) pa_nil)))
    (pss_cons (ps_if (PW.pt (pw_or (pt_not (pt_val (pe_callB call_isinstD rfl T.isinstance boot_isinstance (pa_cons (pv 8) (pa_cons (pe_bltn (v := .ty "str") rfl T.str boot_str rfl) pa_nil))))) (pw_or1 (pt_cmpR op_ne (pv 8) (pv 7) (nomark _))))) (pss_one (ps_ret pe_bl)) pss_nil)
    (pss_cons (ps_set (i := 9) sc_law.nd rfl (Or.inl rfl) (pe_call Grr hr rfl mrr krr brr .nil pass0 (pa_cons (pv 7) pa_nil)))
    (pss_one (ps_ret (pe_and (pe_call Galk hr rfl malk kalk balk .nil pass0 (pa_cons (pv 9) (pa_cons (pe_tup (pa_cons (pv 3) (pa_cons (pe_callTy call_tuple_of rfl T.tuple boot_tuple (pa_cons (pv 4) pa_nil)) pa_nil))) pa_nil))) (pe_one (pe_cmpR op_eq (pe_call Gshow hr rfl mshow kshow bshow .nil pass0 (pa_cons (pv 9) pa_nil)) (pv 7) (nomark _))))))))))))))))), ?_⟩
  have P12 : (0 : Int) < 12 := by decide
  refine ⟨_, rfl, a, ns, rfl, hS, h63, fun p f0 H1 fp s1 hf => ?_⟩
  refine ⟨_, rfl, p, f0, rfl, hf, fp, fun H2 s2 => ?_⟩
  have hf2 := s2 _ _ hf
  refine ⟨_, rfl, _, .str (frS p), _, _, rfl, rfl, rfl, _, rfl, iteF ?_⟩
  refine ⟨_, rfl, _, rfl, p, f0, rfl, hf2, fp, rfl, _, rfl, ?_⟩
  refine ite2 (fun c => absurd c (by simp)) (fun c => ?_)
  have s12 := s1.trans s2
  refine ⟨_, rfl, a, ns, 31, rfl, s12.seq hS, h63, by omega, by omega, fun r => ⟨_, _, rfl, rfl, P12, _, _, rfl, rfl, ?_⟩⟩
  have n0 := md0 r P12
  have n1 := md1 r P12
  obtain ⟨n, en⟩ : ∃ n : Nat, 1 + r % 12 = (n : Int) := ⟨(1 + r % 12).toNat, by omega⟩
  dsimp only
  rw [en]
  refine ⟨_, rfl, _, rfl, a, ns, n, rfl, s12.seq hS, h63, by omega, by omega, fun bs zs l H3 s3 hl dz pl => ?_⟩
  refine ⟨_, rfl, _, rfl, _, _, .int n, .lst (bs.map ssT), rfl, rfl, ⟨l, zs, rfl, hl, dz⟩, ru_sm pl, fun n' bs' g' ru H4 s4 d4 => ?_, fun hb => absurd (ru_good pl) (hb _ _)⟩
  obtain ⟨rfl, rfl⟩ := (ru_good pl).uq g'
  have hl4 := s4 _ _ hl
  have dz4 := dz.keep s4
  have h13 := pl.l13
  have lz := dz.len
  rw [List.length_map] at lz
  have pB := fun b h => (pl.2 b h).b
  have jl := rjoin_len pl.l13 pB
  have wn := (nm_ok pl.n60).len
  refine ⟨_, rfl, l, rfl, ⟨_, SqL.of hl4⟩, fun D hD => ?_⟩
  have at_ : ∀ (i : Nat) (b : Sq), bs'[i]? = some b → ∃ c a' b', zs[i]? = some (.ref c) ∧ H4 c = some (.tup [.ref a', .ref b']) ∧ H4 a' = some (.tup [.int b.1.1, .int b.1.2]) ∧ H4 b' = some (.tup [.int b.2.1, .int b.2.2]) := fun i b hi => by
    obtain ⟨v, hv, dv⟩ := dz4.get (show (bs'.map ssT)[i]? = some (ssT b) by rw [List.getElem?_map, hi]; rfl)
    obtain ⟨c, a', b', rfl, hc, ha, hb⟩ := den_ss dv
    exact ⟨c, a', b', hv, hc, ha, hb⟩
  refine comp_lpairR (fun i ws _ => ws = (bs'.take i).map fun b => V.str (prF b)) hD (SqL.of hl4) (le200 (by omega)) rfl (fun i hi => ?_) (fun i c u v ws H5 k hc hx s5 e rr hk => ?_) ?_
  · obtain ⟨c, _, _, h1, h2, _, _⟩ := at_ i _ (List.getElem?_eq_getElem (by omega : i < bs'.length))
    exact ⟨c, _, _, h1, h2⟩
  · have hi : i < bs'.length := by
      have := (List.getElem?_eq_some_iff.mp hc).1
      omega
    have hbi : bs'[i]? = some bs'[i] := List.getElem?_eq_getElem hi
    obtain ⟨c', a', b', h1, h2, ha, hb⟩ := at_ i _ hbi
    rw [hc] at h1
    cases h1
    rw [hx] at h2
    cases h2
    have ib := pB _ (List.getElem_mem hi)
    have w1 := frS_len ib.1
    have w2 := frS_len ib.2
    refine ⟨_, rfl, _, _, rfl, s5 _ _ ha, ib.1, _, _, rfl, rfl, le200 (by rw [one_len]; omega), _, rfl, _, _, rfl, s5 _ _ hb, ib.2, _, _, rfl, rfl, le200 (by rw [Str.length_append, one_len]; omega), hk _ _ (Same.refl _) ?_⟩
    rw [List.take_add_one, hbi, List.map_append, rr]
    rfl
  rintro ws H5 s5 hD5 lw rr
  rw [List.take_of_length_le (by omega)] at rr
  subst rr
  have e2 : (bs'.map fun b => V.str (prF b)) = (bs'.map prF).map V.str := by rw [List.map_map]; rfl
  rw [e2] at hD5
  have hn60 : n < 10 ^ 60 := by
    have := pl.n60
    rwa [Int.natAbs_natCast] at this
  refine ⟨_, rfl, n, rfl, hn60, _, _, rfl, rfl, le200 (by rw [two_len]; omega), ?_⟩
  refine ⟨_, rfl, _, rfl, D, bs'.map prF, rfl, SqL.of hD5, rjoin_ok pl.l13 pB, _, _, rfl, rfl, le200 (by rw [Str.length_append, two_len]; omega), ?_⟩
  rw [show num (n : Int) ++ ": " ++ Txt.join "; " (bs'.map prF) = rbody n bs' from rfl]
  refine ⟨_, rfl, (n : Int), bs', ru, rfl, d4.keep s5, pl, fun H6 s6 => ?_⟩
  refine ⟨_, rfl, _, .str (rbody n bs'), _, _, rfl, rfl, rfl, _, rfl, iteF ?_⟩
  refine ⟨_, rfl, _, rfl, rfl, _, rfl, ?_⟩
  refine ite2 (fun c => absurd c (by simp)) (fun c => ?_)
  refine ⟨_, rfl, (n : Int), bs', rfl, pl, fun g H7 s7 d7 => ?_⟩
  have s57 := s5.trans (s6.trans s7)
  have x5 := s57 _ _ hl4
  have dz5 := dz4.keep s57
  refine ⟨_, rfl, _, rfl, _, rfl, l, _, rfl, .inl ⟨SqL.of x5, fun t ht => ?_⟩⟩
  have st := same_new ht (.tup zs)
  have xt : upd H7 t (.tup zs) t = some (.tup zs) := upd_same
  generalize upd H7 t (.tup zs) = H8 at *
  refine ⟨(by show 2 ≤ sizeLine; decide), fun p' hp' => ?_⟩
  have sp := same_new hp' (.tup [V.int n, V.ref t])
  have xp : upd H8 p' (.tup [V.int n, V.ref t]) p' = some (.tup [V.int n, V.ref t]) := upd_same
  generalize upd H8 p' (.tup [V.int n, V.ref t]) = H9 at *
  have s79 := st.trans sp
  refine ⟨_, _, ruT n bs', rfl, d7.keep s79, den2 xp rfl ⟨t, zs, rfl, sp _ _ xt, dz5.keep s79⟩, ok_ruT n bs', fun HA sA => ⟨_, rfl, iteT ?_⟩⟩
  refine ⟨_, rfl, (n : Int), bs', g, rfl, d7.keep (s79.trans sA), pl, fun HB sB => ⟨_, rfl, rfl, ?_⟩⟩
  have := q HB
  simpa using this
end
theorem all_mk {l : PySem.W.OpenLaw} {w : World} {K : PySem.W.Frag} {h : Heap} {mg : Str → Option Value} {fa f_whole f_share f_wpair f_cd f_und f_ruleof f_rowof f_str f_shf f_show f_shp f_rr f_rps f_rp f_rf f_rw f_atU f_div f_low f_fgs f_wrt f_alk f_frn f_sts f_law : Addr} (X : K.In h) (G : h.Ns mainGlobals mg) (hfa : mg "law" = some (.ref fa))
    {od_whole an_whole : Option Addr} {sl_whole : Array (Option Value)} {oc_whole kV_whole dc_whole pm_whole cd_whole ct_whole : Value}
    (a_whole : PySem.W.nsIn K mainGlobals "is_whole" = some (some (.ref f_whole))) (l_whole : K.lookup f_whole = some ⟨oc_whole, od_whole, .func (PySem.W.fnOf "is_whole" "is_whole" (defArgs s_whole) (defBody s_whole) (defScope s_whole) .none kV_whole dc_whole pm_whole an_whole cd_whole ct_whole), sl_whole⟩) (c_whole : PySem.W.codeIn K cd_whole "is_whole" = true) (k_whole : PySem.W.keepIn K (.ref f_whole) = true)
    {od_share an_share : Option Addr} {sl_share : Array (Option Value)} {oc_share kV_share dc_share pm_share cd_share ct_share : Value}
    (a_share : PySem.W.nsIn K mainGlobals "is_share" = some (some (.ref f_share))) (l_share : K.lookup f_share = some ⟨oc_share, od_share, .func (PySem.W.fnOf "is_share" "is_share" (defArgs s_share) (defBody s_share) (defScope s_share) .none kV_share dc_share pm_share an_share cd_share ct_share), sl_share⟩) (c_share : PySem.W.codeIn K cd_share "is_share" = true) (k_share : PySem.W.keepIn K (.ref f_share) = true)
    {od_wpair an_wpair : Option Addr} {sl_wpair : Array (Option Value)} {oc_wpair kV_wpair dc_wpair pm_wpair cd_wpair ct_wpair : Value}
    (a_wpair : PySem.W.nsIn K mainGlobals "is_whole_pair" = some (some (.ref f_wpair))) (l_wpair : K.lookup f_wpair = some ⟨oc_wpair, od_wpair, .func (PySem.W.fnOf "is_whole_pair" "is_whole_pair" (defArgs s_wpair) (defBody s_wpair) (defScope s_wpair) .none kV_wpair dc_wpair pm_wpair an_wpair cd_wpair ct_wpair), sl_wpair⟩) (c_wpair : PySem.W.codeIn K cd_wpair "is_whole_pair" = true) (k_wpair : PySem.W.keepIn K (.ref f_wpair) = true)
    {od_cd an_cd : Option Addr} {sl_cd : Array (Option Value)} {oc_cd kV_cd dc_cd pm_cd cd_cd ct_cd : Value}
    (a_cd : PySem.W.nsIn K mainGlobals "common_divisor" = some (some (.ref f_cd))) (l_cd : K.lookup f_cd = some ⟨oc_cd, od_cd, .func (PySem.W.fnOf "common_divisor" "common_divisor" (defArgs s_cd) (defBody s_cd) (defScope s_cd) .none kV_cd dc_cd pm_cd an_cd cd_cd ct_cd), sl_cd⟩) (c_cd : PySem.W.codeIn K cd_cd "common_divisor" = true) (k_cd : PySem.W.keepIn K (.ref f_cd) = true)
    {od_und an_und : Option Addr} {sl_und : Array (Option Value)} {oc_und kV_und dc_und pm_und cd_und ct_und : Value}
    (a_und : PySem.W.nsIn K mainGlobals "under" = some (some (.ref f_und))) (l_und : K.lookup f_und = some ⟨oc_und, od_und, .func (PySem.W.fnOf "under" "under" (defArgs s_und) (defBody s_und) (defScope s_und) .none kV_und dc_und pm_und an_und cd_und ct_und), sl_und⟩) (c_und : PySem.W.codeIn K cd_und "under" = true) (k_und : PySem.W.keepIn K (.ref f_und) = true)
    {od_ruleof an_ruleof : Option Addr} {sl_ruleof : Array (Option Value)} {oc_ruleof kV_ruleof dc_ruleof pm_ruleof cd_ruleof ct_ruleof : Value}
    (a_ruleof : PySem.W.nsIn K mainGlobals "rule_of" = some (some (.ref f_ruleof))) (l_ruleof : K.lookup f_ruleof = some ⟨oc_ruleof, od_ruleof, .func (PySem.W.fnOf "rule_of" "rule_of" (defArgs s_ruleof) (defBody s_ruleof) (defScope s_ruleof) .none kV_ruleof dc_ruleof pm_ruleof an_ruleof cd_ruleof ct_ruleof), sl_ruleof⟩) (c_ruleof : PySem.W.codeIn K cd_ruleof "rule_of" = true) (k_ruleof : PySem.W.keepIn K (.ref f_ruleof) = true)
    {od_rowof an_rowof : Option Addr} {sl_rowof : Array (Option Value)} {oc_rowof kV_rowof dc_rowof pm_rowof cd_rowof ct_rowof : Value}
    (a_rowof : PySem.W.nsIn K mainGlobals "is_row_of" = some (some (.ref f_rowof))) (l_rowof : K.lookup f_rowof = some ⟨oc_rowof, od_rowof, .func (PySem.W.fnOf "is_row_of" "is_row_of" (defArgs s_rowof) (defBody s_rowof) (defScope s_rowof) .none kV_rowof dc_rowof pm_rowof an_rowof cd_rowof ct_rowof), sl_rowof⟩) (c_rowof : PySem.W.codeIn K cd_rowof "is_row_of" = true) (k_rowof : PySem.W.keepIn K (.ref f_rowof) = true)
    {od_str an_str : Option Addr} {sl_str : Array (Option Value)} {oc_str kV_str dc_str pm_str cd_str ct_str : Value}
    (a_str : PySem.W.nsIn K mainGlobals "stretch_of" = some (some (.ref f_str))) (l_str : K.lookup f_str = some ⟨oc_str, od_str, .func (PySem.W.fnOf "stretch_of" "stretch_of" (defArgs s_str) (defBody s_str) (defScope s_str) .none kV_str dc_str pm_str an_str cd_str ct_str), sl_str⟩) (c_str : PySem.W.codeIn K cd_str "stretch_of" = true) (k_str : PySem.W.keepIn K (.ref f_str) = true)
    {od_shf an_shf : Option Addr} {sl_shf : Array (Option Value)} {oc_shf kV_shf dc_shf pm_shf cd_shf ct_shf : Value}
    (a_shf : PySem.W.nsIn K mainGlobals "show_fraction" = some (some (.ref f_shf))) (l_shf : K.lookup f_shf = some ⟨oc_shf, od_shf, .func (PySem.W.fnOf "show_fraction" "show_fraction" (defArgs s_shf) (defBody s_shf) (defScope s_shf) .none kV_shf dc_shf pm_shf an_shf cd_shf ct_shf), sl_shf⟩) (c_shf : PySem.W.codeIn K cd_shf "show_fraction" = true) (k_shf : PySem.W.keepIn K (.ref f_shf) = true)
    {od_show an_show : Option Addr} {sl_show : Array (Option Value)} {oc_show kV_show dc_show pm_show cd_show ct_show : Value}
    (a_show : PySem.W.nsIn K mainGlobals "show_rule" = some (some (.ref f_show))) (l_show : K.lookup f_show = some ⟨oc_show, od_show, .func (PySem.W.fnOf "show_rule" "show_rule" (defArgs s_show) (defBody s_show) (defScope s_show) .none kV_show dc_show pm_show an_show cd_show ct_show), sl_show⟩) (c_show : PySem.W.codeIn K cd_show "show_rule" = true) (k_show : PySem.W.keepIn K (.ref f_show) = true)
    {od_shp an_shp : Option Addr} {sl_shp : Array (Option Value)} {oc_shp kV_shp dc_shp pm_shp cd_shp ct_shp : Value}
    (a_shp : PySem.W.nsIn K mainGlobals "show_pairs" = some (some (.ref f_shp))) (l_shp : K.lookup f_shp = some ⟨oc_shp, od_shp, .func (PySem.W.fnOf "show_pairs" "show_pairs" (defArgs s_shp) (defBody s_shp) (defScope s_shp) .none kV_shp dc_shp pm_shp an_shp cd_shp ct_shp), sl_shp⟩) (c_shp : PySem.W.codeIn K cd_shp "show_pairs" = true) (k_shp : PySem.W.keepIn K (.ref f_shp) = true)
    {od_rr an_rr : Option Addr} {sl_rr : Array (Option Value)} {oc_rr kV_rr dc_rr pm_rr cd_rr ct_rr : Value}
    (a_rr : PySem.W.nsIn K mainGlobals "read_rule" = some (some (.ref f_rr))) (l_rr : K.lookup f_rr = some ⟨oc_rr, od_rr, .func (PySem.W.fnOf "read_rule" "read_rule" (defArgs s_rr) (defBody s_rr) (defScope s_rr) .none kV_rr dc_rr pm_rr an_rr cd_rr ct_rr), sl_rr⟩) (c_rr : PySem.W.codeIn K cd_rr "read_rule" = true) (k_rr : PySem.W.keepIn K (.ref f_rr) = true)
    {od_rps an_rps : Option Addr} {sl_rps : Array (Option Value)} {oc_rps kV_rps dc_rps pm_rps cd_rps ct_rps : Value}
    (a_rps : PySem.W.nsIn K mainGlobals "read_pairs" = some (some (.ref f_rps))) (l_rps : K.lookup f_rps = some ⟨oc_rps, od_rps, .func (PySem.W.fnOf "read_pairs" "read_pairs" (defArgs s_rps) (defBody s_rps) (defScope s_rps) .none kV_rps dc_rps pm_rps an_rps cd_rps ct_rps), sl_rps⟩) (c_rps : PySem.W.codeIn K cd_rps "read_pairs" = true) (k_rps : PySem.W.keepIn K (.ref f_rps) = true)
    {od_rp an_rp : Option Addr} {sl_rp : Array (Option Value)} {oc_rp kV_rp dc_rp pm_rp cd_rp ct_rp : Value}
    (a_rp : PySem.W.nsIn K mainGlobals "read_pair" = some (some (.ref f_rp))) (l_rp : K.lookup f_rp = some ⟨oc_rp, od_rp, .func (PySem.W.fnOf "read_pair" "read_pair" (defArgs s_rp) (defBody s_rp) (defScope s_rp) .none kV_rp dc_rp pm_rp an_rp cd_rp ct_rp), sl_rp⟩) (c_rp : PySem.W.codeIn K cd_rp "read_pair" = true) (k_rp : PySem.W.keepIn K (.ref f_rp) = true)
    {od_rf an_rf : Option Addr} {sl_rf : Array (Option Value)} {oc_rf kV_rf dc_rf pm_rf cd_rf ct_rf : Value}
    (a_rf : PySem.W.nsIn K mainGlobals "read_fraction" = some (some (.ref f_rf))) (l_rf : K.lookup f_rf = some ⟨oc_rf, od_rf, .func (PySem.W.fnOf "read_fraction" "read_fraction" (defArgs s_rf) (defBody s_rf) (defScope s_rf) .none kV_rf dc_rf pm_rf an_rf cd_rf ct_rf), sl_rf⟩) (c_rf : PySem.W.codeIn K cd_rf "read_fraction" = true) (k_rf : PySem.W.keepIn K (.ref f_rf) = true)
    {od_rw an_rw : Option Addr} {sl_rw : Array (Option Value)} {oc_rw kV_rw dc_rw pm_rw cd_rw ct_rw : Value}
    (a_rw : PySem.W.nsIn K mainGlobals "read_whole" = some (some (.ref f_rw))) (l_rw : K.lookup f_rw = some ⟨oc_rw, od_rw, .func (PySem.W.fnOf "read_whole" "read_whole" (defArgs s_rw) (defBody s_rw) (defScope s_rw) .none kV_rw dc_rw pm_rw an_rw cd_rw ct_rw), sl_rw⟩) (c_rw : PySem.W.codeIn K cd_rw "read_whole" = true) (k_rw : PySem.W.keepIn K (.ref f_rw) = true)
    {od_atU an_atU : Option Addr} {sl_atU : Array (Option Value)} {oc_atU kV_atU dc_atU pm_atU cd_atU ct_atU : Value}
    (a_atU : PySem.W.nsIn K mainGlobals "_law_at" = some (some (.ref f_atU))) (l_atU : K.lookup f_atU = some ⟨oc_atU, od_atU, .func (PySem.W.fnOf "_law_at" "_law_at" (defArgs s_atU) (defBody s_atU) (defScope s_atU) .none kV_atU dc_atU pm_atU an_atU cd_atU ct_atU), sl_atU⟩) (c_atU : PySem.W.codeIn K cd_atU "_law_at" = true) (k_atU : PySem.W.keepIn K (.ref f_atU) = true)
    {od_div an_div : Option Addr} {sl_div : Array (Option Value)} {oc_div kV_div dc_div pm_div cd_div ct_div : Value}
    (a_div : PySem.W.nsIn K mainGlobals "_law_divisor" = some (some (.ref f_div))) (l_div : K.lookup f_div = some ⟨oc_div, od_div, .func (PySem.W.fnOf "_law_divisor" "_law_divisor" (defArgs s_div) (defBody s_div) (defScope s_div) .none kV_div dc_div pm_div an_div cd_div ct_div), sl_div⟩) (c_div : PySem.W.codeIn K cd_div "_law_divisor" = true) (k_div : PySem.W.keepIn K (.ref f_div) = true)
    {od_low an_low : Option Addr} {sl_low : Array (Option Value)} {oc_low kV_low dc_low pm_low cd_low ct_low : Value}
    (a_low : PySem.W.nsIn K mainGlobals "_law_low" = some (some (.ref f_low))) (l_low : K.lookup f_low = some ⟨oc_low, od_low, .func (PySem.W.fnOf "_law_low" "_law_low" (defArgs s_low) (defBody s_low) (defScope s_low) .none kV_low dc_low pm_low an_low cd_low ct_low), sl_low⟩) (c_low : PySem.W.codeIn K cd_low "_law_low" = true) (k_low : PySem.W.keepIn K (.ref f_low) = true)
    {od_fgs an_fgs : Option Addr} {sl_fgs : Array (Option Value)} {oc_fgs kV_fgs dc_fgs pm_fgs cd_fgs ct_fgs : Value}
    (a_fgs : PySem.W.nsIn K mainGlobals "_law_figures" = some (some (.ref f_fgs))) (l_fgs : K.lookup f_fgs = some ⟨oc_fgs, od_fgs, .func (PySem.W.fnOf "_law_figures" "_law_figures" (defArgs s_fgs) (defBody s_fgs) (defScope s_fgs) .none kV_fgs dc_fgs pm_fgs an_fgs cd_fgs ct_fgs), sl_fgs⟩) (c_fgs : PySem.W.codeIn K cd_fgs "_law_figures" = true) (k_fgs : PySem.W.keepIn K (.ref f_fgs) = true)
    {od_wrt an_wrt : Option Addr} {sl_wrt : Array (Option Value)} {oc_wrt kV_wrt dc_wrt pm_wrt cd_wrt ct_wrt : Value}
    (a_wrt : PySem.W.nsIn K mainGlobals "_law_written" = some (some (.ref f_wrt))) (l_wrt : K.lookup f_wrt = some ⟨oc_wrt, od_wrt, .func (PySem.W.fnOf "_law_written" "_law_written" (defArgs s_wrt) (defBody s_wrt) (defScope s_wrt) .none kV_wrt dc_wrt pm_wrt an_wrt cd_wrt ct_wrt), sl_wrt⟩) (c_wrt : PySem.W.codeIn K cd_wrt "_law_written" = true) (k_wrt : PySem.W.keepIn K (.ref f_wrt) = true)
    {od_alk an_alk : Option Addr} {sl_alk : Array (Option Value)} {oc_alk kV_alk dc_alk pm_alk cd_alk ct_alk : Value}
    (a_alk : PySem.W.nsIn K mainGlobals "_law_alike" = some (some (.ref f_alk))) (l_alk : K.lookup f_alk = some ⟨oc_alk, od_alk, .func (PySem.W.fnOf "_law_alike" "_law_alike" (defArgs s_alk) (defBody s_alk) (defScope s_alk) .none kV_alk dc_alk pm_alk an_alk cd_alk ct_alk), sl_alk⟩) (c_alk : PySem.W.codeIn K cd_alk "_law_alike" = true) (k_alk : PySem.W.keepIn K (.ref f_alk) = true)
    {od_frn an_frn : Option Addr} {sl_frn : Array (Option Value)} {oc_frn kV_frn dc_frn pm_frn cd_frn ct_frn : Value}
    (a_frn : PySem.W.nsIn K mainGlobals "_law_fraction" = some (some (.ref f_frn))) (l_frn : K.lookup f_frn = some ⟨oc_frn, od_frn, .func (PySem.W.fnOf "_law_fraction" "_law_fraction" (defArgs s_frn) (defBody s_frn) (defScope s_frn) .none kV_frn dc_frn pm_frn an_frn cd_frn ct_frn), sl_frn⟩) (c_frn : PySem.W.codeIn K cd_frn "_law_fraction" = true) (k_frn : PySem.W.keepIn K (.ref f_frn) = true)
    {od_sts an_sts : Option Addr} {sl_sts : Array (Option Value)} {oc_sts kV_sts dc_sts pm_sts cd_sts ct_sts : Value}
    (a_sts : PySem.W.nsIn K mainGlobals "_law_stretches" = some (some (.ref f_sts))) (l_sts : K.lookup f_sts = some ⟨oc_sts, od_sts, .func (PySem.W.fnOf "_law_stretches" "_law_stretches" (defArgs s_sts) (defBody s_sts) (defScope s_sts) .none kV_sts dc_sts pm_sts an_sts cd_sts ct_sts), sl_sts⟩) (c_sts : PySem.W.codeIn K cd_sts "_law_stretches" = true) (k_sts : PySem.W.keepIn K (.ref f_sts) = true)
    {od_law an_law : Option Addr} {sl_law : Array (Option Value)} {oc_law kV_law dc_law pm_law cd_law ct_law : Value}
    (a_law : PySem.W.nsIn K mainGlobals "law" = some (some (.ref f_law))) (l_law : K.lookup f_law = some ⟨oc_law, od_law, .func (PySem.W.fnOf "law" "law" (defArgs s_law) (defBody s_law) (defScope s_law) .none kV_law dc_law pm_law an_law cd_law ct_law), sl_law⟩) (c_law : PySem.W.codeIn K cd_law "law" = true) (k_law : PySem.W.keepIn K (.ref f_law) = true)
    (z_range : PySem.W.nsIn K mainGlobals "range" = some none) (z_min : PySem.W.nsIn K mainGlobals "min" = some none) (z_max : PySem.W.nsIn K mainGlobals "max" = some none) (z_len : PySem.W.nsIn K mainGlobals "len" = some none) (z_isinstance : PySem.W.nsIn K mainGlobals "isinstance" = some none) (z_int : PySem.W.nsIn K mainGlobals "int" = some none) (z_bool : PySem.W.nsIn K mainGlobals "bool" = some none) (z_str : PySem.W.nsIn K mainGlobals "str" = some none) (z_tuple : PySem.W.nsIn K mainGlobals "tuple" = some none) (z_list : PySem.W.nsIn K mainGlobals "list" = some none) (z_zip : PySem.W.nsIn K mainGlobals "zip" = some none) (z_enumerate : PySem.W.nsIn K mainGlobals "enumerate" = some none) (z_all : PySem.W.nsIn K mainGlobals "all" = some none) (z_abs : PySem.W.nsIn K mainGlobals "abs" = some none) (z_sorted : PySem.W.nsIn K mainGlobals "sorted" = some none) {t_FIGURES : Tok} (g_FIGURES : PySem.W.nsIn K mainGlobals "FIGURES" = some (some (.str "0123456789" t_FIGURES)))
    {d_StretchError d_NoRule d_NoText : Addr}
    (n_StretchError : PySem.W.nsIn K mainGlobals "StretchError" = some (some (.ref d_StretchError)))
    (n_NoRule : PySem.W.nsIn K mainGlobals "NoRule" = some (some (.ref d_NoRule)))
    (n_NoText : PySem.W.nsIn K mainGlobals "NoText" = some (some (.ref d_NoText)))
    (x_NoRule : PySem.W.excIn K d_NoRule vbm "ValueError.__new__" = true)
    (ic_NoRule : PySem.W.isClsIn K d_NoRule = true)
    (ga_NoRule : PySem.W.findIn K (.ref d_NoRule) "__getattribute__" = some (some (.builtin "BaseException.__getattribute__")))
    (gt_NoRule : PySem.W.findIn K (.ref d_NoRule) "__getattr__" = some none)
    (cl_NoRule : PySem.W.findIn K (.ref d_NoRule) "__class__" = some (some (.builtin "object.__class__")))
    (sg_NoRule : PySem.W.specialIn K (.builtin "object.__class__") "__get__" = some (some (.builtin "getset_descriptor.__get__")))
    (tk_NoRule : PySem.W.takesIn K (.builtin "object.__class__") = some true)
    (ob_NoRule : PySem.W.mroIn K d_NoRule (.type "object") = some true)
    (be_NoRule : PySem.W.mroIn K d_NoRule (.type "BaseException") = some true) :
    ∃ fd : FuncData, (∀ (s : Shared) (v : Value), BindsTo s fd ⟨[v], []⟩ [("_law_script", v)]) ∧ ∀ base : Heap, K.In base → base.Ns mainGlobals mg → FnOk l.prog w K mg base CX0 8 fa fd ["_law_script"] (spLaw K) := by
  have e := hfa.symm.trans (PySem.W.mg_of X G a_law)
  cases e
  have T : Txt mg := ⟨PySem.W.mg_none_of X G z_range, PySem.W.mg_none_of X G z_min, PySem.W.mg_none_of X G z_max, PySem.W.mg_none_of X G z_len, PySem.W.mg_none_of X G z_isinstance, PySem.W.mg_none_of X G z_int, PySem.W.mg_none_of X G z_bool, PySem.W.mg_none_of X G z_str, PySem.W.mg_none_of X G z_tuple, PySem.W.mg_none_of X G z_list, PySem.W.mg_none_of X G z_zip, PySem.W.mg_none_of X G z_enumerate, PySem.W.mg_none_of X G z_all, PySem.W.mg_none_of X G z_abs, PySem.W.mg_none_of X G z_sorted, ⟨_, PySem.W.mg_of X G g_FIGURES⟩⟩
  have cf : CF K mg ⟨d_StretchError, d_NoRule, d_NoText⟩ := ⟨PySem.W.mg_of X G n_StretchError, PySem.W.mg_of X G n_NoRule, PySem.W.mg_of X G n_NoText, ⟨PySem.W.mg_of X G n_NoRule, x_NoRule⟩, ⟨ga_NoRule, gt_NoRule, cl_NoRule, sg_NoRule, tk_NoRule, ob_NoRule, be_NoRule, ic_NoRule⟩⟩
  have F_whole := fun_mk (st := s_whole) l_whole c_whole k_whole
  have b_whole := F_whole.binds (ps := ["thing"]) fun _ _ _ _ _ _ us hl => match us, hl with | [_], _ => rfl
  have m_whole := PySem.W.mg_of X G a_whole
  have F_share := fun_mk (st := s_share) l_share c_share k_share
  have b_share := F_share.binds (ps := ["thing"]) fun _ _ _ _ _ _ us hl => match us, hl with | [_], _ => rfl
  have m_share := PySem.W.mg_of X G a_share
  have F_wpair := fun_mk (st := s_wpair) l_wpair c_wpair k_wpair
  have b_wpair := F_wpair.binds (ps := ["thing"]) fun _ _ _ _ _ _ us hl => match us, hl with | [_], _ => rfl
  have m_wpair := PySem.W.mg_of X G a_wpair
  have F_cd := fun_mk (st := s_cd) l_cd c_cd k_cd
  have b_cd := F_cd.binds (ps := ["one", "other"]) fun _ _ _ _ _ _ us hl => match us, hl with | [_, _], _ => rfl
  have m_cd := PySem.W.mg_of X G a_cd
  have F_und := fun_mk (st := s_und) l_und c_und k_und
  have b_und := F_und.binds (ps := ["one", "other"]) fun _ _ _ _ _ _ us hl => match us, hl with | [_, _], _ => rfl
  have m_und := PySem.W.mg_of X G a_und
  have F_ruleof := fun_mk (st := s_ruleof) l_ruleof c_ruleof k_ruleof
  have b_ruleof := F_ruleof.binds (ps := ["n", "stretches"]) fun _ _ _ _ _ _ us hl => match us, hl with | [_, _], _ => rfl
  have m_ruleof := PySem.W.mg_of X G a_ruleof
  have F_rowof := fun_mk (st := s_rowof) l_rowof c_rowof k_rowof
  have b_rowof := F_rowof.binds (ps := ["thing", "count"]) fun _ _ _ _ _ _ us hl => match us, hl with | [_, _], _ => rfl
  have m_rowof := PySem.W.mg_of X G a_rowof
  have F_str := fun_mk (st := s_str) l_str c_str k_str
  have b_str := F_str.binds (ps := ["thing"]) fun _ _ _ _ _ _ us hl => match us, hl with | [_], _ => rfl
  have m_str := PySem.W.mg_of X G a_str
  have F_shf := fun_mk (st := s_shf) l_shf c_shf k_shf
  have b_shf := F_shf.binds (ps := ["one"]) fun _ _ _ _ _ _ us hl => match us, hl with | [_], _ => rfl
  have m_shf := PySem.W.mg_of X G a_shf
  have F_show := fun_mk (st := s_show) l_show c_show k_show
  have b_show := F_show.binds (ps := ["rule"]) fun _ _ _ _ _ _ us hl => match us, hl with | [_], _ => rfl
  have m_show := PySem.W.mg_of X G a_show
  have F_shp := fun_mk (st := s_shp) l_shp c_shp k_shp
  have b_shp := F_shp.binds (ps := ["n", "pairs"]) fun _ _ _ _ _ _ us hl => match us, hl with | [_, _], _ => rfl
  have m_shp := PySem.W.mg_of X G a_shp
  have F_rr := fun_mk (st := s_rr) l_rr c_rr k_rr
  have b_rr := F_rr.binds (ps := ["text"]) fun _ _ _ _ _ _ us hl => match us, hl with | [_], _ => rfl
  have m_rr := PySem.W.mg_of X G a_rr
  have F_rps := fun_mk (st := s_rps) l_rps c_rps k_rps
  have b_rps := F_rps.binds (ps := ["text", "read_end"]) fun _ _ _ _ _ _ us hl => match us, hl with | [_, _], _ => rfl
  have m_rps := PySem.W.mg_of X G a_rps
  have F_rp := fun_mk (st := s_rp) l_rp c_rp k_rp
  have b_rp := F_rp.binds (ps := ["text", "read_end"]) fun _ _ _ _ _ _ us hl => match us, hl with | [_, _], _ => rfl
  have m_rp := PySem.W.mg_of X G a_rp
  have F_rf := fun_mk (st := s_rf) l_rf c_rf k_rf
  have b_rf := F_rf.binds (ps := ["text"]) fun _ _ _ _ _ _ us hl => match us, hl with | [_], _ => rfl
  have m_rf := PySem.W.mg_of X G a_rf
  have F_rw := fun_mk (st := s_rw) l_rw c_rw k_rw
  have b_rw := F_rw.binds (ps := ["text"]) fun _ _ _ _ _ _ us hl => match us, hl with | [_], _ => rfl
  have m_rw := PySem.W.mg_of X G a_rw
  have F_atU := fun_mk (st := s_atU) l_atU c_atU k_atU
  have b_atU := F_atU.binds (ps := ["_law_script", "_law_k"]) fun _ _ _ _ _ _ us hl => match us, hl with | [_, _], _ => rfl
  have m_atU := PySem.W.mg_of X G a_atU
  have F_div := fun_mk (st := s_div) l_div c_div k_div
  have b_div := F_div.binds (ps := ["_law_one", "_law_other"]) fun _ _ _ _ _ _ us hl => match us, hl with | [_, _], _ => rfl
  have m_div := PySem.W.mg_of X G a_div
  have F_low := fun_mk (st := s_low) l_low c_low k_low
  have b_low := F_low.binds (ps := ["_law_top", "_law_bottom"]) fun _ _ _ _ _ _ us hl => match us, hl with | [_, _], _ => rfl
  have m_low := PySem.W.mg_of X G a_low
  have F_fgs := fun_mk (st := s_fgs) l_fgs c_fgs k_fgs
  have b_fgs := F_fgs.binds (ps := ["_law_number"]) fun _ _ _ _ _ _ us hl => match us, hl with | [_], _ => rfl
  have m_fgs := PySem.W.mg_of X G a_fgs
  have F_wrt := fun_mk (st := s_wrt) l_wrt c_wrt k_wrt
  have b_wrt := F_wrt.binds (ps := ["_law_one"]) fun _ _ _ _ _ _ us hl => match us, hl with | [_], _ => rfl
  have m_wrt := PySem.W.mg_of X G a_wrt
  have F_alk := fun_mk (st := s_alk) l_alk c_alk k_alk
  have b_alk := F_alk.binds (ps := ["_law_found", "_law_due"]) fun _ _ _ _ _ _ us hl => match us, hl with | [_, _], _ => rfl
  have m_alk := PySem.W.mg_of X G a_alk
  have F_frn := fun_mk (st := s_frn) l_frn c_frn k_frn
  have b_frn := F_frn.binds (ps := ["_law_script"]) fun _ _ _ _ _ _ us hl => match us, hl with | [_], _ => rfl
  have m_frn := PySem.W.mg_of X G a_frn
  have F_sts := fun_mk (st := s_sts) l_sts c_sts k_sts
  have b_sts := F_sts.binds (ps := ["_law_script", "_law_n"]) fun _ _ _ _ _ _ us hl => match us, hl with | [_, _], _ => rfl
  have m_sts := PySem.W.mg_of X G a_sts
  have F_law := fun_mk (st := s_law) l_law c_law k_law
  have b_law := F_law.binds (ps := ["_law_script"]) fun _ _ _ _ _ _ us hl => match us, hl with | [_], _ => rfl
  have m_law := PySem.W.mg_of X G a_law
  refine ⟨PySem.W.fnOf "law" "law" (defArgs s_law) (defBody s_law) (defScope s_law) .none kV_law dc_law pm_law an_law cd_law ct_law, fun s v => .of_eq rfl, fun base _ _ => ?_⟩
  have G_atU := ok_atU (P := l.prog) (w := w) (base := base) F_atU T
  have G_div := ok_div (P := l.prog) (w := w) (base := base) F_div T
  have G_low := ok_low (P := l.prog) (w := w) (base := base) F_low T (G_div.mono (by decide)) b_div k_div m_div
  have G_frn := ok_frn (P := l.prog) (w := w) (base := base) F_frn T (G_atU.mono (by decide)) b_atU k_atU m_atU (G_low.mono (by decide)) b_low k_low m_low
  have G_shf := ok_shf (P := l.prog) (w := w) (base := base) F_shf T
  have G_fgs := ok_fgs (P := l.prog) (w := w) (base := base) F_fgs T
  have G_wrt := ok_wrt (P := l.prog) (w := w) (base := base) F_wrt T (G_fgs.mono (by decide)) b_fgs k_fgs m_fgs
  have G_sts := ok_sts (P := l.prog) (w := w) (base := base) F_sts T (G_atU.mono (by decide)) b_atU k_atU m_atU (G_low.mono (by decide)) b_low k_low m_low
  have G_whole := ok_whole (P := l.prog) (w := w) (base := base) F_whole T
  have G_rowof := ok_rowof (P := l.prog) (w := w) (base := base) F_rowof T
  have G_wpair := ok_wpair (P := l.prog) (w := w) (base := base) F_wpair T (G_whole.mono (by decide)) b_whole k_whole m_whole
  have G_cd := ok_cd (P := l.prog) (w := w) (base := base) F_cd T
  have G_share := ok_share (P := l.prog) (w := w) (base := base) F_share T (G_wpair.mono (by decide)) b_wpair k_wpair m_wpair (G_cd.mono (by decide)) b_cd k_cd m_cd
  have G_und := ok_und (P := l.prog) (w := w) (base := base) F_und T
  have G_str := ok_str (P := l.prog) (w := w) (base := base) F_str T cf (G_rowof.mono (by decide)) b_rowof k_rowof m_rowof (G_share.mono (by decide)) b_share k_share m_share (G_und.mono (by decide)) b_und k_und m_und
  have G_ruleof := ok_ruleof (P := l.prog) (w := w) (base := base) F_ruleof T cf (G_whole.mono (by decide)) b_whole k_whole m_whole (G_rowof.mono (by decide)) b_rowof k_rowof m_rowof (G_str.mono (by decide)) b_str k_str m_str (G_und.mono (by decide)) b_und k_und m_und
  have G_shp := ok_shp (P := l.prog) (w := w) (base := base) F_shp T
  have G_show := ok_show (P := l.prog) (w := w) (base := base) F_show T (G_shf.mono (by decide)) b_shf k_shf m_shf (G_shp.mono (by decide)) b_shp k_shp m_shp
  have G_rw := ok_rw (P := l.prog) (w := w) (base := base) F_rw T
  have G_rf := ok_rf (P := l.prog) (w := w) (base := base) F_rf T (G_rw.mono (by decide)) b_rw k_rw m_rw (G_cd.mono (by decide)) b_cd k_cd m_cd
  have G_rp := ok_rp (P := l.prog) (w := w) (base := base) F_rp T (G_rf.mono (by decide)) b_rf k_rf m_rf
  have G_rps := ok_rps (P := l.prog) (w := w) (base := base) F_rps T (G_rf.mono (by decide)) b_rf k_rf m_rf (G_rw.mono (by decide)) b_rw k_rw m_rw (G_rp.mono (by decide)) b_rp k_rp m_rp
  have G_rr := ok_rr (P := l.prog) (w := w) (base := base) F_rr T cf (G_rf.mono (by decide)) b_rf k_rf m_rf (G_rps.mono (by decide)) b_rps k_rps m_rps (G_ruleof.mono (by decide)) b_ruleof k_ruleof m_ruleof
  have G_alk := ok_alk (P := l.prog) (w := w) (base := base) F_alk T b_alk k_alk m_alk
  exact ok_law F_law T cf (G_frn.mono (by decide)) b_frn k_frn m_frn (G_shf.mono (by decide)) b_shf k_shf m_shf (G_wrt.mono (by decide)) b_wrt k_wrt m_wrt (G_atU.mono (by decide)) b_atU k_atU m_atU (G_sts.mono (by decide)) b_sts k_sts m_sts (G_ruleof.mono (by decide)) b_ruleof k_ruleof m_ruleof (G_fgs.mono (by decide)) b_fgs k_fgs m_fgs (G_show.mono (by decide)) b_show k_show m_show (G_rr.mono (by decide)) b_rr k_rr m_rr (G_alk.mono (by decide)) b_alk k_alk m_alk
theorem walk {l : PySem.W.OpenLaw} {q : Program} {loose : List Str} {XP : (Str → Option Value) → Heap → Prop} {YP : World → Heap → Prop} {d : DefRec} {K : Params → PySem.W.Frag} (hn : l.most = some 63) (hdf : d.params.defaults = [])
    (hY : ∀ (w : World) (h : Heap), YP w h → (K w.params).In h)
    (F : ∀ (w : World) (mg : Str → Option Value) (fa : Addr) (h : Heap), (K w.params).In h → h.Ns mainGlobals mg → mg d.name = some (.ref fa) →
      ∃ fd : FuncData, (∀ (s : Shared) (u : Value), BindsTo s fd ⟨[u], []⟩ [("_law_script", u)]) ∧ ∀ base : Heap, (K w.params).In base → base.Ns mainGlobals mg → FnOk l.prog w (K w.params) mg base CX0 8 fa fd ["_law_script"] (spLaw (K w.params))) :
    PySem.W.WalkO q loose XP YP l.row.toRowW d [] (fun f vs => PySem.call f vs) :=
  L2.walk_ofB (n := 63) (k := 8) (x := "_law_script") (CX := fun _ => CX0) (sp := fun w => spLaw (K w.params)) hn (by decide) hdf ⟨rfl, by decide, by decide⟩ hY F (fun _ _ a ns hl hb _ hS => ⟨a, ns, rfl, hS, hl, hb, fun _ => rfl⟩) fun _ _ _ _ _ z => z
end K50
open PySem PySem.W PyProof.Rows
def PySem.W.Fast.tw8108972057756033685 : Nat := 0
def PySem.W.Fast.tw12731883171244529800 : Nat := 0
def PySem.W.Fast.tw10232121956903972568 : Nat := 0
def PySem.W.Fast.tw15627529147382330317 : Nat := 0
def PySem.W.Fast.tw6930306604499867728 : Nat := 0
def PySem.W.Fast.tw6297368638054866671 : Nat := 0
def PySem.W.Fast.tw9467176441583928054 : Nat := 0
def PySem.W.Fast.tw10584622046916799198 : Nat := 0
set_option maxRecDepth 100000 in
set_option maxHeartbeats 0 in
theorem PySem.Challenge.cw_surestretch_k50_fractions_and_rules_writ_holds : PySem.Challenge.rw_surestretch_k50_fractions_and_rules_writ.Holds := by
  w_on; o_law; k_head; (case hw => w_witness2)
  k_fill
  refine K50.walk (l := PySem.Challenge.rw_surestretch_k50_fractions_and_rules_writ) rfl rfl (fun w h Y => PySem.W.kIn_of Y) ?F
  case F =>
    intro w mg fa h KX G hmg
    refine' K50.all_mk KX G hmg ?a_whole ?l_whole ?c_whole ?k_whole ?a_share ?l_share ?c_share ?k_share ?a_wpair ?l_wpair ?c_wpair ?k_wpair ?a_cd ?l_cd ?c_cd ?k_cd ?a_und ?l_und ?c_und ?k_und ?a_ruleof ?l_ruleof ?c_ruleof ?k_ruleof ?a_rowof ?l_rowof ?c_rowof ?k_rowof ?a_str ?l_str ?c_str ?k_str ?a_shf ?l_shf ?c_shf ?k_shf ?a_show ?l_show ?c_show ?k_show ?a_shp ?l_shp ?c_shp ?k_shp ?a_rr ?l_rr ?c_rr ?k_rr ?a_rps ?l_rps ?c_rps ?k_rps ?a_rp ?l_rp ?c_rp ?k_rp ?a_rf ?l_rf ?c_rf ?k_rf ?a_rw ?l_rw ?c_rw ?k_rw ?a_atU ?l_atU ?c_atU ?k_atU ?a_div ?l_div ?c_div ?k_div ?a_low ?l_low ?c_low ?k_low ?a_fgs ?l_fgs ?c_fgs ?k_fgs ?a_wrt ?l_wrt ?c_wrt ?k_wrt ?a_alk ?l_alk ?c_alk ?k_alk ?a_frn ?l_frn ?c_frn ?k_frn ?a_sts ?l_sts ?c_sts ?k_sts ?a_law ?l_law ?c_law ?k_law ?z_range ?z_min ?z_max ?z_len ?z_isinstance ?z_int ?z_bool ?z_str ?z_tuple ?z_list ?z_zip ?z_enumerate ?z_all ?z_abs ?z_sorted ?g_FIGURES ?n_StretchError ?n_NoRule ?n_NoText ?x_NoRule ?ic_NoRule ?ga_NoRule ?gt_NoRule ?cl_NoRule ?sg_NoRule ?tk_NoRule ?ob_NoRule ?be_NoRule
    (case a_whole => k_is); (case l_whole => k_is); (case c_whole => k_is); (case k_whole => k_is); (case a_share => k_is); (case l_share => k_is); (case c_share => k_is); (case k_share => k_is)
    (case a_wpair => k_is); (case l_wpair => k_is); (case c_wpair => k_is); (case k_wpair => k_is); (case a_cd => k_is); (case l_cd => k_is); (case c_cd => k_is); (case k_cd => k_is)
    (case a_und => k_is); (case l_und => k_is); (case c_und => k_is); (case k_und => k_is); (case a_ruleof => k_is); (case l_ruleof => k_is); (case c_ruleof => k_is); (case k_ruleof => k_is)
    (case a_rowof => k_is); (case l_rowof => k_is); (case c_rowof => k_is); (case k_rowof => k_is); (case a_str => k_is); (case l_str => k_is); (case c_str => k_is); (case k_str => k_is)
    (case a_shf => k_is); (case l_shf => k_is); (case c_shf => k_is); (case k_shf => k_is); (case a_show => k_is); (case l_show => k_is); (case c_show => k_is); (case k_show => k_is)
    (case a_shp => k_is); (case l_shp => k_is); (case c_shp => k_is); (case k_shp => k_is); (case a_rr => k_is); (case l_rr => k_is); (case c_rr => k_is); (case k_rr => k_is)
    (case a_rps => k_is); (case l_rps => k_is); (case c_rps => k_is); (case k_rps => k_is); (case a_rp => k_is); (case l_rp => k_is); (case c_rp => k_is); (case k_rp => k_is)
    (case a_rf => k_is); (case l_rf => k_is); (case c_rf => k_is); (case k_rf => k_is); (case a_rw => k_is); (case l_rw => k_is); (case c_rw => k_is); (case k_rw => k_is)
    (case a_atU => k_is); (case l_atU => k_is); (case c_atU => k_is); (case k_atU => k_is); (case a_div => k_is); (case l_div => k_is); (case c_div => k_is); (case k_div => k_is)
    (case a_low => k_is); (case l_low => k_is); (case c_low => k_is); (case k_low => k_is); (case a_fgs => k_is); (case l_fgs => k_is); (case c_fgs => k_is); (case k_fgs => k_is)
    (case a_wrt => k_is); (case l_wrt => k_is); (case c_wrt => k_is); (case k_wrt => k_is); (case a_alk => k_is); (case l_alk => k_is); (case c_alk => k_is); (case k_alk => k_is)
    (case a_frn => k_is); (case l_frn => k_is); (case c_frn => k_is); (case k_frn => k_is); (case a_sts => k_is); (case l_sts => k_is); (case c_sts => k_is); (case k_sts => k_is)
    (case a_law => k_is); (case l_law => k_is); (case c_law => k_is); (case k_law => k_is); (case z_range => k_is); (case z_min => k_is); (case z_max => k_is); (case z_len => k_is)
    (case z_isinstance => k_is); (case z_int => k_is); (case z_bool => k_is); (case z_str => k_is); (case z_tuple => k_is); (case z_list => k_is); (case z_zip => k_is); (case z_enumerate => k_is)
    (case z_all => k_is); (case z_abs => k_is); (case z_sorted => k_is); (case g_FIGURES => k_is); (case n_StretchError => k_is); (case n_NoRule => k_is); (case n_NoText => k_is); (case x_NoRule => k_exc)
    (case ic_NoRule => k_is); (case ga_NoRule => k_is); (case gt_NoRule => k_is); (case cl_NoRule => k_is); (case sg_NoRule => k_is); (case tk_NoRule => k_is); (case ob_NoRule => k_is); (case be_NoRule => k_is)