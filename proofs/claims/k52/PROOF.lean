import PyProof.Rows.All
import PyProof.FitsReplace
import PyProof.StrLawsOcc
import PyProof.StrBlock
import PyProof.StrLawsJoin
import PyProof.StrCaseBound
import PyProof.StrCalls6
import PyProof.StrBlock2
import PyProof.Rows.StrBin
import KE.IntTextLaws
import PyProof.StrLawsChain
import PyProof.SliceStr2
import PyProof.StrWalks
import PyProof.StrBlockG
import KE.KIntText
import PyProof.MeetsStr3
import PyProof.StrCalls5
import PyProof.StrBlockL
import PyProof.Rows.CallKwBuiltin
import KE.KRevIter
import PyProof.EnumMake
import Wide.All
import OpenK.AllK
import Wide.FinOn
import Lean
import PyProof.EqAt
import PyProof.EqKinds
import PyProof.TupleCall
import PySem.Challenge.RW_surestretch_k52_texts_of_none
set_option Elab.async false
set_option linter.all false
set_option maxRecDepth 100000
namespace L2
open PySem PySem.Spec PyProof.Rows
noncomputable abbrev Key := Sum Int Str
noncomputable def keyIs : Key → Value → Bool
  | .inl k, v => Value.isInt k v
  | .inr x, v => Value.isStrOf x v
noncomputable def keyH (w : World) : Key → Int
  | .inl k => hashInt k
  | .inr x => hashStr w x
theorem keyIs_shape : ∀ {k : Key} {v : Value}, keyIs k v = true → (∃ i t, k = Sum.inl i ∧ v = Value.int i t) ∨ (∃ x t, k = Sum.inr x ∧ v = Value.str x t)
  | .inl i, v, h => by
    obtain ⟨t, e⟩ := Value.isInt_shape (k := i) (v := v) h
    exact .inl ⟨i, t, rfl, e⟩
  | .inr x, v, h => by
    obtain ⟨t, e⟩ := Value.isStrOf_shape (x := x) (v := v) h
    exact .inr ⟨x, t, rfl, e⟩
theorem key_ll (a b : Int) : decide ((Sum.inl a : Key) = Sum.inl b) = (a == b) := by
  by_cases e : a = b
  · subst e; simp
  · have h : ¬ (Sum.inl a : Key) = Sum.inl b := fun q => e (Sum.inl.inj q)
    rw [decide_eq_false h]
    exact (beq_eq_false_iff_ne.mpr e).symm
theorem key_rr (a b : Str) : decide ((Sum.inr a : Key) = Sum.inr b) = decide (a = b) := by
  by_cases e : a = b
  · subst e; simp
  · have h : ¬ (Sum.inr a : Key) = Sum.inr b := fun q => e (Sum.inr.inj q)
    rw [decide_eq_false h, decide_eq_false e]
theorem key_lr (a : Int) (b : Str) : decide ((Sum.inl a : Key) = Sum.inr b) = false := decide_eq_false (fun q => nomatch q)
theorem key_rl (a : Str) (b : Int) : decide ((Sum.inr a : Key) = Sum.inl b) = false := decide_eq_false (fun q => nomatch q)
noncomputable def mixKind (prog : Program) (w : World) : PySem.KeyKind prog w Key where
  is := keyIs
  hash := keyH w
  inj := fun v a b ha hb => by
    rcases keyIs_shape ha with ⟨i, t, rfl, rfl⟩ | ⟨x, t, rfl, rfl⟩
    · rcases keyIs_shape hb with ⟨j, u, rfl, e⟩ | ⟨y, u, rfl, e⟩
      · injection e with e1 _; rw [e1]
      · exact nomatch e
    · rcases keyIs_shape hb with ⟨j, u, rfl, e⟩ | ⟨y, u, rfl, e⟩
      · exact nomatch e
      · injection e with e1 _; rw [e1]
  byValue := fun k v h => by
    rcases keyIs_shape h with ⟨i, t, rfl, rfl⟩ | ⟨x, t, rfl, rfl⟩ <;> rfl
  pyHash := fun hv h => by
    rcases keyIs_shape hv with ⟨i, t, rfl, rfl⟩ | ⟨x, t, rfl, rfl⟩
    · exact wpAny_pyHash_int h
    · exact wpAny_pyHash_str h
  eqBool := fun hu hv h => by
    rcases keyIs_shape hu with ⟨i, t, rfl, rfl⟩ | ⟨x, t, rfl, rfl⟩
    · rcases keyIs_shape hv with ⟨j, u, rfl, rfl⟩ | ⟨y, u, rfl, rfl⟩
      · rw [key_ll] at h; exact wpAny_eqBool_int h
      · rw [key_lr] at h; exact SeqAt.EqAt.int_str i t y u _ _ _ _ h
    · rcases keyIs_shape hv with ⟨j, u, rfl, rfl⟩ | ⟨y, u, rfl, rfl⟩
      · rw [key_rl] at h; exact SeqAt.EqAt.str_int x t j u _ _ _ _ h
      · rw [key_rr] at h; exact wpAny_eqBool_str h
  «strs» := fun k x t v h => by
    rcases keyIs_shape h with ⟨i, u, rfl, e⟩ | ⟨y, u, rfl, e⟩
    · exact nomatch e
    · injection e with e1 _
      subst e1
      cases v <;> rfl
end L2
namespace L2
open PySem PySem.Spec PyProof.Rows
inductive V where
  | non | bl (b : Bool) | int (i : Int) | str (x : Str) | byt (b : Array UInt8) | flt (b : UInt64) | ref (a : Addr) | ty (n : String)
  deriving DecidableEq
noncomputable def RelV : V → Value → Prop
  | .non, u => u = Value.none
  | .bl b, u => u = Value.bool b
  | .int i, u => ∃ t, u = Value.int i t
  | .str x, u => ∃ t, u = Value.str x t
  | .byt b, u => ∃ t, u = Value.bytes b t
  | .flt b, u => ∃ t, u = Value.float b t
  | .ref a, u => u = Value.ref a
  | .ty n, u => u = Value.type n
noncomputable abbrev Vals : List V → List Value → Prop := Paired RelV
theorem Vals.length {xs : List V} {us : List Value} (r : Vals xs us) : xs.length = us.length := Paired.length r
theorem Vals.get : ∀ {xs : List V} {us : List Value} {i : Nat} {x : V}, Vals xs us → xs[i]? = some x → ∃ u, us[i]? = some u ∧ RelV x u
  | _, _, _, _, .nil, e => by simp at e
  | _, _, 0, _, .cons r _, e => by simp at e; subst e; exact ⟨_, rfl, r⟩
  | _, _, i + 1, x, .cons _ t, e => by
    obtain ⟨u, h1, h2⟩ := Vals.get (i := i) (x := x) t (by simpa using e)
    exact ⟨u, by simpa using h1, h2⟩
theorem Vals.set {x : V} {u : Value} (r : RelV x u) : ∀ {xs : List V} {us : List Value} (i : Nat), Vals xs us → Vals (xs.set i x) (us.set i u)
  | _, _, _, .nil => .nil
  | _, _, 0, .cons _ t => .cons r t
  | _, _, i + 1, .cons q t => .cons q (Vals.set r i t)
theorem Vals.append : ∀ {xs ys : List V} {us ws : List Value}, Vals xs us → Vals ys ws → Vals (xs ++ ys) (us ++ ws)
  | _, _, _, _, .nil, s => s
  | _, _, _, _, .cons r t, s => .cons r (Vals.append t s)
theorem Vals.take : ∀ {xs : List V} {us : List Value} (n : Nat), Vals xs us → Vals (xs.take n) (us.take n)
  | _, _, 0, _ => .nil
  | _, _, _ + 1, .nil => .nil
  | _, _, n + 1, .cons r t => .cons r (Vals.take n t)
theorem Vals.drop : ∀ {xs : List V} {us : List Value} (n : Nat), Vals xs us → Vals (xs.drop n) (us.drop n)
  | _, _, 0, r => r
  | _, _, _ + 1, .nil => .nil
  | _, _, n + 1, .cons _ t => Vals.drop n t
noncomputable def RelO : Option V → Option Value → Prop
  | some v, some u => RelV v u
  | none, none => True
  | _, _ => False
noncomputable def KV {κ : Type} : List (κ × V) → List (κ × Value) → Prop := Paired fun (p : κ × V) (q : κ × Value) => p.1 = q.1 ∧ RelV p.2 q.2
noncomputable def kV : Key → V
  | .inl i => .int i
  | .inr x => .str x
inductive HO where
  | lst (xs : List V)
  | tup (xs : List V)
  | dK (kvs : List (Key × V)) | dT (kvs : List (List Key × V))
  | set (S : Int → Bool) (n : Nat)
  | ins (C dx : Addr) (fs : List (Str × V))
  | own (x : Addr)
  | xd (fs : List (Str × V))
  | met (f x : Addr)
  | rng (lo hi : Int)
  | frz (o : Obj) (u : HO)
  | tbl (ps : Array Value)
  | ext (φ : Heap → Prop)
noncomputable abbrev Hp := Addr → Option HO
noncomputable def upd (H : Hp) (a : Addr) (o : HO) : Hp := fun b => if b = a then some o else H b
theorem upd_same {H : Hp} {a : Addr} {o : HO} : upd H a o a = some o := by unfold upd; rw [if_pos rfl]
theorem upd_ne {H : Hp} {a b : Addr} {o : HO} (h : b ≠ a) : upd H a o b = H b := by unfold upd; rw [if_neg h]
theorem ne_of {H : Hp} {a b : Addr} {o u : HO} (h : H a = some o) (h' : H b = some u) (d : o ≠ u) : a ≠ b := by
  intro e; subst e; rw [h] at h'; exact d (Option.some.inj h')
theorem ne_of_none {H : Hp} {a b : Addr} {o : HO} (h : H a = some o) (h' : H b = none) : a ≠ b := by
  intro e; subst e; rw [h] at h'; cases h'
section
variable (P : Program) (w : World)
noncomputable def ObjOk (H : Hp) (h : Heap) (a : Addr) : HO → Prop
  | .lst xs => xs.length ≤ sizeLine ∧ ∃ (its : List Value) (n : Nat), Vals xs its ∧ h.get? a = some { cls := .type "list", data := .seq its.toArray n }
  | .tup xs => xs.length ≤ sizeLine ∧ ∃ its : List Value, Vals xs its ∧ IsTup h a its.toArray
  | .dK kvs => kvs.length ≤ sizeLine ∧ (a == sysModules) = false ∧ ∃ vs, KV kvs vs ∧ h.DictOf (mixKind P w) a vs
  | .dT kvs => kvs.length ≤ sizeLine ∧ (a == sysModules) = false ∧ ∃ xs : List (List Key × Addr × Value),
      Paired (fun (p : List Key × V) (q : List Key × Addr × Value) => p.1 = q.1 ∧ H q.2.1 = some (.tup (p.1.map kV)) ∧ RelV p.2 q.2.2) kvs xs ∧
      ∃ o es ep, h.get? a = some o ∧ o.ExactDict ∧ o.data = .dict es ep ∧ es.toList = xs.map (entryOfKey (tupleKind (mixKind P w))) ∧ (xs.map (·.1)).Nodup
  | .set S n => h.SetOf (intKind P w) a S n
  | .ins C dx fs => H dx = some (.own a) ∧ fs.length ≤ 1000 ∧ dx ≠ a ∧ h.get? a = some (PySem.W.instObj C dx) ∧
      ∃ mA, h.Ns1 dx mA ∧ (∀ f, RelO (fs.lookup f) (mA f)) ∧ PySem.Within mA (fs.map (·.1))
  | .own _ => ∃ o, h.get? a = some o
  | .xd fs => ∃ mA, h.Ns1 a mA ∧ ∀ f, RelO (fs.lookup f) (mA f)
  | .rng lo hi => ∃ t u v, h.get? a = some { cls := .type "range", data := .fields #[.int lo t, .int hi u, .int 1 v] }
  | .frz o u => h.get? a = some o ∧ ObjOk H h a u
  | .tbl ps => h.get? a = some { cls := .none, data := .fields ps }
  | .met f x => h.get? a = some (PySem.W.methodObj (.ref f) (.ref x))
  | .ext φ => φ h ∧ (∃ o, h.get? a = some o) ∧ ∀ h1 h2 : Heap, φ h1 → (∀ o, h1.get? a = some o → h2.get? a = some o) → φ h2
noncomputable def HOk (H : Hp) (h : Heap) : Prop := ∀ a o, H a = some o → ObjOk P w H h a o
end
section
variable {P : Program} {w : World} {H H' : Hp} {h h' : Heap} {a : Addr} {o : HO}
theorem ObjOk.lt (x : ObjOk P w H h a o) : a < h.objs.size := by
  cases o with
  | lst xs => obtain ⟨_, _, _, _, e⟩ := x; exact Heap.lt_size e
  | tup xs => obtain ⟨_, _, _, p⟩ := x; exact p.lt
  | dK kvs => obtain ⟨_, _, _, _, o, _, _, e, _⟩ := x; exact Heap.lt_size e
  | dT kvs => obtain ⟨_, _, _, _, o, _, _, e, _⟩ := x; exact Heap.lt_size e
  | set S n => obtain ⟨o, _, _, _, e, _⟩ := x; exact Heap.lt_size e
  | ins C dx fs => obtain ⟨_, _, _, e, _⟩ := x; exact Heap.lt_size e
  | own y => obtain ⟨_, e⟩ := x; exact Heap.lt_size e
  | xd fs => obtain ⟨_, ⟨_, _, _, e, _⟩, _⟩ := x; exact Heap.lt_size e
  | rng lo hi => obtain ⟨_, _, _, e⟩ := x; exact Heap.lt_size e
  | frz ob u => obtain ⟨e, _⟩ := x; exact Heap.lt_size e
  | tbl ps => exact Heap.lt_size (show h.get? a = some _ from x)
  | met f y => exact Heap.lt_size (show h.get? a = some _ from x)
  | ext φ => obtain ⟨_, ⟨_, e⟩, _⟩ := x; exact Heap.lt_size e
theorem Paired.mapP {α β : Type} {F G : α → β → Prop} : ∀ {l₁ : List α} {l₂ : List β}, Paired F l₁ l₂ → (∀ a b, F a b → G a b) → Paired G l₁ l₂
  | _, _, .nil, _ => .nil
  | _, _, .cons r t, f => .cons (f _ _ r) (Paired.mapP t f)
theorem ObjOk.stay (x : ObjOk P w H h a o) (k : ∀ b u, (b = a ∨ H b = some (.own a)) → h.get? b = some u → h'.get? b = some u)
    (ho : ∀ b, H b = some (.own a) → H' b = some (.own a)) (ht : ∀ b xs, H b = some (.tup xs) → H' b = some (.tup xs)) : ObjOk P w H' h' a o := by
  induction o with
  | lst xs => obtain ⟨z, its, n, r, e⟩ := x; exact ⟨z, its, n, r, k _ _ (.inl rfl) e⟩
  | tup xs => obtain ⟨z, its, r, ob, e, c⟩ := x; exact ⟨z, its, r, ob, k _ _ (.inl rfl) e, c⟩
  | dK kvs => obtain ⟨z, y, vs, r, ob, es, ep, e, c⟩ := x; exact ⟨z, y, vs, r, ob, es, ep, k _ _ (.inl rfl) e, c⟩
  | dT kvs =>
    obtain ⟨z, y, xs, r, ob, es, ep, e, c⟩ := x
    exact ⟨z, y, xs, Paired.mapP r fun p q z => ⟨z.1, ht _ _ z.2.1, z.2.2⟩, ob, es, ep, k _ _ (.inl rfl) e, c⟩
  | set S n => obtain ⟨ob, es, ep, t, e, c⟩ := x; exact ⟨ob, es, ep, t, k _ _ (.inl rfl) e, c⟩
  | ins C dx fs =>
    obtain ⟨d, z, ne, e, mA, ⟨od, es, ep, e2, c⟩, r⟩ := x
    exact ⟨ho _ d, z, ne, k _ _ (.inl rfl) e, mA, ⟨od, es, ep, k _ _ (.inr d) e2, c⟩, r⟩
  | own y => obtain ⟨ob, e⟩ := x; exact ⟨ob, k _ _ (.inl rfl) e⟩
  | xd fs => obtain ⟨mA, ⟨od, es, ep, e, c⟩, r⟩ := x; exact ⟨mA, ⟨od, es, ep, k _ _ (.inl rfl) e, c⟩, r⟩
  | rng lo hi => obtain ⟨t, u, v, e⟩ := x; exact ⟨t, u, v, k _ _ (.inl rfl) e⟩
  | frz ob u ih => obtain ⟨e, q⟩ := x; exact ⟨k _ _ (.inl rfl) e, ih q⟩
  | tbl ps =>
    have e : h.get? a = some { cls := .none, data := .fields ps } := x
    show h'.get? a = some { cls := .none, data := .fields ps }
    exact k a _ (.inl rfl) e
  | met f y =>
    have e : h.get? a = some (PySem.W.methodObj (.ref f) (.ref y)) := x
    show h'.get? a = some (PySem.W.methodObj (.ref f) (.ref y))
    exact k a _ (.inl rfl) e
  | ext φ => obtain ⟨p, ⟨o, e⟩, st⟩ := x; exact ⟨st _ _ p fun o q => k _ _ (.inl rfl) q, ⟨o, k _ _ (.inl rfl) e⟩, st⟩
theorem HOk.lt (x : HOk P w H h) (e : H a = some o) : a < h.objs.size := (x a o e).lt
theorem HOk.fresh (x : HOk P w H h) (e : h.objs.size ≤ a) : H a = none := by
  cases q : H a with
  | none => rfl
  | some u => exact absurd (Nat.lt_of_lt_of_le (x.lt q) e) (Nat.lt_irrefl _)
theorem HOk.kept (x : HOk P w H h) (k : ∀ b u, h.get? b = some u → h'.get? b = some u) : HOk P w H h' := fun a o e =>
  (x a o e).stay (fun b u _ q => k b u q) (fun _ q => q) fun _ _ q => q
theorem HOk.laid (x : HOk P w H h) (k : ∀ b u, h.get? b = some u → h'.get? b = some u) (hp : h.objs.size ≤ a) (new : ObjOk P w (upd H a o) h' a o) : HOk P w (upd H a o) h' := fun b u e => by
  have hn := x.fresh hp
  by_cases hb : b = a
  · subst hb; rw [upd_same] at e; cases e; exact new
  · rw [upd_ne hb] at e
    exact (x b u e).stay (fun c v _ q => k c v q) (fun c q => by rw [upd_ne (ne_of_none q hn)]; exact q) fun c xs q => by rw [upd_ne (ne_of_none q hn)]; exact q
end
noncomputable def Rd (H : Hp) (a : Addr) (u : HO) : Prop := H a = some u ∨ ∃ o, H a = some (.frz o u)
theorem Rd.of {H : Hp} {a : Addr} {u : HO} (h : H a = some u) : Rd H a u := .inl h
theorem Rd.ok {P : Program} {w : World} {H : Hp} {h : Heap} {a : Addr} {u : HO} (r : Rd H a u) (x : HOk P w H h) : ObjOk P w H h a u := by
  rcases r with r | ⟨o, r⟩
  · exact x a u r
  · obtain ⟨_, q⟩ := x a _ r
    exact q
noncomputable def Mut : Option HO → Prop
  | some (.lst _) => True
  | some (.dK _) => True
  | some (.dT _) => True
  | some (.set _ _) => True
  | some (.ins _ _ _) => True
  | some (.ext _) => True
  | _ => False
section
variable {P : Program} {w : World} {H : Hp} {h h' : Heap} {x e : Addr} {o' : HO}
theorem HOk.write (ok : HOk P w H h) (mu : Mut (H x)) (he : e = x ∨ H e = some (.own x)) (k : ∀ b u, b ≠ e → h.get? b = some u → h'.get? b = some u) (heo : ∃ u, h'.get? e = some u)
    (new : ObjOk P w (upd H x o') h' x o') : HOk P w (upd H x o') h' := fun b u q => by
  have nown : ∀ c y, H c = some (.own y) → c ≠ x := fun c y r z => by subst z; rw [r] at mu; exact mu
  have ntup : ∀ c xs, H c = some (.tup xs) → c ≠ x := fun c xs r z => by subst z; rw [r] at mu; exact mu
  by_cases hb : b = x
  · subst hb; rw [upd_same] at q; cases q; exact new
  · rw [upd_ne hb] at q
    by_cases hbe : b = e
    · have q' : H b = some (.own x) := by
        rcases he with z | z
        · exact absurd (hbe.trans z) hb
        · rw [hbe]; exact z
      rw [q] at q'; cases q'
      obtain ⟨v, hv⟩ := heo
      exact ⟨v, by rw [hbe]; exact hv⟩
    · refine (ok b u q).stay (fun c v hc r => k c v ?_ r) (fun c r => by rw [upd_ne (nown c b r)]; exact r) fun c xs r => by rw [upd_ne (ntup c xs r)]; exact r
      rcases hc with rfl | hc
      · exact hbe
      · rintro rfl
        rcases he with z | z
        · exact nown c b hc z
        · rw [hc] at z; cases z; exact hb rfl
end
structure Un (fs ex : List Addr) (H H' : Hp) (h h' : Heap) : Prop where
  keep : ∀ b o, h.get? b = some o → H b = none → b ∉ fs → b ∉ ex → h'.get? b = some o
  slot : ∀ b o, h.get? b = some o → H b = none → b ∈ fs → b ∉ ex → ∃ sl, h'.get? b = some { o with slots := sl }
  free : ∀ b o, h.get? b = some o → H b = none → b ∉ ex → H' b = none
  there : ∀ b o, h.get? b = some o → b ∉ ex → ∃ o', h'.get? b = some o'
  tups : ∀ b xs, H b = some (.tup xs) → H' b = some (.tup xs)
  frzs : ∀ b o u, H b = some (.frz o u) → H' b = some (.frz o u)
  tbls : ∀ b ps, H b = some (.tbl ps) → ∃ more, H' b = some (.tbl (ps ++ more))
section
variable {fs fs' ex ex' : List Addr} {H H1 H2 : Hp} {h h1 h2 h' : Heap} {a x e : Addr} {o : HO}
theorem Un.any (u : Un fs ex H H1 h h1) {b : Addr} {ob : Obj} (q : h.get? b = some ob) (n : H b = none) (hx : b ∉ ex) : ∃ sl, h1.get? b = some { ob with slots := sl } := by
  by_cases hb : b ∈ fs
  · exact u.slot b ob q n hb hx
  · exact ⟨ob.slots, u.keep b ob q n hb hx⟩
theorem Un.trans (a : Un fs ex H H1 h h1) (b : Un fs ex H1 H2 h1 h2) : Un fs ex H H2 h h2 where
  keep := fun c ob q n hc hx => b.keep c ob (a.keep c ob q n hc hx) (a.free c ob q n hx) hc hx
  slot := fun c ob q n hc hx => by
    obtain ⟨sl, e1⟩ := a.slot c ob q n hc hx
    obtain ⟨sl', e2⟩ := b.slot c _ e1 (a.free c ob q n hx) hc hx
    exact ⟨sl', e2⟩
  free := fun c ob q n hx => by
    obtain ⟨o', e1⟩ := a.there c ob q hx
    exact b.free c o' e1 (a.free c ob q n hx) hx
  there := fun c ob q hx => by
    obtain ⟨o', e1⟩ := a.there c ob q hx
    exact b.there c o' e1 hx
  tups := fun c xs q => b.tups c xs (a.tups c xs q)
  frzs := fun c ob xs q => b.frzs c ob xs (a.frzs c ob xs q)
  tbls := fun c ps q => by
    obtain ⟨m1, e1⟩ := a.tbls c ps q
    obtain ⟨m2, e2⟩ := b.tbls c _ e1
    exact ⟨m1 ++ m2, by rw [e2, Array.append_assoc]⟩
theorem Un.kept (k : ∀ b u, h.get? b = some u → h'.get? b = some u) : Un fs ex H H h h' :=
  ⟨fun b ob q _ _ _ => k b ob q, fun b ob q _ _ _ => ⟨ob.slots, k b ob q⟩, fun _ _ _ n _ => n, fun b ob q _ => ⟨ob, k b ob q⟩, fun _ _ q => q, fun _ _ _ q => q, fun _ ps q => ⟨#[], by rw [q]; simp⟩⟩
theorem Un.refl : Un fs ex H H h h := Un.kept fun _ _ q => q
theorem Un.laid (k : ∀ b u, h.get? b = some u → h'.get? b = some u) (hp : h.objs.size ≤ a) (hn : H a = none) : Un fs ex H (upd H a o) h h' where
  keep := fun b u q _ _ _ => k b u q
  slot := fun b u q _ _ _ => ⟨u.slots, k b u q⟩
  free := fun b u q n _ => by rw [upd_ne (Nat.ne_of_lt (Nat.lt_of_lt_of_le (Heap.lt_size q) hp))]; exact n
  there := fun b u q _ => ⟨u, k b u q⟩
  tups := fun b xs q => by rw [upd_ne (ne_of_none q hn)]; exact q
  frzs := fun b u xs q => by rw [upd_ne (ne_of_none q hn)]; exact q
  tbls := fun b ps q => ⟨#[], by rw [upd_ne (ne_of_none q hn), q]; simp⟩
theorem Un.write (mu : Mut (H x)) (he : e = x ∨ H e = some (.own x)) (k : ∀ b u, b ≠ e → h.get? b = some u → h'.get? b = some u) (heo : ∃ u, h'.get? e = some u) : Un fs ex H (upd H x o) h h' := by
  have hx : ∀ b, H b = none → b ≠ x := fun b n z => by subst z; rw [n] at mu; exact mu
  have hb : ∀ b, H b = none → b ≠ e := fun b n z => by
    subst z
    rcases he with r | r
    · exact hx b n r
    · rw [n] at r; cases r
  have hm : ∀ b u, H b = some u → ¬ Mut (some u) → b ≠ x := fun b u q nm z => by subst z; rw [q] at mu; exact nm mu
  refine ⟨fun b u q n _ _ => k b u (hb b n) q, fun b u q n _ _ => ⟨u.slots, k b u (hb b n) q⟩, fun b u q n _ => by rw [upd_ne (hx b n)]; exact n, fun b u q _ => ?_,
    fun b xs q => by rw [upd_ne (hm b _ q fun z => z)]; exact q, fun b u xs q => by rw [upd_ne (hm b _ q fun z => z)]; exact q, fun b ps q => ⟨#[], by rw [upd_ne (hm b _ q fun z => z), q]; simp⟩⟩
  by_cases hbe : b = e
  · subst hbe; exact heo
  · exact ⟨u, k b u hbe q⟩
theorem Un.mono (u : Un fs ex H H1 h h1) (hs : ∀ b ∈ fs, b ∈ fs') (hx : ∀ b ∈ ex, b ∈ ex') : Un fs' ex' H H1 h h1 :=
  ⟨fun b ob q n hb he => u.keep b ob q n (fun z => hb (hs b z)) fun z => he (hx b z), fun _ _ q n _ he => u.any q n fun z => he (hx _ z), fun b ob q n he => u.free b ob q n fun z => he (hx b z), fun b ob q he => u.there b ob q fun z => he (hx b z), u.tups, u.frzs, u.tbls⟩
end
noncomputable def trk (h : Heap) (H : Hp) : List Addr := (List.range h.objs.size).filter fun a => (H a).isSome
noncomputable def hidT (h : Heap) (H : Hp) : Heap := PySem.W.hideAll h (trk h H)
theorem hidT_size (h : Heap) (H : Hp) : (hidT h H).objs.size = h.objs.size := PySem.W.hideAll_size _ _
theorem hidT_get {h : Heap} {H : Hp} {b : Addr} {o : Obj} (e : h.get? b = some o) (n : H b = none) : (hidT h H).get? b = some o :=
  PySem.W.hideAll_get _ e fun hm => by
    have q : (H b).isSome = true := (List.mem_filter.mp hm).2
    rw [n] at q; simp at q
theorem of_hidT {h : Heap} {H : Hp} {b : Addr} {o : Obj} (e : (hidT h H).get? b = some o) : h.get? b = some o ∧ H b = none := by
  have e' : h.get? b = some o := PySem.W.of_hideAll (trk h H) e
  refine ⟨e', ?_⟩
  cases q : H b with
  | none => rfl
  | some x =>
    have hm : b ∈ trk h H := List.mem_filter.mpr ⟨List.mem_range.mpr (Heap.lt_size e'), by simp [q]⟩
    have z : (hidT h H).get? b = none := PySem.W.hideAll_none (trk h H) hm
    rw [z] at e; cases e
noncomputable def allNews (g h : Heap) (L : Addr) : List (Addr × Obj) := (List.range h.objs.size).filterMap fun a => if a = L ∨ (g.get? a).isSome = true then none else (h.get? a).map fun o => (a, o)
noncomputable def rest (g h : Heap) (L d : Addr) : List (Addr × Obj) := (allNews g h L).filter fun p => decide (p.1 ≠ d)
end L2
namespace L2
open PySem PySem.Spec PyProof.Rows
structure Mod (K : PySem.W.Frag) (mg : Str → Option Value) (base : Heap) : Prop where
  kin : K.In base
  glob : base.Ns mainGlobals mg
  blt : ∃ mb, base.Ns builtinsNs mb ∧ ∀ x : Str, x ≠ "__name__" → mb x = bootBuiltins x
  nolimit : base.NoLimit
structure Cx where
  prog : Program
  w : World
  K : PySem.W.Frag
  mg : Str → Option Value
  base : Heap
  A : Around
  N : List Str
  s₀ : Shared
  H₀ : Hp
  env : Env
  outer : List Env
  stack : List Env
  ex : List Addr
  fn : Str → Bool
  calm : Bool
  pn : List (Addr × Obj)
  xe : Value → Shared → Prop
noncomputable def frs (l : List Env) : List Addr := l.filterMap (·.frame)
noncomputable abbrev Cx.fs (X : Cx) : List Addr := frs X.outer
noncomputable def Vis (sc : Scope) (x : Str) : Prop := sc.names.lookup x = some .local ∨ sc.names.lookup x = some .cell ∨ sc.names.lookup x = some .free
noncomputable def Loc (sc : Scope) (x : Str) : Prop := sc.names.lookup x = some .local ∨ sc.names.lookup x = some .cell
noncomputable def Look (env : Env) (h : Heap) (m : Str → Option Value) (x : Str) (u : Value) : Prop :=
  (env.kindOf x = some .local ∧ m x = some u) ∨ ((env.kindOf x = some .cell ∨ env.kindOf x = some .free) ∧ ∃ c, env.cells.lookup x = some c ∧ h.IsCell c (some u))
structure Cx.Ok (X : Cx) : Prop where
  mod : Mod X.K X.mg X.base
  kind : X.env.scope.kind = .function
  glob : X.env.globals = mainGlobals
  blt : X.env.builtins = builtinsNs
  above : X.s₀.heap.objs.size ≤ X.env.locals
  inj : ∀ x y c, X.env.cells.lookup x = some c → X.env.cells.lookup y = some c → x = y
  has : ∀ x, (X.env.kindOf x = some .cell ∨ X.env.kindOf x = some .free) → ∃ c, X.env.cells.lookup x = some c
  cab : ∀ x c, X.fn x = true → X.env.cells.lookup x = some c → X.s₀.heap.objs.size ≤ c
  hd : X.calm = true → X.A.handled = none
  frames : X.A.frames = some X.stack
  stk : X.stack = X.outer ∨ (X.stack = X.env :: X.outer ∧ X.env.frame = some X.env.locals)
  exf : ∀ b ∈ X.ex, b ≠ X.env.locals ∧ ∀ x c, X.env.cells.lookup x = some c → c ≠ b
  bs : ∀ b o, X.base.get? b = some o → X.s₀.heap.get? b = some o ∧ X.H₀ b = none
  bsz : X.base.objs.size ≤ X.s₀.heap.objs.size
  noex : ∀ b o, X.base.get? b = some o → b ∉ X.ex
  exfs : ∀ b ∈ X.ex, b ∉ X.fs
  funs : X.s₀.heap.FunFrames X.base X.outer
  frf : ∀ b ∈ X.fs, X.H₀ b = none
structure Inv (X : Cx) (pins : List (Addr × Obj)) (σ : List (Option V)) (H : Hp) (s : Shared) : Prop where
  ok : X.Ok
  os : s.os = X.s₀.os
  bare : AllBare s.gens
  base : Un X.fs X.ex X.H₀ H X.s₀.heap s.heap
  loc : ∃ m, s.heap.Ns X.env.locals m ∧ ∀ (i : Nat) (x : Str) (v : V), X.N[i]? = some x → σ[i]? = some (some v) → Vis X.env.scope x → ∃ u, RelV v u ∧ Look X.env s.heap m x u
  cell : ∀ x c, X.env.cells.lookup x = some c → ∃ v, s.heap.IsCell c v
  free : H X.env.locals = none
  freeC : ∀ x c, X.env.cells.lookup x = some c → H c = none
  pin : ∀ p ∈ X.pn ++ pins, s.heap.get? p.1 = some p.2 ∧ H p.1 = none ∧ p.1 ≠ X.env.locals ∧ p.1 ∉ X.fs ∧ ∀ v, p.2.data ≠ .cell v
  hok : HOk X.prog X.w H s.heap
  len : σ.length = X.N.length
section
variable {X : Cx} {pins : List (Addr × Obj)} {σ : List (Option V)} {H H' : Hp} {s : Shared} {h' : Heap}
theorem Cx.Ok.nofr (ok : X.Ok) {b : Addr} {o : Obj} (e : X.base.get? b = some o) : b ∉ X.fs := fun hb => by
  have := (ok.funs.mem hb).1
  rw [e] at this; cases this
theorem Inv.bs (I : Inv X pins σ H s) : ∀ b o, X.base.get? b = some o → s.heap.get? b = some o ∧ H b = none := fun b o e =>
  ⟨I.base.keep b o (I.ok.bs b o e).1 (I.ok.bs b o e).2 (I.ok.nofr e) (I.ok.noex b o e), I.base.free b o (I.ok.bs b o e).1 (I.ok.bs b o e).2 (I.ok.noex b o e)⟩
theorem Inv.bk (I : Inv X pins σ H s) : ∀ b o, X.base.get? b = some o → s.heap.get? b = some o := fun b o e => (I.bs b o e).1
theorem Inv.mod (I : Inv X pins σ H s) : Mod X.K X.mg X.base := I.ok.mod
theorem Inv.kIn (I : Inv X pins σ H s) : X.K.In s.heap := I.ok.mod.kin.keeps I.bk
theorem Inv.nolimit (I : Inv X pins σ H s) : s.heap.NoLimit := I.ok.mod.nolimit.keeps I.bk
theorem Inv.fr (I : Inv X pins σ H s) : ∃ m, Fr X.base X.env.locals s.heap m :=
  let ⟨m, hn, _⟩ := I.loc
  ⟨m, hn, I.bk, Nat.le_trans I.ok.bsz I.ok.above⟩
theorem Inv.lt (I : Inv X pins σ H s) : X.env.locals < s.heap.objs.size := let ⟨_, hn, _⟩ := I.loc; hn.lt
theorem Inv.sz (I : Inv X pins σ H s) : X.s₀.heap.objs.size ≤ s.heap.objs.size := Nat.le_trans I.ok.above (Nat.le_of_lt I.lt)
theorem Inv.nofs (I : Inv X pins σ H s) {a : Addr} (h : s.heap.objs.size ≤ a) : a ∉ X.fs := fun hb => by
  obtain ⟨_, o, ho, _⟩ := I.ok.funs.mem hb
  exact absurd (Nat.lt_of_lt_of_le (Heap.lt_size ho) (Nat.le_trans I.sz h)) (Nat.lt_irrefl _)
theorem Inv.cne (I : Inv X pins σ H s) : ∀ x c, X.env.cells.lookup x = some c → c ≠ X.env.locals := fun x c e z => by
  obtain ⟨v, o, ho, hd⟩ := I.cell x c e
  obtain ⟨m, ⟨o', es, ep, ho', hd', _⟩, _⟩ := I.loc
  rw [z, ho'] at ho; cases ho; rw [hd'] at hd; cases hd
theorem Inv.funs (I : Inv X pins σ H s) : s.heap.FunFrames X.base X.outer := by
  have all : ∀ (l : List Env), (∀ b ∈ frs l, b ∈ X.fs) → X.s₀.heap.FunFrames X.base l → s.heap.FunFrames X.base l := by
    intro l
    induction l with
    | nil => intro _ _; trivial
    | cons env r ih =>
      intro hs hl
      obtain ⟨hk, ⟨L, o, hf, hn, ho, hd⟩, hr⟩ := hl
      have hL : L ∈ X.fs := hs L (by unfold frs; rw [List.filterMap_cons, hf]; exact List.mem_cons_self)
      obtain ⟨sl, e⟩ := I.base.slot L o ho (I.ok.frf L hL) hL fun z => I.ok.exfs L z hL
      exact ⟨hk, ⟨L, _, hf, hn, e, hd⟩, ih (fun b hb => hs b (by unfold frs; rw [List.filterMap_cons, hf]; exact List.mem_cons_of_mem _ hb)) hr⟩
  exact all X.outer (fun _ hb => hb) I.ok.funs
theorem Inv.stack (I : Inv X pins σ H s) : s.heap.FunFrames X.base X.stack := by
  rcases I.ok.stk with e | ⟨e, hf⟩
  · rw [e]; exact I.funs
  · rw [e]
    obtain ⟨m, hn, _⟩ := I.loc
    refine .cons (by rw [I.ok.kind]; decide) hf hn ?_ I.funs
    exact Heap.get?_none_of_le (Nat.le_trans I.ok.bsz I.ok.above)
theorem Inv.stkSub (I : Inv X pins σ H s) : ∀ b ∈ frs X.stack, b ∈ X.env.locals :: X.fs := fun b hb => by
  rcases I.ok.stk with e | ⟨e, hf⟩
  · rw [e] at hb; exact List.mem_cons_of_mem _ hb
  · rw [e] at hb
    unfold frs at hb
    rw [List.filterMap_cons, hf] at hb
    exact hb
theorem Inv.stkFree (I : Inv X pins σ H s) : ∀ b ∈ frs X.stack, H b = none := fun b hb => by
  rcases List.mem_cons.mp (I.stkSub b hb) with e | hb
  · rw [e]; exact I.free
  · obtain ⟨_, o, ho, _⟩ := I.ok.funs.mem hb
    exact I.base.free b o ho (I.ok.frf b hb) fun z => I.ok.exfs b z hb
theorem Inv.step {g' : Array GenState} {t' : Nat} {d' : Drawn} {ch : List Addr} (I : Inv X pins σ H s)
    (hch : ∀ b ∈ ch, (b ∈ X.ex ∨ X.s₀.heap.objs.size ≤ b) ∧ b ≠ X.env.locals ∧ (∀ x c, X.env.cells.lookup x = some c → c ≠ b) ∧ ∀ p ∈ X.pn ++ pins, p.1 ≠ b)
    (keep : ∀ b o, b ≠ X.env.locals → b ∉ X.fs → b ∉ ch → s.heap.get? b = some o → H b = none → h'.get? b = some o)
    (slot : ∀ b o, b ≠ X.env.locals → b ∈ X.fs → b ∉ ch → s.heap.get? b = some o → H b = none → ∃ sl, h'.get? b = some { o with slots := sl }) (free : ∀ b o, b ∉ ch → s.heap.get? b = some o → H b = none → H' b = none)
    (there : ∀ b o, b ∉ ch → s.heap.get? b = some o → ∃ o', h'.get? b = some o')
    (tups : ∀ b xs, H b = some (.tup xs) → H' b = some (.tup xs)) (frzs : ∀ b o u, H b = some (.frz o u) → H' b = some (.frz o u)) (tbls : ∀ b ps, H b = some (.tbl ps) → ∃ more, H' b = some (.tbl (ps ++ more)))
    (ns : ∀ m, s.heap.Ns X.env.locals m → h'.Ns X.env.locals m) (hok : HOk X.prog X.w H' h') (hg : AllBare g') :
    Inv X pins σ H' { s with heap := h', gens := g', drawn := d', toks := t' } := by
  have neL : ∀ b o, X.s₀.heap.get? b = some o → b ≠ X.env.locals := fun b o e => Nat.ne_of_lt (Nat.lt_of_lt_of_le (Heap.lt_size e) I.ok.above)
  have neC : ∀ b o, X.s₀.heap.get? b = some o → b ∉ X.ex → b ∉ ch := fun b o e hx hb => by
    rcases (hch b hb).1 with z | z
    · exact hx z
    · exact absurd (Nat.lt_of_lt_of_le (Heap.lt_size e) z) (Nat.lt_irrefl _)
  have cellK : ∀ x c, X.env.cells.lookup x = some c → ∀ v, s.heap.IsCell c v → h'.IsCell c v := fun x c e v ⟨o, ho, hd⟩ => by
    have nch : c ∉ ch := fun z => (hch c z).2.2.1 x c e rfl
    by_cases hc : c ∈ X.fs
    · obtain ⟨sl, q⟩ := slot c o (I.cne x c e) hc nch ho (I.freeC x c e)
      exact ⟨_, q, hd⟩
    · exact ⟨o, keep c o (I.cne x c e) hc nch ho (I.freeC x c e), hd⟩
  refine ⟨I.ok, I.os, hg, ⟨fun b o e n hb hx => ?_, fun b o e n hb hx => ?_, fun b o e n hx => ?_, fun b o e hx => ?_, fun b xs e => tups b xs (I.base.tups b xs e), fun b o xs e => frzs b o xs (I.base.frzs b o xs e), fun b ps e => ?_⟩, ?_, fun x c e => ?_, ?_, fun x c e => ?_, fun p hp => ?_, hok, I.len⟩
  · exact keep b o (neL b o e) hb (neC b o e hx) (I.base.keep b o e n hb hx) (I.base.free b o e n hx)
  · obtain ⟨sl, e1⟩ := I.base.slot b o e n hb hx
    obtain ⟨sl', e2⟩ := slot b _ (neL b o e) hb (neC b o e hx) e1 (I.base.free b o e n hx)
    exact ⟨sl', e2⟩
  · obtain ⟨o', e1⟩ := I.base.there b o e hx
    exact free b o' (neC b o e hx) e1 (I.base.free b o e n hx)
  · obtain ⟨o', e1⟩ := I.base.there b o e hx
    exact there b o' (neC b o e hx) e1
  · obtain ⟨m1, e1⟩ := I.base.tbls b ps e
    obtain ⟨m2, e2⟩ := tbls b _ e1
    exact ⟨m1 ++ m2, by rw [e2, Array.append_assoc]⟩
  · obtain ⟨m, hn, hl⟩ := I.loc
    refine ⟨m, ns m hn, fun i x v e1 e2 e3 => ?_⟩
    obtain ⟨u, r, l⟩ := hl i x v e1 e2 e3
    refine ⟨u, r, ?_⟩
    rcases l with l | ⟨k, c, e, z⟩
    · exact .inl l
    · exact .inr ⟨k, c, e, cellK x c e _ z⟩
  · obtain ⟨v, z⟩ := I.cell x c e
    exact ⟨v, cellK x c e v z⟩
  · obtain ⟨m, ⟨o, _, _, ho, _⟩, _⟩ := I.loc
    exact free _ o (fun z => (hch _ z).2.1 rfl) ho I.free
  · obtain ⟨v, o, ho, hd⟩ := I.cell x c e
    exact free c o (fun z => (hch c z).2.2.1 x c e rfl) ho (I.freeC x c e)
  · obtain ⟨e, n, ne, nf, d⟩ := I.pin p hp
    have nch : p.1 ∉ ch := fun z => (hch p.1 z).2.2.2 p hp rfl
    exact ⟨keep p.1 p.2 ne nf nch e n, free p.1 p.2 nch e n, ne, nf, d⟩
theorem Inv.un {t' : Nat} (I : Inv X pins σ H s) (u : Un X.fs [] H H' s.heap h') (hok : HOk X.prog X.w H' h') : Inv X pins σ H' { s with heap := h', toks := t' } := by
  obtain ⟨m, ⟨o, es, ep, ho, r⟩, _⟩ := id I.loc
  obtain ⟨sl, hL⟩ := u.any ho I.free (by simp)
  exact I.step (g' := s.gens) (d' := s.drawn) (ch := []) (fun _ z => nomatch z) (fun b o _ hb _ e n => u.keep b o e n hb (by simp)) (fun b o _ hb _ e n => u.slot b o e n hb (by simp)) (fun b o _ e n => u.free b o e n (by simp)) (fun b o _ e => u.there b o e (by simp)) u.tups u.frzs u.tbls (fun m' hm => by
    obtain ⟨o', es', ep', ho', r'⟩ := hm
    rw [ho] at ho'; cases ho'
    exact ⟨_, es', ep', hL, r'⟩) hok I.bare
theorem Inv.call {g' : Array GenState} {t' : Nat} {d' : Drawn} {ch : List Addr} (I : Inv X pins σ H s) (u : Un (frs X.stack) ch H H' s.heap h') (hok : HOk X.prog X.w H' h') (hg : AllBare g')
    (hch : ∀ b ∈ ch, (b ∈ X.ex ∨ X.s₀.heap.objs.size ≤ b) ∧ b ≠ X.env.locals ∧ (∀ x c, X.env.cells.lookup x = some c → c ≠ b) ∧ ∀ p ∈ X.pn ++ pins, p.1 ≠ b) :
    Inv X pins σ H' { s with heap := h', gens := g', drawn := d', toks := t' } := by
  obtain ⟨m, ⟨o, es, ep, ho, r⟩, _⟩ := id I.loc
  obtain ⟨sl, hL⟩ := u.any ho I.free fun z => (hch _ z).2.1 rfl
  exact I.step (ch := ch) hch (fun b o hL hb hc e n => u.keep b o e n (fun z => (List.mem_cons.mp (I.stkSub b z)).elim hL hb) hc) (fun b o _ _ hc e n => u.any e n hc) (fun b o hc e n => u.free b o e n hc) (fun b o hc e => u.there b o e hc) u.tups u.frzs u.tbls (fun m' hm => by
    obtain ⟨o', es', ep', ho', r'⟩ := hm
    rw [ho] at ho'; cases ho'
    exact ⟨_, es', ep', hL, r'⟩) hok hg
theorem Inv.turned {t' : Nat} {it : Addr} (I : Inv X pins σ H s) (k : ∀ b o, b ≠ it → s.heap.get? b = some o → h'.get? b = some o) (hn : H it = none) (hL : it ≠ X.env.locals)
    (h1 : it ∈ X.ex ∨ X.s₀.heap.objs.size ≤ it) (h2 : ∀ x c, X.env.cells.lookup x = some c → c ≠ it) (h3 : ∀ p ∈ X.pn ++ pins, p.1 ≠ it) : Inv X pins σ H { s with heap := h', toks := t' } := by
  have nit : ∀ b u, H b = some u → b ≠ it := fun b u e z => by rw [z, hn] at e; cases e
  refine I.step (g' := s.gens) (d' := s.drawn) (ch := [it]) (fun b hb => ?_) (fun b o _ _ hc e _ => k b o (fun z => hc (by simp [z])) e) (fun b o _ _ hc e _ => ⟨o.slots, k b o (fun z => hc (by simp [z])) e⟩) (fun _ _ _ _ n => n)
    (fun b o hc e => ⟨o, k b o (fun z => hc (by simp [z])) e⟩) (fun _ _ e => e) (fun _ _ _ e => e) (fun b ps e => ⟨#[], by rw [e]; simp⟩) (fun m hm => ?_) (fun b u e => ?_) I.bare
  · have e : b = it := by simpa using hb
    subst e
    exact ⟨h1, hL, h2, h3⟩
  · obtain ⟨o, es, ep, ho, r⟩ := hm
    exact ⟨o, es, ep, k _ o (Ne.symm hL) ho, r⟩
  · refine (I.hok b u e).stay (fun c v hc q => k c v ?_ q) (fun _ q => q) fun _ _ q => q
    rcases hc with z | z
    · rw [z]; exact nit b u e
    · exact nit c _ z
theorem Inv.tok (I : Inv X pins σ H s) (t : Nat) : Inv X pins σ H { s with toks := t } := I.un (h' := s.heap) (t' := t) Un.refl I.hok
theorem Inv.kept {t' : Nat} (I : Inv X pins σ H s) (k : ∀ b u, s.heap.get? b = some u → h'.get? b = some u) : Inv X pins σ H { s with heap := h', toks := t' } := I.un (Un.kept k) (I.hok.kept k)
theorem Inv.laid {a : Addr} {o : HO} {t' : Nat} (I : Inv X pins σ H s) (k : ∀ b u, s.heap.get? b = some u → h'.get? b = some u) (hp : s.heap.objs.size ≤ a) (new : ObjOk X.prog X.w (upd H a o) h' a o) :
    Inv X pins σ (upd H a o) { s with heap := h', toks := t' } := I.un (Un.laid k hp (I.hok.fresh hp)) (I.hok.laid k hp new)
theorem Inv.write {x e : Addr} {o : HO} {t' : Nat} (I : Inv X pins σ H s) (mu : Mut (H x)) (he : e = x ∨ H e = some (.own x)) (k : ∀ b u, b ≠ e → s.heap.get? b = some u → h'.get? b = some u) (heo : ∃ u, h'.get? e = some u)
    (new : ObjOk X.prog X.w (upd H x o) h' x o) : Inv X pins σ (upd H x o) { s with heap := h', toks := t' } := I.un (Un.write mu he k heo) (I.hok.write mu he k heo new)
theorem Inv.pins_of {pins' : List (Addr × Obj)} (I : Inv X pins σ H s) (h : ∀ p ∈ pins', s.heap.get? p.1 = some p.2 ∧ H p.1 = none ∧ p.1 ≠ X.env.locals ∧ p.1 ∉ X.fs ∧ ∀ v, p.2.data ≠ .cell v) : Inv X pins' σ H s :=
  ⟨I.ok, I.os, I.bare, I.base, I.loc, I.cell, I.free, I.freeC, fun p hp => (List.mem_append.mp hp).elim (fun z => I.pin p (List.mem_append_left _ z)) (h p), I.hok, I.len⟩
theorem nodup_ix {N : List Str} (hN : N.Nodup) {i j : Nat} {x : Str} (a : N[i]? = some x) (b : N[j]? = some x) : i = j := by
  obtain ⟨h1, e1⟩ := List.getElem?_eq_some_iff.mp a
  obtain ⟨h2, e2⟩ := List.getElem?_eq_some_iff.mp b
  exact (List.getElem_inj hN).mp (e1.trans e2.symm)
theorem store_ok2 {M : Model} {A : Around} {E : Value → Shared → Prop} {i : Nat} {x : Str} {v : V} {u : Value} {Q : Unit → Shared → Prop} (I : Inv X pins σ H s) (hN : X.N.Nodup) (hi : X.N[i]? = some x) (hx : Loc X.env.scope x) (r : RelV v u)
    (h : ∀ s', Inv X pins (σ.set i (some v)) H s' → (∃ a, Heap.SameBut a s.heap s'.heap ∧ (a = X.env.locals ∨ X.env.cells.lookup x = some a)) → Q () s') (hf : X.fn x = true ∨ X.env.scope.names.lookup x = some .local := by first | exact .inl rfl | exact .inr rfl | assumption) : wpAny M A (storeName X.env x u) Q E s := by
  obtain ⟨m, hn, hl⟩ := id I.loc
  have hcls : (X.env.scope.kind == .class || (X.env.scope.kind == .module && X.env.locals != X.env.globals)) = false := by rw [I.ok.kind]; rfl
  have hiσ : i < σ.length := by rw [I.len]; exact (List.getElem?_eq_some_iff.mp hi).1
  have cne := I.cne
  have tracked : ∀ {a : Addr} {h' : Heap}, (∃ o, s.heap.get? a = some o ∧ H a = none) → Heap.SameBut a s.heap h' → HOk X.prog X.w H h' := fun {a h'} ha hs b ob e => by
    obtain ⟨_, _, hfree⟩ := ha
    refine (I.hok b ob e).stay (fun c w' hc q => (hs.2 c ?_).trans q) (fun _ q => q) fun _ _ q => q
    rintro rfl
    rcases hc with rfl | hc
    · rw [hfree] at e; cases e
    · rw [hfree] at hc; cases hc
  rcases hx with hk | hk
  · refine wpAny_storeName_local hk hn (fun h' hn' hs => ?_) hcls
    obtain ⟨oL, _, _, hoL, _⟩ := id hn
    refine h _ ⟨I.ok, I.os, I.bare, ⟨fun b o e n hb hx => ?_, fun b o e n hb hx => ?_, I.base.free, fun b o e hx => ?_, I.base.tups, I.base.frzs, I.base.tbls⟩, ⟨_, hn', fun j y v' e1 e2 e3 => ?_⟩, fun y c e => ?_, I.free, I.freeC, fun p hp => ?_, tracked ⟨oL, hoL, I.free⟩ hs, by simpa using I.len⟩ ⟨_, hs, .inl rfl⟩
    · exact (hs.2 b (Nat.ne_of_lt (Nat.lt_of_lt_of_le (Heap.lt_size e) I.ok.above))).trans (I.base.keep b o e n hb hx)
    · obtain ⟨sl, e1⟩ := I.base.slot b o e n hb hx
      exact ⟨sl, (hs.2 b (Nat.ne_of_lt (Nat.lt_of_lt_of_le (Heap.lt_size e) I.ok.above))).trans e1⟩
    · obtain ⟨o', e1⟩ := I.base.there b o e hx
      exact ⟨o', (hs.2 b (Nat.ne_of_lt (Nat.lt_of_lt_of_le (Heap.lt_size e) I.ok.above))).trans e1⟩
    · by_cases hj : j = i
      · subst hj
        rw [hi] at e1; cases e1
        rw [List.getElem?_set_self hiσ] at e2
        cases e2
        exact ⟨u, r, .inl ⟨hk, by simp⟩⟩
      · rw [List.getElem?_set_ne (Ne.symm hj)] at e2
        obtain ⟨u', r', q⟩ := hl j y v' e1 e2 e3
        refine ⟨u', r', ?_⟩
        rcases q with ⟨k, e⟩ | ⟨k, c, e, z⟩
        · refine .inl ⟨k, ?_⟩
          have : y ≠ x := fun e => hj (nodup_ix hN e1 (e ▸ hi))
          simp [this, e]
        · exact .inr ⟨k, c, e, z.sameBut hs (cne y c e)⟩
    · obtain ⟨w', z⟩ := I.cell y c e
      exact ⟨w', z.sameBut hs (cne y c e)⟩
    · obtain ⟨e, n, ne, nf, d⟩ := I.pin p hp
      exact ⟨(hs.2 p.1 ne).trans e, n, ne, nf, d⟩
  · have hfn : X.fn x = true := by
      rcases hf with z | z
      · exact z
      · rw [z] at hk; cases hk
    obtain ⟨c, hc⟩ := I.ok.has x (.inl hk)
    obtain ⟨w', z⟩ := I.cell x c hc
    refine wpAny_storeName_cell I.ok.kind hk hc z (fun h' hc' hs => ?_)
    obtain ⟨oc, hoc, hocd⟩ := id z
    refine h { s with heap := h' } ⟨I.ok, I.os, I.bare, ⟨fun b o e n hb hx => ?_, fun b o e n hb hx => ?_, I.base.free, fun b o e hx => ?_, I.base.tups, I.base.frzs, I.base.tbls⟩, ⟨m, hn.sameBut hs (Ne.symm (cne x c hc)), fun j y v' e1 e2 e3 => ?_⟩, fun y c' e => ?_, I.free, I.freeC, fun p hp => ?_, tracked ⟨oc, hoc, I.freeC x c hc⟩ hs, by simpa using I.len⟩ ⟨c, hs, .inr hc⟩
    · exact (hs.2 b (Nat.ne_of_lt (Nat.lt_of_lt_of_le (Heap.lt_size e) (I.ok.cab x c hfn hc)))).trans (I.base.keep b o e n hb hx)
    · obtain ⟨sl, e1⟩ := I.base.slot b o e n hb hx
      exact ⟨sl, (hs.2 b (Nat.ne_of_lt (Nat.lt_of_lt_of_le (Heap.lt_size e) (I.ok.cab x c hfn hc)))).trans e1⟩
    · obtain ⟨o', e1⟩ := I.base.there b o e hx
      exact ⟨o', (hs.2 b (Nat.ne_of_lt (Nat.lt_of_lt_of_le (Heap.lt_size e) (I.ok.cab x c hfn hc)))).trans e1⟩
    · by_cases hj : j = i
      · subst hj
        rw [hi] at e1; cases e1
        rw [List.getElem?_set_self hiσ] at e2
        cases e2
        exact ⟨u, r, .inr ⟨.inl hk, c, hc, hc'⟩⟩
      · rw [List.getElem?_set_ne (Ne.symm hj)] at e2
        obtain ⟨u', r', q⟩ := hl j y v' e1 e2 e3
        refine ⟨u', r', ?_⟩
        rcases q with q | ⟨k, c', e, z'⟩
        · exact .inl q
        · refine .inr ⟨k, c', e, z'.sameBut hs ?_⟩
          rintro rfl
          exact hj (nodup_ix hN e1 (I.ok.inj _ _ _ e hc ▸ hi))
    · by_cases hcc : c' = c
      · subst hcc; exact ⟨_, hc'⟩
      · obtain ⟨w2, z2⟩ := I.cell y c' e
        exact ⟨w2, z2.sameBut hs hcc⟩
    · obtain ⟨e, n, ne, nf, d⟩ := I.pin p hp
      refine ⟨(hs.2 p.1 ?_).trans e, n, ne, nf, d⟩
      intro q
      rw [q, hoc] at e
      have q' : oc = p.2 := Option.some.inj e
      exact d w' (by rw [← q']; exact hocd)
theorem store_ok {M : Model} {A : Around} {E : Value → Shared → Prop} {i : Nat} {x : Str} {v : V} {u : Value} {Q : Unit → Shared → Prop} (I : Inv X pins σ H s) (hN : X.N.Nodup) (hi : X.N[i]? = some x) (hx : Loc X.env.scope x) (r : RelV v u)
    (h : ∀ s', Inv X pins (σ.set i (some v)) H s' → Q () s') (hf : X.fn x = true ∨ X.env.scope.names.lookup x = some .local := by first | exact .inl rfl | exact .inr rfl | assumption) : wpAny M A (storeName X.env x u) Q E s :=
  store_ok2 I hN hi hx r (fun s' I' _ => h s' I') hf
theorem Inv.call' {s' : Shared} {ch : List Addr} (I : Inv X pins σ H s) (ho : s'.os = s.os) (u : Un (frs X.stack) ch H H' s.heap s'.heap) (hok : HOk X.prog X.w H' s'.heap) (hg : AllBare s'.gens)
    (hch : ∀ b ∈ ch, (b ∈ X.ex ∨ X.s₀.heap.objs.size ≤ b) ∧ b ≠ X.env.locals ∧ (∀ x c, X.env.cells.lookup x = some c → c ≠ b) ∧ ∀ p ∈ X.pn ++ pins, p.1 ≠ b) : Inv X pins σ H' s' := by
  obtain ⟨h', g', d', t', o'⟩ := s'
  have e : o' = s.os := ho
  subst e
  exact I.call (g' := g') (t' := t') (d' := d') u hok hg hch
end
noncomputable abbrev XK := Value → Option Addr → Hp → Prop
noncomputable abbrev St := List (Option V)
noncomputable abbrev VK := V → Hp → Prop
noncomputable abbrev TE := St → Hp → VK → Prop
noncomputable abbrev TT := St → Hp → (Bool → Hp → Prop) → Prop
noncomputable abbrev TA := St → Hp → (List V → Hp → Prop) → Prop
structure Ends where
  nx : St → Hp → Prop
  rt : VK
  bk : St → Hp → Prop := fun _ _ => False
  ct : St → Hp → Prop := fun _ _ => False
noncomputable abbrev TS := Ends → St → Hp → Prop
noncomputable def EP (X : Cx) (pins : List (Addr × Obj)) (σ : St) (Q : VK) (u : Value) (s' : Shared) : Prop := ∃ v H', Inv X pins σ H' s' ∧ RelV v u ∧ Q v H'
noncomputable def TP (X : Cx) (pins : List (Addr × Obj)) (σ : St) (Q : Bool → Hp → Prop) (b : Bool) (s' : Shared) : Prop := ∃ H', Inv X pins σ H' s' ∧ Q b H'
noncomputable def AP (X : Cx) (pins : List (Addr × Obj)) (σ : St) (Q : List V → Hp → Prop) (us : List Value) (s' : Shared) : Prop := ∃ vs H', Inv X pins σ H' s' ∧ Vals vs us ∧ Q vs H'
noncomputable def SP (X : Cx) (pins : List (Addr × Obj)) (D : Ends) (f : Flow) (s' : Shared) : Prop :=
  match f with
  | .next => ∃ σ' H', Inv X pins σ' H' s' ∧ D.nx σ' H'
  | .brk => ∃ σ' H', Inv X pins σ' H' s' ∧ D.bk σ' H'
  | .cont => ∃ σ' H', Inv X pins σ' H' s' ∧ D.ct σ' H'
  | .ret u => ∃ v σ' H', Inv X pins σ' H' s' ∧ RelV v u ∧ D.rt v H'
noncomputable def PE (X : Cx) (e : Expr) (t : TE) : Prop :=
  ∀ (pins : List (Addr × Obj)) (s : Shared) (σ : St) (H : Hp) (Q : VK), Inv X pins σ H s → t σ H Q → wpAny (model X.prog X.w) X.A (eval e X.env) (EP X pins σ Q) X.xe s
noncomputable def PT (X : Cx) (e : Expr) (t : TT) : Prop :=
  ∀ (pins : List (Addr × Obj)) (s : Shared) (σ : St) (H : Hp) (Q : Bool → Hp → Prop), Inv X pins σ H s → t σ H Q → wpAny (model X.prog X.w) X.A (isTrue e X.env (eval e X.env)) (TP X pins σ Q) X.xe s
noncomputable def PW (X : Cx) (e : Expr) (t : TT) : Prop :=
  ∀ (whole : Sem Value) (pins : List (Addr × Obj)) (s : Shared) (σ : St) (H : Hp) (Q : Bool → Hp → Prop), Inv X pins σ H s → t σ H Q → wpAny (model X.prog X.w) X.A (isTrue e X.env whole) (TP X pins σ Q) X.xe s
theorem PW.pt {X : Cx} {e : Expr} {t : TT} (h : PW X e t) : PT X e t := h _
noncomputable def PA (X : Cx) (es : List Expr) (t : TA) : Prop :=
  ∀ (pos : Pos) (pins : List (Addr × Obj)) (s : Shared) (σ : St) (H : Hp) (Q : List V → Hp → Prop), Inv X pins σ H s → t σ H Q → wpAny (model X.prog X.w) X.A (spliced (backTo pos (starEach es X.env))) (AP X pins σ Q) X.xe s
noncomputable def PS (X : Cx) (st : Stmt) (t : TS) : Prop :=
  ∀ (pins : List (Addr × Obj)) (s : Shared) (σ : St) (H : Hp) (D : Ends), Inv X pins σ H s → t D σ H → wpAny (model X.prog X.w) X.A (exec st X.env) (SP X pins D) X.xe s
noncomputable def PSs (X : Cx) (st : List Stmt) (t : TS) : Prop :=
  ∀ (pins : List (Addr × Obj)) (s : Shared) (σ : St) (H : Hp) (D : Ends), Inv X pins σ H s → t D σ H → wpAny (model X.prog X.w) X.A (execs st X.env) (SP X pins D) X.xe s
theorem thn {α : Type} {t : Sem α} {Q Q' : α → Shared → Prop} {M : Model} {A : Around} {E : Value → Shared → Prop} {s : Shared} (h : wpAny M A t Q E s) (hQ : ∀ a s, Q a s → Q' a s) : wpAny M A t Q' E s := wpAny_mono h hQ fun _ _ x => x
end L2
namespace L2
open PySem PySem.Spec PyProof.Rows
section
variable {X : Cx}
noncomputable def tVar (i : Nat) : TE := fun σ H Q => ∃ v, σ[i]? = some (some v) ∧ Q v H
noncomputable def tC (v : V) : TE := fun _ H Q => Q v H
theorem pe_var {i : Nat} {x : Str} {pos : Pos} (hN : X.N[i]? = some x) (hv : Vis X.env.scope x) (hd : (x == ("__debug__" : Str)) = false := by decide) (hcd : (x == ("__classdict__" : Str)) = false := by decide) : PE X (.Name x pos) (tVar i) := by
  intro pins s σ H Q I h
  obtain ⟨v, e, h⟩ := h
  obtain ⟨m, hn, hl⟩ := I.loc
  obtain ⟨u, r, l⟩ := hl i x v hN e hv
  have fin : EP X pins σ Q u s := ⟨v, H, I, r, h⟩
  rcases l with ⟨hk, hm⟩ | ⟨hk, c, hc, hcell⟩
  · exact wpAny_Name (wpAny_loadName_local I.ok.kind hk hn hm fin) hd
  · rcases hk with hk | hk
    · exact wpAny_Name (wpAny_loadName_cell I.ok.kind hk hc hcell fin) hd
    · exact wpAny_Name (wpAny_loadName_free I.ok.kind hk hc hcell fin hcd) hd
theorem pe_int {i j pos} : PE X (.Constant (.int i) j pos) (tC (.int i)) := fun _ _ _ H _ I h => wpAny_Constant_int ⟨.int i, H, I.tok _, ⟨_, rfl⟩, h⟩
theorem pe_bl {b j pos} : PE X (.Constant (.bool b) j pos) (tC (.bl b)) := fun _ _ _ H _ I h => Constant_bool ⟨.bl b, H, I, rfl, h⟩
theorem pe_non {j pos} : PE X (.Constant .none j pos) (tC .non) := fun _ _ _ H _ I h => Constant_none ⟨.non, H, I, rfl, h⟩
theorem pe_str {x j pos} : PE X (.Constant (.str x) j pos) (tC (.str x)) := fun _ _ _ H _ I h => Calls.Constant_str ⟨.str x, H, I.tok _, ⟨_, rfl⟩, h⟩
noncomputable def Gl (X : Cx) (x : Str) : Prop := X.env.kindOf x = some .globalImplicit
theorem ld_glob {E : Value → Shared → Prop} {pins : List (Addr × Obj)} {s : Shared} {σ : St} {H : Hp} {x : Str} {u : Value} {pos : Pos} {Q : Value → Shared → Prop} (I : Inv X pins σ H s) (hg : Gl X x) (hm : X.mg x = some u) (h : Q u s)
    (hd : (x == ("__debug__" : Str)) = false := by decide) : wpAny (model X.prog X.w) X.A (eval (.Name x pos) X.env) Q E s :=
  Calls.Name_function_global I.ok.kind hg (Calls.loadGlobal_global (by rw [I.ok.glob]; exact I.mod.glob.keeps I.bk) hm h) hd
theorem ld_blt {E : Value → Shared → Prop} {pins : List (Addr × Obj)} {s : Shared} {σ : St} {H : Hp} {x : Str} {u : Value} {pos : Pos} {Q : Value → Shared → Prop} (I : Inv X pins σ H s) (hg : Gl X x) (hm : X.mg x = none) (hv : bootBuiltins x = some u) (h : Q u s)
    (hn : x ≠ "__name__" := by decide) (hd : (x == ("__debug__" : Str)) = false := by decide) : wpAny (model X.prog X.w) X.A (eval (.Name x pos) X.env) Q E s := by
  obtain ⟨mb, h1, h2⟩ := I.mod.blt
  exact Calls.Name_function_global I.ok.kind hg (Calls.loadGlobal_builtin (by rw [I.ok.glob]; exact I.mod.glob.keeps I.bk) hm (by rw [I.ok.blt]; exact h1.keeps I.bk) ((h2 x hn).trans hv) h) hd
theorem pe_glob {x : Str} {v : V} {u : Value} {pos : Pos} (hg : Gl X x) (hm : X.mg x = some u) (r : RelV v u) (hd : (x == ("__debug__" : Str)) = false := by decide) : PE X (.Name x pos) (tC v) :=
  fun _ _ _ H _ I h => ld_glob I hg hm ⟨v, H, I, r, h⟩ hd
theorem pe_bltn {x : Str} {v : V} {u : Value} {pos : Pos} (hg : Gl X x) (hm : X.mg x = none) (hv : bootBuiltins x = some u) (r : RelV v u) (hn : x ≠ "__name__" := by decide) (hd : (x == ("__debug__" : Str)) = false := by decide) : PE X (.Name x pos) (tC v) :=
  fun _ _ _ H _ I h => ld_blt I hg hm hv ⟨v, H, I, r, h⟩ hn hd
variable {a b : Expr} {ta tb : TE} {pos : Pos}
noncomputable def tB (t : TE) : TT := fun σ H Q => t σ H fun x H1 => ∃ c, x = .bl c ∧ Q c H1
theorem pt_val {e : Expr} {t : TE} (h : PE X e t) (he : ∀ whole, isTrue e X.env whole = (do let v ← whole; standAt e.pos; holding [v] (truthy v)) := by intro _; rfl) : PT X e (tB t) := by
  intro pins s σ H Q I hw
  refine isTrue_plain (thn (h pins s σ H _ I hw) fun v s1 ⟨x, H1, I1, r1, q1⟩ => ?_) (he _)
  obtain ⟨d, rfl, q⟩ := q1
  cases r1
  exact wpAny_truthy_bool ⟨H1, I1, q⟩
variable {tA tB' : TT} {rest : List Expr}
noncomputable def tAnd (t u : TT) : TT := fun σ H Q => t σ H fun c H1 => if c = true then u σ H1 Q else Q false H1
noncomputable def tOr (t u : TT) : TT := fun σ H Q => t σ H fun c H1 => if c = true then Q true H1 else u σ H1 Q
noncomputable def tNot (t : TT) : TT := fun σ H Q => t σ H fun c H1 => Q (!c) H1
theorem pw_and1 (ha : PT X a tA) : PW X (.BoolOp .And [a] pos) tA := by
  intro wh pins s σ H Q I h
  refine isTrue_and (thn (ha pins s σ H Q I h) fun c s1 e => ?_)
  cases c with
  | true => exact isTrue_and_nil e
  | false => exact e
theorem pw_or1 (ha : PT X a tA) : PW X (.BoolOp .Or [a] pos) tA := by
  intro wh pins s σ H Q I h
  refine isTrue_or (thn (ha pins s σ H Q I h) fun c s1 e => ?_)
  cases c with
  | false => exact isTrue_or_nil e
  | true => exact e
theorem pw_and (ha : PT X a tA) (hb : PW X (.BoolOp .And (b :: rest) pos) tB') : PW X (.BoolOp .And (a :: b :: rest) pos) (tAnd tA tB') := by
  intro wh pins s σ H Q I h
  refine isTrue_and (thn (ha pins s σ H _ I h) fun c s1 ⟨H1, I1, q1⟩ => ?_)
  cases c with
  | true => exact hb wh pins s1 σ H1 Q I1 q1
  | false => exact ⟨H1, I1, q1⟩
theorem pw_or (ha : PT X a tA) (hb : PW X (.BoolOp .Or (b :: rest) pos) tB') : PW X (.BoolOp .Or (a :: b :: rest) pos) (tOr tA tB') := by
  intro wh pins s σ H Q I h
  refine isTrue_or (thn (ha pins s σ H _ I h) fun c s1 ⟨H1, I1, q1⟩ => ?_)
  cases c with
  | true => exact ⟨H1, I1, q1⟩
  | false => exact hb wh pins s1 σ H1 Q I1 q1
theorem pt_not (ha : PT X a tA) : PT X (.UnaryOp .Not a pos) (tNot tA) := by
  intro pins s σ H Q I h
  exact isTrue_not (ha pins s σ H (fun c H1 => Q (!c) H1) I h)
noncomputable def tAndV (ta tb : TE) : TE := fun σ H Q => ta σ H fun x H1 => ∃ c, x = .bl c ∧ if c = true then tb σ H1 Q else Q (.bl false) H1
noncomputable def tOrV (ta tb : TE) : TE := fun σ H Q => ta σ H fun x H1 => ∃ c, x = .bl c ∧ if c = true then Q (.bl true) H1 else tb σ H1 Q
noncomputable def tNotV (ta : TE) : TE := fun σ H Q => ta σ H fun x H1 => ∃ c, x = .bl c ∧ Q (.bl (!c)) H1
theorem pe_one {op} {t : TE} (h : PE X a t) : PE X (.BoolOp op [a] pos) t := fun pins s σ H Q I hw => BoolOp_one (h pins s σ H Q I hw)
theorem pe_and (ha : PE X a ta) (hb : PE X (.BoolOp .And (b :: rest) pos) tb) : PE X (.BoolOp .And (a :: b :: rest) pos) (tAndV ta tb) := by
  intro pins s σ H Q I h
  refine BoolOp_and (thn (ha pins s σ H _ I h) fun v s1 ⟨x, H1, I1, r1, q1⟩ => ?_)
  obtain ⟨c, rfl, q1⟩ := q1
  cases r1
  refine wpAny_truthy_bool ?_
  cases c with
  | true => exact hb pins s1 σ H1 Q I1 q1
  | false => exact ⟨.bl false, H1, I1, rfl, q1⟩
theorem pe_or (ha : PE X a ta) (hb : PE X (.BoolOp .Or (b :: rest) pos) tb) : PE X (.BoolOp .Or (a :: b :: rest) pos) (tOrV ta tb) := by
  intro pins s σ H Q I h
  refine BoolOp_or (thn (ha pins s σ H _ I h) fun v s1 ⟨x, H1, I1, r1, q1⟩ => ?_)
  obtain ⟨c, rfl, q1⟩ := q1
  cases r1
  refine wpAny_truthy_bool ?_
  cases c with
  | false => exact hb pins s1 σ H1 Q I1 q1
  | true => exact ⟨.bl true, H1, I1, rfl, q1⟩
theorem pe_not (ha : PE X a ta) : PE X (.UnaryOp .Not a pos) (tNotV ta) := by
  intro pins s σ H Q I h
  refine UnaryOp_ (thn (ha pins s σ H _ I h) fun v s1 ⟨x, H1, I1, r1, q1⟩ => ?_)
  obtain ⟨c, rfl, q1⟩ := q1
  cases r1
  exact not_of (wpAny_truthy_bool ⟨.bl (!c), H1, I1, rfl, q1⟩)
noncomputable def tIf (t : TT) (ta tb : TE) : TE := fun σ H Q => t σ H fun c H1 => if c = true then ta σ H1 Q else tb σ H1 Q
theorem pe_ifExp {c : Expr} (hc : PT X c tA) (ha : PE X a ta) (hb : PE X b tb) : PE X (.IfExp c a b pos) (tIf tA ta tb) := by
  intro pins s σ H Q I h
  refine wpAny_IfExp (thn (hc pins s σ H _ I h) fun d s1 ⟨H1, I1, q1⟩ => ?_)
  cases d with
  | true => exact ha pins s1 σ H1 Q I1 q1
  | false => exact hb pins s1 σ H1 Q I1 q1
end
end L2
namespace L2
open PySem PySem.Spec PyProof.Rows
noncomputable def SqL (K : PySem.W.Frag) (H : Hp) (a : Addr) (xs : List V) : Prop :=
  Rd H a (.lst xs) ∨
    ∃ (o : Obj) (its : Array Value) (n : Nat), K.lookup a = some o ∧ o.cls = .type "list" ∧ o.dict = none ∧ o.data = .seq its n ∧ its.size ≤ sizeLine ∧ Vals xs its.toList
noncomputable def SqT (K : PySem.W.Frag) (H : Hp) (a : Addr) (xs : List V) : Prop :=
  Rd H a (.tup xs) ∨
    ∃ (o : Obj) (its : Array Value) (n : Nat), K.lookup a = some o ∧ o.cls = .type "tuple" ∧ o.data = .seq its n ∧ its.size ≤ sizeLine ∧ Vals xs its.toList
noncomputable def absV : Value → Option V
  | .none => some .non
  | .bool b => some (.bl b)
  | .int i _ => some (.int i)
  | .str x _ => some (.str x)
  | .bytes b _ => some (.byt b)
  | .float b _ => some (.flt b)
  | .ref a => some (.ref a)
  | .type n => some (.ty n)
  | _ => none
theorem RelV.abs {x : V} {u : Value} (r : RelV x u) : absV u = some x := by
  cases x with
  | non => cases r; rfl
  | bl _ => cases r; rfl
  | int _ => obtain ⟨t, rfl⟩ := r; rfl
  | str _ => obtain ⟨t, rfl⟩ := r; rfl
  | byt _ => obtain ⟨t, rfl⟩ := r; rfl
  | flt _ => obtain ⟨t, rfl⟩ := r; rfl
  | ref _ => cases r; rfl
  | ty _ => cases r; rfl
theorem RelV.inj {x y : V} {u : Value} (r : RelV x u) (q : RelV y u) : x = y := Option.some.inj (r.abs.symm.trans q.abs)
theorem Vals.inj : ∀ {xs ys : List V} {us : List Value}, Vals xs us → Vals ys us → xs = ys
  | _, _, _, .nil, .nil => rfl
  | _, _, _, .cons r t, .cons r' t' => by rw [r.inj r', Vals.inj t t']
section
variable {X : Cx} {pins : List (Addr × Obj)} {σ : St} {H : Hp} {s : Shared} {a : Addr} {xs ys : List V}
theorem SqL.of {K : PySem.W.Frag} (h : H a = some (.lst xs)) : SqL K H a xs := .inl (.inl h)
theorem SqT.of {K : PySem.W.Frag} (h : H a = some (.tup xs)) : SqT K H a xs := .inl (.inl h)
theorem Inv.list (I : Inv X pins σ H s) (h : SqL X.K H a xs) : ∃ its : List Value, Vals xs its ∧ PlainL s.heap a its.toArray ∧ xs.length ≤ sizeLine := by
  rcases h with h | ⟨o, its, n, hk, hc, hd, hs, hz, r⟩
  · obtain ⟨z, its, n, r, e⟩ := h.ok I.hok
    exact ⟨its, r, ⟨_, n, e, rfl, rfl, rfl⟩, z⟩
  · refine ⟨its.toList, r, ⟨o, n, I.kIn a o hk, hc, hd, by simpa using hs⟩, ?_⟩
    have e := r.length
    simp only [Array.length_toList] at e
    omega
theorem Inv.tuple (I : Inv X pins σ H s) (h : SqT X.K H a xs) : ∃ its : List Value, Vals xs its ∧ IsTup s.heap a its.toArray ∧ xs.length ≤ sizeLine := by
  rcases h with h | ⟨o, its, n, hk, hc, hs, hz, r⟩
  · obtain ⟨z, its, r, p⟩ := h.ok I.hok
    exact ⟨its, r, p, z⟩
  · refine ⟨its.toList, r, ⟨o, I.kIn a o hk, hc, n, by simpa using hs⟩, ?_⟩
    have e := r.length
    simp only [Array.length_toList] at e
    omega
theorem Inv.list_inj (I : Inv X pins σ H s) (h : SqL X.K H a xs) (h' : SqL X.K H a ys) : xs = ys := by
  obtain ⟨its, r, ⟨o, n, e, _, _, d⟩, _⟩ := I.list h
  obtain ⟨its', r', ⟨o', n', e', _, _, d'⟩, _⟩ := I.list h'
  rw [e] at e'; cases e'
  rw [d] at d'
  injection d' with d1 _
  have : its = its' := by simpa using congrArg Array.toList d1
  subst this
  exact r.inj r'
theorem Inv.tuple_inj (I : Inv X pins σ H s) (h : SqT X.K H a xs) (h' : SqT X.K H a ys) : xs = ys := by
  obtain ⟨its, r, ⟨o, e, _, n, d⟩, _⟩ := I.tuple h
  obtain ⟨its', r', ⟨o', e', _, n', d'⟩, _⟩ := I.tuple h'
  rw [e] at e'; cases e'
  rw [d] at d'
  injection d' with d1 _
  have : its = its' := by simpa using congrArg Array.toList d1
  subst this
  exact r.inj r'
end
noncomputable abbrev Cx.wish (X : Cx) (E : Value → Shared → Prop) : Cx := { X with xe := E }
noncomputable abbrev Cx.nox (X : Cx) : Cx := X.wish fun _ _ => False
theorem Cx.Ok.wish {X : Cx} (ok : X.Ok) (E : Value → Shared → Prop) : (X.wish E).Ok :=
  ⟨ok.mod, ok.kind, ok.glob, ok.blt, ok.above, ok.inj, ok.has, ok.cab, ok.hd, ok.frames, ok.stk, ok.exf, ok.bs, ok.bsz, ok.noex, ok.exfs, ok.funs, ok.frf⟩
theorem Cx.Ok.unwish {X : Cx} {E : Value → Shared → Prop} (ok : (X.wish E).Ok) : X.Ok :=
  ⟨ok.mod, ok.kind, ok.glob, ok.blt, ok.above, ok.inj, ok.has, ok.cab, ok.hd, ok.frames, ok.stk, ok.exf, ok.bs, ok.bsz, ok.noex, ok.exfs, ok.funs, ok.frf⟩
section
variable {X : Cx} {pins : List (Addr × Obj)} {σ : St} {H : Hp} {s : Shared} {E : Value → Shared → Prop}
theorem Inv.wish (I : Inv X pins σ H s) (E : Value → Shared → Prop) : Inv (X.wish E) pins σ H s := ⟨I.ok.wish E, I.os, I.bare, I.base, I.loc, I.cell, I.free, I.freeC, I.pin, I.hok, I.len⟩
theorem Inv.unwish (I : Inv (X.wish E) pins σ H s) : Inv X pins σ H s := ⟨I.ok.unwish, I.os, I.bare, I.base, I.loc, I.cell, I.free, I.freeC, I.pin, I.hok, I.len⟩
theorem SP.unwish {D : Ends} {f : Flow} {s' : Shared} (h : SP (X.wish E) pins D f s') : SP X pins D f s' := by
  cases f with
  | next => obtain ⟨σ', H', I, q⟩ := h; exact ⟨σ', H', I.unwish, q⟩
  | brk => obtain ⟨σ', H', I, q⟩ := h; exact ⟨σ', H', I.unwish, q⟩
  | cont => obtain ⟨σ', H', I, q⟩ := h; exact ⟨σ', H', I.unwish, q⟩
  | ret u => obtain ⟨v, σ', H', I, r, q⟩ := h; exact ⟨v, σ', H', I.unwish, r, q⟩
theorem PE.nox {e : Expr} {t : TE} (h : PE X.nox e t) : PE X e t := fun pins s σ H Q I hw =>
  wpAny_mono (h pins s σ H Q (I.wish _) hw) (fun _ _ ⟨v, H', I', r, q⟩ => ⟨v, H', I'.unwish, r, q⟩) fun _ _ z => False.elim z
theorem PT.nox {e : Expr} {t : TT} (h : PT X.nox e t) : PT X e t := fun pins s σ H Q I hw =>
  wpAny_mono (h pins s σ H Q (I.wish _) hw) (fun _ _ ⟨H', I', q⟩ => ⟨H', I'.unwish, q⟩) fun _ _ z => False.elim z
theorem PSs.nox {st : List Stmt} {t : TS} (h : PSs X.nox st t) : PSs X st t := fun pins s σ H D I hw =>
  wpAny_mono (h pins s σ H D (I.wish _) hw) (fun _ _ q => q.unwish) fun _ _ z => False.elim z
end
section
variable {X : Cx} {st : Stmt} {rest : List Stmt} {t u : TS} {e : Expr} {te : TE} {pos : Pos}
noncomputable def tNext : TS := fun D σ H => D.nx σ H
noncomputable def tSeq (t u : TS) : TS := fun D σ H => t { D with nx := u D } σ H
theorem pss_nil : PSs X [] tNext := fun _ _ σ H _ I h => wpAny_execs_nil ⟨σ, H, I, h⟩
theorem pss_cons (h1 : PS X st t) (h2 : PSs X rest u) : PSs X (st :: rest) (tSeq t u) := by
  intro pins s σ H D I h
  refine wpAny_execs_cons (thn (h1 pins s σ H { D with nx := u D } I h) fun f s1 q => ?_)
  cases f with
  | next =>
    obtain ⟨σ', H', I', q⟩ := q
    exact h2 pins s1 σ' H' D I' q
  | ret v => exact q
  | brk => exact q
  | cont => exact q
theorem pss_one (h1 : PS X st t) : PSs X [st] t := by
  intro pins s σ H D I h
  refine wpAny_execs_cons (thn (h1 pins s σ H D I h) fun f s1 q => ?_)
  cases f with
  | next => exact wpAny_execs_nil q
  | ret v => exact q
  | brk => exact q
  | cont => exact q
theorem Inv.quiet {pins : List (Addr × Obj)} {σ : St} {H : Hp} {s : Shared} (I : Inv X pins σ H s) : interactive X.env = false := by simp [interactive, I.ok.kind]
noncomputable def tDrop (te : TE) : TS := fun D σ H => te σ H fun _ H1 => D.nx σ H1
theorem ps_expr (he : PE X e te) (hs : swapsWith e none pos.line X.env = pure false := by rfl) : PS X (.Expr e pos) (tDrop te) := by
  intro pins s σ H D I h
  exact wpAny_Expr_any (thn (he pins s σ H _ I h) fun v s1 ⟨x, H1, I1, r1, q1⟩ => ⟨σ, H1, I1, q1⟩) I.quiet hs
noncomputable def tRet (te : TE) : TS := fun D σ H => te σ H D.rt
theorem ps_ret (he : PE X e te) : PS X (.Return (some e) pos) (tRet te) := by
  intro pins s σ H D I h
  exact wpAny_Return_some (thn (he pins s σ H _ I h) fun v s1 ⟨x, H1, I1, r1, q1⟩ => ⟨x, σ, H1, I1, r1, q1⟩)
noncomputable def tIfS (c : TT) (t u : TS) : TS := fun D σ H => c σ H fun b H1 => if b = true then t D σ H1 else u D σ H1
theorem ps_if {c : Expr} {a b : List Stmt} {tc : TT} (hc : PT X c tc) (ha : PSs X a t) (hb : PSs X b u) : PS X (.If c a b pos) (tIfS tc t u) := by
  intro pins s σ H D I h
  refine wpAny_If (thn (hc pins s σ H _ I h) fun d s1 ⟨H1, I1, q1⟩ => ?_)
  cases d with
  | true => exact ha pins s1 σ H1 D I1 q1
  | false => exact hb pins s1 σ H1 D I1 q1
end
noncomputable abbrev TG := V → St → Hp → (St → Hp → Prop) → Prop
noncomputable abbrev TGs := List V → St → Hp → (St → Hp → Prop) → Prop
noncomputable def PG (X : Cx) (target : Expr) (t : TG) : Prop :=
  ∀ (pins : List (Addr × Obj)) (s : Shared) (σ : St) (H : Hp) (v : V) (u : Value) (Q : St → Hp → Prop), Inv X pins σ H s → RelV v u → t v σ H Q →
    wpAny (model X.prog X.w) X.A (assign target X.env u) (fun _ s' => ∃ σ' H', Inv X pins σ' H' s' ∧ Q σ' H') X.xe s
noncomputable def PGs (X : Cx) (ts : List Expr) (t : TGs) : Prop :=
  ∀ (pins : List (Addr × Obj)) (s : Shared) (σ : St) (H : Hp) (vs : List V) (us : List Value) (Q : St → Hp → Prop), Inv X pins σ H s → Vals vs us → t vs σ H Q →
    wpAny (model X.prog X.w) X.A (assignInOrder ((assignEach ts X.env).map (·.2)) us) (fun _ s' => ∃ σ' H', Inv X pins σ' H' s' ∧ Q σ' H') X.xe s
noncomputable abbrev TSet := V → V → V → Hp → (Hp → Prop) → Prop
noncomputable def PSet (X : Cx) (t : TSet) : Prop :=
  ∀ (pins : List (Addr × Obj)) (s : Shared) (σ : St) (H : Hp) (o i v : V) (ov iv u : Value) (Q : Hp → Prop), Inv X pins σ H s → RelV o ov → RelV i iv → RelV v u → t o i v H Q →
    wpAny (model X.prog X.w) X.A (setItem ov iv u) (fun _ s' => ∃ H', Inv X pins σ H' s' ∧ Q H') X.xe s
section
variable {X : Cx} {pos : Pos}
noncomputable def gName (i : Nat) : TG := fun v σ H Q => Q (σ.set i (some v)) H
theorem pg_name {i : Nat} {x : Str} (hN : X.N.Nodup) (hi : X.N[i]? = some x) (hx : Loc X.env.scope x) (hf : X.fn x = true ∨ X.env.scope.names.lookup x = some .local := by first | exact .inl rfl | exact .inr rfl | assumption) : PG X (.Name x pos) (gName i) := by
  intro pins s σ H v u Q I r h
  exact wpAny_assign_Name (store_ok I hN hi hx r (fun s' I' => ⟨_, H, I', h⟩) hf)
noncomputable def gNil : TGs := fun vs σ H Q => vs = [] ∧ Q σ H
noncomputable def gCons (t : TG) (u : TGs) : TGs := fun vs σ H Q => ∃ v r, vs = v :: r ∧ t v σ H fun σ' H' => u r σ' H' Q
theorem pgs_nil : PGs X [] gNil := by
  intro pins s σ H vs us Q I r h
  obtain ⟨e, h⟩ := h
  subst e
  cases r
  exact assignInOrder_nil ⟨σ, H, I, h⟩
theorem pgs_cons {e : Expr} {es : List Expr} {t : TG} {u : TGs} (h1 : PG X e t) (h2 : PGs X es u)
    (hs : (assignEach (e :: es) X.env).map (·.2) = assign e X.env :: (assignEach es X.env).map (·.2) := by rfl) : PGs X (e :: es) (gCons t u) := by
  intro pins s σ H vs us Q I r h
  obtain ⟨v, vr, e1, h⟩ := h
  subst e1
  cases r with
  | cons r rr =>
    rw [hs]
    refine assignInOrder_cons (thn (h1 pins s σ H _ _ _ I r h) fun _ s1 ⟨σ1, H1, I1, q1⟩ => ?_)
    exact h2 pins s1 σ1 H1 _ _ Q I1 rr q1
noncomputable def gTup (K : PySem.W.Frag) (n : Nat) (t : TGs) : TG := fun v σ H Q => ∃ a xs, v = .ref a ∧ SqT K H a xs ∧ xs.length = n ∧ t xs σ H Q
theorem pg_tup {es : List Expr} {k : Nat} {t : TGs} {n : Nat} (hc : X.calm = true) (h : PGs X es t)
    (hn : (assignEach es X.env).length = n := by rfl) (hst : (assignEach es X.env).findIdx? (·.1) = none := by rfl) : PG X (.Tuple es k pos) (gTup X.K n t) := by
  intro pins s σ H v u Q I r hw
  obtain ⟨a, xs, e1, hq, hl, hw⟩ := hw
  subst e1
  cases r
  obtain ⟨its, rv, ht, hz⟩ := I.tuple hq
  refine assign_Tuple_tuple (I.ok.hd hc) ht (by simp [hn, ← hl, rv.length]) hst fun h' hx => ?_
  have I1 : Inv X pins σ H { s with heap := h' } := I.kept (t' := s.toks) fun b o e => hx b o (Nat.ne_of_lt (Heap.lt_size e)) e
  exact h pins _ σ H xs _ Q I1 (by simpa using rv) hw
noncomputable def gSub (to ti : TE) (t : TSet) : TG := fun v σ H Q => to σ H fun o H1 => ti σ H1 fun i H2 => t o i v H2 fun H3 => Q σ H3
theorem pg_sub {o i : Expr} {to ti : TE} {t : TSet} (ho : PE X o to) (hi : PE X i ti) (hs : PSet X t)
    (ha : ∀ v, assign (.Subscript o i pos) X.env v = (do
      let ov ← holding [v] (eval o X.env)
      let iv ← holding [v, ov] (eval i X.env)
      standAt pos
      holding [v, ov, iv] (setItem ov iv v)
      release [v, ov, iv] []) := by intro _; rfl) : PG X (.Subscript o i pos) (gSub to ti t) := by
  intro pins s σ H v u Q I r h
  rw [ha]
  refine wpAny_bind (wpAny_holding (thn (ho pins s σ H _ I h) fun ov s1 ⟨x, H1, I1, r1, q1⟩ => ?_))
  refine wpAny_bind (wpAny_holding (thn (hi pins s1 σ H1 _ I1 q1) fun iv s2 ⟨y, H2, I2, r2, q2⟩ => ?_))
  refine wpAny_bind (wpAny_standAt (wpAny_bind (wpAny_holding (thn (hs pins s2 σ H2 x y v ov iv u _ I2 r1 r2 r q2) fun _ s3 ⟨H3, I3, q3⟩ => ?_))))
  exact wpAny_release ⟨σ, H3, I3, q3⟩
noncomputable def tAsg (te : TE) (g : TG) : TS := fun D σ H => te σ H fun x H1 => g x σ H1 D.nx
theorem ps_asg {tg e : Expr} {te : TE} {g : TG} (he : PE X e te) (hg : PG X tg g) (hs : swapsWithSole [tg] e pos.line X.env = pure false := by rfl) (hw : swappedStores [tg] e X.env = pure none := by rfl)
    (h1 : (assignEach [tg] X.env).map (·.2) = [assign tg X.env] := by rfl) : PS X (.Assign [tg] e pos) (tAsg te g) := by
  intro pins s σ H D I h
  refine wpAny_Assign_stores (thn (he pins s σ H _ I h) fun v s1 ⟨x, H1, I1, r1, q1⟩ => ?_) hs hw
  rw [h1]
  exact thn (hg pins s1 σ H1 x v _ I1 r1 q1) fun _ s2 q => q
theorem ps_set {i : Nat} {x : Str} {e : Expr} {te : TE} {pos' : Pos} (hN : X.N.Nodup) (hi : X.N[i]? = some x) (hx : Loc X.env.scope x) (he : PE X e te) (hs : swapsWith e (some (.Name x pos')) pos.line X.env = pure false := by rfl) (hf : X.fn x = true ∨ X.env.scope.names.lookup x = some .local := by first | exact .inl rfl | exact .inr rfl | assumption) :
    PS X (.Assign [.Name x pos'] e pos) (tAsg te (gName i)) := by
  intro pins s σ H D I h
  refine wpAny_Assign_Name (thn (he pins s σ H _ I h) fun v s1 ⟨y, H1, I1, r1, q1⟩ => ?_) hs
  exact store_ok I1 hN hi hx r1 (fun s2 I2 => ⟨_, H1, I2, q1⟩) hf
noncomputable def tPar (i j : Nat) (ta : TA) : TS := fun D σ H => ta σ H fun vs H1 => ∃ v w, vs = [v, w] ∧ D.nx ((σ.set i (some v)).set j (some w)) H1
theorem ps_par {i j : Nat} {x y : Str} {a b : Expr} {ta : TA} {px py pt : Pos} {kt k2 pt2} (hc : X.calm = true) (hN : X.N.Nodup) (hi : X.N[i]? = some x) (hj : X.N[j]? = some y) (hij : i ≠ j)
    (hx : X.env.scope.names.lookup x = some .local) (hy : X.env.scope.names.lookup y = some .local) (ha : PA X [a, b] ta)
    (hw : swappedStores [.Tuple [.Name x px, .Name y py] kt pt] (.Tuple [a, b] k2 pt2) X.env = pure (some [x, y]))
    (hs : swapsWithSole [.Tuple [.Name x px, .Name y py] kt pt] (.Tuple [a, b] k2 pt2) pos.line X.env = pure false := by rfl) :
    PS X (.Assign [.Tuple [.Name x px, .Name y py] kt pt] (.Tuple [a, b] k2 pt2) pos) (tPar i j ta) := by
  intro pins s σ H D I h
  rw [exec_Assign_arm]
  refine wpAny_bind (wpAny_standAt ?_)
  rw [hs]
  refine wpAny_bind (wpAny_pure ?_)
  rw [if_neg (by decide)]
  refine wpAny_bind (Tuple_ (thn (ha _ pins s σ H _ I h) fun us s1 ⟨vs, H1, I1, r1, q1⟩ => ?_))
  obtain ⟨v, w, e1, q1⟩ := q1
  subst e1
  obtain ⟨u1, u2, rfl, rv, rw'⟩ : ∃ u1 u2, us = [u1, u2] ∧ RelV v u1 ∧ RelV w u2 := by
    cases r1 with
    | cons p q =>
      cases q with
      | cons p' q' =>
        cases q'
        exact ⟨_, _, rfl, p, p'⟩
  refine wpAny_newObj_type ?_ (by show 2 ≤ sizeLine; decide)
  have I2 : Inv X pins σ H1 { s1 with heap := s1.heap.push { cls := .type "tuple", data := .seq [u1, u2].toArray } } := I1.kept (t' := s1.toks) fun b o e => Heap.get?_push_of_some _ e
  rw [hw]
  refine wpAny_bind (wpAny_pure ?_)
  show wpAny (model X.prog X.w) X.A (do rule "assign.swapped-stores"; let items ← unpackItems (.ref s1.heap.objs.size) 2 none; assignInOrder [fun v => bindName X.env y v, fun v => bindName X.env x v] items.reverse; pure Flow.next) _ _ _
  refine wpAny_bind (wpAny_rule (wpAny_bind (unpackItems_tuple (items := #[u1, u2]) (I.ok.hd hc) (IsTup.new s1.heap _) fun h' hx' => ?_)))
  have I3 := I2.kept (h' := h') (t' := s1.toks) fun b o e => hx' b o (Nat.ne_of_lt (Heap.lt_size e)) e
  show wpAny _ _ (assignInOrder [fun v => bindName X.env y v, fun v => bindName X.env x v] [u2, u1] >>= fun _ => pure Flow.next) _ _ _
  refine wpAny_bind (assignInOrder_cons (wpAny_bindName (store_ok I3 hN hj (.inl hy) rw' (fun s2 I4 => ?_) (.inr hy))))
  refine assignInOrder_cons (wpAny_bindName (store_ok I4 hN hi (.inl hx) rv (fun s3 I5 => assignInOrder_nil (wpAny_pure ?_)) (.inr hx)))
  rw [List.set_comm _ _ (Ne.symm hij)] at I5
  exact ⟨_, H1, I5, q1⟩
end
section
variable {X : Cx} {pos : Pos}
noncomputable def tWhile (c : TT) (tb : TS) : TS := fun D σ H => ∃ W : Nat → St → Hp → Prop, (∃ m, W m σ H) ∧ ∀ m σ H, W m σ H →
  c σ H fun b H1 => if b = true then ∃ N : St → Hp → Prop, (∀ σ' H', N σ' H' → ∃ m', m' < m ∧ W m' σ' H') ∧ tb { D with nx := N, ct := N, bk := D.nx } σ H1 else D.nx σ H1
theorem ps_while {c : Expr} {body : List Stmt} {tc : TT} {tb : TS} (hp : PassesOwn (model X.prog X.w) X.A X.env X.xe) (hc : PT X c tc) (hb : PSs X body tb) : PS X (.While c body [] pos) (tWhile tc tb) := by
  intro pins s σ H D I h
  obtain ⟨W, ⟨m0, w0⟩, turn⟩ := h
  refine wpAny_While (codeAny_whileLoop (fun n s' => ∃ σ' H', Inv X pins σ' H' s' ∧ W n σ' H') ?_ m0 ⟨σ, H, I, w0⟩)
  rintro n s1 ⟨σ1, H1, I1, w1⟩
  refine wpAny_passesOwn hp (thn (hc pins s1 σ1 H1 _ I1 (turn n σ1 H1 w1)) fun b s2 ⟨H2, I2, q2⟩ => ?_)
  cases b with
  | true =>
    obtain ⟨N, hN, q2⟩ := q2
    rw [if_pos rfl]
    refine wpAny_passesOwn hp (thn (hb pins s2 σ1 H2 _ I2 q2) fun f s3 q3 => ?_)
    cases f with
    | next =>
      obtain ⟨σ3, H3, I3, n3⟩ := q3
      obtain ⟨m', hm, w3⟩ := hN σ3 H3 n3
      exact ⟨m', hm, σ3, H3, I3, w3⟩
    | cont =>
      obtain ⟨σ3, H3, I3, n3⟩ := q3
      obtain ⟨m', hm, w3⟩ := hN σ3 H3 n3
      exact ⟨m', hm, σ3, H3, I3, w3⟩
    | brk => exact q3
    | ret v => exact q3
  | false =>
    rw [if_neg Bool.false_ne_true]
    exact wpAny_execs_nil ⟨σ1, H2, I2, q2⟩
end
structure It where
  go : Nat → Hp → Prop
  yld : Nat → Hp → V → Hp → Prop
  stop : Nat → Hp → Prop
noncomputable def FpOk (X : Cx) (pins : List (Addr × Obj)) (H : Hp) (b : Addr) : Prop :=
  H b = none ∧ b ≠ X.env.locals ∧ b ∉ X.fs ∧ (b ∈ X.ex ∨ X.s₀.heap.objs.size ≤ b) ∧ (∀ x c, X.env.cells.lookup x = some c → c ≠ b) ∧ ∀ p ∈ X.pn ++ pins, p.1 ≠ b
theorem Inv.fpOk {X : Cx} {pins : List (Addr × Obj)} {σ : St} {H H' : Hp} {s : Shared} {b : Addr} (I : Inv X pins σ H s) (hb : s.heap.objs.size ≤ b) (hn : H' b = none) : FpOk X pins H' b := by
  refine ⟨hn, Nat.ne_of_gt (Nat.lt_of_lt_of_le I.lt hb), I.nofs hb, .inr (Nat.le_trans I.sz hb), fun x c e z => ?_, fun p hp z => ?_⟩
  · obtain ⟨v, q⟩ := I.cell x c e
    exact absurd (Nat.lt_of_lt_of_le q.lt (by rw [z]; exact hb)) (Nat.lt_irrefl _)
  · exact absurd (Nat.lt_of_lt_of_le (Heap.lt_size (I.pin p hp).1) (by rw [z]; exact hb)) (Nat.lt_irrefl _)
structure Turn (P : Program) (w : World) (K : PySem.W.Frag) (tg : Expr) (J : It) (fp : List Addr) (it : Addr) (tn : Nat → Heap → Prop) : Prop where
  mem : it ∈ fp
  obj : ∀ i h, tn i h → ∀ b ∈ fp, ∃ o, h.get? b = some o ∧ ∀ v, o.data ≠ .cell v
  keep : ∀ i h h', tn i h → (∀ b ∈ fp, ∀ o, h.get? b = some o → h'.get? b = some o) → tn i h'
  item : ∀ (X : Cx), X.prog = P → X.w = w → X.K = K → X.calm = true → ∀ (i : Nat) (pins : List (Addr × Obj)) (s : Shared) (σ : St) (H : Hp) (E : Value → Shared → Prop), Inv X pins σ H s → (∀ b ∈ fp, FpOk X pins H b) → tn i s.heap → J.go i H →
    wpAny (model P w) X.A (pyNext (.ref it)) (fun r s1 => ∃ u, r = some u ∧
      wpAny (model P w) X.A (letOwnedTupleGo tg (.ref it) u) (fun _ s2 => ∃ x H', Inv X pins σ H' s2 ∧ RelV x u ∧ J.yld i H x H' ∧ tn (i + 1) s2.heap ∧ ∀ b ∈ fp, H' b = none) E s1) E s
  done : ∀ (X : Cx), X.prog = P → X.w = w → X.K = K → X.calm = true → ∀ (i : Nat) (pins : List (Addr × Obj)) (s : Shared) (σ : St) (H : Hp) (E : Value → Shared → Prop), Inv X pins σ H s → (∀ b ∈ fp, FpOk X pins H b) → tn i s.heap → J.stop i H →
    wpAny (model P w) X.A (pyNext (.ref it)) (fun r s1 => r = none ∧ Inv X pins σ H s1) E s
  self : ∀ (A : Around) (i : Nat) (s : Shared) (Q : Value → Shared → Prop) (E : Value → Shared → Prop), tn i s.heap → Q (.ref it) s → wpAny (model P w) A (pyIter (.ref it)) Q E s
noncomputable abbrev TI := St → Hp → (It → Hp → Prop) → Prop
noncomputable def PIE (X : Cx) (pins : List (Addr × Obj)) (σ : St) (tg : Expr) (R : It → Hp → Prop) (itv : Value) (s2 : Shared) : Prop :=
  ∃ (it : Addr) (fp : List Addr) (tn : Nat → Heap → Prop) (J : It) (H' : Hp), itv = .ref it ∧ Inv X pins σ H' s2 ∧ Turn X.prog X.w X.K tg J fp it tn ∧ tn 0 s2.heap ∧ (∀ b ∈ fp, FpOk X pins H' b) ∧ R J H'
noncomputable def PI (X : Cx) (tg iter : Expr) (wi : TI) : Prop :=
  ∀ (pins : List (Addr × Obj)) (s : Shared) (σ : St) (H : Hp) (R : It → Hp → Prop), Inv X pins σ H s → wi σ H R →
    wpAny (model X.prog X.w) X.A (eval iter X.env) (fun v s1 => wpAny (model X.prog X.w) X.A (pyIter v) (PIE X pins σ tg R) X.xe s1) X.xe s
theorem go_of {M : Model} {A : Around} {E : Value → Shared → Prop} {s : Shared} {tg : Expr} {it : Addr} {u : Value} {o : Obj} {n : String} {vs : Array Value} {Q : Unit → Shared → Prop} (ho : s.heap.get? it = some o) (hc : o.cls = .type n) (hd : o.data = .fields vs)
    (hn : ["enumerate", "zip", "dict_itemiterator", "dict_reverseitemiterator", "odict_iterator", "itertools.zip_longest", "itertools.pairwise"].contains n = false) (hQ : Q () s) : wpAny M A (letOwnedTupleGo tg (.ref it) u) Q E s := by
  unfold letOwnedTupleGo
  cases tg <;> first
    | exact wpAny_pure hQ
    | (cases u <;> first
        | exact wpAny_pure hQ
        | (refine wpAny_bind (wpAny_load ho ?_)
           rw [hc, hd]
           show wpAny M A (if (["enumerate", "zip", "dict_itemiterator", "dict_reverseitemiterator", "odict_iterator", "itertools.zip_longest", "itertools.pairwise"].contains n && vs[0]? == some (rawInt _)) = true then _ else _) Q E s
           rw [if_neg (by intro h; rw [hn, Bool.false_and] at h; cases h)]
           exact wpAny_pure hQ))
noncomputable def Itl (K : PySem.W.Frag) (a : Addr) : It :=
  ⟨fun i H => ∃ xs x, SqL K H a xs ∧ xs[i]? = some x, fun i H x H' => H' = H ∧ ∀ xs, SqL K H a xs → xs[i]? = some x, fun i H => ∃ xs, SqL K H a xs ∧ xs.length ≤ i⟩
noncomputable def Itt (K : PySem.W.Frag) (a : Addr) : It :=
  ⟨fun i H => ∃ xs x, SqT K H a xs ∧ xs[i]? = some x, fun i H x H' => H' = H ∧ ∀ xs, SqT K H a xs → xs[i]? = some x, fun i H => ∃ xs, SqT K H a xs ∧ xs.length ≤ i⟩
noncomputable def Itr (lo : Int) (n : Nat) : It := ⟨fun i _ => i < n, fun i H x H' => H' = H ∧ x = .int (lo + i), fun i _ => n ≤ i⟩
theorem turn_list {P : Program} {w : World} {K : PySem.W.Frag} {tg : Expr} (a it : Addr) : Turn P w K tg (Itl K a) [it] it (fun i h => h.IsListIter it a i) where
  mem := by simp
  obj := fun i h st b hb => by
    have e : b = it := by simpa using hb
    subst e
    obtain ⟨o, e, c, d⟩ := st
    exact ⟨o, e, fun v z => by rw [d] at z; cases z⟩
  keep := fun i h h' st k => st.at fun o e => k it (by simp) o e
  item := by
    intro X hP hw hK hc i pins s σ H E I hf st hg
    subst hP hw hK
    obtain ⟨xs, x, hq, hx⟩ := hg
    obtain ⟨its, rv, p, hz⟩ := I.list hq
    obtain ⟨u, hu, ru⟩ := rv.get hx
    obtain ⟨f0, f1, f2, f3, f4, f5⟩ := hf it (by simp)
    refine wpAny_pyNext_list_item st p.isList (x := u) (by simpa using hu) fun h' st' sb => ?_
    have I1 : Inv X pins σ H { s with heap := h' } := I.turned (t' := s.toks) (fun b o hb e => (sb.2 b hb).trans e) f0 f1 f3 f4 f5
    obtain ⟨o, e, c, d⟩ := id st'
    exact ⟨u, rfl, go_of (s := { s with heap := h' }) e c d (by decide) ⟨x, H, I1, ru, ⟨rfl, fun ys hy => by rw [I.list_inj hy hq]; exact hx⟩, st', fun b hb => (hf b hb).1⟩⟩
  done := by
    intro X hP hw hK hc i pins s σ H E I hf st hg
    subst hP hw hK
    obtain ⟨xs, hq, hx⟩ := hg
    obtain ⟨its, rv, p, hz⟩ := I.list hq
    obtain ⟨f0, f1, f2, f3, f4, f5⟩ := hf it (by simp)
    have hl := rv.length
    exact wpAny_pyNext_list_end (I.ok.hd hc) st p.isList (by simp; omega) fun h' eb => ⟨rfl, I.turned (t' := s.toks) (fun b o hb e => eb b o hb e) f0 f1 f3 f4 f5⟩
  self := fun _ _ _ _ _ st h => wpAny_pyIter_listiter st h
theorem turn_tuple {P : Program} {w : World} {K : PySem.W.Frag} {tg : Expr} (a it : Addr) : Turn P w K tg (Itt K a) [it] it (fun i h => h.IsTupleIter it a i) where
  mem := by simp
  obj := fun i h st b hb => by
    have e : b = it := by simpa using hb
    subst e
    obtain ⟨o, e, c, d⟩ := st
    exact ⟨o, e, fun v z => by rw [d] at z; cases z⟩
  keep := fun i h h' st k => st.at fun o e => k it (by simp) o e
  item := by
    intro X hP hw hK hc i pins s σ H E I hf st hg
    subst hP hw hK
    obtain ⟨xs, x, hq, hx⟩ := hg
    obtain ⟨its, rv, p, hz⟩ := I.tuple hq
    obtain ⟨u, hu, ru⟩ := rv.get hx
    obtain ⟨f0, f1, f2, f3, f4, f5⟩ := hf it (by simp)
    refine wpAny_pyNext_tuple_item st (show s.heap.IsTuple a its.toArray from p) (x := u) (by simpa using hu) fun h' st' sb => ?_
    have I1 : Inv X pins σ H { s with heap := h' } := I.turned (t' := s.toks) (fun b o hb e => (sb.2 b hb).trans e) f0 f1 f3 f4 f5
    obtain ⟨o, e, c, d⟩ := id st'
    exact ⟨u, rfl, go_of (s := { s with heap := h' }) e c d (by decide) ⟨x, H, I1, ru, ⟨rfl, fun ys hy => by rw [I.tuple_inj hy hq]; exact hx⟩, st', fun b hb => (hf b hb).1⟩⟩
  done := by
    intro X hP hw hK hc i pins s σ H E I hf st hg
    subst hP hw hK
    obtain ⟨xs, hq, hx⟩ := hg
    obtain ⟨its, rv, p, hz⟩ := I.tuple hq
    obtain ⟨f0, f1, f2, f3, f4, f5⟩ := hf it (by simp)
    have hl := rv.length
    exact wpAny_pyNext_tuple_end (I.ok.hd hc) st (show s.heap.IsTuple a its.toArray from p) (by simp; omega) fun h' eb => ⟨rfl, I.turned (t' := s.toks) (fun b o hb e => eb b o hb e) f0 f1 f3 f4 f5⟩
  self := fun _ _ _ _ _ st h => wpAny_pyIter_tupleiter st h
theorem turn_range {P : Program} {w : World} {K : PySem.W.Frag} {tg : Expr} (it : Addr) (lo : Int) (n : Nat) : Turn P w K tg (Itr lo n) [it] it (fun i h => IsRangeIter h it (lo + (i : Nat) * 1) ((n : Int) - (i : Nat)) 1) where
  mem := by simp
  obj := fun i h st b hb => by
    have e : b = it := by simpa using hb
    subst e
    exact ⟨_, st, fun v z => by
      have z' : Data.fields _ = Data.cell v := z
      cases z'⟩
  keep := fun i h h' st k => k it (by simp) _ st
  item := by
    intro X hP hw hK hc i pins s σ H E I hf st hg
    subst hP hw hK
    obtain ⟨f0, f1, f2, f3, f4, f5⟩ := hf it (by simp)
    have W := Walks.range (prog := X.prog) (w := X.w) (I.ok.hd hc) it lo 1 n
    refine W.item i s _ _ hg st fun v h' tk hv st' kk => ?_
    obtain ⟨t, rfl⟩ := hv
    have I1 : Inv X pins σ H { s with heap := h', toks := tk } := I.turned (fun b o hb e => kk b o (by simpa using hb) e) f0 f1 f3 f4 f5
    refine ⟨_, rfl, go_of (s := { s with heap := h', toks := tk }) (n := "range_iterator") st' rfl rfl (by decide) ⟨.int (lo + i), H, I1, ⟨t, ?_⟩, ⟨rfl, rfl⟩, st', fun b hb => (hf b hb).1⟩⟩
    rw [Int.mul_one]
  done := by
    intro X hP hw hK hc i pins s σ H E I hf st hg
    subst hP hw hK
    obtain ⟨f0, f1, f2, f3, f4, f5⟩ := hf it (by simp)
    exact wpAny_pyNext_range_end (I.ok.hd hc) st (by have : n ≤ i := hg; omega) fun h' eb => ⟨rfl, I.turned (t' := s.toks) (fun b o hb e => eb b o hb e) f0 f1 f3 f4 f5⟩
  self := fun _ _ _ _ _ st h => wpAny_pyIter_rangeiter st h
end L2
namespace L2
open PySem PySem.Spec PyProof.Rows
section
variable {X : Cx} {tg : Expr}
noncomputable def iList (K : PySem.W.Frag) (tl : TE) : TI := fun σ H R => tl σ H fun x H1 => ∃ a, x = .ref a ∧ (∃ xs, SqL K H1 a xs) ∧ R (Itl K a) H1
theorem pi_list {l : Expr} {tl : TE} (hl : PE X l tl) : PI X tg l (iList X.K tl) := by
  intro pins s σ H R I h
  refine thn (hl pins s σ H _ I h) fun v s1 ⟨x, H1, I1, r1, q1⟩ => ?_
  obtain ⟨a, e, ⟨xs, hq⟩, q⟩ := q1
  subst e
  cases r1
  obtain ⟨its, rv, p, hz⟩ := I1.list hq
  refine wpAny_pyIter_list p.isList ?_
  refine ⟨s1.heap.objs.size, [s1.heap.objs.size], _, _, H1, rfl, I1.kept (t' := s1.toks) fun b o e => Heap.get?_push_of_some _ e, turn_list a _, ⟨_, Heap.get?_push_size _ rfl, rfl, rfl⟩, fun b hb => ?_, q⟩
  have e : b = s1.heap.objs.size := by simpa using hb
  subst e
  exact I1.fpOk (Nat.le_refl _) (I1.hok.fresh (Nat.le_refl _))
theorem range_it {pins : List (Addr × Obj)} {σ : St} {H : Hp} {s : Shared} {R : It → Hp → Prop} {E : Value → Shared → Prop} {lo hi : Int} {t u v : Tok} {tk : Nat} (I : Inv X pins σ H s) (h1 : -(2 ^ 62) ≤ lo) (h2 : lo < 2 ^ 62) (h3 : -(2 ^ 62) ≤ hi) (h4 : hi < 2 ^ 62)
    (q : R (Itr lo (hi - lo).toNat) H) : wpAny (model X.prog X.w) X.A (pyIter (.ref s.heap.objs.size)) (PIE X pins σ tg R) E { s with heap := s.heap.push { cls := .type "range", data := .fields #[.int lo t, .int hi u, .int 1 v] }, toks := tk } := by
  refine wpAny_pyIter_range (IsRange.new ..) (small_one h1 h2 h3 h4) ?_
  have I1 : Inv X pins σ H { s with heap := s.heap.push { cls := .type "range", data := .fields #[.int lo t, .int hi u, .int 1 v] }, toks := tk } := I.kept fun b o e => Heap.get?_push_of_some _ e
  refine ⟨(s.heap.push { cls := .type "range", data := .fields #[.int lo t, .int hi u, .int 1 v] }).objs.size, [(s.heap.push { cls := .type "range", data := .fields #[.int lo t, .int hi u, .int 1 v] }).objs.size], _, _, H, rfl,
    I1.kept (t' := tk) fun b o e => Heap.get?_push_of_some _ e, turn_range _ lo (hi - lo).toNat, ?_, fun b hb => ?_, q⟩
  · have e1 : lo + ((0 : Nat) : Int) * 1 = lo := by simp
    have e2 : (((hi - lo).toNat : Nat) : Int) - ((0 : Nat) : Int) = Builtin.Range.rangeSize lo hi 1 := by rw [rangeSize_one]; split <;> omega
    show IsRangeIter _ _ (lo + ((0 : Nat) : Int) * 1) ((((hi - lo).toNat : Nat) : Int) - ((0 : Nat) : Int)) 1
    rw [e1, e2]
    exact Heap.get?_push_size _ rfl
  · have e : b = (s.heap.push { cls := .type "range", data := .fields #[.int lo t, .int hi u, .int 1 v] }).objs.size := by simpa using hb
    subst e
    exact I1.fpOk (Nat.le_refl _) (I1.hok.fresh (Nat.le_refl _))
noncomputable def iRng1 (ta : TA) : TI := fun σ H R => ta σ H fun vs H1 => ∃ j : Int, vs = [.int j] ∧ -(2 ^ 62) ≤ j ∧ j < 2 ^ 62 ∧ R (Itr 0 j.toNat) H1
noncomputable def iRng2 (ta : TA) : TI := fun σ H R => ta σ H fun vs H1 => ∃ i j : Int, vs = [.int i, .int j] ∧ (-(2 ^ 62) ≤ i ∧ i < 2 ^ 62 ∧ -(2 ^ 62) ≤ j ∧ j < 2 ^ 62) ∧ R (Itr i (j - i).toNat) H1
theorem pi_range1 {a : Expr} {ta : TA} {p pos : Pos} (hg : Gl X "range") (hm : X.mg "range" = none) (ha : PA X [a] ta) (hs : starEach [a] X.env = [(false, eval a X.env)] := by rfl) : PI X tg (.Call (.Name "range" p) [a] [] pos) (iRng1 ta) := by
  intro pins s σ H R I h
  refine Call_ (ld_blt I hg hm boot_range (PyProof.Rows.callWith_type1 (thn (ha pos pins s σ H _ I h) fun us s1 ⟨vs, H1, I1, r1, q1⟩ => ?_) hs rfl))
  obtain ⟨j, e, q1, q2, q⟩ := q1
  subst e
  cases r1 with
  | cons r rr =>
    cases rr
    obtain ⟨t, rfl⟩ := r
    exact call_range_1 (range_it I1 (by omega) (by omega) q1 q2 (by simpa using q))
theorem pi_range2 {a b : Expr} {ta : TA} {p pos : Pos} (hg : Gl X "range") (hm : X.mg "range" = none) (ha : PA X [a, b] ta) (hs : starEach [a, b] X.env = [(false, eval a X.env), (false, eval b X.env)] := by rfl) (hs2 : starEach [b] X.env = [(false, eval b X.env)] := by rfl) :
    PI X tg (.Call (.Name "range" p) [a, b] [] pos) (iRng2 ta) := by
  intro pins s σ H R I h
  refine Call_ (ld_blt I hg hm boot_range (PyProof.Rows.callWith_type1 (thn (ha pos pins s σ H _ I h) fun us s1 ⟨vs, H1, I1, r1, q1⟩ => ?_) (by rw [hs, hs2]) (by rw [hs2]; rfl)))
  obtain ⟨i, j, e, ⟨q1, q2, q3, q4⟩, q⟩ := q1
  subst e
  cases r1 with
  | cons r rr =>
    cases rr with
    | cons r' rr =>
      cases rr
      obtain ⟨t, rfl⟩ := r
      obtain ⟨t', rfl⟩ := r'
      exact call_range_2 (range_it I1 q1 q2 q3 q4 q)
noncomputable def tFor (wi : TI) (g : TG) (tb : TS) : TS := fun D σ H => wi σ H fun J H1 => ∃ W : Nat → Nat → St → Hp → Prop, (∃ m, W 0 m σ H1) ∧ ∀ i m σ H, W i m σ H →
  (J.stop i H ∧ D.nx σ H) ∨ (J.go i H ∧ ∃ N : St → Hp → Prop, (∀ σ' H', N σ' H' → ∃ m', m' < m ∧ W (i + 1) m' σ' H') ∧ ∀ x H', J.yld i H x H' → g x σ H' fun σ2 H2 => tb { D with nx := N, ct := N, bk := D.nx } σ2 H2)
noncomputable def pinsAt (fp : List Addr) (h : Heap) : List (Addr × Obj) := fp.filterMap fun b => (h.get? b).map fun o => (b, o)
theorem mem_pinsAt {fp : List Addr} {h : Heap} {b : Addr} {o : Obj} (hb : b ∈ fp) (e : h.get? b = some o) : (b, o) ∈ pinsAt fp h := List.mem_filterMap.mpr ⟨b, hb, by rw [e]; rfl⟩
theorem of_pinsAt {fp : List Addr} {h : Heap} {p : Addr × Obj} (hp : p ∈ pinsAt fp h) : p.1 ∈ fp ∧ h.get? p.1 = some p.2 := by
  obtain ⟨b, hb, e⟩ := List.mem_filterMap.mp hp
  cases q : h.get? b with
  | none => rw [q] at e; cases e
  | some o =>
    rw [q] at e
    have e' : (b, o) = p := Option.some.inj e
    subst e'
    exact ⟨hb, q⟩
theorem Inv.pinned {pins : List (Addr × Obj)} {σ : St} {H : Hp} {s : Shared} {fp : List Addr} (I : Inv X pins σ H s) (hf : ∀ b ∈ fp, FpOk X pins H b) (ho : ∀ b ∈ fp, ∃ o, s.heap.get? b = some o ∧ ∀ v, o.data ≠ .cell v) : Inv X (pins ++ pinsAt fp s.heap) σ H s :=
  I.pins_of fun p hp => (List.mem_append.mp hp).elim (fun z => I.pin p (List.mem_append_right _ z)) fun z => by
    obtain ⟨hb, e⟩ := of_pinsAt z
    obtain ⟨f0, f1, f2, _⟩ := hf p.1 hb
    obtain ⟨o, e', d⟩ := ho p.1 hb
    rw [e] at e'; cases e'
    exact ⟨e, f0, f1, f2, d⟩
theorem Inv.unpinned {pins pl : List (Addr × Obj)} {σ : St} {H : Hp} {s : Shared} (I : Inv X (pins ++ pl) σ H s) : Inv X pins σ H s := I.pins_of fun p hp => I.pin p (List.mem_append_right _ (List.mem_append_left _ hp))
theorem ps_for {iter : Expr} {body : List Stmt} {wi : TI} {g : TG} {tb : TS} {pos : Pos} (hp : PassesOwn (model X.prog X.w) X.A X.env X.xe) (hc : X.calm = true) (hi : PI X tg iter wi) (hg : PG X tg g) (hb : PSs X body tb)
    (hs : ∀ x, foldedSetIterable iter X.env x = pure x := by intro _; rfl) : PS X (.For tg iter body [] pos) (tFor wi g tb) := by
  intro pins s σ H D I h
  refine wpAny_For (thn (hi pins s σ H _ I h) fun v s1 h1 => thn h1 fun itv s2 h2 => ?_) hs
  obtain ⟨it, fp, tn, J, H2, e, I2, T, st2, f2, W, ⟨m0, w0⟩, turn⟩ := h2
  subst e
  have stat : ∀ {H' : Hp}, (∀ b ∈ fp, H' b = none) → ∀ b ∈ fp, FpOk X pins H' b := fun hn b hb => ⟨hn b hb, (f2 b hb).2⟩
  refine codeAny_forLoop_any (fun n s' => ∃ i σ' H', Inv X pins σ' H' s' ∧ tn i s'.heap ∧ (∀ b ∈ fp, H' b = none) ∧ W i n σ' H') ?_ m0 ⟨0, σ, H2, I2, st2, fun b hb => (f2 b hb).1, w0⟩
  rintro n s3 ⟨i, σ3, H3, I3, st3, fr3, w3⟩
  rcases turn i n σ3 H3 w3 with ⟨stop, qn⟩ | ⟨go, N, hN, step⟩
  · refine wpAny_passesOwn hp (thn (T.done X rfl rfl rfl hc i pins s3 σ3 H3 X.xe I3 (stat fr3) st3 stop) fun r s4 ⟨hr, I4⟩ => ?_)
    subst hr
    exact wpAny_execs_nil ⟨σ3, H3, I4, qn⟩
  · refine wpAny_passesOwn hp (thn (T.item X rfl rfl rfl hc i pins s3 σ3 H3 X.xe I3 (stat fr3) st3 go) fun r s4 ⟨u, hr, h4⟩ => ?_)
    subst hr
    refine wpAny_passesOwn hp (thn h4 fun _ s5 ⟨x, H5, I5, r5, y5, st5, fr5⟩ => ?_)
    have I5' := I5.pinned (stat fr5) (T.obj _ _ st5)
    refine wpAny_passesOwn hp (thn (hg _ s5 σ3 H5 x u _ I5' r5 (step x H5 y5)) fun _ s6 ⟨σ6, H6, I6, q6⟩ => ?_)
    refine wpAny_passesOwn hp (thn (hb _ s6 σ6 H6 _ I6 q6) fun f s7 q7 => ?_)
    have again : ∀ {σ7 : St} {H7 : Hp}, Inv X (pins ++ pinsAt fp s5.heap) σ7 H7 s7 → N σ7 H7 → ∃ m, m < n ∧ ∃ i σ' H', Inv X pins σ' H' s7 ∧ tn i s7.heap ∧ (∀ b ∈ fp, H' b = none) ∧ W i m σ' H' := fun {σ7 H7} I7 n7 => by
      obtain ⟨m', hm, w7⟩ := hN σ7 H7 n7
      refine ⟨m', hm, i + 1, σ7, H7, I7.unpinned, T.keep _ _ _ st5 fun b hb o e => (I7.pin (b, o) (List.mem_append_right _ (List.mem_append_right _ (mem_pinsAt hb e)))).1, fun b hb => ?_, w7⟩
      obtain ⟨o, e, d⟩ := T.obj _ _ st5 b hb
      exact (I7.pin (b, o) (List.mem_append_right _ (List.mem_append_right _ (mem_pinsAt hb e)))).2.1
    cases f with
    | next => obtain ⟨σ7, H7, I7, n7⟩ := q7; exact again I7 n7
    | cont => obtain ⟨σ7, H7, I7, n7⟩ := q7; exact again I7 n7
    | brk => obtain ⟨σ7, H7, I7, q7⟩ := q7; exact ⟨σ7, H7, I7.unpinned, q7⟩
    | ret v => obtain ⟨x7, σ7, H7, I7, r7, q7⟩ := q7; exact ⟨x7, σ7, H7, I7.unpinned, r7, q7⟩
end
theorem for_list {K : PySem.W.Frag} {a : Addr} {xs : List V} {g : TG} {tb : TS} {D : Ends} {σ : St} {H : Hp} (Pv : Nat → St → Hp → Prop) (h0 : Pv 0 σ H) (hl : ∀ i σ H, i ≤ xs.length → Pv i σ H → SqL K H a xs)
    (hs : ∀ i x σ H, xs[i]? = some x → Pv i σ H → g x σ H fun σ2 H2 => tb { D with nx := Pv (i + 1), ct := Pv (i + 1), bk := D.nx } σ2 H2) (hd : ∀ σ H, Pv xs.length σ H → D.nx σ H) :
    ∃ W : Nat → Nat → St → Hp → Prop, (∃ m, W 0 m σ H) ∧ ∀ i m σ H, W i m σ H →
      ((Itl K a).stop i H ∧ D.nx σ H) ∨ ((Itl K a).go i H ∧ ∃ N : St → Hp → Prop, (∀ σ' H', N σ' H' → ∃ m', m' < m ∧ W (i + 1) m' σ' H') ∧ ∀ x H', (Itl K a).yld i H x H' → g x σ H' fun σ2 H2 => tb { D with nx := N, ct := N, bk := D.nx } σ2 H2) := by
  refine ⟨fun i m σ H => m = xs.length - i ∧ i ≤ xs.length ∧ Pv i σ H, ⟨xs.length, by simp, Nat.zero_le _, h0⟩, ?_⟩
  rintro i m σ H ⟨rfl, hi, p⟩
  have q := hl i σ H hi p
  by_cases hlt : i < xs.length
  · refine .inr ⟨⟨xs, xs[i], q, by simp [hlt]⟩, Pv (i + 1), fun σ' H' p' => ⟨xs.length - (i + 1), by omega, rfl, hlt, p'⟩, fun x H' y => ?_⟩
    obtain ⟨e, y⟩ := y
    subst e
    exact hs i x σ _ (y xs q) p
  · have e : i = xs.length := by omega
    subst e
    exact .inl ⟨⟨xs, q, Nat.le_refl _⟩, hd σ H p⟩
theorem for_range {lo : Int} {n : Nat} {g : TG} {tb : TS} {D : Ends} {σ : St} {H : Hp} (Pv : Nat → St → Hp → Prop) (h0 : Pv 0 σ H)
    (hs : ∀ i σ H, i < n → Pv i σ H → g (.int (lo + i)) σ H fun σ2 H2 => tb { D with nx := Pv (i + 1), ct := Pv (i + 1), bk := D.nx } σ2 H2) (hd : ∀ σ H, Pv n σ H → D.nx σ H) :
    ∃ W : Nat → Nat → St → Hp → Prop, (∃ m, W 0 m σ H) ∧ ∀ i m σ H, W i m σ H →
      ((Itr lo n).stop i H ∧ D.nx σ H) ∨ ((Itr lo n).go i H ∧ ∃ N : St → Hp → Prop, (∀ σ' H', N σ' H' → ∃ m', m' < m ∧ W (i + 1) m' σ' H') ∧ ∀ x H', (Itr lo n).yld i H x H' → g x σ H' fun σ2 H2 => tb { D with nx := N, ct := N, bk := D.nx } σ2 H2) := by
  refine ⟨fun i m σ H => m = n - i ∧ i ≤ n ∧ Pv i σ H, ⟨n, by simp, Nat.zero_le _, h0⟩, ?_⟩
  rintro i m σ H ⟨rfl, hi, p⟩
  by_cases hlt : i < n
  · refine .inr ⟨hlt, Pv (i + 1), fun σ' H' p' => ⟨n - (i + 1), by omega, rfl, hlt, p'⟩, fun x H' y => ?_⟩
    obtain ⟨e, y⟩ := y
    subst e y
    exact hs i σ _ hlt p
  · have e : i = n := by omega
    subst e
    exact .inl ⟨Nat.le_refl _, hd σ H p⟩
theorem while_by {c : TT} {tb : TS} {D : Ends} {σ : St} {H : Hp} (Pv : St → Hp → Prop) (μ : St → Hp → Nat) (h0 : Pv σ H)
    (hs : ∀ σ H, Pv σ H → c σ H fun b H1 => if b = true then tb { D with nx := fun σ' H' => Pv σ' H' ∧ μ σ' H' < μ σ H, ct := fun σ' H' => Pv σ' H' ∧ μ σ' H' < μ σ H, bk := D.nx } σ H1 else D.nx σ H1)
    (mono : ∀ σ H Q Q', (∀ b H1, Q b H1 → Q' b H1) → c σ H Q → c σ H Q') : tWhile c tb D σ H := by
  refine ⟨fun m σ H => m = μ σ H ∧ Pv σ H, ⟨_, rfl, h0⟩, ?_⟩
  rintro m σ H ⟨rfl, p⟩
  refine mono σ H _ _ (fun b H1 q => ?_) (hs σ H p)
  cases b with
  | true => exact ⟨_, fun σ' H' ⟨p', l⟩ => ⟨_, l, rfl, p'⟩, q⟩
  | false => exact q
end L2
namespace L2
open PySem PySem.Spec PyProof.Rows
noncomputable abbrev R2 := V → V → Hp → VK → Prop
noncomputable def OpR (X : Cx) (f : Value → Value → Sem Value) (r : R2) : Prop :=
  ∀ (pins : List (Addr × Obj)) (s : Shared) (σ : St) (H : Hp) (x y : V) (v u : Value) (Q : VK), Inv X pins σ H s → RelV x v → RelV y u → r x y H Q →
    wpAny (model X.prog X.w) X.A (f v u) (EP X pins σ Q) X.xe s
noncomputable def UnR (X : Cx) (f : Value → Sem Value) (r : V → Hp → VK → Prop) : Prop :=
  ∀ (pins : List (Addr × Obj)) (s : Shared) (σ : St) (H : Hp) (x : V) (v : Value) (Q : VK), Inv X pins σ H s → RelV x v → r x H Q →
    wpAny (model X.prog X.w) X.A (f v) (EP X pins σ Q) X.xe s
noncomputable def CallR (X : Cx) (f : Value) (r : List V → Hp → VK → Prop) : Prop :=
  ∀ (pins : List (Addr × Obj)) (s : Shared) (σ : St) (H : Hp) (xs : List V) (us : List Value) (Q : VK), Inv X pins σ H s → Vals xs us → r xs H Q →
    wpAny (model X.prog X.w) X.A (call f us) (EP X pins σ Q) X.xe s
noncomputable def tOp (r : R2) (ta tb : TE) : TE := fun σ H Q => ta σ H fun x H1 => tb σ H1 fun y H2 => r x y H2 Q
noncomputable def tUn (r : V → Hp → VK → Prop) (ta : TE) : TE := fun σ H Q => ta σ H fun x H1 => r x H1 Q
noncomputable def rI (C : Int → Int → Prop) (g : Int → Int → V) : R2 := fun x y H Q => ∃ i j, x = .int i ∧ y = .int j ∧ C i j ∧ Q (g i j) H
noncomputable def rI0 (g : Int → Int → V) : R2 := fun x y H Q => ∃ i j, x = .int i ∧ y = .int j ∧ Q (g i j) H
noncomputable def rU (g : Int → V) : V → Hp → VK → Prop := fun x H Q => ∃ i, x = .int i ∧ Q (g i) H
section
variable {X : Cx} {a b c : Expr} {ta tb tc : TE} {pos : Pos}
theorem binT (ha : PE X a ta) (hb : PE X b tb) {pins : List (Addr × Obj)} {s : Shared} {σ : St} {H : Hp} {R : V → V → Hp → Prop} (I : Inv X pins σ H s)
    (h : ta σ H fun x H1 => tb σ H1 fun y H2 => R x y H2) {Q : Value → Shared → Prop} {f : Value → Value → Sem Value}
    (hf : ∀ v u s2 x y H2, Inv X pins σ H2 s2 → RelV x v → RelV y u → R x y H2 → wpAny (model X.prog X.w) X.A (f v u) Q X.xe s2) :
    wpAny (model X.prog X.w) X.A (eval a X.env) (fun v s₁ => wpAny (model X.prog X.w) X.A (eval b X.env) (fun u s₂ => wpAny (model X.prog X.w) X.A (f v u) Q X.xe s₂) X.xe s₁) X.xe s := by
  refine thn (ha pins s σ H _ I h) fun v s1 ⟨x, H1, I1, r1, q1⟩ => ?_
  refine thn (hb pins s1 σ H1 _ I1 q1) fun u s2 ⟨y, H2, I2, r2, q2⟩ => ?_
  exact hf v u s2 x y H2 I2 r1 r2 q2
theorem pe_op {op : Operator} {r : R2} (ho : OpR X (binaryOp op) r) (ha : PE X a ta) (hb : PE X b tb) : PE X (.BinOp a op b pos) (tOp r ta tb) := by
  intro pins s σ H Q I h
  exact wpAny_BinOp (binT ha hb I h fun v u s2 x y H2 I2 rx ry q => ho pins s2 σ H2 x y v u Q I2 rx ry q)
theorem pe_un {op : UnaryOp} {r : V → Hp → VK → Prop} (ho : UnR X (unaryOp op) r) (ha : PE X a ta) : PE X (.UnaryOp op a pos) (tUn r ta) := by
  intro pins s σ H Q I h
  exact UnaryOp_ (thn (ha pins s σ H _ I h) fun v s1 ⟨x, H1, I1, r1, q1⟩ => ho pins s1 σ H1 x v Q I1 r1 q1)
theorem opI {f : Value → Value → Sem Value} {C : Int → Int → Prop} {g : Int → Int → Int}
    (rule : ∀ (i j : Int) (t u : Tok) (s : Shared) (Q : Value → Shared → Prop) (E : Value → Shared → Prop), C i j → Q (.int (g i j) s.toks) { s with toks := s.toks + 1 } → wpAny (model X.prog X.w) X.A (f (.int i t) (.int j u)) Q E s) :
    OpR X f (rI C fun i j => .int (g i j)) := by
  intro pins s σ H x y v u Q I rx ry h
  obtain ⟨i, j, rfl, rfl, hc, q⟩ := h
  obtain ⟨t, rfl⟩ := rx
  obtain ⟨t', rfl⟩ := ry
  exact rule i j t t' s _ _ hc ⟨.int (g i j), H, I.tok _, ⟨_, rfl⟩, q⟩
theorem opI0 {f : Value → Value → Sem Value} {g : Int → Int → Int}
    (rule : ∀ (i j : Int) (t u : Tok) (s : Shared) (Q : Value → Shared → Prop) (E : Value → Shared → Prop), Q (.int (g i j) s.toks) { s with toks := s.toks + 1 } → wpAny (model X.prog X.w) X.A (f (.int i t) (.int j u)) Q E s) :
    OpR X f (rI0 fun i j => .int (g i j)) := by
  intro pins s σ H x y v u Q I rx ry h
  obtain ⟨i, j, rfl, rfl, q⟩ := h
  obtain ⟨t, rfl⟩ := rx
  obtain ⟨t', rfl⟩ := ry
  exact rule i j t t' s _ _ ⟨.int (g i j), H, I.tok _, ⟨_, rfl⟩, q⟩
theorem opB0 {f : Value → Value → Sem Value} {g : Int → Int → Bool}
    (rule : ∀ (i j : Int) (t u : Tok) (s : Shared) (Q : Value → Shared → Prop) (E : Value → Shared → Prop), Q (.bool (g i j)) s → wpAny (model X.prog X.w) X.A (f (.int i t) (.int j u)) Q E s) :
    OpR X f (rI0 fun i j => .bl (g i j)) := by
  intro pins s σ H x y v u Q I rx ry h
  obtain ⟨i, j, rfl, rfl, q⟩ := h
  obtain ⟨t, rfl⟩ := rx
  obtain ⟨t', rfl⟩ := ry
  exact rule i j t t' s _ _ ⟨.bl (g i j), H, I, rfl, q⟩
noncomputable def CDiv (i j : Int) : Prop := 0 < j ∧ j < 1073741824
noncomputable def CMul (i j : Int) : Prop := (-(2 ^ 64) < i ∧ i < 2 ^ 64) ∨ (-(2 ^ 64) < j ∧ j < 2 ^ 64)
theorem CMul.ok {i j : Int} (h : CMul i j) : IntMulOk i j := by
  rcases h with ⟨h1, h2⟩ | ⟨h1, h2⟩
  · exact .of_left (intBits_le_64 h1 h2)
  · exact .of_right (intBits_le_64 h1 h2)
theorem op_add : OpR X (binaryOp .Add) (rI0 fun i j => .int (i + j)) := opI0 fun _ _ _ _ _ _ _ q => add_int q
theorem op_sub : OpR X (binaryOp .Sub) (rI0 fun i j => .int (i - j)) := opI0 fun _ _ _ _ _ _ _ q => sub_int q
theorem op_mul : OpR X (binaryOp .Mult) (rI CMul fun i j => .int (i * j)) := opI fun _ _ _ _ _ _ _ hc q => mul_int q hc.ok
theorem op_fdiv : OpR X (binaryOp .FloorDiv) (rI CDiv fun i j => .int (i / j)) := opI fun i j _ _ _ _ _ hc q => by
  have h1 : (0 : Int) < j := hc.1
  have h2 : j < 1073741824 := hc.2
  exact floordiv_int (by omega) (by rw [Int.fdiv_eq_ediv_of_nonneg i (by omega)]; exact q) (.inl (PyProof.noPylong_small (by omega)))
theorem op_mod : OpR X (binaryOp .Mod) (rI (fun _ j => 0 < j) fun i j => .int (i % j)) := opI fun i j _ _ _ _ _ hc q => by
  have h1 : (0 : Int) < j := hc
  exact mod_int' (by omega) (by rw [Int.fmod_eq_emod_of_nonneg i (by omega)]; exact q)
theorem unI {f : Value → Sem Value} {g : Int → Int}
    (rule : ∀ (i : Int) (t : Tok) (s : Shared) (Q : Value → Shared → Prop) (E : Value → Shared → Prop), Q (.int (g i) s.toks) { s with toks := s.toks + 1 } → wpAny (model X.prog X.w) X.A (f (.int i t)) Q E s) :
    UnR X f (rU fun i => .int (g i)) := by
  intro pins s σ H x v Q I rx h
  obtain ⟨i, rfl, q⟩ := h
  obtain ⟨t, rfl⟩ := rx
  exact rule i t s _ _ ⟨.int (g i), H, I.tok _, ⟨_, rfl⟩, q⟩
theorem un_neg : UnR X (unaryOp .USub) (rU fun i => .int (-i)) := unI fun _ _ _ _ _ q => neg_int q
end
noncomputable def scal : V → V → Bool
  | .non, .non => true | .non, .int _ => true | .int _, .non => true | .non, .bl _ => true | .bl _, .non => true | .non, .str _ => true | .str _, .non => true
  | .int _, .int _ => true | .bl _, .bl _ => true | .str _, .str _ => true | .byt _, .byt _ => true
  | .int _, .str _ => true | .str _, .int _ => true | .bl _, .str _ => true | .str _, .bl _ => true
  | _, _ => false
noncomputable def rEq : R2 := fun x y H Q => scal x y = true ∧ Q (.bl (decide (x = y))) H
noncomputable def rNe : R2 := fun x y H Q => scal x y = true ∧ Q (.bl (!decide (x = y))) H
theorem dec_int {i j : Int} : decide (V.int i = V.int j) = (i == j) := by
  rw [Bool.eq_iff_iff]
  simp
theorem dec_bl {i j : Bool} : decide (V.bl i = V.bl j) = (i == j) := by
  rw [Bool.eq_iff_iff]
  simp
theorem dec_str {i j : Str} : decide (V.str i = V.str j) = (i == j) := by
  rw [Bool.eq_iff_iff]
  simp
theorem dec_byt {i j : Array UInt8} : decide (V.byt i = V.byt j) = (i.toList == j.toList) := by
  rw [Bool.eq_iff_iff]
  cases i
  cases j
  simp
section
variable {X : Cx} {a b c : Expr} {ta tb tc : TE} {pos : Pos}
theorem fin_bl {pins : List (Addr × Obj)} {σ : St} {H : Hp} {s : Shared} {Q : VK} {k k' : Bool} (I : Inv X pins σ H s) (q : Q (.bl k) H) (e : k = k') : EP X pins σ Q (.bool k') s := by
  subst e
  exact ⟨.bl k, H, I, rfl, q⟩
theorem op_eq : OpR X (compareOp .Eq) rEq := by
  intro pins s σ H x y v u Q I rx ry h
  obtain ⟨hs, q⟩ := h
  cases x with
  | non =>
    cases rx
    cases y with
    | non => cases ry; exact PySem.EqNone.eq_none_none (fin_bl I q (by simp))
    | bl j => cases ry; exact PySem.EqNone.eq_none_bool (fin_bl I q (by simp))
    | int j => obtain ⟨t', rfl⟩ := ry; exact PySem.EqNone.eq_none_int (fin_bl I q (by simp))
    | str j => obtain ⟨t', rfl⟩ := ry; exact PySem.EqNone.eq_none_str (fin_bl I q (by simp))
    | _ => exact absurd (show false = true from hs) Bool.false_ne_true
  | bl i =>
    cases rx
    cases y with
    | non => cases ry; exact PySem.EqNone.eq_bool_none (fin_bl I q (by simp))
    | bl j => cases ry; exact eq_bool (fin_bl I q dec_bl)
    | str j => obtain ⟨t', rfl⟩ := ry; exact PySem.EqMixed.eq_bool_str (fin_bl I q (by simp))
    | _ => exact absurd (show false = true from hs) Bool.false_ne_true
  | int i =>
    obtain ⟨t, rfl⟩ := rx
    cases y with
    | non => cases ry; exact PySem.EqNone.eq_int_none (fin_bl I q (by simp))
    | int j => obtain ⟨t', rfl⟩ := ry; exact eq_int (fin_bl I q dec_int)
    | str j => obtain ⟨t', rfl⟩ := ry; exact PySem.EqMixed.eq_int_str (fin_bl I q (by simp))
    | _ => exact absurd (show false = true from hs) Bool.false_ne_true
  | str i =>
    obtain ⟨t, rfl⟩ := rx
    cases y with
    | non => cases ry; exact PySem.EqNone.eq_str_none (fin_bl I q (by simp))
    | bl j => cases ry; exact PySem.EqMixed.eq_str_bool (fin_bl I q (by simp))
    | int j => obtain ⟨t', rfl⟩ := ry; exact PySem.EqMixed.eq_str_int (fin_bl I q (by simp))
    | str j => obtain ⟨t', rfl⟩ := ry; exact eq_str (fin_bl I q dec_str)
    | _ => exact absurd (show false = true from hs) Bool.false_ne_true
  | byt i =>
    obtain ⟨t, rfl⟩ := rx
    cases y with
    | byt j => obtain ⟨t', rfl⟩ := ry; exact PySem.W.eq_bytes (fin_bl I q dec_byt)
    | _ => exact absurd (show false = true from hs) Bool.false_ne_true
  | _ => cases y <;> exact absurd (show false = true from hs) Bool.false_ne_true
theorem op_ne : OpR X (compareOp .NotEq) rNe := by
  intro pins s σ H x y v u Q I rx ry h
  obtain ⟨hs, q⟩ := h
  cases x with
  | non =>
    cases rx
    cases y with
    | non => cases ry; exact PySem.EqNone.ne_none_none (fin_bl I q (by simp))
    | bl j => cases ry; exact PySem.EqNone.ne_none_bool (fin_bl I q (by simp))
    | int j => obtain ⟨t', rfl⟩ := ry; exact PySem.EqNone.ne_none_int (fin_bl I q (by simp))
    | str j => obtain ⟨t', rfl⟩ := ry; exact PySem.EqNone.ne_none_str (fin_bl I q (by simp))
    | _ => exact absurd (show false = true from hs) Bool.false_ne_true
  | bl i =>
    cases rx
    cases y with
    | non => cases ry; exact PySem.EqNone.ne_bool_none (fin_bl I q (by simp))
    | bl j => cases ry; exact ne_bool (fin_bl I q (congrArg not dec_bl))
    | str j => obtain ⟨t', rfl⟩ := ry; exact PySem.EqMixed.ne_bool_str (fin_bl I q (by simp))
    | _ => exact absurd (show false = true from hs) Bool.false_ne_true
  | int i =>
    obtain ⟨t, rfl⟩ := rx
    cases y with
    | non => cases ry; exact PySem.EqNone.ne_int_none (fin_bl I q (by simp))
    | int j => obtain ⟨t', rfl⟩ := ry; exact ne_int (fin_bl I q (congrArg not dec_int))
    | str j => obtain ⟨t', rfl⟩ := ry; exact PySem.EqMixed.ne_int_str (fin_bl I q (by simp))
    | _ => exact absurd (show false = true from hs) Bool.false_ne_true
  | str i =>
    obtain ⟨t, rfl⟩ := rx
    cases y with
    | non => cases ry; exact PySem.EqNone.ne_str_none (fin_bl I q (by simp))
    | bl j => cases ry; exact PySem.EqMixed.ne_str_bool (fin_bl I q (by simp))
    | int j => obtain ⟨t', rfl⟩ := ry; exact PySem.EqMixed.ne_str_int (fin_bl I q (by simp))
    | str j => obtain ⟨t', rfl⟩ := ry; exact ne_str (fin_bl I q (congrArg not dec_str))
    | _ => exact absurd (show false = true from hs) Bool.false_ne_true
  | byt i =>
    obtain ⟨t, rfl⟩ := rx
    cases y with
    | byt j => obtain ⟨t', rfl⟩ := ry; exact PySem.W.ne_bytes (fin_bl I q (congrArg not dec_byt))
    | _ => exact absurd (show false = true from hs) Bool.false_ne_true
  | _ => cases y <;> exact absurd (show false = true from hs) Bool.false_ne_true
theorem op_lt : OpR X (compareOp .Lt) (rI0 fun i j => .bl (decide (i < j))) := opB0 fun _ _ _ _ _ _ _ q => lt_int q
theorem op_le : OpR X (compareOp .LtE) (rI0 fun i j => .bl (decide (i ≤ j))) := opB0 fun _ _ _ _ _ _ _ q => le_int q
theorem op_gt : OpR X (compareOp .Gt) (rI0 fun i j => .bl (decide (j < i))) := opB0 fun _ _ _ _ _ _ _ q => gt_int q
theorem op_ge : OpR X (compareOp .GtE) (rI0 fun i j => .bl (decide (j ≤ i))) := opB0 fun _ _ _ _ _ _ _ q => ge_int q
theorem op_isN : OpR X (compareOp .Is) (fun x y H Q => y = .non ∧ Q (.bl (decide (x = .non))) H) := by
  intro pins s σ H x y v u Q I rx ry h
  obtain ⟨rfl, q⟩ := h
  cases ry
  refine is_none_gen (fin_bl I q ?_)
  cases x <;> first
    | (cases rx; rfl)
    | (obtain ⟨t, rfl⟩ := rx; rfl)
theorem op_notN : OpR X (compareOp .IsNot) (fun x y H Q => y = .non ∧ Q (.bl (!decide (x = .non))) H) := by
  intro pins s σ H x y v u Q I rx ry h
  obtain ⟨rfl, q⟩ := h
  cases ry
  refine isnot_none_gen (fin_bl I q ?_)
  cases x <;> first
    | (cases rx; rfl)
    | (obtain ⟨t, rfl⟩ := rx; rfl)
theorem OpR.or {f : Value → Value → Sem Value} {r r' : R2} (h : OpR X f r) (h' : OpR X f r') : OpR X f (fun x y H Q => r x y H Q ∨ r' x y H Q) := by
  intro pins s σ H x y v u Q I rx ry q
  rcases q with q | q
  · exact h pins s σ H x y v u Q I rx ry q
  · exact h' pins s σ H x y v u Q I rx ry q
theorem nomark (b : Expr) {op : CmpOp} (h : op ≠ .In := by decide) (h2 : op ≠ .NotIn := by decide) : behindInMarks op b = false := by
  have e1 : (op == CmpOp.In) = false := by cases op <;> first | rfl | exact absurd rfl h
  have e2 : (op == CmpOp.NotIn) = false := by cases op <;> first | rfl | exact absurd rfl h2
  cases b <;> simp [behindInMarks, e1, e2]
theorem pe_cmpR {op : CmpOp} {r : R2} (ho : OpR X (compareOp op) r) (ha : PE X a ta) (hb : PE X b tb) (hm : behindInMarks op b = false) : PE X (.Compare a [op] [b] pos) (tOp r ta tb) := by
  intro pins s σ H Q I h
  exact wpAny_Compare1 (binT ha hb I h fun v u s2 x y H2 I2 rx ry q => ho pins s2 σ H2 x y v u Q I2 rx ry q) hm
noncomputable def tTest (t : TE) : TT := fun σ H Q => t σ H fun x H' => ∃ k, x = .bl k ∧ Q k H'
theorem pt_cmpR {op : CmpOp} {r : R2} (ho : OpR X (compareOp op) r) (ha : PE X a ta) (hb : PE X b tb) (hm : behindInMarks op b = false) : PT X (.Compare a [op] [b] pos) (tTest (tOp r ta tb)) := by
  intro pins s σ H Q I h
  refine wpAny_isTrue_Compare1 (thn (ha pins s σ H _ I h) fun v s1 ⟨x, H1, I1, r1, q1⟩ => thn (hb pins s1 σ H1 _ I1 q1) fun u s2 ⟨y, H2, I2, r2, q2⟩ =>
    thn (ho pins s2 σ H2 x y v u _ I2 r1 r2 q2) fun c s3 ⟨z, H3, I3, r3, k, e, q3⟩ => ?_) hm
  subst e
  cases r3
  exact wpAny_truthy_bool ⟨H3, I3, q3⟩
noncomputable def tChain (r r' : R2) (ta tb tc : TE) : TE := fun σ H Q => ta σ H fun x H1 => tb σ H1 fun y H2 => r x y H2 fun z H3 => ∃ k, z = .bl k ∧
  (if k = true then tc σ H3 fun w' H4 => r' y w' H4 Q else Q (.bl false) H3)
theorem pe_chain {op op' : CmpOp} {r r' : R2} (ho : OpR X (compareOp op) r) (ho' : OpR X (compareOp op') r') (ha : PE X a ta) (hb : PE X b tb) (hc : PE X c tc)
    (hm : lastMarks [op, op'] [b, c] = false := by with_unfolding_all rfl) : PE X (.Compare a [op, op'] [b, c] pos) (tChain r r' ta tb tc) := by
  intro pins s σ H Q I h
  refine Compare_chain (thn (ha pins s σ H _ I h) fun v s1 ⟨x, H1, I1, r1, q1⟩ => chain_link (thn (hb pins s1 σ H1 _ I1 q1) fun u s2 ⟨y, H2, I2, r2, q2⟩ =>
    thn (ho pins s2 σ H2 x y v u _ I2 r1 r2 q2) fun d s3 ⟨z, H3, I3, r3, k, e, q3⟩ => ?_)) hm
  subst e
  cases r3
  refine wpAny_truthy_bool ?_
  cases k with
  | false => exact ite_ff ⟨.bl false, H3, I3, rfl, q3⟩
  | true => exact ite_tt (chain_last (thn (hc pins s3 σ H3 _ I3 q3) fun w' s4 ⟨z', H4, I4, r4, q4⟩ => ho' pins s4 σ H4 y z' u w' Q I4 r2 r4 q4))
theorem pt_chain {op op' : CmpOp} {r r' : R2} (ho : OpR X (compareOp op) r) (ho' : OpR X (compareOp op') r') (ha : PE X a ta) (hb : PE X b tb) (hc : PE X c tc)
    (hm : lastMarks [op, op'] [b, c] = false := by with_unfolding_all rfl) : PT X (.Compare a [op, op'] [b, c] pos) (tTest (tChain r r' ta tb tc)) := by
  intro pins s σ H Q I h
  refine isTrue_chain (thn (ha pins s σ H _ I h) fun v s1 ⟨x, H1, I1, r1, q1⟩ => test_link (thn (hb pins s1 σ H1 _ I1 q1) fun u s2 ⟨y, H2, I2, r2, q2⟩ =>
    thn (ho pins s2 σ H2 x y v u _ I2 r1 r2 q2) fun d s3 ⟨z, H3, I3, r3, k, e, q3⟩ => ?_)) hm
  subst e
  cases r3
  refine wpAny_truthy_bool ?_
  cases k with
  | false =>
    obtain ⟨k', e', q'⟩ := q3
    cases e'
    exact ite_ff ⟨H3, I3, q'⟩
  | true =>
    refine ite_tt (test_last (thn (hc pins s3 σ H3 _ I3 q3) fun w' s4 ⟨z', H4, I4, r4, q4⟩ => thn (ho' pins s4 σ H4 y z' u w' _ I4 r2 r4 q4) fun d' s5 ⟨z2, H5, I5, r5, k2, e2, q5⟩ => ?_))
    subst e2
    cases r5
    exact wpAny_truthy_bool ⟨H5, I5, q5⟩
theorem line63 : (sizeLine : Nat) < 2 ^ 63 := by rw [sizeLine_eq]; decide
theorem vals1 {x : V} {us : List Value} (r : Vals [x] us) : ∃ u, us = [u] ∧ RelV x u := by
  cases r with
  | cons r1 r2 => cases r2; exact ⟨_, rfl, r1⟩
theorem vals2 {x y : V} {us : List Value} (r : Vals [x, y] us) : ∃ u w', us = [u, w'] ∧ RelV x u ∧ RelV y w' := by
  cases r with
  | cons r1 r2 =>
    cases r2 with
    | cons r3 r4 => cases r4; exact ⟨_, _, rfl, r1, r3⟩
theorem call_abs : CallR X (.builtin "abs") (fun xs H Q => ∃ i, xs = [.int i] ∧ Q (.int (if i < 0 then -i else i)) H) := by
  intro pins s σ H xs us Q I r h
  obtain ⟨i, rfl, q⟩ := h
  obtain ⟨u, rfl, t, rfl⟩ := vals1 r
  exact call_abs_int fun u tk => ⟨.int (if i < 0 then -i else i), H, I.tok _, ⟨_, rfl⟩, q⟩
theorem call_max2 (hc : X.calm = true) : CallR X (.builtin "max") (fun xs H Q => ∃ i j, xs = [.int i, .int j] ∧ Q (.int (if j > i then j else i)) H) := by
  intro pins s σ H xs us Q I r h
  obtain ⟨i, j, rfl, q⟩ := h
  obtain ⟨u, w', rfl, ⟨t, rfl⟩, ⟨t', rfl⟩⟩ := vals2 r
  refine max_two_ints (I.ok.hd hc) fun h' tk k => ⟨_, H, I.kept k, ?_, q⟩
  by_cases hj : j > i
  · rw [if_pos hj, if_pos hj]; exact ⟨_, rfl⟩
  · rw [if_neg hj, if_neg hj]; exact ⟨_, rfl⟩
theorem call_min2 (hc : X.calm = true) : CallR X (.builtin "min") (fun xs H Q => ∃ i j, xs = [.int i, .int j] ∧ Q (.int (if j < i then j else i)) H) := by
  intro pins s σ H xs us Q I r h
  obtain ⟨i, j, rfl, q⟩ := h
  obtain ⟨u, w', rfl, ⟨t, rfl⟩, ⟨t', rfl⟩⟩ := vals2 r
  refine min_two_ints (I.ok.hd hc) fun h' tk k => ⟨_, H, I.kept k, ?_, q⟩
  by_cases hj : j < i
  · rw [if_pos hj, if_pos hj]; exact ⟨_, rfl⟩
  · rw [if_neg hj, if_neg hj]; exact ⟨_, rfl⟩
theorem call_int1 : CallR X (.type "int") (fun xs H Q => (∃ i, xs = [.int i] ∧ Q (.int i) H) ∨ ∃ k, xs = [.bl k] ∧ Q (.int (if k then 1 else 0)) H) := by
  intro pins s σ H xs us Q I r h
  rcases h with ⟨i, rfl, q⟩ | ⟨k, rfl, q⟩
  · obtain ⟨u, rfl, t, rfl⟩ := vals1 r
    exact call_int_int ⟨.int i, H, I, ⟨_, rfl⟩, q⟩
  · obtain ⟨u, rfl, r1⟩ := vals1 r
    cases r1
    exact call_int_bool ⟨.int (if k then 1 else 0), H, I.tok _, ⟨_, rfl⟩, q⟩
theorem call_str_int : CallR X (.type "str") (fun xs H Q => ∃ i, xs = [.int i] ∧ i.natAbs.log2 < 1920 ∧ Q (.str (toString i)) H) := by
  intro pins s σ H xs us Q I r h
  obtain ⟨i, rfl, hz, q⟩ := h
  obtain ⟨u, rfl, t, rfl⟩ := vals1 r
  exact PySem.P.str_of_int hz ⟨.str _, H, I.tok _, ⟨_, rfl⟩, q⟩
end
end L2
namespace L2
open PySem PySem.Spec PyProof.Rows
structure ObjM (h : Heap) (x dx C : Addr) (mA : Str → Option Value) : Prop where
  obj : h.get? x = some (PySem.W.instObj C dx)
  ns : h.Ns1 dx mA
  ne : dx ≠ x
theorem lookIn_ns {h : Heap} {dx : Addr} {mA : Str → Option Value} (n : h.Ns1 dx mA) : ∃ od, h.get? dx = some od ∧ ∀ name, PySem.W.lookIn name od = some (mA name) := by
  obtain ⟨o, es, ep, ho, hd, hk, _, hm⟩ := n
  refine ⟨o, ho, fun name => ?_⟩
  have e := hm name
  unfold nsFind findBy at e
  rw [← Array.find?_toList] at e
  unfold PySem.W.lookIn
  rw [hd]
  dsimp only
  split
  · rename_i y q
    rw [q] at e
    exact congrArg some e
  · rename_i q
    rw [q] at e
    have a : es.toList.any (·.refKey) = false := by
      rw [List.any_eq_false]
      intro y hy
      obtain ⟨z, t, hkey⟩ := hk y (Array.mem_toList_iff.mp hy)
      simp [DictEntry.refKey, hkey]
    have a' : ¬ es.toList.any (·.refKey) = true := by rw [a]; exact Bool.false_ne_true
    rw [if_neg a']
    exact congrArg some e
theorem ObjM.look {h : Heap} {x dx C : Addr} {mA : Str → Option Value} (I : ObjM h x dx C mA) : ∃ od, PySem.W.InstAt h x (PySem.W.instObj C dx) C (some od) ∧ ∀ name, PySem.W.lookIn name od = some (mA name) :=
  let ⟨od, ho, hl⟩ := lookIn_ns I.ns
  ⟨od, ⟨I.obj, rfl, rfl, ho⟩, hl⟩
section
variable {prog : Program} {w : World} {A : Around} {E : Value → Shared → Prop} {s : Shared} {K : PySem.W.Frag} {x dx C f : Addr} {mA : Str → Option Value} {name : Str} {v : Value}
end
section
variable {P : Program} {w : World} {H H' : Hp} {h h' : Heap} {a C dx : Addr} {fs fs' : List (Str × V)}
theorem ins_get (hok : HOk P w H h) (e : H a = some (.ins C dx fs)) : ∃ mA, ObjM h a dx C mA ∧ (∀ f, RelO (fs.lookup f) (mA f)) ∧ PySem.Within mA (fs.map (·.1)) ∧ fs.length ≤ 1000 ∧ H dx = some (.own a) := by
  obtain ⟨d, z, ne, ob, mA, n, r, q⟩ := (show ObjOk P w H h a (.ins C dx fs) from hok a _ e)
  exact ⟨mA, ⟨ob, n, ne⟩, r, q, z, d⟩
end
structure Cls (K : PySem.W.Frag) (C : Addr) : Prop where
  pg : PySem.W.plainGet K C Str.empty = true
  hd : PySem.W.hasDictIn K C = true
  po : PySem.W.plainOver K C = true
  sa : PySem.W.findIn K (.ref C) "__setattr__" = some (some (.builtin "object.__setattr__"))
theorem Cls.get {K : PySem.W.Frag} {C : Addr} (c : Cls K C) (f : Str) : PySem.W.plainGet K C f = true := c.pg
structure Con (K : PySem.W.Frag) (C : Addr) (f : Str) (v : V) (u : Value) : Prop where
  at_ : PySem.W.findIn K (.ref C) f = some (some u)
  rel : RelV v u
  get : PySem.W.specialIn K u "__get__" = some none
  cp : PySem.W.copiedNames.contains f = false
structure Meth (K : PySem.W.Frag) (C : Addr) (m : Str) (f : Addr) : Prop where
  at_ : PySem.W.findIn K (.ref C) m = some (some (.ref f))
  fn : PySem.W.isFn K (.ref f) = true
  kp : PySem.W.keepIn K (.ref f) = true
section
variable {X : Cx} {pins : List (Addr × Obj)} {σ : St} {H : Hp} {s : Shared} {a C dx : Addr} {fs : List (Str × V)} {f : Str} {v : V} {A : Around} {E : Value → Shared → Prop}
theorem Inv.made (I : Inv X pins σ H s) : Inv X pins σ (upd (upd H s.heap.objs.size (.own (s.heap.objs.size + 1))) (s.heap.objs.size + 1) (.ins C s.heap.objs.size []))
    { s with heap := (s.heap.push PySem.W.emptyDict).push (PySem.W.instObj C s.heap.objs.size) } := by
  have e1 : (s.heap.push PySem.W.emptyDict).get? s.heap.objs.size = some PySem.W.emptyDict := Heap.get?_push_size s.heap rfl
  have e2 : ((s.heap.push PySem.W.emptyDict).push (PySem.W.instObj C s.heap.objs.size)).get? (s.heap.objs.size + 1) = some (PySem.W.instObj C s.heap.objs.size) := by
    have := Heap.get?_push_size (s.heap.push PySem.W.emptyDict) (o := PySem.W.instObj C s.heap.objs.size) rfl
    rwa [Heap.size_push] at this
  have e3 : (s.heap.push PySem.W.emptyDict).Ns s.heap.objs.size (fun _ => none) := ⟨PySem.W.emptyDict, #[], _, e1, rfl, (fun e he => absurd he (by simp)), fun _ => rfl⟩
  have I1 := I.laid (a := s.heap.objs.size) (o := .own (s.heap.objs.size + 1)) (h' := s.heap.push PySem.W.emptyDict) (t' := s.toks) (fun b u q => Heap.get?_push_of_some _ q) (Nat.le_refl _) ⟨_, e1⟩
  refine I1.laid (a := s.heap.objs.size + 1) (o := .ins C s.heap.objs.size []) (t' := s.toks) (fun b u q => Heap.get?_push_of_some _ q) (Nat.le_of_eq (Heap.size_push _ _)) ?_
  have ne : s.heap.objs.size ≠ s.heap.objs.size + 1 := Nat.ne_of_lt (Nat.lt_succ_self _)
  refine ⟨by rw [upd_ne ne, upd_same], Nat.zero_le _, ne, e2, fun _ => none, (Heap.Ns1.of_empty e3).at fun o q => Heap.get?_push_of_some _ q, fun _ => True.intro, fun y hy => absurd rfl hy⟩
end
section
variable {X : Cx} {o e value : Expr} {f : Str} {pos pos' tpos : Pos} {ta tv : TE}
end
section
variable {X : Cx} {pins : List (Addr × Obj)} {σ : St} {H : Hp} {s : Shared} {A : Around} {E : Value → Shared → Prop} {Q : Value → Shared → Prop} {c : Value} {b : Bool}
inductive TyOf (K : PySem.W.Frag) (H : Hp) : V → Value → Prop where
  | non : TyOf K H .non (.type "NoneType")
  | bl (x : Bool) : TyOf K H (.bl x) (.type "bool")
  | int (i : Int) : TyOf K H (.int i) (.type "int")
  | str (x : Str) : TyOf K H (.str x) (.type "str")
  | flt (x : UInt64) : TyOf K H (.flt x) (.type "float")
  | lst {a : Addr} {xs : List V} (e : H a = some (.lst xs)) : TyOf K H (.ref a) (.type "list")
  | frz {a : Addr} {o : Obj} {xs : List V} (e : H a = some (.frz o (.lst xs))) : TyOf K H (.ref a) (.type "list")
  | tup {a : Addr} {xs : List V} (e : H a = some (.tup xs)) : TyOf K H (.ref a) (.type "tuple")
  | dK {a : Addr} {kvs : List (Key × V)} (e : H a = some (.dK kvs)) : TyOf K H (.ref a) (.type "dict")
  | dT {a : Addr} {kvs : List (List Key × V)} (e : H a = some (.dT kvs)) : TyOf K H (.ref a) (.type "dict")
  | ins {a C dx : Addr} {fs : List (Str × V)} (e : H a = some (.ins C dx fs)) (cl : Cls K C) (ha : PySem.W.findIn K (.ref C) "__class__" = some (some (.builtin "object.__class__")))
      (hn : PySem.W.specialIn K (.builtin "object.__class__") "__get__" = some (some (.builtin "getset_descriptor.__get__"))) (htk : PySem.W.takesIn K (.builtin "object.__class__") = some true)
      (hm : PySem.W.mroIn K C (.type "object") = some true) : TyOf K H (.ref a) (.ref C)
theorem isinst_ok {x : V} {u t : Value} (I : Inv X pins σ H s) (rx : RelV x u) (ty : TyOf X.K H x t) (e : PySem.W.kitOne X.K t c = some b) (h : ∀ tk, Q (.bool b) { s with toks := tk }) :
    wpAny (model X.prog X.w) A (call (.builtin "isinstance") [u, c]) Q E s := by
  cases ty with
  | non => cases (show u = Value.none from rx); exact PySem.W.kia_one PySem.W.kitx_none I.kIn True.intro e (fun z => nomatch z) h
  | bl y => cases (show u = Value.bool y from rx); exact PySem.W.kia_one PySem.W.kitx_bool I.kIn True.intro e (fun z => nomatch z) h
  | int i => obtain ⟨t, q⟩ := (show ∃ t, u = Value.int i t from rx); cases q; exact PySem.W.kia_one PySem.W.kitx_int I.kIn True.intro e (fun z => nomatch z) h
  | str y => obtain ⟨t, q⟩ := (show ∃ t, u = Value.str y t from rx); cases q; exact PySem.W.kia_one PySem.W.kitx_str I.kIn True.intro e (fun z => nomatch z) h
  | flt y => obtain ⟨t, q⟩ := (show ∃ t, u = Value.float y t from rx); cases q; exact PySem.W.kia_one PySem.W.kitx_float I.kIn True.intro e (fun z => nomatch z) h
  | @lst a xs ea =>
    cases (show u = Value.ref a from rx)
    obtain ⟨_, _, n, _, h1⟩ := (show ObjOk X.prog X.w H s.heap a (.lst xs) from I.hok a _ ea)
    exact PySem.W.kia_one PySem.W.kitx_list I.kIn ⟨_, h1, rfl⟩ e (fun z => nomatch z) h
  | @frz a ob xs ea =>
    cases (show u = Value.ref a from rx)
    obtain ⟨_, _, _, n, _, h1⟩ := (show ObjOk X.prog X.w H s.heap a (.frz ob (.lst xs)) from I.hok a _ ea)
    exact PySem.W.kia_one PySem.W.kitx_list I.kIn ⟨_, h1, rfl⟩ e (fun z => nomatch z) h
  | @tup a xs ea =>
    cases (show u = Value.ref a from rx)
    obtain ⟨_, _, _, p⟩ := (show ObjOk X.prog X.w H s.heap a (.tup xs) from I.hok a _ ea)
    obtain ⟨o, h1, h2, _⟩ := p
    exact PySem.W.kia_one PySem.W.kitx_tuple I.kIn ⟨o, h1, h2⟩ e (fun z => nomatch z) h
  | @dK a kvs ea =>
    cases (show u = Value.ref a from rx)
    obtain ⟨_, _, vs, _, p⟩ := (show ObjOk X.prog X.w H s.heap a (.dK kvs) from I.hok a _ ea)
    obtain ⟨o, es, ep, h1, h2, _⟩ := p
    exact PySem.W.kia_one PySem.W.kitx_dict I.kIn ⟨o, h1, h2.1⟩ e (fun z => nomatch z) h
  | @dT a kvs ea =>
    cases (show u = Value.ref a from rx)
    obtain ⟨_, _, xs, _, o, es, ep, h1, h2, _⟩ := (show ObjOk X.prog X.w H s.heap a (.dT kvs) from I.hok a _ ea)
    exact PySem.W.kia_one PySem.W.kitx_dict I.kIn ⟨o, h1, h2.1⟩ e (fun z => nomatch z) h
  | @ins a C dx fs ea cl ha hn htk hm =>
    cases (show u = Value.ref a from rx)
    obtain ⟨mA, O, _⟩ := ins_get I.hok ea
    obtain ⟨od, J, _⟩ := O.look
    exact PySem.W.kia_one (PySem.W.kitx_own (cl.get _) cl.hd ha hn htk hm) I.kIn J e (fun z => nomatch z) h
end
end L2
namespace L2
open PySem PySem.Spec PyProof.Rows
structure Room (k : Nat) (A : Around) : Prop where
  hd : A.handled = none
  dp : A.depth + 3 * k + 5 < recursionLimit
  un : A.units + 16 * k + 200 < cLine
theorem Room.mono {j k : Nat} {A : Around} (r : Room k A) (h : j ≤ k) : Room j A := ⟨r.hd, by have := r.dp; omega, by have := r.un; omega⟩
theorem Room.deeper {k : Nat} {A : Around} (r : Room (k + 1) A) (env : Env) : Room k (A.deeper env) :=
  ⟨r.hd, by have := r.dp; show A.depth + 1 + 3 * k + 5 < _; omega, by have := r.un; show A.units + 3 + 16 * k + 200 < _; omega⟩
theorem Room.in1 {k : Nat} {A : Around} (r : Room (k + 1) A) : Room k A.in1 :=
  ⟨r.hd, by have := r.dp; show A.depth + 3 * k + 5 < _; omega, by have := r.un; show A.units + 1 + 16 * k + 200 < _; omega⟩
theorem Room.depth {k : Nat} {A : Around} (r : Room k A) : A.depth < recursionLimit := by have := r.dp; omega
theorem Room.units {k : Nat} {A : Around} (r : Room k A) : A.units + 64 < cLine := by have := r.un; omega
noncomputable def tNil : TA := fun _ H Q => Q [] H
noncomputable def tCons (ta : TE) (tr : TA) : TA := fun σ H Q => ta σ H fun x H1 => tr σ H1 fun xs H2 => Q (x :: xs) H2
section
variable {X : Cx} {e : Expr} {es : List Expr} {te : TE} {t : TA} {pos : Pos}
theorem pa_nil : PA X [] tNil := fun _ _ _ _ H Q I h => Calls.spliced_nil ⟨[], H, I, .nil, h⟩
theorem pa_cons (ha : PE X e te) (hr : PA X es t) (hs : starEach (e :: es) X.env = (false, eval e X.env) :: starEach es X.env := by rfl) : PA X (e :: es) (tCons te t) := by
  intro pos pins s σ H Q I h
  rw [hs]
  show wpAny _ _ (spliced ((false, eval e X.env) :: backTo pos (starEach es X.env))) _ _ s
  refine Calls.spliced_cons (thn (ha pins s σ H _ I h) fun u s1 ⟨x, H1, I1, r1, q1⟩ => ?_)
  exact thn (hr pos pins s1 σ H1 _ I1 q1) fun us s2 ⟨xs, H2, I2, r2, q2⟩ => ⟨x :: xs, H2, I2, .cons r1 r2, q2⟩
noncomputable def tTup (t : TA) : TE := fun σ H Q => t σ H fun xs H1 => xs.length ≤ sizeLine ∧ ∀ p, H1 p = none → Q (.ref p) (upd H1 p (.tup xs))
noncomputable def tLst (t : TA) : TE := fun σ H Q => t σ H fun xs H1 => xs.length ≤ sizeLine ∧ ∀ p, H1 p = none → Q (.ref p) (upd H1 p (.lst xs))
theorem pe_tup {x1} (h : PA X es t) : PE X (.Tuple es x1 pos) (tTup t) := by
  intro pins s σ H Q I hq
  refine wpAny_Tuple_spliced (thn (h pos pins s σ H _ I hq) fun us s1 ⟨xs, H1, I1, r, z, q⟩ => ⟨by rw [← r.length]; exact z, ?_⟩)
  have hf : H1 s1.heap.objs.size = none := I1.hok.fresh (Nat.le_refl _)
  refine ⟨.ref s1.heap.objs.size, upd H1 s1.heap.objs.size (.tup xs), I1.laid (t' := s1.toks) (fun b u e => Heap.get?_push_of_some _ e) (Nat.le_refl _) ?_, rfl, q _ hf⟩
  exact ⟨z, us, r, ⟨_, Heap.get?_push_size _ rfl, rfl, _, rfl⟩⟩
theorem pe_lst (h : PA X es t) : PE X (.List es pos) (tLst t) := by
  intro pins s σ H Q I hq
  refine wpAny_List_spliced (thn (h pos pins s σ H _ I hq) fun us s1 ⟨xs, H1, I1, r, z, q⟩ => ⟨by rw [← r.length]; exact z, ?_⟩)
  have hf : H1 s1.heap.objs.size = none := I1.hok.fresh (Nat.le_refl _)
  refine ⟨.ref s1.heap.objs.size, upd H1 s1.heap.objs.size (.lst xs), I1.laid (t' := s1.toks) (fun b u e => Heap.get?_push_of_some _ e) (Nat.le_refl _) ?_, rfl, q _ hf⟩
  exact ⟨z, us, 0, r, Heap.get?_push_size _ rfl⟩
end
noncomputable abbrev Sp := List V → Hp → VK → XK → Prop
noncomputable abbrev CXT := List Env → Hp → Shared → XK → Value → Shared → Prop
structure Env0 (P : Program) (w : World) (K : PySem.W.Frag) (mg : Str → Option Value) (base : Heap) (A : Around) (outer : List Env) (s : Shared) (H : Hp) : Prop where
  frames : A.frames = some outer
  mod : Mod K mg base
  bs : ∀ b o, base.get? b = some o → s.heap.get? b = some o ∧ H b = none
  bsz : base.objs.size ≤ s.heap.objs.size
  funs : s.heap.FunFrames base outer
  frf : ∀ b ∈ frs outer, H b = none
  hok : HOk P w H s.heap
  bare : AllBare s.gens
noncomputable def CE (outer : List Env) (P : Program) (w : World) (H : Hp) (s : Shared) (Q : VK) (u : Value) (s' : Shared) : Prop :=
  ∃ v H', s'.os = s.os ∧ AllBare s'.gens ∧ Un (frs outer) [] H H' s.heap s'.heap ∧ HOk P w H' s'.heap ∧ RelV v u ∧ Q v H'
noncomputable def CR (CX : CXT) (outer : List Env) (P : Program) (w : World) (H : Hp) (s : Shared) (Q : VK) (E : XK) (r : Result) (s' : Shared) : Prop :=
  match r with
  | .ok (.ret u) => CE outer P w H s Q u s'
  | .ok _ => False
  | .error e => CX outer H s E e s'
structure FnOk (P : Program) (w : World) (K : PySem.W.Frag) (mg : Str → Option Value) (base : Heap) (CX : CXT) (k : Nat) (f : Addr) (fd : FuncData) (ps : List Str) (sp : Sp) : Prop where
  len : ∀ vs H Q E, sp vs H Q E → vs.length = ps.length
  run : ∀ (A : Around) (outer : List Env) (s : Shared) (H : Hp) (args : Args) (us : List Value) (vs : List V) (Q : VK) (E : XK), Room k A → Env0 P w K mg base A outer s H → BindsTo s fd args (ps.zip us) → Vals vs us → sp vs H Q E →
    codeAny (model P w) A (.call (.ref f) args) (CR CX outer P w H s Q E) s
theorem FnOk.mono {P : Program} {w : World} {K : PySem.W.Frag} {mg : Str → Option Value} {base : Heap} {CX : CXT} {j k : Nat} {f : Addr} {fd : FuncData} {ps : List Str} {sp : Sp} (F : FnOk P w K mg base CX j f fd ps sp) (h : j ≤ k) :
    FnOk P w K mg base CX k f fd ps sp := ⟨F.len, fun A outer s H args us vs Q E hr => F.run A outer s H args us vs Q E (hr.mono h)⟩
theorem FnOk.imp {P : Program} {w : World} {K : PySem.W.Frag} {mg : Str → Option Value} {base : Heap} {CX : CXT} {k : Nat} {f : Addr} {fd : FuncData} {ps : List Str} {sp sp' : Sp} (F : FnOk P w K mg base CX k f fd ps sp)
    (h : ∀ vs H Q E, sp' vs H Q E → sp vs H Q E) : FnOk P w K mg base CX k f fd ps sp' :=
  ⟨fun vs H Q E q => F.len vs H Q E (h _ _ _ _ q), fun A outer s H args us vs Q E hr he hb hv hs => F.run A outer s H args us vs Q E hr he hb hv (h _ _ _ _ hs)⟩
theorem Env0.in1 {P : Program} {w : World} {K : PySem.W.Frag} {mg : Str → Option Value} {base : Heap} {A : Around} {outer : List Env} {s : Shared} {H : Hp} (e : Env0 P w K mg base A outer s H) :
    Env0 P w K mg base A.in1 outer s H := ⟨e.frames, e.mod, e.bs, e.bsz, e.funs, e.frf, e.hok, e.bare⟩
section
variable {X : Cx} {pins : List (Addr × Obj)} {σ : St} {H : Hp} {s s' : Shared}
theorem Inv.env0 (I : Inv X pins σ H s) : Env0 X.prog X.w X.K X.mg X.base X.A X.stack s H :=
  ⟨I.ok.frames, I.ok.mod, I.bs, Nat.le_trans I.ok.bsz I.sz, I.stack, I.stkFree, I.hok, I.bare⟩
theorem Inv.after {Q : VK} {u : Value} (I : Inv X pins σ H s) (h : CE X.stack X.prog X.w H s Q u s') : EP X pins σ Q u s' := by
  obtain ⟨v, H', os, bare, un, hok, r, q⟩ := h
  obtain ⟨hh, g, d, t, os'⟩ := s'
  obtain rfl : os' = s.os := os
  exact ⟨v, H', I.call (h' := hh) (g' := g) (d' := d) (t' := t) (ch := []) un hok bare (fun b z => absurd z (by simp)), r, q⟩
end
noncomputable def tCall (sp : Sp) (dvs : List V) (E : XK) (t : TA) : TE := fun σ H Q => t σ H fun vs H1 => sp (vs ++ dvs) H1 Q E
noncomputable def Binds (K : PySem.W.Frag) (fd : FuncData) (ps : List Str) (ds : List Value) : Prop :=
  ∀ (s : Shared) (us : List Value), K.In s.heap → (us ++ ds).length = ps.length → BindsTo s fd ⟨us, []⟩ (ps.zip (us ++ ds))
theorem Binds.all {K : PySem.W.Frag} {fd : FuncData} {ps : List Str} (h : ∀ us : List Value, us.length = ps.length → bindArgs fd ⟨us, []⟩ = pure (ps.zip us)) : Binds K fd ps [] := fun s us _ hl => by
  rw [List.append_nil] at hl ⊢
  exact .of_eq (h us hl)
noncomputable def Passes (CX : CXT) (X : Cx) (E : XK) : Prop := ∀ (pins : List (Addr × Obj)) (σ : St) (H : Hp) (s : Shared) (e : Value) (s' : Shared), Inv X pins σ H s → CX X.stack H s E e s' → X.xe e s'
section
variable {X : Cx} {CX : CXT} {k : Nat} {f C : Addr} {fd : FuncData} {ps : List Str} {sp : Sp} {dvs : List V} {ds : List Value} {E : XK} {x m : Str} {p pos apos : Pos} {e o : Expr} {es : List Expr} {ta : TE} {t : TA}
theorem run_fn {pins : List (Addr × Obj)} {σ : St} {H : Hp} {s : Shared} {Q : VK} {us : List Value} {vs : List V} (F : FnOk X.prog X.w X.K X.mg X.base CX k f fd ps sp) (hr : Room k X.A) (hb : Binds X.K fd ps ds) (hd : Vals dvs ds) (hx : Passes CX X E)
    (I : Inv X pins σ H s) (r : Vals vs us) (h : sp (vs ++ dvs) H Q E) : wpAny (model X.prog X.w) X.A (call (.ref f) us) (EP X pins σ Q) X.xe s := by
  have r2 : Vals (vs ++ dvs) (us ++ ds) := r.append hd
  have hl : (us ++ ds).length = ps.length := by rw [← r2.length]; exact F.len _ _ _ _ h
  refine wpAny_call (codeAny_mono (F.run X.A X.stack s H ⟨us, []⟩ (us ++ ds) (vs ++ dvs) Q E hr I.env0 (hb s us I.kIn hl) r2 h) fun r s' hq => ?_)
  cases r with
  | error e => exact hx pins σ H s e s' I hq
  | ok fl =>
    cases fl with
    | ret u => exact I.after hq
    | next => exact False.elim hq
    | brk => exact False.elim hq
    | cont => exact False.elim hq
theorem pe_call (F : FnOk X.prog X.w X.K X.mg X.base CX k f fd ps sp) (hr : Room k X.A) (hg : Gl X x) (hm : X.mg x = some (.ref f)) (hk : PySem.W.keepIn X.K (.ref f) = true) (hb : Binds X.K fd ps ds) (hd : Vals dvs ds) (hx : Passes CX X E)
    (ha : PA X (e :: es) t) (hdb : (x == ("__debug__" : Str)) = false := by decide) (he : starEach (e :: es) X.env = (false, eval e X.env) :: starEach es X.env := by rfl) (hpl : (backTo pos (starEach es X.env)).any (·.1) = false := by rfl) :
    PE X (.Call (.Name x p) (e :: es) [] pos) (tCall sp dvs E t) := by
  intro pins s σ H Q I h
  refine wpAny_Call_Name_kw (ld_glob I hg hm ?_ hdb)
  refine PySem.W.callWith_K (h₀ := X.base) I.ok.mod.kin hk (thn (ha pos pins s σ H _ I h) fun us s1 ⟨vs, H1, I1, r, q⟩ => ⟨I1.kIn, ?_⟩) he hpl
  exact run_fn F hr hb hd hx I1 r q
theorem pe_call0 (F : FnOk X.prog X.w X.K X.mg X.base CX k f fd ps sp) (hr : Room k X.A) (hg : Gl X x) (hm : X.mg x = some (.ref f)) (hk : PySem.W.keepIn X.K (.ref f) = true) (hb : Binds X.K fd ps ds) (hd : Vals dvs ds) (hx : Passes CX X E)
    (hdb : (x == ("__debug__" : Str)) = false := by decide) : PE X (.Call (.Name x p) [] [] pos) (tCall sp dvs E tNil) := by
  intro pins s σ H Q I h
  refine wpAny_Call_Name_kw (ld_glob I hg hm ?_ hdb)
  exact PySem.W.callWith_K0 I.kIn hk (run_fn (us := []) F hr hb hd hx I .nil h)
structure Mk (K : PySem.W.Frag) (C f : Addr) : Prop where
  makes : PySem.W.makesIn K C = true
  init : PySem.W.findIn K (.ref C) "__init__" = some (some (.ref f))
  fn : PySem.W.isFn K (.ref f) = true
  kp : PySem.W.keepIn K (.ref C) = true
end
section
variable {X : Cx} {CX : CXT} {k : Nat} {f C : Addr} {fd : FuncData} {ps ks : List Str} {sp : Sp} {E : XK} {x m : Str} {p pos apos kpos : Pos} {e o : Expr} {es : List Expr} {kws : List Keyword} {te ta : TE} {t tk : TA} {nm : Option Str}
structure KBinds (K : PySem.W.Frag) (fd : FuncData) (ps ks : List Str) (g : List Value → List Value → List Value) (gV : List V → List V → List V) : Prop where
  to : ∀ (s : Shared) (us ws : List Value), K.In s.heap → (g us ws).length = ps.length → BindsTo s fd ⟨us, ks.zip ws⟩ (ps.zip (g us ws))
  rel : ∀ {vs : List V} {us : List Value} {zs : List V} {ws : List Value}, Vals vs us → Vals zs ws → Vals (gV vs zs) (g us ws)
variable {g : List Value → List Value → List Value} {gV : List V → List V → List V}
end
structure FnScope (N P : List Str) (sc : Scope) : Prop where
  kind : sc.kind = .function
  co : sc.isCoroutine = false
  gen : sc.isGenerator = false
  nd : N.Nodup
  pre : N.take P.length = P
  par : ∀ x ∈ P, sc.names.lookup x = some .local ∨ sc.names.lookup x = some .cell
  nofree : ∀ y ∈ sc.names, y.2 ≠ .free
theorem bindL_out {kindOf : Str → Option NameKind} {x : Str} : ∀ {binds : List (Str × Value)} {m : Str → Option Value}, (∀ v, (x, v) ∉ binds) → bindL kindOf binds m x = m x
  | [], _, _ => rfl
  | (n, v) :: r, m, h => by
    unfold bindL
    rw [bindL_out fun w hw => h w (List.mem_cons_of_mem _ hw)]
    split
    · have : x ≠ n := by rintro rfl; exact h v List.mem_cons_self
      simp [this]
    · rfl
theorem bindC_out {kindOf : Str → Option NameKind} {x : Str} : ∀ {binds : List (Str × Value)} {m : Str → Option Value}, (∀ v, (x, v) ∉ binds) → bindC kindOf binds m x = m x
  | [], _, _ => rfl
  | (n, v) :: r, m, h => by
    unfold bindC
    rw [bindC_out fun w hw => h w (List.mem_cons_of_mem _ hw)]
    split
    · rfl
    · have : x ≠ n := by rintro rfl; exact h v List.mem_cons_self
      simp [this]
theorem bindL_get {kindOf : Str → Option NameKind} {x : Str} {v : Value} : ∀ {P : List Str} {vs : List Value} {i : Nat} {m : Str → Option Value}, P.Nodup → P[i]? = some x → vs[i]? = some v → kindOf x = some .local →
    bindL kindOf (P.zip vs) m x = some v
  | [], _, _, _, _, h, _, _ => by simp at h
  | _ :: _, [], _, _, _, _, h, _ => by simp at h
  | p :: P, w :: vs, 0, m, nd, h1, h2, hk => by
    simp at h1 h2; subst h1; subst h2
    show bindL kindOf ((p, w) :: P.zip vs) m p = _
    unfold bindL
    rw [bindL_out fun v hv => (List.nodup_cons.mp nd).1 (List.of_mem_zip hv).1, if_pos hk]
    simp
  | p :: P, w :: vs, i + 1, m, nd, h1, h2, hk => by
    show bindL kindOf ((p, w) :: P.zip vs) m x = _
    unfold bindL
    exact bindL_get (i := i) (List.nodup_cons.mp nd).2 (by simpa using h1) (by simpa using h2) hk
theorem bindC_get {kindOf : Str → Option NameKind} {x : Str} {v : Value} : ∀ {P : List Str} {vs : List Value} {i : Nat} {m : Str → Option Value}, P.Nodup → P[i]? = some x → vs[i]? = some v → kindOf x ≠ some .local →
    bindC kindOf (P.zip vs) m x = some v
  | [], _, _, _, _, h, _, _ => by simp at h
  | _ :: _, [], _, _, _, _, h, _ => by simp at h
  | p :: P, w :: vs, 0, m, nd, h1, h2, hk => by
    simp at h1 h2; subst h1; subst h2
    show bindC kindOf ((p, w) :: P.zip vs) m p = _
    unfold bindC
    rw [bindC_out fun v hv => (List.nodup_cons.mp nd).1 (List.of_mem_zip hv).1, if_neg hk]
    simp
  | p :: P, w :: vs, i + 1, m, nd, h1, h2, hk => by
    show bindC kindOf ((p, w) :: P.zip vs) m x = _
    unfold bindC
    exact bindC_get (i := i) (List.nodup_cons.mp nd).2 (by simpa using h1) (by simpa using h2) hk
noncomputable def start (N : List Str) (vs : List V) : St := vs.map some ++ List.replicate (N.length - vs.length) none
noncomputable def cxOf (CX : CXT) (P : Program) (w : World) (K : PySem.W.Frag) (mg : Str → Option Value) (base : Heap) (N : List Str) (qual : Str) (scope : Scope) (f : Addr) (cd : Value) (A : Around) (outer : List Env) (s : Shared) (H : Hp) (E : XK) : Cx where
  prog := P
  w := w
  K := K
  mg := mg
  base := base
  A := A.deeper (envOfC qual scope s.heap.objs.size f cd)
  N := N
  s₀ := s
  H₀ := H
  env := envOfC qual scope s.heap.objs.size f cd
  outer := outer
  stack := envOfC qual scope s.heap.objs.size f cd :: outer
  ex := []
  calm := true
  fn := fun _ => true
  pn := []
  xe := fun e s' => wpAny (model P w) (A.deeper (envOfC qual scope s.heap.objs.size f cd)) (leaving (envOfC qual scope s.heap.objs.size f cd) e) (fun _ s'' => CX outer H s E e s'') (fun e' s'' => CX outer H s E e' s'') s'
theorem cell_has {sc : Scope} {n : Nat} {x : Str} (h : sc.names.lookup x = some .cell) : ∃ c, (cellsFrom n sc.names []).lookup x = some c := by
  have q := PySem.W.cellsFrom_some sc.names n [] (.inl h)
  exact Option.isSome_iff_exists.mp q
theorem inv_start {CX : CXT} {P : Program} {w : World} {K : PySem.W.Frag} {mg : Str → Option Value} {base : Heap} {N ps : List Str} {qual : Str} {scope : Scope} {f : Addr} {cd : Value} {A : Around} {outer : List Env} {s s1 : Shared} {H : Hp} {E : XK} {us : List Value} {vs : List V}
    (S : FnScope N ps scope) (hd : A.handled = none) (e0 : Env0 P w K mg base A outer s H) (hl : vs.length = ps.length) (r : Vals vs us)
    (x : InCallC s s.heap.objs.size (bindL (envOfC qual scope s.heap.objs.size f cd).kindOf (ps.zip us) fun _ => none) (cellsFrom (s.heap.objs.size + 1) scope.names []) (bindC (envOfC qual scope s.heap.objs.size f cd).kindOf (ps.zip us) fun _ => none) s1) :
    Inv (cxOf CX P w K mg base N qual scope f cd A outer s H E) [] (start N vs) H s1 := by
  have hpl : ps.length ≤ N.length := by have := congrArg List.length S.pre; rw [List.length_take] at this; omega
  obtain ⟨h1, tk, rfl, hk⟩ := x.done
  have noA : ∀ b : Addr, b ∉ (cxOf CX P w K mg base N qual scope f cd A outer s H E).ex := fun b z => absurd (show b ∈ ([] : List Addr) from z) (by simp)
  refine ⟨⟨e0.mod, S.kind, rfl, rfl, Nat.le_refl _, fun y z c h1 h2 => ?_, fun y hy => ?_, fun y c _ h => ?_, fun _ => hd, Around.frames_deeper e0.frames, .inr ⟨rfl, rfl⟩, fun b z => absurd z (noA b), e0.bs, e0.bsz, fun b _ _ => noA b, fun b z => absurd z (noA b), e0.funs, e0.frf⟩,
    rfl, e0.bare, Un.kept hk, ⟨_, x.toInCall.ns, fun i y v h1 h2 h3 => ?_⟩, fun y c h => ⟨_, x.cell y c h⟩, e0.hok.fresh (Nat.le_refl _), fun y c h => ?_, fun p hp => absurd (show p ∈ ([] : List (Addr × Obj)) from hp) (by simp), e0.hok.kept hk, ?_⟩
  · exact name_of_addr x.apart (PySem.mem_of_lookup h1) (PySem.mem_of_lookup h2)
  · have hy : scope.names.lookup y = some .cell ∨ scope.names.lookup y = some .free := hy
    rcases hy with hy | hy
    · exact cell_has hy
    · exact absurd rfl (S.nofree _ (PySem.mem_of_lookup hy))
  · exact Nat.le_of_lt (x.above y c (PySem.mem_of_lookup h))
  · have hi : i < vs.length := by
      unfold start at h2
      by_cases hi : i < vs.length
      · exact hi
      · rw [List.getElem?_append_right (by simpa using hi)] at h2
        rw [List.getElem?_replicate] at h2
        split at h2 <;> cases h2
    have ha : vs[i]? = some v := by
      unfold start at h2
      rw [List.getElem?_append_left (by simpa using hi), List.getElem?_map] at h2
      cases e : vs[i]? with
      | none => rw [e] at h2; cases h2
      | some a => rw [e] at h2; cases h2; rfl
    obtain ⟨u, hu, rv⟩ := r.get ha
    have hp : ps[i]? = some y := by
      rw [← S.pre, List.getElem?_take_of_lt (by omega)]; exact h1
    have ndP : ps.Nodup := by rw [← S.pre]; exact S.nd.sublist (List.take_sublist _ _)
    refine ⟨u, rv, ?_⟩
    rcases S.par y (List.mem_of_getElem? hp) with k | k
    · exact .inl ⟨k, bindL_get ndP hp hu k⟩
    · obtain ⟨c, e⟩ := cell_has (n := s.heap.objs.size + 1) k
      refine .inr ⟨.inl k, c, e, ?_⟩
      have q := x.cell y c e
      rw [bindC_get ndP hp hu (by show scope.names.lookup y ≠ _; rw [k]; decide)] at q
      exact q
  · exact e0.hok.fresh (Nat.le_of_lt (x.above y c (PySem.mem_of_lookup h)))
  · unfold start
    show _ = N.length
    rw [List.length_append, List.length_map, List.length_replicate]
    omega
theorem fn_of {CX : CXT} {P : Program} {w : World} {K : PySem.W.Frag} {mg : Str → Option Value} {base : Heap} {k : Nat} {f : Addr} {name qual : Str} {params : Arguments} {body : List Stmt} {scope : Scope} {dV kV doc pm cdv ct oc : Value} {an od : Option Addr}
    {osl : Array (Option Value)} {N ps : List Str} {sp : Sp} (lk : K.lookup f = some ⟨oc, od, .func (PySem.W.fnOf name qual params body scope dV kV doc pm an cdv ct), osl⟩) (hcd : PySem.W.codeIn K cdv qual = true) (S : FnScope N ps scope)
    (len : ∀ vs H Q E, sp vs H Q E → vs.length = ps.length)
    (hbody : ∀ (A : Around) (outer : List Env) (s : Shared) (H : Hp) (vs : List V) (Q : VK) (E : XK), Room k (A.deeper (envOfC qual scope s.heap.objs.size f cdv)) → sp vs H Q E →
      ∃ t, PSs (cxOf CX P w K mg base N qual scope f cdv A outer s H E) body t ∧ t { nx := fun _ H' => Q .non H', rt := Q } (start N vs) H) :
    FnOk P w K mg base CX (k + 1) f (PySem.W.fnOf name qual params body scope dV kV doc pm an cdv ct) ps sp := by
  refine ⟨len, fun A outer s H args us vs Q E hr e0 hb r hsp => ?_⟩
  have hl := len _ _ _ _ hsp
  have KX : K.In s.heap := e0.mod.kin.keeps fun b o e => (e0.bs b o e).1
  have lim : s.heap.NoLimit := e0.mod.nolimit.keeps fun b o e => (e0.bs b o e).1
  have hkind : ∀ y ∈ ps.zip us, scope.names.lookup y.1 = some .local ∨ (scope.names.lookup y.1 = some .cell ∧ ((cellsFrom (s.heap.objs.size + 1) scope.names []).lookup y.1).isSome = true) := fun ⟨n, v⟩ hy => by
    rcases S.par n (List.of_mem_zip hy).1 with q | q
    · exact .inl q
    · exact .inr ⟨q, PySem.W.cellsFrom_some _ _ _ (.inl q)⟩
  refine codeAny_call_function hr.depth (KX _ _ lk) rfl S.co S.gen rfl (PySem.W.codeRec_of KX hcd) (hb _ _ _ _ ?_)
  refine wpAny_newFunctionEnv_cells S.kind hkind fun env he s1 x => ?_
  subst he
  refine ⟨lim.keeps x.toInCall.keep, codeAny_func ?_⟩
  obtain ⟨t, ht, hq⟩ := hbody A outer s H vs Q E (hr.deeper _) hsp
  have I : Inv (cxOf CX P w K mg base N qual scope f cdv A outer s H E) [] (start N vs) H s1 := inv_start S hr.hd e0 hl r x
  refine wpAny_mono (ht [] s1 (start N vs) H _ I hq) (fun fl s' hs => ?_) fun e s' hs => hs
  have fin : ∀ {σ' : St} {H' : Hp} {v : V} {u : Value}, Inv (cxOf CX P w K mg base N qual scope f cdv A outer s H E) [] σ' H' s' → RelV v u → Q v H' → CE outer P w H s Q u s' :=
    fun {σ' H' v u} J rv q => ⟨v, H', J.os, J.bare, J.base, J.hok, rv, q⟩
  cases fl with
  | ret u =>
    obtain ⟨v, σ', H', J, rv, q⟩ := hs
    exact fin J rv q
  | next =>
    obtain ⟨σ', H', J, q⟩ := hs
    exact fin (v := V.non) (u := Value.none) J rfl q
  | brk =>
    obtain ⟨_, _, _, q⟩ := hs
    exact False.elim q
  | cont =>
    obtain ⟨_, _, _, q⟩ := hs
    exact False.elim q
end L2
namespace L2
open PySem PySem.Spec PyProof.Rows
section
variable {X : Cx} {x : Str} {p pos : Pos} {e : Expr} {es : List Expr} {t : TA} {id T : String} {r : List V → Hp → VK → Prop}
noncomputable def tCB (r : List V → Hp → VK → Prop) (t : TA) : TE := fun σ H Q => t σ H fun vs H1 => r vs H1 Q
theorem pe_callB (hc : CallR X (.builtin id) r) (hg : Gl X x) (hm : X.mg x = none) (hv : bootBuiltins x = some (.builtin id)) (ha : PA X (e :: es) t) (hn : x ≠ "__name__" := by decide) (hdb : (x == ("__debug__" : Str)) = false := by decide)
    (he : starEach (e :: es) X.env = (false, eval e X.env) :: starEach es X.env := by rfl) (hpl : (backTo pos (starEach es X.env)).any (·.1) = false := by rfl) : PE X (.Call (.Name x p) (e :: es) [] pos) (tCB r t) := by
  intro pins s σ H Q I h
  refine wpAny_Call_Name_kw (ld_blt I hg hm hv ?_ hn hdb)
  exact PyProof.Rows.callWith_builtin1 (thn (ha pos pins s σ H _ I h) fun us s1 ⟨vs, H1, I1, r1, q1⟩ => hc pins s1 σ H1 vs us Q I1 r1 q1) he hpl
theorem pe_callTy (hc : CallR X (.type T) r) (hg : Gl X x) (hm : X.mg x = none) (hv : bootBuiltins x = some (.type T)) (ha : PA X (e :: es) t) (hn : x ≠ "__name__" := by decide) (hdb : (x == ("__debug__" : Str)) = false := by decide)
    (he : starEach (e :: es) X.env = (false, eval e X.env) :: starEach es X.env := by rfl) (hpl : (backTo pos (starEach es X.env)).any (·.1) = false := by rfl) : PE X (.Call (.Name x p) (e :: es) [] pos) (tCB r t) := by
  intro pins s σ H Q I h
  refine wpAny_Call_Name_kw (ld_blt I hg hm hv ?_ hn hdb)
  exact PyProof.Rows.callWith_type1 (thn (ha pos pins s σ H _ I h) fun us s1 ⟨vs, H1, I1, r1, q1⟩ => hc pins s1 σ H1 vs us Q I1 r1 q1) he hpl
end
end L2
namespace HT
open PySem PyProof.Rows
section
open PySem.SeqAt
open PySem.AutoSeq1 (wpAny_loadPart')
open PySem.MeetsSeq PySem.MeetsSeq2 PySem.MeetsSeq3
end
section
variable {prog : Program} {w : World} {A : Around} {E : Value → Shared → Prop} {s : Shared}
noncomputable def sIx (n d : Nat) : Option Int → Nat
  | none => d
  | some v => if v < 0 then (v + (n : Int)).toNat else min v.toNat n
theorem sIx_none (n d : Nat) : sIx n d none = d := rfl
theorem sIx_nat (n d k : Nat) : sIx n d (some (k : Int)) = min k n := by
  show (if (k : Int) < 0 then ((k : Int) + (n : Int)).toNat else min (k : Int).toNat n) = min k n
  rw [if_neg (by omega), Int.toNat_natCast]
theorem sIx_le (n d : Nat) (hd : d ≤ n) (o : Option Int) : sIx n d o ≤ n := by
  cases o with
  | none => exact hd
  | some v =>
    show (if v < 0 then (v + (n : Int)).toNat else min v.toNat n) ≤ n
    by_cases hv : v < 0
    · rw [if_pos hv]; omega
    · rw [if_neg hv]; exact Nat.min_le_right _ _
theorem clip_eq (v : Int) (n d : Nat) : (if v < 0 then max (v + (n : Int)) 0 else min v (n : Int)) = ((sIx n d (some v) : Nat) : Int) := by
  show (if v < 0 then max (v + (n : Int)) 0 else min v (n : Int)) = (((if v < 0 then (v + (n : Int)).toNat else min v.toNat n) : Nat) : Int)
  by_cases hv : v < 0
  · simp only [if_pos hv]; omega
  · simp only [if_neg hv]; omega
theorem adjust_gen (lo hi : Option Int) (n : Nat) : Builtin.Slice.sliceAdjust lo hi 1 (n : Int) = (((sIx n 0 lo : Nat) : Int), ((sIx n n hi : Nat) : Int)) := by
  have h1 : ¬ ((1 : Int) < 0) := by omega
  unfold Builtin.Slice.sliceAdjust
  simp only [h1, if_false]
  refine Prod.ext ?_ ?_
  · cases lo with
    | none => rfl
    | some v => exact clip_eq v n 0
  · cases hi with
    | none => rfl
    | some v => exact clip_eq v n n
theorem places_gen (i j : Nat) : Builtin.Slice.slicePlaces (i : Int) (j : Int) 1 = j - i := by
  unfold Builtin.Slice.slicePlaces
  have h1 : (1 : Int) > 0 := by omega
  simp only [h1, if_true, Int.ediv_one]
  split <;> omega
theorem slicePart_ {v : Value} {o : Option Int} {Q : Option Int → Shared → Prop} (p : IsPart v o) (h : Q o s) : wpAny (model prog w) A (Builtin.Slice.slicePartIndex v) Q E s := by
  cases p with
  | none => exact slicePart_none h
  | int i t => exact slicePart_int h
theorem sliceApplied_gen {sl : Addr} {vl vu : Value} {lo hi : Option Int} {n : Nat} {Q : Int × Int × Nat → Shared → Prop} (hs : s.heap.IsSliceOf sl vl vu .none) (pl : IsPart vl lo) (pu : IsPart vu hi)
    (h : Q (((sIx n 0 lo : Nat) : Int), 1, sIx n n hi - sIx n 0 lo) s) : wpAny (model prog w) A (Builtin.Slice.sliceApplied (.ref sl) (pure (n : Int))) Q E s := by
  obtain ⟨os, hos, hcs, hds⟩ := id hs
  unfold Builtin.Slice.sliceApplied Builtin.Slice.sliceFields
  refine wpAny_bind (wpAny_bind (wpAny_field hos hds (x := vl) rfl (wpAny_bind (wpAny_field hos hds (x := vu) rfl (wpAny_bind (wpAny_field hos hds (x := .none) rfl (wpAny_pure ?_)))))))
  refine wpAny_bind (slicePart_none ?_)
  show wpAny _ _ (if ((1 : Int) == 0) = true then _ else _) _ _ s
  rw [if_neg (by decide)]
  refine wpAny_bind (slicePart_ pl (wpAny_bind (slicePart_ pu (wpAny_bind (wpAny_pure ?_)))))
  show wpAny _ _ (match Builtin.Slice.sliceAdjust lo hi 1 (n : Int) with | (lo, hi) => pure (lo, (1 : Int), Builtin.Slice.slicePlaces lo hi 1)) _ _ s
  rw [adjust_gen lo hi n]
  show wpAny _ _ (pure (((sIx n 0 lo : Nat) : Int), (1 : Int), Builtin.Slice.slicePlaces ((sIx n 0 lo : Nat) : Int) ((sIx n n hi : Nat) : Int) 1)) _ _ s
  rw [places_gen]
  exact wpAny_pure h
theorem pick_gen (xs : Array Value) (i k : Nat) : ((List.range k).filterMap fun (m : Nat) => xs[((i : Int) + (m : Int) * 1).toNat]?).toArray = ((xs.toList.drop i).take k).toArray := by
  have e : (fun (m : Nat) => xs[((i : Int) + (m : Int) * 1).toNat]?) = fun m => xs[i + m]? := by
    funext m
    have : ((i : Int) + (m : Int) * 1).toNat = i + m := by omega
    rw [this]
  rw [e]
  have := pick_run xs i k
  rw [List.filterMap_map] at this
  have e2 : ((fun x => xs[x]?) ∘ fun x => i + x) = fun m => xs[i + m]? := rfl
  rw [e2] at this
  rw [this]
theorem getItem_tuple_cut {t sl : Addr} {items : Array Value} {vl vu : Value} {lo hi : Option Int} {Q : Value → Shared → Prop} (ht : IsTup s.heap t items) (hs : s.heap.IsSliceOf sl vl vu .none) (pl : IsPart vl lo) (pu : IsPart vu hi)
    (hw : ¬ (sIx items.size 0 lo = 0 ∧ sIx items.size items.size hi = items.size))
    (h : Q (.ref s.heap.objs.size) { s with heap := s.heap.push { cls := .type "tuple", data := .seq ((items.toList.drop (sIx items.size 0 lo)).take (sIx items.size items.size hi - sIx items.size 0 lo)).toArray } })
    (hsz : items.size ≤ sizeLine) : wpAny (model prog w) A (getItem (.ref t) (.ref sl)) Q E s := by
  have htake : sizeOk (.seq ((items.toList.drop (sIx items.size 0 lo)).take (sIx items.size items.size hi - sIx items.size 0 lo)).toArray) := by
    show ((items.toList.drop (sIx items.size 0 lo)).take (sIx items.size items.size hi - sIx items.size 0 lo)).toArray.size ≤ sizeLine
    rw [List.size_toArray, List.length_take, List.length_drop, Array.length_toList]
    omega
  have hj : sIx items.size items.size hi ≤ items.size := sIx_le _ _ (Nat.le_refl _) hi
  obtain ⟨os, hos, hcs, hds⟩ := id hs
  have hTs : s.TypeIs (.ref sl) "slice" := ⟨os, hos, hcs⟩
  unfold getItem
  try with_reducible refine wpAny_holding ?_
  first | refine wpAny_bind (wpAny_pure ?_) | skip
  refine wpAny_bind (wpAny_sequenceKey ht.typeIs (by decide) ?_)
  refine wpAny_bind (wpAny_callSpecial?_slot (name := Str.ofString "__getitem__") ht.typeIs PyProof.Rows.slot_tuple_getitem
    (wpAny_call_entry PyProof.Rows.slot_tuple_getitem ht.typeIs entry_tuple_getitem ?_ (args_tuple_getitem _ _)))
  show wpAny _ _ (Builtin.Tuple.tupleItemsOf (.ref t) >>= _) _ _ s
  refine wpAny_bind (tupleItemsOf_ ht ?_)
  refine wpAny_bind (wpAny_typeOf hTs ?_)
  rw [if_pos (by decide)]
  refine wpAny_bind (sliceApplied_gen hs pl pu ?_)
  have hno : ¬ ((((sIx items.size 0 lo : Nat) : Int) == 0 && (1 : Int) == 1 && (sIx items.size items.size hi - sIx items.size 0 lo) == items.size) = true) := by
    intro q
    rw [Bool.and_eq_true, Bool.and_eq_true] at q
    have q1 : ((sIx items.size 0 lo : Nat) : Int) = 0 := eq_of_beq q.1.1
    have q2 : sIx items.size items.size hi - sIx items.size 0 lo = items.size := eq_of_beq q.2
    exact hw ⟨by omega, by omega⟩
  show wpAny _ _ (if (((sIx items.size 0 lo : Nat) : Int) == 0 && (1 : Int) == 1 && (sIx items.size items.size hi - sIx items.size 0 lo) == items.size) = true then _ else _) _ _ s
  rw [if_neg hno, pick_gen]
  first
    | exact wpAny_bind (m := Builtin.Tuple.tupleExact _) (wpAny_newObj_type (wpAny_pure ⟨_, rfl, wpAny_pure h⟩) htake)
    | exact wpAny_bind (m := Builtin.Tuple.tupleExact _) (wpAny_newObj_type (wpAny_bind (wpAny_pure (wpAny_pure ⟨_, rfl, wpAny_pure h⟩))) htake)
    | exact wpAny_bind (wpAny_bind (m := Builtin.Tuple.tupleExact _) (wpAny_newObj_type (wpAny_pure (wpAny_pure ⟨_, rfl, wpAny_pure h⟩)) htake))
    | exact wpAny_bind (wpAny_bind (m := Builtin.Tuple.tupleExact _) (wpAny_newObj_type (wpAny_pure ⟨_, rfl, wpAny_pure h⟩) htake))
end
end HT
namespace L2
open PySem PySem.Spec PyProof.Rows
noncomputable abbrev TO := St → Hp → (Option Int → Hp → Prop) → Prop
noncomputable def PO (X : Cx) (e : Option Expr) (t : TO) : Prop :=
  ∀ (pins : List (Addr × Obj)) (s : Shared) (σ : St) (H : Hp) (Q : Option Int → Hp → Prop), Inv X pins σ H s → t σ H Q →
    wpAny (model X.prog X.w) X.A (evalPart e X.env) (fun u s' => ∃ o H', Inv X pins σ H' s' ∧ IsPart u o ∧ Q o H') X.xe s
noncomputable def tNoPart : TO := fun _ H Q => Q none H
noncomputable def tPart (t : TE) : TO := fun σ H Q => t σ H fun x H1 => ∃ i, x = .int i ∧ Q (some i) H1
section
variable {X : Cx} {e : Expr} {te : TE} {lo hi : Option Expr} {tl th : TO} {pos p2 : Pos}
theorem po_none : PO X none tNoPart := by
  intro pins s σ H Q I h
  rw [evalPart_none]
  exact wpAny_pure ⟨none, H, I, .none, h⟩
theorem po_some (h : PE X e te) : PO X (some e) (tPart te) := by
  intro pins s σ H Q I hw
  rw [evalPart_some]
  refine thn (h pins s σ H _ I hw) fun u s1 ⟨x, H1, I1, r1, q1⟩ => ?_
  obtain ⟨i, rfl, q⟩ := q1
  obtain ⟨t, rfl⟩ := r1
  exact ⟨some i, H1, I1, .int i t, q⟩
noncomputable def SlR (X : Cx) (r : V → Option Int → Option Int → Hp → VK → Prop) : Prop :=
  ∀ (pins : List (Addr × Obj)) (s : Shared) (σ : St) (H : Hp) (x : V) (v vl vu : Value) (lo hi : Option Int) (sl : Addr) (Q : VK), Inv X pins σ H s → RelV x v → s.heap.IsSliceOf sl vl vu .none → IsPart vl lo → IsPart vu hi → r x lo hi H Q →
    ∃ T id, typeLookup (.type T) "__getitem__" = pure (some (.builtin id)) ∧ s.TypeIs v T ∧ wpAny (model X.prog X.w) X.A (getItem v (.ref sl)) (EP X pins σ Q) X.xe s
theorem SlR.or {r r' : V → Option Int → Option Int → Hp → VK → Prop} (h : SlR X r) (h' : SlR X r') : SlR X (fun x lo hi H Q => r x lo hi H Q ∨ r' x lo hi H Q) := by
  intro pins s σ H x v vl vu lo hi sl Q I rx hs pl pu q
  rcases q with q | q
  · exact h pins s σ H x v vl vu lo hi sl Q I rx hs pl pu q
  · exact h' pins s σ H x v vl vu lo hi sl Q I rx hs pl pu q
noncomputable def tSl (r : V → Option Int → Option Int → Hp → VK → Prop) (te : TE) (tl th : TO) : TE := fun σ H Q => te σ H fun x H1 => tl σ H1 fun l H2 => th σ H2 fun u H3 => r x l u H3 Q
theorem pe_slice {r : V → Option Int → Option Int → Hp → VK → Prop} (hr : SlR X r) (he : PE X e te) (hl : PO X lo tl) (hu : PO X hi th) : PE X (.Subscript e (.Slice lo hi none p2) pos) (tSl r te tl th) := by
  intro pins s σ H Q I h
  refine Subscript_ (thn (he pins s σ H _ I h) fun v s1 ⟨x, H1, I1, r1, q1⟩ => ?_)
  refine wpAny_Slice (thn (hl pins s1 σ H1 _ I1 q1) fun vl s2 ⟨l, H2, I2, pl, q2⟩ => thn (hu pins s2 σ H2 _ I2 q2) fun vu s3 ⟨u, H3, I3, pu, q3⟩ => ?_)
  rw [evalPart_none]
  refine wpAny_pure ?_
  have I4 : Inv X pins σ H3 { s3 with heap := s3.heap.push { cls := .type "slice", data := .fields #[vl, vu, .none] } } := I3.kept (t' := s3.toks) fun b ob q => Heap.get?_push_of_some _ q
  obtain ⟨T, id, hT, ht, hg⟩ := hr pins { s3 with heap := s3.heap.push { cls := .type "slice", data := .fields #[vl, vu, .none] } } σ H3 x v vl vu l u s3.heap.objs.size Q I4 r1 (Heap.IsSliceOf.new ..) pl pu q3
  show wpAny (model X.prog X.w) X.A (subscriptTail e (.Slice lo hi none p2) v (.ref s3.heap.objs.size)) (EP X pins σ Q) X.xe { s3 with heap := s3.heap.push { cls := .type "slice", data := .fields #[vl, vu, .none] } }
  exact tail_any (ops := [.ref s3.heap.objs.size, v]) ht hT hg (by with_unfolding_all rfl)
noncomputable def cutV (xs : List V) (lo hi : Option Int) : List V := (xs.drop (HT.sIx xs.length 0 lo)).take (HT.sIx xs.length xs.length hi - HT.sIx xs.length 0 lo)
theorem cutV_length (xs : List V) (lo hi : Option Int) : (cutV xs lo hi).length ≤ xs.length := by
  unfold cutV
  rw [List.length_take, List.length_drop]
  omega
noncomputable def rSlT (K : PySem.W.Frag) : V → Option Int → Option Int → Hp → VK → Prop := fun x lo hi H Q => ∃ a xs, x = .ref a ∧ SqT K H a xs ∧
  ¬ (HT.sIx xs.length 0 lo = 0 ∧ HT.sIx xs.length xs.length hi = xs.length) ∧ ∀ p, H p = none → Q (.ref p) (upd H p (.tup (cutV xs lo hi)))
theorem sl_tup : SlR X (rSlT X.K) := by
  intro pins s σ H x v vl vu lo hi sl Q I rx hs pl pu h
  obtain ⟨a, xs, rfl, hx, hw, q⟩ := h
  cases rx
  obtain ⟨its, r, ht, hz⟩ := I.tuple hx
  have hlen : its.toArray.size = xs.length := by rw [List.size_toArray]; exact r.length.symm
  refine ⟨"tuple", _, PyProof.Rows.slot_tuple_getitem.lookup, ht.typeIs, ?_⟩
  refine HT.getItem_tuple_cut ht hs pl pu (by rw [hlen]; exact hw) ?_ (by rw [hlen]; exact hz)
  rw [hlen]
  refine ⟨.ref s.heap.objs.size, _, I.laid (t' := s.toks) (o := .tup (cutV xs lo hi)) (fun b ob q => Heap.get?_push_of_some _ q) (Nat.le_refl _) ?_, rfl, q _ (I.hok.fresh (Nat.le_refl _))⟩
  exact ⟨Nat.le_trans (cutV_length xs lo hi) hz, _, (r.drop (HT.sIx xs.length 0 lo)).take (HT.sIx xs.length xs.length hi - HT.sIx xs.length 0 lo), IsTup.new _ _⟩
end
end L2
namespace L2
open PySem PySem.Spec PyProof.Rows
noncomputable def ixN (n : Nat) (i : Int) : Option Nat := if 0 ≤ i then (if i < n then some i.toNat else none) else if -(n : Int) ≤ i then some (i + n).toNat else none
noncomputable def atI {α : Type} (xs : List α) (i : Int) : Option α := (ixN xs.length i).bind fun j => xs[j]?
theorem ixN_seq {n : Nat} {i : Int} {j : Nat} (h : ixN n i = some j) : seqIndex? i n = some j ∧ j < n ∧ -(n : Int) ≤ i ∧ i < n := by
  unfold ixN at h
  by_cases h0 : 0 ≤ i
  · rw [if_pos h0] at h
    by_cases h1 : i < n
    · rw [if_pos h1] at h
      have e : i.toNat = j := Option.some.inj h
      exact ⟨by rw [seqIndex_of h0 h1, e], by omega, by omega, h1⟩
    · rw [if_neg h1] at h; cases h
  · rw [if_neg h0] at h
    by_cases h1 : -(n : Int) ≤ i
    · rw [if_pos h1] at h
      have e : (i + n).toNat = j := Option.some.inj h
      exact ⟨by rw [seqIndex_neg (by omega) h1, e], by omega, h1, by omega⟩
    · rw [if_neg h1] at h; cases h
theorem atI_get {α : Type} {xs : List α} {i : Int} {v : α} (h : atI xs i = some v) : ∃ j, seqIndex? i xs.length = some j ∧ xs[j]? = some v ∧ j < xs.length ∧ -(xs.length : Int) ≤ i ∧ i < xs.length := by
  unfold atI at h
  cases e : ixN xs.length i with
  | none => rw [e] at h; cases h
  | some j =>
    rw [e] at h
    obtain ⟨h1, h2, h3, h4⟩ := ixN_seq e
    exact ⟨j, h1, h, h2, h3, h4⟩
theorem atI_nat {α : Type} {xs : List α} {j : Nat} {v : α} (h : xs[j]? = some v) : atI xs (j : Int) = some v := by
  have hj : j < xs.length := (List.getElem?_eq_some_iff.mp h).1
  have e : ixN xs.length (j : Int) = some j := by
    unfold ixN
    rw [if_pos (by omega), if_pos (by omega)]; simp
  unfold atI; rw [e]; exact h
theorem atI_last {α : Type} (xs : List α) (v : α) : atI (xs ++ [v]) (-1) = some v := by
  have hl : (xs ++ [v]).length = xs.length + 1 := by simp
  have e : ixN (xs ++ [v]).length (-1) = some xs.length := by
    unfold ixN
    rw [hl, if_neg (by decide), if_pos (by omega)]
    congr 1
    omega
  unfold atI
  rw [e]
  show (xs ++ [v])[xs.length]? = some v
  simp
noncomputable def PlainIx (b : Expr) : Prop := ∀ o i, subscripted b false o i = operate [o, i] (getItem o i)
noncomputable def IxR (X : Cx) (r : R2) : Prop :=
  ∀ (value slice : Expr) (pins : List (Addr × Obj)) (s : Shared) (σ : St) (H : Hp) (x y : V) (v u : Value) (Q : VK), Inv X pins σ H s → RelV x v → RelV y u → r x y H Q →
    subscripted slice false v u = operate [v, u] (getItem v u) → wpAny (model X.prog X.w) X.A (subscriptTail value slice v u) (EP X pins σ Q) X.xe s
noncomputable def MtR (X : Cx) (id : String) (r : V → List V → Hp → VK → Prop) : Prop :=
  ∀ (pins : List (Addr × Obj)) (s : Shared) (σ : St) (H : Hp) (x : V) (xs : List V) (v : Value) (us : List Value) (Q : VK), Inv X pins σ H s → RelV x v → Vals xs us → r x xs H Q →
    wpAny (model X.prog X.w) X.A (call (.builtin id) (v :: us)) (EP X pins σ Q) X.xe s
section
variable {X : Cx} {a b : Expr} {ta tb : TE} {pos : Pos}
theorem IxR.or {r r' : R2} (h : IxR X r) (h' : IxR X r') : IxR X (fun x y H Q => r x y H Q ∨ r' x y H Q) := by
  intro value slice pins s σ H x y v u Q I rx ry q hs
  rcases q with q | q
  · exact h value slice pins s σ H x y v u Q I rx ry q hs
  · exact h' value slice pins s σ H x y v u Q I rx ry q hs
theorem MtR.or {id : String} {r r' : V → List V → Hp → VK → Prop} (h : MtR X id r) (h' : MtR X id r') : MtR X id (fun x xs H Q => r x xs H Q ∨ r' x xs H Q) := by
  intro pins s σ H x xs v us Q I rx rs q
  rcases q with q | q
  · exact h pins s σ H x xs v us Q I rx rs q
  · exact h' pins s σ H x xs v us Q I rx rs q
theorem pe_ix {r : R2} (hr : IxR X r) (ha : PE X a ta) (hb : PE X b tb) (hs : PlainIx b) : PE X (.Subscript a b pos) (tOp r ta tb) := by
  intro pins s σ H Q I h
  exact Subscript_ (binT ha hb I h fun v u s2 x y H2 I2 rx ry q => hr a b pins s2 σ H2 x y v u Q I2 rx ry q (hs _ _))
noncomputable def rIxL (K : PySem.W.Frag) : R2 := fun x y H Q => ∃ p xs i v, x = .ref p ∧ y = .int i ∧ SqL K H p xs ∧ atI xs i = some v ∧ Q v H
noncomputable def rIxT (K : PySem.W.Frag) : R2 := fun x y H Q => ∃ p xs i v, x = .ref p ∧ y = .int i ∧ SqT K H p xs ∧ atI xs i = some v ∧ Q v H
noncomputable def rIxS : R2 := fun x y H Q => ∃ z i c, x = .str z ∧ y = .int i ∧ z.length ≤ sizeLine ∧ atI z.cps.toList i = some c ∧ Q (.str ⟨#[c]⟩) H
theorem ix_list : IxR X (rIxL X.K) := by
  intro value slice pins s σ H x y v u Q I rx ry h hs
  obtain ⟨p, xs, i, z, rfl, rfl, hq, he, q⟩ := h
  cases rx
  obtain ⟨t, rfl⟩ := ry
  obtain ⟨its, r, pl, hz⟩ := I.list hq
  obtain ⟨j, h1, h2, h3, h4, h5⟩ := atI_get he
  obtain ⟨w, ew, rw'⟩ := r.get h2
  have hl := r.length
  have hn := line63
  have fin : EP X pins σ Q w s := ⟨z, H, I, rw', q⟩
  by_cases h0 : 0 ≤ i
  · have hj : i.toNat = j := by
      rw [seqIndex_of h0 h5] at h1
      exact Option.some.inj h1
    exact item_listR pl.isList h0 (by omega) (by rw [hj]; simpa using ew) fin hs
  · have hj : (i + (its.toArray.size : Int)).toNat = j := by
      rw [seqIndex_neg (by omega) h4] at h1
      rw [List.size_toArray, ← hl]
      exact Option.some.inj h1
    exact subscriptTail_builtinR (x := w) pl.isList.typeIs slot_list_getitem.lookup
      (wpAny_getItem_list_neg (Q := fun r s' => r = w ∧ EP X pins σ Q r s') pl.isList (by omega) (by rw [List.size_toArray] <;> omega) (by omega) (by rw [hj]; simpa using ew) ⟨rfl, fin⟩) hs
theorem ix_tup : IxR X (rIxT X.K) := by
  intro value slice pins s σ H x y v u Q I rx ry h hs
  obtain ⟨p, xs, i, z, rfl, rfl, hq, he, q⟩ := h
  cases rx
  obtain ⟨t, rfl⟩ := ry
  obtain ⟨its, r, pl, hz⟩ := I.tuple hq
  obtain ⟨j, h1, h2, h3, h4, h5⟩ := atI_get he
  obtain ⟨w, ew, rw'⟩ := r.get h2
  have hl := r.length
  have hn := line63
  have fin : EP X pins σ Q w s := ⟨z, H, I, rw', q⟩
  exact subscriptTail_builtinR (x := w) pl.typeIs slot_tuple_getitem.lookup
    (getItem_tuple (j := j) (Q := fun r s' => r = w ∧ EP X pins σ Q r s') pl (by omega) (by omega) (by rw [List.size_toArray, ← hl]; exact h1) (by simpa using ew) ⟨rfl, fin⟩) hs
theorem ix_str : IxR X rIxS := by
  intro value slice pins s σ H x y v u Q I rx ry h hs
  obtain ⟨z, i, c, rfl, rfl, hz, he, q⟩ := h
  obtain ⟨t, rfl⟩ := rx
  obtain ⟨t', rfl⟩ := ry
  obtain ⟨j, h1, h2, h3, h4, h5⟩ := atI_get he
  have hl : z.cps.toList.length = z.length := by simp [Str.length]
  rw [hl] at h1 h4 h5
  have hn := line63
  exact tail_any (typeIs_str s z t) slot_str_getitem.lookup (getItem_str (c := c) (by
    have e1 : decide (i < -(2 ^ 63 : Int)) = false := decide_eq_false (by omega)
    have e2 : decide (i ≥ 2 ^ 63) = false := decide_eq_false (by omega)
    rw [e1, e2, Bool.or_false]) (by rw [h1]; simpa using h2) ⟨.str ⟨#[c]⟩, H, I.tok _, ⟨_, rfl⟩, q⟩) hs
noncomputable def rIx (K : PySem.W.Frag) : R2 := fun x y H Q => rIxL K x y H Q ∨ rIxT K x y H Q ∨ rIxS x y H Q
theorem ix_seq : IxR X (rIx X.K) := ix_list.or (ix_tup.or ix_str)
theorem mapSeq_set (its : List Value) (n j : Nat) (u : Value) : Obj.mapSeq (·.setIfInBounds j u) { cls := .type "list", data := .seq its.toArray n } = { cls := .type "list", data := .seq (its.set j u).toArray n } := by
  simp [Obj.mapSeq]
theorem Inv.lst {pins : List (Addr × Obj)} {σ : St} {H : Hp} {s : Shared} {p : Addr} {xs : List V} (I : Inv X pins σ H s) (h : H p = some (.lst xs)) :
    ∃ (its : List Value) (n : Nat), Vals xs its ∧ s.heap.get? p = some { cls := .type "list", data := .seq its.toArray n } ∧ xs.length ≤ sizeLine := by
  obtain ⟨z, its, n, r, e⟩ := I.hok p _ h
  exact ⟨its, n, r, e, z⟩
theorem Inv.lstUpd {pins : List (Addr × Obj)} {σ : St} {H : Hp} {s : Shared} {p : Addr} {xs ys : List V} {its its' : List Value} {n n' : Nat} {f : Obj → Obj} (I : Inv X pins σ H s) (h : H p = some (.lst xs))
    (ho : s.heap.get? p = some { cls := .type "list", data := .seq its.toArray n }) (hf : f { cls := .type "list", data := .seq its.toArray n } = { cls := .type "list", data := .seq its'.toArray n' }) (r : Vals ys its') (hz : ys.length ≤ sizeLine) (t : Nat) :
    Inv X pins σ (upd H p (.lst ys)) { s with heap := s.heap.update p f, toks := t } := by
  have e : (s.heap.update p f).get? p = some { cls := .type "list", data := .seq its'.toArray n' } := by
    rw [Heap.get?_update_self f ho (by rw [hf] <;> rfl), hf]
  refine I.write (x := p) (e := p) (by rw [h]; trivial) (.inl rfl) (fun b u hb q => (Heap.get?_update_other _ _ (Ne.symm hb)).trans q) ⟨_, e⟩ ?_
  exact ⟨hz, its', n', r, e⟩
noncomputable def rSetL : V → V → V → Hp → (Hp → Prop) → Prop := fun o i v H Q => ∃ p xs k j, o = .ref p ∧ i = .int k ∧ H p = some (.lst xs) ∧ ixN xs.length k = some j ∧ Q (upd H p (.lst (xs.set j v)))
theorem set_list : PSet X rSetL := by
  intro pins s σ H o i v ov iv u Q I ro ri rv h
  obtain ⟨p, xs, k, j, rfl, rfl, hp, hj, q⟩ := h
  cases ro
  obtain ⟨t, rfl⟩ := ri
  obtain ⟨its, n, r, ho, hz⟩ := I.lst hp
  obtain ⟨h1, h2, h3, h4⟩ := ixN_seq hj
  have hl := r.length
  have hn := line63
  have I' : Inv X pins σ (upd H p (.lst (xs.set j v))) { s with heap := s.heap.update p (Obj.mapSeq (·.setIfInBounds j u)) } :=
    I.lstUpd hp ho (mapSeq_set its n j u) (r.set rv j) (by rw [List.length_set]; exact hz) s.toks
  by_cases h0 : 0 ≤ k
  · have hk : k.toNat = j := by
      rw [seqIndex_of h0 h4] at h1
      exact Option.some.inj h1
    exact PySem.W.ki_setAt ho h0 (by omega) (by rw [List.size_toArray, ← hl]; exact h4) (by rw [hk]; exact ⟨_, I', q⟩)
  · have hk : (k + (its.toArray.size : Int)).toNat = j := by
      rw [seqIndex_neg (by omega) h3] at h1
      rw [List.size_toArray, ← hl]
      exact Option.some.inj h1
    exact PySem.W.ki_setBack ho (by omega) (by rw [List.size_toArray, ← hl]; exact h3) (by omega) (by rw [hk]; exact ⟨_, I', q⟩)
theorem slice_bounds (lo hi : Option Int) (n : Nat) : (sliceBounds lo hi none n).1 = ((HT.sIx n 0 lo : Nat) : Int) ∧ (sliceBounds lo hi none n).2.1 = ((HT.sIx n n hi : Nat) : Int) ∧ (sliceBounds lo hi none n).2.2 = 1 := by
  refine ⟨?_, ?_, rfl⟩
  · cases lo with
    | none => simp [sliceBounds, HT.sIx]
    | some i =>
      simp only [sliceBounds, HT.sIx, Option.getD_none, show (1 : Int) > 0 by decide, if_true]
      by_cases h : i < 0
      · simp only [h, if_true] <;> omega
      · simp only [h, if_false] <;> omega
  · cases hi with
    | none => simp [sliceBounds, HT.sIx]
    | some i =>
      simp only [sliceBounds, HT.sIx, Option.getD_none, show (1 : Int) > 0 by decide, if_true]
      by_cases h : i < 0
      · simp only [h, if_true] <;> omega
      · simp only [h, if_false] <;> omega
theorem slicePick_cut (its : List Value) (lo hi : Option Int) : slicePick its.toArray lo hi none = ((its.drop (HT.sIx its.length 0 lo)).take (HT.sIx its.length its.length hi - HT.sIx its.length 0 lo)).toArray := by
  obtain ⟨h1, h2, h3⟩ := slice_bounds lo hi its.toArray.size
  unfold slicePick
  rw [h1, h2, h3]
  simp only [sliceRange_one, pick_run, List.size_toArray] <;> rfl
noncomputable def rSlL (K : PySem.W.Frag) : V → Option Int → Option Int → Hp → VK → Prop := fun x lo hi H Q => ∃ a xs, x = .ref a ∧ SqL K H a xs ∧ ∀ p, H p = none → Q (.ref p) (upd H p (.lst (cutV xs lo hi)))
theorem sl_list : SlR X (rSlL X.K) := by
  intro pins s σ H x v vl vu lo hi sl Q I rx hs pl pu h
  obtain ⟨a, xs, rfl, hx, q⟩ := h
  cases rx
  obtain ⟨its, r, ht, hz⟩ := I.list hx
  have hlen := r.length
  refine ⟨"list", _, slot_list_getitem.lookup, ht.isList.typeIs, ?_⟩
  refine wpAny_getItem_list_slice ht.isList hs pl pu .none (by simp) ?_ (by rw [List.size_toArray] <;> omega)
  rw [slicePick_cut, ← hlen]
  refine ⟨.ref s.heap.objs.size, _, I.laid (t' := s.toks) (o := .lst (cutV xs lo hi)) (fun b ob q => Heap.get?_push_of_some _ q) (Nat.le_refl _) ?_, rfl, q _ (I.hok.fresh (Nat.le_refl _))⟩
  exact ⟨Nat.le_trans (cutV_length xs lo hi) hz, _, 0, (r.drop (HT.sIx xs.length 0 lo)).take (HT.sIx xs.length xs.length hi - HT.sIx xs.length 0 lo), Heap.get?_push_size _ rfl⟩
theorem call_len_seq : CallR X (.builtin "len") (fun xs H Q => ∃ p ys, xs = [.ref p] ∧ (SqL X.K H p ys ∨ SqT X.K H p ys) ∧ Q (.int ys.length) H) := by
  intro pins s σ H xs us Q I r h
  obtain ⟨p, ys, rfl, hq, q⟩ := h
  obtain ⟨u, rfl, rx⟩ := vals1 r
  cases rx
  have hn := line63
  rcases hq with hq | hq
  · obtain ⟨its, r', pl, hz⟩ := I.list hq
    have hlen := r'.length
    exact Calls.call_len_list pl.isList (by simp only [List.size_toArray] <;> omega) ⟨.int ys.length, H, I.tok _, ⟨s.toks + 1, by rw [List.size_toArray, hlen]⟩, q⟩
  · obtain ⟨its, r', pl, hz⟩ := I.tuple hq
    have hlen := r'.length
    exact len_tuple pl (by simp only [List.size_toArray] <;> omega) ⟨.int ys.length, H, I.tok _, ⟨s.toks + 1, by rw [List.size_toArray, hlen]⟩, q⟩
theorem call_len_str : CallR X (.builtin "len") (fun xs H Q => ∃ z, xs = [.str z] ∧ z.length ≤ sizeLine ∧ Q (.int z.length) H) := by
  intro pins s σ H xs us Q I r h
  obtain ⟨z, rfl, hz, q⟩ := h
  obtain ⟨u, rfl, t, rfl⟩ := vals1 r
  have hn := line63
  exact len_str (by omega) ⟨.int z.length, H, I.tok _, ⟨_, rfl⟩, q⟩
theorem CallR.or {f : Value} {r r' : List V → Hp → VK → Prop} (h : CallR X f r) (h' : CallR X f r') : CallR X f (fun xs H Q => r xs H Q ∨ r' xs H Q) := by
  intro pins s σ H xs us Q I rs q
  rcases q with q | q
  · exact h pins s σ H xs us Q I rs q
  · exact h' pins s σ H xs us Q I rs q
theorem call_tuple_of : CallR X (.type "tuple") (fun xs H Q => ∃ p ys, xs = [.ref p] ∧ ((SqL X.K H p ys ∧ ∀ l, H l = none → Q (.ref l) (upd H l (.tup ys))) ∨ (SqT X.K H p ys ∧ Q (.ref p) H))) := by
  intro pins s σ H xs us Q I r h
  obtain ⟨p, ys, rfl, h⟩ := h
  obtain ⟨u, rfl, rx⟩ := vals1 r
  cases rx
  rcases h with ⟨hq, q⟩ | ⟨hq, q⟩
  · obtain ⟨its, r', pl, hz⟩ := I.list hq
    have hlen := r'.length
    refine call_tuple_list pl.isList (fun h' kp => ?_) (by simp only [List.size_toArray] <;> omega)
    have I1 : Inv X pins σ H { s with heap := h' } := I.kept (t' := s.toks) kp
    have I2 : Inv X pins σ (upd H h'.objs.size (.tup ys)) { s with heap := h'.push { cls := .type "tuple", data := .seq its.toArray } } :=
      I1.laid (t' := s.toks) (fun b o e => Heap.get?_push_of_some _ e) (Nat.le_refl _) (show ObjOk X.prog X.w _ _ _ (.tup ys) from ⟨hz, its, r', IsTup.new _ _⟩)
    exact ⟨.ref h'.objs.size, _, I2, rfl, q _ (I1.hok.fresh (Nat.le_refl _))⟩
  · obtain ⟨its, r', pl, hz⟩ := I.tuple hq
    exact call_tuple_same pl ⟨.ref p, H, I, rfl, q⟩
noncomputable def tyV (K : PySem.W.Frag) (T : String) (x : V) (H : Hp) : Prop := match x with
  | .str _ => T = "str"
  | .int _ => T = "int"
  | .ref p => (T = "list" ∧ ∃ xs, SqL K H p xs) ∨ (T = "tuple" ∧ ∃ o, K.lookup p = some o ∧ o.cls = .type "tuple" ∧ o.dict = none) ∨
      (T = "dict" ∧ ((∃ kvs, H p = some (.dK kvs)) ∨ ∃ kvs, H p = some (.dT kvs))) ∨ (T = "set" ∧ ∃ S n, H p = some (.set S n))
  | _ => False
theorem tyV_is {pins : List (Addr × Obj)} {σ : St} {H : Hp} {s : Shared} {T : String} {x : V} {v : Value} (I : Inv X pins σ H s) (r : RelV x v) (ty : tyV X.K T x H) :
    s.TypeIs v T ∧ ∀ a, v = .ref a → ∃ ob, s.heap.get? a = some ob ∧ ob.dict = none := by
  cases x with
  | str z =>
    obtain ⟨t, rfl⟩ := r
    cases (show T = "str" from ty)
    exact ⟨typeIs_str s z t, fun _ e => nomatch e⟩
  | int i =>
    obtain ⟨t, rfl⟩ := r
    cases (show T = "int" from ty)
    exact ⟨typeIs_int s i t, fun _ e => nomatch e⟩
  | ref p =>
    cases r
    rcases ty with ⟨rfl, xs, hq⟩ | ⟨rfl, o, hk, hc, hd⟩ | ⟨rfl, hk⟩ | ⟨rfl, S, n, hk⟩
    · obtain ⟨its, _, pl, _⟩ := I.list hq
      refine ⟨pl.isList.typeIs, fun a e => ?_⟩
      cases e
      obtain ⟨o, n, e, c, hd, _⟩ := pl
      exact ⟨o, e, hd⟩
    · refine ⟨⟨o, I.kIn p o hk, hc⟩, fun a e => ?_⟩
      cases e
      exact ⟨o, I.kIn _ o hk, hd⟩
    · have z : ∃ o, s.heap.get? p = some o ∧ o.ExactDict := by
        rcases hk with ⟨kvs, hk⟩ | ⟨kvs, hk⟩
        · obtain ⟨_, _, _, _, o, _, _, e, ex, _⟩ := I.hok p _ hk
          exact ⟨o, e, ex⟩
        · obtain ⟨_, _, _, _, o, _, _, e, ex, _⟩ := I.hok p _ hk
          exact ⟨o, e, ex⟩
      obtain ⟨o, e, ex⟩ := z
      refine ⟨⟨o, e, ex.1⟩, fun a e2 => ?_⟩
      cases e2
      exact ⟨o, e, ex.2.1⟩
    · obtain ⟨o, _, _, _, e, ex, _⟩ := I.hok p _ hk
      refine ⟨⟨o, e, ex.1⟩, fun a e2 => ?_⟩
      cases e2
      exact ⟨o, e, ex.2.1⟩
  | _ => exact False.elim ty
noncomputable def tBM (K : PySem.W.Frag) (T : String) (r : V → List V → Hp → VK → Prop) (to : TE) (t : TA) : TE := fun σ H Q => to σ H fun x H1 => tyV K T x H1 ∧ t σ H1 fun xs H2 => r x xs H2 Q
variable {o e : Expr} {es : List Expr} {to : TE} {t : TA} {name : Str} {apos cpos : Pos} {T id : String} {r : V → List V → Hp → VK → Prop}
theorem pe_bm (pa : PlainAttrs T) (slot : Slot T name id) (hty : typeOf (.builtin id) = pure (.type "method_descriptor")) (hm : MtR X id r) (ho : PE X o to) (ha : PA X (e :: es) t)
    (hbase : attributeBase o name X.env (eval o X.env) = eval o X.env := by rfl)
    (hfew : ((backTo cpos (starEach (e :: es) X.env)).all (fun x => !x.1) && (backToKw cpos (keywordEach [] X.env)).all (fun x => x.1.isSome)
      && decide ((e :: es).length + ([] : List Keyword).length + (if ([] : List Keyword).isEmpty then 0 else 1) < 30)) = true := by rfl)
    (hline : (apos.endLine == cpos.line) = true := by rfl) (hs : starEach (e :: es) X.env = (false, eval e X.env) :: starEach es X.env := by rfl) (hplain : (backTo cpos (starEach es X.env)).any (·.1) = false := by rfl) :
    PE X (.Call (.Attribute o name apos) (e :: es) [] cpos) (tBM X.K T r to t) := by
  intro pins s σ H Q I h
  refine wpAny_Call_method_late hbase hfew hline rfl (thn (ho pins s σ H _ I h) fun v s1 ⟨x, H1, I1, r1, ty, q1⟩ => ?_)
  obtain ⟨h1, h2⟩ := tyV_is I1 r1 ty
  refine ⟨T, id, pa, slot, hty, h1, h2, ?_⟩
  have hA := ha cpos pins s1 σ H1 _ I1 q1
  rw [hs] at hA ⊢
  refine Calls.callWith_builtin (by show (false || (backTo cpos (starEach es X.env)).any (·.1)) = false; rw [hplain] <;> rfl) (Calls.evalArgs_plain ?_)
  exact thn hA fun us s2 ⟨vs, H2, I2, r2, q2⟩ => hm pins s2 σ H2 x vs v us Q I2 r1 r2 q2
end
end L2
namespace L2
open PySem PySem.Spec PyProof.Rows
noncomputable def MtM (X : Cx) (id : String) (r : V → List V → Hp → VK → Prop) : Prop :=
  ∀ (pins : List (Addr × Obj)) (s : Shared) (σ : St) (H : Hp) (x : V) (xs : List V) (v : Value) (us : List Value) (Q : VK), Inv X pins σ H s → RelV x v → Vals xs us → r x xs H Q →
    wpAny (model X.prog X.w) X.A (call (.builtin id) (v :: us)) (EP X pins σ Q) X.xe s
theorem Vals.one : ∀ {x : V} {us : List Value}, Vals [x] us → ∃ u, us = [u] ∧ RelV x u
  | _, _, .cons r .nil => ⟨_, rfl, r⟩
theorem Vals.zero : ∀ {us : List Value}, Vals [] us → us = []
  | _, .nil => rfl
theorem Vals.reverse {xs : List V} {us : List Value} (h : Vals xs us) : Vals xs.reverse us.reverse := by
  induction h with
  | nil => exact .nil
  | cons r t ih => rw [List.reverse_cons, List.reverse_cons]; exact Vals.append ih (.cons r .nil)
section
variable {X : Cx} {pins : List (Addr × Obj)} {σ : St} {H : Hp} {s : Shared} {l b : Addr} {xs ys zs : List V}
theorem Inv.lset {its its' : List Value} {n : Nat} {f : Array Value → Array Value} {t' : Nat} (I : Inv X pins σ H s) (hH : H l = some (.lst xs))
    (e : s.heap.get? l = some { cls := .type "list", data := .seq its.toArray n }) (hf : f its.toArray = its'.toArray) (hv : Vals ys its') (hz : ys.length ≤ sizeLine) :
    Inv X pins σ (upd H l (.lst ys)) { s with heap := s.heap.update l (Obj.mapSeq f), toks := t' } := by
  have q := PySem.IsL.update e f
  rw [hf] at q
  refine I.write (x := l) (e := l) (by rw [hH]; exact trivial) (.inl rfl) (fun b' u hb hu => (Heap.get?_update_other s.heap (Obj.mapSeq f) (Ne.symm hb)).trans hu) ⟨_, q⟩ ?_
  exact ⟨hz, its', _, hv, q⟩
theorem Inv.lnew {its : List Value} {t' : Nat} (I : Inv X pins σ H s) (hv : Vals ys its) (hz : ys.length ≤ sizeLine) :
    Inv X pins σ (upd H s.heap.objs.size (.lst ys)) { s with heap := s.heap.push { cls := .type "list", data := .seq its.toArray }, toks := t' } :=
  I.laid (fun _ _ q => Heap.get?_push_of_some _ q) (Nat.le_refl _) ⟨hz, its, 0, hv, Heap.get?_push_size _ rfl⟩
theorem Inv.fresh (I : Inv X pins σ H s) : H s.heap.objs.size = none := I.hok.fresh (Nat.le_refl _)
theorem Inv.lstM (I : Inv X pins σ H s) (hH : H l = some (.lst xs)) : xs.length ≤ sizeLine ∧ ∃ (its : List Value) (n : Nat), Vals xs its ∧ xs.length = its.length ∧ s.heap.get? l = some { cls := .type "list", data := .seq its.toArray n } := by
  obtain ⟨z, its, n, r, e⟩ := I.hok l _ hH
  exact ⟨z, its, n, r, r.length, e⟩
end
section
variable {X : Cx}
noncomputable def rAppend : V → List V → Hp → VK → Prop := fun x vs H Q => ∃ l xs y, x = .ref l ∧ vs = [y] ∧ H l = some (.lst xs) ∧ xs.length < sizeLine ∧ Q .non (upd H l (.lst (xs ++ [y])))
theorem mt_append : MtM X "list.append" rAppend := by
  intro pins s σ H x vs v us Q I rx rv h
  obtain ⟨l, xs, y, rfl, rfl, hH, hz, q⟩ := h
  cases rx
  obtain ⟨u, rfl, ru⟩ := rv.one
  obtain ⟨z, its, n, r, hl, e⟩ := I.lstM hH
  refine call_meets F.slot_list_append ⟨_, e, rfl⟩ F.entry_list_append (F.args_list_append_2 _ _) (PySem.list_append l its.toArray n u (by rw [List.size_toArray]; omega)) ⟨e, ?_⟩
  refine ⟨.non, _, I.lset (its' := its ++ [u]) hH e (by simp) (r.append (.cons ru .nil)) ?_, rfl, q⟩
  rw [List.length_append, List.length_singleton]
  omega
noncomputable def rCat : R2 := fun x y H Q => ∃ l b xs zs, x = .ref l ∧ y = .ref b ∧ H l = some (.lst xs) ∧ H b = some (.lst zs) ∧ xs.length + zs.length ≤ sizeLine ∧ ∀ p, H p = none → Q (.ref p) (upd H p (.lst (xs ++ zs)))
theorem op_cat : OpR X (binaryOp .Add) rCat := by
  intro pins s σ H x y v u Q I rx ry h
  obtain ⟨l, b, xs, zs, rfl, rfl, hH, hB, hz, q⟩ := h
  cases rx
  cases ry
  obtain ⟨z, its, n, r, hl, e⟩ := I.lstM hH
  obtain ⟨z2, its2, n2, r2, hl2, e2⟩ := I.lstM hB
  refine PySem.P.add_list e e2 ?_ (by rw [List.size_toArray, List.size_toArray]; omega)
  have ea : its.toArray ++ its2.toArray = (its ++ its2).toArray := by simp
  rw [ea]
  exact ⟨.ref _, _, I.lnew (t' := s.toks) (r.append r2) (by rw [List.length_append]; omega), rfl, q _ I.fresh⟩
end
section
variable {prog : Program} {w : World} {A : Around} {E : Value → Shared → Prop} {s : Shared}
end
section
variable {X : Cx}
end
end L2
namespace Att
open PySem PySem.W PySem.Calls PyProof.Rows
theorem ints_of_wellAll {P : Params} {h : Heap} : ∀ (ns : List Int) (vs : List Value), WellAll P h vs (ns.map WData.int) → IntsAre vs ns := by
  intro ns
  induction ns with
  | nil =>
    intro vs w
    rw [List.map_nil] at w
    cases w
    exact .nil
  | cons n ns ih =>
    intro vs w
    rw [List.map_cons] at w
    cases w with
    | cons a b =>
      cases a
      exact .cons _ _ (ih _ b)
theorem script_of {l : OpenLaw} {n : Nat} (hn : l.most = some n) {P : Params} {h : Heap} {args : List WData} {vals : List Value}
    (hpre : l.row.toRowW.claim.pre args = true) (hwl : WellAll P h vals args) :
    ∃ a vs ns, vals = [Value.ref a] ∧ args = [WData.list (ns.map WData.int)] ∧ h.get? a = some { cls := .type "list", data := .seq vs.toArray } ∧ IntsAre vs ns ∧ ns.length ≤ n := by
  have hsh : WShape.hasAll [] args [.list .int] = true := (pre_splitW hpre).1
  have hc : l.pre.holds [] { args := args } = true := (pre_splitW hpre).2
  obtain ⟨d, r, rfl, h1, h2⟩ := hasAllW_cons hsh
  obtain rfl := hasAllW_nil h2
  obtain ⟨xs, rfl, h3⟩ := hasW_list h1
  obtain ⟨ns, rfl⟩ := items_int h3
  have hlen : ns.length ≤ n := by
    unfold OpenLaw.pre at hc
    have h4 : (WTm.not (.lt (.lit (.int (n : Int))) (.len (.arg 0)))).holds [] { args := [.list (ns.map .int)] } = true := by
      have h4 := (holds_andW hc).1
      rw [hn] at h4
      exact h4
    have h5 := condW_of h4 (w_not (w_lt w_lit (w_len_list (w_arg rfl))))
    rw [List.length_map] at h5
    refine Nat.le_of_not_lt fun q => ?_
    have q' : (n : Int) < ((ns.length : Nat) : Int) := by omega
    first
      | (rw [decide_eq_true q'] at h5; exact absurd h5 (by decide))
      | (simp at h5; omega)
  cases hwl with
  | cons w1 w2 =>
    cases w2
    cases w1 with
    | list ho hall => exact ⟨_, _, ns, rfl, rfl, ho, ints_of_wellAll ns _ hall, hlen⟩
theorem post_true (l : OpenLaw) (args : List WData) : l.row.toRowW.claim.post args (.bool true) args = true :=
  postW_of (r := l.row.toRowW) (X := (true == true))
    (show WShape.has [] (.bool true) .bool = true by first | rfl | decide | simp [WShape.has, WShape.arms, WShape.armsAll])
    (show (WTm.eq .res (.lit (.bool true))).value [] { args := args, res := some (.bool true), after := args } = some (.bool (true == true)) from w_eq_bool (w_res rfl) w_lit) rfl
section
variable {prog : Program} {w : World} {A : Around} {E : Value → Shared → Prop} {s : Shared} {K : Frag}
end
end Att
namespace L2
open PySem PySem.Spec PyProof.Rows
theorem vals_ints : ∀ {vs : List Value} {ns : List Int}, IntsAre vs ns → Vals (ns.map V.int) vs
  | _, _, .nil => .nil
  | _, _, .cons n t h => .cons ⟨t, rfl⟩ (vals_ints h)
noncomputable def Only (H : Hp) : Prop := ∀ b, H b = none ∨ ∃ o xs, H b = some (.frz o (.lst xs))
theorem law_call {P : Program} {w : World} {K : PySem.W.Frag} {mg mb : Str → Option Value} {CX : CXT} {k : Nat} {fa a : Addr} {fd : FuncData} {x : Str} {sp : Sp} {s₁ : Shared} {vs : List Value} {ns : List Int}
    (KX : K.In s₁.heap) (hns : s₁.heap.Ns mainGlobals mg) (hb : s₁.heap.Ns builtinsNs mb) (hbb : ∀ x : Str, x ≠ "__name__" → mb x = bootBuiltins x) (hlim : s₁.heap.NoLimit) (hg : s₁.gens = #[])
    (ha : s₁.heap.get? a = some { cls := .type "list", data := .seq vs.toArray }) (hi : IntsAre vs ns) (hl : ns.length ≤ sizeLine) (hr : Room k callerA)
    (F : ∀ base : Heap, K.In base → base.Ns mainGlobals mg → FnOk P w K mg base CX k fa fd [x] sp) (hbind : ∀ (s : Shared) (u : Value), BindsTo s fd ⟨[u], []⟩ [(x, u)])
    (hsp : ∀ H : Hp, Only H → SqL K H a (ns.map V.int) → sp [.ref a] H (fun v _ => v = .bl true) fun _ _ _ => False)
    (hCX : ∀ H e s', CX [] H s₁ (fun _ _ _ => False) e s' → False) :
    codeAny (model P w) callerA (.call (.ref fa) ⟨[.ref a], []⟩) (fun r s' => r = .ok (.ret (.bool true)) ∧ OldK s₁.heap s'.heap ∧ s'.os = s₁.os ∧ AllBare s'.gens) s₁ := by
  have rv := vals_ints hi
  have lenV := hi.length
  have core : ∀ H : Hp, Only H → SqL K H a (ns.map V.int) → HOk P w H s₁.heap → (∀ b, H b ≠ none → b = a) → (H a ≠ none → K.lookup a = none) →
      codeAny (model P w) callerA (.call (.ref fa) ⟨[.ref a], []⟩) (fun r s' => r = .ok (.ret (.bool true)) ∧ OldK s₁.heap s'.heap ∧ s'.os = s₁.os ∧ AllBare s'.gens) s₁ := by
    intro H hO hS hok hA hK
    have base_of : ∀ {b : Addr} {o : Obj}, s₁.heap.get? b = some o → H b = none → (hidT s₁.heap H).get? b = some o := fun e n => hidT_get e n
    have noA : ∀ {b : Addr} {o : Obj} {es : Array DictEntry} {ep : Nat}, s₁.heap.get? b = some o → o.data = .dict es ep → H b = none := fun {b o es ep} e d => by
      cases q : H b with
      | none => rfl
      | some u =>
        have e' : b = a := hA b (by rw [q]; simp)
        subst e'
        rw [ha] at e; cases e
        have d' : Data.seq vs.toArray _ = Data.dict es ep := d
        cases d'
    have nsK : ∀ {b : Addr} {m : Str → Option Value}, s₁.heap.Ns b m → (hidT s₁.heap H).Ns b m := fun {b m} ⟨o, es, ep, e, d, r⟩ => ⟨o, es, ep, base_of e (noA e d), d, r⟩
    have hKb : K.In (hidT s₁.heap H) := fun b o e => base_of (KX b o e) (by
      cases q : H b with
      | none => rfl
      | some u =>
        have e' : b = a := hA b (by rw [q]; simp)
        subst e'
        rw [hK (by rw [q]; simp)] at e; cases e)
    have hM : Mod K mg (hidT s₁.heap H) := ⟨hKb, nsK hns, ⟨mb, nsK hb, hbb⟩, let ⟨mc, h1, h2⟩ := hlim; ⟨mc, nsK h1, h2⟩⟩
    have e0 : Env0 P w K mg (hidT s₁.heap H) callerA [] s₁ H := ⟨rfl, hM, fun b o e => of_hidT e, Nat.le_of_eq (hidT_size _ _), trivial, fun b hb => absurd (show b ∈ ([] : List Addr) from hb) (by simp), hok, .of_eq hg⟩
    refine codeAny_mono ((F _ hKb (nsK hns)).run callerA [] s₁ H ⟨[.ref a], []⟩ [.ref a] [.ref a] _ _ hr e0 (hbind s₁ (.ref a)) (.cons rfl .nil) (hsp H hO hS)) fun r s' h => ?_
    cases r with
    | error e => exact (hCX H e s' h).elim
    | ok fl =>
      cases fl with
      | next => exact False.elim h
      | brk => exact False.elim h
      | cont => exact False.elim h
      | ret u =>
        obtain ⟨v, H', os, bare, un, hok', r', q⟩ := h
        have q' : v = .bl true := q
        subst q'
        obtain rfl : u = Value.bool true := r'
        refine ⟨rfl, OldK.of_keep fun b o e => ?_, os, bare⟩
        cases q : H b with
        | none => exact un.keep b o e q (by intro z; exact absurd (show b ∈ ([] : List Addr) from z) (by simp)) (by simp)
        | some u =>
          rcases hO b with z | ⟨ob, xs, z⟩
          · rw [q] at z; cases z
          · have z2 := un.frzs b ob _ z
            obtain ⟨e1, _⟩ := hok b _ z
            obtain ⟨e2, _⟩ := hok' b _ z2
            rw [e] at e1; cases e1
            exact e2
  cases hk : K.lookup a with
  | some o =>
    have e := KX a o hk
    rw [ha] at e
    cases e
    refine core (fun _ => none) (fun _ => .inl rfl) (.inr ⟨_, vs.toArray, _, hk, rfl, rfl, rfl, by rw [List.size_toArray, lenV]; exact hl, by simpa using rv⟩) (fun b u z => by have z' : (none : Option HO) = some u := z; cases z') (fun b z => absurd rfl z) fun z => absurd rfl z
  | none =>
    refine core (fun b => if b = a then some (.frz { cls := .type "list", data := .seq vs.toArray } (.lst (ns.map V.int))) else none) (fun b => ?_) (.inl (.inr ⟨{ cls := .type "list", data := .seq vs.toArray }, if_pos rfl⟩)) (fun b u z => ?_) (fun b z => ?_) fun _ => hk
    · by_cases hb : b = a
      · exact .inr ⟨_, _, if_pos hb⟩
      · exact .inl (if_neg hb)
    · by_cases hb : b = a
      · have z' := (if_pos hb).symm.trans z
        cases z'
        subst hb
        exact ⟨ha, by rw [List.length_map]; exact hl, vs, _, rv, ha⟩
      · have z' := (if_neg hb).symm.trans z
        cases z'
    · by_cases hb : b = a
      · exact hb
      · exact absurd (if_neg hb) z
end L2
namespace L2
open PySem PySem.Spec PyProof.Rows
end L2
namespace L2
open PySem PySem.Spec PyProof.Rows
noncomputable def defArgs (s : Stmt) : Arguments := match s with
  | .FunctionDef _ a _ _ _ _ _ _ _ _ => a
  | _ => { posonlyargs := [], args := [], vararg := none, kwonlyargs := [], kw_defaults := [], kwarg := none, defaults := [] }
noncomputable def defBody (s : Stmt) : List Stmt := match s with
  | .FunctionDef _ _ b _ _ _ _ _ _ _ => b
  | _ => []
noncomputable def defScope (s : Stmt) : Scope := match s with
  | .FunctionDef _ _ _ _ _ _ sc _ _ _ => sc
  | _ => { kind := .function, names := [], isGenerator := false, isCoroutine := false }
noncomputable abbrev CX0 : CXT := fun _ _ _ _ _ _ => False
noncomputable abbrev E0 : XK := fun _ _ _ => False
theorem pass0 {X : Cx} : Passes CX0 X E0 := fun _ _ _ _ _ _ _ h => h.elim
structure Fun (K : PySem.W.Frag) (x qual : Str) (st : Stmt) (f : Addr) (fd : FuncData) : Prop where
  ex : ∃ (oc : Value) (od : Option Addr) (kV doc pm : Value) (an : Option Addr) (cdv ct : Value) (osl : Array (Option Value)),
    fd = PySem.W.fnOf x qual (defArgs st) (defBody st) (defScope st) .none kV doc pm an cdv ct ∧ K.lookup f = some ⟨oc, od, .func fd, osl⟩ ∧ PySem.W.codeIn K cdv qual = true
  kp : PySem.W.keepIn K (.ref f) = true
section
variable {P : Program} {w : World} {K : PySem.W.Frag} {mg : Str → Option Value} {base : Heap}
theorem Fun.ok {x qual : Str} {st : Stmt} {f : Addr} {fd : FuncData} {N ps : List Str} {k : Nat} {sp : Sp} (F : Fun K x qual st f fd) (S : FnScope N ps (defScope st)) (len : ∀ vs H Q E, sp vs H Q E → vs.length = ps.length)
    (hbody : ∀ (cdv : Value) (A : Around) (outer : List Env) (s : Shared) (H : Hp) (vs : List V) (Q : VK) (E : XK), Room k (A.deeper (envOfC qual (defScope st) s.heap.objs.size f cdv)) → sp vs H Q E →
      ∃ t, PSs (cxOf CX0 P w K mg base N qual (defScope st) f cdv A outer s H E).nox (defBody st) t ∧ t { nx := fun _ H' => Q .non H', rt := Q } (start N vs) H) : FnOk P w K mg base CX0 (k + 1) f fd ps sp := by
  obtain ⟨oc, od, kV, doc, pm, an, cdv, ct, osl, rfl, lk, hcd⟩ := F.ex
  refine fn_of lk hcd S len fun A outer s H vs Q E hr hsp => ?_
  obtain ⟨t, h, q⟩ := hbody cdv A outer s H vs Q E hr hsp
  exact ⟨t, h.nox, q⟩
theorem Fun.binds {x qual : Str} {st : Stmt} {f : Addr} {fd : FuncData} {ps : List Str} (F : Fun K x qual st f fd)
    (h : ∀ (kV doc pm : Value) (an : Option Addr) (cdv ct : Value) (us : List Value), us.length = ps.length → bindArgs (PySem.W.fnOf x qual (defArgs st) (defBody st) (defScope st) .none kV doc pm an cdv ct) ⟨us, []⟩ = pure (ps.zip us)) : Binds K fd ps [] := by
  obtain ⟨oc, od, kV, doc, pm, an, cdv, ct, osl, rfl, lk, hcd⟩ := F.ex
  exact .all (h kV doc pm an cdv ct)
theorem fun_mk {x qual : Str} {st : Stmt} {f : Addr} {oc : Value} {od an : Option Addr} {osl : Array (Option Value)} {kV doc pm cdv ct : Value} (l : K.lookup f = some ⟨oc, od, .func (PySem.W.fnOf x qual (defArgs st) (defBody st) (defScope st) .none kV doc pm an cdv ct), osl⟩)
    (c : PySem.W.codeIn K cdv qual = true) (k : PySem.W.keepIn K (.ref f) = true) : Fun K x qual st f (PySem.W.fnOf x qual (defArgs st) (defBody st) (defScope st) .none kV doc pm an cdv ct) := ⟨⟨oc, od, kV, doc, pm, an, cdv, ct, osl, rfl, l, c⟩, k⟩
end
section
variable {X : Cx}
theorem pv (i : Nat) {x : Str} {pos : Pos} (hN : X.N[i]? = some x := by rfl) (hv : Vis X.env.scope x := by first | exact Or.inl rfl | exact Or.inr (Or.inl rfl) | exact Or.inr (Or.inr rfl)) (hd : (x == ("__debug__" : Str)) = false := by decide)
    (hcd : (x == ("__classdict__" : Str)) = false := by decide) : PE X (.Name x pos) (tVar i) := pe_var hN hv hd hcd
end
theorem iteF {A B : Prop} (h : B) : if false = true then A else B := by
  rw [if_neg Bool.false_ne_true]
  exact h
theorem iteT {A B : Prop} (h : A) : if true = true then A else B := by
  rw [if_pos rfl]
  exact h
theorem ite2 {c A B : Prop} [Decidable c] (h1 : c → A) (h2 : ¬ c → B) : if c then A else B := by
  by_cases h : c
  · rw [if_pos h]
    exact h1 h
  · rw [if_neg h]
    exact h2 h
noncomputable def Same (H H' : Hp) : Prop := ∀ b o, H b = some o → H' b = some o
theorem Same.refl (H : Hp) : Same H H := fun _ _ h => h
theorem Same.trans {H H1 H2 : Hp} (a : Same H H1) (b : Same H1 H2) : Same H H2 := fun c o h => b c o (a c o h)
theorem Same.free {H H' : Hp} (e : Same H H') {l : Addr} (h : H' l = Option.none) : H l = Option.none := by
  cases q : H l with
  | none => rfl
  | some o =>
    rw [e l o q] at h
    cases h
theorem Same.seq {K : PySem.W.Frag} {H H' : Hp} {a : Addr} {xs : List V} (e : Same H H') (h : SqL K H a xs) : SqL K H' a xs := by
  rcases h with (h | ⟨o, h⟩) | h
  · exact .inl (.inl (e _ _ h))
  · exact .inl (.inr ⟨o, e _ _ h⟩)
  · exact .inr h
end L2
set_option maxHeartbeats 4000000
namespace L2
open PySem PySem.Spec PyProof.Rows
section
variable {X : Cx}
noncomputable def Sml (i : Int) : Prop := i.natAbs < 2 ^ 4000
theorem Sml.bits {i : Int} (h : Sml i) : Builtin.Int.intBits i ≤ 4000 := intBits_le_iff.mpr h
theorem call_isinst : CallR X (.builtin "isinstance") (fun xs H Q => ∃ x t T b, xs = [x, .ty T] ∧ TyOf X.K H x t ∧ PySem.W.kitOne X.K t (.type T) = some b ∧ Q (.bl b) H) := by
  intro pins s σ H xs us Q I r h
  obtain ⟨x, t, T, b, rfl, ty, e, q⟩ := h
  obtain ⟨u, w', rfl, r1, r2⟩ := vals2 r
  cases r2
  exact isinst_ok I r1 ty e fun tk => ⟨.bl b, H, I.tok _, rfl, q⟩
theorem vals_bools : ∀ {bs : List Bool} {us : List Value} {i : Nat} {v : Value}, Vals (bs.map V.bl) us → us[i]? = some v → ∃ b, bs[i]? = some b ∧ v = .bool b
  | [], _, _, _, .nil, e => by simp at e
  | b :: bs, _, 0, v, .cons r t, e => by
    simp at e; subst e
    exact ⟨b, rfl, r⟩
  | b :: bs, _, i + 1, v, .cons r t, e => by
    obtain ⟨c, h1, h2⟩ := vals_bools (i := i) (v := v) t (by simpa using e)
    exact ⟨c, by simpa using h1, h2⟩
theorem call_all (hc : X.calm = true) : CallR X (.builtin "all") (fun xs H Q => ∃ (p : Addr) (bs : List Bool), xs = [.ref p] ∧ SqL X.K H p (bs.map V.bl) ∧ Q (.bl (bs.all id)) H) := by
  intro pins s σ H xs us Q I r h
  obtain ⟨p, bs, rfl, hq, q⟩ := h
  obtain ⟨u, rfl, r1⟩ := vals1 r
  cases r1
  obtain ⟨its, rv, pl, hz⟩ := I.list hq
  have hl := pl.isList
  have hlt : p < s.heap.objs.size := by obtain ⟨_, e, _⟩ := hl; exact Heap.lt_size e
  have hlen : bs.length = its.length := by have := rv.length; rw [List.length_map] at this; exact this
  refine call_all_walk (wpAny_pyIter_list hl ?_)
  refine ⟨s.heap.objs.size, [s.heap.objs.size, p], [s.heap.objs.size], its.toArray.size, _, _, fun i => (bs[i]?).getD true, rfl, Walks.list (A := X.A.in1) (I.ok.hd hc) _ p (Nat.ne_of_lt hlt) its.toArray,
    ⟨⟨_, Heap.get?_push_size _ rfl, rfl, rfl⟩, hl.push _⟩, fun i v s' Q' E' hP hQ => ?_, fun h' tk hk => ?_⟩
  · obtain ⟨b, e, rfl⟩ := vals_bools (i := i) (v := v) rv (by simpa using hP)
    simp only [e, Option.getD_some] at hQ
    exact wpAny_truthy_bool hQ
  · have e : ((List.range its.toArray.size).all fun i => (bs[i]?).getD true) = bs.all id := by
      rw [List.size_toArray, ← hlen]; exact LSm.range_all bs
    rw [e]
    exact ⟨.bl (bs.all id), H, I.kept (LSm.kept_iter hk), rfl, q⟩
end
theorem boot_min : bootBuiltins "min" = some (.builtin "min") := PyProof.Rows.boot_min
theorem boot_max : bootBuiltins "max" = some (.builtin "max") := PyProof.Rows.boot_max
theorem boot_all : bootBuiltins "all" = some (.builtin "all") := PyProof.Rows.boot_all
theorem boot_abs : bootBuiltins "abs" = some (.builtin "abs") := PyProof.Rows.boot_abs
theorem boot_isinstance : bootBuiltins "isinstance" = some (.builtin "isinstance") := PyProof.Rows.boot_isinstance
theorem boot_int : bootBuiltins "int" = some (.type "int") := PyProof.Rows.boot_int
theorem boot_bool : bootBuiltins "bool" = some (.type "bool") := PyProof.Rows.boot_bool
theorem boot_tuple : bootBuiltins "tuple" = some (.type "tuple") := PyProof.Rows.boot_tuple
theorem boot_list : bootBuiltins "list" = some (.type "list") := PyProof.Rows.boot_list
theorem getD_in {α : Type} {ns : List α} {i : Nat} {d : α} (h : i < ns.length) : ns.getD i d = ns[i] := by simp [List.getD, h]
theorem same_new {H : Hp} {p : Addr} (h : H p = none) (o : HO) : Same H (upd H p o) := fun b u q => by rw [upd_ne (ne_of_none q h)]; exact q
theorem ofD {p : Prop} [Decidable p] (h : ¬ decide p = true) : ¬ p := of_decide_eq_false (Bool.eq_false_iff.mpr h)
theorem sub1 {cs : List (Str × Addr)} {x : Str} {c : Addr} (h : cs.lookup x = some c) : ∀ y c', [(x, c)].lookup y = some c' → cs.lookup y = some c' := fun y c' e => by
  by_cases z : y = x
  · subst z
    simp at e
    subst e
    exact h
  · have : (y == x) = false := by simpa using z
    simp [List.lookup, this] at e
theorem at_getD {ns : List Int} {i : Int} (h0 : 0 ≤ i) (h1 : i < (ns.length : Int)) : atI (ns.map V.int) i = some (.int (ns.getD i.toNat 0)) := by
  have hk : i.toNat < ns.length := by omega
  have ek : i = ((i.toNat : Nat) : Int) := by omega
  have z : atI (ns.map V.int) ((i.toNat : Nat) : Int) = some (.int ns[i.toNat]) := atI_nat (by rw [List.getElem?_map, List.getElem?_eq_getElem hk] <;> rfl)
  rw [← ek] at z
  rw [z, getD_in hk]
theorem md0 (c : Int) {m : Int} (h : 0 < m) : 0 ≤ c % m := Int.emod_nonneg _ (by omega)
theorem md1 (c : Int) {m : Int} (h : 0 < m) : c % m < m := Int.emod_lt_of_pos _ h
end L2
set_option maxHeartbeats 4000000
namespace L2
open PySem PySem.Spec PyProof.Rows
noncomputable def cxComp (X : Cx) (N' : List Str) (scope : Scope) (cl : List (Str × Addr)) (C : Addr) (s3 : Shared) (H3 : Hp) (fp : List Addr) : Cx where
  prog := X.prog
  w := X.w
  K := X.K
  mg := X.mg
  base := X.base
  A := X.A
  N := N'
  s₀ := s3
  H₀ := H3
  env := compEnvC scope cl C X.env
  outer := X.stack
  stack := X.stack
  ex := fp
  fn := fun _ => false
  calm := X.calm
  pn := []
  xe := fun _ _ => False
noncomputable def taken (σ : St) (fr : List Nat) : St := fr.map fun j => (σ[j]?).getD none
noncomputable def CompGo (J : It) (te : TE) (st : St) (D : Addr) (H1 : Hp) (Q : VK) : Prop :=
  ∃ W : Nat → Nat → List V → Hp → Prop, (∃ m, W 0 m [] (upd H1 D (.lst []))) ∧ ∀ i m ys H2, W i m ys H2 →
    (J.stop i H2 ∧ Q (.ref D) H2) ∨ (J.go i H2 ∧ ∀ x H3, J.yld i H2 x H3 → te (some x :: st) H3 fun y H4 => H4 D = some (.lst ys) ∧ ys.length < sizeLine ∧ ∃ m', m' < m ∧ W (i + 1) m' (ys ++ [y]) (upd H4 D (.lst (ys ++ [y]))))
noncomputable def tComp (wi : TI) (fr : List Nat) (te : TE) : TE := fun σ H Q => wi σ H fun J H1 => ∀ D, H1 D = none → CompGo J te (taken σ fr) D H1 Q
theorem compLoop_any {prog : Program} {w : World} {A : Around} {R : Result → Shared → Prop} {s : Shared} {elt tg iter : Expr} {scope : Scope} {pos : Pos} {it acc : Value} {env : Env} (Iv : Nat → Shared → Prop)
    (turn : ∀ k s, Iv k s → wpAny (model prog w) A (pyNext it) (fun r s1 => match r with
      | none => R (.ok .next) s1
      | some v => wpAny (model prog w) A (letOwnedTupleGo tg it v) (fun _ s2 => wpAny (model prog w) A (assign tg env v) (fun _ s3 => wpAny (model prog w) A (eval elt env) (fun y s4 =>
          wpAny (model prog w) A (call (.builtin "list.append") [acc, y]) (fun _ s5 => ∃ m, m < k ∧ Iv m s5) (fun _ _ => False) s4) (fun _ _ => False) s3) (fun _ _ => False) s2) (fun _ _ => False) s1) (fun _ _ => False) s)
    (k : Nat) (h : Iv k s) : codeAny (model prog w) A (.compLoop (.ListComp elt [⟨tg, iter, [], 0⟩] scope pos) 0 it acc env) R s := by
  refine codeAny_loop rfl Iv (fun k s hI => ?_) k h
  show wpAny _ _ ((compTurn (.ListComp elt [⟨tg, iter, [], 0⟩] scope pos) 0 it acc env).onRaise (fun e => do noteFrame e env; theTreesLotGoes e)) _ _ s
  refine wpAny_noted ?_
  rw [compTurn_list1]
  refine wpAny_bind (wpAny_standAt (wpAny_bind (wpAny_mono (turn k s hI) (fun r s1 h1 => ?_) fun _ _ f => f.elim)))
  cases r with
  | none => exact wpAny_pure h1
  | some v =>
    exact wpAny_bind (wpAny_mono h1 (fun _ s2 h2 => wpAny_bind (wpAny_mono h2 (fun _ s3 h3 => wpAny_bind (wpAny_bind (wpAny_mono h3 (fun y s4 h4 => wpAny_bind (wpAny_mono h4
      (fun _ s5 h5 => wpAny_pure (wpAny_pure ⟨rfl, h5⟩)) fun _ _ f => f.elim)) fun _ _ f => f.elim))) fun _ _ f => f.elim)) fun _ _ f => f.elim)
structure CompOk (X : Cx) (x : Str) (ts : List (Str × Nat)) (scope : Scope) (cl : List (Str × Addr)) : Prop where
  clos : closureFor scope X.env = pure cl
  sub : ∀ y c, cl.lookup y = some c → X.env.cells.lookup y = some c
  nocell : (scope.names.all fun p => p.2 != .cell) = true
  kind : scope.kind = .function
  locs : (scope.names.all fun p => p.2 != .local || scope.names.lookup p.1 == some .local) = true
  var : scope.names.lookup x = some .local
  nd : (x :: ts.map (·.1)).Nodup
  around : (ts.all fun p => decide (X.N[p.2]? = some p.1) && (X.env.kindOf p.1 == some .cell || X.env.kindOf p.1 == some .free) && (cl.lookup p.1).isSome &&
    ((relabel scope X.env).names.lookup p.1 == some .cell || (relabel scope X.env).names.lookup p.1 == some .free)) = true
  has : ((relabel scope X.env).names.all fun p => !(p.2 == .cell || p.2 == .free) || (cl.lookup p.1).isSome) = true
noncomputable abbrev nmsOf (x : Str) (ts : List (Str × Nat)) : List Str := x :: ts.map (·.1)
noncomputable abbrev sltOf (ts : List (Str × Nat)) : List Nat := ts.map (·.2)
theorem CompOk.nocell' {X : Cx} {x : Str} {ts : List (Str × Nat)} {scope : Scope} {cl : List (Str × Addr)} (O : CompOk X x ts scope cl) : ∀ y ∈ scope.names, y.2 ≠ .cell := fun y hy e => by
  have := List.all_eq_true.mp O.nocell y hy
  rw [e] at this
  cases this
theorem CompOk.locs' {X : Cx} {x : Str} {ts : List (Str × Nat)} {scope : Scope} {cl : List (Str × Addr)} (O : CompOk X x ts scope cl) : ∀ y ∈ scope.names, y.2 = .local → scope.names.lookup y.1 = some .local := fun y hy e => by
  have h := List.all_eq_true.mp O.locs y hy
  rw [e] at h
  rcases Bool.or_eq_true_iff.mp h with z | z
  · cases z
  · exact beq_iff_eq.mp z
theorem CompOk.from' {X : Cx} {x : Str} {ts : List (Str × Nat)} {scope : Scope} {cl : List (Str × Addr)} (O : CompOk X x ts scope cl) : ∀ (i : Nat) (y : Str), (nmsOf x ts)[i + 1]? = some y → ∃ j, (sltOf ts)[i]? = some j ∧ X.N[j]? = some y ∧ (X.env.kindOf y = some .cell ∨ X.env.kindOf y = some .free) ∧ (cl.lookup y).isSome = true ∧
    ((relabel scope X.env).names.lookup y = some .cell ∨ (relabel scope X.env).names.lookup y = some .free) := fun i y e => by
  have e1 : (ts.map (·.1))[i]? = some y := by simpa using e
  rw [List.getElem?_map] at e1
  cases q : ts[i]? with
  | none => rw [q] at e1; cases e1
  | some p =>
    rw [q] at e1
    have e2 : p.1 = y := Option.some.inj e1
    subst e2
    have h := List.all_eq_true.mp O.around p (List.mem_of_getElem? q)
    simp only [Bool.and_eq_true, Bool.or_eq_true, beq_iff_eq, decide_eq_true_eq] at h
    obtain ⟨⟨⟨h1, h2⟩, h3⟩, h4⟩ := h
    refine ⟨p.2, ?_, h1, h2, h3, h4⟩
    show (ts.map (·.2))[i]? = some p.2
    rw [List.getElem?_map, q] <;> rfl
theorem CompOk.has' {X : Cx} {x : Str} {ts : List (Str × Nat)} {scope : Scope} {cl : List (Str × Addr)} (O : CompOk X x ts scope cl) : ∀ y, ((relabel scope X.env).names.lookup y = some .cell ∨ (relabel scope X.env).names.lookup y = some .free) → (cl.lookup y).isSome = true := fun y h => by
  have go : ∀ k : NameKind, (k = .cell ∨ k = .free) → (relabel scope X.env).names.lookup y = some k → (cl.lookup y).isSome = true := fun k hk e => by
    have z := List.all_eq_true.mp O.has (y, k) (PySem.mem_of_lookup e)
    rcases Bool.or_eq_true_iff.mp z with z | z
    · rcases hk with e | e <;> (rw [e] at z; cases z)
    · exact z
  rcases h with h | h
  · exact go _ (.inl rfl) h
  · exact go _ (.inr rfl) h
section
variable {X : Cx} {elt iter : Expr} {x : Str} {px pos : Pos} {scope : Scope} {cl : List (Str × Addr)} {ts : List (Str × Nat)} {wi : TI} {te : TE}
theorem comp_ok {pins : List (Addr × Obj)} {σ : St} {H3 : Hp} {s3 : Shared} {fp : List Addr} (O : CompOk X x ts scope cl) (I3 : Inv X pins σ H3 s3) (hfp : ∀ b ∈ fp, FpOk X pins H3 b ∧ b < s3.heap.objs.size) :
    (cxComp X (nmsOf x ts) scope cl s3.heap.objs.size s3 H3 fp).Ok where
  mod := I3.ok.mod
  kind := O.kind
  glob := I3.ok.glob
  blt := I3.ok.blt
  above := Nat.le_refl _
  inj := fun y z c h1 h2 => I3.ok.inj y z c (O.sub y c h1) (O.sub z c h2)
  has := fun y h => Option.isSome_iff_exists.mp (O.has' y h)
  cab := fun y c h => by cases h
  hd := I3.ok.hd
  frames := I3.ok.frames
  stk := .inl rfl
  exf := fun b hb => ⟨Nat.ne_of_lt (hfp b hb).2, fun y c e => (hfp b hb).1.2.2.2.2.1 y c (O.sub y c e)⟩
  bs := fun b o e => I3.bs b o e
  bsz := Nat.le_trans I3.ok.bsz I3.sz
  noex := fun b o e hb => by
    rcases (hfp b hb).1.2.2.2.1 with z | z
    · exact I3.ok.noex b o e z
    · exact absurd (Nat.lt_of_lt_of_le (Heap.lt_size (I3.ok.bs b o e).1) z) (Nat.lt_irrefl _)
  exfs := fun b hb hz => by
    rcases List.mem_cons.mp (I3.stkSub b hz) with e | e
    · exact (hfp b hb).1.2.1 e
    · exact (hfp b hb).1.2.2.1 e
  funs := I3.stack
  frf := I3.stkFree
theorem comp_start {pins : List (Addr × Obj)} {σ : St} {H3 : Hp} {s3 : Shared} {fp : List Addr} {h1 : Heap} {tk : Nat} (O : CompOk X x ts scope cl) (I3 : Inv X pins σ H3 s3) (hfp : ∀ b ∈ fp, FpOk X pins H3 b ∧ b < s3.heap.objs.size)
    (hns : h1.Ns s3.heap.objs.size fun _ => none) (old : ∀ b o, s3.heap.get? b = some o → h1.get? b = some o) :
    Inv (cxComp X (nmsOf x ts) scope cl s3.heap.objs.size s3 H3 fp) [] (none :: taken σ (sltOf ts)) H3 { s3 with heap := h1, toks := tk } := by
  refine ⟨comp_ok O I3 hfp, rfl, I3.bare, Un.kept old, ⟨_, hns, fun i y v e1 e2 e3 => ?_⟩, fun y c e => ?_, I3.hok.fresh (Nat.le_refl _), fun y c e => I3.freeC y c (O.sub y c e), fun p hp => absurd (show p ∈ ([] : List (Addr × Obj)) from hp) (by simp), I3.hok.kept old, ?_⟩
  · cases i with
    | zero => simp at e2
    | succ i =>
      obtain ⟨j, hj, hN, hk, hcl, hk2⟩ := O.from' i y e1
      have e2' : σ[j]? = some (some v) := by
        have q : (taken σ (sltOf ts))[i]? = some (some v) := by simpa using e2
        unfold taken at q
        rw [List.getElem?_map, hj] at q
        have q' : (σ[j]?).getD none = some v := Option.some.inj q
        cases z : σ[j]? with
        | none => rw [z] at q'; cases q'
        | some w => rw [z] at q'; rw [show w = some v from q']
      obtain ⟨m, hn, hl⟩ := I3.loc
      have vis : Vis X.env.scope y := hk.elim (fun z => .inr (.inl z)) fun z => .inr (.inr z)
      obtain ⟨u, r, l⟩ := hl j y v hN e2' vis
      obtain ⟨c, hc⟩ := Option.isSome_iff_exists.mp hcl
      refine ⟨u, r, .inr ⟨hk2, c, hc, ?_⟩⟩
      rcases l with ⟨k, _⟩ | ⟨_, c', hc', z⟩
      · rcases hk with hk | hk
        · rw [k] at hk; cases hk
        · rw [k] at hk; cases hk
      · rw [O.sub y c hc] at hc'
        cases hc'
        obtain ⟨o, ho, hd⟩ := z
        exact ⟨o, old c o ho, hd⟩
  · obtain ⟨v, o, ho, hd⟩ := I3.cell y c (O.sub y c e)
    exact ⟨v, o, old c o ho, hd⟩
  · show (none :: taken σ (sltOf ts)).length = (nmsOf x ts).length
    simp [taken]
theorem pe_comp (hc : X.calm = true) (O : CompOk X x ts scope cl) (hi : PI X (.Name x px) iter wi) (he : ∀ C s3 H3 fp, PE (cxComp X (nmsOf x ts) scope cl C s3 H3 fp) elt te)
    (hs : ∀ x, foldedSetIterable iter X.env x = pure x := by intro _; rfl) : PE X (.ListComp elt [⟨.Name x px, iter, [], 0⟩] scope pos) (tComp wi (sltOf ts) te) := by
  intro pins s σ H Q I h
  rw [eval_ListComp]
  refine wpAny_comprehension_free (use := none) rfl hs O.clos O.kind O.locs' (thn (hi pins s σ H _ I h) fun v s1 h1 => thn h1 fun itv s2 h2 => ?_)
  obtain ⟨it, fp, tn, J, H2, rfl, I2, T, st2, f2, q⟩ := h2
  have hD : H2 s2.heap.objs.size = none := I2.hok.fresh (Nat.le_refl _)
  obtain ⟨W, ⟨m0, w0⟩, turn⟩ := q s2.heap.objs.size hD
  refine wpAny_newObj_type ?_
  have I3 : Inv X pins σ (upd H2 s2.heap.objs.size (.lst [])) { s2 with heap := s2.heap.push { cls := .type "list", dict := none, data := .seq ([] : List Value).toArray } } :=
    I2.laid (a := s2.heap.objs.size) (o := .lst []) (t' := s2.toks) (fun b u e => Heap.get?_push_of_some _ e) (Nat.le_refl _) ⟨Nat.zero_le _, [], 0, .nil, Heap.get?_push_size _ rfl⟩
  generalize hs3 : ({ s2 with heap := s2.heap.push { cls := .type "list", dict := none, data := .seq ([] : List Value).toArray } } : Shared) = s3 at I3
  have sz3 : s3.heap.objs.size = s2.heap.objs.size + 1 := by rw [← hs3, Heap.size_push]
  have old3 : ∀ b u, s2.heap.get? b = some u → s3.heap.get? b = some u := fun b u e => by rw [← hs3]; exact Heap.get?_push_of_some _ e
  generalize hH3 : upd H2 s2.heap.objs.size (.lst []) = H3 at I3 w0
  have H3D : H3 s2.heap.objs.size = some (.lst []) := by rw [← hH3]; exact upd_same
  have fp2 : ∀ b ∈ fp, b < s2.heap.objs.size := fun b hb => by
    obtain ⟨o, e, _⟩ := T.obj _ _ st2 b hb
    exact Heap.lt_size e
  have hfp : ∀ b ∈ fp, FpOk X pins H3 b ∧ b < s3.heap.objs.size := fun b hb => by
    refine ⟨⟨?_, (f2 b hb).2⟩, by rw [sz3]; exact Nat.lt_succ_of_lt (fp2 b hb)⟩
    rw [← hH3, upd_ne (Nat.ne_of_lt (fp2 b hb))]
    exact (f2 b hb).1
  refine wpAny_newFunctionEnv O.nocell' (by intro y hy; simp at hy) (fun h₁ hns₁ hsb₁ => ?_) O.kind
  have old : ∀ b o, s3.heap.get? b = some o → h₁.get? b = some o := fun b o e => hsb₁.extBut b o (Nat.ne_of_lt (Heap.lt_size e)) (Heap.get?_push_of_some _ e)
  have start : Inv (cxComp X (nmsOf x ts) scope cl s3.heap.objs.size s3 H3 fp) [] (none :: taken σ (sltOf ts)) H3 { s3 with heap := h₁, toks := s3.toks + 0 } := comp_start O I3 hfp hns₁ old
  have st4 : tn 0 h₁ := T.keep _ _ _ st2 fun b hb o e => old b o (old3 b o e)
  have okX : ∀ {H' : Hp}, (∀ b ∈ fp, H' b = none) → ∀ b ∈ fp, FpOk (cxComp X (nmsOf x ts) scope cl s3.heap.objs.size s3 H3 fp) [] H' b := fun hn b hb => by
    refine ⟨hn b hb, Nat.ne_of_lt (hfp b hb).2, fun z => ?_, .inl hb, fun y c e => (f2 b hb).2.2.2.2.1 y c (O.sub y c e), fun p hp => absurd (show p ∈ ([] : List (Addr × Obj)) from hp) (by simp)⟩
    rcases List.mem_cons.mp (I3.stkSub b z) with e | e
    · exact (f2 b hb).2.1 e
    · exact (f2 b hb).2.2.1 e
  have loop : ∀ s₄ : Shared, s₄ = { s3 with heap := h₁, toks := s3.toks + 0 } →
      codeAny (model X.prog X.w) X.A (.compLoop (.ListComp elt [⟨.Name x px, iter, [], 0⟩] scope pos) 0 (.ref it) (.ref s2.heap.objs.size) (compEnvC scope cl s3.heap.objs.size X.env))
        (compPost (model X.prog X.w) X.A X.xe none (EP X pins σ Q) (.ref s2.heap.objs.size) s3.heap.objs.size) s₄ := by
    rintro s₄ rfl
    refine compLoop_any (fun n s' => ∃ i ys σ0 H', Inv (cxComp X (nmsOf x ts) scope cl s3.heap.objs.size s3 H3 fp) [] (σ0 :: taken σ (sltOf ts)) H' s' ∧ tn i s'.heap ∧ (∀ b ∈ fp, H' b = none) ∧ W i n ys H') ?_ m0
      ⟨0, [], none, H3, start, st4, fun b hb => (hfp b hb).1.1, w0⟩
    rintro n s5 ⟨i, ys, σ0, H5, I5, st5, fr5, w5⟩
    rcases turn i n ys H5 w5 with ⟨stop, qn⟩ | ⟨go, step⟩
    · refine thn (T.done (cxComp X (nmsOf x ts) scope cl s3.heap.objs.size s3 H3 fp) rfl rfl rfl hc i [] s5 (σ0 :: taken σ (sltOf ts)) H5 _ I5 (okX fr5) st5 stop) fun r s6 ⟨hr, I6⟩ => ?_
      subst hr
      obtain ⟨m, hn, _⟩ := id I6.loc
      refine ⟨m, hn, fun h' sb => ?_⟩
      have u6 : Un (frs X.stack) fp H3 H5 s3.heap s6.heap := I6.base
      have neC : ∀ b o, s3.heap.get? b = some o → b ≠ s3.heap.objs.size := fun b o e => Nat.ne_of_lt (Heap.lt_size e)
      have un : Un (frs X.stack) fp H3 H5 s3.heap h' := ⟨fun b o e n1 hb hx => (sb.2 b (neC b o e)).trans (u6.keep b o e n1 hb hx), fun b o e n1 hb hx => by
          obtain ⟨sl, z⟩ := u6.slot b o e n1 hb hx
          exact ⟨sl, (sb.2 b (neC b o e)).trans z⟩, u6.free, fun b o e hx => by
          obtain ⟨o', z⟩ := u6.there b o e hx
          exact ⟨o', (sb.2 b (neC b o e)).trans z⟩, u6.tups, u6.frzs, u6.tbls⟩
      have hok : HOk X.prog X.w H5 h' := fun b u e => by
        refine (I6.hok b u e).stay (fun c v hc' z => (sb.2 c ?_).trans z) (fun _ z => z) fun _ _ z => z
        rintro rfl
        have fC : H5 s3.heap.objs.size = none := I6.free
        rcases hc' with z' | z'
        · rw [← z', fC] at e; cases e
        · rw [fC] at z'; cases z'
      refine ⟨.ref s2.heap.objs.size, H5, I3.call' (s' := { s6 with heap := h' }) (ch := fp) ?_ un hok I6.bare (fun b hb => ⟨(f2 b hb).2.2.2.1, (f2 b hb).2.1, (f2 b hb).2.2.2.2.1, (f2 b hb).2.2.2.2.2⟩), rfl, qn⟩
      exact I6.os
    · refine thn (T.item (cxComp X (nmsOf x ts) scope cl s3.heap.objs.size s3 H3 fp) rfl rfl rfl hc i [] s5 (σ0 :: taken σ (sltOf ts)) H5 _ I5 (okX fr5) st5 go) fun r s6 ⟨u, hr, h6⟩ => ?_
      subst hr
      refine thn h6 fun _ s7 ⟨z, H7, I7, rz, yz, st7, fr7⟩ => ?_
      have I7' := I7.pinned (okX fr7) (T.obj _ _ st7)
      have PG' : PG (cxComp X (nmsOf x ts) scope cl s3.heap.objs.size s3 H3 fp) (.Name x px) (gName 0) := pg_name (i := 0) O.nd rfl (.inl (lookup_relabel_local O.var)) (.inr (lookup_relabel_local O.var))
      refine thn (PG' _ s7 _ H7 z u (fun σ' H' => σ' = some z :: taken σ (sltOf ts) ∧ H' = H7) I7' rz ⟨rfl, rfl⟩) fun _ s8 ⟨σ8, H8, I8, e8, eh8⟩ => ?_
      subst e8 eh8
      refine thn (he s3.heap.objs.size s3 H3 fp _ s8 _ H8 _ I8 (step z H8 yz)) fun y s9 ⟨vy, H9, I9, ry, hD9, hl9, m', hm', w9⟩ => ?_
      refine thn (mt_append (X := cxComp X (nmsOf x ts) scope cl s3.heap.objs.size s3 H3 fp) _ s9 _ H9 (.ref s2.heap.objs.size) [vy] (.ref s2.heap.objs.size) [y] (fun _ H10 => H10 = upd H9 s2.heap.objs.size (.lst (ys ++ [vy]))) I9 rfl (.cons ry .nil) ⟨_, ys, vy, rfl, rfl, hD9, hl9, rfl⟩) fun _ s10 ⟨_, H10, I10, _, e10⟩ => ?_
      subst e10
      refine ⟨m', hm', i + 1, ys ++ [vy], some z, _, I10.unpinned, T.keep _ _ _ st7 fun b hb o e => (I10.pin (b, o) (List.mem_append_right _ (List.mem_append_right _ (mem_pinsAt hb e)))).1, fun b hb => ?_, w9⟩
      obtain ⟨o, e, d⟩ := T.obj _ _ st7 b hb
      exact (I10.pin (b, o) (List.mem_append_right _ (List.mem_append_right _ (mem_pinsAt hb e)))).2.1
  have hst := codeAny_compStart_list (loop _ rfl) (T.self X.A 0 _ _ _ st4 (loop _ rfl))
  exact hst
end
end L2
set_option maxHeartbeats 4000000
namespace L2
open PySem PySem.Spec PyProof.Rows
inductive Th where
  | non | bl (b : Bool) | int (i : Int) | str (x : Str) | lst (xs : List Th) | tup (xs : List Th) | emp | dic
mutual
noncomputable def Den (H : Hp) : Th → V → Prop
  | .non, v => v = .non
  | .bl b, v => v = .bl b
  | .int i, v => v = .int i
  | .str x, v => v = .str x
  | .lst ts, v => ∃ a xs, v = .ref a ∧ H a = some (.lst xs) ∧ Dens H ts xs
  | .tup ts, v => ∃ a xs, v = .ref a ∧ H a = some (.tup xs) ∧ Dens H ts xs
  | .emp, v => ∃ a, v = .ref a ∧ H a = some (.dK [])
  | .dic, v => ∃ a kvs, v = .ref a ∧ H a = some (.dK kvs)
noncomputable def Dens (H : Hp) : List Th → List V → Prop
  | [], xs => xs = []
  | t :: ts, xs => ∃ y ys, xs = y :: ys ∧ Den H t y ∧ Dens H ts ys
end
mutual
theorem Den.keep {H H' : Hp} (s : Same H H') : ∀ {t : Th} {v : V}, Den H t v → Den H' t v
  | .non, _, h => h
  | .bl _, _, h => h
  | .int _, _, h => h
  | .str _, _, h => h
  | .lst _, _, ⟨a, xs, e, h, d⟩ => ⟨a, xs, e, s _ _ h, Dens.keep s d⟩
  | .tup _, _, ⟨a, xs, e, h, d⟩ => ⟨a, xs, e, s _ _ h, Dens.keep s d⟩
  | .emp, _, ⟨a, e, h⟩ => ⟨a, e, s _ _ h⟩
  | .dic, _, ⟨a, k, e, h⟩ => ⟨a, k, e, s _ _ h⟩
theorem Dens.keep {H H' : Hp} (s : Same H H') : ∀ {ts : List Th} {xs : List V}, Dens H ts xs → Dens H' ts xs
  | [], _, h => h
  | _ :: _, _, ⟨y, ys, e, d, ds⟩ => ⟨y, ys, e, Den.keep s d, Dens.keep s ds⟩
end
theorem Dens.len {H : Hp} : ∀ {ts : List Th} {xs : List V}, Dens H ts xs → xs.length = ts.length
  | [], _, h => by rw [show _ = [] from h]; rfl
  | _ :: _, _, ⟨y, ys, e, d, ds⟩ => by rw [e, List.length_cons, List.length_cons, Dens.len ds]
theorem Dens.get {H : Hp} : ∀ {ts : List Th} {xs : List V} {i : Nat} {t : Th}, Dens H ts xs → ts[i]? = some t → ∃ v, xs[i]? = some v ∧ Den H t v
  | _ :: _, _, 0, t, ⟨y, ys, e, d, ds⟩, h => by
    rw [List.getElem?_cons_zero] at h
    cases h
    exact ⟨y, by rw [e]; rfl, d⟩
  | _ :: _, _, i + 1, t, ⟨y, ys, e, d, ds⟩, h => by
    rw [List.getElem?_cons_succ] at h
    obtain ⟨v, h1, h2⟩ := Dens.get ds h
    exact ⟨v, by rw [e, List.getElem?_cons_succ]; exact h1, h2⟩
noncomputable def tyTh : Th → Value
  | .non => .type "NoneType"
  | .bl _ => .type "bool"
  | .int _ => .type "int"
  | .str _ => .type "str"
  | .lst _ => .type "list"
  | .tup _ => .type "tuple"
  | .emp => .type "dict"
  | .dic => .type "dict"
theorem Den.ty {K : PySem.W.Frag} {H : Hp} : ∀ {t : Th} {v : V}, Den H t v → TyOf K H v (tyTh t)
  | .non, _, h => by cases (show _ = V.non from h); exact .non
  | .bl b, _, h => by cases (show _ = V.bl b from h); exact .bl b
  | .int i, _, h => by cases (show _ = V.int i from h); exact .int i
  | .str x, _, h => by cases (show _ = V.str x from h); exact .str x
  | .lst _, _, ⟨a, xs, e, h, _⟩ => by subst e; exact .lst h
  | .tup _, _, ⟨a, xs, e, h, _⟩ => by subst e; exact .tup h
  | .emp, _, ⟨a, e, h⟩ => by subst e; exact .dK h
  | .dic, _, ⟨a, k, e, h⟩ => by subst e; exact .dK h
noncomputable def isIntT : Th → Bool
  | .int _ => true
  | .bl _ => true
  | _ => false
noncomputable def isBoolT : Th → Bool
  | .bl _ => true
  | _ => false
noncomputable def isTupT : Th → Bool
  | .tup _ => true
  | _ => false
noncomputable def isLstT : Th → Bool
  | .lst _ => true
  | _ => false
theorem kit_int {K : PySem.W.Frag} (t : Th) : PySem.W.kitOne K (tyTh t) (.type "int") = some (isIntT t) := by cases t <;> rfl
theorem kit_bool {K : PySem.W.Frag} (t : Th) : PySem.W.kitOne K (tyTh t) (.type "bool") = some (isBoolT t) := by cases t <;> rfl
theorem kit_tuple {K : PySem.W.Frag} (t : Th) : PySem.W.kitOne K (tyTh t) (.type "tuple") = some (isTupT t) := by cases t <;> rfl
section
variable {X : Cx}
theorem kitx_ty {pins : List (Addr × Obj)} {σ : St} {H : Hp} {s : Shared} {t : Th} {x : V} {u : Value} (I : Inv X pins σ H s) (rx : RelV x u) (d : Den H t x) : ∃ HP : Heap → Prop, PySem.W.KitX X.K u (tyTh t) HP ∧ HP s.heap ∧ u ≠ .builtin "__main__.__loader__#opaque" := by
  cases t with
  | non => cases (show x = V.non from d); cases (show u = Value.none from rx); exact ⟨_, PySem.W.kitx_none, True.intro, fun z => nomatch z⟩
  | bl b => cases (show x = V.bl b from d); cases (show u = Value.bool b from rx); exact ⟨_, PySem.W.kitx_bool, True.intro, fun z => nomatch z⟩
  | int i => cases (show x = V.int i from d); obtain ⟨k, q⟩ := (show ∃ k, u = Value.int i k from rx); cases q; exact ⟨_, PySem.W.kitx_int, True.intro, fun z => nomatch z⟩
  | str y => cases (show x = V.str y from d); obtain ⟨k, q⟩ := (show ∃ k, u = Value.str y k from rx); cases q; exact ⟨_, PySem.W.kitx_str, True.intro, fun z => nomatch z⟩
  | lst ts =>
    obtain ⟨a, xs, e, h, _⟩ := d
    subst e
    cases (show u = Value.ref a from rx)
    obtain ⟨_, _, n, _, h1⟩ := (show ObjOk X.prog X.w H s.heap a (.lst xs) from I.hok a _ h)
    exact ⟨_, PySem.W.kitx_list, ⟨_, h1, rfl⟩, fun z => nomatch z⟩
  | tup ts =>
    obtain ⟨a, xs, e, h, _⟩ := d
    subst e
    cases (show u = Value.ref a from rx)
    obtain ⟨_, _, _, p⟩ := (show ObjOk X.prog X.w H s.heap a (.tup xs) from I.hok a _ h)
    obtain ⟨o, h1, h2, _⟩ := p
    exact ⟨_, PySem.W.kitx_tuple, ⟨o, h1, h2⟩, fun z => nomatch z⟩
  | emp =>
    obtain ⟨a, e, h⟩ := d
    subst e
    cases (show u = Value.ref a from rx)
    obtain ⟨_, _, vs, _, p⟩ := (show ObjOk X.prog X.w H s.heap a (.dK []) from I.hok a _ h)
    obtain ⟨o, es, ep, h1, h2, _⟩ := p
    exact ⟨_, PySem.W.kitx_dict, ⟨o, h1, h2.1⟩, fun z => nomatch z⟩
  | dic =>
    obtain ⟨a, kvs, e, h⟩ := d
    subst e
    cases (show u = Value.ref a from rx)
    obtain ⟨_, _, vs, _, p⟩ := (show ObjOk X.prog X.w H s.heap a (.dK kvs) from I.hok a _ h)
    obtain ⟨o, es, ep, h1, h2, _⟩ := p
    exact ⟨_, PySem.W.kitx_dict, ⟨o, h1, h2.1⟩, fun z => nomatch z⟩
theorem vals_tys : ∀ {Ts : List String} {us : List Value}, Vals (Ts.map V.ty) us → us = Ts.map Value.type
  | [], _, .nil => rfl
  | T :: Ts, _, .cons r t => by rw [vals_tys t, show _ = Value.type T from r]; rfl
theorem call_isinstT : CallR X (.builtin "isinstance") (fun xs H Q => ∃ (x : V) (p : Addr) (t : Th) (Ts : List String) (b : Bool), xs = [x, .ref p] ∧ H p = some (.tup (Ts.map V.ty)) ∧ Den H t x ∧ PySem.W.kitAny X.K (tyTh t) (Ts.map Value.type) = some b ∧ Q (.bl b) H) := by
  intro pins s σ H xs us Q I r h
  obtain ⟨x, p, t, Ts, b, rfl, hp, d, e, q⟩ := h
  obtain ⟨u, w', rfl, r1, r2⟩ := vals2 r
  cases r2
  obtain ⟨HP, Z, hz, hx⟩ := kitx_ty I r1 d
  obtain ⟨_, its, rv, tp⟩ := (show ObjOk X.prog X.w H s.heap p (.tup (Ts.map V.ty)) from I.hok p _ hp)
  have ei := vals_tys rv
  subst ei
  obtain ⟨⟨cls, dd, data, sl⟩, h1, h2, n, h3⟩ := tp
  simp only at h2 h3
  subst h2 h3
  exact PySem.W.kia_tup Z I.kIn hz h1 e hx fun tk => ⟨.bl b, H, I.tok _, rfl, q⟩
theorem call_isinstD : CallR X (.builtin "isinstance") (fun xs H Q => ∃ x t T b, xs = [x, .ty T] ∧ Den H t x ∧ PySem.W.kitOne X.K (tyTh t) (.type T) = some b ∧ Q (.bl b) H) := by
  intro pins s σ H xs us Q I r h
  obtain ⟨x, t, T, b, e, d, k, q⟩ := h
  exact call_isinst pins s σ H xs us Q I r ⟨x, tyTh t, T, b, e, d.ty, k, q⟩
theorem range_all_true (n : Nat) : ((List.range n).all fun _ => true) = true := List.all_eq_true.mpr fun _ _ => rfl
theorem dict_nil_any {P P' : Program} {w w' : World} {h : Heap} {a : Addr} (d : h.DictOf (mixKind P w) a []) : h.DictOf (mixKind P' w') a [] := by
  obtain ⟨o, es, ep, h1, h2, h3, h4, h5, h6⟩ := d
  have e : es = #[] := by
    have hl : es.toList.length = 0 := by
      have := h5.length
      simpa using this
    cases es with | mk l => cases l with
      | nil => rfl
      | cons x r => simp at hl
  subst e
  exact ⟨o, #[], ep, h1, h2, h3, (by intro z hz; simp at hz), .nil, List.nodup_nil⟩
mutual
noncomputable def depT : Th → Nat
  | .lst ts => depTs ts + 1
  | .tup ts => depTs ts + 1
  | .emp => 1
  | .dic => cLine + 1
  | .non | .bl _ | .int _ | .str _ => 0
noncomputable def depTs : List Th → Nat
  | [] => 0
  | t :: ts => max (depT t) (depTs ts)
end
theorem depTs_mem : ∀ {ts : List Th} {i : Nat} {t : Th}, ts[i]? = some t → depT t ≤ depTs ts
  | _ :: _, 0, _, h => by
    rw [List.getElem?_cons_zero] at h
    cases h
    exact Nat.le_max_left _ _
  | _ :: _, _ + 1, _, h => by
    rw [List.getElem?_cons_succ] at h
    exact Nat.le_trans (depTs_mem h) (Nat.le_max_right _ _)
theorem dens_at {H : Hp} {ts : List Th} {xs ys : List V} {us ws : List Value} (d1 : Dens H ts xs) (d2 : Dens H ts ys) (r1 : Vals xs us) (r2 : Vals ys ws) (j : Nat) (h1 : j < us.toArray.size) (h2 : j < ws.toArray.size) :
    ∃ t v1 v2, ts[j]? = some t ∧ Den H t v1 ∧ Den H t v2 ∧ RelV v1 us.toArray[j] ∧ RelV v2 ws.toArray[j] := by
  have hl : j < ts.length := by
    rw [← d1.len, r1.length]
    simpa using h1
  obtain ⟨v1, e1, q1⟩ := d1.get (List.getElem?_eq_getElem hl)
  obtain ⟨v2, e2, q2⟩ := d2.get (List.getElem?_eq_getElem hl)
  obtain ⟨u1, f1, g1⟩ := r1.get e1
  obtain ⟨u2, f2, g2⟩ := r2.get e2
  have k1 : us.toArray[j] = u1 := by
    have : us[j]? = some us.toArray[j] := by simp
    rw [this] at f1; exact Option.some.inj f1
  have k2 : ws.toArray[j] = u2 := by
    have : ws[j]? = some ws.toArray[j] := by simp
    rw [this] at f2; exact Option.some.inj f2
  exact ⟨ts[j], v1, v2, List.getElem?_eq_getElem hl, q1, q2, by rw [k1]; exact g1, by rw [k2]; exact g2⟩
theorem eqDen {P : Program} {w : World} {H : Hp} {s : Shared} (hok : HOk P w H s.heap) : ∀ (n : Nat) (A : Around) (t : Th) (v1 v2 : V) (u1 u2 : Value), depT t ≤ n → A.units + n < cLine → Den H t v1 → Den H t v2 → RelV v1 u1 → RelV v2 u2 → SeqAt.EqAt A s u1 u2 true
  | n, A, .non, v1, v2, u1, u2, _, _, d1, d2, r1, r2 => by
    cases (show v1 = V.non from d1); cases (show v2 = V.non from d2)
    cases (show u1 = Value.none from r1); cases (show u2 = Value.none from r2)
    exact SeqAt.EqAt.same _
  | n, A, .bl b, v1, v2, u1, u2, _, _, d1, d2, r1, r2 => by
    cases (show v1 = V.bl b from d1); cases (show v2 = V.bl b from d2)
    cases (show u1 = Value.bool b from r1); cases (show u2 = Value.bool b from r2)
    exact SeqAt.EqAt.same _
  | n, A, .int i, v1, v2, u1, u2, _, _, d1, d2, r1, r2 => by
    cases (show v1 = V.int i from d1); cases (show v2 = V.int i from d2)
    obtain ⟨k1, rfl⟩ := (show ∃ k, u1 = Value.int i k from r1)
    obtain ⟨k2, rfl⟩ := (show ∃ k, u2 = Value.int i k from r2)
    have h := SeqAt.EqAt.int_int (A := A) (s := s) i k1 i k2
    rw [beq_self_eq_true] at h
    exact h
  | n, A, .str x, v1, v2, u1, u2, _, _, d1, d2, r1, r2 => by
    cases (show v1 = V.str x from d1); cases (show v2 = V.str x from d2)
    obtain ⟨k1, rfl⟩ := (show ∃ k, u1 = Value.str x k from r1)
    obtain ⟨k2, rfl⟩ := (show ∃ k, u2 = Value.str x k from r2)
    have h := SeqAt.EqAt.str_str (A := A) (s := s) x k1 x k2
    rw [beq_self_eq_true] at h
    exact h
  | 0, A, .lst ts, v1, v2, u1, u2, hd, _, d1, d2, r1, r2 => absurd hd (by simp [depT])
  | 0, A, .tup ts, v1, v2, u1, u2, hd, _, d1, d2, r1, r2 => absurd hd (by simp [depT])
  | 0, A, .emp, v1, v2, u1, u2, hd, _, d1, d2, r1, r2 => absurd hd (by simp [depT])
  | 0, A, .dic, v1, v2, u1, u2, hd, _, d1, d2, r1, r2 => absurd hd (by simp [depT])
  | n + 1, A, .dic, v1, v2, u1, u2, hd, hu, d1, d2, r1, r2 => absurd (show cLine + 1 ≤ n + 1 from hd) (by omega)
  | n + 1, A, .lst ts, v1, v2, u1, u2, hd, hu, d1, d2, r1, r2 => by
    obtain ⟨a1, xs, rfl, h1, e1⟩ := d1
    obtain ⟨a2, ys, rfl, h2, e2⟩ := d2
    cases (show u1 = Value.ref a1 from r1); cases (show u2 = Value.ref a2 from r2)
    by_cases hne : a1 = a2
    · subst hne; exact SeqAt.EqAt.same _
    obtain ⟨_, us, n1, q1, g1⟩ := (show ObjOk P w H s.heap a1 (.lst xs) from hok a1 _ h1)
    obtain ⟨_, ws, n2, q2, g2⟩ := (show ObjOk P w H s.heap a2 (.lst ys) from hok a2 _ h2)
    have hsz : us.toArray.size = ws.toArray.size := by
      rw [List.size_toArray, List.size_toArray, ← q1.length, ← q2.length, e1.len, e2.len]
    have hd' : depTs ts + 1 ≤ n + 1 := hd
    have h := SeqAt.RcAt.lists (A := A) (s := s) (e := fun _ => true) (⟨_, g1, rfl, _, rfl⟩ : s.heap.IsList a1 us.toArray) (⟨_, g2, rfl, _, rfl⟩ : s.heap.IsList a2 ws.toArray) hsz (by omega) fun j j1 j2 => by
      obtain ⟨t, w1, w2, ht, p1, p2, s1, s2⟩ := dens_at e1 e2 q1 q2 j j1 j2
      exact eqDen hok n A.in1 t w1 w2 _ _ (by have := depTs_mem ht; omega) (by show A.units + 1 + n < cLine; omega) p1 p2 s1 s2
    rw [range_all_true] at h
    exact SeqAt.EqAt.of_refs hne h
  | n + 1, A, .tup ts, v1, v2, u1, u2, hd, hu, d1, d2, r1, r2 => by
    obtain ⟨a1, xs, rfl, h1, e1⟩ := d1
    obtain ⟨a2, ys, rfl, h2, e2⟩ := d2
    cases (show u1 = Value.ref a1 from r1); cases (show u2 = Value.ref a2 from r2)
    by_cases hne : a1 = a2
    · subst hne; exact SeqAt.EqAt.same _
    obtain ⟨_, us, q1, g1⟩ := (show ObjOk P w H s.heap a1 (.tup xs) from hok a1 _ h1)
    obtain ⟨_, ws, q2, g2⟩ := (show ObjOk P w H s.heap a2 (.tup ys) from hok a2 _ h2)
    have hsz : us.toArray.size = ws.toArray.size := by
      rw [List.size_toArray, List.size_toArray, ← q1.length, ← q2.length, e1.len, e2.len]
    have hd' : depTs ts + 1 ≤ n + 1 := hd
    have h := SeqAt.RcAt.tuples (A := A) (s := s) (e := fun _ => true) (show s.heap.IsTuple a1 us.toArray from g1) (show s.heap.IsTuple a2 ws.toArray from g2) (by omega) fun j j1 j2 => by
      obtain ⟨t, w1, w2, ht, p1, p2, s1, s2⟩ := dens_at e1 e2 q1 q2 j j1 j2
      exact eqDen hok n A.in1 t w1 w2 _ _ (by have := depTs_mem ht; omega) (by show A.units + 1 + n < cLine; omega) p1 p2 s1 s2
    rw [range_all_true, hsz, beq_self_eq_true, Bool.and_self] at h
    exact SeqAt.EqAt.of_refs hne h
  | n + 1, A, .emp, v1, v2, u1, u2, hd, hu, d1, d2, r1, r2 => by
    obtain ⟨a1, rfl, h1⟩ := d1
    obtain ⟨a2, rfl, h2⟩ := d2
    cases (show u1 = Value.ref a1 from r1); cases (show u2 = Value.ref a2 from r2)
    by_cases hne : a1 = a2
    · subst hne; exact SeqAt.EqAt.same _
    obtain ⟨_, m1, vs1, q1, g1⟩ := (show ObjOk P w H s.heap a1 (.dK []) from hok a1 _ h1)
    obtain ⟨_, m2, vs2, q2, g2⟩ := (show ObjOk P w H s.heap a2 (.dK []) from hok a2 _ h2)
    cases q1
    cases q2
    refine SeqAt.EqAt.of_refs hne fun prog w' E Q hq => ?_
    exact PySem.W.keq_eq (K := Key) (knd := mixKind prog w') (r := true) m1 m2 (dict_nil_any g1) (dict_nil_any g2) (by omega) (fun _ => .nil) hq
theorem op_neD (hu : X.A.units + 64 < cLine) : OpR X (compareOp .NotEq) (fun x y H Q => ∃ t, Den H t x ∧ Den H t y ∧ depT t ≤ 60 ∧ Q (.bl false) H) := by
  intro pins s σ H x y v u Q I rx ry h
  obtain ⟨t, d1, d2, hd, q⟩ := h
  have scal_case : scal x y = true → x = y → wpAny (model X.prog X.w) X.A (compareOp .NotEq v u) (EP X pins σ Q) X.xe s := fun h1 h2 =>
    op_ne pins s σ H x y v u Q I rx ry ⟨h1, by rw [decide_eq_true h2]; exact q⟩
  cases t with
  | non => cases (show x = V.non from d1); cases (show y = V.non from d2); exact scal_case rfl rfl
  | bl b => cases (show x = V.bl b from d1); cases (show y = V.bl b from d2); exact scal_case rfl rfl
  | int i => cases (show x = V.int i from d1); cases (show y = V.int i from d2); exact scal_case rfl rfl
  | str z => cases (show x = V.str z from d1); cases (show y = V.str z from d2); exact scal_case rfl rfl
  | lst ts =>
    obtain ⟨a1, xs, rfl, h1, e1⟩ := d1
    obtain ⟨a2, ys, rfl, h2, e2⟩ := d2
    cases (show v = Value.ref a1 from rx); cases (show u = Value.ref a2 from ry)
    obtain ⟨_, us, n1, q1, g1⟩ := (show ObjOk X.prog X.w H s.heap a1 (.lst xs) from I.hok a1 _ h1)
    obtain ⟨_, ws, n2, q2, g2⟩ := (show ObjOk X.prog X.w H s.heap a2 (.lst ys) from I.hok a2 _ h2)
    have hsz : us.toArray.size = ws.toArray.size := by
      rw [List.size_toArray, List.size_toArray, ← q1.length, ← q2.length, e1.len, e2.len]
    have hd' : depTs ts + 1 ≤ 60 := hd
    have h := SeqAt.RcNeAt.lists (A := X.A) (s := s) (e := fun _ => true) (⟨_, g1, rfl, _, rfl⟩ : s.heap.IsList a1 us.toArray) (⟨_, g2, rfl, _, rfl⟩ : s.heap.IsList a2 ws.toArray) hsz (by omega) fun j j1 j2 => by
      obtain ⟨t, w1, w2, ht, p1, p2, s1, s2⟩ := dens_at e1 e2 q1 q2 j j1 j2
      exact eqDen I.hok 60 X.A.in1 t w1 w2 _ _ (by have := depTs_mem ht; omega) (by show X.A.units + 1 + 60 < cLine; omega) p1 p2 s1 s2
    rw [range_all_true] at h
    exact h X.prog X.w _ _ ⟨.bl false, H, I, rfl, q⟩
  | tup ts =>
    obtain ⟨a1, xs, rfl, h1, e1⟩ := d1
    obtain ⟨a2, ys, rfl, h2, e2⟩ := d2
    cases (show v = Value.ref a1 from rx); cases (show u = Value.ref a2 from ry)
    obtain ⟨_, us, q1, g1⟩ := (show ObjOk X.prog X.w H s.heap a1 (.tup xs) from I.hok a1 _ h1)
    obtain ⟨_, ws, q2, g2⟩ := (show ObjOk X.prog X.w H s.heap a2 (.tup ys) from I.hok a2 _ h2)
    have hsz : us.toArray.size = ws.toArray.size := by
      rw [List.size_toArray, List.size_toArray, ← q1.length, ← q2.length, e1.len, e2.len]
    have hd' : depTs ts + 1 ≤ 60 := hd
    have h := SeqAt.RcNeAt.tuples (A := X.A) (s := s) (e := fun _ => true) (show s.heap.IsTuple a1 us.toArray from g1) (show s.heap.IsTuple a2 ws.toArray from g2) (by omega) fun j j1 j2 => by
      obtain ⟨t, w1, w2, ht, p1, p2, s1, s2⟩ := dens_at e1 e2 q1 q2 j j1 j2
      exact eqDen I.hok 60 X.A.in1 t w1 w2 _ _ (by have := depTs_mem ht; omega) (by show X.A.units + 1 + 60 < cLine; omega) p1 p2 s1 s2
    rw [range_all_true, hsz, beq_self_eq_true, Bool.and_self] at h
    exact h X.prog X.w _ _ ⟨.bl false, H, I, rfl, q⟩
  | emp =>
    obtain ⟨a1, rfl, h1⟩ := d1
    obtain ⟨a2, rfl, h2⟩ := d2
    cases (show v = Value.ref a1 from rx); cases (show u = Value.ref a2 from ry)
    obtain ⟨_, m1, vs1, q1, g1⟩ := (show ObjOk X.prog X.w H s.heap a1 (.dK []) from I.hok a1 _ h1)
    obtain ⟨_, m2, vs2, q2, g2⟩ := (show ObjOk X.prog X.w H s.heap a2 (.dK []) from I.hok a2 _ h2)
    cases q1
    cases q2
    exact PySem.W.keq_ne (K := Key) (knd := mixKind X.prog X.w) (r := true) m1 m2 g1 g2 (by omega) (fun _ => .nil) ⟨.bl false, H, I, rfl, q⟩
  | dic => exact absurd (show cLine + 1 ≤ 60 from hd) (by omega)
noncomputable def iSeq (K : PySem.W.Frag) (tl : TE) : TI := fun σ H R => tl σ H fun x H1 => ∃ a xs, x = .ref a ∧ ((SqL K H1 a xs ∧ R (Itl K a) H1) ∨ (SqT K H1 a xs ∧ R (Itt K a) H1))
theorem pi_seq {tg l : Expr} {tl : TE} (hl : PE X l tl) : PI X tg l (iSeq X.K tl) := by
  intro pins s σ H R I h
  refine thn (hl pins s σ H _ I h) fun v s1 ⟨x, H1, I1, r1, q1⟩ => ?_
  obtain ⟨a, xs, e, q⟩ := q1
  subst e
  cases r1
  rcases q with ⟨hq, q⟩ | ⟨hq, q⟩
  · obtain ⟨its, rv, p, hz⟩ := I1.list hq
    refine wpAny_pyIter_list p.isList ?_
    refine ⟨s1.heap.objs.size, [s1.heap.objs.size], _, _, H1, rfl, I1.kept (t' := s1.toks) fun b o e => Heap.get?_push_of_some _ e, turn_list a _, ⟨_, Heap.get?_push_size _ rfl, rfl, rfl⟩, fun b hb => ?_, q⟩
    have e : b = s1.heap.objs.size := by simpa using hb
    subst e
    exact I1.fpOk (Nat.le_refl _) (I1.hok.fresh (Nat.le_refl _))
  · obtain ⟨its, rv, p, hz⟩ := I1.tuple hq
    refine wpAny_pyIter_tuple (show s1.heap.IsTuple a its.toArray from p) ?_
    refine ⟨s1.heap.objs.size, [s1.heap.objs.size], _, _, H1, rfl, I1.kept (t' := s1.toks) fun b o e => Heap.get?_push_of_some _ e, turn_tuple a _, ⟨_, Heap.get?_push_size _ rfl, rfl, rfl⟩, fun b hb => ?_, q⟩
    have e : b = s1.heap.objs.size := by simpa using hb
    subst e
    exact I1.fpOk (Nat.le_refl _) (I1.hok.fresh (Nat.le_refl _))
end
end L2
set_option maxHeartbeats 4000000
namespace L2
open PySem PySem.Spec PyProof.Rows
theorem ObjOk.there {P : Program} {w : World} {H : Hp} {h : Heap} {a : Addr} {o : HO} (k : ObjOk P w H h a o) : ∃ ob, h.get? a = some ob := by
  cases o with
  | lst _ => obtain ⟨_, _, _, _, e⟩ := k; exact ⟨_, e⟩
  | tup _ => obtain ⟨_, _, _, o, e, _⟩ := k; exact ⟨o, e⟩
  | dK _ => obtain ⟨_, _, _, _, o, _, _, e, _⟩ := k; exact ⟨o, e⟩
  | dT _ => obtain ⟨_, _, _, _, o, _, _, e, _⟩ := k; exact ⟨o, e⟩
  | set _ _ => obtain ⟨o, _, _, _, e, _⟩ := k; exact ⟨o, e⟩
  | ins _ _ _ => obtain ⟨_, _, _, e, _⟩ := k; exact ⟨_, e⟩
  | own _ => obtain ⟨o, e⟩ := k; exact ⟨o, e⟩
  | xd _ => obtain ⟨_, ⟨o, _, _, e, _⟩, _⟩ := k; exact ⟨o, e⟩
  | rng _ _ => obtain ⟨_, _, _, e⟩ := k; exact ⟨_, e⟩
  | frz _ _ => obtain ⟨e, _⟩ := k; exact ⟨_, e⟩
  | tbl _ => exact ⟨_, k⟩
  | met _ _ => exact ⟨_, k⟩
  | ext _ => obtain ⟨_, ⟨o, e⟩, _⟩ := k; exact ⟨o, e⟩
noncomputable def Fly (l : List Env) (h0 : Heap) (H' : Hp) (e : Addr) (cls : Value) (h : Heap) : Prop :=
  ∃ (B : Heap) (t : Addr), Heap.FlyingW B l e cls (.ref t) h ∧ h0.get? e = none ∧ H' e = none ∧
    ∀ b o, h.get? b = some o → ((∃ o', h0.get? b = some o') ∨ ∃ u, H' b = some u) → b ∉ frs l → B.get? b = some o
noncomputable def CXX (P : Program) (w : World) : CXT := fun outer H s E e s' =>
  ∃ a cls H', e = .ref a ∧ s'.os = s.os ∧ AllBare s'.gens ∧ Un (frs outer) [] H H' s.heap s'.heap ∧ HOk P w H' s'.heap ∧ Fly outer s.heap H' a cls s'.heap ∧ E cls none H'
theorem fly_keeps {P : Program} {w : World} {fs : List Addr} {l : List Env} {base B h0 h h5 : Heap} {H H' : Hp} (un : Un fs [] H H' h0 h) (hok : HOk P w H' h)
    (kB : ∀ b o, h.get? b = some o → ((∃ o', h0.get? b = some o') ∨ ∃ u, H' b = some u) → b ∉ frs l → B.get? b = some o)
    (ff : h.FunFrames base l) (hfs : ∀ b ∈ fs, b ∈ frs l) (hl : ∀ b ∈ frs l, b ∉ fs → h0.get? b = none) (hu : ∀ b ∈ frs l, H' b = none)
    (st : B.StaysIn h5) (up : h.UpToSlots h5) : Un fs [] H H' h0 h5 ∧ HOk P w H' h5 := by
  have kk : ∀ b o, h.get? b = some o → (∃ o', h0.get? b = some o') → b ∉ fs → h5.get? b = some o := fun b o e1 ⟨o', e0⟩ hb => by
    refine st b o (kB b o e1 (.inl ⟨o', e0⟩) fun z => ?_)
    rw [hl b z hb] at e0; cases e0
  have ks : ∀ b o, h.get? b = some o → b ∈ fs → ∃ sl, h5.get? b = some { o with slots := sl } := fun b o e1 hb => by
    obtain ⟨_, o2, e2, nf⟩ := ff.mem (hfs b hb)
    rw [e1] at e2; cases e2
    exact up b o e1 nf
  refine ⟨⟨fun b o e n hb hx => kk b o (un.keep b o e n hb hx) ⟨o, e⟩ hb, fun b o e n hb hx => ?_, un.free, fun b o e hx => ?_, un.tups, un.frzs, un.tbls⟩, fun a o e => ?_⟩
  · obtain ⟨s1, e1⟩ := un.slot b o e n hb hx
    obtain ⟨s2, e2⟩ := ks b _ e1 hb
    exact ⟨s2, e2⟩
  · obtain ⟨o', e1⟩ := un.there b o e hx
    by_cases hb : b ∈ fs
    · obtain ⟨s2, e2⟩ := ks b _ e1 hb
      exact ⟨_, e2⟩
    · exact ⟨o', kk b o' e1 ⟨o, e⟩ hb⟩
  · have tr : ∀ b u v, H' b = some u → h.get? b = some v → h5.get? b = some v := fun b u v q e1 => st b v (kB b v e1 (.inr ⟨u, q⟩) fun z => by rw [hu b z] at q; cases q)
    refine (hok a o e).stay (fun b v hb q => ?_) (fun _ q => q) fun _ _ q => q
    rcases hb with z | z
    · subst z; exact tr b o v e q
    · exact tr b _ v z q
structure DefCx (X : Cx) : Prop where
  st : X.stack = X.env :: X.outer
  fr : X.env.frame = some X.env.locals
  ex : X.ex = []
section
variable {X : Cx} {pins : List (Addr × Obj)} {σ : St} {H : Hp} {s : Shared} {E : XK} {M : Model}
theorem Inv.gone (I : Inv X pins σ H s) (dx : DefCx X) {e : Addr} (n : s.heap.get? e = none) : X.s₀.heap.get? e = none ∧ H e = none := by
  constructor
  · cases q : X.s₀.heap.get? e with
    | none => rfl
    | some o =>
      obtain ⟨o', z⟩ := I.base.there e o q (by rw [dx.ex]; simp)
      rw [n] at z; cases z
  · cases q : H e with
    | none => rfl
    | some u =>
      obtain ⟨o', z⟩ := (I.hok e u q).there
      rw [n] at z; cases z
theorem Inv.notMine (I : Inv X pins σ H s) {b : Addr} {o : Obj} (e : X.s₀.heap.get? b = some o) : b ≠ X.env.locals := Nat.ne_of_lt (Nat.lt_of_lt_of_le (Heap.lt_size e) I.ok.above)
theorem fly_out (dx : DefCx X) (I : Inv X pins σ H s) {B h' : Heap} {e t : Addr} {cls : Value}
    (kB : ∀ b o, s.heap.get? b = some o → ((∃ o', X.s₀.heap.get? b = some o') ∨ ∃ u, H b = some u) → b ∉ frs X.stack → B.get? b = some o)
    (fw : Heap.FlyingW B X.outer e cls (.ref t) h') (up : s.heap.UpToSlots h') (ne : X.s₀.heap.get? e = none) (hn : H e = none) (q : E cls none H) :
    CXX X.prog X.w X.outer X.H₀ X.s₀ E (.ref e) { s with heap := h' } := by
  have un0 : Un X.fs [] X.H₀ H X.s₀.heap s.heap := by have := I.base; rw [dx.ex] at this; exact this
  have sub : ∀ b ∈ X.fs, b ∈ frs X.stack := fun b hb => by
    rw [dx.st]; unfold frs; rw [List.filterMap_cons, dx.fr]; exact List.mem_cons_of_mem _ hb
  have hl : ∀ b ∈ frs X.stack, b ∉ X.fs → X.s₀.heap.get? b = none := fun b hb hn => by
    rcases List.mem_cons.mp (I.stkSub b hb) with z | z
    · cases q : X.s₀.heap.get? b with
      | none => rfl
      | some o => exact absurd z (I.notMine q)
    · exact absurd z hn
  obtain ⟨un, hok⟩ := fly_keeps (h5 := h') un0 I.hok kB I.stack sub hl I.stkFree fw.1 up
  refine ⟨e, cls, H, rfl, I.os, I.bare, un, hok, ⟨B, t, fw, ne, hn, fun b o e1 hz hb => ?_⟩, q⟩
  have there : ∃ o2, s.heap.get? b = some o2 := by
    rcases hz with ⟨o', z⟩ | ⟨u, z⟩
    · exact un0.there b o' z (by simp)
    · exact (I.hok b u z).there
  have nst : b ∉ frs X.stack := fun z => by
    rcases List.mem_cons.mp (I.stkSub b z) with y | y
    · rcases hz with ⟨o', q⟩ | ⟨u, q⟩
      · exact I.notMine q y
      · rw [I.stkFree b z] at q; cases q
    · exact hb y
  obtain ⟨o2, e2⟩ := there
  have e3 := kB b o2 e2 hz nst
  have e4 := fw.1 b o2 e3
  have e1' : h'.get? b = some o := e1
  rw [e1'] at e4
  cases e4
  exact e3
theorem leave_made (dx : DefCx X) (I : Inv X pins σ H s) {h1 : Heap} {e : Addr} {cls : Value} {args : List Value} (mk : Heap.MadeExcOf s.heap h1 e cls args) (q : E cls none H) {E' : Value → Shared → Prop} :
    wpAny M X.A (leaving X.env (.ref e)) (fun _ s2 => CXX X.prog X.w X.outer X.H₀ X.s₀ E (.ref e) s2) E' { s with heap := h1 } := by
  have hin : ∀ env ∈ X.stack, ∀ b, env.frame = some b → b ∈ frs X.stack := fun env he b hb => List.mem_filterMap.mpr ⟨env, he, hb⟩
  have ff := PySem.W.funFrames_hide I.stack hin
  rw [dx.st] at ff
  obtain ⟨n1, n2⟩ := I.gone dx mk.new
  refine wpAny_leaves_madeW (base := PySem.W.hideAll s.heap (frs (X.env :: X.outer))) (h := s.heap) (by rw [I.ok.frames, dx.st]) dx.fr (fun b o z => PySem.W.of_hideAll _ z) ff mk fun h' t x1 _ _ x4 => ?_
  exact fly_out dx I (fun b o e1 _ hb => PySem.W.hideAll_get _ e1 (by rw [← dx.st]; exact hb)) x1 ((Heap.UpToSlots.of_keeps mk.keeps).trans x4) n1 n2 q
theorem pass_on (dx : DefCx X) (hxe : ∀ e s', wpAny (model X.prog X.w) X.A (leaving X.env e) (fun _ s2 => CXX X.prog X.w X.outer X.H₀ X.s₀ E e s2) (fun e' s2 => CXX X.prog X.w X.outer X.H₀ X.s₀ E e' s2) s' → X.xe e s') : Passes (CXX X.prog X.w) X E := by
  intro pins σ H s e s' I h
  obtain ⟨a, cls, H', rfl, os, bare, un, hok, ⟨B, t, fw, ne, hn, kB⟩, q⟩ := h
  have I' : Inv X pins σ H' s' := I.call' (ch := []) os un hok bare (fun b z => absurd z (by simp))
  obtain ⟨n1, _⟩ := I.gone dx ne
  refine hxe _ _ (wpAny_leaves_onW (L := X.env.locals) (by rw [I.ok.frames, dx.st]) dx.fr (by rw [← dx.st]; exact fw) fun h2 f2 up => ?_)
  refine fly_out dx I' (fun b o e1 hz hb => kB b o e1 ?_ hb) f2 up n1 hn q
  rcases hz with ⟨o', z⟩ | z
  · exact .inl (I.base.there b o' z (by rw [dx.ex]; simp))
  · exact .inr z
end
end L2
set_option maxHeartbeats 4000000
namespace L2
open PySem PySem.Spec PyProof.Rows
abbrev vbm : List Value := [.type "ValueError", .type "Exception", .type "BaseException", .type "object"]
theorem cls_of {K : PySem.W.Frag} {h : Heap} {C : Addr} {nid : String} {bmB : List Value} (kin : K.In h) (z : PySem.W.excIn K C bmB nid = true) :
    ∃ (tl : List Value) (N : Addr) (nm qn : Str) (bs : List Value) (hd : Bool) (sn : List Str) (su : List Value) (ab : Bool) (co : Option Bool) (dd : Option Addr) (k0 k1 k2 k3 k5 : Option Value) (mN : Str → Option Value),
      h.get? C = some (excClassObj nm qn C N bs tl hd sn su ab co dd k0 k1 k2 k3 k5 nid) ∧ h.Ns N mN ∧ mN "__init__" = none ∧ OwnTail h bmB tl := by
  unfold PySem.W.excIn at z
  split at z
  · rename_i d0 c0 slt lk
    split at z
    · rename_i C2 tl a0 a1 a2 a3 nn a5 em es
      simp only [Bool.and_eq_true, beq_iff_eq, Bool.not_eq_true'] at z
      obtain ⟨⟨⟨⟨⟨y1, y2⟩, y3⟩, y4⟩, y5⟩, y6⟩ := z
      subst y1 y2
      obtain ⟨nm, bs, mr, ns, qn, hd, sn, su, ab, co, de⟩ := c0
      dsimp only at em y3 y5 y6
      subst em y3
      have sz : slt = #[a0, a1, a2, a3, some (.builtin nn), a5] := by
        cases slt with | mk l => exact congrArg Array.mk es
      subst sz
      exact ⟨tl, ns, nm, qn, bs, hd, sn, su, ab, co, d0, a0, a1, a2, a3, a5, _, kin _ _ lk, .of_isNs (PySem.W.isNs_of_in kin y5), PySem.W.nsMap_none_of_in kin y5 y6, PySem.W.tail_of_in kin y4⟩
    · cases z
  · cases z
structure XCls (K : PySem.W.Frag) (mg : Str → Option Value) (x : Str) (C : Addr) : Prop where
  at_ : mg x = some (.ref C)
  ok : PySem.W.excIn K C vbm "ValueError.__new__" = true
section
variable {X : Cx} {E : XK} {x : Str} {C : Addr} {np cpos pos : Pos} {e : Expr} {es : List Expr} {t : TA}
noncomputable def Reach (X : Cx) (E : XK) : Prop := ∀ (pins : List (Addr × Obj)) (σ : St) (H : Hp) (s : Shared) (h1 : Heap) (e : Addr) (cls : Value) (args : List Value), Inv X pins σ H s → Heap.MadeExcOf s.heap h1 e cls args → E cls none H → X.xe (.ref e) { s with heap := h1 }
noncomputable def tRaise (C : Addr) (E : XK) (t : TA) : TS := fun _ σ H => t σ H fun vs H1 => vs.length ≤ sizeLine ∧ E (.ref C) none H1
theorem ps_raise (hr : Reach X E) (hc : X.calm = true) (xc : XCls X.K X.mg x C) (hg : Gl X x) (ha : PA X (e :: es) t)
    (hdb : (x == ("__debug__" : Str)) = false := by decide) (he : starEach (e :: es) X.env = (false, eval e X.env) :: starEach es X.env := by rfl) (hpl : (backTo cpos (starEach es X.env)).any (·.1) = false := by rfl) :
    PS X (.Raise (some (.Call (.Name x np) (e :: es) [] cpos)) none pos) (tRaise C E t) := by
  intro pins s σ H D I h
  obtain ⟨tl, N, nm, qn, bs, hd, sn, su, ab, co, dd, k0, k1, k2, k3, k5, mN, hC, hN, hni, T⟩ := cls_of I.mod.kin xc.ok
  refine wpAny_Raise_call_subT (C := C) (nm := nm) (q := qn) (N := N) (bs := bs) (bm := tl) (hdct := hd) (sn := sn) (sub := su) (ab := ab) (col := co) (dd := dd) (k0 := k0) (k1 := k1) (k2 := k2) (k3 := k3) (k5 := k5)
    PySem.F.excBase_ValueError (mN := mN) (T.hasType PySem.F.excBase_ValueError.hasBase) (I.ok.hd hc) (by rw [he]; show (false || _) = false; exact hpl) hni (ld_glob I hg xc.at_ ⟨rfl, ?_⟩ hdb)
  have h2 := ha cpos pins s σ H _ I h
  rw [he] at h2 ⊢
  exact Calls.evalArgs_plain (wpAny_mono h2 (fun us s2 ⟨vs, H1, I1, rv, hl, q⟩ => ⟨rfl, by rw [← rv.length]; exact hl, I1.bk _ _ hC, hN.keeps I1.bk, T.keeps I1.bk, fun h' e mk => hr pins σ H1 s2 h' e _ us I1 mk q⟩) fun _ _ y => y)
end
section
variable {P : Program} {w : World} {K : PySem.W.Frag} {mg : Str → Option Value} {base : Heap} {N : List Str} {qual : Str} {scope : Scope} {f : Addr} {cd : Value} {A : Around} {outer : List Env} {s : Shared} {H : Hp} {E : XK}
theorem dxOf {CX : CXT} : DefCx (cxOf CX P w K mg base N qual scope f cd A outer s H E) := ⟨rfl, rfl, rfl⟩
theorem reachOf : Reach (cxOf (CXX P w) P w K mg base N qual scope f cd A outer s H E) E := fun _ _ _ _ _ _ _ _ I mk q => leave_made dxOf I mk q
theorem passOf : Passes (CXX P w) (cxOf (CXX P w) P w K mg base N qual scope f cd A outer s H E) E := pass_on dxOf fun _ _ h => h
theorem Fun.okX {x : Str} {st : Stmt} {fd : FuncData} {ps : List Str} {k : Nat} {sp : Sp} (F : Fun K x qual st f fd) (S : FnScope N ps (defScope st)) (len : ∀ vs H Q E, sp vs H Q E → vs.length = ps.length)
    (hbody : ∀ (cdv : Value) (A : Around) (outer : List Env) (s : Shared) (H : Hp) (vs : List V) (Q : VK) (E : XK), Room k (A.deeper (envOfC qual (defScope st) s.heap.objs.size f cdv)) → sp vs H Q E →
      ∃ t, PSs (cxOf (CXX P w) P w K mg base N qual (defScope st) f cdv A outer s H E) (defBody st) t ∧ t { nx := fun _ H' => Q .non H', rt := Q } (start N vs) H) : FnOk P w K mg base (CXX P w) (k + 1) f fd ps sp := by
  obtain ⟨oc, od, kV, doc, pm, an, cdv, ct, osl, rfl, lk, hcd⟩ := F.ex
  exact fn_of lk hcd S len fun A outer s H vs Q E hr hsp => hbody cdv A outer s H vs Q E hr hsp
end
theorem FnOk.calm {P : Program} {w : World} {K : PySem.W.Frag} {mg : Str → Option Value} {base : Heap} {CX : CXT} {k : Nat} {f : Addr} {fd : FuncData} {ps : List Str} {sp : Sp} (F : FnOk P w K mg base CX0 k f fd ps sp) : FnOk P w K mg base CX k f fd ps sp :=
  ⟨F.len, fun A outer s H args us vs Q E hr he hb hv hs => codeAny_mono (F.run A outer s H args us vs Q E hr he hb hv hs) fun r s' h => by
    cases r with
    | ok fl => cases fl <;> exact h
    | error e => exact False.elim h⟩
section
variable {X : Cx}
theorem PS.nox {st : Stmt} {t : TS} (h : PS X.nox st t) : PS X st t := fun pins s σ H D I hw =>
  wpAny_mono (h pins s σ H D (I.wish _) hw) (fun _ _ q => q.unwish) fun _ _ z => z.elim
end
end L2
set_option maxHeartbeats 4000000
namespace L2
open PySem PySem.Spec PyProof.Rows
noncomputable abbrev Cx.held (X : Cx) (e : Addr) (oe : Obj) : Cx := { X with A := X.A.mark (some (.ref e)), calm := false, pn := (e, oe) :: X.pn, xe := fun _ _ => False }
noncomputable abbrev Cx.tried (X : Cx) (xe : Value → Shared → Prop) (pins : List (Addr × Obj)) : Cx := { X with xe := xe, pn := X.pn ++ pins }
section
variable {X : Cx} {pins pins' : List (Addr × Obj)} {σ : St} {H : Hp} {s : Shared} {xe : Value → Shared → Prop} {e : Addr} {oe : Obj}
theorem Cx.Ok.tried (ok : X.Ok) : (X.tried xe pins).Ok := ⟨ok.mod, ok.kind, ok.glob, ok.blt, ok.above, ok.inj, ok.has, ok.cab, ok.hd, ok.frames, ok.stk, ok.exf, ok.bs, ok.bsz, ok.noex, ok.exfs, ok.funs, ok.frf⟩
theorem Cx.Ok.untried (ok : (X.tried xe pins).Ok) : X.Ok := ⟨ok.mod, ok.kind, ok.glob, ok.blt, ok.above, ok.inj, ok.has, ok.cab, ok.hd, ok.frames, ok.stk, ok.exf, ok.bs, ok.bsz, ok.noex, ok.exfs, ok.funs, ok.frf⟩
theorem Inv.tried (I : Inv X pins σ H s) : Inv (X.tried xe pins) [] σ H s := ⟨I.ok.tried, I.os, I.bare, I.base, I.loc, I.cell, I.free, I.freeC, fun p hp => I.pin p (by simpa using hp), I.hok, I.len⟩
theorem Inv.untried (I : Inv (X.tried xe pins) pins' σ H s) : Inv X pins σ H s := ⟨I.ok.untried, I.os, I.bare, I.base, I.loc, I.cell, I.free, I.freeC, fun p hp => I.pin p (List.mem_append_left _ hp), I.hok, I.len⟩
theorem Inv.held (I : Inv X pins σ H s) (he : s.heap.get? e = some oe) (hn : H e = none) (hL : e ≠ X.env.locals) (hf : e ∉ X.fs) (hc : ∀ v, oe.data ≠ .cell v) : Inv (X.held e oe) pins σ H s := by
  have ok := I.ok
  refine ⟨⟨ok.mod, ok.kind, ok.glob, ok.blt, ok.above, ok.inj, ok.has, ok.cab, (fun z => by cases z), ok.frames, ok.stk, ok.exf, ok.bs, ok.bsz, ok.noex, ok.exfs, ok.funs, ok.frf⟩, I.os, I.bare, I.base, I.loc, I.cell, I.free, I.freeC, fun p hp => ?_, I.hok, I.len⟩
  rcases List.mem_cons.mp hp with z | z
  · subst z; exact ⟨he, hn, hL, hf, hc⟩
  · exact I.pin p z
theorem Inv.unheld (I : Inv (X.held e oe) pins σ H s) (hd : X.calm = true → X.A.handled = none) : Inv X pins σ H s := by
  have ok := I.ok
  exact ⟨⟨ok.mod, ok.kind, ok.glob, ok.blt, ok.above, ok.inj, ok.has, ok.cab, hd, ok.frames, ok.stk, ok.exf, ok.bs, ok.bsz, ok.noex, ok.exfs, ok.funs, ok.frf⟩, I.os, I.bare, I.base, I.loc, I.cell, I.free, I.freeC, fun p hp => I.pin p (List.mem_cons_of_mem _ hp), I.hok, I.len⟩
end
noncomputable def PassesS (CX : CXT) (X : Cx) (E : St → XK) : Prop := ∀ (pins : List (Addr × Obj)) (σ : St) (H : Hp) (s : Shared) (e : Value) (s' : Shared), Inv X pins σ H s → CX X.stack H s (E σ) e s' → X.xe e s'
noncomputable def tCallS (sp : Sp) (dvs : List V) (E : St → XK) (t : TA) : TE := fun σ H Q => t σ H fun vs H1 => sp (vs ++ dvs) H1 Q (E σ)
section
variable {X : Cx} {CX : CXT} {k : Nat} {f : Addr} {fd : FuncData} {ps : List Str} {sp : Sp} {dvs : List V} {ds : List Value} {E : St → XK} {x : Str} {p pos : Pos} {e : Expr} {es : List Expr} {t : TA}
theorem pe_callS (F : FnOk X.prog X.w X.K X.mg X.base CX k f fd ps sp) (hr : Room k X.A) (hg : Gl X x) (hm : X.mg x = some (.ref f)) (hk : PySem.W.keepIn X.K (.ref f) = true) (hb : Binds X.K fd ps ds) (hd : Vals dvs ds) (hx : PassesS CX X E)
    (ha : PA X (e :: es) t) (hdb : (x == ("__debug__" : Str)) = false := by decide) (he : starEach (e :: es) X.env = (false, eval e X.env) :: starEach es X.env := by rfl) (hpl : (backTo pos (starEach es X.env)).any (·.1) = false := by rfl) :
    PE X (.Call (.Name x p) (e :: es) [] pos) (tCallS sp dvs E t) := by
  intro pins s σ H Q I h
  refine wpAny_Call_Name_kw (ld_glob I hg hm ?_ hdb)
  refine PySem.W.callWith_K (h₀ := X.base) I.ok.mod.kin hk (thn (ha pos pins s σ H _ I h) fun us s1 ⟨vs, H1, I1, r, q⟩ => ⟨I1.kIn, ?_⟩) he hpl
  have r2 : Vals (vs ++ dvs) (us ++ ds) := r.append hd
  have hl : (us ++ ds).length = ps.length := by rw [← r2.length]; exact F.len _ _ _ _ q
  refine wpAny_call (codeAny_mono (F.run X.A X.stack s1 H1 ⟨us, []⟩ (us ++ ds) (vs ++ dvs) Q (E σ) hr I1.env0 (hb s1 us I1.kIn hl) r2 q) fun r s' hq => ?_)
  cases r with
  | error e => exact hx pins σ H1 s1 e s' I1 hq
  | ok fl =>
    cases fl with
    | ret u => exact I1.after hq
    | next => exact False.elim hq
    | brk => exact False.elim hq
    | cont => exact False.elim hq
end
structure Catch (K : PySem.W.Frag) (CS : Addr) : Prop where
  ty : PySem.W.typeIn K (.ref CS) = some (.type "type")
  isc : PySem.W.isClsIn K CS = true
  base : PySem.W.subIn K (.ref CS) (.type "BaseException") = some true
open PySem.W in
theorem looks_isType {K : Frag} {M : Model} {h : Heap} {C : Addr} (kin : K.In h) (z : isClsIn K C = true) : Looks M h (isType (.ref C)) true := by
  unfold isClsIn clsIn at z
  split at z
  · rename_i lk
    intro A Q E s k q
    unfold isType loadHead
    exact wpAny_bind (wpAny_loadPart (k C _ (kin C _ lk)) (wpAny_pure q))
  · cases z
open PySem.W in
theorem exc_matches {prog : Program} {w : World} {A : Around} {E : Value → Shared → Prop} {s : Shared} {K : Frag} {e CS : Addr} {oe : Obj} {Q : Bool → Shared → Prop} (kin : K.In s.heap) (he : s.heap.get? e = some oe) (ca : Catch K CS)
    (hC : subIn K oe.cls (.ref CS) = some true) (hq : Q true s) : wpAny (model prog w) A (excMatches (.ref e) (.ref CS)) Q E s := by
  obtain ⟨hh, g, d, tk, os⟩ := s
  have L1 : Looks (model prog w) hh (typeOf (.ref CS)) (.type "type") := looks_typeIn kin ca.ty
  have L2 : Looks (model prog w) hh (isType (.ref CS)) true := looks_isType kin ca.isc
  have L3 : Looks (model prog w) hh (isSubtype oe.cls (.ref CS)) true := looks_subIn kin hC
  have L4 : Looks (model prog w) hh (isInstance (.ref CS) (.type "tuple")) false := L1.andThen (Looks.of_pure tc_notTuple)
  have L5 : Looks (model prog w) hh (isExcClass (.ref CS)) true := L2.andThen (looks_subIn kin ca.base)
  have L6 : Looks (model prog w) hh (typeOf (.ref e)) oe.cls := (Looks.ld he).andThen .now
  unfold excMatches
  refine wpAny_bind (L4.at ?_)
  simp only [Bool.false_eq_true, if_false]
  refine wpAny_bind (wpAny_pure ?_)
  simp only [List.forIn_cons, List.forIn_nil]
  refine wpAny_bind (wpAny_bind (wpAny_bind (L5.at ?_)))
  simp only [Bool.not_true, Bool.false_eq_true, if_false]
  refine wpAny_pure (wpAny_pure (wpAny_bind (L6.at ?_)))
  refine wpAny_bind (wpAny_bind (wpAny_bind (L3.at ?_)))
  simp only [if_true]
  exact wpAny_pure (wpAny_pure (wpAny_pure hq))
theorem goes {X : Cx} {pins : List (Addr × Obj)} {σ : St} {H : Hp} {s : Shared} {M : Model} {A : Around} {E : Value → Shared → Prop} {Q : Unit → Shared → Prop} {i : Nat} {n : Str} {pos : Pos} (I : Inv X pins σ H s) (hN : X.N.Nodup) (hi : X.N[i]? = some n) (hl : X.env.scope.names.lookup n = some .local)
    (k : ∀ s', Inv X pins (σ.set i none) H s' → Q () s') : wpAny M A (do bindName X.env n .none; unbindBehindTheSuite X.env n pos) Q E s := by
  obtain ⟨m, hn, hloc⟩ := id I.loc
  have hcls : (X.env.scope.kind == .class || (X.env.scope.kind == .module && X.env.locals != X.env.globals)) = false := by rw [I.ok.kind]; rfl
  refine wpAny_nameGoes_keeps hl hn hcls fun h' v hn' hs => k _ ?_
  have nl : ∀ b o, X.s₀.heap.get? b = some o → b ≠ X.env.locals := fun b o e => I.notMine e
  have cne := I.cne
  refine ⟨I.ok, I.os, I.bare, ⟨fun b o e z hb hx => (hs.2 b (nl b o e)).trans (I.base.keep b o e z hb hx), fun b o e z hb hx => ?_, I.base.free, fun b o e hx => ?_, I.base.tups, I.base.frzs, I.base.tbls⟩, ⟨_, hn', fun j y v' e1 e2 e3 => ?_⟩, fun y c e => ?_, I.free, I.freeC, fun p hp => ?_, fun b u e => ?_, by simpa using I.len⟩
  · obtain ⟨sl, e1⟩ := I.base.slot b o e z hb hx
    exact ⟨sl, (hs.2 b (nl b o e)).trans e1⟩
  · obtain ⟨o', e1⟩ := I.base.there b o e hx
    exact ⟨o', (hs.2 b (nl b o e)).trans e1⟩
  · have hj : j ≠ i := by
      rintro rfl
      rw [List.getElem?_set_self (by rw [I.len]; exact (List.getElem?_eq_some_iff.mp hi).1)] at e2
      cases e2
    rw [List.getElem?_set_ne (Ne.symm hj)] at e2
    obtain ⟨u', r', q⟩ := hloc j y v' e1 e2 e3
    refine ⟨u', r', ?_⟩
    rcases q with ⟨k1, k2⟩ | ⟨k1, c, k2, z⟩
    · refine .inl ⟨k1, ?_⟩
      have : y ≠ n := fun e => hj (nodup_ix hN e1 (e ▸ hi))
      simp [this, k2]
    · exact .inr ⟨k1, c, k2, z.sameBut hs (cne y c k2)⟩
  · obtain ⟨w', z⟩ := I.cell y c e
    exact ⟨w', z.sameBut hs (cne y c e)⟩
  · obtain ⟨e, z, ne, nf, d⟩ := I.pin p hp
    exact ⟨(hs.2 p.1 ne).trans e, z, ne, nf, d⟩
  · refine (I.hok b u e).stay (fun c w' hc q => (hs.2 c ?_).trans q) (fun _ q => q) fun _ _ q => q
    rintro rfl
    have fr := I.free
    rcases hc with z | z
    · rw [← z, fr] at e; cases e
    · rw [fr] at z; cases z
end L2
set_option maxHeartbeats 4000000
namespace L2
open PySem PySem.Spec PyProof.Rows
noncomputable def Bg (i : Int) : Prop := Builtin.Int.intBits i ≤ 1048576
theorem Bg.le {i j : Int} (h : Bg i) (hj : j.natAbs ≤ i.natAbs) : Bg j := intBits_le_iff.mpr (Nat.lt_of_le_of_lt hj (intBits_le_iff.mp h))
theorem Bg.zero : Bg 0 := by unfold Bg Builtin.Int.intBits; decide
open PySem.W in
theorem bg_of_lay {ns : List Int} (h : WData.layableAll [WData.list (ns.map WData.int)] = true) : ∀ i ∈ ns, Bg i := fun i hi => by
  have h1 := layableW_arg h _ (List.mem_singleton.mpr rfl)
  have h2 := layableW_item h1 (.int i) (List.mem_map.mpr ⟨i, hi, rfl⟩)
  have h3 := (layableW_iff.mp h2).2.2
  exact h3
open PySem.W in
theorem attachB {l : OpenLaw} {n : Nat} {q : Program} {loose : List Str} {XP : (Str → Option Value) → Heap → Prop} {YP : World → Heap → Prop} {d : DefRec}
    (hn : l.most = some n) (hdf : d.params.defaults = [])
    (run : ∀ (w : World) (s0 s1 : Shared) (mg mb : Str → Option Value) (fa : Addr) (o : Obj) (pm cd doc : Value) (a : Addr) (vs : List Value) (ns : List Int),
      Ground q loose [] XP w s0 mg mb s1.heap → YP w s1.heap →
      s1.heap.get? fa = some o → o.data = .func (Calls.docDef d.name d.params d.body d.scope pm cd doc) → s1.heap.CodeRec cd d.name → mg d.name = some (.ref fa) →
      s1.heap.get? a = some { cls := .type "list", data := .seq vs.toArray } → IntsAre vs ns → ns.length ≤ n → (∀ i ∈ ns, Bg i) → s1.gens = #[] →
      codeAny (model l.prog w) callerA (.call (.ref fa) ⟨[.ref a], []⟩) (fun r s' => r = .ok (.ret (.bool true)) ∧ OldK s1.heap s'.heap ∧ s'.os = s1.os ∧ AllBare s'.gens) s1) :
    WalkO q loose XP YP l.row.toRowW d [] (fun f vs => PySem.call f vs) := by
  intro w s0 s1 mg mb G Y fa o pm cd doc dV kV ho hd hcd hD hmg hg args vals as hpre hlay hrd hwl hlo
  obtain rfl : dV = .none := Dflts.none hD hdf
  obtain rfl : kV = .none := Dflts.noKw hD
  obtain ⟨a, vs, ns, rfl, rfl, hobj, hints, hlen⟩ := Att.script_of hn hpre hwl
  have hbg := bg_of_lay hlay
  refine enter_call (codeAny_mono (run w s0 s1 mg mb fa o pm cd doc a vs ns G Y ho (fd_plain hd) hcd hmg hobj hints hlen hbg hg) fun r s' hq => ?_)
  obtain ⟨e1, h2, h3, h4⟩ := hq
  subst e1
  exact ⟨.inl ⟨.bool true, .bool true, [], rfl, fun _ => rfl, .bool true, Att.post_true l _, fun _ => ⟨List.Pairwise.nil, fun _ hm => (nomatch hm)⟩⟩, h2, h3, h4⟩
theorem walk_ofB {l : PySem.W.OpenLaw} {n k : Nat} {q : Program} {loose : List Str} {XP : (Str → Option Value) → Heap → Prop} {YP : World → Heap → Prop} {d : DefRec} {K : Params → PySem.W.Frag} {CX : World → CXT} {sp : World → Sp} {x : Str}
    (hn : l.most = some n) (hn2 : n ≤ sizeLine) (hdf : d.params.defaults = []) (hr : Room k callerA)
    (hY : ∀ (w : World) (h : Heap), YP w h → (K w.params).In h)
    (F : ∀ (w : World) (mg : Str → Option Value) (fa : Addr) (h : Heap), (K w.params).In h → h.Ns mainGlobals mg → mg d.name = some (.ref fa) →
      ∃ fd : FuncData, (∀ (s : Shared) (u : Value), BindsTo s fd ⟨[u], []⟩ [(x, u)]) ∧
        ∀ base : Heap, (K w.params).In base → base.Ns mainGlobals mg → FnOk l.prog w (K w.params) mg base (CX w) k fa fd [x] (sp w))
    (hsp : ∀ (w : World) (H : Hp) (a : Addr) (ns : List Int), ns.length ≤ n → (∀ i ∈ ns, Bg i) → Only H → SqL (K w.params) H a (ns.map V.int) → sp w [.ref a] H (fun v _ => v = .bl true) fun _ _ _ => False)
    (hCX : ∀ (w : World) (H : Hp) (s : Shared) (e : Value) (s' : Shared), CX w [] H s (fun _ _ _ => False) e s' → False) :
    PySem.W.WalkO q loose XP YP l.row.toRowW d [] (fun f vs => PySem.call f vs) := by
  refine attachB hn hdf fun w s0 s1 mg mb fa o pm cd doc a vs ns G Y ho hd hcd hmg hobj hints hlen hbg hg => ?_
  have KX := hY w _ Y
  obtain ⟨fd, hb, hF⟩ := F w mg fa _ KX G.T.g hmg
  exact law_call KX G.T.g G.T.b G.T.builtins G.T.nolimit hg hobj hints (Nat.le_trans hlen hn2) hr hF hb (fun H hO hS => hsp w H a ns hlen hbg hO hS) fun H e s' => hCX w H s1 e s'
theorem Inv.big {X : Cx} {pins : List (Addr × Obj)} {σ : St} {H : Hp} {s : Shared} (I : Inv X pins σ H s) : sysModules < s.heap.objs.size := by
  have h : mainGlobals < s.heap.objs.size := (I.mod.glob.keeps I.bk).lt
  exact Nat.lt_trans (by decide) h
theorem dk_empty {P : Program} {w : World} {H : Hp} (h : Heap) (hb : sysModules < h.objs.size) : ObjOk P w H (h.push { cls := .type "dict", data := .dict #[] }) h.objs.size (.dK []) :=
  ⟨Nat.zero_le _, beq_eq_false_iff_ne.mpr (Ne.symm (Nat.ne_of_lt hb)), [], .nil, Heap.DictOf.new h⟩
noncomputable def tDNewK : TE := fun _ H Q => ∀ p, H p = none → Q (.ref p) (upd H p (.dK []))
theorem pe_dnewK {X : Cx} {pos : Pos} : PE X (.Dict [] [] pos) tDNewK := fun pins s σ H Q I h =>
  wpAny_Dict_empty ⟨.ref s.heap.objs.size, _, I.laid (a := s.heap.objs.size) (o := .dK []) (t' := s.toks) (fun _ _ q => Heap.get?_push_of_some _ q) (Nat.le_refl _) (dk_empty s.heap I.big), rfl, h _ (I.hok.fresh (Nat.le_refl _))⟩
theorem Dens.at {H : Hp} {ts : List Th} {xs : List V} {i : Int} (d : Th) (h : Dens H ts xs) (h0 : 0 ≤ i) (h1 : i < (ts.length : Int)) : ∃ v, atI xs i = some v ∧ Den H (ts.getD i.toNat d) v := by
  have hk : i.toNat < ts.length := by omega
  have ek : i = ((i.toNat : Nat) : Int) := by omega
  obtain ⟨v, e, q⟩ := h.get (List.getElem?_eq_getElem hk)
  have z := atI_nat e
  rw [← ek] at z
  refine ⟨v, z, ?_⟩
  rw [getD_in hk]; exact q
end L2
set_option maxHeartbeats 4000000
namespace L2
open PySem PySem.Spec PyProof.Rows
section
variable {prog : Program} {w : World} {A : Around} {E : Value → Shared → Prop}
end
end L2
set_option maxHeartbeats 4000000
namespace L2
open PySem PySem.Spec PySem.W PyProof.Rows Builtin Builtin.ObjectAttr Builtin.Getset_descriptor
structure XInst (K : Frag) (C : Addr) : Prop where
  ga : findIn K (.ref C) "__getattribute__" = some (some (.builtin "BaseException.__getattribute__"))
  gt : findIn K (.ref C) "__getattr__" = some none
  cl : findIn K (.ref C) "__class__" = some (some (.builtin "object.__class__"))
  sg : specialIn K (.builtin "object.__class__") "__get__" = some (some (.builtin "getset_descriptor.__get__"))
  tk : takesIn K (.builtin "object.__class__") = some true
  ob : mroIn K C (.type "object") = some true
  be : mroIn K C (.type "BaseException") = some true
  ok : isClsIn K C = true
section
variable {prog : Program} {w : World} {A : Around} {E : Value → Shared → Prop} {K : Frag} {a C : Addr} {oe : Obj} {h : Heap} {g : Array GenState} {d : Drawn} {t : Nat} {os : OsState}
theorem exc_class_get {R : Result → Shared → Prop} {tp : Value} (kin : K.In h) (x : XInst K C) (he : h.get? a = some oe) (hc : oe.cls = .ref C) (q : R (.ok (.ret (.ref C))) ⟨h, g, d, t, os⟩) :
    codeAny (model prog w) A (.call (.builtin "getset_descriptor.__get__") ⟨[.builtin "object.__class__", .ref a, tp], []⟩) R ⟨h, g, d, t, os⟩ := by
  have M0 : Looks (model prog w) h (typeOf (.ref a)) (.ref C) := by rw [← hc]; exact (Looks.ld he).andThen .now
  have M1 := looks_mroIn (M := model prog w) kin x.ob
  refine codeAny_call_builtin (KF.slot_gs.plain) KF.entry_gs
    (KF.slot_gs.check _ _ _ _ _ _ _ _ KF.type_class (KF.args_gs _ _ _) ?_)
  unfold Builtin.«getset_descriptor.__get__» descrGet
  rw [dga_obj]
  refine wpAny_bind (wpAny_pure ?_)
  unfold descrGetter descrCheckInstance descrNameAndClass isInstance
  simp only [KF.owner_class]
  repeat lk
  refine ⟨Code.quiet_builtin _ (by decide +kernel), codeAny_builtin KF.entry_class ?_⟩
  unfold Builtin.«object.__class__» shownTypeOf
  repeat lk
  exact q
theorem exc_attr {tk : Tok} {Q : PySem.Fin → Shared → Prop} (kin : K.In h) (x : XInst K C) (he : h.get? a = some oe) (hc : oe.cls = .ref C) (q : Q (.done (.ret (.ref C))) ⟨h, g, d, t, os⟩) :
    wpAny (model prog w) A (Builtin.«object.__getattribute__» ⟨[.ref a, .str "__class__" tk], []⟩) Q E ⟨h, g, d, t, os⟩ := by
  have M0 : Looks (model prog w) h (typeOf (.ref a)) (.ref C) := by rw [← hc]; exact (Looks.ld he).andThen .now
  have M3 := looks_findIn (M := model prog w) kin x.cl
  have f5 := KF.type_class
  have f6 := F.slot_gs_get.lookup
  have f7 := F.slot_gs_set.lookup
  repeat (any_goals (first | assumption | (with_reducible refine wpAny_loadPart_at he ?_; rw [hc]) | (with_reducible refine M3.at ?_) | wp_step))
  refine exc_class_get kin x he hc ?_
  exact wpAny_pure q
seal wpAny in
theorem exc_class {Q : Option Value → Shared → Prop} (kin : K.In h) (x : XInst K C) (he : h.get? a = some oe) (hc : oe.cls = .ref C) (q : Q (some (.ref C)) ⟨h, g, d, t + 1, os⟩) :
    wpAny (model prog w) A (getAttr? (.ref a) "__class__") Q E ⟨h, g, d, t, os⟩ := by
  have M0 : Looks (model prog w) h (typeOf (.ref a)) (.ref C) := by rw [← hc]; exact (Looks.ld he).andThen .now
  have M1 := looks_findIn (M := model prog w) kin x.ga
  have M2 := looks_findIn (M := model prog w) kin x.gt
  have M3 := looks_findIn (M := model prog w) kin x.cl
  unfold getAttr? getAttrBy? getAttrBy
  refine wpAny_bind (wpAny_mkText (wpAny_bind (wpAny_attempt (wpAny_holding (wpAny_bind (M0.at (wpAny_bind (M1.at ?_))))))))
  have n1 : (onTheHeap (Value.ref C) && Value.builtin "BaseException.__getattribute__" == Value.builtin "object.__getattribute__") = false := by
    rw [show (Value.builtin "BaseException.__getattribute__" == Value.builtin "object.__getattribute__") = false by decide +kernel, Bool.and_false]
  simp only [n1, Bool.false_eq_true, if_false]
  unfold getAttrByItsOwn hookBefore
  refine wpAny_bind (M2.at (wpAny_bind (wpAny_attempt (wpAny_holding ?_))))
  unfold callGetattribute boundAndCalled
  simp only [Bool.false_and, Bool.false_eq_true, if_false]
  rw [F.attr_ValueError.ga.bind (.ref a)]
  refine wpAny_bind (wpAny_pure ?_)
  refine wpAny_call (codeAny_call_builtin F.attr_ValueError.ga.plain F.entry_bexc_ga ?_)
  have be : subIn K (.ref C) (.type "BaseException") = some true := x.be
  have M4 : Looks (model prog w) h (isInstance (.ref a) (.type "BaseException")) true := M0.andThen (looks_subIn kin be)
  have k1 : builtinKind "BaseException.__getattribute__" = some .slot := by decide +kernel
  have k2 : splitId "BaseException.__getattribute__" = some ("BaseException", "__getattribute__") := by decide +kernel
  show wpAny _ _ (checkBuiltinCall "BaseException.__getattribute__" ⟨[.ref a, .str "__class__" t], []⟩) _ _ _
  have k3 : argsOk "BaseException.__getattribute__" ⟨[.ref a, .str "__class__" t], []⟩ := F.args_bexc_ga (.ref a) (.str "__class__" t)
  refine check_slot (self := .ref a) (rest := [.str "__class__" t]) (kw := []) (owner := "BaseException") (n := "__getattribute__") k1 k2 M4 k3 ?_
  refine exc_attr kin x he hc ?_
  show wpAny (model prog w) A (handedOut (.ref C)) _ _ _
  exact handed_on rfl (wpAny_pure q)
theorem kitx_exc (x : XInst K C) : KitX K (.ref a) (.ref C) (fun h => ∃ oe, h.get? a = some oe ∧ oe.cls = .ref C) where
  ty := fun M h _ ⟨oe, he, hc⟩ => by rw [← hc]; exact (Looks.ld he).andThen .now
  it := fun M h kin _ => looks_isType kin x.ok
  ne := fun h tp dd its n sl kin htp => by
    refine Bool.eq_false_iff.mpr fun q => ?_
    have e : C = tp := Value.ref.inj (beq_iff_eq.mp q)
    subst e
    have z := x.ok
    unfold isClsIn clsIn at z
    split at z
    · rename_i lk
      have y := (kin C _ lk).symm.trans htp
      cases y
    · cases z
  ca := fun {prog w A E Q s} kin ⟨oe, he, hc⟩ q => by
    obtain ⟨h, g, d, t, os⟩ := s
    exact exc_class kin x he hc q
end
section
variable {X : Cx} {e : Addr} {oe : Obj}
theorem Inv.heldAt {pins : List (Addr × Obj)} {σ : St} {H : Hp} {s : Shared} (I : Inv (X.held e oe) pins σ H s) : s.heap.get? e = some oe := (I.pin (e, oe) (List.mem_append_left _ List.mem_cons_self)).1
theorem vals_refs : ∀ {Ds : List Addr} {us : List Value}, Vals (Ds.map V.ref) us → us = Ds.map Value.ref
  | [], _, .nil => rfl
  | D :: Ds, _, .cons r t => by rw [vals_refs t, show _ = Value.ref D from r]; rfl
theorem op_eqD (hu : X.A.units + 64 < cLine) : OpR X (compareOp .Eq) (fun x y H Q => ∃ t, Den H t x ∧ Den H t y ∧ depT t ≤ 60 ∧ Q (.bl true) H) := by
  intro pins s σ H x y v u Q I rx ry h
  obtain ⟨t, d1, d2, hd, q⟩ := h
  have scal_case : scal x y = true → x = y → wpAny (model X.prog X.w) X.A (compareOp .Eq v u) (EP X pins σ Q) X.xe s := fun h1 h2 =>
    op_eq pins s σ H x y v u Q I rx ry ⟨h1, by rw [decide_eq_true h2]; exact q⟩
  cases t with
  | non => cases (show x = V.non from d1); cases (show y = V.non from d2); exact scal_case rfl rfl
  | bl b => cases (show x = V.bl b from d1); cases (show y = V.bl b from d2); exact scal_case rfl rfl
  | int i => cases (show x = V.int i from d1); cases (show y = V.int i from d2); exact scal_case rfl rfl
  | str z => cases (show x = V.str z from d1); cases (show y = V.str z from d2); exact scal_case rfl rfl
  | lst ts =>
    obtain ⟨a1, xs, rfl, h1, e1⟩ := d1
    obtain ⟨a2, ys, rfl, h2, e2⟩ := d2
    cases (show v = Value.ref a1 from rx); cases (show u = Value.ref a2 from ry)
    obtain ⟨_, us, n1, q1, g1⟩ := (show ObjOk X.prog X.w H s.heap a1 (.lst xs) from I.hok a1 _ h1)
    obtain ⟨_, ws, n2, q2, g2⟩ := (show ObjOk X.prog X.w H s.heap a2 (.lst ys) from I.hok a2 _ h2)
    have hsz : us.toArray.size = ws.toArray.size := by
      rw [List.size_toArray, List.size_toArray, ← q1.length, ← q2.length, e1.len, e2.len]
    have hd' : depTs ts + 1 ≤ 60 := hd
    have h := SeqAt.RcAt.lists (A := X.A) (s := s) (e := fun _ => true) (⟨_, g1, rfl, _, rfl⟩ : s.heap.IsList a1 us.toArray) (⟨_, g2, rfl, _, rfl⟩ : s.heap.IsList a2 ws.toArray) hsz (by omega) fun j j1 j2 => by
      obtain ⟨t, w1, w2, ht, p1, p2, s1, s2⟩ := dens_at e1 e2 q1 q2 j j1 j2
      exact eqDen I.hok 60 X.A.in1 t w1 w2 _ _ (by have := depTs_mem ht; omega) (by show X.A.units + 1 + 60 < cLine; omega) p1 p2 s1 s2
    rw [range_all_true] at h
    exact h X.prog X.w _ _ ⟨.bl true, H, I, rfl, q⟩
  | tup ts =>
    obtain ⟨a1, xs, rfl, h1, e1⟩ := d1
    obtain ⟨a2, ys, rfl, h2, e2⟩ := d2
    cases (show v = Value.ref a1 from rx); cases (show u = Value.ref a2 from ry)
    obtain ⟨_, us, q1, g1⟩ := (show ObjOk X.prog X.w H s.heap a1 (.tup xs) from I.hok a1 _ h1)
    obtain ⟨_, ws, q2, g2⟩ := (show ObjOk X.prog X.w H s.heap a2 (.tup ys) from I.hok a2 _ h2)
    have hsz : us.toArray.size = ws.toArray.size := by
      rw [List.size_toArray, List.size_toArray, ← q1.length, ← q2.length, e1.len, e2.len]
    have hd' : depTs ts + 1 ≤ 60 := hd
    have h := SeqAt.RcAt.tuples (A := X.A) (s := s) (e := fun _ => true) (show s.heap.IsTuple a1 us.toArray from g1) (show s.heap.IsTuple a2 ws.toArray from g2) (by omega) fun j j1 j2 => by
      obtain ⟨t, w1, w2, ht, p1, p2, s1, s2⟩ := dens_at e1 e2 q1 q2 j j1 j2
      exact eqDen I.hok 60 X.A.in1 t w1 w2 _ _ (by have := depTs_mem ht; omega) (by show X.A.units + 1 + 60 < cLine; omega) p1 p2 s1 s2
    rw [range_all_true, hsz, beq_self_eq_true, Bool.and_self] at h
    exact h X.prog X.w _ _ ⟨.bl true, H, I, rfl, q⟩
  | emp =>
    obtain ⟨a1, rfl, h1⟩ := d1
    obtain ⟨a2, rfl, h2⟩ := d2
    cases (show v = Value.ref a1 from rx); cases (show u = Value.ref a2 from ry)
    obtain ⟨_, m1, vs1, q1, g1⟩ := (show ObjOk X.prog X.w H s.heap a1 (.dK []) from I.hok a1 _ h1)
    obtain ⟨_, m2, vs2, q2, g2⟩ := (show ObjOk X.prog X.w H s.heap a2 (.dK []) from I.hok a2 _ h2)
    cases q1
    cases q2
    exact PySem.W.keq_eq (K := Key) (knd := mixKind X.prog X.w) (r := true) m1 m2 g1 g2 (by omega) (fun _ => .nil) ⟨.bl true, H, I, rfl, q⟩
  | dic => exact absurd (show cLine + 1 ≤ 60 from hd) (by omega)
end
end L2
set_option maxHeartbeats 4000000
namespace L2
open PySem PySem.Spec PyProof.Rows
section
variable {X : Cx} {pins : List (Addr × Obj)} {σ : St} {H : Hp} {s : Shared} {h' : Heap}
theorem Inv.turnedL {t' : Nat} {fp : List Addr} (I : Inv X pins σ H s) (k : ∀ b o, b ∉ fp → s.heap.get? b = some o → h'.get? b = some o) (hf : ∀ b ∈ fp, FpOk X pins H b) :
    Inv X pins σ H { s with heap := h', toks := t' } := by
  have nin : ∀ b u, H b = some u → b ∉ fp := fun b u e z => by rw [(hf b z).1] at e; cases e
  refine I.step (g' := s.gens) (d' := s.drawn) (ch := fp) (fun b hb => ⟨(hf b hb).2.2.2.1, (hf b hb).2.1, (hf b hb).2.2.2.2.1, (hf b hb).2.2.2.2.2⟩) (fun b o _ _ hc e _ => k b o hc e) (fun b o _ _ hc e _ => ⟨o.slots, k b o hc e⟩) (fun _ _ _ _ n => n)
    (fun b o hc e => ⟨o, k b o hc e⟩) (fun _ _ e => e) (fun _ _ _ e => e) (fun b ps e => ⟨#[], by rw [e]; simp⟩) (fun m hm => ?_) (fun b u e => ?_) I.bare
  · obtain ⟨o, es, ep, ho, r⟩ := hm
    exact ⟨o, es, ep, k _ o (fun z => (hf _ z).2.1 rfl) ho, r⟩
  · refine (I.hok b u e).stay (fun c v hc q => k c v ?_ q) (fun _ q => q) fun _ _ q => q
    rcases hc with z | z
    · rw [z]; exact nin b u e
    · exact nin c _ z
theorem Inv.turnLay {t' : Nat} {fp : List Addr} {a : Addr} {o : HO} (I : Inv X pins σ H s) (k : ∀ b u, b ∉ fp → s.heap.get? b = some u → h'.get? b = some u) (hf : ∀ b ∈ fp, FpOk X pins H b)
    (ha : s.heap.objs.size ≤ a) (new : ObjOk X.prog X.w (upd H a o) h' a o) : Inv X pins σ (upd H a o) { s with heap := h', toks := t' } := by
  have nin : ∀ b u, H b = some u → b ∉ fp := fun b u e z => by rw [(hf b z).1] at e; cases e
  have hn : H a = none := I.hok.fresh ha
  have ne : ∀ b u, H b = some u → b ≠ a := fun b u e z => by rw [z, hn] at e; cases e
  refine I.step (g' := s.gens) (d' := s.drawn) (ch := fp) (fun b hb => ⟨(hf b hb).2.2.2.1, (hf b hb).2.1, (hf b hb).2.2.2.2.1, (hf b hb).2.2.2.2.2⟩) (fun b o _ _ hc e _ => k b o hc e) (fun b o _ _ hc e _ => ⟨o.slots, k b o hc e⟩)
    (fun b u _ e n => by rw [upd_ne (Nat.ne_of_lt (Nat.lt_of_lt_of_le (Heap.lt_size e) ha))]; exact n)
    (fun b o hc e => ⟨o, k b o hc e⟩) (fun b xs e => by rw [upd_ne (ne b _ e)]; exact e) (fun b o u e => by rw [upd_ne (ne b _ e)]; exact e) (fun b ps e => ⟨#[], by rw [upd_ne (ne b _ e), e]; simp⟩) (fun m hm => ?_) (fun b u e => ?_) I.bare
  · obtain ⟨o, es, ep, ho, r⟩ := hm
    exact ⟨o, es, ep, k _ o (fun z => (hf _ z).2.1 rfl) ho, r⟩
  · by_cases hb : b = a
    · subst hb
      rw [upd_same] at e
      cases e
      exact new
    · rw [upd_ne hb] at e
      refine (I.hok b u e).stay (fun c v hc q => k c v ?_ q) (fun c q => by rw [upd_ne (ne c _ q)]; exact q) fun c xs q => by rw [upd_ne (ne c _ q)]; exact q
      rcases hc with z | z
      · rw [z]; exact nin b u e
      · exact nin c _ z
end
theorem zapart {n l1 l2 : Nat} (h1 : l1 < n) (h2 : l2 < n) : ZipApart (n + 4) (n + 2) (n + 3) n (n + 1) l1 l2 := by
  constructor <;> (show (_ : Nat) ≠ (_ : Nat); omega)
end L2
set_option maxHeartbeats 4000000
namespace L2
open PySem PySem.Spec PyProof.Rows
noncomputable abbrev testsOf (ifs : List Expr) (env : Env) : Sem Bool := forIn ifs true fun c ok => if ok = true then do
      let ok ← PySem.isTrue c env (eval c env)
      pure (ForInStep.yield ok)
    else pure (ForInStep.yield ok)
theorem compTurn_ifs (elt target iter : Expr) (ifs : List Expr) (scope : Scope) (pos : Pos) (it acc : Value) (env : Env) :
  compTurn (elt.ListComp [⟨target, iter, ifs, 0⟩] scope pos) 0 it acc env = (do
    standAt iter.pos
    let r ← pyNext it
    match r with
      | none => pure (Fin.done Flow.next)
      | some v => do
        letOwnedTupleGo target it v
        assign target env v
        let ok ← testsOf ifs env
        if ok = true then do
          let x ← eval elt env
          let _ ← call (Value.builtin "list.append") [acc, x]
          again (Code.compLoop (elt.ListComp [⟨target, iter, ifs, 0⟩] scope pos) 0 it acc env)
        else again (Code.compLoop (elt.ListComp [⟨target, iter, ifs, 0⟩] scope pos) 0 it acc env)) := by
  unfold compTurn
  simp
  rfl
noncomputable def PIf (X : Cx) (ifs : List Expr) (t : TT) : Prop :=
  ∀ (pins : List (Addr × Obj)) (s : Shared) (σ : St) (H : Hp) (Q : Bool → Hp → Prop), Inv X pins σ H s → t σ H Q → wpAny (model X.prog X.w) X.A (testsOf ifs X.env) (TP X pins σ Q) X.xe s
noncomputable def tYes : TT := fun _ H Q => Q true H
theorem pif_nil {X : Cx} : PIf X [] tYes := fun pins s σ H Q I h => by
  show wpAny _ _ (pure true) _ _ s
  exact wpAny_pure ⟨H, I, h⟩
theorem pif_one {X : Cx} {c : Expr} {t : TT} (hc : PT X c t) : PIf X [c] t := fun pins s σ H Q I h => by
  have e : testsOf [c] X.env = PySem.isTrue c X.env (eval c X.env) := by simp [testsOf]
  rw [e]
  exact hc pins s σ H Q I h
theorem compLoop_ifs {prog : Program} {w : World} {A : Around} {R : Result → Shared → Prop} {s : Shared} {elt tg iter : Expr} {ifs : List Expr} {scope : Scope} {pos : Pos} {it acc : Value} {env : Env} (Iv : Nat → Shared → Prop)
    (turn : ∀ k s, Iv k s → wpAny (model prog w) A (pyNext it) (fun r s1 => match r with
      | none => R (.ok .next) s1
      | some v => wpAny (model prog w) A (letOwnedTupleGo tg it v) (fun _ s2 => wpAny (model prog w) A (assign tg env v) (fun _ s3 => wpAny (model prog w) A (testsOf ifs env) (fun b s4 => if b = true then
          wpAny (model prog w) A (eval elt env) (fun y s5 => wpAny (model prog w) A (call (.builtin "list.append") [acc, y]) (fun _ s6 => ∃ m, m < k ∧ Iv m s6) (fun _ _ => False) s5) (fun _ _ => False) s4
          else ∃ m, m < k ∧ Iv m s4) (fun _ _ => False) s3) (fun _ _ => False) s2) (fun _ _ => False) s1) (fun _ _ => False) s)
    (k : Nat) (h : Iv k s) : codeAny (model prog w) A (.compLoop (.ListComp elt [⟨tg, iter, ifs, 0⟩] scope pos) 0 it acc env) R s := by
  refine codeAny_loop rfl Iv (fun k s hI => ?_) k h
  show wpAny _ _ ((compTurn (.ListComp elt [⟨tg, iter, ifs, 0⟩] scope pos) 0 it acc env).onRaise (fun e => do noteFrame e env; theTreesLotGoes e)) _ _ s
  refine wpAny_noted ?_
  rw [compTurn_ifs]
  refine wpAny_bind (wpAny_standAt (wpAny_bind (wpAny_mono (turn k s hI) (fun r s1 h1 => ?_) fun _ _ f => f.elim)))
  cases r with
  | none => exact wpAny_pure h1
  | some v =>
    refine wpAny_bind (wpAny_mono h1 (fun _ s2 h2 => wpAny_bind (wpAny_mono h2 (fun _ s3 h3 => wpAny_bind (wpAny_mono h3 (fun b s4 h4 => ?_) fun _ _ f => f.elim)) fun _ _ f => f.elim)) fun _ _ f => f.elim)
    cases b with
    | true =>
      rw [if_pos rfl] at h4 ⊢
      exact wpAny_bind (wpAny_mono h4 (fun y s5 h5 => wpAny_bind (wpAny_mono h5 (fun _ s6 h6 => wpAny_pure ⟨rfl, h6⟩) fun _ _ f => f.elim)) fun _ _ f => f.elim)
    | false =>
      rw [if_neg Bool.false_ne_true] at h4 ⊢
      exact wpAny_pure ⟨rfl, h4⟩
structure CompOkL (X : Cx) (xs : List Str) (ts : List (Str × Nat)) (scope : Scope) (cl : List (Str × Addr)) : Prop where
  clos : closureFor scope X.env = pure cl
  sub : ∀ y c, cl.lookup y = some c → X.env.cells.lookup y = some c
  nocell : (scope.names.all fun p => p.2 != .cell) = true
  kind : scope.kind = .function
  locs : (scope.names.all fun p => p.2 != .local || scope.names.lookup p.1 == some .local) = true
  nd : (xs ++ ts.map (·.1)).Nodup
  around : (ts.all fun p => decide (X.N[p.2]? = some p.1) && (X.env.kindOf p.1 == some .cell || X.env.kindOf p.1 == some .free) && (cl.lookup p.1).isSome &&
    ((relabel scope X.env).names.lookup p.1 == some .cell || (relabel scope X.env).names.lookup p.1 == some .free)) = true
  has : ((relabel scope X.env).names.all fun p => !(p.2 == .cell || p.2 == .free) || (cl.lookup p.1).isSome) = true
noncomputable abbrev nmsL (xs : List Str) (ts : List (Str × Nat)) : List Str := xs ++ ts.map (·.1)
noncomputable def CompG (J : It) (g : TG) (tt : TT) (te : TE) (k : Nat) (st : St) (D : Addr) (H1 : Hp) (Q : VK) : Prop :=
  ∃ W : Nat → Nat → List V → Hp → Prop, (∃ m, W 0 m [] (upd H1 D (.lst []))) ∧ ∀ i m ys H2, W i m ys H2 →
    (J.stop i H2 ∧ Q (.ref D) H2) ∨ (J.go i H2 ∧ ∀ x H3 σ0, J.yld i H2 x H3 → σ0.length = k → g x (σ0 ++ st) H3 fun σ2 H4 => (∃ σ1, σ1.length = k ∧ σ2 = σ1 ++ st) ∧ tt σ2 H4 fun b H5 =>
      if b = true then te σ2 H5 fun y H6 => H6 D = some (.lst ys) ∧ ys.length < sizeLine ∧ ∃ m', m' < m ∧ W (i + 1) m' (ys ++ [y]) (upd H6 D (.lst (ys ++ [y])))
      else ∃ m', m' < m ∧ W (i + 1) m' ys H5)
noncomputable def tCompG (wi : TI) (g : TG) (tt : TT) (k : Nat) (fr : List Nat) (te : TE) : TE := fun σ H Q => wi σ H fun J H1 => ∀ D, H1 D = none → CompG J g tt te k (taken σ fr) D H1 Q
section
variable {X : Cx} {elt iter tg : Expr} {ifs : List Expr} {xs : List Str} {pos : Pos} {scope : Scope} {cl : List (Str × Addr)} {ts : List (Str × Nat)} {wi : TI} {te : TE} {g : TG} {tt : TT}
theorem CompOkL.nocell' (O : CompOkL X xs ts scope cl) : ∀ y ∈ scope.names, y.2 ≠ .cell := fun y hy e => by
  have := List.all_eq_true.mp O.nocell y hy
  rw [e] at this
  cases this
theorem CompOkL.locs' (O : CompOkL X xs ts scope cl) : ∀ y ∈ scope.names, y.2 = .local → scope.names.lookup y.1 = some .local := fun y hy e => by
  have h := List.all_eq_true.mp O.locs y hy
  rw [e] at h
  rcases Bool.or_eq_true_iff.mp h with z | z
  · cases z
  · exact beq_iff_eq.mp z
theorem CompOkL.from' (O : CompOkL X xs ts scope cl) : ∀ (i : Nat) (y : Str), (ts.map (·.1))[i]? = some y → ∃ j, (sltOf ts)[i]? = some j ∧ X.N[j]? = some y ∧ (X.env.kindOf y = some .cell ∨ X.env.kindOf y = some .free) ∧ (cl.lookup y).isSome = true ∧
    ((relabel scope X.env).names.lookup y = some .cell ∨ (relabel scope X.env).names.lookup y = some .free) := fun i y e1 => by
  rw [List.getElem?_map] at e1
  cases q : ts[i]? with
  | none => rw [q] at e1; cases e1
  | some p =>
    rw [q] at e1
    have e2 : p.1 = y := Option.some.inj e1
    subst e2
    have h := List.all_eq_true.mp O.around p (List.mem_of_getElem? q)
    simp only [Bool.and_eq_true, Bool.or_eq_true, beq_iff_eq, decide_eq_true_eq] at h
    obtain ⟨⟨⟨h1, h2⟩, h3⟩, h4⟩ := h
    refine ⟨p.2, ?_, h1, h2, h3, h4⟩
    show (ts.map (·.2))[i]? = some p.2
    rw [List.getElem?_map, q] <;> rfl
theorem CompOkL.has' (O : CompOkL X xs ts scope cl) : ∀ y, ((relabel scope X.env).names.lookup y = some .cell ∨ (relabel scope X.env).names.lookup y = some .free) → (cl.lookup y).isSome = true := fun y h => by
  have go : ∀ k : NameKind, (k = .cell ∨ k = .free) → (relabel scope X.env).names.lookup y = some k → (cl.lookup y).isSome = true := fun k hk e => by
    have z := List.all_eq_true.mp O.has (y, k) (PySem.mem_of_lookup e)
    rcases Bool.or_eq_true_iff.mp z with z | z
    · rcases hk with e | e <;> (rw [e] at z; cases z)
    · exact z
  rcases h with h | h
  · exact go _ (.inl rfl) h
  · exact go _ (.inr rfl) h
theorem compL_ok {pins : List (Addr × Obj)} {σ : St} {H3 : Hp} {s3 : Shared} {fp : List Addr} (O : CompOkL X xs ts scope cl) (I3 : Inv X pins σ H3 s3) (hfp : ∀ b ∈ fp, FpOk X pins H3 b ∧ b < s3.heap.objs.size) :
    (cxComp X (nmsL xs ts) scope cl s3.heap.objs.size s3 H3 fp).Ok where
  mod := I3.ok.mod
  kind := O.kind
  glob := I3.ok.glob
  blt := I3.ok.blt
  above := Nat.le_refl _
  inj := fun y z c h1 h2 => I3.ok.inj y z c (O.sub y c h1) (O.sub z c h2)
  has := fun y h => Option.isSome_iff_exists.mp (O.has' y h)
  cab := fun y c h => by cases h
  hd := I3.ok.hd
  frames := I3.ok.frames
  stk := .inl rfl
  exf := fun b hb => ⟨Nat.ne_of_lt (hfp b hb).2, fun y c e => (hfp b hb).1.2.2.2.2.1 y c (O.sub y c e)⟩
  bs := fun b o e => I3.bs b o e
  bsz := Nat.le_trans I3.ok.bsz I3.sz
  noex := fun b o e hb => by
    rcases (hfp b hb).1.2.2.2.1 with z | z
    · exact I3.ok.noex b o e z
    · exact absurd (Nat.lt_of_lt_of_le (Heap.lt_size (I3.ok.bs b o e).1) z) (Nat.lt_irrefl _)
  exfs := fun b hb hz => by
    rcases List.mem_cons.mp (I3.stkSub b hz) with e | e
    · exact (hfp b hb).1.2.1 e
    · exact (hfp b hb).1.2.2.1 e
  funs := I3.stack
  frf := I3.stkFree
theorem compL_start {pins : List (Addr × Obj)} {σ : St} {H3 : Hp} {s3 : Shared} {fp : List Addr} {h1 : Heap} {tk : Nat} (O : CompOkL X xs ts scope cl) (I3 : Inv X pins σ H3 s3) (hfp : ∀ b ∈ fp, FpOk X pins H3 b ∧ b < s3.heap.objs.size)
    (hns : h1.Ns s3.heap.objs.size fun _ => none) (old : ∀ b o, s3.heap.get? b = some o → h1.get? b = some o) :
    Inv (cxComp X (nmsL xs ts) scope cl s3.heap.objs.size s3 H3 fp) [] (List.replicate xs.length none ++ taken σ (sltOf ts)) H3 { s3 with heap := h1, toks := tk } := by
  refine ⟨compL_ok O I3 hfp, rfl, I3.bare, Un.kept old, ⟨_, hns, fun i y v e1 e2 e3 => ?_⟩, fun y c e => ?_, I3.hok.fresh (Nat.le_refl _), fun y c e => I3.freeC y c (O.sub y c e), fun p hp => absurd (show p ∈ ([] : List (Addr × Obj)) from hp) (by simp), I3.hok.kept old, ?_⟩
  · by_cases hi : i < xs.length
    · rw [List.getElem?_append_left (by simpa using hi), List.getElem?_replicate, if_pos hi] at e2
      cases e2
    · have hi' : xs.length ≤ i := Nat.le_of_not_lt hi
      have e1' : (ts.map (·.1))[i - xs.length]? = some y := by
        have : (xs ++ ts.map (·.1))[i]? = some y := e1
        rw [List.getElem?_append_right hi'] at this; exact this
      rw [List.getElem?_append_right (by simpa using hi')] at e2
      rw [List.length_replicate] at e2
      obtain ⟨j, hj, hN, hk, hcl, hk2⟩ := O.from' _ y e1'
      have e2' : σ[j]? = some (some v) := by
        have q := e2
        unfold taken at q
        rw [List.getElem?_map, hj] at q
        have q' : (σ[j]?).getD none = some v := Option.some.inj q
        cases z : σ[j]? with
        | none => rw [z] at q'; cases q'
        | some w => rw [z] at q'; rw [show w = some v from q']
      obtain ⟨m, hn, hl⟩ := I3.loc
      have vis : Vis X.env.scope y := hk.elim (fun z => .inr (.inl z)) fun z => .inr (.inr z)
      obtain ⟨u, r, l⟩ := hl j y v hN e2' vis
      obtain ⟨c, hc⟩ := Option.isSome_iff_exists.mp hcl
      refine ⟨u, r, .inr ⟨hk2, c, hc, ?_⟩⟩
      rcases l with ⟨k, _⟩ | ⟨_, c', hc', z⟩
      · rcases hk with hk | hk
        · rw [k] at hk; cases hk
        · rw [k] at hk; cases hk
      · rw [O.sub y c hc] at hc'
        cases hc'
        obtain ⟨o, ho, hd⟩ := z
        exact ⟨o, old c o ho, hd⟩
  · obtain ⟨v, o, ho, hd⟩ := I3.cell y c (O.sub y c e)
    exact ⟨v, o, old c o ho, hd⟩
  · show (List.replicate xs.length none ++ taken σ (sltOf ts)).length = (nmsL xs ts).length
    simp [taken]
theorem compG_run {use : Option (Value → Sem Unit)} {QV : Value → Shared → Prop} {cpos : Pos} {pins : List (Addr × Obj)} {s : Shared} {σ : St} {H : Hp} {Q : VK} (hc : X.calm = true) (O : CompOkL X xs ts scope cl) (hi : PI X tg iter wi) (hg : ∀ C s3 H3 fp, PG (cxComp X (nmsL xs ts) scope cl C s3 H3 fp) tg g)
    (ht : ∀ C s3 H3 fp, PIf (cxComp X (nmsL xs ts) scope cl C s3 H3 fp) ifs tt) (he : ∀ C s3 H3 fp, PE (cxComp X (nmsL xs ts) scope cl C s3 H3 fp) elt te)
    (hs : ∀ x, foldedSetIterable iter X.env x = pure x) (I : Inv X pins σ H s) (h : tCompG wi g tt xs.length (sltOf ts) te σ H Q)
    (fin : ∀ (D C : Addr) (s6 : Shared) (H5 : Hp), Inv X pins σ H5 s6 → FpOk X pins H5 C → (∃ m, s6.heap.Ns C m) → Q (.ref D) H5 → compPost (model X.prog X.w) X.A X.xe use QV (.ref D) C (.ok .next) s6) :
    wpAny (model X.prog X.w) X.A (comprehension (.ListComp elt [⟨tg, iter, ifs, 0⟩] scope pos) scope X.env cpos (newList []) false (eval iter X.env) use) QV X.xe s := by
  refine wpAny_comprehension_free (use := use) rfl hs O.clos O.kind O.locs' (thn (hi pins s σ H _ I h) fun v s1 h1 => thn h1 fun itv s2 h2 => ?_)
  obtain ⟨it, fp, tn, J, H2, rfl, I2, T, st2, f2, q⟩ := h2
  have hD : H2 s2.heap.objs.size = none := I2.hok.fresh (Nat.le_refl _)
  obtain ⟨W, ⟨m0, w0⟩, turn⟩ := q s2.heap.objs.size hD
  refine wpAny_newObj_type ?_
  have I3 : Inv X pins σ (upd H2 s2.heap.objs.size (.lst [])) { s2 with heap := s2.heap.push { cls := .type "list", dict := none, data := .seq ([] : List Value).toArray } } :=
    I2.laid (a := s2.heap.objs.size) (o := .lst []) (t' := s2.toks) (fun b u e => Heap.get?_push_of_some _ e) (Nat.le_refl _) ⟨Nat.zero_le _, [], 0, .nil, Heap.get?_push_size _ rfl⟩
  generalize hs3 : ({ s2 with heap := s2.heap.push { cls := .type "list", dict := none, data := .seq ([] : List Value).toArray } } : Shared) = s3 at I3
  have sz3 : s3.heap.objs.size = s2.heap.objs.size + 1 := by rw [← hs3, Heap.size_push]
  have old3 : ∀ b u, s2.heap.get? b = some u → s3.heap.get? b = some u := fun b u e => by rw [← hs3]; exact Heap.get?_push_of_some _ e
  generalize hH3 : upd H2 s2.heap.objs.size (.lst []) = H3 at I3 w0
  have fp2 : ∀ b ∈ fp, b < s2.heap.objs.size := fun b hb => by
    obtain ⟨o, e, _⟩ := T.obj _ _ st2 b hb
    exact Heap.lt_size e
  have hfp : ∀ b ∈ fp, FpOk X pins H3 b ∧ b < s3.heap.objs.size := fun b hb => by
    refine ⟨⟨?_, (f2 b hb).2⟩, by rw [sz3]; exact Nat.lt_succ_of_lt (fp2 b hb)⟩
    rw [← hH3, upd_ne (Nat.ne_of_lt (fp2 b hb))]
    exact (f2 b hb).1
  refine wpAny_newFunctionEnv O.nocell' (by intro y hy; simp at hy) (fun h₁ hns₁ hsb₁ => ?_) O.kind
  have old : ∀ b o, s3.heap.get? b = some o → h₁.get? b = some o := fun b o e => hsb₁.extBut b o (Nat.ne_of_lt (Heap.lt_size e)) (Heap.get?_push_of_some _ e)
  have start : Inv (cxComp X (nmsL xs ts) scope cl s3.heap.objs.size s3 H3 fp) [] (List.replicate xs.length none ++ taken σ (sltOf ts)) H3 { s3 with heap := h₁, toks := s3.toks + 0 } := compL_start O I3 hfp hns₁ old
  have st4 : tn 0 h₁ := T.keep _ _ _ st2 fun b hb o e => old b o (old3 b o e)
  have okX : ∀ {H' : Hp}, (∀ b ∈ fp, H' b = none) → ∀ b ∈ fp, FpOk (cxComp X (nmsL xs ts) scope cl s3.heap.objs.size s3 H3 fp) [] H' b := fun hn b hb => by
    refine ⟨hn b hb, Nat.ne_of_lt (hfp b hb).2, fun z => ?_, .inl hb, fun y c e => (f2 b hb).2.2.2.2.1 y c (O.sub y c e), fun p hp => absurd (show p ∈ ([] : List (Addr × Obj)) from hp) (by simp)⟩
    rcases List.mem_cons.mp (I3.stkSub b z) with e | e
    · exact (f2 b hb).2.1 e
    · exact (f2 b hb).2.2.1 e
  have loop : ∀ s₄ : Shared, s₄ = { s3 with heap := h₁, toks := s3.toks + 0 } →
      codeAny (model X.prog X.w) X.A (.compLoop (.ListComp elt [⟨tg, iter, ifs, 0⟩] scope pos) 0 (.ref it) (.ref s2.heap.objs.size) (compEnvC scope cl s3.heap.objs.size X.env))
        (compPost (model X.prog X.w) X.A X.xe use QV (.ref s2.heap.objs.size) s3.heap.objs.size) s₄ := by
    rintro s₄ rfl
    refine compLoop_ifs (fun n s' => ∃ i ys σ0 H', σ0.length = xs.length ∧ Inv (cxComp X (nmsL xs ts) scope cl s3.heap.objs.size s3 H3 fp) [] (σ0 ++ taken σ (sltOf ts)) H' s' ∧ tn i s'.heap ∧ (∀ b ∈ fp, H' b = none) ∧ W i n ys H') ?_ m0
      ⟨0, [], _, H3, by simp, start, st4, fun b hb => (hfp b hb).1.1, w0⟩
    rintro n s5 ⟨i, ys, σ0, H5, l0, I5, st5, fr5, w5⟩
    rcases turn i n ys H5 w5 with ⟨stop, qn⟩ | ⟨go, step⟩
    · refine thn (T.done (cxComp X (nmsL xs ts) scope cl s3.heap.objs.size s3 H3 fp) rfl rfl rfl hc i [] s5 (σ0 ++ taken σ (sltOf ts)) H5 _ I5 (okX fr5) st5 stop) fun r s6 ⟨hr, I6⟩ => ?_
      subst hr
      obtain ⟨m, hn, _⟩ := id I6.loc
      have u6 : Un (frs X.stack) fp H3 H5 s3.heap s6.heap := I6.base
      have fC : H5 s3.heap.objs.size = none := I6.free
      exact fin s2.heap.objs.size s3.heap.objs.size s6 H5 (I3.call' (s' := s6) (ch := fp) I6.os u6 I6.hok I6.bare (fun b hb => ⟨(f2 b hb).2.2.2.1, (f2 b hb).2.1, (f2 b hb).2.2.2.2.1, (f2 b hb).2.2.2.2.2⟩))
        (I3.fpOk (Nat.le_refl _) fC) ⟨m, hn⟩ qn
    · refine thn (T.item (cxComp X (nmsL xs ts) scope cl s3.heap.objs.size s3 H3 fp) rfl rfl rfl hc i [] s5 (σ0 ++ taken σ (sltOf ts)) H5 _ I5 (okX fr5) st5 go) fun r s6 ⟨u, hr, h6⟩ => ?_
      subst hr
      refine thn h6 fun _ s7 ⟨z, H7, I7, rz, yz, st7, fr7⟩ => ?_
      have I7' := I7.pinned (okX fr7) (T.obj _ _ st7)
      refine thn (hg s3.heap.objs.size s3 H3 fp _ s7 _ H7 z u _ I7' rz (step z H7 σ0 yz l0)) fun _ s8 ⟨σ8, H8, I8, ⟨σ1, l1, e8⟩, q8⟩ => ?_
      subst e8
      refine thn (ht s3.heap.objs.size s3 H3 fp _ s8 _ H8 _ I8 q8) fun b s9 ⟨H9, I9, q9⟩ => ?_
      cases b with
      | true =>
        rw [if_pos rfl] at q9 ⊢
        refine thn (he s3.heap.objs.size s3 H3 fp _ s9 _ H9 _ I9 q9) fun y s10 ⟨vy, H10, I10, ry, hD9, hl9, m', hm', w9⟩ => ?_
        refine thn (mt_append (X := cxComp X (nmsL xs ts) scope cl s3.heap.objs.size s3 H3 fp) _ s10 _ H10 (.ref s2.heap.objs.size) [vy] (.ref s2.heap.objs.size) [y] (fun _ H11 => H11 = upd H10 s2.heap.objs.size (.lst (ys ++ [vy]))) I10 rfl (.cons ry .nil) ⟨_, ys, vy, rfl, rfl, hD9, hl9, rfl⟩) fun _ s11 ⟨_, H11, I11, _, e11⟩ => ?_
        subst e11
        refine ⟨m', hm', i + 1, ys ++ [vy], σ1, _, l1, I11.unpinned, T.keep _ _ _ st7 fun b hb o e => (I11.pin (b, o) (List.mem_append_right _ (List.mem_append_right _ (mem_pinsAt hb e)))).1, fun b hb => ?_, w9⟩
        obtain ⟨o, e, d⟩ := T.obj _ _ st7 b hb
        exact (I11.pin (b, o) (List.mem_append_right _ (List.mem_append_right _ (mem_pinsAt hb e)))).2.1
      | false =>
        rw [if_neg Bool.false_ne_true] at q9 ⊢
        obtain ⟨m', hm', w9⟩ := q9
        refine ⟨m', hm', i + 1, ys, σ1, _, l1, I9.unpinned, T.keep _ _ _ st7 fun b hb o e => (I9.pin (b, o) (List.mem_append_right _ (List.mem_append_right _ (mem_pinsAt hb e)))).1, fun b hb => ?_, w9⟩
        obtain ⟨o, e, d⟩ := T.obj _ _ st7 b hb
        exact (I9.pin (b, o) (List.mem_append_right _ (List.mem_append_right _ (mem_pinsAt hb e)))).2.1
  have hst := codeAny_compStart_list (loop _ rfl) (T.self X.A 0 _ _ _ st4 (loop _ rfl))
  exact hst
theorem pe_compG (hc : X.calm = true) (O : CompOkL X xs ts scope cl) (hi : PI X tg iter wi) (hg : ∀ C s3 H3 fp, PG (cxComp X (nmsL xs ts) scope cl C s3 H3 fp) tg g)
    (ht : ∀ C s3 H3 fp, PIf (cxComp X (nmsL xs ts) scope cl C s3 H3 fp) ifs tt) (he : ∀ C s3 H3 fp, PE (cxComp X (nmsL xs ts) scope cl C s3 H3 fp) elt te)
    (hs : ∀ x, foldedSetIterable iter X.env x = pure x := by intro _; rfl) : PE X (.ListComp elt [⟨tg, iter, ifs, 0⟩] scope pos) (tCompG wi g tt xs.length (sltOf ts) te) := by
  intro pins s σ H Q I h
  rw [eval_ListComp]
  refine compG_run (use := none) hc O hi hg ht he hs I h fun D C s6 H5 I6 fC ⟨m, hn⟩ q => ?_
  refine ⟨m, hn, fun h' sb => ⟨.ref D, H5, ?_, rfl, q⟩⟩
  exact I6.turned (it := C) (t' := s6.toks) (fun b o hb e => (sb.2 b hb).trans e) fC.1 fC.2.1 fC.2.2.2.1 fC.2.2.2.2.1 fC.2.2.2.2.2
theorem ps_setC {i : Nat} {x : Str} {pos' sp : Pos} (hN : X.N.Nodup) (hix : X.N[i]? = some x) (hx : Loc X.env.scope x) (hc : X.calm = true) (O : CompOkL X xs ts scope cl) (hi : PI X tg iter wi) (hg : ∀ C s3 H3 fp, PG (cxComp X (nmsL xs ts) scope cl C s3 H3 fp) tg g)
    (ht : ∀ C s3 H3 fp, PIf (cxComp X (nmsL xs ts) scope cl C s3 H3 fp) ifs tt) (he : ∀ C s3 H3 fp, PE (cxComp X (nmsL xs ts) scope cl C s3 H3 fp) elt te)
    (hs : ∀ x, foldedSetIterable iter X.env x = pure x := by intro _; rfl) (hw : swapsWith (.ListComp elt [⟨tg, iter, ifs, 0⟩] scope pos) (some (.Name x pos')) sp.line X.env = pure true := by rfl)
    (hf : X.fn x = true ∨ X.env.scope.names.lookup x = some .local := by first | exact .inl rfl | exact .inr rfl | assumption) :
    PS X (.Assign [.Name x pos'] (.ListComp elt [⟨tg, iter, ifs, 0⟩] scope pos) sp) (tAsg (tCompG wi g tt xs.length (sltOf ts) te) (gName i)) := by
  intro pins s σ H D I h
  rw [exec_Assign_Name_used x pos' _ sp hw]
  refine wpAny_bind (wpAny_standAt (wpAny_bind ?_))
  show wpAny _ _ ((comprehension _ scope X.env _ (newList []) _ _ (some _)) >>= fun _ => pure ()) _ _ s
  refine wpAny_bind (compG_run (use := some (assign (.Name x pos') X.env)) hc O hi hg ht he hs I h fun A C s6 H5 I6 fC ⟨m, hn⟩ q => ?_)
  obtain ⟨o, es, ep, ho, r⟩ := id hn
  have onlyC : ∀ b : Addr, b ∈ [C] → b = C := fun b hb => by simpa using hb
  have I6' := I6.pinned (fp := [C]) (fun b hb => onlyC b hb ▸ fC) (fun b hb => by
    rw [onlyC b hb]
    exact ⟨o, ho, fun v z => by rw [r.1] at z; cases z⟩)
  refine wpAny_assign_Name (store_ok I6' hN hix hx (v := .ref A) rfl (fun s7 I7 => ?_) hf)
  have e7 : s7.heap.get? C = some o := (I7.pin (C, o) (List.mem_append_right _ (List.mem_append_right _ (mem_pinsAt (by simp) ho)))).1
  refine ⟨m, ⟨o, es, ep, e7, r⟩, fun h' sb => wpAny_pure (wpAny_pure ⟨_, H5, ?_, q⟩)⟩
  exact I7.unpinned.turned (it := C) (t' := s7.toks) (fun b o hb e => (sb.2 b hb).trans e) fC.1 fC.2.1 fC.2.2.2.1 fC.2.2.2.2.1 fC.2.2.2.2.2
end
theorem pg_tupC {X : Cx} {N' : List Str} {scope : Scope} {cl : List (Str × Addr)} {C : Addr} {s3 : Shared} {H3 : Hp} {fp : List Addr} {pos : Pos} {es : List Expr} {k : Nat} {t : TGs} {n : Nat} (hc : X.calm = true) (h : PGs (cxComp X N' scope cl C s3 H3 fp) es t)
    (hn : (assignEach es (cxComp X N' scope cl C s3 H3 fp).env).length = n := by rfl) (hst : (assignEach es (cxComp X N' scope cl C s3 H3 fp).env).findIdx? (·.1) = none := by rfl) : PG (cxComp X N' scope cl C s3 H3 fp) (.Tuple es k pos) (gTup X.K n t) := pg_tup hc h hn hst
theorem sub0 {cs : List (Str × Addr)} : ∀ (y : Str) (c : Addr), List.lookup y ([] : List (Str × Addr)) = some c → cs.lookup y = some c := fun _ _ h => by cases h
end L2
set_option maxHeartbeats 4000000
namespace L2
open PySem PySem.Spec PyProof.Rows
section
variable {X : Cx}
end
end L2
set_option maxHeartbeats 4000000
namespace L2
open PySem PySem.Spec PyProof.Rows
section
variable {X : Cx}
noncomputable def Smk (i : Int) : Prop := i.natAbs < 2 ^ 8900
theorem Smk.bits {i : Int} (h : Smk i) : Builtin.Int.intBits i ≤ 8900 := intBits_le_iff.mpr h
theorem mulOk_smk {i j : Int} (hi : Smk i) (hj : Smk j) : IntMulOk i j := by
  have h1 := hi.bits
  have h2 := hj.bits
  unfold IntMulOk Builtin.Int.intTooBig
  intro h
  have h4 := of_decide_eq_true (Bool.and_eq_true_iff.mp h).2
  rw [bitsLine_eq] at h4
  omega
theorem op_mulK : OpR X (binaryOp .Mult) (rI (fun i j => Smk i ∧ Smk j) fun i j => .int (i * j)) := opI fun _ _ _ _ _ _ _ hc q => mul_int q (mulOk_smk hc.1 hc.2)
end
section
variable {X : Cx} {N' : List Str} {scope : Scope} {cl : List (Str × Addr)} {C : Addr} {s3 : Shared} {H3 : Hp} {fp : List Addr}
end
theorem Rd.same {H H' : Hp} {a : Addr} {u : HO} (e : Same H H') (h : Rd H a u) : Rd H' a u := by
  rcases h with h | ⟨o, h⟩
  · exact .inl (e a _ h)
  · exact .inr ⟨o, e a _ h⟩
theorem Same.tup {K : PySem.W.Frag} {H H' : Hp} {a : Addr} {xs : List V} (e : Same H H') (h : SqT K H a xs) : SqT K H' a xs := by
  rcases h with h | h
  · exact .inl (h.same e)
  · exact .inr h
theorem same_upd {H1 H2 : Hp} {D : Addr} {o : HO} (h : Same H1 H2) (hD : H1 D = none) : Same H1 (upd H2 D o) := fun b u e => by
  rw [upd_ne (ne_of_none e hD)]; exact h b u e
end L2
set_option maxHeartbeats 4000000
namespace L2
open PySem PySem.Spec PyProof.Rows
mutual
noncomputable def cmpTh : Th → Th → Bool
  | .int _, .int _ => true
  | .str _, .str _ => true
  | .non, .non => true
  | .tup ts, .tup us => cmpThs ts us
  | .lst ts, .lst us => cmpThs ts us && ts.length == us.length
  | _, _ => false
noncomputable def cmpThs : List Th → List Th → Bool
  | t :: ts, u :: us => cmpTh t u && cmpThs ts us
  | _, _ => true
end
theorem cmp_int {i : Int} {u : Th} (c : cmpTh (.int i) u = true) : ∃ j, u = .int j := by cases u <;> first | exact ⟨_, rfl⟩ | cases c
theorem cmp_str {i : Str} {u : Th} (c : cmpTh (.str i) u = true) : ∃ j, u = .str j := by cases u <;> first | exact ⟨_, rfl⟩ | cases c
theorem cmp_non {u : Th} (c : cmpTh .non u = true) : u = .non := by cases u <;> first | rfl | cases c
theorem cmp_tup {i : List Th} {u : Th} (c : cmpTh (.tup i) u = true) : ∃ j, u = .tup j := by cases u <;> first | exact ⟨_, rfl⟩ | cases c
theorem cmp_lst {i : List Th} {u : Th} (c : cmpTh (.lst i) u = true) : ∃ j, u = .lst j := by cases u <;> first | exact ⟨_, rfl⟩ | cases c
theorem cmp_bl {b : Bool} {u : Th} (c : cmpTh (.bl b) u = true) : False := by cases u <;> cases c
theorem cmp_emp {u : Th} (c : cmpTh .emp u = true) : False := by cases u <;> cases c
theorem cmp_dic {u : Th} (c : cmpTh .dic u = true) : False := by cases u <;> cases c
mutual
theorem Den.inj {H : Hp} : ∀ {t u : Th} {v : V}, cmpTh t u = true → Den H t v → Den H u v → t = u
  | .bl _, u, v, c, d1, d2 => (cmp_bl c).elim
  | .emp, u, v, c, d1, d2 => (cmp_emp c).elim
  | .dic, u, v, c, d1, d2 => (cmp_dic c).elim
  | .int i, u, v, c, d1, d2 => by
    obtain ⟨j, rfl⟩ := cmp_int c
    cases (show v = V.int i from d1); cases (show V.int i = V.int j from d2); rfl
  | .str i, u, v, c, d1, d2 => by
    obtain ⟨j, rfl⟩ := cmp_str c
    cases (show v = V.str i from d1); cases (show V.str i = V.str j from d2); rfl
  | .non, u, v, c, d1, d2 => (cmp_non c).symm
  | .tup ts, u, v, c, d1, d2 => by
    obtain ⟨us, rfl⟩ := cmp_tup c
    obtain ⟨a1, xs, rfl, h1, e1⟩ := d1
    obtain ⟨a2, ys, e0, h2, e2⟩ := d2
    cases e0
    rw [h1] at h2
    cases h2
    rw [cmpTh] at c
    rw [Dens.inj c e1 e2]
  | .lst ts, u, v, c, d1, d2 => by
    obtain ⟨us, rfl⟩ := cmp_lst c
    obtain ⟨a1, xs, rfl, h1, e1⟩ := d1
    obtain ⟨a2, ys, e0, h2, e2⟩ := d2
    cases e0
    rw [h1] at h2
    cases h2
    rw [cmpTh, Bool.and_eq_true] at c
    rw [Dens.inj c.1 e1 e2]
theorem Dens.inj {H : Hp} : ∀ {ts us : List Th} {xs : List V}, cmpThs ts us = true → Dens H ts xs → Dens H us xs → ts = us
  | [], [], _, _, _, _ => rfl
  | [], u :: us, xs, _, d1, d2 => by
    have e1 := d1.len
    have e2 := d2.len
    simp at e1 e2
    rw [e1] at e2
    simp at e2
  | t :: ts, [], xs, _, d1, d2 => by
    have e1 := d1.len
    have e2 := d2.len
    simp at e1 e2
    rw [e2] at e1
    simp at e1
  | t :: ts, u :: us, xs, c, d1, d2 => by
    obtain ⟨x, r, rfl, p1, q1⟩ := d1
    obtain ⟨x', r', e, p2, q2⟩ := d2
    cases e
    rw [cmpThs, Bool.and_eq_true] at c
    rw [Den.inj c.1 p1 p2, Dens.inj c.2 q1 q2]
end
section
variable {X : Cx}
end
theorem subL {cs : List (Str × Addr)} : ∀ {l : List (Str × Addr)}, (∀ p ∈ l, cs.lookup p.1 = some p.2) → ∀ (y : Str) (c : Addr), l.lookup y = some c → cs.lookup y = some c
  | [], _, y, c, h => by cases h
  | p :: l, k, y, c, h => by
    rw [List.lookup_cons] at h
    by_cases e : (y == p.1) = true
    · rw [e] at h
      have h' : p.2 = c := Option.some.inj h
      have ey : y = p.1 := beq_iff_eq.mp e
      rw [ey, ← h']
      exact k p (List.mem_cons_self ..)
    · have e' : (y == p.1) = false := Bool.eq_false_iff.mpr e
      rw [e'] at h
      exact subL (fun q hq => k q (List.mem_cons_of_mem _ hq)) y c h
theorem sub2 {cs : List (Str × Addr)} {x1 x2 : Str} {c1 c2 : Addr} (h1 : cs.lookup x1 = some c1) (h2 : cs.lookup x2 = some c2) : ∀ (y : Str) (c : Addr), List.lookup y [(x1, c1), (x2, c2)] = some c → cs.lookup y = some c :=
  subL fun p hp => by
    simp only [List.mem_cons, List.not_mem_nil, or_false] at hp
    rcases hp with rfl | rfl <;> assumption
theorem comp_rangeR {lo : Int} {n : Nat} {te : TE} {st : St} {H1 : Hp} {Q : VK} {D : Addr} (R : Nat → List V → Hp → Prop) (hD : H1 D = none) (hn : n ≤ sizeLine) (h0 : R 0 [] (upd H1 D (.lst [])))
    (hs : ∀ (i : Nat) (ys : List V) (H2 : Hp) (k : VK), i < n → Same H1 H2 → H2 D = some (.lst ys) → R i ys H2 → (∀ y H4, Same H2 H4 → R (i + 1) (ys ++ [y]) (upd H4 D (.lst (ys ++ [y]))) → k y H4) → te (some (.int (lo + i)) :: st) H2 k)
    (hd : ∀ ys H2, Same H1 H2 → H2 D = some (.lst ys) → ys.length = n → R n ys H2 → Q (.ref D) H2) : CompGo (Itr lo n) te st D H1 Q := by
  refine ⟨fun i m ys H2 => m = n - i ∧ i ≤ n ∧ ys.length = i ∧ Same H1 H2 ∧ H2 D = some (.lst ys) ∧ R i ys H2, ⟨n, by simp, Nat.zero_le _, rfl, same_upd (Same.refl H1) hD, upd_same, h0⟩, ?_⟩
  rintro i m ys H2 ⟨rfl, hi, hl, sm, e, r⟩
  by_cases hlt : i < n
  · refine .inr ⟨hlt, ?_⟩
    rintro x H3 ⟨rfl, rfl⟩
    refine hs i ys _ _ hlt sm e r fun y H4 s4 r4 => ⟨s4 _ _ e, by omega, n - (i + 1), by omega, rfl, hlt, by simp [hl], same_upd (sm.trans s4) hD, upd_same, r4⟩
  · have ei : i = n := by omega
    subst ei
    exact .inl ⟨Nat.le_refl _, hd ys H2 sm e hl r⟩
end L2
set_option maxHeartbeats 4000000
namespace L2
open PySem PySem.Spec PyProof.Rows
end L2
set_option maxHeartbeats 4000000
namespace L2
open PySem PySem.Spec PyProof.Rows
section
variable {prog : Program} {w : World} {A : Around} {E : Value → Shared → Prop} {s : Shared}
theorem tnext_item {j tu : Addr} {i : Nat} {its : Array Value} {v : Value} {Q : Value → Shared → Prop} (hj : s.heap.IsTupleIter j tu i) (ht : s.heap.IsTuple tu its) (hv : its[i]? = some v)
    (k : ∀ g, g.IsTupleIter j tu (i + 1) → Heap.SameBut j s.heap g → Q v { s with heap := g }) : wpAny (model prog w) A (Builtin.SmallTypes.nextOf (.ref j)) Q E s := by
  obtain ⟨oj, ej, cj, dj⟩ := id hj
  obtain ⟨ot, et, _, nt, dt⟩ := ht
  unfold Builtin.SmallTypes.nextOf
  refine (wpAny_bind (wpAny_callSpecial?_slot (name := Str.ofString "__next__") hj.typeIs F.slot_tuple_iterator_next (wpAny_call_entry F.slot_tuple_iterator_next hj.typeIs F.entry_tuple_iterator_next ?_ (F.args_tuple_iterator_next_1 _))))
  show wpAny _ _ (field (.ref j) 0 >>= _) _ _ s
  refine (wpAny_bind (wpAny_field ej dj (x := .ref tu) rfl ?_))
  show wpAny _ _ (if (Value.ref tu == Value.none) = true then _ else _) _ _ s
  rw [if_neg (show ¬ ((Value.ref tu == Value.none) = true) from Bool.false_ne_true)]
  show wpAny _ _ (field (.ref j) 1 >>= _) _ _ s
  refine (wpAny_bind (wpAny_field ej dj (x := .int i 0) rfl ?_))
  show wpAny _ _ (seqItems? (.ref tu) >>= _) _ _ s
  refine (wpAny_bind (wpAny_seqItems et dt ?_))
  simp only [Int.toNat_natCast, hv]
  refine (wpAny_bind (wpAny_setField ej dj (by simp) (wpAny_pure ⟨v, rfl, wpAny_pure (k _ ?_ (Heap.SameBut.update ..))⟩)))
  refine ⟨_, Heap.get?_update_self _ ej (Obj.isFreed_of_fields (Obj.data_mapFields dj _)), (Obj.cls_mapFields ..).trans cj, ?_⟩
  rw [Obj.data_mapFields dj]
  simp [rawInt]
theorem tnext_end {j tu : Addr} {i : Nat} {its : Array Value} {Q : Value → Shared → Prop} (hh : A.handled = none) (hj : s.heap.IsTupleIter j tu i) (ht : s.heap.IsTuple tu its) (hv : its[i]? = none)
    (k : ∀ g e, Heap.ExtBut j s.heap g → (∃ o, g.get? e = some o ∧ o.cls = .type "StopIteration") → E (.ref e) { s with heap := g }) : wpAny (model prog w) A (Builtin.SmallTypes.nextOf (.ref j)) Q E s := by
  obtain ⟨oj, ej, cj, dj⟩ := id hj
  obtain ⟨ot, et, _, nt, dt⟩ := ht
  unfold Builtin.SmallTypes.nextOf
  refine (wpAny_bind (wpAny_callSpecial?_slot (name := Str.ofString "__next__") hj.typeIs F.slot_tuple_iterator_next (wpAny_call_entry F.slot_tuple_iterator_next hj.typeIs F.entry_tuple_iterator_next ?_ (F.args_tuple_iterator_next_1 _))))
  show wpAny _ _ (field (.ref j) 0 >>= _) _ _ s
  refine (wpAny_bind (wpAny_field ej dj (x := .ref tu) rfl ?_))
  show wpAny _ _ (if (Value.ref tu == Value.none) = true then _ else _) _ _ s
  rw [if_neg (show ¬ ((Value.ref tu == Value.none) = true) from Bool.false_ne_true)]
  show wpAny _ _ (field (.ref j) 1 >>= _) _ _ s
  refine (wpAny_bind (wpAny_field ej dj (x := .int i 0) rfl ?_))
  show wpAny _ _ (seqItems? (.ref tu) >>= _) _ _ s
  refine (wpAny_bind (wpAny_seqItems et dt ?_))
  simp only [Int.toNat_natCast, hv]
  refine (wpAny_bind (wpAny_rule (wpAny_bind (wpAny_setField ej dj (by simp) ?_))))
  show wpAny _ _ (newExc (.type "StopIteration") [] >>= _) (_) _ _
  refine (wpAny_bind ?_)
  simp only [newExc, newTuple]
  refine (wpAny_bind (wpAny_newObj_type ?_ (by size_fits)))
  refine (wpAny_bind (m := firstArgMember _ _) (wpAny_of_eq (a := Value.none) (by first | rfl | (simp only [firstArgMember]; rfl)) ?_))
  refine (wpAny_newObj_type ?_ (by size_fits))
  simp only [raiseNew]
  refine (wpAny_bind (wpAny_handled ?_))
  rw [show A.in1.handled = none from hh]
  refine (wpAny_bind (wpAny_pure (wpAny_throw ?_)))
  exact k _ _ (((Heap.SameBut.update ..).extBut.push _).push _) ⟨_, Heap.get?_push_size _ rfl, rfl⟩
theorem zt_next {z TI TO j1 j2 t1 t2 : Addr} {k1 k2 : Nat} {xs ys : Array Value} {u v c d : Value} {Q : Value → Shared → Prop} (ap : ZipApart z TI TO j1 j2 t1 t2) (hz : IsZip s.heap z TI TO .none) (hI : IsPair s.heap TI (.ref j1) (.ref j2)) (hO : IsPair s.heap TO c d)
    (i1 : s.heap.IsTupleIter j1 t1 k1) (i2 : s.heap.IsTupleIter j2 t2 k2) (q1 : s.heap.IsTuple t1 xs) (q2 : s.heap.IsTuple t2 ys) (hu : xs[k1]? = some u) (hv : ys[k2]? = some v)
    (k : ∀ g, IsZip g z TI TO (rawInt s.heap.objs.size) → IsPair g TO u v → g.IsTupleIter j1 t1 (k1 + 1) → g.IsTupleIter j2 t2 (k2 + 1) → IsPair g s.heap.objs.size u v → g.objs.size = s.heap.objs.size + 1 →
      (∀ b o, b ≠ z → b ≠ TO → b ≠ j1 → b ≠ j2 → s.heap.get? b = some o → g.get? b = some o) → Q (.ref s.heap.objs.size) { s with heap := g }) :
    wpAny (model prog w) A (Builtin.«zip.__next__» ⟨[.ref z], []⟩) (fun f s' => ∃ r, f = .done (.ret r) ∧ Q r s') E s := by
  show wpAny _ _ (field (.ref z) 2 >>= _) (_) _ _
  refine (wpAny_bind (wpAny_field hz rfl (x := .bool false) rfl ?_))
  show wpAny _ _ (field (.ref z) 3 >>= _) (_) _ _
  refine (wpAny_bind (wpAny_field hz rfl (x := .ref TI) rfl ?_))
  refine (wpAny_bind (wpAny_seqItems hI rfl ?_))
  show wpAny _ _ (Builtin.SmallTypes.ownedTupleIsFree (.ref z) >>= _) (_) _ _
  refine (wpAny_bind ?_)
  unfold Builtin.SmallTypes.ownedTupleIsFree
  refine (wpAny_bind (wpAny_field hz rfl (x := .none) rfl (wpAny_pure ?_)))
  simp only [if_true]
  refine (wpAny_bind (wpAny_rule ?_))
  refine (wpAny_bind (wpAny_field hz rfl (x := .ref TO) rfl ?_))
  refine (wpAny_bind (wpAny_setField_rec hz (by simp) fun g1 z1 s1 => ?_))
  replace z1 : IsZip g1 z TI TO .ellipsis := z1
  refine (wpAny_bind ?_)
  simp only [List.zipIdx_cons, List.zipIdx_nil, List.forIn_cons, List.forIn_nil, id]
  refine (wpAny_bind (wpAny_bind (wpAny_onRaise ?_)))
  show wpAny _ _ (Builtin.SmallTypes.nextOf (.ref j1) >>= _) (_) _ _
  refine (wpAny_bind (tnext_item (i1.extBut s1.extBut ap.i1z) (q1.extBut s1.extBut ap.l1z) hu fun g2 n1 s2 => wpAny_pure ?_))
  have O2 : IsPair g2 TO c d := s2.extBut _ _ ap.TOi1 (s1.extBut _ _ ap.TOz hO)
  refine (wpAny_bind (wpAny_seqItems O2 rfl ?_))
  refine (wpAny_bind (wpAny_updateSeq_pair O2 fun g3 O3 s3 => ?_))
  replace O3 : IsPair g3 TO u d := O3
  refine (wpAny_bind (wpAny_letGo (wpAny_pure ?_)))
  refine (wpAny_bind (wpAny_bind (wpAny_onRaise ?_)))
  show wpAny _ _ (Builtin.SmallTypes.nextOf (.ref j2) >>= _) (_) _ _
  refine (wpAny_bind (tnext_item (((i2.extBut s1.extBut ap.i2z).extBut s2.extBut ap.i12.symm).extBut s3.extBut ap.TOi2.symm) (((q2.extBut s1.extBut ap.l2z).extBut s2.extBut ap.l2i1).extBut s3.extBut ap.l2TO) hv fun g4 n2 s4 => wpAny_pure ?_))
  have O4 : IsPair g4 TO u d := s4.extBut _ _ ap.TOi2 O3
  refine (wpAny_bind (wpAny_seqItems O4 rfl ?_))
  refine (wpAny_bind (wpAny_updateSeq_pair O4 fun g5 O5 s5 => ?_))
  replace O5 : IsPair g5 TO u v := O5
  refine (wpAny_bind (wpAny_letGo (wpAny_pure (wpAny_pure ?_))))
  refine (wpAny_bind (wpAny_seqItems O5 rfl ?_))
  refine (wpAny_bind (wpAny_newTuple ?_))
  have sz : g5.objs.size = s.heap.objs.size := by rw [s5.1, s4.1, s3.1, s2.1, s1.1]
  have Z5 : IsZip g5 z TI TO .ellipsis := s5.extBut _ _ ap.TOz.symm (s4.extBut _ _ ap.i2z.symm (s3.extBut _ _ ap.TOz.symm (s2.extBut _ _ ap.i1z.symm z1)))
  have K5 : ∀ b o, b ≠ z → b ≠ TO → b ≠ j1 → b ≠ j2 → s.heap.get? b = some o → g5.get? b = some o := fun b o b1 b2 b3 b4 e => s5.extBut _ _ b2 (s4.extBut _ _ b4 (s3.extBut _ _ b2 (s2.extBut _ _ b3 (s1.extBut _ _ b1 e))))
  have I1 : g5.IsTupleIter j1 t1 (k1 + 1) := ((n1.extBut s3.extBut ap.TOi1.symm).extBut s4.extBut ap.i12).extBut s5.extBut ap.TOi1.symm
  have I2 : g5.IsTupleIter j2 t2 (k2 + 1) := n2.extBut s5.extBut ap.TOi2.symm
  have zlt : z < g5.objs.size := Heap.lt_size Z5
  show wpAny _ _ (Builtin.SmallTypes.ownedTupleHandOut (.ref z) (.ref g5.objs.size) >>= _) (_) _ _
  refine (wpAny_bind ?_)
  unfold Builtin.SmallTypes.ownedTupleHandOut
  have Z6 : IsZip (g5.push { cls := .type "tuple", data := .seq #[u, v] }) z TI TO .ellipsis := Heap.get?_push_of_some _ Z5
  refine (wpAny_bind (wpAny_setField_rec Z6 (by simp) fun g7 Z7 s7 => ?_))
  replace Z7 : IsZip g7 z TI TO (rawInt g5.objs.size) := Z7
  refine wpAny_setField_rec Z7 (by simp) fun g8 Z8 s8 => ?_
  replace Z8 : IsZip g8 z TI TO (rawInt g5.objs.size) := Z8
  have up : ∀ b o, b ≠ z → g5.get? b = some o → g8.get? b = some o := fun b o nb e => s8.extBut _ _ nb (s7.extBut _ _ nb (Heap.get?_push_of_some _ e))
  have T8 : IsPair g8 g5.objs.size u v := s8.extBut _ _ (Nat.ne_of_gt zlt) (s7.extBut _ _ (Nat.ne_of_gt zlt) (Heap.get?_push_size _ rfl))
  have N8 : g8.objs.size = g5.objs.size + 1 := by rw [s8.1, s7.1, Heap.size_push]
  rw [sz] at Z8 T8 N8
  refine wpAny_pure ⟨_, rfl, ?_⟩
  show Q (.ref g5.objs.size) _
  rw [sz]
  exact k g8 Z8 (up _ _ ap.TOz O5) (I1.at fun o e => up _ o ap.i1z e) (I2.at fun o e => up _ o ap.i2z e) T8 N8 fun b o b1 b2 b3 b4 e => up b o b1 (K5 b o b1 b2 b3 b4 e)
theorem zt_end {z TI TO j1 j2 t1 t2 : Addr} {k1 k2 : Nat} {xs ys : Array Value} {c d : Value} {Q : Fin → Shared → Prop} (hh : A.handled = none) (ap : ZipApart z TI TO j1 j2 t1 t2) (hz : IsZip s.heap z TI TO .none) (hI : IsPair s.heap TI (.ref j1) (.ref j2)) (hO : IsPair s.heap TO c d)
    (i1 : s.heap.IsTupleIter j1 t1 k1) (i2 : s.heap.IsTupleIter j2 t2 k2) (q1 : s.heap.IsTuple t1 xs) (q2 : s.heap.IsTuple t2 ys) (he : xs[k1]? = none ∨ ys[k2]? = none)
    (k : ∀ g e, (∀ b o, b ≠ z → b ≠ TO → b ≠ j1 → b ≠ j2 → s.heap.get? b = some o → g.get? b = some o) → (∃ o, g.get? e = some o ∧ o.cls = .type "StopIteration") → E (.ref e) { s with heap := g }) :
    wpAny (model prog w) A (Builtin.«zip.__next__» ⟨[.ref z], []⟩) Q E s := by
  show wpAny _ _ (field (.ref z) 2 >>= _) (_) _ _
  refine (wpAny_bind (wpAny_field hz rfl (x := .bool false) rfl ?_))
  show wpAny _ _ (field (.ref z) 3 >>= _) (_) _ _
  refine (wpAny_bind (wpAny_field hz rfl (x := .ref TI) rfl ?_))
  refine (wpAny_bind (wpAny_seqItems hI rfl ?_))
  show wpAny _ _ (Builtin.SmallTypes.ownedTupleIsFree (.ref z) >>= _) (_) _ _
  refine (wpAny_bind ?_)
  unfold Builtin.SmallTypes.ownedTupleIsFree
  refine (wpAny_bind (wpAny_field hz rfl (x := .none) rfl (wpAny_pure ?_)))
  simp only [if_true]
  refine (wpAny_bind (wpAny_rule ?_))
  refine (wpAny_bind (wpAny_field hz rfl (x := .ref TO) rfl ?_))
  refine (wpAny_bind (wpAny_setField_rec hz (by simp) fun g1 z1 s1 => ?_))
  replace z1 : IsZip g1 z TI TO .ellipsis := z1
  refine (wpAny_bind ?_)
  simp only [List.zipIdx_cons, List.zipIdx_nil, List.forIn_cons, List.forIn_nil, id]
  refine (wpAny_bind (wpAny_bind (wpAny_onRaise ?_)))
  show wpAny _ _ (Builtin.SmallTypes.nextOf (.ref j1) >>= _) (_) _ _
  cases hu : xs[k1]? with
  | none =>
    refine (wpAny_bind (tnext_end hh (i1.extBut s1.extBut ap.i1z) (q1.extBut s1.extBut ap.l1z) hu fun g2 e s2 he => ?_))
    obtain ⟨oe, ho, hc⟩ := he
    have Z2 : IsZip g2 z TI TO .ellipsis := s2 _ _ ap.i1z.symm z1
    have nz : e ≠ z := fun x => by
      subst x
      rw [Z2] at ho
      cases ho
      simp at hc
    refine wpAny_setField_rec Z2 (by simp) fun g3 _ s3 => k g3 e (fun b o b1 _ b3 _ x => s3.extBut _ _ b1 (s2 _ _ b3 (s1.extBut _ _ b1 x))) ⟨oe, s3.extBut _ _ nz ho, hc⟩
  | some u =>
    have hv : ys[k2]? = none := by
      rcases he with q | q
      · rw [hu] at q; cases q
      · exact q
    refine (wpAny_bind (tnext_item (i1.extBut s1.extBut ap.i1z) (q1.extBut s1.extBut ap.l1z) hu fun g2 n1 s2 => wpAny_pure ?_))
    have O2 : IsPair g2 TO c d := s2.extBut _ _ ap.TOi1 (s1.extBut _ _ ap.TOz hO)
    refine (wpAny_bind (wpAny_seqItems O2 rfl ?_))
    refine (wpAny_bind (wpAny_updateSeq_pair O2 fun g3 O3 s3 => ?_))
    refine (wpAny_bind (wpAny_letGo (wpAny_pure ?_)))
    refine (wpAny_bind (wpAny_bind (wpAny_onRaise ?_)))
    show wpAny _ _ (Builtin.SmallTypes.nextOf (.ref j2) >>= _) (_) _ _
    refine (wpAny_bind (tnext_end hh (((i2.extBut s1.extBut ap.i2z).extBut s2.extBut ap.i12.symm).extBut s3.extBut ap.TOi2.symm) (((q2.extBut s1.extBut ap.l2z).extBut s2.extBut ap.l2i1).extBut s3.extBut ap.l2TO) hv fun g4 e s4 he => ?_))
    obtain ⟨oe, ho, hc⟩ := he
    have Z4 : IsZip g4 z TI TO .ellipsis := s4 _ _ ap.i2z.symm (s3.extBut _ _ ap.TOz.symm (s2.extBut _ _ ap.i1z.symm z1))
    have nz : e ≠ z := fun x => by
      subst x
      rw [Z4] at ho
      cases ho
      simp at hc
    refine wpAny_setField_rec Z4 (by simp) fun g5 _ s5 => k g5 e (fun b o b1 b2 b3 b4 x => s5.extBut _ _ b1 (s4 _ _ b4 (s3.extBut _ _ b2 (s2.extBut _ _ b3 (s1.extBut _ _ b1 x))))) ⟨oe, s5.extBut _ _ nz ho, hc⟩
theorem zt_pyNext {z TI TO j1 j2 t1 t2 : Addr} {k1 k2 : Nat} {xs ys : Array Value} {u v c d : Value} {Q : Option Value → Shared → Prop} (ap : ZipApart z TI TO j1 j2 t1 t2) (hz : IsZip s.heap z TI TO .none) (hI : IsPair s.heap TI (.ref j1) (.ref j2)) (hO : IsPair s.heap TO c d)
    (i1 : s.heap.IsTupleIter j1 t1 k1) (i2 : s.heap.IsTupleIter j2 t2 k2) (q1 : s.heap.IsTuple t1 xs) (q2 : s.heap.IsTuple t2 ys) (hu : xs[k1]? = some u) (hv : ys[k2]? = some v)
    (k : ∀ g, IsZip g z TI TO (rawInt s.heap.objs.size) → IsPair g TO u v → g.IsTupleIter j1 t1 (k1 + 1) → g.IsTupleIter j2 t2 (k2 + 1) → IsPair g s.heap.objs.size u v → g.objs.size = s.heap.objs.size + 1 →
      (∀ b o, b ≠ z → b ≠ TO → b ≠ j1 → b ≠ j2 → s.heap.get? b = some o → g.get? b = some o) → Q (some (.ref s.heap.objs.size)) { s with heap := g }) : wpAny (model prog w) A (pyNext (.ref z)) Q E s := by
  have ty : s.TypeIs (.ref z) "zip" := ⟨_, hz, rfl⟩
  unfold pyNext
  exact wpAny_bind (wpAny_attempt (wpAny_callSpecial?_slot (name := Str.ofString "__next__") ty F.slot_zip_next (wpAny_call_entry F.slot_zip_next ty F.entry_zip_next (zt_next ap hz hI hO i1 i2 q1 q2 hu hv fun g a1 a2 a3 a4 a5 a6 a7 => wpAny_pure (k g a1 a2 a3 a4 a5 a6 a7)) (F.args_zip_next_1 _))))
theorem zt_pyEnd {z TI TO j1 j2 t1 t2 : Addr} {k1 k2 : Nat} {xs ys : Array Value} {c d : Value} {Q : Option Value → Shared → Prop} (hh : A.handled = none) (ap : ZipApart z TI TO j1 j2 t1 t2) (hz : IsZip s.heap z TI TO .none) (hI : IsPair s.heap TI (.ref j1) (.ref j2)) (hO : IsPair s.heap TO c d)
    (i1 : s.heap.IsTupleIter j1 t1 k1) (i2 : s.heap.IsTupleIter j2 t2 k2) (q1 : s.heap.IsTuple t1 xs) (q2 : s.heap.IsTuple t2 ys) (he : xs[k1]? = none ∨ ys[k2]? = none)
    (k : ∀ g, (∀ b o, b ≠ z → b ≠ TO → b ≠ j1 → b ≠ j2 → s.heap.get? b = some o → g.get? b = some o) → Q none { s with heap := g }) : wpAny (model prog w) A (pyNext (.ref z)) Q E s := by
  have ty : s.TypeIs (.ref z) "zip" := ⟨_, hz, rfl⟩
  unfold pyNext
  refine (wpAny_bind (wpAny_attempt (wpAny_callSpecial?_slot (name := Str.ofString "__next__") ty F.slot_zip_next (wpAny_call_entry F.slot_zip_next ty F.entry_zip_next (zt_end hh ap hz hI hO i1 i2 q1 q2 he fun g e hk hs => ?_) (F.args_zip_next_1 _)))))
  obtain ⟨o, ho, hc⟩ := hs
  refine (wpAny_bind (wpAny_isInstance (T := "StopIteration") (b := true) ⟨o, ho, hc⟩ isSubtype_stop ?_))
  exact wpAny_pure (k _ hk)
noncomputable abbrev zt1 (h : Heap) (a : Addr) : Heap := h.push { cls := .type "tuple_iterator", data := .fields #[.ref a, .int 0 0] }
noncomputable abbrev zt2 (h : Heap) (a b : Addr) : Heap := (zt1 h a).push { cls := .type "tuple_iterator", data := .fields #[.ref b, .int 0 0] }
noncomputable abbrev zt3 (h : Heap) (a b : Addr) : Heap := (zt2 h a b).push { cls := .type "tuple", data := .seq #[.ref h.objs.size, .ref (zt1 h a).objs.size] }
noncomputable abbrev zt4 (h : Heap) (a b : Addr) : Heap := (zt3 h a b).push { cls := .type "tuple", data := .seq #[.none, .none] }
noncomputable abbrev zt5 (h : Heap) (a b : Addr) : Heap := (zt4 h a b).push { cls := .type "zip", data := .fields #[.none, .bool false, .bool false, .ref (zt2 h a b).objs.size, .ref (zt3 h a b).objs.size] }
theorem zt_new (a b : Addr) (xs ys : Array Value) :
    Meets (Builtin.«zip.__new__» ⟨[.type "zip", .ref a, .ref b], []⟩) (fun _ R s => s.heap.IsTuple a xs ∧ s.heap.IsTuple b ys ∧ R (.ok (.ret (.ref (zt4 s.heap a b).objs.size))) { s with heap := zt5 s.heap a b }) :=
  .of_wp fun prog w A R s h => by
    obtain ⟨hp, g, dr, tk, os⟩ := s
    obtain ⟨h1, h2, h⟩ := h
    have sub := sub_zip
    have L1 : Heap.IsTuple (Shared.heap ⟨hp, g, dr, tk, os⟩) a xs := h1
    have L2 : Heap.IsTuple (Shared.heap ⟨hp.push { cls := .type "tuple_iterator", data := .fields #[.ref a, .int 0 0] }, g, dr, tk, os⟩) b ys := Heap.IsTuple.push h2 _
    wp_walk using wpAny_pyIter_tuple L1, wpAny_pyIter_tuple L2
    exact ⟨_, rfl, h⟩
theorem zt_call {a b : Addr} {xs ys : Array Value} {Q : Value → Shared → Prop} (h1 : s.heap.IsTuple a xs) (h2 : s.heap.IsTuple b ys)
    (k : ∀ g, IsZip g (s.heap.objs.size + 4) (s.heap.objs.size + 2) (s.heap.objs.size + 3) .none → IsPair g (s.heap.objs.size + 2) (.ref s.heap.objs.size) (.ref (s.heap.objs.size + 1)) → IsPair g (s.heap.objs.size + 3) .none .none →
      g.IsTupleIter s.heap.objs.size a 0 → g.IsTupleIter (s.heap.objs.size + 1) b 0 → (∀ c o, s.heap.get? c = some o → g.get? c = some o) → Q (.ref (s.heap.objs.size + 4)) { s with heap := g }) :
    wpAny (model prog w) A (call (.type "zip") [.ref a, .ref b]) Q E s := by
  refine callType_new F.called_zip (by decide) (F.typeCall_zip_2 _ _) (F.newCall_zip_2 _ _) (fun o => F.args_object_init_3 o _ _) F.entry_zip_new (zt_new a b xs ys) ⟨h1, h2, ?_⟩
  have z1 : (zt1 s.heap a).objs.size = s.heap.objs.size + 1 := Heap.size_push ..
  have z2 : (zt2 s.heap a b).objs.size = s.heap.objs.size + 2 := by rw [Heap.size_push, z1]
  have z3 : (zt3 s.heap a b).objs.size = s.heap.objs.size + 3 := by rw [Heap.size_push, z2]
  have z4 : (zt4 s.heap a b).objs.size = s.heap.objs.size + 4 := by rw [Heap.size_push, z3]
  have g5 : (zt5 s.heap a b).get? (zt4 s.heap a b).objs.size = some _ := Heap.get?_push_size _ rfl
  have g4 : (zt5 s.heap a b).get? (zt3 s.heap a b).objs.size = some _ := Heap.get?_push_of_some _ (Heap.get?_push_size _ rfl)
  have g3 : (zt5 s.heap a b).get? (zt2 s.heap a b).objs.size = some _ := Heap.get?_push_of_some _ (Heap.get?_push_of_some _ (Heap.get?_push_size _ rfl))
  have g2 : (zt5 s.heap a b).get? (zt1 s.heap a).objs.size = some _ := Heap.get?_push_of_some _ (Heap.get?_push_of_some _ (Heap.get?_push_of_some _ (Heap.get?_push_size _ rfl)))
  have g1 : (zt5 s.heap a b).get? s.heap.objs.size = some _ := Heap.get?_push_of_some _ (Heap.get?_push_of_some _ (Heap.get?_push_of_some _ (Heap.get?_push_of_some _ (Heap.get?_push_size _ rfl))))
  show _ ∧ _
  rw [z2, z3, z4] at g5
  rw [z1, z2] at g3
  rw [z3] at g4
  rw [z1] at g2
  rw [z4]
  exact ⟨⟨_, g5, rfl⟩, k _ g5 g3 g4 ⟨_, g1, rfl, rfl⟩ ⟨_, g2, rfl, rfl⟩ fun c o x => Heap.get?_push_of_some _ (Heap.get?_push_of_some _ (Heap.get?_push_of_some _ (Heap.get?_push_of_some _ (Heap.get?_push_of_some _ x))))⟩
end
noncomputable def Itzt (K : PySem.W.Frag) (t1 t2 : Addr) : It :=
  ⟨fun i H => ∃ xs ys x y, SqT K H t1 xs ∧ SqT K H t2 ys ∧ xs[i]? = some x ∧ ys[i]? = some y,
   fun i H v H' => ∃ T x y, H T = none ∧ H' = upd H T (.tup [x, y]) ∧ v = .ref T ∧ (∀ xs, SqT K H t1 xs → xs[i]? = some x) ∧ ∀ ys, SqT K H t2 ys → ys[i]? = some y,
   fun i H => ∃ xs ys, SqT K H t1 xs ∧ SqT K H t2 ys ∧ (xs.length ≤ i ∨ ys.length ≤ i)⟩
noncomputable def ZStT (z TI TO j1 j2 t1 t2 : Addr) (i : Nat) (h : Heap) : Prop :=
  IsZip h z TI TO Value.none ∧ IsPair h TI (.ref j1) (.ref j2) ∧ (∃ a b, IsPair h TO a b) ∧ h.IsTupleIter j1 t1 i ∧ h.IsTupleIter j2 t2 i
theorem isTuple_at {h : Heap} {l : Addr} {items : Array Value} (x : h.IsTuple l items) : ∃ o, h.get? l = some o ∧ o.cls = .type "tuple" := by
  obtain ⟨o, e, c, _⟩ := x
  exact ⟨o, e, c⟩
theorem turn_zipT {P : Program} {w : World} {K : PySem.W.Frag} {es : List Expr} {k0 : Nat} {p0 : Pos} {z TI TO i1 i2 l1 l2 : Addr} (ap : ZipApart z TI TO i1 i2 l1 l2) :
    Turn P w K (.Tuple es k0 p0) (Itzt K l1 l2) [z, TI, TO, i1, i2] z (ZStT z TI TO i1 i2 l1 l2) where
  mem := by simp
  obj := fun i h ⟨a, b, ⟨c1, c2, c⟩, d, e⟩ x hx => by
    simp only [List.mem_cons, List.not_mem_nil, or_false] at hx
    rcases hx with rfl | rfl | rfl | rfl | rfl
    · exact ⟨_, a, fun v q => by cases q⟩
    · exact ⟨_, b, fun v q => by cases q⟩
    · exact ⟨_, c, fun v q => by cases q⟩
    · obtain ⟨o, e1, _, e2⟩ := d
      exact ⟨o, e1, fun v q => by rw [e2] at q; cases q⟩
    · obtain ⟨o, e1, _, e2⟩ := e
      exact ⟨o, e1, fun v q => by rw [e2] at q; cases q⟩
  keep := fun i h h' ⟨a, b, ⟨c1, c2, c⟩, d, e⟩ kk =>
    ⟨kk _ (by simp) _ a, kk _ (by simp) _ b, ⟨c1, c2, kk _ (by simp) _ c⟩, d.at fun o q => kk _ (by simp) o q, e.at fun o q => kk _ (by simp) o q⟩
  item := by
    intro X hP hw hK hc i pins s σ H E I hf st hg
    subst hP hw hK
    obtain ⟨a, b, ⟨c1, c2, c⟩, d, e⟩ := st
    obtain ⟨xs, ys, x, y, q1, q2, x1, y1⟩ := hg
    obtain ⟨its1, rv1, pl1, hz1⟩ := I.tuple q1
    obtain ⟨its2, rv2, pl2, hz2⟩ := I.tuple q2
    obtain ⟨u1, hu1, ru1⟩ := rv1.get x1
    obtain ⟨u2, hu2, ru2⟩ := rv2.get y1
    refine zt_pyNext ap a b c d e (show s.heap.IsTuple l1 its1.toArray from pl1) (show s.heap.IsTuple l2 its2.toArray from pl2) (u := u1) (v := u2) (by simpa using hu1) (by simpa using hu2) fun h' za zb zc zd ze zs zk => ?_
    refine ⟨_, rfl, wpAny_letOwnedTupleGo_zip (s := { s with heap := h' }) za fun h2 za2 sb => ?_⟩
    have kk : ∀ b o, b ∉ [z, TI, TO, i1, i2] → s.heap.get? b = some o → h2.get? b = some o := fun b o hb q => by
      simp only [List.mem_cons, List.not_mem_nil, or_false, not_or] at hb
      exact (sb.2 b hb.1).trans (zk b o hb.1 hb.2.2.1 hb.2.2.2.1 hb.2.2.2.2 q)
    have szn : s.heap.objs.size ≠ z := fun q => by
      obtain ⟨f0, _⟩ := hf z (by simp)
      exact absurd (Heap.lt_size a) (by rw [← q]; exact Nat.lt_irrefl _)
    have hT : h2.get? s.heap.objs.size = some { cls := .type "tuple", data := .seq #[u1, u2] } := (sb.2 _ szn).trans ze
    have fr : H s.heap.objs.size = none := I.hok.fresh (Nat.le_refl _)
    have I2 : Inv X pins σ (upd H s.heap.objs.size (.tup [x, y])) { s with heap := h2 } := I.turnLay (t' := s.toks) (fp := [z, TI, TO, i1, i2]) kk hf (Nat.le_refl _)
      ⟨by show 2 ≤ sizeLine; decide, [u1, u2], .cons ru1 (.cons ru2 .nil), ⟨_, hT, rfl, _, rfl⟩⟩
    have kTI : h2.get? TI = some _ := (sb.2 TI ap.TIz).trans (zk TI _ ap.TIz ap.TITO ap.TIi1 ap.TIi2 b)
    refine ⟨.ref s.heap.objs.size, _, I2, rfl, ⟨_, x, y, fr, rfl, rfl, fun zs hz => by rw [I.tuple_inj hz q1]; exact x1, fun zs hz => by rw [I.tuple_inj hz q2]; exact y1⟩,
      ⟨za2, kTI, ⟨_, _, (sb.2 TO ap.TOz).trans zb⟩, zc.at fun o q => (sb.2 _ ap.i1z).trans q, zd.at fun o q => (sb.2 _ ap.i2z).trans q⟩, fun b hb => ?_⟩
    have h0 := (hf b hb).1
    have hlt : b ≠ s.heap.objs.size := fun q => by
      subst q
      simp only [List.mem_cons, List.not_mem_nil, or_false] at hb
      rcases hb with q | q | q | q | q
      · exact szn q
      · exact absurd (Heap.lt_size b) (by rw [← q]; exact Nat.lt_irrefl _)
      · exact absurd (Heap.lt_size c) (by rw [← q]; exact Nat.lt_irrefl _)
      · obtain ⟨o, e1, _⟩ := d
        exact absurd (Heap.lt_size e1) (by rw [← q]; exact Nat.lt_irrefl _)
      · obtain ⟨o, e1, _⟩ := e
        exact absurd (Heap.lt_size e1) (by rw [← q]; exact Nat.lt_irrefl _)
    rw [upd_ne hlt]
    exact h0
  done := by
    intro X hP hw hK hc i pins s σ H E I hf st hg
    subst hP hw hK
    obtain ⟨a, b, ⟨c1, c2, c⟩, d, e⟩ := st
    obtain ⟨xs, ys, q1, q2, hl⟩ := hg
    obtain ⟨its1, rv1, pl1, hz1⟩ := I.tuple q1
    obtain ⟨its2, rv2, pl2, hz2⟩ := I.tuple q2
    have g1 := rv1.length
    have g2 := rv2.length
    refine zt_pyEnd (I.ok.hd hc) ap a b c d e (show s.heap.IsTuple l1 its1.toArray from pl1) (show s.heap.IsTuple l2 its2.toArray from pl2) ?_ fun h' zk => ⟨rfl, I.turnedL (t' := s.toks) (fp := [z, TI, TO, i1, i2]) (fun b o hb q => ?_) hf⟩
    · rcases hl with q | q
      · left; simp; omega
      · right; simp; omega
    · simp only [List.mem_cons, List.not_mem_nil, or_false, not_or] at hb
      exact zk b o hb.1 hb.2.2.1 hb.2.2.2.1 hb.2.2.2.2 q
  self := fun _ _ _ _ _ st h => wpAny_pyIter_zip st.1 h
noncomputable def iZipT (K : PySem.W.Frag) (ta : TA) : TI := fun σ H R => ta σ H fun vs H1 => ∃ a b, vs = [.ref a, .ref b] ∧ (∃ xs, SqT K H1 a xs) ∧ (∃ ys, SqT K H1 b ys) ∧ R (Itzt K a b) H1
theorem pi_zipT {X : Cx} {es : List Expr} {k0 : Nat} {p0 : Pos} {a b : Expr} {ta : TA} {p pos : Pos} (hg : Gl X "zip") (hm : X.mg "zip" = none) (ha : PA X [a, b] ta) (hs : starEach [a, b] X.env = [(false, eval a X.env), (false, eval b X.env)] := by rfl) (hs2 : starEach [b] X.env = [(false, eval b X.env)] := by rfl) :
    PI X (.Tuple es k0 p0) (.Call (.Name "zip" p) [a, b] [] pos) (iZipT X.K ta) := by
  intro pins s σ H R I h
  refine Call_ (ld_blt I hg hm boot_zip (PyProof.Rows.callWith_type1 (thn (ha pos pins s σ H _ I h) fun us s1 ⟨vs, H1, I1, r1, q1⟩ => ?_) (by rw [hs, hs2]) (by rw [hs2]; rfl)))
  obtain ⟨l1, l2, e, ⟨xs, q1⟩, ⟨ys, q2⟩, q⟩ := q1
  subst e
  cases r1 with
  | cons r rr =>
    cases rr with
    | cons r' rr =>
      cases rr
      cases r
      cases r'
      obtain ⟨its1, rv1, pl1, hz1⟩ := I1.tuple q1
      obtain ⟨its2, rv2, pl2, hz2⟩ := I1.tuple q2
      have T1 : s1.heap.IsTuple l1 its1.toArray := pl1
      have T2 : s1.heap.IsTuple l2 its2.toArray := pl2
      have lt1 : l1 < s1.heap.objs.size := by obtain ⟨o, e, _⟩ := isTuple_at T1; exact Heap.lt_size e
      have lt2 : l2 < s1.heap.objs.size := by obtain ⟨o, e, _⟩ := isTuple_at T2; exact Heap.lt_size e
      refine zt_call T1 T2 fun h' za zb zc zd ze zk => ?_
      refine wpAny_pyIter_zip (s := { s1 with heap := h' }) za ?_
      have I2 : Inv X pins σ H1 { s1 with heap := h' } := I1.kept (t' := s1.toks) fun b o e => zk b o e
      refine ⟨_, [_, _, _, _, _], _, _, H1, rfl, I2, turn_zipT (z := s1.heap.objs.size + 4) (TI := s1.heap.objs.size + 2) (TO := s1.heap.objs.size + 3) (i1 := s1.heap.objs.size) (i2 := s1.heap.objs.size + 1) (l1 := l1) (l2 := l2) ?_, ⟨za, zb, ⟨_, _, zc⟩, zd, ze⟩, fun b hb => ?_, q⟩
      · exact zapart lt1 lt2
      · simp only [List.mem_cons, List.not_mem_nil, or_false] at hb
        have ge : s1.heap.objs.size ≤ b := by rcases hb with z | z | z | z | z <;> (subst z; first | exact Nat.le_add_right _ _ | exact Nat.le_refl _)
        exact I1.fpOk ge (I1.hok.fresh ge)
theorem for_zipT {K : PySem.W.Frag} {l1 l2 : Addr} {xs ys : List V} {g : TG} {tb : TS} {D : Ends} {σ : St} {H : Hp} {n : Nat} (Pv : Nat → St → Hp → Prop) (h0 : Pv 0 σ H) (n1 : n ≤ xs.length) (n2 : n ≤ ys.length) (ne : xs.length = n ∨ ys.length = n)
    (hl : ∀ i σ H, i ≤ n → Pv i σ H → SqT K H l1 xs ∧ SqT K H l2 ys)
    (hs : ∀ i x y T σ H, i < n → xs[i]? = some x → ys[i]? = some y → H T = none → Pv i σ H → g (.ref T) σ (upd H T (.tup [x, y])) fun σ2 H2 => tb { D with nx := Pv (i + 1), ct := Pv (i + 1), bk := D.nx } σ2 H2) (hd : ∀ σ H, Pv n σ H → D.nx σ H) :
    ∃ W : Nat → Nat → St → Hp → Prop, (∃ m, W 0 m σ H) ∧ ∀ i m σ H, W i m σ H →
      ((Itzt K l1 l2).stop i H ∧ D.nx σ H) ∨ ((Itzt K l1 l2).go i H ∧ ∃ N : St → Hp → Prop, (∀ σ' H', N σ' H' → ∃ m', m' < m ∧ W (i + 1) m' σ' H') ∧ ∀ x H', (Itzt K l1 l2).yld i H x H' → g x σ H' fun σ2 H2 => tb { D with nx := N, ct := N, bk := D.nx } σ2 H2) := by
  refine ⟨fun i m σ H => m = n - i ∧ i ≤ n ∧ Pv i σ H, ⟨n, by simp, Nat.zero_le _, h0⟩, ?_⟩
  rintro i m σ H ⟨rfl, hi, p⟩
  obtain ⟨q1, q2⟩ := hl i σ H hi p
  by_cases hlt : i < n
  · have ex : xs[i]? = some (xs[i]'(by omega)) := List.getElem?_eq_getElem (by omega)
    have ey : ys[i]? = some (ys[i]'(by omega)) := List.getElem?_eq_getElem (by omega)
    refine .inr ⟨⟨xs, ys, _, _, q1, q2, ex, ey⟩, Pv (i + 1), fun σ' H' z => ⟨n - (i + 1), by omega, rfl, hlt, z⟩, ?_⟩
    rintro v H' ⟨T, x, y, fr, rfl, rfl, hx, hy⟩
    exact hs i x y T σ H hlt (hx xs q1) (hy ys q2) fr p
  · have ei : i = n := by omega
    subst ei
    refine .inl ⟨⟨xs, ys, q1, q2, ?_⟩, hd σ H p⟩
    rcases ne with z | z
    · exact .inl (by omega)
    · exact .inr (by omega)
end L2
set_option maxHeartbeats 4000000
namespace L2
open PySem PySem.Spec PyProof.Rows
section
variable {X : Cx}
end
section
variable {X : Cx}
end
end L2
set_option maxHeartbeats 4000000
namespace L2
open PySem PySem.Spec PyProof.Rows
theorem rev_range (n : Nat) : sliceRange ((n : Int) - 1) (-1) (-1) = (List.range n).map fun k => n - 1 - k := by
  unfold sliceRange
  have e : (if (-1 : Int) > 0 then (if (n : Int) - 1 < -1 then (-1 - ((n : Int) - 1) + -1 - 1) / -1 else 0) else (if (n : Int) - 1 > -1 then ((n : Int) - 1 - -1 - -1 - 1) / (- -1) else 0)) = (n : Int) := by
    rw [if_neg (by decide)]
    by_cases h : (n : Int) - 1 > -1
    · rw [if_pos h]
      have : (- -1 : Int) = 1 := rfl
      rw [this, Int.ediv_one]
      omega
    · rw [if_neg h]
      omega
  simp only [e, Int.toNat_natCast]
  apply List.map_congr_left
  intro k hk
  have := List.mem_range.mp hk
  omega
theorem rev_take {α : Type} (xs : List α) : ∀ m, m ≤ xs.length → ((List.range m).map fun k => m - 1 - k).filterMap (fun i => xs[i]?) = (xs.take m).reverse
  | 0, _ => by simp
  | m + 1, h => by
    have ih := rev_take xs m (by omega)
    have em : xs[m]? = some (xs[m]'(by omega)) := List.getElem?_eq_getElem (by omega)
    rw [List.range_succ_eq_map, List.map_cons, List.map_map, List.filterMap_cons]
    have e0 : xs[m + 1 - 1 - 0]? = some (xs[m]'(by omega)) := em
    rw [e0]
    have ef : ((fun k => m + 1 - 1 - k) ∘ Nat.succ) = fun k => m - 1 - k := by
      funext k
      show m + 1 - 1 - (k + 1) = m - 1 - k
      omega
    have tk : xs.take (m + 1) = xs.take m ++ [xs[m]'(by omega)] := by rw [List.take_add_one, em]; rfl
    rw [ef, ih, tk, List.reverse_append]
    rfl
theorem slicePick_rev (its : List Value) : slicePick its.toArray none none (some (-1)) = its.reverse.toArray := by
  have eb : sliceBounds none none (some (-1)) its.toArray.size = ((its.length : Int) - 1, -1, -1) := by
    simp [sliceBounds]
  unfold slicePick
  rw [eb]
  simp only
  rw [rev_range]
  have z := rev_take its its.length (Nat.le_refl _)
  rw [List.take_length] at z
  rw [← z]
  congr 1
  congr 1
  funext i
  simp
section
variable {X : Cx} {e st : Expr} {te ts : TE} {pos p2 : Pos}
noncomputable def tRev (K : PySem.W.Frag) (te ts : TE) : TE := fun σ H Q => te σ H fun x H1 => ts σ H1 fun y H2 => y = .int (-1) ∧ ∃ a xs, x = .ref a ∧ SqL K H2 a xs ∧ ∀ p, H2 p = none → Q (.ref p) (upd H2 p (.lst xs.reverse))
theorem pe_rev (he : PE X e te) (hst : PE X st ts) : PE X (.Subscript e (.Slice none none (some st) p2) pos) (tRev X.K te ts) := by
  intro pins s σ H Q I h
  refine Subscript_ (thn (he pins s σ H _ I h) fun v s1 ⟨x, H1, I1, r1, q1⟩ => ?_)
  refine wpAny_Slice ?_
  rw [evalPart_none]
  refine wpAny_pure ?_
  refine wpAny_pure ?_
  rw [evalPart_some]
  refine thn (hst pins s1 σ H1 _ I1 q1) fun vs s3 ⟨y, H3, I3, r3, q3⟩ => ?_
  obtain ⟨rfl, a, xs, rfl, hx, q⟩ := q3
  obtain ⟨t, rfl⟩ := r3
  cases r1
  have I4 : Inv X pins σ H3 { s3 with heap := s3.heap.push { cls := .type "slice", data := .fields #[.none, .none, .int (-1) t] } } := I3.kept (t' := s3.toks) fun b ob q => Heap.get?_push_of_some _ q
  obtain ⟨its, r, ht, hz⟩ := I4.list hx
  have hlen := r.length
  show wpAny (model X.prog X.w) X.A (subscriptTail e (.Slice none none (some st) p2) (.ref a) (.ref s3.heap.objs.size)) (EP X pins σ Q) X.xe { s3 with heap := s3.heap.push { cls := .type "slice", data := .fields #[.none, .none, .int (-1) t] } }
  refine tail_any (ops := [.ref a, .ref s3.heap.objs.size]) ht.isList.typeIs slot_list_getitem.lookup ?_ (by with_unfolding_all rfl)
  refine wpAny_getItem_list_slice ht.isList (Heap.IsSliceOf.new ..) .none .none (.int (-1) t) (by simp) ?_ (by rw [List.size_toArray] <;> omega)
  rw [slicePick_rev]
  refine ⟨.ref _, _, I4.laid (t' := s3.toks) (o := .lst xs.reverse) (fun b ob q => Heap.get?_push_of_some _ q) (Nat.le_refl _) ?_, rfl, q _ (I4.hok.fresh (Nat.le_refl _))⟩
  exact ⟨by rw [List.length_reverse]; exact hz, _, 0, r.reverse, Heap.get?_push_size _ rfl⟩
end
end L2
set_option maxHeartbeats 4000000
namespace L2
open PySem PySem.Spec PyProof.Rows
section
variable {X : Cx}
end
end L2
namespace Gc
theorem gstep {a b : Int} (ha : 0 ≤ a) (hb : 0 ≤ b) (h : b ≠ 0) : Int.gcd b (a % b) = Int.gcd a b := by
  rw [Int.gcd_comm a b]
  unfold Int.gcd
  have e : (a % b).natAbs = a.natAbs % b.natAbs := by
    rw [Int.natAbs_emod_of_nonneg ha]
  rw [e, Nat.gcd_comm b.natAbs (a.natAbs % b.natAbs), ← Nat.gcd_rec]
theorem gend {a : Int} (ha : 0 ≤ a) : (Int.gcd a 0 : Int) = a := by
  rw [Int.gcd_zero_right]; omega
theorem gabs (a b : Int) : Int.gcd (if a < 0 then -a else a) (if b < 0 then -b else b) = Int.gcd a b := by
  unfold Int.gcd
  have h1 : (if a < 0 then -a else a).natAbs = a.natAbs := by split <;> omega
  have h2 : (if b < 0 then -b else b).natAbs = b.natAbs := by split <;> omega
  rw [h1, h2]
end Gc
namespace Gc
theorem fdiv_mul {g t : Int} (h : g ≠ 0) : (g * t).fdiv g = t := by
  rw [Int.mul_comm]; exact Int.mul_fdiv_cancel _ h
noncomputable def frD (t b : Int) : Int := if b < 0 then -(Int.gcd t b : Int) else (Int.gcd t b : Int)
noncomputable def frT (t b : Int) : Int := t.fdiv (frD t b)
noncomputable def frB (t b : Int) : Int := b.fdiv (frD t b)
theorem gne {t b : Int} (h : b ≠ 0) : Int.gcd t b ≠ 0 := fun e => h (Int.gcd_eq_zero_iff.mp e).2
theorem frD_ne {t b : Int} (h : b ≠ 0) : frD t b ≠ 0 := by
  have := gne (t := t) h
  unfold frD; split <;> omega
theorem fr_split {t b : Int} (h : b ≠ 0) : t = frD t b * frT t b ∧ b = frD t b * frB t b := by
  have hd : (Int.gcd t b : Int) ∣ t := Int.gcd_dvd_left ..
  have hb : (Int.gcd t b : Int) ∣ b := Int.gcd_dvd_right ..
  have hd' : frD t b ∣ t := by unfold frD; split; · exact Int.neg_dvd.mpr hd
                               · exact hd
  have hb' : frD t b ∣ b := by unfold frD; split; · exact Int.neg_dvd.mpr hb
                               · exact hb
  obtain ⟨x, hx⟩ := hd'
  obtain ⟨y, hy⟩ := hb'
  have ne := frD_ne (t := t) h
  generalize hD : frD t b = d at *
  have e1 : frT t b = x := by unfold frT; rw [hD]; conv => lhs; rw [hx]
                              exact fdiv_mul ne
  have e2 : frB t b = y := by unfold frB; rw [hD]; conv => lhs; rw [hy]
                              exact fdiv_mul ne
  rw [e1, e2]; exact ⟨hx, hy⟩
theorem frB_pos {t b : Int} (h : b ≠ 0) : 0 < frB t b := by
  obtain ⟨_, e⟩ := fr_split (t := t) h
  have g := gne (t := t) h
  rcases Int.lt_trichotomy (frB t b) 0 with c | c | c
  · exfalso
    by_cases hb : b < 0
    · have hd : frD t b < 0 := by unfold frD; rw [if_pos hb]; omega
      have := Int.mul_pos_of_neg_of_neg hd c
      omega
    · have hd : 0 < frD t b := by unfold frD; rw [if_neg hb]; omega
      have := Int.mul_neg_of_pos_of_neg hd c
      omega
  · rw [c, Int.mul_zero] at e; exact absurd e h
  · exact c
theorem fr_gcd {t b : Int} (h : b ≠ 0) : Int.gcd (frT t b) (frB t b) = 1 := by
  obtain ⟨e1, e2⟩ := fr_split (t := t) h
  have g := gne (t := t) h
  have k : Int.gcd t b = (frD t b).natAbs * Int.gcd (frT t b) (frB t b) := by
    rw [← Int.gcd_mul_left, ← e1, ← e2]
  have hn : (frD t b).natAbs = Int.gcd t b := by unfold frD; split <;> omega
  rw [hn] at k
  have : Int.gcd t b * 1 = Int.gcd t b * Int.gcd (frT t b) (frB t b) := by rw [Nat.mul_one]; exact k
  exact (Nat.eq_of_mul_eq_mul_left (Nat.pos_of_ne_zero g) this).symm
theorem dvd_cop {k m n : Int} (h : k ∣ m * n) (c : Int.gcd k m = 1) : k ∣ n := by
  have h' : k.natAbs ∣ m.natAbs * n.natAbs := by rw [← Int.natAbs_mul]; exact Int.natAbs_dvd_natAbs.mpr h
  exact Int.natAbs_dvd_natAbs.mp (Nat.Coprime.dvd_of_dvd_mul_left c h')
end Gc
namespace Gc
noncomputable def Sz (n : Nat) (i : Int) : Prop := i.natAbs < 2 ^ n
theorem Sz.mono {m n : Nat} {i : Int} (h : Sz m i) (hn : m ≤ n) : Sz n i := Nat.lt_of_lt_of_le h (Nat.pow_le_pow_right (by decide) hn)
theorem Sz.mul {m n : Nat} {i j : Int} (h1 : Sz m i) (h2 : Sz n j) : Sz (m + n) (i * j) := by
  unfold Sz at *
  rw [Int.natAbs_mul, Nat.pow_add]
  exact Nat.mul_lt_mul'' h1 h2
theorem Sz.add {n : Nat} {i j : Int} (h1 : Sz n i) (h2 : Sz n j) : Sz (n + 1) (i + j) := by
  unfold Sz at *
  rw [Nat.pow_succ]; omega
theorem Sz.sub {n : Nat} {i j : Int} (h1 : Sz n i) (h2 : Sz n j) : Sz (n + 1) (i - j) := by
  unfold Sz at *
  rw [Nat.pow_succ]; omega
theorem Sz.fr {n m : Nat} {a b : Int} (h : b ≠ 0) (sa : Sz n a) (sb : Sz m b) : Sz n (frT a b) ∧ Sz m (frB a b) := by
  obtain ⟨e1, e2⟩ := fr_split (t := a) h
  have nd := frD_ne (t := a) h
  have h1 : (frT a b).natAbs ≤ a.natAbs := by
    have : a.natAbs = (frD a b).natAbs * (frT a b).natAbs := by rw [← Int.natAbs_mul, ← e1]
    rw [this]; exact Nat.le_mul_of_pos_left _ (by omega)
  have h2 : (frB a b).natAbs ≤ b.natAbs := by
    have : b.natAbs = (frD a b).natAbs * (frB a b).natAbs := by rw [← Int.natAbs_mul, ← e2]
    rw [this]; exact Nat.le_mul_of_pos_left _ (by omega)
  exact ⟨Nat.lt_of_le_of_lt h1 sa, Nat.lt_of_le_of_lt h2 sb⟩
structure FrOK (a b : Int) : Prop where
  pos : 0 < b
  low : Int.gcd a b = 1
  s1 : Sz 200 a
  s2 : Sz 200 b
theorem FrOK.of {a b : Int} (h : 0 < b) (sa : Sz 200 a) (sb : Sz 200 b) : FrOK (frT a b) (frB a b) :=
  have z := Sz.fr (by omega) sa sb
  ⟨frB_pos (by omega), fr_gcd (by omega), z.1, z.2⟩
end Gc
namespace Ch
noncomputable def binom : Nat → Nat → Nat
  | _, 0 => 1
  | 0, _ + 1 => 0
  | n + 1, k + 1 => binom n k + binom n (k + 1)
theorem b0 (n : Nat) : binom n 0 = 1 := by cases n <;> rfl
theorem bs (n k : Nat) : binom (n + 1) (k + 1) = binom n k + binom n (k + 1) := rfl
theorem blt : ∀ {n k : Nat}, n < k → binom n k = 0
  | 0, k + 1, _ => rfl
  | n + 1, k + 1, h => by rw [bs, blt (by omega : n < k), blt (by omega : n < k + 1)]
noncomputable def bits (b : Nat) : Nat → Nat
  | 0 => 0
  | j + 1 => bits b j + b / 2 ^ j % 2
noncomputable def cnt (n : Nat) (k : Int) : Nat → Nat
  | 0 => 0
  | b + 1 => cnt n k b + (if (bits b n : Int) = k then 1 else 0)
end Ch
namespace Gc
open Ch
theorem rle {a b c : Rat} (h : a ≤ b) (hc : 0 ≤ c) : c * a ≤ c * b := Rat.mul_le_mul_of_nonneg_left h hc
noncomputable def sm (f : Nat → Rat) : Nat → Rat
  | 0 => 0
  | m + 1 => sm f m + f m
end Gc
namespace Gc
open Ch
noncomputable def Cvx (G : Nat → Rat) : Prop := ∀ k, G (k + 1) - G k ≤ G (k + 2) - G (k + 1)
theorem Cvx.steps {G : Nat → Rat} (h : Cvx G) (a : Nat) : ∀ e, G (a + 1) - G a ≤ G (a + e + 1) - G (a + e)
  | 0 => Rat.le_refl
  | e + 1 => by
      have := h.steps a e
      have s := h (a + e)
      have e1 : a + (e + 1) = a + e + 1 := by omega
      have e2 : a + (e + 1) + 1 = a + e + 2 := by omega
      rw [e2, e1]; grind
theorem Cvx.up {G : Nat → Rat} (h : Cvx G) (a : Nat) : ∀ e : Nat, (e : Rat) * (G (a + 1) - G a) ≤ G (a + e) - G a
  | 0 => by have : a + 0 = a := rfl
            rw [this]; push_cast; grind
  | e + 1 => by
      have i := h.up a e
      have s := h.steps a e
      have e1 : a + (e + 1) = a + e + 1 := by omega
      rw [e1]; push_cast; grind
theorem Cvx.dn {G : Nat → Rat} (h : Cvx G) (a : Nat) : ∀ e : Nat, G (a + e) - G a ≤ (e : Rat) * (G (a + e + 1) - G (a + e))
  | 0 => by have : a + 0 = a := rfl
            rw [this]; push_cast; grind
  | e + 1 => by
      have i := h.dn a e
      have s := h (a + e)
      have m := rle s (show (0 : Rat) ≤ (e : Rat) by exact_mod_cast Nat.zero_le e)
      have e1 : a + (e + 1) = a + e + 1 := by omega
      have e2 : a + (e + 1) + 1 = a + e + 2 := by omega
      rw [e2, e1]; push_cast; grind
theorem castpos {e : Nat} (h : 0 < e) : (0 : Rat) < (e : Rat) := by exact_mod_cast h
theorem pos_of {e x : Rat} (he : 0 < e) (h : 0 < e * x) : 0 < x := by
  by_cases hx : 0 < x
  · exact hx
  · have := rle (show x ≤ 0 by grind) (show 0 ≤ e by grind); grind
theorem nonneg_of {e x : Rat} (he : 0 < e) (h : 0 ≤ e * x) : 0 ≤ x := by
  by_cases hx : 0 ≤ x
  · exact hx
  · have := Rat.mul_pos he (show 0 < -x by grind); grind
theorem Cvx.out {G : Nat → Rat} (h : Cvx G) {a d k : Nat} (ha : G a = 0) (hd : G d = 0) (had : a < d) (h1 : k ≤ a ∨ d ≤ k) : 0 ≤ G k := by
  obtain ⟨f, rfl⟩ := Nat.exists_eq_add_of_le (Nat.le_of_lt had)
  have fp := castpos (show 0 < f by omega)
  cases h1 with
  | inl h1 =>
    obtain ⟨e, rfl⟩ := Nat.exists_eq_add_of_le h1
    have u := h.dn k e
    have v := h.up (k + e) f
    have x : 0 ≤ -(G (k + e + 1) - G (k + e)) := nonneg_of fp (by grind)
    have y := Rat.mul_nonneg (show (0 : Rat) ≤ (e : Rat) by exact_mod_cast Nat.zero_le e) x
    grind
  | inr h1 =>
    obtain ⟨e, rfl⟩ := Nat.exists_eq_add_of_le h1
    have u := h.dn a f
    have v := h.up (a + f) e
    have x : 0 ≤ G (a + f + 1) - G (a + f) := nonneg_of fp (by grind)
    have y := Rat.mul_nonneg (show (0 : Rat) ≤ (e : Rat) by exact_mod_cast Nat.zero_le e) x
    grind
end Gc
namespace Gc
open Ch
theorem rgcd (r : Rat) : Int.gcd r.num (r.den : Int) = 1 := by
  have := r.reduced
  rw [Int.gcd]; simpa [Nat.Coprime] using this
theorem rdenQ (r : Rat) : (r.den : Rat) ≠ 0 := by
  have := r.den_nz
  intro h; exact this (by exact_mod_cast h)
theorem rsplit (r : Rat) : r * (r.den : Rat) = (r.num : Rat) := by
  have h := Rat.mkRat_self r
  rw [Rat.mkRat_eq_div] at h
  have d := rdenQ r
  generalize (r.num : Rat) = x at *
  generalize (r.den : Rat) = y at *
  grind
theorem castlt {a b : Int} : ((a : Rat) < (b : Rat)) ↔ a < b := Rat.intCast_lt_intCast
theorem r_under (r s : Rat) : r.num * (s.den : Int) < s.num * (r.den : Int) ↔ r < s := by
  have a := rsplit r; have b := rsplit s
  have dr : (0 : Rat) < (r.den : Rat) := by exact_mod_cast (show 0 < r.den by have := r.den_nz; omega)
  have ds : (0 : Rat) < (s.den : Rat) := by exact_mod_cast (show 0 < s.den by have := s.den_nz; omega)
  have p := Rat.mul_pos dr ds
  rw [← castlt]; push_cast; rw [← a, ← b]
  constructor
  · intro h
    have := pos_of p (x := s - r) (by grind); grind
  · intro h
    have := Rat.mul_pos p (show 0 < s - r by grind); grind
theorem r_nonneg (r : Rat) : 0 ≤ r.num ↔ 0 ≤ r := Rat.num_nonneg
theorem r_le1 (r : Rat) : r.num ≤ (r.den : Int) ↔ r ≤ 1 := by
  have := r_under 1 r
  have e1 : (1 : Rat).num = 1 := rfl
  have e2 : ((1 : Rat).den : Int) = 1 := rfl
  rw [e1, e2] at this
  constructor
  · intro h
    by_cases c : 1 < r
    · exact absurd (this.mpr c) (by omega)
    · grind
  · intro h
    by_cases c : 1 * (r.den : Int) < r.num * 1
    · have := this.mp c; grind
    · omega
noncomputable def Ov (B : Nat) (r : Rat) : Prop := ∃ m : Int, r * (B : Rat) = (m : Rat)
theorem Ov.dvd {B : Nat} {r : Rat} (h : Ov B r) : r.den ∣ B := by
  obtain ⟨m, hm⟩ := h
  have s := rsplit r
  have : ((r.num * (B : Int) : Int) : Rat) = ((m * (r.den : Int) : Int) : Rat) := by push_cast; rw [← hm, ← s]; grind
  have e : r.num * (B : Int) = m * (r.den : Int) := by exact_mod_cast this
  have d : (r.den : Int) ∣ (B : Int) := dvd_cop (k := (r.den : Int)) (m := r.num) ⟨m, by rw [e]; exact Int.mul_comm _ _⟩ (by rw [Int.gcd_comm]; exact rgcd r)
  exact_mod_cast d
theorem Ov.self (r : Rat) : Ov r.den r := ⟨r.num, rsplit r⟩
theorem Ov.add {B : Nat} {r s : Rat} (h : Ov B r) (k : Ov B s) : Ov B (r + s) := by
  obtain ⟨a, ha⟩ := h; obtain ⟨b, hb⟩ := k
  exact ⟨a + b, by push_cast; rw [← ha, ← hb]; grind⟩
theorem Ov.sub {B : Nat} {r s : Rat} (h : Ov B r) (k : Ov B s) : Ov B (r - s) := by
  obtain ⟨a, ha⟩ := h; obtain ⟨b, hb⟩ := k
  exact ⟨a - b, by push_cast; rw [← ha, ← hb]; grind⟩
theorem Ov.mul {A B : Nat} {r s : Rat} (h : Ov A r) (k : Ov B s) : Ov (A * B) (r * s) := by
  obtain ⟨a, ha⟩ := h; obtain ⟨b, hb⟩ := k
  exact ⟨a * b, by push_cast; rw [← ha, ← hb]; grind⟩
theorem Ov.up {A B : Nat} {r : Rat} (h : Ov A r) (k : A ∣ B) : Ov B r := by
  obtain ⟨c, rfl⟩ := k
  obtain ⟨a, ha⟩ := h
  exact ⟨a * c, by push_cast; rw [← ha]; grind⟩
theorem Ov.one (B : Nat) : Ov B 1 := ⟨(B : Int), by push_cast; grind⟩
structure RSz (n : Nat) (r : Rat) : Prop where
  t : Sz n r.num
  b : Sz n (r.den : Int)
theorem RSz.of {n B : Nat} {r : Rat} (h : Ov B r) (hB : 0 < B) (hn : B < 2 ^ n) (h0 : 0 ≤ r) (h1 : r ≤ 1) : RSz n r := by
  have a := (r_nonneg r).mpr h0
  have b := (r_le1 r).mpr h1
  have c := Nat.le_of_dvd hB h.dvd
  constructor <;> (unfold Sz; omega)
end Gc
namespace Gc
open Ch
end Gc
namespace Gc
open Ch
end Gc
namespace Gc
noncomputable abbrev Up (l : List Rat) : Prop := l.Pairwise (· ≤ ·)
theorem Up.at {l : List Rat} (h : Up l) {i j : Nat} {x y : Rat} (hij : i ≤ j) (ex : l[i]? = some x) (ey : l[j]? = some y) : x ≤ y := by
  by_cases e : i = j
  · subst e; rw [ex] at ey; cases ey; exact Rat.le_refl
  · obtain ⟨hi, rfl⟩ := List.getElem?_eq_some_iff.mp ex
    obtain ⟨hj, rfl⟩ := List.getElem?_eq_some_iff.mp ey
    exact List.pairwise_iff_getElem.mp h i j hi hj (by omega)
end Gc
namespace Gc
end Gc
namespace Gc
end Gc
namespace Gc
end Gc
set_option maxHeartbeats 4000000
namespace L2
open PySem PySem.Spec PyProof.Rows PySem.W Gc
theorem comp_listRG {K : PySem.W.Frag} {a : Addr} {xs : List V} {te : TE} {st : St} {H1 : Hp} {Q : VK} {D : Addr} (R : Nat → List V → Hp → Prop) (hD : H1 D = none) (q1 : SqL K H1 a xs) (hn : xs.length ≤ sizeLine) (h0 : R 0 [] (upd H1 D (.lst [])))
    (hs : ∀ (i : Nat) (x : V) (ys : List V) (H2 : Hp) (k : VK), xs[i]? = some x → Same H1 H2 → H2 D = some (.lst ys) → ys.length = i → R i ys H2 → (∀ y H4, Same H2 H4 → R (i + 1) (ys ++ [y]) (upd H4 D (.lst (ys ++ [y]))) → k y H4) → te (some x :: st) H2 k)
    (hd : ∀ ys H2, Same H1 H2 → H2 D = some (.lst ys) → ys.length = xs.length → R xs.length ys H2 → Q (.ref D) H2) : CompG (Itl K a) (gName 0) tYes te 1 st D H1 Q := by
  refine ⟨fun i m ys H2 => m = xs.length - i ∧ i ≤ xs.length ∧ ys.length = i ∧ Same H1 H2 ∧ H2 D = some (.lst ys) ∧ R i ys H2, ⟨xs.length, by simp, Nat.zero_le _, rfl, same_upd (Same.refl H1) hD, upd_same, h0⟩, ?_⟩
  rintro i m ys H2 ⟨rfl, hi, hl, sm, e, r⟩
  by_cases hlt : i < xs.length
  · have ex : xs[i]? = some xs[i] := List.getElem?_eq_getElem hlt
    refine .inr ⟨⟨xs, _, sm.seq q1, ex⟩, ?_⟩
    rintro x H3 σ0 ⟨rfl, hx⟩ l0
    have hx' := hx xs (sm.seq q1)
    obtain ⟨a', rfl⟩ : ∃ a, σ0 = [a] := by
      match σ0, l0 with
      | [a], _ => exact ⟨a, rfl⟩
    refine ⟨⟨[some x], rfl, rfl⟩, ?_⟩
    exact hs i x ys _ _ hx' sm e hl r fun y H4 s4 r4 => ⟨s4 _ _ e, by omega, xs.length - (i + 1), by omega, rfl, hlt, by simp [hl], same_upd (sm.trans s4) hD, upd_same, r4⟩
  · have ei : i = xs.length := by omega
    subst ei
    exact .inl ⟨⟨xs, sm.seq q1, Nat.le_refl _⟩, hd ys H2 sm e hl r⟩
end L2
namespace L2
open PySem PySem.Spec PyProof.Rows PySem.W Gc
end L2
set_option maxHeartbeats 4000000
namespace L2
open PySem PySem.Spec PyProof.Rows PySem.W Gc
theorem ints_of : ∀ {ns : List Int} {us : List Value}, Vals (ns.map V.int) us → IntsAre us ns
  | [], us, r => by cases r; exact .nil
  | n :: ns, us, r => by
    cases r with
    | cons r1 r2 =>
      obtain ⟨t, rfl⟩ := r1
      exact .cons n t (ints_of r2)
theorem ints_to : ∀ {ns : List Int} {us : List Value}, IntsAre us ns → Vals (ns.map V.int) us
  | _, _, .nil => .nil
  | _, _, .cons n t r => .cons ⟨t, rfl⟩ (ints_to r)
theorem call_sortedI {X : Cx} : CallR X (.builtin "sorted") (fun xs H Q => ∃ (p : Addr) (ns : List Int), xs = [.ref p] ∧ SqL X.K H p (ns.map V.int) ∧ ns.length < 64 ∧
    ∀ (D : Addr) (ms : List Int), H D = none → ms.Perm ns → ms.Pairwise (· ≤ ·) → Q (.ref D) (upd H D (.lst (ms.map V.int)))) := by
  intro pins s σ H xs us Q I r h
  obtain ⟨p, ns, rfl, hq, h64, q⟩ := h
  obtain ⟨u, rfl, rx⟩ := vals1 r
  cases rx
  obtain ⟨its, rv, pl, hz⟩ := I.list hq
  have li : its.length = ns.length := by rw [← rv.length, List.length_map]
  refine sorted_ints pl.isList (ints_of rv) (by omega) fun out ms a1 a2 a3 => ?_
  obtain ⟨e, he⟩ := sortedAll_at s.heap its out
  have hD : H (s.heap.objs.size + 1) = none := I.hok.fresh (Nat.le_succ _)
  refine ⟨.ref (s.heap.objs.size + 1), _, I.laid (t' := s.toks) (fun _ _ => sortedAll_old) (Nat.le_succ _) (show ObjOk X.prog X.w _ _ _ (.lst (ms.map V.int)) from ⟨?_, out.toList, e, ints_to a1, ?_⟩), rfl, q _ ms hD a2 a3⟩
  · rw [List.length_map, a2.length_eq, sizeLine_eq]; omega
  · exact he
section
variable {prog : Program} {w : World} {A : Around} {E : Value → Shared → Prop} {s : Shared}
end
section
variable {X : Cx} {a b c d : Expr} {ta tb tc td : TE} {pos : Pos}
noncomputable def tChain3 (r r' r'' : R2) (ta tb tc td : TE) : TT := fun σ H Q => ta σ H fun x H1 => tb σ H1 fun y H2 => r x y H2 fun z H3 => ∃ k, z = .bl k ∧
  (if k = true then tc σ H3 fun y' H4 => r' y y' H4 fun z2 H5 => ∃ k2, z2 = .bl k2 ∧ (if k2 = true then td σ H5 fun y'' H6 => r'' y' y'' H6 fun z3 H7 => ∃ k3, z3 = .bl k3 ∧ Q k3 H7 else Q false H5) else Q false H3)
theorem pt_chain3 {op op' op'' : CmpOp} {r r' r'' : R2} (ho : OpR X (compareOp op) r) (ho' : OpR X (compareOp op') r') (ho'' : OpR X (compareOp op'') r'') (ha : PE X a ta) (hb : PE X b tb) (hc : PE X c tc) (hd : PE X d td)
    (hm : lastMarks [op, op', op''] [b, c, d] = false := by with_unfolding_all rfl) : PT X (.Compare a [op, op', op''] [b, c, d] pos) (tChain3 r r' r'' ta tb tc td) := by
  intro pins s σ H Q I h
  refine isTrue_chain (thn (ha pins s σ H _ I h) fun v s1 ⟨x, H1, I1, r1, q1⟩ => test_link (thn (hb pins s1 σ H1 _ I1 q1) fun u s2 ⟨y, H2, I2, r2, q2⟩ =>
    thn (ho pins s2 σ H2 x y v u _ I2 r1 r2 q2) fun d0 s3 ⟨z, H3, I3, r3, k, e, q3⟩ => ?_)) hm
  subst e
  cases r3
  refine wpAny_truthy_bool ?_
  cases k with
  | false => exact ite_ff ⟨H3, I3, q3⟩
  | true =>
    refine ite_tt (test_link (thn (hc pins s3 σ H3 _ I3 q3) fun w' s4 ⟨z', H4, I4, r4, q4⟩ => thn (ho' pins s4 σ H4 y z' u w' _ I4 r2 r4 q4) fun d' s5 ⟨z2, H5, I5, r5, k2, e2, q5⟩ => ?_))
    subst e2
    cases r5
    refine wpAny_truthy_bool ?_
    cases k2 with
    | false => exact ite_ff ⟨H5, I5, q5⟩
    | true =>
      refine ite_tt (test_last (thn (hd pins s5 σ H5 _ I5 q5) fun w'' s6 ⟨z'', H6, I6, r6, q6⟩ => thn (ho'' pins s6 σ H6 z' z'' w' w'' _ I6 r4 r6 q6) fun d'' s7 ⟨z3, H7, I7, r7, k3, e3, q7⟩ => ?_))
      subst e3
      cases r7
      exact wpAny_truthy_bool ⟨H7, I7, q7⟩
end
end L2
set_option maxHeartbeats 4000000
namespace L2
open PySem PySem.Spec PyProof.Rows PySem.W Gc
section
variable {X : Cx}
end
end L2
set_option maxHeartbeats 4000000
namespace L2
open PySem PySem.Spec PyProof.Rows PySem.W Gc
section
end
section
variable {prog : Program} {w : World} {A : Around} {E : Value → Shared → Prop} {s : Shared}
end
section
variable {prog : Program} {w : World} {A : Around} {E : Value → Shared → Prop} {s : Shared}
end
end L2
set_option maxHeartbeats 4000000
namespace L2
open PySem PySem.Spec PyProof.Rows
theorem compLoop_ifsX {prog : Program} {w : World} {A : Around} {R : Result → Shared → Prop} {s : Shared} {elt tg iter : Expr} {ifs : List Expr} {scope : Scope} {pos : Pos} {it acc : Value} {env : Env} (Iv : Nat → Shared → Prop)
    (turn : ∀ k s, Iv k s → wpAny (model prog w) A (pyNext it) (fun r s1 => match r with
      | none => R (.ok .next) s1
      | some v => wpAny (model prog w) A (letOwnedTupleGo tg it v) (fun _ s2 => wpAny (model prog w) A (assign tg env v) (fun _ s3 => wpAny (model prog w) A (testsOf ifs env) (fun b s4 => if b = true then
          wpAny (model prog w) A (eval elt env) (fun y s5 => wpAny (model prog w) A (call (.builtin "list.append") [acc, y]) (fun _ s6 => ∃ m, m < k ∧ Iv m s6) (fun _ _ => False) s5) (notedBy (model prog w) A env fun e s' => R (.error e) s') s4
          else ∃ m, m < k ∧ Iv m s4) (fun _ _ => False) s3) (fun _ _ => False) s2) (fun _ _ => False) s1) (fun _ _ => False) s)
    (k : Nat) (h : Iv k s) : codeAny (model prog w) A (.compLoop (.ListComp elt [⟨tg, iter, ifs, 0⟩] scope pos) 0 it acc env) R s := by
  refine codeAny_loop rfl Iv (fun k s hI => ?_) k h
  show wpAny _ _ ((compTurn (.ListComp elt [⟨tg, iter, ifs, 0⟩] scope pos) 0 it acc env).onRaise (fun e => do noteFrame e env; theTreesLotGoes e)) _ _ s
  refine wpAny_noted ?_
  rw [compTurn_ifs]
  refine wpAny_bind (wpAny_standAt (wpAny_bind (wpAny_mono (turn k s hI) (fun r s1 h1 => ?_) fun _ _ f => f.elim)))
  cases r with
  | none => exact wpAny_pure h1
  | some v =>
    refine wpAny_bind (wpAny_mono h1 (fun _ s2 h2 => wpAny_bind (wpAny_mono h2 (fun _ s3 h3 => wpAny_bind (wpAny_mono h3 (fun b s4 h4 => ?_) fun _ _ f => f.elim)) fun _ _ f => f.elim)) fun _ _ f => f.elim)
    cases b with
    | true =>
      rw [if_pos rfl] at h4 ⊢
      exact wpAny_bind (wpAny_mono h4 (fun y s5 h5 => wpAny_bind (wpAny_mono h5 (fun _ s6 h6 => wpAny_pure ⟨rfl, h6⟩) fun _ _ f => f.elim)) fun _ _ f => f)
    | false =>
      rw [if_neg Bool.false_ne_true] at h4 ⊢
      exact wpAny_pure ⟨rfl, h4⟩
noncomputable def postX (M : Model) (A : Around) (E : Value → Shared → Prop) (Q : Value → Shared → Prop) (acc : Value) (cenv : Env) : Result → Shared → Prop
  | .ok _, s' => ∃ m, s'.heap.Ns cenv.locals m ∧ ∀ h', Heap.SameBut cenv.locals s'.heap h' → Q acc { s' with heap := h' }
  | .error x, s' => ∃ m, s'.heap.Ns cenv.locals m ∧ ∀ h', Heap.SameBut cenv.locals s'.heap h' → wpAny M A (passOn "comprehension.variables-let-go" x cenv : Sem Value) (fun _ _ => False) E { s' with heap := h' }
theorem comp_freeX {M : Model} {A : Around} {E : Value → Shared → Prop} {s : Shared} {env : Env} {e : Expr} {scope : Scope} {pos : Pos} {newAcc first : Sem Value} {g : Comprehension} {gs : List Comprehension} {cl : List (Str × Addr)} {Q : Value → Shared → Prop}
    (hcl : clausesOf e = g :: gs) (hs : ∀ x, foldedSetIterable g.iter env x = pure x) (hclos : closureFor scope env = pure cl)
    (hkind : scope.kind = .function) (hnames : ∀ x ∈ scope.names, x.2 = .local → scope.names.lookup x.1 = some .local)
    (h : wpAny M A first (fun x s₁ => wpAny M A (pyIter x) (fun it s₂ => wpAny M A newAcc (fun acc s₃ =>
      wpAny M A (newFunctionEnv scope env.globals cl [] env.qual none .none (some env)) (fun cenv s₄ =>
        codeAny M A (.compStart e 0 it acc { cenv with scope := relabel scope env }) (postX M A E Q acc { cenv with scope := relabel scope env }) s₄) E s₃) E s₂) E s₁) E s) :
    wpAny M A (comprehension e scope env pos newAcc false first none) Q E s := by
  unfold comprehension
  rw [hclos, hcl]
  have same : ∀ {α : Type} {m : Sem α} {P P' : α → Shared → Prop} {t : Shared}, wpAny M A m P E t → (∀ a t', P a t' → P' a t') → wpAny M A m P' E t := fun h1 h2 => wpAny_mono h1 h2 fun _ _ y => y
  refine wpAny_bind (same h fun x s₁ h₁ => wpAny_bind (wpAny_standAt (wpAny_bind (wpAny_of_eq (hs x) (wpAny_bind (wpAny_holding (same h₁ fun it s₂ h₂ =>
    wpAny_standIf (wpAny_bind (same h₂ fun acc s₃ h₃ => wpAny_bind (wpAny_pure (wpAny_bind (same h₃ fun cenv s₄ h₄ => ?_))))))))))))
  dsimp only
  have hv : ∀ x ∈ (scope.names.filter fun x => (x.2 == .local || x.2 == .cell) && x.1 != (".0" : Str)).reverse, x.2 = .local →
      Env.kindOf { cenv with scope := relabel scope env } x.1 = some .local := fun x hx hl => lookup_relabel_local (hnames x (List.mem_filter.mp (List.mem_reverse.mp hx)).1 hl)
  refine wpAny_holding (wpAny_bind (wpAny_attempt (wpAny_holding (wpAny_run (codeAny_mono h₄ fun r s' hr => ?_)))))
  cases r with
  | ok f =>
    obtain ⟨m, hn, hr⟩ := hr
    exact wpAny_bind (wpAny_holding (wpAny_comp_letGo (cenv := { cenv with scope := relabel scope env }) hkind _ s' m hv hn fun h' _ _ z => wpAny_pure (hr h' z)))
  | error x =>
    obtain ⟨m, hn, hr⟩ := hr
    exact wpAny_bind (wpAny_holding (wpAny_comp_letGo (cenv := { cenv with scope := relabel scope env }) hkind _ s' m hv hn fun h' _ _ z => wpAny_mono (hr h' z) (fun _ _ f => f.elim) fun _ _ y => y))
section
variable {M : Model} {A : Around} {E : Value → Shared → Prop} {s : Shared} {B : Heap} {l : List Env} {e L : Addr} {cls a0 : Value}
theorem setFlight_held {Q : Unit → Shared → Prop} (x : Heap.HeldW B l e cls a0 L s.heap) (h : ∀ h', Heap.HeldW B l e cls a0 L h' → s.heap.UpToSlots h' → Q () { s with heap := h' }) :
    wpAny M A (setFlight (.ref e) (some L)) Q E s := by
  obtain ⟨st, en, ff, oe, vs, T, oT, ts, he, hc, hd, h1, nT, Te, hT, hdT, h3⟩ := x
  have sz := (Array.getElem?_eq_some_iff.mp h3).1
  have oth : ∀ b, b ≠ T → (s.heap.update T (Obj.mapFields (·.setIfInBounds 3 ((some L).elim Value.none fun f => rawInt f)))).get? b = s.heap.get? b := fun b hb => Heap.get?_update_other _ _ (Ne.symm hb)
  have nr : ∀ b o, s.heap.get? b = some o → (∀ vs, o.data ≠ .fields vs) → b ≠ T := fun b o hb hnf q => by
    rw [q, hT] at hb; cases hb; exact hnf ts hdT
  unfold setFlight
  refine wpAny_bind (wpAny_field he hd h1 ?_)
  rw [if_pos (show (Value.ref T != Value.none) = true from by simp)]
  refine wpAny_setField hT hdT sz (h _ ⟨fun b o z => (oth b fun q => by rw [q, nT] at z; cases z).trans (st b o z), en, ff.of_keeps fun b o hb hnf => ⟨o, (oth b (nr b o hb hnf)).trans hb, rfl⟩, ?_⟩ fun b o hb hnf => ⟨o.slots, (oth b (nr b o hb hnf)).trans hb⟩)
  exact ⟨oe, vs, T, _, _, (oth e (Ne.symm Te)).trans he, hc, hd, h1, nT, Te, Heap.get?_update_self _ hT (Obj.isFreed_of_fields (Obj.data_mapFields hdT _)), Obj.data_mapFields hdT _, by simp [sz]⟩
theorem pass_held {α : Type} {what : String} {cenv : Env} {Q : α → Shared → Prop} (hf : cenv.frame = some L) (x : Heap.HeldW B l e cls a0 L s.heap) (h : ∀ h', Heap.HeldW B l e cls a0 L h' → s.heap.UpToSlots h' → E (.ref e) { s with heap := h' }) :
    wpAny M A (passOn what (.ref e) cenv : Sem α) Q E s := by
  have y := x
  obtain ⟨st, en, ff, oe, vs, T, oT, ts, he, hc, hd, h1, nT, Te, hT, hdT, h3⟩ := y
  unfold PySem.passOn
  refine wpAny_bind (wpAny_field he hd h1 ?_)
  rw [if_neg (show ¬ ((Value.ref T == Value.none) = true) from by simp), hf]
  exact wpAny_bind (setFlight_held x fun h' y up => wpAny_throw (h h' y up))
theorem leave_held {env : Env} {outer : List Env} {Q : Unit → Shared → Prop} (hf : env.frame = some L) (x : Heap.HeldW B (env :: outer) e cls a0 L s.heap)
    (h : ∀ h', Heap.FlyingW B outer e cls a0 h' → s.heap.UpToSlots h' → Q () { s with heap := h' }) : wpAny M A (leaving env (.ref e)) Q E s := by
  unfold leaving
  refine wpAny_bind (wpAny_noteFrame_againW hf x.2.2.2 (wpAny_landsW x fun h' fl up => ?_))
  obtain ⟨k1, k2, ⟨_, _, k3⟩, k4⟩ := fl
  exact h h' ⟨k1, k2, k3, k4⟩ up
end
theorem funFrames_but {h h' B : Heap} {C : Addr} (k : Heap.SameBut C h h') : ∀ {l : List Env}, C ∉ frs l → h.FunFrames B l → h'.FunFrames B l
  | [], _, _ => trivial
  | env :: l, hC, ⟨hk, ⟨L, o, hf, hn, ho, hd⟩, hr⟩ => by
    have e1 : frs (env :: l) = L :: frs l := by unfold frs; rw [List.filterMap_cons, hf]
    rw [e1] at hC
    exact ⟨hk, ⟨L, o, hf, hn, (k.2 L fun z => hC (by simp [z])).trans ho, hd⟩, funFrames_but k (fun z => hC (by simp [z])) hr⟩
theorem held_but {h h' B : Heap} {C e L : Addr} {l : List Env} {cls a0 : Value} {m : Str → Option Value} (k : Heap.SameBut C h h') (hC : C ∉ frs l) (hn : h.Ns C m) (x : Heap.HeldW B l e cls a0 L h) :
    Heap.HeldW (PySem.W.hideAll B [C]) l e cls a0 L h' := by
  have x' := PySem.W.heldW_base (base := PySem.W.hideAll B [C]) (fun b o q => PySem.W.of_hideAll _ q) x
  obtain ⟨st, en, ff, oe, vs, T, oT, ts, he, hc, hd, h1, nT, Te, hT, hdT, h3⟩ := x'
  obtain ⟨o, es, ep, ho, od, _⟩ := hn
  have nC : ∀ b u ws, h.get? b = some u → u.data = .fields ws → b ≠ C := fun b u ws q d z => by
    rw [z, ho] at q; cases q; rw [od] at d; cases d
  refine ⟨fun b u q => (k.2 b fun z => ?_).trans (st b u q), en, funFrames_but k hC ff, oe, vs, T, oT, ts, (k.2 e (nC e oe vs he hd)).trans he, hc, hd, h1, nT, Te, (k.2 T (nC T oT ts hT hdT)).trans hT, hdT, h3⟩
  rw [z, PySem.W.hideAll_none [C] (by simp)] at q
  cases q
section
variable {X : Cx} {E : XK} {N' : List Str} {scope : Scope} {cl : List (Str × Addr)} {pins0 : List (Addr × Obj)} {σ0 : St} {H3 : Hp} {s3 : Shared} {fp : List Addr} {Q : Value → Shared → Prop} {acc : Value}
theorem comp_pass (dx : DefCx X) (hxe : ∀ e s', wpAny (model X.prog X.w) X.A (leaving X.env e) (fun _ s2 => CXX X.prog X.w X.outer X.H₀ X.s₀ E e s2) (fun e' s2 => CXX X.prog X.w X.outer X.H₀ X.s₀ E e' s2) s' → X.xe e s')
    (I3 : Inv X pins0 σ0 H3 s3) (hfp : ∀ b ∈ fp, FpOk X pins0 H3 b) {C : Addr} (hC : C = s3.heap.objs.size) :
    Passes (CXX X.prog X.w) ((cxComp X N' scope cl C s3 H3 fp).wish (notedBy (model X.prog X.w) X.A (compEnvC scope cl C X.env) fun e s' => postX (model X.prog X.w) X.A X.xe Q acc (compEnvC scope cl C X.env) (.error e) s')) E := by
  intro pins σ H s e s' I h
  obtain ⟨a, cls, H', rfl, os, bare, un, hok, ⟨B, t, fw, ne, hn, kB⟩, q⟩ := h
  have fl : X.env.frame = some X.env.locals := dx.fr
  have nofp : ∀ b o, X.s₀.heap.get? b = some o → b ∉ fp := fun b o e1 z => by
    rcases (hfp b z).2.2.2.1 with y | y
    · rw [dx.ex] at y; cases y
    · exact absurd (Nat.lt_of_lt_of_le (Heap.lt_size e1) y) (Nat.lt_irrefl _)
  have thr : ∀ b o, X.s₀.heap.get? b = some o → ∃ o', s.heap.get? b = some o' := fun b o e1 => by
    obtain ⟨o1, e2⟩ := I3.base.there b o e1 (by rw [dx.ex]; simp)
    exact I.base.there b o1 e2 (nofp b o e1)
  have I1 : Inv ((cxComp X N' scope cl C s3 H3 fp).wish (notedBy (model X.prog X.w) X.A (compEnvC scope cl C X.env) fun e s' => postX (model X.prog X.w) X.A X.xe Q acc (compEnvC scope cl C X.env) (.error e) s')) pins σ H' s' :=
    I.call' (ch := []) os un hok bare (fun b z => absurd z (by simp))
  have sf : ∀ b ∈ frs X.stack, H' b = none := I1.stkFree
  have fw' : Heap.FlyingW B (X.env :: X.outer) a cls (.ref t) s'.heap := by rw [← dx.st]; exact fw
  show wpAny (model X.prog X.w) X.A (noteFrame (.ref a) X.env) _ _ s'
  refine wpAny_looks_onW (L := X.env.locals) (by rw [I3.ok.frames, dx.st]) fl fw' fun h1 hw up => ?_
  have hw' : Heap.HeldW B X.stack a cls (.ref t) X.env.locals h1 := by rw [dx.st]; exact hw
  obtain ⟨un1, hok1⟩ := fly_keeps (h5 := h1) un hok kB fw.2.2.1 (fun b hb => hb) (fun b hb hb' => absurd hb hb') sf hw.1 up
  have I2 : Inv ((cxComp X N' scope cl C s3 H3 fp).wish (notedBy (model X.prog X.w) X.A (compEnvC scope cl C X.env) fun e s' => postX (model X.prog X.w) X.A X.xe Q acc (compEnvC scope cl C X.env) (.error e) s')) pins σ H' { s' with heap := h1 } :=
    I.call' (s' := { s' with heap := h1 }) (ch := []) os un1 hok1 bare (fun b z => absurd z (by simp))
  obtain ⟨m, ns, _⟩ := id I2.loc
  have ns' : h1.Ns C m := ns
  have u2 : Un (frs X.stack) fp H3 H' s3.heap h1 := I2.base
  have fC : H' C = none := I2.free
  have I4 : Inv X pins0 σ0 H' { s' with heap := h1 } := I3.call' (s' := { s' with heap := h1 }) (ch := fp) I2.os u2 I2.hok I2.bare (fun b hb => ⟨(hfp b hb).2.2.2.1, (hfp b hb).2.1, (hfp b hb).2.2.2.2.1, (hfp b hb).2.2.2.2.2⟩)
  have okC : FpOk X pins0 H' C := I3.fpOk (Nat.le_of_eq hC.symm) fC
  have nC : C ∉ frs X.stack := fun z => by
    rcases List.mem_cons.mp (I4.stkSub C z) with y | y
    · exact okC.2.1 y
    · exact okC.2.2.1 y
  refine ⟨m, ns', fun h2 sb => ?_⟩
  have I5 : Inv X pins0 σ0 H' { s' with heap := h2 } := Inv.turned (s := { s' with heap := h1 }) (it := C) (t' := s'.toks) I4 (fun b o hb e => (sb.2 b hb).trans e) okC.1 okC.2.1 okC.2.2.2.1 okC.2.2.2.2.1 okC.2.2.2.2.2
  refine pass_held (L := X.env.locals) fl (held_but sb nC ns' hw') fun h3 hw3 up3 => hxe _ _ ?_
  have hw3' : Heap.HeldW (PySem.W.hideAll B [C]) (X.env :: X.outer) a cls (.ref t) X.env.locals h3 := by rw [← dx.st]; exact hw3
  refine leave_held (s := { s' with heap := h3 }) fl hw3' fun h4 fw4 up4 => ?_
  have n1 : X.s₀.heap.get? a = none := by
    cases z : X.s₀.heap.get? a with
    | none => rfl
    | some o =>
      obtain ⟨o', y⟩ := thr a o z
      rw [ne] at y; cases y
  refine fly_out (s := { s' with heap := h2 }) dx I5 (fun b o e1 hz hb => ?_) fw4 (up3.trans up4) n1 hn q
  have bC : b ≠ C := fun z => by
    subst z
    rcases hz with ⟨o', y⟩ | ⟨u, y⟩
    · rcases okC.2.2.2.1 with w | w
      · rw [dx.ex] at w; cases w
      · exact absurd (Nat.lt_of_lt_of_le (Heap.lt_size y) w) (Nat.lt_irrefl _)
    · rw [fC] at y; cases y
  have e2 : h1.get? b = some o := (sb.2 b bC).symm.trans e1
  have hz' : (∃ o', s.heap.get? b = some o') ∨ ∃ u, H' b = some u := hz.imp (fun ⟨o', y⟩ => thr b o' y) id
  have th : ∃ o2, s'.heap.get? b = some o2 := by
    rcases hz' with ⟨o', y⟩ | ⟨u, y⟩
    · exact un.there b o' y (by simp)
    · exact (hok b u y).there
  obtain ⟨o2, e3⟩ := th
  have e4 := kB b o2 e3 hz' hb
  have e5 := hw.1 b o2 e4
  rw [e2] at e5
  cases e5
  exact PySem.W.hideAll_get [C] e4 (by simpa using bC)
end
section
variable {X : Cx} {E : XK} {elt iter tg : Expr} {ifs : List Expr} {xs : List Str} {pos : Pos} {scope : Scope} {cl : List (Str × Addr)} {ts : List (Str × Nat)} {wi : TI} {te : TE} {g : TG} {tt : TT}
theorem pe_compX (dx : DefCx X) (hxe : ∀ e s', wpAny (model X.prog X.w) X.A (leaving X.env e) (fun _ s2 => CXX X.prog X.w X.outer X.H₀ X.s₀ E e s2) (fun e' s2 => CXX X.prog X.w X.outer X.H₀ X.s₀ E e' s2) s' → X.xe e s')
    (hc : X.calm = true) (O : CompOkL X xs ts scope cl) (hi : PI X tg iter wi) (hg : ∀ C s3 H3 fp, PG (cxComp X (nmsL xs ts) scope cl C s3 H3 fp) tg g)
    (ht : ∀ C s3 H3 fp, PIf (cxComp X (nmsL xs ts) scope cl C s3 H3 fp) ifs tt)
    (he : ∀ C s3 H3 fp xe, Passes (CXX X.prog X.w) ((cxComp X (nmsL xs ts) scope cl C s3 H3 fp).wish xe) E → PE ((cxComp X (nmsL xs ts) scope cl C s3 H3 fp).wish xe) elt te)
    (hs : ∀ x, foldedSetIterable iter X.env x = pure x := by intro _; rfl) : PE X (.ListComp elt [⟨tg, iter, ifs, 0⟩] scope pos) (tCompG wi g tt xs.length (sltOf ts) te) := by
  intro pins s σ H Q I h
  rw [eval_ListComp]
  refine comp_freeX rfl hs O.clos O.kind O.locs' (thn (hi pins s σ H _ I h) fun v s1 h1 => thn h1 fun itv s2 h2 => ?_)
  obtain ⟨it, fp, tn, J, H2, rfl, I2, T, st2, f2, q⟩ := h2
  have hD : H2 s2.heap.objs.size = none := I2.hok.fresh (Nat.le_refl _)
  obtain ⟨W, ⟨m0, w0⟩, turn⟩ := q s2.heap.objs.size hD
  refine wpAny_newObj_type ?_
  have I3 : Inv X pins σ (upd H2 s2.heap.objs.size (.lst [])) { s2 with heap := s2.heap.push { cls := .type "list", dict := none, data := .seq ([] : List Value).toArray } } :=
    I2.laid (a := s2.heap.objs.size) (o := .lst []) (t' := s2.toks) (fun b u e => Heap.get?_push_of_some _ e) (Nat.le_refl _) ⟨Nat.zero_le _, [], 0, .nil, Heap.get?_push_size _ rfl⟩
  generalize hs3 : ({ s2 with heap := s2.heap.push { cls := .type "list", dict := none, data := .seq ([] : List Value).toArray } } : Shared) = s3 at I3
  have sz3 : s3.heap.objs.size = s2.heap.objs.size + 1 := by rw [← hs3, Heap.size_push]
  have old3 : ∀ b u, s2.heap.get? b = some u → s3.heap.get? b = some u := fun b u e => by rw [← hs3]; exact Heap.get?_push_of_some _ e
  generalize hH3 : upd H2 s2.heap.objs.size (.lst []) = H3 at I3 w0
  have fp2 : ∀ b ∈ fp, b < s2.heap.objs.size := fun b hb => by
    obtain ⟨o, e, _⟩ := T.obj _ _ st2 b hb
    exact Heap.lt_size e
  have hfp : ∀ b ∈ fp, FpOk X pins H3 b ∧ b < s3.heap.objs.size := fun b hb => by
    refine ⟨⟨?_, (f2 b hb).2⟩, by rw [sz3]; exact Nat.lt_succ_of_lt (fp2 b hb)⟩
    rw [← hH3, upd_ne (Nat.ne_of_lt (fp2 b hb))]
    exact (f2 b hb).1
  refine wpAny_newFunctionEnv O.nocell' (by intro y hy; simp at hy) (fun h₁ hns₁ hsb₁ => ?_) O.kind
  have old : ∀ b o, s3.heap.get? b = some o → h₁.get? b = some o := fun b o e => hsb₁.extBut b o (Nat.ne_of_lt (Heap.lt_size e)) (Heap.get?_push_of_some _ e)
  have start : Inv (cxComp X (nmsL xs ts) scope cl s3.heap.objs.size s3 H3 fp) [] (List.replicate xs.length none ++ taken σ (sltOf ts)) H3 { s3 with heap := h₁, toks := s3.toks + 0 } := compL_start O I3 hfp hns₁ old
  have st4 : tn 0 h₁ := T.keep _ _ _ st2 fun b hb o e => old b o (old3 b o e)
  have okX : ∀ {H' : Hp}, (∀ b ∈ fp, H' b = none) → ∀ b ∈ fp, FpOk (cxComp X (nmsL xs ts) scope cl s3.heap.objs.size s3 H3 fp) [] H' b := fun hn b hb => by
    refine ⟨hn b hb, Nat.ne_of_lt (hfp b hb).2, fun z => ?_, .inl hb, fun y c e => (f2 b hb).2.2.2.2.1 y c (O.sub y c e), fun p hp => absurd (show p ∈ ([] : List (Addr × Obj)) from hp) (by simp)⟩
    rcases List.mem_cons.mp (I3.stkSub b z) with e | e
    · exact (f2 b hb).2.1 e
    · exact (f2 b hb).2.2.1 e
  have loop : ∀ s₄ : Shared, s₄ = { s3 with heap := h₁, toks := s3.toks + 0 } →
      codeAny (model X.prog X.w) X.A (.compLoop (.ListComp elt [⟨tg, iter, ifs, 0⟩] scope pos) 0 (.ref it) (.ref s2.heap.objs.size) (compEnvC scope cl s3.heap.objs.size X.env))
        (postX (model X.prog X.w) X.A X.xe (EP X pins σ Q) (.ref s2.heap.objs.size) (compEnvC scope cl s3.heap.objs.size X.env)) s₄ := by
    rintro s₄ rfl
    refine compLoop_ifsX (fun n s' => ∃ i ys σ0 H', σ0.length = xs.length ∧ Inv (cxComp X (nmsL xs ts) scope cl s3.heap.objs.size s3 H3 fp) [] (σ0 ++ taken σ (sltOf ts)) H' s' ∧ tn i s'.heap ∧ (∀ b ∈ fp, H' b = none) ∧ W i n ys H') ?_ m0
      ⟨0, [], _, H3, by simp, start, st4, fun b hb => (hfp b hb).1.1, w0⟩
    rintro n s5 ⟨i, ys, σ0, H5, l0, I5, st5, fr5, w5⟩
    rcases turn i n ys H5 w5 with ⟨stop, qn⟩ | ⟨go, step⟩
    · refine thn (T.done (cxComp X (nmsL xs ts) scope cl s3.heap.objs.size s3 H3 fp) rfl rfl rfl hc i [] s5 (σ0 ++ taken σ (sltOf ts)) H5 _ I5 (okX fr5) st5 stop) fun r s6 ⟨hr, I6⟩ => ?_
      subst hr
      obtain ⟨m, hn, _⟩ := id I6.loc
      have u6 : Un (frs X.stack) fp H3 H5 s3.heap s6.heap := I6.base
      have fC : H5 s3.heap.objs.size = none := I6.free
      have J6 : Inv X pins σ H5 s6 := I3.call' (s' := s6) (ch := fp) I6.os u6 I6.hok I6.bare (fun b hb => ⟨(f2 b hb).2.2.2.1, (f2 b hb).2.1, (f2 b hb).2.2.2.2.1, (f2 b hb).2.2.2.2.2⟩)
      have oC : FpOk X pins H5 s3.heap.objs.size := I3.fpOk (Nat.le_refl _) fC
      exact ⟨m, hn, fun h' sb => ⟨.ref s2.heap.objs.size, H5, J6.turned (it := s3.heap.objs.size) (t' := s6.toks) (fun b o hb e => (sb.2 b hb).trans e) oC.1 oC.2.1 oC.2.2.2.1 oC.2.2.2.2.1 oC.2.2.2.2.2, rfl, qn⟩⟩
    · refine thn (T.item (cxComp X (nmsL xs ts) scope cl s3.heap.objs.size s3 H3 fp) rfl rfl rfl hc i [] s5 (σ0 ++ taken σ (sltOf ts)) H5 _ I5 (okX fr5) st5 go) fun r s6 ⟨u, hr, h6⟩ => ?_
      subst hr
      refine thn h6 fun _ s7 ⟨z, H7, I7, rz, yz, st7, fr7⟩ => ?_
      have I7' := I7.pinned (okX fr7) (T.obj _ _ st7)
      refine thn (hg s3.heap.objs.size s3 H3 fp _ s7 _ H7 z u _ I7' rz (step z H7 σ0 yz l0)) fun _ s8 ⟨σ8, H8, I8, ⟨σ1, l1, e8⟩, q8⟩ => ?_
      subst e8
      refine thn (ht s3.heap.objs.size s3 H3 fp _ s8 _ H8 _ I8 q8) fun b s9 ⟨H9, I9, q9⟩ => ?_
      cases b with
      | true =>
        rw [if_pos rfl] at q9 ⊢
        have hx := comp_pass (E := E) (N' := nmsL xs ts) (scope := scope) (cl := cl) (Q := EP X pins σ Q) (acc := .ref s2.heap.objs.size) dx hxe I3 (fun b hb => (hfp b hb).1) rfl
        refine wpAny_mono (he s3.heap.objs.size s3 H3 fp _ hx _ s9 _ H9 _ (I9.wish _) q9) (fun y s10 ⟨vy, H10, I10', ry, hD9, hl9, m', hm', w9⟩ => ?_) fun _ _ z => z
        have I10 := I10'.unwish
        refine thn (mt_append (X := cxComp X (nmsL xs ts) scope cl s3.heap.objs.size s3 H3 fp) _ s10 _ H10 (.ref s2.heap.objs.size) [vy] (.ref s2.heap.objs.size) [y] (fun _ H11 => H11 = upd H10 s2.heap.objs.size (.lst (ys ++ [vy]))) I10 rfl (.cons ry .nil) ⟨_, ys, vy, rfl, rfl, hD9, hl9, rfl⟩) fun _ s11 ⟨_, H11, I11, _, e11⟩ => ?_
        subst e11
        refine ⟨m', hm', i + 1, ys ++ [vy], σ1, _, l1, I11.unpinned, T.keep _ _ _ st7 fun b hb o e => (I11.pin (b, o) (List.mem_append_right _ (List.mem_append_right _ (mem_pinsAt hb e)))).1, fun b hb => ?_, w9⟩
        obtain ⟨o, e, d⟩ := T.obj _ _ st7 b hb
        exact (I11.pin (b, o) (List.mem_append_right _ (List.mem_append_right _ (mem_pinsAt hb e)))).2.1
      | false =>
        rw [if_neg Bool.false_ne_true] at q9 ⊢
        obtain ⟨m', hm', w9⟩ := q9
        refine ⟨m', hm', i + 1, ys, σ1, _, l1, I9.unpinned, T.keep _ _ _ st7 fun b hb o e => (I9.pin (b, o) (List.mem_append_right _ (List.mem_append_right _ (mem_pinsAt hb e)))).1, fun b hb => ?_, w9⟩
        obtain ⟨o, e, d⟩ := T.obj _ _ st7 b hb
        exact (I9.pin (b, o) (List.mem_append_right _ (List.mem_append_right _ (mem_pinsAt hb e)))).2.1
  have hst := codeAny_compStart_list (loop _ rfl) (T.self X.A 0 _ _ _ st4 (loop _ rfl))
  exact hst
end
noncomputable def XO (cls : Value) (e : Addr) : HO := .ext fun h => ∃ oe, h.get? e = some oe ∧ oe.cls = cls
theorem Inv.track {X : Cx} {pins : List (Addr × Obj)} {σ : St} {H : Hp} {s : Shared} {a : Addr} {o : HO} (I : Inv X pins σ H s) (hn : X.s₀.heap.get? a = none) (hH : H a = none) (hL : a ≠ X.env.locals) (hc : ∀ x c, X.env.cells.lookup x = some c → c ≠ a)
    (hp : ∀ p ∈ X.pn ++ pins, p.1 ≠ a) (new : ObjOk X.prog X.w (upd H a o) s.heap a o) : Inv X pins σ (upd H a o) s := by
  have ne : ∀ b u, H b = some u → b ≠ a := fun b u e z => by rw [z, hH] at e; cases e
  have b := I.base
  refine ⟨I.ok, I.os, I.bare, ⟨b.keep, b.slot, fun c u e1 e2 e3 => ?_, b.there, fun c xs e => ?_, fun c u v e => ?_, fun c ps e => ?_⟩, I.loc, I.cell, ?_, fun x c e => ?_, fun p hq => ?_, fun c u e => ?_, I.len⟩
  · rw [upd_ne (fun z => by rw [z, hn] at e1; cases e1)]
    exact b.free c u e1 e2 e3
  · have y := b.tups c xs e
    rw [upd_ne (ne _ _ y)]; exact y
  · have y := b.frzs c u v e
    rw [upd_ne (ne _ _ y)]; exact y
  · obtain ⟨more, y⟩ := b.tbls c ps e
    exact ⟨more, by rw [upd_ne (ne _ _ y)]; exact y⟩
  · rw [upd_ne (Ne.symm hL)]; exact I.free
  · rw [upd_ne (hc x c e)]; exact I.freeC x c e
  · obtain ⟨y1, y2, y3⟩ := I.pin p hq
    exact ⟨y1, by rw [upd_ne (hp p hq)]; exact y2, y3⟩
  · by_cases z : c = a
    · subst z
      rw [upd_same] at e
      cases e
      exact new
    · rw [upd_ne z] at e
      refine (I.hok c u e).stay (fun _ _ _ y => y) (fun d y => ?_) (fun d xs y => ?_)
      · rw [upd_ne (ne _ _ y)]; exact y
      · rw [upd_ne (ne _ _ y)]; exact y
noncomputable def exEndsK (i : Nat) (e : Addr) (cls : Value) (D : Ends) : Ends := { nx := fun σ H => D.nx (σ.set i none) (upd H e (XO cls e)), rt := D.rt, bk := fun σ H => D.bk (σ.set i none) H, ct := fun σ H => D.ct (σ.set i none) H }
noncomputable def ETK (K : PySem.W.Frag) (CS : Addr) (i : Nat) (ts : Addr → Obj → TS) (D : Ends) : St → XK := fun σ cls _ H =>
  PySem.W.subIn K cls (.ref CS) = some true ∧ ∀ e oe, H e = none → oe.cls = cls → ts e oe (exEndsK i e cls D) (σ.set i (some (.ref e))) H
noncomputable def tTryK (K : PySem.W.Frag) (CS : Addr) (i : Nat) (tb : (St → XK) → TS) (ts : Addr → Obj → TS) : TS := fun D σ H => tb (ETK K CS i ts D) D σ H
theorem ps_tryK {X : Cx} {body : List Stmt} {b0 : Stmt} {suite : List Stmt} {S n : Str} {np hpos pos : Pos} {CS : Addr} {i : Nat} {tb : (St → XK) → TS} {ts : Addr → Obj → TS} (dx : DefCx X) (hN : X.N.Nodup) (hi : X.N[i]? = some n) (hl : X.env.scope.names.lookup n = some .local)
    (hg : Gl X S) (hm : X.mg S = some (.ref CS)) (ca : Catch X.K CS)
    (hb : ∀ (xe : Value → Shared → Prop) (pn : List (Addr × Obj)) (E : St → XK), PassesS (CXX X.prog X.w) (X.tried xe pn) E → PSs (X.tried xe pn) body (tb E))
    (hs : ∀ (e : Addr) (oe : Obj), PSs (X.held e oe) (b0 :: suite) (ts e oe)) (hdb : (S == ("__debug__" : Str)) = false := by decide) :
    PS X (.Try body [.ExceptHandler (some (.Name S np)) (some n) (b0 :: suite) hpos] [] [] pos) (tTryK X.K CS i tb ts) := by
  intro pins s σ H D I h
  have pass : PassesS (CXX X.prog X.w) (X.tried (fun e s1 => wpAny (model X.prog X.w) X.A (noteFrame e X.env) (fun _ s2 => wpAny (model X.prog X.w) X.A (setFlight e none) (fun _ s3 =>
      wpAny (model X.prog X.w) X.A (handleBy e X.env [.ExceptHandler (some (.Name S np)) (some n) (b0 :: suite) hpos]) (SP X pins D) X.xe s3) X.xe s2) X.xe s1) pins) (ETK X.K CS i ts D) := by
    intro pins' σ' H1 s1 e s' I' hx
    obtain ⟨a, cls, H', rfl, os, bare, un, hok, ⟨B, t, fw, ne, hn, kB⟩, hk, q⟩ := hx
    have J : Inv X pins σ' H1 s1 := I'.untried
    have hu : ∀ b ∈ frs X.stack, H' b = none := fun b z => by
      obtain ⟨_, o, e0, _⟩ := J.stack.mem z
      exact un.free b o e0 (J.stkFree b z) (by simp)
    have keep5 : ∀ h5 : Heap, B.StaysIn h5 → s'.heap.UpToSlots h5 → Un (frs X.stack) [] H1 H' s1.heap h5 ∧ HOk X.prog X.w H' h5 := fun h5 st up =>
      fly_keeps un hok kB fw.2.2.1 (fun _ z => z) (fun b z nz => absurd z nz) hu st up
    have inv5 : ∀ h5 : Heap, B.StaysIn h5 → s'.heap.UpToSlots h5 → Inv X pins σ' H' { s' with heap := h5 } := fun h5 st up =>
      J.call' (s' := { s' with heap := h5 }) (ch := []) os (keep5 h5 st up).1 (keep5 h5 st up).2 bare (fun b z => absurd z (by simp))
    have neL : a ≠ X.env.locals := fun z => by
      obtain ⟨m, ⟨o, _, _, ho, _⟩, _⟩ := J.loc
      rw [← z, ne] at ho; cases ho
    have nfs : a ∉ X.fs := fun z => by
      obtain ⟨_, o, e0, _⟩ := J.funs.mem z
      rw [ne] at e0; cases e0
    have fw' : Heap.FlyingW B (X.env :: X.outer) a cls (.ref t) s'.heap := by rw [← dx.st]; exact fw
    show wpAny (model X.prog X.w) X.A (noteFrame (.ref a) X.env) _ X.xe s'
    refine wpAny_looks_onW (by rw [J.ok.frames, dx.st]) dx.fr fw' fun h4 held4 up4 => ?_
    refine wpAny_landsW held4 fun h5 fl5 up5 => ?_
    have up := up4.trans up5
    have J5 := inv5 h5 fl5.1 up
    obtain ⟨oe, vs, hoe, hoc, hod, _⟩ := fl5.first
    have K5 : Inv (X.held a oe) pins σ' H' { s' with heap := h5 } := J5.held hoe hn neL nfs (fun v z => by rw [hod] at z; cases z)
    refine wpAny_handleBy_cons (codeAny_handlers_test (ld_glob K5 hg hm ?_ hdb)) (by intro z; cases z)
    refine exc_matches K5.kIn hoe ca (by rw [hoc]; exact hk) ?_
    refine codeAny_handlers_suite_as ?_
    refine lands_againW fl5 fun h6 fl6 up6 => ?_
    have J6 := inv5 h6 fl6.1 (up.trans up6)
    obtain ⟨oe6, vs6, hoe6, hoc6, hod6, _⟩ := fl6.first
    have K6 : Inv (X.held a oe6) pins σ' H' { s' with heap := h6 } := J6.held hoe6 hn neL nfs (fun v z => by rw [hod6] at z; cases z)
    refine store_ok (X := X.held a oe6) K6 hN hi (.inl hl) (v := .ref a) rfl (fun s7 I7 => ?_) (.inr hl)
    refine wpAny_mono (hs a oe6 pins s7 _ H' (exEndsK i a cls D) I7 (q a oe6 hn hoc6)) (fun f s8 h8 => ?_) (fun _ _ z => z.elim)
    cases f with
    | next =>
      obtain ⟨σ8, H8, I8, q8⟩ := h8
      refine goes (X := X.held a oe6) I8 hN hi hl fun s9 I9 => ⟨_, _, (I9.unheld I.ok.hd).track (a := a) (o := XO cls a) (J.gone dx ne).1 ?_ neL (fun x c e z => ?_) (fun p hp z => ?_) ⟨⟨oe6, I9.heldAt, hoc6⟩, ⟨oe6, I9.heldAt⟩, fun h1 h2 ⟨o, y1, y2⟩ k => ⟨o, k o y1, y2⟩⟩, q8⟩
      · exact (I9.pin (a, oe6) (List.mem_append_left _ List.mem_cons_self)).2.1
      · subst z
        obtain ⟨v, o, y1, y2⟩ := I9.cell x c e
        have y3 := (I9.pin (c, oe6) (List.mem_append_left _ List.mem_cons_self)).2.2.2.2 v
        have y4 : s9.heap.get? c = some oe6 := I9.heldAt
        rw [y4] at y1
        cases y1
        exact y3 y2
      · have y := (J.pin p hp).1
        rw [z, ne] at y
        cases y
    | brk =>
      obtain ⟨σ8, H8, I8, q8⟩ := h8
      exact goes (X := X.held a oe6) I8 hN hi hl fun s9 I9 => ⟨_, _, I9.unheld I.ok.hd, q8⟩
    | cont =>
      obtain ⟨σ8, H8, I8, q8⟩ := h8
      exact goes (X := X.held a oe6) I8 hN hi hl fun s9 I9 => ⟨_, _, I9.unheld I.ok.hd, q8⟩
    | ret u =>
      obtain ⟨v8, σ8, H8, I8, r8, q8⟩ := h8
      exact goes (X := X.held a oe6) I8 hN hi hl fun s9 I9 => ⟨_, _, _, I9.unheld I.ok.hd, r8, q8⟩
  refine wpAny_Try_except (wpAny_mono (hb _ pins _ pass [] s σ H D I.tried h) (fun f s1 hf => ?_) fun e s1 he => he)
  cases f with
  | next =>
    obtain ⟨σ', H', J, q⟩ := hf
    exact wpAny_execs_nil ⟨σ', H', J.untried, q⟩
  | brk =>
    obtain ⟨σ', H', J, q⟩ := hf
    exact ⟨σ', H', J.untried, q⟩
  | cont =>
    obtain ⟨σ', H', J, q⟩ := hf
    exact ⟨σ', H', J.untried, q⟩
  | ret u =>
    obtain ⟨v, σ', H', J, r, q⟩ := hf
    exact ⟨v, σ', H', J.untried, r, q⟩
section
open PySem.W
variable {X : Cx}
theorem Inv.xo {pins : List (Addr × Obj)} {σ : St} {H : Hp} {s : Shared} {e : Addr} {cls : Value} (I : Inv X pins σ H s) (h : H e = some (XO cls e)) : ∃ oe, s.heap.get? e = some oe ∧ oe.cls = cls := (show ObjOk X.prog X.w H s.heap e (XO cls e) from I.hok e _ h).1
theorem call_isinstE : CallR X (.builtin "isinstance") (fun xs H Q => ∃ (e C D : Addr) (b : Bool), xs = [.ref e, .ref D] ∧ H e = some (XO (.ref C) e) ∧ XInst X.K C ∧ kitOne X.K (.ref C) (.ref D) = some b ∧ Q (.bl b) H) := by
  intro pins s σ H xs us Q I r h
  obtain ⟨e, C, D, b, rfl, hc, x, k, q⟩ := h
  obtain ⟨u, w', rfl, r1, r2⟩ := vals2 r
  cases r1
  cases r2
  exact kia_one (kitx_exc x) I.kIn (I.xo hc) k (fun z => nomatch z) fun tk => ⟨.bl b, H, I.tok _, rfl, q⟩
theorem call_isinstEB : CallR X (.builtin "isinstance") (fun xs H Q => ∃ (e C : Addr) (T : String) (b : Bool), xs = [.ref e, .ty T] ∧ H e = some (XO (.ref C) e) ∧ XInst X.K C ∧ kitOne X.K (.ref C) (.type T) = some b ∧ Q (.bl b) H) := by
  intro pins s σ H xs us Q I r h
  obtain ⟨e, C, T, b, rfl, hc, x, k, q⟩ := h
  obtain ⟨u, w', rfl, r1, r2⟩ := vals2 r
  cases r1
  cases r2
  exact kia_one (kitx_exc x) I.kIn (I.xo hc) k (fun z => nomatch z) fun tk => ⟨.bl b, H, I.tok _, rfl, q⟩
theorem call_isinstET : CallR X (.builtin "isinstance") (fun xs H Q => ∃ (e C p : Addr) (Ds : List Addr) (b : Bool), xs = [.ref e, .ref p] ∧ H p = some (.tup (Ds.map V.ref)) ∧ H e = some (XO (.ref C) e) ∧ XInst X.K C ∧ kitAny X.K (.ref C) (Ds.map Value.ref) = some b ∧ Q (.bl b) H) := by
  intro pins s σ H xs us Q I r h
  obtain ⟨e, C, p, Ds, b, rfl, hp, hc, x, k, q⟩ := h
  obtain ⟨u, w', rfl, r1, r2⟩ := vals2 r
  cases r1
  cases r2
  obtain ⟨_, its, rv, tp⟩ := (show ObjOk X.prog X.w H s.heap p (.tup (Ds.map V.ref)) from I.hok p _ hp)
  have ei := vals_refs rv
  subst ei
  obtain ⟨⟨cls, dd, data, sl⟩, h1, h2, n, h3⟩ := tp
  simp only at h2 h3
  subst h2 h3
  exact kia_tup (kitx_exc x) I.kIn (I.xo hc) h1 k (fun z => nomatch z) fun tk => ⟨.bl b, H, I.tok _, rfl, q⟩
end
theorem comp_tupRG {K : PySem.W.Frag} {a : Addr} {xs : List V} {te : TE} {st : St} {H1 : Hp} {Q : VK} {D : Addr} (R : Nat → List V → Hp → Prop) (hD : H1 D = none) (q1 : SqT K H1 a xs) (hn : xs.length ≤ sizeLine) (h0 : R 0 [] (upd H1 D (.lst [])))
    (hs : ∀ (i : Nat) (x : V) (ys : List V) (H2 : Hp) (k : VK), xs[i]? = some x → Same H1 H2 → H2 D = some (.lst ys) → ys.length = i → R i ys H2 → (∀ y H4, Same H2 H4 → R (i + 1) (ys ++ [y]) (upd H4 D (.lst (ys ++ [y]))) → k y H4) → te (some x :: st) H2 k)
    (hd : ∀ ys H2, Same H1 H2 → H2 D = some (.lst ys) → ys.length = xs.length → R xs.length ys H2 → Q (.ref D) H2) : CompG (Itt K a) (gName 0) tYes te 1 st D H1 Q := by
  refine ⟨fun i m ys H2 => m = xs.length - i ∧ i ≤ xs.length ∧ ys.length = i ∧ Same H1 H2 ∧ H2 D = some (.lst ys) ∧ R i ys H2, ⟨xs.length, by simp, Nat.zero_le _, rfl, same_upd (Same.refl H1) hD, upd_same, h0⟩, ?_⟩
  rintro i m ys H2 ⟨rfl, hi, hl, sm, e, r⟩
  by_cases hlt : i < xs.length
  · have ex : xs[i]? = some xs[i] := List.getElem?_eq_getElem hlt
    refine .inr ⟨⟨xs, _, sm.tup q1, ex⟩, ?_⟩
    rintro x H3 σ0 ⟨rfl, hx⟩ l0
    have hx' := hx xs (sm.tup q1)
    obtain ⟨a', rfl⟩ : ∃ a, σ0 = [a] := by
      match σ0, l0 with
      | [a], _ => exact ⟨a, rfl⟩
    refine ⟨⟨[some x], rfl, rfl⟩, ?_⟩
    exact hs i x ys _ _ hx' sm e hl r fun y H4 s4 r4 => ⟨s4 _ _ e, by omega, xs.length - (i + 1), by omega, rfl, hlt, by simp [hl], same_upd (sm.trans s4) hD, upd_same, r4⟩
  · have ei : i = xs.length := by omega
    subst ei
    exact .inl ⟨⟨xs, sm.tup q1, Nat.le_refl _⟩, hd ys H2 sm e hl r⟩
noncomputable abbrev SeqAt2 (H : Hp) (a : Addr) (xs : List V) : Prop := H a = some (.lst xs) ∨ H a = some (.tup xs)
theorem SeqAt2.keep {H H' : Hp} {a : Addr} {xs : List V} (h : SeqAt2 H a xs) (s : Same H H') : SeqAt2 H' a xs := h.imp (s _ _) (s _ _)
theorem SeqAt2.sq {K : PySem.W.Frag} {H : Hp} {a : Addr} {xs : List V} (h : SeqAt2 H a xs) : SqL K H a xs ∨ SqT K H a xs := h.imp SqL.of SqT.of
theorem SeqAt2.ix {K : PySem.W.Frag} {H : Hp} {a : Addr} {xs : List V} {i : Int} {v : V} {Q : VK} (h : SeqAt2 H a xs) (e : atI xs i = some v) (q : Q v H) : rIx K (.ref a) (.int i) H Q := by
  rcases h with h | h
  · exact .inl ⟨a, xs, i, v, rfl, rfl, SqL.of h, e, q⟩
  · exact .inr (.inl ⟨a, xs, i, v, rfl, rfl, SqT.of h, e, q⟩)
theorem seq_comp {K : PySem.W.Frag} {a : Addr} {xs : List V} {te : TE} {st : St} {H1 : Hp} {Q : VK} (hq : SeqAt2 H1 a xs) (hn : xs.length ≤ sizeLine) (R : Addr → Nat → List V → Hp → Prop)
    (h0 : ∀ D, H1 D = none → R D 0 [] (upd H1 D (.lst [])))
    (hs : ∀ (D : Addr) (i : Nat) (x : V) (ys : List V) (H2 : Hp) (k : VK), H1 D = none → xs[i]? = some x → Same H1 H2 → H2 D = some (.lst ys) → ys.length = i → R D i ys H2 → (∀ y H4, Same H2 H4 → R D (i + 1) (ys ++ [y]) (upd H4 D (.lst (ys ++ [y]))) → k y H4) → te (some x :: st) H2 k)
    (hd : ∀ D ys H2, H1 D = none → Same H1 H2 → H2 D = some (.lst ys) → ys.length = xs.length → R D xs.length ys H2 → Q (.ref D) H2) :
    (SqL K H1 a xs ∧ ∀ D, H1 D = none → CompG (Itl K a) (gName 0) tYes te 1 st D H1 Q) ∨ (SqT K H1 a xs ∧ ∀ D, H1 D = none → CompG (Itt K a) (gName 0) tYes te 1 st D H1 Q) := by
  rcases hq with h | h
  · exact .inl ⟨SqL.of h, fun D hD => comp_listRG (R D) hD (SqL.of h) hn (h0 D hD) (fun i x ys H2 k a1 a2 a3 a4 a5 => hs D i x ys H2 k hD a1 a2 a3 a4 a5) fun ys H2 => hd D ys H2 hD⟩
  · exact .inr ⟨SqT.of h, fun D hD => comp_tupRG (R D) hD (SqT.of h) hn (h0 D hD) (fun i x ys H2 k a1 a2 a3 a4 a5 => hs D i x ys H2 k hD a1 a2 a3 a4 a5) fun ys H2 => hd D ys H2 hD⟩
end L2
set_option maxHeartbeats 4000000
namespace L2
open PySem PySem.Spec PyProof.Rows PySem.W Gc
section
variable {prog : Program} {w : World} {A : Around} {E : Value → Shared → Prop} {s : Shared}
end
section
variable {X : Cx}
end
end L2
set_option maxHeartbeats 4000000
namespace L2
open PySem PySem.Spec PyProof.Rows
end L2
set_option maxHeartbeats 4000000
namespace L2
open PySem PySem.Spec PyProof.Rows PySem.W Gc
section
variable {prog : Program} {w : World} {A : Around} {E : Value → Shared → Prop} {s : Shared}
theorem oinit_kw {T nw : String} {o x : Value} {more : List Value} {kw : List (Str × Value)} (hl : typeLookup (.type T) "__init__" = pure (some (.builtin "object.__init__")))
    (hm : Bind.madeBy (.type T) = pure (some nw)) (hn : (some nw != some "object.__new__") = true) :
    Meets (Builtin.«object.__init__» ⟨o :: x :: more, kw⟩) (fun _ R t => t.TypeIs o T ∧ R (.ok (.ret .none)) t) :=
  Meets.of_wp fun prog w A R s ⟨ty, q⟩ => by
    repeat (any_goals (first | assumption | wp_step))
    exact ⟨_, rfl, q⟩
theorem ctype_kw {T nw : String} {bn : Builtin} {x : Value} {more : List Value} {kw : List (Str × Value)} {S : PySem.Spec} {Q : Value → Shared → Prop} (ft : TypeCalled T nw "object.__init__")
    (hn : (some nw != some "object.__new__") = true) (c1 : checkTypeCall T ⟨x :: more, kw⟩ = pure ()) (c2 : checkBuiltinCall nw ⟨.type T :: x :: more, kw⟩ = pure ())
    (c3 : ∀ o, argsOk "object.__init__" ⟨o :: x :: more, kw⟩) (en : entryFor table nw = some bn) (g : Meets (bn ⟨.type T :: x :: more, kw⟩) S)
    (h : S A.in1 (wants (fun o t => t.TypeIs o T ∧ Q o t) E) s) : wpAny (model prog w) A (call (.type T) (x :: more) kw) Q E s := by
  obtain ⟨hd0, tl0, mro0⟩ := ft.mro
  have mk := ft.made
  have sb := ft.sub
  refine wpAny_call (codeAny_of_tree (show wpAny _ _ (callAny (.type T) _) _ _ _ from wpAny_pure ⟨Code.quiet_builtin _ (by decide +kernel), codeAny_builtin F.entry_type_call ?_⟩))
  rw [Around.under_plain (weight_type_call_type T (x :: more) kw) (units_type_call_type T (x :: more) kw)]
  have k1 := ft.notType
  have k2 := ft.canCreate
  repeat (any_goals (first | assumption | wp_step))
  refine codeAny_mono (codeAny_call_builtin ft.plain en (wpAny_of_eq c2 (g prog w A.in1 _ s h))) fun r t hr => ?_
  cases r with
  | error e => exact hr
  | ok fl =>
    cases fl with
    | ret o =>
      obtain ⟨ty, q⟩ := hr
      have z1 := ft.init.lookup
      have z2 := ft.init.bind o
      repeat (any_goals (first | assumption | wp_step))
      refine codeAny_mono (codeAny_call_builtin ft.init.plain F.entry_object_init (ft.init.check _ _ _ _ _ _ _ _ ty (c3 o) (oinit_kw (more := more) (kw := kw) (x := x) z1 mk hn prog w A.in1 (wants (fun r t' => r = .none ∧ Q o t') E) t ⟨ty, rfl, q⟩))) fun r2 t2 h2 => ?_
      cases r2 with
      | error e => exact h2
      | ok f2 =>
        cases f2 with
        | ret r =>
          obtain ⟨rfl, q2⟩ := h2
          repeat (any_goals (first | assumption | wp_step))
        | _ => exact h2.elim
    | _ => exact hr.elim
end
theorem tc_enum_s (a v : Value) : checkTypeCall "enumerate" ⟨[a], [("start", v)]⟩ = pure () := by kernel_rfl
theorem nc_enum_s (a v : Value) : checkBuiltinCall "enumerate.__new__" ⟨[.type "enumerate", a], [("start", v)]⟩ = pure () := by kernel_rfl
theorem ai_enum_s (o a v : Value) : argsOk "object.__init__" ⟨[o, a], [("start", v)]⟩ := by
  unfold argsOk
  rw [signature?_of (id := "object.__init__") (n := "__tini__".toList) (o := "tcejbo".toList) (by kernel_rfl) F.owner_object]
  kernel_rfl
noncomputable def SIt (b : Bool) (h : Heap) (it t : Addr) (i : Nat) : Prop := match b with
  | true => h.IsTupleIter it t i
  | false => h.IsListIter it t i
noncomputable def SqH (b : Bool) (h : Heap) (t : Addr) (xs : Array Value) : Prop := match b with
  | true => h.IsTuple t xs
  | false => h.IsList t xs
noncomputable def SqB (b : Bool) (K : PySem.W.Frag) (H : Hp) (a : Addr) (xs : List V) : Prop := match b with
  | true => SqT K H a xs
  | false => SqL K H a xs
theorem SIt.typ {b : Bool} {h : Heap} {it t : Addr} {i : Nat} (x : SIt b h it t i) : ∃ o, h.get? it = some o ∧ ∀ v, o.data ≠ .cell v := by
  cases b with
  | true =>
    obtain ⟨o, e1, _, e2⟩ := (show h.IsTupleIter it t i from x)
    exact ⟨o, e1, fun v q => by rw [e2] at q; cases q⟩
  | false =>
    obtain ⟨o, e1, _, e2⟩ := (show h.IsListIter it t i from x)
    exact ⟨o, e1, fun v q => by rw [e2] at q; cases q⟩
theorem SIt.at {b : Bool} {h h' : Heap} {it t : Addr} {i : Nat} (x : SIt b h it t i) (k : ∀ o, h.get? it = some o → h'.get? it = some o) : SIt b h' it t i := by
  cases b with
  | true => exact (show h.IsTupleIter it t i from x).at k
  | false =>
    obtain ⟨o, e1, e2⟩ := (show h.IsListIter it t i from x)
    exact ⟨o, k o e1, e2⟩
theorem Inv.seqB {X : Cx} {pins : List (Addr × Obj)} {σ : St} {H : Hp} {s : Shared} {b : Bool} {a : Addr} {xs : List V} (I : Inv X pins σ H s) (h : SqB b X.K H a xs) : ∃ its, Vals xs its ∧ SqH b s.heap a its.toArray := by
  cases b with
  | true =>
    obtain ⟨its, rv, pl, hz⟩ := I.tuple h
    exact ⟨its, rv, pl⟩
  | false =>
    obtain ⟨its, rv, pl, hz⟩ := I.list h
    exact ⟨its, rv, pl.isList⟩
theorem Inv.seqB_inj {X : Cx} {pins : List (Addr × Obj)} {σ : St} {H : Hp} {s : Shared} {b : Bool} {a : Addr} {xs ys : List V} (I : Inv X pins σ H s) (h : SqB b X.K H a xs) (h' : SqB b X.K H a ys) : xs = ys := by
  cases b with
  | true => exact I.tuple_inj h h'
  | false => exact I.list_inj h h'
theorem SqB.keep {b : Bool} {K : PySem.W.Frag} {H H' : Hp} {a : Addr} {xs : List V} (h : SqB b K H a xs) (s : Same H H') : SqB b K H' a xs := by
  cases b with
  | true => exact s.tup h
  | false => exact s.seq h
section
variable {prog : Program} {w : World} {A : Around} {E : Value → Shared → Prop} {s : Shared}
theorem snext_item {b : Bool} {it t : Addr} {i : Nat} {xs : Array Value} {v : Value} {Q : Value → Shared → Prop} (hj : SIt b s.heap it t i) (ht : SqH b s.heap t xs) (hv : xs[i]? = some v)
    (k : ∀ g, SIt b g it t (i + 1) → Heap.SameBut it s.heap g → Q v { s with heap := g }) : wpAny (model prog w) A (Builtin.SmallTypes.nextOf (.ref it)) Q E s := by
  cases b with
  | true => exact tnext_item hj ht hv k
  | false => exact wpAny_nextOf_list_item hj ht hv k
theorem snext_end {b : Bool} {it t : Addr} {i : Nat} {xs : Array Value} {Q : Value → Shared → Prop} (hh : A.handled = none) (hj : SIt b s.heap it t i) (ht : SqH b s.heap t xs) (hv : xs[i]? = none)
    (k : ∀ g e, Heap.ExtBut it s.heap g → (∃ o, g.get? e = some o ∧ o.cls = .type "StopIteration") → E (.ref e) { s with heap := g }) : wpAny (model prog w) A (Builtin.SmallTypes.nextOf (.ref it)) Q E s := by
  cases b with
  | true => exact tnext_end hh hj ht hv k
  | false => exact wpAny_nextOf_list_end hh hj ht hv k
noncomputable def sItO (b : Bool) (a : Addr) : Obj := match b with
  | true => { cls := .type "tuple_iterator", data := .fields #[.ref a, rawInt 0] }
  | false => { cls := .type "list_iterator", data := .fields #[.ref a, .int 0 0] }
theorem iter_sq {b : Bool} {a : Addr} {xs : Array Value} {Q : Value → Shared → Prop} (h : SqH b s.heap a xs) (k : Q (.ref s.heap.objs.size) { s with heap := s.heap.push (sItO b a) }) : wpAny (model prog w) A (pyIter (.ref a)) Q E s := by
  cases b with
  | true => exact wpAny_pyIter_tuple h k
  | false => exact wpAny_pyIter_list h k
theorem es_new (b : Bool) (a : Addr) (t : Tok) :
    Meets (Builtin.«enumerate.__new__» ⟨[.type "enumerate", .ref a], [("start", .int 1 t)]⟩) (fun _ R s => (∃ xs, SqH b s.heap a xs) ∧
      R (.ok (.ret (.ref (s.heap.push (sItO b a)).objs.size))) { s with heap := (s.heap.push (sItO b a)).push { cls := .type "enumerate", data := .fields #[.none, .bool false, .ref s.heap.objs.size, rawInt 1, .none, .none] } }) :=
  .of_wp fun prog w A R s h => by
    obtain ⟨hp, g, dr, tk, os⟩ := s
    obtain ⟨⟨xs, hx⟩, h⟩ := h
    have sub := sub_enumerate
    wp_walk
    refine (wpAny_stack_any fun st => wpAny_pure ?_)
    split
    · rename_i c _ _ _ _ _
      cases (c == Value.type "enumerate")
      · wp_walk using iter_sq hx
        exact ⟨_, rfl, h⟩
      · wp_walk using iter_sq hx
        exact ⟨_, rfl, h⟩
    · wp_walk using iter_sq hx
      exact ⟨_, rfl, h⟩
theorem es_call {b : Bool} {a : Addr} {t : Tok} {xs : Array Value} {Q : Value → Shared → Prop} (hT : SqH b s.heap a xs)
    (k : ∀ g, IsEnum g (s.heap.objs.size + 1) s.heap.objs.size 1 .none → SIt b g s.heap.objs.size a 0 → (∀ c o, s.heap.get? c = some o → g.get? c = some o) → Q (.ref (s.heap.objs.size + 1)) { s with heap := g }) :
    wpAny (model prog w) A (call (.type "enumerate") [.ref a] [("start", .int 1 t)]) Q E s := by
  refine ctype_kw F.called_enumerate (by decide) (tc_enum_s _ _) (nc_enum_s _ _) (fun o => ai_enum_s o _ _) F.entry_enumerate_new (es_new b a t) ⟨⟨xs, hT⟩, ?_⟩
  have z1 : (s.heap.push (sItO b a)).objs.size = s.heap.objs.size + 1 := Heap.size_push ..
  have fr : Obj.isFreed (sItO b a) = false := by cases b <;> rfl
  have g2 : ((s.heap.push (sItO b a)).push { cls := .type "enumerate", data := .fields #[.none, .bool false, .ref s.heap.objs.size, rawInt 1, .none, .none] }).get? (s.heap.push (sItO b a)).objs.size = some _ := Heap.get?_push_size _ rfl
  have g1 : ((s.heap.push (sItO b a)).push { cls := .type "enumerate", data := .fields #[.none, .bool false, .ref s.heap.objs.size, rawInt 1, .none, .none] }).get? s.heap.objs.size = some _ := Heap.get?_push_of_some _ (Heap.get?_push_size _ fr)
  show _ ∧ _
  rw [z1] at g2 ⊢
  refine ⟨⟨_, g2, rfl⟩, k _ g2 ?_ fun b o x => Heap.get?_push_of_some _ (Heap.get?_push_of_some _ x)⟩
  cases b with
  | true => exact ⟨_, g1, rfl, rfl⟩
  | false => exact ⟨_, g1, rfl, rfl⟩
theorem es_next {b : Bool} {e it t : Addr} {i : Nat} {j : Int} {xs : Array Value} {v old : Value} {Q : Value → Shared → Prop} (he : IsEnum s.heap e it j old) (hi : SIt b s.heap it t i) (ht : SqH b s.heap t xs) (hv : xs[i]? = some v) (ne : e ≠ it)
    (k : ∀ g, IsEnumOut g e it (j + 1) v s.heap.objs.size → SIt b g it t (i + 1) → g.get? s.heap.objs.size = some { cls := .type "tuple", data := .seq #[.int j s.toks, v] } →
      (∀ b o, b ≠ e → b ≠ it → s.heap.get? b = some o → g.get? b = some o) → Q (.ref s.heap.objs.size) { s with heap := g, toks := s.toks + 1 }) :
    wpAny (model prog w) A (Builtin.«enumerate.__next__» ⟨[.ref e], []⟩) (fun f s' => ∃ r, f = .done (.ret r) ∧ Q r s') E s := by
  obtain ⟨hp, gn, dr, tk, os⟩ := s
  show wpAny _ _ (field (.ref e) 2 >>= _) (_) _ _
  refine (wpAny_bind (wpAny_field he rfl (x := .ref it) rfl ?_))
  refine (wpAny_bind (snext_item hi ht hv fun g1 i1 s1 => ?_))
  replace s1 : Heap.SameBut it hp g1 := s1
  have e1 : IsEnum g1 e it j old := (s1.2 e ne).trans he
  show wpAny _ _ (field (.ref e) 3 >>= _) (_) _ (⟨g1, gn, dr, tk, os⟩)
  refine (wpAny_bind (wpAny_field e1 rfl (x := rawInt j) rfl ?_))
  show wpAny _ _ (field (.ref e) 4 >>= _) (_) _ (⟨g1, gn, dr, tk, os⟩)
  refine (wpAny_bind (wpAny_field e1 rfl (x := .none) rfl ?_))
  show wpAny _ _ (mkInt j >>= _) (_) _ (⟨g1, gn, dr, tk, os⟩)
  refine (wpAny_bind (wpAny_mkInt ?_))
  show wpAny _ _ (setField (.ref e) 3 (rawInt (j + 1)) >>= _) (_) _ (⟨g1, gn, dr, tk + 1, os⟩)
  refine (wpAny_bind (wpAny_setField_rec e1 (by simp) fun g2 e2 s2 => ?_))
  replace s2 : Heap.SameBut e g1 g2 := s2
  replace e2 : IsEnum g2 e it (j + 1) old := e2
  show wpAny _ _ (setField (.ref e) 4 .none >>= _) (_) _ (⟨g2, gn, dr, tk + 1, os⟩)
  refine (wpAny_bind (wpAny_setField_rec e2 (by simp) fun g3 e3 s3 => ?_))
  replace s3 : Heap.SameBut e g2 g3 := s3
  replace e3 : IsEnum g3 e it (j + 1) old := e3
  show wpAny _ _ (newTuple [.int j tk, v] >>= _) (_) _ (⟨g3, gn, dr, tk + 1, os⟩)
  refine (wpAny_bind (wpAny_newTuple ?_))
  have e4 : IsEnum (g3.push { cls := .type "tuple", data := .seq #[.int j tk, v] }) e it (j + 1) old := Heap.get?_push_of_some _ e3
  have z3 : g3.objs.size = hp.objs.size := by rw [s3.1, s2.1, s1.1]
  have t4 : (g3.push { cls := .type "tuple", data := .seq #[.int j tk, v] }).get? g3.objs.size = some { cls := .type "tuple", data := .seq #[.int j tk, v] } := Heap.get?_push_size _ rfl
  have k4 : ∀ b o, b ≠ e → b ≠ it → hp.get? b = some o → (g3.push { cls := .type "tuple", data := .seq #[.int j tk, v] }).get? b = some o := fun b o be bi q =>
    Heap.get?_push_of_some _ (s3.extBut b o be (s2.extBut b o be (s1.extBut b o bi q)))
  have i4 : SIt b (g3.push { cls := .type "tuple", data := .seq #[.int j tk, v] }) it t (i + 1) :=
    i1.at fun o q => Heap.get?_push_of_some _ (s3.extBut it o ne.symm (s2.extBut it o ne.symm q))
  rw [z3] at t4
  have lt : e < hp.objs.size := Heap.lt_size he
  rw [z3]
  generalize g3.push { cls := .type "tuple", data := .seq #[.int j tk, v] } = g4 at *
  show wpAny _ _ (Builtin.SmallTypes.ownedTupleIsFree (.ref e) >>= _) (_) _ (⟨g4, gn, dr, tk + 1, os⟩)
  refine (wpAny_bind ?_)
  unfold Builtin.SmallTypes.ownedTupleIsFree
  refine (wpAny_bind (wpAny_field e4 rfl (x := .none) rfl (wpAny_pure ?_)))
  simp only [if_true]
  refine (wpAny_bind (wpAny_rule ?_))
  refine (wpAny_bind (wpAny_field e4 rfl (x := old) rfl ?_))
  refine (wpAny_bind (wpAny_setField_rec e4 (by simp) fun g5 e5 s5 => ?_))
  replace s5 : Heap.SameBut e g4 g5 := s5
  replace e5 : IsEnum g5 e it (j + 1) v := e5
  show wpAny _ _ (Builtin.SmallTypes.ownedTupleHandOut (.ref e) (.ref hp.objs.size) >>= _) (_) _ (⟨g5, gn, dr, tk + 1, os⟩)
  refine (wpAny_bind ?_)
  unfold Builtin.SmallTypes.ownedTupleHandOut
  refine (wpAny_bind (wpAny_setField_rec e5 (by simp) fun g6 e6 s6 => ?_))
  replace s6 : Heap.SameBut e g5 g6 := s6
  replace e6 : IsEnumOut g6 e it (j + 1) v hp.objs.size := e6
  refine wpAny_setField_rec e6 (by simp) fun g7 e7 s7 => ?_
  replace s7 : Heap.SameBut e g6 g7 := s7
  replace e7 : IsEnumOut g7 e it (j + 1) v hp.objs.size := e7
  have up : ∀ b o, b ≠ e → g4.get? b = some o → g7.get? b = some o := fun b o nb q => s7.extBut b o nb (s6.extBut b o nb (s5.extBut b o nb q))
  refine (wpAny_bind (wpAny_letGo (wpAny_pure ⟨_, rfl, k g7 e7 (i4.at fun o q => up _ o ne.symm q) (up _ _ (Nat.ne_of_gt lt) t4) fun b o be bi q => up b o be (k4 b o be bi q)⟩)))
theorem es_pyNext {b : Bool} {e it t : Addr} {i : Nat} {j : Int} {xs : Array Value} {v old : Value} {Q : Option Value → Shared → Prop} (he : IsEnum s.heap e it j old) (hi : SIt b s.heap it t i) (ht : SqH b s.heap t xs) (hv : xs[i]? = some v) (ne : e ≠ it)
    (k : ∀ g, IsEnumOut g e it (j + 1) v s.heap.objs.size → SIt b g it t (i + 1) → g.get? s.heap.objs.size = some { cls := .type "tuple", data := .seq #[.int j s.toks, v] } →
      (∀ b o, b ≠ e → b ≠ it → s.heap.get? b = some o → g.get? b = some o) → Q (some (.ref s.heap.objs.size)) { s with heap := g, toks := s.toks + 1 }) : wpAny (model prog w) A (pyNext (.ref e)) Q E s := by
  have ty : s.TypeIs (.ref e) "enumerate" := ⟨_, he, rfl⟩
  unfold pyNext
  exact (wpAny_bind (wpAny_attempt (wpAny_callSpecial?_slot (name := Str.ofString "__next__") ty F.slot_enumerate_next (wpAny_call_entry F.slot_enumerate_next ty F.entry_enumerate_next (es_next he hi ht hv ne fun g a1 a2 a3 a4 => wpAny_pure (k g a1 a2 a3 a4)) (F.args_enumerate_next_1 _)))))
theorem es_pyEnd {b : Bool} {e it t : Addr} {i : Nat} {j : Int} {xs : Array Value} {old : Value} {Q : Option Value → Shared → Prop} (hh : A.handled = none) (he : IsEnum s.heap e it j old) (hi : SIt b s.heap it t i) (ht : SqH b s.heap t xs) (hv : xs[i]? = none)
    (k : ∀ g, Heap.ExtBut it s.heap g → Q none { s with heap := g }) : wpAny (model prog w) A (pyNext (.ref e)) Q E s := by
  have ty : s.TypeIs (.ref e) "enumerate" := ⟨_, he, rfl⟩
  unfold pyNext
  refine (wpAny_bind (wpAny_attempt (wpAny_callSpecial?_slot (name := Str.ofString "__next__") ty F.slot_enumerate_next (wpAny_call_entry F.slot_enumerate_next ty F.entry_enumerate_next ?_ (F.args_enumerate_next_1 _)))))
  show wpAny _ _ (field (.ref e) 2 >>= _) (_) _ _
  refine (wpAny_bind (wpAny_field he rfl (x := .ref it) rfl ?_))
  refine (wpAny_bind (snext_end hh hi ht hv fun g x hk hs => ?_))
  obtain ⟨o, ho, hc⟩ := hs
  refine (wpAny_bind (wpAny_isInstance (T := "StopIteration") (b := true) ⟨o, ho, hc⟩ isSubtype_stop ?_))
  exact wpAny_pure (k _ hk)
end
noncomputable def Ites (b : Bool) (K : PySem.W.Frag) (t : Addr) : It :=
  ⟨fun i H => ∃ xs x, SqB b K H t xs ∧ xs[i]? = some x,
   fun i H v H' => ∃ T x, H T = none ∧ H' = upd H T (.tup [.int ((i : Int) + 1), x]) ∧ v = .ref T ∧ ∀ xs, SqB b K H t xs → xs[i]? = some x,
   fun i H => ∃ xs, SqB b K H t xs ∧ xs.length ≤ i⟩
noncomputable def EStS (b : Bool) (e it t : Addr) (i : Nat) (h : Heap) : Prop := (∃ old, IsEnum h e it ((i : Int) + 1) old) ∧ SIt b h it t i
theorem turn_enumS {P : Program} {w : World} {K : PySem.W.Frag} {es : List Expr} {k0 : Nat} {p0 : Pos} {b : Bool} {e it t : Addr} (ne : e ≠ it) : Turn P w K (.Tuple es k0 p0) (Ites b K t) [e, it] e (EStS b e it t) where
  mem := by simp
  obj := fun i h ⟨⟨old, a⟩, d⟩ x hx => by
    simp only [List.mem_cons, List.not_mem_nil, or_false] at hx
    rcases hx with rfl | rfl
    · exact ⟨_, a, fun v q => by cases q⟩
    · exact d.typ
  keep := fun i h h' ⟨⟨old, a⟩, d⟩ kk => ⟨⟨old, kk _ (by simp) _ a⟩, d.at fun o q => kk _ (by simp) o q⟩
  item := by
    intro X hP hw hK hc i pins s σ H E I hf st hg
    subst hP hw hK
    obtain ⟨⟨old, a⟩, d⟩ := st
    obtain ⟨xs, x, q1, x1⟩ := hg
    obtain ⟨its, rv, pl⟩ := I.seqB q1
    obtain ⟨u, hu, ru⟩ := rv.get x1
    refine es_pyNext a d pl (v := u) (by simpa using hu) ne fun h' za zc zt zk => ?_
    refine ⟨_, rfl, wpAny_letOwnedTupleGo_enum (s := { s with heap := h', toks := s.toks + 1 }) za fun h2 za2 sb => ?_⟩
    have kk : ∀ b o, b ∉ [e, it] → s.heap.get? b = some o → h2.get? b = some o := fun b o hb q => by
      simp only [List.mem_cons, List.not_mem_nil, or_false, not_or] at hb
      exact (sb.2 b hb.1).trans (zk b o hb.1 hb.2 q)
    have sze : s.heap.objs.size ≠ e := fun q => absurd (Heap.lt_size a) (by rw [← q]; exact Nat.lt_irrefl _)
    have hT : h2.get? s.heap.objs.size = some { cls := .type "tuple", data := .seq #[.int ((i : Int) + 1) s.toks, u] } := (sb.2 _ sze).trans zt
    have fr : H s.heap.objs.size = none := I.hok.fresh (Nat.le_refl _)
    have I2 : Inv X pins σ (upd H s.heap.objs.size (.tup [.int ((i : Int) + 1), x])) { s with heap := h2, toks := s.toks + 1 } := I.turnLay (t' := s.toks + 1) (fp := [e, it]) kk hf (Nat.le_refl _)
      ⟨by show 2 ≤ sizeLine; decide, [.int ((i : Int) + 1) s.toks, u], .cons ⟨_, rfl⟩ (.cons ru .nil), ⟨_, hT, rfl, _, rfl⟩⟩
    refine ⟨.ref s.heap.objs.size, _, I2, rfl, ⟨_, x, fr, rfl, rfl, fun zs hz => by rw [I.seqB_inj hz q1]; exact x1⟩, ⟨⟨_, za2⟩, zc.at fun o q => (sb.2 _ ne.symm).trans q⟩, fun b hb => ?_⟩
    have h0 := (hf b hb).1
    have hlt : b ≠ s.heap.objs.size := fun q => by
      subst q
      simp only [List.mem_cons, List.not_mem_nil, or_false] at hb
      rcases hb with q | q
      · exact sze q
      · obtain ⟨o, e1, _⟩ := d.typ
        exact absurd (Heap.lt_size e1) (by rw [← q]; exact Nat.lt_irrefl _)
    rw [upd_ne hlt]
    exact h0
  done := by
    intro X hP hw hK hc i pins s σ H E I hf st hg
    subst hP hw hK
    obtain ⟨⟨old, a⟩, d⟩ := st
    obtain ⟨xs, q1, hl⟩ := hg
    obtain ⟨its, rv, pl⟩ := I.seqB q1
    have g1 := rv.length
    refine es_pyEnd (I.ok.hd hc) a d pl (by simp; omega) fun h' zk => ⟨rfl, I.turnedL (t' := s.toks) (fp := [e, it]) (fun b o hb q => ?_) hf⟩
    simp only [List.mem_cons, List.not_mem_nil, or_false, not_or] at hb
    exact zk b o hb.2 q
  self := fun _ _ _ _ _ st h => by
    obtain ⟨⟨old, a⟩, _⟩ := st
    exact wpAny_pyIter_enum a h
noncomputable def iEnumS (K : PySem.W.Frag) (ta : TA) (tk : TE) : TI := fun σ H R => ta σ H fun vs H1 => tk σ H1 fun y H2 => ∃ a b, vs = [.ref a] ∧ y = .int 1 ∧ (∃ xs, SqB b K H2 a xs) ∧ R (Ites b K a) H2
theorem cw_type_kw {M : Model} {A : Around} {E : Value → Shared → Prop} {s : Shared} {env : Env} {pos kp : Pos} {T : String} {x : Expr} {name : Str} {ke : Expr} {Q : Value → Shared → Prop}
    (h : wpAny M A (spliced (backTo pos (starEach [x] env))) (fun vs s1 => wpAny M A (eval ke env) (fun v s2 => wpAny M A (call (.type T) vs [(name, v)]) Q E s2) E s1) E s)
    (hs : starEach [x] env = (false, eval x env) :: starEach [] env) :
    wpAny M A (callWith pos (.type T) [] (backTo pos (starEach [x] env)) (backToKw pos (keywordEach [⟨some name, ke, kp⟩] env))) Q E s := by
  rw [hs] at h ⊢
  unfold callWith
  refine wpAny_bind (wpAny_holding (thn (evalArgs_kwB (x := eval x env) (rest := []) (Q := fun a s2 => wpAny M A (call (.type T) ([] ++ a.pos) a.kw) Q E s2) rfl (thn h fun vs s1 h1 => kws_cons (thn h1 fun v s2 h2 => kws_nil h2))) fun a s1 h1 => wpAny_bind (wpAny_standAt ?_)))
  refine wpAny_bind (wpAny_pure ?_)
  exact wpAny_bind (thn h1 fun r s2 hr => wpAny_bind (wpAny_holding (wpAny_point (wpAny_pure hr))))
theorem pi_enumS {X : Cx} {es : List Expr} {k0 : Nat} {p0 : Pos} {a ke : Expr} {ta : TA} {tk : TE} {p pos kp : Pos} (hg : Gl X "enumerate") (hm : X.mg "enumerate" = none) (ha : PA X [a] ta) (hk : PE X ke tk) (hs : starEach [a] X.env = (false, eval a X.env) :: starEach [] X.env := by rfl) :
    PI X (.Tuple es k0 p0) (.Call (.Name "enumerate" p) [a] [⟨some "start", ke, kp⟩] pos) (iEnumS X.K ta tk) := by
  intro pins s σ H R I h
  refine wpAny_bind (ld_blt I hg hm boot_enumerate (cw_type_kw (thn (ha pos pins s σ H _ I h) fun us s0 ⟨vs, H0, I0, r1, q0⟩ => thn (hk pins s0 σ H0 _ I0 q0) fun v s1 ⟨y, H1, I1, ry, q1⟩ => ?_) hs))
  obtain ⟨l1, b, e, ey, ⟨xs, q1⟩, q⟩ := q1
  subst e
  subst ey
  obtain ⟨tok, rfl⟩ := ry
  cases r1 with
  | cons r rr =>
    cases rr
    cases r
    obtain ⟨its, rv, pl⟩ := I1.seqB q1
    refine es_call pl fun h' za zb zk => ?_
    refine wpAny_pyIter_enum (s := { s1 with heap := h' }) za ?_
    have I2 : Inv X pins σ H1 { s1 with heap := h' } := I1.kept (t' := s1.toks) fun b o e => zk b o e
    refine ⟨_, [_, _], _, _, H1, rfl, I2, turn_enumS (e := s1.heap.objs.size + 1) (it := s1.heap.objs.size) (t := l1) (Nat.succ_ne_self _), ⟨⟨_, za⟩, zb⟩, fun b hb => ?_, q⟩
    simp only [List.mem_cons, List.not_mem_nil, or_false] at hb
    have ge : s1.heap.objs.size ≤ b := by rcases hb with z | z <;> (subst z; first | exact Nat.le_add_right _ _ | exact Nat.le_refl _)
    exact I1.fpOk ge (I1.hok.fresh ge)
theorem comp_enumRG {b : Bool} {K : PySem.W.Frag} {a : Addr} {xs : List V} {te : TE} {st : St} {H1 : Hp} {Q : VK} {D : Addr} (R : Nat → List V → Hp → Prop) (hD : H1 D = none) (q1 : SqB b K H1 a xs) (hn : xs.length ≤ sizeLine) (h0 : R 0 [] (upd H1 D (.lst [])))
    (hs : ∀ (i : Nat) (x : V) (ys : List V) (H2 : Hp) (k : VK), xs[i]? = some x → Same H1 H2 → H2 D = some (.lst ys) → ys.length = i → R i ys H2 → (∀ y H4, Same H2 H4 → R (i + 1) (ys ++ [y]) (upd H4 D (.lst (ys ++ [y]))) → k y H4) → ∀ T, H2 T = none → te (some (.int ((i : Int) + 1)) :: some x :: st) (upd H2 T (.tup [.int ((i : Int) + 1), x])) k)
    (hd : ∀ ys H2, Same H1 H2 → H2 D = some (.lst ys) → ys.length = xs.length → R xs.length ys H2 → Q (.ref D) H2) : CompG (Ites b K a) (gTup K 2 (gCons (gName 0) (gCons (gName 1) gNil))) tYes te 2 st D H1 Q := by
  refine ⟨fun i m ys H2 => m = xs.length - i ∧ i ≤ xs.length ∧ ys.length = i ∧ Same H1 H2 ∧ H2 D = some (.lst ys) ∧ R i ys H2, ⟨xs.length, by simp, Nat.zero_le _, rfl, same_upd (Same.refl H1) hD, upd_same, h0⟩, ?_⟩
  rintro i m ys H2 ⟨rfl, hi, hl, sm, e, r⟩
  by_cases hlt : i < xs.length
  · have ex : xs[i]? = some xs[i] := List.getElem?_eq_getElem hlt
    refine .inr ⟨⟨xs, _, q1.keep sm, ex⟩, ?_⟩
    rintro x H3 σ0 ⟨T, y, hT, rfl, rfl, hx⟩ l0
    have hy := hx xs (q1.keep sm)
    obtain ⟨a', b', rfl⟩ : ∃ a b, σ0 = [a, b] := by
      match σ0, l0 with
      | [a, b], _ => exact ⟨a, b, rfl⟩
    have sT := same_new hT (.tup [.int ((i : Int) + 1), y])
    refine ⟨T, [.int ((i : Int) + 1), y], rfl, SqT.of upd_same, rfl, .int ((i : Int) + 1), [y], rfl, y, [], rfl, rfl, ⟨[some (.int ((i : Int) + 1)), some y], rfl, rfl⟩, ?_⟩
    exact hs i y ys H2 _ hy sm e hl r (fun z H4 s4 r4 => ⟨s4 _ _ e, by omega, xs.length - (i + 1), by omega, rfl, hlt, by simp [hl], same_upd (sm.trans s4) hD, upd_same, r4⟩) T hT
  · have ei : i = xs.length := by omega
    subst ei
    exact .inl ⟨⟨xs, q1.keep sm, Nat.le_refl _⟩, hd ys H2 sm e hl r⟩
end L2
set_option maxHeartbeats 4000000
namespace L2
open PySem PySem.Spec PyProof.Rows Gc
theorem SIt.extBut {b : Bool} {h h' : Heap} {it t : Addr} {i : Nat} {c : Addr} (x : SIt b h it t i) (k : Heap.ExtBut c h h') (ne : it ≠ c) : SIt b h' it t i := x.at fun o q => k it o ne q
theorem SqH.at' {b : Bool} {h h' : Heap} {t : Addr} {xs : Array Value} (x : SqH b h t xs) (k : ∀ o, h.get? t = some o → h'.get? t = some o) : SqH b h' t xs := by
  cases b with
  | true =>
    obtain ⟨o, e1, e2⟩ := (show h.IsTuple t xs from x)
    exact ⟨o, k o e1, e2⟩
  | false =>
    obtain ⟨o, e1, e2⟩ := (show h.IsList t xs from x)
    exact ⟨o, k o e1, e2⟩
theorem SqH.extBut {b : Bool} {h h' : Heap} {t : Addr} {xs : Array Value} {c : Addr} (x : SqH b h t xs) (k : Heap.ExtBut c h h') (ne : t ≠ c) : SqH b h' t xs := x.at' fun o q => k t o ne q
theorem SqH.push {b : Bool} {h : Heap} {t : Addr} {xs : Array Value} (x : SqH b h t xs) (o : Obj) : SqH b (h.push o) t xs := x.at' fun _ q => Heap.get?_push_of_some _ q
theorem SqH.lt {b : Bool} {h : Heap} {t : Addr} {xs : Array Value} (x : SqH b h t xs) : t < h.objs.size := by
  cases b with
  | true =>
    obtain ⟨o, e1, e2⟩ := (show h.IsTuple t xs from x)
    exact Heap.lt_size e1
  | false =>
    obtain ⟨o, e1, e2⟩ := (show h.IsList t xs from x)
    exact Heap.lt_size e1
theorem SIt.new {b : Bool} {h : Heap} {it a : Addr} (e : h.get? it = some (sItO b a)) : SIt b h it a 0 := by
  cases b with
  | true => exact ⟨_, e, rfl, rfl⟩
  | false => exact ⟨_, e, rfl, rfl⟩
section
variable {prog : Program} {w : World} {A : Around} {E : Value → Shared → Prop} {s : Shared}
end
end L2
set_option maxHeartbeats 4000000
namespace L2
open PySem PySem.Spec PyProof.Rows Gc
end L2
set_option maxHeartbeats 4000000
namespace L2
open PySem PySem.Spec PyProof.Rows Gc HT
section
variable {prog : Program} {w : World} {A : Around} {E : Value → Shared → Prop} {s : Shared}
end
section
variable {X : Cx}
end
end L2
set_option maxHeartbeats 4000000
namespace L2
open PySem PySem.Spec PyProof.Rows
section
variable {X : Cx}
theorem op_addS : OpR X (binaryOp .Add) (fun x y H Q => ∃ a b, x = .str a ∧ y = .str b ∧ a.length + b.length ≤ sizeLine ∧ Q (.str (a ++ b)) H) := by
  rintro pins s σ H x y v u Q I rx ry ⟨a, b, rfl, rfl, hl, q⟩
  obtain ⟨t, rfl⟩ := rx
  obtain ⟨t', rfl⟩ := ry
  exact SB.add (fun t2 k => ⟨.str (a ++ b), H, I.tok k, ⟨t2, rfl⟩, q⟩) hl
theorem op_inS : OpR X (compareOp .In) (fun x y H Q => ∃ a b, x = .str a ∧ y = .str b ∧ Q (.bl (Txt.contains b a)) H) := by
  rintro pins s σ H x y v u Q I rx ry ⟨a, b, rfl, rfl, q⟩
  obtain ⟨t, rfl⟩ := rx
  obtain ⟨t', rfl⟩ := ry
  exact SB.contains ⟨.bl _, H, I, rfl, q⟩
theorem call_intS : CallR X (.type "int") (fun xs H Q => ∃ a n, xs = [.str a] ∧ intText? a = some n ∧ a.length ≤ 640 ∧ Q (.int n) H) := by
  rintro pins s σ H xs us Q I r ⟨a, n, rfl, hn, hl, q⟩
  obtain ⟨u, rfl, t, rfl⟩ := vals1 r
  exact PySem.W.KIN.call_text hn hl ⟨.int n, H, I.tok _, ⟨_, rfl⟩, q⟩
noncomputable def tSM (r : Str → V → Hp → VK → Prop) (to te : TE) : TE := fun σ H Q => to σ H fun x H1 => ∃ a, x = .str a ∧ te σ H1 fun y H2 => r a y H2 Q
variable {o e : Expr} {to te : TE} {apos pos : Pos}
theorem pe_starts (ho : PE X o to) (he : PE X e te) (hbase : attributeBase o "startswith" X.env (eval o X.env) = eval o X.env := by rfl) (hs : starEach [e] X.env = [(false, eval e X.env)] := by rfl) (hline : (apos.endLine == pos.line) = true := by rfl) :
    PE X (.Call (.Attribute o "startswith" apos) [e] [] pos) (tSM (fun a y H Q => ∃ b, y = .str b ∧ Q (.bl (Txt.startswith a b)) H) to te) := by
  intro pins s σ H Q I h
  refine Call_method1 hbase hs hline (thn (ho pins s σ H _ I h) fun v s1 ⟨x, H1, I1, r1, a, e1, q1⟩ => ?_)
  subst e1
  obtain ⟨t, rfl⟩ := r1
  refine SB.startswith (thn (he pins s1 σ H1 _ I1 q1) fun u s2 ⟨y, H2, I2, r2, b, e2, q2⟩ => ?_)
  subst e2
  obtain ⟨t2, rfl⟩ := r2
  exact ⟨b, t2, rfl, .bl _, H2, I2, rfl, q2⟩
theorem strs_of : ∀ {ts : List Str} {its : List Value}, Vals (ts.map V.str) its → ∃ l : List (Str × Tok), strValues l = its ∧ l.map (·.1) = ts
  | [], _, .nil => ⟨[], rfl, rfl⟩
  | t :: ts, _, .cons r rs => by
    obtain ⟨k, rfl⟩ := r
    obtain ⟨l, e1, e2⟩ := strs_of (ts := ts) rs
    exact ⟨(t, k) :: l, by rw [← e1]; rfl, by rw [← e2]; rfl⟩
theorem vals_strs : ∀ l : List (Str × Tok), Vals ((l.map (·.1)).map V.str) (strValues l)
  | [] => .nil
  | p :: l => .cons ⟨p.2, rfl⟩ (vals_strs l)
theorem pe_join (ho : PE X o to) (he : PE X e te) (hbase : attributeBase o "join" X.env (eval o X.env) = eval o X.env := by rfl) (hs : starEach [e] X.env = [(false, eval e X.env)] := by rfl) (hline : (apos.endLine == pos.line) = true := by rfl) :
    PE X (.Call (.Attribute o "join" apos) [e] [] pos) (tSM (fun a y H Q => ∃ D ts, y = .ref D ∧ SqL X.K H D (ts.map V.str) ∧ JoinOk a ts = true ∧ Q (.str (Txt.join a ts)) H) to te) := by
  intro pins s σ H Q I h
  refine Call_method1 hbase hs hline (thn (ho pins s σ H _ I h) fun v s1 ⟨x, H1, I1, r1, a, e1, q1⟩ => ?_)
  subst e1
  obtain ⟨t, rfl⟩ := r1
  refine SB.join (thn (he pins s1 σ H1 _ I1 q1) fun u s2 ⟨y, H2, I2, r2, D, ts, e2, hq, hok, q2⟩ => ?_)
  subst e2
  cases r2
  obtain ⟨its, rv, p, hz⟩ := I2.list hq
  obtain ⟨l, e3, e4⟩ := strs_of rv
  exact ⟨D, l, rfl, by rw [e3]; exact p.isList, ts, e4, hok, fun t' k => ⟨.str _, H2, I2.tok k, ⟨t', rfl⟩, q2⟩⟩
end
end L2
set_option maxHeartbeats 4000000
namespace L2
open PySem PySem.Spec PyProof.Rows
section
variable {X : Cx} {o e : Expr} {to te : TE} {apos pos : Pos}
theorem texts_laid {pins : List (Addr × Obj)} {σ : St} {H : Hp} {s : Shared} {Q : VK} {k : Nat} (I : Inv X pins σ H s) (l : List (Str × Tok)) (ts : List Str) (hl : l.map (·.1) = ts) (z : ts.length ≤ sizeLine)
    (q : ∀ p, H p = none → Q (.ref p) (upd H p (.lst (ts.map V.str)))) : EP X pins σ Q (.ref s.heap.objs.size) { s with toks := k, heap := s.heap.push { cls := .type "list", data := .seq (strValues l).toArray } } := by
  subst hl
  refine ⟨.ref s.heap.objs.size, _, I.laid (t' := k) (o := .lst ((l.map (·.1)).map V.str)) (fun b u e => Heap.get?_push_of_some _ e) (Nat.le_refl _) ?_, rfl, q _ (I.hok.fresh (Nat.le_refl _))⟩
  exact ⟨by rw [List.length_map]; exact z, _, 0, vals_strs l, Heap.get?_push_size _ rfl⟩
noncomputable def rSplit : Str → V → Hp → VK → Prop := fun a y H Q => ∃ b, y = .str b ∧ (b.length == 0) = false ∧ a.length ≤ sizeLine ∧ (Txt.split a b).length ≤ sizeLine ∧ ∀ p, H p = none → Q (.ref p) (upd H p (.lst ((Txt.split a b).map V.str)))
theorem pe_split (ho : PE X o to) (he : PE X e te) (hbase : attributeBase o "split" X.env (eval o X.env) = eval o X.env := by rfl) (hs : starEach [e] X.env = [(false, eval e X.env)] := by rfl) (hline : (apos.endLine == pos.line) = true := by rfl) :
    PE X (.Call (.Attribute o "split" apos) [e] [] pos) (tSM rSplit to te) := by
  intro pins s σ H Q I h
  refine Call_method1 hbase hs hline (thn (ho pins s σ H _ I h) fun v s1 ⟨x, H1, I1, r1, a, e1, q1⟩ => ?_)
  subst e1
  obtain ⟨t, rfl⟩ := r1
  refine ⟨"str", _, F.plainAttrs_str, F.slot_str_split, F.type_str_split, typeIs_str s1 a t, (fun _ z => nomatch z),
    method1_meets F.slot_str_split F.entry_str_split (thn (he pins s1 σ H1 _ I1 q1) fun u s2 ⟨y, H2, I2, r2, b, e2, hy, hx, hn, q2⟩ => ?_)⟩
  subst e2
  obtain ⟨t2, rfl⟩ := r2
  refine ⟨typeIs_str s2 a t, F.args_str_split_2 _ _, ?_⟩
  unfold Txt.split at hn q2
  cases h1 : (decide (a.length < b.length) || decide (Builtin.Str.strKind a < Builtin.Str.strKind b))
  · rw [if_neg (ne_true_of_eq_false h1)] at hn q2
    cases hf : (Builtin.Str.occurrences a b 0 a.length (a.length + 1)).isEmpty
    · rw [if_neg (ne_true_of_eq_false hf)] at hn q2
      refine ⟨_, meets_str_split_sep a b t t2 h1 hy hf hx hn, ?_⟩
      rw [strsFrom_eq]
      exact texts_laid I2 _ _ (numbered_texts _ _) hn q2
    · rw [if_pos hf] at hn q2
      exact ⟨_, meets_str_split_not_found a b t t2 h1 hy hf, texts_laid (k := s2.toks) I2 [(a, t)] _ rfl hn q2⟩
  · rw [if_pos h1] at hn q2
    exact ⟨_, meets_str_split_cannot_occur a b t t2 h1, texts_laid (k := s2.toks) I2 [(a, t)] _ rfl hn q2⟩
noncomputable def parts3 (a b : Str) : List Str := match Builtin.Str.occurrences a b 0 a.length 1 with
  | i :: _ => [Builtin.Str.strSub a 0 i, b, Builtin.Str.strSub a (i + b.length) a.length]
  | [] => [a, Str.empty, Str.empty]
noncomputable def rPart : Str → V → Hp → VK → Prop := fun a y H Q => ∃ b, y = .str b ∧ (b.length == 0) = false ∧ a.length ≤ sizeLine ∧ ∀ p, H p = none → Q (.ref p) (upd H p (.tup ((parts3 a b).map V.str)))
theorem pe_partition (ho : PE X o to) (he : PE X e te) (hbase : attributeBase o "partition" X.env (eval o X.env) = eval o X.env := by rfl) (hs : starEach [e] X.env = [(false, eval e X.env)] := by rfl) (hline : (apos.endLine == pos.line) = true := by rfl) :
    PE X (.Call (.Attribute o "partition" apos) [e] [] pos) (tSM rPart to te) := by
  intro pins s σ H Q I h
  refine Call_method1 hbase hs hline (thn (ho pins s σ H _ I h) fun v s1 ⟨x, H1, I1, r1, a, e1, q1⟩ => ?_)
  subst e1
  obtain ⟨t, rfl⟩ := r1
  refine ⟨"str", _, F.plainAttrs_str, F.slot_str_partition, F.type_str_partition, typeIs_str s1 a t, (fun _ z => nomatch z),
    method1_meets F.slot_str_partition F.entry_str_partition (thn (he pins s1 σ H1 _ I1 q1) fun u s2 ⟨y, H2, I2, r2, b, e2, hy, hx, q2⟩ => ?_)⟩
  subst e2
  obtain ⟨t2, rfl⟩ := r2
  refine ⟨typeIs_str _ _ _, F.args_str_partition_2 _ _, _, meets_str_partition a b t t2 hy hx, ?_⟩
  unfold parts3 at q2
  revert q2
  cases Builtin.Str.occurrences a b 0 a.length 1 with
  | nil =>
    intro q2
    refine ⟨.ref s2.heap.objs.size, _, I2.laid (t' := s2.toks + 1) (o := .tup _) (fun b ob q => Heap.get?_push_of_some _ q) (Nat.le_refl _) ?_, rfl, q2 _ (I2.hok.fresh (Nat.le_refl _))⟩
    exact ⟨by show 3 ≤ sizeLine; decide, _, .cons ⟨_, rfl⟩ (.cons ⟨_, rfl⟩ (.cons ⟨_, rfl⟩ .nil)), IsTup.new _ _⟩
  | cons i r =>
    intro q2
    refine ⟨.ref s2.heap.objs.size, _, I2.laid (t' := s2.toks + 1 + 1) (o := .tup _) (fun b ob q => Heap.get?_push_of_some _ q) (Nat.le_refl _) ?_, rfl, q2 _ (I2.hok.fresh (Nat.le_refl _))⟩
    exact ⟨by show 3 ≤ sizeLine; decide, _, .cons ⟨_, rfl⟩ (.cons ⟨_, rfl⟩ (.cons ⟨_, rfl⟩ .nil)), IsTup.new _ _⟩
theorem sl_str : SlR X (fun x lo hi H Q => ∃ a, x = .str a ∧ a.length ≤ sizeLine ∧ Q (.str (Txt.slice a lo hi)) H) := by
  intro pins s σ H x v vl vu lo hi sl Q I rx hs pl pu h
  obtain ⟨a, rfl, hz, q⟩ := h
  obtain ⟨t, rfl⟩ := rx
  refine ⟨"str", _, F.slot_str_getitem.lookup, typeIs_str _ _ _, ?_⟩
  cases pl <;> cases pu
  · exact wpAny_getItem_str_slice (l := none) (u := none) (st := none) hs rfl (post_val_or_str ⟨Nat.le_trans (Txt.slice_le a _ _) hz, fun t' k => ⟨.str _, H, I.tok k, ⟨t', rfl⟩, q⟩⟩)
  · exact wpAny_getItem_str_slice (l := none) (u := some (_, _)) (st := none) hs rfl (post_val_or_str ⟨Nat.le_trans (Txt.slice_le a _ _) hz, fun t' k => ⟨.str _, H, I.tok k, ⟨t', rfl⟩, q⟩⟩)
  · exact wpAny_getItem_str_slice (l := some (_, _)) (u := none) (st := none) hs rfl (post_val_or_str ⟨Nat.le_trans (Txt.slice_le a _ _) hz, fun t' k => ⟨.str _, H, I.tok k, ⟨t', rfl⟩, q⟩⟩)
  · exact wpAny_getItem_str_slice (l := some (_, _)) (u := some (_, _)) (st := none) hs rfl (post_val_or_str ⟨Nat.le_trans (Txt.slice_le a _ _) hz, fun t' k => ⟨.str _, H, I.tok k, ⟨t', rfl⟩, q⟩⟩)
noncomputable def Its (a : Str) : It := ⟨fun i _ => i < a.cps.size, fun i H x H' => H' = H ∧ ∃ c, a.cps[i]? = some c ∧ x = .str ⟨#[c]⟩, fun i _ => a.cps.size ≤ i⟩
theorem turn_str {P : Program} {w : World} {K : PySem.W.Frag} {tg : Expr} (it : Addr) (a : Str) (t : Tok) : Turn P w K tg (Its a) [it] it (fun i h => h.IsStrIter it "str_ascii_iterator" a t i) where
  mem := by simp
  obj := fun i h st b hb => by
    have e : b = it := by simpa using hb
    subst e
    obtain ⟨o, e, c, d⟩ := st
    exact ⟨o, e, fun v z => by
      rw [d] at z
      cases z⟩
  keep := fun i h h' st k => by
    obtain ⟨o, e, c, d⟩ := st
    exact ⟨o, k it (by simp) _ e, c, d⟩
  item := by
    intro X hP hw hK hc i pins s σ H E I hf st hg
    subst hP hw hK
    obtain ⟨f0, f1, f2, f3, f4, f5⟩ := hf it (by simp)
    have hi : i < a.cps.size := hg
    refine wpAny_pyNext_ascii_item st (c := a.cps[i]) (by simp [hi]) fun h' st' sb => ?_
    have I1 : Inv X pins σ H { s with heap := h', toks := s.toks + 1 } := I.turned (fun b o hb e => sb.extBut b o hb e) f0 f1 f3 f4 f5
    obtain ⟨o, e, c, d⟩ := id st'
    exact ⟨_, rfl, go_of (s := { s with heap := h', toks := s.toks + 1 }) (n := "str_ascii_iterator") e c d (by decide) ⟨.str ⟨#[a.cps[i]]⟩, H, I1, ⟨_, rfl⟩, ⟨rfl, _, by simp [hi], rfl⟩, st', fun b hb => (hf b hb).1⟩⟩
  done := by
    intro X hP hw hK hc i pins s σ H E I hf st hg
    subst hP hw hK
    obtain ⟨f0, f1, f2, f3, f4, f5⟩ := hf it (by simp)
    exact wpAny_pyNext_ascii_end (I.ok.hd hc) st (by have : a.cps.size ≤ i := hg; simp; omega) fun h' eb => ⟨rfl, I.turned (t' := s.toks) (fun b o hb e => eb b o hb e) f0 f1 f3 f4 f5⟩
  self := fun _ _ _ _ _ st h => wpAny_pyIter_striter_ascii st h
noncomputable def iStr (tl : TE) : TI := fun σ H R => tl σ H fun x H1 => ∃ a, x = .str a ∧ a.cps.all (· < 128) = true ∧ R (Its a) H1
theorem pi_str {l tg : Expr} {tl : TE} (hl : PE X l tl) : PI X tg l (iStr tl) := by
  intro pins s σ H R I h
  refine thn (hl pins s σ H _ I h) fun v s1 ⟨x, H1, I1, r1, q1⟩ => ?_
  obtain ⟨a, e, ha, q⟩ := q1
  subst e
  obtain ⟨t, rfl⟩ := r1
  refine wpAny_pyIter_ascii ha ?_
  refine ⟨s1.heap.objs.size, [s1.heap.objs.size], _, _, H1, rfl, I1.kept (t' := s1.toks) fun b o e => Heap.get?_push_of_some _ e, turn_str _ a t, ⟨_, Heap.get?_push_size _ rfl, rfl, rfl⟩, fun b hb => ?_, q⟩
  have e : b = s1.heap.objs.size := by simpa using hb
  subst e
  exact I1.fpOk (Nat.le_refl _) (I1.hok.fresh (Nat.le_refl _))
end
end L2
set_option maxHeartbeats 4000000
namespace Tx
open PySem PySem.Builtin.Str PySem.StrLaws
noncomputable def go (P : Nat → Bool) (w : Nat) : Nat → Nat → Nat → List Nat
  | _, _, 0 => []
  | i, free, n + 1 => if free ≤ i ∧ P i = true then i :: go P w (i + 1) (i + w) n else go P w (i + 1) free n
noncomputable def isAt (x y : Str) (j : Nat) : Bool := decide (j + y.length ≤ x.length) && subAt x y j
theorem walk_go (x y : Str) (limit : Nat) : ∀ (n i free : Nat) (acc : Array Nat), (forIn (List.range' i n) (acc, free) (occBody x y x.length limit)).run.fst.toList = acc.toList ++ (go (isAt x y) y.length i free n).take (limit - acc.size)
  | 0, i, free, acc => by simp [go]
  | n + 1, i, free, acc => by
    rw [List.range'_succ, List.forIn_cons]
    unfold occBody
    dsimp only
    by_cases h : free ≤ i ∧ isAt x y i = true
    · have h2 := h.2
      unfold isAt at h2
      rw [Bool.and_eq_true, decide_eq_true_eq] at h2
      rw [go, if_pos h]
      by_cases hl : acc.size < limit
      · rw [if_pos ⟨⟨⟨hl, h.1⟩, h2.1⟩, h2.2⟩]
        have := walk_go x y limit n (i + 1) (i + y.length) (acc.push i)
        refine Eq.trans this ?_
        rw [Array.toList_push, Array.size_push, List.append_assoc, show limit - acc.size = (limit - (acc.size + 1)) + 1 by omega, List.take_succ_cons]
        rfl
      · rw [if_neg (fun z => hl z.1.1.1)]
        refine Eq.trans (walk_go x y limit n (i + 1) free acc) ?_
        rw [show limit - acc.size = 0 by omega, List.take_zero, List.take_zero]
    · rw [go, if_neg h, if_neg (fun z => h ⟨z.1.1.2, by unfold isAt; rw [Bool.and_eq_true, decide_eq_true_eq]; exact ⟨z.1.2, z.2⟩⟩)]
      exact walk_go x y limit n (i + 1) free acc
theorem occ_go (x y : Str) (limit : Nat) : occurrences x y 0 x.length limit = (go (isAt x y) y.length 0 0 (x.length + 1)).take limit := by
  rw [occ_eq]
  refine Eq.trans (walk_go x y limit _ _ _ _) ?_
  simp
theorem go_skip {P : Nat → Bool} {w free : Nat} : ∀ (k i n : Nat), (∀ j, i ≤ j → j < i + k → P j = false ∨ j < free) → go P w i free (k + n) = go P w (i + k) free n
  | 0, i, n, _ => by rw [Nat.zero_add]; rfl
  | k + 1, i, n, h => by
    rw [show k + 1 + n = (k + n) + 1 by omega, go, if_neg, go_skip k (i + 1) n (fun j h1 h2 => h j (by omega) (by omega)), show i + 1 + k = i + (k + 1) by omega]
    rintro ⟨a, b⟩
    rcases h i (Nat.le_refl _) (by omega) with z | z
    · rw [z] at b; cases b
    · omega
noncomputable def jn (y : List Nat) : List Str → List Nat
  | [] => []
  | [p] => p.cps.toList
  | p :: q :: r => p.cps.toList ++ (y ++ jn y (q :: r))
noncomputable def cuts (w : Nat) : Nat → List Str → List Nat
  | _, [] => []
  | _, [_] => []
  | a, p :: q :: r => (a + p.length) :: cuts w (a + p.length + w) (q :: r)
theorem len_toList (p : Str) : p.cps.toList.length = p.length := by simp [Str.length]
theorem isAt_iff {x y : Str} {j : Nat} : isAt x y j = true ↔ j + y.length ≤ x.length ∧ (x.cps.toList.drop j).take y.length = y.cps.toList := by
  unfold isAt
  rw [Bool.and_eq_true, decide_eq_true_eq, subAt_eq, beq_iff_eq]
theorem isAt_head {x y : Str} {c : Nat} {r : List Nat} (hy : y.cps.toList = c :: r) {j : Nat} (h : isAt x y j = true) : x.cps.toList[j]? = some c := by
  have h2 := (isAt_iff.mp h).2
  rw [hy] at h2
  have e : ((x.cps.toList.drop j).take y.length)[0]? = some c := by rw [h2]; rfl
  rw [List.getElem?_take] at e
  split at e
  · rw [List.getElem?_drop] at e
    exact e
  · cases e
theorem go_cuts {x y : Str} {c : Nat} {r : List Nat} (hy : y.cps.toList = c :: r) : ∀ (ps : List Str) (a n : Nat), ps ≠ [] → x.cps.toList.drop a = jn y.cps.toList ps → a + n = x.length + 1 → (∀ p ∈ ps, c ∉ p.cps.toList) → go (isAt x y) y.length a a n = cuts y.length a ps
  | [], _, _, h, _, _, _ => absurd rfl h
  | [p], a, n, _, hd, hn, hc => by
    have e := go_skip (P := isAt x y) (w := y.length) (free := a) n a 0 (fun j h1 h2 => .inl (by
      rw [Bool.eq_false_iff]
      intro z
      have q := isAt_head hy z
      have : (x.cps.toList.drop a)[j - a]? = some c := by rw [List.getElem?_drop, show a + (j - a) = j by omega]; exact q
      rw [hd] at this
      exact hc p (List.mem_singleton.mpr rfl) (List.mem_of_getElem? this)))
    rw [Nat.add_zero] at e
    rw [e]
    rfl
  | p :: p' :: ps, a, n, _, hd, hn, hc => by
    have hw : y.length = r.length + 1 := by rw [← len_toList, hy]; rfl
    have hd' : x.cps.toList.drop a = p.cps.toList ++ (y.cps.toList ++ jn y.cps.toList (p' :: ps)) := hd
    have hL : x.length - a = p.length + (y.length + (jn y.cps.toList (p' :: ps)).length) := by
      have := congrArg List.length hd'
      rw [List.length_drop, len_toList, List.length_append, List.length_append, len_toList, len_toList] at this
      exact this
    have hle : a + p.length + y.length ≤ x.length := by omega
    have hd2 : x.cps.toList.drop (a + p.length) = y.cps.toList ++ jn y.cps.toList (p' :: ps) := by
      rw [← List.drop_drop, hd', ← len_toList p, List.drop_left]
    have hd3 : x.cps.toList.drop (a + p.length + y.length) = jn y.cps.toList (p' :: ps) := by
      rw [← List.drop_drop, hd2, ← len_toList y, List.drop_left]
    have yes : isAt x y (a + p.length) = true := isAt_iff.mpr ⟨hle, by rw [hd2, ← len_toList y, List.take_left]⟩
    obtain ⟨m, rfl⟩ : ∃ m, n = p.length + (1 + (r.length + m)) := ⟨n - (p.length + (1 + r.length)), by omega⟩
    rw [go_skip p.length a _ (fun j h1 h2 => .inl (by
      rw [Bool.eq_false_iff]
      intro z
      have q := isAt_head hy z
      have : (x.cps.toList.drop a)[j - a]? = some c := by rw [List.getElem?_drop, show a + (j - a) = j by omega]; exact q
      rw [hd', List.getElem?_append_left (by rw [len_toList]; omega)] at this
      exact hc p (List.mem_cons_self ..) (List.mem_of_getElem? this)))]
    rw [show 1 + (r.length + m) = (r.length + m) + 1 by omega, go, if_pos ⟨by omega, yes⟩, go_skip r.length _ _ (fun j h1 h2 => .inr (by omega))]
    rw [show a + p.length + 1 + r.length = a + p.length + y.length by omega]
    rw [go_cuts hy (p' :: ps) (a + p.length + y.length) m (by simp) hd3 (by omega) (fun q hq => hc q (List.mem_cons_of_mem _ hq))]
    rfl
theorem ext_list {a b : Str} (h : a.cps.toList = b.cps.toList) : a = b := Str.ext' (Array.toList_inj.mp h)
theorem parts_cuts {x y : Str} : ∀ (ps : List Str) (a : Nat), ps ≠ [] → x.cps.toList.drop a = jn y.cps.toList ps → partsFrom x y.length a (cuts y.length a ps) = ps
  | [], _, h, _ => absurd rfl h
  | [p], a, _, hd => by
    show [strSub x a x.length] = [p]
    refine congrArg (fun z => [z]) (ext_list ?_)
    rw [strSub_toList]
    have hd' : x.cps.toList.drop a = p.cps.toList := hd
    rw [hd', List.take_of_length_le]
    have := congrArg List.length hd'
    rw [List.length_drop, len_toList] at this
    omega
  | p :: p' :: ps, a, _, hd => by
    have hd' : x.cps.toList.drop a = p.cps.toList ++ (y.cps.toList ++ jn y.cps.toList (p' :: ps)) := hd
    have hd2 : x.cps.toList.drop (a + p.length) = y.cps.toList ++ jn y.cps.toList (p' :: ps) := by
      rw [← List.drop_drop, hd', ← len_toList p, List.drop_left]
    have hd3 : x.cps.toList.drop (a + p.length + y.length) = jn y.cps.toList (p' :: ps) := by
      rw [← List.drop_drop, hd2, ← len_toList y, List.drop_left]
    show strSub x a (a + p.length) :: partsFrom x y.length (a + p.length + y.length) (cuts y.length (a + p.length + y.length) (p' :: ps)) = _
    rw [parts_cuts (p' :: ps) _ (by simp) hd3]
    refine congrArg (· :: p' :: ps) (ext_list ?_)
    rw [strSub_toList, hd', show a + p.length - a = p.length by omega, ← len_toList p, List.take_left]
theorem jn_join (y : Str) : ∀ (ps : List Str), (Str.join y ps).cps.toList = jn y.cps.toList ps
  | [] => rfl
  | [p] => rfl
  | p :: q :: r => by
    show (p ++ y ++ Str.join y (q :: r)).cps.toList = _
    rw [Str.cps_append, Str.cps_append, Array.toList_append, Array.toList_append, jn_join y (q :: r), List.append_assoc]
    rfl
theorem kind_pos (x : Str) : 1 ≤ PySem.Builtin.Str.strKind x := by
  unfold PySem.Builtin.Str.strKind
  split
  · exact Nat.le_refl _
  · split <;> omega
theorem split_join {y : Str} {c : Nat} {r : List Nat} (hy : y.cps.toList = c :: r) (hk : PySem.Builtin.Str.strKind y = 1) (ps : List Str) (h0 : ps ≠ []) (hc : ∀ p ∈ ps, c ∉ p.cps.toList) : Txt.split (Txt.join y ps) y = ps := by
  have hj : (Txt.join y ps).cps.toList = jn y.cps.toList ps := by
    show (glued y ps).cps.toList = _
    rw [glued_eq_join]
    exact jn_join y ps
  have ho : occurrences (Txt.join y ps) y 0 (Txt.join y ps).length ((Txt.join y ps).length + 1) = cuts y.length 0 ps := by
    rw [occ_go, go_cuts hy ps 0 _ h0 (by rw [List.drop_zero]; exact hj) (by omega) hc]
    refine List.take_of_length_le ?_
    have : occurrences (Txt.join y ps) y 0 (Txt.join y ps).length ((Txt.join y ps).length + 1) = (cuts y.length 0 ps).take ((Txt.join y ps).length + 1) := by
      rw [occ_go, go_cuts hy ps 0 _ h0 (by rw [List.drop_zero]; exact hj) (by omega) hc]
    have gl : ∀ (P : Nat → Bool) (w n i f : Nat), (go P w i f n).length ≤ n := by
      intro P w n
      induction n with
      | zero => intro i f; simp [go]
      | succ n ih =>
        intro i f
        rw [go]
        split
        · rw [List.length_cons]; have := ih (i + 1) (i + w); omega
        · have := ih (i + 1) f; omega
    have g1 := gl (isAt (Txt.join y ps) y) y.length ((Txt.join y ps).length + 1) 0 0
    rw [go_cuts hy ps 0 _ h0 (by rw [List.drop_zero]; exact hj) (by omega) hc] at g1
    exact g1
  unfold Txt.split
  rw [ho]
  match ps, h0, hc, hj with
  | [p], _, _, _ =>
    have e : Txt.join y [p] = p := rfl
    rw [e]
    simp [cuts]
  | p :: q :: rest, h0, _, hj =>
    have hl : y.length ≤ (Txt.join y (p :: q :: rest)).length := by
      rw [← len_toList, ← len_toList, hj]
      show _ ≤ (p.cps.toList ++ (y.cps.toList ++ jn y.cps.toList (q :: rest))).length
      rw [List.length_append, List.length_append]
      omega
    rw [if_neg, if_neg (by simp [cuts]), partsBetween_eq, parts_cuts _ 0 h0 (by rw [List.drop_zero]; exact hj)]
    rw [Bool.or_eq_true, decide_eq_true_eq, decide_eq_true_eq, hk]
    have := kind_pos (Txt.join y (p :: q :: rest))
    omega
theorem occ_first {x a y b : Str} {c : Nat} {r : List Nat} (hy : y.cps.toList = c :: r) (hx : x = a ++ (y ++ b)) (hc : c ∉ a.cps.toList) : occurrences x y 0 x.length 1 = [a.length] := by
  have hd : x.cps.toList = a.cps.toList ++ (y.cps.toList ++ b.cps.toList) := by rw [hx, Str.cps_append, Str.cps_append, Array.toList_append, Array.toList_append]
  have hL : x.length = a.length + (y.length + b.length) := by
    rw [← len_toList x, hd, List.length_append, List.length_append, len_toList, len_toList, len_toList]
  have yes : isAt x y a.length = true := isAt_iff.mpr ⟨by omega, by rw [hd, ← len_toList a, List.drop_left, ← len_toList y, List.take_left]⟩
  obtain ⟨m, hm⟩ : ∃ m, x.length + 1 = a.length + (m + 1) := ⟨y.length + b.length, by omega⟩
  rw [occ_go, hm, go_skip a.length 0 _ (fun j h1 h2 => .inl (by
    rw [Bool.eq_false_iff]
    intro z
    have q := isAt_head hy z
    rw [hd, List.getElem?_append_left (by rw [len_toList]; omega)] at q
    exact hc (List.mem_of_getElem? q)))]
  rw [Nat.zero_add, go, if_pos ⟨Nat.zero_le _, yes⟩]
  rfl
theorem sub_left {x a z : Str} (hx : x = a ++ z) : strSub x 0 a.length = a := ext_list (by
  rw [strSub_toList, hx, Str.cps_append, Array.toList_append, List.drop_zero, Nat.sub_zero, ← len_toList a, List.take_left])
theorem sub_right {x a y b : Str} (hx : x = a ++ (y ++ b)) : strSub x (a.length + y.length) x.length = b := ext_list (by
  have hd : x.cps.toList = a.cps.toList ++ (y.cps.toList ++ b.cps.toList) := by rw [hx, Str.cps_append, Str.cps_append, Array.toList_append, Array.toList_append]
  have hL : x.length = a.length + (y.length + b.length) := by
    rw [← len_toList x, hd, List.length_append, List.length_append, len_toList, len_toList, len_toList]
  rw [strSub_toList, hd, ← List.drop_drop, ← len_toList a, List.drop_left, ← len_toList y, List.drop_left, List.take_of_length_le]
  rw [len_toList, len_toList, len_toList]
  omega)
theorem app_assoc (a b c : Str) : a ++ b ++ c = a ++ (b ++ c) := ext_list (by simp [Str.cps_append])
end Tx
set_option maxHeartbeats 4000000
namespace Tx
open PySem PySem.Builtin.Str PySem.StrLaws
noncomputable def wds : List Str := ["-1", "0", "1", "2", "3", "4", "5", "6", "7", "8", "9", "10", "11", "12", "13"]
noncomputable def wd (i : Int) : Str := wds.getD (i + 1).toNat ""
noncomputable def In15 (i : Int) : Prop := -1 ≤ i ∧ i ≤ 13
theorem in15 {i : Int} (h : In15 i) : ∃ k : Fin 15, i = (k.val : Int) - 1 ∧ wd i = wds.getD k.val "" := by
  obtain ⟨h1, h2⟩ := h
  refine ⟨⟨(i + 1).toNat, by omega⟩, by show i = (((i + 1).toNat : Nat) : Int) - 1; omega, rfl⟩
noncomputable def figs (w : Str) : Str := if Txt.startswith w "-" = true then Txt.slice w (some 1) none else w
noncomputable def FIG : Str := "0123456789"
noncomputable def okW (k : Fin 15) : Bool :=
  let w := wds.getD k.val ""
  decide (w.length ≤ 3) && decide (1 ≤ (figs w).length) && decide ((figs w).length ≤ 3) && (figs w).cps.all (· < 128) && (figs w).cps.all (fun c => Txt.contains FIG ⟨#[c]⟩) &&
  !(Txt.startswith (figs w) "0" && (Txt.startswith w "-" || decide ((figs w).length > 1))) && decide (intText? w = some ((k.val : Int) - 1)) && decide (((toString ((k.val : Int) - 1) : String) : Str) = w) &&
  w.cps.all (fun c => c != 32 && c != 58 && c != 59)
theorem okW_all : ∀ k : Fin 15, okW k = true := by decide +kernel
structure Wd (i : Int) : Prop where
  len : (wd i).length ≤ 3
  l1 : 1 ≤ (figs (wd i)).length
  l3 : (figs (wd i)).length ≤ 3
  asc : (figs (wd i)).cps.all (· < 128) = true
  fig : ∀ (j c : Nat), (figs (wd i)).cps[j]? = some c → Txt.contains FIG ⟨#[c]⟩ = true
  nou : (Txt.startswith (figs (wd i)) "0" && (Txt.startswith (wd i) "-" || decide ((figs (wd i)).length > 1))) = false
  int : intText? (wd i) = some i
  str : ((toString i : String) : Str) = wd i
  no : ∀ c ∈ (wd i).cps.toList, c ≠ 32 ∧ c ≠ 58 ∧ c ≠ 59
theorem wd_ok {i : Int} (h : In15 i) : Wd i := by
  obtain ⟨k, rfl, e⟩ := in15 h
  have o := okW_all k
  unfold okW at o
  dsimp only at o
  rw [← e] at o
  simp only [Bool.and_eq_true, decide_eq_true_eq, Bool.not_eq_true'] at o
  obtain ⟨⟨⟨⟨⟨⟨⟨⟨a1, a2⟩, a3⟩, a4⟩, a5⟩, a6⟩, a7⟩, a8⟩, a9⟩ := o
  refine ⟨a1, a2, a3, a4, fun j c hc => ?_, a6, a7, a8, fun c hc => ?_⟩
  · rw [Array.all_eq_true_iff_forall_mem] at a5
    exact a5 c (Array.mem_of_getElem? hc)
  · rw [Array.all_eq_true_iff_forall_mem] at a9
    have := a9 c (Array.mem_def.mpr hc)
    simp at this
    exact ⟨this.1.1, this.1.2, this.2⟩
noncomputable def prS (b : Int × Int) : Str := wd b.1 ++ " " ++ wd b.2
noncomputable def bodyS (n : Int) (bs : List (Int × Int)) : Str := wd n ++ ": " ++ Txt.join "; " (bs.map prS)
noncomputable def planS (n : Int) (bs : List (Int × Int)) : Str := "plan " ++ bodyS n bs
noncomputable def InP (b : Int × Int) : Prop := In15 b.1 ∧ In15 b.2
theorem prS_no {b : Int × Int} (h : InP b) : 59 ∉ (prS b).cps.toList := by
  unfold prS
  rw [Str.cps_append, Str.cps_append, Array.toList_append, Array.toList_append]
  simp only [List.mem_append, not_or]
  exact ⟨⟨fun z => ((wd_ok h.1).no _ z).2.2 rfl, by decide +kernel⟩, fun z => ((wd_ok h.2).no _ z).2.2 rfl⟩
theorem prS_split {b : Int × Int} (h : InP b) : Txt.split (prS b) " " = [wd b.1, wd b.2] := by
  have e : prS b = Txt.join " " [wd b.1, wd b.2] := by
    show _ = glued _ _
    rw [glued_eq_join]
    rfl
  rw [e]
  refine split_join (c := 32) (r := []) (by decide +kernel) (by decide +kernel) _ (by simp) fun p hp => ?_
  rcases List.mem_cons.mp hp with rfl | hp
  · exact fun z => ((wd_ok h.1).no _ z).1 rfl
  · cases List.mem_singleton.mp hp
    exact fun z => ((wd_ok h.2).no _ z).1 rfl
theorem prS_len {b : Int × Int} (h : InP b) : (prS b).length ≤ 7 := by
  unfold prS
  rw [Str.length_append, Str.length_append]
  have := (wd_ok h.1).len
  have := (wd_ok h.2).len
  have : (" " : Str).length = 1 := by decide +kernel
  omega
theorem body_split {bs : List (Int × Int)} (h0 : bs ≠ []) (h : ∀ b ∈ bs, InP b) : Txt.split (Txt.join "; " (bs.map prS)) "; " = bs.map prS := by
  refine split_join (c := 59) (r := [32]) (by decide +kernel) (by decide +kernel) _ (by simpa using h0) fun p hp => ?_
  obtain ⟨b, hb, rfl⟩ := List.mem_map.mp hp
  exact prS_no (h b hb)
theorem body_parts {n : Int} (hn : In15 n) (bs : List (Int × Int)) : L2.parts3 (bodyS n bs) ": " = [wd n, ": ", Txt.join "; " (bs.map prS)] := by
  have e : bodyS n bs = wd n ++ (": " ++ Txt.join "; " (bs.map prS)) := app_assoc _ _ _
  unfold L2.parts3
  rw [occ_first (c := 58) (r := [32]) (by decide +kernel) e (fun z => ((wd_ok hn).no _ z).2.1 rfl)]
  dsimp only
  rw [sub_left e, sub_right e]
theorem join_len {bs : List (Int × Int)} (hl : bs.length ≤ 12) (h : ∀ b ∈ bs, InP b) : (Txt.join "; " (bs.map prS)).length ≤ 108 := by
  show (glued _ _).length ≤ 108
  rw [glued_eq_join]
  refine Nat.le_trans (StrLaws.join_length_le _ _) ?_
  have e : ("; " : Str).length = 2 := by decide +kernel
  have s := sumLen_le (B := 7) (bs.map prS) fun y hy => by
    obtain ⟨b, hb, rfl⟩ := List.mem_map.mp hy
    exact prS_len (h b hb)
  rw [e]
  rw [List.length_map] at s ⊢
  omega
theorem join_ok {bs : List (Int × Int)} (hl : bs.length ≤ 12) (h : ∀ b ∈ bs, InP b) : JoinOk "; " (bs.map prS) = true := by
  unfold JoinOk
  rw [Bool.not_eq_true']
  have e : ("; " : Str).length = 2 := by decide +kernel
  refine joinFits (B := 7) (fun y hy => ?_) ?_
  · obtain ⟨b, hb, rfl⟩ := List.mem_map.mp hy
    exact prS_len (h b hb)
  · rw [List.length_map, e]; omega
theorem body_len {n : Int} {bs : List (Int × Int)} (hn : In15 n) (hl : bs.length ≤ 12) (h : ∀ b ∈ bs, InP b) : (bodyS n bs).length ≤ 113 := by
  unfold bodyS
  rw [Str.length_append, Str.length_append]
  have := (wd_ok hn).len
  have := join_len hl h
  have : (": " : Str).length = 2 := by decide +kernel
  omega
theorem idx_none (a len : Nat) : strSliceIndices (some (a : Int)) none 1 len = strSliceIndices (some (a : Int)) (some (len : Int)) 1 len := by
  have h : ¬ ((len : Int) < 0) := by omega
  have e : max (0 : Int) (min (len : Int) (len : Int)) = len := by omega
  simp only [strSliceIndices, h, if_false, e, show ((1 : Int) > 0) = True from by simp, if_true]
theorem slice_from {x a b : Str} {k : Nat} (hx : x = a ++ b) (hk : a.length = k) : Txt.slice x (some (k : Int)) none = b := by
  have hd : x.cps.toList = a.cps.toList ++ b.cps.toList := by rw [hx, Str.cps_append, Array.toList_append]
  have hL : x.length = a.length + b.length := by rw [← len_toList x, hd, List.length_append, len_toList, len_toList]
  have e := sliced_plain x (a := k) (b := x.length) (by omega) (Nat.le_refl _)
  rw [← idx_none, hd, ← hk, ← len_toList a, List.drop_left, len_toList, List.take_of_length_le (by rw [len_toList]; omega)] at e
  unfold Txt.slice
  split
  · rename_i h
    have h2 : (strSliceIndices (some (k : Int)) none 1 x.length).length = x.length := by simpa using h
    rw [idx_none, strSliceIndices_plain (by omega) (Nat.le_refl _), List.length_map, List.length_range] at h2
    refine ext_list ?_
    have ha : a.cps.toList = [] := List.eq_nil_of_length_eq_zero (by rw [len_toList]; omega)
    have hb : 0 < x.length ∨ x.length = 0 := by omega
    rw [hd, ha, List.nil_append]
  · refine ext_list ?_
    rw [← hk]
    simpa using e
theorem plan_starts (n : Int) (bs : List (Int × Int)) : Txt.startswith (planS n bs) "plan " = true := by
  have hd : (planS n bs).cps.toList = ("plan " : Str).cps.toList ++ (bodyS n bs).cps.toList := by unfold planS; rw [Str.cps_append, Array.toList_append]
  have hL : (planS n bs).length = ("plan " : Str).length + (bodyS n bs).length := by rw [← len_toList, hd, List.length_append, len_toList, len_toList]
  unfold Txt.startswith
  rw [Bool.and_eq_true, decide_eq_true_eq, subAt_eq, beq_iff_eq, hd, List.drop_zero, ← len_toList, List.take_left]
  exact ⟨by rw [len_toList]; omega, rfl⟩
theorem plan_slice (n : Int) (bs : List (Int × Int)) : Txt.slice (planS n bs) (some 5) none = bodyS n bs := slice_from (k := 5) rfl (by decide +kernel)
end Tx
set_option maxHeartbeats 4000000
namespace L2
open PySem PySem.Spec PyProof.Rows
section
variable {X : Cx} {CX : CXT} {k : Nat} {f : Addr} {fd : FuncData} {ps : List Str} {ds : List Value} {dvs : List V} {sp : Sp} {x : Str} {p pos : Pos} {e : Expr} {es : List Expr} {t : TA} {E : XK}
theorem pe_globS {a : Str} (hg : Gl X x) (hm : ∃ t, X.mg x = some (.str a t)) (hd : (x == ("__debug__" : Str)) = false := by decide) : PE X (.Name x pos) (tC (.str a)) := by
  obtain ⟨t, hm⟩ := hm
  exact pe_glob hg hm ⟨t, rfl⟩ hd
end
end L2
set_option maxHeartbeats 4000000
namespace L2
open PySem PySem.Spec PyProof.Rows
theorem comp_strB {a : Str} {te : TE} {st : St} {H1 : Hp} {Q : VK} {D : Addr} (p : Nat → Bool) (hD : H1 D = none) (hn : a.cps.size ≤ sizeLine)
    (hs : ∀ (i c : Nat) (H2 : Hp) (k : VK), a.cps[i]? = some c → Same H1 H2 → (∀ H4, Same H2 H4 → k (.bl (p c)) H4) → te (some (.str ⟨#[c]⟩) :: st) H2 k)
    (hd : ∀ H2, Same H1 H2 → H2 D = some (.lst ((a.cps.toList.map p).map V.bl)) → Q (.ref D) H2) : CompGo (Its a) te st D H1 Q := by
  have hz : a.cps.toList.length = a.cps.size := by simp
  refine ⟨fun i m zs H2 => m = a.cps.size - i ∧ i ≤ a.cps.size ∧ zs = ((a.cps.toList.take i).map p).map V.bl ∧ Same H1 H2 ∧ H2 D = some (.lst zs), ⟨a.cps.size, by simp, Nat.zero_le _, rfl, same_upd (Same.refl H1) hD, upd_same⟩, ?_⟩
  rintro i m zs H2 ⟨rfl, hi, rfl, sm, e⟩
  by_cases hlt : i < a.cps.size
  · refine .inr ⟨hlt, ?_⟩
    rintro x H3 ⟨rfl, c, hc, rfl⟩
    have hc' : a.cps.toList[i]? = some c := by rw [Array.getElem?_toList]; exact hc
    refine hs i c _ _ hc sm fun H4 s4 => ⟨s4 _ _ e, by simp; omega, a.cps.size - (i + 1), by omega, rfl, hlt, ?_, same_upd (sm.trans s4) hD, upd_same⟩
    rw [List.take_add_one, hc', List.map_append, List.map_append]
    rfl
  · have ei : i = a.cps.size := by omega
    subst ei
    refine .inl ⟨Nat.le_refl _, hd _ sm ?_⟩
    rw [List.take_of_length_le (by omega)] at e
    exact e
end L2
set_option maxHeartbeats 4000000
namespace L2
open PySem PySem.Spec PyProof.Rows
section
variable {X : Cx} {CX : CXT} {k : Nat} {ps : List Str} {x : Str} {p pos : Pos} {e : Expr} {es : List Expr} {t : TA} {E : XK}
noncomputable def tCallP {Par : Type} (fOf : Par → Addr) (i : Nat) (sp : Par → Sp) (E : XK) (t : TA) : TE := fun σ H Q => ∃ π, σ[i]? = some (some (.ref (fOf π))) ∧ t σ H fun vs H1 => sp π vs H1 Q E
theorem pe_callP {Par : Type} {fOf : Par → Addr} {fdOf : Par → FuncData} {sp : Par → Sp} {i : Nat} (F : ∀ π, FnOk X.prog X.w X.K X.mg X.base CX k (fOf π) (fdOf π) ps (sp π)) (hr : Room k X.A) (hk : ∀ π, PySem.W.keepIn X.K (.ref (fOf π)) = true)
    (hb : ∀ π, Binds X.K (fdOf π) ps []) (hx : Passes CX X E) (hn : PE X (.Name x p) (tVar i))
    (ha : PA X (e :: es) t) (he : starEach (e :: es) X.env = (false, eval e X.env) :: starEach es X.env := by rfl) (hpl : (backTo pos (starEach es X.env)).any (·.1) = false := by rfl) :
    PE X (.Call (.Name x p) (e :: es) [] pos) (tCallP fOf i sp E t) := by
  intro pins s σ H Q I h
  obtain ⟨π, hσ, h⟩ := h
  refine wpAny_Call_Name_kw (thn (hn pins s σ H (fun v H' => v = .ref (fOf π) ∧ H' = H) I ⟨_, hσ, rfl, rfl⟩) fun fv s0 ⟨v, H0, I0, rv, e1, e2⟩ => ?_)
  subst e1 e2
  obtain rfl : fv = Value.ref (fOf π) := rv
  refine PySem.W.callWith_K (h₀ := X.base) I0.ok.mod.kin (hk π) (thn (ha pos pins s0 σ H0 _ I0 h) fun us s1 ⟨vs, H1, I1, r, q⟩ => ⟨I1.kIn, ?_⟩) he hpl
  exact run_fn (dvs := []) (ds := []) (F π) hr (hb π) .nil hx I1 r (by rw [List.append_nil]; exact q)
end
end L2
set_option maxHeartbeats 4000000
namespace L2
open PySem PySem.Spec PyProof.Rows
section
variable {X : Cx}
theorem op_notInS : OpR X (compareOp .NotIn) (fun x y H Q => ∃ a b, x = .str a ∧ y = .str b ∧ Q (.bl (!Txt.contains b a)) H) := by
  rintro pins s σ H x y v u Q I rx ry ⟨a, b, rfl, rfl, q⟩
  obtain ⟨t, rfl⟩ := rx
  obtain ⟨t', rfl⟩ := ry
  exact SB.notContains ⟨.bl _, H, I, rfl, q⟩
theorem op_mulS : OpR X (binaryOp .Mult) (fun x y H Q => ∃ a n, x = .str a ∧ y = .int n ∧ MulOk a n ∧ Q (.str (Txt.mul a n)) H) := by
  rintro pins s σ H x y v u Q I rx ry ⟨a, n, rfl, rfl, ok, q⟩
  obtain ⟨t, rfl⟩ := rx
  obtain ⟨t', rfl⟩ := ry
  exact SB.mul ok fun t2 k => ⟨.str _, H, I.tok k, ⟨t2, rfl⟩, q⟩
theorem comp_strF {a : Str} {te : TE} {tt : TT} {st : St} {H1 : Hp} {Q : VK} {D : Addr} (p : Nat → Bool) (hD : H1 D = none) (hn : a.cps.size ≤ sizeLine)
    (ht : ∀ (c : Nat) (H2 : Hp) (k : Bool → Hp → Prop), Same H1 H2 → k (p c) H2 → tt (some (.str ⟨#[c]⟩) :: st) H2 k)
    (hs : ∀ (c : Nat) (H2 : Hp) (k : VK), Same H1 H2 → k (.str ⟨#[c]⟩) H2 → te (some (.str ⟨#[c]⟩) :: st) H2 k)
    (hd : ∀ H2, Same H1 H2 → H2 D = some (.lst ((a.cps.toList.filter p).map fun c => V.str ⟨#[c]⟩)) → Q (.ref D) H2) : CompG (Its a) (gName 0) tt te 1 st D H1 Q := by
  have hz : a.cps.toList.length = a.cps.size := by simp
  refine ⟨fun i m zs H2 => m = a.cps.size - i ∧ i ≤ a.cps.size ∧ zs = ((a.cps.toList.take i).filter p).map (fun c => V.str ⟨#[c]⟩) ∧ Same H1 H2 ∧ H2 D = some (.lst zs), ⟨a.cps.size, by simp, Nat.zero_le _, rfl, same_upd (Same.refl H1) hD, upd_same⟩, ?_⟩
  rintro i m zs H2 ⟨rfl, hi, rfl, sm, e⟩
  by_cases hlt : i < a.cps.size
  · refine .inr ⟨hlt, ?_⟩
    rintro x H3 σ0 ⟨rfl, c, hc, rfl⟩ l0
    have hc' : a.cps.toList[i]? = some c := by rw [Array.getElem?_toList]; exact hc
    obtain ⟨b, rfl⟩ : ∃ b, σ0 = [b] := by
      match σ0, l0 with
      | [b], _ => exact ⟨b, rfl⟩
    have tk : a.cps.toList.take (i + 1) = a.cps.toList.take i ++ [c] := by rw [List.take_add_one, hc']; rfl
    have ln : (((a.cps.toList.take i).filter p).map fun c => V.str ⟨#[c]⟩).length ≤ i := by
      rw [List.length_map]; exact Nat.le_trans (List.length_filter_le _ _) (by simp; omega)
    refine ⟨⟨[some (.str ⟨#[c]⟩)], rfl, rfl⟩, ht c _ _ sm ?_⟩
    cases hp : p c with
    | true =>
      rw [if_pos rfl]
      refine hs c _ _ sm ⟨e, by omega, a.cps.size - (i + 1), by omega, rfl, hlt, ?_, same_upd sm hD, upd_same⟩
      rw [tk, List.filter_append, List.map_append]
      simp [hp]
    | false =>
      rw [if_neg Bool.false_ne_true]
      refine ⟨a.cps.size - (i + 1), by omega, rfl, hlt, ?_, sm, e⟩
      rw [tk, List.filter_append, List.map_append]
      simp [hp]
  · have ei : i = a.cps.size := by omega
    subst ei
    refine .inl ⟨Nat.le_refl _, hd _ sm ?_⟩
    rw [e, List.take_of_length_le (by omega)]
noncomputable def bU (b : Bool) (u : Value) : Bool := match u with
  | .bool c => c == b
  | _ => false
theorem bU_at {A : Around} {s : Shared} {b : Bool} : ∀ {bs : List Bool} {us : List Value}, Vals (bs.map V.bl) us → us = bs.map Value.bool
  | [], _, .nil => rfl
  | c :: bs, u :: us, .cons r t => by
    have e : u = .bool c := r
    rw [e, bU_at (A := A) (s := s) (b := b) t]
    rfl
theorem eqb_at {A : Around} {s : Shared} {b : Bool} {bs : List Bool} : ∀ u ∈ bs.map Value.bool, SeqAt.EqAt A s u (.bool b) (bU b u) := fun u hu => by
  obtain ⟨c, _, rfl⟩ := List.mem_map.mp hu
  exact SeqAt.EqAt.bool_bool c b
theorem mt_countB : MtM X "list.count" (fun x vs H Q => ∃ (l : Addr) (bs : List Bool) (b : Bool), x = .ref l ∧ vs = [.bl b] ∧ H l = some (.lst (bs.map V.bl)) ∧ Q (.int ((bs.count b : Nat) : Int)) H) := by
  intro pins s σ H x vs v us Q I rx rv h
  obtain ⟨l, bs, b, rfl, rfl, hH, q⟩ := h
  cases rx
  obtain ⟨u, rfl, ru⟩ := rv.one
  obtain rfl : u = Value.bool b := ru
  obtain ⟨z, its, n, r, hl, e⟩ := I.lstM hH
  have ei := bU_at (A := X.A) (s := s) (b := b) r
  subst ei
  refine call_meets F.slot_list_count ⟨_, e, rfl⟩ F.entry_list_count (F.args_list_count_2 _ _) (SeqAt.list_countAt l _ n none #[] (.bool b) (bU b)) ⟨e, fun y hy => eqb_at y (by simpa using hy), ?_⟩
  refine ⟨.int _, H, I.tok _, ⟨_, rfl⟩, ?_⟩
  have ec : (bs.map Value.bool).countP (bU b) = bs.count b := by
    rw [List.countP_map, List.count]
    rfl
  have ea : ((bs.map Value.bool).toArray.toList).countP (bU b) = bs.count b := ec
  rw [ea]
  exact q
theorem mt_indexB : MtM X "list.index" (fun x vs H Q => ∃ (l : Addr) (bs : List Bool) (b : Bool) (j : Nat), x = .ref l ∧ vs = [.bl b] ∧ H l = some (.lst (bs.map V.bl)) ∧ bs[j]? = some b ∧ (∀ i c, i < j → bs[i]? = some c → c ≠ b) ∧ j < 1000 ∧ Q (.int ((j : Nat) : Int)) H) := by
  intro pins s σ H x vs v us Q I rx rv h
  obtain ⟨l, bs, b, j, rfl, rfl, hH, hj, hno, j9, q⟩ := h
  cases rx
  obtain ⟨u, rfl, ru⟩ := rv.one
  obtain rfl : u = Value.bool b := ru
  obtain ⟨z, its, n, r, hl, e⟩ := I.lstM hH
  have ei := bU_at (A := X.A) (s := s) (b := b) r
  subst ei
  have jl : j < bs.length := (List.getElem?_eq_some_iff.mp hj).1
  have hjs : j < (bs.map Value.bool).toArray.size := by simp; exact jl
  refine call_meets F.slot_list_index ⟨_, e, rfl⟩ F.entry_list_index (F.args_list_index_2 _ _) (SeqAt.list_indexAt l _ n none #[] (.bool b) (bU b) j hjs (by omega) ?_ ?_) ⟨e, fun y hy => eqb_at y (by simpa using hy), ?_⟩
  · have : bs[j] = b := (List.getElem?_eq_some_iff.mp hj).2
    simp [bU, this]
  · intro m hm hmj
    have ml : m < bs.length := by omega
    have := hno m bs[m] hmj (List.getElem?_eq_getElem ml)
    simp [bU, this]
  · exact ⟨.int _, H, I.tok _, ⟨_, rfl⟩, q⟩
noncomputable def nonV : V → Bool
  | .non => true
  | _ => false
noncomputable def nonU : Value → Bool
  | .none => true
  | _ => false
noncomputable def FlatN (H : Hp) (v : V) : Prop := v = .non ∨ (∃ i, v = .int i) ∨ ∃ a ts, v = .ref a ∧ H a = some (.tup ts)
theorem op_inNon (hu : X.A.units + 64 < cLine) : OpR X (compareOp .In) (fun x y H Q => ∃ p xs, x = .non ∧ y = .ref p ∧ H p = some (.lst xs) ∧ (∀ v ∈ xs, FlatN H v) ∧ Q (.bl (xs.any nonV)) H) := by
  rintro pins s σ H x y v u Q I rx ry ⟨p, xs, rfl, rfl, hp, fl, q⟩
  cases rx
  cases ry
  obtain ⟨z, its, n, r, hl, e⟩ := I.lstM hp
  have key : ∀ {xs : List V} {its : List Value}, Vals xs its → (∀ v ∈ xs, FlatN H v) → (∀ w ∈ its, SeqAt.EqAt X.A.in1 s w .none (nonU w)) ∧ its.any nonU = xs.any nonV := by
    intro xs its r
    induction r with
    | nil => exact fun _ => ⟨fun w hw => (by cases hw), rfl⟩
    | @cons y w ys ws ry t ih =>
      intro f
      obtain ⟨a, b⟩ := ih fun v hv => f v (.tail _ hv)
      have one : SeqAt.EqAt X.A.in1 s w .none (nonU w) ∧ nonU w = nonV y := by
        rcases f y (.head _) with e | ⟨i, e⟩ | ⟨c, ts, e, hc⟩
        · subst e; cases ry; exact ⟨SeqAt.EqAt.same _, rfl⟩
        · subst e; obtain ⟨t', rfl⟩ := ry; exact ⟨SeqAt.EqAt.int_none i t', rfl⟩
        · subst e; cases ry
          obtain ⟨_, ws, _, g⟩ := (show ObjOk X.prog X.w H s.heap c (.tup ts) from I.hok c _ hc)
          exact ⟨SeqAt.EqAt.tuple_none (show s.heap.IsTuple c ws.toArray from g) (by show X.A.units + 1 < cLine; omega), rfl⟩
      refine ⟨fun w' hw => ?_, ?_⟩
      · rcases List.mem_cons.mp hw with e | e
        · rw [e]; exact one.1
        · exact a w' e
      · rw [List.any_cons, List.any_cons, b, one.2]
  obtain ⟨k1, k2⟩ := key r fl
  refine SeqAt.in_listAt nonU ⟨_, e, rfl, n, rfl⟩ (fun w hw => k1 w (by simpa using hw)) ?_
  have ea : its.toArray.any nonU = xs.any nonV := by rw [← k2]; simp
  rw [ea]
  exact ⟨.bl _, H, I, rfl, q⟩
end
end L2
set_option maxHeartbeats 4000000
namespace L2
open PySem PySem.Spec PyProof.Rows
noncomputable def tS0 (r : Str → Hp → VK → Prop) (to : TE) : TE := fun σ H Q => to σ H fun x H1 => ∃ a, x = .str a ∧ r a H1 Q
section
variable {X : Cx} {o a e : Expr} {to ta te : TE} {t : TA} {es : List Expr} {apos pos p1 p2 : Pos}
theorem pe_upper (ho : PE X o to) (hbase : attributeBase o "upper" X.env (eval o X.env) = eval o X.env := by rfl) (hline : (apos.endLine == pos.line) = true := by rfl) :
    PE X (.Call (.Attribute o "upper" apos) [] [] pos) (tS0 (fun a H Q => Builtin.Str.tooLong (Txt.upper a).length = false ∧ Q (.str (Txt.upper a)) H) to) := by
  intro pins s σ H Q I h
  refine Call_method0 hbase hline (thn (ho pins s σ H _ I h) fun v s1 ⟨x, H1, I1, r1, a, e1, hf, q1⟩ => ?_)
  subst e1
  obtain ⟨t, rfl⟩ := r1
  exact SB.upper hf ⟨.str _, H1, I1.tok _, ⟨_, rfl⟩, q1⟩
noncomputable def PE1 (X : Cx) (e : Expr) (t : TE) : Prop :=
  ∀ (pins : List (Addr × Obj)) (s : Shared) (σ : St) (H : Hp) (Q : VK), Inv X pins σ H s → t σ H Q → wpAny (model X.prog X.w) X.A (eval e X.env) (fun u s' => EP X pins σ Q u s' ∧ 1 ≤ s'.toks) X.xe s
noncomputable def PEt (X : Cx) (e : Expr) (t : TE) : Prop :=
  ∀ (pins : List (Addr × Obj)) (s : Shared) (σ : St) (H : Hp) (Q : VK), 1 ≤ s.toks → Inv X pins σ H s → t σ H Q → wpAny (model X.prog X.w) X.A (eval e X.env) (EP X pins σ Q) X.xe s
noncomputable def PAt (X : Cx) (es : List Expr) (t : TA) : Prop :=
  ∀ (pos : Pos) (pins : List (Addr × Obj)) (s : Shared) (σ : St) (H : Hp) (Q : List V → Hp → Prop), 1 ≤ s.toks → Inv X pins σ H s → t σ H Q → wpAny (model X.prog X.w) X.A (spliced (backTo pos (starEach es X.env))) (AP X pins σ Q) X.xe s
theorem pa_one (ha : PE1 X e te) (hr : PAt X es t) (hs : starEach (e :: es) X.env = (false, eval e X.env) :: starEach es X.env := by rfl) : PA X (e :: es) (tCons te t) := by
  intro pos pins s σ H Q I h
  rw [hs]
  show wpAny _ _ (spliced ((false, eval e X.env) :: backTo pos (starEach es X.env))) _ _ s
  refine Calls.spliced_cons (thn (ha pins s σ H _ I h) fun u s1 ⟨⟨x, H1, I1, r1, q1⟩, k1⟩ => ?_)
  exact thn (hr pos pins s1 σ H1 _ k1 I1 q1) fun us s2 ⟨xs, H2, I2, r2, q2⟩ => ⟨x :: xs, H2, I2, .cons r1 r2, q2⟩
theorem pa_then (ha : PEt X e te) (hr : PA X es t) (hs : starEach (e :: es) X.env = (false, eval e X.env) :: starEach es X.env := by rfl) : PAt X (e :: es) (tCons te t) := by
  intro pos pins s σ H Q k I h
  rw [hs]
  show wpAny _ _ (spliced ((false, eval e X.env) :: backTo pos (starEach es X.env))) _ _ s
  refine Calls.spliced_cons (thn (ha pins s σ H _ k I h) fun u s1 ⟨x, H1, I1, r1, q1⟩ => ?_)
  exact thn (hr pos pins s1 σ H1 _ I1 q1) fun us s2 ⟨xs, H2, I2, r2, q2⟩ => ⟨x :: xs, H2, I2, .cons r1 r2, q2⟩
theorem pe1_add {c : Str} {j : Nat} (ha : PE X a ta) : PE1 X (.BinOp a .Add (.Constant (.str c) j p1) pos) (tOp (fun x y H Q => ∃ a b, x = .str a ∧ y = .str b ∧ a.length + b.length ≤ sizeLine ∧ Q (.str (a ++ b)) H) ta (tC (.str c))) := by
  intro pins s σ H Q I h
  refine wpAny_BinOp (thn (ha pins s σ H _ I h) fun v s1 ⟨x, H1, I1, r1, z, b, e1, e2, hl, q1⟩ => Calls.Constant_str ?_)
  subst e1
  cases e2
  obtain ⟨t, rfl⟩ := r1
  have fin : ∀ t' k, s1.toks + 1 ≤ k → EP X pins σ Q (.str (z ++ c) t') { s1 with toks := k } ∧ 1 ≤ k := fun t' k hk => ⟨⟨.str _, H1, I1.tok k, ⟨t', rfl⟩, q1⟩, by omega⟩
  refine P.add_str ?_
  by_cases hz : (z.length == 0) = true
  · rw [if_pos hz]
    have := fin s1.toks (s1.toks + 1) (Nat.le_refl _)
    rw [Str.append_left_empty hz] at this
    exact this
  · rw [if_neg hz]
    by_cases hc : (c.length == 0) = true
    · rw [if_pos hc]
      have := fin t (s1.toks + 1) (Nat.le_refl _)
      rw [Str.append_right_empty hc] at this
      exact this
    · rw [if_neg hc]
      exact ⟨by rw [Str.length_append]; exact hl, fin (s1.toks + 1) (s1.toks + 1 + 1) (by omega)⟩
theorem pe1_from {i : Int} {j : Nat} {pp : Pos} (ha : PE X a ta) (ht : ∀ o r, letTemporaryGo a o r = pure () := by intro _ _; rfl) : PE1 X (.Subscript a (.Slice (some (.Constant (.int i) j p1)) none none pp) pos) (fun σ H Q => ta σ H fun x H1 => ∃ z, x = .str z ∧ z.length ≤ sizeLine ∧ Q (.str (Txt.slice z (some i) none)) H1) := by
  intro pins s σ H Q I h
  refine wpAny_Subscript_str_slice (thn (ha pins s σ H _ I h) fun v s1 ⟨x, H1, I1, r1, z, e1, hz, q1⟩ => ?_) ht
  subst e1
  obtain ⟨t, rfl⟩ := r1
  rw [evalPart_some]
  refine wpAny_Constant_int ?_
  rw [evalPart_none]
  refine wpAny_pure ⟨z, t, some (i, s1.toks), none, rfl, rfl, rfl, ?_⟩
  have I2 : ∀ k, Inv X pins σ H1 { s1 with heap := s1.heap.push { cls := .type "slice", data := .fields #[.int i s1.toks, .none, .none] }, toks := k } := fun k => I1.kept (t' := k) fun b o q => Heap.get?_push_of_some _ q
  have fin : ∀ t' k, s1.toks + 1 ≤ k → EP X pins σ Q (.str (Txt.slice z (some i) none) t') { s1 with heap := s1.heap.push { cls := .type "slice", data := .fields #[.int i s1.toks, .none, .none] }, toks := k } ∧ 1 ≤ k := fun t' k hk => ⟨⟨.str _, H1, I2 k, ⟨t', rfl⟩, q1⟩, by omega⟩
  have le := Txt.slice_le z (some i) none
  unfold Txt.slice at fin le
  unfold sliceMade
  by_cases hc : (((none : Option (Int × Tok)).map (·.1)).getD 1 == 1 && (slicePicked z (some (i, s1.toks)) none none).length == z.length) = true
  · rw [if_pos hc]
    have hc' : ((1 : Int) == 1 && (Builtin.Str.strSliceIndices (some i) none 1 z.length).length == z.length) = true := hc
    have := fin t (s1.toks + 1) (Nat.le_refl _)
    rw [if_pos hc'] at this
    exact this
  · rw [if_neg hc]
    have hc' : ¬ ((1 : Int) == 1 && (Builtin.Str.strSliceIndices (some i) none 1 z.length).length == z.length) = true := hc
    have := fin (s1.toks + 1) (s1.toks + 1 + 1) (by omega)
    rw [if_neg hc'] at this le
    exact ⟨Nat.le_trans le hz, this⟩
theorem pet_replace {i : Nat} {x : Str} {y z : Str} {j1 j2 : Nat} (hN : X.N[i]? = some x) (hv : Vis X.env.scope x) (hyz : (y == z) = false) (hbase : attributeBase (.Name x apos) "replace" X.env (eval (.Name x apos) X.env) = eval (.Name x apos) X.env := by rfl)
    (hs : starEach [.Constant (.str y) j1 p1, .Constant (.str z) j2 p2] X.env = [(false, eval (.Constant (.str y) j1 p1) X.env), (false, eval (.Constant (.str z) j2 p2) X.env)] := by rfl) {ap2 : Pos} (hline : (ap2.endLine == pos.line) = true := by rfl)
    (hd : (x == ("__debug__" : Str)) = false := by decide) (hcd : (x == ("__classdict__" : Str)) = false := by decide) :
    PEt X (.Call (.Attribute (.Name x apos) "replace" ap2) [.Constant (.str y) j1 p1, .Constant (.str z) j2 p2] [] pos) (fun σ H Q => ∃ a, σ[i]? = some (some (.str a)) ∧ a.length + (a.length + 1) * z.length ≤ 16777216 ∧ Q (.str (Txt.replace a y z)) H) := by
  intro pins s σ H Q k I h
  obtain ⟨a, e, hb, q⟩ := h
  obtain ⟨m, hn, hl⟩ := I.loc
  obtain ⟨u, r, l⟩ := hl i x _ hN e hv
  obtain ⟨t, rfl⟩ := r
  refine Call_method2 hbase hs hline ?_
  have fin : MethodOnS X.prog X.w X.A X.xe "replace" (.str a t) pos [(false, eval (.Constant (.str y) j1 p1) X.env), (false, eval (.Constant (.str z) j2 p2) X.env)] (EP X pins σ Q) s := by
    refine ⟨"str", "str.replace", F.plainAttrs_str, F.slot_str_replace, F.type_str_replace, typeIs_str _ _ _, (fun _ e => nomatch e), ?_⟩
    refine Calls.callWith_builtin rfl (Calls.evalArgs_plain (Calls.spliced_cons (Calls.Constant_str (Calls.spliced_cons (Calls.Constant_str (Calls.spliced_nil ?_))))))
    exact SC.replace (show s.toks ≠ 0 by omega) (show s.toks + 1 ≠ 0 by omega) (show s.toks ≠ s.toks + 1 by omega) hyz hb fun t' k' => ⟨.str _, H, I.tok k', ⟨t', rfl⟩, q⟩
  rcases l with ⟨hk, hm⟩ | ⟨hk, c, hc, hcell⟩
  · exact wpAny_Name (wpAny_loadName_local I.ok.kind hk hn hm fin) hd
  · rcases hk with hk | hk
    · exact wpAny_Name (wpAny_loadName_cell I.ok.kind hk hc hcell fin) hd
    · exact wpAny_Name (wpAny_loadName_free I.ok.kind hk hc hcell fin hcd) hd
end
end L2
set_option maxHeartbeats 4000000
namespace Tx
open PySem PySem.Builtin.Str PySem.StrLaws
noncomputable def num (i : Int) : Str := Str.ofString (toString i)
theorem num_nat (m : Nat) : (num (m : Int)).cps.toList = (Nat.toDigits 10 m).map Char.toNat := PySem.W.KIN.signs_num m
theorem num_neg (m : Nat) : num (-((m + 1 : Nat) : Int)) = "-" ++ num ((m + 1 : Nat) : Int) := by
  refine ext_list ?_
  rw [Str.cps_append, Array.toList_append, num_nat]
  unfold num
  rw [PyProof.Rows.signs_ofString]
  rw [show -((m + 1 : Nat) : Int) = Int.negSucc m from rfl]
  show ("-" ++ Nat.repr (m + 1)).toList.map Char.toNat = _
  rw [String.toList_append, List.map_append, Nat.toList_repr]
  rfl
theorem lead : ∀ m : Nat, 1 ≤ m → ∃ c r, Nat.toDigits 10 m = c :: r ∧ c ≠ '0' := fun m => by
  induction m using Nat.strongRecOn with
  | _ m ih =>
    intro h1
    by_cases h : m < 10
    · refine ⟨_, [], Nat.toDigits_of_lt_base h, ?_⟩
      have : ∀ k, k < 10 → 1 ≤ k → Nat.digitChar k ≠ '0' := by decide
      exact this m h h1
    · rw [Nat.toDigits_of_base_le (by decide) (by omega)]
      obtain ⟨c, r, e, hc⟩ := ih (m / 10) (by omega) (by omega)
      rw [e]
      exact ⟨c, _, rfl, hc⟩
theorem digs (m : Nat) : ∀ c ∈ (num (m : Int)).cps.toList, 48 ≤ c ∧ c ≤ 57 := by
  intro c hc
  rw [num_nat] at hc
  obtain ⟨ch, hch, e⟩ := List.mem_map.mp hc
  have r := PyProof.Rows.digit_range (Nat.isDigit_of_mem_toDigits (by decide) (by decide) hch)
  rw [← e]
  exact r
theorem num_len {m k : Nat} (hk : 1 ≤ k) (h : m < 10 ^ k) : 1 ≤ (num (m : Int)).length ∧ (num (m : Int)).length ≤ k := by
  rw [← len_toList, num_nat, List.length_map]
  exact ⟨PySem.toDigits_len_ge 10 m, PySem.toDigits_len_pow (by decide) hk h⟩
theorem sw1 {x y : Str} {c d : Nat} {r : List Nat} (hx : x.cps.toList = c :: r) (hy : y.cps.toList = [d]) : Txt.startswith x y = (c == d) := by
  have l1 : x.length = r.length + 1 := by rw [← len_toList, hx]; rfl
  have l2 : y.length = 1 := by rw [← len_toList, hy]; rfl
  unfold Txt.startswith
  rw [subAt_eq, hx, hy, l1, l2, decide_eq_true (by omega), Bool.true_and]
  simp
structure Nm (i : Int) : Prop where
  len : (num i).length ≤ 61
  l1 : 1 ≤ (figs (num i)).length
  l3 : (figs (num i)).length ≤ 60
  asc : (figs (num i)).cps.all (· < 128) = true
  fig : ∀ (j c : Nat), (figs (num i)).cps[j]? = some c → Txt.contains FIG ⟨#[c]⟩ = true
  nou : (Txt.startswith (figs (num i)) "0" && (Txt.startswith (num i) "-" || decide ((figs (num i)).length > 1))) = false
  int : intText? (num i) = some i
  no : ∀ c ∈ (num i).cps.toList, c ≠ 32 ∧ c ≠ 47 ∧ c ≠ 58 ∧ c ≠ 59
theorem fig_in : ∀ c : Nat, c < 58 → 48 ≤ c → Txt.contains FIG ⟨#[c]⟩ = true := by decide +kernel
theorem num_cons (m : Nat) : ∃ c r, (num (m : Int)).cps.toList = c :: r ∧ (c = 48 → m = 0) ∧ 48 ≤ c := by
  have hd := digs m
  by_cases h : m = 0
  · subst h
    exact ⟨48, [], by decide +kernel, fun _ => rfl, Nat.le_refl _⟩
  · obtain ⟨c, r, e, hc⟩ := lead m (by omega)
    rw [num_nat, e] at hd
    refine ⟨c.toNat, r.map Char.toNat, by rw [num_nat, e]; rfl, fun z => ?_, (hd _ (List.mem_cons_self ..)).1⟩
    exfalso
    apply hc
    exact Char.ext (UInt32.toNat_inj.mp z)
theorem nm_ok {i : Int} (h : i.natAbs < 10 ^ 60) : Nm i := by
  have key : ∀ m : Nat, m < 10 ^ 60 → ((num (m : Int)).cps.all (· < 128) = true) ∧ (∀ (j c : Nat), (num (m : Int)).cps[j]? = some c → Txt.contains FIG ⟨#[c]⟩ = true) := fun m hm => by
    refine ⟨?_, fun j c hc => ?_⟩
    · rw [Array.all_eq_true_iff_forall_mem]
      intro c hc
      have := digs m c (Array.mem_def.mp hc)
      exact decide_eq_true (by omega)
    · have := digs m c (Array.mem_def.mp (Array.mem_of_getElem? hc))
      exact fig_in c (by omega) this.1
  cases i with
  | ofNat m =>
    have hm : m < 10 ^ 60 := h
    show Nm ((m : Nat) : Int)
    obtain ⟨c, r, e, h0, h48⟩ := num_cons m
    obtain ⟨a1, a2⟩ := num_len (by decide) hm
    obtain ⟨k1, k2⟩ := key m hm
    have sw : Txt.startswith (num (m : Int)) "-" = false := by
      rw [sw1 e (d := 45) (by decide +kernel)]
      exact beq_false_of_ne (by omega)
    have ef : figs (num (m : Int)) = num (m : Int) := by unfold figs; rw [sw]; rfl
    refine ⟨by omega, by rw [ef]; exact a1, by rw [ef]; exact a2, by rw [ef]; exact k1, by rw [ef]; exact k2, ?_, ?_, fun c hc => ?_⟩
    · rw [ef, sw, Bool.false_or, sw1 e (d := 48) (by decide +kernel)]
      by_cases z : c = 48
      · have z0 := h0 z
        subst z0
        rw [show decide ((num ((0 : Nat) : Int)).length > 1) = false by decide +kernel, Bool.and_false]
      · rw [beq_false_of_ne z, Bool.false_and]
    · have := PySem.W.KIN.val_back m
      rw [intText_digits (fun c hc => digs m c hc) (by rw [e]; simp) (by omega), num_nat, this]
    · have := digs m c hc
      omega
  | negSucc m =>
    have hm : m + 1 < 10 ^ 60 := h
    show Nm (-((m + 1 : Nat) : Int))
    obtain ⟨c, r, e, h0, h48⟩ := num_cons (m + 1)
    obtain ⟨a1, a2⟩ := num_len (by decide) hm
    obtain ⟨k1, k2⟩ := key (m + 1) hm
    have en := num_neg m
    have hn : (num (-((m + 1 : Nat) : Int))).cps.toList = 45 :: (num ((m + 1 : Nat) : Int)).cps.toList := by
      rw [en, Str.cps_append, Array.toList_append]
      rfl
    have sw : Txt.startswith (num (-((m + 1 : Nat) : Int))) "-" = true := by
      rw [sw1 hn (d := 45) (by decide +kernel)]
      rfl
    have ef : figs (num (-((m + 1 : Nat) : Int))) = num ((m + 1 : Nat) : Int) := by
      unfold figs
      rw [sw, if_pos rfl]
      exact slice_from (k := 1) en (by decide +kernel)
    have ll : (num (-((m + 1 : Nat) : Int))).length = (num ((m + 1 : Nat) : Int)).length + 1 := by
      rw [← len_toList, hn, List.length_cons, len_toList]
    refine ⟨by omega, by rw [ef]; exact a1, by rw [ef]; exact a2, by rw [ef]; exact k1, by rw [ef]; exact k2, ?_, ?_, fun c hc => ?_⟩
    · rw [ef, sw1 e (d := 48) (by decide +kernel), beq_false_of_ne (fun z => by have := h0 z; omega), Bool.false_and]
    · have := PySem.W.KIN.val_back (m + 1)
      rw [intText_neg hn (fun c hc => digs (m + 1) c hc) (by rw [e]; simp) (by omega), num_nat, this]
    · rw [hn] at hc
      rcases List.mem_cons.mp hc with rfl | hc
      · decide
      · have := digs (m + 1) c hc
        omega
theorem occ_no {x y : Str} {c : Nat} {r : List Nat} (hy : y.cps.toList = c :: r) (hc : c ∉ x.cps.toList) : occurrences x y 0 x.length 1 = [] := by
  have e := go_skip (P := isAt x y) (w := y.length) (free := 0) (x.length + 1) 0 0 (fun j h1 h2 => .inl (by
    rw [Bool.eq_false_iff]
    intro z
    exact hc (List.mem_of_getElem? (isAt_head hy z))))
  rw [Nat.add_zero] at e
  rw [occ_go, e]
  rfl
end Tx
set_option maxHeartbeats 4000000
namespace Tx
open PySem PySem.Builtin.Str PySem.StrLaws
noncomputable def frS (p : Int × Int) : Str := if p.2 = 1 then num p.1 else num p.1 ++ "/" ++ num p.2
structure FrB (p : Int × Int) : Prop where
  a : p.1.natAbs < 10 ^ 60
  b1 : 1 ≤ p.2
  b : p.2.natAbs < 10 ^ 60
theorem frS_no {p : Int × Int} (h : FrB p) : ∀ c ∈ (frS p).cps.toList, c ≠ 32 ∧ c ≠ 58 ∧ c ≠ 59 := by
  have n1 := (nm_ok h.a).no
  have n2 := (nm_ok h.b).no
  unfold frS
  split
  · intro c hc
    have := n1 c hc
    omega
  · intro c hc
    rw [Str.cps_append, Str.cps_append, Array.toList_append, Array.toList_append] at hc
    rcases List.mem_append.mp hc with hc | hc
    · rcases List.mem_append.mp hc with hc | hc
      · have := n1 c hc
        omega
      · have e : ("/" : Str).cps.toList = [47] := by decide +kernel
        rw [e] at hc
        cases List.mem_singleton.mp hc
        decide
    · have := n2 c hc
      omega
theorem slash_len : ("/" : Str).length = 1 := by decide +kernel
theorem frS_len {p : Int × Int} (h : FrB p) : (frS p).length ≤ 123 := by
  have n1 := (nm_ok h.a).len
  have n2 := (nm_ok h.b).len
  unfold frS
  split
  · omega
  · rw [Str.length_append, Str.length_append, slash_len]
    omega
theorem frS_parts {p : Int × Int} (h : FrB p) : L2.parts3 (frS p) "/" = if p.2 = 1 then [num p.1, Str.empty, Str.empty] else [num p.1, "/", num p.2] := by
  have n1 := (nm_ok h.a).no
  by_cases hp : p.2 = 1
  · have e : frS p = num p.1 := if_pos hp
    rw [if_pos hp, e]
    unfold L2.parts3
    rw [occ_no (c := 47) (r := []) (by decide +kernel) (fun z => (n1 _ z).2.1 rfl)]
  · have e : frS p = num p.1 ++ ("/" ++ num p.2) := (if_neg hp).trans (app_assoc _ _ _)
    rw [if_neg hp]
    unfold L2.parts3
    rw [occ_first (c := 47) (r := []) (by decide +kernel) e (fun z => (n1 _ z).2.1 rfl)]
    dsimp only
    rw [sub_left e, sub_right e]
noncomputable def prF (s : (Int × Int) × (Int × Int)) : Str := frS s.1 ++ " " ++ frS s.2
noncomputable def PrB (s : (Int × Int) × (Int × Int)) : Prop := FrB s.1 ∧ FrB s.2
noncomputable def rbody (n : Int) (ss : List ((Int × Int) × (Int × Int))) : Str := num n ++ ": " ++ Txt.join "; " (ss.map prF)
theorem prF_no {b : (Int × Int) × (Int × Int)} (h : PrB b) : 59 ∉ (prF b).cps.toList := by
  unfold prF
  rw [Str.cps_append, Str.cps_append, Array.toList_append, Array.toList_append]
  simp only [List.mem_append, not_or]
  exact ⟨⟨fun z => (frS_no h.1 _ z).2.2 rfl, by decide +kernel⟩, fun z => (frS_no h.2 _ z).2.2 rfl⟩
theorem prF_split {b : (Int × Int) × (Int × Int)} (h : PrB b) : Txt.split (prF b) " " = [frS b.1, frS b.2] := by
  have e : prF b = Txt.join " " [frS b.1, frS b.2] := by
    show _ = glued _ _
    rw [glued_eq_join]
    rfl
  rw [e]
  refine split_join (c := 32) (r := []) (by decide +kernel) (by decide +kernel) _ (by simp) fun p hp => ?_
  rcases List.mem_cons.mp hp with rfl | hp
  · exact fun z => (frS_no h.1 _ z).1 rfl
  · cases List.mem_singleton.mp hp
    exact fun z => (frS_no h.2 _ z).1 rfl
theorem prF_len {b : (Int × Int) × (Int × Int)} (h : PrB b) : (prF b).length ≤ 247 := by
  unfold prF
  rw [Str.length_append, Str.length_append]
  have := frS_len h.1
  have := frS_len h.2
  have : (" " : Str).length = 1 := by decide +kernel
  omega
theorem rbody_split {bs : List ((Int × Int) × (Int × Int))} (h0 : bs ≠ []) (h : ∀ b ∈ bs, PrB b) : Txt.split (Txt.join "; " (bs.map prF)) "; " = bs.map prF := by
  refine split_join (c := 59) (r := [32]) (by decide +kernel) (by decide +kernel) _ (by simpa using h0) fun p hp => ?_
  obtain ⟨b, hb, rfl⟩ := List.mem_map.mp hp
  exact prF_no (h b hb)
theorem rbody_parts {n : Int} (hn : n.natAbs < 10 ^ 60) (bs : List ((Int × Int) × (Int × Int))) : L2.parts3 (rbody n bs) ": " = [num n, ": ", Txt.join "; " (bs.map prF)] := by
  have e : rbody n bs = num n ++ (": " ++ Txt.join "; " (bs.map prF)) := app_assoc _ _ _
  unfold L2.parts3
  rw [occ_first (c := 58) (r := [32]) (by decide +kernel) e (fun z => ((nm_ok hn).no _ z).2.2.1 rfl)]
  dsimp only
  rw [sub_left e, sub_right e]
theorem rjoin_len {bs : List ((Int × Int) × (Int × Int))} (hl : bs.length ≤ 13) (h : ∀ b ∈ bs, PrB b) : (Txt.join "; " (bs.map prF)).length ≤ 3237 := by
  show (glued _ _).length ≤ 3237
  rw [glued_eq_join]
  refine Nat.le_trans (StrLaws.join_length_le _ _) ?_
  have e : ("; " : Str).length = 2 := by decide +kernel
  have s := sumLen_le (B := 247) (bs.map prF) fun y hy => by
    obtain ⟨b, hb, rfl⟩ := List.mem_map.mp hy
    exact prF_len (h b hb)
  rw [e]
  rw [List.length_map] at s ⊢
  omega
theorem rjoin_ok {bs : List ((Int × Int) × (Int × Int))} (hl : bs.length ≤ 13) (h : ∀ b ∈ bs, PrB b) : JoinOk "; " (bs.map prF) = true := by
  unfold JoinOk
  rw [Bool.not_eq_true']
  have e : ("; " : Str).length = 2 := by decide +kernel
  refine joinFits (B := 247) (fun y hy => ?_) ?_
  · obtain ⟨b, hb, rfl⟩ := List.mem_map.mp hy
    exact prF_len (h b hb)
  · rw [List.length_map, e]; omega
theorem rbody_len {n : Int} {bs : List ((Int × Int) × (Int × Int))} (hn : n.natAbs < 10 ^ 60) (hl : bs.length ≤ 13) (h : ∀ b ∈ bs, PrB b) : (rbody n bs).length ≤ 3300 := by
  unfold rbody
  rw [Str.length_append, Str.length_append]
  have := (nm_ok hn).len
  have := rjoin_len hl h
  have : (": " : Str).length = 2 := by decide +kernel
  omega
end Tx
set_option maxHeartbeats 4000000
namespace Tx
open PySem PySem.Builtin.Str PySem.StrLaws
noncomputable def isFig (c : Nat) : Bool := Txt.contains FIG ⟨#[c]⟩
noncomputable def okFig (x : Str) : Bool := decide (1 ≤ (figs x).length) && (decide ((figs x).length ≤ 60) && (figs x).cps.toList.all isFig)
noncomputable def nought (x : Str) : Bool := Txt.startswith (figs x) "0" && (Txt.startswith x "-" || decide ((figs x).length > 1))
noncomputable def wholeT (x : Str) : Option Int := if okFig x = true ∧ nought x = false then intText? x else none
theorem isFig_iff {c : Nat} : isFig c = true ↔ 48 ≤ c ∧ c ≤ 57 := by
  have e : FIG.cps.toList = [48, 49, 50, 51, 52, 53, 54, 55, 56, 57] := by decide +kernel
  unfold isFig Txt.contains
  rw [found_one, e, decide_eq_true_eq]
  simp only [List.mem_cons, List.not_mem_nil, or_false]
  omega
theorem dash {x : Str} (h : Txt.startswith x "-" = true) : ∃ r : Str, x = "-" ++ r := by
  have ey : ("-" : Str).cps.toList = [45] := by decide +kernel
  have el : ("-" : Str).length = 1 := by decide +kernel
  unfold Txt.startswith at h
  rw [Bool.and_eq_true, subAt_eq, beq_iff_eq, ey, el, List.drop_zero] at h
  obtain ⟨_, h⟩ := h
  cases hx : x.cps.toList with
  | nil => rw [hx] at h; cases h
  | cons c r =>
    rw [hx] at h
    have hc : c = 45 := by simpa using h
    refine ⟨⟨r.toArray⟩, ext_list ?_⟩
    rw [Str.cps_append, Array.toList_append, ey, hx, hc]
    simp
theorem whole_int {x : Str} (h : okFig x = true) : x.length ≤ 61 ∧ ∃ n, intText? x = some n := by
  unfold okFig at h
  rw [Bool.and_eq_true, Bool.and_eq_true, decide_eq_true_eq, decide_eq_true_eq, List.all_eq_true] at h
  obtain ⟨h1, h2, h3⟩ := h
  have hd : ∀ c ∈ (figs x).cps.toList, 48 ≤ c ∧ c ≤ 57 := fun c hc => isFig_iff.mp (h3 c hc)
  cases hs : Txt.startswith x "-" with
  | false =>
    have ef : figs x = x := by unfold figs; rw [hs]; rfl
    rw [ef] at h1 h2 hd
    refine ⟨by omega, _, intText_digits hd (fun z => ?_) (by omega)⟩
    rw [← len_toList, z] at h1
    exact absurd h1 (by decide)
  | true =>
    obtain ⟨r, rfl⟩ := dash hs
    have ef : figs ("-" ++ r) = r := by
      unfold figs
      rw [hs, if_pos rfl]
      exact slice_from (k := 1) rfl (by decide +kernel)
    rw [ef] at h1 h2 hd
    have el : ("-" : Str).length = 1 := by decide +kernel
    have ey : ("-" : Str).cps.toList = [45] := by decide +kernel
    have ll : ("-" ++ r : Str).length = r.length + 1 := by rw [Str.length_append, el]; omega
    refine ⟨by omega, _, intText_neg (cs := r.cps.toList) (by rw [Str.cps_append, Array.toList_append, ey]; rfl) hd (fun z => ?_) (by omega)⟩
    rw [← len_toList, z] at h1
    exact absurd h1 (by decide)
theorem figs_le (x : Str) : (figs x).length ≤ x.length := by
  unfold figs
  split
  · exact Txt.slice_le x _ _
  · exact Nat.le_refl _
theorem figs_asc {x : Str} (h : x.cps.all (· < 128) = true) : (figs x).cps.all (· < 128) = true := by
  cases hs : Txt.startswith x "-" with
  | false =>
    have ef : figs x = x := by unfold figs; rw [hs]; rfl
    rw [ef]; exact h
  | true =>
    obtain ⟨r, rfl⟩ := dash hs
    have ef : figs ("-" ++ r) = r := by
      unfold figs
      rw [hs, if_pos rfl]
      exact slice_from (k := 1) rfl (by decide +kernel)
    rw [ef]
    rw [Array.all_eq_true_iff_forall_mem] at h ⊢
    intro c hc
    refine h c ?_
    rw [Str.cps_append]
    exact Array.mem_append.mpr (.inr hc)
end Tx
set_option maxHeartbeats 4000000
namespace Tx
open PySem PySem.Builtin.Str PySem.StrLaws
noncomputable def Asc (x : Str) : Prop := x.cps.all (· < 128) = true
theorem asc_iff {x : Str} : Asc x ↔ ∀ c ∈ x.cps.toList, c < 128 := by
  unfold Asc
  rw [Array.all_eq_true_iff_forall_mem]
  simp only [decide_eq_true_eq]
  exact ⟨fun h c hc => h c (Array.mem_def.mpr hc), fun h c hc => h c (Array.mem_def.mp hc)⟩
theorem sub_asc {x : Str} (h : Asc x) (i j : Nat) : Asc (strSub x i j) := asc_iff.mpr fun c hc => by
  rw [strSub_toList] at hc
  exact asc_iff.mp h c (List.mem_of_mem_drop (List.mem_of_mem_take hc))
theorem sub_len (x : Str) (i j : Nat) : (strSub x i j).length ≤ x.length := by
  rw [← len_toList, ← len_toList, strSub_toList, List.length_take, List.length_drop]
  omega
theorem asc_empty : Asc Str.empty := by
  show Str.empty.cps.all (· < 128) = true
  decide +kernel
theorem parts_cases (x y : Str) : (∃ i, L2.parts3 x y = [strSub x 0 i, y, strSub x (i + y.length) x.length]) ∨ L2.parts3 x y = [x, Str.empty, Str.empty] := by
  unfold L2.parts3
  cases occurrences x y 0 x.length 1 with
  | nil => exact .inr rfl
  | cons i r => exact .inl ⟨i, rfl⟩
theorem parts_three (x y : Str) (hx : Asc x) (hy : Asc y) : ∃ a m b, L2.parts3 x y = [a, m, b] ∧ Asc a ∧ Asc m ∧ Asc b ∧ a.length ≤ x.length ∧ b.length ≤ x.length := by
  rcases parts_cases x y with ⟨i, e⟩ | e
  · exact ⟨_, _, _, e, sub_asc hx _ _, hy, sub_asc hx _ _, sub_len _ _ _, sub_len _ _ _⟩
  · exact ⟨_, _, _, e, hx, asc_empty, asc_empty, Nat.le_refl _, Nat.zero_le _⟩
noncomputable def fracT (x : Str) : Option (Int × Int) := match L2.parts3 x "/" with
  | [a, m, b] => (wholeT a).bind fun t => if m = Str.empty then some (t, 1) else (wholeT b).bind fun d => if d < 2 ∨ Int.gcd t d ≠ 1 then none else some (t, d)
  | _ => none
end Tx
set_option maxHeartbeats 4000000
namespace Tx
open PySem PySem.Builtin.Str PySem.StrLaws
theorem split_mem {x y : Str} (hx : Asc x) : ∀ z ∈ Txt.split x y, Asc z ∧ z.length ≤ x.length := by
  intro z hz
  unfold Txt.split at hz
  split at hz
  · cases List.mem_singleton.mp hz
    exact ⟨hx, Nat.le_refl _⟩
  · split at hz
    · cases List.mem_singleton.mp hz
      exact ⟨hx, Nat.le_refl _⟩
    · simp only [partsBetween, List.mem_map] at hz
      obtain ⟨p, _, rfl⟩ := hz
      exact ⟨sub_asc hx _ _, sub_len _ _ _⟩
theorem split_count (x y : Str) : (Txt.split x y).length ≤ x.length + 2 := by
  unfold Txt.split
  split
  · show 1 ≤ _; omega
  · split
    · show 1 ≤ _; omega
    · rw [partsBetween_eq]
      have : ∀ (cs : List Nat) (a : Nat), (partsFrom x y.length a cs).length = cs.length + 1 := by
        intro cs
        induction cs with
        | nil => intro a; rfl
        | cons c r ih => intro a; show (partsFrom x y.length (c + y.length) r).length + 1 = _; rw [ih]; rfl
      rw [this, occ_go, List.length_take]
      omega
noncomputable def endT (b : Bool) (x : Str) : Option L2.Th := if b = true then (fracT x).map (fun p => .tup [.int p.1, .int p.2]) else (wholeT x).map .int
noncomputable def pairOf (b : Bool) (x : Str) : Option (L2.Th × L2.Th) := match Txt.split x " " with
  | [u, v] => (endT b u).bind fun t1 => (endT b v).bind fun t2 => some (t1, t2)
  | _ => none
end Tx
set_option maxHeartbeats 4000000
namespace Tx
open PySem PySem.Builtin.Str PySem.StrLaws
noncomputable def allO {α : Type} : List (Option α) → Option (List α)
  | [] => some []
  | some a :: r => (allO r).map (a :: ·)
  | none :: _ => none
theorem allO_some {α : Type} : ∀ ps : List α, allO (ps.map some) = some ps
  | [] => rfl
  | a :: r => by
    show (allO (r.map some)).map (a :: ·) = _
    rw [allO_some r]
    rfl
theorem allO_none {α : Type} : ∀ {l : List (Option α)}, none ∈ l → allO l = none
  | none :: _, _ => rfl
  | some a :: r, h => by
    rcases List.mem_cons.mp h with h | h
    · cases h
    · show (allO r).map (a :: ·) = none
      rw [allO_none h]
      rfl
noncomputable def pairsOf (b : Bool) (x : Str) : Option (Int × List (L2.Th × L2.Th)) := match L2.parts3 x ": " with
  | [a, _, c] => (wholeT a).bind fun n => (allO ((Txt.split c "; ").map (pairOf b))).map fun ps => (n, ps)
  | _ => none
noncomputable def readOf (b : Bool) : L2.Th → Option (Int × List (L2.Th × L2.Th))
  | .str x => pairsOf b x
  | _ => none
end Tx
set_option maxHeartbeats 4000000
namespace Tx
open PySem PySem.Builtin.Str PySem.StrLaws
theorem fold_lt : ∀ (cs : List Nat) (acc : Nat), (∀ c ∈ cs, 48 ≤ c ∧ c ≤ 57) → cs.foldl (fun acc c => acc * 10 + (c - 48)) acc < (acc + 1) * 10 ^ cs.length
  | [], acc, _ => by simp
  | c :: r, acc, h => by
    have h2 := h c (List.mem_cons_self ..)
    have h1 := fold_lt r (acc * 10 + (c - 48)) (fun d hd => h d (List.mem_cons_of_mem _ hd))
    rw [List.foldl_cons, List.length_cons, Nat.pow_succ]
    refine Nat.lt_of_lt_of_le h1 ?_
    rw [Nat.mul_comm (10 ^ r.length) 10, ← Nat.mul_assoc]
    exact Nat.mul_le_mul_right _ (by omega)
theorem pow60 {k : Nat} (h : k ≤ 60) : 10 ^ k ≤ 10 ^ 60 := Nat.pow_le_pow_right (by decide) h
theorem whole_lt {x : Str} {n : Int} (h : wholeT x = some n) : n.natAbs < 10 ^ 60 := by
  unfold wholeT at h
  split at h
  · rename_i hh
    have ho := hh.1
    unfold okFig at ho
    rw [Bool.and_eq_true, Bool.and_eq_true, decide_eq_true_eq, decide_eq_true_eq, List.all_eq_true] at ho
    obtain ⟨h1, h2, h3⟩ := ho
    have hd : ∀ c ∈ (figs x).cps.toList, 48 ≤ c ∧ c ≤ 57 := fun c hc => isFig_iff.mp (h3 c hc)
    have lt := fold_lt (figs x).cps.toList 0 hd
    rw [len_toList, Nat.zero_add, Nat.one_mul] at lt
    have lt2 := Nat.lt_of_lt_of_le lt (pow60 h2)
    cases hs : Txt.startswith x "-" with
    | false =>
      have ef : figs x = x := by unfold figs; rw [hs]; rfl
      rw [ef] at h1 h2 hd lt2
      rw [intText_digits hd (fun z => by rw [← len_toList, z] at h1; exact absurd h1 (by decide)) (by omega)] at h
      cases h
      exact lt2
    | true =>
      obtain ⟨r, rfl⟩ := dash hs
      have ef : figs ("-" ++ r) = r := by
        unfold figs
        rw [hs, if_pos rfl]
        exact slice_from (k := 1) rfl (by decide +kernel)
      rw [ef] at h1 h2 hd lt2
      have el : ("-" : Str).length = 1 := by decide +kernel
      have ey : ("-" : Str).cps.toList = [45] := by decide +kernel
      have ll : ("-" ++ r : Str).length = r.length + 1 := by rw [Str.length_append, el]; omega
      rw [intText_neg (cs := r.cps.toList) (by rw [Str.cps_append, Array.toList_append, ey]; rfl) hd (fun z => by rw [← len_toList, z] at h1; exact absurd h1 (by decide)) (by omega)] at h
      cases h
      rw [Int.natAbs_neg]
      exact lt2
  · cases h
end Tx
set_option maxHeartbeats 4000000
namespace Tx
open PySem PySem.Builtin.Str PySem.StrLaws
theorem frac_lt {x : Str} {p : Int × Int} (h : fracT x = some p) : p.1.natAbs < 10 ^ 60 ∧ p.2.natAbs < 10 ^ 60 := by
  unfold fracT at h
  split at h
  · rename_i a m b _
    cases ha : wholeT a with
    | none => rw [ha] at h; cases h
    | some t =>
      rw [ha] at h
      have h' : (if m = Str.empty then some (t, 1) else (wholeT b).bind fun d => if d < 2 ∨ Int.gcd t d ≠ 1 then none else some (t, d)) = some p := h
      by_cases c : m = Str.empty
      · rw [if_pos c] at h'
        cases h'
        exact ⟨whole_lt ha, (show (1 : Int).natAbs < 10 ^ 60 by decide)⟩
      · rw [if_neg c] at h'
        cases hb : wholeT b with
        | none => rw [hb] at h'; cases h'
        | some d =>
          rw [hb] at h'
          have h2 : (if d < 2 ∨ Int.gcd t d ≠ 1 then none else some (t, d)) = some p := h'
          by_cases e : d < 2 ∨ Int.gcd t d ≠ 1
          · rw [if_pos e] at h2; cases h2
          · rw [if_neg e] at h2
            cases h2
            exact ⟨whole_lt ha, whole_lt hb⟩
  · cases h
theorem allO_mem {α : Type} : ∀ {l : List (Option α)} {ps : List α}, allO l = some ps → ∀ p ∈ ps, some p ∈ l
  | [], ps, h, p, hp => by cases h; exact absurd hp (by simp)
  | none :: l, ps, h, p, hp => by cases h
  | some a :: l, ps, h, p, hp => by
    have h' : (allO l).map (a :: ·) = some ps := h
    cases e : allO l with
    | none => rw [e] at h'; cases h'
    | some qs =>
      rw [e] at h'
      cases h'
      rcases List.mem_cons.mp hp with rfl | hp
      · exact .head _
      · exact .tail _ (allO_mem e p hp)
theorem read_mem {b : Bool} {t : L2.Th} {n : Int} {ps : List (L2.Th × L2.Th)} (h : readOf b t = some (n, ps)) : ∀ p ∈ ps, ∃ x, pairOf b x = some p := by
  cases t with
  | str x =>
    have h' : pairsOf b x = some (n, ps) := h
    unfold pairsOf at h'
    split at h'
    · rename_i a m c _
      cases ha : wholeT a with
      | none => rw [ha] at h'; cases h'
      | some k =>
        rw [ha] at h'
        have h2 : (allO ((Txt.split c "; ").map (pairOf b))).map (fun ps => (k, ps)) = some (n, ps) := h'
        cases e : allO ((Txt.split c "; ").map (pairOf b)) with
        | none => rw [e] at h2; cases h2
        | some qs =>
          rw [e] at h2
          cases h2
          intro p hp
          obtain ⟨x, _, hx⟩ := List.mem_map.mp (allO_mem e p hp)
          exact ⟨x, hx⟩
    · cases h'
  | _ => cases h
theorem pair_ends {b : Bool} {x : Str} {p : L2.Th × L2.Th} (h : pairOf b x = some p) : ∃ u v, endT b u = some p.1 ∧ endT b v = some p.2 := by
  unfold pairOf at h
  split at h
  · rename_i u v _
    cases e1 : endT b u with
    | none => rw [e1] at h; cases h
    | some t1 =>
      rw [e1] at h
      cases e2 : endT b v with
      | none => rw [e2] at h; cases h
      | some t2 =>
        rw [e2] at h
        cases h
        exact ⟨u, v, e1, e2⟩
  · cases h
theorem end_frac {u : Str} {t : L2.Th} (h : endT true u = some t) : ∃ p, t = .tup [.int p.1, .int p.2] ∧ fracT u = some p := by
  unfold endT at h
  rw [if_pos rfl] at h
  cases e : fracT u with
  | none => rw [e] at h; cases h
  | some p => rw [e] at h; cases h; exact ⟨p, rfl, rfl⟩
end Tx
set_option maxHeartbeats 4000000
namespace Tx
open PySem PySem.Builtin.Str PySem.StrLaws
theorem split_parts {x y : Str} (hk : PySem.Builtin.Str.strKind y = 1) (hy : 1 ≤ y.length) : (Txt.split x y = [x] ∧ L2.parts3 x y = [x, Str.empty, Str.empty]) ∨ ∃ p q r, Txt.split x y = p :: q :: r ∧ L2.parts3 x y = [p, y, Str.join y (q :: r)] := by
  have o1 := occ_go x y 1
  have o2 := occ_go x y (x.length + 1)
  generalize hL : go (isAt x y) y.length 0 0 (x.length + 1) = L at o1 o2
  cases L with
  | nil =>
    refine .inl ⟨?_, ?_⟩
    · unfold Txt.split
      rw [o2]
      split
      · rfl
      · rfl
    · unfold L2.parts3
      rw [o1]
      rfl
  | cons i l =>
    obtain ⟨f, ch⟩ := occ_chain x y (x.length + 1)
    rw [o2, List.take_succ_cons] at ch
    obtain ⟨p, q, e⟩ := partsFrom_ne x y.length (i + y.length) (l.take x.length)
    have jp := join_partsFrom x y (l.take x.length) (i + y.length) f ch.2.2
    rw [e] at jp
    refine .inr ⟨strSub x 0 i, p, q, ?_, ?_⟩
    · unfold Txt.split
      rw [o2, List.take_succ_cons]
      have at_ := ch.2.1
      have hle : y.length ≤ x.length := by
        have := at_.1
        omega
      rw [if_neg, if_neg (by simp), partsBetween_eq]
      · show strSub x 0 i :: partsFrom x y.length (i + y.length) (l.take x.length) = _
        rw [e]
      · rw [Bool.or_eq_true, decide_eq_true_eq, decide_eq_true_eq, hk]
        have := kind_pos x
        omega
    · unfold L2.parts3
      rw [o1, List.take_succ_cons]
      show [strSub x 0 i, y, strSub x (i + y.length) x.length] = _
      rw [jp]
theorem mem_join {y : Str} {c : Nat} : ∀ {ps : List Str}, c ∈ (Str.join y ps).cps.toList → c ∈ y.cps.toList ∨ ∃ p ∈ ps, c ∈ p.cps.toList
  | [], h => by rw [jn_join] at h; simp [jn] at h
  | [p], h => .inr ⟨p, .head _, h⟩
  | p :: q :: r, h => by
    rw [jn_join] at h
    have h' : c ∈ p.cps.toList ++ (y.cps.toList ++ jn y.cps.toList (q :: r)) := h
    rcases List.mem_append.mp h' with z | z
    · exact .inr ⟨p, .head _, z⟩
    · rcases List.mem_append.mp z with z | z
      · exact .inl z
      · rw [← jn_join] at z
        rcases mem_join z with z | ⟨u, hu, z⟩
        · exact .inl z
        · exact .inr ⟨u, .tail _ hu, z⟩
theorem mem_split {x y : Str} {c : Nat} (h : c ∈ x.cps.toList) : c ∈ y.cps.toList ∨ ∃ p ∈ Txt.split x y, c ∈ p.cps.toList := by
  rw [← join_split x y] at h
  exact mem_join h
theorem whole_sign {x : Str} {n : Int} (h : wholeT x = some n) : ∀ c ∈ x.cps.toList, c = 45 ∨ 48 ≤ c ∧ c ≤ 57 := by
  unfold wholeT at h
  split at h
  · rename_i hh
    have ho := hh.1
    unfold okFig at ho
    rw [Bool.and_eq_true, Bool.and_eq_true, List.all_eq_true] at ho
    obtain ⟨_, _, h3⟩ := ho
    have hd : ∀ c ∈ (figs x).cps.toList, 48 ≤ c ∧ c ≤ 57 := fun c hc => isFig_iff.mp (h3 c hc)
    intro c hc
    cases hs : Txt.startswith x "-" with
    | false =>
      have ef : figs x = x := by unfold figs; rw [hs]; rfl
      rw [ef] at hd
      exact .inr (hd c hc)
    | true =>
      obtain ⟨r, rfl⟩ := dash hs
      have ef : figs ("-" ++ r) = r := by
        unfold figs
        rw [hs, if_pos rfl]
        exact slice_from (k := 1) rfl (by decide +kernel)
      rw [ef] at hd
      have ey : ("-" : Str).cps.toList = [45] := by decide +kernel
      rw [Str.cps_append, Array.toList_append, ey] at hc
      rcases List.mem_append.mp hc with z | z
      · exact .inl (List.mem_singleton.mp z)
      · exact .inr (hd c z)
  · cases h
theorem frac_sign {x : Str} {p : Int × Int} (h : fracT x = some p) : ∀ c ∈ x.cps.toList, c = 45 ∨ c = 47 ∨ 48 ≤ c ∧ c ≤ 57 := by
  have ey : ("/" : Str).cps.toList = [47] := by decide +kernel
  intro c hc
  unfold fracT at h
  rcases split_parts (x := x) (y := "/") (by decide +kernel) (by decide +kernel) with ⟨_, e2⟩ | ⟨u, v, r, e1, e2⟩
  · rw [e2] at h
    cases ha : wholeT x with
    | none => simp only [ha] at h; cases h
    | some t =>
      rcases whole_sign ha c hc with z | z
      · exact .inl z
      · exact .inr (.inr z)
  · rw [e2] at h
    have hne : ¬ (("/" : Str) = Str.empty) := by decide +kernel
    cases ha : wholeT u with
    | none => simp only [ha] at h; cases h
    | some t =>
      have h' : (if ("/" : Str) = Str.empty then some (t, 1) else (wholeT (Str.join "/" (v :: r))).bind fun d => if d < 2 ∨ Int.gcd t d ≠ 1 then none else some (t, d)) = some p := by simp only [ha] at h; exact h
      rw [if_neg hne] at h'
      cases hb : wholeT (Str.join "/" (v :: r)) with
      | none => rw [hb] at h'; cases h'
      | some d =>
        have hx : x.cps.toList = u.cps.toList ++ (("/" : Str).cps.toList ++ (Str.join "/" (v :: r)).cps.toList) := by
          have := join_split x "/"
          rw [e1] at this
          rw [← congrArg (fun z : Str => z.cps.toList) this, jn_join, jn_join]
          rfl
        rw [hx, ey] at hc
        rcases List.mem_append.mp hc with z | z
        · rcases whole_sign ha c z with z | z
          · exact .inl z
          · exact .inr (.inr z)
        · rcases List.mem_append.mp z with z | z
          · exact .inr (.inl (List.mem_singleton.mp z))
          · rcases whole_sign hb c z with z | z
            · exact .inl z
            · exact .inr (.inr z)
theorem end_sign {b : Bool} {x : Str} {t : L2.Th} (h : endT b x = some t) : ∀ c ∈ x.cps.toList, c = 45 ∨ c = 47 ∨ 48 ≤ c ∧ c ≤ 57 := by
  unfold endT at h
  cases b with
  | false =>
    rw [if_neg Bool.false_ne_true] at h
    cases e : wholeT x with
    | none => rw [e] at h; cases h
    | some n =>
      intro c hc
      rcases whole_sign e c hc with z | z
      · exact .inl z
      · exact .inr (.inr z)
  | true =>
    rw [if_pos rfl] at h
    cases e : fracT x with
    | none => rw [e] at h; cases h
    | some p => exact frac_sign e
theorem pair_sign {b : Bool} {x : Str} {p : L2.Th × L2.Th} (h : pairOf b x = some p) : 58 ∉ x.cps.toList := by
  intro hc
  unfold pairOf at h
  split at h
  · rename_i u v hs
    have ey : (" " : Str).cps.toList = [32] := by decide +kernel
    rcases mem_split (y := " ") hc with z | ⟨w, hw, z⟩
    · rw [ey] at z; exact absurd (List.mem_singleton.mp z) (by decide)
    · rw [hs] at hw
      cases e1 : endT b u with
      | none => rw [e1] at h; cases h
      | some t1 =>
        rw [e1] at h
        cases e2 : endT b v with
        | none => rw [e2] at h; cases h
        | some t2 =>
          rcases List.mem_cons.mp hw with rfl | hw
          · have := end_sign e1 58 z; omega
          · rw [List.mem_singleton.mp hw] at z
            have := end_sign e2 58 z; omega
  · cases h
theorem allO_all {α : Type} : ∀ {l : List (Option α)} {ps : List α}, allO l = some ps → ∀ o ∈ l, ∃ p, o = some p
  | none :: l, ps, h, o, ho => by cases h
  | some a :: l, ps, h, o, ho => by
    have h' : (allO l).map (a :: ·) = some ps := h
    cases e : allO l with
    | none => rw [e] at h'; cases h'
    | some qs =>
      rcases List.mem_cons.mp ho with rfl | ho
      · exact ⟨a, rfl⟩
      · exact allO_all e o ho
theorem pairs_none {b : Bool} {c : Str} (h : 58 ∈ c.cps.toList) : allO ((Txt.split c "; ").map (pairOf b)) = none := by
  cases e : allO ((Txt.split c "; ").map (pairOf b)) with
  | none => rfl
  | some ps =>
    exfalso
    have ey : ("; " : Str).cps.toList = [59, 32] := by decide +kernel
    rcases mem_split (y := "; ") h with z | ⟨w, hw, z⟩
    · rw [ey] at z
      simp at z
    · obtain ⟨p, hp⟩ := allO_all e _ (List.mem_map_of_mem hw)
      exact pair_sign hp z
theorem pairs_empty {b : Bool} : allO ((Txt.split Str.empty "; ").map (pairOf b)) = none := by
  have e : Txt.split Str.empty "; " = [Str.empty] := by decide +kernel
  have e2 : Txt.split Str.empty " " = [Str.empty] := by decide +kernel
  rw [e]
  have : pairOf b Str.empty = none := by
    unfold pairOf
    rw [e2]
  show allO [pairOf b Str.empty] = none
  rw [this]
  rfl
noncomputable def lawPairs (b : Bool) (x : Str) : Option (Int × List (L2.Th × L2.Th)) := match Txt.split x ": " with
  | [p, q] => (wholeT p).bind fun n => (allO ((Txt.split q "; ").map (pairOf b))).map fun ps => (n, ps)
  | _ => none
theorem law_pairs (b : Bool) (x : Str) : lawPairs b x = pairsOf b x := by
  have ey : (": " : Str).cps.toList = [58, 32] := by decide +kernel
  unfold lawPairs pairsOf
  rcases split_parts (x := x) (y := ": ") (by decide +kernel) (by decide +kernel) with ⟨e1, e2⟩ | ⟨p, q, r, e1, e2⟩
  · rw [e1, e2]
    show none = (wholeT x).bind fun n => (allO ((Txt.split Str.empty "; ").map (pairOf b))).map fun ps => (n, ps)
    rw [pairs_empty]
    cases wholeT x <;> rfl
  · rw [e1, e2]
    cases r with
    | nil => rfl
    | cons u r =>
      show none = (wholeT p).bind fun n => (allO ((Txt.split (Str.join ": " (q :: u :: r)) "; ").map (pairOf b))).map fun ps => (n, ps)
      rw [pairs_none]
      · cases wholeT p <;> rfl
      · rw [jn_join]
        show 58 ∈ q.cps.toList ++ ((": " : Str).cps.toList ++ _)
        rw [ey]
        simp
end Tx
set_option maxHeartbeats 4000000
namespace Tx
open PySem PySem.Builtin.Str PySem.StrLaws
theorem starts_iff {x y : Str} : Txt.startswith x y = true ↔ x.cps.toList.take y.length = y.cps.toList := by
  unfold Txt.startswith
  rw [Bool.and_eq_true, subAt_eq, beq_iff_eq, List.drop_zero, decide_eq_true_eq]
  constructor
  · exact fun h => h.2
  · intro h
    refine ⟨?_, h⟩
    have := congrArg List.length h
    rw [List.length_take, len_toList, len_toList] at this
    omega
noncomputable def figOk (x : Str) : Bool := decide (1 ≤ x.length) && decide (x.length ≤ 60) && !(Txt.startswith x "0" && decide (x.length > 1)) && x.cps.toList.all isFig
noncomputable def figT (x : Str) : Option Int := if figOk x = true then intText? x else none
theorem fig_dash {x : Str} (h : Txt.startswith x "-" = true) : figOk x = false := by
  obtain ⟨r, rfl⟩ := dash h
  have ey : ("-" : Str).cps.toList = [45] := by decide +kernel
  have n45 : isFig 45 = false := by
    rw [Bool.eq_false_iff]
    intro z
    have := isFig_iff.mp z
    omega
  unfold figOk
  rw [Str.cps_append, Array.toList_append, ey]
  simp [n45]
theorem whole_plain {x : Str} (h : Txt.startswith x "-" = false) : wholeT x = figT x := by
  have ef : figs x = x := by unfold figs; rw [h]; rfl
  unfold wholeT figT
  have e : (okFig x = true ∧ nought x = false) ↔ figOk x = true := by
    unfold okFig nought figOk
    rw [ef, h, Bool.false_or]
    simp only [Bool.and_eq_true, Bool.not_eq_true']
    constructor
    · rintro ⟨⟨a, b, c⟩, d⟩; exact ⟨⟨⟨a, b⟩, d⟩, c⟩
    · rintro ⟨⟨⟨a, b⟩, d⟩, c⟩; exact ⟨⟨a, b, c⟩, d⟩
  by_cases c : figOk x = true
  · rw [if_pos c, if_pos (e.mpr c)]
  · rw [if_neg c, if_neg (fun z => c (e.mp z))]
theorem fig_num {x : Str} {n : Int} (h : figT x = some n) : 0 ≤ n := by
  unfold figT at h
  split at h
  · rename_i hh
    unfold figOk at hh
    simp only [Bool.and_eq_true, decide_eq_true_eq, List.all_eq_true] at hh
    obtain ⟨⟨⟨h1, h2⟩, _⟩, h3⟩ := hh
    have hd : ∀ c ∈ x.cps.toList, 48 ≤ c ∧ c ≤ 57 := fun c hc => isFig_iff.mp (h3 c hc)
    rw [intText_digits hd (fun z => by rw [← len_toList, z] at h1; exact absurd h1 (by decide)) (by omega)] at h
    cases h
    omega
  · cases h
theorem whole_neg {r : Str} : wholeT ("-" ++ r) = (figT r).bind fun n => if n = 0 then none else some (0 - n) := by
  have ey : ("-" : Str).cps.toList = [45] := by decide +kernel
  have el : ("-" : Str).length = 1 := by decide +kernel
  have hs : Txt.startswith ("-" ++ r) "-" = true := starts_iff.mpr (by rw [Str.cps_append, Array.toList_append, ey, el]; rfl)
  have ef : figs ("-" ++ r) = r := by
    unfold figs
    rw [hs, if_pos rfl]
    exact slice_from (k := 1) rfl el
  have e0 : ("0" : Str).cps.toList = [48] := by decide +kernel
  have l0 : ("0" : Str).length = 1 := by decide +kernel
  unfold wholeT figT
  by_cases ok : okFig ("-" ++ r) = true
  · have ok' := ok
    unfold okFig at ok'
    rw [ef] at ok'
    simp only [Bool.and_eq_true, decide_eq_true_eq, List.all_eq_true] at ok'
    obtain ⟨h1, h2, h3⟩ := ok'
    have hd : ∀ c ∈ r.cps.toList, 48 ≤ c ∧ c ≤ 57 := fun c hc => isFig_iff.mp (h3 c hc)
    have ne : r.cps.toList ≠ [] := fun z => by rw [← len_toList, z] at h1; exact absurd h1 (by decide)
    have i1 := intText_digits hd ne (by omega)
    have i2 := intText_neg (x := "-" ++ r) (cs := r.cps.toList) (by rw [Str.cps_append, Array.toList_append, ey]; rfl) hd ne (by rw [Str.length_append, el]; omega)
    by_cases s0 : Txt.startswith r "0" = true
    · have nt : nought ("-" ++ r) = true := by unfold nought; rw [ef, hs, s0]; rfl
      rw [if_neg (fun z => by rw [nt] at z; cases z.2)]
      by_cases l1 : r.length > 1
      · have : figOk r = false := by unfold figOk; rw [s0, decide_eq_true l1]; simp
        rw [this]
        rfl
      · have rl : r.length = 1 := by omega
        have er : r.cps.toList = [48] := by
          have := starts_iff.mp s0
          rw [l0, e0] at this
          rw [List.take_of_length_le (by rw [len_toList]; omega)] at this
          exact this
        have : intText? r = some 0 := by rw [i1, er]; rfl
        split
        · rw [this]; rfl
        · rfl
    · have s0' : Txt.startswith r "0" = false := by simpa using s0
      have nt : nought ("-" ++ r) = false := by unfold nought; rw [ef, s0']; rfl
      have fo : figOk r = true := by
        unfold figOk
        rw [s0', decide_eq_true h1, decide_eq_true h2, List.all_eq_true.mpr h3]
        rfl
      rw [if_pos ⟨ok, nt⟩, if_pos fo, i1, i2]
      dsimp only [Option.bind]
      rw [if_neg, Int.zero_sub]
      intro z
      match hr : r.cps.toList, ne with
      | c :: cs, _ =>
        have hc : 49 ≤ c := by
          have := hd c (by rw [hr]; exact .head _)
          by_cases e : c = 48
          · exfalso
            refine s0 (starts_iff.mpr ?_)
            rw [hr, l0, e0, e]
            rfl
          · omega
        rw [hr] at z
        have ge : ∀ (l : List Nat) (acc : Nat), 1 ≤ acc → 1 ≤ l.foldl (fun acc c => acc * 10 + (c - 48)) acc := by
          intro l
          induction l with
          | nil => intro acc h; exact h
          | cons d l ih => intro acc h; exact ih (acc * 10 + (d - 48)) (Nat.le_trans (show 1 ≤ acc * 10 by omega) (Nat.le_add_right _ _))
        have := ge cs (0 * 10 + (c - 48)) (by omega)
        have z' : List.foldl (fun acc c => acc * 10 + (c - 48)) (0 * 10 + (c - 48)) cs = 0 := Int.ofNat.inj z
        omega
  · rw [if_neg (fun z => ok z.1)]
    have : figOk r = false := by
      rw [Bool.eq_false_iff]
      intro z
      apply ok
      unfold figOk at z
      unfold okFig
      rw [ef]
      simp only [Bool.and_eq_true] at z ⊢
      exact ⟨z.1.1.1, z.1.1.2, z.2⟩
    rw [this]
    rfl
noncomputable def numT (b : Bool) (x : Str) : Option L2.Th := match b, Txt.split x "/" with
  | false, [p] => (wholeT p).map .int
  | true, [p] => (wholeT p).map fun t => .tup [.int t, .int 1]
  | true, [p, q] => (wholeT p).bind fun t => (figT q).bind fun d => if d < 2 ∨ Int.gcd t d ≠ 1 then none else some (.tup [.int t, .int d])
  | _, _ => none
theorem whole_none {x : Str} (h : 47 ∈ x.cps.toList) : wholeT x = none := by
  cases e : wholeT x with
  | none => rfl
  | some n => have := whole_sign e 47 h; omega
theorem num_end (b : Bool) (x : Str) : numT b x = endT b x := by
  have ey : ("/" : Str).cps.toList = [47] := by decide +kernel
  have hne : ¬ (("/" : Str) = Str.empty) := by decide +kernel
  have slash : ∀ (p : Str) (r : List Str), Txt.split x "/" = p :: r → r ≠ [] → 47 ∈ x.cps.toList := fun p r e hr => by
    have := join_split x "/"
    rw [e] at this
    rw [← this, jn_join, ey]
    match r, hr with
    | q :: r, _ => show 47 ∈ p.cps.toList ++ ([47] ++ _); simp
  unfold numT endT
  rcases split_parts (x := x) (y := "/") (by decide +kernel) (by decide +kernel) with ⟨e1, e2⟩ | ⟨p, q, r, e1, e2⟩
  · rw [e1]
    cases b with
    | false => rfl
    | true =>
      unfold fracT
      rw [e2]
      show (wholeT x).map _ = (((wholeT x).bind fun t => if Str.empty = Str.empty then some (t, 1) else _)).map _
      cases wholeT x <;> rfl
  · rw [e1]
    have hs := slash p (q :: r) e1 (by simp)
    cases b with
    | false =>
      rw [if_neg Bool.false_ne_true, whole_none hs]
      rfl
    | true =>
      rw [if_pos rfl]
      unfold fracT
      rw [e2]
      show _ = (((wholeT p).bind fun t => if ("/" : Str) = Str.empty then some (t, 1) else (wholeT (Str.join "/" (q :: r))).bind fun d => if d < 2 ∨ Int.gcd t d ≠ 1 then none else some (t, d))).map _
      cases hp : wholeT p with
      | none =>
        cases r with
        | nil => show (wholeT p).bind _ = _; rw [hp]; rfl
        | cons u r => rfl
      | some t =>
        show _ = ((if ("/" : Str) = Str.empty then some (t, 1) else (wholeT (Str.join "/" (q :: r))).bind fun d => if d < 2 ∨ Int.gcd t d ≠ 1 then none else some (t, d))).map _
        rw [if_neg hne]
        cases r with
        | cons u r =>
          have : wholeT (Str.join "/" (q :: u :: r)) = none := whole_none (by rw [jn_join, ey]; show 47 ∈ q.cps.toList ++ ([47] ++ _); simp)
          rw [this]
          rfl
        | nil =>
          show (wholeT p).bind _ = ((wholeT q).bind _).map _
          rw [hp]
          show (figT q).bind _ = _
          cases hd : Txt.startswith q "-" with
          | false =>
            rw [whole_plain hd]
            cases figT q with
            | none => rfl
            | some d =>
              show (if d < 2 ∨ Int.gcd t d ≠ 1 then none else some _) = (if d < 2 ∨ Int.gcd t d ≠ 1 then none else some (t, d)).map _
              split <;> rfl
          | true =>
            have f0 : figT q = none := by unfold figT; rw [fig_dash hd]; rfl
            rw [f0]
            obtain ⟨s, rfl⟩ := dash hd
            rw [whole_neg]
            cases hf : figT s with
            | none => rfl
            | some n =>
              have n0 := fig_num hf
              show none = ((if n = 0 then none else some (0 - n)).bind _).map _
              by_cases z : n = 0
              · rw [if_pos z]; rfl
              · rw [if_neg z]
                show none = (if 0 - n < 2 ∨ Int.gcd t (0 - n) ≠ 1 then none else some _).map _
                rw [if_pos (.inl (by omega))]
                rfl
end Tx
set_option maxHeartbeats 4000000
namespace Tx
open PySem PySem.Builtin.Str PySem.StrLaws
theorem idx_cut (k n : Nat) : strSliceIndices none (some (k : Int)) 1 n = strSliceIndices (some (0 : Int)) (some ((min k n : Nat) : Int)) 1 n := by
  unfold strSliceIndices
  have e : max 0 (min (k : Int) (n : Int)) = max 0 (min ((min k n : Nat) : Int) (n : Int)) := by omega
  have z1 : ¬ (k : Int) < 0 := by omega
  have z2 : ¬ ((min k n : Nat) : Int) < 0 := by omega
  simp only [if_neg z1, if_neg z2, show (1 : Int) > 0 by decide, if_true]
  rw [e]
  congr 1
theorem slice_to (x : Str) (k : Nat) : (Txt.slice x none (some (k : Int))).cps.toList = x.cps.toList.take k := by
  have e := sliced_plain x (a := 0) (b := min k x.length) (by omega) (by omega)
  unfold Txt.slice
  rw [idx_cut]
  have tk : x.cps.toList.take (min k x.length) = x.cps.toList.take k := by
    by_cases c : k ≤ x.length
    · rw [Nat.min_eq_left c]
    · rw [Nat.min_eq_right (by omega), List.take_of_length_le (by rw [len_toList]; omega), List.take_of_length_le (by rw [len_toList]; omega)]
  split
  · rename_i h
    have h2 : (strSliceIndices (some (0 : Int)) (some ((min k x.length : Nat) : Int)) 1 x.length).length = x.length := by simpa using h
    have hp := strSliceIndices_plain (a := 0) (b := min k x.length) (len := x.length) (by omega) (by omega)
    have h2' : (strSliceIndices (some ((0 : Nat) : Int)) (some ((min k x.length : Nat) : Int)) 1 x.length).length = x.length := h2
    rw [hp, List.length_map, List.length_range] at h2'
    rw [List.take_of_length_le (by rw [len_toList]; omega)]
  · rw [List.drop_zero, Nat.sub_zero, tk] at e
    rw [← e]
    simp
theorem slice_is {x y : Str} {k : Nat} (hy : y.length = k) : Txt.slice x none (some (k : Int)) = y ↔ Txt.startswith x y = true := by
  rw [starts_iff, hy, ← slice_to]
  exact ⟨fun h => by rw [h], fun h => ext_list h⟩
end Tx
set_option maxHeartbeats 4000000
namespace Tx
open PySem PySem.Builtin.Str PySem.StrLaws
theorem asc_app {x y : Str} (hx : Asc x) (hy : Asc y) : Asc (x ++ y) := asc_iff.mpr fun c hc => by
  rw [Str.cps_append, Array.toList_append] at hc
  rcases List.mem_append.mp hc with hc | hc
  · exact asc_iff.mp hx c hc
  · exact asc_iff.mp hy c hc
theorem asc_join {y : Str} {ps : List Str} (hy : Asc y) (h : ∀ p ∈ ps, Asc p) : Asc (Str.join y ps) := asc_iff.mpr fun c hc => by
  rcases mem_join hc with hc | ⟨p, hp, hc⟩
  · exact asc_iff.mp hy c hc
  · exact asc_iff.mp (h p hp) c hc
structure Ws (S N : Nat) (ws : List Str) : Prop where
  asc : ∀ w ∈ ws, Asc w
  sum : (ws.map (·.length)).sum ≤ S
  len : ws.length ≤ N
theorem mem_sum : ∀ {ws : List Str} {w : Str}, w ∈ ws → w.length ≤ (ws.map (·.length)).sum
  | a :: r, w, h => by
    rw [List.map_cons, List.sum_cons]
    rcases List.mem_cons.mp h with rfl | h
    · omega
    · have := mem_sum h
      omega
theorem Ws.one {S N : Nat} {ws : List Str} (h : Ws S N ws) : ∀ w ∈ ws, Asc w ∧ w.length ≤ S := fun w hw => ⟨h.asc w hw, Nat.le_trans (mem_sum hw) h.sum⟩
theorem Ws.mono {S N S' N' : Nat} {ws : List Str} (h : Ws S N ws) (hs : S ≤ S') (hn : N ≤ N') : Ws S' N' ws := ⟨h.asc, Nat.le_trans h.sum hs, Nat.le_trans h.len hn⟩
theorem Ws.nil : Ws 0 0 [] := ⟨fun w hw => absurd hw (by simp), Nat.le_refl _, Nat.le_refl _⟩
theorem Ws.sing {w : Str} {k : Nat} (a : Asc w) (l : w.length ≤ k) : Ws k 1 [w] := ⟨fun x hx => by rw [List.mem_singleton.mp hx]; exact a, by simpa using l, by simp⟩
theorem Ws.app {S N S' N' : Nat} {ws vs : List Str} (h : Ws S N ws) (h' : Ws S' N' vs) : Ws (S + S') (N + N') (ws ++ vs) := by
  refine ⟨fun w hw => ?_, ?_, ?_⟩
  · rcases List.mem_append.mp hw with hw | hw
    · exact h.asc w hw
    · exact h'.asc w hw
  · rw [List.map_append, List.sum_append]
    have := h.sum
    have := h'.sum
    omega
  · rw [List.length_append]
    have := h.len
    have := h'.len
    omega
theorem sum_drop : ∀ (k : Nat) (ws : List Str), ((ws.drop k).map (·.length)).sum ≤ (ws.map (·.length)).sum
  | 0, ws => Nat.le_refl _
  | k + 1, [] => Nat.le_refl _
  | k + 1, a :: r => by
    have := sum_drop k r
    rw [List.drop_succ_cons, List.map_cons, List.sum_cons]
    omega
theorem sum_take : ∀ (k : Nat) (ws : List Str), ((ws.take k).map (·.length)).sum ≤ (ws.map (·.length)).sum
  | 0, ws => by simp
  | k + 1, [] => Nat.le_refl _
  | k + 1, a :: r => by
    have := sum_take k r
    rw [List.take_succ_cons, List.map_cons, List.sum_cons, List.map_cons, List.sum_cons]
    omega
theorem Ws.drop {S N : Nat} {ws : List Str} (h : Ws S N ws) (k : Nat) : Ws S N (ws.drop k) := ⟨fun w hw => h.asc w (List.mem_of_mem_drop hw), Nat.le_trans (sum_drop k ws) h.sum, by rw [List.length_drop]; have := h.len; omega⟩
theorem Ws.take {S N : Nat} {ws : List Str} (h : Ws S N ws) (k : Nat) : Ws S N (ws.take k) := ⟨fun w hw => h.asc w (List.mem_of_mem_take hw), Nat.le_trans (sum_take k ws) h.sum, by rw [List.length_take]; have := h.len; omega⟩
theorem Ws.rev {S N : Nat} {ws : List Str} (h : Ws S N ws) : Ws S N ws.reverse := ⟨fun w hw => h.asc w (List.mem_reverse.mp hw), by rw [List.map_reverse, List.sum_reverse]; exact h.sum, by rw [List.length_reverse]; exact h.len⟩
theorem sum_set : ∀ (ws : List Str) (i : Nat) (w : Str), ((ws.set i w).map (·.length)).sum ≤ (ws.map (·.length)).sum + w.length
  | [], i, w => by simp
  | a :: r, 0, w => by rw [List.set_cons_zero, List.map_cons, List.sum_cons, List.map_cons, List.sum_cons]; omega
  | a :: r, i + 1, w => by
    have := sum_set r i w
    rw [List.set_cons_succ, List.map_cons, List.sum_cons, List.map_cons, List.sum_cons]
    omega
theorem Ws.set {S N k : Nat} {ws : List Str} (h : Ws S N ws) {w : Str} (a : Asc w) (l : w.length ≤ k) (i : Nat) : Ws (S + k) N (ws.set i w) := by
  refine ⟨fun x hx => ?_, ?_, by rw [List.length_set]; exact h.len⟩
  · rcases List.mem_or_eq_of_mem_set hx with hx | rfl
    · exact h.asc x hx
    · exact a
  · have := sum_set ws i w
    have := h.sum
    omega
theorem Ws.join {S N : Nat} {ws : List Str} (h : Ws S N ws) {y : Str} (hy : Asc y) {k : Nat} (ly : y.length ≤ k) : Asc (Txt.join y ws) ∧ (Txt.join y ws).length ≤ S + N * k := by
  refine ⟨?_, ?_⟩
  · show Asc (glued y ws)
    rw [glued_eq_join]
    exact asc_join hy h.asc
  · show (glued y ws).length ≤ _
    rw [size_glued]
    have h1 := h.sum
    have h2 : (ws.length - 1) * y.length ≤ N * k := Nat.mul_le_mul (by have := h.len; omega) ly
    omega
theorem Ws.ok {S N : Nat} {ws : List Str} (h : Ws S N ws) {y : Str} {k : Nat} (ly : y.length ≤ k) (hs : S + N * k ≤ 16777216) : JoinOk y ws = true := by
  unfold JoinOk
  rw [Bool.not_eq_true']
  have e : (2 : Nat) ^ 24 = 16777216 := by decide
  have h1 := h.sum
  have h2 : ws.length * y.length ≤ N * k := Nat.mul_le_mul h.len ly
  show tooLong (ws.toArray.foldl (fun a p => a + p.length + y.length) 0) = false
  rw [joinTotal]
  unfold tooLong sizeLine
  exact decide_eq_false (by omega)
theorem between_sum (x y : Str) (limit : Nat) : ((partsBetween x (occurrences x y 0 x.length limit) y.length).map (·.length)).sum ≤ x.length := by
  have e := congrArg Str.length (glued_between_self x y limit)
  rw [size_glued] at e
  omega
theorem between_asc {x y : Str} (hx : Asc x) (cs : List Nat) : ∀ z ∈ partsBetween x cs y.length, Asc z := fun z hz => by
  simp only [partsBetween, List.mem_map] at hz
  obtain ⟨p, _, rfl⟩ := hz
  exact sub_asc hx _ _
theorem Ws.split {x : Str} (y : Str) {L : Nat} (hx : Asc x) (l : x.length ≤ L) : Ws L (L + 2) (Txt.split x y) := by
  refine ⟨fun w hw => (split_mem hx w hw).1, ?_, Nat.le_trans (split_count x y) (by omega)⟩
  unfold Txt.split
  split
  · simpa using l
  · split
    · simpa using l
    · exact Nat.le_trans (between_sum x y _) l
theorem repl_ok {x y z : Str} {L k : Nat} (hx : Asc x) (hz : Asc z) (l : x.length ≤ L) (lz : z.length ≤ k) : Asc (Txt.replace x y z) ∧ (Txt.replace x y z).length ≤ L + (L + 1) * k := by
  unfold Txt.replace
  split
  · exact ⟨hx, by have := Nat.zero_le ((L + 1) * k); omega⟩
  · refine ⟨?_, ?_⟩
    · rw [glued_eq_join]
      exact asc_join hz (between_asc hx _)
    · rw [size_glued]
      have h1 := between_sum x y (x.length + 1)
      have h2 := StrLaws.occ_length_le x y 0 x.length (x.length + 1)
      have h3 := length_partsBetween x (occurrences x y 0 x.length (x.length + 1)) y.length
      have h4 : ((partsBetween x (occurrences x y 0 x.length (x.length + 1)) y.length).length - 1) * z.length ≤ (L + 1) * k := Nat.mul_le_mul (by omega) lz
      omega
theorem upper_asc : ∀ c : Nat, c < 128 → ∀ d ∈ Unicode.upperOf c, d < 128 := by decide +kernel
theorem upper_ok {x : Str} (hx : Asc x) : Asc (Txt.upper x) ∧ (Txt.upper x).length ≤ 3 * x.length := by
  refine ⟨asc_iff.mpr fun d hd => ?_, placedRaw_le3 x.cps (fun _ c => Unicode.upperOf c) fun _ c => upperOf_le3 c⟩
  have hd' : d ∈ ((x.cps.mapIdx fun i c => (Unicode.upperOf c).toArray).flatten) := Array.mem_def.mpr hd
  obtain ⟨a, ha, hda⟩ := Array.mem_flatten.mp hd'
  obtain ⟨i, hi, rfl⟩ := Array.mem_mapIdx.mp ha
  have : d ∈ Unicode.upperOf x.cps[i] := by simpa using hda
  exact upper_asc _ (asc_iff.mp hx _ (by simp)) d this
theorem whole_num {i : Int} (h : i.natAbs < 10 ^ 60) : wholeT (num i) = some i := by
  have n := nm_ok h
  unfold wholeT
  have o : okFig (num i) = true := by
    unfold okFig
    rw [decide_eq_true n.l1, decide_eq_true n.l3, List.all_eq_true.mpr fun c hc => ?_]
    · rfl
    · obtain ⟨j, hj⟩ := List.getElem?_of_mem hc
      exact n.fig j c (by rw [← Array.getElem?_toList]; exact hj)
  rw [if_pos ⟨o, n.nou⟩, n.int]
theorem num_asc {i : Int} (h : i.natAbs < 10 ^ 60) : Asc (num i) := asc_iff.mpr fun c hc => by
  have := whole_sign (whole_num h) c hc
  omega
theorem frac_frS {p : Int × Int} (h : FrB p) (g : Int.gcd p.1 p.2 = 1) : fracT (frS p) = some p := by
  unfold fracT
  rw [frS_parts h]
  by_cases c : p.2 = 1
  · rw [if_pos c]
    dsimp only
    rw [whole_num h.a]
    rw [Option.bind_some, if_pos rfl, ← c]
  · rw [if_neg c]
    dsimp only
    rw [whole_num h.a, whole_num h.b]
    show (if ("/" : Str) = Str.empty then some (p.1, 1) else if p.2 < 2 ∨ Int.gcd p.1 p.2 ≠ 1 then none else some (p.1, p.2)) = _
    have b1 := h.b1
    rw [if_neg (by decide +kernel), if_neg (fun z => z.elim (fun z => by omega) fun z => z g)]
theorem frS_asc {p : Int × Int} (h : FrB p) (g : Int.gcd p.1 p.2 = 1) : Asc (frS p) := asc_iff.mpr fun c hc => by
  have := frac_sign (frac_frS h g) c hc
  omega
noncomputable def fT (s : (Int × Int) × (Int × Int)) : L2.Th × L2.Th := (.tup [.int s.1.1, .int s.1.2], .tup [.int s.2.1, .int s.2.2])
noncomputable def OkS (s : (Int × Int) × (Int × Int)) : Prop := PrB s ∧ Int.gcd s.1.1 s.1.2 = 1 ∧ Int.gcd s.2.1 s.2.2 = 1
theorem read_rule {n : Int} {ss : List ((Int × Int) × (Int × Int))} (hn : n.natAbs < 10 ^ 60) (h0 : ss ≠ []) (h : ∀ s ∈ ss, OkS s) : readOf true (.str (rbody n ss)) = some (n, ss.map fT) := by
  show pairsOf true (rbody n ss) = _
  unfold pairsOf
  rw [rbody_parts hn]
  dsimp only
  rw [whole_num hn, rbody_split h0 fun s hs => (h s hs).1, List.map_map]
  have e : ss.map (pairOf true ∘ prF) = (ss.map fT).map some := by
    rw [List.map_map]
    refine List.map_congr_left fun s hs => ?_
    show pairOf true (prF s) = some (fT s)
    obtain ⟨hb, g1, g2⟩ := h s hs
    unfold pairOf
    rw [prF_split hb]
    dsimp only
    unfold endT
    rw [if_pos rfl, if_pos rfl, frac_frS hb.1 g1, frac_frS hb.2 g2]
    rfl
  rw [e, allO_some]
  rfl
theorem asc2 : Asc ": " := by show (": " : Str).cps.all (· < 128) = true; decide +kernel
theorem asc3 : Asc "; " := by show ("; " : Str).cps.all (· < 128) = true; decide +kernel
theorem asc1 : Asc " " := by show (" " : Str).cps.all (· < 128) = true; decide +kernel
theorem rule_asc {n : Int} {ss : List ((Int × Int) × (Int × Int))} (hn : n.natAbs < 10 ^ 60) (h : ∀ s ∈ ss, OkS s) : Asc (rbody n ss) := by
  refine asc_app (asc_app (num_asc hn) asc2) ?_
  show Asc (glued _ _)
  rw [glued_eq_join]
  refine asc_join asc3 fun p hp => ?_
  obtain ⟨s, hs, rfl⟩ := List.mem_map.mp hp
  obtain ⟨hb, g1, g2⟩ := h s hs
  exact asc_app (asc_app (frS_asc hb.1 g1) asc1) (frS_asc hb.2 g2)
theorem whole_wd {i : Int} (h : In15 i) : wholeT (wd i) = some i := by
  have n := wd_ok h
  unfold wholeT
  have o : okFig (wd i) = true := by
    unfold okFig
    rw [decide_eq_true n.l1, decide_eq_true (Nat.le_trans n.l3 (by decide)), List.all_eq_true.mpr fun c hc => ?_]
    · rfl
    · obtain ⟨j, hj⟩ := List.getElem?_of_mem hc
      exact n.fig j c (by rw [← Array.getElem?_toList]; exact hj)
  rw [if_pos ⟨o, n.nou⟩, n.int]
theorem wd_asc {i : Int} (h : In15 i) : Asc (wd i) := asc_iff.mpr fun c hc => by
  have := whole_sign (whole_wd h) c hc
  omega
noncomputable def iT (b : Int × Int) : L2.Th × L2.Th := (.int b.1, .int b.2)
theorem read_body {n : Int} {bs : List (Int × Int)} (hn : In15 n) (h0 : bs ≠ []) (h : ∀ b ∈ bs, InP b) : readOf false (.str (bodyS n bs)) = some (n, bs.map iT) := by
  show pairsOf false (bodyS n bs) = _
  unfold pairsOf
  rw [body_parts hn]
  dsimp only
  rw [whole_wd hn, body_split h0 h, List.map_map]
  have e : bs.map (pairOf false ∘ prS) = (bs.map iT).map some := by
    rw [List.map_map]
    refine List.map_congr_left fun s hs => ?_
    show pairOf false (prS s) = some (iT s)
    obtain ⟨h1, h2⟩ := h s hs
    unfold pairOf
    rw [prS_split (h s hs)]
    dsimp only
    unfold endT
    rw [if_neg Bool.false_ne_true, if_neg Bool.false_ne_true, whole_wd h1, whole_wd h2]
    rfl
  rw [e, allO_some]
  rfl
theorem ascP : Asc "plan " := by show ("plan " : Str).cps.all (· < 128) = true; decide +kernel
theorem plan_asc {n : Int} {bs : List (Int × Int)} (hn : In15 n) (h : ∀ b ∈ bs, InP b) : Asc (planS n bs) := by
  refine asc_app ascP (asc_app (asc_app (wd_asc hn) asc2) ?_)
  show Asc (glued _ _)
  rw [glued_eq_join]
  refine asc_join asc3 fun p hp => ?_
  obtain ⟨s, hs, rfl⟩ := List.mem_map.mp hp
  obtain ⟨h1, h2⟩ := h s hs
  exact asc_app (asc_app (wd_asc h1) asc1) (wd_asc h2)
theorem plan_len {n : Int} {bs : List (Int × Int)} (hn : In15 n) (hl : bs.length ≤ 12) (h : ∀ b ∈ bs, InP b) : (planS n bs).length ≤ 118 := by
  unfold planS
  rw [Str.length_append]
  have := body_len hn hl h
  have : ("plan " : Str).length = 5 := by decide +kernel
  omega
end Tx
set_option maxHeartbeats 4000000
namespace K52
open PySem L2 Gc Ch Tx
seal wpAny
noncomputable def top (i : Nat) : Stmt := PySem.Challenge.pw_surestretch_k52_texts_of_none.main.body.getD i (.Pass ⟨0, 0, 0, 0⟩)
noncomputable abbrev s_whole : Stmt := top 11
noncomputable abbrev s_share : Stmt := top 12
noncomputable abbrev s_wpair : Stmt := top 13
noncomputable abbrev s_cd : Stmt := top 14
noncomputable abbrev s_und : Stmt := top 15
noncomputable abbrev s_ruleof : Stmt := top 17
noncomputable abbrev s_rowof : Stmt := top 18
noncomputable abbrev s_str : Stmt := top 19
noncomputable abbrev s_plan : Stmt := top 21
noncomputable abbrev s_bnd : Stmt := top 22
noncomputable abbrev s_rr : Stmt := top 25
noncomputable abbrev s_rd : Stmt := top 26
noncomputable abbrev s_rb : Stmt := top 27
noncomputable abbrev s_rps : Stmt := top 28
noncomputable abbrev s_rp : Stmt := top 29
noncomputable abbrev s_rf : Stmt := top 30
noncomputable abbrev s_rw : Stmt := top 31
noncomputable abbrev s_atU : Stmt := top 33
noncomputable abbrev s_div : Stmt := top 34
noncomputable abbrev s_fig : Stmt := top 41
noncomputable abbrev s_lwh : Stmt := top 42
noncomputable abbrev s_num : Stmt := top 43
noncomputable abbrev s_lrd : Stmt := top 44
noncomputable abbrev s_nol : Stmt := top 45
noncomputable abbrev s_isr : Stmt := top 46
noncomputable abbrev s_isp : Stmt := top 47
noncomputable abbrev s_told : Stmt := top 48
noncomputable abbrev s_word : Stmt := top 35
noncomputable abbrev s_text : Stmt := top 36
noncomputable abbrev s_sg : Stmt := top 37
noncomputable abbrev s_nb : Stmt := top 38
noncomputable abbrev s_pb : Stmt := top 39
noncomputable abbrev s_bent : Stmt := top 40
noncomputable abbrev s_law : Stmt := top 49
structure Txt (mg : Str → Option Value) : Prop where
  range : mg "range" = none
  min : mg "min" = none
  max : mg "max" = none
  len : mg "len" = none
  isinstance : mg "isinstance" = none
  int : mg "int" = none
  bool : mg "bool" = none
  str : mg "str" = none
  tuple : mg "tuple" = none
  list : mg "list" = none
  zip : mg "zip" = none
  enumerate : mg "enumerate" = none
  all : mg "all" = none
  abs : mg "abs" = none
  sorted : mg "sorted" = none
  ValueError : mg "ValueError" = none
  FIGURES : ∃ t, mg "FIGURES" = some (.str "0123456789" t)
structure CA where
  StretchError : Addr
  NoNumber : Addr
  NoRule : Addr
  NotSure : Addr
  TooMuch : Addr
  NoPlan : Addr
  NoText : Addr
  NoName : Addr
  NoRow : Addr
structure CF (K : PySem.W.Frag) (mg : Str → Option Value) (C : CA) : Prop where
  mStretchError : mg "StretchError" = some (.ref C.StretchError)
  mNoNumber : mg "NoNumber" = some (.ref C.NoNumber)
  mNoRule : mg "NoRule" = some (.ref C.NoRule)
  mNotSure : mg "NotSure" = some (.ref C.NotSure)
  mTooMuch : mg "TooMuch" = some (.ref C.TooMuch)
  mNoPlan : mg "NoPlan" = some (.ref C.NoPlan)
  mNoText : mg "NoText" = some (.ref C.NoText)
  mNoName : mg "NoName" = some (.ref C.NoName)
  mNoRow : mg "NoRow" = some (.ref C.NoRow)
  xNoRule : XCls K mg "NoRule" C.NoRule
  xNoPlan : XCls K mg "NoPlan" C.NoPlan
  xNoText : XCls K mg "NoText" C.NoText
  cStretchError : Catch K C.StretchError
  iNoRule : XInst K C.NoRule
  iNoPlan : XInst K C.NoPlan
  iNoText : XInst K C.NoText
  subNoText : PySem.W.subIn K (.ref C.NoText) (.ref C.StretchError) = some true
  valNoText : PySem.W.kitOne K (.ref C.NoText) (.type "ValueError") = some true
  othNoText : PySem.W.kitAny K (.ref C.NoText) [.ref C.NoName, .ref C.NoNumber, .ref C.NoRow, .ref C.NotSure, .ref C.TooMuch] = some false
  kNoTextNoRule : PySem.W.kitOne K (.ref C.NoText) (.ref C.NoRule) = some false
  kNoTextNoPlan : PySem.W.kitOne K (.ref C.NoText) (.ref C.NoPlan) = some false
  subNoRule : PySem.W.subIn K (.ref C.NoRule) (.ref C.StretchError) = some true
  valNoRule : PySem.W.kitOne K (.ref C.NoRule) (.type "ValueError") = some true
  othNoRule : PySem.W.kitAny K (.ref C.NoRule) [.ref C.NoName, .ref C.NoNumber, .ref C.NoRow, .ref C.NotSure, .ref C.TooMuch] = some false
  kNoRuleNoText : PySem.W.kitOne K (.ref C.NoRule) (.ref C.NoText) = some false
  kNoRuleNoPlan : PySem.W.kitOne K (.ref C.NoRule) (.ref C.NoPlan) = some false
  subNoPlan : PySem.W.subIn K (.ref C.NoPlan) (.ref C.StretchError) = some true
  valNoPlan : PySem.W.kitOne K (.ref C.NoPlan) (.type "ValueError") = some true
  othNoPlan : PySem.W.kitAny K (.ref C.NoPlan) [.ref C.NoName, .ref C.NoNumber, .ref C.NoRow, .ref C.NotSure, .ref C.TooMuch] = some false
  kNoPlanNoText : PySem.W.kitOne K (.ref C.NoPlan) (.ref C.NoText) = some false
  kNoPlanNoRule : PySem.W.kitOne K (.ref C.NoPlan) (.ref C.NoRule) = some false
noncomputable def isW (t : Th) : Bool := isIntT t && !isBoolT t
theorem isW_shape {t : Th} (h : isW t = true) : ∃ i, t = .int i := by
  cases t <;> first | exact ⟨_, rfl⟩ | (simp [isW, isIntT, isBoolT] at h)
theorem at0 {x : V} {xs : List V} : atI (x :: xs) 0 = some x := atI_nat (xs := x :: xs) (j := 0) rfl
theorem at1 {x y : V} {xs : List V} : atI (x :: y :: xs) 1 = some y := atI_nat (xs := x :: y :: xs) (j := 1) rfl
theorem den_pair {H : Hp} {a b : Int} {v : V} (d : Den H (.tup [.int a, .int b]) v) : ∃ p, v = .ref p ∧ H p = some (.tup [.int a, .int b]) := by
  obtain ⟨p, xs, rfl, h, y, ys, e1, e2, z, zs, e3, e4, e5⟩ := d
  have e2' : y = V.int a := e2
  have e4' : z = V.int b := e4
  have e5' : zs = [] := e5
  subst e5' e4' e3 e2' e1
  exact ⟨p, rfl, h⟩
theorem getD_mem {α : Type} {l : List α} {i : Nat} {d : α} (h : i < l.length) : l.getD i d ∈ l := by rw [getD_in h]; exact List.getElem_mem h
theorem den_p {H : Hp} {p : Addr} {a b : Int} (h : H p = some (.tup [.int a, .int b])) : Den H (.tup [.int a, .int b]) (.ref p) := ⟨p, _, rfl, h, _, _, rfl, rfl, _, _, rfl, rfl, rfl⟩
theorem den2 {H : Hp} {p : Addr} {x y : V} {a b : Th} (h : H p = some (.tup [x, y])) (d1 : Den H a x) (d2 : Den H b y) : Den H (.tup [a, b]) (.ref p) := ⟨p, _, rfl, h, _, _, rfl, d1, _, _, rfl, d2, rfl⟩
theorem boot_sorted : bootBuiltins "sorted" = some (.builtin "sorted") := by decide +kernel
theorem boot_ValueError : bootBuiltins "ValueError" = some (.type "ValueError") := by decide +kernel
theorem boot_str : bootBuiltins "str" = some (.type "str") := by decide +kernel
theorem lt40 {n : Nat} (h : n ≤ 40) : n < sizeLine := Nat.lt_of_le_of_lt h (by decide)
theorem le200 {n : Nat} (h : n ≤ 100000) : n ≤ sizeLine := Nat.le_trans h (by decide)
theorem iteF' {c : Bool} {A B : Prop} (h : c = false) (b : B) : if c = true then A else B := by rw [h, if_neg Bool.false_ne_true]; exact b
theorem iteT2 {c : Bool} {A B : Prop} (h : c = true) (a : A) : if c = true then A else B := by rw [if_pos h]; exact a
section
variable {P : Program} {w : World} {K : PySem.W.Frag} {mg : Str → Option Value} {base : Heap}
noncomputable def spWhole : Sp := fun vs H Q _ => ∃ x t, vs = [x] ∧ Den H t x ∧ Q (.bl (isW t)) H
theorem sc_whole : FnScope ["thing"] ["thing"] (defScope s_whole) := ⟨rfl, rfl, rfl, by decide +kernel, rfl, by decide +kernel, by decide +kernel⟩
theorem ok_whole {f : Addr} {fd : FuncData} (F : Fun K "is_whole" "is_whole" s_whole f fd) (T : Txt mg) : FnOk P w K mg base CX0 1 f fd ["thing"] spWhole := by
  refine F.ok sc_whole (fun vs H Q E h => ?_) (fun cdv A outer s H vs Q E hr h => ?_)
  · obtain ⟨x, t, rfl, _⟩ := h
    rfl
  obtain ⟨x, t, rfl, d, q⟩ := h
  refine ⟨_, (pss_one (ps_ret (pe_and (pe_callB call_isinstD rfl T.isinstance boot_isinstance (pa_cons (pv 0) (pa_cons (pe_bltn (v := .ty "int") rfl T.int boot_int rfl) pa_nil))) (pe_one (pe_not (pe_callB call_isinstD rfl T.isinstance boot_isinstance (pa_cons (pv 0) (pa_cons (pe_bltn (v := .ty "bool") rfl T.bool boot_bool rfl) pa_nil)))))))), ?_⟩
  refine ⟨_, rfl, x, t, _, _, rfl, d, kit_int t, _, rfl, ?_⟩
  cases hi : isIntT t with
  | false =>
    unfold isW at q
    rw [hi, Bool.false_and] at q
    exact iteF q
  | true =>
    unfold isW at q
    rw [hi, Bool.true_and] at q
    exact iteT ⟨_, rfl, x, t, _, _, rfl, d, kit_bool t, _, rfl, q⟩
noncomputable def pairT : Th → Bool
  | .tup [a, b] => isW a && isW b
  | _ => false
noncomputable def shareT (t : Th) : Bool := pairT t && (match t with
  | .tup [.int a, .int b] => decide (1 ≤ b) && (decide (0 ≤ a) && (decide (a ≤ b) && decide (Int.gcd a b = 1)))
  | _ => false)
theorem pair_shape {t : Th} (h : pairT t = true) : ∃ a b, t = .tup [.int a, .int b] := by
  match t, h with
  | .tup [a, b], h =>
    have h' : (isW a && isW b) = true := h
    rw [Bool.and_eq_true] at h'
    obtain ⟨i, rfl⟩ := isW_shape h'.1
    obtain ⟨j, rfl⟩ := isW_shape h'.2
    exact ⟨i, j, rfl⟩
theorem share_not {t : Th} (h : pairT t = false) : shareT t = false := by unfold shareT; rw [h]; rfl
noncomputable def spWpair : Sp := fun vs H Q _ => ∃ x t, vs = [x] ∧ Den H t x ∧ Q (.bl (pairT t)) H
theorem pair_len {ts : List Th} (h : ts.length ≠ 2) : pairT (.tup ts) = false := by
  match ts, h with
  | [], _ => rfl
  | [_], _ => rfl
  | [_, _], h => exact absurd rfl h
  | _ :: _ :: _ :: _, _ => rfl
theorem sc_wpair : FnScope ["thing"] ["thing"] (defScope s_wpair) := ⟨rfl, rfl, rfl, by decide +kernel, rfl, by decide +kernel, by decide +kernel⟩
theorem ok_wpair {f : Addr} {fd : FuncData} (F : Fun K "is_whole_pair" "is_whole_pair" s_wpair f fd) (T : Txt mg) {fwhole : Addr} {dwhole : FuncData} (Gwhole : FnOk P w K mg base CX0 1 fwhole dwhole ["thing"] spWhole) (bwhole : Binds K dwhole ["thing"] []) (kwhole : PySem.W.keepIn K (.ref fwhole) = true) (mwhole : mg "is_whole" = some (.ref fwhole)) : FnOk P w K mg base CX0 2 f fd ["thing"] spWpair := by
  refine F.ok sc_wpair (fun vs H Q E h => ?_) (fun cdv A outer s H vs Q E hr h => ?_)
  · obtain ⟨x, t, rfl, _⟩ := h
    rfl
  obtain ⟨x, t, rfl, d, q⟩ := h
  refine ⟨_, (pss_one (ps_ret (pe_and (pe_callB call_isinstD rfl T.isinstance boot_isinstance (pa_cons (pv 0) (pa_cons (pe_bltn (v := .ty "tuple") rfl T.tuple boot_tuple rfl) pa_nil))) (pe_and (pe_cmpR op_eq (pe_callB call_len_seq rfl T.len boot_len (pa_cons (pv 0) pa_nil)) pe_int (nomark _)) (pe_and (pe_call Gwhole hr rfl mwhole kwhole bwhole .nil pass0 (pa_cons (pe_ix ix_tup (pv 0) pe_int (fun _ _ => rfl)) pa_nil)) (pe_one (pe_call Gwhole hr rfl mwhole kwhole bwhole .nil pass0 (pa_cons (pe_ix ix_tup (pv 0) pe_int (fun _ _ => rfl)) pa_nil)))))))), ?_⟩
  refine ⟨_, rfl, x, t, _, _, rfl, d, kit_tuple t, _, rfl, ?_⟩
  cases t with
  | tup ts =>
    refine iteT ?_
    obtain ⟨p, xs, rfl, hH, dd⟩ := d
    refine ⟨_, rfl, p, xs, rfl, .inr (SqT.of hH), rfl, _, rfl, ?_⟩
    refine ite2 (fun c => ?_) (fun c => ?_)
    · have c' : V.int (xs.length : Int) = V.int 2 := of_decide_eq_true c
      have c2 : xs.length = 2 := by injection c' with z; omega
      rw [dd.len] at c2
      match ts, c2, dd, q with
      | [a, b], _, dd, q =>
        obtain ⟨y, ys, rfl, d1, z, zs, rfl, d2, e5⟩ := dd
        have e5' : zs = [] := e5
        subst e5'
        refine ⟨_, rfl, p, _, 0, _, rfl, rfl, SqT.of hH, at0, y, a, rfl, d1, _, rfl, ?_⟩
        have q' : Q (.bl (isW a && isW b)) H := q
        cases ha : isW a with
        | false => rw [ha, Bool.false_and] at q'; exact iteF q'
        | true =>
          rw [ha, Bool.true_and] at q'
          exact iteT ⟨_, rfl, p, _, 1, _, rfl, rfl, SqT.of hH, at1, z, b, rfl, d2, q'⟩
    · have c2 : ts.length ≠ 2 := fun z => c (decide_eq_true (by rw [dd.len, z] <;> rfl))
      rw [pair_len c2] at q
      exact q
  | non => exact iteF q
  | bl _ => exact iteF q
  | int _ => exact iteF q
  | str _ => exact iteF q
  | lst _ => exact iteF q
  | emp => exact iteF q
  | dic => exact iteF q
noncomputable def spCd : Sp := fun vs H Q _ => ∃ a b : Int, vs = [.int a, .int b] ∧ 0 ≤ a ∧ 0 ≤ b ∧ Q (.int (Int.gcd a b)) H
noncomputable def mu2 (σ : St) : Nat := match σ with
  | _ :: some (.int y) :: _ => y.toNat
  | _ => 0
theorem sc_cd : FnScope ["one", "other", "rest"] ["one", "other"] (defScope s_cd) := ⟨rfl, rfl, rfl, by decide +kernel, rfl, by decide +kernel, by decide +kernel⟩
theorem ok_cd {f : Addr} {fd : FuncData} (F : Fun K "common_divisor" "common_divisor" s_cd f fd) (T : Txt mg) : FnOk P w K mg base CX0 1 f fd ["one", "other"] spCd := by
  refine F.ok sc_cd (fun vs H Q E h => ?_) (fun cdv A outer s H vs Q E hr h => ?_)
  · obtain ⟨a, b, rfl, _⟩ := h
    rfl
  obtain ⟨a, b, rfl, ha, hb, q⟩ := h
  refine ⟨_, (pss_cons (ps_while PassesOwn.never (pt_cmpR op_ne (pv 1) pe_int (nomark _)) (pss_cons (ps_set (i := 2) sc_cd.nd rfl (Or.inl rfl) (pe_op op_mod (pv 0) (pv 1)))
      (pss_cons (ps_set (i := 0) sc_cd.nd rfl (Or.inl rfl) (pv 1))
      (pss_one (ps_set (i := 1) sc_cd.nd rfl (Or.inl rfl) (pv 2))))))
    (pss_one (ps_ret (pv 0)))), ?_⟩
  refine while_by (fun σ H' => H' = H ∧ ∃ x y v, σ = [some (.int x), some (.int y), v] ∧ 0 ≤ x ∧ 0 ≤ y ∧ Int.gcd x y = Int.gcd a b) (fun σ _ => mu2 σ) ⟨rfl, a, b, none, rfl, ha, hb, rfl⟩ ?_ ?_
  · rintro σ H' ⟨rfl, x, y, v, rfl, hx, hy, g⟩
    refine ⟨_, rfl, rfl, _, rfl, ?_⟩
    refine ite2 (fun c => ?_) (fun c => ?_)
    · have c' : y ≠ 0 := by rintro rfl; exact absurd c (by decide)
      have hm := Int.emod_nonneg x c'
      have hl := Int.emod_lt_of_pos x (show 0 < y by omega)
      refine ⟨_, rfl, _, rfl, _, _, rfl, rfl, (by show 0 < y; omega), _, rfl, _, rfl, ?_⟩
      refine ⟨⟨rfl, y, x % y, some (.int (x % y)), rfl, hy, hm, by rw [gstep hx hy c']; exact g⟩, ?_⟩
      show (x % y).toNat < y.toNat
      omega
    · have c' : y = 0 := by
        by_cases z : y = 0
        · exact z
        · exact absurd (show (!decide (V.int y = V.int 0)) = true by rw [decide_eq_false (fun w => z (by injection w))]; rfl) c
      subst c'
      refine ⟨_, rfl, ?_⟩
      rw [← g, gend hx] at q
      exact q
  · intro σ H Q Q' hq h
    obtain ⟨v, e, h1, k, e2, h2⟩ := h
    exact ⟨v, e, h1, k, e2, hq _ _ h2⟩
noncomputable def spShare : Sp := fun vs H Q _ => ∃ x t, vs = [x] ∧ Den H t x ∧ Q (.bl (shareT t)) H
theorem share_gcd {a b : Int} : (decide (V.int (Int.gcd a b : Int) = V.int 1)) = decide (Int.gcd a b = 1) := by
  apply decide_eq_decide.mpr
  constructor
  · intro h; injection h with z; omega
  · intro h; rw [h]; rfl
theorem sc_share : FnScope ["thing", "top", "bottom"] ["thing"] (defScope s_share) := ⟨rfl, rfl, rfl, by decide +kernel, rfl, by decide +kernel, by decide +kernel⟩
theorem ok_share {f : Addr} {fd : FuncData} (F : Fun K "is_share" "is_share" s_share f fd) (T : Txt mg) {fwpair : Addr} {dwpair : FuncData} (Gwpair : FnOk P w K mg base CX0 2 fwpair dwpair ["thing"] spWpair) (bwpair : Binds K dwpair ["thing"] []) (kwpair : PySem.W.keepIn K (.ref fwpair) = true) (mwpair : mg "is_whole_pair" = some (.ref fwpair)) {fcd : Addr} {dcd : FuncData} (Gcd : FnOk P w K mg base CX0 2 fcd dcd ["one", "other"] spCd) (bcd : Binds K dcd ["one", "other"] []) (kcd : PySem.W.keepIn K (.ref fcd) = true) (mcd : mg "common_divisor" = some (.ref fcd)) : FnOk P w K mg base CX0 3 f fd ["thing"] spShare := by
  refine F.ok sc_share (fun vs H Q E h => ?_) (fun cdv A outer s H vs Q E hr h => ?_)
  · obtain ⟨x, t, rfl, _⟩ := h
    rfl
  obtain ⟨x, t, rfl, d, q⟩ := h
  refine ⟨_, (pss_cons (ps_if (pt_not (pt_val (pe_call Gwpair hr rfl mwpair kwpair bwpair .nil pass0 (pa_cons (pv 0) pa_nil)))) (pss_one (ps_ret pe_bl)) pss_nil)
    (pss_cons (ps_set (i := 1) sc_share.nd rfl (Or.inl rfl) (pe_ix ix_tup (pv 0) pe_int (fun _ _ => rfl)))
    (pss_cons (ps_set (i := 2) sc_share.nd rfl (Or.inl rfl) (pe_ix ix_tup (pv 0) pe_int (fun _ _ => rfl)))
    (pss_one (ps_ret (pe_and (pe_cmpR op_ge (pv 2) pe_int (nomark _)) (pe_and (pe_chain op_le op_le pe_int (pv 1) (pv 2)) (pe_one (pe_cmpR op_eq (pe_call Gcd hr rfl mcd kcd bcd .nil pass0 (pa_cons (pv 1) (pa_cons (pv 2) pa_nil))) pe_int (nomark _)))))))))), ?_⟩
  refine ⟨_, rfl, x, t, rfl, d, _, rfl, ?_⟩
  cases hp : pairT t with
  | false =>
    rw [share_not hp] at q
    exact iteT q
  | true =>
    obtain ⟨a, b, rfl⟩ := pair_shape hp
    obtain ⟨p, rfl, hH⟩ := den_pair d
    refine iteF ?_
    refine ⟨_, rfl, p, _, 0, _, rfl, rfl, SqT.of hH, at0, ?_⟩
    refine ⟨_, rfl, p, _, 1, _, rfl, rfl, SqT.of hH, at1, ?_⟩
    have q' : Q (.bl (decide (1 ≤ b) && (decide (0 ≤ a) && (decide (a ≤ b) && decide (Int.gcd a b = 1))))) H := q
    refine ⟨_, rfl, _, _, rfl, rfl, _, rfl, ?_⟩
    refine ite2 (fun c => ?_) (fun c => ?_)
    · rw [c, Bool.true_and] at q'
      refine ⟨_, rfl, _, _, rfl, rfl, _, rfl, ?_⟩
      refine ite2 (fun c2 => ?_) (fun c2 => ?_)
      · rw [c2, Bool.true_and] at q'
        refine ⟨_, rfl, _, _, rfl, rfl, _, rfl, ?_⟩
        refine ite2 (fun c3 => ?_) (fun c3 => ?_)
        · rw [c3, Bool.true_and] at q'
          refine ⟨_, rfl, _, rfl, a, b, rfl, of_decide_eq_true c2, ?_, rfl, ?_⟩
          · have := of_decide_eq_true c; omega
          rw [share_gcd]; exact q'
        · rw [Bool.eq_false_iff.mpr c3, Bool.false_and] at q'
          exact q'
      · rw [Bool.eq_false_iff.mpr c2, Bool.false_and] at q'
        exact ⟨_, rfl, iteF q'⟩
    · rw [Bool.eq_false_iff.mpr c, Bool.false_and] at q'
      exact q'
theorem kit_lt {K : PySem.W.Frag} (t : Th) : PySem.W.kitAny K (tyTh t) (["list", "tuple"].map Value.type) = some (isLstT t || isTupT t) := by cases t <;> rfl
noncomputable def seqOf : Th → Option (List Th)
  | .lst ts => some ts
  | .tup ts => some ts
  | _ => none
noncomputable def rowB (t : Th) (c : Int) : Bool := match seqOf t with
  | some ts => decide ((ts.length : Int) = c)
  | none => false
theorem seq_den {H : Hp} {t : Th} {ts : List Th} {v : V} (h : seqOf t = some ts) (d : Den H t v) : ∃ a xs, v = .ref a ∧ SeqAt2 H a xs ∧ Dens H ts xs := by
  cases t with
  | lst us =>
    cases h
    obtain ⟨a, xs, e, h1, h2⟩ := d
    exact ⟨a, xs, e, .inl h1, h2⟩
  | tup us =>
    cases h
    obtain ⟨a, xs, e, h1, h2⟩ := d
    exact ⟨a, xs, e, .inr h1, h2⟩
  | non => cases h
  | bl _ => cases h
  | int _ => cases h
  | str _ => cases h
  | emp => cases h
  | dic => cases h
theorem row_seq {t : Th} {c : Int} (h : rowB t c = true) : ∃ ts, seqOf t = some ts ∧ (ts.length : Int) = c := by
  unfold rowB at h
  cases e : seqOf t with
  | none => rw [e] at h; cases h
  | some ts => rw [e] at h; exact ⟨ts, rfl, of_decide_eq_true h⟩
theorem row_two {t : Th} (h : rowB t 2 = true) : ∃ x y, seqOf t = some [x, y] := by
  obtain ⟨ts, e, l⟩ := row_seq h
  match ts, l with
  | [x, y], _ => exact ⟨x, y, e⟩
theorem dec_int {a b : Int} : decide (V.int a = V.int b) = decide (a = b) := decide_eq_decide.mpr ⟨fun h => by injection h, fun h => by rw [h]⟩
noncomputable def spRowT : Sp := fun vs H Q _ => ∃ (x : V) (c : Int) (t : Th), vs = [x, .int c] ∧ Den H t x ∧ ∀ H', Same H H' → Q (.bl (rowB t c)) H'
theorem sc_rowof : FnScope ["thing", "count"] ["thing", "count"] (defScope s_rowof) := ⟨rfl, rfl, rfl, by decide +kernel, rfl, by decide +kernel, by decide +kernel⟩
theorem ok_rowof {f : Addr} {fd : FuncData} (F : Fun K "is_row_of" "is_row_of" s_rowof f fd) (T : Txt mg) : FnOk P w K mg base CX0 1 f fd ["thing", "count"] spRowT := by
  refine F.ok sc_rowof (fun vs H Q E h => ?_) (fun cdv A outer s H vs Q E hr h => ?_)
  · obtain ⟨x, c, t, rfl, _⟩ := h
    rfl
  obtain ⟨x, c, t, rfl, d, q⟩ := h
  refine ⟨_, (pss_one (ps_ret (pe_and (pe_callB call_isinstT rfl T.isinstance boot_isinstance (pa_cons (pv 0) (pa_cons (pe_tup (pa_cons (pe_bltn (v := .ty "list") rfl T.list boot_list rfl) (pa_cons (pe_bltn (v := .ty "tuple") rfl T.tuple boot_tuple rfl) pa_nil))) pa_nil))) (pe_one (pe_cmpR op_eq (pe_callB call_len_seq rfl T.len boot_len (pa_cons (pv 0) pa_nil)) (pv 1) (nomark _)))))), ?_⟩
  refine ⟨_, rfl, (by show 2 ≤ sizeLine; decide), fun p hp => ?_⟩
  have s1 := same_new hp (.tup [V.ty "list", V.ty "tuple"])
  refine ⟨x, p, t, ["list", "tuple"], _, rfl, upd_same, d.keep s1, kit_lt t, _, rfl, ?_⟩
  have q1 := q _ s1
  cases t with
  | lst ts =>
    obtain ⟨a, xs, rfl, h1, dd⟩ := d
    refine iteT ⟨_, rfl, a, xs, rfl, .inl (SqL.of (s1 _ _ h1)), _, rfl, rfl, ?_⟩
    show Q (.bl (decide (V.int (xs.length : Int) = V.int c))) _
    rw [dec_int, dd.len]
    exact q1
  | tup ts =>
    obtain ⟨a, xs, rfl, h1, dd⟩ := d
    refine iteT ⟨_, rfl, a, xs, rfl, .inr (SqT.of (s1 _ _ h1)), _, rfl, rfl, ?_⟩
    show Q (.bl (decide (V.int (xs.length : Int) = V.int c))) _
    rw [dec_int, dd.len]
    exact q1
  | non => exact iteF q1
  | bl _ => exact iteF q1
  | int _ => exact iteF q1
  | str _ => exact iteF q1
  | emp => exact iteF q1
  | dic => exact iteF q1
theorem cut_tail {ws : List V} (h : 1 ≤ ws.length) : cutV ws (some 1) none = ws.drop 1 := by
  have h1 : HT.sIx ws.length 0 (some 1) = 1 := by
    rw [show (1 : Int) = ((1 : Nat) : Int) from rfl, HT.sIx_nat]
    omega
  unfold cutV
  rw [h1, HT.sIx_none, List.take_of_length_le (by simp)]
noncomputable abbrev Fq := Int × Int
noncomputable abbrev Sq := Fq × Fq
noncomputable def ppT (p : Fq) : Th := .tup [.int p.1, .int p.2]
noncomputable def ssT (s : Sq) : Th := .tup [ppT s.1, ppT s.2]
noncomputable def shOf (t : Th) : Option Fq := if shareT t = true then (match t with
  | .tup [.int a, .int b] => some (a, b)
  | _ => none) else none
theorem sh_yes {t : Th} (h : shareT t = true) : ∃ p, t = ppT p ∧ shOf t = some p := by
  have hp : pairT t = true := by
    cases e : pairT t with
    | true => rfl
    | false => rw [share_not e] at h; cases h
  obtain ⟨a, b, rfl⟩ := pair_shape hp
  exact ⟨(a, b), rfl, by unfold shOf; rw [if_pos h]⟩
theorem sh_no {t : Th} (h : shareT t = false) : shOf t = none := by unfold shOf; rw [if_neg (by rw [h]; exact Bool.false_ne_true)]
noncomputable def st2 (t : Th) : Option Sq := match seqOf t with
  | some [x, y] => (shOf x).bind fun p => (shOf y).bind fun q => some (p, q)
  | _ => none
noncomputable def und2 (p q : Fq) : Bool := decide (p.1 * q.2 < q.1 * p.2)
noncomputable def Sm2 (p : Fq) : Prop := Smk p.1 ∧ Smk p.2
theorem den_pp {H : Hp} {p : Fq} {v : V} (d : Den H (ppT p) v) : ∃ a, v = .ref a ∧ H a = some (.tup [.int p.1, .int p.2]) := den_pair d
theorem den_ss {H : Hp} {s : Sq} {v : V} (d : Den H (ssT s) v) : ∃ c a b, v = .ref c ∧ H c = some (.tup [.ref a, .ref b]) ∧ H a = some (.tup [.int s.1.1, .int s.1.2]) ∧ H b = some (.tup [.int s.2.1, .int s.2.2]) := by
  obtain ⟨c, xs, rfl, h, y, ys, rfl, d1, z, zs, rfl, d2, e⟩ := d
  have e' : zs = [] := e
  subst e'
  obtain ⟨a, rfl, ha⟩ := den_pp d1
  obtain ⟨b, rfl, hb⟩ := den_pp d2
  exact ⟨c, a, b, rfl, h, ha, hb⟩
noncomputable def spUndI : Sp := fun vs H Q _ => ∃ (f g : Addr) (p q : Fq), vs = [.ref f, .ref g] ∧ H f = some (.tup [.int p.1, .int p.2]) ∧ H g = some (.tup [.int q.1, .int q.2]) ∧ Sm2 p ∧ Sm2 q ∧ Q (.bl (und2 p q)) H
theorem sc_und : FnScope ["one", "other"] ["one", "other"] (defScope s_und) := ⟨rfl, rfl, rfl, by decide +kernel, rfl, by decide +kernel, by decide +kernel⟩
theorem ok_und {f : Addr} {fd : FuncData} (F : Fun K "under" "under" s_und f fd) (T : Txt mg) : FnOk P w K mg base CX0 1 f fd ["one", "other"] spUndI := by
  refine F.ok sc_und (fun vs H Q E h => ?_) (fun cdv A outer s H vs Q E hr h => ?_)
  · obtain ⟨f, g, p, q, rfl, _⟩ := h
    rfl
  obtain ⟨f, g, p, q, rfl, h1, h2, t, u, k⟩ := h
  refine ⟨_, (pss_one (ps_ret (pe_cmpR op_lt (pe_op op_mulK (pe_ix ix_tup (pv 0) pe_int (fun _ _ => rfl)) (pe_ix ix_tup (pv 1) pe_int (fun _ _ => rfl))) (pe_op op_mulK (pe_ix ix_tup (pv 1) pe_int (fun _ _ => rfl)) (pe_ix ix_tup (pv 0) pe_int (fun _ _ => rfl))) (nomark _)))), ?_⟩
  exact ⟨_, rfl, f, _, 0, _, rfl, rfl, SqT.of h1, at0, _, rfl, g, _, 1, _, rfl, rfl, SqT.of h2, at1, _, _, rfl, rfl, ⟨t.1, u.2⟩, _, rfl, g, _, 0, _, rfl, rfl, SqT.of h2, at0, _, rfl, f, _, 1, _, rfl, rfl, SqT.of h1, at1, _, _, rfl, rfl, ⟨u.1, t.2⟩, _, _, rfl, rfl, k⟩
noncomputable def spStrX (C : CA) : Sp := fun vs H Q E => ∃ (x : V) (t : Th), vs = [x] ∧ Den H t x ∧ (∀ s, st2 t = some s → Sm2 s.1 ∧ Sm2 s.2) ∧ (∀ s, st2 t = some s → und2 s.2 s.1 = false → ∀ p H', Same H H' → Den H' (ssT s) (.ref p) → Q (.ref p) H') ∧
  ((∀ s, st2 t = some s → und2 s.2 s.1 = true) → ∀ H', Same H H' → E (.ref C.NoRule) none H')
theorem sc_str : FnScope ["thing", "low", "high"] ["thing"] (defScope s_str) := ⟨rfl, rfl, rfl, by decide +kernel, rfl, by decide +kernel, by decide +kernel⟩
theorem ok_str {C : CA} {f : Addr} {fd : FuncData} (F : Fun K "stretch_of" "stretch_of" s_str f fd) (T : Txt mg) (cf : CF K mg C) {frowof : Addr} {drowof : FuncData} (Growof : FnOk P w K mg base CX0 4 frowof drowof ["thing", "count"] spRowT) (browof : Binds K drowof ["thing", "count"] []) (krowof : PySem.W.keepIn K (.ref frowof) = true) (mrowof : mg "is_row_of" = some (.ref frowof)) {fshare : Addr} {dshare : FuncData} (Gshare : FnOk P w K mg base CX0 4 fshare dshare ["thing"] spShare) (bshare : Binds K dshare ["thing"] []) (kshare : PySem.W.keepIn K (.ref fshare) = true) (mshare : mg "is_share" = some (.ref fshare)) {fund : Addr} {dund : FuncData} (Gund : FnOk P w K mg base CX0 4 fund dund ["one", "other"] spUndI) (bund : Binds K dund ["one", "other"] []) (kund : PySem.W.keepIn K (.ref fund) = true) (mund : mg "under" = some (.ref fund)) : FnOk P w K mg base (CXX P w) 5 f fd ["thing"] (spStrX C) := by
  refine F.okX sc_str (fun vs H Q E h => ?_) (fun cdv A outer s H vs Q E hr h => ?_)
  · obtain ⟨x, t, rfl, _⟩ := h
    rfl
  obtain ⟨x, t, rfl, d, hsm, q1, q2⟩ := h
  refine ⟨_, (pss_cons (ps_if (pt_not (pt_val (pe_call Growof hr rfl mrowof krowof browof .nil pass0 (pa_cons (pv 0) (pa_cons pe_int pa_nil))))) (pss_one (ps_raise reachOf rfl cf.xNoRule rfl (pa_cons pe_str pa_nil))) pss_nil)
    (pss_cons (ps_set (i := 1) sc_str.nd rfl (Or.inl rfl) (pe_ix ix_seq (pv 0) pe_int (fun _ _ => rfl)))
    (pss_cons (ps_set (i := 2) sc_str.nd rfl (Or.inl rfl) (pe_ix ix_seq (pv 0) pe_int (fun _ _ => rfl)))
    (pss_cons (ps_if (PW.pt (pw_or (pt_not (pt_val (pe_call Gshare hr rfl mshare kshare bshare .nil pass0 (pa_cons (pv 1) pa_nil)))) (pw_or1 (pt_not (pt_val (pe_call Gshare hr rfl mshare kshare bshare .nil pass0 (pa_cons (pv 2) pa_nil))))))) (pss_one (ps_raise reachOf rfl cf.xNoRule rfl (pa_cons pe_str pa_nil))) pss_nil)
    (pss_cons (ps_if (pt_val (pe_call Gund hr rfl mund kund bund .nil pass0 (pa_cons (pv 2) (pa_cons (pv 1) pa_nil)))) (pss_one (ps_raise reachOf rfl cf.xNoRule rfl (pa_cons pe_str pa_nil))) pss_nil)
    (pss_one (ps_ret (pe_tup (pa_cons (pv 1) (pa_cons (pv 2) pa_nil)))))))))), ?_⟩
  have one : 1 ≤ sizeLine := by decide
  refine ⟨_, rfl, x, 2, t, rfl, d, fun H1 s1 => ⟨_, rfl, ?_⟩⟩
  cases hr2 : rowB t 2 with
  | false =>
    refine iteT ⟨one, q2 (fun s hs => ?_) _ s1⟩
    exfalso
    unfold st2 at hs
    unfold rowB at hr2
    split at hs
    · rename_i e
      rw [e] at hr2
      exact absurd hr2 (by simp)
    · cases hs
  | true =>
    obtain ⟨t0, t1, e2⟩ := row_two hr2
    obtain ⟨a, xs, rfl, sq, dd⟩ := seq_den e2 d
    obtain ⟨y, ys, rfl, d0, z, zs, rfl, d1, e5⟩ := dd
    have e5' : zs = [] := e5
    subst e5'
    refine iteF ?_
    have sq1 := sq.keep s1
    have es : st2 t = (shOf t0).bind fun p => (shOf t1).bind fun q => some (p, q) := by unfold st2; rw [e2]
    refine ⟨_, rfl, sq1.ix at0 ?_⟩
    refine ⟨_, rfl, sq1.ix at1 ?_⟩
    refine ⟨_, rfl, y, t0, rfl, d0.keep s1, _, rfl, ?_⟩
    cases h0 : shareT t0 with
    | false =>
      refine iteT (iteT ⟨one, q2 (fun s hs => ?_) _ s1⟩)
      rw [es, sh_no h0] at hs
      cases hs
    | true =>
      refine iteF ⟨_, rfl, z, t1, rfl, d1.keep s1, _, rfl, ?_⟩
      cases h1 : shareT t1 with
      | false =>
        refine iteT ⟨one, q2 (fun s hs => ?_) _ s1⟩
        obtain ⟨p, _, ep⟩ := sh_yes h0
        rw [es, ep, sh_no h1] at hs
        cases hs
      | true =>
        refine iteF ?_
        obtain ⟨p, rfl, ep⟩ := sh_yes h0
        obtain ⟨q, rfl, eq⟩ := sh_yes h1
        have e3 : st2 t = some (p, q) := by rw [es, ep, eq]; rfl
        obtain ⟨m1, m2⟩ := hsm _ e3
        obtain ⟨b, rfl, hb⟩ := den_pp (d0.keep s1)
        obtain ⟨c, rfl, hc⟩ := den_pp (d1.keep s1)
        refine ⟨_, rfl, _, rfl, c, b, q, p, rfl, hc, hb, m2, m1, _, rfl, ?_⟩
        cases hu : und2 q p with
        | true => exact iteT ⟨one, q2 (fun s hs => by rw [e3] at hs; cases hs; exact hu) _ s1⟩
        | false =>
          refine iteF ⟨_, rfl, _, rfl, (by show 2 ≤ sizeLine; decide), fun m hm => ?_⟩
          have s2 := same_new hm (.tup [V.ref b, V.ref c])
          exact q1 (p, q) e3 hu m _ (s1.trans s2) (den2 upd_same (den_p (s2 _ _ hb)) (den_p (s2 _ _ hc)))
noncomputable def RisU (ps : List Sq) : Prop := ∀ i p q, ps[i]? = some p → ps[i + 1]? = some q → und2 q.1 p.1 = false ∧ und2 q.2 p.2 = false
structure GoodU (A S : Th) (n : Int) (ps : List Sq) : Prop where
  a : A = .int n
  seq : ∃ ts, seqOf S = some ts ∧ ts.map st2 = ps.map some
  n1 : 1 ≤ n
  n12 : n ≤ 12
  len : (ps.length : Int) = n + 1
  inn : ∀ p ∈ ps, und2 p.2 p.1 = false
  ris : RisU ps
noncomputable def ruT (n : Int) (ps : List Sq) : Th := .tup [.int n, .tup (ps.map ssT)]
theorem dens_snoc {H : Hp} : ∀ {ts : List Th} {xs : List V} {t : Th} {v : V}, Dens H ts xs → Den H t v → Dens H (ts ++ [t]) (xs ++ [v])
  | [], xs, t, v, h, d => by
    rw [show xs = [] from h]
    exact ⟨v, [], rfl, d, rfl⟩
  | u :: us, xs, t, v, ⟨y, ys, e, d1, d2⟩, d => by
    rw [e]
    exact ⟨y, ys ++ [v], rfl, d1, dens_snoc d2 d⟩
theorem map_snoc {ts : List Th} {ps : List Sq} {i : Nat} {t : Th} {a : Sq} (h : (ts.take i).map st2 = ps.map some) (e : ts[i]? = some t) (ha : st2 t = some a) : (ts.take (i + 1)).map st2 = (ps ++ [a]).map some := by
  rw [List.take_add_one, e, List.map_append, List.map_append, h]
  show _ ++ [st2 t] = _
  rw [ha]
  rfl
theorem map_at {ts : List Th} {ps : List Sq} (h : ts.map st2 = ps.map some) {i : Nat} {t : Th} (e : ts[i]? = some t) : ∃ p, ps[i]? = some p ∧ st2 t = some p := by
  have h1 : (ts.map st2)[i]? = some (st2 t) := by rw [List.getElem?_map, e]; rfl
  rw [h, List.getElem?_map] at h1
  cases q : ps[i]? with
  | none => rw [q] at h1; cases h1
  | some p => rw [q] at h1; exact ⟨p, rfl, (Option.some.inj h1).symm⟩
theorem some_inj : ∀ {ps qs : List Sq}, ps.map some = qs.map some → ps = qs
  | [], [], _ => rfl
  | [], _ :: _, h => by cases h
  | _ :: _, [], h => by cases h
  | p :: ps, q :: qs, h => by
    rw [List.map_cons, List.map_cons] at h
    injection h with h1 h2
    injection h1 with h1
    rw [h1, some_inj h2]
theorem dens_write {H : Hp} {l : Addr} {zs ws : List V} (hl : H l = some (.lst zs)) : ∀ {ts : List Th} {xs : List V}, (∀ t ∈ ts, ∃ p, t = ssT p) → Dens H ts xs → Dens (upd H l (.lst ws)) ts xs
  | [], _, _, h => h
  | t :: ts, xs, ht, ⟨y, ys, e, d1, d2⟩ => by
    obtain ⟨p, rfl⟩ := ht t (by simp)
    obtain ⟨c, a, b, rfl, hc, ha, hb⟩ := den_ss d1
    have k : ∀ {x o}, H x = some (.tup o) → upd H l (.lst ws) x = some (.tup o) := fun h => by rw [upd_ne (ne_of h hl (by intro z; cases z))]; exact h
    exact ⟨.ref c, ys, e, den2 (k hc) (den_p (k ha)) (den_p (k hb)), dens_write hl (fun t' h' => ht t' (by simp [h'])) d2⟩
noncomputable def spRuX (C : CA) : Sp := fun vs H Q E => ∃ (x z : V) (A S : Th), vs = [x, z] ∧ Den H A x ∧ Den H S z ∧ (∀ ts, seqOf S = some ts → ∀ t ∈ ts, ∀ s, st2 t = some s → Sm2 s.1 ∧ Sm2 s.2) ∧ (∀ n ps, GoodU A S n ps → ∀ p H', Same H H' → Den H' (ruT n ps) (.ref p) → Q (.ref p) H') ∧
  ((∀ n ps, ¬ GoodU A S n ps) → ∀ H', Same H H' → E (.ref C.NoRule) none H')
theorem sc_ruleof : FnScope ["n", "stretches", "kept", "ahead", "behind"] ["n", "stretches"] (defScope s_ruleof) := ⟨rfl, rfl, rfl, by decide +kernel, rfl, by decide +kernel, by decide +kernel⟩
theorem ok_ruleof {C : CA} {f : Addr} {fd : FuncData} (F : Fun K "rule_of" "rule_of" s_ruleof f fd) (T : Txt mg) (cf : CF K mg C) {fwhole : Addr} {dwhole : FuncData} (Gwhole : FnOk P w K mg base CX0 5 fwhole dwhole ["thing"] spWhole) (bwhole : Binds K dwhole ["thing"] []) (kwhole : PySem.W.keepIn K (.ref fwhole) = true) (mwhole : mg "is_whole" = some (.ref fwhole)) {frowof : Addr} {drowof : FuncData} (Growof : FnOk P w K mg base CX0 5 frowof drowof ["thing", "count"] spRowT) (browof : Binds K drowof ["thing", "count"] []) (krowof : PySem.W.keepIn K (.ref frowof) = true) (mrowof : mg "is_row_of" = some (.ref frowof)) {fstr : Addr} {dstr : FuncData} (Gstr : FnOk P w K mg base (CXX P w) 5 fstr dstr ["thing"] (spStrX C)) (bstr : Binds K dstr ["thing"] []) (kstr : PySem.W.keepIn K (.ref fstr) = true) (mstr : mg "stretch_of" = some (.ref fstr)) {fund : Addr} {dund : FuncData} (Gund : FnOk P w K mg base CX0 5 fund dund ["one", "other"] spUndI) (bund : Binds K dund ["one", "other"] []) (kund : PySem.W.keepIn K (.ref fund) = true) (mund : mg "under" = some (.ref fund)) : FnOk P w K mg base (CXX P w) 6 f fd ["n", "stretches"] (spRuX C) := by
  refine F.okX sc_ruleof (fun vs H Q E h => ?_) (fun cdv A outer s H vs Q E hr h => ?_)
  · obtain ⟨x, z, A', S', rfl, _⟩ := h
    rfl
  obtain ⟨x, z, A', S', rfl, dA, dS, hsm, q1, q2⟩ := h
  refine ⟨_, (pss_cons (ps_if (PW.pt (pw_or (pt_not (pt_val (pe_call Gwhole hr rfl mwhole kwhole bwhole .nil pass0 (pa_cons (pv 0) pa_nil)))) (pw_or (pt_cmpR op_lt (pv 0) pe_int (nomark _)) (pw_or1 (pt_cmpR op_gt (pv 0) pe_int (nomark _)))))) (pss_one (ps_raise reachOf rfl cf.xNoRule rfl (pa_cons pe_str pa_nil))) pss_nil)
    (pss_cons (ps_if (pt_not (pt_val (pe_call Growof hr rfl mrowof krowof browof .nil pass0 (pa_cons (pv 1) (pa_cons (pe_op op_add (pv 0) pe_int) pa_nil))))) (pss_one (ps_raise reachOf rfl cf.xNoRule rfl (pa_cons pe_str pa_nil))) pss_nil)
    (pss_cons (ps_set (i := 2) sc_ruleof.nd rfl (Or.inl rfl) (pe_callTy call_tuple_of rfl T.tuple boot_tuple (pa_cons (pe_compX (xs := ["stretch"]) (ts := []) dxOf (fun _ _ h => h) rfl ⟨rfl, sub0, rfl, rfl, rfl, by decide +kernel, rfl, rfl⟩ (pi_seq (pv 1)) (fun C s3 H3 fp => (pg_name (i := 0) (show (["stretch"] : List Str).Nodup by decide +kernel) rfl (Or.inl rfl) (Or.inr rfl))) (fun C s3 H3 fp => pif_nil) (fun C s3 H3 fp xe hx => (pe_call Gstr hr rfl mstr kstr bstr .nil hx (pa_cons (pv 0) pa_nil)))) pa_nil)))
    (pss_cons (ps_for PassesOwn.leaving rfl (pi_zipT rfl T.zip (pa_cons (pv 2) (pa_cons (pe_slice sl_tup (pv 2) (po_some pe_int) po_none) pa_nil))) (pg_tup rfl (pgs_cons (pg_name (i := 3) sc_ruleof.nd rfl (Or.inl rfl)) (pgs_cons (pg_name (i := 4) sc_ruleof.nd rfl (Or.inl rfl)) pgs_nil))) (pss_one (ps_if (PW.pt (pw_or (pt_val (pe_call Gund hr rfl mund kund bund .nil pass0 (pa_cons (pe_ix ix_tup (pv 4) pe_int (fun _ _ => rfl)) (pa_cons (pe_ix ix_tup (pv 3) pe_int (fun _ _ => rfl)) pa_nil)))) (pw_or1 (pt_val (pe_call Gund hr rfl mund kund bund .nil pass0 (pa_cons (pe_ix ix_tup (pv 4) pe_int (fun _ _ => rfl)) (pa_cons (pe_ix ix_tup (pv 3) pe_int (fun _ _ => rfl)) pa_nil))))))) (pss_one (ps_raise reachOf rfl cf.xNoRule rfl (pa_cons pe_str pa_nil))) pss_nil)))
    (pss_one (ps_ret (pe_tup (pa_cons (pv 0) (pa_cons (pv 2) pa_nil))))))))), ?_⟩
  have one : 1 ≤ sizeLine := by decide
  refine ⟨_, rfl, x, A', rfl, dA, _, rfl, ?_⟩
  cases hA : isW A' with
  | false => exact iteT (iteT ⟨one, q2 (fun n ps g => by rw [g.a] at hA; cases hA) _ (Same.refl H)⟩)
  | true =>
  obtain ⟨n, rfl⟩ := isW_shape hA
  cases (show x = V.int n from dA)
  have gn : ∀ {n' ps}, GoodU (.int n) S' n' ps → n' = n := fun g => by
    have e := g.a
    cases e
    rfl
  refine iteF ⟨_, rfl, _, _, rfl, rfl, _, rfl, ?_⟩
  refine ite2 (fun c => iteT ⟨one, q2 (fun n' ps g => ?_) _ (Same.refl H)⟩) (fun c1 => ?_)
  · cases gn g
    have := of_decide_eq_true c
    have := g.n1
    omega
  refine ⟨_, rfl, _, _, rfl, rfl, _, rfl, ?_⟩
  refine ite2 (fun c => ⟨one, q2 (fun n' ps g => ?_) _ (Same.refl H)⟩) (fun c2 => ?_)
  · cases gn g
    have := of_decide_eq_true c
    have := g.n12
    omega
  have k1 : ¬ n < 1 := ofD c1
  have k2 : ¬ (12 : Int) < n := ofD c2
  refine ⟨_, rfl, _, rfl, _, _, rfl, rfl, z, n + 1, S', rfl, dS, fun H1 s1 => ⟨_, rfl, ?_⟩⟩
  cases hR : rowB S' (n + 1) with
  | false =>
    refine iteT ⟨one, q2 (fun n' ps g => ?_) _ s1⟩
    cases gn g
    obtain ⟨ts, e1, e2⟩ := g.seq
    have l1 : ts.length = ps.length := by simpa using congrArg List.length e2
    have l2 := g.len
    unfold rowB at hR
    rw [e1] at hR
    exact absurd hR (by simp; omega)
  | true =>
  refine iteF ?_
  obtain ⟨ts, es, lt⟩ := row_seq hR
  have hsm := hsm ts es
  obtain ⟨a, xs, rfl, sq, dd⟩ := seq_den es dS
  have lx := dd.len
  have sq1 := sq.keep s1
  have dd1 := dd.keep s1
  refine ⟨_, rfl, a, xs, rfl, ?_⟩
  refine seq_comp sq1 (Nat.le_of_lt (lt40 (by omega))) (fun D i ws H2 => ∃ ps : List Sq, (ts.take i).map st2 = ps.map some ∧ (∀ p ∈ ps, und2 p.2 p.1 = false) ∧ Dens H2 (ps.map ssT) ws) (fun D hD => ⟨[], rfl, (fun p hp => absurd hp (by simp)), rfl⟩) ?_ ?_
  · rintro D i v ws H2 k hD hv sm e hl ⟨ps, m1, m2, m3⟩ hk
    have hi := (List.getElem?_eq_some_iff.mp hv).1
    have et := List.getElem?_eq_getElem (show i < ts.length by omega)
    obtain ⟨v', f1, f2⟩ := (dd1.keep sm).get et
    rw [hv] at f1
    cases f1
    refine ⟨_, rfl, v, _, rfl, f2, hsm _ (List.getElem_mem _), fun b hb hin p H3 s3 hp => hk _ _ s3 ⟨ps ++ [b], map_snoc m1 et hb, fun p' hp' => ?_, ?_⟩, fun hbad H3 s3 => q2 (fun n' ps' g => ?_) _ ((s1.trans sm).trans s3)⟩
    · rcases List.mem_append.mp hp' with y | y
      · exact m2 p' y
      · rw [List.mem_singleton.mp y]; exact hin
    · rw [List.map_append]
      exact dens_write (s3 _ _ e) (fun p' hp' => by
        rcases List.mem_append.mp hp' with y | y
        · obtain ⟨q, _, rfl⟩ := List.mem_map.mp y; exact ⟨q, rfl⟩
        · exact ⟨b, List.mem_singleton.mp y⟩) (dens_snoc (m3.keep s3) hp)
    · obtain ⟨ts', e1, e2⟩ := g.seq
      rw [es] at e1
      cases e1
      obtain ⟨p, y1, y2⟩ := map_at e2 et
      have := hbad p y2
      rw [g.inn p (List.mem_of_getElem? y1)] at this
      cases this
  rintro D ws H2 hD s2 hD2 hlw ⟨ps, m1, m2, m3⟩
  rw [List.take_of_length_le (by omega)] at m1
  have lp : ts.length = ps.length := by simpa using congrArg List.length m1
  have psm : ∀ p ∈ ps, Sm2 p.1 ∧ Sm2 p.2 := fun p hp => by
    obtain ⟨i, hi⟩ := List.mem_iff_getElem?.mp hp
    have hi' := (List.getElem?_eq_some_iff.mp hi).1
    have et := List.getElem?_eq_getElem (show i < ts.length by omega)
    obtain ⟨p', y1, y2⟩ := map_at m1 et
    rw [hi] at y1
    cases y1
    exact hsm _ (List.getElem_mem _) p y2
  refine ⟨D, ws, rfl, .inl ⟨SqL.of hD2, fun t ht => ?_⟩⟩
  have s3 := same_new ht (.tup ws)
  have r3 := m3.keep s3
  have t3 : (upd H2 t (.tup ws)) t = some (.tup ws) := upd_same
  have s13 := (s1.trans s2).trans s3
  generalize hH3 : upd H2 t (.tup ws) = H3 at *
  have hcut : ¬ (HT.sIx ws.length 0 (some 1) = 0 ∧ HT.sIx ws.length ws.length none = ws.length) := by
    rw [show (1 : Int) = ((1 : Nat) : Int) from rfl, HT.sIx_nat]
    omega
  refine ⟨_, rfl, _, rfl, _, rfl, t, ws, rfl, SqT.of t3, hcut, fun m hm => ?_⟩
  rw [cut_tail (by omega)]
  have s4 := same_new hm (.tup (ws.drop 1))
  refine ⟨t, m, rfl, ⟨_, SqT.of (s4 _ _ t3)⟩, ⟨_, SqT.of upd_same⟩, ?_⟩
  have m4 : (upd H3 m (.tup (ws.drop 1))) m = some (.tup (ws.drop 1)) := upd_same
  have r4 := r3.keep s4
  have t4 := s4 _ _ t3
  generalize hH4 : upd H3 m (.tup (ws.drop 1)) = H4 at *
  have pin : ∀ {n' ps'}, GoodU (.int n) S' n' ps' → ps' = ps := fun g => by
    obtain ⟨ts', e1, e2⟩ := g.seq
    rw [es] at e1
    cases e1
    exact some_inj (e2.symm.trans m1)
  refine for_zipT (n := ws.length - 1) (xs := ws) (ys := ws.drop 1) (fun i σ H' => Same H4 H' ∧ (∀ j, j < i → ∀ p q, ps[j]? = some p → ps[j + 1]? = some q → und2 q.1 p.1 = false ∧ und2 q.2 p.2 = false) ∧ ∃ v1 v2, σ = [some (.int n), some (.ref a), some (.ref t), v1, v2]) ⟨Same.refl H4, fun j hj => absurd hj (by omega), none, none, rfl⟩ (by omega) (by simp) (.inr (by simp)) ?_ ?_ ?_
  · rintro i σ H' hi ⟨sm, _⟩
    exact ⟨SqT.of (sm _ _ t4), SqT.of (sm _ _ m4)⟩
  · rintro i u v U σ H' hi hu hv hU ⟨sm, hj, v1, v2, rfl⟩
    have ep := List.getElem?_eq_getElem (show i < ps.length by omega)
    have ep2 := List.getElem?_eq_getElem (show i + 1 < ps.length by omega)
    obtain ⟨w1, f1, g1⟩ := (r4.keep sm).get (i := i) (t := ssT ps[i]) (by rw [List.getElem?_map, ep]; rfl)
    obtain ⟨w2, f2, g2⟩ := (r4.keep sm).get (i := i + 1) (t := ssT ps[i + 1]) (by rw [List.getElem?_map, ep2]; rfl)
    rw [hu] at f1
    cases f1
    rw [List.getElem?_drop, Nat.add_comm, f2] at hv
    cases hv
    obtain ⟨b, bl, bh, rfl, b2, b3, b4⟩ := den_ss g1
    obtain ⟨c, cl, ch, rfl, c2', c3, c4⟩ := den_ss g2
    have sU := same_new hU (.tup [.ref b, .ref c])
    have z1 := psm _ (List.mem_of_getElem? ep)
    have z2 := psm _ (List.mem_of_getElem? ep2)
    refine ⟨U, _, rfl, SqT.of upd_same, rfl, .ref b, [.ref c], rfl, .ref c, [], rfl, rfl, ?_⟩
    have b2 := sU _ _ b2
    have b3 := sU _ _ b3
    have b4 := sU _ _ b4
    have c2' := sU _ _ c2'
    have c3 := sU _ _ c3
    have c4 := sU _ _ c4
    refine ⟨_, rfl, c, _, 0, _, rfl, rfl, SqT.of c2', at0, _, rfl, b, _, 0, _, rfl, rfl, SqT.of b2, at0, cl, bl, _, _, rfl, c3, b3, z2.1, z1.1, _, rfl, ?_⟩
    cases u1 : und2 ps[i + 1].1 ps[i].1 with
    | true =>
      refine iteT (iteT ⟨one, q2 (fun n' ps' g => ?_) _ ((((s13.trans s4).trans sm)).trans sU)⟩)
      have y := g.ris
      rw [pin g] at y
      have y' := (y i _ _ ep ep2).1
      rw [u1] at y'
      cases y'
    | false =>
    refine iteF ⟨_, rfl, c, _, 1, _, rfl, rfl, SqT.of c2', at1, _, rfl, b, _, 1, _, rfl, rfl, SqT.of b2, at1, ch, bh, _, _, rfl, c4, b4, z2.2, z1.2, _, rfl, ?_⟩
    cases u2 : und2 ps[i + 1].2 ps[i].2 with
    | true =>
      refine iteT ⟨one, q2 (fun n' ps' g => ?_) _ ((((s13.trans s4).trans sm)).trans sU)⟩
      have y := g.ris
      rw [pin g] at y
      have y' := (y i _ _ ep ep2).2
      rw [u2] at y'
      cases y'
    | false =>
    refine iteF ⟨sm.trans sU, fun j hj' p q hp hq => ?_, _, _, rfl⟩
    by_cases ej : j < i
    · exact hj j ej p q hp hq
    · have : j = i := by omega
      subst this
      rw [ep] at hp
      rw [ep2] at hq
      cases hp
      cases hq
      exact ⟨u1, u2⟩
  · rintro σ H' ⟨sm, hj, v1, v2, rfl⟩
    refine ⟨_, rfl, _, rfl, (by show 2 ≤ sizeLine; decide), fun x hx => ?_⟩
    have s5 := same_new hx (.tup [V.int n, V.ref t])
    have gd : GoodU (.int n) S' n ps := ⟨rfl, ⟨ts, es, m1⟩, by omega, by omega, by omega, m2, fun i p q hp hq => hj i (by have := (List.getElem?_eq_some_iff.mp hq).1; omega) p q hp hq⟩
    exact q1 n ps gd x _ (((s13.trans s4).trans sm).trans s5) ⟨x, _, rfl, upd_same, _, _, rfl, rfl, _, _, rfl, ⟨t, ws, rfl, s5 _ _ (sm _ _ t4), (r4.keep sm).keep s5⟩, rfl⟩
theorem seq_by {t u : TS} {D : Ends} {σ : St} {H : Hp} (P : St → Hp → Prop) (h1 : ∀ N : St → Hp → Prop, (∀ σ H, P σ H → N σ H) → t { D with nx := N } σ H) (h2 : ∀ σ H, P σ H → u D σ H) : tSeq t u D σ H := h1 _ h2
noncomputable def spAtU (K : PySem.W.Frag) : Sp := fun vs H Q _ => ∃ (a : Addr) (ns : List Int) (k : Int), vs = [.ref a, .int k] ∧ SqL K H a (ns.map V.int) ∧ ns.length ≤ 63 ∧ 0 ≤ k ∧ k ≤ 400 ∧ ∀ r : Int, Q (.int r) H
theorem sc_atU : FnScope ["_law_script", "_law_k"] ["_law_script", "_law_k"] (defScope s_atU) := ⟨rfl, rfl, rfl, by decide +kernel, rfl, by decide +kernel, by decide +kernel⟩
theorem ok_atU {f : Addr} {fd : FuncData} (F : Fun K "_law_at" "_law_at" s_atU f fd) (T : Txt mg) : FnOk P w K mg base CX0 1 f fd ["_law_script", "_law_k"] (spAtU K) := by
  refine F.ok sc_atU (fun vs H Q E h => ?_) (fun cdv A outer s H vs Q E hr h => ?_)
  · obtain ⟨a, ns, k, rfl, _⟩ := h
    rfl
  obtain ⟨a, ns, k, rfl, hS, h63, h0, h4, q⟩ := h
  refine ⟨_, (pss_cons (ps_if (pt_cmpR op_lt (pv 1) (pe_callB call_len_seq rfl T.len boot_len (pa_cons (pv 0) pa_nil)) (nomark _)) (pss_one (ps_ret (pe_ix ix_list (pv 0) (pv 1) (fun _ _ => rfl)))) pss_nil)
    (pss_cons (ps_if (pt_cmpR op_eq (pe_callB call_len_seq rfl T.len boot_len (pa_cons (pv 0) pa_nil)) pe_int (nomark _)) (pss_one (ps_ret (pe_op op_add (pe_op op_mul (pe_op op_mul (pv 1) (pv 1)) pe_int) pe_int))) pss_nil)
    (pss_one (ps_ret (pe_op op_add (pe_op op_mul (pe_ix ix_list (pv 0) (pe_op op_mod (pv 1) (pe_callB call_len_seq rfl T.len boot_len (pa_cons (pv 0) pa_nil))) (fun _ _ => rfl)) (pe_op op_add (pv 1) pe_int)) (pe_op op_mul (pe_op op_mul (pv 1) (pv 1)) pe_int)))))), ?_⟩
  have hl : (ns.map V.int).length = ns.length := List.length_map _
  have kk : k * k ≤ 160000 := Int.le_trans (Int.mul_le_mul h4 h4 h0 (by decide)) (by decide)
  have kk0 : 0 ≤ k * k := Int.mul_nonneg h0 h0
  refine ⟨_, rfl, _, rfl, a, _, rfl, .inl hS, _, _, rfl, rfl, _, rfl, ?_⟩
  refine ite2 (fun c => ?_) (fun c => ?_)
  · have c' : k < (((ns.map V.int).length : Nat) : Int) := of_decide_eq_true c
    rw [hl] at c'
    exact ⟨_, rfl, _, rfl, a, _, k, _, rfl, rfl, hS, at_getD h0 c', q _⟩
  refine ⟨_, rfl, a, _, rfl, .inl hS, rfl, _, rfl, ?_⟩
  refine ite2 (fun c1 => ?_) (fun c1 => ?_)
  · exact ⟨_, rfl, _, rfl, _, _, rfl, rfl, .inl ⟨by omega, by omega⟩, _, _, rfl, rfl, .inr ⟨by decide, by decide⟩, _, _, rfl, rfl, q _⟩
  · have l0 : (0 : Int) < ((ns.map V.int).length : Nat) := by
      have : ¬ (((ns.map V.int).length : Nat) : Int) = 0 := by
        intro z
        rw [z] at c1
        exact absurd c1 (by simp)
      omega
    refine ⟨_, rfl, _, rfl, _, rfl, a, _, rfl, .inl hS, _, _, rfl, rfl, l0, a, _, _, _, rfl, rfl, hS, at_getD (md0 _ l0) (by rw [← hl]; exact md1 _ l0), _, rfl, _, _, rfl, rfl, _, _, rfl, rfl, .inr ⟨by omega, by omega⟩, _, rfl, _, rfl, _, _, rfl, rfl, .inl ⟨by omega, by omega⟩, _, _, rfl, rfl, .inr ⟨by decide, by decide⟩, _, _, rfl, rfl, q _⟩
noncomputable def spRwX (C : CA) : Sp := fun vs H Q E => ∃ x : Str, vs = [.str x] ∧ Asc x ∧ x.length ≤ 100000 ∧ (∀ n, wholeT x = some n → ∀ H', Same H H' → Q (.int n) H') ∧ (wholeT x = none → ∀ H', Same H H' → E (.ref C.NoText) none H')
theorem sc_rw : FnScope ["text", "below", "figures"] ["text"] (defScope s_rw) := ⟨rfl, rfl, rfl, by decide +kernel, rfl, by decide +kernel, by decide +kernel⟩
theorem ok_rw {C : CA} {f : Addr} {fd : FuncData} (F : Fun K "read_whole" "read_whole" s_rw f fd) (T : Txt mg) (cf : CF K mg C) : FnOk P w K mg base (CXX P w) 1 f fd ["text"] (spRwX C) := by
  refine F.okX sc_rw (fun vs H Q E h => ?_) (fun cdv A outer s H vs Q E hr h => ?_)
  · obtain ⟨i, rfl, _⟩ := h
    rfl
  obtain ⟨x, rfl, ax, lx, q1, q2⟩ := h
  refine ⟨_, (pss_cons (ps_set (i := 1) sc_rw.nd rfl (Or.inl rfl) (pe_starts (pv 0) pe_str))
    (pss_cons (ps_set (i := 2) sc_rw.nd rfl (Or.inl rfl) (pe_ifExp (pt_val (pv 1)) (pe_slice sl_str (pv 0) (po_some pe_int) po_none) (pv 0)))
    (pss_cons (ps_if (PW.pt (pw_or (pt_cmpR op_lt (pe_callB call_len_str rfl T.len boot_len (pa_cons (pv 2) pa_nil)) pe_int (nomark _)) (pw_or (pt_cmpR op_gt (pe_callB call_len_str rfl T.len boot_len (pa_cons (pv 2) pa_nil)) pe_int (nomark _)) (pw_or1 (pt_not (pt_val (pe_callB (call_all rfl) rfl T.all boot_all (pa_cons (pe_comp (ts := []) rfl ⟨rfl, sub0, rfl, rfl, rfl, rfl, by decide +kernel, rfl, rfl⟩ (pi_str (pv 2)) (fun C s3 H3 fp => (pe_cmpR op_inS (pv 0) (pe_globS rfl T.FIGURES) (by with_unfolding_all rfl)))) pa_nil)))))))) (pss_one (ps_raise reachOf rfl cf.xNoText rfl (pa_cons pe_str pa_nil))) pss_nil)
    (pss_cons (ps_if (PW.pt (pw_and (pt_val (pe_starts (pv 2) pe_str)) (pw_and1 (PW.pt (pw_or (pt_val (pv 1)) (pw_or1 (pt_cmpR op_gt (pe_callB call_len_str rfl T.len boot_len (pa_cons (pv 2) pa_nil)) pe_int (nomark _)))))))) (pss_one (ps_raise reachOf rfl cf.xNoText rfl (pa_cons pe_str pa_nil))) pss_nil)
    (pss_one (ps_ret (pe_callTy call_intS rfl T.int boot_int (pa_cons (pv 0) pa_nil)))))))), ?_⟩
  refine ⟨_, rfl, _, rfl, _, rfl, ?_⟩
  dsimp only
  refine seq_by (fun σ H' => H' = H ∧ σ = [some (.str x), some (.bl (Txt.startswith x "-")), some (.str (figs x))]) ?_ ?_
  · intro M hM
    refine ⟨_, rfl, _, rfl, ?_⟩
    unfold figs at hM
    cases hb : Txt.startswith x "-" with
    | true =>
      rw [hb, if_pos rfl] at hM
      refine iteT ⟨_, rfl, 1, rfl, _, rfl, le200 (by omega), hM _ _ ⟨rfl, ?_⟩⟩
      rw [← hb]; rfl
    | false =>
      rw [hb, if_neg Bool.false_ne_true] at hM
      refine iteF ⟨_, rfl, hM _ _ ⟨rfl, ?_⟩⟩
      rw [← hb]; rfl
  rintro σ H' ⟨rfl, rfl⟩
  have fl := figs_le x
  have fa := figs_asc ax
  have one : 1 ≤ sizeLine := by decide
  have bad : okFig x = false → ∀ H2, Same H' H2 → E (.ref C.NoText) none H2 := fun h => q2 (by unfold wholeT; rw [if_neg (fun z => by rw [h] at z; cases z.1)])
  refine ⟨_, rfl, _, rfl, le200 (by omega), _, _, rfl, rfl, _, rfl, ?_⟩
  refine ite2 (fun c => ⟨one, bad ?_ _ (Same.refl _)⟩) (fun c => ?_)
  · have c' : ((figs x).length : Int) < 1 := of_decide_eq_true c
    unfold okFig
    rw [decide_eq_false (by omega), Bool.false_and]
  have c1 : ¬ ((figs x).length : Int) < 1 := ofD c
  refine ⟨_, rfl, _, rfl, le200 (by omega), _, _, rfl, rfl, _, rfl, ?_⟩
  refine ite2 (fun c => ⟨one, bad ?_ _ (Same.refl _)⟩) (fun c => ?_)
  · have c' : (60 : Int) < ((figs x).length : Int) := of_decide_eq_true c
    unfold okFig
    rw [decide_eq_false (show ¬ (figs x).length ≤ 60 by omega), Bool.false_and, Bool.and_false]
  have c2 : ¬ (60 : Int) < ((figs x).length : Int) := ofD c
  refine ⟨_, rfl, figs x, rfl, fa, fun D hD => comp_strB isFig hD (le200 (by have : (figs x).cps.size = (figs x).length := rfl; omega)) (fun j c H2 k hc s2 hk => ⟨_, rfl, _, _, rfl, rfl, hk _ (Same.refl _)⟩) fun H2 s2 hD2 => ?_⟩
  refine ⟨D, _, rfl, SqL.of hD2, _, rfl, ?_⟩
  have ea : ((figs x).cps.toList.map isFig).all id = (figs x).cps.toList.all isFig := by rw [List.all_map]; rfl
  rw [ea]
  have eo : okFig x = (figs x).cps.toList.all isFig := by
    unfold okFig
    rw [decide_eq_true (show 1 ≤ (figs x).length by omega), decide_eq_true (show (figs x).length ≤ 60 by omega), Bool.true_and, Bool.true_and]
  cases ho : (figs x).cps.toList.all isFig with
  | false =>
    rw [ho] at eo
    exact iteT ⟨one, bad eo _ s2⟩
  | true =>
    rw [ho] at eo
    refine iteF ?_
    obtain ⟨l61, n, hn⟩ := whole_int eo
    have good : nought x = false → Q (.int n) H2 := fun h => q1 n (by unfold wholeT; rw [if_pos ⟨eo, h⟩]; exact hn) _ s2
    have bad2 : nought x = true → E (.ref C.NoText) none H2 := fun h => q2 (by unfold wholeT; rw [if_neg (fun z => by rw [h] at z; cases z.2)]) _ s2
    refine ⟨_, rfl, _, rfl, _, rfl, _, rfl, ?_⟩
    have fin : nought x = false → ∃ v, [some (V.str x), some (V.bl (Txt.startswith x "-")), some (V.str (figs x))][0]? = some (some v) ∧ ∃ a n, [v] = [V.str a] ∧ intText? a = some n ∧ a.length ≤ 640 ∧ Q (V.int n) H2 := fun h => ⟨_, rfl, _, n, rfl, hn, by omega, good h⟩
    unfold nought at fin bad2
    cases hs : Txt.startswith (figs x) "0" with
    | false =>
      rw [hs, Bool.false_and] at fin
      exact iteF (fin rfl)
    | true =>
      rw [hs, Bool.true_and] at fin bad2
      refine iteT ⟨_, rfl, _, rfl, ?_⟩
      cases hb : Txt.startswith x "-" with
      | true =>
        rw [hb, Bool.true_or] at bad2
        exact iteT (iteT ⟨one, bad2 rfl⟩)
      | false =>
        rw [hb, Bool.false_or] at fin bad2
        refine iteF ⟨_, rfl, _, rfl, le200 (by omega), _, _, rfl, rfl, _, rfl, ?_⟩
        refine ite2 (fun c => ⟨one, bad2 ?_⟩) (fun c => fin ?_)
        · have c' : (1 : Int) < ((figs x).length : Int) := of_decide_eq_true c
          exact decide_eq_true (by omega)
        · have c' : ¬ (1 : Int) < ((figs x).length : Int) := ofD c
          exact decide_eq_false (by omega)
noncomputable def spRfX (C : CA) : Sp := fun vs H Q E => ∃ x : Str, vs = [.str x] ∧ Asc x ∧ x.length ≤ 100000 ∧ (∀ p, fracT x = some p → ∀ a H', Same H H' → H' a = some (.tup [.int p.1, .int p.2]) → Q (.ref a) H') ∧ (fracT x = none → ∀ H', Same H H' → E (.ref C.NoText) none H')
theorem sc_rf : FnScope ["text", "parts", "top", "bottom"] ["text"] (defScope s_rf) := ⟨rfl, rfl, rfl, by decide +kernel, rfl, by decide +kernel, by decide +kernel⟩
theorem ok_rf {C : CA} {f : Addr} {fd : FuncData} (F : Fun K "read_fraction" "read_fraction" s_rf f fd) (T : Txt mg) (cf : CF K mg C) {frw : Addr} {drw : FuncData} (Grw : FnOk P w K mg base (CXX P w) 1 frw drw ["text"] (spRwX C)) (brw : Binds K drw ["text"] []) (krw : PySem.W.keepIn K (.ref frw) = true) (mrw : mg "read_whole" = some (.ref frw)) {fcd : Addr} {dcd : FuncData} (Gcd : FnOk P w K mg base CX0 1 fcd dcd ["one", "other"] spCd) (bcd : Binds K dcd ["one", "other"] []) (kcd : PySem.W.keepIn K (.ref fcd) = true) (mcd : mg "common_divisor" = some (.ref fcd)) : FnOk P w K mg base (CXX P w) 2 f fd ["text"] (spRfX C) := by
  refine F.okX sc_rf (fun vs H Q E h => ?_) (fun cdv A outer s H vs Q E hr h => ?_)
  · obtain ⟨i, rfl, _⟩ := h
    rfl
  obtain ⟨x, rfl, ax, lx, q1, q2⟩ := h
  have one : 1 ≤ sizeLine := by decide
  obtain ⟨a, m, b, ep, aa, am, ab, la, lb⟩ := parts_three x "/" ax (show (Str.ofString "/").cps.all (· < 128) = true by decide +kernel)
  have ef : fracT x = (wholeT a).bind fun t => if m = Str.empty then some (t, 1) else (wholeT b).bind fun d => if d < 2 ∨ Int.gcd t d ≠ 1 then none else some (t, d) := by
    unfold fracT
    rw [ep]
  rw [ef] at q1 q2
  refine ⟨_, (pss_cons (ps_set (i := 1) sc_rf.nd rfl (Or.inl rfl) (pe_partition (pv 0) pe_str))
    (pss_cons (ps_set (i := 2) sc_rf.nd rfl (Or.inl rfl) (pe_call Grw hr rfl mrw krw brw .nil passOf (pa_cons (pe_ix ix_tup (pv 1) pe_int (fun _ _ => rfl)) pa_nil)))
    (pss_cons (ps_if (pt_cmpR op_eq (pe_ix ix_tup (pv 1) pe_int (fun _ _ => rfl)) pe_str (nomark _)) (pss_one (ps_ret (pe_tup (pa_cons (pv 2) (pa_cons pe_int pa_nil))))) pss_nil)
    (pss_cons (ps_set (i := 3) sc_rf.nd rfl (Or.inl rfl) (pe_call Grw hr rfl mrw krw brw .nil passOf (pa_cons (pe_ix ix_tup (pv 1) pe_int (fun _ _ => rfl)) pa_nil)))
    (pss_cons (ps_if (PW.pt (pw_or (pt_cmpR op_lt (pv 3) pe_int (nomark _)) (pw_or1 (pt_cmpR op_ne (pe_call Gcd hr rfl mcd kcd bcd .nil pass0 (pa_cons (pe_callB call_abs rfl T.abs boot_abs (pa_cons (pv 2) pa_nil)) (pa_cons (pv 3) pa_nil))) pe_int (nomark _))))) (pss_one (ps_raise reachOf rfl cf.xNoText rfl (pa_cons pe_str pa_nil))) pss_nil)
    (pss_one (ps_ret (pe_tup (pa_cons (pv 2) (pa_cons (pv 3) pa_nil)))))))))), ?_⟩
  refine ⟨_, rfl, _, rfl, _, rfl, by decide +kernel, le200 (by omega), fun t ht => ?_⟩
  rw [ep]
  have s1 := same_new ht (.tup ([a, m, b].map V.str))
  have xt : upd H t (.tup ([a, m, b].map V.str)) t = some (.tup [.str a, .str m, .str b]) := upd_same
  generalize upd H t (.tup ([a, m, b].map V.str)) = H1 at *
  refine ⟨_, rfl, t, _, 0, _, rfl, rfl, SqT.of xt, at0, a, rfl, aa, by omega, fun n hn H2 s2 => ?_, fun hn H2 s2 => q2 (by rw [hn]; rfl) _ (s1.trans s2)⟩
  rw [hn] at q1 q2
  have q1' : ∀ p, (if m = Str.empty then some (n, (1 : Int)) else (wholeT b).bind fun d => if d < 2 ∨ Int.gcd n d ≠ 1 then none else some (n, d)) = some p → ∀ a H', Same H H' → H' a = some (.tup [.int p.1, .int p.2]) → Q (.ref a) H' := q1
  have q2' : (if m = Str.empty then some (n, (1 : Int)) else (wholeT b).bind fun d => if d < 2 ∨ Int.gcd n d ≠ 1 then none else some (n, d)) = none → ∀ H', Same H H' → E (.ref C.NoText) none H' := q2
  have x2 := s2 _ _ xt
  have s12 := s1.trans s2
  refine ⟨_, rfl, t, _, 1, _, rfl, rfl, SqT.of x2, at1, rfl, _, rfl, ?_⟩
  have e0 : Str.ofString "" = Str.empty := by decide +kernel
  by_cases hm : m = Str.empty
  · rw [if_pos hm] at q1'
    refine iteT2 (by rw [dec_str, hm, e0]; simp) ?_
    exact ⟨_, rfl, (by show 2 ≤ sizeLine; decide), fun g hg => q1' _ rfl g _ (s12.trans (same_new hg _)) upd_same⟩
  · rw [if_neg hm] at q1' q2'
    refine iteF' (by rw [dec_str, e0]; simpa using hm) ?_
    refine ⟨_, rfl, t, _, 2, _, rfl, rfl, SqT.of x2, atI_nat (j := 2) rfl, b, rfl, ab, by omega, fun d hd H3 s3 => ?_, fun hd H3 s3 => q2' (by rw [hd]; rfl) _ (s12.trans s3)⟩
    rw [hd] at q1' q2'
    have s13 := s12.trans s3
    refine ⟨_, rfl, _, _, rfl, rfl, _, rfl, ?_⟩
    refine ite2 (fun c => ⟨one, q2' (if_pos (.inl (of_decide_eq_true c))) _ s13⟩) (fun c => ?_)
    have c' : ¬ d < 2 := ofD c
    have gg : Int.gcd (if n < 0 then -n else n) d = Int.gcd n d := by
      have := gabs n d
      rw [if_neg (show ¬ d < 0 by omega)] at this
      exact this
    refine ⟨_, rfl, _, rfl, _, rfl, _, _, rfl, by split <;> omega, by omega, rfl, _, rfl, ?_⟩
    rw [gg]
    by_cases hg : Int.gcd n d = 1
    · refine iteF' (by rw [hg]; decide) ?_
      exact ⟨_, rfl, _, rfl, (by show 2 ≤ sizeLine; decide), fun g hg' => q1' (n, d) (if_neg (fun z => z.elim c' (fun y => y hg))) g _ (s13.trans (same_new hg' _)) upd_same⟩
    · refine iteT2 ?_ ⟨one, q2' (if_pos (.inr hg)) _ s13⟩
      have : ¬ ((Int.gcd n d : Nat) : Int) = 1 := by omega
      simpa using this
noncomputable def eOf (frw frf : Addr) (b : Bool) : Addr := if b = true then frf else frw
noncomputable def dOf (drw drf : FuncData) (b : Bool) : FuncData := if b = true then drf else drw
noncomputable def spEnd (C : CA) (b : Bool) : Sp := fun vs H Q E => ∃ x : Str, vs = [.str x] ∧ Asc x ∧ x.length ≤ 100000 ∧ (∀ t, endT b x = some t → ∀ v H', Same H H' → Den H' t v → Q v H') ∧ (endT b x = none → ∀ H', Same H H' → E (.ref C.NoText) none H')
theorem end_ok {C : CA} {k : Nat} {frw frf : Addr} {drw drf : FuncData} (Grw : FnOk P w K mg base (CXX P w) k frw drw ["text"] (spRwX C)) (Grf : FnOk P w K mg base (CXX P w) k frf drf ["text"] (spRfX C)) : ∀ b : Bool, FnOk P w K mg base (CXX P w) k (eOf frw frf b) (dOf drw drf b) ["text"] (spEnd C b)
  | false => Grw.imp fun vs H Q E ⟨x, e, ax, lx, q1, q2⟩ => ⟨x, e, ax, lx, fun n hn H' s' => q1 (.int n) (by unfold endT; rw [hn]; rfl) _ H' s' rfl, fun hn => q2 (by unfold endT; rw [hn]; rfl)⟩
  | true => Grf.imp fun vs H Q E ⟨x, e, ax, lx, q1, q2⟩ => ⟨x, e, ax, lx, fun p hp a H' s' ha => q1 (.tup [.int p.1, .int p.2]) (by unfold endT; rw [hp]; rfl) _ H' s' (den_p ha), fun hn => q2 (by unfold endT; rw [hn]; rfl)⟩
noncomputable def spRpX (C : CA) (frw frf : Addr) : Sp := fun vs H Q E => ∃ (x : Str) (b : Bool), vs = [.str x, .ref (eOf frw frf b)] ∧ Asc x ∧ x.length ≤ 50000 ∧ (∀ t, pairOf b x = some t → ∀ p H', Same H H' → Den H' (.tup [t.1, t.2]) (.ref p) → Q (.ref p) H') ∧ (pairOf b x = none → ∀ H', Same H H' → E (.ref C.NoText) none H')
theorem sc_rp : FnScope ["text", "read_end", "written"] ["text", "read_end"] (defScope s_rp) := ⟨rfl, rfl, rfl, by decide +kernel, rfl, by decide +kernel, by decide +kernel⟩
theorem ok_rp {C : CA} {f : Addr} {fd : FuncData} (F : Fun K "read_pair" "read_pair" s_rp f fd) (T : Txt mg) (cf : CF K mg C) {frw : Addr} {drw : FuncData} (Grw : FnOk P w K mg base (CXX P w) 2 frw drw ["text"] (spRwX C)) (brw : Binds K drw ["text"] []) (krw : PySem.W.keepIn K (.ref frw) = true) (mrw : mg "read_whole" = some (.ref frw)) {frf : Addr} {drf : FuncData} (Grf : FnOk P w K mg base (CXX P w) 2 frf drf ["text"] (spRfX C)) (brf : Binds K drf ["text"] []) (krf : PySem.W.keepIn K (.ref frf) = true) (mrf : mg "read_fraction" = some (.ref frf)) : FnOk P w K mg base (CXX P w) 3 f fd ["text", "read_end"] (spRpX C frw frf) := by
  have GP := end_ok Grw Grf
  have kP : ∀ b, PySem.W.keepIn K (.ref (eOf frw frf b)) = true := fun b => by cases b; exact krw; exact krf
  have bP : ∀ b, Binds K (dOf drw drf b) ["text"] [] := fun b => by cases b; exact brw; exact brf
  refine F.okX sc_rp (fun vs H Q E h => ?_) (fun cdv A outer s H vs Q E hr h => ?_)
  · obtain ⟨i, b, rfl, _⟩ := h
    rfl
  obtain ⟨x, b, rfl, ax, lx, q1, q2⟩ := h
  have one : 1 ≤ sizeLine := by decide
  have mem := split_mem (y := " ") ax
  have cnt := split_count x " "
  unfold pairOf at q1 q2
  refine ⟨_, (pss_cons (ps_set (i := 2) sc_rp.nd rfl (Or.inl rfl) (pe_split (pv 0) pe_str))
    (pss_cons (ps_if (pt_cmpR op_ne (pe_callB call_len_seq rfl T.len boot_len (pa_cons (pv 2) pa_nil)) pe_int (nomark _)) (pss_one (ps_raise reachOf rfl cf.xNoText rfl (pa_cons pe_str pa_nil))) pss_nil)
    (pss_one (ps_ret (pe_tup (pa_cons (pe_callP GP hr kP bP passOf (pv 1) (pa_cons (pe_ix ix_list (pv 2) pe_int (fun _ _ => rfl)) pa_nil)) (pa_cons (pe_callP GP hr kP bP passOf (pv 1) (pa_cons (pe_ix ix_list (pv 2) pe_int (fun _ _ => rfl)) pa_nil)) pa_nil))))))), ?_⟩
  refine ⟨_, rfl, _, rfl, _, rfl, by decide +kernel, le200 (by omega), le200 (by omega), fun l hl => ?_⟩
  have sl := same_new hl (.lst ((Txt.split x " ").map V.str))
  have xl : upd H l (.lst ((Txt.split x " ").map V.str)) l = some (.lst ((Txt.split x " ").map V.str)) := upd_same
  generalize upd H l (.lst ((Txt.split x " ").map V.str)) = H1 at *
  generalize Txt.split x " " = zs at *
  refine ⟨_, rfl, l, _, rfl, .inl (SqL.of xl), rfl, _, rfl, ?_⟩
  by_cases h2 : zs.length = 2
  · match zs, h2, mem, xl, q1, q2 with
    | [u, v], _, mem, xl, q1, q2 =>
      refine iteF' (by simp) ?_
      obtain ⟨au, lu⟩ := mem u (by simp)
      obtain ⟨av, lv⟩ := mem v (by simp)
      refine ⟨b, rfl, _, rfl, l, _, 0, _, rfl, rfl, SqL.of xl, at0, u, rfl, au, by omega, fun t1 h1 v1 H2 s2 d1 => ?_, fun h1 H2 s2 => q2 (by show (endT b u).bind _ = none; rw [h1]; rfl) _ (sl.trans s2)⟩
      refine ⟨b, rfl, _, rfl, l, _, 1, _, rfl, rfl, SqL.of (s2 _ _ xl), at1, v, rfl, av, by omega, fun t2 h3 v2 H3 s3 d2 => ?_, fun h3 H3 s3 => q2 (by show (endT b u).bind _ = none; rw [h1]; show (endT b v).bind _ = none; rw [h3]; rfl) _ (sl.trans (s2.trans s3))⟩
      refine ⟨(by show 2 ≤ sizeLine; decide), fun p hp => ?_⟩
      have s4 := same_new hp (.tup [v1, v2])
      exact q1 (t1, t2) (by show (endT b u).bind _ = _; rw [h1]; show (endT b v).bind _ = _; rw [h3]; rfl) p _ (sl.trans (s2.trans (s3.trans s4))) (den2 upd_same (d1.keep (s3.trans s4)) (d2.keep s4))
  · refine iteT2 ?_ ⟨one, q2 ?_ _ sl⟩
    · rw [dec_int, List.length_map]
      simp
      omega
    · match zs, h2 with
      | [], _ => rfl
      | [_], _ => rfl
      | [_, _], h2 => exact absurd rfl h2
      | _ :: _ :: _ :: _, _ => rfl
noncomputable def flat : Nat → Th → Prop
  | _, .int _ => True
  | _, .str _ => True
  | d + 1, .tup ts => ∀ t ∈ ts, flat d t
  | _, _ => False
theorem dens_map {H H' : Hp} : ∀ {ts : List Th} {xs : List V}, (∀ t ∈ ts, ∀ v, Den H t v → Den H' t v) → Dens H ts xs → Dens H' ts xs
  | [], _, _, h => h
  | t :: ts, xs, hk, ⟨y, ys, e, d1, d2⟩ => ⟨y, ys, e, hk t (List.mem_cons_self ..) _ d1, dens_map (fun u hu => hk u (List.mem_cons_of_mem _ hu)) d2⟩
theorem den_upd {H : Hp} {D : Addr} {zs ws : List V} (hD : H D = some (.lst zs)) : ∀ (d : Nat) (t : Th) (v : V), flat d t → Den H t v → Den (upd H D (.lst ws)) t v := by
  intro d
  induction d with
  | zero =>
    intro t v f h
    cases t with
    | int i => exact h
    | str i => exact h
    | _ => exact f.elim
  | succ d ih =>
    intro t v f h
    cases t with
    | int i => exact h
    | str i => exact h
    | tup ts =>
      obtain ⟨a, xs, rfl, ha, dd⟩ := h
      exact ⟨a, xs, rfl, by rw [upd_ne (ne_of ha hD (by intro z; cases z))]; exact ha, dens_map (fun t ht v => ih t v (f t ht)) dd⟩
    | _ => exact f.elim
theorem dens_upd {H : Hp} {D : Addr} {zs ws : List V} (hD : H D = some (.lst zs)) {d : Nat} {ts : List Th} {xs : List V} (f : ∀ t ∈ ts, flat d t) (h : Dens H ts xs) : Dens (upd H D (.lst ws)) ts xs := dens_map (fun t ht v => den_upd hD d t v (f t ht)) h
noncomputable def pT (t : Th × Th) : Th := .tup [t.1, t.2]
theorem end_flat {b : Bool} {x : Str} {t : Th} (h : endT b x = some t) : flat 1 t := by
  unfold endT at h
  cases b with
  | false =>
    rw [if_neg Bool.false_ne_true] at h
    cases e : wholeT x with
    | none => rw [e] at h; cases h
    | some n => rw [e] at h; cases h; trivial
  | true =>
    rw [if_pos rfl] at h
    cases e : fracT x with
    | none => rw [e] at h; cases h
    | some p =>
      rw [e] at h
      cases h
      intro u hu
      rcases List.mem_cons.mp hu with rfl | hu
      · trivial
      · cases List.mem_singleton.mp hu; trivial
theorem pair_flat {b : Bool} {x : Str} {t : Th × Th} (h : pairOf b x = some t) : flat 2 (pT t) := by
  unfold pairOf at h
  split at h
  · rename_i u v _
    cases e1 : endT b u with
    | none => rw [e1] at h; cases h
    | some t1 =>
      rw [e1] at h
      cases e2 : endT b v with
      | none => rw [e2] at h; cases h
      | some t2 =>
        rw [e2] at h
        cases h
        intro w hw
        rcases List.mem_cons.mp hw with rfl | hw
        · exact end_flat e1
        · cases List.mem_singleton.mp hw; exact end_flat e2
  · cases h
theorem isStr_kit {K : PySem.W.Frag} (t : Th) : PySem.W.kitOne K (tyTh t) (.type "str") = some (match t with | .str _ => true | _ => false) := by cases t <;> rfl
noncomputable def spRpsX (C : CA) (frw frf : Addr) : Sp := fun vs H Q E => ∃ (v : V) (t : Th) (b : Bool), vs = [v, .ref (eOf frw frf b)] ∧ Den H t v ∧ (∀ x, t = .str x → Asc x ∧ x.length ≤ 40000) ∧ (∀ n ps, readOf b t = some (n, ps) → ∀ p l zs H', Same H H' → H' p = some (.tup [.int n, .ref l]) → H' l = some (.lst zs) → Dens H' (ps.map pT) zs → Q (.ref p) H') ∧ (readOf b t = none → ∀ H', Same H H' → E (.ref C.NoText) none H')
theorem sc_rps : FnScope ["text", "read_end", "parts"] ["text", "read_end"] (defScope s_rps) := ⟨rfl, rfl, rfl, by decide +kernel, rfl, by decide +kernel, by decide +kernel⟩
theorem ok_rps {C : CA} {f : Addr} {fd : FuncData} (F : Fun K "read_pairs" "read_pairs" s_rps f fd) (T : Txt mg) (cf : CF K mg C) {frw : Addr} {drw : FuncData} (Grw : FnOk P w K mg base (CXX P w) 3 frw drw ["text"] (spRwX C)) (brw : Binds K drw ["text"] []) (krw : PySem.W.keepIn K (.ref frw) = true) (mrw : mg "read_whole" = some (.ref frw)) {frf : Addr} {drf : FuncData} (Grf : FnOk P w K mg base (CXX P w) 3 frf drf ["text"] (spRfX C)) (brf : Binds K drf ["text"] []) (krf : PySem.W.keepIn K (.ref frf) = true) (mrf : mg "read_fraction" = some (.ref frf)) {frp : Addr} {drp : FuncData} (Grp : FnOk P w K mg base (CXX P w) 3 frp drp ["text", "read_end"] (spRpX C frw frf)) (brp : Binds K drp ["text", "read_end"] []) (krp : PySem.W.keepIn K (.ref frp) = true) (mrp : mg "read_pair" = some (.ref frp)) : FnOk P w K mg base (CXX P w) 4 f fd ["text", "read_end"] (spRpsX C frw frf) := by
  refine F.okX sc_rps (fun vs H Q E h => ?_) (fun cdv A outer s H vs Q E hr h => ?_)
  · obtain ⟨i, t, b, rfl, _⟩ := h
    rfl
  obtain ⟨v, t, b, rfl, dv, hx, q1, q2⟩ := h
  have one : 1 ≤ sizeLine := by decide
  refine ⟨_, (pss_cons (ps_if (pt_not (pt_val (pe_callB call_isinstD rfl T.isinstance boot_isinstance (pa_cons (pv 0) (pa_cons (pe_bltn (v := .ty "str") rfl T.str boot_str rfl) pa_nil))))) (pss_one (ps_raise reachOf rfl cf.xNoText rfl (pa_cons pe_str pa_nil))) pss_nil)
    (pss_cons (ps_set (i := 2) sc_rps.nd rfl (Or.inl rfl) (pe_partition (pv 0) pe_str))
    (pss_one (ps_ret (pe_tup (pa_cons (pe_call Grw hr rfl mrw krw brw .nil passOf (pa_cons (pe_ix ix_tup (pv 2) pe_int (fun _ _ => rfl)) pa_nil)) (pa_cons (pe_compX (xs := ["pair"]) (ts := [("read_end", 1)]) dxOf (fun _ _ h => h) rfl ⟨rfl, sub1 rfl, rfl, rfl, rfl, by decide +kernel, rfl, rfl⟩ (pi_list (pe_split (pe_ix ix_tup (pv 2) pe_int (fun _ _ => rfl)) pe_str)) (fun C s3 H3 fp => (pg_name (i := 0) (show (["pair", "read_end"] : List Str).Nodup by decide +kernel) rfl (Or.inl rfl) (Or.inr rfl))) (fun C s3 H3 fp => pif_nil) (fun C s3 H3 fp xe hx => (pe_call Grp hr rfl mrp krp brp .nil hx (pa_cons (pv 0) (pa_cons (pv 1) pa_nil))))) pa_nil))))))), ?_⟩
  refine ⟨_, rfl, v, t, _, _, rfl, dv, isStr_kit t, _, rfl, ?_⟩
  cases t with
  | str x =>
    refine iteF ?_
    cases (show v = V.str x from dv)
    obtain ⟨ax, lx⟩ := hx x rfl
    obtain ⟨a, m, c, ep, aa, am, ac, la, lc⟩ := parts_three x ": " ax (show (Str.ofString ": ").cps.all (· < 128) = true by decide +kernel)
    have er : readOf b (.str x) = (wholeT a).bind fun n => (allO ((Txt.split c "; ").map (pairOf b))).map fun ps => (n, ps) := by
      show pairsOf b x = _
      unfold pairsOf
      rw [ep]
    rw [er] at q1 q2
    refine ⟨_, rfl, _, rfl, _, rfl, by decide +kernel, le200 (by omega), fun p hp => ?_⟩
    rw [ep]
    have s1 := same_new hp (.tup ([a, m, c].map V.str))
    have xp : upd H p (.tup ([a, m, c].map V.str)) p = some (.tup [.str a, .str m, .str c]) := upd_same
    generalize upd H p (.tup ([a, m, c].map V.str)) = H1 at *
    refine ⟨_, rfl, p, _, 0, _, rfl, rfl, SqT.of xp, at0, a, rfl, aa, by omega, fun n hn H2 s2 => ?_, fun hn H2 s2 => q2 (by rw [hn]; rfl) _ (s1.trans s2)⟩
    have x2 := s2 _ _ xp
    have s12 := s1.trans s2
    have mem := split_mem (y := "; ") ac
    have cnt := split_count c "; "
    rw [hn] at q1 q2
    refine ⟨_, rfl, p, _, 2, _, rfl, rfl, SqT.of x2, atI_nat (j := 2) rfl, _, rfl, _, rfl, by decide +kernel, le200 (by omega), le200 (by omega), fun l hl => ⟨l, rfl, ⟨_, SqL.of upd_same⟩, ?_⟩⟩
    have s3 := same_new hl (.lst ((Txt.split c "; ").map V.str))
    have xl : upd H2 l (.lst ((Txt.split c "; ").map V.str)) l = some (.lst ((Txt.split c "; ").map V.str)) := upd_same
    generalize upd H2 l (.lst ((Txt.split c "; ").map V.str)) = H3 at *
    generalize Txt.split c "; " = zs at *
    have q2' : allO (zs.map (pairOf b)) = none → ∀ H', Same H H' → E (.ref C.NoText) none H' := fun h => q2 (by show (allO (zs.map (pairOf b))).map _ = none; rw [h]; rfl)
    have q1' : ∀ ps, allO (zs.map (pairOf b)) = some ps → ∀ p l ws H', Same H H' → H' p = some (.tup [.int n, .ref l]) → H' l = some (.lst ws) → Dens H' (ps.map pT) ws → Q (.ref p) H' := fun ps h => q1 n ps (by show (allO (zs.map (pairOf b))).map _ = _; rw [h]; rfl)
    have s13 := s12.trans s3
    intro D hD
    refine comp_listRG (fun i ws G => ∃ ps : List (Th × Th), (zs.take i).map (pairOf b) = ps.map some ∧ (∀ t ∈ ps, flat 2 (pT t)) ∧ Dens G (ps.map pT) ws) hD (SqL.of xl) (le200 (by rw [List.length_map]; omega)) ⟨([] : List (Th × Th)), rfl, fun t ht => absurd ht (by simp), (show Dens _ [] [] from rfl)⟩ ?_ ?_
    · rintro i v ws H5 k hv sm e _ ⟨ps, m1, m2, m3⟩ hk
      obtain ⟨y, hy, rfl⟩ : ∃ y, zs[i]? = some y ∧ v = .str y := by
        rw [List.getElem?_map] at hv
        cases hq : zs[i]? with
        | none => rw [hq] at hv; cases hv
        | some y => rw [hq] at hv; exact ⟨y, rfl, (Option.some.inj hv).symm⟩
      have hm := List.mem_of_getElem? hy
      obtain ⟨ay, ly⟩ := mem y hm
      refine ⟨_, rfl, _, rfl, y, b, rfl, ay, by omega, fun t ht g H6 s6 dg => hk _ _ s6 ⟨ps ++ [t], ?_, fun u hu => ?_, ?_⟩, fun ht H6 s6 => q2' (allO_none ?_) _ (s13.trans (sm.trans s6))⟩
      · rw [List.take_add_one, hy, List.map_append, List.map_append, m1]
        show _ ++ [pairOf b y] = _
        rw [ht]
        rfl
      · rcases List.mem_append.mp hu with hu | hu
        · exact m2 u hu
        · rw [List.mem_singleton.mp hu]; exact pair_flat ht
      · refine dens_upd (d := 2) (s6 _ _ e) (fun u hu => ?_) ?_
        · obtain ⟨w, hw, rfl⟩ := List.mem_map.mp hu
          rcases List.mem_append.mp hw with hw | hw
          · exact m2 w hw
          · rw [List.mem_singleton.mp hw]; exact pair_flat ht
        · rw [List.map_append]
          exact dens_snoc (m3.keep s6) dg
      · exact List.mem_map.mpr ⟨y, hm, ht⟩
    rintro ws H5 s5 hD5 lw ⟨ps, m1, m2, m3⟩
    rw [List.length_map, List.take_of_length_le (Nat.le_refl _)] at m1
    refine ⟨(by show 2 ≤ sizeLine; decide), fun g hg => ?_⟩
    have s6 := same_new hg (.tup [V.int n, V.ref D])
    exact q1' ps (by rw [m1]; exact allO_some ps) g D ws _ (s13.trans (s5.trans s6)) upd_same (s6 _ _ hD5) (m3.keep s6)
  | _ => exact iteT ⟨one, q2 rfl _ (Same.refl _)⟩
noncomputable def pr2 (t : Th) : Option (Int × Int) := match seqOf t with
  | some [.int a, .int b] => some (a, b)
  | _ => none
theorem map_snocP {ts : List Th} {ps : List (Int × Int)} {i : Nat} {t : Th} {a : Int × Int} (h : (ts.take i).map pr2 = ps.map some) (e : ts[i]? = some t) (ha : pr2 t = some a) : (ts.take (i + 1)).map pr2 = (ps ++ [a]).map some := by
  rw [List.take_add_one, e, List.map_append, List.map_append, h]
  show _ ++ [pr2 t] = _
  rw [ha]
  rfl
theorem map_atP {ts : List Th} {ps : List (Int × Int)} (h : ts.map pr2 = ps.map some) {i : Nat} {t : Th} (e : ts[i]? = some t) : ∃ p, ps[i]? = some p ∧ pr2 t = some p := by
  have h1 : (ts.map pr2)[i]? = some (pr2 t) := by rw [List.getElem?_map, e]; rfl
  rw [h, List.getElem?_map] at h1
  cases q : ps[i]? with
  | none => rw [q] at h1; cases h1
  | some p => rw [q] at h1; exact ⟨p, rfl, (Option.some.inj h1).symm⟩
theorem some_injP : ∀ {ps qs : List (Int × Int)}, ps.map some = qs.map some → ps = qs
  | [], [], _ => rfl
  | [], _ :: _, h => by cases h
  | _ :: _, [], h => by cases h
  | p :: ps, q :: qs, h => by
    rw [List.map_cons, List.map_cons] at h
    injection h with h1 h2
    injection h1 with h1
    rw [h1, some_injP h2]
theorem dens_writeP {H : Hp} {l : Addr} {zs ws : List V} (hl : H l = some (.lst zs)) : ∀ {ts : List Th} {xs : List V}, (∀ t ∈ ts, ∃ p, t = ppT p) → Dens H ts xs → Dens (upd H l (.lst ws)) ts xs
  | [], _, _, h => h
  | t :: ts, xs, ht, ⟨y, ys, e, d1, d2⟩ => by
    obtain ⟨p, rfl⟩ := ht t (by simp)
    obtain ⟨a, rfl, ha⟩ := den_pp d1
    exact ⟨.ref a, ys, e, den_p (by rw [upd_ne (ne_of ha hl (by intro z; cases z))]; exact ha), dens_writeP hl (fun t' h' => ht t' (by simp [h'])) d2⟩
noncomputable def InB (t : Int) (p : Int × Int) : Prop := -1 ≤ p.1 ∧ p.1 < p.2 ∧ p.2 ≤ t + 1
noncomputable def spBndX (C : CA) : Sp := fun vs H Q E => ∃ (x : V) (t : Th) (N : Int), vs = [x, .int N] ∧ Den H t x ∧ (∀ a, pr2 t = some a → InB N a → ∀ p H', Same H H' → H' p = some (.tup [.int a.1, .int a.2]) → Q (.ref p) H') ∧
  ((∀ a, pr2 t = some a → ¬ InB N a) → ∀ H', Same H H' → E (.ref C.NoPlan) none H')
theorem sc_bnd : FnScope ["thing", "t", "low", "high"] ["thing", "t"] (defScope s_bnd) := ⟨rfl, rfl, rfl, by decide +kernel, rfl, by decide +kernel, by decide +kernel⟩
theorem ok_bnd {C : CA} {f : Addr} {fd : FuncData} (F : Fun K "bound_of" "bound_of" s_bnd f fd) (T : Txt mg) (cf : CF K mg C) {frowof : Addr} {drowof : FuncData} (Growof : FnOk P w K mg base CX0 3 frowof drowof ["thing", "count"] spRowT) (browof : Binds K drowof ["thing", "count"] []) (krowof : PySem.W.keepIn K (.ref frowof) = true) (mrowof : mg "is_row_of" = some (.ref frowof)) {fwhole : Addr} {dwhole : FuncData} (Gwhole : FnOk P w K mg base CX0 3 fwhole dwhole ["thing"] spWhole) (bwhole : Binds K dwhole ["thing"] []) (kwhole : PySem.W.keepIn K (.ref fwhole) = true) (mwhole : mg "is_whole" = some (.ref fwhole)) : FnOk P w K mg base (CXX P w) 4 f fd ["thing", "t"] (spBndX C) := by
  refine F.okX sc_bnd (fun vs H Q E h => ?_) (fun cdv A outer s H vs Q E hr h => ?_)
  · obtain ⟨x, t, N, rfl, _⟩ := h
    rfl
  obtain ⟨x, t, N, rfl, d, q1, q2⟩ := h
  refine ⟨_, (pss_cons (ps_if (pt_not (pt_val (pe_call Growof hr rfl mrowof krowof browof .nil pass0 (pa_cons (pv 0) (pa_cons pe_int pa_nil))))) (pss_one (ps_raise reachOf rfl cf.xNoPlan rfl (pa_cons pe_str pa_nil))) pss_nil)
    (pss_cons (ps_set (i := 2) sc_bnd.nd rfl (Or.inl rfl) (pe_ix ix_seq (pv 0) pe_int (fun _ _ => rfl)))
    (pss_cons (ps_set (i := 3) sc_bnd.nd rfl (Or.inl rfl) (pe_ix ix_seq (pv 0) pe_int (fun _ _ => rfl)))
    (pss_cons (ps_if (PW.pt (pw_or (pt_not (pt_val (pe_call Gwhole hr rfl mwhole kwhole bwhole .nil pass0 (pa_cons (pv 2) pa_nil)))) (pw_or1 (pt_not (pt_val (pe_call Gwhole hr rfl mwhole kwhole bwhole .nil pass0 (pa_cons (pv 3) pa_nil))))))) (pss_one (ps_raise reachOf rfl cf.xNoPlan rfl (pa_cons pe_str pa_nil))) pss_nil)
    (pss_cons (ps_if (pt_not (pt_chain3 op_le op_lt op_le (pe_un un_neg pe_int) (pv 2) (pv 3) (pe_op op_add (pv 1) pe_int))) (pss_one (ps_raise reachOf rfl cf.xNoPlan rfl (pa_cons pe_str pa_nil))) pss_nil)
    (pss_one (ps_ret (pe_tup (pa_cons (pv 2) (pa_cons (pv 3) pa_nil)))))))))), ?_⟩
  refine ⟨_, rfl, x, 2, t, rfl, d, fun H1 s1 => ⟨_, rfl, ?_⟩⟩
  cases hr2 : rowB t 2 with
  | false =>
    refine iteT ⟨(by show 1 ≤ sizeLine; decide), q2 (fun a ha => ?_) _ s1⟩
    exfalso
    unfold pr2 at ha
    unfold rowB at hr2
    split at ha
    · rename_i e
      rw [e] at hr2
      exact absurd hr2 (by simp)
    · cases ha
  | true =>
    obtain ⟨t0, t1, e2⟩ := row_two hr2
    obtain ⟨a, xs, rfl, sq, dd⟩ := seq_den e2 d
    obtain ⟨y, ys, rfl, d0, z, zs, rfl, d1, e5⟩ := dd
    have e5' : zs = [] := e5
    subst e5'
    refine iteF ?_
    have sq1 := sq.keep s1
    refine ⟨_, rfl, sq1.ix at0 ?_⟩
    refine ⟨_, rfl, sq1.ix at1 ?_⟩
    refine ⟨_, rfl, y, t0, rfl, d0.keep s1, _, rfl, ?_⟩
    cases h0 : isW t0 with
    | false =>
      refine iteT (iteT ⟨(by show 1 ≤ sizeLine; decide), q2 (fun a ha => ?_) _ s1⟩)
      exfalso
      unfold pr2 at ha
      rw [e2] at ha
      split at ha
      · rename_i e
        cases e
        cases h0
      · cases ha
    | true =>
      refine iteF ⟨_, rfl, z, t1, rfl, d1.keep s1, _, rfl, ?_⟩
      cases h1 : isW t1 with
      | false =>
        refine iteT ⟨(by show 1 ≤ sizeLine; decide), q2 (fun a ha => ?_) _ s1⟩
        exfalso
        unfold pr2 at ha
        rw [e2] at ha
        split at ha
        · rename_i e
          cases e
          cases h1
        · cases ha
      | true =>
        obtain ⟨i, rfl⟩ := isW_shape h0
        obtain ⟨j, rfl⟩ := isW_shape h1
        have d0' : y = V.int i := d0
        have d1' : z = V.int j := d1
        subst d0' d1'
        have ep : pr2 t = some (i, j) := by unfold pr2; rw [e2]
        have bad : ¬ InB N (i, j) → ∀ H', Same H H' → E (.ref C.NoPlan) none H' := fun hb => q2 fun a ha => by rw [ep] at ha; cases ha; exact hb
        refine iteF ?_
        refine ⟨_, rfl, _, rfl, _, _, rfl, rfl, _, rfl, ?_⟩
        refine ite2 (fun c0 => ?_) (fun c0 => iteT ⟨(by show 1 ≤ sizeLine; decide), bad (fun hb => ofD c0 hb.1) _ s1⟩)
        refine ⟨_, rfl, _, _, rfl, rfl, _, rfl, ?_⟩
        refine ite2 (fun c1 => ?_) (fun c1 => iteT ⟨(by show 1 ≤ sizeLine; decide), bad (fun hb => ofD c1 hb.2.1) _ s1⟩)
        refine ⟨_, rfl, _, _, rfl, rfl, _, _, rfl, rfl, _, rfl, ?_⟩
        refine ite2 (fun c2 => ⟨(by show 1 ≤ sizeLine; decide), bad (fun hb => ?_) _ s1⟩) (fun c2 => ?_)
        · exact absurd (show j ≤ N + 1 from hb.2.2) (by simpa using c2)
        · have hN : j ≤ N + 1 := by simpa using c2
          exact ⟨_, rfl, _, rfl, (by show 2 ≤ sizeLine; decide), fun b hb => q1 (i, j) ep ⟨of_decide_eq_true c0, of_decide_eq_true c1, hN⟩ b _ (s1.trans (same_new hb _)) upd_same⟩
structure GoodP (A S : Th) (n : Nat) (bs : List (Int × Int)) : Prop where
  a : A = .int n
  seq : ∃ ts, seqOf S = some ts ∧ ts.map pr2 = bs.map some
  n1 : 1 ≤ n
  n12 : n ≤ 12
  len : bs.length = n
  inn : ∀ (i : Nat) (p : Int × Int), bs[i]? = some p → InB ((i : Int) + 1) p
  last : ∀ p, bs[n - 1]? = some p → p.2 = p.1 + 1
noncomputable def planT (n : Nat) (bs : List (Int × Int)) : Th := .tup [.int n, .tup (bs.map ppT)]
theorem at_last {xs : List V} {v : V} (h : xs[xs.length - 1]? = some v) : atI xs (-1) = some v := by
  have hl := (List.getElem?_eq_some_iff.mp h).1
  have e : xs = xs.take (xs.length - 1) ++ [v] := by
    have e1 := List.take_append_drop (xs.length - 1) xs
    rw [List.drop_eq_getElem_cons (by omega), List.drop_of_length_le (by omega)] at e1
    rw [(List.getElem?_eq_some_iff.mp h).2] at e1
    exact e1.symm
  rw [e]
  exact atI_last _ v
noncomputable def spPlX (C : CA) : Sp := fun vs H Q E => ∃ (x z : V) (A S : Th), vs = [x, z] ∧ Den H A x ∧ Den H S z ∧ (∀ n bs, GoodP A S n bs → ∀ p H', Same H H' → Den H' (planT n bs) (.ref p) → Q (.ref p) H') ∧
  ((∀ n bs, ¬ GoodP A S n bs) → ∀ H', Same H H' → E (.ref C.NoPlan) none H')
theorem sc_plan : FnScope ["n", "bounds", "kept"] ["n", "bounds"] (defScope s_plan) := ⟨rfl, rfl, rfl, by decide +kernel, rfl, by decide +kernel, by decide +kernel⟩
theorem ok_plan {C : CA} {f : Addr} {fd : FuncData} (F : Fun K "plan_of" "plan_of" s_plan f fd) (T : Txt mg) (cf : CF K mg C) {fwhole : Addr} {dwhole : FuncData} (Gwhole : FnOk P w K mg base CX0 4 fwhole dwhole ["thing"] spWhole) (bwhole : Binds K dwhole ["thing"] []) (kwhole : PySem.W.keepIn K (.ref fwhole) = true) (mwhole : mg "is_whole" = some (.ref fwhole)) {frowof : Addr} {drowof : FuncData} (Growof : FnOk P w K mg base CX0 4 frowof drowof ["thing", "count"] spRowT) (browof : Binds K drowof ["thing", "count"] []) (krowof : PySem.W.keepIn K (.ref frowof) = true) (mrowof : mg "is_row_of" = some (.ref frowof)) {fbnd : Addr} {dbnd : FuncData} (Gbnd : FnOk P w K mg base (CXX P w) 4 fbnd dbnd ["thing", "t"] (spBndX C)) (bbnd : Binds K dbnd ["thing", "t"] []) (kbnd : PySem.W.keepIn K (.ref fbnd) = true) (mbnd : mg "bound_of" = some (.ref fbnd)) : FnOk P w K mg base (CXX P w) 5 f fd ["n", "bounds"] (spPlX C) := by
  refine F.okX sc_plan (fun vs H Q E h => ?_) (fun cdv A outer s H vs Q E hr h => ?_)
  · obtain ⟨x, z, A', S', rfl, _⟩ := h
    rfl
  obtain ⟨x, z, A', S', rfl, dA, dS, q1, q2⟩ := h
  refine ⟨_, (pss_cons (ps_if (PW.pt (pw_or (pt_not (pt_val (pe_call Gwhole hr rfl mwhole kwhole bwhole .nil pass0 (pa_cons (pv 0) pa_nil)))) (pw_or (pt_cmpR op_lt (pv 0) pe_int (nomark _)) (pw_or1 (pt_cmpR op_gt (pv 0) pe_int (nomark _)))))) (pss_one (ps_raise reachOf rfl cf.xNoPlan rfl (pa_cons pe_str pa_nil))) pss_nil)
    (pss_cons (ps_if (pt_not (pt_val (pe_call Growof hr rfl mrowof krowof browof .nil pass0 (pa_cons (pv 1) (pa_cons (pv 0) pa_nil))))) (pss_one (ps_raise reachOf rfl cf.xNoPlan rfl (pa_cons pe_str pa_nil))) pss_nil)
    (pss_cons (ps_set (i := 2) sc_plan.nd rfl (Or.inl rfl) (pe_callTy call_tuple_of rfl T.tuple boot_tuple (pa_cons (pe_compX (xs := ["t", "bound"]) (ts := []) dxOf (fun _ _ h => h) rfl ⟨rfl, sub0, rfl, rfl, rfl, by decide +kernel, rfl, rfl⟩ (pi_enumS rfl T.enumerate (pa_cons (pv 1) pa_nil) pe_int) (fun C s3 H3 fp => (pg_tupC (n := 2) rfl (pgs_cons (pg_name (i := 0) (show (["t", "bound"] : List Str).Nodup by decide +kernel) rfl (Or.inl rfl) (Or.inr rfl)) (pgs_cons (pg_name (i := 1) (show (["t", "bound"] : List Str).Nodup by decide +kernel) rfl (Or.inl rfl) (Or.inr rfl)) pgs_nil)))) (fun C s3 H3 fp => pif_nil) (fun C s3 H3 fp xe hx => (pe_call Gbnd hr rfl mbnd kbnd bbnd .nil hx (pa_cons (pv 1) (pa_cons (pv 0) pa_nil))))) pa_nil)))
    (pss_cons (ps_if (pt_cmpR op_ne (pe_ix ix_tup (pe_ix ix_tup (pv 2) (pe_un un_neg pe_int) (fun _ _ => rfl)) pe_int (fun _ _ => rfl)) (pe_op op_add (pe_ix ix_tup (pe_ix ix_tup (pv 2) (pe_un un_neg pe_int) (fun _ _ => rfl)) pe_int (fun _ _ => rfl)) pe_int) (nomark _)) (pss_one (ps_raise reachOf rfl cf.xNoPlan rfl (pa_cons pe_str pa_nil))) pss_nil)
    (pss_one (ps_ret (pe_tup (pa_cons (pv 0) (pa_cons (pv 2) pa_nil))))))))), ?_⟩
  have one : 1 ≤ sizeLine := by decide
  refine ⟨_, rfl, x, A', rfl, dA, _, rfl, ?_⟩
  cases hA : isW A' with
  | false => exact iteT (iteT ⟨one, q2 (fun n ps g => by rw [g.a] at hA; cases hA) _ (Same.refl H)⟩)
  | true =>
  obtain ⟨N, rfl⟩ := isW_shape hA
  cases (show x = V.int N from dA)
  have gn : ∀ {n ps}, GoodP (.int N) S' n ps → N = (n : Int) := fun g => by
    have e := g.a
    injection e
  refine iteF ⟨_, rfl, _, _, rfl, rfl, _, rfl, ?_⟩
  refine ite2 (fun c => iteT ⟨one, q2 (fun n ps g => ?_) _ (Same.refl H)⟩) (fun c1 => ?_)
  · have := gn g
    have := of_decide_eq_true c
    have := g.n1
    omega
  refine ⟨_, rfl, _, _, rfl, rfl, _, rfl, ?_⟩
  refine ite2 (fun c => ⟨one, q2 (fun n ps g => ?_) _ (Same.refl H)⟩) (fun c2 => ?_)
  · have := gn g
    have := of_decide_eq_true c
    have := g.n12
    omega
  have k1 : ¬ N < 1 := ofD c1
  have k2 : ¬ (12 : Int) < N := ofD c2
  refine ⟨_, rfl, _, rfl, z, N, S', rfl, dS, fun H1 s1 => ⟨_, rfl, ?_⟩⟩
  cases hR : rowB S' N with
  | false =>
    refine iteT ⟨one, q2 (fun n ps g => ?_) _ s1⟩
    have e0 := gn g
    obtain ⟨ts, e1, e2⟩ := g.seq
    have l1 : ts.length = ps.length := by simpa using congrArg List.length e2
    have l2 := g.len
    unfold rowB at hR
    rw [e1] at hR
    exact absurd hR (by simp; omega)
  | true =>
  refine iteF ?_
  obtain ⟨ts, es, lt⟩ := row_seq hR
  obtain ⟨a, xs, rfl, sq, dd⟩ := seq_den es dS
  have lx := dd.len
  have dd1 := dd.keep s1
  obtain ⟨b, sqb⟩ : ∃ b, SqB b K H1 a xs := by
    rcases sq.keep s1 with h | h
    · exact ⟨false, SqL.of h⟩
    · exact ⟨true, SqT.of h⟩
  refine ⟨_, rfl, a, b, rfl, rfl, ⟨xs, sqb⟩, fun D hD => ?_⟩
  refine comp_enumRG (fun i ws H2 => ∃ ps : List (Int × Int), (ts.take i).map pr2 = ps.map some ∧ (∀ (j : Nat) (p : Int × Int), ps[j]? = some p → InB ((j : Int) + 1) p) ∧ Dens H2 (ps.map ppT) ws) hD sqb (Nat.le_of_lt (lt40 (by omega))) ⟨[], rfl, (fun j p hp => absurd hp (by simp)), rfl⟩ ?_ ?_
  · rintro i v ws H2 k hv sm e hl ⟨ps, m1, m2, m3⟩ hk U hU
    have hi := (List.getElem?_eq_some_iff.mp hv).1
    have et := List.getElem?_eq_getElem (show i < ts.length by omega)
    have sU := same_new hU (.tup [.int ((i : Int) + 1), v])
    have lps : ps.length = i := by
      have := congrArg List.length m1
      simp at this
      omega
    obtain ⟨v', f1, f2⟩ := (dd1.keep (sm.trans sU)).get et
    rw [hv] at f1
    cases f1
    refine ⟨_, rfl, _, rfl, v, _, (i : Int) + 1, rfl, f2, fun b hb hin p H3 s3 hp => hk _ _ (sU.trans s3) ⟨ps ++ [b], map_snocP m1 et hb, fun j p' hp' => ?_, ?_⟩, fun hbad H3 s3 => q2 (fun n ps' g => ?_) _ (((s1.trans sm).trans sU).trans s3)⟩
    · by_cases hj : j < ps.length
      · rw [List.getElem?_append_left hj] at hp'
        exact m2 j p' hp'
      · rw [List.getElem?_append_right (by omega)] at hp'
        have hj0 : j - ps.length = 0 := by
          have := (List.getElem?_eq_some_iff.mp hp').1
          simp at this
          omega
        rw [hj0] at hp'
        cases hp'
        have : j = i := by omega
        rw [this]
        exact hin
    · rw [List.map_append]
      have hD3 := s3 _ _ (sU _ _ e)
      exact dens_writeP hD3 (fun p' hp' => by
        rcases List.mem_append.mp hp' with y | y
        · obtain ⟨q, _, rfl⟩ := List.mem_map.mp y; exact ⟨q, rfl⟩
        · exact ⟨b, List.mem_singleton.mp y⟩) (dens_snoc (m3.keep (sU.trans s3)) (show Den H3 (ppT b) (.ref p) from den_p hp))
    · obtain ⟨ts', e1, e2⟩ := g.seq
      rw [es] at e1
      cases e1
      obtain ⟨p, y1, y2⟩ := map_atP e2 et
      exact hbad p y2 (g.inn i p y1)
  rintro ws H2 s2 hD2 hlw ⟨ps, m1, m2, m3⟩
  rw [List.take_of_length_le (by omega)] at m1
  have lp : ts.length = ps.length := by simpa using congrArg List.length m1
  refine ⟨D, ws, rfl, .inl ⟨SqL.of hD2, fun t ht => ?_⟩⟩
  have s3 := same_new ht (.tup ws)
  have r3 := m3.keep s3
  have t3 : (upd H2 t (.tup ws)) t = some (.tup ws) := upd_same
  have s13 := (s1.trans s2).trans s3
  generalize hH3 : upd H2 t (.tup ws) = H3 at *
  have ep := List.getElem?_eq_getElem (show ps.length - 1 < ps.length by omega)
  obtain ⟨wl, f1, f2⟩ := r3.get (i := ps.length - 1) (t := ppT (ps[ps.length - 1]'(by omega))) (by rw [List.getElem?_map, ep]; rfl)
  obtain ⟨c, rfl, hc⟩ := den_pp f2
  have al : atI ws (-1) = some (V.ref c) := at_last (by rw [show ws.length - 1 = ps.length - 1 by omega]; exact f1)
  have pin : ∀ {n ps'}, GoodP (.int N) S' n ps' → ps' = ps := fun g => by
    obtain ⟨ts', e1, e2⟩ := g.seq
    rw [es] at e1
    cases e1
    exact some_injP (e2.symm.trans m1)
  refine ⟨_, rfl, _, rfl, t, ws, _, _, rfl, rfl, SqT.of t3, al, c, _, 1, _, rfl, rfl, SqT.of hc, at1, _, rfl, _, rfl, t, ws, _, _, rfl, rfl, SqT.of t3, al, c, _, 0, _, rfl, rfl, SqT.of hc, at0, _, _, rfl, rfl, rfl, _, rfl, ?_⟩
  refine ite2 (fun c => ⟨one, q2 (fun n ps' g => ?_) _ s13⟩) (fun c0 => ?_)
  · have e := pin g
    subst e
    have hl := g.last _ (by rw [← g.len]; exact ep)
    rw [hl] at c
    simp at c
  · obtain ⟨n, rfl⟩ : ∃ n : Nat, N = (n : Int) := ⟨N.toNat, by omega⟩
    refine ⟨_, rfl, _, rfl, (by show 2 ≤ sizeLine; decide), fun x hx => ?_⟩
    have s5 := same_new hx (.tup [V.int n, V.ref t])
    have gd : GoodP (.int n) S' n ps := ⟨rfl, ⟨ts, es, m1⟩, by omega, by omega, by omega, m2, fun p hp => by
      rw [show n - 1 = ps.length - 1 by omega, ep] at hp
      cases hp
      simpa using c0⟩
    exact q1 n ps gd x _ (s13.trans s5) ⟨x, _, rfl, upd_same, _, _, rfl, rfl, _, _, rfl, ⟨t, ws, rfl, s5 _ _ t3, r3.keep s5⟩, rfl⟩
theorem smk60 {i : Int} (h : i.natAbs < 10 ^ 60) : Smk i := Nat.lt_of_lt_of_le h (Nat.le_trans (show (10 : Nat) ^ 60 ≤ 2 ^ 200 by decide +kernel) (Nat.pow_le_pow_right (by decide) (by decide)))
theorem read_small {t : Th} {n : Int} {ps : List (Th × Th)} (h : readOf true t = some (n, ps)) : ∀ ts, seqOf (.lst (ps.map pT)) = some ts → ∀ u ∈ ts, ∀ s, st2 u = some s → Sm2 s.1 ∧ Sm2 s.2 := by
  intro ts e u hu s hs
  cases e
  obtain ⟨p, hp, rfl⟩ := List.mem_map.mp hu
  obtain ⟨x, hx⟩ := read_mem h p hp
  obtain ⟨y, z, e1, e2⟩ := pair_ends hx
  obtain ⟨a, ea, fa⟩ := end_frac e1
  obtain ⟨b, eb, fb⟩ := end_frac e2
  obtain ⟨p1, p2⟩ := p
  dsimp only at ea eb
  subst ea eb
  have ha := frac_lt fa
  have hb := frac_lt fb
  have key : s = (a, b) := by
    have hs' : st2 (.tup [ppT a, ppT b]) = some s := hs
    unfold st2 seqOf at hs'
    dsimp only at hs'
    have s1 : ∀ p q, shOf (ppT p) = some q → q = p := fun p q h => by
      unfold shOf at h
      split at h
      · cases h; rfl
      · cases h
    cases c1 : shOf (ppT a) with
    | none => rw [c1] at hs'; cases hs'
    | some a' =>
      rw [c1] at hs'
      cases c2 : shOf (ppT b) with
      | none => rw [c2] at hs'; cases hs'
      | some b' =>
        rw [c2] at hs'
        cases hs'
        rw [s1 _ _ c1, s1 _ _ c2]
  subst key
  exact ⟨⟨smk60 ha.1, smk60 ha.2⟩, ⟨smk60 hb.1, smk60 hb.2⟩⟩
noncomputable def okT (t : Th) : Prop := ∀ x, t = .str x → Asc x ∧ x.length ≤ 40000
noncomputable def spRrX (C : CA) : Sp := fun vs H Q E => ∃ (v : V) (t : Th), vs = [v] ∧ Den H t v ∧ okT t ∧ (∀ n ps, readOf true t = some (n, ps) → (∀ m qs, GoodU (.int n) (.lst (ps.map pT)) m qs → ∀ p H', Same H H' → Den H' (ruT m qs) (.ref p) → Q (.ref p) H') ∧ ((∀ m qs, ¬ GoodU (.int n) (.lst (ps.map pT)) m qs) → ∀ H', Same H H' → E (.ref C.NoRule) none H')) ∧ (readOf true t = none → ∀ H', Same H H' → E (.ref C.NoText) none H')
theorem sc_rr : FnScope ["text", "written"] ["text"] (defScope s_rr) := ⟨rfl, rfl, rfl, by decide +kernel, rfl, by decide +kernel, by decide +kernel⟩
theorem ok_rr {C : CA} {f : Addr} {fd : FuncData} (F : Fun K "read_rule" "read_rule" s_rr f fd) (T : Txt mg) (cf : CF K mg C) {frw : Addr} {drw : FuncData} (Grw : FnOk P w K mg base (CXX P w) 7 frw drw ["text"] (spRwX C)) (brw : Binds K drw ["text"] []) (krw : PySem.W.keepIn K (.ref frw) = true) (mrw : mg "read_whole" = some (.ref frw)) {frf : Addr} {drf : FuncData} (Grf : FnOk P w K mg base (CXX P w) 7 frf drf ["text"] (spRfX C)) (brf : Binds K drf ["text"] []) (krf : PySem.W.keepIn K (.ref frf) = true) (mrf : mg "read_fraction" = some (.ref frf)) {frps : Addr} {drps : FuncData} (Grps : FnOk P w K mg base (CXX P w) 7 frps drps ["text", "read_end"] (spRpsX C frw frf)) (brps : Binds K drps ["text", "read_end"] []) (krps : PySem.W.keepIn K (.ref frps) = true) (mrps : mg "read_pairs" = some (.ref frps)) {fruleof : Addr} {druleof : FuncData} (Gruleof : FnOk P w K mg base (CXX P w) 7 fruleof druleof ["n", "stretches"] (spRuX C)) (bruleof : Binds K druleof ["n", "stretches"] []) (kruleof : PySem.W.keepIn K (.ref fruleof) = true) (mruleof : mg "rule_of" = some (.ref fruleof)) : FnOk P w K mg base (CXX P w) 8 f fd ["text"] (spRrX C) := by
  refine F.okX sc_rr (fun vs H Q E h => ?_) (fun cdv A outer s H vs Q E hr h => ?_)
  · obtain ⟨v, t, rfl, _⟩ := h
    rfl
  obtain ⟨v, t, rfl, dv, ok, q1, q2⟩ := h
  refine ⟨_, (pss_cons (ps_set (i := 1) sc_rr.nd rfl (Or.inl rfl) (pe_call Grps hr rfl mrps krps brps .nil passOf (pa_cons (pv 0) (pa_cons (pe_glob (v := .ref frf) rfl mrf rfl) pa_nil))))
    (pss_one (ps_ret (pe_call Gruleof hr rfl mruleof kruleof bruleof .nil passOf (pa_cons (pe_ix ix_tup (pv 1) pe_int (fun _ _ => rfl)) (pa_cons (pe_ix ix_tup (pv 1) pe_int (fun _ _ => rfl)) pa_nil)))))), ?_⟩
  refine ⟨_, rfl, v, t, true, rfl, dv, ok, fun n ps hn p l zs H1 s1 hp hl dz => ?_, fun hn H1 s1 => q2 hn _ s1⟩
  obtain ⟨g1, g2⟩ := q1 n ps hn
  refine ⟨_, rfl, p, _, 0, _, rfl, rfl, SqT.of hp, at0, _, rfl, p, _, 1, _, rfl, rfl, SqT.of hp, at1, _, _, .int n, .lst (ps.map pT), rfl, rfl, ⟨l, _, rfl, hl, dz⟩, read_small hn, fun m qs g r H2 s2 dr => g1 m qs g r H2 (s1.trans s2) dr, fun hb H2 s2 => g2 hb H2 (s1.trans s2)⟩
noncomputable def spRbX (C : CA) : Sp := fun vs H Q E => ∃ (v : V) (t : Th), vs = [v] ∧ Den H t v ∧ okT t ∧ (∀ n ps, readOf false t = some (n, ps) → (∀ m bs, GoodP (.int n) (.lst (ps.map pT)) m bs → ∀ p H', Same H H' → Den H' (planT m bs) (.ref p) → Q (.ref p) H') ∧ ((∀ m bs, ¬ GoodP (.int n) (.lst (ps.map pT)) m bs) → ∀ H', Same H H' → E (.ref C.NoPlan) none H')) ∧ (readOf false t = none → ∀ H', Same H H' → E (.ref C.NoText) none H')
theorem sc_rb : FnScope ["text", "written"] ["text"] (defScope s_rb) := ⟨rfl, rfl, rfl, by decide +kernel, rfl, by decide +kernel, by decide +kernel⟩
theorem ok_rb {C : CA} {f : Addr} {fd : FuncData} (F : Fun K "read_bounds" "read_bounds" s_rb f fd) (T : Txt mg) (cf : CF K mg C) {frw : Addr} {drw : FuncData} (Grw : FnOk P w K mg base (CXX P w) 7 frw drw ["text"] (spRwX C)) (brw : Binds K drw ["text"] []) (krw : PySem.W.keepIn K (.ref frw) = true) (mrw : mg "read_whole" = some (.ref frw)) {frf : Addr} {drf : FuncData} (Grf : FnOk P w K mg base (CXX P w) 7 frf drf ["text"] (spRfX C)) (brf : Binds K drf ["text"] []) (krf : PySem.W.keepIn K (.ref frf) = true) (mrf : mg "read_fraction" = some (.ref frf)) {frps : Addr} {drps : FuncData} (Grps : FnOk P w K mg base (CXX P w) 7 frps drps ["text", "read_end"] (spRpsX C frw frf)) (brps : Binds K drps ["text", "read_end"] []) (krps : PySem.W.keepIn K (.ref frps) = true) (mrps : mg "read_pairs" = some (.ref frps)) {fplan : Addr} {dplan : FuncData} (Gplan : FnOk P w K mg base (CXX P w) 7 fplan dplan ["n", "bounds"] (spPlX C)) (bplan : Binds K dplan ["n", "bounds"] []) (kplan : PySem.W.keepIn K (.ref fplan) = true) (mplan : mg "plan_of" = some (.ref fplan)) : FnOk P w K mg base (CXX P w) 8 f fd ["text"] (spRbX C) := by
  refine F.okX sc_rb (fun vs H Q E h => ?_) (fun cdv A outer s H vs Q E hr h => ?_)
  · obtain ⟨v, t, rfl, _⟩ := h
    rfl
  obtain ⟨v, t, rfl, dv, ok, q1, q2⟩ := h
  refine ⟨_, (pss_cons (ps_set (i := 1) sc_rb.nd rfl (Or.inl rfl) (pe_call Grps hr rfl mrps krps brps .nil passOf (pa_cons (pv 0) (pa_cons (pe_glob (v := .ref frw) rfl mrw rfl) pa_nil))))
    (pss_one (ps_ret (pe_call Gplan hr rfl mplan kplan bplan .nil passOf (pa_cons (pe_ix ix_tup (pv 1) pe_int (fun _ _ => rfl)) (pa_cons (pe_ix ix_tup (pv 1) pe_int (fun _ _ => rfl)) pa_nil)))))), ?_⟩
  refine ⟨_, rfl, v, t, false, rfl, dv, ok, fun n ps hn p l zs H1 s1 hp hl dz => ?_, fun hn H1 s1 => q2 hn _ s1⟩
  obtain ⟨g1, g2⟩ := q1 n ps hn
  refine ⟨_, rfl, p, _, 0, _, rfl, rfl, SqT.of hp, at0, _, rfl, p, _, 1, _, rfl, rfl, SqT.of hp, at1, _, _, .int n, .lst (ps.map pT), rfl, rfl, ⟨l, _, rfl, hl, dz⟩, fun m qs g r H2 s2 dr => g1 m qs g r H2 (s1.trans s2) dr, fun hb H2 s2 => g2 hb H2 (s1.trans s2)⟩
noncomputable def behind : Th → Option Th
  | .str x => if Txt.startswith x "plan " = true then some (.str (Txt.slice x (some 5) none)) else none
  | _ => none
theorem slice_asc {x : Str} (h : Asc x) (lo hi : Option Int) : Asc (Txt.slice x lo hi) := by
  unfold Txt.slice
  split
  · exact h
  · refine asc_iff.mpr fun c hc => ?_
    have hc' : c ∈ (PySem.Builtin.Str.strSliceIndices lo hi 1 x.length).filterMap (x.cps[·]?) := by simpa using hc
    obtain ⟨i, _, hi⟩ := List.mem_filterMap.mp hc'
    exact asc_iff.mp h c (by rw [← Array.getElem?_toList] at hi; exact List.mem_of_getElem? hi)
theorem behind_ok {t u : Th} (h : behind t = some u) (ok : okT t) : okT u := by
  cases t with
  | str x =>
    unfold behind at h
    dsimp only at h
    split at h
    · cases h
      intro y e
      cases e
      obtain ⟨a, l⟩ := ok x rfl
      exact ⟨slice_asc a _ _, Nat.le_trans (Txt.slice_le x _ _) l⟩
    · cases h
  | _ => cases h
noncomputable def spRdX (C : CA) : Sp := fun vs H Q E => ∃ (v : V) (t : Th), vs = [v] ∧ Den H t v ∧ okT t ∧ (behind t = none → ∀ H', Same H H' → E (.ref C.NoText) none H') ∧ (∀ u, behind t = some u → (∀ n ps, readOf false u = some (n, ps) → (∀ m bs, GoodP (.int n) (.lst (ps.map pT)) m bs → ∀ p H', Same H H' → Den H' (planT m bs) (.ref p) → Q (.ref p) H') ∧ ((∀ m bs, ¬ GoodP (.int n) (.lst (ps.map pT)) m bs) → ∀ H', Same H H' → E (.ref C.NoPlan) none H')) ∧ (readOf false u = none → ∀ H', Same H H' → E (.ref C.NoText) none H'))
theorem sc_rd : FnScope ["text"] ["text"] (defScope s_rd) := ⟨rfl, rfl, rfl, by decide +kernel, rfl, by decide +kernel, by decide +kernel⟩
theorem ok_rd {C : CA} {f : Addr} {fd : FuncData} (F : Fun K "read_plan" "read_plan" s_rd f fd) (T : Txt mg) (cf : CF K mg C) {frb : Addr} {drb : FuncData} (Grb : FnOk P w K mg base (CXX P w) 8 frb drb ["text"] (spRbX C)) (brb : Binds K drb ["text"] []) (krb : PySem.W.keepIn K (.ref frb) = true) (mrb : mg "read_bounds" = some (.ref frb)) : FnOk P w K mg base (CXX P w) 9 f fd ["text"] (spRdX C) := by
  refine F.okX sc_rd (fun vs H Q E h => ?_) (fun cdv A outer s H vs Q E hr h => ?_)
  · obtain ⟨v, t, rfl, _⟩ := h
    rfl
  obtain ⟨v, t, rfl, dv, ok, q0, q1⟩ := h
  have one : 1 ≤ sizeLine := by decide
  refine ⟨_, (pss_cons (ps_if (PW.pt (pw_or (pt_not (pt_val (pe_callB call_isinstD rfl T.isinstance boot_isinstance (pa_cons (pv 0) (pa_cons (pe_bltn (v := .ty "str") rfl T.str boot_str rfl) pa_nil))))) (pw_or1 (pt_not (pt_val (pe_starts (pv 0) pe_str)))))) (pss_one (ps_raise reachOf rfl cf.xNoText rfl (pa_cons pe_str pa_nil))) pss_nil)
    (pss_one (ps_ret (pe_call Grb hr rfl mrb krb brb .nil passOf (pa_cons (pe_slice sl_str (pv 0) (po_some (pe_callB call_len_str rfl T.len boot_len (pa_cons pe_str pa_nil))) po_none) pa_nil))))), ?_⟩
  refine ⟨_, rfl, v, t, _, _, rfl, dv, isStr_kit t, _, rfl, ?_⟩
  cases t with
  | str x =>
    refine iteF ?_
    cases (show v = V.str x from dv)
    obtain ⟨ax, lx⟩ := ok x rfl
    refine ⟨_, rfl, x, rfl, _, rfl, _, rfl, ?_⟩
    cases hs : Txt.startswith x "plan " with
    | false => exact iteT ⟨one, q0 (by unfold behind; dsimp only; rw [hs]; rfl) _ (Same.refl _)⟩
    | true =>
      have hb : behind (.str x) = some (.str (Txt.slice x (some 5) none)) := by unfold behind; dsimp only; rw [hs]; rfl
      obtain ⟨g1, g2⟩ := q1 _ hb
      refine iteF ?_
      refine ⟨_, rfl, _, rfl, by decide +kernel, 5, congrArg V.int (by decide +kernel), x, rfl, le200 (by omega), ?_⟩
      exact ⟨_, .str (Txt.slice x (some 5) none), rfl, rfl, behind_ok hb ok, g1, g2⟩
  | _ => exact iteT ⟨one, q0 rfl _ (Same.refl _)⟩
noncomputable def spDivA : Sp := fun vs H Q _ => ∃ a b : Int, vs = [.int a, .int b] ∧ 0 ≤ b ∧ Q (.int (Int.gcd a b)) H
theorem sc_div : FnScope ["_law_one", "_law_other"] ["_law_one", "_law_other"] (defScope s_div) := ⟨rfl, rfl, rfl, by decide +kernel, rfl, by decide +kernel, by decide +kernel⟩
theorem ok_div {f : Addr} {fd : FuncData} (F : Fun K "_law_divisor" "_law_divisor" s_div f fd) (T : Txt mg) : FnOk P w K mg base CX0 1 f fd ["_law_one", "_law_other"] spDivA := by
  refine F.ok sc_div (fun vs H Q E h => ?_) (fun cdv A outer s H vs Q E hr h => ?_)
  · obtain ⟨a, b, rfl, _⟩ := h
    rfl
  obtain ⟨a, b, rfl, hb, q⟩ := h
  refine ⟨_, (pss_cons (ps_set (i := 0) sc_div.nd rfl (Or.inl rfl) (pe_callB call_abs rfl T.abs boot_abs (pa_cons (pv 0) pa_nil)))
    (pss_cons (ps_while PassesOwn.never (pt_cmpR op_gt (pv 1) pe_int (nomark _)) (pss_one (ps_par (i := 0) (j := 1) rfl sc_div.nd rfl rfl (by decide) rfl rfl (pa_cons (pv 1) (pa_cons (pe_op op_mod (pv 0) (pv 1)) pa_nil)) rfl)))
    (pss_one (ps_ret (pv 0))))), ?_⟩
  refine ⟨_, rfl, _, rfl, ?_⟩
  have ha : 0 ≤ (if a < 0 then -a else a) := by split <;> omega
  have hg : Int.gcd (if a < 0 then -a else a) b = Int.gcd a b := by
    have := gabs a b
    rw [if_neg (show ¬ b < 0 by omega)] at this
    exact this
  refine while_by (fun σ H' => H' = H ∧ ∃ x y, σ = [some (.int x), some (.int y)] ∧ 0 ≤ x ∧ 0 ≤ y ∧ Int.gcd x y = Int.gcd a b) (fun σ _ => mu2 σ) ⟨rfl, _, _, rfl, ha, hb, hg⟩ ?_ ?_
  · rintro σ H' ⟨rfl, x, y, rfl, hx, hy, g⟩
    refine ⟨_, rfl, _, _, rfl, rfl, _, rfl, ?_⟩
    refine ite2 (fun c => ?_) (fun c => ?_)
    · have c' : 0 < y := of_decide_eq_true c
      have hm := Int.emod_nonneg x (show y ≠ 0 by omega)
      have hl := Int.emod_lt_of_pos x c'
      refine ⟨_, rfl, _, rfl, _, rfl, _, _, rfl, rfl, c', _, _, rfl, ?_⟩
      refine ⟨⟨rfl, y, x % y, rfl, hy, hm, by rw [gstep hx hy (by omega)]; exact g⟩, ?_⟩
      show (x % y).toNat < y.toNat
      omega
    · have c' : ¬ 0 < y := ofD c
      have : y = 0 := by omega
      subst this
      refine ⟨_, rfl, ?_⟩
      rw [← g, gend hx] at q
      exact q
  · intro σ H Q Q' hq h
    obtain ⟨v, e, i, j, e1, e2, k, e3, h2⟩ := h
    exact ⟨v, e, i, j, e1, e2, k, e3, hq _ _ h2⟩
noncomputable def numV : Option Int → V
  | none => .non
  | some n => .int n
noncomputable def spFig : Sp := fun vs H Q _ => ∃ x : Str, vs = [.str x] ∧ Asc x ∧ x.length ≤ 100000 ∧ ∀ H', Same H H' → Q (numV (figT x)) H'
theorem fig_no {x : Str} (h : figOk x = false) : figT x = none := by unfold figT; rw [h]; rfl
theorem sc_fig : FnScope ["_law_word_here"] ["_law_word_here"] (defScope s_fig) := ⟨rfl, rfl, rfl, by decide +kernel, rfl, by decide +kernel, by decide +kernel⟩
theorem ok_fig {f : Addr} {fd : FuncData} (F : Fun K "_law_figures" "_law_figures" s_fig f fd) (T : Txt mg) : FnOk P w K mg base CX0 1 f fd ["_law_word_here"] spFig := by
  refine F.ok sc_fig (fun vs H Q E h => ?_) (fun cdv A outer s H vs Q E hr h => ?_)
  · obtain ⟨x, rfl, _⟩ := h
    rfl
  obtain ⟨x, rfl, ax, lx, q⟩ := h
  have hz : x.cps.size = x.length := rfl
  have ht : x.cps.toList.length = x.length := len_toList x
  have no : figOk x = false → ∀ H', Same H H' → Q .non H' := fun h H' s' => by have := q H' s'; rw [fig_no h] at this; exact this
  have e0 : ("0" : Str).cps.toList = [48] := by decide +kernel
  have l0 : ("0" : Str).length = 1 := by decide +kernel
  refine ⟨_, (pss_cons (ps_if (PW.pt (pw_or (pt_cmpR op_lt (pe_callB call_len_str rfl T.len boot_len (pa_cons (pv 0) pa_nil)) pe_int (nomark _)) (pw_or (pt_cmpR op_gt (pe_callB call_len_str rfl T.len boot_len (pa_cons (pv 0) pa_nil)) pe_int (nomark _)) (pw_or1 (PW.pt (pw_and (pt_cmpR op_eq (pe_ix ix_str (pv 0) pe_int (fun _ _ => rfl)) pe_str (nomark _)) (pw_and1 (pt_cmpR op_gt (pe_callB call_len_str rfl T.len boot_len (pa_cons (pv 0) pa_nil)) pe_int (nomark _))))))))) (pss_one (ps_ret pe_non)) pss_nil)
    (pss_cons (ps_if (pt_cmpR op_gt (pe_callB call_len_seq rfl T.len boot_len (pa_cons (pe_compG (xs := ["_law_sign"]) (ts := []) rfl ⟨rfl, sub0, rfl, rfl, rfl, by decide +kernel, rfl, rfl⟩ (pi_str (pv 0)) (fun C s3 H3 fp => (pg_name (i := 0) (show (["_law_sign"] : List Str).Nodup by decide +kernel) rfl (Or.inl rfl) (Or.inr rfl))) (fun C s3 H3 fp => (pif_one (pt_cmpR op_notInS (pv 0) pe_str (by with_unfolding_all rfl)))) (fun C s3 H3 fp => (pv 0))) pa_nil)) pe_int (nomark _)) (pss_one (ps_ret pe_non)) pss_nil)
    (pss_one (ps_ret (pe_callTy call_intS rfl T.int boot_int (pa_cons (pv 0) pa_nil)))))), ?_⟩
  dsimp only
  refine seq_by (fun σ H' => H' = H ∧ σ = [some (.str x)] ∧ 1 ≤ x.length ∧ x.length ≤ 60 ∧ (Txt.startswith x "0" && decide (x.length > 1)) = false) ?_ ?_
  · intro M hM
    refine ⟨_, rfl, x, rfl, le200 (by omega), _, _, rfl, rfl, _, rfl, ?_⟩
    refine ite2 (fun c => ?_) (fun c => ?_)
    · have c' : (x.length : Int) < 1 := of_decide_eq_true c
      exact no (by unfold figOk; rw [decide_eq_false (by omega)]; rfl) _ (Same.refl _)
    have c1 : ¬ (x.length : Int) < 1 := ofD c
    refine ⟨_, rfl, x, rfl, le200 (by omega), _, _, rfl, rfl, _, rfl, ?_⟩
    refine ite2 (fun c => ?_) (fun c => ?_)
    · have c' : (60 : Int) < (x.length : Int) := of_decide_eq_true c
      exact no (by unfold figOk; rw [decide_eq_false (show ¬ x.length ≤ 60 by omega), Bool.and_false]; rfl) _ (Same.refl _)
    have c2 : ¬ (60 : Int) < (x.length : Int) := ofD c
    obtain ⟨d, hd⟩ : ∃ d, x.cps.toList[0]? = some d := ⟨_, List.getElem?_eq_getElem (by omega)⟩
    have sw : Txt.startswith x "0" = decide (V.str ⟨#[d]⟩ = V.str "0") := by
      have e : ("0" : Str) = ⟨#[48]⟩ := by decide +kernel
      rw [Bool.eq_iff_iff, starts_iff, e0, l0, decide_eq_true_eq, e]
      have tk : x.cps.toList.take 1 = [d] := by
        match hx : x.cps.toList, hd with
        | c :: r, hd => simp at hd; rw [hd]; rfl
      rw [tk]
      constructor
      · intro h; simp at h; rw [h]
      · intro h; injection h with h; injection h with h; simp at h; rw [h]
    refine ⟨_, rfl, x, 0, d, rfl, rfl, le200 (by omega), atI_nat (j := 0) hd, rfl, _, rfl, ?_⟩
    rw [← sw]
    cases hs : Txt.startswith x "0" with
    | false => exact iteF (iteF (hM _ _ ⟨rfl, rfl, by omega, by omega, by rw [hs]; rfl⟩))
    | true =>
      refine iteT ⟨_, rfl, x, rfl, le200 (by omega), _, _, rfl, rfl, _, rfl, ?_⟩
      by_cases c3 : x.length > 1
      · refine iteT2 (decide_eq_true (show (1 : Int) < (x.length : Int) by omega)) ?_
        exact no (by unfold figOk; rw [hs, decide_eq_true c3]; simp) _ (Same.refl _)
      · refine iteF' (decide_eq_false (show ¬ (1 : Int) < (x.length : Int) by omega)) (hM _ _ ⟨rfl, rfl, by omega, by omega, by rw [hs, decide_eq_false c3]; rfl⟩)
  rintro σ H' ⟨rfl, rfl, h1, h2, h3⟩
  refine ⟨_, rfl, x, rfl, ax, fun D hD => comp_strF (fun c => !isFig c) hD (le200 (by omega)) (fun c H2 k s2 hk => ⟨_, rfl, _, _, rfl, rfl, _, rfl, hk⟩) (fun c H2 k s2 hk => ⟨_, rfl, hk⟩) fun H2 s2 hD2 => ?_⟩
  refine ⟨D, _, rfl, .inl (SqL.of hD2), _, _, rfl, rfl, _, rfl, ?_⟩
  rw [List.length_map]
  have ef : figOk x = x.cps.toList.all isFig := by
    unfold figOk
    rw [decide_eq_true h1, decide_eq_true h2, h3]
    rfl
  by_cases c : ((x.cps.toList.filter fun c => !isFig c).length : Int) > 0
  · refine iteT2 (decide_eq_true c) (no ?_ _ s2)
    rw [ef, Bool.eq_false_iff]
    intro z
    have : x.cps.toList.filter (fun c => !isFig c) = [] := List.filter_eq_nil_iff.mpr fun c hc => by rw [List.all_eq_true.mp z c hc]; simp
    rw [this] at c
    exact absurd c (by decide)
  · refine iteF' (decide_eq_false c) ?_
    have al : x.cps.toList.all isFig = true := by
      refine List.all_eq_true.mpr fun d hd => ?_
      cases hf : isFig d with
      | true => rfl
      | false =>
        exfalso
        have : d ∈ x.cps.toList.filter fun c => !isFig c := List.mem_filter.mpr ⟨hd, by rw [hf]; rfl⟩
        have := List.length_pos_of_mem this
        omega
    have dg : ∀ d ∈ x.cps.toList, 48 ≤ d ∧ d ≤ 57 := fun d hd => isFig_iff.mp (List.all_eq_true.mp al d hd)
    have it := intText_digits dg (fun z => by rw [z] at ht; simp at ht; omega) (by omega)
    have := q H2 s2
    unfold figT at this
    rw [ef, al, if_pos rfl, it] at this
    exact ⟨_, rfl, x, _, rfl, it, by omega, this⟩
noncomputable def spLwh : Sp := fun vs H Q _ => ∃ x : Str, vs = [.str x] ∧ Asc x ∧ x.length ≤ 100000 ∧ ∀ H', Same H H' → Q (numV (wholeT x)) H'
theorem sc_lwh : FnScope ["_law_word_here", "_law_found"] ["_law_word_here"] (defScope s_lwh) := ⟨rfl, rfl, rfl, by decide +kernel, rfl, by decide +kernel, by decide +kernel⟩
theorem ok_lwh {f : Addr} {fd : FuncData} (F : Fun K "_law_whole" "_law_whole" s_lwh f fd) (T : Txt mg) {ffig : Addr} {dfig : FuncData} (Gfig : FnOk P w K mg base CX0 1 ffig dfig ["_law_word_here"] spFig) (bfig : Binds K dfig ["_law_word_here"] []) (kfig : PySem.W.keepIn K (.ref ffig) = true) (mfig : mg "_law_figures" = some (.ref ffig)) : FnOk P w K mg base CX0 2 f fd ["_law_word_here"] spLwh := by
  refine F.ok sc_lwh (fun vs H Q E h => ?_) (fun cdv A outer s H vs Q E hr h => ?_)
  · obtain ⟨x, rfl, _⟩ := h
    rfl
  obtain ⟨x, rfl, ax, lx, q⟩ := h
  have el : ("-" : Str).length = 1 := by decide +kernel
  have hw : (Txt.slice x none (some (1 : Int)) = "-") ↔ Txt.startswith x "-" = true := slice_is (k := 1) el
  refine ⟨_, (pss_cons (ps_if (pt_cmpR op_ne (pe_slice sl_str (pv 0) po_none (po_some pe_int)) pe_str (nomark _)) (pss_one (ps_ret (pe_call Gfig hr rfl mfig kfig bfig .nil pass0 (pa_cons (pv 0) pa_nil)))) pss_nil)
    (pss_cons (ps_set (i := 1) sc_lwh.nd rfl (Or.inl rfl) (pe_call Gfig hr rfl mfig kfig bfig .nil pass0 (pa_cons (pe_slice sl_str (pv 0) (po_some pe_int) po_none) pa_nil)))
    (pss_cons (ps_if (PW.pt (pw_or (pt_cmpR op_isN (pv 1) pe_non (nomark _)) (pw_or1 (pt_cmpR op_eq (pv 1) pe_int (nomark _))))) (pss_one (ps_ret pe_non)) pss_nil)
    (pss_one (ps_ret (pe_op op_sub pe_int (pv 1))))))), ?_⟩
  refine ⟨_, rfl, 1, rfl, x, rfl, le200 (by omega), rfl, _, rfl, ?_⟩
  cases hs : Txt.startswith x "-" with
  | false =>
    have ne : ¬ V.str (Txt.slice x none (some (1 : Int))) = V.str "-" := fun z => by
      injection z with z
      rw [hw.mp z] at hs; cases hs
    refine iteT2 (by rw [decide_eq_false ne]; rfl) ?_
    refine ⟨_, rfl, x, rfl, ax, lx, fun H1 s1 => ?_⟩
    rw [← whole_plain hs]
    exact q _ s1
  | true =>
    refine iteF' (by rw [decide_eq_true (congrArg V.str (hw.mpr hs))]; rfl) ?_
    obtain ⟨r, rfl⟩ := dash hs
    have es : Txt.slice ("-" ++ r) (some (1 : Int)) none = r := slice_from (k := 1) rfl el
    have ar : Asc r := by rw [← es]; exact slice_asc ax _ _
    have lr : r.length ≤ 100000 := by rw [← es]; exact Nat.le_trans (Txt.slice_le _ _ _) lx
    refine ⟨_, rfl, 1, rfl, _, rfl, le200 (by omega), ?_⟩
    rw [es]
    refine ⟨r, rfl, ar, lr, fun H1 s1 => ?_⟩
    have q' := q H1 s1
    rw [whole_neg] at q'
    cases hf : figT r with
    | none =>
      rw [hf] at q'
      exact ⟨_, rfl, rfl, _, rfl, iteT q'⟩
    | some n =>
      rw [hf] at q'
      have q2 : Q (numV (if n = 0 then none else some (0 - n))) H1 := q'
      refine ⟨_, rfl, rfl, _, rfl, iteF ⟨_, rfl, rfl, _, rfl, ?_⟩⟩
      by_cases c : n = 0
      · rw [if_pos c] at q2
        exact iteT2 (decide_eq_true (congrArg V.int c)) q2
      · rw [if_neg c] at q2
        refine iteF' (decide_eq_false fun z => c (by injection z)) ?_
        exact ⟨_, rfl, _, _, rfl, rfl, q2⟩
noncomputable def numD (b : Bool) (x : Str) (H : Hp) (v : V) : Prop := match endT b x with
  | none => v = .non
  | some t => Den H t v
noncomputable def spNum : Sp := fun vs H Q _ => ∃ (x : Str) (b : Bool), vs = [.str x, .bl b] ∧ Asc x ∧ x.length ≤ 50000 ∧ ∀ v H', Same H H' → numD b x H' v → Q v H'
noncomputable def numL (b : Bool) (ps : List Str) : Option Th := match b, ps with
  | false, [p] => (wholeT p).map .int
  | true, [p] => (wholeT p).map fun t => .tup [.int t, .int 1]
  | true, [p, q] => (wholeT p).bind fun t => (figT q).bind fun d => if d < 2 ∨ Int.gcd t d ≠ 1 then none else some (.tup [.int t, .int d])
  | _, _ => none
theorem num_L (b : Bool) (x : Str) : numT b x = numL b (Txt.split x "/") := rfl
theorem at_b {u v : V} {c : Bool} : atI [u, v] (if c = true then 1 else 0) = some (if c = true then v else u) := by cases c <;> rfl
theorem sc_num : FnScope ["_law_word_here", "_law_is_rule_here", "_law_parts", "_law_top", "_law_bottom"] ["_law_word_here", "_law_is_rule_here"] (defScope s_num) := ⟨rfl, rfl, rfl, by decide +kernel, rfl, by decide +kernel, by decide +kernel⟩
theorem ok_num {f : Addr} {fd : FuncData} (F : Fun K "_law_number" "_law_number" s_num f fd) (T : Txt mg) {flwh : Addr} {dlwh : FuncData} (Glwh : FnOk P w K mg base CX0 3 flwh dlwh ["_law_word_here"] spLwh) (blwh : Binds K dlwh ["_law_word_here"] []) (klwh : PySem.W.keepIn K (.ref flwh) = true) (mlwh : mg "_law_whole" = some (.ref flwh)) {ffig : Addr} {dfig : FuncData} (Gfig : FnOk P w K mg base CX0 3 ffig dfig ["_law_word_here"] spFig) (bfig : Binds K dfig ["_law_word_here"] []) (kfig : PySem.W.keepIn K (.ref ffig) = true) (mfig : mg "_law_figures" = some (.ref ffig)) {fdiv : Addr} {ddiv : FuncData} (Gdiv : FnOk P w K mg base CX0 3 fdiv ddiv ["_law_one", "_law_other"] spDivA) (bdiv : Binds K ddiv ["_law_one", "_law_other"] []) (kdiv : PySem.W.keepIn K (.ref fdiv) = true) (mdiv : mg "_law_divisor" = some (.ref fdiv)) : FnOk P w K mg base CX0 4 f fd ["_law_word_here", "_law_is_rule_here"] spNum := by
  refine F.ok sc_num (fun vs H Q E h => ?_) (fun cdv A outer s H vs Q E hr h => ?_)
  · obtain ⟨x, b, rfl, _⟩ := h
    rfl
  obtain ⟨x, b, rfl, ax, lx, q⟩ := h
  have mem := split_mem (y := "/") ax
  have cnt := split_count x "/"
  have q0 : ∀ v H', Same H H' → (match numT b x with | none => v = .non | some t => Den H' t v) → Q v H' := fun v H' s' h => q v H' s' (by unfold numD; rw [← num_end]; exact h)
  refine ⟨_, (pss_cons (ps_set (i := 2) sc_num.nd rfl (Or.inl rfl) (pe_split (pv 0) pe_str))
    (pss_cons (ps_set (i := 3) sc_num.nd rfl (Or.inl rfl) (pe_call Glwh hr rfl mlwh klwh blwh .nil pass0 (pa_cons (pe_ix ix_list (pv 2) pe_int (fun _ _ => rfl)) pa_nil)))
    (pss_cons (ps_if (pt_not (pt_val (pv 1))) (pss_one (ps_ret (pe_ix ix_list (pe_lst (pa_cons pe_non (pa_cons (pv 3) pa_nil))) (pe_callTy call_int1 rfl T.int boot_int (pa_cons (pe_cmpR op_eq (pe_callB call_len_seq rfl T.len boot_len (pa_cons (pv 2) pa_nil)) pe_int (nomark _)) pa_nil)) (fun _ _ => rfl)))) pss_nil)
    (pss_cons (ps_if (PW.pt (pw_or (pt_cmpR op_eq (pe_callB call_len_seq rfl T.len boot_len (pa_cons (pv 2) pa_nil)) pe_int (nomark _)) (pw_or1 (pt_cmpR op_isN (pv 3) pe_non (nomark _))))) (pss_one (ps_ret (pe_ix ix_list (pe_lst (pa_cons (pe_tup (pa_cons (pv 3) (pa_cons pe_int pa_nil))) (pa_cons pe_non pa_nil))) (pe_callTy call_int1 rfl T.int boot_int (pa_cons (pe_or (pe_cmpR op_isN (pv 3) pe_non (nomark _)) (pe_one (pe_cmpR op_gt (pe_callB call_len_seq rfl T.len boot_len (pa_cons (pv 2) pa_nil)) pe_int (nomark _)))) pa_nil)) (fun _ _ => rfl)))) pss_nil)
    (pss_cons (ps_set (i := 4) sc_num.nd rfl (Or.inl rfl) (pe_call Gfig hr rfl mfig kfig bfig .nil pass0 (pa_cons (pe_ix ix_list (pv 2) pe_int (fun _ _ => rfl)) pa_nil)))
    (pss_cons (ps_if (PW.pt (pw_or (pt_cmpR op_gt (pe_callB call_len_seq rfl T.len boot_len (pa_cons (pv 2) pa_nil)) pe_int (nomark _)) (pw_or (pt_cmpR op_isN (pv 4) pe_non (nomark _)) (pw_or (pt_cmpR op_lt (pv 4) pe_int (nomark _)) (pw_or1 (pt_cmpR op_ne (pe_call Gdiv hr rfl mdiv kdiv bdiv .nil pass0 (pa_cons (pv 3) (pa_cons (pv 4) pa_nil))) pe_int (nomark _))))))) (pss_one (ps_ret pe_non)) pss_nil)
    (pss_one (ps_ret (pe_tup (pa_cons (pv 3) (pa_cons (pv 4) pa_nil))))))))))), ?_⟩
  refine ⟨_, rfl, _, rfl, _, rfl, by decide +kernel, le200 (by omega), le200 (by omega), fun l hl => ?_⟩
  have sl := same_new hl (.lst ((Txt.split x "/").map V.str))
  have xl : upd H l (.lst ((Txt.split x "/").map V.str)) l = some (.lst ((Txt.split x "/").map V.str)) := upd_same
  generalize upd H l (.lst ((Txt.split x "/").map V.str)) = H1 at *
  obtain ⟨p, r, ep⟩ : ∃ p r, Txt.split x "/" = p :: r := by
    rcases split_parts (x := x) (y := "/") (by decide +kernel) (by decide +kernel) with ⟨e1, _⟩ | ⟨p, q, r, e1, _⟩
    · exact ⟨_, _, e1⟩
    · exact ⟨_, _, e1⟩
  rw [num_L] at q0
  rw [ep] at xl mem q0
  obtain ⟨ap, lp⟩ := mem p (.head _)
  refine ⟨_, rfl, l, _, 0, _, rfl, rfl, SqL.of xl, at0, p, rfl, ap, by omega, fun H2 s2 => ?_⟩
  have xl2 := s2 _ _ xl
  have s12 := sl.trans s2
  have lr : (((p :: r).map V.str).length : Int) = (r.length : Int) + 1 := by simp
  cases b with
  | false =>
    refine ⟨_, rfl, _, rfl, iteT ?_⟩
    refine ⟨_, rfl, (by show 2 ≤ sizeLine; decide), fun c hc => ?_⟩
    have s3 := same_new hc (.lst [V.non, numV (wholeT p)])
    have x3 : upd H2 c (.lst [V.non, numV (wholeT p)]) c = some (.lst [V.non, numV (wholeT p)]) := upd_same
    generalize upd H2 c (.lst [V.non, numV (wholeT p)]) = H3 at *
    refine ⟨_, rfl, l, _, rfl, .inl (SqL.of (s3 _ _ xl2)), rfl, .inr ⟨_, rfl, c, _, _, _, rfl, rfl, SqL.of x3, at_b, ?_⟩⟩
    refine q0 _ _ (s12.trans s3) ?_
    rw [lr]
    cases r with
    | nil =>
      rw [if_pos (by simp)]
      show match (wholeT p).map Th.int with | none => _ | some t => _
      cases wholeT p <;> rfl
    | cons u r =>
      rw [if_neg (by simp; omega)]
      rfl
  | true =>
    refine ⟨_, rfl, _, rfl, iteF ?_⟩
    have pick : ∀ c : Bool, (r.length = 0 ∨ wholeT p = none) → (c = true ↔ (wholeT p = none ∨ 2 ≤ r.length)) → ∀ H3, Same H2 H3 → ∀ a, H3 a = some (.tup [numV (wholeT p), .int 1]) → Q (if c = true then .non else .ref a) H3 := fun c h0 hc H3 s3 a ha => by
      refine q0 _ _ (s12.trans s3) ?_
      cases hp : wholeT p with
      | none =>
        rw [if_pos (hc.mpr (.inl hp))]
        match r with
        | [] => show match (wholeT p).map (fun t => Th.tup [.int t, .int 1]) with | none => _ | some t => _; rw [hp]; rfl
        | [u] => simp [numL, hp]
        | _ :: _ :: _ => rfl
      | some t =>
        rw [hp] at hc h0 ha
        have r0 : r = [] := List.eq_nil_of_length_eq_zero (by rcases h0 with z | z; exact z; cases z)
        subst r0
        rw [if_neg (fun z => by rcases hc.mp z with y | y; cases y; simp at y)]
        show match (wholeT p).map (fun t => Th.tup [.int t, .int 1]) with | none => _ | some t => _
        rw [hp]
        exact den_p ha
    refine ⟨_, rfl, l, _, rfl, .inl (SqL.of xl2), rfl, _, rfl, ?_⟩
    rw [lr]
    by_cases r0 : r.length = 0
    · refine iteT2 (by simp; omega) ?_
      refine ⟨_, rfl, (by show 2 ≤ sizeLine; decide), fun c1 hc1 => ⟨(by show 2 ≤ sizeLine; decide), fun c2 hc2 => ?_⟩⟩
      have s3 := same_new hc1 (.tup [numV (wholeT p), V.int 1])
      have x3 : upd H2 c1 (.tup [numV (wholeT p), V.int 1]) c1 = some (.tup [numV (wholeT p), V.int 1]) := upd_same
      generalize upd H2 c1 (.tup [numV (wholeT p), V.int 1]) = H3 at *
      have s4 := same_new hc2 (.lst [V.ref c1, V.non])
      have x4 : upd H3 c2 (.lst [V.ref c1, V.non]) c2 = some (.lst [V.ref c1, V.non]) := upd_same
      generalize upd H3 c2 (.lst [V.ref c1, V.non]) = H4 at *
      have s34 := s3.trans s4
      have fin : ∀ c : Bool, (c = true ↔ (wholeT p = none ∨ 2 ≤ r.length)) → ∃ P' XS I V', V.ref c2 = .ref P' ∧ V.int (if c = true then 1 else 0) = .int I ∧ SqL K H4 P' XS ∧ atI XS I = some V' ∧ Q V' H4 := fun c hc => ⟨c2, _, _, _, rfl, rfl, SqL.of x4, at_b, pick c (.inl r0) hc H4 s34 c1 (s4 _ _ x3)⟩
      refine ⟨_, rfl, rfl, _, rfl, ?_⟩
      cases hp : wholeT p with
      | none =>
        rw [hp] at fin
        exact iteT (.inr ⟨true, rfl, fin true (by simp)⟩)
      | some t =>
        rw [hp] at fin
        refine iteF ⟨_, rfl, l, _, rfl, .inl (SqL.of (s34 _ _ xl2)), _, _, rfl, rfl, .inr ⟨_, rfl, fin _ ?_⟩⟩
        rw [lr]
        simp
        omega
    · refine iteF' (by simp; omega) ?_
      refine ⟨_, rfl, rfl, _, rfl, ?_⟩
      cases hp : wholeT p with
      | none =>
        rw [hp] at pick
        refine iteT ?_
        refine ⟨_, rfl, (by show 2 ≤ sizeLine; decide), fun c1 hc1 => ⟨(by show 2 ≤ sizeLine; decide), fun c2 hc2 => ?_⟩⟩
        have s3 := same_new hc1 (.tup [numV none, V.int 1])
        have x3 : upd H2 c1 (.tup [numV none, V.int 1]) c1 = some (.tup [numV none, V.int 1]) := upd_same
        have s4 := same_new hc2 (.lst [V.ref c1, V.non])
        refine ⟨_, rfl, rfl, _, rfl, iteT (.inr ⟨true, rfl, c2, _, _, _, rfl, rfl, SqL.of upd_same, at_b, pick true (.inr rfl) (by simp) _ (s3.trans s4) c1 (s4 _ _ x3)⟩)⟩
      | some t =>
        refine iteF ?_
        match r, r0, xl2, mem, lr, q0 with
        | u :: r, _, xl2, mem, lr, q0 =>
        obtain ⟨au, lu⟩ := mem u (by simp)
        refine ⟨_, rfl, l, _, 1, _, rfl, rfl, SqL.of xl2, at1, u, rfl, au, by omega, fun H3 s3 => ?_⟩
        have s13 := s12.trans s3
        refine ⟨_, rfl, l, _, rfl, .inl (SqL.of (s3 _ _ xl2)), _, _, rfl, rfl, _, rfl, ?_⟩
        rw [lr]
        by_cases r2 : r.length = 0
        · have er : r = [] := List.eq_nil_of_length_eq_zero r2
          subst er
          refine iteF' (by simp) ?_
          have q3 : ∀ v H', Same H H' → (match (figT u).bind fun d => if d < 2 ∨ Int.gcd t d ≠ 1 then none else some (Th.tup [.int t, .int d]) with | none => v = .non | some t => Den H' t v) → Q v H' := fun v H' s' h => q0 v H' s' (by
            have e : numL true [p, u] = (figT u).bind fun d => if d < 2 ∨ Int.gcd t d ≠ 1 then none else some (Th.tup [.int t, .int d]) := by simp [numL, hp]
            rw [e]; exact h)
          refine ⟨_, rfl, rfl, _, rfl, ?_⟩
          cases hf : figT u with
          | none =>
            rw [hf] at q3
            exact iteT (q3 _ _ s13 rfl)
          | some d =>
            rw [hf] at q3
            have d0 := fig_num hf
            have q4 : ∀ v H', Same H H' → (match (if d < 2 ∨ Int.gcd t d ≠ 1 then none else some (Th.tup [.int t, .int d])) with | none => v = .non | some t => Den H' t v) → Q v H' := q3
            refine iteF ⟨_, rfl, _, _, rfl, rfl, _, rfl, ?_⟩
            refine ite2 (fun c => ?_) (fun c => ?_)
            · have c' : d < 2 := of_decide_eq_true c
              rw [if_pos (.inl c')] at q4
              exact q4 _ _ s13 rfl
            have c' : ¬ d < 2 := ofD c
            refine ⟨_, rfl, _, rfl, t, d, rfl, by omega, rfl, _, rfl, ?_⟩
            by_cases g : Int.gcd t d = 1
            · rw [if_neg (by omega)] at q4
              refine iteF' (by rw [g]; rfl) ?_
              exact ⟨_, rfl, _, rfl, (by show 2 ≤ sizeLine; decide), fun a ha => q4 _ _ (s13.trans (same_new ha _)) (den_p upd_same)⟩
            · rw [if_pos (.inr g)] at q4
              refine iteT2 ?_ (q4 _ _ s13 rfl)
              have : ¬ V.int ((Int.gcd t d : Nat) : Int) = V.int 1 := fun z => by injection z with z; omega
              rw [decide_eq_false this]
              rfl
        · refine iteT2 (by simp; omega) ?_
          refine q0 _ _ s13 ?_
          match r, r2 with
          | v :: r, _ => rfl
noncomputable def resO (b : Bool) (t : Th) : Option (Int × List (Th × Th)) := if b = true then readOf true t else (behind t).bind (readOf false)
noncomputable def resT (p : Int × List (Th × Th)) : Th := .tup [.int p.1, .tup (p.2.map pT)]
noncomputable def resD (b : Bool) (t : Th) (H : Hp) (v : V) : Prop := match resO b t with
  | none => v = .non
  | some p => Den H (resT p) v
theorem num_flat {b : Bool} {x : Str} {H : Hp} {v : V} (h : numD b x H v) : FlatN H v := by
  unfold numD at h
  cases e : endT b x with
  | none => rw [e] at h; exact .inl h
  | some t =>
    rw [e] at h
    have h' : Den H t v := h
    cases b with
    | false =>
      unfold endT at e
      rw [if_neg Bool.false_ne_true] at e
      cases hw : wholeT x with
      | none => rw [hw] at e; cases e
      | some n => rw [hw] at e; cases e; exact .inr (.inl ⟨n, h'⟩)
    | true =>
      obtain ⟨p, rfl, _⟩ := end_frac e
      obtain ⟨a, xs, rfl, ha, _⟩ := h'
      exact .inr (.inr ⟨a, xs, rfl, ha⟩)
theorem num_non {b : Bool} {x : Str} {H : Hp} {v : V} (h : numD b x H v) : nonV v = (endT b x).isNone := by
  unfold numD at h
  cases e : endT b x with
  | none => rw [e] at h; rw [show v = .non from h]; rfl
  | some t =>
    rw [e] at h
    have h' : Den H t v := h
    cases b with
    | false =>
      unfold endT at e
      rw [if_neg Bool.false_ne_true] at e
      cases hw : wholeT x with
      | none => rw [hw] at e; cases e
      | some n => rw [hw] at e; cases e; rw [show v = V.int n from h']; rfl
    | true =>
      obtain ⟨p, rfl, _⟩ := end_frac e
      obtain ⟨a, xs, rfl, ha, _⟩ := h'
      rfl
noncomputable def NumDs (b : Bool) (H : Hp) : List Str → List V → Prop
  | [], vs => vs = []
  | x :: xs, vs => ∃ v ws, vs = v :: ws ∧ numD b x H v ∧ NumDs b H xs ws
theorem numD_keep {b : Bool} {x : Str} {H H' : Hp} {v : V} (s : ∀ t, endT b x = some t → Den H t v → Den H' t v) (h : numD b x H v) : numD b x H' v := by
  unfold numD at h ⊢
  cases e : endT b x with
  | none => rw [e] at h; exact h
  | some t => rw [e] at h; exact s t e h
theorem NumDs.map {b : Bool} {H H' : Hp} (s : ∀ x v, numD b x H v → numD b x H' v) : ∀ {xs : List Str} {vs : List V}, NumDs b H xs vs → NumDs b H' xs vs
  | [], _, h => h
  | x :: xs, _, ⟨v, ws, e, h1, h2⟩ => ⟨v, ws, e, s x v h1, h2.map s⟩
theorem NumDs.snoc {b : Bool} {H : Hp} : ∀ {xs : List Str} {vs : List V} {x : Str} {v : V}, NumDs b H xs vs → numD b x H v → NumDs b H (xs ++ [x]) (vs ++ [v])
  | [], vs, x, v, h, d => by rw [show vs = [] from h]; exact ⟨v, [], rfl, d, rfl⟩
  | y :: ys, vs, x, v, ⟨u, ws, e, h1, h2⟩, d => by rw [e]; exact ⟨u, ws ++ [v], rfl, h1, h2.snoc d⟩
theorem NumDs.len {b : Bool} {H : Hp} : ∀ {xs : List Str} {vs : List V}, NumDs b H xs vs → vs.length = xs.length
  | [], _, h => by rw [show _ = [] from h]; rfl
  | x :: xs, _, ⟨v, ws, e, h1, h2⟩ => by rw [e, List.length_cons, List.length_cons, h2.len]
theorem NumDs.flat {b : Bool} {H : Hp} : ∀ {xs : List Str} {vs : List V}, NumDs b H xs vs → ∀ v ∈ vs, FlatN H v
  | [], _, h, v, hv => by rw [show _ = [] from h] at hv; cases hv
  | x :: xs, _, ⟨u, ws, e, h1, h2⟩, v, hv => by
    rw [e] at hv
    rcases List.mem_cons.mp hv with z | z
    · rw [z]; exact num_flat h1
    · exact h2.flat v z
noncomputable def spLrd : Sp := fun vs H Q _ => ∃ (v : V) (b : Bool) (t : Th), vs = [v, .bl b] ∧ Den H t v ∧ okT t ∧ ∀ u H', Same H H' → resD b t H' u → Q u H'
theorem sc_lrd : FnScope ["_law_text_here", "_law_is_rule_here", "_law_words", "_law_n", "_law_pairs", "_law_part", "_law_some"] ["_law_text_here", "_law_is_rule_here"] (defScope s_lrd) := ⟨rfl, rfl, rfl, by decide +kernel, rfl, by decide +kernel, by decide +kernel⟩
theorem ok_lrd {f : Addr} {fd : FuncData} (F : Fun K "_law_read" "_law_read" s_lrd f fd) (T : Txt mg) {flwh : Addr} {dlwh : FuncData} (Glwh : FnOk P w K mg base CX0 6 flwh dlwh ["_law_word_here"] spLwh) (blwh : Binds K dlwh ["_law_word_here"] []) (klwh : PySem.W.keepIn K (.ref flwh) = true) (mlwh : mg "_law_whole" = some (.ref flwh)) {fnum : Addr} {dnum : FuncData} (Gnum : FnOk P w K mg base CX0 6 fnum dnum ["_law_word_here", "_law_is_rule_here"] spNum) (bnum : Binds K dnum ["_law_word_here", "_law_is_rule_here"] []) (knum : PySem.W.keepIn K (.ref fnum) = true) (mnum : mg "_law_number" = some (.ref fnum)) : FnOk P w K mg base CX0 7 f fd ["_law_text_here", "_law_is_rule_here"] spLrd := by
  refine F.ok sc_lrd (fun vs H Q E h => ?_) (fun cdv A outer s H vs Q E hr h => ?_)
  · obtain ⟨v, b, t, rfl, _⟩ := h
    rfl
  obtain ⟨v, b, t, rfl, dv, ok, q⟩ := h
  refine ⟨_, (pss_cons (ps_if (PW.pt (pw_or (pt_not (pt_val (pe_callB call_isinstD rfl T.isinstance boot_isinstance (pa_cons (pv 0) (pa_cons (pe_bltn (v := .ty "str") rfl T.str boot_str rfl) pa_nil))))) (pw_or1 (PW.pt (pw_and (pt_not (pt_val (pv 1))) (pw_and1 (pt_cmpR op_ne (pe_slice sl_str (pv 0) po_none (po_some pe_int)) pe_str (nomark _)))))))) (pss_one (ps_ret pe_non)) pss_nil)
    (pss_cons (ps_set (i := 2) sc_lrd.nd rfl (Or.inl rfl) (pe_split (pe_ix ix_list (pe_lst (pa_cons (pv 0) (pa_cons (pe_slice sl_str (pv 0) (po_some pe_int) po_none) pa_nil))) (pe_callTy call_int1 rfl T.int boot_int (pa_cons (pe_not (pv 1)) pa_nil)) (fun _ _ => rfl)) pe_str))
    (pss_cons (ps_set (i := 3) sc_lrd.nd rfl (Or.inl rfl) (pe_call Glwh hr rfl mlwh klwh blwh .nil pass0 (pa_cons (pe_ix ix_list (pv 2) pe_int (fun _ _ => rfl)) pa_nil)))
    (pss_cons (ps_if (PW.pt (pw_or (pt_cmpR op_ne (pe_callB call_len_seq rfl T.len boot_len (pa_cons (pv 2) pa_nil)) pe_int (nomark _)) (pw_or1 (pt_cmpR op_isN (pv 3) pe_non (nomark _))))) (pss_one (ps_ret pe_non)) pss_nil)
    (pss_cons (ps_set (i := 4) sc_lrd.nd rfl (Or.inl rfl) (pe_lst pa_nil))
    (pss_cons (ps_for PassesOwn.never rfl (pi_list (pe_split (pe_ix ix_list (pv 2) pe_int (fun _ _ => rfl)) pe_str)) (pg_name (i := 5) sc_lrd.nd rfl (Or.inl rfl)) (pss_cons (ps_setC (i := 6) sc_lrd.nd rfl (Or.inl rfl) (xs := ["_law_word_here"]) (ts := [("_law_is_rule_here", 1)]) rfl ⟨rfl, sub1 rfl, rfl, rfl, rfl, by decide +kernel, rfl, rfl⟩ (pi_list (pe_split (pv 5) pe_str)) (fun C s3 H3 fp => (pg_name (i := 0) (show (["_law_word_here", "_law_is_rule_here"] : List Str).Nodup by decide +kernel) rfl (Or.inl rfl) (Or.inr rfl))) (fun C s3 H3 fp => pif_nil) (fun C s3 H3 fp => (pe_call Gnum hr rfl mnum knum bnum .nil pass0 (pa_cons (pv 0) (pa_cons (pv 1) pa_nil)))))
      (pss_cons (ps_if (PW.pt (pw_or (pt_cmpR op_ne (pe_callB call_len_seq rfl T.len boot_len (pa_cons (pv 6) pa_nil)) pe_int (nomark _)) (pw_or1 (pt_cmpR (op_inNon hr.units) pe_non (pv 6) (by with_unfolding_all rfl))))) (pss_one (ps_ret pe_non)) pss_nil)
      (pss_one (ps_expr (pe_bm PySem.F.plainAttrs_list PySem.F.slot_list_append PySem.F.type_list_append mt_append (pv 4) (pa_cons (pe_callTy call_tuple_of rfl T.tuple boot_tuple (pa_cons (pv 6) pa_nil)) pa_nil)))))))
    (pss_one (ps_ret (pe_tup (pa_cons (pv 3) (pa_cons (pe_callTy call_tuple_of rfl T.tuple boot_tuple (pa_cons (pv 4) pa_nil)) pa_nil))))))))))), ?_⟩
  have no : resO b t = none → ∀ H', Same H H' → Q .non H' := fun h H' s' => q _ _ s' (by unfold resD; rw [h])
  dsimp only
  refine seq_by (fun σ H' => H' = H ∧ σ = [some v, some (.bl b), none, none, none, none, none] ∧ ∃ x y, t = .str x ∧ v = .str x ∧ y = (if b = true then x else Txt.slice x (some 5) none) ∧ resO b t = pairsOf b y) ?_ ?_
  · intro M hM
    refine ⟨_, rfl, v, t, _, _, rfl, dv, isStr_kit t, _, rfl, ?_⟩
    cases t with
    | str x =>
      refine iteF ?_
      cases (show v = V.str x from dv)
      obtain ⟨ax, lx⟩ := ok x rfl
      cases b with
      | true => exact ⟨_, rfl, _, rfl, iteF (iteF (hM _ _ ⟨rfl, rfl, x, x, rfl, rfl, rfl, rfl⟩))⟩
      | false =>
        have hw : (Txt.slice x none (some (5 : Int)) = "plan ") ↔ Txt.startswith x "plan " = true := slice_is (k := 5) (by decide +kernel)
        refine ⟨_, rfl, _, rfl, iteT ⟨_, rfl, 5, rfl, x, rfl, le200 (by omega), rfl, _, rfl, ?_⟩⟩
        cases hs : Txt.startswith x "plan " with
        | false =>
          have ne : ¬ V.str (Txt.slice x none (some (5 : Int))) = V.str "plan " := fun z => by
            injection z with z
            rw [hw.mp z] at hs; cases hs
          refine iteT2 (by rw [decide_eq_false ne]; rfl) (no ?_ _ (Same.refl _))
          unfold resO behind
          dsimp only
          rw [hs]
          rfl
        | true =>
          refine iteF' (by rw [decide_eq_true (congrArg V.str (hw.mpr hs))]; rfl) (hM _ _ ⟨rfl, rfl, x, _, rfl, rfl, rfl, ?_⟩)
          unfold resO behind
          dsimp only
          rw [hs]
          rfl
    | _ =>
      refine iteT (no ?_ _ (Same.refl _))
      unfold resO
      cases b <;> rfl
  rintro σ H' ⟨rfl, rfl, x, y, rfl, rfl, ey, er⟩
  obtain ⟨ax, lx⟩ := ok x rfl
  have ay : Asc y := by rw [ey]; split; exact ax; exact slice_asc ax _ _
  have ly : y.length ≤ 40000 := by rw [ey]; split; exact lx; exact Nat.le_trans (Txt.slice_le _ _ _) lx
  refine ⟨_, rfl, _, rfl, 5, rfl, x, rfl, le200 (by omega), (by show 2 ≤ sizeLine; decide), fun c hc => ?_⟩
  have s1 := same_new hc (.lst [V.str x, V.str (Txt.slice x (some 5) none)])
  have x1 : upd H' c (.lst [V.str x, V.str (Txt.slice x (some 5) none)]) c = some (.lst [V.str x, V.str (Txt.slice x (some 5) none)]) := upd_same
  generalize upd H' c (.lst [V.str x, V.str (Txt.slice x (some 5) none)]) = H1 at *
  have pk : (if (!b) = true then V.str (Txt.slice x (some 5) none) else V.str x) = V.str y := by rw [ey]; cases b <;> rfl
  refine ⟨_, rfl, _, rfl, .inr ⟨_, rfl, c, _, _, _, rfl, rfl, SqL.of x1, at_b, ?_⟩⟩
  rw [pk]
  have mem := split_mem (y := ": ") ay
  have cnt := split_count y ": "
  refine ⟨y, rfl, _, rfl, by decide +kernel, le200 (by omega), le200 (by omega), fun l hl => ?_⟩
  have s2 := same_new hl (.lst ((Txt.split y ": ").map V.str))
  have x2 : upd H1 l (.lst ((Txt.split y ": ").map V.str)) l = some (.lst ((Txt.split y ": ").map V.str)) := upd_same
  generalize upd H1 l (.lst ((Txt.split y ": ").map V.str)) = H2 at *
  rw [← law_pairs] at er
  unfold lawPairs at er
  obtain ⟨p, r, ep⟩ : ∃ p r, Txt.split y ": " = p :: r := by
    rcases split_parts (x := y) (y := ": ") (by decide +kernel) (by decide +kernel) with ⟨e1, _⟩ | ⟨p, q, r, e1, _⟩
    · exact ⟨_, _, e1⟩
    · exact ⟨_, _, e1⟩
  rw [ep] at x2 mem er
  obtain ⟨ap, lp⟩ := mem p (.head _)
  have s12 := s1.trans s2
  refine ⟨_, rfl, l, _, 0, _, rfl, rfl, SqL.of x2, at0, p, rfl, ap, by omega, fun H3 s3 => ?_⟩
  have s13 := s12.trans s3
  have x3 := s3 _ _ x2
  have lr : (((p :: r).map V.str).length : Int) = (r.length : Int) + 1 := by simp
  dsimp only
  refine seq_by (fun σ G => G = H3 ∧ σ = [some (.str x), some (.bl b), some (.ref l), some (numV (wholeT p)), none, none, none] ∧ ∃ u n, r = [u] ∧ wholeT p = some n) ?_ ?_
  · intro M hM
    refine ⟨_, rfl, l, _, rfl, .inl (SqL.of x3), rfl, _, rfl, ?_⟩
    rw [lr]
    by_cases r1 : r.length = 1
    · refine iteF' (by simp; omega) ?_
      obtain ⟨u, eu⟩ : ∃ u, r = [u] := by
        match r, r1 with
        | [u], _ => exact ⟨u, rfl⟩
      subst eu
      refine ⟨_, rfl, rfl, _, rfl, ?_⟩
      cases hp : wholeT p with
      | none => exact iteT (no (by rw [er]; show (wholeT p).bind _ = none; rw [hp]; rfl) _ s13)
      | some n => exact iteF (hM _ _ ⟨rfl, by rw [hp]; rfl, u, n, rfl, hp⟩)
    · refine iteT2 (by simp; omega) (no ?_ _ s13)
      rw [er]
      match r, r1 with
      | [], _ => rfl
      | [_], h => exact absurd rfl h
      | _ :: _ :: _, _ => rfl
  rintro σ G ⟨rfl, rfl, u, n, rfl, hn⟩
  rw [hn]
  have er2 : resO b (.str x) = (allO ((Txt.split u "; ").map (pairOf b))).map fun ps => (n, ps) := by
    rw [er]
    show (wholeT p).bind _ = _
    rw [hn]
    rfl
  obtain ⟨au, lu⟩ := mem u (by simp)
  have mem2 := split_mem (y := "; ") au
  have cnt2 := split_count u "; "
  refine ⟨Nat.zero_le _, fun L hL => ?_⟩
  have s4 := same_new hL (.lst [])
  have x4 : upd G L (.lst []) L = some (.lst []) := upd_same
  have hLH : H' L = none := by
    cases z : H' L with
    | none => rfl
    | some o => rw [s13 _ _ z] at hL; cases hL
  generalize upd G L (.lst []) = G1 at *
  refine ⟨_, rfl, l, _, 1, _, rfl, rfl, SqL.of (s4 _ _ x3), at1, u, rfl, _, rfl, by decide +kernel, le200 (by omega), le200 (by omega), fun l2 hl2 => ?_⟩
  have s5 := same_new hl2 (.lst ((Txt.split u "; ").map V.str))
  have x5 : upd G1 l2 (.lst ((Txt.split u "; ").map V.str)) l2 = some (.lst ((Txt.split u "; ").map V.str)) := upd_same
  generalize upd G1 l2 (.lst ((Txt.split u "; ").map V.str)) = G2 at *
  generalize Txt.split u "; " = zs at *
  refine ⟨l2, rfl, ⟨_, SqL.of x5⟩, ?_⟩
  have no2 : (∃ z ∈ zs, pairOf b z = none) → ∀ H'', Same H' H'' → Q .non H'' := fun ⟨z, hz, e⟩ => no (by rw [er2, allO_none (List.mem_map.mpr ⟨z, hz, e⟩)]; rfl)
  have s15 : Same H' G2 := (s13.trans s4).trans s5
  refine for_list (xs := zs.map V.str) (fun i σ G' => Same H' G' ∧ G' l2 = some (.lst (zs.map V.str)) ∧ ∃ (v5 v6 : Option V) (ws : List V) (ps : List (Th × Th)), σ = [some (.str x), some (.bl b), some (.ref l), some (.int n), some (.ref L), v5, v6] ∧ G' L = some (.lst ws) ∧ (zs.take i).map (pairOf b) = ps.map some ∧ (∀ t ∈ ps, flat 2 (pT t)) ∧ Dens G' (ps.map pT) ws) ⟨s15, x5, none, none, [], [], rfl, s5 _ _ x4, rfl, fun t ht => absurd ht (by simp), (show Dens _ [] [] from rfl)⟩ ?_ ?_ ?_
  · rintro i σ G' hi ⟨_, h, _⟩
    exact SqL.of h
  · rintro i v σ G3 hv ⟨sm, h2, v5, v6, ws, ps, rfl, hLw, m1, m2, m3⟩
    obtain ⟨z, hz, rfl⟩ : ∃ z, zs[i]? = some z ∧ v = .str z := by
      rw [List.getElem?_map] at hv
      cases hq : zs[i]? with
      | none => rw [hq] at hv; cases hv
      | some z => rw [hq] at hv; exact ⟨z, rfl, (Option.some.inj hv).symm⟩
    have zm := List.mem_of_getElem? hz
    have il : i < zs.length := (List.getElem?_eq_some_iff.mp hz).1
    obtain ⟨az, lz⟩ := mem2 z zm
    have mem3 := split_mem (y := " ") az
    have cnt3 := split_count z " "
    have lws : ws.length = i := by
      have := m3.len
      have e2 := congrArg List.length m1
      simp at this e2
      omega
    refine ⟨_, rfl, _, rfl, _, rfl, by decide +kernel, le200 (by omega), le200 (by omega), fun l3 hl3 => ?_⟩
    have s6 := same_new hl3 (.lst ((Txt.split z " ").map V.str))
    have x6 : upd G3 l3 (.lst ((Txt.split z " ").map V.str)) l3 = some (.lst ((Txt.split z " ").map V.str)) := upd_same
    generalize upd G3 l3 (.lst ((Txt.split z " ").map V.str)) = G4 at *
    refine ⟨l3, rfl, ⟨_, SqL.of x6⟩, fun D hD => ?_⟩
    have ep2 : pairOf b z = (match Txt.split z " " with | [u, v] => (endT b u).bind fun t1 => (endT b v).bind fun t2 => some (t1, t2) | _ => none) := rfl
    generalize Txt.split z " " = ys at *
    refine comp_listRG (fun j us G' => NumDs b G' (ys.take j) us) hD (SqL.of x6) (le200 (by rw [List.length_map]; omega)) rfl ?_ ?_
    · intro j v us G5 k hv' sm5 hD5 _ r hk
      obtain ⟨y', hy', rfl⟩ : ∃ y', ys[j]? = some y' ∧ v = .str y' := by
        rw [List.getElem?_map] at hv'
        cases hq : ys[j]? with
        | none => rw [hq] at hv'; cases hv'
        | some y' => rw [hq] at hv'; exact ⟨y', rfl, (Option.some.inj hv').symm⟩
      obtain ⟨ay', ly'⟩ := mem3 y' (List.mem_of_getElem? hy')
      refine ⟨_, rfl, _, rfl, y', b, rfl, ay', by omega, fun w G6 s6' dn => hk _ _ s6' ?_⟩
      rw [List.take_add_one, hy']
      have r2 : NumDs b G6 (ys.take j ++ [y']) (us ++ [w]) := (r.map fun x v h => numD_keep (fun t _ d => d.keep s6') h).snoc dn
      exact r2.map fun x v h => numD_keep (fun t e d => den_upd (s6' _ _ hD5) 1 t v (end_flat e) d) h
    intro us G5 sm5 hD5 lus r
    rw [List.length_map, List.take_of_length_le (Nat.le_refl _)] at r
    have lu' := r.len
    have sm5' := (sm.trans s6).trans sm5
    dsimp only
    refine seq_by (fun σ G6 => G6 = G5 ∧ σ = [some (.str x), some (.bl b), some (.ref l), some (.int n), some (.ref L), some (.str z), some (.ref D)] ∧ ∃ t a1 a2, us = [a1, a2] ∧ pairOf b z = some t ∧ Den G5 t.1 a1 ∧ Den G5 t.2 a2) ?_ ?_
    · intro M hM
      refine ⟨_, rfl, D, _, rfl, .inl (SqL.of hD5), rfl, _, rfl, ?_⟩
      by_cases h22 : us.length = 2
      · refine iteF' (by simp [h22]) ?_
        refine ⟨_, rfl, D, us, rfl, rfl, hD5, r.flat, _, rfl, ?_⟩
        have y2l : ys.length = 2 := by omega
        obtain ⟨y1, y2, rfl⟩ : ∃ y1 y2, ys = [y1, y2] := by
          match ys, y2l with
          | [y1, y2], _ => exact ⟨y1, y2, rfl⟩
        obtain ⟨a1, _, e1, d1, a2, _, e2, d2, e3⟩ := r
        subst e3 e2 e1
        · have n1 := num_non d1
          have n2 := num_non d2
          have ea : [a1, a2].any nonV = ((endT b y1).isNone || (endT b y2).isNone) := by simp [n1, n2]
          rw [ea]
          unfold numD at d1 d2
          cases h1 : endT b y1 with
          | none =>
            refine iteT2 (by simp) (no2 ⟨z, zm, ?_⟩ _ sm5')
            rw [ep2]
            show (endT b y1).bind _ = none
            rw [h1]; rfl
          | some t1 =>
            rw [h1] at d1
            cases h2' : endT b y2 with
            | none =>
              refine iteT2 (by simp) (no2 ⟨z, zm, ?_⟩ _ sm5')
              rw [ep2]
              show (endT b y1).bind _ = none
              rw [h1]
              show (endT b y2).bind _ = none
              rw [h2']; rfl
            | some t2 =>
              rw [h2'] at d2
              refine iteF' (by simp) (hM _ _ ⟨rfl, rfl, (t1, t2), a1, a2, rfl, ?_, d1, d2⟩)
              rw [ep2]
              show (endT b y1).bind _ = _
              rw [h1]
              show (endT b y2).bind _ = _
              rw [h2']; rfl
      · refine iteT2 (by simp; omega) (no2 ⟨z, zm, ?_⟩ _ sm5')
        rw [ep2]
        match ys, lu' with
        | [], _ => rfl
        | [_], _ => rfl
        | [_, _], h => exact absurd h h22
        | _ :: _ :: _ :: _, _ => rfl
    rintro σ G6 ⟨rfl, rfl, t, a1, a2, rfl, ht, d1, d2⟩
    have hL6 := (s6.trans sm5) _ _ hLw
    refine ⟨_, rfl, .inl ⟨rfl, _, SqL.of hL6⟩, _, rfl, D, _, rfl, .inl ⟨SqL.of hD5, fun tp htp => ?_⟩⟩
    have s7 := same_new htp (.tup [a1, a2])
    have x7 : upd G6 tp (.tup [a1, a2]) tp = some (.tup [a1, a2]) := upd_same
    generalize upd G6 tp (.tup [a1, a2]) = G7 at *
    have hL7 := s7 _ _ hL6
    refine ⟨L, ws, _, rfl, rfl, hL7, Nat.lt_of_le_of_lt (show ws.length ≤ 50000 by omega) (by decide), ?_⟩
    have fl : ∀ t' ∈ ps ++ [t], flat 2 (pT t') := fun t' h' => by
      rcases List.mem_append.mp h' with h' | h'
      · exact m2 t' h'
      · rw [List.mem_singleton.mp h']; exact pair_flat ht
    have nl2 : l2 ≠ L := fun e => by rw [e] at x5; have := s5 _ _ x4; rw [x5] at this; cases zs with
      | nil => cases il
      | cons _ _ => cases this
    refine ⟨same_upd (sm5'.trans s7) hLH, by rw [upd_ne nl2]; exact ((s6.trans sm5).trans s7) _ _ h2, _, _, ws ++ [.ref tp], ps ++ [t], rfl, upd_same, ?_, fl, ?_⟩
    · rw [List.take_add_one, hz, List.map_append, List.map_append, m1]
      show _ ++ [pairOf b z] = _
      rw [ht]
      rfl
    · refine dens_upd (d := 2) hL7 (fun t' h' => ?_) ?_
      · obtain ⟨w', hw', rfl⟩ := List.mem_map.mp h'
        exact fl w' hw'
      · rw [List.map_append]
        exact dens_snoc (m3.keep ((s6.trans sm5).trans s7)) (den2 x7 (d1.keep s7) (d2.keep s7))
  · rintro σ G3 ⟨sm, h2, v5, v6, ws, ps, rfl, hLw, m1, m2, m3⟩
    rw [List.length_map, List.take_of_length_le (Nat.le_refl _)] at m1
    refine ⟨_, rfl, _, rfl, L, _, rfl, .inl ⟨SqL.of hLw, fun tp htp => ⟨(by show 2 ≤ sizeLine; decide), fun a ha => ?_⟩⟩⟩
    have s4' := same_new htp (.tup ws)
    have s5' := same_new ha (.tup [V.int n, V.ref tp])
    refine q _ _ ((sm.trans s4').trans s5') ?_
    unfold resD
    rw [er2, m1, allO_some]
    exact ⟨a, _, rfl, upd_same, _, _, rfl, rfl, _, _, rfl, ⟨tp, ws, rfl, s5' _ _ upd_same, m3.keep (s4'.trans s5')⟩, rfl⟩
noncomputable def noL (p q : Fq) : Bool := decide (q.1 * p.2 ≤ p.1 * q.2)
noncomputable def spNol : Sp := fun vs H Q _ => ∃ (f g : Addr) (p q : Fq), vs = [.ref f, .ref g] ∧ H f = some (.tup [.int p.1, .int p.2]) ∧ H g = some (.tup [.int q.1, .int q.2]) ∧ Sm2 p ∧ Sm2 q ∧ Q (.bl (noL p q)) H
theorem sc_nol : FnScope ["_law_one", "_law_other"] ["_law_one", "_law_other"] (defScope s_nol) := ⟨rfl, rfl, rfl, by decide +kernel, rfl, by decide +kernel, by decide +kernel⟩
theorem ok_nol {f : Addr} {fd : FuncData} (F : Fun K "_law_no_less" "_law_no_less" s_nol f fd) (T : Txt mg) : FnOk P w K mg base CX0 1 f fd ["_law_one", "_law_other"] spNol := by
  refine F.ok sc_nol (fun vs H Q E h => ?_) (fun cdv A outer s H vs Q E hr h => ?_)
  · obtain ⟨f, g, p, q, rfl, _⟩ := h
    rfl
  obtain ⟨f, g, p, q, rfl, hf, hg, sp, sq, qq⟩ := h
  refine ⟨_, (pss_one (ps_ret (pe_cmpR op_ge (pe_op op_mulK (pe_ix ix_tup (pv 0) pe_int (fun _ _ => rfl)) (pe_ix ix_tup (pv 1) pe_int (fun _ _ => rfl))) (pe_op op_mulK (pe_ix ix_tup (pv 1) pe_int (fun _ _ => rfl)) (pe_ix ix_tup (pv 0) pe_int (fun _ _ => rfl))) (nomark _)))), ?_⟩
  exact ⟨_, rfl, f, _, 0, _, rfl, rfl, SqT.of hf, at0, _, rfl, g, _, 1, _, rfl, rfl, SqT.of hg, at1, _, _, rfl, rfl, ⟨sp.1, sq.2⟩, _, rfl, g, _, 0, _, rfl, rfl, SqT.of hg, at0, _, rfl, f, _, 1, _, rfl, rfl, SqT.of hf, at1, _, _, rfl, rfl, ⟨sq.1, sp.2⟩, _, _, rfl, rfl, qq⟩
structure RuB (n : Int) (fs : List Sq) : Prop where
  n1 : 1 ≤ n
  n12 : n ≤ 12
  len : (fs.length : Int) = n + 1
  one : ∀ f ∈ fs, 0 ≤ f.1.1 ∧ f.2.1 ≤ f.2.2 ∧ noL f.2 f.1 = true
  ris : ∀ k f g, fs[k]? = some g → fs[k + 1]? = some f → noL f.1 g.1 = true ∧ noL f.2 g.2 = true
noncomputable def FrOk (p : Fq) : Prop := 1 ≤ p.2 ∧ Int.gcd p.1 p.2 = 1 ∧ Sm2 p
noncomputable def spIsr : Sp := fun vs H Q _ => ∃ (n : Int) (v : V) (fs : List Sq), vs = [.int n, v] ∧ Den H (.tup (fs.map ssT)) v ∧ (∀ f ∈ fs, FrOk f.1 ∧ FrOk f.2) ∧ (RuB n fs → Q (.bl true) H) ∧ (¬ RuB n fs → Q (.bl false) H)
theorem sc_isr : FnScope ["_law_n", "_law_pairs", "_law_k", "_law_low", "_law_high"] ["_law_n", "_law_pairs"] (defScope s_isr) := ⟨rfl, rfl, rfl, by decide +kernel, rfl, by decide +kernel, by decide +kernel⟩
theorem ok_isr {f : Addr} {fd : FuncData} (F : Fun K "_law_is_rule" "_law_is_rule" s_isr f fd) (T : Txt mg) {fnol : Addr} {dnol : FuncData} (Gnol : FnOk P w K mg base CX0 1 fnol dnol ["_law_one", "_law_other"] spNol) (bnol : Binds K dnol ["_law_one", "_law_other"] []) (knol : PySem.W.keepIn K (.ref fnol) = true) (mnol : mg "_law_no_less" = some (.ref fnol)) : FnOk P w K mg base CX0 2 f fd ["_law_n", "_law_pairs"] spIsr := by
  refine F.ok sc_isr (fun vs H Q E h => ?_) (fun cdv A outer s H vs Q E hr h => ?_)
  · obtain ⟨n, v, fs, rfl, _⟩ := h
    rfl
  obtain ⟨n, v, fs, rfl, dv, ok, q1, q2⟩ := h
  refine ⟨_, (pss_cons (ps_if (PW.pt (pw_or (pt_not (pt_chain op_le op_le pe_int (pv 0) pe_int)) (pw_or1 (pt_cmpR op_ne (pe_callB call_len_seq rfl T.len boot_len (pa_cons (pv 1) pa_nil)) (pe_op op_add (pv 0) pe_int) (nomark _))))) (pss_one (ps_ret pe_bl)) pss_nil)
    (pss_cons (ps_for PassesOwn.never rfl (pi_range1 rfl T.range (pa_cons (pe_op op_add (pv 0) pe_int) pa_nil)) (pg_name (i := 2) sc_isr.nd rfl (Or.inl rfl)) (pss_cons (ps_asg (pe_ix ix_tup (pv 1) (pv 2) (fun _ _ => rfl)) (pg_tup rfl (pgs_cons (pg_name (i := 3) sc_isr.nd rfl (Or.inl rfl)) (pgs_cons (pg_name (i := 4) sc_isr.nd rfl (Or.inl rfl)) pgs_nil))))
      (pss_cons (ps_if (PW.pt (pw_or (pt_cmpR op_lt (pe_ix ix_tup (pv 3) pe_int (fun _ _ => rfl)) pe_int (nomark _)) (pw_or (pt_cmpR op_gt (pe_ix ix_tup (pv 4) pe_int (fun _ _ => rfl)) (pe_ix ix_tup (pv 4) pe_int (fun _ _ => rfl)) (nomark _)) (pw_or1 (pt_not (pt_val (pe_call Gnol hr rfl mnol knol bnol .nil pass0 (pa_cons (pv 4) (pa_cons (pv 3) pa_nil))))))))) (pss_one (ps_ret pe_bl)) pss_nil)
      (pss_cons (ps_if (PW.pt (pw_and (pt_cmpR op_gt (pv 2) pe_int (nomark _)) (pw_and1 (pt_not (pt_val (pe_call Gnol hr rfl mnol knol bnol .nil pass0 (pa_cons (pv 3) (pa_cons (pe_ix ix_tup (pe_ix ix_tup (pv 1) (pe_op op_sub (pv 2) pe_int) (fun _ _ => rfl)) pe_int (fun _ _ => rfl)) pa_nil)))))))) (pss_one (ps_ret pe_bl)) pss_nil)
      (pss_one (ps_if (PW.pt (pw_and (pt_cmpR op_gt (pv 2) pe_int (nomark _)) (pw_and1 (pt_not (pt_val (pe_call Gnol hr rfl mnol knol bnol .nil pass0 (pa_cons (pv 4) (pa_cons (pe_ix ix_tup (pe_ix ix_tup (pv 1) (pe_op op_sub (pv 2) pe_int) (fun _ _ => rfl)) pe_int (fun _ _ => rfl)) pa_nil)))))))) (pss_one (ps_ret pe_bl)) pss_nil))))))
    (pss_one (ps_ret pe_bl)))), ?_⟩
  obtain ⟨tb, xs, rfl, htb, dd⟩ := dv
  have lx := dd.len
  rw [List.length_map] at lx
  dsimp only
  refine seq_by (fun σ H' => H' = H ∧ σ = [some (.int n), some (.ref tb), none, none, none] ∧ 1 ≤ n ∧ n ≤ 12 ∧ (fs.length : Int) = n + 1) ?_ ?_
  · intro M hM
    refine ⟨_, rfl, _, _, rfl, rfl, _, rfl, ?_⟩
    refine ite2 (fun c => ?_) (fun c => ?_)
    · have c1 : 1 ≤ n := of_decide_eq_true c
      refine ⟨_, _, rfl, rfl, _, rfl, ?_⟩
      refine ite2 (fun c => q2 (fun r => ?_)) (fun c => ?_)
      · have := r.n12
        have : ¬ n ≤ 12 := by simpa using c
        omega
      · have c2 : n ≤ 12 := by simpa using c
        refine ⟨_, rfl, tb, _, rfl, .inr (SqT.of htb), _, rfl, _, _, rfl, rfl, rfl, _, rfl, ?_⟩
        rw [lx]
        by_cases c3 : (fs.length : Int) = n + 1
        · exact iteF' (by simp [c3]) (hM _ _ ⟨rfl, rfl, c1, c2, c3⟩)
        · exact iteT2 (by simp [c3]) (q2 fun r => c3 r.len)
    · exact ⟨_, rfl, iteT (q2 fun r => ofD c r.n1)⟩
  rintro σ H' ⟨rfl, rfl, n1, n12, ln⟩
  refine ⟨_, rfl, _, _, rfl, rfl, _, rfl, by omega, by omega, ?_⟩
  have en : (n + 1).toNat = fs.length := by omega
  rw [en]
  refine for_range (lo := 0) (fun i σ G => G = H' ∧ (∃ v2 v3 v4, σ = [some (.int n), some (.ref tb), v2, v3, v4]) ∧ (∀ f ∈ fs.take i, 0 ≤ f.1.1 ∧ f.2.1 ≤ f.2.2 ∧ noL f.2 f.1 = true) ∧ ∀ k f g, k + 1 < i → fs[k]? = some g → fs[k + 1]? = some f → noL f.1 g.1 = true ∧ noL f.2 g.2 = true) ⟨rfl, ⟨none, none, none, rfl⟩, fun f hf => absurd hf (by simp), fun k f g hk => absurd hk (by omega)⟩ ?_ ?_
  · rintro i σ G hi ⟨rfl, ⟨v2, v3, v4, rfl⟩, p1, p2⟩
    rw [Int.zero_add]
    have ef := List.getElem?_eq_getElem hi
    generalize hfi : fs[i] = f at ef
    obtain ⟨w, f1, f2⟩ := dd.get (i := i) (t := ssT f) (by rw [List.getElem?_map, ef]; rfl)
    obtain ⟨c, a, b, rfl, hc, ha, hb⟩ := den_ss f2
    have fm := List.mem_of_getElem? ef
    obtain ⟨ok1, ok2⟩ := ok f fm
    refine ⟨_, rfl, _, rfl, tb, _, _, _, rfl, rfl, SqT.of htb, atI_nat f1, c, _, rfl, SqT.of hc, rfl, _, _, rfl, _, _, rfl, rfl, ?_⟩
    dsimp only
    have bad1 : ¬ (0 ≤ f.1.1 ∧ f.2.1 ≤ f.2.2 ∧ noL f.2 f.1 = true) → Q (.bl false) G := fun h => q2 fun r => h (r.one f fm)
    refine seq_by (fun σ H2 => H2 = G ∧ σ = [some (.int n), some (.ref tb), some (.int i), some (.ref a), some (.ref b)] ∧ 0 ≤ f.1.1 ∧ f.2.1 ≤ f.2.2 ∧ noL f.2 f.1 = true) ?_ ?_
    · intro M hM
      refine ⟨_, rfl, a, _, 0, _, rfl, rfl, SqT.of ha, at0, _, _, rfl, rfl, _, rfl, ?_⟩
      refine ite2 (fun c => bad1 fun z => ?_) (fun c => ?_)
      · have : f.1.1 < 0 := of_decide_eq_true c
        omega
      have c1 : ¬ f.1.1 < 0 := ofD c
      refine ⟨_, rfl, b, _, 0, _, rfl, rfl, SqT.of hb, at0, _, rfl, b, _, 1, _, rfl, rfl, SqT.of hb, at1, _, _, rfl, rfl, _, rfl, ?_⟩
      refine ite2 (fun c => bad1 fun z => ?_) (fun c => ?_)
      · have : f.2.2 < f.2.1 := of_decide_eq_true c
        omega
      have c2 : ¬ f.2.2 < f.2.1 := ofD c
      refine ⟨_, rfl, _, rfl, b, a, f.2, f.1, rfl, hb, ha, ok2.2.2, ok1.2.2, _, rfl, ?_⟩
      cases hn : noL f.2 f.1 with
      | true => exact iteF (hM _ _ ⟨rfl, rfl, by omega, by omega, hn⟩)
      | false => exact iteT (bad1 fun z => by rw [hn] at z; cases z.2.2)
    rintro σ H2 ⟨rfl, rfl, o1, o2, o3⟩
    have up : ∀ f' ∈ fs.take (i + 1), 0 ≤ f'.1.1 ∧ f'.2.1 ≤ f'.2.2 ∧ noL f'.2 f'.1 = true := fun f' hf' => by
      rw [List.take_add_one, ef] at hf'
      rcases List.mem_append.mp hf' with z | z
      · exact p1 f' z
      · cases List.mem_singleton.mp z; exact ⟨o1, o2, o3⟩
    by_cases i0 : i = 0
    · subst i0
      refine ⟨_, rfl, _, _, rfl, rfl, _, rfl, ?_⟩
      refine iteF' (by simp) ?_
      refine iteF ?_
      refine ⟨_, rfl, _, _, rfl, rfl, _, rfl, ?_⟩
      refine iteF' (by simp) ?_
      exact iteF ⟨rfl, ⟨_, _, _, rfl⟩, up, fun k f g hk => absurd hk (by omega)⟩
    · have eg := List.getElem?_eq_getElem (show i - 1 < fs.length by omega)
      generalize hgi : fs[i - 1] = g at eg
      obtain ⟨w, g1, g2⟩ := dd.get (i := i - 1) (t := ssT g) (by rw [List.getElem?_map, eg]; rfl)
      obtain ⟨c', a', b', rfl, hc', ha', hb'⟩ := den_ss g2
      obtain ⟨ok3, ok4⟩ := ok g (List.mem_of_getElem? eg)
      have ei : (i : Int) - 1 = ((i - 1 : Nat) : Int) := by omega
      have bad2 : ¬ (noL f.1 g.1 = true ∧ noL f.2 g.2 = true) → Q (.bl false) H2 := fun h => q2 fun r => h (r.ris (i - 1) f g eg (by rw [show i - 1 + 1 = i by omega]; exact ef))
      refine seq_by (fun σ H3 => H3 = H2 ∧ σ = [some (.int n), some (.ref tb), some (.int i), some (.ref a), some (.ref b)] ∧ noL f.1 g.1 = true) ?_ ?_
      · intro M hM
        refine ⟨_, rfl, _, _, rfl, rfl, _, rfl, ?_⟩
        refine iteT2 (by simp; omega) ?_
        refine ⟨_, rfl, _, rfl, _, rfl, _, _, rfl, rfl, tb, _, _, _, rfl, rfl, SqT.of htb, by rw [ei]; exact atI_nat g1, c', _, 0, _, rfl, rfl, SqT.of hc', at0, a, a', f.1, g.1, rfl, ha, ha', ok1.2.2, ok3.2.2, _, rfl, ?_⟩
        cases hn : noL f.1 g.1 with
        | true => exact iteF (hM _ _ ⟨rfl, rfl, hn⟩)
        | false => exact iteT (bad2 fun z => by rw [hn] at z; cases z.1)
      rintro σ H3 ⟨rfl, rfl, o4⟩
      refine ⟨_, rfl, _, _, rfl, rfl, _, rfl, ?_⟩
      refine iteT2 (by simp; omega) ?_
      refine ⟨_, rfl, _, rfl, _, rfl, _, _, rfl, rfl, tb, _, _, _, rfl, rfl, SqT.of htb, by rw [ei]; exact atI_nat g1, c', _, 1, _, rfl, rfl, SqT.of hc', at1, b, b', f.2, g.2, rfl, hb, hb', ok2.2.2, ok4.2.2, _, rfl, ?_⟩
      cases hn : noL f.2 g.2 with
      | false => exact iteT (bad2 fun z => by rw [hn] at z; cases z.2)
      | true =>
        refine iteF ⟨rfl, ⟨_, _, _, rfl⟩, up, fun k f' g' hk e1 e2 => ?_⟩
        by_cases hk' : k + 1 < i
        · exact p2 k f' g' hk' e1 e2
        · have ek : k = i - 1 := by omega
          subst ek
          rw [eg] at e1
          rw [show i - 1 + 1 = i by omega, ef] at e2
          cases e1
          cases e2
          exact ⟨o4, hn⟩
  · rintro σ G ⟨rfl, ⟨v2, v3, v4, rfl⟩, p1, p2⟩
    refine q1 ⟨n1, n12, ln, fun f hf => p1 f (by rw [List.take_of_length_le (Nat.le_refl _)]; exact hf), fun k f g e1 e2 => p2 k f g (List.getElem?_eq_some_iff.mp e2).1 e1 e2⟩
structure PlB (n : Int) (bs : List (Int × Int)) : Prop where
  n1 : 1 ≤ n
  n12 : n ≤ 12
  len : (bs.length : Int) = n
  inn : ∀ (i : Nat) (p : Int × Int), bs[i]? = some p → InB ((i : Int) + 1) p
  last : ∀ p, bs[n.toNat - 1]? = some p → p.2 = p.1 + 1
noncomputable def spIsp : Sp := fun vs H Q _ => ∃ (n : Int) (v : V) (bs : List (Int × Int)), vs = [.int n, v] ∧ Den H (.tup (bs.map ppT)) v ∧ (PlB n bs → Q (.bl true) H) ∧ (¬ PlB n bs → Q (.bl false) H)
theorem sc_isp : FnScope ["_law_n", "_law_pairs", "_law_t"] ["_law_n", "_law_pairs"] (defScope s_isp) := ⟨rfl, rfl, rfl, by decide +kernel, rfl, by decide +kernel, by decide +kernel⟩
theorem ok_isp {f : Addr} {fd : FuncData} (F : Fun K "_law_is_plan" "_law_is_plan" s_isp f fd) (T : Txt mg) : FnOk P w K mg base CX0 1 f fd ["_law_n", "_law_pairs"] spIsp := by
  refine F.ok sc_isp (fun vs H Q E h => ?_) (fun cdv A outer s H vs Q E hr h => ?_)
  · obtain ⟨n, v, fs, rfl, _⟩ := h
    rfl
  obtain ⟨n, v, bs, rfl, dv, q1, q2⟩ := h
  refine ⟨_, (pss_cons (ps_if (PW.pt (pw_or (pt_not (pt_chain op_le op_le pe_int (pv 0) pe_int)) (pw_or1 (pt_cmpR op_ne (pe_callB call_len_seq rfl T.len boot_len (pa_cons (pv 1) pa_nil)) (pv 0) (nomark _))))) (pss_one (ps_ret pe_bl)) pss_nil)
    (pss_cons (ps_for PassesOwn.never rfl (pi_range2 rfl T.range (pa_cons pe_int (pa_cons (pe_op op_add (pv 0) pe_int) pa_nil))) (pg_name (i := 2) sc_isp.nd rfl (Or.inl rfl)) (pss_one (ps_if (pt_not (pt_chain3 op_le op_lt op_le (pe_un un_neg pe_int) (pe_ix ix_tup (pe_ix ix_tup (pv 1) (pe_op op_sub (pv 2) pe_int) (fun _ _ => rfl)) pe_int (fun _ _ => rfl)) (pe_ix ix_tup (pe_ix ix_tup (pv 1) (pe_op op_sub (pv 2) pe_int) (fun _ _ => rfl)) pe_int (fun _ _ => rfl)) (pe_op op_add (pv 2) pe_int))) (pss_one (ps_ret pe_bl)) pss_nil)))
    (pss_one (ps_ret (pe_cmpR op_eq (pe_ix ix_tup (pe_ix ix_tup (pv 1) (pe_op op_sub (pv 0) pe_int) (fun _ _ => rfl)) pe_int (fun _ _ => rfl)) (pe_op op_add (pe_ix ix_tup (pe_ix ix_tup (pv 1) (pe_op op_sub (pv 0) pe_int) (fun _ _ => rfl)) pe_int (fun _ _ => rfl)) pe_int) (nomark _)))))), ?_⟩
  obtain ⟨tb, xs, rfl, htb, dd⟩ := dv
  have lx := dd.len
  rw [List.length_map] at lx
  dsimp only
  refine seq_by (fun σ H' => H' = H ∧ σ = [some (.int n), some (.ref tb), none] ∧ 1 ≤ n ∧ n ≤ 12 ∧ (bs.length : Int) = n) ?_ ?_
  · intro M hM
    refine ⟨_, rfl, _, _, rfl, rfl, _, rfl, ?_⟩
    refine ite2 (fun c => ?_) (fun c => ?_)
    · have c1 : 1 ≤ n := of_decide_eq_true c
      refine ⟨_, _, rfl, rfl, _, rfl, ?_⟩
      refine ite2 (fun c => q2 (fun r => ?_)) (fun c => ?_)
      · have := r.n12
        have : ¬ n ≤ 12 := by simpa using c
        omega
      · have c2 : n ≤ 12 := by simpa using c
        refine ⟨_, rfl, tb, _, rfl, .inr (SqT.of htb), _, rfl, rfl, _, rfl, ?_⟩
        rw [lx]
        by_cases c3 : (bs.length : Int) = n
        · exact iteF' (by simp [c3]) (hM _ _ ⟨rfl, rfl, c1, c2, c3⟩)
        · exact iteT2 (by simp [c3]) (q2 fun r => c3 r.len)
    · exact ⟨_, rfl, iteT (q2 fun r => ofD c r.n1)⟩
  rintro σ H' ⟨rfl, rfl, n1, n12, ln⟩
  have at_ : ∀ (i : Nat) (k : Int), i < bs.length → k = (i : Int) → ∃ c, atI xs k = some (.ref c) ∧ H' c = some (.tup [.int (bs.getD i (0, 0)).1, .int (bs.getD i (0, 0)).2]) := fun i k hi ek => by
    have eb := List.getElem?_eq_getElem hi
    obtain ⟨w, g1, g2⟩ := dd.get (i := i) (t := ppT bs[i]) (by rw [List.getElem?_map, eb]; rfl)
    obtain ⟨c, rfl, hc⟩ := den_pp g2
    refine ⟨c, by rw [ek]; exact atI_nat g1, ?_⟩
    rw [List.getD_eq_getElem?_getD, eb]
    exact hc
  have gD : ∀ (i : Nat) (p : Int × Int), bs[i]? = some p → bs.getD i (0, 0) = p := fun i p e => by rw [List.getD_eq_getElem?_getD, e]; rfl
  refine ⟨_, rfl, _, _, rfl, rfl, 1, _, rfl, ⟨by omega, by omega, by omega, by omega⟩, ?_⟩
  have en : (n + 1 - 1).toNat = bs.length := by omega
  refine for_range (lo := 1) (fun i σ G => G = H' ∧ (∃ v2, σ = [some (.int n), some (.ref tb), v2]) ∧ ∀ (j : Nat) (p : Int × Int), j < i → bs[j]? = some p → InB ((j : Int) + 1) p) ⟨rfl, ⟨none, rfl⟩, fun j p hj => absurd hj (by omega)⟩ ?_ ?_
  · rintro i σ G hi ⟨rfl, ⟨v2, rfl⟩, p1⟩
    have hi' : i < bs.length := by omega
    obtain ⟨c, g1, g2⟩ := at_ i (1 + (i : Int) - 1) hi' (by omega)
    have eb := List.getElem?_eq_getElem hi'
    have ed := gD i _ eb
    generalize bs[i] = p at *
    rw [ed] at g2
    have bad : ¬ InB ((i : Int) + 1) p → Q (.bl false) G := fun h => q2 fun r => h (r.inn i p eb)
    refine ⟨_, rfl, _, rfl, _, rfl, _, _, rfl, rfl, tb, _, _, _, rfl, rfl, SqT.of htb, g1, c, _, 0, _, rfl, rfl, SqT.of g2, at0, _, _, rfl, rfl, _, rfl, ?_⟩
    refine ite2 (fun c0 => ?_) (fun c0 => iteT (bad fun hb => ofD c0 hb.1))
    refine ⟨_, rfl, _, rfl, _, _, rfl, rfl, tb, _, _, _, rfl, rfl, SqT.of htb, g1, c, _, 1, _, rfl, rfl, SqT.of g2, at1, _, _, rfl, rfl, _, rfl, ?_⟩
    refine ite2 (fun c1 => ?_) (fun c1 => iteT (bad fun hb => ofD c1 hb.2.1))
    refine ⟨_, rfl, _, _, rfl, rfl, _, _, rfl, rfl, _, rfl, ?_⟩
    refine ite2 (fun c2 => bad fun hb => ?_) (fun c2 => ?_)
    · have h1 := hb.2.2
      have : ¬ p.2 ≤ 1 + (i : Int) + 1 := by simpa using c2
      omega
    · have c3 : p.2 ≤ 1 + (i : Int) + 1 := by simpa using c2
      refine ⟨rfl, ⟨_, rfl⟩, fun j p' hj e => ?_⟩
      by_cases ji : j < i
      · exact p1 j p' ji e
      · have : j = i := by omega
        subst this
        rw [eb] at e
        cases e
        exact ⟨of_decide_eq_true c0, of_decide_eq_true c1, by omega⟩
  · rintro σ G ⟨rfl, ⟨v2, rfl⟩, p1⟩
    have nl : n.toNat - 1 < bs.length := by omega
    obtain ⟨c, g1, g2⟩ := at_ (n.toNat - 1) (n - 1) nl (by omega)
    have eb := List.getElem?_eq_getElem nl
    have ed := gD _ _ eb
    generalize hp : bs[n.toNat - 1] = p at *
    rw [ed] at g2
    have fin : PlB n bs ↔ p.2 = p.1 + 1 := by
      constructor
      · exact fun r => r.last p eb
      · exact fun h => ⟨n1, n12, ln, fun i p' e => p1 i p' (by have := (List.getElem?_eq_some_iff.mp e).1; omega) e, fun p' e => by rw [eb] at e; cases e; exact h⟩
    refine ⟨_, rfl, _, rfl, _, _, rfl, rfl, tb, _, _, _, rfl, rfl, SqT.of htb, g1, c, _, 1, _, rfl, rfl, SqT.of g2, at1, _, rfl, _, rfl, _, _, rfl, rfl, tb, _, _, _, rfl, rfl, SqT.of htb, g1, c, _, 0, _, rfl, rfl, SqT.of g2, at0, _, _, rfl, rfl, rfl, ?_⟩
    by_cases h : p.2 = p.1 + 1
    · rw [decide_eq_true (congrArg V.int h)]
      exact q1 (fin.mpr h)
    · rw [decide_eq_false (fun z => h (by injection z))]
      exact q2 fun r => h (fin.mp r)
theorem kit_self {K : PySem.W.Frag} {v : Value} : PySem.W.kitOne K v v = some true := by unfold PySem.W.kitOne; rw [if_pos (beq_self_eq_true v)]
noncomputable def goodR (b : Bool) (p : Int × List (Th × Th)) : Prop := if b = true then ∃ m qs, GoodU (.int p.1) (.lst (p.2.map pT)) m qs else ∃ m bs, GoodP (.int p.1) (.lst (p.2.map pT)) m bs
noncomputable def wordR (b : Bool) : Str := if b = true then "rule" else "plan"
noncomputable def tolD (b : Bool) (t : Th) (H : Hp) (v : V) : Prop := (resO b t = none → v = .str "text") ∧ ∀ p, resO b t = some p → (goodR b p → Den H (resT p) v) ∧ (¬ goodR b p → v = .str (wordR b))
theorem st2_th {x y : Th} {q : Sq} (h : st2 (.tup [x, y]) = some q) : ssT q = .tup [x, y] := by
  have s1 : ∀ t p, shOf t = some p → t = ppT p := fun t p h => by
    cases e : shareT t with
    | false => rw [sh_no e] at h; cases h
    | true =>
      obtain ⟨p', e1, e2⟩ := sh_yes e
      rw [e2] at h
      cases h
      exact e1
  unfold st2 seqOf at h
  dsimp only at h
  cases c1 : shOf x with
  | none => rw [c1] at h; cases h
  | some a =>
    rw [c1] at h
    cases c2 : shOf y with
    | none => rw [c2] at h; cases h
    | some b =>
      rw [c2] at h
      cases h
      rw [s1 _ _ c1, s1 _ _ c2]
      rfl
theorem good_ru {n m : Int} {ps : List (Th × Th)} {qs : List Sq} (g : GoodU (.int n) (.lst (ps.map pT)) m qs) : ruT m qs = resT (n, ps) := by
  have e := g.a
  injection e with e
  obtain ⟨ts, e1, e2⟩ := g.seq
  cases e1
  subst e
  suffices key : qs.map ssT = ps.map pT by
    show Th.tup [.int n, .tup (qs.map ssT)] = Th.tup [.int n, .tup (ps.map pT)]
    rw [key]
  have l : (ps.map pT).length = qs.length := by simpa using congrArg List.length e2
  apply List.ext_getElem?
  intro i
  by_cases hi : i < ps.length
  · have ep := List.getElem?_eq_getElem hi
    obtain ⟨q, h1, h2⟩ := map_at e2 (i := i) (t := pT ps[i]) (by rw [List.getElem?_map, ep]; rfl)
    rw [List.getElem?_map, List.getElem?_map, h1, ep]
    show some (ssT q) = some (pT ps[i])
    rw [st2_th (x := ps[i].1) (y := ps[i].2) h2]
    rfl
  · rw [List.getElem?_eq_none (by simp at l ⊢; omega), List.getElem?_eq_none (by simp at l ⊢; omega)]
theorem good_pl {n : Int} {m : Nat} {ps : List (Th × Th)} {bs : List (Int × Int)} (g : GoodP (.int n) (.lst (ps.map pT)) m bs) : planT m bs = resT (n, ps) := by
  have e := g.a
  injection e with e
  obtain ⟨ts, e1, e2⟩ := g.seq
  cases e1
  suffices key : bs.map ppT = ps.map pT by
    show Th.tup [.int (m : Int), .tup (bs.map ppT)] = Th.tup [.int n, .tup (ps.map pT)]
    rw [key, e]
  have l : (ps.map pT).length = bs.length := by simpa using congrArg List.length e2
  apply List.ext_getElem?
  intro i
  by_cases hi : i < ps.length
  · have ep := List.getElem?_eq_getElem hi
    obtain ⟨q, h1, h2⟩ := map_atP e2 (i := i) (t := pT ps[i]) (by rw [List.getElem?_map, ep]; rfl)
    rw [List.getElem?_map, List.getElem?_map, h1, ep]
    show some (ppT q) = some (pT ps[i])
    have h3 : pr2 (.tup [ps[i].1, ps[i].2]) = some q := h2
    unfold pr2 seqOf at h3
    dsimp only at h3
    split at h3
    · rename_i a b' hs
      cases h3
      injection hs with hs
      injection hs with z1 hs
      injection hs with z2 _
      show some (Th.tup [.int a, .int b']) = some (Th.tup [ps[i].1, ps[i].2])
      rw [z1, z2]
    · cases h3
  · rw [List.getElem?_eq_none (by simp at l ⊢; omega), List.getElem?_eq_none (by simp at l ⊢; omega)]
structure Kd (K : PySem.W.Frag) (C : CA) (X : Addr) (j : Nat) : Prop where
  i : XInst K X
  val : PySem.W.kitOne K (.ref X) (.type "ValueError") = some true
  oth : PySem.W.kitAny K (.ref X) [.ref C.NoName, .ref C.NoNumber, .ref C.NoRow, .ref C.NotSure, .ref C.TooMuch] = some false
  k0 : PySem.W.kitOne K (.ref X) (.ref C.NoText) = some (j == 0)
  k1 : PySem.W.kitOne K (.ref X) (.ref C.NoRule) = some (j == 1)
  k2 : PySem.W.kitOne K (.ref X) (.ref C.NoPlan) = some (j == 2)
  j3 : j < 3
noncomputable def spTold : Sp := fun vs H Q _ => ∃ (v : V) (b : Bool) (t : Th), vs = [v, .bl b] ∧ Den H t v ∧ okT t ∧ ∀ u H', Same H H' → tolD b t H' u → Q u H'
theorem sc_told : FnScope ["_law_text_here", "_law_is_rule_here", "_law_caught", "_law_found", "e", "_law_kinds"] ["_law_text_here", "_law_is_rule_here"] (defScope s_told) := ⟨rfl, rfl, rfl, by decide +kernel, rfl, by decide +kernel, by decide +kernel⟩
theorem ok_told {C : CA} {f : Addr} {fd : FuncData} (F : Fun K "_law_told" "_law_told" s_told f fd) (T : Txt mg) (cf : CF K mg C) {frr : Addr} {drr : FuncData} (Grr : FnOk P w K mg base (CXX P w) 9 frr drr ["text"] (spRrX C)) (brr : Binds K drr ["text"] []) (krr : PySem.W.keepIn K (.ref frr) = true) (mrr : mg "read_rule" = some (.ref frr)) {frd : Addr} {drd : FuncData} (Grd : FnOk P w K mg base (CXX P w) 9 frd drd ["text"] (spRdX C)) (brd : Binds K drd ["text"] []) (krd : PySem.W.keepIn K (.ref frd) = true) (mrd : mg "read_plan" = some (.ref frd)) : FnOk P w K mg base CX0 10 f fd ["_law_text_here", "_law_is_rule_here"] spTold := by
  refine F.ok sc_told (fun vs H Q E h => ?_) (fun cdv A outer s H vs Q E hr h => ?_)
  · obtain ⟨v, b, t, rfl, _⟩ := h
    rfl
  obtain ⟨v, b, t, rfl, dv, ok, q⟩ := h
  refine ⟨_, (pss_cons (ps_set (i := 2) sc_told.nd rfl (Or.inl rfl) pe_non)
    (pss_cons (ps_set (i := 3) sc_told.nd rfl (Or.inl rfl) pe_non)
    (pss_cons (ps_tryK (i := 4) ⟨rfl, rfl, rfl⟩ sc_told.nd rfl rfl rfl cf.mStretchError cf.cStretchError (fun xe pn E hp => (pss_one (ps_if (pt_val (pv 1)) (pss_one (ps_set (i := 3) sc_told.nd rfl (Or.inl rfl) (pe_callS Grr hr rfl mrr krr brr .nil hp (pa_cons (pv 0) pa_nil)))) (pss_one (ps_set (i := 3) sc_told.nd rfl (Or.inl rfl) (pe_callS Grd hr rfl mrd krd brd .nil hp (pa_cons (pv 0) pa_nil))))))) (fun e oe => (pss_one (ps_set (i := 2) sc_told.nd rfl (Or.inl rfl) (pv 4)))))
    (pss_cons (ps_if (pt_cmpR op_isN (pv 2) pe_non (nomark _)) (pss_one (ps_ret (pv 3))) pss_nil)
    (pss_cons (ps_if (PW.pt (pw_or (pt_not (pt_val (pe_callB call_isinstEB rfl T.isinstance boot_isinstance (pa_cons (pv 2) (pa_cons (pe_bltn (v := .ty "ValueError") rfl T.ValueError boot_ValueError rfl) pa_nil))))) (pw_or1 (pt_val (pe_callB call_isinstET rfl T.isinstance boot_isinstance (pa_cons (pv 2) (pa_cons (pe_tup (pa_cons (pe_glob (v := .ref C.NoName) rfl cf.mNoName rfl) (pa_cons (pe_glob (v := .ref C.NoNumber) rfl cf.mNoNumber rfl) (pa_cons (pe_glob (v := .ref C.NoRow) rfl cf.mNoRow rfl) (pa_cons (pe_glob (v := .ref C.NotSure) rfl cf.mNotSure rfl) (pa_cons (pe_glob (v := .ref C.TooMuch) rfl cf.mTooMuch rfl) pa_nil)))))) pa_nil))))))) (pss_one (ps_ret pe_str)) pss_nil)
    (pss_cons (ps_set (i := 5) sc_told.nd rfl (Or.inl rfl) (pe_lst (pa_cons (pe_callB call_isinstE rfl T.isinstance boot_isinstance (pa_cons (pv 2) (pa_cons (pe_glob (v := .ref C.NoText) rfl cf.mNoText rfl) pa_nil))) (pa_cons (pe_callB call_isinstE rfl T.isinstance boot_isinstance (pa_cons (pv 2) (pa_cons (pe_glob (v := .ref C.NoRule) rfl cf.mNoRule rfl) pa_nil))) (pa_cons (pe_callB call_isinstE rfl T.isinstance boot_isinstance (pa_cons (pv 2) (pa_cons (pe_glob (v := .ref C.NoPlan) rfl cf.mNoPlan rfl) pa_nil))) pa_nil)))))
    (pss_cons (ps_if (pt_cmpR op_ne (pe_bm PySem.F.plainAttrs_list PySem.F.slot_list_count PySem.F.type_list_count mt_countB (pv 5) (pa_cons pe_bl pa_nil)) pe_int (nomark _)) (pss_one (ps_ret pe_str)) pss_nil)
    (pss_one (ps_ret (pe_ix ix_list (pe_lst (pa_cons pe_str (pa_cons pe_str (pa_cons pe_str pa_nil)))) (pe_bm PySem.F.plainAttrs_list PySem.F.slot_list_index PySem.F.type_list_index mt_indexB (pv 5) (pa_cons pe_bl pa_nil)) (fun _ _ => rfl))))))))))), ?_⟩
  have kdT : Kd K C C.NoText 0 := ⟨cf.iNoText, cf.valNoText, cf.othNoText, kit_self, cf.kNoTextNoRule, cf.kNoTextNoPlan, by decide⟩
  have kdR : Kd K C C.NoRule 1 := ⟨cf.iNoRule, cf.valNoRule, cf.othNoRule, cf.kNoRuleNoText, kit_self, cf.kNoRuleNoPlan, by decide⟩
  have kdP : Kd K C C.NoPlan 2 := ⟨cf.iNoPlan, cf.valNoPlan, cf.othNoPlan, cf.kNoPlanNoText, cf.kNoPlanNoRule, kit_self, by decide⟩
  dsimp only
  refine seq_by (fun σ G => G = H ∧ σ = [some v, some (.bl b), some .non, none, none, none]) (fun M hM => hM _ _ ⟨rfl, rfl⟩) ?_
  rintro σ H0 ⟨rfl, rfl⟩
  refine seq_by (fun σ G => G = H0 ∧ σ = [some v, some (.bl b), some .non, some .non, none, none]) (fun M hM => hM _ _ ⟨rfl, rfl⟩) ?_
  rintro σ H ⟨rfl, rfl⟩
  refine seq_by (fun σ G => Same H G ∧ ((∃ u w, σ = [some v, some (.bl b), some .non, some u, w, none] ∧ tolD b t G u) ∨ ∃ e X j w w2, σ = [some v, some (.bl b), some (.ref e), w, w2, none] ∧ G e = some (XO (.ref X) e) ∧ Kd K C X j ∧ ∀ G', Same G G' → tolD b t G' (.str (if j = 0 then "text" else if j = 1 then "rule" else "plan")))) ?_ ?_
  · intro M hM
    have caught : ∀ (X : Addr) (j : Nat) (w2 : Option V), Kd K C X j → ∀ G, Same H G → ∀ e, G e = none → (∀ G', tolD b t G' (.str (if j = 0 then "text" else if j = 1 then "rule" else "plan"))) → M [some v, some (.bl b), some (.ref e), some .non, w2, none] (upd G e (XO (.ref X) e)) := fun X j w2 kd G sG e he ht =>
      hM _ _ ⟨sG.trans (same_new he _), .inr ⟨e, X, j, _, _, rfl, upd_same, kd, fun G' _ => ht G'⟩⟩
    refine ⟨_, rfl, _, rfl, ?_⟩
    cases b with
    | true =>
      refine iteT ⟨_, rfl, v, t, rfl, dv, ok, fun n ps hn => ⟨fun m qs g p G sG d => ?_, fun hb G sG => ⟨cf.subNoRule, fun e oe he hoe => ?_⟩⟩, fun hn G sG => ⟨cf.subNoText, fun e oe he hoe => ?_⟩⟩
      · refine hM _ _ ⟨sG, .inl ⟨_, _, rfl, fun z => ?_, fun p' hp' => ?_⟩⟩
        · rw [show resO true t = readOf true t from rfl, hn] at z; cases z
        · rw [show resO true t = readOf true t from rfl, hn] at hp'
          cases hp'
          exact ⟨fun _ => by rw [← good_ru g]; exact d, fun z => absurd ⟨m, qs, g⟩ z⟩
      · refine ⟨_, rfl, ?_⟩
        refine caught C.NoRule 1 _ kdR G sG e he fun G' => ⟨fun z => ?_, fun p' hp' => ?_⟩
        · rw [show resO true t = readOf true t from rfl, hn] at z; cases z
        · rw [show resO true t = readOf true t from rfl, hn] at hp'
          cases hp'
          exact ⟨fun ⟨m, qs, g⟩ => absurd g (hb m qs), fun _ => rfl⟩
      · refine ⟨_, rfl, ?_⟩
        refine caught C.NoText 0 _ kdT G sG e he fun G' => ⟨fun z => rfl, fun p' hp' => ?_⟩
        rw [show resO true t = readOf true t from rfl, hn] at hp'; cases hp'
    | false =>
      have rO : resO false t = (behind t).bind (readOf false) := rfl
      refine iteF ⟨_, rfl, v, t, rfl, dv, ok, fun hn G sG => ⟨cf.subNoText, fun e oe he hoe => ?_⟩, fun u hu => ⟨fun n ps hn => ⟨fun m qs g p G sG d => ?_, fun hb G sG => ⟨cf.subNoPlan, fun e oe he hoe => ?_⟩⟩, fun hn G sG => ⟨cf.subNoText, fun e oe he hoe => ?_⟩⟩⟩
      · refine ⟨_, rfl, ?_⟩
        refine caught C.NoText 0 _ kdT G sG e he fun G' => ⟨fun z => rfl, fun p' hp' => ?_⟩
        rw [rO, hn] at hp'; cases hp'
      · refine hM _ _ ⟨sG, .inl ⟨_, _, rfl, fun z => ?_, fun p' hp' => ?_⟩⟩
        · rw [rO, hu] at z
          have z' : readOf false u = none := z
          rw [hn] at z'; cases z'
        · rw [rO, hu] at hp'
          have z' : readOf false u = some p' := hp'
          rw [hn] at z'
          cases z'
          exact ⟨fun _ => by rw [← good_pl g]; exact d, fun z => absurd ⟨m, qs, g⟩ z⟩
      · refine ⟨_, rfl, ?_⟩
        refine caught C.NoPlan 2 _ kdP G sG e he fun G' => ⟨fun z => ?_, fun p' hp' => ?_⟩
        · rw [rO, hu] at z
          have z' : readOf false u = none := z
          rw [hn] at z'; cases z'
        · rw [rO, hu] at hp'
          have z' : readOf false u = some p' := hp'
          rw [hn] at z'
          cases z'
          exact ⟨fun ⟨m, qs, g⟩ => absurd g (hb m qs), fun _ => rfl⟩
      · refine ⟨_, rfl, ?_⟩
        refine caught C.NoText 0 _ kdT G sG e he fun G' => ⟨fun z => rfl, fun p' hp' => ?_⟩
        rw [rO, hu] at hp'
        have z' : readOf false u = some p' := hp'
        rw [hn] at z'; cases z'
  rintro σ G ⟨sG, ⟨u, w, rfl, hu⟩ | ⟨e, X, j, w, w2, rfl, he, kd, ht⟩⟩
  · exact ⟨_, rfl, rfl, _, rfl, iteT ⟨_, rfl, q _ _ sG hu⟩⟩
  refine ⟨_, rfl, rfl, _, rfl, iteF ?_⟩
  refine ⟨_, rfl, e, X, "ValueError", true, rfl, he, kd.i, kd.val, _, rfl, iteF ?_⟩
  refine ⟨_, rfl, (by show 5 ≤ sizeLine; decide), fun p hp => ?_⟩
  have s1 := same_new hp (.tup [V.ref C.NoName, V.ref C.NoNumber, V.ref C.NoRow, V.ref C.NotSure, V.ref C.TooMuch])
  have e1 := s1 _ _ he
  refine ⟨e, X, p, [C.NoName, C.NoNumber, C.NoRow, C.NotSure, C.TooMuch], false, rfl, upd_same, e1, kd.i, kd.oth, _, rfl, iteF ?_⟩
  have e1' : upd G p (.tup [V.ref C.NoName, V.ref C.NoNumber, V.ref C.NoRow, V.ref C.NotSure, V.ref C.TooMuch]) e = some (XO (.ref X) e) := e1
  have s1' : Same G (upd G p (.tup [V.ref C.NoName, V.ref C.NoNumber, V.ref C.NoRow, V.ref C.NotSure, V.ref C.TooMuch])) := s1
  generalize upd G p (.tup [V.ref C.NoName, V.ref C.NoNumber, V.ref C.NoRow, V.ref C.NotSure, V.ref C.TooMuch]) = G1 at *
  refine ⟨_, rfl, e, X, C.NoText, _, rfl, e1, kd.i, kd.k0, _, rfl, e, X, C.NoRule, _, rfl, e1, kd.i, kd.k1, _, rfl, e, X, C.NoPlan, _, rfl, e1, kd.i, kd.k2, (by show 3 ≤ sizeLine; decide), fun l hl => ?_⟩
  have s2 := same_new hl (.lst [V.bl (j == 0), V.bl (j == 1), V.bl (j == 2)])
  have x2 : upd G1 l (.lst [V.bl (j == 0), V.bl (j == 1), V.bl (j == 2)]) l = some (.lst [V.bl (j == 0), V.bl (j == 1), V.bl (j == 2)]) := upd_same
  have cnt1 : [j == 0, j == 1, j == 2].count true = 1 := by
    have := kd.j3
    match j, this with
    | 0, _ => rfl
    | 1, _ => rfl
    | 2, _ => rfl
  refine ⟨_, rfl, .inl ⟨rfl, _, SqL.of x2⟩, l, [j == 0, j == 1, j == 2], true, rfl, rfl, x2, rfl, _, rfl, iteF' (by rw [cnt1]; rfl) ?_⟩
  refine ⟨(by show 3 ≤ sizeLine; decide), fun c hc => ?_⟩
  have s3 := same_new hc (.lst [V.str "text", V.str "rule", V.str "plan"])
  have x3 := s3 _ _ x2
  have fin := q (.str (if j = 0 then "text" else if j = 1 then "rule" else "plan")) _ (sG.trans ((s1'.trans s2).trans s3)) (ht _ ((s1'.trans s2).trans s3))
  refine ⟨_, rfl, .inl ⟨rfl, _, SqL.of x3⟩, l, [j == 0, j == 1, j == 2], true, j, rfl, rfl, x3, ?_, fun i c' hi e' => ?_, by have := kd.j3; omega, c, _, _, V.str (if j = 0 then "text" else if j = 1 then "rule" else "plan"), rfl, rfl, SqL.of upd_same, ?_, fin⟩
  · have := kd.j3
    match j, this with
    | 0, _ => rfl
    | 1, _ => rfl
    | 2, _ => rfl
  · have := kd.j3
    match j, this, i, hi, e' with
    | 1, _, 0, _, e' => cases e'; decide
    | 2, _, 0, _, e' => cases e'; decide
    | 2, _, 1, _, e' => cases e'; decide
  · have := kd.j3
    match j, this with
    | 0, _ => exact at0
    | 1, _ => exact at1
    | 2, _ => exact atI_nat (j := 2) rfl
theorem fr_sh {t b : Int} (t0 : 0 ≤ t) (tb : t ≤ b) (b1 : 1 ≤ b) : 0 ≤ frT t b ∧ frT t b ≤ frB t b ∧ 1 ≤ frB t b ∧ frB t b ≤ b := by
  have bn : b ≠ 0 := by omega
  have eD : frD t b = (Int.gcd t b : Int) := if_neg (by omega)
  obtain ⟨f1, f2⟩ := fr_split (t := t) (b := b) bn
  have f3 := frB_pos (t := t) (b := b) bn
  have gp : 0 < (Int.gcd t b : Int) := by
    have : 0 < Int.gcd t b := Nat.pos_of_ne_zero fun z => bn (Int.gcd_eq_zero_iff.mp z).2
    omega
  rw [eD] at f1 f2
  refine ⟨?_, ?_, by omega, ?_⟩
  · exact Int.le_of_mul_le_mul_left (a := (Int.gcd t b : Int)) (by rw [Int.mul_zero, ← f1]; exact t0) gp
  · exact Int.le_of_mul_le_mul_left (a := (Int.gcd t b : Int)) (by rw [← f1, ← f2]; exact tb) gp
  · have g1 : 1 ≤ (Int.gcd t b : Int) := by omega
    have := Int.mul_le_mul_of_nonneg_right g1 (show 0 ≤ frB t b by omega)
    rw [Int.one_mul, ← f2] at this
    exact this
theorem fr_le {C B C' B' : Int} (hB : 0 < B) (hB' : 0 < B') (h : C * B' ≤ C' * B) : frT C B * frB C' B' ≤ frT C' B' * frB C B := by
  have dp : ∀ {x y : Int}, 0 < y → 0 < frD x y := fun {x y} hy => by
    have eD : frD x y = (Int.gcd x y : Int) := if_neg (by omega)
    have : 0 < Int.gcd x y := Nat.pos_of_ne_zero fun z => (show y ≠ 0 by omega) (Int.gcd_eq_zero_iff.mp z).2
    omega
  have d1 := dp (x := C) hB
  have d2 := dp (x := C') hB'
  obtain ⟨f1, f2⟩ := fr_split (t := C) (b := B) (by omega)
  obtain ⟨g1, g2⟩ := fr_split (t := C') (b := B') (by omega)
  refine Int.le_of_mul_le_mul_left (a := frD C B * frD C' B') ?_ (Int.mul_pos d1 d2)
  generalize frD C B = D at *
  generalize frD C' B' = D' at *
  generalize frT C B = t at *
  generalize frB C B = b at *
  generalize frT C' B' = t' at *
  generalize frB C' B' = b' at *
  rw [f1, g2, g1, f2] at h
  grind
theorem fr_abs {t b : Int} (b1 : 1 ≤ b) : (frT t b).natAbs ≤ t.natAbs ∧ 1 ≤ frB t b ∧ (frB t b).natAbs ≤ b.natAbs := by
  have bn : b ≠ 0 := by omega
  obtain ⟨f1, f2⟩ := fr_split (t := t) (b := b) bn
  have f3 := frB_pos (t := t) (b := b) bn
  have nd : frD t b ≠ 0 := frD_ne bn
  have a1 : t.natAbs = (frD t b).natAbs * (frT t b).natAbs := by rw [← Int.natAbs_mul, ← f1]
  have a2 : b.natAbs = (frD t b).natAbs * (frB t b).natAbs := by rw [← Int.natAbs_mul, ← f2]
  have dp : 1 ≤ (frD t b).natAbs := by omega
  refine ⟨?_, by omega, ?_⟩
  · rw [a1]; exact Nat.le_mul_of_pos_left _ dp
  · rw [a2]; exact Nat.le_mul_of_pos_left _ dp
structure Rw (n : Nat) (bt : Int) (xs : List Int) : Prop where
  len : xs.length = n + 1
  asc : ∀ i j, i ≤ j → j ≤ n → xs.getD i 0 ≤ xs.getD j 0
  bd : ∀ i, i ≤ n → 0 ≤ xs.getD i 0 ∧ xs.getD i 0 ≤ bt
theorem rw_of {n : Nat} {bt : Int} {xs : List Int} (l : xs.length = n + 1) (p : xs.Pairwise (· ≤ ·)) (b : ∀ m ∈ xs, 0 ≤ m ∧ m ≤ bt) : Rw n bt xs := by
  refine ⟨l, fun i j hij hj => ?_, fun i hi => ?_⟩
  · rw [getD_in (by omega), getD_in (by omega)]
    rcases Nat.lt_or_ge i j with h | h
    · exact List.pairwise_iff_getElem.mp p i j (by omega) (by omega) h
    · have : i = j := by omega
      subst this
      exact Int.le_refl _
  · exact b _ (getD_mem (by omega))
noncomputable def mnO (os us : List Int) (k : Nat) : Int := if us.getD k 0 < os.getD k 0 then us.getD k 0 else os.getD k 0
noncomputable def mxO (os us : List Int) (k : Nat) : Int := if os.getD k 0 < us.getD k 0 then us.getD k 0 else os.getD k 0
noncomputable def stO (os us : List Int) (bt : Int) (k : Nat) : Sq := ((frT (mnO os us k) bt, frB (mnO os us k) bt), (frT (mxO os us k) bt, frB (mxO os us k) bt))
theorem und_le {x y bt : Int} (hb : 1 ≤ bt) (h : x ≤ y) : und2 (frT y bt, frB y bt) (frT x bt, frB x bt) = false := by
  have := fr_le (C := x) (B := bt) (C' := y) (B' := bt) (by omega) (by omega) (Int.mul_le_mul_of_nonneg_right h (by omega))
  unfold und2
  exact decide_eq_false (by dsimp only; omega)
theorem share_fr {t bt : Int} (t0 : 0 ≤ t) (tb : t ≤ bt) (hb : 1 ≤ bt) : shareT (ppT (frT t bt, frB t bt)) = true := by
  obtain ⟨h1, h2, h3, h4⟩ := fr_sh t0 tb hb
  have g : Int.gcd (frT t bt) (frB t bt) = 1 := fr_gcd (by omega)
  show (true && (decide ((1 : Int) ≤ frB t bt) && (decide (0 ≤ frT t bt) && (decide (frT t bt ≤ frB t bt) && decide (Int.gcd (frT t bt) (frB t bt) = 1))))) = true
  rw [decide_eq_true h1, decide_eq_true h2, decide_eq_true h3, decide_eq_true g]
  rfl
theorem ok_s {t u b : Int} (b1 : 1 ≤ b) (b12 : b ≤ 12) (t0 : 0 ≤ t) (tb : t ≤ b) (u0 : 0 ≤ u) (ub : u ≤ b) : OkS ((frT t b, frB t b), (frT u b, frB u b)) := by
  have sm : ∀ {x : Int}, x.natAbs ≤ 12 → x.natAbs < 10 ^ 60 := fun h => Nat.lt_of_le_of_lt h (by decide)
  have one : ∀ {t : Int}, 0 ≤ t → t ≤ b → FrB (frT t b, frB t b) := fun {t} t0 tb => by
    obtain ⟨h1, h2, h3⟩ := fr_abs (t := t) b1
    exact ⟨sm (Nat.le_trans h1 (by omega)), h2, sm (Nat.le_trans h3 (by omega))⟩
  exact ⟨⟨one t0 tb, one u0 ub⟩, fr_gcd (by omega), fr_gcd (by omega)⟩
theorem st_bd {n : Nat} {bt : Int} {os us : List Int} (A : Rw n bt os) (B : Rw n bt us) : ∀ k, k ≤ n → (0 ≤ mnO os us k ∧ mnO os us k ≤ bt) ∧ (0 ≤ mxO os us k ∧ mxO os us k ≤ bt) ∧ mnO os us k ≤ mxO os us k := fun k hk => by
  have a := A.bd k hk
  have b := B.bd k hk
  unfold mnO mxO
  refine ⟨?_, ?_, ?_⟩ <;> (split <;> (try split) <;> omega)
theorem good_of {n : Nat} {bt : Int} {os us : List Int} (n1 : 1 ≤ n) (n12 : n ≤ 12) (hb : 1 ≤ bt) (A : Rw n bt os) (B : Rw n bt us) : goodR true ((n : Int), ((List.range (n + 1)).map (stO os us bt)).map fT) := by
  have at_ : ∀ s ∈ (List.range (n + 1)).map (stO os us bt), ∃ k, k ≤ n ∧ s = stO os us bt k := fun s hs => by
    obtain ⟨k, hk, e⟩ := List.mem_map.mp hs
    exact ⟨k, by have := List.mem_range.mp hk; omega, e.symm⟩
  have bd := st_bd A B
  unfold goodR
  rw [if_pos rfl]
  refine ⟨(n : Int), (List.range (n + 1)).map (stO os us bt), rfl, ⟨_, rfl, ?_⟩, by omega, by omega, by simp, fun s hs => ?_, fun i p q hp hq => ?_⟩
  · rw [List.map_map, List.map_map]
    refine List.map_congr_left fun s hs => ?_
    obtain ⟨k, hk, rfl⟩ := at_ s hs
    obtain ⟨⟨a1, a2⟩, ⟨a3, a4⟩, _⟩ := bd k hk
    show st2 (ssT (stO os us bt k)) = some (stO os us bt k)
    have e1 := share_fr a1 a2 hb
    have e2 := share_fr a3 a4 hb
    obtain ⟨p, ep, ep'⟩ := sh_yes e1
    obtain ⟨r, er, er'⟩ := sh_yes e2
    have z1 : p = (frT (mnO os us k) bt, frB (mnO os us k) bt) := by
      have ep2 : Th.tup [.int (frT (mnO os us k) bt), .int (frB (mnO os us k) bt)] = Th.tup [.int p.1, .int p.2] := ep
      injection ep2 with ep2
      injection ep2 with x1 ep2
      injection ep2 with x2 _
      injection x1 with x1
      injection x2 with x2
      exact Prod.ext x1.symm x2.symm
    have z2 : r = (frT (mxO os us k) bt, frB (mxO os us k) bt) := by
      have ep2 : Th.tup [.int (frT (mxO os us k) bt), .int (frB (mxO os us k) bt)] = Th.tup [.int r.1, .int r.2] := er
      injection ep2 with ep2
      injection ep2 with x1 ep2
      injection ep2 with x2 _
      injection x1 with x1
      injection x2 with x2
      exact Prod.ext x1.symm x2.symm
    show ((shOf (ppT (frT (mnO os us k) bt, frB (mnO os us k) bt))).bind fun p => (shOf (ppT (frT (mxO os us k) bt, frB (mxO os us k) bt))).bind fun q => some (p, q)) = _
    rw [ep', er', z1, z2]
    rfl
  · obtain ⟨k, hk, rfl⟩ := at_ s hs
    exact und_le hb (bd k hk).2.2
  · rw [List.getElem?_map] at hp hq
    have hi : i + 1 < n + 1 := by
      cases e : (List.range (n + 1))[i + 1]? with
      | none => rw [e] at hq; cases hq
      | some z =>
        have := (List.getElem?_eq_some_iff.mp e).1
        simpa using this
    rw [List.getElem?_range (by omega)] at hp
    rw [List.getElem?_range hi] at hq
    cases hp
    cases hq
    have a := A.asc i (i + 1) (by omega) (by omega)
    have b := B.asc i (i + 1) (by omega) (by omega)
    refine ⟨und_le hb ?_, und_le hb ?_⟩
    · unfold mnO
      split <;> split <;> omega
    · unfold mxO
      split <;> split <;> omega
theorem good_pl' {n : Nat} {bs : List (Int × Int)} (n1 : 1 ≤ n) (n12 : n ≤ 12) (lb : bs.length = n) (inn : ∀ (j : Nat) (p : Int × Int), bs[j]? = some p → InB ((j : Int) + 1) p) (last : ∀ p, bs[n - 1]? = some p → p.2 = p.1 + 1) : goodR false ((n : Int), bs.map iT) := by
  unfold goodR
  rw [if_neg Bool.false_ne_true]
  refine ⟨n, bs, rfl, ⟨_, rfl, ?_⟩, n1, n12, lb, inn, last⟩
  rw [List.map_map, List.map_map]
  exact List.map_congr_left fun s hs => rfl
theorem one_len : (" " : Str).length = 1 := by decide +kernel
theorem two_len : (": " : Str).length = 2 := by decide +kernel
theorem lg {i : Int} (h : i.natAbs < 10 ^ 60) : i.natAbs.log2 < 1920 := by
  by_cases z : i.natAbs = 0
  · rw [z]; decide
  · rw [Nat.log2_lt z]
    exact Nat.lt_trans h (by decide)
noncomputable def spWord : Sp := fun vs H Q _ => ∃ t b : Int, vs = [.int t, .int b] ∧ 1 ≤ b ∧ b ≤ 12 ∧ 0 ≤ t ∧ t ≤ b ∧ Q (.str (frS (frT t b, frB t b))) H
theorem sc_word : FnScope ["_law_top", "_law_bottom", "_law_by"] ["_law_top", "_law_bottom"] (defScope s_word) := ⟨rfl, rfl, rfl, by decide +kernel, rfl, by decide +kernel, by decide +kernel⟩
theorem ok_word {f : Addr} {fd : FuncData} (F : Fun K "_law_word" "_law_word" s_word f fd) (T : Txt mg) {fdiv : Addr} {ddiv : FuncData} (Gdiv : FnOk P w K mg base CX0 1 fdiv ddiv ["_law_one", "_law_other"] spDivA) (bdiv : Binds K ddiv ["_law_one", "_law_other"] []) (kdiv : PySem.W.keepIn K (.ref fdiv) = true) (mdiv : mg "_law_divisor" = some (.ref fdiv)) : FnOk P w K mg base CX0 2 f fd ["_law_top", "_law_bottom"] spWord := by
  refine F.ok sc_word (fun vs H Q E h => ?_) (fun cdv A outer s H vs Q E hr h => ?_)
  · obtain ⟨t, b, rfl, _⟩ := h
    rfl
  obtain ⟨t, b, rfl, b1, b12, t0, tb, q⟩ := h
  have hp := (ok_s b1 b12 t0 tb t0 tb).1.1
  have w1 : (num (frT t b)).length ≤ 61 := (nm_ok hp.a).len
  have w2 : (num (frB t b)).length ≤ 61 := (nm_ok hp.b).len
  refine ⟨_, (pss_cons (ps_set (i := 2) sc_word.nd rfl (Or.inl rfl) (pe_call Gdiv hr rfl mdiv kdiv bdiv .nil pass0 (pa_cons (pv 0) (pa_cons (pv 1) pa_nil))))
    (pss_cons (ps_if (pt_cmpR op_eq (pe_op op_fdiv (pv 1) (pv 2)) pe_int (nomark _)) (pss_one (ps_ret (pe_callTy call_str_int rfl T.str boot_str (pa_cons (pe_op op_fdiv (pv 0) (pv 2)) pa_nil)))) pss_nil)
    (pss_one (ps_ret (pe_op op_addS (pe_op op_addS (pe_callTy call_str_int rfl T.str boot_str (pa_cons (pe_op op_fdiv (pv 0) (pv 2)) pa_nil)) pe_str) (pe_callTy call_str_int rfl T.str boot_str (pa_cons (pe_op op_fdiv (pv 1) (pv 2)) pa_nil))))))), ?_⟩
  have bn : b ≠ 0 := by omega
  have eD : frD t b = (Int.gcd t b : Int) := if_neg (by omega)
  have gp : 0 < (Int.gcd t b : Int) := by
    have : 0 < Int.gcd t b := Nat.pos_of_ne_zero fun z => bn (Int.gcd_eq_zero_iff.mp z).2
    omega
  have sg : (Int.gcd t b : Int) < 1073741824 := by
    have : Int.gcd t b ≤ b.natAbs := Nat.le_of_dvd (by omega) (Nat.gcd_dvd_right ..)
    omega
  have e1 : t / (Int.gcd t b : Int) = frT t b := by unfold frT; rw [eD, Int.fdiv_eq_ediv_of_nonneg _ (by omega)]
  have e2 : b / (Int.gcd t b : Int) = frB t b := by unfold frB; rw [eD, Int.fdiv_eq_ediv_of_nonneg _ (by omega)]
  unfold frS at q
  refine ⟨_, rfl, _, rfl, t, b, rfl, by omega, ?_⟩
  refine ⟨_, rfl, _, rfl, _, _, rfl, rfl, ⟨by omega, sg⟩, rfl, _, rfl, ?_⟩
  dsimp only
  by_cases h1 : frB t b = 1
  · rw [if_pos h1] at q
    refine iteT2 (by rw [dec_int, e2, h1]; rfl) ?_
    refine ⟨_, rfl, _, rfl, _, _, rfl, rfl, ⟨by omega, sg⟩, t / (Int.gcd t b : Int), rfl, ?_, ?_⟩
    · rw [e1]; exact lg hp.a
    · rw [e1]; exact q
  · rw [if_neg h1] at q
    refine iteF' (by rw [dec_int, e2]; simpa using h1) ?_
    have q' : Q (.str (num (frT t b) ++ "/" ++ num (frB t b))) H := q
    have la : (frT t b).natAbs.log2 < 1920 := lg hp.a
    have lb : (frB t b).natAbs.log2 < 1920 := lg hp.b
    rw [← e1] at w1 la q'
    rw [← e2] at w2 lb q'
    refine ⟨_, rfl, _, rfl, _, _, rfl, rfl, ⟨by omega, sg⟩, t / (Int.gcd t b : Int), rfl, la, ?_⟩
    refine ⟨_, _, rfl, rfl, le200 (by rw [slash_len]; exact Nat.le_trans (Nat.add_le_add_right w1 1) (by decide)), ?_⟩
    refine ⟨_, rfl, _, rfl, _, _, rfl, rfl, ⟨by omega, sg⟩, b / (Int.gcd t b : Int), rfl, lb, ?_⟩
    refine ⟨_, _, rfl, rfl, le200 ?_, q'⟩
    rw [Str.length_append, slash_len]
    show (num (t / (Int.gcd t b : Int))).length + 1 + (num (b / (Int.gcd t b : Int))).length ≤ 100000
    omega
noncomputable def spText (K : PySem.W.Frag) : Sp := fun vs H Q _ => ∃ (a : Addr) (ns : List Int) (b : Bool), vs = [.ref a, .bl b] ∧ SqL K H a (ns.map V.int) ∧ ns.length ≤ 63 ∧ ∀ (x : Str) (p : Int × List (Th × Th)) (H' : Hp), Same H H' → Asc x → 1 ≤ x.length → x.length ≤ 3300 → resO b (.str x) = some p → goodR b p → Q (.str x) H'
theorem num_wd {i : Int} (h : In15 i) : ((toString i : String) : Str) = wd i := (wd_ok h).str
theorem sc_text : FnScope ["_law_script", "_law_is_rule_here", "_law_n", "_law_pairs", "_law_bottom", "_law_ones", "_law_others", "_law_k", "_law_low", "_law_t", "_law_cell", "_law_high"] ["_law_script", "_law_is_rule_here"] (defScope s_text) := ⟨rfl, rfl, rfl, by decide +kernel, rfl, by decide +kernel, by decide +kernel⟩
theorem ok_text {f : Addr} {fd : FuncData} (F : Fun K "_law_text" "_law_text" s_text f fd) (T : Txt mg) {fatU : Addr} {datU : FuncData} (GatU : FnOk P w K mg base CX0 2 fatU datU ["_law_script", "_law_k"] (spAtU K)) (batU : Binds K datU ["_law_script", "_law_k"] []) (katU : PySem.W.keepIn K (.ref fatU) = true) (matU : mg "_law_at" = some (.ref fatU)) {fword : Addr} {dword : FuncData} (Gword : FnOk P w K mg base CX0 2 fword dword ["_law_top", "_law_bottom"] spWord) (bword : Binds K dword ["_law_top", "_law_bottom"] []) (kword : PySem.W.keepIn K (.ref fword) = true) (mword : mg "_law_word" = some (.ref fword)) : FnOk P w K mg base CX0 3 f fd ["_law_script", "_law_is_rule_here"] (spText K) := by
  refine F.ok sc_text (fun vs H Q E h => ?_) (fun cdv A outer s H vs Q E hr h => ?_)
  · obtain ⟨a, ns, b, rfl, _⟩ := h
    rfl
  obtain ⟨a, ns, b, rfl, hS, h63, q⟩ := h
  refine ⟨_, (pss_cons (ps_set (i := 2) sc_text.nd rfl (Or.inl rfl) (pe_op op_add pe_int (pe_op op_mod (pe_call GatU hr rfl matU katU batU .nil pass0 (pa_cons (pv 0) (pa_cons pe_int pa_nil))) pe_int)))
    (pss_cons (ps_set (i := 3) sc_text.nd rfl (Or.inl rfl) (pe_lst pa_nil))
    (pss_cons (ps_if (pt_val (pv 1)) (pss_cons (ps_set (i := 4) sc_text.nd rfl (Or.inr rfl) (pe_op op_add pe_int (pe_op op_mod (pe_call GatU hr rfl matU katU batU .nil pass0 (pa_cons (pv 0) (pa_cons pe_int pa_nil))) pe_int)))
      (pss_cons (ps_set (i := 5) sc_text.nd rfl (Or.inl rfl) (pe_callB call_sortedI rfl T.sorted boot_sorted (pa_cons (pe_comp (ts := [("_law_script", 0), ("_law_bottom", 4)]) rfl ⟨rfl, sub2 rfl rfl, rfl, rfl, rfl, rfl, by decide +kernel, rfl, rfl⟩ (pi_range1 rfl T.range (pa_cons (pe_op op_add (pv 2) pe_int) pa_nil)) (fun C s3 H3 fp => (pe_op op_mod (pe_call GatU hr rfl matU katU batU .nil pass0 (pa_cons (pv 1) (pa_cons (pe_op op_add pe_int (pv 0)) pa_nil))) (pe_op op_add (pv 2) pe_int)))) pa_nil)))
      (pss_cons (ps_set (i := 6) sc_text.nd rfl (Or.inl rfl) (pe_callB call_sortedI rfl T.sorted boot_sorted (pa_cons (pe_comp (ts := [("_law_script", 0), ("_law_bottom", 4)]) rfl ⟨rfl, sub2 rfl rfl, rfl, rfl, rfl, rfl, by decide +kernel, rfl, rfl⟩ (pi_range1 rfl T.range (pa_cons (pe_op op_add (pv 2) pe_int) pa_nil)) (fun C s3 H3 fp => (pe_op op_mod (pe_call GatU hr rfl matU katU batU .nil pass0 (pa_cons (pv 1) (pa_cons (pe_op op_add pe_int (pv 0)) pa_nil))) (pe_op op_add (pv 2) pe_int)))) pa_nil)))
      (pss_cons (ps_for PassesOwn.never rfl (pi_range1 rfl T.range (pa_cons (pe_op op_add (pv 2) pe_int) pa_nil)) (pg_name (i := 7) sc_text.nd rfl (Or.inl rfl)) (pss_cons (ps_set (i := 8) sc_text.nd rfl (Or.inl rfl) (pe_call Gword hr rfl mword kword bword .nil pass0 (pa_cons (pe_callB (call_min2 rfl) rfl T.min boot_min (pa_cons (pe_ix ix_list (pv 5) (pv 7) (fun _ _ => rfl)) (pa_cons (pe_ix ix_list (pv 6) (pv 7) (fun _ _ => rfl)) pa_nil))) (pa_cons (pv 4) pa_nil))))
        (pss_one (ps_expr (pe_bm PySem.F.plainAttrs_list PySem.F.slot_list_append PySem.F.type_list_append mt_append (pv 3) (pa_cons (pe_op op_addS (pe_op op_addS (pv 8) pe_str) (pe_call Gword hr rfl mword kword bword .nil pass0 (pa_cons (pe_callB (call_max2 rfl) rfl T.max boot_max (pa_cons (pe_ix ix_list (pv 5) (pv 7) (fun _ _ => rfl)) (pa_cons (pe_ix ix_list (pv 6) (pv 7) (fun _ _ => rfl)) pa_nil))) (pa_cons (pv 4) pa_nil)))) pa_nil))))))
      (pss_one (ps_ret (pe_op op_addS (pe_op op_addS (pe_callTy call_str_int rfl T.str boot_str (pa_cons (pv 2) pa_nil)) pe_str) (pe_join pe_str (pv 3))))))))) pss_nil)
    (pss_cons (ps_for PassesOwn.never rfl (pi_range2 rfl T.range (pa_cons pe_int (pa_cons (pe_op op_add (pv 2) pe_int) pa_nil))) (pg_name (i := 9) sc_text.nd rfl (Or.inl rfl)) (pss_cons (ps_set (i := 10) sc_text.nd rfl (Or.inl rfl) (pe_call GatU hr rfl matU katU batU .nil pass0 (pa_cons (pv 0) (pa_cons (pe_op op_add pe_int (pv 9)) pa_nil))))
      (pss_cons (ps_set (i := 8) sc_text.nd rfl (Or.inl rfl) (pe_op op_sub (pe_op op_mod (pv 10) (pe_op op_add (pv 9) pe_int)) pe_int))
      (pss_cons (ps_set (i := 11) sc_text.nd rfl (Or.inl rfl) (pe_op op_add (pe_op op_add (pv 8) pe_int) (pe_op op_mod (pe_op op_fdiv (pv 10) pe_int) (pe_op op_sub (pe_op op_add (pv 9) pe_int) (pv 8)))))
      (pss_cons (ps_if (pt_cmpR op_eq (pv 9) (pv 2) (nomark _)) (pss_one (ps_set (i := 11) sc_text.nd rfl (Or.inl rfl) (pe_op op_add (pv 8) pe_int))) pss_nil)
      (pss_one (ps_expr (pe_bm PySem.F.plainAttrs_list PySem.F.slot_list_append PySem.F.type_list_append mt_append (pv 3) (pa_cons (pe_op op_addS (pe_op op_addS (pe_callTy call_str_int rfl T.str boot_str (pa_cons (pv 8) pa_nil)) pe_str) (pe_callTy call_str_int rfl T.str boot_str (pa_cons (pv 11) pa_nil))) pa_nil)))))))))
    (pss_one (ps_ret (pe_op op_addS (pe_op op_addS (pe_op op_addS pe_str (pe_callTy call_str_int rfl T.str boot_str (pa_cons (pv 2) pa_nil))) pe_str) (pe_join pe_str (pv 3))))))))), ?_⟩
  have P4 : (0 : Int) < 4 := by decide
  have P12 : (0 : Int) < 12 := by decide
  refine ⟨_, rfl, a, ns, 1, rfl, hS, h63, by omega, by omega, fun r => ⟨_, _, rfl, rfl, P4, _, _, rfl, rfl, ?_⟩⟩
  have k0 := md0 r P4
  have k1 := md1 r P4
  obtain ⟨n, en⟩ : ∃ n : Nat, 1 + r % 4 = (n : Int) := ⟨(1 + r % 4).toNat, by omega⟩
  dsimp only
  rw [en]
  have n1 : 1 ≤ n := by omega
  have n4 : n ≤ 4 := by omega
  have inN : In15 (n : Int) := ⟨by omega, by omega⟩
  have nS : ((n : Int)).natAbs < 10 ^ 60 := Nat.lt_of_le_of_lt (show ((n : Int)).natAbs ≤ 4 by omega) (by decide)
  refine ⟨(by show 0 ≤ sizeLine; decide), fun l hl => ?_⟩
  have tl := same_new hl (.lst [])
  have xl : upd H l (.lst []) l = some (.lst []) := upd_same
  generalize upd H l (.lst []) = H' at *
  refine ⟨_, rfl, _, rfl, ?_⟩
  cases b with
  | true =>
    refine iteT2 rfl ?_
    refine ⟨_, rfl, a, ns, 2, rfl, tl.seq hS, h63, by omega, by omega, fun r1 => ⟨_, _, rfl, rfl, P12, _, _, rfl, rfl, ?_⟩⟩
    have j0 := md0 r1 P12
    have j1 := md1 r1 P12
    dsimp only
    generalize hbt : 1 + r1 % 12 = bt at *
    have b1 : 1 ≤ bt := by omega
    have b12 : bt ≤ 12 := by omega
    have Pb : (0 : Int) < bt + 1 := by omega
    refine ⟨_, rfl, _, _, rfl, rfl, _, rfl, by omega, by omega, fun D hD => ?_⟩
    refine comp_rangeR (fun i ys _ => ∃ ms : List Int, ys = ms.map V.int ∧ ms.length = i ∧ ∀ m ∈ ms, 0 ≤ m ∧ m ≤ bt) hD (le200 (by omega)) ⟨[], rfl, rfl, fun m hm => absurd hm (by simp)⟩ ?_ ?_
    · rintro i ys H2 k hi s2 e ⟨ms, rfl, lm, bm⟩ hk
      refine ⟨_, rfl, _, rfl, _, _, rfl, rfl, a, ns, 3 + (0 + (i : Int)), rfl, (tl.trans s2).seq hS, h63, by omega, by omega, fun r2 => ⟨_, rfl, _, _, rfl, rfl, _, _, rfl, rfl, Pb, hk _ _ (Same.refl _) ⟨ms ++ [_], by rw [List.map_append]; rfl, by simp [lm], fun m hm => ?_⟩⟩⟩
      rcases List.mem_append.mp hm with hm | hm
      · exact bm m hm
      · rw [List.mem_singleton.mp hm]
        have := md0 r2 Pb
        have := md1 r2 Pb
        omega
    rintro ys H1 s1 hD1 ly ⟨ms, rfl, lm, bm⟩
    refine ⟨D, ms, rfl, SqL.of hD1, by omega, fun l1 os hl1 pm1 pw1 => ?_⟩
    have t1 := same_new hl1 (.lst (os.map V.int))
    have x1 : upd H1 l1 (.lst (os.map V.int)) l1 = some (.lst (os.map V.int)) := upd_same
    have lo1 : os.length = n + 1 := by rw [pm1.length_eq]; omega
    have bo1 : ∀ m ∈ os, 0 ≤ m ∧ m ≤ bt := fun m hm => bm m (pm1.mem_iff.mp hm)
    have sA := s1.trans t1
    generalize upd H1 l1 (.lst (os.map V.int)) = HA at *
    refine ⟨_, rfl, _, _, rfl, rfl, _, rfl, by omega, by omega, fun D2 hD2 => ?_⟩
    refine comp_rangeR (fun i ys _ => ∃ ms : List Int, ys = ms.map V.int ∧ ms.length = i ∧ ∀ m ∈ ms, 0 ≤ m ∧ m ≤ bt) hD2 (le200 (by omega)) ⟨[], rfl, rfl, fun m hm => absurd hm (by simp)⟩ ?_ ?_
    · rintro i ys H2 k hi s2 e ⟨ms', rfl, lm', bm'⟩ hk
      refine ⟨_, rfl, _, rfl, _, _, rfl, rfl, a, ns, 9 + (0 + (i : Int)), rfl, (tl.trans (sA.trans s2)).seq hS, h63, by omega, by omega, fun r2 => ⟨_, rfl, _, _, rfl, rfl, _, _, rfl, rfl, Pb, hk _ _ (Same.refl _) ⟨ms' ++ [_], by rw [List.map_append]; rfl, by simp [lm'], fun m hm => ?_⟩⟩⟩
      rcases List.mem_append.mp hm with hm | hm
      · exact bm' m hm
      · rw [List.mem_singleton.mp hm]
        have := md0 r2 Pb
        have := md1 r2 Pb
        omega
    rintro ys H2 s2 hD2' ly2 ⟨ms2, rfl, lm2, bm2⟩
    refine ⟨D2, ms2, rfl, SqL.of hD2', by omega, fun l2 us hl2 pm2 pw2 => ?_⟩
    have t2 := same_new hl2 (.lst (us.map V.int))
    have x2 : upd H2 l2 (.lst (us.map V.int)) l2 = some (.lst (us.map V.int)) := upd_same
    have x12 := (s2.trans t2) _ _ x1
    have lo2 : us.length = n + 1 := by rw [pm2.length_eq]; omega
    have bo2 : ∀ m ∈ us, 0 ≤ m ∧ m ≤ bt := fun m hm => bm2 m (pm2.mem_iff.mp hm)
    have sB := sA.trans (s2.trans t2)
    have ll1 : l1 ≠ l := (ne_of_none (s1 _ _ xl) hl1).symm
    have ll2 : l2 ≠ l := (ne_of_none ((sA.trans s2) _ _ xl) hl2).symm
    generalize upd H2 l2 (.lst (us.map V.int)) = HB at *
    have RA := rw_of lo1 pw1 bo1
    have RB := rw_of lo2 pw2 bo2
    have xB := sB _ _ xl
    have ok_ : ∀ k, k ≤ n → OkS (stO os us bt k) := fun k hk => by
      obtain ⟨⟨a1, a2⟩, ⟨a3, a4⟩, _⟩ := st_bd RA RB k hk
      exact ok_s b1 b12 a1 a2 a3 a4
    dsimp only
    refine ⟨_, rfl, _, _, rfl, rfl, _, rfl, by omega, by omega, ?_⟩
    refine for_range (lo := 0) (fun i σ G' => Same H G' ∧ (∃ v7 v8, σ = [some (.ref a), some (.bl true), some (.int n), some (.ref l), some (.int bt), some (.ref l1), some (.ref l2), v7, v8, none, none, none]) ∧ G' l1 = some (.lst (os.map V.int)) ∧ G' l2 = some (.lst (us.map V.int)) ∧ G' l = some (.lst ((((List.range i).map (stO os us bt)).map prF).map V.str))) ⟨tl.trans sB, ⟨none, none, rfl⟩, x12, x2, xB⟩ ?_ ?_
    · rintro i σ G' hi ⟨sm, ⟨v7, v8, rfl⟩, y1, y2, yl⟩
      have hi' : i ≤ n := by omega
      have la := RA.len
      have lb := RB.len
      have c1 : (0 : Int) + (i : Int) < (os.length : Int) := by omega
      have c2 : (0 : Int) + (i : Int) < (us.length : Int) := by omega
      have c0 : (0 : Int) ≤ 0 + (i : Int) := by omega
      have et : (0 + (i : Int)).toNat = i := by omega
      have at1' := at_getD c0 c1
      have at2' := at_getD c0 c2
      rw [et] at at1' at2'
      obtain ⟨⟨a1, a2⟩, ⟨a3, a4⟩, _⟩ := st_bd RA RB i hi'
      obtain ⟨fb, _⟩ := ok_ i hi'
      have f1 := frS_len fb.1
      have f2 := frS_len fb.2
      refine ⟨_, rfl, _, rfl, l1, _, _, _, rfl, rfl, SqL.of y1, at1', _, rfl, _, rfl, l2, _, _, _, rfl, rfl, SqL.of y2, at2', _, _, rfl, _, rfl, mnO os us i, bt, rfl, b1, b12, a1, a2, ?_⟩
      refine ⟨_, rfl, .inl ⟨rfl, _, SqL.of yl⟩, _, rfl, _, _, rfl, rfl, ?_, ?_⟩
      · exact le200 (by rw [one_len]; exact Nat.le_trans (Nat.add_le_add_right f1 1) (by decide))
      refine ⟨_, rfl, _, rfl, l1, _, _, _, rfl, rfl, SqL.of y1, at1', _, rfl, _, rfl, l2, _, _, _, rfl, rfl, SqL.of y2, at2', _, _, rfl, _, rfl, mxO os us i, bt, rfl, b1, b12, a3, a4, ?_⟩
      refine ⟨_, _, rfl, rfl, ?_, ?_⟩
      · refine le200 ?_
        rw [Str.length_append, one_len]
        exact Nat.le_trans (Nat.add_le_add (Nat.add_le_add_right f1 1) f2) (by decide)
      refine ⟨l, _, _, rfl, rfl, yl, lt40 (by simp; omega), ?_⟩
      refine ⟨same_upd sm hl, ⟨_, _, rfl⟩, by rw [upd_ne ll1]; exact y1, by rw [upd_ne ll2]; exact y2, ?_⟩
      rw [upd_same, List.range_succ, List.map_append, List.map_append, List.map_append]
      rfl
    · rintro σ G' ⟨sm, ⟨v7, v8, rfl⟩, y1, y2, yl⟩
      rw [show ((n : Int) + 1).toNat = n + 1 by omega] at yl
      have hok : ∀ s ∈ (List.range (n + 1)).map (stO os us bt), OkS s := fun s hs => by
        obtain ⟨k, hk, rfl⟩ := List.mem_map.mp hs
        exact ok_ k (by have := List.mem_range.mp hk; omega)
      have hpb : ∀ s ∈ (List.range (n + 1)).map (stO os us bt), PrB s := fun s hs => (hok s hs).1
      have hll : ((List.range (n + 1)).map (stO os us bt)).length ≤ 13 := by simp; omega
      have bl := rbody_len nS hll hpb
      have jl := rjoin_len hll hpb
      have nl := (nm_ok nS).len
      refine ⟨_, rfl, (n : Int), rfl, lg nS, _, _, rfl, rfl, le200 (by rw [two_len]; exact Nat.le_trans (Nat.add_le_add_right nl 2) (by decide)), ?_⟩
      refine ⟨_, rfl, _, rfl, l, _, rfl, SqL.of yl, rjoin_ok hll hpb, _, _, rfl, rfl, ?_, ?_⟩
      · refine le200 ?_
        rw [Str.length_append, two_len]
        exact Nat.le_trans (Nat.add_le_add (Nat.add_le_add_right nl 2) jl) (by decide)
      · refine q (rbody n ((List.range (n + 1)).map (stO os us bt))) _ _ sm (rule_asc nS hok) ?_ bl (read_rule nS (by simp) hok) (good_of n1 (by omega) b1 RA RB)
        unfold rbody
        rw [Str.length_append, Str.length_append, two_len]
        omega
  | false =>
    refine iteF' rfl ?_
    refine ⟨_, rfl, _, _, rfl, rfl, 1, _, rfl, ⟨by omega, by omega, by omega, by omega⟩, ?_⟩
    refine for_range (lo := 1) (fun i σ G' => Same H G' ∧ (∃ v8 v9 v10 v11, σ = [some (.ref a), some (.bl false), some (.int n), some (.ref l), none, none, none, none, v8, v9, v10, v11]) ∧ ∃ bs : List (Int × Int), G' l = some (.lst ((bs.map prS).map V.str)) ∧ bs.length = i ∧
      (∀ (j : Nat) (p : Int × Int), bs[j]? = some p → InB ((j : Int) + 1) p) ∧ (∀ p, i = n → bs[n - 1]? = some p → p.2 = p.1 + 1)) ⟨tl, ⟨none, none, none, none, rfl⟩, [], xl, rfl, fun j p hp => absurd hp (by simp), fun p hp hp' => absurd hp' (by simp)⟩ ?_ ?_
    · rintro i σ G' hi ⟨sm, ⟨v8, v9, v10, v11, rfl⟩, bs, yl, lb, inn, last⟩
      have hi' : i < n := by omega
      refine ⟨_, rfl, _, rfl, _, _, rfl, rfl, a, ns, 2 + (1 + (i : Int)), rfl, sm.seq hS, h63, by omega, by omega, fun c => ?_⟩
      have t2 : (0 : Int) < 1 + (i : Int) + 2 := by omega
      refine ⟨_, rfl, _, rfl, _, _, rfl, rfl, _, _, rfl, rfl, t2, _, _, rfl, rfl, ?_⟩
      have c0 := md0 c t2
      have c1 := md1 c t2
      dsimp only
      generalize hlow : c % (1 + (i : Int) + 2) - 1 = low at *
      have tp : (0 : Int) < 1 + (i : Int) + 1 - low := by omega
      refine ⟨_, rfl, _, _, rfl, rfl, _, rfl, _, _, rfl, rfl, ⟨by decide, by decide⟩, _, rfl, _, _, rfl, rfl, _, rfl, _, _, rfl, rfl, _, _, rfl, rfl, tp, _, _, rfl, rfl, ?_⟩
      have d0 := md0 (c / 16) tp
      have d1 := md1 (c / 16) tp
      dsimp only
      generalize hhi : low + 1 + c / 16 % (1 + (i : Int) + 1 - low) = high0 at *
      refine seq_by (fun σ G2 => G2 = G' ∧ ∃ high : Int, σ = [some (.ref a), some (.bl false), some (.int n), some (.ref l), none, none, none, none, some (.int low), some (.int (1 + (i : Int))), some (.int c), some (.int high)] ∧ low < high ∧ high ≤ 1 + (i : Int) + 1 ∧ (i + 1 = n → high = low + 1)) ?_ ?_
      · intro M hM
        refine ⟨_, rfl, _, rfl, rfl, _, rfl, ?_⟩
        refine ite2 (fun d => ?_) (fun d => hM _ _ ⟨rfl, high0, rfl, by omega, by omega, fun z => ?_⟩)
        · exact ⟨_, rfl, _, _, rfl, rfl, hM _ _ ⟨rfl, _, rfl, by omega, by omega, fun _ => rfl⟩⟩
        · exfalso
          apply d
          rw [show (1 + (i : Int)) = (n : Int) by omega]
          simp
      rintro σ G2 ⟨rfl, high, rfl, g0, g1, g2⟩
      have inL : In15 low := ⟨by omega, by omega⟩
      have inH : In15 high := ⟨by omega, by omega⟩
      have eL := num_wd inL
      have eH := num_wd inH
      have wl := (wd_ok inL).len
      have wh := (wd_ok inH).len
      have sL : low.natAbs < 10 ^ 60 := Nat.lt_of_le_of_lt (show low.natAbs ≤ 13 by omega) (by decide)
      have sH : high.natAbs < 10 ^ 60 := Nat.lt_of_le_of_lt (show high.natAbs ≤ 13 by omega) (by decide)
      refine ⟨_, rfl, .inl ⟨rfl, _, SqL.of yl⟩, _, rfl, low, rfl, lg sL, _, _, rfl, rfl, ?_, ?_⟩
      · rw [eL, one_len]; exact le200 (Nat.le_trans (Nat.add_le_add_right wl 1) (by decide))
      refine ⟨_, rfl, high, rfl, lg sH, _, _, rfl, rfl, ?_, ?_⟩
      · rw [eL, eH, Str.length_append, one_len]; exact le200 (Nat.le_trans (Nat.add_le_add (Nat.add_le_add_right wl 1) wh) (by decide))
      refine ⟨l, _, _, rfl, rfl, yl, lt40 (by simp; omega), ?_⟩
      refine ⟨same_upd sm hl, ⟨_, _, _, _, rfl⟩, bs ++ [(low, high)], ?_, by simp [lb], fun j p hp => ?_, fun p hin hp => ?_⟩
      · rw [upd_same, List.map_append, List.map_append]
        show _ = some (HO.lst ((bs.map prS).map V.str ++ [V.str (wd low ++ " " ++ wd high)]))
        rw [← eL, ← eH]
      · by_cases hj : j < bs.length
        · rw [List.getElem?_append_left hj] at hp
          exact inn j p hp
        · rw [List.getElem?_append_right (by omega)] at hp
          have hj0 : j - bs.length = 0 := by
            have := (List.getElem?_eq_some_iff.mp hp).1
            simpa using this
          rw [hj0] at hp
          cases hp
          have : j = i := by omega
          subst this
          exact ⟨by omega, g0, by omega⟩
      · rw [List.getElem?_append_right (by omega), show n - 1 - bs.length = 0 by omega] at hp
        cases hp
        exact g2 hin
    · rintro σ G' ⟨sm, ⟨v8, v9, v10, v11, rfl⟩, bs, yl, lb, inn, last⟩
      have lb' : bs.length = n := by omega
      have hin : ∀ p ∈ bs, InP p := fun p hp => by
        obtain ⟨j, hj⟩ := List.getElem?_of_mem hp
        have hl := (List.getElem?_eq_some_iff.mp hj).1
        obtain ⟨z1, z2, z3⟩ := inn j p hj
        exact ⟨⟨by omega, by omega⟩, ⟨by omega, by omega⟩⟩
      have h0 : bs ≠ [] := fun z => by rw [z] at lb'; simp at lb'; omega
      have jl := join_len (by omega) hin
      have pl := plan_len inN (by omega) hin
      have eN := num_wd inN
      have wn := (wd_ok inN).len
      have p5 : ("plan " : Str).length = 5 := by decide +kernel
      refine ⟨_, rfl, (n : Int), rfl, lg nS, _, _, rfl, rfl, ?_, _, _, rfl, rfl, ?_, ?_⟩
      · rw [eN, p5]; exact le200 (Nat.le_trans (Nat.add_le_add_left wn 5) (by decide))
      · rw [eN, Str.length_append, p5, two_len]; exact le200 (Nat.le_trans (Nat.add_le_add_right (Nat.add_le_add_left wn 5) 2) (by decide))
      refine ⟨_, rfl, _, rfl, l, _, rfl, SqL.of yl, join_ok (by omega) hin, _, _, rfl, rfl, ?_, ?_⟩
      · rw [eN, Str.length_append, Str.length_append, p5, two_len]; exact le200 (Nat.le_trans (Nat.add_le_add (Nat.add_le_add_right (Nat.add_le_add_left wn 5) 2) jl) (by decide))
      · have fin := q (planS n bs) (n, bs.map iT) _ sm (plan_asc inN hin) (by unfold planS; rw [Str.length_append, p5]; omega) (by omega) ?_ (good_pl' n1 (by omega) lb' inn (fun p hp => last p (by omega) hp))
        · rw [eN]
          have e : planS n bs = "plan " ++ wd n ++ ": " ++ Txt.join "; " (bs.map prS) := by
            unfold planS bodyS
            rw [app_assoc, app_assoc, app_assoc]
          rw [e] at fin
          exact fin
        · show (behind (.str (planS n bs))).bind (readOf false) = _
          unfold behind
          dsimp only
          rw [if_pos (plan_starts _ _), plan_slice]
          exact read_body inN h0 hin
noncomputable def sgn : Str := " !\"#$&'()*+,-./0123456789:;<=>?@ABCDEFGHIJKLMNOPQRSTUVWXYZ[\\]^_`{|}~" ++ "abcdefghijklmnopqrstuvwxyz"
theorem sgn_ok : sgn.cps.all (· < 128) = true ∧ sgn.length = 94 := by decide +kernel
noncomputable def spSg : Sp := fun vs H Q _ => vs = [] ∧ Q (.str sgn) H
theorem sc_sg : FnScope ["_law_some"] [] (defScope s_sg) := ⟨rfl, rfl, rfl, by decide +kernel, rfl, by decide +kernel, by decide +kernel⟩
theorem ok_sg {f : Addr} {fd : FuncData} (F : Fun K "_law_signs" "_law_signs" s_sg f fd) (T : Txt mg) : FnOk P w K mg base CX0 1 f fd [] spSg := by
  refine F.ok sc_sg (fun vs H Q E h => ?_) (fun cdv A outer s H vs Q E hr h => ?_)
  · obtain ⟨rfl, _⟩ := h
    rfl
  obtain ⟨rfl, q⟩ := h
  refine ⟨_, (pss_cons (ps_set (i := 0) sc_sg.nd rfl (Or.inl rfl) pe_str)
    (pss_one (ps_ret (pe_op op_addS (pv 0) pe_str)))), ?_⟩
  exact ⟨_, rfl, _, _, rfl, rfl, by decide +kernel, q⟩
noncomputable def oddA : List Str := ["0", "-1", "2", "1/1", "0/5", "2/4", "1/0", "1/-2", "-0", "+1", "00", "01", "3/2", "1/", "/2", "-", ""]
noncomputable def oddB : List Str := ["1" ++ Txt.mul "0" 60, "1/3", "-1/2", "1/2/3", "13", "1/" ++ Txt.mul "7" 60, Txt.mul "9" 60]
theorem odd_ok : (oddA ++ oddB).all (fun w => w.cps.all (· < 128) && decide (w.length ≤ 62)) = true := by decide +kernel
theorem mulok (c : Str) (hc : c.length = 1) : MulOk c 60 := by
  refine ⟨by decide, fun _ _ => ?_, fun _ _ => ?_⟩
  · rw [hc]; decide
  · rw [hc]; decide
theorem at_str {ws : List Str} {k : Int} (k0 : 0 ≤ k) (k1 : k < (ws.length : Int)) : ∃ w ∈ ws, atI (ws.map V.str) k = some (.str w) := by
  obtain ⟨j, rfl⟩ : ∃ j : Nat, k = (j : Int) := ⟨k.toNat, by omega⟩
  have hj : j < ws.length := by omega
  refine ⟨ws[j], List.getElem_mem hj, atI_nat ?_⟩
  rw [List.getElem?_map, List.getElem?_eq_getElem hj]
  rfl
theorem ixN_nat {n k : Nat} {i : Int} (e : i = (k : Int)) (h : k < n) : ixN n i = some k := by
  unfold ixN
  rw [if_pos (by omega), if_pos (by omega), e]
  rfl
noncomputable def spNb : Sp := fun vs H Q _ => ∃ (p : Addr) (ws : List Str) (k c : Int), vs = [.ref p, .int k, .int c] ∧ H p = some (.lst (ws.map V.str)) ∧ Ws 3300 3302 ws ∧ 0 ≤ k ∧ k < (ws.length : Int) ∧ ∀ (x : Str) (H' : Hp), (∀ a o, a ≠ p → H a = some o → H' a = some o) → Asc x → x.length ≤ 40000 → Q (.str x) H'
theorem sc_nb : FnScope ["_law_words", "_law_at_here", "_law_cell", "_law_odd"] ["_law_words", "_law_at_here", "_law_cell"] (defScope s_nb) := ⟨rfl, rfl, rfl, by decide +kernel, rfl, by decide +kernel, by decide +kernel⟩
theorem ok_nb {f : Addr} {fd : FuncData} (F : Fun K "_law_number_bent" "_law_number_bent" s_nb f fd) (T : Txt mg) : FnOk P w K mg base CX0 1 f fd ["_law_words", "_law_at_here", "_law_cell"] spNb := by
  refine F.ok sc_nb (fun vs H Q E h => ?_) (fun cdv A outer s H vs Q E hr h => ?_)
  · obtain ⟨p, ws, k, c, rfl, _⟩ := h
    rfl
  obtain ⟨p, ws, k, c, rfl, hp, W, k0, k1, q⟩ := h
  refine ⟨_, (pss_cons (ps_set (i := 3) sc_nb.nd rfl (Or.inl rfl) (pe_lst (pa_cons pe_str (pa_cons pe_str (pa_cons pe_str (pa_cons pe_str (pa_cons pe_str (pa_cons pe_str (pa_cons pe_str (pa_cons pe_str (pa_cons pe_str (pa_cons pe_str (pa_cons pe_str (pa_cons pe_str (pa_cons pe_str (pa_cons pe_str (pa_cons pe_str (pa_cons pe_str (pa_cons pe_str pa_nil)))))))))))))))))))
    (pss_cons (ps_set (i := 3) sc_nb.nd rfl (Or.inl rfl) (pe_op op_cat (pv 3) (pe_lst (pa_cons (pe_op op_addS pe_str (pe_op op_mulS pe_str pe_int)) (pa_cons pe_str (pa_cons pe_str (pa_cons pe_str (pa_cons pe_str (pa_cons (pe_op op_addS pe_str (pe_op op_mulS pe_str pe_int)) (pa_cons (pe_op op_mulS pe_str pe_int) pa_nil))))))))))
    (pss_cons (ps_asg (pe_op op_addS (pe_ix ix_list (pv 3) (pe_op op_mod (pv 2) pe_int) (fun _ _ => rfl)) (pe_ix ix_list (pe_lst (pa_cons pe_str (pa_cons pe_str pa_nil))) (pe_callTy call_int1 rfl T.int boot_int (pa_cons (pe_cmpR op_ne (pe_slice sl_str (pe_ix ix_list (pv 0) (pv 1) (fun _ _ => rfl)) (po_some (pe_un un_neg pe_int)) po_none) pe_str (nomark _)) pa_nil)) (fun _ _ => rfl))) (pg_sub (pv 0) (pv 1) set_list))
    (pss_one (ps_ret (pe_join pe_str (pv 0))))))), ?_⟩
  have P24 : (0 : Int) < 24 := by decide
  refine ⟨(by show 17 ≤ sizeLine; decide), fun o ho => ?_⟩
  have s1 := same_new ho (.lst [V.str "0", V.str "-1", V.str "2", V.str "1/1", V.str "0/5", V.str "2/4", V.str "1/0", V.str "1/-2", V.str "-0", V.str "+1", V.str "00", V.str "01", V.str "3/2", V.str "1/", V.str "/2", V.str "-", V.str ""])
  have x1 : upd H o (.lst [V.str "0", V.str "-1", V.str "2", V.str "1/1", V.str "0/5", V.str "2/4", V.str "1/0", V.str "1/-2", V.str "-0", V.str "+1", V.str "00", V.str "01", V.str "3/2", V.str "1/", V.str "/2", V.str "-", V.str ""]) o = some (.lst (oddA.map V.str)) := upd_same
  generalize upd H o (.lst [V.str "0", V.str "-1", V.str "2", V.str "1/1", V.str "0/5", V.str "2/4", V.str "1/0", V.str "1/-2", V.str "-0", V.str "+1", V.str "00", V.str "01", V.str "3/2", V.str "1/", V.str "/2", V.str "-", V.str ""]) = H1 at *
  have m1 : MulOk "0" 60 := mulok _ (by decide +kernel)
  have m2 : MulOk "7" 60 := mulok _ (by decide +kernel)
  have m3 : MulOk "9" 60 := mulok _ (by decide +kernel)
  refine ⟨_, rfl, _, _, rfl, rfl, m1, _, _, rfl, rfl, by decide +kernel, _, _, rfl, rfl, m2, _, _, rfl, rfl, by decide +kernel, _, _, rfl, rfl, m3, (by show 7 ≤ sizeLine; decide), fun o2 ho2 => ?_⟩
  have s2 := same_new ho2 (.lst [V.str ("1" ++ Txt.mul "0" 60), V.str "1/3", V.str "-1/2", V.str "1/2/3", V.str "13", V.str ("1/" ++ Txt.mul "7" 60), V.str (Txt.mul "9" 60)])
  have x2 : upd H1 o2 (.lst [V.str ("1" ++ Txt.mul "0" 60), V.str "1/3", V.str "-1/2", V.str "1/2/3", V.str "13", V.str ("1/" ++ Txt.mul "7" 60), V.str (Txt.mul "9" 60)]) o2 = some (.lst (oddB.map V.str)) := upd_same
  have x12 := s2 _ _ x1
  have s12 := s1.trans s2
  generalize upd H1 o2 (.lst [V.str ("1" ++ Txt.mul "0" 60), V.str "1/3", V.str "-1/2", V.str "1/2/3", V.str "13", V.str ("1/" ++ Txt.mul "7" 60), V.str (Txt.mul "9" 60)]) = H2 at *
  refine ⟨o, o2, oddA.map V.str, oddB.map V.str, rfl, rfl, x12, x2, by decide, fun o3 ho3 => ?_⟩
  have eAB : oddA.map V.str ++ oddB.map V.str = (oddA ++ oddB).map V.str := by rw [List.map_append]
  rw [eAB]
  have s3 := same_new ho3 (.lst ((oddA ++ oddB).map V.str))
  have x3 : upd H2 o3 (.lst ((oddA ++ oddB).map V.str)) o3 = some (.lst ((oddA ++ oddB).map V.str)) := upd_same
  have sA := s12.trans s3
  generalize upd H2 o3 (.lst ((oddA ++ oddB).map V.str)) = H3 at *
  have c0 := md0 c P24
  have c1 := md1 c P24
  obtain ⟨w, hw, hat⟩ := at_str (ws := oddA ++ oddB) c0 (show c % 24 < ((oddA ++ oddB).length : Int) from c1)
  obtain ⟨u, hu, hau⟩ := at_str (ws := ws) k0 k1
  have ow := List.all_eq_true.mp odd_ok w hw
  rw [Bool.and_eq_true, decide_eq_true_eq] at ow
  obtain ⟨aw, lw⟩ := ow
  obtain ⟨au, lu⟩ := W.one u hu
  refine ⟨_, rfl, _, rfl, _, _, rfl, rfl, P24, o3, _, _, _, rfl, rfl, SqL.of x3, hat, (by show 2 ≤ sizeLine; decide), fun o4 ho4 => ?_⟩
  have s4 := same_new ho4 (.lst [V.str ";", V.str ""])
  have x4 : upd H3 o4 (.lst [V.str ";", V.str ""]) o4 = some (.lst [V.str ";", V.str ""]) := upd_same
  have hp4 := (sA.trans s4) _ _ hp
  have sB := sA.trans s4
  generalize upd H3 o4 (.lst [V.str ";", V.str ""]) = H4 at *
  refine ⟨_, rfl, _, rfl, p, _, k, _, rfl, rfl, SqL.of hp4, hau, _, rfl, _, rfl, u, rfl, le200 (by omega), rfl, .inr ⟨_, rfl, o4, _, _, _, rfl, rfl, SqL.of x4, at_b, ?_⟩⟩
  have kv : ∀ b : Bool, ∃ e : Str, (if b = true then V.str "" else V.str ";") = V.str e ∧ Asc e ∧ e.length ≤ 1 := fun b => by
    cases b
    · exact ⟨";", rfl, by show (";" : Str).cps.all (· < 128) = true; decide +kernel, by decide +kernel⟩
    · exact ⟨"", rfl, by show ("" : Str).cps.all (· < 128) = true; decide +kernel, by decide +kernel⟩
  obtain ⟨e, ee, ae, le⟩ := kv (!decide (V.str (Txt.slice u (some (-1)) none) = V.str ";"))
  have ee' : (if (!decide (V.str (Txt.slice u (some (-1)) none) = V.str ";")) = true then V.str "" else V.str ";") = V.str e := ee
  refine ⟨w, e, rfl, ee', le200 (by omega), ?_⟩
  obtain ⟨j, ej⟩ : ∃ j : Nat, k = (j : Int) := ⟨k.toNat, by omega⟩
  refine ⟨_, rfl, _, rfl, p, _, k, j, rfl, rfl, hp4, ixN_nat ej (by simp; omega), ?_⟩
  rw [show (ws.map V.str).set j (V.str (w ++ e)) = (ws.set j (w ++ e)).map V.str by rw [List.map_set]]
  have W2 := W.set (k := 63) (asc_app aw ae) (show (w ++ e).length ≤ 63 by rw [Str.length_append]; omega) j
  have lw1 : (" " : Str).length ≤ 1 := by decide +kernel
  obtain ⟨jA, jL⟩ := W2.join asc1 lw1
  refine ⟨_, rfl, _, rfl, p, _, rfl, SqL.of upd_same, W2.ok lw1 (by decide), ?_⟩
  refine q _ _ (fun a o hne ha => ?_) jA (Nat.le_trans jL (by decide))
  rw [upd_ne hne]
  exact sB _ _ ha
theorem cut_ws {S N : Nat} {ws : List Str} (h : Ws S N ws) (lo hi : Option Int) : ∃ vs : List Str, cutV (ws.map V.str) lo hi = vs.map V.str ∧ Ws S N vs := by
  refine ⟨(ws.drop (HT.sIx ws.length 0 lo)).take (HT.sIx ws.length ws.length hi - HT.sIx ws.length 0 lo), ?_, (h.drop _).take _⟩
  unfold cutV
  rw [List.length_map, List.map_take, List.map_drop]
theorem split_ne (x : Str) {y : Str} (hk : PySem.Builtin.Str.strKind y = 1) (hy : 1 ≤ y.length) : ∃ p r, Txt.split x y = p :: r := by
  rcases split_parts (x := x) (y := y) hk hy with ⟨e1, _⟩ | ⟨p, q, r, e1, _⟩
  · exact ⟨_, _, e1⟩
  · exact ⟨_, _, e1⟩
noncomputable def LW (H : Hp) (v : V) : Prop := ∃ p ws, v = .ref p ∧ H p = some (.lst (ws.map V.str)) ∧ Ws 10000 6700 ws
theorem LW.keep {H H' : Hp} {v : V} (h : LW H v) (s : Same H H') : LW H' v := by
  obtain ⟨p, ws, e, hp, w⟩ := h
  exact ⟨p, ws, e, s _ _ hp, w⟩
theorem LW.mk {H : Hp} {p : Addr} {ws : List Str} {S N : Nat} (h : H p = some (.lst (ws.map V.str))) (w : Ws S N ws) (hs : S ≤ 10000) (hn : N ≤ 6700) : LW H (.ref p) := ⟨p, ws, rfl, h, w.mono hs hn⟩
theorem cat_len {S N S' N' : Nat} {vs us : List Str} (w : Ws S N vs) (w' : Ws S' N' us) (h : N + N' ≤ 100000) : (vs.map V.str).length + (us.map V.str).length ≤ sizeLine := le200 (by rw [List.length_map, List.length_map]; have := w.len; have := w'.len; omega)
theorem seps_ok : (["; ", ";", " ; ", ", "] : List Str).all (fun w => w.cps.all (· < 128) && decide (w.length ≤ 3)) = true := by decide +kernel
noncomputable def spPb : Sp := fun vs H Q _ => ∃ (h : Str) (p : Addr) (ws : List Str) (c : Int), vs = [.str h, .ref p, .int c] ∧ Asc h ∧ h.length ≤ 3300 ∧ H p = some (.lst (ws.map V.str)) ∧ Ws 3300 3302 ws ∧ 1 ≤ ws.length ∧ ∀ (x : Str) (H' : Hp), Same H H' → Asc x → x.length ≤ 40000 → Q (.str x) H'
theorem sc_pb : FnScope ["_law_head", "_law_pairs", "_law_cell", "_law_at_here", "_law_some"] ["_law_head", "_law_pairs", "_law_cell"] (defScope s_pb) := ⟨rfl, rfl, rfl, by decide +kernel, rfl, by decide +kernel, by decide +kernel⟩
theorem ok_pb {f : Addr} {fd : FuncData} (F : Fun K "_law_pairs_bent" "_law_pairs_bent" s_pb f fd) (T : Txt mg) : FnOk P w K mg base CX0 1 f fd ["_law_head", "_law_pairs", "_law_cell"] spPb := by
  refine F.ok sc_pb (fun vs H Q E h => ?_) (fun cdv A outer s H vs Q E hr h => ?_)
  · obtain ⟨h, p, ws, c, rfl, _⟩ := h
    rfl
  obtain ⟨hd, p, ws, c, rfl, ah, lh, hp, W, w1, q⟩ := h
  refine ⟨_, (pss_cons (ps_set (i := 3) sc_pb.nd rfl (Or.inl rfl) (pe_op op_mod (pe_op op_fdiv (pv 2) pe_int) (pe_callB call_len_seq rfl T.len boot_len (pa_cons (pv 1) pa_nil))))
    (pss_cons (ps_set (i := 4) sc_pb.nd rfl (Or.inl rfl) (pe_lst (pa_cons (pe_slice sl_list (pv 1) (po_some pe_int) po_none) (pa_cons (pe_op op_cat (pv 1) (pe_lst (pa_cons (pe_ix ix_list (pv 1) (pv 3) (fun _ _ => rfl)) pa_nil))) (pa_cons (pe_op op_cat (pe_op op_cat (pe_slice sl_list (pv 1) po_none (po_some (pv 3))) (pe_lst (pa_cons (pe_op op_addS (pe_ix ix_list (pv 1) (pv 3) (fun _ _ => rfl)) pe_str) pa_nil))) (pe_slice sl_list (pv 1) (po_some (pe_op op_add (pv 3) pe_int)) po_none)) pa_nil)))))
    (pss_cons (ps_set (i := 4) sc_pb.nd rfl (Or.inl rfl) (pe_op op_cat (pv 4) (pe_lst (pa_cons (pe_rev (pv 1) (pe_un un_neg pe_int)) (pa_cons (pe_op op_cat (pe_op op_cat (pe_slice sl_list (pv 1) po_none (po_some (pv 3))) (pe_lst (pa_cons (pe_ix ix_list (pe_split (pe_ix ix_list (pv 1) (pv 3) (fun _ _ => rfl)) pe_str) pe_int (fun _ _ => rfl)) pa_nil))) (pe_slice sl_list (pv 1) (po_some (pe_op op_add (pv 3) pe_int)) po_none)) (pa_cons (pe_lst pa_nil) pa_nil))))))
    (pss_one (ps_ret (pe_op op_addS (pe_op op_addS (pv 0) pe_str) (pe_join (pe_ix ix_list (pe_lst (pa_cons pe_str (pa_cons pe_str (pa_cons pe_str (pa_cons pe_str pa_nil))))) (pe_callB (call_max2 rfl) rfl T.max boot_max (pa_cons pe_int (pa_cons (pe_op op_sub (pe_op op_mod (pe_op op_fdiv (pv 2) pe_int) pe_int) pe_int) pa_nil))) (fun _ _ => rfl)) (pe_ix ix_list (pv 4) (pe_op op_mod (pv 2) pe_int) (fun _ _ => rfl))))))))), ?_⟩
  have PL : (0 : Int) < ((ws.map V.str).length : Int) := by simp; omega
  refine ⟨_, rfl, _, _, rfl, rfl, ⟨by decide, by decide⟩, _, rfl, p, _, rfl, .inl (SqL.of hp), _, _, rfl, rfl, PL, ?_⟩
  have k0 := md0 (c / 4) PL
  have k1 := md1 (c / 4) PL
  dsimp only
  generalize c / 4 % ((ws.map V.str).length : Int) = k at *
  have k1' : k < (ws.length : Int) := by simpa using k1
  obtain ⟨u, hu, hau⟩ := at_str (ws := ws) k0 k1'
  obtain ⟨au, lu⟩ := W.one u hu
  have wl := W.len
  have ll : ∀ {S N : Nat} {vs : List Str}, Ws S N vs → N ≤ 100000 → (vs.map V.str).length ≤ 100000 := fun w h => by rw [List.length_map]; exact Nat.le_trans w.len h
  refine ⟨_, rfl, 1, rfl, p, _, rfl, SqL.of hp, fun p1 hp1 => ?_⟩
  obtain ⟨v1, e1, W1⟩ := cut_ws W (some 1) none
  rw [e1]
  have s1 := same_new hp1 (.lst (v1.map V.str))
  have L1 : LW (upd H p1 (.lst (v1.map V.str))) (.ref p1) := LW.mk upd_same W1 (by decide) (by decide)
  have y1 := s1 _ _ hp
  generalize upd H p1 (.lst (v1.map V.str)) = G1 at *
  refine ⟨_, rfl, _, rfl, _, rfl, p, _, k, _, rfl, rfl, SqL.of y1, hau, (by show 1 ≤ sizeLine; decide), fun q2 hq2 => ?_⟩
  have t2 := same_new hq2 (.lst [V.str u])
  have z2 : upd G1 q2 (.lst [V.str u]) q2 = some (.lst ([u].map V.str)) := upd_same
  have y2 := t2 _ _ y1
  have s2 := s1.trans t2
  have L1 := L1.keep t2
  generalize upd G1 q2 (.lst [V.str u]) = G2 at *
  have Wu : Ws 3300 1 [u] := Ws.sing au lu
  refine ⟨p, q2, _, _, rfl, rfl, y2, z2, cat_len W Wu (by decide), fun p2 hp2 => ?_⟩
  rw [← List.map_append]
  have t3 := same_new hp2 (.lst ((ws ++ [u]).map V.str))
  have L2 : LW (upd G2 p2 (.lst ((ws ++ [u]).map V.str))) (.ref p2) := LW.mk upd_same (W.app Wu) (by decide) (by decide)
  have y3 := t3 _ _ y2
  have s3 := s2.trans t3
  have L1 := L1.keep t3
  generalize upd G2 p2 (.lst ((ws ++ [u]).map V.str)) = G3 at *
  refine ⟨_, rfl, _, rfl, k, rfl, p, _, rfl, SqL.of y3, fun p3 hp3 => ?_⟩
  obtain ⟨v3, e3, W3⟩ := cut_ws W none (some k)
  rw [e3]
  have t4 := same_new hp3 (.lst (v3.map V.str))
  have z4 : upd G3 p3 (.lst (v3.map V.str)) p3 = some (.lst (v3.map V.str)) := upd_same
  have y4 := t4 _ _ y3
  have s4 := s3.trans t4
  have L1 := L1.keep t4
  have L2 := L2.keep t4
  generalize upd G3 p3 (.lst (v3.map V.str)) = G4 at *
  have l2' : (" 0" : Str).length = 2 := by decide +kernel
  refine ⟨_, rfl, _, rfl, p, _, k, _, rfl, rfl, SqL.of y4, hau, _, _, rfl, rfl, le200 (by rw [l2']; omega), (by show 1 ≤ sizeLine; decide), fun q5 hq5 => ?_⟩
  have t5 := same_new hq5 (.lst [V.str (u ++ " 0")])
  have z5 : upd G4 q5 (.lst [V.str (u ++ " 0")]) q5 = some (.lst ([u ++ " 0"].map V.str)) := upd_same
  have y5 := t5 _ _ y4
  have z45 := t5 _ _ z4
  have s5 := s4.trans t5
  have L1 := L1.keep t5
  have L2 := L2.keep t5
  generalize upd G4 q5 (.lst [V.str (u ++ " 0")]) = G5 at *
  have Wu0 : Ws 3302 1 [u ++ " 0"] := Ws.sing (asc_app au (by show (" 0" : Str).cps.all (· < 128) = true; decide +kernel)) (by rw [Str.length_append, l2']; omega)
  refine ⟨p3, q5, _, _, rfl, rfl, z45, z5, cat_len W3 Wu0 (by decide), fun c3 hc3 => ?_⟩
  rw [← List.map_append]
  have W35 := W3.app Wu0
  have t6 := same_new hc3 (.lst ((v3 ++ [u ++ " 0"]).map V.str))
  have z6 : upd G5 c3 (.lst ((v3 ++ [u ++ " 0"]).map V.str)) c3 = some (.lst ((v3 ++ [u ++ " 0"]).map V.str)) := upd_same
  have y6 := t6 _ _ y5
  have s6 := s5.trans t6
  have L1 := L1.keep t6
  have L2 := L2.keep t6
  generalize upd G5 c3 (.lst ((v3 ++ [u ++ " 0"]).map V.str)) = G6 at *
  refine ⟨_, rfl, _, rfl, _, _, rfl, rfl, _, rfl, p, _, rfl, SqL.of y6, fun d3 hd3 => ?_⟩
  obtain ⟨v6, e6, W6⟩ := cut_ws W (some (k + 1)) none
  rw [e6]
  have t7 := same_new hd3 (.lst (v6.map V.str))
  have z7 : upd G6 d3 (.lst (v6.map V.str)) d3 = some (.lst (v6.map V.str)) := upd_same
  have y7 := t7 _ _ y6
  have z67 := t7 _ _ z6
  have s7 := s6.trans t7
  have L1 := L1.keep t7
  have L2 := L2.keep t7
  generalize upd G6 d3 (.lst (v6.map V.str)) = G7 at *
  refine ⟨c3, d3, _, _, rfl, rfl, z67, z7, cat_len W35 W6 (by decide), fun p8 hp8 => ?_⟩
  rw [← List.map_append]
  have t8 := same_new hp8 (.lst ((v3 ++ [u ++ " 0"] ++ v6).map V.str))
  have L3 : LW (upd G7 p8 (.lst ((v3 ++ [u ++ " 0"] ++ v6).map V.str))) (.ref p8) := LW.mk upd_same (W35.app W6) (by decide) (by decide)
  have y8 := t8 _ _ y7
  have s8 := s7.trans t8
  have L1 := L1.keep t8
  have L2 := L2.keep t8
  generalize upd G7 p8 (.lst ((v3 ++ [u ++ " 0"] ++ v6).map V.str)) = G8 at *
  refine ⟨(by show 3 ≤ sizeLine; decide), fun la hla => ?_⟩
  have t9 := same_new hla (.lst [V.ref p1, V.ref p2, V.ref p8])
  have x9 : upd G8 la (.lst [V.ref p1, V.ref p2, V.ref p8]) la = some (.lst [V.ref p1, V.ref p2, V.ref p8]) := upd_same
  have y9 := t9 _ _ y8
  have s9 := s8.trans t9
  have L1 := L1.keep t9
  have L2 := L2.keep t9
  have L3 := L3.keep t9
  generalize upd G8 la (.lst [V.ref p1, V.ref p2, V.ref p8]) = G9 at *
  dsimp only
  refine seq_by (fun σ G => Same G9 G ∧ ∃ (lz : Addr) (vs : List V), σ = [some (.str hd), some (.ref p), some (.int c), some (.int k), some (.ref lz)] ∧ G lz = some (.lst vs) ∧ vs.length = 6 ∧ ∀ v ∈ vs, LW G v) ?_ ?_
  · intro M hM
    refine ⟨_, rfl, _, rfl, _, rfl, rfl, p, _, rfl, SqL.of y9, fun r1 hr1 => ?_⟩
    rw [← List.map_reverse]
    have t10 := same_new hr1 (.lst (ws.reverse.map V.str))
    have L4 : LW (upd G9 r1 (.lst (ws.reverse.map V.str))) (.ref r1) := LW.mk upd_same W.rev (by decide) (by decide)
    have y10 := t10 _ _ y9
    generalize upd G9 r1 (.lst (ws.reverse.map V.str)) = K1 at *
    refine ⟨_, rfl, _, rfl, k, rfl, p, _, rfl, SqL.of y10, fun r2 hr2 => ?_⟩
    rw [e3]
    have t11 := same_new hr2 (.lst (v3.map V.str))
    have z11 : upd K1 r2 (.lst (v3.map V.str)) r2 = some (.lst (v3.map V.str)) := upd_same
    have y11 := t11 _ _ y10
    have s11 := t10.trans t11
    have L4 := L4.keep t11
    generalize upd K1 r2 (.lst (v3.map V.str)) = K2 at *
    have Wt := Ws.split " " au lu
    obtain ⟨f, fr, ef⟩ := split_ne u (y := " ") (by decide +kernel) (by decide +kernel)
    refine ⟨_, rfl, _, rfl, p, _, k, _, rfl, rfl, SqL.of y11, hau, u, rfl, _, rfl, by decide +kernel, le200 (by omega), le200 (by have := Wt.len; omega), fun r3 hr3 => ?_⟩
    rw [ef] at Wt ⊢
    obtain ⟨af, lf⟩ := Wt.one f (.head _)
    have t12 := same_new hr3 (.lst ((f :: fr).map V.str))
    have z12 : upd K2 r3 (.lst ((f :: fr).map V.str)) r3 = some (.lst ((f :: fr).map V.str)) := upd_same
    have y12 := t12 _ _ y11
    have z11 := t12 _ _ z11
    have s12 := s11.trans t12
    have L4 := L4.keep t12
    generalize upd K2 r3 (.lst ((f :: fr).map V.str)) = K3 at *
    refine ⟨r3, _, 0, _, rfl, rfl, SqL.of z12, at0, (by show 1 ≤ sizeLine; decide), fun r4 hr4 => ?_⟩
    have t13 := same_new hr4 (.lst [V.str f])
    have z13 : upd K3 r4 (.lst [V.str f]) r4 = some (.lst ([f].map V.str)) := upd_same
    have y13 := t13 _ _ y12
    have z11 := t13 _ _ z11
    have s13 := s12.trans t13
    have L4 := L4.keep t13
    generalize upd K3 r4 (.lst [V.str f]) = K4 at *
    have Wf : Ws 3300 1 [f] := Ws.sing af lf
    refine ⟨r2, r4, _, _, rfl, rfl, z11, z13, cat_len W3 Wf (by decide), fun r5 hr5 => ?_⟩
    rw [← List.map_append]
    have W3f := W3.app Wf
    have t14 := same_new hr5 (.lst ((v3 ++ [f]).map V.str))
    have z14 : upd K4 r5 (.lst ((v3 ++ [f]).map V.str)) r5 = some (.lst ((v3 ++ [f]).map V.str)) := upd_same
    have y14 := t14 _ _ y13
    have s14 := s13.trans t14
    have L4 := L4.keep t14
    generalize upd K4 r5 (.lst ((v3 ++ [f]).map V.str)) = K5 at *
    refine ⟨_, rfl, _, rfl, _, _, rfl, rfl, _, rfl, p, _, rfl, SqL.of y14, fun r6 hr6 => ?_⟩
    rw [e6]
    have t15 := same_new hr6 (.lst (v6.map V.str))
    have z15 : upd K5 r6 (.lst (v6.map V.str)) r6 = some (.lst (v6.map V.str)) := upd_same
    have z14 := t15 _ _ z14
    have s15 := s14.trans t15
    have L4 := L4.keep t15
    generalize upd K5 r6 (.lst (v6.map V.str)) = K6 at *
    refine ⟨r5, r6, _, _, rfl, rfl, z14, z15, cat_len W3f W6 (by decide), fun r7 hr7 => ?_⟩
    rw [← List.map_append]
    have t16 := same_new hr7 (.lst ((v3 ++ [f] ++ v6).map V.str))
    have L5 : LW (upd K6 r7 (.lst ((v3 ++ [f] ++ v6).map V.str))) (.ref r7) := LW.mk upd_same (W3f.app W6) (by decide) (by decide)
    have s16 := s15.trans t16
    have L4 := L4.keep t16
    generalize upd K6 r7 (.lst ((v3 ++ [f] ++ v6).map V.str)) = K7 at *
    refine ⟨(by show 0 ≤ sizeLine; decide), fun r8 hr8 => ?_⟩
    have t17 := same_new hr8 (.lst [])
    have L6 : LW (upd K7 r8 (.lst [])) (.ref r8) := LW.mk (ws := []) upd_same Ws.nil (by decide) (by decide)
    have s17 := s16.trans t17
    have L4 := L4.keep t17
    have L5 := L5.keep t17
    generalize upd K7 r8 (.lst []) = K8 at *
    refine ⟨(by show 3 ≤ sizeLine; decide), fun r9 hr9 => ?_⟩
    have t18 := same_new hr9 (.lst [V.ref r1, V.ref r7, V.ref r8])
    have z18 : upd K8 r9 (.lst [V.ref r1, V.ref r7, V.ref r8]) r9 = some (.lst [V.ref r1, V.ref r7, V.ref r8]) := upd_same
    have s18 := s17.trans t18
    have L4 := L4.keep t18
    have L5 := L5.keep t18
    have L6 := L6.keep t18
    generalize upd K8 r9 (.lst [V.ref r1, V.ref r7, V.ref r8]) = K9 at *
    refine ⟨la, r9, _, _, rfl, rfl, s18 _ _ x9, z18, (by show 6 ≤ sizeLine; decide), fun lz hlz => ?_⟩
    have t19 := same_new hlz (.lst ([V.ref p1, V.ref p2, V.ref p8] ++ [V.ref r1, V.ref r7, V.ref r8]))
    refine hM _ _ ⟨s18.trans t19, lz, _, rfl, upd_same, rfl, fun v hv => ?_⟩
    have hv' : v = .ref p1 ∨ v = .ref p2 ∨ v = .ref p8 ∨ v = .ref r1 ∨ v = .ref r7 ∨ v = .ref r8 := by simpa using hv
    rcases hv' with rfl | rfl | rfl | rfl | rfl | rfl
    · exact (L1.keep s18).keep t19
    · exact (L2.keep s18).keep t19
    · exact (L3.keep s18).keep t19
    · exact L4.keep t19
    · exact L5.keep t19
    · exact L6.keep t19
  rintro σ G ⟨sG, lz, vs, rfl, hlz, l6, hv⟩
  have sF := s9.trans sG
  have P6 : (0 : Int) < 6 := by decide
  have P7 : (0 : Int) < 7 := by decide
  have c2 : (": " : Str).length = 2 := by decide +kernel
  refine ⟨_, rfl, _, _, rfl, rfl, le200 (by rw [c2]; omega), (by show 4 ≤ sizeLine; decide), fun m hm => ?_⟩
  have t1 := same_new hm (.lst [V.str "; ", V.str ";", V.str " ; ", V.str ", "])
  have z1 : upd G m (.lst [V.str "; ", V.str ";", V.str " ; ", V.str ", "]) m = some (.lst ((["; ", ";", " ; ", ", "] : List Str).map V.str)) := upd_same
  have y1 := t1 _ _ hlz
  have hv1 : ∀ v ∈ vs, LW (upd G m (.lst [V.str "; ", V.str ";", V.str " ; ", V.str ", "])) v := fun v h => (hv v h).keep t1
  generalize upd G m (.lst [V.str "; ", V.str ";", V.str " ; ", V.str ", "]) = G' at *
  have a0 := md0 (c / 40) P7
  have a1 := md1 (c / 40) P7
  have b0 := md0 c P6
  have b1 := md1 c P6
  obtain ⟨se, hse, hat⟩ := at_str (ws := (["; ", ";", " ; ", ", "] : List Str)) (k := if (0 : Int) < c / 40 % 7 - 3 then c / 40 % 7 - 3 else 0) (by split <;> omega) (by show _ < (4 : Int); split <;> omega)
  have os := List.all_eq_true.mp seps_ok se hse
  rw [Bool.and_eq_true, decide_eq_true_eq] at os
  obtain ⟨as, ls⟩ := os
  obtain ⟨j, ej⟩ : ∃ j : Nat, c % 6 = (j : Int) := ⟨(c % 6).toNat, by omega⟩
  have hj : j < vs.length := by omega
  obtain ⟨pz, wz, ez, hz, Wz⟩ := hv1 _ (List.getElem_mem hj)
  have atj : atI vs (c % 6) = some (.ref pz) := by
    rw [ej]
    refine atI_nat ?_
    rw [List.getElem?_eq_getElem hj, ez]
  obtain ⟨jA, jL⟩ := Wz.join as ls
  refine ⟨_, rfl, _, _, rfl, rfl, ⟨by decide, by decide⟩, _, _, rfl, rfl, P7, _, _, rfl, rfl, _, _, rfl, m, _, _, _, rfl, rfl, SqL.of z1, hat, se, rfl, ?_⟩
  refine ⟨_, rfl, _, rfl, _, _, rfl, rfl, P6, lz, _, _, _, rfl, rfl, SqL.of y1, atj, pz, wz, rfl, SqL.of hz, Wz.ok ls (by decide), _, _, rfl, rfl, ?_, ?_⟩
  · rw [Str.length_append, c2]; exact le200 (by omega)
  · refine q _ _ (sF.trans t1) (asc_app (asc_app ah asc2) jA) ?_
    rw [Str.length_append, Str.length_append, c2]
    omega
theorem one8 : (["", "2: ", "2:", ": 0 1", "plan", "plan ", "1: 0 1; 0 1", "plan 1: -1 0"] : List Str).all (fun w => w.cps.all (· < 128) && decide (w.length ≤ 20)) = true := by decide +kernel
noncomputable def spBent (K : PySem.W.Frag) : Sp := fun vs H Q _ => ∃ (a : Addr) (ns : List Int) (x : Str) (b : Bool), vs = [.ref a, .str x, .bl b] ∧ SqL K H a (ns.map V.int) ∧ ns.length ≤ 63 ∧ Asc x ∧ 1 ≤ x.length ∧ x.length ≤ 3300 ∧ ∀ (v : V) (t : Th) (H' : Hp), Same H H' → Den H' t v → okT t → Q v H'
theorem sc_bent : FnScope ["_law_script", "_law_text_here", "_law_is_rule_here", "_law_cell", "_law_at_here", "_law_sign", "_law_more", "_law_way", "_law_words", "_law_head", "_law_mark", "_law_tail"] ["_law_script", "_law_text_here", "_law_is_rule_here"] (defScope s_bent) := ⟨rfl, rfl, rfl, by decide +kernel, rfl, by decide +kernel, by decide +kernel⟩
theorem ok_bent {f : Addr} {fd : FuncData} (F : Fun K "_law_bent" "_law_bent" s_bent f fd) (T : Txt mg) {fatU : Addr} {datU : FuncData} (GatU : FnOk P w K mg base CX0 2 fatU datU ["_law_script", "_law_k"] (spAtU K)) (batU : Binds K datU ["_law_script", "_law_k"] []) (katU : PySem.W.keepIn K (.ref fatU) = true) (matU : mg "_law_at" = some (.ref fatU)) {fsg : Addr} {dsg : FuncData} (Gsg : FnOk P w K mg base CX0 2 fsg dsg [] spSg) (bsg : Binds K dsg [] []) (ksg : PySem.W.keepIn K (.ref fsg) = true) (msg : mg "_law_signs" = some (.ref fsg)) {fnb : Addr} {dnb : FuncData} (Gnb : FnOk P w K mg base CX0 2 fnb dnb ["_law_words", "_law_at_here", "_law_cell"] spNb) (bnb : Binds K dnb ["_law_words", "_law_at_here", "_law_cell"] []) (knb : PySem.W.keepIn K (.ref fnb) = true) (mnb : mg "_law_number_bent" = some (.ref fnb)) {fpb : Addr} {dpb : FuncData} (Gpb : FnOk P w K mg base CX0 2 fpb dpb ["_law_head", "_law_pairs", "_law_cell"] spPb) (bpb : Binds K dpb ["_law_head", "_law_pairs", "_law_cell"] []) (kpb : PySem.W.keepIn K (.ref fpb) = true) (mpb : mg "_law_pairs_bent" = some (.ref fpb)) : FnOk P w K mg base CX0 3 f fd ["_law_script", "_law_text_here", "_law_is_rule_here"] (spBent K) := by
  refine F.ok sc_bent (fun vs H Q E h => ?_) (fun cdv A outer s H vs Q E hr h => ?_)
  · obtain ⟨a, ns, x, b, rfl, _⟩ := h
    rfl
  obtain ⟨a, ns, x, b, rfl, hS, h63, ax, x1, xl, q⟩ := h
  refine ⟨_, (pss_cons (ps_set (i := 3) sc_bent.nd rfl (Or.inl rfl) (pe_call GatU hr rfl matU katU batU .nil pass0 (pa_cons (pv 0) (pa_cons pe_int pa_nil))))
    (pss_cons (ps_set (i := 4) sc_bent.nd rfl (Or.inl rfl) (pe_op op_mod (pe_call GatU hr rfl matU katU batU .nil pass0 (pa_cons (pv 0) (pa_cons pe_int pa_nil))) (pe_callB call_len_str rfl T.len boot_len (pa_cons (pv 1) pa_nil))))
    (pss_cons (ps_set (i := 5) sc_bent.nd rfl (Or.inl rfl) (pe_ix ix_str (pe_call0 Gsg hr rfl msg ksg bsg .nil pass0) (pe_op op_mod (pe_call GatU hr rfl matU katU batU .nil pass0 (pa_cons (pv 0) (pa_cons pe_int pa_nil))) pe_int) (fun _ _ => rfl)))
    (pss_cons (ps_set (i := 6) sc_bent.nd rfl (Or.inl rfl) (pe_call GatU hr rfl matU katU batU .nil pass0 (pa_cons (pv 0) (pa_cons pe_int pa_nil))))
    (pss_cons (ps_set (i := 7) sc_bent.nd rfl (Or.inl rfl) (pe_op op_mod (pv 3) pe_int))
    (pss_cons (ps_if (pt_cmpR op_eq (pv 7) pe_int (nomark _)) (pss_one (ps_ret (pe_op op_addS (pe_op op_addS (pe_slice sl_str (pv 1) po_none (po_some (pv 4))) (pv 5)) (pe_slice sl_str (pv 1) (po_some (pv 4)) po_none)))) pss_nil)
    (pss_cons (ps_if (pt_cmpR op_eq (pv 7) pe_int (nomark _)) (pss_one (ps_ret (pe_op op_addS (pe_slice sl_str (pv 1) po_none (po_some (pv 4))) (pe_slice sl_str (pv 1) (po_some (pe_op op_add (pv 4) pe_int)) po_none)))) pss_nil)
    (pss_cons (ps_if (pt_cmpR op_eq (pv 7) pe_int (nomark _)) (pss_one (ps_ret (pe_op op_addS (pe_op op_addS (pe_slice sl_str (pv 1) po_none (po_some (pv 4))) (pv 5)) (pe_slice sl_str (pv 1) (po_some (pe_op op_add (pv 4) pe_int)) po_none)))) pss_nil)
    (pss_cons (ps_if (pt_cmpR op_lt (pv 7) pe_int (nomark _)) (pss_cons (ps_set (i := 8) sc_bent.nd rfl (Or.inl rfl) (pe_split (pv 1) pe_str))
      (pss_one (ps_ret (pe_call Gnb hr rfl mnb knb bnb .nil pass0 (pa_cons (pv 8) (pa_cons (pe_op op_mod (pe_op op_fdiv (pv 6) pe_int) (pe_callB call_len_seq rfl T.len boot_len (pa_cons (pv 8) pa_nil))) (pa_cons (pv 6) pa_nil))))))) pss_nil)
    (pss_cons (ps_if (pt_cmpR op_lt (pv 7) pe_int (nomark _)) (pss_cons (ps_asg (pe_partition (pv 1) pe_str) (pg_tup rfl (pgs_cons (pg_name (i := 9) sc_bent.nd rfl (Or.inl rfl)) (pgs_cons (pg_name (i := 10) sc_bent.nd rfl (Or.inl rfl)) (pgs_cons (pg_name (i := 11) sc_bent.nd rfl (Or.inl rfl)) pgs_nil)))))
      (pss_one (ps_ret (pe_call Gpb hr rfl mpb kpb bpb .nil pass0 (pa_cons (pv 9) (pa_cons (pe_split (pv 11) pe_str) (pa_cons (pv 6) pa_nil))))))) pss_nil)
    (pss_cons (ps_if (pt_cmpR op_eq (pv 7) pe_int (nomark _)) (pss_one (ps_ret (pe_ix ix_list (pe_lst (pa_cons (pe_op op_addS (pv 1) pe_str) (pa_cons (pe_op op_addS pe_str (pv 1)) (pa_cons (pe_op op_addS (pv 1) pe_str) (pa_one (pe1_add (pv 1)) (pa_then (pet_replace (i := 1) rfl (Or.inl rfl) (by decide +kernel)) pa_nil)))))) (pe_op op_mod (pv 6) pe_int) (fun _ _ => rfl)))) pss_nil)
    (pss_cons (ps_if (pt_cmpR op_eq (pv 7) pe_int (nomark _)) (pss_one (ps_ret (pe_ix ix_list (pe_lst (pa_cons (pe_op op_addS pe_str (pv 1)) (pa_one (pe1_from (pv 1)) (pa_then (pet_replace (i := 1) rfl (Or.inl rfl) (by decide +kernel)) (pa_cons (pe_upper (pv 1)) pa_nil))))) (pe_op op_mod (pv 6) pe_int) (fun _ _ => rfl)))) pss_nil)
    (pss_cons (ps_if (pt_cmpR op_eq (pv 7) pe_int (nomark _)) (pss_one (ps_ret (pe_ix ix_list (pe_lst (pa_cons pe_str (pa_cons pe_str (pa_cons pe_str (pa_cons pe_str (pa_cons pe_str (pa_cons pe_str (pa_cons pe_str (pa_cons pe_str pa_nil))))))))) (pe_op op_mod (pv 6) pe_int) (fun _ _ => rfl)))) pss_nil)
    (pss_one (ps_ret (pe_ix ix_list (pe_lst (pa_cons pe_non (pa_cons pe_int (pa_cons pe_bl (pa_cons (pe_lst (pa_cons (pv 1) pa_nil)) (pa_cons (pe_tup (pa_cons (pv 1) pa_nil)) (pa_cons pe_dnewK pa_nil))))))) (pe_op op_mod (pv 6) pe_int) (fun _ _ => rfl))))))))))))))))), ?_⟩
  have qs : ∀ (z : Str) (G : Hp), Same H G → Asc z → z.length ≤ 40000 → Q (.str z) G := fun z G s az lz => q _ (.str z) G s rfl (fun y e => by cases e; exact ⟨az, lz⟩)
  have PL : (0 : Int) < (x.length : Int) := by omega
  have P94 : (0 : Int) < 94 := by decide
  have P14 : (0 : Int) < 14 := by decide
  refine ⟨_, rfl, a, ns, 16, rfl, hS, h63, by omega, by omega, fun cl => ?_⟩
  refine ⟨_, rfl, a, ns, 17, rfl, hS, h63, by omega, by omega, fun r1 => ⟨_, rfl, x, rfl, le200 (by omega), _, _, rfl, rfl, PL, ?_⟩⟩
  have k0 := md0 r1 PL
  have k1 := md1 r1 PL
  dsimp only
  generalize r1 % (x.length : Int) = k at *
  have sg : ∀ i : Int, 0 ≤ i → i < 94 → ∃ c, atI sgn.cps.toList i = some c ∧ c < 128 := fun i h0 h1 => by
    obtain ⟨j, rfl⟩ : ∃ j : Nat, i = (j : Int) := ⟨i.toNat, by omega⟩
    have lj : j < sgn.cps.toList.length := by rw [len_toList, sgn_ok.2]; omega
    exact ⟨sgn.cps.toList[j], atI_nat (List.getElem?_eq_getElem lj), asc_iff.mp (show Asc sgn from sgn_ok.1) _ (List.getElem_mem lj)⟩
  refine ⟨rfl, _, rfl, a, ns, 18, rfl, hS, h63, by omega, by omega, fun r2 => ?_⟩
  obtain ⟨c, hc, c128⟩ := sg (r2 % 94) (md0 r2 P94) (md1 r2 P94)
  refine ⟨_, _, rfl, rfl, P94, sgn, _, c, rfl, rfl, le200 (by rw [sgn_ok.2]; decide), hc, ?_⟩
  have asg : Asc ⟨#[c]⟩ := asc_iff.mpr fun d hd => by
    have : d = c := by simpa using hd
    omega
  have lsg : (⟨#[c]⟩ : Str).length = 1 := rfl
  generalize (⟨#[c]⟩ : Str) = sn at *
  refine ⟨_, rfl, a, ns, 19, rfl, hS, h63, by omega, by omega, fun mr => ?_⟩
  refine ⟨_, rfl, _, _, rfl, rfl, P14, ?_⟩
  dsimp only
  generalize cl % 14 = wy at *
  have le1 := Txt.slice_le x none (some k)
  have le2 := Txt.slice_le x (some k) none
  have le3 := Txt.slice_le x (some (k + 1)) none
  have as1 := slice_asc ax none (some k)
  have as2 := slice_asc ax (some k) none
  have as3 := slice_asc ax (some (k + 1)) none
  refine ⟨_, rfl, rfl, _, rfl, ?_⟩
  refine ite2 (fun _ => ?_) (fun _ => ?_)
  · refine ⟨_, rfl, _, rfl, k, rfl, x, rfl, le200 (by omega), _, rfl, _, _, rfl, rfl, le200 (by omega), _, rfl, _, rfl, k, rfl, x, rfl, le200 (by omega), _, _, rfl, rfl, ?_, ?_⟩
    · rw [Str.length_append]; exact le200 (by omega)
    · refine qs _ _ (Same.refl _) (asc_app (asc_app as1 asg) as2) ?_
      rw [Str.length_append, Str.length_append]; omega
  refine ⟨_, rfl, rfl, _, rfl, ?_⟩
  refine ite2 (fun _ => ?_) (fun _ => ?_)
  · refine ⟨_, rfl, _, rfl, k, rfl, x, rfl, le200 (by omega), _, rfl, _, rfl, _, _, rfl, rfl, _, rfl, x, rfl, le200 (by omega), _, _, rfl, rfl, le200 (by omega), ?_⟩
    refine qs _ _ (Same.refl _) (asc_app as1 as3) ?_
    rw [Str.length_append]; omega
  refine ⟨_, rfl, rfl, _, rfl, ?_⟩
  refine ite2 (fun _ => ?_) (fun _ => ?_)
  · refine ⟨_, rfl, _, rfl, k, rfl, x, rfl, le200 (by omega), _, rfl, _, _, rfl, rfl, le200 (by omega), _, rfl, _, rfl, _, _, rfl, rfl, _, rfl, x, rfl, le200 (by omega), _, _, rfl, rfl, ?_, ?_⟩
    · rw [Str.length_append]; exact le200 (by omega)
    · refine qs _ _ (Same.refl _) (asc_app (asc_app as1 asg) as3) ?_
      rw [Str.length_append, Str.length_append]; omega
  refine ⟨_, rfl, _, _, rfl, rfl, _, rfl, ?_⟩
  refine ite2 (fun _ => ?_) (fun _ => ?_)
  ·
    have W := Ws.split " " ax xl
    obtain ⟨f, fr, ef⟩ := split_ne x (y := " ") (by decide +kernel) (by decide +kernel)
    have lp : 1 ≤ (Txt.split x " ").length := by rw [ef]; simp
    refine ⟨_, rfl, x, rfl, _, rfl, by decide +kernel, le200 (by omega), le200 (by have := W.len; omega), fun p hp => ?_⟩
    have s1 := same_new hp (.lst ((Txt.split x " ").map V.str))
    have y1 : upd H p (.lst ((Txt.split x " ").map V.str)) p = some (.lst ((Txt.split x " ").map V.str)) := upd_same
    generalize upd H p (.lst ((Txt.split x " ").map V.str)) = G1 at *
    generalize Txt.split x " " = ws at *
    have Pw : (0 : Int) < ((ws.map V.str).length : Int) := by simp; omega
    refine ⟨_, rfl, _, rfl, _, _, rfl, rfl, ⟨by decide, by decide⟩, _, rfl, p, _, rfl, .inl (SqL.of y1), _, _, rfl, rfl, Pw, _, rfl, p, ws, _, mr, rfl, y1, W, md0 _ Pw, by have h := md1 (mr / 24) Pw; simp only [List.length_map] at h ⊢; exact h, fun z G hG az lz => qs z G (fun b o hb => ?_) az lz⟩
    exact hG b o (fun e => by rw [e, hp] at hb; cases hb) (s1 _ _ hb)
  refine ⟨_, rfl, _, _, rfl, rfl, _, rfl, ?_⟩
  refine ite2 (fun _ => ?_) (fun _ => ?_)
  ·
    obtain ⟨ha, m, ta, ep, aa, am, ac, la, lc⟩ := parts_three x ": " ax asc2
    refine ⟨_, rfl, x, rfl, _, rfl, by decide +kernel, le200 (by omega), fun p hp => ?_⟩
    rw [ep]
    have s1 := same_new hp (.tup ([ha, m, ta].map V.str))
    have xp : upd H p (.tup ([ha, m, ta].map V.str)) p = some (.tup [.str ha, .str m, .str ta]) := upd_same
    generalize upd H p (.tup ([ha, m, ta].map V.str)) = H1 at *
    have W := Ws.split "; " ac (Nat.le_trans lc xl)
    obtain ⟨f, fr, ef⟩ := split_ne ta (y := "; ") (by decide +kernel) (by decide +kernel)
    have lp : 1 ≤ (Txt.split ta "; ").length := by rw [ef]; simp
    refine ⟨p, _, rfl, SqT.of xp, rfl, _, _, rfl, _, _, rfl, _, _, rfl, rfl, ?_⟩
    refine ⟨_, rfl, _, rfl, ta, rfl, _, rfl, by decide +kernel, le200 (by omega), le200 (by have := W.len; omega), fun l hl => ?_⟩
    have s2 := same_new hl (.lst ((Txt.split ta "; ").map V.str))
    exact ⟨_, rfl, ha, l, _, mr, rfl, aa, by omega, upd_same, W, lp, fun z G sG az lz => qs z G (s1.trans (s2.trans sG)) az lz⟩
  refine ⟨_, rfl, rfl, _, rfl, ?_⟩
  refine ite2 (fun _ => ?_) (fun _ => ?_)
  ·
    have P5 : (0 : Int) < 5 := by decide
    have l1 : (" " : Str).length = 1 := by decide +kernel
    have l2 : (";" : Str).length = 1 := by decide +kernel
    have l3 : ("; " : Str).length = 2 := by decide +kernel
    have l4 : ("  " : Str).length = 2 := by decide +kernel
    have a4 : Asc "  " := by show ("  " : Str).cps.all (· < 128) = true; decide +kernel
    have a2 : Asc ";" := by show (";" : Str).cps.all (· < 128) = true; decide +kernel
    obtain ⟨ra, rl⟩ := repl_ok (y := " ") ax a4 xl (Nat.le_of_eq l4)
    obtain ⟨w, hw, hat⟩ := at_str (ws := [x ++ " ", " " ++ x, x ++ ";", x ++ "; ", Txt.replace x " " "  "]) (md0 mr P5) (show mr % 5 < (5 : Int) from md1 mr P5)
    have ok : Asc w ∧ w.length ≤ 40000 := by
      have hw' : w = x ++ " " ∨ w = " " ++ x ∨ w = x ++ ";" ∨ w = x ++ "; " ∨ w = Txt.replace x " " "  " := by simpa using hw
      rcases hw' with rfl | rfl | rfl | rfl | rfl
      · exact ⟨asc_app ax asc1, by rw [Str.length_append]; omega⟩
      · exact ⟨asc_app asc1 ax, by rw [Str.length_append]; omega⟩
      · exact ⟨asc_app ax a2, by rw [Str.length_append]; omega⟩
      · exact ⟨asc_app ax asc3, by rw [Str.length_append]; omega⟩
      · exact ⟨ra, by omega⟩
    refine ⟨_, rfl, _, _, rfl, rfl, le200 (by omega), _, rfl, _, _, rfl, rfl, le200 (by omega), _, rfl, _, _, rfl, rfl, le200 (by omega), _, rfl, _, _, rfl, rfl, le200 (by omega), x, rfl, by rw [l4]; omega, (by show 5 ≤ sizeLine; decide), fun p hp => ?_⟩
    exact ⟨_, rfl, _, _, rfl, rfl, P5, p, _, _, _, rfl, rfl, SqL.of upd_same, hat, qs w _ (same_new hp _) ok.1 ok.2⟩
  refine ⟨_, rfl, rfl, _, rfl, ?_⟩
  refine ite2 (fun _ => ?_) (fun _ => ?_)
  ·
    have P4 : (0 : Int) < 4 := by decide
    have l5 : ("plan " : Str).length = 5 := by decide +kernel
    have l4 : ("rule" : Str).length = 4 := by decide +kernel
    have a4 : Asc "rule" := by show ("rule" : Str).cps.all (· < 128) = true; decide +kernel
    obtain ⟨ra, rl⟩ := repl_ok (y := "plan") ax a4 xl (Nat.le_of_eq l4)
    obtain ⟨ua, ul⟩ := upper_ok ax
    have le5 := Txt.slice_le x (some 5) none
    obtain ⟨w, hw, hat⟩ := at_str (ws := ["plan " ++ x, Txt.slice x (some 5) none, Txt.replace x "plan" "rule", Txt.upper x]) (md0 mr P4) (show mr % 4 < (4 : Int) from md1 mr P4)
    have ok : Asc w ∧ w.length ≤ 40000 := by
      have hw' : w = "plan " ++ x ∨ w = Txt.slice x (some 5) none ∨ w = Txt.replace x "plan" "rule" ∨ w = Txt.upper x := by simpa using hw
      rcases hw' with rfl | rfl | rfl | rfl
      · exact ⟨asc_app ascP ax, by rw [Str.length_append]; omega⟩
      · exact ⟨slice_asc ax _ _, by omega⟩
      · exact ⟨ra, by omega⟩
      · exact ⟨ua, by omega⟩
    have tlf : PySem.Builtin.Str.tooLong (Txt.upper x).length = false := by
      unfold PySem.Builtin.Str.tooLong
      exact decide_eq_false (by have := le200 (n := (Txt.upper x).length) (by omega); omega)
    refine ⟨_, rfl, _, _, rfl, rfl, le200 (by omega), _, rfl, x, rfl, le200 (by omega), x, rfl, by rw [l4]; omega, _, rfl, x, rfl, tlf, (by show 4 ≤ sizeLine; decide), fun p hp => ?_⟩
    exact ⟨_, rfl, _, _, rfl, rfl, P4, p, _, _, _, rfl, rfl, SqL.of upd_same, hat, qs w _ (same_new hp _) ok.1 ok.2⟩
  refine ⟨_, rfl, rfl, _, rfl, ?_⟩
  refine ite2 (fun _ => ?_) (fun _ => ?_)
  · have P8 : (0 : Int) < 8 := by decide
    obtain ⟨w, hw, hat⟩ := at_str (ws := (["", "2: ", "2:", ": 0 1", "plan", "plan ", "1: 0 1; 0 1", "plan 1: -1 0"] : List Str)) (md0 mr P8) (show mr % 8 < (8 : Int) from md1 mr P8)
    have ok := List.all_eq_true.mp one8 w hw
    rw [Bool.and_eq_true, decide_eq_true_eq] at ok
    refine ⟨(by show 8 ≤ sizeLine; decide), fun p hp => ?_⟩
    exact ⟨_, rfl, _, _, rfl, rfl, P8, p, _, _, _, rfl, rfl, SqL.of upd_same, hat, qs w _ (same_new hp _) ok.1 (by omega)⟩
  have P6 : (0 : Int) < 6 := by decide
  have m0 := md0 mr P6
  have m1 := md1 mr P6
  refine ⟨_, rfl, (by show 1 ≤ sizeLine; decide), fun p1 h1 => ?_⟩
  have s1 := same_new h1 (.lst [V.str x])
  have y1 : upd H p1 (.lst [V.str x]) p1 = some (.lst [V.str x]) := upd_same
  generalize upd H p1 (.lst [V.str x]) = G1 at *
  refine ⟨_, rfl, (by show 1 ≤ sizeLine; decide), fun p2 h2 => ?_⟩
  have s2 := same_new h2 (.tup [V.str x])
  have y2 : upd G1 p2 (.tup [V.str x]) p2 = some (.tup [V.str x]) := upd_same
  generalize upd G1 p2 (.tup [V.str x]) = G2 at *
  refine fun p3 h3 => ?_
  have s3 := same_new h3 (.dK [])
  have y3 : upd G2 p3 (.dK []) p3 = some (.dK []) := upd_same
  generalize upd G2 p3 (.dK []) = G3 at *
  refine ⟨(by show 6 ≤ sizeLine; decide), fun p4 h4 => ?_⟩
  have s4 := same_new h4 (.lst [V.non, V.int 7, V.bl true, V.ref p1, V.ref p2, V.ref p3])
  have y4 : upd G3 p4 (.lst [V.non, V.int 7, V.bl true, V.ref p1, V.ref p2, V.ref p3]) p4 = some (.lst [V.non, V.int 7, V.bl true, V.ref p1, V.ref p2, V.ref p3]) := upd_same
  generalize upd G3 p4 (.lst [V.non, V.int 7, V.bl true, V.ref p1, V.ref p2, V.ref p3]) = G4 at *
  have sA := s1.trans (s2.trans (s3.trans s4))
  have key : ∃ v t, atI [V.non, V.int 7, V.bl true, V.ref p1, V.ref p2, V.ref p3] (mr % 6) = some v ∧ Den G4 t v ∧ okT t := by
    generalize mr % 6 = i at *
    have hi : i = 0 ∨ i = 1 ∨ i = 2 ∨ i = 3 ∨ i = 4 ∨ i = 5 := by omega
    rcases hi with rfl | rfl | rfl | rfl | rfl | rfl
    · exact ⟨_, .non, at0, rfl, fun y e => by cases e⟩
    · exact ⟨_, .int 7, at1, rfl, fun y e => by cases e⟩
    · exact ⟨_, .bl true, atI_nat (j := 2) rfl, rfl, fun y e => by cases e⟩
    · exact ⟨_, .lst [.str x], atI_nat (j := 3) rfl, ⟨p1, _, rfl, (s2.trans (s3.trans s4)) _ _ y1, _, _, rfl, rfl, rfl⟩, fun y e => by cases e⟩
    · exact ⟨_, .tup [.str x], atI_nat (j := 4) rfl, ⟨p2, _, rfl, (s3.trans s4) _ _ y2, _, _, rfl, rfl, rfl⟩, fun y e => by cases e⟩
    · exact ⟨_, .emp, atI_nat (j := 5) rfl, ⟨p3, rfl, s4 _ _ y3⟩, fun y e => by cases e⟩
  obtain ⟨v, t, hat, hd, ok⟩ := key
  exact ⟨_, rfl, _, _, rfl, rfl, P6, p4, _, _, _, rfl, rfl, SqL.of y4, hat, q v t _ sA hd ok⟩
theorem frac_ok {x : Str} {p : Int × Int} (h : fracT x = some p) : 1 ≤ p.2 ∧ Int.gcd p.1 p.2 = 1 := by
  unfold fracT at h
  split at h
  · rename_i a m b _
    cases ha : wholeT a with
    | none => rw [ha] at h; cases h
    | some t =>
      rw [ha] at h
      have h' : (if m = Str.empty then some (t, 1) else (wholeT b).bind fun d => if d < 2 ∨ Int.gcd t d ≠ 1 then none else some (t, d)) = some p := h
      by_cases c : m = Str.empty
      · rw [if_pos c] at h'
        cases h'
        exact ⟨Int.le_refl 1, by show Int.gcd t 1 = 1; simp⟩
      · rw [if_neg c] at h'
        cases hb : wholeT b with
        | none => rw [hb] at h'; cases h'
        | some d =>
          rw [hb] at h'
          have h2 : (if d < 2 ∨ Int.gcd t d ≠ 1 then none else some (t, d)) = some p := h'
          by_cases e : d < 2 ∨ Int.gcd t d ≠ 1
          · rw [if_pos e] at h2; cases h2
          · rw [if_neg e] at h2
            cases h2
            refine ⟨?_, ?_⟩
            · show 1 ≤ d
              have : ¬ d < 2 := fun z => e (.inl z)
              omega
            · show Int.gcd t d = 1
              exact Decidable.of_not_not fun z => e (.inr z)
  · cases h
theorem pick_list {α : Type} {f : α → Th} {P : α → Prop} : ∀ {ps : List (Th × Th)}, (∀ p ∈ ps, ∃ a, pT p = f a ∧ P a) → ∃ as : List α, ps.map pT = as.map f ∧ ∀ a ∈ as, P a
  | [], _ => ⟨[], rfl, fun a ha => absurd ha (by simp)⟩
  | p :: ps, h => by
    obtain ⟨a, e, ha⟩ := h p (.head _)
    obtain ⟨as, es, has⟩ := pick_list (fun p hp => h p (.tail _ hp))
    refine ⟨a :: as, by rw [List.map_cons, List.map_cons, e, es], fun b hb => ?_⟩
    rcases List.mem_cons.mp hb with rfl | hb
    · exact ha
    · exact has b hb
theorem rule_fs {t : Th} {n : Int} {ps : List (Th × Th)} (h : readOf true t = some (n, ps)) : ∃ fs : List Sq, ps.map pT = fs.map ssT ∧ ∀ f ∈ fs, FrOk f.1 ∧ FrOk f.2 := by
  refine pick_list fun p hp => ?_
  obtain ⟨x, hx⟩ := read_mem h p hp
  obtain ⟨u, v, h1, h2⟩ := pair_ends hx
  obtain ⟨a, ea, fa⟩ := end_frac h1
  obtain ⟨b, eb, fb⟩ := end_frac h2
  have la := frac_lt fa
  have lb := frac_lt fb
  refine ⟨(a, b), ?_, ⟨(frac_ok fa).1, (frac_ok fa).2, smk60 la.1, smk60 la.2⟩, ⟨(frac_ok fb).1, (frac_ok fb).2, smk60 lb.1, smk60 lb.2⟩⟩
  show Th.tup [p.1, p.2] = Th.tup [ppT a, ppT b]
  rw [ea, eb]
  rfl
theorem plan_bs {t : Th} {n : Int} {ps : List (Th × Th)} (h : readOf false t = some (n, ps)) : ∃ bs : List (Int × Int), ps.map pT = bs.map ppT ∧ ∀ b ∈ bs, True := by
  refine pick_list fun p hp => ?_
  obtain ⟨x, hx⟩ := read_mem h p hp
  obtain ⟨u, v, h1, h2⟩ := pair_ends hx
  have ew : ∀ {u : Str} {t : Th}, endT false u = some t → ∃ i, t = .int i := fun {u t} h => by
    unfold endT at h
    rw [if_neg Bool.false_ne_true] at h
    cases e : wholeT u with
    | none => rw [e] at h; cases h
    | some i => rw [e] at h; cases h; exact ⟨i, rfl⟩
  obtain ⟨i, ei⟩ := ew h1
  obtain ⟨j, ej⟩ := ew h2
  refine ⟨(i, j), ?_, trivial⟩
  show Th.tup [p.1, p.2] = Th.tup [.int i, .int j]
  rw [ei, ej]
theorem sh_iff {p : Fq} : shareT (ppT p) = true ↔ 1 ≤ p.2 ∧ 0 ≤ p.1 ∧ p.1 ≤ p.2 ∧ Int.gcd p.1 p.2 = 1 := by
  show (true && (decide ((1 : Int) ≤ p.2) && (decide (0 ≤ p.1) && (decide (p.1 ≤ p.2) && decide (Int.gcd p.1 p.2 = 1))))) = true ↔ _
  simp only [Bool.true_and, Bool.and_eq_true, decide_eq_true_eq]
theorem pp_inj {p q : Fq} (h : ppT p = ppT q) : p = q := by
  have h2 : Th.tup [.int p.1, .int p.2] = Th.tup [.int q.1, .int q.2] := h
  injection h2 with h2
  injection h2 with x1 h2
  injection h2 with x2 _
  injection x1 with x1
  injection x2 with x2
  exact Prod.ext x1 x2
theorem ss_inj {p q : Sq} (h : ssT p = ssT q) : p = q := by
  have h2 : Th.tup [ppT p.1, ppT p.2] = Th.tup [ppT q.1, ppT q.2] := h
  injection h2 with h2
  injection h2 with x1 h2
  injection h2 with x2 _
  exact Prod.ext (pp_inj x1) (pp_inj x2)
theorem st2_iff {s : Sq} : st2 (ssT s) = some s ↔ shareT (ppT s.1) = true ∧ shareT (ppT s.2) = true := by
  have e : st2 (ssT s) = (shOf (ppT s.1)).bind fun p => (shOf (ppT s.2)).bind fun q => some (p, q) := rfl
  rw [e]
  constructor
  · intro h
    cases c1 : shareT (ppT s.1) with
    | false => rw [sh_no c1] at h; cases h
    | true =>
      cases c2 : shareT (ppT s.2) with
      | false =>
        obtain ⟨p, _, ep⟩ := sh_yes c1
        rw [ep, sh_no c2] at h; cases h
      | true => exact ⟨rfl, rfl⟩
  · rintro ⟨c1, c2⟩
    obtain ⟨p, e1, ep⟩ := sh_yes c1
    obtain ⟨q, e2, eq⟩ := sh_yes c2
    rw [ep, eq, ← pp_inj e1, ← pp_inj e2]
    rfl
theorem noL_und {p q : Fq} : noL p q = true ↔ und2 p q = false := by
  unfold noL und2
  rw [decide_eq_true_eq, decide_eq_false_iff_not]
  omega
theorem good_rub {n : Int} {ps : List (Th × Th)} {fs : List Sq} (e : ps.map pT = fs.map ssT) (ok : ∀ f ∈ fs, FrOk f.1 ∧ FrOk f.2) : goodR true (n, ps) ↔ RuB n fs := by
  unfold goodR
  rw [if_pos rfl]
  dsimp only
  rw [e]
  constructor
  · rintro ⟨m, qs, g⟩
    have en := g.a
    injection en with en
    subst en
    obtain ⟨ts, e1, e2⟩ := g.seq
    cases e1
    have key : ∀ s ∈ fs, st2 (ssT s) = some s ∧ s ∈ qs := fun s hs => by
      have : st2 (ssT s) ∈ (fs.map ssT).map st2 := List.mem_map.mpr ⟨_, List.mem_map.mpr ⟨s, hs, rfl⟩, rfl⟩
      rw [e2] at this
      obtain ⟨q, hq, eq⟩ := List.mem_map.mp this
      have : ssT q = ssT s := st2_th (x := ppT s.1) (y := ppT s.2) eq.symm
      rw [ss_inj this] at eq hq
      exact ⟨eq.symm, hq⟩
    have eqs : fs = qs := by
      have e3 : (fs.map ssT).map st2 = fs.map some := by
        rw [List.map_map]
        exact List.map_congr_left fun s hs => (key s hs).1
      rw [e3] at e2
      exact (List.map_inj_right (fun a b h => Option.some.inj h)).mp e2
    subst eqs
    refine ⟨g.n1, g.n12, g.len, fun f hf => ?_, fun k f g' e1 e2 => ?_⟩
    · obtain ⟨s1, s2⟩ := st2_iff.mp (key f hf).1
      exact ⟨(sh_iff.mp s1).2.1, (sh_iff.mp s2).2.2.1, noL_und.mpr (g.inn f hf)⟩
    · obtain ⟨z1, z2⟩ := g.ris k g' f e1 e2
      exact ⟨noL_und.mpr z1, noL_und.mpr z2⟩
  · intro r
    refine ⟨n, fs, rfl, ⟨_, rfl, ?_⟩, r.n1, r.n12, r.len, fun f hf => noL_und.mp (r.one f hf).2.2, fun i p q hp hq => ?_⟩
    · rw [List.map_map]
      refine List.map_congr_left fun s hs => st2_iff.mpr ?_
      obtain ⟨o1, o2, o3⟩ := r.one s hs
      obtain ⟨⟨b1, g1, _⟩, ⟨b2, g2, _⟩⟩ := ok s hs
      have o3' : s.1.1 * s.2.2 ≤ s.2.1 * s.1.2 := of_decide_eq_true o3
      refine ⟨sh_iff.mpr ⟨b1, o1, ?_, g1⟩, sh_iff.mpr ⟨b2, ?_, o2, g2⟩⟩
      · have h1 : s.2.1 * s.1.2 ≤ s.2.2 * s.1.2 := Int.mul_le_mul_of_nonneg_right o2 (by omega)
        have h2 : s.1.1 * s.2.2 ≤ s.1.2 * s.2.2 := by rw [Int.mul_comm s.1.2]; omega
        exact Int.le_of_mul_le_mul_right h2 (by omega)
      · have h1 : 0 ≤ s.1.1 * s.2.2 := Int.mul_nonneg o1 (by omega)
        refine Int.le_of_mul_le_mul_right (a := s.1.2) ?_ (by omega)
        rw [Int.zero_mul]
        omega
    · obtain ⟨z1, z2⟩ := r.ris i q p hp hq
      exact ⟨noL_und.mp z1, noL_und.mp z2⟩
theorem good_plb {n : Int} {ps : List (Th × Th)} {bs : List (Int × Int)} (e : ps.map pT = bs.map ppT) : goodR false (n, ps) ↔ PlB n bs := by
  unfold goodR
  rw [if_neg Bool.false_ne_true]
  dsimp only
  rw [e]
  constructor
  · rintro ⟨m, qs, g⟩
    have en := g.a
    injection en with en
    subst en
    obtain ⟨ts, e1, e2⟩ := g.seq
    cases e1
    have eqs : bs = qs := by
      have e3 : (bs.map ppT).map pr2 = bs.map some := by
        rw [List.map_map]
        exact List.map_congr_left fun s hs => rfl
      rw [e3] at e2
      exact (List.map_inj_right (fun a b h => Option.some.inj h)).mp e2
    subst eqs
    have := g.n1
    have := g.n12
    have := g.len
    exact ⟨by omega, by omega, by omega, g.inn, fun p hp => g.last p (by rw [Int.toNat_natCast] at hp; exact hp)⟩
  · intro r
    have n1 := r.n1
    have n12 := r.n12
    have ln := r.len
    obtain ⟨m, rfl⟩ : ∃ m : Nat, n = (m : Int) := ⟨n.toNat, by omega⟩
    refine ⟨m, bs, rfl, ⟨_, rfl, ?_⟩, by omega, by omega, by omega, r.inn, fun p hp => r.last p (by rw [Int.toNat_natCast]; exact hp)⟩
    rw [List.map_map]
    exact List.map_congr_left fun s hs => rfl
theorem dep_map {α : Type} {f : α → Th} {k : Nat} (h : ∀ a, depT (f a) ≤ k) : ∀ l : List α, depTs (l.map f) ≤ k
  | [] => Nat.zero_le _
  | a :: r => by
    show max (depT (f a)) (depTs (r.map f)) ≤ k
    exact Nat.max_le.mpr ⟨h a, dep_map h r⟩
theorem res_ok {b : Bool} {t : Th} {n : Int} {ps : List (Th × Th)} (h : resO b t = some (n, ps)) : depT (resT (n, ps)) ≤ 60 ∧
    (b = true → ∃ fs : List Sq, ps.map pT = fs.map ssT ∧ (∀ f ∈ fs, FrOk f.1 ∧ FrOk f.2) ∧ (goodR true (n, ps) ↔ RuB n fs)) ∧
    (b = false → ∃ bs : List (Int × Int), ps.map pT = bs.map ppT ∧ (goodR false (n, ps) ↔ PlB n bs)) := by
  cases b with
  | true =>
    obtain ⟨fs, e, ok⟩ := rule_fs (show readOf true t = some (n, ps) from h)
    refine ⟨?_, fun _ => ⟨fs, e, ok, good_rub e ok⟩, (fun z => absurd z (by decide))⟩
    show depT (.tup [.int n, .tup (ps.map pT)]) ≤ 60
    rw [e]
    have := dep_map (f := ssT) (k := 2) (fun a => Nat.le_refl _) fs
    show max 0 (max (depTs (fs.map ssT) + 1) 0) + 1 ≤ 60
    omega
  | false =>
    have h' : (behind t).bind (readOf false) = some (n, ps) := h
    cases hb : behind t with
    | none => rw [hb] at h'; cases h'
    | some u =>
      rw [hb] at h'
      obtain ⟨bs, e, _⟩ := plan_bs (show readOf false u = some (n, ps) from h')
      refine ⟨?_, (fun z => absurd z (by decide)), fun _ => ⟨bs, e, good_plb e⟩⟩
      show depT (.tup [.int n, .tup (ps.map pT)]) ≤ 60
      rw [e]
      have := dep_map (f := ppT) (k := 1) (fun a => Nat.le_refl _) bs
      show max 0 (max (depTs (bs.map ppT) + 1) 0) + 1 ≤ 60
      omega
theorem tol_one {b : Bool} {t : Th} {H : Hp} {u v : V} (hu : tolD b t H u) (hv : tolD b t H v) : ∃ s, Den H s u ∧ Den H s v ∧ depT s ≤ 60 := by
  cases e : resO b t with
  | none =>
    refine ⟨.str "text", hu.1 e, hv.1 e, Nat.zero_le _⟩
  | some p =>
    obtain ⟨n, ps⟩ := p
    obtain ⟨u1, u2⟩ := hu.2 _ e
    obtain ⟨v1, v2⟩ := hv.2 _ e
    by_cases g : goodR b (n, ps)
    · exact ⟨_, u1 g, v1 g, (res_ok e).1⟩
    · exact ⟨.str (wordR b), u2 g, v2 g, Nat.zero_le _⟩
theorem tol_keep {b : Bool} {t : Th} {H H' : Hp} {v : V} (h : tolD b t H v) (s : Same H H') : tolD b t H' v := ⟨h.1, fun p e => ⟨fun g => ((h.2 p e).1 g).keep s, (h.2 p e).2⟩⟩
noncomputable def spLaw (K : PySem.W.Frag) : Sp := fun vs H Q _ => ∃ (a : Addr) (ns : List Int), vs = [.ref a] ∧ SqL K H a (ns.map V.int) ∧ ns.length ≤ 63 ∧ (∀ i ∈ ns, Bg i) ∧ ∀ H', Q (.bl true) H'
theorem sc_law : FnScope ["_law_script", "_law_is_rule_here", "_law_text_here", "_law_bent_here", "_law_read_here", "_law_due"] ["_law_script"] (defScope s_law) := ⟨rfl, rfl, rfl, by decide +kernel, rfl, by decide +kernel, by decide +kernel⟩
theorem ok_law {C : CA} {f : Addr} {fd : FuncData} (F : Fun K "law" "law" s_law f fd) (T : Txt mg) (cf : CF K mg C) {fatU : Addr} {datU : FuncData} (GatU : FnOk P w K mg base CX0 10 fatU datU ["_law_script", "_law_k"] (spAtU K)) (batU : Binds K datU ["_law_script", "_law_k"] []) (katU : PySem.W.keepIn K (.ref fatU) = true) (matU : mg "_law_at" = some (.ref fatU)) {ftext : Addr} {dtext : FuncData} (Gtext : FnOk P w K mg base CX0 10 ftext dtext ["_law_script", "_law_is_rule_here"] (spText K)) (btext : Binds K dtext ["_law_script", "_law_is_rule_here"] []) (ktext : PySem.W.keepIn K (.ref ftext) = true) (mtext : mg "_law_text" = some (.ref ftext)) {fbent : Addr} {dbent : FuncData} (Gbent : FnOk P w K mg base CX0 10 fbent dbent ["_law_script", "_law_text_here", "_law_is_rule_here"] (spBent K)) (bbent : Binds K dbent ["_law_script", "_law_text_here", "_law_is_rule_here"] []) (kbent : PySem.W.keepIn K (.ref fbent) = true) (mbent : mg "_law_bent" = some (.ref fbent)) {flrd : Addr} {dlrd : FuncData} (Glrd : FnOk P w K mg base CX0 10 flrd dlrd ["_law_text_here", "_law_is_rule_here"] spLrd) (blrd : Binds K dlrd ["_law_text_here", "_law_is_rule_here"] []) (klrd : PySem.W.keepIn K (.ref flrd) = true) (mlrd : mg "_law_read" = some (.ref flrd)) {fisr : Addr} {disr : FuncData} (Gisr : FnOk P w K mg base CX0 10 fisr disr ["_law_n", "_law_pairs"] spIsr) (bisr : Binds K disr ["_law_n", "_law_pairs"] []) (kisr : PySem.W.keepIn K (.ref fisr) = true) (misr : mg "_law_is_rule" = some (.ref fisr)) {fisp : Addr} {disp : FuncData} (Gisp : FnOk P w K mg base CX0 10 fisp disp ["_law_n", "_law_pairs"] spIsp) (bisp : Binds K disp ["_law_n", "_law_pairs"] []) (kisp : PySem.W.keepIn K (.ref fisp) = true) (misp : mg "_law_is_plan" = some (.ref fisp)) {ftold : Addr} {dtold : FuncData} (Gtold : FnOk P w K mg base CX0 10 ftold dtold ["_law_text_here", "_law_is_rule_here"] spTold) (btold : Binds K dtold ["_law_text_here", "_law_is_rule_here"] []) (ktold : PySem.W.keepIn K (.ref ftold) = true) (mtold : mg "_law_told" = some (.ref ftold)) : FnOk P w K mg base CX0 11 f fd ["_law_script"] (spLaw K) := by
  refine F.ok sc_law (fun vs H Q E h => ?_) (fun cdv A outer s H vs Q E hr h => ?_)
  · obtain ⟨a, ns, rfl, _⟩ := h
    rfl
  obtain ⟨a, ns, rfl, hS, h63, hbg, q⟩ := h
  refine ⟨_, (pss_cons (ps_set (i := 1) sc_law.nd rfl (Or.inl rfl) (pe_cmpR op_eq (pe_op op_mod (pe_call GatU hr rfl matU katU batU .nil pass0 (pa_cons (pv 0) (pa_cons pe_int pa_nil))) pe_int) pe_int (nomark _)))
    (pss_cons (ps_set (i := 2) sc_law.nd rfl (Or.inl rfl) (pe_call Gtext hr rfl mtext ktext btext .nil pass0 (pa_cons (pv 0) (pa_cons (pv 1) pa_nil))))
    (pss_cons (ps_set (i := 3) sc_law.nd rfl (Or.inl rfl) (pe_call Gbent hr rfl mbent kbent bbent .nil pass0 (pa_cons (pv 0) (pa_cons (pv 2) (pa_cons (pv 1) pa_nil)))))
    (pss_cons (ps_set (i := 4) sc_law.nd rfl (Or.inl rfl) (pe_call Glrd hr rfl mlrd klrd blrd .nil pass0 (pa_cons (pv 3) (pa_cons (pv 1) pa_nil))))
    (pss_cons (ps_set (i := 5) sc_law.nd rfl (Or.inl rfl) pe_str)
    (pss_cons (ps_if (pt_cmpR op_notN (pv 4) pe_non (nomark _)) (pss_cons (ps_set (i := 5) sc_law.nd rfl (Or.inl rfl) (pv 4))
      (pss_cons (ps_if (PW.pt (pw_and (pt_val (pv 1)) (pw_and1 (pt_not (pt_val (pe_call Gisr hr rfl misr kisr bisr .nil pass0 (pa_cons (pe_ix ix_tup (pv 4) pe_int (fun _ _ => rfl)) (pa_cons (pe_ix ix_tup (pv 4) pe_int (fun _ _ => rfl)) pa_nil)))))))) (pss_one (ps_set (i := 5) sc_law.nd rfl (Or.inl rfl) pe_str)) pss_nil)
      (pss_one (ps_if (PW.pt (pw_and (pt_not (pt_val (pv 1))) (pw_and1 (pt_not (pt_val (pe_call Gisp hr rfl misp kisp bisp .nil pass0 (pa_cons (pe_ix ix_tup (pv 4) pe_int (fun _ _ => rfl)) (pa_cons (pe_ix ix_tup (pv 4) pe_int (fun _ _ => rfl)) pa_nil)))))))) (pss_one (ps_set (i := 5) sc_law.nd rfl (Or.inl rfl) pe_str)) pss_nil)))) pss_nil)
    (pss_cons (ps_if (pt_cmpR (op_neD hr.units) (pe_call Gtold hr rfl mtold ktold btold .nil pass0 (pa_cons (pv 3) (pa_cons (pv 1) pa_nil))) (pv 5) (nomark _)) (pss_one (ps_ret pe_bl)) pss_nil)
    (pss_one (ps_ret (pe_cmpR (op_eqD hr.units) (pe_call Gtold hr rfl mtold ktold btold .nil pass0 (pa_cons (pv 2) (pa_cons (pv 1) pa_nil))) (pe_call Glrd hr rfl mlrd klrd blrd .nil pass0 (pa_cons (pv 2) (pa_cons (pv 1) pa_nil))) (nomark _))))))))))), ?_⟩
  have P2 : (0 : Int) < 2 := by decide
  refine ⟨_, rfl, a, ns, 0, rfl, hS, h63, by omega, by omega, fun r => ⟨_, _, rfl, rfl, P2, rfl, ?_⟩⟩
  dsimp only
  generalize decide (V.int (r % 2) = V.int 0) = b
  refine ⟨_, rfl, _, rfl, a, ns, b, rfl, hS, h63, fun x p0 H1 s1 ax x1 xl hres hgood => ?_⟩
  refine ⟨_, rfl, _, rfl, _, rfl, a, ns, x, b, rfl, s1.seq hS, h63, ax, x1, xl, fun v t H2 s2 dv ok => ?_⟩
  refine ⟨_, rfl, _, rfl, v, b, t, rfl, dv, ok, fun u H3 s3 du => ?_⟩
  have s13 := s2.trans s3
  have dv3 := dv.keep s3
  dsimp only
  refine seq_by (fun σ G => G = H3 ∧ σ = [some (.ref a), some (.bl b), some (.str x), some v, some u, some (.str "text")]) (fun M hM => hM _ _ ⟨rfl, rfl⟩) ?_
  rintro σ G ⟨rfl, rfl⟩
  refine seq_by (fun σ G' => G' = G ∧ ∃ d, σ = [some (.ref a), some (.bl b), some (.str x), some v, some u, some d] ∧ tolD b t G d) ?_ ?_
  · intro M hM
    cases e : resO b t with
    | none =>
      unfold resD at du
      rw [e] at du
      have du' : u = .non := du
      subst du'
      refine ⟨_, rfl, rfl, _, rfl, iteF (hM _ _ ⟨rfl, _, rfl, fun _ => rfl, fun p hp => ?_⟩)⟩
      rw [e] at hp; cases hp
    | some p =>
      obtain ⟨n, ps⟩ := p
      unfold resD at du
      rw [e] at du
      have du' : Den G (.tup [.int n, .tup (ps.map pT)]) u := du
      obtain ⟨f, xs, rfl, hf, dd⟩ := du'
      obtain ⟨y1, ys1, rfl, dy1, y2, ys2, rfl, dy2, z⟩ := dd
      cases (show ys2 = [] from z)
      cases (show y1 = .int n from dy1)
      have hd : Den G (resT (n, ps)) (.ref f) := du
      obtain ⟨_, rt, rf⟩ := res_ok e
      have goodD : goodR b (n, ps) → tolD b t G (.ref f) := fun g => ⟨(fun z => by rw [e] at z; cases z), (fun p hp => by rw [e] at hp; cases hp; exact ⟨fun _ => hd, fun z => absurd g z⟩)⟩
      have badD : ¬ goodR b (n, ps) → tolD b t G (.str (wordR b)) := fun g => ⟨(fun z => by rw [e] at z; cases z), (fun p hp => by rw [e] at hp; cases hp; exact ⟨fun z => absurd z g, fun _ => rfl⟩)⟩
      refine ⟨_, rfl, rfl, _, rfl, iteT ?_⟩
      refine ⟨_, rfl, ?_⟩
      refine seq_by (fun σ G' => G' = G ∧ σ = [some (.ref a), some (.bl b), some (.str x), some v, some (.ref f), some (.ref f)]) (fun M hM => hM _ _ ⟨rfl, rfl⟩) ?_
      rintro σ G' ⟨rfl, rfl⟩
      cases b with
      | true =>
        obtain ⟨fs, ef, okf, gi⟩ := rt rfl
        refine seq_by (fun σ G2 => G2 = G' ∧ ∃ d, σ = [some (.ref a), some (.bl true), some (.str x), some v, some (.ref f), some d] ∧ tolD true t G' d) ?_ ?_
        · intro M hM
          refine ⟨_, rfl, _, rfl, iteT ?_⟩
          rw [ef] at dy2
          refine ⟨_, rfl, f, _, 0, _, rfl, rfl, SqT.of hf, at0, _, rfl, f, _, 1, _, rfl, rfl, SqT.of hf, at1, n, _, fs, rfl, dy2, okf, fun rb => ?_, fun rb => ?_⟩
          · exact ⟨_, rfl, iteF (hM _ _ ⟨rfl, _, rfl, goodD (gi.mpr rb)⟩)⟩
          · exact ⟨_, rfl, iteT (hM _ _ ⟨rfl, _, rfl, badD (fun z => rb (gi.mp z))⟩)⟩
        · rintro σ G2 ⟨rfl, d, rfl, hd'⟩
          exact ⟨_, rfl, _, rfl, iteF (iteF (hM _ _ ⟨rfl, d, rfl, hd'⟩))⟩
      | false =>
        obtain ⟨bs, ef, gi⟩ := rf rfl
        refine seq_by (fun σ G2 => G2 = G' ∧ σ = [some (.ref a), some (.bl false), some (.str x), some v, some (.ref f), some (.ref f)]) ?_ ?_
        · intro M hM
          exact ⟨_, rfl, _, rfl, iteF (iteF (hM _ _ ⟨rfl, rfl⟩))⟩
        · rintro σ G2 ⟨rfl, rfl⟩
          refine ⟨_, rfl, _, rfl, iteT ?_⟩
          rw [ef] at dy2
          refine ⟨_, rfl, f, _, 0, _, rfl, rfl, SqT.of hf, at0, _, rfl, f, _, 1, _, rfl, rfl, SqT.of hf, at1, n, _, bs, rfl, dy2, fun rb => ?_, fun rb => ?_⟩
          · exact ⟨_, rfl, iteF (hM _ _ ⟨rfl, _, rfl, goodD (gi.mpr rb)⟩)⟩
          · exact ⟨_, rfl, iteT (hM _ _ ⟨rfl, _, rfl, badD (fun z => rb (gi.mp z))⟩)⟩
  rintro σ G' ⟨rfl, d, rfl, hd⟩
  refine ⟨_, rfl, _, rfl, v, b, t, rfl, dv3, ok, fun u' H4 s4 hu' => ?_⟩
  obtain ⟨sx, d1, d2, dp⟩ := tol_one hu' (tol_keep hd s4)
  refine ⟨_, rfl, sx, d1, d2, dp, _, rfl, iteF ?_⟩
  have okx : okT (.str x) := fun y e => by cases e; exact ⟨ax, by omega⟩
  refine ⟨_, rfl, _, rfl, .str x, b, .str x, rfl, rfl, okx, fun w1 H5 s5 hw1 => ?_⟩
  refine ⟨_, rfl, _, rfl, .str x, b, .str x, rfl, rfl, okx, fun w2 H6 s6 hw2 => ?_⟩
  obtain ⟨g1, _⟩ := hw1.2 p0 hres
  unfold resD at hw2
  rw [hres] at hw2
  obtain ⟨n0, ps0⟩ := p0
  exact ⟨_, (g1 hgood).keep s6, hw2, (res_ok hres).1, q _⟩
end
theorem all_mk {l : PySem.W.OpenLaw} {w : World} {K : PySem.W.Frag} {h : Heap} {mg : Str → Option Value} {fa f_whole f_share f_wpair f_cd f_und f_ruleof f_rowof f_str f_plan f_bnd f_rr f_rd f_rb f_rps f_rp f_rf f_rw f_atU f_div f_fig f_lwh f_num f_lrd f_nol f_isr f_isp f_told f_word f_text f_sg f_nb f_pb f_bent f_law : Addr} (X : K.In h) (G : h.Ns mainGlobals mg) (hfa : mg "law" = some (.ref fa))
    {od_whole an_whole : Option Addr} {sl_whole : Array (Option Value)} {oc_whole kV_whole dc_whole pm_whole cd_whole ct_whole : Value}
    (a_whole : PySem.W.nsIn K mainGlobals "is_whole" = some (some (.ref f_whole))) (l_whole : K.lookup f_whole = some ⟨oc_whole, od_whole, .func (PySem.W.fnOf "is_whole" "is_whole" (defArgs s_whole) (defBody s_whole) (defScope s_whole) .none kV_whole dc_whole pm_whole an_whole cd_whole ct_whole), sl_whole⟩) (c_whole : PySem.W.codeIn K cd_whole "is_whole" = true) (k_whole : PySem.W.keepIn K (.ref f_whole) = true)
    {od_share an_share : Option Addr} {sl_share : Array (Option Value)} {oc_share kV_share dc_share pm_share cd_share ct_share : Value}
    (a_share : PySem.W.nsIn K mainGlobals "is_share" = some (some (.ref f_share))) (l_share : K.lookup f_share = some ⟨oc_share, od_share, .func (PySem.W.fnOf "is_share" "is_share" (defArgs s_share) (defBody s_share) (defScope s_share) .none kV_share dc_share pm_share an_share cd_share ct_share), sl_share⟩) (c_share : PySem.W.codeIn K cd_share "is_share" = true) (k_share : PySem.W.keepIn K (.ref f_share) = true)
    {od_wpair an_wpair : Option Addr} {sl_wpair : Array (Option Value)} {oc_wpair kV_wpair dc_wpair pm_wpair cd_wpair ct_wpair : Value}
    (a_wpair : PySem.W.nsIn K mainGlobals "is_whole_pair" = some (some (.ref f_wpair))) (l_wpair : K.lookup f_wpair = some ⟨oc_wpair, od_wpair, .func (PySem.W.fnOf "is_whole_pair" "is_whole_pair" (defArgs s_wpair) (defBody s_wpair) (defScope s_wpair) .none kV_wpair dc_wpair pm_wpair an_wpair cd_wpair ct_wpair), sl_wpair⟩) (c_wpair : PySem.W.codeIn K cd_wpair "is_whole_pair" = true) (k_wpair : PySem.W.keepIn K (.ref f_wpair) = true)
    {od_cd an_cd : Option Addr} {sl_cd : Array (Option Value)} {oc_cd kV_cd dc_cd pm_cd cd_cd ct_cd : Value}
    (a_cd : PySem.W.nsIn K mainGlobals "common_divisor" = some (some (.ref f_cd))) (l_cd : K.lookup f_cd = some ⟨oc_cd, od_cd, .func (PySem.W.fnOf "common_divisor" "common_divisor" (defArgs s_cd) (defBody s_cd) (defScope s_cd) .none kV_cd dc_cd pm_cd an_cd cd_cd ct_cd), sl_cd⟩) (c_cd : PySem.W.codeIn K cd_cd "common_divisor" = true) (k_cd : PySem.W.keepIn K (.ref f_cd) = true)
    {od_und an_und : Option Addr} {sl_und : Array (Option Value)} {oc_und kV_und dc_und pm_und cd_und ct_und : Value}
    (a_und : PySem.W.nsIn K mainGlobals "under" = some (some (.ref f_und))) (l_und : K.lookup f_und = some ⟨oc_und, od_und, .func (PySem.W.fnOf "under" "under" (defArgs s_und) (defBody s_und) (defScope s_und) .none kV_und dc_und pm_und an_und cd_und ct_und), sl_und⟩) (c_und : PySem.W.codeIn K cd_und "under" = true) (k_und : PySem.W.keepIn K (.ref f_und) = true)
    {od_ruleof an_ruleof : Option Addr} {sl_ruleof : Array (Option Value)} {oc_ruleof kV_ruleof dc_ruleof pm_ruleof cd_ruleof ct_ruleof : Value}
    (a_ruleof : PySem.W.nsIn K mainGlobals "rule_of" = some (some (.ref f_ruleof))) (l_ruleof : K.lookup f_ruleof = some ⟨oc_ruleof, od_ruleof, .func (PySem.W.fnOf "rule_of" "rule_of" (defArgs s_ruleof) (defBody s_ruleof) (defScope s_ruleof) .none kV_ruleof dc_ruleof pm_ruleof an_ruleof cd_ruleof ct_ruleof), sl_ruleof⟩) (c_ruleof : PySem.W.codeIn K cd_ruleof "rule_of" = true) (k_ruleof : PySem.W.keepIn K (.ref f_ruleof) = true)
    {od_rowof an_rowof : Option Addr} {sl_rowof : Array (Option Value)} {oc_rowof kV_rowof dc_rowof pm_rowof cd_rowof ct_rowof : Value}
    (a_rowof : PySem.W.nsIn K mainGlobals "is_row_of" = some (some (.ref f_rowof))) (l_rowof : K.lookup f_rowof = some ⟨oc_rowof, od_rowof, .func (PySem.W.fnOf "is_row_of" "is_row_of" (defArgs s_rowof) (defBody s_rowof) (defScope s_rowof) .none kV_rowof dc_rowof pm_rowof an_rowof cd_rowof ct_rowof), sl_rowof⟩) (c_rowof : PySem.W.codeIn K cd_rowof "is_row_of" = true) (k_rowof : PySem.W.keepIn K (.ref f_rowof) = true)
    {od_str an_str : Option Addr} {sl_str : Array (Option Value)} {oc_str kV_str dc_str pm_str cd_str ct_str : Value}
    (a_str : PySem.W.nsIn K mainGlobals "stretch_of" = some (some (.ref f_str))) (l_str : K.lookup f_str = some ⟨oc_str, od_str, .func (PySem.W.fnOf "stretch_of" "stretch_of" (defArgs s_str) (defBody s_str) (defScope s_str) .none kV_str dc_str pm_str an_str cd_str ct_str), sl_str⟩) (c_str : PySem.W.codeIn K cd_str "stretch_of" = true) (k_str : PySem.W.keepIn K (.ref f_str) = true)
    {od_plan an_plan : Option Addr} {sl_plan : Array (Option Value)} {oc_plan kV_plan dc_plan pm_plan cd_plan ct_plan : Value}
    (a_plan : PySem.W.nsIn K mainGlobals "plan_of" = some (some (.ref f_plan))) (l_plan : K.lookup f_plan = some ⟨oc_plan, od_plan, .func (PySem.W.fnOf "plan_of" "plan_of" (defArgs s_plan) (defBody s_plan) (defScope s_plan) .none kV_plan dc_plan pm_plan an_plan cd_plan ct_plan), sl_plan⟩) (c_plan : PySem.W.codeIn K cd_plan "plan_of" = true) (k_plan : PySem.W.keepIn K (.ref f_plan) = true)
    {od_bnd an_bnd : Option Addr} {sl_bnd : Array (Option Value)} {oc_bnd kV_bnd dc_bnd pm_bnd cd_bnd ct_bnd : Value}
    (a_bnd : PySem.W.nsIn K mainGlobals "bound_of" = some (some (.ref f_bnd))) (l_bnd : K.lookup f_bnd = some ⟨oc_bnd, od_bnd, .func (PySem.W.fnOf "bound_of" "bound_of" (defArgs s_bnd) (defBody s_bnd) (defScope s_bnd) .none kV_bnd dc_bnd pm_bnd an_bnd cd_bnd ct_bnd), sl_bnd⟩) (c_bnd : PySem.W.codeIn K cd_bnd "bound_of" = true) (k_bnd : PySem.W.keepIn K (.ref f_bnd) = true)
    {od_rr an_rr : Option Addr} {sl_rr : Array (Option Value)} {oc_rr kV_rr dc_rr pm_rr cd_rr ct_rr : Value}
    (a_rr : PySem.W.nsIn K mainGlobals "read_rule" = some (some (.ref f_rr))) (l_rr : K.lookup f_rr = some ⟨oc_rr, od_rr, .func (PySem.W.fnOf "read_rule" "read_rule" (defArgs s_rr) (defBody s_rr) (defScope s_rr) .none kV_rr dc_rr pm_rr an_rr cd_rr ct_rr), sl_rr⟩) (c_rr : PySem.W.codeIn K cd_rr "read_rule" = true) (k_rr : PySem.W.keepIn K (.ref f_rr) = true)
    {od_rd an_rd : Option Addr} {sl_rd : Array (Option Value)} {oc_rd kV_rd dc_rd pm_rd cd_rd ct_rd : Value}
    (a_rd : PySem.W.nsIn K mainGlobals "read_plan" = some (some (.ref f_rd))) (l_rd : K.lookup f_rd = some ⟨oc_rd, od_rd, .func (PySem.W.fnOf "read_plan" "read_plan" (defArgs s_rd) (defBody s_rd) (defScope s_rd) .none kV_rd dc_rd pm_rd an_rd cd_rd ct_rd), sl_rd⟩) (c_rd : PySem.W.codeIn K cd_rd "read_plan" = true) (k_rd : PySem.W.keepIn K (.ref f_rd) = true)
    {od_rb an_rb : Option Addr} {sl_rb : Array (Option Value)} {oc_rb kV_rb dc_rb pm_rb cd_rb ct_rb : Value}
    (a_rb : PySem.W.nsIn K mainGlobals "read_bounds" = some (some (.ref f_rb))) (l_rb : K.lookup f_rb = some ⟨oc_rb, od_rb, .func (PySem.W.fnOf "read_bounds" "read_bounds" (defArgs s_rb) (defBody s_rb) (defScope s_rb) .none kV_rb dc_rb pm_rb an_rb cd_rb ct_rb), sl_rb⟩) (c_rb : PySem.W.codeIn K cd_rb "read_bounds" = true) (k_rb : PySem.W.keepIn K (.ref f_rb) = true)
    {od_rps an_rps : Option Addr} {sl_rps : Array (Option Value)} {oc_rps kV_rps dc_rps pm_rps cd_rps ct_rps : Value}
    (a_rps : PySem.W.nsIn K mainGlobals "read_pairs" = some (some (.ref f_rps))) (l_rps : K.lookup f_rps = some ⟨oc_rps, od_rps, .func (PySem.W.fnOf "read_pairs" "read_pairs" (defArgs s_rps) (defBody s_rps) (defScope s_rps) .none kV_rps dc_rps pm_rps an_rps cd_rps ct_rps), sl_rps⟩) (c_rps : PySem.W.codeIn K cd_rps "read_pairs" = true) (k_rps : PySem.W.keepIn K (.ref f_rps) = true)
    {od_rp an_rp : Option Addr} {sl_rp : Array (Option Value)} {oc_rp kV_rp dc_rp pm_rp cd_rp ct_rp : Value}
    (a_rp : PySem.W.nsIn K mainGlobals "read_pair" = some (some (.ref f_rp))) (l_rp : K.lookup f_rp = some ⟨oc_rp, od_rp, .func (PySem.W.fnOf "read_pair" "read_pair" (defArgs s_rp) (defBody s_rp) (defScope s_rp) .none kV_rp dc_rp pm_rp an_rp cd_rp ct_rp), sl_rp⟩) (c_rp : PySem.W.codeIn K cd_rp "read_pair" = true) (k_rp : PySem.W.keepIn K (.ref f_rp) = true)
    {od_rf an_rf : Option Addr} {sl_rf : Array (Option Value)} {oc_rf kV_rf dc_rf pm_rf cd_rf ct_rf : Value}
    (a_rf : PySem.W.nsIn K mainGlobals "read_fraction" = some (some (.ref f_rf))) (l_rf : K.lookup f_rf = some ⟨oc_rf, od_rf, .func (PySem.W.fnOf "read_fraction" "read_fraction" (defArgs s_rf) (defBody s_rf) (defScope s_rf) .none kV_rf dc_rf pm_rf an_rf cd_rf ct_rf), sl_rf⟩) (c_rf : PySem.W.codeIn K cd_rf "read_fraction" = true) (k_rf : PySem.W.keepIn K (.ref f_rf) = true)
    {od_rw an_rw : Option Addr} {sl_rw : Array (Option Value)} {oc_rw kV_rw dc_rw pm_rw cd_rw ct_rw : Value}
    (a_rw : PySem.W.nsIn K mainGlobals "read_whole" = some (some (.ref f_rw))) (l_rw : K.lookup f_rw = some ⟨oc_rw, od_rw, .func (PySem.W.fnOf "read_whole" "read_whole" (defArgs s_rw) (defBody s_rw) (defScope s_rw) .none kV_rw dc_rw pm_rw an_rw cd_rw ct_rw), sl_rw⟩) (c_rw : PySem.W.codeIn K cd_rw "read_whole" = true) (k_rw : PySem.W.keepIn K (.ref f_rw) = true)
    {od_atU an_atU : Option Addr} {sl_atU : Array (Option Value)} {oc_atU kV_atU dc_atU pm_atU cd_atU ct_atU : Value}
    (a_atU : PySem.W.nsIn K mainGlobals "_law_at" = some (some (.ref f_atU))) (l_atU : K.lookup f_atU = some ⟨oc_atU, od_atU, .func (PySem.W.fnOf "_law_at" "_law_at" (defArgs s_atU) (defBody s_atU) (defScope s_atU) .none kV_atU dc_atU pm_atU an_atU cd_atU ct_atU), sl_atU⟩) (c_atU : PySem.W.codeIn K cd_atU "_law_at" = true) (k_atU : PySem.W.keepIn K (.ref f_atU) = true)
    {od_div an_div : Option Addr} {sl_div : Array (Option Value)} {oc_div kV_div dc_div pm_div cd_div ct_div : Value}
    (a_div : PySem.W.nsIn K mainGlobals "_law_divisor" = some (some (.ref f_div))) (l_div : K.lookup f_div = some ⟨oc_div, od_div, .func (PySem.W.fnOf "_law_divisor" "_law_divisor" (defArgs s_div) (defBody s_div) (defScope s_div) .none kV_div dc_div pm_div an_div cd_div ct_div), sl_div⟩) (c_div : PySem.W.codeIn K cd_div "_law_divisor" = true) (k_div : PySem.W.keepIn K (.ref f_div) = true)
    {od_fig an_fig : Option Addr} {sl_fig : Array (Option Value)} {oc_fig kV_fig dc_fig pm_fig cd_fig ct_fig : Value}
    (a_fig : PySem.W.nsIn K mainGlobals "_law_figures" = some (some (.ref f_fig))) (l_fig : K.lookup f_fig = some ⟨oc_fig, od_fig, .func (PySem.W.fnOf "_law_figures" "_law_figures" (defArgs s_fig) (defBody s_fig) (defScope s_fig) .none kV_fig dc_fig pm_fig an_fig cd_fig ct_fig), sl_fig⟩) (c_fig : PySem.W.codeIn K cd_fig "_law_figures" = true) (k_fig : PySem.W.keepIn K (.ref f_fig) = true)
    {od_lwh an_lwh : Option Addr} {sl_lwh : Array (Option Value)} {oc_lwh kV_lwh dc_lwh pm_lwh cd_lwh ct_lwh : Value}
    (a_lwh : PySem.W.nsIn K mainGlobals "_law_whole" = some (some (.ref f_lwh))) (l_lwh : K.lookup f_lwh = some ⟨oc_lwh, od_lwh, .func (PySem.W.fnOf "_law_whole" "_law_whole" (defArgs s_lwh) (defBody s_lwh) (defScope s_lwh) .none kV_lwh dc_lwh pm_lwh an_lwh cd_lwh ct_lwh), sl_lwh⟩) (c_lwh : PySem.W.codeIn K cd_lwh "_law_whole" = true) (k_lwh : PySem.W.keepIn K (.ref f_lwh) = true)
    {od_num an_num : Option Addr} {sl_num : Array (Option Value)} {oc_num kV_num dc_num pm_num cd_num ct_num : Value}
    (a_num : PySem.W.nsIn K mainGlobals "_law_number" = some (some (.ref f_num))) (l_num : K.lookup f_num = some ⟨oc_num, od_num, .func (PySem.W.fnOf "_law_number" "_law_number" (defArgs s_num) (defBody s_num) (defScope s_num) .none kV_num dc_num pm_num an_num cd_num ct_num), sl_num⟩) (c_num : PySem.W.codeIn K cd_num "_law_number" = true) (k_num : PySem.W.keepIn K (.ref f_num) = true)
    {od_lrd an_lrd : Option Addr} {sl_lrd : Array (Option Value)} {oc_lrd kV_lrd dc_lrd pm_lrd cd_lrd ct_lrd : Value}
    (a_lrd : PySem.W.nsIn K mainGlobals "_law_read" = some (some (.ref f_lrd))) (l_lrd : K.lookup f_lrd = some ⟨oc_lrd, od_lrd, .func (PySem.W.fnOf "_law_read" "_law_read" (defArgs s_lrd) (defBody s_lrd) (defScope s_lrd) .none kV_lrd dc_lrd pm_lrd an_lrd cd_lrd ct_lrd), sl_lrd⟩) (c_lrd : PySem.W.codeIn K cd_lrd "_law_read" = true) (k_lrd : PySem.W.keepIn K (.ref f_lrd) = true)
    {od_nol an_nol : Option Addr} {sl_nol : Array (Option Value)} {oc_nol kV_nol dc_nol pm_nol cd_nol ct_nol : Value}
    (a_nol : PySem.W.nsIn K mainGlobals "_law_no_less" = some (some (.ref f_nol))) (l_nol : K.lookup f_nol = some ⟨oc_nol, od_nol, .func (PySem.W.fnOf "_law_no_less" "_law_no_less" (defArgs s_nol) (defBody s_nol) (defScope s_nol) .none kV_nol dc_nol pm_nol an_nol cd_nol ct_nol), sl_nol⟩) (c_nol : PySem.W.codeIn K cd_nol "_law_no_less" = true) (k_nol : PySem.W.keepIn K (.ref f_nol) = true)
    {od_isr an_isr : Option Addr} {sl_isr : Array (Option Value)} {oc_isr kV_isr dc_isr pm_isr cd_isr ct_isr : Value}
    (a_isr : PySem.W.nsIn K mainGlobals "_law_is_rule" = some (some (.ref f_isr))) (l_isr : K.lookup f_isr = some ⟨oc_isr, od_isr, .func (PySem.W.fnOf "_law_is_rule" "_law_is_rule" (defArgs s_isr) (defBody s_isr) (defScope s_isr) .none kV_isr dc_isr pm_isr an_isr cd_isr ct_isr), sl_isr⟩) (c_isr : PySem.W.codeIn K cd_isr "_law_is_rule" = true) (k_isr : PySem.W.keepIn K (.ref f_isr) = true)
    {od_isp an_isp : Option Addr} {sl_isp : Array (Option Value)} {oc_isp kV_isp dc_isp pm_isp cd_isp ct_isp : Value}
    (a_isp : PySem.W.nsIn K mainGlobals "_law_is_plan" = some (some (.ref f_isp))) (l_isp : K.lookup f_isp = some ⟨oc_isp, od_isp, .func (PySem.W.fnOf "_law_is_plan" "_law_is_plan" (defArgs s_isp) (defBody s_isp) (defScope s_isp) .none kV_isp dc_isp pm_isp an_isp cd_isp ct_isp), sl_isp⟩) (c_isp : PySem.W.codeIn K cd_isp "_law_is_plan" = true) (k_isp : PySem.W.keepIn K (.ref f_isp) = true)
    {od_told an_told : Option Addr} {sl_told : Array (Option Value)} {oc_told kV_told dc_told pm_told cd_told ct_told : Value}
    (a_told : PySem.W.nsIn K mainGlobals "_law_told" = some (some (.ref f_told))) (l_told : K.lookup f_told = some ⟨oc_told, od_told, .func (PySem.W.fnOf "_law_told" "_law_told" (defArgs s_told) (defBody s_told) (defScope s_told) .none kV_told dc_told pm_told an_told cd_told ct_told), sl_told⟩) (c_told : PySem.W.codeIn K cd_told "_law_told" = true) (k_told : PySem.W.keepIn K (.ref f_told) = true)
    {od_word an_word : Option Addr} {sl_word : Array (Option Value)} {oc_word kV_word dc_word pm_word cd_word ct_word : Value}
    (a_word : PySem.W.nsIn K mainGlobals "_law_word" = some (some (.ref f_word))) (l_word : K.lookup f_word = some ⟨oc_word, od_word, .func (PySem.W.fnOf "_law_word" "_law_word" (defArgs s_word) (defBody s_word) (defScope s_word) .none kV_word dc_word pm_word an_word cd_word ct_word), sl_word⟩) (c_word : PySem.W.codeIn K cd_word "_law_word" = true) (k_word : PySem.W.keepIn K (.ref f_word) = true)
    {od_text an_text : Option Addr} {sl_text : Array (Option Value)} {oc_text kV_text dc_text pm_text cd_text ct_text : Value}
    (a_text : PySem.W.nsIn K mainGlobals "_law_text" = some (some (.ref f_text))) (l_text : K.lookup f_text = some ⟨oc_text, od_text, .func (PySem.W.fnOf "_law_text" "_law_text" (defArgs s_text) (defBody s_text) (defScope s_text) .none kV_text dc_text pm_text an_text cd_text ct_text), sl_text⟩) (c_text : PySem.W.codeIn K cd_text "_law_text" = true) (k_text : PySem.W.keepIn K (.ref f_text) = true)
    {od_sg an_sg : Option Addr} {sl_sg : Array (Option Value)} {oc_sg kV_sg dc_sg pm_sg cd_sg ct_sg : Value}
    (a_sg : PySem.W.nsIn K mainGlobals "_law_signs" = some (some (.ref f_sg))) (l_sg : K.lookup f_sg = some ⟨oc_sg, od_sg, .func (PySem.W.fnOf "_law_signs" "_law_signs" (defArgs s_sg) (defBody s_sg) (defScope s_sg) .none kV_sg dc_sg pm_sg an_sg cd_sg ct_sg), sl_sg⟩) (c_sg : PySem.W.codeIn K cd_sg "_law_signs" = true) (k_sg : PySem.W.keepIn K (.ref f_sg) = true)
    {od_nb an_nb : Option Addr} {sl_nb : Array (Option Value)} {oc_nb kV_nb dc_nb pm_nb cd_nb ct_nb : Value}
    (a_nb : PySem.W.nsIn K mainGlobals "_law_number_bent" = some (some (.ref f_nb))) (l_nb : K.lookup f_nb = some ⟨oc_nb, od_nb, .func (PySem.W.fnOf "_law_number_bent" "_law_number_bent" (defArgs s_nb) (defBody s_nb) (defScope s_nb) .none kV_nb dc_nb pm_nb an_nb cd_nb ct_nb), sl_nb⟩) (c_nb : PySem.W.codeIn K cd_nb "_law_number_bent" = true) (k_nb : PySem.W.keepIn K (.ref f_nb) = true)
    {od_pb an_pb : Option Addr} {sl_pb : Array (Option Value)} {oc_pb kV_pb dc_pb pm_pb cd_pb ct_pb : Value}
    (a_pb : PySem.W.nsIn K mainGlobals "_law_pairs_bent" = some (some (.ref f_pb))) (l_pb : K.lookup f_pb = some ⟨oc_pb, od_pb, .func (PySem.W.fnOf "_law_pairs_bent" "_law_pairs_bent" (defArgs s_pb) (defBody s_pb) (defScope s_pb) .none kV_pb dc_pb pm_pb an_pb cd_pb ct_pb), sl_pb⟩) (c_pb : PySem.W.codeIn K cd_pb "_law_pairs_bent" = true) (k_pb : PySem.W.keepIn K (.ref f_pb) = true)
    {od_bent an_bent : Option Addr} {sl_bent : Array (Option Value)} {oc_bent kV_bent dc_bent pm_bent cd_bent ct_bent : Value}
    (a_bent : PySem.W.nsIn K mainGlobals "_law_bent" = some (some (.ref f_bent))) (l_bent : K.lookup f_bent = some ⟨oc_bent, od_bent, .func (PySem.W.fnOf "_law_bent" "_law_bent" (defArgs s_bent) (defBody s_bent) (defScope s_bent) .none kV_bent dc_bent pm_bent an_bent cd_bent ct_bent), sl_bent⟩) (c_bent : PySem.W.codeIn K cd_bent "_law_bent" = true) (k_bent : PySem.W.keepIn K (.ref f_bent) = true)
    {od_law an_law : Option Addr} {sl_law : Array (Option Value)} {oc_law kV_law dc_law pm_law cd_law ct_law : Value}
    (a_law : PySem.W.nsIn K mainGlobals "law" = some (some (.ref f_law))) (l_law : K.lookup f_law = some ⟨oc_law, od_law, .func (PySem.W.fnOf "law" "law" (defArgs s_law) (defBody s_law) (defScope s_law) .none kV_law dc_law pm_law an_law cd_law ct_law), sl_law⟩) (c_law : PySem.W.codeIn K cd_law "law" = true) (k_law : PySem.W.keepIn K (.ref f_law) = true)
    (z_range : PySem.W.nsIn K mainGlobals "range" = some none) (z_min : PySem.W.nsIn K mainGlobals "min" = some none) (z_max : PySem.W.nsIn K mainGlobals "max" = some none) (z_len : PySem.W.nsIn K mainGlobals "len" = some none) (z_isinstance : PySem.W.nsIn K mainGlobals "isinstance" = some none) (z_int : PySem.W.nsIn K mainGlobals "int" = some none) (z_bool : PySem.W.nsIn K mainGlobals "bool" = some none) (z_str : PySem.W.nsIn K mainGlobals "str" = some none) (z_tuple : PySem.W.nsIn K mainGlobals "tuple" = some none) (z_list : PySem.W.nsIn K mainGlobals "list" = some none) (z_zip : PySem.W.nsIn K mainGlobals "zip" = some none) (z_enumerate : PySem.W.nsIn K mainGlobals "enumerate" = some none) (z_all : PySem.W.nsIn K mainGlobals "all" = some none) (z_abs : PySem.W.nsIn K mainGlobals "abs" = some none) (z_sorted : PySem.W.nsIn K mainGlobals "sorted" = some none) (z_ValueError : PySem.W.nsIn K mainGlobals "ValueError" = some none) {t_FIGURES : Tok} (g_FIGURES : PySem.W.nsIn K mainGlobals "FIGURES" = some (some (.str "0123456789" t_FIGURES)))
    {d_StretchError d_NoNumber d_NoRule d_NotSure d_TooMuch d_NoPlan d_NoText d_NoName d_NoRow : Addr}
    (n_StretchError : PySem.W.nsIn K mainGlobals "StretchError" = some (some (.ref d_StretchError)))
    (n_NoNumber : PySem.W.nsIn K mainGlobals "NoNumber" = some (some (.ref d_NoNumber)))
    (n_NoRule : PySem.W.nsIn K mainGlobals "NoRule" = some (some (.ref d_NoRule)))
    (n_NotSure : PySem.W.nsIn K mainGlobals "NotSure" = some (some (.ref d_NotSure)))
    (n_TooMuch : PySem.W.nsIn K mainGlobals "TooMuch" = some (some (.ref d_TooMuch)))
    (n_NoPlan : PySem.W.nsIn K mainGlobals "NoPlan" = some (some (.ref d_NoPlan)))
    (n_NoText : PySem.W.nsIn K mainGlobals "NoText" = some (some (.ref d_NoText)))
    (n_NoName : PySem.W.nsIn K mainGlobals "NoName" = some (some (.ref d_NoName)))
    (n_NoRow : PySem.W.nsIn K mainGlobals "NoRow" = some (some (.ref d_NoRow)))
    (x_NoRule : PySem.W.excIn K d_NoRule vbm "ValueError.__new__" = true)
    (ic_NoRule : PySem.W.isClsIn K d_NoRule = true)
    (ga_NoRule : PySem.W.findIn K (.ref d_NoRule) "__getattribute__" = some (some (.builtin "BaseException.__getattribute__")))
    (gt_NoRule : PySem.W.findIn K (.ref d_NoRule) "__getattr__" = some none)
    (cl_NoRule : PySem.W.findIn K (.ref d_NoRule) "__class__" = some (some (.builtin "object.__class__")))
    (sg_NoRule : PySem.W.specialIn K (.builtin "object.__class__") "__get__" = some (some (.builtin "getset_descriptor.__get__")))
    (tk_NoRule : PySem.W.takesIn K (.builtin "object.__class__") = some true)
    (ob_NoRule : PySem.W.mroIn K d_NoRule (.type "object") = some true)
    (be_NoRule : PySem.W.mroIn K d_NoRule (.type "BaseException") = some true)
    (x_NoPlan : PySem.W.excIn K d_NoPlan vbm "ValueError.__new__" = true)
    (ic_NoPlan : PySem.W.isClsIn K d_NoPlan = true)
    (ga_NoPlan : PySem.W.findIn K (.ref d_NoPlan) "__getattribute__" = some (some (.builtin "BaseException.__getattribute__")))
    (gt_NoPlan : PySem.W.findIn K (.ref d_NoPlan) "__getattr__" = some none)
    (cl_NoPlan : PySem.W.findIn K (.ref d_NoPlan) "__class__" = some (some (.builtin "object.__class__")))
    (sg_NoPlan : PySem.W.specialIn K (.builtin "object.__class__") "__get__" = some (some (.builtin "getset_descriptor.__get__")))
    (tk_NoPlan : PySem.W.takesIn K (.builtin "object.__class__") = some true)
    (ob_NoPlan : PySem.W.mroIn K d_NoPlan (.type "object") = some true)
    (be_NoPlan : PySem.W.mroIn K d_NoPlan (.type "BaseException") = some true)
    (x_NoText : PySem.W.excIn K d_NoText vbm "ValueError.__new__" = true)
    (ic_NoText : PySem.W.isClsIn K d_NoText = true)
    (ga_NoText : PySem.W.findIn K (.ref d_NoText) "__getattribute__" = some (some (.builtin "BaseException.__getattribute__")))
    (gt_NoText : PySem.W.findIn K (.ref d_NoText) "__getattr__" = some none)
    (cl_NoText : PySem.W.findIn K (.ref d_NoText) "__class__" = some (some (.builtin "object.__class__")))
    (sg_NoText : PySem.W.specialIn K (.builtin "object.__class__") "__get__" = some (some (.builtin "getset_descriptor.__get__")))
    (tk_NoText : PySem.W.takesIn K (.builtin "object.__class__") = some true)
    (ob_NoText : PySem.W.mroIn K d_NoText (.type "object") = some true)
    (be_NoText : PySem.W.mroIn K d_NoText (.type "BaseException") = some true)
    (t_StretchError : PySem.W.typeIn K (.ref d_StretchError) = some (.type "type")) (s_StretchError : PySem.W.isClsIn K d_StretchError = true) (u_StretchError : PySem.W.subIn K (.ref d_StretchError) (.type "BaseException") = some true)
    (f_subNoText : PySem.W.subIn K (.ref d_NoText) (.ref d_StretchError) = some true)
    (f_valNoText : PySem.W.kitOne K (.ref d_NoText) (.type "ValueError") = some true)
    (f_othNoText : PySem.W.kitAny K (.ref d_NoText) [.ref d_NoName, .ref d_NoNumber, .ref d_NoRow, .ref d_NotSure, .ref d_TooMuch] = some false)
    (f_kNoTextNoRule : PySem.W.kitOne K (.ref d_NoText) (.ref d_NoRule) = some false)
    (f_kNoTextNoPlan : PySem.W.kitOne K (.ref d_NoText) (.ref d_NoPlan) = some false)
    (f_subNoRule : PySem.W.subIn K (.ref d_NoRule) (.ref d_StretchError) = some true)
    (f_valNoRule : PySem.W.kitOne K (.ref d_NoRule) (.type "ValueError") = some true)
    (f_othNoRule : PySem.W.kitAny K (.ref d_NoRule) [.ref d_NoName, .ref d_NoNumber, .ref d_NoRow, .ref d_NotSure, .ref d_TooMuch] = some false)
    (f_kNoRuleNoText : PySem.W.kitOne K (.ref d_NoRule) (.ref d_NoText) = some false)
    (f_kNoRuleNoPlan : PySem.W.kitOne K (.ref d_NoRule) (.ref d_NoPlan) = some false)
    (f_subNoPlan : PySem.W.subIn K (.ref d_NoPlan) (.ref d_StretchError) = some true)
    (f_valNoPlan : PySem.W.kitOne K (.ref d_NoPlan) (.type "ValueError") = some true)
    (f_othNoPlan : PySem.W.kitAny K (.ref d_NoPlan) [.ref d_NoName, .ref d_NoNumber, .ref d_NoRow, .ref d_NotSure, .ref d_TooMuch] = some false)
    (f_kNoPlanNoText : PySem.W.kitOne K (.ref d_NoPlan) (.ref d_NoText) = some false)
    (f_kNoPlanNoRule : PySem.W.kitOne K (.ref d_NoPlan) (.ref d_NoRule) = some false) :
    ∃ fd : FuncData, (∀ (s : Shared) (v : Value), BindsTo s fd ⟨[v], []⟩ [("_law_script", v)]) ∧ ∀ base : Heap, K.In base → base.Ns mainGlobals mg → FnOk l.prog w K mg base CX0 11 fa fd ["_law_script"] (spLaw K) := by
  have e := hfa.symm.trans (PySem.W.mg_of X G a_law)
  cases e
  have T : Txt mg := ⟨PySem.W.mg_none_of X G z_range, PySem.W.mg_none_of X G z_min, PySem.W.mg_none_of X G z_max, PySem.W.mg_none_of X G z_len, PySem.W.mg_none_of X G z_isinstance, PySem.W.mg_none_of X G z_int, PySem.W.mg_none_of X G z_bool, PySem.W.mg_none_of X G z_str, PySem.W.mg_none_of X G z_tuple, PySem.W.mg_none_of X G z_list, PySem.W.mg_none_of X G z_zip, PySem.W.mg_none_of X G z_enumerate, PySem.W.mg_none_of X G z_all, PySem.W.mg_none_of X G z_abs, PySem.W.mg_none_of X G z_sorted, PySem.W.mg_none_of X G z_ValueError, ⟨_, PySem.W.mg_of X G g_FIGURES⟩⟩
  have cf : CF K mg ⟨d_StretchError, d_NoNumber, d_NoRule, d_NotSure, d_TooMuch, d_NoPlan, d_NoText, d_NoName, d_NoRow⟩ := ⟨PySem.W.mg_of X G n_StretchError, PySem.W.mg_of X G n_NoNumber, PySem.W.mg_of X G n_NoRule, PySem.W.mg_of X G n_NotSure, PySem.W.mg_of X G n_TooMuch, PySem.W.mg_of X G n_NoPlan, PySem.W.mg_of X G n_NoText, PySem.W.mg_of X G n_NoName, PySem.W.mg_of X G n_NoRow, ⟨PySem.W.mg_of X G n_NoRule, x_NoRule⟩, ⟨PySem.W.mg_of X G n_NoPlan, x_NoPlan⟩, ⟨PySem.W.mg_of X G n_NoText, x_NoText⟩, ⟨t_StretchError, s_StretchError, u_StretchError⟩, ⟨ga_NoRule, gt_NoRule, cl_NoRule, sg_NoRule, tk_NoRule, ob_NoRule, be_NoRule, ic_NoRule⟩, ⟨ga_NoPlan, gt_NoPlan, cl_NoPlan, sg_NoPlan, tk_NoPlan, ob_NoPlan, be_NoPlan, ic_NoPlan⟩, ⟨ga_NoText, gt_NoText, cl_NoText, sg_NoText, tk_NoText, ob_NoText, be_NoText, ic_NoText⟩, f_subNoText, f_valNoText, f_othNoText, f_kNoTextNoRule, f_kNoTextNoPlan, f_subNoRule, f_valNoRule, f_othNoRule, f_kNoRuleNoText, f_kNoRuleNoPlan, f_subNoPlan, f_valNoPlan, f_othNoPlan, f_kNoPlanNoText, f_kNoPlanNoRule⟩
  have F_whole := fun_mk (st := s_whole) l_whole c_whole k_whole
  have b_whole := F_whole.binds (ps := ["thing"]) fun _ _ _ _ _ _ us hl => match us, hl with | [_], _ => rfl
  have m_whole := PySem.W.mg_of X G a_whole
  have F_share := fun_mk (st := s_share) l_share c_share k_share
  have b_share := F_share.binds (ps := ["thing"]) fun _ _ _ _ _ _ us hl => match us, hl with | [_], _ => rfl
  have m_share := PySem.W.mg_of X G a_share
  have F_wpair := fun_mk (st := s_wpair) l_wpair c_wpair k_wpair
  have b_wpair := F_wpair.binds (ps := ["thing"]) fun _ _ _ _ _ _ us hl => match us, hl with | [_], _ => rfl
  have m_wpair := PySem.W.mg_of X G a_wpair
  have F_cd := fun_mk (st := s_cd) l_cd c_cd k_cd
  have b_cd := F_cd.binds (ps := ["one", "other"]) fun _ _ _ _ _ _ us hl => match us, hl with | [_, _], _ => rfl
  have m_cd := PySem.W.mg_of X G a_cd
  have F_und := fun_mk (st := s_und) l_und c_und k_und
  have b_und := F_und.binds (ps := ["one", "other"]) fun _ _ _ _ _ _ us hl => match us, hl with | [_, _], _ => rfl
  have m_und := PySem.W.mg_of X G a_und
  have F_ruleof := fun_mk (st := s_ruleof) l_ruleof c_ruleof k_ruleof
  have b_ruleof := F_ruleof.binds (ps := ["n", "stretches"]) fun _ _ _ _ _ _ us hl => match us, hl with | [_, _], _ => rfl
  have m_ruleof := PySem.W.mg_of X G a_ruleof
  have F_rowof := fun_mk (st := s_rowof) l_rowof c_rowof k_rowof
  have b_rowof := F_rowof.binds (ps := ["thing", "count"]) fun _ _ _ _ _ _ us hl => match us, hl with | [_, _], _ => rfl
  have m_rowof := PySem.W.mg_of X G a_rowof
  have F_str := fun_mk (st := s_str) l_str c_str k_str
  have b_str := F_str.binds (ps := ["thing"]) fun _ _ _ _ _ _ us hl => match us, hl with | [_], _ => rfl
  have m_str := PySem.W.mg_of X G a_str
  have F_plan := fun_mk (st := s_plan) l_plan c_plan k_plan
  have b_plan := F_plan.binds (ps := ["n", "bounds"]) fun _ _ _ _ _ _ us hl => match us, hl with | [_, _], _ => rfl
  have m_plan := PySem.W.mg_of X G a_plan
  have F_bnd := fun_mk (st := s_bnd) l_bnd c_bnd k_bnd
  have b_bnd := F_bnd.binds (ps := ["thing", "t"]) fun _ _ _ _ _ _ us hl => match us, hl with | [_, _], _ => rfl
  have m_bnd := PySem.W.mg_of X G a_bnd
  have F_rr := fun_mk (st := s_rr) l_rr c_rr k_rr
  have b_rr := F_rr.binds (ps := ["text"]) fun _ _ _ _ _ _ us hl => match us, hl with | [_], _ => rfl
  have m_rr := PySem.W.mg_of X G a_rr
  have F_rd := fun_mk (st := s_rd) l_rd c_rd k_rd
  have b_rd := F_rd.binds (ps := ["text"]) fun _ _ _ _ _ _ us hl => match us, hl with | [_], _ => rfl
  have m_rd := PySem.W.mg_of X G a_rd
  have F_rb := fun_mk (st := s_rb) l_rb c_rb k_rb
  have b_rb := F_rb.binds (ps := ["text"]) fun _ _ _ _ _ _ us hl => match us, hl with | [_], _ => rfl
  have m_rb := PySem.W.mg_of X G a_rb
  have F_rps := fun_mk (st := s_rps) l_rps c_rps k_rps
  have b_rps := F_rps.binds (ps := ["text", "read_end"]) fun _ _ _ _ _ _ us hl => match us, hl with | [_, _], _ => rfl
  have m_rps := PySem.W.mg_of X G a_rps
  have F_rp := fun_mk (st := s_rp) l_rp c_rp k_rp
  have b_rp := F_rp.binds (ps := ["text", "read_end"]) fun _ _ _ _ _ _ us hl => match us, hl with | [_, _], _ => rfl
  have m_rp := PySem.W.mg_of X G a_rp
  have F_rf := fun_mk (st := s_rf) l_rf c_rf k_rf
  have b_rf := F_rf.binds (ps := ["text"]) fun _ _ _ _ _ _ us hl => match us, hl with | [_], _ => rfl
  have m_rf := PySem.W.mg_of X G a_rf
  have F_rw := fun_mk (st := s_rw) l_rw c_rw k_rw
  have b_rw := F_rw.binds (ps := ["text"]) fun _ _ _ _ _ _ us hl => match us, hl with | [_], _ => rfl
  have m_rw := PySem.W.mg_of X G a_rw
  have F_atU := fun_mk (st := s_atU) l_atU c_atU k_atU
  have b_atU := F_atU.binds (ps := ["_law_script", "_law_k"]) fun _ _ _ _ _ _ us hl => match us, hl with | [_, _], _ => rfl
  have m_atU := PySem.W.mg_of X G a_atU
  have F_div := fun_mk (st := s_div) l_div c_div k_div
  have b_div := F_div.binds (ps := ["_law_one", "_law_other"]) fun _ _ _ _ _ _ us hl => match us, hl with | [_, _], _ => rfl
  have m_div := PySem.W.mg_of X G a_div
  have F_fig := fun_mk (st := s_fig) l_fig c_fig k_fig
  have b_fig := F_fig.binds (ps := ["_law_word_here"]) fun _ _ _ _ _ _ us hl => match us, hl with | [_], _ => rfl
  have m_fig := PySem.W.mg_of X G a_fig
  have F_lwh := fun_mk (st := s_lwh) l_lwh c_lwh k_lwh
  have b_lwh := F_lwh.binds (ps := ["_law_word_here"]) fun _ _ _ _ _ _ us hl => match us, hl with | [_], _ => rfl
  have m_lwh := PySem.W.mg_of X G a_lwh
  have F_num := fun_mk (st := s_num) l_num c_num k_num
  have b_num := F_num.binds (ps := ["_law_word_here", "_law_is_rule_here"]) fun _ _ _ _ _ _ us hl => match us, hl with | [_, _], _ => rfl
  have m_num := PySem.W.mg_of X G a_num
  have F_lrd := fun_mk (st := s_lrd) l_lrd c_lrd k_lrd
  have b_lrd := F_lrd.binds (ps := ["_law_text_here", "_law_is_rule_here"]) fun _ _ _ _ _ _ us hl => match us, hl with | [_, _], _ => rfl
  have m_lrd := PySem.W.mg_of X G a_lrd
  have F_nol := fun_mk (st := s_nol) l_nol c_nol k_nol
  have b_nol := F_nol.binds (ps := ["_law_one", "_law_other"]) fun _ _ _ _ _ _ us hl => match us, hl with | [_, _], _ => rfl
  have m_nol := PySem.W.mg_of X G a_nol
  have F_isr := fun_mk (st := s_isr) l_isr c_isr k_isr
  have b_isr := F_isr.binds (ps := ["_law_n", "_law_pairs"]) fun _ _ _ _ _ _ us hl => match us, hl with | [_, _], _ => rfl
  have m_isr := PySem.W.mg_of X G a_isr
  have F_isp := fun_mk (st := s_isp) l_isp c_isp k_isp
  have b_isp := F_isp.binds (ps := ["_law_n", "_law_pairs"]) fun _ _ _ _ _ _ us hl => match us, hl with | [_, _], _ => rfl
  have m_isp := PySem.W.mg_of X G a_isp
  have F_told := fun_mk (st := s_told) l_told c_told k_told
  have b_told := F_told.binds (ps := ["_law_text_here", "_law_is_rule_here"]) fun _ _ _ _ _ _ us hl => match us, hl with | [_, _], _ => rfl
  have m_told := PySem.W.mg_of X G a_told
  have F_word := fun_mk (st := s_word) l_word c_word k_word
  have b_word := F_word.binds (ps := ["_law_top", "_law_bottom"]) fun _ _ _ _ _ _ us hl => match us, hl with | [_, _], _ => rfl
  have m_word := PySem.W.mg_of X G a_word
  have F_text := fun_mk (st := s_text) l_text c_text k_text
  have b_text := F_text.binds (ps := ["_law_script", "_law_is_rule_here"]) fun _ _ _ _ _ _ us hl => match us, hl with | [_, _], _ => rfl
  have m_text := PySem.W.mg_of X G a_text
  have F_sg := fun_mk (st := s_sg) l_sg c_sg k_sg
  have b_sg := F_sg.binds (ps := []) fun _ _ _ _ _ _ us hl => match us, hl with | [], _ => rfl
  have m_sg := PySem.W.mg_of X G a_sg
  have F_nb := fun_mk (st := s_nb) l_nb c_nb k_nb
  have b_nb := F_nb.binds (ps := ["_law_words", "_law_at_here", "_law_cell"]) fun _ _ _ _ _ _ us hl => match us, hl with | [_, _, _], _ => rfl
  have m_nb := PySem.W.mg_of X G a_nb
  have F_pb := fun_mk (st := s_pb) l_pb c_pb k_pb
  have b_pb := F_pb.binds (ps := ["_law_head", "_law_pairs", "_law_cell"]) fun _ _ _ _ _ _ us hl => match us, hl with | [_, _, _], _ => rfl
  have m_pb := PySem.W.mg_of X G a_pb
  have F_bent := fun_mk (st := s_bent) l_bent c_bent k_bent
  have b_bent := F_bent.binds (ps := ["_law_script", "_law_text_here", "_law_is_rule_here"]) fun _ _ _ _ _ _ us hl => match us, hl with | [_, _, _], _ => rfl
  have m_bent := PySem.W.mg_of X G a_bent
  have F_law := fun_mk (st := s_law) l_law c_law k_law
  have b_law := F_law.binds (ps := ["_law_script"]) fun _ _ _ _ _ _ us hl => match us, hl with | [_], _ => rfl
  have m_law := PySem.W.mg_of X G a_law
  refine ⟨PySem.W.fnOf "law" "law" (defArgs s_law) (defBody s_law) (defScope s_law) .none kV_law dc_law pm_law an_law cd_law ct_law, fun s v => .of_eq rfl, fun base _ _ => ?_⟩
  have G_atU := ok_atU (P := l.prog) (w := w) (base := base) F_atU T
  have G_div := ok_div (P := l.prog) (w := w) (base := base) F_div T
  have G_word := ok_word (P := l.prog) (w := w) (base := base) F_word T (G_div.mono (by decide)) b_div k_div m_div
  have G_text := ok_text (P := l.prog) (w := w) (base := base) F_text T (G_atU.mono (by decide)) b_atU k_atU m_atU (G_word.mono (by decide)) b_word k_word m_word
  have G_sg := ok_sg (P := l.prog) (w := w) (base := base) F_sg T
  have G_nb := ok_nb (P := l.prog) (w := w) (base := base) F_nb T
  have G_pb := ok_pb (P := l.prog) (w := w) (base := base) F_pb T
  have G_bent := ok_bent (P := l.prog) (w := w) (base := base) F_bent T (G_atU.mono (by decide)) b_atU k_atU m_atU (G_sg.mono (by decide)) b_sg k_sg m_sg (G_nb.mono (by decide)) b_nb k_nb m_nb (G_pb.mono (by decide)) b_pb k_pb m_pb
  have G_fig := ok_fig (P := l.prog) (w := w) (base := base) F_fig T
  have G_lwh := ok_lwh (P := l.prog) (w := w) (base := base) F_lwh T (G_fig.mono (by decide)) b_fig k_fig m_fig
  have G_num := ok_num (P := l.prog) (w := w) (base := base) F_num T (G_lwh.mono (by decide)) b_lwh k_lwh m_lwh (G_fig.mono (by decide)) b_fig k_fig m_fig (G_div.mono (by decide)) b_div k_div m_div
  have G_lrd := ok_lrd (P := l.prog) (w := w) (base := base) F_lrd T (G_lwh.mono (by decide)) b_lwh k_lwh m_lwh (G_num.mono (by decide)) b_num k_num m_num
  have G_nol := ok_nol (P := l.prog) (w := w) (base := base) F_nol T
  have G_isr := ok_isr (P := l.prog) (w := w) (base := base) F_isr T (G_nol.mono (by decide)) b_nol k_nol m_nol
  have G_isp := ok_isp (P := l.prog) (w := w) (base := base) F_isp T
  have G_rw := ok_rw (P := l.prog) (w := w) (base := base) F_rw T cf
  have G_cd := ok_cd (P := l.prog) (w := w) (base := base) F_cd T
  have G_rf := ok_rf (P := l.prog) (w := w) (base := base) F_rf T cf (G_rw.mono (by decide)) b_rw k_rw m_rw (G_cd.mono (by decide)) b_cd k_cd m_cd
  have G_rp := ok_rp (P := l.prog) (w := w) (base := base) F_rp T cf (G_rw.mono (by decide)) b_rw k_rw m_rw (G_rf.mono (by decide)) b_rf k_rf m_rf
  have G_rps := ok_rps (P := l.prog) (w := w) (base := base) F_rps T cf (G_rw.mono (by decide)) b_rw k_rw m_rw (G_rf.mono (by decide)) b_rf k_rf m_rf (G_rp.mono (by decide)) b_rp k_rp m_rp
  have G_whole := ok_whole (P := l.prog) (w := w) (base := base) F_whole T
  have G_rowof := ok_rowof (P := l.prog) (w := w) (base := base) F_rowof T
  have G_wpair := ok_wpair (P := l.prog) (w := w) (base := base) F_wpair T (G_whole.mono (by decide)) b_whole k_whole m_whole
  have G_share := ok_share (P := l.prog) (w := w) (base := base) F_share T (G_wpair.mono (by decide)) b_wpair k_wpair m_wpair (G_cd.mono (by decide)) b_cd k_cd m_cd
  have G_und := ok_und (P := l.prog) (w := w) (base := base) F_und T
  have G_str := ok_str (P := l.prog) (w := w) (base := base) F_str T cf (G_rowof.mono (by decide)) b_rowof k_rowof m_rowof (G_share.mono (by decide)) b_share k_share m_share (G_und.mono (by decide)) b_und k_und m_und
  have G_ruleof := ok_ruleof (P := l.prog) (w := w) (base := base) F_ruleof T cf (G_whole.mono (by decide)) b_whole k_whole m_whole (G_rowof.mono (by decide)) b_rowof k_rowof m_rowof (G_str.mono (by decide)) b_str k_str m_str (G_und.mono (by decide)) b_und k_und m_und
  have G_rr := ok_rr (P := l.prog) (w := w) (base := base) F_rr T cf (G_rw.mono (by decide)) b_rw k_rw m_rw (G_rf.mono (by decide)) b_rf k_rf m_rf (G_rps.mono (by decide)) b_rps k_rps m_rps (G_ruleof.mono (by decide)) b_ruleof k_ruleof m_ruleof
  have G_bnd := ok_bnd (P := l.prog) (w := w) (base := base) F_bnd T cf (G_rowof.mono (by decide)) b_rowof k_rowof m_rowof (G_whole.mono (by decide)) b_whole k_whole m_whole
  have G_plan := ok_plan (P := l.prog) (w := w) (base := base) F_plan T cf (G_whole.mono (by decide)) b_whole k_whole m_whole (G_rowof.mono (by decide)) b_rowof k_rowof m_rowof (G_bnd.mono (by decide)) b_bnd k_bnd m_bnd
  have G_rb := ok_rb (P := l.prog) (w := w) (base := base) F_rb T cf (G_rw.mono (by decide)) b_rw k_rw m_rw (G_rf.mono (by decide)) b_rf k_rf m_rf (G_rps.mono (by decide)) b_rps k_rps m_rps (G_plan.mono (by decide)) b_plan k_plan m_plan
  have G_rd := ok_rd (P := l.prog) (w := w) (base := base) F_rd T cf (G_rb.mono (by decide)) b_rb k_rb m_rb
  have G_told := ok_told (P := l.prog) (w := w) (base := base) F_told T cf (G_rr.mono (by decide)) b_rr k_rr m_rr (G_rd.mono (by decide)) b_rd k_rd m_rd
  exact ok_law F_law T cf (G_atU.mono (by decide)) b_atU k_atU m_atU (G_text.mono (by decide)) b_text k_text m_text (G_bent.mono (by decide)) b_bent k_bent m_bent (G_lrd.mono (by decide)) b_lrd k_lrd m_lrd (G_isr.mono (by decide)) b_isr k_isr m_isr (G_isp.mono (by decide)) b_isp k_isp m_isp (G_told.mono (by decide)) b_told k_told m_told
theorem walk {l : PySem.W.OpenLaw} {q : Program} {loose : List Str} {XP : (Str → Option Value) → Heap → Prop} {YP : World → Heap → Prop} {d : DefRec} {K : Params → PySem.W.Frag} (hn : l.most = some 63) (hdf : d.params.defaults = [])
    (hY : ∀ (w : World) (h : Heap), YP w h → (K w.params).In h)
    (F : ∀ (w : World) (mg : Str → Option Value) (fa : Addr) (h : Heap), (K w.params).In h → h.Ns mainGlobals mg → mg d.name = some (.ref fa) →
      ∃ fd : FuncData, (∀ (s : Shared) (u : Value), BindsTo s fd ⟨[u], []⟩ [("_law_script", u)]) ∧ ∀ base : Heap, (K w.params).In base → base.Ns mainGlobals mg → FnOk l.prog w (K w.params) mg base CX0 11 fa fd ["_law_script"] (spLaw (K w.params))) :
    PySem.W.WalkO q loose XP YP l.row.toRowW d [] (fun f vs => PySem.call f vs) :=
  L2.walk_ofB (n := 63) (k := 11) (x := "_law_script") (CX := fun _ => CX0) (sp := fun w => spLaw (K w.params)) hn (by decide) hdf ⟨rfl, by decide, by decide⟩ hY F (fun _ _ a ns hl hb _ hS => ⟨a, ns, rfl, hS, hl, hb, fun _ => rfl⟩) fun _ _ _ _ _ z => z
end K52
open PySem PySem.W PyProof.Rows
def PySem.W.Fast.tw3702846574759518485 : Nat := 0
def PySem.W.Fast.tw8929911770260065152 : Nat := 0
def PySem.W.Fast.tw16926601067757942069 : Nat := 0
def PySem.W.Fast.tw14547535359256340565 : Nat := 0
def PySem.W.Fast.tw693002009085871705 : Nat := 0
def PySem.W.Fast.tw4220403109115730222 : Nat := 0
def PySem.W.Fast.tw3560512989545825132 : Nat := 0
def PySem.W.Fast.tw7096111833694097995 : Nat := 0
def PySem.W.Fast.tw17539771545948482740 : Nat := 0
def PySem.W.Fast.tw3123823941470072327 : Nat := 0
def PySem.W.Fast.tw15938221733182606598 : Nat := 0
def PySem.W.Fast.tw5899711271663117365 : Nat := 0
set_option maxRecDepth 100000 in
set_option maxHeartbeats 0 in
theorem PySem.Challenge.cw_surestretch_k52_texts_of_none_holds : PySem.Challenge.rw_surestretch_k52_texts_of_none.Holds := by
  w_on; o_law; k_head; (case hw => w_witness2)
  k_fill
  refine K52.walk (l := PySem.Challenge.rw_surestretch_k52_texts_of_none) rfl rfl (fun w h Y => PySem.W.kIn_of Y) ?F
  case F =>
    intro w mg fa h KX G hmg
    refine' K52.all_mk KX G hmg ?a_whole ?l_whole ?c_whole ?k_whole ?a_share ?l_share ?c_share ?k_share ?a_wpair ?l_wpair ?c_wpair ?k_wpair ?a_cd ?l_cd ?c_cd ?k_cd ?a_und ?l_und ?c_und ?k_und ?a_ruleof ?l_ruleof ?c_ruleof ?k_ruleof ?a_rowof ?l_rowof ?c_rowof ?k_rowof ?a_str ?l_str ?c_str ?k_str ?a_plan ?l_plan ?c_plan ?k_plan ?a_bnd ?l_bnd ?c_bnd ?k_bnd ?a_rr ?l_rr ?c_rr ?k_rr ?a_rd ?l_rd ?c_rd ?k_rd ?a_rb ?l_rb ?c_rb ?k_rb ?a_rps ?l_rps ?c_rps ?k_rps ?a_rp ?l_rp ?c_rp ?k_rp ?a_rf ?l_rf ?c_rf ?k_rf ?a_rw ?l_rw ?c_rw ?k_rw ?a_atU ?l_atU ?c_atU ?k_atU ?a_div ?l_div ?c_div ?k_div ?a_fig ?l_fig ?c_fig ?k_fig ?a_lwh ?l_lwh ?c_lwh ?k_lwh ?a_num ?l_num ?c_num ?k_num ?a_lrd ?l_lrd ?c_lrd ?k_lrd ?a_nol ?l_nol ?c_nol ?k_nol ?a_isr ?l_isr ?c_isr ?k_isr ?a_isp ?l_isp ?c_isp ?k_isp ?a_told ?l_told ?c_told ?k_told ?a_word ?l_word ?c_word ?k_word ?a_text ?l_text ?c_text ?k_text ?a_sg ?l_sg ?c_sg ?k_sg ?a_nb ?l_nb ?c_nb ?k_nb ?a_pb ?l_pb ?c_pb ?k_pb ?a_bent ?l_bent ?c_bent ?k_bent ?a_law ?l_law ?c_law ?k_law ?z_range ?z_min ?z_max ?z_len ?z_isinstance ?z_int ?z_bool ?z_str ?z_tuple ?z_list ?z_zip ?z_enumerate ?z_all ?z_abs ?z_sorted ?z_ValueError ?g_FIGURES ?n_StretchError ?n_NoNumber ?n_NoRule ?n_NotSure ?n_TooMuch ?n_NoPlan ?n_NoText ?n_NoName ?n_NoRow ?x_NoRule ?ic_NoRule ?ga_NoRule ?gt_NoRule ?cl_NoRule ?sg_NoRule ?tk_NoRule ?ob_NoRule ?be_NoRule ?x_NoPlan ?ic_NoPlan ?ga_NoPlan ?gt_NoPlan ?cl_NoPlan ?sg_NoPlan ?tk_NoPlan ?ob_NoPlan ?be_NoPlan ?x_NoText ?ic_NoText ?ga_NoText ?gt_NoText ?cl_NoText ?sg_NoText ?tk_NoText ?ob_NoText ?be_NoText ?t_StretchError ?s_StretchError ?u_StretchError ?f_subNoText ?f_valNoText ?f_othNoText ?f_kNoTextNoRule ?f_kNoTextNoPlan ?f_subNoRule ?f_valNoRule ?f_othNoRule ?f_kNoRuleNoText ?f_kNoRuleNoPlan ?f_subNoPlan ?f_valNoPlan ?f_othNoPlan ?f_kNoPlanNoText ?f_kNoPlanNoRule
    (case a_whole => k_is); (case l_whole => k_is); (case c_whole => k_is); (case k_whole => k_is); (case a_share => k_is); (case l_share => k_is); (case c_share => k_is); (case k_share => k_is)
    (case a_wpair => k_is); (case l_wpair => k_is); (case c_wpair => k_is); (case k_wpair => k_is); (case a_cd => k_is); (case l_cd => k_is); (case c_cd => k_is); (case k_cd => k_is)
    (case a_und => k_is); (case l_und => k_is); (case c_und => k_is); (case k_und => k_is); (case a_ruleof => k_is); (case l_ruleof => k_is); (case c_ruleof => k_is); (case k_ruleof => k_is)
    (case a_rowof => k_is); (case l_rowof => k_is); (case c_rowof => k_is); (case k_rowof => k_is); (case a_str => k_is); (case l_str => k_is); (case c_str => k_is); (case k_str => k_is)
    (case a_plan => k_is); (case l_plan => k_is); (case c_plan => k_is); (case k_plan => k_is); (case a_bnd => k_is); (case l_bnd => k_is); (case c_bnd => k_is); (case k_bnd => k_is)
    (case a_rr => k_is); (case l_rr => k_is); (case c_rr => k_is); (case k_rr => k_is); (case a_rd => k_is); (case l_rd => k_is); (case c_rd => k_is); (case k_rd => k_is)
    (case a_rb => k_is); (case l_rb => k_is); (case c_rb => k_is); (case k_rb => k_is); (case a_rps => k_is); (case l_rps => k_is); (case c_rps => k_is); (case k_rps => k_is)
    (case a_rp => k_is); (case l_rp => k_is); (case c_rp => k_is); (case k_rp => k_is); (case a_rf => k_is); (case l_rf => k_is); (case c_rf => k_is); (case k_rf => k_is)
    (case a_rw => k_is); (case l_rw => k_is); (case c_rw => k_is); (case k_rw => k_is); (case a_atU => k_is); (case l_atU => k_is); (case c_atU => k_is); (case k_atU => k_is)
    (case a_div => k_is); (case l_div => k_is); (case c_div => k_is); (case k_div => k_is); (case a_fig => k_is); (case l_fig => k_is); (case c_fig => k_is); (case k_fig => k_is)
    (case a_lwh => k_is); (case l_lwh => k_is); (case c_lwh => k_is); (case k_lwh => k_is); (case a_num => k_is); (case l_num => k_is); (case c_num => k_is); (case k_num => k_is)
    (case a_lrd => k_is); (case l_lrd => k_is); (case c_lrd => k_is); (case k_lrd => k_is); (case a_nol => k_is); (case l_nol => k_is); (case c_nol => k_is); (case k_nol => k_is)
    (case a_isr => k_is); (case l_isr => k_is); (case c_isr => k_is); (case k_isr => k_is); (case a_isp => k_is); (case l_isp => k_is); (case c_isp => k_is); (case k_isp => k_is)
    (case a_told => k_is); (case l_told => k_is); (case c_told => k_is); (case k_told => k_is); (case a_word => k_is); (case l_word => k_is); (case c_word => k_is); (case k_word => k_is)
    (case a_text => k_is); (case l_text => k_is); (case c_text => k_is); (case k_text => k_is); (case a_sg => k_is); (case l_sg => k_is); (case c_sg => k_is); (case k_sg => k_is)
    (case a_nb => k_is); (case l_nb => k_is); (case c_nb => k_is); (case k_nb => k_is); (case a_pb => k_is); (case l_pb => k_is); (case c_pb => k_is); (case k_pb => k_is)
    (case a_bent => k_is); (case l_bent => k_is); (case c_bent => k_is); (case k_bent => k_is); (case a_law => k_is); (case l_law => k_is); (case c_law => k_is); (case k_law => k_is)
    (case z_range => k_is); (case z_min => k_is); (case z_max => k_is); (case z_len => k_is); (case z_isinstance => k_is); (case z_int => k_is); (case z_bool => k_is); (case z_str => k_is)
    (case z_tuple => k_is); (case z_list => k_is); (case z_zip => k_is); (case z_enumerate => k_is); (case z_all => k_is); (case z_abs => k_is); (case z_sorted => k_is); (case z_ValueError => k_is)
    (case g_FIGURES => k_is); (case n_StretchError => k_is); (case n_NoNumber => k_is); (case n_NoRule => k_is); (case n_NotSure => k_is); (case n_TooMuch => k_is); (case n_NoPlan => k_is); (case n_NoText => k_is)
    (case n_NoName => k_is); (case n_NoRow => k_is); (case x_NoRule => k_exc); (case ic_NoRule => k_is); (case ga_NoRule => k_is); (case gt_NoRule => k_is); (case cl_NoRule => k_is); (case sg_NoRule => k_is)
    (case tk_NoRule => k_is); (case ob_NoRule => k_is); (case be_NoRule => k_is); (case x_NoPlan => k_exc); (case ic_NoPlan => k_is); (case ga_NoPlan => k_is); (case gt_NoPlan => k_is); (case cl_NoPlan => k_is)
    (case sg_NoPlan => k_is); (case tk_NoPlan => k_is); (case ob_NoPlan => k_is); (case be_NoPlan => k_is); (case x_NoText => k_exc); (case ic_NoText => k_is); (case ga_NoText => k_is); (case gt_NoText => k_is)
    (case cl_NoText => k_is); (case sg_NoText => k_is); (case tk_NoText => k_is); (case ob_NoText => k_is); (case be_NoText => k_is); (case t_StretchError => k_is); (case s_StretchError => k_is); (case u_StretchError => k_is)
    (case f_subNoText => k_is); (case f_valNoText => kit_is); (case f_othNoText => kit_is); (case f_kNoTextNoRule => kit_is); (case f_kNoTextNoPlan => kit_is); (case f_subNoRule => k_is); (case f_valNoRule => kit_is); (case f_othNoRule => kit_is)
    (case f_kNoRuleNoText => kit_is); (case f_kNoRuleNoPlan => kit_is); (case f_subNoPlan => k_is); (case f_valNoPlan => kit_is); (case f_othNoPlan => kit_is); (case f_kNoPlanNoText => kit_is); (case f_kNoPlanNoRule => kit_is)