import PyProof.Rows.All
import KE.KDictSum
import PyProof.Rows.SetFrom
import KE.KLam
import KE.KRevIter
import PyProof.EnumMake
import Wide.All
import OpenK.AllK
import Wide.FinOn
import Lean
import PyProof.EqAt
import PyProof.EqKinds
import PyProof.TupleCall
import PySem.Challenge.RW_surestretch_k27_whole_made_tight
set_option Elab.async false
set_option linter.all false
set_option maxRecDepth 100000
set_option maxHeartbeats 8000000
noncomputable section
namespace L2
open PySem PySem.Spec PyProof.Rows
abbrev Key:=Sum Int Str
def zW:Key->Value->Bool
 | .inl k,v=>Value.isInt k v
 | .inr x,v=>Value.isStrOf x v
def CL (w:World):Key->Int
 | .inl k=>hashInt k
 | .inr x=>hashStr w x
theorem bF:∀ {k:Key}{v:Value},zW k v=true->(∃ i t,k=Sum.inl i/\v=Value.int i t)∨(∃ x t,k=Sum.inr x/\v=Value.str x t)
 | .inl i,v,h=>by
  obtain⟨t,e⟩:=Value.isInt_shape (k:=i) (v:=v) h
  exact .inl ⟨i,t,rfl,e⟩
 | .inr x,v,h=>by
  obtain⟨t,e⟩:=Value.isStrOf_shape (x:=x) (v:=v) h
  exact .inr ⟨x,t,rfl,e⟩
theorem Bi (a b:Int):decide ((Sum.inl a:Key)=Sum.inl b)=(a == b):=by
 by_cases e:a=b
 ·subst e;simp
 ·have h:¬ (Sum.inl a:Key)=Sum.inl b:=λ q=>e (Sum.inl.inj q)
  rw[decide_eq_false h]
  exact (beq_eq_false_iff_ne.mpr e).symm
theorem Be (a b:Str):decide ((Sum.inr a:Key)=Sum.inr b)=decide (a=b):=by
 by_cases e:a=b
 ·subst e;simp
 ·have h:¬ (Sum.inr a:Key)=Sum.inr b:=λ q=>e (Sum.inr.inj q)
  rw[decide_eq_false h,decide_eq_false e]
theorem Bh (a:Int) (b:Str):decide ((Sum.inl a:Key)=Sum.inr b)=false:=decide_eq_false (λ q=>nomatch q)
theorem Bf (a:Str) (b:Int):decide ((Sum.inr a:Key)=Sum.inl b)=false:=decide_eq_false (λ q=>nomatch q)
def fh (prog:Program) (w:World):PySem.KeyKind prog w Key where
 is:=zW
 hash:=CL w
 inj:=λ v a b ha hb=>by
  rcases bF ha with ⟨i,t,rfl,rfl⟩ | ⟨x,t,rfl,rfl⟩
  ·rcases bF hb with ⟨j,u,rfl,e⟩ | ⟨y,u,rfl,e⟩
   ·injection e with e1 _;rw[e1]
   ·exact nomatch e
  ·rcases bF hb with ⟨j,u,rfl,e⟩ | ⟨y,u,rfl,e⟩
   ·exact nomatch e
   ·injection e with e1 _;rw[e1]
 byValue:=λ k v h=>by
  rcases bF h with ⟨i,t,rfl,rfl⟩ | ⟨x,t,rfl,rfl⟩<;>rfl
 pyHash:=λ hv h=>by
  rcases bF hv with ⟨i,t,rfl,rfl⟩ | ⟨x,t,rfl,rfl⟩
  ·exact wpAny_pyHash_int h
  ·exact wpAny_pyHash_str h
 eqBool:=λ hu hv h=>by
  rcases bF hu with ⟨i,t,rfl,rfl⟩ | ⟨x,t,rfl,rfl⟩
  ·rcases bF hv with ⟨j,u,rfl,rfl⟩ | ⟨y,u,rfl,rfl⟩
   ·rw[Bi] at h;exact wpAny_eqBool_int h
   ·rw[Bh] at h;exact SeqAt.EqAt.int_str i t y u _ _ _ _ h
  ·rcases bF hv with ⟨j,u,rfl,rfl⟩ | ⟨y,u,rfl,rfl⟩
   ·rw[Bf] at h;exact SeqAt.EqAt.str_int x t j u _ _ _ _ h
   ·rw[Be] at h;exact wpAny_eqBool_str h
 «strs»:=λ k x t v h=>by
  rcases bF h with ⟨i,u,rfl,e⟩ | ⟨y,u,rfl,e⟩
  ·exact nomatch e
  ·injection e with e1 _
   subst e1
   cases v<;>rfl
end L2
namespace L2
open PySem PySem.Spec PyProof.Rows
inductive V where
 | non | bl (b:Bool) | int (i:Int) | str (x:Str) | byt (b:Array UInt8) | flt (b:UInt64) | ref (a:Addr) | ty (n:String)
 deriving DecidableEq
def a8:V->Value->Prop
 | .non,u=>u=Value.none
 | .bl b,u=>u=Value.bool b
 | .int i,u=>∃ t,u=Value.int i t
 | .str x,u=>∃ t,u=Value.str x t
 | .byt b,u=>∃ t,u=Value.bytes b t
 | .flt b,u=>∃ t,u=Value.float b t
 | .ref a,u=>u=Value.ref a
 | .ty n,u=>u=Value.type n
abbrev aM:List V->List Value->Prop:=Paired a8
theorem aM.length {xs:List V}{us:List Value} (r:aM xs us):xs.length=us.length:=Paired.length r
theorem aM.get:∀ {xs:List V}{us:List Value}{i:Nat}{x:V},aM xs us->xs[i]? = some x->∃ u,us[i]? = some u/\a8 x u
 | _,_,_,_,.nil,e=>by simp at e
 | _,_,0,_,.cons r _,e=>by simp at e;subst e;exact⟨_,rfl,r⟩
 | _,_,i+1,x,.cons _ t,e=>by
  obtain⟨u,h1,h2⟩:=aM.get (i:=i) (x:=x) t (by simpa using e)
  exact⟨u,by simpa using h1,h2⟩
theorem aM.set {x:V}{u:Value} (r:a8 x u):∀ {xs:List V}{us:List Value} (i:Nat),aM xs us->aM (xs.set i x) (us.set i u)
 | _,_,_,.nil=>.nil
 | _,_,0,.cons _ t=>.cons r t
 | _,_,i+1,.cons q t=>.cons q (aM.set r i t)
theorem aM.append:∀ {xs ys:List V}{us ws:List Value},aM xs us->aM ys ws->aM (xs++ys) (us++ws)
 | _,_,_,_,.nil,s=>s
 | _,_,_,_,.cons r t,s=>.cons r (aM.append t s)
theorem aM.take:∀ {xs:List V}{us:List Value} (n:Nat),aM xs us->aM (xs.take n) (us.take n)
 | _,_,0,_=>.nil
 | _,_,_+1,.nil=>.nil
 | _,_,n+1,.cons r t=>.cons r (aM.take n t)
theorem aM.drop:∀ {xs:List V}{us:List Value} (n:Nat),aM xs us->aM (xs.drop n) (us.drop n)
 | _,_,0,r=>r
 | _,_,_+1,.nil=>.nil
 | _,_,n+1,.cons _ t=>aM.drop n t
def Bx:Option V->Option Value->Prop
 | some v,some u=>a8 v u
 | none,none=>True
 | _,_=>False
def KV {κ:Type}:List (κ×V)->List (κ×Value)->Prop:=Paired λ (p:κ×V) (q:κ×Value)=>p.1=q.1/\a8 p.2 q.2
def kV:Key->V
 | .inl i=>.int i
 | .inr x=>.str x
inductive HO where
 | lst (xs:List V)
 | tup (xs:List V)
 | dK (kvs:List (Key×V)) | dT (kvs:List (List Key×V))
 | set (S:Int->Bool) (n:Nat)
 | ins (C dx:Addr) (fs:List (Str×V))
 | own (x:Addr)
 | xd (fs:List (Str×V))
 | met (f x:Addr)
 | rng (lo hi:Int)
 | frz (o:Obj) (u:HO)
 | tbl (ps:Array Value)
 | ext (φ:Heap->Prop)
abbrev Hp:=Addr->Option HO
def upd (H:Hp) (a:Addr) (o:HO):Hp:=λ b=>if b=a then some o else H b
theorem ad {H:Hp}{a:Addr}{o:HO}:upd H a o a=some o:=by unfold upd;rw[if_pos rfl]
theorem al {H:Hp}{a b:Addr}{o:HO} (h:b≠a):upd H a o b=H b:=by unfold upd;rw[if_neg h]
theorem gE {H:Hp}{a b:Addr}{o u:HO} (h:H a=some o) (h':H b=some u) (d:o≠u):a≠b:=by
 intro e;subst e;rw[h] at h';exact d (Option.some.inj h')
theorem aC {H:Hp}{a b:Addr}{o:HO} (h:H a=some o) (h':H b=none):a≠b:=by
 intro e;subst e;rw[h] at h';cases h'
section
variable (P:Program) (w:World)
def aN (H:Hp) (h:Heap) (a:Addr):HO->Prop
 | .lst xs=>xs.length<=sizeLine/\∃ (its:List Value) (n:Nat),aM xs its/\h.get? a=some {cls:=.type "list",data:=.seq its.toArray n}
 | .tup xs=>xs.length<=sizeLine/\∃ its:List Value,aM xs its/\IsTup h a its.toArray
 | .dK kvs=>kvs.length<=sizeLine/\(a == sysModules)=false/\∃ vs,KV kvs vs/\h.DictOf (fh P w) a vs
 | .dT kvs=>kvs.length<=sizeLine/\(a == sysModules)=false/\∃ xs:List (List Key×Addr×Value),
   Paired (λ (p:List Key×V) (q:List Key×Addr×Value)=>p.1=q.1/\H q.2.1=some (.tup (p.1.map kV))/\a8 p.2 q.2.2) kvs xs /\
   ∃ o es ep,h.get? a=some o/\o.ExactDict/\o.data=.dict es ep/\es.toList=xs.map (entryOfKey (tupleKind (fh P w)))/\(xs.map (·.1)).Nodup
 | .set S n=>h.SetOf (intKind P w) a S n
 | .ins C dx fs=>H dx=some (.own a)/\fs.length<=1000/\dx≠a/\h.get? a=some (PySem.W.instObj C dx) /\
   ∃ mA,h.Ns1 dx mA/\(∀ f,Bx (fs.lookup f) (mA f))/\PySem.Within mA (fs.map (·.1))
 | .own _=>∃ o,h.get? a=some o
 | .xd fs=>∃ mA,h.Ns1 a mA/\∀ f,Bx (fs.lookup f) (mA f)
 | .rng lo hi=>∃ t u v,h.get? a=some {cls:=.type "range",data:=.fields #[.int lo t,.int hi u,.int 1 v]}
 | .frz o u=>h.get? a=some o/\aN H h a u
 | .tbl ps=>h.get? a=some {cls:=.none,data:=.fields ps}
 | .met f x=>h.get? a=some (PySem.W.methodObj (.ref f) (.ref x))
 | .ext φ=>φ h/\(∃ o,h.get? a=some o)/\∀ h1 h2:Heap,φ h1->(∀ o,h1.get? a=some o->h2.get? a=some o)->φ h2
def HOk (H:Hp) (h:Heap):Prop:=∀ a o,H a=some o->aN P w H h a o
end
section
variable {P:Program}{w:World}{H H':Hp}{h h':Heap}{a:Addr}{o:HO}
theorem aN.lt (x:aN P w H h a o):a<h.objs.size:=by
 cases o with
 | lst xs=>obtain⟨_,_,_,_,e⟩:=x;exact Heap.lt_size e
 | tup xs=>obtain⟨_,_,_,p⟩:=x;exact p.lt
 | dK kvs=>obtain⟨_,_,_,_,o,_,_,e,_⟩:=x;exact Heap.lt_size e
 | dT kvs=>obtain⟨_,_,_,_,o,_,_,e,_⟩:=x;exact Heap.lt_size e
 | set S n=>obtain⟨o,_,_,_,e,_⟩:=x;exact Heap.lt_size e
 | ins C dx fs=>obtain⟨_,_,_,e,_⟩:=x;exact Heap.lt_size e
 | own y=>obtain⟨_,e⟩:=x;exact Heap.lt_size e
 | xd fs=>obtain⟨_,⟨_,_,_,e,_⟩,_⟩:=x;exact Heap.lt_size e
 | rng lo hi=>obtain⟨_,_,_,e⟩:=x;exact Heap.lt_size e
 | frz ob u=>obtain⟨e,_⟩:=x;exact Heap.lt_size e
 | tbl ps=>exact Heap.lt_size (show h.get? a=some _ from x)
 | met f y=>exact Heap.lt_size (show h.get? a=some _ from x)
 | ext φ=>obtain⟨_,⟨_,e⟩,_⟩:=x;exact Heap.lt_size e
theorem Paired.mapP {α β:Type}{F G:α->β->Prop}:∀ {l₁:List α}{l₂:List β},Paired F l₁ l₂->(∀ a b,F a b->G a b)->Paired G l₁ l₂
 | _,_,.nil,_=>.nil
 | _,_,.cons r t,f=>.cons (f _ _ r) (Paired.mapP t f)
theorem aN.stay (x:aN P w H h a o) (k:∀ b u,(b=a∨H b=some (.own a))->h.get? b=some u->h'.get? b=some u)
  (ho:∀ b,H b=some (.own a)->H' b=some (.own a)) (ht:∀ b xs,H b=some (.tup xs)->H' b=some (.tup xs)):aN P w H' h' a o:=by
 induction o with
 | lst xs=>obtain⟨z,its,n,r,e⟩:=x;exact⟨z,its,n,r,k _ _ (.inl rfl) e⟩
 | tup xs=>obtain⟨z,its,r,ob,e,c⟩:=x;exact⟨z,its,r,ob,k _ _ (.inl rfl) e,c⟩
 | dK kvs=>obtain⟨z,y,vs,r,ob,es,ep,e,c⟩:=x;exact⟨z,y,vs,r,ob,es,ep,k _ _ (.inl rfl) e,c⟩
 | dT kvs =>
  obtain⟨z,y,xs,r,ob,es,ep,e,c⟩:=x
  exact⟨z,y,xs,Paired.mapP r λ p q z=>⟨z.1,ht _ _ z.2.1,z.2.2⟩,ob,es,ep,k _ _ (.inl rfl) e,c⟩
 | set S n=>obtain⟨ob,es,ep,t,e,c⟩:=x;exact⟨ob,es,ep,t,k _ _ (.inl rfl) e,c⟩
 | ins C dx fs =>
  obtain⟨d,z,ne,e,mA,⟨od,es,ep,e2,c⟩,r⟩:=x
  exact⟨ho _ d,z,ne,k _ _ (.inl rfl) e,mA,⟨od,es,ep,k _ _ (.inr d) e2,c⟩,r⟩
 | own y=>obtain⟨ob,e⟩:=x;exact⟨ob,k _ _ (.inl rfl) e⟩
 | xd fs=>obtain⟨mA,⟨od,es,ep,e,c⟩,r⟩:=x;exact⟨mA,⟨od,es,ep,k _ _ (.inl rfl) e,c⟩,r⟩
 | rng lo hi=>obtain⟨t,u,v,e⟩:=x;exact⟨t,u,v,k _ _ (.inl rfl) e⟩
 | frz ob u ih=>obtain⟨e,q⟩:=x;exact⟨k _ _ (.inl rfl) e,ih q⟩
 | tbl ps =>
  have e:h.get? a=some {cls:=.none,data:=.fields ps}:=x
  show h'.get? a=some {cls:=.none,data:=.fields ps}
  exact k a _ (.inl rfl) e
 | met f y =>
  have e:h.get? a=some (PySem.W.methodObj (.ref f) (.ref y)):=x
  show h'.get? a=some (PySem.W.methodObj (.ref f) (.ref y))
  exact k a _ (.inl rfl) e
 | ext φ=>obtain⟨p,⟨o,e⟩,st⟩:=x;exact⟨st _ _ p λ o q=>k _ _ (.inl rfl) q,⟨o,k _ _ (.inl rfl) e⟩,st⟩
theorem HOk.lt (x:HOk P w H h) (e:H a=some o):a<h.objs.size:=(x a o e).lt
theorem HOk.fresh (x:HOk P w H h) (e:h.objs.size<=a):H a=none:=by
 cases q:H a with
 | none=>rfl
 | some u=>exact absurd (Nat.lt_of_lt_of_le (x.lt q) e) (Nat.lt_irrefl _)
theorem HOk.kept (x:HOk P w H h) (k:∀ b u,h.get? b=some u->h'.get? b=some u):HOk P w H h':=λ a o e =>
 (x a o e).stay (λ b u _ q=>k b u q) (λ _ q=>q) λ _ _ q=>q
theorem HOk.laid (x:HOk P w H h) (k:∀ b u,h.get? b=some u->h'.get? b=some u) (hp:h.objs.size<=a) (new:aN P w (upd H a o) h' a o):HOk P w (upd H a o) h':=λ b u e=>by
 have hn:=x.fresh hp
 by_cases hb:b=a
 ·subst hb;rw[ad] at e;cases e;exact new
 ·rw[al hb] at e
  exact (x b u e).stay (λ c v _ q=>k c v q) (λ c q=>by rw[al (aC q hn)];exact q) λ c xs q=>by rw[al (aC q hn)];exact q
end
def Rd (H:Hp) (a:Addr) (u:HO):Prop:=H a=some u∨∃ o,H a=some (.frz o u)
theorem Rd.of {H:Hp}{a:Addr}{u:HO} (h:H a=some u):Rd H a u:=.inl h
theorem Rd.ok {P:Program}{w:World}{H:Hp}{h:Heap}{a:Addr}{u:HO} (r:Rd H a u) (x:HOk P w H h):aN P w H h a u:=by
 rcases r with r | ⟨o,r⟩
 ·exact x a u r
 ·obtain⟨_,q⟩:=x a _ r
  exact q
def Mut:Option HO->Prop
 | some (.lst _)=>True
 | some (.dK _)=>True
 | some (.dT _)=>True
 | some (.set _ _)=>True
 | some (.ins _ _ _)=>True
 | some (.ext _)=>True
 | _=>False
section
variable {P:Program}{w:World}{H:Hp}{h h':Heap}{x e:Addr}{o':HO}
theorem HOk.write (ok:HOk P w H h) (mu:Mut (H x)) (he:e=x∨H e=some (.own x)) (k:∀ b u,b≠e->h.get? b=some u->h'.get? b=some u) (heo:∃ u,h'.get? e=some u)
  (new:aN P w (upd H x o') h' x o'):HOk P w (upd H x o') h':=λ b u q=>by
 have nown:∀ c y,H c=some (.own y)->c≠x:=λ c y r z=>by subst z;rw[r] at mu;exact mu
 have ntup:∀ c xs,H c=some (.tup xs)->c≠x:=λ c xs r z=>by subst z;rw[r] at mu;exact mu
 by_cases hb:b=x
 ·subst hb;rw[ad] at q;cases q;exact new
 ·rw[al hb] at q
  by_cases hbe:b=e
  ·have q':H b=some (.own x):=by
    rcases he with z | z
    ·exact absurd (hbe.trans z) hb
    ·rw[hbe];exact z
   rw[q] at q';cases q'
   obtain⟨v,hv⟩:=heo
   exact⟨v,by rw[hbe];exact hv⟩
  ·refine (ok b u q).stay (λ c v hc r=>k c v ?_ r) (λ c r=>by rw[al (nown c b r)];exact r) λ c xs r=>by rw[al (ntup c xs r)];exact r
   rcases hc with rfl | hc
   ·exact hbe
   ·rintro rfl
    rcases he with z | z
    ·exact nown c b hc z
    ·rw[hc] at z;cases z;exact hb rfl
end
structure Un (fs ex:List Addr) (H H':Hp) (h h':Heap):Prop where
 keep:∀ b o,h.get? b=some o->H b=none->b ∉ fs->b ∉ ex->h'.get? b=some o
 slot:∀ b o,h.get? b=some o->H b=none->b∈fs->b ∉ ex->∃ sl,h'.get? b=some {o with slots:=sl}
 free:∀ b o,h.get? b=some o->H b=none->b ∉ ex->H' b=none
 there:∀ b o,h.get? b=some o->b ∉ ex->∃ o',h'.get? b=some o'
 tups:∀ b xs,H b=some (.tup xs)->H' b=some (.tup xs)
 frzs:∀ b o u,H b=some (.frz o u)->H' b=some (.frz o u)
 tbls:∀ b ps,H b=some (.tbl ps)->∃ more,H' b=some (.tbl (ps++more))
section
variable {fs fs' ex ex':List Addr}{H H1 H2:Hp}{h h1 h2 h':Heap}{a x e:Addr}{o:HO}
theorem Un.any (u:Un fs ex H H1 h h1) {b:Addr}{ob:Obj} (q:h.get? b=some ob) (n:H b=none) (hx:b ∉ ex):∃ sl,h1.get? b=some {ob with slots:=sl}:=by
 by_cases hb:b∈fs
 ·exact u.slot b ob q n hb hx
 ·exact⟨ob.slots,u.keep b ob q n hb hx⟩
theorem Un.trans (a:Un fs ex H H1 h h1) (b:Un fs ex H1 H2 h1 h2):Un fs ex H H2 h h2 where
 keep:=λ c ob q n hc hx=>b.keep c ob (a.keep c ob q n hc hx) (a.free c ob q n hx) hc hx
 slot:=λ c ob q n hc hx=>by
  obtain⟨sl,e1⟩:=a.slot c ob q n hc hx
  obtain⟨sl',e2⟩:=b.slot c _ e1 (a.free c ob q n hx) hc hx
  exact⟨sl',e2⟩
 free:=λ c ob q n hx=>by
  obtain⟨o',e1⟩:=a.there c ob q hx
  exact b.free c o' e1 (a.free c ob q n hx) hx
 there:=λ c ob q hx=>by
  obtain⟨o',e1⟩:=a.there c ob q hx
  exact b.there c o' e1 hx
 tups:=λ c xs q=>b.tups c xs (a.tups c xs q)
 frzs:=λ c ob xs q=>b.frzs c ob xs (a.frzs c ob xs q)
 tbls:=λ c ps q=>by
  obtain⟨m1,e1⟩:=a.tbls c ps q
  obtain⟨m2,e2⟩:=b.tbls c _ e1
  exact⟨m1++m2,by rw[e2,Array.append_assoc]⟩
theorem Un.kept (k:∀ b u,h.get? b=some u->h'.get? b=some u):Un fs ex H H h h' :=
 ⟨λ b ob q _ _ _=>k b ob q,λ b ob q _ _ _=>⟨ob.slots,k b ob q⟩,λ _ _ _ n _=>n,λ b ob q _=>⟨ob,k b ob q⟩,λ _ _ q=>q,λ _ _ _ q=>q,λ _ ps q=>⟨#[],by rw[q];simp⟩⟩
theorem Un.refl:Un fs ex H H h h:=Un.kept λ _ _ q=>q
theorem Un.laid (k:∀ b u,h.get? b=some u->h'.get? b=some u) (hp:h.objs.size<=a) (hn:H a=none):Un fs ex H (upd H a o) h h' where
 keep:=λ b u q _ _ _=>k b u q
 slot:=λ b u q _ _ _=>⟨u.slots,k b u q⟩
 free:=λ b u q n _=>by rw[al (Nat.ne_of_lt (Nat.lt_of_lt_of_le (Heap.lt_size q) hp))];exact n
 there:=λ b u q _=>⟨u,k b u q⟩
 tups:=λ b xs q=>by rw[al (aC q hn)];exact q
 frzs:=λ b u xs q=>by rw[al (aC q hn)];exact q
 tbls:=λ b ps q=>⟨#[],by rw[al (aC q hn),q];simp⟩
theorem Un.write (mu:Mut (H x)) (he:e=x∨H e=some (.own x)) (k:∀ b u,b≠e->h.get? b=some u->h'.get? b=some u) (heo:∃ u,h'.get? e=some u):Un fs ex H (upd H x o) h h':=by
 have hx:∀ b,H b=none->b≠x:=λ b n z=>by subst z;rw[n] at mu;exact mu
 have hb:∀ b,H b=none->b≠e:=λ b n z=>by
  subst z
  rcases he with r | r
  ·exact hx b n r
  ·rw[n] at r;cases r
 have hm:∀ b u,H b=some u->¬ Mut (some u)->b≠x:=λ b u q nm z=>by subst z;rw[q] at mu;exact nm mu
 refine⟨λ b u q n _ _=>k b u (hb b n) q,λ b u q n _ _=>⟨u.slots,k b u (hb b n) q⟩,λ b u q n _=>by rw[al (hx b n)];exact n,λ b u q _=>?_,
  λ b xs q=>by rw[al (hm b _ q λ z=>z)];exact q,λ b u xs q=>by rw[al (hm b _ q λ z=>z)];exact q,λ b ps q=>⟨#[],by rw[al (hm b _ q λ z=>z),q];simp⟩⟩
 by_cases hbe:b=e
 ·subst hbe;exact heo
 ·exact⟨u,k b u hbe q⟩
theorem Un.mono (u:Un fs ex H H1 h h1) (hs:∀ b∈fs,b∈fs') (hx:∀ b∈ex,b∈ex'):Un fs' ex' H H1 h h1 :=
 ⟨λ b ob q n hb he=>u.keep b ob q n (λ z=>hb (hs b z)) λ z=>he (hx b z),λ _ _ q n _ he=>u.any q n λ z=>he (hx _ z),λ b ob q n he=>u.free b ob q n λ z=>he (hx b z),λ b ob q he=>u.there b ob q λ z=>he (hx b z),u.tups,u.frzs,u.tbls⟩
end
def trk (h:Heap) (H:Hp):List Addr:=(List.range h.objs.size).filter λ a=>(H a).isSome
def kh (h:Heap) (H:Hp):Heap:=PySem.W.hideAll h (trk h H)
theorem uv (h:Heap) (H:Hp):(kh h H).objs.size=h.objs.size:=PySem.W.hideAll_size _ _
theorem wQ {h:Heap}{H:Hp}{b:Addr}{o:Obj} (e:h.get? b=some o) (n:H b=none):(kh h H).get? b=some o :=
 PySem.W.hideAll_get _ e λ hm=>by
  have q:(H b).isSome=true:=(List.mem_filter.mp hm).2
  rw[n] at q;simp at q
theorem yH {h:Heap}{H:Hp}{b:Addr}{o:Obj} (e:(kh h H).get? b=some o):h.get? b=some o/\H b=none:=by
 have e':h.get? b=some o:=PySem.W.of_hideAll (trk h H) e
 refine⟨e',?_⟩
 cases q:H b with
 | none=>rfl
 | some x =>
  have hm:b∈trk h H:=List.mem_filter.mpr ⟨List.mem_range.mpr (Heap.lt_size e'),by simp [q]⟩
  have z:(kh h H).get? b=none:=PySem.W.hideAll_none (trk h H) hm
  rw[z] at e;cases e
def zw (g h:Heap) (L:Addr):List (Addr×Obj):=(List.range h.objs.size).filterMap λ a=>if a=L∨(g.get? a).isSome=true then none else (h.get? a).map λ o=>(a,o)
def jm (g h:Heap) (L d:Addr):List (Addr×Obj):=(zw g h L).filter λ p=>decide (p.1≠d)
end L2
namespace L2
open PySem PySem.Spec PyProof.Rows
structure Mod (K:PySem.W.Frag) (mg:Str->Option Value) (base:Heap):Prop where
 kin:K.In base
 glob:base.Ns mainGlobals mg
 blt:∃ mb,base.Ns builtinsNs mb/\∀ x:Str,x≠"__name__"->mb x=bootBuiltins x
 nolimit:base.NoLimit
structure Cx where
 prog:Program
 w:World
 K:PySem.W.Frag
 mg:Str->Option Value
 base:Heap
 A:Around
 N:List Str
 s₀:Shared
 H₀:Hp
 env:Env
 outer:List Env
 stack:List Env
 ex:List Addr
 fn:Str->Bool
 calm:Bool
 pn:List (Addr×Obj)
 xe:Value->Shared->Prop
def frs (l:List Env):List Addr:=l.filterMap (·.frame)
abbrev Cx.fs (X:Cx):List Addr:=frs X.outer
def Vis (sc:Scope) (x:Str):Prop:=sc.names.lookup x=some .local∨sc.names.lookup x=some .cell∨sc.names.lookup x=some .free
def Loc (sc:Scope) (x:Str):Prop:=sc.names.lookup x=some .local∨sc.names.lookup x=some .cell
def CZ (env:Env) (h:Heap) (m:Str->Option Value) (x:Str) (u:Value):Prop :=
 (env.kindOf x=some .local/\m x=some u)∨((env.kindOf x=some .cell∨env.kindOf x=some .free)/\∃ c,env.cells.lookup x=some c/\h.IsCell c (some u))
structure Cx.Ok (X:Cx):Prop where
 mod:Mod X.K X.mg X.base
 kind:X.env.scope.kind=.function
 glob:X.env.globals=mainGlobals
 blt:X.env.builtins=builtinsNs
 above:X.s₀.heap.objs.size<=X.env.locals
 inj:∀ x y c,X.env.cells.lookup x=some c->X.env.cells.lookup y=some c->x=y
 has:∀ x,(X.env.kindOf x=some .cell∨X.env.kindOf x=some .free)->∃ c,X.env.cells.lookup x=some c
 cab:∀ x c,X.fn x=true->X.env.cells.lookup x=some c->X.s₀.heap.objs.size<=c
 hd:X.calm=true->X.A.handled=none
 frames:X.A.frames=some X.stack
 stk:X.stack=X.outer∨(X.stack=X.env::X.outer/\X.env.frame=some X.env.locals)
 exf:∀ b∈X.ex,b≠X.env.locals/\∀ x c,X.env.cells.lookup x=some c->c≠b
 bs:∀ b o,X.base.get? b=some o->X.s₀.heap.get? b=some o/\X.H₀ b=none
 bsz:X.base.objs.size<=X.s₀.heap.objs.size
 noex:∀ b o,X.base.get? b=some o->b ∉ X.ex
 exfs:∀ b∈X.ex,b ∉ X.fs
 funs:X.s₀.heap.FunFrames X.base X.outer
 frf:∀ b∈X.fs,X.H₀ b=none
structure Inv (X:Cx) (pins:List (Addr×Obj)) (σ:List (Option V)) (H:Hp) (s:Shared):Prop where
 ok:X.Ok
 os:s.os=X.s₀.os
 bare:AllBare s.gens
 base:Un X.fs X.ex X.H₀ H X.s₀.heap s.heap
 loc:∃ m,s.heap.Ns X.env.locals m/\∀ (i:Nat) (x:Str) (v:V),X.N[i]? = some x->σ[i]? = some (some v)->Vis X.env.scope x->∃ u,a8 v u/\CZ X.env s.heap m x u
 cell:∀ x c,X.env.cells.lookup x=some c->∃ v,s.heap.IsCell c v
 free:H X.env.locals=none
 freeC:∀ x c,X.env.cells.lookup x=some c->H c=none
 pin:∀ p∈X.pn++pins,s.heap.get? p.1=some p.2/\H p.1=none/\p.1≠X.env.locals/\p.1 ∉ X.fs/\∀ v,p.2.data≠.cell v
 hok:HOk X.prog X.w H s.heap
 len:σ.length=X.N.length
section
variable {X:Cx}{pins:List (Addr×Obj)}{σ:List (Option V)}{H H':Hp}{s:Shared}{h':Heap}
theorem Cx.Ok.nofr (ok:X.Ok) {b:Addr}{o:Obj} (e:X.base.get? b=some o):b ∉ X.fs:=λ hb=>by
 have:=(ok.funs.mem hb).1
 rw[e] at this;cases this
theorem Inv.bs (I:Inv X pins σ H s):∀ b o,X.base.get? b=some o->s.heap.get? b=some o/\H b=none:=λ b o e =>
 ⟨I.base.keep b o (I.ok.bs b o e).1 (I.ok.bs b o e).2 (I.ok.nofr e) (I.ok.noex b o e),I.base.free b o (I.ok.bs b o e).1 (I.ok.bs b o e).2 (I.ok.noex b o e)⟩
theorem Inv.bk (I:Inv X pins σ H s):∀ b o,X.base.get? b=some o->s.heap.get? b=some o:=λ b o e=>(I.bs b o e).1
theorem Inv.mod (I:Inv X pins σ H s):Mod X.K X.mg X.base:=I.ok.mod
theorem Inv.kIn (I:Inv X pins σ H s):X.K.In s.heap:=I.ok.mod.kin.keeps I.bk
theorem Inv.nolimit (I:Inv X pins σ H s):s.heap.NoLimit:=I.ok.mod.nolimit.keeps I.bk
theorem Inv.fr (I:Inv X pins σ H s):∃ m,Fr X.base X.env.locals s.heap m :=
 let ⟨m,hn,_⟩:=I.loc
 ⟨m,hn,I.bk,Nat.le_trans I.ok.bsz I.ok.above⟩
theorem Inv.lt (I:Inv X pins σ H s):X.env.locals<s.heap.objs.size:=let ⟨_,hn,_⟩:=I.loc;hn.lt
theorem Inv.sz (I:Inv X pins σ H s):X.s₀.heap.objs.size<=s.heap.objs.size:=Nat.le_trans I.ok.above (Nat.le_of_lt I.lt)
theorem Inv.nofs (I:Inv X pins σ H s) {a:Addr} (h:s.heap.objs.size<=a):a ∉ X.fs:=λ hb=>by
 obtain⟨_,o,ho,_⟩:=I.ok.funs.mem hb
 exact absurd (Nat.lt_of_lt_of_le (Heap.lt_size ho) (Nat.le_trans I.sz h)) (Nat.lt_irrefl _)
theorem Inv.cne (I:Inv X pins σ H s):∀ x c,X.env.cells.lookup x=some c->c≠X.env.locals:=λ x c e z=>by
 obtain⟨v,o,ho,hd⟩:=I.cell x c e
 obtain⟨m,⟨o',es,ep,ho',hd',_⟩,_⟩:=I.loc
 rw[z,ho'] at ho;cases ho;rw[hd'] at hd;cases hd
theorem Inv.funs (I:Inv X pins σ H s):s.heap.FunFrames X.base X.outer:=by
 have all:∀ (l:List Env),(∀ b∈frs l,b∈X.fs)->X.s₀.heap.FunFrames X.base l->s.heap.FunFrames X.base l:=by
  intro l
  induction l with
  | nil=>intro _ _;trivial
  | cons env r ih =>
   intro hs hl
   obtain⟨hk,⟨L,o,hf,hn,ho,hd⟩,hr⟩:=hl
   have hL:L∈X.fs:=hs L (by unfold frs;rw[List.filterMap_cons,hf];exact List.mem_cons_self)
   obtain⟨sl,e⟩:=I.base.slot L o ho (I.ok.frf L hL) hL λ z=>I.ok.exfs L z hL
   exact⟨hk,⟨L,_,hf,hn,e,hd⟩,ih (λ b hb=>hs b (by unfold frs;rw[List.filterMap_cons,hf];exact List.mem_cons_of_mem _ hb)) hr⟩
 exact all X.outer (λ _ hb=>hb) I.ok.funs
theorem Inv.stack (I:Inv X pins σ H s):s.heap.FunFrames X.base X.stack:=by
 rcases I.ok.stk with e | ⟨e,hf⟩
 ·rw[e];exact I.funs
 ·rw[e]
  obtain⟨m,hn,_⟩:=I.loc
  refine .cons (by rw[I.ok.kind];decide) hf hn ?_ I.funs
  exact Heap.get?_none_of_le (Nat.le_trans I.ok.bsz I.ok.above)
theorem Inv.stkSub (I:Inv X pins σ H s):∀ b∈frs X.stack,b∈X.env.locals::X.fs:=λ b hb=>by
 rcases I.ok.stk with e | ⟨e,hf⟩
 ·rw[e] at hb;exact List.mem_cons_of_mem _ hb
 ·rw[e] at hb
  unfold frs at hb
  rw[List.filterMap_cons,hf] at hb
  exact hb
theorem Inv.stkFree (I:Inv X pins σ H s):∀ b∈frs X.stack,H b=none:=λ b hb=>by
 rcases List.mem_cons.mp (I.stkSub b hb) with e | hb
 ·rw[e];exact I.free
 ·obtain⟨_,o,ho,_⟩:=I.ok.funs.mem hb
  exact I.base.free b o ho (I.ok.frf b hb) λ z=>I.ok.exfs b z hb
theorem Inv.step {g':Array GenState}{t':Nat}{d':Drawn}{ch:List Addr} (I:Inv X pins σ H s)
  (hch:∀ b∈ch,(b∈X.ex∨X.s₀.heap.objs.size<=b)/\b≠X.env.locals/\(∀ x c,X.env.cells.lookup x=some c->c≠b)/\∀ p∈X.pn++pins,p.1≠b)
  (keep:∀ b o,b≠X.env.locals->b ∉ X.fs->b ∉ ch->s.heap.get? b=some o->H b=none->h'.get? b=some o)
  (slot:∀ b o,b≠X.env.locals->b∈X.fs->b ∉ ch->s.heap.get? b=some o->H b=none->∃ sl,h'.get? b=some {o with slots:=sl}) (free:∀ b o,b ∉ ch->s.heap.get? b=some o->H b=none->H' b=none)
  (there:∀ b o,b ∉ ch->s.heap.get? b=some o->∃ o',h'.get? b=some o')
  (tups:∀ b xs,H b=some (.tup xs)->H' b=some (.tup xs)) (frzs:∀ b o u,H b=some (.frz o u)->H' b=some (.frz o u)) (tbls:∀ b ps,H b=some (.tbl ps)->∃ more,H' b=some (.tbl (ps++more)))
  (ns:∀ m,s.heap.Ns X.env.locals m->h'.Ns X.env.locals m) (hok:HOk X.prog X.w H' h') (hg:AllBare g') :
  Inv X pins σ H' {s with heap:=h',gens:=g',drawn:=d',toks:=t'}:=by
 have neL:∀ b o,X.s₀.heap.get? b=some o->b≠X.env.locals:=λ b o e=>Nat.ne_of_lt (Nat.lt_of_lt_of_le (Heap.lt_size e) I.ok.above)
 have neC:∀ b o,X.s₀.heap.get? b=some o->b ∉ X.ex->b ∉ ch:=λ b o e hx hb=>by
  rcases (hch b hb).1 with z | z
  ·exact hx z
  ·exact absurd (Nat.lt_of_lt_of_le (Heap.lt_size e) z) (Nat.lt_irrefl _)
 have cellK:∀ x c,X.env.cells.lookup x=some c->∀ v,s.heap.IsCell c v->h'.IsCell c v:=λ x c e v ⟨o,ho,hd⟩=>by
  have nch:c ∉ ch:=λ z=>(hch c z).2.2.1 x c e rfl
  by_cases hc:c∈X.fs
  ·obtain⟨sl,q⟩:=slot c o (I.cne x c e) hc nch ho (I.freeC x c e)
   exact⟨_,q,hd⟩
  ·exact⟨o,keep c o (I.cne x c e) hc nch ho (I.freeC x c e),hd⟩
 refine⟨I.ok,I.os,hg,⟨λ b o e n hb hx=>?_,λ b o e n hb hx=>?_,λ b o e n hx=>?_,λ b o e hx=>?_,λ b xs e=>tups b xs (I.base.tups b xs e),λ b o xs e=>frzs b o xs (I.base.frzs b o xs e),λ b ps e=>?_⟩,?_,λ x c e=>?_,?_,λ x c e=>?_,λ p hp=>?_,hok,I.len⟩
 ·exact keep b o (neL b o e) hb (neC b o e hx) (I.base.keep b o e n hb hx) (I.base.free b o e n hx)
 ·obtain⟨sl,e1⟩:=I.base.slot b o e n hb hx
  obtain⟨sl',e2⟩:=slot b _ (neL b o e) hb (neC b o e hx) e1 (I.base.free b o e n hx)
  exact⟨sl',e2⟩
 ·obtain⟨o',e1⟩:=I.base.there b o e hx
  exact free b o' (neC b o e hx) e1 (I.base.free b o e n hx)
 ·obtain⟨o',e1⟩:=I.base.there b o e hx
  exact there b o' (neC b o e hx) e1
 ·obtain⟨m1,e1⟩:=I.base.tbls b ps e
  obtain⟨m2,e2⟩:=tbls b _ e1
  exact⟨m1++m2,by rw[e2,Array.append_assoc]⟩
 ·obtain⟨m,hn,hl⟩:=I.loc
  refine⟨m,ns m hn,λ i x v e1 e2 e3=>?_⟩
  obtain⟨u,r,l⟩:=hl i x v e1 e2 e3
  refine⟨u,r,?_⟩
  rcases l with l | ⟨k,c,e,z⟩
  ·exact .inl l
  ·exact .inr ⟨k,c,e,cellK x c e _ z⟩
 ·obtain⟨v,z⟩:=I.cell x c e
  exact⟨v,cellK x c e v z⟩
 ·obtain⟨m,⟨o,_,_,ho,_⟩,_⟩:=I.loc
  exact free _ o (λ z=>(hch _ z).2.1 rfl) ho I.free
 ·obtain⟨v,o,ho,hd⟩:=I.cell x c e
  exact free c o (λ z=>(hch c z).2.2.1 x c e rfl) ho (I.freeC x c e)
 ·obtain⟨e,n,ne,nf,d⟩:=I.pin p hp
  have nch:p.1 ∉ ch:=λ z=>(hch p.1 z).2.2.2 p hp rfl
  exact⟨keep p.1 p.2 ne nf nch e n,free p.1 p.2 nch e n,ne,nf,d⟩
theorem Inv.un {t':Nat} (I:Inv X pins σ H s) (u:Un X.fs [] H H' s.heap h') (hok:HOk X.prog X.w H' h'):Inv X pins σ H' {s with heap:=h',toks:=t'}:=by
 obtain⟨m,⟨o,es,ep,ho,r⟩,_⟩:=id I.loc
 obtain⟨sl,hL⟩:=u.any ho I.free (by simp)
 exact I.step (g':=s.gens) (d':=s.drawn) (ch:=[]) (λ _ z=>nomatch z) (λ b o _ hb _ e n=>u.keep b o e n hb (by simp)) (λ b o _ hb _ e n=>u.slot b o e n hb (by simp)) (λ b o _ e n=>u.free b o e n (by simp)) (λ b o _ e=>u.there b o e (by simp)) u.tups u.frzs u.tbls (λ m' hm=>by
  obtain⟨o',es',ep',ho',r'⟩:=hm
  rw[ho] at ho';cases ho'
  exact⟨_,es',ep',hL,r'⟩) hok I.bare
theorem Inv.call {g':Array GenState}{t':Nat}{d':Drawn}{ch:List Addr} (I:Inv X pins σ H s) (u:Un (frs X.stack) ch H H' s.heap h') (hok:HOk X.prog X.w H' h') (hg:AllBare g')
  (hch:∀ b∈ch,(b∈X.ex∨X.s₀.heap.objs.size<=b)/\b≠X.env.locals/\(∀ x c,X.env.cells.lookup x=some c->c≠b)/\∀ p∈X.pn++pins,p.1≠b) :
  Inv X pins σ H' {s with heap:=h',gens:=g',drawn:=d',toks:=t'}:=by
 obtain⟨m,⟨o,es,ep,ho,r⟩,_⟩:=id I.loc
 obtain⟨sl,hL⟩:=u.any ho I.free λ z=>(hch _ z).2.1 rfl
 exact I.step (ch:=ch) hch (λ b o hL hb hc e n=>u.keep b o e n (λ z=>(List.mem_cons.mp (I.stkSub b z)).elim hL hb) hc) (λ b o _ _ hc e n=>u.any e n hc) (λ b o hc e n=>u.free b o e n hc) (λ b o hc e=>u.there b o e hc) u.tups u.frzs u.tbls (λ m' hm=>by
  obtain⟨o',es',ep',ho',r'⟩:=hm
  rw[ho] at ho';cases ho'
  exact⟨_,es',ep',hL,r'⟩) hok hg
theorem Inv.turned {t':Nat}{it:Addr} (I:Inv X pins σ H s) (k:∀ b o,b≠it->s.heap.get? b=some o->h'.get? b=some o) (hn:H it=none) (hL:it≠X.env.locals)
  (h1:it∈X.ex∨X.s₀.heap.objs.size<=it) (h2:∀ x c,X.env.cells.lookup x=some c->c≠it) (h3:∀ p∈X.pn++pins,p.1≠it):Inv X pins σ H {s with heap:=h',toks:=t'}:=by
 have nit:∀ b u,H b=some u->b≠it:=λ b u e z=>by rw[z,hn] at e;cases e
 refine I.step (g':=s.gens) (d':=s.drawn) (ch:=[it]) (λ b hb=>?_) (λ b o _ _ hc e _=>k b o (λ z=>hc (by simp [z])) e) (λ b o _ _ hc e _=>⟨o.slots,k b o (λ z=>hc (by simp [z])) e⟩) (λ _ _ _ _ n=>n)
  (λ b o hc e=>⟨o,k b o (λ z=>hc (by simp [z])) e⟩) (λ _ _ e=>e) (λ _ _ _ e=>e) (λ b ps e=>⟨#[],by rw[e];simp⟩) (λ m hm=>?_) (λ b u e=>?_) I.bare
 ·have e:b=it:=by simpa using hb
  subst e
  exact⟨h1,hL,h2,h3⟩
 ·obtain⟨o,es,ep,ho,r⟩:=hm
  exact⟨o,es,ep,k _ o (Ne.symm hL) ho,r⟩
 ·refine (I.hok b u e).stay (λ c v hc q=>k c v ?_ q) (λ _ q=>q) λ _ _ q=>q
  rcases hc with z | z
  ·rw[z];exact nit b u e
  ·exact nit c _ z
theorem Inv.tok (I:Inv X pins σ H s) (t:Nat):Inv X pins σ H {s with toks:=t}:=I.un (h':=s.heap) (t':=t) Un.refl I.hok
theorem Inv.kept {t':Nat} (I:Inv X pins σ H s) (k:∀ b u,s.heap.get? b=some u->h'.get? b=some u):Inv X pins σ H {s with heap:=h',toks:=t'}:=I.un (Un.kept k) (I.hok.kept k)
theorem Inv.laid {a:Addr}{o:HO}{t':Nat} (I:Inv X pins σ H s) (k:∀ b u,s.heap.get? b=some u->h'.get? b=some u) (hp:s.heap.objs.size<=a) (new:aN X.prog X.w (upd H a o) h' a o) :
  Inv X pins σ (upd H a o) {s with heap:=h',toks:=t'}:=I.un (Un.laid k hp (I.hok.fresh hp)) (I.hok.laid k hp new)
theorem Inv.write {x e:Addr}{o:HO}{t':Nat} (I:Inv X pins σ H s) (mu:Mut (H x)) (he:e=x∨H e=some (.own x)) (k:∀ b u,b≠e->s.heap.get? b=some u->h'.get? b=some u) (heo:∃ u,h'.get? e=some u)
  (new:aN X.prog X.w (upd H x o) h' x o):Inv X pins σ (upd H x o) {s with heap:=h',toks:=t'}:=I.un (Un.write mu he k heo) (I.hok.write mu he k heo new)
theorem Inv.pins_of {pins':List (Addr×Obj)} (I:Inv X pins σ H s) (h:∀ p∈pins',s.heap.get? p.1=some p.2/\H p.1=none/\p.1≠X.env.locals/\p.1 ∉ X.fs/\∀ v,p.2.data≠.cell v):Inv X pins' σ H s :=
 ⟨I.ok,I.os,I.bare,I.base,I.loc,I.cell,I.free,I.freeC,λ p hp=>(List.mem_append.mp hp).elim (λ z=>I.pin p (List.mem_append_left _ z)) (h p),I.hok,I.len⟩
theorem oX {N:List Str} (hN:N.Nodup) {i j:Nat}{x:Str} (a:N[i]? = some x) (b:N[j]? = some x):i=j:=by
 obtain⟨h1,e1⟩:=List.getElem?_eq_some_iff.mp a
 obtain⟨h2,e2⟩:=List.getElem?_eq_some_iff.mp b
 exact (List.getElem_inj hN).mp (e1.trans e2.symm)
theorem tG {M:Model}{A:Around}{E:Value->Shared->Prop}{i:Nat}{x:Str}{v:V}{u:Value}{Q:Unit->Shared->Prop} (I:Inv X pins σ H s) (hN:X.N.Nodup) (hi:X.N[i]? = some x) (hx:Loc X.env.scope x) (r:a8 v u)
  (h:∀ s',Inv X pins (σ.set i (some v)) H s'->(∃ a,Heap.SameBut a s.heap s'.heap/\(a=X.env.locals∨X.env.cells.lookup x=some a))->Q () s') (hf:X.fn x=true∨X.env.scope.names.lookup x=some .local:=by first | exact .inl rfl | exact .inr rfl | assumption):wpAny M A (storeName X.env x u) Q E s:=by
 obtain⟨m,hn,hl⟩:=id I.loc
 have hcls:(X.env.scope.kind == .class || (X.env.scope.kind == .module && X.env.locals != X.env.globals))=false:=by rw[I.ok.kind];rfl
 have hiσ:i < σ.length:=by rw[I.len];exact (List.getElem?_eq_some_iff.mp hi).1
 have cne:=I.cne
 have tracked:∀ {a:Addr}{h':Heap},(∃ o,s.heap.get? a=some o/\H a=none)->Heap.SameBut a s.heap h'->HOk X.prog X.w H h':=λ {a h'} ha hs b ob e=>by
  obtain⟨_,_,hfree⟩:=ha
  refine (I.hok b ob e).stay (λ c w' hc q=>(hs.2 c ?_).trans q) (λ _ q=>q) λ _ _ q=>q
  rintro rfl
  rcases hc with rfl | hc
  ·rw[hfree] at e;cases e
  ·rw[hfree] at hc;cases hc
 rcases hx with hk | hk
 ·refine wpAny_storeName_local hk hn (λ h' hn' hs=>?_) hcls
  obtain⟨oL,_,_,hoL,_⟩:=id hn
  refine h _ ⟨I.ok,I.os,I.bare,⟨λ b o e n hb hx=>?_,λ b o e n hb hx=>?_,I.base.free,λ b o e hx=>?_,I.base.tups,I.base.frzs,I.base.tbls⟩,⟨_,hn',λ j y v' e1 e2 e3=>?_⟩,λ y c e=>?_,I.free,I.freeC,λ p hp=>?_,tracked ⟨oL,hoL,I.free⟩ hs,by simpa using I.len⟩ ⟨_,hs,.inl rfl⟩
  ·exact (hs.2 b (Nat.ne_of_lt (Nat.lt_of_lt_of_le (Heap.lt_size e) I.ok.above))).trans (I.base.keep b o e n hb hx)
  ·obtain⟨sl,e1⟩:=I.base.slot b o e n hb hx
   exact⟨sl,(hs.2 b (Nat.ne_of_lt (Nat.lt_of_lt_of_le (Heap.lt_size e) I.ok.above))).trans e1⟩
  ·obtain⟨o',e1⟩:=I.base.there b o e hx
   exact⟨o',(hs.2 b (Nat.ne_of_lt (Nat.lt_of_lt_of_le (Heap.lt_size e) I.ok.above))).trans e1⟩
  ·by_cases hj:j=i
   ·subst hj
    rw[hi] at e1;cases e1
    rw[List.getElem?_set_self hiσ] at e2
    cases e2
    exact⟨u,r,.inl ⟨hk,by simp⟩⟩
   ·rw[List.getElem?_set_ne (Ne.symm hj)] at e2
    obtain⟨u',r',q⟩:=hl j y v' e1 e2 e3
    refine⟨u',r',?_⟩
    rcases q with ⟨k,e⟩ | ⟨k,c,e,z⟩
    ·refine .inl ⟨k,?_⟩
     have:y≠x:=λ e=>hj (oX hN e1 (e ▸ hi))
     simp [this,e]
    ·exact .inr ⟨k,c,e,z.sameBut hs (cne y c e)⟩
  ·obtain⟨w',z⟩:=I.cell y c e
   exact⟨w',z.sameBut hs (cne y c e)⟩
  ·obtain⟨e,n,ne,nf,d⟩:=I.pin p hp
   exact⟨(hs.2 p.1 ne).trans e,n,ne,nf,d⟩
 ·have hfn:X.fn x=true:=by
   rcases hf with z | z
   ·exact z
   ·rw[z] at hk;cases hk
  obtain⟨c,hc⟩:=I.ok.has x (.inl hk)
  obtain⟨w',z⟩:=I.cell x c hc
  refine wpAny_storeName_cell I.ok.kind hk hc z (λ h' hc' hs=>?_)
  obtain⟨oc,hoc,hocd⟩:=id z
  refine h {s with heap:=h'} ⟨I.ok,I.os,I.bare,⟨λ b o e n hb hx=>?_,λ b o e n hb hx=>?_,I.base.free,λ b o e hx=>?_,I.base.tups,I.base.frzs,I.base.tbls⟩,⟨m,hn.sameBut hs (Ne.symm (cne x c hc)),λ j y v' e1 e2 e3=>?_⟩,λ y c' e=>?_,I.free,I.freeC,λ p hp=>?_,tracked ⟨oc,hoc,I.freeC x c hc⟩ hs,by simpa using I.len⟩ ⟨c,hs,.inr hc⟩
  ·exact (hs.2 b (Nat.ne_of_lt (Nat.lt_of_lt_of_le (Heap.lt_size e) (I.ok.cab x c hfn hc)))).trans (I.base.keep b o e n hb hx)
  ·obtain⟨sl,e1⟩:=I.base.slot b o e n hb hx
   exact⟨sl,(hs.2 b (Nat.ne_of_lt (Nat.lt_of_lt_of_le (Heap.lt_size e) (I.ok.cab x c hfn hc)))).trans e1⟩
  ·obtain⟨o',e1⟩:=I.base.there b o e hx
   exact⟨o',(hs.2 b (Nat.ne_of_lt (Nat.lt_of_lt_of_le (Heap.lt_size e) (I.ok.cab x c hfn hc)))).trans e1⟩
  ·by_cases hj:j=i
   ·subst hj
    rw[hi] at e1;cases e1
    rw[List.getElem?_set_self hiσ] at e2
    cases e2
    exact⟨u,r,.inr ⟨.inl hk,c,hc,hc'⟩⟩
   ·rw[List.getElem?_set_ne (Ne.symm hj)] at e2
    obtain⟨u',r',q⟩:=hl j y v' e1 e2 e3
    refine⟨u',r',?_⟩
    rcases q with q | ⟨k,c',e,z'⟩
    ·exact .inl q
    ·refine .inr ⟨k,c',e,z'.sameBut hs ?_⟩
     rintro rfl
     exact hj (oX hN e1 (I.ok.inj _ _ _ e hc ▸ hi))
  ·by_cases hcc:c'=c
   ·subst hcc;exact⟨_,hc'⟩
   ·obtain⟨w2,z2⟩:=I.cell y c' e
    exact⟨w2,z2.sameBut hs hcc⟩
  ·obtain⟨e,n,ne,nf,d⟩:=I.pin p hp
   refine⟨(hs.2 p.1 ?_).trans e,n,ne,nf,d⟩
   intro q
   rw[q,hoc] at e
   have q':oc=p.2:=Option.some.inj e
   exact d w' (by rw[<-q'];exact hocd)
theorem jB {M:Model}{A:Around}{E:Value->Shared->Prop}{i:Nat}{x:Str}{v:V}{u:Value}{Q:Unit->Shared->Prop} (I:Inv X pins σ H s) (hN:X.N.Nodup) (hi:X.N[i]? = some x) (hx:Loc X.env.scope x) (r:a8 v u)
  (h:∀ s',Inv X pins (σ.set i (some v)) H s'->Q () s') (hf:X.fn x=true∨X.env.scope.names.lookup x=some .local:=by first | exact .inl rfl | exact .inr rfl | assumption):wpAny M A (storeName X.env x u) Q E s :=
 tG I hN hi hx r (λ s' I' _=>h s' I') hf
theorem Inv.call' {s':Shared}{ch:List Addr} (I:Inv X pins σ H s) (ho:s'.os=s.os) (u:Un (frs X.stack) ch H H' s.heap s'.heap) (hok:HOk X.prog X.w H' s'.heap) (hg:AllBare s'.gens)
  (hch:∀ b∈ch,(b∈X.ex∨X.s₀.heap.objs.size<=b)/\b≠X.env.locals/\(∀ x c,X.env.cells.lookup x=some c->c≠b)/\∀ p∈X.pn++pins,p.1≠b):Inv X pins σ H' s':=by
 obtain⟨h',g',d',t',o'⟩:=s'
 have e:o'=s.os:=ho
 subst e
 exact I.call (g':=g') (t':=t') (d':=d') u hok hg hch
end
abbrev XK:=Value->Option Addr->Hp->Prop
abbrev St:=List (Option V)
abbrev VK:=V->Hp->Prop
abbrev TE:=St->Hp->VK->Prop
abbrev TT:=St->Hp->(Bool->Hp->Prop)->Prop
abbrev TA:=St->Hp->(List V->Hp->Prop)->Prop
structure gC where
 nx:St->Hp->Prop
 rt:VK
 bk:St->Hp->Prop:=λ _ _=>False
 ct:St->Hp->Prop:=λ _ _=>False
abbrev TS:=gC->St->Hp->Prop
def EP (X:Cx) (pins:List (Addr×Obj)) (σ:St) (Q:VK) (u:Value) (s':Shared):Prop:=∃ v H',Inv X pins σ H' s'/\a8 v u/\Q v H'
def TP (X:Cx) (pins:List (Addr×Obj)) (σ:St) (Q:Bool->Hp->Prop) (b:Bool) (s':Shared):Prop:=∃ H',Inv X pins σ H' s'/\Q b H'
def AP (X:Cx) (pins:List (Addr×Obj)) (σ:St) (Q:List V->Hp->Prop) (us:List Value) (s':Shared):Prop:=∃ vs H',Inv X pins σ H' s'/\aM vs us/\Q vs H'
def SP (X:Cx) (pins:List (Addr×Obj)) (D:gC) (f:Flow) (s':Shared):Prop :=
 match f with
 | .next=>∃ σ' H',Inv X pins σ' H' s'/\D.nx σ' H'
 | .brk=>∃ σ' H',Inv X pins σ' H' s'/\D.bk σ' H'
 | .cont=>∃ σ' H',Inv X pins σ' H' s'/\D.ct σ' H'
 | .ret u=>∃ v σ' H',Inv X pins σ' H' s'/\a8 v u/\D.rt v H'
def PE (X:Cx) (e:Expr) (t:TE):Prop :=
 ∀ (pins:List (Addr×Obj)) (s:Shared) (σ:St) (H:Hp) (Q:VK),Inv X pins σ H s->t σ H Q->wpAny (model X.prog X.w) X.A (eval e X.env) (EP X pins σ Q) X.xe s
def PT (X:Cx) (e:Expr) (t:TT):Prop :=
 ∀ (pins:List (Addr×Obj)) (s:Shared) (σ:St) (H:Hp) (Q:Bool->Hp->Prop),Inv X pins σ H s->t σ H Q->wpAny (model X.prog X.w) X.A (isTrue e X.env (eval e X.env)) (TP X pins σ Q) X.xe s
def PW (X:Cx) (e:Expr) (t:TT):Prop :=
 ∀ (whole:Sem Value) (pins:List (Addr×Obj)) (s:Shared) (σ:St) (H:Hp) (Q:Bool->Hp->Prop),Inv X pins σ H s->t σ H Q->wpAny (model X.prog X.w) X.A (isTrue e X.env whole) (TP X pins σ Q) X.xe s
theorem PW.pt {X:Cx}{e:Expr}{t:TT} (h:PW X e t):PT X e t:=h _
def PA (X:Cx) (es:List Expr) (t:TA):Prop :=
 ∀ (pos:Pos) (pins:List (Addr×Obj)) (s:Shared) (σ:St) (H:Hp) (Q:List V->Hp->Prop),Inv X pins σ H s->t σ H Q->wpAny (model X.prog X.w) X.A (spliced (backTo pos (starEach es X.env))) (AP X pins σ Q) X.xe s
def PS (X:Cx) (st:Stmt) (t:TS):Prop :=
 ∀ (pins:List (Addr×Obj)) (s:Shared) (σ:St) (H:Hp) (D:gC),Inv X pins σ H s->t D σ H->wpAny (model X.prog X.w) X.A (exec st X.env) (SP X pins D) X.xe s
def PSs (X:Cx) (st:List Stmt) (t:TS):Prop :=
 ∀ (pins:List (Addr×Obj)) (s:Shared) (σ:St) (H:Hp) (D:gC),Inv X pins σ H s->t D σ H->wpAny (model X.prog X.w) X.A (execs st X.env) (SP X pins D) X.xe s
theorem thn {α:Type}{t:Sem α}{Q Q':α->Shared->Prop}{M:Model}{A:Around}{E:Value->Shared->Prop}{s:Shared} (h:wpAny M A t Q E s) (hQ:∀ a s,Q a s->Q' a s):wpAny M A t Q' E s:=wpAny_mono h hQ λ _ _ x=>x
end L2
namespace L2
open PySem PySem.Spec PyProof.Rows
section
variable {X:Cx}
def pT (i:Nat):TE:=λ σ H Q=>∃ v,σ[i]? = some (some v)/\Q v H
def tC (v:V):TE:=λ _ H Q=>Q v H
theorem AF {i:Nat}{x:Str}{pos:Pos} (hN:X.N[i]? = some x) (hv:Vis X.env.scope x) (hd:(x == ("__debug__":Str))=false:=by decide) (hcd:(x == ("__classdict__":Str))=false:=by decide):PE X (.Name x pos) (pT i):=by
 intro pins s σ H Q I h
 obtain⟨v,e,h⟩:=h
 obtain⟨m,hn,hl⟩:=I.loc
 obtain⟨u,r,l⟩:=hl i x v hN e hv
 have fin:EP X pins σ Q u s:=⟨v,H,I,r,h⟩
 rcases l with ⟨hk,hm⟩ | ⟨hk,c,hc,hcell⟩
 ·exact wpAny_Name (wpAny_loadName_local I.ok.kind hk hn hm fin) hd
 ·rcases hk with hk | hk
  ·exact wpAny_Name (wpAny_loadName_cell I.ok.kind hk hc hcell fin) hd
  ·exact wpAny_Name (wpAny_loadName_free I.ok.kind hk hc hcell fin hcd) hd
theorem ae {i j pos}:PE X (.Constant (.int i) j pos) (tC (.int i)):=λ _ _ _ H _ I h=>wpAny_Constant_int ⟨.int i,H,I.tok _,⟨_,rfl⟩,h⟩
theorem eJ {b j pos}:PE X (.Constant (.bool b) j pos) (tC (.bl b)):=λ _ _ _ H _ I h=>Constant_bool ⟨.bl b,H,I,rfl,h⟩
theorem d9 {j pos}:PE X (.Constant .none j pos) (tC .non):=λ _ _ _ H _ I h=>Constant_none ⟨.non,H,I,rfl,h⟩
theorem bS {x j pos}:PE X (.Constant (.str x) j pos) (tC (.str x)):=λ _ _ _ H _ I h=>Calls.Constant_str ⟨.str x,H,I.tok _,⟨_,rfl⟩,h⟩
def Gl (X:Cx) (x:Str):Prop:=X.env.kindOf x=some .globalImplicit
theorem hZ {E:Value->Shared->Prop}{pins:List (Addr×Obj)}{s:Shared}{σ:St}{H:Hp}{x:Str}{u:Value}{pos:Pos}{Q:Value->Shared->Prop} (I:Inv X pins σ H s) (hg:Gl X x) (hm:X.mg x=some u) (h:Q u s)
  (hd:(x == ("__debug__":Str))=false:=by decide):wpAny (model X.prog X.w) X.A (eval (.Name x pos) X.env) Q E s :=
 Calls.Name_function_global I.ok.kind hg (Calls.loadGlobal_global (by rw[I.ok.glob];exact I.mod.glob.keeps I.bk) hm h) hd
theorem fi {E:Value->Shared->Prop}{pins:List (Addr×Obj)}{s:Shared}{σ:St}{H:Hp}{x:Str}{u:Value}{pos:Pos}{Q:Value->Shared->Prop} (I:Inv X pins σ H s) (hg:Gl X x) (hm:X.mg x=none) (hv:bootBuiltins x=some u) (h:Q u s)
  (hn:x≠"__name__":=by decide) (hd:(x == ("__debug__":Str))=false:=by decide):wpAny (model X.prog X.w) X.A (eval (.Name x pos) X.env) Q E s:=by
 obtain⟨mb,h1,h2⟩:=I.mod.blt
 exact Calls.Name_function_global I.ok.kind hg (Calls.loadGlobal_builtin (by rw[I.ok.glob];exact I.mod.glob.keeps I.bk) hm (by rw[I.ok.blt];exact h1.keeps I.bk) ((h2 x hn).trans hv) h) hd
theorem hV {x:Str}{v:V}{u:Value}{pos:Pos} (hg:Gl X x) (hm:X.mg x=none) (hv:bootBuiltins x=some u) (r:a8 v u) (hn:x≠"__name__":=by decide) (hd:(x == ("__debug__":Str))=false:=by decide):PE X (.Name x pos) (tC v) :=
 λ _ _ _ H _ I h=>fi I hg hm hv ⟨v,H,I,r,h⟩ hn hd
variable {a b:Expr}{ta tb:TE}{pos:Pos}
def tB (t:TE):TT:=λ σ H Q=>t σ H λ x H1=>∃ c,x=.bl c/\Q c H1
theorem a9 {e:Expr}{t:TE} (h:PE X e t) (he:∀ whole,isTrue e X.env whole=(do let v <-whole;standAt e.pos;holding [v] (truthy v)):=by intro _;rfl):PT X e (tB t):=by
 intro pins s σ H Q I hw
 refine isTrue_plain (thn (h pins s σ H _ I hw) λ v s1 ⟨x,H1,I1,r1,q1⟩=>?_) (he _)
 obtain⟨d,rfl,q⟩:=q1
 cases r1
 exact wpAny_truthy_bool ⟨H1,I1,q⟩
variable {tA tB':TT}{jm:List Expr}
def CH (t u:TT):TT:=λ σ H Q=>t σ H λ c H1=>if c=true then u σ H1 Q else Q false H1
def tOr (t u:TT):TT:=λ σ H Q=>t σ H λ c H1=>if c=true then Q true H1 else u σ H1 Q
def Cz (t:TT):TT:=λ σ H Q=>t σ H λ c H1=>Q (!c) H1
theorem mY (ha:PT X a tA):PW X (.BoolOp .And [a] pos) tA:=by
 intro wh pins s σ H Q I h
 refine isTrue_and (thn (ha pins s σ H Q I h) λ c s1 e=>?_)
 cases c with
 | true=>exact isTrue_and_nil e
 | false=>exact e
theorem cy (ha:PT X a tA):PW X (.BoolOp .Or [a] pos) tA:=by
 intro wh pins s σ H Q I h
 refine isTrue_or (thn (ha pins s σ H Q I h) λ c s1 e=>?_)
 cases c with
 | false=>exact isTrue_or_nil e
 | true=>exact e
theorem qf (ha:PT X a tA) (hb:PW X (.BoolOp .And (b::jm) pos) tB'):PW X (.BoolOp .And (a::b::jm) pos) (CH tA tB'):=by
 intro wh pins s σ H Q I h
 refine isTrue_and (thn (ha pins s σ H _ I h) λ c s1 ⟨H1,I1,q1⟩=>?_)
 cases c with
 | true=>exact hb wh pins s1 σ H1 Q I1 q1
 | false=>exact⟨H1,I1,q1⟩
theorem cE (ha:PT X a tA) (hb:PW X (.BoolOp .Or (b::jm) pos) tB'):PW X (.BoolOp .Or (a::b::jm) pos) (tOr tA tB'):=by
 intro wh pins s σ H Q I h
 refine isTrue_or (thn (ha pins s σ H _ I h) λ c s1 ⟨H1,I1,q1⟩=>?_)
 cases c with
 | true=>exact⟨H1,I1,q1⟩
 | false=>exact hb wh pins s1 σ H1 Q I1 q1
theorem bK (ha:PT X a tA):PT X (.UnaryOp .Not a pos) (Cz tA):=by
 intro pins s σ H Q I h
 exact isTrue_not (ha pins s σ H (λ c H1=>Q (!c) H1) I h)
def BM (ta tb:TE):TE:=λ σ H Q=>ta σ H λ x H1=>∃ c,x=.bl c/\if c=true then tb σ H1 Q else Q (.bl false) H1
def BF (ta:TE):TE:=λ σ H Q=>ta σ H λ x H1=>∃ c,x=.bl c/\Q (.bl (!c)) H1
theorem m6 {op}{t:TE} (h:PE X a t):PE X (.BoolOp op [a] pos) t:=λ pins s σ H Q I hw=>BoolOp_one (h pins s σ H Q I hw)
theorem gL (ha:PE X a ta) (hb:PE X (.BoolOp .And (b::jm) pos) tb):PE X (.BoolOp .And (a::b::jm) pos) (BM ta tb):=by
 intro pins s σ H Q I h
 refine BoolOp_and (thn (ha pins s σ H _ I h) λ v s1 ⟨x,H1,I1,r1,q1⟩=>?_)
 obtain⟨c,rfl,q1⟩:=q1
 cases r1
 refine wpAny_truthy_bool ?_
 cases c with
 | true=>exact hb pins s1 σ H1 Q I1 q1
 | false=>exact⟨.bl false,H1,I1,rfl,q1⟩
theorem AG (ha:PE X a ta):PE X (.UnaryOp .Not a pos) (BF ta):=by
 intro pins s σ H Q I h
 refine UnaryOp_ (thn (ha pins s σ H _ I h) λ v s1 ⟨x,H1,I1,r1,q1⟩=>?_)
 obtain⟨c,rfl,q1⟩:=q1
 cases r1
 exact not_of (wpAny_truthy_bool ⟨.bl (!c),H1,I1,rfl,q1⟩)
def tIf (t:TT) (ta tb:TE):TE:=λ σ H Q=>t σ H λ c H1=>if c=true then ta σ H1 Q else tb σ H1 Q
theorem oR {c:Expr} (hc:PT X c tA) (ha:PE X a ta) (hb:PE X b tb):PE X (.IfExp c a b pos) (tIf tA ta tb):=by
 intro pins s σ H Q I h
 refine wpAny_IfExp (thn (hc pins s σ H _ I h) λ d s1 ⟨H1,I1,q1⟩=>?_)
 cases d with
 | true=>exact ha pins s1 σ H1 Q I1 q1
 | false=>exact hb pins s1 σ H1 Q I1 q1
end
end L2
namespace L2
open PySem PySem.Spec PyProof.Rows
def SqL (K:PySem.W.Frag) (H:Hp) (a:Addr) (xs:List V):Prop :=
 Rd H a (.lst xs) ∨
  ∃ (o:Obj) (its:Array Value) (n:Nat),K.lookup a=some o/\o.cls=.type "list"/\o.dict=none/\o.data=.seq its n/\its.size<=sizeLine/\aM xs its.toList
def SqT (K:PySem.W.Frag) (H:Hp) (a:Addr) (xs:List V):Prop :=
 Rd H a (.tup xs) ∨
  ∃ (o:Obj) (its:Array Value) (n:Nat),K.lookup a=some o/\o.cls=.type "tuple"/\o.data=.seq its n/\its.size<=sizeLine/\aM xs its.toList
def CV:Value->Option V
 | .none=>some .non
 | .bool b=>some (.bl b)
 | .int i _=>some (.int i)
 | .str x _=>some (.str x)
 | .bytes b _=>some (.byt b)
 | .float b _=>some (.flt b)
 | .ref a=>some (.ref a)
 | .type n=>some (.ty n)
 | _=>none
theorem a8.abs {x:V}{u:Value} (r:a8 x u):CV u=some x:=by
 cases x with
 | non=>cases r;rfl
 | bl _=>cases r;rfl
 | int _=>obtain⟨t,rfl⟩:=r;rfl
 | str _=>obtain⟨t,rfl⟩:=r;rfl
 | byt _=>obtain⟨t,rfl⟩:=r;rfl
 | flt _=>obtain⟨t,rfl⟩:=r;rfl
 | ref _=>cases r;rfl
 | ty _=>cases r;rfl
theorem a8.inj {x y:V}{u:Value} (r:a8 x u) (q:a8 y u):x=y:=Option.some.inj (r.abs.symm.trans q.abs)
theorem aM.inj:∀ {xs ys:List V}{us:List Value},aM xs us->aM ys us->xs=ys
 | _,_,_,.nil,.nil=>rfl
 | _,_,_,.cons r t,.cons r' t'=>by rw[r.inj r',aM.inj t t']
section
variable {X:Cx}{pins:List (Addr×Obj)}{σ:St}{H:Hp}{s:Shared}{a:Addr}{xs ys:List V}
theorem SqL.of {K:PySem.W.Frag} (h:H a=some (.lst xs)):SqL K H a xs:=.inl (.inl h)
theorem SqT.of {K:PySem.W.Frag} (h:H a=some (.tup xs)):SqT K H a xs:=.inl (.inl h)
theorem Inv.list (I:Inv X pins σ H s) (h:SqL X.K H a xs):∃ its:List Value,aM xs its/\PlainL s.heap a its.toArray/\xs.length<=sizeLine:=by
 rcases h with h | ⟨o,its,n,hk,hc,hd,hs,hz,r⟩
 ·obtain⟨z,its,n,r,e⟩:=h.ok I.hok
  exact⟨its,r,⟨_,n,e,rfl,rfl,rfl⟩,z⟩
 ·refine⟨its.toList,r,⟨o,n,I.kIn a o hk,hc,hd,by simpa using hs⟩,?_⟩
  have e:=r.length
  simp only[Array.length_toList] at e
  omega
theorem Inv.tuple (I:Inv X pins σ H s) (h:SqT X.K H a xs):∃ its:List Value,aM xs its/\IsTup s.heap a its.toArray/\xs.length<=sizeLine:=by
 rcases h with h | ⟨o,its,n,hk,hc,hs,hz,r⟩
 ·obtain⟨z,its,r,p⟩:=h.ok I.hok
  exact⟨its,r,p,z⟩
 ·refine⟨its.toList,r,⟨o,I.kIn a o hk,hc,n,by simpa using hs⟩,?_⟩
  have e:=r.length
  simp only[Array.length_toList] at e
  omega
theorem Inv.list_inj (I:Inv X pins σ H s) (h:SqL X.K H a xs) (h':SqL X.K H a ys):xs=ys:=by
 obtain⟨its,r,⟨o,n,e,_,_,d⟩,_⟩:=I.list h
 obtain⟨its',r',⟨o',n',e',_,_,d'⟩,_⟩:=I.list h'
 rw[e] at e';cases e'
 rw[d] at d'
 injection d' with d1 _
 have:its=its':=by simpa using congrArg Array.toList d1
 subst this
 exact r.inj r'
theorem Inv.tuple_inj (I:Inv X pins σ H s) (h:SqT X.K H a xs) (h':SqT X.K H a ys):xs=ys:=by
 obtain⟨its,r,⟨o,e,_,n,d⟩,_⟩:=I.tuple h
 obtain⟨its',r',⟨o',e',_,n',d'⟩,_⟩:=I.tuple h'
 rw[e] at e';cases e'
 rw[d] at d'
 injection d' with d1 _
 have:its=its':=by simpa using congrArg Array.toList d1
 subst this
 exact r.inj r'
end
abbrev Cx.wish (X:Cx) (E:Value->Shared->Prop):Cx:={X with xe:=E}
abbrev Cx.nox (X:Cx):Cx:=X.wish λ _ _=>False
theorem Cx.Ok.wish {X:Cx} (ok:X.Ok) (E:Value->Shared->Prop):(X.wish E).Ok :=
 ⟨ok.mod,ok.kind,ok.glob,ok.blt,ok.above,ok.inj,ok.has,ok.cab,ok.hd,ok.frames,ok.stk,ok.exf,ok.bs,ok.bsz,ok.noex,ok.exfs,ok.funs,ok.frf⟩
theorem Cx.Ok.unwish {X:Cx}{E:Value->Shared->Prop} (ok:(X.wish E).Ok):X.Ok :=
 ⟨ok.mod,ok.kind,ok.glob,ok.blt,ok.above,ok.inj,ok.has,ok.cab,ok.hd,ok.frames,ok.stk,ok.exf,ok.bs,ok.bsz,ok.noex,ok.exfs,ok.funs,ok.frf⟩
section
variable {X:Cx}{pins:List (Addr×Obj)}{σ:St}{H:Hp}{s:Shared}{E:Value->Shared->Prop}
theorem Inv.wish (I:Inv X pins σ H s) (E:Value->Shared->Prop):Inv (X.wish E) pins σ H s:=⟨I.ok.wish E,I.os,I.bare,I.base,I.loc,I.cell,I.free,I.freeC,I.pin,I.hok,I.len⟩
theorem Inv.unwish (I:Inv (X.wish E) pins σ H s):Inv X pins σ H s:=⟨I.ok.unwish,I.os,I.bare,I.base,I.loc,I.cell,I.free,I.freeC,I.pin,I.hok,I.len⟩
theorem SP.unwish {D:gC}{f:Flow}{s':Shared} (h:SP (X.wish E) pins D f s'):SP X pins D f s':=by
 cases f with
 | next=>obtain⟨σ',H',I,q⟩:=h;exact⟨σ',H',I.unwish,q⟩
 | brk=>obtain⟨σ',H',I,q⟩:=h;exact⟨σ',H',I.unwish,q⟩
 | cont=>obtain⟨σ',H',I,q⟩:=h;exact⟨σ',H',I.unwish,q⟩
 | ret u=>obtain⟨v,σ',H',I,r,q⟩:=h;exact⟨v,σ',H',I.unwish,r,q⟩
theorem PE.nox {e:Expr}{t:TE} (h:PE X.nox e t):PE X e t:=λ pins s σ H Q I hw =>
 wpAny_mono (h pins s σ H Q (I.wish _) hw) (λ _ _ ⟨v,H',I',r,q⟩=>⟨v,H',I'.unwish,r,q⟩) λ _ _ z=>False.elim z
theorem PT.nox {e:Expr}{t:TT} (h:PT X.nox e t):PT X e t:=λ pins s σ H Q I hw =>
 wpAny_mono (h pins s σ H Q (I.wish _) hw) (λ _ _ ⟨H',I',q⟩=>⟨H',I'.unwish,q⟩) λ _ _ z=>False.elim z
theorem PSs.nox {st:List Stmt}{t:TS} (h:PSs X.nox st t):PSs X st t:=λ pins s σ H D I hw =>
 wpAny_mono (h pins s σ H D (I.wish _) hw) (λ _ _ q=>q.unwish) λ _ _ z=>False.elim z
end
section
variable {X:Cx}{st:Stmt}{jm:List Stmt}{t u:TS}{e:Expr}{te:TE}{pos:Pos}
def BH:TS:=λ D σ H=>D.nx σ H
def BD (t u:TS):TS:=λ D σ H=>t {D with nx:=u D} σ H
theorem aK:PSs X [] BH:=λ _ _ σ H _ I h=>wpAny_execs_nil ⟨σ,H,I,h⟩
theorem af (h1:PS X st t) (h2:PSs X jm u):PSs X (st::jm) (BD t u):=by
 intro pins s σ H D I h
 refine wpAny_execs_cons (thn (h1 pins s σ H {D with nx:=u D} I h) λ f s1 q=>?_)
 cases f with
 | next =>
  obtain⟨σ',H',I',q⟩:=q
  exact h2 pins s1 σ' H' D I' q
 | ret v=>exact q
 | brk=>exact q
 | cont=>exact q
theorem ah (h1:PS X st t):PSs X [st] t:=by
 intro pins s σ H D I h
 refine wpAny_execs_cons (thn (h1 pins s σ H D I h) λ f s1 q=>?_)
 cases f with
 | next=>exact wpAny_execs_nil q
 | ret v=>exact q
 | brk=>exact q
 | cont=>exact q
theorem Inv.quiet {pins:List (Addr×Obj)}{σ:St}{H:Hp}{s:Shared} (I:Inv X pins σ H s):interactive X.env=false:=by simp [interactive,I.ok.kind]
def BI (te:TE):TS:=λ D σ H=>te σ H λ _ H1=>D.nx σ H1
theorem ju (he:PE X e te) (hs:swapsWith e none pos.line X.env=pure false:=by rfl):PS X (.Expr e pos) (BI te):=by
 intro pins s σ H D I h
 exact wpAny_Expr_any (thn (he pins s σ H _ I h) λ v s1 ⟨x,H1,I1,r1,q1⟩=>⟨σ,H1,I1,q1⟩) I.quiet hs
def Cy (te:TE):TS:=λ D σ H=>te σ H D.rt
theorem aB (he:PE X e te):PS X (.Return (some e) pos) (Cy te):=by
 intro pins s σ H D I h
 exact wpAny_Return_some (thn (he pins s σ H _ I h) λ v s1 ⟨x,H1,I1,r1,q1⟩=>⟨x,σ,H1,I1,r1,q1⟩)
def CD (c:TT) (t u:TS):TS:=λ D σ H=>c σ H λ b H1=>if b=true then t D σ H1 else u D σ H1
theorem br {c:Expr}{a b:List Stmt}{tc:TT} (hc:PT X c tc) (ha:PSs X a t) (hb:PSs X b u):PS X (.If c a b pos) (CD tc t u):=by
 intro pins s σ H D I h
 refine wpAny_If (thn (hc pins s σ H _ I h) λ d s1 ⟨H1,I1,q1⟩=>?_)
 cases d with
 | true=>exact ha pins s1 σ H1 D I1 q1
 | false=>exact hb pins s1 σ H1 D I1 q1
end
abbrev TG:=V->St->Hp->(St->Hp->Prop)->Prop
abbrev TGs:=List V->St->Hp->(St->Hp->Prop)->Prop
def PG (X:Cx) (target:Expr) (t:TG):Prop :=
 ∀ (pins:List (Addr×Obj)) (s:Shared) (σ:St) (H:Hp) (v:V) (u:Value) (Q:St->Hp->Prop),Inv X pins σ H s->a8 v u->t v σ H Q ->
  wpAny (model X.prog X.w) X.A (assign target X.env u) (λ _ s'=>∃ σ' H',Inv X pins σ' H' s'/\Q σ' H') X.xe s
def PGs (X:Cx) (ts:List Expr) (t:TGs):Prop :=
 ∀ (pins:List (Addr×Obj)) (s:Shared) (σ:St) (H:Hp) (vs:List V) (us:List Value) (Q:St->Hp->Prop),Inv X pins σ H s->aM vs us->t vs σ H Q ->
  wpAny (model X.prog X.w) X.A (assignInOrder ((assignEach ts X.env).map (·.2)) us) (λ _ s'=>∃ σ' H',Inv X pins σ' H' s'/\Q σ' H') X.xe s
abbrev Bw:=V->V->V->Hp->(Hp->Prop)->Prop
def Ct (X:Cx) (t:Bw):Prop :=
 ∀ (pins:List (Addr×Obj)) (s:Shared) (σ:St) (H:Hp) (o i v:V) (ov iv u:Value) (Q:Hp->Prop),Inv X pins σ H s->a8 o ov->a8 i iv->a8 v u->t o i v H Q ->
  wpAny (model X.prog X.w) X.A (setItem ov iv u) (λ _ s'=>∃ H',Inv X pins σ H' s'/\Q H') X.xe s
section
variable {X:Cx}{pos:Pos}
def cr (i:Nat):TG:=λ v σ H Q=>Q (σ.set i (some v)) H
theorem az {i:Nat}{x:Str} (hN:X.N.Nodup) (hi:X.N[i]? = some x) (hx:Loc X.env.scope x) (hf:X.fn x=true∨X.env.scope.names.lookup x=some .local:=by first | exact .inl rfl | exact .inr rfl | assumption):PG X (.Name x pos) (cr i):=by
 intro pins s σ H v u Q I r h
 exact wpAny_assign_Name (jB I hN hi hx r (λ s' I'=>⟨_,H,I',h⟩) hf)
def wV:TGs:=λ vs σ H Q=>vs = []/\Q σ H
def ii (t:TG) (u:TGs):TGs:=λ vs σ H Q=>∃ v r,vs=v::r/\t v σ H λ σ' H'=>u r σ' H' Q
theorem bO:PGs X [] wV:=by
 intro pins s σ H vs us Q I r h
 obtain⟨e,h⟩:=h
 subst e
 cases r
 exact assignInOrder_nil ⟨σ,H,I,h⟩
theorem aJ {e:Expr}{es:List Expr}{t:TG}{u:TGs} (h1:PG X e t) (h2:PGs X es u)
  (hs:(assignEach (e::es) X.env).map (·.2)=assign e X.env::(assignEach es X.env).map (·.2):=by rfl):PGs X (e::es) (ii t u):=by
 intro pins s σ H vs us Q I r h
 obtain⟨v,vr,e1,h⟩:=h
 subst e1
 cases r with
 | cons r rr =>
  rw[hs]
  refine assignInOrder_cons (thn (h1 pins s σ H _ _ _ I r h) λ _ s1 ⟨σ1,H1,I1,q1⟩=>?_)
  exact h2 pins s1 σ1 H1 _ _ Q I1 rr q1
def ux (K:PySem.W.Frag) (n:Nat) (t:TGs):TG:=λ v σ H Q=>∃ a xs,v=.ref a/\SqT K H a xs/\xs.length=n/\t xs σ H Q
theorem fc {es:List Expr}{k:Nat}{t:TGs}{n:Nat} (hc:X.calm=true) (h:PGs X es t)
  (hn:(assignEach es X.env).length=n:=by rfl) (hst:(assignEach es X.env).findIdx? (·.1)=none:=by rfl):PG X (.Tuple es k pos) (ux X.K n t):=by
 intro pins s σ H v u Q I r hw
 obtain⟨a,xs,e1,hq,hl,hw⟩:=hw
 subst e1
 cases r
 obtain⟨its,rv,ht,hz⟩:=I.tuple hq
 refine assign_Tuple_tuple (I.ok.hd hc) ht (by simp [hn,<-hl,rv.length]) hst λ h' hx=>?_
 have I1:Inv X pins σ H {s with heap:=h'}:=I.kept (t':=s.toks) λ b o e=>hx b o (Nat.ne_of_lt (Heap.lt_size e)) e
 exact h pins _ σ H xs _ Q I1 (by simpa using rv) hw
def CU (to ti:TE) (t:Bw):TG:=λ v σ H Q=>to σ H λ o H1=>ti σ H1 λ i H2=>t o i v H2 λ H3=>Q σ H3
theorem v7 {o i:Expr}{to ti:TE}{t:Bw} (ho:PE X o to) (hi:PE X i ti) (hs:Ct X t)
  (ha:∀ v,assign (.Subscript o i pos) X.env v=(do
   let ov <-holding [v] (eval o X.env)
   let iv <-holding [v,ov] (eval i X.env)
   standAt pos
   holding [v,ov,iv] (setItem ov iv v)
   release [v,ov,iv] []):=by intro _;rfl):PG X (.Subscript o i pos) (CU to ti t):=by
 intro pins s σ H v u Q I r h
 rw[ha]
 refine wpAny_bind (wpAny_holding (thn (ho pins s σ H _ I h) λ ov s1 ⟨x,H1,I1,r1,q1⟩=>?_))
 refine wpAny_bind (wpAny_holding (thn (hi pins s1 σ H1 _ I1 q1) λ iv s2 ⟨y,H2,I2,r2,q2⟩=>?_))
 refine wpAny_bind (wpAny_standAt (wpAny_bind (wpAny_holding (thn (hs pins s2 σ H2 x y v ov iv u _ I2 r1 r2 r q2) λ _ s3 ⟨H3,I3,q3⟩=>?_))))
 exact wpAny_release ⟨σ,H3,I3,q3⟩
def xN (te:TE) (g:TG):TS:=λ D σ H=>te σ H λ x H1=>g x σ H1 D.nx
theorem mZ {tg e:Expr}{te:TE}{g:TG} (he:PE X e te) (hg:PG X tg g) (hs:swapsWithSole [tg] e pos.line X.env=pure false:=by rfl) (hw:swappedStores [tg] e X.env=pure none:=by rfl)
  (h1:(assignEach [tg] X.env).map (·.2) = [assign tg X.env]:=by rfl):PS X (.Assign [tg] e pos) (xN te g):=by
 intro pins s σ H D I h
 refine wpAny_Assign_stores (thn (he pins s σ H _ I h) λ v s1 ⟨x,H1,I1,r1,q1⟩=>?_) hs hw
 rw[h1]
 exact thn (hg pins s1 σ H1 x v _ I1 r1 q1) λ _ s2 q=>q
theorem au {i:Nat}{x:Str}{e:Expr}{te:TE}{pos':Pos} (hN:X.N.Nodup) (hi:X.N[i]? = some x) (hx:Loc X.env.scope x) (he:PE X e te) (hs:swapsWith e (some (.Name x pos')) pos.line X.env=pure false:=by rfl) (hf:X.fn x=true∨X.env.scope.names.lookup x=some .local:=by first | exact .inl rfl | exact .inr rfl | assumption) :
  PS X (.Assign [.Name x pos'] e pos) (xN te (cr i)):=by
 intro pins s σ H D I h
 refine wpAny_Assign_Name (thn (he pins s σ H _ I h) λ v s1 ⟨y,H1,I1,r1,q1⟩=>?_) hs
 exact jB I1 hN hi hx r1 (λ s2 I2=>⟨_,H1,I2,q1⟩) hf
end
section
variable {X:Cx}{pos:Pos}
def u5 (c:TT) (tb:TS):TS:=λ D σ H=>∃ W:Nat->St->Hp->Prop,(∃ m,W m σ H)/\∀ m σ H,W m σ H ->
 c σ H λ b H1=>if b=true then ∃ N:St->Hp->Prop,(∀ σ' H',N σ' H'->∃ m',m'<m/\W m' σ' H')/\tb {D with nx:=N,ct:=N,bk:=D.nx} σ H1 else D.nx σ H1
theorem g9 {c:Expr}{body:List Stmt}{tc:TT}{tb:TS} (hp:PassesOwn (model X.prog X.w) X.A X.env X.xe) (hc:PT X c tc) (hb:PSs X body tb):PS X (.While c body [] pos) (u5 tc tb):=by
 intro pins s σ H D I h
 obtain⟨W,⟨m0,w0⟩,turn⟩:=h
 refine wpAny_While (codeAny_whileLoop (λ n s'=>∃ σ' H',Inv X pins σ' H' s'/\W n σ' H') ?_ m0 ⟨σ,H,I,w0⟩)
 rintro n s1 ⟨σ1,H1,I1,w1⟩
 refine wpAny_passesOwn hp (thn (hc pins s1 σ1 H1 _ I1 (turn n σ1 H1 w1)) λ b s2 ⟨H2,I2,q2⟩=>?_)
 cases b with
 | true =>
  obtain⟨N,hN,q2⟩:=q2
  rw[if_pos rfl]
  refine wpAny_passesOwn hp (thn (hb pins s2 σ1 H2 _ I2 q2) λ f s3 q3=>?_)
  cases f with
  | next =>
   obtain⟨σ3,H3,I3,n3⟩:=q3
   obtain⟨m',hm,w3⟩:=hN σ3 H3 n3
   exact⟨m',hm,σ3,H3,I3,w3⟩
  | cont =>
   obtain⟨σ3,H3,I3,n3⟩:=q3
   obtain⟨m',hm,w3⟩:=hN σ3 H3 n3
   exact⟨m',hm,σ3,H3,I3,w3⟩
  | brk=>exact q3
  | ret v=>exact q3
 | false =>
  rw[if_neg Bool.false_ne_true]
  exact wpAny_execs_nil ⟨σ1,H2,I2,q2⟩
end
structure It where
 go:Nat->Hp->Prop
 yld:Nat->Hp->V->Hp->Prop
 stop:Nat->Hp->Prop
def dU (X:Cx) (pins:List (Addr×Obj)) (H:Hp) (b:Addr):Prop :=
 H b=none/\b≠X.env.locals/\b ∉ X.fs/\(b∈X.ex∨X.s₀.heap.objs.size<=b)/\(∀ x c,X.env.cells.lookup x=some c->c≠b)/\∀ p∈X.pn++pins,p.1≠b
theorem Inv.fpOk {X:Cx}{pins:List (Addr×Obj)}{σ:St}{H H':Hp}{s:Shared}{b:Addr} (I:Inv X pins σ H s) (hb:s.heap.objs.size<=b) (hn:H' b=none):dU X pins H' b:=by
 refine⟨hn,Nat.ne_of_gt (Nat.lt_of_lt_of_le I.lt hb),I.nofs hb,.inr (Nat.le_trans I.sz hb),λ x c e z=>?_,λ p hp z=>?_⟩
 ·obtain⟨v,q⟩:=I.cell x c e
  exact absurd (Nat.lt_of_lt_of_le q.lt (by rw[z];exact hb)) (Nat.lt_irrefl _)
 ·exact absurd (Nat.lt_of_lt_of_le (Heap.lt_size (I.pin p hp).1) (by rw[z];exact hb)) (Nat.lt_irrefl _)
structure pK (P:Program) (w:World) (K:PySem.W.Frag) (tg:Expr) (J:It) (fp:List Addr) (it:Addr) (tn:Nat->Heap->Prop):Prop where
 mem:it∈fp
 obj:∀ i h,tn i h->∀ b∈fp,∃ o,h.get? b=some o/\∀ v,o.data≠.cell v
 keep:∀ i h h',tn i h->(∀ b∈fp,∀ o,h.get? b=some o->h'.get? b=some o)->tn i h'
 item:∀ (X:Cx),X.prog=P->X.w=w->X.K=K->X.calm=true->∀ (i:Nat) (pins:List (Addr×Obj)) (s:Shared) (σ:St) (H:Hp) (E:Value->Shared->Prop),Inv X pins σ H s->(∀ b∈fp,dU X pins H b)->tn i s.heap->J.go i H ->
  wpAny (model P w) X.A (pyNext (.ref it)) (λ r s1=>∃ u,r=some u /\
   wpAny (model P w) X.A (letOwnedTupleGo tg (.ref it) u) (λ _ s2=>∃ x H',Inv X pins σ H' s2/\a8 x u/\J.yld i H x H'/\tn (i+1) s2.heap/\∀ b∈fp,H' b=none) E s1) E s
 done:∀ (X:Cx),X.prog=P->X.w=w->X.K=K->X.calm=true->∀ (i:Nat) (pins:List (Addr×Obj)) (s:Shared) (σ:St) (H:Hp) (E:Value->Shared->Prop),Inv X pins σ H s->(∀ b∈fp,dU X pins H b)->tn i s.heap->J.stop i H ->
  wpAny (model P w) X.A (pyNext (.ref it)) (λ r s1=>r=none/\Inv X pins σ H s1) E s
 self:∀ (A:Around) (i:Nat) (s:Shared) (Q:Value->Shared->Prop) (E:Value->Shared->Prop),tn i s.heap->Q (.ref it) s->wpAny (model P w) A (pyIter (.ref it)) Q E s
abbrev TI:=St->Hp->(It->Hp->Prop)->Prop
def PIE (X:Cx) (pins:List (Addr×Obj)) (σ:St) (tg:Expr) (R:It->Hp->Prop) (itv:Value) (s2:Shared):Prop :=
 ∃ (it:Addr) (fp:List Addr) (tn:Nat->Heap->Prop) (J:It) (H':Hp),itv=.ref it/\Inv X pins σ H' s2/\pK X.prog X.w X.K tg J fp it tn/\tn 0 s2.heap/\(∀ b∈fp,dU X pins H' b)/\R J H'
def PI (X:Cx) (tg iter:Expr) (wi:TI):Prop :=
 ∀ (pins:List (Addr×Obj)) (s:Shared) (σ:St) (H:Hp) (R:It->Hp->Prop),Inv X pins σ H s->wi σ H R ->
  wpAny (model X.prog X.w) X.A (eval iter X.env) (λ v s1=>wpAny (model X.prog X.w) X.A (pyIter v) (PIE X pins σ tg R) X.xe s1) X.xe s
theorem pf {M:Model}{A:Around}{E:Value->Shared->Prop}{s:Shared}{tg:Expr}{it:Addr}{u:Value}{o:Obj}{n:String}{vs:Array Value}{Q:Unit->Shared->Prop} (ho:s.heap.get? it=some o) (hc:o.cls=.type n) (hd:o.data=.fields vs)
  (hn:["enumerate","zip","dict_itemiterator","dict_reverseitemiterator","odict_iterator","itertools.zip_longest","itertools.pairwise"].contains n=false) (hQ:Q () s):wpAny M A (letOwnedTupleGo tg (.ref it) u) Q E s:=by
 unfold letOwnedTupleGo
 cases tg<;>first
  | exact wpAny_pure hQ
  | (cases u<;>first
    | exact wpAny_pure hQ
    | (refine wpAny_bind (wpAny_load ho ?_)
       rw [hc, hd]
       show wpAny M A (if (["enumerate", "zip", "dict_itemiterator", "dict_reverseitemiterator", "odict_iterator", "itertools.zip_longest", "itertools.pairwise"].contains n && vs[0]? == some (rawInt _)) = true then _ else _) Q E s
       rw [if_neg (by intro h; rw [hn, Bool.false_and] at h; cases h)]
       exact wpAny_pure hQ))
def Itl (K:PySem.W.Frag) (a:Addr):It :=
 ⟨λ i H=>∃ xs x,SqL K H a xs/\xs[i]? = some x,λ i H x H'=>H'=H/\∀ xs,SqL K H a xs->xs[i]? = some x,λ i H=>∃ xs,SqL K H a xs/\xs.length<=i⟩
def Itt (K:PySem.W.Frag) (a:Addr):It :=
 ⟨λ i H=>∃ xs x,SqT K H a xs/\xs[i]? = some x,λ i H x H'=>H'=H/\∀ xs,SqT K H a xs->xs[i]? = some x,λ i H=>∃ xs,SqT K H a xs/\xs.length<=i⟩
def Itr (lo:Int) (n:Nat):It:=⟨λ i _=>i<n,λ i H x H'=>H'=H/\x=.int (lo+i),λ i _=>n<=i⟩
theorem kW {P:Program}{w:World}{K:PySem.W.Frag}{tg:Expr} (a it:Addr):pK P w K tg (Itl K a) [it] it (λ i h=>h.IsListIter it a i) where
 mem:=by simp
 obj:=λ i h st b hb=>by
  have e:b=it:=by simpa using hb
  subst e
  obtain⟨o,e,c,d⟩:=st
  exact⟨o,e,λ v z=>by rw[d] at z;cases z⟩
 keep:=λ i h h' st k=>st.at λ o e=>k it (by simp) o e
 item:=by
  intro X hP hw hK hc i pins s σ H E I hf st hg
  subst hP hw hK
  obtain⟨xs,x,hq,hx⟩:=hg
  obtain⟨its,rv,p,hz⟩:=I.list hq
  obtain⟨u,hu,ru⟩:=rv.get hx
  obtain⟨f0,f1,f2,f3,f4,f5⟩:=hf it (by simp)
  refine wpAny_pyNext_list_item st p.isList (x:=u) (by simpa using hu) λ h' st' sb=>?_
  have I1:Inv X pins σ H {s with heap:=h'}:=I.turned (t':=s.toks) (λ b o hb e=>(sb.2 b hb).trans e) f0 f1 f3 f4 f5
  obtain⟨o,e,c,d⟩:=id st'
  exact⟨u,rfl,pf (s:={s with heap:=h'}) e c d (by decide) ⟨x,H,I1,ru,⟨rfl,λ ys hy=>by rw[I.list_inj hy hq];exact hx⟩,st',λ b hb=>(hf b hb).1⟩⟩
 done:=by
  intro X hP hw hK hc i pins s σ H E I hf st hg
  subst hP hw hK
  obtain⟨xs,hq,hx⟩:=hg
  obtain⟨its,rv,p,hz⟩:=I.list hq
  obtain⟨f0,f1,f2,f3,f4,f5⟩:=hf it (by simp)
  have hl:=rv.length
  exact wpAny_pyNext_list_end (I.ok.hd hc) st p.isList (by simp;omega) λ h' eb=>⟨rfl,I.turned (t':=s.toks) (λ b o hb e=>eb b o hb e) f0 f1 f3 f4 f5⟩
 self:=λ _ _ _ _ _ st h=>wpAny_pyIter_listiter st h
theorem jz {P:Program}{w:World}{K:PySem.W.Frag}{tg:Expr} (a it:Addr):pK P w K tg (Itt K a) [it] it (λ i h=>h.IsTupleIter it a i) where
 mem:=by simp
 obj:=λ i h st b hb=>by
  have e:b=it:=by simpa using hb
  subst e
  obtain⟨o,e,c,d⟩:=st
  exact⟨o,e,λ v z=>by rw[d] at z;cases z⟩
 keep:=λ i h h' st k=>st.at λ o e=>k it (by simp) o e
 item:=by
  intro X hP hw hK hc i pins s σ H E I hf st hg
  subst hP hw hK
  obtain⟨xs,x,hq,hx⟩:=hg
  obtain⟨its,rv,p,hz⟩:=I.tuple hq
  obtain⟨u,hu,ru⟩:=rv.get hx
  obtain⟨f0,f1,f2,f3,f4,f5⟩:=hf it (by simp)
  refine wpAny_pyNext_tuple_item st (show s.heap.IsTuple a its.toArray from p) (x:=u) (by simpa using hu) λ h' st' sb=>?_
  have I1:Inv X pins σ H {s with heap:=h'}:=I.turned (t':=s.toks) (λ b o hb e=>(sb.2 b hb).trans e) f0 f1 f3 f4 f5
  obtain⟨o,e,c,d⟩:=id st'
  exact⟨u,rfl,pf (s:={s with heap:=h'}) e c d (by decide) ⟨x,H,I1,ru,⟨rfl,λ ys hy=>by rw[I.tuple_inj hy hq];exact hx⟩,st',λ b hb=>(hf b hb).1⟩⟩
 done:=by
  intro X hP hw hK hc i pins s σ H E I hf st hg
  subst hP hw hK
  obtain⟨xs,hq,hx⟩:=hg
  obtain⟨its,rv,p,hz⟩:=I.tuple hq
  obtain⟨f0,f1,f2,f3,f4,f5⟩:=hf it (by simp)
  have hl:=rv.length
  exact wpAny_pyNext_tuple_end (I.ok.hd hc) st (show s.heap.IsTuple a its.toArray from p) (by simp;omega) λ h' eb=>⟨rfl,I.turned (t':=s.toks) (λ b o hb e=>eb b o hb e) f0 f1 f3 f4 f5⟩
 self:=λ _ _ _ _ _ st h=>wpAny_pyIter_tupleiter st h
theorem pP {P:Program}{w:World}{K:PySem.W.Frag}{tg:Expr} (it:Addr) (lo:Int) (n:Nat):pK P w K tg (Itr lo n) [it] it (λ i h=>IsRangeIter h it (lo+(i:Nat)*1) ((n:Int)-(i:Nat)) 1) where
 mem:=by simp
 obj:=λ i h st b hb=>by
  have e:b=it:=by simpa using hb
  subst e
  exact⟨_,st,λ v z=>by
   have z':Data.fields _=Data.cell v:=z
   cases z'⟩
 keep:=λ i h h' st k=>k it (by simp) _ st
 item:=by
  intro X hP hw hK hc i pins s σ H E I hf st hg
  subst hP hw hK
  obtain⟨f0,f1,f2,f3,f4,f5⟩:=hf it (by simp)
  have W:=Walks.range (prog:=X.prog) (w:=X.w) (I.ok.hd hc) it lo 1 n
  refine W.item i s _ _ hg st λ v h' tk hv st' kk=>?_
  obtain⟨t,rfl⟩:=hv
  have I1:Inv X pins σ H {s with heap:=h',toks:=tk}:=I.turned (λ b o hb e=>kk b o (by simpa using hb) e) f0 f1 f3 f4 f5
  refine⟨_,rfl,pf (s:={s with heap:=h',toks:=tk}) (n:="range_iterator") st' rfl rfl (by decide) ⟨.int (lo+i),H,I1,⟨t,?_⟩,⟨rfl,rfl⟩,st',λ b hb=>(hf b hb).1⟩⟩
  rw[Int.mul_one]
 done:=by
  intro X hP hw hK hc i pins s σ H E I hf st hg
  subst hP hw hK
  obtain⟨f0,f1,f2,f3,f4,f5⟩:=hf it (by simp)
  exact wpAny_pyNext_range_end (I.ok.hd hc) st (by have:n<=i:=hg;omega) λ h' eb=>⟨rfl,I.turned (t':=s.toks) (λ b o hb e=>eb b o hb e) f0 f1 f3 f4 f5⟩
 self:=λ _ _ _ _ _ st h=>wpAny_pyIter_rangeiter st h
end L2
namespace L2
open PySem PySem.Spec PyProof.Rows
section
variable {X:Cx}{tg:Expr}
def Cf (K:PySem.W.Frag) (tl:TE):TI:=λ σ H R=>tl σ H λ x H1=>∃ a,x=.ref a/\(∃ xs,SqL K H1 a xs)/\R (Itl K a) H1
def CO (K:PySem.W.Frag) (tl:TE):TI:=λ σ H R=>tl σ H λ x H1=>∃ a,x=.ref a/\(∃ xs,SqT K H1 a xs)/\R (Itt K a) H1
theorem cW {l:Expr}{tl:TE} (hl:PE X l tl):PI X tg l (Cf X.K tl):=by
 intro pins s σ H R I h
 refine thn (hl pins s σ H _ I h) λ v s1 ⟨x,H1,I1,r1,q1⟩=>?_
 obtain⟨a,e,⟨xs,hq⟩,q⟩:=q1
 subst e
 cases r1
 obtain⟨its,rv,p,hz⟩:=I1.list hq
 refine wpAny_pyIter_list p.isList ?_
 refine⟨s1.heap.objs.size,[s1.heap.objs.size],_,_,H1,rfl,I1.kept (t':=s1.toks) λ b o e=>Heap.get?_push_of_some _ e,kW a _,⟨_,Heap.get?_push_size _ rfl,rfl,rfl⟩,λ b hb=>?_,q⟩
 have e:b=s1.heap.objs.size:=by simpa using hb
 subst e
 exact I1.fpOk (Nat.le_refl _) (I1.hok.fresh (Nat.le_refl _))
theorem iT {l:Expr}{tl:TE} (hl:PE X l tl):PI X tg l (CO X.K tl):=by
 intro pins s σ H R I h
 refine thn (hl pins s σ H _ I h) λ v s1 ⟨x,H1,I1,r1,q1⟩=>?_
 obtain⟨a,e,⟨xs,hq⟩,q⟩:=q1
 subst e
 cases r1
 obtain⟨its,rv,p,hz⟩:=I1.tuple hq
 refine wpAny_pyIter_tuple (show s1.heap.IsTuple a its.toArray from p) ?_
 refine⟨s1.heap.objs.size,[s1.heap.objs.size],_,_,H1,rfl,I1.kept (t':=s1.toks) λ b o e=>Heap.get?_push_of_some _ e,jz a _,⟨_,Heap.get?_push_size _ rfl,rfl,rfl⟩,λ b hb=>?_,q⟩
 have e:b=s1.heap.objs.size:=by simpa using hb
 subst e
 exact I1.fpOk (Nat.le_refl _) (I1.hok.fresh (Nat.le_refl _))
theorem oN {pins:List (Addr×Obj)}{σ:St}{H:Hp}{s:Shared}{R:It->Hp->Prop}{E:Value->Shared->Prop}{lo hi:Int}{t u v:Tok}{tk:Nat} (I:Inv X pins σ H s) (h1:-(2^62)<=lo) (h2:lo<2^62) (h3:-(2^62)<=hi) (h4:hi<2^62)
  (q:R (Itr lo (hi-lo).toNat) H):wpAny (model X.prog X.w) X.A (pyIter (.ref s.heap.objs.size)) (PIE X pins σ tg R) E {s with heap:=s.heap.push {cls:=.type "range",data:=.fields #[.int lo t,.int hi u,.int 1 v]},toks:=tk}:=by
 refine wpAny_pyIter_range (IsRange.new ..) (small_one h1 h2 h3 h4) ?_
 have I1:Inv X pins σ H {s with heap:=s.heap.push {cls:=.type "range",data:=.fields #[.int lo t,.int hi u,.int 1 v]},toks:=tk}:=I.kept λ b o e=>Heap.get?_push_of_some _ e
 refine⟨(s.heap.push {cls:=.type "range",data:=.fields #[.int lo t,.int hi u,.int 1 v]}).objs.size,[(s.heap.push {cls:=.type "range",data:=.fields #[.int lo t,.int hi u,.int 1 v]}).objs.size],_,_,H,rfl,
  I1.kept (t':=tk) λ b o e=>Heap.get?_push_of_some _ e,pP _ lo (hi-lo).toNat,?_,λ b hb=>?_,q⟩
 ·have e1:lo+((0:Nat):Int)*1=lo:=by simp
  have e2:(((hi-lo).toNat:Nat):Int)-((0:Nat):Int)=Builtin.Range.rangeSize lo hi 1:=by rw[rangeSize_one];split<;>omega
  show IsRangeIter _ _ (lo+((0:Nat):Int)*1) ((((hi-lo).toNat:Nat):Int)-((0:Nat):Int)) 1
  rw[e1,e2]
  exact Heap.get?_push_size _ rfl
 ·have e:b=(s.heap.push {cls:=.type "range",data:=.fields #[.int lo t,.int hi u,.int 1 v]}).objs.size:=by simpa using hb
  subst e
  exact I1.fpOk (Nat.le_refl _) (I1.hok.fresh (Nat.le_refl _))
def Ce (ta:TA):TI:=λ σ H R=>ta σ H λ vs H1=>∃ j:Int,vs = [.int j]/\-(2^62)<=j/\j<2^62/\R (Itr 0 j.toNat) H1
def Cc (ta:TA):TI:=λ σ H R=>ta σ H λ vs H1=>∃ i j:Int,vs = [.int i,.int j]/\(-(2^62)<=i/\i<2^62/\-(2^62)<=j/\j<2^62)/\R (Itr i (j-i).toNat) H1
theorem aZ {a:Expr}{ta:TA}{p pos:Pos} (hg:Gl X "range") (hm:X.mg "range" = none) (ha:PA X [a] ta) (hs:starEach [a] X.env = [(false,eval a X.env)]:=by rfl):PI X tg (.Call (.Name "range" p) [a] [] pos) (Ce ta):=by
 intro pins s σ H R I h
 refine Call_ (fi I hg hm boot_range (PyProof.Rows.callWith_type1 (thn (ha pos pins s σ H _ I h) λ us s1 ⟨vs,H1,I1,r1,q1⟩=>?_) hs rfl))
 obtain⟨j,e,q1,q2,q⟩:=q1
 subst e
 cases r1 with
 | cons r rr =>
  cases rr
  obtain⟨t,rfl⟩:=r
  exact call_range_1 (oN I1 (by omega) (by omega) q1 q2 (by simpa using q))
theorem tW {a b:Expr}{ta:TA}{p pos:Pos} (hg:Gl X "range") (hm:X.mg "range" = none) (ha:PA X [a,b] ta) (hs:starEach [a,b] X.env = [(false,eval a X.env),(false,eval b X.env)]:=by rfl) (hs2:starEach [b] X.env = [(false,eval b X.env)]:=by rfl) :
  PI X tg (.Call (.Name "range" p) [a,b] [] pos) (Cc ta):=by
 intro pins s σ H R I h
 refine Call_ (fi I hg hm boot_range (PyProof.Rows.callWith_type1 (thn (ha pos pins s σ H _ I h) λ us s1 ⟨vs,H1,I1,r1,q1⟩=>?_) (by rw[hs,hs2]) (by rw[hs2];rfl)))
 obtain⟨i,j,e,⟨q1,q2,q3,q4⟩,q⟩:=q1
 subst e
 cases r1 with
 | cons r rr =>
  cases rr with
  | cons r' rr =>
   cases rr
   obtain⟨t,rfl⟩:=r
   obtain⟨t',rfl⟩:=r'
   exact call_range_2 (oN I1 q1 q2 q3 q4 q)
def CG (wi:TI) (g:TG) (tb:TS):TS:=λ D σ H=>wi σ H λ J H1=>∃ W:Nat->Nat->St->Hp->Prop,(∃ m,W 0 m σ H1)/\∀ i m σ H,W i m σ H ->
 (J.stop i H/\D.nx σ H)∨(J.go i H/\∃ N:St->Hp->Prop,(∀ σ' H',N σ' H'->∃ m',m'<m/\W (i+1) m' σ' H')/\∀ x H',J.yld i H x H'->g x σ H' λ σ2 H2=>tb {D with nx:=N,ct:=N,bk:=D.nx} σ2 H2)
def m5 (fp:List Addr) (h:Heap):List (Addr×Obj):=fp.filterMap λ b=>(h.get? b).map λ o=>(b,o)
theorem bg {fp:List Addr}{h:Heap}{b:Addr}{o:Obj} (hb:b∈fp) (e:h.get? b=some o):(b,o)∈m5 fp h:=List.mem_filterMap.mpr ⟨b,hb,by rw[e];rfl⟩
theorem ub {fp:List Addr}{h:Heap}{p:Addr×Obj} (hp:p∈m5 fp h):p.1∈fp/\h.get? p.1=some p.2:=by
 obtain⟨b,hb,e⟩:=List.mem_filterMap.mp hp
 cases q:h.get? b with
 | none=>rw[q] at e;cases e
 | some o =>
  rw[q] at e
  have e':(b,o)=p:=Option.some.inj e
  subst e'
  exact⟨hb,q⟩
theorem Inv.pinned {pins:List (Addr×Obj)}{σ:St}{H:Hp}{s:Shared}{fp:List Addr} (I:Inv X pins σ H s) (hf:∀ b∈fp,dU X pins H b) (ho:∀ b∈fp,∃ o,s.heap.get? b=some o/\∀ v,o.data≠.cell v):Inv X (pins++m5 fp s.heap) σ H s :=
 I.pins_of λ p hp=>(List.mem_append.mp hp).elim (λ z=>I.pin p (List.mem_append_right _ z)) λ z=>by
  obtain⟨hb,e⟩:=ub z
  obtain⟨f0,f1,f2,_⟩:=hf p.1 hb
  obtain⟨o,e',d⟩:=ho p.1 hb
  rw[e] at e';cases e'
  exact⟨e,f0,f1,f2,d⟩
theorem Inv.unpinned {pins pl:List (Addr×Obj)}{σ:St}{H:Hp}{s:Shared} (I:Inv X (pins++pl) σ H s):Inv X pins σ H s:=I.pins_of λ p hp=>I.pin p (List.mem_append_right _ (List.mem_append_left _ hp))
theorem bA {iter:Expr}{body:List Stmt}{wi:TI}{g:TG}{tb:TS}{pos:Pos} (hp:PassesOwn (model X.prog X.w) X.A X.env X.xe) (hc:X.calm=true) (hi:PI X tg iter wi) (hg:PG X tg g) (hb:PSs X body tb)
  (hs:∀ x,foldedSetIterable iter X.env x=pure x:=by intro _;rfl):PS X (.For tg iter body [] pos) (CG wi g tb):=by
 intro pins s σ H D I h
 refine wpAny_For (thn (hi pins s σ H _ I h) λ v s1 h1=>thn h1 λ itv s2 h2=>?_) hs
 obtain⟨it,fp,tn,J,H2,e,I2,T,st2,f2,W,⟨m0,w0⟩,turn⟩:=h2
 subst e
 have stat:∀ {H':Hp},(∀ b∈fp,H' b=none)->∀ b∈fp,dU X pins H' b:=λ hn b hb=>⟨hn b hb,(f2 b hb).2⟩
 refine codeAny_forLoop_any (λ n s'=>∃ i σ' H',Inv X pins σ' H' s'/\tn i s'.heap/\(∀ b∈fp,H' b=none)/\W i n σ' H') ?_ m0 ⟨0,σ,H2,I2,st2,λ b hb=>(f2 b hb).1,w0⟩
 rintro n s3 ⟨i,σ3,H3,I3,st3,fr3,w3⟩
 rcases turn i n σ3 H3 w3 with ⟨stop,qn⟩ | ⟨go,N,hN,step⟩
 ·refine wpAny_passesOwn hp (thn (T.done X rfl rfl rfl hc i pins s3 σ3 H3 X.xe I3 (stat fr3) st3 stop) λ r s4 ⟨hr,I4⟩=>?_)
  subst hr
  exact wpAny_execs_nil ⟨σ3,H3,I4,qn⟩
 ·refine wpAny_passesOwn hp (thn (T.item X rfl rfl rfl hc i pins s3 σ3 H3 X.xe I3 (stat fr3) st3 go) λ r s4 ⟨u,hr,h4⟩=>?_)
  subst hr
  refine wpAny_passesOwn hp (thn h4 λ _ s5 ⟨x,H5,I5,r5,y5,st5,fr5⟩=>?_)
  have I5':=I5.pinned (stat fr5) (T.obj _ _ st5)
  refine wpAny_passesOwn hp (thn (hg _ s5 σ3 H5 x u _ I5' r5 (step x H5 y5)) λ _ s6 ⟨σ6,H6,I6,q6⟩=>?_)
  refine wpAny_passesOwn hp (thn (hb _ s6 σ6 H6 _ I6 q6) λ f s7 q7=>?_)
  have again:∀ {σ7:St}{H7:Hp},Inv X (pins++m5 fp s5.heap) σ7 H7 s7->N σ7 H7->∃ m,m<n/\∃ i σ' H',Inv X pins σ' H' s7/\tn i s7.heap/\(∀ b∈fp,H' b=none)/\W i m σ' H':=λ {σ7 H7} I7 n7=>by
   obtain⟨m',hm,w7⟩:=hN σ7 H7 n7
   refine⟨m',hm,i+1,σ7,H7,I7.unpinned,T.keep _ _ _ st5 λ b hb o e=>(I7.pin (b,o) (List.mem_append_right _ (List.mem_append_right _ (bg hb e)))).1,λ b hb=>?_,w7⟩
   obtain⟨o,e,d⟩:=T.obj _ _ st5 b hb
   exact (I7.pin (b,o) (List.mem_append_right _ (List.mem_append_right _ (bg hb e)))).2.1
  cases f with
  | next=>obtain⟨σ7,H7,I7,n7⟩:=q7;exact again I7 n7
  | cont=>obtain⟨σ7,H7,I7,n7⟩:=q7;exact again I7 n7
  | brk=>obtain⟨σ7,H7,I7,q7⟩:=q7;exact⟨σ7,H7,I7.unpinned,q7⟩
  | ret v=>obtain⟨x7,σ7,H7,I7,r7,q7⟩:=q7;exact⟨x7,σ7,H7,I7.unpinned,r7,q7⟩
end
theorem eU {K:PySem.W.Frag}{a:Addr}{xs:List V}{g:TG}{tb:TS}{D:gC}{σ:St}{H:Hp} (Pv:Nat->St->Hp->Prop) (h0:Pv 0 σ H) (hl:∀ i σ H,i<=xs.length->Pv i σ H->SqL K H a xs)
  (hs:∀ i x σ H,xs[i]? = some x->Pv i σ H->g x σ H λ σ2 H2=>tb {D with nx:=Pv (i+1),ct:=Pv (i+1),bk:=D.nx} σ2 H2) (hd:∀ σ H,Pv xs.length σ H->D.nx σ H) :
  ∃ W:Nat->Nat->St->Hp->Prop,(∃ m,W 0 m σ H)/\∀ i m σ H,W i m σ H ->
   ((Itl K a).stop i H/\D.nx σ H)∨((Itl K a).go i H/\∃ N:St->Hp->Prop,(∀ σ' H',N σ' H'->∃ m',m'<m/\W (i+1) m' σ' H')/\∀ x H',(Itl K a).yld i H x H'->g x σ H' λ σ2 H2=>tb {D with nx:=N,ct:=N,bk:=D.nx} σ2 H2):=by
 refine⟨λ i m σ H=>m=xs.length-i/\i<=xs.length/\Pv i σ H,⟨xs.length,by simp,Nat.zero_le _,h0⟩,?_⟩
 rintro i m σ H ⟨rfl,hi,p⟩
 have q:=hl i σ H hi p
 by_cases hlt:i<xs.length
 ·refine .inr ⟨⟨xs,xs[i],q,by simp [hlt]⟩,Pv (i+1),λ σ' H' p'=>⟨xs.length-(i+1),by omega,rfl,hlt,p'⟩,λ x H' y=>?_⟩
  obtain⟨e,y⟩:=y
  subst e
  exact hs i x σ _ (y xs q) p
 ·have e:i=xs.length:=by omega
  subst e
  exact .inl ⟨⟨xs,q,Nat.le_refl _⟩,hd σ H p⟩
theorem jx {K:PySem.W.Frag}{a:Addr}{xs:List V}{g:TG}{tb:TS}{D:gC}{σ:St}{H:Hp} (Pv:Nat->St->Hp->Prop) (h0:Pv 0 σ H) (hl:∀ i σ H,i<=xs.length->Pv i σ H->SqT K H a xs)
  (hs:∀ i x σ H,xs[i]? = some x->Pv i σ H->g x σ H λ σ2 H2=>tb {D with nx:=Pv (i+1),ct:=Pv (i+1),bk:=D.nx} σ2 H2) (hd:∀ σ H,Pv xs.length σ H->D.nx σ H) :
  ∃ W:Nat->Nat->St->Hp->Prop,(∃ m,W 0 m σ H)/\∀ i m σ H,W i m σ H ->
   ((Itt K a).stop i H/\D.nx σ H)∨((Itt K a).go i H/\∃ N:St->Hp->Prop,(∀ σ' H',N σ' H'->∃ m',m'<m/\W (i+1) m' σ' H')/\∀ x H',(Itt K a).yld i H x H'->g x σ H' λ σ2 H2=>tb {D with nx:=N,ct:=N,bk:=D.nx} σ2 H2):=by
 refine⟨λ i m σ H=>m=xs.length-i/\i<=xs.length/\Pv i σ H,⟨xs.length,by simp,Nat.zero_le _,h0⟩,?_⟩
 rintro i m σ H ⟨rfl,hi,p⟩
 have q:=hl i σ H hi p
 by_cases hlt:i<xs.length
 ·refine .inr ⟨⟨xs,xs[i],q,by simp [hlt]⟩,Pv (i+1),λ σ' H' p'=>⟨xs.length-(i+1),by omega,rfl,hlt,p'⟩,λ x H' y=>?_⟩
  obtain⟨e,y⟩:=y
  subst e
  exact hs i x σ _ (y xs q) p
 ·have e:i=xs.length:=by omega
  subst e
  exact .inl ⟨⟨xs,q,Nat.le_refl _⟩,hd σ H p⟩
theorem bY {lo:Int}{n:Nat}{g:TG}{tb:TS}{D:gC}{σ:St}{H:Hp} (Pv:Nat->St->Hp->Prop) (h0:Pv 0 σ H)
  (hs:∀ i σ H,i<n->Pv i σ H->g (.int (lo+i)) σ H λ σ2 H2=>tb {D with nx:=Pv (i+1),ct:=Pv (i+1),bk:=D.nx} σ2 H2) (hd:∀ σ H,Pv n σ H->D.nx σ H) :
  ∃ W:Nat->Nat->St->Hp->Prop,(∃ m,W 0 m σ H)/\∀ i m σ H,W i m σ H ->
   ((Itr lo n).stop i H/\D.nx σ H)∨((Itr lo n).go i H/\∃ N:St->Hp->Prop,(∀ σ' H',N σ' H'->∃ m',m'<m/\W (i+1) m' σ' H')/\∀ x H',(Itr lo n).yld i H x H'->g x σ H' λ σ2 H2=>tb {D with nx:=N,ct:=N,bk:=D.nx} σ2 H2):=by
 refine⟨λ i m σ H=>m=n-i/\i<=n/\Pv i σ H,⟨n,by simp,Nat.zero_le _,h0⟩,?_⟩
 rintro i m σ H ⟨rfl,hi,p⟩
 by_cases hlt:i<n
 ·refine .inr ⟨hlt,Pv (i+1),λ σ' H' p'=>⟨n-(i+1),by omega,rfl,hlt,p'⟩,λ x H' y=>?_⟩
  obtain⟨e,y⟩:=y
  subst e y
  exact hs i σ _ hlt p
 ·have e:i=n:=by omega
  subst e
  exact .inl ⟨Nat.le_refl _,hd σ H p⟩
theorem nZ {c:TT}{tb:TS}{D:gC}{σ:St}{H:Hp} (Pv:St->Hp->Prop) (μ:St->Hp->Nat) (h0:Pv σ H)
  (hs:∀ σ H,Pv σ H->c σ H λ b H1=>if b=true then tb {D with nx:=λ σ' H'=>Pv σ' H'/\μ σ' H' < μ σ H,ct:=λ σ' H'=>Pv σ' H'/\μ σ' H' < μ σ H,bk:=D.nx} σ H1 else D.nx σ H1)
  (mono:∀ σ H Q Q',(∀ b H1,Q b H1->Q' b H1)->c σ H Q->c σ H Q'):u5 c tb D σ H:=by
 refine⟨λ m σ H=>m = μ σ H/\Pv σ H,⟨_,rfl,h0⟩,?_⟩
 rintro m σ H ⟨rfl,p⟩
 refine mono σ H _ _ (λ b H1 q=>?_) (hs σ H p)
 cases b with
 | true=>exact⟨_,λ σ' H' ⟨p',l⟩=>⟨_,l,rfl,p'⟩,q⟩
 | false=>exact q
end L2
namespace L2
open PySem PySem.Spec PyProof.Rows
abbrev R2:=V->V->Hp->VK->Prop
def OpR (X:Cx) (f:Value->Value->Sem Value) (r:R2):Prop :=
 ∀ (pins:List (Addr×Obj)) (s:Shared) (σ:St) (H:Hp) (x y:V) (v u:Value) (Q:VK),Inv X pins σ H s->a8 x v->a8 y u->r x y H Q ->
  wpAny (model X.prog X.w) X.A (f v u) (EP X pins σ Q) X.xe s
def UnR (X:Cx) (f:Value->Sem Value) (r:V->Hp->VK->Prop):Prop :=
 ∀ (pins:List (Addr×Obj)) (s:Shared) (σ:St) (H:Hp) (x:V) (v:Value) (Q:VK),Inv X pins σ H s->a8 x v->r x H Q ->
  wpAny (model X.prog X.w) X.A (f v) (EP X pins σ Q) X.xe s
def cO (X:Cx) (f:Value) (r:List V->Hp->VK->Prop):Prop :=
 ∀ (pins:List (Addr×Obj)) (s:Shared) (σ:St) (H:Hp) (xs:List V) (us:List Value) (Q:VK),Inv X pins σ H s->aM xs us->r xs H Q ->
  wpAny (model X.prog X.w) X.A (call f us) (EP X pins σ Q) X.xe s
def tOp (r:R2) (ta tb:TE):TE:=λ σ H Q=>ta σ H λ x H1=>tb σ H1 λ y H2=>r x y H2 Q
def tUn (r:V->Hp->VK->Prop) (ta:TE):TE:=λ σ H Q=>ta σ H λ x H1=>r x H1 Q
def rI (C:Int->Int->Prop) (g:Int->Int->V):R2:=λ x y H Q=>∃ i j,x=.int i/\y=.int j/\C i j/\Q (g i j) H
def rI0 (g:Int->Int->V):R2:=λ x y H Q=>∃ i j,x=.int i/\y=.int j/\Q (g i j) H
def rU (g:Int->V):V->Hp->VK->Prop:=λ x H Q=>∃ i,x=.int i/\Q (g i) H
section
variable {X:Cx}{a b c:Expr}{ta tb tc:TE}{pos:Pos}
theorem Bu (ha:PE X a ta) (hb:PE X b tb) {pins:List (Addr×Obj)}{s:Shared}{σ:St}{H:Hp}{R:V->V->Hp->Prop} (I:Inv X pins σ H s)
  (h:ta σ H λ x H1=>tb σ H1 λ y H2=>R x y H2) {Q:Value->Shared->Prop}{f:Value->Value->Sem Value}
  (hf:∀ v u s2 x y H2,Inv X pins σ H2 s2->a8 x v->a8 y u->R x y H2->wpAny (model X.prog X.w) X.A (f v u) Q X.xe s2) :
  wpAny (model X.prog X.w) X.A (eval a X.env) (λ v s₁=>wpAny (model X.prog X.w) X.A (eval b X.env) (λ u s₂=>wpAny (model X.prog X.w) X.A (f v u) Q X.xe s₂) X.xe s₁) X.xe s:=by
 refine thn (ha pins s σ H _ I h) λ v s1 ⟨x,H1,I1,r1,q1⟩=>?_
 refine thn (hb pins s1 σ H1 _ I1 q1) λ u s2 ⟨y,H2,I2,r2,q2⟩=>?_
 exact hf v u s2 x y H2 I2 r1 r2 q2
theorem ar {op:Operator}{r:R2} (ho:OpR X (binaryOp op) r) (ha:PE X a ta) (hb:PE X b tb):PE X (.BinOp a op b pos) (tOp r ta tb):=by
 intro pins s σ H Q I h
 exact wpAny_BinOp (Bu ha hb I h λ v u s2 x y H2 I2 rx ry q=>ho pins s2 σ H2 x y v u Q I2 rx ry q)
theorem jY {op:UnaryOp}{r:V->Hp->VK->Prop} (ho:UnR X (unaryOp op) r) (ha:PE X a ta):PE X (.UnaryOp op a pos) (tUn r ta):=by
 intro pins s σ H Q I h
 exact UnaryOp_ (thn (ha pins s σ H _ I h) λ v s1 ⟨x,H1,I1,r1,q1⟩=>ho pins s1 σ H1 x v Q I1 r1 q1)
theorem opI {f:Value->Value->Sem Value}{C:Int->Int->Prop}{g:Int->Int->Int}
  (rule:∀ (i j:Int) (t u:Tok) (s:Shared) (Q:Value->Shared->Prop) (E:Value->Shared->Prop),C i j->Q (.int (g i j) s.toks) {s with toks:=s.toks+1}->wpAny (model X.prog X.w) X.A (f (.int i t) (.int j u)) Q E s) :
  OpR X f (rI C λ i j=>.int (g i j)):=by
 intro pins s σ H x y v u Q I rx ry h
 obtain⟨i,j,rfl,rfl,hc,q⟩:=h
 obtain⟨t,rfl⟩:=rx
 obtain⟨t',rfl⟩:=ry
 exact rule i j t t' s _ _ hc ⟨.int (g i j),H,I.tok _,⟨_,rfl⟩,q⟩
theorem B0 {f:Value->Value->Sem Value}{g:Int->Int->Int}
  (rule:∀ (i j:Int) (t u:Tok) (s:Shared) (Q:Value->Shared->Prop) (E:Value->Shared->Prop),Q (.int (g i j) s.toks) {s with toks:=s.toks+1}->wpAny (model X.prog X.w) X.A (f (.int i t) (.int j u)) Q E s) :
  OpR X f (rI0 λ i j=>.int (g i j)):=by
 intro pins s σ H x y v u Q I rx ry h
 obtain⟨i,j,rfl,rfl,q⟩:=h
 obtain⟨t,rfl⟩:=rx
 obtain⟨t',rfl⟩:=ry
 exact rule i j t t' s _ _ ⟨.int (g i j),H,I.tok _,⟨_,rfl⟩,q⟩
theorem yv {f:Value->Value->Sem Value}{g:Int->Int->Bool}
  (rule:∀ (i j:Int) (t u:Tok) (s:Shared) (Q:Value->Shared->Prop) (E:Value->Shared->Prop),Q (.bool (g i j)) s->wpAny (model X.prog X.w) X.A (f (.int i t) (.int j u)) Q E s) :
  OpR X f (rI0 λ i j=>.bl (g i j)):=by
 intro pins s σ H x y v u Q I rx ry h
 obtain⟨i,j,rfl,rfl,q⟩:=h
 obtain⟨t,rfl⟩:=rx
 obtain⟨t',rfl⟩:=ry
 exact rule i j t t' s _ _ ⟨.bl (g i j),H,I,rfl,q⟩
def C1 (i j:Int):Prop:=0<j/\j<1073741824
def BA (i j:Int):Prop:=(-(2^64)<i/\i<2^64)∨(-(2^64)<j/\j<2^64)
theorem BA.ok {i j:Int} (h:BA i j):IntMulOk i j:=by
 rcases h with ⟨h1,h2⟩ | ⟨h1,h2⟩
 ·exact .of_left (intBits_le_64 h1 h2)
 ·exact .of_right (intBits_le_64 h1 h2)
theorem aV:OpR X (binaryOp .Add) (rI0 λ i j=>.int (i+j)):=B0 λ _ _ _ _ _ _ _ q=>add_int q
theorem ck:OpR X (binaryOp .Sub) (rI0 λ i j=>.int (i-j)):=B0 λ _ _ _ _ _ _ _ q=>sub_int q
theorem we:OpR X (binaryOp .Mult) (rI BA λ i j=>.int (i*j)):=opI λ _ _ _ _ _ _ _ hc q=>mul_int q hc.ok
theorem hW:OpR X (binaryOp .FloorDiv) (rI C1 λ i j=>.int (i / j)):=opI λ i j _ _ _ _ _ hc q=>by
 have h1:(0:Int)<j:=hc.1
 have h2:j<1073741824:=hc.2
 exact floordiv_int (by omega) (by rw[Int.fdiv_eq_ediv_of_nonneg i (by omega)];exact q) (.inl (PyProof.noPylong_small (by omega)))
theorem cn:OpR X (binaryOp .Mod) (rI (λ _ j=>0<j) λ i j=>.int (i%j)):=opI λ i j _ _ _ _ _ hc q=>by
 have h1:(0:Int)<j:=hc
 exact mod_int' (by omega) (by rw[Int.fmod_eq_emod_of_nonneg i (by omega)];exact q)
theorem unI {f:Value->Sem Value}{g:Int->Int}
  (rule:∀ (i:Int) (t:Tok) (s:Shared) (Q:Value->Shared->Prop) (E:Value->Shared->Prop),Q (.int (g i) s.toks) {s with toks:=s.toks+1}->wpAny (model X.prog X.w) X.A (f (.int i t)) Q E s) :
  UnR X f (rU λ i=>.int (g i)):=by
 intro pins s σ H x v Q I rx h
 obtain⟨i,rfl,q⟩:=h
 obtain⟨t,rfl⟩:=rx
 exact rule i t s _ _ ⟨.int (g i),H,I.tok _,⟨_,rfl⟩,q⟩
theorem gI:UnR X (unaryOp .USub) (rU λ i=>.int (-i)):=unI λ _ _ _ _ _ q=>neg_int q
end
def xV:V->V->Bool
 | .non,.non=>true | .non,.int _=>true | .int _,.non=>true | .non,.bl _=>true | .bl _,.non=>true | .non,.str _=>true | .str _,.non=>true
 | .int _,.int _=>true | .bl _,.bl _=>true | .str _,.str _=>true | .byt _,.byt _=>true
 | .int _,.str _=>true | .str _,.int _=>true | .bl _,.str _=>true | .str _,.bl _=>true
 | _,_=>false
def rEq:R2:=λ x y H Q=>xV x y=true/\Q (.bl (decide (x=y))) H
def rNe:R2:=λ x y H Q=>xV x y=true/\Q (.bl (!decide (x=y))) H
theorem iy {i j:Int}:decide (V.int i=V.int j)=(i == j):=by
 rw[Bool.eq_iff_iff]
 simp
theorem xk {i j:Bool}:decide (V.bl i=V.bl j)=(i == j):=by
 rw[Bool.eq_iff_iff]
 simp
theorem sN {i j:Str}:decide (V.str i=V.str j)=(i == j):=by
 rw[Bool.eq_iff_iff]
 simp
theorem sO {i j:Array UInt8}:decide (V.byt i=V.byt j)=(i.toList == j.toList):=by
 rw[Bool.eq_iff_iff]
 cases i
 cases j
 simp
section
variable {X:Cx}{a b c:Expr}{ta tb tc:TE}{pos:Pos}
theorem aX {pins:List (Addr×Obj)}{σ:St}{H:Hp}{s:Shared}{Q:VK}{k k':Bool} (I:Inv X pins σ H s) (q:Q (.bl k) H) (e:k=k'):EP X pins σ Q (.bool k') s:=by
 subst e
 exact⟨.bl k,H,I,rfl,q⟩
theorem gD:OpR X (compareOp .Eq) rEq:=by
 intro pins s σ H x y v u Q I rx ry h
 obtain⟨hs,q⟩:=h
 cases x with
 | non =>
  cases rx
  cases y with
  | non=>cases ry;exact PySem.EqNone.eq_none_none (aX I q (by simp))
  | bl j=>cases ry;exact PySem.EqNone.eq_none_bool (aX I q (by simp))
  | int j=>obtain⟨t',rfl⟩:=ry;exact PySem.EqNone.eq_none_int (aX I q (by simp))
  | str j=>obtain⟨t',rfl⟩:=ry;exact PySem.EqNone.eq_none_str (aX I q (by simp))
  | _=>exact absurd (show false=true from hs) Bool.false_ne_true
 | bl i =>
  cases rx
  cases y with
  | non=>cases ry;exact PySem.EqNone.eq_bool_none (aX I q (by simp))
  | bl j=>cases ry;exact eq_bool (aX I q xk)
  | str j=>obtain⟨t',rfl⟩:=ry;exact PySem.EqMixed.eq_bool_str (aX I q (by simp))
  | _=>exact absurd (show false=true from hs) Bool.false_ne_true
 | int i =>
  obtain⟨t,rfl⟩:=rx
  cases y with
  | non=>cases ry;exact PySem.EqNone.eq_int_none (aX I q (by simp))
  | int j=>obtain⟨t',rfl⟩:=ry;exact eq_int (aX I q iy)
  | str j=>obtain⟨t',rfl⟩:=ry;exact PySem.EqMixed.eq_int_str (aX I q (by simp))
  | _=>exact absurd (show false=true from hs) Bool.false_ne_true
 | str i =>
  obtain⟨t,rfl⟩:=rx
  cases y with
  | non=>cases ry;exact PySem.EqNone.eq_str_none (aX I q (by simp))
  | bl j=>cases ry;exact PySem.EqMixed.eq_str_bool (aX I q (by simp))
  | int j=>obtain⟨t',rfl⟩:=ry;exact PySem.EqMixed.eq_str_int (aX I q (by simp))
  | str j=>obtain⟨t',rfl⟩:=ry;exact eq_str (aX I q sN)
  | _=>exact absurd (show false=true from hs) Bool.false_ne_true
 | byt i =>
  obtain⟨t,rfl⟩:=rx
  cases y with
  | byt j=>obtain⟨t',rfl⟩:=ry;exact PySem.W.eq_bytes (aX I q sO)
  | _=>exact absurd (show false=true from hs) Bool.false_ne_true
 | _=>cases y<;>exact absurd (show false=true from hs) Bool.false_ne_true
theorem j9:OpR X (compareOp .NotEq) rNe:=by
 intro pins s σ H x y v u Q I rx ry h
 obtain⟨hs,q⟩:=h
 cases x with
 | non =>
  cases rx
  cases y with
  | non=>cases ry;exact PySem.EqNone.ne_none_none (aX I q (by simp))
  | bl j=>cases ry;exact PySem.EqNone.ne_none_bool (aX I q (by simp))
  | int j=>obtain⟨t',rfl⟩:=ry;exact PySem.EqNone.ne_none_int (aX I q (by simp))
  | str j=>obtain⟨t',rfl⟩:=ry;exact PySem.EqNone.ne_none_str (aX I q (by simp))
  | _=>exact absurd (show false=true from hs) Bool.false_ne_true
 | bl i =>
  cases rx
  cases y with
  | non=>cases ry;exact PySem.EqNone.ne_bool_none (aX I q (by simp))
  | bl j=>cases ry;exact ne_bool (aX I q (congrArg not xk))
  | str j=>obtain⟨t',rfl⟩:=ry;exact PySem.EqMixed.ne_bool_str (aX I q (by simp))
  | _=>exact absurd (show false=true from hs) Bool.false_ne_true
 | int i =>
  obtain⟨t,rfl⟩:=rx
  cases y with
  | non=>cases ry;exact PySem.EqNone.ne_int_none (aX I q (by simp))
  | int j=>obtain⟨t',rfl⟩:=ry;exact ne_int (aX I q (congrArg not iy))
  | str j=>obtain⟨t',rfl⟩:=ry;exact PySem.EqMixed.ne_int_str (aX I q (by simp))
  | _=>exact absurd (show false=true from hs) Bool.false_ne_true
 | str i =>
  obtain⟨t,rfl⟩:=rx
  cases y with
  | non=>cases ry;exact PySem.EqNone.ne_str_none (aX I q (by simp))
  | bl j=>cases ry;exact PySem.EqMixed.ne_str_bool (aX I q (by simp))
  | int j=>obtain⟨t',rfl⟩:=ry;exact PySem.EqMixed.ne_str_int (aX I q (by simp))
  | str j=>obtain⟨t',rfl⟩:=ry;exact ne_str (aX I q (congrArg not sN))
  | _=>exact absurd (show false=true from hs) Bool.false_ne_true
 | byt i =>
  obtain⟨t,rfl⟩:=rx
  cases y with
  | byt j=>obtain⟨t',rfl⟩:=ry;exact PySem.W.ne_bytes (aX I q (congrArg not sO))
  | _=>exact absurd (show false=true from hs) Bool.false_ne_true
 | _=>cases y<;>exact absurd (show false=true from hs) Bool.false_ne_true
theorem jf:OpR X (compareOp .Lt) (rI0 λ i j=>.bl (decide (i<j))):=yv λ _ _ _ _ _ _ _ q=>lt_int q
theorem wf:OpR X (compareOp .LtE) (rI0 λ i j=>.bl (decide (i<=j))):=yv λ _ _ _ _ _ _ _ q=>le_int q
theorem fR:OpR X (compareOp .Gt) (rI0 λ i j=>.bl (decide (j<i))):=yv λ _ _ _ _ _ _ _ q=>gt_int q
theorem zV:OpR X (compareOp .GtE) (rI0 λ i j=>.bl (decide (j<=i))):=yv λ _ _ _ _ _ _ _ q=>ge_int q
theorem m7:OpR X (compareOp .Is) (λ x y H Q=>y=.non/\Q (.bl (decide (x=.non))) H):=by
 intro pins s σ H x y v u Q I rx ry h
 obtain⟨rfl,q⟩:=h
 cases ry
 refine is_none_gen (aX I q ?_)
 cases x<;>first
  | (cases rx;rfl)
  | (obtain⟨t,rfl⟩:=rx;rfl)
theorem yr:OpR X (compareOp .IsNot) (λ x y H Q=>y=.non/\Q (.bl (!decide (x=.non))) H):=by
 intro pins s σ H x y v u Q I rx ry h
 obtain⟨rfl,q⟩:=h
 cases ry
 refine isnot_none_gen (aX I q ?_)
 cases x<;>first
  | (cases rx;rfl)
  | (obtain⟨t,rfl⟩:=rx;rfl)
theorem OpR.or {f:Value->Value->Sem Value}{r r':R2} (h:OpR X f r) (h':OpR X f r'):OpR X f (λ x y H Q=>r x y H Q∨r' x y H Q):=by
 intro pins s σ H x y v u Q I rx ry q
 rcases q with q | q
 ·exact h pins s σ H x y v u Q I rx ry q
 ·exact h' pins s σ H x y v u Q I rx ry q
theorem aL (b:Expr) {op:CmpOp} (h:op≠.In:=by decide) (h2:op≠.NotIn:=by decide):behindInMarks op b=false:=by
 have e1:(op == CmpOp.In)=false:=by cases op<;>first | rfl | exact absurd rfl h
 have e2:(op == CmpOp.NotIn)=false:=by cases op<;>first | rfl | exact absurd rfl h2
 cases b<;>simp [behindInMarks,e1,e2]
theorem gy {op:CmpOp}{r:R2} (ho:OpR X (compareOp op) r) (ha:PE X a ta) (hb:PE X b tb) (hm:behindInMarks op b=false):PE X (.Compare a [op] [b] pos) (tOp r ta tb):=by
 intro pins s σ H Q I h
 exact wpAny_Compare1 (Bu ha hb I h λ v u s2 x y H2 I2 rx ry q=>ho pins s2 σ H2 x y v u Q I2 rx ry q) hm
def BC (t:TE):TT:=λ σ H Q=>t σ H λ x H'=>∃ k,x=.bl k/\Q k H'
theorem aG {op:CmpOp}{r:R2} (ho:OpR X (compareOp op) r) (ha:PE X a ta) (hb:PE X b tb) (hm:behindInMarks op b=false):PT X (.Compare a [op] [b] pos) (BC (tOp r ta tb)):=by
 intro pins s σ H Q I h
 refine wpAny_isTrue_Compare1 (thn (ha pins s σ H _ I h) λ v s1 ⟨x,H1,I1,r1,q1⟩=>thn (hb pins s1 σ H1 _ I1 q1) λ u s2 ⟨y,H2,I2,r2,q2⟩ =>
  thn (ho pins s2 σ H2 x y v u _ I2 r1 r2 q2) λ c s3 ⟨z,H3,I3,r3,k,e,q3⟩=>?_) hm
 subst e
 cases r3
 exact wpAny_truthy_bool ⟨H3,I3,q3⟩
def Aj (r r':R2) (ta tb tc:TE):TE:=λ σ H Q=>ta σ H λ x H1=>tb σ H1 λ y H2=>r x y H2 λ z H3=>∃ k,z=.bl k /\
 (if k=true then tc σ H3 λ w' H4=>r' y w' H4 Q else Q (.bl false) H3)
theorem wa {op op':CmpOp}{r r':R2} (ho:OpR X (compareOp op) r) (ho':OpR X (compareOp op') r') (ha:PE X a ta) (hb:PE X b tb) (hc:PE X c tc)
  (hm:lastMarks [op,op'] [b,c]=false:=by with_unfolding_all rfl):PE X (.Compare a [op,op'] [b,c] pos) (Aj r r' ta tb tc):=by
 intro pins s σ H Q I h
 refine Compare_chain (thn (ha pins s σ H _ I h) λ v s1 ⟨x,H1,I1,r1,q1⟩=>chain_link (thn (hb pins s1 σ H1 _ I1 q1) λ u s2 ⟨y,H2,I2,r2,q2⟩ =>
  thn (ho pins s2 σ H2 x y v u _ I2 r1 r2 q2) λ d s3 ⟨z,H3,I3,r3,k,e,q3⟩=>?_)) hm
 subst e
 cases r3
 refine wpAny_truthy_bool ?_
 cases k with
 | false=>exact ite_ff ⟨.bl false,H3,I3,rfl,q3⟩
 | true=>exact ite_tt (chain_last (thn (hc pins s3 σ H3 _ I3 q3) λ w' s4 ⟨z',H4,I4,r4,q4⟩=>ho' pins s4 σ H4 y z' u w' Q I4 r2 r4 q4))
theorem kd:(sizeLine:Nat)<2^63:=by rw[sizeLine_eq];decide
theorem jy {x:V}{us:List Value} (r:aM [x] us):∃ u,us = [u]/\a8 x u:=by
 cases r with
 | cons r1 r2=>cases r2;exact⟨_,rfl,r1⟩
theorem qU {x y:V}{us:List Value} (r:aM [x,y] us):∃ u w',us = [u,w']/\a8 x u/\a8 y w':=by
 cases r with
 | cons r1 r2 =>
  cases r2 with
  | cons r3 r4=>cases r4;exact⟨_,_,rfl,r1,r3⟩
theorem pJ:cO X (.builtin "abs") (λ xs H Q=>∃ i,xs = [.int i]/\Q (.int (if i<0 then -i else i)) H):=by
 intro pins s σ H xs us Q I r h
 obtain⟨i,rfl,q⟩:=h
 obtain⟨u,rfl,t,rfl⟩:=jy r
 exact call_abs_int λ u tk=>⟨.int (if i<0 then -i else i),H,I.tok _,⟨_,rfl⟩,q⟩
theorem uL (hc:X.calm=true):cO X (.builtin "max") (λ xs H Q=>∃ i j,xs = [.int i,.int j]/\Q (.int (if j>i then j else i)) H):=by
 intro pins s σ H xs us Q I r h
 obtain⟨i,j,rfl,q⟩:=h
 obtain⟨u,w',rfl,⟨t,rfl⟩,⟨t',rfl⟩⟩:=qU r
 refine max_two_ints (I.ok.hd hc) λ h' tk k=>⟨_,H,I.kept k,?_,q⟩
 by_cases hj:j>i
 ·rw[if_pos hj,if_pos hj];exact⟨_,rfl⟩
 ·rw[if_neg hj,if_neg hj];exact⟨_,rfl⟩
theorem uK (hc:X.calm=true):cO X (.builtin "min") (λ xs H Q=>∃ i j,xs = [.int i,.int j]/\Q (.int (if j<i then j else i)) H):=by
 intro pins s σ H xs us Q I r h
 obtain⟨i,j,rfl,q⟩:=h
 obtain⟨u,w',rfl,⟨t,rfl⟩,⟨t',rfl⟩⟩:=qU r
 refine min_two_ints (I.ok.hd hc) λ h' tk k=>⟨_,H,I.kept k,?_,q⟩
 by_cases hj:j<i
 ·rw[if_pos hj,if_pos hj];exact⟨_,rfl⟩
 ·rw[if_neg hj,if_neg hj];exact⟨_,rfl⟩
end
end L2
namespace L2
open PySem PySem.Spec PyProof.Rows
structure By (h:Heap) (x dx C:Addr) (mA:Str->Option Value):Prop where
 obj:h.get? x=some (PySem.W.instObj C dx)
 ns:h.Ns1 dx mA
 ne:dx≠x
theorem ug {h:Heap}{dx:Addr}{mA:Str->Option Value} (n:h.Ns1 dx mA):∃ od,h.get? dx=some od/\∀ name,PySem.W.lookIn name od=some (mA name):=by
 obtain⟨o,es,ep,ho,hd,hk,_,hm⟩:=n
 refine⟨o,ho,λ name=>?_⟩
 have e:=hm name
 unfold nsFind findBy at e
 rw[<-Array.find?_toList] at e
 unfold PySem.W.lookIn
 rw[hd]
 dsimp only
 split
 ·rename_i y q
  rw[q] at e
  exact congrArg some e
 ·rename_i q
  rw[q] at e
  have a:es.toList.any (·.refKey)=false:=by
   rw[List.any_eq_false]
   intro y hy
   obtain⟨z,t,hkey⟩:=hk y (Array.mem_toList_iff.mp hy)
   simp [DictEntry.refKey,hkey]
  have a':¬ es.toList.any (·.refKey)=true:=by rw[a];exact Bool.false_ne_true
  rw[if_neg a']
  exact congrArg some e
theorem By.look {h:Heap}{x dx C:Addr}{mA:Str->Option Value} (I:By h x dx C mA):∃ od,PySem.W.InstAt h x (PySem.W.instObj C dx) C (some od)/\∀ name,PySem.W.lookIn name od=some (mA name) :=
 let ⟨od,ho,hl⟩:=ug I.ns
 ⟨od,⟨I.obj,rfl,rfl,ho⟩,hl⟩
section
variable {prog:Program}{w:World}{A:Around}{E:Value->Shared->Prop}{s:Shared}{K:PySem.W.Frag}{x dx C f:Addr}{mA:Str->Option Value}{name:Str}{v:Value}
end
section
variable {P:Program}{w:World}{H H':Hp}{h h':Heap}{a C dx:Addr}{fs fs':List (Str×V)}
theorem yR (hok:HOk P w H h) (e:H a=some (.ins C dx fs)):∃ mA,By h a dx C mA/\(∀ f,Bx (fs.lookup f) (mA f))/\PySem.Within mA (fs.map (·.1))/\fs.length<=1000/\H dx=some (.own a):=by
 obtain⟨d,z,ne,ob,mA,n,r,q⟩:=(show aN P w H h a (.ins C dx fs) from hok a _ e)
 exact⟨mA,⟨ob,n,ne⟩,r,q,z,d⟩
end
structure Cls (K:PySem.W.Frag) (C:Addr):Prop where
 pg:PySem.W.plainGet K C Str.empty=true
 hd:PySem.W.hasDictIn K C=true
 po:PySem.W.plainOver K C=true
 sa:PySem.W.findIn K (.ref C) "__setattr__" = some (some (.builtin "object.__setattr__"))
theorem Cls.get {K:PySem.W.Frag}{C:Addr} (c:Cls K C) (f:Str):PySem.W.plainGet K C f=true:=c.pg
structure Con (K:PySem.W.Frag) (C:Addr) (f:Str) (v:V) (u:Value):Prop where
 at_:PySem.W.findIn K (.ref C) f=some (some u)
 rel:a8 v u
 get:PySem.W.specialIn K u "__get__" = some none
 cp:PySem.W.copiedNames.contains f=false
structure C3 (K:PySem.W.Frag) (C:Addr) (m:Str) (f:Addr):Prop where
 at_:PySem.W.findIn K (.ref C) m=some (some (.ref f))
 fn:PySem.W.isFn K (.ref f)=true
 kp:PySem.W.keepIn K (.ref f)=true
section
variable {X:Cx}{pins:List (Addr×Obj)}{σ:St}{H:Hp}{s:Shared}{a C dx:Addr}{fs:List (Str×V)}{f:Str}{v:V}{A:Around}{E:Value->Shared->Prop}
theorem Inv.made (I:Inv X pins σ H s):Inv X pins σ (upd (upd H s.heap.objs.size (.own (s.heap.objs.size+1))) (s.heap.objs.size+1) (.ins C s.heap.objs.size []))
  {s with heap:=(s.heap.push PySem.W.emptyDict).push (PySem.W.instObj C s.heap.objs.size)}:=by
 have e1:(s.heap.push PySem.W.emptyDict).get? s.heap.objs.size=some PySem.W.emptyDict:=Heap.get?_push_size s.heap rfl
 have e2:((s.heap.push PySem.W.emptyDict).push (PySem.W.instObj C s.heap.objs.size)).get? (s.heap.objs.size+1)=some (PySem.W.instObj C s.heap.objs.size):=by
  have:=Heap.get?_push_size (s.heap.push PySem.W.emptyDict) (o:=PySem.W.instObj C s.heap.objs.size) rfl
  rwa [Heap.size_push] at this
 have e3:(s.heap.push PySem.W.emptyDict).Ns s.heap.objs.size (λ _=>none):=⟨PySem.W.emptyDict,#[],_,e1,rfl,(λ e he=>absurd he (by simp)),λ _=>rfl⟩
 have I1:=I.laid (a:=s.heap.objs.size) (o:=.own (s.heap.objs.size+1)) (h':=s.heap.push PySem.W.emptyDict) (t':=s.toks) (λ b u q=>Heap.get?_push_of_some _ q) (Nat.le_refl _) ⟨_,e1⟩
 refine I1.laid (a:=s.heap.objs.size+1) (o:=.ins C s.heap.objs.size []) (t':=s.toks) (λ b u q=>Heap.get?_push_of_some _ q) (Nat.le_of_eq (Heap.size_push _ _)) ?_
 have ne:s.heap.objs.size≠s.heap.objs.size+1:=Nat.ne_of_lt (Nat.lt_succ_self _)
 refine⟨by rw[al ne,ad],Nat.zero_le _,ne,e2,λ _=>none,(Heap.Ns1.of_empty e3).at λ o q=>Heap.get?_push_of_some _ q,λ _=>True.intro,λ y hy=>absurd rfl hy⟩
end
section
variable {X:Cx}{o e value:Expr}{f:Str}{pos pos' tpos:Pos}{ta tv:TE}
end
section
variable {X:Cx}{pins:List (Addr×Obj)}{σ:St}{H:Hp}{s:Shared}{A:Around}{E:Value->Shared->Prop}{Q:Value->Shared->Prop}{c:Value}{b:Bool}
inductive iB (K:PySem.W.Frag) (H:Hp):V->Value->Prop where
 | non:iB K H .non (.type "NoneType")
 | bl (x:Bool):iB K H (.bl x) (.type "bool")
 | int (i:Int):iB K H (.int i) (.type "int")
 | str (x:Str):iB K H (.str x) (.type "str")
 | flt (x:UInt64):iB K H (.flt x) (.type "float")
 | lst {a:Addr}{xs:List V} (e:H a=some (.lst xs)):iB K H (.ref a) (.type "list")
 | frz {a:Addr}{o:Obj}{xs:List V} (e:H a=some (.frz o (.lst xs))):iB K H (.ref a) (.type "list")
 | tup {a:Addr}{xs:List V} (e:H a=some (.tup xs)):iB K H (.ref a) (.type "tuple")
 | dK {a:Addr}{kvs:List (Key×V)} (e:H a=some (.dK kvs)):iB K H (.ref a) (.type "dict")
 | dT {a:Addr}{kvs:List (List Key×V)} (e:H a=some (.dT kvs)):iB K H (.ref a) (.type "dict")
 | ins {a C dx:Addr}{fs:List (Str×V)} (e:H a=some (.ins C dx fs)) (cl:Cls K C) (ha:PySem.W.findIn K (.ref C) "__class__" = some (some (.builtin "object.__class__")))
   (hn:PySem.W.specialIn K (.builtin "object.__class__") "__get__" = some (some (.builtin "getset_descriptor.__get__"))) (htk:PySem.W.takesIn K (.builtin "object.__class__")=some true)
   (hm:PySem.W.mroIn K C (.type "object")=some true):iB K H (.ref a) (.ref C)
theorem uo {x:V}{u t:Value} (I:Inv X pins σ H s) (rx:a8 x u) (ty:iB X.K H x t) (e:PySem.W.kitOne X.K t c=some b) (h:∀ tk,Q (.bool b) {s with toks:=tk}) :
  wpAny (model X.prog X.w) A (call (.builtin "isinstance") [u,c]) Q E s:=by
 cases ty with
 | non=>cases (show u=Value.none from rx);exact PySem.W.kia_one PySem.W.kitx_none I.kIn True.intro e (λ z=>nomatch z) h
 | bl y=>cases (show u=Value.bool y from rx);exact PySem.W.kia_one PySem.W.kitx_bool I.kIn True.intro e (λ z=>nomatch z) h
 | int i=>obtain⟨t,q⟩:=(show ∃ t,u=Value.int i t from rx);cases q;exact PySem.W.kia_one PySem.W.kitx_int I.kIn True.intro e (λ z=>nomatch z) h
 | str y=>obtain⟨t,q⟩:=(show ∃ t,u=Value.str y t from rx);cases q;exact PySem.W.kia_one PySem.W.kitx_str I.kIn True.intro e (λ z=>nomatch z) h
 | flt y=>obtain⟨t,q⟩:=(show ∃ t,u=Value.float y t from rx);cases q;exact PySem.W.kia_one PySem.W.kitx_float I.kIn True.intro e (λ z=>nomatch z) h
 | @lst a xs ea =>
  cases (show u=Value.ref a from rx)
  obtain⟨_,_,n,_,h1⟩:=(show aN X.prog X.w H s.heap a (.lst xs) from I.hok a _ ea)
  exact PySem.W.kia_one PySem.W.kitx_list I.kIn ⟨_,h1,rfl⟩ e (λ z=>nomatch z) h
 | @frz a ob xs ea =>
  cases (show u=Value.ref a from rx)
  obtain⟨_,_,_,n,_,h1⟩:=(show aN X.prog X.w H s.heap a (.frz ob (.lst xs)) from I.hok a _ ea)
  exact PySem.W.kia_one PySem.W.kitx_list I.kIn ⟨_,h1,rfl⟩ e (λ z=>nomatch z) h
 | @tup a xs ea =>
  cases (show u=Value.ref a from rx)
  obtain⟨_,_,_,p⟩:=(show aN X.prog X.w H s.heap a (.tup xs) from I.hok a _ ea)
  obtain⟨o,h1,h2,_⟩:=p
  exact PySem.W.kia_one PySem.W.kitx_tuple I.kIn ⟨o,h1,h2⟩ e (λ z=>nomatch z) h
 | @dK a kvs ea =>
  cases (show u=Value.ref a from rx)
  obtain⟨_,_,vs,_,p⟩:=(show aN X.prog X.w H s.heap a (.dK kvs) from I.hok a _ ea)
  obtain⟨o,es,ep,h1,h2,_⟩:=p
  exact PySem.W.kia_one PySem.W.kitx_dict I.kIn ⟨o,h1,h2.1⟩ e (λ z=>nomatch z) h
 | @dT a kvs ea =>
  cases (show u=Value.ref a from rx)
  obtain⟨_,_,xs,_,o,es,ep,h1,h2,_⟩:=(show aN X.prog X.w H s.heap a (.dT kvs) from I.hok a _ ea)
  exact PySem.W.kia_one PySem.W.kitx_dict I.kIn ⟨o,h1,h2.1⟩ e (λ z=>nomatch z) h
 | @ins a C dx fs ea cl ha hn htk hm =>
  cases (show u=Value.ref a from rx)
  obtain⟨mA,O,_⟩:=yR I.hok ea
  obtain⟨od,J,_⟩:=O.look
  exact PySem.W.kia_one (PySem.W.kitx_own (cl.get _) cl.hd ha hn htk hm) I.kIn J e (λ z=>nomatch z) h
end
end L2
namespace L2
open PySem PySem.Spec PyProof.Rows
structure db (k:Nat) (A:Around):Prop where
 hd:A.handled=none
 dp:A.depth+3*k+5<recursionLimit
 un:A.units+16*k+200<cLine
theorem db.mono {j k:Nat}{A:Around} (r:db k A) (h:j<=k):db j A:=⟨r.hd,by have:=r.dp;omega,by have:=r.un;omega⟩
theorem db.deeper {k:Nat}{A:Around} (r:db (k+1) A) (env:Env):db k (A.deeper env) :=
 ⟨r.hd,by have:=r.dp;show A.depth+1+3*k+5<_;omega,by have:=r.un;show A.units+3+16*k+200<_;omega⟩
theorem db.in1 {k:Nat}{A:Around} (r:db (k+1) A):db k A.in1 :=
 ⟨r.hd,by have:=r.dp;show A.depth+3*k+5<_;omega,by have:=r.un;show A.units+1+16*k+200<_;omega⟩
theorem db.depth {k:Nat}{A:Around} (r:db k A):A.depth<recursionLimit:=by have:=r.dp;omega
theorem db.units {k:Nat}{A:Around} (r:db k A):A.units+64<cLine:=by have:=r.un;omega
def BG:TA:=λ _ H Q=>Q [] H
def qX (ta:TE) (tr:TA):TA:=λ σ H Q=>ta σ H λ x H1=>tr σ H1 λ xs H2=>Q (x::xs) H2
section
variable {X:Cx}{e:Expr}{es:List Expr}{te:TE}{t:TA}{pos:Pos}
theorem ac:PA X [] BG:=λ _ _ _ _ H Q I h=>Calls.spliced_nil ⟨[],H,I,.nil,h⟩
theorem aa (ha:PE X e te) (hr:PA X es t) (hs:starEach (e::es) X.env=(false,eval e X.env)::starEach es X.env:=by rfl):PA X (e::es) (qX te t):=by
 intro pos pins s σ H Q I h
 rw[hs]
 show wpAny _ _ (spliced ((false,eval e X.env)::backTo pos (starEach es X.env))) _ _ s
 refine Calls.spliced_cons (thn (ha pins s σ H _ I h) λ u s1 ⟨x,H1,I1,r1,q1⟩=>?_)
 exact thn (hr pos pins s1 σ H1 _ I1 q1) λ us s2 ⟨xs,H2,I2,r2,q2⟩=>⟨x::xs,H2,I2,.cons r1 r2,q2⟩
def Cw (t:TA):TE:=λ σ H Q=>t σ H λ xs H1=>xs.length<=sizeLine/\∀ p,H1 p=none->Q (.ref p) (upd H1 p (.tup xs))
def CB (t:TA):TE:=λ σ H Q=>t σ H λ xs H1=>xs.length<=sizeLine/\∀ p,H1 p=none->Q (.ref p) (upd H1 p (.lst xs))
theorem aQ {x1} (h:PA X es t):PE X (.Tuple es x1 pos) (Cw t):=by
 intro pins s σ H Q I hq
 refine wpAny_Tuple_spliced (thn (h pos pins s σ H _ I hq) λ us s1 ⟨xs,H1,I1,r,z,q⟩=>⟨by rw[<-r.length];exact z,?_⟩)
 have hf:H1 s1.heap.objs.size=none:=I1.hok.fresh (Nat.le_refl _)
 refine⟨.ref s1.heap.objs.size,upd H1 s1.heap.objs.size (.tup xs),I1.laid (t':=s1.toks) (λ b u e=>Heap.get?_push_of_some _ e) (Nat.le_refl _) ?_,rfl,q _ hf⟩
 exact⟨z,us,r,⟨_,Heap.get?_push_size _ rfl,rfl,_,rfl⟩⟩
theorem cP (h:PA X es t):PE X (.List es pos) (CB t):=by
 intro pins s σ H Q I hq
 refine wpAny_List_spliced (thn (h pos pins s σ H _ I hq) λ us s1 ⟨xs,H1,I1,r,z,q⟩=>⟨by rw[<-r.length];exact z,?_⟩)
 have hf:H1 s1.heap.objs.size=none:=I1.hok.fresh (Nat.le_refl _)
 refine⟨.ref s1.heap.objs.size,upd H1 s1.heap.objs.size (.lst xs),I1.laid (t':=s1.toks) (λ b u e=>Heap.get?_push_of_some _ e) (Nat.le_refl _) ?_,rfl,q _ hf⟩
 exact⟨z,us,0,r,Heap.get?_push_size _ rfl⟩
end
abbrev Sp:=List V->Hp->VK->XK->Prop
abbrev CXT:=List Env->Hp->Shared->XK->Value->Shared->Prop
structure kR (P:Program) (w:World) (K:PySem.W.Frag) (mg:Str->Option Value) (base:Heap) (A:Around) (outer:List Env) (s:Shared) (H:Hp):Prop where
 frames:A.frames=some outer
 mod:Mod K mg base
 bs:∀ b o,base.get? b=some o->s.heap.get? b=some o/\H b=none
 bsz:base.objs.size<=s.heap.objs.size
 funs:s.heap.FunFrames base outer
 frf:∀ b∈frs outer,H b=none
 hok:HOk P w H s.heap
 bare:AllBare s.gens
def CE (outer:List Env) (P:Program) (w:World) (H:Hp) (s:Shared) (Q:VK) (u:Value) (s':Shared):Prop :=
 ∃ v H',s'.os=s.os/\AllBare s'.gens/\Un (frs outer) [] H H' s.heap s'.heap/\HOk P w H' s'.heap/\a8 v u/\Q v H'
def CR (CX:CXT) (outer:List Env) (P:Program) (w:World) (H:Hp) (s:Shared) (Q:VK) (E:XK) (r:Result) (s':Shared):Prop :=
 match r with
 | .ok (.ret u)=>CE outer P w H s Q u s'
 | .ok _=>False
 | .error e=>CX outer H s E e s'
structure ax (P:Program) (w:World) (K:PySem.W.Frag) (mg:Str->Option Value) (base:Heap) (CX:CXT) (k:Nat) (f:Addr) (fd:FuncData) (ps:List Str) (sp:Sp):Prop where
 len:∀ vs H Q E,sp vs H Q E->vs.length=ps.length
 run:∀ (A:Around) (outer:List Env) (s:Shared) (H:Hp) (args:Args) (us:List Value) (vs:List V) (Q:VK) (E:XK),db k A->kR P w K mg base A outer s H->BindsTo s fd args (ps.zip us)->aM vs us->sp vs H Q E ->
  codeAny (model P w) A (.call (.ref f) args) (CR CX outer P w H s Q E) s
theorem ax.mono {P:Program}{w:World}{K:PySem.W.Frag}{mg:Str->Option Value}{base:Heap}{CX:CXT}{j k:Nat}{f:Addr}{fd:FuncData}{ps:List Str}{sp:Sp} (F:ax P w K mg base CX j f fd ps sp) (h:j<=k) :
  ax P w K mg base CX k f fd ps sp:=⟨F.len,λ A outer s H args us vs Q E hr=>F.run A outer s H args us vs Q E (hr.mono h)⟩
theorem ax.imp {P:Program}{w:World}{K:PySem.W.Frag}{mg:Str->Option Value}{base:Heap}{CX:CXT}{k:Nat}{f:Addr}{fd:FuncData}{ps:List Str}{sp sp':Sp} (F:ax P w K mg base CX k f fd ps sp)
  (h:∀ vs H Q E,sp' vs H Q E->sp vs H Q E):ax P w K mg base CX k f fd ps sp' :=
 ⟨λ vs H Q E q=>F.len vs H Q E (h _ _ _ _ q),λ A outer s H args us vs Q E hr he hb hv hs=>F.run A outer s H args us vs Q E hr he hb hv (h _ _ _ _ hs)⟩
theorem kR.in1 {P:Program}{w:World}{K:PySem.W.Frag}{mg:Str->Option Value}{base:Heap}{A:Around}{outer:List Env}{s:Shared}{H:Hp} (e:kR P w K mg base A outer s H) :
  kR P w K mg base A.in1 outer s H:=⟨e.frames,e.mod,e.bs,e.bsz,e.funs,e.frf,e.hok,e.bare⟩
section
variable {X:Cx}{pins:List (Addr×Obj)}{σ:St}{H:Hp}{s s':Shared}
theorem Inv.env0 (I:Inv X pins σ H s):kR X.prog X.w X.K X.mg X.base X.A X.stack s H :=
 ⟨I.ok.frames,I.ok.mod,I.bs,Nat.le_trans I.ok.bsz I.sz,I.stack,I.stkFree,I.hok,I.bare⟩
theorem Inv.after {Q:VK}{u:Value} (I:Inv X pins σ H s) (h:CE X.stack X.prog X.w H s Q u s'):EP X pins σ Q u s':=by
 obtain⟨v,H',os,bare,un,hok,r,q⟩:=h
 obtain⟨hh,g,d,t,os'⟩:=s'
 obtain rfl:os'=s.os:=os
 exact⟨v,H',I.call (h':=hh) (g':=g) (d':=d) (t':=t) (ch:=[]) un hok bare (λ b z=>absurd z (by simp)),r,q⟩
end
def BL (sp:Sp) (dvs:List V) (E:XK) (t:TA):TE:=λ σ H Q=>t σ H λ vs H1=>sp (vs++dvs) H1 Q E
def aE (K:PySem.W.Frag) (fd:FuncData) (ps:List Str) (ds:List Value):Prop :=
 ∀ (s:Shared) (us:List Value),K.In s.heap->(us++ds).length=ps.length->BindsTo s fd ⟨us,[]⟩ (ps.zip (us++ds))
theorem aE.all {K:PySem.W.Frag}{fd:FuncData}{ps:List Str} (h:∀ us:List Value,us.length=ps.length->bindArgs fd ⟨us,[]⟩=pure (ps.zip us)):aE K fd ps []:=λ s us _ hl=>by
 rw[List.append_nil] at hl ⊢
 exact .of_eq (h us hl)
def i9 (CX:CXT) (X:Cx) (E:XK):Prop:=∀ (pins:List (Addr×Obj)) (σ:St) (H:Hp) (s:Shared) (e:Value) (s':Shared),Inv X pins σ H s->CX X.stack H s E e s'->X.xe e s'
section
variable {X:Cx}{CX:CXT}{k:Nat}{f C:Addr}{fd:FuncData}{ps:List Str}{sp:Sp}{dvs:List V}{ds:List Value}{E:XK}{x m:Str}{p pos apos:Pos}{e o:Expr}{es:List Expr}{ta:TE}{t:TA}
theorem vT {pins:List (Addr×Obj)}{σ:St}{H:Hp}{s:Shared}{Q:VK}{us:List Value}{vs:List V} (F:ax X.prog X.w X.K X.mg X.base CX k f fd ps sp) (hr:db k X.A) (hb:aE X.K fd ps ds) (hd:aM dvs ds) (hx:i9 CX X E)
  (I:Inv X pins σ H s) (r:aM vs us) (h:sp (vs++dvs) H Q E):wpAny (model X.prog X.w) X.A (call (.ref f) us) (EP X pins σ Q) X.xe s:=by
 have r2:aM (vs++dvs) (us++ds):=r.append hd
 have hl:(us++ds).length=ps.length:=by rw[<-r2.length];exact F.len _ _ _ _ h
 refine wpAny_call (codeAny_mono (F.run X.A X.stack s H ⟨us,[]⟩ (us++ds) (vs++dvs) Q E hr I.env0 (hb s us I.kIn hl) r2 h) λ r s' hq=>?_)
 cases r with
 | error e=>exact hx pins σ H s e s' I hq
 | ok fl =>
  cases fl with
  | ret u=>exact I.after hq
  | next=>exact False.elim hq
  | brk=>exact False.elim hq
  | cont=>exact False.elim hq
theorem aj (F:ax X.prog X.w X.K X.mg X.base CX k f fd ps sp) (hr:db k X.A) (hg:Gl X x) (hm:X.mg x=some (.ref f)) (hk:PySem.W.keepIn X.K (.ref f)=true) (hb:aE X.K fd ps ds) (hd:aM dvs ds) (hx:i9 CX X E)
  (ha:PA X (e::es) t) (hdb:(x == ("__debug__":Str))=false:=by decide) (he:starEach (e::es) X.env=(false,eval e X.env)::starEach es X.env:=by rfl) (hpl:(backTo pos (starEach es X.env)).any (·.1)=false:=by rfl) :
  PE X (.Call (.Name x p) (e::es) [] pos) (BL sp dvs E t):=by
 intro pins s σ H Q I h
 refine wpAny_Call_Name_kw (hZ I hg hm ?_ hdb)
 refine PySem.W.callWith_K (h₀:=X.base) I.ok.mod.kin hk (thn (ha pos pins s σ H _ I h) λ us s1 ⟨vs,H1,I1,r,q⟩=>⟨I1.kIn,?_⟩) he hpl
 exact vT F hr hb hd hx I1 r q
structure Mk (K:PySem.W.Frag) (C f:Addr):Prop where
 makes:PySem.W.makesIn K C=true
 init:PySem.W.findIn K (.ref C) "__init__" = some (some (.ref f))
 fn:PySem.W.isFn K (.ref f)=true
 kp:PySem.W.keepIn K (.ref C)=true
end
section
variable {X:Cx}{CX:CXT}{k:Nat}{f C:Addr}{fd:FuncData}{ps ks:List Str}{sp:Sp}{E:XK}{x m:Str}{p pos apos kpos:Pos}{e o:Expr}{es:List Expr}{kws:List Keyword}{te ta:TE}{t tk:TA}{nm:Option Str}
structure C0 (K:PySem.W.Frag) (fd:FuncData) (ps ks:List Str) (g:List Value->List Value->List Value) (gV:List V->List V->List V):Prop where
 to:∀ (s:Shared) (us ws:List Value),K.In s.heap->(g us ws).length=ps.length->BindsTo s fd ⟨us,ks.zip ws⟩ (ps.zip (g us ws))
 rel:∀ {vs:List V}{us:List Value}{zs:List V}{ws:List Value},aM vs us->aM zs ws->aM (gV vs zs) (g us ws)
variable {g:List Value->List Value->List Value}{gV:List V->List V->List V}
end
structure aA (N P:List Str) (sc:Scope):Prop where
 kind:sc.kind=.function
 co:sc.isCoroutine=false
 gen:sc.isGenerator=false
 nd:N.Nodup
 pre:N.take P.length=P
 par:∀ x∈P,sc.names.lookup x=some .local∨sc.names.lookup x=some .cell
 nofree:∀ y∈sc.names,y.2≠.free
theorem md {kindOf:Str->Option NameKind}{x:Str}:∀ {binds:List (Str×Value)}{m:Str->Option Value},(∀ v,(x,v) ∉ binds)->bindL kindOf binds m x=m x
 | [],_,_=>rfl
 | (n,v)::r,m,h=>by
  unfold bindL
  rw[md λ w hw=>h w (List.mem_cons_of_mem _ hw)]
  split
  ·have:x≠n:=by rintro rfl;exact h v List.mem_cons_self
   simp [this]
  ·rfl
theorem mh {kindOf:Str->Option NameKind}{x:Str}:∀ {binds:List (Str×Value)}{m:Str->Option Value},(∀ v,(x,v) ∉ binds)->bindC kindOf binds m x=m x
 | [],_,_=>rfl
 | (n,v)::r,m,h=>by
  unfold bindC
  rw[mh λ w hw=>h w (List.mem_cons_of_mem _ hw)]
  split
  ·rfl
  ·have:x≠n:=by rintro rfl;exact h v List.mem_cons_self
   simp [this]
theorem me {kindOf:Str->Option NameKind}{x:Str}{v:Value}:∀ {P:List Str}{vs:List Value}{i:Nat}{m:Str->Option Value},P.Nodup->P[i]? = some x->vs[i]? = some v->kindOf x=some .local ->
  bindL kindOf (P.zip vs) m x=some v
 | [],_,_,_,_,h,_,_=>by simp at h
 | _::_,[],_,_,_,_,h,_=>by simp at h
 | p::P,w::vs,0,m,nd,h1,h2,hk=>by
  simp at h1 h2;subst h1;subst h2
  show bindL kindOf ((p,w)::P.zip vs) m p=_
  unfold bindL
  rw[md λ v hv=>(List.nodup_cons.mp nd).1 (List.of_mem_zip hv).1,if_pos hk]
  simp
 | p::P,w::vs,i+1,m,nd,h1,h2,hk=>by
  show bindL kindOf ((p,w)::P.zip vs) m x=_
  unfold bindL
  exact me (i:=i) (List.nodup_cons.mp nd).2 (by simpa using h1) (by simpa using h2) hk
theorem mi {kindOf:Str->Option NameKind}{x:Str}{v:Value}:∀ {P:List Str}{vs:List Value}{i:Nat}{m:Str->Option Value},P.Nodup->P[i]? = some x->vs[i]? = some v->kindOf x≠some .local ->
  bindC kindOf (P.zip vs) m x=some v
 | [],_,_,_,_,h,_,_=>by simp at h
 | _::_,[],_,_,_,_,h,_=>by simp at h
 | p::P,w::vs,0,m,nd,h1,h2,hk=>by
  simp at h1 h2;subst h1;subst h2
  show bindC kindOf ((p,w)::P.zip vs) m p=_
  unfold bindC
  rw[mh λ v hv=>(List.nodup_cons.mp nd).1 (List.of_mem_zip hv).1,if_neg hk]
  simp
 | p::P,w::vs,i+1,m,nd,h1,h2,hk=>by
  show bindC kindOf ((p,w)::P.zip vs) m x=_
  unfold bindC
  exact mi (i:=i) (List.nodup_cons.mp nd).2 (by simpa using h1) (by simpa using h2) hk
def dk (N:List Str) (vs:List V):St:=vs.map some++List.replicate (N.length-vs.length) none
def kM (CX:CXT) (P:Program) (w:World) (K:PySem.W.Frag) (mg:Str->Option Value) (base:Heap) (N:List Str) (qual:Str) (scope:Scope) (f:Addr) (cd:Value) (A:Around) (outer:List Env) (s:Shared) (H:Hp) (E:XK):Cx where
 prog:=P
 w:=w
 K:=K
 mg:=mg
 base:=base
 A:=A.deeper (envOfC qual scope s.heap.objs.size f cd)
 N:=N
 s₀:=s
 H₀:=H
 env:=envOfC qual scope s.heap.objs.size f cd
 outer:=outer
 stack:=envOfC qual scope s.heap.objs.size f cd::outer
 ex:=[]
 calm:=true
 fn:=λ _=>true
 pn:=[]
 xe:=λ e s'=>wpAny (model P w) (A.deeper (envOfC qual scope s.heap.objs.size f cd)) (leaving (envOfC qual scope s.heap.objs.size f cd) e) (λ _ s''=>CX outer H s E e s'') (λ e' s''=>CX outer H s E e' s'') s'
theorem pH {sc:Scope}{n:Nat}{x:Str} (h:sc.names.lookup x=some .cell):∃ c,(cellsFrom n sc.names []).lookup x=some c:=by
 have q:=PySem.W.cellsFrom_some sc.names n [] (.inl h)
 exact Option.isSome_iff_exists.mp q
theorem ur {CX:CXT}{P:Program}{w:World}{K:PySem.W.Frag}{mg:Str->Option Value}{base:Heap}{N ps:List Str}{qual:Str}{scope:Scope}{f:Addr}{cd:Value}{A:Around}{outer:List Env}{s s1:Shared}{H:Hp}{E:XK}{us:List Value}{vs:List V}
  (S:aA N ps scope) (hd:A.handled=none) (e0:kR P w K mg base A outer s H) (hl:vs.length=ps.length) (r:aM vs us)
  (x:InCallC s s.heap.objs.size (bindL (envOfC qual scope s.heap.objs.size f cd).kindOf (ps.zip us) λ _=>none) (cellsFrom (s.heap.objs.size+1) scope.names []) (bindC (envOfC qual scope s.heap.objs.size f cd).kindOf (ps.zip us) λ _=>none) s1) :
  Inv (kM CX P w K mg base N qual scope f cd A outer s H E) [] (dk N vs) H s1:=by
 have hpl:ps.length<=N.length:=by have:=congrArg List.length S.pre;rw[List.length_take] at this;omega
 obtain⟨h1,tk,rfl,hk⟩:=x.done
 have noA:∀ b:Addr,b ∉ (kM CX P w K mg base N qual scope f cd A outer s H E).ex:=λ b z=>absurd (show b∈([]:List Addr) from z) (by simp)
 refine⟨⟨e0.mod,S.kind,rfl,rfl,Nat.le_refl _,λ y z c h1 h2=>?_,λ y hy=>?_,λ y c _ h=>?_,λ _=>hd,Around.frames_deeper e0.frames,.inr ⟨rfl,rfl⟩,λ b z=>absurd z (noA b),e0.bs,e0.bsz,λ b _ _=>noA b,λ b z=>absurd z (noA b),e0.funs,e0.frf⟩,
  rfl,e0.bare,Un.kept hk,⟨_,x.toInCall.ns,λ i y v h1 h2 h3=>?_⟩,λ y c h=>⟨_,x.cell y c h⟩,e0.hok.fresh (Nat.le_refl _),λ y c h=>?_,λ p hp=>absurd (show p∈([]:List (Addr×Obj)) from hp) (by simp),e0.hok.kept hk,?_⟩
 ·exact name_of_addr x.apart (PySem.mem_of_lookup h1) (PySem.mem_of_lookup h2)
 ·have hy:scope.names.lookup y=some .cell∨scope.names.lookup y=some .free:=hy
  rcases hy with hy | hy
  ·exact pH hy
  ·exact absurd rfl (S.nofree _ (PySem.mem_of_lookup hy))
 ·exact Nat.le_of_lt (x.above y c (PySem.mem_of_lookup h))
 ·have hi:i<vs.length:=by
   unfold dk at h2
   by_cases hi:i<vs.length
   ·exact hi
   ·rw[List.getElem?_append_right (by simpa using hi)] at h2
    rw[List.getElem?_replicate] at h2
    split at h2<;>cases h2
  have ha:vs[i]? = some v:=by
   unfold dk at h2
   rw[List.getElem?_append_left (by simpa using hi),List.getElem?_map] at h2
   cases e:vs[i]? with
   | none=>rw[e] at h2;cases h2
   | some a=>rw[e] at h2;cases h2;rfl
  obtain⟨u,hu,rv⟩:=r.get ha
  have hp:ps[i]? = some y:=by
   rw[<-S.pre,List.getElem?_take_of_lt (by omega)];exact h1
  have ndP:ps.Nodup:=by rw[<-S.pre];exact S.nd.sublist (List.take_sublist _ _)
  refine⟨u,rv,?_⟩
  rcases S.par y (List.mem_of_getElem? hp) with k | k
  ·exact .inl ⟨k,me ndP hp hu k⟩
  ·obtain⟨c,e⟩:=pH (n:=s.heap.objs.size+1) k
   refine .inr ⟨.inl k,c,e,?_⟩
   have q:=x.cell y c e
   rw[mi ndP hp hu (by show scope.names.lookup y≠_;rw[k];decide)] at q
   exact q
 ·exact e0.hok.fresh (Nat.le_of_lt (x.above y c (PySem.mem_of_lookup h)))
 ·unfold dk
  show _=N.length
  rw[List.length_append,List.length_map,List.length_replicate]
  omega
theorem xh {CX:CXT}{P:Program}{w:World}{K:PySem.W.Frag}{mg:Str->Option Value}{base:Heap}{k:Nat}{f:Addr}{name qual:Str}{params:Arguments}{body:List Stmt}{scope:Scope}{dV kV doc pm cdv ct oc:Value}{an od:Option Addr}
  {osl:Array (Option Value)}{N ps:List Str}{sp:Sp} (lk:K.lookup f=some ⟨oc,od,.func (PySem.W.fnOf name qual params body scope dV kV doc pm an cdv ct),osl⟩) (hcd:PySem.W.codeIn K cdv qual=true) (S:aA N ps scope)
  (len:∀ vs H Q E,sp vs H Q E->vs.length=ps.length)
  (hbody:∀ (A:Around) (outer:List Env) (s:Shared) (H:Hp) (vs:List V) (Q:VK) (E:XK),db k (A.deeper (envOfC qual scope s.heap.objs.size f cdv))->sp vs H Q E ->
   ∃ t,PSs (kM CX P w K mg base N qual scope f cdv A outer s H E) body t/\t {nx:=λ _ H'=>Q .non H',rt:=Q} (dk N vs) H) :
  ax P w K mg base CX (k+1) f (PySem.W.fnOf name qual params body scope dV kV doc pm an cdv ct) ps sp:=by
 refine⟨len,λ A outer s H args us vs Q E hr e0 hb r hsp=>?_⟩
 have hl:=len _ _ _ _ hsp
 have KX:K.In s.heap:=e0.mod.kin.keeps λ b o e=>(e0.bs b o e).1
 have lim:s.heap.NoLimit:=e0.mod.nolimit.keeps λ b o e=>(e0.bs b o e).1
 have hkind:∀ y∈ps.zip us,scope.names.lookup y.1=some .local∨(scope.names.lookup y.1=some .cell/\((cellsFrom (s.heap.objs.size+1) scope.names []).lookup y.1).isSome=true):=λ ⟨n,v⟩ hy=>by
  rcases S.par n (List.of_mem_zip hy).1 with q | q
  ·exact .inl q
  ·exact .inr ⟨q,PySem.W.cellsFrom_some _ _ _ (.inl q)⟩
 refine codeAny_call_function hr.depth (KX _ _ lk) rfl S.co S.gen rfl (PySem.W.codeRec_of KX hcd) (hb _ _ _ _ ?_)
 refine wpAny_newFunctionEnv_cells S.kind hkind λ env he s1 x=>?_
 subst he
 refine⟨lim.keeps x.toInCall.keep,codeAny_func ?_⟩
 obtain⟨t,ht,hq⟩:=hbody A outer s H vs Q E (hr.deeper _) hsp
 have I:Inv (kM CX P w K mg base N qual scope f cdv A outer s H E) [] (dk N vs) H s1:=ur S hr.hd e0 hl r x
 refine wpAny_mono (ht [] s1 (dk N vs) H _ I hq) (λ fl s' hs=>?_) λ e s' hs=>hs
 have fin:∀ {σ':St}{H':Hp}{v:V}{u:Value},Inv (kM CX P w K mg base N qual scope f cdv A outer s H E) [] σ' H' s'->a8 v u->Q v H'->CE outer P w H s Q u s' :=
  λ {σ' H' v u} J rv q=>⟨v,H',J.os,J.bare,J.base,J.hok,rv,q⟩
 cases fl with
 | ret u =>
  obtain⟨v,σ',H',J,rv,q⟩:=hs
  exact fin J rv q
 | next =>
  obtain⟨σ',H',J,q⟩:=hs
  exact fin (v:=V.non) (u:=Value.none) J rfl q
 | brk =>
  obtain⟨_,_,_,q⟩:=hs
  exact False.elim q
 | cont =>
  obtain⟨_,_,_,q⟩:=hs
  exact False.elim q
end L2
namespace L2
open PySem PySem.Spec PyProof.Rows
section
variable {X:Cx}{x:Str}{p pos:Pos}{e:Expr}{es:List Expr}{t:TA}{id T:String}{r:List V->Hp->VK->Prop}
def tCB (r:List V->Hp->VK->Prop) (t:TA):TE:=λ σ H Q=>t σ H λ vs H1=>r vs H1 Q
theorem aO (hc:cO X (.builtin id) r) (hg:Gl X x) (hm:X.mg x=none) (hv:bootBuiltins x=some (.builtin id)) (ha:PA X (e::es) t) (hn:x≠"__name__":=by decide) (hdb:(x == ("__debug__":Str))=false:=by decide)
  (he:starEach (e::es) X.env=(false,eval e X.env)::starEach es X.env:=by rfl) (hpl:(backTo pos (starEach es X.env)).any (·.1)=false:=by rfl):PE X (.Call (.Name x p) (e::es) [] pos) (tCB r t):=by
 intro pins s σ H Q I h
 refine wpAny_Call_Name_kw (fi I hg hm hv ?_ hn hdb)
 exact PyProof.Rows.callWith_builtin1 (thn (ha pos pins s σ H _ I h) λ us s1 ⟨vs,H1,I1,r1,q1⟩=>hc pins s1 σ H1 vs us Q I1 r1 q1) he hpl
theorem iV (hc:cO X (.type T) r) (hg:Gl X x) (hm:X.mg x=none) (hv:bootBuiltins x=some (.type T)) (ha:PA X (e::es) t) (hn:x≠"__name__":=by decide) (hdb:(x == ("__debug__":Str))=false:=by decide)
  (he:starEach (e::es) X.env=(false,eval e X.env)::starEach es X.env:=by rfl) (hpl:(backTo pos (starEach es X.env)).any (·.1)=false:=by rfl):PE X (.Call (.Name x p) (e::es) [] pos) (tCB r t):=by
 intro pins s σ H Q I h
 refine wpAny_Call_Name_kw (fi I hg hm hv ?_ hn hdb)
 exact PyProof.Rows.callWith_type1 (thn (ha pos pins s σ H _ I h) λ us s1 ⟨vs,H1,I1,r1,q1⟩=>hc pins s1 σ H1 vs us Q I1 r1 q1) he hpl
end
end L2
namespace HT
open PySem PyProof.Rows
section
open PySem.SeqAt
open PySem.AutoSeq1 (wpAny_loadPart')
open PySem.MeetsSeq PySem.MeetsSeq2 PySem.MeetsSeq3
end
section
variable {prog:Program}{w:World}{A:Around}{E:Value->Shared->Prop}{s:Shared}
theorem zp {t b:Addr}{vs ws:List Value}{Q:Value->Shared->Prop} (ht:IsTup s.heap t vs.toArray) (hb:IsTup s.heap b ws.toArray) (hv:vs≠[])
  (h1:ws = []->Q (.ref t) s) (h2:ws≠[]->Q (.ref s.heap.objs.size) {s with heap:=s.heap.push {cls:=.type "tuple",data:=.seq (vs++ws).toArray}})
  (hsz:vs.length+ws.length<=sizeLine):wpAny (model prog w) A (binaryOp .Add (.ref t) (.ref b)) Q E s:=by
 obtain⟨⟨cls,dd,data,sl⟩,ho,hc,n,hd⟩:=id ht
 obtain⟨⟨cls2,dd2,data2,sl2⟩,ho2,hc2,n2,hd2⟩:=id hb
 simp only at hc hd hc2 hd2
 subst hc hd hc2 hd2
 have e:vs.toArray++ws.toArray=(vs++ws).toArray:=by simp
 by_cases hw:ws = []
 ·exact concat_meets ⟨_,ho,rfl⟩ ⟨_,ho2,rfl⟩ noFill_tuple_add seq_tuple_add PySem.F.slot_tuple_add PySem.F.entry_tuple_add (PySem.F.args_tuple_add_2 _ _)
   (tuple_addW1 t b vs.toArray ws.toArray n n2 dd dd2 sl sl2 (by simpa using hv) (by simp [hw])) ⟨ho,ho2,h1 hw⟩
 ·refine concat_meets ⟨_,ho,rfl⟩ ⟨_,ho2,rfl⟩ noFill_tuple_add seq_tuple_add PySem.F.slot_tuple_add PySem.F.entry_tuple_add (PySem.F.args_tuple_add_2 _ _)
   (tuple_addW2 t b vs.toArray ws.toArray n n2 dd dd2 sl sl2 (by simpa using hv) (by simpa using hw) (by rw[List.size_toArray,List.size_toArray];exact hsz)) ⟨ho,ho2,?_⟩
  rw[e]
  exact h2 hw
def sIx (n d:Nat):Option Int->Nat
 | none=>d
 | some v=>if v<0 then (v+(n:Int)).toNat else min v.toNat n
theorem jQ (n d:Nat):sIx n d none=d:=rfl
theorem gv (n d k:Nat):sIx n d (some (k:Int))=min k n:=by
 show (if (k:Int)<0 then ((k:Int)+(n:Int)).toNat else min (k:Int).toNat n)=min k n
 rw[if_neg (by omega),Int.toNat_natCast]
theorem Av (n d:Nat) (hd:d<=n) (o:Option Int):sIx n d o<=n:=by
 cases o with
 | none=>exact hd
 | some v =>
  show (if v<0 then (v+(n:Int)).toNat else min v.toNat n)<=n
  by_cases hv:v<0
  ·rw[if_pos hv];omega
  ·rw[if_neg hv];exact Nat.min_le_right _ _
theorem sQ (v:Int) (n d:Nat):(if v<0 then max (v+(n:Int)) 0 else min v (n:Int))=((sIx n d (some v):Nat):Int):=by
 show (if v<0 then max (v+(n:Int)) 0 else min v (n:Int))=(((if v<0 then (v+(n:Int)).toNat else min v.toNat n):Nat):Int)
 by_cases hv:v<0
 ·simp only[if_pos hv];omega
 ·simp only[if_neg hv];omega
theorem qN (lo hi:Option Int) (n:Nat):Builtin.Slice.sliceAdjust lo hi 1 (n:Int)=(((sIx n 0 lo:Nat):Int),((sIx n n hi:Nat):Int)):=by
 have h1:¬ ((1:Int)<0):=by omega
 unfold Builtin.Slice.sliceAdjust
 simp only[h1,if_false]
 refine Prod.ext ?_ ?_
 ·cases lo with
  | none=>rfl
  | some v=>exact sQ v n 0
 ·cases hi with
  | none=>rfl
  | some v=>exact sQ v n n
theorem qg (i j:Nat):Builtin.Slice.slicePlaces (i:Int) (j:Int) 1=j-i:=by
 unfold Builtin.Slice.slicePlaces
 have h1:(1:Int)>0:=by omega
 simp only[h1,if_true,Int.ediv_one]
 split<;>omega
theorem jF {v:Value}{o:Option Int}{Q:Option Int->Shared->Prop} (p:IsPart v o) (h:Q o s):wpAny (model prog w) A (Builtin.Slice.slicePartIndex v) Q E s:=by
 cases p with
 | none=>exact slicePart_none h
 | int i t=>exact slicePart_int h
theorem iD {sl:Addr}{vl vu:Value}{lo hi:Option Int}{n:Nat}{Q:Int×Int×Nat->Shared->Prop} (hs:s.heap.IsSliceOf sl vl vu .none) (pl:IsPart vl lo) (pu:IsPart vu hi)
  (h:Q (((sIx n 0 lo:Nat):Int),1,sIx n n hi-sIx n 0 lo) s):wpAny (model prog w) A (Builtin.Slice.sliceApplied (.ref sl) (pure (n:Int))) Q E s:=by
 obtain⟨os,hos,hcs,hds⟩:=id hs
 unfold Builtin.Slice.sliceApplied Builtin.Slice.sliceFields
 refine wpAny_bind (wpAny_bind (wpAny_field hos hds (x:=vl) rfl (wpAny_bind (wpAny_field hos hds (x:=vu) rfl (wpAny_bind (wpAny_field hos hds (x:=.none) rfl (wpAny_pure ?_)))))))
 refine wpAny_bind (slicePart_none ?_)
 show wpAny _ _ (if ((1:Int) == 0)=true then _ else _) _ _ s
 rw[if_neg (by decide)]
 refine wpAny_bind (jF pl (wpAny_bind (jF pu (wpAny_bind (wpAny_pure ?_)))))
 show wpAny _ _ (match Builtin.Slice.sliceAdjust lo hi 1 (n:Int) with | (lo,hi)=>pure (lo,(1:Int),Builtin.Slice.slicePlaces lo hi 1)) _ _ s
 rw[qN lo hi n]
 show wpAny _ _ (pure (((sIx n 0 lo:Nat):Int),(1:Int),Builtin.Slice.slicePlaces ((sIx n 0 lo:Nat):Int) ((sIx n n hi:Nat):Int) 1)) _ _ s
 rw[qg]
 exact wpAny_pure h
theorem v0 (xs:Array Value) (i k:Nat):((List.range k).filterMap λ (m:Nat)=>xs[((i:Int)+(m:Int)*1).toNat]?).toArray=((xs.toList.drop i).take k).toArray:=by
 have e:(λ (m:Nat)=>xs[((i:Int)+(m:Int)*1).toNat]?)=λ m=>xs[i+m]?:=by
  funext m
  have:((i:Int)+(m:Int)*1).toNat=i+m:=by omega
  rw[this]
 rw[e]
 have:=pick_run xs i k
 rw[List.filterMap_map] at this
 have e2:((λ x=>xs[x]?) ∘ λ x=>i+x)=λ m=>xs[i+m]?:=rfl
 rw[e2] at this
 rw[this]
theorem ic {t sl:Addr}{items:Array Value}{vl vu:Value}{lo hi:Option Int}{Q:Value->Shared->Prop} (ht:IsTup s.heap t items) (hs:s.heap.IsSliceOf sl vl vu .none) (pl:IsPart vl lo) (pu:IsPart vu hi)
  (hw:¬ (sIx items.size 0 lo=0/\sIx items.size items.size hi=items.size))
  (h:Q (.ref s.heap.objs.size) {s with heap:=s.heap.push {cls:=.type "tuple",data:=.seq ((items.toList.drop (sIx items.size 0 lo)).take (sIx items.size items.size hi-sIx items.size 0 lo)).toArray}})
  (hsz:items.size<=sizeLine):wpAny (model prog w) A (getItem (.ref t) (.ref sl)) Q E s:=by
 have htake:sizeOk (.seq ((items.toList.drop (sIx items.size 0 lo)).take (sIx items.size items.size hi-sIx items.size 0 lo)).toArray):=by
  show ((items.toList.drop (sIx items.size 0 lo)).take (sIx items.size items.size hi-sIx items.size 0 lo)).toArray.size<=sizeLine
  rw[List.size_toArray,List.length_take,List.length_drop,Array.length_toList]
  omega
 have hj:sIx items.size items.size hi<=items.size:=Av _ _ (Nat.le_refl _) hi
 obtain⟨os,hos,hcs,hds⟩:=id hs
 have hTs:s.TypeIs (.ref sl) "slice":=⟨os,hos,hcs⟩
 unfold getItem
 try with_reducible refine wpAny_holding ?_
 first | refine wpAny_bind (wpAny_pure ?_) | skip
 refine wpAny_bind (wpAny_sequenceKey ht.typeIs (by decide) ?_)
 refine wpAny_bind (wpAny_callSpecial?_slot (name:=Str.ofString "__getitem__") ht.typeIs PyProof.Rows.slot_tuple_getitem
  (wpAny_call_entry PyProof.Rows.slot_tuple_getitem ht.typeIs entry_tuple_getitem ?_ (args_tuple_getitem _ _)))
 show wpAny _ _ (Builtin.Tuple.tupleItemsOf (.ref t) >>= _) _ _ s
 refine wpAny_bind (tupleItemsOf_ ht ?_)
 refine wpAny_bind (wpAny_typeOf hTs ?_)
 rw[if_pos (by decide)]
 refine wpAny_bind (iD hs pl pu ?_)
 have hno:¬ ((((sIx items.size 0 lo:Nat):Int) == 0 && (1:Int) == 1 && (sIx items.size items.size hi-sIx items.size 0 lo) == items.size)=true):=by
  intro q
  rw[Bool.and_eq_true,Bool.and_eq_true] at q
  have q1:((sIx items.size 0 lo:Nat):Int)=0:=eq_of_beq q.1.1
  have q2:sIx items.size items.size hi-sIx items.size 0 lo=items.size:=eq_of_beq q.2
  exact hw ⟨by omega,by omega⟩
 show wpAny _ _ (if (((sIx items.size 0 lo:Nat):Int) == 0 && (1:Int) == 1 && (sIx items.size items.size hi-sIx items.size 0 lo) == items.size)=true then _ else _) _ _ s
 rw[if_neg hno,v0]
 first
  | exact wpAny_bind (m:=Builtin.Tuple.tupleExact _) (wpAny_newObj_type (wpAny_pure ⟨_,rfl,wpAny_pure h⟩) htake)
  | exact wpAny_bind (m:=Builtin.Tuple.tupleExact _) (wpAny_newObj_type (wpAny_bind (wpAny_pure (wpAny_pure ⟨_,rfl,wpAny_pure h⟩))) htake)
  | exact wpAny_bind (wpAny_bind (m:=Builtin.Tuple.tupleExact _) (wpAny_newObj_type (wpAny_pure (wpAny_pure ⟨_,rfl,wpAny_pure h⟩)) htake))
  | exact wpAny_bind (wpAny_bind (m:=Builtin.Tuple.tupleExact _) (wpAny_newObj_type (wpAny_pure ⟨_,rfl,wpAny_pure h⟩) htake))
end
end HT
namespace L2
open PySem PySem.Spec PyProof.Rows
abbrev TO:=St->Hp->(Option Int->Hp->Prop)->Prop
def PO (X:Cx) (e:Option Expr) (t:TO):Prop :=
 ∀ (pins:List (Addr×Obj)) (s:Shared) (σ:St) (H:Hp) (Q:Option Int->Hp->Prop),Inv X pins σ H s->t σ H Q ->
  wpAny (model X.prog X.w) X.A (evalPart e X.env) (λ u s'=>∃ o H',Inv X pins σ H' s'/\IsPart u o/\Q o H') X.xe s
def xL:TO:=λ _ H Q=>Q none H
def BE (t:TE):TO:=λ σ H Q=>t σ H λ x H1=>∃ i,x=.int i/\Q (some i) H1
theorem qr {ns:List Int}:∀ {us:List Value},aM (ns.map V.int) us->IntsAre us ns:=by
 induction ns with
 | nil=>intro us r;rw[List.map_nil] at r;cases r;exact .nil
 | cons n ns ih =>
  intro us r
  rw[List.map_cons] at r
  cases r with
  | cons r1 r2 =>
   obtain⟨t,e⟩:=r1
   subst e
   exact .cons n t (ih r2)
section
variable {X:Cx}{e:Expr}{te:TE}{lo hi:Option Expr}{tl th:TO}{pos p2:Pos}
theorem du:PO X none xL:=by
 intro pins s σ H Q I h
 rw[evalPart_none]
 exact wpAny_pure ⟨none,H,I,.none,h⟩
theorem dl (h:PE X e te):PO X (some e) (BE te):=by
 intro pins s σ H Q I hw
 rw[evalPart_some]
 refine thn (h pins s σ H _ I hw) λ u s1 ⟨x,H1,I1,r1,q1⟩=>?_
 obtain⟨i,rfl,q⟩:=q1
 obtain⟨t,rfl⟩:=r1
 exact⟨some i,H1,I1,.int i t,q⟩
def SlR (X:Cx) (r:V->Option Int->Option Int->Hp->VK->Prop):Prop :=
 ∀ (pins:List (Addr×Obj)) (s:Shared) (σ:St) (H:Hp) (x:V) (v vl vu:Value) (lo hi:Option Int) (sl:Addr) (Q:VK),Inv X pins σ H s->a8 x v->s.heap.IsSliceOf sl vl vu .none->IsPart vl lo->IsPart vu hi->r x lo hi H Q ->
  ∃ T id,typeLookup (.type T) "__getitem__" = pure (some (.builtin id))/\s.TypeIs v T/\wpAny (model X.prog X.w) X.A (getItem v (.ref sl)) (EP X pins σ Q) X.xe s
theorem SlR.or {r r':V->Option Int->Option Int->Hp->VK->Prop} (h:SlR X r) (h':SlR X r'):SlR X (λ x lo hi H Q=>r x lo hi H Q∨r' x lo hi H Q):=by
 intro pins s σ H x v vl vu lo hi sl Q I rx hs pl pu q
 rcases q with q | q
 ·exact h pins s σ H x v vl vu lo hi sl Q I rx hs pl pu q
 ·exact h' pins s σ H x v vl vu lo hi sl Q I rx hs pl pu q
def tSl (r:V->Option Int->Option Int->Hp->VK->Prop) (te:TE) (tl th:TO):TE:=λ σ H Q=>te σ H λ x H1=>tl σ H1 λ l H2=>th σ H2 λ u H3=>r x l u H3 Q
theorem cF {r:V->Option Int->Option Int->Hp->VK->Prop} (hr:SlR X r) (he:PE X e te) (hl:PO X lo tl) (hu:PO X hi th):PE X (.Subscript e (.Slice lo hi none p2) pos) (tSl r te tl th):=by
 intro pins s σ H Q I h
 refine Subscript_ (thn (he pins s σ H _ I h) λ v s1 ⟨x,H1,I1,r1,q1⟩=>?_)
 refine wpAny_Slice (thn (hl pins s1 σ H1 _ I1 q1) λ vl s2 ⟨l,H2,I2,pl,q2⟩=>thn (hu pins s2 σ H2 _ I2 q2) λ vu s3 ⟨u,H3,I3,pu,q3⟩=>?_)
 rw[evalPart_none]
 refine wpAny_pure ?_
 have I4:Inv X pins σ H3 {s3 with heap:=s3.heap.push {cls:=.type "slice",data:=.fields #[vl,vu,.none]}}:=I3.kept (t':=s3.toks) λ b ob q=>Heap.get?_push_of_some _ q
 obtain⟨T,id,hT,ht,hg⟩:=hr pins {s3 with heap:=s3.heap.push {cls:=.type "slice",data:=.fields #[vl,vu,.none]}} σ H3 x v vl vu l u s3.heap.objs.size Q I4 r1 (Heap.IsSliceOf.new ..) pl pu q3
 show wpAny (model X.prog X.w) X.A (subscriptTail e (.Slice lo hi none p2) v (.ref s3.heap.objs.size)) (EP X pins σ Q) X.xe {s3 with heap:=s3.heap.push {cls:=.type "slice",data:=.fields #[vl,vu,.none]}}
 exact tail_any (ops:=[.ref s3.heap.objs.size,v]) ht hT hg (by with_unfolding_all rfl)
def cw (xs:List V) (lo hi:Option Int):List V:=(xs.drop (HT.sIx xs.length 0 lo)).take (HT.sIx xs.length xs.length hi-HT.sIx xs.length 0 lo)
theorem cD (xs:List V) (lo hi:Option Int):(cw xs lo hi).length<=xs.length:=by
 unfold cw
 rw[List.length_take,List.length_drop]
 omega
def CI (K:PySem.W.Frag):V->Option Int->Option Int->Hp->VK->Prop:=λ x lo hi H Q=>∃ a xs,x=.ref a/\SqT K H a xs /\
 ¬ (HT.sIx xs.length 0 lo=0/\HT.sIx xs.length xs.length hi=xs.length)/\∀ p,H p=none->Q (.ref p) (upd H p (.tup (cw xs lo hi)))
theorem p7:SlR X (CI X.K):=by
 intro pins s σ H x v vl vu lo hi sl Q I rx hs pl pu h
 obtain⟨a,xs,rfl,hx,hw,q⟩:=h
 cases rx
 obtain⟨its,r,ht,hz⟩:=I.tuple hx
 have hlen:its.toArray.size=xs.length:=by rw[List.size_toArray];exact r.length.symm
 refine⟨"tuple",_,PyProof.Rows.slot_tuple_getitem.lookup,ht.typeIs,?_⟩
 refine HT.ic ht hs pl pu (by rw[hlen];exact hw) ?_ (by rw[hlen];exact hz)
 rw[hlen]
 refine⟨.ref s.heap.objs.size,_,I.laid (t':=s.toks) (o:=.tup (cw xs lo hi)) (λ b ob q=>Heap.get?_push_of_some _ q) (Nat.le_refl _) ?_,rfl,q _ (I.hok.fresh (Nat.le_refl _))⟩
 exact⟨Nat.le_trans (cD xs lo hi) hz,_,(r.drop (HT.sIx xs.length 0 lo)).take (HT.sIx xs.length xs.length hi-HT.sIx xs.length 0 lo),IsTup.new _ _⟩
def zP (K:PySem.W.Frag):R2:=λ x y H Q=>∃ a b xs ys,x=.ref a/\y=.ref b/\SqT K H a xs/\SqT K H b ys/\xs≠[]/\xs.length+ys.length<=sizeLine /\
 (ys = []->Q (.ref a) H)/\(ys≠[]->∀ p,H p=none->Q (.ref p) (upd H p (.tup (xs++ys))))
theorem aM.nil_iff {xs:List V}{us:List Value} (r:aM xs us):us = []↔xs = []:=by
 cases r with
 | nil=>simp
 | cons _ _=>simp
theorem yt:OpR X (binaryOp .Add) (zP X.K):=by
 intro pins s σ H x y v u Q I rx ry h
 obtain⟨a,b,xs,ys,rfl,rfl,ha,hb,hx,hz,q1,q2⟩:=h
 cases rx
 cases ry
 obtain⟨its,r1,p1,_⟩:=I.tuple ha
 obtain⟨its2,r2,p2,_⟩:=I.tuple hb
 refine HT.zp p1 p2 (λ z=>hx (r1.nil_iff.mp z)) (λ z=>⟨.ref a,H,I,rfl,q1 (r2.nil_iff.mp z)⟩) (λ z=>?_) (by rw[<-r1.length,<-r2.length];exact hz)
 refine⟨.ref s.heap.objs.size,_,I.laid (t':=s.toks) (o:=.tup (xs++ys)) (λ b ob q=>Heap.get?_push_of_some _ q) (Nat.le_refl _) ?_,rfl,q2 (λ w=>z (r2.nil_iff.mpr w)) _ (I.hok.fresh (Nat.le_refl _))⟩
 exact⟨by rw[List.length_append];exact hz,_,r1.append r2,IsTup.new _ _⟩
end
end L2
namespace L2
open PySem PySem.Spec PyProof.Rows
def ixN (n:Nat) (i:Int):Option Nat:=if 0<=i then (if i<n then some i.toNat else none) else if -(n:Int)<=i then some (i+n).toNat else none
def atI {α:Type} (xs:List α) (i:Int):Option α:=(ixN xs.length i).bind λ j=>xs[j]?
theorem sj {n:Nat}{i:Int}{j:Nat} (h:ixN n i=some j):seqIndex? i n=some j/\j<n/\-(n:Int)<=i/\i<n:=by
 unfold ixN at h
 by_cases h0:0<=i
 ·rw[if_pos h0] at h
  by_cases h1:i<n
  ·rw[if_pos h1] at h
   have e:i.toNat=j:=Option.some.inj h
   exact⟨by rw[seqIndex_of h0 h1,e],by omega,by omega,h1⟩
  ·rw[if_neg h1] at h;cases h
 ·rw[if_neg h0] at h
  by_cases h1:-(n:Int)<=i
  ·rw[if_pos h1] at h
   have e:(i+n).toNat=j:=Option.some.inj h
   exact⟨by rw[seqIndex_neg (by omega) h1,e],by omega,h1,by omega⟩
  ·rw[if_neg h1] at h;cases h
theorem nS {α:Type}{xs:List α}{i:Int}{v:α} (h:atI xs i=some v):∃ j,seqIndex? i xs.length=some j/\xs[j]? = some v/\j<xs.length/\-(xs.length:Int)<=i/\i<xs.length:=by
 unfold atI at h
 cases e:ixN xs.length i with
 | none=>rw[e] at h;cases h
 | some j =>
  rw[e] at h
  obtain⟨h1,h2,h3,h4⟩:=sj e
  exact⟨j,h1,h,h2,h3,h4⟩
theorem bx {α:Type}{xs:List α}{j:Nat}{v:α} (h:xs[j]? = some v):atI xs (j:Int)=some v:=by
 have hj:j<xs.length:=(List.getElem?_eq_some_iff.mp h).1
 have e:ixN xs.length (j:Int)=some j:=by
  unfold ixN
  rw[if_pos (by omega),if_pos (by omega)];simp
 unfold atI;rw[e];exact h
def zx (b:Expr):Prop:=∀ o i,subscripted b false o i=operate [o,i] (getItem o i)
def IxR (X:Cx) (r:R2):Prop :=
 ∀ (value slice:Expr) (pins:List (Addr×Obj)) (s:Shared) (σ:St) (H:Hp) (x y:V) (v u:Value) (Q:VK),Inv X pins σ H s->a8 x v->a8 y u->r x y H Q ->
  subscripted slice false v u=operate [v,u] (getItem v u)->wpAny (model X.prog X.w) X.A (subscriptTail value slice v u) (EP X pins σ Q) X.xe s
def MtR (X:Cx) (id:String) (r:V->List V->Hp->VK->Prop):Prop :=
 ∀ (pins:List (Addr×Obj)) (s:Shared) (σ:St) (H:Hp) (x:V) (xs:List V) (v:Value) (us:List Value) (Q:VK),Inv X pins σ H s->a8 x v->aM xs us->r x xs H Q ->
  wpAny (model X.prog X.w) X.A (call (.builtin id) (v::us)) (EP X pins σ Q) X.xe s
section
variable {X:Cx}{a b:Expr}{ta tb:TE}{pos:Pos}
theorem IxR.or {r r':R2} (h:IxR X r) (h':IxR X r'):IxR X (λ x y H Q=>r x y H Q∨r' x y H Q):=by
 intro value slice pins s σ H x y v u Q I rx ry q hs
 rcases q with q | q
 ·exact h value slice pins s σ H x y v u Q I rx ry q hs
 ·exact h' value slice pins s σ H x y v u Q I rx ry q hs
theorem MtR.or {id:String}{r r':V->List V->Hp->VK->Prop} (h:MtR X id r) (h':MtR X id r'):MtR X id (λ x xs H Q=>r x xs H Q∨r' x xs H Q):=by
 intro pins s σ H x xs v us Q I rx rs q
 rcases q with q | q
 ·exact h pins s σ H x xs v us Q I rx rs q
 ·exact h' pins s σ H x xs v us Q I rx rs q
theorem am {r:R2} (hr:IxR X r) (ha:PE X a ta) (hb:PE X b tb) (hs:zx b):PE X (.Subscript a b pos) (tOp r ta tb):=by
 intro pins s σ H Q I h
 exact Subscript_ (Bu ha hb I h λ v u s2 x y H2 I2 rx ry q=>hr a b pins s2 σ H2 x y v u Q I2 rx ry q (hs _ _))
def AA (K:PySem.W.Frag):R2:=λ x y H Q=>∃ p xs i v,x=.ref p/\y=.int i/\SqL K H p xs/\atI xs i=some v/\Q v H
def yl (K:PySem.W.Frag):R2:=λ x y H Q=>∃ p xs i v,x=.ref p/\y=.int i/\SqT K H p xs/\atI xs i=some v/\Q v H
def BY:R2:=λ x y H Q=>∃ z i c,x=.str z/\y=.int i/\z.length<=sizeLine/\atI z.cps.toList i=some c/\Q (.str ⟨#[c]⟩) H
theorem bf:IxR X (AA X.K):=by
 intro value slice pins s σ H x y v u Q I rx ry h hs
 obtain⟨p,xs,i,z,rfl,rfl,hq,he,q⟩:=h
 cases rx
 obtain⟨t,rfl⟩:=ry
 obtain⟨its,r,pl,hz⟩:=I.list hq
 obtain⟨j,h1,h2,h3,h4,h5⟩:=nS he
 obtain⟨w,ew,rw'⟩:=r.get h2
 have hl:=r.length
 have hn:=kd
 have fin:EP X pins σ Q w s:=⟨z,H,I,rw',q⟩
 by_cases h0:0<=i
 ·have hj:i.toNat=j:=by
   rw[seqIndex_of h0 h5] at h1
   exact Option.some.inj h1
  exact item_listR pl.isList h0 (by omega) (by rw[hj];simpa using ew) fin hs
 ·have hj:(i+(its.toArray.size:Int)).toNat=j:=by
   rw[seqIndex_neg (by omega) h4] at h1
   rw[List.size_toArray,<-hl]
   exact Option.some.inj h1
  exact subscriptTail_builtinR (x:=w) pl.isList.typeIs slot_list_getitem.lookup
   (wpAny_getItem_list_neg (Q:=λ r s'=>r=w/\EP X pins σ Q r s') pl.isList (by omega) (by rw[List.size_toArray]<;>omega) (by omega) (by rw[hj];simpa using ew) ⟨rfl,fin⟩) hs
theorem aq:IxR X (yl X.K):=by
 intro value slice pins s σ H x y v u Q I rx ry h hs
 obtain⟨p,xs,i,z,rfl,rfl,hq,he,q⟩:=h
 cases rx
 obtain⟨t,rfl⟩:=ry
 obtain⟨its,r,pl,hz⟩:=I.tuple hq
 obtain⟨j,h1,h2,h3,h4,h5⟩:=nS he
 obtain⟨w,ew,rw'⟩:=r.get h2
 have hl:=r.length
 have hn:=kd
 have fin:EP X pins σ Q w s:=⟨z,H,I,rw',q⟩
 exact subscriptTail_builtinR (x:=w) pl.typeIs slot_tuple_getitem.lookup
  (getItem_tuple (j:=j) (Q:=λ r s'=>r=w/\EP X pins σ Q r s') pl (by omega) (by omega) (by rw[List.size_toArray,<-hl];exact h1) (by simpa using ew) ⟨rfl,fin⟩) hs
theorem Bj:IxR X BY:=by
 intro value slice pins s σ H x y v u Q I rx ry h hs
 obtain⟨z,i,c,rfl,rfl,hz,he,q⟩:=h
 obtain⟨t,rfl⟩:=rx
 obtain⟨t',rfl⟩:=ry
 obtain⟨j,h1,h2,h3,h4,h5⟩:=nS he
 have hl:z.cps.toList.length=z.length:=by simp [Str.length]
 rw[hl] at h1 h4 h5
 have hn:=kd
 exact tail_any (typeIs_str s z t) slot_str_getitem.lookup (getItem_str (c:=c) (by
  have e1:decide (i < -(2^63:Int))=false:=decide_eq_false (by omega)
  have e2:decide (i ≥ 2^63)=false:=decide_eq_false (by omega)
  rw[e1,e2,Bool.or_false]) (by rw[h1];simpa using h2) ⟨.str ⟨#[c]⟩,H,I.tok _,⟨_,rfl⟩,q⟩) hs
def rIx (K:PySem.W.Frag):R2:=λ x y H Q=>AA K x y H Q∨yl K x y H Q∨BY x y H Q
theorem wF:IxR X (rIx X.K):=bf.or (aq.or Bj)
theorem qj (its:List Value) (n j:Nat) (u:Value):Obj.mapSeq (·.setIfInBounds j u) {cls:=.type "list",data:=.seq its.toArray n}={cls:=.type "list",data:=.seq (its.set j u).toArray n}:=by
 simp [Obj.mapSeq]
theorem Inv.lst {pins:List (Addr×Obj)}{σ:St}{H:Hp}{s:Shared}{p:Addr}{xs:List V} (I:Inv X pins σ H s) (h:H p=some (.lst xs)) :
  ∃ (its:List Value) (n:Nat),aM xs its/\s.heap.get? p=some {cls:=.type "list",data:=.seq its.toArray n}/\xs.length<=sizeLine:=by
 obtain⟨z,its,n,r,e⟩:=I.hok p _ h
 exact⟨its,n,r,e,z⟩
theorem Inv.lstUpd {pins:List (Addr×Obj)}{σ:St}{H:Hp}{s:Shared}{p:Addr}{xs ys:List V}{its its':List Value}{n n':Nat}{f:Obj->Obj} (I:Inv X pins σ H s) (h:H p=some (.lst xs))
  (ho:s.heap.get? p=some {cls:=.type "list",data:=.seq its.toArray n}) (hf:f {cls:=.type "list",data:=.seq its.toArray n}={cls:=.type "list",data:=.seq its'.toArray n'}) (r:aM ys its') (hz:ys.length<=sizeLine) (t:Nat) :
  Inv X pins σ (upd H p (.lst ys)) {s with heap:=s.heap.update p f,toks:=t}:=by
 have e:(s.heap.update p f).get? p=some {cls:=.type "list",data:=.seq its'.toArray n'}:=by
  rw[Heap.get?_update_self f ho (by rw[hf]<;>rfl),hf]
 refine I.write (x:=p) (e:=p) (by rw[h];trivial) (.inl rfl) (λ b u hb q=>(Heap.get?_update_other _ _ (Ne.symm hb)).trans q) ⟨_,e⟩ ?_
 exact⟨hz,its',n',r,e⟩
def BX:V->V->V->Hp->(Hp->Prop)->Prop:=λ o i v H Q=>∃ p xs k j,o=.ref p/\i=.int k/\H p=some (.lst xs)/\ixN xs.length k=some j/\Q (upd H p (.lst (xs.set j v)))
theorem oz:Ct X BX:=by
 intro pins s σ H o i v ov iv u Q I ro ri rv h
 obtain⟨p,xs,k,j,rfl,rfl,hp,hj,q⟩:=h
 cases ro
 obtain⟨t,rfl⟩:=ri
 obtain⟨its,n,r,ho,hz⟩:=I.lst hp
 obtain⟨h1,h2,h3,h4⟩:=sj hj
 have hl:=r.length
 have hn:=kd
 have I':Inv X pins σ (upd H p (.lst (xs.set j v))) {s with heap:=s.heap.update p (Obj.mapSeq (·.setIfInBounds j u))} :=
  I.lstUpd hp ho (qj its n j u) (r.set rv j) (by rw[List.length_set];exact hz) s.toks
 by_cases h0:0<=k
 ·have hk:k.toNat=j:=by
   rw[seqIndex_of h0 h4] at h1
   exact Option.some.inj h1
  exact PySem.W.ki_setAt ho h0 (by omega) (by rw[List.size_toArray,<-hl];exact h4) (by rw[hk];exact⟨_,I',q⟩)
 ·have hk:(k+(its.toArray.size:Int)).toNat=j:=by
   rw[seqIndex_neg (by omega) h3] at h1
   rw[List.size_toArray,<-hl]
   exact Option.some.inj h1
  exact PySem.W.ki_setBack ho (by omega) (by rw[List.size_toArray,<-hl];exact h3) (by omega) (by rw[hk];exact⟨_,I',q⟩)
theorem mB (lo hi:Option Int) (n:Nat):(sliceBounds lo hi none n).1=((HT.sIx n 0 lo:Nat):Int)/\(sliceBounds lo hi none n).2.1=((HT.sIx n n hi:Nat):Int)/\(sliceBounds lo hi none n).2.2=1:=by
 refine⟨?_,?_,rfl⟩
 ·cases lo with
  | none=>simp [sliceBounds,HT.sIx]
  | some i =>
   simp only[sliceBounds,HT.sIx,Option.getD_none,show (1:Int)>0 by decide,if_true]
   by_cases h:i<0
   ·simp only[h,if_true]<;>omega
   ·simp only[h,if_false]<;>omega
 ·cases hi with
  | none=>simp [sliceBounds,HT.sIx]
  | some i =>
   simp only[sliceBounds,HT.sIx,Option.getD_none,show (1:Int)>0 by decide,if_true]
   by_cases h:i<0
   ·simp only[h,if_true]<;>omega
   ·simp only[h,if_false]<;>omega
theorem kI (its:List Value) (lo hi:Option Int):slicePick its.toArray lo hi none=((its.drop (HT.sIx its.length 0 lo)).take (HT.sIx its.length its.length hi-HT.sIx its.length 0 lo)).toArray:=by
 obtain⟨h1,h2,h3⟩:=mB lo hi its.toArray.size
 unfold slicePick
 rw[h1,h2,h3]
 simp only[sliceRange_one,pick_run,List.size_toArray]<;>rfl
def CJ (K:PySem.W.Frag):V->Option Int->Option Int->Hp->VK->Prop:=λ x lo hi H Q=>∃ a xs,x=.ref a/\SqL K H a xs/\∀ p,H p=none->Q (.ref p) (upd H p (.lst (cw xs lo hi)))
theorem f6:SlR X (CJ X.K):=by
 intro pins s σ H x v vl vu lo hi sl Q I rx hs pl pu h
 obtain⟨a,xs,rfl,hx,q⟩:=h
 cases rx
 obtain⟨its,r,ht,hz⟩:=I.list hx
 have hlen:=r.length
 refine⟨"list",_,slot_list_getitem.lookup,ht.isList.typeIs,?_⟩
 refine wpAny_getItem_list_slice ht.isList hs pl pu .none (by simp) ?_ (by rw[List.size_toArray]<;>omega)
 rw[kI,<-hlen]
 refine⟨.ref s.heap.objs.size,_,I.laid (t':=s.toks) (o:=.lst (cw xs lo hi)) (λ b ob q=>Heap.get?_push_of_some _ q) (Nat.le_refl _) ?_,rfl,q _ (I.hok.fresh (Nat.le_refl _))⟩
 exact⟨Nat.le_trans (cD xs lo hi) hz,_,0,(r.drop (HT.sIx xs.length 0 lo)).take (HT.sIx xs.length xs.length hi-HT.sIx xs.length 0 lo),Heap.get?_push_size _ rfl⟩
theorem aS:cO X (.builtin "len") (λ xs H Q=>∃ p ys,xs = [.ref p]/\(SqL X.K H p ys∨SqT X.K H p ys)/\Q (.int ys.length) H):=by
 intro pins s σ H xs us Q I r h
 obtain⟨p,ys,rfl,hq,q⟩:=h
 obtain⟨u,rfl,rx⟩:=jy r
 cases rx
 have hn:=kd
 rcases hq with hq | hq
 ·obtain⟨its,r',pl,hz⟩:=I.list hq
  have hlen:=r'.length
  exact Calls.call_len_list pl.isList (by simp only[List.size_toArray]<;>omega) ⟨.int ys.length,H,I.tok _,⟨s.toks+1,by rw[List.size_toArray,hlen]⟩,q⟩
 ·obtain⟨its,r',pl,hz⟩:=I.tuple hq
  have hlen:=r'.length
  exact len_tuple pl (by simp only[List.size_toArray]<;>omega) ⟨.int ys.length,H,I.tok _,⟨s.toks+1,by rw[List.size_toArray,hlen]⟩,q⟩
theorem cO.or {f:Value}{r r':List V->Hp->VK->Prop} (h:cO X f r) (h':cO X f r'):cO X f (λ xs H Q=>r xs H Q∨r' xs H Q):=by
 intro pins s σ H xs us Q I rs q
 rcases q with q | q
 ·exact h pins s σ H xs us Q I rs q
 ·exact h' pins s σ H xs us Q I rs q
theorem gG:cO X (.type "tuple") (λ xs H Q=>∃ p ys,xs = [.ref p]/\((SqL X.K H p ys/\∀ l,H l=none->Q (.ref l) (upd H l (.tup ys)))∨(SqT X.K H p ys/\Q (.ref p) H))):=by
 intro pins s σ H xs us Q I r h
 obtain⟨p,ys,rfl,h⟩:=h
 obtain⟨u,rfl,rx⟩:=jy r
 cases rx
 rcases h with ⟨hq,q⟩ | ⟨hq,q⟩
 ·obtain⟨its,r',pl,hz⟩:=I.list hq
  have hlen:=r'.length
  refine call_tuple_list pl.isList (λ h' kp=>?_) (by simp only[List.size_toArray]<;>omega)
  have I1:Inv X pins σ H {s with heap:=h'}:=I.kept (t':=s.toks) kp
  have I2:Inv X pins σ (upd H h'.objs.size (.tup ys)) {s with heap:=h'.push {cls:=.type "tuple",data:=.seq its.toArray}} :=
   I1.laid (t':=s.toks) (λ b o e=>Heap.get?_push_of_some _ e) (Nat.le_refl _) (show aN X.prog X.w _ _ _ (.tup ys) from ⟨hz,its,r',IsTup.new _ _⟩)
  exact⟨.ref h'.objs.size,_,I2,rfl,q _ (I1.hok.fresh (Nat.le_refl _))⟩
 ·obtain⟨its,r',pl,hz⟩:=I.tuple hq
  exact call_tuple_same pl ⟨.ref p,H,I,rfl,q⟩
def tyV (K:PySem.W.Frag) (T:String) (x:V) (H:Hp):Prop:=match x with
 | .str _=>T = "str"
 | .int _=>T = "int"
 | .ref p=>(T = "list"/\∃ xs,SqL K H p xs)∨(T = "tuple"/\∃ o,K.lookup p=some o/\o.cls=.type "tuple"/\o.dict=none) ∨
   (T = "dict"/\((∃ kvs,H p=some (.dK kvs))∨∃ kvs,H p=some (.dT kvs)))∨(T = "set"/\∃ S n,H p=some (.set S n))
 | _=>False
theorem Ae {pins:List (Addr×Obj)}{σ:St}{H:Hp}{s:Shared}{T:String}{x:V}{v:Value} (I:Inv X pins σ H s) (r:a8 x v) (ty:tyV X.K T x H) :
  s.TypeIs v T/\∀ a,v=.ref a->∃ ob,s.heap.get? a=some ob/\ob.dict=none:=by
 cases x with
 | str z =>
  obtain⟨t,rfl⟩:=r
  cases (show T = "str" from ty)
  exact⟨typeIs_str s z t,λ _ e=>nomatch e⟩
 | int i =>
  obtain⟨t,rfl⟩:=r
  cases (show T = "int" from ty)
  exact⟨typeIs_int s i t,λ _ e=>nomatch e⟩
 | ref p =>
  cases r
  rcases ty with ⟨rfl,xs,hq⟩ | ⟨rfl,o,hk,hc,hd⟩ | ⟨rfl,hk⟩ | ⟨rfl,S,n,hk⟩
  ·obtain⟨its,_,pl,_⟩:=I.list hq
   refine⟨pl.isList.typeIs,λ a e=>?_⟩
   cases e
   obtain⟨o,n,e,c,hd,_⟩:=pl
   exact⟨o,e,hd⟩
  ·refine⟨⟨o,I.kIn p o hk,hc⟩,λ a e=>?_⟩
   cases e
   exact⟨o,I.kIn _ o hk,hd⟩
  ·have z:∃ o,s.heap.get? p=some o/\o.ExactDict:=by
    rcases hk with ⟨kvs,hk⟩ | ⟨kvs,hk⟩
    ·obtain⟨_,_,_,_,o,_,_,e,ex,_⟩:=I.hok p _ hk
     exact⟨o,e,ex⟩
    ·obtain⟨_,_,_,_,o,_,_,e,ex,_⟩:=I.hok p _ hk
     exact⟨o,e,ex⟩
   obtain⟨o,e,ex⟩:=z
   refine⟨⟨o,e,ex.1⟩,λ a e2=>?_⟩
   cases e2
   exact⟨o,e,ex.2.1⟩
  ·obtain⟨o,_,_,_,e,ex,_⟩:=I.hok p _ hk
   refine⟨⟨o,e,ex.1⟩,λ a e2=>?_⟩
   cases e2
   exact⟨o,e,ex.2.1⟩
 | _=>exact False.elim ty
def tBM (K:PySem.W.Frag) (T:String) (r:V->List V->Hp->VK->Prop) (to:TE) (t:TA):TE:=λ σ H Q=>to σ H λ x H1=>tyV K T x H1/\t σ H1 λ xs H2=>r x xs H2 Q
variable {o e:Expr}{es:List Expr}{to:TE}{t:TA}{name:Str}{apos cpos:Pos}{T id:String}{r:V->List V->Hp->VK->Prop}
theorem rZ (pa:PlainAttrs T) (slot:Slot T name id) (hty:typeOf (.builtin id)=pure (.type "method_descriptor")) (hm:MtR X id r) (ho:PE X o to) (ha:PA X (e::es) t)
  (hbase:attributeBase o name X.env (eval o X.env)=eval o X.env:=by rfl)
  (hfew:((backTo cpos (starEach (e::es) X.env)).all (λ x=>!x.1) && (backToKw cpos (keywordEach [] X.env)).all (λ x=>x.1.isSome)
   && decide ((e::es).length+([]:List Keyword).length+(if ([]:List Keyword).isEmpty then 0 else 1)<30))=true:=by rfl)
  (hline:(apos.endLine == cpos.line)=true:=by rfl) (hs:starEach (e::es) X.env=(false,eval e X.env)::starEach es X.env:=by rfl) (hplain:(backTo cpos (starEach es X.env)).any (·.1)=false:=by rfl) :
  PE X (.Call (.Attribute o name apos) (e::es) [] cpos) (tBM X.K T r to t):=by
 intro pins s σ H Q I h
 refine wpAny_Call_method_late hbase hfew hline rfl (thn (ho pins s σ H _ I h) λ v s1 ⟨x,H1,I1,r1,ty,q1⟩=>?_)
 obtain⟨h1,h2⟩:=Ae I1 r1 ty
 refine⟨T,id,pa,slot,hty,h1,h2,?_⟩
 have hA:=ha cpos pins s1 σ H1 _ I1 q1
 rw[hs] at hA ⊢
 refine Calls.callWith_builtin (by show (false || (backTo cpos (starEach es X.env)).any (·.1))=false;rw[hplain]<;>rfl) (Calls.evalArgs_plain ?_)
 exact thn hA λ us s2 ⟨vs,H2,I2,r2,q2⟩=>hm pins s2 σ H2 x vs v us Q I2 r1 r2 q2
end
end L2
namespace L2
open PySem PySem.Spec PyProof.Rows
def MtM (X:Cx) (id:String) (r:V->List V->Hp->VK->Prop):Prop :=
 ∀ (pins:List (Addr×Obj)) (s:Shared) (σ:St) (H:Hp) (x:V) (xs:List V) (v:Value) (us:List Value) (Q:VK),Inv X pins σ H s->a8 x v->aM xs us->r x xs H Q ->
  wpAny (model X.prog X.w) X.A (call (.builtin id) (v::us)) (EP X pins σ Q) X.xe s
theorem aM.one:∀ {x:V}{us:List Value},aM [x] us->∃ u,us = [u]/\a8 x u
 | _,_,.cons r .nil=>⟨_,rfl,r⟩
theorem aM.two:∀ {x y:V}{us:List Value},aM [x,y] us->∃ u v,us = [u,v]/\a8 x u/\a8 y v
 | _,_,_,.cons r (.cons q .nil)=>⟨_,_,rfl,r,q⟩
theorem aM.zero:∀ {us:List Value},aM [] us->us = []
 | _,.nil=>rfl
theorem aM.eraseIdx:∀ {xs:List V}{us:List Value} (i:Nat),aM xs us->aM (xs.eraseIdx i) (us.eraseIdx i)
 | _,_,_,.nil=>.nil
 | _,_,0,.cons _ t=>t
 | _,_,i+1,.cons r t=>.cons r (aM.eraseIdx i t)
theorem aM.reverse {xs:List V}{us:List Value} (h:aM xs us):aM xs.reverse us.reverse:=by
 induction h with
 | nil=>exact .nil
 | cons r t ih=>rw[List.reverse_cons,List.reverse_cons];exact aM.append ih (.cons r .nil)
section
variable {X:Cx}{pins:List (Addr×Obj)}{σ:St}{H:Hp}{s:Shared}{l b:Addr}{xs ys zs:List V}
theorem Inv.lset {its its':List Value}{n:Nat}{f:Array Value->Array Value}{t':Nat} (I:Inv X pins σ H s) (hH:H l=some (.lst xs))
  (e:s.heap.get? l=some {cls:=.type "list",data:=.seq its.toArray n}) (hf:f its.toArray=its'.toArray) (hv:aM ys its') (hz:ys.length<=sizeLine) :
  Inv X pins σ (upd H l (.lst ys)) {s with heap:=s.heap.update l (Obj.mapSeq f),toks:=t'}:=by
 have q:=PySem.IsL.update e f
 rw[hf] at q
 refine I.write (x:=l) (e:=l) (by rw[hH];exact trivial) (.inl rfl) (λ b' u hb hu=>(Heap.get?_update_other s.heap (Obj.mapSeq f) (Ne.symm hb)).trans hu) ⟨_,q⟩ ?_
 exact⟨hz,its',_,hv,q⟩
theorem Inv.lnew {its:List Value}{t':Nat} (I:Inv X pins σ H s) (hv:aM ys its) (hz:ys.length<=sizeLine) :
  Inv X pins σ (upd H s.heap.objs.size (.lst ys)) {s with heap:=s.heap.push {cls:=.type "list",data:=.seq its.toArray},toks:=t'} :=
 I.laid (λ _ _ q=>Heap.get?_push_of_some _ q) (Nat.le_refl _) ⟨hz,its,0,hv,Heap.get?_push_size _ rfl⟩
theorem Inv.fresh (I:Inv X pins σ H s):H s.heap.objs.size=none:=I.hok.fresh (Nat.le_refl _)
theorem Inv.lstM (I:Inv X pins σ H s) (hH:H l=some (.lst xs)):xs.length<=sizeLine/\∃ (its:List Value) (n:Nat),aM xs its/\xs.length=its.length/\s.heap.get? l=some {cls:=.type "list",data:=.seq its.toArray n}:=by
 obtain⟨z,its,n,r,e⟩:=I.hok l _ hH
 exact⟨z,its,n,r,r.length,e⟩
theorem wy {n:Nat} (h:n<=sizeLine):Builtin.List.listTooLong n=false:=by
 unfold Builtin.List.listTooLong
 exact decide_eq_false (by omega)
end
section
variable {X:Cx}
def yn:V->List V->Hp->VK->Prop:=λ x vs H Q=>∃ l xs y,x=.ref l/\vs = [y]/\H l=some (.lst xs)/\xs.length<sizeLine/\Q .non (upd H l (.lst (xs++[y])))
theorem eO:MtM X "list.append" yn:=by
 intro pins s σ H x vs v us Q I rx rv h
 obtain⟨l,xs,y,rfl,rfl,hH,hz,q⟩:=h
 cases rx
 obtain⟨u,rfl,ru⟩:=rv.one
 obtain⟨z,its,n,r,hl,e⟩:=I.lstM hH
 refine call_meets F.slot_list_append ⟨_,e,rfl⟩ F.entry_list_append (F.args_list_append_2 _ _) (PySem.list_append l its.toArray n u (by rw[List.size_toArray];omega)) ⟨e,?_⟩
 refine⟨.non,_,I.lset (its':=its++[u]) hH e (by simp) (r.append (.cons ru .nil)) ?_,rfl,q⟩
 rw[List.length_append,List.length_singleton]
 omega
def CK:R2:=λ x y H Q=>∃ l b xs zs,x=.ref l/\y=.ref b/\H l=some (.lst xs)/\H b=some (.lst zs)/\xs.length+zs.length<=sizeLine/\∀ p,H p=none->Q (.ref p) (upd H p (.lst (xs++zs)))
theorem fg:OpR X (binaryOp .Add) CK:=by
 intro pins s σ H x y v u Q I rx ry h
 obtain⟨l,b,xs,zs,rfl,rfl,hH,hB,hz,q⟩:=h
 cases rx
 cases ry
 obtain⟨z,its,n,r,hl,e⟩:=I.lstM hH
 obtain⟨z2,its2,n2,r2,hl2,e2⟩:=I.lstM hB
 refine PySem.P.add_list e e2 ?_ (by rw[List.size_toArray,List.size_toArray];omega)
 have ea:its.toArray++its2.toArray=(its++its2).toArray:=by simp
 rw[ea]
 exact⟨.ref _,_,I.lnew (t':=s.toks) (r.append r2) (by rw[List.length_append];omega),rfl,q _ I.fresh⟩
end
section
variable {prog:Program}{w:World}{A:Around}{E:Value->Shared->Prop}{s:Shared}
end
section
variable {X:Cx}
end
end L2
namespace Att
open PySem PySem.W PySem.Calls PyProof.Rows
theorem jn {P:Params}{h:Heap}:∀ (ns:List Int) (vs:List Value),WellAll P h vs (ns.map WData.int)->IntsAre vs ns:=by
 intro ns
 induction ns with
 | nil =>
  intro vs w
  rw[List.map_nil] at w
  cases w
  exact .nil
 | cons n ns ih =>
  intro vs w
  rw[List.map_cons] at w
  cases w with
  | cons a b =>
   cases a
   exact .cons _ _ (ih _ b)
theorem tK {l:OpenLaw}{n:Nat} (hn:l.most=some n) {P:Params}{h:Heap}{args:List WData}{vals:List Value}
  (hpre:l.row.toRowW.claim.pre args=true) (hwl:WellAll P h vals args) :
  ∃ a vs ns,vals = [Value.ref a]/\args = [WData.list (ns.map WData.int)]/\h.get? a=some {cls:=.type "list",data:=.seq vs.toArray}/\IntsAre vs ns/\ns.length<=n:=by
 have hsh:WShape.hasAll [] args [.list .int]=true:=(pre_splitW hpre).1
 have hc:l.pre.holds [] {args:=args}=true:=(pre_splitW hpre).2
 obtain⟨d,r,rfl,h1,h2⟩:=hasAllW_cons hsh
 obtain rfl:=hasAllW_nil h2
 obtain⟨xs,rfl,h3⟩:=hasW_list h1
 obtain⟨ns,rfl⟩:=items_int h3
 have hlen:ns.length<=n:=by
  unfold OpenLaw.pre at hc
  have h4:(WTm.not (.lt (.lit (.int (n:Int))) (.len (.arg 0)))).holds [] {args:=[.list (ns.map .int)]}=true:=by
   have h4:=(holds_andW hc).1
   rw[hn] at h4
   exact h4
  have h5:=condW_of h4 (w_not (w_lt w_lit (w_len_list (w_arg rfl))))
  rw[List.length_map] at h5
  refine Nat.le_of_not_lt λ q=>?_
  have q':(n:Int)<((ns.length:Nat):Int):=by omega
  first
   | (rw[decide_eq_true q'] at h5;exact absurd h5 (by decide))
   | (simp at h5;omega)
 cases hwl with
 | cons w1 w2 =>
  cases w2
  cases w1 with
  | list ho hall=>exact⟨_,_,ns,rfl,rfl,ho,jn ns _ hall,hlen⟩
theorem tU (l:OpenLaw) (args:List WData):l.row.toRowW.claim.post args (.bool true) args=true :=
 postW_of (r:=l.row.toRowW) (X:=(true == true))
  (show WShape.has [] (.bool true) .bool=true by first | rfl | decide | simp [WShape.has,WShape.arms,WShape.armsAll])
  (show (WTm.eq .res (.lit (.bool true))).value [] {args:=args,res:=some (.bool true),after:=args}=some (.bool (true == true)) from w_eq_bool (w_res rfl) w_lit) rfl
section
variable {prog:Program}{w:World}{A:Around}{E:Value->Shared->Prop}{s:Shared}{K:Frag}
end
end Att
namespace L2
open PySem PySem.Spec PyProof.Rows
theorem kT:∀ {vs:List Value}{ns:List Int},IntsAre vs ns->aM (ns.map V.int) vs
 | _,_,.nil=>.nil
 | _,_,.cons n t h=>.cons ⟨t,rfl⟩ (kT h)
end L2
namespace L2
open PySem PySem.Spec PyProof.Rows
end L2
namespace L2
open PySem PySem.Spec PyProof.Rows
def ay (s:Stmt):Arguments:=match s with
 | .FunctionDef _ a _ _ _ _ _ _ _ _=>a
 | _=>{posonlyargs:=[],args:=[],vararg:=none,kwonlyargs:=[],kw_defaults:=[],kwarg:=none,defaults:=[]}
def av (s:Stmt):List Stmt:=match s with
 | .FunctionDef _ _ b _ _ _ _ _ _ _=>b
 | _=>[]
def ag (s:Stmt):Scope:=match s with
 | .FunctionDef _ _ _ _ _ _ sc _ _ _=>sc
 | _=>{kind:=.function,names:=[],isGenerator:=false,isCoroutine:=false}
abbrev CX0:CXT:=λ _ _ _ _ _ _=>False
abbrev E0:XK:=λ _ _ _=>False
theorem aD {X:Cx}:i9 CX0 X E0:=λ _ _ _ _ _ _ _ h=>h.elim
structure Fun (K:PySem.W.Frag) (x qual:Str) (st:Stmt) (f:Addr) (fd:FuncData):Prop where
 ex:∃ (oc:Value) (od:Option Addr) (kV doc pm:Value) (an:Option Addr) (cdv ct:Value) (osl:Array (Option Value)),
  fd=PySem.W.fnOf x qual (ay st) (av st) (ag st) .none kV doc pm an cdv ct/\K.lookup f=some ⟨oc,od,.func fd,osl⟩/\PySem.W.codeIn K cdv qual=true
 kp:PySem.W.keepIn K (.ref f)=true
section
variable {P:Program}{w:World}{K:PySem.W.Frag}{mg:Str->Option Value}{base:Heap}
theorem Fun.ok {x qual:Str}{st:Stmt}{f:Addr}{fd:FuncData}{N ps:List Str}{k:Nat}{sp:Sp} (F:Fun K x qual st f fd) (S:aA N ps (ag st)) (len:∀ vs H Q E,sp vs H Q E->vs.length=ps.length)
  (hbody:∀ (cdv:Value) (A:Around) (outer:List Env) (s:Shared) (H:Hp) (vs:List V) (Q:VK) (E:XK),db k (A.deeper (envOfC qual (ag st) s.heap.objs.size f cdv))->sp vs H Q E ->
   ∃ t,PSs (kM CX0 P w K mg base N qual (ag st) f cdv A outer s H E).nox (av st) t/\t {nx:=λ _ H'=>Q .non H',rt:=Q} (dk N vs) H):ax P w K mg base CX0 (k+1) f fd ps sp:=by
 obtain⟨oc,od,kV,doc,pm,an,cdv,ct,osl,rfl,lk,hcd⟩:=F.ex
 refine xh lk hcd S len λ A outer s H vs Q E hr hsp=>?_
 obtain⟨t,h,q⟩:=hbody cdv A outer s H vs Q E hr hsp
 exact⟨t,h.nox,q⟩
theorem Fun.binds {x qual:Str}{st:Stmt}{f:Addr}{fd:FuncData}{ps:List Str} (F:Fun K x qual st f fd)
  (h:∀ (kV doc pm:Value) (an:Option Addr) (cdv ct:Value) (us:List Value),us.length=ps.length->bindArgs (PySem.W.fnOf x qual (ay st) (av st) (ag st) .none kV doc pm an cdv ct) ⟨us,[]⟩=pure (ps.zip us)):aE K fd ps []:=by
 obtain⟨oc,od,kV,doc,pm,an,cdv,ct,osl,rfl,lk,hcd⟩:=F.ex
 exact .all (h kV doc pm an cdv ct)
theorem aH {x qual:Str}{st:Stmt}{f:Addr}{oc:Value}{od an:Option Addr}{osl:Array (Option Value)}{kV doc pm cdv ct:Value} (l:K.lookup f=some ⟨oc,od,.func (PySem.W.fnOf x qual (ay st) (av st) (ag st) .none kV doc pm an cdv ct),osl⟩)
  (c:PySem.W.codeIn K cdv qual=true) (k:PySem.W.keepIn K (.ref f)=true):Fun K x qual st f (PySem.W.fnOf x qual (ay st) (av st) (ag st) .none kV doc pm an cdv ct):=⟨⟨oc,od,kV,doc,pm,an,cdv,ct,osl,rfl,l,c⟩,k⟩
end
section
variable {X:Cx}
theorem pv (i:Nat) {x:Str}{pos:Pos} (hN:X.N[i]? = some x:=by rfl) (hv:Vis X.env.scope x:=by first | exact Or.inl rfl | exact Or.inr (Or.inl rfl) | exact Or.inr (Or.inr rfl)) (hd:(x == ("__debug__":Str))=false:=by decide)
  (hcd:(x == ("__classdict__":Str))=false:=by decide):PE X (.Name x pos) (pT i):=AF hN hv hd hcd
end
theorem aW {A B:Prop} (h:B):if false=true then A else B:=by
 rw[if_neg Bool.false_ne_true]
 exact h
theorem bD {A B:Prop} (h:A):if true=true then A else B:=by
 rw[if_pos rfl]
 exact h
theorem fE {c A B:Prop} [Decidable c] (h1:c->A) (h2:¬ c->B):if c then A else B:=by
 by_cases h:c
 ·rw[if_pos h]
  exact h1 h
 ·rw[if_neg h]
  exact h2 h
def ak (H H':Hp):Prop:=∀ b o,H b=some o->H' b=some o
theorem ak.refl (H:Hp):ak H H:=λ _ _ h=>h
theorem ak.trans {H H1 H2:Hp} (a:ak H H1) (b:ak H1 H2):ak H H2:=λ c o h=>b c o (a c o h)
theorem ak.free {H H':Hp} (e:ak H H') {l:Addr} (h:H' l=Option.none):H l=Option.none:=by
 cases q:H l with
 | none=>rfl
 | some o =>
  rw[e l o q] at h
  cases h
theorem ak.seq {K:PySem.W.Frag}{H H':Hp}{a:Addr}{xs:List V} (e:ak H H') (h:SqL K H a xs):SqL K H' a xs:=by
 rcases h with (h | ⟨o,h⟩) | h
 ·exact .inl (.inl (e _ _ h))
 ·exact .inl (.inr ⟨o,e _ _ h⟩)
 ·exact .inr h
end L2
namespace L2
open PySem PySem.Spec PyProof.Rows
section
variable {X:Cx}
def Sml (i:Int):Prop:=i.natAbs<2^4000
theorem Sml.bits {i:Int} (h:Sml i):Builtin.Int.intBits i<=4000:=intBits_le_iff.mpr h
theorem pI:cO X (.builtin "isinstance") (λ xs H Q=>∃ x t T b,xs = [x,.ty T]/\iB X.K H x t/\PySem.W.kitOne X.K t (.type T)=some b/\Q (.bl b) H):=by
 intro pins s σ H xs us Q I r h
 obtain⟨x,t,T,b,rfl,ty,e,q⟩:=h
 obtain⟨u,w',rfl,r1,r2⟩:=qU r
 cases r2
 exact uo I r1 ty e λ tk=>⟨.bl b,H,I.tok _,rfl,q⟩
theorem o8:∀ {ns:List Int}{us:List Value},aM (ns.map V.int) us->∃ xs:Array (Int×Tok),us.toArray=intItems xs/\xs.toList.map (·.1)=ns:=λ {ns us} r=>by
 have hi:IntsAre us ns:=qr r
 obtain⟨xs,hx⟩:=hi.allInts.items
 refine⟨xs,hx,?_⟩
 rw[<-nums_intItems,<-hx]
 exact (show numsOf us.toArray.toList=ns from hi.numsOf)
theorem xr (hc:X.calm=true):cO X (.builtin "sum") (λ xs H Q=>∃ (p:Addr) (ns:List Int),xs = [.ref p]/\SqL X.K H p (ns.map V.int)/\Q (.int ns.sum) H):=by
 intro pins s σ H xs us Q I r h
 obtain⟨p,ns,rfl,hq,q⟩:=h
 obtain⟨u,rfl,r1⟩:=jy r
 cases r1
 obtain⟨its,rv,pl,hz⟩:=I.list hq
 obtain⟨ys,hy,e1⟩:=o8 rv
 refine sum_intListG (I.ok.hd hc) (hy ▸ pl.isList) λ h' tk t' hk=>?_
 have e2:preSum (numAt ys) ys.size=ns.sum:=by
  rw[preSum_eq,List.take_of_length_le (by simp),e1]
 rw[e2]
 exact⟨.int ns.sum,H,I.kept hk,⟨_,rfl⟩,q⟩
end
theorem boot_min:bootBuiltins "min" = some (.builtin "min"):=PyProof.Rows.boot_min
theorem boot_max:bootBuiltins "max" = some (.builtin "max"):=PyProof.Rows.boot_max
theorem boot_sum:bootBuiltins "sum" = some (.builtin "sum"):=PyProof.Rows.boot_sum
theorem boot_abs:bootBuiltins "abs" = some (.builtin "abs"):=PyProof.Rows.boot_abs
theorem boot_isinstance:bootBuiltins "isinstance" = some (.builtin "isinstance"):=PyProof.Rows.boot_isinstance
theorem boot_int:bootBuiltins "int" = some (.type "int"):=PyProof.Rows.boot_int
theorem boot_bool:bootBuiltins "bool" = some (.type "bool"):=PyProof.Rows.boot_bool
theorem boot_tuple:bootBuiltins "tuple" = some (.type "tuple"):=PyProof.Rows.boot_tuple
theorem boot_list:bootBuiltins "list" = some (.type "list"):=PyProof.Rows.boot_list
theorem ig {α:Type}{ns:List α}{i:Nat}{d:α} (h:i<ns.length):ns.getD i d=ns[i]:=by simp [List.getD,h]
theorem wU {α:Type}{ns:List α}{i:Nat}{d:α} (h:ns.length<=i):ns.getD i d=d:=by simp [List.getD,h]
theorem ai {H:Hp}{p:Addr} (h:H p=none) (o:HO):ak H (upd H p o):=λ b u q=>by rw[al (aC q h)];exact q
theorem ofD {p:Prop} [Decidable p] (h:¬ decide p=true):¬ p:=of_decide_eq_false (Bool.eq_false_iff.mpr h)
theorem pU {cs:List (Str×Addr)}{x:Str}{c:Addr} (h:cs.lookup x=some c):∀ y c',[(x,c)].lookup y=some c'->cs.lookup y=some c':=λ y c' e=>by
 by_cases z:y=x
 ·subst z
  simp at e
  subst e
  exact h
 ·have:(y == x)=false:=by simpa using z
  simp [List.lookup,this] at e
theorem ce {ns:List Int}{i:Int} (h0:0<=i) (h1:i<(ns.length:Int)):atI (ns.map V.int) i=some (.int (ns.getD i.toNat 0)):=by
 have hk:i.toNat<ns.length:=by omega
 have ek:i=((i.toNat:Nat):Int):=by omega
 have z:atI (ns.map V.int) ((i.toNat:Nat):Int)=some (.int ns[i.toNat]):=bx (by rw[List.getElem?_map,List.getElem?_eq_getElem hk]<;>rfl)
 rw[<-ek] at z
 rw[z,ig hk]
theorem md0 (c:Int) {m:Int} (h:0<m):0<=c%m:=Int.emod_nonneg _ (by omega)
theorem md1 (c:Int) {m:Int} (h:0<m):c%m<m:=Int.emod_lt_of_pos _ h
end L2
namespace L2
open PySem PySem.Spec PyProof.Rows
def aI (X:Cx) (N':List Str) (scope:Scope) (cl:List (Str×Addr)) (C:Addr) (s3:Shared) (H3:Hp) (fp:List Addr):Cx where
 prog:=X.prog
 w:=X.w
 K:=X.K
 mg:=X.mg
 base:=X.base
 A:=X.A
 N:=N'
 s₀:=s3
 H₀:=H3
 env:=compEnvC scope cl C X.env
 outer:=X.stack
 stack:=X.stack
 ex:=fp
 fn:=λ _=>false
 calm:=X.calm
 pn:=[]
 xe:=λ _ _=>False
def bM (σ:St) (fr:List Nat):St:=fr.map λ j=>(σ[j]?).getD none
def nY (J:It) (te:TE) (st:St) (D:Addr) (H1:Hp) (Q:VK):Prop :=
 ∃ W:Nat->Nat->List V->Hp->Prop,(∃ m,W 0 m [] (upd H1 D (.lst [])))/\∀ i m ys H2,W i m ys H2 ->
  (J.stop i H2/\Q (.ref D) H2)∨(J.go i H2/\∀ x H3,J.yld i H2 x H3->te (some x::st) H3 λ y H4=>H4 D=some (.lst ys)/\ys.length<sizeLine/\∃ m',m'<m/\W (i+1) m' (ys++[y]) (upd H4 D (.lst (ys++[y]))))
def BK (wi:TI) (fr:List Nat) (te:TE):TE:=λ σ H Q=>wi σ H λ J H1=>∀ D,H1 D=none->nY J te (bM σ fr) D H1 Q
theorem nN {prog:Program}{w:World}{A:Around}{R:Result->Shared->Prop}{s:Shared}{elt tg iter:Expr}{scope:Scope}{pos:Pos}{it acc:Value}{env:Env} (Iv:Nat->Shared->Prop)
  (turn:∀ k s,Iv k s->wpAny (model prog w) A (pyNext it) (λ r s1=>match r with
   | none=>R (.ok .next) s1
   | some v=>wpAny (model prog w) A (letOwnedTupleGo tg it v) (λ _ s2=>wpAny (model prog w) A (assign tg env v) (λ _ s3=>wpAny (model prog w) A (eval elt env) (λ y s4 =>
     wpAny (model prog w) A (call (.builtin "list.append") [acc,y]) (λ _ s5=>∃ m,m<k/\Iv m s5) (λ _ _=>False) s4) (λ _ _=>False) s3) (λ _ _=>False) s2) (λ _ _=>False) s1) (λ _ _=>False) s)
  (k:Nat) (h:Iv k s):codeAny (model prog w) A (.compLoop (.ListComp elt [⟨tg,iter,[],0⟩] scope pos) 0 it acc env) R s:=by
 refine codeAny_loop rfl Iv (λ k s hI=>?_) k h
 show wpAny _ _ ((compTurn (.ListComp elt [⟨tg,iter,[],0⟩] scope pos) 0 it acc env).onRaise (λ e=>do noteFrame e env;theTreesLotGoes e)) _ _ s
 refine wpAny_noted ?_
 rw[compTurn_list1]
 refine wpAny_bind (wpAny_standAt (wpAny_bind (wpAny_mono (turn k s hI) (λ r s1 h1=>?_) λ _ _ f=>f.elim)))
 cases r with
 | none=>exact wpAny_pure h1
 | some v =>
  exact wpAny_bind (wpAny_mono h1 (λ _ s2 h2=>wpAny_bind (wpAny_mono h2 (λ _ s3 h3=>wpAny_bind (wpAny_bind (wpAny_mono h3 (λ y s4 h4=>wpAny_bind (wpAny_mono h4
   (λ _ s5 h5=>wpAny_pure (wpAny_pure ⟨rfl,h5⟩)) λ _ _ f=>f.elim)) λ _ _ f=>f.elim))) λ _ _ f=>f.elim)) λ _ _ f=>f.elim)
theorem gO {lo:Int}{n:Nat}{te:TE}{st:St}{H1:Hp}{Q:VK}{D:Addr} (f:Nat->V) (hD:H1 D=none) (hn:n<=sizeLine)
  (hs:∀ (i:Nat) (H2:Hp) (k:VK),i<n->ak H1 H2->(∀ H4,ak H2 H4->k (f i) H4)->te (some (.int (lo+i))::st) H2 k)
  (hd:∀ H2,ak H1 H2->H2 D=some (.lst ((List.range n).map f))->Q (.ref D) H2):nY (Itr lo n) te st D H1 Q:=by
 have same:∀ {H2:Hp}{o:HO},ak H1 H2->ak H1 (upd H2 D o):=λ {H2 o} h b u e=>by rw[al (aC e hD)];exact h b u e
 refine⟨λ i m ys H2=>m=n-i/\i<=n/\ys=(List.range i).map f/\ak H1 H2/\H2 D=some (.lst ys),⟨n,by simp,Nat.zero_le _,rfl,same (ak.refl H1),ad⟩,?_⟩
 rintro i m ys H2 ⟨rfl,hi,rfl,sm,e⟩
 by_cases hlt:i<n
 ·refine .inr ⟨hlt,λ x H3 y=>?_⟩
  obtain⟨e1,e2⟩:=y
  subst e1 e2
  have ln:((List.range i).map f).length=i:=by rw[List.length_map,List.length_range]
  refine hs i _ _ hlt sm λ H4 s4=>⟨s4 _ _ e,by rw[ln];omega,n-(i+1),by omega,rfl,hlt,?_,same (sm.trans s4),ad⟩
  rw[List.range_succ,List.map_append]<;>rfl
 ·have ei:i=n:=by omega
  subst ei
  exact .inl ⟨Nat.le_refl _,hd _ sm e⟩
structure dO (X:Cx) (x:Str) (ts:List (Str×Nat)) (scope:Scope) (cl:List (Str×Addr)):Prop where
 clos:closureFor scope X.env=pure cl
 sub:∀ y c,cl.lookup y=some c->X.env.cells.lookup y=some c
 nocell:(scope.names.all λ p=>p.2 != .cell)=true
 kind:scope.kind=.function
 locs:(scope.names.all λ p=>p.2 != .local || scope.names.lookup p.1 == some .local)=true
 var:scope.names.lookup x=some .local
 nd:(x::ts.map (·.1)).Nodup
 around:(ts.all λ p=>decide (X.N[p.2]? = some p.1) && (X.env.kindOf p.1 == some .cell || X.env.kindOf p.1 == some .free) && (cl.lookup p.1).isSome &&
  ((relabel scope X.env).names.lookup p.1 == some .cell || (relabel scope X.env).names.lookup p.1 == some .free))=true
 has:((relabel scope X.env).names.all λ p=>!(p.2 == .cell || p.2 == .free) || (cl.lookup p.1).isSome)=true
abbrev fz (x:Str) (ts:List (Str×Nat)):List Str:=x::ts.map (·.1)
abbrev bL (ts:List (Str×Nat)):List Nat:=ts.map (·.2)
theorem dO.nocell' {X:Cx}{x:Str}{ts:List (Str×Nat)}{scope:Scope}{cl:List (Str×Addr)} (O:dO X x ts scope cl):∀ y∈scope.names,y.2≠.cell:=λ y hy e=>by
 have:=List.all_eq_true.mp O.nocell y hy
 rw[e] at this
 cases this
theorem dO.locs' {X:Cx}{x:Str}{ts:List (Str×Nat)}{scope:Scope}{cl:List (Str×Addr)} (O:dO X x ts scope cl):∀ y∈scope.names,y.2=.local->scope.names.lookup y.1=some .local:=λ y hy e=>by
 have h:=List.all_eq_true.mp O.locs y hy
 rw[e] at h
 rcases Bool.or_eq_true_iff.mp h with z | z
 ·cases z
 ·exact beq_iff_eq.mp z
theorem dO.from' {X:Cx}{x:Str}{ts:List (Str×Nat)}{scope:Scope}{cl:List (Str×Addr)} (O:dO X x ts scope cl):∀ (i:Nat) (y:Str),(fz x ts)[i+1]? = some y->∃ j,(bL ts)[i]? = some j/\X.N[j]? = some y/\(X.env.kindOf y=some .cell∨X.env.kindOf y=some .free)/\(cl.lookup y).isSome=true /\
  ((relabel scope X.env).names.lookup y=some .cell∨(relabel scope X.env).names.lookup y=some .free):=λ i y e=>by
 have e1:(ts.map (·.1))[i]? = some y:=by simpa using e
 rw[List.getElem?_map] at e1
 cases q:ts[i]? with
 | none=>rw[q] at e1;cases e1
 | some p =>
  rw[q] at e1
  have e2:p.1=y:=Option.some.inj e1
  subst e2
  have h:=List.all_eq_true.mp O.around p (List.mem_of_getElem? q)
  simp only[Bool.and_eq_true,Bool.or_eq_true,beq_iff_eq,decide_eq_true_eq] at h
  obtain⟨⟨⟨h1,h2⟩,h3⟩,h4⟩:=h
  refine⟨p.2,?_,h1,h2,h3,h4⟩
  show (ts.map (·.2))[i]? = some p.2
  rw[List.getElem?_map,q]<;>rfl
theorem dO.has' {X:Cx}{x:Str}{ts:List (Str×Nat)}{scope:Scope}{cl:List (Str×Addr)} (O:dO X x ts scope cl):∀ y,((relabel scope X.env).names.lookup y=some .cell∨(relabel scope X.env).names.lookup y=some .free)->(cl.lookup y).isSome=true:=λ y h=>by
 have go:∀ k:NameKind,(k=.cell∨k=.free)->(relabel scope X.env).names.lookup y=some k->(cl.lookup y).isSome=true:=λ k hk e=>by
  have z:=List.all_eq_true.mp O.has (y,k) (PySem.mem_of_lookup e)
  rcases Bool.or_eq_true_iff.mp z with z | z
  ·rcases hk with e | e<;>(rw[e] at z;cases z)
  ·exact z
 rcases h with h | h
 ·exact go _ (.inl rfl) h
 ·exact go _ (.inr rfl) h
section
variable {X:Cx}{elt iter:Expr}{x:Str}{px pos:Pos}{scope:Scope}{cl:List (Str×Addr)}{ts:List (Str×Nat)}{wi:TI}{te:TE}
theorem y7 {pins:List (Addr×Obj)}{σ:St}{H3:Hp}{s3:Shared}{fp:List Addr} (O:dO X x ts scope cl) (I3:Inv X pins σ H3 s3) (hfp:∀ b∈fp,dU X pins H3 b/\b<s3.heap.objs.size) :
  (aI X (fz x ts) scope cl s3.heap.objs.size s3 H3 fp).Ok where
 mod:=I3.ok.mod
 kind:=O.kind
 glob:=I3.ok.glob
 blt:=I3.ok.blt
 above:=Nat.le_refl _
 inj:=λ y z c h1 h2=>I3.ok.inj y z c (O.sub y c h1) (O.sub z c h2)
 has:=λ y h=>Option.isSome_iff_exists.mp (O.has' y h)
 cab:=λ y c h=>by cases h
 hd:=I3.ok.hd
 frames:=I3.ok.frames
 stk:=.inl rfl
 exf:=λ b hb=>⟨Nat.ne_of_lt (hfp b hb).2,λ y c e=>(hfp b hb).1.2.2.2.2.1 y c (O.sub y c e)⟩
 bs:=λ b o e=>I3.bs b o e
 bsz:=Nat.le_trans I3.ok.bsz I3.sz
 noex:=λ b o e hb=>by
  rcases (hfp b hb).1.2.2.2.1 with z | z
  ·exact I3.ok.noex b o e z
  ·exact absurd (Nat.lt_of_lt_of_le (Heap.lt_size (I3.ok.bs b o e).1) z) (Nat.lt_irrefl _)
 exfs:=λ b hb hz=>by
  rcases List.mem_cons.mp (I3.stkSub b hz) with e | e
  ·exact (hfp b hb).1.2.1 e
  ·exact (hfp b hb).1.2.2.1 e
 funs:=I3.stack
 frf:=I3.stkFree
theorem qF {pins:List (Addr×Obj)}{σ:St}{H3:Hp}{s3:Shared}{fp:List Addr}{h1:Heap}{tk:Nat} (O:dO X x ts scope cl) (I3:Inv X pins σ H3 s3) (hfp:∀ b∈fp,dU X pins H3 b/\b<s3.heap.objs.size)
  (hns:h1.Ns s3.heap.objs.size λ _=>none) (old:∀ b o,s3.heap.get? b=some o->h1.get? b=some o) :
  Inv (aI X (fz x ts) scope cl s3.heap.objs.size s3 H3 fp) [] (none::bM σ (bL ts)) H3 {s3 with heap:=h1,toks:=tk}:=by
 refine⟨y7 O I3 hfp,rfl,I3.bare,Un.kept old,⟨_,hns,λ i y v e1 e2 e3=>?_⟩,λ y c e=>?_,I3.hok.fresh (Nat.le_refl _),λ y c e=>I3.freeC y c (O.sub y c e),λ p hp=>absurd (show p∈([]:List (Addr×Obj)) from hp) (by simp),I3.hok.kept old,?_⟩
 ·cases i with
  | zero=>simp at e2
  | succ i =>
   obtain⟨j,hj,hN,hk,hcl,hk2⟩:=O.from' i y e1
   have e2':σ[j]? = some (some v):=by
    have q:(bM σ (bL ts))[i]? = some (some v):=by simpa using e2
    unfold bM at q
    rw[List.getElem?_map,hj] at q
    have q':(σ[j]?).getD none=some v:=Option.some.inj q
    cases z:σ[j]? with
    | none=>rw[z] at q';cases q'
    | some w=>rw[z] at q';rw[show w=some v from q']
   obtain⟨m,hn,hl⟩:=I3.loc
   have vis:Vis X.env.scope y:=hk.elim (λ z=>.inr (.inl z)) λ z=>.inr (.inr z)
   obtain⟨u,r,l⟩:=hl j y v hN e2' vis
   obtain⟨c,hc⟩:=Option.isSome_iff_exists.mp hcl
   refine⟨u,r,.inr ⟨hk2,c,hc,?_⟩⟩
   rcases l with ⟨k,_⟩ | ⟨_,c',hc',z⟩
   ·rcases hk with hk | hk
    ·rw[k] at hk;cases hk
    ·rw[k] at hk;cases hk
   ·rw[O.sub y c hc] at hc'
    cases hc'
    obtain⟨o,ho,hd⟩:=z
    exact⟨o,old c o ho,hd⟩
 ·obtain⟨v,o,ho,hd⟩:=I3.cell y c (O.sub y c e)
  exact⟨v,o,old c o ho,hd⟩
 ·show (none::bM σ (bL ts)).length=(fz x ts).length
  simp [bM]
theorem fe (hc:X.calm=true) (O:dO X x ts scope cl) (hi:PI X (.Name x px) iter wi) (he:∀ C s3 H3 fp,PE (aI X (fz x ts) scope cl C s3 H3 fp) elt te)
  (hs:∀ x,foldedSetIterable iter X.env x=pure x:=by intro _;rfl):PE X (.ListComp elt [⟨.Name x px,iter,[],0⟩] scope pos) (BK wi (bL ts) te):=by
 intro pins s σ H Q I h
 rw[eval_ListComp]
 refine wpAny_comprehension_free (use:=none) rfl hs O.clos O.kind O.locs' (thn (hi pins s σ H _ I h) λ v s1 h1=>thn h1 λ itv s2 h2=>?_)
 obtain⟨it,fp,tn,J,H2,rfl,I2,T,st2,f2,q⟩:=h2
 have hD:H2 s2.heap.objs.size=none:=I2.hok.fresh (Nat.le_refl _)
 obtain⟨W,⟨m0,w0⟩,turn⟩:=q s2.heap.objs.size hD
 refine wpAny_newObj_type ?_
 have I3:Inv X pins σ (upd H2 s2.heap.objs.size (.lst [])) {s2 with heap:=s2.heap.push {cls:=.type "list",dict:=none,data:=.seq ([]:List Value).toArray}} :=
  I2.laid (a:=s2.heap.objs.size) (o:=.lst []) (t':=s2.toks) (λ b u e=>Heap.get?_push_of_some _ e) (Nat.le_refl _) ⟨Nat.zero_le _,[],0,.nil,Heap.get?_push_size _ rfl⟩
 generalize hs3:({s2 with heap:=s2.heap.push {cls:=.type "list",dict:=none,data:=.seq ([]:List Value).toArray}}:Shared)=s3 at I3
 have sz3:s3.heap.objs.size=s2.heap.objs.size+1:=by rw[<-hs3,Heap.size_push]
 have old3:∀ b u,s2.heap.get? b=some u->s3.heap.get? b=some u:=λ b u e=>by rw[<-hs3];exact Heap.get?_push_of_some _ e
 generalize hH3:upd H2 s2.heap.objs.size (.lst [])=H3 at I3 w0
 have H3D:H3 s2.heap.objs.size=some (.lst []):=by rw[<-hH3];exact ad
 have fp2:∀ b∈fp,b<s2.heap.objs.size:=λ b hb=>by
  obtain⟨o,e,_⟩:=T.obj _ _ st2 b hb
  exact Heap.lt_size e
 have hfp:∀ b∈fp,dU X pins H3 b/\b<s3.heap.objs.size:=λ b hb=>by
  refine⟨⟨?_,(f2 b hb).2⟩,by rw[sz3];exact Nat.lt_succ_of_lt (fp2 b hb)⟩
  rw[<-hH3,al (Nat.ne_of_lt (fp2 b hb))]
  exact (f2 b hb).1
 refine wpAny_newFunctionEnv O.nocell' (by intro y hy;simp at hy) (λ h₁ hns₁ hsb₁=>?_) O.kind
 have old:∀ b o,s3.heap.get? b=some o->h₁.get? b=some o:=λ b o e=>hsb₁.extBut b o (Nat.ne_of_lt (Heap.lt_size e)) (Heap.get?_push_of_some _ e)
 have dk:Inv (aI X (fz x ts) scope cl s3.heap.objs.size s3 H3 fp) [] (none::bM σ (bL ts)) H3 {s3 with heap:=h₁,toks:=s3.toks+0}:=qF O I3 hfp hns₁ old
 have st4:tn 0 h₁:=T.keep _ _ _ st2 λ b hb o e=>old b o (old3 b o e)
 have okX:∀ {H':Hp},(∀ b∈fp,H' b=none)->∀ b∈fp,dU (aI X (fz x ts) scope cl s3.heap.objs.size s3 H3 fp) [] H' b:=λ hn b hb=>by
  refine⟨hn b hb,Nat.ne_of_lt (hfp b hb).2,λ z=>?_,.inl hb,λ y c e=>(f2 b hb).2.2.2.2.1 y c (O.sub y c e),λ p hp=>absurd (show p∈([]:List (Addr×Obj)) from hp) (by simp)⟩
  rcases List.mem_cons.mp (I3.stkSub b z) with e | e
  ·exact (f2 b hb).2.1 e
  ·exact (f2 b hb).2.2.1 e
 have loop:∀ s₄:Shared,s₄={s3 with heap:=h₁,toks:=s3.toks+0} ->
   codeAny (model X.prog X.w) X.A (.compLoop (.ListComp elt [⟨.Name x px,iter,[],0⟩] scope pos) 0 (.ref it) (.ref s2.heap.objs.size) (compEnvC scope cl s3.heap.objs.size X.env))
    (compPost (model X.prog X.w) X.A X.xe none (EP X pins σ Q) (.ref s2.heap.objs.size) s3.heap.objs.size) s₄:=by
  rintro s₄ rfl
  refine nN (λ n s'=>∃ i ys σ0 H',Inv (aI X (fz x ts) scope cl s3.heap.objs.size s3 H3 fp) [] (σ0::bM σ (bL ts)) H' s'/\tn i s'.heap/\(∀ b∈fp,H' b=none)/\W i n ys H') ?_ m0
   ⟨0,[],none,H3,dk,st4,λ b hb=>(hfp b hb).1.1,w0⟩
  rintro n s5 ⟨i,ys,σ0,H5,I5,st5,fr5,w5⟩
  rcases turn i n ys H5 w5 with ⟨stop,qn⟩ | ⟨go,step⟩
  ·refine thn (T.done (aI X (fz x ts) scope cl s3.heap.objs.size s3 H3 fp) rfl rfl rfl hc i [] s5 (σ0::bM σ (bL ts)) H5 _ I5 (okX fr5) st5 stop) λ r s6 ⟨hr,I6⟩=>?_
   subst hr
   obtain⟨m,hn,_⟩:=id I6.loc
   refine⟨m,hn,λ h' sb=>?_⟩
   have u6:Un (frs X.stack) fp H3 H5 s3.heap s6.heap:=I6.base
   have neC:∀ b o,s3.heap.get? b=some o->b≠s3.heap.objs.size:=λ b o e=>Nat.ne_of_lt (Heap.lt_size e)
   have un:Un (frs X.stack) fp H3 H5 s3.heap h':=⟨λ b o e n1 hb hx=>(sb.2 b (neC b o e)).trans (u6.keep b o e n1 hb hx),λ b o e n1 hb hx=>by
     obtain⟨sl,z⟩:=u6.slot b o e n1 hb hx
     exact⟨sl,(sb.2 b (neC b o e)).trans z⟩,u6.free,λ b o e hx=>by
     obtain⟨o',z⟩:=u6.there b o e hx
     exact⟨o',(sb.2 b (neC b o e)).trans z⟩,u6.tups,u6.frzs,u6.tbls⟩
   have hok:HOk X.prog X.w H5 h':=λ b u e=>by
    refine (I6.hok b u e).stay (λ c v hc' z=>(sb.2 c ?_).trans z) (λ _ z=>z) λ _ _ z=>z
    rintro rfl
    have fC:H5 s3.heap.objs.size=none:=I6.free
    rcases hc' with z' | z'
    ·rw[<-z',fC] at e;cases e
    ·rw[fC] at z';cases z'
   refine⟨.ref s2.heap.objs.size,H5,I3.call' (s':={s6 with heap:=h'}) (ch:=fp) ?_ un hok I6.bare (λ b hb=>⟨(f2 b hb).2.2.2.1,(f2 b hb).2.1,(f2 b hb).2.2.2.2.1,(f2 b hb).2.2.2.2.2⟩),rfl,qn⟩
   exact I6.os
  ·refine thn (T.item (aI X (fz x ts) scope cl s3.heap.objs.size s3 H3 fp) rfl rfl rfl hc i [] s5 (σ0::bM σ (bL ts)) H5 _ I5 (okX fr5) st5 go) λ r s6 ⟨u,hr,h6⟩=>?_
   subst hr
   refine thn h6 λ _ s7 ⟨z,H7,I7,rz,yz,st7,fr7⟩=>?_
   have I7':=I7.pinned (okX fr7) (T.obj _ _ st7)
   have PG':PG (aI X (fz x ts) scope cl s3.heap.objs.size s3 H3 fp) (.Name x px) (cr 0):=az (i:=0) O.nd rfl (.inl (lookup_relabel_local O.var)) (.inr (lookup_relabel_local O.var))
   refine thn (PG' _ s7 _ H7 z u (λ σ' H'=>σ'=some z::bM σ (bL ts)/\H'=H7) I7' rz ⟨rfl,rfl⟩) λ _ s8 ⟨σ8,H8,I8,e8,eh8⟩=>?_
   subst e8 eh8
   refine thn (he s3.heap.objs.size s3 H3 fp _ s8 _ H8 _ I8 (step z H8 yz)) λ y s9 ⟨vy,H9,I9,ry,hD9,hl9,m',hm',w9⟩=>?_
   refine thn (eO (X:=aI X (fz x ts) scope cl s3.heap.objs.size s3 H3 fp) _ s9 _ H9 (.ref s2.heap.objs.size) [vy] (.ref s2.heap.objs.size) [y] (λ _ H10=>H10=upd H9 s2.heap.objs.size (.lst (ys++[vy]))) I9 rfl (.cons ry .nil) ⟨_,ys,vy,rfl,rfl,hD9,hl9,rfl⟩) λ _ s10 ⟨_,H10,I10,_,e10⟩=>?_
   subst e10
   refine⟨m',hm',i+1,ys++[vy],some z,_,I10.unpinned,T.keep _ _ _ st7 λ b hb o e=>(I10.pin (b,o) (List.mem_append_right _ (List.mem_append_right _ (bg hb e)))).1,λ b hb=>?_,w9⟩
   obtain⟨o,e,d⟩:=T.obj _ _ st7 b hb
   exact (I10.pin (b,o) (List.mem_append_right _ (List.mem_append_right _ (bg hb e)))).2.1
 have hst:=codeAny_compStart_list (loop _ rfl) (T.self X.A 0 _ _ _ st4 (loop _ rfl))
 exact hst
end
end L2
namespace L2
open PySem PySem.Spec PyProof.Rows
inductive Th where
 | non | bl (b:Bool) | int (i:Int) | str (x:Str) | lst (xs:List Th) | tup (xs:List Th) | emp | dic
mutual
def Den (H:Hp):Th->V->Prop
 | .non,v=>v=.non
 | .bl b,v=>v=.bl b
 | .int i,v=>v=.int i
 | .str x,v=>v=.str x
 | .lst ts,v=>∃ a xs,v=.ref a/\H a=some (.lst xs)/\bH H ts xs
 | .tup ts,v=>∃ a xs,v=.ref a/\H a=some (.tup xs)/\bH H ts xs
 | .emp,v=>∃ a,v=.ref a/\H a=some (.dK [])
 | .dic,v=>∃ a kvs,v=.ref a/\H a=some (.dK kvs)
def bH (H:Hp):List Th->List V->Prop
 | [],xs=>xs = []
 | t::ts,xs=>∃ y ys,xs=y::ys/\Den H t y/\bH H ts ys
end
mutual
theorem Den.keep {H H':Hp} (s:ak H H'):∀ {t:Th}{v:V},Den H t v->Den H' t v
 | .non,_,h=>h
 | .bl _,_,h=>h
 | .int _,_,h=>h
 | .str _,_,h=>h
 | .lst _,_,⟨a,xs,e,h,d⟩=>⟨a,xs,e,s _ _ h,bH.keep s d⟩
 | .tup _,_,⟨a,xs,e,h,d⟩=>⟨a,xs,e,s _ _ h,bH.keep s d⟩
 | .emp,_,⟨a,e,h⟩=>⟨a,e,s _ _ h⟩
 | .dic,_,⟨a,k,e,h⟩=>⟨a,k,e,s _ _ h⟩
theorem bH.keep {H H':Hp} (s:ak H H'):∀ {ts:List Th}{xs:List V},bH H ts xs->bH H' ts xs
 | [],_,h=>h
 | _::_,_,⟨y,ys,e,d,ds⟩=>⟨y,ys,e,Den.keep s d,bH.keep s ds⟩
end
theorem bH.len {H:Hp}:∀ {ts:List Th}{xs:List V},bH H ts xs->xs.length=ts.length
 | [],_,h=>by rw[show _ = [] from h];rfl
 | _::_,_,⟨y,ys,e,d,ds⟩=>by rw[e,List.length_cons,List.length_cons,bH.len ds]
theorem bH.get {H:Hp}:∀ {ts:List Th}{xs:List V}{i:Nat}{t:Th},bH H ts xs->ts[i]? = some t->∃ v,xs[i]? = some v/\Den H t v
 | _::_,_,0,t,⟨y,ys,e,d,ds⟩,h=>by
  rw[List.getElem?_cons_zero] at h
  cases h
  exact⟨y,by rw[e];rfl,d⟩
 | _::_,_,i+1,t,⟨y,ys,e,d,ds⟩,h=>by
  rw[List.getElem?_cons_succ] at h
  obtain⟨v,h1,h2⟩:=bH.get ds h
  exact⟨v,by rw[e,List.getElem?_cons_succ];exact h1,h2⟩
def mm:Th->Value
 | .non=>.type "NoneType"
 | .bl _=>.type "bool"
 | .int _=>.type "int"
 | .str _=>.type "str"
 | .lst _=>.type "list"
 | .tup _=>.type "tuple"
 | .emp=>.type "dict"
 | .dic=>.type "dict"
theorem Den.ty {K:PySem.W.Frag}{H:Hp}:∀ {t:Th}{v:V},Den H t v->iB K H v (mm t)
 | .non,_,h=>by cases (show _=V.non from h);exact .non
 | .bl b,_,h=>by cases (show _=V.bl b from h);exact .bl b
 | .int i,_,h=>by cases (show _=V.int i from h);exact .int i
 | .str x,_,h=>by cases (show _=V.str x from h);exact .str x
 | .lst _,_,⟨a,xs,e,h,_⟩=>by subst e;exact .lst h
 | .tup _,_,⟨a,xs,e,h,_⟩=>by subst e;exact .tup h
 | .emp,_,⟨a,e,h⟩=>by subst e;exact .dK h
 | .dic,_,⟨a,k,e,h⟩=>by subst e;exact .dK h
def nk:Th->Bool
 | .int _=>true
 | .bl _=>true
 | _=>false
def nu:Th->Bool
 | .bl _=>true
 | _=>false
def wJ:Th->Bool
 | .tup _=>true
 | _=>false
def Bl:Th->Bool
 | .lst _=>true
 | _=>false
theorem yP {K:PySem.W.Frag} (t:Th):PySem.W.kitOne K (mm t) (.type "int")=some (nk t):=by cases t<;>rfl
theorem wE {K:PySem.W.Frag} (t:Th):PySem.W.kitOne K (mm t) (.type "bool")=some (nu t):=by cases t<;>rfl
theorem um {K:PySem.W.Frag} (t:Th):PySem.W.kitOne K (mm t) (.type "tuple")=some (wJ t):=by cases t<;>rfl
section
variable {X:Cx}
theorem yO {pins:List (Addr×Obj)}{σ:St}{H:Hp}{s:Shared}{t:Th}{x:V}{u:Value} (I:Inv X pins σ H s) (rx:a8 x u) (d:Den H t x):∃ HP:Heap->Prop,PySem.W.KitX X.K u (mm t) HP/\HP s.heap/\u≠.builtin "__main__.__loader__#opaque":=by
 cases t with
 | non=>cases (show x=V.non from d);cases (show u=Value.none from rx);exact⟨_,PySem.W.kitx_none,True.intro,λ z=>nomatch z⟩
 | bl b=>cases (show x=V.bl b from d);cases (show u=Value.bool b from rx);exact⟨_,PySem.W.kitx_bool,True.intro,λ z=>nomatch z⟩
 | int i=>cases (show x=V.int i from d);obtain⟨k,q⟩:=(show ∃ k,u=Value.int i k from rx);cases q;exact⟨_,PySem.W.kitx_int,True.intro,λ z=>nomatch z⟩
 | str y=>cases (show x=V.str y from d);obtain⟨k,q⟩:=(show ∃ k,u=Value.str y k from rx);cases q;exact⟨_,PySem.W.kitx_str,True.intro,λ z=>nomatch z⟩
 | lst ts =>
  obtain⟨a,xs,e,h,_⟩:=d
  subst e
  cases (show u=Value.ref a from rx)
  obtain⟨_,_,n,_,h1⟩:=(show aN X.prog X.w H s.heap a (.lst xs) from I.hok a _ h)
  exact⟨_,PySem.W.kitx_list,⟨_,h1,rfl⟩,λ z=>nomatch z⟩
 | tup ts =>
  obtain⟨a,xs,e,h,_⟩:=d
  subst e
  cases (show u=Value.ref a from rx)
  obtain⟨_,_,_,p⟩:=(show aN X.prog X.w H s.heap a (.tup xs) from I.hok a _ h)
  obtain⟨o,h1,h2,_⟩:=p
  exact⟨_,PySem.W.kitx_tuple,⟨o,h1,h2⟩,λ z=>nomatch z⟩
 | emp =>
  obtain⟨a,e,h⟩:=d
  subst e
  cases (show u=Value.ref a from rx)
  obtain⟨_,_,vs,_,p⟩:=(show aN X.prog X.w H s.heap a (.dK []) from I.hok a _ h)
  obtain⟨o,es,ep,h1,h2,_⟩:=p
  exact⟨_,PySem.W.kitx_dict,⟨o,h1,h2.1⟩,λ z=>nomatch z⟩
 | dic =>
  obtain⟨a,kvs,e,h⟩:=d
  subst e
  cases (show u=Value.ref a from rx)
  obtain⟨_,_,vs,_,p⟩:=(show aN X.prog X.w H s.heap a (.dK kvs) from I.hok a _ h)
  obtain⟨o,es,ep,h1,h2,_⟩:=p
  exact⟨_,PySem.W.kitx_dict,⟨o,h1,h2.1⟩,λ z=>nomatch z⟩
theorem n8:∀ {Ts:List String}{us:List Value},aM (Ts.map V.ty) us->us=Ts.map Value.type
 | [],_,.nil=>rfl
 | T::Ts,_,.cons r t=>by rw[n8 t,show _=Value.type T from r];rfl
theorem nR:cO X (.builtin "isinstance") (λ xs H Q=>∃ (x:V) (p:Addr) (t:Th) (Ts:List String) (b:Bool),xs = [x,.ref p]/\H p=some (.tup (Ts.map V.ty))/\Den H t x/\PySem.W.kitAny X.K (mm t) (Ts.map Value.type)=some b/\Q (.bl b) H):=by
 intro pins s σ H xs us Q I r h
 obtain⟨x,p,t,Ts,b,rfl,hp,d,e,q⟩:=h
 obtain⟨u,w',rfl,r1,r2⟩:=qU r
 cases r2
 obtain⟨HP,Z,hz,hx⟩:=yO I r1 d
 obtain⟨_,its,rv,tp⟩:=(show aN X.prog X.w H s.heap p (.tup (Ts.map V.ty)) from I.hok p _ hp)
 have ei:=n8 rv
 subst ei
 obtain⟨⟨cls,dd,data,sl⟩,h1,h2,n,h3⟩:=tp
 simp only at h2 h3
 subst h2 h3
 exact PySem.W.kia_tup Z I.kIn hz h1 e hx λ tk=>⟨.bl b,H,I.tok _,rfl,q⟩
theorem fk:cO X (.builtin "isinstance") (λ xs H Q=>∃ x t T b,xs = [x,.ty T]/\Den H t x/\PySem.W.kitOne X.K (mm t) (.type T)=some b/\Q (.bl b) H):=by
 intro pins s σ H xs us Q I r h
 obtain⟨x,t,T,b,e,d,k,q⟩:=h
 exact pI pins s σ H xs us Q I r ⟨x,mm t,T,b,e,d.ty,k,q⟩
theorem bG (n:Nat):((List.range n).all λ _=>true)=true:=List.all_eq_true.mpr λ _ _=>rfl
theorem io {P P':Program}{w w':World}{h:Heap}{a:Addr} (d:h.DictOf (fh P w) a []):h.DictOf (fh P' w') a []:=by
 obtain⟨o,es,ep,h1,h2,h3,h4,h5,h6⟩:=d
 have e:es=#[]:=by
  have hl:es.toList.length=0:=by
   have:=h5.length
   simpa using this
  cases es with | mk l=>cases l with
   | nil=>rfl
   | cons x r=>simp at hl
 subst e
 exact⟨o,#[],ep,h1,h2,h3,(by intro z hz;simp at hz),.nil,List.nodup_nil⟩
mutual
def dQ:Th->Nat
 | .lst ts=>cg ts+1
 | .tup ts=>cg ts+1
 | .emp=>1
 | .dic=>cLine+1
 | .non | .bl _ | .int _ | .str _=>0
def cg:List Th->Nat
 | []=>0
 | t::ts=>max (dQ t) (cg ts)
end
theorem bZ:∀ {ts:List Th}{i:Nat}{t:Th},ts[i]? = some t->dQ t<=cg ts
 | _::_,0,_,h=>by
  rw[List.getElem?_cons_zero] at h
  cases h
  exact Nat.le_max_left _ _
 | _::_,_+1,_,h=>by
  rw[List.getElem?_cons_succ] at h
  exact Nat.le_trans (bZ h) (Nat.le_max_right _ _)
theorem gA {H:Hp}{ts:List Th}{xs ys:List V}{us ws:List Value} (d1:bH H ts xs) (d2:bH H ts ys) (r1:aM xs us) (r2:aM ys ws) (j:Nat) (h1:j<us.toArray.size) (h2:j<ws.toArray.size) :
  ∃ t v1 v2,ts[j]? = some t/\Den H t v1/\Den H t v2/\a8 v1 us.toArray[j]/\a8 v2 ws.toArray[j]:=by
 have hl:j<ts.length:=by
  rw[<-d1.len,r1.length]
  simpa using h1
 obtain⟨v1,e1,q1⟩:=d1.get (List.getElem?_eq_getElem hl)
 obtain⟨v2,e2,q2⟩:=d2.get (List.getElem?_eq_getElem hl)
 obtain⟨u1,f1,g1⟩:=r1.get e1
 obtain⟨u2,f2,g2⟩:=r2.get e2
 have k1:us.toArray[j]=u1:=by
  have:us[j]? = some us.toArray[j]:=by simp
  rw[this] at f1;exact Option.some.inj f1
 have k2:ws.toArray[j]=u2:=by
  have:ws[j]? = some ws.toArray[j]:=by simp
  rw[this] at f2;exact Option.some.inj f2
 exact⟨ts[j],v1,v2,List.getElem?_eq_getElem hl,q1,q2,by rw[k1];exact g1,by rw[k2];exact g2⟩
theorem lY {P:Program}{w:World}{H:Hp}{s:Shared} (hok:HOk P w H s.heap):∀ (n:Nat) (A:Around) (t:Th) (v1 v2:V) (u1 u2:Value),dQ t<=n->A.units+n<cLine->Den H t v1->Den H t v2->a8 v1 u1->a8 v2 u2->SeqAt.EqAt A s u1 u2 true
 | n,A,.non,v1,v2,u1,u2,_,_,d1,d2,r1,r2=>by
  cases (show v1=V.non from d1);cases (show v2=V.non from d2)
  cases (show u1=Value.none from r1);cases (show u2=Value.none from r2)
  exact SeqAt.EqAt.same _
 | n,A,.bl b,v1,v2,u1,u2,_,_,d1,d2,r1,r2=>by
  cases (show v1=V.bl b from d1);cases (show v2=V.bl b from d2)
  cases (show u1=Value.bool b from r1);cases (show u2=Value.bool b from r2)
  exact SeqAt.EqAt.same _
 | n,A,.int i,v1,v2,u1,u2,_,_,d1,d2,r1,r2=>by
  cases (show v1=V.int i from d1);cases (show v2=V.int i from d2)
  obtain⟨k1,rfl⟩:=(show ∃ k,u1=Value.int i k from r1)
  obtain⟨k2,rfl⟩:=(show ∃ k,u2=Value.int i k from r2)
  have h:=SeqAt.EqAt.int_int (A:=A) (s:=s) i k1 i k2
  rw[beq_self_eq_true] at h
  exact h
 | n,A,.str x,v1,v2,u1,u2,_,_,d1,d2,r1,r2=>by
  cases (show v1=V.str x from d1);cases (show v2=V.str x from d2)
  obtain⟨k1,rfl⟩:=(show ∃ k,u1=Value.str x k from r1)
  obtain⟨k2,rfl⟩:=(show ∃ k,u2=Value.str x k from r2)
  have h:=SeqAt.EqAt.str_str (A:=A) (s:=s) x k1 x k2
  rw[beq_self_eq_true] at h
  exact h
 | 0,A,.lst ts,v1,v2,u1,u2,hd,_,d1,d2,r1,r2=>absurd hd (by simp [dQ])
 | 0,A,.tup ts,v1,v2,u1,u2,hd,_,d1,d2,r1,r2=>absurd hd (by simp [dQ])
 | 0,A,.emp,v1,v2,u1,u2,hd,_,d1,d2,r1,r2=>absurd hd (by simp [dQ])
 | 0,A,.dic,v1,v2,u1,u2,hd,_,d1,d2,r1,r2=>absurd hd (by simp [dQ])
 | n+1,A,.dic,v1,v2,u1,u2,hd,hu,d1,d2,r1,r2=>absurd (show cLine+1<=n+1 from hd) (by omega)
 | n+1,A,.lst ts,v1,v2,u1,u2,hd,hu,d1,d2,r1,r2=>by
  obtain⟨a1,xs,rfl,h1,e1⟩:=d1
  obtain⟨a2,ys,rfl,h2,e2⟩:=d2
  cases (show u1=Value.ref a1 from r1);cases (show u2=Value.ref a2 from r2)
  by_cases hne:a1=a2
  ·subst hne;exact SeqAt.EqAt.same _
  obtain⟨_,us,n1,q1,g1⟩:=(show aN P w H s.heap a1 (.lst xs) from hok a1 _ h1)
  obtain⟨_,ws,n2,q2,g2⟩:=(show aN P w H s.heap a2 (.lst ys) from hok a2 _ h2)
  have hsz:us.toArray.size=ws.toArray.size:=by
   rw[List.size_toArray,List.size_toArray,<-q1.length,<-q2.length,e1.len,e2.len]
  have hd':cg ts+1<=n+1:=hd
  have h:=SeqAt.RcAt.lists (A:=A) (s:=s) (e:=λ _=>true) (⟨_,g1,rfl,_,rfl⟩:s.heap.IsList a1 us.toArray) (⟨_,g2,rfl,_,rfl⟩:s.heap.IsList a2 ws.toArray) hsz (by omega) λ j j1 j2=>by
   obtain⟨t,w1,w2,ht,p1,p2,s1,s2⟩:=gA e1 e2 q1 q2 j j1 j2
   exact lY hok n A.in1 t w1 w2 _ _ (by have:=bZ ht;omega) (by show A.units+1+n<cLine;omega) p1 p2 s1 s2
  rw[bG] at h
  exact SeqAt.EqAt.of_refs hne h
 | n+1,A,.tup ts,v1,v2,u1,u2,hd,hu,d1,d2,r1,r2=>by
  obtain⟨a1,xs,rfl,h1,e1⟩:=d1
  obtain⟨a2,ys,rfl,h2,e2⟩:=d2
  cases (show u1=Value.ref a1 from r1);cases (show u2=Value.ref a2 from r2)
  by_cases hne:a1=a2
  ·subst hne;exact SeqAt.EqAt.same _
  obtain⟨_,us,q1,g1⟩:=(show aN P w H s.heap a1 (.tup xs) from hok a1 _ h1)
  obtain⟨_,ws,q2,g2⟩:=(show aN P w H s.heap a2 (.tup ys) from hok a2 _ h2)
  have hsz:us.toArray.size=ws.toArray.size:=by
   rw[List.size_toArray,List.size_toArray,<-q1.length,<-q2.length,e1.len,e2.len]
  have hd':cg ts+1<=n+1:=hd
  have h:=SeqAt.RcAt.tuples (A:=A) (s:=s) (e:=λ _=>true) (show s.heap.IsTuple a1 us.toArray from g1) (show s.heap.IsTuple a2 ws.toArray from g2) (by omega) λ j j1 j2=>by
   obtain⟨t,w1,w2,ht,p1,p2,s1,s2⟩:=gA e1 e2 q1 q2 j j1 j2
   exact lY hok n A.in1 t w1 w2 _ _ (by have:=bZ ht;omega) (by show A.units+1+n<cLine;omega) p1 p2 s1 s2
  rw[bG,hsz,beq_self_eq_true,Bool.and_self] at h
  exact SeqAt.EqAt.of_refs hne h
 | n+1,A,.emp,v1,v2,u1,u2,hd,hu,d1,d2,r1,r2=>by
  obtain⟨a1,rfl,h1⟩:=d1
  obtain⟨a2,rfl,h2⟩:=d2
  cases (show u1=Value.ref a1 from r1);cases (show u2=Value.ref a2 from r2)
  by_cases hne:a1=a2
  ·subst hne;exact SeqAt.EqAt.same _
  obtain⟨_,m1,vs1,q1,g1⟩:=(show aN P w H s.heap a1 (.dK []) from hok a1 _ h1)
  obtain⟨_,m2,vs2,q2,g2⟩:=(show aN P w H s.heap a2 (.dK []) from hok a2 _ h2)
  cases q1
  cases q2
  refine SeqAt.EqAt.of_refs hne λ prog w' E Q hq=>?_
  exact PySem.W.keq_eq (K:=Key) (knd:=fh prog w') (r:=true) m1 m2 (io g1) (io g2) (by omega) (λ _=>.nil) hq
theorem AI (hu:X.A.units+64<cLine):OpR X (compareOp .NotEq) (λ x y H Q=>∃ t,Den H t x/\Den H t y/\dQ t<=60/\Q (.bl false) H):=by
 intro pins s σ H x y v u Q I rx ry h
 obtain⟨t,d1,d2,hd,q⟩:=h
 have scal_case:xV x y=true->x=y->wpAny (model X.prog X.w) X.A (compareOp .NotEq v u) (EP X pins σ Q) X.xe s:=λ h1 h2 =>
  j9 pins s σ H x y v u Q I rx ry ⟨h1,by rw[decide_eq_true h2];exact q⟩
 cases t with
 | non=>cases (show x=V.non from d1);cases (show y=V.non from d2);exact scal_case rfl rfl
 | bl b=>cases (show x=V.bl b from d1);cases (show y=V.bl b from d2);exact scal_case rfl rfl
 | int i=>cases (show x=V.int i from d1);cases (show y=V.int i from d2);exact scal_case rfl rfl
 | str z=>cases (show x=V.str z from d1);cases (show y=V.str z from d2);exact scal_case rfl rfl
 | lst ts =>
  obtain⟨a1,xs,rfl,h1,e1⟩:=d1
  obtain⟨a2,ys,rfl,h2,e2⟩:=d2
  cases (show v=Value.ref a1 from rx);cases (show u=Value.ref a2 from ry)
  obtain⟨_,us,n1,q1,g1⟩:=(show aN X.prog X.w H s.heap a1 (.lst xs) from I.hok a1 _ h1)
  obtain⟨_,ws,n2,q2,g2⟩:=(show aN X.prog X.w H s.heap a2 (.lst ys) from I.hok a2 _ h2)
  have hsz:us.toArray.size=ws.toArray.size:=by
   rw[List.size_toArray,List.size_toArray,<-q1.length,<-q2.length,e1.len,e2.len]
  have hd':cg ts+1<=60:=hd
  have h:=SeqAt.RcNeAt.lists (A:=X.A) (s:=s) (e:=λ _=>true) (⟨_,g1,rfl,_,rfl⟩:s.heap.IsList a1 us.toArray) (⟨_,g2,rfl,_,rfl⟩:s.heap.IsList a2 ws.toArray) hsz (by omega) λ j j1 j2=>by
   obtain⟨t,w1,w2,ht,p1,p2,s1,s2⟩:=gA e1 e2 q1 q2 j j1 j2
   exact lY I.hok 60 X.A.in1 t w1 w2 _ _ (by have:=bZ ht;omega) (by show X.A.units+1+60<cLine;omega) p1 p2 s1 s2
  rw[bG] at h
  exact h X.prog X.w _ _ ⟨.bl false,H,I,rfl,q⟩
 | tup ts =>
  obtain⟨a1,xs,rfl,h1,e1⟩:=d1
  obtain⟨a2,ys,rfl,h2,e2⟩:=d2
  cases (show v=Value.ref a1 from rx);cases (show u=Value.ref a2 from ry)
  obtain⟨_,us,q1,g1⟩:=(show aN X.prog X.w H s.heap a1 (.tup xs) from I.hok a1 _ h1)
  obtain⟨_,ws,q2,g2⟩:=(show aN X.prog X.w H s.heap a2 (.tup ys) from I.hok a2 _ h2)
  have hsz:us.toArray.size=ws.toArray.size:=by
   rw[List.size_toArray,List.size_toArray,<-q1.length,<-q2.length,e1.len,e2.len]
  have hd':cg ts+1<=60:=hd
  have h:=SeqAt.RcNeAt.tuples (A:=X.A) (s:=s) (e:=λ _=>true) (show s.heap.IsTuple a1 us.toArray from g1) (show s.heap.IsTuple a2 ws.toArray from g2) (by omega) λ j j1 j2=>by
   obtain⟨t,w1,w2,ht,p1,p2,s1,s2⟩:=gA e1 e2 q1 q2 j j1 j2
   exact lY I.hok 60 X.A.in1 t w1 w2 _ _ (by have:=bZ ht;omega) (by show X.A.units+1+60<cLine;omega) p1 p2 s1 s2
  rw[bG,hsz,beq_self_eq_true,Bool.and_self] at h
  exact h X.prog X.w _ _ ⟨.bl false,H,I,rfl,q⟩
 | emp =>
  obtain⟨a1,rfl,h1⟩:=d1
  obtain⟨a2,rfl,h2⟩:=d2
  cases (show v=Value.ref a1 from rx);cases (show u=Value.ref a2 from ry)
  obtain⟨_,m1,vs1,q1,g1⟩:=(show aN X.prog X.w H s.heap a1 (.dK []) from I.hok a1 _ h1)
  obtain⟨_,m2,vs2,q2,g2⟩:=(show aN X.prog X.w H s.heap a2 (.dK []) from I.hok a2 _ h2)
  cases q1
  cases q2
  exact PySem.W.keq_ne (K:=Key) (knd:=fh X.prog X.w) (r:=true) m1 m2 g1 g2 (by omega) (λ _=>.nil) ⟨.bl false,H,I,rfl,q⟩
 | dic=>exact absurd (show cLine+1<=60 from hd) (by omega)
def CP (K:PySem.W.Frag) (tl:TE):TI:=λ σ H R=>tl σ H λ x H1=>∃ a xs,x=.ref a/\((SqL K H1 a xs/\R (Itl K a) H1)∨(SqT K H1 a xs/\R (Itt K a) H1))
theorem AD {tg l:Expr}{tl:TE} (hl:PE X l tl):PI X tg l (CP X.K tl):=by
 intro pins s σ H R I h
 refine thn (hl pins s σ H _ I h) λ v s1 ⟨x,H1,I1,r1,q1⟩=>?_
 obtain⟨a,xs,e,q⟩:=q1
 subst e
 cases r1
 rcases q with ⟨hq,q⟩ | ⟨hq,q⟩
 ·obtain⟨its,rv,p,hz⟩:=I1.list hq
  refine wpAny_pyIter_list p.isList ?_
  refine⟨s1.heap.objs.size,[s1.heap.objs.size],_,_,H1,rfl,I1.kept (t':=s1.toks) λ b o e=>Heap.get?_push_of_some _ e,kW a _,⟨_,Heap.get?_push_size _ rfl,rfl,rfl⟩,λ b hb=>?_,q⟩
  have e:b=s1.heap.objs.size:=by simpa using hb
  subst e
  exact I1.fpOk (Nat.le_refl _) (I1.hok.fresh (Nat.le_refl _))
 ·obtain⟨its,rv,p,hz⟩:=I1.tuple hq
  refine wpAny_pyIter_tuple (show s1.heap.IsTuple a its.toArray from p) ?_
  refine⟨s1.heap.objs.size,[s1.heap.objs.size],_,_,H1,rfl,I1.kept (t':=s1.toks) λ b o e=>Heap.get?_push_of_some _ e,jz a _,⟨_,Heap.get?_push_size _ rfl,rfl,rfl⟩,λ b hb=>?_,q⟩
  have e:b=s1.heap.objs.size:=by simpa using hb
  subst e
  exact I1.fpOk (Nat.le_refl _) (I1.hok.fresh (Nat.le_refl _))
end
end L2
namespace L2
open PySem PySem.Spec PyProof.Rows
theorem aN.there {P:Program}{w:World}{H:Hp}{h:Heap}{a:Addr}{o:HO} (k:aN P w H h a o):∃ ob,h.get? a=some ob:=by
 cases o with
 | lst _=>obtain⟨_,_,_,_,e⟩:=k;exact⟨_,e⟩
 | tup _=>obtain⟨_,_,_,o,e,_⟩:=k;exact⟨o,e⟩
 | dK _=>obtain⟨_,_,_,_,o,_,_,e,_⟩:=k;exact⟨o,e⟩
 | dT _=>obtain⟨_,_,_,_,o,_,_,e,_⟩:=k;exact⟨o,e⟩
 | set _ _=>obtain⟨o,_,_,_,e,_⟩:=k;exact⟨o,e⟩
 | ins _ _ _=>obtain⟨_,_,_,e,_⟩:=k;exact⟨_,e⟩
 | own _=>obtain⟨o,e⟩:=k;exact⟨o,e⟩
 | xd _=>obtain⟨_,⟨o,_,_,e,_⟩,_⟩:=k;exact⟨o,e⟩
 | rng _ _=>obtain⟨_,_,_,e⟩:=k;exact⟨_,e⟩
 | frz _ _=>obtain⟨e,_⟩:=k;exact⟨_,e⟩
 | tbl _=>exact⟨_,k⟩
 | met _ _=>exact⟨_,k⟩
 | ext _=>obtain⟨_,⟨o,e⟩,_⟩:=k;exact⟨o,e⟩
def Fly (l:List Env) (h0:Heap) (H':Hp) (e:Addr) (cls:Value) (h:Heap):Prop :=
 ∃ (B:Heap) (t:Addr),Heap.FlyingW B l e cls (.ref t) h/\h0.get? e=none/\H' e=none /\
  ∀ b o,h.get? b=some o->((∃ o',h0.get? b=some o')∨∃ u,H' b=some u)->b ∉ frs l->B.get? b=some o
def CXX (P:Program) (w:World):CXT:=λ outer H s E e s' =>
 ∃ a cls H',e=.ref a/\s'.os=s.os/\AllBare s'.gens/\Un (frs outer) [] H H' s.heap s'.heap/\HOk P w H' s'.heap/\Fly outer s.heap H' a cls s'.heap/\E cls none H'
theorem uB {P:Program}{w:World}{H:Hp}{s:Shared}{e:Value}{s':Shared}{l:List Env} (h:CXX P w l H s (λ _ _ _=>False) e s'):False:=by
 obtain⟨_,_,_,_,_,_,_,_,_,q⟩:=h
 exact q
theorem i0 {P:Program}{w:World}{fs:List Addr}{l:List Env}{base B h0 h h5:Heap}{H H':Hp} (un:Un fs [] H H' h0 h) (hok:HOk P w H' h)
  (kB:∀ b o,h.get? b=some o->((∃ o',h0.get? b=some o')∨∃ u,H' b=some u)->b ∉ frs l->B.get? b=some o)
  (ff:h.FunFrames base l) (hfs:∀ b∈fs,b∈frs l) (hl:∀ b∈frs l,b ∉ fs->h0.get? b=none) (hu:∀ b∈frs l,H' b=none)
  (st:B.StaysIn h5) (up:h.UpToSlots h5):Un fs [] H H' h0 h5/\HOk P w H' h5:=by
 have kk:∀ b o,h.get? b=some o->(∃ o',h0.get? b=some o')->b ∉ fs->h5.get? b=some o:=λ b o e1 ⟨o',e0⟩ hb=>by
  refine st b o (kB b o e1 (.inl ⟨o',e0⟩) λ z=>?_)
  rw[hl b z hb] at e0;cases e0
 have ks:∀ b o,h.get? b=some o->b∈fs->∃ sl,h5.get? b=some {o with slots:=sl}:=λ b o e1 hb=>by
  obtain⟨_,o2,e2,nf⟩:=ff.mem (hfs b hb)
  rw[e1] at e2;cases e2
  exact up b o e1 nf
 refine⟨⟨λ b o e n hb hx=>kk b o (un.keep b o e n hb hx) ⟨o,e⟩ hb,λ b o e n hb hx=>?_,un.free,λ b o e hx=>?_,un.tups,un.frzs,un.tbls⟩,λ a o e=>?_⟩
 ·obtain⟨s1,e1⟩:=un.slot b o e n hb hx
  obtain⟨s2,e2⟩:=ks b _ e1 hb
  exact⟨s2,e2⟩
 ·obtain⟨o',e1⟩:=un.there b o e hx
  by_cases hb:b∈fs
  ·obtain⟨s2,e2⟩:=ks b _ e1 hb
   exact⟨_,e2⟩
  ·exact⟨o',kk b o' e1 ⟨o,e⟩ hb⟩
 ·have tr:∀ b u v,H' b=some u->h.get? b=some v->h5.get? b=some v:=λ b u v q e1=>st b v (kB b v e1 (.inr ⟨u,q⟩) λ z=>by rw[hu b z] at q;cases q)
  refine (hok a o e).stay (λ b v hb q=>?_) (λ _ q=>q) λ _ _ q=>q
  rcases hb with z | z
  ·subst z;exact tr b o v e q
  ·exact tr b _ v z q
structure kD (X:Cx):Prop where
 st:X.stack=X.env::X.outer
 fr:X.env.frame=some X.env.locals
 ex:X.ex = []
section
variable {X:Cx}{pins:List (Addr×Obj)}{σ:St}{H:Hp}{s:Shared}{E:XK}{M:Model}
theorem Inv.gone (I:Inv X pins σ H s) (dx:kD X) {e:Addr} (n:s.heap.get? e=none):X.s₀.heap.get? e=none/\H e=none:=by
 constructor
 ·cases q:X.s₀.heap.get? e with
  | none=>rfl
  | some o =>
   obtain⟨o',z⟩:=I.base.there e o q (by rw[dx.ex];simp)
   rw[n] at z;cases z
 ·cases q:H e with
  | none=>rfl
  | some u =>
   obtain⟨o',z⟩:=(I.hok e u q).there
   rw[n] at z;cases z
theorem Inv.notMine (I:Inv X pins σ H s) {b:Addr}{o:Obj} (e:X.s₀.heap.get? b=some o):b≠X.env.locals:=Nat.ne_of_lt (Nat.lt_of_lt_of_le (Heap.lt_size e) I.ok.above)
theorem sK (dx:kD X) (I:Inv X pins σ H s) {B h':Heap}{e t:Addr}{cls:Value}
  (kB:∀ b o,s.heap.get? b=some o->((∃ o',X.s₀.heap.get? b=some o')∨∃ u,H b=some u)->b ∉ frs X.stack->B.get? b=some o)
  (fw:Heap.FlyingW B X.outer e cls (.ref t) h') (up:s.heap.UpToSlots h') (ne:X.s₀.heap.get? e=none) (hn:H e=none) (q:E cls none H) :
  CXX X.prog X.w X.outer X.H₀ X.s₀ E (.ref e) {s with heap:=h'}:=by
 have un0:Un X.fs [] X.H₀ H X.s₀.heap s.heap:=by have:=I.base;rw[dx.ex] at this;exact this
 have sub:∀ b∈X.fs,b∈frs X.stack:=λ b hb=>by
  rw[dx.st];unfold frs;rw[List.filterMap_cons,dx.fr];exact List.mem_cons_of_mem _ hb
 have hl:∀ b∈frs X.stack,b ∉ X.fs->X.s₀.heap.get? b=none:=λ b hb hn=>by
  rcases List.mem_cons.mp (I.stkSub b hb) with z | z
  ·cases q:X.s₀.heap.get? b with
   | none=>rfl
   | some o=>exact absurd z (I.notMine q)
  ·exact absurd z hn
 obtain⟨un,hok⟩:=i0 (h5:=h') un0 I.hok kB I.stack sub hl I.stkFree fw.1 up
 refine⟨e,cls,H,rfl,I.os,I.bare,un,hok,⟨B,t,fw,ne,hn,λ b o e1 hz hb=>?_⟩,q⟩
 have there:∃ o2,s.heap.get? b=some o2:=by
  rcases hz with ⟨o',z⟩ | ⟨u,z⟩
  ·exact un0.there b o' z (by simp)
  ·exact (I.hok b u z).there
 have nst:b ∉ frs X.stack:=λ z=>by
  rcases List.mem_cons.mp (I.stkSub b z) with y | y
  ·rcases hz with ⟨o',q⟩ | ⟨u,q⟩
   ·exact I.notMine q y
   ·rw[I.stkFree b z] at q;cases q
  ·exact hb y
 obtain⟨o2,e2⟩:=there
 have e3:=kB b o2 e2 hz nst
 have e4:=fw.1 b o2 e3
 have e1':h'.get? b=some o:=e1
 rw[e1'] at e4
 cases e4
 exact e3
theorem qk (dx:kD X) (I:Inv X pins σ H s) {h1:Heap}{e:Addr}{cls:Value}{args:List Value} (mk:Heap.MadeExcOf s.heap h1 e cls args) (q:E cls none H) {E':Value->Shared->Prop} :
  wpAny M X.A (leaving X.env (.ref e)) (λ _ s2=>CXX X.prog X.w X.outer X.H₀ X.s₀ E (.ref e) s2) E' {s with heap:=h1}:=by
 have hin:∀ env∈X.stack,∀ b,env.frame=some b->b∈frs X.stack:=λ env he b hb=>List.mem_filterMap.mpr ⟨env,he,hb⟩
 have ff:=PySem.W.funFrames_hide I.stack hin
 rw[dx.st] at ff
 obtain⟨n1,n2⟩:=I.gone dx mk.new
 refine wpAny_leaves_madeW (base:=PySem.W.hideAll s.heap (frs (X.env::X.outer))) (h:=s.heap) (by rw[I.ok.frames,dx.st]) dx.fr (λ b o z=>PySem.W.of_hideAll _ z) ff mk λ h' t x1 _ _ x4=>?_
 exact sK dx I (λ b o e1 _ hb=>PySem.W.hideAll_get _ e1 (by rw[<-dx.st];exact hb)) x1 ((Heap.UpToSlots.of_keeps mk.keeps).trans x4) n1 n2 q
end
end L2
namespace L2
open PySem PySem.Spec PyProof.Rows
abbrev vbm:List Value:=[.type "ValueError",.type "Exception",.type "BaseException",.type "object"]
theorem Bp {K:PySem.W.Frag}{h:Heap}{C:Addr}{nid:String}{bmB:List Value} (kin:K.In h) (z:PySem.W.excIn K C bmB nid=true) :
  ∃ (tl:List Value) (N:Addr) (nm qn:Str) (bs:List Value) (hd:Bool) (sn:List Str) (su:List Value) (ab:Bool) (co:Option Bool) (dd:Option Addr) (k0 k1 k2 k3 k5:Option Value) (mN:Str->Option Value),
   h.get? C=some (excClassObj nm qn C N bs tl hd sn su ab co dd k0 k1 k2 k3 k5 nid)/\h.Ns N mN/\mN "__init__" = none/\OwnTail h bmB tl:=by
 unfold PySem.W.excIn at z
 split at z
 ·rename_i d0 c0 slt lk
  split at z
  ·rename_i C2 tl a0 a1 a2 a3 nn a5 em es
   simp only[Bool.and_eq_true,beq_iff_eq,Bool.not_eq_true'] at z
   obtain⟨⟨⟨⟨⟨y1,y2⟩,y3⟩,y4⟩,y5⟩,y6⟩:=z
   subst y1 y2
   obtain⟨nm,bs,mr,ns,qn,hd,sn,su,ab,co,de⟩:=c0
   dsimp only at em y3 y5 y6
   subst em y3
   have sz:slt=#[a0,a1,a2,a3,some (.builtin nn),a5]:=by
    cases slt with | mk l=>exact congrArg Array.mk es
   subst sz
   exact⟨tl,ns,nm,qn,bs,hd,sn,su,ab,co,d0,a0,a1,a2,a3,a5,_,kin _ _ lk,.of_isNs (PySem.W.isNs_of_in kin y5),PySem.W.nsMap_none_of_in kin y5 y6,PySem.W.tail_of_in kin y4⟩
  ·cases z
 ·cases z
structure Bv (K:PySem.W.Frag) (mg:Str->Option Value) (x:Str) (C:Addr):Prop where
 at_:mg x=some (.ref C)
 ok:PySem.W.excIn K C vbm "ValueError.__new__" = true
section
variable {X:Cx}{E:XK}{x:Str}{C:Addr}{np cpos pos:Pos}{e:Expr}{es:List Expr}{t:TA}
def Aa (X:Cx) (E:XK):Prop:=∀ (pins:List (Addr×Obj)) (σ:St) (H:Hp) (s:Shared) (h1:Heap) (e:Addr) (cls:Value) (args:List Value),Inv X pins σ H s->Heap.MadeExcOf s.heap h1 e cls args->E cls none H->X.xe (.ref e) {s with heap:=h1}
def Ai (C:Addr) (E:XK) (t:TA):TS:=λ _ σ H=>t σ H λ vs H1=>vs.length<=sizeLine/\E (.ref C) none H1
theorem da (hr:Aa X E) (hc:X.calm=true) (xc:Bv X.K X.mg x C) (hg:Gl X x) (ha:PA X (e::es) t)
  (hdb:(x == ("__debug__":Str))=false:=by decide) (he:starEach (e::es) X.env=(false,eval e X.env)::starEach es X.env:=by rfl) (hpl:(backTo cpos (starEach es X.env)).any (·.1)=false:=by rfl) :
  PS X (.Raise (some (.Call (.Name x np) (e::es) [] cpos)) none pos) (Ai C E t):=by
 intro pins s σ H D I h
 obtain⟨tl,N,nm,qn,bs,hd,sn,su,ab,co,dd,k0,k1,k2,k3,k5,mN,hC,hN,hni,T⟩:=Bp I.mod.kin xc.ok
 refine wpAny_Raise_call_subT (C:=C) (nm:=nm) (q:=qn) (N:=N) (bs:=bs) (bm:=tl) (hdct:=hd) (sn:=sn) (sub:=su) (ab:=ab) (col:=co) (dd:=dd) (k0:=k0) (k1:=k1) (k2:=k2) (k3:=k3) (k5:=k5)
  PySem.F.excBase_ValueError (mN:=mN) (T.hasType PySem.F.excBase_ValueError.hasBase) (I.ok.hd hc) (by rw[he];show (false || _)=false;exact hpl) hni (hZ I hg xc.at_ ⟨rfl,?_⟩ hdb)
 have h2:=ha cpos pins s σ H _ I h
 rw[he] at h2 ⊢
 exact Calls.evalArgs_plain (wpAny_mono h2 (λ us s2 ⟨vs,H1,I1,rv,hl,q⟩=>⟨rfl,by rw[<-rv.length];exact hl,I1.bk _ _ hC,hN.keeps I1.bk,T.keeps I1.bk,λ h' e mk=>hr pins σ H1 s2 h' e _ us I1 mk q⟩) λ _ _ y=>y)
end
section
variable {P:Program}{w:World}{K:PySem.W.Frag}{mg:Str->Option Value}{base:Heap}{N:List Str}{qual:Str}{scope:Scope}{f:Addr}{cd:Value}{A:Around}{outer:List Env}{s:Shared}{H:Hp}{E:XK}
theorem Cj {CX:CXT}:kD (kM CX P w K mg base N qual scope f cd A outer s H E):=⟨rfl,rfl,rfl⟩
theorem d3:Aa (kM (CXX P w) P w K mg base N qual scope f cd A outer s H E) E:=λ _ _ _ _ _ _ _ _ I mk q=>qk Cj I mk q
theorem Fun.okX {x:Str}{st:Stmt}{fd:FuncData}{ps:List Str}{k:Nat}{sp:Sp} (F:Fun K x qual st f fd) (S:aA N ps (ag st)) (len:∀ vs H Q E,sp vs H Q E->vs.length=ps.length)
  (hbody:∀ (cdv:Value) (A:Around) (outer:List Env) (s:Shared) (H:Hp) (vs:List V) (Q:VK) (E:XK),db k (A.deeper (envOfC qual (ag st) s.heap.objs.size f cdv))->sp vs H Q E ->
   ∃ t,PSs (kM (CXX P w) P w K mg base N qual (ag st) f cdv A outer s H E) (av st) t/\t {nx:=λ _ H'=>Q .non H',rt:=Q} (dk N vs) H):ax P w K mg base (CXX P w) (k+1) f fd ps sp:=by
 obtain⟨oc,od,kV,doc,pm,an,cdv,ct,osl,rfl,lk,hcd⟩:=F.ex
 exact xh lk hcd S len λ A outer s H vs Q E hr hsp=>hbody cdv A outer s H vs Q E hr hsp
end
theorem ax.calm {P:Program}{w:World}{K:PySem.W.Frag}{mg:Str->Option Value}{base:Heap}{CX:CXT}{k:Nat}{f:Addr}{fd:FuncData}{ps:List Str}{sp:Sp} (F:ax P w K mg base CX0 k f fd ps sp):ax P w K mg base CX k f fd ps sp :=
 ⟨F.len,λ A outer s H args us vs Q E hr he hb hv hs=>codeAny_mono (F.run A outer s H args us vs Q E hr he hb hv hs) λ r s' h=>by
  cases r with
  | ok fl=>cases fl<;>exact h
  | error e=>exact False.elim h⟩
section
variable {X:Cx}
theorem PS.nox {st:Stmt}{t:TS} (h:PS X.nox st t):PS X st t:=λ pins s σ H D I hw =>
 wpAny_mono (h pins s σ H D (I.wish _) hw) (λ _ _ q=>q.unwish) λ _ _ z=>z.elim
end
end L2
namespace L2
open PySem PySem.Spec PyProof.Rows
abbrev Cx.held (X:Cx) (e:Addr) (oe:Obj):Cx:={X with A:=X.A.mark (some (.ref e)),calm:=false,pn:=(e,oe)::X.pn,xe:=λ _ _=>False}
abbrev Cx.tried (X:Cx) (xe:Value->Shared->Prop) (pins:List (Addr×Obj)):Cx:={X with xe:=xe,pn:=X.pn++pins}
section
variable {X:Cx}{pins pins':List (Addr×Obj)}{σ:St}{H:Hp}{s:Shared}{xe:Value->Shared->Prop}{e:Addr}{oe:Obj}
theorem Cx.Ok.tried (ok:X.Ok):(X.tried xe pins).Ok:=⟨ok.mod,ok.kind,ok.glob,ok.blt,ok.above,ok.inj,ok.has,ok.cab,ok.hd,ok.frames,ok.stk,ok.exf,ok.bs,ok.bsz,ok.noex,ok.exfs,ok.funs,ok.frf⟩
theorem Cx.Ok.untried (ok:(X.tried xe pins).Ok):X.Ok:=⟨ok.mod,ok.kind,ok.glob,ok.blt,ok.above,ok.inj,ok.has,ok.cab,ok.hd,ok.frames,ok.stk,ok.exf,ok.bs,ok.bsz,ok.noex,ok.exfs,ok.funs,ok.frf⟩
theorem Inv.tried (I:Inv X pins σ H s):Inv (X.tried xe pins) [] σ H s:=⟨I.ok.tried,I.os,I.bare,I.base,I.loc,I.cell,I.free,I.freeC,λ p hp=>I.pin p (by simpa using hp),I.hok,I.len⟩
theorem Inv.untried (I:Inv (X.tried xe pins) pins' σ H s):Inv X pins σ H s:=⟨I.ok.untried,I.os,I.bare,I.base,I.loc,I.cell,I.free,I.freeC,λ p hp=>I.pin p (List.mem_append_left _ hp),I.hok,I.len⟩
theorem Inv.held (I:Inv X pins σ H s) (he:s.heap.get? e=some oe) (hn:H e=none) (hL:e≠X.env.locals) (hf:e ∉ X.fs) (hc:∀ v,oe.data≠.cell v):Inv (X.held e oe) pins σ H s:=by
 have ok:=I.ok
 refine⟨⟨ok.mod,ok.kind,ok.glob,ok.blt,ok.above,ok.inj,ok.has,ok.cab,(λ z=>by cases z),ok.frames,ok.stk,ok.exf,ok.bs,ok.bsz,ok.noex,ok.exfs,ok.funs,ok.frf⟩,I.os,I.bare,I.base,I.loc,I.cell,I.free,I.freeC,λ p hp=>?_,I.hok,I.len⟩
 rcases List.mem_cons.mp hp with z | z
 ·subst z;exact⟨he,hn,hL,hf,hc⟩
 ·exact I.pin p z
theorem Inv.unheld (I:Inv (X.held e oe) pins σ H s) (hd:X.calm=true->X.A.handled=none):Inv X pins σ H s:=by
 have ok:=I.ok
 exact⟨⟨ok.mod,ok.kind,ok.glob,ok.blt,ok.above,ok.inj,ok.has,ok.cab,hd,ok.frames,ok.stk,ok.exf,ok.bs,ok.bsz,ok.noex,ok.exfs,ok.funs,ok.frf⟩,I.os,I.bare,I.base,I.loc,I.cell,I.free,I.freeC,λ p hp=>I.pin p (List.mem_cons_of_mem _ hp),I.hok,I.len⟩
end
def nW (CX:CXT) (X:Cx) (E:St->XK):Prop:=∀ (pins:List (Addr×Obj)) (σ:St) (H:Hp) (s:Shared) (e:Value) (s':Shared),Inv X pins σ H s->CX X.stack H s (E σ) e s'->X.xe e s'
def Ak (sp:Sp) (dvs:List V) (E:St->XK) (t:TA):TE:=λ σ H Q=>t σ H λ vs H1=>sp (vs++dvs) H1 Q (E σ)
section
variable {X:Cx}{CX:CXT}{k:Nat}{f:Addr}{fd:FuncData}{ps:List Str}{sp:Sp}{dvs:List V}{ds:List Value}{E:St->XK}{x:Str}{p pos:Pos}{e:Expr}{es:List Expr}{t:TA}
theorem wb (F:ax X.prog X.w X.K X.mg X.base CX k f fd ps sp) (hr:db k X.A) (hg:Gl X x) (hm:X.mg x=some (.ref f)) (hk:PySem.W.keepIn X.K (.ref f)=true) (hb:aE X.K fd ps ds) (hd:aM dvs ds) (hx:nW CX X E)
  (ha:PA X (e::es) t) (hdb:(x == ("__debug__":Str))=false:=by decide) (he:starEach (e::es) X.env=(false,eval e X.env)::starEach es X.env:=by rfl) (hpl:(backTo pos (starEach es X.env)).any (·.1)=false:=by rfl) :
  PE X (.Call (.Name x p) (e::es) [] pos) (Ak sp dvs E t):=by
 intro pins s σ H Q I h
 refine wpAny_Call_Name_kw (hZ I hg hm ?_ hdb)
 refine PySem.W.callWith_K (h₀:=X.base) I.ok.mod.kin hk (thn (ha pos pins s σ H _ I h) λ us s1 ⟨vs,H1,I1,r,q⟩=>⟨I1.kIn,?_⟩) he hpl
 have r2:aM (vs++dvs) (us++ds):=r.append hd
 have hl:(us++ds).length=ps.length:=by rw[<-r2.length];exact F.len _ _ _ _ q
 refine wpAny_call (codeAny_mono (F.run X.A X.stack s1 H1 ⟨us,[]⟩ (us++ds) (vs++dvs) Q (E σ) hr I1.env0 (hb s1 us I1.kIn hl) r2 q) λ r s' hq=>?_)
 cases r with
 | error e=>exact hx pins σ H1 s1 e s' I1 hq
 | ok fl =>
  cases fl with
  | ret u=>exact I1.after hq
  | next=>exact False.elim hq
  | brk=>exact False.elim hq
  | cont=>exact False.elim hq
end
structure xC (K:PySem.W.Frag) (CS:Addr):Prop where
 ty:PySem.W.typeIn K (.ref CS)=some (.type "type")
 isc:PySem.W.isClsIn K CS=true
 base:PySem.W.subIn K (.ref CS) (.type "BaseException")=some true
open PySem.W in
theorem m9 {K:Frag}{M:Model}{h:Heap}{C:Addr} (kin:K.In h) (z:isClsIn K C=true):Looks M h (isType (.ref C)) true:=by
 unfold isClsIn clsIn at z
 split at z
 ·rename_i lk
  intro A Q E s k q
  unfold isType loadHead
  exact wpAny_bind (wpAny_loadPart (k C _ (kin C _ lk)) (wpAny_pure q))
 ·cases z
open PySem.W in
theorem pz {prog:Program}{w:World}{A:Around}{E:Value->Shared->Prop}{s:Shared}{K:Frag}{e CS:Addr}{oe:Obj}{Q:Bool->Shared->Prop} (kin:K.In s.heap) (he:s.heap.get? e=some oe) (ca:xC K CS)
  (hC:subIn K oe.cls (.ref CS)=some true) (hq:Q true s):wpAny (model prog w) A (excMatches (.ref e) (.ref CS)) Q E s:=by
 obtain⟨hh,g,d,tk,os⟩:=s
 have L1:Looks (model prog w) hh (typeOf (.ref CS)) (.type "type"):=looks_typeIn kin ca.ty
 have L2:Looks (model prog w) hh (isType (.ref CS)) true:=m9 kin ca.isc
 have L3:Looks (model prog w) hh (isSubtype oe.cls (.ref CS)) true:=looks_subIn kin hC
 have L4:Looks (model prog w) hh (isInstance (.ref CS) (.type "tuple")) false:=L1.andThen (Looks.of_pure tc_notTuple)
 have L5:Looks (model prog w) hh (isExcClass (.ref CS)) true:=L2.andThen (looks_subIn kin ca.base)
 have L6:Looks (model prog w) hh (typeOf (.ref e)) oe.cls:=(Looks.ld he).andThen .now
 unfold excMatches
 refine wpAny_bind (L4.at ?_)
 simp only[Bool.false_eq_true,if_false]
 refine wpAny_bind (wpAny_pure ?_)
 simp only[List.forIn_cons,List.forIn_nil]
 refine wpAny_bind (wpAny_bind (wpAny_bind (L5.at ?_)))
 simp only[Bool.not_true,Bool.false_eq_true,if_false]
 refine wpAny_pure (wpAny_pure (wpAny_bind (L6.at ?_)))
 refine wpAny_bind (wpAny_bind (wpAny_bind (L3.at ?_)))
 simp only[if_true]
 exact wpAny_pure (wpAny_pure (wpAny_pure hq))
end L2
namespace L2
open PySem PySem.Spec PyProof.Rows
def Bg (i:Int):Prop:=Builtin.Int.intBits i<=1048576
theorem Bg.le {i j:Int} (h:Bg i) (hj:j.natAbs<=i.natAbs):Bg j:=intBits_le_iff.mpr (Nat.lt_of_le_of_lt hj (intBits_le_iff.mp h))
theorem Bg.zero:Bg 0:=by unfold Bg Builtin.Int.intBits;decide
open PySem.W in
theorem uM {ns:List Int} (h:WData.layableAll [WData.list (ns.map WData.int)]=true):∀ i∈ns,Bg i:=λ i hi=>by
 have h1:=layableW_arg h _ (List.mem_singleton.mpr rfl)
 have h2:=layableW_item h1 (.int i) (List.mem_map.mpr ⟨i,hi,rfl⟩)
 have h3:=(layableW_iff.mp h2).2.2
 exact h3
open PySem.W in
theorem zu {l:OpenLaw}{n:Nat}{q:Program}{loose:List Str}{XP:(Str->Option Value)->Heap->Prop}{YP:World->Heap->Prop}{d:DefRec}
  (hn:l.most=some n) (hdf:d.params.defaults = [])
  (run:∀ (w:World) (s0 s1:Shared) (mg mb:Str->Option Value) (fa:Addr) (o:Obj) (pm cd doc:Value) (a:Addr) (vs:List Value) (ns:List Int),
   Ground q loose [] XP w s0 mg mb s1.heap->YP w s1.heap ->
   s1.heap.get? fa=some o->o.data=.func (Calls.docDef d.name d.params d.body d.scope pm cd doc)->s1.heap.CodeRec cd d.name->mg d.name=some (.ref fa) ->
   s1.heap.get? a=some {cls:=.type "list",data:=.seq vs.toArray}->IntsAre vs ns->ns.length<=n->(∀ i∈ns,Bg i)->s1.gens=#[] ->
   codeAny (model l.prog w) callerA (.call (.ref fa) ⟨[.ref a],[]⟩) (λ r s'=>r=.ok (.ret (.bool true))/\OldK s1.heap s'.heap/\s'.os=s1.os/\AllBare s'.gens) s1) :
  WalkO q loose XP YP l.row.toRowW d [] (λ f vs=>PySem.call f vs):=by
 intro w s0 s1 mg mb G Y fa o pm cd doc dV kV ho hd hcd hD hmg hg args vals as hpre hlay hrd hwl hlo
 obtain rfl:dV=.none:=Dflts.none hD hdf
 obtain rfl:kV=.none:=Dflts.noKw hD
 obtain⟨a,vs,ns,rfl,rfl,hobj,hints,hlen⟩:=Att.tK hn hpre hwl
 have hbg:=uM hlay
 refine enter_call (codeAny_mono (run w s0 s1 mg mb fa o pm cd doc a vs ns G Y ho (fd_plain hd) hcd hmg hobj hints hlen hbg hg) λ r s' hq=>?_)
 obtain⟨e1,h2,h3,h4⟩:=hq
 subst e1
 exact⟨.inl ⟨.bool true,.bool true,[],rfl,λ _=>rfl,.bool true,Att.tU l _,λ _=>⟨List.Pairwise.nil,λ _ hm=>(nomatch hm)⟩⟩,h2,h3,h4⟩
theorem Inv.big {X:Cx}{pins:List (Addr×Obj)}{σ:St}{H:Hp}{s:Shared} (I:Inv X pins σ H s):sysModules<s.heap.objs.size:=by
 have h:mainGlobals<s.heap.objs.size:=(I.mod.glob.keeps I.bk).lt
 exact Nat.lt_trans (by decide) h
theorem bH.at {H:Hp}{ts:List Th}{xs:List V}{i:Int} (d:Th) (h:bH H ts xs) (h0:0<=i) (h1:i<(ts.length:Int)):∃ v,atI xs i=some v/\Den H (ts.getD i.toNat d) v:=by
 have hk:i.toNat<ts.length:=by omega
 have ek:i=((i.toNat:Nat):Int):=by omega
 obtain⟨v,e,q⟩:=h.get (List.getElem?_eq_getElem hk)
 have z:=bx e
 rw[<-ek] at z
 refine⟨v,z,?_⟩
 rw[ig hk];exact q
end L2
namespace L2
open PySem PySem.Spec PyProof.Rows
section
variable {prog:Program}{w:World}{A:Around}{E:Value->Shared->Prop}
end
end L2
namespace L2
open PySem PySem.Spec PySem.W PyProof.Rows Builtin Builtin.ObjectAttr Builtin.Getset_descriptor
structure z9 (K:Frag) (C:Addr):Prop where
 ga:findIn K (.ref C) "__getattribute__" = some (some (.builtin "BaseException.__getattribute__"))
 gt:findIn K (.ref C) "__getattr__" = some none
 cl:findIn K (.ref C) "__class__" = some (some (.builtin "object.__class__"))
 sg:specialIn K (.builtin "object.__class__") "__get__" = some (some (.builtin "getset_descriptor.__get__"))
 tk:takesIn K (.builtin "object.__class__")=some true
 ob:mroIn K C (.type "object")=some true
 be:mroIn K C (.type "BaseException")=some true
 ok:isClsIn K C=true
section
variable {prog:Program}{w:World}{A:Around}{E:Value->Shared->Prop}{K:Frag}{a C:Addr}{oe:Obj}{h:Heap}{g:Array GenState}{d:Drawn}{t:Nat}{os:OsState}
end
section
variable {X:Cx}{e:Addr}{oe:Obj}
theorem AJ (hu:X.A.units+64<cLine):OpR X (compareOp .Eq) (λ x y H Q=>∃ t,Den H t x/\Den H t y/\dQ t<=60/\Q (.bl true) H):=by
 intro pins s σ H x y v u Q I rx ry h
 obtain⟨t,d1,d2,hd,q⟩:=h
 have scal_case:xV x y=true->x=y->wpAny (model X.prog X.w) X.A (compareOp .Eq v u) (EP X pins σ Q) X.xe s:=λ h1 h2 =>
  gD pins s σ H x y v u Q I rx ry ⟨h1,by rw[decide_eq_true h2];exact q⟩
 cases t with
 | non=>cases (show x=V.non from d1);cases (show y=V.non from d2);exact scal_case rfl rfl
 | bl b=>cases (show x=V.bl b from d1);cases (show y=V.bl b from d2);exact scal_case rfl rfl
 | int i=>cases (show x=V.int i from d1);cases (show y=V.int i from d2);exact scal_case rfl rfl
 | str z=>cases (show x=V.str z from d1);cases (show y=V.str z from d2);exact scal_case rfl rfl
 | lst ts =>
  obtain⟨a1,xs,rfl,h1,e1⟩:=d1
  obtain⟨a2,ys,rfl,h2,e2⟩:=d2
  cases (show v=Value.ref a1 from rx);cases (show u=Value.ref a2 from ry)
  obtain⟨_,us,n1,q1,g1⟩:=(show aN X.prog X.w H s.heap a1 (.lst xs) from I.hok a1 _ h1)
  obtain⟨_,ws,n2,q2,g2⟩:=(show aN X.prog X.w H s.heap a2 (.lst ys) from I.hok a2 _ h2)
  have hsz:us.toArray.size=ws.toArray.size:=by
   rw[List.size_toArray,List.size_toArray,<-q1.length,<-q2.length,e1.len,e2.len]
  have hd':cg ts+1<=60:=hd
  have h:=SeqAt.RcAt.lists (A:=X.A) (s:=s) (e:=λ _=>true) (⟨_,g1,rfl,_,rfl⟩:s.heap.IsList a1 us.toArray) (⟨_,g2,rfl,_,rfl⟩:s.heap.IsList a2 ws.toArray) hsz (by omega) λ j j1 j2=>by
   obtain⟨t,w1,w2,ht,p1,p2,s1,s2⟩:=gA e1 e2 q1 q2 j j1 j2
   exact lY I.hok 60 X.A.in1 t w1 w2 _ _ (by have:=bZ ht;omega) (by show X.A.units+1+60<cLine;omega) p1 p2 s1 s2
  rw[bG] at h
  exact h X.prog X.w _ _ ⟨.bl true,H,I,rfl,q⟩
 | tup ts =>
  obtain⟨a1,xs,rfl,h1,e1⟩:=d1
  obtain⟨a2,ys,rfl,h2,e2⟩:=d2
  cases (show v=Value.ref a1 from rx);cases (show u=Value.ref a2 from ry)
  obtain⟨_,us,q1,g1⟩:=(show aN X.prog X.w H s.heap a1 (.tup xs) from I.hok a1 _ h1)
  obtain⟨_,ws,q2,g2⟩:=(show aN X.prog X.w H s.heap a2 (.tup ys) from I.hok a2 _ h2)
  have hsz:us.toArray.size=ws.toArray.size:=by
   rw[List.size_toArray,List.size_toArray,<-q1.length,<-q2.length,e1.len,e2.len]
  have hd':cg ts+1<=60:=hd
  have h:=SeqAt.RcAt.tuples (A:=X.A) (s:=s) (e:=λ _=>true) (show s.heap.IsTuple a1 us.toArray from g1) (show s.heap.IsTuple a2 ws.toArray from g2) (by omega) λ j j1 j2=>by
   obtain⟨t,w1,w2,ht,p1,p2,s1,s2⟩:=gA e1 e2 q1 q2 j j1 j2
   exact lY I.hok 60 X.A.in1 t w1 w2 _ _ (by have:=bZ ht;omega) (by show X.A.units+1+60<cLine;omega) p1 p2 s1 s2
  rw[bG,hsz,beq_self_eq_true,Bool.and_self] at h
  exact h X.prog X.w _ _ ⟨.bl true,H,I,rfl,q⟩
 | emp =>
  obtain⟨a1,rfl,h1⟩:=d1
  obtain⟨a2,rfl,h2⟩:=d2
  cases (show v=Value.ref a1 from rx);cases (show u=Value.ref a2 from ry)
  obtain⟨_,m1,vs1,q1,g1⟩:=(show aN X.prog X.w H s.heap a1 (.dK []) from I.hok a1 _ h1)
  obtain⟨_,m2,vs2,q2,g2⟩:=(show aN X.prog X.w H s.heap a2 (.dK []) from I.hok a2 _ h2)
  cases q1
  cases q2
  exact PySem.W.keq_eq (K:=Key) (knd:=fh X.prog X.w) (r:=true) m1 m2 g1 g2 (by omega) (λ _=>.nil) ⟨.bl true,H,I,rfl,q⟩
 | dic=>exact absurd (show cLine+1<=60 from hd) (by omega)
end
end L2
namespace L2
open PySem PySem.Spec PyProof.Rows
section
variable {X:Cx}{pins:List (Addr×Obj)}{σ:St}{H:Hp}{s:Shared}{h':Heap}
theorem Inv.turnedL {t':Nat}{fp:List Addr} (I:Inv X pins σ H s) (k:∀ b o,b ∉ fp->s.heap.get? b=some o->h'.get? b=some o) (hf:∀ b∈fp,dU X pins H b) :
  Inv X pins σ H {s with heap:=h',toks:=t'}:=by
 have nin:∀ b u,H b=some u->b ∉ fp:=λ b u e z=>by rw[(hf b z).1] at e;cases e
 refine I.step (g':=s.gens) (d':=s.drawn) (ch:=fp) (λ b hb=>⟨(hf b hb).2.2.2.1,(hf b hb).2.1,(hf b hb).2.2.2.2.1,(hf b hb).2.2.2.2.2⟩) (λ b o _ _ hc e _=>k b o hc e) (λ b o _ _ hc e _=>⟨o.slots,k b o hc e⟩) (λ _ _ _ _ n=>n)
  (λ b o hc e=>⟨o,k b o hc e⟩) (λ _ _ e=>e) (λ _ _ _ e=>e) (λ b ps e=>⟨#[],by rw[e];simp⟩) (λ m hm=>?_) (λ b u e=>?_) I.bare
 ·obtain⟨o,es,ep,ho,r⟩:=hm
  exact⟨o,es,ep,k _ o (λ z=>(hf _ z).2.1 rfl) ho,r⟩
 ·refine (I.hok b u e).stay (λ c v hc q=>k c v ?_ q) (λ _ q=>q) λ _ _ q=>q
  rcases hc with z | z
  ·rw[z];exact nin b u e
  ·exact nin c _ z
theorem Inv.turnLay {t':Nat}{fp:List Addr}{a:Addr}{o:HO} (I:Inv X pins σ H s) (k:∀ b u,b ∉ fp->s.heap.get? b=some u->h'.get? b=some u) (hf:∀ b∈fp,dU X pins H b)
  (ha:s.heap.objs.size<=a) (new:aN X.prog X.w (upd H a o) h' a o):Inv X pins σ (upd H a o) {s with heap:=h',toks:=t'}:=by
 have nin:∀ b u,H b=some u->b ∉ fp:=λ b u e z=>by rw[(hf b z).1] at e;cases e
 have hn:H a=none:=I.hok.fresh ha
 have ne:∀ b u,H b=some u->b≠a:=λ b u e z=>by rw[z,hn] at e;cases e
 refine I.step (g':=s.gens) (d':=s.drawn) (ch:=fp) (λ b hb=>⟨(hf b hb).2.2.2.1,(hf b hb).2.1,(hf b hb).2.2.2.2.1,(hf b hb).2.2.2.2.2⟩) (λ b o _ _ hc e _=>k b o hc e) (λ b o _ _ hc e _=>⟨o.slots,k b o hc e⟩)
  (λ b u _ e n=>by rw[al (Nat.ne_of_lt (Nat.lt_of_lt_of_le (Heap.lt_size e) ha))];exact n)
  (λ b o hc e=>⟨o,k b o hc e⟩) (λ b xs e=>by rw[al (ne b _ e)];exact e) (λ b o u e=>by rw[al (ne b _ e)];exact e) (λ b ps e=>⟨#[],by rw[al (ne b _ e),e];simp⟩) (λ m hm=>?_) (λ b u e=>?_) I.bare
 ·obtain⟨o,es,ep,ho,r⟩:=hm
  exact⟨o,es,ep,k _ o (λ z=>(hf _ z).2.1 rfl) ho,r⟩
 ·by_cases hb:b=a
  ·subst hb
   rw[ad] at e
   cases e
   exact new
  ·rw[al hb] at e
   refine (I.hok b u e).stay (λ c v hc q=>k c v ?_ q) (λ c q=>by rw[al (ne c _ q)];exact q) λ c xs q=>by rw[al (ne c _ q)];exact q
   rcases hc with z | z
   ·rw[z];exact nin b u e
   ·exact nin c _ z
end
def Itz (K:PySem.W.Frag) (l1 l2:Addr):It :=
 ⟨λ i H=>∃ xs ys x y,SqL K H l1 xs/\SqL K H l2 ys/\xs[i]? = some x/\ys[i]? = some y,
  λ i H v H'=>∃ T x y,H T=none/\H'=upd H T (.tup [x,y])/\v=.ref T/\(∀ xs,SqL K H l1 xs->xs[i]? = some x)/\∀ ys,SqL K H l2 ys->ys[i]? = some y,
  λ i H=>∃ xs ys,SqL K H l1 xs/\SqL K H l2 ys/\(xs.length<=i∨ys.length<=i)⟩
def ZSt (z TI TO i1 i2 l1 l2:Addr) (i:Nat) (h:Heap):Prop :=
 IsZip h z TI TO Value.none/\IsPair h TI (.ref i1) (.ref i2)/\(∃ a b,IsPair h TO a b)/\h.IsListIter i1 l1 i/\h.IsListIter i2 l2 i
theorem lW {h:Heap}{l:Addr}{items:Array Value} (x:h.IsList l items):∃ o,h.get? l=some o/\o.cls=.type "list":=by
 obtain⟨o,e,c,_⟩:=x
 exact⟨o,e,c⟩
theorem uU {P:Program}{w:World}{K:PySem.W.Frag}{es:List Expr}{k0:Nat}{p0:Pos}{z TI TO i1 i2 l1 l2:Addr} (ap:ZipApart z TI TO i1 i2 l1 l2) :
  pK P w K (.Tuple es k0 p0) (Itz K l1 l2) [z,TI,TO,i1,i2] z (ZSt z TI TO i1 i2 l1 l2) where
 mem:=by simp
 obj:=λ i h ⟨a,b,⟨c1,c2,c⟩,d,e⟩ x hx=>by
  simp only[List.mem_cons,List.not_mem_nil,or_false] at hx
  rcases hx with rfl | rfl | rfl | rfl | rfl
  ·exact⟨_,a,λ v q=>by cases q⟩
  ·exact⟨_,b,λ v q=>by cases q⟩
  ·exact⟨_,c,λ v q=>by cases q⟩
  ·obtain⟨o,e1,_,e2⟩:=d
   exact⟨o,e1,λ v q=>by rw[e2] at q;cases q⟩
  ·obtain⟨o,e1,_,e2⟩:=e
   exact⟨o,e1,λ v q=>by rw[e2] at q;cases q⟩
 keep:=λ i h h' ⟨a,b,⟨c1,c2,c⟩,d,e⟩ kk =>
  ⟨kk _ (by simp) _ a,kk _ (by simp) _ b,⟨c1,c2,kk _ (by simp) _ c⟩,d.at λ o q=>kk _ (by simp) o q,e.at λ o q=>kk _ (by simp) o q⟩
 item:=by
  intro X hP hw hK hc i pins s σ H E I hf st hg
  subst hP hw hK
  obtain⟨a,b,⟨c1,c2,c⟩,d,e⟩:=st
  obtain⟨xs,ys,x,y,q1,q2,x1,y1⟩:=hg
  obtain⟨its1,rv1,pl1,hz1⟩:=I.list q1
  obtain⟨its2,rv2,pl2,hz2⟩:=I.list q2
  obtain⟨u1,hu1,ru1⟩:=rv1.get x1
  obtain⟨u2,hu2,ru2⟩:=rv2.get y1
  refine wpAny_pyNext_zip_item ap a b c d e pl1.isList pl2.isList (x:=u1) (y:=u2) (by simpa using hu1) (by simpa using hu2) λ h' za zb zc zd ze zs zk=>?_
  refine⟨_,rfl,wpAny_letOwnedTupleGo_zip (s:={s with heap:=h'}) za λ h2 za2 sb=>?_⟩
  have kk:∀ b o,b ∉ [z,TI,TO,i1,i2]->s.heap.get? b=some o->h2.get? b=some o:=λ b o hb q=>by
   simp only[List.mem_cons,List.not_mem_nil,or_false,not_or] at hb
   exact (sb.2 b hb.1).trans (zk b o hb.1 hb.2.2.1 hb.2.2.2.1 hb.2.2.2.2 q)
  have szn:s.heap.objs.size≠z:=λ q=>by
   obtain⟨f0,_⟩:=hf z (by simp)
   exact absurd (Heap.lt_size a) (by rw[<-q];exact Nat.lt_irrefl _)
  have hT:h2.get? s.heap.objs.size=some {cls:=.type "tuple",data:=.seq #[u1,u2]}:=(sb.2 _ szn).trans ze
  have fr:H s.heap.objs.size=none:=I.hok.fresh (Nat.le_refl _)
  have I2:Inv X pins σ (upd H s.heap.objs.size (.tup [x,y])) {s with heap:=h2}:=I.turnLay (t':=s.toks) (fp:=[z,TI,TO,i1,i2]) kk hf (Nat.le_refl _)
   ⟨by show 2<=sizeLine;decide,[u1,u2],.cons ru1 (.cons ru2 .nil),⟨_,hT,rfl,_,rfl⟩⟩
  have kTI:h2.get? TI=some _:=(sb.2 TI ap.TIz).trans (zk TI _ ap.TIz ap.TITO ap.TIi1 ap.TIi2 b)
  refine⟨.ref s.heap.objs.size,_,I2,rfl,⟨_,x,y,fr,rfl,rfl,λ zs hz=>by rw[I.list_inj hz q1];exact x1,λ zs hz=>by rw[I.list_inj hz q2];exact y1⟩,
   ⟨za2,kTI,⟨_,_,(sb.2 TO ap.TOz).trans zb⟩,zc.at λ o q=>(sb.2 _ ap.i1z).trans q,zd.at λ o q=>(sb.2 _ ap.i2z).trans q⟩,λ b hb=>?_⟩
  have h0:=(hf b hb).1
  have hlt:b≠s.heap.objs.size:=λ q=>by
   subst q
   simp only[List.mem_cons,List.not_mem_nil,or_false] at hb
   rcases hb with q | q | q | q | q
   ·exact szn q
   ·exact absurd (Heap.lt_size b) (by rw[<-q];exact Nat.lt_irrefl _)
   ·exact absurd (Heap.lt_size c) (by rw[<-q];exact Nat.lt_irrefl _)
   ·obtain⟨o,e1,_⟩:=d
    exact absurd (Heap.lt_size e1) (by rw[<-q];exact Nat.lt_irrefl _)
   ·obtain⟨o,e1,_⟩:=e
    exact absurd (Heap.lt_size e1) (by rw[<-q];exact Nat.lt_irrefl _)
  rw[al hlt]
  exact h0
 done:=by
  intro X hP hw hK hc i pins s σ H E I hf st hg
  subst hP hw hK
  obtain⟨a,b,⟨c1,c2,c⟩,d,e⟩:=st
  obtain⟨xs,ys,q1,q2,hl⟩:=hg
  obtain⟨its1,rv1,pl1,hz1⟩:=I.list q1
  obtain⟨its2,rv2,pl2,hz2⟩:=I.list q2
  have g1:=rv1.length
  have g2:=rv2.length
  refine wpAny_pyNext_zip_end (I.ok.hd hc) ap a b c d e pl1.isList pl2.isList ?_ λ h' zk=>⟨rfl,I.turnedL (t':=s.toks) (fp:=[z,TI,TO,i1,i2]) (λ b o hb q=>?_) hf⟩
  ·rcases hl with q | q
   ·left;simp;omega
   ·right;simp;omega
  ·simp only[List.mem_cons,List.not_mem_nil,or_false,not_or] at hb
   exact zk b o hb.1 hb.2.2.1 hb.2.2.2.1 hb.2.2.2.2 q
 self:=λ _ _ _ _ _ st h=>wpAny_pyIter_zip st.1 h
theorem uR {n l1 l2:Nat} (h1:l1<n) (h2:l2<n):ZipApart (n+4) (n+2) (n+3) n (n+1) l1 l2:=by
 constructor<;>(show (_:Nat)≠(_:Nat);omega)
def CN (K:PySem.W.Frag) (ta:TA):TI:=λ σ H R=>ta σ H λ vs H1=>∃ a b,vs = [.ref a,.ref b]/\(∃ xs,SqL K H1 a xs)/\(∃ ys,SqL K H1 b ys)/\R (Itz K a b) H1
theorem v6 {X:Cx}{es:List Expr}{k0:Nat}{p0:Pos}{a b:Expr}{ta:TA}{p pos:Pos} (hg:Gl X "zip") (hm:X.mg "zip" = none) (ha:PA X [a,b] ta) (hs:starEach [a,b] X.env = [(false,eval a X.env),(false,eval b X.env)]:=by rfl) (hs2:starEach [b] X.env = [(false,eval b X.env)]:=by rfl) :
  PI X (.Tuple es k0 p0) (.Call (.Name "zip" p) [a,b] [] pos) (CN X.K ta):=by
 intro pins s σ H R I h
 refine Call_ (fi I hg hm boot_zip (PyProof.Rows.callWith_type1 (thn (ha pos pins s σ H _ I h) λ us s1 ⟨vs,H1,I1,r1,q1⟩=>?_) (by rw[hs,hs2]) (by rw[hs2];rfl)))
 obtain⟨l1,l2,e,⟨xs,q1⟩,⟨ys,q2⟩,q⟩:=q1
 subst e
 cases r1 with
 | cons r rr =>
  cases rr with
  | cons r' rr =>
   cases rr
   cases r
   cases r'
   obtain⟨its1,rv1,pl1,hz1⟩:=I1.list q1
   obtain⟨its2,rv2,pl2,hz2⟩:=I1.list q2
   have lt1:l1<s1.heap.objs.size:=by obtain⟨o,e,_⟩:=lW pl1.isList;exact Heap.lt_size e
   have lt2:l2<s1.heap.objs.size:=by obtain⟨o,e,_⟩:=lW pl2.isList;exact Heap.lt_size e
   refine call_zip_2 pl1.isList pl2.isList λ h' za zb zc zd ze zs zk=>?_
   refine wpAny_pyIter_zip (s:={s1 with heap:=h'}) za ?_
   have I2:Inv X pins σ H1 {s1 with heap:=h'}:=I1.kept (t':=s1.toks) λ b o e=>zk b o e
   refine⟨_,[_,_,_,_,_],_,_,H1,rfl,I2,uU (z:=s1.heap.objs.size+4) (TI:=s1.heap.objs.size+2) (TO:=s1.heap.objs.size+3) (i1:=s1.heap.objs.size) (i2:=s1.heap.objs.size+1) (l1:=l1) (l2:=l2) ?_,⟨za,zb,⟨_,_,zc⟩,zd,ze⟩,λ b hb=>?_,q⟩
   ·exact uR lt1 lt2
   ·simp only[List.mem_cons,List.not_mem_nil,or_false] at hb
    have ge:s1.heap.objs.size<=b:=by rcases hb with z | z | z | z | z<;>(subst z;first | exact Nat.le_add_right _ _ | exact Nat.le_refl _)
    exact I1.fpOk ge (I1.hok.fresh ge)
end L2
namespace L2
open PySem PySem.Spec PyProof.Rows
abbrev fZ (ifs:List Expr) (env:Env):Sem Bool:=forIn ifs true λ c ok=>if ok=true then do
   let ok <-PySem.isTrue c env (eval c env)
   pure (ForInStep.yield ok)
  else pure (ForInStep.yield ok)
theorem iz (elt target iter:Expr) (ifs:List Expr) (scope:Scope) (pos:Pos) (it acc:Value) (env:Env) :
 compTurn (elt.ListComp [⟨target,iter,ifs,0⟩] scope pos) 0 it acc env=(do
  standAt iter.pos
  let r <-pyNext it
  match r with
   | none=>pure (Fin.done Flow.next)
   | some v=>do
    letOwnedTupleGo target it v
    assign target env v
    let ok <-fZ ifs env
    if ok=true then do
     let x <-eval elt env
     let _ <-call (Value.builtin "list.append") [acc,x]
     again (Code.compLoop (elt.ListComp [⟨target,iter,ifs,0⟩] scope pos) 0 it acc env)
    else again (Code.compLoop (elt.ListComp [⟨target,iter,ifs,0⟩] scope pos) 0 it acc env)):=by
 unfold compTurn
 simp
 rfl
def PIf (X:Cx) (ifs:List Expr) (t:TT):Prop :=
 ∀ (pins:List (Addr×Obj)) (s:Shared) (σ:St) (H:Hp) (Q:Bool->Hp->Prop),Inv X pins σ H s->t σ H Q->wpAny (model X.prog X.w) X.A (fZ ifs X.env) (TP X pins σ Q) X.xe s
def kG:TT:=λ _ H Q=>Q true H
theorem fb {X:Cx}:PIf X [] kG:=λ pins s σ H Q I h=>by
 show wpAny _ _ (pure true) _ _ s
 exact wpAny_pure ⟨H,I,h⟩
theorem jv {X:Cx}{c:Expr}{t:TT} (hc:PT X c t):PIf X [c] t:=λ pins s σ H Q I h=>by
 have e:fZ [c] X.env=PySem.isTrue c X.env (eval c X.env):=by simp [fZ]
 rw[e]
 exact hc pins s σ H Q I h
theorem nM {prog:Program}{w:World}{A:Around}{R:Result->Shared->Prop}{s:Shared}{elt tg iter:Expr}{ifs:List Expr}{scope:Scope}{pos:Pos}{it acc:Value}{env:Env} (Iv:Nat->Shared->Prop)
  (turn:∀ k s,Iv k s->wpAny (model prog w) A (pyNext it) (λ r s1=>match r with
   | none=>R (.ok .next) s1
   | some v=>wpAny (model prog w) A (letOwnedTupleGo tg it v) (λ _ s2=>wpAny (model prog w) A (assign tg env v) (λ _ s3=>wpAny (model prog w) A (fZ ifs env) (λ b s4=>if b=true then
     wpAny (model prog w) A (eval elt env) (λ y s5=>wpAny (model prog w) A (call (.builtin "list.append") [acc,y]) (λ _ s6=>∃ m,m<k/\Iv m s6) (λ _ _=>False) s5) (λ _ _=>False) s4
     else ∃ m,m<k/\Iv m s4) (λ _ _=>False) s3) (λ _ _=>False) s2) (λ _ _=>False) s1) (λ _ _=>False) s)
  (k:Nat) (h:Iv k s):codeAny (model prog w) A (.compLoop (.ListComp elt [⟨tg,iter,ifs,0⟩] scope pos) 0 it acc env) R s:=by
 refine codeAny_loop rfl Iv (λ k s hI=>?_) k h
 show wpAny _ _ ((compTurn (.ListComp elt [⟨tg,iter,ifs,0⟩] scope pos) 0 it acc env).onRaise (λ e=>do noteFrame e env;theTreesLotGoes e)) _ _ s
 refine wpAny_noted ?_
 rw[iz]
 refine wpAny_bind (wpAny_standAt (wpAny_bind (wpAny_mono (turn k s hI) (λ r s1 h1=>?_) λ _ _ f=>f.elim)))
 cases r with
 | none=>exact wpAny_pure h1
 | some v =>
  refine wpAny_bind (wpAny_mono h1 (λ _ s2 h2=>wpAny_bind (wpAny_mono h2 (λ _ s3 h3=>wpAny_bind (wpAny_mono h3 (λ b s4 h4=>?_) λ _ _ f=>f.elim)) λ _ _ f=>f.elim)) λ _ _ f=>f.elim)
  cases b with
  | true =>
   rw[if_pos rfl] at h4 ⊢
   exact wpAny_bind (wpAny_mono h4 (λ y s5 h5=>wpAny_bind (wpAny_mono h5 (λ _ s6 h6=>wpAny_pure ⟨rfl,h6⟩) λ _ _ f=>f.elim)) λ _ _ f=>f.elim)
  | false =>
   rw[if_neg Bool.false_ne_true] at h4 ⊢
   exact wpAny_pure ⟨rfl,h4⟩
structure bP (X:Cx) (xs:List Str) (ts:List (Str×Nat)) (scope:Scope) (cl:List (Str×Addr)):Prop where
 clos:closureFor scope X.env=pure cl
 sub:∀ y c,cl.lookup y=some c->X.env.cells.lookup y=some c
 nocell:(scope.names.all λ p=>p.2 != .cell)=true
 kind:scope.kind=.function
 locs:(scope.names.all λ p=>p.2 != .local || scope.names.lookup p.1 == some .local)=true
 nd:(xs++ts.map (·.1)).Nodup
 around:(ts.all λ p=>decide (X.N[p.2]? = some p.1) && (X.env.kindOf p.1 == some .cell || X.env.kindOf p.1 == some .free) && (cl.lookup p.1).isSome &&
  ((relabel scope X.env).names.lookup p.1 == some .cell || (relabel scope X.env).names.lookup p.1 == some .free))=true
 has:((relabel scope X.env).names.all λ p=>!(p.2 == .cell || p.2 == .free) || (cl.lookup p.1).isSome)=true
abbrev cG (xs:List Str) (ts:List (Str×Nat)):List Str:=xs++ts.map (·.1)
def eW (J:It) (g:TG) (tt:TT) (te:TE) (k:Nat) (st:St) (D:Addr) (H1:Hp) (Q:VK):Prop :=
 ∃ W:Nat->Nat->List V->Hp->Prop,(∃ m,W 0 m [] (upd H1 D (.lst [])))/\∀ i m ys H2,W i m ys H2 ->
  (J.stop i H2/\Q (.ref D) H2)∨(J.go i H2/\∀ x H3 σ0,J.yld i H2 x H3->σ0.length=k->g x (σ0++st) H3 λ σ2 H4=>(∃ σ1,σ1.length=k/\σ2 = σ1++st)/\tt σ2 H4 λ b H5 =>
   if b=true then te σ2 H5 λ y H6=>H6 D=some (.lst ys)/\ys.length<sizeLine/\∃ m',m'<m/\W (i+1) m' (ys++[y]) (upd H6 D (.lst (ys++[y])))
   else ∃ m',m'<m/\W (i+1) m' ys H5)
def mt (wi:TI) (g:TG) (tt:TT) (k:Nat) (fr:List Nat) (te:TE):TE:=λ σ H Q=>wi σ H λ J H1=>∀ D,H1 D=none->eW J g tt te k (bM σ fr) D H1 Q
section
variable {X:Cx}{elt iter tg:Expr}{ifs:List Expr}{xs:List Str}{pos:Pos}{scope:Scope}{cl:List (Str×Addr)}{ts:List (Str×Nat)}{wi:TI}{te:TE}{g:TG}{tt:TT}
theorem bP.nocell' (O:bP X xs ts scope cl):∀ y∈scope.names,y.2≠.cell:=λ y hy e=>by
 have:=List.all_eq_true.mp O.nocell y hy
 rw[e] at this
 cases this
theorem bP.locs' (O:bP X xs ts scope cl):∀ y∈scope.names,y.2=.local->scope.names.lookup y.1=some .local:=λ y hy e=>by
 have h:=List.all_eq_true.mp O.locs y hy
 rw[e] at h
 rcases Bool.or_eq_true_iff.mp h with z | z
 ·cases z
 ·exact beq_iff_eq.mp z
theorem bP.from' (O:bP X xs ts scope cl):∀ (i:Nat) (y:Str),(ts.map (·.1))[i]? = some y->∃ j,(bL ts)[i]? = some j/\X.N[j]? = some y/\(X.env.kindOf y=some .cell∨X.env.kindOf y=some .free)/\(cl.lookup y).isSome=true /\
  ((relabel scope X.env).names.lookup y=some .cell∨(relabel scope X.env).names.lookup y=some .free):=λ i y e1=>by
 rw[List.getElem?_map] at e1
 cases q:ts[i]? with
 | none=>rw[q] at e1;cases e1
 | some p =>
  rw[q] at e1
  have e2:p.1=y:=Option.some.inj e1
  subst e2
  have h:=List.all_eq_true.mp O.around p (List.mem_of_getElem? q)
  simp only[Bool.and_eq_true,Bool.or_eq_true,beq_iff_eq,decide_eq_true_eq] at h
  obtain⟨⟨⟨h1,h2⟩,h3⟩,h4⟩:=h
  refine⟨p.2,?_,h1,h2,h3,h4⟩
  show (ts.map (·.2))[i]? = some p.2
  rw[List.getElem?_map,q]<;>rfl
theorem bP.has' (O:bP X xs ts scope cl):∀ y,((relabel scope X.env).names.lookup y=some .cell∨(relabel scope X.env).names.lookup y=some .free)->(cl.lookup y).isSome=true:=λ y h=>by
 have go:∀ k:NameKind,(k=.cell∨k=.free)->(relabel scope X.env).names.lookup y=some k->(cl.lookup y).isSome=true:=λ k hk e=>by
  have z:=List.all_eq_true.mp O.has (y,k) (PySem.mem_of_lookup e)
  rcases Bool.or_eq_true_iff.mp z with z | z
  ·rcases hk with e | e<;>(rw[e] at z;cases z)
  ·exact z
 rcases h with h | h
 ·exact go _ (.inl rfl) h
 ·exact go _ (.inr rfl) h
theorem xm {pins:List (Addr×Obj)}{σ:St}{H3:Hp}{s3:Shared}{fp:List Addr} (O:bP X xs ts scope cl) (I3:Inv X pins σ H3 s3) (hfp:∀ b∈fp,dU X pins H3 b/\b<s3.heap.objs.size) :
  (aI X (cG xs ts) scope cl s3.heap.objs.size s3 H3 fp).Ok where
 mod:=I3.ok.mod
 kind:=O.kind
 glob:=I3.ok.glob
 blt:=I3.ok.blt
 above:=Nat.le_refl _
 inj:=λ y z c h1 h2=>I3.ok.inj y z c (O.sub y c h1) (O.sub z c h2)
 has:=λ y h=>Option.isSome_iff_exists.mp (O.has' y h)
 cab:=λ y c h=>by cases h
 hd:=I3.ok.hd
 frames:=I3.ok.frames
 stk:=.inl rfl
 exf:=λ b hb=>⟨Nat.ne_of_lt (hfp b hb).2,λ y c e=>(hfp b hb).1.2.2.2.2.1 y c (O.sub y c e)⟩
 bs:=λ b o e=>I3.bs b o e
 bsz:=Nat.le_trans I3.ok.bsz I3.sz
 noex:=λ b o e hb=>by
  rcases (hfp b hb).1.2.2.2.1 with z | z
  ·exact I3.ok.noex b o e z
  ·exact absurd (Nat.lt_of_lt_of_le (Heap.lt_size (I3.ok.bs b o e).1) z) (Nat.lt_irrefl _)
 exfs:=λ b hb hz=>by
  rcases List.mem_cons.mp (I3.stkSub b hz) with e | e
  ·exact (hfp b hb).1.2.1 e
  ·exact (hfp b hb).1.2.2.1 e
 funs:=I3.stack
 frf:=I3.stkFree
theorem jj {pins:List (Addr×Obj)}{σ:St}{H3:Hp}{s3:Shared}{fp:List Addr}{h1:Heap}{tk:Nat} (O:bP X xs ts scope cl) (I3:Inv X pins σ H3 s3) (hfp:∀ b∈fp,dU X pins H3 b/\b<s3.heap.objs.size)
  (hns:h1.Ns s3.heap.objs.size λ _=>none) (old:∀ b o,s3.heap.get? b=some o->h1.get? b=some o) :
  Inv (aI X (cG xs ts) scope cl s3.heap.objs.size s3 H3 fp) [] (List.replicate xs.length none++bM σ (bL ts)) H3 {s3 with heap:=h1,toks:=tk}:=by
 refine⟨xm O I3 hfp,rfl,I3.bare,Un.kept old,⟨_,hns,λ i y v e1 e2 e3=>?_⟩,λ y c e=>?_,I3.hok.fresh (Nat.le_refl _),λ y c e=>I3.freeC y c (O.sub y c e),λ p hp=>absurd (show p∈([]:List (Addr×Obj)) from hp) (by simp),I3.hok.kept old,?_⟩
 ·by_cases hi:i<xs.length
  ·rw[List.getElem?_append_left (by simpa using hi),List.getElem?_replicate,if_pos hi] at e2
   cases e2
  ·have hi':xs.length<=i:=Nat.le_of_not_lt hi
   have e1':(ts.map (·.1))[i-xs.length]? = some y:=by
    have:(xs++ts.map (·.1))[i]? = some y:=e1
    rw[List.getElem?_append_right hi'] at this;exact this
   rw[List.getElem?_append_right (by simpa using hi')] at e2
   rw[List.length_replicate] at e2
   obtain⟨j,hj,hN,hk,hcl,hk2⟩:=O.from' _ y e1'
   have e2':σ[j]? = some (some v):=by
    have q:=e2
    unfold bM at q
    rw[List.getElem?_map,hj] at q
    have q':(σ[j]?).getD none=some v:=Option.some.inj q
    cases z:σ[j]? with
    | none=>rw[z] at q';cases q'
    | some w=>rw[z] at q';rw[show w=some v from q']
   obtain⟨m,hn,hl⟩:=I3.loc
   have vis:Vis X.env.scope y:=hk.elim (λ z=>.inr (.inl z)) λ z=>.inr (.inr z)
   obtain⟨u,r,l⟩:=hl j y v hN e2' vis
   obtain⟨c,hc⟩:=Option.isSome_iff_exists.mp hcl
   refine⟨u,r,.inr ⟨hk2,c,hc,?_⟩⟩
   rcases l with ⟨k,_⟩ | ⟨_,c',hc',z⟩
   ·rcases hk with hk | hk
    ·rw[k] at hk;cases hk
    ·rw[k] at hk;cases hk
   ·rw[O.sub y c hc] at hc'
    cases hc'
    obtain⟨o,ho,hd⟩:=z
    exact⟨o,old c o ho,hd⟩
 ·obtain⟨v,o,ho,hd⟩:=I3.cell y c (O.sub y c e)
  exact⟨v,o,old c o ho,hd⟩
 ·show (List.replicate xs.length none++bM σ (bL ts)).length=(cG xs ts).length
  simp [bM]
theorem ma {use:Option (Value->Sem Unit)}{QV:Value->Shared->Prop}{cpos:Pos}{pins:List (Addr×Obj)}{s:Shared}{σ:St}{H:Hp}{Q:VK} (hc:X.calm=true) (O:bP X xs ts scope cl) (hi:PI X tg iter wi) (hg:∀ C s3 H3 fp,PG (aI X (cG xs ts) scope cl C s3 H3 fp) tg g)
  (ht:∀ C s3 H3 fp,PIf (aI X (cG xs ts) scope cl C s3 H3 fp) ifs tt) (he:∀ C s3 H3 fp,PE (aI X (cG xs ts) scope cl C s3 H3 fp) elt te)
  (hs:∀ x,foldedSetIterable iter X.env x=pure x) (I:Inv X pins σ H s) (h:mt wi g tt xs.length (bL ts) te σ H Q)
  (fin:∀ (D C:Addr) (s6:Shared) (H5:Hp),Inv X pins σ H5 s6->dU X pins H5 C->(∃ m,s6.heap.Ns C m)->Q (.ref D) H5->compPost (model X.prog X.w) X.A X.xe use QV (.ref D) C (.ok .next) s6) :
  wpAny (model X.prog X.w) X.A (comprehension (.ListComp elt [⟨tg,iter,ifs,0⟩] scope pos) scope X.env cpos (newList []) false (eval iter X.env) use) QV X.xe s:=by
 refine wpAny_comprehension_free (use:=use) rfl hs O.clos O.kind O.locs' (thn (hi pins s σ H _ I h) λ v s1 h1=>thn h1 λ itv s2 h2=>?_)
 obtain⟨it,fp,tn,J,H2,rfl,I2,T,st2,f2,q⟩:=h2
 have hD:H2 s2.heap.objs.size=none:=I2.hok.fresh (Nat.le_refl _)
 obtain⟨W,⟨m0,w0⟩,turn⟩:=q s2.heap.objs.size hD
 refine wpAny_newObj_type ?_
 have I3:Inv X pins σ (upd H2 s2.heap.objs.size (.lst [])) {s2 with heap:=s2.heap.push {cls:=.type "list",dict:=none,data:=.seq ([]:List Value).toArray}} :=
  I2.laid (a:=s2.heap.objs.size) (o:=.lst []) (t':=s2.toks) (λ b u e=>Heap.get?_push_of_some _ e) (Nat.le_refl _) ⟨Nat.zero_le _,[],0,.nil,Heap.get?_push_size _ rfl⟩
 generalize hs3:({s2 with heap:=s2.heap.push {cls:=.type "list",dict:=none,data:=.seq ([]:List Value).toArray}}:Shared)=s3 at I3
 have sz3:s3.heap.objs.size=s2.heap.objs.size+1:=by rw[<-hs3,Heap.size_push]
 have old3:∀ b u,s2.heap.get? b=some u->s3.heap.get? b=some u:=λ b u e=>by rw[<-hs3];exact Heap.get?_push_of_some _ e
 generalize hH3:upd H2 s2.heap.objs.size (.lst [])=H3 at I3 w0
 have fp2:∀ b∈fp,b<s2.heap.objs.size:=λ b hb=>by
  obtain⟨o,e,_⟩:=T.obj _ _ st2 b hb
  exact Heap.lt_size e
 have hfp:∀ b∈fp,dU X pins H3 b/\b<s3.heap.objs.size:=λ b hb=>by
  refine⟨⟨?_,(f2 b hb).2⟩,by rw[sz3];exact Nat.lt_succ_of_lt (fp2 b hb)⟩
  rw[<-hH3,al (Nat.ne_of_lt (fp2 b hb))]
  exact (f2 b hb).1
 refine wpAny_newFunctionEnv O.nocell' (by intro y hy;simp at hy) (λ h₁ hns₁ hsb₁=>?_) O.kind
 have old:∀ b o,s3.heap.get? b=some o->h₁.get? b=some o:=λ b o e=>hsb₁.extBut b o (Nat.ne_of_lt (Heap.lt_size e)) (Heap.get?_push_of_some _ e)
 have dk:Inv (aI X (cG xs ts) scope cl s3.heap.objs.size s3 H3 fp) [] (List.replicate xs.length none++bM σ (bL ts)) H3 {s3 with heap:=h₁,toks:=s3.toks+0}:=jj O I3 hfp hns₁ old
 have st4:tn 0 h₁:=T.keep _ _ _ st2 λ b hb o e=>old b o (old3 b o e)
 have okX:∀ {H':Hp},(∀ b∈fp,H' b=none)->∀ b∈fp,dU (aI X (cG xs ts) scope cl s3.heap.objs.size s3 H3 fp) [] H' b:=λ hn b hb=>by
  refine⟨hn b hb,Nat.ne_of_lt (hfp b hb).2,λ z=>?_,.inl hb,λ y c e=>(f2 b hb).2.2.2.2.1 y c (O.sub y c e),λ p hp=>absurd (show p∈([]:List (Addr×Obj)) from hp) (by simp)⟩
  rcases List.mem_cons.mp (I3.stkSub b z) with e | e
  ·exact (f2 b hb).2.1 e
  ·exact (f2 b hb).2.2.1 e
 have loop:∀ s₄:Shared,s₄={s3 with heap:=h₁,toks:=s3.toks+0} ->
   codeAny (model X.prog X.w) X.A (.compLoop (.ListComp elt [⟨tg,iter,ifs,0⟩] scope pos) 0 (.ref it) (.ref s2.heap.objs.size) (compEnvC scope cl s3.heap.objs.size X.env))
    (compPost (model X.prog X.w) X.A X.xe use QV (.ref s2.heap.objs.size) s3.heap.objs.size) s₄:=by
  rintro s₄ rfl
  refine nM (λ n s'=>∃ i ys σ0 H',σ0.length=xs.length/\Inv (aI X (cG xs ts) scope cl s3.heap.objs.size s3 H3 fp) [] (σ0++bM σ (bL ts)) H' s'/\tn i s'.heap/\(∀ b∈fp,H' b=none)/\W i n ys H') ?_ m0
   ⟨0,[],_,H3,by simp,dk,st4,λ b hb=>(hfp b hb).1.1,w0⟩
  rintro n s5 ⟨i,ys,σ0,H5,l0,I5,st5,fr5,w5⟩
  rcases turn i n ys H5 w5 with ⟨stop,qn⟩ | ⟨go,step⟩
  ·refine thn (T.done (aI X (cG xs ts) scope cl s3.heap.objs.size s3 H3 fp) rfl rfl rfl hc i [] s5 (σ0++bM σ (bL ts)) H5 _ I5 (okX fr5) st5 stop) λ r s6 ⟨hr,I6⟩=>?_
   subst hr
   obtain⟨m,hn,_⟩:=id I6.loc
   have u6:Un (frs X.stack) fp H3 H5 s3.heap s6.heap:=I6.base
   have fC:H5 s3.heap.objs.size=none:=I6.free
   exact fin s2.heap.objs.size s3.heap.objs.size s6 H5 (I3.call' (s':=s6) (ch:=fp) I6.os u6 I6.hok I6.bare (λ b hb=>⟨(f2 b hb).2.2.2.1,(f2 b hb).2.1,(f2 b hb).2.2.2.2.1,(f2 b hb).2.2.2.2.2⟩))
    (I3.fpOk (Nat.le_refl _) fC) ⟨m,hn⟩ qn
  ·refine thn (T.item (aI X (cG xs ts) scope cl s3.heap.objs.size s3 H3 fp) rfl rfl rfl hc i [] s5 (σ0++bM σ (bL ts)) H5 _ I5 (okX fr5) st5 go) λ r s6 ⟨u,hr,h6⟩=>?_
   subst hr
   refine thn h6 λ _ s7 ⟨z,H7,I7,rz,yz,st7,fr7⟩=>?_
   have I7':=I7.pinned (okX fr7) (T.obj _ _ st7)
   refine thn (hg s3.heap.objs.size s3 H3 fp _ s7 _ H7 z u _ I7' rz (step z H7 σ0 yz l0)) λ _ s8 ⟨σ8,H8,I8,⟨σ1,l1,e8⟩,q8⟩=>?_
   subst e8
   refine thn (ht s3.heap.objs.size s3 H3 fp _ s8 _ H8 _ I8 q8) λ b s9 ⟨H9,I9,q9⟩=>?_
   cases b with
   | true =>
    rw[if_pos rfl] at q9 ⊢
    refine thn (he s3.heap.objs.size s3 H3 fp _ s9 _ H9 _ I9 q9) λ y s10 ⟨vy,H10,I10,ry,hD9,hl9,m',hm',w9⟩=>?_
    refine thn (eO (X:=aI X (cG xs ts) scope cl s3.heap.objs.size s3 H3 fp) _ s10 _ H10 (.ref s2.heap.objs.size) [vy] (.ref s2.heap.objs.size) [y] (λ _ H11=>H11=upd H10 s2.heap.objs.size (.lst (ys++[vy]))) I10 rfl (.cons ry .nil) ⟨_,ys,vy,rfl,rfl,hD9,hl9,rfl⟩) λ _ s11 ⟨_,H11,I11,_,e11⟩=>?_
    subst e11
    refine⟨m',hm',i+1,ys++[vy],σ1,_,l1,I11.unpinned,T.keep _ _ _ st7 λ b hb o e=>(I11.pin (b,o) (List.mem_append_right _ (List.mem_append_right _ (bg hb e)))).1,λ b hb=>?_,w9⟩
    obtain⟨o,e,d⟩:=T.obj _ _ st7 b hb
    exact (I11.pin (b,o) (List.mem_append_right _ (List.mem_append_right _ (bg hb e)))).2.1
   | false =>
    rw[if_neg Bool.false_ne_true] at q9 ⊢
    obtain⟨m',hm',w9⟩:=q9
    refine⟨m',hm',i+1,ys,σ1,_,l1,I9.unpinned,T.keep _ _ _ st7 λ b hb o e=>(I9.pin (b,o) (List.mem_append_right _ (List.mem_append_right _ (bg hb e)))).1,λ b hb=>?_,w9⟩
    obtain⟨o,e,d⟩:=T.obj _ _ st7 b hb
    exact (I9.pin (b,o) (List.mem_append_right _ (List.mem_append_right _ (bg hb e)))).2.1
 have hst:=codeAny_compStart_list (loop _ rfl) (T.self X.A 0 _ _ _ st4 (loop _ rfl))
 exact hst
theorem eI (hc:X.calm=true) (O:bP X xs ts scope cl) (hi:PI X tg iter wi) (hg:∀ C s3 H3 fp,PG (aI X (cG xs ts) scope cl C s3 H3 fp) tg g)
  (ht:∀ C s3 H3 fp,PIf (aI X (cG xs ts) scope cl C s3 H3 fp) ifs tt) (he:∀ C s3 H3 fp,PE (aI X (cG xs ts) scope cl C s3 H3 fp) elt te)
  (hs:∀ x,foldedSetIterable iter X.env x=pure x:=by intro _;rfl):PE X (.ListComp elt [⟨tg,iter,ifs,0⟩] scope pos) (mt wi g tt xs.length (bL ts) te):=by
 intro pins s σ H Q I h
 rw[eval_ListComp]
 refine ma (use:=none) hc O hi hg ht he hs I h λ D C s6 H5 I6 fC ⟨m,hn⟩ q=>?_
 refine⟨m,hn,λ h' sb=>⟨.ref D,H5,?_,rfl,q⟩⟩
 exact I6.turned (it:=C) (t':=s6.toks) (λ b o hb e=>(sb.2 b hb).trans e) fC.1 fC.2.1 fC.2.2.2.1 fC.2.2.2.2.1 fC.2.2.2.2.2
theorem jt {i:Nat}{x:Str}{pos' sp:Pos} (hN:X.N.Nodup) (hix:X.N[i]? = some x) (hx:Loc X.env.scope x) (hc:X.calm=true) (O:bP X xs ts scope cl) (hi:PI X tg iter wi) (hg:∀ C s3 H3 fp,PG (aI X (cG xs ts) scope cl C s3 H3 fp) tg g)
  (ht:∀ C s3 H3 fp,PIf (aI X (cG xs ts) scope cl C s3 H3 fp) ifs tt) (he:∀ C s3 H3 fp,PE (aI X (cG xs ts) scope cl C s3 H3 fp) elt te)
  (hs:∀ x,foldedSetIterable iter X.env x=pure x:=by intro _;rfl) (hw:swapsWith (.ListComp elt [⟨tg,iter,ifs,0⟩] scope pos) (some (.Name x pos')) sp.line X.env=pure true:=by rfl)
  (hf:X.fn x=true∨X.env.scope.names.lookup x=some .local:=by first | exact .inl rfl | exact .inr rfl | assumption) :
  PS X (.Assign [.Name x pos'] (.ListComp elt [⟨tg,iter,ifs,0⟩] scope pos) sp) (xN (mt wi g tt xs.length (bL ts) te) (cr i)):=by
 intro pins s σ H D I h
 rw[exec_Assign_Name_used x pos' _ sp hw]
 refine wpAny_bind (wpAny_standAt (wpAny_bind ?_))
 show wpAny _ _ ((comprehension _ scope X.env _ (newList []) _ _ (some _)) >>= λ _=>pure ()) _ _ s
 refine wpAny_bind (ma (use:=some (assign (.Name x pos') X.env)) hc O hi hg ht he hs I h λ A C s6 H5 I6 fC ⟨m,hn⟩ q=>?_)
 obtain⟨o,es,ep,ho,r⟩:=id hn
 have onlyC:∀ b:Addr,b∈[C]->b=C:=λ b hb=>by simpa using hb
 have I6':=I6.pinned (fp:=[C]) (λ b hb=>onlyC b hb ▸ fC) (λ b hb=>by
  rw[onlyC b hb]
  exact⟨o,ho,λ v z=>by rw[r.1] at z;cases z⟩)
 refine wpAny_assign_Name (jB I6' hN hix hx (v:=.ref A) rfl (λ s7 I7=>?_) hf)
 have e7:s7.heap.get? C=some o:=(I7.pin (C,o) (List.mem_append_right _ (List.mem_append_right _ (bg (by simp) ho)))).1
 refine⟨m,⟨o,es,ep,e7,r⟩,λ h' sb=>wpAny_pure (wpAny_pure ⟨_,H5,?_,q⟩)⟩
 exact I7.unpinned.turned (it:=C) (t':=s7.toks) (λ b o hb e=>(sb.2 b hb).trans e) fC.1 fC.2.1 fC.2.2.2.1 fC.2.2.2.2.1 fC.2.2.2.2.2
end
theorem gx {X:Cx}{N':List Str}{scope:Scope}{cl:List (Str×Addr)}{C:Addr}{s3:Shared}{H3:Hp}{fp:List Addr}{pos:Pos}{es:List Expr}{k:Nat}{t:TGs}{n:Nat} (hc:X.calm=true) (h:PGs (aI X N' scope cl C s3 H3 fp) es t)
  (hn:(assignEach es (aI X N' scope cl C s3 H3 fp).env).length=n:=by rfl) (hst:(assignEach es (aI X N' scope cl C s3 H3 fp).env).findIdx? (·.1)=none:=by rfl):PG (aI X N' scope cl C s3 H3 fp) (.Tuple es k pos) (ux X.K n t):=fc hc h hn hst
theorem u9 {cs:List (Str×Addr)}:∀ (y:Str) (c:Addr),List.lookup y ([]:List (Str×Addr))=some c->cs.lookup y=some c:=λ _ _ h=>by cases h
end L2
namespace L2
open PySem PySem.Spec PyProof.Rows
section
variable {X:Cx}
def ym:V->List V->Hp->VK->Prop:=λ x vs H Q=>∃ (l:Addr) (xs:List V) (i:Int) (y:V),x=.ref l/\vs = [.int i,y]/\H l=some (.lst xs)/\0<=i/\i.toNat<=xs.length/\xs.length<sizeLine/\Q .non (upd H l (.lst (xs.take i.toNat++y::xs.drop i.toNat)))
theorem uu (l:Addr) (items:Array Value) (n:Nat) (x:Int) (u:Tok) (y:Value) (h0:0<=x) (h:x<2^63) (hs:items.size<=sizeLine):Meets (Builtin.«list.insert» {pos:=[Value.ref l,Value.int x u,y]}) λ x_1 R s =>
    s.heap.get? l=some {cls:=Value.type "list",data:=Data.seq items n} /\
     R (Except.ok (Flow.ret Value.none)) {s with heap:=s.heap.update l (Obj.mapSeq λ xs=>(xs.extract 0 (min x.toNat xs.size)).push y++xs.extract (min x.toNat xs.size))}:=by
 have hfit:¬(!Builtin.List.listFitsIndex x)=true:=by
  have:Builtin.List.listFitsIndex x=true:=by
   unfold Builtin.List.listFitsIndex
   simp
   omega
  rw[this];exact λ z=>nomatch z
 have M:=AutoSeq1.list_insert_list_int_val_1 l items n x u y hfit hs
 simp only[if_neg (show ¬ x<0 by omega)] at M
 exact M
theorem ud:MtM X "list.insert" ym:=by
 intro pins s σ H x vs v us Q I rx rv h
 obtain⟨l,xs,i,y,rfl,rfl,hH,h0,hi,hz,q⟩:=h
 cases rx
 cases rv with
 | cons r1 rr =>
  obtain⟨t,rfl⟩:=r1
  obtain⟨u,rfl,ru⟩:=aM.one rr
  obtain⟨z,its,n,r,hl,e⟩:=I.lstM hH
  have hsz:its.toArray.size<=sizeLine:=by rw[List.size_toArray];omega
  have hb:i<2^63:=by
   have:sizeLine=2^24:=rfl
   omega
  refine call_meets F.slot_list_insert ⟨_,e,rfl⟩ F.entry_list_insert (F.args_list_insert_3 (.ref l) (.int i t) u) (uu l its.toArray n i t u h0 hb hsz) ⟨e,?_⟩
  refine⟨.non,_,I.lset (its':=its.take i.toNat++u::its.drop i.toNat) hH e ?_ ((r.take _).append (.cons ru (r.drop _))) ?_,rfl,q⟩
  ·have g:min i.toNat its.length=i.toNat:=by omega
   simp [g]
   exact List.take_of_length_le (by simp)
  ·simp;omega
end
end L2
namespace L2
open PySem PySem.Spec PyProof.Rows
section
variable {X:Cx}
def Smk (i:Int):Prop:=i.natAbs<2^8900
theorem Smk.bits {i:Int} (h:Smk i):Builtin.Int.intBits i<=8900:=intBits_le_iff.mpr h
theorem uc {i j:Int} (hi:Smk i) (hj:Smk j):IntMulOk i j:=by
 have h1:=hi.bits
 have h2:=hj.bits
 unfold IntMulOk Builtin.Int.intTooBig
 intro h
 have h4:=of_decide_eq_true (Bool.and_eq_true_iff.mp h).2
 rw[bitsLine_eq] at h4
 omega
theorem wz {i j:Int} (hj:Smk j):Builtin.divisionGoesByPylong i j=false:=by
 refine PyProof.noPylong_of_log2 ?_
 by_cases h0:j.natAbs=0
 ·rw[h0];decide +kernel
 ·have h:j.natAbs.log2<8900:=(Nat.log2_lt h0).mpr hj
  omega
theorem bB:OpR X (binaryOp .Mult) (rI (λ i j=>Smk i/\Smk j) λ i j=>.int (i*j)):=opI λ _ _ _ _ _ _ _ hc q=>mul_int q (uc hc.1 hc.2)
theorem eL:OpR X (binaryOp .FloorDiv) (rI (λ _ j=>j≠0/\Smk j) λ i j=>.int (i.fdiv j)):=opI λ _ _ _ _ _ _ _ hc q=>floordiv_int hc.1 q (.inl (wz hc.2))
end
section
variable {X:Cx}{N':List Str}{scope:Scope}{cl:List (Str×Addr)}{C:Addr}{s3:Shared}{H3:Hp}{fp:List Addr}
theorem dI:IxR (aI X N' scope cl C s3 H3 fp) (AA X.K):=bf
theorem si:IxR (aI X N' scope cl C s3 H3 fp) (yl X.K):=aq
end
theorem Rd.same {H H':Hp}{a:Addr}{u:HO} (e:ak H H') (h:Rd H a u):Rd H' a u:=by
 rcases h with h | ⟨o,h⟩
 ·exact .inl (e a _ h)
 ·exact .inr ⟨o,e a _ h⟩
theorem ak.tup {K:PySem.W.Frag}{H H':Hp}{a:Addr}{xs:List V} (e:ak H H') (h:SqT K H a xs):SqT K H' a xs:=by
 rcases h with h | h
 ·exact .inl (h.same e)
 ·exact .inr h
theorem aT {H1 H2:Hp}{D:Addr}{o:HO} (h:ak H1 H2) (hD:H1 D=none):ak H1 (upd H2 D o):=λ b u e=>by
 rw[al (aC e hD)];exact h b u e
theorem pE {lo:Int}{n:Nat}{te:TE}{st:St}{H1:Hp}{Q:VK}{D:Addr} (f:Nat->V) (hD:H1 D=none) (hn:n<=sizeLine)
  (hs:∀ (i:Nat) (H2:Hp) (k:VK),i<n->ak H1 H2->(∀ H4,ak H2 H4->k (f i) H4)->te (some (.int (lo+i))::st) H2 k)
  (hd:∀ H2,ak H1 H2->H2 D=some (.lst ((List.range n).map f))->Q (.ref D) H2):eW (Itr lo n) (cr 0) kG te 1 st D H1 Q:=by
 refine⟨λ i m ys H2=>m=n-i/\i<=n/\ys=(List.range i).map f/\ak H1 H2/\H2 D=some (.lst ys),⟨n,by simp,Nat.zero_le _,rfl,aT (ak.refl H1) hD,ad⟩,?_⟩
 rintro i m ys H2 ⟨rfl,hi,rfl,sm,e⟩
 by_cases hlt:i<n
 ·refine .inr ⟨hlt,?_⟩
  rintro x H3 σ0 ⟨rfl,rfl⟩ l0
  obtain⟨a,rfl⟩:∃ a,σ0 = [a]:=by
   match σ0,l0 with
   | [a],_=>exact⟨a,rfl⟩
  refine⟨⟨[some (.int (lo+i))],rfl,rfl⟩,?_⟩
  have ln:((List.range i).map f).length=i:=by rw[List.length_map,List.length_range]
  refine hs i _ _ hlt sm λ H4 s4=>⟨s4 _ _ e,by rw[ln];omega,n-(i+1),by omega,rfl,hlt,?_,aT (sm.trans s4) hD,ad⟩
  rw[List.range_succ,List.map_append]<;>rfl
 ·have ei:i=n:=by omega
  subst ei
  exact .inl ⟨Nat.le_refl _,hd _ sm e⟩
end L2
namespace L2
open PySem PySem.Spec PyProof.Rows
mutual
def eh:Th->Th->Bool
 | .int i,.int j=>i == j
 | .str x,.str y=>x == y
 | .non,.non=>true
 | .tup ts,.tup us=>fA ts us
 | .lst ts,.lst us=>fA ts us
 | _,_=>false
def fA:List Th->List Th->Bool
 | [],[]=>true
 | t::ts,u::us=>eh t u && fA ts us
 | _,_=>false
end
mutual
def bu:Th->Th->Bool
 | .int _,.int _=>true
 | .str _,.str _=>true
 | .non,.non=>true
 | .tup ts,.tup us=>dN ts us
 | .lst ts,.lst us=>dN ts us && ts.length == us.length
 | _,_=>false
def dN:List Th->List Th->Bool
 | t::ts,u::us=>bu t u && dN ts us
 | _,_=>true
end
theorem i7:∀ {ts us:List Th}{j:Nat}{t u:Th},dN ts us=true->ts[j]? = some t->us[j]? = some u->bu t u=true
 | t0::ts,u0::us,0,t,u,h,e1,e2=>by
  rw[List.getElem?_cons_zero] at e1 e2
  cases e1;cases e2
  simp only[dN,Bool.and_eq_true] at h
  exact h.1
 | t0::ts,u0::us,j+1,t,u,h,e1,e2=>by
  rw[List.getElem?_cons_succ] at e1 e2
  simp only[dN,Bool.and_eq_true] at h
  exact i7 h.2 e1 e2
def fB (ts us:List Th) (j:Nat):Bool:=match ts[j]?,us[j]? with
 | some t,some u=>eh t u
 | _,_=>true
theorem i5:∀ (ts us:List Th),((List.range (min ts.length us.length)).all (fB ts us) && ts.length == us.length)=fA ts us
 | [],[]=>by simp [fA]
 | [],u::us=>by simp [fA]
 | t::ts,[]=>by simp [fA]
 | t::ts,u::us=>by
  have ih:=i5 ts us
  have e1:min (t::ts).length (u::us).length=min ts.length us.length+1:=by simp only[List.length_cons];omega
  have e2:((t::ts).length == (u::us).length)=(ts.length == us.length):=by
   simp only[List.length_cons]
   cases h:ts.length == us.length
   ·have:ts.length≠us.length:=by simpa using h
    simp;omega
   ·have:ts.length=us.length:=by simpa using h
    simp [this]
  rw[e1,e2,List.range_succ_eq_map,List.all_cons,List.all_map]
  have e3:fB (t::ts) (u::us) 0=eh t u:=by simp [fB]
  have e4:(fB (t::ts) (u::us) ∘ Nat.succ)=fB ts us:=by
   funext j
   simp [fB,Function.comp]
  rw[e3,e4,fA,<-ih,Bool.and_assoc]
mutual
theorem i6:∀ {t:Th},bu t t=true->eh t t=true
 | .int i,_=>by simp [eh]
 | .str x,_=>by simp [eh]
 | .non,_=>by simp [eh]
 | .tup ts,h=>by rw[bu] at h;rw[eh];exact gN h
 | .lst ts,h=>by rw[bu,Bool.and_eq_true] at h;rw[eh];exact gN h.1
 | .bl b,h=>by simp [bu] at h
 | .emp,h=>by simp [bu] at h
 | .dic,h=>by simp [bu] at h
theorem gN:∀ {ts:List Th},dN ts ts=true->fA ts ts=true
 | [],_=>by simp [fA]
 | t::ts,h=>by
  rw[dN,Bool.and_eq_true] at h
  rw[fA,Bool.and_eq_true]
  exact⟨i6 h.1,gN h.2⟩
end
theorem zj {i:Int}{u:Th} (c:bu (.int i) u=true):∃ j,u=.int j:=by cases u<;>first | exact⟨_,rfl⟩ | cases c
theorem y9 {i:Str}{u:Th} (c:bu (.str i) u=true):∃ j,u=.str j:=by cases u<;>first | exact⟨_,rfl⟩ | cases c
theorem zg {u:Th} (c:bu .non u=true):u=.non:=by cases u<;>first | rfl | cases c
theorem y8 {i:List Th}{u:Th} (c:bu (.tup i) u=true):∃ j,u=.tup j:=by cases u<;>first | exact⟨_,rfl⟩ | cases c
theorem zh {i:List Th}{u:Th} (c:bu (.lst i) u=true):∃ j,u=.lst j:=by cases u<;>first | exact⟨_,rfl⟩ | cases c
theorem Bo {b:Bool}{u:Th} (c:bu (.bl b) u=true):False:=by cases u<;>cases c
theorem zl {u:Th} (c:bu .emp u=true):False:=by cases u<;>cases c
theorem zm {u:Th} (c:bu .dic u=true):False:=by cases u<;>cases c
mutual
theorem Den.inj {H:Hp}:∀ {t u:Th}{v:V},bu t u=true->Den H t v->Den H u v->t=u
 | .bl _,u,v,c,d1,d2=>(Bo c).elim
 | .emp,u,v,c,d1,d2=>(zl c).elim
 | .dic,u,v,c,d1,d2=>(zm c).elim
 | .int i,u,v,c,d1,d2=>by
  obtain⟨j,rfl⟩:=zj c
  cases (show v=V.int i from d1);cases (show V.int i=V.int j from d2);rfl
 | .str i,u,v,c,d1,d2=>by
  obtain⟨j,rfl⟩:=y9 c
  cases (show v=V.str i from d1);cases (show V.str i=V.str j from d2);rfl
 | .non,u,v,c,d1,d2=>(zg c).symm
 | .tup ts,u,v,c,d1,d2=>by
  obtain⟨us,rfl⟩:=y8 c
  obtain⟨a1,xs,rfl,h1,e1⟩:=d1
  obtain⟨a2,ys,e0,h2,e2⟩:=d2
  cases e0
  rw[h1] at h2
  cases h2
  rw[bu] at c
  rw[bH.inj c e1 e2]
 | .lst ts,u,v,c,d1,d2=>by
  obtain⟨us,rfl⟩:=zh c
  obtain⟨a1,xs,rfl,h1,e1⟩:=d1
  obtain⟨a2,ys,e0,h2,e2⟩:=d2
  cases e0
  rw[h1] at h2
  cases h2
  rw[bu,Bool.and_eq_true] at c
  rw[bH.inj c.1 e1 e2]
theorem bH.inj {H:Hp}:∀ {ts us:List Th}{xs:List V},dN ts us=true->bH H ts xs->bH H us xs->ts=us
 | [],[],_,_,_,_=>rfl
 | [],u::us,xs,_,d1,d2=>by
  have e1:=d1.len
  have e2:=d2.len
  simp at e1 e2
  rw[e1] at e2
  simp at e2
 | t::ts,[],xs,_,d1,d2=>by
  have e1:=d1.len
  have e2:=d2.len
  simp at e1 e2
  rw[e2] at e1
  simp at e1
 | t::ts,u::us,xs,c,d1,d2=>by
  obtain⟨x,r,rfl,p1,q1⟩:=d1
  obtain⟨x',r',e,p2,q2⟩:=d2
  cases e
  rw[dN,Bool.and_eq_true] at c
  rw[Den.inj c.1 p1 p2,bH.inj c.2 q1 q2]
end
theorem pC {H:Hp}{ts us:List Th}{xs ys:List V}{vs ws:List Value} (d1:bH H ts xs) (d2:bH H us ys) (r1:aM xs vs) (r2:aM ys ws) (j:Nat) (h1:j<vs.toArray.size) (h2:j<ws.toArray.size) :
  ∃ t u v1 v2,ts[j]? = some t/\us[j]? = some u/\Den H t v1/\Den H u v2/\a8 v1 vs.toArray[j]/\a8 v2 ws.toArray[j]:=by
 have l1:j<ts.length:=by rw[<-d1.len,r1.length];simpa using h1
 have l2:j<us.length:=by rw[<-d2.len,r2.length];simpa using h2
 obtain⟨v1,e1,q1⟩:=d1.get (List.getElem?_eq_getElem l1)
 obtain⟨v2,e2,q2⟩:=d2.get (List.getElem?_eq_getElem l2)
 obtain⟨u1,f1,g1⟩:=r1.get e1
 obtain⟨u2,f2,g2⟩:=r2.get e2
 have k1:vs.toArray[j]=u1:=by
  have:vs[j]? = some vs.toArray[j]:=by simp
  rw[this] at f1;exact Option.some.inj f1
 have k2:ws.toArray[j]=u2:=by
  have:ws[j]? = some ws.toArray[j]:=by simp
  rw[this] at f2;exact Option.some.inj f2
 exact⟨_,_,v1,v2,List.getElem?_eq_getElem l1,List.getElem?_eq_getElem l2,q1,q2,by rw[k1];exact g1,by rw[k2];exact g2⟩
def Bz (H:Hp) (s:Shared) (n:Nat):Prop:=∀ (A:Around) (t u:Th) (v1 v2:V) (u1 u2:Value),dQ t<=n->A.units+n<cLine->bu t u=true->Den H t v1->Den H u v2->a8 v1 u1->a8 v2 u2->SeqAt.EqAt A s u1 u2 (eh t u)
theorem yZ {P:Program}{w:World}{H:Hp}{s:Shared} (hok:HOk P w H s.heap) {n:Nat} (ih:Bz H s n) {A:Around}{ts us:List Th}{v1 v2:V}{u1 u2:Value} (hd':cg ts<=n) (hu:A.units+(n+1)<cLine) (hc:bu (.tup ts) (.tup us)=true)
  (d1:Den H (.tup ts) v1) (d2:Den H (.tup us) v2) (r1:a8 v1 u1) (r2:a8 v2 u2):SeqAt.EqAt A s u1 u2 (eh (.tup ts) (.tup us)):=by
 by_cases hv:v1=v2
 ·subst hv
  have e:=Den.inj hc d1 d2
  cases e
  rw[i6 hc]
  obtain⟨a1,xs,rfl,h1,e1⟩:=d1
  cases (show u1=Value.ref a1 from r1);cases (show u2=Value.ref a1 from r2)
  exact SeqAt.EqAt.same _
 obtain⟨a1,xs,rfl,h1,e1⟩:=d1
 obtain⟨a2,ys,rfl,h2,e2⟩:=d2
 have hne:a1≠a2:=λ z=>hv (by rw[z])
 cases (show u1=Value.ref a1 from r1);cases (show u2=Value.ref a2 from r2)
 obtain⟨_,ws1,q1,g1⟩:=(show aN P w H s.heap a1 (.tup xs) from hok a1 _ h1)
 obtain⟨_,ws2,q2,g2⟩:=(show aN P w H s.heap a2 (.tup ys) from hok a2 _ h2)
 have z1:ws1.toArray.size=ts.length:=by rw[List.size_toArray,<-q1.length,e1.len]
 have z2:ws2.toArray.size=us.length:=by rw[List.size_toArray,<-q2.length,e2.len]
 rw[bu] at hc
 have h:=SeqAt.RcAt.tuples (A:=A) (s:=s) (e:=fB ts us) (show s.heap.IsTuple a1 ws1.toArray from g1) (show s.heap.IsTuple a2 ws2.toArray from g2) (by omega) λ j j1 j2=>by
  obtain⟨t,u,w1,w2,ht,hu',p1,p2,s1,s2⟩:=pC e1 e2 q1 q2 j j1 j2
  have e:fB ts us j=eh t u:=by unfold fB;rw[ht,hu']
  rw[e]
  exact ih A.in1 t u w1 w2 _ _ (by have:=bZ ht;omega) (by show A.units+1+n<cLine;omega) (i7 hc ht hu') p1 p2 s1 s2
 rw[z1,z2,i5] at h
 rw[eh]
 exact SeqAt.EqAt.of_refs hne h
theorem y0 {P:Program}{w:World}{H:Hp}{s:Shared} (hok:HOk P w H s.heap) {n:Nat} (ih:Bz H s n) {A:Around}{ts us:List Th}{v1 v2:V}{u1 u2:Value} (hd':cg ts<=n) (hu:A.units+(n+1)<cLine) (hc:bu (.lst ts) (.lst us)=true)
  (d1:Den H (.lst ts) v1) (d2:Den H (.lst us) v2) (r1:a8 v1 u1) (r2:a8 v2 u2):SeqAt.EqAt A s u1 u2 (eh (.lst ts) (.lst us)):=by
 by_cases hv:v1=v2
 ·subst hv
  have e:=Den.inj hc d1 d2
  cases e
  rw[i6 hc]
  obtain⟨a1,xs,rfl,h1,e1⟩:=d1
  cases (show u1=Value.ref a1 from r1);cases (show u2=Value.ref a1 from r2)
  exact SeqAt.EqAt.same _
 obtain⟨a1,xs,rfl,h1,e1⟩:=d1
 obtain⟨a2,ys,rfl,h2,e2⟩:=d2
 have hne:a1≠a2:=λ z=>hv (by rw[z])
 cases (show u1=Value.ref a1 from r1);cases (show u2=Value.ref a2 from r2)
 obtain⟨_,ws1,n1,q1,g1⟩:=(show aN P w H s.heap a1 (.lst xs) from hok a1 _ h1)
 obtain⟨_,ws2,n2,q2,g2⟩:=(show aN P w H s.heap a2 (.lst ys) from hok a2 _ h2)
 have z1:ws1.toArray.size=ts.length:=by rw[List.size_toArray,<-q1.length,e1.len]
 have z2:ws2.toArray.size=us.length:=by rw[List.size_toArray,<-q2.length,e2.len]
 rw[bu,Bool.and_eq_true] at hc
 have hl:ts.length=us.length:=by simpa using hc.2
 have h:=SeqAt.RcAt.lists (A:=A) (s:=s) (e:=fB ts us) (⟨_,g1,rfl,_,rfl⟩:s.heap.IsList a1 ws1.toArray) (⟨_,g2,rfl,_,rfl⟩:s.heap.IsList a2 ws2.toArray) (by rw[z1,z2,hl]) (by omega) λ j j1 j2=>by
  obtain⟨t,u,w1,w2,ht,hu',p1,p2,s1,s2⟩:=pC e1 e2 q1 q2 j j1 j2
  have e:fB ts us j=eh t u:=by unfold fB;rw[ht,hu']
  rw[e]
  exact ih A.in1 t u w1 w2 _ _ (by have:=bZ ht;omega) (by show A.units+1+n<cLine;omega) (i7 hc.1 ht hu') p1 p2 s1 s2
 have ha:=i5 ts us
 rw[hl,Nat.min_self,beq_self_eq_true,Bool.and_true] at ha
 rw[z1,hl,ha] at h
 rw[eh]
 exact SeqAt.EqAt.of_refs hne h
theorem eqQ {P:Program}{w:World}{H:Hp}{s:Shared} (hok:HOk P w H s.heap) (n:Nat):Bz H s n:=by
 induction n with
 | zero =>
  intro A t u v1 v2 u1 u2 hd hu hc d1 d2 r1 r2
  cases t with
  | int i=>cases u with
   | int j =>
    cases (show v1=V.int i from d1);cases (show v2=V.int j from d2)
    obtain⟨k1,rfl⟩:=(show ∃ k,u1=Value.int i k from r1)
    obtain⟨k2,rfl⟩:=(show ∃ k,u2=Value.int j k from r2)
    rw[eh]
    exact SeqAt.EqAt.int_int (A:=A) (s:=s) i k1 j k2
   | _=>simp [bu] at hc
  | str i=>cases u with
   | str j =>
    cases (show v1=V.str i from d1);cases (show v2=V.str j from d2)
    obtain⟨k1,rfl⟩:=(show ∃ k,u1=Value.str i k from r1)
    obtain⟨k2,rfl⟩:=(show ∃ k,u2=Value.str j k from r2)
    rw[eh]
    exact SeqAt.EqAt.str_str (A:=A) (s:=s) i k1 j k2
   | _=>simp [bu] at hc
  | non=>cases u with
   | non =>
    cases (show v1=V.non from d1);cases (show v2=V.non from d2)
    cases (show u1=Value.none from r1);cases (show u2=Value.none from r2)
    rw[eh]
    exact SeqAt.EqAt.same _
   | _=>simp [bu] at hc
  | tup ts=>simp [dQ] at hd
  | lst ts=>simp [dQ] at hd
  | bl b=>simp [bu] at hc
  | emp=>simp [bu] at hc
  | dic=>simp [bu] at hc
 | succ n ih =>
  intro A t u v1 v2 u1 u2 hd hu hc d1 d2 r1 r2
  cases t with
  | int i=>exact ih A _ u v1 v2 u1 u2 (by simp [dQ]) (by omega) hc d1 d2 r1 r2
  | str i=>exact ih A _ u v1 v2 u1 u2 (by simp [dQ]) (by omega) hc d1 d2 r1 r2
  | non=>exact ih A _ u v1 v2 u1 u2 (by simp [dQ]) (by omega) hc d1 d2 r1 r2
  | tup ts=>cases u with
   | tup us=>exact yZ hok ih (by simp [dQ] at hd;omega) hu hc d1 d2 r1 r2
   | _=>simp [bu] at hc
  | lst ts=>cases u with
   | lst us=>exact y0 hok ih (by simp [dQ] at hd;omega) hu hc d1 d2 r1 r2
   | _=>simp [bu] at hc
  | bl b=>simp [bu] at hc
  | emp=>simp [bu] at hc
  | dic=>simp [bu] at hc
section
variable {X:Cx}
end
theorem Am {cs:List (Str×Addr)}:∀ {l:List (Str×Addr)},(∀ p∈l,cs.lookup p.1=some p.2)->∀ (y:Str) (c:Addr),l.lookup y=some c->cs.lookup y=some c
 | [],_,y,c,h=>by cases h
 | p::l,k,y,c,h=>by
  rw[List.lookup_cons] at h
  by_cases e:(y == p.1)=true
  ·rw[e] at h
   have h':p.2=c:=Option.some.inj h
   have ey:y=p.1:=beq_iff_eq.mp e
   rw[ey,<-h']
   exact k p (List.mem_cons_self ..)
  ·have e':(y == p.1)=false:=Bool.eq_false_iff.mpr e
   rw[e'] at h
   exact Am (λ q hq=>k q (List.mem_cons_of_mem _ hq)) y c h
theorem xO {cs:List (Str×Addr)}{x1 x2:Str}{c1 c2:Addr} (h1:cs.lookup x1=some c1) (h2:cs.lookup x2=some c2):∀ (y:Str) (c:Addr),List.lookup y [(x1,c1),(x2,c2)]=some c->cs.lookup y=some c :=
 Am λ p hp=>by
  simp only[List.mem_cons,List.not_mem_nil,or_false] at hp
  rcases hp with rfl | rfl<;>assumption
theorem BN {cs:List (Str×Addr)}{x1 x2 x3:Str}{c1 c2 c3:Addr} (h1:cs.lookup x1=some c1) (h2:cs.lookup x2=some c2) (h3:cs.lookup x3=some c3):∀ (y:Str) (c:Addr),List.lookup y [(x1,c1),(x2,c2),(x3,c3)]=some c->cs.lookup y=some c :=
 Am λ p hp=>by
  simp only[List.mem_cons,List.not_mem_nil,or_false] at hp
  rcases hp with rfl | rfl | rfl<;>assumption
theorem fV {lo:Int}{n:Nat}{te:TE}{st:St}{H1:Hp}{Q:VK}{D:Addr} (R:Nat->List V->Hp->Prop) (hD:H1 D=none) (hn:n<=sizeLine) (h0:R 0 [] (upd H1 D (.lst [])))
  (hs:∀ (i:Nat) (ys:List V) (H2:Hp) (k:VK),i<n->ak H1 H2->H2 D=some (.lst ys)->R i ys H2->(∀ y H4,ak H2 H4->R (i+1) (ys++[y]) (upd H4 D (.lst (ys++[y])))->k y H4)->te (some (.int (lo+i))::st) H2 k)
  (hd:∀ ys H2,ak H1 H2->H2 D=some (.lst ys)->ys.length=n->R n ys H2->Q (.ref D) H2):nY (Itr lo n) te st D H1 Q:=by
 refine⟨λ i m ys H2=>m=n-i/\i<=n/\ys.length=i/\ak H1 H2/\H2 D=some (.lst ys)/\R i ys H2,⟨n,by simp,Nat.zero_le _,rfl,aT (ak.refl H1) hD,ad,h0⟩,?_⟩
 rintro i m ys H2 ⟨rfl,hi,hl,sm,e,r⟩
 by_cases hlt:i<n
 ·refine .inr ⟨hlt,?_⟩
  rintro x H3 ⟨rfl,rfl⟩
  refine hs i ys _ _ hlt sm e r λ y H4 s4 r4=>⟨s4 _ _ e,by omega,n-(i+1),by omega,rfl,hlt,by simp [hl],aT (sm.trans s4) hD,ad,r4⟩
 ·have ei:i=n:=by omega
  subst ei
  exact .inl ⟨Nat.le_refl _,hd ys H2 sm e hl r⟩
end L2
namespace L2
open PySem PySem.Spec PyProof.Rows
theorem kA {α:Type}{K:PySem.W.Frag}{a:Addr}{xs:List V}{te:TE}{tt:TT}{st:St}{H1:Hp}{Q:VK}{D:Addr} (ps:List α) (p:α->Bool) (R:α->V->V->Prop) (hD:H1 D=none) (q1:SqT K H1 a xs) (hl:xs.length=ps.length) (hn:xs.length<=sizeLine)
  (hx:∀ (i:Nat) (h:α),ps[i]? = some h->∃ b u v,xs[i]? = some (.ref b)/\H1 b=some (.tup [u,v])/\R h u v)
  (ht:∀ (h:α) (u v:V) (H2:Hp) (k:Bool->Hp->Prop),R h u v->ak H1 H2->(∀ H4,ak H2 H4->k (p h) H4)->tt (some u::some v::st) H2 k)
  (hs:∀ (h:α) (u v:V) (H2:Hp) (k:VK),R h u v->ak H1 H2->(∀ x H4,ak H2 H4->k x H4)->te (some u::some v::st) H2 k)
  (hd:∀ H2 ys,ak H1 H2->H2 D=some (.lst ys)->ys.length=(ps.filter p).length->Q (.ref D) H2):eW (Itt K a) (ux K 2 (ii (cr 0) (ii (cr 1) wV))) tt te 2 st D H1 Q:=by
 refine⟨λ i m zs H2=>m=xs.length-i/\i<=xs.length/\zs.length=((ps.take i).filter p).length/\ak H1 H2/\H2 D=some (.lst zs),⟨xs.length,by simp,Nat.zero_le _,by simp,aT (ak.refl H1) hD,ad⟩,?_⟩
 rintro i m zs H2 ⟨rfl,hi,hz,sm,e⟩
 by_cases hlt:i<xs.length
 ·have ex:xs[i]? = some xs[i]:=List.getElem?_eq_getElem hlt
  obtain⟨h,ep⟩:∃ h,ps[i]? = some h:=⟨_,List.getElem?_eq_getElem (show i<ps.length by omega)⟩
  obtain⟨b,u,v,e1,e2,r⟩:=hx i h ep
  refine .inr ⟨⟨xs,_,sm.tup q1,ex⟩,?_⟩
  rintro x H3 σ0 ⟨rfl,hx'⟩ l0
  have hx2:=hx' xs (sm.tup q1)
  rw[e1] at hx2
  cases hx2
  obtain⟨a',b',rfl⟩:∃ a b,σ0 = [a,b]:=by
   match σ0,l0 with
   | [a,b],_=>exact⟨a,b,rfl⟩
  refine⟨b,[u,v],rfl,SqT.of (sm _ _ e2),rfl,u,[v],rfl,v,[],rfl,rfl,⟨[some u,some v],rfl,rfl⟩,?_⟩
  have tk:ps.take (i+1)=ps.take i++[h]:=by rw[List.take_add_one,ep];rfl
  have ln:((ps.take i).filter p).length<=i:=Nat.le_trans (List.length_filter_le _ _) (by simp;omega)
  refine ht h u v _ _ r sm λ H4 s4=>?_
  cases hp:p h with
  | true =>
   rw[if_pos rfl]
   refine hs h u v _ _ r (sm.trans s4) λ y H5 s5=>⟨s5 _ _ (s4 _ _ e),by omega,xs.length-(i+1),by omega,rfl,hlt,?_,aT (sm.trans (s4.trans s5)) hD,ad⟩
   rw[tk,List.filter_append]
   simp [hp,hz]
  | false =>
   rw[if_neg Bool.false_ne_true]
   refine⟨xs.length-(i+1),by omega,rfl,hlt,?_,sm.trans s4,s4 _ _ e⟩
   rw[tk,List.filter_append]
   simp [hp,hz]
 ·have ei:i=xs.length:=by omega
  subst ei
  refine .inl ⟨⟨xs,sm.tup q1,Nat.le_refl _⟩,hd _ zs sm e ?_⟩
  rw[hz,List.take_of_length_le (by omega)]
theorem qG {α:Type}{K:PySem.W.Frag}{a:Addr}{xs:List V}{te:TE}{tt:TT}{st:St}{H1:Hp}{Q:VK}{D:Addr} (ps:List α) (p:α->Bool) (R:α->V->Prop) (hD:H1 D=none) (q1:SqL K H1 a xs) (hl:xs.length=ps.length) (hn:xs.length<=sizeLine)
  (hx:∀ (i:Nat) (h:α),ps[i]? = some h->∃ u,xs[i]? = some u/\R h u)
  (ht:∀ (h:α) (u:V) (H2:Hp) (k:Bool->Hp->Prop),R h u->ak H1 H2->(∀ H4,ak H2 H4->k (p h) H4)->tt (some u::st) H2 k)
  (hs:∀ (h:α) (u:V) (H2:Hp) (k:VK),R h u->ak H1 H2->(∀ x H4,ak H2 H4->k x H4)->te (some u::st) H2 k)
  (hd:∀ H2 ys,ak H1 H2->H2 D=some (.lst ys)->ys.length=(ps.filter p).length->Q (.ref D) H2):eW (Itl K a) (cr 0) tt te 1 st D H1 Q:=by
 refine⟨λ i m zs H2=>m=xs.length-i/\i<=xs.length/\zs.length=((ps.take i).filter p).length/\ak H1 H2/\H2 D=some (.lst zs),⟨xs.length,by simp,Nat.zero_le _,by simp,aT (ak.refl H1) hD,ad⟩,?_⟩
 rintro i m zs H2 ⟨rfl,hi,hz,sm,e⟩
 by_cases hlt:i<xs.length
 ·have ex:xs[i]? = some xs[i]:=List.getElem?_eq_getElem hlt
  obtain⟨h,ep⟩:∃ h,ps[i]? = some h:=⟨_,List.getElem?_eq_getElem (show i<ps.length by omega)⟩
  obtain⟨u,e1,r⟩:=hx i h ep
  refine .inr ⟨⟨xs,_,sm.seq q1,ex⟩,?_⟩
  rintro x H3 σ0 ⟨rfl,hx'⟩ l0
  have hx2:=hx' xs (sm.seq q1)
  rw[e1] at hx2
  cases hx2
  obtain⟨a',rfl⟩:∃ a,σ0 = [a]:=by
   match σ0,l0 with
   | [a],_=>exact⟨a,rfl⟩
  refine⟨⟨[some u],rfl,rfl⟩,?_⟩
  have tk:ps.take (i+1)=ps.take i++[h]:=by rw[List.take_add_one,ep];rfl
  have ln:((ps.take i).filter p).length<=i:=Nat.le_trans (List.length_filter_le _ _) (by simp;omega)
  refine ht h u _ _ r sm λ H4 s4=>?_
  cases hp:p h with
  | true =>
   rw[if_pos rfl]
   refine hs h u _ _ r (sm.trans s4) λ y H5 s5=>⟨s5 _ _ (s4 _ _ e),by omega,xs.length-(i+1),by omega,rfl,hlt,?_,aT (sm.trans (s4.trans s5)) hD,ad⟩
   rw[tk,List.filter_append]
   simp [hp,hz]
  | false =>
   rw[if_neg Bool.false_ne_true]
   refine⟨xs.length-(i+1),by omega,rfl,hlt,?_,sm.trans s4,s4 _ _ e⟩
   rw[tk,List.filter_append]
   simp [hp,hz]
 ·have ei:i=xs.length:=by omega
  subst ei
  refine .inl ⟨⟨xs,sm.seq q1,Nat.le_refl _⟩,hd _ zs sm e ?_⟩
  rw[hz,List.take_of_length_le (by omega)]
theorem uE {K:PySem.W.Frag}{l1 l2:Addr}{xs ys:List V}{te:TE}{st:St}{H1:Hp}{Q:VK}{D:Addr}{n:Nat} (R:Nat->List V->Hp->Prop) (hD:H1 D=none) (q1:SqL K H1 l1 xs) (q2:SqL K H1 l2 ys) (n1:n<=xs.length) (n2:n<=ys.length) (ne:xs.length=n∨ys.length=n) (hn:n<=sizeLine) (h0:R 0 [] (upd H1 D (.lst [])))
  (hs:∀ (i:Nat) (x y:V) (zs:List V) (H2 H3:Hp) (k:VK),i<n->xs[i]? = some x->ys[i]? = some y->ak H1 H2->ak H2 H3->H2 D=some (.lst zs)->R i zs H2->(∀ z H4,ak H3 H4->R (i+1) (zs++[z]) (upd H4 D (.lst (zs++[z])))->k z H4)->te (some x::some y::st) H3 k)
  (hd:∀ zs H2,ak H1 H2->H2 D=some (.lst zs)->zs.length=n->R n zs H2->Q (.ref D) H2):eW (Itz K l1 l2) (ux K 2 (ii (cr 0) (ii (cr 1) wV))) kG te 2 st D H1 Q:=by
 refine⟨λ i m zs H2=>m=n-i/\i<=n/\zs.length=i/\ak H1 H2/\H2 D=some (.lst zs)/\R i zs H2,⟨n,by simp,Nat.zero_le _,rfl,aT (ak.refl H1) hD,ad,h0⟩,?_⟩
 rintro i m zs H2 ⟨rfl,hi,hz,sm,e,r⟩
 by_cases hlt:i<n
 ·have ex:xs[i]? = some (xs[i]'(by omega)):=List.getElem?_eq_getElem (by omega)
  have ey:ys[i]? = some (ys[i]'(by omega)):=List.getElem?_eq_getElem (by omega)
  refine .inr ⟨⟨xs,ys,_,_,sm.seq q1,sm.seq q2,ex,ey⟩,?_⟩
  rintro v H3 σ0 ⟨T,x,y,fr,rfl,rfl,hx,hy⟩ l0
  have hx':=hx xs (sm.seq q1)
  have hy':=hy ys (sm.seq q2)
  obtain⟨a,b,rfl⟩:∃ a b,σ0 = [a,b]:=by
   match σ0,l0 with
   | [a,b],_=>exact⟨a,b,rfl⟩
  refine⟨T,[x,y],rfl,SqT.of ad,rfl,x,[y],rfl,y,[],rfl,rfl,⟨[some x,some y],rfl,rfl⟩,?_⟩
  have s3:ak H2 (upd H2 T (.tup [x,y])):=ai fr _
  exact hs i x y zs H2 _ _ hlt hx' hy' sm s3 e r λ z H4 s4 r4=>⟨s4 _ _ (s3 _ _ e),by omega,n-(i+1),by omega,rfl,hlt,by simp [hz],aT (sm.trans (s3.trans s4)) hD,ad,r4⟩
 ·have ei:i=n:=by omega
  subst ei
  refine .inl ⟨⟨xs,ys,sm.seq q1,sm.seq q2,?_⟩,hd zs H2 sm e hz r⟩
  rcases ne with z | z
  ·exact .inl (by omega)
  ·exact .inr (by omega)
theorem pF {lo:Int}{n:Nat}{te:TE}{tt:TT}{st:St}{H1:Hp}{Q:VK}{D:Addr} (p:Nat->Bool) (f:Nat->V) (hD:H1 D=none) (hn:n<=sizeLine)
  (ht:∀ (i:Nat) (H2:Hp) (k:Bool->Hp->Prop),i<n->ak H1 H2->(∀ H4,ak H2 H4->k (p i) H4)->tt (some (.int (lo+i))::st) H2 k)
  (hs:∀ (i:Nat) (H2:Hp) (k:VK),i<n->p i=true->ak H1 H2->(∀ H4,ak H2 H4->k (f i) H4)->te (some (.int (lo+i))::st) H2 k)
  (hd:∀ H2,ak H1 H2->H2 D=some (.lst (((List.range n).filter p).map f))->Q (.ref D) H2):eW (Itr lo n) (cr 0) tt te 1 st D H1 Q:=by
 refine⟨λ i m zs H2=>m=n-i/\i<=n/\zs=((List.range i).filter p).map f/\ak H1 H2/\H2 D=some (.lst zs),⟨n,by simp,Nat.zero_le _,rfl,aT (ak.refl H1) hD,ad⟩,?_⟩
 rintro i m zs H2 ⟨rfl,hi,rfl,sm,e⟩
 by_cases hlt:i<n
 ·refine .inr ⟨hlt,?_⟩
  rintro x H3 σ0 ⟨rfl,rfl⟩ l0
  obtain⟨a,rfl⟩:∃ a,σ0 = [a]:=by
   match σ0,l0 with
   | [a],_=>exact⟨a,rfl⟩
  refine⟨⟨[some (.int (lo+i))],rfl,rfl⟩,?_⟩
  refine ht i _ _ hlt sm λ H4 s4=>?_
  have ln:(((List.range i).filter p).map f).length<=i:=by
   rw[List.length_map];exact Nat.le_trans (List.length_filter_le _ _) (by simp)
  cases hp:p i with
  | true =>
   rw[if_pos rfl]
   refine hs i _ _ hlt hp (sm.trans s4) λ H5 s5=>⟨s5 _ _ (s4 _ _ e),by omega,n-(i+1),by omega,rfl,hlt,?_,aT (sm.trans (s4.trans s5)) hD,ad⟩
   rw[List.range_succ,List.filter_append,List.map_append]
   simp [hp]
  | false =>
   rw[if_neg Bool.false_ne_true]
   refine⟨n-(i+1),by omega,rfl,hlt,?_,sm.trans s4,s4 _ _ e⟩
   rw[List.range_succ,List.filter_append,List.map_append]
   simp [hp]
 ·have ei:i=n:=by omega
  subst ei
  exact .inl ⟨Nat.le_refl _,hd _ sm e⟩
theorem nL {lo:Int}{n:Nat}{te:TE}{st:St}{H1:Hp}{Q:VK}{D:Addr} (R:Nat->List V->Hp->Prop) (hD:H1 D=none) (hn:n<=sizeLine) (h0:R 0 [] (upd H1 D (.lst [])))
  (hs:∀ (i:Nat) (ys:List V) (H2:Hp) (k:VK),i<n->ak H1 H2->H2 D=some (.lst ys)->R i ys H2->(∀ y H4,ak H2 H4->R (i+1) (ys++[y]) (upd H4 D (.lst (ys++[y])))->k y H4)->te (some (.int (lo+i))::st) H2 k)
  (hd:∀ ys H2,ak H1 H2->H2 D=some (.lst ys)->ys.length=n->R n ys H2->Q (.ref D) H2):eW (Itr lo n) (cr 0) kG te 1 st D H1 Q:=by
 refine⟨λ i m ys H2=>m=n-i/\i<=n/\ys.length=i/\ak H1 H2/\H2 D=some (.lst ys)/\R i ys H2,⟨n,by simp,Nat.zero_le _,rfl,aT (ak.refl H1) hD,ad,h0⟩,?_⟩
 rintro i m ys H2 ⟨rfl,hi,hl,sm,e,r⟩
 by_cases hlt:i<n
 ·refine .inr ⟨hlt,?_⟩
  rintro x H3 σ0 ⟨rfl,rfl⟩ l0
  obtain⟨a,rfl⟩:∃ a,σ0 = [a]:=by
   match σ0,l0 with
   | [a],_=>exact⟨a,rfl⟩
  refine⟨⟨[some (.int (lo+i))],rfl,rfl⟩,?_⟩
  exact hs i ys _ _ hlt sm e r λ y H4 s4 r4=>⟨s4 _ _ e,by omega,n-(i+1),by omega,rfl,hlt,by simp [hl],aT (sm.trans s4) hD,ad,r4⟩
 ·have ei:i=n:=by omega
  subst ei
  exact .inl ⟨Nat.le_refl _,hd ys H2 sm e hl r⟩
def BJ:TS:=λ _ _ _=>False
theorem rT {X:Cx}{st:Stmt}:PS X st BJ:=λ _ _ _ _ _ _ h=>h.elim
end L2
namespace L2
open PySem PySem.Spec PyProof.Rows
section
variable {prog:Program}{w:World}{A:Around}{E:Value->Shared->Prop}{s:Shared}
theorem gJ {j tu:Addr}{i:Nat}{its:Array Value}{v:Value}{Q:Value->Shared->Prop} (hj:s.heap.IsTupleIter j tu i) (ht:s.heap.IsTuple tu its) (hv:its[i]? = some v)
  (k:∀ g,g.IsTupleIter j tu (i+1)->Heap.SameBut j s.heap g->Q v {s with heap:=g}):wpAny (model prog w) A (Builtin.SmallTypes.nextOf (.ref j)) Q E s:=by
 obtain⟨oj,ej,cj,dj⟩:=id hj
 obtain⟨ot,et,_,nt,dt⟩:=ht
 unfold Builtin.SmallTypes.nextOf
 refine (wpAny_bind (wpAny_callSpecial?_slot (name:=Str.ofString "__next__") hj.typeIs F.slot_tuple_iterator_next (wpAny_call_entry F.slot_tuple_iterator_next hj.typeIs F.entry_tuple_iterator_next ?_ (F.args_tuple_iterator_next_1 _))))
 show wpAny _ _ (field (.ref j) 0 >>= _) _ _ s
 refine (wpAny_bind (wpAny_field ej dj (x:=.ref tu) rfl ?_))
 show wpAny _ _ (if (Value.ref tu == Value.none)=true then _ else _) _ _ s
 rw[if_neg (show ¬ ((Value.ref tu == Value.none)=true) from Bool.false_ne_true)]
 show wpAny _ _ (field (.ref j) 1 >>= _) _ _ s
 refine (wpAny_bind (wpAny_field ej dj (x:=.int i 0) rfl ?_))
 show wpAny _ _ (seqItems? (.ref tu) >>= _) _ _ s
 refine (wpAny_bind (wpAny_seqItems et dt ?_))
 simp only[Int.toNat_natCast,hv]
 refine (wpAny_bind (wpAny_setField ej dj (by simp) (wpAny_pure ⟨v,rfl,wpAny_pure (k _ ?_ (Heap.SameBut.update ..))⟩)))
 refine⟨_,Heap.get?_update_self _ ej (Obj.isFreed_of_fields (Obj.data_mapFields dj _)),(Obj.cls_mapFields ..).trans cj,?_⟩
 rw[Obj.data_mapFields dj]
 simp [rawInt]
theorem kX {j tu:Addr}{i:Nat}{its:Array Value}{Q:Value->Shared->Prop} (hh:A.handled=none) (hj:s.heap.IsTupleIter j tu i) (ht:s.heap.IsTuple tu its) (hv:its[i]? = none)
  (k:∀ g e,Heap.ExtBut j s.heap g->(∃ o,g.get? e=some o/\o.cls=.type "StopIteration")->E (.ref e) {s with heap:=g}):wpAny (model prog w) A (Builtin.SmallTypes.nextOf (.ref j)) Q E s:=by
 obtain⟨oj,ej,cj,dj⟩:=id hj
 obtain⟨ot,et,_,nt,dt⟩:=ht
 unfold Builtin.SmallTypes.nextOf
 refine (wpAny_bind (wpAny_callSpecial?_slot (name:=Str.ofString "__next__") hj.typeIs F.slot_tuple_iterator_next (wpAny_call_entry F.slot_tuple_iterator_next hj.typeIs F.entry_tuple_iterator_next ?_ (F.args_tuple_iterator_next_1 _))))
 show wpAny _ _ (field (.ref j) 0 >>= _) _ _ s
 refine (wpAny_bind (wpAny_field ej dj (x:=.ref tu) rfl ?_))
 show wpAny _ _ (if (Value.ref tu == Value.none)=true then _ else _) _ _ s
 rw[if_neg (show ¬ ((Value.ref tu == Value.none)=true) from Bool.false_ne_true)]
 show wpAny _ _ (field (.ref j) 1 >>= _) _ _ s
 refine (wpAny_bind (wpAny_field ej dj (x:=.int i 0) rfl ?_))
 show wpAny _ _ (seqItems? (.ref tu) >>= _) _ _ s
 refine (wpAny_bind (wpAny_seqItems et dt ?_))
 simp only[Int.toNat_natCast,hv]
 refine (wpAny_bind (wpAny_rule (wpAny_bind (wpAny_setField ej dj (by simp) ?_))))
 show wpAny _ _ (newExc (.type "StopIteration") [] >>= _) (_) _ _
 refine (wpAny_bind ?_)
 simp only[newExc,newTuple]
 refine (wpAny_bind (wpAny_newObj_type ?_ (by size_fits)))
 refine (wpAny_bind (m:=firstArgMember _ _) (wpAny_of_eq (a:=Value.none) (by first | rfl | (simp only[firstArgMember];rfl)) ?_))
 refine (wpAny_newObj_type ?_ (by size_fits))
 simp only[raiseNew]
 refine (wpAny_bind (wpAny_handled ?_))
 rw[show A.in1.handled=none from hh]
 refine (wpAny_bind (wpAny_pure (wpAny_throw ?_)))
 exact k _ _ (((Heap.SameBut.update ..).extBut.push _).push _) ⟨_,Heap.get?_push_size _ rfl,rfl⟩
theorem xD {z TI TO j1 j2 t1 t2:Addr}{k1 k2:Nat}{xs ys:Array Value}{u v c d:Value}{Q:Value->Shared->Prop} (ap:ZipApart z TI TO j1 j2 t1 t2) (hz:IsZip s.heap z TI TO .none) (hI:IsPair s.heap TI (.ref j1) (.ref j2)) (hO:IsPair s.heap TO c d)
  (i1:s.heap.IsTupleIter j1 t1 k1) (i2:s.heap.IsTupleIter j2 t2 k2) (q1:s.heap.IsTuple t1 xs) (q2:s.heap.IsTuple t2 ys) (hu:xs[k1]? = some u) (hv:ys[k2]? = some v)
  (k:∀ g,IsZip g z TI TO (rawInt s.heap.objs.size)->IsPair g TO u v->g.IsTupleIter j1 t1 (k1+1)->g.IsTupleIter j2 t2 (k2+1)->IsPair g s.heap.objs.size u v->g.objs.size=s.heap.objs.size+1 ->
   (∀ b o,b≠z->b≠TO->b≠j1->b≠j2->s.heap.get? b=some o->g.get? b=some o)->Q (.ref s.heap.objs.size) {s with heap:=g}) :
  wpAny (model prog w) A (Builtin.«zip.__next__» ⟨[.ref z],[]⟩) (λ f s'=>∃ r,f=.done (.ret r)/\Q r s') E s:=by
 show wpAny _ _ (field (.ref z) 2 >>= _) (_) _ _
 refine (wpAny_bind (wpAny_field hz rfl (x:=.bool false) rfl ?_))
 show wpAny _ _ (field (.ref z) 3 >>= _) (_) _ _
 refine (wpAny_bind (wpAny_field hz rfl (x:=.ref TI) rfl ?_))
 refine (wpAny_bind (wpAny_seqItems hI rfl ?_))
 show wpAny _ _ (Builtin.SmallTypes.ownedTupleIsFree (.ref z) >>= _) (_) _ _
 refine (wpAny_bind ?_)
 unfold Builtin.SmallTypes.ownedTupleIsFree
 refine (wpAny_bind (wpAny_field hz rfl (x:=.none) rfl (wpAny_pure ?_)))
 simp only[if_true]
 refine (wpAny_bind (wpAny_rule ?_))
 refine (wpAny_bind (wpAny_field hz rfl (x:=.ref TO) rfl ?_))
 refine (wpAny_bind (wpAny_setField_rec hz (by simp) λ g1 z1 s1=>?_))
 replace z1:IsZip g1 z TI TO .ellipsis:=z1
 refine (wpAny_bind ?_)
 simp only[List.zipIdx_cons,List.zipIdx_nil,List.forIn_cons,List.forIn_nil,id]
 refine (wpAny_bind (wpAny_bind (wpAny_onRaise ?_)))
 show wpAny _ _ (Builtin.SmallTypes.nextOf (.ref j1) >>= _) (_) _ _
 refine (wpAny_bind (gJ (i1.extBut s1.extBut ap.i1z) (q1.extBut s1.extBut ap.l1z) hu λ g2 n1 s2=>wpAny_pure ?_))
 have O2:IsPair g2 TO c d:=s2.extBut _ _ ap.TOi1 (s1.extBut _ _ ap.TOz hO)
 refine (wpAny_bind (wpAny_seqItems O2 rfl ?_))
 refine (wpAny_bind (wpAny_updateSeq_pair O2 λ g3 O3 s3=>?_))
 replace O3:IsPair g3 TO u d:=O3
 refine (wpAny_bind (wpAny_letGo (wpAny_pure ?_)))
 refine (wpAny_bind (wpAny_bind (wpAny_onRaise ?_)))
 show wpAny _ _ (Builtin.SmallTypes.nextOf (.ref j2) >>= _) (_) _ _
 refine (wpAny_bind (gJ (((i2.extBut s1.extBut ap.i2z).extBut s2.extBut ap.i12.symm).extBut s3.extBut ap.TOi2.symm) (((q2.extBut s1.extBut ap.l2z).extBut s2.extBut ap.l2i1).extBut s3.extBut ap.l2TO) hv λ g4 n2 s4=>wpAny_pure ?_))
 have O4:IsPair g4 TO u d:=s4.extBut _ _ ap.TOi2 O3
 refine (wpAny_bind (wpAny_seqItems O4 rfl ?_))
 refine (wpAny_bind (wpAny_updateSeq_pair O4 λ g5 O5 s5=>?_))
 replace O5:IsPair g5 TO u v:=O5
 refine (wpAny_bind (wpAny_letGo (wpAny_pure (wpAny_pure ?_))))
 refine (wpAny_bind (wpAny_seqItems O5 rfl ?_))
 refine (wpAny_bind (wpAny_newTuple ?_))
 have sz:g5.objs.size=s.heap.objs.size:=by rw[s5.1,s4.1,s3.1,s2.1,s1.1]
 have Z5:IsZip g5 z TI TO .ellipsis:=s5.extBut _ _ ap.TOz.symm (s4.extBut _ _ ap.i2z.symm (s3.extBut _ _ ap.TOz.symm (s2.extBut _ _ ap.i1z.symm z1)))
 have K5:∀ b o,b≠z->b≠TO->b≠j1->b≠j2->s.heap.get? b=some o->g5.get? b=some o:=λ b o b1 b2 b3 b4 e=>s5.extBut _ _ b2 (s4.extBut _ _ b4 (s3.extBut _ _ b2 (s2.extBut _ _ b3 (s1.extBut _ _ b1 e))))
 have I1:g5.IsTupleIter j1 t1 (k1+1):=((n1.extBut s3.extBut ap.TOi1.symm).extBut s4.extBut ap.i12).extBut s5.extBut ap.TOi1.symm
 have I2:g5.IsTupleIter j2 t2 (k2+1):=n2.extBut s5.extBut ap.TOi2.symm
 have zlt:z<g5.objs.size:=Heap.lt_size Z5
 show wpAny _ _ (Builtin.SmallTypes.ownedTupleHandOut (.ref z) (.ref g5.objs.size) >>= _) (_) _ _
 refine (wpAny_bind ?_)
 unfold Builtin.SmallTypes.ownedTupleHandOut
 have Z6:IsZip (g5.push {cls:=.type "tuple",data:=.seq #[u,v]}) z TI TO .ellipsis:=Heap.get?_push_of_some _ Z5
 refine (wpAny_bind (wpAny_setField_rec Z6 (by simp) λ g7 Z7 s7=>?_))
 replace Z7:IsZip g7 z TI TO (rawInt g5.objs.size):=Z7
 refine wpAny_setField_rec Z7 (by simp) λ g8 Z8 s8=>?_
 replace Z8:IsZip g8 z TI TO (rawInt g5.objs.size):=Z8
 have up:∀ b o,b≠z->g5.get? b=some o->g8.get? b=some o:=λ b o nb e=>s8.extBut _ _ nb (s7.extBut _ _ nb (Heap.get?_push_of_some _ e))
 have T8:IsPair g8 g5.objs.size u v:=s8.extBut _ _ (Nat.ne_of_gt zlt) (s7.extBut _ _ (Nat.ne_of_gt zlt) (Heap.get?_push_size _ rfl))
 have N8:g8.objs.size=g5.objs.size+1:=by rw[s8.1,s7.1,Heap.size_push]
 rw[sz] at Z8 T8 N8
 refine wpAny_pure ⟨_,rfl,?_⟩
 show Q (.ref g5.objs.size) _
 rw[sz]
 exact k g8 Z8 (up _ _ ap.TOz O5) (I1.at λ o e=>up _ o ap.i1z e) (I2.at λ o e=>up _ o ap.i2z e) T8 N8 λ b o b1 b2 b3 b4 e=>up b o b1 (K5 b o b1 b2 b3 b4 e)
theorem Ac {z TI TO j1 j2 t1 t2:Addr}{k1 k2:Nat}{xs ys:Array Value}{c d:Value}{Q:Fin->Shared->Prop} (hh:A.handled=none) (ap:ZipApart z TI TO j1 j2 t1 t2) (hz:IsZip s.heap z TI TO .none) (hI:IsPair s.heap TI (.ref j1) (.ref j2)) (hO:IsPair s.heap TO c d)
  (i1:s.heap.IsTupleIter j1 t1 k1) (i2:s.heap.IsTupleIter j2 t2 k2) (q1:s.heap.IsTuple t1 xs) (q2:s.heap.IsTuple t2 ys) (he:xs[k1]? = none∨ys[k2]? = none)
  (k:∀ g e,(∀ b o,b≠z->b≠TO->b≠j1->b≠j2->s.heap.get? b=some o->g.get? b=some o)->(∃ o,g.get? e=some o/\o.cls=.type "StopIteration")->E (.ref e) {s with heap:=g}) :
  wpAny (model prog w) A (Builtin.«zip.__next__» ⟨[.ref z],[]⟩) Q E s:=by
 show wpAny _ _ (field (.ref z) 2 >>= _) (_) _ _
 refine (wpAny_bind (wpAny_field hz rfl (x:=.bool false) rfl ?_))
 show wpAny _ _ (field (.ref z) 3 >>= _) (_) _ _
 refine (wpAny_bind (wpAny_field hz rfl (x:=.ref TI) rfl ?_))
 refine (wpAny_bind (wpAny_seqItems hI rfl ?_))
 show wpAny _ _ (Builtin.SmallTypes.ownedTupleIsFree (.ref z) >>= _) (_) _ _
 refine (wpAny_bind ?_)
 unfold Builtin.SmallTypes.ownedTupleIsFree
 refine (wpAny_bind (wpAny_field hz rfl (x:=.none) rfl (wpAny_pure ?_)))
 simp only[if_true]
 refine (wpAny_bind (wpAny_rule ?_))
 refine (wpAny_bind (wpAny_field hz rfl (x:=.ref TO) rfl ?_))
 refine (wpAny_bind (wpAny_setField_rec hz (by simp) λ g1 z1 s1=>?_))
 replace z1:IsZip g1 z TI TO .ellipsis:=z1
 refine (wpAny_bind ?_)
 simp only[List.zipIdx_cons,List.zipIdx_nil,List.forIn_cons,List.forIn_nil,id]
 refine (wpAny_bind (wpAny_bind (wpAny_onRaise ?_)))
 show wpAny _ _ (Builtin.SmallTypes.nextOf (.ref j1) >>= _) (_) _ _
 cases hu:xs[k1]? with
 | none =>
  refine (wpAny_bind (kX hh (i1.extBut s1.extBut ap.i1z) (q1.extBut s1.extBut ap.l1z) hu λ g2 e s2 he=>?_))
  obtain⟨oe,ho,hc⟩:=he
  have Z2:IsZip g2 z TI TO .ellipsis:=s2 _ _ ap.i1z.symm z1
  have nz:e≠z:=λ x=>by
   subst x
   rw[Z2] at ho
   cases ho
   simp at hc
  refine wpAny_setField_rec Z2 (by simp) λ g3 _ s3=>k g3 e (λ b o b1 _ b3 _ x=>s3.extBut _ _ b1 (s2 _ _ b3 (s1.extBut _ _ b1 x))) ⟨oe,s3.extBut _ _ nz ho,hc⟩
 | some u =>
  have hv:ys[k2]? = none:=by
   rcases he with q | q
   ·rw[hu] at q;cases q
   ·exact q
  refine (wpAny_bind (gJ (i1.extBut s1.extBut ap.i1z) (q1.extBut s1.extBut ap.l1z) hu λ g2 n1 s2=>wpAny_pure ?_))
  have O2:IsPair g2 TO c d:=s2.extBut _ _ ap.TOi1 (s1.extBut _ _ ap.TOz hO)
  refine (wpAny_bind (wpAny_seqItems O2 rfl ?_))
  refine (wpAny_bind (wpAny_updateSeq_pair O2 λ g3 O3 s3=>?_))
  refine (wpAny_bind (wpAny_letGo (wpAny_pure ?_)))
  refine (wpAny_bind (wpAny_bind (wpAny_onRaise ?_)))
  show wpAny _ _ (Builtin.SmallTypes.nextOf (.ref j2) >>= _) (_) _ _
  refine (wpAny_bind (kX hh (((i2.extBut s1.extBut ap.i2z).extBut s2.extBut ap.i12.symm).extBut s3.extBut ap.TOi2.symm) (((q2.extBut s1.extBut ap.l2z).extBut s2.extBut ap.l2i1).extBut s3.extBut ap.l2TO) hv λ g4 e s4 he=>?_))
  obtain⟨oe,ho,hc⟩:=he
  have Z4:IsZip g4 z TI TO .ellipsis:=s4 _ _ ap.i2z.symm (s3.extBut _ _ ap.TOz.symm (s2.extBut _ _ ap.i1z.symm z1))
  have nz:e≠z:=λ x=>by
   subst x
   rw[Z4] at ho
   cases ho
   simp at hc
  refine wpAny_setField_rec Z4 (by simp) λ g5 _ s5=>k g5 e (λ b o b1 b2 b3 b4 x=>s5.extBut _ _ b1 (s4 _ _ b4 (s3.extBut _ _ b2 (s2.extBut _ _ b3 (s1.extBut _ _ b1 x))))) ⟨oe,s5.extBut _ _ nz ho,hc⟩
theorem tj {z TI TO j1 j2 t1 t2:Addr}{k1 k2:Nat}{xs ys:Array Value}{u v c d:Value}{Q:Option Value->Shared->Prop} (ap:ZipApart z TI TO j1 j2 t1 t2) (hz:IsZip s.heap z TI TO .none) (hI:IsPair s.heap TI (.ref j1) (.ref j2)) (hO:IsPair s.heap TO c d)
  (i1:s.heap.IsTupleIter j1 t1 k1) (i2:s.heap.IsTupleIter j2 t2 k2) (q1:s.heap.IsTuple t1 xs) (q2:s.heap.IsTuple t2 ys) (hu:xs[k1]? = some u) (hv:ys[k2]? = some v)
  (k:∀ g,IsZip g z TI TO (rawInt s.heap.objs.size)->IsPair g TO u v->g.IsTupleIter j1 t1 (k1+1)->g.IsTupleIter j2 t2 (k2+1)->IsPair g s.heap.objs.size u v->g.objs.size=s.heap.objs.size+1 ->
   (∀ b o,b≠z->b≠TO->b≠j1->b≠j2->s.heap.get? b=some o->g.get? b=some o)->Q (some (.ref s.heap.objs.size)) {s with heap:=g}):wpAny (model prog w) A (pyNext (.ref z)) Q E s:=by
 have ty:s.TypeIs (.ref z) "zip":=⟨_,hz,rfl⟩
 unfold pyNext
 exact wpAny_bind (wpAny_attempt (wpAny_callSpecial?_slot (name:=Str.ofString "__next__") ty F.slot_zip_next (wpAny_call_entry F.slot_zip_next ty F.entry_zip_next (xD ap hz hI hO i1 i2 q1 q2 hu hv λ g a1 a2 a3 a4 a5 a6 a7=>wpAny_pure (k g a1 a2 a3 a4 a5 a6 a7)) (F.args_zip_next_1 _))))
theorem uP {z TI TO j1 j2 t1 t2:Addr}{k1 k2:Nat}{xs ys:Array Value}{c d:Value}{Q:Option Value->Shared->Prop} (hh:A.handled=none) (ap:ZipApart z TI TO j1 j2 t1 t2) (hz:IsZip s.heap z TI TO .none) (hI:IsPair s.heap TI (.ref j1) (.ref j2)) (hO:IsPair s.heap TO c d)
  (i1:s.heap.IsTupleIter j1 t1 k1) (i2:s.heap.IsTupleIter j2 t2 k2) (q1:s.heap.IsTuple t1 xs) (q2:s.heap.IsTuple t2 ys) (he:xs[k1]? = none∨ys[k2]? = none)
  (k:∀ g,(∀ b o,b≠z->b≠TO->b≠j1->b≠j2->s.heap.get? b=some o->g.get? b=some o)->Q none {s with heap:=g}):wpAny (model prog w) A (pyNext (.ref z)) Q E s:=by
 have ty:s.TypeIs (.ref z) "zip":=⟨_,hz,rfl⟩
 unfold pyNext
 refine (wpAny_bind (wpAny_attempt (wpAny_callSpecial?_slot (name:=Str.ofString "__next__") ty F.slot_zip_next (wpAny_call_entry F.slot_zip_next ty F.entry_zip_next (Ac hh ap hz hI hO i1 i2 q1 q2 he λ g e hk hs=>?_) (F.args_zip_next_1 _)))))
 obtain⟨o,ho,hc⟩:=hs
 refine (wpAny_bind (wpAny_isInstance (T:="StopIteration") (b:=true) ⟨o,ho,hc⟩ isSubtype_stop ?_))
 exact wpAny_pure (k _ hk)
abbrev zt1 (h:Heap) (a:Addr):Heap:=h.push {cls:=.type "tuple_iterator",data:=.fields #[.ref a,.int 0 0]}
abbrev zt2 (h:Heap) (a b:Addr):Heap:=(zt1 h a).push {cls:=.type "tuple_iterator",data:=.fields #[.ref b,.int 0 0]}
abbrev zt3 (h:Heap) (a b:Addr):Heap:=(zt2 h a b).push {cls:=.type "tuple",data:=.seq #[.ref h.objs.size,.ref (zt1 h a).objs.size]}
abbrev zt4 (h:Heap) (a b:Addr):Heap:=(zt3 h a b).push {cls:=.type "tuple",data:=.seq #[.none,.none]}
abbrev zt5 (h:Heap) (a b:Addr):Heap:=(zt4 h a b).push {cls:=.type "zip",data:=.fields #[.none,.bool false,.bool false,.ref (zt2 h a b).objs.size,.ref (zt3 h a b).objs.size]}
theorem Ab (a b:Addr) (xs ys:Array Value) :
  Meets (Builtin.«zip.__new__» ⟨[.type "zip",.ref a,.ref b],[]⟩) (λ _ R s=>s.heap.IsTuple a xs/\s.heap.IsTuple b ys/\R (.ok (.ret (.ref (zt4 s.heap a b).objs.size))) {s with heap:=zt5 s.heap a b}) :=
 .of_wp λ prog w A R s h=>by
  obtain⟨hp,g,dr,tk,os⟩:=s
  obtain⟨h1,h2,h⟩:=h
  have sub:=sub_zip
  have L1:Heap.IsTuple (Shared.heap ⟨hp,g,dr,tk,os⟩) a xs:=h1
  have L2:Heap.IsTuple (Shared.heap ⟨hp.push {cls:=.type "tuple_iterator",data:=.fields #[.ref a,.int 0 0]},g,dr,tk,os⟩) b ys:=Heap.IsTuple.push h2 _
  wp_walk using wpAny_pyIter_tuple L1,wpAny_pyIter_tuple L2
  exact⟨_,rfl,h⟩
theorem xE {a b:Addr}{xs ys:Array Value}{Q:Value->Shared->Prop} (h1:s.heap.IsTuple a xs) (h2:s.heap.IsTuple b ys)
  (k:∀ g,IsZip g (s.heap.objs.size+4) (s.heap.objs.size+2) (s.heap.objs.size+3) .none->IsPair g (s.heap.objs.size+2) (.ref s.heap.objs.size) (.ref (s.heap.objs.size+1))->IsPair g (s.heap.objs.size+3) .none .none ->
   g.IsTupleIter s.heap.objs.size a 0->g.IsTupleIter (s.heap.objs.size+1) b 0->(∀ c o,s.heap.get? c=some o->g.get? c=some o)->Q (.ref (s.heap.objs.size+4)) {s with heap:=g}) :
  wpAny (model prog w) A (call (.type "zip") [.ref a,.ref b]) Q E s:=by
 refine callType_new F.called_zip (by decide) (F.typeCall_zip_2 _ _) (F.newCall_zip_2 _ _) (λ o=>F.args_object_init_3 o _ _) F.entry_zip_new (Ab a b xs ys) ⟨h1,h2,?_⟩
 have z1:(zt1 s.heap a).objs.size=s.heap.objs.size+1:=Heap.size_push ..
 have z2:(zt2 s.heap a b).objs.size=s.heap.objs.size+2:=by rw[Heap.size_push,z1]
 have z3:(zt3 s.heap a b).objs.size=s.heap.objs.size+3:=by rw[Heap.size_push,z2]
 have z4:(zt4 s.heap a b).objs.size=s.heap.objs.size+4:=by rw[Heap.size_push,z3]
 have g5:(zt5 s.heap a b).get? (zt4 s.heap a b).objs.size=some _:=Heap.get?_push_size _ rfl
 have g4:(zt5 s.heap a b).get? (zt3 s.heap a b).objs.size=some _:=Heap.get?_push_of_some _ (Heap.get?_push_size _ rfl)
 have g3:(zt5 s.heap a b).get? (zt2 s.heap a b).objs.size=some _:=Heap.get?_push_of_some _ (Heap.get?_push_of_some _ (Heap.get?_push_size _ rfl))
 have g2:(zt5 s.heap a b).get? (zt1 s.heap a).objs.size=some _:=Heap.get?_push_of_some _ (Heap.get?_push_of_some _ (Heap.get?_push_of_some _ (Heap.get?_push_size _ rfl)))
 have g1:(zt5 s.heap a b).get? s.heap.objs.size=some _:=Heap.get?_push_of_some _ (Heap.get?_push_of_some _ (Heap.get?_push_of_some _ (Heap.get?_push_of_some _ (Heap.get?_push_size _ rfl))))
 show _/\_
 rw[z2,z3,z4] at g5
 rw[z1,z2] at g3
 rw[z3] at g4
 rw[z1] at g2
 rw[z4]
 exact⟨⟨_,g5,rfl⟩,k _ g5 g3 g4 ⟨_,g1,rfl,rfl⟩ ⟨_,g2,rfl,rfl⟩ λ c o x=>Heap.get?_push_of_some _ (Heap.get?_push_of_some _ (Heap.get?_push_of_some _ (Heap.get?_push_of_some _ (Heap.get?_push_of_some _ x))))⟩
end
def xA (K:PySem.W.Frag) (t1 t2:Addr):It :=
 ⟨λ i H=>∃ xs ys x y,SqT K H t1 xs/\SqT K H t2 ys/\xs[i]? = some x/\ys[i]? = some y,
  λ i H v H'=>∃ T x y,H T=none/\H'=upd H T (.tup [x,y])/\v=.ref T/\(∀ xs,SqT K H t1 xs->xs[i]? = some x)/\∀ ys,SqT K H t2 ys->ys[i]? = some y,
  λ i H=>∃ xs ys,SqT K H t1 xs/\SqT K H t2 ys/\(xs.length<=i∨ys.length<=i)⟩
def CW (z TI TO j1 j2 t1 t2:Addr) (i:Nat) (h:Heap):Prop :=
 IsZip h z TI TO Value.none/\IsPair h TI (.ref j1) (.ref j2)/\(∃ a b,IsPair h TO a b)/\h.IsTupleIter j1 t1 i/\h.IsTupleIter j2 t2 i
theorem kg {h:Heap}{l:Addr}{items:Array Value} (x:h.IsTuple l items):∃ o,h.get? l=some o/\o.cls=.type "tuple":=by
 obtain⟨o,e,c,_⟩:=x
 exact⟨o,e,c⟩
theorem tz {P:Program}{w:World}{K:PySem.W.Frag}{es:List Expr}{k0:Nat}{p0:Pos}{z TI TO i1 i2 l1 l2:Addr} (ap:ZipApart z TI TO i1 i2 l1 l2) :
  pK P w K (.Tuple es k0 p0) (xA K l1 l2) [z,TI,TO,i1,i2] z (CW z TI TO i1 i2 l1 l2) where
 mem:=by simp
 obj:=λ i h ⟨a,b,⟨c1,c2,c⟩,d,e⟩ x hx=>by
  simp only[List.mem_cons,List.not_mem_nil,or_false] at hx
  rcases hx with rfl | rfl | rfl | rfl | rfl
  ·exact⟨_,a,λ v q=>by cases q⟩
  ·exact⟨_,b,λ v q=>by cases q⟩
  ·exact⟨_,c,λ v q=>by cases q⟩
  ·obtain⟨o,e1,_,e2⟩:=d
   exact⟨o,e1,λ v q=>by rw[e2] at q;cases q⟩
  ·obtain⟨o,e1,_,e2⟩:=e
   exact⟨o,e1,λ v q=>by rw[e2] at q;cases q⟩
 keep:=λ i h h' ⟨a,b,⟨c1,c2,c⟩,d,e⟩ kk =>
  ⟨kk _ (by simp) _ a,kk _ (by simp) _ b,⟨c1,c2,kk _ (by simp) _ c⟩,d.at λ o q=>kk _ (by simp) o q,e.at λ o q=>kk _ (by simp) o q⟩
 item:=by
  intro X hP hw hK hc i pins s σ H E I hf st hg
  subst hP hw hK
  obtain⟨a,b,⟨c1,c2,c⟩,d,e⟩:=st
  obtain⟨xs,ys,x,y,q1,q2,x1,y1⟩:=hg
  obtain⟨its1,rv1,pl1,hz1⟩:=I.tuple q1
  obtain⟨its2,rv2,pl2,hz2⟩:=I.tuple q2
  obtain⟨u1,hu1,ru1⟩:=rv1.get x1
  obtain⟨u2,hu2,ru2⟩:=rv2.get y1
  refine tj ap a b c d e (show s.heap.IsTuple l1 its1.toArray from pl1) (show s.heap.IsTuple l2 its2.toArray from pl2) (u:=u1) (v:=u2) (by simpa using hu1) (by simpa using hu2) λ h' za zb zc zd ze zs zk=>?_
  refine⟨_,rfl,wpAny_letOwnedTupleGo_zip (s:={s with heap:=h'}) za λ h2 za2 sb=>?_⟩
  have kk:∀ b o,b ∉ [z,TI,TO,i1,i2]->s.heap.get? b=some o->h2.get? b=some o:=λ b o hb q=>by
   simp only[List.mem_cons,List.not_mem_nil,or_false,not_or] at hb
   exact (sb.2 b hb.1).trans (zk b o hb.1 hb.2.2.1 hb.2.2.2.1 hb.2.2.2.2 q)
  have szn:s.heap.objs.size≠z:=λ q=>by
   obtain⟨f0,_⟩:=hf z (by simp)
   exact absurd (Heap.lt_size a) (by rw[<-q];exact Nat.lt_irrefl _)
  have hT:h2.get? s.heap.objs.size=some {cls:=.type "tuple",data:=.seq #[u1,u2]}:=(sb.2 _ szn).trans ze
  have fr:H s.heap.objs.size=none:=I.hok.fresh (Nat.le_refl _)
  have I2:Inv X pins σ (upd H s.heap.objs.size (.tup [x,y])) {s with heap:=h2}:=I.turnLay (t':=s.toks) (fp:=[z,TI,TO,i1,i2]) kk hf (Nat.le_refl _)
   ⟨by show 2<=sizeLine;decide,[u1,u2],.cons ru1 (.cons ru2 .nil),⟨_,hT,rfl,_,rfl⟩⟩
  have kTI:h2.get? TI=some _:=(sb.2 TI ap.TIz).trans (zk TI _ ap.TIz ap.TITO ap.TIi1 ap.TIi2 b)
  refine⟨.ref s.heap.objs.size,_,I2,rfl,⟨_,x,y,fr,rfl,rfl,λ zs hz=>by rw[I.tuple_inj hz q1];exact x1,λ zs hz=>by rw[I.tuple_inj hz q2];exact y1⟩,
   ⟨za2,kTI,⟨_,_,(sb.2 TO ap.TOz).trans zb⟩,zc.at λ o q=>(sb.2 _ ap.i1z).trans q,zd.at λ o q=>(sb.2 _ ap.i2z).trans q⟩,λ b hb=>?_⟩
  have h0:=(hf b hb).1
  have hlt:b≠s.heap.objs.size:=λ q=>by
   subst q
   simp only[List.mem_cons,List.not_mem_nil,or_false] at hb
   rcases hb with q | q | q | q | q
   ·exact szn q
   ·exact absurd (Heap.lt_size b) (by rw[<-q];exact Nat.lt_irrefl _)
   ·exact absurd (Heap.lt_size c) (by rw[<-q];exact Nat.lt_irrefl _)
   ·obtain⟨o,e1,_⟩:=d
    exact absurd (Heap.lt_size e1) (by rw[<-q];exact Nat.lt_irrefl _)
   ·obtain⟨o,e1,_⟩:=e
    exact absurd (Heap.lt_size e1) (by rw[<-q];exact Nat.lt_irrefl _)
  rw[al hlt]
  exact h0
 done:=by
  intro X hP hw hK hc i pins s σ H E I hf st hg
  subst hP hw hK
  obtain⟨a,b,⟨c1,c2,c⟩,d,e⟩:=st
  obtain⟨xs,ys,q1,q2,hl⟩:=hg
  obtain⟨its1,rv1,pl1,hz1⟩:=I.tuple q1
  obtain⟨its2,rv2,pl2,hz2⟩:=I.tuple q2
  have g1:=rv1.length
  have g2:=rv2.length
  refine uP (I.ok.hd hc) ap a b c d e (show s.heap.IsTuple l1 its1.toArray from pl1) (show s.heap.IsTuple l2 its2.toArray from pl2) ?_ λ h' zk=>⟨rfl,I.turnedL (t':=s.toks) (fp:=[z,TI,TO,i1,i2]) (λ b o hb q=>?_) hf⟩
  ·rcases hl with q | q
   ·left;simp;omega
   ·right;simp;omega
  ·simp only[List.mem_cons,List.not_mem_nil,or_false,not_or] at hb
   exact zk b o hb.1 hb.2.2.1 hb.2.2.2.1 hb.2.2.2.2 q
 self:=λ _ _ _ _ _ st h=>wpAny_pyIter_zip st.1 h
def Ca (K:PySem.W.Frag) (ta:TA):TI:=λ σ H R=>ta σ H λ vs H1=>∃ a b,vs = [.ref a,.ref b]/\(∃ xs,SqT K H1 a xs)/\(∃ ys,SqT K H1 b ys)/\R (xA K a b) H1
theorem yq {X:Cx}{es:List Expr}{k0:Nat}{p0:Pos}{a b:Expr}{ta:TA}{p pos:Pos} (hg:Gl X "zip") (hm:X.mg "zip" = none) (ha:PA X [a,b] ta) (hs:starEach [a,b] X.env = [(false,eval a X.env),(false,eval b X.env)]:=by rfl) (hs2:starEach [b] X.env = [(false,eval b X.env)]:=by rfl) :
  PI X (.Tuple es k0 p0) (.Call (.Name "zip" p) [a,b] [] pos) (Ca X.K ta):=by
 intro pins s σ H R I h
 refine Call_ (fi I hg hm boot_zip (PyProof.Rows.callWith_type1 (thn (ha pos pins s σ H _ I h) λ us s1 ⟨vs,H1,I1,r1,q1⟩=>?_) (by rw[hs,hs2]) (by rw[hs2];rfl)))
 obtain⟨l1,l2,e,⟨xs,q1⟩,⟨ys,q2⟩,q⟩:=q1
 subst e
 cases r1 with
 | cons r rr =>
  cases rr with
  | cons r' rr =>
   cases rr
   cases r
   cases r'
   obtain⟨its1,rv1,pl1,hz1⟩:=I1.tuple q1
   obtain⟨its2,rv2,pl2,hz2⟩:=I1.tuple q2
   have T1:s1.heap.IsTuple l1 its1.toArray:=pl1
   have T2:s1.heap.IsTuple l2 its2.toArray:=pl2
   have lt1:l1<s1.heap.objs.size:=by obtain⟨o,e,_⟩:=kg T1;exact Heap.lt_size e
   have lt2:l2<s1.heap.objs.size:=by obtain⟨o,e,_⟩:=kg T2;exact Heap.lt_size e
   refine xE T1 T2 λ h' za zb zc zd ze zk=>?_
   refine wpAny_pyIter_zip (s:={s1 with heap:=h'}) za ?_
   have I2:Inv X pins σ H1 {s1 with heap:=h'}:=I1.kept (t':=s1.toks) λ b o e=>zk b o e
   refine⟨_,[_,_,_,_,_],_,_,H1,rfl,I2,tz (z:=s1.heap.objs.size+4) (TI:=s1.heap.objs.size+2) (TO:=s1.heap.objs.size+3) (i1:=s1.heap.objs.size) (i2:=s1.heap.objs.size+1) (l1:=l1) (l2:=l2) ?_,⟨za,zb,⟨_,_,zc⟩,zd,ze⟩,λ b hb=>?_,q⟩
   ·exact uR lt1 lt2
   ·simp only[List.mem_cons,List.not_mem_nil,or_false] at hb
    have ge:s1.heap.objs.size<=b:=by rcases hb with z | z | z | z | z<;>(subst z;first | exact Nat.le_add_right _ _ | exact Nat.le_refl _)
    exact I1.fpOk ge (I1.hok.fresh ge)
theorem xf {K:PySem.W.Frag}{l1 l2:Addr}{xs ys:List V}{g:TG}{tb:TS}{D:gC}{σ:St}{H:Hp}{n:Nat} (Pv:Nat->St->Hp->Prop) (h0:Pv 0 σ H) (n1:n<=xs.length) (n2:n<=ys.length) (ne:xs.length=n∨ys.length=n)
  (hl:∀ i σ H,i<=n->Pv i σ H->SqT K H l1 xs/\SqT K H l2 ys)
  (hs:∀ i x y T σ H,i<n->xs[i]? = some x->ys[i]? = some y->H T=none->Pv i σ H->g (.ref T) σ (upd H T (.tup [x,y])) λ σ2 H2=>tb {D with nx:=Pv (i+1),ct:=Pv (i+1),bk:=D.nx} σ2 H2) (hd:∀ σ H,Pv n σ H->D.nx σ H) :
  ∃ W:Nat->Nat->St->Hp->Prop,(∃ m,W 0 m σ H)/\∀ i m σ H,W i m σ H ->
   ((xA K l1 l2).stop i H/\D.nx σ H)∨((xA K l1 l2).go i H/\∃ N:St->Hp->Prop,(∀ σ' H',N σ' H'->∃ m',m'<m/\W (i+1) m' σ' H')/\∀ x H',(xA K l1 l2).yld i H x H'->g x σ H' λ σ2 H2=>tb {D with nx:=N,ct:=N,bk:=D.nx} σ2 H2):=by
 refine⟨λ i m σ H=>m=n-i/\i<=n/\Pv i σ H,⟨n,by simp,Nat.zero_le _,h0⟩,?_⟩
 rintro i m σ H ⟨rfl,hi,p⟩
 obtain⟨q1,q2⟩:=hl i σ H hi p
 by_cases hlt:i<n
 ·have ex:xs[i]? = some (xs[i]'(by omega)):=List.getElem?_eq_getElem (by omega)
  have ey:ys[i]? = some (ys[i]'(by omega)):=List.getElem?_eq_getElem (by omega)
  refine .inr ⟨⟨xs,ys,_,_,q1,q2,ex,ey⟩,Pv (i+1),λ σ' H' z=>⟨n-(i+1),by omega,rfl,hlt,z⟩,?_⟩
  rintro v H' ⟨T,x,y,fr,rfl,rfl,hx,hy⟩
  exact hs i x y T σ H hlt (hx xs q1) (hy ys q2) fr p
 ·have ei:i=n:=by omega
  subst ei
  refine .inl ⟨⟨xs,ys,q1,q2,?_⟩,hd σ H p⟩
  rcases ne with z | z
  ·exact .inl (by omega)
  ·exact .inr (by omega)
theorem xg {K:PySem.W.Frag}{l1 l2:Addr}{xs ys:List V}{g:TG}{tb:TS}{D:gC}{σ:St}{H:Hp}{n:Nat} (Pv:Nat->St->Hp->Prop) (h0:Pv 0 σ H) (n1:n<=xs.length) (n2:n<=ys.length) (ne:xs.length=n∨ys.length=n)
  (hl:∀ i σ H,i<=n->Pv i σ H->SqL K H l1 xs/\SqL K H l2 ys)
  (hs:∀ i x y T σ H,i<n->xs[i]? = some x->ys[i]? = some y->H T=none->Pv i σ H->g (.ref T) σ (upd H T (.tup [x,y])) λ σ2 H2=>tb {D with nx:=Pv (i+1),ct:=Pv (i+1),bk:=D.nx} σ2 H2) (hd:∀ σ H,Pv n σ H->D.nx σ H) :
  ∃ W:Nat->Nat->St->Hp->Prop,(∃ m,W 0 m σ H)/\∀ i m σ H,W i m σ H ->
   ((Itz K l1 l2).stop i H/\D.nx σ H)∨((Itz K l1 l2).go i H/\∃ N:St->Hp->Prop,(∀ σ' H',N σ' H'->∃ m',m'<m/\W (i+1) m' σ' H')/\∀ x H',(Itz K l1 l2).yld i H x H'->g x σ H' λ σ2 H2=>tb {D with nx:=N,ct:=N,bk:=D.nx} σ2 H2):=by
 refine⟨λ i m σ H=>m=n-i/\i<=n/\Pv i σ H,⟨n,by simp,Nat.zero_le _,h0⟩,?_⟩
 rintro i m σ H ⟨rfl,hi,p⟩
 obtain⟨q1,q2⟩:=hl i σ H hi p
 by_cases hlt:i<n
 ·have ex:xs[i]? = some (xs[i]'(by omega)):=List.getElem?_eq_getElem (by omega)
  have ey:ys[i]? = some (ys[i]'(by omega)):=List.getElem?_eq_getElem (by omega)
  refine .inr ⟨⟨xs,ys,_,_,q1,q2,ex,ey⟩,Pv (i+1),λ σ' H' z=>⟨n-(i+1),by omega,rfl,hlt,z⟩,?_⟩
  rintro v H' ⟨T,x,y,fr,rfl,rfl,hx,hy⟩
  exact hs i x y T σ H hlt (hx xs q1) (hy ys q2) fr p
 ·have ei:i=n:=by omega
  subst ei
  refine .inl ⟨⟨xs,ys,q1,q2,?_⟩,hd σ H p⟩
  rcases ne with z | z
  ·exact .inl (by omega)
  ·exact .inr (by omega)
end L2
namespace L2
open PySem PySem.Spec PyProof.Rows
set_option maxRecDepth 8000 in
theorem yY (l:Addr) (its:Array Value) (n:Nat) (b:Addr) (its2:Array Value) (n2:Nat) (od:Option Addr) (os2:Array (Option Value)) (h0:¬(!its.isEmpty && Builtin.List.listTooLong (its.size+its2.size))=true) (h1:its.size<=sizeLine) (h2:its.size+its2.size<=sizeLine+1) :
  Meets (Builtin.«list.extend» ⟨[.ref l,.ref b],[]⟩) (λ _ R s=>s.heap.get? l=some {cls:=.type "list",dict:=none,data:=.seq its n,slots:=#[]}/\s.heap.get? b=some {cls:=.type "tuple",dict:=od,data:=.seq its2 n2,slots:=os2}/\R (.ok (.ret Value.none)) {s with heap:=s.heap.update l (Obj.mapSeq λ x=>x++its2),toks:=s.toks}) :=
 .of_wp λ prog w A R s h=>by
  obtain⟨hp,g,d,tk,os⟩:=s
  obtain⟨hl,hb,h⟩:=h
  have f1:=AutoSeq1.idx_int
  have f2:=AutoSeq1.sub_tuple_tuple
  have f3:=AutoSeq1.sub_list_list
  have f4:=AutoSeq1.sub_tuple_list
  have f5:=AutoSeq1.sub_list_tuple
  have hz:(its++its2).size<=sizeLine+1:=by rw[Array.size_append];exact h2
  wp_walk using (wpAny_updateSeq hl rfl (hz:=h1) (_hz':=hz)),wpAny_loadPart' hl,wpAny_loadPart' hb
  exact⟨_,rfl,h⟩
section
variable {X:Cx}
def BZ:V->List V->Hp->VK->Prop:=λ x vs H Q=>∃ l b xs zs,x=.ref l/\vs = [.ref b]/\H l=some (.lst xs)/\H b=some (.tup zs)/\xs.length+zs.length<=sizeLine/\Q .non (upd H l (.lst (xs++zs)))
theorem qh:MtM X "list.extend" BZ:=by
 intro pins s σ H x vs v us Q I rx rv h
 obtain⟨l,b,xs,zs,rfl,rfl,hH,hB,hz,q⟩:=h
 cases rx
 obtain⟨u,rfl,ru⟩:=rv.one
 cases ru
 obtain⟨z,its,n,r,hl,e⟩:=I.lstM hH
 obtain⟨z2,its2,r2,g2⟩:=(show aN X.prog X.w H s.heap b (.tup zs) from I.hok b _ hB)
 have hl2:=r2.length
 obtain⟨⟨oc,od,oda,osl⟩,e2,ecl,n2,eda⟩:=(show s.heap.IsTuple b its2.toArray from g2)
 simp only at ecl eda
 subst ecl eda
 have hsz:its.toArray.size+its2.toArray.size<=sizeLine:=by rw[List.size_toArray,List.size_toArray];omega
 have hlong:¬ (!its.toArray.isEmpty && Builtin.List.listTooLong (its.toArray.size+its2.toArray.size))=true:=by
  rw[wy hsz,Bool.and_false]
  exact Bool.false_ne_true
 refine call_meets F.slot_list_extend ⟨_,e,rfl⟩ F.entry_list_extend (F.args_list_extend_2 _ _)
  (yY l its.toArray n b its2.toArray n2 od osl hlong (by rw[List.size_toArray];omega) (by omega)) ⟨e,e2,?_⟩
 refine⟨.non,_,I.lset (its':=its++its2) hH e (by simp) (r.append r2) ?_,rfl,q⟩
 rw[List.length_append]
 omega
end
def Prs (H:Hp):List (Int×Int)->List V->Prop
 | [],xs=>xs = []
 | z::zs,xs=>∃ a ys,xs=.ref a::ys/\H a=some (.tup [.int z.1,.int z.2])/\Prs H zs ys
def qq (H:Hp) (z:Int×Int) (w:Value):Bool:=@decide (∃ a,w=Value.ref a/\H a=some (.tup [.int z.1,.int z.2])) (Classical.propDecidable _)
theorem o6 {H:Hp}{z za:Int×Int}{a:Addr} (ha:H a=some (.tup [.int za.1,.int za.2])):qq H z (.ref a)=decide (za=z):=by
 rw[Bool.eq_iff_iff,qq,@decide_eq_true_iff _ (Classical.propDecidable _),decide_eq_true_iff]
 constructor
 ·rintro⟨a',e,h⟩
  cases e
  rw[ha] at h
  simp only[Option.some.injEq,HO.tup.injEq,List.cons.injEq,V.int.injEq,and_true] at h
  exact Prod.ext h.1 h.2
 ·rintro rfl
  exact⟨a,rfl,ha⟩
theorem rV {H:Hp}:∀ {zs:List (Int×Int)}{xs:List V}{us:List Value},Prs H zs xs->aM xs us->∀ w∈us,∃ (a:Addr) (za:Int×Int),w=Value.ref a/\H a=some (.tup [.int za.1,.int za.2])
 | [],xs,us,h,r=>by
  rw[show xs = [] from h] at r
  cases r
  intro w hw
  cases hw
 | z::zs,xs,us,⟨a,ys,e,ha,h⟩,r=>by
  subst e
  cases r with
  | cons r1 rr =>
   cases r1
   intro w hw
   rcases List.mem_cons.mp hw with rfl | hw
   ·exact⟨a,z,rfl,ha⟩
   ·exact rV h rr w hw
theorem rW {H:Hp}{z:Int×Int}:∀ {zs:List (Int×Int)}{xs:List V}{us:List Value},Prs H zs xs->aM xs us->us.any (qq H z)=zs.any λ w=>decide (w=z)
 | [],xs,us,h,r=>by
  rw[show xs = [] from h] at r
  cases r
  rfl
 | z0::zs,xs,us,⟨a,ys,e,ha,h⟩,r=>by
  subst e
  cases r with
  | cons r1 rr =>
   cases r1
   rw[List.any_cons,List.any_cons,o6 ha,rW h rr]
section
variable {X:Cx}
theorem tZ (hu:X.A.units+64<cLine):OpR X (compareOp .NotIn) (λ x y H Q=>∃ l xs zs b z,x=.ref b/\y=.ref l/\SqL X.K H l xs/\Prs H zs xs/\H b=some (.tup [.int z.1,.int z.2])/\Q (.bl (!zs.any λ w=>decide (w=z))) H):=by
 intro pins s σ H x y v u Q I rx ry h
 obtain⟨l,xs,zs,b,z,rfl,rfl,hq,hp,hb,q⟩:=h
 cases rx
 cases ry
 obtain⟨its,r,pl,hz⟩:=I.list hq
 refine SeqAt.notIn_listAt (qq H z) pl.isList (λ w hw=>?_) ⟨.bl _,H,I,rfl,?_⟩
 ·obtain⟨a,za,rfl,ha⟩:=rV hp r w (by simpa using hw)
  have k:=eqQ I.hok 50 X.A.in1 (.tup [.int za.1,.int za.2]) (.tup [.int z.1,.int z.2]) (.ref a) (.ref b) (.ref a) (.ref b) (by simp [dQ,cg]) (by show X.A.units+1+50<cLine;omega) (by simp [bu,dN])
   ⟨a,_,rfl,ha,_,_,rfl,rfl,_,_,rfl,rfl,rfl⟩ ⟨b,_,rfl,hb,_,_,rfl,rfl,_,_,rfl,rfl,rfl⟩ rfl rfl
  have e:eh (.tup [.int za.1,.int za.2]) (.tup [.int z.1,.int z.2])=qq H z (.ref a):=by
   rw[o6 ha,Bool.eq_iff_iff]
   simp [eh,fA,Prod.ext_iff]
  rw[e] at k
  exact k
 ·rw[show its.toArray.any (qq H z)=its.any (qq H z) by simp,rW hp r]
  exact q
end
end L2
namespace L2
open PySem PySem.Spec PyProof.Rows
section
variable {X:Cx}{e st:Expr}{te ts:TE}{pos p2:Pos}
end
theorem ji {K:PySem.W.Frag}{a:Addr}{xs:List V}{te:TE}{st:St}{H1:Hp}{Q:VK}{D:Addr} (R:Nat->List V->Hp->Prop) (hD:H1 D=none) (q1:SqL K H1 a xs) (hn:xs.length<=sizeLine) (h0:R 0 [] (upd H1 D (.lst [])))
  (hx:∀ (i:Nat),i<xs.length->∃ b u v,xs[i]? = some (.ref b)/\H1 b=some (.tup [u,v]))
  (hs:∀ (i:Nat) (b:Addr) (u v:V) (ys:List V) (H2:Hp) (k:VK),xs[i]? = some (.ref b)->H1 b=some (.tup [u,v])->ak H1 H2->H2 D=some (.lst ys)->R i ys H2->(∀ y H4,ak H2 H4->R (i+1) (ys++[y]) (upd H4 D (.lst (ys++[y])))->k y H4)->te (some u::some v::st) H2 k)
  (hd:∀ ys H2,ak H1 H2->H2 D=some (.lst ys)->ys.length=xs.length->R xs.length ys H2->Q (.ref D) H2):eW (Itl K a) (ux K 2 (ii (cr 0) (ii (cr 1) wV))) kG te 2 st D H1 Q:=by
 refine⟨λ i m ys H2=>m=xs.length-i/\i<=xs.length/\ys.length=i/\ak H1 H2/\H2 D=some (.lst ys)/\R i ys H2,⟨xs.length,by simp,Nat.zero_le _,rfl,aT (ak.refl H1) hD,ad,h0⟩,?_⟩
 rintro i m ys H2 ⟨rfl,hi,hl,sm,e,r⟩
 by_cases hlt:i<xs.length
 ·have ex:xs[i]? = some xs[i]:=List.getElem?_eq_getElem hlt
  obtain⟨b,u,v,e1,e2⟩:=hx i hlt
  refine .inr ⟨⟨xs,_,sm.seq q1,ex⟩,?_⟩
  rintro x H3 σ0 ⟨rfl,hx'⟩ l0
  have hx2:=hx' xs (sm.seq q1)
  rw[e1] at hx2
  cases hx2
  obtain⟨a',b',rfl⟩:∃ a b,σ0 = [a,b]:=by
   match σ0,l0 with
   | [a,b],_=>exact⟨a,b,rfl⟩
  refine⟨b,[u,v],rfl,SqT.of (sm _ _ e2),rfl,u,[v],rfl,v,[],rfl,rfl,⟨[some u,some v],rfl,rfl⟩,?_⟩
  exact hs i b u v ys _ _ e1 e2 sm e r λ y H4 s4 r4=>⟨s4 _ _ e,by omega,xs.length-(i+1),by omega,rfl,hlt,by simp [hl],aT (sm.trans s4) hD,ad,r4⟩
 ·have ei:i=xs.length:=by omega
  subst ei
  exact .inl ⟨⟨xs,sm.seq q1,Nat.le_refl _⟩,hd ys H2 sm e hl r⟩
end L2
namespace L2
open PySem PySem.Spec PyProof.Rows
section
variable {X:Cx}
theorem yu:OpR X (binaryOp .Add) (λ x y H Q=>∃ a b ys,x=.ref a/\y=.ref b/\SqT X.K H a []/\SqT X.K H b ys/\Q (.ref b) H):=by
 intro pins s σ H x y v u Q I rx ry h
 obtain⟨a,b,ys,rfl,rfl,ha,hb,q⟩:=h
 cases rx
 cases ry
 obtain⟨its,r1,p1,_⟩:=I.tuple ha
 obtain⟨its2,r2,p2,_⟩:=I.tuple hb
 cases r1
 obtain⟨⟨cls,dd,data,sl⟩,ho,hc,n,hd⟩:=id (show s.heap.IsTuple a ([]:List Value).toArray from p1)
 obtain⟨⟨cls2,dd2,data2,sl2⟩,ho2,hc2,n2,hd2⟩:=id (show s.heap.IsTuple b its2.toArray from p2)
 simp only at hc hd hc2 hd2
 subst hc hd hc2 hd2
 exact concat_meets ⟨_,ho,rfl⟩ ⟨_,ho2,rfl⟩ noFill_tuple_add seq_tuple_add PySem.F.slot_tuple_add PySem.F.entry_tuple_add (PySem.F.args_tuple_add_2 _ _) (tuple_addW0 a b ([]:List Value).toArray its2.toArray n n2 dd dd2 sl sl2 rfl) ⟨ho,ho2,⟨.ref b,H,I,rfl,q⟩⟩
theorem r6:OpR X (binaryOp .Add) (λ x y H Q=>(∃ a b ys,x=.ref a/\y=.ref b/\SqT X.K H a []/\SqT X.K H b ys/\Q (.ref b) H)∨zP X.K x y H Q):=by
 intro pins s σ H x y v u Q I rx ry h
 rcases h with h | h
 ·exact yu pins s σ H x y v u Q I rx ry h
 ·exact yt pins s σ H x y v u Q I rx ry h
end
end L2
namespace Gc
theorem zX {a b:Int} (ha:0<=a) (hb:0<=b) (h:b≠0):Int.gcd b (a%b)=Int.gcd a b:=by
 rw[Int.gcd_comm a b]
 unfold Int.gcd
 have e:(a%b).natAbs=a.natAbs%b.natAbs:=by
  rw[Int.natAbs_emod_of_nonneg ha]
 rw[e,Nat.gcd_comm b.natAbs (a.natAbs%b.natAbs),<-Nat.gcd_rec]
theorem Ci {a:Int} (ha:0<=a):(Int.gcd a 0:Int)=a:=by
 rw[Int.gcd_zero_right];omega
theorem CT (a b:Int):Int.gcd (if a<0 then -a else a) (if b<0 then -b else b)=Int.gcd a b:=by
 unfold Int.gcd
 have h1:(if a<0 then -a else a).natAbs=a.natAbs:=by split<;>omega
 have h2:(if b<0 then -b else b).natAbs=b.natAbs:=by split<;>omega
 rw[h1,h2]
end Gc
namespace Gc
theorem py {g t:Int} (h:g≠0):(g*t).fdiv g=t:=by
 rw[Int.mul_comm];exact Int.mul_fdiv_cancel _ h
def frD (t b:Int):Int:=if b<0 then -(Int.gcd t b:Int) else (Int.gcd t b:Int)
def frT (t b:Int):Int:=t.fdiv (frD t b)
def frB (t b:Int):Int:=b.fdiv (frD t b)
theorem gne {t b:Int} (h:b≠0):Int.gcd t b≠0:=λ e=>h (Int.gcd_eq_zero_iff.mp e).2
theorem nD {t b:Int} (h:b≠0):frD t b≠0:=by
 have:=gne (t:=t) h
 unfold frD;split<;>omega
theorem ik {t b:Int} (h:b≠0):t=frD t b*frT t b/\b=frD t b*frB t b:=by
 have hd:(Int.gcd t b:Int) ∣ t:=Int.gcd_dvd_left ..
 have hb:(Int.gcd t b:Int) ∣ b:=Int.gcd_dvd_right ..
 have hd' : frD t b ∣ t := by unfold frD; split; · exact Int.neg_dvd.mpr hd
                              · exact hd
 have hb' : frD t b ∣ b := by unfold frD; split; · exact Int.neg_dvd.mpr hb
                              · exact hb
 obtain⟨x,hx⟩:=hd'
 obtain⟨y,hy⟩:=hb'
 have ne:=nD (t:=t) h
 generalize hD:frD t b=d at *
 have e1 : frT t b = x := by unfold frT; rw [hD]; conv => lhs; rw [hx]
                             exact py ne
 have e2 : frB t b = y := by unfold frB; rw [hD]; conv => lhs; rw [hy]
                             exact py ne
 rw[e1,e2];exact⟨hx,hy⟩
theorem nE {t b:Int} (h:b≠0):0<frB t b:=by
 obtain⟨_,e⟩:=ik (t:=t) h
 have g:=gne (t:=t) h
 rcases Int.lt_trichotomy (frB t b) 0 with c | c | c
 ·exfalso
  by_cases hb:b<0
  ·have hd:frD t b<0:=by unfold frD;rw[if_pos hb];omega
   have:=Int.mul_pos_of_neg_of_neg hd c
   omega
  ·have hd:0<frD t b:=by unfold frD;rw[if_neg hb];omega
   have:=Int.mul_neg_of_pos_of_neg hd c
   omega
 ·rw[c,Int.mul_zero] at e;exact absurd e h
 ·exact c
theorem wZ {t b:Int} (h:b≠0):Int.gcd (frT t b) (frB t b)=1:=by
 obtain⟨e1,e2⟩:=ik (t:=t) h
 have g:=gne (t:=t) h
 have k:Int.gcd t b=(frD t b).natAbs*Int.gcd (frT t b) (frB t b):=by
  rw[<-Int.gcd_mul_left,<-e1,<-e2]
 have hn:(frD t b).natAbs=Int.gcd t b:=by unfold frD;split<;>omega
 rw[hn] at k
 have:Int.gcd t b*1=Int.gcd t b*Int.gcd (frT t b) (frB t b):=by rw[Nat.mul_one];exact k
 exact (Nat.eq_of_mul_eq_mul_left (Nat.pos_of_ne_zero g) this).symm
theorem pq {t b:Int} (h:b≠0):frT t b*b=t*frB t b:=by
 obtain⟨e1,e2⟩:=ik (t:=t) h
 generalize frT t b=x at *
 generalize frB t b=y at *
 generalize frD t b=d at *
 subst e1 e2
 rw[Int.mul_left_comm,Int.mul_assoc]
theorem nG {k m n:Int} (h:k ∣ m*n) (c:Int.gcd k m=1):k ∣ n:=by
 have h':k.natAbs ∣ m.natAbs*n.natAbs:=by rw[<-Int.natAbs_mul];exact Int.natAbs_dvd_natAbs.mpr h
 exact Int.natAbs_dvd_natAbs.mp (Nat.Coprime.dvd_of_dvd_mul_left c h')
theorem yV {a b c d:Int} (hb:0<b) (hd:0<d) (g1:Int.gcd a b=1) (g2:Int.gcd c d=1) (e:a*d=c*b):a=c/\b=d:=by
 have h1:b ∣ d:=by
  have:b ∣ a*d:=⟨c,by rw[e,Int.mul_comm]⟩
  have k:Int.gcd b a=1:=by rw[Int.gcd_comm];exact g1
  exact nG this k
 have h2:d ∣ b:=by
  have:d ∣ c*b:=⟨a,by rw[<-e,Int.mul_comm]⟩
  have k:Int.gcd d c=1:=by rw[Int.gcd_comm];exact g2
  exact nG this k
 have hbd:b=d:=Int.dvd_antisymm (by omega) (by omega) h1 h2
 subst hbd
 exact⟨Int.eq_of_mul_eq_mul_right (by omega) e,rfl⟩
end Gc
namespace Gc
theorem fS {a b:Int} (ha:0<a) (hb:0<b):a*b≠0:=Int.ne_of_gt (Int.mul_pos ha hb)
theorem Bs {k x y:Int} (h:k≠0) (e:k*x=k*y):x=y:=Int.eq_of_mul_eq_mul_left h e
theorem zY {t b c d:Int} (hb:b≠0) (hd:0<d) (g:Int.gcd c d=1) (e:t*d=c*b):frT t b=c/\frB t b=d:=by
 have h:=pq (t:=t) hb
 refine yV (nE hb) hd (wZ hb) g ?_
 refine Bs hb ?_
 generalize frT t b=x at *
 generalize frB t b=y at *
 grind
theorem Co {a b c d:Int} (hb:0<b) (hd:0<d) (g:Int.gcd c d=1) :
  frT (frT (a*d+c*b) (b*d)*b-a*frB (a*d+c*b) (b*d)) (frB (a*d+c*b) (b*d)*b)=c /\
  frB (frT (a*d+c*b) (b*d)*b-a*frB (a*d+c*b) (b*d)) (frB (a*d+c*b) (b*d)*b)=d:=by
 have hn:=fS hb hd
 have h1:=pq (t:=a*d+c*b) hn
 have h2:=nE (t:=a*d+c*b) hn
 generalize frT (a*d+c*b) (b*d)=p at *
 generalize frB (a*d+c*b) (b*d)=q at *
 refine zY (fS h2 hb) hd g ?_
 grind
def Sz (n:Nat) (i:Int):Prop:=i.natAbs<2^n
theorem Sz.mono {m n:Nat}{i:Int} (h:Sz m i) (hn:m<=n):Sz n i:=Nat.lt_of_lt_of_le h (Nat.pow_le_pow_right (by decide) hn)
theorem Sz.mul {m n:Nat}{i j:Int} (h1:Sz m i) (h2:Sz n j):Sz (m+n) (i*j):=by
 unfold Sz at *
 rw[Int.natAbs_mul,Nat.pow_add]
 exact Nat.mul_lt_mul'' h1 h2
theorem Sz.add {n:Nat}{i j:Int} (h1:Sz n i) (h2:Sz n j):Sz (n+1) (i+j):=by
 unfold Sz at *
 rw[Nat.pow_succ];omega
theorem Sz.sub {n:Nat}{i j:Int} (h1:Sz n i) (h2:Sz n j):Sz (n+1) (i-j):=by
 unfold Sz at *
 rw[Nat.pow_succ];omega
theorem Sz.fr {n m:Nat}{a b:Int} (h:b≠0) (sa:Sz n a) (sb:Sz m b):Sz n (frT a b)/\Sz m (frB a b):=by
 obtain⟨e1,e2⟩:=ik (t:=a) h
 have nd:=nD (t:=a) h
 have h1:(frT a b).natAbs<=a.natAbs:=by
  have:a.natAbs=(frD a b).natAbs*(frT a b).natAbs:=by rw[<-Int.natAbs_mul,<-e1]
  rw[this];exact Nat.le_mul_of_pos_left _ (by omega)
 have h2:(frB a b).natAbs<=b.natAbs:=by
  have:b.natAbs=(frD a b).natAbs*(frB a b).natAbs:=by rw[<-Int.natAbs_mul,<-e2]
  rw[this];exact Nat.le_mul_of_pos_left _ (by omega)
 exact⟨Nat.lt_of_le_of_lt h1 sa,Nat.lt_of_le_of_lt h2 sb⟩
structure Cu (a b:Int):Prop where
 pos:0<b
 low:Int.gcd a b=1
 s1:Sz 200 a
 s2:Sz 200 b
theorem Cu.of {a b:Int} (h:0<b) (sa:Sz 200 a) (sb:Sz 200 b):Cu (frT a b) (frB a b) :=
 have z:=Sz.fr (by omega) sa sb
 ⟨nE (by omega),wZ (by omega),z.1,z.2⟩
theorem yW {a b:Int} (h:0<b):frD a b=Int.gcd a b:=if_neg (by omega)
end Gc
namespace Ch
def aP:Nat->Nat->Nat
 | _,0=>1
 | 0,_+1=>0
 | n+1,k+1=>aP n k+aP n (k+1)
theorem b0 (n:Nat):aP n 0=1:=by cases n<;>rfl
theorem bs (n k:Nat):aP (n+1) (k+1)=aP n k+aP n (k+1):=rfl
theorem blt:∀ {n k:Nat},n<k->aP n k=0
 | 0,k+1,_=>rfl
 | n+1,k+1,h=>by rw[bs,blt (by omega:n<k),blt (by omega:n<k+1)]
theorem sW:∀ n:Nat,aP n n=1
 | 0=>rfl
 | n+1=>by rw[bs,sW n,blt (Nat.lt_succ_self n)]
theorem zt:∀ n k:Nat,aP n (k+1)*(k+1)=aP n k*(n-k)
 | 0,k=>by rw[show aP 0 (k+1)=0 from rfl];simp
 | n+1,0=>by
  have ih:=zt n 0
  rw[bs,b0,b0]
  rw[b0] at ih
  simp only[Nat.zero_add,Nat.mul_one,Nat.one_mul,Nat.sub_zero] at *
  omega
 | n+1,k+1=>by
  have i1:=zt n k
  have i2:=zt n (k+1)
  rw[bs n (k+1),bs n k]
  by_cases h:k<n
  ·have e1:n-k=(n-(k+1))+1:=by omega
   have e2:n+1-(k+1)=n-k:=by omega
   rw[e2]
   rw[e1] at i1 ⊢
   generalize n-(k+1)=d at *
   have:(aP n (k+1)+aP n (k+1+1))*(k+1+1)=aP n (k+1)*(k+1)+aP n (k+1)+aP n (k+1+1)*(k+1+1):=by
    rw[Nat.add_mul,Nat.mul_add (aP n (k+1)) (k+1) 1,Nat.mul_one]
   rw[this,i1,i2,Nat.add_mul,Nat.mul_add (aP n k) d 1,Nat.mul_add (aP n (k+1)) d 1]
   omega
  ·have z1:aP n (k+1)=0:=blt (by omega)
   have z2:aP n (k+1+1)=0:=blt (by omega)
   have e2:n+1-(k+1)=0:=by omega
   rw[z1,z2,e2];simp
theorem sV:∀ {n k:Nat},k<=n->aP n (n-k)=aP n k
 | 0,0,_=>rfl
 | n+1,0,_=>by rw[Nat.sub_zero,sW,b0]
 | n+1,k+1,h=>by
  by_cases e:k=n
  ·subst e;rw[Nat.sub_self,b0,sW]
  ·have e1:n+1-(k+1)=(n-(k+1))+1:=by omega
   have e2:n-(k+1)+1=n-k:=by omega
   rw[e1,bs,bs,e2,sV (by omega:k+1<=n),sV (by omega:k<=n)]
   omega
theorem Cn (n t:Nat):aP n t*(n-t) / (t+1)=aP n (t+1):=by
 rw[<-zt,Nat.mul_div_cancel _ (Nat.succ_pos t)]
def cho (n k:Int):Int:=if k<0∨n<k then 0 else (aP n.toNat k.toNat:Int)
theorem sR {n k:Int} (h:k<0∨n<k):cho n k=0:=if_pos h
theorem xq {n k:Int} (h0:0<=k) (h1:k<=n):cho n k=(aP n.toNat k.toNat:Int):=if_neg (by omega)
theorem zo {n k:Int} (h0:0<=k) (h1:k<=n):(aP n.toNat (if n-k<k then n-k else k).toNat:Int)=cho n k:=by
 rw[xq h0 h1]
 by_cases c:n-k<k
 ·rw[if_pos c]
  have e:(n-k).toNat=n.toNat-k.toNat:=by omega
  rw[e,sV (by omega)]
 ·rw[if_neg c]
theorem xo {n:Int}{t:Nat} (h:(t:Int)<n):(aP n.toNat t:Int)*(n-t) / ((t:Int)+1)=(aP n.toNat (t+1):Int):=by
 rw[<-Cn n.toNat t]
 have e:n-(t:Int)=((n.toNat-t:Nat):Int):=by omega
 rw[e]
 simp
end Ch
namespace Gc
open Ch
theorem rle {a b c:Rat} (h:a<=b) (hc:0<=c):c*a<=c*b:=Rat.mul_le_mul_of_nonneg_left h hc
def sm (f:Nat->Rat):Nat->Rat
 | 0=>0
 | m+1=>sm f m+f m
theorem mz (f g:Nat->Rat):∀ m,sm (λ k=>f k+g k) m=sm f m+sm g m
 | 0=>by simp only[sm];grind
 | m+1=>by simp only[sm,mz f g m];grind
theorem fL (c:Rat) (f:Nat->Rat):∀ m,sm (λ k=>c*f k) m=c*sm f m
 | 0=>by simp only[sm];grind
 | m+1=>by simp only[sm,fL c f m];grind
theorem zO {f g:Nat->Rat}:∀ {m:Nat},(∀ k,k<m->f k<=g k)->sm f m<=sm g m
 | 0,_=>Rat.le_refl
 | m+1,h=>by
   have h1:=zO (m:=m) λ k hk=>h k (by omega)
   have h2:=h m (by omega)
   simp only[sm];grind
theorem dE {f g:Nat->Rat}:∀ {m:Nat},(∀ k,k<m->f k=g k)->sm f m=sm g m
 | 0,_=>rfl
 | m+1,h=>by
   have h1:=dE (m:=m) λ k hk=>h k (by omega)
   have h2:=h m (by omega)
   simp only[sm,h1,h2]
theorem rm {f:Nat->Rat}:∀ {m:Nat},(∀ k,k<m->f k=0)->sm f m=0
 | 0,_=>rfl
 | m+1,h=>by
   have h1:=rm (m:=m) λ k hk=>h k (by omega)
   have h2:=h m (by omega)
   simp only[sm,h1,h2];grind
theorem fM (f:Nat->Rat):∀ m,sm f (m+1)=f 0+sm (λ k=>f (k+1)) m
 | 0=>by simp only[sm];grind
 | m+1=>by rw[sm,fM f m];simp only[sm];grind
theorem vz (f:Nat->Rat):∀ m,sm (λ k=>f (m-1-k)) m=sm f m
 | 0=>rfl
 | m+1=>by
   rw[fM]
   have:sm (λ k=>f (m+1-1-(k+1))) m=sm f m:=by
    rw[<-vz f m];exact dE λ k _=>by congr 1;omega
   rw[this,sm]
   have e:m+1-1-0=m:=by omega
   rw[e];grind
def wt (p:Rat):Nat->Nat->Rat
 | 0,0=>1
 | 0,_+1=>0
 | n+1,0=>(1-p)*wt p n 0
 | n+1,k+1=>(1-p)*wt p n (k+1)+p*wt p n k
theorem qR (p:Rat):∀ n,wt p n 0=(1-p)^n
 | 0=>by rw[wt];grind
 | n+1=>by rw[wt,qR p n];grind
theorem fY (p:Rat):∀ n k,wt p n k=(aP n k:Rat)*p^k*(1-p)^(n-k)
 | 0,0=>by simp [wt,aP]
 | 0,k+1=>by simp [wt,aP]
 | n+1,0=>by rw[qR,b0];simp
 | n+1,k+1=>by
   rw[wt,fY p n k,fY p n (k+1),bs]
   have e:n+1-(k+1)=n-k:=by omega
   rw[e]
   by_cases h:k<n
   ·have e2:n-k=(n-(k+1))+1:=by omega
    rw[e2];push_cast;grind
   ·rw[blt (show n<k+1 by omega)];push_cast;grind
theorem eB {p:Rat} (h0:0<=p) (h1:p<=1):∀ n k,0<=wt p n k
 | 0,0=>by rw[wt];decide
 | 0,k+1=>by rw[wt];decide
 | n+1,0=>by
   rw[wt];exact Rat.mul_nonneg (by grind) (eB h0 h1 n 0)
 | n+1,k+1=>by
   have a:=Rat.mul_nonneg (show 0<=1-p by grind) (eB h0 h1 n (k+1))
   have b:=Rat.mul_nonneg h0 (eB h0 h1 n k)
   rw[wt];grind
theorem kS (p:Rat) {n k:Nat} (h:k<=n):wt (1-p) n (n-k)=wt p n k:=by
 rw[fY,fY,sV h]
 have e:n-(n-k)=k:=by omega
 have e2:1-(1-p)=p:=by grind
 rw[e,e2];grind
def cu (p:Rat) (n m:Nat):Rat:=sm (wt p n) m
theorem d6 (p:Rat) (n m:Nat):cu p (n+1) (m+1)=(1-p)*cu p n (m+1)+p*cu p n m:=by
 simp only[cu]
 rw[fM,fM (wt p n)]
 have:sm (λ k=>wt p (n+1) (k+1)) m=(1-p)*sm (λ k=>wt p n (k+1)) m+p*sm (wt p n) m:=by
  rw[<-fL,<-fL,<-mz];exact dE λ k _=>by rw[wt]
 rw[this,wt];grind
theorem cb (p:Rat) (n:Nat):cu p n 0=0:=rfl
theorem cI (p:Rat):∀ {n m:Nat},n<m->cu p n m=1
 | 0,m+1,_=>by
   rw[cu,fM,rm (λ k _=>by rw[wt]),wt];grind
 | n+1,m+1,h=>by rw[d6,cI p (show n<m+1 by omega),cI p (show n<m by omega)];grind
theorem cY {p:Rat} (h0:0<=p) (h1:p<=1) (n:Nat) {a:Nat}:∀ {b:Nat},a<=b->cu p n a<=cu p n b
 | 0, h => by have : a = 0 := by omega
              subst this; exact Rat.le_refl
 | b+1,h=>by
   by_cases e:a=b+1
   ·subst e;exact Rat.le_refl
   ·have:=cY h0 h1 n (show a<=b by omega)
    have w:=eB h0 h1 n b
    simp only[cu,sm] at *;grind
theorem uC {p:Rat} (h0:0<=p) (h1:p<=1) (n m:Nat):0<=cu p n m:=by
 have:=cY h0 h1 n (show 0<=m by omega);rw[cb] at this;exact this
theorem Cm {p:Rat} (h0:0<=p) (h1:p<=1) (n m:Nat):cu p n m<=1:=by
 have:=cY h0 h1 n (show m<=m+n+1 by omega);rw[cI p (show n<m+n+1 by omega)] at this;exact this
theorem fj {p q:Rat} (h0:0<=p) (h:p<=q) (h1:q<=1):∀ n m,cu q n m<=cu p n m
 | _,0=>by rw[cb,cb];exact Rat.le_refl
 | 0,m+1=>by rw[cI q (by omega),cI p (by omega)];exact Rat.le_refl
 | n+1,m+1=>by
   rw[d6,d6]
   have a:=rle (fj h0 h h1 n (m+1)) (show 0<=1-q by grind)
   have b:=rle (fj h0 h h1 n m) (show 0<=q by grind)
   have c:=rle (cY h0 (by grind) n (show m<=m+1 by omega):cu p n m<=cu p n (m+1)) (show 0<=q-p by grind)
   grind
def rn (p:Rat) (n i d:Nat):Rat:=cu p n d-cu p n i
theorem dZ {p:Rat} (h0:0<=p) (h1:p<=1) {n i d:Nat} (h:i<=d):0<=rn p n i d/\rn p n i d<=1:=by
 have a:=cY h0 h1 n h
 have b:=Cm h0 h1 n d
 have c:=uC h0 h1 n i
 unfold rn;constructor<;>grind
theorem mU {p q:Rat} (h0:0<=p) (h:p<=q) (h1:q<=1):∀ n {i d:Nat},i<=d ->
  rn q n i d-rn p n i d<=(n:Rat)*(q-p)/\rn p n i d-rn q n i d<=(n:Rat)*(q-p)
 | 0,i,d,hi=>by
   have e:∀ x,rn x 0 i d=rn p 0 i d:=λ x=>by
    unfold rn
    have:∀ m,cu x 0 m=cu p 0 m:=λ m=>by
     cases m with
     | zero=>rfl
     | succ m=>rw[cI _ (by omega),cI _ (by omega)]
    rw[this,this]
   rw[e q];push_cast;constructor<;>grind
 | n+1,i,d,hi=>by
   have key:∀ x,rn x (n+1) i d=(1-x)*rn x n i d+x*rn x n (i-1) (d-1):=λ x=>by
    unfold rn
    cases i with
    | zero =>
     cases d with
     | zero=>simp only[cb,Nat.zero_sub];grind
     | succ d=>rw[d6];simp only[cb,Nat.zero_sub,Nat.add_sub_cancel];grind
    | succ i =>
     cases d with
     | zero=>omega
     | succ d=>rw[d6,d6];simp only[Nat.add_sub_cancel];grind
   obtain⟨a1,a2⟩:=mU h0 h h1 n hi
   obtain⟨b1,b2⟩:=mU h0 h h1 n (show i-1<=d-1 by omega)
   have u1:=dZ h0 (by grind:p<=1) (n:=n) hi
   have u2:=dZ h0 (by grind:p<=1) (n:=n) (show i-1<=d-1 by omega)
   rw[key q,key p]
   have x1:=rle a1 (show 0<=1-q by grind)
   have x2:=rle a2 (show 0<=1-q by grind)
   have y1:=rle b1 (show 0<=q by grind)
   have y2:=rle b2 (show 0<=q by grind)
   have z1:=rle (show rn p n (i-1) (d-1)-rn p n i d<=1 by grind) (show 0<=q-p by grind)
   have z2:=rle (show rn p n i d-rn p n (i-1) (d-1)<=1 by grind) (show 0<=q-p by grind)
   push_cast
   constructor<;>grind
end Gc
namespace Gc
open Ch
def Cvx (G:Nat->Rat):Prop:=∀ k,G (k+1)-G k<=G (k+2)-G (k+1)
theorem Cvx.steps {G:Nat->Rat} (h:Cvx G) (a:Nat):∀ e,G (a+1)-G a<=G (a+e+1)-G (a+e)
 | 0=>Rat.le_refl
 | e+1=>by
   have:=h.steps a e
   have s:=h (a+e)
   have e1:a+(e+1)=a+e+1:=by omega
   have e2:a+(e+1)+1=a+e+2:=by omega
   rw[e2,e1];grind
theorem Cvx.up {G:Nat->Rat} (h:Cvx G) (a:Nat):∀ e:Nat,(e:Rat)*(G (a+1)-G a)<=G (a+e)-G a
 | 0 => by have : a + 0 = a := rfl
           rw [this]; push_cast; grind
 | e+1=>by
   have i:=h.up a e
   have s:=h.steps a e
   have e1:a+(e+1)=a+e+1:=by omega
   rw[e1];push_cast;grind
theorem Cvx.dn {G:Nat->Rat} (h:Cvx G) (a:Nat):∀ e:Nat,G (a+e)-G a<=(e:Rat)*(G (a+e+1)-G (a+e))
 | 0 => by have : a + 0 = a := rfl
           rw [this]; push_cast; grind
 | e+1=>by
   have i:=h.dn a e
   have s:=h (a+e)
   have m:=rle s (show (0:Rat)<=(e:Rat) by exact_mod_cast Nat.zero_le e)
   have e1:a+(e+1)=a+e+1:=by omega
   have e2:a+(e+1)+1=a+e+2:=by omega
   rw[e2,e1];push_cast;grind
theorem nP {e:Nat} (h:0<e):(0:Rat)<(e:Rat):=by exact_mod_cast h
theorem jW {e x:Rat} (he:0<e) (h:0<e*x):0<x:=by
 by_cases hx:0<x
 ·exact hx
 ·have:=rle (show x<=0 by grind) (show 0<=e by grind);grind
theorem bE {e x:Rat} (he:0<e) (h:0<=e*x):0<=x:=by
 by_cases hx:0<=x
 ·exact hx
 ·have:=Rat.mul_pos he (show 0 < -x by grind);grind
theorem Cvx.mid {G:Nat->Rat} (h:Cvx G) {a d k:Nat} (ha:G a=0) (hd:G d=0) (h1:a<=k) (h2:k<=d):G k<=0:=by
 by_cases hk:0<G k
 ·exfalso
  obtain⟨e,rfl⟩:=Nat.exists_eq_add_of_le h1
  obtain⟨f,rfl⟩:=Nat.exists_eq_add_of_le h2
  have u:=h.dn a e
  have v:=h.up (a+e) f
  by_cases he:e=0
  ·subst he;have:a+0=a:=rfl
   rw[this] at hk;grind
  ·have p:=jW (nP (show 0<e by omega)) (show 0<(e:Rat)*(G (a+e+1)-G (a+e)) by grind)
   have q:0<=(f:Rat)*(G (a+e+1)-G (a+e)):=Rat.mul_nonneg (by exact_mod_cast Nat.zero_le f) (by grind)
   grind
 ·grind
theorem Cvx.out {G:Nat->Rat} (h:Cvx G) {a d k:Nat} (ha:G a=0) (hd:G d=0) (had:a<d) (h1:k<=a∨d<=k):0<=G k:=by
 obtain⟨f,rfl⟩:=Nat.exists_eq_add_of_le (Nat.le_of_lt had)
 have fp:=nP (show 0<f by omega)
 cases h1 with
 | inl h1 =>
  obtain⟨e,rfl⟩:=Nat.exists_eq_add_of_le h1
  have u:=h.dn k e
  have v:=h.up (k+e) f
  have x:0<=-(G (k+e+1)-G (k+e)):=bE fp (by grind)
  have y:=Rat.mul_nonneg (show (0:Rat)<=(e:Rat) by exact_mod_cast Nat.zero_le e) x
  grind
 | inr h1 =>
  obtain⟨e,rfl⟩:=Nat.exists_eq_add_of_le h1
  have u:=h.dn a f
  have v:=h.up (a+f) e
  have x:0<=G (a+f+1)-G (a+f):=bE fp (by grind)
  have y:=Rat.mul_nonneg (show (0:Rat)<=(e:Rat) by exact_mod_cast Nat.zero_le e) x
  grind
theorem jd {u:Rat} (h0:0<=u) (h1:u<=1):∀ e:Nat,u^e<=1
 | 0=>by grind
 | e + 1 => by have i := rle (jd h0 h1 e) h0
               rw [Rat.pow_succ]; grind
theorem jg {v:Rat} (h1:1<=v):∀ e:Nat,1<=v^e
 | 0=>by grind
 | e + 1 => by have i := rle (jg h1 e) (show 0 ≤ v by grind)
               rw [Rat.pow_succ]; grind
theorem AC {u v l m:Rat} (hu:0<u) (hv:0<v) (hl:0<=l) (hm:0<=m):Cvx λ k=>l*u^k+m*v^k-1:=λ k=>by
 have a:0<=l*(u^k*((u-1)*(u-1))):=Rat.mul_nonneg hl (Rat.mul_nonneg (Rat.le_of_lt (Rat.pow_pos hu)) (by
  by_cases h:0<=u-1
  ·exact Rat.mul_nonneg h h
  ·have:=Rat.mul_nonneg (show 0<=1-u by grind) (show 0<=1-u by grind);grind))
 have b:0<=m*(v^k*((v-1)*(v-1))):=Rat.mul_nonneg hm (Rat.mul_nonneg (Rat.le_of_lt (Rat.pow_pos hv)) (by
  by_cases h:0<=v-1
  ·exact Rat.mul_nonneg h h
  ·have:=Rat.mul_nonneg (show 0<=1-v by grind) (show 0<=1-v by grind);grind))
 have e1:u^(k+1)=u^k*u:=Rat.pow_succ u k
 have e2:u^(k+2)=u^k*u*u:=by rw[Rat.pow_succ,Rat.pow_succ]
 have e3:v^(k+1)=v^k*v:=Rat.pow_succ v k
 have e4:v^(k+2)=v^k*v*v:=by rw[Rat.pow_succ,Rat.pow_succ]
 simp only[e1,e2,e3,e4]
 generalize u^k=x at *
 generalize v^k=y at *
 grind
theorem AB {u v:Rat} (hu:0<u) (hu1:u<1) (hv:1<v) {a d:Nat} (h:a<d) :
  ∃ l m:Rat,0<=l/\0<=m/\l*u^a+m*v^a-1=0/\l*u^d+m*v^d-1=0:=by
 obtain⟨f,rfl⟩:=Nat.exists_eq_add_of_lt h
 have ua:0<u^a:=Rat.pow_pos hu
 have va:0<v^a:=Rat.pow_pos (show 0<v by grind)
 have uf:=jd (Rat.le_of_lt hu) (Rat.le_of_lt hu1) f
 have vf:=jg (Rat.le_of_lt hv) f
 have U:u^(f+1)<1:=by
  have:=rle uf (Rat.le_of_lt hu);rw[Rat.pow_succ];grind
 have V:1<v^(f+1):=by
  have:=rle vf (show 0<=v by grind);rw[Rat.pow_succ];grind
 have eu:u^(a+f+1)=u^a*u^(f+1):=by grind
 have ev:v^(a+f+1)=v^a*v^(f+1):=by grind
 rw[eu,ev]
 generalize u^(f+1)=x at *
 generalize v^(f+1)=y at *
 generalize u^a=s at *
 generalize v^a=t at *
 have D:y-x≠0:=by grind
 have Dp:0<(y-x)⁻¹:=Rat.inv_pos.mpr (by grind)
 have sp:0<s⁻¹:=Rat.inv_pos.mpr ua
 have tp:0<t⁻¹:=Rat.inv_pos.mpr va
 refine⟨(y-1)*((y-x)⁻¹ * s⁻¹),(1-x)*((y-x)⁻¹ * t⁻¹),Rat.mul_nonneg (by grind) (Rat.mul_nonneg (Rat.le_of_lt Dp) (Rat.le_of_lt sp)),
  Rat.mul_nonneg (by grind) (Rat.mul_nonneg (Rat.le_of_lt Dp) (Rat.le_of_lt tp)),?_,?_⟩
 ·have e1:s⁻¹ * s=1:=Rat.inv_mul_cancel _ (by grind)
  have e2:t⁻¹ * t=1:=Rat.inv_mul_cancel _ (by grind)
  have e3:(y-x)⁻¹ * (y-x)=1:=Rat.inv_mul_cancel _ D
  grind
 ·have e1:s⁻¹ * s=1:=Rat.inv_mul_cancel _ (by grind)
  have e2:t⁻¹ * t=1:=Rat.inv_mul_cancel _ (by grind)
  have e3:(y-x)⁻¹ * (y-x)=1:=Rat.inv_mul_cancel _ D
  grind
theorem gR {p q b u:Rat} (h1:p=u*b*q) (h2:1-p=b*(1-q)):∀ n k,wt p n k=b^n*u^k*wt q n k
 | 0,0=>by simp only[wt];grind
 | 0,k+1=>by simp only[wt];grind
 | n+1,0=>by
   simp only[wt,gR h1 h2 n 0,h2,Rat.pow_succ];grind
 | n+1,k+1=>by
   have a:=gR h1 h2 n k
   have c:=gR h1 h2 n (k+1)
   rw[Rat.pow_succ] at c
   simp only[wt,a,c,h2,Rat.pow_succ]
   generalize wt q n k=x
   generalize wt q n (k+1)=y
   generalize b^n=z
   generalize u^k=t
   rw[h1];grind
def ind (i d k:Nat):Rat:=if i<=k/\k<d then 1 else 0
theorem vA (f:Nat->Rat) {i d:Nat} (h:i<=d):∀ m,sm (λ k=>f k*ind i d k) m=sm f (min d m)-sm f (min i m)
 | 0=>by simp [sm];grind
 | m+1=>by
   rw[sm,vA f h m]
   by_cases h1:m<i
   ·rw[ind,if_neg (by omega),Nat.min_eq_right (by omega:m<=d),Nat.min_eq_right (by omega:m<=i),
     Nat.min_eq_right (by omega:m+1<=d),Nat.min_eq_right (by omega:m+1<=i)];grind
   ·by_cases h2:m<d
    ·rw[ind,if_pos (by omega),Nat.min_eq_right (by omega:m<=d),Nat.min_eq_left (by omega:i<=m),
      Nat.min_eq_right (by omega:m+1<=d),Nat.min_eq_left (by omega:i<=m+1),sm];grind
    ·rw[ind,if_neg (by omega),Nat.min_eq_left (by omega:d<=m),Nat.min_eq_left (by omega:i<=m),
      Nat.min_eq_left (by omega:d<=m+1),Nat.min_eq_left (by omega:i<=m+1)];grind
theorem qe (p c:Rat) {n i d:Nat} (h:i<=d) (hd:d<=n+1) :
  sm (λ k=>wt p n k*(ind i d k-c)) (n+1)=rn p n i d-c:=by
 have e:sm (λ k=>wt p n k*(ind i d k-c)) (n+1)
   = sm (λ k=>wt p n k*ind i d k+(-c)*wt p n k) (n+1):=dE λ k _=>by grind
 rw[e,mz,fL,vA (wt p n) h,Nat.min_eq_left hd,Nat.min_eq_left (by omega:i<=n+1)]
 have:=cI p (show n<n+1 by omega)
 simp only[rn,cu] at *;grind
theorem jh {a b:Rat} (h:a<b) (hb:0<b):a*b⁻¹ < 1:=by
 have bp:0<b⁻¹:=Rat.inv_pos.mpr hb
 have:=Rat.mul_pos (show 0<b-a by grind) bp
 have e:b*b⁻¹ = 1:=Rat.mul_inv_cancel _ (by grind)
 grind
theorem yf {p q r:Rat} (h0:0<p) (h1:p<q) (h2:q<r) (h3:r<1) {n i d:Nat} (hi:i<d) (hd:d<=n+1) :
  rn p n i d<=rn q n i d∨rn r n i d<=rn q n i d:=by
 have qp:0<q:=by grind
 have q1:0<1-q:=by grind
 have i1:q*q⁻¹ = 1:=Rat.mul_inv_cancel _ (by grind)
 have i2:(1-q)*(1-q)⁻¹ = 1:=Rat.mul_inv_cancel _ (by grind)
 have i3:(1-p)*(1-p)⁻¹ = 1:=Rat.mul_inv_cancel _ (by grind)
 have i4:(1-r)*(1-r)⁻¹ = 1:=Rat.mul_inv_cancel _ (by grind)
 have b1:0<(1-p)*(1-q)⁻¹:=Rat.mul_pos (by grind) (Rat.inv_pos.mpr q1)
 have b2:0<(1-r)*(1-q)⁻¹:=Rat.mul_pos (by grind) (Rat.inv_pos.mpr q1)
 have u0:0<(p*q⁻¹)*((1-q)*(1-p)⁻¹):=Rat.mul_pos (Rat.mul_pos h0 (Rat.inv_pos.mpr qp)) (Rat.mul_pos q1 (Rat.inv_pos.mpr (by grind)))
 have u1:(p*q⁻¹)*((1-q)*(1-p)⁻¹)<1:=by
  have x:=jh h1 qp
  have y:=jh (show 1-q<1-p by grind) (show 0<1-p by grind)
  have xp:0<p*q⁻¹:=Rat.mul_pos h0 (Rat.inv_pos.mpr qp)
  have:=rle (Rat.le_of_lt y) (Rat.le_of_lt xp)
  grind
 have v1:1<(r*q⁻¹)*((1-q)*(1-r)⁻¹):=by
  have x:=Rat.mul_pos (show 0<r-q by grind) (Rat.inv_pos.mpr qp)
  have y:=Rat.mul_pos (show 0<r-q by grind) (Rat.inv_pos.mpr (show 0<1-r by grind))
  have ex:r*q⁻¹ = 1+(r-q)*q⁻¹:=by grind
  have ey:(1-q)*(1-r)⁻¹ = 1+(r-q)*(1-r)⁻¹:=by grind
  rw[ex,ey]
  generalize (r-q)*q⁻¹ = x' at *
  generalize (r-q)*(1-r)⁻¹ = y' at *
  have z:=Rat.mul_pos x y
  grind
 have tp:=gR (p:=p) (q:=q) (b:=(1-p)*(1-q)⁻¹) (u:=(p*q⁻¹)*((1-q)*(1-p)⁻¹)) (by grind) (by grind) n
 have tr:=gR (p:=r) (q:=q) (b:=(1-r)*(1-q)⁻¹) (u:=(r*q⁻¹)*((1-q)*(1-r)⁻¹)) (by grind) (by grind) n
 generalize (1-p)*(1-q)⁻¹ = b at *
 generalize (1-r)*(1-q)⁻¹ = b' at *
 generalize (p*q⁻¹)*((1-q)*(1-p)⁻¹)=u at *
 generalize (r*q⁻¹)*((1-q)*(1-r)⁻¹)=v at *
 by_cases hn:rn p n i d<=rn q n i d∨rn r n i d<=rn q n i d
 ·exact hn
 ·exfalso
  obtain⟨c,c1,c2,c3⟩:∃ c,c<=rn p n i d/\c<=rn r n i d/\rn q n i d<c:=by
   by_cases h:rn p n i d<=rn r n i d
   ·exact⟨rn p n i d,by grind,h,by grind⟩
   ·exact⟨rn r n i d,by grind,by grind,by grind⟩
  have un:=dZ (Rat.le_of_lt h0) (show p<=1 by grind) (n:=n) (Nat.le_of_lt hi)
  have unq:=dZ (Rat.le_of_lt qp) (show q<=1 by grind) (n:=n) (Nat.le_of_lt hi)
  obtain⟨l,m,hl,hm,za,zd⟩:=AB u0 u1 v1 hi
  have cv:=AC u0 (show 0<v by grind) hl hm
  have key:sm (λ k=>l*(wt q n k*u^k*(ind i d k-c))+m*(wt q n k*v^k*(ind i d k-c))) (n+1)
    <= sm (λ k=>wt q n k*(ind i d k-c)) (n+1):=zO λ k _=>by
   have w:=eB (Rat.le_of_lt qp) (show q<=1 by grind) n k
   have g:(ind i d k-c)*(l*u^k+m*v^k-1)<=0:=by
    by_cases hk:i<=k/\k<d
    ·have x:=cv.mid za zd hk.1 (Nat.le_of_lt hk.2)
     rw[ind,if_pos hk]
     have:=rle x (show 0<=1-c by grind);grind
    ·have x:=cv.out za zd hi (show k<=i∨d<=k by omega)
     rw[ind,if_neg hk]
     have:=Rat.mul_nonneg (show 0<=c by grind) x;grind
   have:=rle g w
   generalize u^k=s at *
   generalize v^k=t at *
   generalize ind i d k=o at *
   grind
  rw[mz,fL,fL,qe q c (Nat.le_of_lt hi) hd] at key
  have sp:b^n*sm (λ k=>wt q n k*u^k*(ind i d k-c)) (n+1)=rn p n i d-c:=by
   rw[<-qe p c (Nat.le_of_lt hi) hd,<-fL];exact dE λ k _=>by rw[tp k];grind
  have sr:b'^n*sm (λ k=>wt q n k*v^k*(ind i d k-c)) (n+1)=rn r n i d-c:=by
   rw[<-qe r c (Nat.le_of_lt hi) hd,<-fL];exact dE λ k _=>by rw[tr k];grind
  have x:=bE (Rat.pow_pos b1:0<b^n) (by rw[sp];grind)
  have y:=bE (Rat.pow_pos b2:0<b'^n) (by rw[sr];grind)
  have x':=Rat.mul_nonneg hl x
  have y':=Rat.mul_nonneg hm y
  grind
theorem kz:∀ n m:Nat,cu 0 n (m+1)=1
 | 0,m=>cI 0 (by omega)
 | n+1,m=>by rw[d6,kz n m];grind
theorem qD:∀ {n m:Nat},m<=n->cu 1 n m=0
 | _,0,_=>cb 1 _
 | n+1,m+1,h=>by rw[d6,qD (show m<=n by omega)];grind
theorem Ay {p q r:Rat} (h0:0<=p) (h1:p<=q) (h2:q<=r) (h3:r<=1) {n i d:Nat} (hi:i<=d) (hd:d<=n+1) :
  rn p n i d<=rn q n i d∨rn r n i d<=rn q n i d:=by
 have qu:=dZ (show 0<=q by grind) (show q<=1 by grind) (n:=n) hi
 by_cases e1:p=q
 ·left;rw[e1];exact Rat.le_refl
 by_cases e2:q=r
 ·right;rw[e2];exact Rat.le_refl
 by_cases e3:i=d
 ·left;subst e3;unfold rn;grind
 by_cases e4:i=0
 ·right;subst e4
  have:=fj (show 0<=q by grind) h2 h3 n d
  simp only[rn,cb];grind
 by_cases e5:d=n+1
 ·left;subst e5
  have:=fj h0 h1 (show q<=1 by grind) n i
  simp only[rn,cI p (show n<n+1 by omega),cI q (show n<n+1 by omega)];grind
 by_cases e6:p=0
 ·left
  obtain⟨i',rfl⟩:∃ i',i=i'+1:=⟨i-1,by omega⟩
  obtain⟨d',rfl⟩:∃ d',d=d'+1:=⟨d-1,by omega⟩
  have:rn 0 n (i'+1) (d'+1)=0:=by unfold rn;rw[kz,kz];grind
  rw[e6,this];exact qu.1
 by_cases e7:r=1
 ·right
  have:rn 1 n i d=0:=by unfold rn;rw[qD (by omega),qD (by omega)];grind
  rw[e7,this];exact qu.1
 exact yf (by grind) (by grind) (by grind) (by grind) (by omega) hd
end Gc
namespace Gc
open Ch
theorem fP (r:Rat):(0:Int)<(r.den:Int):=by have:=r.den_nz;omega
theorem BV (r:Rat):Int.gcd r.num (r.den:Int)=1:=by
 have:=r.reduced
 rw[Int.gcd];simpa [Nat.Coprime] using this
theorem BW (r:Rat):(r.den:Rat)≠0:=by
 have:=r.den_nz
 intro h;exact this (by exact_mod_cast h)
theorem bR (r:Rat):r*(r.den:Rat)=(r.num:Rat):=by
 have h:=Rat.mkRat_self r
 rw[Rat.mkRat_eq_div] at h
 have d:=BW r
 generalize (r.num:Rat)=x at *
 generalize (r.den:Rat)=y at *
 grind
theorem ef {t b:Int} (h:b≠0) {r:Rat} (e:r*(b:Rat)=(t:Rat)):frT t b=r.num/\frB t b=(r.den:Int):=by
 refine zY h (fP r) (BV r) ?_
 have s:=bR r
 have:((t*(r.den:Int):Int):Rat)=((r.num*b:Int):Rat):=by push_cast;rw[<-e,<-s];grind
 exact_mod_cast this
theorem sJ (r s:Rat):frT (r.num*s.den+s.num*r.den) (r.den*s.den)=(r+s).num
  /\ frB (r.num*s.den+s.num*r.den) (r.den*s.den)=((r+s).den:Int):=by
 refine ef (fS (fP r) (fP s)) ?_
 have a:=bR r;have b:=bR s
 push_cast;rw[<-a,<-b];grind
theorem pj (r s:Rat):frT (r.num*s.den-s.num*r.den) (r.den*s.den)=(r-s).num
  /\ frB (r.num*s.den-s.num*r.den) (r.den*s.den)=((r-s).den:Int):=by
 refine ef (fS (fP r) (fP s)) ?_
 have a:=bR r;have b:=bR s
 push_cast;rw[<-a,<-b];grind
theorem Br {a b:Int}:((a:Rat)<(b:Rat))↔a<b:=Rat.intCast_lt_intCast
theorem mW (r s:Rat):r.num*(s.den:Int)<s.num*(r.den:Int)↔r<s:=by
 have a:=bR r;have b:=bR s
 have dr:(0:Rat)<(r.den:Rat):=by exact_mod_cast (show 0<r.den by have:=r.den_nz;omega)
 have ds:(0:Rat)<(s.den:Rat):=by exact_mod_cast (show 0<s.den by have:=s.den_nz;omega)
 have p:=Rat.mul_pos dr ds
 rw[<-Br];push_cast;rw[<-a,<-b]
 constructor
 ·intro h
  have:=jW p (x:=s-r) (by grind);grind
 ·intro h
  have:=Rat.mul_pos p (show 0<s-r by grind);grind
theorem Az {r s:Rat} (h1:r.num=s.num) (h2:(r.den:Int)=(s.den:Int)):r=s:=by
 apply Rat.ext h1;exact_mod_cast h2
theorem eH (r:Rat):0<=r.num↔0<=r:=Rat.num_nonneg
theorem lR (r:Rat):r.num<=(r.den:Int)↔r<=1:=by
 have:=mW 1 r
 have e1:(1:Rat).num=1:=rfl
 have e2:((1:Rat).den:Int)=1:=rfl
 rw[e1,e2] at this
 constructor
 ·intro h
  by_cases c:1<r
  ·exact absurd (this.mpr c) (by omega)
  ·grind
 ·intro h
  by_cases c:1*(r.den:Int)<r.num*1
  ·have:=this.mp c;grind
  ·omega
def rq (t b:Int):Rat:=(t:Rat) / (b:Rat)
def Ov (B:Nat) (r:Rat):Prop:=∃ m:Int,r*(B:Rat)=(m:Rat)
theorem Ov.dvd {B:Nat}{r:Rat} (h:Ov B r):r.den ∣ B:=by
 obtain⟨m,hm⟩:=h
 have s:=bR r
 have:((r.num*(B:Int):Int):Rat)=((m*(r.den:Int):Int):Rat):=by push_cast;rw[<-hm,<-s];grind
 have e:r.num*(B:Int)=m*(r.den:Int):=by exact_mod_cast this
 have d:(r.den:Int) ∣ (B:Int):=nG (k:=(r.den:Int)) (m:=r.num) ⟨m,by rw[e];exact Int.mul_comm _ _⟩ (by rw[Int.gcd_comm];exact BV r)
 exact_mod_cast d
theorem Ov.self (r:Rat):Ov r.den r:=⟨r.num,bR r⟩
theorem Ov.add {B:Nat}{r s:Rat} (h:Ov B r) (k:Ov B s):Ov B (r+s):=by
 obtain⟨a,ha⟩:=h;obtain⟨b,hb⟩:=k
 exact⟨a+b,by push_cast;rw[<-ha,<-hb];grind⟩
theorem Ov.sub {B:Nat}{r s:Rat} (h:Ov B r) (k:Ov B s):Ov B (r-s):=by
 obtain⟨a,ha⟩:=h;obtain⟨b,hb⟩:=k
 exact⟨a-b,by push_cast;rw[<-ha,<-hb];grind⟩
theorem Ov.mul {A B:Nat}{r s:Rat} (h:Ov A r) (k:Ov B s):Ov (A*B) (r*s):=by
 obtain⟨a,ha⟩:=h;obtain⟨b,hb⟩:=k
 exact⟨a*b,by push_cast;rw[<-ha,<-hb];grind⟩
theorem Ov.up {A B:Nat}{r:Rat} (h:Ov A r) (k:A ∣ B):Ov B r:=by
 obtain⟨c,rfl⟩:=k
 obtain⟨a,ha⟩:=h
 exact⟨a*c,by push_cast;rw[<-ha];grind⟩
theorem Ov.one (B:Nat):Ov B 1:=⟨(B:Int),by push_cast;grind⟩
theorem qT {p:Rat}{B:Nat} (h:Ov B p):∀ n k,Ov (B^n) (wt p n k)
 | 0,0=>by rw[wt];exact Ov.one _
 | 0,k+1=>by rw[wt];exact⟨0,by simp⟩
 | n+1,0=>by rw[wt,Nat.pow_succ,Nat.mul_comm];exact ((Ov.one B).sub h).mul (qT h n 0)
 | n+1,k+1=>by
   rw[wt,Nat.pow_succ,Nat.mul_comm]
   exact (((Ov.one B).sub h).mul (qT h n (k+1))).add (h.mul (qT h n k))
theorem zN {B:Nat}{f:Nat->Rat} (h:∀ k,Ov B (f k)):∀ m,Ov B (sm f m)
 | 0=>⟨0,by simp [sm]⟩
 | m+1=>(zN h m).add (h m)
theorem z8 {p:Rat}{B:Nat} (h:Ov B p) (n m:Nat):Ov (B^n) (cu p n m):=zN (qT h n) m
theorem BU {p:Rat}{B:Nat} (h:Ov B p) (n i d:Nat):Ov (B^n) (rn p n i d):=(z8 h n d).sub (z8 h n i)
structure RSz (n:Nat) (r:Rat):Prop where
 t:Sz n r.num
 b:Sz n (r.den:Int)
theorem RSz.of {n B:Nat}{r:Rat} (h:Ov B r) (hB:0<B) (hn:B<2^n) (h0:0<=r) (h1:r<=1):RSz n r:=by
 have a:=(eH r).mpr h0
 have b:=(lR r).mpr h1
 have c:=Nat.le_of_dvd hB h.dvd
 constructor<;>(unfold Sz;omega)
theorem zS {b m:Nat} (h:b<2^m):∀ {n:Nat},0<n->b^n<2^(m*n)
 | 1,_=>by simpa using h
 | n+2,_=>by
   have i:=zS (b:=b) h (show 0<n+1 by omega)
   have e:b^(n+2)=b^(n+1)*b:=Nat.pow_succ b (n+1)
   have e2:2^(m*(n+2))=2^(m*(n+1))*2^m:=by rw[<-Nat.pow_add];congr 1
   rw[e,e2]
   exact Nat.mul_lt_mul'' i h
end Gc
namespace Gc
open Ch
theorem fO (a b:Rat):∀ n:Nat,(a*b)^n=a^n*b^n
 | 0=>by simp
 | n+1=>by rw[Rat.pow_succ,Rat.pow_succ,Rat.pow_succ,fO a b n];grind
theorem jU (a:Rat) (m:Nat):∀ n:Nat,a^(m+n)=a^m*a^n
 | 0=>by simp
 | n+1=>by rw[<-Nat.add_assoc,Rat.pow_succ,Rat.pow_succ,jU a m n];grind
theorem cQ (a:Int):∀ n:Nat,((a^n:Int):Rat)=(a:Rat)^n
 | 0=>by simp
 | n+1=>by rw[Int.pow_succ,Rat.pow_succ,<-cQ a n];push_cast;rfl
def kF (p:Rat) (n k:Nat):Int:=(aP n k:Int)*p.num^k*((p.den:Int)-p.num)^(n-k)
theorem qQ (p:Rat) {n k:Nat} (h:k<=n):wt p n k*(((p.den:Int)^n:Int):Rat)=((kF p n k:Int):Rat):=by
 obtain⟨m,rfl⟩:=Nat.exists_eq_add_of_le h
 have s:=bR p
 have e1:k+m-k=m:=by omega
 rw[fY,kF,e1,cQ,jU]
 push_cast
 have a1:p^k*(p.den:Rat)^k=(p.num:Rat)^k:=by rw[<-fO,s]
 have a2:(1-p)*(p.den:Rat)=(p.den:Rat)-(p.num:Rat):=by rw[<-s];grind
 have a3:(1-p)^m*(p.den:Rat)^m=((p.den:Rat)-(p.num:Rat))^m:=by rw[<-fO,a2]
 have i1:((p.num^k:Int):Rat)=(p.num:Rat)^k:=cQ _ _
 have i2:((((p.den:Int)-p.num)^m:Int):Rat)=((p.den:Rat)-(p.num:Rat))^m:=by rw[cQ];push_cast;rfl
 first
 | rw[i1,i2,<-a1,<-a3]
 | rw[<-a1,<-a3]
 generalize p^k=x
 generalize (1-p)^m=y
 grind
def ism (f:Nat->Int):Nat->Int
 | 0=>0
 | m+1=>ism f m+f m
theorem h9 {f:Nat->Int}{g:Nat->Rat}{c:Rat}:∀ {m:Nat},(∀ k,k<m->g k*c=(f k:Rat))->sm g m*c=((ism f m:Int):Rat)
 | 0,_=>by simp only[sm,ism];push_cast;grind
 | m+1,h=>by
   have i:=h9 (m:=m) λ k hk=>h k (by omega)
   have j:=h m (by omega)
   simp only[sm,ism];push_cast;grind
theorem Sz.powN {m:Nat}{b:Int} (h:Sz m b):∀ i:Nat,Sz (m*i+1) (b^i)
 | 0=>by rw[Int.pow_zero,Nat.mul_zero];show (1:Int).natAbs<2^1;decide
 | i+1=>by
   rw[Int.pow_succ]
   exact ((Sz.powN h i).mul h).mono (by rw[Nat.mul_succ];omega)
theorem kC:∀ n k:Nat,aP n k<=2^n
 | 0,0=>by decide
 | 0,k+1=>by simp [aP]
 | n+1,0=>by rw[b0];exact Nat.one_le_two_pow
 | n+1,k+1=>by
   have a:=kC n k
   have b:=kC n (k+1)
   rw[bs,Nat.pow_succ];omega
theorem gS (n k:Nat):Sz (n+1) (aP n k:Int):=by
 unfold Sz
 have:=kC n k
 rw[Nat.pow_succ]
 have:0<2^n:=Nat.two_pow_pos n
 omega
theorem Al {m:Nat}{a b:Int} (h0:0<=a) (h1:a<=b) (sb:Sz m b):Sz m (b-a):=by unfold Sz at *;omega
theorem qY {m:Nat}{a b:Int} (h0:0<=a) (h1:a<=b) (sb:Sz m b):Sz m a:=by unfold Sz at *;omega
end Gc
namespace Gc
open Ch
theorem l7 (p:Rat) {n m:Nat} (h:m<=n+1):cu (1-p) n (n+1-m)=1-cu p n m:=by
 have a:=vz (wt p n) (n+1)
 have b:sm (λ k=>wt p n (n+1-1-k)) (n+1)=sm (wt (1-p) n) (n+1):=dE λ k hk=>by
  have e:n+1-1-k=n-k:=by omega
  rw[e,<-kS p (show n-k<=n by omega)]
  congr 1;omega
 have c:∀ j,j<=n+1->cu (1-p) n j+cu p n (n+1-j)=1:=by
  intro j
  induction j with
  | zero=>intro _;rw[cb,Nat.sub_zero,cI p (by omega)];grind
  | succ j ih =>
   intro hj
   have i:=ih (by omega)
   have e1:cu (1-p) n (j+1)=cu (1-p) n j+wt (1-p) n j:=rfl
   have e2:n+1-j=(n+1-(j+1))+1:=by omega
   have e3:cu p n (n+1-j)=cu p n (n+1-(j+1))+wt p n (n+1-(j+1)):=by rw[e2];rfl
   have e4:wt (1-p) n j=wt p n (n+1-(j+1)):=by
    have:=kS p (show n+1-(j+1)<=n by omega)
    rw[<-this];congr 1;omega
   grind
 have d:=c (n+1-m) (by omega)
 have e:n+1-(n+1-m)=m:=by omega
 rw[e] at d;grind
theorem tP (p:Rat) {n i d:Nat} (hi:i<=n+1) (hd:d<=n+1):rn (1-p) n (n+1-d) (n+1-i)=rn p n i d:=by
 unfold rn
 rw[l7 p hi,l7 p hd];grind
def dg (p:Rat) (n i j:Nat):Rat:=rn p n i (max i (j+1))
theorem dY {p:Rat}{n i j:Nat} (h:i<=j):dg p n i j=rn p n i (j+1):=by unfold dg;rw[Nat.max_eq_right (by omega)]
theorem lO {p:Rat} (h0:0<=p) (h1:p<=1) (n i j:Nat):0<=dg p n i j/\dg p n i j<=1:=dZ h0 h1 (Nat.le_max_left _ _)
theorem rM {p:Rat}{B:Nat} (h:Ov B p) (n i j:Nat):Ov (B^n) (dg p n i j):=BU h n i _
theorem jb (p:Rat) {n i j:Nat} (hi:i<=n) (hj:j<=n) (h:i<=j):dg (1-p) n (n-j) (n-i)=dg p n i j:=by
 rw[dY (by omega),dY h,<-tP p (show i<=n+1 by omega) (show j+1<=n+1 by omega)]
 congr 1<;>omega
end Gc
namespace Gc
def aF (r:Rat):List Rat->Nat
 | []=>0
 | x::xs=>if x<r then aF r xs+1 else 0
def o9 (r:Rat) (l:List Rat):List Rat:=l.take (aF r l)++r::l.drop (aF r l)
theorem eQ (r:Rat):∀ l:List Rat,aF r l<=l.length
 | []=>Nat.le_refl _
 | x::xs=>by
  have:=eQ r xs
  rw[aF];split<;>(simp only[List.length_cons];omega)
theorem hX {r:Rat}:∀ {l:List Rat}{i:Nat}{x:Rat},i<aF r l->l[i]? = some x->x<r
 | y::ys,0,x,h,e=>by
  rw[List.getElem?_cons_zero] at e;cases e
  rw[aF] at h
  by_cases c:y<r
  ·exact c
  ·rw[if_neg c] at h;omega
 | y::ys,i+1,x,h,e=>by
  rw[List.getElem?_cons_succ] at e
  rw[aF] at h
  by_cases c:y<r
  ·rw[if_pos c] at h;exact hX (by omega) e
  ·rw[if_neg c] at h;omega
theorem kc {r:Rat}:∀ {l:List Rat}{x:Rat},l[aF r l]? = some x->¬ x<r
 | y::ys,x,e=>by
  rw[aF] at e
  by_cases c:y<r
  ·rw[if_pos c,List.getElem?_cons_succ] at e;exact kc e
  ·rw[if_neg c,List.getElem?_cons_zero] at e;cases e;exact c
theorem wM (r:Rat) (l:List Rat):(o9 r l).length=l.length+1:=by
 have:=eQ r l
 unfold o9;simp;omega
theorem wL {r x:Rat}{l:List Rat}:x∈o9 r l↔x=r∨x∈l:=by
 have:=List.take_append_drop (aF r l) l
 unfold o9
 constructor
 ·intro h
  rcases List.mem_append.mp h with h | h
  ·exact .inr (List.mem_of_mem_take h)
  ·rcases List.mem_cons.mp h with h | h
   ·exact .inl h
   ·exact .inr (List.mem_of_mem_drop h)
 ·rintro (h | h)
  ·subst h;simp
  ·rw[<-this] at h
   rcases List.mem_append.mp h with h | h
   ·exact List.mem_append.mpr (.inl h)
   ·exact List.mem_append.mpr (.inr (List.mem_cons_of_mem _ h))
abbrev Up (l:List Rat):Prop:=l.Pairwise (·<=·)
theorem Up.at {l:List Rat} (h:Up l) {i j:Nat}{x y:Rat} (hij:i<=j) (ex:l[i]? = some x) (ey:l[j]? = some y):x<=y:=by
 by_cases e:i=j
 ·subst e;rw[ex] at ey;cases ey;exact Rat.le_refl
 ·obtain⟨hi,rfl⟩:=List.getElem?_eq_some_iff.mp ex
  obtain⟨hj,rfl⟩:=List.getElem?_eq_some_iff.mp ey
  exact List.pairwise_iff_getElem.mp h i j hi hj (by omega)
end Gc
namespace Gc
def aR (p:Rat):List Rat->Nat
 | []=>0
 | x::xs=>if x<=p then aR p xs+1 else 0
theorem dC (p:Rat):∀ l:List Rat,aR p l<=l.length
 | []=>Nat.le_refl _
 | x::xs=>by
  have:=dC p xs
  rw[aR];split<;>(simp only[List.length_cons];omega)
theorem ml {p:Rat}:∀ {l:List Rat}{i:Nat}{x:Rat},i<aR p l->l[i]? = some x->x<=p
 | y::ys,0,x,h,e=>by
  rw[List.getElem?_cons_zero] at e;cases e
  rw[aR] at h
  by_cases c:y<=p
  ·exact c
  ·rw[if_neg c] at h;omega
 | y::ys,i+1,x,h,e=>by
  rw[List.getElem?_cons_succ] at e
  rw[aR] at h
  by_cases c:y<=p
  ·rw[if_pos c] at h;exact ml (by omega) e
  ·rw[if_neg c] at h;omega
theorem jo {p:Rat}:∀ {l:List Rat}{x:Rat},l[aR p l]? = some x->¬ x<=p
 | y::ys,x,e=>by
  rw[aR] at e
  by_cases c:y<=p
  ·rw[if_pos c,List.getElem?_cons_succ] at e;exact jo e
  ·rw[if_neg c,List.getElem?_cons_zero] at e;cases e;exact c
theorem eC {p:Rat}{l:List Rat} (u:Up l) {i:Nat}{x:Rat} (e:l[i]? = some x):i<aR p l↔x<=p:=by
 constructor
 ·exact λ h=>ml h e
 ·intro h
  by_cases c:i<aR p l
  ·exact c
  ·exfalso
   have hi:i<l.length:=(List.getElem?_eq_some_iff.mp e).1
   have hu:aR p l<l.length:=by omega
   have e0:=List.getElem?_eq_getElem hu
   have:=u.at (show aR p l<=i by omega) e0 e
   exact jo e0 (by grind)
theorem eR {p:Rat}{l:List Rat} (u:Up l) {i:Nat}{x:Rat} (e:l[i]? = some x):i<aF p l↔x<p:=by
 constructor
 ·exact λ h=>hX h e
 ·intro h
  by_cases c:i<aF p l
  ·exact c
  ·exfalso
   have hi:i<l.length:=(List.getElem?_eq_some_iff.mp e).1
   have hu:aF p l<l.length:=by omega
   have e0:=List.getElem?_eq_getElem hu
   have:=u.at (show aF p l<=i by omega) e0 e
   exact kc e0 (by grind)
theorem iC {p q:Rat} (h:p<=q):∀ l:List Rat,aR p l<=aR q l
 | []=>Nat.le_refl _
 | x::xs=>by
  have:=iC h xs
  rw[aR,aR]
  by_cases c:x<=p
  ·rw[if_pos c,if_pos (by grind)];omega
  ·rw[if_neg c];omega
theorem gM {p q:Rat} (h:p<=q):∀ l:List Rat,aF p l<=aF q l
 | []=>Nat.le_refl _
 | x::xs=>by
  have:=gM h xs
  rw[aF,aF]
  by_cases c:x<p
  ·rw[if_pos c,if_pos (by grind)];omega
  ·rw[if_neg c];omega
def cov (n:Nat) (ls hs:List Rat) (a b p:Rat):Rat:=rn p n (aF b hs) (max (aF b hs) (aR a ls))
theorem wR {ls hs:List Rat} (u1:Up ls) (u2:Up hs) {a b l h:Rat}{k:Nat} (e1:ls[k]? = some l) (e2:hs[k]? = some h):(aF b hs<=k/\k<aR a ls)↔(l<=a/\b<=h):=by
 have x:=eC (p:=a) u1 e1
 have y:=eR (p:=b) u2 e2
 constructor
 ·rintro⟨h1,h2⟩
  refine⟨x.mp h2,?_⟩
  have:¬ h<b:=λ z=>by have:=y.mpr z;omega
  grind
 ·rintro⟨h1,h2⟩
  refine⟨?_,x.mpr h1⟩
  by_cases z:k<aF b hs
  ·have:=y.mp z;grind
  ·omega
theorem kU {ls:List Rat} (u:Up ls) {a p:Rat} (h:a<=p) (none:∀ x∈ls,¬ (a<x/\x<=p)):aR p ls=aR a ls:=by
 have m:=iC h ls
 by_cases c:aR p ls=aR a ls
 ·exact c
 ·exfalso
  have hl:aR a ls<aR p ls:=by omega
  have hlen:aR a ls<ls.length:=Nat.lt_of_lt_of_le hl (dC p ls)
  have e:=List.getElem?_eq_getElem hlen
  have z1:=ml hl e
  have z2:=jo e
  exact none _ (List.getElem_mem hlen) ⟨by grind,z1⟩
theorem kb {hs:List Rat} (u:Up hs) {p b:Rat} (h:p<=b) (none:∀ x∈hs,¬ (p<=x/\x<b)):aF p hs=aF b hs:=by
 have m:=gM h hs
 by_cases c:aF p hs=aF b hs
 ·exact c
 ·exfalso
  have hl:aF p hs<aF b hs:=by omega
  have hlen:aF p hs<hs.length:=Nat.lt_of_lt_of_le hl (eQ b hs)
  have e:=List.getElem?_eq_getElem hlen
  have z1:=hX hl e
  have z2:=kc e
  exact none _ (List.getElem_mem hlen) ⟨by grind,z1⟩
theorem oI {p:Rat} (h0:0<=p) (h1:p<=1) {n i d i' d':Nat} (hi:i'<=i) (hd:d<=d'):rn p n i d<=rn p n i' d':=by
 have a:=cY h0 h1 n hi
 have b:=cY h0 h1 n hd
 unfold rn;grind
theorem l8 {n:Nat}{ls hs:List Rat}{a b a' b' p:Rat} (h0:0<=p) (h1:p<=1) (ha:a<=a') (hb:b'<=b):cov n ls hs a b p<=cov n ls hs a' b' p:=by
 have x:=iC ha ls
 have y:=gM hb hs
 unfold cov
 by_cases c:aF b hs<=aR a ls
 ·exact oI h0 h1 y (by omega)
 ·have e:max (aF b hs) (aR a ls)=aF b hs:=by omega
  rw[e]
  have z:rn p n (aF b hs) (aF b hs)=0:=by unfold rn;grind
  rw[z]
  exact (dZ h0 h1 (Nat.le_max_left _ _)).1
theorem uD {n:Nat}{ls hs:List Rat} (u1:Up ls) (u2:Up hs) (l1:ls.length<=n+1) (l2:hs.length<=n+1) {a b p:Rat} (h0:0<=a) (h1:b<=1) (ha:a<p) (hb:p<b)
  (nl:∀ x∈ls,¬ (a<x/\x<b)) (nh:∀ x∈hs,¬ (a<x/\x<b)) :
  cov n ls hs p p p=cov n ls hs a b p/\(cov n ls hs a b a<=cov n ls hs p p p∨cov n ls hs a b b<=cov n ls hs p p p):=by
 have e1:aR p ls=aR a ls:=kU u1 (by grind) λ x hx z=>nl x hx ⟨z.1,by grind⟩
 have e2:aF p hs=aF b hs:=kb u2 (by grind) λ x hx z=>nh x hx ⟨by grind,z.2⟩
 have e:cov n ls hs p p p=cov n ls hs a b p:=by unfold cov;rw[e1,e2]
 refine⟨e,?_⟩
 rw[e]
 unfold cov
 have z1:=dC a ls
 have z2:=eQ b hs
 exact Ay h0 (by grind) (by grind) h1 (Nat.le_max_left _ _) (by omega)
end Gc
namespace Gc
end Gc
namespace Gc
def CM (r:Rat) (l:List Rat):List Rat:=l.take (aR r l)++r::l.drop (aR r l)
def ord:List Rat->List Rat:=List.foldl (λ acc r=>CM r acc) []
theorem n9 {r:Rat}:∀ {l:List Rat},Up l->(l.filter λ x=>decide (x<=r)).length=aR r l
 | [],_=>rfl
 | x::xs,u=>by
  obtain⟨h1,h2⟩:=List.pairwise_cons.mp u
  rw[aR]
  by_cases c:x<=r
  ·rw[if_pos c,List.filter_cons_of_pos (by simpa using c),List.length_cons,n9 h2]
  ·rw[if_neg c,List.filter_cons_of_neg (by simpa using c)]
   have:(xs.filter λ x=>decide (x<=r)) = []:=List.filter_eq_nil_iff.mpr λ y hy=>by
    have:=h1 y hy
    simp;grind
   rw[this];rfl
end Gc
namespace Gc
abbrev Inc (l:List Rat):Prop:=l.Pairwise (· < ·)
theorem Inc.up {l:List Rat} (h:Inc l):Up l:=List.Pairwise.imp (λ h=>by grind) h
def kP (acc:List Rat) (r:Rat):List Rat:=if r∈acc then acc else o9 r acc
def edg (l:List Rat):List Rat:=l.foldl kP []
theorem kt (l:List Rat) (r:Rat):edg (l++[r])=kP (edg l) r:=by unfold edg;rw[List.foldl_append];rfl
theorem wN {r:Rat}{l:List Rat} (h:Inc l) (hr:r ∉ l):Inc (o9 r l):=by
 unfold o9
 have hu:=h.up
 refine List.pairwise_append.mpr ⟨h.sublist (List.take_sublist _ _),List.pairwise_cons.mpr ⟨?_,h.sublist (List.drop_sublist _ _)⟩,?_⟩
 ·intro x hx
  obtain⟨i,hi⟩:=List.mem_iff_getElem?.mp hx
  rw[List.getElem?_drop] at hi
  have h1:¬ x<r:=λ c=>by
   have:=(eR hu hi (p:=r)).mpr c
   omega
  have h2:x≠r:=λ e=>hr (e ▸ List.mem_of_getElem? hi)
  grind
 ·intro x hx y hy
  obtain⟨i,hi⟩:=List.mem_iff_getElem?.mp hx
  have hil:i<aF r l:=by
   have:=(List.getElem?_eq_some_iff.mp hi).1
   simp at this
   omega
  rw[List.getElem?_take_of_lt hil] at hi
  have hxr:=hX hil hi
  rcases List.mem_cons.mp hy with rfl | hy
  ·exact hxr
  ·obtain⟨j,hj⟩:=List.mem_iff_getElem?.mp hy
   rw[List.getElem?_drop] at hj
   have h1:¬ y<r:=λ c=>by
    have:=(eR hu hj (p:=r)).mpr c
    omega
   grind
theorem xy {r:Rat}{l:List Rat} (h:Inc l):Inc (kP l r):=by
 unfold kP
 split
 ·exact h
 ·exact wN h ‹_›
theorem xw {r x:Rat}{l:List Rat}:x∈kP l r↔x=r∨x∈l:=by
 unfold kP
 split
 ·constructor
  ·exact .inr
  ·rintro (rfl | h)
   ·assumption
   ·exact h
 ·exact wL
theorem eA (l:List Rat):Inc (edg l)/\∀ x,x∈edg l↔x∈l:=by
 have:∀ (n:Nat) (l:List Rat),l.length=n->Inc (edg l)/\∀ x,x∈edg l↔x∈l:=by
  intro n
  induction n with
  | zero =>
   intro l hl
   have:l = []:=List.eq_nil_of_length_eq_zero hl
   subst this
   exact⟨List.Pairwise.nil,λ x=>Iff.rfl⟩
  | succ n ih =>
   intro l hl
   rcases List.eq_nil_or_concat l with e | ⟨l',r,e⟩
   ·rw[e] at hl;simp at hl
   ·rw[List.concat_eq_append] at e
    subst e
    obtain⟨i1,i2⟩:=ih l' (by simp at hl;exact hl)
    rw[kt]
    refine⟨xy i1,λ x=>?_⟩
    rw[xw,i2,List.mem_append,List.mem_singleton]
    constructor
    ·rintro (h | h)
     ·exact .inr h
     ·exact .inl h
    ·rintro (h | h)
     ·exact .inr h
     ·exact .inl h
 exact this _ l rfl
theorem xx (l:List Rat) (r:Rat):(kP l r).length<=l.length+1:=by
 unfold kP
 split
 ·omega
 ·rw[wM];omega
theorem sM (l:List Rat):(edg l).length<=l.length:=by
 have:∀ (n:Nat) (l:List Rat),l.length=n->(edg l).length<=n:=by
  intro n
  induction n with
  | zero =>
   intro l hl
   have:l = []:=List.eq_nil_of_length_eq_zero hl
   subst this
   exact Nat.le_refl _
  | succ n ih =>
   intro l hl
   rcases List.eq_nil_or_concat l with e | ⟨l',r,e⟩
   ·rw[e] at hl;simp at hl
   ·rw[List.concat_eq_append] at e
    subst e
    have:=ih l' (by simp at hl;exact hl)
    have:=xx (edg l') r
    rw[kt]
    omega
 exact this _ l rfl
theorem sE:∀ {a b:List Rat},Inc a->Inc b->(∀ x,x∈a↔x∈b)->a=b
 | [],[],_,_,_=>rfl
 | [],y::b,_,_,h=>by have:=(h y).mpr (List.mem_cons_self ..);cases this
 | x::a,[],_,_,h=>by have:=(h x).mp (List.mem_cons_self ..);cases this
 | x::a,y::b,ha,hb,h=>by
  obtain⟨a1,a2⟩:=List.pairwise_cons.mp ha
  obtain⟨b1,b2⟩:=List.pairwise_cons.mp hb
  have e:x=y:=by
   rcases List.mem_cons.mp ((h x).mp (List.mem_cons_self ..)) with e | h1
   ·exact e
   ·rcases List.mem_cons.mp ((h y).mpr (List.mem_cons_self ..)) with e | h2
    ·exact e.symm
    ·have:=b1 x h1
     have:=a1 y h2
     grind
  subst e
  have:a=b:=sE a2 b2 λ z=>by
   constructor
   ·intro hz
    rcases List.mem_cons.mp ((h z).mp (List.mem_cons_of_mem _ hz)) with e | h1
    ·subst e;have:=a1 z hz;grind
    ·exact h1
   ·intro hz
    rcases List.mem_cons.mp ((h z).mpr (List.mem_cons_of_mem _ hz)) with e | h1
    ·subst e;have:=b1 z hz;grind
    ·exact h1
  rw[this]
theorem ny {l:List Rat} (h:Inc l) {k:Nat}{a b:Rat} (ea:l[k]? = some a) (eb:l[k+1]? = some b):a<b/\∀ x∈l,¬ (a<x/\x<b):=by
 have hu:=h.up
 have h1:a<b:=by
  obtain⟨h1,e1⟩:=List.getElem?_eq_some_iff.mp ea
  obtain⟨h2,e2⟩:=List.getElem?_eq_some_iff.mp eb
  rw[<-e1,<-e2]
  exact List.pairwise_iff_getElem.mp h k (k+1) h1 h2 (by omega)
 refine⟨h1,λ x hx=>?_⟩
 obtain⟨i,hi⟩:=List.mem_iff_getElem?.mp hx
 rintro⟨c1,c2⟩
 by_cases z:i<=k
 ·have:=hu.at z hi ea;grind
 ·have:=hu.at (show k+1<=i by omega) eb hi;grind
end Gc
namespace Gc
end Gc
namespace Gc
open Ch
def wtI (t b:Int) (n k:Nat):Int:=(aP n k:Int)*t^k*(b-t)^(n-k)
theorem Ad {r:Rat}{t b:Int} (e:r*(b:Rat)=(t:Rat)) {n k:Nat} (h:k<=n):wt r n k*((b^n:Int):Rat)=((wtI t b n k:Int):Rat):=by
 obtain⟨m,rfl⟩:=Nat.exists_eq_add_of_le h
 have e1:k+m-k=m:=by omega
 rw[fY,wtI,e1,cQ,jU]
 have a1:r^k*(b:Rat)^k=(t:Rat)^k:=by rw[<-fO,e]
 have a2:(1-r)*(b:Rat)=(b:Rat)-(t:Rat):=by rw[<-e];grind
 have a3:(1-r)^m*(b:Rat)^m=((b:Rat)-(t:Rat))^m:=by rw[<-fO,a2]
 have i1:((t^k:Int):Rat)=(t:Rat)^k:=cQ _ _
 have i2:(((b-t)^m:Int):Rat)=((b:Rat)-(t:Rat))^m:=by rw[cQ,Rat.intCast_sub]
 rw[Rat.intCast_mul,Rat.intCast_mul,i1,i2,<-a1,<-a3,Rat.intCast_natCast]
 generalize r^k=x
 generalize (1-r)^m=y
 grind
theorem vw {f:Nat->Rat}{i j:Nat}:∀ m,sm (λ k=>if i<=k/\k<j then f k else 0) m=sm f (min m (max i j))-sm f (min m i)
 | 0=>by simp [sm];grind
 | m+1=>by
  have ih:=vw (f:=f) (i:=i) (j:=j) m
  show sm (λ k=>if i<=k/\k<j then f k else 0) m+(if i<=m/\m<j then f m else 0)=_
  rw[ih]
  by_cases c1:i<=m
  ·by_cases c2:m<j
   ·rw[if_pos ⟨c1,c2⟩]
    have e1:min (m+1) (max i j)=min m (max i j)+1:=by omega
    have e2:min m (max i j)=m:=by omega
    have e3:min (m+1) i=min m i:=by omega
    rw[e1,e3]
    show _=sm f (min m (max i j))+f (min m (max i j))-_
    rw[e2]
    grind
   ·rw[if_neg (by omega)]
    have e1:min (m+1) (max i j)=min m (max i j):=by omega
    have e3:min (m+1) i=min m i:=by omega
    rw[e1,e3]
    grind
  ·rw[if_neg (by omega)]
   have e1:min (m+1) (max i j)=m+1:=by omega
   have e2:min m (max i j)=m:=by omega
   have e3:min (m+1) i=m+1:=by omega
   have e4:min m i=m:=by omega
   rw[e1,e2,e3,e4]
   grind
def hT (ls hs:List Rat) (r:Rat) (t b:Int) (n:Nat) (k:Nat):Int:=if aF r hs<=k/\k<aR r ls then wtI t b n k else 0
theorem pd {es:List Rat} (h:Inc es) (m0:(0:Rat)∈es) (m1:(1:Rat)∈es) {p:Rat} (h0:0<=p) (h1:p<=1):∃ (k:Nat) (a b:Rat),es[k]? = some a/\es[k+1]? = some b/\a<=p/\p<=b:=by
 have hu:=h.up
 obtain⟨i,hi⟩:=List.mem_iff_getElem?.mp m0
 obtain⟨j,hj⟩:=List.mem_iff_getElem?.mp m1
 have ui:=(eC hu hi (p:=p)).mpr h0
 have ul:=dC p es
 by_cases c:aR p es<es.length
 ·have ea:=List.getElem?_eq_getElem (show aR p es-1<es.length by omega)
  have eb:=List.getElem?_eq_getElem c
  refine⟨aR p es-1,_,_,ea,by rw[show aR p es-1+1=aR p es by omega];exact eb,(eC hu ea).mp (by omega),?_⟩
  have:=jo eb
  grind
 ·have e:aR p es=es.length:=by omega
  have jl:=(List.getElem?_eq_some_iff.mp hj).1
  have jp:=(eC hu hj (p:=p)).mp (by omega)
  have il:=(List.getElem?_eq_some_iff.mp hi).1
  have nij:i≠j:=λ z=>by subst z;rw[hi] at hj;cases hj
  have ij:i<j:=by
   by_cases z:i<j
   ·exact z
   ·have:=hu.at (show j<=i by omega) hj hi
    exact absurd this (by decide)
  have ea:=List.getElem?_eq_getElem (show j-1<es.length by omega)
  refine⟨j-1,_,1,ea,by rw[show j-1+1=j by omega];exact hj,?_,h1⟩
  have:=hu.at (show j-1<=j by omega) ea hj
  grind
end Gc
namespace Gc
open Ch
def Bt (l0 l1 h0 h1 y1 y2:Int):Prop:=0<y2/\Int.gcd y1 y2=1/\l0*y2<y1*l1/\y1*h1<h0*y2
structure SI (Z A B l0 l1 h0 h1 a b c d:Int):Prop where
 l0p:0<=l0
 l1p:0<l1
 h0p:0<h0
 h1p:0<=h1
 lt:l0*h1<h0*l1
 ap:0<=a
 bp:0<=b
 cp:0<=c
 dp:0<=d
 z1:l0<=Z
 z2:l1<=Z
 z3:h0<=Z
 z4:h1<=Z
 sA:a*(l0+h0)+c*(l1+h1)=A
 sB:b*(l0+h0)+d*(l1+h1)=B
theorem zZ {l0 l1:Int} (h0:0<=l0) (h1:0<l1):0<=l0 / l1/\l0 / l1*l1<=l0/\l0<l0 / l1*l1+l1/\l0 / l1<=l0:=by
 have e:=Int.mul_ediv_add_emod l0 l1
 have m0:=Int.emod_nonneg l0 (Int.ne_of_gt h1)
 have m1:=Int.emod_lt_of_pos l0 h1
 have w0:0<=l0 / l1:=Int.ediv_nonneg h0 (Int.le_of_lt h1)
 rw[Int.mul_comm] at e
 refine⟨w0,by omega,by omega,?_⟩
 have:l0 / l1*1<=l0 / l1*l1:=Int.mul_le_mul_of_nonneg_left (by omega) w0
 omega
theorem wB {a b:Int} (ha:0<=a) (hb:0<=b):0<=a*b:=Int.mul_nonneg ha hb
section
variable {Z A B l0 l1 h0 h1 a b c d:Int}
theorem SI.low (s:SI Z A B l0 l1 h0 h1 a b c d):0<h0-l0 / l1*h1:=by
 obtain⟨w0,w1,w2,w3⟩:=zZ s.l0p s.l1p
 have e1:l0 / l1*l1*h1<=l0*h1:=Int.mul_le_mul_of_nonneg_right w1 s.h1p
 have e2:l0 / l1*l1*h1=l0 / l1*h1*l1:=by grind
 have e3:l0 / l1*h1*l1<h0*l1:=by have:=s.lt;omega
 have:=Int.lt_of_mul_lt_mul_right e3 (Int.le_of_lt s.l1p)
 omega
theorem SI.step (s:SI Z A B l0 l1 h0 h1 a b c d) (hc:h0<=(l0 / l1+1)*h1) :
  SI Z A B h1 (h0-l0 / l1*h1) l1 (l0-l0 / l1*l1) (l0 / l1*a+c) (l0 / l1*b+d) a b/\(h0-l0 / l1*h1)+(l0-l0 / l1*l1)<l1+h1:=by
 have p1:=s.low
 obtain⟨w0,w1,w2,w3⟩:=zZ s.l0p s.l1p
 have lt:=s.lt
 have sA:=s.sA
 have sB:=s.sB
 have q1:=wB w0 s.h1p
 have q2:=wB w0 (Int.le_of_lt s.l1p)
 have q3:=wB w0 s.ap
 have q4:=wB w0 s.bp
 have z1:=s.z1
 have z2:=s.z2
 have z3:=s.z3
 have z4:=s.z4
 have cp:=s.cp
 have dp:=s.dp
 have hc':h0<=l0 / l1*h1+h1:=by rw[Int.add_mul,Int.one_mul] at hc;exact hc
 generalize l0 / l1=w at *
 refine⟨⟨s.h1p,p1,s.l1p,by omega,?_,by omega,by omega,s.ap,s.bp,s.z4,by omega,s.z2,by omega,?_,?_⟩,by omega⟩
 ·have e1:h1*(l0-w*l1)=l0*h1-w*l1*h1:=by grind
  have e2:l1*(h0-w*h1)=h0*l1-w*l1*h1:=by grind
  rw[e1,e2]
  omega
 ·rw[<-sA];grind
 ·rw[<-sB];grind
theorem Bt.step {y1 y2:Int} (s:SI Z A B l0 l1 h0 h1 a b c d) (h:Bt h1 (h0-l0 / l1*h1) l1 (l0-l0 / l1*l1) y1 y2):Bt l0 l1 h0 h1 (l0 / l1*y1+y2) y1:=by
 obtain⟨y2p,g,i1,i2⟩:=h
 have p1:=s.low
 have y1p:0<y1:=by
  have:0<y1*(h0-l0 / l1*h1):=Int.lt_of_le_of_lt (wB s.h1p (Int.le_of_lt y2p)) i1
  exact Int.pos_of_mul_pos_left this p1
 refine⟨y1p,?_,?_,?_⟩
 ·rw[Int.gcd_comm] at g
  rw[Int.gcd_mul_right_add_left,g]
 ·have e:(l0 / l1*y1+y2)*l1=l0 / l1*l1*y1+l1*y2:=by grind
  have e2:y1*(l0-l0 / l1*l1)=l0*y1-l0 / l1*l1*y1:=by grind
  rw[e2] at i2
  rw[e]
  omega
 ·have e:(l0 / l1*y1+y2)*h1=l0 / l1*h1*y1+h1*y2:=by grind
  have e2:y1*(h0-l0 / l1*h1)=h0*y1-l0 / l1*h1*y1:=by grind
  rw[e2] at i1
  rw[e]
  omega
end
end Gc
namespace Gc
theorem qV {p:Rat}:∀ {ls ls':List Rat},ls.length=ls'.length->(∀ (k:Nat) (x y:Rat),ls[k]? = some x->ls'[k]? = some y->y<=x)->aR p ls<=aR p ls'
 | [],[],_,_=>Nat.le_refl _
 | [],_::_,h,_=>by simp at h
 | _::_,[],h,_=>by simp at h
 | x::xs,y::ys,h,g=>by
  have i:=qV (p:=p) (ls:=xs) (ls':=ys) (by simpa using h) λ k u v e1 e2=>g (k+1) u v (by simpa using e1) (by simpa using e2)
  have j:=g 0 x y rfl rfl
  rw[aR,aR]
  by_cases c:x<=p
  ·rw[if_pos c,if_pos (by grind)];omega
  ·rw[if_neg c];split<;>omega
theorem o4 {p:Rat}:∀ {hs hs':List Rat},hs.length=hs'.length->(∀ (k:Nat) (x y:Rat),hs[k]? = some x->hs'[k]? = some y->x<=y)->aF p hs'<=aF p hs
 | [],[],_,_=>Nat.le_refl _
 | [],_::_,h,_=>by simp at h
 | _::_,[],h,_=>by simp at h
 | x::xs,y::ys,h,g=>by
  have i:=o4 (p:=p) (hs:=xs) (hs':=ys) (by simpa using h) λ k u v e1 e2=>g (k+1) u v (by simpa using e1) (by simpa using e2)
  have j:=g 0 x y rfl rfl
  rw[aF,aF]
  by_cases c:y<p
  ·rw[if_pos c,if_pos (by grind)];omega
  ·rw[if_neg c];split<;>omega
theorem Bn {n:Nat}{ls hs ls' hs':List Rat}{p:Rat} (h0:0<=p) (h1:p<=1) (x:aR p ls<=aR p ls') (y:aF p hs'<=aF p hs):cov n ls hs p p p<=cov n ls' hs' p p p:=by
 unfold cov
 by_cases c:aF p hs<=aR p ls
 ·exact oI h0 h1 y (by omega)
 ·have e:max (aF p hs) (aR p ls)=aF p hs:=by omega
  rw[e]
  have z:=(dZ h0 h1 (n:=n) (show aF p hs'<=max (aF p hs') (aR p ls') by omega)).1
  have:rn p n (aF p hs) (aF p hs)=0:=by unfold rn;grind
  rw[this];exact z
theorem Cv {n:Nat} (n1:1<=n) {d g:Rat} (d0:0<d) (g0:0<g):∃ t:Rat,0<t/\t<d/\(n:Rat)*t<g:=by
 have N0:(0:Rat)<(n:Rat):=nP n1
 generalize (n:Rat)=N at *
 have k1:=Rat.mul_pos N0 d0
 have D0:0<N*d+g:=by grind
 have e:(d*g / (N*d+g))*(N*d+g)=d*g:=by grind
 generalize d*g / (N*d+g)=t at *
 have k2:=Rat.mul_pos d0 g0
 have k3:=Rat.mul_pos k1 d0
 have k4:=Rat.mul_pos g0 g0
 refine⟨t,jW D0 (by grind),?_,?_⟩
 ·have:=jW D0 (x:=d-t) (by grind)
  grind
 ·have e2:N*(t*(N*d+g))=N*(d*g):=by rw[e]
  have e3:(N*d+g)*(g-N*t)=g*g:=by grind
  have:=jW D0 (x:=g-N*t) (by rw[e3];exact k4)
  grind
end Gc
namespace Stb
open PySem
def Ris (xs:Array Nat):Prop:=xs.toList.Pairwise (· < ·)
theorem mV {xs:Array Nat} (h:Ris xs) {a b:Nat} (ab:a<b) (hb:b<xs.size):xs.getD a 0<xs.getD b 0:=by
 have:=List.pairwise_iff_getElem.mp h a b (by simpa using Nat.lt_trans ab hb) (by simpa using hb) ab
 simp [Array.getD,hb,Nat.lt_trans ab hb]
 simpa using this
theorem nB {xs:Array Nat}{j:Nat} (h:Ris xs):∀ (fuel lo hi:Nat),lo<=hi->hi<=xs.size->hi-lo<=fuel->(∀ k,k<lo->xs.getD k 0<j)->(∀ k,hi<=k->k<xs.size->j<=xs.getD k 0) ->
  SetTable.below.go xs j fuel lo hi<=xs.size/\(∀ k,k<SetTable.below.go xs j fuel lo hi->xs.getD k 0<j)/\(∀ k,SetTable.below.go xs j fuel lo hi<=k->k<xs.size->j<=xs.getD k 0)
 | 0,lo,hi,a,b,c,d,e=>by
  have:lo=hi:=by omega
  subst this
  exact⟨b,d,e⟩
 | fuel+1,lo,hi,a,b,c,d,e=>by
  unfold SetTable.below.go
  by_cases l:lo<hi
  ·rw[if_pos l]
   have lm:(lo+hi) / 2<xs.size:=by omega
   have gm:xs.getD ((lo+hi) / 2) j=xs.getD ((lo+hi) / 2) 0:=by simp [Array.getD,lm]
   dsimp only
   rw[gm]
   by_cases q:xs.getD ((lo+hi) / 2) 0<j
   ·rw[if_pos q]
    refine nB h fuel _ _ (by omega) b (by omega) (λ k hk=>?_) e
    by_cases kk:k=(lo+hi) / 2
    ·rw[kk];exact q
    ·exact Nat.lt_trans (mV h (show k<(lo+hi) / 2 by omega) lm) q
   ·rw[if_neg q]
    refine nB h fuel _ _ (by omega) (by omega) (by omega) d (λ k hk hs=>?_)
    by_cases kk:k=(lo+hi) / 2
    ·rw[kk];omega
    ·have:=mV h (show (lo+hi) / 2<k by omega) hs
     omega
  ·rw[if_neg l]
   have:lo=hi:=by omega
   subst this
   exact⟨b,d,e⟩
theorem fu {xs:Array Nat} (h:Ris xs) (j:Nat):SetTable.below xs j<=xs.size/\(∀ k,k<SetTable.below xs j->xs.getD k 0<j)/\(∀ k,SetTable.below xs j<=k->k<xs.size->j<=xs.getD k 0) :=
 nB h xs.size 0 xs.size (Nat.zero_le _) (Nat.le_refl _) (by omega) (λ k hk=>absurd hk (by omega)) (λ k a b=>absurd a (by omega))
theorem qL {xs:Array Nat} (h:Ris xs) {i:Nat} (hi:i<xs.size):SetTable.below xs (xs.getD i 0+1)=i+1:=by
 obtain⟨a,b,c⟩:=fu h (xs.getD i 0+1)
 apply Nat.le_antisymm
 ·apply Nat.le_of_not_lt;intro l
  have l1:i+1<xs.size:=by omega
  have:=b (i+1) l
  have:=mV h (show i<i+1 by omega) l1
  omega
 ·apply Nat.le_of_not_lt;intro l
  have:=c i (by omega) hi
  omega
theorem qK {xs:Array Nat} (h:Ris xs):SetTable.below xs 0=0:=by
 obtain⟨a,b,c⟩:=fu h 0
 apply Nat.le_antisymm _ (Nat.zero_le _)
 apply Nat.le_of_not_lt;intro l
 have:=b 0 l
 omega
theorem A9 {xs:Array Nat} (h:Ris xs) {j:Nat} (n:xs[SetTable.below xs j]?≠some j):∀ k,k<xs.size->xs.getD k 0≠j:=by
 intro k hk e
 obtain⟨a,b,c⟩:=fu h j
 by_cases q:k<SetTable.below xs j
 ·have:=b k q;omega
 ·by_cases kk:k=SetTable.below xs j
  ·apply n;rw[<-kk];simp [Array.getD,hk] at e;simp [hk,e]
  ·have l1:SetTable.below xs j<k:=by omega
   have:=mV h l1 hk
   have:=c _ (Nat.le_refl _) (Nat.lt_trans l1 hk)
   omega
theorem kJ {α:Type} (xs:Array α) (p:Nat) (x:α) (hp:p<=xs.size):(SetTable.insertAt xs p x).toList=xs.toList.take p++x::xs.toList.drop p:=by
 unfold SetTable.insertAt
 simp [Array.toList_extract,List.extract_eq_take_drop]
 rw[List.take_of_length_le (by simp)]
theorem yg {xs:Array Nat} (h:Ris xs) {j:Nat} (n:xs[SetTable.below xs j]?≠some j):Ris (SetTable.insertAt xs (SetTable.below xs j) j):=by
 obtain⟨a,b,c⟩:=fu h j
 have no:=A9 h n
 unfold Ris
 rw[kJ _ _ _ a]
 rw[List.pairwise_append,List.pairwise_cons]
 have g:∀ k (hk:k<xs.toList.length),xs.toList[k]=xs.getD k 0:=by intro k hk;simp at hk;simp [Array.getD,hk]
 have up:∀ y∈xs.toList.drop (SetTable.below xs j),j<y:=by
  intro y hy
  obtain⟨k,hk,e⟩:=List.getElem_of_mem hy
  rw[List.getElem_drop,g] at e
  simp at hk
  have l:SetTable.below xs j+k<xs.size:=by omega
  have:=c (SetTable.below xs j+k) (by omega) l
  have:=no _ l
  omega
 have dn:∀ y∈xs.toList.take (SetTable.below xs j),y<j:=by
  intro y hy
  obtain⟨k,hk,e⟩:=List.getElem_of_mem hy
  rw[List.getElem_take,g] at e
  simp at hk
  have:=b k (by omega)
  omega
 refine⟨List.Pairwise.sublist (List.take_sublist _ _) h,⟨up,List.Pairwise.sublist (List.drop_sublist _ _) h⟩,λ y hy z hz=>?_⟩
 rcases List.mem_cons.mp hz with rfl | hz
 ·exact dn y hy
 ·exact Nat.lt_trans (dn y hy) (up z hz)
structure Tok (b:Bool) (t:SetTable):Prop where
 ris:Ris t.place
 dum:t.dummies=#[]
 led:t.led=b
theorem sF (j:Nat):SetTable.has #[] j=false:=by
 unfold SetTable.has SetTable.below SetTable.below.go;simp
theorem tF (b:Bool) (f m:Nat):Tok b (SetTable.fresh f m b):=⟨List.Pairwise.nil,rfl,rfl⟩
theorem dW {b:Bool}{t:SetTable} (k:Tok b t) (n:Nat):Tok b (t.standIn n) :=
 ⟨by show (Array.range n).toList.Pairwise _;rw[Array.toList_range];exact List.pairwise_lt_range,rfl,k.led⟩
theorem Af {b:Bool}{t:SetTable} (k:Tok b t) (n:Nat):Tok b (t.orStandIn n):=by
 unfold SetTable.orStandIn;split
 ·exact k
 ·exact dW k n
theorem kH {t:SetTable} (d:t.dummies=#[]) (j:Nat):t.slot j≠.dummy:=by
 unfold SetTable.slot;rw[d,sF];dsimp only;split<;>simp
theorem uN (t:SetTable) (p:SetTable.Probe):(t.advance p).dummy=p.dummy:=by unfold SetTable.advance;split<;>rfl
theorem jc {t:SetTable} (d:t.dummies=#[]) {f:Nat->Int}{h:Int}:∀ (fuel:Nat) (p:SetTable.Probe) (j:Nat) (dd:Option Nat),SetTable.probe.go t f h fuel p=some (.empty j dd)->t.slot j=.empty/\dd=p.dummy
 | 0,p,j,dd,e=>by unfold SetTable.probe.go at e;cases e
 | fuel+1,p,j,dd,e=>by
  unfold SetTable.probe.go at e
  cases hs:t.slot p.j with
  | empty=>rw[hs] at e;simp at e;obtain⟨rfl,rfl⟩:=e;exact⟨hs,rfl⟩
  | dummy=>exact absurd hs (kH d _)
  | live i =>
   rw[hs] at e;dsimp only at e
   split at e
   ·cases e
   ·have:=jc d fuel _ j dd e;rwa [uN] at this
theorem qx {t:SetTable} (d:t.dummies=#[]) {h:Int}{j:Nat}{wd:Bool} (e:t.freeSlot h=some (j,wd)):t.slot j=.empty/\wd=false:=by
 unfold SetTable.freeSlot at e
 split at e
 ·rename_i j' dd q
  unfold SetTable.probe at q
  obtain⟨a,b⟩:=jc d _ _ _ _ q
  have:dd=none:=b
  subst this
  simp at e
  obtain⟨rfl,rfl⟩:=e
  exact⟨a,rfl⟩
 ·cases e
theorem xF {b:Bool}{t:SetTable} (k:Tok b t) {j:Nat} (e:t.slot j=.empty):Tok b (t.put j).1:=by
 have n:t.place[SetTable.below t.place j]?≠some j:=by
  intro q;unfold SetTable.slot at e;dsimp only at e;rw[q] at e;simp at e
 refine⟨yg k.ris n,?_,k.led⟩
 unfold SetTable.put
 simp [k.dum,sF]
theorem pR {b:Bool}{t:SetTable} (k:Tok b t) (es:Array (Int×Value)) (h:Int) (x:Value):Tok b (layNew t es h x).2.1/\(layNew t es h x).2.2.1=false:=by
 unfold layNew
 cases hf:t.freeSlot h with
 | none=>exact⟨dW k _,rfl⟩
 | some q =>
  obtain⟨j,wd⟩:=q
  obtain⟨a,rfl⟩:=qx k.dum hf
  exact⟨Af (xF k a) _,rfl⟩
theorem pQ {b:Bool}{t:SetTable} (k:Tok b t) {hs:Array Int}{w:Nat}{t':SetTable}{o:Array Nat} (e:t.relaid hs w=some (t',o)):Tok b t':=by
 unfold SetTable.relaid SetTable.laid at e
 cases hl:SetTable.layClean (SetTable.sizeAbove w-1) hs with
 | none=>rw[hl] at e;cases e
 | some ow =>
  rw[hl] at e
  have e':=Option.some.inj e
  obtain⟨e1,e2⟩:=Prod.mk.inj e'
  rw[<-e1]
  refine⟨?_,rfl,k.led⟩
  show List.Pairwise _ (List.toArray _).toList
  rw[List.pairwise_map,List.pairwise_filterMap]
  refine List.Pairwise.imp ?_ (List.pairwise_lt_range)
  intro a b' hab x hx y hy
  simp only[Option.map_eq_some_iff] at hx hy
  obtain⟨_,_,rfl⟩:=hx
  obtain⟨_,_,rfl⟩:=hy
  exact hab
theorem mn {b:Bool}{t:SetTable} (k:Tok b t) (es:Array (Int×Value)) (w:Nat):Tok b (relayAll t es w).2.1:=by
 unfold relayAll
 cases hr:t.relaid (es.map (·.1)) w with
 | none=>exact dW k _
 | some q =>
  obtain⟨t',o⟩:=q
  dsimp only
  split
  ·exact pQ k hr
  ·exact dW k _
theorem oW {α:Type} (l:List α) (i:Nat) (h:i<l.length):(l[i]::l.eraseIdx i).Perm l:=by
 rw[List.eraseIdx_eq_take_drop_succ]
 refine List.Perm.trans List.perm_middle.symm ?_
 rw[List.getElem_cons_drop,List.take_append_drop]
theorem rX {α:Type} (next:Nat->Nat):∀ (fuel k:Nat) (left:List α) (out:Array α),left.length<=fuel->(pickOrder.go next fuel k left out).toList.Perm (out.toList++left)
 | 0,k,left,out,h=>by
  have:left = []:=List.length_eq_zero_iff.mp (by omega)
  subst this;unfold pickOrder.go;simp
 | fuel+1,k,left,out,h=>by
  unfold pickOrder.go
  cases hl:left with
  | nil=>simp
  | cons a l =>
   rw[<-hl]
   have pos:0<left.length:=by rw[hl];simp
   have lt:=Nat.mod_lt (next k) pos
   rw[List.getElem?_eq_getElem lt]
   dsimp only
   refine (rX next fuel (k+1) _ _ (by rw[List.length_eraseIdx_of_lt lt];omega)).trans ?_
   rw[Array.toList_push,List.append_assoc]
   refine List.Perm.append_left _ ?_
   exact oW left _ lt
theorem iS {α:Type} (next:Nat->Nat) (xs:Array α):(pickOrder next xs).toList.Perm xs.toList:=by
 have:=rX next xs.size 0 xs.toList #[] (by simp)
 simpa [pickOrder] using this
end Stb
namespace Gc
open Ch
def hP (ls hs:List Rat) (a b:Rat) (t m:Int) (n:Nat) (k:Nat):Int:=if aF b hs<=k/\k<aR a ls then wtI t m n k else 0
theorem Cg {ls hs:List Rat}{a b r:Rat}{t m:Int}{n:Nat} (l1:ls.length<=n+1) (l2:hs.length<=n+1) (e:r*(m:Rat)=(t:Rat)):cov n ls hs a b r*((m^n:Int):Rat)=((ism (hP ls hs a b t m n) (n+1):Int):Rat):=by
 have z:=h9 (f:=hP ls hs a b t m n) (g:=λ k=>if aF b hs<=k/\k<aR a ls then wt r n k else 0) (c:=((m^n:Int):Rat)) (m:=n+1) λ k hk=>by
  unfold hP
  by_cases c:aF b hs<=k/\k<aR a ls
  ·rw[if_pos c,if_pos c]
   exact Ad e (by omega)
  ·rw[if_neg c,if_neg c]
   show (0:Rat)*_=_
   rw[Rat.zero_mul]<;>rfl
 rw[<-z,vw]
 have u1:=dC a ls
 have u2:=eQ b hs
 have e1:min (n+1) (max (aF b hs) (aR a ls))=max (aF b hs) (aR a ls):=by omega
 have e2:min (n+1) (aF b hs)=aF b hs:=by omega
 rw[e1,e2]<;>rfl
def eG (zs:List (Int×Int)) (a b:Int):List Nat:=(List.range zs.length).filter λ k=>decide ((zs.getD k (0,0)).1<=a) && decide (b<=(zs.getD k (0,0)).2)
def dP (t m:Int) (n:Nat) (ks:List Nat):Int:=(ks.map (wtI t m n)).sum
theorem qZ (f:Nat->Int) (p:Nat->Bool):∀ m,(((List.range m).filter p).map f).sum=ism (λ k=>if p k=true then f k else 0) m
 | 0=>rfl
 | m+1=>by
  rw[List.range_succ,List.filter_append,List.map_append,List.sum_append,qZ f p m]
  show _=ism _ m+_
  congr 1
  by_cases h:p m=true
  ·simp [h]
  ·simp [h]
theorem lV {f g:Nat->Int}:∀ {m:Nat},(∀ k,k<m->f k=g k)->ism f m=ism g m
 | 0,_=>rfl
 | m+1,h=>by
  show ism f m+f m=ism g m+g m
  rw[lV λ k hk=>h k (by omega),h m (by omega)]
def shr (m:Int) (zs:List (Int×Int)):List (Rat×Rat):=zs.map λ z=>((z.1:Rat) / (m:Rat),(z.2:Rat) / (m:Rat))
theorem im {m:Int} (hm:0<m) (x:Int):(x:Rat) / (m:Rat)*(m:Rat)=(x:Rat):=by
 have h:(0:Rat)<(m:Rat):=by exact_mod_cast hm
 exact Rat.div_mul_cancel (by grind)
theorem bc {m:Int} (hm:0<m) (x y:Int):(x:Rat) / (m:Rat)<=(y:Rat) / (m:Rat)↔x<=y:=by
 have h:(0:Rat)<(m:Rat):=by exact_mod_cast hm
 have e1:=im hm x
 have e2:=im hm y
 rw[<-Rat.intCast_le_intCast]
 generalize (x:Rat) / (m:Rat)=u at e1 ⊢
 generalize (y:Rat) / (m:Rat)=v at e2 ⊢
 rw[<-e1,<-e2]
 constructor
 ·intro q
  exact Rat.mul_le_mul_of_nonneg_right q (by grind)
 ·intro q
  by_cases c:u<=v
  ·exact c
  ·have c':v<u:=by grind
   have:=Rat.mul_lt_mul_of_pos_right c' h
   grind
theorem qW {m:Int} (hm:0<m) {n:Nat}{zs:List (Int×Int)} (len:zs.length=n+1) (u1:Up ((shr m zs).map (·.1))) (u2:Up ((shr m zs).map (·.2))) (a b t:Int) :
  cov n ((shr m zs).map (·.1)) ((shr m zs).map (·.2)) ((a:Rat) / (m:Rat)) ((b:Rat) / (m:Rat)) ((t:Rat) / (m:Rat))*((m^n:Int):Rat)=((dP t m n (eG zs a b):Int):Rat):=by
 have l0:(shr m zs).length=n+1:=by simp [shr,len]
 rw[Cg (by simp [l0]) (by simp [l0]) (im hm t)]
 congr 1
 unfold dP eG
 rw[qZ,len]
 refine lV λ k hk=>?_
 have hk':k<zs.length:=by omega
 have g1:((shr m zs).map (·.1))[k]? = some (((zs.getD k (0,0)).1:Rat) / (m:Rat)):=by simp [shr,hk']
 have g2:((shr m zs).map (·.2))[k]? = some (((zs.getD k (0,0)).2:Rat) / (m:Rat)):=by simp [shr,hk']
 have iff:=wR u1 u2 (a:=(a:Rat) / (m:Rat)) (b:=(b:Rat) / (m:Rat)) g1 g2
 unfold hP
 by_cases c:(zs.getD k (0,0)).1<=a/\b<=(zs.getD k (0,0)).2
 ·rw[if_pos (iff.mpr ⟨(bc hm _ _).mpr c.1,(bc hm _ _).mpr c.2⟩),if_pos (by simpa using c)]
 ·rw[if_neg (λ z=>c ⟨(bc hm _ _).mp (iff.mp z).1,(bc hm _ _).mp (iff.mp z).2⟩),if_neg (by simpa using c)]
theorem ue {m:Int} (hm:0<m) {ms:List Int}{l:List Rat} (so:ms.Pairwise (·<=·)) (nd:ms.Nodup) (mem:∀ x:Rat,x∈l↔∃ z∈ms,x=(z:Rat) / (m:Rat)):ms.map (λ z:Int=>(z:Rat) / (m:Rat))=edg l:=by
 obtain⟨i1,i2⟩:=eA l
 refine sE ?_ i1 λ x=>?_
 ·show List.Pairwise _ _
  rw[List.pairwise_map]
  have st:ms.Pairwise (· < ·):=(so.and nd).imp λ h=>by omega
  refine st.imp λ {a b} h=>?_
  by_cases c:(a:Rat) / (m:Rat)<(b:Rat) / (m:Rat)
  ·exact c
  ·have:(b:Rat) / (m:Rat)<=(a:Rat) / (m:Rat):=by grind
   have:=(bc hm b a).mp this
   omega
 ·rw[i2,mem,List.mem_map]
  exact⟨λ ⟨z,h,e⟩=>⟨z,h,e.symm⟩,λ ⟨z,h,e⟩=>⟨z,h,e.symm⟩⟩
def Cr (m:Int) (n:Nat) (s:Rat) (zs:List (Int×Int)) (ms:List Int):Prop:=∀ k,k+1<ms.length->∀ t,t=ms.getD k 0∨t=ms.getD (k+1) 0 ->
 ¬ dP t m n (eG zs (ms.getD k 0) (ms.getD (k+1) 0))*(s.den:Int)<s.num*m^n
theorem wx {m:Int} (hm:0<m) {n:Nat}{s c:Rat}{t:Int} (e:c*((m^n:Int):Rat)=(t:Rat)):¬ t*(s.den:Int)<s.num*m^n↔s<=c:=by
 have h:(0:Rat)<((m^n:Int):Rat):=by
  have:(0:Int)<m^n:=Int.pow_pos hm
  exact_mod_cast this
 have d:(0:Rat)<((s.den:Int):Rat):=by
  have:(0:Int)<(s.den:Int):=by have:=s.den_pos;omega
  exact_mod_cast this
 have es:s*((s.den:Int):Rat)=((s.num:Int):Rat):=by rw[Rat.intCast_natCast];exact bR s
 rw[Int.not_lt,<-Rat.intCast_le_intCast,Rat.intCast_mul,Rat.intCast_mul,<-e,<-es]
 generalize ((m^n:Int):Rat)=M at *
 generalize ((s.den:Int):Rat)=D at *
 have pos:0<M*D:=Rat.mul_pos h d
 have e1:s*D*M=s*(M*D):=by grind
 have e2:c*M*D=c*(M*D):=by grind
 rw[e1,e2]
 constructor
 ·intro q
  by_cases g:s<=c
  ·exact g
  ·have:=Rat.mul_lt_mul_of_pos_right (show c<s by grind) pos
   grind
 ·intro q
  exact Rat.mul_le_mul_of_nonneg_right q (by grind)
end Gc
namespace L2
open PySem PySem.Spec PyProof.Rows PySem.W Gc
theorem pG {K:PySem.W.Frag}{a:Addr}{xs:List V}{te:TE}{st:St}{H1:Hp}{Q:VK}{D:Addr} (R:Nat->List V->Hp->Prop) (hD:H1 D=none) (q1:SqL K H1 a xs) (hn:xs.length<=sizeLine) (h0:R 0 [] (upd H1 D (.lst [])))
  (hs:∀ (i:Nat) (x:V) (ys:List V) (H2:Hp) (k:VK),xs[i]? = some x->ak H1 H2->H2 D=some (.lst ys)->ys.length=i->R i ys H2->(∀ y H4,ak H2 H4->R (i+1) (ys++[y]) (upd H4 D (.lst (ys++[y])))->k y H4)->te (some x::st) H2 k)
  (hd:∀ ys H2,ak H1 H2->H2 D=some (.lst ys)->ys.length=xs.length->R xs.length ys H2->Q (.ref D) H2):eW (Itl K a) (cr 0) kG te 1 st D H1 Q:=by
 refine⟨λ i m ys H2=>m=xs.length-i/\i<=xs.length/\ys.length=i/\ak H1 H2/\H2 D=some (.lst ys)/\R i ys H2,⟨xs.length,by simp,Nat.zero_le _,rfl,aT (ak.refl H1) hD,ad,h0⟩,?_⟩
 rintro i m ys H2 ⟨rfl,hi,hl,sm,e,r⟩
 by_cases hlt:i<xs.length
 ·have ex:xs[i]? = some xs[i]:=List.getElem?_eq_getElem hlt
  refine .inr ⟨⟨xs,_,sm.seq q1,ex⟩,?_⟩
  rintro x H3 σ0 ⟨rfl,hx⟩ l0
  have hx':=hx xs (sm.seq q1)
  obtain⟨a',rfl⟩:∃ a,σ0 = [a]:=by
   match σ0,l0 with
   | [a],_=>exact⟨a,rfl⟩
  refine⟨⟨[some x],rfl,rfl⟩,?_⟩
  exact hs i x ys _ _ hx' sm e hl r λ y H4 s4 r4=>⟨s4 _ _ e,by omega,xs.length-(i+1),by omega,rfl,hlt,by simp [hl],aT (sm.trans s4) hD,ad,r4⟩
 ·have ei:i=xs.length:=by omega
  subst ei
  exact .inl ⟨⟨xs,sm.seq q1,Nat.le_refl _⟩,hd ys H2 sm e hl r⟩
end L2
namespace L2
open PySem PySem.Spec PyProof.Rows PySem.W Gc
end L2
namespace L2
open PySem PySem.Spec PyProof.Rows PySem.W Gc
theorem nw:∀ {ns:List Int}{us:List Value},aM (ns.map V.int) us->IntsAre us ns
 | [],us,r=>by cases r;exact .nil
 | n::ns,us,r=>by
  cases r with
  | cons r1 r2 =>
   obtain⟨t,rfl⟩:=r1
   exact .cons n t (nw r2)
theorem nv:∀ {ns:List Int}{us:List Value},IntsAre us ns->aM (ns.map V.int) us
 | _,_,.nil=>.nil
 | _,_,.cons n t r=>.cons ⟨t,rfl⟩ (nv r)
theorem iA {X:Cx}:cO X (.builtin "sorted") (λ xs H Q=>∃ (p:Addr) (ns:List Int),xs = [.ref p]/\SqL X.K H p (ns.map V.int)/\ns.length<64 /\
  ∀ (D:Addr) (ms:List Int),H D=none->ms.Perm ns->ms.Pairwise (·<=·)->Q (.ref D) (upd H D (.lst (ms.map V.int)))):=by
 intro pins s σ H xs us Q I r h
 obtain⟨p,ns,rfl,hq,h64,q⟩:=h
 obtain⟨u,rfl,rx⟩:=jy r
 cases rx
 obtain⟨its,rv,pl,hz⟩:=I.list hq
 have li:its.length=ns.length:=by rw[<-rv.length,List.length_map]
 refine sorted_ints pl.isList (nw rv) (by omega) λ out ms a1 a2 a3=>?_
 obtain⟨e,he⟩:=sortedAll_at s.heap its out
 have hD:H (s.heap.objs.size+1)=none:=I.hok.fresh (Nat.le_succ _)
 refine⟨.ref (s.heap.objs.size+1),_,I.laid (t':=s.toks) (λ _ _=>sortedAll_old) (Nat.le_succ _) (show aN X.prog X.w _ _ _ (.lst (ms.map V.int)) from ⟨?_,out.toList,e,nv a1,?_⟩),rfl,q _ ms hD a2 a3⟩
 ·rw[List.length_map,a2.length_eq,sizeLine_eq];omega
 ·exact he
section
variable {prog:Program}{w:World}{A:Around}{E:Value->Shared->Prop}{s:Shared}
end
section
variable {X:Cx}{a b c d:Expr}{ta tb tc td:TE}{pos:Pos}
end
end L2
namespace L2
open PySem PySem.Spec PyProof.Rows PySem.W Gc
section
variable {X:Cx}
end
end L2
namespace L2
open PySem PySem.Spec PyProof.Rows PySem.W Gc
section
theorem vP:mroOf (.type "reversed")=pure [.type "reversed",.type "object"]:=by rw[mroOf_type];kernel_rfl
theorem x8:typeLookup (.type "reversed") "__new__" = pure (some (.builtin "reversed.__new__")):=by rw[typeLookup_type,builtinLookup_eq_fast];kernel_rfl
theorem x6:Bind.madeBy (.type "reversed")=pure (some "reversed.__new__"):=madeBy_type vP x8 (by decide +kernel)
theorem yb (a:Value):checkTypeCall "reversed" ⟨[a],[]⟩=pure ():=by kernel_rfl
theorem vR (a:Value):checkBuiltinCall "reversed.__new__" ⟨[.type "reversed",a],[]⟩=pure ():=by kernel_rfl
theorem vQ:entryFor table "reversed.__new__" = some Builtin.«reversed.__new__»:=(entryFor_of_tree (by kernel_rfl))
theorem vO:isSubtype (.type "reversed") (.type "reversed")=pure true:=by rw[isSubtype_type];kernel_rfl
theorem x9:isSubtype (.type "list_reverseiterator") (.type "reversed")=pure false:=by rw[isSubtype_type];kernel_rfl
theorem oJ:Manifest.owners.lookup (String.ofList "list_reverseiterator".toList)=some Manifest.sig_list_reverseiterator:=by kernel_rfl
theorem g6:Slot "list_reverseiterator" "__next__" "list_reverseiterator.__next__" :=
 .of (owner:="list_reverseiterator") (n:="__next__") (by rw[typeLookup_type,builtinLookup_eq_fast];kernel_rfl) (by decide +kernel) (by decide +kernel) (by decide +kernel) (by first | exact .inl (by decide +kernel) | exact .inr (by decide +kernel)) (by rw[isSubtype_type];kernel_rfl)
theorem rQ:Slot "list_reverseiterator" "__iter__" "list_reverseiterator.__iter__" :=
 .of (owner:="list_reverseiterator") (n:="__iter__") (by rw[typeLookup_type,builtinLookup_eq_fast];kernel_rfl) (by decide +kernel) (by decide +kernel) (by decide +kernel) (by first | exact .inl (by decide +kernel) | exact .inr (by decide +kernel)) (by rw[isSubtype_type];kernel_rfl)
theorem oK:entryFor table "list_reverseiterator.__next__" = some Builtin.«list_reverseiterator.__next__»:=(entryFor_of_tree (by kernel_rfl))
theorem tR:entryFor table "list_reverseiterator.__iter__" = some Builtin.«dict_keyiterator.__iter__» :=
 entryFor_alias (id':="dict_keyiterator.__iter__") (by kernel_rfl) (by first | rfl | decide +kernel | (unfold String.splitOn;simp +decide [String.splitOnAux])) (by decide +kernel) (by kernel_rfl)
theorem rR (a:Value):argsOk "list_reverseiterator.__next__" ⟨[a],[]⟩:=by
 unfold argsOk
 rw[signature?_of (id:="list_reverseiterator.__next__") (n:="__next__".toList.reverse) (o:="list_reverseiterator".toList.reverse) (by kernel_rfl) (by rw[List.reverse_reverse];exact oJ)]
 kernel_rfl
theorem vY (a:Value):argsOk "list_reverseiterator.__iter__" ⟨[a],[]⟩:=by
 unfold argsOk
 rw[signature?_of (id:="list_reverseiterator.__iter__") (n:="__iter__".toList.reverse) (o:="list_reverseiterator".toList.reverse) (by kernel_rfl) (by rw[List.reverse_reverse];exact oJ)]
 kernel_rfl
end
section
variable {prog:Program}{w:World}{A:Around}{E:Value->Shared->Prop}{s:Shared}
abbrev dy (h:Heap) (it l:Addr) (i:Int):Prop:=h.get? it=some {cls:=.type "list_reverseiterator",dict:=none,data:=.fields #[.ref l,rawInt i],slots:=#[]}
end
theorem ya:Slot "reversed" "__init__" "object.__init__" :=
 .of (owner:="object") (n:="__init__") (by rw[typeLookup_type,builtinLookup_eq_fast];kernel_rfl) (by decide +kernel) (by decide +kernel) (by decide +kernel) (by first | exact .inl (by decide +kernel) | exact .inr (by decide +kernel)) (by rw[isSubtype_type];kernel_rfl)
theorem x5:TypeCalled "reversed" "reversed.__new__" "object.__init__":=⟨by decide +kernel,by decide +kernel,⟨_,_,vP⟩,x6,by decide +kernel,vO,ya⟩
section
variable {prog:Program}{w:World}{A:Around}{E:Value->Shared->Prop}{s:Shared}
abbrev iQ (h:Heap) (l:Addr) (m:Nat):Heap:=h.push {cls:=.type "list_reverseiterator",data:=.fields #[.ref l,rawInt (((m:Nat):Int)-1)]}
theorem wD (l:Addr) (xs:Array Value) (n:Nat) (dc:Option Addr) (sl:Array (Option Value)) :
  Meets (Builtin.«list.__reversed__» ⟨[.ref l],[]⟩) (λ _ R s=>s.heap.get? l=some {cls:=.type "list",dict:=dc,data:=.seq xs n,slots:=sl}/\R (.ok (.ret (.ref s.heap.objs.size))) {s with heap:=iQ s.heap l xs.size}) :=
 .of_wp λ prog w A R s h=>by
  obtain⟨hp,g,dr,tk,os⟩:=s
  obtain⟨hl,h⟩:=h
  wp_walk using AutoSeq1.wpAny_loadPart' hl
  exact⟨_,rfl,h⟩
theorem Aw (l:Addr) (xs:Array Value) (n:Nat) (dc:Option Addr) (sl:Array (Option Value)) :
  Meets (Builtin.«reversed.__new__» ⟨[.type "reversed",.ref l],[]⟩) (λ _ R s=>s.heap.get? l=some {cls:=.type "list",dict:=dc,data:=.seq xs n,slots:=sl} /\
   R (.ok (.ret (.ref s.heap.objs.size))) {s with heap:=iQ s.heap l xs.size}) :=
 .of_wp λ prog w A R s h=>by
  obtain⟨hp,g,dr,tk,os⟩:=s
  obtain⟨ha,h⟩:=h
  have sub:=vO
  have tT:Shared.TypeIs ⟨hp,g,dr,tk,os⟩ (.ref l) "list":=⟨_,ha,rfl⟩
  have lk:=F.slot_list_reversed.lookup
  have bd:=F.slot_list_reversed.bind (.ref l)
  wp_walk using AutoSeq1.wpAny_loadPart' ha
  refine codeAny_mono (codeAny_call_builtin F.slot_list_reversed.plain F.entry_list_reversed (F.slot_list_reversed.check _ _ _ _ _ _ _ _ tT (F.args_list_reversed_1 _) (wD l xs n dc sl prog w A.in1 (wants (λ v s'=>v=.ref hp.objs.size/\s'=⟨iQ hp l xs.size,g,dr,tk,os⟩) λ _ _=>False) _ ⟨ha,rfl,rfl⟩))) λ r s1 hr=>?_
  cases r with
  | error e=>exact hr.elim
  | ok fl =>
   cases fl with
   | ret v =>
    obtain⟨rfl,rfl⟩:=hr
    exact wpAny_pure ⟨_,rfl,h⟩
   | _=>exact hr.elim
theorem mR {l:Addr}{xs:Array Value}{Q:Value->Shared->Prop} (hL:s.heap.IsList l xs)
  (k:∀ g,dy g s.heap.objs.size l (((xs.size:Nat):Int)-1)->(∀ c o,s.heap.get? c=some o->g.get? c=some o)->Q (.ref s.heap.objs.size) {s with heap:=g}) :
  wpAny (model prog w) A (call (.type "reversed") [.ref l]) Q E s:=by
 obtain⟨⟨c,dc,dt,sl⟩,ha,hc,n,hd⟩:=hL
 replace hc:c=.type "list":=hc
 replace hd:dt=.seq xs n:=hd
 subst hc hd
 have ft:=x5
 obtain⟨c,tl,hmro⟩:=ft.mro
 have hmade:=ft.made
 have hsub:=ft.sub
 have hct:=yb (.ref l)
 refine (wpAny_call (codeAny_of_tree ?_))
 show wpAny _ _ (callAny (.type "reversed") _) (_) _ _
 refine (wpAny_pure ⟨Code.quiet_builtin _ (by decide +kernel),codeAny_builtin F.entry_type_call ?_⟩)
 rw[Around.under_plain (weight_type_call_type "reversed" [.ref l] []) (units_type_call_type "reversed" [.ref l] [])]
 have h1:=ft.notType
 have h2:=ft.canCreate
 repeat (any_goals (first | assumption | wp_step))
 refine codeAny_mono (codeAny_call_builtin ft.plain vQ (wpAny_of_eq (vR (.ref l)) (Aw l xs n dc sl prog w A.in1 (wants (λ v s'=>v=.ref s.heap.objs.size/\s'={s with heap:=iQ s.heap l xs.size}) λ _ _=>False) s ⟨ha,rfl,rfl⟩))) λ r s1 hr=>?_
 cases r with
 | error e=>exact hr.elim
 | ok fl =>
  cases fl with
  | ret v =>
   obtain⟨rfl,rfl⟩:=hr
   have g1:(iQ s.heap l xs.size).get? s.heap.objs.size=some _:=Heap.get?_push_size _ rfl
   have hT:Shared.TypeIs {s with heap:=iQ s.heap l xs.size} (.ref s.heap.objs.size) "list_reverseiterator":=⟨_,g1,rfl⟩
   have no:=x9
   have fin:=k _ g1 λ b o x=>Heap.get?_push_of_some _ x
   repeat (any_goals (first | assumption | wp_step))
  | _=>exact hr.elim
theorem rP {it l:Addr}{i:Int}{Q:Value->Shared->Prop} (he:dy s.heap it l i) (h:Q (.ref it) s):wpAny (model prog w) A (pyIter (.ref it)) Q E s:=by
 have ty:s.TypeIs (.ref it) "list_reverseiterator":=⟨_,he,rfl⟩
 refine (wpAny_pyIter_slot ty rQ (wpAny_call_entry rQ ty tR ?_ (vY _)))
 show wpAny _ _ (ret (.ref it)) (_) _ s
 exact wpAny_pure ⟨_,rfl,"list_reverseiterator",_,ty,g6.lookup,h⟩
theorem yj {it l:Addr}{i:Nat}{xs:Array Value}{v:Value}{Q:Option Value->Shared->Prop} (he:dy s.heap it l (i:Int)) (hl:s.heap.IsList l xs) (hv:xs[i]? = some v)
  (k:∀ g,dy g it l ((i:Int)-1)->Heap.SameBut it s.heap g->Q (some v) {s with heap:=g}):wpAny (model prog w) A (pyNext (.ref it)) Q E s:=by
 have ty:s.TypeIs (.ref it) "list_reverseiterator":=⟨_,he,rfl⟩
 obtain⟨ol,hol,_,nl,hdl⟩:=hl
 unfold pyNext
 refine (wpAny_bind (wpAny_attempt (wpAny_callSpecial?_slot (name:=Str.ofString "__next__") ty g6 (wpAny_call_entry g6 ty oK ?_ (rR _)))))
 show wpAny _ _ (field (.ref it) 1 >>= _) (_) _ s
 refine (wpAny_bind (wpAny_field he rfl (x:=rawInt i) rfl ?_))
 have no:¬ ((i:Int)<0):=by omega
 show wpAny _ _ (if (i:Int)<0 then _ else _) (_) _ s
 rw[if_neg no]
 show wpAny _ _ (field (.ref it) 0 >>= _) (_) _ s
 refine (wpAny_bind (wpAny_field he rfl (x:=.ref l) rfl ?_))
 show wpAny _ _ (seqItems? (.ref l) >>= _) (_) _ s
 refine (wpAny_bind (wpAny_seqItems hol hdl ?_))
 simp only[Int.toNat_natCast,hv]
 refine (wpAny_bind (wpAny_setField_rec he (by simp) λ g e1 s1=>?_))
 exact wpAny_pure ⟨v,rfl,wpAny_pure (k g e1 s1)⟩
theorem yk {it l:Addr}{i:Int}{Q:Option Value->Shared->Prop} (hh:A.handled=none) (he:dy s.heap it l i) (neg:i<0)
  (k:∀ g,(∀ b o,s.heap.get? b=some o->g.get? b=some o)->Q none {s with heap:=g}):wpAny (model prog w) A (pyNext (.ref it)) Q E s:=by
 have ty:s.TypeIs (.ref it) "list_reverseiterator":=⟨_,he,rfl⟩
 unfold pyNext
 refine (wpAny_bind (wpAny_attempt (wpAny_callSpecial?_slot (name:=Str.ofString "__next__") ty g6 (wpAny_call_entry g6 ty oK ?_ (rR _)))))
 show wpAny _ _ (field (.ref it) 1 >>= _) (_) _ s
 refine (wpAny_bind (wpAny_field he rfl (x:=rawInt i) rfl ?_))
 show wpAny _ _ (if i<0 then _ else _) (_) _ s
 rw[if_pos neg]
 refine (wpAny_bind (wpAny_rule ?_))
 refine (wpAny_bind ?_)
 show wpAny _ _ (newExc (.type "StopIteration") [] >>= _) (_) _ _
 refine (wpAny_bind ?_)
 simp only[newExc,newTuple]
 refine (wpAny_bind (wpAny_newObj_type ?_ (by size_fits)))
 refine (wpAny_bind (m:=firstArgMember _ _) (wpAny_of_eq (a:=Value.none) (by first | rfl | (simp only[firstArgMember];rfl)) ?_))
 refine (wpAny_newObj_type ?_ (by size_fits))
 simp only[raiseNew]
 refine (wpAny_bind (wpAny_handled ?_))
 rw[show A.in1.handled=none from hh]
 refine (wpAny_bind (wpAny_pure (wpAny_throw ?_)))
 refine (wpAny_bind (wpAny_isInstance (T:="StopIteration") (b:=true) ⟨_,Heap.get?_push_size _ rfl,rfl⟩ isSubtype_stop ?_))
 exact wpAny_pure (k _ λ b o x=>Heap.get?_push_of_some _ (Heap.get?_push_of_some _ x))
end
def xB (K:PySem.W.Frag) (a:Addr) (m:Nat):It :=
 ⟨λ i H=>i<m/\∃ xs x,SqL K H a xs/\xs[m-1-i]? = some x,λ i H x H'=>H'=H/\∀ xs,SqL K H a xs->xs[m-1-i]? = some x,λ i _=>m<=i⟩
theorem uV {P:Program}{w:World}{K:PySem.W.Frag}{tg:Expr} (a it:Addr) (m:Nat):pK P w K tg (xB K a m) [it] it (λ i h=>dy h it a ((m:Int)-1-(i:Int))) where
 mem:=by simp
 obj:=λ i h st b hb=>by
  have e:b=it:=by simpa using hb
  subst e
  exact⟨_,st,λ v z=>by cases z⟩
 keep:=λ i h h' st k=>k it (by simp) _ st
 item:=by
  intro X hP hw hK hc i pins s σ H E I hf st hg
  subst hP hw hK
  obtain⟨hi,xs,x,hq,hx⟩:=hg
  obtain⟨its,rv,p,hz⟩:=I.list hq
  obtain⟨u,hu,ru⟩:=rv.get hx
  obtain⟨f0,f1,f2,f3,f4,f5⟩:=hf it (by simp)
  have ei:(m:Int)-1-(i:Int)=((m-1-i:Nat):Int):=by omega
  have st0:dy s.heap it a ((m-1-i:Nat):Int):=by rw[<-ei];exact st
  refine yj st0 p.isList (v:=u) (by simpa using hu) λ h' st' sb=>?_
  have I1:Inv X pins σ H {s with heap:=h'}:=I.turned (t':=s.toks) (λ b o hb e=>(sb.2 b hb).trans e) f0 f1 f3 f4 f5
  have st2:dy h' it a ((m:Int)-1-((i+1:Nat):Int)):=by
   have:(m:Int)-1-((i+1:Nat):Int)=((m-1-i:Nat):Int)-1:=by omega
   rw[this]
   exact st'
  exact⟨u,rfl,pf (s:={s with heap:=h'}) st' rfl rfl (by decide) ⟨x,H,I1,ru,⟨rfl,λ ys hy=>by rw[I.list_inj hy hq];exact hx⟩,st2,λ b hb=>(hf b hb).1⟩⟩
 done:=by
  intro X hP hw hK hc i pins s σ H E I hf st hg
  subst hP hw hK
  have hm:m<=i:=hg
  exact yk (I.ok.hd hc) st (by omega) λ h' eb=>⟨rfl,I.kept (t':=s.toks) λ b o e=>eb b o e⟩
 self:=λ _ _ _ _ _ st h=>rP st h
def CQ (K:PySem.W.Frag) (ta:TA):TI:=λ σ H R=>ta σ H λ vs H1=>∃ a xs,vs = [.ref a]/\SqL K H1 a xs/\R (xB K a xs.length) H1
theorem kO:bootBuiltins "reversed" = some (.type "reversed"):=by decide +kernel
theorem AE {X:Cx}{tg:Expr}{a:Expr}{ta:TA}{p pos:Pos} (hg:Gl X "reversed") (hm:X.mg "reversed" = none) (ha:PA X [a] ta) (hs:starEach [a] X.env=(false,eval a X.env)::starEach [] X.env:=by rfl) :
  PI X tg (.Call (.Name "reversed" p) [a] [] pos) (CQ X.K ta):=by
 intro pins s σ H R I h
 refine Call_ (fi I hg hm kO (PyProof.Rows.callWith_type1 (thn (ha pos pins s σ H _ I h) λ us s1 ⟨vs,H1,I1,r1,q1⟩=>?_) hs rfl))
 obtain⟨l1,xs,e,q1,q⟩:=q1
 subst e
 cases r1 with
 | cons r rr =>
  cases rr
  cases r
  obtain⟨its,rv,p,hz⟩:=I1.list q1
  have lx:its.length=xs.length:=rv.length.symm
  refine mR p.isList λ h' za zk=>?_
  have za':dy h' s1.heap.objs.size l1 ((xs.length:Int)-1-((0:Nat):Int)):=by
   have:((its.toArray.size:Nat):Int)-1=(xs.length:Int)-1-((0:Nat):Int):=by rw[List.size_toArray,lx];omega
   rw[<-this]
   exact za
  refine rP (s:={s1 with heap:=h'}) za ?_
  have I2:Inv X pins σ H1 {s1 with heap:=h'}:=I1.kept (t':=s1.toks) λ b o e=>zk b o e
  refine⟨_,[_],_,_,H1,rfl,I2,uV l1 s1.heap.objs.size xs.length,za',λ b hb=>?_,q⟩
  have e:b=s1.heap.objs.size:=by simpa using hb
  subst e
  exact I1.fpOk (Nat.le_refl _) (I1.hok.fresh (Nat.le_refl _))
theorem yX {K:PySem.W.Frag}{a:Addr}{xs:List V}{g:TG}{tb:TS}{D:gC}{σ:St}{H:Hp} (Pv:Nat->St->Hp->Prop) (h0:Pv 0 σ H) (hl:∀ i σ H,i<=xs.length->Pv i σ H->SqL K H a xs)
  (hs:∀ i x σ H,i<xs.length->xs[xs.length-1-i]? = some x->Pv i σ H->g x σ H λ σ2 H2=>tb {D with nx:=Pv (i+1),ct:=Pv (i+1),bk:=D.nx} σ2 H2) (hd:∀ σ H,Pv xs.length σ H->D.nx σ H) :
  ∃ W:Nat->Nat->St->Hp->Prop,(∃ m,W 0 m σ H)/\∀ i m σ H,W i m σ H ->
   ((xB K a xs.length).stop i H/\D.nx σ H)∨((xB K a xs.length).go i H/\∃ N:St->Hp->Prop,(∀ σ' H',N σ' H'->∃ m',m'<m/\W (i+1) m' σ' H')/\∀ x H',(xB K a xs.length).yld i H x H'->g x σ H' λ σ2 H2=>tb {D with nx:=N,ct:=N,bk:=D.nx} σ2 H2):=by
 refine⟨λ i m σ H=>m=xs.length-i/\i<=xs.length/\Pv i σ H,⟨xs.length,by simp,Nat.zero_le _,h0⟩,?_⟩
 rintro i m σ H ⟨rfl,hi,p⟩
 have q:=hl i σ H hi p
 by_cases hlt:i<xs.length
 ·have ex:=List.getElem?_eq_getElem (show xs.length-1-i<xs.length by omega)
  refine .inr ⟨⟨hlt,xs,_,q,ex⟩,Pv (i+1),λ σ' H' pv=>⟨xs.length-(i+1),by omega,rfl,hlt,pv⟩,?_⟩
  rintro x H' ⟨rfl,hx⟩
  exact hs i x σ _ hlt (hx xs q) p
 ·have ei:i=xs.length:=by omega
  subst ei
  exact .inl ⟨Nat.le_refl _,hd σ H p⟩
end L2
namespace L2
open PySem PySem.Spec PyProof.Rows
theorem kN {prog:Program}{w:World}{A:Around}{R:Result->Shared->Prop}{s:Shared}{elt tg iter:Expr}{ifs:List Expr}{scope:Scope}{pos:Pos}{it acc:Value}{env:Env} (Iv:Nat->Shared->Prop)
  (turn:∀ k s,Iv k s->wpAny (model prog w) A (pyNext it) (λ r s1=>match r with
   | none=>R (.ok .next) s1
   | some v=>wpAny (model prog w) A (letOwnedTupleGo tg it v) (λ _ s2=>wpAny (model prog w) A (assign tg env v) (λ _ s3=>wpAny (model prog w) A (fZ ifs env) (λ b s4=>if b=true then
     wpAny (model prog w) A (eval elt env) (λ y s5=>wpAny (model prog w) A (call (.builtin "list.append") [acc,y]) (λ _ s6=>∃ m,m<k/\Iv m s6) (λ _ _=>False) s5) (notedBy (model prog w) A env λ e s'=>R (.error e) s') s4
     else ∃ m,m<k/\Iv m s4) (λ _ _=>False) s3) (λ _ _=>False) s2) (λ _ _=>False) s1) (λ _ _=>False) s)
  (k:Nat) (h:Iv k s):codeAny (model prog w) A (.compLoop (.ListComp elt [⟨tg,iter,ifs,0⟩] scope pos) 0 it acc env) R s:=by
 refine codeAny_loop rfl Iv (λ k s hI=>?_) k h
 show wpAny _ _ ((compTurn (.ListComp elt [⟨tg,iter,ifs,0⟩] scope pos) 0 it acc env).onRaise (λ e=>do noteFrame e env;theTreesLotGoes e)) _ _ s
 refine wpAny_noted ?_
 rw[iz]
 refine wpAny_bind (wpAny_standAt (wpAny_bind (wpAny_mono (turn k s hI) (λ r s1 h1=>?_) λ _ _ f=>f.elim)))
 cases r with
 | none=>exact wpAny_pure h1
 | some v =>
  refine wpAny_bind (wpAny_mono h1 (λ _ s2 h2=>wpAny_bind (wpAny_mono h2 (λ _ s3 h3=>wpAny_bind (wpAny_mono h3 (λ b s4 h4=>?_) λ _ _ f=>f.elim)) λ _ _ f=>f.elim)) λ _ _ f=>f.elim)
  cases b with
  | true =>
   rw[if_pos rfl] at h4 ⊢
   exact wpAny_bind (wpAny_mono h4 (λ y s5 h5=>wpAny_bind (wpAny_mono h5 (λ _ s6 h6=>wpAny_pure ⟨rfl,h6⟩) λ _ _ f=>f.elim)) λ _ _ f=>f)
  | false =>
   rw[if_neg Bool.false_ne_true] at h4 ⊢
   exact wpAny_pure ⟨rfl,h4⟩
def oO (M:Model) (A:Around) (E:Value->Shared->Prop) (Q:Value->Shared->Prop) (acc:Value) (cenv:Env):Result->Shared->Prop
 | .ok _,s'=>∃ m,s'.heap.Ns cenv.locals m/\∀ h',Heap.SameBut cenv.locals s'.heap h'->Q acc {s' with heap:=h'}
 | .error x,s'=>∃ m,s'.heap.Ns cenv.locals m/\∀ h',Heap.SameBut cenv.locals s'.heap h'->wpAny M A (passOn "comprehension.variables-let-go" x cenv:Sem Value) (λ _ _=>False) E {s' with heap:=h'}
theorem qH {M:Model}{A:Around}{E:Value->Shared->Prop}{s:Shared}{env:Env}{e:Expr}{scope:Scope}{pos:Pos}{newAcc first:Sem Value}{g:Comprehension}{gs:List Comprehension}{cl:List (Str×Addr)}{Q:Value->Shared->Prop}
  (hcl:clausesOf e=g::gs) (hs:∀ x,foldedSetIterable g.iter env x=pure x) (hclos:closureFor scope env=pure cl)
  (hkind:scope.kind=.function) (hnames:∀ x∈scope.names,x.2=.local->scope.names.lookup x.1=some .local)
  (h:wpAny M A first (λ x s₁=>wpAny M A (pyIter x) (λ it s₂=>wpAny M A newAcc (λ acc s₃ =>
   wpAny M A (newFunctionEnv scope env.globals cl [] env.qual none .none (some env)) (λ cenv s₄ =>
    codeAny M A (.compStart e 0 it acc {cenv with scope:=relabel scope env}) (oO M A E Q acc {cenv with scope:=relabel scope env}) s₄) E s₃) E s₂) E s₁) E s) :
  wpAny M A (comprehension e scope env pos newAcc false first none) Q E s:=by
 unfold comprehension
 rw[hclos,hcl]
 have same:∀ {α:Type}{m:Sem α}{P P':α->Shared->Prop}{t:Shared},wpAny M A m P E t->(∀ a t',P a t'->P' a t')->wpAny M A m P' E t:=λ h1 h2=>wpAny_mono h1 h2 λ _ _ y=>y
 refine wpAny_bind (same h λ x s₁ h₁=>wpAny_bind (wpAny_standAt (wpAny_bind (wpAny_of_eq (hs x) (wpAny_bind (wpAny_holding (same h₁ λ it s₂ h₂ =>
  wpAny_standIf (wpAny_bind (same h₂ λ acc s₃ h₃=>wpAny_bind (wpAny_pure (wpAny_bind (same h₃ λ cenv s₄ h₄=>?_))))))))))))
 dsimp only
 have hv:∀ x∈(scope.names.filter λ x=>(x.2 == .local || x.2 == .cell) && x.1 != (".0":Str)).reverse,x.2=.local ->
   Env.kindOf {cenv with scope:=relabel scope env} x.1=some .local:=λ x hx hl=>lookup_relabel_local (hnames x (List.mem_filter.mp (List.mem_reverse.mp hx)).1 hl)
 refine wpAny_holding (wpAny_bind (wpAny_attempt (wpAny_holding (wpAny_run (codeAny_mono h₄ λ r s' hr=>?_)))))
 cases r with
 | ok f =>
  obtain⟨m,hn,hr⟩:=hr
  exact wpAny_bind (wpAny_holding (wpAny_comp_letGo (cenv:={cenv with scope:=relabel scope env}) hkind _ s' m hv hn λ h' _ _ z=>wpAny_pure (hr h' z)))
 | error x =>
  obtain⟨m,hn,hr⟩:=hr
  exact wpAny_bind (wpAny_holding (wpAny_comp_letGo (cenv:={cenv with scope:=relabel scope env}) hkind _ s' m hv hn λ h' _ _ z=>wpAny_mono (hr h' z) (λ _ _ f=>f.elim) λ _ _ y=>y))
section
variable {M:Model}{A:Around}{E:Value->Shared->Prop}{s:Shared}{B:Heap}{l:List Env}{e L:Addr}{cls a0:Value}
theorem jL {Q:Unit->Shared->Prop} (x:Heap.HeldW B l e cls a0 L s.heap) (h:∀ h',Heap.HeldW B l e cls a0 L h'->s.heap.UpToSlots h'->Q () {s with heap:=h'}) :
  wpAny M A (setFlight (.ref e) (some L)) Q E s:=by
 obtain⟨st,en,ff,oe,vs,T,oT,ts,he,hc,hd,h1,nT,Te,hT,hdT,h3⟩:=x
 have sz:=(Array.getElem?_eq_some_iff.mp h3).1
 have oth:∀ b,b≠T->(s.heap.update T (Obj.mapFields (·.setIfInBounds 3 ((some L).elim Value.none λ f=>rawInt f)))).get? b=s.heap.get? b:=λ b hb=>Heap.get?_update_other _ _ (Ne.symm hb)
 have nr:∀ b o,s.heap.get? b=some o->(∀ vs,o.data≠.fields vs)->b≠T:=λ b o hb hnf q=>by
  rw[q,hT] at hb;cases hb;exact hnf ts hdT
 unfold setFlight
 refine wpAny_bind (wpAny_field he hd h1 ?_)
 rw[if_pos (show (Value.ref T != Value.none)=true from by simp)]
 refine wpAny_setField hT hdT sz (h _ ⟨λ b o z=>(oth b λ q=>by rw[q,nT] at z;cases z).trans (st b o z),en,ff.of_keeps λ b o hb hnf=>⟨o,(oth b (nr b o hb hnf)).trans hb,rfl⟩,?_⟩ λ b o hb hnf=>⟨o.slots,(oth b (nr b o hb hnf)).trans hb⟩)
 exact⟨oe,vs,T,_,_,(oth e (Ne.symm Te)).trans he,hc,hd,h1,nT,Te,Heap.get?_update_self _ hT (Obj.isFreed_of_fields (Obj.data_mapFields hdT _)),Obj.data_mapFields hdT _,by simp [sz]⟩
theorem tY {α:Type}{what:String}{cenv:Env}{Q:α->Shared->Prop} (hf:cenv.frame=some L) (x:Heap.HeldW B l e cls a0 L s.heap) (h:∀ h',Heap.HeldW B l e cls a0 L h'->s.heap.UpToSlots h'->E (.ref e) {s with heap:=h'}) :
  wpAny M A (passOn what (.ref e) cenv:Sem α) Q E s:=by
 have y:=x
 obtain⟨st,en,ff,oe,vs,T,oT,ts,he,hc,hd,h1,nT,Te,hT,hdT,h3⟩:=y
 unfold PySem.passOn
 refine wpAny_bind (wpAny_field he hd h1 ?_)
 rw[if_neg (show ¬ ((Value.ref T == Value.none)=true) from by simp),hf]
 exact wpAny_bind (jL x λ h' y up=>wpAny_throw (h h' y up))
theorem ql {env:Env}{outer:List Env}{Q:Unit->Shared->Prop} (hf:env.frame=some L) (x:Heap.HeldW B (env::outer) e cls a0 L s.heap)
  (h:∀ h',Heap.FlyingW B outer e cls a0 h'->s.heap.UpToSlots h'->Q () {s with heap:=h'}):wpAny M A (leaving env (.ref e)) Q E s:=by
 unfold leaving
 refine wpAny_bind (wpAny_noteFrame_againW hf x.2.2.2 (wpAny_landsW x λ h' fl up=>?_))
 obtain⟨k1,k2,⟨_,_,k3⟩,k4⟩:=fl
 exact h h' ⟨k1,k2,k3,k4⟩ up
end
theorem gF {h h' B:Heap}{C:Addr} (k:Heap.SameBut C h h'):∀ {l:List Env},C ∉ frs l->h.FunFrames B l->h'.FunFrames B l
 | [],_,_=>trivial
 | env::l,hC,⟨hk,⟨L,o,hf,hn,ho,hd⟩,hr⟩=>by
  have e1:frs (env::l)=L::frs l:=by unfold frs;rw[List.filterMap_cons,hf]
  rw[e1] at hC
  exact⟨hk,⟨L,o,hf,hn,(k.2 L λ z=>hC (by simp [z])).trans ho,hd⟩,gF k (λ z=>hC (by simp [z])) hr⟩
theorem wS {h h' B:Heap}{C e L:Addr}{l:List Env}{cls a0:Value}{m:Str->Option Value} (k:Heap.SameBut C h h') (hC:C ∉ frs l) (hn:h.Ns C m) (x:Heap.HeldW B l e cls a0 L h) :
  Heap.HeldW (PySem.W.hideAll B [C]) l e cls a0 L h':=by
 have x':=PySem.W.heldW_base (base:=PySem.W.hideAll B [C]) (λ b o q=>PySem.W.of_hideAll _ q) x
 obtain⟨st,en,ff,oe,vs,T,oT,ts,he,hc,hd,h1,nT,Te,hT,hdT,h3⟩:=x'
 obtain⟨o,es,ep,ho,od,_⟩:=hn
 have nC:∀ b u ws,h.get? b=some u->u.data=.fields ws->b≠C:=λ b u ws q d z=>by
  rw[z,ho] at q;cases q;rw[od] at d;cases d
 refine⟨λ b u q=>(k.2 b λ z=>?_).trans (st b u q),en,gF k hC ff,oe,vs,T,oT,ts,(k.2 e (nC e oe vs he hd)).trans he,hc,hd,h1,nT,Te,(k.2 T (nC T oT ts hT hdT)).trans hT,hdT,h3⟩
 rw[z,PySem.W.hideAll_none [C] (by simp)] at q
 cases q
section
variable {X:Cx}{E:XK}{N':List Str}{scope:Scope}{cl:List (Str×Addr)}{pins0:List (Addr×Obj)}{σ0:St}{H3:Hp}{s3:Shared}{fp:List Addr}{Q:Value->Shared->Prop}{acc:Value}
theorem uF (dx:kD X) (hxe:∀ e s',wpAny (model X.prog X.w) X.A (leaving X.env e) (λ _ s2=>CXX X.prog X.w X.outer X.H₀ X.s₀ E e s2) (λ e' s2=>CXX X.prog X.w X.outer X.H₀ X.s₀ E e' s2) s'->X.xe e s')
  (I3:Inv X pins0 σ0 H3 s3) (hfp:∀ b∈fp,dU X pins0 H3 b) {C:Addr} (hC:C=s3.heap.objs.size) :
  i9 (CXX X.prog X.w) ((aI X N' scope cl C s3 H3 fp).wish (notedBy (model X.prog X.w) X.A (compEnvC scope cl C X.env) λ e s'=>oO (model X.prog X.w) X.A X.xe Q acc (compEnvC scope cl C X.env) (.error e) s')) E:=by
 intro pins σ H s e s' I h
 obtain⟨a,cls,H',rfl,os,bare,un,hok,⟨B,t,fw,ne,hn,kB⟩,q⟩:=h
 have fl:X.env.frame=some X.env.locals:=dx.fr
 have nofp:∀ b o,X.s₀.heap.get? b=some o->b ∉ fp:=λ b o e1 z=>by
  rcases (hfp b z).2.2.2.1 with y | y
  ·rw[dx.ex] at y;cases y
  ·exact absurd (Nat.lt_of_lt_of_le (Heap.lt_size e1) y) (Nat.lt_irrefl _)
 have thr:∀ b o,X.s₀.heap.get? b=some o->∃ o',s.heap.get? b=some o':=λ b o e1=>by
  obtain⟨o1,e2⟩:=I3.base.there b o e1 (by rw[dx.ex];simp)
  exact I.base.there b o1 e2 (nofp b o e1)
 have I1:Inv ((aI X N' scope cl C s3 H3 fp).wish (notedBy (model X.prog X.w) X.A (compEnvC scope cl C X.env) λ e s'=>oO (model X.prog X.w) X.A X.xe Q acc (compEnvC scope cl C X.env) (.error e) s')) pins σ H' s' :=
  I.call' (ch:=[]) os un hok bare (λ b z=>absurd z (by simp))
 have sf:∀ b∈frs X.stack,H' b=none:=I1.stkFree
 have fw':Heap.FlyingW B (X.env::X.outer) a cls (.ref t) s'.heap:=by rw[<-dx.st];exact fw
 show wpAny (model X.prog X.w) X.A (noteFrame (.ref a) X.env) _ _ s'
 refine wpAny_looks_onW (L:=X.env.locals) (by rw[I3.ok.frames,dx.st]) fl fw' λ h1 hw up=>?_
 have hw':Heap.HeldW B X.stack a cls (.ref t) X.env.locals h1:=by rw[dx.st];exact hw
 obtain⟨un1,hok1⟩:=i0 (h5:=h1) un hok kB fw.2.2.1 (λ b hb=>hb) (λ b hb hb'=>absurd hb hb') sf hw.1 up
 have I2:Inv ((aI X N' scope cl C s3 H3 fp).wish (notedBy (model X.prog X.w) X.A (compEnvC scope cl C X.env) λ e s'=>oO (model X.prog X.w) X.A X.xe Q acc (compEnvC scope cl C X.env) (.error e) s')) pins σ H' {s' with heap:=h1} :=
  I.call' (s':={s' with heap:=h1}) (ch:=[]) os un1 hok1 bare (λ b z=>absurd z (by simp))
 obtain⟨m,ns,_⟩:=id I2.loc
 have ns':h1.Ns C m:=ns
 have u2:Un (frs X.stack) fp H3 H' s3.heap h1:=I2.base
 have fC:H' C=none:=I2.free
 have I4:Inv X pins0 σ0 H' {s' with heap:=h1}:=I3.call' (s':={s' with heap:=h1}) (ch:=fp) I2.os u2 I2.hok I2.bare (λ b hb=>⟨(hfp b hb).2.2.2.1,(hfp b hb).2.1,(hfp b hb).2.2.2.2.1,(hfp b hb).2.2.2.2.2⟩)
 have okC:dU X pins0 H' C:=I3.fpOk (Nat.le_of_eq hC.symm) fC
 have nC:C ∉ frs X.stack:=λ z=>by
  rcases List.mem_cons.mp (I4.stkSub C z) with y | y
  ·exact okC.2.1 y
  ·exact okC.2.2.1 y
 refine⟨m,ns',λ h2 sb=>?_⟩
 have I5:Inv X pins0 σ0 H' {s' with heap:=h2}:=Inv.turned (s:={s' with heap:=h1}) (it:=C) (t':=s'.toks) I4 (λ b o hb e=>(sb.2 b hb).trans e) okC.1 okC.2.1 okC.2.2.2.1 okC.2.2.2.2.1 okC.2.2.2.2.2
 refine tY (L:=X.env.locals) fl (wS sb nC ns' hw') λ h3 hw3 up3=>hxe _ _ ?_
 have hw3':Heap.HeldW (PySem.W.hideAll B [C]) (X.env::X.outer) a cls (.ref t) X.env.locals h3:=by rw[<-dx.st];exact hw3
 refine ql (s:={s' with heap:=h3}) fl hw3' λ h4 fw4 up4=>?_
 have n1:X.s₀.heap.get? a=none:=by
  cases z:X.s₀.heap.get? a with
  | none=>rfl
  | some o =>
   obtain⟨o',y⟩:=thr a o z
   rw[ne] at y;cases y
 refine sK (s:={s' with heap:=h2}) dx I5 (λ b o e1 hz hb=>?_) fw4 (up3.trans up4) n1 hn q
 have bC:b≠C:=λ z=>by
  subst z
  rcases hz with ⟨o',y⟩ | ⟨u,y⟩
  ·rcases okC.2.2.2.1 with w | w
   ·rw[dx.ex] at w;cases w
   ·exact absurd (Nat.lt_of_lt_of_le (Heap.lt_size y) w) (Nat.lt_irrefl _)
  ·rw[fC] at y;cases y
 have e2:h1.get? b=some o:=(sb.2 b bC).symm.trans e1
 have hz':(∃ o',s.heap.get? b=some o')∨∃ u,H' b=some u:=hz.imp (λ ⟨o',y⟩=>thr b o' y) id
 have th:∃ o2,s'.heap.get? b=some o2:=by
  rcases hz' with ⟨o',y⟩ | ⟨u,y⟩
  ·exact un.there b o' y (by simp)
  ·exact (hok b u y).there
 obtain⟨o2,e3⟩:=th
 have e4:=kB b o2 e3 hz' hb
 have e5:=hw.1 b o2 e4
 rw[e2] at e5
 cases e5
 exact PySem.W.hideAll_get [C] e4 (by simpa using bC)
end
section
variable {X:Cx}{E:XK}{elt iter tg:Expr}{ifs:List Expr}{xs:List Str}{pos:Pos}{scope:Scope}{cl:List (Str×Addr)}{ts:List (Str×Nat)}{wi:TI}{te:TE}{g:TG}{tt:TT}
theorem v9 (dx:kD X) (hxe:∀ e s',wpAny (model X.prog X.w) X.A (leaving X.env e) (λ _ s2=>CXX X.prog X.w X.outer X.H₀ X.s₀ E e s2) (λ e' s2=>CXX X.prog X.w X.outer X.H₀ X.s₀ E e' s2) s'->X.xe e s')
  (hc:X.calm=true) (O:bP X xs ts scope cl) (hi:PI X tg iter wi) (hg:∀ C s3 H3 fp,PG (aI X (cG xs ts) scope cl C s3 H3 fp) tg g)
  (ht:∀ C s3 H3 fp,PIf (aI X (cG xs ts) scope cl C s3 H3 fp) ifs tt)
  (he:∀ C s3 H3 fp xe,i9 (CXX X.prog X.w) ((aI X (cG xs ts) scope cl C s3 H3 fp).wish xe) E->PE ((aI X (cG xs ts) scope cl C s3 H3 fp).wish xe) elt te)
  (hs:∀ x,foldedSetIterable iter X.env x=pure x:=by intro _;rfl):PE X (.ListComp elt [⟨tg,iter,ifs,0⟩] scope pos) (mt wi g tt xs.length (bL ts) te):=by
 intro pins s σ H Q I h
 rw[eval_ListComp]
 refine qH rfl hs O.clos O.kind O.locs' (thn (hi pins s σ H _ I h) λ v s1 h1=>thn h1 λ itv s2 h2=>?_)
 obtain⟨it,fp,tn,J,H2,rfl,I2,T,st2,f2,q⟩:=h2
 have hD:H2 s2.heap.objs.size=none:=I2.hok.fresh (Nat.le_refl _)
 obtain⟨W,⟨m0,w0⟩,turn⟩:=q s2.heap.objs.size hD
 refine wpAny_newObj_type ?_
 have I3:Inv X pins σ (upd H2 s2.heap.objs.size (.lst [])) {s2 with heap:=s2.heap.push {cls:=.type "list",dict:=none,data:=.seq ([]:List Value).toArray}} :=
  I2.laid (a:=s2.heap.objs.size) (o:=.lst []) (t':=s2.toks) (λ b u e=>Heap.get?_push_of_some _ e) (Nat.le_refl _) ⟨Nat.zero_le _,[],0,.nil,Heap.get?_push_size _ rfl⟩
 generalize hs3:({s2 with heap:=s2.heap.push {cls:=.type "list",dict:=none,data:=.seq ([]:List Value).toArray}}:Shared)=s3 at I3
 have sz3:s3.heap.objs.size=s2.heap.objs.size+1:=by rw[<-hs3,Heap.size_push]
 have old3:∀ b u,s2.heap.get? b=some u->s3.heap.get? b=some u:=λ b u e=>by rw[<-hs3];exact Heap.get?_push_of_some _ e
 generalize hH3:upd H2 s2.heap.objs.size (.lst [])=H3 at I3 w0
 have fp2:∀ b∈fp,b<s2.heap.objs.size:=λ b hb=>by
  obtain⟨o,e,_⟩:=T.obj _ _ st2 b hb
  exact Heap.lt_size e
 have hfp:∀ b∈fp,dU X pins H3 b/\b<s3.heap.objs.size:=λ b hb=>by
  refine⟨⟨?_,(f2 b hb).2⟩,by rw[sz3];exact Nat.lt_succ_of_lt (fp2 b hb)⟩
  rw[<-hH3,al (Nat.ne_of_lt (fp2 b hb))]
  exact (f2 b hb).1
 refine wpAny_newFunctionEnv O.nocell' (by intro y hy;simp at hy) (λ h₁ hns₁ hsb₁=>?_) O.kind
 have old:∀ b o,s3.heap.get? b=some o->h₁.get? b=some o:=λ b o e=>hsb₁.extBut b o (Nat.ne_of_lt (Heap.lt_size e)) (Heap.get?_push_of_some _ e)
 have dk:Inv (aI X (cG xs ts) scope cl s3.heap.objs.size s3 H3 fp) [] (List.replicate xs.length none++bM σ (bL ts)) H3 {s3 with heap:=h₁,toks:=s3.toks+0}:=jj O I3 hfp hns₁ old
 have st4:tn 0 h₁:=T.keep _ _ _ st2 λ b hb o e=>old b o (old3 b o e)
 have okX:∀ {H':Hp},(∀ b∈fp,H' b=none)->∀ b∈fp,dU (aI X (cG xs ts) scope cl s3.heap.objs.size s3 H3 fp) [] H' b:=λ hn b hb=>by
  refine⟨hn b hb,Nat.ne_of_lt (hfp b hb).2,λ z=>?_,.inl hb,λ y c e=>(f2 b hb).2.2.2.2.1 y c (O.sub y c e),λ p hp=>absurd (show p∈([]:List (Addr×Obj)) from hp) (by simp)⟩
  rcases List.mem_cons.mp (I3.stkSub b z) with e | e
  ·exact (f2 b hb).2.1 e
  ·exact (f2 b hb).2.2.1 e
 have loop:∀ s₄:Shared,s₄={s3 with heap:=h₁,toks:=s3.toks+0} ->
   codeAny (model X.prog X.w) X.A (.compLoop (.ListComp elt [⟨tg,iter,ifs,0⟩] scope pos) 0 (.ref it) (.ref s2.heap.objs.size) (compEnvC scope cl s3.heap.objs.size X.env))
    (oO (model X.prog X.w) X.A X.xe (EP X pins σ Q) (.ref s2.heap.objs.size) (compEnvC scope cl s3.heap.objs.size X.env)) s₄:=by
  rintro s₄ rfl
  refine kN (λ n s'=>∃ i ys σ0 H',σ0.length=xs.length/\Inv (aI X (cG xs ts) scope cl s3.heap.objs.size s3 H3 fp) [] (σ0++bM σ (bL ts)) H' s'/\tn i s'.heap/\(∀ b∈fp,H' b=none)/\W i n ys H') ?_ m0
   ⟨0,[],_,H3,by simp,dk,st4,λ b hb=>(hfp b hb).1.1,w0⟩
  rintro n s5 ⟨i,ys,σ0,H5,l0,I5,st5,fr5,w5⟩
  rcases turn i n ys H5 w5 with ⟨stop,qn⟩ | ⟨go,step⟩
  ·refine thn (T.done (aI X (cG xs ts) scope cl s3.heap.objs.size s3 H3 fp) rfl rfl rfl hc i [] s5 (σ0++bM σ (bL ts)) H5 _ I5 (okX fr5) st5 stop) λ r s6 ⟨hr,I6⟩=>?_
   subst hr
   obtain⟨m,hn,_⟩:=id I6.loc
   have u6:Un (frs X.stack) fp H3 H5 s3.heap s6.heap:=I6.base
   have fC:H5 s3.heap.objs.size=none:=I6.free
   have J6:Inv X pins σ H5 s6:=I3.call' (s':=s6) (ch:=fp) I6.os u6 I6.hok I6.bare (λ b hb=>⟨(f2 b hb).2.2.2.1,(f2 b hb).2.1,(f2 b hb).2.2.2.2.1,(f2 b hb).2.2.2.2.2⟩)
   have oC:dU X pins H5 s3.heap.objs.size:=I3.fpOk (Nat.le_refl _) fC
   exact⟨m,hn,λ h' sb=>⟨.ref s2.heap.objs.size,H5,J6.turned (it:=s3.heap.objs.size) (t':=s6.toks) (λ b o hb e=>(sb.2 b hb).trans e) oC.1 oC.2.1 oC.2.2.2.1 oC.2.2.2.2.1 oC.2.2.2.2.2,rfl,qn⟩⟩
  ·refine thn (T.item (aI X (cG xs ts) scope cl s3.heap.objs.size s3 H3 fp) rfl rfl rfl hc i [] s5 (σ0++bM σ (bL ts)) H5 _ I5 (okX fr5) st5 go) λ r s6 ⟨u,hr,h6⟩=>?_
   subst hr
   refine thn h6 λ _ s7 ⟨z,H7,I7,rz,yz,st7,fr7⟩=>?_
   have I7':=I7.pinned (okX fr7) (T.obj _ _ st7)
   refine thn (hg s3.heap.objs.size s3 H3 fp _ s7 _ H7 z u _ I7' rz (step z H7 σ0 yz l0)) λ _ s8 ⟨σ8,H8,I8,⟨σ1,l1,e8⟩,q8⟩=>?_
   subst e8
   refine thn (ht s3.heap.objs.size s3 H3 fp _ s8 _ H8 _ I8 q8) λ b s9 ⟨H9,I9,q9⟩=>?_
   cases b with
   | true =>
    rw[if_pos rfl] at q9 ⊢
    have hx:=uF (E:=E) (N':=cG xs ts) (scope:=scope) (cl:=cl) (Q:=EP X pins σ Q) (acc:=.ref s2.heap.objs.size) dx hxe I3 (λ b hb=>(hfp b hb).1) rfl
    refine wpAny_mono (he s3.heap.objs.size s3 H3 fp _ hx _ s9 _ H9 _ (I9.wish _) q9) (λ y s10 ⟨vy,H10,I10',ry,hD9,hl9,m',hm',w9⟩=>?_) λ _ _ z=>z
    have I10:=I10'.unwish
    refine thn (eO (X:=aI X (cG xs ts) scope cl s3.heap.objs.size s3 H3 fp) _ s10 _ H10 (.ref s2.heap.objs.size) [vy] (.ref s2.heap.objs.size) [y] (λ _ H11=>H11=upd H10 s2.heap.objs.size (.lst (ys++[vy]))) I10 rfl (.cons ry .nil) ⟨_,ys,vy,rfl,rfl,hD9,hl9,rfl⟩) λ _ s11 ⟨_,H11,I11,_,e11⟩=>?_
    subst e11
    refine⟨m',hm',i+1,ys++[vy],σ1,_,l1,I11.unpinned,T.keep _ _ _ st7 λ b hb o e=>(I11.pin (b,o) (List.mem_append_right _ (List.mem_append_right _ (bg hb e)))).1,λ b hb=>?_,w9⟩
    obtain⟨o,e,d⟩:=T.obj _ _ st7 b hb
    exact (I11.pin (b,o) (List.mem_append_right _ (List.mem_append_right _ (bg hb e)))).2.1
   | false =>
    rw[if_neg Bool.false_ne_true] at q9 ⊢
    obtain⟨m',hm',w9⟩:=q9
    refine⟨m',hm',i+1,ys,σ1,_,l1,I9.unpinned,T.keep _ _ _ st7 λ b hb o e=>(I9.pin (b,o) (List.mem_append_right _ (List.mem_append_right _ (bg hb e)))).1,λ b hb=>?_,w9⟩
    obtain⟨o,e,d⟩:=T.obj _ _ st7 b hb
    exact (I9.pin (b,o) (List.mem_append_right _ (List.mem_append_right _ (bg hb e)))).2.1
 have hst:=codeAny_compStart_list (loop _ rfl) (T.self X.A 0 _ _ _ st4 (loop _ rfl))
 exact hst
end
section
open PySem.W
variable {X:Cx}
end
theorem qE {K:PySem.W.Frag}{a:Addr}{xs:List V}{te:TE}{st:St}{H1:Hp}{Q:VK}{D:Addr} (R:Nat->List V->Hp->Prop) (hD:H1 D=none) (q1:SqT K H1 a xs) (hn:xs.length<=sizeLine) (h0:R 0 [] (upd H1 D (.lst [])))
  (hs:∀ (i:Nat) (x:V) (ys:List V) (H2:Hp) (k:VK),xs[i]? = some x->ak H1 H2->H2 D=some (.lst ys)->ys.length=i->R i ys H2->(∀ y H4,ak H2 H4->R (i+1) (ys++[y]) (upd H4 D (.lst (ys++[y])))->k y H4)->te (some x::st) H2 k)
  (hd:∀ ys H2,ak H1 H2->H2 D=some (.lst ys)->ys.length=xs.length->R xs.length ys H2->Q (.ref D) H2):eW (Itt K a) (cr 0) kG te 1 st D H1 Q:=by
 refine⟨λ i m ys H2=>m=xs.length-i/\i<=xs.length/\ys.length=i/\ak H1 H2/\H2 D=some (.lst ys)/\R i ys H2,⟨xs.length,by simp,Nat.zero_le _,rfl,aT (ak.refl H1) hD,ad,h0⟩,?_⟩
 rintro i m ys H2 ⟨rfl,hi,hl,sm,e,r⟩
 by_cases hlt:i<xs.length
 ·have ex:xs[i]? = some xs[i]:=List.getElem?_eq_getElem hlt
  refine .inr ⟨⟨xs,_,sm.tup q1,ex⟩,?_⟩
  rintro x H3 σ0 ⟨rfl,hx⟩ l0
  have hx':=hx xs (sm.tup q1)
  obtain⟨a',rfl⟩:∃ a,σ0 = [a]:=by
   match σ0,l0 with
   | [a],_=>exact⟨a,rfl⟩
  refine⟨⟨[some x],rfl,rfl⟩,?_⟩
  exact hs i x ys _ _ hx' sm e hl r λ y H4 s4 r4=>⟨s4 _ _ e,by omega,xs.length-(i+1),by omega,rfl,hlt,by simp [hl],aT (sm.trans s4) hD,ad,r4⟩
 ·have ei:i=xs.length:=by omega
  subst ei
  exact .inl ⟨⟨xs,sm.tup q1,Nat.le_refl _⟩,hd ys H2 sm e hl r⟩
abbrev fx (H:Hp) (a:Addr) (xs:List V):Prop:=H a=some (.lst xs)∨H a=some (.tup xs)
theorem fx.keep {H H':Hp}{a:Addr}{xs:List V} (h:fx H a xs) (s:ak H H'):fx H' a xs:=h.imp (s _ _) (s _ _)
theorem fx.sq {K:PySem.W.Frag}{H:Hp}{a:Addr}{xs:List V} (h:fx H a xs):SqL K H a xs∨SqT K H a xs:=h.imp SqL.of SqT.of
theorem fx.ix {K:PySem.W.Frag}{H:Hp}{a:Addr}{xs:List V}{i:Int}{v:V}{Q:VK} (h:fx H a xs) (e:atI xs i=some v) (q:Q v H):rIx K (.ref a) (.int i) H Q:=by
 rcases h with h | h
 ·exact .inl ⟨a,xs,i,v,rfl,rfl,SqL.of h,e,q⟩
 ·exact .inr (.inl ⟨a,xs,i,v,rfl,rfl,SqT.of h,e,q⟩)
theorem vF {K:PySem.W.Frag}{a:Addr}{xs:List V}{te:TE}{st:St}{H1:Hp}{Q:VK} (hq:fx H1 a xs) (hn:xs.length<=sizeLine) (R:Addr->Nat->List V->Hp->Prop)
  (h0:∀ D,H1 D=none->R D 0 [] (upd H1 D (.lst [])))
  (hs:∀ (D:Addr) (i:Nat) (x:V) (ys:List V) (H2:Hp) (k:VK),H1 D=none->xs[i]? = some x->ak H1 H2->H2 D=some (.lst ys)->ys.length=i->R D i ys H2->(∀ y H4,ak H2 H4->R D (i+1) (ys++[y]) (upd H4 D (.lst (ys++[y])))->k y H4)->te (some x::st) H2 k)
  (hd:∀ D ys H2,H1 D=none->ak H1 H2->H2 D=some (.lst ys)->ys.length=xs.length->R D xs.length ys H2->Q (.ref D) H2) :
  (SqL K H1 a xs/\∀ D,H1 D=none->eW (Itl K a) (cr 0) kG te 1 st D H1 Q)∨(SqT K H1 a xs/\∀ D,H1 D=none->eW (Itt K a) (cr 0) kG te 1 st D H1 Q):=by
 rcases hq with h | h
 ·exact .inl ⟨SqL.of h,λ D hD=>pG (R D) hD (SqL.of h) hn (h0 D hD) (λ i x ys H2 k a1 a2 a3 a4 a5=>hs D i x ys H2 k hD a1 a2 a3 a4 a5) λ ys H2=>hd D ys H2 hD⟩
 ·exact .inr ⟨SqT.of h,λ D hD=>qE (R D) hD (SqT.of h) hn (h0 D hD) (λ i x ys H2 k a1 a2 a3 a4 a5=>hs D i x ys H2 k hD a1 a2 a3 a4 a5) λ ys H2=>hd D ys H2 hD⟩
end L2
namespace L2
open PySem PySem.Spec PyProof.Rows PySem.W Gc
section
variable {prog:Program}{w:World}{A:Around}{E:Value->Shared->Prop}{s:Shared}
end
section
variable {X:Cx}
end
end L2
namespace L2
open PySem PySem.Spec PyProof.Rows
def ET0 (K:PySem.W.Frag) (CS:Addr) (ts:Addr->Obj->TS) (D:gC):St->XK:=λ σ cls _ H =>
 PySem.W.subIn K cls (.ref CS)=some true/\∀ e oe,H e=none->oe.cls=cls->ts e oe D σ H
def BB (K:PySem.W.Frag) (CS:Addr) (tb:(St->XK)->TS) (ts:Addr->Obj->TS):TS:=λ D σ H=>tb (ET0 K CS ts D) D σ H
theorem yp {X:Cx}{body:List Stmt}{b0:Stmt}{suite:List Stmt}{S:Str}{np hpos pos:Pos}{CS:Addr}{tb:(St->XK)->TS}{ts:Addr->Obj->TS} (dx:kD X)
  (hg:Gl X S) (hm:X.mg S=some (.ref CS)) (ca:xC X.K CS)
  (hb:∀ (xe:Value->Shared->Prop) (pn:List (Addr×Obj)) (E:St->XK),nW (CXX X.prog X.w) (X.tried xe pn) E->PSs (X.tried xe pn) body (tb E))
  (hs:∀ (e:Addr) (oe:Obj),PSs (X.held e oe) (b0::suite) (ts e oe)) (hdb:(S == ("__debug__":Str))=false:=by decide) :
  PS X (.Try body [.ExceptHandler (some (.Name S np)) none (b0::suite) hpos] [] [] pos) (BB X.K CS tb ts):=by
 intro pins s σ H D I h
 have pass:nW (CXX X.prog X.w) (X.tried (λ e s1=>wpAny (model X.prog X.w) X.A (noteFrame e X.env) (λ _ s2=>wpAny (model X.prog X.w) X.A (setFlight e none) (λ _ s3 =>
   wpAny (model X.prog X.w) X.A (handleBy e X.env [.ExceptHandler (some (.Name S np)) none (b0::suite) hpos]) (SP X pins D) X.xe s3) X.xe s2) X.xe s1) pins) (ET0 X.K CS ts D):=by
  intro pins' σ' H1 s1 e s' I' hx
  obtain⟨a,cls,H',rfl,os,bare,un,hok,⟨B,t,fw,ne,hn,kB⟩,hk,q⟩:=hx
  have J:Inv X pins σ' H1 s1:=I'.untried
  have hu:∀ b∈frs X.stack,H' b=none:=λ b z=>by
   obtain⟨_,o,e0,_⟩:=J.stack.mem z
   exact un.free b o e0 (J.stkFree b z) (by simp)
  have keep5:∀ h5:Heap,B.StaysIn h5->s'.heap.UpToSlots h5->Un (frs X.stack) [] H1 H' s1.heap h5/\HOk X.prog X.w H' h5:=λ h5 st up =>
   i0 un hok kB fw.2.2.1 (λ _ z=>z) (λ b z nz=>absurd z nz) hu st up
  have inv5:∀ h5:Heap,B.StaysIn h5->s'.heap.UpToSlots h5->Inv X pins σ' H' {s' with heap:=h5}:=λ h5 st up =>
   J.call' (s':={s' with heap:=h5}) (ch:=[]) os (keep5 h5 st up).1 (keep5 h5 st up).2 bare (λ b z=>absurd z (by simp))
  have neL:a≠X.env.locals:=λ z=>by
   obtain⟨m,⟨o,_,_,ho,_⟩,_⟩:=J.loc
   rw[<-z,ne] at ho;cases ho
  have nfs:a ∉ X.fs:=λ z=>by
   obtain⟨_,o,e0,_⟩:=J.funs.mem z
   rw[ne] at e0;cases e0
  have fw':Heap.FlyingW B (X.env::X.outer) a cls (.ref t) s'.heap:=by rw[<-dx.st];exact fw
  show wpAny (model X.prog X.w) X.A (noteFrame (.ref a) X.env) _ X.xe s'
  refine wpAny_looks_onW (by rw[J.ok.frames,dx.st]) dx.fr fw' λ h4 held4 up4=>?_
  refine wpAny_landsW held4 λ h5 fl5 up5=>?_
  have up:=up4.trans up5
  have J5:=inv5 h5 fl5.1 up
  obtain⟨oe,vs,hoe,hoc,hod,_⟩:=fl5.first
  have K5:Inv (X.held a oe) pins σ' H' {s' with heap:=h5}:=J5.held hoe hn neL nfs (λ v z=>by rw[hod] at z;cases z)
  refine wpAny_handleBy_cons (codeAny_handlers_test (hZ K5 hg hm ?_ hdb)) (by intro z;cases z)
  refine pz K5.kIn hoe ca (by rw[hoc];exact hk) ?_
  refine codeAny_handlers_suite ?_
  refine lands_againW fl5 λ h6 fl6 up6=>?_
  have J6:=inv5 h6 fl6.1 (up.trans up6)
  obtain⟨oe6,vs6,hoe6,hoc6,hod6,_⟩:=fl6.first
  have K6:Inv (X.held a oe6) pins σ' H' {s' with heap:=h6}:=J6.held hoe6 hn neL nfs (λ v z=>by rw[hod6] at z;cases z)
  refine wpAny_mono (hs a oe6 pins _ _ H' D K6 (q a oe6 hn hoc6)) (λ f s8 h8=>?_) (λ _ _ z=>z.elim)
  cases f with
  | next =>
   obtain⟨σ8,H8,I8,q8⟩:=h8
   exact⟨_,_,I8.unheld I.ok.hd,q8⟩
  | brk =>
   obtain⟨σ8,H8,I8,q8⟩:=h8
   exact⟨_,_,I8.unheld I.ok.hd,q8⟩
  | cont =>
   obtain⟨σ8,H8,I8,q8⟩:=h8
   exact⟨_,_,I8.unheld I.ok.hd,q8⟩
  | ret u =>
   obtain⟨v8,σ8,H8,I8,r8,q8⟩:=h8
   exact⟨_,_,_,I8.unheld I.ok.hd,r8,q8⟩
 refine wpAny_Try_except (wpAny_mono (hb _ pins _ pass [] s σ H D I.tried h) (λ f s1 hf=>?_) λ e s1 he=>he)
 cases f with
 | next =>
  obtain⟨σ',H',J,q⟩:=hf
  exact wpAny_execs_nil ⟨σ',H',J.untried,q⟩
 | brk =>
  obtain⟨σ',H',J,q⟩:=hf
  exact⟨σ',H',J.untried,q⟩
 | cont =>
  obtain⟨σ',H',J,q⟩:=hf
  exact⟨σ',H',J.untried,q⟩
 | ret u =>
  obtain⟨v,σ',H',J,r,q⟩:=hf
  exact⟨v,σ',H',J.untried,r,q⟩
end L2
namespace L2
open PySem PySem.Spec PyProof.Rows
def Itd (hi:Int) (n:Nat):It:=⟨λ i _=>i<n,λ i H x H'=>H'=H/\x=.int (hi-i),λ i _=>n<=i⟩
theorem tD {P:Program}{w:World}{K:PySem.W.Frag}{tg:Expr} (it:Addr) (hi:Int) (n:Nat):pK P w K tg (Itd hi n) [it] it (λ i h=>IsRangeIter h it (hi+(i:Nat)*(-1)) ((n:Int)-(i:Nat)) (-1)) where
 mem:=List.mem_singleton.mpr rfl
 obj:=λ i h st b hb=>by
  cases List.mem_singleton.mp hb
  exact⟨_,st,λ v z=>nomatch (show Data.fields _=Data.cell v from z)⟩
 keep:=λ i h h' st k=>k it (List.mem_singleton.mpr rfl) _ st
 item:=by
  intro X eP ew eK hc i pins s σ H E I hf st hg
  cases eP;cases ew;cases eK
  have ff:=hf it (List.mem_singleton.mpr rfl)
  have W:=Walks.range (prog:=X.prog) (w:=X.w) (I.ok.hd hc) it hi (-1) n
  refine W.item i s _ _ hg st λ v h' tk hv st' kk=>?_
  obtain⟨t,rfl⟩:=hv
  have J:Inv X pins σ H {s with heap:=h',toks:=tk}:=I.turned (λ b o hb e=>kk b o (λ m=>hb (List.mem_singleton.mp m)) e) ff.1 ff.2.1 ff.2.2.2.1 ff.2.2.2.2.1 ff.2.2.2.2.2
  have en:hi+(i:Nat)*(-1)=hi-(i:Nat):=by omega
  exact⟨_,rfl,pf (s:={s with heap:=h',toks:=tk}) (n:="range_iterator") st' rfl rfl (by decide) ⟨.int (hi-i),H,J,⟨t,by rw[en]⟩,⟨rfl,rfl⟩,st',λ b hb=>(hf b hb).1⟩⟩
 done:=by
  intro X eP ew eK hc i pins s σ H E I hf st hg
  cases eP;cases ew;cases eK
  have ff:=hf it (List.mem_singleton.mpr rfl)
  have hn:n<=i:=hg
  exact wpAny_pyNext_range_end (I.ok.hd hc) st (by omega) λ h' eb=>⟨rfl,I.turned (t':=s.toks) (λ b o hb e=>eb b o hb e) ff.1 ff.2.1 ff.2.2.2.1 ff.2.2.2.2.1 ff.2.2.2.2.2⟩
 self:=λ _ _ _ _ _ st h=>wpAny_pyIter_rangeiter st h
theorem p6 {a b:Int} (h1:0<=a) (h2:a<2^62) (h3:-(2^62)<=b) (h4:b<2^62):Builtin.Range.small a b (-1)=true:=by
 unfold Builtin.Range.small Builtin.Range.rangeFitsLong
 rw[PySem.W.rangeSize_downNat,if_neg (by decide)]
 simp only[Bool.and_eq_true,Bool.or_eq_true,decide_eq_true_eq]
 have k:(2:Int)^62+2^62=2^63:=by decide
 have k0:(0:Int)<2^62:=by decide
 generalize (2:Int)^63=W at *
 generalize (2:Int)^62=V at *
 have:0<W:=by omega
 refine⟨⟨⟨⟨⟨by omega,by omega⟩,by omega,by omega⟩,by omega,by omega⟩,by omega,by omega⟩,.inr ⟨by omega,by omega⟩⟩
section
variable {X:Cx}{tg:Expr}
def Cb (ta:TA):TI:=λ σ H R=>ta σ H λ vs H1=>∃ i j:Int,vs = [.int i,.int j,.int (-1)]/\(0<=i/\i<2^62/\-(2^62)<=j/\j<2^62)/\R (Itd i (i-j).toNat) H1
theorem iU {a b c:Expr}{ta:TA}{p pos:Pos} (hg:Gl X "range") (hm:X.mg "range" = none) (ha:PA X [a,b,c] ta) (hs:starEach [a,b,c] X.env = [(false,eval a X.env),(false,eval b X.env),(false,eval c X.env)]:=by rfl) (hs2:starEach [b,c] X.env = [(false,eval b X.env),(false,eval c X.env)]:=by rfl) :
  PI X tg (.Call (.Name "range" p) [a,b,c] [] pos) (Cb ta):=by
 intro pins s σ H R I h
 refine Call_ (fi I hg hm boot_range (PyProof.Rows.callWith_type1 (thn (ha pos pins s σ H _ I h) λ us s1 ⟨vs,H1,I1,r1,q1⟩=>?_) (by rw[hs,hs2]) (by rw[hs2];rfl)))
 obtain⟨i,j,e,⟨q1,q2,q3,q4⟩,q⟩:=q1
 subst e
 cases r1 with
 | cons r rr =>
 cases rr with
 | cons r' rr =>
 cases rr with
 | cons r'' rr =>
 cases rr
 obtain⟨t,rfl⟩:=r
 obtain⟨t',rfl⟩:=r'
 obtain⟨t'',rfl⟩:=r''
 refine call_range_3 (by decide) ?_ (.inl rfl)
 refine wpAny_pyIter_range (IsRange.new ..) (p6 q1 q2 q3 q4) ?_
 have J:Inv X pins σ H1 {s1 with heap:=s1.heap.push {cls:=.type "range",data:=.fields #[.int i t,.int j t',.int (-1) t'']}}:=I1.kept (t':=s1.toks) λ b o e=>Heap.get?_push_of_some _ e
 refine⟨(s1.heap.push {cls:=.type "range",data:=.fields #[.int i t,.int j t',.int (-1) t'']}).objs.size,[(s1.heap.push {cls:=.type "range",data:=.fields #[.int i t,.int j t',.int (-1) t'']}).objs.size],_,_,H1,rfl,
  J.kept (t':=s1.toks) λ b o e=>Heap.get?_push_of_some _ e,tD _ i (i-j).toNat,?_,λ b hb=>?_,q⟩
 ·have e1:i+((0:Nat):Int)*(-1)=i:=by omega
  have e2:(((i-j).toNat:Nat):Int)-((0:Nat):Int)=Builtin.Range.rangeSize i j (-1):=by rw[PySem.W.rangeSize_downNat];omega
  show IsRangeIter _ _ (i+((0:Nat):Int)*(-1)) ((((i-j).toNat:Nat):Int)-((0:Nat):Int)) (-1)
  rw[e1,e2]
  exact Heap.get?_push_size _ rfl
 ·cases List.mem_singleton.mp hb
  exact J.fpOk (Nat.le_refl _) (J.hok.fresh (Nat.le_refl _))
end
theorem pr {hi:Int}{n:Nat}{g:TG}{tb:TS}{D:gC}{σ:St}{H:Hp} (Pv:Nat->St->Hp->Prop) (h0:Pv 0 σ H)
  (hs:∀ i σ H,i<n->Pv i σ H->g (.int (hi-i)) σ H λ σ2 H2=>tb {D with nx:=Pv (i+1),ct:=Pv (i+1),bk:=D.nx} σ2 H2) (hd:∀ σ H,Pv n σ H->D.nx σ H) :
  ∃ W:Nat->Nat->St->Hp->Prop,(∃ m,W 0 m σ H)/\∀ i m σ H,W i m σ H ->
   ((Itd hi n).stop i H/\D.nx σ H)∨((Itd hi n).go i H/\∃ N:St->Hp->Prop,(∀ σ' H',N σ' H'->∃ m',m'<m/\W (i+1) m' σ' H')/\∀ x H',(Itd hi n).yld i H x H'->g x σ H' λ σ2 H2=>tb {D with nx:=N,ct:=N,bk:=D.nx} σ2 H2):=by
 refine⟨λ i m σ H=>m=n-i/\i<=n/\Pv i σ H,⟨n,rfl,Nat.zero_le _,h0⟩,?_⟩
 rintro i _ σ H ⟨rfl,hi',p⟩
 rcases Nat.lt_or_ge i n with lt | ge
 ·refine .inr ⟨lt,Pv (i+1),λ σ' H' p'=>⟨n-(i+1),by omega,rfl,lt,p'⟩,?_⟩
  rintro x H' ⟨rfl,rfl⟩
  exact hs i σ _ lt p
 ·have e:i=n:=Nat.le_antisymm hi' ge
  exact .inl ⟨ge,hd σ H (e ▸ p)⟩
theorem qI {hi:Int}{n:Nat}{te:TE}{st:St}{H1:Hp}{Q:VK}{D:Addr} (R:Nat->List V->Hp->Prop) (hD:H1 D=none) (hn:n<=sizeLine) (h0:R 0 [] (upd H1 D (.lst [])))
  (hs:∀ (i:Nat) (ys:List V) (H2:Hp) (k:VK),i<n->ak H1 H2->H2 D=some (.lst ys)->R i ys H2->(∀ y H4,ak H2 H4->R (i+1) (ys++[y]) (upd H4 D (.lst (ys++[y])))->k y H4)->te (some (.int (hi-i))::st) H2 k)
  (hd:∀ ys H2,ak H1 H2->H2 D=some (.lst ys)->ys.length=n->R n ys H2->Q (.ref D) H2):nY (Itd hi n) te st D H1 Q:=by
 refine⟨λ i m ys H2=>m=n-i/\i<=n/\ys.length=i/\ak H1 H2/\H2 D=some (.lst ys)/\R i ys H2,⟨n,by simp,Nat.zero_le _,rfl,aT (ak.refl H1) hD,ad,h0⟩,?_⟩
 rintro i m ys H2 ⟨rfl,hi',hl,sm,e,r⟩
 by_cases hlt:i<n
 ·refine .inr ⟨hlt,?_⟩
  rintro x H3 ⟨rfl,rfl⟩
  refine hs i ys _ _ hlt sm e r λ y H4 s4 r4=>⟨s4 _ _ e,by omega,n-(i+1),by omega,rfl,hlt,by simp [hl],aT (sm.trans s4) hD,ad,r4⟩
 ·have ei:i=n:=by omega
  subst ei
  exact .inl ⟨Nat.le_refl _,hd ys H2 sm e hl r⟩
end L2
namespace L2
open PySem PySem.Spec PyProof.Rows
def Fz (o:Obj):HO:=.frz o (.ext λ _=>True)
theorem ph {P:Program}{w:World}{H:Hp}{h:Heap}{a:Addr}{o:Obj} (e:h.get? a=some o):aN P w H h a (Fz o):=⟨e,trivial,⟨o,e⟩,λ _ _ _ _=>trivial⟩
theorem ee {P:Program}{w:World}{H:Hp}{h:Heap}{a:Addr}{o:Obj} (k:HOk P w H h) (e:H a=some (Fz o)):h.get? a=some o:=(k a _ e).1
def hid (H:Hp) (c:Addr):Hp:=λ b=>if b=c then none else H b
theorem cC {H:Hp}{b c:Addr} (h:b≠c):hid H c b=H b:=if_neg h
theorem ia {H:Hp}{c:Addr}:hid H c c=none:=if_pos rfl
theorem wP {H:Hp}{b c:Addr}{o:HO} (e:hid H c b=some o):b≠c/\H b=some o:=by
 by_cases z:b=c
 ·rw[z,ia] at e;cases e
 ·exact⟨z,by rw[cC z] at e;exact e⟩
theorem HOk.hide {P:Program}{w:World}{H:Hp}{h:Heap}{c:Addr}{o:Obj} (k:HOk P w H h) (e:H c=some (Fz o)):HOk P w (hid H c) h:=λ b u q=>by
 obtain⟨n,q⟩:=wP q
 refine (k b u q).stay (λ _ _ _ z=>z) (λ d z=>?_) λ d xs z=>?_
 ·rw[cC (λ y=>by rw[y,e] at z;cases z)];exact z
 ·rw[cC (λ y=>by rw[y,e] at z;cases z)];exact z
theorem HOk.show {P:Program}{w:World}{H:Hp}{h:Heap}{c:Addr}{o:Obj} (k:HOk P w H h) (n:H c=none) (e:h.get? c=some o):HOk P w (upd H c (Fz o)) h:=λ b u q=>by
 by_cases z:b=c
 ·subst z
  rw[ad] at q
  cases q
  exact ph e
 ·rw[al z] at q
  refine (k b u q).stay (λ _ _ _ y=>y) (λ d y=>?_) λ d xs y=>?_
  ·rw[al (aC y n)];exact y
  ·rw[al (aC y n)];exact y
theorem Un.unshow {fs:List Addr}{H H2:Hp}{h h2:Heap}{c:Addr}{o:Obj}{P:Program}{w:World} (n:H c=none) (e:h.get? c=some o) (hf:c ∉ fs) (u:Un fs [] (upd H c (Fz o)) H2 h h2) (k:HOk P w H2 h2):Un fs [] H (hid H2 c) h h2/\HOk P w (hid H2 c) h2/\H2 c=some (Fz o):=by
 have e2:H2 c=some (Fz o):=u.frzs c o _ ad
 refine⟨⟨λ b ob q hn hb hx=>?_,λ b ob q hn hb hx=>?_,λ b ob q hn hx=>?_,λ b ob q hx=>u.there b ob q hx,λ b xs q=>?_,λ b ob v q=>?_,λ b ps q=>?_⟩,k.hide e2,e2⟩
 ·by_cases z:b=c
  ·subst z
   rw[e] at q
   cases q
   exact ee k e2
  ·exact u.keep b ob q (by rw[al z];exact hn) hb hx
 ·have z:b≠c:=λ y=>hf (by rw[<-y];exact hb)
  exact u.slot b ob q (by rw[al z];exact hn) hb hx
 ·by_cases z:b=c
  ·rw[z];exact ia
  ·rw[cC z];exact u.free b ob q (by rw[al z];exact hn) hx
 ·have z:b≠c:=aC q n
  rw[cC z];exact u.tups b xs (by rw[al z];exact q)
 ·have z:b≠c:=aC q n
  rw[cC z];exact u.frzs b ob v (by rw[al z];exact q)
 ·have z:b≠c:=aC q n
  rw[cC z];exact u.tbls b ps (by rw[al z];exact q)
def kE (o:Obj) (qual:Str):Prop:=∃ vs t,o.data=.fields vs/\(vs[1]? : Option Value)=some (.str qual t)
def CC (P:Addr) (pos:Pos) (qual:Str) (mk:Addr->Value->Obj):TE:=λ _ H Q=>∃ ps,H P=some (.tbl ps)/\TriplesOk ps.toList /\
 ((codeAmong pos ps.toList=none/\∀ f c' oc ctv,H f=none->H c'=none->f≠c'->kE oc qual->Q (.ref f) (upd (upd (upd H P (.tbl (ps ++ #[rawInt pos.line,rawInt pos.col,.ref c']))) c' (Fz oc)) f (Fz (mk c' ctv)))) ∨
  (∃ c',codeAmong pos ps.toList=some (.ref c')/\∀ f ctv,H f=none->Q (.ref f) (upd H f (Fz (mk c' ctv)))))
section
variable {X:Cx}
theorem AH {params:Arguments}{body:Expr}{scope:Scope}{pos:Pos}{c P:Addr}{clos:List (Str×Addr)} (hcode:X.env.code=.ref c) (hC:PySem.W.CodeHd X.base c P) (hB:X.base.BuiltinsAt X.mg P) (hcl:closureFor scope X.env=pure clos) (hdef:defaultsOf params X.env=([],[])) :
  PE X (.Lambda params body scope pos) (CC P pos (X.env.qual ++ "<lambda>") λ c' ctv=>PySem.W.kla_obj "<lambda>" (X.env.qual ++ "<lambda>") params body scope clos ((X.mg "__name__").getD .none) c' ctv):=by
 intro pins s σ H Q I h
 obtain⟨ps,hP,ht,hcase⟩:=h
 have eP:s.heap.get? P=some (PySem.W.tabObj ps):=I.hok P _ hP
 have hns:=I.mod.glob.keeps I.bk
 have hgP:mainGlobals≠P:=λ q=>by
  obtain⟨o,es,ep,e,hd,_⟩:=hns
  rw[q,eP] at e;cases e;cases hd
 obtain⟨bm,ob,b1,b2,b3,b4,b5,b6⟩:=hB
 have hB':s.heap.BuiltinsAt X.mg P:=⟨bm,ob,b1,b2,b3,b4,I.bk _ _ b5,b6⟩
 have hC':=hC.keeps I.bk
 refine PySem.W.kla_eval hdef ?_
 rcases hcase with ⟨hno,q⟩ | ⟨c',hc',q⟩
 ·refine PySem.W.kla_makeFunction hcl I.ok.glob hns hcode hC' eP ht hno hgP hB' λ c' ctv h' tk hx hge hlt hrec htb=>?_
  obtain⟨c2,oc,vs,t,e2,hoc,hd,hv⟩:=hrec
  cases e2
  have fresh:∀ b,s.heap.objs.size<=b->H b=none:=λ b hb=>I.hok.fresh hb
  have hf:s.heap.objs.size<=h'.objs.size:=Nat.le_trans hge (Nat.le_of_lt hlt)
  have nfc:h'.objs.size≠c':=Nat.ne_of_gt hlt
  have nPc:P≠c':=λ z=>by rw[z,fresh c' hge] at hP;cases hP
  have nPf:P≠h'.objs.size:=λ z=>by rw[z,fresh _ hf] at hP;cases hP
  have kp:∀ b o,b≠P->s.heap.get? b=some o->(h'.push (PySem.W.kla_obj "<lambda>" (X.env.qual ++ "<lambda>") params body scope clos ((X.mg "__name__").getD .none) c' ctv)).get? b=some o:=λ b o hb e=>Heap.get?_push_of_some _ (hx b o hb e)
  have old:∀ b o,H b=some o->b≠c'/\b≠h'.objs.size:=λ b o e=>⟨aC e (fresh c' hge),aC e (fresh _ hf)⟩
  have at_:∀ b o,b≠P->H b=some o->upd (upd (upd H P (.tbl (ps ++ #[rawInt pos.line,rawInt pos.col,.ref c']))) c' (Fz oc)) h'.objs.size (Fz (PySem.W.kla_obj "<lambda>" (X.env.qual ++ "<lambda>") params body scope clos ((X.mg "__name__").getD .none) c' ctv)) b=some o:=λ b o hb e=>by
   rw[al (old b o e).2,al (old b o e).1,al hb];exact e
  refine⟨.ref h'.objs.size,_,I.un (t':=tk) (H':=upd (upd (upd H P (.tbl (ps ++ #[rawInt pos.line,rawInt pos.col,.ref c']))) c' (Fz oc)) h'.objs.size (Fz (PySem.W.kla_obj "<lambda>" (X.env.qual ++ "<lambda>") params body scope clos ((X.mg "__name__").getD .none) c' ctv))) ?_ ?_,rfl,q _ c' oc ctv (fresh _ hf) (fresh _ hge) nfc ⟨vs,t,hd,hv⟩⟩
  ·refine⟨λ b o e n hb hx'=>kp b o (λ z=>by rw[z,hP] at n;cases n) e,λ b o e n hb hx'=>⟨o.slots,kp b o (λ z=>by rw[z,hP] at n;cases n) e⟩,λ b o e n hx'=>?_,λ b o e hx'=>?_,λ b xs e=>at_ b _ (λ z=>by rw[z,hP] at e;cases e) e,λ b o' v e=>at_ b _ (λ z=>by rw[z,hP] at e;cases e) e,λ b ps' e=>?_⟩
   ·have l:=Heap.lt_size e
    rw[al (Nat.ne_of_lt (Nat.lt_of_lt_of_le l hf)),al (Nat.ne_of_lt (Nat.lt_of_lt_of_le l hge)),al (λ z=>by rw[z,hP] at n;cases n)]
    exact n
   ·by_cases z:b=P
    ·exact⟨_,by rw[z];exact Heap.get?_push_of_some _ htb⟩
    ·exact⟨o,kp b o z e⟩
   ·by_cases z:b=P
    ·subst z
     rw[hP] at e
     cases e
     exact⟨_,by rw[al nPf,al nPc,ad]⟩
    ·exact⟨#[],by rw[at_ b _ z e];simp⟩
  ·intro b o e
   by_cases z1:b=h'.objs.size
   ·subst z1
    rw[ad] at e
    cases e
    exact ph (Heap.get?_push_size _ rfl)
   ·rw[al z1] at e
    by_cases z2:b=c'
    ·subst z2
     rw[ad] at e
     cases e
     exact ph (Heap.get?_push_of_some _ hoc)
    ·rw[al z2] at e
     by_cases z3:b=P
     ·subst z3
      rw[ad] at e
      cases e
      exact Heap.get?_push_of_some _ htb
     ·rw[al z3] at e
      refine (I.hok b o e).stay (λ d u hd' q'=>kp d u ?_ q') (λ d q'=>at_ d _ (λ z=>by rw[z,hP] at q';cases q') q') λ d xs q'=>at_ d _ (λ z=>by rw[z,hP] at q';cases q') q'
      rcases hd' with rfl | hd'
      ·exact z3
      ·exact λ z=>by rw[z,hP] at hd';cases hd'
 ·refine PySem.W.kla_makeFunctionHit hcl I.ok.glob hns hcode hC' eP ht hc' hB' λ ctv h' tk hk hsz=>?_
  have kp:∀ b o,s.heap.get? b=some o->(h'.push (PySem.W.kla_obj "<lambda>" (X.env.qual ++ "<lambda>") params body scope clos ((X.mg "__name__").getD .none) c' ctv)).get? b=some o:=λ b o e=>Heap.get?_push_of_some _ (hk b o e)
  exact⟨.ref h'.objs.size,_,I.laid (t':=tk) kp hsz (ph (Heap.get?_push_size _ rfl)),rfl,q _ ctv (I.hok.fresh hsz)⟩
end
end L2
namespace L2
open PySem PySem.Spec PyProof.Rows
theorem kR.showing {P:Program}{w:World}{K:PySem.W.Frag}{mg:Str->Option Value}{base:Heap}{A:Around}{outer:List Env}{s:Shared}{H:Hp}{c:Addr}{o:Obj} (e0:kR P w K mg base A outer s H) (n:H c=none) (e:s.heap.get? c=some o) (hf:c ∉ frs outer) (hb:base.get? c=none):kR P w K mg base A outer s (upd H c (Fz o)) :=
 ⟨e0.frames,e0.mod,λ b ob q=>⟨(e0.bs b ob q).1,by rw[al (λ z=>by rw[z,hb] at q;cases q)];exact (e0.bs b ob q).2⟩,e0.bsz,e0.funs,λ b hb'=>by rw[al (λ z=>hf (by rw[<-z];exact hb'))];exact e0.frf b hb',e0.hok.show n e,e0.bare⟩
theorem CE.unshow {outer:List Env}{P:Program}{w:World}{H:Hp}{s s':Shared}{Q:VK}{u:Value}{c:Addr}{o:Obj} (n:H c=none) (e:s.heap.get? c=some o) (hf:c ∉ frs outer) (h:CE outer P w (upd H c (Fz o)) s (λ v H2=>H2 c=some (Fz o)->Q v (hid H2 c)) u s'):CE outer P w H s Q u s':=by
 obtain⟨v,H2,os,bare,un,hok,r,q⟩:=h
 obtain⟨un',hok',e2⟩:=un.unshow n e hf hok
 exact⟨v,_,os,bare,un',hok',r,q e2⟩
def xM (c1:Addr) (i:Nat) (c2:Addr) (j:Nat) (sp:Sp) (t:TA):TE:=λ σ H Q=>t σ H λ vs H1=>∃ v w,σ[i]? = some (some v)/\σ[j]? = some (some w)/\∀ o1 u1 o2 u2,a8 v u1->o1.data=.cell (some u1)->a8 w u2->o2.data=.cell (some u2)->H1 c1=none->H1 c2=none->c1≠c2 ->
 sp vs (upd (upd H1 c1 (Fz o1)) c2 (Fz o2)) (λ r H2=>H2 c2=some (Fz o2)->hid H2 c2 c1=some (Fz o1)->Q r (hid (hid H2 c2) c1)) E0
section
variable {X:Cx}{k:Nat}{f:Addr}{fd:FuncData}{ps:List Str}{sp:Sp}{x:Str}{p pos:Pos}{e:Expr}{es:List Expr}{t:TA}
theorem sS {pins:List (Addr×Obj)}{σ:St}{H:Hp}{s:Shared}{i:Nat}{y:Str}{v:V}{c:Addr} (I:Inv X pins σ H s) (hN:X.N[i]? = some y) (hσ:σ[i]? = some (some v)) (hk:X.env.kindOf y=some .cell) (hc:X.env.cells.lookup y=some c) (hfn:X.fn y=true) :
  ∃ o u,a8 v u/\s.heap.get? c=some o/\o.data=.cell (some u)/\H c=none/\c ∉ frs X.stack/\X.base.get? c=none:=by
 obtain⟨m,hn,hl⟩:=I.loc
 have cab:=I.ok.cab y c hfn hc
 obtain⟨u,ru,lk⟩:=hl i y v hN hσ (.inr (.inl hk))
 rcases lk with ⟨k1,_⟩ | ⟨_,c',e1,o,ho,hd⟩
 ·rw[hk] at k1;cases k1
 ·rw[hc] at e1
  cases e1
  refine⟨o,u,ru,ho,hd,I.freeC y c hc,λ hb=>?_,Heap.get?_none_of_le (Nat.le_trans I.ok.bsz cab)⟩
  rcases List.mem_cons.mp (I.stkSub c hb) with z | z
  ·exact I.cne y c hc z
  ·obtain⟨_,ob,hob,_⟩:=I.ok.funs.mem z
   exact absurd (Nat.lt_of_lt_of_le (Heap.lt_size hob) cab) (Nat.lt_irrefl _)
theorem tX {c1 c2:Addr}{i j:Nat}{y z:Str} (F:ax X.prog X.w X.K X.mg X.base CX0 k f fd ps sp) (hr:db k X.A) (hg:Gl X x) (hm:X.mg x=some (.ref f)) (hk:PySem.W.keepIn X.K (.ref f)=true) (hb:aE X.K fd ps [])
  (hN:X.N[i]? = some y) (hky:X.env.kindOf y=some .cell) (hc:X.env.cells.lookup y=some c1) (hfn:X.fn y=true)
  (hN2:X.N[j]? = some z) (hkz:X.env.kindOf z=some .cell) (hcz:X.env.cells.lookup z=some c2) (hfnz:X.fn z=true) (hyz:y≠z)
  (ha:PA X (e::es) t) (hdb:(x == ("__debug__":Str))=false:=by decide) (he:starEach (e::es) X.env=(false,eval e X.env)::starEach es X.env:=by rfl) (hpl:(backTo pos (starEach es X.env)).any (·.1)=false:=by rfl) :
  PE X (.Call (.Name x p) (e::es) [] pos) (xM c1 i c2 j sp t):=by
 intro pins s σ H Q I h
 refine wpAny_Call_Name_kw (hZ I hg hm ?_ hdb)
 refine PySem.W.callWith_K (h₀:=X.base) I.ok.mod.kin hk (thn (ha pos pins s σ H _ I h) λ us s1 ⟨vs,H1,I1,r,q⟩=>⟨I1.kIn,?_⟩) he hpl
 obtain⟨v,w,hσ,hσ2,q⟩:=q
 obtain⟨o,u,ru,ho,hd,n,nf,nb⟩:=sS I1 hN hσ hky hc hfn
 obtain⟨o2,u2,ru2,ho2,hd2,n2,nf2,nb2⟩:=sS I1 hN2 hσ2 hkz hcz hfnz
 have ne:c1≠c2:=λ z=>hyz (I1.ok.inj _ _ c1 hc (by rw[z];exact hcz))
 have n2':upd H1 c1 (Fz o) c2=none:=by rw[al (Ne.symm ne)];exact n2
 have sp1:=q o u o2 u2 ru hd ru2 hd2 n n2 ne
 have hl:(us++[]).length=ps.length:=by rw[List.append_nil,<-r.length];exact F.len _ _ _ _ sp1
 have bd:=hb s1 us I1.kIn hl
 rw[List.append_nil] at bd
 refine wpAny_call (codeAny_mono (F.run X.A X.stack s1 _ ⟨us,[]⟩ us vs _ _ hr ((I1.env0.showing n ho nf nb).showing n2' ho2 nf2 nb2) bd r sp1) λ r s' hq=>?_)
 cases r with
 | error e=>exact False.elim hq
 | ok fl =>
  cases fl with
  | ret u=>exact I1.after (CE.unshow n ho nf (CE.unshow n2' ho2 nf2 hq))
  | next=>exact False.elim hq
  | brk=>exact False.elim hq
  | cont=>exact False.elim hq
def u7 {Par:Type} (fOf:Par->Addr) (i:Nat) (sp:Par->Sp) (t:TA):TE:=λ σ H Q=>∃ π,σ[i]? = some (some (.ref (fOf π)))/\t σ H λ vs H1=>(∃ cl d fd sl,H1 (fOf π)=some (Fz ⟨cl,d,.func fd,sl⟩))/\sp π vs H1 Q E0
theorem yQ {M:Model}{a:Addr} (h:Heap) (X:∃ cl d fd sl,h.get? a=some ⟨cl,d,.func fd,sl⟩):∃ k,(k=Keeper.frame∨k=Keeper.machine∨k=Keeper.boundFrame)/\PySem.W.Looks M h (keeperOf (.ref a)) k:=by
 obtain⟨cl,d,fd,sl,q⟩:=X
 exact⟨.frame,.inl rfl,(PySem.W.Looks.ld (part:=none) q).andThen .now⟩
theorem oU {Par:Type}{fOf:Par->Addr}{fdOf:Par->FuncData}{sp:Par->Sp}{i:Nat} (F:∀ π,ax X.prog X.w X.K X.mg X.base CX0 k (fOf π) (fdOf π) ps (sp π)) (hr:db k X.A) (hb:∀ π,aE X.K (fdOf π) ps []) (hn:PE X (.Name x p) (pT i))
  (ha:PA X (e::es) t) (he:starEach (e::es) X.env=(false,eval e X.env)::starEach es X.env:=by rfl) (hpl:(backTo pos (starEach es X.env)).any (·.1)=false:=by rfl) :
  PE X (.Call (.Name x p) (e::es) [] pos) (u7 fOf i sp t):=by
 intro pins s σ H Q I h
 obtain⟨π,hσ,h⟩:=h
 refine wpAny_Call_Name_kw (thn (hn pins s σ H (λ v H'=>v=.ref (fOf π)/\H'=H) I ⟨_,hσ,rfl,rfl⟩) λ fv s0 ⟨v,H0,I0,rv,e1,e2⟩=>?_)
 subst e1 e2
 obtain rfl:fv=Value.ref (fOf π):=rv
 have hh:=thn (ha pos pins s0 σ H0 _ I0 h) (Q':=λ us s1=>(∃ cl d fd sl,s1.heap.get? (fOf π)=some ⟨cl,d,.func fd,sl⟩)/\wpAny (model X.prog X.w) X.A (call (.ref (fOf π)) ([]++us)) (EP X pins σ Q) X.xe s1) λ us s1 ⟨vs,H1,I1,r,⟨cl,d,fd,sl,hf⟩,q⟩=>by
  refine⟨⟨cl,d,fd,sl,ee I1.hok hf⟩,?_⟩
  exact vT (dvs:=[]) (ds:=[]) (F π) hr (hb π) .nil aD I1 r (by rw[List.append_nil];exact q)
 rw[he] at hh ⊢
 exact PySem.W.callWith_of (by show ((false || (backTo pos (starEach es X.env)).any (·.1)) || false)=false;rw[hpl];rfl) yQ (PySem.Calls.evalArgs_plain hh)
end
end L2
namespace L2
open PySem PySem.Spec PyProof.Rows
def cxL (P:Program) (w:World) (K:PySem.W.Frag) (mg:Str->Option Value) (base:Heap) (N:List Str) (qual:Str) (scope:Scope) (f c':Addr) (cl:List (Str×Addr)) (A:Around) (outer:List Env) (s:Shared) (H:Hp):Cx where
 prog:=P
 w:=w
 K:=K
 mg:=mg
 base:=base
 A:=A.deeper (PySem.W.envX qual scope s.heap.objs.size f (.ref c') cl)
 N:=N
 s₀:=s
 H₀:=H
 env:=PySem.W.envX qual scope s.heap.objs.size f (.ref c') cl
 outer:=outer
 stack:=PySem.W.envX qual scope s.heap.objs.size f (.ref c') cl::outer
 ex:=[]
 calm:=true
 fn:=λ _=>false
 pn:=[]
 xe:=λ _ _=>False
def iZ (H:Hp):List Addr->Hp
 | []=>H
 | c::cs=>iZ (hid H c) cs
def oq (H:Hp):List (Addr×Obj)->Hp
 | []=>H
 | (c,o)::r=>upd (oq H r) c (Fz o)
theorem cR:∀ {cs:List Addr}{H:Hp}{b:Addr},H b=none->iZ H cs b=none
 | [],_,_,h=>h
 | c :: cs, H, b, h => cR (cs := cs) (by by_cases z : b = c
                                         · rw [z, ia]
                                         · rw [cC z]; exact h)
theorem gz:∀ {cs:List Addr}{H:Hp}{b:Addr},b∈cs->iZ H cs b=none
 | c::cs,H,b,h=>by
  show iZ (hid H c) cs b=none
  rcases List.mem_cons.mp h with e | h
  ·rw[e];exact cR ia
  ·exact gz (cs:=cs) h
theorem dJ:∀ {cs:List Addr}{H:Hp}{b:Addr},b ∉ cs->iZ H cs b=H b
 | [],_,_,_=>rfl
 | c::cs,H,b,h=>by
  have h1:b≠c:=λ z=>h (by rw[z];exact .head _)
  have h2:b ∉ cs:=λ z=>h (.tail _ z)
  exact (dJ (cs:=cs) h2).trans (cC h1)
theorem jH:∀ {l:List (Addr×Obj)}{H:Hp}{b:Addr},b ∉ l.map (·.1)->oq H l b=H b
 | [],_,_,_=>rfl
 | (c,o)::r,H,b,h=>by
  have h1:b≠c:=λ z=>h (by rw[z];exact .head _)
  have h2:b ∉ r.map (·.1):=λ z=>h (.tail _ z)
  show upd (oq H r) c (Fz o) b=_
  rw[al h1]
  exact jH h2
theorem xR {H:Hp}{c:Addr}{o:Obj}:∀ (l:List (Addr×Obj)),(l.map (·.1)).Nodup->(c,o)∈l->oq H l c=some (Fz o):=by
 intro l
 induction l with
 | nil=>intro _ h;exact absurd h List.not_mem_nil
 | cons p r ih =>
  intro nd h
  have nd':=List.nodup_cons.mp nd
  show upd (oq H r) p.1 (Fz p.2) c=_
  rcases List.mem_cons.mp h with e | h
  ·rw[<-e,ad]
  ·have ne:c≠p.1:=λ z=>nd'.1 (List.mem_map.mpr ⟨(c,o),h,z⟩)
   rw[al ne]
   exact ih nd'.2 h
theorem HOk.hideL {P:Program}{w:World}{H:Hp}{h:Heap} (l:List (Addr×Obj)) (k:HOk P w H h) (e:∀ p∈l,H p.1=some (Fz p.2)):HOk P w (iZ H (l.map (·.1))) h:=λ b u q=>by
 by_cases z:b∈l.map (·.1)
 ·rw[gz z] at q;cases q
 ·rw[dJ z] at q
  have nz:∀ d o,H d=some o->(∀ ob,o≠Fz ob)->d ∉ l.map (·.1):=λ d o hd ho hm=>by
   obtain⟨p,hp,rfl⟩:=List.mem_map.mp hm
   rw[e p hp] at hd
   exact ho _ (Option.some.inj hd).symm
  refine (k b u q).stay (λ _ _ _ y=>y) (λ d y=>?_) λ d xs y=>?_
  ·rw[dJ (nz d _ y λ ob hh=>by cases hh)];exact y
  ·rw[dJ (nz d _ y λ ob hh=>by cases hh)];exact y
theorem HOk.showL {P:Program}{w:World}{h:Heap}:∀ {l:List (Addr×Obj)}{H:Hp},HOk P w H h->(l.map (·.1)).Nodup->(∀ p∈l,H p.1=none)->(∀ p∈l,h.get? p.1=some p.2)->HOk P w (oq H l) h
 | [],_,k,_,_,_=>k
 | (c,o)::r,H,k,nd,n,e=>by
  have nd':=List.nodup_cons.mp nd
  have k':=HOk.showL (l:=r) k nd'.2 (λ p hp=>n p (.tail _ hp)) λ p hp=>e p (.tail _ hp)
  exact k'.show (by rw[jH nd'.1];exact n _ (.head _)) (e _ (.head _))
structure pL (N ps ys:List Str) (sc:Scope):Prop where
 kind:sc.kind=.function
 co:sc.isCoroutine=false
 gen:sc.isGenerator=false
 len:N=ps++ys
 nocell:∀ x∈sc.names,x.2≠.cell
 par:∀ x∈ps,sc.names.lookup x=some .local
 fre:∀ y∈ys,sc.names.lookup y=some .free
 only:∀ x,sc.names.lookup x=some .free->x∈ys
 look:∀ us:List Value,us.length=ps.length->∀ (i:Nat) (x:Str) (u:Value),ps[i]? = some x->us[i]? = some u->(ps.zip us).reverse.lookup x=some u
theorem Bq {P:Program}{w:World}{K:PySem.W.Frag}{mg:Str->Option Value}{base:Heap}{k:Nat}{f c':Addr}{name qual:Str}{params:Arguments}{body:Expr}{scope:Scope}{ys:List Str}{cs:List Addr}{pm ctv:Value}{N ps:List Str}{sp:Sp}{cl:List (Str×Addr)}
  (S:pL N ps ys scope) (hcl:∀ (i:Nat) y c,ys[i]? = some y->cs[i]? = some c->cl.lookup y=some c) (hcm:∀ y c,cl.lookup y=some c->y∈ys/\c∈cs) (hly:ys.length=cs.length) (hinj:∀ x y c,cl.lookup x=some c->cl.lookup y=some c->x=y) (nd:cs.Nodup)
  (len:∀ vs H Q E,sp vs H Q E->vs.length=ps.length)
  (hbody:∀ (A:Around) (outer:List Env) (s:Shared) (H:Hp) (vs:List V) (Q:VK) (E:XK),db k (A.deeper (PySem.W.envX qual scope s.heap.objs.size f (.ref c') cl))->sp vs H Q E ->
   H f=some (Fz (PySem.W.kla_obj name qual params body scope cl pm c' ctv))/\(∃ oc,H c'=some (Fz oc)/\kE oc qual) /\
   ∃ (os:List Obj) (ws:List V),os.length=cs.length/\ws.length=cs.length/\(∀ (i:Nat) c o v,cs[i]? = some c->os[i]? = some o->ws[i]? = some v->H c=some (Fz o)/\∃ u,a8 v u/\o.data=.cell (some u)) /\
   ∃ t,PE (cxL P w K mg base N qual scope f c' cl A outer s (iZ H cs)) body t/\t (vs.map some++ws.map some) (iZ H cs) λ r H2=>(∀ c∈cs,H2 c=none)->Q r (oq H2 (cs.zip os))) :
  ax P w K mg base CX0 (k+1) f (PySem.W.kla_fn name qual params body scope cl pm (.ref c') ctv) ps sp:=by
 refine⟨len,λ A outer s H args us vs Q E hr e0 hb r hsp=>?_⟩
 have hl:=len _ _ _ _ hsp
 have hlu:us.length=ps.length:=by rw[<-r.length];exact hl
 obtain⟨hf,⟨oc,hoc,cv,ct,hcd,hcv⟩,os,ws,lo,lw,hcells,t,ht,hq⟩:=hbody A outer s H vs Q E (hr.deeper _) hsp
 have lim:s.heap.NoLimit:=e0.mod.nolimit.keeps λ b o e=>(e0.bs b o e).1
 have cellAt:∀ c∈cs,∃ (i:Nat) (o:Obj) (v:V) (u:Value),cs[i]? = some c/\os[i]? = some o/\ws[i]? = some v/\H c=some (Fz o)/\a8 v u/\o.data=.cell (some u):=λ c hc=>by
  obtain⟨i,hi⟩:=List.mem_iff_getElem?.mp hc
  have hil:=(List.getElem?_eq_some_iff.mp hi).1
  have e1:=List.getElem?_eq_getElem (show i<os.length by omega)
  have e2:=List.getElem?_eq_getElem (show i<ws.length by omega)
  obtain⟨a,u,b,d⟩:=hcells i c _ _ hi e1 e2
  exact⟨i,_,_,u,hi,e1,e2,a,b,d⟩
 have pairs:∀ p∈cs.zip os,H p.1=some (Fz p.2):=λ p hp=>by
  obtain⟨i,hi⟩:=List.mem_iff_getElem?.mp hp
  rw[List.getElem?_zip_eq_some] at hi
  have hil:=(List.getElem?_eq_some_iff.mp hi.1).1
  have e2:=List.getElem?_eq_getElem (show i<ws.length by omega)
  exact (hcells i _ _ _ hi.1 hi.2 e2).1
 have mapz:(cs.zip os).map (·.1)=cs:=List.map_fst_zip (by omega)
 have nfr:∀ c∈cs,c ∉ frs outer:=λ c hc hm=>by
  obtain⟨_,o,_,_,_,_,_,e,_⟩:=cellAt c hc
  rw[e0.frf c hm] at e;cases e
 refine PySem.W.kla_callFunE hr.depth (ee e0.hok hf) rfl S.co S.gen rfl ⟨c',oc,cv,ct,rfl,ee e0.hok hoc,hcd,hcv⟩ (hb _ _ _ _ ?_)
 refine wpAny_newFunctionEnv S.nocell (λ x hx=>S.par _ (List.of_mem_zip hx).1) (λ h₁ hns hsb=>?_) S.kind
 have hk₁:∀ b o,s.heap.get? b=some o->h₁.get? b=some o:=λ b o e=>hsb.extBut b o (Nat.ne_of_lt (Heap.lt_size e)) (Heap.get?_push_of_some _ e)
 refine⟨lim.keeps hk₁,?_⟩
 show codeAny _ _ (.expr body (PySem.W.envX qual scope s.heap.objs.size f (.ref c') cl)) _ _
 have hok':HOk P w (iZ H cs) s.heap:=by have:=e0.hok.hideL (cs.zip os) pairs;rw[mapz] at this;exact this
 have noA:∀ b:Addr,b ∉ (cxL P w K mg base N qual scope f c' cl A outer s (iZ H cs)).ex:=λ b z=>absurd (show b∈([]:List Addr) from z) (by simp)
 have I:Inv (cxL P w K mg base N qual scope f c' cl A outer s (iZ H cs)) [] (vs.map some++ws.map some) (iZ H cs) {s with heap:=h₁,toks:=s.toks+(ps.zip us).length}:=by
  refine⟨⟨e0.mod,S.kind,rfl,rfl,Nat.le_refl _,hinj,λ y hy=>?_,λ y c hfn _=>absurd (show false=true from hfn) Bool.false_ne_true,λ _=>hr.hd,Around.frames_deeper e0.frames,.inr ⟨rfl,rfl⟩,λ b z=>absurd z (noA b),λ b o e=>⟨(e0.bs b o e).1,cR (e0.bs b o e).2⟩,e0.bsz,λ b _ _=>noA b,λ b z=>absurd z (noA b),e0.funs,λ b hb'=>cR (e0.frf b hb')⟩,
   rfl,e0.bare,Un.kept hk₁,⟨_,hns,λ i x v h1 h2 h3=>?_⟩,λ y c h=>?_,hok'.fresh (Nat.le_refl _),λ y c h=>gz (hcm y c h).2,λ p hp=>absurd (show p∈([]:List (Addr×Obj)) from hp) (by simp),hok'.kept hk₁,?_⟩
  ·have hy:scope.names.lookup y=some .cell∨scope.names.lookup y=some .free:=hy
   rcases hy with hy | hy
   ·exact absurd rfl (S.nocell _ (PySem.mem_of_lookup hy))
   ·obtain⟨i,hi⟩:=List.mem_iff_getElem?.mp (S.only y hy)
    have hil:=(List.getElem?_eq_some_iff.mp hi).1
    exact⟨_,hcl i y _ hi (List.getElem?_eq_getElem (show i<cs.length by omega))⟩
  ·have h1:(ps++ys)[i]? = some x:=by rw[<-S.len];exact h1
   by_cases hi:i<ps.length
   ·rw[List.getElem?_append_left hi] at h1
    rw[List.getElem?_append_left (by simp;omega),List.getElem?_map] at h2
    cases ev:vs[i]? with
    | none=>rw[ev] at h2;cases h2
    | some v' =>
     rw[ev] at h2
     cases h2
     obtain⟨u,hu,ru⟩:=r.get ev
     exact⟨u,ru,.inl ⟨S.par x (List.mem_of_getElem? h1),S.look us hlu i x u h1 hu⟩⟩
   ·rw[List.getElem?_append_right (by omega)] at h1
    rw[List.getElem?_append_right (by simp;omega),List.getElem?_map,List.length_map] at h2
    rw[hl] at h2
    cases ev:ws[i-ps.length]? with
    | none=>rw[ev] at h2;cases h2
    | some v' =>
     rw[ev] at h2
     cases h2
     have hil:=(List.getElem?_eq_some_iff.mp ev).1
     have ec:=List.getElem?_eq_getElem (show i-ps.length<cs.length by omega)
     have eo:=List.getElem?_eq_getElem (show i-ps.length<os.length by omega)
     obtain⟨a,u,b,d⟩:=hcells _ _ _ _ ec eo ev
     exact⟨u,b,.inr ⟨.inr (S.fre x (List.mem_of_getElem? h1)),_,hcl _ x _ h1 ec,_,hk₁ _ _ (ee e0.hok a),d⟩⟩
  ·obtain⟨i,o,v,u,_,_,_,a,b,d⟩:=cellAt c (hcm y c h).2
   exact⟨_,o,hk₁ _ _ (ee e0.hok a),d⟩
  ·show (vs.map some++ws.map some).length=N.length
   rw[S.len,List.length_append,List.length_append,List.length_map,List.length_map]
   omega
 refine PySem.W.kla_codeExpr (wpAny_mono (ht [] _ _ _ _ I hq) (λ v s' hs=>?_) λ e s' hs=>False.elim hs)
 obtain⟨v',H',J,rv,q⟩:=hs
 have nin:∀ b,H b=none->b ∉ cs:=λ b e hm=>by
  obtain⟨_,o,_,_,_,_,_,a,_⟩:=cellAt b hm
  rw[e] at a;cases a
 have out:∀ b,b ∉ cs->oq H' (cs.zip os) b=H' b:=λ b hb=>jH (by rw[mapz];exact hb)
 have JB:Un (frs outer) [] (iZ H cs) H' s.heap s'.heap:=J.base
 have exact_:∀ p∈cs.zip os,s'.heap.get? p.1=some p.2:=λ p hp=>by
  have hc:p.1∈cs:=(List.of_mem_zip hp).1
  exact JB.keep p.1 p.2 (ee e0.hok (pairs p hp)) (gz hc) (nfr _ hc) (by simp)
 have freeC:∀ p∈cs.zip os,H' p.1=none:=λ p hp=>by
  have hc:p.1∈cs:=(List.of_mem_zip hp).1
  exact JB.free p.1 p.2 (ee e0.hok (pairs p hp)) (gz hc) (by simp)
 have freeA:∀ c∈cs,H' c=none:=λ c hc=>by
  obtain⟨_,o,_,_,_,_,_,e,_⟩:=cellAt c hc
  exact JB.free c o (ee e0.hok e) (gz hc) (by simp)
 refine⟨v',_,J.os,J.bare,⟨λ b o e n hb hx=>?_,λ b o e n hb hx=>?_,λ b o e n hx=>?_,λ b o e hx=>JB.there b o e hx,λ b xs e=>?_,λ b o v e=>?_,λ b ps' e=>?_⟩,J.hok.showL (by rw[mapz];exact nd) freeC exact_,rv,q freeA⟩
 ·exact JB.keep b o e (cR n) hb hx
 ·exact JB.slot b o e (cR n) hb hx
 ·rw[out b (nin b n)]
  exact JB.free b o e (cR n) hx
 ·have nb:b ∉ cs:=λ hm=>by
   obtain⟨_,o,_,_,_,_,_,a,_⟩:=cellAt b hm
   rw[e] at a;cases a
  rw[out b nb]
  exact JB.tups b xs (by rw[dJ nb];exact e)
 ·by_cases nb:b∈cs
  ·obtain⟨i,o',_,_,e1,e2,_,a,_⟩:=cellAt b nb
   rw[e] at a
   have hm:(b,o')∈cs.zip os:=List.mem_iff_getElem?.mpr ⟨i,List.getElem?_zip_eq_some.mpr ⟨e1,e2⟩⟩
   rw[xR _ (by rw[mapz];exact nd) hm,<-a]
  ·rw[out b nb]
   exact JB.frzs b o v (by rw[dJ nb];exact e)
 ·have nb:b ∉ cs:=λ hm=>by
   obtain⟨_,o,_,_,_,_,_,a,_⟩:=cellAt b hm
   rw[e] at a;cases a
  rw[out b nb]
  exact JB.tbls b ps' (by rw[dJ nb];exact e)
end L2
namespace L2
open PySem PySem.Spec PyProof.Rows
theorem uk {P:Program}{w:World}{K:PySem.W.Frag}{mg mb:Str->Option Value}{CX:CXT}{k:Nat}{fa a c T:Addr}{fd:FuncData}{x:Str}{sp:Sp}{s₁:Shared}{vs:List Value}{ns:List Int}
  (KX:K.In s₁.heap) (hns:s₁.heap.Ns mainGlobals mg) (hb:s₁.heap.Ns builtinsNs mb) (hbb:∀ x:Str,x≠"__name__"->mb x=bootBuiltins x) (hlim:s₁.heap.NoLimit) (hg:s₁.gens=#[])
  (ha:s₁.heap.get? a=some {cls:=.type "list",data:=.seq vs.toArray}) (hi:IntsAre vs ns) (hl:ns.length<=sizeLine) (hr:db k callerA)
  (hC:PySem.W.CodeHd s₁.heap c T) (hT:s₁.heap.get? T=some (PySem.W.tabObj #[])) (hKT:K.lookup T=none) (hTS:T≠cStatics) (hB:s₁.heap.BuiltinsAt mg T)
  (F:∀ base:Heap,K.In base->base.Ns mainGlobals mg->PySem.W.CodeHd base c T->base.BuiltinsAt mg T->ax P w K mg base CX k fa fd [x] sp) (hbind:∀ (s:Shared) (u:Value),BindsTo s fd ⟨[u],[]⟩ [(x,u)])
  (hsp:∀ H:Hp,SqL K H a (ns.map V.int)->H T=some (.tbl #[])->sp [.ref a] H (λ v _=>v=.bl true) λ _ _ _=>False)
  (hCX:∀ H e s',CX [] H s₁ (λ _ _ _=>False) e s'->False) :
  codeAny (model P w) callerA (.call (.ref fa) ⟨[.ref a],[]⟩) (λ r s'=>r=.ok (.ret (.bool true))/\OldK s₁.heap s'.heap/\s'.os=s₁.os/\AllBare s'.gens) s₁:=by
 have rv:=kT hi
 have lenV:=hi.length
 have naT:a≠T:=λ z=>by rw[z,hT] at ha;cases ha
 have core:∀ H:Hp,(∀ b,b≠T->H b=none∨∃ o xs,H b=some (.frz o (.lst xs)))->SqL K H a (ns.map V.int)->HOk P w H s₁.heap->(∀ b,H b≠none->b=a∨b=T)->(H a≠none->K.lookup a=none)->H T=some (.tbl #[]) ->
   codeAny (model P w) callerA (.call (.ref fa) ⟨[.ref a],[]⟩) (λ r s'=>r=.ok (.ret (.bool true))/\OldK s₁.heap s'.heap/\s'.os=s₁.os/\AllBare s'.gens) s₁:=by
  intro H hO hS hok hA hK hHT
  have base_of:∀ {b:Addr}{o:Obj},s₁.heap.get? b=some o->H b=none->(kh s₁.heap H).get? b=some o:=λ e n=>wQ e n
  have plain:∀ {b:Addr}{o:Obj},s₁.heap.get? b=some o->o≠{cls:=.type "list",data:=.seq vs.toArray}->o≠PySem.W.tabObj #[]->H b=none:=λ {b o} e n1 n2=>by
   cases q:H b with
   | none=>rfl
   | some u =>
    rcases hA b (by rw[q];simp) with z | z
    ·rw[z,ha] at e;exact absurd (Option.some.inj e).symm n1
    ·rw[z,hT] at e;exact absurd (Option.some.inj e).symm n2
  have nsK:∀ {b:Addr}{m:Str->Option Value},s₁.heap.Ns b m->(kh s₁.heap H).Ns b m:=λ {b m} ⟨o,es,ep,e,d,r⟩=>⟨o,es,ep,base_of e (plain e (λ z=>by rw[z] at d;cases d) λ z=>by rw[z] at d;cases d),d,r⟩
  have hKb:K.In (kh s₁.heap H):=λ b o e=>base_of (KX b o e) (by
   cases q:H b with
   | none=>rfl
   | some u =>
    rcases hA b (by rw[q];simp) with z | z
    ·subst z
     rw[hK (by rw[q];simp)] at e;cases e
    ·rw[z,hKT] at e;cases e)
  have hM:Mod K mg (kh s₁.heap H):=⟨hKb,nsK hns,⟨mb,nsK hb,hbb⟩,let ⟨mc,h1,h2⟩:=hlim;⟨mc,nsK h1,h2⟩⟩
  have e0:kR P w K mg (kh s₁.heap H) callerA [] s₁ H:=⟨rfl,hM,λ b o e=>yH e,Nat.le_of_eq (uv _ _),trivial,λ b hb=>absurd (show b∈([]:List Addr) from hb) (by simp),hok,.of_eq hg⟩
  have hCb:PySem.W.CodeHd (kh s₁.heap H) c T:=by
   obtain⟨o,cv,file,tf,flags,tg,inF,text,tt,e1,e2,e3,r⟩:=hC
   exact⟨o,cv,file,tf,flags,tg,inF,text,tt,base_of e1 (plain e1 (λ z=>by rw[z] at e3;cases e3) λ z=>by rw[z] at e2;cases e2),e2,e3,r⟩
  have hBb:(kh s₁.heap H).BuiltinsAt mg T:=by
   obtain⟨bm,ob,b1,b2,b3,b4,b5,b6,b7⟩:=hB
   exact⟨bm,ob,b1,b2,b3,b4,base_of b5 (plain b5 (λ z=>by rw[z] at b7;cases b7.2) λ z=>by rw[z] at b6;cases b6),b6,b7⟩
  refine codeAny_mono ((F _ hKb (nsK hns) hCb hBb).run callerA [] s₁ H ⟨[.ref a],[]⟩ [.ref a] [.ref a] _ _ hr e0 (hbind s₁ (.ref a)) (.cons rfl .nil) (hsp H hS hHT)) λ r s' h=>?_
  cases r with
  | error e=>exact (hCX H e s' h).elim
  | ok fl =>
   cases fl with
   | next=>exact False.elim h
   | brk=>exact False.elim h
   | cont=>exact False.elim h
   | ret u =>
    obtain⟨v,H',os,bare,un,hok',r',q⟩:=h
    have q':v=.bl true:=q
    subst q'
    obtain rfl:u=Value.bool true:=r'
    have kp:Heap.ExtBut T s₁.heap s'.heap:=λ b o nb e=>by
     cases q:H b with
     | none=>exact un.keep b o e q (by intro z;exact absurd (show b∈([]:List Addr) from z) (by simp)) (by simp)
     | some u =>
      rcases hO b nb with z | ⟨ob,xs,z⟩
      ·rw[q] at z;cases z
      ·have z2:=un.frzs b ob _ z
       obtain⟨e1,_⟩:=hok b _ z
       obtain⟨e2,_⟩:=hok' b _ z2
       rw[e] at e1;cases e1
       exact e2
    obtain⟨more,hmore⟩:=un.tbls T #[] hHT
    have hT':s'.heap.get? T=some (PySem.W.tabObj (#[]++more)):=hok' T _ hmore
    have hC':PySem.W.CodeHd s'.heap c T:=by
     obtain⟨o,cv,file,tf,flags,tg,inF,text,tt,e1,e2,e3,e4,e5,e6,e7,e8,e9,ne⟩:=hC
     exact⟨o,cv,file,tf,flags,tg,inF,text,tt,kp _ _ ne e1,e2,e3,e4,e5,e6,e7,e8,e9,ne⟩
    exact⟨rfl,(OldK.refl s₁.heap).step_table (hC.tab hT) (hC.tab hT) (hC'.tab hT') kp hTS,os,bare⟩
 have tOk:∀ H:Hp,aN P w H s₁.heap T (.tbl #[]):=λ H=>hT
 cases hk:K.lookup a with
 | some o =>
  have e:=KX a o hk
  rw[ha] at e
  cases e
  refine core (λ b=>if b=T then some (.tbl #[]) else none) (λ b nb=>.inl (if_neg nb)) (.inr ⟨_,vs.toArray,_,hk,rfl,rfl,rfl,by rw[List.size_toArray,lenV];exact hl,by simpa using rv⟩) (λ b u z=>?_) (λ b z=>?_) (λ z=>absurd (if_neg naT) z) (if_pos rfl)
  ·by_cases hb:b=T
   ·have z':=(if_pos hb).symm.trans z
    cases z'
    rw[hb]
    exact tOk _
   ·have z':=(if_neg hb).symm.trans z
    cases z'
  ·by_cases hb:b=T
   ·exact .inr hb
   ·exact absurd (if_neg hb) z
 | none =>
  refine core (λ b=>if b=T then some (.tbl #[]) else if b=a then some (.frz {cls:=.type "list",data:=.seq vs.toArray} (.lst (ns.map V.int))) else none) (λ b nb=>?_) (.inl (.inr ⟨{cls:=.type "list",data:=.seq vs.toArray},(if_neg naT).trans (if_pos rfl)⟩)) (λ b u z=>?_) (λ b z=>?_) (λ _=>hk) (if_pos rfl)
  ·by_cases hb:b=a
   ·exact .inr ⟨_,_,(if_neg nb).trans (if_pos hb)⟩
   ·exact .inl ((if_neg nb).trans (if_neg hb))
  ·by_cases hT':b=T
   ·have z':=(if_pos hT').symm.trans z
    cases z'
    rw[hT']
    exact tOk _
   ·by_cases hb:b=a
    ·have z':=((if_neg hT').trans (if_pos hb)).symm.trans z
     cases z'
     subst hb
     exact⟨ha,by rw[List.length_map];exact hl,vs,_,rv,ha⟩
    ·have z':=((if_neg hT').trans (if_neg hb)).symm.trans z
     cases z'
  ·by_cases hT':b=T
   ·exact .inr hT'
   ·by_cases hb:b=a
    ·exact .inl hb
    ·exact absurd ((if_neg hT').trans (if_neg hb)) z
theorem uT {l:PySem.W.OpenLaw}{n k:Nat}{q:Program}{loose:List Str}{XP:(Str->Option Value)->Heap->Prop}{YP:World->Heap->Prop}{d:DefRec}{K:Params->PySem.W.Frag}{sp:PySem.W.Frag->Addr->Sp}{x tn:Str}
  (hn:l.most=some n) (hn2:n<=sizeLine) (hdf:d.params.defaults = []) (hr:db k callerA) (hrec:((recsOf q).find? (λ e=>e.name == tn)).isSome=true)
  (hY:∀ (w:World) (h:Heap),YP w h->(K w.params).In h)
  (F:∀ (w:World) (mg:Str->Option Value) (fa:Addr) (h:Heap),(K w.params).In h->h.Ns mainGlobals mg->mg d.name=some (.ref fa) ->
   ∃ (c T:Addr) (fd:FuncData),PySem.W.tabIn (K w.params) tn=some (c,T)/\(K w.params).lookup T=none/\T≠cStatics/\(∀ (s:Shared) (u:Value),BindsTo s fd ⟨[u],[]⟩ [(x,u)]) /\
    ∀ base:Heap,(K w.params).In base->base.Ns mainGlobals mg->PySem.W.CodeHd base c T->base.BuiltinsAt mg T->ax l.prog w (K w.params) mg base CX0 k fa fd [x] (sp (K w.params) T))
  (hsp:∀ (K:PySem.W.Frag) (T:Addr) (H:Hp) (a:Addr) (ns:List Int),ns.length<=n->(∀ i∈ns,Bg i)->SqL K H a (ns.map V.int)->H T=some (.tbl #[])->sp K T [.ref a] H (λ v _=>v=.bl true) λ _ _ _=>False) :
  PySem.W.WalkO q loose XP YP l.row.toRowW d [] (λ f vs=>PySem.call f vs):=by
 refine zu hn hdf λ w s0 s1 mg mb fa o pm cd doc a vs ns G Y ho hd hcd hmg hobj hints hlen hbg hg=>?_
 have KX:=hY w _ Y
 obtain⟨c,T,fd,htab,hKT,hTS,hb,hF⟩:=F w mg fa _ KX G.T.g hmg
 obtain⟨dt,hdt⟩:=Option.isSome_iff_exists.mp hrec
 obtain⟨hC,hT⟩:=PySem.W.tab_of G.T KX hdt htab
 obtain⟨bm,ob,b1,b2,b3,b4,b5,b6⟩:=G.T.bmain
 have hbT:bm≠T:=λ z=>by rw[z,hT] at b3;cases b3;cases b4
 have hbG:bm≠mainGlobals:=λ z=>by
  obtain⟨o,es,ep,e,hd,_⟩:=G.T.g
  rw[z,e] at b3;cases b3;rw[hd] at b6;cases b6
 exact uk KX G.T.g G.T.b G.T.builtins G.T.nolimit hg hobj hints (Nat.le_trans hlen hn2) hr hC hT hKT hTS ⟨bm,ob,b1,b2,hbG,hbT,b3,b4,b5,b6⟩ hF hb (λ H hS hHT=>hsp _ T H a ns hlen hbg hS hHT) λ H e s' h=>h
theorem Fun.okC {P:Program}{w:World}{K:PySem.W.Frag}{mg:Str->Option Value}{base:Heap}{x qual:Str}{st:Stmt}{f:Addr}{N ps:List Str}{k:Nat}{sp:Sp}{oc kV doc pm cdv ct:Value}{od an:Option Addr}{osl:Array (Option Value)}
  (lk:K.lookup f=some ⟨oc,od,.func (PySem.W.fnOf x qual (ay st) (av st) (ag st) .none kV doc pm an cdv ct),osl⟩) (hcd:PySem.W.codeIn K cdv qual=true) (S:aA N ps (ag st)) (len:∀ vs H Q E,sp vs H Q E->vs.length=ps.length)
  (hbody:∀ (A:Around) (outer:List Env) (s:Shared) (H:Hp) (vs:List V) (Q:VK) (E:XK),db k (A.deeper (envOfC qual (ag st) s.heap.objs.size f cdv))->sp vs H Q E ->
   ∃ t,PSs (kM CX0 P w K mg base N qual (ag st) f cdv A outer s H E).nox (av st) t/\t {nx:=λ _ H'=>Q .non H',rt:=Q} (dk N vs) H):ax P w K mg base CX0 (k+1) f (PySem.W.fnOf x qual (ay st) (av st) (ag st) .none kV doc pm an cdv ct) ps sp:=by
 refine xh lk hcd S len λ A outer s H vs Q E hr hsp=>?_
 obtain⟨t,h,q⟩:=hbody A outer s H vs Q E hr hsp
 exact⟨t,h.nox,q⟩
theorem uZ {K:PySem.W.Frag}{x:Str}{f c T:Addr}{oc:Value}{od:Option Addr}{fd:FuncData}{osl:Array (Option Value)} (a:PySem.W.nsIn K mainGlobals x=some (some (.ref f))) (l:K.lookup f=some ⟨oc,od,.func fd,osl⟩) (ht:PySem.W.tabIn K x=some (c,T)):fd.code=.ref c:=by
 unfold PySem.W.tabIn at ht
 rw[a] at ht
 dsimp only at ht
 rw[l] at ht
 dsimp only at ht
 split at ht
 ·rename_i c2 hc
  split at ht
  ·split at ht
   ·cases ht;exact hc
   ·cases ht
  ·cases ht
 ·cases ht
theorem Ah {K:PySem.W.Frag}{x:Str}{f c T:Addr}{oc oT:Value}{od dT:Option Addr}{fd:FuncData}{osl slT:Array (Option Value)}{vs:Array Value} (a:PySem.W.nsIn K mainGlobals x=some (some (.ref f))) (l:K.lookup f=some ⟨oc,od,.func fd,osl⟩) (hc:fd.code=.ref c)
  (lc:K.lookup c=some ⟨oT,dT,.fields vs,slT⟩) (hv:(vs[11]? : Option Value)=some (.ref T)):PySem.W.tabIn K x=some (c,T):=by
 unfold PySem.W.tabIn
 rw[a]
 dsimp only
 rw[l]
 dsimp only
 rw[hc]
 dsimp only
 rw[lc]
 dsimp only
 rw[hv]
end L2
namespace L2
open PySem PySem.Spec PyProof.Rows
end L2
namespace L2
open PySem PySem.Spec PyProof.Rows
theorem ni:∀ {l l':List (Int×Value)},l'.Perm l->∀ {ks:List Int},IntsAre (l.map (·.2)) ks->∃ ks',IntsAre (l'.map (·.2)) ks'/\ks'.Perm ks:=by
 intro l l' p
 induction p with
 | nil=>intro ks h;exact⟨ks,h,.refl _⟩
 | cons x _ ih=>intro ks h;rw[List.map_cons] at h ⊢;generalize x.2=vx at h ⊢;cases h with | cons n t r=>obtain⟨k2,a,b⟩:=ih r;exact⟨n::k2,.cons n t a,.cons _ b⟩
 | swap x y l=>intro ks h;rw[List.map_cons,List.map_cons] at h;generalize hx:x.2=vx at h;generalize hy:y.2=vy at h;cases h with | cons n t r=>cases r with | cons m u r2=>rw[List.map_cons,List.map_cons,hx,hy];exact⟨_,.cons m u (.cons n t r2),.swap _ _ _⟩
 | trans _ _ i1 i2=>intro ks h;obtain⟨k2,a,b⟩:=i2 h;obtain⟨k3,c,d⟩:=i1 a;exact⟨k3,c,d.trans b⟩
theorem Bk {vs us:List Value}{ks ms:List Int} (a:IntsAre vs ks) (b:IntsAre us ms):IntsAre (vs++us) (ks++ms):=by
 induction a with
 | nil=>exact b
 | cons n t _ ih=>exact .cons n t ih
theorem wH:∀ {vs:List Value}{ks:List Int},IntsAre vs ks->∀ k,(∃ v∈vs,Value.isInt k v=true)↔k∈ks
 | _,_,.nil,k=>by simp
 | _,_,.cons n t r,k=>by
  have ih:=wH r k
  constructor
  ·rintro⟨v,hv,q⟩
   rcases List.mem_cons.mp hv with rfl | hv
   ·have:n=k:=by simpa [Value.isInt] using q
    exact List.mem_cons.mpr (.inl this.symm)
   ·exact List.mem_cons_of_mem _ (ih.mp ⟨v,hv,q⟩)
  ·intro hk
   rcases List.mem_cons.mp hk with rfl | hk
   ·exact⟨_,List.mem_cons_self,by simp [Value.isInt]⟩
   ·obtain⟨v,hv,q⟩:=ih.mpr hk
    exact⟨v,List.mem_cons_of_mem _ hv,q⟩
section
variable {prog:Program}{w:World}{A:Around}{E:Value->Shared->Prop}{s:Shared}
structure dR (prog:Program) (w:World) (b:Bool) (h:Heap) (a:Addr) (es:Array (Int×Value)) (ep:Nat) (t:SetTable):Prop where
 at_:∃ o,h.get? a=some o/\o.ExactSet/\o.data=.set es ep t
 el:ElemsOf (intKind prog w) es.toList
 few:es.size<scanBound
 fits:t.fits es.size=true
 tok:Stb.Tok b t
def gP (prog:Program) (w:World) (b:Bool) (h:Heap) (a:Addr) (σ:List Int):Prop :=
 ∃ es ep t,dR prog w b h a es ep t/\∃ ks,IntsAre (es.toList.map (·.2)) ks/\ks.Perm σ
theorem dR.keep {b:Bool}{h h':Heap}{a:Addr}{es:Array (Int×Value)}{ep:Nat}{t:SetTable} (r:dR prog w b h a es ep t) (k:∀ o,h.get? a=some o->h'.get? a=some o):dR prog w b h' a es ep t :=
 ⟨let ⟨o,x,y⟩:=r.at_;⟨o,k o x,y⟩,r.el,r.few,r.fits,r.tok⟩
theorem gP.keep {b:Bool}{h h':Heap}{a:Addr}{σ:List Int} (r:gP prog w b h a σ) (k:∀ o,h.get? a=some o->h'.get? a=some o):gP prog w b h' a σ :=
 let ⟨es,ep,t,x,y⟩:=r;⟨es,ep,t,x.keep k,y⟩
theorem dR.put {b:Bool}{h:Heap}{a:Addr}{es es':Array (Int×Value)}{ep:Nat}{t t':SetTable} (r:dR prog w b h a es ep t) (el:ElemsOf (intKind prog w) es'.toList) (few:es'.size<scanBound)
  (fits:t'.fits es'.size=true) (tok:Stb.Tok b t'):dR prog w b (h.update a (Obj.putSet es' t')) a es' (ep+1) t':=by
 obtain⟨o,ho,hx,hd⟩:=r.at_
 refine⟨⟨{o with data:=.set es' (ep+1) t'},?_,hx,rfl⟩,el,few,fits,tok⟩
 have:=Heap.get?_update_self (Obj.putSet es' t') ho (by rw[putSet_of es' t' hd];rfl)
 rwa [putSet_of es' t' hd] at this
theorem xG {b:Bool}{t:SetTable} (k:Stb.Tok b t):Stb.Tok b {t with plain:=false}:=⟨k.ris,k.dum,k.led⟩
theorem vD {b:Bool}{a:Addr}{σ:List Int}{v:Int}{tk:PySem.Tok}{Q:Bool->Shared->Prop} (hS:gP prog w b s.heap a σ) (room:σ.length+1<scanBound)
  (h:∀ (r:Bool) (h':Heap),Heap.SameBut a s.heap h'->gP prog w b h' a (step_dedup σ v)->Q r {s with heap:=h'}) :
  wpAny (model prog w) A (setAddHashed a (.int v tk) ((intKind prog w).hash v)) Q E s:=by
 obtain⟨es,ep,t,R,ks,hks,pks⟩:=hS
 obtain⟨o,ho,hex,hd⟩:=R.at_
 have key:(intKind prog w).is v (.int v tk)=true:=intKind_is _ _ _ _
 have lks:es.size = σ.length:=by rw[<-pks.length_eq,<-hks.length,List.length_map,Array.length_toList]
 unfold setAddHashed setAddHashedIn
 refine wpAny_holding (wpAny_bind (wpAny_setState_of ho hd R.fits ?_))
 dsimp only
 rw[byScan_of rfl R.few R.el]
 simp only[↓reduceIte]
 unfold setAddByScan
 refine wpAny_bind ?_
 refine wpAny_bind (wpAny_rule ?_)
 refine wpAny_bind (wpAny_setScan_of key ho hd R.fits R.el ?_)
 have inn:(∃ e∈es.toList,(intKind prog w).is v e.2=true)↔v∈σ:=by
  rw[<-pks.mem_iff,<-wH hks v]
  simp only[List.mem_map]
  exact⟨λ ⟨e,a,b⟩=>⟨_,⟨e,a,rfl⟩,b⟩,λ ⟨_,⟨e,a,rfl⟩,b⟩=>⟨e,a,b⟩⟩
 cases hr:List.findIdx? (λ e=>(intKind prog w).is v e.2) es.toList with
 | some j =>
  dsimp only
  obtain⟨hj,hpj,_⟩:=List.findIdx?_eq_some_iff_getElem.mp hr
  have hv:v∈σ:=inn.mp ⟨_,List.getElem_mem hj,hpj⟩
  refine wpAny_pure (wpAny_pure ?_)
  refine h _ s.heap (Heap.SameBut.refl a s.heap) ?_
  have:step_dedup σ v = σ:=by unfold step_dedup;rw[if_pos (by simpa using hv)]
  rw[this]
  exact⟨es,ep,t,R,ks,hks,pks⟩
 | none =>
  dsimp only
  have hv:v ∉ σ:=λ z=>by
   obtain⟨e,he,hp⟩:=inn.mpr z
   have:=List.findIdx?_eq_none_iff.mp hr e he
   rw[hp] at this;exact Bool.noConfusion this
  have st:step_dedup σ v = σ ++ [v]:=by unfold step_dedup;rw[if_neg (by simpa using hv)]
  rw[st] at h
  have P:=layNew_perm t es ((intKind prog w).hash v) (.int v tk)
  have Fi:=layNew_fits t es ((intKind prog w).hash v) (.int v tk)
  obtain⟨T1,T2⟩:=Stb.pR R.tok es ((intKind prog w).hash v) (.int v tk)
  generalize layNew t es ((intKind prog w).hash v) (.int v tk)=L at P Fi T1 T2 ⊢
  obtain⟨es1,t1,wd,gave⟩:=L
  dsimp only at P Fi T1 T2 ⊢
  subst T2
  rw[Array.toList_push] at P
  have el1:ElemsOf (intKind prog w) es1.toList:=(R.el.push key rfl).perm P
  have few1:es1.size<scanBound:=by rw[<-Array.length_toList,P.length_eq,List.length_append,Array.length_toList,lks];simpa using room
  obtain⟨k1,hk1,pk1⟩:=ni P (ks:=ks++[v]) (by rw[List.map_append];exact Bk hks (.cons v tk .nil))
  have pk2:k1.Perm (σ ++ [v]):=pk1.trans (pks.append_right _)
  have tail:∀ (t2:SetTable),t2.fits es1.size=true->Stb.Tok b t2->wpAny (model prog w) A (do
    storeSet a es1 t2
    if (!false && t2.tooFull)=true then do
      (match (relayAll t2 es1 (SetTable.grown es1.size)).2.2 with | true=>rule "set.scan.the-table-gave-way" | false=>pure ())
      storeSet a (relayAll t2 es1 (SetTable.grown es1.size)).1 (relayAll t2 es1 (SetTable.grown es1.size)).2.1
      pure (some true)
     else pure (some true)) (λ r s'=>r=some true/\∃ h',s'={s with heap:=h'}/\Heap.SameBut a s.heap h'/\gP prog w b h' a (σ ++ [v])) E s:=by
   intro t2 f2 k2
   refine wpAny_bind (wpAny_storeSet_of ho hd ?_ (fits_of_scanBound few1))
   have R1:=R.put el1 few1 f2 k2
   have sb:=Heap.SameBut.update s.heap a (Obj.putSet es1 t2)
   split
   ·have P2:=relayAll_perm t2 es1 (SetTable.grown es1.size)
    have F2:=relayAll_fits t2 es1 (SetTable.grown es1.size)
    have T3:=Stb.mn k2 es1 (SetTable.grown es1.size)
    generalize relayAll t2 es1 (SetTable.grown es1.size)=L at P2 F2 T3 ⊢
    obtain⟨es2,t3,g2⟩:=L
    dsimp only at P2 F2 T3 ⊢
    have few2:es2.size<scanBound:=by rw[<-Array.length_toList,P2.length_eq,Array.length_toList];exact few1
    have sz2:es2.size=es1.size:=by rw[<-Array.length_toList,P2.length_eq,Array.length_toList]
    obtain⟨o1,ho1,_,hd1⟩:=R1.at_
    have R2:=R1.put (el1.perm P2) few2 F2 T3
    obtain⟨k3,hk3,pk3⟩:=ni P2 hk1
    refine wpAny_bind (?_:wpAny _ _ (match g2 with | true=>rule "set.scan.the-table-gave-way" | false=>pure ()) _ _ _)
    have go:∀ Q':Unit->Shared->Prop,Q' () {s with heap:=s.heap.update a (Obj.putSet es1 t2)}->wpAny (model prog w) A (match g2 with | true=>rule "set.scan.the-table-gave-way" | false=>pure ()) Q' E {s with heap:=s.heap.update a (Obj.putSet es1 t2)}:=by
     intro Q' q;cases g2<;>first | exact wpAny_pure q | exact wpAny_rule q
    refine go _ ?_
    refine wpAny_bind (wpAny_storeSet_of (s:={s with heap:=s.heap.update a (Obj.putSet es1 t2)}) ho1 hd1 ?_ (fits_of_scanBound few2))
    exact wpAny_pure ⟨rfl,_,rfl,sb.trans (Heap.SameBut.update _ a _),es2,_,t3,R2,k3,hk3,pk3.trans pk2⟩
   ·exact wpAny_pure ⟨rfl,_,rfl,sb,es1,_,t2,R1,k1,hk1,pk2⟩
  have fin:∀ (r:Option Bool) (s':Shared),(r=some true/\∃ h',s'={s with heap:=h'}/\Heap.SameBut a s.heap h'/\gP prog w b h' a (σ ++ [v])) ->
    wpAny (model prog w) A (match r with | some added=>pure added | none=>setAddHashedIn a (.int v tk) ((intKind prog w).hash v) 99999) Q E s':=by
   rintro r s' ⟨rfl,h',rfl,a1,a2⟩
   exact wpAny_pure (h _ h' a1 a2)
  have gw:∀ {Q':Unit->Shared->Prop},Q' () s->wpAny (model prog w) A (match gave with | true=>rule "set.scan.the-table-gave-way" | false=>pure ()) Q' E s:=by
   intro Q' q;cases gave<;>first | exact wpAny_pure q | exact wpAny_rule q
  refine wpAny_bind (gw ?_)
  split
  ·refine wpAny_bind ?_
   rw[hashByValue_scannable 8 rfl]
   refine wpAny_pure ?_
   refine wpAny_mono (tail _ ?_ ?_) fin λ _ _ e=>e
   ·split
    ·exact Fi
    ·exact SetTable.fits_plain_off Fi
   ·split
    ·exact T1
    ·exact xG T1
  ·refine wpAny_bind (wpAny_pure ?_)
   simp only[↓reduceIte]
   exact wpAny_mono (tail _ Fi T1) fin λ _ _ e=>e
end
end L2
namespace L2
open PySem PySem.Spec PyProof.Rows
section
variable {prog:Program}{w:World}{A:Around}{R:Result->Shared->Prop}{I:Addr}{fp wr:List Addr}{G:Array GenState->Array GenState->Prop}{n:Nat}{P:Nat->Value->Prop}{St:Nat->Shared->Prop}
theorem tJ {b:Bool} (W:WalksS prog w A.in1 I fp wr G n P St) (S:Addr) (out:S ∉ fp) (val:Nat->Int) (hval:∀ i v,P i v->∃ t,v=.int (val i) t) (few:n+1<scanBound) :
  ∀ (k i:Nat) (s:Shared),n-i=k->i<=n->St i s->gP prog w b s.heap S (firstMet val i) ->
   (∀ s',Moved (S::wr) G s s'->gP prog w b s'.heap S (firstMet val n)->R (.ok (.ret .none)) s') ->
   codeAny (model prog w) A (.builtin "set.update.loop" ⟨[.ref S,.ref I],[]⟩) R s:=by
 have outw:S ∉ wr:=λ h=>out (W.sub _ h)
 have sub:∀ b∈wr,b∈S::wr:=λ b hb=>List.mem_cons_of_mem _ hb
 intro k
 induction k with
 | zero =>
  intro i s hk hi st hS q
  have:i=n:=by omega
  subst this
  refine codeAny_builtin PyProof.Rows.F.entry_set_update_loop ?_
  rw[Around.under_plainId PyProof.Rows.F.plain_set_update_loop _]
  show wpAny _ A.in1 (pyNext (.ref I) >>= _) _ _ s
  refine wpAny_bind (W.done s _ _ st λ s' m=>?_)
  show wpAny _ A.in1 (ret Value.none) _ _ s'
  exact wpAny_pure (q s' (m.mono sub) (hS.keep λ o e=>m.heap S _ outw e))
 | succ k ih =>
  intro i s hk hi st hS q
  have lt:i<n:=by omega
  refine codeAny_builtin PyProof.Rows.F.entry_set_update_loop ?_
  rw[Around.under_plainId PyProof.Rows.F.plain_set_update_loop _]
  show wpAny _ A.in1 (pyNext (.ref I) >>= _) _ _ s
  refine wpAny_bind (W.item i s _ _ lt st λ v s' hP st' m=>?_)
  obtain⟨t,rfl⟩:=hval i v hP
  have hS':gP prog w b s'.heap S (firstMet val i):=hS.keep λ o e=>m.heap S _ outw e
  show wpAny _ A.in1 (holding [Value.int (val i) t] (setAdd S (.int (val i) t)) >>= _) _ _ s'
  refine wpAny_bind (wpAny_holding ?_)
  unfold setAdd
  refine wpAny_holding ?_
  refine wpAny_bind ((intKind prog w).pyHash (k:=val i) (intKind_is _ _ _ _) ?_)
  have room:(firstMet val i).length+1<scanBound:=by have:=firstMet_length_le val i;omega
  refine vD (s:={s' with toks:=s'.toks+1}) hS' room λ r h' sb hS2=>?_
  refine wpAny_pure ⟨plainId_quiet PyProof.Rows.F.plain_set_update_loop _,ih (i+1) _ (by omega) lt (W.frame _ s' _ _ st' (Nat.le_succ _) λ b hb o e=>?_) (by rw[firstMet_succ];exact hS2) λ s'' m'' hS''=>?_⟩
  ·rw[sb.2 b (λ h:b=S=>out (by rw[<-h];exact hb))];exact e
  ·refine q s'' (Moved.trans W.gtrans ((m.mono sub).then_heap (Nat.le_succ _) λ b o hb e=>?_) m'') hS''
   rw[sb.2 b (λ h:b=S=>hb (by rw[h];exact List.mem_cons_self))];exact e
end
def byT (w:World):Bool:=w.params.followText "set-order"
def bT (w:World):Obj:={cls:=.type "set",dict:=none,data:=.set #[] 0 (.fresh 0 0 (!byT w))}
section
variable {prog:Program}{w:World}{A:Around}{E:Value->Shared->Prop}{s:Shared}
theorem wA (a:Value) {Q:Value->Shared->Prop} (h:Q (.ref s.heap.objs.size) {s with heap:=s.heap.push (bT w)}) :
  codeAny (model prog w) A (.call (.builtin "set.__new__") ⟨[.type "set",a],[]⟩) (wants Q E) s:=by
 refine codeAny_of_tree ?_
 show wpAny _ A.in1 (do checkBuiltinCall "set.__new__" ⟨[.type "set",a],[]⟩;again (.builtin "set.__new__" ⟨[.type "set",a],[]⟩)) _ _ s
 refine wpAny_bind (wpAny_of_eq (PySem.F.newCall_set_1 a) (wpAny_pure ⟨plainId_quiet F.plain_set_new _,codeAny_builtin F.entry_set_new ?_⟩))
 rw[Around.under_plainId F.plain_set_new _]
 unfold Builtin.«set.__new__» Builtin.Frozenset.newClass
 have hsub:=sub_set_self
 obtain⟨hp,g,d,tk,os⟩:=s
 dsimp only
 wp_walk
 refine wpAny_askSetting (wpAny_pure ?_)
 dsimp only
 simp only[newObj]
 refine wpAny_bind (wpAny_alloc (wpAny_pure ?_))
 exact wpAny_pure h
theorem qw:gP prog w (!byT w) (s.heap.push (bT w)) s.heap.objs.size [] :=
 ⟨#[],0,_,⟨⟨_,Heap.get?_push_size _ rfl,⟨rfl,rfl,rfl⟩,rfl⟩,λ e he=>by simp at he,by decide,by rfl,Stb.tF _ _ _⟩,[],.nil,.refl _⟩
set_option maxHeartbeats 16000000 in
theorem uI {l:Addr}{items:Array Value}{ns:List Int}{Q:Value->Shared->Prop}
  (hh:A.handled=none) (hl:s.heap.IsList l items) (hi:IntsAre items.toList ns) (hb:items.size+1<scanBound)
  (h:∀ (h':Heap) (tk:Nat),gP prog w (!byT w) h' s.heap.objs.size (firstMet (λ i=>ns.getD i 0) items.size) ->
   (∀ b o,b<s.heap.objs.size->s.heap.get? b=some o->h'.get? b=some o)->Q (.ref s.heap.objs.size) {s with heap:=h',toks:=tk}) :
  wpAny (model prog w) A (call (.type "set") [.ref l]) Q E s:=by
 obtain⟨c,tl,hmro⟩:=F.called_set.mro
 have hmade:=F.called_set.made
 have hsub:=F.called_set.sub
 refine wpAny_call (codeAny_of_tree ?_)
 show wpAny _ _ (callAny (.type "set") _) _ _ _
 refine wpAny_pure ⟨Code.quiet_builtin _ (by decide +kernel),codeAny_builtin F.entry_type_call ?_⟩
 rw[Around.under_plain (weight_type_call_type "set" [.ref l] []) rfl]
 have h1:=F.called_set.notType
 have h2:=F.called_set.canCreate
 have hct:=PySem.F.typeCall_set_1 (.ref l)
 repeat (any_goals (first | assumption | wp_step))
 refine codeAny_mono (wA (.ref l) (E:=E) (Q:=λ obj s₁=>obj=.ref s.heap.objs.size/\s₁={s with heap:=s.heap.push (bT w)}) ⟨rfl,rfl⟩) λ r s₁ hr=>?_
 cases r with
 | error e=>exact hr
 | ok fl =>
  cases fl with
  | ret obj =>
   obtain⟨rfl,rfl⟩:=hr
   have hS:(s.heap.push (bT w)).get? s.heap.objs.size=some (bT w):=Heap.get?_push_size _ rfl
   have hT:Shared.TypeIs {s with heap:=s.heap.push (bT w)} (.ref s.heap.objs.size) "set":=⟨_,hS,rfl⟩
   have hli:=F.called_set.init.lookup
   have hbi:=F.called_set.init.bind (.ref s.heap.objs.size)
   repeat (any_goals (first | assumption | wp_step))
   refine codeAny_mono (codeAny_call_builtin (R:=wants (λ r s₂=>r=.none/\∃ h' tk,s₂={s with heap:=h',toks:=tk} /\
     gP prog w (!byT w) h' s.heap.objs.size (firstMet (λ i=>ns.getD i 0) items.size) /\
     (∀ b o,b<s.heap.objs.size->s.heap.get? b=some o->h'.get? b=some o)) E) F.called_set.init.plain F.entry_set_init (check_set_init_1 hT ?_)) λ r₂ s₂ hr₂=>?_
   ·obtain⟨ol,hol,hcl,nl,hdl⟩:=hl
    obtain⟨ocls,odict,odata,oslots⟩:=ol
    simp only at hcl hdl
    subst hcl;subst hdl
    have hol':(s.heap.push (bT w)).get? l=some {cls:=.type "list",dict:=odict,data:=.seq items nl,slots:=oslots}:=Heap.get?_push_of_some _ hol
    have hsls:=PySem.F.sub_list_set
    have hslf:=PySem.F.sub_list_frozenset
    have hne:(Value.type "list" == Value.type "dict")=false:=by decide
    have hl1:(s.heap.push (bT w)).IsList l items:=⟨_,hol',rfl,nl,rfl⟩
    unfold Builtin.«set.__init__» noKeywords Builtin.Frozenset.updateFrom
    generalize hPI:pyIter=PI
    wp_walk
    subst hPI
    refine wpAny_pyIter_list hl1 ?_
    refine wpAny_bind (wpAny_runValue ?_)
    have hlS:l<s.heap.objs.size:=Heap.lt_size hol
    have hh3:A.in1.in1.in1.handled=none:=by simp [hh]
    have hneI:l≠(s.heap.push (bT w)).objs.size:=by
     rw[Heap.size_push];exact Nat.ne_of_lt (Nat.lt_succ_of_lt hlS)
    have hSf:s.heap.objs.size ∉ [(s.heap.push (bT w)).objs.size,l]:=by
     rw[Heap.size_push];simp only[List.mem_cons,List.mem_singleton,List.not_mem_nil,or_false,not_or]
     exact⟨Nat.ne_of_lt (Nat.lt_succ_self _),Nat.ne_of_gt hlS⟩
    have hval:∀ (i:Nat) (v:Value),items[i]? = some v->∃ t,v=.int ((λ i=>ns.getD i 0) i) t:=λ i v hv =>
     IntsAre.int_at hi i v (by rw[Array.getElem?_toList];exact hv)
    refine tJ (b:=!byT w) ((Walks.list hh3 _ l hneI items).toS) s.heap.objs.size
     hSf (λ i=>ns.getD i 0) hval hb (items.size-0) 0 _ (by omega) (Nat.zero_le _)
     ⟨⟨_,Heap.get?_push_size _ rfl,rfl,rfl⟩,(hl1.push _)⟩ ?hS0 ?hR
    case hS0=>exact qw.keep λ o e=>Heap.get?_push_of_some _ e
    case hR =>
     intro s' hm hS'
     obtain⟨h',g',d',tk',os'⟩:=s'
     have eg:g'=s.gens:=hm.gens
     have ed:d'=s.drawn:=hm.drawn
     have eo:os'=s.os:=hm.os
     subst eg;subst ed;subst eo
     show wpAny _ _ _ _ _ _
     refine wpAny_pure ?_
     show wpAny _ _ (ret Value.none) _ _ _
     refine wpAny_pure ⟨rfl,h',tk',rfl,hS',λ b o hb e=>?_⟩
     have hb1:b≠s.heap.objs.size:=Nat.ne_of_lt hb
     have hb2:b≠(s.heap.push (bT w)).objs.size:=by
      rw[Heap.size_push];exact Nat.ne_of_lt (Nat.lt_succ_of_lt hb)
     exact hm.heap b o (by simp only[List.mem_cons,List.mem_singleton,List.not_mem_nil,or_false,not_or];exact⟨hb1,hb2⟩) (Heap.get?_push_of_some _ (Heap.get?_push_of_some _ e))
   ·cases r₂ with
    | error e=>exact hr₂
    | ok fl₂ =>
     cases fl₂ with
     | ret r =>
      obtain⟨rfl,h',tk,rfl,hS',hk'⟩:=hr₂
      repeat (any_goals (first | assumption | wp_step))
      exact h _ _ hS' hk'
     | _=>exact hr₂.elim
  | _=>exact hr.elim
end
end L2
namespace L2
open PySem PySem.Spec PyProof.Rows
theorem aY:Slot "set_iterator" "__next__" "set_iterator.__next__" :=
 .of (owner:="set_iterator") (n:="__next__") (by rw[typeLookup_type,builtinLookup_eq_fast];kernel_rfl) (by decide +kernel) (by decide +kernel) (by decide +kernel)
  (by first | exact .inl (by decide +kernel) | exact .inr (by decide +kernel)) (by rw[isSubtype_type];kernel_rfl)
theorem cX:entryFor table "set_iterator.__next__" = some Builtin.«set_iterator.__next__»:=entryFor_of_tree (by kernel_rfl)
theorem oV:Manifest.owners.lookup (String.ofList ['r','o','t','a','r','e','t','i','_','t','e','s'].reverse)=some Manifest.sig_set_iterator:=by kernel_rfl
theorem dw (a:Value):argsOk "set_iterator.__next__" ⟨[a],[]⟩:=by
 unfold argsOk;rw[signature?_of (id:="set_iterator.__next__") (n:=['_','_','t','x','e','n','_','_']) (o:=['r','o','t','a','r','e','t','i','_','t','e','s']) (by kernel_rfl) oV];kernel_rfl
theorem gT:Slot "set_iterator" "__iter__" "set_iterator.__iter__" :=
 .of (owner:="set_iterator") (n:="__iter__") (by rw[typeLookup_type,builtinLookup_eq_fast];kernel_rfl) (by decide +kernel) (by decide +kernel) (by decide +kernel)
  (by first | exact .inl (by decide +kernel) | exact .inr (by decide +kernel)) (by rw[isSubtype_type];kernel_rfl)
theorem nU (a:Value):argsOk "set_iterator.__iter__" ⟨[a],[]⟩:=by
 unfold argsOk;rw[signature?_of (id:="set_iterator.__iter__") (n:=['_','_','r','e','t','i','_','_']) (o:=['r','o','t','a','r','e','t','i','_','t','e','s']) (by kernel_rfl) oV];kernel_rfl
theorem kr:entryFor table "set.__iter__" = some Builtin.«frozenset.__iter__» :=
 entryFor_alias (id':="frozenset.__iter__") (by kernel_rfl) rfl (by decide +kernel) (by kernel_rfl)
theorem kK:entryFor table "set_iterator.__iter__" = some Builtin.«dict_keyiterator.__iter__» :=
 entryFor_alias (id':="dict_keyiterator.__iter__") (by kernel_rfl) rfl (by decide +kernel) (by kernel_rfl)
def gQ (h:Heap) (I a:Addr) (first:Value) (i n ep:Nat):Prop:=∃ o,h.get? I=some o/\o.cls=.type "set_iterator"/\o.data=.fields #[first,.int i 0,.ref a,.int n 0,.int ep 0]
theorem gQ.keep {h h':Heap}{I a:Addr}{f:Value}{i n ep:Nat} (r:gQ h I a f i n ep) (k:∀ o,h.get? I=some o->h'.get? I=some o):gQ h' I a f i n ep:=let ⟨o,x,y⟩:=r;⟨o,k o x,y⟩
section
variable {prog:Program}{w:World}{A:Around}{E:Value->Shared->Prop}{s:Shared}
theorem gQ.ty {I a:Addr}{f:Value}{i n ep:Nat} (r:gQ s.heap I a f i n ep):s.TypeIs (.ref I) "set_iterator":=let ⟨o,x,y,_⟩:=r;⟨o,x,y⟩
theorem mC {I a:Addr}{f:Value}{i n ep:Nat}{Q:Value->Shared->Prop} (r:gQ s.heap I a f i n ep) (h:Q (.ref I) s):wpAny (model prog w) A (pyIter (.ref I)) Q E s:=by
 refine wpAny_pyIter_slot r.ty gT (wpAny_call_entry gT r.ty kK ?_ (nU _))
 show wpAny _ _ (ret (.ref I)) _ _ s
 exact wpAny_pure ⟨_,rfl,"set_iterator",_,r.ty,aY.lookup,h⟩
theorem rA {b:Bool}{I a:Addr}{slot i ep nx:Nat}{es:Array (Int×Value)}{t:SetTable}{x:Value}{Q:Option Value->Shared->Prop} (r:gQ s.heap I a (.int slot 0) i es.size ep) (R:dR prog w b s.heap a es ep t)
  (hn:∀ (A':Around) (E':Value->Shared->Prop) (Q':Option (Value×Nat)->Shared->Prop),Q' (some (x,nx)) s->wpAny (model prog w) A' (setNext a slot i ep) Q' E' s)
  (q:∀ h',gQ h' I a (.int nx 0) (i+1) es.size ep->Heap.SameBut I s.heap h'->Q (some x) {s with heap:=h'}):wpAny (model prog w) A (pyNext (.ref I)) Q E s:=by
 have ty:=r.ty
 obtain⟨o,g1,g2,g3⟩:=r
 obtain⟨od,h1,h2,h3⟩:=R.at_
 unfold pyNext
 refine (wpAny_bind (wpAny_attempt (wpAny_callSpecial?_slot (name:=Str.ofString "__next__") ty aY (wpAny_call_entry aY ty cX ?go (dw _)))))
 unfold Builtin.«set_iterator.__next__»
 refine (wpAny_bind (m:=slotArgs "__next__" 0 _) (wpAny_pure ?b1))
 refine (wpAny_bind (wpAny_fieldsOf g1 g3 ?b2))
 dsimp only
 refine (wpAny_bind (wpAny_setEntries_of h1 h3 R.fits ?b3))
 rw[if_neg (by simp)]
 show wpAny _ _ (setNext a ((slot:Int)).toNat ((i:Int)).toNat ((ep:Int)).toNat >>= _) _ _ s
 rw[Int.toNat_natCast,Int.toNat_natCast,Int.toNat_natCast]
 refine wpAny_bind (hn _ _ _ ?b5)
 dsimp only
 refine (wpAny_bind (wpAny_setField g1 g3 (by simp) ?b6))
 have d1:=Obj.data_mapFields g3 (·.setIfInBounds 0 (rawInt (nx:Int)))
 have k1:=Heap.get?_update_self (Obj.mapFields (·.setIfInBounds 0 (rawInt (nx:Int)))) g1 (Obj.isFreed_of_fields d1)
 refine (wpAny_bind (wpAny_setField k1 d1 (by simp) ?b7))
 have d2:=Obj.data_mapFields d1 (·.setIfInBounds 1 (rawInt ((i:Int)+1)))
 have k2:=Heap.get?_update_self (Obj.mapFields (·.setIfInBounds 1 (rawInt ((i:Int)+1)))) k1 (Obj.isFreed_of_fields d2)
 refine wpAny_pure ⟨_,rfl,wpAny_pure (q _ ⟨_,k2,?_,?_⟩ ?_)⟩
 ·exact (Obj.cls_mapFields ..).trans ((Obj.cls_mapFields ..).trans g2)
 ·rw[d2];simp [rawInt]
 ·exact (Heap.SameBut.update ..).trans (Heap.SameBut.update ..)
theorem vC {b:Bool}{I a:Addr}{slot i ep:Nat}{es:Array (Int×Value)}{t:SetTable}{Q:Option Value->Shared->Prop} (hh:A.handled=none) (r:gQ s.heap I a (.int slot 0) i es.size ep) (R:dR prog w b s.heap a es ep t)
  (hn:∀ (A':Around) (E':Value->Shared->Prop) (Q':Option (Value×Nat)->Shared->Prop),Q' none s->wpAny (model prog w) A' (setNext a slot i ep) Q' E' s)
  (q:∀ h',Heap.ExtBut I s.heap h'->Q none {s with heap:=h'}):wpAny (model prog w) A (pyNext (.ref I)) Q E s:=by
 have ty:=r.ty
 obtain⟨o,g1,g2,g3⟩:=r
 obtain⟨od,h1,h2,h3⟩:=R.at_
 unfold pyNext
 refine (wpAny_bind (wpAny_attempt (wpAny_callSpecial?_slot (name:=Str.ofString "__next__") ty aY (wpAny_call_entry aY ty cX ?go (dw _)))))
 unfold Builtin.«set_iterator.__next__»
 refine (wpAny_bind (m:=slotArgs "__next__" 0 _) (wpAny_pure ?b1))
 refine (wpAny_bind (wpAny_fieldsOf g1 g3 ?b2))
 dsimp only
 refine (wpAny_bind (wpAny_setEntries_of h1 h3 R.fits ?b3))
 rw[if_neg (by simp)]
 show wpAny _ _ (setNext a ((slot:Int)).toNat ((i:Int)).toNat ((ep:Int)).toNat >>= _) _ _ s
 rw[Int.toNat_natCast,Int.toNat_natCast,Int.toNat_natCast]
 refine wpAny_bind (hn _ _ _ ?b5)
 dsimp only
 refine (wpAny_bind (wpAny_setField g1 g3 (by simp) ?c4))
 show wpAny _ _ (newExc (.type "StopIteration") [] >>= _) (_) _ _
 refine (wpAny_bind ?c5)
 simp only[newExc,newTuple]
 refine (wpAny_bind (wpAny_newObj_type ?c6 (by size_fits)))
 refine (wpAny_bind (m:=firstArgMember _ _) (wpAny_of_eq (a:=Value.none) (by first | rfl | (simp only[firstArgMember];rfl)) ?c7))
 refine wpAny_newObj_type ?c8 (by size_fits)
 simp only[raiseNew]
 refine (wpAny_bind (wpAny_handled ?c9))
 rw[show A.in1.handled=none from hh]
 refine (wpAny_bind (wpAny_pure (wpAny_throw ?d1)))
 refine (wpAny_bind (wpAny_isInstance (T:="StopIteration") (b:=true) ⟨_,Heap.get?_push_size _ rfl,rfl⟩ isSubtype_stop ?d2))
 exact wpAny_pure (q _ (((Heap.SameBut.update ..).extBut.push _).push _))
theorem lU {b:Bool}{a:Addr}{slot i ep:Nat}{es:Array (Int×Value)}{t:SetTable}{Q:Option (Value×Nat)->Shared->Prop} (bt:byT w=true) (R:dR prog w b s.heap a es ep t)
  (q:Q (((pickOrder (w.params.setOrder a ep) es)[i]?).map λ e=>(e.2,slot)) s):wpAny (model prog w) A (setNext a slot i ep) Q E s:=by
 obtain⟨od,h1,h2,h3⟩:=R.at_
 unfold setNext
 refine wpAny_bind (wpAny_setState_of h1 h3 R.fits ?_)
 dsimp only
 unfold setsByText
 refine wpAny_bind (wpAny_bind (wpAny_askSetting (wpAny_pure ?_)))
 show wpAny _ _ (if byT w=true then _ else _) _ _ s
 rw[if_pos bt]
 rw[if_neg (by simp)]
 refine wpAny_bind ?_
 unfold setWalk
 refine wpAny_bind (wpAny_setState_of h1 h3 R.fits ?_)
 dsimp only
 unfold setsByText
 refine wpAny_bind (wpAny_bind (wpAny_askSetting (wpAny_pure ?_)))
 show wpAny _ _ (if byT w=true then _ else _) _ _ s
 rw[if_pos bt]
 refine wpAny_bind (wpAny_askSetting (wpAny_pure ?_))
 exact wpAny_pure q
theorem oY {a:Addr}{slot i ep:Nat}{es:Array (Int×Value)}{t:SetTable}{Q:Option (Value×Nat)->Shared->Prop} (bt:byT w=false) (R:dR prog w (!byT w) s.heap a es ep t) (nd:(!t.plain && decide (es.size>1))=false)
  (q:Q (match es[SetTable.below t.place slot]?,t.place[SetTable.below t.place slot]? with | some (_,x),some j=>some (x,j+1) | _,_=>none) s):wpAny (model prog w) A (setNext a slot i ep) Q E s:=by
 obtain⟨od,h1,h2,h3⟩:=R.at_
 unfold setNext
 refine wpAny_bind (wpAny_setState_of h1 h3 R.fits ?_)
 dsimp only
 unfold setsByText
 refine wpAny_bind (wpAny_bind (wpAny_askSetting (wpAny_pure ?_)))
 show wpAny _ _ (if byT w=true then _ else _) _ _ s
 rw[if_neg (by rw[bt];exact Bool.false_ne_true)]
 have ld:t.led=true:=by rw[R.tok.led,bt];rfl
 show wpAny _ _ (if (!t.plain && decide (es.size>1))=true then _ else _) _ _ s
 rw[nd,if_neg Bool.false_ne_true]
 show wpAny _ _ ((if (!t.led && !es.isEmpty)=true then unsupported "set:maker-not-led" else pure ()) >>= _) _ _ s
 rw[ld]
 refine wpAny_bind (wpAny_pure ?_)
 exact wpAny_pure q
end
end L2
namespace L2
open PySem PySem.Spec PyProof.Rows
section
variable {prog:Program}{w:World}{A:Around}{E:Value->Shared->Prop}{s:Shared}
theorem dR.pl {b:Bool}{h:Heap}{a:Addr}{es:Array (Int×Value)}{ep:Nat}{t:SetTable} (R:dR prog w b h a es ep t):t.place.size=es.size:=by
 have:=R.fits;simp only[SetTable.fits,Bool.and_eq_true,beq_iff_eq,decide_eq_true_eq] at this;exact this.1
def vls (es:Array (Int×Value)):List Value:=es.toList.map (·.2)
theorem pO {es:Array (Int×Value)}{i:Nat} (h:i<es.size):(vls es)[i]? = some (es[i]).2:=by simp [vls,h]
theorem pN (hh:A.handled=none) (bt:byT w=true) (I a:Addr) (ne:a≠I) (es:Array (Int×Value)) (ep:Nat) (t:SetTable) :
  Walks prog w A I [I,a] [I] es.size (λ i v=>(vls (pickOrder (w.params.setOrder a ep) es))[i]? = some v) (λ i h=>gQ h I a (.int (0:Nat) 0) i es.size ep/\dR prog w (!byT w) h a es ep t) where
 sub:=λ b hb=>by simp at hb;simp [hb]
 frame:=λ _ _ _ st hk=>⟨st.1.keep λ o e=>hk I (by simp) o e,st.2.keep λ o e=>hk a (by simp) o e⟩
 item:=λ i s Q E hi st hQ=>by
  have sz:(pickOrder (w.params.setOrder a ep) es).size=es.size:=by rw[<-Array.length_toList,(Stb.iS _ es).length_eq,Array.length_toList]
  have hi2:i<(pickOrder (w.params.setOrder a ep) es).size:=by omega
  refine rA (nx:=0) st.1 st.2 (λ A' E' Q' q=>lU bt st.2 (by rw[Array.getElem?_eq_getElem hi2];exact q)) λ h' r sb=>?_
  exact hQ _ h' s.toks (pO hi2) ⟨r,st.2.keep λ o e=>(sb.2 a ne).trans e⟩ λ b o hb e=>sb.extBut b o (λ h=>hb (by simp [h])) e
 done:=λ s Q E st hQ=>by
  have sz:(pickOrder (w.params.setOrder a ep) es).size=es.size:=by rw[<-Array.length_toList,(Stb.iS _ es).length_eq,Array.length_toList]
  exact vC hh st.1 st.2 (λ A' E' Q' q=>lU bt st.2 (by rw[Array.getElem?_eq_none (by omega)];exact q)) λ h' he=>hQ h' s.toks λ b o hb e=>he b o (λ h=>hb (by simp [h])) e
 self:=λ _ _ _ _ st hQ=>mC st.1 hQ
def jE (t:SetTable):Nat->Nat
 | 0=>0
 | i+1=>t.place.getD i 0+1
theorem jD {b:Bool}{t:SetTable} (k:Stb.Tok b t):∀ {i:Nat},i<=t.place.size->SetTable.below t.place (jE t i)=i
 | 0,_=>Stb.qK k.ris
 | i+1,h=>Stb.qL k.ris (by omega)
theorem tw (hh:A.handled=none) (bt:byT w=false) (I a:Addr) (ne:a≠I) (es:Array (Int×Value)) (ep:Nat) (t:SetTable) (nd:(!t.plain && decide (es.size>1))=false) :
  Walks prog w A I [I,a] [I] es.size (λ i v=>(vls es)[i]? = some v) (λ i h=>gQ h I a (.int (jE t i:Nat) 0) i es.size ep/\dR prog w (!byT w) h a es ep t) where
 sub:=λ b hb=>by simp at hb;simp [hb]
 frame:=λ _ _ _ st hk=>⟨st.1.keep λ o e=>hk I (by simp) o e,st.2.keep λ o e=>hk a (by simp) o e⟩
 item:=λ i s Q E hi st hQ=>by
  have pl:=st.2.pl
  refine rA (nx:=jE t (i+1)) (x:=(es[i]).2) st.1 st.2 (λ A' E' Q' q=>oY bt st.2 nd (by
   rw[jD st.2.tok (by omega),Array.getElem?_eq_getElem hi,Array.getElem?_eq_getElem (show i<t.place.size by omega)]
   have:jE t (i+1)=t.place[i]'(by omega)+1:=by simp [jE,Array.getD,show i<t.place.size by omega]
   rw[this] at q;exact q)) λ h' r sb=>?_
  exact hQ _ h' s.toks (pO hi) ⟨r,st.2.keep λ o e=>(sb.2 a ne).trans e⟩ λ b o hb e=>sb.extBut b o (λ h=>hb (by simp [h])) e
 done:=λ s Q E st hQ=>by
  have pl:=st.2.pl
  exact vC hh st.1 st.2 (λ A' E' Q' q=>oY bt st.2 nd (by
   rw[jD st.2.tok (by omega),Array.getElem?_eq_none (Nat.le_refl _)];exact q)) λ h' he=>hQ h' s.toks λ b o hb e=>he b o (λ h=>hb (by simp [h])) e
 self:=λ _ _ _ _ st hQ=>mC st.1 hQ
theorem qB {b:Bool}{I a T:Addr}{i ep pl n:Nat}{es:Array (Int×Value)}{t:SetTable}{oT:Obj}{ps:Array Value}{x:Int×Value}{Q:Option Value->Shared->Prop} (r:gQ s.heap I a (.ref T) i es.size ep) (R:dR prog w b s.heap a es ep t)
  (hT:s.heap.get? T=some oT) (dT:oT.data=.seq ps n) (hp:ps[i]? = some (.int (pl:Nat) 0)) (hx:es[pl]? = some x)
  (q:∀ h',gQ h' I a (.ref T) (i+1) es.size ep->Heap.SameBut I s.heap h'->Q (some x.2) {s with heap:=h'}):wpAny (model prog w) A (pyNext (.ref I)) Q E s:=by
 have ty:=r.ty
 obtain⟨o,g1,g2,g3⟩:=r
 obtain⟨od,h1,h2,h3⟩:=R.at_
 unfold pyNext
 refine (wpAny_bind (wpAny_attempt (wpAny_callSpecial?_slot (name:=Str.ofString "__next__") ty aY (wpAny_call_entry aY ty cX ?go (dw _)))))
 unfold Builtin.«set_iterator.__next__»
 refine (wpAny_bind (m:=slotArgs "__next__" 0 _) (wpAny_pure ?b1))
 refine (wpAny_bind (wpAny_fieldsOf g1 g3 ?b2))
 dsimp only
 refine (wpAny_bind (wpAny_setEntries_of h1 h3 R.fits ?b3))
 rw[if_neg (by simp)]
 show wpAny _ _ (seqItems? (.ref T) >>= _) _ _ s
 refine wpAny_bind ?b4
 unfold seqItems?
 refine wpAny_bind (wpAny_load hT ?b5)
 rw[dT]
 refine wpAny_pure ?b6
 dsimp only
 rw[Int.toNat_natCast,hp]
 dsimp only
 refine wpAny_bind ?b7
 unfold setNextDrawn
 refine wpAny_bind (wpAny_setState_of h1 h3 R.fits ?b8)
 dsimp only
 rw[if_neg (by simp),Int.toNat_natCast,hx]
 refine wpAny_pure ?b9
 refine (wpAny_bind (wpAny_setField g1 g3 (by simp) ?c1))
 have d2:=Obj.data_mapFields g3 (·.setIfInBounds 1 (rawInt ((i:Int)+1)))
 have k2:=Heap.get?_update_self (Obj.mapFields (·.setIfInBounds 1 (rawInt ((i:Int)+1)))) g1 (Obj.isFreed_of_fields d2)
 refine wpAny_pure ⟨_,rfl,wpAny_pure (q _ ⟨_,k2,?_,?_⟩ ?_)⟩
 ·exact (Obj.cls_mapFields ..).trans g2
 ·rw[d2];simp [rawInt]
 ·exact Heap.SameBut.update ..
theorem uz {b:Bool}{I a T:Addr}{i ep n:Nat}{es:Array (Int×Value)}{t:SetTable}{oT:Obj}{ps:Array Value}{Q:Option Value->Shared->Prop} (hh:A.handled=none) (r:gQ s.heap I a (.ref T) i es.size ep) (R:dR prog w b s.heap a es ep t)
  (hT:s.heap.get? T=some oT) (dT:oT.data=.seq ps n) (hp:ps[i]? = none)
  (q:∀ h',Heap.ExtBut I s.heap h'->Q none {s with heap:=h'}):wpAny (model prog w) A (pyNext (.ref I)) Q E s:=by
 have ty:=r.ty
 obtain⟨o,g1,g2,g3⟩:=r
 obtain⟨od,h1,h2,h3⟩:=R.at_
 unfold pyNext
 refine (wpAny_bind (wpAny_attempt (wpAny_callSpecial?_slot (name:=Str.ofString "__next__") ty aY (wpAny_call_entry aY ty cX ?go (dw _)))))
 unfold Builtin.«set_iterator.__next__»
 refine (wpAny_bind (m:=slotArgs "__next__" 0 _) (wpAny_pure ?b1))
 refine (wpAny_bind (wpAny_fieldsOf g1 g3 ?b2))
 dsimp only
 refine (wpAny_bind (wpAny_setEntries_of h1 h3 R.fits ?b3))
 rw[if_neg (by simp)]
 show wpAny _ _ (seqItems? (.ref T) >>= _) _ _ s
 refine wpAny_bind ?b4
 unfold seqItems?
 refine wpAny_bind (wpAny_load hT ?b5)
 rw[dT]
 refine wpAny_pure ?b6
 dsimp only
 rw[Int.toNat_natCast,hp]
 dsimp only
 refine (wpAny_bind (wpAny_setField g1 g3 (by simp) ?b7))
 have d2:=Obj.data_mapFields g3 (·.setIfInBounds 0 (rawInt (0:Int)))
 have k2:=Heap.get?_update_self (Obj.mapFields (·.setIfInBounds 0 (rawInt (0:Int)))) g1 (Obj.isFreed_of_fields d2)
 refine (wpAny_bind (wpAny_setField k2 d2 (by simp) ?b8))
 show wpAny _ _ (newExc (.type "StopIteration") [] >>= _) (_) _ _
 refine (wpAny_bind ?c5)
 simp only[newExc,newTuple]
 refine (wpAny_bind (wpAny_newObj_type ?c6 (by size_fits)))
 refine (wpAny_bind (m:=firstArgMember _ _) (wpAny_of_eq (a:=Value.none) (by first | rfl | (simp only[firstArgMember];rfl)) ?c7))
 refine wpAny_newObj_type ?c8 (by size_fits)
 simp only[raiseNew]
 refine (wpAny_bind (wpAny_handled ?c9))
 rw[show A.in1.handled=none from hh]
 refine (wpAny_bind (wpAny_pure (wpAny_throw ?d1)))
 refine (wpAny_bind (wpAny_isInstance (T:="StopIteration") (b:=true) ⟨_,Heap.get?_push_size _ rfl,rfl⟩ isSubtype_stop ?d2))
 exact wpAny_pure (q _ ((((Heap.SameBut.update ..).trans (Heap.SameBut.update ..)).extBut.push _).push _))
def oP (ps:List Nat):Obj:={cls:=.type "tuple",data:=.seq (ps.map λ (i:Nat)=>Value.int i 0).toArray}
theorem n5 (hh:A.handled=none) (I a T:Addr) (ne:a≠I) (nT:T≠I) (es:Array (Int×Value)) (ep:Nat) (t:SetTable) (ps:List Nat) (pp:ps.Perm (List.range es.size)) :
  Walks prog w A I [I,a,T] [I] es.size (λ i v=>(ps.map λ p=>(es.getD p (0,.none)).2)[i]? = some v) (λ i h=>gQ h I a (.ref T) i es.size ep/\dR prog w (!byT w) h a es ep t/\h.get? T=some (oP ps)) where
 sub:=λ b hb=>by simp at hb;simp [hb]
 frame:=λ _ _ _ st hk=>⟨st.1.keep λ o e=>hk I (by simp) o e,st.2.1.keep λ o e=>hk a (by simp) o e,hk T (by simp) _ st.2.2⟩
 item:=λ i s Q E hi st hQ=>by
  have lp:ps.length=es.size:=by rw[pp.length_eq,List.length_range]
  have hi2:i<ps.length:=by omega
  have lt:ps[i]<es.size:=List.mem_range.mp (pp.mem_iff.mp (List.getElem_mem hi2))
  refine qB (pl:=ps[i]) (x:=es[ps[i]]) st.1 st.2.1 st.2.2 rfl (by simp [hi2]) (Array.getElem?_eq_getElem lt) λ h' r sb=>?_
  exact hQ _ h' s.toks (by simp [hi2,Array.getD,lt]) ⟨r,st.2.1.keep λ o e=>(sb.2 a ne).trans e,(sb.2 T nT).trans st.2.2⟩ λ b o hb e=>sb.extBut b o (λ h=>hb (by simp [h])) e
 done:=λ s Q E st hQ=>by
  have lp:ps.length=es.size:=by rw[pp.length_eq,List.length_range]
  exact uz hh st.1 st.2.1 st.2.2 rfl (by simp [lp]) λ h' he=>hQ h' s.toks λ b o hb e=>he b o (λ h=>hb (by simp [h])) e
 self:=λ _ _ _ _ st hQ=>mC st.1 hQ
end
end L2
namespace L2
open PySem PySem.Spec PyProof.Rows
section
variable {prog:Program}{w:World}{A:Around}{E:Value->Shared->Prop}{s:Shared}
theorem qM {src:Source}{n:Nat}{Q:Nat->Shared->Prop} (hn:n≠0) (h:∀ (i:Nat) (d:Drawn),i<n->Q i {s with drawn:=d}):wpAny (model prog w) A (choose src n) Q E s:=λ Γ p hΓ=>by
 show Sem.wp _ _ (.choose src n .pure) _ _ _ _
 rw[Sem.wp_choose]
 exact⟨hn,h _ _ (Nat.mod_lt _ (Nat.pos_of_ne_zero hn))⟩
theorem lZ {α:Type}:∀ (n:Nat) (xs:List α) (s:Shared) (Q:List α->Shared->Prop),xs.length<=n->(∀ (ys:List α) (d:Drawn),ys.Perm xs->Q ys {s with drawn:=d})->wpAny (model prog w) A (drawOrder n xs) Q E s
 | 0,xs,s,Q,hl,h=>by
  have:xs = []:=List.length_eq_zero_iff.mp (by omega)
  subst this
  exact wpAny_pure (h [] s.drawn (.refl _))
 | n+1,[],s,Q,hl,h=>wpAny_pure (h [] s.drawn (.refl _))
 | n+1,x::xs,s,Q,hl,h=>by
  show wpAny _ _ (choose .order (x::xs).length >>= _) _ _ s
  refine wpAny_bind (qM (by simp) λ i d hi=>?_)
  rw[List.getElem?_eq_getElem hi]
  dsimp only
  refine wpAny_bind (lZ n _ _ _ (by rw[List.length_eraseIdx_of_lt hi];omega) λ ys d' p=>?_)
  exact wpAny_pure (h _ d' ((List.Perm.cons _ p).trans (Stb.oW _ _ hi)))
theorem vE {a:Addr}{es:Array (Int×Value)}{ep:Nat}{t:SetTable}{Q:Value->Shared->Prop} (R:dR prog w (!byT w) s.heap a es ep t)
  (q:∀ (I:Addr) (h1:Heap) (d1:Drawn) (fp:List Addr) (St:Nat->Heap->Prop) (ord:List Value),ord.Perm (vls es)->(∀ b o,s.heap.get? b=some o->h1.get? b=some o)->(∀ b∈fp,b=a∨s.heap.objs.size<=b)->s.heap.objs.size<=I ->
   (∀ A':Around,A'.handled=none->Walks prog w A' I fp [I] es.size (λ i v=>ord[i]? = some v) St)->St 0 h1->Q (.ref I) {s with heap:=h1,drawn:=d1}) :
  wpAny (model prog w) A (pyIter (.ref a)) Q E s:=by
 obtain⟨od,h1,h2,h3⟩:=R.at_
 have ty:s.TypeIs (.ref a) "set":=⟨od,h1,h2.1⟩
 have la:a<s.heap.objs.size:=Heap.lt_size h1
 refine wpAny_pyIter_slot ty F.slot_set_iter (wpAny_call_entry F.slot_set_iter ty kr ?go (F.args_set_iter_1 _))
 unfold Builtin.«frozenset.__iter__» Builtin.Frozenset.slot0 slotArgs
 simp only[List.isEmpty_nil,Bool.not_true,Bool.false_eq_true,↓reduceIte,bind_assoc,List.length_nil,bne_self_eq_false]
 unfold Builtin.Frozenset.addrOf Builtin.Frozenset.sizeOf
 refine wpAny_bind (wpAny_pure ?_)
 try dsimp only
 refine wpAny_bind (wpAny_pure ?_)
 refine wpAny_bind (wpAny_bind (wpAny_setEntries_of h1 h3 R.fits (wpAny_pure ?_)))
 unfold setDrawn
 refine wpAny_bind (wpAny_bind (wpAny_setState_of h1 h3 R.fits ?_))
 dsimp only
 unfold setsByText
 refine wpAny_bind (wpAny_bind (wpAny_askSetting (wpAny_pure ?_)))
 refine wpAny_pure ?_
 show wpAny _ _ (if (!byT w && (!t.plain && decide (es.size>1)))=true then _ else _) _ _ s
 cases bt:byT w with
 | true =>
  rw[if_neg (by simp)]
  refine wpAny_bind (wpAny_pure ?_)
  refine wpAny_bind (wpAny_setEpoch_of h1 h3 R.fits ?_)
  refine wpAny_bind (wpAny_newObj_type (wpAny_pure ⟨_,rfl,"set_iterator",_,⟨_,Heap.get?_push_size _ rfl,rfl⟩,aY.lookup,?_⟩))
  refine q _ _ s.drawn _ _ (vls (pickOrder (w.params.setOrder a ep) es)) ((Stb.iS _ es).map _) (λ b o e=>Heap.get?_push_of_some _ e) (λ b hb=>?_) (Nat.le_refl _) (λ A' hh'=>pN hh' bt s.heap.objs.size a (Nat.ne_of_lt la) es ep t) ⟨⟨_,Heap.get?_push_size _ rfl,rfl,rfl⟩,R.keep λ o e=>Heap.get?_push_of_some _ e⟩
  simp only[List.mem_cons,List.not_mem_nil,or_false] at hb
  rcases hb with rfl | rfl
  ·exact .inr (Nat.le_refl _)
  ·exact .inl rfl
 | false =>
  cases nd:(!t.plain && decide (es.size>1)) with
  | false =>
   rw[if_neg (by simp)]
   refine wpAny_bind (wpAny_pure ?_)
   refine wpAny_bind (wpAny_setEpoch_of h1 h3 R.fits ?_)
   refine wpAny_bind (wpAny_newObj_type (wpAny_pure ⟨_,rfl,"set_iterator",_,⟨_,Heap.get?_push_size _ rfl,rfl⟩,aY.lookup,?_⟩))
   refine q _ _ s.drawn _ _ (vls es) (.refl _) (λ b o e=>Heap.get?_push_of_some _ e) (λ b hb=>?_) (Nat.le_refl _) (λ A' hh'=>tw hh' bt s.heap.objs.size a (Nat.ne_of_lt la) es ep t nd) ⟨⟨_,Heap.get?_push_size _ rfl,rfl,rfl⟩,R.keep λ o e=>Heap.get?_push_of_some _ e⟩
   simp only[List.mem_cons,List.not_mem_nil,or_false] at hb
   rcases hb with rfl | rfl
   ·exact .inr (Nat.le_refl _)
   ·exact .inl rfl
  | true =>
   rw[if_pos (by simp)]
   refine wpAny_bind (lZ _ _ _ _ (Nat.le_of_eq List.length_range) λ ps d pp=>?_)
   have lp:ps.length=es.size:=by rw[pp.length_eq,List.length_range]
   refine wpAny_bind (wpAny_newTuple ?_ (by rw[List.length_map,lp];exact fits_of_scanBound R.few))
   have R1:dR prog w (!byT w) (s.heap.push (oP ps)) a es ep t:=R.keep λ o e=>Heap.get?_push_of_some _ e
   obtain⟨od',h1',h2',h3'⟩:=R1.at_
   refine wpAny_bind (wpAny_setEpoch_of (s:={s with heap:=s.heap.push (oP ps),drawn:=d}) h1' h3' R1.fits ?_)
   refine wpAny_bind (wpAny_newObj_type (wpAny_pure ⟨_,rfl,"set_iterator",_,⟨_,Heap.get?_push_size _ rfl,rfl⟩,aY.lookup,?_⟩))
   have sz:(s.heap.push (oP ps)).objs.size=s.heap.objs.size+1:=by rw[Heap.size_push]
   refine q (s.heap.push (oP ps)).objs.size _ d _ _ (ps.map λ p=>(es.getD p (0,.none)).2) ?_ (λ b o e=>Heap.get?_push_of_some _ (Heap.get?_push_of_some _ e)) (λ b hb=>?_) (by rw[sz];exact Nat.le_succ _)
    (λ A' hh'=>n5 hh' _ a s.heap.objs.size (by rw[sz];exact Nat.ne_of_lt (Nat.lt_succ_of_lt la)) (by rw[sz];exact Nat.ne_of_lt (Nat.lt_succ_self _)) es ep t ps pp) ⟨⟨_,Heap.get?_push_size _ rfl,rfl,rfl⟩,R1.keep λ o e=>Heap.get?_push_of_some _ e,Heap.get?_push_of_some _ (Heap.get?_push_size _ rfl)⟩
   ·refine (pp.map _).trans (List.Perm.of_eq ?_)
    refine List.ext_getElem? λ i=>?_
    by_cases hi:i<es.size
    ·rw[pO hi];simp [hi,Array.getD]
    ·simp [vls,hi,Nat.le_of_not_lt hi]
   ·simp only[List.mem_cons,List.not_mem_nil,or_false] at hb
    rcases hb with rfl | rfl | rfl
    ·exact .inr (by rw[sz];exact Nat.le_succ _)
    ·exact .inl rfl
    ·exact .inr (Nat.le_refl _)
end
end L2
namespace L2
open PySem PySem.Spec PyProof.Rows
section
variable {prog:Program}{w:World}{A:Around}{E:Value->Shared->Prop}{s:Shared}
theorem wO {r:Addr}{Q:Bool->Shared->Prop} (hT:s.TypeIs (.ref r) "set") (h:Q false s):wpAny (model prog w) A (Builtin.List.listLengthHint (.ref r)) Q E s:=by
 unfold Builtin.List.listLengthHint
 refine wpAny_bind (wpAny_specialOf hT PySem.F.slot_set_len.lookup ?_)
 generalize hid:("set.__len__":String)=id0
 wp_delta
 rw[show splitId id0=some ("set","__len__") from by subst hid;decide +kernel]
 subst hid
 refine wpAny_bind (wpAny_isInstance (T:="set") (b:=true) hT (by rw[isSubtype_type];kernel_rfl) ?_)
 refine wpAny_ite_split (λ hab=>absurd hab (by decide)) (λ _=>?_)
 refine wpAny_ite_split (λ _=>?_) (λ hab=>absurd (by decide +kernel) hab)
 refine wpAny_bind (wpAny_typeOf hT ?_)
 exact wpAny_pure h
theorem qa {R:Result->Shared->Prop}{a:Addr}{es:Array (Int×Value)}{ep:Nat}{t:SetTable} (hh:A.handled=none) (K:dR prog w (!byT w) s.heap a es ep t) (S:Addr) (hSa:S≠a) (res:Value) (c₀:Nat)
  (hS:s.heap.get? S=some {cls:=.type "list",data:=.seq #[] c₀})
  (hR:∀ (h':Heap) (d':Drawn) (tk:Nat) (acc':Array Value) (c':Nat),(∀ b o,b≠S->s.heap.get? b=some o->h'.get? b=some o)->h'.get? S=some {cls:=.type "list",dict:=none,data:=.seq acc' c',slots:=#[]} ->
   acc'.toList.Perm (vls es)->R (.ok (.ret res)) {s with heap:=h',drawn:=d',toks:=tk}) :
  wpAny (model prog w) A.in1 (Builtin.List.listExtendWith (.ref S) (.ref a) res)
   (λ fin s'=>match fin with | .done f=>R (.ok f) s' | .again c'=>c'.quiet=true/\codeAny (model prog w) A c' R s') (λ e s'=>R (.error e) s') s:=by
 obtain⟨od,h1,h2,h3⟩:=K.at_
 have ty:s.TypeIs (.ref a) "set":=⟨od,h1,h2.1⟩
 have hn:es.size<=sizeLine:=fits_of_scanBound K.few
 unfold Builtin.List.listExtendWith
 refine wpAny_bind (wpAny_typeOf (T:="set") ty ?_)
 have e1:Builtin.List.listSameRef (.ref S) (.ref a)=false:=by simp [Builtin.List.listSameRef,hSa]
 have e2:(Value.type "set" == Value.type "list")=false:=by decide
 have e3:(Value.type "set" == Value.type "tuple")=false:=by decide
 simp only[e1,e2,e3,Bool.or_false,Bool.false_eq_true,if_false]
 refine wpAny_bind (vE K λ I g d1 fp St ord po kp fpo hI W st=>?_)
 have hSI:S≠I:=Nat.ne_of_lt (Nat.lt_of_lt_of_le (Heap.lt_size hS) hI)
 have hSf:S ∉ fp:=λ z=>(fpo S z).elim hSa λ l=>absurd (Heap.lt_size hS) (Nat.not_lt.mpr l)
 have W1:=W A.in1 hh
 have key:∀ (h:Heap) (c₁ tk:Nat),St 0 h->(∀ b o,b≠S->s.heap.get? b=some o->h.get? b=some o) ->
   h.get? S=some {cls:=.type "list",data:=.seq #[] c₁}->codeAny (model prog w) A (.builtin "list.extend.loop" ⟨[.ref S,.ref I,res],[]⟩) R {s with heap:=h,drawn:=d1,toks:=tk}:=by
  intro h c₁ tk hst hk hS₁
  refine codeAny_extend_loopS W1.toS hn S hSf res es.size 0 _ #[] c₁ rfl (Nat.zero_le _) hst hS₁ (ItemsOf.nil _) λ s' acc' c' hm hS' hacc=>?_
  rw[Moved.eq_with hm]
  refine hR s'.heap d1 s'.toks acc' c' (λ b o hb e=>hm.heap b o (λ hmem=>?_) (hk b o hb e)) hS' ?_
  ·rcases List.mem_cons.mp hmem with e' | hmem
   ·exact hb e'
   ·have:=Heap.lt_size e;rw[List.mem_singleton.mp hmem] at this;exact absurd this (Nat.not_lt.mpr hI)
  ·have lo:ord.length=es.size:=by rw[po.length_eq];simp [vls]
   have:acc'.toList=ord:=by
    refine List.ext_getElem? λ j=>?_
    rw[Array.getElem?_toList]
    cases hj:acc'[j]? with
    | some v=>exact (hacc.2 j v hj).symm
    | none=>rw[List.getElem?_eq_none];have:=Array.getElem?_eq_none_iff.mp hj;have:=hacc.1;omega
   rw[this];exact po
 have hS₁:=kp S _ hS
 refine wpAny_bind (wpAny_holding (wO (s:={s with heap:=g,drawn:=d1}) ⟨od,kp _ _ h1,h2.1⟩ ?_))
 refine wpAny_ite_split (λ _=>?_) (λ _=>wpAny_pure ⟨plainId_quiet PySem.F.plain_extend_loop _,key _ c₀ _ st (λ b o _ e=>kp _ _ e) hS₁⟩)
 refine wpAny_bind (wpAny_rule ?_)
 refine wpAny_bind ?_
 show wpAny _ _ (updateSeq S (·.push .none) >>= λ _=>updateSeq S (·.pop)) _ _ _
 refine wpAny_bind (wpAny_updateSeq hS₁ rfl ?_)
 have hS₂:=Heap.get?_update_self (Obj.mapSeq (·.push Value.none)) hS₁ rfl
 refine wpAny_updateSeq (hz:=by seq_fits) hS₂ rfl ?_
 have hS₃:=Heap.get?_update_self (Obj.mapSeq (·.pop)) hS₂ rfl
 refine wpAny_pure ⟨plainId_quiet PySem.F.plain_extend_loop _,key _ _ _ ?_ (λ b o hb e=>?_) hS₃⟩
 ·refine W1.frame 0 _ _ st λ b hb o e=>?_
  have hbS:b≠S:=λ h=>hSf (h ▸ hb)
  exact (Heap.get?_update_other _ _ (Ne.symm hbS)).trans ((Heap.get?_update_other _ _ (Ne.symm hbS)).trans e)
 ·exact (Heap.get?_update_other _ _ (Ne.symm hb)).trans ((Heap.get?_update_other _ _ (Ne.symm hb)).trans (kp _ _ e))
theorem oA {R:List Value->Shared->Prop}{a:Addr}{es:Array (Int×Value)}{ep:Nat}{t:SetTable} (hh:A.handled=none) (K:dR prog w (!byT w) s.heap a es ep t)
  (h:∀ (h':Heap) (d':Drawn) (tk:Nat) (acc:List Value),(∀ b o,s.heap.get? b=some o->h'.get? b=some o)->acc.Perm (vls es)->R acc {s with heap:=h',drawn:=d',toks:=tk}) :
  wpAny (model prog w) A (collect (.ref a)) R E s:=by
 obtain⟨od,h1,h2,h3⟩:=K.at_
 have la:a<s.heap.objs.size:=Heap.lt_size h1
 unfold collect
 refine wpAny_bind (wpAny_runValue (codeAny_builtin entry_proto_collect' ?_))
 rw[Around.under_plainId PySem.F.plain_proto_collect _]
 show wpAny _ A.in1 (newList [] >>= λ l=>again (.builtin "list.__iadd__" ⟨[l,.ref a],[]⟩)) _ _ s
 refine wpAny_bind (wpAny_newObj_type ?_)
 refine wpAny_pure ⟨plainId_quiet PySem.F.plain_list_iadd _,codeAny_builtin entry_list_iadd' ?_⟩
 rw[Around.under_plainId PySem.F.plain_list_iadd _]
 have hS₁:(s.heap.push {cls:=.type "list",data:=.seq ([]:List Value).toArray}).get? s.heap.objs.size=some {cls:=.type "list",data:=.seq #[]}:=Heap.get?_push_size _ rfl
 show wpAny _ A.in1 (Builtin.List.listExtendWith (.ref s.heap.objs.size) (.ref a) (.ref s.heap.objs.size)) _ _ _
 have key:=qa (A:=A) (s:={s with heap:=s.heap.push {cls:=.type "list",data:=.seq ([]:List Value).toArray}})
  (R:=λ (q:Result) (s':Shared)=>∃ (h':Heap) (d':Drawn) (tk:Nat) (acc':Array Value) (c':Nat),q=.ok (.ret (.ref s.heap.objs.size))/\s'={s with heap:=h',drawn:=d',toks:=tk} /\
   (∀ b o,s.heap.get? b=some o->h'.get? b=some o)/\h'.get? s.heap.objs.size=some {cls:=.type "list",dict:=none,data:=.seq acc' c',slots:=#[]}/\acc'.toList.Perm (vls es))
  hh (K.keep λ o e=>Heap.get?_push_of_some _ e) s.heap.objs.size (Nat.ne_of_gt la) (.ref s.heap.objs.size) 0 hS₁
  (λ h' d' tk acc' c' hk hS' hacc=>⟨h',d',tk,acc',c',rfl,rfl,λ b o e=>hk b o (Nat.ne_of_lt (Heap.lt_size e)) (Heap.get?_push_of_some _ e),hS',hacc⟩)
 refine wpAny_mono key (λ fin s' x=>?_) λ e s' x=>?_
 ·cases fin with
  | done f =>
   obtain⟨h',d',tk,acc',c',e,rfl,hk,hS',hacc⟩:=x
   cases e
   show wpAny _ A (load s.heap.objs.size >>= _) _ _ _
   refine wpAny_bind (wpAny_load hS' ?_)
   exact wpAny_pure (h h' d' tk acc'.toList hk hacc)
  | again c₁ =>
   refine⟨x.1,codeAny_mono x.2 λ q s₂ y=>?_⟩
   obtain⟨h',d',tk,acc',c',rfl,rfl,hk,hS',hacc⟩:=y
   show wpAny _ A (load s.heap.objs.size >>= _) _ _ _
   refine wpAny_bind (wpAny_load hS' ?_)
   exact wpAny_pure (h h' d' tk acc'.toList hk hacc)
 ·obtain⟨_,_,_,_,_,e',_⟩:=x
  cases e'
theorem wG:∀ {l l':List Value},l'.Perm l->∀ {ks:List Int},IntsAre l ks->∃ ks',IntsAre l' ks'/\ks'.Perm ks:=by
 intro l l' p ks h
 have e:∀ l:List Value,List.map (λ x:Int×Value=>x.2) (l.map λ v=>((0:Int),v))=l:=λ l=>by rw[List.map_map];exact List.map_id l
 obtain⟨k,a,b⟩:=ni (p.map λ v=>((0:Int),v)) (ks:=ks) (by rw[e];exact h)
 rw[e] at a
 exact⟨k,a,b⟩
theorem pZ {a:Addr}{σ:List Int}{Q:Value->Shared->Prop} (hh:A.handled=none) (K:gP prog w (!byT w) s.heap a σ) (few:σ.length<64)
  (h:∀ (g h':Heap) (d':Drawn) (tk:Nat) (out:Array Value) (n:Nat) (ms:List Int),(∀ b o,s.heap.get? b=some o->g.get? b=some o)->(∀ b o,g.get? b=some o->h'.get? b=some o)->h'.get? g.objs.size=some (seqObj "list" out n) ->
   IntsAre out.toList ms->ms.Perm σ->ms.Pairwise (·<=·)->Q (.ref g.objs.size) {s with heap:=h',drawn:=d',toks:=tk}) :
  wpAny (model prog w) A (call (.builtin "sorted") [.ref a]) Q E s:=by
 obtain⟨es,ep,t,R,ks,hks,pks⟩:=K
 refine Calls.call_function_entry kind_sorted plain_sorted entry_sorted (args_sorted1 _) ?_
 unfold Builtin.«sorted»
 refine wpAny_bind (m:=checkCount "sorted" 1 1 _) (wpAny_pure ?_)
 refine wpAny_bind (oA (A:=A.in1) hh R λ g d tk acc kp pa=>?_)
 obtain⟨ns,hns,pns⟩:=wG pa hks
 have la:acc.length<64:=by rw[hns.length,pns.length_eq,pks.length_eq];exact few
 refine wpAny_bind (wpAny_newList ?_)
 have hoL:(g.push (seqObj "list" acc.toArray 0)).get? g.objs.size=some (seqObj "list" acc.toArray 0):=Heap.get?_push_size _ rfl
 show wpAny _ _ _ _ _ {s with heap:=g.push (seqObj "list" acc.toArray 0),drawn:=d,toks:=tk}
 refine wpAny_bind (wpAny_holding (wpAny_call_entry slot_list_sort ⟨_,hoL,rfl⟩ entry_list_sort (list_sort_tree hoL hns la λ out ms a1 a2 a3=>⟨_,rfl,?_⟩) (args_list_sort _)))
 obtain⟨n,hD⟩:=sortedHeap_at (vs:=acc) (n:=0) (out:=out) hoL
 refine wpAny_pure ⟨_,rfl,h g _ d tk out n ms kp (λ b o e=>?_) hD a1 (a2.trans (pns.trans pks)) a3⟩
 have lb:=Heap.lt_size e
 show (sortedHeap (g.push (seqObj "list" acc.toArray 0)) g.objs.size acc out).get? b=some o
 rw[sortedHeap_old (Nat.ne_of_lt lb) (by rw[size_push'];exact Nat.lt_succ_of_lt lb)]
 exact Heap.get?_push_of_some _ e
end
end L2
namespace L2
open PySem PySem.Spec PyProof.Rows PySem.W Gc
theorem Inv.drew {X:Cx}{pins:List (Addr×Obj)}{σ:St}{H:Hp}{s:Shared} (I:Inv X pins σ H s) (d:Drawn):Inv X pins σ H {s with drawn:=d} :=
 ⟨I.ok,I.os,I.bare,I.base,I.loc,I.cell,I.free,I.freeC,I.pin,I.hok,I.len⟩
def Cs (P:Program) (w:World) (o:Obj) (σ:List Int):Prop:=∀ (h:Heap) (a:Addr),h.get? a=some o->gP P w (!byT w) h a σ
def kL (ns:List Int):List Int:=ns.foldl step_dedup []
theorem qA (ns:List Int):firstMet (λ i=>ns.getD i 0) ns.length=kL ns:=by
 unfold firstMet kL
 congr 1
 refine List.ext_getElem? λ i=>?_
 by_cases h:i<ns.length
 ·simp [h]
 ·simp [h,Nat.le_of_not_lt h]
theorem nK:∀ (ns σ:List Int),σ.Nodup->(ns.foldl step_dedup σ).Nodup/\∀ x,x∈ns.foldl step_dedup σ↔x∈σ∨x∈ns
 | [],σ,h=>⟨h,λ x=>by simp⟩
 | n::ns,σ,h=>by
  have st:(step_dedup σ n).Nodup/\∀ x,x∈step_dedup σ n↔x∈σ∨x=n:=by
   unfold step_dedup
   by_cases q:σ.any (· == n)=true
   ·rw[if_pos q]
    have:n∈σ:=by simpa using q
    exact⟨h,λ x=>⟨.inl,λ z=>z.elim id λ e=>e ▸ this⟩⟩
   ·rw[if_neg q]
    have:n ∉ σ:=by simpa using q
    refine⟨List.nodup_append.mpr ⟨h,by simp,λ a ha b hb=>?_⟩,λ x=>by simp⟩
    rw[List.mem_singleton.mp hb];exact λ e=>this (e ▸ ha)
  obtain⟨a,b⟩:=nK ns _ st.1
  refine⟨a,λ x=>?_⟩
  rw[List.foldl_cons,b,st.2,List.mem_cons]
  exact or_assoc
theorem qC (ns:List Int):(kL ns).Nodup:=(nK ns [] List.nodup_nil).1
theorem xl (ns:List Int) (x:Int):x∈kL ns↔x∈ns:=by rw[kL,(nK ns [] List.nodup_nil).2];simp
theorem kx:∀ (ns σ:List Int),(ns.foldl step_dedup σ).length<=σ.length+ns.length
 | [],σ=>by simp
 | n::ns,σ=>by
  have:=kx ns (step_dedup σ n)
  have:(step_dedup σ n).length<=σ.length+1:=by unfold step_dedup;split<;>simp
  simp only[List.foldl_cons,List.length_cons];omega
theorem uJ {X:Cx} (hc:X.calm=true):cO X (.type "set") (λ xs H Q=>∃ (p:Addr) (ns:List Int),xs = [.ref p]/\SqL X.K H p (ns.map V.int)/\ns.length<4000 /\
  ∀ (D:Addr) (o:Obj),H D=none->Cs X.prog X.w o (kL ns)->Q (.ref D) (upd H D (Fz o))):=by
 intro pins s σ H xs us Q I r h
 obtain⟨p,ns,rfl,hq,few,q⟩:=h
 obtain⟨u,rfl,rx⟩:=jy r
 cases rx
 obtain⟨its,rv,pl,hz⟩:=I.list hq
 have li:its.length=ns.length:=by rw[<-rv.length,List.length_map]
 refine uI (I.ok.hd hc) pl.isList (ns:=ns) (by simpa using nw rv) (by simp only[List.size_toArray,scanBound];omega) λ h' tk hS kp=>?_
 have e0:its.toArray.size=ns.length:=by simp [li]
 rw[e0,qA] at hS
 obtain⟨es,ep,t,R,jm⟩:=hS
 obtain⟨o,ho,hex,hd⟩:=R.at_
 have kp':∀ b o,s.heap.get? b=some o->h'.get? b=some o:=λ b o e=>kp b o (Heap.lt_size e) e
 refine⟨.ref s.heap.objs.size,_,I.laid (t':=tk) kp' (Nat.le_refl _) (ph ho),rfl,q _ o (I.hok.fresh (Nat.le_refl _)) λ h a e=>?_⟩
 exact⟨es,ep,t,⟨⟨o,e,hex,hd⟩,R.el,R.few,R.fits,R.tok⟩,jm⟩
theorem nQ {X:Cx} (hc:X.calm=true):cO X (.builtin "sorted") (λ xs H Q=>∃ (p:Addr) (o:Obj) (σ:List Int),xs = [.ref p]/\H p=some (Fz o)/\Cs X.prog X.w o σ/\σ.length<64 /\
  ∀ (D:Addr) (ms:List Int),H D=none->ms.Perm σ->ms.Pairwise (·<=·)->Q (.ref D) (upd H D (.lst (ms.map V.int)))):=by
 intro pins s σ' H xs us Q I r h
 obtain⟨p,o,σ,rfl,hp,sv,few,q⟩:=h
 obtain⟨u,rfl,rx⟩:=jy r
 cases rx
 refine pZ (I.ok.hd hc) (sv _ _ (ee I.hok hp)) few λ g h' d tk out n ms k1 k2 hD i1 i2 i3=>?_
 have I1:Inv X pins σ' H {s with heap:=g,drawn:=d,toks:=tk}:=(I.kept (t':=tk) k1).drew d
 have hl:=i2.length_eq
 refine⟨.ref g.objs.size,_,I1.laid (a:=g.objs.size) (o:=.lst (ms.map V.int)) (t':=tk) k2 (Nat.le_refl _) (show aN X.prog X.w _ _ _ (.lst (ms.map V.int)) from ⟨?_,out.toList,n,nv i1,?_⟩),rfl,q _ ms (I1.hok.fresh (Nat.le_refl _)) i2 i3⟩
 ·rw[List.length_map,hl,sizeLine_eq];omega
 ·exact hD
end L2
namespace K27
open PySem L2 Gc Ch
seal wpAny
def top (i:Nat):Stmt:=PySem.Challenge.pw_surestretch_k27_whole_made_tight.main.body.getD i (.Pass ⟨0,0,0,0⟩)
abbrev gb:Stmt:=top 7
abbrev gg:Stmt:=top 8
abbrev f9:Stmt:=top 9
abbrev tO:Stmt:=top 10
abbrev iO:Stmt:=top 11
abbrev iL:Stmt:=top 12
abbrev gq:Stmt:=top 13
abbrev k6:Stmt:=top 14
abbrev lM:Stmt:=top 16
abbrev lv:Stmt:=top 18
abbrev iG:Stmt:=top 19
abbrev iJ:Stmt:=top 20
abbrev eE:Stmt:=top 22
abbrev gi:Stmt:=top 23
abbrev k9:Stmt:=top 24
abbrev lj:Stmt:=top 26
abbrev lI:Stmt:=top 27
abbrev lg:Stmt:=top 28
abbrev gu:Stmt:=top 29
abbrev eF:Stmt:=top 30
abbrev gr:Stmt:=top 32
abbrev lF:Stmt:=top 33
abbrev iI:Stmt:=top 34
abbrev iM:Stmt:=top 35
abbrev gf:Stmt:=top 41
abbrev iN:Stmt:=top 42
abbrev iH:Stmt:=top 43
abbrev gc:Stmt:=top 44
abbrev lB:Stmt:=top 45
abbrev tL:Stmt:=top 46
abbrev dX:Stmt:=top 47
abbrev k7:Stmt:=top 48
abbrev tM:Stmt:=top 49
abbrev iP:Stmt:=top 51
abbrev tN:Stmt:=top 52
abbrev lG:Stmt:=top 60
abbrev iK:Stmt:=top 54
abbrev lL:Stmt:=top 53
abbrev lC:Stmt:=top 55
abbrev lE:Stmt:=top 57
abbrev k8:Stmt:=top 58
abbrev lK:Stmt:=top 59
abbrev lD:Stmt:=top 61
abbrev lA:Stmt:=top 62
abbrev lJ:Stmt:=top 63
abbrev gY:Stmt:=top 64
abbrev lH:Stmt:=top 56
structure Txt (mg:Str->Option Value):Prop where
 range:mg "range" = none
 min:mg "min" = none
 max:mg "max" = none
 len:mg "len" = none
 isinstance:mg "isinstance" = none
 int:mg "int" = none
 bool:mg "bool" = none
 tuple:mg "tuple" = none
 abs:mg "abs" = none
 all:mg "all" = none
 zip:mg "zip" = none
 sum:mg "sum" = none
 list:mg "list" = none
 sorted:mg "sorted" = none
 set:mg "set" = none
 reversed:mg "reversed" = none
 ValueError:mg "ValueError" = none
structure CA where
 StretchError:Addr
 NoNumber:Addr
 NoRule:Addr
 NotSure:Addr
 TooMuch:Addr
structure CF (K:PySem.W.Frag) (mg:Str->Option Value) (C:CA):Prop where
 mStretchError:mg "StretchError" = some (.ref C.StretchError)
 mNoNumber:mg "NoNumber" = some (.ref C.NoNumber)
 mNoRule:mg "NoRule" = some (.ref C.NoRule)
 mNotSure:mg "NotSure" = some (.ref C.NotSure)
 mTooMuch:mg "TooMuch" = some (.ref C.TooMuch)
 xNoRule:Bv K mg "NoRule" C.NoRule
 xNoNumber:Bv K mg "NoNumber" C.NoNumber
 cNoRule:xC K C.NoRule
 iNoRule:z9 K C.NoRule
 iNoNumber:z9 K C.NoNumber
 sub:PySem.W.subIn K (.ref C.NoRule) (.ref C.NoRule)=some true
theorem jZ {P:Program}{w:World}{X:Cx}:i9 (CXX P w) X E0:=λ _ _ _ _ _ _ _ h=>(uB h).elim
def isW (t:Th):Bool:=nk t && !nu t
theorem eT {t:Th} (h:isW t=true):∃ i,t=.int i:=by
 cases t<;>first | exact⟨_,rfl⟩ | (simp [isW,nk,nu] at h)
theorem at0 {x:V}{xs:List V}:atI (x::xs) 0=some x:=bx (xs:=x::xs) (j:=0) rfl
theorem at1 {x y:V}{xs:List V}:atI (x::y::xs) 1=some y:=bx (xs:=x::y::xs) (j:=1) rfl
theorem pD {H:Hp}{a b:Int}{v:V} (d:Den H (.tup [.int a,.int b]) v):∃ p,v=.ref p/\H p=some (.tup [.int a,.int b]):=by
 obtain⟨p,xs,rfl,h,y,ys,e1,e2,z,zs,e3,e4,e5⟩:=d
 have e2':y=V.int a:=e2
 have e4':z=V.int b:=e4
 have e5':zs = []:=e5
 subst e5' e4' e3 e2' e1
 exact⟨p,rfl,h⟩
theorem ie {α:Type}{l:List α}{i:Nat}{d:α} (h:i<l.length):l.getD i d∈l:=by rw[ig h];exact List.getElem_mem h
theorem fU {H:Hp}{p:Addr}{a b:Int} (h:H p=some (.tup [.int a,.int b])):Den H (.tup [.int a,.int b]) (.ref p):=⟨p,_,rfl,h,_,_,rfl,rfl,_,_,rfl,rfl,rfl⟩
theorem uA {H:Hp}{p:Addr}{x y:V}{a b:Th} (h:H p=some (.tup [x,y])) (d1:Den H a x) (d2:Den H b y):Den H (.tup [a,b]) (.ref p):=⟨p,_,rfl,h,_,_,rfl,d1,_,_,rfl,d2,rfl⟩
theorem _root_.Gc.Sz.smk {n:Nat}{i:Int} (h:Sz n i) (hn:n<=8900):Smk i:=h.mono hn
theorem m8 {n:Nat} (h:n<=40):n<sizeLine:=Nat.lt_of_le_of_lt h (by decide)
section
variable {P:Program}{w:World}{K:PySem.W.Frag}{mg:Str->Option Value}{base:Heap}{TB:Addr}
def zL:Sp:=λ vs H Q _=>∃ n k:Int,vs = [.int n,.int k]/\n<=100/\Q (.int (cho n k)) H
theorem mQ:aA ["n","k","ways","taken"] ["n","k"] (ag lM):=⟨rfl,rfl,rfl,by decide +kernel,rfl,by decide +kernel,by decide +kernel⟩
theorem A7 {f:Addr}{fd:FuncData} (F:Fun K "choices" "choices" lM f fd) (T:Txt mg):ax P w K mg base CX0 1 f fd ["n","k"] zL:=by
 refine F.ok mQ (λ vs H Q E h=>?_) (λ cdv A outer s H vs Q E hr h=>?_)
 ·obtain⟨n,k,rfl,_⟩:=h
  rfl
 obtain⟨n,k,rfl,hn,q⟩:=h
 refine⟨_,(af (br (PW.pt (cE (aG jf (pv 1) ae (aL _)) (cy (aG fR (pv 1) (pv 0) (aL _))))) (ah (aB ae)) aK)
  (af (au (i:=2) mQ.nd rfl (Or.inl rfl) ae)
  (af (bA PassesOwn.never rfl (aZ rfl T.range (aa (aO (uK rfl) rfl T.min boot_min (aa (pv 1) (aa (ar ck (pv 0) (pv 1)) ac))) ac)) (az (i:=3) mQ.nd rfl (Or.inl rfl)) (ah (au (i:=2) mQ.nd rfl (Or.inl rfl) (ar hW (ar we (pv 2) (ar ck (pv 0) (pv 3))) (ar aV (pv 3) ae)))))
  (ah (aB (pv 2)))))),?_⟩
 refine⟨_,rfl,_,_,rfl,rfl,_,rfl,?_⟩
 refine fE (λ c=>?_) (λ c=>?_)
 ·have c':k<0:=of_decide_eq_true c
  refine bD ?_
  show Q (.int 0) H
  rw[sR (.inl c')] at q
  exact q
 have c':¬ k<0:=ofD c
 refine⟨_,rfl,_,rfl,_,_,rfl,rfl,_,rfl,?_⟩
 refine fE (λ d=>?_) (λ d=>?_)
 ·have d':n<k:=of_decide_eq_true d
  show Q (.int 0) H
  rw[sR (.inr d')] at q
  exact q
 have d':¬ n<k:=ofD d
 refine⟨_,rfl,_,rfl,_,rfl,_,_,rfl,rfl,_,_,rfl,?_⟩
 refine⟨_,rfl,?_,?_,?_⟩
 ·split<;>omega
 ·split<;>omega
 refine bY (lo:=0) (λ i σ H'=>H'=H/\∃ v,σ = [some (.int n),some (.int k),some (.int (aP n.toNat i:Int)),v]) ⟨rfl,none,?_⟩ ?_ ?_
 ·rw[b0]<;>rfl
 ·rintro i σ H' hi ⟨rfl,v,rfl⟩
  have hi2:(i:Int)<n:=by
   by_cases z:n-k<k
   ·rw[if_pos z] at hi;omega
   ·rw[if_neg z] at hi;omega
  have e:(aP n.toNat i:Int)*(n-(0+(i:Int))) / (0+(i:Int)+1)=(aP n.toNat (i+1):Int):=by
   rw[Int.zero_add];exact xo hi2
  refine⟨_,rfl,_,rfl,_,rfl,_,_,rfl,rfl,_,_,rfl,rfl,.inr ⟨?_,?_⟩,_,rfl,_,_,rfl,rfl,_,_,rfl,rfl,⟨?_,?_⟩,rfl,some (.int (0+(i:Int))),?_⟩
  ·omega
  ·omega
  ·omega
  ·omega
  rw[<-e]<;>rfl
 ·rintro σ H' ⟨rfl,v,rfl⟩
  refine⟨_,rfl,?_⟩
  rw[<-zo (by omega) (by omega)] at q
  exact q
def jq:Sp:=λ vs H Q _=>∃ x t,vs = [x]/\Den H t x/\Q (.bl (isW t)) H
theorem vH:aA ["thing"] ["thing"] (ag gb):=⟨rfl,rfl,rfl,by decide +kernel,rfl,by decide +kernel,by decide +kernel⟩
theorem wj {f:Addr}{fd:FuncData} (F:Fun K "is_whole" "is_whole" gb f fd) (T:Txt mg):ax P w K mg base CX0 1 f fd ["thing"] jq:=by
 refine F.ok vH (λ vs H Q E h=>?_) (λ cdv A outer s H vs Q E hr h=>?_)
 ·obtain⟨x,t,rfl,_⟩:=h
  rfl
 obtain⟨x,t,rfl,d,q⟩:=h
 refine⟨_,(ah (aB (gL (aO fk rfl T.isinstance boot_isinstance (aa (pv 0) (aa (hV (v:=.ty "int") rfl T.int boot_int rfl) ac))) (m6 (AG (aO fk rfl T.isinstance boot_isinstance (aa (pv 0) (aa (hV (v:=.ty "bool") rfl T.bool boot_bool rfl) ac)))))))),?_⟩
 refine⟨_,rfl,x,t,_,_,rfl,d,yP t,_,rfl,?_⟩
 cases hi:nk t with
 | false =>
  unfold isW at q
  rw[hi,Bool.false_and] at q
  exact aW q
 | true =>
  unfold isW at q
  rw[hi,Bool.true_and] at q
  exact bD ⟨_,rfl,x,t,_,_,rfl,d,wE t,_,rfl,q⟩
def je:Th->Bool
 | .tup [a,b]=>isW a && isW b
 | _=>false
def cx (t:Th):Bool:=je t && (match t with
 | .tup [.int a,.int b]=>decide (1<=b) && (decide (0<=a) && (decide (a<=b) && decide (Int.gcd a b=1)))
 | _=>false)
theorem j8 {t:Th} (h:je t=true):∃ a b,t=.tup [.int a,.int b]:=by
 match t,h with
 | .tup [a,b],h =>
  have h':(isW a && isW b)=true:=h
  rw[Bool.and_eq_true] at h'
  obtain⟨i,rfl⟩:=eT h'.1
  obtain⟨j,rfl⟩:=eT h'.2
  exact⟨i,j,rfl⟩
theorem kY {t:Th} (h:je t=false):cx t=false:=by unfold cx;rw[h];rfl
def q5:Sp:=λ vs H Q _=>∃ x t,vs = [x]/\Den H t x/\Q (.bl (je t)) H
theorem wc {ts:List Th} (h:ts.length≠2):je (.tup ts)=false:=by
 match ts,h with
 | [],_=>rfl
 | [_],_=>rfl
 | [_,_],h=>exact absurd rfl h
 | _::_::_::_,_=>rfl
theorem vG:aA ["thing"] ["thing"] (ag f9):=⟨rfl,rfl,rfl,by decide +kernel,rfl,by decide +kernel,by decide +kernel⟩
theorem wg {f:Addr}{fd:FuncData} (F:Fun K "is_whole_pair" "is_whole_pair" f9 f fd) (T:Txt mg) {fwhole:Addr}{dwhole:FuncData} (Gwhole:ax P w K mg base CX0 1 fwhole dwhole ["thing"] jq) (bwhole:aE K dwhole ["thing"] []) (kwhole:PySem.W.keepIn K (.ref fwhole)=true) (mwhole:mg "is_whole" = some (.ref fwhole)):ax P w K mg base CX0 2 f fd ["thing"] q5:=by
 refine F.ok vG (λ vs H Q E h=>?_) (λ cdv A outer s H vs Q E hr h=>?_)
 ·obtain⟨x,t,rfl,_⟩:=h
  rfl
 obtain⟨x,t,rfl,d,q⟩:=h
 refine⟨_,(ah (aB (gL (aO fk rfl T.isinstance boot_isinstance (aa (pv 0) (aa (hV (v:=.ty "tuple") rfl T.tuple boot_tuple rfl) ac))) (gL (gy gD (aO aS rfl T.len boot_len (aa (pv 0) ac)) ae (aL _)) (gL (aj Gwhole hr rfl mwhole kwhole bwhole .nil aD (aa (am aq (pv 0) ae (λ _ _=>rfl)) ac)) (m6 (aj Gwhole hr rfl mwhole kwhole bwhole .nil aD (aa (am aq (pv 0) ae (λ _ _=>rfl)) ac)))))))),?_⟩
 refine⟨_,rfl,x,t,_,_,rfl,d,um t,_,rfl,?_⟩
 cases t with
 | tup ts =>
  refine bD ?_
  obtain⟨p,xs,rfl,hH,dd⟩:=d
  refine⟨_,rfl,p,xs,rfl,.inr (SqT.of hH),rfl,_,rfl,?_⟩
  refine fE (λ c=>?_) (λ c=>?_)
  ·have c':V.int (xs.length:Int)=V.int 2:=of_decide_eq_true c
   have c2:xs.length=2:=by injection c' with z;omega
   rw[dd.len] at c2
   match ts,c2,dd,q with
   | [a,b],_,dd,q =>
    obtain⟨y,ys,rfl,d1,z,zs,rfl,d2,e5⟩:=dd
    have e5':zs = []:=e5
    subst e5'
    refine⟨_,rfl,p,_,0,_,rfl,rfl,SqT.of hH,at0,y,a,rfl,d1,_,rfl,?_⟩
    have q':Q (.bl (isW a && isW b)) H:=q
    cases ha:isW a with
    | false=>rw[ha,Bool.false_and] at q';exact aW q'
    | true =>
     rw[ha,Bool.true_and] at q'
     exact bD ⟨_,rfl,p,_,1,_,rfl,rfl,SqT.of hH,at1,z,b,rfl,d2,q'⟩
  ·have c2:ts.length≠2:=λ z=>c (decide_eq_true (by rw[dd.len,z]<;>rfl))
   rw[wc c2] at q
   exact q
 | non=>exact aW q
 | bl _=>exact aW q
 | int _=>exact aW q
 | str _=>exact aW q
 | lst _=>exact aW q
 | emp=>exact aW q
 | dic=>exact aW q
def vt:Sp:=λ vs H Q _=>∃ a b:Int,vs = [.int a,.int b]/\0<=a/\0<=b/\Q (.int (Int.gcd a b)) H
def mu2 (σ:St):Nat:=match σ with
 | _::some (.int y)::_=>y.toNat
 | _=>0
theorem rL:aA ["one","other","rest"] ["one","other"] (ag tO):=⟨rfl,rfl,rfl,by decide +kernel,rfl,by decide +kernel,by decide +kernel⟩
theorem B4 {f:Addr}{fd:FuncData} (F:Fun K "common_divisor" "common_divisor" tO f fd) (T:Txt mg):ax P w K mg base CX0 1 f fd ["one","other"] vt:=by
 refine F.ok rL (λ vs H Q E h=>?_) (λ cdv A outer s H vs Q E hr h=>?_)
 ·obtain⟨a,b,rfl,_⟩:=h
  rfl
 obtain⟨a,b,rfl,ha,hb,q⟩:=h
 refine⟨_,(af (g9 PassesOwn.never (aG j9 (pv 1) ae (aL _)) (af (au (i:=2) rL.nd rfl (Or.inl rfl) (ar cn (pv 0) (pv 1)))
   (af (au (i:=0) rL.nd rfl (Or.inl rfl) (pv 1))
   (ah (au (i:=1) rL.nd rfl (Or.inl rfl) (pv 2))))))
  (ah (aB (pv 0)))),?_⟩
 refine nZ (λ σ H'=>H'=H/\∃ x y v,σ = [some (.int x),some (.int y),v]/\0<=x/\0<=y/\Int.gcd x y=Int.gcd a b) (λ σ _=>mu2 σ) ⟨rfl,a,b,none,rfl,ha,hb,rfl⟩ ?_ ?_
 ·rintro σ H' ⟨rfl,x,y,v,rfl,hx,hy,g⟩
  refine⟨_,rfl,rfl,_,rfl,?_⟩
  refine fE (λ c=>?_) (λ c=>?_)
  ·have c':y≠0:=by rintro rfl;exact absurd c (by decide)
   have hm:=Int.emod_nonneg x c'
   have hl:=Int.emod_lt_of_pos x (show 0<y by omega)
   refine⟨_,rfl,_,rfl,_,_,rfl,rfl,(by show 0<y;omega),_,rfl,_,rfl,?_⟩
   refine⟨⟨rfl,y,x%y,some (.int (x%y)),rfl,hy,hm,by rw[zX hx hy c'];exact g⟩,?_⟩
   show (x%y).toNat<y.toNat
   omega
  ·have c':y=0:=by
    by_cases z:y=0
    ·exact z
    ·exact absurd (show (!decide (V.int y=V.int 0))=true by rw[decide_eq_false (λ w=>z (by injection w))];rfl) c
   subst c'
   refine⟨_,rfl,?_⟩
   rw[<-g,Ci hx] at q
   exact q
 ·intro σ H Q Q' hq h
  obtain⟨v,e,h1,k,e2,h2⟩:=h
  exact⟨v,e,h1,k,e2,hq _ _ h2⟩
def re:Sp:=λ vs H Q _=>∃ x t,vs = [x]/\Den H t x/\Q (.bl (cx t)) H
theorem tI {a b:Int}:(decide (V.int (Int.gcd a b:Int)=V.int 1))=decide (Int.gcd a b=1):=by
 apply decide_eq_decide.mpr
 constructor
 ·intro h;injection h with z;omega
 ·intro h;rw[h];rfl
theorem jN:aA ["thing","top","bottom"] ["thing"] (ag gg):=⟨rfl,rfl,rfl,by decide +kernel,rfl,by decide +kernel,by decide +kernel⟩
theorem wn {f:Addr}{fd:FuncData} (F:Fun K "is_share" "is_share" gg f fd) (T:Txt mg) {fwpair:Addr}{dwpair:FuncData} (Gwpair:ax P w K mg base CX0 2 fwpair dwpair ["thing"] q5) (bwpair:aE K dwpair ["thing"] []) (kwpair:PySem.W.keepIn K (.ref fwpair)=true) (mwpair:mg "is_whole_pair" = some (.ref fwpair)) {fcd:Addr}{dcd:FuncData} (Gcd:ax P w K mg base CX0 2 fcd dcd ["one","other"] vt) (bcd:aE K dcd ["one","other"] []) (kcd:PySem.W.keepIn K (.ref fcd)=true) (mcd:mg "common_divisor" = some (.ref fcd)):ax P w K mg base CX0 3 f fd ["thing"] re:=by
 refine F.ok jN (λ vs H Q E h=>?_) (λ cdv A outer s H vs Q E hr h=>?_)
 ·obtain⟨x,t,rfl,_⟩:=h
  rfl
 obtain⟨x,t,rfl,d,q⟩:=h
 refine⟨_,(af (br (bK (a9 (aj Gwpair hr rfl mwpair kwpair bwpair .nil aD (aa (pv 0) ac)))) (ah (aB eJ)) aK)
  (af (au (i:=1) jN.nd rfl (Or.inl rfl) (am aq (pv 0) ae (λ _ _=>rfl)))
  (af (au (i:=2) jN.nd rfl (Or.inl rfl) (am aq (pv 0) ae (λ _ _=>rfl)))
  (ah (aB (gL (gy zV (pv 2) ae (aL _)) (gL (wa wf wf ae (pv 1) (pv 2)) (m6 (gy gD (aj Gcd hr rfl mcd kcd bcd .nil aD (aa (pv 1) (aa (pv 2) ac))) ae (aL _)))))))))),?_⟩
 refine⟨_,rfl,x,t,rfl,d,_,rfl,?_⟩
 cases hp:je t with
 | false =>
  rw[kY hp] at q
  exact bD q
 | true =>
  obtain⟨a,b,rfl⟩:=j8 hp
  obtain⟨p,rfl,hH⟩:=pD d
  refine aW ?_
  refine⟨_,rfl,p,_,0,_,rfl,rfl,SqT.of hH,at0,?_⟩
  refine⟨_,rfl,p,_,1,_,rfl,rfl,SqT.of hH,at1,?_⟩
  have q':Q (.bl (decide (1<=b) && (decide (0<=a) && (decide (a<=b) && decide (Int.gcd a b=1))))) H:=q
  refine⟨_,rfl,_,_,rfl,rfl,_,rfl,?_⟩
  refine fE (λ c=>?_) (λ c=>?_)
  ·rw[c,Bool.true_and] at q'
   refine⟨_,rfl,_,_,rfl,rfl,_,rfl,?_⟩
   refine fE (λ c2=>?_) (λ c2=>?_)
   ·rw[c2,Bool.true_and] at q'
    refine⟨_,rfl,_,_,rfl,rfl,_,rfl,?_⟩
    refine fE (λ c3=>?_) (λ c3=>?_)
    ·rw[c3,Bool.true_and] at q'
     refine⟨_,rfl,_,rfl,a,b,rfl,of_decide_eq_true c2,?_,rfl,?_⟩
     ·have:=of_decide_eq_true c;omega
     rw[tI];exact q'
    ·rw[Bool.eq_false_iff.mpr c3,Bool.false_and] at q'
     exact q'
   ·rw[Bool.eq_false_iff.mpr c2,Bool.false_and] at q'
    exact⟨_,rfl,aW q'⟩
  ·rw[Bool.eq_false_iff.mpr c,Bool.false_and] at q'
   exact q'
theorem Bd {K:PySem.W.Frag} (t:Th):PySem.W.kitAny K (mm t) (["list","tuple"].map Value.type)=some (Bl t || wJ t):=by cases t<;>rfl
def dG:Th->Option (List Th)
 | .lst ts=>some ts
 | .tup ts=>some ts
 | _=>none
def oG (t:Th) (c:Int):Bool:=match dG t with
 | some ts=>decide ((ts.length:Int)=c)
 | none=>false
theorem rG {H:Hp}{t:Th}{ts:List Th}{v:V} (h:dG t=some ts) (d:Den H t v):∃ a xs,v=.ref a/\fx H a xs/\bH H ts xs:=by
 cases t with
 | lst us =>
  cases h
  obtain⟨a,xs,e,h1,h2⟩:=d
  exact⟨a,xs,e,.inl h1,h2⟩
 | tup us =>
  cases h
  obtain⟨a,xs,e,h1,h2⟩:=d
  exact⟨a,xs,e,.inr h1,h2⟩
 | non=>cases h
 | bl _=>cases h
 | int _=>cases h
 | str _=>cases h
 | emp=>cases h
 | dic=>cases h
theorem rO {t:Th}{c:Int} (h:oG t c=true):∃ ts,dG t=some ts/\(ts.length:Int)=c:=by
 unfold oG at h
 cases e:dG t with
 | none=>rw[e] at h;cases h
 | some ts=>rw[e] at h;exact⟨ts,rfl,of_decide_eq_true h⟩
theorem yc {t:Th} (h:oG t 2=true):∃ x y,dG t=some [x,y]:=by
 obtain⟨ts,e,l⟩:=rO h
 match ts,l with
 | [x,y],_=>exact⟨x,y,e⟩
theorem iy {a b:Int}:decide (V.int a=V.int b)=decide (a=b):=decide_eq_decide.mpr ⟨λ h=>by injection h,λ h=>by rw[h]⟩
def pW:Sp:=λ vs H Q _=>∃ (x:V) (c:Int) (t:Th),vs = [x,.int c]/\Den H t x/\∀ H',ak H H'->Q (.bl (oG t c)) H'
theorem vL:aA ["thing","count"] ["thing","count"] (ag gi):=⟨rfl,rfl,rfl,by decide +kernel,rfl,by decide +kernel,by decide +kernel⟩
theorem wo {f:Addr}{fd:FuncData} (F:Fun K "is_row_of" "is_row_of" gi f fd) (T:Txt mg):ax P w K mg base CX0 1 f fd ["thing","count"] pW:=by
 refine F.ok vL (λ vs H Q E h=>?_) (λ cdv A outer s H vs Q E hr h=>?_)
 ·obtain⟨x,c,t,rfl,_⟩:=h
  rfl
 obtain⟨x,c,t,rfl,d,q⟩:=h
 refine⟨_,(ah (aB (gL (aO nR rfl T.isinstance boot_isinstance (aa (pv 0) (aa (aQ (aa (hV (v:=.ty "list") rfl T.list boot_list rfl) (aa (hV (v:=.ty "tuple") rfl T.tuple boot_tuple rfl) ac))) ac))) (m6 (gy gD (aO aS rfl T.len boot_len (aa (pv 0) ac)) (pv 1) (aL _)))))),?_⟩
 refine⟨_,rfl,(by show 2<=sizeLine;decide),λ p hp=>?_⟩
 have s1:=ai hp (.tup [V.ty "list",V.ty "tuple"])
 refine⟨x,p,t,["list","tuple"],_,rfl,ad,d.keep s1,Bd t,_,rfl,?_⟩
 have q1:=q _ s1
 cases t with
 | lst ts =>
  obtain⟨a,xs,rfl,h1,dd⟩:=d
  refine bD ⟨_,rfl,a,xs,rfl,.inl (SqL.of (s1 _ _ h1)),_,rfl,rfl,?_⟩
  show Q (.bl (decide (V.int (xs.length:Int)=V.int c))) _
  rw[iy,dd.len]
  exact q1
 | tup ts =>
  obtain⟨a,xs,rfl,h1,dd⟩:=d
  refine bD ⟨_,rfl,a,xs,rfl,.inr (SqT.of (s1 _ _ h1)),_,rfl,rfl,?_⟩
  show Q (.bl (decide (V.int (xs.length:Int)=V.int c))) _
  rw[iy,dd.len]
  exact q1
 | non=>exact aW q1
 | bl _=>exact aW q1
 | int _=>exact aW q1
 | str _=>exact aW q1
 | emp=>exact aW q1
 | dic=>exact aW q1
theorem ky {ws:List V} (h:1<=ws.length):cw ws (some 1) none=ws.drop 1:=by
 have h1:HT.sIx ws.length 0 (some 1)=1:=by
  rw[show (1:Int)=((1:Nat):Int) from rfl,HT.gv]
  omega
 unfold cw
 rw[h1,HT.jQ,List.take_of_length_le (by simp)]
abbrev Fq:=Int×Int
abbrev Sq:=Fq×Fq
def ppT (p:Fq):Th:=.tup [.int p.1,.int p.2]
def ssT (s:Sq):Th:=.tup [ppT s.1,ppT s.2]
def gX (t:Th):Option Fq:=if cx t=true then (match t with
 | .tup [.int a,.int b]=>some (a,b)
 | _=>none) else none
theorem p9 {t:Th} (h:cx t=true):∃ p,t=ppT p/\gX t=some p:=by
 have hp:je t=true:=by
  cases e:je t with
  | true=>rfl
  | false=>rw[kY e] at h;cases h
 obtain⟨a,b,rfl⟩:=j8 hp
 exact⟨(a,b),rfl,by unfold gX;rw[if_pos h]⟩
theorem rF {t:Th} (h:cx t=false):gX t=none:=by unfold gX;rw[if_neg (by rw[h];exact Bool.false_ne_true)]
def st2 (t:Th):Option Sq:=match dG t with
 | some [x,y]=>(gX x).bind λ p=>(gX y).bind λ q=>some (p,q)
 | _=>none
def fH (p q:Fq):Bool:=decide (p.1*q.2<q.1*p.2)
def Sm2 (p:Fq):Prop:=Smk p.1/\Smk p.2
theorem nJ {H:Hp}{p:Fq}{v:V} (d:Den H (ppT p) v):∃ a,v=.ref a/\H a=some (.tup [.int p.1,.int p.2]):=pD d
theorem kw {H:Hp}{s:Sq}{v:V} (d:Den H (ssT s) v):∃ c a b,v=.ref c/\H c=some (.tup [.ref a,.ref b])/\H a=some (.tup [.int s.1.1,.int s.1.2])/\H b=some (.tup [.int s.2.1,.int s.2.2]):=by
 obtain⟨c,xs,rfl,h,y,ys,rfl,d1,z,zs,rfl,d2,e⟩:=d
 have e':zs = []:=e
 subst e'
 obtain⟨a,rfl,ha⟩:=nJ d1
 obtain⟨b,rfl,hb⟩:=nJ d2
 exact⟨c,a,b,rfl,h,ha,hb⟩
def mx:Sp:=λ vs H Q _=>∃ (f g:Addr) (p q:Fq),vs = [.ref f,.ref g]/\H f=some (.tup [.int p.1,.int p.2])/\H g=some (.tup [.int q.1,.int q.2])/\Sm2 p/\Sm2 q/\Q (.bl (fH p q)) H
theorem Ar:aA ["one","other"] ["one","other"] (ag k6):=⟨rfl,rfl,rfl,by decide +kernel,rfl,by decide +kernel,by decide +kernel⟩
theorem AK {f:Addr}{fd:FuncData} (F:Fun K "under" "under" k6 f fd) (T:Txt mg):ax P w K mg base CX0 1 f fd ["one","other"] mx:=by
 refine F.ok Ar (λ vs H Q E h=>?_) (λ cdv A outer s H vs Q E hr h=>?_)
 ·obtain⟨f,g,p,q,rfl,_⟩:=h
  rfl
 obtain⟨f,g,p,q,rfl,h1,h2,t,u,k⟩:=h
 refine⟨_,(ah (aB (gy jf (ar bB (am aq (pv 0) ae (λ _ _=>rfl)) (am aq (pv 1) ae (λ _ _=>rfl))) (ar bB (am aq (pv 1) ae (λ _ _=>rfl)) (am aq (pv 0) ae (λ _ _=>rfl))) (aL _)))),?_⟩
 exact⟨_,rfl,f,_,0,_,rfl,rfl,SqT.of h1,at0,_,rfl,g,_,1,_,rfl,rfl,SqT.of h2,at1,_,_,rfl,rfl,⟨t.1,u.2⟩,_,rfl,g,_,0,_,rfl,rfl,SqT.of h2,at0,_,rfl,f,_,1,_,rfl,rfl,SqT.of h1,at1,_,_,rfl,rfl,⟨u.1,t.2⟩,_,_,rfl,rfl,k⟩
def vj (C:CA):Sp:=λ vs H Q E=>∃ (x:V) (t:Th),vs = [x]/\Den H t x/\(∀ s,st2 t=some s->Sm2 s.1/\Sm2 s.2)/\(∀ s,st2 t=some s->fH s.2 s.1=false->∀ p H',ak H H'->Den H' (ssT s) (.ref p)->Q (.ref p) H') /\
 ((∀ s,st2 t=some s->fH s.2 s.1=true)->∀ H',ak H H'->E (.ref C.NoRule) none H')
theorem qb:aA ["thing","low","high"] ["thing"] (ag k9):=⟨rfl,rfl,rfl,by decide +kernel,rfl,by decide +kernel,by decide +kernel⟩
theorem AO {C:CA}{f:Addr}{fd:FuncData} (F:Fun K "stretch_of" "stretch_of" k9 f fd) (T:Txt mg) (cf:CF K mg C) {frowof:Addr}{drowof:FuncData} (Growof:ax P w K mg base CX0 4 frowof drowof ["thing","count"] pW) (browof:aE K drowof ["thing","count"] []) (krowof:PySem.W.keepIn K (.ref frowof)=true) (mrowof:mg "is_row_of" = some (.ref frowof)) {fshare:Addr}{dshare:FuncData} (Gshare:ax P w K mg base CX0 4 fshare dshare ["thing"] re) (bshare:aE K dshare ["thing"] []) (kshare:PySem.W.keepIn K (.ref fshare)=true) (mshare:mg "is_share" = some (.ref fshare)) {fund:Addr}{dund:FuncData} (Gund:ax P w K mg base CX0 4 fund dund ["one","other"] mx) (bund:aE K dund ["one","other"] []) (kund:PySem.W.keepIn K (.ref fund)=true) (mund:mg "under" = some (.ref fund)):ax P w K mg base (CXX P w) 5 f fd ["thing"] (vj C):=by
 refine F.okX qb (λ vs H Q E h=>?_) (λ cdv A outer s H vs Q E hr h=>?_)
 ·obtain⟨x,t,rfl,_⟩:=h
  rfl
 obtain⟨x,t,rfl,d,hsm,q1,q2⟩:=h
 refine⟨_,(af (br (bK (a9 (aj Growof hr rfl mrowof krowof browof .nil aD (aa (pv 0) (aa ae ac))))) (ah (da d3 rfl cf.xNoRule rfl (aa bS ac))) aK)
  (af (au (i:=1) qb.nd rfl (Or.inl rfl) (am wF (pv 0) ae (λ _ _=>rfl)))
  (af (au (i:=2) qb.nd rfl (Or.inl rfl) (am wF (pv 0) ae (λ _ _=>rfl)))
  (af (br (PW.pt (cE (bK (a9 (aj Gshare hr rfl mshare kshare bshare .nil aD (aa (pv 1) ac)))) (cy (bK (a9 (aj Gshare hr rfl mshare kshare bshare .nil aD (aa (pv 2) ac))))))) (ah (da d3 rfl cf.xNoRule rfl (aa bS ac))) aK)
  (af (br (a9 (aj Gund hr rfl mund kund bund .nil aD (aa (pv 2) (aa (pv 1) ac)))) (ah (da d3 rfl cf.xNoRule rfl (aa bS ac))) aK)
  (ah (aB (aQ (aa (pv 1) (aa (pv 2) ac)))))))))),?_⟩
 have one:1<=sizeLine:=by decide
 refine⟨_,rfl,x,2,t,rfl,d,λ H1 s1=>⟨_,rfl,?_⟩⟩
 cases hr2:oG t 2 with
 | false =>
  refine bD ⟨one,q2 (λ s hs=>?_) _ s1⟩
  exfalso
  unfold st2 at hs
  unfold oG at hr2
  split at hs
  ·rename_i e
   rw[e] at hr2
   exact absurd hr2 (by simp)
  ·cases hs
 | true =>
  obtain⟨t0,t1,e2⟩:=yc hr2
  obtain⟨a,xs,rfl,sq,dd⟩:=rG e2 d
  obtain⟨y,ys,rfl,d0,z,zs,rfl,d1,e5⟩:=dd
  have e5':zs = []:=e5
  subst e5'
  refine aW ?_
  have sq1:=sq.keep s1
  have es:st2 t=(gX t0).bind λ p=>(gX t1).bind λ q=>some (p,q):=by unfold st2;rw[e2]
  refine⟨_,rfl,sq1.ix at0 ?_⟩
  refine⟨_,rfl,sq1.ix at1 ?_⟩
  refine⟨_,rfl,y,t0,rfl,d0.keep s1,_,rfl,?_⟩
  cases h0:cx t0 with
  | false =>
   refine bD (bD ⟨one,q2 (λ s hs=>?_) _ s1⟩)
   rw[es,rF h0] at hs
   cases hs
  | true =>
   refine aW ⟨_,rfl,z,t1,rfl,d1.keep s1,_,rfl,?_⟩
   cases h1:cx t1 with
   | false =>
    refine bD ⟨one,q2 (λ s hs=>?_) _ s1⟩
    obtain⟨p,_,ep⟩:=p9 h0
    rw[es,ep,rF h1] at hs
    cases hs
   | true =>
    refine aW ?_
    obtain⟨p,rfl,ep⟩:=p9 h0
    obtain⟨q,rfl,eq⟩:=p9 h1
    have e3:st2 t=some (p,q):=by rw[es,ep,eq];rfl
    obtain⟨m1,m2⟩:=hsm _ e3
    obtain⟨b,rfl,hb⟩:=nJ (d0.keep s1)
    obtain⟨c,rfl,hc⟩:=nJ (d1.keep s1)
    refine⟨_,rfl,_,rfl,c,b,q,p,rfl,hc,hb,m2,m1,_,rfl,?_⟩
    cases hu:fH q p with
    | true=>exact bD ⟨one,q2 (λ s hs=>by rw[e3] at hs;cases hs;exact hu) _ s1⟩
    | false =>
     refine aW ⟨_,rfl,_,rfl,(by show 2<=sizeLine;decide),λ m hm=>?_⟩
     have s2:=ai hm (.tup [V.ref b,V.ref c])
     exact q1 (p,q) e3 hu m _ (s1.trans s2) (uA ad (fU (s2 _ _ hb)) (fU (s2 _ _ hc)))
def CY (ps:List Sq):Prop:=∀ i p q,ps[i]? = some p->ps[i+1]? = some q->fH q.1 p.1=false/\fH q.2 p.2=false
structure gH (A S:Th) (n:Int) (ps:List Sq):Prop where
 a:A=.int n
 seq:∃ ts,dG S=some ts/\ts.map st2=ps.map some
 n1:1<=n
 n12:n<=12
 len:(ps.length:Int)=n+1
 inn:∀ p∈ps,fH p.2 p.1=false
 ris:CY ps
def ruT (n:Int) (ps:List Sq):Th:=.tup [.int n,.tup (ps.map ssT)]
theorem l4 {H:Hp}:∀ {ts:List Th}{xs:List V}{t:Th}{v:V},bH H ts xs->Den H t v->bH H (ts++[t]) (xs++[v])
 | [],xs,t,v,h,d=>by
  rw[show xs = [] from h]
  exact⟨v,[],rfl,d,rfl⟩
 | u::us,xs,t,v,⟨y,ys,e,d1,d2⟩,d=>by
  rw[e]
  exact⟨y,ys++[v],rfl,d1,l4 d2 d⟩
theorem wC {ts:List Th}{ps:List Sq}{i:Nat}{t:Th}{a:Sq} (h:(ts.take i).map st2=ps.map some) (e:ts[i]? = some t) (ha:st2 t=some a):(ts.take (i+1)).map st2=(ps++[a]).map some:=by
 rw[List.take_add_one,e,List.map_append,List.map_append,h]
 show _++[st2 t]=_
 rw[ha]
 rfl
theorem qi {ts:List Th}{ps:List Sq} (h:ts.map st2=ps.map some) {i:Nat}{t:Th} (e:ts[i]? = some t):∃ p,ps[i]? = some p/\st2 t=some p:=by
 have h1:(ts.map st2)[i]? = some (st2 t):=by rw[List.getElem?_map,e];rfl
 rw[h,List.getElem?_map] at h1
 cases q:ps[i]? with
 | none=>rw[q] at h1;cases h1
 | some p=>rw[q] at h1;exact⟨p,rfl,(Option.some.inj h1).symm⟩
theorem jC:∀ {ps qs:List Sq},ps.map some=qs.map some->ps=qs
 | [],[],_=>rfl
 | [],_::_,h=>by cases h
 | _::_,[],h=>by cases h
 | p::ps,q::qs,h=>by
  rw[List.map_cons,List.map_cons] at h
  injection h with h1 h2
  injection h1 with h1
  rw[h1,jC h2]
theorem kv {H:Hp}{l:Addr}{zs ws:List V} (hl:H l=some (.lst zs)):∀ {ts:List Th}{xs:List V},(∀ t∈ts,∃ p,t=ssT p)->bH H ts xs->bH (upd H l (.lst ws)) ts xs
 | [],_,_,h=>h
 | t::ts,xs,ht,⟨y,ys,e,d1,d2⟩=>by
  obtain⟨p,rfl⟩:=ht t (by simp)
  obtain⟨c,a,b,rfl,hc,ha,hb⟩:=kw d1
  have k:∀ {x o},H x=some (.tup o)->upd H l (.lst ws) x=some (.tup o):=λ h=>by rw[al (gE h hl (by intro z;cases z))];exact h
  exact⟨.ref c,ys,e,uA (k hc) (fU (k ha)) (fU (k hb)),kv hl (λ t' h'=>ht t' (by simp [h'])) d2⟩
def vk (C:CA):Sp:=λ vs H Q E=>∃ (x z:V) (A S:Th),vs = [x,z]/\Den H A x/\Den H S z/\(∀ ts,dG S=some ts->∀ t∈ts,∀ s,st2 t=some s->Sm2 s.1/\Sm2 s.2)/\(∀ n ps,gH A S n ps->∀ p H',ak H H'->Den H' (ruT n ps) (.ref p)->Q (.ref p) H') /\
 ((∀ n ps,¬ gH A S n ps)->∀ H',ak H H'->E (.ref C.NoRule) none H')
theorem f8:aA ["n","stretches","kept","ahead","behind"] ["n","stretches"] (ag eE):=⟨rfl,rfl,rfl,by decide +kernel,rfl,by decide +kernel,by decide +kernel⟩
theorem t8 {C:CA}{f:Addr}{fd:FuncData} (F:Fun K "rule_of" "rule_of" eE f fd) (T:Txt mg) (cf:CF K mg C) {fwhole:Addr}{dwhole:FuncData} (Gwhole:ax P w K mg base CX0 5 fwhole dwhole ["thing"] jq) (bwhole:aE K dwhole ["thing"] []) (kwhole:PySem.W.keepIn K (.ref fwhole)=true) (mwhole:mg "is_whole" = some (.ref fwhole)) {frowof:Addr}{drowof:FuncData} (Growof:ax P w K mg base CX0 5 frowof drowof ["thing","count"] pW) (browof:aE K drowof ["thing","count"] []) (krowof:PySem.W.keepIn K (.ref frowof)=true) (mrowof:mg "is_row_of" = some (.ref frowof)) {fstr:Addr}{dstr:FuncData} (Gstr:ax P w K mg base (CXX P w) 5 fstr dstr ["thing"] (vj C)) (bstr:aE K dstr ["thing"] []) (kstr:PySem.W.keepIn K (.ref fstr)=true) (mstr:mg "stretch_of" = some (.ref fstr)) {fund:Addr}{dund:FuncData} (Gund:ax P w K mg base CX0 5 fund dund ["one","other"] mx) (bund:aE K dund ["one","other"] []) (kund:PySem.W.keepIn K (.ref fund)=true) (mund:mg "under" = some (.ref fund)):ax P w K mg base (CXX P w) 6 f fd ["n","stretches"] (vk C):=by
 refine F.okX f8 (λ vs H Q E h=>?_) (λ cdv A outer s H vs Q E hr h=>?_)
 ·obtain⟨x,z,A',S',rfl,_⟩:=h
  rfl
 obtain⟨x,z,A',S',rfl,dA,dS,hsm,q1,q2⟩:=h
 refine⟨_,(af (br (PW.pt (cE (bK (a9 (aj Gwhole hr rfl mwhole kwhole bwhole .nil aD (aa (pv 0) ac)))) (cE (aG jf (pv 0) ae (aL _)) (cy (aG fR (pv 0) ae (aL _)))))) (ah (da d3 rfl cf.xNoRule rfl (aa bS ac))) aK)
  (af (br (bK (a9 (aj Growof hr rfl mrowof krowof browof .nil aD (aa (pv 1) (aa (ar aV (pv 0) ae) ac))))) (ah (da d3 rfl cf.xNoRule rfl (aa bS ac))) aK)
  (af (au (i:=2) f8.nd rfl (Or.inl rfl) (iV gG rfl T.tuple boot_tuple (aa (v9 (xs:=["stretch"]) (ts:=[]) Cj (λ _ _ h=>h) rfl ⟨rfl,u9,rfl,rfl,rfl,by decide +kernel,rfl,rfl⟩ (AD (pv 1)) (λ C s3 H3 fp=>(az (i:=0) (show (["stretch"]:List Str).Nodup by decide +kernel) rfl (Or.inl rfl) (Or.inr rfl))) (λ C s3 H3 fp=>fb) (λ C s3 H3 fp xe hx=>(aj Gstr hr rfl mstr kstr bstr .nil hx (aa (pv 0) ac)))) ac)))
  (af (bA PassesOwn.leaving rfl (yq rfl T.zip (aa (pv 2) (aa (cF p7 (pv 2) (dl ae) du) ac))) (fc rfl (aJ (az (i:=3) f8.nd rfl (Or.inl rfl)) (aJ (az (i:=4) f8.nd rfl (Or.inl rfl)) bO))) (ah (br (PW.pt (cE (a9 (aj Gund hr rfl mund kund bund .nil aD (aa (am aq (pv 4) ae (λ _ _=>rfl)) (aa (am aq (pv 3) ae (λ _ _=>rfl)) ac)))) (cy (a9 (aj Gund hr rfl mund kund bund .nil aD (aa (am aq (pv 4) ae (λ _ _=>rfl)) (aa (am aq (pv 3) ae (λ _ _=>rfl)) ac))))))) (ah (da d3 rfl cf.xNoRule rfl (aa bS ac))) aK)))
  (ah (aB (aQ (aa (pv 0) (aa (pv 2) ac))))))))),?_⟩
 have one:1<=sizeLine:=by decide
 refine⟨_,rfl,x,A',rfl,dA,_,rfl,?_⟩
 cases hA:isW A' with
 | false=>exact bD (bD ⟨one,q2 (λ n ps g=>by rw[g.a] at hA;cases hA) _ (ak.refl H)⟩)
 | true =>
 obtain⟨n,rfl⟩:=eT hA
 cases (show x=V.int n from dA)
 have gn:∀ {n' ps},gH (.int n) S' n' ps->n'=n:=λ g=>by
  have e:=g.a
  cases e
  rfl
 refine aW ⟨_,rfl,_,_,rfl,rfl,_,rfl,?_⟩
 refine fE (λ c=>bD ⟨one,q2 (λ n' ps g=>?_) _ (ak.refl H)⟩) (λ c1=>?_)
 ·cases gn g
  have:=of_decide_eq_true c
  have:=g.n1
  omega
 refine⟨_,rfl,_,_,rfl,rfl,_,rfl,?_⟩
 refine fE (λ c=>⟨one,q2 (λ n' ps g=>?_) _ (ak.refl H)⟩) (λ c2=>?_)
 ·cases gn g
  have:=of_decide_eq_true c
  have:=g.n12
  omega
 have k1:¬ n<1:=ofD c1
 have k2:¬ (12:Int)<n:=ofD c2
 refine⟨_,rfl,_,rfl,_,_,rfl,rfl,z,n+1,S',rfl,dS,λ H1 s1=>⟨_,rfl,?_⟩⟩
 cases hR:oG S' (n+1) with
 | false =>
  refine bD ⟨one,q2 (λ n' ps g=>?_) _ s1⟩
  cases gn g
  obtain⟨ts,e1,e2⟩:=g.seq
  have l1:ts.length=ps.length:=by simpa using congrArg List.length e2
  have l2:=g.len
  unfold oG at hR
  rw[e1] at hR
  exact absurd hR (by simp;omega)
 | true =>
 refine aW ?_
 obtain⟨ts,es,lt⟩:=rO hR
 have hsm:=hsm ts es
 obtain⟨a,xs,rfl,sq,dd⟩:=rG es dS
 have lx:=dd.len
 have sq1:=sq.keep s1
 have dd1:=dd.keep s1
 refine⟨_,rfl,a,xs,rfl,?_⟩
 refine vF sq1 (Nat.le_of_lt (m8 (by omega))) (λ D i ws H2=>∃ ps:List Sq,(ts.take i).map st2=ps.map some/\(∀ p∈ps,fH p.2 p.1=false)/\bH H2 (ps.map ssT) ws) (λ D hD=>⟨[],rfl,(λ p hp=>absurd hp (by simp)),rfl⟩) ?_ ?_
 ·rintro D i v ws H2 k hD hv sm e hl ⟨ps,m1,m2,m3⟩ hk
  have hi:=(List.getElem?_eq_some_iff.mp hv).1
  have et:=List.getElem?_eq_getElem (show i<ts.length by omega)
  obtain⟨v',f1,f2⟩:=(dd1.keep sm).get et
  rw[hv] at f1
  cases f1
  refine⟨_,rfl,v,_,rfl,f2,hsm _ (List.getElem_mem _),λ b hb hin p H3 s3 hp=>hk _ _ s3 ⟨ps++[b],wC m1 et hb,λ p' hp'=>?_,?_⟩,λ hbad H3 s3=>q2 (λ n' ps' g=>?_) _ ((s1.trans sm).trans s3)⟩
  ·rcases List.mem_append.mp hp' with y | y
   ·exact m2 p' y
   ·rw[List.mem_singleton.mp y];exact hin
  ·rw[List.map_append]
   exact kv (s3 _ _ e) (λ p' hp'=>by
    rcases List.mem_append.mp hp' with y | y
    ·obtain⟨q,_,rfl⟩:=List.mem_map.mp y;exact⟨q,rfl⟩
    ·exact⟨b,List.mem_singleton.mp y⟩) (l4 (m3.keep s3) hp)
  ·obtain⟨ts',e1,e2⟩:=g.seq
   rw[es] at e1
   cases e1
   obtain⟨p,y1,y2⟩:=qi e2 et
   have:=hbad p y2
   rw[g.inn p (List.mem_of_getElem? y1)] at this
   cases this
 rintro D ws H2 hD s2 hD2 hlw ⟨ps,m1,m2,m3⟩
 rw[List.take_of_length_le (by omega)] at m1
 have lp:ts.length=ps.length:=by simpa using congrArg List.length m1
 have psm:∀ p∈ps,Sm2 p.1/\Sm2 p.2:=λ p hp=>by
  obtain⟨i,hi⟩:=List.mem_iff_getElem?.mp hp
  have hi':=(List.getElem?_eq_some_iff.mp hi).1
  have et:=List.getElem?_eq_getElem (show i<ts.length by omega)
  obtain⟨p',y1,y2⟩:=qi m1 et
  rw[hi] at y1
  cases y1
  exact hsm _ (List.getElem_mem _) p y2
 refine⟨D,ws,rfl,.inl ⟨SqL.of hD2,λ t ht=>?_⟩⟩
 have s3:=ai ht (.tup ws)
 have r3:=m3.keep s3
 have t3:(upd H2 t (.tup ws)) t=some (.tup ws):=ad
 have s13:=(s1.trans s2).trans s3
 generalize hH3:upd H2 t (.tup ws)=H3 at *
 have hcut:¬ (HT.sIx ws.length 0 (some 1)=0/\HT.sIx ws.length ws.length none=ws.length):=by
  rw[show (1:Int)=((1:Nat):Int) from rfl,HT.gv]
  omega
 refine⟨_,rfl,_,rfl,_,rfl,t,ws,rfl,SqT.of t3,hcut,λ m hm=>?_⟩
 rw[ky (by omega)]
 have s4:=ai hm (.tup (ws.drop 1))
 refine⟨t,m,rfl,⟨_,SqT.of (s4 _ _ t3)⟩,⟨_,SqT.of ad⟩,?_⟩
 have m4:(upd H3 m (.tup (ws.drop 1))) m=some (.tup (ws.drop 1)):=ad
 have r4:=r3.keep s4
 have t4:=s4 _ _ t3
 generalize hH4:upd H3 m (.tup (ws.drop 1))=H4 at *
 have pin:∀ {n' ps'},gH (.int n) S' n' ps'->ps'=ps:=λ g=>by
  obtain⟨ts',e1,e2⟩:=g.seq
  rw[es] at e1
  cases e1
  exact jC (e2.symm.trans m1)
 refine xf (n:=ws.length-1) (xs:=ws) (ys:=ws.drop 1) (λ i σ H'=>ak H4 H'/\(∀ j,j<i->∀ p q,ps[j]? = some p->ps[j+1]? = some q->fH q.1 p.1=false/\fH q.2 p.2=false)/\∃ v1 v2,σ = [some (.int n),some (.ref a),some (.ref t),v1,v2]) ⟨ak.refl H4,λ j hj=>absurd hj (by omega),none,none,rfl⟩ (by omega) (by simp) (.inr (by simp)) ?_ ?_ ?_
 ·rintro i σ H' hi ⟨sm,_⟩
  exact⟨SqT.of (sm _ _ t4),SqT.of (sm _ _ m4)⟩
 ·rintro i u v U σ H' hi hu hv hU ⟨sm,hj,v1,v2,rfl⟩
  have ep:=List.getElem?_eq_getElem (show i<ps.length by omega)
  have ep2:=List.getElem?_eq_getElem (show i+1<ps.length by omega)
  obtain⟨w1,f1,g1⟩:=(r4.keep sm).get (i:=i) (t:=ssT ps[i]) (by rw[List.getElem?_map,ep];rfl)
  obtain⟨w2,f2,g2⟩:=(r4.keep sm).get (i:=i+1) (t:=ssT ps[i+1]) (by rw[List.getElem?_map,ep2];rfl)
  rw[hu] at f1
  cases f1
  rw[List.getElem?_drop,Nat.add_comm,f2] at hv
  cases hv
  obtain⟨b,bl,bh,rfl,b2,b3,b4⟩:=kw g1
  obtain⟨c,cl,ch,rfl,c2',c3,c4⟩:=kw g2
  have sU:=ai hU (.tup [.ref b,.ref c])
  have z1:=psm _ (List.mem_of_getElem? ep)
  have z2:=psm _ (List.mem_of_getElem? ep2)
  refine⟨U,_,rfl,SqT.of ad,rfl,.ref b,[.ref c],rfl,.ref c,[],rfl,rfl,?_⟩
  have b2:=sU _ _ b2
  have b3:=sU _ _ b3
  have b4:=sU _ _ b4
  have c2':=sU _ _ c2'
  have c3:=sU _ _ c3
  have c4:=sU _ _ c4
  refine⟨_,rfl,c,_,0,_,rfl,rfl,SqT.of c2',at0,_,rfl,b,_,0,_,rfl,rfl,SqT.of b2,at0,cl,bl,_,_,rfl,c3,b3,z2.1,z1.1,_,rfl,?_⟩
  cases u1:fH ps[i+1].1 ps[i].1 with
  | true =>
   refine bD (bD ⟨one,q2 (λ n' ps' g=>?_) _ ((((s13.trans s4).trans sm)).trans sU)⟩)
   have y:=g.ris
   rw[pin g] at y
   have y':=(y i _ _ ep ep2).1
   rw[u1] at y'
   cases y'
  | false =>
  refine aW ⟨_,rfl,c,_,1,_,rfl,rfl,SqT.of c2',at1,_,rfl,b,_,1,_,rfl,rfl,SqT.of b2,at1,ch,bh,_,_,rfl,c4,b4,z2.2,z1.2,_,rfl,?_⟩
  cases u2:fH ps[i+1].2 ps[i].2 with
  | true =>
   refine bD ⟨one,q2 (λ n' ps' g=>?_) _ ((((s13.trans s4).trans sm)).trans sU)⟩
   have y:=g.ris
   rw[pin g] at y
   have y':=(y i _ _ ep ep2).2
   rw[u2] at y'
   cases y'
  | false =>
  refine aW ⟨sm.trans sU,λ j hj' p q hp hq=>?_,_,_,rfl⟩
  by_cases ej:j<i
  ·exact hj j ej p q hp hq
  ·have:j=i:=by omega
   subst this
   rw[ep] at hp
   rw[ep2] at hq
   cases hp
   cases hq
   exact⟨u1,u2⟩
 ·rintro σ H' ⟨sm,hj,v1,v2,rfl⟩
  refine⟨_,rfl,_,rfl,(by show 2<=sizeLine;decide),λ x hx=>?_⟩
  have s5:=ai hx (.tup [V.int n,V.ref t])
  have gd:gH (.int n) S' n ps:=⟨rfl,⟨ts,es,m1⟩,by omega,by omega,by omega,m2,λ i p q hp hq=>hj i (by have:=(List.getElem?_eq_some_iff.mp hq).1;omega) p q hp hq⟩
  exact q1 n ps gd x _ (((s13.trans s4).trans sm).trans s5) ⟨x,_,rfl,ad,_,_,rfl,rfl,_,_,rfl,⟨t,ws,rfl,s5 _ _ (sm _ _ t4),(r4.keep sm).keep s5⟩,rfl⟩
theorem rK:aA ["_law_one","_law_other","_law_rest"] ["_law_one","_law_other"] (ag tN):=⟨rfl,rfl,rfl,by decide +kernel,rfl,by decide +kernel,by decide +kernel⟩
theorem B3 {f:Addr}{fd:FuncData} (F:Fun K "_law_divisor" "_law_divisor" tN f fd) (T:Txt mg):ax P w K mg base CX0 1 f fd ["_law_one","_law_other"] vt:=by
 refine F.ok rK (λ vs H Q E h=>?_) (λ cdv A outer s H vs Q E hr h=>?_)
 ·obtain⟨a,b,rfl,_⟩:=h
  rfl
 obtain⟨a,b,rfl,ha,hb,q⟩:=h
 refine⟨_,(af (g9 PassesOwn.never (aG j9 (pv 1) ae (aL _)) (af (au (i:=2) rK.nd rfl (Or.inl rfl) (ar cn (pv 0) (pv 1)))
   (af (au (i:=0) rK.nd rfl (Or.inl rfl) (pv 1))
   (ah (au (i:=1) rK.nd rfl (Or.inl rfl) (pv 2))))))
  (ah (aB (pv 0)))),?_⟩
 refine nZ (λ σ H'=>H'=H/\∃ x y v,σ = [some (.int x),some (.int y),v]/\0<=x/\0<=y/\Int.gcd x y=Int.gcd a b) (λ σ _=>mu2 σ) ⟨rfl,a,b,none,rfl,ha,hb,rfl⟩ ?_ ?_
 ·rintro σ H' ⟨rfl,x,y,v,rfl,hx,hy,g⟩
  refine⟨_,rfl,rfl,_,rfl,?_⟩
  refine fE (λ c=>?_) (λ c=>?_)
  ·have c':y≠0:=by rintro rfl;exact absurd c (by decide)
   have hm:=Int.emod_nonneg x c'
   have hl:=Int.emod_lt_of_pos x (show 0<y by omega)
   refine⟨_,rfl,_,rfl,_,_,rfl,rfl,(by show 0<y;omega),_,rfl,_,rfl,?_⟩
   refine⟨⟨rfl,y,x%y,some (.int (x%y)),rfl,hy,hm,by rw[zX hx hy c'];exact g⟩,?_⟩
   show (x%y).toNat<y.toNat
   omega
  ·have c':y=0:=by
    by_cases z:y=0
    ·exact z
    ·exact absurd (show (!decide (V.int y=V.int 0))=true by rw[decide_eq_false (λ w=>z (by injection w))];rfl) c
   subst c'
   refine⟨_,rfl,?_⟩
   rw[<-g,Ci hx] at q
   exact q
 ·intro σ H Q Q' hq h
  obtain⟨v,e,h1,k,e2,h2⟩:=h
  exact⟨v,e,h1,k,e2,hq _ _ h2⟩
def pY (K:PySem.W.Frag):Sp:=λ vs H Q _=>∃ (a:Addr) (ns:List Int) (k:Int),vs = [.ref a,.int k]/\SqL K H a (ns.map V.int)/\0<=k/\Q (.int (ns.getD k.toNat 0)) H
theorem x0:aA ["_law_script","_law_k"] ["_law_script","_law_k"] (ag iP):=⟨rfl,rfl,rfl,by decide +kernel,rfl,by decide +kernel,by decide +kernel⟩
theorem yG {f:Addr}{fd:FuncData} (F:Fun K "_law_cell_at" "_law_cell_at" iP f fd) (T:Txt mg):ax P w K mg base CX0 1 f fd ["_law_script","_law_k"] (pY K):=by
 refine F.ok x0 (λ vs H Q E h=>?_) (λ cdv A outer s H vs Q E hr h=>?_)
 ·obtain⟨a,ns,k,rfl,_⟩:=h
  rfl
 obtain⟨a,ns,k,rfl,hS,h0,q⟩:=h
 refine⟨_,(af (br (aG jf (pv 1) (aO aS rfl T.len boot_len (aa (pv 0) ac)) (aL _)) (ah (aB (am bf (pv 0) (pv 1) (λ _ _=>rfl)))) aK)
  (ah (aB ae))),?_⟩
 have hl:(ns.map V.int).length=ns.length:=List.length_map _
 refine⟨_,rfl,_,rfl,a,_,rfl,.inl hS,_,_,rfl,rfl,_,rfl,?_⟩
 refine fE (λ c=>?_) (λ c=>?_)
 ·have c':k<(((ns.map V.int).length:Nat):Int):=of_decide_eq_true c
  rw[hl] at c'
  exact⟨_,rfl,_,rfl,a,_,k,_,rfl,rfl,hS,ce h0 c',q⟩
 ·have c':=ofD c
  rw[hl] at c'
  rw[wU (by omega)] at q
  exact q
def qy:Th->Th->Option (Int×Int)
 | .int a,.int b=>if b=0 then none else some (a,b)
 | _,_=>none
theorem ko {tx ty:Th}{a b:Int} (h:qy tx ty=some (a,b)):tx=.int a/\ty=.int b/\b≠0:=by
 unfold qy at h
 split at h
 ·split at h
  ·cases h
  ·rename_i hz;cases h;exact⟨rfl,rfl,hz⟩
 ·cases h
theorem w8 {tx ty:Th} (h:isW tx=false):qy tx ty=none:=by
 cases tx<;>first | rfl | cases h
theorem w6 {tx ty:Th} (h:isW ty=false):qy tx ty=none:=by
 cases tx<;>cases ty<;>first | rfl | cases h
theorem km {a b:Int} (h:b≠0):qy (.int a) (.int b)=some (a,b):=if_neg h
def fJ (C:CA):Sp:=λ vs H Q E=>∃ x y tx ty,vs = [x,y]/\Den H tx x/\Den H ty y /\
 (∀ a b,qy tx ty=some (a,b)->Smk b/\∀ p,H p=none->Q (.ref p) (upd H p (.tup [.int (frT a b),.int (frB a b)])))/\(qy tx ty=none->E (.ref C.NoNumber) none H)
theorem rl {a b:Int} (h:b≠0) (sb:Smk b):Smk (frD a b):=by
 have h1:(frD a b).natAbs=Int.gcd a b:=by unfold frD;split<;>omega
 have h2:Int.gcd a b<=b.natAbs:=Nat.le_of_dvd (by omega) (Nat.gcd_dvd_right ..)
 exact Nat.lt_of_le_of_lt (by rw[h1];exact h2) sb
theorem yU (a b:Int):(Int.gcd (if a<0 then -a else a) (if b<0 then -b else b):Int)=Int.gcd a b:=by rw[CT]
theorem mO:aA ["top","bottom","divisor"] ["top","bottom"] (ag iO):=⟨rfl,rfl,rfl,by decide +kernel,rfl,by decide +kernel,by decide +kernel⟩
theorem yF {C:CA}{f:Addr}{fd:FuncData} (F:Fun K "fraction" "fraction" iO f fd) (T:Txt mg) (cf:CF K mg C) {fwhole:Addr}{dwhole:FuncData} (Gwhole:ax P w K mg base CX0 2 fwhole dwhole ["thing"] jq) (bwhole:aE K dwhole ["thing"] []) (kwhole:PySem.W.keepIn K (.ref fwhole)=true) (mwhole:mg "is_whole" = some (.ref fwhole)) {fcd:Addr}{dcd:FuncData} (Gcd:ax P w K mg base CX0 2 fcd dcd ["one","other"] vt) (bcd:aE K dcd ["one","other"] []) (kcd:PySem.W.keepIn K (.ref fcd)=true) (mcd:mg "common_divisor" = some (.ref fcd)):ax P w K mg base (CXX P w) 3 f fd ["top","bottom"] (fJ C):=by
 refine F.okX mO (λ vs H Q E h=>?_) (λ cdv A outer s H vs Q E hr h=>?_)
 ·obtain⟨x,y,tx,ty,rfl,_⟩:=h
  rfl
 obtain⟨x,y,tx,ty,rfl,d1,d2,q1,q2⟩:=h
 refine⟨_,(af (br (PW.pt (cE (bK (a9 (aj Gwhole hr rfl mwhole kwhole bwhole .nil aD (aa (pv 0) ac)))) (cy (bK (a9 (aj Gwhole hr rfl mwhole kwhole bwhole .nil aD (aa (pv 1) ac))))))) (ah (da d3 rfl cf.xNoNumber rfl (aa bS ac))) aK)
  (af (br (aG gD (pv 1) ae (aL _)) (ah (da d3 rfl cf.xNoNumber rfl (aa bS ac))) aK)
  (af (au (i:=2) mO.nd rfl (Or.inl rfl) (aj Gcd hr rfl mcd kcd bcd .nil aD (aa (aO pJ rfl T.abs boot_abs (aa (pv 0) ac)) (aa (aO pJ rfl T.abs boot_abs (aa (pv 1) ac)) ac))))
  (af (br (aG jf (pv 1) ae (aL _)) (ah (au (i:=2) mO.nd rfl (Or.inl rfl) (jY gI (pv 2)))) aK)
  (ah (aB (aQ (aa (ar eL (pv 0) (pv 2)) (aa (ar eL (pv 1) (pv 2)) ac))))))))),?_⟩
 refine⟨_,rfl,x,tx,rfl,d1,_,rfl,?_⟩
 cases hx:isW tx with
 | false=>exact bD (bD ⟨(by show 1<=sizeLine;decide),q2 (w8 hx)⟩)
 | true =>
  refine aW ?_
  refine⟨_,rfl,y,ty,rfl,d2,_,rfl,?_⟩
  cases hy:isW ty with
  | false=>exact bD ⟨(by show 1<=sizeLine;decide),q2 (w6 hy)⟩
  | true =>
   refine aW ?_
   obtain⟨a,rfl⟩:=eT hx
   obtain⟨b,rfl⟩:=eT hy
   have d1':x=V.int a:=d1
   have d2':y=V.int b:=d2
   subst d1' d2'
   refine⟨_,rfl,rfl,_,rfl,?_⟩
   by_cases hb:b=0
   ·subst hb
    exact bD ⟨(by show 1<=sizeLine;decide),q2 rfl⟩
   refine fE (λ c=>absurd (by have:=of_decide_eq_true c;injection this) hb) (λ _=>?_)
   obtain⟨sb,q⟩:=q1 a b (km hb)
   have sd:=rl (a:=a) hb sb
   have nd:=nD (t:=a) hb
   have ha:0<=(if a<0 then -a else a):=by split<;>omega
   have hb':0<=(if b<0 then -b else b):=by split<;>omega
   refine⟨_,rfl,_,rfl,_,rfl,_,rfl,_,_,rfl,ha,hb',?_⟩
   rw[yU]
   refine⟨_,rfl,_,_,rfl,rfl,_,rfl,?_⟩
   refine fE (λ c=>?_) (λ c=>?_)
   ·have c':b<0:=of_decide_eq_true c
    have e:frD a b = -(Int.gcd a b:Int):=if_pos c'
    rw[e] at sd nd
    refine⟨_,rfl,_,rfl,?_⟩
    refine⟨_,rfl,_,rfl,_,_,rfl,rfl,⟨nd,sd⟩,_,rfl,_,rfl,_,_,rfl,rfl,⟨nd,sd⟩,(by show 2<=sizeLine;decide),λ p hp=>?_⟩
    have z:=q p hp
    unfold frT frB at z
    rw[e] at z
    exact z
   ·have c':¬ b<0:=ofD c
    have e:frD a b=(Int.gcd a b:Int):=if_neg c'
    rw[e] at sd nd
    refine⟨_,rfl,_,rfl,_,_,rfl,rfl,⟨nd,sd⟩,_,rfl,_,rfl,_,_,rfl,rfl,⟨nd,sd⟩,(by show 2<=sizeLine;decide),λ p hp=>?_⟩
    have z:=q p hp
    unfold frT frB at z
    rw[e] at z
    exact z
def jk (H:Hp) (r:Rat) (Q:VK):Prop:=∀ a H',ak H H'->H' a=some (.tup [.int r.num,.int (r.den:Int)])->Q (.ref a) H'
def Cq (H:Hp) (t b:Int) (Q:VK):Prop:=∀ p,H p=none->Q (.ref p) (upd H p (.tup [.int (frT t b),.int (frB t b)]))
theorem dL {C:CA}{H:Hp}{Q:VK}{E:XK}{t b:Int} (hb:b≠0) (sb:Smk b) (q:Cq H t b Q):fJ C [.int t,.int b] H Q E:=by
 refine⟨_,_,.int t,.int b,rfl,rfl,rfl,λ a b' e=>?_,λ e=>?_⟩
 ·obtain⟨e1,e2,_⟩:=ko e
  cases e1;cases e2
  exact⟨sb,q⟩
 ·rw[km hb] at e;cases e
theorem fI {H:Hp}{t b:Int}{r:Rat}{Q:VK} (e:frT t b=r.num/\frB t b=(r.den:Int)) (q:jk H r Q):Cq H t b Q:=λ x hx=>by
 refine q x _ (ai hx _) ?_
 rw[ad,e.1,e.2]
structure FrA (H:Hp) (f:Addr) (r:Rat):Prop where
 ob:H f=some (.tup [.int r.num,.int (r.den:Int)])
 st:Sz 4400 r.num
 sb:Sz 4400 (r.den:Int)
theorem FrA.keep {H H':Hp}{f:Addr}{r:Rat} (h:FrA H f r) (s:ak H H'):FrA H' f r:=⟨s _ _ h.ob,h.st,h.sb⟩
def vv (g:Rat->Rat->Rat):Sp:=λ vs H Q _=>∃ f h r s,vs = [.ref f,.ref h]/\FrA H f r/\FrA H h s/\jk H (g r s) Q
abbrev vn:Sp:=vv λ r s=>r+s
abbrev rf:Sp:=vv λ r s=>r-s
theorem xX:aA ["one","other"] ["one","other"] (ag iL):=⟨rfl,rfl,rfl,by decide +kernel,rfl,by decide +kernel,by decide +kernel⟩
theorem yC {C:CA}{f:Addr}{fd:FuncData} (F:Fun K "plus" "plus" iL f fd) (T:Txt mg) {ffrac:Addr}{dfrac:FuncData} (Gfrac:ax P w K mg base (CXX P w) 3 ffrac dfrac ["top","bottom"] (fJ C)) (bfrac:aE K dfrac ["top","bottom"] []) (kfrac:PySem.W.keepIn K (.ref ffrac)=true) (mfrac:mg "fraction" = some (.ref ffrac)):ax P w K mg base CX0 4 f fd ["one","other"] vn:=by
 refine F.ok xX (λ vs H Q E h=>?_) (λ cdv A outer s H vs Q E hr h=>?_)
 ·obtain⟨f,g,r,s,rfl,_⟩:=h
  rfl
 obtain⟨f,g,r,s,rfl,t,u,q⟩:=h
 refine⟨_,(ah (aB (aj Gfrac hr rfl mfrac kfrac bfrac .nil jZ (aa (ar aV (ar bB (am aq (pv 0) ae (λ _ _=>rfl)) (am aq (pv 1) ae (λ _ _=>rfl))) (ar bB (am aq (pv 1) ae (λ _ _=>rfl)) (am aq (pv 0) ae (λ _ _=>rfl)))) (aa (ar bB (am aq (pv 0) ae (λ _ _=>rfl)) (am aq (pv 1) ae (λ _ _=>rfl))) ac))))),?_⟩
 refine⟨_,rfl,f,_,0,_,rfl,rfl,SqT.of t.ob,at0,_,rfl,g,_,1,_,rfl,rfl,SqT.of u.ob,at1,_,_,rfl,rfl,⟨t.st.smk (by decide),u.sb.smk (by decide)⟩,_,rfl,g,_,0,_,rfl,rfl,SqT.of u.ob,at0,_,rfl,f,_,1,_,rfl,rfl,SqT.of t.ob,at1,_,_,rfl,rfl,⟨u.st.smk (by decide),t.sb.smk (by decide)⟩,_,_,rfl,rfl,?_⟩
 refine⟨_,rfl,f,_,1,_,rfl,rfl,SqT.of t.ob,at1,_,rfl,g,_,1,_,rfl,rfl,SqT.of u.ob,at1,_,_,rfl,rfl,⟨t.sb.smk (by decide),u.sb.smk (by decide)⟩,?_⟩
 exact dL (fS (fP r) (fP s)) ((t.sb.mul u.sb).smk (by decide)) (fI (sJ r s) q)
theorem vM:aA ["one","other"] ["one","other"] (ag gq):=⟨rfl,rfl,rfl,by decide +kernel,rfl,by decide +kernel,by decide +kernel⟩
theorem wq {C:CA}{f:Addr}{fd:FuncData} (F:Fun K "minus" "minus" gq f fd) (T:Txt mg) {ffrac:Addr}{dfrac:FuncData} (Gfrac:ax P w K mg base (CXX P w) 3 ffrac dfrac ["top","bottom"] (fJ C)) (bfrac:aE K dfrac ["top","bottom"] []) (kfrac:PySem.W.keepIn K (.ref ffrac)=true) (mfrac:mg "fraction" = some (.ref ffrac)):ax P w K mg base CX0 4 f fd ["one","other"] rf:=by
 refine F.ok vM (λ vs H Q E h=>?_) (λ cdv A outer s H vs Q E hr h=>?_)
 ·obtain⟨f,g,r,s,rfl,_⟩:=h
  rfl
 obtain⟨f,g,r,s,rfl,t,u,q⟩:=h
 refine⟨_,(ah (aB (aj Gfrac hr rfl mfrac kfrac bfrac .nil jZ (aa (ar ck (ar bB (am aq (pv 0) ae (λ _ _=>rfl)) (am aq (pv 1) ae (λ _ _=>rfl))) (ar bB (am aq (pv 1) ae (λ _ _=>rfl)) (am aq (pv 0) ae (λ _ _=>rfl)))) (aa (ar bB (am aq (pv 0) ae (λ _ _=>rfl)) (am aq (pv 1) ae (λ _ _=>rfl))) ac))))),?_⟩
 refine⟨_,rfl,f,_,0,_,rfl,rfl,SqT.of t.ob,at0,_,rfl,g,_,1,_,rfl,rfl,SqT.of u.ob,at1,_,_,rfl,rfl,⟨t.st.smk (by decide),u.sb.smk (by decide)⟩,_,rfl,g,_,0,_,rfl,rfl,SqT.of u.ob,at0,_,rfl,f,_,1,_,rfl,rfl,SqT.of t.ob,at1,_,_,rfl,rfl,⟨u.st.smk (by decide),t.sb.smk (by decide)⟩,_,_,rfl,rfl,?_⟩
 refine⟨_,rfl,f,_,1,_,rfl,rfl,SqT.of t.ob,at1,_,rfl,g,_,1,_,rfl,rfl,SqT.of u.ob,at1,_,_,rfl,rfl,⟨t.sb.smk (by decide),u.sb.smk (by decide)⟩,?_⟩
 exact dL (fS (fP r) (fP s)) ((t.sb.mul u.sb).smk (by decide)) (fI (pj r s) q)
structure Shp (H:Hp) (a:Addr) (p:Rat):Prop where
 ob:H a=some (.tup [.int p.num,.int (p.den:Int)])
 lo:0<=p
 hi:p<=1
 sz:Sz 300 (p.den:Int)
theorem Shp.keep {H H':Hp}{a:Addr}{p:Rat} (h:Shp H a p) (s:ak H H'):Shp H' a p:=⟨s _ _ h.ob,h.lo,h.hi,h.sz⟩
theorem p8 {m:Nat}{t b:Int} (h0:0<=t) (h1:t<=b) (hb:0<b) (sb:Sz m b):Sz m ((rq t b).den:Int):=by
 have hq : (b : Rat) ≠ 0 := by intro e; have : b = 0 := by exact_mod_cast e
                               omega
 have er:rq t b*(b:Rat)=(t:Rat):=by unfold rq;grind
 obtain⟨f1,f2⟩:=ef (Int.ne_of_gt hb) er
 rw[<-f2]
 exact (Sz.fr (Int.ne_of_gt hb) (qY h0 h1 sb) sb).2
theorem B9:(1000000000000000000000000000000000000000000000000000000000000:Nat)<2^300:=by decide +kernel
theorem zy {i:Int} (h:i.natAbs<=1000000000000000000000000000000000000000000000000000000000000):Sz 300 i:=Nat.lt_of_le_of_lt h B9
theorem Shp.num {H:Hp}{a:Addr}{p:Rat} (h:Shp H a p):0<=p.num/\p.num<=(p.den:Int):=⟨(eH p).mpr h.lo,(lR p).mpr h.hi⟩
theorem Shp.sn {H:Hp}{a:Addr}{p:Rat} (h:Shp H a p):Sz 300 p.num:=qY h.num.1 h.num.2 h.sz
def ShL (H:Hp):List Rat->List V->Prop
 | [],xs=>xs = []
 | r::rs,xs=>∃ a ys,xs=.ref a::ys/\Shp H a r/\ShL H rs ys
theorem ShL.keep {H H':Hp} (s:ak H H'):∀ {rs:List Rat}{xs:List V},ShL H rs xs->ShL H' rs xs
 | [],_,h=>h
 | _::_,_,⟨a,ys,e,h1,h2⟩=>⟨a,ys,e,h1.keep s,h2.keep s⟩
theorem ShL.len {H:Hp}:∀ {rs:List Rat}{xs:List V},ShL H rs xs->xs.length=rs.length
 | [],_,h=>by rw[show _ = [] from h];rfl
 | _::_,_,⟨a,ys,e,h1,h2⟩=>by rw[e,List.length_cons,List.length_cons,h2.len]
theorem ShL.get {H:Hp}:∀ {rs:List Rat}{xs:List V}{i:Nat}{r:Rat},ShL H rs xs->rs[i]? = some r->∃ a,xs[i]? = some (.ref a)/\Shp H a r
 | _::_,_,0,r,⟨a,ys,e,h1,h2⟩,q=>by
  rw[List.getElem?_cons_zero] at q;cases q
  exact⟨a,by rw[e];rfl,h1⟩
 | _::_,_,i+1,r,⟨a,ys,e,h1,h2⟩,q=>by
  rw[List.getElem?_cons_succ] at q
  obtain⟨b,f,g⟩:=h2.get q
  exact⟨b,by rw[e,List.getElem?_cons_succ];exact f,g⟩
theorem ShL.app {H:Hp}:∀ {rs ss:List Rat}{xs ys:List V},ShL H rs xs->ShL H ss ys->ShL H (rs++ss) (xs++ys)
 | [],_,_,_,h,k=>by rw[show _ = [] from h];exact k
 | _::_,_,_,_,⟨a,zs,e,h1,h2⟩,k=>by rw[e];exact⟨a,_,rfl,h1,h2.app k⟩
theorem ShL.take {H:Hp}:∀ {rs:List Rat}{xs:List V} (n:Nat),ShL H rs xs->ShL H (rs.take n) (xs.take n)
 | [],_,n,h=>by rw[show _ = [] from h];simp [ShL]
 | _::_,_,0,_=>rfl
 | _::_,_,n+1,⟨a,zs,e,h1,h2⟩=>by rw[e];exact⟨a,_,rfl,h1,h2.take n⟩
theorem ShL.drop {H:Hp}:∀ {rs:List Rat}{xs:List V} (n:Nat),ShL H rs xs->ShL H (rs.drop n) (xs.drop n)
 | [],_,n,h=>by rw[show _ = [] from h];simp [ShL]
 | _::_,_,0,h=>h
 | _::_,_,n+1,⟨a,zs,e,h1,h2⟩=>by rw[e];exact h2.drop n
theorem eZ {H H1:Hp}{l:Addr}{o:HO} (s:ak H H1) (hl:H l=none):ak H (upd H1 l o):=λ b u e=>by rw[al (aC e hl)];exact s b u e
theorem ShL.write {H:Hp}{l:Addr}{zs ws:List V} (hl:H l=some (.lst zs)):∀ {rs:List Rat}{xs:List V},ShL H rs xs->ShL (upd H l (.lst ws)) rs xs
 | [],_,h=>h
 | _::_,_,⟨a,ys,e,h1,h2⟩=>⟨a,ys,e,⟨by rw[al (gE h1.ob hl (by intro z;cases z))];exact h1.ob,h1.lo,h1.hi,h1.sz⟩,h2.write hl⟩
def cK (H:Hp):List (Rat×Rat)->List V->Prop
 | [],xs=>xs = []
 | p::ps,xs=>∃ a la ha ys,xs=.ref a::ys/\H a=some (.tup [.ref la,.ref ha])/\Shp H la p.1/\Shp H ha p.2/\cK H ps ys
theorem cK.keep {H H':Hp} (s:ak H H'):∀ {ps:List (Rat×Rat)}{xs:List V},cK H ps xs->cK H' ps xs
 | [],_,h=>h
 | _::_,_,⟨a,la,ha,ys,e,h0,h1,h2,h3⟩=>⟨a,la,ha,ys,e,s _ _ h0,h1.keep s,h2.keep s,h3.keep s⟩
theorem cK.len {H:Hp}:∀ {ps:List (Rat×Rat)}{xs:List V},cK H ps xs->xs.length=ps.length
 | [],_,h=>by rw[show _ = [] from h];rfl
 | _::_,_,⟨a,la,ha,ys,e,h0,h1,h2,h3⟩=>by rw[e,List.length_cons,List.length_cons,h3.len]
theorem cK.get {H:Hp}:∀ {ps:List (Rat×Rat)}{xs:List V}{i:Nat}{p:Rat×Rat},cK H ps xs->ps[i]? = some p->∃ a la ha,xs[i]? = some (.ref a)/\H a=some (.tup [.ref la,.ref ha])/\Shp H la p.1/\Shp H ha p.2
 | _::_,_,0,p,⟨a,la,ha,ys,e,h0,h1,h2,h3⟩,q=>by
  rw[List.getElem?_cons_zero] at q;cases q
  exact⟨a,la,ha,by rw[e];rfl,h0,h1,h2⟩
 | _::_,_,i+1,p,⟨a,la,ha,ys,e,h0,h1,h2,h3⟩,q=>by
  rw[List.getElem?_cons_succ] at q
  obtain⟨b,lb,hb,f,g⟩:=h3.get q
  exact⟨b,lb,hb,by rw[e,List.getElem?_cons_succ];exact f,g⟩
theorem cK.app {H:Hp}:∀ {ps qs:List (Rat×Rat)}{xs ys:List V},cK H ps xs->cK H qs ys->cK H (ps++qs) (xs++ys)
 | [],_,_,_,h,k=>by rw[show _ = [] from h];exact k
 | _::_,_,_,_,⟨a,la,ha,zs,e,h0,h1,h2,h3⟩,k=>by rw[e];exact⟨a,la,ha,_,rfl,h0,h1,h2,h3.app k⟩
theorem Shp.write {H:Hp}{l a:Addr}{zs ws:List V}{r:Rat} (hl:H l=some (.lst zs)) (h:Shp H a r):Shp (upd H l (.lst ws)) a r :=
 ⟨by rw[al (gE h.ob hl (by intro z;cases z))];exact h.ob,h.lo,h.hi,h.sz⟩
theorem cK.write {H:Hp}{l:Addr}{zs ws:List V} (hl:H l=some (.lst zs)):∀ {ps:List (Rat×Rat)}{xs:List V},cK H ps xs->cK (upd H l (.lst ws)) ps xs
 | [],_,h=>h
 | _::_,_,⟨a,la,ha,ys,e,h0,h1,h2,h3⟩=>⟨a,la,ha,ys,e,by rw[al (gE h0 hl (by intro z;cases z))];exact h0,h1.write hl,h2.write hl,h3.write hl⟩
structure di (n:Nat) (ps:List (Rat×Rat)):Prop where
 n1:1<=n
 n12:n<=12
 len:ps.length=n+1
 lows:Up (ps.map (·.1))
 highs:Up (ps.map (·.2))
 le:∀ p∈ps,p.1<=p.2
structure cq (H:Hp) (x:Addr) (n:Nat) (ps:List (Rat×Rat)):Prop where
 ob:∃ t zs,H x=some (.tup [.int n,.ref t])/\H t=some (.tup zs)/\cK H ps zs
 ok:di n ps
theorem cq.keep {H H':Hp}{x:Addr}{n:Nat}{ps:List (Rat×Rat)} (h:cq H x n ps) (s:ak H H'):cq H' x n ps:=by
 obtain⟨⟨t,zs,a,b,c⟩,ok⟩:=h
 exact⟨⟨t,zs,s _ _ a,s _ _ b,c.keep s⟩,ok⟩
theorem bQ {t u:TS}{D:gC}{σ:St}{H:Hp} (P:St->Hp->Prop) (h1:∀ N:St->Hp->Prop,(∀ σ H,P σ H->N σ H)->t {D with nx:=N} σ H) (h2:∀ σ H,P σ H->u D σ H):BD t u D σ H:=h1 _ h2
def vm:Sp:=λ vs H Q _=>∃ (b t:Int) (m:Nat),vs = [.int b,.int t]/\Sz m b/\0<=t/\m*t.toNat+1<=8900/\m<=8900/\t<=1000/\Q (.int (b^t.toNat)) H
theorem mJ:aA ["base","count","product","turn"] ["base","count"] (ag lv):=⟨rfl,rfl,rfl,by decide +kernel,rfl,by decide +kernel,by decide +kernel⟩
theorem AS {f:Addr}{fd:FuncData} (F:Fun K "power" "power" lv f fd) (T:Txt mg):ax P w K mg base CX0 1 f fd ["base","count"] vm:=by
 refine F.ok mJ (λ vs H Q E h=>?_) (λ cdv A outer s H vs Q E hr h=>?_)
 ·obtain⟨b,t,m,rfl,_⟩:=h
  rfl
 obtain⟨b,t,m,rfl,sb,t0,t1,t2,t3,q⟩:=h
 refine⟨_,(af (au (i:=2) mJ.nd rfl (Or.inl rfl) ae)
  (af (bA PassesOwn.never rfl (aZ rfl T.range (aa (pv 1) ac)) (az (i:=3) mJ.nd rfl (Or.inl rfl)) (ah (au (i:=2) mJ.nd rfl (Or.inl rfl) (ar bB (pv 2) (pv 0)))))
  (ah (aB (pv 2))))),?_⟩
 refine⟨_,rfl,_,rfl,by omega,by omega,?_⟩
 refine bY (lo:=0) (λ i σ H'=>H'=H/\∃ v,σ = [some (.int b),some (.int t),some (.int (b^i)),v]) ⟨rfl,none,by rw[Int.pow_zero]<;>rfl⟩ ?_ ?_
 ·rintro i σ H' hi ⟨rfl,v,rfl⟩
  refine⟨_,rfl,_,rfl,_,_,rfl,rfl,⟨(sb.powN i).smk (Nat.le_trans (Nat.add_le_add_right (Nat.mul_le_mul_left m (Nat.le_of_lt hi)) 1) t1),sb.smk t2⟩,rfl,some (.int (0+(i:Int))),?_⟩
  rw[Int.pow_succ]<;>rfl
 ·rintro σ H' ⟨rfl,v,rfl⟩
  exact⟨_,rfl,q⟩
theorem zn {n k:Nat} (h:k<=n):cho (n:Int) (k:Int)=(aP n k:Int):=by
 rw[xq (by omega) (by omega)]<;>rfl
theorem Shp.sd {H:Hp}{a:Addr}{p:Rat} (h:Shp H a p):Sz 300 ((p.den:Int)-p.num):=Al h.num.1 h.num.2 h.sz
theorem jk.on {H H':Hp}{r:Rat}{Q:VK} (q:jk H r Q) (s:ak H H'):jk H' r Q:=λ a H'' s' e=>q a H'' (s.trans s') e
def ve:Sp:=λ vs H Q _=>∃ (n k:Nat) (a:Addr) (p:Rat),vs = [.int n,.int k,.ref a]/\Shp H a p/\n<=12/\k<=n/\Q (.int (kF p n k)) H
theorem xW:aA ["n","k","p"] ["n","k","p"] (ag iG):=⟨rfl,rfl,rfl,by decide +kernel,rfl,by decide +kernel,by decide +kernel⟩
theorem yw {f:Addr}{fd:FuncData} (F:Fun K "weight_top" "weight_top" iG f fd) (T:Txt mg) {fcho:Addr}{dcho:FuncData} (Gcho:ax P w K mg base CX0 1 fcho dcho ["n","k"] zL) (bcho:aE K dcho ["n","k"] []) (kcho:PySem.W.keepIn K (.ref fcho)=true) (mcho:mg "choices" = some (.ref fcho)) {fpow:Addr}{dpow:FuncData} (Gpow:ax P w K mg base CX0 1 fpow dpow ["base","count"] vm) (bpow:aE K dpow ["base","count"] []) (kpow:PySem.W.keepIn K (.ref fpow)=true) (mpow:mg "power" = some (.ref fpow)):ax P w K mg base CX0 2 f fd ["n","k","p"] ve:=by
 refine F.ok xW (λ vs H Q E h=>?_) (λ cdv A outer s H vs Q E hr h=>?_)
 ·obtain⟨n,k,a,p,rfl,_⟩:=h
  rfl
 obtain⟨n,k,a,p,rfl,sp,hn,hk,q⟩:=h
 refine⟨_,(ah (aB (ar bB (ar bB (aj Gcho hr rfl mcho kcho bcho .nil aD (aa (pv 0) (aa (pv 1) ac))) (aj Gpow hr rfl mpow kpow bpow .nil aD (aa (am aq (pv 2) ae (λ _ _=>rfl)) (aa (pv 1) ac)))) (aj Gpow hr rfl mpow kpow bpow .nil aD (aa (ar ck (am aq (pv 2) ae (λ _ _=>rfl)) (am aq (pv 2) ae (λ _ _=>rfl))) (aa (ar ck (pv 0) (pv 1)) ac)))))),?_⟩
 have e1:((k:Int)).toNat=k:=rfl
 have e2:((n:Int)-(k:Int)).toNat=n-k:=by omega
 have s1:Sz (300*k+1) (p.num^k):=sp.sn.powN k
 have s2:Sz (300*(n-k)+1) (((p.den:Int)-p.num)^(n-k)):=sp.sd.powN (n-k)
 have s3:=(gS n k).mul s1
 refine⟨_,rfl,_,rfl,n,k,rfl,by omega,_,rfl,a,_,0,_,rfl,rfl,SqT.of sp.ob,at0,_,rfl,p.num,k,300,rfl,sp.sn,by omega,by omega,by decide,by omega,?_⟩
 rw[zn hk,e1]
 refine⟨_,_,rfl,rfl,⟨(gS n k).smk (by omega),s1.smk (by omega)⟩,_,rfl,a,_,1,_,rfl,rfl,SqT.of sp.ob,at1,_,rfl,a,_,0,_,rfl,rfl,SqT.of sp.ob,at0,_,_,rfl,rfl,_,rfl,_,rfl,_,_,rfl,rfl,_,_,300,rfl,sp.sd,by omega,by omega,by decide,by omega,?_⟩
 rw[e2]
 exact⟨_,_,rfl,rfl,⟨s3.smk (by omega),s2.smk (by omega)⟩,q⟩
def my:Sp:=λ vs H Q _=>∃ (n i j:Nat) (a:Addr) (p:Rat),vs = [.int n,.int i,.int j,.ref a]/\Shp H a p/\n<=12/\i<=n/\j<=n/\jk H (dg p n i j) Q
def o7 (p:Rat) (n i d:Nat):Int:=ism (kF p n) d-ism (kF p n) i
theorem wK (p:Rat) {n i d:Nat} (hi:i<=n+1) (hd:d<=n+1):rn p n i d*(((p.den:Int)^n:Int):Rat)=((o7 p n i d:Int):Rat):=by
 have a:=h9 (f:=kF p n) (g:=wt p n) (c:=(((p.den:Int)^n:Int):Rat)) (m:=i) λ k hk=>qQ p (by omega)
 have b:=h9 (f:=kF p n) (g:=wt p n) (c:=(((p.den:Int)^n:Int):Rat)) (m:=d) λ k hk=>qQ p (by omega)
 unfold rn cu o7
 rw[Rat.intCast_sub,<-a,<-b];grind
theorem uX (p:Rat) (n i m:Nat):((List.range m).map λ k=>kF p n (i+k)).sum=o7 p n i (i+m):=by
 induction m with
 | zero=>simp [o7]
 | succ m ih =>
  rw[List.range_succ,List.map_append,List.sum_append,ih,List.map_cons,List.map_nil,List.sum_cons,List.sum_nil]
  unfold o7
  rw[<-Nat.add_assoc,ism]
  omega
theorem rJ:aA ["n","i","j","p","tops"] ["n","i","j","p"] (ag iJ):=⟨rfl,rfl,rfl,by decide +kernel,rfl,by decide +kernel,by decide +kernel⟩
theorem yA {C:CA}{f:Addr}{fd:FuncData} (F:Fun K "run_sum" "run_sum" iJ f fd) (T:Txt mg) {fwtop:Addr}{dwtop:FuncData} (Gwtop:ax P w K mg base CX0 3 fwtop dwtop ["n","k","p"] ve) (bwtop:aE K dwtop ["n","k","p"] []) (kwtop:PySem.W.keepIn K (.ref fwtop)=true) (mwtop:mg "weight_top" = some (.ref fwtop)) {fpow:Addr}{dpow:FuncData} (Gpow:ax P w K mg base CX0 3 fpow dpow ["base","count"] vm) (bpow:aE K dpow ["base","count"] []) (kpow:PySem.W.keepIn K (.ref fpow)=true) (mpow:mg "power" = some (.ref fpow)) {ffrac:Addr}{dfrac:FuncData} (Gfrac:ax P w K mg base (CXX P w) 3 ffrac dfrac ["top","bottom"] (fJ C)) (bfrac:aE K dfrac ["top","bottom"] []) (kfrac:PySem.W.keepIn K (.ref ffrac)=true) (mfrac:mg "fraction" = some (.ref ffrac)):ax P w K mg base CX0 4 f fd ["n","i","j","p"] my:=by
 refine F.ok rJ (λ vs H Q E h=>?_) (λ cdv A outer s H vs Q E hr h=>?_)
 ·obtain⟨n,i,j,a,p,rfl,_⟩:=h
  rfl
 obtain⟨n,i,j,a,p,rfl,sp,hn,hi,hj,q⟩:=h
 refine⟨_,(af (jt (i:=4) rJ.nd rfl (Or.inl rfl) (xs:=["k"]) (ts:=[("n",0),("p",3)]) rfl ⟨rfl,xO rfl rfl,rfl,rfl,rfl,by decide +kernel,rfl,rfl⟩ (tW rfl T.range (aa (pv 1) (aa (ar aV (pv 2) ae) ac))) (λ C s3 H3 fp=>(az (i:=0) (show (["k","n","p"]:List Str).Nodup by decide +kernel) rfl (Or.inl rfl) (Or.inr rfl))) (λ C s3 H3 fp=>fb) (λ C s3 H3 fp=>(aj Gwtop hr rfl mwtop kwtop bwtop .nil aD (aa (pv 1) (aa (pv 0) (aa (pv 2) ac))))))
  (ah (aB (aj Gfrac hr rfl mfrac kfrac bfrac .nil jZ (aa (aO (xr rfl) rfl T.sum boot_sum (aa (pv 4) ac)) (aa (aj Gpow hr rfl mpow kpow bpow .nil aD (aa (am aq (pv 3) ae (λ _ _=>rfl)) (aa (pv 0) ac))) ac)))))),?_⟩
 refine⟨_,rfl,_,rfl,_,_,rfl,rfl,_,_,rfl,⟨by omega,by omega,by omega,by omega⟩,λ D hD=>?_⟩
 have em:i+((j:Int)+1-(i:Int)).toNat=max i (j+1):=by omega
 have lim:max i (j+1)<=n+1:=by omega
 refine pE (λ m=>V.int (kF p n (i+m))) hD (Nat.le_trans (show _<=40 by omega) (by decide)) ?_ ?_
 ·intro m H2 k hm sm hk
  have ek:(i:Int)+(m:Int)=((i+m:Nat):Int):=by omega
  rw[ek]
  exact⟨_,rfl,_,rfl,_,rfl,n,i+m,a,p,rfl,sp.keep sm,hn,by omega,hk H2 (ak.refl H2)⟩
 intro H2 s2 hD2
 refine⟨_,rfl,D,(List.range ((j:Int)+1-(i:Int)).toNat).map (λ m=>kF p n (i+m)),rfl,SqL.of (by rw[hD2,List.map_map];rfl),?_⟩
 rw[uX,em]
 refine⟨_,rfl,a,_,1,_,rfl,rfl,SqT.of (sp.keep s2).ob,at1,_,rfl,(p.den:Int),n,300,rfl,sp.sz,by omega,by omega,by decide,by omega,?_⟩
 have e3:((n:Int)).toNat=n:=rfl
 rw[e3]
 have dp:(0:Int)<(p.den:Int)^n:=Int.pow_pos (fP p)
 exact dL (Int.ne_of_gt dp) ((sp.sz.powN n).smk (by omega)) (fI (ef (Int.ne_of_gt dp) (wK p (show i<=n+1 by omega) lim)) (q.on s2))
theorem Shp.fr {H:Hp}{a:Addr}{p:Rat} (h:Shp H a p):FrA H a p:=⟨h.ob,h.sn.mono (by decide),h.sz.mono (by decide)⟩
def ja:Sp:=λ vs H Q _=>∃ f g r s,vs = [.ref f,.ref g]/\FrA H f r/\FrA H g s/\Q (.bl (decide (r<s))) H
def fqR (p:Rat):Fq:=(p.num,(p.den:Int))
theorem Bm (r s:Rat):decide (r.num*(s.den:Int)<s.num*(r.den:Int))=decide (r<s):=by
 by_cases c:r<s
 ·rw[decide_eq_true c,decide_eq_true ((mW r s).mpr c)]
 ·rw[decide_eq_false c,decide_eq_false (λ z=>c ((mW r s).mp z))]
theorem oh (p q:Rat):fH (fqR p) (fqR q)=decide (p<q):=Bm p q
theorem eY:∀ (vs:List V) (H:Hp) (Q:VK) (E:XK),ja vs H Q E->mx vs H Q E:=λ vs H Q E h=>by
 obtain⟨f,g,r,s,rfl,t,u,q⟩:=h
 exact⟨f,g,fqR r,fqR s,rfl,t.ob,u.ob,⟨t.st.smk (by decide),t.sb.smk (by decide)⟩,⟨u.st.smk (by decide),u.sb.smk (by decide)⟩,by rw[oh];exact q⟩
theorem xa {H:Hp}{f:Addr}{r:Rat}{B:Nat} (e:H f=some (.tup [.int r.num,.int (r.den:Int)])) (h:Ov B r) (hB:0<B) (hn:B<2^4400) (h0:0<=r) (h1:r<=1):FrA H f r :=
 have z:=RSz.of h hB hn h0 h1
 ⟨e,z.t,z.b⟩
theorem Shp.den1 {H:Hp}{a:Addr}{p:Rat} (h:Shp H a p):0<p.den/\p.den<2^300:=⟨by have:=p.den_nz;omega,by have:=h.sz;unfold Sz at this;omega⟩
theorem Shp.pw {H:Hp}{a:Addr}{p:Rat} (h:Shp H a p) {n:Nat} (hn:n<=14):0<p.den^n/\p.den^n<2^4400:=by
 refine⟨Nat.pow_pos h.den1.1,?_⟩
 by_cases z:n=0
 ·subst z;rw[Nat.pow_zero];exact Nat.one_lt_two_pow (by decide)
 ·exact Nat.lt_of_lt_of_le (zS h.den1.2 (by omega)) (Nat.pow_le_pow_right (by decide) (by omega))
theorem sI {H H':Hp}{a f:Addr}{p:Rat} (h:Shp H a p) {n i j:Nat} (hn:n<=12) (e:H' f=some (.tup [.int (dg p n i j).num,.int ((dg p n i j).den:Int)])):FrA H' f (dg p n i j) :=
 have u:=lO h.lo h.hi n i j
 xa e (rM (Ov.self p) n i j) (h.pw (by omega)).1 (h.pw (by omega)).2 u.1 u.2
theorem BS {H:Hp}{a:Addr} (h:H a=some (.tup [.int 0,.int 1])):Shp H a 0:=⟨h,by decide,by decide,by show (1:Nat)<2^300;decide⟩
theorem BR {H:Hp}{a:Addr} (h:H a=some (.tup [.int 1,.int 1])):Shp H a 1:=⟨h,by decide,by decide,by show (1:Nat)<2^300;decide⟩
abbrev bj (ps:List (Rat×Rat)):List Rat:=ps.map (·.1)
abbrev bw (ps:List (Rat×Rat)):List Rat:=ps.map (·.2)
def bn (ps:List (Rat×Rat)) (a b:Rat):Option (Nat×Nat):=if aF b (bw ps)<aR a (bj ps) then some (aF b (bw ps),aR a (bj ps)-1) else none
def kQ (H:Hp):Option (Nat×Nat)->V->Prop
 | none,v=>v=.non
 | some r,v=>∃ t,v=.ref t/\H t=some (.tup [.int (r.1:Int),.int (r.2:Int)])
theorem kQ.keep {H H':Hp} (s:ak H H'):∀ {r:Option (Nat×Nat)}{v:V},kQ H r v->kQ H' r v
 | none,_,h=>h
 | some _,_,⟨t,e,h⟩=>⟨t,e,s _ _ h⟩
theorem vS {n:Nat}{ps:List (Rat×Rat)} (ok:di n ps) {a b:Rat}{r:Nat×Nat} (h:bn ps a b=some r):r.1<=r.2/\r.2<=n:=by
 unfold bn at h
 split at h
 ·rename_i c
  cases h
  have:=dC a (bj ps)
  rw[List.length_map,ok.len] at this
  exact⟨by show aF b (bw ps)<=aR a (bj ps)-1;omega,by show aR a (bj ps)-1<=n;omega⟩
 ·cases h
theorem iX {r:Rat}:∀ {l:List Rat},Up l->(l.filter λ x=>decide (x<r)).length=aF r l
 | [],_=>rfl
 | x::l,u=>by
  by_cases c:x<r
  ·have e:(x::l).filter (λ x=>decide (x<r))=x::l.filter (λ x=>decide (x<r)):=by simp [c]
   rw[e,List.length_cons,iX (List.pairwise_cons.mp u).2,aF,if_pos c]
  ·have e:(x::l).filter (λ x=>decide (x<r))=l.filter (λ x=>decide (x<r)):=by simp [c]
   rw[e,aF,if_neg c]
   have:l.filter (λ x=>decide (x<r)) = []:=by
    apply List.filter_eq_nil_iff.mpr
    intro y hy
    have:=(List.pairwise_cons.mp u).1 y hy
    simp
    grind
   rw[this]<;>rfl
theorem uG {ps:List (Rat×Rat)} (u:Up (bw ps)) (b:Rat):(ps.filter λ h=>decide (h.2<b)).length=aF b (bw ps):=by
 rw[<-iX u]
 unfold bw
 rw[List.filter_map,List.length_map]<;>rfl
theorem xn {ps:List (Rat×Rat)} (u:Up (bj ps)) (a:Rat):(ps.filter λ h=>!decide (a<h.1)).length=aR a (bj ps):=by
 rw[<-n9 u]
 unfold bj
 rw[List.filter_map,List.length_map]
 congr 1
 apply List.filter_congr
 intro x _
 by_cases c:a<x.1
 ·have:¬ x.1<=a:=by grind
  simp [c,this]
 ·have:x.1<=a:=by grind
  simp [c,this]
def zD:Sp:=λ vs H Q _=>∃ (x:Addr) (n:Nat) (ps:List (Rat×Rat)) (a b:Addr) (ra rb:Rat),vs = [.ref x,.ref a,.ref b]/\cq H x n ps/\Shp H a ra/\Shp H b rb/\∀ v H',ak H H'->kQ H' (bn ps ra rb) v->Q v H'
theorem qc:aA ["rule","a","b","first","last"] ["rule","a","b"] (ag lj):=⟨rfl,rfl,rfl,by decide +kernel,rfl,by decide +kernel,by decide +kernel⟩
theorem AR {f:Addr}{fd:FuncData} (F:Fun K "run_over" "run_over" lj f fd) (T:Txt mg) {fund:Addr}{dund:FuncData} (Gund:ax P w K mg base CX0 1 fund dund ["one","other"] ja) (bund:aE K dund ["one","other"] []) (kund:PySem.W.keepIn K (.ref fund)=true) (mund:mg "under" = some (.ref fund)):ax P w K mg base CX0 2 f fd ["rule","a","b"] zD:=by
 refine F.ok qc (λ vs H Q E h=>?_) (λ cdv A outer s H vs Q E hr h=>?_)
 ·obtain⟨x,n,ps,a,b,ra,rb,rfl,_⟩:=h
  rfl
 obtain⟨x,n,ps,a,b,ra,rb,rfl,⟨⟨t,zs,hx,ht,row⟩,ok⟩,sa,sb,q⟩:=h
 refine⟨_,(af (au (i:=3) qc.nd rfl (Or.inl rfl) (aO aS rfl T.len boot_len (aa (eI (xs:=["low","high"]) (ts:=[("b",2)]) rfl ⟨rfl,pU rfl,rfl,rfl,rfl,by decide +kernel,rfl,rfl⟩ (iT (am aq (pv 0) ae (λ _ _=>rfl))) (λ C s3 H3 fp=>(gx (n:=2) rfl (aJ (az (i:=0) (show (["low","high","b"]:List Str).Nodup by decide +kernel) rfl (Or.inl rfl) (Or.inr rfl)) (aJ (az (i:=1) (show (["low","high","b"]:List Str).Nodup by decide +kernel) rfl (Or.inl rfl) (Or.inr rfl)) bO)))) (λ C s3 H3 fp=>(jv (a9 (aj Gund hr rfl mund kund bund .nil aD (aa (pv 1) (aa (pv 2) ac)))))) (λ C s3 H3 fp=>(pv 1))) ac)))
  (af (au (i:=4) qc.nd rfl (Or.inl rfl) (ar ck (aO aS rfl T.len boot_len (aa (eI (xs:=["low","high"]) (ts:=[("a",1)]) rfl ⟨rfl,pU rfl,rfl,rfl,rfl,by decide +kernel,rfl,rfl⟩ (iT (am aq (pv 0) ae (λ _ _=>rfl))) (λ C s3 H3 fp=>(gx (n:=2) rfl (aJ (az (i:=0) (show (["low","high","a"]:List Str).Nodup by decide +kernel) rfl (Or.inl rfl) (Or.inr rfl)) (aJ (az (i:=1) (show (["low","high","a"]:List Str).Nodup by decide +kernel) rfl (Or.inl rfl) (Or.inr rfl)) bO)))) (λ C s3 H3 fp=>(jv (bK (a9 (aj Gund hr rfl mund kund bund .nil aD (aa (pv 2) (aa (pv 0) ac))))))) (λ C s3 H3 fp=>(pv 0))) ac)) ae))
  (af (br (aG fR (pv 3) (pv 4) (aL _)) (ah (aB d9)) aK)
  (ah (aB (aQ (aa (pv 3) (aa (pv 4) ac)))))))),?_⟩
 have lz:=row.len
 have l13:=ok.len
 have n12:=ok.n12
 have big:zs.length<=sizeLine:=Nat.le_trans (show zs.length<=40 by omega) (by decide)
 refine⟨_,rfl,x,_,1,_,rfl,rfl,SqT.of hx,at1,t,rfl,⟨_,SqT.of ht⟩,λ D hD=>?_⟩
 refine kA ps (λ h=>decide (h.2<rb)) (λ h u v=>∃ la ha,u=.ref la/\v=.ref ha/\Shp H la h.1/\Shp H ha h.2) hD (SqT.of ht) (by omega) big ?_ ?_ ?_ ?_
 ·intro i h e
  obtain⟨c,la,ha,e1,e2,e3,e4⟩:=row.get e
  exact⟨c,_,_,e1,e2,la,ha,rfl,rfl,e3,e4⟩
 ·rintro h u v H2 k ⟨la,ha,rfl,rfl,s1,s2⟩ sm hk
  exact⟨_,rfl,_,rfl,ha,b,_,_,rfl,(s2.keep sm).fr,(sb.keep sm).fr,_,rfl,hk H2 (ak.refl H2)⟩
 ·rintro h u v H2 k ⟨la,ha,rfl,rfl,s1,s2⟩ sm hk
  exact⟨_,rfl,hk _ _ (ak.refl H2)⟩
 intro H1 ys s1 hD1 hl1
 rw[uG ok.highs] at hl1
 refine⟨D,ys,rfl,.inl (SqL.of hD1),?_⟩
 rw[hl1]
 refine⟨_,rfl,x,_,1,_,rfl,rfl,SqT.of (s1 _ _ hx),at1,t,rfl,⟨_,SqT.of (s1 _ _ ht)⟩,λ D' hD'=>?_⟩
 refine kA ps (λ h=>!decide (ra<h.1)) (λ h u v=>∃ la ha,u=.ref la/\v=.ref ha/\Shp H la h.1/\Shp H ha h.2) hD' (SqT.of (s1 _ _ ht)) (by omega) big ?_ ?_ ?_ ?_
 ·intro i h e
  obtain⟨c,la,ha,e1,e2,e3,e4⟩:=row.get e
  exact⟨c,_,_,e1,s1 _ _ e2,la,ha,rfl,rfl,e3,e4⟩
 ·rintro h u v H2 k ⟨la,ha,rfl,rfl,t1,t2⟩ sm hk
  exact⟨_,rfl,_,rfl,a,la,_,_,rfl,(sa.keep (s1.trans sm)).fr,(t1.keep (s1.trans sm)).fr,_,rfl,hk H2 (ak.refl H2)⟩
 ·rintro h u v H2 k ⟨la,ha,rfl,rfl,t1,t2⟩ sm hk
  exact⟨_,rfl,hk _ _ (ak.refl H2)⟩
 intro H2 ys' s2 hD2 hl2
 rw[xn ok.lows] at hl2
 refine⟨D',ys',rfl,.inl (SqL.of hD2),_,_,rfl,rfl,?_⟩
 rw[hl2]
 refine⟨_,rfl,_,rfl,_,_,rfl,rfl,_,rfl,?_⟩
 refine fE (λ c=>?_) (λ c=>?_)
 ·have c':(aR ra (bj ps):Int)-1<(aF rb (bw ps):Int):=of_decide_eq_true c
  refine q _ _ (s1.trans s2) ?_
  unfold bn
  rw[if_neg (by omega)]<;>rfl
 ·have c':=ofD c
  refine⟨_,rfl,_,rfl,(by show 2<=sizeLine;decide),λ r hr'=>q _ _ ((s1.trans s2).trans (ai hr' _)) ?_⟩
  unfold bn
  rw[if_pos (by omega)]
  refine⟨r,rfl,?_⟩
  rw[ad]
  have e:((aR ra (bj ps):Int)-1)=((aR ra (bj ps)-1:Nat):Int):=by omega
  show some (HO.tup [V.int _,V.int ((aR ra (bj ps):Int)-1)])=_
  rw[e]
def bz (p:Rat) (n:Nat):Option (Nat×Nat)->Rat
 | none=>0
 | some r=>dg p n r.1 r.2
theorem d7 {n:Nat}{ps:List (Rat×Rat)} (a b p:Rat):bz p n (bn ps a b)=cov n (bj ps) (bw ps) a b p:=by
 unfold bn cov
 split
 ·rename_i c
  show rn p n (aF b (bw ps)) (max (aF b (bw ps)) (aR a (bj ps)-1+1))=_
  rw[show aR a (bj ps)-1+1=aR a (bj ps) by omega]
 ·rename_i c
  show (0:Rat)=_
  rw[Nat.max_eq_left (by omega)]
  unfold rn
  grind
def zC:Sp:=λ vs H Q _=>∃ (n:Nat) (v:V) (r:Option (Nat×Nat)) (a:Addr) (p:Rat),vs = [.int n,v,.ref a]/\kQ H r v/\Shp H a p/\n<=12/\(∀ z,r=some z->z.1<=z.2/\z.2<=n)/\jk H (bz p n r) Q
theorem As:aA ["n","run","p"] ["n","run","p"] (ag lg):=⟨rfl,rfl,rfl,by decide +kernel,rfl,by decide +kernel,by decide +kernel⟩
theorem AQ {f:Addr}{fd:FuncData} (F:Fun K "sum_of_run" "sum_of_run" lg f fd) (T:Txt mg) {frsum:Addr}{drsum:FuncData} (Grsum:ax P w K mg base CX0 4 frsum drsum ["n","i","j","p"] my) (brsum:aE K drsum ["n","i","j","p"] []) (krsum:PySem.W.keepIn K (.ref frsum)=true) (mrsum:mg "run_sum" = some (.ref frsum)):ax P w K mg base CX0 5 f fd ["n","run","p"] zC:=by
 refine F.ok As (λ vs H Q E h=>?_) (λ cdv A outer s H vs Q E hr h=>?_)
 ·obtain⟨n,v,r,a,p,rfl,_⟩:=h
  rfl
 obtain⟨n,v,r,a,p,rfl,rv,sp,hn,hz,q⟩:=h
 refine⟨_,(af (br (aG m7 (pv 1) d9 (aL _)) (ah (aB (aQ (aa ae (aa ae ac))))) aK)
  (ah (aB (aj Grsum hr rfl mrsum krsum brsum .nil aD (aa (pv 0) (aa (am aq (pv 1) ae (λ _ _=>rfl)) (aa (am aq (pv 1) ae (λ _ _=>rfl)) (aa (pv 2) ac)))))))),?_⟩
 cases r with
 | none =>
  have e:v=V.non:=rv
  subst e
  refine⟨_,rfl,rfl,_,rfl,bD ?_⟩
  refine⟨(by show 2<=sizeLine;decide),λ t ht=>q t _ (ai ht _) ?_⟩
  rw[ad]<;>rfl
 | some z =>
  obtain⟨t,e,ht⟩:=rv
  subst e
  obtain⟨z1,z2⟩:=hz z rfl
  refine⟨_,rfl,rfl,_,rfl,aW ?_⟩
  exact⟨_,rfl,_,rfl,t,_,0,_,rfl,rfl,SqT.of ht,at0,_,rfl,t,_,1,_,rfl,rfl,SqT.of ht,at1,_,rfl,n,z.1,z.2,a,p,rfl,sp,hn,by omega,z2,q⟩
def aU (ps:List (Rat×Rat)):List Rat:=0::1::ps.flatMap λ p=>[p.1,p.2]
theorem jV (ps:List (Rat×Rat)):(aU ps).length=2+2*ps.length:=by
 unfold aU
 induction ps with
 | nil=>rfl
 | cons p ps ih=>simp only[List.flatMap_cons,List.length_cons,List.length_append,List.length_nil] at ih ⊢;omega
theorem tQ (ps:List (Rat×Rat)) (p:Rat×Rat):aU (ps++[p])=aU ps++[p.1,p.2]:=by
 unfold aU
 rw[List.flatMap_append]<;>rfl
theorem vZ {H:Hp}:∀ {rs:List Rat}{xs:List V},ShL H rs xs->Prs H (rs.map λ r=>(r.num,(r.den:Int))) xs
 | [],_,h=>h
 | _::_,_,⟨a,ys,e,h1,h2⟩=>⟨a,ys,e,h1.ob,vZ h2⟩
theorem zv (rs:List Rat) (r:Rat):((rs.map λ r=>(r.num,(r.den:Int))).any λ w=>decide (w=(r.num,(r.den:Int))))=decide (r∈rs):=by
 rw[Bool.eq_iff_iff,List.any_eq_true,decide_eq_true_iff]
 constructor
 ·rintro⟨w,hw,e⟩
  obtain⟨s,hs,rfl⟩:=List.mem_map.mp hw
  have e':=of_decide_eq_true e
  simp only[Prod.mk.injEq] at e'
  rw[<-Az e'.1 e'.2]
  exact hs
 ·intro h
  exact⟨_,List.mem_map.mpr ⟨r,h,rfl⟩,decide_eq_true rfl⟩
def rk:Sp:=λ vs H Q _=>∃ (x:Addr) (n:Nat) (ps:List (Rat×Rat)),vs = [.ref x]/\cq H x n ps/\∀ l H' ws,H l=none->ak H H'->H' l=some (.lst ws)->ShL H' (edg (aU ps)) ws->Q (.ref l) H'
theorem eD:aA ["rule","ends","stretch","told","end","place"] ["rule"] (ag gu):=⟨rfl,rfl,rfl,by decide +kernel,rfl,by decide +kernel,by decide +kernel⟩
theorem wv {f:Addr}{fd:FuncData} (F:Fun K "edges" "edges" gu f fd) (T:Txt mg) {fund:Addr}{dund:FuncData} (Gund:ax P w K mg base CX0 1 fund dund ["one","other"] ja) (bund:aE K dund ["one","other"] []) (kund:PySem.W.keepIn K (.ref fund)=true) (mund:mg "under" = some (.ref fund)):ax P w K mg base CX0 2 f fd ["rule"] rk:=by
 refine F.ok eD (λ vs H Q E h=>?_) (λ cdv A outer s H vs Q E hr h=>?_)
 ·obtain⟨x,n,ps,rfl,_⟩:=h
  rfl
 obtain⟨x,n,ps,rfl,⟨⟨t,zs,hx,ht,row⟩,ok⟩,q⟩:=h
 refine⟨_,(af (au (i:=1) eD.nd rfl (Or.inl rfl) (cP (aa (aQ (aa ae (aa ae ac))) (aa (aQ (aa ae (aa ae ac))) ac))))
  (af (bA PassesOwn.never rfl (iT (am aq (pv 0) ae (λ _ _=>rfl))) (az (i:=2) eD.nd rfl (Or.inl rfl)) (ah (ju (rZ PySem.F.plainAttrs_list PySem.F.slot_list_extend PySem.F.type_list_extend qh (pv 1) (aa (pv 2) ac)))))
  (af (au (i:=3) eD.nd rfl (Or.inl rfl) (cP ac))
  (af (bA PassesOwn.never rfl (cW (pv 1)) (az (i:=4) eD.nd rfl (Or.inr rfl)) (ah (br (aG (tZ hr.units) (pv 4) (pv 3) (by with_unfolding_all rfl)) (af (au (i:=5) eD.nd rfl (Or.inl rfl) (aO aS rfl T.len boot_len (aa (eI (xs:=["edge"]) (ts:=[("end",4)]) rfl ⟨rfl,pU rfl,rfl,rfl,rfl,by decide +kernel,rfl,rfl⟩ (cW (pv 3)) (λ C s3 H3 fp=>(az (i:=0) (show (["edge","end"]:List Str).Nodup by decide +kernel) rfl (Or.inl rfl) (Or.inr rfl))) (λ C s3 H3 fp=>(jv (a9 (aj Gund hr rfl mund kund bund .nil aD (aa (pv 0) (aa (pv 1) ac)))))) (λ C s3 H3 fp=>(pv 0))) ac)))
    (ah (ju (rZ PySem.F.plainAttrs_list PySem.F.slot_list_insert PySem.F.type_list_insert ud (pv 3) (aa (pv 5) (aa (pv 4) ac)))))) aK)))
  (ah (aB (pv 3))))))),?_⟩
 have lz:=row.len
 have l13:=ok.len
 have n12:=ok.n12
 refine⟨(by show 2<=sizeLine;decide),λ a0 h0=>⟨(by show 2<=sizeLine;decide),λ a1 h1=>⟨(by show 2<=sizeLine;decide),λ l hl=>?_⟩⟩⟩
 have s0:=ai h0 (.tup [V.int 0,V.int 1])
 have s1:=ai h1 (.tup [V.int 1,V.int 1])
 have s2:=ai hl (.lst [V.ref a0,V.ref a1])
 have s02:=(s0.trans s1).trans s2
 have p0:=((BS (H:=upd H a0 (.tup [V.int 0,V.int 1])) ad).keep s1).keep s2
 have p1:=(BR (H:=upd (upd H a0 (.tup [V.int 0,V.int 1])) a1 (.tup [V.int 1,V.int 1])) ad).keep s2
 refine⟨_,rfl,x,_,1,_,rfl,rfl,SqT.of (s02 _ _ hx),at1,t,rfl,⟨_,SqT.of (s02 _ _ ht)⟩,?_⟩
 have hln:H l=none:=by
  cases e:H l with
  | none=>rfl
  | some o=>rw[s1 _ _ (s0 _ _ e)] at hl;cases hl
 refine jx (xs:=zs) (λ i σ H'=>ak H H'/\∃ ws v1 v2 v3 v4,σ = [some (.ref x),some (.ref l),v1,v2,v3,v4]/\H' l=some (.lst ws)/\ShL H' (aU (ps.take i)) ws) ⟨s02,_,none,none,none,none,rfl,ad,a0,_,rfl,p0,a1,_,rfl,p1,rfl⟩ ?_ ?_ ?_
 ·rintro i σ H' hi ⟨sm,_⟩
  exact SqT.of (sm _ _ ht)
 ·rintro i z σ H' hz ⟨sm,ws,v1,v2,v3,v4,rfl,hl',shw⟩
  have hi:i<ps.length:=by rw[<-lz];exact (List.getElem?_eq_some_iff.mp hz).1
  have ep:=List.getElem?_eq_getElem hi
  obtain⟨d,la,ha,e1,e2,e3,e4⟩:=(row.keep sm).get ep
  rw[hz] at e1
  cases e1
  have lw:=shw.len
  rw[jV] at lw
  have lt:(ps.take i).length=i:=by simp;omega
  refine⟨_,rfl,.inl ⟨rfl,_,SqL.of hl'⟩,_,rfl,l,d,ws,_,rfl,rfl,hl',e2,Nat.le_trans (show _<=60 by simp;omega) (by decide),?_⟩
  refine⟨eZ sm hln,_,_,_,_,_,rfl,ad,?_⟩
  rw[List.take_add_one,ep]
  show ShL _ (aU (ps.take i++[ps[i]])) _
  rw[tQ]
  exact (shw.app (show ShL _ [_,_] [.ref la,.ref ha] from ⟨la,_,rfl,e3,ha,_,rfl,e4,rfl⟩)).write hl'
 rintro σ H1 ⟨sm1,ws,v1,v2,v3,v4,rfl,hl1,shw⟩
 rw[List.take_of_length_le (by omega)] at shw
 have lw:=shw.len
 have lr:=jV ps
 refine⟨Nat.zero_le _,λ m hm=>?_⟩
 have s3:=ai hm (.lst [])
 have sm2:=sm1.trans s3
 have hmn:H m=none:=by
  cases e:H m with
  | none=>rfl
  | some o=>rw[sm1 _ _ e] at hm;cases hm
 have nml:m≠l:=λ e=>by rw[e,hl1] at hm;cases hm
 refine⟨_,rfl,l,rfl,⟨_,SqL.of (s3 _ _ hl1)⟩,?_⟩
 refine eU (xs:=ws) (λ i σ H'=>ak H H'/\∃ us v1 v3 v4,σ = [some (.ref x),some (.ref l),v1,some (.ref m),v3,v4]/\H' l=some (.lst ws)/\ShL H' (aU ps) ws/\H' m=some (.lst us)/\ShL H' (edg ((aU ps).take i)) us) ⟨sm2,[],v1,v3,v4,rfl,s3 _ _ hl1,shw.keep s3,ad,rfl⟩ ?_ ?_ ?_
 ·rintro i σ H' hi ⟨sm,us,u1,u3,u4,rfl,hl',_⟩
  exact SqL.of hl'
 ·rintro i z σ H' hz ⟨sm,us,u1,u3,u4,rfl,hl',shl',hm',shu⟩
  have hi:i<(aU ps).length:=by rw[<-lw];exact (List.getElem?_eq_some_iff.mp hz).1
  have ep:=List.getElem?_eq_getElem hi
  obtain⟨b,e1,sb⟩:=shl'.get ep
  rw[hz] at e1
  cases e1
  generalize (aU ps)[i]=r at *
  have tk:(aU ps).take (i+1)=(aU ps).take i++[r]:=by rw[List.take_add_one,ep];rfl
  have lu:=shu.len
  have l40:us.length<=40:=by
   rw[lu]
   exact Nat.le_trans (sM _) (by simp;omega)
  obtain⟨inc,_⟩:=eA ((aU ps).take i)
  rw[tk,kt]
  generalize edg ((aU ps).take i)=acc at *
  refine⟨_,rfl,_,rfl,m,us,_,b,(r.num,(r.den:Int)),rfl,rfl,SqL.of hm',vZ shu,sb.ob,_,rfl,?_⟩
  rw[zv]
  by_cases c:r∈acc
  ·rw[decide_eq_true c]
   refine aW ⟨sm,us,_,_,_,rfl,hl',shl',hm',?_⟩
   unfold kP
   rw[if_pos c]
   exact shu
  ·rw[decide_eq_false c]
   refine bD ?_
   refine⟨_,rfl,m,rfl,⟨_,SqL.of hm'⟩,λ D hD=>?_⟩
   refine qG acc (λ h=>decide (h<r)) (λ h u=>∃ a,u=.ref a/\Shp H' a h) hD (SqL.of hm') (by omega) (Nat.le_of_lt (m8 l40)) ?_ ?_ ?_ ?_
   ·intro j h e
    obtain⟨a,f1,f2⟩:=shu.get e
    exact⟨_,f1,a,rfl,f2⟩
   ·rintro h u H2 k ⟨a,rfl,sa⟩ s4 hk
    exact⟨_,rfl,_,rfl,a,b,_,_,rfl,(sa.keep s4).fr,(sb.keep s4).fr,_,rfl,hk H2 (ak.refl H2)⟩
   ·rintro h u H2 k ⟨a,rfl,sa⟩ s4 hk
    exact⟨_,rfl,hk _ _ (ak.refl H2)⟩
   intro H2 ys s4 hD2 hly
   rw[iX inc.up] at hly
   have hm2:=s4 _ _ hm'
   have hl2:=s4 _ _ hl'
   have shu2:=shu.keep s4
   have sb2:=sb.keep s4
   refine⟨D,ys,rfl,.inl (SqL.of hD2),?_⟩
   rw[hly]
   have le:=eQ r acc
   refine⟨_,rfl,.inl ⟨rfl,_,SqL.of hm2⟩,_,rfl,_,rfl,m,us,(aF r acc:Int),.ref b,rfl,rfl,hm2,by omega,by omega,m8 l40,?_⟩
   have ek:((aF r acc:Int)).toNat=aF r acc:=rfl
   rw[ek]
   refine⟨eZ (sm.trans s4) hmn,_,_,_,_,rfl,by rw[al (Ne.symm nml)];exact hl2,(shl'.keep s4).write hm2,ad,?_⟩
   unfold kP
   rw[if_neg c]
   unfold o9
   have z:=((shu2.take (aF r acc)).app (show ShL _ [r] [.ref b] from ⟨b,[],rfl,sb2,rfl⟩)).app (shu2.drop (aF r acc))
   have z':=z.write (l:=m) (zs:=us) hm2 (ws:=us.take (aF r acc)++.ref b::us.drop (aF r acc))
   rw[List.append_assoc,List.append_assoc] at z'
   exact z'
 ·rintro σ H' ⟨sm,us,u1,u3,u4,rfl,hl',shl',hm',shu⟩
  rw[lw,List.take_length] at shu
  exact⟨_,rfl,q m H' us hmn sm hm' shu⟩
theorem lT {H H':Hp}{a:Addr} (s:ak H H') (h:H' a=none):H a=none:=by
 cases e:H a with
 | none=>rfl
 | some o=>rw[s _ _ e] at h;cases h
abbrev Pc:=Rat×Rat×Option (Nat×Nat)
def PcL (H:Hp):List Pc->List V->Prop
 | [],xs=>xs = []
 | p::ps,xs=>∃ t a b v ys,xs=.ref t::ys/\H t=some (.tup [.ref a,.ref b,v])/\Shp H a p.1/\Shp H b p.2.1/\kQ H p.2.2 v/\PcL H ps ys
theorem PcL.keep {H H':Hp} (s:ak H H'):∀ {ps:List Pc}{xs:List V},PcL H ps xs->PcL H' ps xs
 | [],_,h=>h
 | _::_,_,⟨t,a,b,v,ys,e,h0,h1,h2,h3,h4⟩=>⟨t,a,b,v,ys,e,s _ _ h0,h1.keep s,h2.keep s,h3.keep s,h4.keep s⟩
theorem kQ.write {H:Hp}{l:Addr}{zs ws:List V} (hl:H l=some (.lst zs)):∀ {r:Option (Nat×Nat)}{v:V},kQ H r v->kQ (upd H l (.lst ws)) r v
 | none,_,h=>h
 | some _,_,⟨t,e,h⟩=>⟨t,e,by rw[al (gE h hl (by intro z;cases z))];exact h⟩
theorem PcL.write {H:Hp}{l:Addr}{zs ws:List V} (hl:H l=some (.lst zs)):∀ {ps:List Pc}{xs:List V},PcL H ps xs->PcL (upd H l (.lst ws)) ps xs
 | [],_,h=>h
 | _::_,_,⟨t,a,b,v,ys,e,h0,h1,h2,h3,h4⟩=>⟨t,a,b,v,ys,e,by rw[al (gE h0 hl (by intro z;cases z))];exact h0,h1.write hl,h2.write hl,h3.write hl,h4.write hl⟩
theorem PcL.len {H:Hp}:∀ {ps:List Pc}{xs:List V},PcL H ps xs->xs.length=ps.length
 | [],_,h=>by rw[show _ = [] from h];rfl
 | _::_,_,⟨t,a,b,v,ys,e,h0,h1,h2,h3,h4⟩=>by rw[e,List.length_cons,List.length_cons,h4.len]
theorem PcL.get {H:Hp}:∀ {ps:List Pc}{xs:List V}{i:Nat}{p:Pc},PcL H ps xs->ps[i]? = some p->∃ t a b v,xs[i]? = some (.ref t)/\H t=some (.tup [.ref a,.ref b,v])/\Shp H a p.1/\Shp H b p.2.1/\kQ H p.2.2 v
 | _::_,_,0,p,⟨t,a,b,v,ys,e,h0,h1,h2,h3,h4⟩,q=>by
  rw[List.getElem?_cons_zero] at q;cases q
  exact⟨t,a,b,v,by rw[e];rfl,h0,h1,h2,h3⟩
 | _::_,_,i+1,p,⟨t,a,b,v,ys,e,h0,h1,h2,h3,h4⟩,q=>by
  rw[List.getElem?_cons_succ] at q
  obtain⟨t',a',b',v',f,g⟩:=h4.get q
  exact⟨t',a',b',v',by rw[e,List.getElem?_cons_succ];exact f,g⟩
theorem PcL.app {H:Hp}:∀ {ps qs:List Pc}{xs ys:List V},PcL H ps xs->PcL H qs ys->PcL H (ps++qs) (xs++ys)
 | [],_,_,_,h,k=>by rw[show _ = [] from h];exact k
 | _::_,_,_,_,⟨t,a,b,v,zs,e,h0,h1,h2,h3,h4⟩,k=>by rw[e];exact⟨t,a,b,v,_,rfl,h0,h1,h2,h3,h4.app k⟩
def dh (es:List Rat) (ps:List (Rat×Rat)):List Pc:=(List.range (es.length-1)).map λ k=>(es.getD k 0,es.getD (k+1) 0,bn ps (es.getD k 0) (es.getD (k+1) 0))
theorem oQ (es:List Rat) (ps:List (Rat×Rat)) {i:Nat} (h:i<es.length-1):(dh es ps).take (i+1)=(dh es ps).take i++[(es.getD i 0,es.getD (i+1) 0,bn ps (es.getD i 0) (es.getD (i+1) 0))]:=by
 have:(dh es ps)[i]? = some (es.getD i 0,es.getD (i+1) 0,bn ps (es.getD i 0) (es.getD (i+1) 0)):=by
  unfold dh
  rw[List.getElem?_map,List.getElem?_range h]<;>rfl
 rw[List.take_add_one,this]<;>rfl
theorem jX (es:List Rat) (ps:List (Rat×Rat)):(dh es ps).length=es.length-1:=by simp [dh]
theorem sL (ps:List (Rat×Rat)):2<=(edg (aU ps)).length:=by
 have m0:(0:Rat)∈edg (aU ps):=((eA _).2 0).mpr (List.mem_cons_self ..)
 have m1:(1:Rat)∈edg (aU ps):=((eA _).2 1).mpr (List.mem_cons_of_mem _ (List.mem_cons_self ..))
 match he:edg (aU ps) with
 | []=>rw[he] at m0;cases m0
 | [z] =>
  rw[he] at m0 m1
  have e0:=List.mem_singleton.mp m0
  have e1:=List.mem_singleton.mp m1
  exact absurd (e0.trans e1.symm) (by decide)
 | _::_::_=>simp
def oo:Sp:=λ vs H Q _=>∃ (x:Addr) (n:Nat) (ps:List (Rat×Rat)),vs = [.ref x]/\cq H x n ps/\∀ l H' ws,H l=none->ak H H'->H' l=some (.lst ws)->PcL H' (dh (edg (aU ps)) ps) ws->Q (.ref l) H'
theorem kZ:aA ["rule","rising"] ["rule"] (ag eF):=⟨rfl,rfl,rfl,by decide +kernel,rfl,by decide +kernel,by decide +kernel⟩
theorem t9 {f:Addr}{fd:FuncData} (F:Fun K "pieces" "pieces" eF f fd) (T:Txt mg) {fedges:Addr}{dedges:FuncData} (Gedges:ax P w K mg base CX0 2 fedges dedges ["rule"] rk) (bedges:aE K dedges ["rule"] []) (kedges:PySem.W.keepIn K (.ref fedges)=true) (medges:mg "edges" = some (.ref fedges)) {frov:Addr}{drov:FuncData} (Grov:ax P w K mg base CX0 2 frov drov ["rule","a","b"] zD) (brov:aE K drov ["rule","a","b"] []) (krov:PySem.W.keepIn K (.ref frov)=true) (mrov:mg "run_over" = some (.ref frov)):ax P w K mg base CX0 3 f fd ["rule"] oo:=by
 refine F.ok kZ (λ vs H Q E h=>?_) (λ cdv A outer s H vs Q E hr h=>?_)
 ·obtain⟨x,n,ps,rfl,_⟩:=h
  rfl
 obtain⟨x,n,ps,rfl,hx,q⟩:=h
 refine⟨_,(af (au (i:=1) kZ.nd rfl (Or.inl rfl) (aj Gedges hr rfl medges kedges bedges .nil aD (aa (pv 0) ac)))
  (ah (aB (eI (xs:=["a","b"]) (ts:=[("rule",0)]) rfl ⟨rfl,pU rfl,rfl,rfl,rfl,by decide +kernel,rfl,rfl⟩ (v6 rfl T.zip (aa (pv 1) (aa (cF f6 (pv 1) (dl ae) du) ac))) (λ C s3 H3 fp=>(gx (n:=2) rfl (aJ (az (i:=0) (show (["a","b","rule"]:List Str).Nodup by decide +kernel) rfl (Or.inl rfl) (Or.inr rfl)) (aJ (az (i:=1) (show (["a","b","rule"]:List Str).Nodup by decide +kernel) rfl (Or.inl rfl) (Or.inr rfl)) bO)))) (λ C s3 H3 fp=>fb) (λ C s3 H3 fp=>(aQ (aa (pv 0) (aa (pv 1) (aa (aj Grov hr rfl mrov krov brov .nil aD (aa (pv 2) (aa (pv 0) (aa (pv 1) ac)))) ac))))))))),?_⟩
 refine⟨_,rfl,x,n,ps,rfl,hx,λ l H1 ws _ s1 hl shw=>?_⟩
 have lw:=shw.len
 have le:=sM (aU ps)
 have lr:=jV ps
 have l13:=hx.ok.len
 have n12:=hx.ok.n12
 have h2:2<=(edg (aU ps)).length:=sL ps
 generalize hE:edg (aU ps)=es at *
 refine⟨_,rfl,_,rfl,_,rfl,l,ws,rfl,SqL.of hl,λ m hm=>?_⟩
 have s2:=ai hm (.lst (cw ws (some 1) none))
 have ec:cw ws (some 1) none=ws.drop 1:=ky (by omega)
 rw[ec] at s2 ⊢
 refine⟨l,m,rfl,⟨_,SqL.of (s2 _ _ hl)⟩,⟨_,SqL.of ad⟩,λ D hD=>?_⟩
 have s12:=s1.trans s2
 have hx2:=hx.keep s12
 have shw2:=shw.keep s2
 refine uE (n:=es.length-1) (λ i zs H2=>PcL H2 ((dh es ps).take i) zs) hD (SqL.of (s2 _ _ hl)) (SqL.of ad) (by omega) (by simp;omega) (.inr (by simp;omega)) (Nat.le_of_lt (m8 (by omega))) rfl ?_ ?_
 ·rintro i u v zs H2 H3 k hi hu hv sm sm3 e r hk
  obtain⟨a,ea,sa⟩:=(shw2.keep sm).get (show es[i]? = some (es.getD i 0) by rw[List.getD_eq_getElem?_getD,List.getElem?_eq_getElem (show i<es.length by omega)]<;>rfl)
  obtain⟨b,eb,sb⟩:=(shw2.keep sm).get (show es[i+1]? = some (es.getD (i+1) 0) by rw[List.getD_eq_getElem?_getD,List.getElem?_eq_getElem (show i+1<es.length by omega)]<;>rfl)
  rw[hu] at ea
  cases ea
  rw[List.getElem?_drop,Nat.add_comm,eb] at hv
  cases hv
  have sa3:=sa.keep sm3
  have sb3:=sb.keep sm3
  refine⟨_,rfl,_,rfl,_,rfl,_,rfl,_,rfl,x,n,ps,a,b,_,_,rfl,(hx2.keep sm).keep sm3,sa3,sb3,λ w H4 s4 rv=>?_⟩
  refine⟨(by show 3<=sizeLine;decide),λ t ht=>?_⟩
  have s5:=ai ht (.tup [V.ref a,V.ref b,w])
  refine hk _ _ (s4.trans s5) ?_
  rw[oQ es ps hi]
  exact (((r.keep sm3).keep (s4.trans s5)).app (show PcL _ [_] [.ref t] from ⟨t,a,b,w,[],rfl,ad,(sa3.keep s4).keep s5,(sb3.keep s4).keep s5,rv.keep s5,rfl⟩)).write ((s4.trans s5) _ _ (sm3 _ _ e))
 ·rintro zs H2 sm e hz r
  rw[List.take_of_length_le (by rw[jX];exact Nat.le_refl _)] at r
  exact q D H2 zs (lT s12 hD) (s12.trans sm) e r
abbrev Cd:=Rat×Rat×Bool×Rat
def dD:Option Cd->Cd->Option Cd
 | none,c=>some c
 | some d,c=>if c.1<d.1 then some c else some d
def cL (n:Nat) (p:Pc):List Cd:=[(bz p.1 n p.2.2,p.1,true,p.2.1),(bz p.2.1 n p.2.2,p.2.1,false,p.1)]
def cN (n:Nat) (l:List Pc):Option Cd:=(l.flatMap (cL n)).foldl dD none
theorem qJ (n:Nat) (l:List Pc) (p:Pc):cN n (l++[p])=(cL n p).foldl dD (cN n l):=by
 unfold cN
 rw[List.flatMap_append,List.foldl_append]
 simp
theorem tH (o:Option Cd) (c:Cd):∃ d,dD o c=some d:=by
 cases o with
 | none=>exact⟨_,rfl⟩
 | some d =>
  show ∃ e,(if c.1<d.1 then some c else some d)=some e
  by_cases h:c.1<d.1
  ·exact⟨c,if_pos h⟩
  ·exact⟨d,if_neg h⟩
theorem lX:∀ (l:List Cd) (c:Cd),∃ d,l.foldl dD (some c)=some d
 | [],c=>⟨c,rfl⟩
 | e::l,c=>by
  obtain⟨d,hd⟩:=tH (some c) e
  rw[List.foldl_cons,hd]
  exact lX l d
theorem cV {n:Nat}{l:List Pc} (h:l≠[]):∃ c,cN n l=some c:=by
 cases l with
 | nil=>exact absurd rfl h
 | cons p l =>
  unfold cN
  rw[List.flatMap_cons]
  exact lX _ _
def jG (b:Bool):Str:=if b then "above" else "below"
structure CdA (H:Hp) (x:Addr) (c:Cd):Prop where
 ob:∃ t a f,H x=some (.tup [.ref t,.ref a,.str (jG c.2.2.1),.ref f])/\FrA H t c.1/\Shp H a c.2.1/\Shp H f c.2.2.2
theorem CdA.keep {H H':Hp}{x:Addr}{c:Cd} (h:CdA H x c) (s:ak H H'):CdA H' x c:=by
 obtain⟨t,a,f,e,h1,h2,h3⟩:=h.ob
 exact⟨t,a,f,s _ _ e,h1.keep s,h2.keep s,h3.keep s⟩
def CdV (H:Hp):Option Cd->V->Prop
 | none,v=>v=.non
 | some c,v=>∃ x,v=.ref x/\CdA H x c
theorem CdV.keep {H H':Hp} (s:ak H H'):∀ {o:Option Cd}{v:V},CdV H o v->CdV H' o v
 | none,_,h=>h
 | some _,_,⟨x,e,h⟩=>⟨x,e,h.keep s⟩
theorem jT {n:Nat}{p:Rat} (h0:0<=p) (h1:p<=1):∀ r,0<=bz p n r/\bz p n r<=1
 | none=>⟨by show (0:Rat)<=0;grind,by show (0:Rat)<=1;grind⟩
 | some z=>lO h0 h1 n z.1 z.2
theorem vU {p:Rat}{B:Nat} (h:Ov B p) (n:Nat):∀ r,Ov (B^n) (bz p n r)
 | none=>⟨0,by show (0:Rat)*_=_;grind⟩
 | some z=>rM h n z.1 z.2
theorem wY {H H':Hp}{a f:Addr}{p:Rat} (h:Shp H a p) {n:Nat} (hn:n<=12) {r:Option (Nat×Nat)} (e:H' f=some (.tup [.int (bz p n r).num,.int ((bz p n r).den:Int)])):FrA H' f (bz p n r) :=
 have u:=jT (n:=n) h.lo h.hi r
 xa e (vU (Ov.self p) n r) (h.pw (by omega)).1 (h.pw (by omega)).2 u.1 u.2
theorem tV {n:Nat}{ps:List (Rat×Rat)} (ok:di n ps) {es:List Rat}{p:Pc} (hp:p∈dh es ps):∀ z,p.2.2=some z->z.1<=z.2/\z.2<=n:=by
 unfold dh at hp
 obtain⟨k,_,rfl⟩:=List.mem_map.mp hp
 intro z hz
 exact vS ok hz
abbrev ci (ps:List (Rat×Rat)):List Pc:=dh (edg (aU ps)) ps
theorem eV (ps:List (Rat×Rat)):ci ps≠[]:=by
 intro h
 have h1:(ci ps).length=(edg (aU ps)).length-1:=jX _ _
 rw[h] at h1
 have:=sL ps
 have h2:([]:List Pc).length=0:=rfl
 omega
def vp:Sp:=λ vs H Q _=>∃ (x:Addr) (n:Nat) (ps:List (Rat×Rat)),vs = [.ref x]/\cq H x n ps/\∀ v H',ak H H'->CdV H' (cN n (ci ps)) v->Q v H'
theorem d8:aA ["rule","found","a","b","run","at","side","far","total"] ["rule"] (ag lF):=⟨rfl,rfl,rfl,by decide +kernel,rfl,by decide +kernel,by decide +kernel⟩
theorem AY {f:Addr}{fd:FuncData} (F:Fun K "least_place" "least_place" lF f fd) (T:Txt mg) {fpieces:Addr}{dpieces:FuncData} (Gpieces:ax P w K mg base CX0 6 fpieces dpieces ["rule"] oo) (bpieces:aE K dpieces ["rule"] []) (kpieces:PySem.W.keepIn K (.ref fpieces)=true) (mpieces:mg "pieces" = some (.ref fpieces)) {fsor:Addr}{dsor:FuncData} (Gsor:ax P w K mg base CX0 6 fsor dsor ["n","run","p"] zC) (bsor:aE K dsor ["n","run","p"] []) (ksor:PySem.W.keepIn K (.ref fsor)=true) (msor:mg "sum_of_run" = some (.ref fsor)) {fund:Addr}{dund:FuncData} (Gund:ax P w K mg base CX0 6 fund dund ["one","other"] ja) (bund:aE K dund ["one","other"] []) (kund:PySem.W.keepIn K (.ref fund)=true) (mund:mg "under" = some (.ref fund)):ax P w K mg base CX0 7 f fd ["rule"] vp:=by
 refine F.ok d8 (λ vs H Q E h=>?_) (λ cdv A outer s H vs Q E hr h=>?_)
 ·obtain⟨x,n,ps,rfl,_⟩:=h
  rfl
 obtain⟨x,n,ps,rfl,hx,q⟩:=h
 refine⟨_,(af (au (i:=1) d8.nd rfl (Or.inl rfl) d9)
  (af (bA PassesOwn.never rfl (cW (aj Gpieces hr rfl mpieces kpieces bpieces .nil aD (aa (pv 0) ac))) (fc rfl (aJ (az (i:=2) d8.nd rfl (Or.inl rfl)) (aJ (az (i:=3) d8.nd rfl (Or.inl rfl)) (aJ (az (i:=4) d8.nd rfl (Or.inl rfl)) bO)))) (ah (bA PassesOwn.never rfl (iT (aQ (aa (aQ (aa (pv 2) (aa bS (aa (pv 3) ac)))) (aa (aQ (aa (pv 3) (aa bS (aa (pv 2) ac)))) ac)))) (fc rfl (aJ (az (i:=5) d8.nd rfl (Or.inl rfl)) (aJ (az (i:=6) d8.nd rfl (Or.inl rfl)) (aJ (az (i:=7) d8.nd rfl (Or.inl rfl)) bO)))) (af (au (i:=8) d8.nd rfl (Or.inl rfl) (aj Gsor hr rfl msor ksor bsor .nil aD (aa (am aq (pv 0) ae (λ _ _=>rfl)) (aa (pv 4) (aa (pv 5) ac)))))
    (ah (br (PW.pt (cE (aG m7 (pv 1) d9 (aL _)) (cy (a9 (aj Gund hr rfl mund kund bund .nil aD (aa (pv 8) (aa (am aq (pv 1) ae (λ _ _=>rfl)) ac))))))) (ah (au (i:=1) d8.nd rfl (Or.inl rfl) (aQ (aa (pv 8) (aa (pv 5) (aa (pv 6) (aa (pv 7) ac))))))) aK))))))
  (ah (aB (pv 1))))),?_⟩
 have n12:=hx.ok.n12
 obtain⟨tt,zs,ex,et,row⟩:=hx.ob
 refine⟨_,rfl,x,n,ps,rfl,hx,λ l H1 ws _ s1 hl pcs=>?_⟩
 have lw:ws.length=(ci ps).length:=pcs.len
 refine⟨l,rfl,⟨_,SqL.of hl⟩,?_⟩
 refine eU (xs:=ws) (λ i σ H'=>ak H1 H'/\∃ v j1 j2 j3 j4 j5 j6 j7,σ = [some (.ref x),some v,j1,j2,j3,j4,j5,j6,j7]/\CdV H' (cN n ((ci ps).take i)) v) ⟨ak.refl H1,.non,none,none,none,none,none,none,none,rfl,rfl⟩ ?_ ?_ ?_
 ·rintro i σ H' hi ⟨sm,_⟩
  exact SqL.of (sm _ _ hl)
 ·rintro i y σ H2 hy ⟨sm,v,j1,j2,j3,j4,j5,j6,j7,rfl,cv⟩
  have hi:=(List.getElem?_eq_some_iff.mp hy).1
  have ep:=List.getElem?_eq_getElem (show i<(ci ps).length by omega)
  have rin:=tV hx.ok (List.mem_of_getElem? ep)
  obtain⟨t,a,b,w,f1,f2,f3,f4,f5⟩:=(pcs.keep sm).get ep
  rw[hy] at f1
  cases f1
  have tk:(ci ps).take (i+1)=(ci ps).take i++[(ci ps)[i]]:=by rw[List.take_add_one,ep];rfl
  rw[tk,qJ]
  generalize hpc:(ci ps)[i]=pc at *
  generalize hbo:cN n ((ci ps).take i)=bo at *
  refine⟨t,_,rfl,SqT.of f2,rfl,.ref a,_,rfl,.ref b,_,rfl,w,[],rfl,rfl,?_⟩
  refine⟨_,rfl,_,rfl,(by show 3<=sizeLine;decide),λ u1 h1=>⟨_,rfl,_,rfl,(by show 3<=sizeLine;decide),λ u2 h2=>⟨(by show 2<=sizeLine;decide),λ u3 h3=>?_⟩⟩⟩
  have t1:=ai h1 (.tup [V.ref a,V.str "above",V.ref b])
  have t2:=ai h2 (.tup [V.ref b,V.str "below",V.ref a])
  have t3:=ai h3 (.tup [V.ref u1,V.ref u2])
  have o1:=t3 _ _ (t2 _ _ (ad (H:=H2) (a:=u1) (o:=.tup [V.ref a,V.str "above",V.ref b])))
  have o2:=t3 _ _ (ad (H:=upd H2 u1 (.tup [V.ref a,V.str "above",V.ref b])) (a:=u2) (o:=.tup [V.ref b,V.str "below",V.ref a]))
  have o3:(upd (upd (upd H2 u1 (.tup [V.ref a,V.str "above",V.ref b])) u2 (.tup [V.ref b,V.str "below",V.ref a])) u3 (.tup [V.ref u1,V.ref u2])) u3=some (.tup [V.ref u1,V.ref u2]):=ad
  have t13:=(t1.trans t2).trans t3
  refine⟨u3,rfl,⟨_,SqT.of o3⟩,?_⟩
  generalize hH3:upd (upd (upd H2 u1 (.tup [V.ref a,V.str "above",V.ref b])) u2 (.tup [V.ref b,V.str "below",V.ref a])) u3 (.tup [V.ref u1,V.ref u2])=H3 at *
  refine jx (xs:=[V.ref u1,V.ref u2]) (λ j σ H'=>ak H3 H'/\∃ v k1 k2 k3 k4,σ = [some (.ref x),some v,some (.ref a),some (.ref b),some w,k1,k2,k3,k4]/\CdV H' (((cL n pc).take j).foldl dD bo) v) ⟨ak.refl H3,v,j4,j5,j6,j7,rfl,cv.keep t13⟩ ?_ ?_ ?_
  ·rintro j σ H' hj ⟨sm',_⟩
   exact SqT.of (sm' _ _ o3)
  ·rintro j z σ H4 hz ⟨sm',v',k1,k2,k3,k4,rfl,cv'⟩
   have s34:=t13.trans sm'
   obtain⟨uj,at_,far,c,rfl,e1,e2,e3,e4,e5⟩:∃ uj at_ far c,z=V.ref uj/\(cL n pc)[j]? = some c/\H3 uj=some (.tup [.ref at_,.str (jG c.2.2.1),.ref far])/\Shp H2 at_ c.2.1/\Shp H2 far c.2.2.2/\c.1=bz c.2.1 n pc.2.2:=by
    match j,hz with
    | 0,hz=>exact⟨u1,a,b,_,by simpa using hz.symm,rfl,o1,f3,f4,rfl⟩
    | 1,hz=>exact⟨u2,b,a,_,by simpa using hz.symm,rfl,o2,f4,f3,rfl⟩
   have tk':(cL n pc).take (j+1)=(cL n pc).take j++[c]:=by rw[List.take_add_one,e1];rfl
   rw[tk',List.foldl_append,List.foldl_cons,List.foldl_nil]
   generalize ((cL n pc).take j).foldl dD bo=o at *
   have sat:=e3.keep s34
   have sfar:=e4.keep s34
   refine⟨uj,_,rfl,SqT.of (sm' _ _ e2),rfl,.ref at_,_,rfl,.str (jG c.2.2.1),_,rfl,.ref far,[],rfl,rfl,?_⟩
   have ex4:=(s1.trans (sm.trans s34)) _ _ ex
   refine⟨_,rfl,x,_,0,_,rfl,rfl,SqT.of ex4,at0,_,rfl,_,rfl,n,w,pc.2.2,at_,c.2.1,rfl,f5.keep s34,sat,n12,rin,λ to H5 s5 hto=>?_⟩
   have fto:=wY sat n12 hto
   rw[<-e5] at fto
   have sm5:=sm'.trans s5
   cases o with
   | none =>
    have ev:v'=V.non:=cv'
    subst ev
    refine⟨_,rfl,rfl,_,rfl,bD (bD ?_)⟩
    refine⟨_,rfl,_,rfl,_,rfl,_,rfl,(by show 4<=sizeLine;decide),λ y hy=>?_⟩
    have s6:=ai hy (.tup [V.ref to,V.ref at_,V.str (jG c.2.2.1),V.ref far])
    exact⟨sm5.trans s6,_,_,_,_,_,rfl,y,rfl,to,at_,far,ad,fto.keep s6,(sat.keep s5).keep s6,(sfar.keep s5).keep s6⟩
   | some d =>
    obtain⟨yo,ev,⟨to',ao,fo,g1,g2,g3,g4⟩⟩:=cv'
    subst ev
    refine⟨_,rfl,rfl,_,rfl,aW ?_⟩
    refine⟨_,rfl,_,rfl,yo,_,0,_,rfl,rfl,SqT.of (s5 _ _ g1),at0,to,to',_,_,rfl,fto,g2.keep s5,_,rfl,?_⟩
    by_cases cc:c.1<d.1
    ·rw[decide_eq_true cc]
     refine bD ⟨_,rfl,_,rfl,_,rfl,_,rfl,(by show 4<=sizeLine;decide),λ y hy=>?_⟩
     have s6:=ai hy (.tup [V.ref to,V.ref at_,V.str (jG c.2.2.1),V.ref far])
     refine⟨sm5.trans s6,_,_,_,_,_,rfl,?_⟩
     show CdV _ (if c.1<d.1 then some c else some d) _
     rw[if_pos cc]
     exact⟨y,rfl,to,at_,far,ad,fto.keep s6,(sat.keep s5).keep s6,(sfar.keep s5).keep s6⟩
    ·rw[decide_eq_false cc]
     refine aW ⟨sm5,_,_,_,_,_,rfl,?_⟩
     show CdV _ (if c.1<d.1 then some c else some d) _
     rw[if_neg cc]
     exact⟨yo,rfl,to',ao,fo,s5 _ _ g1,g2.keep s5,g3.keep s5,g4.keep s5⟩
  ·rintro σ H4 ⟨sm',v',k1,k2,k3,k4,rfl,cv'⟩
   exact⟨(sm.trans t13).trans sm',_,_,_,_,_,_,_,_,rfl,cv'⟩
 ·rintro σ H2 ⟨sm,v,j1,j2,j3,j4,j5,j6,j7,rfl,cv⟩
  rw[lw,List.take_length] at cv
  exact⟨_,rfl,q v H2 (s1.trans sm) cv⟩
def rh:Sp:=λ vs H Q _=>∃ (x:Addr) (n:Nat) (ps:List (Rat×Rat)),vs = [.ref x]/\cq H x n ps/\∀ c y t a H',cN n (ci ps)=some c->ak H H'->H' y=some (.tup [.ref t,.ref a,.str (jG c.2.2.1)])->FrA H' t c.1->Shp H' a c.2.1->Q (.ref y) H'
theorem at2 {x y z:V}{xs:List V}:atI (x::y::z::xs) 2=some z:=bx (xs:=x::y::z::xs) (j:=2) rfl
theorem oD:aA ["rule","place"] ["rule"] (ag gr):=⟨rfl,rfl,rfl,by decide +kernel,rfl,by decide +kernel,by decide +kernel⟩
theorem wu {f:Addr}{fd:FuncData} (F:Fun K "least" "least" gr f fd) (T:Txt mg) {flpl:Addr}{dlpl:FuncData} (Glpl:ax P w K mg base CX0 7 flpl dlpl ["rule"] vp) (blpl:aE K dlpl ["rule"] []) (klpl:PySem.W.keepIn K (.ref flpl)=true) (mlpl:mg "least_place" = some (.ref flpl)):ax P w K mg base CX0 8 f fd ["rule"] rh:=by
 refine F.ok oD (λ vs H Q E h=>?_) (λ cdv A outer s H vs Q E hr h=>?_)
 ·obtain⟨x,n,ps,rfl,_⟩:=h
  rfl
 obtain⟨x,n,ps,rfl,hx,q⟩:=h
 refine⟨_,(af (au (i:=1) oD.nd rfl (Or.inl rfl) (aj Glpl hr rfl mlpl klpl blpl .nil aD (aa (pv 0) ac)))
  (ah (aB (aQ (aa (am aq (pv 1) ae (λ _ _=>rfl)) (aa (am aq (pv 1) ae (λ _ _=>rfl)) (aa (am aq (pv 1) ae (λ _ _=>rfl)) ac))))))),?_⟩
 obtain⟨c,hc⟩:=cV (n:=n) (eV ps)
 refine⟨_,rfl,x,n,ps,rfl,hx,λ v H1 s1 cv=>?_⟩
 rw[hc] at cv
 obtain⟨y,ev,⟨t,a,f,g1,g2,g3,g4⟩⟩:=cv
 subst ev
 refine⟨_,rfl,y,_,0,_,rfl,rfl,SqT.of g1,at0,_,rfl,y,_,1,_,rfl,rfl,SqT.of g1,at1,_,rfl,y,_,2,_,rfl,rfl,SqT.of g1,at2,(by show 3<=sizeLine;decide),λ z hz=>?_⟩
 have s2:=ai hz (.tup [V.ref t,V.ref a,V.str (jG c.2.2.1)])
 exact q c z t a _ hc (s1.trans s2) ad (g2.keep s2) (g3.keep s2)
structure FqA (H:Hp) (f:Addr) (r:Rat):Prop where
 ob:∃ t b:Int,H f=some (.tup [.int t,.int b])/\0<b/\r*(b:Rat)=(t:Rat)/\Smk t/\Smk b
theorem FqA.keep {H H':Hp}{f:Addr}{r:Rat} (h:FqA H f r) (s:ak H H'):FqA H' f r:=by
 obtain⟨t,b,e,h1,h2,h3,h4⟩:=h.ob
 exact⟨t,b,s _ _ e,h1,h2,h3,h4⟩
def BQ:Sp:=λ vs H Q _=>∃ t b:Int,vs = [.int t,.int b]/\0<=t/\0<b/\Smk b/\∀ a H',ak H H'->H' a=some (.tup [.int (rq t b).num,.int ((rq t b).den:Int)])->Q (.ref a) H'
theorem gZ {t b:Int} (hb:0<b):rq t b*(b:Rat)=(t:Rat):=by
 have hq : (b : Rat) ≠ 0 := by intro e; have : b = 0 := by exact_mod_cast e
                               omega
 unfold rq
 grind
theorem rN {t b:Int} (t0:0<=t) (t1:t<=b) (hb:0<b):0<=rq t b/\rq t b<=1:=by
 have e:=gZ (t:=t) hb
 have bp:(0:Rat)<(b:Rat):=by exact_mod_cast hb
 have tq:(0:Rat)<=(t:Rat):=by exact_mod_cast t0
 have lq:(t:Rat)<=(b:Rat):=by exact_mod_cast t1
 have n0:0<=rq t b:=bE bp (by grind)
 have n1:0<=1-rq t b:=bE bp (by grind)
 exact⟨n0,by grind⟩
theorem mF {H:Hp}{a:Addr}{t b:Int}{m:Nat} (t0:0<=t) (t1:t<=b) (hb:0<b) (sb:Sz m b) (hm:m<=300) (e:H a=some (.tup [.int (rq t b).num,.int ((rq t b).den:Int)])):Shp H a (rq t b)/\Sz m ((rq t b).den:Int) :=
 ⟨⟨e,(rN t0 t1 hb).1,(rN t0 t1 hb).2,(p8 t0 t1 hb sb).mono hm⟩,p8 t0 t1 hb sb⟩
theorem vN:aA ["_law_step","_law_measure","_law_by"] ["_law_step","_law_measure"] (ag lG):=⟨rfl,rfl,rfl,by decide +kernel,rfl,by decide +kernel,by decide +kernel⟩
theorem AZ {f:Addr}{fd:FuncData} (F:Fun K "_law_fraction" "_law_fraction" lG f fd) (T:Txt mg) {fdv:Addr}{ddv:FuncData} (Gdv:ax P w K mg base CX0 1 fdv ddv ["_law_one","_law_other"] vt) (bdv:aE K ddv ["_law_one","_law_other"] []) (kdv:PySem.W.keepIn K (.ref fdv)=true) (mdv:mg "_law_divisor" = some (.ref fdv)):ax P w K mg base CX0 2 f fd ["_law_step","_law_measure"] BQ:=by
 refine F.ok vN (λ vs H Q E h=>?_) (λ cdv A outer s H vs Q E hr h=>?_)
 ·obtain⟨t,b,rfl,_⟩:=h
  rfl
 obtain⟨t,b,rfl,t0,b0,sB,q⟩:=h
 refine⟨_,(af (au (i:=2) vN.nd rfl (Or.inl rfl) (aj Gdv hr rfl mdv kdv bdv .nil aD (aa (pv 0) (aa (pv 1) ac))))
  (ah (aB (aQ (aa (ar eL (pv 0) (pv 2)) (aa (ar eL (pv 1) (pv 2)) ac)))))),?_⟩
 have nd:=nD (t:=t) (b:=b) (by omega)
 have sd:=rl (a:=t) (b:=b) (by omega) sB
 have fd:=yW (a:=t) b0
 rw[fd] at nd sd
 refine⟨_,rfl,_,rfl,t,b,rfl,t0,by omega,?_⟩
 refine⟨_,rfl,_,rfl,_,_,rfl,rfl,⟨nd,sd⟩,_,rfl,_,rfl,_,_,rfl,rfl,⟨nd,sd⟩,(by show 2<=sizeLine;decide),λ p3 h3=>?_⟩
 obtain⟨f1,f2⟩:=ef (Int.ne_of_gt b0) (gZ (t:=t) b0)
 unfold frT at f1
 unfold frB at f2
 rw[fd] at f1 f2
 refine q p3 _ (ai h3 _) ?_
 rw[ad]
 show some (HO.tup [V.int (t.fdiv (Int.gcd t b:Int)),V.int (b.fdiv (Int.gcd t b:Int))])=_
 rw[f1,f2]
theorem yJ {n:Nat}{ps:List (Rat×Rat)} (ok:di n ps) {k:Nat}{a b:Rat} (ea:(edg (aU ps))[k]? = some a) (eb:(edg (aU ps))[k+1]? = some b) {p:Rat} (h1:a<p) (h2:p<b):bn ps p p=bn ps a b:=by
 obtain⟨i1,i2⟩:=eA (aU ps)
 obtain⟨_,gap⟩:=ny i1 ea eb
 have mem1:∀ x∈bj ps,x∈edg (aU ps):=λ x hx=>by
  obtain⟨z,hz,rfl⟩:=List.mem_map.mp hx
  refine (i2 _).mpr (List.mem_cons_of_mem _ (List.mem_cons_of_mem _ (List.mem_flatMap.mpr ⟨z,hz,?_⟩)))
  simp
 have mem2:∀ x∈bw ps,x∈edg (aU ps):=λ x hx=>by
  obtain⟨z,hz,rfl⟩:=List.mem_map.mp hx
  refine (i2 _).mpr (List.mem_cons_of_mem _ (List.mem_cons_of_mem _ (List.mem_flatMap.mpr ⟨z,hz,?_⟩)))
  simp
 have u1:aR p (bj ps)=aR a (bj ps):=kU ok.lows (by grind) λ x hx c=>gap x (mem1 x hx) ⟨c.1,by grind⟩
 have u2:aF p (bw ps)=aF b (bw ps):=kb ok.highs (by grind) λ x hx c=>gap x (mem2 x hx) ⟨by grind,c.2⟩
 unfold bn
 rw[u1,u2]
theorem o0 {ps:List (Rat×Rat)}{k:Nat}{a b:Rat} (ea:(edg (aU ps))[k]? = some a) (eb:(edg (aU ps))[k+1]? = some b) :
  a<b/\(∀ x∈bj ps,¬ (a<x/\x<b))/\∀ x∈bw ps,¬ (a<x/\x<b):=by
 obtain⟨i1,i2⟩:=eA (aU ps)
 obtain⟨h,gap⟩:=ny i1 ea eb
 refine⟨h,λ x hx=>gap x ?_,λ x hx=>gap x ?_⟩
 ·obtain⟨z,hz,rfl⟩:=List.mem_map.mp hx
  refine (i2 _).mpr (List.mem_cons_of_mem _ (List.mem_cons_of_mem _ (List.mem_flatMap.mpr ⟨z,hz,?_⟩)))
  simp
 ·obtain⟨z,hz,rfl⟩:=List.mem_map.mp hx
  refine (i2 _).mpr (List.mem_cons_of_mem _ (List.mem_cons_of_mem _ (List.mem_flatMap.mpr ⟨z,hz,?_⟩)))
  simp
theorem kq:∀ (l:List Cd) (o:Option Cd) (c:Cd),l.foldl dD o=some c->(∀ d∈l,c.1<=d.1)/\(∀ e,o=some e->c.1<=e.1)/\(c∈l∨o=some c)
 | [],o,c,h=>⟨λ d hd=>(by cases hd),λ e he=>(by rw[List.foldl_nil] at h;rw[he] at h;cases h;grind),.inr h⟩
 | d::l,o,c,h=>by
  rw[List.foldl_cons] at h
  obtain⟨h1,h2,h3⟩:=kq l (dD o d) c h
  have key:c.1<=d.1/\(∀ e,o=some e->c.1<=e.1)/\(dD o d=some d∨∃ e,o=some e/\dD o d=some e):=by
   cases o with
   | none=>exact⟨h2 d rfl,λ e he=>(by cases he),.inl rfl⟩
   | some e =>
    by_cases cc:d.1<e.1
    ·have es:dD (some e) d=some d:=if_pos cc
     have:=h2 d es
     exact⟨this,λ e' he=>(by cases he;grind),.inl es⟩
    ·have es:dD (some e) d=some e:=if_neg cc
     have:=h2 e es
     exact⟨by grind,λ e' he=>(by cases he;exact this),.inr ⟨e,rfl,es⟩⟩
  refine⟨λ x hx=>?_,key.2.1,?_⟩
  ·rcases List.mem_cons.mp hx with rfl | hx
   ·exact key.1
   ·exact h1 x hx
  ·rcases h3 with h3 | h3
   ·exact .inl (List.mem_cons_of_mem _ h3)
   ·rcases key.2.2 with k | ⟨e,ke,k⟩
    ·rw[k] at h3
     cases h3
     exact .inl (List.mem_cons_self ..)
    ·rw[k] at h3
     cases h3
     exact .inr ke
theorem xv {ps:List (Rat×Rat)}{k:Nat}{a b:Rat} (ea:(edg (aU ps))[k]? = some a) (eb:(edg (aU ps))[k+1]? = some b):(a,b,bn ps a b)∈ci ps:=by
 have hk:=(List.getElem?_eq_some_iff.mp eb).1
 refine List.mem_map.mpr ⟨k,List.mem_range.mpr (by omega),?_⟩
 have e1:(edg (aU ps)).getD k 0=a:=by rw[List.getD_eq_getElem?_getD,ea];rfl
 have e2:(edg (aU ps)).getD (k+1) 0=b:=by rw[List.getD_eq_getElem?_getD,eb];rfl
 rw[e1,e2]
theorem zr {n:Nat}{ps:List (Rat×Rat)} (ok:di n ps) {c:Cd} (hc:cN n (ci ps)=some c) {p:Rat} (h0:0<=p) (h1:p<=1) (pin:∀ x∈aU ps,0<=x/\x<=1):c.1<=bz p n (bn ps p p):=by
 obtain⟨m1,_,_⟩:=kq _ _ _ hc
 obtain⟨i1,i2⟩:=eA (aU ps)
 obtain⟨k,a,b,ea,eb,ha,hb⟩:=pd i1 ((i2 0).mpr (List.mem_cons_self ..)) ((i2 1).mpr (List.mem_cons_of_mem _ (List.mem_cons_self ..))) h0 h1
 have hin:=xv ea eb
 have cA:c.1<=bz a n (bn ps a b):=m1 (bz a n (bn ps a b),a,true,b) (List.mem_flatMap.mpr ⟨_,hin,by simp [cL]⟩)
 have cB:c.1<=bz b n (bn ps a b):=m1 (bz b n (bn ps a b),b,false,a) (List.mem_flatMap.mpr ⟨_,hin,by simp [cL]⟩)
 have a01:=pin a ((i2 a).mp (List.mem_of_getElem? ea))
 have b01:=pin b ((i2 b).mp (List.mem_of_getElem? eb))
 obtain⟨_,gl,gh⟩:=o0 ea eb
 rw[d7] at cA cB ⊢
 by_cases c1:a=p
 ·subst c1
  have:=l8 (n:=n) (ls:=bj ps) (hs:=bw ps) (a:=a) (b:=b) (a':=a) (b':=a) (p:=a) h0 h1 (by grind) hb
  grind
 ·by_cases c2:p=b
  ·subst c2
   have:=l8 (n:=n) (ls:=bj ps) (hs:=bw ps) (a:=a) (b:=p) (a':=p) (b':=p) (p:=p) h0 h1 ha (by grind)
   grind
  ·have:=(uD (n:=n) ok.lows ok.highs (by rw[List.length_map,ok.len];exact Nat.le_refl _) (by rw[List.length_map,ok.len];exact Nat.le_refl _) a01.1 b01.2 (show a<p by grind) (show p<b by grind) gl gh).2
   grind
theorem sX {n:Nat}{ps:List (Rat×Rat)}{c:Cd} (hc:cN n (ci ps)=some c):∃ (k:Nat) (a b:Rat),(edg (aU ps))[k]? = some a/\(edg (aU ps))[k+1]? = some b/\(c=(bz a n (bn ps a b),a,true,b)∨c=(bz b n (bn ps a b),b,false,a)):=by
 obtain⟨_,_,m3⟩:=kq _ _ _ hc
 rcases m3 with m3 | m3
 ·obtain⟨p,hp,hcp⟩:=List.mem_flatMap.mp m3
  obtain⟨k,hk,rfl⟩:=List.mem_map.mp hp
  have hk':=List.mem_range.mp hk
  refine⟨k,(edg (aU ps)).getD k 0,(edg (aU ps)).getD (k+1) 0,by rw[List.getD_eq_getElem?_getD,List.getElem?_eq_getElem (show k<(edg (aU ps)).length by omega)]<;>rfl,by rw[List.getD_eq_getElem?_getD,List.getElem?_eq_getElem (show k+1<(edg (aU ps)).length by omega)]<;>rfl,?_⟩
  simpa [cL] using hcp
 ·cases m3
theorem mj {n:Nat}{ps:List (Rat×Rat)} (ok:di n ps) {k:Nat}{a b p:Rat} (ea:(edg (aU ps))[k]? = some a) (eb:(edg (aU ps))[k+1]? = some b) (pin:∀ x∈aU ps,0<=x/\x<=1) (h1:a<p) (h2:p<b) :
  bz p n (bn ps p p)<=bz a n (bn ps a b)+(n:Rat)*(p-a)/\bz p n (bn ps p p)<=bz b n (bn ps a b)+(n:Rat)*(b-p):=by
 obtain⟨i1,i2⟩:=eA (aU ps)
 have a01:=pin a ((i2 a).mp (List.mem_of_getElem? ea))
 have b01:=pin b ((i2 b).mp (List.mem_of_getElem? eb))
 rw[yJ ok ea eb h1 h2]
 cases hr:bn ps a b with
 | none =>
  have z1:(0:Rat)<=(n:Rat)*(p-a):=Rat.mul_nonneg (by exact_mod_cast Nat.zero_le n) (by grind)
  have z2:(0:Rat)<=(n:Rat)*(b-p):=Rat.mul_nonneg (by exact_mod_cast Nat.zero_le n) (by grind)
  show (0:Rat)<=0+_/\(0:Rat)<=0+_
  grind
 | some z =>
  obtain⟨z1,z2⟩:=vS ok hr
  show dg p n z.1 z.2<=dg a n z.1 z.2+_/\dg p n z.1 z.2<=dg b n z.1 z.2+_
  rw[dY z1,dY z1,dY z1]
  have l1:=mU a01.1 (show a<=p by grind) (by grind) n (show z.1<=z.2+1 by omega)
  have l2:=mU (show 0<=p by grind) (show p<=b by grind) b01.2 n (show z.1<=z.2+1 by omega)
  grind
def xQ:Sp:=λ _ _ _ _=>False
theorem xY:aA ["rule","share","at","far","too_few","enough","middle"] ["rule","share","at","far"] (ag iM):=⟨rfl,rfl,rfl,by decide +kernel,rfl,by decide +kernel,by decide +kernel⟩
theorem yD {f:Addr}{fd:FuncData} (F:Fun K "share_lacking" "share_lacking" iM f fd) (T:Txt mg):ax P w K mg base CX0 7 f fd ["rule","share","at","far"] xQ:=F.ok xY (λ vs H Q E h=>h.elim) (λ cdv A outer s H vs Q E hr h=>h.elim)
theorem Au:aA ["rule","p"] ["rule","p"] (ag lI):=⟨rfl,rfl,rfl,by decide +kernel,rfl,by decide +kernel,by decide +kernel⟩
theorem A2 {f:Addr}{fd:FuncData} (F:Fun K "cover" "cover" lI f fd) (T:Txt mg):ax P w K mg base CX0 7 f fd ["rule","p"] xQ:=F.ok Au (λ vs H Q E h=>h.elim) (λ cdv A outer s H vs Q E hr h=>h.elim)
def vi:Sp:=λ vs H Q _=>∃ (x a:Addr) (n:Nat) (ps:List (Rat×Rat)) (r:Rat),vs = [.ref x,.ref a]/\cq H x n ps/\FrA H a r/\(∀ c,cN n (ci ps)=some c->r<=c.1)/\∀ y u H',ak H H'->H' y=some (.tup [.str "sure",.ref u])->Q (.ref y) H'
theorem mG:aA ["rule","share","place","p"] ["rule","share"] (ag iI):=⟨rfl,rfl,rfl,by decide +kernel,rfl,by decide +kernel,by decide +kernel⟩
theorem yy {f:Addr}{fd:FuncData} (F:Fun K "sure" "sure" iI f fd) (T:Txt mg) {flpl:Addr}{dlpl:FuncData} (Glpl:ax P w K mg base CX0 7 flpl dlpl ["rule"] vp) (blpl:aE K dlpl ["rule"] []) (klpl:PySem.W.keepIn K (.ref flpl)=true) (mlpl:mg "least_place" = some (.ref flpl)) {fund:Addr}{dund:FuncData} (Gund:ax P w K mg base CX0 7 fund dund ["one","other"] ja) (bund:aE K dund ["one","other"] []) (kund:PySem.W.keepIn K (.ref fund)=true) (mund:mg "under" = some (.ref fund)) {flack:Addr}{dlack:FuncData} (Glack:ax P w K mg base CX0 7 flack dlack ["rule","share","at","far"] xQ) (black:aE K dlack ["rule","share","at","far"] []) (klack:PySem.W.keepIn K (.ref flack)=true) (mlack:mg "share_lacking" = some (.ref flack)) {fkov:Addr}{dkov:FuncData} (Gkov:ax P w K mg base CX0 7 fkov dkov ["rule","p"] xQ) (bkov:aE K dkov ["rule","p"] []) (kkov:PySem.W.keepIn K (.ref fkov)=true) (mkov:mg "cover" = some (.ref fkov)):ax P w K mg base CX0 8 f fd ["rule","share"] vi:=by
 refine F.ok mG (λ vs H Q E h=>?_) (λ cdv A outer s H vs Q E hr h=>?_)
 ·obtain⟨x,a,n,ps,r,rfl,_⟩:=h
  rfl
 obtain⟨x,a,n,ps,r,rfl,hx,fa,hb,q⟩:=h
 refine⟨_,(af (au (i:=2) mG.nd rfl (Or.inl rfl) (aj Glpl hr rfl mlpl klpl blpl .nil aD (aa (pv 0) ac)))
  (af (br (bK (a9 (aj Gund hr rfl mund kund bund .nil aD (aa (am aq (pv 2) ae (λ _ _=>rfl)) (aa (pv 1) ac))))) (ah (aB (aQ (aa bS (aa (am aq (pv 2) ae (λ _ _=>rfl)) ac))))) aK)
  (af (au (i:=3) mG.nd rfl (Or.inl rfl) (aj Glack hr rfl mlack klack black .nil aD (aa (pv 0) (aa (pv 1) (aa (am aq (pv 2) ae (λ _ _=>rfl)) (aa (am aq (pv 2) ae (λ _ _=>rfl)) ac))))))
  (ah (aB (aQ (aa bS (aa (pv 3) (aa (aj Gkov hr rfl mkov kkov bkov .nil aD (aa (pv 0) (aa (pv 3) ac))) ac))))))))),?_⟩
 obtain⟨c,hc⟩:=cV (n:=n) (eV ps)
 refine⟨_,rfl,x,n,ps,rfl,hx,λ v H1 s1 cv=>?_⟩
 rw[hc] at cv
 obtain⟨y,ev,⟨t,a',f,g1,g2,g3,g4⟩⟩:=cv
 subst ev
 refine⟨_,rfl,y,_,0,_,rfl,rfl,SqT.of g1,at0,_,rfl,t,a,_,_,rfl,g2,fa.keep s1,_,rfl,?_⟩
 have:=hb c hc
 rw[decide_eq_false (by grind:¬ c.1<r)]
 refine bD ⟨_,rfl,y,_,0,_,rfl,rfl,SqT.of g1,at0,(by show 2<=sizeLine;decide),λ z hz=>?_⟩
 exact q z t _ (s1.trans (ai hz _)) ad
def thP (p:Rat×Rat):Th:=.tup [.tup [.int p.1.num,.int (p.1.den:Int)],.tup [.int p.2.num,.int (p.2.den:Int)]]
theorem iu {H:Hp}:∀ {ps:List (Rat×Rat)}{zs:List V},cK H ps zs->bH H (ps.map thP) zs
 | [],_,h=>h
 | _::_,_,⟨a,la,ha,ys,e,h0,h1,h2,h3⟩=>⟨.ref a,ys,e,uA h0 (fU h1.ob) (fU h2.ob),iu h3⟩
theorem xj {H:Hp}{x:Addr}{n:Nat}{ps:List (Rat×Rat)} (h:cq H x n ps):Den H (.tup [.int (n:Int),.tup (ps.map thP)]) (.ref x):=by
 obtain⟨⟨t,zs,hx,ht,row⟩,_⟩:=h
 exact uA hx rfl ⟨t,zs,rfl,ht,iu row⟩
theorem og {f:Nat->Rat}{n:Nat} (h:∀ k,k+1<=n->f k<=f (k+1)):∀ d i,i+d<=n->f i<=f (i+d)
 | 0,i,_=>Rat.le_refl
 | d+1,i,hd=>by
  have a:=og h d i (by omega)
  have b:=h (i+d) (by omega)
  rw[<-Nat.add_assoc]
  grind
theorem oa {f:Nat->Rat}{n:Nat} (h:∀ k,k+1<=n->f k<=f (k+1)):Up ((List.range (n+1)).map f):=by
 refine List.pairwise_iff_getElem.mpr λ i j hi hj hij=>?_
 simp only[List.length_map,List.length_range] at hi hj
 rw[List.getElem_map,List.getElem_map,List.getElem_range,List.getElem_range]
 have:=og h (j-i) i (by omega)
 rw[show i+(j-i)=j by omega] at this
 exact this
theorem vV {t b:Int}{B:Nat} (e:b=(B:Int)) (hb:0<b):Ov B (rq t b):=⟨t,by have:=gZ (t:=t) hb;rw[e] at this ⊢;rw[Rat.intCast_natCast] at this;exact this⟩
theorem yh {H:Hp}{ps:List (Rat×Rat)}{xs:List V} (h:cK H ps xs):∀ x∈aU ps,0<=x/\x<=1:=λ x hx=>by
 unfold aU at hx
 simp only[List.mem_cons,List.mem_flatMap,List.not_mem_nil,or_false] at hx
 rcases hx with rfl | rfl | ⟨p,hp,hx⟩
 ·decide +kernel
 ·decide +kernel
 ·obtain⟨i,hi⟩:=List.mem_iff_getElem?.mp hp
  obtain⟨_,_,_,_,_,f1,f2⟩:=h.get hi
  rcases hx with rfl | rfl
  ·exact⟨f1.lo,f1.hi⟩
  ·exact⟨f2.lo,f2.hi⟩
theorem se {X:Cx}{xe:Value->Shared->Prop}{pn:List (Addr×Obj)}:IxR (X.tried xe pn) (yl X.K):=aq
def sqR (p:Rat×Rat):Sq:=(fqR p.1,fqR p.2)
theorem rE {p:Rat} (h0:0<=p) (h1:p<=1):cx (ppT (fqR p))=true:=by
 have d1:(1:Int)<=(p.den:Int):=by have:=p.den_pos;omega
 have n0:0<=p.num:=(eH p).mpr h0
 have n1:p.num<=(p.den:Int):=(lR p).mpr h1
 have g:Int.gcd p.num (p.den:Int)=1:=p.reduced
 show (true && (decide ((1:Int)<=(p.den:Int)) && (decide (0<=p.num) && (decide (p.num<=(p.den:Int)) && decide (Int.gcd p.num (p.den:Int)=1)))))=true
 rw[decide_eq_true d1,decide_eq_true n0,decide_eq_true n1,decide_eq_true g]
 rfl
theorem jK {p:Rat} (h:cx (ppT (fqR p))=true):0<=p/\p<=1:=by
 have h':(true && (decide ((1:Int)<=(p.den:Int)) && (decide (0<=p.num) && (decide (p.num<=(p.den:Int)) && decide (Int.gcd p.num (p.den:Int)=1)))))=true:=h
 simp only[Bool.and_eq_true,decide_eq_true_eq] at h'
 exact⟨(eH p).mp h'.2.2.1,(lR p).mp h'.2.2.2.1⟩
theorem gW {p:Fq} (h:cx (ppT p)=true):gX (ppT p)=some p:=by
 unfold gX
 rw[if_pos h]
 rfl
def Shs (s:Sq):Prop:=cx (ppT s.1)=true/\cx (ppT s.2)=true
theorem Ap {s:Sq} (h:Shs s):st2 (ssT s)=some s:=by
 show ((gX (ppT s.1)).bind λ p=>(gX (ppT s.2)).bind λ q=>some (p,q))=some s
 rw[gW h.1,gW h.2]
 rfl
theorem om {s s':Sq} (h:st2 (ssT s)=some s'):Shs s/\s'=s:=by
 have h':((gX (ppT s.1)).bind λ p=>(gX (ppT s.2)).bind λ q=>some (p,q))=some s':=h
 cases h1:cx (ppT s.1) with
 | false=>rw[rF h1] at h';cases h'
 | true =>
  cases h2:cx (ppT s.2) with
  | false=>rw[gW h1,rF h2] at h';cases h'
  | true=>rw[gW h1,gW h2] at h';exact⟨⟨h1,h2⟩,(Option.some.inj h').symm⟩
structure IsR (qs:List (Rat×Rat)):Prop where
 inn:∀ p∈qs,0<=p.1/\p.1<=p.2/\p.2<=1
 ris:∀ i p q,qs[i]? = some p->qs[i+1]? = some q->p.1<=q.1/\p.2<=q.2
def thL (qs:List (Rat×Rat)):List Th:=(qs.map sqR).map ssT
theorem uY {qs:List (Rat×Rat)}{i:Nat}{p:Rat×Rat} (h:qs[i]? = some p):(thL qs)[i]? = some (ssT (sqR p)):=by
 unfold thL
 rw[List.getElem?_map,List.getElem?_map,h]
 rfl
theorem xK (qs:List (Rat×Rat)):(thL qs).length=qs.length:=by unfold thL;simp
theorem kf {n:Int}{qs:List (Rat×Rat)}{S:Th} (e:dG S=some (thL qs)) (h1:1<=n) (h12:n<=12) (hl:(qs.length:Int)=n+1) (h:IsR qs):gH (.int n) S n (qs.map sqR) where
 a:=rfl
 seq:=⟨_,e,by
  unfold thL
  rw[List.map_map]
  refine List.map_congr_left λ s hs=>?_
  obtain⟨p,hp,rfl⟩:=List.mem_map.mp hs
  obtain⟨a,b,c⟩:=h.inn p hp
  exact Ap ⟨rE a (by grind),rE (by grind) c⟩⟩
 n1:=h1
 n12:=h12
 len:=by rw[List.length_map];exact hl
 inn:=λ s hs=>by
  obtain⟨p,hp,rfl⟩:=List.mem_map.mp hs
  obtain⟨a,b,c⟩:=h.inn p hp
  show fH (fqR p.2) (fqR p.1)=false
  rw[oh]
  exact decide_eq_false (by grind)
 ris:=λ i s t hs ht=>by
  rw[List.getElem?_map] at hs ht
  cases e1:qs[i]? with
  | none=>rw[e1] at hs;cases hs
  | some p =>
   cases e2:qs[i+1]? with
   | none=>rw[e2] at ht;cases ht
   | some q =>
    rw[e1] at hs
    rw[e2] at ht
    cases hs
    cases ht
    obtain⟨a1,a2⟩:=h.ris i p q e1 e2
    constructor
    ·show fH (fqR q.1) (fqR p.1)=false
     rw[oh]
     exact decide_eq_false (by grind)
    ·show fH (fqR q.2) (fqR p.2)=false
     rw[oh]
     exact decide_eq_false (by grind)
theorem nA {A S:Th}{n:Int}{ps:List Sq}{qs:List (Rat×Rat)} (e:dG S=some (thL qs)) (g:gH A S n ps) {i:Nat}{p:Rat×Rat} (h:qs[i]? = some p):ps[i]? = some (sqR p)/\Shs (sqR p):=by
 obtain⟨ts,e1,e2⟩:=g.seq
 rw[e] at e1
 cases e1
 obtain⟨s,y1,y2⟩:=qi e2 (uY h)
 obtain⟨z1,rfl⟩:=om y2
 exact⟨y1,z1⟩
theorem iW {p q:Rat} (h:fH (fqR p) (fqR q)=false):q<=p:=by
 rw[oh] at h
 have:=of_decide_eq_false h
 grind
theorem wT {A S:Th}{n:Int}{ps:List Sq}{qs:List (Rat×Rat)} (e:dG S=some (thL qs)) (g:gH A S n ps):IsR qs where
 inn:=λ p hp=>by
  obtain⟨i,hi⟩:=List.mem_iff_getElem?.mp hp
  obtain⟨y1,y2,y3⟩:=nA e g hi
  have:=iW (g.inn _ (List.mem_of_getElem? y1))
  exact⟨(jK y2).1,this,(jK y3).2⟩
 ris:=λ i p q hp hq=>by
  obtain⟨u1,u2⟩:=g.ris i _ _ (nA e g hp).1 (nA e g hq).1
  exact⟨iW u1,iW u2⟩
theorem sH {A S:Th}{n n':Int}{ps ps':List Sq} (g:gH A S n ps) (g':gH A S n' ps'):n'=n/\ps'=ps:=by
 have e:=g.a.symm.trans g'.a
 injection e with e
 obtain⟨ts,e1,e2⟩:=g.seq
 obtain⟨ts',y1,y2⟩:=g'.seq
 rw[e1] at y1
 cases y1
 exact⟨e.symm,jC (y2.symm.trans e2)⟩
def SmR (m:Nat) (r:Rat):Prop:=Sz m r.num/\Sz m (r.den:Int)
def SmQ (m:Nat) (qs:List (Rat×Rat)):Prop:=∀ p∈qs,SmR m p.1/\SmR m p.2
theorem SmR.mono {m n:Nat}{r:Rat} (h:SmR m r) (k:m<=n):SmR n r:=⟨h.1.mono k,h.2.mono k⟩
theorem SmR.fr {m:Nat}{r:Rat} (h:SmR m r) (k:m<=4400) {H:Hp}{f:Addr} (e:H f=some (.tup [.int r.num,.int (r.den:Int)])):FrA H f r:=⟨e,h.1.mono k,h.2.mono k⟩
theorem SmR.fq {m:Nat}{r:Rat} (h:SmR m r) (k:m<=4400) {H:Hp}{f:Addr} (e:H f=some (.tup [.int r.num,.int (r.den:Int)])):FqA H f r:=⟨_,_,e,fP r,by have:=bR r;rw[Rat.intCast_natCast];exact this,h.1.smk (by omega),h.2.smk (by omega)⟩
theorem qd {t b:Int} (hb:0<b):rq t b*(b:Rat)=(t:Rat):=by
 have hq : (b : Rat) ≠ 0 := by intro e; have : b = 0 := by exact_mod_cast e
                               omega
 unfold rq
 grind
theorem SmR.rq {m:Nat}{t b:Int} (hb:0<b) (st:Sz m t) (sb:Sz m b):SmR m (rq t b):=by
 obtain⟨f1,f2⟩:=ef (Int.ne_of_gt hb) (qd hb)
 have:=Sz.fr (Int.ne_of_gt hb) st sb
 rw[f1,f2] at this
 exact this
theorem SmR.plus {r s:Rat} (h:SmR 20 r) (k:SmR 20 s):SmR 60 (r+s):=by
 obtain⟨f1,f2⟩:=sJ r s
 have:=Sz.fr (n:=60) (m:=60) (fS (fP r) (fP s)) (((h.1.mul k.2).add (k.1.mul h.2)).mono (by decide)) ((h.2.mul k.2).mono (by decide))
 rw[f1,f2] at this
 exact this
theorem SmR.minus {r s:Rat} (h:SmR 20 r) (k:SmR 20 s):SmR 60 (r-s):=by
 obtain⟨f1,f2⟩:=pj r s
 have:=Sz.fr (n:=60) (m:=60) (fS (fP r) (fP s)) (((h.1.mul k.2).sub (k.1.mul h.2)).mono (by decide)) ((h.2.mul k.2).mono (by decide))
 rw[f1,f2] at this
 exact this
theorem vB {S:Th}{qs:List (Rat×Rat)} (e:dG S=some (thL qs)) (h:SmQ 60 qs):∀ ts,dG S=some ts->∀ t∈ts,∀ s,st2 t=some s->Sm2 s.1/\Sm2 s.2:=λ ts et t ht s hs=>by
 rw[e] at et
 cases et
 obtain⟨u,hu,rfl⟩:=List.mem_map.mp ht
 obtain⟨p,hp,rfl⟩:=List.mem_map.mp hu
 obtain⟨_,rfl⟩:=om hs
 obtain⟨a,b⟩:=h p hp
 exact⟨⟨a.1.smk (by decide),a.2.smk (by decide)⟩,⟨b.1.smk (by decide),b.2.smk (by decide)⟩⟩
theorem xU {ws:List V}{k:Nat}{x:V} (h:k<ws.length):ws.take k++[x]++ws.drop (k+1)=ws.set k x:=by
 rw[List.set_eq_take_append_cons_drop,if_pos h]
 simp
theorem sP {ws:List V}{k:Nat} (h:k<=ws.length):cw ws none (some (k:Int))=ws.take k:=by
 unfold cw
 rw[HT.gv,HT.jQ,Nat.min_eq_left h]
 rfl
theorem l6 {ws:List V}{k:Nat} (h:k<=ws.length):cw ws (some (k:Int)) none=ws.drop k:=by
 unfold cw
 rw[HT.gv,HT.jQ,Nat.min_eq_left h,List.take_of_length_le (by simp)]
def BO:Sp:=λ vs H Q _=>∃ (t v b la ha:Addr) (ws:List V) (k:Nat) (e:Str),vs = [.ref t,.int k,.str e,.ref v]/\H t=some (.tup ws)/\ws.length<=30/\ws[k]? = some (.ref b)/\H b=some (.tup [.ref la,.ref ha]) /\
 ∀ p c H',ak H H'->H' p=some (.tup (ws.set k (.ref c)))->H' c=some (.tup (if e = "low" then [.ref v,.ref ha] else [.ref la,.ref v]))->Q (.ref p) H'
theorem vI:aA ["stretches","k","end","value","stretch","changed"] ["stretches","k","end","value"] (ag tL):=⟨rfl,rfl,rfl,by decide +kernel,rfl,by decide +kernel,by decide +kernel⟩
theorem B1 {f:Addr}{fd:FuncData} (F:Fun K "with_end" "with_end" tL f fd) (T:Txt mg):ax P w K mg base CX0 1 f fd ["stretches","k","end","value"] BO:=by
 refine F.ok vI (λ vs H Q E h=>?_) (λ cdv A outer s H vs Q E hr h=>?_)
 ·obtain⟨t,v,b,la,ha,ws,k,e,rfl,_⟩:=h
  rfl
 obtain⟨t,v,b,la,ha,ws,k,e,rfl,ht,h30,hk,hb,q⟩:=h
 refine⟨_,(af (au (i:=4) vI.nd rfl (Or.inl rfl) (am aq (pv 0) (pv 1) (λ _ _=>rfl)))
  (af (au (i:=5) vI.nd rfl (Or.inl rfl) (oR (aG gD (pv 2) bS (aL _)) (aQ (aa (pv 3) (aa (am aq (pv 4) ae (λ _ _=>rfl)) ac))) (aQ (aa (am aq (pv 4) ae (λ _ _=>rfl)) (aa (pv 3) ac)))))
  (ah (aB (ar r6 (ar r6 (cF p7 (pv 0) du (dl (pv 1))) (aQ (aa (pv 5) ac))) (cF p7 (pv 0) (dl (ar aV (pv 1) ae)) du)))))),?_⟩
 have hkl:=(List.getElem?_eq_some_iff.mp hk).1
 have one:1<=sizeLine:=by decide
 have two:2<=sizeLine:=by decide
 have sz:∀ {m:Nat},m<=40->m<=sizeLine:=λ h=>Nat.le_of_lt (m8 h)
 have c1:¬ (HT.sIx ws.length 0 none=0/\HT.sIx ws.length ws.length (some (k:Int))=ws.length):=by rw[HT.gv];omega
 have c2:¬ (HT.sIx ws.length 0 (some ((k:Int)+1))=0/\HT.sIx ws.length ws.length none=ws.length):=by
  rw[show ((k:Int)+1)=((k+1:Nat):Int) from rfl,HT.gv]
  omega
 have e1:=sP (ws:=ws) (k:=k) (by omega)
 have e2:cw ws (some ((k:Int)+1)) none=ws.drop (k+1):=l6 (ws:=ws) (k:=k+1) (by omega)
 have es:=λ x=>xU (x:=x) hkl
 refine⟨_,rfl,_,rfl,t,ws,k,_,rfl,rfl,SqT.of ht,bx hk,?_⟩
 dsimp only
 refine bQ (λ σ G=>ak H G/\∃ c,σ = [some (.ref t),some (.int k),some (.str e),some (.ref v),some (.ref b),some (.ref c)]/\G c=some (.tup (if e = "low" then [.ref v,.ref ha] else [.ref la,.ref v]))) ?_ ?_
 ·intro M hM
  refine⟨_,rfl,rfl,_,rfl,?_⟩
  refine fE (λ d=>?_) (λ d=>?_)
  ·have d':V.str e=V.str "low":=of_decide_eq_true d
   have d2:e = "low":=by injection d'
   refine⟨_,rfl,_,rfl,b,_,1,_,rfl,rfl,SqT.of hb,at1,two,λ c hc=>hM _ _ ⟨ai hc _,c,rfl,?_⟩⟩
   rw[ad,if_pos d2]
  ·have d2:¬ e = "low":=λ z=>d (decide_eq_true (congrArg V.str z))
   refine⟨_,rfl,b,_,0,_,rfl,rfl,SqT.of hb,at0,_,rfl,two,λ c hc=>hM _ _ ⟨ai hc _,c,rfl,?_⟩⟩
   rw[ad,if_neg d2]
 rintro σ G ⟨sG,c,rfl,hc⟩
 have htG:=sG _ _ ht
 refine⟨_,rfl,_,rfl,_,rfl,t,ws,rfl,SqT.of htG,c1,λ p1 h1=>?_⟩
 rw[e1]
 have w1:=ai h1 (.tup (ws.take k))
 have x1:upd G p1 (.tup (ws.take k)) p1=some (.tup (ws.take k)):=ad
 generalize upd G p1 (.tup (ws.take k))=G1 at *
 refine⟨_,rfl,one,λ p2 h2=>?_⟩
 have w2:=ai h2 (.tup [V.ref c])
 have x2:upd G1 p2 (.tup [V.ref c]) p2=some (.tup [V.ref c]):=ad
 generalize upd G1 p2 (.tup [V.ref c])=G2 at *
 have hne:k≠0->ws.take k≠[]:=λ z1 z=>by
  have z2:(ws.take k).length=0:=by rw[z];rfl
  rw[List.length_take] at z2
  omega
 by_cases hk0:k=0
 ·refine .inl ⟨p1,p2,_,rfl,rfl,SqT.of (by rw[w2 _ _ x1,hk0];rfl),SqT.of x2,?_⟩
  refine⟨_,rfl,_,rfl,_,_,rfl,rfl,_,rfl,t,ws,rfl,SqT.of ((w1.trans w2) _ _ htG),c2,λ p4 h4=>?_⟩
  rw[e2]
  have w4:=ai h4 (.tup (ws.drop (k+1)))
  have x4:upd G2 p4 (.tup (ws.drop (k+1))) p4=some (.tup (ws.drop (k+1))):=ad
  generalize upd G2 p4 (.tup (ws.drop (k+1)))=G4 at *
  have x4':=w4 _ _ x2
  refine .inr ⟨p2,p4,[V.ref c],ws.drop (k+1),rfl,rfl,SqT.of x4',SqT.of x4,by simp,sz (by simp;omega),λ z=>?_,λ z p5 h5=>?_⟩
  ·refine q p2 c _ ((sG.trans (w1.trans w2)).trans w4) ?_ (((w1.trans w2).trans w4) _ _ hc)
   rw[x4',<-es,z]<;>simp [hk0]
  ·have w5:=ai h5 (.tup ([V.ref c]++ws.drop (k+1)))
   refine q p5 c _ (((sG.trans (w1.trans w2)).trans w4).trans w5) ?_ ((((w1.trans w2).trans w4).trans w5) _ _ hc)
   rw[ad,<-es]<;>simp [hk0]
 ·refine .inr ⟨p1,p2,_,_,rfl,rfl,SqT.of (w2 _ _ x1),SqT.of x2,(hne hk0),sz (by simp;omega),λ z=>absurd z (by simp),λ _ p3 h3=>?_⟩
  have w3:=ai h3 (.tup (ws.take k++[V.ref c]))
  have x3:upd G2 p3 (.tup (ws.take k++[V.ref c])) p3=some (.tup (ws.take k++[V.ref c])):=ad
  generalize upd G2 p3 (.tup (ws.take k++[V.ref c]))=G3 at *
  refine⟨_,rfl,_,rfl,_,_,rfl,rfl,_,rfl,t,ws,rfl,SqT.of (((w1.trans w2).trans w3) _ _ htG),c2,λ p4 h4=>?_⟩
  rw[e2]
  have w4:=ai h4 (.tup (ws.drop (k+1)))
  have x4:upd G3 p4 (.tup (ws.drop (k+1))) p4=some (.tup (ws.drop (k+1))):=ad
  generalize upd G3 p4 (.tup (ws.drop (k+1)))=G4 at *
  have x4':=w4 _ _ x3
  refine .inr ⟨p3,p4,(ws.take k++[V.ref c]),ws.drop (k+1),rfl,rfl,SqT.of x4',SqT.of x4,by simp,sz (by simp;omega),λ z=>?_,λ z p5 h5=>?_⟩
  ·refine q p3 c _ ((sG.trans ((w1.trans w2).trans w3)).trans w4) ?_ ((((w1.trans w2).trans w3).trans w4) _ _ hc)
   rw[x4',<-es,z]<;>simp
  ·have w5:=ai h5 (.tup ((ws.take k++[V.ref c])++ws.drop (k+1)))
   refine q p5 c _ (((sG.trans ((w1.trans w2).trans w3)).trans w4).trans w5) ?_ (((((w1.trans w2).trans w3).trans w4).trans w5) _ _ hc)
   rw[ad,<-es]<;>simp
theorem pB {H:Hp}:∀ {ts:List Th}{xs:List V}{k:Nat}{t:Th}{v:V},bH H ts xs->Den H t v->bH H (ts.set k t) (xs.set k v)
 | [],xs,k,t,v,h,d=>by rw[show xs = [] from h];simp [bH]
 | u::us,xs,0,t,v,⟨y,ys,e,d1,d2⟩,d=>by rw[e];exact⟨v,ys,rfl,d,d2⟩
 | u::us,xs,k+1,t,v,⟨y,ys,e,d1,d2⟩,d=>by rw[e];exact⟨y,ys.set k v,rfl,d1,pB d2 d⟩
theorem xJ {qs:List (Rat×Rat)}{k:Nat}{p:Rat×Rat}:thL (qs.set k p)=(thL qs).set k (ssT (sqR p)):=by
 unfold thL
 rw[List.map_set,List.map_set]
def mvP (e:Str) (s:Int) (p:Rat×Rat):Rat×Rat:=if e = "low" then (p.1+rq 1 s,p.2) else (p.1,p.2-rq 1 s)
theorem SmQ.set {qs:List (Rat×Rat)}{k:Nat}{p:Rat×Rat} (h:SmQ 60 qs) (h1:SmR 60 p.1) (h2:SmR 60 p.2):SmQ 60 (qs.set k p):=λ x hx=>by
 rcases List.mem_or_eq_of_mem_set hx with z | z
 ·exact h x z
 ·rw[z];exact⟨h1,h2⟩
def zF:Sp:=λ vs H Q _=>∃ (r t:Addr) (ws:List V) (n s:Int) (k:Nat) (e:Str) (qs:List (Rat×Rat)) (p:Rat×Rat),vs = [.ref r,.int k,.str e,.int s]/\H r=some (.tup [.int n,.ref t])/\H t=some (.tup ws)/\bH H (thL qs) ws/\1<=n/\n<=12/\(qs.length:Int)=n+1/\qs[k]? = some p/\SmQ 20 qs/\0<s/\Sz 20 s /\
 (IsR (qs.set k (mvP e s p))->∀ f H',ak H H'->Den H' (ruT n ((qs.set k (mvP e s p)).map sqR)) (.ref f)->Q (.ref f) H')/\(¬ IsR (qs.set k (mvP e s p))->∀ H',ak H H'->Q .non H')
theorem mL:aA ["rule","k","end","measure","stretch","step","value"] ["rule","k","end","measure"] (ag lB):=⟨rfl,rfl,rfl,by decide +kernel,rfl,by decide +kernel,by decide +kernel⟩
theorem AU {C:CA}{f:Addr}{fd:FuncData} (F:Fun K "moved" "moved" lB f fd) (T:Txt mg) (cf:CF K mg C) {ffrac:Addr}{dfrac:FuncData} (Gfrac:ax P w K mg base (CXX P w) 6 ffrac dfrac ["top","bottom"] (fJ C)) (bfrac:aE K dfrac ["top","bottom"] []) (kfrac:PySem.W.keepIn K (.ref ffrac)=true) (mfrac:mg "fraction" = some (.ref ffrac)) {fplus:Addr}{dplus:FuncData} (Gplus:ax P w K mg base CX0 6 fplus dplus ["one","other"] vn) (bplus:aE K dplus ["one","other"] []) (kplus:PySem.W.keepIn K (.ref fplus)=true) (mplus:mg "plus" = some (.ref fplus)) {fminus:Addr}{dminus:FuncData} (Gminus:ax P w K mg base CX0 6 fminus dminus ["one","other"] rf) (bminus:aE K dminus ["one","other"] []) (kminus:PySem.W.keepIn K (.ref fminus)=true) (mminus:mg "minus" = some (.ref fminus)) {fruleof:Addr}{druleof:FuncData} (Gruleof:ax P w K mg base (CXX P w) 6 fruleof druleof ["n","stretches"] (vk C)) (bruleof:aE K druleof ["n","stretches"] []) (kruleof:PySem.W.keepIn K (.ref fruleof)=true) (mruleof:mg "rule_of" = some (.ref fruleof)) {fwe:Addr}{dwe:FuncData} (Gwe:ax P w K mg base CX0 6 fwe dwe ["stretches","k","end","value"] BO) (bwe:aE K dwe ["stretches","k","end","value"] []) (kwe:PySem.W.keepIn K (.ref fwe)=true) (mwe:mg "with_end" = some (.ref fwe)):ax P w K mg base CX0 7 f fd ["rule","k","end","measure"] zF:=by
 refine F.ok mL (λ vs H Q E h=>?_) (λ cdv A outer s H vs Q E hr h=>?_)
 ·obtain⟨r,t,ws,n,s,k,e,qs,p,rfl,_⟩:=h
  rfl
 obtain⟨r,t,ws,n,s,k,e,qs,p,rfl,hr1,ht,dd,n1,n12,hl,hp,hsm,s0,ss,q1,q2⟩:=h
 refine⟨_,(af (au (i:=4) mL.nd rfl (Or.inl rfl) (am aq (am aq (pv 0) ae (λ _ _=>rfl)) (pv 1) (λ _ _=>rfl)))
  (af (au (i:=5) mL.nd rfl (Or.inl rfl) (aj Gfrac hr rfl mfrac kfrac bfrac .nil jZ (aa ae (aa (pv 3) ac))))
  (af (au (i:=6) mL.nd rfl (Or.inl rfl) (oR (aG gD (pv 2) bS (aL _)) (aj Gplus hr rfl mplus kplus bplus .nil aD (aa (am aq (pv 4) ae (λ _ _=>rfl)) (aa (pv 5) ac))) (aj Gminus hr rfl mminus kminus bminus .nil aD (aa (am aq (pv 4) ae (λ _ _=>rfl)) (aa (pv 5) ac)))))
  (ah (yp ⟨rfl,rfl,rfl⟩ rfl cf.mNoRule cf.cNoRule (λ xe pn E hp=>(ah (aB (wb Gruleof hr rfl mruleof kruleof bruleof .nil hp (aa (am se (pv 0) ae (λ _ _=>rfl)) (aa (aj Gwe hr rfl mwe kwe bwe .nil aD (aa (am se (pv 0) ae (λ _ _=>rfl)) (aa (pv 1) (aa (pv 2) (aa (pv 6) ac))))) ac)))))) (λ e oe=>(ah (aB d9)))))))),?_⟩
 have lw:ws.length=qs.length:=by rw[dd.len,xK]
 obtain⟨v,f1,f2⟩:=dd.get (uY hp)
 obtain⟨b,la,ha,rfl,hb,hla,hha⟩:=kw f2
 have sp:=hsm _ (List.mem_of_getElem? hp)
 refine⟨_,rfl,r,_,1,_,rfl,rfl,SqT.of hr1,at1,_,rfl,t,ws,k,_,rfl,rfl,SqT.of ht,bx f1,?_⟩
 refine⟨_,rfl,?_⟩
 refine⟨_,_,.int 1,.int s,rfl,rfl,rfl,λ a1 b1 e1=>?_,λ e1=>?_⟩
 rotate_left
 ·rw[km (Int.ne_of_gt s0)] at e1
  cases e1
 obtain⟨y1,y2,_⟩:=ko e1
 cases y1
 cases y2
 refine⟨ss.smk (by decide),λ a ha1'=>?_⟩
 have s1:=ai ha1' (.tup [V.int (frT 1 s),V.int (frB 1 s)])
 have ha1:upd H a (.tup [V.int (frT 1 s),V.int (frB 1 s)]) a=some (.tup [.int (rq 1 s).num,.int ((rq 1 s).den:Int)]):=by
  obtain⟨f1,f2⟩:=ef (Int.ne_of_gt s0) (qd (t:=1) s0)
  rw[ad,f1,f2]
 generalize upd H a (.tup [V.int (frT 1 s),V.int (frB 1 s)])=H1 at *
 have sr:SmR 20 (rq 1 s):=SmR.rq s0 (show (1:Int).natAbs<2^20 by decide) ss
 have fs:=sr.fr (by decide) ha1
 dsimp only
 refine bQ (λ σ G=>ak H G/\∃ x,σ = [some (.ref r),some (.int k),some (.str e),some (.int s),some (.ref b),some (.ref a),some (.ref x)]/\G x=some (.tup [.int (if e = "low" then p.1+rq 1 s else p.2-rq 1 s).num,.int ((if e = "low" then p.1+rq 1 s else p.2-rq 1 s).den:Int)])) ?_ ?_
 ·intro M hM
  refine⟨_,rfl,rfl,_,rfl,?_⟩
  refine fE (λ d=>?_) (λ d=>?_)
  ·have d':V.str e=V.str "low":=of_decide_eq_true d
   have d2:e = "low":=by injection d'
   refine⟨_,rfl,b,_,0,_,rfl,rfl,SqT.of (s1 _ _ hb),at0,_,rfl,la,a,p.1,rq 1 s,rfl,sp.1.fr (by decide) (s1 _ _ hla),fs,λ x H2 s2 hx=>hM _ _ ⟨s1.trans s2,x,rfl,?_⟩⟩
   rw[if_pos d2]
   exact hx
  ·have d2:¬ e = "low":=λ z=>d (decide_eq_true (congrArg V.str z))
   refine⟨_,rfl,b,_,1,_,rfl,rfl,SqT.of (s1 _ _ hb),at1,_,rfl,ha,a,p.2,rq 1 s,rfl,sp.2.fr (by decide) (s1 _ _ hha),fs,λ x H2 s2 hx=>hM _ _ ⟨s1.trans s2,x,rfl,?_⟩⟩
   rw[if_neg d2]
   exact hx
 rintro σ G ⟨sG,x,rfl,hx⟩
 have hr1':=sG _ _ hr1
 refine⟨_,rfl,r,_,0,_,rfl,rfl,SqT.of hr1',at0,_,rfl,r,_,1,_,rfl,rfl,SqT.of hr1',at1,_,rfl,_,rfl,_,rfl,t,x,b,la,ha,ws,k,e,rfl,sG _ _ ht,by omega,f1,sG _ _ hb,λ y c H2 s2 hy hc=>?_⟩
 have s02:=sG.trans s2
 have dc:Den H2 (ssT (sqR (mvP e s p))) (.ref c):=by
  unfold mvP
  by_cases d:e = "low"
  ·rw[if_pos d] at hc hx ⊢
   exact uA hc (fU (s2 _ _ hx)) (fU (s02 _ _ hha))
  ·rw[if_neg d] at hc hx ⊢
   exact uA hc (fU (s02 _ _ hla)) (fU (s2 _ _ hx))
 have sm':SmQ 60 (qs.set k (mvP e s p)):=by
  have h60:SmQ 60 qs:=λ x hx=>⟨(hsm x hx).1.mono (by decide),(hsm x hx).2.mono (by decide)⟩
  unfold mvP
  split
  ·exact h60.set (sp.1.plus sr) (sp.2.mono (by decide))
  ·exact h60.set (sp.1.mono (by decide)) (sp.2.minus sr)
 have dS:Den H2 (.tup (thL (qs.set k (mvP e s p)))) (.ref y):=⟨y,_,rfl,hy,by rw[xJ];exact pB (dd.keep s02) dc⟩
 have eS:dG (.tup (thL (qs.set k (mvP e s p))))=some (thL (qs.set k (mvP e s p))):=rfl
 refine⟨_,_,.int n,.tup (thL (qs.set k (mvP e s p))),rfl,rfl,dS,vB eS sm',λ n' ps' g f H3 s3 df=>?_,λ hb3 H3 s3=>⟨cf.sub,λ x1 oe hn hoe=>?_⟩⟩
 ·have ir:=wT eS g
  obtain⟨rfl,rfl⟩:=sH g (kf eS n1 n12 (by rw[List.length_set];exact hl) ir)
  exact q1 ir f H3 (s02.trans s3) df
 ·exact q2 (λ ir=>hb3 _ _ (kf eS n1 n12 (by rw[List.length_set];exact hl) ir)) _ (s02.trans s3)
theorem zq {n:Nat}{ps':List (Rat×Rat)} (ok':di n ps') {c':Cd} (hc':cN n (ci ps')=some c') (pin':∀ x∈aU ps',0<=x/\x<=1) {v:Rat} (h:∀ r,0<=r->r<=1->v<=bz r n (bn ps' r r)):v<=c'.1:=by
 obtain⟨k,a,b,ea,eb,hcc⟩:=sX hc'
 obtain⟨i1,i2⟩:=eA (aU ps')
 have pa:=pin' a ((i2 a).mp (List.mem_of_getElem? ea))
 have pb:=pin' b ((i2 b).mp (List.mem_of_getElem? eb))
 have lt:=(ny i1 ea eb).1
 by_cases cc:v<=c'.1
 ·exact cc
 exfalso
 obtain⟨t,t0,t1,t2⟩:=Cv ok'.n1 (d:=b-a) (g:=v-c'.1) (by grind) (by grind)
 rcases hcc with rfl | rfl
 ·have k1:=(mj ok' ea eb pin' (p:=a+t) (by grind) (by grind)).1
  have k2:=h (a+t) (by grind) (by grind)
  have e:(n:Rat)*(a+t-a)=(n:Rat)*t:=by grind
  rw[e] at k1
  have t2':(n:Rat)*t<v-bz a n (bn ps' a b):=t2
  have cc':¬ v<=bz a n (bn ps' a b):=cc
  generalize (n:Rat)*t=z at *
  grind
 ·have k1:=(mj ok' ea eb pin' (p:=b-t) (by grind) (by grind)).2
  have k2:=h (b-t) (by grind) (by grind)
  have e:(n:Rat)*(b-(b-t))=(n:Rat)*t:=by grind
  rw[e] at k1
  have t2':(n:Rat)*t<v-bz b n (bn ps' a b):=t2
  generalize (n:Rat)*t=z at *
  grind
theorem sD {ps:List (Rat×Rat)} (h:IsR ps):∀ x∈aU ps,0<=x/\x<=1:=λ x hx=>by
 unfold aU at hx
 simp only[List.mem_cons,List.mem_flatMap,List.not_mem_nil,or_false] at hx
 rcases hx with rfl | rfl | ⟨p,hp,hx⟩
 ·decide +kernel
 ·decide +kernel
 ·obtain⟨a,b,c⟩:=h.inn p hp
  rcases hx with rfl | rfl
  ·exact⟨a,by grind⟩
  ·exact⟨by grind,c⟩
theorem rS {l:List Rat} (h:∀ i x y,l[i]? = some x->l[i+1]? = some y->x<=y):Up l:=by
 refine List.pairwise_iff_getElem.mpr λ i j hi hj hij=>?_
 obtain⟨d,rfl⟩:∃ d,j=i+d:=⟨j-i,by omega⟩
 clear hij
 induction d with
 | zero=>exact Rat.le_refl
 | succ d ih=>exact Rat.le_trans (ih (by omega)) (h (i+d) _ _ (List.getElem?_eq_getElem (by omega)) (List.getElem?_eq_getElem hj))
theorem h7 {n:Nat}{ps:List (Rat×Rat)} (h:IsR ps) (n1:1<=n) (n12:n<=12) (hl:ps.length=n+1):di n ps where
 n1:=n1
 n12:=n12
 len:=hl
 lows:=rS λ i x y hx hy=>by
  rw[List.getElem?_map] at hx hy
  cases e1:ps[i]? with
  | none=>rw[e1] at hx;cases hx
  | some p =>
   cases e2:ps[i+1]? with
   | none=>rw[e2] at hy;cases hy
   | some q =>
    rw[e1] at hx
    rw[e2] at hy
    cases hx
    cases hy
    exact (h.ris i p q e1 e2).1
 highs:=rS λ i x y hx hy=>by
  rw[List.getElem?_map] at hx hy
  cases e1:ps[i]? with
  | none=>rw[e1] at hx;cases hx
  | some p =>
   cases e2:ps[i+1]? with
   | none=>rw[e2] at hy;cases hy
   | some q =>
    rw[e1] at hx
    rw[e2] at hy
    cases hx
    cases hy
    exact (h.ris i p q e1 e2).2
 le:=λ p hp=>(h.inn p hp).2.1
theorem oE {n:Nat}{ps:List (Rat×Rat)} (h:di n ps) (pin:∀ x∈aU ps,0<=x/\x<=1):IsR ps where
 inn:=λ p hp=>by
  have m:∀ x,x=p.1∨x=p.2->x∈aU ps:=λ x hx=>by
   unfold aU
   simp only[List.mem_cons,List.mem_flatMap,List.not_mem_nil,or_false]
   exact .inr (.inr ⟨p,hp,hx⟩)
  exact⟨(pin _ (m _ (.inl rfl))).1,h.le p hp,(pin _ (m _ (.inr rfl))).2⟩
 ris:=λ i p q hp hq=>⟨h.lows.at (Nat.le_succ i) (by rw[List.getElem?_map,hp];rfl) (by rw[List.getElem?_map,hq];rfl),h.highs.at (Nat.le_succ i) (by rw[List.getElem?_map,hp];rfl) (by rw[List.getElem?_map,hq];rfl)⟩
def bst (n:Nat) (ps:List (Rat×Rat)):Rat:=((cN n (ci ps)).map (·.1)).getD 0
theorem i8 {n:Nat}{ps:List (Rat×Rat)}{c:Cd} (h:cN n (ci ps)=some c):bst n ps=c.1:=by unfold bst;rw[h];rfl
structure fG (ps qs:List (Rat×Rat)):Prop where
 len:qs.length=ps.length
 low:∀ k,(ps.getD k (0,0)).1<=(qs.getD k (0,0)).1
 high:∀ k,(qs.getD k (0,0)).2<=(ps.getD k (0,0)).2
theorem fG.refl (ps:List (Rat×Rat)):fG ps ps:=⟨rfl,λ _=>Rat.le_refl,λ _=>Rat.le_refl⟩
theorem fG.trans {ps qs rs:List (Rat×Rat)} (h:fG ps qs) (g:fG qs rs):fG ps rs:=⟨g.len.trans h.len,λ k=>Rat.le_trans (h.low k) (g.low k),λ k=>Rat.le_trans (g.high k) (h.high k)⟩
theorem cJ {l:List (Rat×Rat)}{i:Nat}{a:Rat×Rat} (h:l[i]? = some a):l.getD i (0,0)=a:=by rw[List.getD,h];rfl
theorem bX {l:List (Rat×Rat)}{j k:Nat}{v:Rat×Rat} (hj:j<l.length):(l.set j v).getD k (0,0)=if k=j then v else l.getD k (0,0):=by
 simp only[List.getD,List.getElem?_set]
 by_cases c:j=k
 ·subst c;simp [hj]
 ·rw[if_neg c,if_neg (Ne.symm c)]
theorem fG.best {n:Nat}{ps qs:List (Rat×Rat)} (h:fG ps qs) (n1:1<=n) (n12:n<=12) (hl:ps.length=n+1) (ip:IsR ps) (iq:IsR qs):bst n qs<=bst n ps:=by
 obtain⟨c,hc⟩:=cV (n:=n) (eV ps)
 obtain⟨d,hd⟩:=cV (n:=n) (eV qs)
 rw[i8 hc,i8 hd]
 have lq:qs.length=n+1:=h.len.trans hl
 refine zq (h7 ip n1 n12 hl) hc (sD ip) λ r r0 r1=>?_
 refine Rat.le_trans (zr (h7 iq n1 n12 lq) hd r0 r1 (sD iq)) ?_
 rw[d7,d7]
 refine Bn r0 r1 (qV ?_ λ k x y e1 e2=>?_) (o4 ?_ λ k x y e1 e2=>?_)
 ·rw[List.length_map,List.length_map,h.len]
 ·rw[List.getElem?_map] at e1 e2
  cases f1:qs[k]? with
  | none=>rw[f1] at e1;cases e1
  | some p =>
   cases f2:ps[k]? with
   | none=>rw[f2] at e2;cases e2
   | some q =>
    rw[f1] at e1
    rw[f2] at e2
    cases e1
    cases e2
    have:=h.low k
    rw[cJ f1,cJ f2] at this
    exact this
 ·rw[List.length_map,List.length_map,h.len]
 ·rw[List.getElem?_map] at e1 e2
  cases f1:qs[k]? with
  | none=>rw[f1] at e1;cases e1
  | some p =>
   cases f2:ps[k]? with
   | none=>rw[f2] at e2;cases e2
   | some q =>
    rw[f1] at e1
    rw[f2] at e2
    cases e1
    cases e2
    have:=h.high k
    rw[cJ f1,cJ f2] at this
    exact this
def eS (lo:Bool):Str:=if lo=true then "low" else "high"
def mvQ (lo:Bool) (m:Int) (p:Rat×Rat):Rat×Rat:=if lo=true then (p.1+rq 1 m,p.2) else (p.1,p.2-rq 1 m)
theorem Ba (lo:Bool) (m:Int) (p:Rat×Rat):mvP (eS lo) m p=mvQ lo m p:=by
 unfold mvP mvQ eS
 cases lo with
 | true=>rw[if_pos rfl,if_pos rfl,if_pos rfl]
 | false=>rw[if_neg Bool.false_ne_true,if_neg Bool.false_ne_true,if_neg (by decide)]
def nxQ (m:Int) (ps:List (Rat×Rat)) (k:Nat) (lo:Bool):List (Rat×Rat):=ps.set k (mvQ lo m (ps.getD k (0,0)))
def nV (n:Nat) (s:Rat) (m:Int) (ps:List (Rat×Rat)) (k:Nat) (lo:Bool):Prop:=IsR (nxQ m ps k lo)/\s<=bst n (nxQ m ps k lo)
open Classical in
def shq (n:Nat) (s:Rat) (m:Int) (ps:List (Rat×Rat)) (k:Nat) (lo:Bool):Option (List (Rat×Rat)):=if nV n s m ps k lo then some (nxQ m ps k lo) else none
theorem jr {n:Nat}{s:Rat}{m:Int}{ps:List (Rat×Rat)}{k:Nat}{lo:Bool} (h:nV n s m ps k lo):shq n s m ps k lo=some (nxQ m ps k lo):=if_pos h
theorem jJ {n:Nat}{s:Rat}{m:Int}{ps:List (Rat×Rat)}{k:Nat}{lo:Bool} (h:¬ nV n s m ps k lo):shq n s m ps k lo=none:=if_neg h
theorem ou {n:Nat}{s:Rat}{m:Int}{ps ps1:List (Rat×Rat)}{k:Nat}{lo:Bool} (h:shq n s m ps k lo=some ps1):nV n s m ps k lo/\ps1=nxQ m ps k lo:=by
 by_cases c:nV n s m ps k lo
 ·rw[jr c] at h
  cases h
  exact⟨c,rfl⟩
 ·rw[jJ c] at h;cases h
def hiE (m:Nat):List (Nat×Bool):=(List.range m).map λ k=>(k,false)
def loE (n m:Nat):List (Nat×Bool):=(List.range m).map λ i=>(n-i,true)
theorem pe (m:Nat):hiE (m+1)=hiE m++[(m,false)]:=by unfold hiE;rw[List.range_succ,List.map_append]<;>rfl
theorem o5 (n m:Nat):loE n (m+1)=loE n m++[(n-m,true)]:=by unfold loE;rw[List.range_succ,List.map_append]<;>rfl
def dM (n:Nat):List (Nat×Bool):=hiE (n+1)++loE n (n+1)
theorem ku {n:Nat}{p:Nat×Bool} (h:p∈dM n):p.1<=n:=by
 unfold dM hiE loE at h
 rcases List.mem_append.mp h with h | h
 ·obtain⟨k,hk,rfl⟩:=List.mem_map.mp h
  have:=List.mem_range.mp hk
  show k<=n;omega
 ·obtain⟨k,hk,rfl⟩:=List.mem_map.mp h
  show n-k<=n;omega
inductive RnQ (n:Nat) (s:Rat) (m:Int) (k:Nat) (lo:Bool):List (Rat×Rat)->List (Rat×Rat)->Prop where
 | stop {ps}:shq n s m ps k lo=none->RnQ n s m k lo ps ps
 | step {ps ps1 ps'}:shq n s m ps k lo=some ps1->RnQ n s m k lo ps1 ps'->RnQ n s m k lo ps ps'
def gB (n:Nat) (s:Rat) (m:Int):List (Nat×Bool)->List (Rat×Rat)->List (Rat×Rat)->Prop
 | [],ps,ps'=>ps'=ps
 | p::r,ps,ps'=>∃ q,RnQ n s m p.1 p.2 ps q/\gB n s m r q ps'
theorem gB.snoc {n:Nat}{s:Rat}{m:Int}:∀ {l:List (Nat×Bool)}{p:Nat×Bool}{ps q ps':List (Rat×Rat)},gB n s m l ps q->RnQ n s m p.1 p.2 q ps'->gB n s m (l++[p]) ps ps'
 | [],p,ps,q,ps',h,r=>by
  have h':q=ps:=h
  subst h'
  exact⟨ps',r,rfl⟩
 | _::l,p,ps,q,ps',⟨u,h1,h2⟩,r=>⟨u,h1,h2.snoc r⟩
theorem js {m:Int} (hm:0<m):0<rq 1 m/\rq 1 m*(m:Rat)=1:=by
 have e:=qd (t:=1) hm
 have bp:(0:Rat)<(m:Rat):=by exact_mod_cast hm
 have e':rq 1 m*(m:Rat)=1:=by rw[e];rfl
 refine⟨?_,e'⟩
 by_cases c:0<rq 1 m
 ·exact c
 ·exfalso
  have:=Rat.mul_nonneg (show 0<=- rq 1 m by grind) (show 0<=(m:Rat) by grind)
  grind
def uw (m:Int) (ps:List (Rat×Rat)) (k:Nat):Nat:=((((ps.getD k (0,0)).2-(ps.getD k (0,0)).1)*(m:Rat)).floor+1).toNat
theorem qz {x:Rat}:(x-1).floor=x.floor-1:=by
 have a:=Rat.floor_le (a:=x)
 have b:=Rat.lt_floor_add_one x
 have c:((x.floor-1:Int):Rat)<=x-1:=by push_cast;grind
 have d:=Rat.le_floor_iff.mpr c
 have e:=Rat.floor_le (a:=x-1)
 have f:(((x-1).floor+1:Int):Rat)<=x:=by push_cast;grind
 have g:=Rat.le_floor_iff.mpr f
 omega
theorem rD {n:Nat}{s:Rat}{m:Int}{k:Nat}{lo:Bool}{ps ps1:List (Rat×Rat)} (hm:0<m) (hk:k<ps.length) (h:shq n s m ps k lo=some ps1):uw m ps1 k<uw m ps k:=by
 obtain⟨⟨c2,_⟩,rfl⟩:=ou h
 have e:(nxQ m ps k lo).getD k (0,0)=mvQ lo m (ps.getD k (0,0)):=by unfold nxQ;rw[bX hk,if_pos rfl]
 have mem:(nxQ m ps k lo).getD k (0,0)∈nxQ m ps k lo:=by
  have hl:k<(nxQ m ps k lo).length:=by unfold nxQ;rw[List.length_set];exact hk
  rw[List.getD,List.getElem?_eq_getElem hl]
  exact List.getElem_mem hl
 have le:=(c2.inn _ mem).2.1
 rw[e] at le
 obtain⟨r0,r1⟩:=js hm
 unfold uw
 rw[e]
 generalize ps.getD k (0,0)=p at *
 have key:((mvQ lo m p).2-(mvQ lo m p).1)*(m:Rat)=(p.2-p.1)*(m:Rat)-1:=by
  unfold mvQ
  cases lo with
  | true=>rw[if_pos rfl];dsimp only;grind
  | false=>rw[if_neg Bool.false_ne_true];dsimp only;grind
 have bp : (0 : Rat) ≤ (m : Rat) := by have : (0 : Rat) < (m : Rat) := by exact_mod_cast hm
                                       grind
 have nn:0<=((mvQ lo m p).2-(mvQ lo m p).1)*(m:Rat):=Rat.mul_nonneg (by grind) bp
 have fl:0<=(((mvQ lo m p).2-(mvQ lo m p).1)*(m:Rat)).floor:=Rat.le_floor_iff.mpr (by simpa using nn)
 rw[key,qz] at fl ⊢
 omega
theorem oH {n:Nat}{s:Rat}{m:Int}{k:Nat}{lo:Bool}{ps a b:List (Rat×Rat)} (h:RnQ n s m k lo ps a) (g:RnQ n s m k lo ps b):a=b:=by
 induction h with
 | stop e =>
  cases g with
  | stop _=>rfl
  | step e2 _=>rw[e] at e2;cases e2
 | step e _ ih =>
  cases g with
  | stop e2=>rw[e] at e2;cases e2
  | step e2 r2 =>
   rw[e] at e2
   cases e2
   exact ih r2
theorem d5 {ps:List (Rat×Rat)} (h:IsR ps) {i:Nat} (hi:i+1<ps.length):(ps.getD i (0,0)).1<=(ps.getD (i+1) (0,0)).1/\(ps.getD i (0,0)).2<=(ps.getD (i+1) (0,0)).2:=by
 have e1:=List.getElem?_eq_getElem (show i<ps.length by omega)
 have e2:=List.getElem?_eq_getElem hi
 rw[cJ e1,cJ e2]
 exact h.ris i _ _ e1 e2
theorem iY {ps:List (Rat×Rat)} (h:IsR ps) {i:Nat} (hi:i<ps.length):0<=(ps.getD i (0,0)).1/\(ps.getD i (0,0)).1<=(ps.getD i (0,0)).2/\(ps.getD i (0,0)).2<=1:=by
 have e1:=List.getElem?_eq_getElem hi
 rw[cJ e1]
 exact h.inn _ (List.mem_of_getElem? e1)
theorem wI {qs:List (Rat×Rat)} (h1:∀ i,i<qs.length->0<=(qs.getD i (0,0)).1/\(qs.getD i (0,0)).1<=(qs.getD i (0,0)).2/\(qs.getD i (0,0)).2<=1)
  (h2:∀ i,i+1<qs.length->(qs.getD i (0,0)).1<=(qs.getD (i+1) (0,0)).1/\(qs.getD i (0,0)).2<=(qs.getD (i+1) (0,0)).2):IsR qs where
 inn:=λ p hp=>by
  obtain⟨i,hi⟩:=List.mem_iff_getElem?.mp hp
  have:=h1 i (List.getElem?_eq_some_iff.mp hi).1
  rw[cJ hi] at this
  exact this
 ris:=λ i a b ha hb=>by
  have:=h2 i (List.getElem?_eq_some_iff.mp hb).1
  rw[cJ ha,cJ hb] at this
  exact this
theorem nj {k:Nat}{ps:List (Rat×Rat)} (ok:IsR ps) (hk:k<ps.length) {p:Rat×Rat}:IsR (ps.set k p)↔(0<=p.1/\p.1<=p.2/\p.2<=1/\(∀ j,j+1=k->(ps.getD j (0,0)).1<=p.1/\(ps.getD j (0,0)).2<=p.2)/\(k+1<ps.length->p.1<=(ps.getD (k+1) (0,0)).1/\p.2<=(ps.getD (k+1) (0,0)).2)):=by
 have ls:(ps.set k p).length=ps.length:=List.length_set ..
 have gk:(ps.set k p).getD k (0,0)=p:=by rw[bX hk,if_pos rfl]
 have gj:∀ j,j≠k->(ps.set k p).getD j (0,0)=ps.getD j (0,0):=λ j hj=>by rw[bX hk,if_neg hj]
 constructor
 ·intro c
  have a:=iY c (i:=k) (by omega)
  rw[gk] at a
  refine⟨a.1,a.2.1,a.2.2,λ j hj=>?_,λ h=>?_⟩
  ·have b1:=d5 c (i:=j) (by omega)
   rw[hj,gk,gj j (by omega)] at b1
   exact b1
  ·have b1:=d5 c (i:=k) (by omega)
   rw[gk,gj (k+1) (by omega)] at b1
   exact b1
 ·rintro⟨a1,a2,a3,b,c⟩
  refine wI (λ i hi=>?_) (λ i hi=>?_)
  ·by_cases z:i=k
   ·rw[z,gk];exact⟨a1,a2,a3⟩
   ·rw[gj i z];exact iY ok (by omega)
  ·by_cases z:i=k
   ·rw[z,gk,gj (k+1) (by omega)];exact c (by omega)
   ·rw[gj i z]
    by_cases y:i+1=k
    ·rw[y,gk];exact b i y
    ·rw[gj (i+1) y];exact d5 ok (by omega)
structure StQ (k:Nat) (lo:Bool) (ps qs:List (Rat×Rat)):Prop where
 wi:fG ps qs
 off:∀ j,j≠k->qs.getD j (0,0)=ps.getD j (0,0)
 lows:lo=false->(qs.getD k (0,0)).1=(ps.getD k (0,0)).1
 highs:lo=true->(qs.getD k (0,0)).2=(ps.getD k (0,0)).2
theorem StQ.trans {k:Nat}{lo:Bool}{ps qs rs:List (Rat×Rat)} (h:StQ k lo ps qs) (g:StQ k lo qs rs):StQ k lo ps rs :=
 ⟨h.wi.trans g.wi,λ j hj=>(g.off j hj).trans (h.off j hj),λ z=>(g.lows z).trans (h.lows z),λ z=>(g.highs z).trans (h.highs z)⟩
theorem xS {n:Nat}{s:Rat}{m:Int}{k:Nat}{lo:Bool}{ps qs:List (Rat×Rat)} (hm:0<m) (hk:k<ps.length) (h:shq n s m ps k lo=some qs):StQ k lo ps qs/\IsR qs/\s<=bst n qs:=by
 obtain⟨⟨c2,c3⟩,rfl⟩:=ou h
 have r0:=(js hm).1
 have gk:(nxQ m ps k lo).getD k (0,0)=mvQ lo m (ps.getD k (0,0)):=by unfold nxQ;rw[bX hk,if_pos rfl]
 have gj:∀ j,j≠k->(nxQ m ps k lo).getD j (0,0)=ps.getD j (0,0):=λ j hj=>by unfold nxQ;rw[bX hk,if_neg hj]
 have lw:(ps.getD k (0,0)).1<=(mvQ lo m (ps.getD k (0,0))).1/\(mvQ lo m (ps.getD k (0,0))).2<=(ps.getD k (0,0)).2:=by
  generalize ps.getD k (0,0)=p
  unfold mvQ
  cases lo with
  | true=>rw[if_pos rfl];dsimp only;exact⟨by grind,Rat.le_refl⟩
  | false=>rw[if_neg Bool.false_ne_true];dsimp only;exact⟨Rat.le_refl,by grind⟩
 refine⟨⟨⟨List.length_set ..,λ j=>?_,λ j=>?_⟩,gj,λ z=>by rw[gk,z];rfl,λ z=>by rw[gk,z];rfl⟩,c2,c3⟩
 ·by_cases z:j=k
  ·rw[z,gk];exact lw.1
  ·rw[gj j z];exact Rat.le_refl
 ·by_cases z:j=k
  ·rw[z,gk];exact lw.2
  ·rw[gj j z];exact Rat.le_refl
theorem ye {n:Nat}{s:Rat}{m:Int}{k:Nat}{lo:Bool}{ps qs:List (Rat×Rat)} (hm:0<m) (h:RnQ n s m k lo ps qs) (ok:IsR ps) (sr:s<=bst n ps) (hk:k<ps.length):StQ k lo ps qs/\IsR qs/\s<=bst n qs/\shq n s m qs k lo=none:=by
 induction h with
 | stop e=>exact⟨⟨fG.refl _,λ _ _=>rfl,λ _=>rfl,λ _=>rfl⟩,ok,sr,e⟩
 | step e _ ih =>
  obtain⟨a,b,b2⟩:=xS hm hk e
  obtain⟨c,d,d2,f⟩:=ih b b2 (by rw[a.wi.len];exact hk)
  exact⟨a.trans c,d,d2,f⟩
def nX (d p:Nat×Bool):Prop:=(d.2=false->p.2=true∨(p.1≠d.1/\p.1+1≠d.1))/\(d.2=true->p.2=true/\p.1≠d.1/\p.1≠d.1+1)
theorem rC {n:Nat}{s:Rat}{m:Int}{k:Nat}{lo:Bool}{ps:List (Rat×Rat)} (h:shq n s m ps k lo=none):¬ nV n s m ps k lo:=λ c=>by rw[jr c] at h;cases h
theorem fG.set {ps qs:List (Rat×Rat)} (h:fG ps qs) {k:Nat} (hk:k<ps.length) {p q:Rat×Rat} (h1:p.1<=q.1) (h2:q.2<=p.2):fG (ps.set k p) (qs.set k q):=by
 refine⟨by rw[List.length_set,List.length_set];exact h.len,λ j=>?_,λ j=>?_⟩
 ·rw[bX hk,bX (by rw[h.len];exact hk)]
  split
  ·exact h1
  ·exact h.low j
 ·rw[bX hk,bX (by rw[h.len];exact hk)]
  split
  ·exact h2
  ·exact h.high j
theorem An {n:Nat}{s:Rat}{m:Int} (hm:0<m) (n1:1<=n) (n12:n<=12) {d p:Nat×Bool}{ps qs:List (Rat×Rat)} (hl:ps.length=n+1) (ok:IsR ps) (hd:d.1<ps.length) (st:StQ p.1 p.2 ps qs) (okq:IsR qs) (nh:nX d p) (h:shq n s m ps d.1 d.2=none):shq n s m qs d.1 d.2=none:=by
 obtain⟨j,lo⟩:=d
 obtain⟨k,hi⟩:=p
 obtain⟨nh1,nh2⟩:=nh
 dsimp only at *
 refine jJ λ c=>rC h ?_
 obtain⟨c2,c3⟩:=c
 have lq:=st.wi.len
 have hdq:j<qs.length:=by omega
 have c2':=c2
 unfold nxQ at c2'
 obtain⟨b0,b1,b2,b3,b4⟩:=(nj okq hdq).mp c2'
 have lo1:=st.wi.low j
 have hi1:=st.wi.high j
 have okj:=iY ok hd
 have r0:=(js hm).1
 have fin:∀ (w:fG (nxQ m ps j lo) (nxQ m qs j lo)) (i:IsR (nxQ m ps j lo)),nV n s m ps j lo:=λ w i=>⟨i,Rat.le_trans c3 (w.best n1 n12 (by unfold nxQ;rw[List.length_set];exact hl) i c2)⟩
 cases lo with
 | false =>
  have same:∀ i,(i=j∨i+1=j)->(qs.getD i (0,0)).2=(ps.getD i (0,0)).2:=λ i hi'=>by
   by_cases z:i=k
   ·rcases nh1 rfl with y | y
    ·rw[z];exact st.highs y
    ·omega
   ·rw[st.off i z]
  have ej:=same j (.inl rfl)
  unfold mvQ at b0 b1 b2 b3 b4
  rw[if_neg Bool.false_ne_true] at b0 b1 b2 b3 b4
  dsimp only at b0 b1 b2 b3 b4
  refine fin ?_ ?_
  ·unfold nxQ mvQ
   rw[if_neg Bool.false_ne_true,if_neg Bool.false_ne_true]
   exact st.wi.set hd lo1 (by show (qs.getD j (0,0)).2-rq 1 m<=(ps.getD j (0,0)).2-rq 1 m;grind)
  ·unfold nxQ mvQ
   rw[if_neg Bool.false_ne_true]
   refine (nj ok hd).mpr ?_
   dsimp only
   refine⟨okj.1,by grind,by grind,λ i hi'=>?_,λ h'=>?_⟩
   ·have x1:=(b3 i hi').2
    have x2:=same i (.inr hi')
    have x3:=d5 ok (i:=i) (by omega)
    rw[hi'] at x3
    exact⟨x3.1,by grind⟩
   ·have x3:=d5 ok (i:=j) h'
    exact⟨x3.1,by grind⟩
 | true =>
  obtain⟨y1,y2,y3⟩:=nh2 rfl
  have ej:(qs.getD j (0,0)).1=(ps.getD j (0,0)).1:=by rw[st.off j (by omega)]
  have en:(qs.getD (j+1) (0,0)).1=(ps.getD (j+1) (0,0)).1:=by rw[st.off (j+1) (by omega)]
  unfold mvQ at b0 b1 b2 b3 b4
  rw[if_pos rfl] at b0 b1 b2 b3 b4
  dsimp only at b0 b1 b2 b3 b4
  refine fin ?_ ?_
  ·unfold nxQ mvQ
   rw[if_pos rfl,if_pos rfl]
   exact st.wi.set hd (by show (ps.getD j (0,0)).1+rq 1 m<=(qs.getD j (0,0)).1+rq 1 m;grind) hi1
  ·unfold nxQ mvQ
   rw[if_pos rfl]
   refine (nj ok hd).mpr ?_
   dsimp only
   refine⟨by grind,by grind,okj.2.2,λ i hi'=>?_,λ h'=>?_⟩
   ·have x1:=d5 ok (i:=i) (by omega)
    rw[hi'] at x1
    exact⟨by grind,x1.2⟩
   ·have x1:=(b4 (by omega)).1
    have x3:=d5 ok (i:=j) h'
    exact⟨by grind,x3.2⟩
theorem jS {n:Nat}{s:Rat}{m:Int} (hm:0<m) (n1:1<=n) (n12:n<=12):∀ (l:List (Nat×Bool)) (done:List (Nat×Bool)) (ps qs:List (Rat×Rat)),gB n s m l ps qs->IsR ps->s<=bst n ps->ps.length=n+1->(∀ p∈l,p.1<=n)->(∀ d∈done,d.1<=n/\shq n s m ps d.1 d.2=none)->(∀ d∈done,∀ p∈l,nX d p)->l.Pairwise nX ->
  (∀ d∈done++l,shq n s m qs d.1 d.2=none)/\IsR qs/\s<=bst n qs/\fG ps qs
 | [],done,ps,qs,h,ok,sr,_,_,hd,_,_=>by
  have e:qs=ps:=h
  subst e
  exact⟨λ d hd'=>(hd d (by simpa using hd')).2,ok,sr,fG.refl _⟩
 | p::l,done,ps,qs,⟨r,h1,h2⟩,ok,sr,hl,hp,hd,hn,pw=>by
  have p1:=hp p (.head _)
  obtain⟨st,okr,srr,nr⟩:=ye hm h1 ok sr (by omega)
  obtain⟨pw1,pw2⟩:=List.pairwise_cons.mp pw
  obtain⟨a,b,b2,c⟩:=jS hm n1 n12 l (done++[p]) r qs h2 okr srr (st.wi.len.trans hl) (λ q hq=>hp q (.tail _ hq)) (λ d hd'=>by
   rcases List.mem_append.mp hd' with z | z
   ·exact⟨(hd d z).1,An hm n1 n12 hl ok (by have:=(hd d z).1;omega) st okr (hn d z p (.head _)) (hd d z).2⟩
   ·rw[List.mem_singleton.mp z];exact⟨p1,nr⟩) (λ d hd' q hq=>by
   rcases List.mem_append.mp hd' with z | z
   ·exact hn d z q (.tail _ hq)
   ·rw[List.mem_singleton.mp z];exact pw1 q hq) pw2
  refine⟨λ d hd'=>a d ?_,b,b2,st.wi.trans c⟩
  rw[List.append_assoc]
  exact hd'
theorem xi (n:Nat):(dM n).Pairwise nX:=by
 unfold dM hiE loE
 refine List.pairwise_append.mpr ⟨?_,?_,λ a ha b hb=>?_⟩
 ·refine List.pairwise_map.mpr (List.pairwise_lt_range.imp λ {a b} h=>⟨λ _=>.inr ⟨?_,?_⟩,λ z=>by cases z⟩)
  ·show b≠a;omega
  ·show b+1≠a;omega
 ·refine List.pairwise_map.mpr (List.Pairwise.imp_of_mem (λ {a b} ha hb h=>⟨(λ z=>by cases z),λ _=>⟨rfl,?_,?_⟩⟩) List.pairwise_lt_range)
  ·have:=List.mem_range.mp hb
   show n-b≠n-a
   omega
  ·show n-b≠n-a+1
   omega
 ·obtain⟨i,_,rfl⟩:=List.mem_map.mp ha
  obtain⟨k,_,rfl⟩:=List.mem_map.mp hb
  exact⟨λ _=>.inl rfl,λ z=>by cases z⟩
theorem uy {n k:Nat} (hk:k<=n) (lo:Bool):(k,lo)∈dM n:=by
 unfold dM hiE loE
 cases lo with
 | false=>exact List.mem_append_left _ (List.mem_map.mpr ⟨k,List.mem_range.mpr (by omega),rfl⟩)
 | true=>exact List.mem_append_right _ (List.mem_map.mpr ⟨n-k,List.mem_range.mpr (by omega),by show (n-(n-k),true)=(k,true);congr 1;omega⟩)
theorem B7 {n:Nat}{s:Rat}{m:Int} (hm:0<m) (n1:1<=n) (n12:n<=12) {ps qs:List (Rat×Rat)} (h:gB n s m (dM n) ps qs) (ok:IsR ps) (sr:s<=bst n ps) (hl:ps.length=n+1):(∀ k lo,k<=n->shq n s m qs k lo=none)/\IsR qs/\s<=bst n qs/\fG ps qs:=by
 obtain⟨a,b,b2,c⟩:=jS hm n1 n12 (dM n) [] ps qs h ok sr hl (λ p hp=>ku hp) (λ d hd=>by cases hd) (λ d hd=>by cases hd) (xi n)
 exact⟨λ k lo hk=>a (k,lo) (uy hk lo),b,b2,c⟩
structure Qa (D:Nat) (H:Hp) (x:Addr) (n:Nat) (ps:List (Rat×Rat)):Prop where
 ru:cq H x n ps
 ov:∀ p∈ps,Ov D p.1/\Ov D p.2
theorem Qa.keep {D:Nat}{H H':Hp}{x:Addr}{n:Nat}{ps:List (Rat×Rat)} (h:Qa D H x n ps) (s:ak H H'):Qa D H' x n ps:=⟨h.ru.keep s,h.ov⟩
theorem Shp.map {H H':Hp} (s:∀ b xs,H b=some (.tup xs)->H' b=some (.tup xs)) {a:Addr}{p:Rat} (h:Shp H a p):Shp H' a p:=⟨s _ _ h.ob,h.lo,h.hi,h.sz⟩
theorem FrA.map {H H':Hp} (s:∀ b xs,H b=some (.tup xs)->H' b=some (.tup xs)) {a:Addr}{p:Rat} (h:FrA H a p):FrA H' a p:=⟨s _ _ h.ob,h.st,h.sb⟩
theorem cK.map {H H':Hp} (s:∀ b xs,H b=some (.tup xs)->H' b=some (.tup xs)):∀ {ps:List (Rat×Rat)}{xs:List V},cK H ps xs->cK H' ps xs
 | [],_,h=>h
 | _::_,_,⟨a,la,ha,ys,e,h0,h1,h2,h3⟩=>⟨a,la,ha,ys,e,s _ _ h0,h1.map s,h2.map s,h3.map s⟩
theorem cq.map {H H':Hp} (s:∀ b xs,H b=some (.tup xs)->H' b=some (.tup xs)) {x:Addr}{n:Nat}{ps:List (Rat×Rat)} (h:cq H x n ps):cq H' x n ps:=by
 obtain⟨⟨t,zs,a,b,c⟩,ok⟩:=h
 exact⟨⟨t,zs,s _ _ a,s _ _ b,c.map s⟩,ok⟩
theorem Qa.map {H H':Hp} (s:∀ b xs,H b=some (.tup xs)->H' b=some (.tup xs)) {D:Nat}{x:Addr}{n:Nat}{ps:List (Rat×Rat)} (h:Qa D H x n ps):Qa D H' x n ps:=⟨h.ru.map s,h.ov⟩
theorem pS (ps:List (Rat×Rat)):thL ps=ps.map thP:=by
 unfold thL
 rw[List.map_map]
 rfl
theorem vW {H:Hp}{n:Nat}{ps:List (Rat×Rat)}{zs:List V} (h:cK H ps zs) (ok:di n ps):IsR ps:=oE ok (yh h)
theorem cq.isr {H:Hp}{x:Addr}{n:Nat}{ps:List (Rat×Rat)} (h:cq H x n ps):IsR ps:=by
 obtain⟨⟨t,zs,a,b,c⟩,ok⟩:=h
 exact vW c ok
theorem lS {D:Nat} (D0:0<D) (D1:D<=1000000) {r:Rat} (h:Ov D r) (h0:0<=r) (h1:r<=1):SmR 20 r:=by
 have d:=Nat.le_of_dvd D0 h.dvd
 have n0:=(eH r).mpr h0
 have n1:=(lR r).mpr h1
 have e:(1000000:Nat)<2^20:=by decide
 exact⟨Nat.lt_of_le_of_lt (show r.num.natAbs<=1000000 by omega) e,Nat.lt_of_le_of_lt (show (r.den:Int).natAbs<=1000000 by omega) e⟩
theorem Qa.sm {D:Nat} (D0:0<D) (D1:D<=1000000) {H:Hp}{x:Addr}{n:Nat}{ps:List (Rat×Rat)} (h:Qa D H x n ps):SmQ 20 ps:=λ p hp=>by
 obtain⟨a,b,c⟩:=h.ru.isr.inn p hp
 obtain⟨o1,o2⟩:=h.ov p hp
 exact⟨lS D0 D1 o1 a (by grind),lS D0 D1 o2 (by grind) c⟩
theorem l5 {D:Nat} (D0:0<D) (D1:D<=1000000) {H:Hp}:∀ {ps:List (Rat×Rat)}{zs:List V},bH H (ps.map thP) zs->(∀ p∈ps,0<=p.1/\p.1<=p.2/\p.2<=1)->(∀ p∈ps,Ov D p.1/\Ov D p.2)->cK H ps zs
 | [],_,h,_,_=>h
 | p::ps,zs,⟨y,ys,e,d1,d2⟩,h1,h2=>by
  obtain⟨a,la,ha,rfl,hb,hla,hha⟩:=kw (s:=sqR p) d1
  obtain⟨a1,a2,a3⟩:=h1 p (.head _)
  obtain⟨o1,o2⟩:=h2 p (.head _)
  exact⟨a,la,ha,ys,e,hb,⟨hla,a1,by grind,(lS D0 D1 o1 a1 (by grind)).2.mono (by decide)⟩,⟨hha,by grind,a3,(lS D0 D1 o2 (by grind) a3).2.mono (by decide)⟩,l5 D0 D1 d2 (λ q hq=>h1 q (.tail _ hq)) λ q hq=>h2 q (.tail _ hq)⟩
theorem zR {D:Nat} (D0:0<D) (D1:D<=1000000) {H:Hp}{f:Addr}{n:Nat}{qs:List (Rat×Rat)} (n1:1<=n) (n12:n<=12) (hl:qs.length=n+1) (ir:IsR qs) (ov:∀ p∈qs,Ov D p.1/\Ov D p.2) (d:Den H (ruT (n:Int) (qs.map sqR)) (.ref f)):Qa D H f n qs:=by
 obtain⟨q,xs,e,hq,x1,r1,e1,d1,x2,r2,e2,d2,e3⟩:=d
 cases e
 have d1':x1=V.int n:=d1
 have e3':r2 = []:=e3
 subst e3' e2 e1 d1'
 obtain⟨t,zs,e5,ht,dz⟩:=d2
 subst e5
 have dz':bH H (qs.map thP) zs:=by rw[<-pS];exact dz
 exact⟨⟨⟨t,zs,hq,ht,l5 D0 D1 dz' ir.inn ov⟩,h7 ir n1 n12 hl⟩,ov⟩
theorem Ax {D:Nat}{m:Int} (hm:0<m) (h:m.toNat ∣ D):Ov D (rq 1 m):=by
 have e:=(js hm).2
 refine Ov.up (A:=m.toNat) ⟨1,?_⟩ h
 have z:((m.toNat:Nat):Rat)=(m:Rat):=by
  have:((m.toNat:Nat):Int)=m:=by omega
  rw[<-Rat.intCast_natCast,this]
 rw[z,e]
 rfl
theorem A8 {D:Nat}{m:Int} (hm:0<m) (h:m.toNat ∣ D) {ps:List (Rat×Rat)}{k:Nat}{lo:Bool} (hk:k<ps.length) (ov:∀ p∈ps,Ov D p.1/\Ov D p.2):∀ p∈nxQ m ps k lo,Ov D p.1/\Ov D p.2:=λ p hp=>by
 unfold nxQ at hp
 rcases List.mem_or_eq_of_mem_set hp with z | z
 ·exact ov p z
 ·have mem:ps.getD k (0,0)∈ps:=by rw[List.getD,List.getElem?_eq_getElem hk];exact List.getElem_mem hk
  obtain⟨o1,o2⟩:=ov _ mem
  have o3:=Ax hm h
  rw[z]
  unfold mvQ
  cases lo with
  | true=>rw[if_pos rfl];exact⟨o1.add o3,o2⟩
  | false=>rw[if_neg Bool.false_ne_true];exact⟨o1,o2.sub o3⟩
def ShW (D:Nat) (H:Hp) (n:Nat):Option (List (Rat×Rat))->V->Prop
 | none,v=>v=.non
 | some ps,v=>∃ y,v=.ref y/\Qa D H y n ps
def vh:Sp:=λ vs H Q _=>∃ (x a:Addr) (D n k:Nat) (m:Int) (s:Rat) (ps:List (Rat×Rat)) (lo:Bool),vs = [.ref x,.int k,.str (eS lo),.ref a,.int m]/\Qa D H x n ps/\k<=n/\FrA H a s/\0<m/\m<=1000/\m.toNat ∣ D/\0<D/\D<=1000000 /\
 ∀ v H',ak H H'->ShW D H' n (shq n s m ps k lo) v->Q v H'
theorem vK:aA ["rule","k","end","share","measure","shorter"] ["rule","k","end","share","measure"] (ag k7):=⟨rfl,rfl,rfl,by decide +kernel,rfl,by decide +kernel,by decide +kernel⟩
theorem AM {f:Addr}{fd:FuncData} (F:Fun K "sure_when_moved" "sure_when_moved" k7 f fd) (T:Txt mg) {fmov:Addr}{dmov:FuncData} (Gmov:ax P w K mg base CX0 9 fmov dmov ["rule","k","end","measure"] zF) (bmov:aE K dmov ["rule","k","end","measure"] []) (kmov:PySem.W.keepIn K (.ref fmov)=true) (mmov:mg "moved" = some (.ref fmov)) {fleast:Addr}{dleast:FuncData} (Gleast:ax P w K mg base CX0 9 fleast dleast ["rule"] rh) (bleast:aE K dleast ["rule"] []) (kleast:PySem.W.keepIn K (.ref fleast)=true) (mleast:mg "least" = some (.ref fleast)) {fund:Addr}{dund:FuncData} (Gund:ax P w K mg base CX0 9 fund dund ["one","other"] ja) (bund:aE K dund ["one","other"] []) (kund:PySem.W.keepIn K (.ref fund)=true) (mund:mg "under" = some (.ref fund)):ax P w K mg base CX0 10 f fd ["rule","k","end","share","measure"] vh:=by
 refine F.ok vK (λ vs H Q E h=>?_) (λ cdv A outer s H vs Q E hr h=>?_)
 ·obtain⟨x,a,D,n,k,m,s,ps,lo,rfl,_⟩:=h
  rfl
 obtain⟨x,a,D,n,k,m,sh,ps,lo,rfl,hx,hk,fs,m0,m1,mD,D0,D1,q⟩:=h
 refine⟨_,(af (au (i:=5) vK.nd rfl (Or.inl rfl) (aj Gmov hr rfl mmov kmov bmov .nil aD (aa (pv 0) (aa (pv 1) (aa (pv 2) (aa (pv 4) ac))))))
  (af (br (PW.pt (cE (aG m7 (pv 5) d9 (aL _)) (cy (a9 (aj Gund hr rfl mund kund bund .nil aD (aa (am aq (aj Gleast hr rfl mleast kleast bleast .nil aD (aa (pv 5) ac)) ae (λ _ _=>rfl)) (aa (pv 3) ac))))))) (ah (aB d9)) aK)
  (ah (aB (pv 5))))),?_⟩
 obtain⟨t,zs,ox,ot,row⟩:=hx.ru.ob
 have ok:=hx.ru.ok
 have lp:=ok.len
 have hkl:k<ps.length:=by omega
 have ep:=List.getElem?_eq_getElem hkl
 have gp:ps.getD k (0,0)=ps[k]:=cJ ep
 have szm:Sz 20 m:=Nat.lt_of_le_of_lt (show m.natAbs<=1000 by omega) (by decide)
 have enx:ps.set k (mvP (eS lo) m ps[k])=nxQ m ps k lo:=by unfold nxQ;rw[Ba,gp]
 have lnx:(nxQ m ps k lo).length=n+1:=by unfold nxQ;rw[List.length_set];exact lp
 dsimp only
 refine bQ (λ σ G=>ak H G/\∃ v,σ = [some (.ref x),some (.int k),some (.str (eS lo)),some (.ref a),some (.int m),some v]/\((IsR (nxQ m ps k lo)/\∃ f,v=.ref f/\Qa D G f n (nxQ m ps k lo))∨(¬ IsR (nxQ m ps k lo)/\v=.non))) ?_ ?_
 ·intro M hM
  refine⟨_,rfl,_,rfl,_,rfl,_,rfl,x,t,zs,(n:Int),m,k,eS lo,ps,ps[k],rfl,ox,ot,by rw[pS];exact iu row,by have:=ok.n1;omega,by have:=ok.n12;omega,by rw[lp];rfl,ep,hx.sm D0 D1,m0,szm,λ ir f H1 s1 df=>?_,λ no H1 s1=>?_⟩
  ·rw[enx] at ir df
   exact hM _ _ ⟨s1,_,rfl,.inl ⟨ir,f,rfl,zR D0 D1 ok.n1 ok.n12 lnx ir (A8 m0 mD hkl hx.ov) df⟩⟩
  ·rw[enx] at no
   exact hM _ _ ⟨s1,_,rfl,.inr ⟨no,rfl⟩⟩
 rintro σ G ⟨sG,v,rfl,⟨ir,f,rfl,hf⟩ | ⟨no,rfl⟩⟩
 ·refine⟨_,rfl,rfl,_,rfl,aW ⟨_,rfl,f,n,_,rfl,hf.ru,λ c y t' a' H1 hc s1 hy ft sa=>?_⟩⟩
  refine⟨y,_,0,_,rfl,rfl,SqT.of hy,at0,_,rfl,t',a,_,_,rfl,ft,fs.keep (sG.trans s1),_,rfl,?_⟩
  have eb:=i8 hc
  by_cases cc:c.1<sh
  ·rw[decide_eq_true cc]
   refine bD (q _ _ (sG.trans s1) ?_)
   rw[jJ λ z=>by have:=z.2;rw[eb] at this;grind]
   rfl
  ·rw[decide_eq_false cc]
   refine aW ⟨_,rfl,q _ _ (sG.trans s1) ?_⟩
   rw[jr ⟨ir,by rw[eb];grind⟩]
   exact⟨f,rfl,hf.keep s1⟩
 ·refine⟨_,rfl,rfl,_,rfl,bD (q _ _ sG ?_)⟩
  rw[jJ λ z=>no z.1]
  rfl
def yL:Expr:=match (av dX).getLast? with
 | some (.Return (some (.Call _ (_::_::l::_) _ _)) _)=>l
 | _=>.Constant (.bool true) 0 ⟨0,0,0,0⟩
def yM:Arguments:=match yL with
 | .Lambda a _ _ _=>a
 | _=>ay dX
def yN:Expr:=match yL with
 | .Lambda _ b _ _=>b
 | e=>e
def qm:Scope:=match yL with
 | .Lambda _ _ c _=>c
 | _=>ag dX
def ng:Pos:=match yL with
 | .Lambda _ _ _ p=>p
 | _=>⟨0,0,0,0⟩
def qo:Str:=("tight":Str) ++ ".<locals>." ++ "<lambda>"
def pmV (mg:Str->Option Value):Value:=(mg "__name__").getD .none
theorem At:pL ["kept","k","end","measure","share"] ["kept","k","end"] ["measure","share"] qm where
 kind:=rfl
 co:=rfl
 gen:=rfl
 len:=rfl
 nocell:=by decide +kernel
 par:=by decide +kernel
 fre:=by decide +kernel
 only:=λ x h=>by
  have h':x∈(qm.names.filter (λ p=>p.2 == .free)).map (·.1):=List.mem_map.mpr ⟨_,List.mem_filter.mpr ⟨PySem.mem_of_lookup h,rfl⟩,rfl⟩
  have e:(qm.names.filter (λ p=>p.2 == .free)).map (·.1) = [("measure":Str),("share":Str)]:=by decide +kernel
  rw[e] at h'
  exact h'
 look:=λ us hu i x u hx hv=>by
  match us,hu with
  | [u1,u2,u3],_ =>
   match i,hx,hv with
   | 0,hx,hv=>cases hx;cases hv;rfl
   | 1,hx,hv=>cases hx;cases hv;rfl
   | 2,hx,hv=>cases hx;cases hv;rfl
   | i+3,hx,_=>simp at hx
structure Mv where
 f:Addr
 c:Addr
 cS:Addr
 cM:Addr
 a:Addr
 D:Nat
 s:Rat
 m:Int
 ctv:Value
 oS:Obj
 oM:Obj
 nq:cM≠cS
def uH (cM cS:Addr):List (Str×Addr):=[("share",cS),("measure",cM)]
theorem nO {cM cS c:Addr}{y:Str} (h:(uH cM cS).lookup y=some c):(y = "measure"/\c=cM)∨(y = "share"/\c=cS):=by
 unfold uH at h
 rw[List.lookup_cons] at h
 cases hb:y == ("share":Str) with
 | true=>rw[hb] at h;cases h;exact .inr ⟨beq_iff_eq.mp hb,rfl⟩
 | false =>
  rw[hb] at h
  have h2:List.lookup y [(("measure":Str),cM)]=some c:=h
  rw[List.lookup_cons] at h2
  cases hb2:y == ("measure":Str) with
  | true=>rw[hb2] at h2;cases h2;exact .inl ⟨beq_iff_eq.mp hb2,rfl⟩
  | false=>rw[hb2] at h2;cases h2
def B6 (mg:Str->Option Value) (π:Mv):Obj:=PySem.W.kla_obj "<lambda>" qo yM yN qm (uH π.cM π.cS) (pmV mg) π.c π.ctv
structure xz (mg:Str->Option Value) (π:Mv) (H:Hp):Prop where
 fn:H π.f=some (Fz (B6 mg π))
 cd:∃ oc,H π.c=some (Fz oc)/\kE oc qo
 cs:H π.cS=some (Fz π.oS)
 cm:H π.cM=some (Fz π.oM)
 ds:π.oS.data=.cell (some (.ref π.a))
 dm:∃ t,π.oM.data=.cell (some (.int π.m t))
 sh:FrA H π.a π.s
 m0:0 < π.m
 m1:π.m<=1000
 mD:π.m.toNat ∣ π.D
 D0:0 < π.D
 D1:π.D<=1000000
theorem xz.keep {mg:Str->Option Value}{π:Mv}{H H':Hp} (h:xz mg π H) (s:ak H H'):xz mg π H':=by
 obtain⟨oc,e1,e2⟩:=h.cd
 exact⟨s _ _ h.fn,⟨oc,s _ _ e1,e2⟩,s _ _ h.cs,s _ _ h.cm,h.ds,h.dm,h.sh.keep s,h.m0,h.m1,h.mD,h.D0,h.D1⟩
theorem jw {H:Hp}{c b:Addr}{o:Obj}{xs:List V} (hc:H c=some (Fz o)) (e:H b=some (.tup xs)):hid H c b=some (.tup xs):=by
 rw[cC (λ z=>by rw[z,hc] at e;cases e)];exact e
def BP (mg:Str->Option Value) (π:Mv):Sp:=λ vs H Q _=>∃ (x:Addr) (n k:Nat) (ps:List (Rat×Rat)) (lo:Bool),vs = [.ref x,.int k,.str (eS lo)]/\xz mg π H/\Qa π.D H x n ps/\k<=n /\
 ∀ v H',ak H H'->ShW π.D H' n (shq n π.s π.m ps k lo) v->Q v H'
theorem ShW.map {H H':Hp} (s:∀ b xs,H b=some (.tup xs)->H' b=some (.tup xs)) {D n:Nat}:∀ {o:Option (List (Rat×Rat))}{v:V},ShW D H n o v->ShW D H' n o v
 | none,_,h=>h
 | some _,_,⟨y,e,h⟩=>⟨y,e,h.map s⟩
theorem A5 (T:Txt mg) {fswm:Addr}{dswm:FuncData} (Gswm:ax P w K mg base CX0 11 fswm dswm ["rule","k","end","share","measure"] vh) (bswm:aE K dswm ["rule","k","end","share","measure"] []) (kswm:PySem.W.keepIn K (.ref fswm)=true) (mswm:mg "sure_when_moved" = some (.ref fswm)) (π:Mv):ax P w K mg base CX0 12 π.f (PySem.W.kla_fn "<lambda>" qo yM yN qm (uH π.cM π.cS) (pmV mg) (.ref π.c) π.ctv) ["kept","k","end"] (BP mg π):=by
 have nq:=π.nq
 refine Bq (cs:=[π.cM,π.cS]) (ys:=["measure","share"]) (N:=["kept","k","end","measure","share"]) At ?_ ?_ rfl ?_ (by simp [nq]) (λ vs H Q E h=>?_) (λ A outer s H vs Q E hr h=>?_)
 ·intro i y c h1 h2
  match i,h1,h2 with
  | 0,h1,h2=>cases h1;cases h2;rfl
  | 1,h1,h2=>cases h1;cases h2;rfl
  | i+2,h1,_=>simp at h1
 ·intro y c h
  rcases nO h with ⟨rfl,rfl⟩ | ⟨rfl,rfl⟩
  ·exact⟨List.mem_cons_self,List.mem_cons_self⟩
  ·exact⟨List.mem_cons_of_mem _ List.mem_cons_self,List.mem_cons_of_mem _ List.mem_cons_self⟩
 ·intro x y c h1 h2
  rcases nO h1 with ⟨rfl,e1⟩ | ⟨rfl,e1⟩<;>rcases nO h2 with ⟨rfl,e2⟩ | ⟨rfl,e2⟩
  ·rfl
  ·exact absurd (e1.symm.trans e2) nq
  ·exact absurd (e2.symm.trans e1) nq
  ·rfl
 ·obtain⟨x,n,k,ps,lo,rfl,_⟩:=h
  rfl
 obtain⟨x,n,k,ps,lo,rfl,mv,hx,hk,q⟩:=h
 have hcs:=mv.cs
 have hcm:=mv.cm
 obtain⟨tm,dm⟩:=mv.dm
 refine⟨mv.fn,mv.cd,[π.oM,π.oS],[.int π.m,.ref π.a],rfl,rfl,?_,?_⟩
 ·intro i c o v h1 h2 h3
  match i,h1,h2,h3 with
  | 0,h1,h2,h3=>cases h1;cases h2;cases h3;exact⟨hcm,_,⟨tm,rfl⟩,dm⟩
  | 1,h1,h2,h3=>cases h1;cases h2;cases h3;exact⟨hcs,_,rfl,mv.ds⟩
  | i+2,h1,_,_=>simp at h1
 refine⟨_,(aj Gswm hr rfl mswm kswm bswm .nil aD (aa (pv 0) (aa (pv 1) (aa (pv 2) (aa (pv 4) (aa (pv 3) ac)))))),?_⟩
 have hcs':hid H π.cM π.cS=some (Fz π.oS):=by rw[cC (Ne.symm nq)];exact hcs
 have tp:∀ b xs,H b=some (.tup xs)->hid (hid H π.cM) π.cS b=some (.tup xs):=λ b xs e=>jw hcs' (jw hcm e)
 have Co:∀ H2:Hp,ak (hid (hid H π.cM) π.cS) H2->ak H (upd (upd H2 π.cS (Fz π.oS)) π.cM (Fz π.oM)):=λ H2 sm b o e=>by
  by_cases z:b = π.cM
  ·rw[z,ad,<-hcm,<-z,e]
  ·rw[al z]
   by_cases y:b = π.cS
   ·rw[y,ad,<-hcs,<-y,e]
   ·rw[al y]
    exact sm b o (by rw[cC y,cC z];exact e)
 refine⟨_,rfl,_,rfl,_,rfl,_,rfl,_,rfl,x,π.a,π.D,n,k,π.m,π.s,ps,lo,rfl,hx.map tp,hk,mv.sh.map tp,mv.m0,mv.m1,mv.mD,mv.D0,mv.D1,λ v H2 sm sv fr=>?_⟩
 have n1:H2 π.cM=none:=fr _ List.mem_cons_self
 have n2:H2 π.cS=none:=fr _ (List.mem_cons_of_mem _ List.mem_cons_self)
 refine q v _ (Co H2 sm) (sv.map λ b xs e=>?_)
 show upd (upd H2 π.cS (Fz π.oS)) π.cM (Fz π.oM) b=_
 rw[al (aC e n1),al (aC e n2)]
 exact e
theorem Cp {mg:Str->Option Value} (π:Mv):aE K (PySem.W.kla_fn "<lambda>" qo yM yN qm (uH π.cM π.cS) (pmV mg) (.ref π.c) π.ctv) ["kept","k","end"] []:=aE.all λ us hl=>match us,hl with | [_,_,_],_=>rfl
def fX (H:Hp):List (Nat×Bool)->List V->Prop
 | [],xs=>xs = []
 | p::ps,xs=>∃ a ys,xs=.ref a::ys/\H a=some (.tup [.int (p.1:Nat),.str (eS p.2)])/\fX H ps ys
theorem fX.map {H H':Hp} (s:∀ b xs,H b=some (.tup xs)->H' b=some (.tup xs)):∀ {ps:List (Nat×Bool)}{xs:List V},fX H ps xs->fX H' ps xs
 | [],_,h=>h
 | _::_,_,⟨a,ys,e,h1,h2⟩=>⟨a,ys,e,s _ _ h1,h2.map s⟩
theorem fX.len {H:Hp}:∀ {ps:List (Nat×Bool)}{xs:List V},fX H ps xs->xs.length=ps.length
 | [],_,h=>by rw[show _ = [] from h];rfl
 | _::_,_,⟨a,ys,e,h1,h2⟩=>by rw[e,List.length_cons,List.length_cons,h2.len]
theorem fX.get {H:Hp}:∀ {ps:List (Nat×Bool)}{xs:List V}{i:Nat}{p:Nat×Bool},fX H ps xs->ps[i]? = some p->∃ a,xs[i]? = some (.ref a)/\H a=some (.tup [.int (p.1:Nat),.str (eS p.2)])
 | _::_,_,0,p,⟨a,ys,e,h1,h2⟩,q=>by
  rw[List.getElem?_cons_zero] at q;cases q
  exact⟨a,by rw[e];rfl,h1⟩
 | _::_,_,i+1,p,⟨a,ys,e,h1,h2⟩,q=>by
  rw[List.getElem?_cons_succ] at q
  obtain⟨b,f,g⟩:=h2.get q
  exact⟨b,by rw[e,List.getElem?_cons_succ];exact f,g⟩
theorem fX.app {H:Hp}:∀ {ps qs:List (Nat×Bool)}{xs ys:List V},fX H ps xs->fX H qs ys->fX H (ps++qs) (xs++ys)
 | [],_,_,_,h,k=>by rw[show _ = [] from h];exact k
 | _::_,_,_,_,⟨a,zs,e,h1,h2⟩,k=>by rw[e];exact⟨a,_,rfl,h1,h2.app k⟩
def Aq (mg:Str->Option Value):Sp:=λ vs H Q _=>∃ (x:Addr) (n:Nat) (ps:List (Rat×Rat)) (π:Mv),vs = [.ref x,.int n,.ref π.f]/\xz mg π H/\Qa π.D H x n ps/\∀ ps' y H',gB n π.s π.m (dM n) ps ps'->ak H H'->Qa π.D H' y n ps'->Q (.ref y) H'
theorem jO:aA ["rule","n","move","ends","k","end","shorter"] ["rule","n","move"] (ag tM):=⟨rfl,rfl,rfl,by decide +kernel,rfl,by decide +kernel,by decide +kernel⟩
theorem B2 {f:Addr}{fd:FuncData} (F:Fun K "made_tight" "made_tight" tM f fd) (T:Txt mg) {fswm:Addr}{dswm:FuncData} (Gswm:ax P w K mg base CX0 11 fswm dswm ["rule","k","end","share","measure"] vh) (bswm:aE K dswm ["rule","k","end","share","measure"] []) (kswm:PySem.W.keepIn K (.ref fswm)=true) (mswm:mg "sure_when_moved" = some (.ref fswm)):ax P w K mg base CX0 13 f fd ["rule","n","move"] (Aq mg):=by
 have GV:=λ π:Mv=>A5 (base:=base) (P:=P) (w:=w) T Gswm bswm kswm mswm π
 have bV:=λ π:Mv=>Cp (K:=K) (mg:=mg) π
 refine F.ok jO (λ vs H Q E h=>?_) (λ cdv A outer s H vs Q E hr h=>?_)
 ·obtain⟨x,n,ps,π,rfl,_⟩:=h
  rfl
 obtain⟨x,n,ps,π,rfl,mv,hx,q⟩:=h
 refine⟨_,(af (au (i:=3) jO.nd rfl (Or.inl rfl) (ar fg (fe (ts:=[]) rfl ⟨rfl,u9,rfl,rfl,rfl,rfl,by decide +kernel,rfl,rfl⟩ (aZ rfl T.range (aa (ar aV (pv 1) ae) ac)) (λ C s3 H3 fp=>(aQ (aa (pv 0) (aa bS ac))))) (fe (ts:=[]) rfl ⟨rfl,u9,rfl,rfl,rfl,rfl,by decide +kernel,rfl,rfl⟩ (iU rfl T.range (aa (pv 1) (aa (jY gI ae) (aa (jY gI ae) ac)))) (λ C s3 H3 fp=>(aQ (aa (pv 0) (aa bS ac)))))))
  (af (bA PassesOwn.never rfl (cW (pv 3)) (fc rfl (aJ (az (i:=4) jO.nd rfl (Or.inl rfl)) (aJ (az (i:=5) jO.nd rfl (Or.inl rfl)) bO))) (af (au (i:=6) jO.nd rfl (Or.inl rfl) (oU GV hr bV (pv 2) (aa (pv 0) (aa (pv 4) (aa (pv 5) ac)))))
   (ah (g9 PassesOwn.never (aG yr (pv 6) d9 (aL _)) (af (au (i:=0) jO.nd rfl (Or.inl rfl) (pv 6))
    (ah (au (i:=6) jO.nd rfl (Or.inl rfl) (oU GV hr bV (pv 2) (aa (pv 0) (aa (pv 4) (aa (pv 5) ac)))))))))))
  (ah (aB (pv 0))))),?_⟩
 have n10:=hx.ru.ok.n12
 have n1:=hx.ru.ok.n1
 have en:((n:Int)+1).toNat=n+1:=by omega
 dsimp only
 refine bQ (λ σ G=>ak H G/\∃ l zs,σ = [some (.ref x),some (.int n),some (.ref π.f),some (.ref l),none,none,none]/\G l=some (.lst zs)/\fX G (dM n) zs) ?_ ?_
 ·intro M hM
  refine⟨_,rfl,_,_,rfl,rfl,_,rfl,by omega,by omega,λ D hD=>?_⟩
  rw[en]
  refine fV (λ i ys G=>fX G (hiE i) ys) hD (Nat.le_of_lt (m8 (by omega))) rfl ?_ ?_
  ·intro k ys H2 kk hk s2 hD2 row hq
   refine⟨_,rfl,(by show 2<=sizeLine;decide),λ w hw=>?_⟩
   have s3:=ai hw (.tup [V.int (0+(k:Int)),V.str "high"])
   refine hq (.ref w) _ s3 ?_
   rw[pe]
   have row2:fX (upd H2 w (.tup [V.int (0+(k:Int)),V.str "high"])) (hiE k++[(k,false)]) (ys++[.ref w]):=(row.map λ b xs e=>s3 _ _ e).app ⟨w,[],rfl,by show upd H2 w _ w=_;rw[ad,show (0:Int)+(k:Int)=(k:Int) by omega];rfl,rfl⟩
   exact row2.map λ b xs e=>by rw[al (gE e (s3 _ _ hD2) (by intro z;cases z))];exact e
  ·intro ys H2 s2 hD2 ly row
   refine⟨_,rfl,_,rfl,_,rfl,_,_,rfl,⟨by omega,by omega,by decide,by decide⟩,λ D2 hD'=>?_⟩
   rw[show ((n:Int) - -1).toNat=n+1 by omega]
   refine qI (λ i ys G=>fX G (loE n i) ys) hD' (Nat.le_of_lt (m8 (by omega))) rfl ?_ ?_
   ·intro k ys2 H3 kk hk s3 hD3 row3 hq
    refine⟨_,rfl,(by show 2<=sizeLine;decide),λ w hw=>?_⟩
    have s4:=ai hw (.tup [V.int ((n:Int)-(k:Int)),V.str "low"])
    refine hq (.ref w) _ s4 ?_
    rw[o5]
    have row4:fX (upd H3 w (.tup [V.int ((n:Int)-(k:Int)),V.str "low"])) (loE n k++[(n-k,true)]) (ys2++[.ref w]):=(row3.map λ b xs e=>s4 _ _ e).app ⟨w,[],rfl,by show upd H3 w _ w=_;rw[ad,show (n:Int)-(k:Int)=((n-k:Nat):Int) by omega];rfl,rfl⟩
    exact row4.map λ b xs e=>by rw[al (gE e (s4 _ _ hD3) (by intro z;cases z))];exact e
   ·intro ys2 H3 s3 hD3 ly2 row3
    refine⟨D,D2,_,_,rfl,rfl,s3 _ _ hD2,hD3,Nat.le_of_lt (m8 (by omega)),λ l hl=>?_⟩
    have s4:=ai hl (.lst (ys++ys2))
    exact hM _ _ ⟨((s2.trans s3).trans s4),l,_,rfl,ad,((row.map λ b xs e=>s3 _ _ e).app row3).map λ b xs e=>s4 _ _ e⟩
 rintro σ G ⟨sG,l,zs,rfl,hl,row⟩
 have lz:=row.len
 refine⟨_,rfl,l,rfl,⟨_,SqL.of hl⟩,?_⟩
 refine eU (xs:=zs) (λ i σ G'=>ak G G'/\∃ x' ps' v1 v2 v3,σ = [some (.ref x'),some (.int n),some (.ref π.f),some (.ref l),v1,v2,v3]/\Qa π.D G' x' n ps'/\gB n π.s π.m ((dM n).take i) ps ps') ⟨ak.refl G,x,ps,none,none,none,rfl,hx.keep sG,rfl⟩ ?_ ?_ ?_
 ·rintro i σ G' hi ⟨sm,_⟩
  exact SqL.of (sm _ _ hl)
 ·rintro i z σ G1 hz ⟨sm,x',ps',v1,v2,v3,rfl,hx',run⟩
  have hi:i<(dM n).length:=by rw[<-lz];exact (List.getElem?_eq_some_iff.mp hz).1
  have ep:=List.getElem?_eq_getElem hi
  generalize hp:(dM n)[i]=p at ep
  obtain⟨k,lo⟩:=p
  have hk:k<=n:=ku (List.mem_of_getElem? ep)
  obtain⟨a,f1,f2⟩:=row.get ep
  rw[hz] at f1
  cases f1
  have f2':=sm _ _ f2
  have smH:=sG.trans sm
  have mv1:=mv.keep smH
  refine⟨a,_,rfl,SqT.of f2',rfl,.int (k:Nat),_,rfl,.str (eS lo),[],rfl,rfl,?_⟩
  dsimp only
  have call:∀ (G2:Hp) (y:Addr) (qs:List (Rat×Rat)) (v3:Option V) (D:gC),ak G1 G2->Qa π.D G2 y n qs->(∀ v G3,ak G2 G3->ShW π.D G3 n (shq n π.s π.m qs k lo) v->D.nx [some (.ref y),some (.int n),some (.ref π.f),some (.ref l),some (.int (k:Nat)),some (.str (eS lo)),some v] G3) ->
    xN (u7 Mv.f 2 (BP mg) (qX (pT 0) (qX (pT 4) (qX (pT 5) BG)))) (cr 6) D [some (.ref y),some (.int n),some (.ref π.f),some (.ref l),some (.int (k:Nat)),some (.str (eS lo)),v3] G2:=λ G2 y qs v3 D s2 hy hM=>by
   have mv2:=mv1.keep s2
   exact⟨π,rfl,_,rfl,_,rfl,_,rfl,⟨_,_,_,_,mv2.fn⟩,y,n,k,qs,lo,rfl,mv2,hy,hk,λ v G3 s3 sv=>hM v G3 s3 sv⟩
  refine bQ (λ σ G2=>ak G1 G2/\∃ v,σ = [some (.ref x'),some (.int n),some (.ref π.f),some (.ref l),some (.int (k:Nat)),some (.str (eS lo)),some v]/\ShW π.D G2 n (shq n π.s π.m ps' k lo) v) ?_ ?_
  ·intro M hM
   exact call G1 x' ps' v3 _ (ak.refl _) hx' λ v G3 s3 sv=>hM _ _ ⟨s3,v,rfl,sv⟩
  rintro σ G2 ⟨s2,v,rfl,sv⟩
  refine⟨λ m σ G3=>ak G1 G3/\∃ y qs v,σ = [some (.ref y),some (.int n),some (.ref π.f),some (.ref l),some (.int (k:Nat)),some (.str (eS lo)),some v]/\Qa π.D G3 y n qs/\ShW π.D G3 n (shq n π.s π.m qs k lo) v/\m=uw π.m qs k/\∀ r,RnQ n π.s π.m k lo qs r->RnQ n π.s π.m k lo ps' r,⟨_,s2,x',ps',v,rfl,hx'.keep s2,sv,rfl,λ r h=>h⟩,?_⟩
  rintro m σ G3 ⟨s3,y,qs,v,rfl,hy,sv,rfl,hr'⟩
  cases e:shq n π.s π.m qs k lo with
  | none =>
   rw[e] at sv
   have ev:v=.non:=sv
   subst ev
   refine⟨_,rfl,rfl,_,rfl,aW ⟨sm.trans s3,y,qs,_,_,_,rfl,hy,?_⟩⟩
   rw[List.take_add_one,ep]
   exact gB.snoc run (hr' qs (.stop e))
  | some qs1 =>
   rw[e] at sv
   obtain⟨z,rfl,hz'⟩:=sv
   refine⟨_,rfl,rfl,_,rfl,bD ⟨λ σ G4=>ak G1 G4/\∃ v,σ = [some (.ref z),some (.int n),some (.ref π.f),some (.ref l),some (.int (k:Nat)),some (.str (eS lo)),some v]/\Qa π.D G4 z n qs1/\ShW π.D G4 n (shq n π.s π.m qs1 k lo) v,?_,?_⟩⟩
   ·rintro σ' G4 ⟨s4,v,rfl,hz4,sv4⟩
    exact⟨uw π.m qs1 k,rD mv.m0 (by rw[hy.ru.ok.len];omega) e,s4,z,qs1,v,rfl,hz4,sv4,rfl,λ r h=>hr' r (.step e h)⟩
   ·refine⟨_,rfl,?_⟩
    exact call G3 z qs1 _ _ s3 hz' λ v G4 s4 sv4=>⟨s3.trans s4,v,rfl,hz'.keep s4,sv4⟩
 ·rintro σ G1 ⟨sm,x',ps',v1,v2,v3,rfl,hx',run⟩
  rw[List.take_of_length_le (by omega)] at run
  exact⟨_,rfl,q ps' x' G1 run (sG.trans sm) hx'⟩
def sY (T:Addr) (H H':Hp):Prop:=∀ b o,b≠T->H b=some o->H' b=some o
theorem sY.tup {T:Addr}{H H':Hp} (s:sY T H H') {tp:Array Value} (hT:H T=some (.tbl tp)):∀ b xs,H b=some (.tup xs)->H' b=some (.tup xs):=λ b xs e=>s b _ (λ z=>by rw[z,hT] at e;cases e) e
def uO (T:Addr) (H:Hp):Prop:=∃ tp:Array Value,H T=some (.tbl tp)/\TriplesOk tp.toList/\(codeAmong ng tp.toList=none∨∃ c oc,codeAmong ng tp.toList=some (.ref c)/\H c=some (Fz oc)/\kE oc qo)
theorem uO.keep {T:Addr}{H H':Hp} (h:uO T H) (s:ak H H'):uO T H':=by
 obtain⟨tp,a,b,c⟩:=h
 refine⟨tp,s _ _ a,b,?_⟩
 rcases c with c | ⟨d,oc,e1,e2,e3⟩
 ·exact .inl c
 ·exact .inr ⟨d,oc,e1,s _ _ e2,e3⟩
def zA (T:Addr):Sp:=λ vs H Q _=>∃ (x a:Addr) (D n:Nat) (m:Int) (s:Rat) (ps:List (Rat×Rat)),vs = [.ref x,.ref a,.int m]/\Qa D H x n ps/\FrA H a s/\0<m/\m<=20/\n<=6/\m.toNat ∣ D/\0<D/\D<=1000000/\uO T H/\s<=bst n ps /\
 ∀ ps' y H',gB n s m (dM n) ps ps'->sY T H H'->uO T H'->Qa D H' y n ps'->Q (.ref y) H'
theorem vJ:aA ["rule","share","measure","told"] ["rule","share","measure"] (ag dX):=⟨rfl,rfl,rfl,by decide +kernel,rfl,by decide +kernel,by decide +kernel⟩
theorem AL {f:Addr}{od an:Option Addr}{osl:Array (Option Value)}{oc kV dc pm cdv ct:Value} (lk:K.lookup f=some ⟨oc,od,.func (PySem.W.fnOf "tight" "tight" (ay dX) (av dX) (ag dX) .none kV dc pm an cdv ct),osl⟩) (hcd:PySem.W.codeIn K cdv "tight" = true) {c Tb:Addr} (hcode:cdv=.ref c) (hC:PySem.W.CodeHd base c Tb) (hB:base.BuiltinsAt mg Tb) (T:Txt mg) {fsure:Addr}{dsure:FuncData} (Gsure:ax P w K mg base CX0 13 fsure dsure ["rule","share"] vi) (bsure:aE K dsure ["rule","share"] []) (ksure:PySem.W.keepIn K (.ref fsure)=true) (msure:mg "sure" = some (.ref fsure)) {fmt:Addr}{dmt:FuncData} (Gmt:ax P w K mg base CX0 13 fmt dmt ["rule","n","move"] (Aq mg)) (bmt:aE K dmt ["rule","n","move"] []) (kmt:PySem.W.keepIn K (.ref fmt)=true) (mmt:mg "made_tight" = some (.ref fmt)):ax P w K mg base CX0 14 f (PySem.W.fnOf "tight" "tight" (ay dX) (av dX) (ag dX) .none kV dc pm an cdv ct) ["rule","share","measure"] (zA Tb):=by
 refine Fun.okC lk hcd vJ (λ vs H Q E h=>?_) (λ A outer s H vs Q E hr h=>?_)
 ·obtain⟨x,a,D,n,m,sh,ps,rfl,_⟩:=h
  rfl
 obtain⟨x,a,D,n,m,sh,ps,rfl,hx,fs,m0,m20,n6,mD,D0,D1,⟨tp,hT,trip,hno⟩,sure,qS⟩:=h
 refine⟨_,(af (br (PW.pt (cE (aG fR (am aq (pv 0) ae (λ _ _=>rfl)) ae (aL _)) (cy (aG fR (pv 2) ae (aL _))))) (ah (rT)) aK)
  (af (au (i:=3) vJ.nd rfl (Or.inl rfl) (aj Gsure hr rfl msure ksure bsure .nil aD (aa (pv 0) (aa (pv 1) ac))))
  (af (br (aG gD (am aq (pv 3) ae (λ _ _=>rfl)) bS (aL _)) (ah (rT)) aK)
  (ah (aB (tX Gmt hr rfl mmt kmt bmt (i:=1) (y:="share") rfl rfl rfl rfl (j:=2) (z:="measure") rfl rfl rfl rfl (by decide) (aa (pv 0) (aa (am aq (pv 0) ae (λ _ _=>rfl)) (aa (AH hcode hC hB rfl rfl) ac))))))))),?_⟩
 obtain⟨t,zs,ox,ot,row⟩:=hx.ru.ob
 have ok:=hx.ru.ok
 have m1:m<=1000:=by omega
 have one:1<=sizeLine:=by decide
 refine⟨_,rfl,x,_,0,_,rfl,rfl,SqT.of ox,at0,_,_,rfl,rfl,_,rfl,?_⟩
 rw[decide_eq_false (show ¬ (6:Int)<(n:Int) by omega)]
 refine aW ⟨_,rfl,_,_,rfl,rfl,_,rfl,?_⟩
 rw[decide_eq_false (show ¬ 20<m by omega)]
 refine aW ⟨_,rfl,_,rfl,x,a,n,ps,sh,rfl,hx.ru,fs,(λ c hc=>by rw[<-i8 hc];exact sure),λ y u G sG hy=>?_⟩
 refine⟨_,rfl,y,_,0,_,rfl,rfl,SqT.of hy,at0,rfl,_,rfl,?_⟩
 rw[decide_eq_false (show ¬ V.str "sure" = V.str "not" by decide)]
 have hTG:=sG _ _ hT
 have fin:∀ (H1:Hp) (f' c':Addr) (oc:Obj) (ctv:Value) (tp':Array Value),(∀ b o',b≠Tb->G b=some o'->H1 b=some o')->H1 f'=some (Fz (PySem.W.kla_obj "<lambda>" qo yM yN qm (uH (s.heap.objs.size+1+1) (s.heap.objs.size+1)) (pmV mg) c' ctv))->H1 c'=some (Fz oc)->kE oc qo ->
   H1 Tb=some (.tbl tp')->TriplesOk tp'.toList->codeAmong ng tp'.toList=some (.ref c')->∀ (o1 o2:Obj) (tk:Tok),o1.data=.cell (some (.ref a))->o2.data=.cell (some (.int m tk))->H1 (s.heap.objs.size+1)=none->H1 (s.heap.objs.size+1+1)=none->s.heap.objs.size+1≠s.heap.objs.size+1+1 ->
   Aq mg [.ref x,.int n,.ref f'] (upd (upd H1 (s.heap.objs.size+1) (Fz o1)) (s.heap.objs.size+1+1) (Fz o2)) (λ r H2=>H2 (s.heap.objs.size+1+1)=some (Fz o2)->hid H2 (s.heap.objs.size+1+1) (s.heap.objs.size+1)=some (Fz o1)->Q r (hid (hid H2 (s.heap.objs.size+1+1)) (s.heap.objs.size+1))) E0:=by
  intro H1 f' c' oc ctv tp' on hfn hcc hci hTb trp hit o1 o2 tk hd1 hd2 hn1 hn2 nc
  generalize s.heap.objs.size+1+1=cM at *
  generalize s.heap.objs.size+1=cS at *
  have up:∀ b o',H1 b=some o'->upd (upd H1 cS (Fz o1)) cM (Fz o2) b=some o':=λ b o' e=>by
   rw[al (aC e hn2),al (aC e hn1)]
   exact e
  have tp1:∀ b xs,G b=some (.tup xs)->upd (upd H1 cS (Fz o1)) cM (Fz o2) b=some (.tup xs):=λ b xs e=>up b _ (on b _ (λ z=>by rw[z,hTG] at e;cases e) e)
  refine⟨x,n,ps,⟨f',c',cS,cM,a,D,sh,m,ctv,o1,o2,Ne.symm nc⟩,rfl,⟨up _ _ hfn,⟨oc,up _ _ hcc,hci⟩,?_,ad,hd1,⟨tk,hd2⟩,(fs.keep sG).map tp1,m0,m1,mD,D0,D1⟩,(hx.keep sG).map tp1,λ ps' y' H3 run s3 hy' e3 e4=>?_⟩
  ·show upd (upd H1 cS (Fz o1)) cM (Fz o2) cS=_
   rw[al nc,ad]
  ·have out:∀ b o',H1 b=some o'->hid (hid H3 cM) cS b=some o':=λ b o' e=>by
    rw[cC (aC e hn1),cC (aC e hn2)]
    exact s3 _ _ (up b o' e)
   exact qS ps' y' _ run (λ b o' nb e=>out b o' (on b _ nb (sG _ _ e))) ⟨tp',out _ _ hTb,trp,.inr ⟨c',oc,hit,out _ _ hcc,hci⟩⟩ (hy'.map λ b xs e=>jw e4 (jw e3 e))
 refine aW ⟨_,rfl,_,rfl,x,_,0,_,rfl,rfl,SqT.of (sG _ _ ox),at0,?_⟩
 rcases hno with hno | ⟨c0,oc0,hit0,hc0,hci0⟩
 ·refine⟨tp,hTG,trip,.inl ⟨hno,λ f' c' oc ctv hf hc' ne hci=>?_⟩⟩
  refine⟨.ref a,.int m,rfl,rfl,λ o1 u1 o2 u2 ru1 hd1 ru2 hd2 hn1 hn2 nc=>?_⟩
  obtain rfl:u1=Value.ref a:=ru1
  obtain⟨tk,rfl⟩:=(show ∃ t,u2=Value.int m t from ru2)
  have el:(tp ++ #[rawInt ng.line,rawInt ng.col,.ref c']).toList=tp.toList++[rawInt ng.line,rawInt ng.col,.ref c']:=by simp
  have nTf:Tb≠f':=aC hTG hf
  have nTc:Tb≠c':=aC hTG hc'
  refine fin _ f' c' oc ctv (tp ++ #[rawInt ng.line,rawInt ng.col,.ref c']) (λ b o' nb e=>?_) ad ?_ hci ?_ ?_ ?_ o1 o2 tk hd1 hd2 hn1 hn2 nc
  ·rw[al (aC e hf),al (aC e hc'),al nb]
   exact e
  ·rw[al (Ne.symm ne),ad]
  ·rw[al nTf,al nTc,ad]
   rfl
  ·rw[el];exact TriplesOk_snoc _ _ _ _ trip
  ·rw[el];exact codeAmong_snoc _ trip hno
 ·refine⟨tp,hTG,trip,.inr ⟨c0,hit0,λ f' ctv hf=>?_⟩⟩
  refine⟨.ref a,.int m,rfl,rfl,λ o1 u1 o2 u2 ru1 hd1 ru2 hd2 hn1 hn2 nc=>?_⟩
  obtain rfl:u1=Value.ref a:=ru1
  obtain⟨tk,rfl⟩:=(show ∃ t,u2=Value.int m t from ru2)
  have hcG:=sG _ _ hc0
  refine fin _ f' c0 oc0 ctv tp (λ b o' nb e=>?_) ad ?_ hci0 ?_ trip hit0 o1 o2 tk hd1 hd2 hn1 hn2 nc
  ·rw[al (aC e hf)];exact e
  ·rw[al (aC hcG hf)];exact hcG
  ·rw[al (aC hTG hf)];exact hTG
theorem Shp.fq {H:Hp}{a:Addr}{r:Rat} (h:Shp H a r):FqA H a r:=⟨_,_,h.ob,fP r,by have:=bR r;rw[Rat.intCast_natCast];exact this,h.sn.smk (by decide),h.sz.smk (by decide)⟩
theorem FrA.fq {H:Hp}{f:Addr}{r:Rat} (h:FrA H f r):FqA H f r:=⟨_,_,h.ob,fP r,by have:=bR r;rw[Rat.intCast_natCast];exact this,h.st.smk (by decide),h.sb.smk (by decide)⟩
structure Pq (H:Hp) (f:Addr) (r:Rat):Prop where
 ob:∃ t b:Int,H f=some (.tup [.int t,.int b])/\0<b/\0<=t/\t<=b/\r*(b:Rat)=(t:Rat)/\Sz 300 b
theorem Pq.keep {H H':Hp}{f:Addr}{r:Rat} (h:Pq H f r) (s:ak H H'):Pq H' f r:=by
 obtain⟨t,b,e,h⟩:=h.ob
 exact⟨t,b,s _ _ e,h⟩
theorem Pq.write {H:Hp}{f l:Addr}{r:Rat}{zs ws:List V} (h:Pq H f r) (hl:H l=some (.lst zs)):Pq (upd H l (.lst ws)) f r:=by
 obtain⟨t,b,e,h⟩:=h.ob
 exact⟨t,b,by rw[al (gE e hl (by intro z;cases z))];exact e,h⟩
theorem Pq.fq {H:Hp}{f:Addr}{r:Rat} (h:Pq H f r):FqA H f r:=by
 obtain⟨t,b,e,h1,h2,h3,h4,h5⟩:=h.ob
 exact⟨t,b,e,h1,h4,(qY h2 h3 h5).smk (by decide),h5.smk (by decide)⟩
def iR (n:Nat):List Int:=(List.range (n+1)).map λ k=>(aP n k:Int)
theorem oF (n:Nat):(iR n).length=n+1:=by simp [iR]
theorem mS {n k:Nat} (h:k<=n):(iR n).getD k 0=(aP n k:Int):=by
 unfold iR
 rw[List.getD_eq_getElem?_getD,List.getElem?_map,List.getElem?_range (by omega)]<;>rfl
def fQ (b:Int) (m:Nat):List Int:=(List.range (m+1)).map λ k=>b^k
theorem hG (b:Int) (m:Nat):(fQ b m).length=m+1:=by simp [fQ]
theorem hJ {b:Int}{m k:Nat} (h:k<=m):(fQ b m).getD k 0=b^k:=by
 unfold fQ
 rw[List.getD_eq_getElem?_getD,List.getElem?_map,List.getElem?_range (by omega)]<;>rfl
theorem tS (b:Int) (m:Nat):fQ b m++[b^(m+1)]=fQ b (m+1):=by
 unfold fQ
 rw[List.range_succ (n:=m+1),List.map_append]<;>rfl
def pX:Sp:=λ vs H Q _=>∃ (b:Int) (m:Nat),vs = [.int b,.int m]/\Sz 400 b/\m<=12/\∀ l H',ak H H'->H' l=some (.lst ((fQ b m).map V.int))->Q (.ref l) H'
theorem mI:aA ["_law_number","_law_many","_law_found","_law_k"] ["_law_number","_law_many"] (ag iK):=⟨rfl,rfl,rfl,by decide +kernel,rfl,by decide +kernel,by decide +kernel⟩
theorem yB {f:Addr}{fd:FuncData} (F:Fun K "_law_powers" "_law_powers" iK f fd) (T:Txt mg):ax P w K mg base CX0 1 f fd ["_law_number","_law_many"] pX:=by
 refine F.ok mI (λ vs H Q E h=>?_) (λ cdv A outer s H vs Q E hr h=>?_)
 ·obtain⟨b,m,rfl,_⟩:=h
  rfl
 obtain⟨b,m,rfl,sb,hm,q⟩:=h
 refine⟨_,(af (au (i:=2) mI.nd rfl (Or.inl rfl) (cP (aa ae ac)))
  (af (bA PassesOwn.never rfl (aZ rfl T.range (aa (pv 1) ac)) (az (i:=3) mI.nd rfl (Or.inl rfl)) (ah (ju (rZ PySem.F.plainAttrs_list PySem.F.slot_list_append PySem.F.type_list_append eO (pv 2) (aa (ar bB (am bf (pv 2) (pv 3) (λ _ _=>rfl)) (pv 0)) ac)))))
  (ah (aB (pv 2))))),?_⟩
 refine⟨(by show 1<=sizeLine;decide),λ l hl=>?_⟩
 refine⟨_,rfl,_,rfl,by omega,by omega,?_⟩
 have em:((m:Int)).toNat=m:=rfl
 rw[em]
 refine bY (lo:=0) (λ i σ H'=>ak H H'/\∃ v,σ = [some (.int b),some (.int m),some (.ref l),v]/\H' l=some (.lst ((fQ b i).map V.int))) ⟨ai hl _,none,rfl,by rw[ad];simp [fQ]⟩ ?_ ?_
 ·rintro i σ H1 hi ⟨sm,v,rfl,e⟩
  have len:=hG b i
  refine⟨_,rfl,.inl ⟨rfl,_,SqL.of e⟩,_,rfl,_,rfl,l,_,_,_,rfl,rfl,SqL.of e,ce (ns:=fQ b i) (by omega) (by rw[len];omega),_,rfl,_,_,rfl,rfl,⟨?_,sb.smk (by decide)⟩,l,_,_,rfl,rfl,e,?_,?_⟩
  ·have ei:((0:Int)+(i:Int)).toNat=i:=by omega
   rw[ei,hJ (Nat.le_refl i)]
   exact (sb.powN i).smk (by omega)
  ·rw[List.length_map,len];unfold sizeLine;omega
  ·refine⟨λ c o ec=>by rw[al (aC ec hl)];exact sm c o ec,_,rfl,?_⟩
   have ei:((0:Int)+(i:Int)).toNat=i:=by omega
   rw[ad,ei,hJ (Nat.le_refl i),<-tS,List.map_append,Int.pow_succ]<;>rfl
 ·rintro σ H1 ⟨sm,v,rfl,e⟩
  exact⟨_,rfl,q l H1 sm e⟩
def oZ (n:Nat):List Int:=(List.range n).map λ j=>(aP n j:Int)+(aP n (j+1):Int)
theorem vX (n:Nat):[1]++oZ n++[1]=iR (n+1):=by
 unfold iR oZ
 rw[List.range_succ (n:=n+1),List.map_append,List.range_succ_eq_map,List.map_cons,List.map_map]
 simp [b0,sW,bs,Function.comp]
def zK:Sp:=λ vs H Q _=>∃ n:Nat,vs = [.int n]/\n<=12/\∀ l H',ak H H'->H' l=some (.lst ((iR n).map V.int))->Q (.ref l) H'
theorem mP:aA ["_law_n","_law_row","_law_k"] ["_law_n"] (ag lL):=⟨rfl,rfl,rfl,by decide +kernel,rfl,by decide +kernel,by decide +kernel⟩
theorem A6 {f:Addr}{fd:FuncData} (F:Fun K "_law_choices" "_law_choices" lL f fd) (T:Txt mg):ax P w K mg base CX0 1 f fd ["_law_n"] zK:=by
 refine F.ok mP (λ vs H Q E h=>?_) (λ cdv A outer s H vs Q E hr h=>?_)
 ·obtain⟨n,rfl,_⟩:=h
  rfl
 obtain⟨n,rfl,hn,q⟩:=h
 refine⟨_,(af (au (i:=1) mP.nd rfl (Or.inr rfl) (cP (aa ae ac)))
  (af (bA PassesOwn.never rfl (aZ rfl T.range (aa (pv 0) ac)) (az (i:=2) mP.nd rfl (Or.inl rfl)) (ah (au (i:=1) mP.nd rfl (Or.inr rfl) (ar fg (ar fg (cP (aa ae ac)) (fe (ts:=[("_law_row",1)]) rfl ⟨rfl,pU rfl,rfl,rfl,rfl,rfl,by decide +kernel,rfl,rfl⟩ (aZ rfl T.range (aa (ar ck (aO aS rfl T.len boot_len (aa (pv 1) ac)) ae) ac)) (λ C s3 H3 fp=>(ar aV (am dI (pv 1) (pv 0) (λ _ _=>rfl)) (am dI (pv 1) (ar aV (pv 0) ae) (λ _ _=>rfl)))))) (cP (aa ae ac))))))
  (ah (aB (pv 1))))),?_⟩
 refine⟨(by show 1<=sizeLine;decide),λ p1 h1=>?_⟩
 refine⟨_,rfl,_,rfl,by omega,by omega,?_⟩
 have big:∀ m:Nat,m<=40->m<=sizeLine:=λ m h=>Nat.le_trans h (by decide)
 refine bY (lo:=0) (λ i σ H'=>ak H H'/\∃ a v,σ = [some (.int n),some (.ref a),v]/\H' a=some (.lst ((iR i).map V.int))) ⟨ai h1 _,p1,none,rfl,ad⟩ ?_ ?_
 ·rintro i σ H1 hi ⟨sm,a,v,rfl,ha⟩
  have len:=oF i
  have hi12:i<12:=by omega
  refine⟨(by show 1<=sizeLine;decide),λ p2 h2=>?_⟩
  have s2:=ai h2 (.lst [V.int 1])
  have ha2:=s2 _ _ ha
  refine⟨_,rfl,a,_,rfl,.inl (SqL.of ha2),_,_,rfl,rfl,_,rfl,?_,?_,λ D hD=>?_⟩
  ·rw[List.length_map,len];omega
  ·rw[List.length_map,len];omega
  have eN:((((iR i).map V.int).length:Nat):Int)-1=(i:Int):=by rw[List.length_map,len];omega
  rw[eN]
  have ei:((i:Int)).toNat=i:=rfl
  rw[ei]
  refine gO (λ j=>.int ((aP i j:Int)+(aP i (j+1):Int))) hD (big _ (by omega)) ?_ ?_
  ·intro j H2 k hj sm2 hk
   have ha3:=sm2 _ _ ha2
   refine⟨_,rfl,_,rfl,a,_,_,_,rfl,rfl,SqL.of ha3,ce (ns:=iR i) (by omega) (by rw[len];omega),_,rfl,_,rfl,_,_,rfl,rfl,a,_,_,_,rfl,rfl,SqL.of ha3,ce (ns:=iR i) (by omega) (by rw[len];omega),_,_,rfl,rfl,?_⟩
   have e1:((0:Int)+(j:Int)).toNat=j:=by omega
   have e2:((0:Int)+(j:Int)+1).toNat=j+1:=by omega
   rw[e1,e2,mS (by omega),mS (by omega)]
   exact hk H2 (ak.refl H2)
  ·intro H2 sm2 hD2
   have em:(List.range i).map (λ j=>V.int ((aP i j:Int)+(aP i (j+1):Int)))=(oZ i).map V.int:=by unfold oZ;rw[List.map_map]<;>rfl
   rw[em] at hD2
   have lm:(oZ i).length=i:=by simp [oZ]
   have hp2:=sm2 _ _ (ad (H:=H1) (a:=p2) (o:=.lst [V.int 1]))
   refine⟨p2,D,[.int 1],_,rfl,rfl,hp2,hD2,big _ (by simp [lm];omega),λ p3 h3=>?_⟩
   have s3:=ai h3 (.lst ([V.int 1]++(oZ i).map V.int))
   refine⟨(by show 1<=sizeLine;decide),λ p4 h4=>?_⟩
   have s4:=ai h4 (.lst [V.int 1])
   refine⟨p3,p4,_,[.int 1],rfl,rfl,s4 _ _ ad,ad,big _ (by simp [lm];omega),λ p5 h5=>?_⟩
   have s5:=ai h5 (.lst ([V.int 1]++(oZ i).map V.int++[V.int 1]))
   refine⟨((((sm.trans s2).trans sm2).trans s3).trans s4).trans s5,p5,_,rfl,?_⟩
   rw[ad,<-vX,List.map_append,List.map_append]<;>rfl
 ·rintro σ H1 ⟨sm,a,v,rfl,ha⟩
  exact⟨_,rfl,q a H1 sm ha⟩
theorem nF:∀ (l:List Cd) (c d:Cd),l.foldl dD (some c)=some d->(d.1<=c.1/\∀ e∈l,d.1<=e.1)/\(d=c∨d∈l)
 | [],c,d,h=>by cases h;exact⟨⟨Rat.le_refl,λ e he=>absurd he (by simp)⟩,.inl rfl⟩
 | e::l,c,d,h=>by
  rw[List.foldl_cons] at h
  by_cases q:e.1<c.1
  ·rw[show dD (some c) e=some e from if_pos q] at h
   obtain⟨⟨a,b⟩,k⟩:=nF l e d h
   refine⟨⟨by grind,λ x hx=>?_⟩,?_⟩
   ·rcases List.mem_cons.mp hx with rfl | hx
    ·exact a
    ·exact b x hx
   ·rcases k with rfl | k
    ·exact .inr List.mem_cons_self
    ·exact .inr (List.mem_cons_of_mem _ k)
  ·rw[show dD (some c) e=some c from if_neg q] at h
   obtain⟨⟨a,b⟩,k⟩:=nF l c d h
   refine⟨⟨a,λ x hx=>?_⟩,?_⟩
   ·rcases List.mem_cons.mp hx with rfl | hx
    ·grind
    ·exact b x hx
   ·rcases k with rfl | k
    ·exact .inl rfl
    ·exact .inr (List.mem_cons_of_mem _ k)
theorem xu {n:Nat}{l:List Pc}{c:Cd} (h:cN n l=some c) (s:Rat):s<=c.1↔∀ p∈l,s<=bz p.1 n p.2.2/\s<=bz p.2.1 n p.2.2:=by
 have mem:∀ e:Cd,e∈l.flatMap (cL n)↔∃ p∈l,e∈cL n p:=λ e=>List.mem_flatMap
 have key:(∀ e∈l.flatMap (cL n),c.1<=e.1)/\c∈l.flatMap (cL n):=by
  unfold cN at h
  cases hl:l.flatMap (cL n) with
  | nil=>rw[hl] at h;cases h
  | cons e r =>
   rw[hl] at h
   obtain⟨⟨a,b⟩,k⟩:=nF r e c h
   refine⟨λ x hx=>?_,?_⟩
   ·rcases List.mem_cons.mp hx with rfl | hx
    ·exact a
    ·exact b x hx
   ·rcases k with rfl | k
    ·exact List.mem_cons_self
    ·exact List.mem_cons_of_mem _ k
 constructor
 ·intro q p hp
  exact⟨Rat.le_trans q (key.1 _ ((mem (bz p.1 n p.2.2,p.1,true,p.2.1)).mpr ⟨p,hp,by simp [cL]⟩)),Rat.le_trans q (key.1 _ ((mem (bz p.2.1 n p.2.2,p.2.1,false,p.1)).mpr ⟨p,hp,by simp [cL]⟩))⟩
 ·intro q
  obtain⟨p,hp,e⟩:=(mem c).mp key.2
  obtain⟨q1,q2⟩:=q p hp
  simp only[cL,List.mem_cons,List.not_mem_nil,or_false] at e
  rcases e with rfl | rfl
  ·exact q1
  ·exact q2
theorem yi {ps:List (Rat×Rat)}{x:Rat}:x∈aU ps↔x=0∨x=1∨∃ p∈ps,x=p.1∨x=p.2:=by
 unfold aU
 simp [List.mem_flatMap]
theorem u8 {m:Int} (hm:0<m) {n:Nat}{zs:List (Int×Int)}{ms:List Int} (ok:di n (Gc.shr m zs)) (so:ms.Pairwise (·<=·)) (nd:ms.Nodup) (mem:∀ z,z∈ms↔z=0∨z=m∨∃ p∈zs,z=p.1∨z=p.2) (s:Rat) :
  Cr m n s zs ms↔s<=bst n (Gc.shr m zs):=by
 obtain⟨c,hc⟩:=cV (n:=n) (eV (Gc.shr m zs))
 have hq:(0:Rat)<(m:Rat):=by exact_mod_cast hm
 have ed:ms.map (λ z:Int=>(z:Rat) / (m:Rat))=edg (aU (Gc.shr m zs)):=by
  refine ue hm so nd λ x=>?_
  rw[yi]
  constructor
  ·rintro (rfl | rfl | ⟨p,hp,h⟩)
   ·exact⟨0,(mem 0).mpr (.inl rfl),by show (0:Rat)=(0:Rat) / _;grind⟩
   ·exact⟨m,(mem m).mpr (.inr (.inl rfl)),by rw[Rat.div_def,Rat.mul_inv_cancel _ (by grind)]⟩
   ·obtain⟨z,hz,rfl⟩:=List.mem_map.mp hp
    rcases h with rfl | rfl
    ·exact⟨z.1,(mem _).mpr (.inr (.inr ⟨z,hz,.inl rfl⟩)),rfl⟩
    ·exact⟨z.2,(mem _).mpr (.inr (.inr ⟨z,hz,.inr rfl⟩)),rfl⟩
  ·rintro⟨z,hz,rfl⟩
   rcases (mem z).mp hz with rfl | rfl | ⟨p,hp,h⟩
   ·exact .inl (by show (0:Rat) / _=0;grind)
   ·exact .inr (.inl (by rw[Rat.div_def,Rat.mul_inv_cancel _ (by grind)]))
   ·refine .inr (.inr ⟨_,List.mem_map.mpr ⟨p,hp,rfl⟩,?_⟩)
    rcases h with rfl | rfl
    ·exact .inl rfl
    ·exact .inr rfl
 have lz:zs.length=n+1:=by have:=ok.len;simpa [Gc.shr] using this
 have at_:∀ k,k<ms.length->(edg (aU (Gc.shr m zs))).getD k 0=((ms.getD k 0:Int):Rat) / (m:Rat):=by
  intro k hk
  rw[<-ed];simp [hk]
 have le:(edg (aU (Gc.shr m zs))).length=ms.length:=by rw[<-ed];simp
 rw[i8 hc,xu hc]
 have pc:∀ p,p∈ci (Gc.shr m zs)↔∃ k,k+1<ms.length/\p=(((ms.getD k 0:Int):Rat) / (m:Rat),((ms.getD (k+1) 0:Int):Rat) / (m:Rat),bn (Gc.shr m zs) (((ms.getD k 0:Int):Rat) / (m:Rat)) (((ms.getD (k+1) 0:Int):Rat) / (m:Rat))):=by
  intro p
  unfold ci dh
  rw[List.mem_map,le]
  constructor
  ·rintro⟨k,hk,rfl⟩
   have hk':=List.mem_range.mp hk
   exact⟨k,by omega,by rw[at_ k (by omega),at_ (k+1) (by omega)]⟩
  ·rintro⟨k,hk,rfl⟩
   exact⟨k,List.mem_range.mpr (by omega),by rw[at_ k (by omega),at_ (k+1) (by omega)]⟩
 have val:∀ (a b t:Int),¬ dP t m n (eG zs a b)*(s.den:Int)<s.num*m^n↔s<=bz ((t:Rat) / (m:Rat)) n (bn (Gc.shr m zs) ((a:Rat) / (m:Rat)) ((b:Rat) / (m:Rat))):=by
  intro a b t
  rw[d7]
  exact wx hm (qW hm lz ok.lows ok.highs a b t)
 constructor
 ·intro h p hp
  obtain⟨k,hk,rfl⟩:=(pc p).mp hp
  exact⟨(val _ _ _).mp (h k hk _ (.inl rfl)),(val _ _ _).mp (h k hk _ (.inr rfl))⟩
 ·intro h k hk t ht
  obtain⟨h1,h2⟩:=h _ ((pc _).mpr ⟨k,hk,rfl⟩)
  rcases ht with rfl | rfl
  ·exact (val _ _ _).mpr h1
  ·exact (val _ _ _).mpr h2
theorem tE (t m:Int) (n:Nat) (ks:List Nat) (k:Nat):dP t m n (ks++[k])=dP t m n ks+wtI t m n k:=by simp [dP]
def zG:Sp:=λ vs H Q _=>∃ (n:Nat) (l:Addr) (t m:Int) (ks:List Nat),vs = [.int n,.ref l,.int t,.int m]/\n<=12/\H l=some (.lst ((ks.map λ k:Nat=>(k:Int)).map V.int))/\(∀ k∈ks,k<=n)/\0<=t/\t<=m/\m<=1000/\∀ H',ak H H'->Q (.int (dP t m n ks)) H'
theorem gK:aA ["_law_n","_law_run","_law_step","_law_measure","_law_won","_law_lost","_law_row","_law_total","_law_k"] ["_law_n","_law_run","_law_step","_law_measure"] (ag lC):=⟨rfl,rfl,rfl,by decide +kernel,rfl,by decide +kernel,by decide +kernel⟩
theorem AV {f:Addr}{fd:FuncData} (F:Fun K "_law_top" "_law_top" lC f fd) (T:Txt mg) {fpows:Addr}{dpows:FuncData} (Gpows:ax P w K mg base CX0 2 fpows dpows ["_law_number","_law_many"] pX) (bpows:aE K dpows ["_law_number","_law_many"] []) (kpows:PySem.W.keepIn K (.ref fpows)=true) (mpows:mg "_law_powers" = some (.ref fpows)) {fchs:Addr}{dchs:FuncData} (Gchs:ax P w K mg base CX0 2 fchs dchs ["_law_n"] zK) (bchs:aE K dchs ["_law_n"] []) (kchs:PySem.W.keepIn K (.ref fchs)=true) (mchs:mg "_law_choices" = some (.ref fchs)):ax P w K mg base CX0 3 f fd ["_law_n","_law_run","_law_step","_law_measure"] zG:=by
 refine F.ok gK (λ vs H Q E h=>?_) (λ cdv A outer s H vs Q E hr h=>?_)
 ·obtain⟨n,l,t,m,ks,rfl,_⟩:=h
  rfl
 obtain⟨n,l,t,m,ks,rfl,n12,hl,hk,t0,tm,m1,q⟩:=h
 refine⟨_,(af (au (i:=4) gK.nd rfl (Or.inl rfl) (aj Gpows hr rfl mpows kpows bpows .nil aD (aa (pv 2) (aa (pv 0) ac))))
  (af (au (i:=5) gK.nd rfl (Or.inl rfl) (aj Gpows hr rfl mpows kpows bpows .nil aD (aa (ar ck (pv 3) (pv 2)) (aa (pv 0) ac))))
  (af (au (i:=6) gK.nd rfl (Or.inl rfl) (aj Gchs hr rfl mchs kchs bchs .nil aD (aa (pv 0) ac)))
  (af (au (i:=7) gK.nd rfl (Or.inl rfl) ae)
  (af (bA PassesOwn.never rfl (cW (pv 1)) (az (i:=8) gK.nd rfl (Or.inl rfl)) (ah (au (i:=7) gK.nd rfl (Or.inl rfl) (ar aV (pv 7) (ar bB (ar bB (am bf (pv 6) (pv 8) (λ _ _=>rfl)) (am bf (pv 4) (pv 8) (λ _ _=>rfl))) (am bf (pv 5) (ar ck (pv 0) (pv 8)) (λ _ _=>rfl)))))))
  (ah (aB (pv 7)))))))),?_⟩
 have szm:Sz 20 m:=by show m.natAbs<2^20;omega
 have szt:Sz 20 t:=by show t.natAbs<2^20;omega
 have szd:Sz 20 (m-t):=by show (m-t).natAbs<2^20;omega
 refine⟨_,rfl,_,rfl,t,n,rfl,szt.mono (by decide),n12,λ lw H1 s1 hw=>?_⟩
 refine⟨_,rfl,_,rfl,_,_,rfl,rfl,_,rfl,m-t,n,rfl,szd.mono (by decide),n12,λ ll H2 s2 hL=>?_⟩
 refine⟨_,rfl,n,rfl,n12,λ lr H3 s3 hR=>?_⟩
 have s13:=(s1.trans s2).trans s3
 have hw3:=s3 _ _ (s2 _ _ hw)
 have hL3:=s3 _ _ hL
 have hl3:=s13 _ _ hl
 refine⟨_,rfl,l,rfl,⟨_,SqL.of hl3⟩,?_⟩
 refine eU (xs:=(ks.map λ k:Nat=>(k:Int)).map V.int) (λ i σ H'=>H'=H3/\∃ v,σ = [some (.int n),some (.ref l),some (.int t),some (.int m),some (.ref lw),some (.ref ll),some (.ref lr),some (.int (dP t m n (ks.take i))),v]) ⟨rfl,none,rfl⟩ ?_ ?_ ?_
 ·rintro i σ H' hi ⟨rfl,_⟩
  exact SqL.of hl3
 ·rintro i z σ H' hz ⟨rfl,v,rfl⟩
  obtain⟨k,ek,rfl⟩:∃ k:Nat,ks[i]? = some k/\z=.int (k:Int):=by
   rw[List.getElem?_map,List.getElem?_map] at hz
   cases hk2:ks[i]? with
   | none=>rw[hk2] at hz;cases hz
   | some k=>rw[hk2] at hz;exact⟨k,rfl,(Option.some.inj hz).symm⟩
  have hk':k<=n:=hk k (List.mem_of_getElem? ek)
  have nx:dP t m n (ks.take (i+1))=dP t m n (ks.take i)+wtI t m n k:=by
   rw[List.take_add_one,ek];exact tE _ _ _ _ _
  rw[nx]
  have z1:Sz (20*k+1) (t^k):=szt.powN _
  have z2:Sz (20*(n-k)+1) ((m-t)^(n-k)):=szd.powN _
  have z3:=(gS n k).mul z1
  have e1:((k:Int)).toNat=k:=rfl
  have e2:((n:Int)-(k:Int)).toNat=n-k:=by omega
  have a1:atI ((iR n).map V.int) (k:Int)=some (.int (aP n k:Int)):=by
   have:=ce (ns:=iR n) (i:=(k:Int)) (by omega) (by rw[oF];omega)
   rw[e1,mS hk'] at this;exact this
  have a2:atI ((fQ t n).map V.int) (k:Int)=some (.int (t^k)):=by
   have:=ce (ns:=fQ t n) (i:=(k:Int)) (by omega) (by rw[hG];omega)
   rw[e1,hJ hk'] at this;exact this
  have a3:atI ((fQ (m-t) n).map V.int) ((n:Int)-(k:Int))=some (.int ((m-t)^(n-k))):=by
   have:=ce (ns:=fQ (m-t) n) (i:=(n:Int)-(k:Int)) (by omega) (by rw[hG];omega)
   rw[e2,hJ (by omega)] at this;exact this
  refine⟨_,rfl,_,rfl,_,rfl,lr,_,_,_,rfl,rfl,SqL.of hR,a1,_,rfl,_,rfl,lw,_,_,_,rfl,rfl,SqL.of hw3,a2,_,_,rfl,rfl,⟨(gS n k).smk (by omega),z1.smk (by omega)⟩,_,rfl,_,rfl,_,rfl,_,_,rfl,rfl,ll,_,_,_,rfl,rfl,SqL.of hL3,a3,_,_,rfl,rfl,⟨z3.smk (by omega),z2.smk (by omega)⟩,_,_,rfl,rfl,rfl,_,rfl⟩
 ·rintro σ H' ⟨rfl,v,rfl⟩
  have e:=q H' s13
  rw[<-List.take_of_length_le (Nat.le_of_eq (show ks.length=((ks.map λ k:Nat=>(k:Int)).map V.int).length by simp))] at e
  exact⟨_,rfl,e⟩
def bU (H:Hp):List (Int×Int)->List V->Prop
 | [],xs=>xs = []
 | p::ps,xs=>∃ a ys,xs=.ref a::ys/\H a=some (.tup [.int p.1,.int p.2])/\bU H ps ys
theorem bU.keep {H H':Hp} (s:ak H H'):∀ {ps:List (Int×Int)}{xs:List V},bU H ps xs->bU H' ps xs
 | [],_,h=>h
 | _::_,_,⟨a,ys,e,h1,h2⟩=>⟨a,ys,e,s _ _ h1,h2.keep s⟩
theorem bU.len {H:Hp}:∀ {ps:List (Int×Int)}{xs:List V},bU H ps xs->xs.length=ps.length
 | [],_,h=>by rw[show _ = [] from h];rfl
 | _::_,_,⟨a,ys,e,h1,h2⟩=>by rw[e,List.length_cons,List.length_cons,h2.len]
theorem bU.get {H:Hp}:∀ {ps:List (Int×Int)}{xs:List V}{i:Nat}{p:Int×Int},bU H ps xs->ps[i]? = some p->∃ a,xs[i]? = some (.ref a)/\H a=some (.tup [.int p.1,.int p.2])
 | [],_,_,_,_,q=>by simp at q
 | p::_,_,0,_,⟨a,ys,e,h1,h2⟩,q=>by
  rw[List.getElem?_cons_zero] at q
  cases q
  exact⟨a,by rw[e];rfl,h1⟩
 | _::_,_,i+1,_,⟨a,ys,e,h1,h2⟩,q=>by
  rw[List.getElem?_cons_succ] at q
  obtain⟨b,f,g⟩:=h2.get q
  exact⟨b,by rw[e,List.getElem?_cons_succ];exact f,g⟩
theorem bU.app {H:Hp}:∀ {ps qs:List (Int×Int)}{xs ys:List V},bU H ps xs->bU H qs ys->bU H (ps++qs) (xs++ys)
 | [],_,_,_,h,k=>by rw[show _ = [] from h];exact k
 | _::_,_,_,_,⟨a,zs,e,h1,h2⟩,k=>by rw[e];exact⟨a,_,rfl,h1,h2.app k⟩
theorem bU.write {H:Hp}{l:Addr}{zs ws:List V} (hl:H l=some (.lst zs)):∀ {ps:List (Int×Int)}{xs:List V},bU H ps xs->bU (upd H l (.lst ws)) ps xs
 | [],_,h=>h
 | _::_,_,⟨a,ys,e,h1,h2⟩=>⟨a,ys,e,by rw[al (gE h1 hl (by intro z;cases z))];exact h1,h2.write hl⟩
structure StA (H:Hp) (l:Addr) (zs:List (Int×Int)):Prop where
 ob:∃ ws,H l=some (.lst ws)/\bU H zs ws
theorem StA.keep {H H':Hp}{l:Addr}{zs:List (Int×Int)} (h:StA H l zs) (s:ak H H'):StA H' l zs:=by
 obtain⟨ws,a,b⟩:=h.ob
 exact⟨ws,s _ _ a,b.keep s⟩
def IsZ (U:Int) (zs:List (Int×Int)):Prop:=∀ i,i<zs.length->(0<=(zs.getD i (0,0)).1/\(zs.getD i (0,0)).1<=(zs.getD i (0,0)).2/\(zs.getD i (0,0)).2<=U)/\∀ j,j+1=i->(zs.getD j (0,0)).1<=(zs.getD i (0,0)).1/\(zs.getD j (0,0)).2<=(zs.getD i (0,0)).2
theorem dF {U:Int}{zs:List (Int×Int)}{i:Nat} (h:i<zs.length):(Gc.shr U zs).getD i (0,0)=(((zs.getD i (0,0)).1:Rat) / (U:Rat),((zs.getD i (0,0)).2:Rat) / (U:Rat)):=by
 simp [Gc.shr,List.getD,h]
theorem bN (U:Int) (zs:List (Int×Int)):(Gc.shr U zs).length=zs.length:=by simp [Gc.shr]
theorem Cl (U:Int):((0:Int):Rat) / (U:Rat)=0:=by show (0:Rat) / _=0;grind
theorem Ck {U:Int} (hU:0<U):(U:Rat) / (U:Rat)=1:=by
 have:(0:Rat)<(U:Rat):=by exact_mod_cast hU
 rw[Rat.div_def,Rat.mul_inv_cancel _ (by grind)]
theorem nI {U:Int} (hU:0<U) (x:Int):0<=(x:Rat) / (U:Rat)↔0<=x:=by
 have:=Gc.bc hU 0 x
 rw[Cl] at this
 exact this
theorem nH {U:Int} (hU:0<U) (x:Int):(x:Rat) / (U:Rat)<=1↔x<=U:=by
 have:=Gc.bc hU x U
 rw[Ck hU] at this
 exact this
theorem d4 {U:Int} (hU:0<U) {zs:List (Int×Int)}:IsR (Gc.shr U zs)↔IsZ U zs:=by
 have le:=Gc.bc hU
 constructor
 ·intro h i hi
  have a:=iY h (i:=i) (by rw[bN];exact hi)
  rw[dF hi] at a
  refine⟨⟨(nI hU _).mp a.1,(le _ _).mp a.2.1,(nH hU _).mp a.2.2⟩,λ j hj=>?_⟩
  have b:=d5 h (i:=j) (by rw[bN,hj];exact hi)
  rw[hj,dF hi,dF (show j<zs.length by omega)] at b
  exact⟨(le _ _).mp b.1,(le _ _).mp b.2⟩
 ·intro h
  refine wI (λ i hi=>?_) (λ i hi=>?_)
  ·rw[bN] at hi
   obtain⟨⟨a,b,c⟩,_⟩:=h i hi
   rw[dF hi]
   exact⟨(nI hU _).mpr a,(le _ _).mpr b,(nH hU _).mpr c⟩
  ·rw[bN] at hi
   obtain⟨_,d⟩:=h (i+1) hi
   rw[dF hi,dF (show i<zs.length by omega)]
   obtain⟨d1,d2⟩:=d i rfl
   exact⟨(le _ _).mpr d1,(le _ _).mpr d2⟩
def vo:Sp:=λ vs H Q _=>∃ (l:Addr) (U:Int) (zs:List (Int×Int)),vs = [.ref l,.int U]/\StA H l zs/\zs.length<=13/\0<U/\∀ b:Bool,(b=true↔IsR (Gc.shr U zs))->Q (.bl b) H
theorem mM:aA ["_law_steps_here","_law_measure","_law_k","_law_low","_law_high"] ["_law_steps_here","_law_measure"] (ag lE):=⟨rfl,rfl,rfl,by decide +kernel,rfl,by decide +kernel,by decide +kernel⟩
theorem AX {f:Addr}{fd:FuncData} (F:Fun K "_law_is_rule" "_law_is_rule" lE f fd) (T:Txt mg):ax P w K mg base CX0 1 f fd ["_law_steps_here","_law_measure"] vo:=by
 refine F.ok mM (λ vs H Q E h=>?_) (λ cdv A outer s H vs Q E hr h=>?_)
 ·obtain⟨l,U,zs,rfl,_⟩:=h
  rfl
 obtain⟨l,U,zs,rfl,⟨ws,hl,row⟩,hz,hU,q⟩:=h
 refine⟨_,(af (bA PassesOwn.never rfl (aZ rfl T.range (aa (aO aS rfl T.len boot_len (aa (pv 0) ac)) ac)) (az (i:=2) mM.nd rfl (Or.inl rfl)) (af (mZ (am bf (pv 0) (pv 2) (λ _ _=>rfl)) (fc rfl (aJ (az (i:=3) mM.nd rfl (Or.inl rfl)) (aJ (az (i:=4) mM.nd rfl (Or.inl rfl)) bO))))
   (af (br (PW.pt (cE (aG jf (pv 3) ae (aL _)) (cE (aG fR (pv 3) (pv 4) (aL _)) (cy (aG fR (pv 4) (pv 1) (aL _)))))) (ah (aB eJ)) aK)
   (ah (br (PW.pt (qf (aG fR (pv 2) ae (aL _)) (mY (PW.pt (cE (aG fR (am aq (am bf (pv 0) (ar ck (pv 2) ae) (λ _ _=>rfl)) ae (λ _ _=>rfl)) (pv 3) (aL _)) (cy (aG fR (am aq (am bf (pv 0) (ar ck (pv 2) ae) (λ _ _=>rfl)) ae (λ _ _=>rfl)) (pv 4) (aL _)))))))) (ah (aB eJ)) aK)))))
  (ah (aB eJ))),?_⟩
 have lw:=row.len
 have no:¬ IsZ U zs->Q (.bl false) H:=λ c=>q false ⟨(λ e=>by cases e),λ e=>(c ((d4 hU).mp e)).elim⟩
 refine⟨_,rfl,l,_,rfl,.inl (SqL.of hl),_,rfl,by omega,by omega,?_⟩
 have el:((ws.length:Nat):Int).toNat=zs.length:=by omega
 rw[el]
 refine bY (lo:=0) (λ i σ G=>G=H/\(∃ v1 v2 v3,σ = [some (.ref l),some (.int U),v1,v2,v3])/\∀ j,j<i->(0<=(zs.getD j (0,0)).1/\(zs.getD j (0,0)).1<=(zs.getD j (0,0)).2/\(zs.getD j (0,0)).2<=U)/\∀ j',j'+1=j->(zs.getD j' (0,0)).1<=(zs.getD j (0,0)).1/\(zs.getD j' (0,0)).2<=(zs.getD j (0,0)).2) ⟨rfl,⟨none,none,none,rfl⟩,λ j hj=>by omega⟩ ?_ ?_
 ·rintro i σ G hi ⟨rfl,⟨v1,v2,v3,rfl⟩,ok⟩
  rw[show (0:Int)+(i:Int)=(i:Int) by omega]
  have at_:∀ j,j<zs.length->∃ b,ws[j]? = some (.ref b)/\G b=some (.tup [.int (zs.getD j (0,0)).1,.int (zs.getD j (0,0)).2]):=λ j hj=>row.get (by simp [List.getD,hj])
  obtain⟨b,e1,e2⟩:=at_ i hi
  refine⟨_,rfl,_,rfl,l,ws,i,_,rfl,rfl,SqL.of hl,bx e1,?_⟩
  refine⟨b,_,rfl,SqT.of e2,rfl,_,_,rfl,_,_,rfl,rfl,?_⟩
  have fail:¬ ((0<=(zs.getD i (0,0)).1/\(zs.getD i (0,0)).1<=(zs.getD i (0,0)).2/\(zs.getD i (0,0)).2<=U)/\∀ j',j'+1=i->(zs.getD j' (0,0)).1<=(zs.getD i (0,0)).1/\(zs.getD j' (0,0)).2<=(zs.getD i (0,0)).2)->Q (.bl false) G:=λ c=>no λ z=>c (z i hi)
  have nx:∀ (p:Int×Int),zs.getD i (0,0)=p->((0<=p.1/\p.1<=p.2/\p.2<=U)/\∀ j',j'+1=i->(zs.getD j' (0,0)).1<=p.1/\(zs.getD j' (0,0)).2<=p.2)->∀ j,j<i+1->(0<=(zs.getD j (0,0)).1/\(zs.getD j (0,0)).1<=(zs.getD j (0,0)).2/\(zs.getD j (0,0)).2<=U)/\∀ j',j'+1=j->(zs.getD j' (0,0)).1<=(zs.getD j (0,0)).1/\(zs.getD j' (0,0)).2<=(zs.getD j (0,0)).2:=λ p ep h j hj=>by
   by_cases c:j=i
   ·rw[c,ep];exact h
   ·exact ok j (by omega)
  generalize hp:zs.getD i (0,0)=p at *
  refine⟨_,rfl,_,_,rfl,rfl,_,rfl,?_⟩
  by_cases c1:p.1<0
  ·rw[decide_eq_true c1]
   exact bD (fail λ z=>by omega)
  rw[decide_eq_false c1]
  refine aW ⟨_,rfl,_,rfl,_,_,rfl,rfl,_,rfl,?_⟩
  by_cases c2:p.2<p.1
  ·rw[decide_eq_true c2]
   exact bD (fail λ z=>by omega)
  rw[decide_eq_false c2]
  refine aW ⟨_,rfl,_,rfl,_,_,rfl,rfl,_,rfl,?_⟩
  by_cases c3:U<p.2
  ·rw[decide_eq_true c3]
   exact bD (fail λ z=>by omega)
  rw[decide_eq_false c3]
  refine aW ?_
  refine⟨_,rfl,_,_,rfl,rfl,_,rfl,?_⟩
  by_cases c4:0<i
  ·rw[decide_eq_true (show (0:Int)<(i:Int) by omega)]
   obtain⟨j,rfl⟩:∃ j,i=j+1:=⟨i-1,by omega⟩
   obtain⟨b',e3,e4⟩:=at_ j (by omega)
   have ej:((j+1:Nat):Int)-1=(j:Int):=by omega
   have nd:∀ q:Int×Int,zs.getD j (0,0)=q->¬ (q.1<=p.1/\q.2<=p.2)->Q (.bl false) G:=λ q eq c=>fail λ z=>c (by have:=z.2 j rfl;rw[eq] at this;exact this)
   have yd:∀ q:Int×Int,zs.getD j (0,0)=q->(q.1<=p.1/\q.2<=p.2)->∀ j',j'+1=j+1->(zs.getD j' (0,0)).1<=p.1/\(zs.getD j' (0,0)).2<=p.2:=λ q eq c j' hj'=>by
    have:j'=j:=by omega
    rw[this,eq];exact c
   generalize hq:zs.getD j (0,0)=q' at *
   refine bD ⟨_,rfl,_,rfl,_,_,rfl,rfl,l,ws,_,_,rfl,rfl,SqL.of hl,(by rw[ej];exact bx e3),b',_,0,_,rfl,rfl,SqT.of e4,at0,_,rfl,_,_,rfl,rfl,_,rfl,?_⟩
   by_cases c5:p.1<q'.1
   ·rw[decide_eq_true c5]
    exact bD (bD (nd q' rfl (by omega)))
   rw[decide_eq_false c5]
   refine aW ⟨_,rfl,_,rfl,_,_,rfl,rfl,l,ws,_,_,rfl,rfl,SqL.of hl,(by rw[ej];exact bx e3),b',_,1,_,rfl,rfl,SqT.of e4,at1,_,rfl,_,_,rfl,rfl,_,rfl,?_⟩
   by_cases c6:p.2<q'.2
   ·rw[decide_eq_true c6]
    exact bD (nd q' rfl (by omega))
   rw[decide_eq_false c6]
   exact aW (⟨rfl,⟨_,_,_,rfl⟩,nx p rfl ⟨⟨by omega,by omega,by omega⟩,yd q' rfl (by omega)⟩⟩)
  ·rw[decide_eq_false (show ¬ (0:Int)<(i:Int) by omega)]
   exact aW (aW ⟨rfl,⟨_,_,_,rfl⟩,nx p rfl ⟨⟨by omega,by omega,by omega⟩,λ j' hj'=>by omega⟩⟩)
 ·rintro σ G ⟨rfl,⟨v1,v2,v3,rfl⟩,ok⟩
  exact q true ⟨λ _=>(d4 hU).mpr ok,λ _=>rfl⟩
theorem xt:bootBuiltins "set" = some (.type "set"):=by decide +kernel
theorem fW:bootBuiltins "sorted" = some (.builtin "sorted"):=by decide +kernel
def dv (zs:List (Int×Int)):List Int:=zs.map (·.1)
def fK (zs:List (Int×Int)):List Int:=zs.map (·.2)
theorem fD {m:Nat} (h:m<=40):m<=sizeLine:=Nat.le_trans h (by decide)
theorem bU.at {H:Hp}{zs:List (Int×Int)}{ws:List V} (row:bU H zs ws) {j:Nat} (hj:j<zs.length):∃ b,ws[j]? = some (.ref b)/\H b=some (.tup [.int (zs.getD j (0,0)).1,.int (zs.getD j (0,0)).2]):=row.get (by simp [List.getD,hj])
theorem l9 {K:PySem.W.Frag}{l:Addr}{zs:List (Int×Int)}{ws:List V}{st:St}{H1:Hp}{Q:VK}{D:Addr} (j:Nat) (f:Int×Int->Int) (hj:(j=0/\f=(·.1))∨(j=1/\f=(·.2))) (hD:H1 D=none) (hl:H1 l=some (.lst ws)) (row:bU H1 zs ws) (hn:zs.length<=40)
  (hd:∀ H2,ak H1 H2->H2 D=some (.lst ((zs.map f).map V.int))->Q (.ref D) H2):eW (Itl K l) (ux K 2 (ii (cr 0) (ii (cr 1) wV))) kG (pT j) 2 st D H1 Q:=by
 have lw:=row.len
 refine ji (λ i ys G=>ys=((zs.map f).take i).map V.int) hD (SqL.of hl) (fD (by omega)) rfl (λ i hi=>by obtain⟨b,f1,f2⟩:=row.at (show i<zs.length by omega);exact⟨b,_,_,f1,f2⟩) ?_ ?_
 ·rintro i b u v ys G2 kk hb hbt sm hD2 rfl hk
  have hi:i<zs.length:=by have:=(List.getElem?_eq_some_iff.mp hb).1;omega
  obtain⟨b',f1,f2⟩:=row.at hi
  rw[hb] at f1
  cases f1
  rw[f2] at hbt
  cases hbt
  have nx:(zs.map f).take (i+1)=(zs.map f).take i++[f (zs.getD i (0,0))]:=by
   rw[List.take_add_one,List.getElem?_map]
   simp [List.getD,hi]
  rcases hj with ⟨rfl,rfl⟩ | ⟨rfl,rfl⟩
  ·refine⟨_,rfl,hk _ _ (ak.refl _) ?_⟩
   rw[nx,List.map_append]
   rfl
  ·refine⟨_,rfl,hk _ _ (ak.refl _) ?_⟩
   rw[nx,List.map_append]
   rfl
 ·rintro ys G2 sm hD2 ly rfl
  rw[List.take_of_length_le (by rw[List.length_map];omega)] at hD2
  exact hd _ sm hD2
def rg:Sp:=λ vs H Q _=>∃ (l a:Addr) (U:Int) (n:Nat) (s:Rat) (zs:List (Int×Int)),vs = [.ref l,.int U,.ref a]/\StA H l zs/\zs.length=n+1/\1<=n/\n<=12/\IsR (Gc.shr U zs)/\0<U/\U<=1000/\FrA H a s/\∀ (b:Bool) H',ak H H'->(b=true↔s<=bst n (Gc.shr U zs))->Q (.bl b) H'
theorem yT {ms:List Int}{i:Nat} (h:i<ms.length):ms[i]? = some (ms.getD i 0):=by rw[List.getD_eq_getElem?_getD,List.getElem?_eq_getElem h]<;>rfl
theorem fN:aA ["_law_steps_here","_law_measure","_law_share","_law_n","_law_marks","_law_whole","_law_a","_law_b","_law_run","_law_step"] ["_law_steps_here","_law_measure","_law_share"] (ag lH):=⟨rfl,rfl,rfl,by decide +kernel,rfl,by decide +kernel,by decide +kernel⟩
theorem A0 {f:Addr}{fd:FuncData} (F:Fun K "_law_is_sure" "_law_is_sure" lH f fd) (T:Txt mg) {fpows:Addr}{dpows:FuncData} (Gpows:ax P w K mg base CX0 3 fpows dpows ["_law_number","_law_many"] pX) (bpows:aE K dpows ["_law_number","_law_many"] []) (kpows:PySem.W.keepIn K (.ref fpows)=true) (mpows:mg "_law_powers" = some (.ref fpows)) {fltp:Addr}{dltp:FuncData} (Gltp:ax P w K mg base CX0 3 fltp dltp ["_law_n","_law_run","_law_step","_law_measure"] zG) (bltp:aE K dltp ["_law_n","_law_run","_law_step","_law_measure"] []) (kltp:PySem.W.keepIn K (.ref fltp)=true) (mltp:mg "_law_top" = some (.ref fltp)):ax P w K mg base CX0 4 f fd ["_law_steps_here","_law_measure","_law_share"] rg:=by
 refine F.ok fN (λ vs H Q E h=>?_) (λ cdv A outer s H vs Q E hr h=>?_)
 ·obtain⟨l,a,U,n,sh,zs,rfl,_⟩:=h
  rfl
 obtain⟨l,a,U,n,sh,zs,rfl,⟨ws,hl,row⟩,lz,n1,n12,isr,U0,U1,fa,q⟩:=h
 refine⟨_,(af (au (i:=3) fN.nd rfl (Or.inl rfl) (ar ck (aO aS rfl T.len boot_len (aa (pv 0) ac)) ae))
  (af (au (i:=4) fN.nd rfl (Or.inl rfl) (aO (nQ rfl) rfl T.sorted fW (aa (iV (uJ rfl) rfl T.set xt (aa (ar fg (ar fg (cP (aa ae (aa (pv 1) ac))) (eI (xs:=["_law_low","_law_high"]) (ts:=[]) rfl ⟨rfl,u9,rfl,rfl,rfl,by decide +kernel,rfl,rfl⟩ (cW (pv 0)) (λ C s3 H3 fp=>(gx (n:=2) rfl (aJ (az (i:=0) (show (["_law_low","_law_high"]:List Str).Nodup by decide +kernel) rfl (Or.inl rfl) (Or.inr rfl)) (aJ (az (i:=1) (show (["_law_low","_law_high"]:List Str).Nodup by decide +kernel) rfl (Or.inl rfl) (Or.inr rfl)) bO)))) (λ C s3 H3 fp=>fb) (λ C s3 H3 fp=>(pv 0)))) (eI (xs:=["_law_low","_law_high"]) (ts:=[]) rfl ⟨rfl,u9,rfl,rfl,rfl,by decide +kernel,rfl,rfl⟩ (cW (pv 0)) (λ C s3 H3 fp=>(gx (n:=2) rfl (aJ (az (i:=0) (show (["_law_low","_law_high"]:List Str).Nodup by decide +kernel) rfl (Or.inl rfl) (Or.inr rfl)) (aJ (az (i:=1) (show (["_law_low","_law_high"]:List Str).Nodup by decide +kernel) rfl (Or.inl rfl) (Or.inr rfl)) bO)))) (λ C s3 H3 fp=>fb) (λ C s3 H3 fp=>(pv 1)))) ac)) ac)))
  (af (au (i:=5) fN.nd rfl (Or.inl rfl) (am bf (aj Gpows hr rfl mpows kpows bpows .nil aD (aa (pv 1) (aa (pv 3) ac))) (pv 3) (λ _ _=>rfl)))
  (af (bA PassesOwn.never rfl (v6 rfl T.zip (aa (pv 4) (aa (cF f6 (pv 4) (dl ae) du) ac))) (fc rfl (aJ (az (i:=6) fN.nd rfl (Or.inr rfl)) (aJ (az (i:=7) fN.nd rfl (Or.inr rfl)) bO))) (af (jt (i:=8) fN.nd rfl (Or.inl rfl) (xs:=["_law_k"]) (ts:=[("_law_a",6),("_law_b",7),("_law_steps_here",0)]) rfl ⟨rfl,BN rfl rfl rfl,rfl,rfl,rfl,by decide +kernel,rfl,rfl⟩ (aZ rfl T.range (aa (ar aV (pv 3) ae) ac)) (λ C s3 H3 fp=>(az (i:=0) (show (["_law_k","_law_a","_law_b","_law_steps_here"]:List Str).Nodup by decide +kernel) rfl (Or.inl rfl) (Or.inr rfl))) (λ C s3 H3 fp=>(jv (PW.pt (qf (aG wf (am si (am dI (pv 3) (pv 0) (λ _ _=>rfl)) ae (λ _ _=>rfl)) (pv 1) (aL _)) (mY (aG zV (am si (am dI (pv 3) (pv 0) (λ _ _=>rfl)) ae (λ _ _=>rfl)) (pv 2) (aL _))))))) (λ C s3 H3 fp=>(pv 0)))
   (ah (bA PassesOwn.never rfl (iT (aQ (aa (pv 6) (aa (pv 7) ac)))) (az (i:=9) fN.nd rfl (Or.inl rfl)) (ah (br (aG jf (ar bB (aj Gltp hr rfl mltp kltp bltp .nil aD (aa (pv 3) (aa (pv 8) (aa (pv 9) (aa (pv 1) ac))))) (am aq (pv 2) ae (λ _ _=>rfl))) (ar bB (am aq (pv 2) ae (λ _ _=>rfl)) (pv 5)) (aL _)) (ah (aB eJ)) aK))))))
  (ah (aB eJ)))))),?_⟩
 have lw:=row.len
 have szU:Sz 20 U:=by show U.natAbs<2^20;omega
 have isz:=(d4 U0).mp isr
 have rule:=h7 isr n1 n12 (by rw[bN];exact lz)
 have two:2<=sizeLine:=by decide
 dsimp only
 refine bQ (λ σ G=>G=H/\σ = [some (.ref l),some (.int U),some (.ref a),some (.int n),none,none,none,none,none,none]) ?_ ?_
 ·intro M hM
  refine⟨_,rfl,l,_,rfl,.inl (SqL.of hl),_,_,rfl,rfl,hM _ _ ⟨rfl,?_⟩⟩
  rw[show (n:Int)=((ws.length:Nat):Int)-1 by omega]
  rfl
 rintro σ G ⟨rfl,rfl⟩
 refine bQ (λ σ G'=>ak G G'/\∃ (M:Addr) (ms:List Int),σ = [some (.ref l),some (.int U),some (.ref a),some (.int n),some (.ref M),none,none,none,none,none]/\G' M=some (.lst (ms.map V.int))/\ms.Perm (kL ([0,U]++dv zs++fK zs))/\ms.Pairwise (·<=·)) ?_ ?_
 ·intro M hM
  refine⟨_,rfl,two,λ p1 h1=>?_⟩
  have s1:=ai h1 (.lst [V.int 0,V.int U])
  have e1:upd G p1 (.lst [V.int 0,V.int U]) p1=some (.lst [V.int 0,V.int U]):=ad
  generalize upd G p1 (.lst [V.int 0,V.int U])=G1 at *
  refine⟨_,rfl,l,rfl,⟨_,SqL.of (s1 _ _ hl)⟩,λ D hD=>?_⟩
  refine l9 0 (·.1) (.inl ⟨rfl,rfl⟩) hD (s1 _ _ hl) (row.keep s1) (by omega) λ G2 s2 hD2=>?_
  have lf:(dv zs).length=n+1:=by simp [dv,lz]
  have lsn:(fK zs).length=n+1:=by simp [fK,lz]
  have hD2:G2 D=some (.lst ((dv zs).map V.int)):=hD2
  refine⟨p1,D,_,_,rfl,rfl,s2 _ _ e1,hD2,fD (by simp;omega),λ p3 h3=>?_⟩
  have s3:=ai h3 (.lst ([V.int 0,V.int U]++(dv zs).map V.int))
  have e3:upd G2 p3 (.lst ([V.int 0,V.int U]++(dv zs).map V.int)) p3=some (.lst ([V.int 0,V.int U]++(dv zs).map V.int)):=ad
  have s13:=(s1.trans s2).trans s3
  show _
  refine⟨_,rfl,l,rfl,⟨_,SqL.of (s13 _ _ hl)⟩,λ D2 hD2'=>?_⟩
  refine l9 1 (·.2) (.inr ⟨rfl,rfl⟩) hD2' (s13 _ _ hl) (row.keep s13) (by omega) λ G4 s4 hD4=>?_
  have hD4:G4 D2=some (.lst ((fK zs).map V.int)):=hD4
  refine⟨p3,D2,_,_,rfl,rfl,s4 _ _ e3,hD4,fD (by simp;omega),λ p5 h5=>?_⟩
  have en:([V.int 0,V.int U]++(dv zs).map V.int++(fK zs).map V.int)=([0,U]++dv zs++fK zs).map V.int:=by simp
  have s5:=ai h5 (.lst (([0,U]++dv zs++fK zs).map V.int))
  have e5:upd G4 p5 (.lst ([V.int 0,V.int U]++(dv zs).map V.int++(fK zs).map V.int)) p5=some (.lst (([0,U]++dv zs++fK zs).map V.int)):=by rw[en];exact ad
  have few:([0,U]++dv zs++fK zs).length<=40:=by simp [lf,lsn];omega
  have few2:(kL ([0,U]++dv zs++fK zs)).length<64:=by
   have:=kx ([0,U]++dv zs++fK zs) []
   have z:([]:List Int).length=0:=rfl
   unfold kL
   omega
  dsimp only
  refine⟨p5,[0,U]++dv zs++fK zs,rfl,SqL.of e5,Nat.lt_of_le_of_lt few (by decide),λ D6 o h6 sv=>?_⟩
  refine⟨D6,o,_,rfl,ad,sv,few2,λ M2 ms hM2 perm pw=>?_⟩
  rw[en] at h6 hM2 ⊢
  have s6:=ai h6 (Fz o)
  have s7:=ai hM2 (.lst (ms.map V.int))
  exact hM _ _ ⟨(((s13.trans s4).trans s5).trans s6).trans s7,M2,ms,rfl,ad,perm,pw⟩
 rintro σ G1 ⟨sG,M,ms,rfl,hM,perm,pw⟩
 have nd:ms.Nodup:=perm.nodup_iff.mpr (qC _)
 have mem:∀ z,z∈ms↔z=0∨z=U∨∃ p∈zs,z=p.1∨z=p.2:=λ z=>by
  rw[perm.mem_iff,xl]
  simp only[dv,fK,List.mem_append,List.mem_cons,List.mem_map,List.not_mem_nil,or_false]
  constructor
  ·rintro (((h | h) | ⟨p,hp,rfl⟩) | ⟨p,hp,rfl⟩)
   ·exact .inl h
   ·exact .inr (.inl h)
   ·exact .inr (.inr ⟨p,hp,.inl rfl⟩)
   ·exact .inr (.inr ⟨p,hp,.inr rfl⟩)
  ·rintro (h | h | ⟨p,hp,h | h⟩)
   ·exact .inl (.inl (.inl h))
   ·exact .inl (.inl (.inr h))
   ·exact .inl (.inr ⟨p,hp,h.symm⟩)
   ·exact .inr ⟨p,hp,h.symm⟩
 have bnd:∀ z∈ms,0<=z/\z<=U:=λ z hz=>by
  rcases (mem z).mp hz with rfl | rfl | ⟨p,hp,h⟩
  ·omega
  ·omega
  ·obtain⟨i,hi⟩:=List.mem_iff_getElem?.mp hp
   have hi':=(List.getElem?_eq_some_iff.mp hi).1
   have e:zs.getD i (0,0)=p:=by rw[List.getD,hi];rfl
   have:=(isz i hi').1
   rw[e] at this
   rcases h with rfl | rfl<;>omega
 have key:=u8 U0 rule pw nd mem sh
 have lm:ms.length<=40:=by
  rw[perm.length_eq]
  have:=kx ([0,U]++dv zs++fK zs) []
  have:([0,U]++dv zs++fK zs).length<=40:=by simp [dv,fK,lz];omega
  have z:([]:List Int).length=0:=rfl
  unfold kL
  omega
 have l1:1<=ms.length:=List.length_pos_of_mem ((mem 0).mpr (.inl rfl))
 refine⟨_,rfl,_,rfl,U,n,rfl,szU.mono (by decide),n12,λ lp G2 s2 hp=>?_⟩
 have aw:atI ((fQ U n).map V.int) (n:Int)=some (.int (U^n)):=by
  have:=ce (ns:=fQ U n) (i:=(n:Int)) (by omega) (by rw[hG];omega)
  rw[show ((n:Int)).toNat=n from rfl,hJ (Nat.le_refl n)] at this;exact this
 refine⟨_,rfl,lp,_,_,_,rfl,rfl,SqL.of hp,aw,?_⟩
 have hM2:=s2 _ _ hM
 refine⟨_,rfl,_,rfl,_,rfl,M,_,rfl,SqL.of hM2,λ mc hmc=>?_⟩
 rw[ky (by rw[List.length_map];exact l1)]
 have s3:=ai hmc (.lst ((ms.map V.int).drop 1))
 have hmc3:upd G2 mc (.lst ((ms.map V.int).drop 1)) mc=some (.lst ((ms.map V.int).drop 1)):=ad
 have hM3:=s3 _ _ hM2
 refine⟨M,mc,rfl,⟨_,SqL.of hM3⟩,⟨_,SqL.of hmc3⟩,?_⟩
 have t3:=(sG.trans s2).trans s3
 generalize upd G2 mc (.lst ((ms.map V.int).drop 1))=G3 at *
 have szn:Sz 300 (U^n):=(szU.powN n).mono (by omega)
 have Un:(0:Int)<U^n:=Int.pow_pos U0
 have tsz:∀ x y t,0<=t->t<=U->Smk (Gc.dP t U n (Gc.eG zs x y)):=λ x y t t0 t1=>by
  have e:=Gc.qW U0 lz rule.lows rule.highs x y t
  have u:=jT (n:=n) ((nI U0 t).mpr t0) ((nH U0 t).mpr t1) (bn (Gc.shr U zs) ((x:Rat) / (U:Rat)) ((y:Rat) / (U:Rat)))
  rw[d7] at u
  have qn:(0:Rat)<=((U^n:Int):Rat):=by exact_mod_cast Int.le_of_lt Un
  have l0:0<=Gc.dP t U n (Gc.eG zs x y):=by
   have:(0:Rat)<=((Gc.dP t U n (Gc.eG zs x y):Int):Rat):=by rw[<-e];exact Rat.mul_nonneg u.1 qn
   exact_mod_cast this
  have l1:Gc.dP t U n (Gc.eG zs x y)<=U^n:=by
   have:((Gc.dP t U n (Gc.eG zs x y):Int):Rat)<=((U^n:Int):Rat):=by
    rw[<-e]
    have:=rle (b:=1) u.2 qn
    grind
   exact_mod_cast this
  exact (qY l0 l1 szn).smk (by decide)
 have runs:∀ x y,∀ k∈Gc.eG zs x y,k<=n:=λ x y k hk=>by
  unfold Gc.eG at hk
  have:=List.mem_range.mp (List.mem_filter.mp hk).1
  omega
 refine xg (n:=ms.length-1) (xs:=ms.map V.int) (ys:=(ms.map V.int).drop 1) (λ i σ H'=>ak G3 H'/\(∃ w1 w2 w3 w4,σ = [some (.ref l),some (.int U),some (.ref a),some (.int n),some (.ref M),some (.int (U^n)),w1,w2,w3,w4])/\∀ k,k<i->∀ t,t=ms.getD k 0∨t=ms.getD (k+1) 0->¬ Gc.dP t U n (Gc.eG zs (ms.getD k 0) (ms.getD (k+1) 0))*(sh.den:Int)<sh.num*U^n) ⟨ak.refl G3,⟨_,_,_,_,rfl⟩,λ k hk=>by omega⟩ (by simp) (by simp) (.inr (by simp)) ?_ ?_ ?_
 ·rintro i σ H' hi ⟨sm,_⟩
  exact⟨SqL.of (sm _ _ hM3),SqL.of (sm _ _ hmc3)⟩
 ·rintro i u v TT σ H4 hi hu hv hTT ⟨sm,⟨w1,w2,w3,w4,rfl⟩,ok⟩
  have hi0:i<ms.length:=by omega
  have hi1:i+1<ms.length:=by omega
  rw[List.getElem?_map,yT hi0] at hu
  cases hu
  rw[List.getElem?_drop,Nat.add_comm,List.getElem?_map,yT hi1] at hv
  cases hv
  have ba:=bnd _ (List.mem_of_getElem? (yT hi0))
  have bb:=bnd _ (List.mem_of_getElem? (yT hi1))
  have no:∀ t,(t=ms.getD i 0∨t=ms.getD (i+1) 0)->Gc.dP t U n (Gc.eG zs (ms.getD i 0) (ms.getD (i+1) 0))*(sh.den:Int)<sh.num*U^n->∀ G',ak G G'->Q (.bl false) G':=λ t ht c G' sm'=>q false G' sm' ⟨(λ e=>by cases e),λ e=>(key.mpr e i hi1 t ht c).elim⟩
  have yes:(∀ t,(t=ms.getD i 0∨t=ms.getD (i+1) 0)->¬ Gc.dP t U n (Gc.eG zs (ms.getD i 0) (ms.getD (i+1) 0))*(sh.den:Int)<sh.num*U^n)->∀ k,k<i+1->∀ t,t=ms.getD k 0∨t=ms.getD (k+1) 0->¬ Gc.dP t U n (Gc.eG zs (ms.getD k 0) (ms.getD (k+1) 0))*(sh.den:Int)<sh.num*U^n:=λ h k hk=>by
   by_cases c:k=i
   ·rw[c];exact h
   ·exact ok k (by omega)
  generalize hra:ms.getD i 0=ra at *
  generalize hrb:ms.getD (i+1) 0=rb at *
  have sT:=ai hTT (.tup [V.int ra,V.int rb])
  refine⟨TT,_,rfl,SqT.of ad,rfl,.int ra,[.int rb],rfl,.int rb,[],rfl,rfl,?_⟩
  have t4:=(t3.trans sm).trans sT
  have t3s:=sm.trans sT
  generalize upd H4 TT (.tup [V.int ra,V.int rb])=G4 at *
  refine⟨_,rfl,_,_,rfl,rfl,_,rfl,by omega,by omega,λ D hD=>?_⟩
  rw[show ((n:Int)+1).toNat=n+1 by omega]
  refine pF (λ k=>decide ((zs.getD k (0,0)).1<=ra) && decide (rb<=(zs.getD k (0,0)).2)) (λ k=>V.int (k:Int)) hD (fD (by omega)) ?_ ?_ ?_
  ·intro k G5 kk hk sk hkk
   rw[show (0:Int)+(k:Int)=(k:Int) by omega]
   have tk:=t4.trans sk
   obtain⟨b',f1,f2⟩:=(row.keep tk).at (show k<zs.length by omega)
   have hlk:=tk _ _ hl
   generalize zs.getD k (0,0)=pk at *
   refine⟨_,rfl,_,rfl,l,_,_,_,rfl,rfl,SqL.of hlk,bx f1,b',_,0,_,rfl,rfl,SqT.of f2,at0,_,rfl,_,_,rfl,rfl,_,rfl,?_⟩
   by_cases c1:pk.1<=ra
   ·rw[decide_eq_true c1] at hkk ⊢
    refine bD ⟨_,rfl,_,rfl,l,_,_,_,rfl,rfl,SqL.of hlk,bx f1,b',_,1,_,rfl,rfl,SqT.of f2,at1,_,rfl,_,_,rfl,rfl,_,rfl,?_⟩
    exact hkk _ (ak.refl _)
   ·rw[decide_eq_false c1] at hkk ⊢
    exact aW (hkk _ (ak.refl _))
  ·intro k G5 kk hk _ sk hkk
   rw[show (0:Int)+(k:Int)=(k:Int) by omega]
   exact⟨_,rfl,hkk G5 (ak.refl _)⟩
  intro G5 s5 hD5
  have erun:((List.range (n+1)).filter λ k=>decide ((zs.getD k (0,0)).1<=ra) && decide (rb<=(zs.getD k (0,0)).2)).map (λ k:Nat=>V.int (k:Int))=((Gc.eG zs ra rb).map λ k:Nat=>(k:Int)).map V.int:=by
   unfold Gc.eG
   rw[lz,List.map_map]
   rfl
  rw[erun] at hD5
  have t5:=t4.trans s5
  refine⟨_,rfl,_,rfl,two,λ p hp5=>?_⟩
  have s6:=ai hp5 (.tup [V.int ra,V.int rb])
  have e6:upd G5 p (.tup [V.int ra,V.int rb]) p=some (.tup [V.int ra,V.int rb]):=ad
  have hD6:=s6 _ _ hD5
  have t6:=t5.trans s6
  have t36:=(t3s.trans s5).trans s6
  generalize upd G5 p (.tup [V.int ra,V.int rb])=G6 at *
  refine⟨p,rfl,⟨_,SqT.of e6⟩,?_⟩
  dsimp -proj only
  refine jx (xs:=[V.int ra,V.int rb]) (λ j σ G7=>ak G6 G7/\(∃ v3,σ = [some (.ref l),some (.int U),some (.ref a),some (.int n),some (.ref M),some (.int (U^n)),some (.int ra),some (.int rb),some (.ref D),v3])/\∀ t∈[ra,rb].take j,¬ Gc.dP t U n (Gc.eG zs ra rb)*(sh.den:Int)<sh.num*U^n) ⟨ak.refl _,⟨_,rfl⟩,λ t ht=>by simp at ht⟩ ?_ ?_ ?_
  ·rintro j σ G7 hj ⟨s7,_⟩
   exact SqT.of (s7 _ _ e6)
  ·rintro j z σ G7 hz ⟨s7,⟨v3,rfl⟩,okj⟩
   obtain⟨t,rfl,et,nt,t0,t1⟩:∃ t,z=.int t/\(t=ra∨t=rb)/\[ra,rb].take (j+1) = [ra,rb].take j++[t]/\0<=t/\t<=U:=by
    match j,hz with
    | 0,hz=>cases hz;exact⟨ra,rfl,.inl rfl,rfl,ba.1,ba.2⟩
    | 1,hz=>cases hz;exact⟨rb,rfl,.inr rfl,rfl,bb.1,bb.2⟩
    | j+2,hz=>simp at hz
   rw[nt]
   have t7:=t6.trans s7
   refine⟨_,rfl,_,rfl,_,rfl,_,rfl,n,D,t,U,Gc.eG zs ra rb,rfl,n12,s7 _ _ hD6,runs ra rb,t0,t1,U1,λ G8 s8=>?_⟩
   have fa8:=fa.keep (t7.trans s8)
   refine⟨_,rfl,a,_,1,_,rfl,rfl,SqT.of fa8.ob,at1,_,_,rfl,rfl,⟨tsz ra rb t t0 t1,fa8.sb.smk (by decide)⟩,_,rfl,a,_,0,_,rfl,rfl,SqT.of fa8.ob,at0,_,rfl,_,_,rfl,rfl,⟨fa8.st.smk (by decide),szn.smk (by decide)⟩,_,_,rfl,rfl,_,rfl,?_⟩
   by_cases c:Gc.dP t U n (Gc.eG zs ra rb)*(sh.den:Int)<sh.num*U^n
   ·rw[decide_eq_true c]
    exact bD (no t et c _ (t7.trans s8))
   ·rw[decide_eq_false c]
    refine aW ⟨s7.trans s8,⟨_,rfl⟩,λ t' ht'=>?_⟩
    rcases List.mem_append.mp ht' with h | h
    ·exact okj t' h
    ·rw[List.mem_singleton.mp h];exact c
  ·rintro σ G7 ⟨s7,⟨v3,rfl⟩,okj⟩
   exact⟨t36.trans s7,⟨_,_,_,_,rfl⟩,yes λ t ht=>okj t (by rcases ht with rfl | rfl<;>simp)⟩
 ·rintro σ H' ⟨sm,⟨w1,w2,w3,w4,rfl⟩,ok⟩
  exact q true _ (t3.trans sm) ⟨λ _=>key.mp λ k hk=>ok k (by omega),λ _=>rfl⟩
def stZ (U:Nat) (ps:List (Rat×Rat)):List (Int×Int):=ps.map λ p=>(p.1.num*((U:Int).fdiv (p.1.den:Int)),p.2.num*((U:Int).fdiv (p.2.den:Int)))
theorem vd {U:Nat} (hU:0<U) {r:Rat} (h:Ov U r):((r.num*((U:Int).fdiv (r.den:Int)):Int):Rat) / ((U:Int):Rat)=r:=by
 obtain⟨c,hc⟩:=h.dvd
 have d0:0<r.den:=r.den_pos
 have uq:(0:Rat)<((U:Int):Rat):=by exact_mod_cast (show (0:Int)<(U:Int) by omega)
 have ec:(U:Int).fdiv (r.den:Int)=(c:Int):=by
  rw[hc,Int.natCast_mul]
  exact Int.mul_fdiv_cancel_left _ (by omega)
 rw[ec]
 have s:=bR r
 have e:((r.num*(c:Int):Int):Rat)=r*((U:Int):Rat):=by
  rw[hc,Int.natCast_mul,Rat.intCast_mul,Rat.intCast_mul,<-s,Rat.intCast_natCast,Rat.intCast_natCast]
  grind
 rw[e,Rat.div_def,Rat.mul_assoc,Rat.mul_inv_cancel _ (by grind)]
 grind
theorem z5 {U:Nat} (U0:0<U) (U1:U<=1000) {r:Rat} (h:Ov U r):Smk ((U:Int).fdiv (r.den:Int)):=by
 obtain⟨c,hc⟩:=h.dvd
 have d0:0<r.den:=r.den_pos
 have ec:(U:Int).fdiv (r.den:Int)=(c:Int):=by
  rw[hc,Int.natCast_mul]
  exact Int.mul_fdiv_cancel_left _ (by omega)
 have cU:c<=U:=by rw[hc];exact Nat.le_mul_of_pos_left c d0
 rw[ec]
 exact (show Sz 20 (c:Int) from Nat.lt_of_le_of_lt (show (c:Int).natAbs<=1000 by omega) (by decide)).smk (by decide)
theorem mE {U:Nat} (hU:0<U):∀ {ps:List (Rat×Rat)},(∀ p∈ps,Ov U p.1/\Ov U p.2)->Gc.shr (U:Int) (stZ U ps)=ps
 | [],_=>rfl
 | p::ps,h=>by
  have e:=mE hU (ps:=ps) λ q hq=>h q (.tail _ hq)
  obtain⟨o1,o2⟩:=h p (.head _)
  show (((p.1.num*((U:Int).fdiv (p.1.den:Int)):Int):Rat) / ((U:Int):Rat),((p.2.num*((U:Int).fdiv (p.2.den:Int)):Int):Rat) / ((U:Int):Rat))::Gc.shr (U:Int) (stZ U ps)=p::ps
  rw[e,vd hU o1,vd hU o2]
theorem rB {U:Int} (hU:0<U):∀ {zs ys:List (Int×Int)},Gc.shr U zs=Gc.shr U ys->zs=ys
 | [],[],_=>rfl
 | [],_::_,h=>by simp [Gc.shr] at h
 | _::_,[],h=>by simp [Gc.shr] at h
 | z::zs,y::ys,h=>by
  have h':((z.1:Rat) / (U:Rat),(z.2:Rat) / (U:Rat))::Gc.shr U zs=((y.1:Rat) / (U:Rat),(y.2:Rat) / (U:Rat))::Gc.shr U ys:=h
  injection h' with h1 h2
  injection h1 with h3 h4
  have a1:=(Gc.bc hU z.1 y.1).mp (by rw[h3];exact Rat.le_refl)
  have a2:=(Gc.bc hU y.1 z.1).mp (by rw[h3];exact Rat.le_refl)
  have b1:=(Gc.bc hU z.2 y.2).mp (by rw[h4];exact Rat.le_refl)
  have b2:=(Gc.bc hU y.2 z.2).mp (by rw[h4];exact Rat.le_refl)
  rw[rB hU h2,show z=y from Prod.ext (by omega) (by omega)]
def zB:Sp:=λ vs H Q _=>∃ (x:Addr) (U n:Nat) (ps:List (Rat×Rat)),vs = [.ref x,.int (U:Int)]/\Qa U H x n ps/\0<U/\U<=1000/\∀ l H',ak H H'->StA H' l (stZ U ps)->Q (.ref l) H'
theorem mH:aA ["_law_rule","_law_measure","_law_found","_law_low","_law_high"] ["_law_rule","_law_measure"] (ag k8):=⟨rfl,rfl,rfl,by decide +kernel,rfl,by decide +kernel,by decide +kernel⟩
theorem AN {f:Addr}{fd:FuncData} (F:Fun K "_law_steps" "_law_steps" k8 f fd) (T:Txt mg):ax P w K mg base CX0 1 f fd ["_law_rule","_law_measure"] zB:=by
 refine F.ok mH (λ vs H Q E h=>?_) (λ cdv A outer s H vs Q E hr h=>?_)
 ·obtain⟨x,U,n,ps,rfl,_⟩:=h
  rfl
 obtain⟨x,U,n,ps,rfl,hx,U0,U1,q⟩:=h
 refine⟨_,(af (au (i:=2) mH.nd rfl (Or.inl rfl) (cP ac))
  (af (bA PassesOwn.never rfl (iT (am aq (pv 0) ae (λ _ _=>rfl))) (fc rfl (aJ (az (i:=3) mH.nd rfl (Or.inl rfl)) (aJ (az (i:=4) mH.nd rfl (Or.inl rfl)) bO))) (af (br (PW.pt (cE (aG j9 (ar cn (pv 1) (am aq (pv 3) ae (λ _ _=>rfl))) ae (aL _)) (cy (aG j9 (ar cn (pv 1) (am aq (pv 4) ae (λ _ _=>rfl))) ae (aL _))))) (ah (aB d9)) aK)
   (ah (ju (rZ PySem.F.plainAttrs_list PySem.F.slot_list_append PySem.F.type_list_append eO (pv 2) (aa (aQ (aa (ar bB (am aq (pv 3) ae (λ _ _=>rfl)) (ar eL (pv 1) (am aq (pv 3) ae (λ _ _=>rfl)))) (aa (ar bB (am aq (pv 4) ae (λ _ _=>rfl)) (ar eL (pv 1) (am aq (pv 4) ae (λ _ _=>rfl)))) ac))) ac))))))
  (ah (aB (pv 2))))),?_⟩
 obtain⟨t,zs,ox,ot,row⟩:=hx.ru.ob
 have lp:=hx.ru.ok.len
 have n12:=hx.ru.ok.n12
 have lz:=row.len
 have two:2<=sizeLine:=by decide
 refine⟨Nat.zero_le _,λ l hl=>?_⟩
 have s0:=ai hl (.lst [])
 have e0:upd H l (.lst []) l=some (.lst []):=ad
 refine⟨_,rfl,x,_,1,_,rfl,rfl,SqT.of (s0 _ _ ox),at1,t,rfl,⟨_,SqT.of (s0 _ _ ot)⟩,?_⟩
 refine jx (xs:=zs) (λ i σ G=>ak H G/\∃ ws v1 v2,σ = [some (.ref x),some (.int (U:Int)),some (.ref l),v1,v2]/\G l=some (.lst ws)/\bU G (stZ U (ps.take i)) ws) ⟨s0,[],none,none,rfl,e0,rfl⟩ ?_ ?_ ?_
 ·rintro i σ G hi ⟨sG,_⟩
  exact SqT.of (sG _ _ ot)
 ·rintro i z σ G hz ⟨sG,ws,v1,v2,rfl,hw,rz⟩
  have hi:i<ps.length:=by rw[<-lz];exact (List.getElem?_eq_some_iff.mp hz).1
  have ep:=List.getElem?_eq_getElem hi
  obtain⟨b,la,ha,f1,f2,f3,f4⟩:=(row.keep sG).get ep
  rw[hz] at f1
  cases f1
  have lws:=rz.len
  have l2:(stZ U (ps.take i)).length=i:=by simp [stZ];omega
  obtain⟨o1,o2⟩:=hx.ov _ (List.mem_of_getElem? ep)
  have tk:stZ U (ps.take (i+1))=stZ U (ps.take i)++[(ps[i].1.num*((U:Int).fdiv (ps[i].1.den:Int)),ps[i].2.num*((U:Int).fdiv (ps[i].2.den:Int)))]:=by
   rw[List.take_add_one,ep];unfold stZ;rw[List.map_append];rfl
  generalize ps[i]=p at *
  have m1:(U:Int)%(p.1.den:Int)=0:=by have:=o1.dvd;omega
  have m2:(U:Int)%(p.2.den:Int)=0:=by have:=o2.dvd;omega
  have d1:(0:Int)<(p.1.den:Int):=by have:=p.1.den_pos;omega
  have d2:(0:Int)<(p.2.den:Int):=by have:=p.2.den_pos;omega
  refine⟨b,_,rfl,SqT.of f2,rfl,_,_,rfl,_,_,rfl,rfl,?_⟩
  refine⟨_,rfl,_,rfl,la,_,1,_,rfl,rfl,SqT.of f3.ob,at1,_,_,rfl,rfl,d1,rfl,_,rfl,?_⟩
  rw[decide_eq_true (show V.int ((U:Int)%(p.1.den:Int))=V.int 0 by rw[m1])]
  refine aW ⟨_,rfl,_,rfl,ha,_,1,_,rfl,rfl,SqT.of f4.ob,at1,_,_,rfl,rfl,d2,rfl,_,rfl,?_⟩
  rw[decide_eq_true (show V.int ((U:Int)%(p.2.den:Int))=V.int 0 by rw[m2])]
  refine aW ?_
  have z1:=z5 U0 U1 o1
  have z2:=z5 U0 U1 o2
  refine⟨_,rfl,.inl ⟨rfl,_,SqL.of hw⟩,_,rfl,la,_,0,_,rfl,rfl,SqT.of f3.ob,at0,_,rfl,_,rfl,la,_,1,_,rfl,rfl,SqT.of f3.ob,at1,_,_,rfl,rfl,⟨Int.ne_of_gt d1,f3.sz.smk (by decide)⟩,_,_,rfl,rfl,⟨f3.sn.smk (by decide),z1⟩,
   _,rfl,ha,_,0,_,rfl,rfl,SqT.of f4.ob,at0,_,rfl,_,rfl,ha,_,1,_,rfl,rfl,SqT.of f4.ob,at1,_,_,rfl,rfl,⟨Int.ne_of_gt d2,f4.sz.smk (by decide)⟩,_,_,rfl,rfl,⟨f4.sn.smk (by decide),z2⟩,two,λ p2 hp2=>?_⟩
  have s2:=ai hp2 (.tup [V.int (p.1.num*((U:Int).fdiv (p.1.den:Int))),V.int (p.2.num*((U:Int).fdiv (p.2.den:Int)))])
  have e2:upd G p2 (.tup [V.int (p.1.num*((U:Int).fdiv (p.1.den:Int))),V.int (p.2.num*((U:Int).fdiv (p.2.den:Int)))]) p2=some (.tup [V.int (p.1.num*((U:Int).fdiv (p.1.den:Int))),V.int (p.2.num*((U:Int).fdiv (p.2.den:Int)))]):=ad
  have hw2:=s2 _ _ hw
  refine⟨l,_,_,rfl,rfl,hw2,m8 (by omega),?_⟩
  rw[tk]
  refine⟨λ b o e=>?_,ws++[.ref p2],_,_,rfl,ad,((rz.keep s2).app (show bU _ [_] [.ref p2] from ⟨p2,[],rfl,e2,rfl⟩)).write hw2⟩
  rw[al (aC e hl)]
  exact s2 _ _ (sG _ _ e)
 ·rintro σ G ⟨sG,ws,v1,v2,rfl,hw,rz⟩
  rw[List.take_of_length_le (by omega)] at rz
  exact⟨_,rfl,q l G sG ⟨ws,hw,rz⟩⟩
def mvZ (lo:Bool) (f:Int) (p:Int×Int):Int×Int:=if lo=true then (p.1+f,p.2) else (p.1,p.2-f)
theorem pA {m f:Int} (hm:0<m) (hf:0<f) (x:Int):(x:Rat) / ((m*f:Int):Rat)+rq 1 m=((x+f:Int):Rat) / ((m*f:Int):Rat)/\(x:Rat) / ((m*f:Int):Rat)-rq 1 m=((x-f:Int):Rat) / ((m*f:Int):Rat):=by
 have mq:(0:Rat)<(m:Rat):=by exact_mod_cast hm
 have fq:(0:Rat)<(f:Rat):=by exact_mod_cast hf
 have one:((1:Int):Rat)=1:=rfl
 unfold rq
 rw[Rat.intCast_mul,Rat.intCast_add,Rat.intCast_sub,one]
 generalize (m:Rat)=M at *
 generalize (f:Rat)=F at *
 generalize (x:Rat)=X at *
 have hM:M≠0:=by grind
 have hF:F≠0:=by grind
 constructor<;>grind
theorem ww {m f:Int} (hm:0<m) (hf:0<f) {zs:List (Int×Int)}{k:Nat} (hk:k<zs.length) (lo:Bool):nxQ m (Gc.shr (m*f) zs) k lo=Gc.shr (m*f) (zs.set k (mvZ lo f (zs.getD k (0,0)))):=by
 unfold nxQ
 rw[dF hk]
 have e:mvQ lo m (((zs.getD k (0,0)).1:Rat) / ((m*f:Int):Rat),((zs.getD k (0,0)).2:Rat) / ((m*f:Int):Rat))=(((mvZ lo f (zs.getD k (0,0))).1:Rat) / ((m*f:Int):Rat),((mvZ lo f (zs.getD k (0,0))).2:Rat) / ((m*f:Int):Rat)):=by
  generalize zs.getD k (0,0)=p
  unfold mvQ mvZ
  cases lo with
  | true=>rw[if_pos rfl,if_pos rfl];dsimp only;rw[(pA hm hf p.1).1]
  | false=>rw[if_neg Bool.false_ne_true,if_neg Bool.false_ne_true];dsimp only;rw[(pA hm hf p.2).2]
 rw[e]
 unfold Gc.shr
 rw[List.map_set]
theorem bU.set {H:Hp}{b:Addr}{p:Int×Int} (hb:H b=some (.tup [.int p.1,.int p.2])):∀ {zs:List (Int×Int)}{ws:List V}{k:Nat},bU H zs ws->bU H (zs.set k p) (ws.set k (.ref b))
 | [],_,_,h=>by rw[show _ = [] from h];exact rfl
 | _::_,_,0,⟨a,ys,e,h1,h2⟩=>by rw[e];exact⟨b,ys,rfl,hb,h2⟩
 | _::_,_,k+1,⟨a,ys,e,h1,h2⟩=>by rw[e];exact⟨a,ys.set k (.ref b),rfl,h1,bU.set hb h2⟩
theorem f7 {ws:List V}{k:Nat} (hk:k<ws.length) (v:V):cw ws none (some (k:Int))++[v]++cw ws (some ((k:Int)+1)) none=ws.set k v:=by
 have e1:=sP (ws:=ws) (k:=k) (by omega)
 have e2:cw ws (some ((k:Int)+1)) none=ws.drop (k+1):=l6 (ws:=ws) (k:=k+1) (by omega)
 rw[e1,e2,List.set_eq_take_append_cons_drop,if_pos hk]
 simp
theorem jI {m f:Int} (hm:0<m) (hf:0<f) {zs:List (Int×Int)}{k n:Nat}{s:Rat} (hk:k<zs.length) (lo:Bool):nV n s m (Gc.shr (m*f) zs) k lo↔IsR (Gc.shr (m*f) (zs.set k (mvZ lo f (zs.getD k (0,0)))))/\s<=bst n (Gc.shr (m*f) (zs.set k (mvZ lo f (zs.getD k (0,0))))):=by
 unfold nV
 rw[ww hm hf hk]
theorem xT {m f:Int} (hm:0<m) (hf:0<f) {zs:List (Int×Int)}{k n:Nat}{s:Rat} (hk:k<zs.length) (lo:Bool) (h:IsR (Gc.shr (m*f) (zs.set k (mvZ lo f (zs.getD k (0,0)))))) (h2:s<=bst n (Gc.shr (m*f) (zs.set k (mvZ lo f (zs.getD k (0,0)))))):shq n s m (Gc.shr (m*f) zs) k lo=some (Gc.shr (m*f) (zs.set k (mvZ lo f (zs.getD k (0,0))))):=by
 rw[jr ((jI hm hf hk lo).mpr ⟨h,h2⟩),ww hm hf hk]
structure MF (m f:Int) (n:Nat):Prop where
 m0:0<m
 f0:0<f
 u1:m*f<=1000
 n1:1<=n
 n12:n<=12
theorem MF.u0 {m f:Int}{n:Nat} (h:MF m f n):0<m*f:=Int.mul_pos h.m0 h.f0
def zE:Sp:=λ vs H Q _=>∃ (l mv a:Addr) (k n:Nat) (m f d0 d1:Int) (s:Rat) (zs:List (Int×Int)) (lo:Bool),vs = [.ref l,.int k,.ref mv,.int (m*f),.ref a]/\StA H l zs/\zs.length=n+1/\MF m f n/\k<=n/\H mv=some (.tup [.int d0,.int d1])/\(∀ p:Int×Int,(p.1+d0,p.2+d1)=mvZ lo f p)/\FrA H a s /\
 ∀ l' zs' H',ak H H'->StA H' l' zs'->zs'.length=n+1->RnQ n s m k lo (Gc.shr (m*f) zs) (Gc.shr (m*f) zs')->Q (.ref l') H'
theorem mK:aA ["_law_steps_here","_law_k","_law_move","_law_measure","_law_share","_law_part","_law_other"] ["_law_steps_here","_law_k","_law_move","_law_measure","_law_share"] (ag lA):=⟨rfl,rfl,rfl,by decide +kernel,rfl,by decide +kernel,by decide +kernel⟩
theorem AT {f:Addr}{fd:FuncData} (F:Fun K "_law_moved_in" "_law_moved_in" lA f fd) (T:Txt mg) {flru:Addr}{dlru:FuncData} (Glru:ax P w K mg base CX0 4 flru dlru ["_law_steps_here","_law_measure"] vo) (blru:aE K dlru ["_law_steps_here","_law_measure"] []) (klru:PySem.W.keepIn K (.ref flru)=true) (mlru:mg "_law_is_rule" = some (.ref flru)) {flis:Addr}{dlis:FuncData} (Glis:ax P w K mg base CX0 4 flis dlis ["_law_steps_here","_law_measure","_law_share"] rg) (blis:aE K dlis ["_law_steps_here","_law_measure","_law_share"] []) (klis:PySem.W.keepIn K (.ref flis)=true) (mlis:mg "_law_is_sure" = some (.ref flis)):ax P w K mg base CX0 5 f fd ["_law_steps_here","_law_k","_law_move","_law_measure","_law_share"] zE:=by
 refine F.ok mK (λ vs H Q E h=>?_) (λ cdv A outer s H vs Q E hr h=>?_)
 ·obtain⟨l,mv,a,k,n,m,f,d0,d1,sh,zs,lo,rfl,_⟩:=h
  rfl
 obtain⟨l,mv,a,k,n,m,f,d0,d1,sh,zs,lo,rfl,hl,lz,mf,hk,hmv,hd,fa,q⟩:=h
 refine⟨_,(ah (g9 PassesOwn.never (a9 eJ) (af (au (i:=5) mK.nd rfl (Or.inl rfl) (aQ (aa (ar aV (am aq (am bf (pv 0) (pv 1) (λ _ _=>rfl)) ae (λ _ _=>rfl)) (am aq (pv 2) ae (λ _ _=>rfl))) (aa (ar aV (am aq (am bf (pv 0) (pv 1) (λ _ _=>rfl)) ae (λ _ _=>rfl)) (am aq (pv 2) ae (λ _ _=>rfl))) ac))))
   (af (au (i:=6) mK.nd rfl (Or.inl rfl) (ar fg (ar fg (cF f6 (pv 0) du (dl (pv 1))) (cP (aa (pv 5) ac))) (cF f6 (pv 0) (dl (ar aV (pv 1) ae)) du)))
   (af (br (PW.pt (cE (bK (a9 (aj Glru hr rfl mlru klru blru .nil aD (aa (pv 6) (aa (pv 3) ac))))) (cy (bK (a9 (aj Glis hr rfl mlis klis blis .nil aD (aa (pv 6) (aa (pv 3) (aa (pv 4) ac))))))))) (ah (aB (pv 0))) aK)
   (ah (au (i:=0) mK.nd rfl (Or.inl rfl) (pv 6)))))))),?_⟩
 have two:2<=sizeLine:=by decide
 have one:1<=sizeLine:=by decide
 have n12:=mf.n12
 refine⟨λ g σ G=>ak H G/\∃ l' zs' v1 v2,σ = [some (.ref l'),some (.int k),some (.ref mv),some (.int (m*f)),some (.ref a),v1,v2]/\StA G l' zs'/\zs'.length=n+1/\g=uw m (Gc.shr (m*f) zs') k/\∀ r,RnQ n sh m k lo (Gc.shr (m*f) zs') r->RnQ n sh m k lo (Gc.shr (m*f) zs) r,⟨_,ak.refl H,l,zs,none,none,rfl,hl,lz,rfl,λ r h=>h⟩,?_⟩
 rintro g σ G ⟨sG,l',zs',v1,v2,rfl,⟨ws,hw,row⟩,lz',rfl,hr'⟩
 have lw:=row.len
 have hkz:k<zs'.length:=by omega
 obtain⟨b,f1,f2⟩:=row.at hkz
 have hmv1:=sG _ _ hmv
 have dd:=hd (zs'.getD k (0,0))
 have shn:=xT mf.m0 mf.f0 (n:=n) (s:=sh) hkz lo
 have sno:¬ (IsR (Gc.shr (m*f) (zs'.set k (mvZ lo f (zs'.getD k (0,0)))))/\sh<=bst n (Gc.shr (m*f) (zs'.set k (mvZ lo f (zs'.getD k (0,0))))))->shq n sh m (Gc.shr (m*f) zs') k lo=none:=λ c=>jJ λ z=>c ((jI mf.m0 mf.f0 hkz lo).mp z)
 generalize zs'.getD k (0,0)=p at *
 refine⟨_,rfl,bD ?_⟩
 refine⟨λ σ G'=>∃ (l2:Addr) (v1 v2:Option V),ak G G'/\σ = [some (.ref l2),some (.int k),some (.ref mv),some (.int (m*f)),some (.ref a),v1,v2]/\StA G' l2 (zs'.set k (mvZ lo f p))/\shq n sh m (Gc.shr (m*f) zs') k lo=some (Gc.shr (m*f) (zs'.set k (mvZ lo f p))),?_,?_⟩
 ·rintro σ' G' ⟨l2,v1,v2,s1,rfl,hs,e⟩
  exact⟨_,rD mf.m0 (by rw[bN];exact hkz) e,sG.trans s1,l2,_,v1,v2,rfl,hs,by rw[List.length_set];exact lz',rfl,λ r h=>hr' r (.step e h)⟩
 refine⟨_,rfl,_,rfl,l',ws,_,_,rfl,rfl,SqL.of hw,bx f1,b,_,0,_,rfl,rfl,SqT.of f2,at0,_,rfl,mv,_,0,_,rfl,rfl,SqT.of hmv1,at0,_,_,rfl,rfl,_,rfl,_,rfl,l',ws,_,_,rfl,rfl,SqL.of hw,bx f1,b,_,1,_,rfl,rfl,SqT.of f2,at1,_,rfl,mv,_,1,_,rfl,rfl,SqT.of hmv1,at1,_,_,rfl,rfl,two,λ pa hpa=>?_⟩
 have s1:=ai hpa (.tup [V.int (p.1+d0),V.int (p.2+d1)])
 have e1:upd G pa (.tup [V.int (p.1+d0),V.int (p.2+d1)]) pa=some (.tup [V.int (p.1+d0),V.int (p.2+d1)]):=ad
 show _
 dsimp only
 refine bQ (λ σ G'=>ak G G'/\∃ l2:Addr,σ = [some (.ref l'),some (.int k),some (.ref mv),some (.int (m*f)),some (.ref a),some (.ref pa),some (.ref l2)]/\StA G' l2 (zs'.set k (mvZ lo f p))) ?_ ?_
 ·intro M hM
  have e1':upd G pa (.tup [V.int (p.1+d0),V.int (p.2+d1)]) pa=some (.tup [V.int (mvZ lo f p).1,V.int (mvZ lo f p).2]):=by rw[<-dd];exact e1
  generalize hG1:upd G pa (.tup [V.int (p.1+d0),V.int (p.2+d1)])=G1 at *
  have hw1:=s1 _ _ hw
  refine⟨_,rfl,_,rfl,_,rfl,l',ws,rfl,SqL.of hw1,λ p1 h1=>?_⟩
  have s2:=ai h1 (.lst (cw ws none (some (k:Int))))
  have e2:upd G1 p1 (.lst (cw ws none (some (k:Int)))) p1=some (.lst (cw ws none (some (k:Int)))):=ad
  refine⟨_,rfl,one,λ p2 h2=>?_⟩
  have s3:=ai h2 (.lst [V.ref pa])
  have cl:=cD ws none (some (k:Int))
  have cl2:=cD ws (some ((k:Int)+1)) none
  refine⟨p1,p2,_,_,rfl,rfl,s3 _ _ e2,ad,fD (by simp;omega),λ p3 h3=>?_⟩
  have s4:=ai h3 (.lst (cw ws none (some (k:Int))++[V.ref pa]))
  have s24:=(s2.trans s3).trans s4
  refine⟨_,rfl,_,rfl,_,_,rfl,rfl,_,rfl,l',ws,rfl,SqL.of (s24 _ _ hw1),λ p4 h4=>?_⟩
  have s5:=ai h4 (.lst (cw ws (some ((k:Int)+1)) none))
  refine⟨p3,p4,_,_,rfl,rfl,s5 _ _ ad,ad,fD (by simp;omega),λ p5 h5=>?_⟩
  have s6:=ai h5 (.lst (cw ws none (some (k:Int))++[V.ref pa]++cw ws (some ((k:Int)+1)) none))
  have s16:=((s1.trans s24).trans s5).trans s6
  refine hM _ _ ⟨s16,p5,rfl,⟨_,ad,?_⟩⟩
  rw[f7 (by omega)]
  have e1b:=(((s24.trans s5).trans s6)) _ _ e1'
  rw[f7 (by omega)] at e1b s16
  exact bU.set e1b (row.keep s16)
 rintro σ G2 ⟨s2,l2,rfl,hs2⟩
 have lz2:(zs'.set k (mvZ lo f p)).length=n+1:=by rw[List.length_set];exact lz'
 have hstop:∀ G3,ak G G3->shq n sh m (Gc.shr (m*f) zs') k lo=none->Q (.ref l') G3:=λ G3 s3 e=>q l' zs' G3 (sG.trans s3) ⟨ws,s3 _ _ hw,row.keep s3⟩ lz' (hr' _ (.stop e))
 refine⟨_,rfl,_,rfl,l2,_,_,rfl,hs2,by omega,mf.u0,λ b1 hb1=>?_⟩
 cases b1 with
 | false =>
  refine⟨_,rfl,bD ⟨_,rfl,hstop _ s2 (sno λ z=>?_)⟩⟩
  cases hb1.mpr z.1
 | true =>
  have ir:=hb1.mp rfl
  refine⟨_,rfl,aW ⟨_,rfl,_,rfl,_,rfl,l2,a,m*f,n,sh,_,rfl,hs2,lz2,mf.n1,n12,ir,mf.u0,mf.u1,fa.keep (sG.trans s2),λ b2 G3 s3 hb2=>?_⟩⟩
  cases b2 with
  | false =>
   refine⟨_,rfl,bD ⟨_,rfl,hstop _ (s2.trans s3) (sno λ z=>?_)⟩⟩
   cases hb2.mpr z.2
  | true=>exact⟨_,rfl,aW ⟨_,rfl,l2,_,_,s2.trans s3,rfl,hs2.keep s3,shn ir (hb2.mp rfl)⟩⟩
def zI:Sp:=λ vs H Q _=>∃ (l a:Addr) (n:Nat) (m f:Int) (s:Rat) (zs:List (Int×Int)),vs = [.ref l,.int (m*f),.ref a,.int f]/\StA H l zs/\zs.length=n+1/\MF m f n/\FrA H a s /\
 ∀ l' zs' H',ak H H'->StA H' l' zs'->zs'.length=n+1->gB n s m (dM n) (Gc.shr (m*f) zs) (Gc.shr (m*f) zs')->Q (.ref l') H'
theorem jP:aA ["_law_steps_here","_law_measure","_law_share","_law_fine","_law_k"] ["_law_steps_here","_law_measure","_law_share","_law_fine"] (ag lJ):=⟨rfl,rfl,rfl,by decide +kernel,rfl,by decide +kernel,by decide +kernel⟩
theorem A3 {f:Addr}{fd:FuncData} (F:Fun K "_law_due" "_law_due" lJ f fd) (T:Txt mg) {fmvi:Addr}{dmvi:FuncData} (Gmvi:ax P w K mg base CX0 5 fmvi dmvi ["_law_steps_here","_law_k","_law_move","_law_measure","_law_share"] zE) (bmvi:aE K dmvi ["_law_steps_here","_law_k","_law_move","_law_measure","_law_share"] []) (kmvi:PySem.W.keepIn K (.ref fmvi)=true) (mmvi:mg "_law_moved_in" = some (.ref fmvi)):ax P w K mg base CX0 6 f fd ["_law_steps_here","_law_measure","_law_share","_law_fine"] zI:=by
 refine F.ok jP (λ vs H Q E h=>?_) (λ cdv A outer s H vs Q E hr h=>?_)
 ·obtain⟨l,a,n,m,f,sh,zs,rfl,_⟩:=h
  rfl
 obtain⟨l,a,n,m,f,sh,zs,rfl,hl,lz,mf,fa,q⟩:=h
 refine⟨_,(af (bA PassesOwn.never rfl (aZ rfl T.range (aa (aO aS rfl T.len boot_len (aa (pv 0) ac)) ac)) (az (i:=4) jP.nd rfl (Or.inl rfl)) (ah (au (i:=0) jP.nd rfl (Or.inl rfl) (aj Gmvi hr rfl mmvi kmvi bmvi .nil aD (aa (pv 0) (aa (pv 4) (aa (aQ (aa ae (aa (ar ck ae (pv 3)) ac))) (aa (pv 1) (aa (pv 2) ac)))))))))
  (af (bA PassesOwn.never rfl (iU rfl T.range (aa (ar ck (aO aS rfl T.len boot_len (aa (pv 0) ac)) ae) (aa (jY gI ae) (aa (jY gI ae) ac)))) (az (i:=4) jP.nd rfl (Or.inl rfl)) (ah (au (i:=0) jP.nd rfl (Or.inl rfl) (aj Gmvi hr rfl mmvi kmvi bmvi .nil aD (aa (pv 0) (aa (pv 4) (aa (aQ (aa (pv 3) (aa ae ac))) (aa (pv 1) (aa (pv 2) ac)))))))))
  (ah (aB (pv 0))))),?_⟩
 have two:2<=sizeLine:=by decide
 have n12:=mf.n12
 obtain⟨ws,hw,row⟩:=hl.ob
 have lw:=row.len
 refine⟨_,rfl,l,_,rfl,.inl (SqL.of hw),_,rfl,by omega,by omega,?_⟩
 rw[show ((ws.length:Nat):Int).toNat=n+1 by omega]
 refine bY (lo:=0) (λ i σ G=>ak H G/\∃ l' zs' v1,σ = [some (.ref l'),some (.int (m*f)),some (.ref a),some (.int f),v1]/\StA G l' zs'/\zs'.length=n+1/\gB n sh m (hiE i) (Gc.shr (m*f) zs) (Gc.shr (m*f) zs')) ⟨ak.refl H,l,zs,none,rfl,hl,lz,rfl⟩ ?_ ?_
 ·rintro i σ G hi ⟨sG,l',zs',v1,rfl,hs,lz',run⟩
  rw[show (0:Int)+(i:Int)=(i:Int) by omega]
  refine⟨_,rfl,_,rfl,_,rfl,_,_,rfl,rfl,two,λ p hp=>?_⟩
  have sp:=ai hp (.tup [V.int 0,V.int (0-f)])
  refine⟨_,rfl,_,rfl,l',p,a,i,n,m,f,0,0-f,sh,zs',false,rfl,hs.keep sp,lz',mf,by omega,ad,λ p=>?_,(fa.keep sG).keep sp,λ l2 zs2 G2 s2 h2 lz2 rn=>?_⟩
  ·unfold mvZ
   rw[if_neg Bool.false_ne_true]
   exact Prod.ext (by show p.1+0=p.1;omega) (by show p.2+(0-f)=p.2-f;omega)
  ·refine⟨(sG.trans sp).trans s2,l2,zs2,_,rfl,h2,lz2,?_⟩
   rw[pe]
   exact run.snoc rn
 rintro σ G ⟨sG,l',zs',v1,rfl,hs,lz',run⟩
 obtain⟨ws',hw',row'⟩:=hs.ob
 have lw':=row'.len
 refine⟨_,rfl,l',_,rfl,.inl (SqL.of hw'),_,_,rfl,rfl,_,rfl,_,rfl,_,_,rfl,⟨by omega,by omega,by decide,by decide⟩,?_⟩
 rw[show ((((ws'.length:Nat):Int)-1) - -1).toNat=n+1 by omega,show ((ws'.length:Nat):Int)-1=(n:Int) by omega]
 refine pr (hi:=(n:Int)) (n:=n+1) (λ i σ G=>ak H G/\∃ l' zs' v1,σ = [some (.ref l'),some (.int (m*f)),some (.ref a),some (.int f),v1]/\StA G l' zs'/\zs'.length=n+1/\gB n sh m (hiE (n+1)++loE n i) (Gc.shr (m*f) zs) (Gc.shr (m*f) zs')) ⟨sG,l',zs',v1,rfl,hs,lz',by rw[show loE n 0 = [] from rfl,List.append_nil];exact run⟩ ?_ ?_
 ·rintro i σ G hi ⟨sG,l',zs',v1,rfl,hs,lz',run⟩
  rw[show (n:Int)-(i:Int)=((n-i:Nat):Int) by omega]
  refine⟨_,rfl,_,rfl,_,rfl,two,λ p hp=>?_⟩
  have sp:=ai hp (.tup [V.int f,V.int 0])
  refine⟨_,rfl,_,rfl,l',p,a,n-i,n,m,f,f,0,sh,zs',true,rfl,hs.keep sp,lz',mf,by omega,ad,λ p=>?_,(fa.keep sG).keep sp,λ l2 zs2 G2 s2 h2 lz2 rn=>?_⟩
  ·unfold mvZ
   rw[if_pos rfl]
   exact Prod.ext rfl (by show p.2+0=p.2;omega)
  ·refine⟨(sG.trans sp).trans s2,l2,zs2,_,rfl,h2,lz2,?_⟩
   rw[o5,<-List.append_assoc]
   exact run.snoc rn
 rintro σ G ⟨sG,l',zs',v1,rfl,hs,lz',run⟩
 exact⟨_,rfl,q l' zs' G sG hs lz' run⟩
def zH:Sp:=λ vs H Q _=>∃ (l a:Addr) (n:Nat) (m f:Int) (s:Rat) (zs:List (Int×Int)),vs = [.ref l,.int (m*f),.ref a,.int f]/\StA H l zs/\zs.length=n+1/\MF m f n/\FrA H a s/\IsR (Gc.shr (m*f) zs)/\s<=bst n (Gc.shr (m*f) zs)/\(∀ k lo,k<=n->shq n s m (Gc.shr (m*f) zs) k lo=none) /\
 ∀ H',ak H H'->Q (.bl true) H'
theorem iE:aA ["_law_steps_here","_law_measure","_law_share","_law_fine","_law_k","_law_low","_law_high","_law_part","_law_other"] ["_law_steps_here","_law_measure","_law_share","_law_fine"] (ag lD):=⟨rfl,rfl,rfl,by decide +kernel,rfl,by decide +kernel,by decide +kernel⟩
theorem AW {f:Addr}{fd:FuncData} (F:Fun K "_law_tight" "_law_tight" lD f fd) (T:Txt mg) {flru:Addr}{dlru:FuncData} (Glru:ax P w K mg base CX0 4 flru dlru ["_law_steps_here","_law_measure"] vo) (blru:aE K dlru ["_law_steps_here","_law_measure"] []) (klru:PySem.W.keepIn K (.ref flru)=true) (mlru:mg "_law_is_rule" = some (.ref flru)) {flis:Addr}{dlis:FuncData} (Glis:ax P w K mg base CX0 4 flis dlis ["_law_steps_here","_law_measure","_law_share"] rg) (blis:aE K dlis ["_law_steps_here","_law_measure","_law_share"] []) (klis:PySem.W.keepIn K (.ref flis)=true) (mlis:mg "_law_is_sure" = some (.ref flis)):ax P w K mg base CX0 5 f fd ["_law_steps_here","_law_measure","_law_share","_law_fine"] zH:=by
 refine F.ok iE (λ vs H Q E h=>?_) (λ cdv A outer s H vs Q E hr h=>?_)
 ·obtain⟨l,a,n,m,f,sh,zs,rfl,_⟩:=h
  rfl
 obtain⟨l,a,n,m,f,sh,zs,rfl,hl,lz,mf,fa,ir,sr,no,q⟩:=h
 refine⟨_,(af (br (PW.pt (cE (bK (a9 (aj Glru hr rfl mlru klru blru .nil aD (aa (pv 0) (aa (pv 1) ac))))) (cy (bK (a9 (aj Glis hr rfl mlis klis blis .nil aD (aa (pv 0) (aa (pv 1) (aa (pv 2) ac))))))))) (ah (aB eJ)) aK)
  (af (bA PassesOwn.never rfl (aZ rfl T.range (aa (aO aS rfl T.len boot_len (aa (pv 0) ac)) ac)) (az (i:=4) iE.nd rfl (Or.inl rfl)) (af (mZ (am bf (pv 0) (pv 4) (λ _ _=>rfl)) (fc rfl (aJ (az (i:=5) iE.nd rfl (Or.inl rfl)) (aJ (az (i:=6) iE.nd rfl (Or.inl rfl)) bO))))
   (ah (bA PassesOwn.never rfl (cW (cP (aa (aQ (aa (ar aV (pv 5) (pv 3)) (aa (pv 6) ac))) (aa (aQ (aa (pv 5) (aa (ar ck (pv 6) (pv 3)) ac))) ac)))) (az (i:=7) iE.nd rfl (Or.inl rfl)) (af (au (i:=8) iE.nd rfl (Or.inl rfl) (ar fg (ar fg (cF f6 (pv 0) du (dl (pv 4))) (cP (aa (pv 7) ac))) (cF f6 (pv 0) (dl (ar aV (pv 4) ae)) du)))
    (ah (br (PW.pt (qf (a9 (aj Glru hr rfl mlru klru blru .nil aD (aa (pv 8) (aa (pv 1) ac)))) (mY (a9 (aj Glis hr rfl mlis klis blis .nil aD (aa (pv 8) (aa (pv 1) (aa (pv 2) ac)))))))) (ah (aB eJ)) aK)))))))
  (ah (aB eJ)))),?_⟩
 have two:2<=sizeLine:=by decide
 have one:1<=sizeLine:=by decide
 have n12:=mf.n12
 obtain⟨ws,hw,row⟩:=hl.ob
 have lw:=row.len
 refine⟨_,rfl,_,rfl,l,_,zs,rfl,hl,by omega,mf.u0,λ b1 hb1=>?_⟩
 cases b1 with
 | false=>cases hb1.mpr ir
 | true=>?_
 refine⟨_,rfl,aW ⟨_,rfl,_,rfl,_,rfl,l,a,m*f,n,sh,zs,rfl,hl,lz,mf.n1,n12,ir,mf.u0,mf.u1,fa,λ b2 G s1 hb2=>?_⟩⟩
 cases b2 with
 | false=>cases hb2.mpr sr
 | true=>?_
 refine⟨_,rfl,aW ⟨_,rfl,l,_,rfl,.inl (SqL.of (s1 _ _ hw)),_,rfl,by omega,by omega,?_⟩⟩
 rw[show ((ws.length:Nat):Int).toNat=n+1 by omega]
 refine bY (lo:=0) (λ i σ G=>ak H G/\∃ v1 v2 v3 v4 v5,σ = [some (.ref l),some (.int (m*f)),some (.ref a),some (.int f),v1,v2,v3,v4,v5]) ⟨s1,_,_,_,_,_,rfl⟩ ?_ ?_
 ·rintro i σ G hi ⟨sG,v1,v2,v3,v4,v5,rfl⟩
  rw[show (0:Int)+(i:Int)=(i:Int) by omega]
  have hiz:i<zs.length:=by omega
  obtain⟨b,f1,f2⟩:=(row.keep sG).at hiz
  have hwG:=sG _ _ hw
  have noi:=λ lo=>rC (no i lo (by omega))
  have nol:=λ lo=>(not_congr (jI (n:=n) (s:=sh) mf.m0 mf.f0 hiz lo)).mp (noi lo)
  generalize zs.getD i (0,0)=p at *
  refine⟨_,rfl,_,rfl,l,ws,_,_,rfl,rfl,SqL.of hwG,bx f1,b,_,rfl,SqT.of f2,rfl,_,_,rfl,_,_,rfl,rfl,?_⟩
  refine⟨_,rfl,_,rfl,_,_,rfl,rfl,_,rfl,two,λ p1 h1=>⟨_,rfl,_,rfl,_,rfl,_,_,rfl,rfl,two,λ p2 h2=>⟨two,λ p3 h3=>?_⟩⟩⟩
  have t1:=ai h1 (.tup [V.int (p.1+f),V.int p.2])
  have t2:=ai h2 (.tup [V.int p.1,V.int (p.2-f)])
  have t3:=ai h3 (.lst [V.ref p1,V.ref p2])
  have o1:=t3 _ _ (t2 _ _ (ad (H:=G) (a:=p1) (o:=.tup [V.int (p.1+f),V.int p.2])))
  have o2:=t3 _ _ (ad (H:=upd G p1 (.tup [V.int (p.1+f),V.int p.2])) (a:=p2) (o:=.tup [V.int p.1,V.int (p.2-f)]))
  have o3:upd (upd (upd G p1 (.tup [V.int (p.1+f),V.int p.2])) p2 (.tup [V.int p.1,V.int (p.2-f)])) p3 (.lst [V.ref p1,V.ref p2]) p3=some (.lst [V.ref p1,V.ref p2]):=ad
  have t13:=(t1.trans t2).trans t3
  generalize upd (upd (upd G p1 (.tup [V.int (p.1+f),V.int p.2])) p2 (.tup [V.int p.1,V.int (p.2-f)])) p3 (.lst [V.ref p1,V.ref p2])=G3 at *
  refine⟨p3,rfl,⟨_,SqL.of o3⟩,?_⟩
  dsimp -proj only
  refine eU (xs:=[V.ref p1,V.ref p2]) (λ j σ G'=>ak G3 G'/\∃ v4 v5,σ = [some (.ref l),some (.int (m*f)),some (.ref a),some (.int f),some (.int i),some (.int p.1),some (.int p.2),v4,v5]) ⟨ak.refl _,_,_,rfl⟩ ?_ ?_ ?_
  ·rintro j σ G' hj ⟨s',_⟩
   exact SqL.of (s' _ _ o3)
  ·rintro j z σ G4 hz ⟨s4,v4,v5,rfl⟩
   obtain⟨pa,lo,rfl,ep⟩:∃ (pa:Addr) (lo:Bool),z=.ref pa/\G3 pa=some (.tup [V.int (mvZ lo f p).1,V.int (mvZ lo f p).2]):=by
    match j,hz with
    | 0,hz=>cases hz;exact⟨p1,true,rfl,o1⟩
    | 1,hz=>cases hz;exact⟨p2,false,rfl,o2⟩
    | j+2,hz=>simp at hz
   have ep4:=s4 _ _ ep
   have sg4:=t13.trans s4
   have hw1:=sg4 _ _ hwG
   have sG4:=sG.trans sg4
   dsimp only
   refine bQ (λ σ G'=>ak G4 G'/\∃ l2:Addr,σ = [some (.ref l),some (.int (m*f)),some (.ref a),some (.int f),some (.int i),some (.int p.1),some (.int p.2),some (.ref pa),some (.ref l2)]/\StA G' l2 (zs.set i (mvZ lo f p))) ?_ ?_
   ·intro M hM
    refine⟨_,rfl,_,rfl,_,rfl,l,ws,rfl,SqL.of hw1,λ p1 h1=>?_⟩
    have s2:=ai h1 (.lst (cw ws none (some (i:Int))))
    have e2:upd G4 p1 (.lst (cw ws none (some (i:Int)))) p1=some (.lst (cw ws none (some (i:Int)))):=ad
    refine⟨_,rfl,one,λ p2 h2=>?_⟩
    have s3:=ai h2 (.lst [V.ref pa])
    have cl:=cD ws none (some (i:Int))
    have cl2:=cD ws (some ((i:Int)+1)) none
    refine⟨p1,p2,_,_,rfl,rfl,s3 _ _ e2,ad,fD (by simp;omega),λ p3 h3=>?_⟩
    have s4:=ai h3 (.lst (cw ws none (some (i:Int))++[V.ref pa]))
    have s24:=(s2.trans s3).trans s4
    refine⟨_,rfl,_,rfl,_,_,rfl,rfl,_,rfl,l,ws,rfl,SqL.of (s24 _ _ hw1),λ p4 h4=>?_⟩
    have s5:=ai h4 (.lst (cw ws (some ((i:Int)+1)) none))
    refine⟨p3,p4,_,_,rfl,rfl,s5 _ _ ad,ad,fD (by simp;omega),λ p5 h5=>?_⟩
    have s6:=ai h5 (.lst (cw ws none (some (i:Int))++[V.ref pa]++cw ws (some ((i:Int)+1)) none))
    have s16:=(s24.trans s5).trans s6
    refine hM _ _ ⟨s16,p5,rfl,⟨_,ad,?_⟩⟩
    rw[f7 (by omega)]
    have e1b:=s16 _ _ ep4
    rw[f7 (by omega)] at e1b s16
    exact bU.set e1b ((row.keep sG4).keep s16)
   rintro σ G5 ⟨s5,l2,rfl,hs2⟩
   have lz2:(zs.set i (mvZ lo f p)).length=n+1:=by rw[List.length_set];exact lz
   refine⟨_,rfl,_,rfl,l2,_,_,rfl,hs2,by omega,mf.u0,λ b1 hb1=>?_⟩
   cases b1 with
   | false=>exact⟨_,rfl,aW (aW ⟨s4.trans s5,_,_,rfl⟩)⟩
   | true =>
    have ir2:=hb1.mp rfl
    refine⟨_,rfl,bD ⟨_,rfl,_,rfl,_,rfl,l2,a,m*f,n,sh,_,rfl,hs2,lz2,mf.n1,n12,ir2,mf.u0,mf.u1,fa.keep (sG4.trans s5),λ b2 G6 s6 hb2=>?_⟩⟩
    cases b2 with
    | false=>exact⟨_,rfl,aW ⟨(s4.trans s5).trans s6,_,_,rfl⟩⟩
    | true=>exact (nol lo ⟨ir2,hb2.mp rfl⟩).elim
  ·rintro σ G' ⟨s',v4,v5,rfl⟩
   exact⟨sG.trans (t13.trans s'),_,_,_,_,_,rfl⟩
 rintro σ G' ⟨s',v1,v2,v3,v4,v5,rfl⟩
 exact q G' s'
theorem fy {t b:Int} (hb:0<b):rq t b*(b:Rat)=(t:Rat):=by
 have bp:(0:Rat)<(b:Rat):=by exact_mod_cast hb
 unfold rq;grind
theorem p30:(2000000000000000000000000000000000:Nat)<2^120:=by decide +kernel
def vq:Sp:=λ vs H Q _=>∃ (a:Addr) (s0 s1:Nat),vs = [.ref a]/\H a=some (.tup [.int s0,.int s1])/\1<=s1/\s1<=1000000000000000000000000000000/\jk H (rq ((s1:Int)-(s0:Int)) (2*(s1:Int))) Q
theorem xZ:aA ["share"] ["share"] (ag iN):=⟨rfl,rfl,rfl,by decide +kernel,rfl,by decide +kernel,by decide +kernel⟩
theorem yE {C:CA}{f:Addr}{fd:FuncData} (F:Fun K "half_of_what_is_left" "half_of_what_is_left" iN f fd) (T:Txt mg) {ffrac:Addr}{dfrac:FuncData} (Gfrac:ax P w K mg base (CXX P w) 3 ffrac dfrac ["top","bottom"] (fJ C)) (bfrac:aE K dfrac ["top","bottom"] []) (kfrac:PySem.W.keepIn K (.ref ffrac)=true) (mfrac:mg "fraction" = some (.ref ffrac)):ax P w K mg base CX0 4 f fd ["share"] vq:=by
 refine F.ok xZ (λ vs H Q E h=>?_) (λ cdv A outer s H vs Q E hr h=>?_)
 ·obtain⟨a,s0,s1,rfl,_⟩:=h
  rfl
 obtain⟨a,s0,s1,rfl,ha,h1,h2,q⟩:=h
 refine⟨_,(ah (aB (aj Gfrac hr rfl mfrac kfrac bfrac .nil jZ (aa (ar ck (am aq (pv 0) ae (λ _ _=>rfl)) (am aq (pv 0) ae (λ _ _=>rfl))) (aa (ar we ae (am aq (pv 0) ae (λ _ _=>rfl))) ac))))),?_⟩
 refine⟨_,rfl,a,_,1,_,rfl,rfl,SqT.of ha,at1,_,rfl,a,_,0,_,rfl,rfl,SqT.of ha,at0,_,_,rfl,rfl,_,rfl,a,_,1,_,rfl,rfl,SqT.of ha,at1,_,_,rfl,rfl,.inl ⟨by decide,by decide⟩,?_⟩
 have bp:(0:Int)<2*(s1:Int):=by omega
 have z:Sz 120 (2*(s1:Int)):=Nat.lt_of_le_of_lt (show (2*(s1:Int)).natAbs<=2000000000000000000000000000000000 by omega) p30
 exact dL (Int.ne_of_gt bp) (z.smk (by decide)) (fI (ef (Int.ne_of_gt bp) (fy bp)) q)
def cH (s0 s1:Nat):Rat:=rq ((s1:Int)-(s0:Int)) (2*(s1:Int))
theorem xb {H:Hp}{f:Addr}{s0 s1:Nat} (h0:s0<=s1) (h1:1<=s1) (h2:s1<=1000000000000000000000000000000) (e:H f=some (.tup [.int (cH s0 s1).num,.int ((cH s0 s1).den:Int)])):FrA H f (cH s0 s1):=by
 have bi:(0:Int)<2*(s1:Int):=by omega
 have z:Sz 120 (2*(s1:Int)):=Nat.lt_of_le_of_lt (show (2*(s1:Int)).natAbs<=2000000000000000000000000000000000 by omega) p30
 have z2:Sz 120 ((s1:Int)-(s0:Int)):=Nat.lt_of_le_of_lt (show ((s1:Int)-(s0:Int)).natAbs<=2000000000000000000000000000000000 by omega) p30
 have r:=ef (Int.ne_of_gt bi) (fy (t:=((s1:Int)-(s0:Int))) bi)
 have s:=Sz.fr (Int.ne_of_gt bi) z2 z
 rw[r.1,r.2] at s
 exact⟨e,s.1.mono (by decide),s.2.mono (by decide)⟩
def grt (c:Nat->Bool):Nat->Option Nat
 | 0=>none
 | m+1=>if c m=true then some m else grt c m
def fF (c:Nat->Bool):Nat->Option Nat
 | 0=>none
 | m+1=>match fF c m with
  | some t=>some t
  | none=>if c m=true then some m else none
theorem ib {c:Nat->Bool}:∀ {m:Nat},(∀ u,u<m->c u=false)->grt c m=none
 | 0,_=>rfl
 | m+1,h=>by
  show (if c m=true then some m else grt c m)=none
  rw[h m (by omega),if_neg (by simp),ib λ u hu=>h u (by omega)]
theorem ki {c:Nat->Bool}{t:Nat}:∀ {m:Nat},t<m->c t=true->(∀ u,t<u->u<m->c u=false)->grt c m=some t
 | m+1,h,ht,hu=>by
  show (if c m=true then some m else grt c m)=some t
  by_cases e:t=m
  ·subst e;rw[if_pos ht]
  ·rw[hu m (by omega) (by omega),if_neg (by simp),ki (by omega) ht λ u a b=>hu u a (by omega)]
theorem qv {c:Nat->Bool}:∀ {m t:Nat},grt c m=some t->t<m/\c t=true/\∀ u,t<u->u<m->c u=false
 | m+1,t,h=>by
  have h':(if c m=true then some m else grt c m)=some t:=h
  by_cases e:c m=true
  ·rw[if_pos e] at h'
   cases h'
   exact⟨by omega,e,λ u a b=>by omega⟩
  ·rw[if_neg e] at h'
   obtain⟨a1,a2,a3⟩:=qv h'
   refine⟨by omega,a2,λ u a b=>?_⟩
   by_cases z:u=m
   ·subst z;exact Bool.eq_false_iff.mpr e
   ·exact a3 u a (by omega)
theorem qt {c:Nat->Bool}:∀ {m:Nat},grt c m=none->∀ u,u<m->c u=false
 | m+1,h,u,hu=>by
  have h':(if c m=true then some m else grt c m)=none:=h
  by_cases e:c m=true
  ·rw[if_pos e] at h';cases h'
  ·rw[if_neg e] at h'
   by_cases z:u=m
   ·subst z;exact Bool.eq_false_iff.mpr e
   ·exact qt h' u (by omega)
theorem kj {c:Nat->Bool}:∀ {m:Nat},(∀ u,u<m->c u=false)->fF c m=none
 | 0,_=>rfl
 | m+1,h=>by
  unfold fF
  rw[kj λ u hu=>h u (by omega)]
  show (if c m=true then some m else none)=none
  rw[h m (by omega),if_neg (by simp)]
theorem pi {c:Nat->Bool}{t:Nat}:∀ {m:Nat},t<m->c t=true->(∀ u,u<t->c u=false)->fF c m=some t
 | m+1,h,ht,hu=>by
  unfold fF
  by_cases e:t=m
  ·subst e
   rw[kj hu]
   show (if c t=true then some t else none)=some t
   rw[if_pos ht]
  ·rw[pi (m:=m) (by omega) ht hu]
theorem wX {c:Nat->Bool}:∀ {m t:Nat},fF c m=some t->t<m/\c t=true/\∀ u,u<t->c u=false
 | m+1,t,h=>by
  unfold fF at h
  cases e:fF c m with
  | some t' =>
   rw[e] at h
   cases h
   obtain⟨a1,a2,a3⟩:=wX e
   exact⟨by omega,a2,a3⟩
  | none =>
   rw[e] at h
   have h':(if c m=true then some m else none)=some t:=h
   by_cases z:c m=true
   ·rw[if_pos z] at h'
    cases h'
    refine⟨by omega,z,λ u hu=>?_⟩
    have:∀ {m:Nat},fF c m=none->∀ u,u<m->c u=false:=by
     intro m
     induction m with
     | zero=>intro _ u hu;omega
     | succ m ih =>
      intro h u hu
      unfold fF at h
      cases e:fF c m with
      | some t'=>rw[e] at h;cases h
      | none =>
       rw[e] at h
       have h':(if c m=true then some m else none)=none:=h
       by_cases y:c m=true
       ·rw[if_pos y] at h';cases h'
       ·by_cases q : u = m
        · subst q; exact Bool.eq_false_iff.mpr y
        · exact ih e u (by omega)
    exact this e u hu
   ·rw[if_neg z] at h';cases h'
theorem wW {c:Nat->Bool}:∀ {m:Nat},fF c m=none->∀ u,u<m->c u=false
 | m+1,h,u,hu=>by
  unfold fF at h
  cases e:fF c m with
  | some t'=>rw[e] at h;cases h
  | none =>
   rw[e] at h
   have h':(if c m=true then some m else none)=none:=h
   by_cases y:c m=true
   ·rw[if_pos y] at h';cases h'
   ·by_cases q:u=m
    ·subst q;exact Bool.eq_false_iff.mpr y
    ·exact wW e u (by omega)
def stp (M t:Nat):Rat:=rq (t:Int) (M:Int)
def pV (M:Nat):List Rat:=(List.range (M+1)).map (stp M)
theorem mw {M t:Nat} (h:t<=M):(pV M)[t]? = some (stp M t):=by
 unfold pV
 rw[List.getElem?_map,List.getElem?_range (by omega)]
 rfl
theorem jA (M:Nat):(pV M).length=M+1:=by unfold pV;simp
def dH (n i j:Nat) (mo:Rat) (M t:Nat):Bool:=decide (dg (stp M t) n i j<=mo)
def cz (n k:Nat) (mo:Rat) (M:Nat):Rat:=match grt (dH n k n mo M) (M+1) with
 | some t=>stp M t
 | none=>0
def bI (n k:Nat) (mo:Rat) (M:Nat):Rat:=match fF (dH n 0 k mo M) (M+1) with
 | some t=>stp M t
 | none=>1
def vg:Sp:=λ vs H Q _=>∃ (n k M:Nat) (m l:Addr) (mo:Rat) (zs:List V),vs = [.int n,.int k,.ref m,.ref l]/\FrA H m mo/\H l=some (.lst zs)/\ShL H (pV M) zs/\n<=12/\k<=n/\M<=60/\∀ a H',ak H H'->Shp H' a (cz n k mo M)->Q (.ref a) H'
theorem rH:aA ["n","k","most","steps","step"] ["n","k","most","steps"] (ag iH):=⟨rfl,rfl,rfl,by decide +kernel,rfl,by decide +kernel,by decide +kernel⟩
theorem yx {f:Addr}{fd:FuncData} (F:Fun K "tails_low" "tails_low" iH f fd) (T:Txt mg) {frsum:Addr}{drsum:FuncData} (Grsum:ax P w K mg base CX0 4 frsum drsum ["n","i","j","p"] my) (brsum:aE K drsum ["n","i","j","p"] []) (krsum:PySem.W.keepIn K (.ref frsum)=true) (mrsum:mg "run_sum" = some (.ref frsum)) {fund:Addr}{dund:FuncData} (Gund:ax P w K mg base CX0 4 fund dund ["one","other"] ja) (bund:aE K dund ["one","other"] []) (kund:PySem.W.keepIn K (.ref fund)=true) (mund:mg "under" = some (.ref fund)):ax P w K mg base CX0 5 f fd ["n","k","most","steps"] vg:=by
 refine F.ok rH (λ vs H Q E h=>?_) (λ cdv A outer s H vs Q E hr h=>?_)
 ·obtain⟨n,k,M,m,l,mo,zs,rfl,_⟩:=h
  rfl
 obtain⟨n,k,M,m,l,mo,zs,rfl,fm,hl,row,hn,hk,hM,q⟩:=h
 refine⟨_,(af (bA PassesOwn.never rfl (AE rfl T.reversed (aa (pv 3) ac)) (az (i:=4) rH.nd rfl (Or.inl rfl)) (ah (br (bK (a9 (aj Gund hr rfl mund kund bund .nil aD (aa (pv 2) (aa (aj Grsum hr rfl mrsum krsum brsum .nil aD (aa (pv 0) (aa (pv 1) (aa (pv 0) (aa (pv 4) ac))))) ac))))) (ah (aB (pv 4))) aK)))
  (ah (aB (aQ (aa ae (aa ae ac)))))),?_⟩
 have lz:zs.length=M+1:=by rw[row.len,jA]
 refine⟨_,rfl,l,zs,rfl,SqL.of hl,?_⟩
 refine yX (xs:=zs) (λ i σ H'=>ak H H'/\(∃ v,σ = [some (.int n),some (.int k),some (.ref m),some (.ref l),v])/\∀ u,M+1-i<=u->u<M+1->dH n k n mo M u=false) ⟨ak.refl H,⟨none,rfl⟩,λ u a b=>by omega⟩ ?_ ?_ ?_
 ·rintro i σ H' hi ⟨sm,_⟩
  exact SqL.of (sm _ _ hl)
 ·rintro i x σ H' hi hx ⟨sm,⟨v,rfl⟩,no⟩
  have hM':M-i<=M:=by omega
  have ei:zs.length-1-i=M-i:=by omega
  rw[ei] at hx
  obtain⟨a,e1,e2⟩:=(row.keep sm).get (mw hM')
  rw[hx] at e1
  cases e1
  refine⟨_,rfl,_,rfl,_,rfl,_,rfl,_,rfl,n,k,n,a,_,rfl,e2,hn,hk,Nat.le_refl _,λ w1 H2 s2 hw=>?_⟩
  have fw:=sI e2 hn hw
  refine⟨m,w1,_,_,rfl,(fm.keep sm).keep s2,fw,_,rfl,?_⟩
  by_cases c:mo<dg (stp M (M-i)) n k n
  ·rw[decide_eq_true c]
   refine aW ⟨sm.trans s2,⟨_,rfl⟩,λ u h1 h2=>?_⟩
   by_cases z:u=M-i
   ·subst z
    exact decide_eq_false (by grind)
   ·exact no u (by omega) h2
  ·rw[decide_eq_false c]
   refine bD ⟨_,rfl,q a _ (sm.trans s2) ?_⟩
   have g:grt (dH n k n mo M) (M+1)=some (M-i):=ki (by omega) (decide_eq_true (by grind)) λ u h1 h2=>no u (by omega) h2
   unfold cz
   rw[g]
   exact e2.keep s2
 ·rintro σ H' ⟨sm,⟨v,rfl⟩,no⟩
  refine⟨(by show 2<=sizeLine;decide),λ p hp=>q p _ (sm.trans (ai hp _)) ?_⟩
  have g:grt (dH n k n mo M) (M+1)=none:=ib λ u hu=>no u (by omega) hu
  unfold cz
  rw[g]
  exact BS ad
def rc:Sp:=λ vs H Q _=>∃ (n k M:Nat) (m l:Addr) (mo:Rat) (zs:List V),vs = [.int n,.int k,.ref m,.ref l]/\FrA H m mo/\H l=some (.lst zs)/\ShL H (pV M) zs/\n<=12/\k<=n/\M<=60/\∀ a H',ak H H'->Shp H' a (bI n k mo M)->Q (.ref a) H'
theorem oB:aA ["n","k","most","steps","step"] ["n","k","most","steps"] (ag gc):=⟨rfl,rfl,rfl,by decide +kernel,rfl,by decide +kernel,by decide +kernel⟩
theorem wk {f:Addr}{fd:FuncData} (F:Fun K "tails_high" "tails_high" gc f fd) (T:Txt mg) {frsum:Addr}{drsum:FuncData} (Grsum:ax P w K mg base CX0 4 frsum drsum ["n","i","j","p"] my) (brsum:aE K drsum ["n","i","j","p"] []) (krsum:PySem.W.keepIn K (.ref frsum)=true) (mrsum:mg "run_sum" = some (.ref frsum)) {fund:Addr}{dund:FuncData} (Gund:ax P w K mg base CX0 4 fund dund ["one","other"] ja) (bund:aE K dund ["one","other"] []) (kund:PySem.W.keepIn K (.ref fund)=true) (mund:mg "under" = some (.ref fund)):ax P w K mg base CX0 5 f fd ["n","k","most","steps"] rc:=by
 refine F.ok oB (λ vs H Q E h=>?_) (λ cdv A outer s H vs Q E hr h=>?_)
 ·obtain⟨n,k,M,m,l,mo,zs,rfl,_⟩:=h
  rfl
 obtain⟨n,k,M,m,l,mo,zs,rfl,fm,hl,row,hn,hk,hM,q⟩:=h
 refine⟨_,(af (bA PassesOwn.never rfl (cW (pv 3)) (az (i:=4) oB.nd rfl (Or.inl rfl)) (ah (br (bK (a9 (aj Gund hr rfl mund kund bund .nil aD (aa (pv 2) (aa (aj Grsum hr rfl mrsum krsum brsum .nil aD (aa (pv 0) (aa ae (aa (pv 1) (aa (pv 4) ac))))) ac))))) (ah (aB (pv 4))) aK)))
  (ah (aB (aQ (aa ae (aa ae ac)))))),?_⟩
 have lz:zs.length=M+1:=by rw[row.len,jA]
 refine⟨_,rfl,l,rfl,⟨zs,SqL.of hl⟩,?_⟩
 refine eU (xs:=zs) (λ i σ H'=>ak H H'/\(∃ v,σ = [some (.int n),some (.int k),some (.ref m),some (.ref l),v])/\∀ u,u<i->dH n 0 k mo M u=false) ⟨ak.refl H,⟨none,rfl⟩,λ u a=>by omega⟩ ?_ ?_ ?_
 ·rintro i σ H' hi ⟨sm,_⟩
  exact SqL.of (sm _ _ hl)
 ·rintro i x σ H' hx ⟨sm,⟨v,rfl⟩,no⟩
  have hi:i<=M:=by have:=(List.getElem?_eq_some_iff.mp hx).1;omega
  obtain⟨a,e1,e2⟩:=(row.keep sm).get (mw hi)
  rw[hx] at e1
  cases e1
  refine⟨_,rfl,_,rfl,_,rfl,_,rfl,n,0,k,a,_,rfl,e2,hn,Nat.zero_le _,hk,λ w1 H2 s2 hw=>?_⟩
  have fw:=sI e2 hn hw
  refine⟨m,w1,_,_,rfl,(fm.keep sm).keep s2,fw,_,rfl,?_⟩
  by_cases c:mo<dg (stp M i) n 0 k
  ·rw[decide_eq_true c]
   refine aW ⟨sm.trans s2,⟨_,rfl⟩,λ u h1=>?_⟩
   by_cases z:u=i
   ·subst z
    exact decide_eq_false (by grind)
   ·exact no u (by omega)
  ·rw[decide_eq_false c]
   refine bD ⟨_,rfl,q a _ (sm.trans s2) ?_⟩
   have g:fF (dH n 0 k mo M) (M+1)=some i:=pi (by omega) (decide_eq_true (by grind)) no
   unfold bI
   rw[g]
   exact e2.keep s2
 ·rintro σ H' ⟨sm,⟨v,rfl⟩,no⟩
  refine⟨(by show 2<=sizeLine;decide),λ p hp=>q p _ (sm.trans (ai hp _)) ?_⟩
  have g:fF (dH n 0 k mo M) (M+1)=none:=kj λ u hu=>no u (by omega)
  unfold bI
  rw[g]
  exact BR ad
def bW (n:Nat) (mo:Rat) (M:Nat):List (Rat×Rat):=(List.range (n+1)).map λ k=>(cz n k mo M,bI n k mo M)
theorem xI {n k M:Nat}{mo:Rat} (h:k<=n):(bW n mo M)[k]? = some (cz n k mo M,bI n k mo M):=by
 unfold bW
 rw[List.getElem?_map,List.getElem?_range (by omega)]
 rfl
theorem cZ (n:Nat) (mo:Rat) (M:Nat):(bW n mo M).length=n+1:=by unfold bW;simp
structure sZ (H:Hp) (x:Addr) (n:Nat) (ps:List (Rat×Rat)):Prop where
 ob:∃ t zs,H x=some (.tup [.int n,.ref t])/\H t=some (.tup zs)/\cK H ps zs
theorem sZ.keep {H H':Hp}{x:Addr}{n:Nat}{ps:List (Rat×Rat)} (h:sZ H x n ps) (s:ak H H'):sZ H' x n ps:=by
 obtain⟨t,zs,a,b,c⟩:=h.ob
 exact⟨⟨t,zs,s _ _ a,s _ _ b,c.keep s⟩⟩
theorem xP {H:Hp}{a:Addr}{M t:Nat} (hM:1<=M) (h60:M<=60) (ht:t<=M) (e:H a=some (.tup [.int (stp M t).num,.int ((stp M t).den:Int)])):Shp H a (stp M t):=by
 have hb:(0:Int)<(M:Int):=by omega
 have bq:(0:Rat)<((M:Int):Rat):=by exact_mod_cast hb
 have er:=fy (t:=(t:Int)) hb
 have t0:(0:Rat)<=((t:Int):Rat):=by exact_mod_cast (show (0:Int)<=(t:Int) by omega)
 have t1:((t:Int):Rat)<=((M:Int):Rat):=by exact_mod_cast (show (t:Int)<=(M:Int) by omega)
 refine⟨e,?_,?_,?_⟩
 ·exact bE bq (x:=stp M t) (by unfold stp;grind)
 ·have:=bE bq (x:=1-stp M t) (by unfold stp;grind)
  grind
 ·unfold stp
  exact p8 (by omega) (by omega) hb (zy (by omega))
def rd:Sp:=λ vs H Q _=>∃ (n s0 s1 M:Nat) (a:Addr),vs = [.int n,.ref a,.int M]/\H a=some (.tup [.int s0,.int s1])/\s0<=s1/\1<=s1/\s1<=1000000000000000000000000000000/\n<=12/\1<=M/\M<=60/\∀ x H',ak H H'->sZ H' x n (bW n (cH s0 s1) M)->Q (.ref x) H'
theorem B8 {n:Nat} (h:n<=70):n<sizeLine:=Nat.lt_of_le_of_lt h (by decide)
theorem jM:aA ["n","share","measure","most","steps"] ["n","share","measure"] (ag gf):=⟨rfl,rfl,rfl,by decide +kernel,rfl,by decide +kernel,by decide +kernel⟩
theorem wm {C:CA}{f:Addr}{fd:FuncData} (F:Fun K "tails" "tails" gf f fd) (T:Txt mg) {fhalf:Addr}{dhalf:FuncData} (Ghalf:ax P w K mg base CX0 5 fhalf dhalf ["share"] vq) (bhalf:aE K dhalf ["share"] []) (khalf:PySem.W.keepIn K (.ref fhalf)=true) (mhalf:mg "half_of_what_is_left" = some (.ref fhalf)) {ffrac:Addr}{dfrac:FuncData} (Gfrac:ax P w K mg base (CXX P w) 5 ffrac dfrac ["top","bottom"] (fJ C)) (bfrac:aE K dfrac ["top","bottom"] []) (kfrac:PySem.W.keepIn K (.ref ffrac)=true) (mfrac:mg "fraction" = some (.ref ffrac)) {ftlow:Addr}{dtlow:FuncData} (Gtlow:ax P w K mg base CX0 5 ftlow dtlow ["n","k","most","steps"] vg) (btlow:aE K dtlow ["n","k","most","steps"] []) (ktlow:PySem.W.keepIn K (.ref ftlow)=true) (mtlow:mg "tails_low" = some (.ref ftlow)) {fthigh:Addr}{dthigh:FuncData} (Gthigh:ax P w K mg base CX0 5 fthigh dthigh ["n","k","most","steps"] rc) (bthigh:aE K dthigh ["n","k","most","steps"] []) (kthigh:PySem.W.keepIn K (.ref fthigh)=true) (mthigh:mg "tails_high" = some (.ref fthigh)):ax P w K mg base CX0 6 f fd ["n","share","measure"] rd:=by
 refine F.ok jM (λ vs H Q E h=>?_) (λ cdv A outer s H vs Q E hr h=>?_)
 ·obtain⟨n,s0,s1,M,a,rfl,_⟩:=h
  rfl
 obtain⟨n,s0,s1,M,a,rfl,ha,h01,h1,h2,hn,hM,h60,q⟩:=h
 refine⟨_,(af (au (i:=3) jM.nd rfl (Or.inr rfl) (aj Ghalf hr rfl mhalf khalf bhalf .nil aD (aa (pv 1) ac)))
  (af (au (i:=4) jM.nd rfl (Or.inr rfl) (fe (ts:=[("measure",2)]) rfl ⟨rfl,pU rfl,rfl,rfl,rfl,rfl,by decide +kernel,rfl,rfl⟩ (aZ rfl T.range (aa (ar aV (pv 2) ae) ac)) (λ C s3 H3 fp=>(aj Gfrac hr rfl mfrac kfrac bfrac .nil jZ (aa (pv 0) (aa (pv 1) ac))))))
  (ah (aB (aQ (aa (pv 0) (aa (iV gG rfl T.tuple boot_tuple (aa (fe (ts:=[("n",0),("most",3),("steps",4)]) rfl ⟨rfl,BN rfl rfl rfl,rfl,rfl,rfl,rfl,by decide +kernel,rfl,rfl⟩ (aZ rfl T.range (aa (ar aV (pv 0) ae) ac)) (λ C s3 H3 fp=>(aQ (aa (aj Gtlow hr rfl mtlow ktlow btlow .nil aD (aa (pv 1) (aa (pv 0) (aa (pv 2) (aa (pv 3) ac))))) (aa (aj Gthigh hr rfl mthigh kthigh bthigh .nil aD (aa (pv 1) (aa (pv 0) (aa (pv 2) (aa (pv 3) ac))))) ac))))) ac)) ac))))))),?_⟩
 refine⟨_,rfl,a,s0,s1,rfl,ha,h1,h2,λ m H1 t1 hm=>?_⟩
 have fm:=xb (H:=H1) (f:=m) h01 h1 h2 hm
 have eM:((M:Int)+1).toNat=M+1:=by omega
 have en:((n:Int)+1).toNat=n+1:=by omega
 have hb:(0:Int)<(M:Int):=by omega
 refine⟨_,rfl,_,_,rfl,rfl,_,rfl,by omega,by omega,λ D hD=>?_⟩
 rw[eM]
 refine fV (λ i ys H'=>ShL H' ((pV M).take i) ys) hD (Nat.le_of_lt (B8 (show M+1<=70 by omega))) rfl ?_ ?_
 ·rintro i ys H2 kk hi sm e r hk
  rw[show (0:Int)+(i:Int)=(i:Int) from Int.zero_add _]
  refine⟨_,rfl,_,rfl,?_⟩
  refine dL (Int.ne_of_gt hb) ((zy (show ((M:Int)).natAbs<=_ by omega)).smk (by decide)) (fI (r:=stp M i) (ef (Int.ne_of_gt hb) (fy hb)) λ p H3 s3 hp=>hk _ _ s3 ?_)
  rw[List.take_add_one,mw (by omega)]
  exact ((r.keep s3).app (show ShL H3 [_] [.ref p] from ⟨p,[],rfl,xP hM h60 (by omega) hp,rfl⟩)).write (s3 _ _ e)
 rintro zs H2 s2 hD2 lz r
 rw[List.take_of_length_le (by rw[jA];omega)] at r
 have fm2:=fm.keep s2
 refine⟨_,rfl,_,rfl,_,_,rfl,rfl,_,rfl,by omega,by omega,λ D2 hD2'=>?_⟩
 rw[en]
 refine fV (λ i ys H'=>cK H' ((bW n (cH s0 s1) M).take i) ys) hD2' (Nat.le_of_lt (B8 (show n+1<=70 by omega))) rfl ?_ ?_
 ·rintro i ys H3 kk hi sm e rr hk
  rw[show (0:Int)+(i:Int)=(i:Int) from Int.zero_add _]
  refine⟨_,rfl,_,rfl,_,rfl,_,rfl,n,i,M,m,D,_,zs,rfl,fm2.keep sm,sm _ _ hD2,r.keep sm,hn,by omega,h60,λ x1 H4 s4 sx=>?_⟩
  have s34:=sm.trans s4
  refine⟨_,rfl,_,rfl,_,rfl,_,rfl,n,i,M,m,D,_,zs,rfl,fm2.keep s34,s34 _ _ hD2,r.keep s34,hn,by omega,h60,λ x2 H5 s5 sy=>?_⟩
  refine⟨(by show 2<=sizeLine;decide),λ p hp=>?_⟩
  have s6:=ai hp (.tup [V.ref x1,V.ref x2])
  have s46:=(s4.trans s5).trans s6
  refine hk _ _ s46 ?_
  rw[List.take_add_one,xI (by omega)]
  exact ((rr.keep s46).app (show cK _ [_] [.ref p] from ⟨p,x1,x2,[],rfl,ad,(sx.keep s5).keep s6,sy.keep s6,rfl⟩)).write (s46 _ _ e)
 rintro ws H3 s3 hD3 lw rr
 rw[List.take_of_length_le (by rw[cZ];omega)] at rr
 refine⟨D2,ws,rfl,.inl ⟨SqL.of hD3,λ t ht=>?_⟩⟩
 have s4:=ai ht (.tup ws)
 have t4:(upd H3 t (.tup ws)) t=some (.tup ws):=ad
 refine⟨(by show 2<=sizeLine;decide),λ x hx=>?_⟩
 have s5:=ai hx (.tup [V.int n,V.ref t])
 exact q x _ (((t1.trans s2).trans s3).trans (s4.trans s5)) ⟨⟨t,ws,ad,s5 _ _ t4,(rr.keep s4).keep s5⟩⟩
theorem yI {s0 s1:Nat} (h0:1<=s0) (h1:s0<=s1):cH s0 s1<1/\0<=cH s0 s1:=by
 have b2:(0:Int)<2*(s1:Int):=by omega
 have e2:=fy (t:=((s1:Int)-(s0:Int))) b2
 have q2:(0:Rat)<((2*(s1:Int):Int):Rat):=by exact_mod_cast b2
 have lt:(((s1:Int)-(s0:Int):Int):Rat)<((2*(s1:Int):Int):Rat):=by exact_mod_cast (show (s1:Int)-(s0:Int)<2*(s1:Int) by omega)
 have ge:(0:Rat)<=(((s1:Int)-(s0:Int):Int):Rat):=by exact_mod_cast (show (0:Int)<=(s1:Int)-(s0:Int) by omega)
 have e3:cH s0 s1*((2*(s1:Int):Int):Rat)=(((s1:Int)-(s0:Int):Int):Rat):=e2
 constructor
 ·by_cases c:cH s0 s1<1
  ·exact c
  ·have:=Rat.mul_nonneg (show 0<=((2*(s1:Int):Int):Rat) by grind) (show 0<=cH s0 s1-1 by grind)
   grind
 ·exact bE q2 (x:=cH s0 s1) (by grind)
theorem zz {M:Nat} (h:1<=M):stp M 0=0:=by
 have hb:(0:Int)<(M:Int):=by omega
 have bq:(0:Rat)<((M:Int):Rat):=by exact_mod_cast hb
 have e:=fy (t:=((0:Nat):Int)) hb
 have z:(((0:Nat):Int):Rat)=0:=rfl
 unfold stp
 rw[z] at e
 grind
theorem Bc {n k M:Nat}{mo:Rat} (h1:mo<1) (h0:0<=mo) (hk:k<=n) (hM:1<=M):∃ t,t<=M/\cz n k mo M=stp M t/\((dH n k n mo M t=true/\(t=M∨dH n k n mo M (t+1)=false))∨(dH n k n mo M t=false/\k=0/\t=0)):=by
 unfold cz
 cases g:grt (dH n k n mo M) (M+1) with
 | some t =>
  obtain⟨a1,a2,a3⟩:=qv g
  refine⟨t,by omega,rfl,.inl ⟨a2,?_⟩⟩
  by_cases z:t=M
  ·exact .inl z
  ·exact .inr (a3 (t+1) (by omega) (by omega))
 | none =>
  have no:=qt g 0 (by omega)
  refine⟨0,by omega,(zz hM).symm,.inr ⟨no,?_,rfl⟩⟩
  by_cases z:k=0
  ·exact z
  ·exfalso
   have e:dg (stp M 0) n k n=0:=by
    rw[zz hM,dY hk]
    unfold rn
    obtain⟨k',rfl⟩:∃ k',k=k'+1:=⟨k-1,by omega⟩
    rw[kz,kz]
    grind
   have:dH n k n mo M 0=true:=decide_eq_true (by rw[e];exact h0)
   rw[this] at no
   cases no
theorem lP {p:Rat}{n k:Nat} (h:k<=n):dg p n k n=1-cu p n k:=by
 rw[dY h]
 unfold rn
 rw[cI p (show n<n+1 by omega)]
theorem BT {p:Rat}{n k:Nat}:dg p n 0 k=cu p n (k+1):=by
 rw[dY (Nat.zero_le k)]
 unfold rn
 rw[cb]
 grind
theorem vc {M t:Nat} (hM:1<=M) (ht:t<=M):0<=stp M t/\stp M t<=1:=by
 have hb:(0:Int)<(M:Int):=by omega
 have bq:(0:Rat)<((M:Int):Rat):=by exact_mod_cast hb
 have er:=fy (t:=(t:Int)) hb
 have t0:(0:Rat)<=((t:Int):Rat):=by exact_mod_cast (show (0:Int)<=(t:Int) by omega)
 have t1:((t:Int):Rat)<=((M:Int):Rat):=by exact_mod_cast (show (t:Int)<=(M:Int) by omega)
 constructor
 ·exact bE bq (x:=stp M t) (by unfold stp;grind)
 ·have:=bE bq (x:=1-stp M t) (by unfold stp;grind)
  grind
theorem Ao {M t u:Nat} (hM:1<=M) (h:t<=u):stp M t<=stp M u:=by
 have hb:(0:Int)<(M:Int):=by omega
 have bq:(0:Rat)<((M:Int):Rat):=by exact_mod_cast hb
 have e1:=fy (t:=(t:Int)) hb
 have e2:=fy (t:=(u:Int)) hb
 have t1:((t:Int):Rat)<=((u:Int):Rat):=by exact_mod_cast (show (t:Int)<=(u:Int) by omega)
 have:=bE bq (x:=stp M u-stp M t) (by unfold stp;grind)
 grind
theorem q0 {M t:Nat} (hM:1<=M) (ht:t<=M):stp M (M-t)=1-stp M t:=by
 have hb:(0:Int)<(M:Int):=by omega
 have bq:(0:Rat)<((M:Int):Rat):=by exact_mod_cast hb
 have n1:((M:Int):Rat)≠0:=by grind
 unfold stp rq
 rw[Int.natCast_sub ht,Rat.intCast_sub]
 grind
structure TR (mo:Rat) (M n:Nat):Prop where
 m0:0<=mo
 m1:2*mo<1
 M1:1<=M
theorem TR.lo0 {mo:Rat}{M n:Nat} (h:TR mo M n):cz n 0 mo M=0:=by
 unfold cz
 have:grt (dH n 0 n mo M) (M+1)=none:=ib λ u hu=>by
  refine decide_eq_false ?_
  rw[lP (Nat.zero_le n),cb]
  have:=h.m1
  have:=h.m0
  grind
 rw[this]
theorem TR.lo {mo:Rat}{M n k:Nat} (h:TR mo M n) (h1:1<=k) (hk:k<=n):∃ t,t<=M/\cz n k mo M=stp M t/\dg (stp M t) n k n<=mo/\∀ u,u<=M->dg (stp M u) n k n<=mo->u<=t:=by
 obtain⟨t,a1,a2,a3⟩:=Bc (n:=n) (k:=k) (M:=M) (mo:=mo) (by have:=h.m1;have:=h.m0;grind) h.m0 hk h.M1
 rcases a3 with ⟨b1,_⟩ | ⟨_,b2,_⟩
 ·refine⟨t,a1,a2,of_decide_eq_true b1,λ u hu hr=>?_⟩
  unfold cz at a2
  cases g:grt (dH n k n mo M) (M+1) with
  | none=>exact absurd (show dH n k n mo M t=true from b1) (by rw[qt g t (by omega)];simp)
  | some t' =>
   rw[g] at a2
   obtain⟨c1,c2,c3⟩:=qv g
   have ut:u<=t':=by
    by_cases z:u<=t'
    ·exact z
    ·have:=c3 u (by omega) (by omega)
     rw[show dH n k n mo M u=true from decide_eq_true hr] at this
     cases this
   by_cases z:u<=t
   ·exact z
   ·exfalso
    have e:stp M t'=stp M t:=a2
    have hb:(0:Int)<(M:Int):=by have:=h.M1;omega
    have e1:=fy (t:=(t:Int)) hb
    have e2:=fy (t:=(t':Int)) hb
    have e3:rq (t':Int) (M:Int)=rq (t:Int) (M:Int):=e
    rw[e3,e1] at e2
    have:(t:Int)=(t':Int):=by exact_mod_cast e2
    omega
 ·omega
theorem TR.lmax {mo:Rat}{M n k:Nat} (h:TR mo M n) (hk:k<=n) {u:Nat} (hu:u<=M) (hr:dg (stp M u) n k n<=mo):stp M u<=cz n k mo M:=by
 by_cases z:k=0
 ·subst z
  exfalso
  rw[lP (Nat.zero_le n),cb] at hr
  have:=h.m1
  have:=h.m0
  grind
 ·obtain⟨t,a1,a2,a3,a4⟩:=h.lo (by omega) hk
  rw[a2]
  exact Ao h.M1 (a4 u hu hr)
theorem TR.lo_in {mo:Rat}{M n k:Nat} (h:TR mo M n) (hk:k<=n):0<=cz n k mo M/\cz n k mo M<=1:=by
 by_cases z:k=0
 ·subst z;rw[h.lo0];constructor<;>decide
 ·obtain⟨t,a1,a2,_⟩:=h.lo (by omega) hk
  rw[a2]
  exact vc h.M1 a1
theorem na {n k M t:Nat}{mo:Rat} (hM:1<=M) (hk:k<=n) (ht:t<=M):dH n 0 k mo M t=dH n (n-k) n mo M (M-t):=by
 unfold dH
 have e:=jb (stp M t) (n:=n) (i:=0) (j:=k) (Nat.zero_le n) hk (Nat.zero_le k)
 rw[Nat.sub_zero] at e
 rw[q0 hM ht,e]
theorem fT {n k M:Nat}{mo:Rat} (hM:1<=M) (hk:k<=n):bI n k mo M=1-cz n (n-k) mo M:=by
 unfold bI cz
 cases g:fF (dH n 0 k mo M) (M+1) with
 | none =>
  have:grt (dH n (n-k) n mo M) (M+1)=none:=ib λ u hu=>by
   have:=wW g (M-u) (by omega)
   rw[na hM hk (by omega),show M-(M-u)=u by omega] at this
   exact this
  rw[this]
  show (1:Rat)=1-0
  grind
 | some t =>
  obtain⟨a1,a2,a3⟩:=wX g
  have:grt (dH n (n-k) n mo M) (M+1)=some (M-t):=by
   refine ki (by omega) ?_ λ u h1 h2=>?_
   ·rw[<-na hM hk (by omega)];exact a2
   ·have:=a3 (M-u) (by omega)
    rw[na hM hk (by omega),show M-(M-u)=u by omega] at this
    exact this
  rw[this]
  show stp M t=1-stp M (M-t)
  rw[q0 hM (by omega)]
  grind
theorem TR.hin {mo:Rat}{M n:Nat} (h:TR mo M n):bI n n mo M=1:=by
 rw[fT h.M1 (Nat.le_refl n),Nat.sub_self,h.lo0]
 grind
theorem TR.hi {mo:Rat}{M n k:Nat} (h:TR mo M n) (hk:k<n):cu (bI n k mo M) n (k+1)<=mo:=by
 obtain⟨t,a1,a2,a3,_⟩:=h.lo (show 1<=n-k by omega) (by omega)
 rw[fT h.M1 (by omega),a2]
 have e:=jb (1-stp M t) (n:=n) (i:=0) (j:=k) (Nat.zero_le n) (by omega) (Nat.zero_le k)
 rw[Nat.sub_zero,show (1:Rat)-(1-stp M t)=stp M t by grind] at e
 rw[<-BT,<-e]
 exact a3
theorem TR.hi_in {mo:Rat}{M n k:Nat} (h:TR mo M n) (hk:k<=n):0<=bI n k mo M/\bI n k mo M<=1:=by
 have:=h.lo_in (show n-k<=n by omega)
 rw[fT h.M1 hk]
 grind
theorem TR.lo_up {mo:Rat}{M n k:Nat} (h:TR mo M n) (hk:k+1<=n):cz n k mo M<=cz n (k+1) mo M:=by
 by_cases z:k=0
 ·subst z;rw[h.lo0];exact (h.lo_in hk).1
 ·obtain⟨t,a1,a2,a3,_⟩:=h.lo (by omega) (show k<=n by omega)
  rw[a2]
  refine h.lmax hk a1 ?_
  have s:=vc h.M1 a1
  rw[lP (by omega)] at a3
  rw[lP hk]
  have:=cY s.1 s.2 n (show k<=k+1 by omega)
  grind
theorem TR.hi_up {mo:Rat}{M n k:Nat} (h:TR mo M n) (hk:k+1<=n):bI n k mo M<=bI n (k+1) mo M:=by
 have a:=h.lo_up (show (n-(k+1))+1<=n by omega)
 rw[fT h.M1 (by omega),fT h.M1 hk]
 rw[show n-(k+1)+1=n-k by omega] at a
 grind
theorem TR.lo_hi {mo:Rat}{M n k:Nat} (h:TR mo M n) (hk:k<=n):cz n k mo M<=bI n k mo M:=by
 by_cases z:k=0
 ·subst z;rw[h.lo0];exact (h.hi_in hk).1
 ·by_cases y:k=n
  ·subst y;rw[h.hin];exact (h.lo_in hk).2
  ·by_cases c:cz n k mo M<=bI n k mo M
   ·exact c
   ·exfalso
    obtain⟨t,a1,a2,a3,_⟩:=h.lo (by omega) hk
    have b:=h.hi (show k<n by omega)
    have hh:=h.hi_in hk
    have ll:=h.lo_in hk
    rw[lP hk,<-a2] at a3
    have d:=fj hh.1 (show bI n k mo M<=cz n k mo M by grind) ll.2 n k
    have e:=cY hh.1 hh.2 n (show k<=k+1 by omega)
    have:=h.m1
    grind
theorem TR.rule {mo:Rat}{M n:Nat} (h:TR mo M n) (n1:1<=n) (n12:n<=12):di n (bW n mo M) where
 n1:=n1
 n12:=n12
 len:=cZ n mo M
 lows:=by
  unfold bW
  rw[List.map_map]
  exact oa λ k hk=>h.lo_up hk
 highs:=by
  unfold bW
  rw[List.map_map]
  exact oa λ k hk=>h.hi_up hk
 le:=λ p hp=>by
  unfold bW at hp
  obtain⟨k,hk,rfl⟩:=List.mem_map.mp hp
  have:=List.mem_range.mp hk
  exact h.lo_hi (by omega)
theorem TR.covL {mo:Rat}{M n:Nat} (h:TR mo M n) {p:Rat} (h0:0<=p) (h1:p<=1) {L U:Nat} (hL:L=0∨(L<=n/\bI n (L-1) mo M<=p)) (hU:U=n+1∨(1<=U/\U<=n/\p<=cz n U mo M)):1-2*mo<=rn p n L (max L U):=by
 have a:cu p n L<=mo:=by
  rcases hL with z | ⟨z1,z2⟩
  ·subst z;rw[cb];exact h.m0
  ·by_cases y:L=0
   ·subst y;rw[cb];exact h.m0
   ·have b:=h.hi (show L-1<n by omega)
    rw[show L-1+1=L by omega] at b
    have:=fj (h.hi_in (show L-1<=n by omega)).1 z2 h1 n L
    grind
 have b:1-cu p n U<=mo:=by
  rcases hU with z | ⟨z1,z2,z3⟩
  ·subst z;rw[cI p (by omega)];have:=h.m0;grind
  ·obtain⟨t,a1,a2,a3,_⟩:=h.lo z1 z2
   rw[lP z2,<-a2] at a3
   have:=fj h0 z3 (h.lo_in z2).2 n U
   grind
 have m1:=h.m1
 by_cases c:U<=L
 ·exfalso
  have:=cY h0 h1 n c
  grind
 ·rw[Nat.max_eq_right (by omega)]
  unfold rn
  grind
theorem Bb (n:Nat) (mo:Rat) (M:Nat):bj (bW n mo M)=(List.range (n+1)).map λ k=>cz n k mo M:=by
 unfold bj bW
 rw[List.map_map]
 rfl
theorem yS (n:Nat) (mo:Rat) (M:Nat):bw (bW n mo M)=(List.range (n+1)).map λ k=>bI n k mo M:=by
 unfold bw bW
 rw[List.map_map]
 rfl
theorem mT {f:Nat->Rat}{m k:Nat} (h:k<m):((List.range m).map f)[k]? = some (f k):=by
 rw[List.getElem?_map,List.getElem?_range h]
 rfl
theorem TR.covAt {mo:Rat}{M n:Nat} (h:TR mo M n) (n1:1<=n) (n12:n<=12) {a b p:Rat} (h0:0<=p) (h1:p<=1) (a0:0<=a) (b1:b<=1)
  (hh:∀ x∈bw (bW n mo M),x<b->x<=p) (hl:∀ x∈bj (bW n mo M),a<x->p<=x):1-2*mo<=cov n (bj (bW n mo M)) (bw (bW n mo M)) a b p:=by
 have ok:=h.rule n1 n12
 have uh:Up (bw (bW n mo M)):=ok.highs
 have ul:Up (bj (bW n mo M)):=ok.lows
 unfold cov
 rw[yS] at hh uh ⊢
 rw[Bb] at hl ul ⊢
 refine h.covL h0 h1 ?_ ?_
 ·by_cases z:aF b ((List.range (n+1)).map λ k=>bI n k mo M)=0
  ·exact .inl z
  ·have lt:=eR (p:=b) uh (mT (f:=λ k=>bI n k mo M) (show n<n+1 by omega))
   rw[h.hin] at lt
   have ln:aF b ((List.range (n+1)).map λ k=>bI n k mo M)<=n:=by
    by_cases y:n<aF b ((List.range (n+1)).map λ k=>bI n k mo M)
    ·have:=lt.mp y
     grind
    ·omega
   refine .inr ⟨ln,?_⟩
   generalize hL:aF b ((List.range (n+1)).map λ k=>bI n k mo M)=L at *
   have e:=mT (f:=λ k=>bI n k mo M) (show L-1<n+1 by omega)
   have:=(eR (p:=b) uh e).mp (by rw[hL];omega)
   exact hh _ (List.mem_of_getElem? e) this
 ·have e0:=mT (f:=λ k=>cz n k mo M) (show 0<n+1 by omega)
  rw[h.lo0] at e0
  have l0:=(eC (p:=a) ul e0).mpr a0
  have len:=dC a ((List.range (n+1)).map λ k=>cz n k mo M)
  rw[List.length_map,List.length_range] at len
  by_cases z:aR a ((List.range (n+1)).map λ k=>cz n k mo M)=n+1
  ·exact .inl z
  ·refine .inr ⟨l0,by omega,?_⟩
   generalize hU:aR a ((List.range (n+1)).map λ k=>cz n k mo M)=U at *
   have e:=mT (f:=λ k=>cz n k mo M) (show U<n+1 by omega)
   have no:¬ cz n U mo M<=a:=λ y=>by
    have:=(eC (p:=a) ul e).mpr y
    omega
   exact hl _ (List.mem_of_getElem? e) (by grind)
theorem TR.best {mo:Rat}{M n:Nat} (h:TR mo M n) (n1:1<=n) (n12:n<=12) {c:Cd} (hc:cN n (ci (bW n mo M))=some c):1-2*mo<=c.1:=by
 obtain⟨k,a,b,ea,eb,cs⟩:=sX hc
 obtain⟨i1,i2⟩:=eA (aU (bW n mo M))
 obtain⟨ab,gl,gh⟩:=o0 ea eb
 have pin:∀ x∈aU (bW n mo M),0<=x/\x<=1:=by
  intro x hx
  unfold aU at hx
  simp only[List.mem_append,List.mem_cons,List.not_mem_nil,or_false,List.mem_flatMap] at hx
  rcases hx with z | z | ⟨p,hp,z⟩
  ·rw[z];constructor<;>decide
  ·rw[z];constructor<;>decide
  ·unfold bW at hp
   obtain⟨k,hk,rfl⟩:=List.mem_map.mp hp
   have kn:=List.mem_range.mp hk
   rcases z with z | z
   ·rw[z];exact h.lo_in (by omega)
   ·rw[z];exact h.hi_in (by omega)
 have a01:=pin a ((i2 a).mp (List.mem_of_getElem? ea))
 have b01:=pin b ((i2 b).mp (List.mem_of_getElem? eb))
 rcases cs with z | z
 ·rw[z]
  show 1-2*mo<=bz a n (bn (bW n mo M) a b)
  rw[d7]
  refine h.covAt n1 n12 a01.1 a01.2 a01.1 b01.2 (λ x hx lt=>?_) (λ x hx lt=>by grind)
  have:=gh x hx
  grind
 ·rw[z]
  show 1-2*mo<=bz b n (bn (bW n mo M) a b)
  rw[d7]
  refine h.covAt n1 n12 b01.1 b01.2 a01.1 b01.2 (λ x hx lt=>by grind) (λ x hx lt=>?_)
  have:=gl x hx
  grind
theorem TR.at {mo:Rat}{M n:Nat} (h:TR mo M n) (n1:1<=n) (n12:n<=12) {p:Rat} (h0:0<=p) (h1:p<=1):1-2*mo<=bz p n (bn (bW n mo M) p p):=by
 rw[d7]
 exact h.covAt n1 n12 h0 h1 h0 h1 (λ x _ lt=>by grind) (λ x _ lt=>by grind)
structure LHm (m:Int) (n:Nat) (ls hs:List Int):Prop where
 l1:ls.length=n+1
 l2:hs.length=n+1
 b1:∀ k,k<=n->0<=ls.getD k 0/\ls.getD k 0<=m
 b2:∀ k,k<=n->0<=hs.getD k 0/\hs.getD k 0<=m
 u1:∀ k,k<n->ls.getD k 0<=ls.getD (k+1) 0
 u2:∀ k,k<n->hs.getD k 0<=hs.getD (k+1) 0
 le:∀ k,k<=n->ls.getD k 0<=hs.getD k 0
theorem rY {ms ns:List Int}{m:Int} (p:ms.Perm ns) (h:∀ x∈ns,0<=x/\x<=m):∀ x∈ms,0<=x/\x<=m:=λ x hx=>h x (p.subset hx)
theorem mX {l:List Int} (h:l.Pairwise (·<=·)) {k:Nat} (hk:k+1<l.length):l.getD k 0<=l.getD (k+1) 0:=by
 rw[ig (show k<l.length by omega),ig hk]
 exact List.pairwise_iff_getElem.mp h k (k+1) _ hk (by omega)
def mxL (n:Nat) (ls hs:List Int):List Int:=(List.range (n+1)).map λ k=>if hs.getD k 0>ls.getD k 0 then hs.getD k 0 else ls.getD k 0
theorem ka {n:Nat}{ls hs:List Int}{k:Nat} (h:k<=n):(mxL n ls hs).getD k 0=if hs.getD k 0>ls.getD k 0 then hs.getD k 0 else ls.getD k 0:=by
 unfold mxL
 simp [List.getD,show k<n+1 by omega]
theorem B5 {m:Int}{n:Nat}{ls hs:List Int} (l1:ls.length=n+1) (l2:hs.length=n+1) (b1:∀ x∈ls,0<=x/\x<=m) (b2:∀ x∈hs,0<=x/\x<=m) (p1:ls.Pairwise (·<=·)) (p2:hs.Pairwise (·<=·)):LHm m n ls (mxL n ls hs):=by
 have c1:∀ k,k<=n->0<=ls.getD k 0/\ls.getD k 0<=m:=λ k hk=>b1 _ (ie (by omega))
 have c2:∀ k,k<=n->0<=hs.getD k 0/\hs.getD k 0<=m:=λ k hk=>b2 _ (ie (by omega))
 refine⟨l1,by simp [mxL],c1,λ k hk=>?_,λ k hk=>mX p1 (by omega),λ k hk=>?_,λ k hk=>?_⟩
 ·rw[ka hk]
  have:=c1 k hk
  have:=c2 k hk
  split<;>omega
 ·rw[ka (show k<=n by omega),ka (show k+1<=n by omega)]
  have:=mX p1 (k:=k) (by omega)
  have:=mX p2 (k:=k) (by omega)
  split<;>split<;>omega
 ·rw[ka hk]
  split<;>omega
def zsL (ls hs:List Int) (m:Nat):List (Int×Int):=(List.range m).map λ k=>(ls.getD k 0,hs.getD k 0)
theorem uQ (ls hs:List Int) (m:Nat):zsL ls hs (m+1)=zsL ls hs m++[(ls.getD m 0,hs.getD m 0)]:=by unfold zsL;rw[List.range_succ,List.map_append]<;>rfl
theorem dB {l:List (Int×Int)}{j k:Nat}{v:Int×Int} (hj:j<l.length):(l.set j v).getD k (0,0)=if k=j then v else l.getD k (0,0):=by
 simp only[List.getD,List.getElem?_set]
 by_cases c:j=k
 ·subst c;simp [hj]
 ·rw[if_neg c,if_neg (Ne.symm c)]
theorem qP {ls hs:List Int}{m i:Nat} (h:i<m):(zsL ls hs m).getD i (0,0)=(ls.getD i 0,hs.getD i 0):=by simp [zsL,List.getD,h]
theorem qO (ls hs:List Int) (m:Nat):(zsL ls hs m).length=m:=by simp [zsL]
theorem yK {U:Int}{n:Nat}{ls hs:List Int} (h:LHm U n ls hs):IsZ U (zsL ls hs (n+1)):=λ i hi=>by
 rw[qO] at hi
 rw[qP hi]
 refine⟨⟨(h.b1 i (by omega)).1,h.le i (by omega),(h.b2 i (by omega)).2⟩,λ j hj=>?_⟩
 rw[qP (show j<n+1 by omega),<-hj]
 exact⟨h.u1 j (by omega),h.u2 j (by omega)⟩
theorem sC {U:Int}{zs:List (Int×Int)}{k:Nat}{p:Int×Int} (h:IsZ U zs) (hk:k<zs.length) (h1:0<=p.1/\p.1<=p.2/\p.2<=U) (h2:∀ j,j+1=k->(zs.getD j (0,0)).1<=p.1/\(zs.getD j (0,0)).2<=p.2) (h3:k+1<zs.length->p.1<=(zs.getD (k+1) (0,0)).1/\p.2<=(zs.getD (k+1) (0,0)).2):IsZ U (zs.set k p):=λ i hi=>by
 rw[List.length_set] at hi
 rw[dB hk]
 by_cases c:i=k
 ·rw[if_pos c]
  refine⟨h1,λ j hj=>?_⟩
  rw[dB hk,if_neg (by omega)]
  exact h2 j (by omega)
 ·rw[if_neg c]
  refine⟨(h i hi).1,λ j hj=>?_⟩
  rw[dB hk]
  by_cases d:j=k
  ·rw[if_pos d]
   have:=h3 (by omega)
   rw[<-d,hj] at this
   exact this
  ·rw[if_neg d]
   exact (h i hi).2 j hj
theorem sw {n k:Nat}{i:Int} (e:i=(k:Int)) (h:k<n):ixN n i=some k:=by
 unfold ixN
 subst e
 simp [h]
def eX (U:Int) (n:Nat):List (Int×Int):=List.replicate (n+1) (0,U)
theorem uS {U:Int}{n:Nat}{zs:List (Int×Int)} (lz:zs.length=n+1) (h:∀ j,j<=n->zs.getD j (0,0)=(0,U)):zs=eX U n:=by
 refine List.ext_getElem? λ i=>?_
 unfold eX
 by_cases c:i<n+1
 ·have:=h i (by omega)
  rw[List.getElem?_replicate,if_pos c,<-this]
  simp [List.getD,show i<zs.length by omega]
 ·rw[List.getElem?_eq_none (by omega),List.getElem?_eq_none (by simp;omega)]
def zJ (K:PySem.W.Frag):Sp:=λ vs H Q _=>∃ (a sa:Addr) (ns:List Int) (n:Nat) (U:Int) (s:Rat),vs = [.ref a,.int n,.int U,.ref sa]/\SqL K H a (ns.map V.int)/\1<=n/\n<=12/\0<U/\U<=1000/\FrA H sa s/\s<=bst n (Gc.shr U (eX U n)) /\
 ∀ l zs H',ak H H'->StA H' l zs->zs.length=n+1->IsR (Gc.shr U zs)->s<=bst n (Gc.shr U zs)->Q (.ref l) H'
theorem iF:aA ["_law_script","_law_n","_law_measure","_law_share","_law_lows","_law_highs","_law_steps_here","_law_k"] ["_law_script","_law_n","_law_measure","_law_share"] (ag lK):=⟨rfl,rfl,rfl,by decide +kernel,rfl,by decide +kernel,by decide +kernel⟩
theorem A4 {f:Addr}{fd:FuncData} (F:Fun K "_law_drawn" "_law_drawn" lK f fd) (T:Txt mg) {fcell:Addr}{dcell:FuncData} (Gcell:ax P w K mg base CX0 4 fcell dcell ["_law_script","_law_k"] (pY K)) (bcell:aE K dcell ["_law_script","_law_k"] []) (kcell:PySem.W.keepIn K (.ref fcell)=true) (mcell:mg "_law_cell_at" = some (.ref fcell)) {flis:Addr}{dlis:FuncData} (Glis:ax P w K mg base CX0 4 flis dlis ["_law_steps_here","_law_measure","_law_share"] rg) (blis:aE K dlis ["_law_steps_here","_law_measure","_law_share"] []) (klis:PySem.W.keepIn K (.ref flis)=true) (mlis:mg "_law_is_sure" = some (.ref flis)):ax P w K mg base CX0 5 f fd ["_law_script","_law_n","_law_measure","_law_share"] (zJ K):=by
 refine F.ok iF (λ vs H Q E h=>?_) (λ cdv A outer s H vs Q E hr h=>?_)
 ·obtain⟨a,sa,ns,n,U,sh,rfl,_⟩:=h
  rfl
 obtain⟨a,sa,ns,n,U,sh,rfl,hS,n1,n12,U0,U1,fa,whole,q⟩:=h
 refine⟨_,(af (au (i:=4) iF.nd rfl (Or.inr rfl) (aO iA rfl T.sorted fW (aa (fe (ts:=[("_law_script",0),("_law_measure",2)]) rfl ⟨rfl,xO rfl rfl,rfl,rfl,rfl,rfl,by decide +kernel,rfl,rfl⟩ (aZ rfl T.range (aa (ar aV (pv 1) ae) ac)) (λ C s3 H3 fp=>(ar cn (aj Gcell hr rfl mcell kcell bcell .nil aD (aa (pv 1) (aa (ar aV ae (pv 0)) ac))) (ar aV (pv 2) ae)))) ac)))
  (af (au (i:=5) iF.nd rfl (Or.inr rfl) (aO iA rfl T.sorted fW (aa (fe (ts:=[("_law_script",0),("_law_measure",2)]) rfl ⟨rfl,xO rfl rfl,rfl,rfl,rfl,rfl,by decide +kernel,rfl,rfl⟩ (aZ rfl T.range (aa (ar aV (pv 1) ae) ac)) (λ C s3 H3 fp=>(ar cn (aj Gcell hr rfl mcell kcell bcell .nil aD (aa (pv 1) (aa (ar aV ae (pv 0)) ac))) (ar aV (pv 2) ae)))) ac)))
  (af (jt (i:=6) iF.nd rfl (Or.inl rfl) (xs:=["_law_k"]) (ts:=[("_law_lows",4),("_law_highs",5)]) rfl ⟨rfl,xO rfl rfl,rfl,rfl,rfl,by decide +kernel,rfl,rfl⟩ (aZ rfl T.range (aa (ar aV (pv 1) ae) ac)) (λ C s3 H3 fp=>(az (i:=0) (show (["_law_k","_law_lows","_law_highs"]:List Str).Nodup by decide +kernel) rfl (Or.inl rfl) (Or.inr rfl))) (λ C s3 H3 fp=>fb) (λ C s3 H3 fp=>(aQ (aa (am dI (pv 1) (pv 0) (λ _ _=>rfl)) (aa (aO (uL rfl) rfl T.max boot_max (aa (am dI (pv 1) (pv 0) (λ _ _=>rfl)) (aa (am dI (pv 2) (pv 0) (λ _ _=>rfl)) ac))) ac)))))
  (af (bA PassesOwn.never rfl (iU rfl T.range (aa (pv 1) (aa (jY gI ae) (aa (jY gI ae) ac)))) (az (i:=7) iF.nd rfl (Or.inl rfl)) (ah (br (bK (a9 (aj Glis hr rfl mlis klis blis .nil aD (aa (pv 6) (aa (pv 2) (aa (pv 3) ac)))))) (ah (mZ (aQ (aa (am aq (am bf (pv 6) (pv 7) (λ _ _=>rfl)) ae (λ _ _=>rfl)) (aa (pv 2) ac))) (v7 (pv 6) (pv 7) oz))) aK)))
  (af (bA PassesOwn.never rfl (aZ rfl T.range (aa (ar aV (pv 1) ae) ac)) (az (i:=7) iF.nd rfl (Or.inl rfl)) (ah (br (bK (a9 (aj Glis hr rfl mlis klis blis .nil aD (aa (pv 6) (aa (pv 2) (aa (pv 3) ac)))))) (ah (mZ (aQ (aa ae (aa (am aq (am bf (pv 6) (pv 7) (λ _ _=>rfl)) ae (λ _ _=>rfl)) ac))) (v7 (pv 6) (pv 7) oz))) aK)))
  (ah (aB (pv 6)))))))),?_⟩
 have two:2<=sizeLine:=by decide
 have en:((n:Int)+1).toNat=n+1:=by omega
 have Up:(0:Int)<U+1:=by omega
 refine⟨_,rfl,_,_,rfl,rfl,_,rfl,by omega,by omega,λ D hD=>?_⟩
 rw[en]
 refine gO (λ j=>.int (ns.getD (5+(0+(j:Int))).toNat 0%(U+1))) hD (fD (by omega)) ?_ ?_
 ·intro j H2 k hj sm2 hk
  refine⟨_,rfl,_,rfl,_,_,rfl,rfl,a,ns,_,rfl,sm2.seq hS,by omega,_,rfl,_,_,rfl,rfl,_,_,rfl,rfl,Up,hk H2 (ak.refl _)⟩
 intro H1 s1 hD1
 have e5:(List.range (n+1)).map (λ j:Nat=>V.int (ns.getD (5+(0+(j:Int))).toNat 0%(U+1)))=((List.range (n+1)).map (λ j:Nat=>ns.getD (5+(0+(j:Int))).toNat 0%(U+1))).map V.int:=by rw[List.map_map];rfl
 rw[e5] at hD1
 refine⟨D,_,rfl,SqL.of hD1,by simp;omega,λ L' ls hL' p1 w1=>?_⟩
 have s2:=ai hL' (.lst (ls.map V.int))
 have hLs:upd H1 L' (.lst (ls.map V.int)) L'=some (.lst (ls.map V.int)):=ad
 have s02:=s1.trans s2
 generalize upd H1 L' (.lst (ls.map V.int))=H2 at *
 refine⟨_,rfl,_,_,rfl,rfl,_,rfl,by omega,by omega,λ D2 hD2=>?_⟩
 rw[en]
 refine gO (λ j=>.int (ns.getD (10+(0+(j:Int))).toNat 0%(U+1))) hD2 (fD (by omega)) ?_ ?_
 ·intro j H2' k hj sm2 hk
  refine⟨_,rfl,_,rfl,_,_,rfl,rfl,a,ns,_,rfl,(s02.trans sm2).seq hS,by omega,_,rfl,_,_,rfl,rfl,_,_,rfl,rfl,Up,hk H2' (ak.refl _)⟩
 intro H3 s3 hD3
 have e10:(List.range (n+1)).map (λ j:Nat=>V.int (ns.getD (10+(0+(j:Int))).toNat 0%(U+1)))=((List.range (n+1)).map (λ j:Nat=>ns.getD (10+(0+(j:Int))).toNat 0%(U+1))).map V.int:=by rw[List.map_map];rfl
 rw[e10] at hD3
 refine⟨D2,_,rfl,SqL.of hD3,by simp;omega,λ G' hs hG' p2 w2=>?_⟩
 have s4:=ai hG' (.lst (hs.map V.int))
 have hGs:upd H3 G' (.lst (hs.map V.int)) G'=some (.lst (hs.map V.int)):=ad
 have hLs4:=s4 _ _ (s3 _ _ hLs)
 have s04:=(s02.trans s3).trans s4
 generalize upd H3 G' (.lst (hs.map V.int))=H4 at *
 have l1:ls.length=n+1:=by rw[p1.length_eq];simp
 have l2:hs.length=n+1:=by rw[p2.length_eq];simp
 have inn:∀ (c:Int) (x:Int),x∈(List.range (n+1)).map (λ j:Nat=>ns.getD (c+(0+(j:Int))).toNat 0%(U+1))->0<=x/\x<=U:=λ c x hx=>by
  obtain⟨j,_,rfl⟩:=List.mem_map.mp hx
  have:=md0 (ns.getD (c+(0+(j:Int))).toNat 0) Up
  have:=md1 (ns.getD (c+(0+(j:Int))).toNat 0) Up
  omega
 have lh:=B5 l1 l2 (rY p1 (inn 5)) (rY p2 (inn 10)) w1 w2
 dsimp only
 refine⟨_,rfl,_,_,rfl,rfl,_,rfl,by omega,by omega,λ D hD=>?_⟩
 rw[en]
 refine nL (n:=n+1) (λ i ys G2=>bU G2 (zsL ls (mxL n ls hs) i) ys) hD (fD (by omega)) rfl ?_ ?_
 ·intro k ys H5 kk hk s5 hD5 row hq
  have ek:(0:Int)+(k:Int)=(k:Int):=by omega
  rw[ek]
  refine⟨_,rfl,_,rfl,L',_,_,_,rfl,rfl,SqL.of (s5 _ _ hLs4),ce (ns:=ls) (by omega) (by omega),_,rfl,_,rfl,L',_,_,_,rfl,rfl,SqL.of (s5 _ _ hLs4),ce (ns:=ls) (by omega) (by omega),_,rfl,_,rfl,G',_,_,_,rfl,rfl,SqL.of (s5 _ _ hGs),ce (ns:=hs) (by omega) (by omega),_,_,rfl,two,λ p hp=>?_⟩
  have sp:=ai hp (.tup [V.int (ls.getD k 0),V.int (if hs.getD k 0>ls.getD k 0 then hs.getD k 0 else ls.getD k 0)])
  refine hq _ _ sp ?_
  rw[uQ]
  refine ((row.keep sp).app (show bU _ [_] [.ref p] from ⟨p,[],rfl,?_,rfl⟩)).write (sp _ _ hD5)
  rw[ka (by omega)]
  exact ad
 intro ys H5 s5 hD5 ly row
 have hDn:H D=none:=lT s04 hD
 have s05:=s04.trans s5
 have isz0:=yK lh
 have lz0:=qO ls (mxL n ls hs) (n+1)
 generalize zsL ls (mxL n ls hs) (n+1)=zs0 at *
 refine⟨_,rfl,_,rfl,_,rfl,_,_,rfl,⟨by omega,by omega,by decide,by decide⟩,?_⟩
 rw[show ((n:Int) - -1).toNat=n+1 by omega]
 refine pr (hi:=(n:Int)) (n:=n+1) (λ i σ G=>ak H G/\∃ zs v1,σ = [some (.ref a),some (.int n),some (.int U),some (.ref sa),some (.ref L'),some (.ref G'),some (.ref D),v1]/\StA G D zs/\zs.length=n+1/\IsZ U zs/\(sh<=bst n (Gc.shr U zs)∨∀ j,n<j+i->j<=n->(zs.getD j (0,0)).2=U)) ⟨s05,zs0,_,rfl,⟨ys,hD5,row⟩,lz0,isz0,.inr λ j h1 h2=>by omega⟩ ?_ ?_
 ·rintro i σ G hi ⟨sG,zs,v1,rfl,hst,lz,isz,alt⟩
  obtain⟨k,hk⟩:∃ k:Nat,n=k+i:=⟨n-i,by omega⟩
  rw[show (n:Int)-(i:Int)=(k:Int) by omega]
  have kl:k<zs.length:=by omega
  refine⟨_,rfl,_,rfl,_,rfl,D,sa,U,n,sh,zs,rfl,hst,lz,n1,n12,(d4 U0).mpr isz,U0,U1,fa.keep sG,λ b G1 s1 hb=>?_⟩
  cases b with
  | true=>exact⟨_,rfl,aW ⟨sG.trans s1,zs,_,rfl,hst.keep s1,lz,isz,.inl (hb.mp rfl)⟩⟩
  | false =>
   have alt':∀ j,n<j+i->j<=n->(zs.getD j (0,0)).2=U:=by
    rcases alt with h | h
    ·cases hb.mpr h
    ·exact h
   obtain⟨ws,hw,row⟩:=(hst.keep s1).ob
   have lw:=row.len
   obtain⟨b,f1,f2⟩:=row.at kl
   have zk:=isz k kl
   refine⟨_,rfl,bD ⟨_,rfl,_,rfl,D,ws,_,_,rfl,rfl,SqL.of hw,bx f1,b,_,0,_,rfl,rfl,SqT.of f2,at0,_,rfl,two,λ p hp=>?_⟩⟩
   have sp:=ai hp (.tup [V.int (zs.getD k (0,0)).1,V.int U])
   have ep:upd G1 p (.tup [V.int (zs.getD k (0,0)).1,V.int U]) p=some (.tup [V.int (zs.getD k (0,0)).1,V.int U]):=ad
   have hw2:=sp _ _ hw
   refine⟨_,rfl,_,rfl,D,ws,_,k,rfl,rfl,hw2,sw (by omega) (by omega),?_⟩
   refine⟨eZ ((sG.trans s1).trans sp) hDn,zs.set k ((zs.getD k (0,0)).1,U),_,rfl,⟨ws.set k (.ref p),ad,(bU.set (p:=((zs.getD k (0,0)).1,U)) ep (row.keep sp)).write hw2⟩,by rw[List.length_set];exact lz,?_,.inr λ j h1 h2=>?_⟩
   ·refine sC isz kl ⟨zk.1.1,by show _<=U;omega,Int.le_refl _⟩ (λ j hj=>⟨(zk.2 j hj).1,(isz j (by omega)).1.2.2⟩) (λ h=>?_)
    have x1:=(isz (k+1) h).2 k rfl
    refine⟨x1.1,?_⟩
    rw[alt' (k+1) (by omega) (by omega)]
    exact Int.le_refl _
   ·rw[dB kl]
    by_cases c:j=k
    ·rw[if_pos c]
    ·rw[if_neg c];exact alt' j (by omega) h2
 rintro σ G ⟨sG,zs1,v1,rfl,hst1,lz1,isz1,alt1⟩
 refine⟨_,rfl,_,_,rfl,rfl,_,rfl,by omega,by omega,?_⟩
 dsimp -proj only
 rw[en]
 refine bY (lo:=0) (λ i σ G=>ak H G/\∃ zs v1,σ = [some (.ref a),some (.int n),some (.int U),some (.ref sa),some (.ref L'),some (.ref G'),some (.ref D),v1]/\StA G D zs/\zs.length=n+1/\IsZ U zs/\(sh<=bst n (Gc.shr U zs)∨(∀ j,j<=n->(zs.getD j (0,0)).2=U)/\∀ j,j<i->(zs.getD j (0,0)).1=0)) ⟨sG,zs1,_,rfl,hst1,lz1,isz1,alt1.imp id λ h=>⟨λ j hj=>h j (by omega) hj,λ j hj=>by omega⟩⟩ ?_ ?_
 ·rintro k σ G hi ⟨sG,zs,v1,rfl,hst,lz,isz,alt⟩
  rw[show (0:Int)+(k:Int)=(k:Int) by omega]
  have kl:k<zs.length:=by omega
  refine⟨_,rfl,_,rfl,_,rfl,D,sa,U,n,sh,zs,rfl,hst,lz,n1,n12,(d4 U0).mpr isz,U0,U1,fa.keep sG,λ b G1 s1 hb=>?_⟩
  cases b with
  | true=>exact⟨_,rfl,aW ⟨sG.trans s1,zs,_,rfl,hst.keep s1,lz,isz,.inl (hb.mp rfl)⟩⟩
  | false =>
   obtain⟨alt',alt2⟩:(∀ j,j<=n->(zs.getD j (0,0)).2=U)/\∀ j,j<k->(zs.getD j (0,0)).1=0:=by
    rcases alt with h | h
    ·cases hb.mpr h
    ·exact h
   obtain⟨ws,hw,row⟩:=(hst.keep s1).ob
   have lw:=row.len
   obtain⟨b,f1,f2⟩:=row.at kl
   have zk:=isz k kl
   refine⟨_,rfl,bD ⟨_,rfl,_,rfl,D,ws,_,_,rfl,rfl,SqL.of hw,bx f1,b,_,1,_,rfl,rfl,SqT.of f2,at1,two,λ p hp=>?_⟩⟩
   have sp:=ai hp (.tup [V.int 0,V.int (zs.getD k (0,0)).2])
   have ep:upd G1 p (.tup [V.int 0,V.int (zs.getD k (0,0)).2]) p=some (.tup [V.int 0,V.int (zs.getD k (0,0)).2]):=ad
   have hw2:=sp _ _ hw
   refine⟨_,rfl,_,rfl,D,ws,_,k,rfl,rfl,hw2,sw (by omega) (by omega),?_⟩
   refine⟨eZ ((sG.trans s1).trans sp) hDn,zs.set k (0,(zs.getD k (0,0)).2),_,rfl,⟨ws.set k (.ref p),ad,(bU.set (p:=(0,(zs.getD k (0,0)).2)) ep (row.keep sp)).write hw2⟩,by rw[List.length_set];exact lz,?_,.inr ⟨λ j h1=>?_,λ j h1=>?_⟩⟩
   ·refine sC isz kl ⟨Int.le_refl _,by show 0<=_;omega,zk.1.2.2⟩ (λ j hj=>⟨by rw[alt2 j (by omega)];exact Int.le_refl _,(zk.2 j hj).2⟩) (λ h=>?_)
    have x1:=(isz (k+1) h).2 k rfl
    exact⟨(isz (k+1) h).1.1,x1.2⟩
   ·rw[dB kl]
    by_cases c:j=k
    ·rw[if_pos c];exact alt' k (by omega)
    ·rw[if_neg c];exact alt' j h1
   ·rw[dB kl]
    by_cases c:j=k
    ·rw[if_pos c]
    ·rw[if_neg c];exact alt2 j (by omega)
 rintro σ G ⟨sG,zs,v1,rfl,hst,lz,isz,alt⟩
 refine⟨_,rfl,q D zs G sG hst lz ((d4 U0).mpr isz) ?_⟩
 rcases alt with h | ⟨h1,h2⟩
 ·exact h
 ·rw[uS (U:=U) lz λ j hj=>Prod.ext (h2 j (by omega)) (h1 j hj)]
  exact whole
theorem lN {n:Nat}{s:Rat}{m:Int}:∀ {l:List (Nat×Bool)}{ps a b:List (Rat×Rat)},gB n s m l ps a->gB n s m l ps b->a=b
 | [],_,_,_,h,g=>(show _=_ from h).trans (show _=_ from g).symm
 | _::_,_,_,_,⟨u,h1,h2⟩,⟨v,g1,g2⟩=>by
  have e:=oH h1 g1
  subst e
  exact lN h2 g2
theorem jR {n:Nat}{s:Rat}{m:Int}:∀ {l:List (Nat×Bool)}{ps a:List (Rat×Rat)},(∀ p∈l,shq n s m ps p.1 p.2=none)->gB n s m l ps a->a=ps
 | [],_,_,_,h=>h
 | p::l,ps,a,no,⟨u,h1,h2⟩=>by
  have e:u=ps:=oH h1 (.stop (no p (.head _)))
  subst e
  exact jR (λ q hq=>no q (.tail _ hq)) h2
def zT (z:Int×Int):Th:=.tup [.int z.1,.int z.2]
theorem lQ {H:Hp}:∀ {zs:List (Int×Int)}{ws:List V},bU H zs ws->bH H (zs.map zT) ws
 | [],_,h=>h
 | _::_,_,⟨a,ys,e,h1,h2⟩=>⟨_,ys,e,fU h1,lQ h2⟩
theorem StA.den {H:Hp}{l:Addr}{zs:List (Int×Int)} (h:StA H l zs):Den H (.lst (zs.map zT)) (.ref l):=by
 obtain⟨ws,a,b⟩:=h.ob
 exact⟨l,ws,rfl,a,lQ b⟩
theorem z6:∀ zs:List (Int×Int),cg (zs.map zT)<=5
 | []=>by simp [cg]
 | z::zs=>by
  have:=z6 zs
  rw[List.map_cons,cg]
  exact Nat.max_le.mpr ⟨by simp [zT,dQ,cg],this⟩
theorem z7:∀ ps:List (Rat×Rat),cg (ps.map thP)<=6
 | []=>by simp [cg]
 | p::ps=>by
  have:=z7 ps
  rw[List.map_cons,cg]
  exact Nat.max_le.mpr ⟨by simp [thP,dQ,cg],this⟩
theorem bU.map {H H':Hp} (s:∀ b xs,H b=some (.tup xs)->H' b=some (.tup xs)):∀ {ps:List (Int×Int)}{xs:List V},bU H ps xs->bU H' ps xs
 | [],_,h=>h
 | _::_,_,⟨a,ys,e,h1,h2⟩=>⟨a,ys,e,s _ _ h1,h2.map s⟩
theorem StA.over {TB:Addr}{H H':Hp}{l:Addr}{zs:List (Int×Int)} (h:StA H l zs) {tp:Array Value} (hT:H TB=some (.tbl tp)) (s:sY TB H H'):StA H' l zs:=by
 obtain⟨ws,a,b⟩:=h.ob
 exact⟨ws,s _ _ (λ z=>by rw[z,hT] at a;cases a) a,b.map (s.tup hT)⟩
theorem Ov.zero (B:Nat):Ov B 0:=⟨0,by show (0:Rat)*_=_;grind⟩
theorem vb {M t:Nat} (hM:1<=M):Ov M (stp M t):=vV rfl (show (0:Int)<(M:Int) by omega)
theorem Ag {n M:Nat}{mo:Rat} (hM:1<=M):∀ p∈bW n mo M,Ov M p.1/\Ov M p.2:=λ p hp=>by
 unfold bW at hp
 obtain⟨k,hk,rfl⟩:=List.mem_map.mp hp
 constructor
 ·show Ov M (cz n k mo M)
  unfold cz
  split
  ·exact vb hM
  ·exact Ov.zero M
 ·show Ov M (bI n k mo M)
  unfold bI
  split
  ·exact vb hM
  ·exact Ov.one M
theorem r9 {s0 s1:Nat} (h1:1<=s1) {s:Rat} (es:s*((s1:Int):Rat)=((s0:Int):Rat)):1-2*cH s0 s1=s:=by
 have b2:(0:Int)<2*(s1:Int):=by omega
 have e2:cH s0 s1*((2*(s1:Int):Int):Rat)=(((s1:Int)-(s0:Int):Int):Rat):=fy (t:=((s1:Int)-(s0:Int))) b2
 have sp:(0:Rat)<((s1:Int):Rat):=by exact_mod_cast (show (0:Int)<(s1:Int) by omega)
 rw[Rat.intCast_mul,Rat.intCast_sub,show ((2:Int):Rat)=2 from rfl] at e2
 generalize cH s0 s1=mo at *
 generalize ((s1:Int):Rat)=S at *
 have ne:S≠0:=by grind
 have:(1-2*mo-s)*S=0:=by grind
 rcases Rat.mul_eq_zero.mp this with h | h
 ·grind
 ·exact absurd h ne
theorem uW {s0 s1 M n:Nat} (h0:1<=s0) (h1:s0<=s1) (hM:1<=M):TR (cH s0 s1) M n:=by
 obtain⟨_,b⟩:=yI h0 h1
 refine⟨b,?_,hM⟩
 have sp:(0:Rat)<((s1:Int):Rat):=by exact_mod_cast (show (0:Int)<(s1:Int) by omega)
 have e:=r9 (s0:=s0) (s1:=s1) (by omega) (s:=((s0:Int):Rat) / ((s1:Int):Rat)) (Gc.im (by omega) _)
 have p:(0:Rat)<((s0:Int):Rat) / ((s1:Int):Rat):=by
  rw[Rat.div_def]
  exact Rat.mul_pos (by exact_mod_cast (show (0:Int)<(s0:Int) by omega)) (Rat.inv_pos.mpr sp)
 grind
theorem oi {s0 s1 M n:Nat} (h0:1<=s0) (h1:s0<=s1) (hM:1<=M) (n1:1<=n) (n12:n<=12) {s:Rat} (es:s*((s1:Int):Rat)=((s0:Int):Rat)):s<=bst n (bW n (cH s0 s1) M):=by
 obtain⟨c,hc⟩:=cV (n:=n) (eV (bW n (cH s0 s1) M))
 have:=(uW (n:=n) h0 h1 hM).best n1 n12 hc
 rw[r9 (by omega) es] at this
 rw[i8 hc]
 exact this
theorem xH {mo:Rat}{M n:Nat} (h:TR mo M n) (n1:1<=n) (n12:n<=12):IsR (bW n mo M):=by
 have ok:=h.rule n1 n12
 refine oE ok λ x hx=>?_
 unfold aU at hx
 simp only[List.mem_append,List.mem_cons,List.not_mem_nil,or_false,List.mem_flatMap] at hx
 rcases hx with z | z | ⟨p,hp,z⟩
 ·rw[z];constructor<;>decide
 ·rw[z];constructor<;>decide
 ·unfold bW at hp
  obtain⟨k,hk,rfl⟩:=List.mem_map.mp hp
  have kn:=List.mem_range.mp hk
  rcases z with z | z
  ·rw[z];exact h.lo_in (by omega)
  ·rw[z];exact h.hi_in (by omega)
theorem pM {s0 s1 M n:Nat} (h0:1<=s0) (h1:s0<=s1) (hM:1<=M) (n1:1<=n) (n12:n<=12) {s:Rat} (es:s*((s1:Int):Rat)=((s0:Int):Rat)):s<=bst n (Gc.shr (M:Int) (eX (M:Int) n)):=by
 have U0:(0:Int)<(M:Int):=by omega
 have lw:(eX (M:Int) n).length=n+1:=by simp [eX]
 have gw:∀ i,i<n+1->(eX (M:Int) n).getD i (0,0)=(0,(M:Int)):=λ i hi=>by simp [eX,List.getD,hi]
 have tr:=uW (n:=n) h0 h1 hM
 have it:=xH tr n1 n12
 have iw:IsR (Gc.shr (M:Int) (eX (M:Int) n)):=(d4 U0).mpr λ i hi=>by
  rw[lw] at hi
  rw[gw i hi]
  refine⟨⟨Int.le_refl _,by show 0<=(M:Int);omega,Int.le_refl _⟩,λ j hj=>?_⟩
  rw[gw j (by omega)]
  exact⟨Int.le_refl _,Int.le_refl _⟩
 refine Rat.le_trans (oi (M:=M) h0 h1 hM n1 n12 es) (fG.best ⟨?_,λ k=>?_,λ k=>?_⟩ n1 n12 (by rw[bN,lw]) iw it)
 ·rw[bN,lw,cZ]
 ·by_cases hk:k<n+1
  ·rw[dF (by omega),gw k hk,Cl]
   exact (iY it (i:=k) (by rw[cZ];exact hk)).1
  ·rw[List.getD,List.getD,List.getElem?_eq_none (by rw[bN,lw];omega),List.getElem?_eq_none (by rw[cZ];omega)]
   exact Rat.le_refl
 ·by_cases hk:k<n+1
  ·rw[dF (by omega),gw k hk,Ck U0]
   exact (iY it (i:=k) (by rw[cZ];exact hk)).2.2
  ·rw[List.getD,List.getD,List.getElem?_eq_none (by rw[cZ];omega),List.getElem?_eq_none (by rw[bN,lw];omega)]
   exact Rat.le_refl
theorem zQ {D:Nat}{H:Hp}{x:Addr}{n:Nat}{ps:List (Rat×Rat)} (h:Qa D H x n ps):Den H (.tup [.int (n:Int),.tup (ps.map thP)]) (.ref x):=xj h.ru
def rj (K:PySem.W.Frag) (T:Addr):Sp:=λ vs H Q _=>∃ (a:Addr) (ns:List Int),vs = [.ref a]/\SqL K H a (ns.map V.int)/\ns.length<=63/\(∀ i∈ns,Bg i)/\H T=some (.tbl #[])/\∀ H',Q (.bl true) H'
structure Rdy (U n:Nat) (s:Rat) (H:Hp) (x l:Addr) (zs:List (Int×Int)):Prop where
 hx:Qa U H x n (Gc.shr (U:Int) zs)
 st:StA H l zs
 lz:zs.length=n+1
 sr:s<=bst n (Gc.shr (U:Int) zs)
theorem bJ:aA ["_law_script","_law_first","_law_n","_law_measure","_law_bottom","_law_top_here","_law_share","_law_fine","_law_unit","_law_rule","_law_before","_law_parts","_law_found","_law_steps_here","_law_k"] ["_law_script"] (ag gY):=⟨rfl,rfl,rfl,by decide +kernel,rfl,by decide +kernel,by decide +kernel⟩
theorem A1 {C:CA}{f:Addr}{fd:FuncData} (F:Fun K "law" "law" gY f fd) (T:Txt mg) (cf:CF K mg C) {fcell:Addr}{dcell:FuncData} (Gcell:ax P w K mg base CX0 15 fcell dcell ["_law_script","_law_k"] (pY K)) (bcell:aE K dcell ["_law_script","_law_k"] []) (kcell:PySem.W.keepIn K (.ref fcell)=true) (mcell:mg "_law_cell_at" = some (.ref fcell)) {flow:Addr}{dlow:FuncData} (Glow:ax P w K mg base CX0 15 flow dlow ["_law_step","_law_measure"] BQ) (blow:aE K dlow ["_law_step","_law_measure"] []) (klow:PySem.W.keepIn K (.ref flow)=true) (mlow:mg "_law_fraction" = some (.ref flow)) {fruleof:Addr}{druleof:FuncData} (Gruleof:ax P w K mg base (CXX P w) 15 fruleof druleof ["n","stretches"] (vk C)) (bruleof:aE K druleof ["n","stretches"] []) (kruleof:PySem.W.keepIn K (.ref fruleof)=true) (mruleof:mg "rule_of" = some (.ref fruleof)) {ftails:Addr}{dtails:FuncData} (Gtails:ax P w K mg base CX0 15 ftails dtails ["n","share","measure"] rd) (btails:aE K dtails ["n","share","measure"] []) (ktails:PySem.W.keepIn K (.ref ftails)=true) (mtails:mg "tails" = some (.ref ftails)) {dv:Addr}{dsts:FuncData} (Gsts:ax P w K mg base CX0 15 dv dsts ["_law_rule","_law_measure"] zB) (bsts:aE K dsts ["_law_rule","_law_measure"] []) (ksts:PySem.W.keepIn K (.ref dv)=true) (msts:mg "_law_steps" = some (.ref dv)) {fdrw:Addr}{ddrw:FuncData} (Gdrw:ax P w K mg base CX0 15 fdrw ddrw ["_law_script","_law_n","_law_measure","_law_share"] (zJ K)) (bdrw:aE K ddrw ["_law_script","_law_n","_law_measure","_law_share"] []) (kdrw:PySem.W.keepIn K (.ref fdrw)=true) (mdrw:mg "_law_drawn" = some (.ref fdrw)) {ftgt:Addr}{dtgt:FuncData} (Gtgt:ax P w K mg base CX0 15 ftgt dtgt ["rule","share","measure"] (zA TB)) (btgt:aE K dtgt ["rule","share","measure"] []) (ktgt:PySem.W.keepIn K (.ref ftgt)=true) (mtgt:mg "tight" = some (.ref ftgt)) {fltg:Addr}{dltg:FuncData} (Gltg:ax P w K mg base CX0 15 fltg dltg ["_law_steps_here","_law_measure","_law_share","_law_fine"] zH) (bltg:aE K dltg ["_law_steps_here","_law_measure","_law_share","_law_fine"] []) (kltg:PySem.W.keepIn K (.ref fltg)=true) (mltg:mg "_law_tight" = some (.ref fltg)) {fdue:Addr}{ddue:FuncData} (Gdue:ax P w K mg base CX0 15 fdue ddue ["_law_steps_here","_law_measure","_law_share","_law_fine"] zI) (bdue:aE K ddue ["_law_steps_here","_law_measure","_law_share","_law_fine"] []) (kdue:PySem.W.keepIn K (.ref fdue)=true) (mdue:mg "_law_due" = some (.ref fdue)):ax P w K mg base CX0 16 f fd ["_law_script"] (rj K TB):=by
 refine F.ok bJ (λ vs H Q E h=>?_) (λ cdv A outer s H vs Q E hr h=>?_)
 ·obtain⟨a,ns,rfl,_⟩:=h
  rfl
 obtain⟨a,ns,rfl,hS,h63,hbg,hTB,q⟩:=h
 refine⟨_,(af (au (i:=1) bJ.nd rfl (Or.inl rfl) (aj Gcell hr rfl mcell kcell bcell .nil aD (aa (pv 0) (aa ae ac))))
  (af (au (i:=2) bJ.nd rfl (Or.inl rfl) (ar aV ae (ar cn (pv 1) ae)))
  (af (au (i:=3) bJ.nd rfl (Or.inl rfl) (ar aV ae (ar cn (aj Gcell hr rfl mcell kcell bcell .nil aD (aa (pv 0) (aa ae ac))) ae)))
  (af (br (aG gD (ar cn (ar hW (pv 1) ae) ae) ae (aL _)) (af (au (i:=2) bJ.nd rfl (Or.inl rfl) (ar aV ae (ar cn (pv 1) ae)))
   (ah (au (i:=3) bJ.nd rfl (Or.inl rfl) (ar aV ae (ar cn (aj Gcell hr rfl mcell kcell bcell .nil aD (aa (pv 0) (aa ae ac))) ae))))) aK)
  (af (au (i:=4) bJ.nd rfl (Or.inl rfl) (ar aV ae (ar cn (aj Gcell hr rfl mcell kcell bcell .nil aD (aa (pv 0) (aa ae ac))) (am bf (cP (aa ae (aa ae ac))) (ar cn (ar hW (pv 1) ae) ae) (λ _ _=>rfl)))))
  (af (au (i:=5) bJ.nd rfl (Or.inl rfl) (ar aV ae (ar cn (aj Gcell hr rfl mcell kcell bcell .nil aD (aa (pv 0) (aa ae ac))) (pv 4))))
  (af (au (i:=6) bJ.nd rfl (Or.inl rfl) (aj Glow hr rfl mlow klow blow .nil aD (aa (pv 5) (aa (pv 4) ac))))
  (af (au (i:=7) bJ.nd rfl (Or.inl rfl) (am bf (cP (aa ae (aa ae (aa ae (aa ae ac))))) (ar cn (ar hW (pv 1) ae) ae) (λ _ _=>rfl)))
  (af (au (i:=8) bJ.nd rfl (Or.inr rfl) (ar bB (pv 3) (pv 7)))
  (af (br (aG gD (ar cn (ar hW (pv 1) ae) ae) ae (aL _)) (af (au (i:=9) bJ.nd rfl (Or.inl rfl) (aj Gtails hr rfl mtails ktails btails .nil aD (aa (pv 2) (aa (pv 6) (aa (pv 8) ac)))))
   (ah (au (i:=10) bJ.nd rfl (Or.inl rfl) (aj Gsts hr rfl msts ksts bsts .nil aD (aa (pv 9) (aa (pv 8) ac)))))) (af (au (i:=10) bJ.nd rfl (Or.inl rfl) (aj Gdrw hr rfl mdrw kdrw bdrw .nil aD (aa (pv 0) (aa (pv 2) (aa (pv 8) (aa (pv 6) ac))))))
   (af (jt (i:=11) bJ.nd rfl (Or.inl rfl) (xs:=["_law_low","_law_high"]) (ts:=[("_law_unit",8)]) rfl ⟨rfl,pU rfl,rfl,rfl,rfl,by decide +kernel,rfl,rfl⟩ (cW (pv 10)) (λ C s3 H3 fp=>(gx (n:=2) rfl (aJ (az (i:=0) (show (["_law_low","_law_high","_law_unit"]:List Str).Nodup by decide +kernel) rfl (Or.inl rfl) (Or.inr rfl)) (aJ (az (i:=1) (show (["_law_low","_law_high","_law_unit"]:List Str).Nodup by decide +kernel) rfl (Or.inl rfl) (Or.inr rfl)) bO)))) (λ C s3 H3 fp=>fb) (λ C s3 H3 fp=>(aQ (aa (aj Glow hr rfl mlow klow blow .nil aD (aa (pv 0) (aa (pv 2) ac))) (aa (aj Glow hr rfl mlow klow blow .nil aD (aa (pv 1) (aa (pv 2) ac))) ac)))))
   (ah (au (i:=9) bJ.nd rfl (Or.inl rfl) (aj Gruleof hr rfl mruleof kruleof bruleof .nil jZ (aa (pv 2) (aa (pv 11) ac))))))))
  (af (au (i:=12) bJ.nd rfl (Or.inl rfl) (aj Gtgt hr rfl mtgt ktgt btgt .nil aD (aa (pv 9) (aa (pv 6) (aa (pv 3) ac)))))
  (af (au (i:=13) bJ.nd rfl (Or.inl rfl) (aj Gsts hr rfl msts ksts bsts .nil aD (aa (pv 12) (aa (pv 8) ac))))
  (af (br (PW.pt (cE (aG j9 (am aq (pv 12) ae (λ _ _=>rfl)) (pv 2) (aL _)) (cE (aG m7 (pv 13) d9 (aL _)) (cE (aG j9 (aO aS rfl T.len boot_len (aa (pv 13) ac)) (ar aV (pv 2) ae) (aL _)) (cy (bK (a9 (aj Gltg hr rfl mltg kltg bltg .nil aD (aa (pv 13) (aa (pv 8) (aa (pv 6) (aa (pv 7) ac)))))))))))) (ah (aB eJ)) aK)
  (af (bA PassesOwn.never rfl (aZ rfl T.range (aa (ar aV (pv 2) ae) ac)) (az (i:=14) bJ.nd rfl (Or.inl rfl)) (ah (br (PW.pt (cE (aG jf (am aq (am bf (pv 13) (pv 14) (λ _ _=>rfl)) ae (λ _ _=>rfl)) (am aq (am bf (pv 10) (pv 14) (λ _ _=>rfl)) ae (λ _ _=>rfl)) (aL _)) (cy (aG fR (am aq (am bf (pv 13) (pv 14) (λ _ _=>rfl)) ae (λ _ _=>rfl)) (am aq (am bf (pv 10) (pv 14) (λ _ _=>rfl)) ae (λ _ _=>rfl)) (aL _))))) (ah (aB eJ)) aK)))
  (af (br (aG (AI hr.units) (pv 13) (aj Gdue hr rfl mdue kdue bdue .nil aD (aa (pv 10) (aa (pv 8) (aa (pv 6) (aa (pv 7) ac))))) (aL _)) (ah (aB eJ)) aK)
  (ah (aB (gy (AJ hr.units) (aj Gtgt hr rfl mtgt ktgt btgt .nil aD (aa (pv 12) (aa (pv 6) (aa (pv 3) ac)))) (pv 12) (aL _))))))))))))))))))),?_⟩
 have tb0:uO TB H:=⟨#[],hTB,trivial,.inl rfl⟩
 have two:2<=sizeLine:=by decide
 refine⟨_,rfl,a,ns,0,rfl,hS,by decide,?_⟩
 generalize ns.getD (0:Int).toNat 0=c0
 dsimp only
 refine bQ (λ σ G=>G=H/\∃ n:Nat,σ = [some (.ref a),some (.int c0),some (.int n),none,none,none,none,none,none,none,none,none,none,none,none]/\1<=n/\n<=4) ?_ ?_
 ·intro M hM
  have k0:=md0 c0 (show (0:Int)<4 by decide)
  have k1:=md1 c0 (show (0:Int)<4 by decide)
  refine⟨_,rfl,_,_,rfl,rfl,(by show (0:Int)<4;decide),_,_,rfl,rfl,hM _ _ ⟨rfl,(1+c0%4).toNat,?_,by omega,by omega⟩⟩
  rw[show (((1+c0%4).toNat:Nat):Int)=1+c0%4 by omega]
  rfl
 rintro σ G ⟨rfl,n0,rfl,n01,n02⟩
 refine bQ (λ σ G'=>G'=G/\∃ m:Nat,σ = [some (.ref a),some (.int c0),some (.int n0),some (.int (m:Int)),none,none,none,none,none,none,none,none,none,none,none]/\1<=m/\m<=20) ?_ ?_
 ·intro M hM
  refine⟨_,rfl,a,ns,1,rfl,hS,by decide,_,_,rfl,rfl,(by show (0:Int)<8;decide),_,_,rfl,rfl,?_⟩
  generalize ns.getD (1:Int).toNat 0=c1
  have k0:=md0 c1 (show (0:Int)<8 by decide)
  have k1:=md1 c1 (show (0:Int)<8 by decide)
  refine hM _ _ ⟨rfl,(1+c1%8).toNat,?_,by omega,by omega⟩
  rw[show (((1+c1%8).toNat:Nat):Int)=1+c1%8 by omega]
  rfl
 rintro σ G ⟨rfl,m0,rfl,m01,m02⟩
 refine bQ (λ σ G'=>G'=G/\∃ n m:Nat,σ = [some (.ref a),some (.int c0),some (.int n),some (.int (m:Int)),none,none,none,none,none,none,none,none,none,none,none]/\1<=n/\n<=4/\1<=m/\m<=20) ?_ ?_
 ·intro M hM
  refine⟨_,rfl,_,_,rfl,rfl,⟨by decide,by decide⟩,_,_,rfl,rfl,(by show (0:Int)<8;decide),rfl,_,rfl,?_⟩
  refine fE (λ d=>?_) (λ d=>hM _ _ ⟨rfl,n0,m0,rfl,n01,n02,m01,m02⟩)
  have k0:=md0 c0 (show (0:Int)<2 by decide)
  have k1:=md1 c0 (show (0:Int)<2 by decide)
  refine⟨_,rfl,_,_,rfl,rfl,(by show (0:Int)<2;decide),_,_,rfl,rfl,?_⟩
  refine⟨_,rfl,a,ns,1,rfl,hS,by decide,_,_,rfl,rfl,(by show (0:Int)<20;decide),_,_,rfl,rfl,?_⟩
  generalize ns.getD (1:Int).toNat 0=c1
  have j0:=md0 c1 (show (0:Int)<20 by decide)
  have j1:=md1 c1 (show (0:Int)<20 by decide)
  refine hM _ _ ⟨rfl,(1+c0%2).toNat,(1+c1%20).toNat,?_,by omega,by omega,by omega,by omega⟩
  rw[show (((1+c0%2).toNat:Nat):Int)=1+c0%2 by omega,show (((1+c1%20).toNat:Nat):Int)=1+c1%20 by omega]
  rfl
 rintro σ G ⟨rfl,n,M,rfl,n1,n4,M1,M20⟩
 refine bQ (λ σ G'=>ak G G'/\∃ b:Nat,σ = [some (.ref a),some (.int c0),some (.int n),some (.int (M:Int)),some (.int (b:Int)),none,none,none,none,none,none,none,none,none,none]/\1<=b/\b<=1000) ?_ ?_
 ·intro M' hM
  refine⟨_,rfl,a,ns,2,rfl,hS,by decide,?_⟩
  generalize ns.getD (2:Int).toNat 0=c2
  refine⟨two,λ p hp=>?_⟩
  refine⟨_,rfl,_,_,rfl,rfl,⟨by decide,by decide⟩,_,_,rfl,rfl,(by show (0:Int)<2;decide),p,_,_,_,rfl,rfl,SqL.of ad,ce (ns:=[12,1000]) (md0 _ (by decide)) (md1 _ (by decide)),?_⟩
  have hm:([12,1000]:List Int).getD (c0 / 32%2).toNat 0∈([12,1000]:List Int):=ie (by have:=md1 (c0 / 32) (show (0:Int)<2 by decide);have:=md0 (c0 / 32) (show (0:Int)<2 by decide);show (c0 / 32%2).toNat<2;omega)
  generalize ([12,1000]:List Int).getD (c0 / 32%2).toNat 0=wd at *
  have hw:0<wd/\wd<=1000:=by simp only[List.mem_cons,List.not_mem_nil,or_false] at hm;omega
  have k0:=md0 c2 hw.1
  have k1:=md1 c2 hw.1
  refine⟨_,_,rfl,rfl,hw.1,_,_,rfl,rfl,hM _ _ ⟨ai hp _,(1+c2%wd).toNat,?_,by omega,by omega⟩⟩
  rw[show (((1+c2%wd).toNat:Nat):Int)=1+c2%wd by omega]
  rfl
 rintro σ G1 ⟨s1,bt,rfl,b1,b2⟩
 refine bQ (λ σ G'=>G'=G1/\∃ t:Nat,σ = [some (.ref a),some (.int c0),some (.int n),some (.int (M:Int)),some (.int (bt:Int)),some (.int (t:Int)),none,none,none,none,none,none,none,none,none]/\1<=t/\t<=bt) ?_ ?_
 ·intro M' hM
  refine⟨_,rfl,a,ns,3,rfl,s1.seq hS,by decide,_,rfl,_,_,rfl,rfl,(by omega),_,_,rfl,rfl,?_⟩
  generalize ns.getD (3:Int).toNat 0=c3
  have bp:(0:Int)<(bt:Int):=by omega
  have k0:=md0 c3 bp
  have k1:=md1 c3 bp
  refine hM _ _ ⟨rfl,(1+c3%(bt:Int)).toNat,?_,by omega,by omega⟩
  rw[show (((1+c3%(bt:Int)).toNat:Nat):Int)=1+c3%(bt:Int) by omega]
  rfl
 rintro σ G2 ⟨rfl,t,rfl,t1,t2⟩
 have bp:(0:Int)<(bt:Int):=by omega
 have zb:Sz 20 (bt:Int):=Nat.lt_of_le_of_lt (show (bt:Int).natAbs<=1000 by omega) (by decide)
 refine⟨_,rfl,_,rfl,_,_,rfl,by omega,bp,zb.smk (by decide),λ sa G3 s3 hsa=>?_⟩
 obtain⟨shp,shz⟩:=mF (m:=20) (by omega) (by omega) bp zb (by decide) hsa
 have es0:=gZ (t:=(t:Int)) bp
 have tq:(0:Rat)<((t:Int):Rat):=by exact_mod_cast (show (0:Int)<(t:Int) by omega)
 have bq:(0:Rat)<((bt:Int):Rat):=by exact_mod_cast bp
 have spos:0<rq (t:Int) (bt:Int):=by
  by_cases c:0<rq (t:Int) (bt:Int)
  ·exact c
  ·have:=Rat.mul_nonneg (show 0<=- rq (t:Int) (bt:Int) by grind) (show 0<=((bt:Int):Rat) by grind)
   grind
 dsimp only
 generalize hsh:rq (t:Int) (bt:Int)=sh at *
 have snum:0<sh.num:=by
  have h0:=(eH sh).mpr (by grind)
  by_cases c:sh.num=0
  ·exfalso
   have e:=bR sh
   rw[c] at e
   have dq:(0:Rat)<(sh.den:Rat):=by exact_mod_cast sh.den_pos
   have:=Rat.mul_pos spos dq
   rw[e] at this
   exact absurd this (by decide)
  ·omega
 have sle:sh.num<=(sh.den:Int):=(lR sh).mpr shp.hi
 have sden:sh.den<2^20:=by have:(sh.den:Int).natAbs<2^20:=shz;omega
 have s20:(2:Nat)^20<=1000000000000000000000000000000:=by decide
 obtain⟨s0,hs0⟩:∃ s0:Nat,(s0:Int)=sh.num:=⟨sh.num.toNat,by omega⟩
 have es:sh*((sh.den:Int):Rat)=((s0:Int):Rat):=by rw[hs0,Rat.intCast_natCast];exact bR sh
 have fs3:FrA G3 sa sh:=⟨hsa,shp.sn.mono (by decide),shp.sz.mono (by decide)⟩
 refine bQ (λ σ G'=>ak G3 G'/\∃ f:Nat,σ = [some (.ref a),some (.int c0),some (.int n),some (.int (M:Int)),some (.int (bt:Int)),some (.int (t:Int)),some (.ref sa),some (.int (f:Int)),none,none,none,none,none,none,none]/\1<=f/\f<=3) ?_ ?_
 ·intro M' hM
  refine⟨(by show 4<=sizeLine;decide),λ p hp=>?_⟩
  refine⟨_,rfl,_,_,rfl,rfl,⟨by decide,by decide⟩,_,_,rfl,rfl,(by show (0:Int)<4;decide),p,_,_,_,rfl,rfl,SqL.of ad,ce (ns:=[1,1,2,3]) (md0 _ (by decide)) (md1 _ (by decide)),?_⟩
  have hm:([1,1,2,3]:List Int).getD (c0 / 128%4).toNat 0∈([1,1,2,3]:List Int):=ie (by have:=md1 (c0 / 128) (show (0:Int)<4 by decide);have:=md0 (c0 / 128) (show (0:Int)<4 by decide);show (c0 / 128%4).toNat<4;omega)
  generalize ([1,1,2,3]:List Int).getD (c0 / 128%4).toNat 0=wd at *
  have hw:1<=wd/\wd<=3:=by simp only[List.mem_cons,List.not_mem_nil,or_false] at hm;omega
  refine hM _ _ ⟨ai hp _,wd.toNat,?_,by omega,by omega⟩
  rw[show ((wd.toNat:Nat):Int)=wd by omega]
  rfl
 rintro σ G4 ⟨s4,f,rfl,f1,f3⟩
 have zM:Sz 20 (M:Int):=Nat.lt_of_le_of_lt (show (M:Int).natAbs<=1000 by omega) (by decide)
 have zf:Sz 20 (f:Int):=Nat.lt_of_le_of_lt (show (f:Int).natAbs<=1000 by omega) (by decide)
 obtain⟨U,hU⟩:∃ U:Nat,U=M*f:=⟨_,rfl⟩
 have U1:1<=U:=by rw[hU];exact Nat.mul_pos M1 f1
 have U60:U<=60:=by rw[hU];exact Nat.mul_le_mul M20 f3
 have Ui:(U:Int)=(M:Int)*(f:Int):=by rw[hU];rfl
 have Up:(0:Int)<(U:Int):=by omega
 have zU:Sz 20 (U:Int):=Nat.lt_of_le_of_lt (show (U:Int).natAbs<=1000 by omega) (by decide)
 have fs4:=fs3.keep s4
 refine bQ (λ σ G'=>G'=G4/\σ = [some (.ref a),some (.int c0),some (.int n),some (.int (M:Int)),some (.int (bt:Int)),some (.int (t:Int)),some (.ref sa),some (.int (f:Int)),some (.int (U:Int)),none,none,none,none,none,none]) ?_ ?_
 ·intro M' hM
  refine⟨_,rfl,_,rfl,_,_,rfl,rfl,⟨zM.smk (by decide),zf.smk (by decide)⟩,hM _ _ ⟨rfl,?_⟩⟩
  rw[Ui]
  rfl
 rintro σ G5 ⟨rfl,rfl⟩
 have s05:=(s1.trans s3).trans s4
 have tr:=uW (s0:=s0) (s1:=sh.den) (n:=n) (by omega) (by omega) U1
 refine bQ (λ σ G'=>ak G5 G'/\∃ (x l:Addr) (zs:List (Int×Int)) (v:Option V),σ = [some (.ref a),some (.int c0),some (.int n),some (.int (M:Int)),some (.int (bt:Int)),some (.int (t:Int)),some (.ref sa),some (.int (f:Int)),some (.int (U:Int)),some (.ref x),some (.ref l),v,none,none,none]/\Rdy U n sh G' x l zs) ?_ ?_
 ·intro M' hM
  refine⟨_,rfl,_,_,rfl,rfl,⟨by decide,by decide⟩,_,_,rfl,rfl,(by show (0:Int)<2;decide),rfl,_,rfl,?_⟩
  refine fE (λ d=>?_) (λ d=>?_)
  ·refine⟨_,rfl,_,rfl,_,rfl,n,s0,sh.den,U,sa,rfl,?_,by omega,by omega,by omega,by omega,U1,U60,λ x G6 s6 ra=>?_⟩
   ·rw[hs0];exact s4 _ _ hsa
   obtain⟨tt,ws,o1,o2,rp⟩:=ra.ob
   have ov:=Ag (n:=n) (mo:=cH s0 sh.den) U1
   have hx:Qa U G6 x n (bW n (cH s0 sh.den) U):=⟨⟨⟨tt,ws,o1,o2,rp⟩,tr.rule n1 (by omega)⟩,ov⟩
   refine⟨_,rfl,_,rfl,x,U,n,_,rfl,hx,by omega,by omega,λ l G7 s7 st=>?_⟩
   have e:=mE (U:=U) (by omega) ov
   refine hM _ _ ⟨s6.trans s7,x,l,_,none,rfl,⟨by rw[e];exact hx.keep s7,st,by simp [stZ,cZ],?_⟩⟩
   rw[e]
   exact oi (by omega) (by omega) U1 n1 (by omega) es
  ·refine⟨_,rfl,_,rfl,_,rfl,_,rfl,a,sa,ns,n,(U:Int),sh,rfl,s05.seq hS,n1,by omega,Up,by omega,fs4,pM (by omega) (by omega) U1 n1 (by omega) es,λ l zs G6 s6 st lz ir sr=>?_⟩
   obtain⟨ws,hl,row⟩:=st.ob
   have lw:=row.len
   have isz:=(d4 Up).mp ir
   refine⟨_,rfl,l,rfl,⟨_,SqL.of hl⟩,λ D hD=>?_⟩
   refine ji (λ i ys G'=>cK G' ((Gc.shr (U:Int) zs).take i) ys) hD (SqL.of hl) (fD (by omega)) rfl (λ i hi=>by obtain⟨b,f1,f2⟩:=row.at (show i<zs.length by omega);exact⟨b,_,_,f1,f2⟩) ?_ ?_
   ·intro i b u v ys G7 kk hb hbt sm hD3 r hk
    have hi:i<zs.length:=by have:=(List.getElem?_eq_some_iff.mp hb).1;omega
    obtain⟨b',g1,g2⟩:=row.at hi
    rw[hb] at g1
    cases g1
    rw[g2] at hbt
    cases hbt
    have zi:=(isz i hi).1
    have tk:(Gc.shr (U:Int) zs).take (i+1)=(Gc.shr (U:Int) zs).take i++[(rq (zs.getD i (0,0)).1 (U:Int),rq (zs.getD i (0,0)).2 (U:Int))]:=by
     rw[List.take_add_one]
     congr 1
     simp [Gc.shr,hi,rq,List.getD]
    rw[tk] at hk
    generalize zs.getD i (0,0)=p at *
    refine⟨_,rfl,_,rfl,_,_,rfl,zi.1,Up,zU.smk (by decide),λ p1 G8 s8 e1=>?_⟩
    refine⟨_,rfl,_,rfl,_,_,rfl,by omega,Up,zU.smk (by decide),λ p2 G9 s9 e2=>?_⟩
    refine⟨two,λ p3 hp3=>?_⟩
    have sp:=ai hp3 (.tup [V.ref p1,V.ref p2])
    have sx:=(s8.trans s9).trans sp
    refine hk _ _ sx ?_
    refine ((r.keep sx).app (show cK _ [_] [.ref p3] from ⟨p3,p1,p2,[],rfl,ad,?_,?_,rfl⟩)).write (sx _ _ hD3)
    ·exact (mF zi.1 (by omega) Up zU (by decide) ((s9.trans sp) _ _ e1)).1
    ·exact (mF (by omega) zi.2.2 Up zU (by decide) (sp _ _ e2)).1
   intro ys G7 s7 hD7 ly r
   rw[List.take_of_length_le (by rw[bN];omega)] at r
   have lnP:(Gc.shr (U:Int) zs).length=n+1:=by rw[bN];exact lz
   have ovP:∀ p∈Gc.shr (U:Int) zs,Ov U p.1/\Ov U p.2:=λ p hp=>by
    obtain⟨z,hz,rfl⟩:=List.mem_map.mp hp
    exact⟨vV rfl Up,vV rfl Up⟩
   have smP:SmQ 60 (Gc.shr (U:Int) zs):=λ p hp=>by
    obtain⟨u,v,w⟩:=ir.inn p hp
    obtain⟨o1,o2⟩:=ovP p hp
    exact⟨(lS (by omega) (by omega) o1 u (by grind)).mono (by decide),(lS (by omega) (by omega) o2 (by grind) w).mono (by decide)⟩
   have eS:dG (.lst (thL (Gc.shr (U:Int) zs)))=some (thL (Gc.shr (U:Int) zs)):=rfl
   have gU:=kf (n:=(n:Int)) eS (by omega) (by omega) (by rw[lnP];rfl) ir
   refine⟨_,rfl,_,rfl,_,_,.int (n:Int),.lst (thL (Gc.shr (U:Int) zs)),rfl,rfl,⟨D,ys,rfl,hD7,by rw[pS];exact iu r⟩,vB eS smP,λ n' ps' g x G8 s8 df=>?_,λ no=>(no _ _ gU).elim⟩
   obtain⟨e1,e2⟩:=sH gU g
   subst e1 e2
   exact hM _ _ ⟨(s6.trans s7).trans s8,x,l,zs,_,rfl,⟨zR (by omega) (by omega) n1 (by omega) lnP ir ovP df,(st.keep s7).keep s8,lz,sr⟩⟩
 rintro σ G6 ⟨s6,x,l,zs,v,rfl,rdy⟩
 obtain⟨hx,st,lz,sr⟩:=rdy
 have fs6:=fs4.keep s6
 have s06:=s05.trans s6
 have tb6:=tb0.keep s06
 have dvd:((M:Int)).toNat ∣ U:=by rw[hU];exact Nat.dvd_mul_right ..
 have mf:MF (M:Int) (f:Int) n:=⟨by omega,by omega,by omega,n1,by omega⟩
 have irP:=hx.ru.isr
 refine⟨_,rfl,_,rfl,_,rfl,x,sa,U,n,(M:Int),sh,_,rfl,hx,fs6,by omega,by omega,by omega,dvd,by omega,by omega,tb6,sr,λ ps' y G7 run sT tb7 hy=>?_⟩
 obtain⟨noM,irM,srM,wiM⟩:=B7 (by omega) n1 (by omega) run irP sr (by rw[bN];exact lz)
 have e':=mE (U:=U) (by omega) hy.ov
 obtain⟨tp6,hT6,_⟩:=tb6
 have tups:=sT.tup hT6
 have fs7:=fs6.map tups
 have st7:=st.over hT6 sT
 refine⟨_,rfl,_,rfl,y,U,n,ps',rfl,hy,by omega,by omega,λ l2 G8 s8 st2=>?_⟩
 generalize hz2:stZ U ps'=zs2 at *
 have lz2:zs2.length=n+1:=by rw[<-bN (U:Int),e'];exact hy.ru.ok.len
 obtain⟨tt,yz,oy,ot,rowy⟩:=hy.ru.ob
 obtain⟨ws2,hw2,row2⟩:=st2.ob
 have lw2:=row2.len
 have fs8:=fs7.keep s8
 have st8:=st7.keep s8
 have oy8:=s8 _ _ oy
 have e2:Gc.shr ((M:Int)*(f:Int)) zs2=ps':=by rw[<-Ui];exact e'
 have e3:Gc.shr ((M:Int)*(f:Int)) zs=Gc.shr (U:Int) zs:=by rw[<-Ui]
 refine⟨_,rfl,y,_,0,_,rfl,rfl,SqT.of oy8,at0,_,rfl,rfl,_,rfl,?_⟩
 rw[decide_eq_true rfl]
 refine aW ⟨_,rfl,rfl,_,rfl,aW ⟨_,rfl,l2,_,rfl,.inl (SqL.of hw2),_,rfl,_,_,rfl,rfl,rfl,_,rfl,?_⟩⟩
 rw[decide_eq_true (show V.int ((ws2.length:Nat):Int)=V.int ((n:Int)+1) by rw[lw2,lz2];rfl)]
 refine aW ⟨_,rfl,_,rfl,_,rfl,_,rfl,l2,sa,n,(M:Int),(f:Int),sh,zs2,by rw[Ui];rfl,st2,lz2,mf,fs8,by rw[e2];exact irM,by rw[e2];exact srM,by rw[e2];exact noM,λ G9 s9=>⟨_,rfl,aW ?_⟩⟩
 obtain⟨ws,hw,row⟩:=st8.ob
 have lw:=row.len
 refine⟨_,rfl,_,_,rfl,rfl,_,rfl,by omega,by omega,?_⟩
 rw[show ((n:Int)+1).toNat=n+1 by omega]
 refine bY (lo:=0) (λ i σ G=>ak G8 G/\∃ w,σ = [some (.ref a),some (.int c0),some (.int n),some (.int (M:Int)),some (.int (bt:Int)),some (.int (t:Int)),some (.ref sa),some (.int (f:Int)),some (.int (U:Int)),some (.ref x),some (.ref l),v,some (.ref y),some (.ref l2),w]) ⟨s9,_,rfl⟩ ?_ ?_
 ·rintro i σ G hi ⟨sG,w,rfl⟩
  rw[show (0:Int)+(i:Int)=(i:Int) by omega]
  obtain⟨b1',f1',g1'⟩:=(row2.keep sG).at (show i<zs2.length by omega)
  obtain⟨b2',f2',g2'⟩:=(row.keep sG).at (show i<zs.length by omega)
  have wl:=wiM.low i
  have wh:=wiM.high i
  rw[<-e',dF (show i<zs.length by omega),dF (show i<zs2.length by omega)] at wl wh
  have wl':=(Gc.bc Up _ _).mp wl
  have wh':=(Gc.bc Up _ _).mp wh
  generalize zs.getD i (0,0)=p at *
  generalize zs2.getD i (0,0)=p2 at *
  refine⟨_,rfl,_,rfl,l2,ws2,_,_,rfl,rfl,SqL.of (sG _ _ hw2),bx f1',b1',_,0,_,rfl,rfl,SqT.of g1',at0,_,rfl,_,rfl,l,ws,_,_,rfl,rfl,SqL.of (sG _ _ hw),bx f2',b2',_,0,_,rfl,rfl,SqT.of g2',at0,_,_,rfl,rfl,_,rfl,?_⟩
  rw[decide_eq_false (show ¬ p2.1<p.1 by omega)]
  refine aW ⟨_,rfl,_,rfl,l2,ws2,_,_,rfl,rfl,SqL.of (sG _ _ hw2),bx f1',b1',_,1,_,rfl,rfl,SqT.of g1',at1,_,rfl,_,rfl,l,ws,_,_,rfl,rfl,SqL.of (sG _ _ hw),bx f2',b2',_,1,_,rfl,rfl,SqT.of g2',at1,_,_,rfl,rfl,_,rfl,?_⟩
  rw[decide_eq_false (show ¬ p.2<p2.2 by omega)]
  exact aW ⟨sG,_,rfl⟩
 rintro σ G ⟨sG,w,rfl⟩
 refine⟨_,rfl,_,rfl,_,rfl,_,rfl,_,rfl,l,sa,n,(M:Int),(f:Int),sh,zs,by rw[Ui];rfl,st8.keep sG,lz,mf,fs8.keep sG,λ l3 zs3 Ga sa' st3 lz3 run3=>?_⟩
 have ez:zs2=zs3:=rB (U:=(M:Int)*(f:Int)) mf.u0 (by rw[e2];rw[e3] at run3;exact lN run run3)
 refine⟨_,(st2.keep (sG.trans sa')).den,by rw[ez];exact st3.den,?_,_,rfl,aW ?_⟩
 ·have:=z6 zs2
  simp only[dQ]
  omega
 have s8a:=(sG.trans sa')
 have hy7:=(hy.keep s8).keep s8a
 refine⟨_,rfl,_,rfl,_,rfl,y,sa,U,n,(M:Int),sh,ps',rfl,hy7,fs8.keep s8a,by omega,by omega,by omega,dvd,by omega,by omega,(tb7.keep s8).keep s8a,srM,λ ps2 y2 Gb run2 sTb tbb hy2=>?_⟩
 have e5:=jR (λ p hp=>noM p.1 p.2 (ku hp)) run2
 subst e5
 obtain⟨tp7,hT7,_⟩:=(tb7.keep s8).keep s8a
 refine⟨_,rfl,_,zQ hy2,zQ (hy7.map (sTb.tup hT7)),?_,q _⟩
 have:=z7 ps2
 simp only[dQ,cg]
 omega
end
theorem all_mk {l:PySem.W.OpenLaw}{w:World}{K:PySem.W.Frag}{h:Heap}{mg:Str->Option Value}{fa f_whole f_share f_wpair f_cd f_frac f_plus f_minus f_und f_cho f_pow f_wtop f_rsum f_ruleof f_rowof f_str f_rov f_kov f_sor f_edges f_pieces f_least f_lpl f_sure f_lack f_tails f_half f_tlow f_thigh f_mov f_we f_tgt f_swm f_mt f_cell f_dv f_low f_pows f_chs f_ltp f_lru f_sts f_drw f_ltg f_mvi f_due f_law f_lis:Addr} (X:K.In h) (G:h.Ns mainGlobals mg) (hfa:mg "law" = some (.ref fa))
  (a_whole:PySem.W.nsIn K mainGlobals "is_whole" = some (some (.ref f_whole))) (l_whole:K.lookup f_whole=some ⟨oc_whole,od_whole,.func (PySem.W.fnOf "is_whole" "is_whole" (ay gb) (av gb) (ag gb) .none kV_whole dc_whole pm_whole an_whole cd_whole ct_whole),sl_whole⟩) (c_whole:PySem.W.codeIn K cd_whole "is_whole" = true) (k_whole:PySem.W.keepIn K (.ref f_whole)=true)
  (a_share:PySem.W.nsIn K mainGlobals "is_share" = some (some (.ref f_share))) (l_share:K.lookup f_share=some ⟨oc_share,od_share,.func (PySem.W.fnOf "is_share" "is_share" (ay gg) (av gg) (ag gg) .none kV_share dc_share pm_share an_share cd_share ct_share),sl_share⟩) (c_share:PySem.W.codeIn K cd_share "is_share" = true) (k_share:PySem.W.keepIn K (.ref f_share)=true)
  (a_wpair:PySem.W.nsIn K mainGlobals "is_whole_pair" = some (some (.ref f_wpair))) (l_wpair:K.lookup f_wpair=some ⟨oc_wpair,od_wpair,.func (PySem.W.fnOf "is_whole_pair" "is_whole_pair" (ay f9) (av f9) (ag f9) .none kV_wpair dc_wpair pm_wpair an_wpair cd_wpair ct_wpair),sl_wpair⟩) (c_wpair:PySem.W.codeIn K cd_wpair "is_whole_pair" = true) (k_wpair:PySem.W.keepIn K (.ref f_wpair)=true)
  (a_cd:PySem.W.nsIn K mainGlobals "common_divisor" = some (some (.ref f_cd))) (l_cd:K.lookup f_cd=some ⟨oc_cd,od_cd,.func (PySem.W.fnOf "common_divisor" "common_divisor" (ay tO) (av tO) (ag tO) .none kV_cd dc_cd pm_cd an_cd cd_cd ct_cd),sl_cd⟩) (c_cd:PySem.W.codeIn K cd_cd "common_divisor" = true) (k_cd:PySem.W.keepIn K (.ref f_cd)=true)
  (a_frac:PySem.W.nsIn K mainGlobals "fraction" = some (some (.ref f_frac))) (l_frac:K.lookup f_frac=some ⟨oc_frac,od_frac,.func (PySem.W.fnOf "fraction" "fraction" (ay iO) (av iO) (ag iO) .none kV_frac dc_frac pm_frac an_frac cd_frac ct_frac),sl_frac⟩) (c_frac:PySem.W.codeIn K cd_frac "fraction" = true) (k_frac:PySem.W.keepIn K (.ref f_frac)=true)
  (a_plus:PySem.W.nsIn K mainGlobals "plus" = some (some (.ref f_plus))) (l_plus:K.lookup f_plus=some ⟨oc_plus,od_plus,.func (PySem.W.fnOf "plus" "plus" (ay iL) (av iL) (ag iL) .none kV_plus dc_plus pm_plus an_plus cd_plus ct_plus),sl_plus⟩) (c_plus:PySem.W.codeIn K cd_plus "plus" = true) (k_plus:PySem.W.keepIn K (.ref f_plus)=true)
  (a_minus:PySem.W.nsIn K mainGlobals "minus" = some (some (.ref f_minus))) (l_minus:K.lookup f_minus=some ⟨oc_minus,od_minus,.func (PySem.W.fnOf "minus" "minus" (ay gq) (av gq) (ag gq) .none kV_minus dc_minus pm_minus an_minus cd_minus ct_minus),sl_minus⟩) (c_minus:PySem.W.codeIn K cd_minus "minus" = true) (k_minus:PySem.W.keepIn K (.ref f_minus)=true)
  (a_und:PySem.W.nsIn K mainGlobals "under" = some (some (.ref f_und))) (l_und:K.lookup f_und=some ⟨oc_und,od_und,.func (PySem.W.fnOf "under" "under" (ay k6) (av k6) (ag k6) .none kV_und dc_und pm_und an_und cd_und ct_und),sl_und⟩) (c_und:PySem.W.codeIn K cd_und "under" = true) (k_und:PySem.W.keepIn K (.ref f_und)=true)
  (a_cho:PySem.W.nsIn K mainGlobals "choices" = some (some (.ref f_cho))) (l_cho:K.lookup f_cho=some ⟨oc_cho,od_cho,.func (PySem.W.fnOf "choices" "choices" (ay lM) (av lM) (ag lM) .none kV_cho dc_cho pm_cho an_cho cd_cho ct_cho),sl_cho⟩) (c_cho:PySem.W.codeIn K cd_cho "choices" = true) (k_cho:PySem.W.keepIn K (.ref f_cho)=true)
  (a_pow:PySem.W.nsIn K mainGlobals "power" = some (some (.ref f_pow))) (l_pow:K.lookup f_pow=some ⟨oc_pow,od_pow,.func (PySem.W.fnOf "power" "power" (ay lv) (av lv) (ag lv) .none kV_pow dc_pow pm_pow an_pow cd_pow ct_pow),sl_pow⟩) (c_pow:PySem.W.codeIn K cd_pow "power" = true) (k_pow:PySem.W.keepIn K (.ref f_pow)=true)
  (a_wtop:PySem.W.nsIn K mainGlobals "weight_top" = some (some (.ref f_wtop))) (l_wtop:K.lookup f_wtop=some ⟨oc_wtop,od_wtop,.func (PySem.W.fnOf "weight_top" "weight_top" (ay iG) (av iG) (ag iG) .none kV_wtop dc_wtop pm_wtop an_wtop cd_wtop ct_wtop),sl_wtop⟩) (c_wtop:PySem.W.codeIn K cd_wtop "weight_top" = true) (k_wtop:PySem.W.keepIn K (.ref f_wtop)=true)
  (a_rsum:PySem.W.nsIn K mainGlobals "run_sum" = some (some (.ref f_rsum))) (l_rsum:K.lookup f_rsum=some ⟨oc_rsum,od_rsum,.func (PySem.W.fnOf "run_sum" "run_sum" (ay iJ) (av iJ) (ag iJ) .none kV_rsum dc_rsum pm_rsum an_rsum cd_rsum ct_rsum),sl_rsum⟩) (c_rsum:PySem.W.codeIn K cd_rsum "run_sum" = true) (k_rsum:PySem.W.keepIn K (.ref f_rsum)=true)
  (a_ruleof:PySem.W.nsIn K mainGlobals "rule_of" = some (some (.ref f_ruleof))) (l_ruleof:K.lookup f_ruleof=some ⟨oc_ruleof,od_ruleof,.func (PySem.W.fnOf "rule_of" "rule_of" (ay eE) (av eE) (ag eE) .none kV_ruleof dc_ruleof pm_ruleof an_ruleof cd_ruleof ct_ruleof),sl_ruleof⟩) (c_ruleof:PySem.W.codeIn K cd_ruleof "rule_of" = true) (k_ruleof:PySem.W.keepIn K (.ref f_ruleof)=true)
  (a_rowof:PySem.W.nsIn K mainGlobals "is_row_of" = some (some (.ref f_rowof))) (l_rowof:K.lookup f_rowof=some ⟨oc_rowof,od_rowof,.func (PySem.W.fnOf "is_row_of" "is_row_of" (ay gi) (av gi) (ag gi) .none kV_rowof dc_rowof pm_rowof an_rowof cd_rowof ct_rowof),sl_rowof⟩) (c_rowof:PySem.W.codeIn K cd_rowof "is_row_of" = true) (k_rowof:PySem.W.keepIn K (.ref f_rowof)=true)
  (a_str:PySem.W.nsIn K mainGlobals "stretch_of" = some (some (.ref f_str))) (l_str:K.lookup f_str=some ⟨oc_str,od_str,.func (PySem.W.fnOf "stretch_of" "stretch_of" (ay k9) (av k9) (ag k9) .none kV_str dc_str pm_str an_str cd_str ct_str),sl_str⟩) (c_str:PySem.W.codeIn K cd_str "stretch_of" = true) (k_str:PySem.W.keepIn K (.ref f_str)=true)
  (a_rov:PySem.W.nsIn K mainGlobals "run_over" = some (some (.ref f_rov))) (l_rov:K.lookup f_rov=some ⟨oc_rov,od_rov,.func (PySem.W.fnOf "run_over" "run_over" (ay lj) (av lj) (ag lj) .none kV_rov dc_rov pm_rov an_rov cd_rov ct_rov),sl_rov⟩) (c_rov:PySem.W.codeIn K cd_rov "run_over" = true) (k_rov:PySem.W.keepIn K (.ref f_rov)=true)
  (a_kov:PySem.W.nsIn K mainGlobals "cover" = some (some (.ref f_kov))) (l_kov:K.lookup f_kov=some ⟨oc_kov,od_kov,.func (PySem.W.fnOf "cover" "cover" (ay lI) (av lI) (ag lI) .none kV_kov dc_kov pm_kov an_kov cd_kov ct_kov),sl_kov⟩) (c_kov:PySem.W.codeIn K cd_kov "cover" = true) (k_kov:PySem.W.keepIn K (.ref f_kov)=true)
  (a_sor:PySem.W.nsIn K mainGlobals "sum_of_run" = some (some (.ref f_sor))) (l_sor:K.lookup f_sor=some ⟨oc_sor,od_sor,.func (PySem.W.fnOf "sum_of_run" "sum_of_run" (ay lg) (av lg) (ag lg) .none kV_sor dc_sor pm_sor an_sor cd_sor ct_sor),sl_sor⟩) (c_sor:PySem.W.codeIn K cd_sor "sum_of_run" = true) (k_sor:PySem.W.keepIn K (.ref f_sor)=true)
  (a_edges:PySem.W.nsIn K mainGlobals "edges" = some (some (.ref f_edges))) (l_edges:K.lookup f_edges=some ⟨oc_edges,od_edges,.func (PySem.W.fnOf "edges" "edges" (ay gu) (av gu) (ag gu) .none kV_edges dc_edges pm_edges an_edges cd_edges ct_edges),sl_edges⟩) (c_edges:PySem.W.codeIn K cd_edges "edges" = true) (k_edges:PySem.W.keepIn K (.ref f_edges)=true)
  (a_pieces:PySem.W.nsIn K mainGlobals "pieces" = some (some (.ref f_pieces))) (l_pieces:K.lookup f_pieces=some ⟨oc_pieces,od_pieces,.func (PySem.W.fnOf "pieces" "pieces" (ay eF) (av eF) (ag eF) .none kV_pieces dc_pieces pm_pieces an_pieces cd_pieces ct_pieces),sl_pieces⟩) (c_pieces:PySem.W.codeIn K cd_pieces "pieces" = true) (k_pieces:PySem.W.keepIn K (.ref f_pieces)=true)
  (a_least:PySem.W.nsIn K mainGlobals "least" = some (some (.ref f_least))) (l_least:K.lookup f_least=some ⟨oc_least,od_least,.func (PySem.W.fnOf "least" "least" (ay gr) (av gr) (ag gr) .none kV_least dc_least pm_least an_least cd_least ct_least),sl_least⟩) (c_least:PySem.W.codeIn K cd_least "least" = true) (k_least:PySem.W.keepIn K (.ref f_least)=true)
  (a_lpl:PySem.W.nsIn K mainGlobals "least_place" = some (some (.ref f_lpl))) (l_lpl:K.lookup f_lpl=some ⟨oc_lpl,od_lpl,.func (PySem.W.fnOf "least_place" "least_place" (ay lF) (av lF) (ag lF) .none kV_lpl dc_lpl pm_lpl an_lpl cd_lpl ct_lpl),sl_lpl⟩) (c_lpl:PySem.W.codeIn K cd_lpl "least_place" = true) (k_lpl:PySem.W.keepIn K (.ref f_lpl)=true)
  (a_sure:PySem.W.nsIn K mainGlobals "sure" = some (some (.ref f_sure))) (l_sure:K.lookup f_sure=some ⟨oc_sure,od_sure,.func (PySem.W.fnOf "sure" "sure" (ay iI) (av iI) (ag iI) .none kV_sure dc_sure pm_sure an_sure cd_sure ct_sure),sl_sure⟩) (c_sure:PySem.W.codeIn K cd_sure "sure" = true) (k_sure:PySem.W.keepIn K (.ref f_sure)=true)
  (a_lack:PySem.W.nsIn K mainGlobals "share_lacking" = some (some (.ref f_lack))) (l_lack:K.lookup f_lack=some ⟨oc_lack,od_lack,.func (PySem.W.fnOf "share_lacking" "share_lacking" (ay iM) (av iM) (ag iM) .none kV_lack dc_lack pm_lack an_lack cd_lack ct_lack),sl_lack⟩) (c_lack:PySem.W.codeIn K cd_lack "share_lacking" = true) (k_lack:PySem.W.keepIn K (.ref f_lack)=true)
  (a_tails:PySem.W.nsIn K mainGlobals "tails" = some (some (.ref f_tails))) (l_tails:K.lookup f_tails=some ⟨oc_tails,od_tails,.func (PySem.W.fnOf "tails" "tails" (ay gf) (av gf) (ag gf) .none kV_tails dc_tails pm_tails an_tails cd_tails ct_tails),sl_tails⟩) (c_tails:PySem.W.codeIn K cd_tails "tails" = true) (k_tails:PySem.W.keepIn K (.ref f_tails)=true)
  (a_half:PySem.W.nsIn K mainGlobals "half_of_what_is_left" = some (some (.ref f_half))) (l_half:K.lookup f_half=some ⟨oc_half,od_half,.func (PySem.W.fnOf "half_of_what_is_left" "half_of_what_is_left" (ay iN) (av iN) (ag iN) .none kV_half dc_half pm_half an_half cd_half ct_half),sl_half⟩) (c_half:PySem.W.codeIn K cd_half "half_of_what_is_left" = true) (k_half:PySem.W.keepIn K (.ref f_half)=true)
  (a_tlow:PySem.W.nsIn K mainGlobals "tails_low" = some (some (.ref f_tlow))) (l_tlow:K.lookup f_tlow=some ⟨oc_tlow,od_tlow,.func (PySem.W.fnOf "tails_low" "tails_low" (ay iH) (av iH) (ag iH) .none kV_tlow dc_tlow pm_tlow an_tlow cd_tlow ct_tlow),sl_tlow⟩) (c_tlow:PySem.W.codeIn K cd_tlow "tails_low" = true) (k_tlow:PySem.W.keepIn K (.ref f_tlow)=true)
  (a_thigh:PySem.W.nsIn K mainGlobals "tails_high" = some (some (.ref f_thigh))) (l_thigh:K.lookup f_thigh=some ⟨oc_thigh,od_thigh,.func (PySem.W.fnOf "tails_high" "tails_high" (ay gc) (av gc) (ag gc) .none kV_thigh dc_thigh pm_thigh an_thigh cd_thigh ct_thigh),sl_thigh⟩) (c_thigh:PySem.W.codeIn K cd_thigh "tails_high" = true) (k_thigh:PySem.W.keepIn K (.ref f_thigh)=true)
  (a_mov:PySem.W.nsIn K mainGlobals "moved" = some (some (.ref f_mov))) (l_mov:K.lookup f_mov=some ⟨oc_mov,od_mov,.func (PySem.W.fnOf "moved" "moved" (ay lB) (av lB) (ag lB) .none kV_mov dc_mov pm_mov an_mov cd_mov ct_mov),sl_mov⟩) (c_mov:PySem.W.codeIn K cd_mov "moved" = true) (k_mov:PySem.W.keepIn K (.ref f_mov)=true)
  (a_we:PySem.W.nsIn K mainGlobals "with_end" = some (some (.ref f_we))) (l_we:K.lookup f_we=some ⟨oc_we,od_we,.func (PySem.W.fnOf "with_end" "with_end" (ay tL) (av tL) (ag tL) .none kV_we dc_we pm_we an_we cd_we ct_we),sl_we⟩) (c_we:PySem.W.codeIn K cd_we "with_end" = true) (k_we:PySem.W.keepIn K (.ref f_we)=true)
  (a_tgt:PySem.W.nsIn K mainGlobals "tight" = some (some (.ref f_tgt))) (l_tgt:K.lookup f_tgt=some ⟨oc_tgt,od_tgt,.func (PySem.W.fnOf "tight" "tight" (ay dX) (av dX) (ag dX) .none kV_tgt dc_tgt pm_tgt an_tgt cd_tgt ct_tgt),sl_tgt⟩) (c_tgt:PySem.W.codeIn K cd_tgt "tight" = true) (k_tgt:PySem.W.keepIn K (.ref f_tgt)=true)
  (a_swm:PySem.W.nsIn K mainGlobals "sure_when_moved" = some (some (.ref f_swm))) (l_swm:K.lookup f_swm=some ⟨oc_swm,od_swm,.func (PySem.W.fnOf "sure_when_moved" "sure_when_moved" (ay k7) (av k7) (ag k7) .none kV_swm dc_swm pm_swm an_swm cd_swm ct_swm),sl_swm⟩) (c_swm:PySem.W.codeIn K cd_swm "sure_when_moved" = true) (k_swm:PySem.W.keepIn K (.ref f_swm)=true)
  (a_mt:PySem.W.nsIn K mainGlobals "made_tight" = some (some (.ref f_mt))) (l_mt:K.lookup f_mt=some ⟨oc_mt,od_mt,.func (PySem.W.fnOf "made_tight" "made_tight" (ay tM) (av tM) (ag tM) .none kV_mt dc_mt pm_mt an_mt cd_mt ct_mt),sl_mt⟩) (c_mt:PySem.W.codeIn K cd_mt "made_tight" = true) (k_mt:PySem.W.keepIn K (.ref f_mt)=true)
  (a_cell:PySem.W.nsIn K mainGlobals "_law_cell_at" = some (some (.ref f_cell))) (l_cell:K.lookup f_cell=some ⟨oc_cell,od_cell,.func (PySem.W.fnOf "_law_cell_at" "_law_cell_at" (ay iP) (av iP) (ag iP) .none kV_cell dc_cell pm_cell an_cell cd_cell ct_cell),sl_cell⟩) (c_cell:PySem.W.codeIn K cd_cell "_law_cell_at" = true) (k_cell:PySem.W.keepIn K (.ref f_cell)=true)
  (a_dv:PySem.W.nsIn K mainGlobals "_law_divisor" = some (some (.ref f_dv))) (l_dv:K.lookup f_dv=some ⟨oc_dv,od_dv,.func (PySem.W.fnOf "_law_divisor" "_law_divisor" (ay tN) (av tN) (ag tN) .none kV_dv dc_dv pm_dv an_dv cd_dv ct_dv),sl_dv⟩) (c_dv:PySem.W.codeIn K cd_dv "_law_divisor" = true) (k_dv:PySem.W.keepIn K (.ref f_dv)=true)
  (a_low:PySem.W.nsIn K mainGlobals "_law_fraction" = some (some (.ref f_low))) (l_low:K.lookup f_low=some ⟨oc_low,od_low,.func (PySem.W.fnOf "_law_fraction" "_law_fraction" (ay lG) (av lG) (ag lG) .none kV_low dc_low pm_low an_low cd_low ct_low),sl_low⟩) (c_low:PySem.W.codeIn K cd_low "_law_fraction" = true) (k_low:PySem.W.keepIn K (.ref f_low)=true)
  (a_pows:PySem.W.nsIn K mainGlobals "_law_powers" = some (some (.ref f_pows))) (l_pows:K.lookup f_pows=some ⟨oc_pows,od_pows,.func (PySem.W.fnOf "_law_powers" "_law_powers" (ay iK) (av iK) (ag iK) .none kV_pows dc_pows pm_pows an_pows cd_pows ct_pows),sl_pows⟩) (c_pows:PySem.W.codeIn K cd_pows "_law_powers" = true) (k_pows:PySem.W.keepIn K (.ref f_pows)=true)
  (a_chs:PySem.W.nsIn K mainGlobals "_law_choices" = some (some (.ref f_chs))) (l_chs:K.lookup f_chs=some ⟨oc_chs,od_chs,.func (PySem.W.fnOf "_law_choices" "_law_choices" (ay lL) (av lL) (ag lL) .none kV_chs dc_chs pm_chs an_chs cd_chs ct_chs),sl_chs⟩) (c_chs:PySem.W.codeIn K cd_chs "_law_choices" = true) (k_chs:PySem.W.keepIn K (.ref f_chs)=true)
  (a_ltp:PySem.W.nsIn K mainGlobals "_law_top" = some (some (.ref f_ltp))) (l_ltp:K.lookup f_ltp=some ⟨oc_ltp,od_ltp,.func (PySem.W.fnOf "_law_top" "_law_top" (ay lC) (av lC) (ag lC) .none kV_ltp dc_ltp pm_ltp an_ltp cd_ltp ct_ltp),sl_ltp⟩) (c_ltp:PySem.W.codeIn K cd_ltp "_law_top" = true) (k_ltp:PySem.W.keepIn K (.ref f_ltp)=true)
  (a_lru:PySem.W.nsIn K mainGlobals "_law_is_rule" = some (some (.ref f_lru))) (l_lru:K.lookup f_lru=some ⟨oc_lru,od_lru,.func (PySem.W.fnOf "_law_is_rule" "_law_is_rule" (ay lE) (av lE) (ag lE) .none kV_lru dc_lru pm_lru an_lru cd_lru ct_lru),sl_lru⟩) (c_lru:PySem.W.codeIn K cd_lru "_law_is_rule" = true) (k_lru:PySem.W.keepIn K (.ref f_lru)=true)
  (a_sts:PySem.W.nsIn K mainGlobals "_law_steps" = some (some (.ref f_sts))) (l_sts:K.lookup f_sts=some ⟨oc_sts,od_sts,.func (PySem.W.fnOf "_law_steps" "_law_steps" (ay k8) (av k8) (ag k8) .none kV_sts dc_sts pm_sts an_sts cd_sts ct_sts),sl_sts⟩) (c_sts:PySem.W.codeIn K cd_sts "_law_steps" = true) (k_sts:PySem.W.keepIn K (.ref f_sts)=true)
  (a_drw:PySem.W.nsIn K mainGlobals "_law_drawn" = some (some (.ref f_drw))) (l_drw:K.lookup f_drw=some ⟨oc_drw,od_drw,.func (PySem.W.fnOf "_law_drawn" "_law_drawn" (ay lK) (av lK) (ag lK) .none kV_drw dc_drw pm_drw an_drw cd_drw ct_drw),sl_drw⟩) (c_drw:PySem.W.codeIn K cd_drw "_law_drawn" = true) (k_drw:PySem.W.keepIn K (.ref f_drw)=true)
  (a_ltg:PySem.W.nsIn K mainGlobals "_law_tight" = some (some (.ref f_ltg))) (l_ltg:K.lookup f_ltg=some ⟨oc_ltg,od_ltg,.func (PySem.W.fnOf "_law_tight" "_law_tight" (ay lD) (av lD) (ag lD) .none kV_ltg dc_ltg pm_ltg an_ltg cd_ltg ct_ltg),sl_ltg⟩) (c_ltg:PySem.W.codeIn K cd_ltg "_law_tight" = true) (k_ltg:PySem.W.keepIn K (.ref f_ltg)=true)
  (a_mvi:PySem.W.nsIn K mainGlobals "_law_moved_in" = some (some (.ref f_mvi))) (l_mvi:K.lookup f_mvi=some ⟨oc_mvi,od_mvi,.func (PySem.W.fnOf "_law_moved_in" "_law_moved_in" (ay lA) (av lA) (ag lA) .none kV_mvi dc_mvi pm_mvi an_mvi cd_mvi ct_mvi),sl_mvi⟩) (c_mvi:PySem.W.codeIn K cd_mvi "_law_moved_in" = true) (k_mvi:PySem.W.keepIn K (.ref f_mvi)=true)
  (a_due:PySem.W.nsIn K mainGlobals "_law_due" = some (some (.ref f_due))) (l_due:K.lookup f_due=some ⟨oc_due,od_due,.func (PySem.W.fnOf "_law_due" "_law_due" (ay lJ) (av lJ) (ag lJ) .none kV_due dc_due pm_due an_due cd_due ct_due),sl_due⟩) (c_due:PySem.W.codeIn K cd_due "_law_due" = true) (k_due:PySem.W.keepIn K (.ref f_due)=true)
  (a_law:PySem.W.nsIn K mainGlobals "law" = some (some (.ref f_law))) (l_law:K.lookup f_law=some ⟨oc_law,od_law,.func (PySem.W.fnOf "law" "law" (ay gY) (av gY) (ag gY) .none kV_law dc_law pm_law an_law cd_law ct_law),sl_law⟩) (c_law:PySem.W.codeIn K cd_law "law" = true) (k_law:PySem.W.keepIn K (.ref f_law)=true)
  (a_lis:PySem.W.nsIn K mainGlobals "_law_is_sure" = some (some (.ref f_lis))) (l_lis:K.lookup f_lis=some ⟨oc_lis,od_lis,.func (PySem.W.fnOf "_law_is_sure" "_law_is_sure" (ay lH) (av lH) (ag lH) .none kV_lis dc_lis pm_lis an_lis cd_lis ct_lis),sl_lis⟩) (c_lis:PySem.W.codeIn K cd_lis "_law_is_sure" = true) (k_lis:PySem.W.keepIn K (.ref f_lis)=true)
  (z_range:PySem.W.nsIn K mainGlobals "range" = some none) (z_min:PySem.W.nsIn K mainGlobals "min" = some none) (z_max:PySem.W.nsIn K mainGlobals "max" = some none) (z_len:PySem.W.nsIn K mainGlobals "len" = some none) (z_isinstance:PySem.W.nsIn K mainGlobals "isinstance" = some none) (z_int:PySem.W.nsIn K mainGlobals "int" = some none) (z_bool:PySem.W.nsIn K mainGlobals "bool" = some none) (z_tuple:PySem.W.nsIn K mainGlobals "tuple" = some none) (z_abs:PySem.W.nsIn K mainGlobals "abs" = some none) (z_all:PySem.W.nsIn K mainGlobals "all" = some none) (z_zip:PySem.W.nsIn K mainGlobals "zip" = some none) (z_sum:PySem.W.nsIn K mainGlobals "sum" = some none) (z_list:PySem.W.nsIn K mainGlobals "list" = some none) (z_sorted:PySem.W.nsIn K mainGlobals "sorted" = some none) (z_set:PySem.W.nsIn K mainGlobals "set" = some none) (z_reversed:PySem.W.nsIn K mainGlobals "reversed" = some none) (z_ValueError:PySem.W.nsIn K mainGlobals "ValueError" = some none)
  {d_StretchError d_NoNumber d_NoRule d_NotSure d_TooMuch:Addr}
  (n_StretchError:PySem.W.nsIn K mainGlobals "StretchError" = some (some (.ref d_StretchError)))
  (n_NoNumber:PySem.W.nsIn K mainGlobals "NoNumber" = some (some (.ref d_NoNumber)))
  (n_NoRule:PySem.W.nsIn K mainGlobals "NoRule" = some (some (.ref d_NoRule)))
  (n_NotSure:PySem.W.nsIn K mainGlobals "NotSure" = some (some (.ref d_NotSure)))
  (n_TooMuch:PySem.W.nsIn K mainGlobals "TooMuch" = some (some (.ref d_TooMuch)))
  (x_NoRule:PySem.W.excIn K d_NoRule vbm "ValueError.__new__" = true)
  (ic_NoRule:PySem.W.isClsIn K d_NoRule=true)
  (ga_NoRule:PySem.W.findIn K (.ref d_NoRule) "__getattribute__" = some (some (.builtin "BaseException.__getattribute__")))
  (gt_NoRule:PySem.W.findIn K (.ref d_NoRule) "__getattr__" = some none)
  (cl_NoRule:PySem.W.findIn K (.ref d_NoRule) "__class__" = some (some (.builtin "object.__class__")))
  (sg_NoRule:PySem.W.specialIn K (.builtin "object.__class__") "__get__" = some (some (.builtin "getset_descriptor.__get__")))
  (tk_NoRule:PySem.W.takesIn K (.builtin "object.__class__")=some true)
  (ob_NoRule:PySem.W.mroIn K d_NoRule (.type "object")=some true)
  (be_NoRule:PySem.W.mroIn K d_NoRule (.type "BaseException")=some true)
  (x_NoNumber:PySem.W.excIn K d_NoNumber vbm "ValueError.__new__" = true)
  (ic_NoNumber:PySem.W.isClsIn K d_NoNumber=true)
  (ga_NoNumber:PySem.W.findIn K (.ref d_NoNumber) "__getattribute__" = some (some (.builtin "BaseException.__getattribute__")))
  (gt_NoNumber:PySem.W.findIn K (.ref d_NoNumber) "__getattr__" = some none)
  (cl_NoNumber:PySem.W.findIn K (.ref d_NoNumber) "__class__" = some (some (.builtin "object.__class__")))
  (sg_NoNumber:PySem.W.specialIn K (.builtin "object.__class__") "__get__" = some (some (.builtin "getset_descriptor.__get__")))
  (tk_NoNumber:PySem.W.takesIn K (.builtin "object.__class__")=some true)
  (ob_NoNumber:PySem.W.mroIn K d_NoNumber (.type "object")=some true)
  (be_NoNumber:PySem.W.mroIn K d_NoNumber (.type "BaseException")=some true)
  (t_NoRule:PySem.W.typeIn K (.ref d_NoRule)=some (.type "type")) (s_NoRule:PySem.W.isClsIn K d_NoRule=true) (u_NoRule:PySem.W.subIn K (.ref d_NoRule) (.type "BaseException")=some true)
  (f_sub:PySem.W.subIn K (.ref d_NoRule) (.ref d_NoRule)=some true) {cT T_:Addr}{oT:Value}{dT:Option Addr}{vsT:Array Value}{slT:Array (Option Value)} (hcT:cd_tgt=.ref cT) (lcT:K.lookup cT=some ⟨oT,dT,.fields vsT,slT⟩) (hvT:(vsT[11]? : Option Value)=some (.ref T_)) (tn:K.lookup T_=none) (ts:T_≠cStatics) :
  ∃ (c T:Addr) (fd:FuncData),PySem.W.tabIn K "tight" = some (c,T)/\K.lookup T=none/\T≠cStatics/\(∀ (s:Shared) (v:Value),BindsTo s fd ⟨[v],[]⟩ [("_law_script",v)]) /\
   ∀ base:Heap,K.In base->base.Ns mainGlobals mg->PySem.W.CodeHd base c T->base.BuiltinsAt mg T->ax l.prog w K mg base CX0 16 fa fd ["_law_script"] (rj K T):=by
 have tb:PySem.W.tabIn K "tight" = some (cT,T_):=L2.Ah a_tgt l_tgt hcT lcT hvT
 have e:=hfa.symm.trans (PySem.W.mg_of X G a_law)
 cases e
 have T:Txt mg:=⟨PySem.W.mg_none_of X G z_range,PySem.W.mg_none_of X G z_min,PySem.W.mg_none_of X G z_max,PySem.W.mg_none_of X G z_len,PySem.W.mg_none_of X G z_isinstance,PySem.W.mg_none_of X G z_int,PySem.W.mg_none_of X G z_bool,PySem.W.mg_none_of X G z_tuple,PySem.W.mg_none_of X G z_abs,PySem.W.mg_none_of X G z_all,PySem.W.mg_none_of X G z_zip,PySem.W.mg_none_of X G z_sum,PySem.W.mg_none_of X G z_list,PySem.W.mg_none_of X G z_sorted,PySem.W.mg_none_of X G z_set,PySem.W.mg_none_of X G z_reversed,PySem.W.mg_none_of X G z_ValueError⟩
 have cf:CF K mg ⟨d_StretchError,d_NoNumber,d_NoRule,d_NotSure,d_TooMuch⟩:=⟨PySem.W.mg_of X G n_StretchError,PySem.W.mg_of X G n_NoNumber,PySem.W.mg_of X G n_NoRule,PySem.W.mg_of X G n_NotSure,PySem.W.mg_of X G n_TooMuch,⟨PySem.W.mg_of X G n_NoRule,x_NoRule⟩,⟨PySem.W.mg_of X G n_NoNumber,x_NoNumber⟩,⟨t_NoRule,s_NoRule,u_NoRule⟩,⟨ga_NoRule,gt_NoRule,cl_NoRule,sg_NoRule,tk_NoRule,ob_NoRule,be_NoRule,ic_NoRule⟩,⟨ga_NoNumber,gt_NoNumber,cl_NoNumber,sg_NoNumber,tk_NoNumber,ob_NoNumber,be_NoNumber,ic_NoNumber⟩,f_sub⟩
 have F_whole:=aH (st:=gb) l_whole c_whole k_whole
 have b_whole:=F_whole.binds (ps:=["thing"]) λ _ _ _ _ _ _ us hl=>match us,hl with | [_],_=>rfl
 have m_whole:=PySem.W.mg_of X G a_whole
 have F_share:=aH (st:=gg) l_share c_share k_share
 have b_share:=F_share.binds (ps:=["thing"]) λ _ _ _ _ _ _ us hl=>match us,hl with | [_],_=>rfl
 have m_share:=PySem.W.mg_of X G a_share
 have F_wpair:=aH (st:=f9) l_wpair c_wpair k_wpair
 have b_wpair:=F_wpair.binds (ps:=["thing"]) λ _ _ _ _ _ _ us hl=>match us,hl with | [_],_=>rfl
 have m_wpair:=PySem.W.mg_of X G a_wpair
 have F_cd:=aH (st:=tO) l_cd c_cd k_cd
 have b_cd:=F_cd.binds (ps:=["one","other"]) λ _ _ _ _ _ _ us hl=>match us,hl with | [_,_],_=>rfl
 have m_cd:=PySem.W.mg_of X G a_cd
 have F_frac:=aH (st:=iO) l_frac c_frac k_frac
 have b_frac:=F_frac.binds (ps:=["top","bottom"]) λ _ _ _ _ _ _ us hl=>match us,hl with | [_,_],_=>rfl
 have m_frac:=PySem.W.mg_of X G a_frac
 have F_plus:=aH (st:=iL) l_plus c_plus k_plus
 have b_plus:=F_plus.binds (ps:=["one","other"]) λ _ _ _ _ _ _ us hl=>match us,hl with | [_,_],_=>rfl
 have m_plus:=PySem.W.mg_of X G a_plus
 have F_minus:=aH (st:=gq) l_minus c_minus k_minus
 have b_minus:=F_minus.binds (ps:=["one","other"]) λ _ _ _ _ _ _ us hl=>match us,hl with | [_,_],_=>rfl
 have m_minus:=PySem.W.mg_of X G a_minus
 have F_und:=aH (st:=k6) l_und c_und k_und
 have b_und:=F_und.binds (ps:=["one","other"]) λ _ _ _ _ _ _ us hl=>match us,hl with | [_,_],_=>rfl
 have m_und:=PySem.W.mg_of X G a_und
 have F_cho:=aH (st:=lM) l_cho c_cho k_cho
 have b_cho:=F_cho.binds (ps:=["n","k"]) λ _ _ _ _ _ _ us hl=>match us,hl with | [_,_],_=>rfl
 have m_cho:=PySem.W.mg_of X G a_cho
 have F_pow:=aH (st:=lv) l_pow c_pow k_pow
 have b_pow:=F_pow.binds (ps:=["base","count"]) λ _ _ _ _ _ _ us hl=>match us,hl with | [_,_],_=>rfl
 have m_pow:=PySem.W.mg_of X G a_pow
 have F_wtop:=aH (st:=iG) l_wtop c_wtop k_wtop
 have b_wtop:=F_wtop.binds (ps:=["n","k","p"]) λ _ _ _ _ _ _ us hl=>match us,hl with | [_,_,_],_=>rfl
 have m_wtop:=PySem.W.mg_of X G a_wtop
 have F_rsum:=aH (st:=iJ) l_rsum c_rsum k_rsum
 have b_rsum:=F_rsum.binds (ps:=["n","i","j","p"]) λ _ _ _ _ _ _ us hl=>match us,hl with | [_,_,_,_],_=>rfl
 have m_rsum:=PySem.W.mg_of X G a_rsum
 have F_ruleof:=aH (st:=eE) l_ruleof c_ruleof k_ruleof
 have b_ruleof:=F_ruleof.binds (ps:=["n","stretches"]) λ _ _ _ _ _ _ us hl=>match us,hl with | [_,_],_=>rfl
 have m_ruleof:=PySem.W.mg_of X G a_ruleof
 have F_rowof:=aH (st:=gi) l_rowof c_rowof k_rowof
 have b_rowof:=F_rowof.binds (ps:=["thing","count"]) λ _ _ _ _ _ _ us hl=>match us,hl with | [_,_],_=>rfl
 have m_rowof:=PySem.W.mg_of X G a_rowof
 have F_str:=aH (st:=k9) l_str c_str k_str
 have b_str:=F_str.binds (ps:=["thing"]) λ _ _ _ _ _ _ us hl=>match us,hl with | [_],_=>rfl
 have m_str:=PySem.W.mg_of X G a_str
 have F_rov:=aH (st:=lj) l_rov c_rov k_rov
 have b_rov:=F_rov.binds (ps:=["rule","a","b"]) λ _ _ _ _ _ _ us hl=>match us,hl with | [_,_,_],_=>rfl
 have m_rov:=PySem.W.mg_of X G a_rov
 have F_kov:=aH (st:=lI) l_kov c_kov k_kov
 have b_kov:=F_kov.binds (ps:=["rule","p"]) λ _ _ _ _ _ _ us hl=>match us,hl with | [_,_],_=>rfl
 have m_kov:=PySem.W.mg_of X G a_kov
 have F_sor:=aH (st:=lg) l_sor c_sor k_sor
 have b_sor:=F_sor.binds (ps:=["n","run","p"]) λ _ _ _ _ _ _ us hl=>match us,hl with | [_,_,_],_=>rfl
 have m_sor:=PySem.W.mg_of X G a_sor
 have F_edges:=aH (st:=gu) l_edges c_edges k_edges
 have b_edges:=F_edges.binds (ps:=["rule"]) λ _ _ _ _ _ _ us hl=>match us,hl with | [_],_=>rfl
 have m_edges:=PySem.W.mg_of X G a_edges
 have F_pieces:=aH (st:=eF) l_pieces c_pieces k_pieces
 have b_pieces:=F_pieces.binds (ps:=["rule"]) λ _ _ _ _ _ _ us hl=>match us,hl with | [_],_=>rfl
 have m_pieces:=PySem.W.mg_of X G a_pieces
 have F_least:=aH (st:=gr) l_least c_least k_least
 have b_least:=F_least.binds (ps:=["rule"]) λ _ _ _ _ _ _ us hl=>match us,hl with | [_],_=>rfl
 have m_least:=PySem.W.mg_of X G a_least
 have F_lpl:=aH (st:=lF) l_lpl c_lpl k_lpl
 have b_lpl:=F_lpl.binds (ps:=["rule"]) λ _ _ _ _ _ _ us hl=>match us,hl with | [_],_=>rfl
 have m_lpl:=PySem.W.mg_of X G a_lpl
 have F_sure:=aH (st:=iI) l_sure c_sure k_sure
 have b_sure:=F_sure.binds (ps:=["rule","share"]) λ _ _ _ _ _ _ us hl=>match us,hl with | [_,_],_=>rfl
 have m_sure:=PySem.W.mg_of X G a_sure
 have F_lack:=aH (st:=iM) l_lack c_lack k_lack
 have b_lack:=F_lack.binds (ps:=["rule","share","at","far"]) λ _ _ _ _ _ _ us hl=>match us,hl with | [_,_,_,_],_=>rfl
 have m_lack:=PySem.W.mg_of X G a_lack
 have F_tails:=aH (st:=gf) l_tails c_tails k_tails
 have b_tails:=F_tails.binds (ps:=["n","share","measure"]) λ _ _ _ _ _ _ us hl=>match us,hl with | [_,_,_],_=>rfl
 have m_tails:=PySem.W.mg_of X G a_tails
 have F_half:=aH (st:=iN) l_half c_half k_half
 have b_half:=F_half.binds (ps:=["share"]) λ _ _ _ _ _ _ us hl=>match us,hl with | [_],_=>rfl
 have m_half:=PySem.W.mg_of X G a_half
 have F_tlow:=aH (st:=iH) l_tlow c_tlow k_tlow
 have b_tlow:=F_tlow.binds (ps:=["n","k","most","steps"]) λ _ _ _ _ _ _ us hl=>match us,hl with | [_,_,_,_],_=>rfl
 have m_tlow:=PySem.W.mg_of X G a_tlow
 have F_thigh:=aH (st:=gc) l_thigh c_thigh k_thigh
 have b_thigh:=F_thigh.binds (ps:=["n","k","most","steps"]) λ _ _ _ _ _ _ us hl=>match us,hl with | [_,_,_,_],_=>rfl
 have m_thigh:=PySem.W.mg_of X G a_thigh
 have F_mov:=aH (st:=lB) l_mov c_mov k_mov
 have b_mov:=F_mov.binds (ps:=["rule","k","end","measure"]) λ _ _ _ _ _ _ us hl=>match us,hl with | [_,_,_,_],_=>rfl
 have m_mov:=PySem.W.mg_of X G a_mov
 have F_we:=aH (st:=tL) l_we c_we k_we
 have b_we:=F_we.binds (ps:=["stretches","k","end","value"]) λ _ _ _ _ _ _ us hl=>match us,hl with | [_,_,_,_],_=>rfl
 have m_we:=PySem.W.mg_of X G a_we
 have F_tgt:=aH (st:=dX) l_tgt c_tgt k_tgt
 have b_tgt:=F_tgt.binds (ps:=["rule","share","measure"]) λ _ _ _ _ _ _ us hl=>match us,hl with | [_,_,_],_=>rfl
 have m_tgt:=PySem.W.mg_of X G a_tgt
 have F_swm:=aH (st:=k7) l_swm c_swm k_swm
 have b_swm:=F_swm.binds (ps:=["rule","k","end","share","measure"]) λ _ _ _ _ _ _ us hl=>match us,hl with | [_,_,_,_,_],_=>rfl
 have m_swm:=PySem.W.mg_of X G a_swm
 have F_mt:=aH (st:=tM) l_mt c_mt k_mt
 have b_mt:=F_mt.binds (ps:=["rule","n","move"]) λ _ _ _ _ _ _ us hl=>match us,hl with | [_,_,_],_=>rfl
 have m_mt:=PySem.W.mg_of X G a_mt
 have F_cell:=aH (st:=iP) l_cell c_cell k_cell
 have b_cell:=F_cell.binds (ps:=["_law_script","_law_k"]) λ _ _ _ _ _ _ us hl=>match us,hl with | [_,_],_=>rfl
 have m_cell:=PySem.W.mg_of X G a_cell
 have F_dv:=aH (st:=tN) l_dv c_dv k_dv
 have b_dv:=F_dv.binds (ps:=["_law_one","_law_other"]) λ _ _ _ _ _ _ us hl=>match us,hl with | [_,_],_=>rfl
 have m_dv:=PySem.W.mg_of X G a_dv
 have F_low:=aH (st:=lG) l_low c_low k_low
 have b_low:=F_low.binds (ps:=["_law_step","_law_measure"]) λ _ _ _ _ _ _ us hl=>match us,hl with | [_,_],_=>rfl
 have m_low:=PySem.W.mg_of X G a_low
 have F_pows:=aH (st:=iK) l_pows c_pows k_pows
 have b_pows:=F_pows.binds (ps:=["_law_number","_law_many"]) λ _ _ _ _ _ _ us hl=>match us,hl with | [_,_],_=>rfl
 have m_pows:=PySem.W.mg_of X G a_pows
 have F_chs:=aH (st:=lL) l_chs c_chs k_chs
 have b_chs:=F_chs.binds (ps:=["_law_n"]) λ _ _ _ _ _ _ us hl=>match us,hl with | [_],_=>rfl
 have m_chs:=PySem.W.mg_of X G a_chs
 have F_ltp:=aH (st:=lC) l_ltp c_ltp k_ltp
 have b_ltp:=F_ltp.binds (ps:=["_law_n","_law_run","_law_step","_law_measure"]) λ _ _ _ _ _ _ us hl=>match us,hl with | [_,_,_,_],_=>rfl
 have m_ltp:=PySem.W.mg_of X G a_ltp
 have F_lru:=aH (st:=lE) l_lru c_lru k_lru
 have b_lru:=F_lru.binds (ps:=["_law_steps_here","_law_measure"]) λ _ _ _ _ _ _ us hl=>match us,hl with | [_,_],_=>rfl
 have m_lru:=PySem.W.mg_of X G a_lru
 have F_sts:=aH (st:=k8) l_sts c_sts k_sts
 have b_sts:=F_sts.binds (ps:=["_law_rule","_law_measure"]) λ _ _ _ _ _ _ us hl=>match us,hl with | [_,_],_=>rfl
 have m_sts:=PySem.W.mg_of X G a_sts
 have F_drw:=aH (st:=lK) l_drw c_drw k_drw
 have b_drw:=F_drw.binds (ps:=["_law_script","_law_n","_law_measure","_law_share"]) λ _ _ _ _ _ _ us hl=>match us,hl with | [_,_,_,_],_=>rfl
 have m_drw:=PySem.W.mg_of X G a_drw
 have F_ltg:=aH (st:=lD) l_ltg c_ltg k_ltg
 have b_ltg:=F_ltg.binds (ps:=["_law_steps_here","_law_measure","_law_share","_law_fine"]) λ _ _ _ _ _ _ us hl=>match us,hl with | [_,_,_,_],_=>rfl
 have m_ltg:=PySem.W.mg_of X G a_ltg
 have F_mvi:=aH (st:=lA) l_mvi c_mvi k_mvi
 have b_mvi:=F_mvi.binds (ps:=["_law_steps_here","_law_k","_law_move","_law_measure","_law_share"]) λ _ _ _ _ _ _ us hl=>match us,hl with | [_,_,_,_,_],_=>rfl
 have m_mvi:=PySem.W.mg_of X G a_mvi
 have F_due:=aH (st:=lJ) l_due c_due k_due
 have b_due:=F_due.binds (ps:=["_law_steps_here","_law_measure","_law_share","_law_fine"]) λ _ _ _ _ _ _ us hl=>match us,hl with | [_,_,_,_],_=>rfl
 have m_due:=PySem.W.mg_of X G a_due
 have F_law:=aH (st:=gY) l_law c_law k_law
 have b_law:=F_law.binds (ps:=["_law_script"]) λ _ _ _ _ _ _ us hl=>match us,hl with | [_],_=>rfl
 have m_law:=PySem.W.mg_of X G a_law
 have F_lis:=aH (st:=lH) l_lis c_lis k_lis
 have b_lis:=F_lis.binds (ps:=["_law_steps_here","_law_measure","_law_share"]) λ _ _ _ _ _ _ us hl=>match us,hl with | [_,_,_],_=>rfl
 have m_lis:=PySem.W.mg_of X G a_lis
 refine⟨cT,T_,PySem.W.fnOf "law" "law" (ay gY) (av gY) (ag gY) .none kV_law dc_law pm_law an_law cd_law ct_law,tb,tn,ts,λ s v=>.of_eq rfl,λ base _ _ hC_ hB_=>?_⟩
 have G_cell:=yG (P:=l.prog) (w:=w) (base:=base) F_cell T
 have G_dv:=B3 (P:=l.prog) (w:=w) (base:=base) F_dv T
 have G_low:=AZ (P:=l.prog) (w:=w) (base:=base) F_low T (G_dv.mono (by decide)) b_dv k_dv m_dv
 have G_whole:=wj (P:=l.prog) (w:=w) (base:=base) F_whole T
 have G_rowof:=wo (P:=l.prog) (w:=w) (base:=base) F_rowof T
 have G_wpair:=wg (P:=l.prog) (w:=w) (base:=base) F_wpair T (G_whole.mono (by decide)) b_whole k_whole m_whole
 have G_cd:=B4 (P:=l.prog) (w:=w) (base:=base) F_cd T
 have G_share:=wn (P:=l.prog) (w:=w) (base:=base) F_share T (G_wpair.mono (by decide)) b_wpair k_wpair m_wpair (G_cd.mono (by decide)) b_cd k_cd m_cd
 have G_und:=AK (P:=l.prog) (w:=w) (base:=base) F_und T
 have G_str:=AO (P:=l.prog) (w:=w) (base:=base) F_str T cf (G_rowof.mono (by decide)) b_rowof k_rowof m_rowof (G_share.mono (by decide)) b_share k_share m_share (G_und.mono (by decide)) b_und k_und m_und
 have G_ruleof:=t8 (P:=l.prog) (w:=w) (base:=base) F_ruleof T cf (G_whole.mono (by decide)) b_whole k_whole m_whole (G_rowof.mono (by decide)) b_rowof k_rowof m_rowof (G_str.mono (by decide)) b_str k_str m_str (G_und.mono (by decide)) b_und k_und m_und
 have G_frac:=yF (P:=l.prog) (w:=w) (base:=base) F_frac T cf (G_whole.mono (by decide)) b_whole k_whole m_whole (G_cd.mono (by decide)) b_cd k_cd m_cd
 have G_half:=yE (P:=l.prog) (w:=w) (base:=base) F_half T (G_frac.mono (by decide)) b_frac k_frac m_frac
 have G_cho:=A7 (P:=l.prog) (w:=w) (base:=base) F_cho T
 have G_pow:=AS (P:=l.prog) (w:=w) (base:=base) F_pow T
 have G_wtop:=yw (P:=l.prog) (w:=w) (base:=base) F_wtop T (G_cho.mono (by decide)) b_cho k_cho m_cho (G_pow.mono (by decide)) b_pow k_pow m_pow
 have G_rsum:=yA (P:=l.prog) (w:=w) (base:=base) F_rsum T (G_wtop.mono (by decide)) b_wtop k_wtop m_wtop (G_pow.mono (by decide)) b_pow k_pow m_pow (G_frac.mono (by decide)) b_frac k_frac m_frac
 have G_tlow:=yx (P:=l.prog) (w:=w) (base:=base) F_tlow T (G_rsum.mono (by decide)) b_rsum k_rsum m_rsum ((G_und.imp eY).mono (by decide)) b_und k_und m_und
 have G_thigh:=wk (P:=l.prog) (w:=w) (base:=base) F_thigh T (G_rsum.mono (by decide)) b_rsum k_rsum m_rsum ((G_und.imp eY).mono (by decide)) b_und k_und m_und
 have G_tails:=wm (P:=l.prog) (w:=w) (base:=base) F_tails T (G_half.mono (by decide)) b_half k_half m_half (G_frac.mono (by decide)) b_frac k_frac m_frac (G_tlow.mono (by decide)) b_tlow k_tlow m_tlow (G_thigh.mono (by decide)) b_thigh k_thigh m_thigh
 have G_sts:=AN (P:=l.prog) (w:=w) (base:=base) F_sts T
 have G_pows:=yB (P:=l.prog) (w:=w) (base:=base) F_pows T
 have G_chs:=A6 (P:=l.prog) (w:=w) (base:=base) F_chs T
 have G_ltp:=AV (P:=l.prog) (w:=w) (base:=base) F_ltp T (G_pows.mono (by decide)) b_pows k_pows m_pows (G_chs.mono (by decide)) b_chs k_chs m_chs
 have G_lis:=A0 (P:=l.prog) (w:=w) (base:=base) F_lis T (G_pows.mono (by decide)) b_pows k_pows m_pows (G_ltp.mono (by decide)) b_ltp k_ltp m_ltp
 have G_drw:=A4 (P:=l.prog) (w:=w) (base:=base) F_drw T (G_cell.mono (by decide)) b_cell k_cell m_cell (G_lis.mono (by decide)) b_lis k_lis m_lis
 have G_edges:=wv (P:=l.prog) (w:=w) (base:=base) F_edges T ((G_und.imp eY).mono (by decide)) b_und k_und m_und
 have G_rov:=AR (P:=l.prog) (w:=w) (base:=base) F_rov T ((G_und.imp eY).mono (by decide)) b_und k_und m_und
 have G_pieces:=t9 (P:=l.prog) (w:=w) (base:=base) F_pieces T (G_edges.mono (by decide)) b_edges k_edges m_edges (G_rov.mono (by decide)) b_rov k_rov m_rov
 have G_sor:=AQ (P:=l.prog) (w:=w) (base:=base) F_sor T (G_rsum.mono (by decide)) b_rsum k_rsum m_rsum
 have G_lpl:=AY (P:=l.prog) (w:=w) (base:=base) F_lpl T (G_pieces.mono (by decide)) b_pieces k_pieces m_pieces (G_sor.mono (by decide)) b_sor k_sor m_sor ((G_und.imp eY).mono (by decide)) b_und k_und m_und
 have G_lack:=yD (P:=l.prog) (w:=w) (base:=base) F_lack T
 have G_kov:=A2 (P:=l.prog) (w:=w) (base:=base) F_kov T
 have G_sure:=yy (P:=l.prog) (w:=w) (base:=base) F_sure T (G_lpl.mono (by decide)) b_lpl k_lpl m_lpl ((G_und.imp eY).mono (by decide)) b_und k_und m_und (G_lack.mono (by decide)) b_lack k_lack m_lack (G_kov.mono (by decide)) b_kov k_kov m_kov
 have G_plus:=yC (P:=l.prog) (w:=w) (base:=base) F_plus T (G_frac.mono (by decide)) b_frac k_frac m_frac
 have G_minus:=wq (P:=l.prog) (w:=w) (base:=base) F_minus T (G_frac.mono (by decide)) b_frac k_frac m_frac
 have G_we:=B1 (P:=l.prog) (w:=w) (base:=base) F_we T
 have G_mov:=AU (P:=l.prog) (w:=w) (base:=base) F_mov T cf (G_frac.mono (by decide)) b_frac k_frac m_frac (G_plus.mono (by decide)) b_plus k_plus m_plus (G_minus.mono (by decide)) b_minus k_minus m_minus (G_ruleof.mono (by decide)) b_ruleof k_ruleof m_ruleof (G_we.mono (by decide)) b_we k_we m_we
 have G_least:=wu (P:=l.prog) (w:=w) (base:=base) F_least T (G_lpl.mono (by decide)) b_lpl k_lpl m_lpl
 have G_swm:=AM (P:=l.prog) (w:=w) (base:=base) F_swm T (G_mov.mono (by decide)) b_mov k_mov m_mov (G_least.mono (by decide)) b_least k_least m_least ((G_und.imp eY).mono (by decide)) b_und k_und m_und
 have G_mt:=B2 (P:=l.prog) (w:=w) (base:=base) F_mt T (G_swm.mono (by decide)) b_swm k_swm m_swm
 have G_tgt:=AL (P:=l.prog) (w:=w) (base:=base) l_tgt c_tgt (uZ a_tgt l_tgt tb) hC_ hB_ T (G_sure.mono (by decide)) b_sure k_sure m_sure (G_mt.mono (by decide)) b_mt k_mt m_mt
 have G_lru:=AX (P:=l.prog) (w:=w) (base:=base) F_lru T
 have G_ltg:=AW (P:=l.prog) (w:=w) (base:=base) F_ltg T (G_lru.mono (by decide)) b_lru k_lru m_lru (G_lis.mono (by decide)) b_lis k_lis m_lis
 have G_mvi:=AT (P:=l.prog) (w:=w) (base:=base) F_mvi T (G_lru.mono (by decide)) b_lru k_lru m_lru (G_lis.mono (by decide)) b_lis k_lis m_lis
 have G_due:=A3 (P:=l.prog) (w:=w) (base:=base) F_due T (G_mvi.mono (by decide)) b_mvi k_mvi m_mvi
 exact A1 F_law T cf (G_cell.mono (by decide)) b_cell k_cell m_cell (G_low.mono (by decide)) b_low k_low m_low (G_ruleof.mono (by decide)) b_ruleof k_ruleof m_ruleof (G_tails.mono (by decide)) b_tails k_tails m_tails (G_sts.mono (by decide)) b_sts k_sts m_sts (G_drw.mono (by decide)) b_drw k_drw m_drw (G_tgt.mono (by decide)) b_tgt k_tgt m_tgt (G_ltg.mono (by decide)) b_ltg k_ltg m_ltg (G_due.mono (by decide)) b_due k_due m_due
theorem walk {l:PySem.W.OpenLaw}{q:Program}{loose:List Str}{XP:(Str->Option Value)->Heap->Prop}{YP:World->Heap->Prop}{d:DefRec}{K:Params->PySem.W.Frag} (hn:l.most=some 63) (hdf:d.params.defaults = []) (hrec:((PyProof.Rows.recsOf q).find? (λ e=>e.name == ("tight":Str))).isSome=true)
  (hY:∀ (w:World) (h:Heap),YP w h->(K w.params).In h)
  (F:∀ (w:World) (mg:Str->Option Value) (fa:Addr) (h:Heap),(K w.params).In h->h.Ns mainGlobals mg->mg d.name=some (.ref fa) ->
   ∃ (c T:Addr) (fd:FuncData),PySem.W.tabIn (K w.params) "tight" = some (c,T)/\(K w.params).lookup T=none/\T≠cStatics/\(∀ (s:Shared) (u:Value),BindsTo s fd ⟨[u],[]⟩ [("_law_script",u)]) /\
    ∀ base:Heap,(K w.params).In base->base.Ns mainGlobals mg->PySem.W.CodeHd base c T->base.BuiltinsAt mg T->ax l.prog w (K w.params) mg base CX0 16 fa fd ["_law_script"] (rj (K w.params) T)) :
  PySem.W.WalkO q loose XP YP l.row.toRowW d [] (λ f vs=>PySem.call f vs) :=
 L2.uT (n:=63) (k:=16) (x:="_law_script") (sp:=rj) hn (by decide) hdf ⟨rfl,by decide,by decide⟩ hrec hY F (λ _ _ _ a ns hl hb hS hT=>⟨a,ns,rfl,hS,hl,hb,hT,λ _=>rfl⟩)
end K27
end
open PySem PySem.W PyProof.Rows
def PySem.W.Fast.tw3080162210351985848:Nat:=0
def PySem.W.Fast.tw4278818968879721575:Nat:=0
def PySem.W.Fast.tw8760963675241969953:Nat:=0
def PySem.W.Fast.tw14611209398894128481:Nat:=0
def PySem.W.Fast.tw17318863806647702285:Nat:=0
def PySem.W.Fast.tw3985101108806520758:Nat:=0
def PySem.W.Fast.tw14199998863225927105:Nat:=0
def PySem.W.Fast.tw7173828353033498218:Nat:=0
def PySem.W.Fast.tw104601867531592538:Nat:=0
def PySem.W.Fast.tw9169458456515343941:Nat:=0
def PySem.W.Fast.tw1253431539080336941:Nat:=0
def PySem.W.Fast.tw7993865101180790663:Nat:=0
def PySem.W.Fast.tw7129382813775737271:Nat:=0
def PySem.W.Fast.tw6710018014479762255:Nat:=0
def PySem.W.Fast.tw15586330455541779683:Nat:=0
def PySem.W.Fast.tw12001531577468806360:Nat:=0
def PySem.W.Fast.tw3390754233498527760:Nat:=0
def PySem.W.Fast.tw5854078255884168000:Nat:=0
def PySem.W.Fast.tw17515342708896473052:Nat:=0
def PySem.W.Fast.tw9468949508259630853:Nat:=0
def PySem.W.Fast.tw12010187255703035712:Nat:=0
def PySem.W.Fast.tw11234582752542651097:Nat:=0
def PySem.W.Fast.tw9406742889719700072:Nat:=0
def PySem.W.Fast.tw2525819745276288506:Nat:=0
def PySem.W.Fast.tw5921571705474455168:Nat:=0
def PySem.W.Fast.tw17809366004159472371:Nat:=0
def PySem.W.Fast.tw9423304135866967411:Nat:=0
def PySem.W.Fast.tw17150061121941933016:Nat:=0
def PySem.W.Fast.tw4506079465686869070:Nat:=0
def PySem.W.Fast.tw6967664551333113290:Nat:=0
def PySem.W.Fast.tw7177679301283690516:Nat:=0
def PySem.W.Fast.tw9081262001385076015:Nat:=0
def PySem.W.Fast.tw3502797593494209680:Nat:=0
def PySem.W.Fast.tw10081026781587233812:Nat:=0
def PySem.W.Fast.tw1766961847229573456:Nat:=0
def PySem.W.Fast.tw10521636533292433263:Nat:=0
def PySem.W.Fast.tw7373676176620491927:Nat:=0
def PySem.W.Fast.tw10346491543529931739:Nat:=0
def PySem.W.Fast.tw5549928663084280735:Nat:=0
def PySem.W.Fast.tw2734120313762193170:Nat:=0
def PySem.W.Fast.tw6093921020193192436:Nat:=0
def PySem.W.Fast.tw8790217965689647481:Nat:=0
def PySem.W.Fast.tw2644051291276527624:Nat:=0
def PySem.W.Fast.tw7354101504777466624:Nat:=0
def PySem.W.Fast.tw8348343632432690673:Nat:=0
def PySem.W.Fast.tw14646778007883652551:Nat:=0
def PySem.W.Fast.tw9752846442364314990:Nat:=0
def PySem.W.Fast.tw14866990819351633321:Nat:=0
def PySem.W.Fast.tw712178624736228783:Nat:=0
def PySem.W.Fast.tw384066446375295303:Nat:=0
def PySem.W.Fast.tw6373926374206670357:Nat:=0
def PySem.W.Fast.tw2147380864535450174:Nat:=0
def PySem.W.Fast.tw7672789511239609840:Nat:=0
def PySem.W.Fast.tw5125440855712613654:Nat:=0
def PySem.W.Fast.tw4154452508265174569:Nat:=0
def PySem.W.Fast.tw4759257422009860983:Nat:=0
def PySem.W.Fast.tw16054274036590076082:Nat:=0
def PySem.W.Fast.tw12715350757252846123:Nat:=0
def PySem.W.Fast.tw14557486060476404093:Nat:=0
set_option maxRecDepth 100000 in
set_option maxHeartbeats 0 in
theorem PySem.Challenge.cw_surestretch_k27_whole_made_tight_holds : PySem.Challenge.rw_surestretch_k27_whole_made_tight.Holds := by
 w_on;o_law;k_head;(case hw=>w_witness2)
 k_fill
 refine K27.walk (l:=PySem.Challenge.rw_surestretch_k27_whole_made_tight) rfl rfl (by decide +kernel) (λ w h Y=>PySem.W.km_in_of Y) ?F
 case F =>
  intro w mg fa h KX G hmg
  refine' K27.all_mk KX G hmg ?_ ?_ ?_ ?_ ?_ ?_ ?_ ?_ ?_ ?_ ?_ ?_ ?_ ?_ ?_ ?_ ?_ ?_ ?_ ?_ ?_ ?_ ?_ ?_ ?_ ?_ ?_ ?_ ?_ ?_ ?_ ?_ ?_ ?_ ?_ ?_ ?_ ?_ ?_ ?_ ?_ ?_ ?_ ?_ ?_ ?_ ?_ ?_ ?_ ?_ ?_ ?_ ?_ ?_ ?_ ?_ ?_ ?_ ?_ ?_ ?_ ?_ ?_ ?_ ?_ ?_ ?_ ?_ ?_ ?_ ?_ ?_ ?_ ?_ ?_ ?_ ?_ ?_ ?_ ?_ ?_ ?_ ?_ ?_ ?_ ?_ ?_ ?_ ?_ ?_ ?_ ?_ ?_ ?_ ?_ ?_ ?_ ?_ ?_ ?_ ?_ ?_ ?_ ?_ ?_ ?_ ?_ ?_ ?_ ?_ ?_ ?_ ?_ ?_ ?_ ?_ ?_ ?_ ?_ ?_ ?_ ?_ ?_ ?_ ?_ ?_ ?_ ?_ ?_ ?_ ?_ ?_ ?_ ?_ ?_ ?_ ?_ ?_ ?_ ?_ ?_ ?_ ?_ ?_ ?_ ?_ ?_ ?_ ?_ ?_ ?_ ?_ ?_ ?_ ?_ ?_ ?_ ?_ ?_ ?_ ?_ ?_ ?_ ?_ ?_ ?_ ?_ ?_ ?_ ?_ ?_ ?_ ?_ ?_ ?_ ?_ ?_ ?_ ?_ ?_ ?_ ?_ ?_ ?_ ?_ ?_ ?_ ?_ ?_ ?_ ?_ ?_ ?_ ?_ ?_ ?_ ?_ ?_ ?_ ?_ ?_ ?_ ?_ ?_ ?_ ?_ ?_ ?_ ?_ ?_ ?_ ?_ ?_ ?_ ?_ ?_ ?_ ?_ ?_ ?_ ?_ ?_ ?_ ?_ ?_ ?_ ?_ ?_ ?_ ?_ ?_ ?_ ?_ ?_ ?_ ?_ ?_
  all_goals try first | k_is | kit_is | k_exc | exact rfl | kernel_rfl | decide
