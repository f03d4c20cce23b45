import PyProof.Rows.All
import PyProof.Rows.Catch
import OpenK.KOwn
import PyProof.StationsW
import PyProof.ExcClass3
import PyProof.InstStoreFacts
import PyProof.ExcInit
import PyProof.FitsReplace
import PyProof.StrLawsOcc
import PyProof.StrBlock
import PyProof.StrLawsJoin
import PyProof.StrCaseBound
import PyProof.StrCalls6
import PyProof.StrBlock2
import PyProof.Rows.StrBin
import KE.IntTextLaws
import PyProof.StrLawsChain
import PyProof.SliceStr2
import PyProof.StrWalks
import PyProof.StrBlockG
import KE.KIntText
import PyProof.MeetsStr3
import PyProof.StrCalls5
import PyProof.StrBlockL
import PyProof.Rows.CallKwBuiltin
import KE.KLam
import KE.KRevIter
import PyProof.EnumMake
import Wide.All
import OpenK.AllK
import Wide.FinOn
import Lean
import PyProof.EqAt
import PyProof.EqKinds
import PyProof.TupleCall
import PySem.Challenge.RW_surestretch_k54_desk_rows_refused
set_option Elab.async false
set_option linter.all false
set_option maxRecDepth 100000
set_option maxHeartbeats 4000000
noncomputable section
namespace L2
open PySem PySem.Spec PyProof.Rows
abbrev Key:=Sum Int Str
def mw:Key->Value->Bool
 | .inl k,v=>Value.isInt k v
 | .inr x,v=>Value.isStrOf x v
def Ht (w:World):Key->Int
 | .inl k=>hashInt k
 | .inr x=>hashStr w x
theorem bX:∀ {k:Key}{v:Value},mw k v=true->(∃ i t,k=Sum.inl i/\v=Value.int i t)∨(∃ x t,k=Sum.inr x/\v=Value.str x t)
 | .inl i,v,h=>by
  obtain⟨t,e⟩:=Value.isInt_shape (k:=i) (v:=v) h
  exact .inl ⟨i,t,rfl,e⟩
 | .inr x,v,h=>by
  obtain⟨t,e⟩:=Value.isStrOf_shape (x:=x) (v:=v) h
  exact .inr ⟨x,t,rfl,e⟩
theorem vB (i:Int) (t:Tok):mw (.inl i) (.int i t)=true:=by simp [mw,Value.isInt]
theorem vA (x:Str) (t:Tok):mw (.inr x) (.str x t)=true:=by simp [mw,Value.isStrOf]
theorem Fh (a b:Int):decide ((Sum.inl a:Key)=Sum.inl b)=(a == b):=by
 by_cases e:a=b
 ·subst e;simp
 ·have h:¬ (Sum.inl a:Key)=Sum.inl b:=λ q=>e (Sum.inl.inj q)
  rw[decide_eq_false h]
  exact (beq_eq_false_iff_ne.mpr e).symm
theorem Fe (a b:Str):decide ((Sum.inr a:Key)=Sum.inr b)=decide (a=b):=by
 by_cases e:a=b
 ·subst e;simp
 ·have h:¬ (Sum.inr a:Key)=Sum.inr b:=λ q=>e (Sum.inr.inj q)
  rw[decide_eq_false h,decide_eq_false e]
theorem Fg (a:Int) (b:Str):decide ((Sum.inl a:Key)=Sum.inr b)=false:=decide_eq_false (λ q=>nomatch q)
theorem Ff (a:Str) (b:Int):decide ((Sum.inr a:Key)=Sum.inl b)=false:=decide_eq_false (λ q=>nomatch q)
noncomputable def bN (prog:Program) (w:World):PySem.KeyKind prog w Key where
 is:=mw
 hash:=Ht w
 inj:=λ v a b ha hb=>by
  rcases bX ha with ⟨i,t,rfl,rfl⟩ | ⟨x,t,rfl,rfl⟩
  ·rcases bX hb with ⟨j,u,rfl,e⟩ | ⟨y,u,rfl,e⟩
   ·injection e with e1 _;rw[e1]
   ·exact nomatch e
  ·rcases bX hb with ⟨j,u,rfl,e⟩ | ⟨y,u,rfl,e⟩
   ·exact nomatch e
   ·injection e with e1 _;rw[e1]
 byValue:=λ k v h=>by
  rcases bX h with ⟨i,t,rfl,rfl⟩ | ⟨x,t,rfl,rfl⟩<;>rfl
 pyHash:=λ hv h=>by
  rcases bX hv with ⟨i,t,rfl,rfl⟩ | ⟨x,t,rfl,rfl⟩
  ·exact wpAny_pyHash_int h
  ·exact wpAny_pyHash_str h
 eqBool:=λ hu hv h=>by
  rcases bX hu with ⟨i,t,rfl,rfl⟩ | ⟨x,t,rfl,rfl⟩
  ·rcases bX hv with ⟨j,u,rfl,rfl⟩ | ⟨y,u,rfl,rfl⟩
   ·rw[Fh] at h;exact wpAny_eqBool_int h
   ·rw[Fg] at h;exact SeqAt.EqAt.int_str i t y u _ _ _ _ h
  ·rcases bX hv with ⟨j,u,rfl,rfl⟩ | ⟨y,u,rfl,rfl⟩
   ·rw[Ff] at h;exact SeqAt.EqAt.str_int x t j u _ _ _ _ h
   ·rw[Fe] at h;exact wpAny_eqBool_str h
 «strs»:=λ k x t v h=>by
  rcases bX h with ⟨i,u,rfl,e⟩ | ⟨y,u,rfl,e⟩
  ·exact nomatch e
  ·injection e with e1 _
   subst e1
   cases v<;>rfl
theorem pB (prog:Program) (w:World) (i:Int) (t:Tok):(bN prog w).is (.inl i) (.int i t)=true:=vB i t
theorem jj (prog:Program) (w:World) (x:Str) (t:Tok):(bN prog w).is (.inr x) (.str x t)=true:=vA x t
inductive V where
 | non | bl (b:Bool) | int (i:Int) | str (x:Str) | byt (b:Array UInt8) | flt (b:UInt64) | ref (a:Addr) | ty (n:String)
 deriving DecidableEq
def bw:V->Value->Prop
 | .non,u=>u=Value.none
 | .bl b,u=>u=Value.bool b
 | .int i,u=>∃ t,u=Value.int i t
 | .str x,u=>∃ t,u=Value.str x t
 | .byt b,u=>∃ t,u=Value.bytes b t
 | .flt b,u=>∃ t,u=Value.float b t
 | .ref a,u=>u=Value.ref a
 | .ty n,u=>u=Value.type n
abbrev bg:List V->List Value->Prop:=Paired bw
theorem bg.length {xs:List V}{us:List Value} (r:bg xs us):xs.length=us.length:=Paired.length r
theorem bg.get:∀ {xs:List V}{us:List Value}{i:Nat}{x:V},bg xs us->xs[i]? = some x->∃ u,us[i]? = some u/\bw x u
 | _,_,_,_,.nil,e=>by simp at e
 | _,_,0,_,.cons r _,e=>by simp at e;subst e;exact⟨_,rfl,r⟩
 | _,_,i+1,x,.cons _ t,e=>by
  obtain⟨u,h1,h2⟩:=bg.get (i:=i) (x:=x) t (by simpa using e)
  exact⟨u,by simpa using h1,h2⟩
theorem bg.append:∀ {xs ys:List V}{us ws:List Value},bg xs us->bg ys ws->bg (xs++ys) (us++ws)
 | _,_,_,_,.nil,s=>s
 | _,_,_,_,.cons r t,s=>.cons r (bg.append t s)
theorem bg.take:∀ {xs:List V}{us:List Value} (n:Nat),bg xs us->bg (xs.take n) (us.take n)
 | _,_,0,_=>.nil
 | _,_,_+1,.nil=>.nil
 | _,_,n+1,.cons r t=>.cons r (bg.take n t)
theorem bg.drop:∀ {xs:List V}{us:List Value} (n:Nat),bg xs us->bg (xs.drop n) (us.drop n)
 | _,_,0,r=>r
 | _,_,_+1,.nil=>.nil
 | _,_,n+1,.cons _ t=>bg.drop n t
def fM:Option V->Option Value->Prop
 | some v,some u=>bw v u
 | none,none=>True
 | _,_=>False
def KV {κ:Type}:List (κ×V)->List (κ×Value)->Prop:=Paired λ (p:κ×V) (q:κ×Value)=>p.1=q.1/\bw p.2 q.2
def kV:Key->V
 | .inl i=>.int i
 | .inr x=>.str x
inductive HO where
 | lst (xs:List V)
 | tup (xs:List V)
 | dK (kvs:List (Key×V)) | dT (kvs:List (List Key×V))
 | set (S:Int->Bool) (n:Nat)
 | ins (C dx:Addr) (fs:List (Str×V))
 | own (x:Addr)
 | xd (fs:List (Str×V))
 | met (f x:Addr)
 | rng (lo hi:Int)
 | frz (o:Obj) (u:HO)
 | tbl (ps:Array Value)
 | ext (φ:Heap->Prop)
abbrev Hp:=Addr->Option HO
def upd (H:Hp) (a:Addr) (o:HO):Hp:=λ b=>if b=a then some o else H b
theorem ai {H:Hp}{a:Addr}{o:HO}:upd H a o a=some o:=by unfold upd;rw[if_pos rfl]
theorem aM {H:Hp}{a b:Addr}{o:HO} (h:b≠a):upd H a o b=H b:=by unfold upd;rw[if_neg h]
theorem ji {H:Hp}{a b:Addr}{o u:HO} (h:H a=some o) (h':H b=some u) (d:o≠u):a≠b:=by
 intro e;subst e;rw[h] at h';exact d (Option.some.inj h')
theorem aZ {H:Hp}{a b:Addr}{o:HO} (h:H a=some o) (h':H b=none):a≠b:=by
 intro e;subst e;rw[h] at h';cases h'
section
variable (P:Program) (w:World)
def bx (H:Hp) (h:Heap) (a:Addr):HO->Prop
 | .lst xs=>xs.length<=sizeLine/\∃ (its:List Value) (n:Nat),bg xs its/\h.get? a=some {cls:=.type "list",data:=.seq its.toArray n}
 | .tup xs=>xs.length<=sizeLine/\∃ its:List Value,bg xs its/\IsTup h a its.toArray
 | .dK kvs=>kvs.length<=sizeLine/\(a == sysModules)=false/\∃ vs,KV kvs vs/\h.DictOf (bN P w) a vs
 | .dT kvs=>kvs.length<=sizeLine/\(a == sysModules)=false/\∃ xs:List (List Key×Addr×Value),
   Paired (λ (p:List Key×V) (q:List Key×Addr×Value)=>p.1=q.1/\H q.2.1=some (.tup (p.1.map kV))/\bw p.2 q.2.2) kvs xs /\
   ∃ o es ep,h.get? a=some o/\o.ExactDict/\o.data=.dict es ep/\es.toList=xs.map (entryOfKey (tupleKind (bN P w)))/\(xs.map (·.1)).Nodup
 | .set S n=>h.SetOf (intKind P w) a S n
 | .ins C dx fs=>H dx=some (.own a)/\fs.length<=1000/\dx≠a/\h.get? a=some (PySem.W.instObj C dx) /\
   ∃ mA,h.Ns1 dx mA/\(∀ f,fM (fs.lookup f) (mA f))/\PySem.Within mA (fs.map (·.1))
 | .own _=>∃ o,h.get? a=some o
 | .xd fs=>∃ mA,h.Ns1 a mA/\∀ f,fM (fs.lookup f) (mA f)
 | .rng lo hi=>∃ t u v,h.get? a=some {cls:=.type "range",data:=.fields #[.int lo t,.int hi u,.int 1 v]}
 | .frz o u=>h.get? a=some o/\bx H h a u
 | .tbl ps=>h.get? a=some {cls:=.none,data:=.fields ps}
 | .met f x=>h.get? a=some (PySem.W.methodObj (.ref f) (.ref x))
 | .ext φ=>φ h/\(∃ o,h.get? a=some o)/\∀ h1 h2:Heap,φ h1->(∀ o,h1.get? a=some o->h2.get? a=some o)->φ h2
def HOk (H:Hp) (h:Heap):Prop:=∀ a o,H a=some o->bx P w H h a o
end
section
variable {P:Program}{w:World}{H H':Hp}{h h':Heap}{a:Addr}{o:HO}
theorem bx.lt (x:bx P w H h a o):a<h.objs.size:=by
 cases o with
 | lst xs=>obtain⟨_,_,_,_,e⟩:=x;exact Heap.lt_size e
 | tup xs=>obtain⟨_,_,_,p⟩:=x;exact p.lt
 | dK kvs=>obtain⟨_,_,_,_,o,_,_,e,_⟩:=x;exact Heap.lt_size e
 | dT kvs=>obtain⟨_,_,_,_,o,_,_,e,_⟩:=x;exact Heap.lt_size e
 | set S n=>obtain⟨o,_,_,_,e,_⟩:=x;exact Heap.lt_size e
 | ins C dx fs=>obtain⟨_,_,_,e,_⟩:=x;exact Heap.lt_size e
 | own y=>obtain⟨_,e⟩:=x;exact Heap.lt_size e
 | xd fs=>obtain⟨_,⟨_,_,_,e,_⟩,_⟩:=x;exact Heap.lt_size e
 | rng lo hi=>obtain⟨_,_,_,e⟩:=x;exact Heap.lt_size e
 | frz ob u=>obtain⟨e,_⟩:=x;exact Heap.lt_size e
 | tbl ps=>exact Heap.lt_size (show h.get? a=some _ from x)
 | met f y=>exact Heap.lt_size (show h.get? a=some _ from x)
 | ext φ=>obtain⟨_,⟨_,e⟩,_⟩:=x;exact Heap.lt_size e
theorem Paired.mapP {α β:Type}{F G:α->β->Prop}:∀ {l₁:List α}{l₂:List β},Paired F l₁ l₂->(∀ a b,F a b->G a b)->Paired G l₁ l₂
 | _,_,.nil,_=>.nil
 | _,_,.cons r t,f=>.cons (f _ _ r) (Paired.mapP t f)
theorem bx.stay (x:bx P w H h a o) (k:∀ b u,(b=a∨H b=some (.own a))->h.get? b=some u->h'.get? b=some u)
  (ho:∀ b,H b=some (.own a)->H' b=some (.own a)) (ht:∀ b xs,H b=some (.tup xs)->H' b=some (.tup xs)):bx P w H' h' a o:=by
 induction o with
 | lst xs=>obtain⟨z,its,n,r,e⟩:=x;exact⟨z,its,n,r,k _ _ (.inl rfl) e⟩
 | tup xs=>obtain⟨z,its,r,ob,e,c⟩:=x;exact⟨z,its,r,ob,k _ _ (.inl rfl) e,c⟩
 | dK kvs=>obtain⟨z,y,vs,r,ob,es,ep,e,c⟩:=x;exact⟨z,y,vs,r,ob,es,ep,k _ _ (.inl rfl) e,c⟩
 | dT kvs =>
  obtain⟨z,y,xs,r,ob,es,ep,e,c⟩:=x
  exact⟨z,y,xs,Paired.mapP r λ p q z=>⟨z.1,ht _ _ z.2.1,z.2.2⟩,ob,es,ep,k _ _ (.inl rfl) e,c⟩
 | set S n=>obtain⟨ob,es,ep,t,e,c⟩:=x;exact⟨ob,es,ep,t,k _ _ (.inl rfl) e,c⟩
 | ins C dx fs =>
  obtain⟨d,z,ne,e,mA,⟨od,es,ep,e2,c⟩,r⟩:=x
  exact⟨ho _ d,z,ne,k _ _ (.inl rfl) e,mA,⟨od,es,ep,k _ _ (.inr d) e2,c⟩,r⟩
 | own y=>obtain⟨ob,e⟩:=x;exact⟨ob,k _ _ (.inl rfl) e⟩
 | xd fs=>obtain⟨mA,⟨od,es,ep,e,c⟩,r⟩:=x;exact⟨mA,⟨od,es,ep,k _ _ (.inl rfl) e,c⟩,r⟩
 | rng lo hi=>obtain⟨t,u,v,e⟩:=x;exact⟨t,u,v,k _ _ (.inl rfl) e⟩
 | frz ob u ih=>obtain⟨e,q⟩:=x;exact⟨k _ _ (.inl rfl) e,ih q⟩
 | tbl ps =>
  have e:h.get? a=some {cls:=.none,data:=.fields ps}:=x
  show h'.get? a=some {cls:=.none,data:=.fields ps}
  exact k a _ (.inl rfl) e
 | met f y =>
  have e:h.get? a=some (PySem.W.methodObj (.ref f) (.ref y)):=x
  show h'.get? a=some (PySem.W.methodObj (.ref f) (.ref y))
  exact k a _ (.inl rfl) e
 | ext φ=>obtain⟨p,⟨o,e⟩,st⟩:=x;exact⟨st _ _ p λ o q=>k _ _ (.inl rfl) q,⟨o,k _ _ (.inl rfl) e⟩,st⟩
theorem HOk.lt (x:HOk P w H h) (e:H a=some o):a<h.objs.size:=(x a o e).lt
theorem HOk.fresh (x:HOk P w H h) (e:h.objs.size<=a):H a=none:=by
 cases q:H a with
 | none=>rfl
 | some u=>exact absurd (Nat.lt_of_lt_of_le (x.lt q) e) (Nat.lt_irrefl _)
theorem HOk.kept (x:HOk P w H h) (k:∀ b u,h.get? b=some u->h'.get? b=some u):HOk P w H h':=λ a o e =>
 (x a o e).stay (λ b u _ q=>k b u q) (λ _ q=>q) λ _ _ q=>q
theorem HOk.laid (x:HOk P w H h) (k:∀ b u,h.get? b=some u->h'.get? b=some u) (hp:h.objs.size<=a) (new:bx P w (upd H a o) h' a o):HOk P w (upd H a o) h':=λ b u e=>by
 have hn:=x.fresh hp
 by_cases hb:b=a
 ·subst hb;rw[ai] at e;cases e;exact new
 ·rw[aM hb] at e
  exact (x b u e).stay (λ c v _ q=>k c v q) (λ c q=>by rw[aM (aZ q hn)];exact q) λ c xs q=>by rw[aM (aZ q hn)];exact q
end
def Rd (H:Hp) (a:Addr) (u:HO):Prop:=H a=some u∨∃ o,H a=some (.frz o u)
theorem Rd.ok {P:Program}{w:World}{H:Hp}{h:Heap}{a:Addr}{u:HO} (r:Rd H a u) (x:HOk P w H h):bx P w H h a u:=by
 rcases r with r | ⟨o,r⟩
 ·exact x a u r
 ·obtain⟨_,q⟩:=x a _ r
  exact q
def Mut:Option HO->Prop
 | some (.lst _)=>True
 | some (.dK _)=>True
 | some (.dT _)=>True
 | some (.set _ _)=>True
 | some (.ins _ _ _)=>True
 | some (.ext _)=>True
 | _=>False
section
variable {P:Program}{w:World}{H:Hp}{h h':Heap}{x e:Addr}{o':HO}
theorem HOk.write (ok:HOk P w H h) (mu:Mut (H x)) (he:e=x∨H e=some (.own x)) (k:∀ b u,b≠e->h.get? b=some u->h'.get? b=some u) (heo:∃ u,h'.get? e=some u)
  (new:bx P w (upd H x o') h' x o'):HOk P w (upd H x o') h':=λ b u q=>by
 have nown:∀ c y,H c=some (.own y)->c≠x:=λ c y r z=>by subst z;rw[r] at mu;exact mu
 have ntup:∀ c xs,H c=some (.tup xs)->c≠x:=λ c xs r z=>by subst z;rw[r] at mu;exact mu
 by_cases hb:b=x
 ·subst hb;rw[ai] at q;cases q;exact new
 ·rw[aM hb] at q
  by_cases hbe:b=e
  ·have q':H b=some (.own x):=by
    rcases he with z | z
    ·exact absurd (hbe.trans z) hb
    ·rw[hbe];exact z
   rw[q] at q';cases q'
   obtain⟨v,hv⟩:=heo
   exact⟨v,by rw[hbe];exact hv⟩
  ·refine (ok b u q).stay (λ c v hc r=>k c v ?_ r) (λ c r=>by rw[aM (nown c b r)];exact r) λ c xs r=>by rw[aM (ntup c xs r)];exact r
   rcases hc with rfl | hc
   ·exact hbe
   ·rintro rfl
    rcases he with z | z
    ·exact nown c b hc z
    ·rw[hc] at z;cases z;exact hb rfl
end
structure Un (fs ex:List Addr) (H H':Hp) (h h':Heap):Prop where
 keep:∀ b o,h.get? b=some o->H b=none->b ∉ fs->b ∉ ex->h'.get? b=some o
 slot:∀ b o,h.get? b=some o->H b=none->b∈fs->b ∉ ex->∃ sl,h'.get? b=some {o with slots:=sl}
 free:∀ b o,h.get? b=some o->H b=none->b ∉ ex->H' b=none
 there:∀ b o,h.get? b=some o->b ∉ ex->∃ o',h'.get? b=some o'
 tups:∀ b xs,H b=some (.tup xs)->H' b=some (.tup xs)
 frzs:∀ b o u,H b=some (.frz o u)->H' b=some (.frz o u)
 tbls:∀ b ps,H b=some (.tbl ps)->∃ more,H' b=some (.tbl (ps++more))
section
variable {fs fs' ex ex':List Addr}{H H1 H2:Hp}{h h1 h2 h':Heap}{a x e:Addr}{o:HO}
theorem Un.any (u:Un fs ex H H1 h h1) {b:Addr}{ob:Obj} (q:h.get? b=some ob) (n:H b=none) (hx:b ∉ ex):∃ sl,h1.get? b=some {ob with slots:=sl}:=by
 by_cases hb:b∈fs
 ·exact u.slot b ob q n hb hx
 ·exact⟨ob.slots,u.keep b ob q n hb hx⟩
theorem Un.kept (k:∀ b u,h.get? b=some u->h'.get? b=some u):Un fs ex H H h h' :=
 ⟨λ b ob q _ _ _=>k b ob q,λ b ob q _ _ _=>⟨ob.slots,k b ob q⟩,λ _ _ _ n _=>n,λ b ob q _=>⟨ob,k b ob q⟩,λ _ _ q=>q,λ _ _ _ q=>q,λ _ ps q=>⟨#[],by rw[q];simp⟩⟩
theorem Un.refl:Un fs ex H H h h:=Un.kept λ _ _ q=>q
theorem Un.laid (k:∀ b u,h.get? b=some u->h'.get? b=some u) (hp:h.objs.size<=a) (hn:H a=none):Un fs ex H (upd H a o) h h' where
 keep:=λ b u q _ _ _=>k b u q
 slot:=λ b u q _ _ _=>⟨u.slots,k b u q⟩
 free:=λ b u q n _=>by rw[aM (Nat.ne_of_lt (Nat.lt_of_lt_of_le (Heap.lt_size q) hp))];exact n
 there:=λ b u q _=>⟨u,k b u q⟩
 tups:=λ b xs q=>by rw[aM (aZ q hn)];exact q
 frzs:=λ b u xs q=>by rw[aM (aZ q hn)];exact q
 tbls:=λ b ps q=>⟨#[],by rw[aM (aZ q hn),q];simp⟩
theorem Un.write (mu:Mut (H x)) (he:e=x∨H e=some (.own x)) (k:∀ b u,b≠e->h.get? b=some u->h'.get? b=some u) (heo:∃ u,h'.get? e=some u):Un fs ex H (upd H x o) h h':=by
 have hx:∀ b,H b=none->b≠x:=λ b n z=>by subst z;rw[n] at mu;exact mu
 have hb:∀ b,H b=none->b≠e:=λ b n z=>by
  subst z
  rcases he with r | r
  ·exact hx b n r
  ·rw[n] at r;cases r
 have hm:∀ b u,H b=some u->¬ Mut (some u)->b≠x:=λ b u q nm z=>by subst z;rw[q] at mu;exact nm mu
 refine⟨λ b u q n _ _=>k b u (hb b n) q,λ b u q n _ _=>⟨u.slots,k b u (hb b n) q⟩,λ b u q n _=>by rw[aM (hx b n)];exact n,λ b u q _=>?_,
  λ b xs q=>by rw[aM (hm b _ q λ z=>z)];exact q,λ b u xs q=>by rw[aM (hm b _ q λ z=>z)];exact q,λ b ps q=>⟨#[],by rw[aM (hm b _ q λ z=>z),q];simp⟩⟩
 by_cases hbe:b=e
 ·subst hbe;exact heo
 ·exact⟨u,k b u hbe q⟩
end
def trk (h:Heap) (H:Hp):List Addr:=(List.range h.objs.size).filter λ a=>(H a).isSome
def nV (h:Heap) (H:Hp):Heap:=PySem.W.hideAll h (trk h H)
theorem vG (h:Heap) (H:Hp):(nV h H).objs.size=h.objs.size:=PySem.W.hideAll_size _ _
theorem zl {h:Heap}{H:Hp}{b:Addr}{o:Obj} (e:h.get? b=some o) (n:H b=none):(nV h H).get? b=some o :=
 PySem.W.hideAll_get _ e λ hm=>by
  have q:(H b).isSome=true:=(List.mem_filter.mp hm).2
  rw[n] at q;simp at q
theorem Bs {h:Heap}{H:Hp}{b:Addr}{o:Obj} (e:(nV h H).get? b=some o):h.get? b=some o/\H b=none:=by
 have e':h.get? b=some o:=PySem.W.of_hideAll (trk h H) e
 refine⟨e',?_⟩
 cases q:H b with
 | none=>rfl
 | some x =>
  have hm:b∈trk h H:=List.mem_filter.mpr ⟨List.mem_range.mpr (Heap.lt_size e'),by simp [q]⟩
  have z:(nV h H).get? b=none:=PySem.W.hideAll_none (trk h H) hm
  rw[z] at e;cases e
structure Mod (K:PySem.W.Frag) (mg:Str->Option Value) (base:Heap):Prop where
 kin:K.In base
 glob:base.Ns mainGlobals mg
 blt:∃ mb,base.Ns builtinsNs mb/\∀ x:Str,x≠"__name__"->mb x=bootBuiltins x
 nolimit:base.NoLimit
structure Cx where
 prog:Program
 w:World
 K:PySem.W.Frag
 mg:Str->Option Value
 base:Heap
 A:Around
 N:List Str
 s₀:Shared
 H₀:Hp
 env:Env
 outer:List Env
 stack:List Env
 ex:List Addr
 fn:Str->Bool
 calm:Bool
 pn:List (Addr×Obj)
 xe:Value->Shared->Prop
def frs (l:List Env):List Addr:=l.filterMap (·.frame)
abbrev Cx.fs (X:Cx):List Addr:=frs X.outer
def Vis (sc:Scope) (x:Str):Prop:=sc.names.lookup x=some .local∨sc.names.lookup x=some .cell∨sc.names.lookup x=some .free
def Loc (sc:Scope) (x:Str):Prop:=sc.names.lookup x=some .local∨sc.names.lookup x=some .cell
def HF (env:Env) (h:Heap) (m:Str->Option Value) (x:Str) (u:Value):Prop :=
 (env.kindOf x=some .local/\m x=some u)∨((env.kindOf x=some .cell∨env.kindOf x=some .free)/\∃ c,env.cells.lookup x=some c/\h.IsCell c (some u))
structure Cx.Ok (X:Cx):Prop where
 mod:Mod X.K X.mg X.base
 kind:X.env.scope.kind=.function
 glob:X.env.globals=mainGlobals
 blt:X.env.builtins=builtinsNs
 above:X.s₀.heap.objs.size<=X.env.locals
 inj:∀ x y c,X.env.cells.lookup x=some c->X.env.cells.lookup y=some c->x=y
 has:∀ x,(X.env.kindOf x=some .cell∨X.env.kindOf x=some .free)->∃ c,X.env.cells.lookup x=some c
 cab:∀ x c,X.fn x=true->X.env.cells.lookup x=some c->X.s₀.heap.objs.size<=c
 hd:X.calm=true->X.A.handled=none
 frames:X.A.frames=some X.stack
 stk:X.stack=X.outer∨(X.stack=X.env::X.outer/\X.env.frame=some X.env.locals)
 exf:∀ b∈X.ex,b≠X.env.locals/\∀ x c,X.env.cells.lookup x=some c->c≠b
 bs:∀ b o,X.base.get? b=some o->X.s₀.heap.get? b=some o/\X.H₀ b=none
 bsz:X.base.objs.size<=X.s₀.heap.objs.size
 noex:∀ b o,X.base.get? b=some o->b ∉ X.ex
 exfs:∀ b∈X.ex,b ∉ X.fs
 funs:X.s₀.heap.FunFrames X.base X.outer
 frf:∀ b∈X.fs,X.H₀ b=none
structure Inv (X:Cx) (pins:List (Addr×Obj)) (σ:List (Option V)) (H:Hp) (s:Shared):Prop where
 ok:X.Ok
 os:s.os=X.s₀.os
 bare:AllBare s.gens
 base:Un X.fs X.ex X.H₀ H X.s₀.heap s.heap
 loc:∃ m,s.heap.Ns X.env.locals m/\∀ (i:Nat) (x:Str) (v:V),X.N[i]? = some x->σ[i]? = some (some v)->Vis X.env.scope x->∃ u,bw v u/\HF X.env s.heap m x u
 cell:∀ x c,X.env.cells.lookup x=some c->∃ v,s.heap.IsCell c v
 free:H X.env.locals=none
 freeC:∀ x c,X.env.cells.lookup x=some c->H c=none
 pin:∀ p∈X.pn++pins,s.heap.get? p.1=some p.2/\H p.1=none/\p.1≠X.env.locals/\p.1 ∉ X.fs/\∀ v,p.2.data≠.cell v
 hok:HOk X.prog X.w H s.heap
 len:σ.length=X.N.length
section
variable {X:Cx}{pins:List (Addr×Obj)}{σ:List (Option V)}{H H':Hp}{s:Shared}{h':Heap}
theorem Cx.Ok.nofr (ok:X.Ok) {b:Addr}{o:Obj} (e:X.base.get? b=some o):b ∉ X.fs:=λ hb=>by
 have:=(ok.funs.mem hb).1
 rw[e] at this;cases this
theorem Inv.bs (I:Inv X pins σ H s):∀ b o,X.base.get? b=some o->s.heap.get? b=some o/\H b=none:=λ b o e =>
 ⟨I.base.keep b o (I.ok.bs b o e).1 (I.ok.bs b o e).2 (I.ok.nofr e) (I.ok.noex b o e),I.base.free b o (I.ok.bs b o e).1 (I.ok.bs b o e).2 (I.ok.noex b o e)⟩
theorem Inv.bk (I:Inv X pins σ H s):∀ b o,X.base.get? b=some o->s.heap.get? b=some o:=λ b o e=>(I.bs b o e).1
theorem Inv.mod (I:Inv X pins σ H s):Mod X.K X.mg X.base:=I.ok.mod
theorem Inv.kIn (I:Inv X pins σ H s):X.K.In s.heap:=I.ok.mod.kin.keeps I.bk
theorem Inv.lt (I:Inv X pins σ H s):X.env.locals<s.heap.objs.size:=let ⟨_,hn,_⟩:=I.loc;hn.lt
theorem Inv.sz (I:Inv X pins σ H s):X.s₀.heap.objs.size<=s.heap.objs.size:=Nat.le_trans I.ok.above (Nat.le_of_lt I.lt)
theorem Inv.nofs (I:Inv X pins σ H s) {a:Addr} (h:s.heap.objs.size<=a):a ∉ X.fs:=λ hb=>by
 obtain⟨_,o,ho,_⟩:=I.ok.funs.mem hb
 exact absurd (Nat.lt_of_lt_of_le (Heap.lt_size ho) (Nat.le_trans I.sz h)) (Nat.lt_irrefl _)
theorem Inv.cne (I:Inv X pins σ H s):∀ x c,X.env.cells.lookup x=some c->c≠X.env.locals:=λ x c e z=>by
 obtain⟨v,o,ho,hd⟩:=I.cell x c e
 obtain⟨m,⟨o',es,ep,ho',hd',_⟩,_⟩:=I.loc
 rw[z,ho'] at ho;cases ho;rw[hd'] at hd;cases hd
theorem Inv.funs (I:Inv X pins σ H s):s.heap.FunFrames X.base X.outer:=by
 have all:∀ (l:List Env),(∀ b∈frs l,b∈X.fs)->X.s₀.heap.FunFrames X.base l->s.heap.FunFrames X.base l:=by
  intro l
  induction l with
  | nil=>intro _ _;trivial
  | cons env r ih =>
   intro hs hl
   obtain⟨hk,⟨L,o,hf,hn,ho,hd⟩,hr⟩:=hl
   have hL:L∈X.fs:=hs L (by unfold frs;rw[List.filterMap_cons,hf];exact List.mem_cons_self)
   obtain⟨sl,e⟩:=I.base.slot L o ho (I.ok.frf L hL) hL λ z=>I.ok.exfs L z hL
   exact⟨hk,⟨L,_,hf,hn,e,hd⟩,ih (λ b hb=>hs b (by unfold frs;rw[List.filterMap_cons,hf];exact List.mem_cons_of_mem _ hb)) hr⟩
 exact all X.outer (λ _ hb=>hb) I.ok.funs
theorem Inv.stack (I:Inv X pins σ H s):s.heap.FunFrames X.base X.stack:=by
 rcases I.ok.stk with e | ⟨e,hf⟩
 ·rw[e];exact I.funs
 ·rw[e]
  obtain⟨m,hn,_⟩:=I.loc
  refine .cons (by rw[I.ok.kind];decide) hf hn ?_ I.funs
  exact Heap.get?_none_of_le (Nat.le_trans I.ok.bsz I.ok.above)
theorem Inv.stkSub (I:Inv X pins σ H s):∀ b∈frs X.stack,b∈X.env.locals::X.fs:=λ b hb=>by
 rcases I.ok.stk with e | ⟨e,hf⟩
 ·rw[e] at hb;exact List.mem_cons_of_mem _ hb
 ·rw[e] at hb
  unfold frs at hb
  rw[List.filterMap_cons,hf] at hb
  exact hb
theorem Inv.stkFree (I:Inv X pins σ H s):∀ b∈frs X.stack,H b=none:=λ b hb=>by
 rcases List.mem_cons.mp (I.stkSub b hb) with e | hb
 ·rw[e];exact I.free
 ·obtain⟨_,o,ho,_⟩:=I.ok.funs.mem hb
  exact I.base.free b o ho (I.ok.frf b hb) λ z=>I.ok.exfs b z hb
theorem Inv.step {g':Array GenState}{t':Nat}{d':Drawn}{ch:List Addr} (I:Inv X pins σ H s)
  (hch:∀ b∈ch,(b∈X.ex∨X.s₀.heap.objs.size<=b)/\b≠X.env.locals/\(∀ x c,X.env.cells.lookup x=some c->c≠b)/\∀ p∈X.pn++pins,p.1≠b)
  (keep:∀ b o,b≠X.env.locals->b ∉ X.fs->b ∉ ch->s.heap.get? b=some o->H b=none->h'.get? b=some o)
  (slot:∀ b o,b≠X.env.locals->b∈X.fs->b ∉ ch->s.heap.get? b=some o->H b=none->∃ sl,h'.get? b=some {o with slots:=sl}) (free:∀ b o,b ∉ ch->s.heap.get? b=some o->H b=none->H' b=none)
  (there:∀ b o,b ∉ ch->s.heap.get? b=some o->∃ o',h'.get? b=some o')
  (tups:∀ b xs,H b=some (.tup xs)->H' b=some (.tup xs)) (frzs:∀ b o u,H b=some (.frz o u)->H' b=some (.frz o u)) (tbls:∀ b ps,H b=some (.tbl ps)->∃ more,H' b=some (.tbl (ps++more)))
  (ns:∀ m,s.heap.Ns X.env.locals m->h'.Ns X.env.locals m) (hok:HOk X.prog X.w H' h') (hg:AllBare g') :
  Inv X pins σ H' {s with heap:=h',gens:=g',drawn:=d',toks:=t'}:=by
 have neL:∀ b o,X.s₀.heap.get? b=some o->b≠X.env.locals:=λ b o e=>Nat.ne_of_lt (Nat.lt_of_lt_of_le (Heap.lt_size e) I.ok.above)
 have neC:∀ b o,X.s₀.heap.get? b=some o->b ∉ X.ex->b ∉ ch:=λ b o e hx hb=>by
  rcases (hch b hb).1 with z | z
  ·exact hx z
  ·exact absurd (Nat.lt_of_lt_of_le (Heap.lt_size e) z) (Nat.lt_irrefl _)
 have cellK:∀ x c,X.env.cells.lookup x=some c->∀ v,s.heap.IsCell c v->h'.IsCell c v:=λ x c e v ⟨o,ho,hd⟩=>by
  have nch:c ∉ ch:=λ z=>(hch c z).2.2.1 x c e rfl
  by_cases hc:c∈X.fs
  ·obtain⟨sl,q⟩:=slot c o (I.cne x c e) hc nch ho (I.freeC x c e)
   exact⟨_,q,hd⟩
  ·exact⟨o,keep c o (I.cne x c e) hc nch ho (I.freeC x c e),hd⟩
 refine⟨I.ok,I.os,hg,⟨λ b o e n hb hx=>?_,λ b o e n hb hx=>?_,λ b o e n hx=>?_,λ b o e hx=>?_,λ b xs e=>tups b xs (I.base.tups b xs e),λ b o xs e=>frzs b o xs (I.base.frzs b o xs e),λ b ps e=>?_⟩,?_,λ x c e=>?_,?_,λ x c e=>?_,λ p hp=>?_,hok,I.len⟩
 ·exact keep b o (neL b o e) hb (neC b o e hx) (I.base.keep b o e n hb hx) (I.base.free b o e n hx)
 ·obtain⟨sl,e1⟩:=I.base.slot b o e n hb hx
  obtain⟨sl',e2⟩:=slot b _ (neL b o e) hb (neC b o e hx) e1 (I.base.free b o e n hx)
  exact⟨sl',e2⟩
 ·obtain⟨o',e1⟩:=I.base.there b o e hx
  exact free b o' (neC b o e hx) e1 (I.base.free b o e n hx)
 ·obtain⟨o',e1⟩:=I.base.there b o e hx
  exact there b o' (neC b o e hx) e1
 ·obtain⟨m1,e1⟩:=I.base.tbls b ps e
  obtain⟨m2,e2⟩:=tbls b _ e1
  exact⟨m1++m2,by rw[e2,Array.append_assoc]⟩
 ·obtain⟨m,hn,hl⟩:=I.loc
  refine⟨m,ns m hn,λ i x v e1 e2 e3=>?_⟩
  obtain⟨u,r,l⟩:=hl i x v e1 e2 e3
  refine⟨u,r,?_⟩
  rcases l with l | ⟨k,c,e,z⟩
  ·exact .inl l
  ·exact .inr ⟨k,c,e,cellK x c e _ z⟩
 ·obtain⟨v,z⟩:=I.cell x c e
  exact⟨v,cellK x c e v z⟩
 ·obtain⟨m,⟨o,_,_,ho,_⟩,_⟩:=I.loc
  exact free _ o (λ z=>(hch _ z).2.1 rfl) ho I.free
 ·obtain⟨v,o,ho,hd⟩:=I.cell x c e
  exact free c o (λ z=>(hch c z).2.2.1 x c e rfl) ho (I.freeC x c e)
 ·obtain⟨e,n,ne,nf,d⟩:=I.pin p hp
  have nch:p.1 ∉ ch:=λ z=>(hch p.1 z).2.2.2 p hp rfl
  exact⟨keep p.1 p.2 ne nf nch e n,free p.1 p.2 nch e n,ne,nf,d⟩
theorem Inv.un {t':Nat} (I:Inv X pins σ H s) (u:Un X.fs [] H H' s.heap h') (hok:HOk X.prog X.w H' h'):Inv X pins σ H' {s with heap:=h',toks:=t'}:=by
 obtain⟨m,⟨o,es,ep,ho,r⟩,_⟩:=id I.loc
 obtain⟨sl,hL⟩:=u.any ho I.free (by simp)
 exact I.step (g':=s.gens) (d':=s.drawn) (ch:=[]) (λ _ z=>nomatch z) (λ b o _ hb _ e n=>u.keep b o e n hb (by simp)) (λ b o _ hb _ e n=>u.slot b o e n hb (by simp)) (λ b o _ e n=>u.free b o e n (by simp)) (λ b o _ e=>u.there b o e (by simp)) u.tups u.frzs u.tbls (λ m' hm=>by
  obtain⟨o',es',ep',ho',r'⟩:=hm
  rw[ho] at ho';cases ho'
  exact⟨_,es',ep',hL,r'⟩) hok I.bare
theorem Inv.call {g':Array GenState}{t':Nat}{d':Drawn}{ch:List Addr} (I:Inv X pins σ H s) (u:Un (frs X.stack) ch H H' s.heap h') (hok:HOk X.prog X.w H' h') (hg:AllBare g')
  (hch:∀ b∈ch,(b∈X.ex∨X.s₀.heap.objs.size<=b)/\b≠X.env.locals/\(∀ x c,X.env.cells.lookup x=some c->c≠b)/\∀ p∈X.pn++pins,p.1≠b) :
  Inv X pins σ H' {s with heap:=h',gens:=g',drawn:=d',toks:=t'}:=by
 obtain⟨m,⟨o,es,ep,ho,r⟩,_⟩:=id I.loc
 obtain⟨sl,hL⟩:=u.any ho I.free λ z=>(hch _ z).2.1 rfl
 exact I.step (ch:=ch) hch (λ b o hL hb hc e n=>u.keep b o e n (λ z=>(List.mem_cons.mp (I.stkSub b z)).elim hL hb) hc) (λ b o _ _ hc e n=>u.any e n hc) (λ b o hc e n=>u.free b o e n hc) (λ b o hc e=>u.there b o e hc) u.tups u.frzs u.tbls (λ m' hm=>by
  obtain⟨o',es',ep',ho',r'⟩:=hm
  rw[ho] at ho';cases ho'
  exact⟨_,es',ep',hL,r'⟩) hok hg
theorem Inv.turned {t':Nat}{it:Addr} (I:Inv X pins σ H s) (k:∀ b o,b≠it->s.heap.get? b=some o->h'.get? b=some o) (hn:H it=none) (hL:it≠X.env.locals)
  (h1:it∈X.ex∨X.s₀.heap.objs.size<=it) (h2:∀ x c,X.env.cells.lookup x=some c->c≠it) (h3:∀ p∈X.pn++pins,p.1≠it):Inv X pins σ H {s with heap:=h',toks:=t'}:=by
 have nit:∀ b u,H b=some u->b≠it:=λ b u e z=>by rw[z,hn] at e;cases e
 refine I.step (g':=s.gens) (d':=s.drawn) (ch:=[it]) (λ b hb=>?_) (λ b o _ _ hc e _=>k b o (λ z=>hc (by simp [z])) e) (λ b o _ _ hc e _=>⟨o.slots,k b o (λ z=>hc (by simp [z])) e⟩) (λ _ _ _ _ n=>n)
  (λ b o hc e=>⟨o,k b o (λ z=>hc (by simp [z])) e⟩) (λ _ _ e=>e) (λ _ _ _ e=>e) (λ b ps e=>⟨#[],by rw[e];simp⟩) (λ m hm=>?_) (λ b u e=>?_) I.bare
 ·have e:b=it:=by simpa using hb
  subst e
  exact⟨h1,hL,h2,h3⟩
 ·obtain⟨o,es,ep,ho,r⟩:=hm
  exact⟨o,es,ep,k _ o (Ne.symm hL) ho,r⟩
 ·refine (I.hok b u e).stay (λ c v hc q=>k c v ?_ q) (λ _ q=>q) λ _ _ q=>q
  rcases hc with z | z
  ·rw[z];exact nit b u e
  ·exact nit c _ z
theorem Inv.tok (I:Inv X pins σ H s) (t:Nat):Inv X pins σ H {s with toks:=t}:=I.un (h':=s.heap) (t':=t) Un.refl I.hok
theorem Inv.kept {t':Nat} (I:Inv X pins σ H s) (k:∀ b u,s.heap.get? b=some u->h'.get? b=some u):Inv X pins σ H {s with heap:=h',toks:=t'}:=I.un (Un.kept k) (I.hok.kept k)
theorem Inv.laid {a:Addr}{o:HO}{t':Nat} (I:Inv X pins σ H s) (k:∀ b u,s.heap.get? b=some u->h'.get? b=some u) (hp:s.heap.objs.size<=a) (new:bx X.prog X.w (upd H a o) h' a o) :
  Inv X pins σ (upd H a o) {s with heap:=h',toks:=t'}:=I.un (Un.laid k hp (I.hok.fresh hp)) (I.hok.laid k hp new)
theorem Inv.write {x e:Addr}{o:HO}{t':Nat} (I:Inv X pins σ H s) (mu:Mut (H x)) (he:e=x∨H e=some (.own x)) (k:∀ b u,b≠e->s.heap.get? b=some u->h'.get? b=some u) (heo:∃ u,h'.get? e=some u)
  (new:bx X.prog X.w (upd H x o) h' x o):Inv X pins σ (upd H x o) {s with heap:=h',toks:=t'}:=I.un (Un.write mu he k heo) (I.hok.write mu he k heo new)
theorem Inv.pins_of {pins':List (Addr×Obj)} (I:Inv X pins σ H s) (h:∀ p∈pins',s.heap.get? p.1=some p.2/\H p.1=none/\p.1≠X.env.locals/\p.1 ∉ X.fs/\∀ v,p.2.data≠.cell v):Inv X pins' σ H s :=
 ⟨I.ok,I.os,I.bare,I.base,I.loc,I.cell,I.free,I.freeC,λ p hp=>(List.mem_append.mp hp).elim (λ z=>I.pin p (List.mem_append_left _ z)) (h p),I.hok,I.len⟩
theorem kH {N:List Str} (hN:N.Nodup) {i j:Nat}{x:Str} (a:N[i]? = some x) (b:N[j]? = some x):i=j:=by
 obtain⟨h1,e1⟩:=List.getElem?_eq_some_iff.mp a
 obtain⟨h2,e2⟩:=List.getElem?_eq_some_iff.mp b
 exact (List.getElem_inj hN).mp (e1.trans e2.symm)
theorem uE {M:Model}{A:Around}{E:Value->Shared->Prop}{i:Nat}{x:Str}{v:V}{u:Value}{Q:Unit->Shared->Prop} (I:Inv X pins σ H s) (hN:X.N.Nodup) (hi:X.N[i]? = some x) (hx:Loc X.env.scope x) (r:bw v u)
  (h:∀ s',Inv X pins (σ.set i (some v)) H s'->(∃ a,Heap.SameBut a s.heap s'.heap/\(a=X.env.locals∨X.env.cells.lookup x=some a))->Q () s') (hf:X.fn x=true∨X.env.scope.names.lookup x=some .local:=by first | exact .inl rfl | exact .inr rfl | assumption):wpAny M A (storeName X.env x u) Q E s:=by
 obtain⟨m,hn,hl⟩:=id I.loc
 have hcls:(X.env.scope.kind == .class || (X.env.scope.kind == .module && X.env.locals != X.env.globals))=false:=by rw[I.ok.kind];rfl
 have hiσ:i < σ.length:=by rw[I.len];exact (List.getElem?_eq_some_iff.mp hi).1
 have cne:=I.cne
 have tracked:∀ {a:Addr}{h':Heap},(∃ o,s.heap.get? a=some o/\H a=none)->Heap.SameBut a s.heap h'->HOk X.prog X.w H h':=λ {a h'} ha hs b ob e=>by
  obtain⟨_,_,hfree⟩:=ha
  refine (I.hok b ob e).stay (λ c w' hc q=>(hs.2 c ?_).trans q) (λ _ q=>q) λ _ _ q=>q
  rintro rfl
  rcases hc with rfl | hc
  ·rw[hfree] at e;cases e
  ·rw[hfree] at hc;cases hc
 rcases hx with hk | hk
 ·refine wpAny_storeName_local hk hn (λ h' hn' hs=>?_) hcls
  obtain⟨oL,_,_,hoL,_⟩:=id hn
  refine h _ ⟨I.ok,I.os,I.bare,⟨λ b o e n hb hx=>?_,λ b o e n hb hx=>?_,I.base.free,λ b o e hx=>?_,I.base.tups,I.base.frzs,I.base.tbls⟩,⟨_,hn',λ j y v' e1 e2 e3=>?_⟩,λ y c e=>?_,I.free,I.freeC,λ p hp=>?_,tracked ⟨oL,hoL,I.free⟩ hs,by simpa using I.len⟩ ⟨_,hs,.inl rfl⟩
  ·exact (hs.2 b (Nat.ne_of_lt (Nat.lt_of_lt_of_le (Heap.lt_size e) I.ok.above))).trans (I.base.keep b o e n hb hx)
  ·obtain⟨sl,e1⟩:=I.base.slot b o e n hb hx
   exact⟨sl,(hs.2 b (Nat.ne_of_lt (Nat.lt_of_lt_of_le (Heap.lt_size e) I.ok.above))).trans e1⟩
  ·obtain⟨o',e1⟩:=I.base.there b o e hx
   exact⟨o',(hs.2 b (Nat.ne_of_lt (Nat.lt_of_lt_of_le (Heap.lt_size e) I.ok.above))).trans e1⟩
  ·by_cases hj:j=i
   ·subst hj
    rw[hi] at e1;cases e1
    rw[List.getElem?_set_self hiσ] at e2
    cases e2
    exact⟨u,r,.inl ⟨hk,by simp⟩⟩
   ·rw[List.getElem?_set_ne (Ne.symm hj)] at e2
    obtain⟨u',r',q⟩:=hl j y v' e1 e2 e3
    refine⟨u',r',?_⟩
    rcases q with ⟨k,e⟩ | ⟨k,c,e,z⟩
    ·refine .inl ⟨k,?_⟩
     have:y≠x:=λ e=>hj (kH hN e1 (e ▸ hi))
     simp [this,e]
    ·exact .inr ⟨k,c,e,z.sameBut hs (cne y c e)⟩
  ·obtain⟨w',z⟩:=I.cell y c e
   exact⟨w',z.sameBut hs (cne y c e)⟩
  ·obtain⟨e,n,ne,nf,d⟩:=I.pin p hp
   exact⟨(hs.2 p.1 ne).trans e,n,ne,nf,d⟩
 ·have hfn:X.fn x=true:=by
   rcases hf with z | z
   ·exact z
   ·rw[z] at hk;cases hk
  obtain⟨c,hc⟩:=I.ok.has x (.inl hk)
  obtain⟨w',z⟩:=I.cell x c hc
  refine wpAny_storeName_cell I.ok.kind hk hc z (λ h' hc' hs=>?_)
  obtain⟨oc,hoc,hocd⟩:=id z
  refine h {s with heap:=h'} ⟨I.ok,I.os,I.bare,⟨λ b o e n hb hx=>?_,λ b o e n hb hx=>?_,I.base.free,λ b o e hx=>?_,I.base.tups,I.base.frzs,I.base.tbls⟩,⟨m,hn.sameBut hs (Ne.symm (cne x c hc)),λ j y v' e1 e2 e3=>?_⟩,λ y c' e=>?_,I.free,I.freeC,λ p hp=>?_,tracked ⟨oc,hoc,I.freeC x c hc⟩ hs,by simpa using I.len⟩ ⟨c,hs,.inr hc⟩
  ·exact (hs.2 b (Nat.ne_of_lt (Nat.lt_of_lt_of_le (Heap.lt_size e) (I.ok.cab x c hfn hc)))).trans (I.base.keep b o e n hb hx)
  ·obtain⟨sl,e1⟩:=I.base.slot b o e n hb hx
   exact⟨sl,(hs.2 b (Nat.ne_of_lt (Nat.lt_of_lt_of_le (Heap.lt_size e) (I.ok.cab x c hfn hc)))).trans e1⟩
  ·obtain⟨o',e1⟩:=I.base.there b o e hx
   exact⟨o',(hs.2 b (Nat.ne_of_lt (Nat.lt_of_lt_of_le (Heap.lt_size e) (I.ok.cab x c hfn hc)))).trans e1⟩
  ·by_cases hj:j=i
   ·subst hj
    rw[hi] at e1;cases e1
    rw[List.getElem?_set_self hiσ] at e2
    cases e2
    exact⟨u,r,.inr ⟨.inl hk,c,hc,hc'⟩⟩
   ·rw[List.getElem?_set_ne (Ne.symm hj)] at e2
    obtain⟨u',r',q⟩:=hl j y v' e1 e2 e3
    refine⟨u',r',?_⟩
    rcases q with q | ⟨k,c',e,z'⟩
    ·exact .inl q
    ·refine .inr ⟨k,c',e,z'.sameBut hs ?_⟩
     rintro rfl
     exact hj (kH hN e1 (I.ok.inj _ _ _ e hc ▸ hi))
  ·by_cases hcc:c'=c
   ·subst hcc;exact⟨_,hc'⟩
   ·obtain⟨w2,z2⟩:=I.cell y c' e
    exact⟨w2,z2.sameBut hs hcc⟩
  ·obtain⟨e,n,ne,nf,d⟩:=I.pin p hp
   refine⟨(hs.2 p.1 ?_).trans e,n,ne,nf,d⟩
   intro q
   rw[q,hoc] at e
   have q':oc=p.2:=Option.some.inj e
   exact d w' (by rw[<-q'];exact hocd)
theorem ic {M:Model}{A:Around}{E:Value->Shared->Prop}{i:Nat}{x:Str}{v:V}{u:Value}{Q:Unit->Shared->Prop} (I:Inv X pins σ H s) (hN:X.N.Nodup) (hi:X.N[i]? = some x) (hx:Loc X.env.scope x) (r:bw v u)
  (h:∀ s',Inv X pins (σ.set i (some v)) H s'->Q () s') (hf:X.fn x=true∨X.env.scope.names.lookup x=some .local:=by first | exact .inl rfl | exact .inr rfl | assumption):wpAny M A (storeName X.env x u) Q E s :=
 uE I hN hi hx r (λ s' I' _=>h s' I') hf
theorem Inv.call' {s':Shared}{ch:List Addr} (I:Inv X pins σ H s) (ho:s'.os=s.os) (u:Un (frs X.stack) ch H H' s.heap s'.heap) (hok:HOk X.prog X.w H' s'.heap) (hg:AllBare s'.gens)
  (hch:∀ b∈ch,(b∈X.ex∨X.s₀.heap.objs.size<=b)/\b≠X.env.locals/\(∀ x c,X.env.cells.lookup x=some c->c≠b)/\∀ p∈X.pn++pins,p.1≠b):Inv X pins σ H' s':=by
 obtain⟨h',g',d',t',o'⟩:=s'
 have e:o'=s.os:=ho
 subst e
 exact I.call (g':=g') (t':=t') (d':=d') u hok hg hch
end
abbrev XK:=Value->Option Addr->Hp->Prop
abbrev St:=List (Option V)
abbrev VK:=V->Hp->Prop
abbrev TE:=St->Hp->VK->Prop
abbrev TT:=St->Hp->(Bool->Hp->Prop)->Prop
abbrev TA:=St->Hp->(List V->Hp->Prop)->Prop
structure hW where
 nx:St->Hp->Prop
 rt:VK
 bk:St->Hp->Prop:=λ _ _=>False
 ct:St->Hp->Prop:=λ _ _=>False
abbrev TS:=hW->St->Hp->Prop
def EP (X:Cx) (pins:List (Addr×Obj)) (σ:St) (Q:VK) (u:Value) (s':Shared):Prop:=∃ v H',Inv X pins σ H' s'/\bw v u/\Q v H'
def TP (X:Cx) (pins:List (Addr×Obj)) (σ:St) (Q:Bool->Hp->Prop) (b:Bool) (s':Shared):Prop:=∃ H',Inv X pins σ H' s'/\Q b H'
def AP (X:Cx) (pins:List (Addr×Obj)) (σ:St) (Q:List V->Hp->Prop) (us:List Value) (s':Shared):Prop:=∃ vs H',Inv X pins σ H' s'/\bg vs us/\Q vs H'
def SP (X:Cx) (pins:List (Addr×Obj)) (D:hW) (f:Flow) (s':Shared):Prop :=
 match f with
 | .next=>∃ σ' H',Inv X pins σ' H' s'/\D.nx σ' H'
 | .brk=>∃ σ' H',Inv X pins σ' H' s'/\D.bk σ' H'
 | .cont=>∃ σ' H',Inv X pins σ' H' s'/\D.ct σ' H'
 | .ret u=>∃ v σ' H',Inv X pins σ' H' s'/\bw v u/\D.rt v H'
def PE (X:Cx) (e:Expr) (t:TE):Prop :=
 ∀ (pins:List (Addr×Obj)) (s:Shared) (σ:St) (H:Hp) (Q:VK),Inv X pins σ H s->t σ H Q->wpAny (model X.prog X.w) X.A (eval e X.env) (EP X pins σ Q) X.xe s
def PT (X:Cx) (e:Expr) (t:TT):Prop :=
 ∀ (pins:List (Addr×Obj)) (s:Shared) (σ:St) (H:Hp) (Q:Bool->Hp->Prop),Inv X pins σ H s->t σ H Q->wpAny (model X.prog X.w) X.A (isTrue e X.env (eval e X.env)) (TP X pins σ Q) X.xe s
def PW (X:Cx) (e:Expr) (t:TT):Prop :=
 ∀ (whole:Sem Value) (pins:List (Addr×Obj)) (s:Shared) (σ:St) (H:Hp) (Q:Bool->Hp->Prop),Inv X pins σ H s->t σ H Q->wpAny (model X.prog X.w) X.A (isTrue e X.env whole) (TP X pins σ Q) X.xe s
theorem PW.pt {X:Cx}{e:Expr}{t:TT} (h:PW X e t):PT X e t:=h _
def PA (X:Cx) (es:List Expr) (t:TA):Prop :=
 ∀ (pos:Pos) (pins:List (Addr×Obj)) (s:Shared) (σ:St) (H:Hp) (Q:List V->Hp->Prop),Inv X pins σ H s->t σ H Q->wpAny (model X.prog X.w) X.A (spliced (backTo pos (starEach es X.env))) (AP X pins σ Q) X.xe s
def PS (X:Cx) (st:Stmt) (t:TS):Prop :=
 ∀ (pins:List (Addr×Obj)) (s:Shared) (σ:St) (H:Hp) (D:hW),Inv X pins σ H s->t D σ H->wpAny (model X.prog X.w) X.A (exec st X.env) (SP X pins D) X.xe s
def PSs (X:Cx) (st:List Stmt) (t:TS):Prop :=
 ∀ (pins:List (Addr×Obj)) (s:Shared) (σ:St) (H:Hp) (D:hW),Inv X pins σ H s->t D σ H->wpAny (model X.prog X.w) X.A (execs st X.env) (SP X pins D) X.xe s
theorem thn {α:Type}{t:Sem α}{Q Q':α->Shared->Prop}{M:Model}{A:Around}{E:Value->Shared->Prop}{s:Shared} (h:wpAny M A t Q E s) (hQ:∀ a s,Q a s->Q' a s):wpAny M A t Q' E s:=wpAny_mono h hQ λ _ _ x=>x
section
variable {X:Cx}
def DL (i:Nat):TE:=λ σ H Q=>∃ v,σ[i]? = some (some v)/\Q v H
def tC (v:V):TE:=λ _ H Q=>Q v H
theorem Ew {i:Nat}{x:Str}{pos:Pos} (hN:X.N[i]? = some x) (hv:Vis X.env.scope x) (hd:(x == ("__debug__":Str))=false:=by decide) (hcd:(x == ("__classdict__":Str))=false:=by decide):PE X (.Name x pos) (DL i):=by
 intro pins s σ H Q I h
 obtain⟨v,e,h⟩:=h
 obtain⟨m,hn,hl⟩:=I.loc
 obtain⟨u,r,l⟩:=hl i x v hN e hv
 have fin:EP X pins σ Q u s:=⟨v,H,I,r,h⟩
 rcases l with ⟨hk,hm⟩ | ⟨hk,c,hc,hcell⟩
 ·exact wpAny_Name (wpAny_loadName_local I.ok.kind hk hn hm fin) hd
 ·rcases hk with hk | hk
  ·exact wpAny_Name (wpAny_loadName_cell I.ok.kind hk hc hcell fin) hd
  ·exact wpAny_Name (wpAny_loadName_free I.ok.kind hk hc hcell fin hcd) hd
theorem aj {i j pos}:PE X (.Constant (.int i) j pos) (tC (.int i)):=λ _ _ _ H _ I h=>wpAny_Constant_int ⟨.int i,H,I.tok _,⟨_,rfl⟩,h⟩
theorem ip {b j pos}:PE X (.Constant (.bool b) j pos) (tC (.bl b)):=λ _ _ _ H _ I h=>Constant_bool ⟨.bl b,H,I,rfl,h⟩
theorem gR {j pos}:PE X (.Constant .none j pos) (tC .non):=λ _ _ _ H _ I h=>Constant_none ⟨.non,H,I,rfl,h⟩
theorem ah {x j pos}:PE X (.Constant (.str x) j pos) (tC (.str x)):=λ _ _ _ H _ I h=>Calls.Constant_str ⟨.str x,H,I.tok _,⟨_,rfl⟩,h⟩
def Gl (X:Cx) (x:Str):Prop:=X.env.kindOf x=some .globalImplicit
theorem dl {E:Value->Shared->Prop}{pins:List (Addr×Obj)}{s:Shared}{σ:St}{H:Hp}{x:Str}{u:Value}{pos:Pos}{Q:Value->Shared->Prop} (I:Inv X pins σ H s) (hg:Gl X x) (hm:X.mg x=some u) (h:Q u s)
  (hd:(x == ("__debug__":Str))=false:=by decide):wpAny (model X.prog X.w) X.A (eval (.Name x pos) X.env) Q E s :=
 Calls.Name_function_global I.ok.kind hg (Calls.loadGlobal_global (by rw[I.ok.glob];exact I.mod.glob.keeps I.bk) hm h) hd
theorem fU {E:Value->Shared->Prop}{pins:List (Addr×Obj)}{s:Shared}{σ:St}{H:Hp}{x:Str}{u:Value}{pos:Pos}{Q:Value->Shared->Prop} (I:Inv X pins σ H s) (hg:Gl X x) (hm:X.mg x=none) (hv:bootBuiltins x=some u) (h:Q u s)
  (hn:x≠"__name__":=by decide) (hd:(x == ("__debug__":Str))=false:=by decide):wpAny (model X.prog X.w) X.A (eval (.Name x pos) X.env) Q E s:=by
 obtain⟨mb,h1,h2⟩:=I.mod.blt
 exact Calls.Name_function_global I.ok.kind hg (Calls.loadGlobal_builtin (by rw[I.ok.glob];exact I.mod.glob.keeps I.bk) hm (by rw[I.ok.blt];exact h1.keeps I.bk) ((h2 x hn).trans hv) h) hd
theorem bV {x:Str}{v:V}{u:Value}{pos:Pos} (hg:Gl X x) (hm:X.mg x=some u) (r:bw v u) (hd:(x == ("__debug__":Str))=false:=by decide):PE X (.Name x pos) (tC v) :=
 λ _ _ _ H _ I h=>dl I hg hm ⟨v,H,I,r,h⟩ hd
theorem eJ {x:Str}{v:V}{u:Value}{pos:Pos} (hg:Gl X x) (hm:X.mg x=none) (hv:bootBuiltins x=some u) (r:bw v u) (hn:x≠"__name__":=by decide) (hd:(x == ("__debug__":Str))=false:=by decide):PE X (.Name x pos) (tC v) :=
 λ _ _ _ H _ I h=>fU I hg hm hv ⟨v,H,I,r,h⟩ hn hd
variable {a b:Expr}{ta tb:TE}{pos:Pos}
def PC (X:Cx) (op:CmpOp) (a b:Expr) (t:TE):Prop :=
 ∀ (pins:List (Addr×Obj)) (s:Shared) (σ:St) (H:Hp) (Q:VK),Inv X pins σ H s->t σ H Q ->
  wpAny (model X.prog X.w) X.A (eval a X.env) (λ v s₁=>wpAny (model X.prog X.w) X.A (eval b X.env) (λ u s₂=>wpAny (model X.prog X.w) X.A (compareOp op v u) (EP X pins σ Q) X.xe s₂) X.xe s₁) X.xe s
def tB (t:TE):TT:=λ σ H Q=>t σ H λ x H1=>∃ c,x=.bl c/\Q c H1
theorem nF {op:CmpOp}{t:TE} (h:PC X op a b t) (h1:behindInMarks op b=false:=by first | exact nobehind _ (by decide) (by decide) | rfl):PT X (.Compare a [op] [b] pos) (tB t):=by
 intro pins s σ H Q I hw
 refine wpAny_isTrue_Compare1 (thn (h pins s σ H _ I hw) λ v s1 h1=>thn h1 λ u s2 h2=>thn h2 λ c s3 ⟨x,H1,I1,r1,q1⟩=>?_) h1
 obtain⟨d,rfl,q⟩:=q1
 cases r1
 exact wpAny_truthy_bool ⟨H1,I1,q⟩
theorem br {e:Expr}{t:TE} (h:PE X e t) (he:∀ whole,isTrue e X.env whole=(do let v <-whole;standAt e.pos;holding [v] (truthy v)):=by intro _;rfl):PT X e (tB t):=by
 intro pins s σ H Q I hw
 refine isTrue_plain (thn (h pins s σ H _ I hw) λ v s1 ⟨x,H1,I1,r1,q1⟩=>?_) (he _)
 obtain⟨d,rfl,q⟩:=q1
 cases r1
 exact wpAny_truthy_bool ⟨H1,I1,q⟩
variable {tA tB':TT}{rest:List Expr}
def Hf (t u:TT):TT:=λ σ H Q=>t σ H λ c H1=>if c=true then u σ H1 Q else Q false H1
def tOr (t u:TT):TT:=λ σ H Q=>t σ H λ c H1=>if c=true then Q true H1 else u σ H1 Q
def GZ (t:TT):TT:=λ σ H Q=>t σ H λ c H1=>Q (!c) H1
theorem tO (ha:PT X a tA):PW X (.BoolOp .And [a] pos) tA:=by
 intro wh pins s σ H Q I h
 refine isTrue_and (thn (ha pins s σ H Q I h) λ c s1 e=>?_)
 cases c with
 | true=>exact isTrue_and_nil e
 | false=>exact e
theorem cB (ha:PT X a tA):PW X (.BoolOp .Or [a] pos) tA:=by
 intro wh pins s σ H Q I h
 refine isTrue_or (thn (ha pins s σ H Q I h) λ c s1 e=>?_)
 cases c with
 | false=>exact isTrue_or_nil e
 | true=>exact e
theorem ye (ha:PT X a tA) (hb:PW X (.BoolOp .And (b::rest) pos) tB'):PW X (.BoolOp .And (a::b::rest) pos) (Hf tA tB'):=by
 intro wh pins s σ H Q I h
 refine isTrue_and (thn (ha pins s σ H _ I h) λ c s1 ⟨H1,I1,q1⟩=>?_)
 cases c with
 | true=>exact hb wh pins s1 σ H1 Q I1 q1
 | false=>exact⟨H1,I1,q1⟩
theorem cL (ha:PT X a tA) (hb:PW X (.BoolOp .Or (b::rest) pos) tB'):PW X (.BoolOp .Or (a::b::rest) pos) (tOr tA tB'):=by
 intro wh pins s σ H Q I h
 refine isTrue_or (thn (ha pins s σ H _ I h) λ c s1 ⟨H1,I1,q1⟩=>?_)
 cases c with
 | true=>exact⟨H1,I1,q1⟩
 | false=>exact hb wh pins s1 σ H1 Q I1 q1
theorem bK (ha:PT X a tA):PT X (.UnaryOp .Not a pos) (GZ tA):=by
 intro pins s σ H Q I h
 exact isTrue_not (ha pins s σ H (λ c H1=>Q (!c) H1) I h)
def F3 (ta tb:TE):TE:=λ σ H Q=>ta σ H λ x H1=>∃ c,x=.bl c/\if c=true then tb σ H1 Q else Q (.bl false) H1
def FT (ta:TE):TE:=λ σ H Q=>ta σ H λ x H1=>∃ c,x=.bl c/\Q (.bl (!c)) H1
theorem kD {op}{t:TE} (h:PE X a t):PE X (.BoolOp op [a] pos) t:=λ pins s σ H Q I hw=>BoolOp_one (h pins s σ H Q I hw)
theorem fR (ha:PE X a ta) (hb:PE X (.BoolOp .And (b::rest) pos) tb):PE X (.BoolOp .And (a::b::rest) pos) (F3 ta tb):=by
 intro pins s σ H Q I h
 refine BoolOp_and (thn (ha pins s σ H _ I h) λ v s1 ⟨x,H1,I1,r1,q1⟩=>?_)
 obtain⟨c,rfl,q1⟩:=q1
 cases r1
 refine wpAny_truthy_bool ?_
 cases c with
 | true=>exact hb pins s1 σ H1 Q I1 q1
 | false=>exact⟨.bl false,H1,I1,rfl,q1⟩
theorem Ex (ha:PE X a ta):PE X (.UnaryOp .Not a pos) (FT ta):=by
 intro pins s σ H Q I h
 refine UnaryOp_ (thn (ha pins s σ H _ I h) λ v s1 ⟨x,H1,I1,r1,q1⟩=>?_)
 obtain⟨c,rfl,q1⟩:=q1
 cases r1
 exact not_of (wpAny_truthy_bool ⟨.bl (!c),H1,I1,rfl,q1⟩)
def tIf (t:TT) (ta tb:TE):TE:=λ σ H Q=>t σ H λ c H1=>if c=true then ta σ H1 Q else tb σ H1 Q
theorem kE {c:Expr} (hc:PT X c tA) (ha:PE X a ta) (hb:PE X b tb):PE X (.IfExp c a b pos) (tIf tA ta tb):=by
 intro pins s σ H Q I h
 refine wpAny_IfExp (thn (hc pins s σ H _ I h) λ d s1 ⟨H1,I1,q1⟩=>?_)
 cases d with
 | true=>exact ha pins s1 σ H1 Q I1 q1
 | false=>exact hb pins s1 σ H1 Q I1 q1
end
def SqL (K:PySem.W.Frag) (H:Hp) (a:Addr) (xs:List V):Prop :=
 Rd H a (.lst xs) ∨
  ∃ (o:Obj) (its:Array Value) (n:Nat),K.lookup a=some o/\o.cls=.type "list"/\o.dict=none/\o.data=.seq its n/\its.size<=sizeLine/\bg xs its.toList
def SqT (K:PySem.W.Frag) (H:Hp) (a:Addr) (xs:List V):Prop :=
 Rd H a (.tup xs) ∨
  ∃ (o:Obj) (its:Array Value) (n:Nat),K.lookup a=some o/\o.cls=.type "tuple"/\o.data=.seq its n/\its.size<=sizeLine/\bg xs its.toList
def HD:Value->Option V
 | .none=>some .non
 | .bool b=>some (.bl b)
 | .int i _=>some (.int i)
 | .str x _=>some (.str x)
 | .bytes b _=>some (.byt b)
 | .float b _=>some (.flt b)
 | .ref a=>some (.ref a)
 | .type n=>some (.ty n)
 | _=>none
theorem bw.abs {x:V}{u:Value} (r:bw x u):HD u=some x:=by
 cases x with
 | non=>cases r;rfl
 | bl _=>cases r;rfl
 | int _=>obtain⟨t,rfl⟩:=r;rfl
 | str _=>obtain⟨t,rfl⟩:=r;rfl
 | byt _=>obtain⟨t,rfl⟩:=r;rfl
 | flt _=>obtain⟨t,rfl⟩:=r;rfl
 | ref _=>cases r;rfl
 | ty _=>cases r;rfl
theorem bw.inj {x y:V}{u:Value} (r:bw x u) (q:bw y u):x=y:=Option.some.inj (r.abs.symm.trans q.abs)
theorem bg.inj:∀ {xs ys:List V}{us:List Value},bg xs us->bg ys us->xs=ys
 | _,_,_,.nil,.nil=>rfl
 | _,_,_,.cons r t,.cons r' t'=>by rw[r.inj r',bg.inj t t']
section
variable {X:Cx}{pins:List (Addr×Obj)}{σ:St}{H:Hp}{s:Shared}{a:Addr}{xs ys:List V}
theorem SqL.of {K:PySem.W.Frag} (h:H a=some (.lst xs)):SqL K H a xs:=.inl (.inl h)
theorem SqT.of {K:PySem.W.Frag} (h:H a=some (.tup xs)):SqT K H a xs:=.inl (.inl h)
theorem Inv.list (I:Inv X pins σ H s) (h:SqL X.K H a xs):∃ its:List Value,bg xs its/\PlainL s.heap a its.toArray/\xs.length<=sizeLine:=by
 rcases h with h | ⟨o,its,n,hk,hc,hd,hs,hz,r⟩
 ·obtain⟨z,its,n,r,e⟩:=h.ok I.hok
  exact⟨its,r,⟨_,n,e,rfl,rfl,rfl⟩,z⟩
 ·refine⟨its.toList,r,⟨o,n,I.kIn a o hk,hc,hd,by simpa using hs⟩,?_⟩
  have e:=r.length
  simp only[Array.length_toList] at e
  omega
theorem Inv.tuple (I:Inv X pins σ H s) (h:SqT X.K H a xs):∃ its:List Value,bg xs its/\IsTup s.heap a its.toArray/\xs.length<=sizeLine:=by
 rcases h with h | ⟨o,its,n,hk,hc,hs,hz,r⟩
 ·obtain⟨z,its,r,p⟩:=h.ok I.hok
  exact⟨its,r,p,z⟩
 ·refine⟨its.toList,r,⟨o,I.kIn a o hk,hc,n,by simpa using hs⟩,?_⟩
  have e:=r.length
  simp only[Array.length_toList] at e
  omega
theorem Inv.list_inj (I:Inv X pins σ H s) (h:SqL X.K H a xs) (h':SqL X.K H a ys):xs=ys:=by
 obtain⟨its,r,⟨o,n,e,_,_,d⟩,_⟩:=I.list h
 obtain⟨its',r',⟨o',n',e',_,_,d'⟩,_⟩:=I.list h'
 rw[e] at e';cases e'
 rw[d] at d'
 injection d' with d1 _
 have:its=its':=by simpa using congrArg Array.toList d1
 subst this
 exact r.inj r'
theorem Inv.tuple_inj (I:Inv X pins σ H s) (h:SqT X.K H a xs) (h':SqT X.K H a ys):xs=ys:=by
 obtain⟨its,r,⟨o,e,_,n,d⟩,_⟩:=I.tuple h
 obtain⟨its',r',⟨o',e',_,n',d'⟩,_⟩:=I.tuple h'
 rw[e] at e';cases e'
 rw[d] at d'
 injection d' with d1 _
 have:its=its':=by simpa using congrArg Array.toList d1
 subst this
 exact r.inj r'
end
abbrev Cx.wish (X:Cx) (E:Value->Shared->Prop):Cx:={X with xe:=E}
abbrev Cx.nox (X:Cx):Cx:=X.wish λ _ _=>False
theorem Cx.Ok.wish {X:Cx} (ok:X.Ok) (E:Value->Shared->Prop):(X.wish E).Ok :=
 ⟨ok.mod,ok.kind,ok.glob,ok.blt,ok.above,ok.inj,ok.has,ok.cab,ok.hd,ok.frames,ok.stk,ok.exf,ok.bs,ok.bsz,ok.noex,ok.exfs,ok.funs,ok.frf⟩
theorem Cx.Ok.unwish {X:Cx}{E:Value->Shared->Prop} (ok:(X.wish E).Ok):X.Ok :=
 ⟨ok.mod,ok.kind,ok.glob,ok.blt,ok.above,ok.inj,ok.has,ok.cab,ok.hd,ok.frames,ok.stk,ok.exf,ok.bs,ok.bsz,ok.noex,ok.exfs,ok.funs,ok.frf⟩
section
variable {X:Cx}{pins:List (Addr×Obj)}{σ:St}{H:Hp}{s:Shared}{E:Value->Shared->Prop}
theorem Inv.wish (I:Inv X pins σ H s) (E:Value->Shared->Prop):Inv (X.wish E) pins σ H s:=⟨I.ok.wish E,I.os,I.bare,I.base,I.loc,I.cell,I.free,I.freeC,I.pin,I.hok,I.len⟩
theorem Inv.unwish (I:Inv (X.wish E) pins σ H s):Inv X pins σ H s:=⟨I.ok.unwish,I.os,I.bare,I.base,I.loc,I.cell,I.free,I.freeC,I.pin,I.hok,I.len⟩
theorem SP.unwish {D:hW}{f:Flow}{s':Shared} (h:SP (X.wish E) pins D f s'):SP X pins D f s':=by
 cases f with
 | next=>obtain⟨σ',H',I,q⟩:=h;exact⟨σ',H',I.unwish,q⟩
 | brk=>obtain⟨σ',H',I,q⟩:=h;exact⟨σ',H',I.unwish,q⟩
 | cont=>obtain⟨σ',H',I,q⟩:=h;exact⟨σ',H',I.unwish,q⟩
 | ret u=>obtain⟨v,σ',H',I,r,q⟩:=h;exact⟨v,σ',H',I.unwish,r,q⟩
theorem PSs.nox {st:List Stmt}{t:TS} (h:PSs X.nox st t):PSs X st t:=λ pins s σ H D I hw =>
 wpAny_mono (h pins s σ H D (I.wish _) hw) (λ _ _ q=>q.unwish) λ _ _ z=>False.elim z
end
section
variable {X:Cx}{st:Stmt}{rest:List Stmt}{t u:TS}{e:Expr}{te:TE}{pos:Pos}
def FU:TS:=λ D σ H=>D.nx σ H
def FR (t u:TS):TS:=λ D σ H=>t {D with nx:=u D} σ H
theorem aI:PSs X [] FU:=λ _ _ σ H _ I h=>wpAny_execs_nil ⟨σ,H,I,h⟩
theorem ag (h1:PS X st t) (h2:PSs X rest u):PSs X (st::rest) (FR t u):=by
 intro pins s σ H D I h
 refine wpAny_execs_cons (thn (h1 pins s σ H {D with nx:=u D} I h) λ f s1 q=>?_)
 cases f with
 | next =>
  obtain⟨σ',H',I',q⟩:=q
  exact h2 pins s1 σ' H' D I' q
 | ret v=>exact q
 | brk=>exact q
 | cont=>exact q
theorem ak (h1:PS X st t):PSs X [st] t:=by
 intro pins s σ H D I h
 refine wpAny_execs_cons (thn (h1 pins s σ H D I h) λ f s1 q=>?_)
 cases f with
 | next=>exact wpAny_execs_nil q
 | ret v=>exact q
 | brk=>exact q
 | cont=>exact q
theorem Inv.quiet {pins:List (Addr×Obj)}{σ:St}{H:Hp}{s:Shared} (I:Inv X pins σ H s):interactive X.env=false:=by simp [interactive,I.ok.kind]
def FY (te:TE):TS:=λ D σ H=>te σ H λ _ H1=>D.nx σ H1
theorem jL (he:PE X e te) (hs:swapsWith e none pos.line X.env=pure false:=by rfl):PS X (.Expr e pos) (FY te):=by
 intro pins s σ H D I h
 exact wpAny_Expr_any (thn (he pins s σ H _ I h) λ v s1 ⟨x,H1,I1,r1,q1⟩=>⟨σ,H1,I1,q1⟩) I.quiet hs
def GY (te:TE):TS:=λ D σ H=>te σ H D.rt
theorem aE (he:PE X e te):PS X (.Return (some e) pos) (GY te):=by
 intro pins s σ H D I h
 exact wpAny_Return_some (thn (he pins s σ H _ I h) λ v s1 ⟨x,H1,I1,r1,q1⟩=>⟨x,σ,H1,I1,r1,q1⟩)
def Hc (c:TT) (t u:TS):TS:=λ D σ H=>c σ H λ b H1=>if b=true then t D σ H1 else u D σ H1
theorem aU {c:Expr}{a b:List Stmt}{tc:TT} (hc:PT X c tc) (ha:PSs X a t) (hb:PSs X b u):PS X (.If c a b pos) (Hc tc t u):=by
 intro pins s σ H D I h
 refine wpAny_If (thn (hc pins s σ H _ I h) λ d s1 ⟨H1,I1,q1⟩=>?_)
 cases d with
 | true=>exact ha pins s1 σ H1 D I1 q1
 | false=>exact hb pins s1 σ H1 D I1 q1
end
abbrev TG:=V->St->Hp->(St->Hp->Prop)->Prop
abbrev TGs:=List V->St->Hp->(St->Hp->Prop)->Prop
def PG (X:Cx) (target:Expr) (t:TG):Prop :=
 ∀ (pins:List (Addr×Obj)) (s:Shared) (σ:St) (H:Hp) (v:V) (u:Value) (Q:St->Hp->Prop),Inv X pins σ H s->bw v u->t v σ H Q ->
  wpAny (model X.prog X.w) X.A (assign target X.env u) (λ _ s'=>∃ σ' H',Inv X pins σ' H' s'/\Q σ' H') X.xe s
def PGs (X:Cx) (ts:List Expr) (t:TGs):Prop :=
 ∀ (pins:List (Addr×Obj)) (s:Shared) (σ:St) (H:Hp) (vs:List V) (us:List Value) (Q:St->Hp->Prop),Inv X pins σ H s->bg vs us->t vs σ H Q ->
  wpAny (model X.prog X.w) X.A (assignInOrder ((assignEach ts X.env).map (·.2)) us) (λ _ s'=>∃ σ' H',Inv X pins σ' H' s'/\Q σ' H') X.xe s
section
variable {X:Cx}{pos:Pos}
def cC (i:Nat):TG:=λ v σ H Q=>Q (σ.set i (some v)) H
theorem aP {i:Nat}{x:Str} (hN:X.N.Nodup) (hi:X.N[i]? = some x) (hx:Loc X.env.scope x) (hf:X.fn x=true∨X.env.scope.names.lookup x=some .local:=by first | exact .inl rfl | exact .inr rfl | assumption):PG X (.Name x pos) (cC i):=by
 intro pins s σ H v u Q I r h
 exact wpAny_assign_Name (ic I hN hi hx r (λ s' I'=>⟨_,H,I',h⟩) hf)
def rO:TGs:=λ vs σ H Q=>vs = []/\Q σ H
def fe (t:TG) (u:TGs):TGs:=λ vs σ H Q=>∃ v r,vs=v::r/\t v σ H λ σ' H'=>u r σ' H' Q
theorem b5:PGs X [] rO:=by
 intro pins s σ H vs us Q I r h
 obtain⟨e,h⟩:=h
 subst e
 cases r
 exact assignInOrder_nil ⟨σ,H,I,h⟩
theorem aR {e:Expr}{es:List Expr}{t:TG}{u:TGs} (h1:PG X e t) (h2:PGs X es u)
  (hs:(assignEach (e::es) X.env).map (·.2)=assign e X.env::(assignEach es X.env).map (·.2):=by rfl):PGs X (e::es) (fe t u):=by
 intro pins s σ H vs us Q I r h
 obtain⟨v,vr,e1,h⟩:=h
 subst e1
 cases r with
 | cons r rr =>
  rw[hs]
  refine assignInOrder_cons (thn (h1 pins s σ H _ _ _ I r h) λ _ s1 ⟨σ1,H1,I1,q1⟩=>?_)
  exact h2 pins s1 σ1 H1 _ _ Q I1 rr q1
def pO (K:PySem.W.Frag) (n:Nat) (t:TGs):TG:=λ v σ H Q=>∃ a xs,v=.ref a/\SqT K H a xs/\xs.length=n/\t xs σ H Q
theorem kA {es:List Expr}{k:Nat}{t:TGs}{n:Nat} (hc:X.calm=true) (h:PGs X es t)
  (hn:(assignEach es X.env).length=n:=by rfl) (hst:(assignEach es X.env).findIdx? (·.1)=none:=by rfl):PG X (.Tuple es k pos) (pO X.K n t):=by
 intro pins s σ H v u Q I r hw
 obtain⟨a,xs,e1,hq,hl,hw⟩:=hw
 subst e1
 cases r
 obtain⟨its,rv,ht,hz⟩:=I.tuple hq
 refine assign_Tuple_tuple (I.ok.hd hc) ht (by simp [hn,<-hl,rv.length]) hst λ h' hx=>?_
 have I1:Inv X pins σ H {s with heap:=h'}:=I.kept (t':=s.toks) λ b o e=>hx b o (Nat.ne_of_lt (Heap.lt_size e)) e
 exact h pins _ σ H xs _ Q I1 (by simpa using rv) hw
def DU (te:TE) (g:TG):TS:=λ D σ H=>te σ H λ x H1=>g x σ H1 D.nx
theorem ky {tg e:Expr}{te:TE}{g:TG} (he:PE X e te) (hg:PG X tg g) (hs:swapsWithSole [tg] e pos.line X.env=pure false:=by rfl) (hw:swappedStores [tg] e X.env=pure none:=by rfl)
  (h1:(assignEach [tg] X.env).map (·.2) = [assign tg X.env]:=by rfl):PS X (.Assign [tg] e pos) (DU te g):=by
 intro pins s σ H D I h
 refine wpAny_Assign_stores (thn (he pins s σ H _ I h) λ v s1 ⟨x,H1,I1,r1,q1⟩=>?_) hs hw
 rw[h1]
 exact thn (hg pins s1 σ H1 x v _ I1 r1 q1) λ _ s2 q=>q
theorem aD {i:Nat}{x:Str}{e:Expr}{te:TE}{pos':Pos} (hN:X.N.Nodup) (hi:X.N[i]? = some x) (hx:Loc X.env.scope x) (he:PE X e te) (hs:swapsWith e (some (.Name x pos')) pos.line X.env=pure false:=by rfl) (hf:X.fn x=true∨X.env.scope.names.lookup x=some .local:=by first | exact .inl rfl | exact .inr rfl | assumption) :
  PS X (.Assign [.Name x pos'] e pos) (DU te (cC i)):=by
 intro pins s σ H D I h
 refine wpAny_Assign_Name (thn (he pins s σ H _ I h) λ v s1 ⟨y,H1,I1,r1,q1⟩=>?_) hs
 exact ic I1 hN hi hx r1 (λ s2 I2=>⟨_,H1,I2,q1⟩) hf
end
section
variable {X:Cx}{pos:Pos}
def wn (c:TT) (tb:TS):TS:=λ D σ H=>∃ W:Nat->St->Hp->Prop,(∃ m,W m σ H)/\∀ m σ H,W m σ H ->
 c σ H λ b H1=>if b=true then ∃ N:St->Hp->Prop,(∀ σ' H',N σ' H'->∃ m',m'<m/\W m' σ' H')/\tb {D with nx:=N,ct:=N,bk:=D.nx} σ H1 else D.nx σ H1
theorem im {c:Expr}{body:List Stmt}{tc:TT}{tb:TS} (hp:PassesOwn (model X.prog X.w) X.A X.env X.xe) (hc:PT X c tc) (hb:PSs X body tb):PS X (.While c body [] pos) (wn tc tb):=by
 intro pins s σ H D I h
 obtain⟨W,⟨m0,w0⟩,turn⟩:=h
 refine wpAny_While (codeAny_whileLoop (λ n s'=>∃ σ' H',Inv X pins σ' H' s'/\W n σ' H') ?_ m0 ⟨σ,H,I,w0⟩)
 rintro n s1 ⟨σ1,H1,I1,w1⟩
 refine wpAny_passesOwn hp (thn (hc pins s1 σ1 H1 _ I1 (turn n σ1 H1 w1)) λ b s2 ⟨H2,I2,q2⟩=>?_)
 cases b with
 | true =>
  obtain⟨N,hN,q2⟩:=q2
  rw[if_pos rfl]
  refine wpAny_passesOwn hp (thn (hb pins s2 σ1 H2 _ I2 q2) λ f s3 q3=>?_)
  cases f with
  | next =>
   obtain⟨σ3,H3,I3,n3⟩:=q3
   obtain⟨m',hm,w3⟩:=hN σ3 H3 n3
   exact⟨m',hm,σ3,H3,I3,w3⟩
  | cont =>
   obtain⟨σ3,H3,I3,n3⟩:=q3
   obtain⟨m',hm,w3⟩:=hN σ3 H3 n3
   exact⟨m',hm,σ3,H3,I3,w3⟩
  | brk=>exact q3
  | ret v=>exact q3
 | false =>
  rw[if_neg Bool.false_ne_true]
  exact wpAny_execs_nil ⟨σ1,H2,I2,q2⟩
end
structure It where
 go:Nat->Hp->Prop
 yld:Nat->Hp->V->Hp->Prop
 stop:Nat->Hp->Prop
def fN (X:Cx) (pins:List (Addr×Obj)) (H:Hp) (b:Addr):Prop :=
 H b=none/\b≠X.env.locals/\b ∉ X.fs/\(b∈X.ex∨X.s₀.heap.objs.size<=b)/\(∀ x c,X.env.cells.lookup x=some c->c≠b)/\∀ p∈X.pn++pins,p.1≠b
theorem Inv.fpOk {X:Cx}{pins:List (Addr×Obj)}{σ:St}{H H':Hp}{s:Shared}{b:Addr} (I:Inv X pins σ H s) (hb:s.heap.objs.size<=b) (hn:H' b=none):fN X pins H' b:=by
 refine⟨hn,Nat.ne_of_gt (Nat.lt_of_lt_of_le I.lt hb),I.nofs hb,.inr (Nat.le_trans I.sz hb),λ x c e z=>?_,λ p hp z=>?_⟩
 ·obtain⟨v,q⟩:=I.cell x c e
  exact absurd (Nat.lt_of_lt_of_le q.lt (by rw[z];exact hb)) (Nat.lt_irrefl _)
 ·exact absurd (Nat.lt_of_lt_of_le (Heap.lt_size (I.pin p hp).1) (by rw[z];exact hb)) (Nat.lt_irrefl _)
structure qg (P:Program) (w:World) (K:PySem.W.Frag) (tg:Expr) (J:It) (fp:List Addr) (it:Addr) (tn:Nat->Heap->Prop):Prop where
 mem:it∈fp
 obj:∀ i h,tn i h->∀ b∈fp,∃ o,h.get? b=some o/\∀ v,o.data≠.cell v
 keep:∀ i h h',tn i h->(∀ b∈fp,∀ o,h.get? b=some o->h'.get? b=some o)->tn i h'
 item:∀ (X:Cx),X.prog=P->X.w=w->X.K=K->X.calm=true->∀ (i:Nat) (pins:List (Addr×Obj)) (s:Shared) (σ:St) (H:Hp) (E:Value->Shared->Prop),Inv X pins σ H s->(∀ b∈fp,fN X pins H b)->tn i s.heap->J.go i H ->
  wpAny (model P w) X.A (pyNext (.ref it)) (λ r s1=>∃ u,r=some u /\
   wpAny (model P w) X.A (letOwnedTupleGo tg (.ref it) u) (λ _ s2=>∃ x H',Inv X pins σ H' s2/\bw x u/\J.yld i H x H'/\tn (i+1) s2.heap/\∀ b∈fp,H' b=none) E s1) E s
 done:∀ (X:Cx),X.prog=P->X.w=w->X.K=K->X.calm=true->∀ (i:Nat) (pins:List (Addr×Obj)) (s:Shared) (σ:St) (H:Hp) (E:Value->Shared->Prop),Inv X pins σ H s->(∀ b∈fp,fN X pins H b)->tn i s.heap->J.stop i H ->
  wpAny (model P w) X.A (pyNext (.ref it)) (λ r s1=>r=none/\Inv X pins σ H s1) E s
 self:∀ (A:Around) (i:Nat) (s:Shared) (Q:Value->Shared->Prop) (E:Value->Shared->Prop),tn i s.heap->Q (.ref it) s->wpAny (model P w) A (pyIter (.ref it)) Q E s
abbrev TI:=St->Hp->(It->Hp->Prop)->Prop
def PIE (X:Cx) (pins:List (Addr×Obj)) (σ:St) (tg:Expr) (R:It->Hp->Prop) (itv:Value) (s2:Shared):Prop :=
 ∃ (it:Addr) (fp:List Addr) (tn:Nat->Heap->Prop) (J:It) (H':Hp),itv=.ref it/\Inv X pins σ H' s2/\qg X.prog X.w X.K tg J fp it tn/\tn 0 s2.heap/\(∀ b∈fp,fN X pins H' b)/\R J H'
def PI (X:Cx) (tg iter:Expr) (wi:TI):Prop :=
 ∀ (pins:List (Addr×Obj)) (s:Shared) (σ:St) (H:Hp) (R:It->Hp->Prop),Inv X pins σ H s->wi σ H R ->
  wpAny (model X.prog X.w) X.A (eval iter X.env) (λ v s1=>wpAny (model X.prog X.w) X.A (pyIter v) (PIE X pins σ tg R) X.xe s1) X.xe s
theorem pM {M:Model}{A:Around}{E:Value->Shared->Prop}{s:Shared}{tg:Expr}{it:Addr}{u:Value}{o:Obj}{n:String}{vs:Array Value}{Q:Unit->Shared->Prop} (ho:s.heap.get? it=some o) (hc:o.cls=.type n) (hd:o.data=.fields vs)
  (hn:["enumerate","zip","dict_itemiterator","dict_reverseitemiterator","odict_iterator","itertools.zip_longest","itertools.pairwise"].contains n=false) (hQ:Q () s):wpAny M A (letOwnedTupleGo tg (.ref it) u) Q E s:=by
 unfold letOwnedTupleGo
 cases tg<;>first
  | exact wpAny_pure hQ
  | (cases u<;>first
    | exact wpAny_pure hQ
    | (refine wpAny_bind (wpAny_load ho ?_)
       rw [hc, hd]
       show wpAny M A (if (["enumerate", "zip", "dict_itemiterator", "dict_reverseitemiterator", "odict_iterator", "itertools.zip_longest", "itertools.pairwise"].contains n && vs[0]? == some (rawInt _)) = true then _ else _) Q E s
       rw [if_neg (by intro h; rw [hn, Bool.false_and] at h; cases h)]
       exact wpAny_pure hQ))
def Itl (K:PySem.W.Frag) (a:Addr):It :=
 ⟨λ i H=>∃ xs x,SqL K H a xs/\xs[i]? = some x,λ i H x H'=>H'=H/\∀ xs,SqL K H a xs->xs[i]? = some x,λ i H=>∃ xs,SqL K H a xs/\xs.length<=i⟩
def Itt (K:PySem.W.Frag) (a:Addr):It :=
 ⟨λ i H=>∃ xs x,SqT K H a xs/\xs[i]? = some x,λ i H x H'=>H'=H/\∀ xs,SqT K H a xs->xs[i]? = some x,λ i H=>∃ xs,SqT K H a xs/\xs.length<=i⟩
def Itr (lo:Int) (n:Nat):It:=⟨λ i _=>i<n,λ i H x H'=>H'=H/\x=.int (lo+i),λ i _=>n<=i⟩
theorem l5 {P:Program}{w:World}{K:PySem.W.Frag}{tg:Expr} (a it:Addr):qg P w K tg (Itl K a) [it] it (λ i h=>h.IsListIter it a i) where
 mem:=by simp
 obj:=λ i h st b hb=>by
  have e:b=it:=by simpa using hb
  subst e
  obtain⟨o,e,c,d⟩:=st
  exact⟨o,e,λ v z=>by rw[d] at z;cases z⟩
 keep:=λ i h h' st k=>st.at λ o e=>k it (by simp) o e
 item:=by
  intro X hP hw hK hc i pins s σ H E I hf st hg
  subst hP hw hK
  obtain⟨xs,x,hq,hx⟩:=hg
  obtain⟨its,rv,p,hz⟩:=I.list hq
  obtain⟨u,hu,ru⟩:=rv.get hx
  obtain⟨f0,f1,f2,f3,f4,f5⟩:=hf it (by simp)
  refine wpAny_pyNext_list_item st p.isList (x:=u) (by simpa using hu) λ h' st' sb=>?_
  have I1:Inv X pins σ H {s with heap:=h'}:=I.turned (t':=s.toks) (λ b o hb e=>(sb.2 b hb).trans e) f0 f1 f3 f4 f5
  obtain⟨o,e,c,d⟩:=id st'
  exact⟨u,rfl,pM (s:={s with heap:=h'}) e c d (by decide) ⟨x,H,I1,ru,⟨rfl,λ ys hy=>by rw[I.list_inj hy hq];exact hx⟩,st',λ b hb=>(hf b hb).1⟩⟩
 done:=by
  intro X hP hw hK hc i pins s σ H E I hf st hg
  subst hP hw hK
  obtain⟨xs,hq,hx⟩:=hg
  obtain⟨its,rv,p,hz⟩:=I.list hq
  obtain⟨f0,f1,f2,f3,f4,f5⟩:=hf it (by simp)
  have hl:=rv.length
  exact wpAny_pyNext_list_end (I.ok.hd hc) st p.isList (by simp;omega) λ h' eb=>⟨rfl,I.turned (t':=s.toks) (λ b o hb e=>eb b o hb e) f0 f1 f3 f4 f5⟩
 self:=λ _ _ _ _ _ st h=>wpAny_pyIter_listiter st h
theorem jZ {P:Program}{w:World}{K:PySem.W.Frag}{tg:Expr} (a it:Addr):qg P w K tg (Itt K a) [it] it (λ i h=>h.IsTupleIter it a i) where
 mem:=by simp
 obj:=λ i h st b hb=>by
  have e:b=it:=by simpa using hb
  subst e
  obtain⟨o,e,c,d⟩:=st
  exact⟨o,e,λ v z=>by rw[d] at z;cases z⟩
 keep:=λ i h h' st k=>st.at λ o e=>k it (by simp) o e
 item:=by
  intro X hP hw hK hc i pins s σ H E I hf st hg
  subst hP hw hK
  obtain⟨xs,x,hq,hx⟩:=hg
  obtain⟨its,rv,p,hz⟩:=I.tuple hq
  obtain⟨u,hu,ru⟩:=rv.get hx
  obtain⟨f0,f1,f2,f3,f4,f5⟩:=hf it (by simp)
  refine wpAny_pyNext_tuple_item st (show s.heap.IsTuple a its.toArray from p) (x:=u) (by simpa using hu) λ h' st' sb=>?_
  have I1:Inv X pins σ H {s with heap:=h'}:=I.turned (t':=s.toks) (λ b o hb e=>(sb.2 b hb).trans e) f0 f1 f3 f4 f5
  obtain⟨o,e,c,d⟩:=id st'
  exact⟨u,rfl,pM (s:={s with heap:=h'}) e c d (by decide) ⟨x,H,I1,ru,⟨rfl,λ ys hy=>by rw[I.tuple_inj hy hq];exact hx⟩,st',λ b hb=>(hf b hb).1⟩⟩
 done:=by
  intro X hP hw hK hc i pins s σ H E I hf st hg
  subst hP hw hK
  obtain⟨xs,hq,hx⟩:=hg
  obtain⟨its,rv,p,hz⟩:=I.tuple hq
  obtain⟨f0,f1,f2,f3,f4,f5⟩:=hf it (by simp)
  have hl:=rv.length
  exact wpAny_pyNext_tuple_end (I.ok.hd hc) st (show s.heap.IsTuple a its.toArray from p) (by simp;omega) λ h' eb=>⟨rfl,I.turned (t':=s.toks) (λ b o hb e=>eb b o hb e) f0 f1 f3 f4 f5⟩
 self:=λ _ _ _ _ _ st h=>wpAny_pyIter_tupleiter st h
theorem qm {P:Program}{w:World}{K:PySem.W.Frag}{tg:Expr} (it:Addr) (lo:Int) (n:Nat):qg P w K tg (Itr lo n) [it] it (λ i h=>IsRangeIter h it (lo+(i:Nat)*1) ((n:Int)-(i:Nat)) 1) where
 mem:=by simp
 obj:=λ i h st b hb=>by
  have e:b=it:=by simpa using hb
  subst e
  exact⟨_,st,λ v z=>by
   have z':Data.fields _=Data.cell v:=z
   cases z'⟩
 keep:=λ i h h' st k=>k it (by simp) _ st
 item:=by
  intro X hP hw hK hc i pins s σ H E I hf st hg
  subst hP hw hK
  obtain⟨f0,f1,f2,f3,f4,f5⟩:=hf it (by simp)
  have W:=Walks.range (prog:=X.prog) (w:=X.w) (I.ok.hd hc) it lo 1 n
  refine W.item i s _ _ hg st λ v h' tk hv st' kk=>?_
  obtain⟨t,rfl⟩:=hv
  have I1:Inv X pins σ H {s with heap:=h',toks:=tk}:=I.turned (λ b o hb e=>kk b o (by simpa using hb) e) f0 f1 f3 f4 f5
  refine⟨_,rfl,pM (s:={s with heap:=h',toks:=tk}) (n:="range_iterator") st' rfl rfl (by decide) ⟨.int (lo+i),H,I1,⟨t,?_⟩,⟨rfl,rfl⟩,st',λ b hb=>(hf b hb).1⟩⟩
  rw[Int.mul_one]
 done:=by
  intro X hP hw hK hc i pins s σ H E I hf st hg
  subst hP hw hK
  obtain⟨f0,f1,f2,f3,f4,f5⟩:=hf it (by simp)
  exact wpAny_pyNext_range_end (I.ok.hd hc) st (by have:n<=i:=hg;omega) λ h' eb=>⟨rfl,I.turned (t':=s.toks) (λ b o hb e=>eb b o hb e) f0 f1 f3 f4 f5⟩
 self:=λ _ _ _ _ _ st h=>wpAny_pyIter_rangeiter st h
section
variable {X:Cx}{tg:Expr}
def GH (K:PySem.W.Frag) (tl:TE):TI:=λ σ H R=>tl σ H λ x H1=>∃ a,x=.ref a/\(∃ xs,SqL K H1 a xs)/\R (Itl K a) H1
def Hx (K:PySem.W.Frag) (tl:TE):TI:=λ σ H R=>tl σ H λ x H1=>∃ a,x=.ref a/\(∃ xs,SqT K H1 a xs)/\R (Itt K a) H1
theorem fA {l:Expr}{tl:TE} (hl:PE X l tl):PI X tg l (GH X.K tl):=by
 intro pins s σ H R I h
 refine thn (hl pins s σ H _ I h) λ v s1 ⟨x,H1,I1,r1,q1⟩=>?_
 obtain⟨a,e,⟨xs,hq⟩,q⟩:=q1
 subst e
 cases r1
 obtain⟨its,rv,p,hz⟩:=I1.list hq
 refine wpAny_pyIter_list p.isList ?_
 refine⟨s1.heap.objs.size,[s1.heap.objs.size],_,_,H1,rfl,I1.kept (t':=s1.toks) λ b o e=>Heap.get?_push_of_some _ e,l5 a _,⟨_,Heap.get?_push_size _ rfl,rfl,rfl⟩,λ b hb=>?_,q⟩
 have e:b=s1.heap.objs.size:=by simpa using hb
 subst e
 exact I1.fpOk (Nat.le_refl _) (I1.hok.fresh (Nat.le_refl _))
theorem iW {l:Expr}{tl:TE} (hl:PE X l tl):PI X tg l (Hx X.K tl):=by
 intro pins s σ H R I h
 refine thn (hl pins s σ H _ I h) λ v s1 ⟨x,H1,I1,r1,q1⟩=>?_
 obtain⟨a,e,⟨xs,hq⟩,q⟩:=q1
 subst e
 cases r1
 obtain⟨its,rv,p,hz⟩:=I1.tuple hq
 refine wpAny_pyIter_tuple (show s1.heap.IsTuple a its.toArray from p) ?_
 refine⟨s1.heap.objs.size,[s1.heap.objs.size],_,_,H1,rfl,I1.kept (t':=s1.toks) λ b o e=>Heap.get?_push_of_some _ e,jZ a _,⟨_,Heap.get?_push_size _ rfl,rfl,rfl⟩,λ b hb=>?_,q⟩
 have e:b=s1.heap.objs.size:=by simpa using hb
 subst e
 exact I1.fpOk (Nat.le_refl _) (I1.hok.fresh (Nat.le_refl _))
theorem pd {pins:List (Addr×Obj)}{σ:St}{H:Hp}{s:Shared}{R:It->Hp->Prop}{E:Value->Shared->Prop}{lo hi:Int}{t u v:Tok}{tk:Nat} (I:Inv X pins σ H s) (h1:-(2^62)<=lo) (h2:lo<2^62) (h3:-(2^62)<=hi) (h4:hi<2^62)
  (q:R (Itr lo (hi-lo).toNat) H):wpAny (model X.prog X.w) X.A (pyIter (.ref s.heap.objs.size)) (PIE X pins σ tg R) E {s with heap:=s.heap.push {cls:=.type "range",data:=.fields #[.int lo t,.int hi u,.int 1 v]},toks:=tk}:=by
 refine wpAny_pyIter_range (IsRange.new ..) (small_one h1 h2 h3 h4) ?_
 have I1:Inv X pins σ H {s with heap:=s.heap.push {cls:=.type "range",data:=.fields #[.int lo t,.int hi u,.int 1 v]},toks:=tk}:=I.kept λ b o e=>Heap.get?_push_of_some _ e
 refine⟨(s.heap.push {cls:=.type "range",data:=.fields #[.int lo t,.int hi u,.int 1 v]}).objs.size,[(s.heap.push {cls:=.type "range",data:=.fields #[.int lo t,.int hi u,.int 1 v]}).objs.size],_,_,H,rfl,
  I1.kept (t':=tk) λ b o e=>Heap.get?_push_of_some _ e,qm _ lo (hi-lo).toNat,?_,λ b hb=>?_,q⟩
 ·have e1:lo+((0:Nat):Int)*1=lo:=by simp
  have e2:(((hi-lo).toNat:Nat):Int)-((0:Nat):Int)=Builtin.Range.rangeSize lo hi 1:=by rw[rangeSize_one];split<;>omega
  show IsRangeIter _ _ (lo+((0:Nat):Int)*1) ((((hi-lo).toNat:Nat):Int)-((0:Nat):Int)) 1
  rw[e1,e2]
  exact Heap.get?_push_size _ rfl
 ·have e:b=(s.heap.push {cls:=.type "range",data:=.fields #[.int lo t,.int hi u,.int 1 v]}).objs.size:=by simpa using hb
  subst e
  exact I1.fpOk (Nat.le_refl _) (I1.hok.fresh (Nat.le_refl _))
def GG (ta:TA):TI:=λ σ H R=>ta σ H λ vs H1=>∃ j:Int,vs = [.int j]/\-(2^62)<=j/\j<2^62/\R (Itr 0 j.toNat) H1
def GF (ta:TA):TI:=λ σ H R=>ta σ H λ vs H1=>∃ i j:Int,vs = [.int i,.int j]/\(-(2^62)<=i/\i<2^62/\-(2^62)<=j/\j<2^62)/\R (Itr i (j-i).toNat) H1
theorem cZ {a:Expr}{ta:TA}{p pos:Pos} (hg:Gl X "range") (hm:X.mg "range" = none) (ha:PA X [a] ta) (hs:starEach [a] X.env = [(false,eval a X.env)]:=by rfl):PI X tg (.Call (.Name "range" p) [a] [] pos) (GG ta):=by
 intro pins s σ H R I h
 refine Call_ (fU I hg hm boot_range (PyProof.Rows.callWith_type1 (thn (ha pos pins s σ H _ I h) λ us s1 ⟨vs,H1,I1,r1,q1⟩=>?_) hs rfl))
 obtain⟨j,e,q1,q2,q⟩:=q1
 subst e
 cases r1 with
 | cons r rr =>
  cases rr
  obtain⟨t,rfl⟩:=r
  exact call_range_1 (pd I1 (by omega) (by omega) q1 q2 (by simpa using q))
theorem uU {a b:Expr}{ta:TA}{p pos:Pos} (hg:Gl X "range") (hm:X.mg "range" = none) (ha:PA X [a,b] ta) (hs:starEach [a,b] X.env = [(false,eval a X.env),(false,eval b X.env)]:=by rfl) (hs2:starEach [b] X.env = [(false,eval b X.env)]:=by rfl) :
  PI X tg (.Call (.Name "range" p) [a,b] [] pos) (GF ta):=by
 intro pins s σ H R I h
 refine Call_ (fU I hg hm boot_range (PyProof.Rows.callWith_type1 (thn (ha pos pins s σ H _ I h) λ us s1 ⟨vs,H1,I1,r1,q1⟩=>?_) (by rw[hs,hs2]) (by rw[hs2];rfl)))
 obtain⟨i,j,e,⟨q1,q2,q3,q4⟩,q⟩:=q1
 subst e
 cases r1 with
 | cons r rr =>
  cases rr with
  | cons r' rr =>
   cases rr
   obtain⟨t,rfl⟩:=r
   obtain⟨t',rfl⟩:=r'
   exact call_range_2 (pd I1 q1 q2 q3 q4 q)
def Hd (wi:TI) (g:TG) (tb:TS):TS:=λ D σ H=>wi σ H λ J H1=>∃ W:Nat->Nat->St->Hp->Prop,(∃ m,W 0 m σ H1)/\∀ i m σ H,W i m σ H ->
 (J.stop i H/\D.nx σ H)∨(J.go i H/\∃ N:St->Hp->Prop,(∀ σ' H',N σ' H'->∃ m',m'<m/\W (i+1) m' σ' H')/\∀ x H',J.yld i H x H'->g x σ H' λ σ2 H2=>tb {D with nx:=N,ct:=N,bk:=D.nx} σ2 H2)
def nG (fp:List Addr) (h:Heap):List (Addr×Obj):=fp.filterMap λ b=>(h.get? b).map λ o=>(b,o)
theorem bQ {fp:List Addr}{h:Heap}{b:Addr}{o:Obj} (hb:b∈fp) (e:h.get? b=some o):(b,o)∈nG fp h:=List.mem_filterMap.mpr ⟨b,hb,by rw[e];rfl⟩
theorem u8 {fp:List Addr}{h:Heap}{p:Addr×Obj} (hp:p∈nG fp h):p.1∈fp/\h.get? p.1=some p.2:=by
 obtain⟨b,hb,e⟩:=List.mem_filterMap.mp hp
 cases q:h.get? b with
 | none=>rw[q] at e;cases e
 | some o =>
  rw[q] at e
  have e':(b,o)=p:=Option.some.inj e
  subst e'
  exact⟨hb,q⟩
theorem Inv.pinned {pins:List (Addr×Obj)}{σ:St}{H:Hp}{s:Shared}{fp:List Addr} (I:Inv X pins σ H s) (hf:∀ b∈fp,fN X pins H b) (ho:∀ b∈fp,∃ o,s.heap.get? b=some o/\∀ v,o.data≠.cell v):Inv X (pins++nG fp s.heap) σ H s :=
 I.pins_of λ p hp=>(List.mem_append.mp hp).elim (λ z=>I.pin p (List.mem_append_right _ z)) λ z=>by
  obtain⟨hb,e⟩:=u8 z
  obtain⟨f0,f1,f2,_⟩:=hf p.1 hb
  obtain⟨o,e',d⟩:=ho p.1 hb
  rw[e] at e';cases e'
  exact⟨e,f0,f1,f2,d⟩
theorem Inv.unpinned {pins pl:List (Addr×Obj)}{σ:St}{H:Hp}{s:Shared} (I:Inv X (pins++pl) σ H s):Inv X pins σ H s:=I.pins_of λ p hp=>I.pin p (List.mem_append_right _ (List.mem_append_left _ hp))
theorem eR {iter:Expr}{body:List Stmt}{wi:TI}{g:TG}{tb:TS}{pos:Pos} (hp:PassesOwn (model X.prog X.w) X.A X.env X.xe) (hc:X.calm=true) (hi:PI X tg iter wi) (hg:PG X tg g) (hb:PSs X body tb)
  (hs:∀ x,foldedSetIterable iter X.env x=pure x:=by intro _;rfl):PS X (.For tg iter body [] pos) (Hd wi g tb):=by
 intro pins s σ H D I h
 refine wpAny_For (thn (hi pins s σ H _ I h) λ v s1 h1=>thn h1 λ itv s2 h2=>?_) hs
 obtain⟨it,fp,tn,J,H2,e,I2,T,st2,f2,W,⟨m0,w0⟩,turn⟩:=h2
 subst e
 have stat:∀ {H':Hp},(∀ b∈fp,H' b=none)->∀ b∈fp,fN X pins H' b:=λ hn b hb=>⟨hn b hb,(f2 b hb).2⟩
 refine codeAny_forLoop_any (λ n s'=>∃ i σ' H',Inv X pins σ' H' s'/\tn i s'.heap/\(∀ b∈fp,H' b=none)/\W i n σ' H') ?_ m0 ⟨0,σ,H2,I2,st2,λ b hb=>(f2 b hb).1,w0⟩
 rintro n s3 ⟨i,σ3,H3,I3,st3,fr3,w3⟩
 rcases turn i n σ3 H3 w3 with ⟨stop,qn⟩ | ⟨go,N,hN,step⟩
 ·refine wpAny_passesOwn hp (thn (T.done X rfl rfl rfl hc i pins s3 σ3 H3 X.xe I3 (stat fr3) st3 stop) λ r s4 ⟨hr,I4⟩=>?_)
  subst hr
  exact wpAny_execs_nil ⟨σ3,H3,I4,qn⟩
 ·refine wpAny_passesOwn hp (thn (T.item X rfl rfl rfl hc i pins s3 σ3 H3 X.xe I3 (stat fr3) st3 go) λ r s4 ⟨u,hr,h4⟩=>?_)
  subst hr
  refine wpAny_passesOwn hp (thn h4 λ _ s5 ⟨x,H5,I5,r5,y5,st5,fr5⟩=>?_)
  have I5':=I5.pinned (stat fr5) (T.obj _ _ st5)
  refine wpAny_passesOwn hp (thn (hg _ s5 σ3 H5 x u _ I5' r5 (step x H5 y5)) λ _ s6 ⟨σ6,H6,I6,q6⟩=>?_)
  refine wpAny_passesOwn hp (thn (hb _ s6 σ6 H6 _ I6 q6) λ f s7 q7=>?_)
  have again:∀ {σ7:St}{H7:Hp},Inv X (pins++nG fp s5.heap) σ7 H7 s7->N σ7 H7->∃ m,m<n/\∃ i σ' H',Inv X pins σ' H' s7/\tn i s7.heap/\(∀ b∈fp,H' b=none)/\W i m σ' H':=λ {σ7 H7} I7 n7=>by
   obtain⟨m',hm,w7⟩:=hN σ7 H7 n7
   refine⟨m',hm,i+1,σ7,H7,I7.unpinned,T.keep _ _ _ st5 λ b hb o e=>(I7.pin (b,o) (List.mem_append_right _ (List.mem_append_right _ (bQ hb e)))).1,λ b hb=>?_,w7⟩
   obtain⟨o,e,d⟩:=T.obj _ _ st5 b hb
   exact (I7.pin (b,o) (List.mem_append_right _ (List.mem_append_right _ (bQ hb e)))).2.1
  cases f with
  | next=>obtain⟨σ7,H7,I7,n7⟩:=q7;exact again I7 n7
  | cont=>obtain⟨σ7,H7,I7,n7⟩:=q7;exact again I7 n7
  | brk=>obtain⟨σ7,H7,I7,q7⟩:=q7;exact⟨σ7,H7,I7.unpinned,q7⟩
  | ret v=>obtain⟨x7,σ7,H7,I7,r7,q7⟩:=q7;exact⟨x7,σ7,H7,I7.unpinned,r7,q7⟩
end
theorem kU {K:PySem.W.Frag}{a:Addr}{xs:List V}{g:TG}{tb:TS}{D:hW}{σ:St}{H:Hp} (Pv:Nat->St->Hp->Prop) (h0:Pv 0 σ H) (hl:∀ i σ H,i<=xs.length->Pv i σ H->SqL K H a xs)
  (hs:∀ i x σ H,xs[i]? = some x->Pv i σ H->g x σ H λ σ2 H2=>tb {D with nx:=Pv (i+1),ct:=Pv (i+1),bk:=D.nx} σ2 H2) (hd:∀ σ H,Pv xs.length σ H->D.nx σ H) :
  ∃ W:Nat->Nat->St->Hp->Prop,(∃ m,W 0 m σ H)/\∀ i m σ H,W i m σ H ->
   ((Itl K a).stop i H/\D.nx σ H)∨((Itl K a).go i H/\∃ N:St->Hp->Prop,(∀ σ' H',N σ' H'->∃ m',m'<m/\W (i+1) m' σ' H')/\∀ x H',(Itl K a).yld i H x H'->g x σ H' λ σ2 H2=>tb {D with nx:=N,ct:=N,bk:=D.nx} σ2 H2):=by
 refine⟨λ i m σ H=>m=xs.length-i/\i<=xs.length/\Pv i σ H,⟨xs.length,by simp,Nat.zero_le _,h0⟩,?_⟩
 rintro i m σ H ⟨rfl,hi,p⟩
 have q:=hl i σ H hi p
 by_cases hlt:i<xs.length
 ·refine .inr ⟨⟨xs,xs[i],q,by simp [hlt]⟩,Pv (i+1),λ σ' H' p'=>⟨xs.length-(i+1),by omega,rfl,hlt,p'⟩,λ x H' y=>?_⟩
  obtain⟨e,y⟩:=y
  subst e
  exact hs i x σ _ (y xs q) p
 ·have e:i=xs.length:=by omega
  subst e
  exact .inl ⟨⟨xs,q,Nat.le_refl _⟩,hd σ H p⟩
theorem ul {K:PySem.W.Frag}{a:Addr}{xs:List V}{g:TG}{tb:TS}{D:hW}{σ:St}{H:Hp} (Pv:Nat->St->Hp->Prop) (h0:Pv 0 σ H) (hl:∀ i σ H,i<=xs.length->Pv i σ H->SqT K H a xs)
  (hs:∀ i x σ H,xs[i]? = some x->Pv i σ H->g x σ H λ σ2 H2=>tb {D with nx:=Pv (i+1),ct:=Pv (i+1),bk:=D.nx} σ2 H2) (hd:∀ σ H,Pv xs.length σ H->D.nx σ H) :
  ∃ W:Nat->Nat->St->Hp->Prop,(∃ m,W 0 m σ H)/\∀ i m σ H,W i m σ H ->
   ((Itt K a).stop i H/\D.nx σ H)∨((Itt K a).go i H/\∃ N:St->Hp->Prop,(∀ σ' H',N σ' H'->∃ m',m'<m/\W (i+1) m' σ' H')/\∀ x H',(Itt K a).yld i H x H'->g x σ H' λ σ2 H2=>tb {D with nx:=N,ct:=N,bk:=D.nx} σ2 H2):=by
 refine⟨λ i m σ H=>m=xs.length-i/\i<=xs.length/\Pv i σ H,⟨xs.length,by simp,Nat.zero_le _,h0⟩,?_⟩
 rintro i m σ H ⟨rfl,hi,p⟩
 have q:=hl i σ H hi p
 by_cases hlt:i<xs.length
 ·refine .inr ⟨⟨xs,xs[i],q,by simp [hlt]⟩,Pv (i+1),λ σ' H' p'=>⟨xs.length-(i+1),by omega,rfl,hlt,p'⟩,λ x H' y=>?_⟩
  obtain⟨e,y⟩:=y
  subst e
  exact hs i x σ _ (y xs q) p
 ·have e:i=xs.length:=by omega
  subst e
  exact .inl ⟨⟨xs,q,Nat.le_refl _⟩,hd σ H p⟩
theorem i3 {lo:Int}{n:Nat}{g:TG}{tb:TS}{D:hW}{σ:St}{H:Hp} (Pv:Nat->St->Hp->Prop) (h0:Pv 0 σ H)
  (hs:∀ i σ H,i<n->Pv i σ H->g (.int (lo+i)) σ H λ σ2 H2=>tb {D with nx:=Pv (i+1),ct:=Pv (i+1),bk:=D.nx} σ2 H2) (hd:∀ σ H,Pv n σ H->D.nx σ H) :
  ∃ W:Nat->Nat->St->Hp->Prop,(∃ m,W 0 m σ H)/\∀ i m σ H,W i m σ H ->
   ((Itr lo n).stop i H/\D.nx σ H)∨((Itr lo n).go i H/\∃ N:St->Hp->Prop,(∀ σ' H',N σ' H'->∃ m',m'<m/\W (i+1) m' σ' H')/\∀ x H',(Itr lo n).yld i H x H'->g x σ H' λ σ2 H2=>tb {D with nx:=N,ct:=N,bk:=D.nx} σ2 H2):=by
 refine⟨λ i m σ H=>m=n-i/\i<=n/\Pv i σ H,⟨n,by simp,Nat.zero_le _,h0⟩,?_⟩
 rintro i m σ H ⟨rfl,hi,p⟩
 by_cases hlt:i<n
 ·refine .inr ⟨hlt,Pv (i+1),λ σ' H' p'=>⟨n-(i+1),by omega,rfl,hlt,p'⟩,λ x H' y=>?_⟩
  obtain⟨e,y⟩:=y
  subst e y
  exact hs i σ _ hlt p
 ·have e:i=n:=by omega
  subst e
  exact .inl ⟨Nat.le_refl _,hd σ H p⟩
theorem hZ {c:TT}{tb:TS}{D:hW}{σ:St}{H:Hp} (Pv:St->Hp->Prop) (μ:St->Hp->Nat) (h0:Pv σ H)
  (hs:∀ σ H,Pv σ H->c σ H λ b H1=>if b=true then tb {D with nx:=λ σ' H'=>Pv σ' H'/\μ σ' H' < μ σ H,ct:=λ σ' H'=>Pv σ' H'/\μ σ' H' < μ σ H,bk:=D.nx} σ H1 else D.nx σ H1)
  (mono:∀ σ H Q Q',(∀ b H1,Q b H1->Q' b H1)->c σ H Q->c σ H Q'):wn c tb D σ H:=by
 refine⟨λ m σ H=>m = μ σ H/\Pv σ H,⟨_,rfl,h0⟩,?_⟩
 rintro m σ H ⟨rfl,p⟩
 refine mono σ H _ _ (λ b H1 q=>?_) (hs σ H p)
 cases b with
 | true=>exact⟨_,λ σ' H' ⟨p',l⟩=>⟨_,l,rfl,p'⟩,q⟩
 | false=>exact q
abbrev R2:=V->V->Hp->VK->Prop
def OpR (X:Cx) (f:Value->Value->Sem Value) (r:R2):Prop :=
 ∀ (pins:List (Addr×Obj)) (s:Shared) (σ:St) (H:Hp) (x y:V) (v u:Value) (Q:VK),Inv X pins σ H s->bw x v->bw y u->r x y H Q ->
  wpAny (model X.prog X.w) X.A (f v u) (EP X pins σ Q) X.xe s
def UnR (X:Cx) (f:Value->Sem Value) (r:V->Hp->VK->Prop):Prop :=
 ∀ (pins:List (Addr×Obj)) (s:Shared) (σ:St) (H:Hp) (x:V) (v:Value) (Q:VK),Inv X pins σ H s->bw x v->r x H Q ->
  wpAny (model X.prog X.w) X.A (f v) (EP X pins σ Q) X.xe s
def dJ (X:Cx) (f:Value) (r:List V->Hp->VK->Prop):Prop :=
 ∀ (pins:List (Addr×Obj)) (s:Shared) (σ:St) (H:Hp) (xs:List V) (us:List Value) (Q:VK),Inv X pins σ H s->bg xs us->r xs H Q ->
  wpAny (model X.prog X.w) X.A (call f us) (EP X pins σ Q) X.xe s
def tOp (r:R2) (ta tb:TE):TE:=λ σ H Q=>ta σ H λ x H1=>tb σ H1 λ y H2=>r x y H2 Q
def tUn (r:V->Hp->VK->Prop) (ta:TE):TE:=λ σ H Q=>ta σ H λ x H1=>r x H1 Q
def rI (C:Int->Int->Prop) (g:Int->Int->V):R2:=λ x y H Q=>∃ i j,x=.int i/\y=.int j/\C i j/\Q (g i j) H
def rI0 (g:Int->Int->V):R2:=λ x y H Q=>∃ i j,x=.int i/\y=.int j/\Q (g i j) H
def rU (g:Int->V):V->Hp->VK->Prop:=λ x H Q=>∃ i,x=.int i/\Q (g i) H
section
variable {X:Cx}{a b c:Expr}{ta tb tc:TE}{pos:Pos}
theorem FC (ha:PE X a ta) (hb:PE X b tb) {pins:List (Addr×Obj)}{s:Shared}{σ:St}{H:Hp}{R:V->V->Hp->Prop} (I:Inv X pins σ H s)
  (h:ta σ H λ x H1=>tb σ H1 λ y H2=>R x y H2) {Q:Value->Shared->Prop}{f:Value->Value->Sem Value}
  (hf:∀ v u s2 x y H2,Inv X pins σ H2 s2->bw x v->bw y u->R x y H2->wpAny (model X.prog X.w) X.A (f v u) Q X.xe s2) :
  wpAny (model X.prog X.w) X.A (eval a X.env) (λ v s₁=>wpAny (model X.prog X.w) X.A (eval b X.env) (λ u s₂=>wpAny (model X.prog X.w) X.A (f v u) Q X.xe s₂) X.xe s₁) X.xe s:=by
 refine thn (ha pins s σ H _ I h) λ v s1 ⟨x,H1,I1,r1,q1⟩=>?_
 refine thn (hb pins s1 σ H1 _ I1 q1) λ u s2 ⟨y,H2,I2,r2,q2⟩=>?_
 exact hf v u s2 x y H2 I2 r1 r2 q2
theorem ar {op:Operator}{r:R2} (ho:OpR X (binaryOp op) r) (ha:PE X a ta) (hb:PE X b tb):PE X (.BinOp a op b pos) (tOp r ta tb):=by
 intro pins s σ H Q I h
 exact wpAny_BinOp (FC ha hb I h λ v u s2 x y H2 I2 rx ry q=>ho pins s2 σ H2 x y v u Q I2 rx ry q)
theorem pi {op:UnaryOp}{r:V->Hp->VK->Prop} (ho:UnR X (unaryOp op) r) (ha:PE X a ta):PE X (.UnaryOp op a pos) (tUn r ta):=by
 intro pins s σ H Q I h
 exact UnaryOp_ (thn (ha pins s σ H _ I h) λ v s1 ⟨x,H1,I1,r1,q1⟩=>ho pins s1 σ H1 x v Q I1 r1 q1)
theorem opI {f:Value->Value->Sem Value}{C:Int->Int->Prop}{g:Int->Int->Int}
  (rule:∀ (i j:Int) (t u:Tok) (s:Shared) (Q:Value->Shared->Prop) (E:Value->Shared->Prop),C i j->Q (.int (g i j) s.toks) {s with toks:=s.toks+1}->wpAny (model X.prog X.w) X.A (f (.int i t) (.int j u)) Q E s) :
  OpR X f (rI C λ i j=>.int (g i j)):=by
 intro pins s σ H x y v u Q I rx ry h
 obtain⟨i,j,rfl,rfl,hc,q⟩:=h
 obtain⟨t,rfl⟩:=rx
 obtain⟨t',rfl⟩:=ry
 exact rule i j t t' s _ _ hc ⟨.int (g i j),H,I.tok _,⟨_,rfl⟩,q⟩
theorem Gs {f:Value->Value->Sem Value}{g:Int->Int->Int}
  (rule:∀ (i j:Int) (t u:Tok) (s:Shared) (Q:Value->Shared->Prop) (E:Value->Shared->Prop),Q (.int (g i j) s.toks) {s with toks:=s.toks+1}->wpAny (model X.prog X.w) X.A (f (.int i t) (.int j u)) Q E s) :
  OpR X f (rI0 λ i j=>.int (g i j)):=by
 intro pins s σ H x y v u Q I rx ry h
 obtain⟨i,j,rfl,rfl,q⟩:=h
 obtain⟨t,rfl⟩:=rx
 obtain⟨t',rfl⟩:=ry
 exact rule i j t t' s _ _ ⟨.int (g i j),H,I.tok _,⟨_,rfl⟩,q⟩
theorem A3 {f:Value->Value->Sem Value}{g:Int->Int->Bool}
  (rule:∀ (i j:Int) (t u:Tok) (s:Shared) (Q:Value->Shared->Prop) (E:Value->Shared->Prop),Q (.bool (g i j)) s->wpAny (model X.prog X.w) X.A (f (.int i t) (.int j u)) Q E s) :
  OpR X f (rI0 λ i j=>.bl (g i j)):=by
 intro pins s σ H x y v u Q I rx ry h
 obtain⟨i,j,rfl,rfl,q⟩:=h
 obtain⟨t,rfl⟩:=rx
 obtain⟨t',rfl⟩:=ry
 exact rule i j t t' s _ _ ⟨.bl (g i j),H,I,rfl,q⟩
def HJ (i j:Int):Prop:=0<j/\j<1073741824
def HI (i j:Int):Prop:=0<=j/\j<=1000000/\i.natAbs<2^64
def FL (i j:Int):Prop:=(-(2^64)<i/\i<2^64)∨(-(2^64)<j/\j<2^64)
theorem FL.ok {i j:Int} (h:FL i j):IntMulOk i j:=by
 rcases h with ⟨h1,h2⟩ | ⟨h1,h2⟩
 ·exact .of_left (intBits_le_64 h1 h2)
 ·exact .of_right (intBits_le_64 h1 h2)
theorem bM:OpR X (binaryOp .Add) (rI0 λ i j=>.int (i+j)):=Gs λ _ _ _ _ _ _ _ q=>add_int q
theorem eS:OpR X (binaryOp .Sub) (rI0 λ i j=>.int (i-j)):=Gs λ _ _ _ _ _ _ _ q=>sub_int q
theorem d5:OpR X (binaryOp .Mult) (rI FL λ i j=>.int (i*j)):=opI λ _ _ _ _ _ _ _ hc q=>mul_int q hc.ok
theorem di:OpR X (binaryOp .FloorDiv) (rI HJ λ i j=>.int (i / j)):=opI λ i j _ _ _ _ _ hc q=>by
 have h1:(0:Int)<j:=hc.1
 have h2:j<1073741824:=hc.2
 exact floordiv_int (by omega) (by rw[Int.fdiv_eq_ediv_of_nonneg i (by omega)];exact q) (.inl (PyProof.noPylong_small (by omega)))
theorem cP:OpR X (binaryOp .Mod) (rI (λ _ j=>0<j) λ i j=>.int (i%j)):=opI λ i j _ _ _ _ _ hc q=>by
 have h1:(0:Int)<j:=hc
 exact mod_int' (by omega) (by rw[Int.fmod_eq_emod_of_nonneg i (by omega)];exact q)
theorem Ez:OpR X (binaryOp .Pow) (rI HI λ i j=>.int (i^j.toNat)):=opI λ _ _ _ _ _ _ _ hc q=>pow_int_small hc.1 hc.2.1 hc.2.2 q
theorem unI {f:Value->Sem Value}{g:Int->Int}
  (rule:∀ (i:Int) (t:Tok) (s:Shared) (Q:Value->Shared->Prop) (E:Value->Shared->Prop),Q (.int (g i) s.toks) {s with toks:=s.toks+1}->wpAny (model X.prog X.w) X.A (f (.int i t)) Q E s) :
  UnR X f (rU λ i=>.int (g i)):=by
 intro pins s σ H x v Q I rx h
 obtain⟨i,rfl,q⟩:=h
 obtain⟨t,rfl⟩:=rx
 exact rule i t s _ _ ⟨.int (g i),H,I.tok _,⟨_,rfl⟩,q⟩
theorem jX:UnR X (unaryOp .USub) (rU λ i=>.int (-i)):=unI λ _ _ _ _ _ q=>neg_int q
end
def F8:V->V->Bool
 | .non,.non=>true | .non,.int _=>true | .int _,.non=>true | .non,.bl _=>true | .bl _,.non=>true | .non,.str _=>true | .str _,.non=>true
 | .int _,.int _=>true | .bl _,.bl _=>true | .str _,.str _=>true | .byt _,.byt _=>true
 | .int _,.str _=>true | .str _,.int _=>true | .bl _,.str _=>true | .str _,.bl _=>true
 | _,_=>false
def rEq:R2:=λ x y H Q=>F8 x y=true/\Q (.bl (decide (x=y))) H
def rNe:R2:=λ x y H Q=>F8 x y=true/\Q (.bl (!decide (x=y))) H
theorem fG {i j:Int}:decide (V.int i=V.int j)=(i == j):=by
 rw[Bool.eq_iff_iff]
 simp
theorem zI {i j:Bool}:decide (V.bl i=V.bl j)=(i == j):=by
 rw[Bool.eq_iff_iff]
 simp
theorem dn {i j:Str}:decide (V.str i=V.str j)=(i == j):=by
 rw[Bool.eq_iff_iff]
 simp
theorem ut {i j:Array UInt8}:decide (V.byt i=V.byt j)=(i.toList == j.toList):=by
 rw[Bool.eq_iff_iff]
 cases i
 cases j
 simp
section
variable {X:Cx}{a b c:Expr}{ta tb tc:TE}{pos:Pos}
theorem bD {pins:List (Addr×Obj)}{σ:St}{H:Hp}{s:Shared}{Q:VK}{k k':Bool} (I:Inv X pins σ H s) (q:Q (.bl k) H) (e:k=k'):EP X pins σ Q (.bool k') s:=by
 subst e
 exact⟨.bl k,H,I,rfl,q⟩
theorem b7:OpR X (compareOp .Eq) rEq:=by
 intro pins s σ H x y v u Q I rx ry h
 obtain⟨hs,q⟩:=h
 cases x with
 | non =>
  cases rx
  cases y with
  | non=>cases ry;exact PySem.EqNone.eq_none_none (bD I q (by simp))
  | bl j=>cases ry;exact PySem.EqNone.eq_none_bool (bD I q (by simp))
  | int j=>obtain⟨t',rfl⟩:=ry;exact PySem.EqNone.eq_none_int (bD I q (by simp))
  | str j=>obtain⟨t',rfl⟩:=ry;exact PySem.EqNone.eq_none_str (bD I q (by simp))
  | _=>exact absurd (show false=true from hs) Bool.false_ne_true
 | bl i =>
  cases rx
  cases y with
  | non=>cases ry;exact PySem.EqNone.eq_bool_none (bD I q (by simp))
  | bl j=>cases ry;exact eq_bool (bD I q zI)
  | str j=>obtain⟨t',rfl⟩:=ry;exact PySem.EqMixed.eq_bool_str (bD I q (by simp))
  | _=>exact absurd (show false=true from hs) Bool.false_ne_true
 | int i =>
  obtain⟨t,rfl⟩:=rx
  cases y with
  | non=>cases ry;exact PySem.EqNone.eq_int_none (bD I q (by simp))
  | int j=>obtain⟨t',rfl⟩:=ry;exact eq_int (bD I q fG)
  | str j=>obtain⟨t',rfl⟩:=ry;exact PySem.EqMixed.eq_int_str (bD I q (by simp))
  | _=>exact absurd (show false=true from hs) Bool.false_ne_true
 | str i =>
  obtain⟨t,rfl⟩:=rx
  cases y with
  | non=>cases ry;exact PySem.EqNone.eq_str_none (bD I q (by simp))
  | bl j=>cases ry;exact PySem.EqMixed.eq_str_bool (bD I q (by simp))
  | int j=>obtain⟨t',rfl⟩:=ry;exact PySem.EqMixed.eq_str_int (bD I q (by simp))
  | str j=>obtain⟨t',rfl⟩:=ry;exact eq_str (bD I q dn)
  | _=>exact absurd (show false=true from hs) Bool.false_ne_true
 | byt i =>
  obtain⟨t,rfl⟩:=rx
  cases y with
  | byt j=>obtain⟨t',rfl⟩:=ry;exact PySem.W.eq_bytes (bD I q ut)
  | _=>exact absurd (show false=true from hs) Bool.false_ne_true
 | _=>cases y<;>exact absurd (show false=true from hs) Bool.false_ne_true
theorem eY:OpR X (compareOp .NotEq) rNe:=by
 intro pins s σ H x y v u Q I rx ry h
 obtain⟨hs,q⟩:=h
 cases x with
 | non =>
  cases rx
  cases y with
  | non=>cases ry;exact PySem.EqNone.ne_none_none (bD I q (by simp))
  | bl j=>cases ry;exact PySem.EqNone.ne_none_bool (bD I q (by simp))
  | int j=>obtain⟨t',rfl⟩:=ry;exact PySem.EqNone.ne_none_int (bD I q (by simp))
  | str j=>obtain⟨t',rfl⟩:=ry;exact PySem.EqNone.ne_none_str (bD I q (by simp))
  | _=>exact absurd (show false=true from hs) Bool.false_ne_true
 | bl i =>
  cases rx
  cases y with
  | non=>cases ry;exact PySem.EqNone.ne_bool_none (bD I q (by simp))
  | bl j=>cases ry;exact ne_bool (bD I q (congrArg not zI))
  | str j=>obtain⟨t',rfl⟩:=ry;exact PySem.EqMixed.ne_bool_str (bD I q (by simp))
  | _=>exact absurd (show false=true from hs) Bool.false_ne_true
 | int i =>
  obtain⟨t,rfl⟩:=rx
  cases y with
  | non=>cases ry;exact PySem.EqNone.ne_int_none (bD I q (by simp))
  | int j=>obtain⟨t',rfl⟩:=ry;exact ne_int (bD I q (congrArg not fG))
  | str j=>obtain⟨t',rfl⟩:=ry;exact PySem.EqMixed.ne_int_str (bD I q (by simp))
  | _=>exact absurd (show false=true from hs) Bool.false_ne_true
 | str i =>
  obtain⟨t,rfl⟩:=rx
  cases y with
  | non=>cases ry;exact PySem.EqNone.ne_str_none (bD I q (by simp))
  | bl j=>cases ry;exact PySem.EqMixed.ne_str_bool (bD I q (by simp))
  | int j=>obtain⟨t',rfl⟩:=ry;exact PySem.EqMixed.ne_str_int (bD I q (by simp))
  | str j=>obtain⟨t',rfl⟩:=ry;exact ne_str (bD I q (congrArg not dn))
  | _=>exact absurd (show false=true from hs) Bool.false_ne_true
 | byt i =>
  obtain⟨t,rfl⟩:=rx
  cases y with
  | byt j=>obtain⟨t',rfl⟩:=ry;exact PySem.W.ne_bytes (bD I q (congrArg not ut))
  | _=>exact absurd (show false=true from hs) Bool.false_ne_true
 | _=>cases y<;>exact absurd (show false=true from hs) Bool.false_ne_true
theorem eZ:OpR X (compareOp .Lt) (rI0 λ i j=>.bl (decide (i<j))):=A3 λ _ _ _ _ _ _ _ q=>lt_int q
theorem mm:OpR X (compareOp .LtE) (rI0 λ i j=>.bl (decide (i<=j))):=A3 λ _ _ _ _ _ _ _ q=>le_int q
theorem gE:OpR X (compareOp .Gt) (rI0 λ i j=>.bl (decide (j<i))):=A3 λ _ _ _ _ _ _ _ q=>gt_int q
theorem Dv:OpR X (compareOp .GtE) (rI0 λ i j=>.bl (decide (j<=i))):=A3 λ _ _ _ _ _ _ _ q=>ge_int q
theorem yv:OpR X (compareOp .Is) (λ x y H Q=>y=.non/\Q (.bl (decide (x=.non))) H):=by
 intro pins s σ H x y v u Q I rx ry h
 obtain⟨rfl,q⟩:=h
 cases ry
 refine is_none_gen (bD I q ?_)
 cases x<;>first
  | (cases rx;rfl)
  | (obtain⟨t,rfl⟩:=rx;rfl)
theorem aO (b:Expr) {op:CmpOp} (h:op≠.In:=by decide) (h2:op≠.NotIn:=by decide):behindInMarks op b=false:=by
 have e1:(op == CmpOp.In)=false:=by cases op<;>first | rfl | exact absurd rfl h
 have e2:(op == CmpOp.NotIn)=false:=by cases op<;>first | rfl | exact absurd rfl h2
 cases b<;>simp [behindInMarks,e1,e2]
theorem eI {op:CmpOp}{r:R2} (ho:OpR X (compareOp op) r) (ha:PE X a ta) (hb:PE X b tb) (hm:behindInMarks op b=false):PE X (.Compare a [op] [b] pos) (tOp r ta tb):=by
 intro pins s σ H Q I h
 exact wpAny_Compare1 (FC ha hb I h λ v u s2 x y H2 I2 rx ry q=>ho pins s2 σ H2 x y v u Q I2 rx ry q) hm
def FQ (t:TE):TT:=λ σ H Q=>t σ H λ x H'=>∃ k,x=.bl k/\Q k H'
theorem aK {op:CmpOp}{r:R2} (ho:OpR X (compareOp op) r) (ha:PE X a ta) (hb:PE X b tb) (hm:behindInMarks op b=false):PT X (.Compare a [op] [b] pos) (FQ (tOp r ta tb)):=by
 intro pins s σ H Q I h
 refine wpAny_isTrue_Compare1 (thn (ha pins s σ H _ I h) λ v s1 ⟨x,H1,I1,r1,q1⟩=>thn (hb pins s1 σ H1 _ I1 q1) λ u s2 ⟨y,H2,I2,r2,q2⟩ =>
  thn (ho pins s2 σ H2 x y v u _ I2 r1 r2 q2) λ c s3 ⟨z,H3,I3,r3,k,e,q3⟩=>?_) hm
 subst e
 cases r3
 exact wpAny_truthy_bool ⟨H3,I3,q3⟩
def DR (r r':R2) (ta tb tc:TE):TE:=λ σ H Q=>ta σ H λ x H1=>tb σ H1 λ y H2=>r x y H2 λ z H3=>∃ k,z=.bl k /\
 (if k=true then tc σ H3 λ w' H4=>r' y w' H4 Q else Q (.bl false) H3)
theorem pk {op op':CmpOp}{r r':R2} (ho:OpR X (compareOp op) r) (ho':OpR X (compareOp op') r') (ha:PE X a ta) (hb:PE X b tb) (hc:PE X c tc)
  (hm:lastMarks [op,op'] [b,c]=false:=by with_unfolding_all rfl):PE X (.Compare a [op,op'] [b,c] pos) (DR r r' ta tb tc):=by
 intro pins s σ H Q I h
 refine Compare_chain (thn (ha pins s σ H _ I h) λ v s1 ⟨x,H1,I1,r1,q1⟩=>chain_link (thn (hb pins s1 σ H1 _ I1 q1) λ u s2 ⟨y,H2,I2,r2,q2⟩ =>
  thn (ho pins s2 σ H2 x y v u _ I2 r1 r2 q2) λ d s3 ⟨z,H3,I3,r3,k,e,q3⟩=>?_)) hm
 subst e
 cases r3
 refine wpAny_truthy_bool ?_
 cases k with
 | false=>exact ite_ff ⟨.bl false,H3,I3,rfl,q3⟩
 | true=>exact ite_tt (chain_last (thn (hc pins s3 σ H3 _ I3 q3) λ w' s4 ⟨z',H4,I4,r4,q4⟩=>ho' pins s4 σ H4 y z' u w' Q I4 r2 r4 q4))
theorem kO:(sizeLine:Nat)<2^63:=by rw[sizeLine_eq];decide
theorem jd {x:V}{us:List Value} (r:bg [x] us):∃ u,us = [u]/\bw x u:=by
 cases r with
 | cons r1 r2=>cases r2;exact⟨_,rfl,r1⟩
theorem oB {x y:V}{us:List Value} (r:bg [x,y] us):∃ u w',us = [u,w']/\bw x u/\bw y w':=by
 cases r with
 | cons r1 r2 =>
  cases r2 with
  | cons r3 r4=>cases r4;exact⟨_,_,rfl,r1,r3⟩
theorem lj:dJ X (.builtin "abs") (λ xs H Q=>∃ i,xs = [.int i]/\Q (.int (if i<0 then -i else i)) H):=by
 intro pins s σ H xs us Q I r h
 obtain⟨i,rfl,q⟩:=h
 obtain⟨u,rfl,t,rfl⟩:=jd r
 exact call_abs_int λ u tk=>⟨.int (if i<0 then -i else i),H,I.tok _,⟨_,rfl⟩,q⟩
theorem vU (hc:X.calm=true):dJ X (.builtin "min") (λ xs H Q=>∃ i j,xs = [.int i,.int j]/\Q (.int (if j<i then j else i)) H):=by
 intro pins s σ H xs us Q I r h
 obtain⟨i,j,rfl,q⟩:=h
 obtain⟨u,w',rfl,⟨t,rfl⟩,⟨t',rfl⟩⟩:=oB r
 refine min_two_ints (I.ok.hd hc) λ h' tk k=>⟨_,H,I.kept k,?_,q⟩
 by_cases hj:j<i
 ·rw[if_pos hj,if_pos hj];exact⟨_,rfl⟩
 ·rw[if_neg hj,if_neg hj];exact⟨_,rfl⟩
theorem bY:dJ X (.type "str") (λ xs H Q=>∃ i,xs = [.int i]/\i.natAbs.log2<1920/\Q (.str (toString i)) H):=by
 intro pins s σ H xs us Q I r h
 obtain⟨i,rfl,hz,q⟩:=h
 obtain⟨u,rfl,t,rfl⟩:=jd r
 exact PySem.P.str_of_int hz ⟨.str _,H,I.tok _,⟨_,rfl⟩,q⟩
end
structure sD (h:Heap) (x dx C:Addr) (mA:Str->Option Value):Prop where
 obj:h.get? x=some (PySem.W.instObj C dx)
 ns:h.Ns1 dx mA
 ne:dx≠x
theorem vw {h:Heap}{dx:Addr}{mA:Str->Option Value} (n:h.Ns1 dx mA):∃ od,h.get? dx=some od/\∀ name,PySem.W.lookIn name od=some (mA name):=by
 obtain⟨o,es,ep,ho,hd,hk,_,hm⟩:=n
 refine⟨o,ho,λ name=>?_⟩
 have e:=hm name
 unfold nsFind findBy at e
 rw[<-Array.find?_toList] at e
 unfold PySem.W.lookIn
 rw[hd]
 dsimp only
 split
 ·rename_i y q
  rw[q] at e
  exact congrArg some e
 ·rename_i q
  rw[q] at e
  have a:es.toList.any (·.refKey)=false:=by
   rw[List.any_eq_false]
   intro y hy
   obtain⟨z,t,hkey⟩:=hk y (Array.mem_toList_iff.mp hy)
   simp [DictEntry.refKey,hkey]
  have a':¬ es.toList.any (·.refKey)=true:=by rw[a];exact Bool.false_ne_true
  rw[if_neg a']
  exact congrArg some e
theorem sD.look {h:Heap}{x dx C:Addr}{mA:Str->Option Value} (I:sD h x dx C mA):∃ od,PySem.W.InstAt h x (PySem.W.instObj C dx) C (some od)/\∀ name,PySem.W.lookIn name od=some (mA name) :=
 let ⟨od,ho,hl⟩:=vw I.ns
 ⟨od,⟨I.obj,rfl,rfl,ho⟩,hl⟩
section
variable {prog:Program}{w:World}{A:Around}{E:Value->Shared->Prop}{s:Shared}{K:PySem.W.Frag}{x dx C f:Addr}{mA:Str->Option Value}{name:Str}{v:Value}
theorem BU {expr:Bool}{Q:Value->Shared->Prop} (X:K.In s.heap) (I:sD s.heap x dx C mA) (hg:PySem.W.plainGet K C name=true) (hh:PySem.W.hasDictIn K C=true)
  (ha:PySem.W.findIn K (.ref C) name=some none) (hv:mA name=some v) (hv':PySem.W.handedIn v=true) (h:Q v {s with toks:=s.toks+1}) :
  wpAny (model prog w) A (getAttr (.ref x) name expr) Q E s:=by
 obtain⟨od,J,hl⟩:=I.look
 exact PySem.W.get_value X J (PySem.W.plainGet_of hg).1 (PySem.W.findObj_own hh ha rfl (by rw[hl,hv])) hv' h
theorem zn {pl:Sem Bool}{Q:Value×List Value->Shared->Prop} (X:K.In s.heap) (I:sD s.heap x dx C mA) (hg:PySem.W.plainGet K C name=true)
  (hf:PySem.W.findIn K (.ref C) name=some (some (.ref f))) (ht:PySem.W.isFn K (.ref f)=true) (hv:mA name=none) (h:Q (.ref f,[.ref x]) s) :
  wpAny (model prog w) A (getMethod (.ref x) name pl) Q E s:=by
 obtain⟨od,J,hl⟩:=I.look
 exact PySem.W.method_fn X J (PySem.W.plainGet_of hg).1 (PySem.W.plainGet_of hg).2 hf (beq_iff_eq.mp ht) (by show (PySem.W.lookIn name od).map (·.isSome)=some false;rw[hl,hv];rfl) h
theorem As {ns:List Str}{Q:Unit->Shared->Prop} (X:K.In s.heap) (I:sD s.heap x dx C mA)
  (hs:PySem.W.findIn K (.ref C) "__setattr__" = some (some (.builtin "object.__setattr__"))) (hp:PySem.W.plainOver K C=true) (ht:PySem.W.takerIn K C name=some none) (hh:PySem.W.hasDictIn K C=true)
  (hw:PySem.Within mA ns) (hsz:ns.length<=sizeLine)
  (h:∀ h',sD h' x dx C (λ y=>if y=name then some v else mA y)->Heap.SameBut dx s.heap h'->Q () {s with heap:=h',toks:=s.toks+2}) :
  wpAny (model prog w) A (setAttr (.ref x) name v) Q E s:=by
 obtain⟨od,J,hl⟩:=I.look
 refine PySem.W.set_plain X J hs (PySem.W.osa_open (s:={s with toks:=s.toks+1}) (r:=none) X J hp ht λ b=>?_)
 obtain⟨cd,hc,hd'⟩:=PySem.W.any_some hh
 have hx:s.heap.get? x=some ⟨.ref C,some dx,.plain,#[]⟩:=I.obj
 refine wpAny_bind (wpAny_pure (wpAny_bind (wpAny_bind (wpAny_loadPart hx (wpAny_bind (PySem.W.Looks.here (s:={s with toks:=s.toks+1}) (PySem.W.looks_clsIn X hc) ?_))))))
 rw[hd']
 refine wpAny_pure (a:=some dx) (wpAny_bind (wpAny_pure (wpAny_bind ?_)))
 refine wpAny_nsSet1 (s:={s with toks:=s.toks+1}) I.ns λ h' hn2 hs2=>?_
 obtain⟨oD,esD,epD,hoD,hdD,hcD⟩:=hn2.count (PySem.Within.cons name v hw)
 refine wpAny_bind (wpAny_lookBehind hoD (by rw[hdD];exact pastItsLine_dict (Nat.le_trans hcD (by rw[List.length_cons];omega))) ?_)
 exact wpAny_pure (h _ ⟨(hs2.2 _ (Ne.symm I.ne)).trans I.obj,hn2,I.ne⟩ hs2)
theorem yU {R:Result->Shared->Prop}{vs:List Value}{kw:List (Str×Value)} (X:K.In s.heap) (hm:PySem.W.makesIn K C=true)
  (hi:PySem.W.findIn K (.ref C) "__init__" = some (some (.ref f))) (hf:PySem.W.typeIn K (.ref f)=some (.type "function"))
  (h:codeAny (model prog w) (A.under (.builtin "type.__call__" ⟨.ref C::vs,kw⟩)) (.call (.ref f) ⟨.ref (s.heap.objs.size+1)::vs,kw⟩) (PySem.W.InitBack (s.heap.objs.size+1) R)
   {s with heap:=(s.heap.push PySem.W.emptyDict).push (PySem.W.instObj C s.heap.objs.size)}) :
  codeAny (model prog w) A (.call (.ref C) ⟨vs,kw⟩) R s:=by
 obtain⟨hh,g,d,t,os⟩:=s
 exact PySem.W.make_core (PySem.W.makes_of X hm) (PySem.W.looks_findIn X hi) (λ self=>PySem.W.bind_fn X self hf) (.inl rfl) h
end
def gC (f:Str) (v:V):List (Str×V)->List (Str×V)
 | []=>[(f,v)]
 | (g,x)::r=>if g=f then (g,v)::r else (g,x)::gC f v r
theorem jk (f g:Str) (v:V):∀ fs:List (Str×V),(gC f v fs).lookup g=if g=f then some v else fs.lookup g
 | []=>by
  show List.lookup g [(f,v)]=_
  by_cases h:g=f
  ·have hb:(g == f)=true:=beq_iff_eq.mpr h
   simp only[List.lookup,hb,if_pos h]
  ·have hb:(g == f)=false:=beq_eq_false_iff_ne.mpr h
   simp only[List.lookup,hb,if_neg h]
 | (k,x)::r=>by
  have ih:=jk f g v r
  rw[show gC f v ((k,x)::r)=(if k=f then (k,v)::r else (k,x)::gC f v r) from rfl]
  by_cases hk:k=f
  ·rw[if_pos hk]
   by_cases h:g=k
   ·have hb:(g == k)=true:=beq_iff_eq.mpr h
    simp only[List.lookup,hb,if_pos (h.trans hk)]
   ·have hb:(g == k)=false:=beq_eq_false_iff_ne.mpr h
    simp only[List.lookup,hb,if_neg (λ e:g=f=>h (e.trans hk.symm))]
  ·rw[if_neg hk]
   by_cases h:g=k
   ·have hb:(g == k)=true:=beq_iff_eq.mpr h
    simp only[List.lookup,hb,if_neg (λ e:g=f=>hk (h.symm.trans e))]
   ·have hb:(g == k)=false:=beq_eq_false_iff_ne.mpr h
    simp only[List.lookup,hb]
    exact ih
theorem i0 (f:Str) (v:V):∀ fs:List (Str×V),f∈(gC f v fs).map (·.1)/\∀ g,g∈fs.map (·.1)->g∈(gC f v fs).map (·.1)
 | []=>⟨by simp [gC],λ g h=>by simp at h⟩
 | (k,x)::r=>by
  obtain⟨i1,i2⟩:=i0 f v r
  rw[show gC f v ((k,x)::r)=(if k=f then (k,v)::r else (k,x)::gC f v r) from rfl]
  by_cases hk:k=f
  ·rw[if_pos hk]
   subst hk
   exact⟨by simp,λ g h=>by simpa using h⟩
  ·rw[if_neg hk]
   refine⟨?_,λ g h=>?_⟩
   ·rw[List.map_cons]
    exact List.mem_cons_of_mem _ i1
   ·rw[List.map_cons] at h ⊢
    rcases List.mem_cons.mp h with e | e
    ·exact List.mem_cons.mpr (.inl e)
    ·exact List.mem_cons_of_mem _ (i2 g e)
theorem jm (f:Str) (v:V):∀ fs:List (Str×V),(gC f v fs).length<=fs.length+1
 | []=>by simp [gC]
 | (k,x)::r=>by
  have ih:=jm f v r
  rw[show gC f v ((k,x)::r)=(if k=f then (k,v)::r else (k,x)::gC f v r) from rfl]
  by_cases hk:k=f
  ·rw[if_pos hk,List.length_cons,List.length_cons];omega
  ·rw[if_neg hk,List.length_cons,List.length_cons];omega
theorem fM.some_of {v:V}{o:Option Value} (r:fM (some v) o):∃ u,o=some u/\bw v u:=by
 cases o with
 | none=>exact (show False from r).elim
 | some u=>exact⟨u,rfl,r⟩
theorem fM.none_of {o:Option Value} (r:fM none o):o=none:=by
 cases o with
 | none=>rfl
 | some u=>exact (show False from r).elim
theorem vH {v:V}{u:Value} (r:bw v u):PySem.W.handedIn u=true:=by
 cases v with
 | non=>cases (show u=Value.none from r);rfl
 | bl b=>cases (show u=Value.bool b from r);rfl
 | int i=>obtain⟨t,e⟩:=(show ∃ t,u=Value.int i t from r);cases e;rfl
 | str x=>obtain⟨t,e⟩:=(show ∃ t,u=Value.str x t from r);cases e;rfl
 | byt b=>obtain⟨t,e⟩:=(show ∃ t,u=Value.bytes b t from r);cases e;rfl
 | flt b=>obtain⟨t,e⟩:=(show ∃ t,u=Value.float b t from r);cases e;rfl
 | ref a=>cases (show u=Value.ref a from r);rfl
 | ty n=>cases (show u=Value.type n from r);rfl
section
variable {P:Program}{w:World}{H H':Hp}{h h':Heap}{a C dx:Addr}{fs fs':List (Str×V)}
theorem jQ (hok:HOk P w H h) (e:H a=some (.ins C dx fs)):∃ mA,sD h a dx C mA/\(∀ f,fM (fs.lookup f) (mA f))/\PySem.Within mA (fs.map (·.1))/\fs.length<=1000/\H dx=some (.own a):=by
 obtain⟨d,z,ne,ob,mA,n,r,q⟩:=(show bx P w H h a (.ins C dx fs) from hok a _ e)
 exact⟨mA,⟨ob,n,ne⟩,r,q,z,d⟩
end
structure Cls (K:PySem.W.Frag) (C:Addr):Prop where
 pg:PySem.W.plainGet K C Str.empty=true
 hd:PySem.W.hasDictIn K C=true
 po:PySem.W.plainOver K C=true
 sa:PySem.W.findIn K (.ref C) "__setattr__" = some (some (.builtin "object.__setattr__"))
theorem Cls.get {K:PySem.W.Frag}{C:Addr} (c:Cls K C) (f:Str):PySem.W.plainGet K C f=true:=c.pg
def hV (K:PySem.W.Frag) (C:Addr) (f:Str):Prop:=PySem.W.findIn K (.ref C) f=some none
theorem hV.taker {K:PySem.W.Frag}{C:Addr}{f:Str} (n:hV K C f):PySem.W.takerIn K C f=some none:=by
 unfold PySem.W.takerIn
 rw[show PySem.W.findIn K (.ref C) f=some none from n]
 rfl
structure qh (K:PySem.W.Frag) (C:Addr) (m:Str) (f:Addr):Prop where
 at_:PySem.W.findIn K (.ref C) m=some (some (.ref f))
 fn:PySem.W.isFn K (.ref f)=true
 kp:PySem.W.keepIn K (.ref f)=true
section
variable {X:Cx}{pins:List (Addr×Obj)}{σ:St}{H:Hp}{s:Shared}{a C dx:Addr}{fs:List (Str×V)}{f:Str}{v:V}{A:Around}{E:Value->Shared->Prop}
theorem rN {b:Bool}{Q:Value->Shared->Prop} (I:Inv X pins σ H s) (e:H a=some (.ins C dx fs)) (c:Cls X.K C) (n:hV X.K C f) (l:fs.lookup f=some v)
  (h:∀ u s',Inv X pins σ H s'->bw v u->Q u s'):wpAny (model X.prog X.w) A (getAttr (.ref a) f b) Q E s:=by
 obtain⟨mA,O,r,_,_,_⟩:=jQ I.hok e
 obtain⟨u,hu,ru⟩:=fM.some_of (v:=v) (o:=mA f) (by rw[<-l];exact r f)
 exact BU I.kIn O (c.get f) c.hd n hu (vH ru) (h u _ (I.tok _) ru)
theorem kS {m:Str}{g:Addr}{pl:Sem Bool}{Q:Value×List Value->Shared->Prop} (I:Inv X pins σ H s) (e:H a=some (.ins C dx fs)) (c:Cls X.K C) (k:qh X.K C m g) (l:fs.lookup m=none)
  (h:Q (.ref g,[.ref a]) s):wpAny (model X.prog X.w) A (getMethod (.ref a) m pl) Q E s:=by
 obtain⟨mA,O,r,_,_,_⟩:=jQ I.hok e
 have hn:mA m=none:=fM.none_of (by rw[<-l];exact r m)
 exact zn I.kIn O (c.get m) k.at_ k.fn hn h
theorem qy {y:V}{u:Value}{Q:Unit->Shared->Prop} (I:Inv X pins σ H s) (e:H a=some (.ins C dx fs)) (c:Cls X.K C) (n:hV X.K C f) (hl:fs.length<1000) (ry:bw y u)
  (h:∀ s',Inv X pins σ (upd H a (.ins C dx (gC f y fs))) s'->Q () s'):wpAny (model X.prog X.w) A (setAttr (.ref a) f u) Q E s:=by
 obtain⟨mA,O,r,wi,_,ho⟩:=jQ I.hok e
 have hz:(fs.map (·.1)).length<=sizeLine:=by rw[List.length_map,sizeLine_eq];omega
 refine As I.kIn O c.sa c.po n.taker c.hd wi hz λ h' O' sb=>h _ ?_
 have hd:∃ o,h'.get? dx=some o:=let ⟨o,_,_,e',_⟩:=O'.ns;⟨o,e'⟩
 refine I.write (x:=a) (e:=dx) (by rw[e];exact True.intro) (.inr ho) (λ b q hb z=>(sb.2 b hb).trans z) hd ?_
 refine⟨by rw[aM O.ne];exact ho,?_,O.ne,O'.obj,_,O'.ns,λ g=>?_,λ g hg=>?_⟩
 ·have:=jm f y fs;omega
 ·show fM ((gC f y fs).lookup g) (if g=f then some u else mA g)
  rw[jk]
  by_cases q:g=f
  ·rw[if_pos q,if_pos q];exact ry
  ·rw[if_neg q,if_neg q];exact r g
 ·by_cases q:g=f
  ·rw[q];exact (i0 f y fs).1
  ·refine (i0 f y fs).2 g (wi g λ z=>hg ?_)
   show (if g=f then some u else mA g)=none
   rw[if_neg q];exact z
theorem Inv.made (I:Inv X pins σ H s):Inv X pins σ (upd (upd H s.heap.objs.size (.own (s.heap.objs.size+1))) (s.heap.objs.size+1) (.ins C s.heap.objs.size []))
  {s with heap:=(s.heap.push PySem.W.emptyDict).push (PySem.W.instObj C s.heap.objs.size)}:=by
 have e1:(s.heap.push PySem.W.emptyDict).get? s.heap.objs.size=some PySem.W.emptyDict:=Heap.get?_push_size s.heap rfl
 have e2:((s.heap.push PySem.W.emptyDict).push (PySem.W.instObj C s.heap.objs.size)).get? (s.heap.objs.size+1)=some (PySem.W.instObj C s.heap.objs.size):=by
  have:=Heap.get?_push_size (s.heap.push PySem.W.emptyDict) (o:=PySem.W.instObj C s.heap.objs.size) rfl
  rwa [Heap.size_push] at this
 have e3:(s.heap.push PySem.W.emptyDict).Ns s.heap.objs.size (λ _=>none):=⟨PySem.W.emptyDict,#[],_,e1,rfl,(λ e he=>absurd he (by simp)),λ _=>rfl⟩
 have I1:=I.laid (a:=s.heap.objs.size) (o:=.own (s.heap.objs.size+1)) (h':=s.heap.push PySem.W.emptyDict) (t':=s.toks) (λ b u q=>Heap.get?_push_of_some _ q) (Nat.le_refl _) ⟨_,e1⟩
 refine I1.laid (a:=s.heap.objs.size+1) (o:=.ins C s.heap.objs.size []) (t':=s.toks) (λ b u q=>Heap.get?_push_of_some _ q) (Nat.le_of_eq (Heap.size_push _ _)) ?_
 have ne:s.heap.objs.size≠s.heap.objs.size+1:=Nat.ne_of_lt (Nat.lt_succ_self _)
 refine⟨by rw[aM ne,ai],Nat.zero_le _,ne,e2,λ _=>none,(Heap.Ns1.of_empty e3).at λ o q=>Heap.get?_push_of_some _ q,λ _=>True.intro,λ y hy=>absurd rfl hy⟩
theorem CG {prog:Program}{w:World}{env:Env}{e:Expr}{f:Str}{pos:Pos}{s:Shared}{Q:Value->Shared->Prop} (hb:attributeBase e f env (eval e env)=eval e env)
  (h:wpAny (model prog w) A (eval e env) (λ o s₁=>wpAny (model prog w) A (getAttr o f true) Q E s₁) E s):wpAny (model prog w) A (eval (.Attribute e f pos) env) Q E s :=
 Attribute_any_ h (by rw[arm_eval_Attribute,hb])
end
def He (K:PySem.W.Frag) (ta:TE) (f:Str):TE:=λ σ H Q=>ta σ H λ x H1=>∃ a C dx fs v,x=.ref a/\H1 a=some (.ins C dx fs)/\Cls K C/\hV K C f/\fs.lookup f=some v/\Q v H1
def Hi (K:PySem.W.Frag) (ta tv:TE) (f:Str):TS:=λ D σ H=>tv σ H λ y H1=>ta σ H1 λ x H2=>∃ a C dx fs,x=.ref a/\H2 a=some (.ins C dx fs)/\Cls K C/\hV K C f/\fs.length<1000 /\
 D.nx σ (upd H2 a (.ins C dx (gC f y fs)))
section
variable {X:Cx}{o e value:Expr}{f:Str}{pos pos' tpos:Pos}{ta tv:TE}
theorem nK (he:PE X e ta) (hb:attributeBase e f X.env (eval e X.env)=eval e X.env):PE X (.Attribute e f pos) (He X.K ta f):=by
 intro pins s σ H Q I h
 refine CG hb (thn (he pins s σ H _ I h) λ u s1 ⟨x,H1,I1,rx,a,C,dx,fs,v,ex,ea,c,n,l,q⟩=>?_)
 subst ex
 obtain rfl:u=Value.ref a:=rx
 exact rN I1 ea c n l λ u' s2 I2 ru=>⟨v,H1,I2,ru,q⟩
theorem Eo (ha:PE X o ta) (hv:PE X value tv) (hs:swapsWith value (some (.Attribute o f pos')) pos.line X.env=pure false):PS X (.Assign [.Attribute o f pos'] value pos) (Hi X.K ta tv f):=by
 intro pins s σ H D I h
 refine plainObj_wpAny_Assign_Attribute (thn (hv pins s σ H _ I h) λ u s1 ⟨y,H1,I1,ry,q⟩=>thn (ha pins s1 σ H1 _ I1 q) λ ov s2 ⟨x,H2,I2,rx,a,C,dx,fs,ex,ea,c,n,l,q2⟩=>?_) hs
 subst ex
 obtain rfl:ov=Value.ref a:=rx
 exact qy I2 ea c n l ry λ s3 I3=>⟨σ,_,I3,q2⟩
end
section
variable {X:Cx}{pins:List (Addr×Obj)}{σ:St}{H:Hp}{s:Shared}{A:Around}{E:Value->Shared->Prop}{Q:Value->Shared->Prop}{c:Value}{b:Bool}
inductive iK (K:PySem.W.Frag) (H:Hp):V->Value->Prop where
 | non:iK K H .non (.type "NoneType")
 | bl (x:Bool):iK K H (.bl x) (.type "bool")
 | int (i:Int):iK K H (.int i) (.type "int")
 | str (x:Str):iK K H (.str x) (.type "str")
 | flt (x:UInt64):iK K H (.flt x) (.type "float")
 | lst {a:Addr}{xs:List V} (e:H a=some (.lst xs)):iK K H (.ref a) (.type "list")
 | frz {a:Addr}{o:Obj}{xs:List V} (e:H a=some (.frz o (.lst xs))):iK K H (.ref a) (.type "list")
 | tup {a:Addr}{xs:List V} (e:H a=some (.tup xs)):iK K H (.ref a) (.type "tuple")
 | dK {a:Addr}{kvs:List (Key×V)} (e:H a=some (.dK kvs)):iK K H (.ref a) (.type "dict")
 | dT {a:Addr}{kvs:List (List Key×V)} (e:H a=some (.dT kvs)):iK K H (.ref a) (.type "dict")
 | ins {a C dx:Addr}{fs:List (Str×V)} (e:H a=some (.ins C dx fs)) (cl:Cls K C) (ha:PySem.W.findIn K (.ref C) "__class__" = some (some (.builtin "object.__class__")))
   (hn:PySem.W.specialIn K (.builtin "object.__class__") "__get__" = some (some (.builtin "getset_descriptor.__get__"))) (htk:PySem.W.takesIn K (.builtin "object.__class__")=some true)
   (hm:PySem.W.mroIn K C (.type "object")=some true):iK K H (.ref a) (.ref C)
theorem vC {x:V}{u t:Value} (I:Inv X pins σ H s) (rx:bw x u) (ty:iK X.K H x t) (e:PySem.W.kitOne X.K t c=some b) (h:∀ tk,Q (.bool b) {s with toks:=tk}) :
  wpAny (model X.prog X.w) A (call (.builtin "isinstance") [u,c]) Q E s:=by
 cases ty with
 | non=>cases (show u=Value.none from rx);exact PySem.W.kia_one PySem.W.kitx_none I.kIn True.intro e (λ z=>nomatch z) h
 | bl y=>cases (show u=Value.bool y from rx);exact PySem.W.kia_one PySem.W.kitx_bool I.kIn True.intro e (λ z=>nomatch z) h
 | int i=>obtain⟨t,q⟩:=(show ∃ t,u=Value.int i t from rx);cases q;exact PySem.W.kia_one PySem.W.kitx_int I.kIn True.intro e (λ z=>nomatch z) h
 | str y=>obtain⟨t,q⟩:=(show ∃ t,u=Value.str y t from rx);cases q;exact PySem.W.kia_one PySem.W.kitx_str I.kIn True.intro e (λ z=>nomatch z) h
 | flt y=>obtain⟨t,q⟩:=(show ∃ t,u=Value.float y t from rx);cases q;exact PySem.W.kia_one PySem.W.kitx_float I.kIn True.intro e (λ z=>nomatch z) h
 | @lst a xs ea =>
  cases (show u=Value.ref a from rx)
  obtain⟨_,_,n,_,h1⟩:=(show bx X.prog X.w H s.heap a (.lst xs) from I.hok a _ ea)
  exact PySem.W.kia_one PySem.W.kitx_list I.kIn ⟨_,h1,rfl⟩ e (λ z=>nomatch z) h
 | @frz a ob xs ea =>
  cases (show u=Value.ref a from rx)
  obtain⟨_,_,_,n,_,h1⟩:=(show bx X.prog X.w H s.heap a (.frz ob (.lst xs)) from I.hok a _ ea)
  exact PySem.W.kia_one PySem.W.kitx_list I.kIn ⟨_,h1,rfl⟩ e (λ z=>nomatch z) h
 | @tup a xs ea =>
  cases (show u=Value.ref a from rx)
  obtain⟨_,_,_,p⟩:=(show bx X.prog X.w H s.heap a (.tup xs) from I.hok a _ ea)
  obtain⟨o,h1,h2,_⟩:=p
  exact PySem.W.kia_one PySem.W.kitx_tuple I.kIn ⟨o,h1,h2⟩ e (λ z=>nomatch z) h
 | @dK a kvs ea =>
  cases (show u=Value.ref a from rx)
  obtain⟨_,_,vs,_,p⟩:=(show bx X.prog X.w H s.heap a (.dK kvs) from I.hok a _ ea)
  obtain⟨o,es,ep,h1,h2,_⟩:=p
  exact PySem.W.kia_one PySem.W.kitx_dict I.kIn ⟨o,h1,h2.1⟩ e (λ z=>nomatch z) h
 | @dT a kvs ea =>
  cases (show u=Value.ref a from rx)
  obtain⟨_,_,xs,_,o,es,ep,h1,h2,_⟩:=(show bx X.prog X.w H s.heap a (.dT kvs) from I.hok a _ ea)
  exact PySem.W.kia_one PySem.W.kitx_dict I.kIn ⟨o,h1,h2.1⟩ e (λ z=>nomatch z) h
 | @ins a C dx fs ea cl ha hn htk hm =>
  cases (show u=Value.ref a from rx)
  obtain⟨mA,O,_⟩:=jQ I.hok ea
  obtain⟨od,J,_⟩:=O.look
  exact PySem.W.kia_one (PySem.W.kitx_own (cl.get _) cl.hd ha hn htk hm) I.kIn J e (λ z=>nomatch z) h
end
structure cF (k:Nat) (A:Around):Prop where
 hd:A.handled=none
 dp:A.depth+3*k+5<recursionLimit
 un:A.units+16*k+200<cLine
theorem cF.mono {j k:Nat}{A:Around} (r:cF k A) (h:j<=k):cF j A:=⟨r.hd,by have:=r.dp;omega,by have:=r.un;omega⟩
theorem cF.deeper {k:Nat}{A:Around} (r:cF (k+1) A) (env:Env):cF k (A.deeper env) :=
 ⟨r.hd,by have:=r.dp;show A.depth+1+3*k+5<_;omega,by have:=r.un;show A.units+3+16*k+200<_;omega⟩
theorem rG {A:Around}{C:Addr}{us:List Value}{kw:List (Str×Value)}:(A.under (.builtin "type.__call__" ⟨.ref C::us,kw⟩)).depth=A.depth+1:=by
 first | rfl | simp [Around.under,Code.weight,Code.isCreation,Code.isGuard,Code.isCaller,Code.frames,Code.isFrame,guardIds]
theorem rF {A:Around}{C:Addr}{us:List Value}{kw:List (Str×Value)}:(A.under (.builtin "type.__call__" ⟨.ref C::us,kw⟩)).units=A.units+1:=by
 first | rfl | simp [Around.under,Code.cUnits,Code.frames,Code.isFrame]
theorem cF.make {k:Nat}{A:Around} (r:cF (k+1) A) (C:Addr) (us:List Value) (kw:List (Str×Value)):cF k (A.under (.builtin "type.__call__" ⟨.ref C::us,kw⟩)) :=
 ⟨r.hd,by have:=r.dp;rw[rG];omega,by have:=r.un;rw[rF];omega⟩
theorem cF.depth {k:Nat}{A:Around} (r:cF k A):A.depth<recursionLimit:=by have:=r.dp;omega
theorem cF.units {k:Nat}{A:Around} (r:cF k A):A.units+64<cLine:=by have:=r.un;omega
def DM:TA:=λ _ H Q=>Q [] H
def CQ (ta:TE) (tr:TA):TA:=λ σ H Q=>ta σ H λ x H1=>tr σ H1 λ xs H2=>Q (x::xs) H2
section
variable {X:Cx}{e:Expr}{es:List Expr}{te:TE}{t:TA}{pos:Pos}
theorem af:PA X [] DM:=λ _ _ _ _ H Q I h=>Calls.spliced_nil ⟨[],H,I,.nil,h⟩
theorem ae (ha:PE X e te) (hr:PA X es t) (hs:starEach (e::es) X.env=(false,eval e X.env)::starEach es X.env:=by rfl):PA X (e::es) (CQ te t):=by
 intro pos pins s σ H Q I h
 rw[hs]
 show wpAny _ _ (spliced ((false,eval e X.env)::backTo pos (starEach es X.env))) _ _ s
 refine Calls.spliced_cons (thn (ha pins s σ H _ I h) λ u s1 ⟨x,H1,I1,r1,q1⟩=>?_)
 exact thn (hr pos pins s1 σ H1 _ I1 q1) λ us s2 ⟨xs,H2,I2,r2,q2⟩=>⟨x::xs,H2,I2,.cons r1 r2,q2⟩
def GX (t:TA):TE:=λ σ H Q=>t σ H λ xs H1=>xs.length<=sizeLine/\∀ p,H1 p=none->Q (.ref p) (upd H1 p (.tup xs))
def Hb (t:TA):TE:=λ σ H Q=>t σ H λ xs H1=>xs.length<=sizeLine/\∀ p,H1 p=none->Q (.ref p) (upd H1 p (.lst xs))
theorem aW {x1} (h:PA X es t):PE X (.Tuple es x1 pos) (GX t):=by
 intro pins s σ H Q I hq
 refine wpAny_Tuple_spliced (thn (h pos pins s σ H _ I hq) λ us s1 ⟨xs,H1,I1,r,z,q⟩=>⟨by rw[<-r.length];exact z,?_⟩)
 have hf:H1 s1.heap.objs.size=none:=I1.hok.fresh (Nat.le_refl _)
 refine⟨.ref s1.heap.objs.size,upd H1 s1.heap.objs.size (.tup xs),I1.laid (t':=s1.toks) (λ b u e=>Heap.get?_push_of_some _ e) (Nat.le_refl _) ?_,rfl,q _ hf⟩
 exact⟨z,us,r,⟨_,Heap.get?_push_size _ rfl,rfl,_,rfl⟩⟩
theorem bG (h:PA X es t):PE X (.List es pos) (Hb t):=by
 intro pins s σ H Q I hq
 refine wpAny_List_spliced (thn (h pos pins s σ H _ I hq) λ us s1 ⟨xs,H1,I1,r,z,q⟩=>⟨by rw[<-r.length];exact z,?_⟩)
 have hf:H1 s1.heap.objs.size=none:=I1.hok.fresh (Nat.le_refl _)
 refine⟨.ref s1.heap.objs.size,upd H1 s1.heap.objs.size (.lst xs),I1.laid (t':=s1.toks) (λ b u e=>Heap.get?_push_of_some _ e) (Nat.le_refl _) ?_,rfl,q _ hf⟩
 exact⟨z,us,0,r,Heap.get?_push_size _ rfl⟩
end
abbrev Sp:=List V->Hp->VK->XK->Prop
abbrev CXT:=List Env->Hp->Shared->XK->Value->Shared->Prop
structure sH (P:Program) (w:World) (K:PySem.W.Frag) (mg:Str->Option Value) (base:Heap) (A:Around) (outer:List Env) (s:Shared) (H:Hp):Prop where
 frames:A.frames=some outer
 mod:Mod K mg base
 bs:∀ b o,base.get? b=some o->s.heap.get? b=some o/\H b=none
 bsz:base.objs.size<=s.heap.objs.size
 funs:s.heap.FunFrames base outer
 frf:∀ b∈frs outer,H b=none
 hok:HOk P w H s.heap
 bare:AllBare s.gens
def CE (outer:List Env) (P:Program) (w:World) (H:Hp) (s:Shared) (Q:VK) (u:Value) (s':Shared):Prop :=
 ∃ v H',s'.os=s.os/\AllBare s'.gens/\Un (frs outer) [] H H' s.heap s'.heap/\HOk P w H' s'.heap/\bw v u/\Q v H'
def CR (CX:CXT) (outer:List Env) (P:Program) (w:World) (H:Hp) (s:Shared) (Q:VK) (E:XK) (r:Result) (s':Shared):Prop :=
 match r with
 | .ok (.ret u)=>CE outer P w H s Q u s'
 | .ok _=>False
 | .error e=>CX outer H s E e s'
structure aS (P:Program) (w:World) (K:PySem.W.Frag) (mg:Str->Option Value) (base:Heap) (CX:CXT) (k:Nat) (f:Addr) (fd:FuncData) (ps:List Str) (sp:Sp):Prop where
 len:∀ vs H Q E,sp vs H Q E->vs.length=ps.length
 run:∀ (A:Around) (outer:List Env) (s:Shared) (H:Hp) (args:Args) (us:List Value) (vs:List V) (Q:VK) (E:XK),cF k A->sH P w K mg base A outer s H->BindsTo s fd args (ps.zip us)->bg vs us->sp vs H Q E ->
  codeAny (model P w) A (.call (.ref f) args) (CR CX outer P w H s Q E) s
theorem aS.mono {P:Program}{w:World}{K:PySem.W.Frag}{mg:Str->Option Value}{base:Heap}{CX:CXT}{j k:Nat}{f:Addr}{fd:FuncData}{ps:List Str}{sp:Sp} (F:aS P w K mg base CX j f fd ps sp) (h:j<=k) :
  aS P w K mg base CX k f fd ps sp:=⟨F.len,λ A outer s H args us vs Q E hr=>F.run A outer s H args us vs Q E (hr.mono h)⟩
theorem aS.imp {P:Program}{w:World}{K:PySem.W.Frag}{mg:Str->Option Value}{base:Heap}{CX:CXT}{k:Nat}{f:Addr}{fd:FuncData}{ps:List Str}{sp sp':Sp} (F:aS P w K mg base CX k f fd ps sp)
  (h:∀ vs H Q E,sp' vs H Q E->sp vs H Q E):aS P w K mg base CX k f fd ps sp' :=
 ⟨λ vs H Q E q=>F.len vs H Q E (h _ _ _ _ q),λ A outer s H args us vs Q E hr he hb hv hs=>F.run A outer s H args us vs Q E hr he hb hv (h _ _ _ _ hs)⟩
theorem sH.make {P:Program}{w:World}{K:PySem.W.Frag}{mg:Str->Option Value}{base:Heap}{A:Around}{outer:List Env}{s:Shared}{H:Hp} (e:sH P w K mg base A outer s H) (C:Addr) (us:List Value) (kw:List (Str×Value)) :
  sH P w K mg base (A.under (.builtin "type.__call__" ⟨.ref C::us,kw⟩)) outer s H:=⟨by first | exact e.frames | (simpa [Around.under,Code.envs,Code.isFrame,pushEnvs] using e.frames),e.mod,e.bs,e.bsz,e.funs,e.frf,e.hok,e.bare⟩
section
variable {X:Cx}{pins:List (Addr×Obj)}{σ:St}{H:Hp}{s s':Shared}
theorem Inv.env0 (I:Inv X pins σ H s):sH X.prog X.w X.K X.mg X.base X.A X.stack s H :=
 ⟨I.ok.frames,I.ok.mod,I.bs,Nat.le_trans I.ok.bsz I.sz,I.stack,I.stkFree,I.hok,I.bare⟩
theorem Inv.after {Q:VK}{u:Value} (I:Inv X pins σ H s) (h:CE X.stack X.prog X.w H s Q u s'):EP X pins σ Q u s':=by
 obtain⟨v,H',os,bare,un,hok,r,q⟩:=h
 obtain⟨hh,g,d,t,os'⟩:=s'
 obtain rfl:os'=s.os:=os
 exact⟨v,H',I.call (h':=hh) (g':=g) (d':=d) (t':=t) (ch:=[]) un hok bare (λ b z=>absurd z (by simp)),r,q⟩
end
def CT (sp:Sp) (dvs:List V) (E:XK) (t:TA):TE:=λ σ H Q=>t σ H λ vs H1=>sp (vs++dvs) H1 Q E
def FV (C:Addr) (m:Str) (sp:Sp) (dvs:List V) (E:XK) (ta:TE) (t:TA):TE:=λ σ H Q=>ta σ H λ x H1=>∃ a dx fs,x=.ref a/\H1 a=some (.ins C dx fs)/\fs.lookup m=none /\
 t σ H1 λ vs H2=>sp (x::(vs++dvs)) H2 Q E
def FW (C:Addr) (sp:Sp) (dvs:List V) (E:XK) (t:TA):TE:=λ σ H Q=>t σ H λ vs H1=>∀ x dx,H1 x=none->H1 dx=none->dx≠x ->
 sp (.ref x::(vs++dvs)) (upd (upd H1 dx (.own x)) x (.ins C dx [])) (λ v H2=>v=.non/\Q (.ref x) H2) E
def bS (K:PySem.W.Frag) (fd:FuncData) (ps:List Str) (ds:List Value):Prop :=
 ∀ (s:Shared) (us:List Value),K.In s.heap->(us++ds).length=ps.length->BindsTo s fd ⟨us,[]⟩ (ps.zip (us++ds))
theorem bS.all {K:PySem.W.Frag}{fd:FuncData}{ps:List Str} (h:∀ us:List Value,us.length=ps.length->bindArgs fd ⟨us,[]⟩=pure (ps.zip us)):bS K fd ps []:=λ s us _ hl=>by
 rw[List.append_nil] at hl ⊢
 exact .of_eq (h us hl)
def cG (CX:CXT) (X:Cx) (E:XK):Prop:=∀ (pins:List (Addr×Obj)) (σ:St) (H:Hp) (s:Shared) (e:Value) (s':Shared),Inv X pins σ H s->CX X.stack H s E e s'->X.xe e s'
section
variable {X:Cx}{CX:CXT}{k:Nat}{f C:Addr}{fd:FuncData}{ps:List Str}{sp:Sp}{dvs:List V}{ds:List Value}{E:XK}{x m:Str}{p pos apos:Pos}{e o:Expr}{es:List Expr}{ta:TE}{t:TA}
theorem re {pins:List (Addr×Obj)}{σ:St}{H:Hp}{s:Shared}{Q:VK}{us:List Value}{vs:List V} (F:aS X.prog X.w X.K X.mg X.base CX k f fd ps sp) (hr:cF k X.A) (hb:bS X.K fd ps ds) (hd:bg dvs ds) (hx:cG CX X E)
  (I:Inv X pins σ H s) (r:bg vs us) (h:sp (vs++dvs) H Q E):wpAny (model X.prog X.w) X.A (call (.ref f) us) (EP X pins σ Q) X.xe s:=by
 have r2:bg (vs++dvs) (us++ds):=r.append hd
 have hl:(us++ds).length=ps.length:=by rw[<-r2.length];exact F.len _ _ _ _ h
 refine wpAny_call (codeAny_mono (F.run X.A X.stack s H ⟨us,[]⟩ (us++ds) (vs++dvs) Q E hr I.env0 (hb s us I.kIn hl) r2 h) λ r s' hq=>?_)
 cases r with
 | error e=>exact hx pins σ H s e s' I hq
 | ok fl =>
  cases fl with
  | ret u=>exact I.after hq
  | next=>exact False.elim hq
  | brk=>exact False.elim hq
  | cont=>exact False.elim hq
theorem jM (F:aS X.prog X.w X.K X.mg X.base CX k f fd ps sp) (hr:cF k X.A) (hg:Gl X x) (hm:X.mg x=some (.ref f)) (hk:PySem.W.keepIn X.K (.ref f)=true) (hb:bS X.K fd ps ds) (hd:bg dvs ds) (hx:cG CX X E)
  (ha:PA X (e::es) t) (hdb:(x == ("__debug__":Str))=false:=by decide) (he:starEach (e::es) X.env=(false,eval e X.env)::starEach es X.env:=by rfl) (hpl:(backTo pos (starEach es X.env)).any (·.1)=false:=by rfl) :
  PE X (.Call (.Name x p) (e::es) [] pos) (CT sp dvs E t):=by
 intro pins s σ H Q I h
 refine wpAny_Call_Name_kw (dl I hg hm ?_ hdb)
 refine PySem.W.callWith_K (h₀:=X.base) I.ok.mod.kin hk (thn (ha pos pins s σ H _ I h) λ us s1 ⟨vs,H1,I1,r,q⟩=>⟨I1.kIn,?_⟩) he hpl
 exact re F hr hb hd hx I1 r q
theorem fD {pl:Sem Bool} (he:PE X o ta) (c:Cls X.K C) (hm:qh X.K C m f) (F:aS X.prog X.w X.K X.mg X.base CX k f fd ps sp) (hr:cF k X.A) (hb:bS X.K fd ps ds) (hd:bg dvs ds) (hx:cG CX X E) (ha:PA X (e::es) t)
  (hst:starEach (e::es) X.env=(false,eval e X.env)::starEach es X.env:=by rfl) (hpl:(backTo pos (starEach es X.env)).any (·.1)=false:=by rfl)
  (ht:eval (.Call (.Attribute o m apos) (e::es) [] pos) X.env=(do
   let ov <-eval o X.env
   standAt apos.atName
   let (f,first) <-holding [ov] (getMethod ov m pl)
   callWith pos f first (backTo pos (starEach (e::es) X.env)) (backToKw pos (keywordEach [] X.env))):=by rfl) :
  PE X (.Call (.Attribute o m apos) (e::es) [] pos) (FV C m sp dvs E ta t):=by
 intro pins s σ H Q I h
 refine PySem.W.methodCall_KW (pl:=pl) (thn (he pins s σ H _ I h) λ u s1 ⟨x,H1,I1,rx,a,dx,fs,ex,ea,l,q⟩=>?_) ht
 subst ex
 obtain rfl:u=Value.ref a:=rx
 refine kS I1 ea c hm l ?_
 refine PySem.W.callWith_K (first:=[.ref a]) (h₀:=X.base) I.ok.mod.kin hm.kp (thn (ha pos pins s1 σ H1 _ I1 q) λ us s2 ⟨vs,H2,I2,r,q2⟩=>⟨I2.kIn,?_⟩) hst hpl
 exact re (us:=.ref a::us) (vs:=.ref a::vs) F hr hb hd hx I2 (.cons rfl r) q2
structure Mk (K:PySem.W.Frag) (C f:Addr):Prop where
 makes:PySem.W.makesIn K C=true
 init:PySem.W.findIn K (.ref C) "__init__" = some (some (.ref f))
 fn:PySem.W.isFn K (.ref f)=true
 kp:PySem.W.keepIn K (.ref C)=true
theorem x6 {pins:List (Addr×Obj)}{σ:St}{H:Hp}{s:Shared}{Q:VK}{us:List Value}{vs:List V} (M:Mk X.K C f) (F:aS X.prog X.w X.K X.mg X.base CX k f fd ps sp) (hr:cF (k+1) X.A) (hb:bS X.K fd ps ds) (hd:bg dvs ds)
  (hx:cG CX X E) (I:Inv X pins σ H s) (r:bg vs us)
  (h:∀ x dx,H x=none->H dx=none->dx≠x->sp (.ref x::(vs++dvs)) (upd (upd H dx (.own x)) x (.ins C dx [])) (λ v H2=>v=.non/\Q (.ref x) H2) E) :
  wpAny (model X.prog X.w) X.A (call (.ref C) us) (EP X pins σ Q) X.xe s:=by
 have hq:=h (s.heap.objs.size+1) s.heap.objs.size (I.hok.fresh (Nat.le_succ _)) (I.hok.fresh (Nat.le_refl _)) (Nat.ne_of_lt (Nat.lt_succ_self _))
 have I2:=Inv.made (C:=C) I
 have r2:bg (V.ref (s.heap.objs.size+1)::(vs++dvs)) (Value.ref (s.heap.objs.size+1)::(us++ds)):=.cons rfl (r.append hd)
 have hl:(Value.ref (s.heap.objs.size+1)::us++ds).length=ps.length:=by
  have e:=r2.length
  rw[F.len _ _ _ _ hq] at e
  exact e.symm
 refine wpAny_call (yU (f:=f) I.kIn M.makes M.init (beq_iff_eq.mp M.fn) (codeAny_mono (F.run _ X.stack _ _ ⟨Value.ref (s.heap.objs.size+1)::us,[]⟩ (Value.ref (s.heap.objs.size+1)::(us++ds)) _ _ E (hr.make C us [])
  (I2.env0.make C us []) (hb _ (Value.ref (s.heap.objs.size+1)::us) I2.kIn hl) r2 hq) λ r s' hq'=>?_))
 cases r with
 | error e=>exact hx pins σ _ _ e s' I2 hq'
 | ok fl =>
  cases fl with
  | ret u =>
   obtain⟨v,H',I3,rv,ev,q3⟩:=I2.after hq'
   subst ev
   exact⟨rv,⟨V.ref (s.heap.objs.size+1),H',I3,rfl,q3⟩⟩
  | next=>exact False.elim hq'
  | brk=>exact False.elim hq'
  | cont=>exact False.elim hq'
theorem yn (M:Mk X.K C f) (F:aS X.prog X.w X.K X.mg X.base CX k f fd ps sp) (hr:cF (k+1) X.A) (hg:Gl X x) (hm:X.mg x=some (.ref C)) (hb:bS X.K fd ps ds) (hd:bg dvs ds) (hx:cG CX X E)
  (hdb:(x == ("__debug__":Str))=false:=by decide):PE X (.Call (.Name x p) [] [] pos) (FW C sp dvs E DM):=by
 intro pins s σ H Q I h
 refine wpAny_Call_Name_kw (dl I hg hm ?_ hdb)
 exact PySem.W.callWith_K0 I.kIn M.kp (x6 (us:=[]) M F hr hb hd hx I .nil h)
end
structure aG (N P:List Str) (sc:Scope):Prop where
 kind:sc.kind=.function
 co:sc.isCoroutine=false
 gen:sc.isGenerator=false
 nd:N.Nodup
 pre:N.take P.length=P
 par:∀ x∈P,sc.names.lookup x=some .local∨sc.names.lookup x=some .cell
 nofree:∀ y∈sc.names,y.2≠.free
theorem mF {kindOf:Str->Option NameKind}{x:Str}:∀ {binds:List (Str×Value)}{m:Str->Option Value},(∀ v,(x,v) ∉ binds)->bindL kindOf binds m x=m x
 | [],_,_=>rfl
 | (n,v)::r,m,h=>by
  unfold bindL
  rw[mF λ w hw=>h w (List.mem_cons_of_mem _ hw)]
  split
  ·have:x≠n:=by rintro rfl;exact h v List.mem_cons_self
   simp [this]
  ·rfl
theorem mH {kindOf:Str->Option NameKind}{x:Str}:∀ {binds:List (Str×Value)}{m:Str->Option Value},(∀ v,(x,v) ∉ binds)->bindC kindOf binds m x=m x
 | [],_,_=>rfl
 | (n,v)::r,m,h=>by
  unfold bindC
  rw[mH λ w hw=>h w (List.mem_cons_of_mem _ hw)]
  split
  ·rfl
  ·have:x≠n:=by rintro rfl;exact h v List.mem_cons_self
   simp [this]
theorem mG {kindOf:Str->Option NameKind}{x:Str}{v:Value}:∀ {P:List Str}{vs:List Value}{i:Nat}{m:Str->Option Value},P.Nodup->P[i]? = some x->vs[i]? = some v->kindOf x=some .local ->
  bindL kindOf (P.zip vs) m x=some v
 | [],_,_,_,_,h,_,_=>by simp at h
 | _::_,[],_,_,_,_,h,_=>by simp at h
 | p::P,w::vs,0,m,nd,h1,h2,hk=>by
  simp at h1 h2;subst h1;subst h2
  show bindL kindOf ((p,w)::P.zip vs) m p=_
  unfold bindL
  rw[mF λ v hv=>(List.nodup_cons.mp nd).1 (List.of_mem_zip hv).1,if_pos hk]
  simp
 | p::P,w::vs,i+1,m,nd,h1,h2,hk=>by
  show bindL kindOf ((p,w)::P.zip vs) m x=_
  unfold bindL
  exact mG (i:=i) (List.nodup_cons.mp nd).2 (by simpa using h1) (by simpa using h2) hk
theorem mI {kindOf:Str->Option NameKind}{x:Str}{v:Value}:∀ {P:List Str}{vs:List Value}{i:Nat}{m:Str->Option Value},P.Nodup->P[i]? = some x->vs[i]? = some v->kindOf x≠some .local ->
  bindC kindOf (P.zip vs) m x=some v
 | [],_,_,_,_,h,_,_=>by simp at h
 | _::_,[],_,_,_,_,h,_=>by simp at h
 | p::P,w::vs,0,m,nd,h1,h2,hk=>by
  simp at h1 h2;subst h1;subst h2
  show bindC kindOf ((p,w)::P.zip vs) m p=_
  unfold bindC
  rw[mH λ v hv=>(List.nodup_cons.mp nd).1 (List.of_mem_zip hv).1,if_neg hk]
  simp
 | p::P,w::vs,i+1,m,nd,h1,h2,hk=>by
  show bindC kindOf ((p,w)::P.zip vs) m x=_
  unfold bindC
  exact mI (i:=i) (List.nodup_cons.mp nd).2 (by simpa using h1) (by simpa using h2) hk
def eC (N:List Str) (vs:List V):St:=vs.map some++List.replicate (N.length-vs.length) none
noncomputable def i6 (CX:CXT) (P:Program) (w:World) (K:PySem.W.Frag) (mg:Str->Option Value) (base:Heap) (N:List Str) (qual:Str) (scope:Scope) (f:Addr) (cd:Value) (A:Around) (outer:List Env) (s:Shared) (H:Hp) (E:XK):Cx where
 prog:=P
 w:=w
 K:=K
 mg:=mg
 base:=base
 A:=A.deeper (envOfC qual scope s.heap.objs.size f cd)
 N:=N
 s₀:=s
 H₀:=H
 env:=envOfC qual scope s.heap.objs.size f cd
 outer:=outer
 stack:=envOfC qual scope s.heap.objs.size f cd::outer
 ex:=[]
 calm:=true
 fn:=λ _=>true
 pn:=[]
 xe:=λ e s'=>wpAny (model P w) (A.deeper (envOfC qual scope s.heap.objs.size f cd)) (leaving (envOfC qual scope s.heap.objs.size f cd) e) (λ _ s''=>CX outer H s E e s'') (λ e' s''=>CX outer H s E e' s'') s'
theorem qa {sc:Scope}{n:Nat}{x:Str} (h:sc.names.lookup x=some .cell):∃ c,(cellsFrom n sc.names []).lookup x=some c:=by
 have q:=PySem.W.cellsFrom_some sc.names n [] (.inl h)
 exact Option.isSome_iff_exists.mp q
theorem vE {CX:CXT}{P:Program}{w:World}{K:PySem.W.Frag}{mg:Str->Option Value}{base:Heap}{N ps:List Str}{qual:Str}{scope:Scope}{f:Addr}{cd:Value}{A:Around}{outer:List Env}{s s1:Shared}{H:Hp}{E:XK}{us:List Value}{vs:List V}
  (S:aG N ps scope) (hd:A.handled=none) (e0:sH P w K mg base A outer s H) (hl:vs.length=ps.length) (r:bg vs us)
  (x:InCallC s s.heap.objs.size (bindL (envOfC qual scope s.heap.objs.size f cd).kindOf (ps.zip us) λ _=>none) (cellsFrom (s.heap.objs.size+1) scope.names []) (bindC (envOfC qual scope s.heap.objs.size f cd).kindOf (ps.zip us) λ _=>none) s1) :
  Inv (i6 CX P w K mg base N qual scope f cd A outer s H E) [] (eC N vs) H s1:=by
 have hpl:ps.length<=N.length:=by have:=congrArg List.length S.pre;rw[List.length_take] at this;omega
 obtain⟨h1,tk,rfl,hk⟩:=x.done
 have noA:∀ b:Addr,b ∉ (i6 CX P w K mg base N qual scope f cd A outer s H E).ex:=λ b z=>absurd (show b∈([]:List Addr) from z) (by simp)
 refine⟨⟨e0.mod,S.kind,rfl,rfl,Nat.le_refl _,λ y z c h1 h2=>?_,λ y hy=>?_,λ y c _ h=>?_,λ _=>hd,Around.frames_deeper e0.frames,.inr ⟨rfl,rfl⟩,λ b z=>absurd z (noA b),e0.bs,e0.bsz,λ b _ _=>noA b,λ b z=>absurd z (noA b),e0.funs,e0.frf⟩,
  rfl,e0.bare,Un.kept hk,⟨_,x.toInCall.ns,λ i y v h1 h2 h3=>?_⟩,λ y c h=>⟨_,x.cell y c h⟩,e0.hok.fresh (Nat.le_refl _),λ y c h=>?_,λ p hp=>absurd (show p∈([]:List (Addr×Obj)) from hp) (by simp),e0.hok.kept hk,?_⟩
 ·exact name_of_addr x.apart (PySem.mem_of_lookup h1) (PySem.mem_of_lookup h2)
 ·have hy:scope.names.lookup y=some .cell∨scope.names.lookup y=some .free:=hy
  rcases hy with hy | hy
  ·exact qa hy
  ·exact absurd rfl (S.nofree _ (PySem.mem_of_lookup hy))
 ·exact Nat.le_of_lt (x.above y c (PySem.mem_of_lookup h))
 ·have hi:i<vs.length:=by
   unfold eC at h2
   by_cases hi:i<vs.length
   ·exact hi
   ·rw[List.getElem?_append_right (by simpa using hi)] at h2
    rw[List.getElem?_replicate] at h2
    split at h2<;>cases h2
  have ha:vs[i]? = some v:=by
   unfold eC at h2
   rw[List.getElem?_append_left (by simpa using hi),List.getElem?_map] at h2
   cases e:vs[i]? with
   | none=>rw[e] at h2;cases h2
   | some a=>rw[e] at h2;cases h2;rfl
  obtain⟨u,hu,rv⟩:=r.get ha
  have hp:ps[i]? = some y:=by
   rw[<-S.pre,List.getElem?_take_of_lt (by omega)];exact h1
  have ndP:ps.Nodup:=by rw[<-S.pre];exact S.nd.sublist (List.take_sublist _ _)
  refine⟨u,rv,?_⟩
  rcases S.par y (List.mem_of_getElem? hp) with k | k
  ·exact .inl ⟨k,mG ndP hp hu k⟩
  ·obtain⟨c,e⟩:=qa (n:=s.heap.objs.size+1) k
   refine .inr ⟨.inl k,c,e,?_⟩
   have q:=x.cell y c e
   rw[mI ndP hp hu (by show scope.names.lookup y≠_;rw[k];decide)] at q
   exact q
 ·exact e0.hok.fresh (Nat.le_of_lt (x.above y c (PySem.mem_of_lookup h)))
 ·unfold eC
  show _=N.length
  rw[List.length_append,List.length_map,List.length_replicate]
  omega
theorem Dw {CX:CXT}{P:Program}{w:World}{K:PySem.W.Frag}{mg:Str->Option Value}{base:Heap}{k:Nat}{f:Addr}{name qual:Str}{params:Arguments}{body:List Stmt}{scope:Scope}{dV kV doc pm cdv ct oc:Value}{an od:Option Addr}
  {osl:Array (Option Value)}{N ps:List Str}{sp:Sp} (lk:K.lookup f=some ⟨oc,od,.func (PySem.W.fnOf name qual params body scope dV kV doc pm an cdv ct),osl⟩) (hcd:PySem.W.codeIn K cdv qual=true) (S:aG N ps scope)
  (len:∀ vs H Q E,sp vs H Q E->vs.length=ps.length)
  (hbody:∀ (A:Around) (outer:List Env) (s:Shared) (H:Hp) (vs:List V) (Q:VK) (E:XK),cF k (A.deeper (envOfC qual scope s.heap.objs.size f cdv))->sp vs H Q E ->
   ∃ t,PSs (i6 CX P w K mg base N qual scope f cdv A outer s H E) body t/\t {nx:=λ _ H'=>Q .non H',rt:=Q} (eC N vs) H) :
  aS P w K mg base CX (k+1) f (PySem.W.fnOf name qual params body scope dV kV doc pm an cdv ct) ps sp:=by
 refine⟨len,λ A outer s H args us vs Q E hr e0 hb r hsp=>?_⟩
 have hl:=len _ _ _ _ hsp
 have KX:K.In s.heap:=e0.mod.kin.keeps λ b o e=>(e0.bs b o e).1
 have lim:s.heap.NoLimit:=e0.mod.nolimit.keeps λ b o e=>(e0.bs b o e).1
 have hkind:∀ y∈ps.zip us,scope.names.lookup y.1=some .local∨(scope.names.lookup y.1=some .cell/\((cellsFrom (s.heap.objs.size+1) scope.names []).lookup y.1).isSome=true):=λ ⟨n,v⟩ hy=>by
  rcases S.par n (List.of_mem_zip hy).1 with q | q
  ·exact .inl q
  ·exact .inr ⟨q,PySem.W.cellsFrom_some _ _ _ (.inl q)⟩
 refine codeAny_call_function hr.depth (KX _ _ lk) rfl S.co S.gen rfl (PySem.W.codeRec_of KX hcd) (hb _ _ _ _ ?_)
 refine wpAny_newFunctionEnv_cells S.kind hkind λ env he s1 x=>?_
 subst he
 refine⟨lim.keeps x.toInCall.keep,codeAny_func ?_⟩
 obtain⟨t,ht,hq⟩:=hbody A outer s H vs Q E (hr.deeper _) hsp
 have I:Inv (i6 CX P w K mg base N qual scope f cdv A outer s H E) [] (eC N vs) H s1:=vE S hr.hd e0 hl r x
 refine wpAny_mono (ht [] s1 (eC N vs) H _ I hq) (λ fl s' hs=>?_) λ e s' hs=>hs
 have fin:∀ {σ':St}{H':Hp}{v:V}{u:Value},Inv (i6 CX P w K mg base N qual scope f cdv A outer s H E) [] σ' H' s'->bw v u->Q v H'->CE outer P w H s Q u s' :=
  λ {σ' H' v u} J rv q=>⟨v,H',J.os,J.bare,J.base,J.hok,rv,q⟩
 cases fl with
 | ret u =>
  obtain⟨v,σ',H',J,rv,q⟩:=hs
  exact fin J rv q
 | next =>
  obtain⟨σ',H',J,q⟩:=hs
  exact fin (v:=V.non) (u:=Value.none) J rfl q
 | brk =>
  obtain⟨_,_,_,q⟩:=hs
  exact False.elim q
 | cont =>
  obtain⟨_,_,_,q⟩:=hs
  exact False.elim q
section
variable {X:Cx}{x:Str}{p pos:Pos}{e:Expr}{es:List Expr}{t:TA}{id T:String}{r:List V->Hp->VK->Prop}
def tCB (r:List V->Hp->VK->Prop) (t:TA):TE:=λ σ H Q=>t σ H λ vs H1=>r vs H1 Q
theorem aT (hc:dJ X (.builtin id) r) (hg:Gl X x) (hm:X.mg x=none) (hv:bootBuiltins x=some (.builtin id)) (ha:PA X (e::es) t) (hn:x≠"__name__":=by decide) (hdb:(x == ("__debug__":Str))=false:=by decide)
  (he:starEach (e::es) X.env=(false,eval e X.env)::starEach es X.env:=by rfl) (hpl:(backTo pos (starEach es X.env)).any (·.1)=false:=by rfl):PE X (.Call (.Name x p) (e::es) [] pos) (tCB r t):=by
 intro pins s σ H Q I h
 refine wpAny_Call_Name_kw (fU I hg hm hv ?_ hn hdb)
 exact PyProof.Rows.callWith_builtin1 (thn (ha pos pins s σ H _ I h) λ us s1 ⟨vs,H1,I1,r1,q1⟩=>hc pins s1 σ H1 vs us Q I1 r1 q1) he hpl
theorem bT (hc:dJ X (.type T) r) (hg:Gl X x) (hm:X.mg x=none) (hv:bootBuiltins x=some (.type T)) (ha:PA X (e::es) t) (hn:x≠"__name__":=by decide) (hdb:(x == ("__debug__":Str))=false:=by decide)
  (he:starEach (e::es) X.env=(false,eval e X.env)::starEach es X.env:=by rfl) (hpl:(backTo pos (starEach es X.env)).any (·.1)=false:=by rfl):PE X (.Call (.Name x p) (e::es) [] pos) (tCB r t):=by
 intro pins s σ H Q I h
 refine wpAny_Call_Name_kw (fU I hg hm hv ?_ hn hdb)
 exact PyProof.Rows.callWith_type1 (thn (ha pos pins s σ H _ I h) λ us s1 ⟨vs,H1,I1,r1,q1⟩=>hc pins s1 σ H1 vs us Q I1 r1 q1) he hpl
end
end L2
namespace HT
open PySem PyProof.Rows
section
variable {prog:Program}{w:World}{A:Around}{E:Value->Shared->Prop}{s:Shared}
def sIx (n d:Nat):Option Int->Nat
 | none=>d
 | some v=>if v<0 then (v+(n:Int)).toNat else min v.toNat n
theorem oW (n d:Nat):sIx n d none=d:=rfl
theorem nv (n d k:Nat):sIx n d (some (k:Int))=min k n:=by
 show (if (k:Int)<0 then ((k:Int)+(n:Int)).toNat else min (k:Int).toNat n)=min k n
 rw[if_neg (by omega),Int.toNat_natCast]
theorem Ej (n d:Nat) (hd:d<=n) (o:Option Int):sIx n d o<=n:=by
 cases o with
 | none=>exact hd
 | some v =>
  show (if v<0 then (v+(n:Int)).toNat else min v.toNat n)<=n
  by_cases hv:v<0
  ·rw[if_pos hv];omega
  ·rw[if_neg hv];exact Nat.min_le_right _ _
theorem uu (v:Int) (n d:Nat):(if v<0 then max (v+(n:Int)) 0 else min v (n:Int))=((sIx n d (some v):Nat):Int):=by
 show (if v<0 then max (v+(n:Int)) 0 else min v (n:Int))=(((if v<0 then (v+(n:Int)).toNat else min v.toNat n):Nat):Int)
 by_cases hv:v<0
 ·simp only[if_pos hv];omega
 ·simp only[if_neg hv];omega
theorem sB (lo hi:Option Int) (n:Nat):Builtin.Slice.sliceAdjust lo hi 1 (n:Int)=(((sIx n 0 lo:Nat):Int),((sIx n n hi:Nat):Int)):=by
 have h1:¬ ((1:Int)<0):=by omega
 unfold Builtin.Slice.sliceAdjust
 simp only[h1,if_false]
 refine Prod.ext ?_ ?_
 ·cases lo with
  | none=>rfl
  | some v=>exact uu v n 0
 ·cases hi with
  | none=>rfl
  | some v=>exact uu v n n
theorem ri (i j:Nat):Builtin.Slice.slicePlaces (i:Int) (j:Int) 1=j-i:=by
 unfold Builtin.Slice.slicePlaces
 have h1:(1:Int)>0:=by omega
 simp only[h1,if_true,Int.ediv_one]
 split<;>omega
theorem kf {v:Value}{o:Option Int}{Q:Option Int->Shared->Prop} (p:IsPart v o) (h:Q o s):wpAny (model prog w) A (Builtin.Slice.slicePartIndex v) Q E s:=by
 cases p with
 | none=>exact slicePart_none h
 | int i t=>exact slicePart_int h
theorem iP {sl:Addr}{vl vu:Value}{lo hi:Option Int}{n:Nat}{Q:Int×Int×Nat->Shared->Prop} (hs:s.heap.IsSliceOf sl vl vu .none) (pl:IsPart vl lo) (pu:IsPart vu hi)
  (h:Q (((sIx n 0 lo:Nat):Int),1,sIx n n hi-sIx n 0 lo) s):wpAny (model prog w) A (Builtin.Slice.sliceApplied (.ref sl) (pure (n:Int))) Q E s:=by
 obtain⟨os,hos,hcs,hds⟩:=id hs
 unfold Builtin.Slice.sliceApplied Builtin.Slice.sliceFields
 refine wpAny_bind (wpAny_bind (wpAny_field hos hds (x:=vl) rfl (wpAny_bind (wpAny_field hos hds (x:=vu) rfl (wpAny_bind (wpAny_field hos hds (x:=.none) rfl (wpAny_pure ?_)))))))
 refine wpAny_bind (slicePart_none ?_)
 show wpAny _ _ (if ((1:Int) == 0)=true then _ else _) _ _ s
 rw[if_neg (by decide)]
 refine wpAny_bind (kf pl (wpAny_bind (kf pu (wpAny_bind (wpAny_pure ?_)))))
 show wpAny _ _ (match Builtin.Slice.sliceAdjust lo hi 1 (n:Int) with | (lo,hi)=>pure (lo,(1:Int),Builtin.Slice.slicePlaces lo hi 1)) _ _ s
 rw[sB lo hi n]
 show wpAny _ _ (pure (((sIx n 0 lo:Nat):Int),(1:Int),Builtin.Slice.slicePlaces ((sIx n 0 lo:Nat):Int) ((sIx n n hi:Nat):Int) 1)) _ _ s
 rw[ri]
 exact wpAny_pure h
theorem yg (xs:Array Value) (i k:Nat):((List.range k).filterMap λ (m:Nat)=>xs[((i:Int)+(m:Int)*1).toNat]?).toArray=((xs.toList.drop i).take k).toArray:=by
 have e:(λ (m:Nat)=>xs[((i:Int)+(m:Int)*1).toNat]?)=λ m=>xs[i+m]?:=by
  funext m
  have:((i:Int)+(m:Int)*1).toNat=i+m:=by omega
  rw[this]
 rw[e]
 have:=pick_run xs i k
 rw[List.filterMap_map] at this
 have e2:((λ x=>xs[x]?) ∘ λ x=>i+x)=λ m=>xs[i+m]?:=rfl
 rw[e2] at this
 rw[this]
theorem iD {t sl:Addr}{items:Array Value}{vl vu:Value}{lo hi:Option Int}{Q:Value->Shared->Prop} (ht:IsTup s.heap t items) (hs:s.heap.IsSliceOf sl vl vu .none) (pl:IsPart vl lo) (pu:IsPart vu hi)
  (hw:¬ (sIx items.size 0 lo=0/\sIx items.size items.size hi=items.size))
  (h:Q (.ref s.heap.objs.size) {s with heap:=s.heap.push {cls:=.type "tuple",data:=.seq ((items.toList.drop (sIx items.size 0 lo)).take (sIx items.size items.size hi-sIx items.size 0 lo)).toArray}})
  (hsz:items.size<=sizeLine):wpAny (model prog w) A (getItem (.ref t) (.ref sl)) Q E s:=by
 have htake:sizeOk (.seq ((items.toList.drop (sIx items.size 0 lo)).take (sIx items.size items.size hi-sIx items.size 0 lo)).toArray):=by
  show ((items.toList.drop (sIx items.size 0 lo)).take (sIx items.size items.size hi-sIx items.size 0 lo)).toArray.size<=sizeLine
  rw[List.size_toArray,List.length_take,List.length_drop,Array.length_toList]
  omega
 have hj:sIx items.size items.size hi<=items.size:=Ej _ _ (Nat.le_refl _) hi
 obtain⟨os,hos,hcs,hds⟩:=id hs
 have hTs:s.TypeIs (.ref sl) "slice":=⟨os,hos,hcs⟩
 unfold getItem
 try with_reducible refine wpAny_holding ?_
 first | refine wpAny_bind (wpAny_pure ?_) | skip
 refine wpAny_bind (wpAny_sequenceKey ht.typeIs (by decide) ?_)
 refine wpAny_bind (wpAny_callSpecial?_slot (name:=Str.ofString "__getitem__") ht.typeIs PyProof.Rows.slot_tuple_getitem
  (wpAny_call_entry PyProof.Rows.slot_tuple_getitem ht.typeIs entry_tuple_getitem ?_ (args_tuple_getitem _ _)))
 show wpAny _ _ (Builtin.Tuple.tupleItemsOf (.ref t) >>= _) _ _ s
 refine wpAny_bind (tupleItemsOf_ ht ?_)
 refine wpAny_bind (wpAny_typeOf hTs ?_)
 rw[if_pos (by decide)]
 refine wpAny_bind (iP hs pl pu ?_)
 have hno:¬ ((((sIx items.size 0 lo:Nat):Int) == 0 && (1:Int) == 1 && (sIx items.size items.size hi-sIx items.size 0 lo) == items.size)=true):=by
  intro q
  rw[Bool.and_eq_true,Bool.and_eq_true] at q
  have q1:((sIx items.size 0 lo:Nat):Int)=0:=eq_of_beq q.1.1
  have q2:sIx items.size items.size hi-sIx items.size 0 lo=items.size:=eq_of_beq q.2
  exact hw ⟨by omega,by omega⟩
 show wpAny _ _ (if (((sIx items.size 0 lo:Nat):Int) == 0 && (1:Int) == 1 && (sIx items.size items.size hi-sIx items.size 0 lo) == items.size)=true then _ else _) _ _ s
 rw[if_neg hno,yg]
 first
  | exact wpAny_bind (m:=Builtin.Tuple.tupleExact _) (wpAny_newObj_type (wpAny_pure ⟨_,rfl,wpAny_pure h⟩) htake)
  | exact wpAny_bind (m:=Builtin.Tuple.tupleExact _) (wpAny_newObj_type (wpAny_bind (wpAny_pure (wpAny_pure ⟨_,rfl,wpAny_pure h⟩))) htake)
  | exact wpAny_bind (wpAny_bind (m:=Builtin.Tuple.tupleExact _) (wpAny_newObj_type (wpAny_pure (wpAny_pure ⟨_,rfl,wpAny_pure h⟩)) htake))
  | exact wpAny_bind (wpAny_bind (m:=Builtin.Tuple.tupleExact _) (wpAny_newObj_type (wpAny_pure ⟨_,rfl,wpAny_pure h⟩) htake))
end
end HT
namespace L2
open PySem PySem.Spec PyProof.Rows
abbrev TO:=St->Hp->(Option Int->Hp->Prop)->Prop
def PO (X:Cx) (e:Option Expr) (t:TO):Prop :=
 ∀ (pins:List (Addr×Obj)) (s:Shared) (σ:St) (H:Hp) (Q:Option Int->Hp->Prop),Inv X pins σ H s->t σ H Q ->
  wpAny (model X.prog X.w) X.A (evalPart e X.env) (λ u s'=>∃ o H',Inv X pins σ H' s'/\IsPart u o/\Q o H') X.xe s
def Af:TO:=λ _ H Q=>Q none H
def FS (t:TE):TO:=λ σ H Q=>t σ H λ x H1=>∃ i,x=.int i/\Q (some i) H1
theorem rM {ns:List Int}:∀ {us:List Value},bg (ns.map V.int) us->IntsAre us ns:=by
 induction ns with
 | nil=>intro us r;rw[List.map_nil] at r;cases r;exact .nil
 | cons n ns ih =>
  intro us r
  rw[List.map_cons] at r
  cases r with
  | cons r1 r2 =>
   obtain⟨t,e⟩:=r1
   subst e
   exact .cons n t (ih r2)
section
variable {X:Cx}{e:Expr}{te:TE}{lo hi:Option Expr}{tl th:TO}{pos p2:Pos}
theorem eF:PO X none Af:=by
 intro pins s σ H Q I h
 rw[evalPart_none]
 exact wpAny_pure ⟨none,H,I,.none,h⟩
theorem dh (h:PE X e te):PO X (some e) (FS te):=by
 intro pins s σ H Q I hw
 rw[evalPart_some]
 refine thn (h pins s σ H _ I hw) λ u s1 ⟨x,H1,I1,r1,q1⟩=>?_
 obtain⟨i,rfl,q⟩:=q1
 obtain⟨t,rfl⟩:=r1
 exact⟨some i,H1,I1,.int i t,q⟩
def SlR (X:Cx) (r:V->Option Int->Option Int->Hp->VK->Prop):Prop :=
 ∀ (pins:List (Addr×Obj)) (s:Shared) (σ:St) (H:Hp) (x:V) (v vl vu:Value) (lo hi:Option Int) (sl:Addr) (Q:VK),Inv X pins σ H s->bw x v->s.heap.IsSliceOf sl vl vu .none->IsPart vl lo->IsPart vu hi->r x lo hi H Q ->
  ∃ T id,typeLookup (.type T) "__getitem__" = pure (some (.builtin id))/\s.TypeIs v T/\wpAny (model X.prog X.w) X.A (getItem v (.ref sl)) (EP X pins σ Q) X.xe s
def tSl (r:V->Option Int->Option Int->Hp->VK->Prop) (te:TE) (tl th:TO):TE:=λ σ H Q=>te σ H λ x H1=>tl σ H1 λ l H2=>th σ H2 λ u H3=>r x l u H3 Q
theorem cO {r:V->Option Int->Option Int->Hp->VK->Prop} (hr:SlR X r) (he:PE X e te) (hl:PO X lo tl) (hu:PO X hi th):PE X (.Subscript e (.Slice lo hi none p2) pos) (tSl r te tl th):=by
 intro pins s σ H Q I h
 refine Subscript_ (thn (he pins s σ H _ I h) λ v s1 ⟨x,H1,I1,r1,q1⟩=>?_)
 refine wpAny_Slice (thn (hl pins s1 σ H1 _ I1 q1) λ vl s2 ⟨l,H2,I2,pl,q2⟩=>thn (hu pins s2 σ H2 _ I2 q2) λ vu s3 ⟨u,H3,I3,pu,q3⟩=>?_)
 rw[evalPart_none]
 refine wpAny_pure ?_
 have I4:Inv X pins σ H3 {s3 with heap:=s3.heap.push {cls:=.type "slice",data:=.fields #[vl,vu,.none]}}:=I3.kept (t':=s3.toks) λ b ob q=>Heap.get?_push_of_some _ q
 obtain⟨T,id,hT,ht,hg⟩:=hr pins {s3 with heap:=s3.heap.push {cls:=.type "slice",data:=.fields #[vl,vu,.none]}} σ H3 x v vl vu l u s3.heap.objs.size Q I4 r1 (Heap.IsSliceOf.new ..) pl pu q3
 show wpAny (model X.prog X.w) X.A (subscriptTail e (.Slice lo hi none p2) v (.ref s3.heap.objs.size)) (EP X pins σ Q) X.xe {s3 with heap:=s3.heap.push {cls:=.type "slice",data:=.fields #[vl,vu,.none]}}
 exact tail_any (ops:=[.ref s3.heap.objs.size,v]) ht hT hg (by with_unfolding_all rfl)
def i7 (xs:List V) (lo hi:Option Int):List V:=(xs.drop (HT.sIx xs.length 0 lo)).take (HT.sIx xs.length xs.length hi-HT.sIx xs.length 0 lo)
theorem jv (xs:List V) (lo hi:Option Int):(i7 xs lo hi).length<=xs.length:=by
 unfold i7
 rw[List.length_take,List.length_drop]
 omega
def Hj (K:PySem.W.Frag):V->Option Int->Option Int->Hp->VK->Prop:=λ x lo hi H Q=>∃ a xs,x=.ref a/\SqT K H a xs /\
 ¬ (HT.sIx xs.length 0 lo=0/\HT.sIx xs.length xs.length hi=xs.length)/\∀ p,H p=none->Q (.ref p) (upd H p (.tup (i7 xs lo hi)))
theorem DY:SlR X (Hj X.K):=by
 intro pins s σ H x v vl vu lo hi sl Q I rx hs pl pu h
 obtain⟨a,xs,rfl,hx,hw,q⟩:=h
 cases rx
 obtain⟨its,r,ht,hz⟩:=I.tuple hx
 have hlen:its.toArray.size=xs.length:=by rw[List.size_toArray];exact r.length.symm
 refine⟨"tuple",_,PyProof.Rows.slot_tuple_getitem.lookup,ht.typeIs,?_⟩
 refine HT.iD ht hs pl pu (by rw[hlen];exact hw) ?_ (by rw[hlen];exact hz)
 rw[hlen]
 refine⟨.ref s.heap.objs.size,_,I.laid (t':=s.toks) (o:=.tup (i7 xs lo hi)) (λ b ob q=>Heap.get?_push_of_some _ q) (Nat.le_refl _) ?_,rfl,q _ (I.hok.fresh (Nat.le_refl _))⟩
 exact⟨Nat.le_trans (jv xs lo hi) hz,_,(r.drop (HT.sIx xs.length 0 lo)).take (HT.sIx xs.length xs.length hi-HT.sIx xs.length 0 lo),IsTup.new _ _⟩
end
def ixN (n:Nat) (i:Int):Option Nat:=if 0<=i then (if i<n then some i.toNat else none) else if -(n:Int)<=i then some (i+n).toNat else none
noncomputable def atI {α:Type} (xs:List α) (i:Int):Option α:=(ixN xs.length i).bind λ j=>xs[j]?
theorem BO {n:Nat}{i:Int}{j:Nat} (h:ixN n i=some j):seqIndex? i n=some j/\j<n/\-(n:Int)<=i/\i<n:=by
 unfold ixN at h
 by_cases h0:0<=i
 ·rw[if_pos h0] at h
  by_cases h1:i<n
  ·rw[if_pos h1] at h
   have e:i.toNat=j:=Option.some.inj h
   exact⟨by rw[seqIndex_of h0 h1,e],by omega,by omega,h1⟩
  ·rw[if_neg h1] at h;cases h
 ·rw[if_neg h0] at h
  by_cases h1:-(n:Int)<=i
  ·rw[if_pos h1] at h
   have e:(i+n).toNat=j:=Option.some.inj h
   exact⟨by rw[seqIndex_neg (by omega) h1,e],by omega,h1,by omega⟩
  ·rw[if_neg h1] at h;cases h
theorem og {α:Type}{xs:List α}{i:Int}{v:α} (h:atI xs i=some v):∃ j,seqIndex? i xs.length=some j/\xs[j]? = some v/\j<xs.length/\-(xs.length:Int)<=i/\i<xs.length:=by
 unfold atI at h
 cases e:ixN xs.length i with
 | none=>rw[e] at h;cases h
 | some j =>
  rw[e] at h
  obtain⟨h1,h2,h3,h4⟩:=BO e
  exact⟨j,h1,h,h2,h3,h4⟩
theorem cy {α:Type}{xs:List α}{j:Nat}{v:α} (h:xs[j]? = some v):atI xs (j:Int)=some v:=by
 have hj:j<xs.length:=(List.getElem?_eq_some_iff.mp h).1
 have e:ixN xs.length (j:Int)=some j:=by
  unfold ixN
  rw[if_pos (by omega),if_pos (by omega)];simp
 unfold atI;rw[e];exact h
theorem zY {α:Type} (xs:List α) (v:α):atI (xs++[v]) (-1)=some v:=by
 have hl:(xs++[v]).length=xs.length+1:=by simp
 have e:ixN (xs++[v]).length (-1)=some xs.length:=by
  unfold ixN
  rw[hl,if_neg (by decide),if_pos (by omega)]
  congr 1
  omega
 unfold atI
 rw[e]
 show (xs++[v])[xs.length]? = some v
 simp
def CK (b:Expr):Prop:=∀ o i,subscripted b false o i=operate [o,i] (getItem o i)
def IxR (X:Cx) (r:R2):Prop :=
 ∀ (value slice:Expr) (pins:List (Addr×Obj)) (s:Shared) (σ:St) (H:Hp) (x y:V) (v u:Value) (Q:VK),Inv X pins σ H s->bw x v->bw y u->r x y H Q ->
  subscripted slice false v u=operate [v,u] (getItem v u)->wpAny (model X.prog X.w) X.A (subscriptTail value slice v u) (EP X pins σ Q) X.xe s
def MtR (X:Cx) (id:String) (r:V->List V->Hp->VK->Prop):Prop :=
 ∀ (pins:List (Addr×Obj)) (s:Shared) (σ:St) (H:Hp) (x:V) (xs:List V) (v:Value) (us:List Value) (Q:VK),Inv X pins σ H s->bw x v->bg xs us->r x xs H Q ->
  wpAny (model X.prog X.w) X.A (call (.builtin id) (v::us)) (EP X pins σ Q) X.xe s
section
variable {X:Cx}{a b:Expr}{ta tb:TE}{pos:Pos}
theorem IxR.or {r r':R2} (h:IxR X r) (h':IxR X r'):IxR X (λ x y H Q=>r x y H Q∨r' x y H Q):=by
 intro value slice pins s σ H x y v u Q I rx ry q hs
 rcases q with q | q
 ·exact h value slice pins s σ H x y v u Q I rx ry q hs
 ·exact h' value slice pins s σ H x y v u Q I rx ry q hs
theorem aF {r:R2} (hr:IxR X r) (ha:PE X a ta) (hb:PE X b tb) (hs:CK b):PE X (.Subscript a b pos) (tOp r ta tb):=by
 intro pins s σ H Q I h
 exact Subscript_ (FC ha hb I h λ v u s2 x y H2 I2 rx ry q=>hr a b pins s2 σ H2 x y v u Q I2 rx ry q (hs _ _))
def Go (K:PySem.W.Frag):R2:=λ x y H Q=>∃ p xs i v,x=.ref p/\y=.int i/\SqL K H p xs/\atI xs i=some v/\Q v H
def Gm (K:PySem.W.Frag):R2:=λ x y H Q=>∃ p xs i v,x=.ref p/\y=.int i/\SqT K H p xs/\atI xs i=some v/\Q v H
def Gn:R2:=λ x y H Q=>∃ z i c,x=.str z/\y=.int i/\z.length<=sizeLine/\atI z.cps.toList i=some c/\Q (.str ⟨#[c]⟩) H
theorem ba:IxR X (Go X.K):=by
 intro value slice pins s σ H x y v u Q I rx ry h hs
 obtain⟨p,xs,i,z,rfl,rfl,hq,he,q⟩:=h
 cases rx
 obtain⟨t,rfl⟩:=ry
 obtain⟨its,r,pl,hz⟩:=I.list hq
 obtain⟨j,h1,h2,h3,h4,h5⟩:=og he
 obtain⟨w,ew,rw'⟩:=r.get h2
 have hl:=r.length
 have hn:=kO
 have fin:EP X pins σ Q w s:=⟨z,H,I,rw',q⟩
 by_cases h0:0<=i
 ·have hj:i.toNat=j:=by
   rw[seqIndex_of h0 h5] at h1
   exact Option.some.inj h1
  exact item_listR pl.isList h0 (by omega) (by rw[hj];simpa using ew) fin hs
 ·have hj:(i+(its.toArray.size:Int)).toNat=j:=by
   rw[seqIndex_neg (by omega) h4] at h1
   rw[List.size_toArray,<-hl]
   exact Option.some.inj h1
  exact subscriptTail_builtinR (x:=w) pl.isList.typeIs slot_list_getitem.lookup
   (wpAny_getItem_list_neg (Q:=λ r s'=>r=w/\EP X pins σ Q r s') pl.isList (by omega) (by rw[List.size_toArray]<;>omega) (by omega) (by rw[hj];simpa using ew) ⟨rfl,fin⟩) hs
theorem aH:IxR X (Gm X.K):=by
 intro value slice pins s σ H x y v u Q I rx ry h hs
 obtain⟨p,xs,i,z,rfl,rfl,hq,he,q⟩:=h
 cases rx
 obtain⟨t,rfl⟩:=ry
 obtain⟨its,r,pl,hz⟩:=I.tuple hq
 obtain⟨j,h1,h2,h3,h4,h5⟩:=og he
 obtain⟨w,ew,rw'⟩:=r.get h2
 have hl:=r.length
 have hn:=kO
 have fin:EP X pins σ Q w s:=⟨z,H,I,rw',q⟩
 exact subscriptTail_builtinR (x:=w) pl.typeIs slot_tuple_getitem.lookup
  (getItem_tuple (j:=j) (Q:=λ r s'=>r=w/\EP X pins σ Q r s') pl (by omega) (by omega) (by rw[List.size_toArray,<-hl];exact h1) (by simpa using ew) ⟨rfl,fin⟩) hs
theorem rK:IxR X Gn:=by
 intro value slice pins s σ H x y v u Q I rx ry h hs
 obtain⟨z,i,c,rfl,rfl,hz,he,q⟩:=h
 obtain⟨t,rfl⟩:=rx
 obtain⟨t',rfl⟩:=ry
 obtain⟨j,h1,h2,h3,h4,h5⟩:=og he
 have hl:z.cps.toList.length=z.length:=by simp [Str.length]
 rw[hl] at h1 h4 h5
 have hn:=kO
 exact tail_any (typeIs_str s z t) slot_str_getitem.lookup (getItem_str (c:=c) (by
  have e1:decide (i < -(2^63:Int))=false:=decide_eq_false (by omega)
  have e2:decide (i ≥ 2^63)=false:=decide_eq_false (by omega)
  rw[e1,e2,Bool.or_false]) (by rw[h1];simpa using h2) ⟨.str ⟨#[c]⟩,H,I.tok _,⟨_,rfl⟩,q⟩) hs
def rIx (K:PySem.W.Frag):R2:=λ x y H Q=>Go K x y H Q∨Gm K x y H Q∨Gn x y H Q
theorem nQ:IxR X (rIx X.K):=ba.or (aH.or rK)
theorem mX (lo hi:Option Int) (n:Nat):(sliceBounds lo hi none n).1=((HT.sIx n 0 lo:Nat):Int)/\(sliceBounds lo hi none n).2.1=((HT.sIx n n hi:Nat):Int)/\(sliceBounds lo hi none n).2.2=1:=by
 refine⟨?_,?_,rfl⟩
 ·cases lo with
  | none=>simp [sliceBounds,HT.sIx]
  | some i =>
   simp only[sliceBounds,HT.sIx,Option.getD_none,show (1:Int)>0 by decide,if_true]
   by_cases h:i<0
   ·simp only[h,if_true]<;>omega
   ·simp only[h,if_false]<;>omega
 ·cases hi with
  | none=>simp [sliceBounds,HT.sIx]
  | some i =>
   simp only[sliceBounds,HT.sIx,Option.getD_none,show (1:Int)>0 by decide,if_true]
   by_cases h:i<0
   ·simp only[h,if_true]<;>omega
   ·simp only[h,if_false]<;>omega
theorem lH (its:List Value) (lo hi:Option Int):slicePick its.toArray lo hi none=((its.drop (HT.sIx its.length 0 lo)).take (HT.sIx its.length its.length hi-HT.sIx its.length 0 lo)).toArray:=by
 obtain⟨h1,h2,h3⟩:=mX lo hi its.toArray.size
 unfold slicePick
 rw[h1,h2,h3]
 simp only[sliceRange_one,pick_run,List.size_toArray]<;>rfl
def Hk (K:PySem.W.Frag):V->Option Int->Option Int->Hp->VK->Prop:=λ x lo hi H Q=>∃ a xs,x=.ref a/\SqL K H a xs/\∀ p,H p=none->Q (.ref p) (upd H p (.lst (i7 xs lo hi)))
theorem tm:SlR X (Hk X.K):=by
 intro pins s σ H x v vl vu lo hi sl Q I rx hs pl pu h
 obtain⟨a,xs,rfl,hx,q⟩:=h
 cases rx
 obtain⟨its,r,ht,hz⟩:=I.list hx
 have hlen:=r.length
 refine⟨"list",_,slot_list_getitem.lookup,ht.isList.typeIs,?_⟩
 refine wpAny_getItem_list_slice ht.isList hs pl pu .none (by simp) ?_ (by rw[List.size_toArray]<;>omega)
 rw[lH,<-hlen]
 refine⟨.ref s.heap.objs.size,_,I.laid (t':=s.toks) (o:=.lst (i7 xs lo hi)) (λ b ob q=>Heap.get?_push_of_some _ q) (Nat.le_refl _) ?_,rfl,q _ (I.hok.fresh (Nat.le_refl _))⟩
 exact⟨Nat.le_trans (jv xs lo hi) hz,_,0,(r.drop (HT.sIx xs.length 0 lo)).take (HT.sIx xs.length xs.length hi-HT.sIx xs.length 0 lo),Heap.get?_push_size _ rfl⟩
def js:V->Bool
 | .non=>true
 | .bl _=>true
 | .int _=>true
 | .str _=>true
 | _=>false
def eqV:V->V->Bool
 | .non,.non=>true
 | .bl a,.bl b=>a == b
 | .bl a,.int b=>(if a then 1 else 0) == b
 | .int a,.bl b=>a == (if b then 1 else 0)
 | .int a,.int b=>a == b
 | .str a,.str b=>a == b
 | _,_=>false
theorem Ft {A:Around}{s:Shared}{y x:V}{u v:Value} (ry:bw y u) (rx:bw x v) (fy:js y=true) (fx:js x=true):SeqAt.EqAt A s u v (eqV y x):=by
 cases y with
 | non =>
  cases ry
  cases x with
  | non=>cases rx;exact SeqAt.EqAt.same _
  | bl b=>cases rx;exact SeqAt.EqAt.none_bool b
  | int b=>obtain⟨t,rfl⟩:=rx;exact SeqAt.EqAt.none_int b t
  | str b=>obtain⟨t,rfl⟩:=rx;exact SeqAt.EqAt.none_str b t
  | _=>exact absurd (show false=true from fx) Bool.false_ne_true
 | bl a =>
  cases ry
  cases x with
  | non=>cases rx;exact SeqAt.EqAt.bool_none a
  | bl b=>cases rx;exact SeqAt.EqAt.bool_bool a b
  | int b=>obtain⟨t,rfl⟩:=rx;exact SeqAt.EqAt.bool_int a b t
  | str b=>obtain⟨t,rfl⟩:=rx;exact SeqAt.EqAt.bool_str a b t
  | _=>exact absurd (show false=true from fx) Bool.false_ne_true
 | int a =>
  obtain⟨t',rfl⟩:=ry
  cases x with
  | non=>cases rx;exact SeqAt.EqAt.int_none a t'
  | bl b=>cases rx;exact SeqAt.EqAt.int_bool a t' b
  | int b=>obtain⟨t,rfl⟩:=rx;exact SeqAt.EqAt.int_int a t' b t
  | str b=>obtain⟨t,rfl⟩:=rx;exact SeqAt.EqAt.int_str a t' b t
  | _=>exact absurd (show false=true from fx) Bool.false_ne_true
 | str a =>
  obtain⟨t',rfl⟩:=ry
  cases x with
  | non=>cases rx;exact SeqAt.EqAt.str_none a t'
  | bl b=>cases rx;exact SeqAt.EqAt.str_bool a t' b
  | int b=>obtain⟨t,rfl⟩:=rx;exact SeqAt.EqAt.str_int a t' b t
  | str b=>obtain⟨t,rfl⟩:=rx;exact SeqAt.EqAt.str_str a t' b t
  | _=>exact absurd (show false=true from fx) Bool.false_ne_true
 | _=>exact absurd (show false=true from fy) Bool.false_ne_true
def eqU (x:V) (u:Value):Bool:=match u with
 | .none=>eqV .non x
 | .bool b=>eqV (.bl b) x
 | .int i _=>eqV (.int i) x
 | .str z _=>eqV (.str z) x
 | _=>false
theorem zD {x y:V}{u:Value} (r:bw y u) (f:js y=true):eqU x u=eqV y x:=by
 cases y with
 | non=>cases r;rfl
 | bl b=>cases r;rfl
 | int i=>obtain⟨t,rfl⟩:=r;rfl
 | str z=>obtain⟨t,rfl⟩:=r;rfl
 | _=>exact absurd (show false=true from f) Bool.false_ne_true
theorem oh {x:V}:∀ {xs:List V}{us:List Value},bg xs us->xs.all js=true->us.any (eqU x)=xs.any λ y=>eqV y x
 | _,_,.nil,_=>rfl
 | y::xs,u::us,.cons r t,f=>by
  rw[List.all_cons,Bool.and_eq_true] at f
  rw[List.any_cons,List.any_cons,zD r f.1,oh t f.2]
theorem kL {A:Around}{s:Shared}{x:V}{v:Value} (rx:bw x v) (fx:js x=true):∀ {xs:List V}{us:List Value},bg xs us->xs.all js=true->∀ u∈us,SeqAt.EqAt A s u v (eqU x u)
 | _,_,.nil,_=>λ u hu=>by cases hu
 | y::xs,u::us,.cons r t,f=>λ u' hu=>by
  rw[List.all_cons,Bool.and_eq_true] at f
  rcases List.mem_cons.mp hu with rfl | hu
  ·rw[zD r f.1];exact Ft r rx f.1 fx
  ·exact kL rx fx t f.2 u' hu
def inV (x:V) (xs:List V):Bool:=xs.any λ y=>eqV y x
def rIn (K:PySem.W.Frag) (neg:Bool):R2:=λ x y H Q=>∃ p xs,y=.ref p/\(SqL K H p xs∨SqT K H p xs)/\js x=true/\xs.all js=true/\Q (.bl (if neg then !inV x xs else inV x xs)) H
theorem iq:OpR X (compareOp .NotIn) (rIn X.K true):=by
 intro pins s σ H x y v u Q I rx ry h
 obtain⟨p,xs,rfl,hq,fx,fs,q⟩:=h
 cases ry
 rcases hq with hq | hq
 ·obtain⟨its,r,pl,hz⟩:=I.list hq
  refine SeqAt.notIn_listAt (eqU x) pl.isList (λ w hw=>kL rx fx r fs w (by simpa using hw)) ⟨.bl _,H,I,rfl,?_⟩
  rw[show its.toArray.any (eqU x)=its.any (eqU x) by simp,oh r fs]
  exact q
 ·obtain⟨its,r,pl,hz⟩:=I.tuple hq
  refine SeqAt.notIn_tupleAt (eqU x) pl (λ w hw=>kL rx fx r fs w (by simpa using hw)) ⟨.bl _,H,I,rfl,?_⟩
  rw[show its.toArray.any (eqU x)=its.any (eqU x) by simp,oh r fs]
  exact q
theorem bF:dJ X (.builtin "len") (λ xs H Q=>∃ p ys,xs = [.ref p]/\(SqL X.K H p ys∨SqT X.K H p ys)/\Q (.int ys.length) H):=by
 intro pins s σ H xs us Q I r h
 obtain⟨p,ys,rfl,hq,q⟩:=h
 obtain⟨u,rfl,rx⟩:=jd r
 cases rx
 have hn:=kO
 rcases hq with hq | hq
 ·obtain⟨its,r',pl,hz⟩:=I.list hq
  have hlen:=r'.length
  exact Calls.call_len_list pl.isList (by simp only[List.size_toArray]<;>omega) ⟨.int ys.length,H,I.tok _,⟨s.toks+1,by rw[List.size_toArray,hlen]⟩,q⟩
 ·obtain⟨its,r',pl,hz⟩:=I.tuple hq
  have hlen:=r'.length
  exact len_tuple pl (by simp only[List.size_toArray]<;>omega) ⟨.int ys.length,H,I.tok _,⟨s.toks+1,by rw[List.size_toArray,hlen]⟩,q⟩
theorem dP:dJ X (.builtin "len") (λ xs H Q=>∃ z,xs = [.str z]/\z.length<=sizeLine/\Q (.int z.length) H):=by
 intro pins s σ H xs us Q I r h
 obtain⟨z,rfl,hz,q⟩:=h
 obtain⟨u,rfl,t,rfl⟩:=jd r
 have hn:=kO
 exact len_str (by omega) ⟨.int z.length,H,I.tok _,⟨_,rfl⟩,q⟩
theorem eT:dJ X (.type "tuple") (λ xs H Q=>∃ p ys,xs = [.ref p]/\((SqL X.K H p ys/\∀ l,H l=none->Q (.ref l) (upd H l (.tup ys)))∨(SqT X.K H p ys/\Q (.ref p) H))):=by
 intro pins s σ H xs us Q I r h
 obtain⟨p,ys,rfl,h⟩:=h
 obtain⟨u,rfl,rx⟩:=jd r
 cases rx
 rcases h with ⟨hq,q⟩ | ⟨hq,q⟩
 ·obtain⟨its,r',pl,hz⟩:=I.list hq
  have hlen:=r'.length
  refine call_tuple_list pl.isList (λ h' kp=>?_) (by simp only[List.size_toArray]<;>omega)
  have I1:Inv X pins σ H {s with heap:=h'}:=I.kept (t':=s.toks) kp
  have I2:Inv X pins σ (upd H h'.objs.size (.tup ys)) {s with heap:=h'.push {cls:=.type "tuple",data:=.seq its.toArray}} :=
   I1.laid (t':=s.toks) (λ b o e=>Heap.get?_push_of_some _ e) (Nat.le_refl _) (show bx X.prog X.w _ _ _ (.tup ys) from ⟨hz,its,r',IsTup.new _ _⟩)
  exact⟨.ref h'.objs.size,_,I2,rfl,q _ (I1.hok.fresh (Nat.le_refl _))⟩
 ·obtain⟨its,r',pl,hz⟩:=I.tuple hq
  exact call_tuple_same pl ⟨.ref p,H,I,rfl,q⟩
def tyV (K:PySem.W.Frag) (T:String) (x:V) (H:Hp):Prop:=match x with
 | .str _=>T = "str"
 | .int _=>T = "int"
 | .ref p=>(T = "list"/\∃ xs,SqL K H p xs)∨(T = "tuple"/\∃ o,K.lookup p=some o/\o.cls=.type "tuple"/\o.dict=none) ∨
   (T = "dict"/\((∃ kvs,H p=some (.dK kvs))∨∃ kvs,H p=some (.dT kvs)))∨(T = "set"/\∃ S n,H p=some (.set S n))
 | _=>False
theorem DK {pins:List (Addr×Obj)}{σ:St}{H:Hp}{s:Shared}{T:String}{x:V}{v:Value} (I:Inv X pins σ H s) (r:bw x v) (ty:tyV X.K T x H) :
  s.TypeIs v T/\∀ a,v=.ref a->∃ ob,s.heap.get? a=some ob/\ob.dict=none:=by
 cases x with
 | str z =>
  obtain⟨t,rfl⟩:=r
  cases (show T = "str" from ty)
  exact⟨typeIs_str s z t,λ _ e=>nomatch e⟩
 | int i =>
  obtain⟨t,rfl⟩:=r
  cases (show T = "int" from ty)
  exact⟨typeIs_int s i t,λ _ e=>nomatch e⟩
 | ref p =>
  cases r
  rcases ty with ⟨rfl,xs,hq⟩ | ⟨rfl,o,hk,hc,hd⟩ | ⟨rfl,hk⟩ | ⟨rfl,S,n,hk⟩
  ·obtain⟨its,_,pl,_⟩:=I.list hq
   refine⟨pl.isList.typeIs,λ a e=>?_⟩
   cases e
   obtain⟨o,n,e,c,hd,_⟩:=pl
   exact⟨o,e,hd⟩
  ·refine⟨⟨o,I.kIn p o hk,hc⟩,λ a e=>?_⟩
   cases e
   exact⟨o,I.kIn _ o hk,hd⟩
  ·have z:∃ o,s.heap.get? p=some o/\o.ExactDict:=by
    rcases hk with ⟨kvs,hk⟩ | ⟨kvs,hk⟩
    ·obtain⟨_,_,_,_,o,_,_,e,ex,_⟩:=I.hok p _ hk
     exact⟨o,e,ex⟩
    ·obtain⟨_,_,_,_,o,_,_,e,ex,_⟩:=I.hok p _ hk
     exact⟨o,e,ex⟩
   obtain⟨o,e,ex⟩:=z
   refine⟨⟨o,e,ex.1⟩,λ a e2=>?_⟩
   cases e2
   exact⟨o,e,ex.2.1⟩
  ·obtain⟨o,_,_,_,e,ex,_⟩:=I.hok p _ hk
   refine⟨⟨o,e,ex.1⟩,λ a e2=>?_⟩
   cases e2
   exact⟨o,e,ex.2.1⟩
 | _=>exact False.elim ty
def tBM (K:PySem.W.Frag) (T:String) (r:V->List V->Hp->VK->Prop) (to:TE) (t:TA):TE:=λ σ H Q=>to σ H λ x H1=>tyV K T x H1/\t σ H1 λ xs H2=>r x xs H2 Q
variable {o e:Expr}{es:List Expr}{to:TE}{t:TA}{name:Str}{apos cpos:Pos}{T id:String}{r:V->List V->Hp->VK->Prop}
theorem tW (pa:PlainAttrs T) (slot:Slot T name id) (hty:typeOf (.builtin id)=pure (.type "method_descriptor")) (hm:MtR X id r) (ho:PE X o to) (ha:PA X (e::es) t)
  (hbase:attributeBase o name X.env (eval o X.env)=eval o X.env:=by rfl)
  (hfew:((backTo cpos (starEach (e::es) X.env)).all (λ x=>!x.1) && (backToKw cpos (keywordEach [] X.env)).all (λ x=>x.1.isSome)
   && decide ((e::es).length+([]:List Keyword).length+(if ([]:List Keyword).isEmpty then 0 else 1)<30))=true:=by rfl)
  (hline:(apos.endLine == cpos.line)=true:=by rfl) (hs:starEach (e::es) X.env=(false,eval e X.env)::starEach es X.env:=by rfl) (hplain:(backTo cpos (starEach es X.env)).any (·.1)=false:=by rfl) :
  PE X (.Call (.Attribute o name apos) (e::es) [] cpos) (tBM X.K T r to t):=by
 intro pins s σ H Q I h
 refine wpAny_Call_method_late hbase hfew hline rfl (thn (ho pins s σ H _ I h) λ v s1 ⟨x,H1,I1,r1,ty,q1⟩=>?_)
 obtain⟨h1,h2⟩:=DK I1 r1 ty
 refine⟨T,id,pa,slot,hty,h1,h2,?_⟩
 have hA:=ha cpos pins s1 σ H1 _ I1 q1
 rw[hs] at hA ⊢
 refine Calls.callWith_builtin (by show (false || (backTo cpos (starEach es X.env)).any (·.1))=false;rw[hplain]<;>rfl) (Calls.evalArgs_plain ?_)
 exact thn hA λ us s2 ⟨vs,H2,I2,r2,q2⟩=>hm pins s2 σ H2 x vs v us Q I2 r1 r2 q2
end
def MtM (X:Cx) (id:String) (r:V->List V->Hp->VK->Prop):Prop :=
 ∀ (pins:List (Addr×Obj)) (s:Shared) (σ:St) (H:Hp) (x:V) (xs:List V) (v:Value) (us:List Value) (Q:VK),Inv X pins σ H s->bw x v->bg xs us->r x xs H Q ->
  wpAny (model X.prog X.w) X.A (call (.builtin id) (v::us)) (EP X pins σ Q) X.xe s
theorem bg.one:∀ {x:V}{us:List Value},bg [x] us->∃ u,us = [u]/\bw x u
 | _,_,.cons r .nil=>⟨_,rfl,r⟩
section
variable {X:Cx}{pins:List (Addr×Obj)}{σ:St}{H:Hp}{s:Shared}{l b:Addr}{xs ys zs:List V}
theorem Inv.lset {its its':List Value}{n:Nat}{f:Array Value->Array Value}{t':Nat} (I:Inv X pins σ H s) (hH:H l=some (.lst xs))
  (e:s.heap.get? l=some {cls:=.type "list",data:=.seq its.toArray n}) (hf:f its.toArray=its'.toArray) (hv:bg ys its') (hz:ys.length<=sizeLine) :
  Inv X pins σ (upd H l (.lst ys)) {s with heap:=s.heap.update l (Obj.mapSeq f),toks:=t'}:=by
 have q:=PySem.IsL.update e f
 rw[hf] at q
 refine I.write (x:=l) (e:=l) (by rw[hH];exact trivial) (.inl rfl) (λ b' u hb hu=>(Heap.get?_update_other s.heap (Obj.mapSeq f) (Ne.symm hb)).trans hu) ⟨_,q⟩ ?_
 exact⟨hz,its',_,hv,q⟩
theorem Inv.lnew {its:List Value}{t':Nat} (I:Inv X pins σ H s) (hv:bg ys its) (hz:ys.length<=sizeLine) :
  Inv X pins σ (upd H s.heap.objs.size (.lst ys)) {s with heap:=s.heap.push {cls:=.type "list",data:=.seq its.toArray},toks:=t'} :=
 I.laid (λ _ _ q=>Heap.get?_push_of_some _ q) (Nat.le_refl _) ⟨hz,its,0,hv,Heap.get?_push_size _ rfl⟩
theorem Inv.fresh (I:Inv X pins σ H s):H s.heap.objs.size=none:=I.hok.fresh (Nat.le_refl _)
theorem Inv.lstM (I:Inv X pins σ H s) (hH:H l=some (.lst xs)):xs.length<=sizeLine/\∃ (its:List Value) (n:Nat),bg xs its/\xs.length=its.length/\s.heap.get? l=some {cls:=.type "list",data:=.seq its.toArray n}:=by
 obtain⟨z,its,n,r,e⟩:=I.hok l _ hH
 exact⟨z,its,n,r,r.length,e⟩
theorem yI {n:Nat} (h:n<=sizeLine):Builtin.List.listTooLong n=false:=by
 unfold Builtin.List.listTooLong
 exact decide_eq_false (by omega)
end
section
variable {X:Cx}
def AT:V->List V->Hp->VK->Prop:=λ x vs H Q=>∃ l xs y,x=.ref l/\vs = [y]/\H l=some (.lst xs)/\xs.length<sizeLine/\Q .non (upd H l (.lst (xs++[y])))
theorem ms:MtM X "list.append" AT:=by
 intro pins s σ H x vs v us Q I rx rv h
 obtain⟨l,xs,y,rfl,rfl,hH,hz,q⟩:=h
 cases rx
 obtain⟨u,rfl,ru⟩:=rv.one
 obtain⟨z,its,n,r,hl,e⟩:=I.lstM hH
 refine call_meets F.slot_list_append ⟨_,e,rfl⟩ F.entry_list_append (F.args_list_append_2 _ _) (PySem.list_append l its.toArray n u (by rw[List.size_toArray];omega)) ⟨e,?_⟩
 refine⟨.non,_,I.lset (its':=its++[u]) hH e (by simp) (r.append (.cons ru .nil)) ?_,rfl,q⟩
 rw[List.length_append,List.length_singleton]
 omega
def Hl:R2:=λ x y H Q=>∃ l b xs zs,x=.ref l/\y=.ref b/\H l=some (.lst xs)/\H b=some (.lst zs)/\xs.length+zs.length<=sizeLine/\∀ p,H p=none->Q (.ref p) (upd H p (.lst (xs++zs)))
theorem cQ:OpR X (binaryOp .Add) Hl:=by
 intro pins s σ H x y v u Q I rx ry h
 obtain⟨l,b,xs,zs,rfl,rfl,hH,hB,hz,q⟩:=h
 cases rx
 cases ry
 obtain⟨z,its,n,r,hl,e⟩:=I.lstM hH
 obtain⟨z2,its2,n2,r2,hl2,e2⟩:=I.lstM hB
 refine PySem.P.add_list e e2 ?_ (by rw[List.size_toArray,List.size_toArray];omega)
 have ea:its.toArray++its2.toArray=(its++its2).toArray:=by simp
 rw[ea]
 exact⟨.ref _,_,I.lnew (t':=s.toks) (r.append r2) (by rw[List.length_append];omega),rfl,q _ I.fresh⟩
end
end L2
namespace Att
open PySem PySem.W PySem.Calls PyProof.Rows
theorem jD {P:Params}{h:Heap}:∀ (ns:List Int) (vs:List Value),WellAll P h vs (ns.map WData.int)->IntsAre vs ns:=by
 intro ns
 induction ns with
 | nil =>
  intro vs w
  rw[List.map_nil] at w
  cases w
  exact .nil
 | cons n ns ih =>
  intro vs w
  rw[List.map_cons] at w
  cases w with
  | cons a b =>
   cases a
   exact .cons _ _ (ih _ b)
theorem uH {l:OpenLaw}{n:Nat} (hn:l.most=some n) {P:Params}{h:Heap}{args:List WData}{vals:List Value}
  (hpre:l.row.toRowW.claim.pre args=true) (hwl:WellAll P h vals args) :
  ∃ a vs ns,vals = [Value.ref a]/\args = [WData.list (ns.map WData.int)]/\h.get? a=some {cls:=.type "list",data:=.seq vs.toArray}/\IntsAre vs ns/\ns.length<=n:=by
 have hsh:WShape.hasAll [] args [.list .int]=true:=(pre_splitW hpre).1
 have hc:l.pre.holds [] {args:=args}=true:=(pre_splitW hpre).2
 obtain⟨d,r,rfl,h1,h2⟩:=hasAllW_cons hsh
 obtain rfl:=hasAllW_nil h2
 obtain⟨xs,rfl,h3⟩:=hasW_list h1
 obtain⟨ns,rfl⟩:=items_int h3
 have hlen:ns.length<=n:=by
  unfold OpenLaw.pre at hc
  have h4:(WTm.not (.lt (.lit (.int (n:Int))) (.len (.arg 0)))).holds [] {args:=[.list (ns.map .int)]}=true:=by
   have h4:=(holds_andW hc).1
   rw[hn] at h4
   exact h4
  have h5:=condW_of h4 (w_not (w_lt w_lit (w_len_list (w_arg rfl))))
  rw[List.length_map] at h5
  refine Nat.le_of_not_lt λ q=>?_
  have q':(n:Int)<((ns.length:Nat):Int):=by omega
  first
   | (rw[decide_eq_true q'] at h5;exact absurd h5 (by decide))
   | (simp at h5;omega)
 cases hwl with
 | cons w1 w2 =>
  cases w2
  cases w1 with
  | list ho hall=>exact⟨_,_,ns,rfl,rfl,ho,jD ns _ hall,hlen⟩
theorem uS (l:OpenLaw) (args:List WData):l.row.toRowW.claim.post args (.bool true) args=true :=
 postW_of (r:=l.row.toRowW) (X:=(true == true))
  (show WShape.has [] (.bool true) .bool=true by first | rfl | decide | simp [WShape.has,WShape.arms,WShape.armsAll])
  (show (WTm.eq .res (.lit (.bool true))).value [] {args:=args,res:=some (.bool true),after:=args}=some (.bool (true == true)) from w_eq_bool (w_res rfl) w_lit) rfl
end Att
namespace L2
open PySem PySem.Spec PyProof.Rows
theorem lY:∀ {vs:List Value}{ns:List Int},IntsAre vs ns->bg (ns.map V.int) vs
 | _,_,.nil=>.nil
 | _,_,.cons n t h=>.cons ⟨t,rfl⟩ (lY h)
def FE (H:Hp):Prop:=∀ b,H b=none∨∃ o xs,H b=some (.frz o (.lst xs))
theorem yY {P:Program}{w:World}{K:PySem.W.Frag}{mg mb:Str->Option Value}{CX:CXT}{k:Nat}{fa a:Addr}{fd:FuncData}{x:Str}{sp:Sp}{s₁:Shared}{vs:List Value}{ns:List Int}
  (KX:K.In s₁.heap) (hns:s₁.heap.Ns mainGlobals mg) (hb:s₁.heap.Ns builtinsNs mb) (hbb:∀ x:Str,x≠"__name__"->mb x=bootBuiltins x) (hlim:s₁.heap.NoLimit) (hg:s₁.gens=#[])
  (ha:s₁.heap.get? a=some {cls:=.type "list",data:=.seq vs.toArray}) (hi:IntsAre vs ns) (hl:ns.length<=sizeLine) (hr:cF k callerA)
  (F:∀ base:Heap,K.In base->base.Ns mainGlobals mg->aS P w K mg base CX k fa fd [x] sp) (hbind:∀ (s:Shared) (u:Value),BindsTo s fd ⟨[u],[]⟩ [(x,u)])
  (hsp:∀ H:Hp,FE H->SqL K H a (ns.map V.int)->sp [.ref a] H (λ v _=>v=.bl true) λ _ _ _=>False)
  (hCX:∀ H e s',CX [] H s₁ (λ _ _ _=>False) e s'->False) :
  codeAny (model P w) callerA (.call (.ref fa) ⟨[.ref a],[]⟩) (λ r s'=>r=.ok (.ret (.bool true))/\OldK s₁.heap s'.heap/\s'.os=s₁.os/\AllBare s'.gens) s₁:=by
 have rv:=lY hi
 have lenV:=hi.length
 have core:∀ H:Hp,FE H->SqL K H a (ns.map V.int)->HOk P w H s₁.heap->(∀ b,H b≠none->b=a)->(H a≠none->K.lookup a=none) ->
   codeAny (model P w) callerA (.call (.ref fa) ⟨[.ref a],[]⟩) (λ r s'=>r=.ok (.ret (.bool true))/\OldK s₁.heap s'.heap/\s'.os=s₁.os/\AllBare s'.gens) s₁:=by
  intro H hO hS hok hA hK
  have base_of:∀ {b:Addr}{o:Obj},s₁.heap.get? b=some o->H b=none->(nV s₁.heap H).get? b=some o:=λ e n=>zl e n
  have noA:∀ {b:Addr}{o:Obj}{es:Array DictEntry}{ep:Nat},s₁.heap.get? b=some o->o.data=.dict es ep->H b=none:=λ {b o es ep} e d=>by
   cases q:H b with
   | none=>rfl
   | some u =>
    have e':b=a:=hA b (by rw[q];simp)
    subst e'
    rw[ha] at e;cases e
    have d':Data.seq vs.toArray _=Data.dict es ep:=d
    cases d'
  have nsK:∀ {b:Addr}{m:Str->Option Value},s₁.heap.Ns b m->(nV s₁.heap H).Ns b m:=λ {b m} ⟨o,es,ep,e,d,r⟩=>⟨o,es,ep,base_of e (noA e d),d,r⟩
  have hKb:K.In (nV s₁.heap H):=λ b o e=>base_of (KX b o e) (by
   cases q:H b with
   | none=>rfl
   | some u =>
    have e':b=a:=hA b (by rw[q];simp)
    subst e'
    rw[hK (by rw[q];simp)] at e;cases e)
  have hM:Mod K mg (nV s₁.heap H):=⟨hKb,nsK hns,⟨mb,nsK hb,hbb⟩,let ⟨mc,h1,h2⟩:=hlim;⟨mc,nsK h1,h2⟩⟩
  have e0:sH P w K mg (nV s₁.heap H) callerA [] s₁ H:=⟨rfl,hM,λ b o e=>Bs e,Nat.le_of_eq (vG _ _),trivial,λ b hb=>absurd (show b∈([]:List Addr) from hb) (by simp),hok,.of_eq hg⟩
  refine codeAny_mono ((F _ hKb (nsK hns)).run callerA [] s₁ H ⟨[.ref a],[]⟩ [.ref a] [.ref a] _ _ hr e0 (hbind s₁ (.ref a)) (.cons rfl .nil) (hsp H hO hS)) λ r s' h=>?_
  cases r with
  | error e=>exact (hCX H e s' h).elim
  | ok fl =>
   cases fl with
   | next=>exact False.elim h
   | brk=>exact False.elim h
   | cont=>exact False.elim h
   | ret u =>
    obtain⟨v,H',os,bare,un,hok',r',q⟩:=h
    have q':v=.bl true:=q
    subst q'
    obtain rfl:u=Value.bool true:=r'
    refine⟨rfl,OldK.of_keep λ b o e=>?_,os,bare⟩
    cases q:H b with
    | none=>exact un.keep b o e q (by intro z;exact absurd (show b∈([]:List Addr) from z) (by simp)) (by simp)
    | some u =>
     rcases hO b with z | ⟨ob,xs,z⟩
     ·rw[q] at z;cases z
     ·have z2:=un.frzs b ob _ z
      obtain⟨e1,_⟩:=hok b _ z
      obtain⟨e2,_⟩:=hok' b _ z2
      rw[e] at e1;cases e1
      exact e2
 cases hk:K.lookup a with
 | some o =>
  have e:=KX a o hk
  rw[ha] at e
  cases e
  refine core (λ _=>none) (λ _=>.inl rfl) (.inr ⟨_,vs.toArray,_,hk,rfl,rfl,rfl,by rw[List.size_toArray,lenV];exact hl,by simpa using rv⟩) (λ b u z=>by have z':(none:Option HO)=some u:=z;cases z') (λ b z=>absurd rfl z) λ z=>absurd rfl z
 | none =>
  refine core (λ b=>if b=a then some (.frz {cls:=.type "list",data:=.seq vs.toArray} (.lst (ns.map V.int))) else none) (λ b=>?_) (.inl (.inr ⟨{cls:=.type "list",data:=.seq vs.toArray},if_pos rfl⟩)) (λ b u z=>?_) (λ b z=>?_) λ _=>hk
  ·by_cases hb:b=a
   ·exact .inr ⟨_,_,if_pos hb⟩
   ·exact .inl (if_neg hb)
  ·by_cases hb:b=a
   ·have z':=(if_pos hb).symm.trans z
    cases z'
    subst hb
    exact⟨ha,by rw[List.length_map];exact hl,vs,_,rv,ha⟩
   ·have z':=(if_neg hb).symm.trans z
    cases z'
  ·by_cases hb:b=a
   ·exact hb
   ·exact absurd (if_neg hb) z
noncomputable def nU (s:Stmt) (j:Nat):Stmt:=match s with
 | .ClassDef _ _ _ body _ _ _ _ _ _ _=>body.getD j (.Pass ⟨0,0,0,0⟩)
 | _=>.Pass ⟨0,0,0,0⟩
def dm (s:Stmt):Arguments:=match s with
 | .FunctionDef _ a _ _ _ _ _ _ _ _=>a
 | _=>{posonlyargs:=[],args:=[],vararg:=none,kwonlyargs:=[],kw_defaults:=[],kwarg:=none,defaults:=[]}
def cw (s:Stmt):List Stmt:=match s with
 | .FunctionDef _ _ b _ _ _ _ _ _ _=>b
 | _=>[]
def aC (s:Stmt):Scope:=match s with
 | .FunctionDef _ _ _ _ _ _ sc _ _ _=>sc
 | _=>{kind:=.function,names:=[],isGenerator:=false,isCoroutine:=false}
abbrev CX0:CXT:=λ _ _ _ _ _ _=>False
abbrev E0:XK:=λ _ _ _=>False
theorem aN {X:Cx}:cG CX0 X E0:=λ _ _ _ _ _ _ _ h=>h.elim
structure Fun (K:PySem.W.Frag) (x qual:Str) (st:Stmt) (f:Addr) (fd:FuncData):Prop where
 ex:∃ (oc:Value) (od:Option Addr) (kV doc pm:Value) (an:Option Addr) (cdv ct:Value) (osl:Array (Option Value)),
  fd=PySem.W.fnOf x qual (dm st) (cw st) (aC st) .none kV doc pm an cdv ct/\K.lookup f=some ⟨oc,od,.func fd,osl⟩/\PySem.W.codeIn K cdv qual=true
 kp:PySem.W.keepIn K (.ref f)=true
section
variable {P:Program}{w:World}{K:PySem.W.Frag}{mg:Str->Option Value}{base:Heap}
theorem Fun.ok {x qual:Str}{st:Stmt}{f:Addr}{fd:FuncData}{N ps:List Str}{k:Nat}{sp:Sp} (F:Fun K x qual st f fd) (S:aG N ps (aC st)) (len:∀ vs H Q E,sp vs H Q E->vs.length=ps.length)
  (hbody:∀ (cdv:Value) (A:Around) (outer:List Env) (s:Shared) (H:Hp) (vs:List V) (Q:VK) (E:XK),cF k (A.deeper (envOfC qual (aC st) s.heap.objs.size f cdv))->sp vs H Q E ->
   ∃ t,PSs (i6 CX0 P w K mg base N qual (aC st) f cdv A outer s H E).nox (cw st) t/\t {nx:=λ _ H'=>Q .non H',rt:=Q} (eC N vs) H):aS P w K mg base CX0 (k+1) f fd ps sp:=by
 obtain⟨oc,od,kV,doc,pm,an,cdv,ct,osl,rfl,lk,hcd⟩:=F.ex
 refine Dw lk hcd S len λ A outer s H vs Q E hr hsp=>?_
 obtain⟨t,h,q⟩:=hbody cdv A outer s H vs Q E hr hsp
 exact⟨t,h.nox,q⟩
theorem Fun.binds {x qual:Str}{st:Stmt}{f:Addr}{fd:FuncData}{ps:List Str} (F:Fun K x qual st f fd)
  (h:∀ (kV doc pm:Value) (an:Option Addr) (cdv ct:Value) (us:List Value),us.length=ps.length->bindArgs (PySem.W.fnOf x qual (dm st) (cw st) (aC st) .none kV doc pm an cdv ct) ⟨us,[]⟩=pure (ps.zip us)):bS K fd ps []:=by
 obtain⟨oc,od,kV,doc,pm,an,cdv,ct,osl,rfl,lk,hcd⟩:=F.ex
 exact .all (h kV doc pm an cdv ct)
theorem zo {x qual:Str}{st:Stmt}{f:Addr}{oc:Value}{od an:Option Addr}{osl:Array (Option Value)}{kV doc pm cdv ct:Value} (l:K.lookup f=some ⟨oc,od,.func (PySem.W.fnOf x qual (dm st) (cw st) (aC st) .none kV doc pm an cdv ct),osl⟩)
  (c:PySem.W.codeIn K cdv qual=true) (k:PySem.W.keepIn K (.ref f)=true):Fun K x qual st f (PySem.W.fnOf x qual (dm st) (cw st) (aC st) .none kV doc pm an cdv ct):=⟨⟨oc,od,kV,doc,pm,an,cdv,ct,osl,rfl,l,c⟩,k⟩
end
theorem zh {A:Around}{k:Nat} (hr:cF k A):A.units+1<cLine:=Nat.lt_of_le_of_lt (Nat.add_le_add_left (by decide:1<=64) _) hr.units
section
variable {X:Cx}
theorem pv (i:Nat) {x:Str}{pos:Pos} (hN:X.N[i]? = some x:=by rfl) (hv:Vis X.env.scope x:=by first | exact Or.inl rfl | exact Or.inr (Or.inl rfl) | exact Or.inr (Or.inr rfl)) (hd:(x == ("__debug__":Str))=false:=by decide)
  (hcd:(x == ("__classdict__":Str))=false:=by decide):PE X (.Name x pos) (DL i):=Ew hN hv hd hcd
end
theorem bf {A B:Prop} (h:B):if false=true then A else B:=by
 rw[if_neg Bool.false_ne_true]
 exact h
theorem bj {A B:Prop} (h:A):if true=true then A else B:=by
 rw[if_pos rfl]
 exact h
theorem c7 {c A B:Prop} [Decidable c] (h1:c->A) (h2:¬ c->B):if c then A else B:=by
 by_cases h:c
 ·rw[if_pos h]
  exact h1 h
 ·rw[if_neg h]
  exact h2 h
def aA (H H':Hp):Prop:=∀ b o,H b=some o->H' b=some o
theorem aA.refl (H:Hp):aA H H:=λ _ _ h=>h
theorem aA.trans {H H1 H2:Hp} (a:aA H H1) (b:aA H1 H2):aA H H2:=λ c o h=>b c o (a c o h)
theorem aA.seq {K:PySem.W.Frag}{H H':Hp}{a:Addr}{xs:List V} (e:aA H H') (h:SqL K H a xs):SqL K H' a xs:=by
 rcases h with (h | ⟨o,h⟩) | h
 ·exact .inl (.inl (e _ _ h))
 ·exact .inl (.inr ⟨o,e _ _ h⟩)
 ·exact .inr h
end L2
namespace Gc
theorem GI {a b:Int} (ha:0<=a) (hb:0<=b) (h:b≠0):Int.gcd b (a%b)=Int.gcd a b:=by
 rw[Int.gcd_comm a b]
 unfold Int.gcd
 have e:(a%b).natAbs=a.natAbs%b.natAbs:=by
  rw[Int.natAbs_emod_of_nonneg ha]
 rw[e,Nat.gcd_comm b.natAbs (a.natAbs%b.natAbs),<-Nat.gcd_rec]
theorem HB {a:Int} (ha:0<=a):(Int.gcd a 0:Int)=a:=by
 rw[Int.gcd_zero_right];omega
theorem GJ (a b:Int):Int.gcd (if a<0 then -a else a) (if b<0 then -b else b)=Int.gcd a b:=by
 unfold Int.gcd
 have h1:(if a<0 then -a else a).natAbs=a.natAbs:=by split<;>omega
 have h2:(if b<0 then -b else b).natAbs=b.natAbs:=by split<;>omega
 rw[h1,h2]
theorem pV {g t:Int} (h:g≠0):(g*t).fdiv g=t:=by
 rw[Int.mul_comm];exact Int.mul_fdiv_cancel _ h
def frD (t b:Int):Int:=if b<0 then -(Int.gcd t b:Int) else (Int.gcd t b:Int)
def frT (t b:Int):Int:=t.fdiv (frD t b)
def frB (t b:Int):Int:=b.fdiv (frD t b)
theorem gne {t b:Int} (h:b≠0):Int.gcd t b≠0:=λ e=>h (Int.gcd_eq_zero_iff.mp e).2
theorem rQ {t b:Int} (h:b≠0):frD t b≠0:=by
 have:=gne (t:=t) h
 unfold frD;split<;>omega
theorem iE {t b:Int} (h:b≠0):t=frD t b*frT t b/\b=frD t b*frB t b:=by
 have hd:(Int.gcd t b:Int) ∣ t:=Int.gcd_dvd_left ..
 have hb:(Int.gcd t b:Int) ∣ b:=Int.gcd_dvd_right ..
 have hd' : frD t b ∣ t := by unfold frD; split; · exact Int.neg_dvd.mpr hd
                              · exact hd
 have hb' : frD t b ∣ b := by unfold frD; split; · exact Int.neg_dvd.mpr hb
                              · exact hb
 obtain⟨x,hx⟩:=hd'
 obtain⟨y,hy⟩:=hb'
 have ne:=rQ (t:=t) h
 generalize hD:frD t b=d at *
 have e1 : frT t b = x := by unfold frT; rw [hD]; conv => lhs; rw [hx]
                             exact pV ne
 have e2 : frB t b = y := by unfold frB; rw [hD]; conv => lhs; rw [hy]
                             exact pV ne
 rw[e1,e2];exact⟨hx,hy⟩
theorem BY {t b:Int} (h:b≠0):0<frB t b:=by
 obtain⟨_,e⟩:=iE (t:=t) h
 have g:=gne (t:=t) h
 rcases Int.lt_trichotomy (frB t b) 0 with c | c | c
 ·exfalso
  by_cases hb:b<0
  ·have hd:frD t b<0:=by unfold frD;rw[if_pos hb];omega
   have:=Int.mul_pos_of_neg_of_neg hd c
   omega
  ·have hd:0<frD t b:=by unfold frD;rw[if_neg hb];omega
   have:=Int.mul_neg_of_pos_of_neg hd c
   omega
 ·rw[c,Int.mul_zero] at e;exact absurd e h
 ·exact c
theorem Fp {t b:Int} (h:b≠0):Int.gcd (frT t b) (frB t b)=1:=by
 obtain⟨e1,e2⟩:=iE (t:=t) h
 have g:=gne (t:=t) h
 have k:Int.gcd t b=(frD t b).natAbs*Int.gcd (frT t b) (frB t b):=by
  rw[<-Int.gcd_mul_left,<-e1,<-e2]
 have hn:(frD t b).natAbs=Int.gcd t b:=by unfold frD;split<;>omega
 rw[hn] at k
 have:Int.gcd t b*1=Int.gcd t b*Int.gcd (frT t b) (frB t b):=by rw[Nat.mul_one];exact k
 exact (Nat.eq_of_mul_eq_mul_left (Nat.pos_of_ne_zero g) this).symm
theorem zq {t b:Int} (h:b≠0):frT t b*b=t*frB t b:=by
 obtain⟨e1,e2⟩:=iE (t:=t) h
 generalize frT t b=x at *
 generalize frB t b=y at *
 generalize frD t b=d at *
 subst e1 e2
 rw[Int.mul_left_comm,Int.mul_assoc]
theorem nZ {k m n:Int} (h:k ∣ m*n) (c:Int.gcd k m=1):k ∣ n:=by
 have h':k.natAbs ∣ m.natAbs*n.natAbs:=by rw[<-Int.natAbs_mul];exact Int.natAbs_dvd_natAbs.mpr h
 exact Int.natAbs_dvd_natAbs.mp (Nat.Coprime.dvd_of_dvd_mul_left c h')
theorem BW {a b c d:Int} (hb:0<b) (hd:0<d) (g1:Int.gcd a b=1) (g2:Int.gcd c d=1) (e:a*d=c*b):a=c/\b=d:=by
 have h1:b ∣ d:=by
  have:b ∣ a*d:=⟨c,by rw[e,Int.mul_comm]⟩
  have k:Int.gcd b a=1:=by rw[Int.gcd_comm];exact g1
  exact nZ this k
 have h2:d ∣ b:=by
  have:d ∣ c*b:=⟨a,by rw[<-e,Int.mul_comm]⟩
  have k:Int.gcd d c=1:=by rw[Int.gcd_comm];exact g2
  exact nZ this k
 have hbd:b=d:=Int.dvd_antisymm (by omega) (by omega) h1 h2
 subst hbd
 exact⟨Int.eq_of_mul_eq_mul_right (by omega) e,rfl⟩
theorem nN {a b:Int} (ha:0<a) (hb:0<b):a*b≠0:=Int.ne_of_gt (Int.mul_pos ha hb)
theorem FB {k x y:Int} (h:k≠0) (e:k*x=k*y):x=y:=Int.eq_of_mul_eq_mul_left h e
theorem GK {t b c d:Int} (hb:b≠0) (hd:0<d) (g:Int.gcd c d=1) (e:t*d=c*b):frT t b=c/\frB t b=d:=by
 have h:=zq (t:=t) hb
 refine BW (BY hb) hd (Fp hb) g ?_
 refine FB hb ?_
 generalize frT t b=x at *
 generalize frB t b=y at *
 grind
def Sz (n:Nat) (i:Int):Prop:=i.natAbs<2^n
theorem Sz.mono {m n:Nat}{i:Int} (h:Sz m i) (hn:m<=n):Sz n i:=Nat.lt_of_lt_of_le h (Nat.pow_le_pow_right (by decide) hn)
theorem Sz.mul {m n:Nat}{i j:Int} (h1:Sz m i) (h2:Sz n j):Sz (m+n) (i*j):=by
 unfold Sz at *
 rw[Int.natAbs_mul,Nat.pow_add]
 exact Nat.mul_lt_mul'' h1 h2
theorem Sz.fr {n m:Nat}{a b:Int} (h:b≠0) (sa:Sz n a) (sb:Sz m b):Sz n (frT a b)/\Sz m (frB a b):=by
 obtain⟨e1,e2⟩:=iE (t:=a) h
 have nd:=rQ (t:=a) h
 have h1:(frT a b).natAbs<=a.natAbs:=by
  have:a.natAbs=(frD a b).natAbs*(frT a b).natAbs:=by rw[<-Int.natAbs_mul,<-e1]
  rw[this];exact Nat.le_mul_of_pos_left _ (by omega)
 have h2:(frB a b).natAbs<=b.natAbs:=by
  have:b.natAbs=(frD a b).natAbs*(frB a b).natAbs:=by rw[<-Int.natAbs_mul,<-e2]
  rw[this];exact Nat.le_mul_of_pos_left _ (by omega)
 exact⟨Nat.lt_of_le_of_lt h1 sa,Nat.lt_of_le_of_lt h2 sb⟩
end Gc
namespace Ch
def bE:Nat->Nat->Nat
 | _,0=>1
 | 0,_+1=>0
 | n+1,k+1=>bE n k+bE n (k+1)
theorem b0 (n:Nat):bE n 0=1:=by cases n<;>rfl
theorem bs (n k:Nat):bE (n+1) (k+1)=bE n k+bE n (k+1):=rfl
theorem blt:∀ {n k:Nat},n<k->bE n k=0
 | 0,k+1,_=>rfl
 | n+1,k+1,h=>by rw[bs,blt (by omega:n<k),blt (by omega:n<k+1)]
theorem zR:∀ n:Nat,bE n n=1
 | 0=>rfl
 | n+1=>by rw[bs,zR n,blt (Nat.lt_succ_self n)]
theorem CC:∀ n k:Nat,bE n (k+1)*(k+1)=bE n k*(n-k)
 | 0,k=>by rw[show bE 0 (k+1)=0 from rfl];simp
 | n+1,0=>by
  have ih:=CC n 0
  rw[bs,b0,b0]
  rw[b0] at ih
  simp only[Nat.zero_add,Nat.mul_one,Nat.one_mul,Nat.sub_zero] at *
  omega
 | n+1,k+1=>by
  have i1:=CC n k
  have i2:=CC n (k+1)
  rw[bs n (k+1),bs n k]
  by_cases h:k<n
  ·have e1:n-k=(n-(k+1))+1:=by omega
   have e2:n+1-(k+1)=n-k:=by omega
   rw[e2]
   rw[e1] at i1 ⊢
   generalize n-(k+1)=d at *
   have:(bE n (k+1)+bE n (k+1+1))*(k+1+1)=bE n (k+1)*(k+1)+bE n (k+1)+bE n (k+1+1)*(k+1+1):=by
    rw[Nat.add_mul,Nat.mul_add (bE n (k+1)) (k+1) 1,Nat.mul_one]
   rw[this,i1,i2,Nat.add_mul,Nat.mul_add (bE n k) d 1,Nat.mul_add (bE n (k+1)) d 1]
   omega
  ·have z1:bE n (k+1)=0:=blt (by omega)
   have z2:bE n (k+1+1)=0:=blt (by omega)
   have e2:n+1-(k+1)=0:=by omega
   rw[z1,z2,e2];simp
theorem zQ:∀ {n k:Nat},k<=n->bE n (n-k)=bE n k
 | 0,0,_=>rfl
 | n+1,0,_=>by rw[Nat.sub_zero,zR,b0]
 | n+1,k+1,h=>by
  by_cases e:k=n
  ·subst e;rw[Nat.sub_self,b0,zR]
  ·have e1:n+1-(k+1)=(n-(k+1))+1:=by omega
   have e2:n-(k+1)+1=n-k:=by omega
   rw[e1,bs,bs,e2,zQ (by omega:k+1<=n),zQ (by omega:k<=n)]
   omega
theorem GQ (n t:Nat):bE n t*(n-t) / (t+1)=bE n (t+1):=by
 rw[<-CC,Nat.mul_div_cancel _ (Nat.succ_pos t)]
def cho (n k:Int):Int:=if k<0∨n<k then 0 else (bE n.toNat k.toNat:Int)
theorem uv {n k:Int} (h:k<0∨n<k):cho n k=0:=if_pos h
theorem zO {n k:Int} (h0:0<=k) (h1:k<=n):cho n k=(bE n.toNat k.toNat:Int):=if_neg (by omega)
theorem Cs {n k:Int} (h0:0<=k) (h1:k<=n):(bE n.toNat (if n-k<k then n-k else k).toNat:Int)=cho n k:=by
 rw[zO h0 h1]
 by_cases c:n-k<k
 ·rw[if_pos c]
  have e:(n-k).toNat=n.toNat-k.toNat:=by omega
  rw[e,zQ (by omega)]
 ·rw[if_neg c]
theorem zN {n:Int}{t:Nat} (h:(t:Int)<n):(bE n.toNat t:Int)*(n-t) / ((t:Int)+1)=(bE n.toNat (t+1):Int):=by
 rw[<-GQ n.toNat t]
 have e:n-(t:Int)=((n.toNat-t:Nat):Int):=by omega
 rw[e]
 simp
end Ch
namespace L2
open PySem PySem.Spec PyProof.Rows
section
variable {X:Cx}
theorem qb:dJ X (.builtin "isinstance") (λ xs H Q=>∃ x t T b,xs = [x,.ty T]/\iK X.K H x t/\PySem.W.kitOne X.K t (.type T)=some b/\Q (.bl b) H):=by
 intro pins s σ H xs us Q I r h
 obtain⟨x,t,T,b,rfl,ty,e,q⟩:=h
 obtain⟨u,w',rfl,r1,r2⟩:=oB r
 cases r2
 exact vC I r1 ty e λ tk=>⟨.bl b,H,I.tok _,rfl,q⟩
theorem pJ:∀ {ns:List Int}{us:List Value},bg (ns.map V.int) us->∃ xs:Array (Int×Tok),us.toArray=intItems xs/\xs.toList.map (·.1)=ns:=λ {ns us} r=>by
 have hi:IntsAre us ns:=rM r
 obtain⟨xs,hx⟩:=hi.allInts.items
 refine⟨xs,hx,?_⟩
 rw[<-nums_intItems,<-hx]
 exact (show numsOf us.toArray.toList=ns from hi.numsOf)
theorem zP (hc:X.calm=true):dJ X (.builtin "sum") (λ xs H Q=>∃ (p:Addr) (ns:List Int),xs = [.ref p]/\SqL X.K H p (ns.map V.int)/\Q (.int ns.sum) H):=by
 intro pins s σ H xs us Q I r h
 obtain⟨p,ns,rfl,hq,q⟩:=h
 obtain⟨u,rfl,r1⟩:=jd r
 cases r1
 obtain⟨its,rv,pl,hz⟩:=I.list hq
 obtain⟨ys,hy,e1⟩:=pJ rv
 refine sum_intListG (I.ok.hd hc) (hy ▸ pl.isList) λ h' tk t' hk=>?_
 have e2:preSum (numAt ys) ys.size=ns.sum:=by
  rw[preSum_eq,List.take_of_length_le (by simp),e1]
 rw[e2]
 exact⟨.int ns.sum,H,I.kept hk,⟨_,rfl⟩,q⟩
theorem jW:∀ {bs:List Bool}{us:List Value}{i:Nat}{v:Value},bg (bs.map V.bl) us->us[i]? = some v->∃ b,bs[i]? = some b/\v=.bool b
 | [],_,_,_,.nil,e=>by simp at e
 | b::bs,_,0,v,.cons r t,e=>by
  simp at e;subst e
  exact⟨b,rfl,r⟩
 | b::bs,_,i+1,v,.cons r t,e=>by
  obtain⟨c,h1,h2⟩:=jW (i:=i) (v:=v) t (by simpa using e)
  exact⟨c,by simpa using h1,h2⟩
theorem qc (hc:X.calm=true):dJ X (.builtin "all") (λ xs H Q=>∃ (p:Addr) (bs:List Bool),xs = [.ref p]/\SqL X.K H p (bs.map V.bl)/\Q (.bl (bs.all id)) H):=by
 intro pins s σ H xs us Q I r h
 obtain⟨p,bs,rfl,hq,q⟩:=h
 obtain⟨u,rfl,r1⟩:=jd r
 cases r1
 obtain⟨its,rv,pl,hz⟩:=I.list hq
 have hl:=pl.isList
 have hlt:p<s.heap.objs.size:=by obtain⟨_,e,_⟩:=hl;exact Heap.lt_size e
 have hlen:bs.length=its.length:=by have:=rv.length;rw[List.length_map] at this;exact this
 refine call_all_walk (wpAny_pyIter_list hl ?_)
 refine⟨s.heap.objs.size,[s.heap.objs.size,p],[s.heap.objs.size],its.toArray.size,_,_,λ i=>(bs[i]?).getD true,rfl,Walks.list (A:=X.A.in1) (I.ok.hd hc) _ p (Nat.ne_of_lt hlt) its.toArray,
  ⟨⟨_,Heap.get?_push_size _ rfl,rfl,rfl⟩,hl.push _⟩,λ i v s' Q' E' hP hQ=>?_,λ h' tk hk=>?_⟩
 ·obtain⟨b,e,rfl⟩:=jW (i:=i) (v:=v) rv (by simpa using hP)
  simp only[e,Option.getD_some] at hQ
  exact wpAny_truthy_bool hQ
 ·have e:((List.range its.toArray.size).all λ i=>(bs[i]?).getD true)=bs.all id:=by
   rw[List.size_toArray,<-hlen];exact LSm.range_all bs
  rw[e]
  exact⟨.bl (bs.all id),H,I.kept (LSm.kept_iter hk),rfl,q⟩
end
theorem boot_min:bootBuiltins "min" = some (.builtin "min"):=PyProof.Rows.boot_min
theorem boot_sum:bootBuiltins "sum" = some (.builtin "sum"):=PyProof.Rows.boot_sum
theorem boot_all:bootBuiltins "all" = some (.builtin "all"):=PyProof.Rows.boot_all
theorem boot_abs:bootBuiltins "abs" = some (.builtin "abs"):=PyProof.Rows.boot_abs
theorem boot_isinstance:bootBuiltins "isinstance" = some (.builtin "isinstance"):=PyProof.Rows.boot_isinstance
theorem boot_int:bootBuiltins "int" = some (.type "int"):=PyProof.Rows.boot_int
theorem boot_bool:bootBuiltins "bool" = some (.type "bool"):=PyProof.Rows.boot_bool
theorem boot_tuple:bootBuiltins "tuple" = some (.type "tuple"):=PyProof.Rows.boot_tuple
theorem boot_list:bootBuiltins "list" = some (.type "list"):=PyProof.Rows.boot_list
theorem nW {α:Type}{ns:List α}{i:Nat}{d:α} (h:i<ns.length):ns.getD i d=ns[i]:=by simp [List.getD,h]
theorem aw {H:Hp}{p:Addr} (h:H p=none) (o:HO):aA H (upd H p o):=λ b u q=>by rw[aM (aZ q h)];exact q
theorem ofD {p:Prop} [Decidable p] (h:¬ decide p=true):¬ p:=of_decide_eq_false (Bool.eq_false_iff.mpr h)
theorem uD {cs:List (Str×Addr)}{x:Str}{c:Addr} (h:cs.lookup x=some c):∀ y c',[(x,c)].lookup y=some c'->cs.lookup y=some c':=λ y c' e=>by
 by_cases z:y=x
 ·subst z
  simp at e
  subst e
  exact h
 ·have:(y == x)=false:=by simpa using z
  simp [List.lookup,this] at e
theorem ux {ns:List Int}{i:Int} (h0:0<=i) (h1:i<(ns.length:Int)):atI (ns.map V.int) i=some (.int (ns.getD i.toNat 0)):=by
 have hk:i.toNat<ns.length:=by omega
 have ek:i=((i.toNat:Nat):Int):=by omega
 have z:atI (ns.map V.int) ((i.toNat:Nat):Int)=some (.int ns[i.toNat]):=cy (by rw[List.getElem?_map,List.getElem?_eq_getElem hk]<;>rfl)
 rw[<-ek] at z
 rw[z,nW hk]
theorem md0 (c:Int) {m:Int} (h:0<m):0<=c%m:=Int.emod_nonneg _ (by omega)
theorem md1 (c:Int) {m:Int} (h:0<m):c%m<m:=Int.emod_lt_of_pos _ h
end L2
namespace L2
open PySem PySem.Spec PyProof.Rows
noncomputable def bt (X:Cx) (N':List Str) (scope:Scope) (cl:List (Str×Addr)) (C:Addr) (s3:Shared) (H3:Hp) (fp:List Addr):Cx where
 prog:=X.prog
 w:=X.w
 K:=X.K
 mg:=X.mg
 base:=X.base
 A:=X.A
 N:=N'
 s₀:=s3
 H₀:=H3
 env:=compEnvC scope cl C X.env
 outer:=X.stack
 stack:=X.stack
 ex:=fp
 fn:=λ _=>false
 calm:=X.calm
 pn:=[]
 xe:=λ _ _=>False
def eB (σ:St) (fr:List Nat):St:=fr.map λ j=>(σ[j]?).getD none
def ja (J:It) (te:TE) (st:St) (D:Addr) (H1:Hp) (Q:VK):Prop :=
 ∃ W:Nat->Nat->List V->Hp->Prop,(∃ m,W 0 m [] (upd H1 D (.lst [])))/\∀ i m ys H2,W i m ys H2 ->
  (J.stop i H2/\Q (.ref D) H2)∨(J.go i H2/\∀ x H3,J.yld i H2 x H3->te (some x::st) H3 λ y H4=>H4 D=some (.lst ys)/\ys.length<sizeLine/\∃ m',m'<m/\W (i+1) m' (ys++[y]) (upd H4 D (.lst (ys++[y]))))
def F1 (wi:TI) (fr:List Nat) (te:TE):TE:=λ σ H Q=>wi σ H λ J H1=>∀ D,H1 D=none->ja J te (eB σ fr) D H1 Q
theorem rY {lo:Int}{n:Nat}{te:TE}{st:St}{H1:Hp}{Q:VK}{D:Addr} (f:Nat->V) (hD:H1 D=none) (hn:n<=sizeLine)
  (hs:∀ (i:Nat) (H2:Hp) (k:VK),i<n->aA H1 H2->(∀ H4,aA H2 H4->k (f i) H4)->te (some (.int (lo+i))::st) H2 k)
  (hd:∀ H2,aA H1 H2->H2 D=some (.lst ((List.range n).map f))->Q (.ref D) H2):ja (Itr lo n) te st D H1 Q:=by
 have same:∀ {H2:Hp}{o:HO},aA H1 H2->aA H1 (upd H2 D o):=λ {H2 o} h b u e=>by rw[aM (aZ e hD)];exact h b u e
 refine⟨λ i m ys H2=>m=n-i/\i<=n/\ys=(List.range i).map f/\aA H1 H2/\H2 D=some (.lst ys),⟨n,by simp,Nat.zero_le _,rfl,same (aA.refl H1),ai⟩,?_⟩
 rintro i m ys H2 ⟨rfl,hi,rfl,sm,e⟩
 by_cases hlt:i<n
 ·refine .inr ⟨hlt,λ x H3 y=>?_⟩
  obtain⟨e1,e2⟩:=y
  subst e1 e2
  have ln:((List.range i).map f).length=i:=by rw[List.length_map,List.length_range]
  refine hs i _ _ hlt sm λ H4 s4=>⟨s4 _ _ e,by rw[ln];omega,n-(i+1),by omega,rfl,hlt,?_,same (sm.trans s4),ai⟩
  rw[List.range_succ,List.map_append]<;>rfl
 ·have ei:i=n:=by omega
  subst ei
  exact .inl ⟨Nat.le_refl _,hd _ sm e⟩
structure FK (X:Cx) (x:Str) (ts:List (Str×Nat)) (scope:Scope) (cl:List (Str×Addr)):Prop where
 clos:closureFor scope X.env=pure cl
 sub:∀ y c,cl.lookup y=some c->X.env.cells.lookup y=some c
 nocell:(scope.names.all λ p=>p.2 != .cell)=true
 kind:scope.kind=.function
 locs:(scope.names.all λ p=>p.2 != .local || scope.names.lookup p.1 == some .local)=true
 var:scope.names.lookup x=some .local
 nd:(x::ts.map (·.1)).Nodup
 around:(ts.all λ p=>decide (X.N[p.2]? = some p.1) && (X.env.kindOf p.1 == some .cell || X.env.kindOf p.1 == some .free) && (cl.lookup p.1).isSome &&
  ((relabel scope X.env).names.lookup p.1 == some .cell || (relabel scope X.env).names.lookup p.1 == some .free))=true
 has:((relabel scope X.env).names.all λ p=>!(p.2 == .cell || p.2 == .free) || (cl.lookup p.1).isSome)=true
abbrev GA (x:Str) (ts:List (Str×Nat)):List Str:=x::ts.map (·.1)
abbrev dG (ts:List (Str×Nat)):List Nat:=ts.map (·.2)
end L2
namespace L2
open PySem PySem.Spec PyProof.Rows
inductive Th where
 | non | bl (b:Bool) | int (i:Int) | str (x:Str) | lst (xs:List Th) | tup (xs:List Th) | emp | dic
mutual
def Den (H:Hp):Th->V->Prop
 | .non,v=>v=.non
 | .bl b,v=>v=.bl b
 | .int i,v=>v=.int i
 | .str x,v=>v=.str x
 | .lst ts,v=>∃ a xs,v=.ref a/\H a=some (.lst xs)/\bu H ts xs
 | .tup ts,v=>∃ a xs,v=.ref a/\H a=some (.tup xs)/\bu H ts xs
 | .emp,v=>∃ a,v=.ref a/\H a=some (.dK [])
 | .dic,v=>∃ a kvs,v=.ref a/\H a=some (.dK kvs)
def bu (H:Hp):List Th->List V->Prop
 | [],xs=>xs = []
 | t::ts,xs=>∃ y ys,xs=y::ys/\Den H t y/\bu H ts ys
end
mutual
theorem Den.keep {H H':Hp} (s:aA H H'):∀ {t:Th}{v:V},Den H t v->Den H' t v
 | .non,_,h=>h
 | .bl _,_,h=>h
 | .int _,_,h=>h
 | .str _,_,h=>h
 | .lst _,_,⟨a,xs,e,h,d⟩=>⟨a,xs,e,s _ _ h,bu.keep s d⟩
 | .tup _,_,⟨a,xs,e,h,d⟩=>⟨a,xs,e,s _ _ h,bu.keep s d⟩
 | .emp,_,⟨a,e,h⟩=>⟨a,e,s _ _ h⟩
 | .dic,_,⟨a,k,e,h⟩=>⟨a,k,e,s _ _ h⟩
theorem bu.keep {H H':Hp} (s:aA H H'):∀ {ts:List Th}{xs:List V},bu H ts xs->bu H' ts xs
 | [],_,h=>h
 | _::_,_,⟨y,ys,e,d,ds⟩=>⟨y,ys,e,Den.keep s d,bu.keep s ds⟩
end
theorem bu.len {H:Hp}:∀ {ts:List Th}{xs:List V},bu H ts xs->xs.length=ts.length
 | [],_,h=>by rw[show _ = [] from h];rfl
 | _::_,_,⟨y,ys,e,d,ds⟩=>by rw[e,List.length_cons,List.length_cons,bu.len ds]
theorem bu.get {H:Hp}:∀ {ts:List Th}{xs:List V}{i:Nat}{t:Th},bu H ts xs->ts[i]? = some t->∃ v,xs[i]? = some v/\Den H t v
 | _::_,_,0,t,⟨y,ys,e,d,ds⟩,h=>by
  rw[List.getElem?_cons_zero] at h
  cases h
  exact⟨y,by rw[e];rfl,d⟩
 | _::_,_,i+1,t,⟨y,ys,e,d,ds⟩,h=>by
  rw[List.getElem?_cons_succ] at h
  obtain⟨v,h1,h2⟩:=bu.get ds h
  exact⟨v,by rw[e,List.getElem?_cons_succ];exact h1,h2⟩
noncomputable def lG:Th->Value
 | .non=>.type "NoneType"
 | .bl _=>.type "bool"
 | .int _=>.type "int"
 | .str _=>.type "str"
 | .lst _=>.type "list"
 | .tup _=>.type "tuple"
 | .emp=>.type "dict"
 | .dic=>.type "dict"
theorem Den.ty {K:PySem.W.Frag}{H:Hp}:∀ {t:Th}{v:V},Den H t v->iK K H v (lG t)
 | .non,_,h=>by cases (show _=V.non from h);exact .non
 | .bl b,_,h=>by cases (show _=V.bl b from h);exact .bl b
 | .int i,_,h=>by cases (show _=V.int i from h);exact .int i
 | .str x,_,h=>by cases (show _=V.str x from h);exact .str x
 | .lst _,_,⟨a,xs,e,h,_⟩=>by subst e;exact .lst h
 | .tup _,_,⟨a,xs,e,h,_⟩=>by subst e;exact .tup h
 | .emp,_,⟨a,e,h⟩=>by subst e;exact .dK h
 | .dic,_,⟨a,k,e,h⟩=>by subst e;exact .dK h
def nR:Th->Bool
 | .int _=>true
 | .bl _=>true
 | _=>false
def nS:Th->Bool
 | .bl _=>true
 | _=>false
def y7:Th->Bool
 | .tup _=>true
 | _=>false
def Fj:Th->Bool
 | .lst _=>true
 | _=>false
theorem BN {K:PySem.W.Frag} (t:Th):PySem.W.kitOne K (lG t) (.type "int")=some (nR t):=by cases t<;>rfl
theorem yZ {K:PySem.W.Frag} (t:Th):PySem.W.kitOne K (lG t) (.type "bool")=some (nS t):=by cases t<;>rfl
theorem vz {K:PySem.W.Frag} (t:Th):PySem.W.kitOne K (lG t) (.type "tuple")=some (y7 t):=by cases t<;>rfl
section
variable {X:Cx}
theorem BM {pins:List (Addr×Obj)}{σ:St}{H:Hp}{s:Shared}{t:Th}{x:V}{u:Value} (I:Inv X pins σ H s) (rx:bw x u) (d:Den H t x):∃ HP:Heap->Prop,PySem.W.KitX X.K u (lG t) HP/\HP s.heap/\u≠.builtin "__main__.__loader__#opaque":=by
 cases t with
 | non=>cases (show x=V.non from d);cases (show u=Value.none from rx);exact⟨_,PySem.W.kitx_none,True.intro,λ z=>nomatch z⟩
 | bl b=>cases (show x=V.bl b from d);cases (show u=Value.bool b from rx);exact⟨_,PySem.W.kitx_bool,True.intro,λ z=>nomatch z⟩
 | int i=>cases (show x=V.int i from d);obtain⟨k,q⟩:=(show ∃ k,u=Value.int i k from rx);cases q;exact⟨_,PySem.W.kitx_int,True.intro,λ z=>nomatch z⟩
 | str y=>cases (show x=V.str y from d);obtain⟨k,q⟩:=(show ∃ k,u=Value.str y k from rx);cases q;exact⟨_,PySem.W.kitx_str,True.intro,λ z=>nomatch z⟩
 | lst ts =>
  obtain⟨a,xs,e,h,_⟩:=d
  subst e
  cases (show u=Value.ref a from rx)
  obtain⟨_,_,n,_,h1⟩:=(show bx X.prog X.w H s.heap a (.lst xs) from I.hok a _ h)
  exact⟨_,PySem.W.kitx_list,⟨_,h1,rfl⟩,λ z=>nomatch z⟩
 | tup ts =>
  obtain⟨a,xs,e,h,_⟩:=d
  subst e
  cases (show u=Value.ref a from rx)
  obtain⟨_,_,_,p⟩:=(show bx X.prog X.w H s.heap a (.tup xs) from I.hok a _ h)
  obtain⟨o,h1,h2,_⟩:=p
  exact⟨_,PySem.W.kitx_tuple,⟨o,h1,h2⟩,λ z=>nomatch z⟩
 | emp =>
  obtain⟨a,e,h⟩:=d
  subst e
  cases (show u=Value.ref a from rx)
  obtain⟨_,_,vs,_,p⟩:=(show bx X.prog X.w H s.heap a (.dK []) from I.hok a _ h)
  obtain⟨o,es,ep,h1,h2,_⟩:=p
  exact⟨_,PySem.W.kitx_dict,⟨o,h1,h2.1⟩,λ z=>nomatch z⟩
 | dic =>
  obtain⟨a,kvs,e,h⟩:=d
  subst e
  cases (show u=Value.ref a from rx)
  obtain⟨_,_,vs,_,p⟩:=(show bx X.prog X.w H s.heap a (.dK kvs) from I.hok a _ h)
  obtain⟨o,es,ep,h1,h2,_⟩:=p
  exact⟨_,PySem.W.kitx_dict,⟨o,h1,h2.1⟩,λ z=>nomatch z⟩
theorem oA:∀ {Ts:List String}{us:List Value},bg (Ts.map V.ty) us->us=Ts.map Value.type
 | [],_,.nil=>rfl
 | T::Ts,_,.cons r t=>by rw[oA t,show _=Value.type T from r];rfl
theorem n9:dJ X (.builtin "isinstance") (λ xs H Q=>∃ (x:V) (p:Addr) (t:Th) (Ts:List String) (b:Bool),xs = [x,.ref p]/\H p=some (.tup (Ts.map V.ty))/\Den H t x/\PySem.W.kitAny X.K (lG t) (Ts.map Value.type)=some b/\Q (.bl b) H):=by
 intro pins s σ H xs us Q I r h
 obtain⟨x,p,t,Ts,b,rfl,hp,d,e,q⟩:=h
 obtain⟨u,w',rfl,r1,r2⟩:=oB r
 cases r2
 obtain⟨HP,Z,hz,hx⟩:=BM I r1 d
 obtain⟨_,its,rv,tp⟩:=(show bx X.prog X.w H s.heap p (.tup (Ts.map V.ty)) from I.hok p _ hp)
 have ei:=oA rv
 subst ei
 obtain⟨⟨cls,dd,data,sl⟩,h1,h2,n,h3⟩:=tp
 simp only at h2 h3
 subst h2 h3
 exact PySem.W.kia_tup Z I.kIn hz h1 e hx λ tk=>⟨.bl b,H,I.tok _,rfl,q⟩
theorem cU:dJ X (.builtin "isinstance") (λ xs H Q=>∃ x t T b,xs = [x,.ty T]/\Den H t x/\PySem.W.kitOne X.K (lG t) (.type T)=some b/\Q (.bl b) H):=by
 intro pins s σ H xs us Q I r h
 obtain⟨x,t,T,b,e,d,k,q⟩:=h
 exact qb pins s σ H xs us Q I r ⟨x,lG t,T,b,e,d.ty,k,q⟩
mutual
def jE:Th->Nat
 | .lst ts=>iF ts+1
 | .tup ts=>iF ts+1
 | .emp=>1
 | .dic=>cLine+1
 | .non | .bl _ | .int _ | .str _=>0
def iF:List Th->Nat
 | []=>0
 | t::ts=>max (jE t) (iF ts)
end
theorem gy:∀ {ts:List Th}{i:Nat}{t:Th},ts[i]? = some t->jE t<=iF ts
 | _::_,0,_,h=>by
  rw[List.getElem?_cons_zero] at h
  cases h
  exact Nat.le_max_left _ _
 | _::_,_+1,_,h=>by
  rw[List.getElem?_cons_succ] at h
  exact Nat.le_trans (gy h) (Nat.le_max_right _ _)
def Hz (K:PySem.W.Frag) (tl:TE):TI:=λ σ H R=>tl σ H λ x H1=>∃ a xs,x=.ref a/\((SqL K H1 a xs/\R (Itl K a) H1)∨(SqT K H1 a xs/\R (Itt K a) H1))
theorem Eu {tg l:Expr}{tl:TE} (hl:PE X l tl):PI X tg l (Hz X.K tl):=by
 intro pins s σ H R I h
 refine thn (hl pins s σ H _ I h) λ v s1 ⟨x,H1,I1,r1,q1⟩=>?_
 obtain⟨a,xs,e,q⟩:=q1
 subst e
 cases r1
 rcases q with ⟨hq,q⟩ | ⟨hq,q⟩
 ·obtain⟨its,rv,p,hz⟩:=I1.list hq
  refine wpAny_pyIter_list p.isList ?_
  refine⟨s1.heap.objs.size,[s1.heap.objs.size],_,_,H1,rfl,I1.kept (t':=s1.toks) λ b o e=>Heap.get?_push_of_some _ e,l5 a _,⟨_,Heap.get?_push_size _ rfl,rfl,rfl⟩,λ b hb=>?_,q⟩
  have e:b=s1.heap.objs.size:=by simpa using hb
  subst e
  exact I1.fpOk (Nat.le_refl _) (I1.hok.fresh (Nat.le_refl _))
 ·obtain⟨its,rv,p,hz⟩:=I1.tuple hq
  refine wpAny_pyIter_tuple (show s1.heap.IsTuple a its.toArray from p) ?_
  refine⟨s1.heap.objs.size,[s1.heap.objs.size],_,_,H1,rfl,I1.kept (t':=s1.toks) λ b o e=>Heap.get?_push_of_some _ e,jZ a _,⟨_,Heap.get?_push_size _ rfl,rfl,rfl⟩,λ b hb=>?_,q⟩
  have e:b=s1.heap.objs.size:=by simpa using hb
  subst e
  exact I1.fpOk (Nat.le_refl _) (I1.hok.fresh (Nat.le_refl _))
end
end L2
namespace L2
open PySem PySem.Spec PyProof.Rows
def Bg (i:Int):Prop:=Builtin.Int.intBits i<=1048576
open PySem.W in
theorem vX {ns:List Int} (h:WData.layableAll [WData.list (ns.map WData.int)]=true):∀ i∈ns,Bg i:=λ i hi=>by
 have h1:=layableW_arg h _ (List.mem_singleton.mpr rfl)
 have h2:=layableW_item h1 (.int i) (List.mem_map.mpr ⟨i,hi,rfl⟩)
 have h3:=(layableW_iff.mp h2).2.2
 exact h3
open PySem.W in
theorem CH {l:OpenLaw}{n:Nat}{q:Program}{loose:List Str}{XP:(Str->Option Value)->Heap->Prop}{YP:World->Heap->Prop}{d:DefRec}
  (hn:l.most=some n) (hdf:d.params.defaults = [])
  (run:∀ (w:World) (s0 s1:Shared) (mg mb:Str->Option Value) (fa:Addr) (o:Obj) (pm cd doc:Value) (a:Addr) (vs:List Value) (ns:List Int),
   Ground q loose [] XP w s0 mg mb s1.heap->YP w s1.heap ->
   s1.heap.get? fa=some o->o.data=.func (Calls.docDef d.name d.params d.body d.scope pm cd doc)->s1.heap.CodeRec cd d.name->mg d.name=some (.ref fa) ->
   s1.heap.get? a=some {cls:=.type "list",data:=.seq vs.toArray}->IntsAre vs ns->ns.length<=n->(∀ i∈ns,Bg i)->s1.gens=#[] ->
   codeAny (model l.prog w) callerA (.call (.ref fa) ⟨[.ref a],[]⟩) (λ r s'=>r=.ok (.ret (.bool true))/\OldK s1.heap s'.heap/\s'.os=s1.os/\AllBare s'.gens) s1) :
  WalkO q loose XP YP l.row.toRowW d [] (λ f vs=>PySem.call f vs):=by
 intro w s0 s1 mg mb G Y fa o pm cd doc dV kV ho hd hcd hD hmg hg args vals as hpre hlay hrd hwl hlo
 obtain rfl:dV=.none:=Dflts.none hD hdf
 obtain rfl:kV=.none:=Dflts.noKw hD
 obtain⟨a,vs,ns,rfl,rfl,hobj,hints,hlen⟩:=Att.uH hn hpre hwl
 have hbg:=vX hlay
 refine enter_call (codeAny_mono (run w s0 s1 mg mb fa o pm cd doc a vs ns G Y ho (fd_plain hd) hcd hmg hobj hints hlen hbg hg) λ r s' hq=>?_)
 obtain⟨e1,h2,h3,h4⟩:=hq
 subst e1
 exact⟨.inl ⟨.bool true,.bool true,[],rfl,λ _=>rfl,.bool true,Att.uS l _,λ _=>⟨List.Pairwise.nil,λ _ hm=>(nomatch hm)⟩⟩,h2,h3,h4⟩
theorem wb {l:PySem.W.OpenLaw}{n k:Nat}{q:Program}{loose:List Str}{XP:(Str->Option Value)->Heap->Prop}{YP:World->Heap->Prop}{d:DefRec}{K:Params->PySem.W.Frag}{CX:World->CXT}{sp:World->Sp}{x:Str}
  (hn:l.most=some n) (hn2:n<=sizeLine) (hdf:d.params.defaults = []) (hr:cF k callerA)
  (hY:∀ (w:World) (h:Heap),YP w h->(K w.params).In h)
  (F:∀ (w:World) (mg:Str->Option Value) (fa:Addr) (h:Heap),(K w.params).In h->h.Ns mainGlobals mg->mg d.name=some (.ref fa) ->
   ∃ fd:FuncData,(∀ (s:Shared) (u:Value),BindsTo s fd ⟨[u],[]⟩ [(x,u)]) /\
    ∀ base:Heap,(K w.params).In base->base.Ns mainGlobals mg->aS l.prog w (K w.params) mg base (CX w) k fa fd [x] (sp w))
  (hsp:∀ (w:World) (H:Hp) (a:Addr) (ns:List Int),ns.length<=n->(∀ i∈ns,Bg i)->FE H->SqL (K w.params) H a (ns.map V.int)->sp w [.ref a] H (λ v _=>v=.bl true) λ _ _ _=>False)
  (hCX:∀ (w:World) (H:Hp) (s:Shared) (e:Value) (s':Shared),CX w [] H s (λ _ _ _=>False) e s'->False) :
  PySem.W.WalkO q loose XP YP l.row.toRowW d [] (λ f vs=>PySem.call f vs):=by
 refine CH hn hdf λ w s0 s1 mg mb fa o pm cd doc a vs ns G Y ho hd hcd hmg hobj hints hlen hbg hg=>?_
 have KX:=hY w _ Y
 obtain⟨fd,hb,hF⟩:=F w mg fa _ KX G.T.g hmg
 exact yY KX G.T.g G.T.b G.T.builtins G.T.nolimit hg hobj hints (Nat.le_trans hlen hn2) hr hF hb (λ H hO hS=>hsp w H a ns hlen hbg hO hS) λ H e s'=>hCX w H s1 e s'
theorem Inv.big {X:Cx}{pins:List (Addr×Obj)}{σ:St}{H:Hp}{s:Shared} (I:Inv X pins σ H s):sysModules<s.heap.objs.size:=by
 have h:mainGlobals<s.heap.objs.size:=(I.mod.glob.keeps I.bk).lt
 exact Nat.lt_trans (by decide) h
theorem zG {P:Program}{w:World}{H:Hp} (h:Heap) (hb:sysModules<h.objs.size):bx P w H (h.push {cls:=.type "dict",data:=.dict #[]}) h.objs.size (.dK []) :=
 ⟨Nat.zero_le _,beq_eq_false_iff_ne.mpr (Ne.symm (Nat.ne_of_lt hb)),[],.nil,Heap.DictOf.new h⟩
def DQ:TE:=λ _ H Q=>∀ p,H p=none->Q (.ref p) (upd H p (.dK []))
theorem yq {X:Cx}{pos:Pos}:PE X (.Dict [] [] pos) DQ:=λ pins s σ H Q I h =>
 wpAny_Dict_empty ⟨.ref s.heap.objs.size,_,I.laid (a:=s.heap.objs.size) (o:=.dK []) (t':=s.toks) (λ _ _ q=>Heap.get?_push_of_some _ q) (Nat.le_refl _) (zG s.heap I.big),rfl,h _ (I.hok.fresh (Nat.le_refl _))⟩
theorem bu.at {H:Hp}{ts:List Th}{xs:List V}{i:Int} (d:Th) (h:bu H ts xs) (h0:0<=i) (h1:i<(ts.length:Int)):∃ v,atI xs i=some v/\Den H (ts.getD i.toNat d) v:=by
 have hk:i.toNat<ts.length:=by omega
 have ek:i=((i.toNat:Nat):Int):=by omega
 obtain⟨v,e,q⟩:=h.get (List.getElem?_eq_getElem hk)
 have z:=cy e
 rw[<-ek] at z
 refine⟨v,z,?_⟩
 rw[nW hk];exact q
end L2
namespace L2
open PySem PySem.Spec PyProof.Rows
theorem bx.there {P:Program}{w:World}{H:Hp}{h:Heap}{a:Addr}{o:HO} (k:bx P w H h a o):∃ ob,h.get? a=some ob:=by
 cases o with
 | lst _=>obtain⟨_,_,_,_,e⟩:=k;exact⟨_,e⟩
 | tup _=>obtain⟨_,_,_,o,e,_⟩:=k;exact⟨o,e⟩
 | dK _=>obtain⟨_,_,_,_,o,_,_,e,_⟩:=k;exact⟨o,e⟩
 | dT _=>obtain⟨_,_,_,_,o,_,_,e,_⟩:=k;exact⟨o,e⟩
 | set _ _=>obtain⟨o,_,_,_,e,_⟩:=k;exact⟨o,e⟩
 | ins _ _ _=>obtain⟨_,_,_,e,_⟩:=k;exact⟨_,e⟩
 | own _=>obtain⟨o,e⟩:=k;exact⟨o,e⟩
 | xd _=>obtain⟨_,⟨o,_,_,e,_⟩,_⟩:=k;exact⟨o,e⟩
 | rng _ _=>obtain⟨_,_,_,e⟩:=k;exact⟨_,e⟩
 | frz _ _=>obtain⟨e,_⟩:=k;exact⟨_,e⟩
 | tbl _=>exact⟨_,k⟩
 | met _ _=>exact⟨_,k⟩
 | ext _=>obtain⟨_,⟨o,e⟩,_⟩:=k;exact⟨o,e⟩
def Fly (l:List Env) (h0:Heap) (H':Hp) (e:Addr) (cls:Value) (h:Heap):Prop :=
 ∃ (B:Heap) (t:Addr),Heap.FlyingW B l e cls (.ref t) h/\h0.get? e=none/\H' e=none /\
  ∀ b o,h.get? b=some o->((∃ o',h0.get? b=some o')∨∃ u,H' b=some u)->b ∉ frs l->B.get? b=some o
def CXX (P:Program) (w:World):CXT:=λ outer H s E e s' =>
 ∃ a cls H',e=.ref a/\s'.os=s.os/\AllBare s'.gens/\Un (frs outer) [] H H' s.heap s'.heap/\HOk P w H' s'.heap/\Fly outer s.heap H' a cls s'.heap/\E cls none H'
theorem vO {P:Program}{w:World}{H:Hp}{s:Shared}{e:Value}{s':Shared}{l:List Env} (h:CXX P w l H s (λ _ _ _=>False) e s'):False:=by
 obtain⟨_,_,_,_,_,_,_,_,_,q⟩:=h
 exact q
theorem fh {P:Program}{w:World}{fs:List Addr}{l:List Env}{base B h0 h h5:Heap}{H H':Hp} (un:Un fs [] H H' h0 h) (hok:HOk P w H' h)
  (kB:∀ b o,h.get? b=some o->((∃ o',h0.get? b=some o')∨∃ u,H' b=some u)->b ∉ frs l->B.get? b=some o)
  (ff:h.FunFrames base l) (hfs:∀ b∈fs,b∈frs l) (hl:∀ b∈frs l,b ∉ fs->h0.get? b=none) (hu:∀ b∈frs l,H' b=none)
  (st:B.StaysIn h5) (up:h.UpToSlots h5):Un fs [] H H' h0 h5/\HOk P w H' h5:=by
 have kk:∀ b o,h.get? b=some o->(∃ o',h0.get? b=some o')->b ∉ fs->h5.get? b=some o:=λ b o e1 ⟨o',e0⟩ hb=>by
  refine st b o (kB b o e1 (.inl ⟨o',e0⟩) λ z=>?_)
  rw[hl b z hb] at e0;cases e0
 have ks:∀ b o,h.get? b=some o->b∈fs->∃ sl,h5.get? b=some {o with slots:=sl}:=λ b o e1 hb=>by
  obtain⟨_,o2,e2,nf⟩:=ff.mem (hfs b hb)
  rw[e1] at e2;cases e2
  exact up b o e1 nf
 refine⟨⟨λ b o e n hb hx=>kk b o (un.keep b o e n hb hx) ⟨o,e⟩ hb,λ b o e n hb hx=>?_,un.free,λ b o e hx=>?_,un.tups,un.frzs,un.tbls⟩,λ a o e=>?_⟩
 ·obtain⟨s1,e1⟩:=un.slot b o e n hb hx
  obtain⟨s2,e2⟩:=ks b _ e1 hb
  exact⟨s2,e2⟩
 ·obtain⟨o',e1⟩:=un.there b o e hx
  by_cases hb:b∈fs
  ·obtain⟨s2,e2⟩:=ks b _ e1 hb
   exact⟨_,e2⟩
  ·exact⟨o',kk b o' e1 ⟨o,e⟩ hb⟩
 ·have tr:∀ b u v,H' b=some u->h.get? b=some v->h5.get? b=some v:=λ b u v q e1=>st b v (kB b v e1 (.inr ⟨u,q⟩) λ z=>by rw[hu b z] at q;cases q)
  refine (hok a o e).stay (λ b v hb q=>?_) (λ _ q=>q) λ _ _ q=>q
  rcases hb with z | z
  ·subst z;exact tr b o v e q
  ·exact tr b _ v z q
structure dI (X:Cx):Prop where
 st:X.stack=X.env::X.outer
 fr:X.env.frame=some X.env.locals
 ex:X.ex = []
section
variable {X:Cx}{pins:List (Addr×Obj)}{σ:St}{H:Hp}{s:Shared}{E:XK}{M:Model}
theorem Inv.gone (I:Inv X pins σ H s) (dx:dI X) {e:Addr} (n:s.heap.get? e=none):X.s₀.heap.get? e=none/\H e=none:=by
 constructor
 ·cases q:X.s₀.heap.get? e with
  | none=>rfl
  | some o =>
   obtain⟨o',z⟩:=I.base.there e o q (by rw[dx.ex];simp)
   rw[n] at z;cases z
 ·cases q:H e with
  | none=>rfl
  | some u =>
   obtain⟨o',z⟩:=(I.hok e u q).there
   rw[n] at z;cases z
theorem Inv.notMine (I:Inv X pins σ H s) {b:Addr}{o:Obj} (e:X.s₀.heap.get? b=some o):b≠X.env.locals:=Nat.ne_of_lt (Nat.lt_of_lt_of_le (Heap.lt_size e) I.ok.above)
theorem jR (dx:dI X) (I:Inv X pins σ H s) {B h':Heap}{e t:Addr}{cls:Value}
  (kB:∀ b o,s.heap.get? b=some o->((∃ o',X.s₀.heap.get? b=some o')∨∃ u,H b=some u)->b ∉ frs X.stack->B.get? b=some o)
  (fw:Heap.FlyingW B X.outer e cls (.ref t) h') (up:s.heap.UpToSlots h') (ne:X.s₀.heap.get? e=none) (hn:H e=none) (q:E cls none H) :
  CXX X.prog X.w X.outer X.H₀ X.s₀ E (.ref e) {s with heap:=h'}:=by
 have un0:Un X.fs [] X.H₀ H X.s₀.heap s.heap:=by have:=I.base;rw[dx.ex] at this;exact this
 have sub:∀ b∈X.fs,b∈frs X.stack:=λ b hb=>by
  rw[dx.st];unfold frs;rw[List.filterMap_cons,dx.fr];exact List.mem_cons_of_mem _ hb
 have hl:∀ b∈frs X.stack,b ∉ X.fs->X.s₀.heap.get? b=none:=λ b hb hn=>by
  rcases List.mem_cons.mp (I.stkSub b hb) with z | z
  ·cases q:X.s₀.heap.get? b with
   | none=>rfl
   | some o=>exact absurd z (I.notMine q)
  ·exact absurd z hn
 obtain⟨un,hok⟩:=fh (h5:=h') un0 I.hok kB I.stack sub hl I.stkFree fw.1 up
 refine⟨e,cls,H,rfl,I.os,I.bare,un,hok,⟨B,t,fw,ne,hn,λ b o e1 hz hb=>?_⟩,q⟩
 have there:∃ o2,s.heap.get? b=some o2:=by
  rcases hz with ⟨o',z⟩ | ⟨u,z⟩
  ·exact un0.there b o' z (by simp)
  ·exact (I.hok b u z).there
 have nst:b ∉ frs X.stack:=λ z=>by
  rcases List.mem_cons.mp (I.stkSub b z) with y | y
  ·rcases hz with ⟨o',q⟩ | ⟨u,q⟩
   ·exact I.notMine q y
   ·rw[I.stkFree b z] at q;cases q
  ·exact hb y
 obtain⟨o2,e2⟩:=there
 have e3:=kB b o2 e2 hz nst
 have e4:=fw.1 b o2 e3
 have e1':h'.get? b=some o:=e1
 rw[e1'] at e4
 cases e4
 exact e3
theorem rH (dx:dI X) (I:Inv X pins σ H s) {h1:Heap}{e:Addr}{cls:Value}{args:List Value} (mk:Heap.MadeExcOf s.heap h1 e cls args) (q:E cls none H) {E':Value->Shared->Prop} :
  wpAny M X.A (leaving X.env (.ref e)) (λ _ s2=>CXX X.prog X.w X.outer X.H₀ X.s₀ E (.ref e) s2) E' {s with heap:=h1}:=by
 have hin:∀ env∈X.stack,∀ b,env.frame=some b->b∈frs X.stack:=λ env he b hb=>List.mem_filterMap.mpr ⟨env,he,hb⟩
 have ff:=PySem.W.funFrames_hide I.stack hin
 rw[dx.st] at ff
 obtain⟨n1,n2⟩:=I.gone dx mk.new
 refine wpAny_leaves_madeW (base:=PySem.W.hideAll s.heap (frs (X.env::X.outer))) (h:=s.heap) (by rw[I.ok.frames,dx.st]) dx.fr (λ b o z=>PySem.W.of_hideAll _ z) ff mk λ h' t x1 _ _ x4=>?_
 exact jR dx I (λ b o e1 _ hb=>PySem.W.hideAll_get _ e1 (by rw[<-dx.st];exact hb)) x1 ((Heap.UpToSlots.of_keeps mk.keeps).trans x4) n1 n2 q
theorem A0 (dx:dI X) (hxe:∀ e s',wpAny (model X.prog X.w) X.A (leaving X.env e) (λ _ s2=>CXX X.prog X.w X.outer X.H₀ X.s₀ E e s2) (λ e' s2=>CXX X.prog X.w X.outer X.H₀ X.s₀ E e' s2) s'->X.xe e s'):cG (CXX X.prog X.w) X E:=by
 intro pins σ H s e s' I h
 obtain⟨a,cls,H',rfl,os,bare,un,hok,⟨B,t,fw,ne,hn,kB⟩,q⟩:=h
 have I':Inv X pins σ H' s':=I.call' (ch:=[]) os un hok bare (λ b z=>absurd z (by simp))
 obtain⟨n1,_⟩:=I.gone dx ne
 refine hxe _ _ (wpAny_leaves_onW (L:=X.env.locals) (by rw[I.ok.frames,dx.st]) dx.fr (by rw[<-dx.st];exact fw) λ h2 f2 up=>?_)
 refine jR dx I' (λ b o e1 hz hb=>kB b o e1 ?_ hb) f2 up n1 hn q
 rcases hz with ⟨o',z⟩ | z
 ·exact .inl (I.base.there b o' z (by rw[dx.ex];simp))
 ·exact .inr z
end
end L2
namespace L2
open PySem PySem.Spec PyProof.Rows
abbrev vbm:List Value:=[.type "ValueError",.type "Exception",.type "BaseException",.type "object"]
theorem sj {K:PySem.W.Frag}{h:Heap}{C:Addr}{nid:String}{bmB:List Value} (kin:K.In h) (z:PySem.W.excIn K C bmB nid=true) :
  ∃ (tl:List Value) (N:Addr) (nm qn:Str) (bs:List Value) (hd:Bool) (sn:List Str) (su:List Value) (ab:Bool) (co:Option Bool) (dd:Option Addr) (k0 k1 k2 k3 k5:Option Value) (mN:Str->Option Value),
   h.get? C=some (excClassObj nm qn C N bs tl hd sn su ab co dd k0 k1 k2 k3 k5 nid)/\h.Ns N mN/\mN "__init__" = none/\OwnTail h bmB tl:=by
 unfold PySem.W.excIn at z
 split at z
 ·rename_i d0 c0 slt lk
  split at z
  ·rename_i C2 tl a0 a1 a2 a3 nn a5 em es
   simp only[Bool.and_eq_true,beq_iff_eq,Bool.not_eq_true'] at z
   obtain⟨⟨⟨⟨⟨y1,y2⟩,y3⟩,y4⟩,y5⟩,y6⟩:=z
   subst y1 y2
   obtain⟨nm,bs,mr,ns,qn,hd,sn,su,ab,co,de⟩:=c0
   dsimp only at em y3 y5 y6
   subst em y3
   have sz:slt=#[a0,a1,a2,a3,some (.builtin nn),a5]:=by
    cases slt with | mk l=>exact congrArg Array.mk es
   subst sz
   exact⟨tl,ns,nm,qn,bs,hd,sn,su,ab,co,d0,a0,a1,a2,a3,a5,_,kin _ _ lk,.of_isNs (PySem.W.isNs_of_in kin y5),PySem.W.nsMap_none_of_in kin y5 y6,PySem.W.tail_of_in kin y4⟩
  ·cases z
 ·cases z
structure lT (K:PySem.W.Frag) (mg:Str->Option Value) (x:Str) (C:Addr):Prop where
 at_:mg x=some (.ref C)
 ok:PySem.W.excIn K C vbm "ValueError.__new__" = true
section
variable {X:Cx}{E:XK}{x:Str}{C:Addr}{np cpos pos:Pos}{e:Expr}{es:List Expr}{t:TA}
def Dz (X:Cx) (E:XK):Prop:=∀ (pins:List (Addr×Obj)) (σ:St) (H:Hp) (s:Shared) (h1:Heap) (e:Addr) (cls:Value) (args:List Value),Inv X pins σ H s->Heap.MadeExcOf s.heap h1 e cls args->E cls none H->X.xe (.ref e) {s with heap:=h1}
def wo (C:Addr) (E:XK) (t:TA):TS:=λ _ σ H=>t σ H λ vs H1=>vs.length<=sizeLine/\E (.ref C) none H1
theorem bc (hr:Dz X E) (hc:X.calm=true) (xc:lT X.K X.mg x C) (hg:Gl X x) (ha:PA X (e::es) t)
  (hdb:(x == ("__debug__":Str))=false:=by decide) (he:starEach (e::es) X.env=(false,eval e X.env)::starEach es X.env:=by rfl) (hpl:(backTo cpos (starEach es X.env)).any (·.1)=false:=by rfl) :
  PS X (.Raise (some (.Call (.Name x np) (e::es) [] cpos)) none pos) (wo C E t):=by
 intro pins s σ H D I h
 obtain⟨tl,N,nm,qn,bs,hd,sn,su,ab,co,dd,k0,k1,k2,k3,k5,mN,hC,hN,hni,T⟩:=sj I.mod.kin xc.ok
 refine wpAny_Raise_call_subT (C:=C) (nm:=nm) (q:=qn) (N:=N) (bs:=bs) (bm:=tl) (hdct:=hd) (sn:=sn) (sub:=su) (ab:=ab) (col:=co) (dd:=dd) (k0:=k0) (k1:=k1) (k2:=k2) (k3:=k3) (k5:=k5)
  PySem.F.excBase_ValueError (mN:=mN) (T.hasType PySem.F.excBase_ValueError.hasBase) (I.ok.hd hc) (by rw[he];show (false || _)=false;exact hpl) hni (dl I hg xc.at_ ⟨rfl,?_⟩ hdb)
 have h2:=ha cpos pins s σ H _ I h
 rw[he] at h2 ⊢
 exact Calls.evalArgs_plain (wpAny_mono h2 (λ us s2 ⟨vs,H1,I1,rv,hl,q⟩=>⟨rfl,by rw[<-rv.length];exact hl,I1.bk _ _ hC,hN.keeps I1.bk,T.keeps I1.bk,λ h' e mk=>hr pins σ H1 s2 h' e _ us I1 mk q⟩) λ _ _ y=>y)
end
section
variable {P:Program}{w:World}{K:PySem.W.Frag}{mg:Str->Option Value}{base:Heap}{N:List Str}{qual:Str}{scope:Scope}{f:Addr}{cd:Value}{A:Around}{outer:List Env}{s:Shared}{H:Hp}{E:XK}
theorem lO {CX:CXT}:dI (i6 CX P w K mg base N qual scope f cd A outer s H E):=⟨rfl,rfl,rfl⟩
theorem bz:Dz (i6 (CXX P w) P w K mg base N qual scope f cd A outer s H E) E:=λ _ _ _ _ _ _ _ _ I mk q=>rH lO I mk q
theorem cn:cG (CXX P w) (i6 (CXX P w) P w K mg base N qual scope f cd A outer s H E) E:=A0 lO λ _ _ h=>h
end
end L2
namespace L2
open PySem PySem.Spec PyProof.Rows
abbrev Cx.held (X:Cx) (e:Addr) (oe:Obj):Cx:={X with A:=X.A.mark (some (.ref e)),calm:=false,pn:=(e,oe)::X.pn,xe:=λ _ _=>False}
abbrev Cx.tried (X:Cx) (xe:Value->Shared->Prop) (pins:List (Addr×Obj)):Cx:={X with xe:=xe,pn:=X.pn++pins}
section
variable {X:Cx}{pins pins':List (Addr×Obj)}{σ:St}{H:Hp}{s:Shared}{xe:Value->Shared->Prop}{e:Addr}{oe:Obj}
theorem Cx.Ok.tried (ok:X.Ok):(X.tried xe pins).Ok:=⟨ok.mod,ok.kind,ok.glob,ok.blt,ok.above,ok.inj,ok.has,ok.cab,ok.hd,ok.frames,ok.stk,ok.exf,ok.bs,ok.bsz,ok.noex,ok.exfs,ok.funs,ok.frf⟩
theorem Cx.Ok.untried (ok:(X.tried xe pins).Ok):X.Ok:=⟨ok.mod,ok.kind,ok.glob,ok.blt,ok.above,ok.inj,ok.has,ok.cab,ok.hd,ok.frames,ok.stk,ok.exf,ok.bs,ok.bsz,ok.noex,ok.exfs,ok.funs,ok.frf⟩
theorem Inv.tried (I:Inv X pins σ H s):Inv (X.tried xe pins) [] σ H s:=⟨I.ok.tried,I.os,I.bare,I.base,I.loc,I.cell,I.free,I.freeC,λ p hp=>I.pin p (by simpa using hp),I.hok,I.len⟩
theorem Inv.untried (I:Inv (X.tried xe pins) pins' σ H s):Inv X pins σ H s:=⟨I.ok.untried,I.os,I.bare,I.base,I.loc,I.cell,I.free,I.freeC,λ p hp=>I.pin p (List.mem_append_left _ hp),I.hok,I.len⟩
theorem Inv.held (I:Inv X pins σ H s) (he:s.heap.get? e=some oe) (hn:H e=none) (hL:e≠X.env.locals) (hf:e ∉ X.fs) (hc:∀ v,oe.data≠.cell v):Inv (X.held e oe) pins σ H s:=by
 have ok:=I.ok
 refine⟨⟨ok.mod,ok.kind,ok.glob,ok.blt,ok.above,ok.inj,ok.has,ok.cab,(λ z=>by cases z),ok.frames,ok.stk,ok.exf,ok.bs,ok.bsz,ok.noex,ok.exfs,ok.funs,ok.frf⟩,I.os,I.bare,I.base,I.loc,I.cell,I.free,I.freeC,λ p hp=>?_,I.hok,I.len⟩
 rcases List.mem_cons.mp hp with z | z
 ·subst z;exact⟨he,hn,hL,hf,hc⟩
 ·exact I.pin p z
theorem Inv.unheld (I:Inv (X.held e oe) pins σ H s) (hd:X.calm=true->X.A.handled=none):Inv X pins σ H s:=by
 have ok:=I.ok
 exact⟨⟨ok.mod,ok.kind,ok.glob,ok.blt,ok.above,ok.inj,ok.has,ok.cab,hd,ok.frames,ok.stk,ok.exf,ok.bs,ok.bsz,ok.noex,ok.exfs,ok.funs,ok.frf⟩,I.os,I.bare,I.base,I.loc,I.cell,I.free,I.freeC,λ p hp=>I.pin p (List.mem_cons_of_mem _ hp),I.hok,I.len⟩
end
def gB (CX:CXT) (X:Cx) (E:St->XK):Prop:=∀ (pins:List (Addr×Obj)) (σ:St) (H:Hp) (s:Shared) (e:Value) (s':Shared),Inv X pins σ H s->CX X.stack H s (E σ) e s'->X.xe e s'
def DS (sp:Sp) (dvs:List V) (E:St->XK) (t:TA):TE:=λ σ H Q=>t σ H λ vs H1=>sp (vs++dvs) H1 Q (E σ)
section
variable {X:Cx}{CX:CXT}{k:Nat}{f:Addr}{fd:FuncData}{ps:List Str}{sp:Sp}{dvs:List V}{ds:List Value}{E:St->XK}{x:Str}{p pos:Pos}{e:Expr}{es:List Expr}{t:TA}
theorem pp (F:aS X.prog X.w X.K X.mg X.base CX k f fd ps sp) (hr:cF k X.A) (hg:Gl X x) (hm:X.mg x=some (.ref f)) (hk:PySem.W.keepIn X.K (.ref f)=true) (hb:bS X.K fd ps ds) (hd:bg dvs ds) (hx:gB CX X E)
  (ha:PA X (e::es) t) (hdb:(x == ("__debug__":Str))=false:=by decide) (he:starEach (e::es) X.env=(false,eval e X.env)::starEach es X.env:=by rfl) (hpl:(backTo pos (starEach es X.env)).any (·.1)=false:=by rfl) :
  PE X (.Call (.Name x p) (e::es) [] pos) (DS sp dvs E t):=by
 intro pins s σ H Q I h
 refine wpAny_Call_Name_kw (dl I hg hm ?_ hdb)
 refine PySem.W.callWith_K (h₀:=X.base) I.ok.mod.kin hk (thn (ha pos pins s σ H _ I h) λ us s1 ⟨vs,H1,I1,r,q⟩=>⟨I1.kIn,?_⟩) he hpl
 have r2:bg (vs++dvs) (us++ds):=r.append hd
 have hl:(us++ds).length=ps.length:=by rw[<-r2.length];exact F.len _ _ _ _ q
 refine wpAny_call (codeAny_mono (F.run X.A X.stack s1 H1 ⟨us,[]⟩ (us++ds) (vs++dvs) Q (E σ) hr I1.env0 (hb s1 us I1.kIn hl) r2 q) λ r s' hq=>?_)
 cases r with
 | error e=>exact hx pins σ H1 s1 e s' I1 hq
 | ok fl =>
  cases fl with
  | ret u=>exact I1.after hq
  | next=>exact False.elim hq
  | brk=>exact False.elim hq
  | cont=>exact False.elim hq
end
structure Catch (K:PySem.W.Frag) (CS:Addr):Prop where
 ty:PySem.W.typeIn K (.ref CS)=some (.type "type")
 isc:PySem.W.isClsIn K CS=true
 base:PySem.W.subIn K (.ref CS) (.type "BaseException")=some true
open PySem.W in
theorem iz {K:Frag}{M:Model}{h:Heap}{C:Addr} (kin:K.In h) (z:isClsIn K C=true):Looks M h (isType (.ref C)) true:=by
 unfold isClsIn clsIn at z
 split at z
 ·rename_i lk
  intro A Q E s k q
  unfold isType loadHead
  exact wpAny_bind (wpAny_loadPart (k C _ (kin C _ lk)) (wpAny_pure q))
 ·cases z
open PySem.W in
theorem jt {prog:Program}{w:World}{A:Around}{E:Value->Shared->Prop}{s:Shared}{K:Frag}{e CS:Addr}{oe:Obj}{Q:Bool->Shared->Prop} (kin:K.In s.heap) (he:s.heap.get? e=some oe) (ca:Catch K CS)
  (hC:subIn K oe.cls (.ref CS)=some true) (hq:Q true s):wpAny (model prog w) A (excMatches (.ref e) (.ref CS)) Q E s:=by
 obtain⟨hh,g,d,tk,os⟩:=s
 have L1:Looks (model prog w) hh (typeOf (.ref CS)) (.type "type"):=looks_typeIn kin ca.ty
 have L2:Looks (model prog w) hh (isType (.ref CS)) true:=iz kin ca.isc
 have L3:Looks (model prog w) hh (isSubtype oe.cls (.ref CS)) true:=looks_subIn kin hC
 have L4:Looks (model prog w) hh (isInstance (.ref CS) (.type "tuple")) false:=L1.andThen (Looks.of_pure tc_notTuple)
 have L5:Looks (model prog w) hh (isExcClass (.ref CS)) true:=L2.andThen (looks_subIn kin ca.base)
 have L6:Looks (model prog w) hh (typeOf (.ref e)) oe.cls:=(Looks.ld he).andThen .now
 unfold excMatches
 refine wpAny_bind (L4.at ?_)
 simp only[Bool.false_eq_true,if_false]
 refine wpAny_bind (wpAny_pure ?_)
 simp only[List.forIn_cons,List.forIn_nil]
 refine wpAny_bind (wpAny_bind (wpAny_bind (L5.at ?_)))
 simp only[Bool.not_true,Bool.false_eq_true,if_false]
 refine wpAny_pure (wpAny_pure (wpAny_bind (L6.at ?_)))
 refine wpAny_bind (wpAny_bind (wpAny_bind (L3.at ?_)))
 simp only[if_true]
 exact wpAny_pure (wpAny_pure (wpAny_pure hq))
theorem BS {X:Cx}{pins:List (Addr×Obj)}{σ:St}{H:Hp}{s:Shared}{M:Model}{A:Around}{E:Value->Shared->Prop}{Q:Unit->Shared->Prop}{i:Nat}{n:Str}{pos:Pos} (I:Inv X pins σ H s) (hN:X.N.Nodup) (hi:X.N[i]? = some n) (hl:X.env.scope.names.lookup n=some .local)
  (k:∀ s',Inv X pins (σ.set i none) H s'->Q () s'):wpAny M A (do bindName X.env n .none;unbindBehindTheSuite X.env n pos) Q E s:=by
 obtain⟨m,hn,hloc⟩:=id I.loc
 have hcls:(X.env.scope.kind == .class || (X.env.scope.kind == .module && X.env.locals != X.env.globals))=false:=by rw[I.ok.kind];rfl
 refine wpAny_nameGoes_keeps hl hn hcls λ h' v hn' hs=>k _ ?_
 have nl:∀ b o,X.s₀.heap.get? b=some o->b≠X.env.locals:=λ b o e=>I.notMine e
 have cne:=I.cne
 refine⟨I.ok,I.os,I.bare,⟨λ b o e z hb hx=>(hs.2 b (nl b o e)).trans (I.base.keep b o e z hb hx),λ b o e z hb hx=>?_,I.base.free,λ b o e hx=>?_,I.base.tups,I.base.frzs,I.base.tbls⟩,⟨_,hn',λ j y v' e1 e2 e3=>?_⟩,λ y c e=>?_,I.free,I.freeC,λ p hp=>?_,λ b u e=>?_,by simpa using I.len⟩
 ·obtain⟨sl,e1⟩:=I.base.slot b o e z hb hx
  exact⟨sl,(hs.2 b (nl b o e)).trans e1⟩
 ·obtain⟨o',e1⟩:=I.base.there b o e hx
  exact⟨o',(hs.2 b (nl b o e)).trans e1⟩
 ·have hj:j≠i:=by
   rintro rfl
   rw[List.getElem?_set_self (by rw[I.len];exact (List.getElem?_eq_some_iff.mp hi).1)] at e2
   cases e2
  rw[List.getElem?_set_ne (Ne.symm hj)] at e2
  obtain⟨u',r',q⟩:=hloc j y v' e1 e2 e3
  refine⟨u',r',?_⟩
  rcases q with ⟨k1,k2⟩ | ⟨k1,c,k2,z⟩
  ·refine .inl ⟨k1,?_⟩
   have:y≠n:=λ e=>hj (kH hN e1 (e ▸ hi))
   simp [this,k2]
  ·exact .inr ⟨k1,c,k2,z.sameBut hs (cne y c k2)⟩
 ·obtain⟨w',z⟩:=I.cell y c e
  exact⟨w',z.sameBut hs (cne y c e)⟩
 ·obtain⟨e,z,ne,nf,d⟩:=I.pin p hp
  exact⟨(hs.2 p.1 ne).trans e,z,ne,nf,d⟩
 ·refine (I.hok b u e).stay (λ c w' hc q=>(hs.2 c ?_).trans q) (λ _ q=>q) λ _ _ q=>q
  rintro rfl
  have fr:=I.free
  rcases hc with z | z
  ·rw[<-z,fr] at e;cases e
  ·rw[fr] at z;cases z
end L2
namespace L2
open PySem PySem.Spec PyProof.Rows
section
variable {prog:Program}{w:World}{A:Around}{E:Value->Shared->Prop}
theorem gV {l it:Addr}{items:Array Value}{h h':Heap} (x:h.IsList l items) (ne:l≠it) (k:∀ b o,b≠it->h.get? b=some o->h'.get? b=some o):h'.IsList l items:=by
 obtain⟨o,e,r⟩:=x
 exact⟨o,k l o ne e,r⟩
theorem mC {it l:Addr}{items:Array Value} (ne:l≠it):∀ (n i:Nat) (s:Shared) (Q:List Value->Shared->Prop),s.heap.IsListIter it l i->s.heap.IsList l items->i+n<=items.size ->
  (∀ h',h'.IsListIter it l (i+n)->(∀ b o,b≠it->s.heap.get? b=some o->h'.get? b=some o)->Q ((items.toList.drop i).take n) {s with heap:=h'})->wpAny (model prog w) A (draw (.ref it) n) Q E s
 | 0,i,s,Q,st,_,_,hq=>by
  show wpAny _ _ (pure []) Q E s
  exact wpAny_pure (by simpa using hq s.heap st λ _ _ _ e=>e)
 | n+1,i,s,Q,st,il,hle,hq=>by
  have hlt:i<items.size:=by omega
  show wpAny _ _ (pyNext (.ref it) >>= _) Q E s
  refine wpAny_bind (wpAny_pyNext_list_item st il (x:=items[i]) (by simp [hlt]) λ h1 st1 sb1=>?_)
  have k1:∀ b o,b≠it->s.heap.get? b=some o->h1.get? b=some o:=λ b o hb e=>(sb1.2 b hb).trans e
  refine wpAny_bind (wpAny_holding (mC ne n (i+1) _ _ st1 (gV il ne k1) (by omega) λ h2 st2 k2=>wpAny_pure ?_))
  have hd:items.toList.drop i=items[i]::items.toList.drop (i+1):=by simp [List.drop_eq_getElem_cons,hlt]
  have z:=hq h2 (by rw[show i+(n+1)=i+1+n by omega];exact st2) (λ b o hb e=>k2 b o hb (k1 b o hb e))
  rw[hd,List.take_succ_cons] at z
  exact z
theorem oK {s:Shared}{l:Addr}{items:Array Value}{tg:List (Bool×(Value->Sem Unit))}{Q:Unit->Shared->Prop} (hh:A.handled=none) (il:s.heap.IsList l items)
  (hn:tg.length=items.size) (hst:tg.findIdx? (·.1)=none)
  (h:∀ h',(∀ b o,s.heap.get? b=some o->h'.get? b=some o)->wpAny (model prog w) A (assignInOrder (tg.map (·.2)) items.toList) Q E {s with heap:=h'}) :
  wpAny (model prog w) A (unpack (.ref l) tg) Q E s:=by
 have ne:l≠s.heap.objs.size:=by obtain⟨o,ho,_⟩:=il;exact Nat.ne_of_lt (Heap.lt_size ho)
 unfold unpack
 rw[hn,hst]
 refine wpAny_bind (wpAny_holding ?_)
 unfold unpackItems
 refine wpAny_bind ?_
 unfold notIterableAtAll
 refine wpAny_bind (wpAny_specialOf il.typeIs slot_list_iter.lookup ?_)
 refine wpAny_pure ?_
 simp only[Bool.false_eq_true,if_false]
 refine wpAny_bind (wpAny_holding (wpAny_pyIter_list il ?_))
 have il1:(s.heap.push {cls:=.type "list_iterator",data:=.fields #[.ref l,rawInt 0]}).IsList l items:=by
  obtain⟨o,e,r⟩:=il
  exact⟨o,Heap.get?_push_of_some _ e,r⟩
 refine wpAny_bind (wpAny_holding (mC ne items.size 0 _ _ ⟨_,Heap.get?_push_size _ rfl,rfl,rfl⟩ (gV (h':=_) il1 ne λ _ _ _ e=>e) (by omega) λ h1 st1 k1=>?_))
 have hall:List.take items.size (List.drop 0 items.toList)=items.toList:=by
  rw[List.drop_zero];exact List.take_of_length_le (by simp)
 rw[hall,if_neg (by simp)]
 refine wpAny_bind (wpAny_holding (wpAny_pyNext_list_end hh st1 (gV il1 ne k1) (by simp) λ h2 eb=>?_))
 simp only[Option.isSome_none,Bool.false_eq_true,if_false]
 refine wpAny_pure (h h2 λ b o e=>eb b o (Nat.ne_of_lt (Heap.lt_size e)) (k1 b o (Nat.ne_of_lt (Heap.lt_size e)) (Heap.get?_push_of_some _ e)))
end
def HC (K:PySem.W.Frag) (n:Nat) (t:TGs):TG:=λ v σ H Q=>∃ a xs,v=.ref a/\SqL K H a xs/\xs.length=n/\t xs σ H Q
theorem nI {X:Cx}{pos:Pos}{es:List Expr}{k:Nat}{t:TGs}{n:Nat} (hc:X.calm=true) (h:PGs X es t)
  (hn:(assignEach es X.env).length=n:=by rfl) (hst:(assignEach es X.env).findIdx? (·.1)=none:=by rfl):PG X (.Tuple es k pos) (HC X.K n t):=by
 intro pins s σ H v u Q I r hw
 obtain⟨a,xs,e1,hq,hl,hw⟩:=hw
 subst e1
 cases r
 obtain⟨its,rv,pl,hz⟩:=I.list hq
 rw[assign_Tuple]
 refine wpAny_bind (wpAny_standAt (oK (I.ok.hd hc) pl.isList (by simp [hn,<-hl,rv.length]) hst λ h' hx=>?_))
 have I1:Inv X pins σ H {s with heap:=h'}:=I.kept (t':=s.toks) λ b o e=>hx b o e
 exact h pins _ σ H xs _ Q I1 (by simpa using rv) hw
end L2
namespace L2
open PySem PySem.Spec PySem.W PyProof.Rows Builtin Builtin.ObjectAttr Builtin.Getset_descriptor
structure lC (K:Frag) (C:Addr):Prop where
 ga:findIn K (.ref C) "__getattribute__" = some (some (.builtin "BaseException.__getattribute__"))
 gt:findIn K (.ref C) "__getattr__" = some none
 cl:findIn K (.ref C) "__class__" = some (some (.builtin "object.__class__"))
 sg:specialIn K (.builtin "object.__class__") "__get__" = some (some (.builtin "getset_descriptor.__get__"))
 tk:takesIn K (.builtin "object.__class__")=some true
 ob:mroIn K C (.type "object")=some true
 be:mroIn K C (.type "BaseException")=some true
 ok:isClsIn K C=true
section
variable {prog:Program}{w:World}{A:Around}{E:Value->Shared->Prop}{K:Frag}{a C:Addr}{oe:Obj}{h:Heap}{g:Array GenState}{d:Drawn}{t:Nat}{os:OsState}
theorem lM {R:Result->Shared->Prop}{tp:Value} (kin:K.In h) (x:lC K C) (he:h.get? a=some oe) (hc:oe.cls=.ref C) (q:R (.ok (.ret (.ref C))) ⟨h,g,d,t,os⟩) :
  codeAny (model prog w) A (.call (.builtin "getset_descriptor.__get__") ⟨[.builtin "object.__class__",.ref a,tp],[]⟩) R ⟨h,g,d,t,os⟩:=by
 have M0:Looks (model prog w) h (typeOf (.ref a)) (.ref C):=by rw[<-hc];exact (Looks.ld he).andThen .now
 have M1:=looks_mroIn (M:=model prog w) kin x.ob
 refine codeAny_call_builtin (KF.slot_gs.plain) KF.entry_gs
  (KF.slot_gs.check _ _ _ _ _ _ _ _ KF.type_class (KF.args_gs _ _ _) ?_)
 unfold Builtin.«getset_descriptor.__get__» descrGet
 rw[dga_obj]
 refine wpAny_bind (wpAny_pure ?_)
 unfold descrGetter descrCheckInstance descrNameAndClass isInstance
 simp only[KF.owner_class]
 repeat lk
 refine⟨Code.quiet_builtin _ (by decide +kernel),codeAny_builtin KF.entry_class ?_⟩
 unfold Builtin.«object.__class__» shownTypeOf
 repeat lk
 exact q
theorem zA {tk:Tok}{Q:PySem.Fin->Shared->Prop} (kin:K.In h) (x:lC K C) (he:h.get? a=some oe) (hc:oe.cls=.ref C) (q:Q (.done (.ret (.ref C))) ⟨h,g,d,t,os⟩) :
  wpAny (model prog w) A (Builtin.«object.__getattribute__» ⟨[.ref a,.str "__class__" tk],[]⟩) Q E ⟨h,g,d,t,os⟩:=by
 have M0:Looks (model prog w) h (typeOf (.ref a)) (.ref C):=by rw[<-hc];exact (Looks.ld he).andThen .now
 have M3:=looks_findIn (M:=model prog w) kin x.cl
 have f5:=KF.type_class
 have f6:=F.slot_gs_get.lookup
 have f7:=F.slot_gs_set.lookup
 repeat (any_goals (first | assumption | (with_reducible refine wpAny_loadPart_at he ?_;rw[hc]) | (with_reducible refine M3.at ?_) | wp_step))
 refine lM kin x he hc ?_
 exact wpAny_pure q
seal wpAny in
theorem vK {Q:Option Value->Shared->Prop} (kin:K.In h) (x:lC K C) (he:h.get? a=some oe) (hc:oe.cls=.ref C) (q:Q (some (.ref C)) ⟨h,g,d,t+1,os⟩) :
  wpAny (model prog w) A (getAttr? (.ref a) "__class__") Q E ⟨h,g,d,t,os⟩:=by
 have M0:Looks (model prog w) h (typeOf (.ref a)) (.ref C):=by rw[<-hc];exact (Looks.ld he).andThen .now
 have M1:=looks_findIn (M:=model prog w) kin x.ga
 have M2:=looks_findIn (M:=model prog w) kin x.gt
 have M3:=looks_findIn (M:=model prog w) kin x.cl
 unfold getAttr? getAttrBy? getAttrBy
 refine wpAny_bind (wpAny_mkText (wpAny_bind (wpAny_attempt (wpAny_holding (wpAny_bind (M0.at (wpAny_bind (M1.at ?_))))))))
 have n1:(onTheHeap (Value.ref C) && Value.builtin "BaseException.__getattribute__" == Value.builtin "object.__getattribute__")=false:=by
  rw[show (Value.builtin "BaseException.__getattribute__" == Value.builtin "object.__getattribute__")=false by decide +kernel,Bool.and_false]
 simp only[n1,Bool.false_eq_true,if_false]
 unfold getAttrByItsOwn hookBefore
 refine wpAny_bind (M2.at (wpAny_bind (wpAny_attempt (wpAny_holding ?_))))
 unfold callGetattribute boundAndCalled
 simp only[Bool.false_and,Bool.false_eq_true,if_false]
 rw[F.attr_ValueError.ga.bind (.ref a)]
 refine wpAny_bind (wpAny_pure ?_)
 refine wpAny_call (codeAny_call_builtin F.attr_ValueError.ga.plain F.entry_bexc_ga ?_)
 have be:subIn K (.ref C) (.type "BaseException")=some true:=x.be
 have M4:Looks (model prog w) h (isInstance (.ref a) (.type "BaseException")) true:=M0.andThen (looks_subIn kin be)
 have k1:builtinKind "BaseException.__getattribute__" = some .slot:=by decide +kernel
 have k2:splitId "BaseException.__getattribute__" = some ("BaseException","__getattribute__"):=by decide +kernel
 show wpAny _ _ (checkBuiltinCall "BaseException.__getattribute__" ⟨[.ref a,.str "__class__" t],[]⟩) _ _ _
 have k3:argsOk "BaseException.__getattribute__" ⟨[.ref a,.str "__class__" t],[]⟩:=F.args_bexc_ga (.ref a) (.str "__class__" t)
 refine check_slot (self:=.ref a) (rest:=[.str "__class__" t]) (kw:=[]) (owner:="BaseException") (n:="__getattribute__") k1 k2 M4 k3 ?_
 refine zA kin x he hc ?_
 show wpAny (model prog w) A (handedOut (.ref C)) _ _ _
 exact handed_on rfl (wpAny_pure q)
theorem pD (x:lC K C):KitX K (.ref a) (.ref C) (λ h=>∃ oe,h.get? a=some oe/\oe.cls=.ref C) where
 ty:=λ M h _ ⟨oe,he,hc⟩=>by rw[<-hc];exact (Looks.ld he).andThen .now
 it:=λ M h kin _=>iz kin x.ok
 ne:=λ h tp dd its n sl kin htp=>by
  refine Bool.eq_false_iff.mpr λ q=>?_
  have e:C=tp:=Value.ref.inj (beq_iff_eq.mp q)
  subst e
  have z:=x.ok
  unfold isClsIn clsIn at z
  split at z
  ·rename_i lk
   have y:=(kin C _ lk).symm.trans htp
   cases y
  ·cases z
 ca:=λ {prog w A E Q s} kin ⟨oe,he,hc⟩ q=>by
  obtain⟨h,g,d,t,os⟩:=s
  exact vK kin x he hc q
end
section
variable {X:Cx}{e:Addr}{oe:Obj}
theorem Inv.heldAt {pins:List (Addr×Obj)}{σ:St}{H:Hp}{s:Shared} (I:Inv (X.held e oe) pins σ H s):s.heap.get? e=some oe:=(I.pin (e,oe) (List.mem_append_left _ List.mem_cons_self)).1
end
end L2
namespace L2
open PySem PySem.Spec PyProof.Rows
section
variable {X:Cx}{pins:List (Addr×Obj)}{σ:St}{H:Hp}{s:Shared}{h':Heap}
theorem Inv.turnedL {t':Nat}{fp:List Addr} (I:Inv X pins σ H s) (k:∀ b o,b ∉ fp->s.heap.get? b=some o->h'.get? b=some o) (hf:∀ b∈fp,fN X pins H b) :
  Inv X pins σ H {s with heap:=h',toks:=t'}:=by
 have nin:∀ b u,H b=some u->b ∉ fp:=λ b u e z=>by rw[(hf b z).1] at e;cases e
 refine I.step (g':=s.gens) (d':=s.drawn) (ch:=fp) (λ b hb=>⟨(hf b hb).2.2.2.1,(hf b hb).2.1,(hf b hb).2.2.2.2.1,(hf b hb).2.2.2.2.2⟩) (λ b o _ _ hc e _=>k b o hc e) (λ b o _ _ hc e _=>⟨o.slots,k b o hc e⟩) (λ _ _ _ _ n=>n)
  (λ b o hc e=>⟨o,k b o hc e⟩) (λ _ _ e=>e) (λ _ _ _ e=>e) (λ b ps e=>⟨#[],by rw[e];simp⟩) (λ m hm=>?_) (λ b u e=>?_) I.bare
 ·obtain⟨o,es,ep,ho,r⟩:=hm
  exact⟨o,es,ep,k _ o (λ z=>(hf _ z).2.1 rfl) ho,r⟩
 ·refine (I.hok b u e).stay (λ c v hc q=>k c v ?_ q) (λ _ q=>q) λ _ _ q=>q
  rcases hc with z | z
  ·rw[z];exact nin b u e
  ·exact nin c _ z
theorem Inv.turnLay {t':Nat}{fp:List Addr}{a:Addr}{o:HO} (I:Inv X pins σ H s) (k:∀ b u,b ∉ fp->s.heap.get? b=some u->h'.get? b=some u) (hf:∀ b∈fp,fN X pins H b)
  (ha:s.heap.objs.size<=a) (new:bx X.prog X.w (upd H a o) h' a o):Inv X pins σ (upd H a o) {s with heap:=h',toks:=t'}:=by
 have nin:∀ b u,H b=some u->b ∉ fp:=λ b u e z=>by rw[(hf b z).1] at e;cases e
 have hn:H a=none:=I.hok.fresh ha
 have ne:∀ b u,H b=some u->b≠a:=λ b u e z=>by rw[z,hn] at e;cases e
 refine I.step (g':=s.gens) (d':=s.drawn) (ch:=fp) (λ b hb=>⟨(hf b hb).2.2.2.1,(hf b hb).2.1,(hf b hb).2.2.2.2.1,(hf b hb).2.2.2.2.2⟩) (λ b o _ _ hc e _=>k b o hc e) (λ b o _ _ hc e _=>⟨o.slots,k b o hc e⟩)
  (λ b u _ e n=>by rw[aM (Nat.ne_of_lt (Nat.lt_of_lt_of_le (Heap.lt_size e) ha))];exact n)
  (λ b o hc e=>⟨o,k b o hc e⟩) (λ b xs e=>by rw[aM (ne b _ e)];exact e) (λ b o u e=>by rw[aM (ne b _ e)];exact e) (λ b ps e=>⟨#[],by rw[aM (ne b _ e),e];simp⟩) (λ m hm=>?_) (λ b u e=>?_) I.bare
 ·obtain⟨o,es,ep,ho,r⟩:=hm
  exact⟨o,es,ep,k _ o (λ z=>(hf _ z).2.1 rfl) ho,r⟩
 ·by_cases hb:b=a
  ·subst hb
   rw[ai] at e
   cases e
   exact new
  ·rw[aM hb] at e
   refine (I.hok b u e).stay (λ c v hc q=>k c v ?_ q) (λ c q=>by rw[aM (ne c _ q)];exact q) λ c xs q=>by rw[aM (ne c _ q)];exact q
   rcases hc with z | z
   ·rw[z];exact nin b u e
   ·exact nin c _ z
end
def Itz (K:PySem.W.Frag) (l1 l2:Addr):It :=
 ⟨λ i H=>∃ xs ys x y,SqL K H l1 xs/\SqL K H l2 ys/\xs[i]? = some x/\ys[i]? = some y,
  λ i H v H'=>∃ T x y,H T=none/\H'=upd H T (.tup [x,y])/\v=.ref T/\(∀ xs,SqL K H l1 xs->xs[i]? = some x)/\∀ ys,SqL K H l2 ys->ys[i]? = some y,
  λ i H=>∃ xs ys,SqL K H l1 xs/\SqL K H l2 ys/\(xs.length<=i∨ys.length<=i)⟩
theorem DA {n l1 l2:Nat} (h1:l1<n) (h2:l2<n):ZipApart (n+4) (n+2) (n+3) n (n+1) l1 l2:=by
 constructor<;>(show (_:Nat)≠(_:Nat);omega)
def Hw (K:PySem.W.Frag) (ta:TA):TI:=λ σ H R=>ta σ H λ vs H1=>∃ a b,vs = [.ref a,.ref b]/\(∃ xs,SqL K H1 a xs)/\(∃ ys,SqL K H1 b ys)/\R (Itz K a b) H1
end L2
namespace L2
open PySem PySem.Spec PyProof.Rows
noncomputable abbrev gh (ifs:List Expr) (env:Env):Sem Bool:=forIn ifs true λ c ok=>if ok=true then do
   let ok <-PySem.isTrue c env (eval c env)
   pure (ForInStep.yield ok)
  else pure (ForInStep.yield ok)
theorem iJ (elt target iter:Expr) (ifs:List Expr) (scope:Scope) (pos:Pos) (it acc:Value) (env:Env) :
 compTurn (elt.ListComp [⟨target,iter,ifs,0⟩] scope pos) 0 it acc env=(do
  standAt iter.pos
  let r <-pyNext it
  match r with
   | none=>pure (Fin.done Flow.next)
   | some v=>do
    letOwnedTupleGo target it v
    assign target env v
    let ok <-gh ifs env
    if ok=true then do
     let x <-eval elt env
     let _ <-call (Value.builtin "list.append") [acc,x]
     again (Code.compLoop (elt.ListComp [⟨target,iter,ifs,0⟩] scope pos) 0 it acc env)
    else again (Code.compLoop (elt.ListComp [⟨target,iter,ifs,0⟩] scope pos) 0 it acc env)):=by
 unfold compTurn
 simp
 rfl
def PIf (X:Cx) (ifs:List Expr) (t:TT):Prop :=
 ∀ (pins:List (Addr×Obj)) (s:Shared) (σ:St) (H:Hp) (Q:Bool->Hp->Prop),Inv X pins σ H s->t σ H Q->wpAny (model X.prog X.w) X.A (gh ifs X.env) (TP X pins σ Q) X.xe s
def j0:TT:=λ _ H Q=>Q true H
theorem cN {X:Cx}:PIf X [] j0:=λ pins s σ H Q I h=>by
 show wpAny _ _ (pure true) _ _ s
 exact wpAny_pure ⟨H,I,h⟩
theorem nH {X:Cx}{c:Expr}{t:TT} (hc:PT X c t):PIf X [c] t:=λ pins s σ H Q I h=>by
 have e:gh [c] X.env=PySem.isTrue c X.env (eval c X.env):=by simp [gh]
 rw[e]
 exact hc pins s σ H Q I h
theorem n6 {prog:Program}{w:World}{A:Around}{R:Result->Shared->Prop}{s:Shared}{elt tg iter:Expr}{ifs:List Expr}{scope:Scope}{pos:Pos}{it acc:Value}{env:Env} (Iv:Nat->Shared->Prop)
  (turn:∀ k s,Iv k s->wpAny (model prog w) A (pyNext it) (λ r s1=>match r with
   | none=>R (.ok .next) s1
   | some v=>wpAny (model prog w) A (letOwnedTupleGo tg it v) (λ _ s2=>wpAny (model prog w) A (assign tg env v) (λ _ s3=>wpAny (model prog w) A (gh ifs env) (λ b s4=>if b=true then
     wpAny (model prog w) A (eval elt env) (λ y s5=>wpAny (model prog w) A (call (.builtin "list.append") [acc,y]) (λ _ s6=>∃ m,m<k/\Iv m s6) (λ _ _=>False) s5) (λ _ _=>False) s4
     else ∃ m,m<k/\Iv m s4) (λ _ _=>False) s3) (λ _ _=>False) s2) (λ _ _=>False) s1) (λ _ _=>False) s)
  (k:Nat) (h:Iv k s):codeAny (model prog w) A (.compLoop (.ListComp elt [⟨tg,iter,ifs,0⟩] scope pos) 0 it acc env) R s:=by
 refine codeAny_loop rfl Iv (λ k s hI=>?_) k h
 show wpAny _ _ ((compTurn (.ListComp elt [⟨tg,iter,ifs,0⟩] scope pos) 0 it acc env).onRaise (λ e=>do noteFrame e env;theTreesLotGoes e)) _ _ s
 refine wpAny_noted ?_
 rw[iJ]
 refine wpAny_bind (wpAny_standAt (wpAny_bind (wpAny_mono (turn k s hI) (λ r s1 h1=>?_) λ _ _ f=>f.elim)))
 cases r with
 | none=>exact wpAny_pure h1
 | some v =>
  refine wpAny_bind (wpAny_mono h1 (λ _ s2 h2=>wpAny_bind (wpAny_mono h2 (λ _ s3 h3=>wpAny_bind (wpAny_mono h3 (λ b s4 h4=>?_) λ _ _ f=>f.elim)) λ _ _ f=>f.elim)) λ _ _ f=>f.elim)
  cases b with
  | true =>
   rw[if_pos rfl] at h4 ⊢
   exact wpAny_bind (wpAny_mono h4 (λ y s5 h5=>wpAny_bind (wpAny_mono h5 (λ _ s6 h6=>wpAny_pure ⟨rfl,h6⟩) λ _ _ f=>f.elim)) λ _ _ f=>f.elim)
  | false =>
   rw[if_neg Bool.false_ne_true] at h4 ⊢
   exact wpAny_pure ⟨rfl,h4⟩
structure ci (X:Cx) (xs:List Str) (ts:List (Str×Nat)) (scope:Scope) (cl:List (Str×Addr)):Prop where
 clos:closureFor scope X.env=pure cl
 sub:∀ y c,cl.lookup y=some c->X.env.cells.lookup y=some c
 nocell:(scope.names.all λ p=>p.2 != .cell)=true
 kind:scope.kind=.function
 locs:(scope.names.all λ p=>p.2 != .local || scope.names.lookup p.1 == some .local)=true
 nd:(xs++ts.map (·.1)).Nodup
 around:(ts.all λ p=>decide (X.N[p.2]? = some p.1) && (X.env.kindOf p.1 == some .cell || X.env.kindOf p.1 == some .free) && (cl.lookup p.1).isSome &&
  ((relabel scope X.env).names.lookup p.1 == some .cell || (relabel scope X.env).names.lookup p.1 == some .free))=true
 has:((relabel scope X.env).names.all λ p=>!(p.2 == .cell || p.2 == .free) || (cl.lookup p.1).isSome)=true
abbrev cR (xs:List Str) (ts:List (Str×Nat)):List Str:=xs++ts.map (·.1)
def fq (J:It) (g:TG) (tt:TT) (te:TE) (k:Nat) (st:St) (D:Addr) (H1:Hp) (Q:VK):Prop :=
 ∃ W:Nat->Nat->List V->Hp->Prop,(∃ m,W 0 m [] (upd H1 D (.lst [])))/\∀ i m ys H2,W i m ys H2 ->
  (J.stop i H2/\Q (.ref D) H2)∨(J.go i H2/\∀ x H3 σ0,J.yld i H2 x H3->σ0.length=k->g x (σ0++st) H3 λ σ2 H4=>(∃ σ1,σ1.length=k/\σ2 = σ1++st)/\tt σ2 H4 λ b H5 =>
   if b=true then te σ2 H5 λ y H6=>H6 D=some (.lst ys)/\ys.length<sizeLine/\∃ m',m'<m/\W (i+1) m' (ys++[y]) (upd H6 D (.lst (ys++[y])))
   else ∃ m',m'<m/\W (i+1) m' ys H5)
def mO (wi:TI) (g:TG) (tt:TT) (k:Nat) (fr:List Nat) (te:TE):TE:=λ σ H Q=>wi σ H λ J H1=>∀ D,H1 D=none->fq J g tt te k (eB σ fr) D H1 Q
section
variable {X:Cx}{elt iter tg:Expr}{ifs:List Expr}{xs:List Str}{pos:Pos}{scope:Scope}{cl:List (Str×Addr)}{ts:List (Str×Nat)}{wi:TI}{te:TE}{g:TG}{tt:TT}
theorem ci.nocell' (O:ci X xs ts scope cl):∀ y∈scope.names,y.2≠.cell:=λ y hy e=>by
 have:=List.all_eq_true.mp O.nocell y hy
 rw[e] at this
 cases this
theorem ci.locs' (O:ci X xs ts scope cl):∀ y∈scope.names,y.2=.local->scope.names.lookup y.1=some .local:=λ y hy e=>by
 have h:=List.all_eq_true.mp O.locs y hy
 rw[e] at h
 rcases Bool.or_eq_true_iff.mp h with z | z
 ·cases z
 ·exact beq_iff_eq.mp z
theorem ci.from' (O:ci X xs ts scope cl):∀ (i:Nat) (y:Str),(ts.map (·.1))[i]? = some y->∃ j,(dG ts)[i]? = some j/\X.N[j]? = some y/\(X.env.kindOf y=some .cell∨X.env.kindOf y=some .free)/\(cl.lookup y).isSome=true /\
  ((relabel scope X.env).names.lookup y=some .cell∨(relabel scope X.env).names.lookup y=some .free):=λ i y e1=>by
 rw[List.getElem?_map] at e1
 cases q:ts[i]? with
 | none=>rw[q] at e1;cases e1
 | some p =>
  rw[q] at e1
  have e2:p.1=y:=Option.some.inj e1
  subst e2
  have h:=List.all_eq_true.mp O.around p (List.mem_of_getElem? q)
  simp only[Bool.and_eq_true,Bool.or_eq_true,beq_iff_eq,decide_eq_true_eq] at h
  obtain⟨⟨⟨h1,h2⟩,h3⟩,h4⟩:=h
  refine⟨p.2,?_,h1,h2,h3,h4⟩
  show (ts.map (·.2))[i]? = some p.2
  rw[List.getElem?_map,q]<;>rfl
theorem ci.has' (O:ci X xs ts scope cl):∀ y,((relabel scope X.env).names.lookup y=some .cell∨(relabel scope X.env).names.lookup y=some .free)->(cl.lookup y).isSome=true:=λ y h=>by
 have go:∀ k:NameKind,(k=.cell∨k=.free)->(relabel scope X.env).names.lookup y=some k->(cl.lookup y).isSome=true:=λ k hk e=>by
  have z:=List.all_eq_true.mp O.has (y,k) (PySem.mem_of_lookup e)
  rcases Bool.or_eq_true_iff.mp z with z | z
  ·rcases hk with e | e<;>(rw[e] at z;cases z)
  ·exact z
 rcases h with h | h
 ·exact go _ (.inl rfl) h
 ·exact go _ (.inr rfl) h
theorem zL {pins:List (Addr×Obj)}{σ:St}{H3:Hp}{s3:Shared}{fp:List Addr} (O:ci X xs ts scope cl) (I3:Inv X pins σ H3 s3) (hfp:∀ b∈fp,fN X pins H3 b/\b<s3.heap.objs.size) :
  (bt X (cR xs ts) scope cl s3.heap.objs.size s3 H3 fp).Ok where
 mod:=I3.ok.mod
 kind:=O.kind
 glob:=I3.ok.glob
 blt:=I3.ok.blt
 above:=Nat.le_refl _
 inj:=λ y z c h1 h2=>I3.ok.inj y z c (O.sub y c h1) (O.sub z c h2)
 has:=λ y h=>Option.isSome_iff_exists.mp (O.has' y h)
 cab:=λ y c h=>by cases h
 hd:=I3.ok.hd
 frames:=I3.ok.frames
 stk:=.inl rfl
 exf:=λ b hb=>⟨Nat.ne_of_lt (hfp b hb).2,λ y c e=>(hfp b hb).1.2.2.2.2.1 y c (O.sub y c e)⟩
 bs:=λ b o e=>I3.bs b o e
 bsz:=Nat.le_trans I3.ok.bsz I3.sz
 noex:=λ b o e hb=>by
  rcases (hfp b hb).1.2.2.2.1 with z | z
  ·exact I3.ok.noex b o e z
  ·exact absurd (Nat.lt_of_lt_of_le (Heap.lt_size (I3.ok.bs b o e).1) z) (Nat.lt_irrefl _)
 exfs:=λ b hb hz=>by
  rcases List.mem_cons.mp (I3.stkSub b hz) with e | e
  ·exact (hfp b hb).1.2.1 e
  ·exact (hfp b hb).1.2.2.1 e
 funs:=I3.stack
 frf:=I3.stkFree
theorem jz {pins:List (Addr×Obj)}{σ:St}{H3:Hp}{s3:Shared}{fp:List Addr}{h1:Heap}{tk:Nat} (O:ci X xs ts scope cl) (I3:Inv X pins σ H3 s3) (hfp:∀ b∈fp,fN X pins H3 b/\b<s3.heap.objs.size)
  (hns:h1.Ns s3.heap.objs.size λ _=>none) (old:∀ b o,s3.heap.get? b=some o->h1.get? b=some o) :
  Inv (bt X (cR xs ts) scope cl s3.heap.objs.size s3 H3 fp) [] (List.replicate xs.length none++eB σ (dG ts)) H3 {s3 with heap:=h1,toks:=tk}:=by
 refine⟨zL O I3 hfp,rfl,I3.bare,Un.kept old,⟨_,hns,λ i y v e1 e2 e3=>?_⟩,λ y c e=>?_,I3.hok.fresh (Nat.le_refl _),λ y c e=>I3.freeC y c (O.sub y c e),λ p hp=>absurd (show p∈([]:List (Addr×Obj)) from hp) (by simp),I3.hok.kept old,?_⟩
 ·by_cases hi:i<xs.length
  ·rw[List.getElem?_append_left (by simpa using hi),List.getElem?_replicate,if_pos hi] at e2
   cases e2
  ·have hi':xs.length<=i:=Nat.le_of_not_lt hi
   have e1':(ts.map (·.1))[i-xs.length]? = some y:=by
    have:(xs++ts.map (·.1))[i]? = some y:=e1
    rw[List.getElem?_append_right hi'] at this;exact this
   rw[List.getElem?_append_right (by simpa using hi')] at e2
   rw[List.length_replicate] at e2
   obtain⟨j,hj,hN,hk,hcl,hk2⟩:=O.from' _ y e1'
   have e2':σ[j]? = some (some v):=by
    have q:=e2
    unfold eB at q
    rw[List.getElem?_map,hj] at q
    have q':(σ[j]?).getD none=some v:=Option.some.inj q
    cases z:σ[j]? with
    | none=>rw[z] at q';cases q'
    | some w=>rw[z] at q';rw[show w=some v from q']
   obtain⟨m,hn,hl⟩:=I3.loc
   have vis:Vis X.env.scope y:=hk.elim (λ z=>.inr (.inl z)) λ z=>.inr (.inr z)
   obtain⟨u,r,l⟩:=hl j y v hN e2' vis
   obtain⟨c,hc⟩:=Option.isSome_iff_exists.mp hcl
   refine⟨u,r,.inr ⟨hk2,c,hc,?_⟩⟩
   rcases l with ⟨k,_⟩ | ⟨_,c',hc',z⟩
   ·rcases hk with hk | hk
    ·rw[k] at hk;cases hk
    ·rw[k] at hk;cases hk
   ·rw[O.sub y c hc] at hc'
    cases hc'
    obtain⟨o,ho,hd⟩:=z
    exact⟨o,old c o ho,hd⟩
 ·obtain⟨v,o,ho,hd⟩:=I3.cell y c (O.sub y c e)
  exact⟨v,o,old c o ho,hd⟩
 ·show (List.replicate xs.length none++eB σ (dG ts)).length=(cR xs ts).length
  simp [eB]
theorem mE {use:Option (Value->Sem Unit)}{QV:Value->Shared->Prop}{cpos:Pos}{pins:List (Addr×Obj)}{s:Shared}{σ:St}{H:Hp}{Q:VK} (hc:X.calm=true) (O:ci X xs ts scope cl) (hi:PI X tg iter wi) (hg:∀ C s3 H3 fp,PG (bt X (cR xs ts) scope cl C s3 H3 fp) tg g)
  (ht:∀ C s3 H3 fp,PIf (bt X (cR xs ts) scope cl C s3 H3 fp) ifs tt) (he:∀ C s3 H3 fp,PE (bt X (cR xs ts) scope cl C s3 H3 fp) elt te)
  (hs:∀ x,foldedSetIterable iter X.env x=pure x) (I:Inv X pins σ H s) (h:mO wi g tt xs.length (dG ts) te σ H Q)
  (fin:∀ (D C:Addr) (s6:Shared) (H5:Hp),Inv X pins σ H5 s6->fN X pins H5 C->(∃ m,s6.heap.Ns C m)->Q (.ref D) H5->compPost (model X.prog X.w) X.A X.xe use QV (.ref D) C (.ok .next) s6) :
  wpAny (model X.prog X.w) X.A (comprehension (.ListComp elt [⟨tg,iter,ifs,0⟩] scope pos) scope X.env cpos (newList []) false (eval iter X.env) use) QV X.xe s:=by
 refine wpAny_comprehension_free (use:=use) rfl hs O.clos O.kind O.locs' (thn (hi pins s σ H _ I h) λ v s1 h1=>thn h1 λ itv s2 h2=>?_)
 obtain⟨it,fp,tn,J,H2,rfl,I2,T,st2,f2,q⟩:=h2
 have hD:H2 s2.heap.objs.size=none:=I2.hok.fresh (Nat.le_refl _)
 obtain⟨W,⟨m0,w0⟩,turn⟩:=q s2.heap.objs.size hD
 refine wpAny_newObj_type ?_
 have I3:Inv X pins σ (upd H2 s2.heap.objs.size (.lst [])) {s2 with heap:=s2.heap.push {cls:=.type "list",dict:=none,data:=.seq ([]:List Value).toArray}} :=
  I2.laid (a:=s2.heap.objs.size) (o:=.lst []) (t':=s2.toks) (λ b u e=>Heap.get?_push_of_some _ e) (Nat.le_refl _) ⟨Nat.zero_le _,[],0,.nil,Heap.get?_push_size _ rfl⟩
 generalize hs3:({s2 with heap:=s2.heap.push {cls:=.type "list",dict:=none,data:=.seq ([]:List Value).toArray}}:Shared)=s3 at I3
 have sz3:s3.heap.objs.size=s2.heap.objs.size+1:=by rw[<-hs3,Heap.size_push]
 have old3:∀ b u,s2.heap.get? b=some u->s3.heap.get? b=some u:=λ b u e=>by rw[<-hs3];exact Heap.get?_push_of_some _ e
 generalize hH3:upd H2 s2.heap.objs.size (.lst [])=H3 at I3 w0
 have fp2:∀ b∈fp,b<s2.heap.objs.size:=λ b hb=>by
  obtain⟨o,e,_⟩:=T.obj _ _ st2 b hb
  exact Heap.lt_size e
 have hfp:∀ b∈fp,fN X pins H3 b/\b<s3.heap.objs.size:=λ b hb=>by
  refine⟨⟨?_,(f2 b hb).2⟩,by rw[sz3];exact Nat.lt_succ_of_lt (fp2 b hb)⟩
  rw[<-hH3,aM (Nat.ne_of_lt (fp2 b hb))]
  exact (f2 b hb).1
 refine wpAny_newFunctionEnv O.nocell' (by intro y hy;simp at hy) (λ h₁ hns₁ hsb₁=>?_) O.kind
 have old:∀ b o,s3.heap.get? b=some o->h₁.get? b=some o:=λ b o e=>hsb₁.extBut b o (Nat.ne_of_lt (Heap.lt_size e)) (Heap.get?_push_of_some _ e)
 have eC:Inv (bt X (cR xs ts) scope cl s3.heap.objs.size s3 H3 fp) [] (List.replicate xs.length none++eB σ (dG ts)) H3 {s3 with heap:=h₁,toks:=s3.toks+0}:=jz O I3 hfp hns₁ old
 have st4:tn 0 h₁:=T.keep _ _ _ st2 λ b hb o e=>old b o (old3 b o e)
 have okX:∀ {H':Hp},(∀ b∈fp,H' b=none)->∀ b∈fp,fN (bt X (cR xs ts) scope cl s3.heap.objs.size s3 H3 fp) [] H' b:=λ hn b hb=>by
  refine⟨hn b hb,Nat.ne_of_lt (hfp b hb).2,λ z=>?_,.inl hb,λ y c e=>(f2 b hb).2.2.2.2.1 y c (O.sub y c e),λ p hp=>absurd (show p∈([]:List (Addr×Obj)) from hp) (by simp)⟩
  rcases List.mem_cons.mp (I3.stkSub b z) with e | e
  ·exact (f2 b hb).2.1 e
  ·exact (f2 b hb).2.2.1 e
 have loop:∀ s₄:Shared,s₄={s3 with heap:=h₁,toks:=s3.toks+0} ->
   codeAny (model X.prog X.w) X.A (.compLoop (.ListComp elt [⟨tg,iter,ifs,0⟩] scope pos) 0 (.ref it) (.ref s2.heap.objs.size) (compEnvC scope cl s3.heap.objs.size X.env))
    (compPost (model X.prog X.w) X.A X.xe use QV (.ref s2.heap.objs.size) s3.heap.objs.size) s₄:=by
  rintro s₄ rfl
  refine n6 (λ n s'=>∃ i ys σ0 H',σ0.length=xs.length/\Inv (bt X (cR xs ts) scope cl s3.heap.objs.size s3 H3 fp) [] (σ0++eB σ (dG ts)) H' s'/\tn i s'.heap/\(∀ b∈fp,H' b=none)/\W i n ys H') ?_ m0
   ⟨0,[],_,H3,by simp,eC,st4,λ b hb=>(hfp b hb).1.1,w0⟩
  rintro n s5 ⟨i,ys,σ0,H5,l0,I5,st5,fr5,w5⟩
  rcases turn i n ys H5 w5 with ⟨stop,qn⟩ | ⟨go,step⟩
  ·refine thn (T.done (bt X (cR xs ts) scope cl s3.heap.objs.size s3 H3 fp) rfl rfl rfl hc i [] s5 (σ0++eB σ (dG ts)) H5 _ I5 (okX fr5) st5 stop) λ r s6 ⟨hr,I6⟩=>?_
   subst hr
   obtain⟨m,hn,_⟩:=id I6.loc
   have u6:Un (frs X.stack) fp H3 H5 s3.heap s6.heap:=I6.base
   have fC:H5 s3.heap.objs.size=none:=I6.free
   exact fin s2.heap.objs.size s3.heap.objs.size s6 H5 (I3.call' (s':=s6) (ch:=fp) I6.os u6 I6.hok I6.bare (λ b hb=>⟨(f2 b hb).2.2.2.1,(f2 b hb).2.1,(f2 b hb).2.2.2.2.1,(f2 b hb).2.2.2.2.2⟩))
    (I3.fpOk (Nat.le_refl _) fC) ⟨m,hn⟩ qn
  ·refine thn (T.item (bt X (cR xs ts) scope cl s3.heap.objs.size s3 H3 fp) rfl rfl rfl hc i [] s5 (σ0++eB σ (dG ts)) H5 _ I5 (okX fr5) st5 go) λ r s6 ⟨u,hr,h6⟩=>?_
   subst hr
   refine thn h6 λ _ s7 ⟨z,H7,I7,rz,yz,st7,fr7⟩=>?_
   have I7':=I7.pinned (okX fr7) (T.obj _ _ st7)
   refine thn (hg s3.heap.objs.size s3 H3 fp _ s7 _ H7 z u _ I7' rz (step z H7 σ0 yz l0)) λ _ s8 ⟨σ8,H8,I8,⟨σ1,l1,e8⟩,q8⟩=>?_
   subst e8
   refine thn (ht s3.heap.objs.size s3 H3 fp _ s8 _ H8 _ I8 q8) λ b s9 ⟨H9,I9,q9⟩=>?_
   cases b with
   | true =>
    rw[if_pos rfl] at q9 ⊢
    refine thn (he s3.heap.objs.size s3 H3 fp _ s9 _ H9 _ I9 q9) λ y s10 ⟨vy,H10,I10,ry,hD9,hl9,m',hm',w9⟩=>?_
    refine thn (ms (X:=bt X (cR xs ts) scope cl s3.heap.objs.size s3 H3 fp) _ s10 _ H10 (.ref s2.heap.objs.size) [vy] (.ref s2.heap.objs.size) [y] (λ _ H11=>H11=upd H10 s2.heap.objs.size (.lst (ys++[vy]))) I10 rfl (.cons ry .nil) ⟨_,ys,vy,rfl,rfl,hD9,hl9,rfl⟩) λ _ s11 ⟨_,H11,I11,_,e11⟩=>?_
    subst e11
    refine⟨m',hm',i+1,ys++[vy],σ1,_,l1,I11.unpinned,T.keep _ _ _ st7 λ b hb o e=>(I11.pin (b,o) (List.mem_append_right _ (List.mem_append_right _ (bQ hb e)))).1,λ b hb=>?_,w9⟩
    obtain⟨o,e,d⟩:=T.obj _ _ st7 b hb
    exact (I11.pin (b,o) (List.mem_append_right _ (List.mem_append_right _ (bQ hb e)))).2.1
   | false =>
    rw[if_neg Bool.false_ne_true] at q9 ⊢
    obtain⟨m',hm',w9⟩:=q9
    refine⟨m',hm',i+1,ys,σ1,_,l1,I9.unpinned,T.keep _ _ _ st7 λ b hb o e=>(I9.pin (b,o) (List.mem_append_right _ (List.mem_append_right _ (bQ hb e)))).1,λ b hb=>?_,w9⟩
    obtain⟨o,e,d⟩:=T.obj _ _ st7 b hb
    exact (I9.pin (b,o) (List.mem_append_right _ (List.mem_append_right _ (bQ hb e)))).2.1
 have hst:=codeAny_compStart_list (loop _ rfl) (T.self X.A 0 _ _ _ st4 (loop _ rfl))
 exact hst
theorem dy (hc:X.calm=true) (O:ci X xs ts scope cl) (hi:PI X tg iter wi) (hg:∀ C s3 H3 fp,PG (bt X (cR xs ts) scope cl C s3 H3 fp) tg g)
  (ht:∀ C s3 H3 fp,PIf (bt X (cR xs ts) scope cl C s3 H3 fp) ifs tt) (he:∀ C s3 H3 fp,PE (bt X (cR xs ts) scope cl C s3 H3 fp) elt te)
  (hs:∀ x,foldedSetIterable iter X.env x=pure x:=by intro _;rfl):PE X (.ListComp elt [⟨tg,iter,ifs,0⟩] scope pos) (mO wi g tt xs.length (dG ts) te):=by
 intro pins s σ H Q I h
 rw[eval_ListComp]
 refine mE (use:=none) hc O hi hg ht he hs I h λ D C s6 H5 I6 fC ⟨m,hn⟩ q=>?_
 refine⟨m,hn,λ h' sb=>⟨.ref D,H5,?_,rfl,q⟩⟩
 exact I6.turned (it:=C) (t':=s6.toks) (λ b o hb e=>(sb.2 b hb).trans e) fC.1 fC.2.1 fC.2.2.2.1 fC.2.2.2.2.1 fC.2.2.2.2.2
theorem tR {i:Nat}{x:Str}{pos' sp:Pos} (hN:X.N.Nodup) (hix:X.N[i]? = some x) (hx:Loc X.env.scope x) (hc:X.calm=true) (O:ci X xs ts scope cl) (hi:PI X tg iter wi) (hg:∀ C s3 H3 fp,PG (bt X (cR xs ts) scope cl C s3 H3 fp) tg g)
  (ht:∀ C s3 H3 fp,PIf (bt X (cR xs ts) scope cl C s3 H3 fp) ifs tt) (he:∀ C s3 H3 fp,PE (bt X (cR xs ts) scope cl C s3 H3 fp) elt te)
  (hs:∀ x,foldedSetIterable iter X.env x=pure x:=by intro _;rfl) (hw:swapsWith (.ListComp elt [⟨tg,iter,ifs,0⟩] scope pos) (some (.Name x pos')) sp.line X.env=pure true:=by rfl)
  (hf:X.fn x=true∨X.env.scope.names.lookup x=some .local:=by first | exact .inl rfl | exact .inr rfl | assumption) :
  PS X (.Assign [.Name x pos'] (.ListComp elt [⟨tg,iter,ifs,0⟩] scope pos) sp) (DU (mO wi g tt xs.length (dG ts) te) (cC i)):=by
 intro pins s σ H D I h
 rw[exec_Assign_Name_used x pos' _ sp hw]
 refine wpAny_bind (wpAny_standAt (wpAny_bind ?_))
 show wpAny _ _ ((comprehension _ scope X.env _ (newList []) _ _ (some _)) >>= λ _=>pure ()) _ _ s
 refine wpAny_bind (mE (use:=some (assign (.Name x pos') X.env)) hc O hi hg ht he hs I h λ A C s6 H5 I6 fC ⟨m,hn⟩ q=>?_)
 obtain⟨o,es,ep,ho,r⟩:=id hn
 have onlyC:∀ b:Addr,b∈[C]->b=C:=λ b hb=>by simpa using hb
 have I6':=I6.pinned (fp:=[C]) (λ b hb=>onlyC b hb ▸ fC) (λ b hb=>by
  rw[onlyC b hb]
  exact⟨o,ho,λ v z=>by rw[r.1] at z;cases z⟩)
 refine wpAny_assign_Name (ic I6' hN hix hx (v:=.ref A) rfl (λ s7 I7=>?_) hf)
 have e7:s7.heap.get? C=some o:=(I7.pin (C,o) (List.mem_append_right _ (List.mem_append_right _ (bQ (by simp) ho)))).1
 refine⟨m,⟨o,es,ep,e7,r⟩,λ h' sb=>wpAny_pure (wpAny_pure ⟨_,H5,?_,q⟩)⟩
 exact I7.unpinned.turned (it:=C) (t':=s7.toks) (λ b o hb e=>(sb.2 b hb).trans e) fC.1 fC.2.1 fC.2.2.2.1 fC.2.2.2.2.1 fC.2.2.2.2.2
end
theorem eG {X:Cx}{N':List Str}{scope:Scope}{cl:List (Str×Addr)}{C:Addr}{s3:Shared}{H3:Hp}{fp:List Addr}{pos:Pos}{es:List Expr}{k:Nat}{t:TGs}{n:Nat} (hc:X.calm=true) (h:PGs (bt X N' scope cl C s3 H3 fp) es t)
  (hn:(assignEach es (bt X N' scope cl C s3 H3 fp).env).length=n:=by rfl) (hst:(assignEach es (bt X N' scope cl C s3 H3 fp).env).findIdx? (·.1)=none:=by rfl):PG (bt X N' scope cl C s3 H3 fp) (.Tuple es k pos) (pO X.K n t):=kA hc h hn hst
theorem oN {cs:List (Str×Addr)}:∀ (y:Str) (c:Addr),List.lookup y ([]:List (Str×Addr))=some c->cs.lookup y=some c:=λ _ _ h=>by cases h
end L2
namespace L2
open PySem PySem.Spec PyProof.Rows
section
variable {X:Cx}
def AS:V->List V->Hp->VK->Prop:=λ x vs H Q=>∃ (l:Addr) (xs:List V) (i:Int) (y:V),x=.ref l/\vs = [.int i,y]/\H l=some (.lst xs)/\0<=i/\i.toNat<=xs.length/\xs.length<sizeLine/\Q .non (upd H l (.lst (xs.take i.toNat++y::xs.drop i.toNat)))
theorem vF (l:Addr) (items:Array Value) (n:Nat) (x:Int) (u:Tok) (y:Value) (h0:0<=x) (h:x<2^63) (hs:items.size<=sizeLine):Meets (Builtin.«list.insert» {pos:=[Value.ref l,Value.int x u,y]}) λ x_1 R s =>
    s.heap.get? l=some {cls:=Value.type "list",data:=Data.seq items n} /\
     R (Except.ok (Flow.ret Value.none)) {s with heap:=s.heap.update l (Obj.mapSeq λ xs=>(xs.extract 0 (min x.toNat xs.size)).push y++xs.extract (min x.toNat xs.size))}:=by
 have hfit:¬(!Builtin.List.listFitsIndex x)=true:=by
  have:Builtin.List.listFitsIndex x=true:=by
   unfold Builtin.List.listFitsIndex
   simp
   omega
  rw[this];exact λ z=>nomatch z
 have M:=AutoSeq1.list_insert_list_int_val_1 l items n x u y hfit hs
 simp only[if_neg (show ¬ x<0 by omega)] at M
 exact M
theorem vo:MtM X "list.insert" AS:=by
 intro pins s σ H x vs v us Q I rx rv h
 obtain⟨l,xs,i,y,rfl,rfl,hH,h0,hi,hz,q⟩:=h
 cases rx
 cases rv with
 | cons r1 rr =>
  obtain⟨t,rfl⟩:=r1
  obtain⟨u,rfl,ru⟩:=bg.one rr
  obtain⟨z,its,n,r,hl,e⟩:=I.lstM hH
  have hsz:its.toArray.size<=sizeLine:=by rw[List.size_toArray];omega
  have hb:i<2^63:=by
   have:sizeLine=2^24:=rfl
   omega
  refine call_meets F.slot_list_insert ⟨_,e,rfl⟩ F.entry_list_insert (F.args_list_insert_3 (.ref l) (.int i t) u) (vF l its.toArray n i t u h0 hb hsz) ⟨e,?_⟩
  refine⟨.non,_,I.lset (its':=its.take i.toNat++u::its.drop i.toNat) hH e ?_ ((r.take _).append (.cons ru (r.drop _))) ?_,rfl,q⟩
  ·have g:min i.toNat its.length=i.toNat:=by omega
   simp [g]
   exact List.take_of_length_le (by simp)
  ·simp;omega
end
end L2
namespace L2
open PySem PySem.Spec PyProof.Rows
section
variable {X:Cx}
def Smk (i:Int):Prop:=i.natAbs<2^8900
theorem Smk.bits {i:Int} (h:Smk i):Builtin.Int.intBits i<=8900:=intBits_le_iff.mpr h
theorem vn {i j:Int} (hi:Smk i) (hj:Smk j):IntMulOk i j:=by
 have h1:=hi.bits
 have h2:=hj.bits
 unfold IntMulOk Builtin.Int.intTooBig
 intro h
 have h4:=of_decide_eq_true (Bool.and_eq_true_iff.mp h).2
 rw[bitsLine_eq] at h4
 omega
theorem yL {i j:Int} (hj:Smk j):Builtin.divisionGoesByPylong i j=false:=by
 refine PyProof.noPylong_of_log2 ?_
 by_cases h0:j.natAbs=0
 ·rw[h0];decide +kernel
 ·have h:j.natAbs.log2<8900:=(Nat.log2_lt h0).mpr hj
  omega
theorem bW:OpR X (binaryOp .Mult) (rI (λ i j=>Smk i/\Smk j) λ i j=>.int (i*j)):=opI λ _ _ _ _ _ _ _ hc q=>mul_int q (vn hc.1 hc.2)
theorem ir:OpR X (binaryOp .FloorDiv) (rI (λ _ j=>j≠0/\Smk j) λ i j=>.int (i.fdiv j)):=opI λ _ _ _ _ _ _ _ hc q=>floordiv_int hc.1 q (.inl (yL hc.2))
end
theorem Rd.same {H H':Hp}{a:Addr}{u:HO} (e:aA H H') (h:Rd H a u):Rd H' a u:=by
 rcases h with h | ⟨o,h⟩
 ·exact .inl (e a _ h)
 ·exact .inr ⟨o,e a _ h⟩
theorem aA.tup {K:PySem.W.Frag}{H H':Hp}{a:Addr}{xs:List V} (e:aA H H') (h:SqT K H a xs):SqT K H' a xs:=by
 rcases h with h | h
 ·exact .inl (h.same e)
 ·exact .inr h
theorem bb {H1 H2:Hp}{D:Addr}{o:HO} (h:aA H1 H2) (hD:H1 D=none):aA H1 (upd H2 D o):=λ b u e=>by
 rw[aM (aZ e hD)];exact h b u e
theorem jx {lo:Int}{n:Nat}{te:TE}{st:St}{H1:Hp}{Q:VK}{D:Addr} (f:Nat->V) (hD:H1 D=none) (hn:n<=sizeLine)
  (hs:∀ (i:Nat) (H2:Hp) (k:VK),i<n->aA H1 H2->(∀ H4,aA H2 H4->k (f i) H4)->te (some (.int (lo+i))::st) H2 k)
  (hd:∀ H2,aA H1 H2->H2 D=some (.lst ((List.range n).map f))->Q (.ref D) H2):fq (Itr lo n) (cC 0) j0 te 1 st D H1 Q:=by
 refine⟨λ i m ys H2=>m=n-i/\i<=n/\ys=(List.range i).map f/\aA H1 H2/\H2 D=some (.lst ys),⟨n,by simp,Nat.zero_le _,rfl,bb (aA.refl H1) hD,ai⟩,?_⟩
 rintro i m ys H2 ⟨rfl,hi,rfl,sm,e⟩
 by_cases hlt:i<n
 ·refine .inr ⟨hlt,?_⟩
  rintro x H3 σ0 ⟨rfl,rfl⟩ l0
  obtain⟨a,rfl⟩:∃ a,σ0 = [a]:=by
   match σ0,l0 with
   | [a],_=>exact⟨a,rfl⟩
  refine⟨⟨[some (.int (lo+i))],rfl,rfl⟩,?_⟩
  have ln:((List.range i).map f).length=i:=by rw[List.length_map,List.length_range]
  refine hs i _ _ hlt sm λ H4 s4=>⟨s4 _ _ e,by rw[ln];omega,n-(i+1),by omega,rfl,hlt,?_,bb (sm.trans s4) hD,ai⟩
  rw[List.range_succ,List.map_append]<;>rfl
 ·have ei:i=n:=by omega
  subst ei
  exact .inl ⟨Nat.le_refl _,hd _ sm e⟩
end L2
namespace L2
open PySem PySem.Spec PyProof.Rows
mutual
def db:Th->Th->Bool
 | .int i,.int j=>i == j
 | .str x,.str y=>x == y
 | .non,.non=>true
 | .tup ts,.tup us=>cA ts us
 | .lst ts,.lst us=>cA ts us
 | _,_=>false
def cA:List Th->List Th->Bool
 | [],[]=>true
 | t::ts,u::us=>db t u && cA ts us
 | _,_=>false
end
mutual
def bH:Th->Th->Bool
 | .int _,.int _=>true
 | .str _,.str _=>true
 | .non,.non=>true
 | .tup ts,.tup us=>dF ts us
 | .lst ts,.lst us=>dF ts us && ts.length == us.length
 | _,_=>false
def dF:List Th->List Th->Bool
 | t::ts,u::us=>bH t u && dF ts us
 | _,_=>true
end
theorem gz:∀ {ts us:List Th}{j:Nat}{t u:Th},dF ts us=true->ts[j]? = some t->us[j]? = some u->bH t u=true
 | t0::ts,u0::us,0,t,u,h,e1,e2=>by
  rw[List.getElem?_cons_zero] at e1 e2
  cases e1;cases e2
  simp only[dF,Bool.and_eq_true] at h
  exact h.1
 | t0::ts,u0::us,j+1,t,u,h,e1,e2=>by
  rw[List.getElem?_cons_succ] at e1 e2
  simp only[dF,Bool.and_eq_true] at h
  exact gz h.2 e1 e2
def cX (ts us:List Th) (j:Nat):Bool:=match ts[j]?,us[j]? with
 | some t,some u=>db t u
 | _,_=>true
theorem fi:∀ (ts us:List Th),((List.range (min ts.length us.length)).all (cX ts us) && ts.length == us.length)=cA ts us
 | [],[]=>by simp [cA]
 | [],u::us=>by simp [cA]
 | t::ts,[]=>by simp [cA]
 | t::ts,u::us=>by
  have ih:=fi ts us
  have e1:min (t::ts).length (u::us).length=min ts.length us.length+1:=by simp only[List.length_cons];omega
  have e2:((t::ts).length == (u::us).length)=(ts.length == us.length):=by
   simp only[List.length_cons]
   cases h:ts.length == us.length
   ·have:ts.length≠us.length:=by simpa using h
    simp;omega
   ·have:ts.length=us.length:=by simpa using h
    simp [this]
  rw[e1,e2,List.range_succ_eq_map,List.all_cons,List.all_map]
  have e3:cX (t::ts) (u::us) 0=db t u:=by simp [cX]
  have e4:(cX (t::ts) (u::us) ∘ Nat.succ)=cX ts us:=by
   funext j
   simp [cX,Function.comp]
  rw[e3,e4,cA,<-ih,Bool.and_assoc]
mutual
theorem i5:∀ {t:Th},bH t t=true->db t t=true
 | .int i,_=>by simp [db]
 | .str x,_=>by simp [db]
 | .non,_=>by simp [db]
 | .tup ts,h=>by rw[bH] at h;rw[db];exact gY h
 | .lst ts,h=>by rw[bH,Bool.and_eq_true] at h;rw[db];exact gY h.1
 | .bl b,h=>by simp [bH] at h
 | .emp,h=>by simp [bH] at h
 | .dic,h=>by simp [bH] at h
theorem gY:∀ {ts:List Th},dF ts ts=true->cA ts ts=true
 | [],_=>by simp [cA]
 | t::ts,h=>by
  rw[dF,Bool.and_eq_true] at h
  rw[cA,Bool.and_eq_true]
  exact⟨i5 h.1,gY h.2⟩
end
theorem Cn {i:Int}{u:Th} (c:bH (.int i) u=true):∃ j,u=.int j:=by cases u<;>first | exact⟨_,rfl⟩ | cases c
theorem Cj {i:Str}{u:Th} (c:bH (.str i) u=true):∃ j,u=.str j:=by cases u<;>first | exact⟨_,rfl⟩ | cases c
theorem Ck {u:Th} (c:bH .non u=true):u=.non:=by cases u<;>first | rfl | cases c
theorem Ci {i:List Th}{u:Th} (c:bH (.tup i) u=true):∃ j,u=.tup j:=by cases u<;>first | exact⟨_,rfl⟩ | cases c
theorem Cm {i:List Th}{u:Th} (c:bH (.lst i) u=true):∃ j,u=.lst j:=by cases u<;>first | exact⟨_,rfl⟩ | cases c
theorem Fy {b:Bool}{u:Th} (c:bH (.bl b) u=true):False:=by cases u<;>cases c
theorem Co {u:Th} (c:bH .emp u=true):False:=by cases u<;>cases c
theorem Cp {u:Th} (c:bH .dic u=true):False:=by cases u<;>cases c
mutual
theorem Den.inj {H:Hp}:∀ {t u:Th}{v:V},bH t u=true->Den H t v->Den H u v->t=u
 | .bl _,u,v,c,d1,d2=>(Fy c).elim
 | .emp,u,v,c,d1,d2=>(Co c).elim
 | .dic,u,v,c,d1,d2=>(Cp c).elim
 | .int i,u,v,c,d1,d2=>by
  obtain⟨j,rfl⟩:=Cn c
  cases (show v=V.int i from d1);cases (show V.int i=V.int j from d2);rfl
 | .str i,u,v,c,d1,d2=>by
  obtain⟨j,rfl⟩:=Cj c
  cases (show v=V.str i from d1);cases (show V.str i=V.str j from d2);rfl
 | .non,u,v,c,d1,d2=>(Ck c).symm
 | .tup ts,u,v,c,d1,d2=>by
  obtain⟨us,rfl⟩:=Ci c
  obtain⟨a1,xs,rfl,h1,e1⟩:=d1
  obtain⟨a2,ys,e0,h2,e2⟩:=d2
  cases e0
  rw[h1] at h2
  cases h2
  rw[bH] at c
  rw[bu.inj c e1 e2]
 | .lst ts,u,v,c,d1,d2=>by
  obtain⟨us,rfl⟩:=Cm c
  obtain⟨a1,xs,rfl,h1,e1⟩:=d1
  obtain⟨a2,ys,e0,h2,e2⟩:=d2
  cases e0
  rw[h1] at h2
  cases h2
  rw[bH,Bool.and_eq_true] at c
  rw[bu.inj c.1 e1 e2]
theorem bu.inj {H:Hp}:∀ {ts us:List Th}{xs:List V},dF ts us=true->bu H ts xs->bu H us xs->ts=us
 | [],[],_,_,_,_=>rfl
 | [],u::us,xs,_,d1,d2=>by
  have e1:=d1.len
  have e2:=d2.len
  simp at e1 e2
  rw[e1] at e2
  simp at e2
 | t::ts,[],xs,_,d1,d2=>by
  have e1:=d1.len
  have e2:=d2.len
  simp at e1 e2
  rw[e2] at e1
  simp at e1
 | t::ts,u::us,xs,c,d1,d2=>by
  obtain⟨x,r,rfl,p1,q1⟩:=d1
  obtain⟨x',r',e,p2,q2⟩:=d2
  cases e
  rw[dF,Bool.and_eq_true] at c
  rw[Den.inj c.1 p1 p2,bu.inj c.2 q1 q2]
end
theorem k7 {H:Hp}{ts us:List Th}{xs ys:List V}{vs ws:List Value} (d1:bu H ts xs) (d2:bu H us ys) (r1:bg xs vs) (r2:bg ys ws) (j:Nat) (h1:j<vs.toArray.size) (h2:j<ws.toArray.size) :
  ∃ t u v1 v2,ts[j]? = some t/\us[j]? = some u/\Den H t v1/\Den H u v2/\bw v1 vs.toArray[j]/\bw v2 ws.toArray[j]:=by
 have l1:j<ts.length:=by rw[<-d1.len,r1.length];simpa using h1
 have l2:j<us.length:=by rw[<-d2.len,r2.length];simpa using h2
 obtain⟨v1,e1,q1⟩:=d1.get (List.getElem?_eq_getElem l1)
 obtain⟨v2,e2,q2⟩:=d2.get (List.getElem?_eq_getElem l2)
 obtain⟨u1,f1,g1⟩:=r1.get e1
 obtain⟨u2,f2,g2⟩:=r2.get e2
 have k1:vs.toArray[j]=u1:=by
  have:vs[j]? = some vs.toArray[j]:=by simp
  rw[this] at f1;exact Option.some.inj f1
 have k2:ws.toArray[j]=u2:=by
  have:ws[j]? = some ws.toArray[j]:=by simp
  rw[this] at f2;exact Option.some.inj f2
 exact⟨_,_,v1,v2,List.getElem?_eq_getElem l1,List.getElem?_eq_getElem l2,q1,q2,by rw[k1];exact g1,by rw[k2];exact g2⟩
def FJ (H:Hp) (s:Shared) (n:Nat):Prop:=∀ (A:Around) (t u:Th) (v1 v2:V) (u1 u2:Value),jE t<=n->A.units+n<cLine->bH t u=true->Den H t v1->Den H u v2->bw v1 u1->bw v2 u2->SeqAt.EqAt A s u1 u2 (db t u)
theorem B7 {P:Program}{w:World}{H:Hp}{s:Shared} (hok:HOk P w H s.heap) {n:Nat} (ih:FJ H s n) {A:Around}{ts us:List Th}{v1 v2:V}{u1 u2:Value} (hd':iF ts<=n) (hu:A.units+(n+1)<cLine) (hc:bH (.tup ts) (.tup us)=true)
  (d1:Den H (.tup ts) v1) (d2:Den H (.tup us) v2) (r1:bw v1 u1) (r2:bw v2 u2):SeqAt.EqAt A s u1 u2 (db (.tup ts) (.tup us)):=by
 by_cases hv:v1=v2
 ·subst hv
  have e:=Den.inj hc d1 d2
  cases e
  rw[i5 hc]
  obtain⟨a1,xs,rfl,h1,e1⟩:=d1
  cases (show u1=Value.ref a1 from r1);cases (show u2=Value.ref a1 from r2)
  exact SeqAt.EqAt.same _
 obtain⟨a1,xs,rfl,h1,e1⟩:=d1
 obtain⟨a2,ys,rfl,h2,e2⟩:=d2
 have hne:a1≠a2:=λ z=>hv (by rw[z])
 cases (show u1=Value.ref a1 from r1);cases (show u2=Value.ref a2 from r2)
 obtain⟨_,ws1,q1,g1⟩:=(show bx P w H s.heap a1 (.tup xs) from hok a1 _ h1)
 obtain⟨_,ws2,q2,g2⟩:=(show bx P w H s.heap a2 (.tup ys) from hok a2 _ h2)
 have z1:ws1.toArray.size=ts.length:=by rw[List.size_toArray,<-q1.length,e1.len]
 have z2:ws2.toArray.size=us.length:=by rw[List.size_toArray,<-q2.length,e2.len]
 rw[bH] at hc
 have h:=SeqAt.RcAt.tuples (A:=A) (s:=s) (e:=cX ts us) (show s.heap.IsTuple a1 ws1.toArray from g1) (show s.heap.IsTuple a2 ws2.toArray from g2) (by omega) λ j j1 j2=>by
  obtain⟨t,u,w1,w2,ht,hu',p1,p2,s1,s2⟩:=k7 e1 e2 q1 q2 j j1 j2
  have e:cX ts us j=db t u:=by unfold cX;rw[ht,hu']
  rw[e]
  exact ih A.in1 t u w1 w2 _ _ (by have:=gy ht;omega) (by show A.units+1+n<cLine;omega) (gz hc ht hu') p1 p2 s1 s2
 rw[z1,z2,fi] at h
 rw[db]
 exact SeqAt.EqAt.of_refs hne h
theorem B8 {P:Program}{w:World}{H:Hp}{s:Shared} (hok:HOk P w H s.heap) {n:Nat} (ih:FJ H s n) {A:Around}{ts us:List Th}{v1 v2:V}{u1 u2:Value} (hd':iF ts<=n) (hu:A.units+(n+1)<cLine) (hc:bH (.lst ts) (.lst us)=true)
  (d1:Den H (.lst ts) v1) (d2:Den H (.lst us) v2) (r1:bw v1 u1) (r2:bw v2 u2):SeqAt.EqAt A s u1 u2 (db (.lst ts) (.lst us)):=by
 by_cases hv:v1=v2
 ·subst hv
  have e:=Den.inj hc d1 d2
  cases e
  rw[i5 hc]
  obtain⟨a1,xs,rfl,h1,e1⟩:=d1
  cases (show u1=Value.ref a1 from r1);cases (show u2=Value.ref a1 from r2)
  exact SeqAt.EqAt.same _
 obtain⟨a1,xs,rfl,h1,e1⟩:=d1
 obtain⟨a2,ys,rfl,h2,e2⟩:=d2
 have hne:a1≠a2:=λ z=>hv (by rw[z])
 cases (show u1=Value.ref a1 from r1);cases (show u2=Value.ref a2 from r2)
 obtain⟨_,ws1,n1,q1,g1⟩:=(show bx P w H s.heap a1 (.lst xs) from hok a1 _ h1)
 obtain⟨_,ws2,n2,q2,g2⟩:=(show bx P w H s.heap a2 (.lst ys) from hok a2 _ h2)
 have z1:ws1.toArray.size=ts.length:=by rw[List.size_toArray,<-q1.length,e1.len]
 have z2:ws2.toArray.size=us.length:=by rw[List.size_toArray,<-q2.length,e2.len]
 rw[bH,Bool.and_eq_true] at hc
 have hl:ts.length=us.length:=by simpa using hc.2
 have h:=SeqAt.RcAt.lists (A:=A) (s:=s) (e:=cX ts us) (⟨_,g1,rfl,_,rfl⟩:s.heap.IsList a1 ws1.toArray) (⟨_,g2,rfl,_,rfl⟩:s.heap.IsList a2 ws2.toArray) (by rw[z1,z2,hl]) (by omega) λ j j1 j2=>by
  obtain⟨t,u,w1,w2,ht,hu',p1,p2,s1,s2⟩:=k7 e1 e2 q1 q2 j j1 j2
  have e:cX ts us j=db t u:=by unfold cX;rw[ht,hu']
  rw[e]
  exact ih A.in1 t u w1 w2 _ _ (by have:=gy ht;omega) (by show A.units+1+n<cLine;omega) (gz hc.1 ht hu') p1 p2 s1 s2
 have ha:=fi ts us
 rw[hl,Nat.min_self,beq_self_eq_true,Bool.and_true] at ha
 rw[z1,hl,ha] at h
 rw[db]
 exact SeqAt.EqAt.of_refs hne h
theorem eqQ {P:Program}{w:World}{H:Hp}{s:Shared} (hok:HOk P w H s.heap) (n:Nat):FJ H s n:=by
 induction n with
 | zero =>
  intro A t u v1 v2 u1 u2 hd hu hc d1 d2 r1 r2
  cases t with
  | int i=>cases u with
   | int j =>
    cases (show v1=V.int i from d1);cases (show v2=V.int j from d2)
    obtain⟨k1,rfl⟩:=(show ∃ k,u1=Value.int i k from r1)
    obtain⟨k2,rfl⟩:=(show ∃ k,u2=Value.int j k from r2)
    rw[db]
    exact SeqAt.EqAt.int_int (A:=A) (s:=s) i k1 j k2
   | _=>simp [bH] at hc
  | str i=>cases u with
   | str j =>
    cases (show v1=V.str i from d1);cases (show v2=V.str j from d2)
    obtain⟨k1,rfl⟩:=(show ∃ k,u1=Value.str i k from r1)
    obtain⟨k2,rfl⟩:=(show ∃ k,u2=Value.str j k from r2)
    rw[db]
    exact SeqAt.EqAt.str_str (A:=A) (s:=s) i k1 j k2
   | _=>simp [bH] at hc
  | non=>cases u with
   | non =>
    cases (show v1=V.non from d1);cases (show v2=V.non from d2)
    cases (show u1=Value.none from r1);cases (show u2=Value.none from r2)
    rw[db]
    exact SeqAt.EqAt.same _
   | _=>simp [bH] at hc
  | tup ts=>simp [jE] at hd
  | lst ts=>simp [jE] at hd
  | bl b=>simp [bH] at hc
  | emp=>simp [bH] at hc
  | dic=>simp [bH] at hc
 | succ n ih =>
  intro A t u v1 v2 u1 u2 hd hu hc d1 d2 r1 r2
  cases t with
  | int i=>exact ih A _ u v1 v2 u1 u2 (by simp [jE]) (by omega) hc d1 d2 r1 r2
  | str i=>exact ih A _ u v1 v2 u1 u2 (by simp [jE]) (by omega) hc d1 d2 r1 r2
  | non=>exact ih A _ u v1 v2 u1 u2 (by simp [jE]) (by omega) hc d1 d2 r1 r2
  | tup ts=>cases u with
   | tup us=>exact B7 hok ih (by simp [jE] at hd;omega) hu hc d1 d2 r1 r2
   | _=>simp [bH] at hc
  | lst ts=>cases u with
   | lst us=>exact B8 hok ih (by simp [jE] at hd;omega) hu hc d1 d2 r1 r2
   | _=>simp [bH] at hc
  | bl b=>simp [bH] at hc
  | emp=>simp [bH] at hc
  | dic=>simp [bH] at hc
section
variable {X:Cx}
theorem EA (hu:X.A.units+64<cLine):OpR X (compareOp .Eq) (λ x y H Q=>∃ ts us,Den H (.tup ts) x/\Den H (.tup us) y/\iF ts<=50/\dF ts us=true/\Q (.bl (cA ts us)) H):=by
 intro pins s σ H x y v u Q I rx ry h
 obtain⟨ts,us,d1,d2,hd,hc,q⟩:=h
 obtain⟨a1,xs,rfl,h1,e1⟩:=d1
 obtain⟨a2,ys,rfl,h2,e2⟩:=d2
 cases (show v=Value.ref a1 from rx);cases (show u=Value.ref a2 from ry)
 obtain⟨_,ws1,q1,g1⟩:=(show bx X.prog X.w H s.heap a1 (.tup xs) from I.hok a1 _ h1)
 obtain⟨_,ws2,q2,g2⟩:=(show bx X.prog X.w H s.heap a2 (.tup ys) from I.hok a2 _ h2)
 have z1:ws1.toArray.size=ts.length:=by rw[List.size_toArray,<-q1.length,e1.len]
 have z2:ws2.toArray.size=us.length:=by rw[List.size_toArray,<-q2.length,e2.len]
 have h:=SeqAt.RcAt.tuples (A:=X.A) (s:=s) (e:=cX ts us) (show s.heap.IsTuple a1 ws1.toArray from g1) (show s.heap.IsTuple a2 ws2.toArray from g2) (by omega) λ j j1 j2=>by
  obtain⟨t,u,w1,w2,ht,hu',p1,p2,s1,s2⟩:=k7 e1 e2 q1 q2 j j1 j2
  have e:cX ts us j=db t u:=by unfold cX;rw[ht,hu']
  rw[e]
  exact eqQ I.hok 50 X.A.in1 t u w1 w2 _ _ (by have:=gy ht;omega) (by show X.A.units+1+50<cLine;omega) (gz hc ht hu') p1 p2 s1 s2
 rw[z1,z2,fi] at h
 exact h X.prog X.w _ _ ⟨.bl _,H,I,rfl,q⟩
end
theorem DW {cs:List (Str×Addr)}:∀ {l:List (Str×Addr)},(∀ p∈l,cs.lookup p.1=some p.2)->∀ (y:Str) (c:Addr),l.lookup y=some c->cs.lookup y=some c
 | [],_,y,c,h=>by cases h
 | p::l,k,y,c,h=>by
  rw[List.lookup_cons] at h
  by_cases e:(y == p.1)=true
  ·rw[e] at h
   have h':p.2=c:=Option.some.inj h
   have ey:y=p.1:=beq_iff_eq.mp e
   rw[ey,<-h']
   exact k p (List.mem_cons_self ..)
  ·have e':(y == p.1)=false:=Bool.eq_false_iff.mpr e
   rw[e'] at h
   exact DW (λ q hq=>k q (List.mem_cons_of_mem _ hq)) y c h
theorem DX {cs:List (Str×Addr)}{x1 x2:Str}{c1 c2:Addr} (h1:cs.lookup x1=some c1) (h2:cs.lookup x2=some c2):∀ (y:Str) (c:Addr),List.lookup y [(x1,c1),(x2,c2)]=some c->cs.lookup y=some c :=
 DW λ p hp=>by
  simp only[List.mem_cons,List.not_mem_nil,or_false] at hp
  rcases hp with rfl | rfl<;>assumption
theorem F4 {cs:List (Str×Addr)}{x1 x2 x3:Str}{c1 c2 c3:Addr} (h1:cs.lookup x1=some c1) (h2:cs.lookup x2=some c2) (h3:cs.lookup x3=some c3):∀ (y:Str) (c:Addr),List.lookup y [(x1,c1),(x2,c2),(x3,c3)]=some c->cs.lookup y=some c :=
 DW λ p hp=>by
  simp only[List.mem_cons,List.not_mem_nil,or_false] at hp
  rcases hp with rfl | rfl | rfl<;>assumption
theorem jw {lo:Int}{n:Nat}{te:TE}{st:St}{H1:Hp}{Q:VK}{D:Addr} (R:Nat->List V->Hp->Prop) (hD:H1 D=none) (hn:n<=sizeLine) (h0:R 0 [] (upd H1 D (.lst [])))
  (hs:∀ (i:Nat) (ys:List V) (H2:Hp) (k:VK),i<n->aA H1 H2->H2 D=some (.lst ys)->R i ys H2->(∀ y H4,aA H2 H4->R (i+1) (ys++[y]) (upd H4 D (.lst (ys++[y])))->k y H4)->te (some (.int (lo+i))::st) H2 k)
  (hd:∀ ys H2,aA H1 H2->H2 D=some (.lst ys)->ys.length=n->R n ys H2->Q (.ref D) H2):ja (Itr lo n) te st D H1 Q:=by
 refine⟨λ i m ys H2=>m=n-i/\i<=n/\ys.length=i/\aA H1 H2/\H2 D=some (.lst ys)/\R i ys H2,⟨n,by simp,Nat.zero_le _,rfl,bb (aA.refl H1) hD,ai,h0⟩,?_⟩
 rintro i m ys H2 ⟨rfl,hi,hl,sm,e,r⟩
 by_cases hlt:i<n
 ·refine .inr ⟨hlt,?_⟩
  rintro x H3 ⟨rfl,rfl⟩
  refine hs i ys _ _ hlt sm e r λ y H4 s4 r4=>⟨s4 _ _ e,by omega,n-(i+1),by omega,rfl,hlt,by simp [hl],bb (sm.trans s4) hD,ai,r4⟩
 ·have ei:i=n:=by omega
  subst ei
  exact .inl ⟨Nat.le_refl _,hd ys H2 sm e hl r⟩
end L2
namespace L2
open PySem PySem.Spec PyProof.Rows
theorem lh {α:Type}{K:PySem.W.Frag}{a:Addr}{xs:List V}{te:TE}{tt:TT}{st:St}{H1:Hp}{Q:VK}{D:Addr} (ps:List α) (p:α->Bool) (R:α->V->V->Prop) (hD:H1 D=none) (q1:SqT K H1 a xs) (hl:xs.length=ps.length) (hn:xs.length<=sizeLine)
  (hx:∀ (i:Nat) (h:α),ps[i]? = some h->∃ b u v,xs[i]? = some (.ref b)/\H1 b=some (.tup [u,v])/\R h u v)
  (ht:∀ (h:α) (u v:V) (H2:Hp) (k:Bool->Hp->Prop),R h u v->aA H1 H2->(∀ H4,aA H2 H4->k (p h) H4)->tt (some u::some v::st) H2 k)
  (hs:∀ (h:α) (u v:V) (H2:Hp) (k:VK),R h u v->aA H1 H2->(∀ x H4,aA H2 H4->k x H4)->te (some u::some v::st) H2 k)
  (hd:∀ H2 ys,aA H1 H2->H2 D=some (.lst ys)->ys.length=(ps.filter p).length->Q (.ref D) H2):fq (Itt K a) (pO K 2 (fe (cC 0) (fe (cC 1) rO))) tt te 2 st D H1 Q:=by
 refine⟨λ i m zs H2=>m=xs.length-i/\i<=xs.length/\zs.length=((ps.take i).filter p).length/\aA H1 H2/\H2 D=some (.lst zs),⟨xs.length,by simp,Nat.zero_le _,by simp,bb (aA.refl H1) hD,ai⟩,?_⟩
 rintro i m zs H2 ⟨rfl,hi,hz,sm,e⟩
 by_cases hlt:i<xs.length
 ·have ex:xs[i]? = some xs[i]:=List.getElem?_eq_getElem hlt
  obtain⟨h,ep⟩:∃ h,ps[i]? = some h:=⟨_,List.getElem?_eq_getElem (show i<ps.length by omega)⟩
  obtain⟨b,u,v,e1,e2,r⟩:=hx i h ep
  refine .inr ⟨⟨xs,_,sm.tup q1,ex⟩,?_⟩
  rintro x H3 σ0 ⟨rfl,hx'⟩ l0
  have hx2:=hx' xs (sm.tup q1)
  rw[e1] at hx2
  cases hx2
  obtain⟨a',b',rfl⟩:∃ a b,σ0 = [a,b]:=by
   match σ0,l0 with
   | [a,b],_=>exact⟨a,b,rfl⟩
  refine⟨b,[u,v],rfl,SqT.of (sm _ _ e2),rfl,u,[v],rfl,v,[],rfl,rfl,⟨[some u,some v],rfl,rfl⟩,?_⟩
  have tk:ps.take (i+1)=ps.take i++[h]:=by rw[List.take_add_one,ep];rfl
  have ln:((ps.take i).filter p).length<=i:=Nat.le_trans (List.length_filter_le _ _) (by simp;omega)
  refine ht h u v _ _ r sm λ H4 s4=>?_
  cases hp:p h with
  | true =>
   rw[if_pos rfl]
   refine hs h u v _ _ r (sm.trans s4) λ y H5 s5=>⟨s5 _ _ (s4 _ _ e),by omega,xs.length-(i+1),by omega,rfl,hlt,?_,bb (sm.trans (s4.trans s5)) hD,ai⟩
   rw[tk,List.filter_append]
   simp [hp,hz]
  | false =>
   rw[if_neg Bool.false_ne_true]
   refine⟨xs.length-(i+1),by omega,rfl,hlt,?_,sm.trans s4,s4 _ _ e⟩
   rw[tk,List.filter_append]
   simp [hp,hz]
 ·have ei:i=xs.length:=by omega
  subst ei
  refine .inl ⟨⟨xs,sm.tup q1,Nat.le_refl _⟩,hd _ zs sm e ?_⟩
  rw[hz,List.take_of_length_le (by omega)]
theorem se {α:Type}{K:PySem.W.Frag}{a:Addr}{xs:List V}{te:TE}{tt:TT}{st:St}{H1:Hp}{Q:VK}{D:Addr} (ps:List α) (p:α->Bool) (R:α->V->Prop) (hD:H1 D=none) (q1:SqL K H1 a xs) (hl:xs.length=ps.length) (hn:xs.length<=sizeLine)
  (hx:∀ (i:Nat) (h:α),ps[i]? = some h->∃ u,xs[i]? = some u/\R h u)
  (ht:∀ (h:α) (u:V) (H2:Hp) (k:Bool->Hp->Prop),R h u->aA H1 H2->(∀ H4,aA H2 H4->k (p h) H4)->tt (some u::st) H2 k)
  (hs:∀ (h:α) (u:V) (H2:Hp) (k:VK),R h u->aA H1 H2->(∀ x H4,aA H2 H4->k x H4)->te (some u::st) H2 k)
  (hd:∀ H2 ys,aA H1 H2->H2 D=some (.lst ys)->ys.length=(ps.filter p).length->Q (.ref D) H2):fq (Itl K a) (cC 0) tt te 1 st D H1 Q:=by
 refine⟨λ i m zs H2=>m=xs.length-i/\i<=xs.length/\zs.length=((ps.take i).filter p).length/\aA H1 H2/\H2 D=some (.lst zs),⟨xs.length,by simp,Nat.zero_le _,by simp,bb (aA.refl H1) hD,ai⟩,?_⟩
 rintro i m zs H2 ⟨rfl,hi,hz,sm,e⟩
 by_cases hlt:i<xs.length
 ·have ex:xs[i]? = some xs[i]:=List.getElem?_eq_getElem hlt
  obtain⟨h,ep⟩:∃ h,ps[i]? = some h:=⟨_,List.getElem?_eq_getElem (show i<ps.length by omega)⟩
  obtain⟨u,e1,r⟩:=hx i h ep
  refine .inr ⟨⟨xs,_,sm.seq q1,ex⟩,?_⟩
  rintro x H3 σ0 ⟨rfl,hx'⟩ l0
  have hx2:=hx' xs (sm.seq q1)
  rw[e1] at hx2
  cases hx2
  obtain⟨a',rfl⟩:∃ a,σ0 = [a]:=by
   match σ0,l0 with
   | [a],_=>exact⟨a,rfl⟩
  refine⟨⟨[some u],rfl,rfl⟩,?_⟩
  have tk:ps.take (i+1)=ps.take i++[h]:=by rw[List.take_add_one,ep];rfl
  have ln:((ps.take i).filter p).length<=i:=Nat.le_trans (List.length_filter_le _ _) (by simp;omega)
  refine ht h u _ _ r sm λ H4 s4=>?_
  cases hp:p h with
  | true =>
   rw[if_pos rfl]
   refine hs h u _ _ r (sm.trans s4) λ y H5 s5=>⟨s5 _ _ (s4 _ _ e),by omega,xs.length-(i+1),by omega,rfl,hlt,?_,bb (sm.trans (s4.trans s5)) hD,ai⟩
   rw[tk,List.filter_append]
   simp [hp,hz]
  | false =>
   rw[if_neg Bool.false_ne_true]
   refine⟨xs.length-(i+1),by omega,rfl,hlt,?_,sm.trans s4,s4 _ _ e⟩
   rw[tk,List.filter_append]
   simp [hp,hz]
 ·have ei:i=xs.length:=by omega
  subst ei
  refine .inl ⟨⟨xs,sm.seq q1,Nat.le_refl _⟩,hd _ zs sm e ?_⟩
  rw[hz,List.take_of_length_le (by omega)]
theorem vR {K:PySem.W.Frag}{l1 l2:Addr}{xs ys:List V}{te:TE}{st:St}{H1:Hp}{Q:VK}{D:Addr}{n:Nat} (R:Nat->List V->Hp->Prop) (hD:H1 D=none) (q1:SqL K H1 l1 xs) (q2:SqL K H1 l2 ys) (n1:n<=xs.length) (n2:n<=ys.length) (ne:xs.length=n∨ys.length=n) (hn:n<=sizeLine) (h0:R 0 [] (upd H1 D (.lst [])))
  (hs:∀ (i:Nat) (x y:V) (zs:List V) (H2 H3:Hp) (k:VK),i<n->xs[i]? = some x->ys[i]? = some y->aA H1 H2->aA H2 H3->H2 D=some (.lst zs)->R i zs H2->(∀ z H4,aA H3 H4->R (i+1) (zs++[z]) (upd H4 D (.lst (zs++[z])))->k z H4)->te (some x::some y::st) H3 k)
  (hd:∀ zs H2,aA H1 H2->H2 D=some (.lst zs)->zs.length=n->R n zs H2->Q (.ref D) H2):fq (Itz K l1 l2) (pO K 2 (fe (cC 0) (fe (cC 1) rO))) j0 te 2 st D H1 Q:=by
 refine⟨λ i m zs H2=>m=n-i/\i<=n/\zs.length=i/\aA H1 H2/\H2 D=some (.lst zs)/\R i zs H2,⟨n,by simp,Nat.zero_le _,rfl,bb (aA.refl H1) hD,ai,h0⟩,?_⟩
 rintro i m zs H2 ⟨rfl,hi,hz,sm,e,r⟩
 by_cases hlt:i<n
 ·have ex:xs[i]? = some (xs[i]'(by omega)):=List.getElem?_eq_getElem (by omega)
  have ey:ys[i]? = some (ys[i]'(by omega)):=List.getElem?_eq_getElem (by omega)
  refine .inr ⟨⟨xs,ys,_,_,sm.seq q1,sm.seq q2,ex,ey⟩,?_⟩
  rintro v H3 σ0 ⟨T,x,y,fr,rfl,rfl,hx,hy⟩ l0
  have hx':=hx xs (sm.seq q1)
  have hy':=hy ys (sm.seq q2)
  obtain⟨a,b,rfl⟩:∃ a b,σ0 = [a,b]:=by
   match σ0,l0 with
   | [a,b],_=>exact⟨a,b,rfl⟩
  refine⟨T,[x,y],rfl,SqT.of ai,rfl,x,[y],rfl,y,[],rfl,rfl,⟨[some x,some y],rfl,rfl⟩,?_⟩
  have s3:aA H2 (upd H2 T (.tup [x,y])):=aw fr _
  exact hs i x y zs H2 _ _ hlt hx' hy' sm s3 e r λ z H4 s4 r4=>⟨s4 _ _ (s3 _ _ e),by omega,n-(i+1),by omega,rfl,hlt,by simp [hz],bb (sm.trans (s3.trans s4)) hD,ai,r4⟩
 ·have ei:i=n:=by omega
  subst ei
  refine .inl ⟨⟨xs,ys,sm.seq q1,sm.seq q2,?_⟩,hd zs H2 sm e hz r⟩
  rcases ne with z | z
  ·exact .inl (by omega)
  ·exact .inr (by omega)
theorem rZ {K:PySem.W.Frag}{a:Addr}{xs:List V}{te:TE}{st:St}{H1:Hp}{Q:VK}{D:Addr} (R:Nat->List V->Hp->Prop) (hD:H1 D=none) (q1:SqL K H1 a xs) (hn:xs.length<=sizeLine) (h0:R 0 [] (upd H1 D (.lst [])))
  (hs:∀ (i:Nat) (x:V) (ys:List V) (H2:Hp) (k:VK),xs[i]? = some x->aA H1 H2->H2 D=some (.lst ys)->R i ys H2->(∀ y H4,aA H2 H4->R (i+1) (ys++[y]) (upd H4 D (.lst (ys++[y])))->k y H4)->te (some x::st) H2 k)
  (hd:∀ ys H2,aA H1 H2->H2 D=some (.lst ys)->ys.length=xs.length->R xs.length ys H2->Q (.ref D) H2):ja (Itl K a) te st D H1 Q:=by
 refine⟨λ i m ys H2=>m=xs.length-i/\i<=xs.length/\ys.length=i/\aA H1 H2/\H2 D=some (.lst ys)/\R i ys H2,⟨xs.length,by simp,Nat.zero_le _,rfl,bb (aA.refl H1) hD,ai,h0⟩,?_⟩
 rintro i m ys H2 ⟨rfl,hi,hl,sm,e,r⟩
 by_cases hlt:i<xs.length
 ·have ex:xs[i]? = some xs[i]:=List.getElem?_eq_getElem hlt
  refine .inr ⟨⟨xs,_,sm.seq q1,ex⟩,?_⟩
  rintro x H3 ⟨rfl,hx⟩
  have hx':=hx xs (sm.seq q1)
  exact hs i x ys _ _ hx' sm e r λ y H4 s4 r4=>⟨s4 _ _ e,by omega,xs.length-(i+1),by omega,rfl,hlt,by simp [hl],bb (sm.trans s4) hD,ai,r4⟩
 ·have ei:i=xs.length:=by omega
  subst ei
  exact .inl ⟨⟨xs,sm.seq q1,Nat.le_refl _⟩,hd ys H2 sm e hl r⟩
def FZ:TS:=λ _ _ _=>False
theorem dN {X:Cx}{st:Stmt}:PS X st FZ:=λ _ _ _ _ _ _ h=>h.elim
theorem lf {K:PySem.W.Frag}{a:Addr}{xs:List V}{te:TE}{st:St}{H1:Hp}{Q:VK}{D:Addr} (R:Nat->List V->Hp->Prop) (hD:H1 D=none) (q1:SqT K H1 a xs) (hn:xs.length<=sizeLine) (h0:R 0 [] (upd H1 D (.lst [])))
  (hx:∀ (i:Nat),i<xs.length->∃ b u v,xs[i]? = some (.ref b)/\H1 b=some (.tup [u,v]))
  (hs:∀ (i:Nat) (b:Addr) (u v:V) (ys:List V) (H2:Hp) (k:VK),xs[i]? = some (.ref b)->H1 b=some (.tup [u,v])->aA H1 H2->H2 D=some (.lst ys)->R i ys H2->(∀ y H4,aA H2 H4->R (i+1) (ys++[y]) (upd H4 D (.lst (ys++[y])))->k y H4)->te (some u::some v::st) H2 k)
  (hd:∀ ys H2,aA H1 H2->H2 D=some (.lst ys)->ys.length=xs.length->R xs.length ys H2->Q (.ref D) H2):fq (Itt K a) (pO K 2 (fe (cC 0) (fe (cC 1) rO))) j0 te 2 st D H1 Q:=by
 refine⟨λ i m ys H2=>m=xs.length-i/\i<=xs.length/\ys.length=i/\aA H1 H2/\H2 D=some (.lst ys)/\R i ys H2,⟨xs.length,by simp,Nat.zero_le _,rfl,bb (aA.refl H1) hD,ai,h0⟩,?_⟩
 rintro i m ys H2 ⟨rfl,hi,hl,sm,e,r⟩
 by_cases hlt:i<xs.length
 ·have ex:xs[i]? = some xs[i]:=List.getElem?_eq_getElem hlt
  obtain⟨b,u,v,e1,e2⟩:=hx i hlt
  refine .inr ⟨⟨xs,_,sm.tup q1,ex⟩,?_⟩
  rintro x H3 σ0 ⟨rfl,hx'⟩ l0
  have hx2:=hx' xs (sm.tup q1)
  rw[e1] at hx2
  cases hx2
  obtain⟨a',b',rfl⟩:∃ a b,σ0 = [a,b]:=by
   match σ0,l0 with
   | [a,b],_=>exact⟨a,b,rfl⟩
  refine⟨b,[u,v],rfl,SqT.of (sm _ _ e2),rfl,u,[v],rfl,v,[],rfl,rfl,⟨[some u,some v],rfl,rfl⟩,?_⟩
  exact hs i b u v ys _ _ e1 e2 sm e r λ y H4 s4 r4=>⟨s4 _ _ e,by omega,xs.length-(i+1),by omega,rfl,hlt,by simp [hl],bb (sm.trans s4) hD,ai,r4⟩
 ·have ei:i=xs.length:=by omega
  subst ei
  exact .inl ⟨⟨xs,sm.tup q1,Nat.le_refl _⟩,hd ys H2 sm e hl r⟩
end L2
namespace L2
open PySem PySem.Spec PyProof.Rows
section
variable {prog:Program}{w:World}{A:Around}{E:Value->Shared->Prop}{s:Shared}
theorem qp {j tu:Addr}{i:Nat}{its:Array Value}{v:Value}{Q:Value->Shared->Prop} (hj:s.heap.IsTupleIter j tu i) (ht:s.heap.IsTuple tu its) (hv:its[i]? = some v)
  (k:∀ g,g.IsTupleIter j tu (i+1)->Heap.SameBut j s.heap g->Q v {s with heap:=g}):wpAny (model prog w) A (Builtin.SmallTypes.nextOf (.ref j)) Q E s:=by
 obtain⟨oj,ej,cj,dj⟩:=id hj
 obtain⟨ot,et,_,nt,dt⟩:=ht
 unfold Builtin.SmallTypes.nextOf
 refine (wpAny_bind (wpAny_callSpecial?_slot (name:=Str.ofString "__next__") hj.typeIs F.slot_tuple_iterator_next (wpAny_call_entry F.slot_tuple_iterator_next hj.typeIs F.entry_tuple_iterator_next ?_ (F.args_tuple_iterator_next_1 _))))
 show wpAny _ _ (field (.ref j) 0 >>= _) _ _ s
 refine (wpAny_bind (wpAny_field ej dj (x:=.ref tu) rfl ?_))
 show wpAny _ _ (if (Value.ref tu == Value.none)=true then _ else _) _ _ s
 rw[if_neg (show ¬ ((Value.ref tu == Value.none)=true) from Bool.false_ne_true)]
 show wpAny _ _ (field (.ref j) 1 >>= _) _ _ s
 refine (wpAny_bind (wpAny_field ej dj (x:=.int i 0) rfl ?_))
 show wpAny _ _ (seqItems? (.ref tu) >>= _) _ _ s
 refine (wpAny_bind (wpAny_seqItems et dt ?_))
 simp only[Int.toNat_natCast,hv]
 refine (wpAny_bind (wpAny_setField ej dj (by simp) (wpAny_pure ⟨v,rfl,wpAny_pure (k _ ?_ (Heap.SameBut.update ..))⟩)))
 refine⟨_,Heap.get?_update_self _ ej (Obj.isFreed_of_fields (Obj.data_mapFields dj _)),(Obj.cls_mapFields ..).trans cj,?_⟩
 rw[Obj.data_mapFields dj]
 simp [rawInt]
theorem uB {j tu:Addr}{i:Nat}{its:Array Value}{Q:Value->Shared->Prop} (hh:A.handled=none) (hj:s.heap.IsTupleIter j tu i) (ht:s.heap.IsTuple tu its) (hv:its[i]? = none)
  (k:∀ g e,Heap.ExtBut j s.heap g->(∃ o,g.get? e=some o/\o.cls=.type "StopIteration")->E (.ref e) {s with heap:=g}):wpAny (model prog w) A (Builtin.SmallTypes.nextOf (.ref j)) Q E s:=by
 obtain⟨oj,ej,cj,dj⟩:=id hj
 obtain⟨ot,et,_,nt,dt⟩:=ht
 unfold Builtin.SmallTypes.nextOf
 refine (wpAny_bind (wpAny_callSpecial?_slot (name:=Str.ofString "__next__") hj.typeIs F.slot_tuple_iterator_next (wpAny_call_entry F.slot_tuple_iterator_next hj.typeIs F.entry_tuple_iterator_next ?_ (F.args_tuple_iterator_next_1 _))))
 show wpAny _ _ (field (.ref j) 0 >>= _) _ _ s
 refine (wpAny_bind (wpAny_field ej dj (x:=.ref tu) rfl ?_))
 show wpAny _ _ (if (Value.ref tu == Value.none)=true then _ else _) _ _ s
 rw[if_neg (show ¬ ((Value.ref tu == Value.none)=true) from Bool.false_ne_true)]
 show wpAny _ _ (field (.ref j) 1 >>= _) _ _ s
 refine (wpAny_bind (wpAny_field ej dj (x:=.int i 0) rfl ?_))
 show wpAny _ _ (seqItems? (.ref tu) >>= _) _ _ s
 refine (wpAny_bind (wpAny_seqItems et dt ?_))
 simp only[Int.toNat_natCast,hv]
 refine (wpAny_bind (wpAny_rule (wpAny_bind (wpAny_setField ej dj (by simp) ?_))))
 show wpAny _ _ (newExc (.type "StopIteration") [] >>= _) (_) _ _
 refine (wpAny_bind ?_)
 simp only[newExc,newTuple]
 refine (wpAny_bind (wpAny_newObj_type ?_ (by size_fits)))
 refine (wpAny_bind (m:=firstArgMember _ _) (wpAny_of_eq (a:=Value.none) (by first | rfl | (simp only[firstArgMember];rfl)) ?_))
 refine (wpAny_newObj_type ?_ (by size_fits))
 simp only[raiseNew]
 refine (wpAny_bind (wpAny_handled ?_))
 rw[show A.in1.handled=none from hh]
 refine (wpAny_bind (wpAny_pure (wpAny_throw ?_)))
 exact k _ _ (((Heap.SameBut.update ..).extBut.push _).push _) ⟨_,Heap.get?_push_size _ rfl,rfl⟩
end
def CM (K:PySem.W.Frag) (t1 t2:Addr):It :=
 ⟨λ i H=>∃ xs ys x y,SqT K H t1 xs/\SqT K H t2 ys/\xs[i]? = some x/\ys[i]? = some y,
  λ i H v H'=>∃ T x y,H T=none/\H'=upd H T (.tup [x,y])/\v=.ref T/\(∀ xs,SqT K H t1 xs->xs[i]? = some x)/\∀ ys,SqT K H t2 ys->ys[i]? = some y,
  λ i H=>∃ xs ys,SqT K H t1 xs/\SqT K H t2 ys/\(xs.length<=i∨ys.length<=i)⟩
def GE (K:PySem.W.Frag) (ta:TA):TI:=λ σ H R=>ta σ H λ vs H1=>∃ a b,vs = [.ref a,.ref b]/\(∃ xs,SqT K H1 a xs)/\(∃ ys,SqT K H1 b ys)/\R (CM K a b) H1
theorem zx {K:PySem.W.Frag}{l1 l2:Addr}{xs ys:List V}{g:TG}{tb:TS}{D:hW}{σ:St}{H:Hp}{n:Nat} (Pv:Nat->St->Hp->Prop) (h0:Pv 0 σ H) (n1:n<=xs.length) (n2:n<=ys.length) (ne:xs.length=n∨ys.length=n)
  (hl:∀ i σ H,i<=n->Pv i σ H->SqT K H l1 xs/\SqT K H l2 ys)
  (hs:∀ i x y T σ H,i<n->xs[i]? = some x->ys[i]? = some y->H T=none->Pv i σ H->g (.ref T) σ (upd H T (.tup [x,y])) λ σ2 H2=>tb {D with nx:=Pv (i+1),ct:=Pv (i+1),bk:=D.nx} σ2 H2) (hd:∀ σ H,Pv n σ H->D.nx σ H) :
  ∃ W:Nat->Nat->St->Hp->Prop,(∃ m,W 0 m σ H)/\∀ i m σ H,W i m σ H ->
   ((CM K l1 l2).stop i H/\D.nx σ H)∨((CM K l1 l2).go i H/\∃ N:St->Hp->Prop,(∀ σ' H',N σ' H'->∃ m',m'<m/\W (i+1) m' σ' H')/\∀ x H',(CM K l1 l2).yld i H x H'->g x σ H' λ σ2 H2=>tb {D with nx:=N,ct:=N,bk:=D.nx} σ2 H2):=by
 refine⟨λ i m σ H=>m=n-i/\i<=n/\Pv i σ H,⟨n,by simp,Nat.zero_le _,h0⟩,?_⟩
 rintro i m σ H ⟨rfl,hi,p⟩
 obtain⟨q1,q2⟩:=hl i σ H hi p
 by_cases hlt:i<n
 ·have ex:xs[i]? = some (xs[i]'(by omega)):=List.getElem?_eq_getElem (by omega)
  have ey:ys[i]? = some (ys[i]'(by omega)):=List.getElem?_eq_getElem (by omega)
  refine .inr ⟨⟨xs,ys,_,_,q1,q2,ex,ey⟩,Pv (i+1),λ σ' H' z=>⟨n-(i+1),by omega,rfl,hlt,z⟩,?_⟩
  rintro v H' ⟨T,x,y,fr,rfl,rfl,hx,hy⟩
  exact hs i x y T σ H hlt (hx xs q1) (hy ys q2) fr p
 ·have ei:i=n:=by omega
  subst ei
  refine .inl ⟨⟨xs,ys,q1,q2,?_⟩,hd σ H p⟩
  rcases ne with z | z
  ·exact .inl (by omega)
  ·exact .inr (by omega)
end L2
namespace L2
open PySem PySem.Spec PyProof.Rows
set_option maxRecDepth 8000 in
theorem B3 (l:Addr) (its:Array Value) (n:Nat) (b:Addr) (its2:Array Value) (n2:Nat) (od:Option Addr) (os2:Array (Option Value)) (h0:¬(!its.isEmpty && Builtin.List.listTooLong (its.size+its2.size))=true) (h1:its.size<=sizeLine) (h2:its.size+its2.size<=sizeLine+1) :
  Meets (Builtin.«list.extend» ⟨[.ref l,.ref b],[]⟩) (λ _ R s=>s.heap.get? l=some {cls:=.type "list",dict:=none,data:=.seq its n,slots:=#[]}/\s.heap.get? b=some {cls:=.type "tuple",dict:=od,data:=.seq its2 n2,slots:=os2}/\R (.ok (.ret Value.none)) {s with heap:=s.heap.update l (Obj.mapSeq λ x=>x++its2),toks:=s.toks}) :=
 .of_wp λ prog w A R s h=>by
  obtain⟨hp,g,d,tk,os⟩:=s
  obtain⟨hl,hb,h⟩:=h
  have f1:=AutoSeq1.idx_int
  have f2:=AutoSeq1.sub_tuple_tuple
  have f3:=AutoSeq1.sub_list_list
  have f4:=AutoSeq1.sub_tuple_list
  have f5:=AutoSeq1.sub_list_tuple
  have hz:(its++its2).size<=sizeLine+1:=by rw[Array.size_append];exact h2
  wp_walk using (wpAny_updateSeq hl rfl (hz:=h1) (_hz':=hz)),wpAny_loadPart' hl,wpAny_loadPart' hb
  exact⟨_,rfl,h⟩
section
variable {X:Cx}
def Gp:V->List V->Hp->VK->Prop:=λ x vs H Q=>∃ l b xs zs,x=.ref l/\vs = [.ref b]/\H l=some (.lst xs)/\H b=some (.tup zs)/\xs.length+zs.length<=sizeLine/\Q .non (upd H l (.lst (xs++zs)))
theorem rD:MtM X "list.extend" Gp:=by
 intro pins s σ H x vs v us Q I rx rv h
 obtain⟨l,b,xs,zs,rfl,rfl,hH,hB,hz,q⟩:=h
 cases rx
 obtain⟨u,rfl,ru⟩:=rv.one
 cases ru
 obtain⟨z,its,n,r,hl,e⟩:=I.lstM hH
 obtain⟨z2,its2,r2,g2⟩:=(show bx X.prog X.w H s.heap b (.tup zs) from I.hok b _ hB)
 have hl2:=r2.length
 obtain⟨⟨oc,od,oda,osl⟩,e2,ecl,n2,eda⟩:=(show s.heap.IsTuple b its2.toArray from g2)
 simp only at ecl eda
 subst ecl eda
 have hsz:its.toArray.size+its2.toArray.size<=sizeLine:=by rw[List.size_toArray,List.size_toArray];omega
 have hlong:¬ (!its.toArray.isEmpty && Builtin.List.listTooLong (its.toArray.size+its2.toArray.size))=true:=by
  rw[yI hsz,Bool.and_false]
  exact Bool.false_ne_true
 refine call_meets F.slot_list_extend ⟨_,e,rfl⟩ F.entry_list_extend (F.args_list_extend_2 _ _)
  (B3 l its.toArray n b its2.toArray n2 od osl hlong (by rw[List.size_toArray];omega) (by omega)) ⟨e,e2,?_⟩
 refine⟨.non,_,I.lset (its':=its++its2) hH e (by simp) (r.append r2) ?_,rfl,q⟩
 rw[List.length_append]
 omega
end
def Prs (H:Hp):List (Int×Int)->List V->Prop
 | [],xs=>xs = []
 | z::zs,xs=>∃ a ys,xs=.ref a::ys/\H a=some (.tup [.int z.1,.int z.2])/\Prs H zs ys
def rL (H:Hp) (z:Int×Int) (w:Value):Bool:=@decide (∃ a,w=Value.ref a/\H a=some (.tup [.int z.1,.int z.2])) (Classical.propDecidable _)
theorem pG {H:Hp}{z za:Int×Int}{a:Addr} (ha:H a=some (.tup [.int za.1,.int za.2])):rL H z (.ref a)=decide (za=z):=by
 rw[Bool.eq_iff_iff,rL,@decide_eq_true_iff _ (Classical.propDecidable _),decide_eq_true_iff]
 constructor
 ·rintro⟨a',e,h⟩
  cases e
  rw[ha] at h
  simp only[Option.some.injEq,HO.tup.injEq,List.cons.injEq,V.int.injEq,and_true] at h
  exact Prod.ext h.1 h.2
 ·rintro rfl
  exact⟨a,rfl,ha⟩
theorem tS {H:Hp}:∀ {zs:List (Int×Int)}{xs:List V}{us:List Value},Prs H zs xs->bg xs us->∀ w∈us,∃ (a:Addr) (za:Int×Int),w=Value.ref a/\H a=some (.tup [.int za.1,.int za.2])
 | [],xs,us,h,r=>by
  rw[show xs = [] from h] at r
  cases r
  intro w hw
  cases hw
 | z::zs,xs,us,⟨a,ys,e,ha,h⟩,r=>by
  subst e
  cases r with
  | cons r1 rr =>
   cases r1
   intro w hw
   rcases List.mem_cons.mp hw with rfl | hw
   ·exact⟨a,z,rfl,ha⟩
   ·exact tS h rr w hw
theorem tU {H:Hp}{z:Int×Int}:∀ {zs:List (Int×Int)}{xs:List V}{us:List Value},Prs H zs xs->bg xs us->us.any (rL H z)=zs.any λ w=>decide (w=z)
 | [],xs,us,h,r=>by
  rw[show xs = [] from h] at r
  cases r
  rfl
 | z0::zs,xs,us,⟨a,ys,e,ha,h⟩,r=>by
  subst e
  cases r with
  | cons r1 rr =>
   cases r1
   rw[List.any_cons,List.any_cons,pG ha,tU h rr]
section
variable {X:Cx}
theorem uZ (hu:X.A.units+64<cLine):OpR X (compareOp .NotIn) (λ x y H Q=>∃ l xs zs b z,x=.ref b/\y=.ref l/\SqL X.K H l xs/\Prs H zs xs/\H b=some (.tup [.int z.1,.int z.2])/\Q (.bl (!zs.any λ w=>decide (w=z))) H):=by
 intro pins s σ H x y v u Q I rx ry h
 obtain⟨l,xs,zs,b,z,rfl,rfl,hq,hp,hb,q⟩:=h
 cases rx
 cases ry
 obtain⟨its,r,pl,hz⟩:=I.list hq
 refine SeqAt.notIn_listAt (rL H z) pl.isList (λ w hw=>?_) ⟨.bl _,H,I,rfl,?_⟩
 ·obtain⟨a,za,rfl,ha⟩:=tS hp r w (by simpa using hw)
  have k:=eqQ I.hok 50 X.A.in1 (.tup [.int za.1,.int za.2]) (.tup [.int z.1,.int z.2]) (.ref a) (.ref b) (.ref a) (.ref b) (by simp [jE,iF]) (by show X.A.units+1+50<cLine;omega) (by simp [bH,dF])
   ⟨a,_,rfl,ha,_,_,rfl,rfl,_,_,rfl,rfl,rfl⟩ ⟨b,_,rfl,hb,_,_,rfl,rfl,_,_,rfl,rfl,rfl⟩ rfl rfl
  have e:db (.tup [.int za.1,.int za.2]) (.tup [.int z.1,.int z.2])=rL H z (.ref a):=by
   rw[pG ha,Bool.eq_iff_iff]
   simp [db,cA,Prod.ext_iff]
  rw[e] at k
  exact k
 ·rw[show its.toArray.any (rL H z)=its.any (rL H z) by simp,tU hp r]
  exact q
end
end L2
namespace L2
open PySem PySem.Spec PyProof.Rows
theorem p7 {K:PySem.W.Frag}{a:Addr}{xs:List V}{te:TE}{st:St}{H1:Hp}{Q:VK}{D:Addr} (R:Nat->List V->Hp->Prop) (hD:H1 D=none) (q1:SqL K H1 a xs) (hn:xs.length<=sizeLine) (h0:R 0 [] (upd H1 D (.lst [])))
  (hx:∀ (i:Nat),i<xs.length->∃ b u v,xs[i]? = some (.ref b)/\H1 b=some (.tup [u,v]))
  (hs:∀ (i:Nat) (b:Addr) (u v:V) (ys:List V) (H2:Hp) (k:VK),xs[i]? = some (.ref b)->H1 b=some (.tup [u,v])->aA H1 H2->H2 D=some (.lst ys)->R i ys H2->(∀ y H4,aA H2 H4->R (i+1) (ys++[y]) (upd H4 D (.lst (ys++[y])))->k y H4)->te (some u::some v::st) H2 k)
  (hd:∀ ys H2,aA H1 H2->H2 D=some (.lst ys)->ys.length=xs.length->R xs.length ys H2->Q (.ref D) H2):fq (Itl K a) (pO K 2 (fe (cC 0) (fe (cC 1) rO))) j0 te 2 st D H1 Q:=by
 refine⟨λ i m ys H2=>m=xs.length-i/\i<=xs.length/\ys.length=i/\aA H1 H2/\H2 D=some (.lst ys)/\R i ys H2,⟨xs.length,by simp,Nat.zero_le _,rfl,bb (aA.refl H1) hD,ai,h0⟩,?_⟩
 rintro i m ys H2 ⟨rfl,hi,hl,sm,e,r⟩
 by_cases hlt:i<xs.length
 ·have ex:xs[i]? = some xs[i]:=List.getElem?_eq_getElem hlt
  obtain⟨b,u,v,e1,e2⟩:=hx i hlt
  refine .inr ⟨⟨xs,_,sm.seq q1,ex⟩,?_⟩
  rintro x H3 σ0 ⟨rfl,hx'⟩ l0
  have hx2:=hx' xs (sm.seq q1)
  rw[e1] at hx2
  cases hx2
  obtain⟨a',b',rfl⟩:∃ a b,σ0 = [a,b]:=by
   match σ0,l0 with
   | [a,b],_=>exact⟨a,b,rfl⟩
  refine⟨b,[u,v],rfl,SqT.of (sm _ _ e2),rfl,u,[v],rfl,v,[],rfl,rfl,⟨[some u,some v],rfl,rfl⟩,?_⟩
  exact hs i b u v ys _ _ e1 e2 sm e r λ y H4 s4 r4=>⟨s4 _ _ e,by omega,xs.length-(i+1),by omega,rfl,hlt,by simp [hl],bb (sm.trans s4) hD,ai,r4⟩
 ·have ei:i=xs.length:=by omega
  subst ei
  exact .inl ⟨⟨xs,sm.seq q1,Nat.le_refl _⟩,hd ys H2 sm e hl r⟩
end L2
namespace L2
open PySem PySem.Spec PyProof.Rows PySem.W Gc
theorem jy {K:PySem.W.Frag}{a:Addr}{xs:List V}{te:TE}{st:St}{H1:Hp}{Q:VK}{D:Addr} (R:Nat->List V->Hp->Prop) (hD:H1 D=none) (q1:SqL K H1 a xs) (hn:xs.length<=sizeLine) (h0:R 0 [] (upd H1 D (.lst [])))
  (hs:∀ (i:Nat) (x:V) (ys:List V) (H2:Hp) (k:VK),xs[i]? = some x->aA H1 H2->H2 D=some (.lst ys)->ys.length=i->R i ys H2->(∀ y H4,aA H2 H4->R (i+1) (ys++[y]) (upd H4 D (.lst (ys++[y])))->k y H4)->te (some x::st) H2 k)
  (hd:∀ ys H2,aA H1 H2->H2 D=some (.lst ys)->ys.length=xs.length->R xs.length ys H2->Q (.ref D) H2):fq (Itl K a) (cC 0) j0 te 1 st D H1 Q:=by
 refine⟨λ i m ys H2=>m=xs.length-i/\i<=xs.length/\ys.length=i/\aA H1 H2/\H2 D=some (.lst ys)/\R i ys H2,⟨xs.length,by simp,Nat.zero_le _,rfl,bb (aA.refl H1) hD,ai,h0⟩,?_⟩
 rintro i m ys H2 ⟨rfl,hi,hl,sm,e,r⟩
 by_cases hlt:i<xs.length
 ·have ex:xs[i]? = some xs[i]:=List.getElem?_eq_getElem hlt
  refine .inr ⟨⟨xs,_,sm.seq q1,ex⟩,?_⟩
  rintro x H3 σ0 ⟨rfl,hx⟩ l0
  have hx':=hx xs (sm.seq q1)
  obtain⟨a',rfl⟩:∃ a,σ0 = [a]:=by
   match σ0,l0 with
   | [a],_=>exact⟨a,rfl⟩
  refine⟨⟨[some x],rfl,rfl⟩,?_⟩
  exact hs i x ys _ _ hx' sm e hl r λ y H4 s4 r4=>⟨s4 _ _ e,by omega,xs.length-(i+1),by omega,rfl,hlt,by simp [hl],bb (sm.trans s4) hD,ai,r4⟩
 ·have ei:i=xs.length:=by omega
  subst ei
  exact .inl ⟨⟨xs,sm.seq q1,Nat.le_refl _⟩,hd ys H2 sm e hl r⟩
theorem r0 {α:Type}{K:PySem.W.Frag}{a:Addr}{te:TE}{st:St}{H1:Hp}{Q:VK}{D:Addr} (ks:List α) (g f:α->V) (hD:H1 D=none) (q1:SqL K H1 a (ks.map g)) (hn:ks.length<=sizeLine)
  (hs:∀ (x:α) (H2:Hp) (k:VK),x∈ks->aA H1 H2->(∀ H4,aA H2 H4->k (f x) H4)->te (some (g x)::st) H2 k)
  (hd:∀ H2,aA H1 H2->H2 D=some (.lst (ks.map f))->Q (.ref D) H2):ja (Itl K a) te st D H1 Q:=by
 refine rZ (λ i ys _=>ys=(ks.take i).map f) hD q1 (by rw[List.length_map];exact hn) (by simp) ?_ ?_
 ·rintro i x ys H2 k hx sm e r hk
  rw[List.getElem?_map] at hx
  cases ex:ks[i]? with
  | none=>rw[ex] at hx;cases hx
  | some y =>
   rw[ex] at hx
   cases hx
   refine hs y H2 k (List.mem_of_getElem? ex) sm λ H4 s4=>hk _ _ s4 ?_
   rw[List.take_add_one,ex,r]
   simp
 ·rintro ys H2 sm e hl r
  rw[r,List.length_map,List.take_length] at e
  exact hd H2 sm e
end L2
namespace L2
open PySem PySem.Spec PyProof.Rows PySem.W Gc
section
variable {X:Cx}{a b c d:Expr}{ta tb tc td:TE}{pos:Pos}
def Ai (r r' r'':R2) (ta tb tc td:TE):TT:=λ σ H Q=>ta σ H λ x H1=>tb σ H1 λ y H2=>r x y H2 λ z H3=>∃ k,z=.bl k /\
 (if k=true then tc σ H3 λ y' H4=>r' y y' H4 λ z2 H5=>∃ k2,z2=.bl k2/\(if k2=true then td σ H5 λ y'' H6=>r'' y' y'' H6 λ z3 H7=>∃ k3,z3=.bl k3/\Q k3 H7 else Q false H5) else Q false H3)
theorem uO {op op' op'':CmpOp}{r r' r'':R2} (ho:OpR X (compareOp op) r) (ho':OpR X (compareOp op') r') (ho'':OpR X (compareOp op'') r'') (ha:PE X a ta) (hb:PE X b tb) (hc:PE X c tc) (hd:PE X d td)
  (hm:lastMarks [op,op',op''] [b,c,d]=false:=by with_unfolding_all rfl):PT X (.Compare a [op,op',op''] [b,c,d] pos) (Ai r r' r'' ta tb tc td):=by
 intro pins s σ H Q I h
 refine isTrue_chain (thn (ha pins s σ H _ I h) λ v s1 ⟨x,H1,I1,r1,q1⟩=>test_link (thn (hb pins s1 σ H1 _ I1 q1) λ u s2 ⟨y,H2,I2,r2,q2⟩ =>
  thn (ho pins s2 σ H2 x y v u _ I2 r1 r2 q2) λ d0 s3 ⟨z,H3,I3,r3,k,e,q3⟩=>?_)) hm
 subst e
 cases r3
 refine wpAny_truthy_bool ?_
 cases k with
 | false=>exact ite_ff ⟨H3,I3,q3⟩
 | true =>
  refine ite_tt (test_link (thn (hc pins s3 σ H3 _ I3 q3) λ w' s4 ⟨z',H4,I4,r4,q4⟩=>thn (ho' pins s4 σ H4 y z' u w' _ I4 r2 r4 q4) λ d' s5 ⟨z2,H5,I5,r5,k2,e2,q5⟩=>?_))
  subst e2
  cases r5
  refine wpAny_truthy_bool ?_
  cases k2 with
  | false=>exact ite_ff ⟨H5,I5,q5⟩
  | true =>
   refine ite_tt (test_last (thn (hd pins s5 σ H5 _ I5 q5) λ w'' s6 ⟨z'',H6,I6,r6,q6⟩=>thn (ho'' pins s6 σ H6 z' z'' w' w'' _ I6 r4 r6 q6) λ d'' s7 ⟨z3,H7,I7,r7,k3,e3,q7⟩=>?_))
   subst e3
   cases r7
   exact wpAny_truthy_bool ⟨H7,I7,q7⟩
end
end L2
namespace L2
open PySem PySem.Spec PyProof.Rows PySem.W Gc
section
theorem xY:mroOf (.type "reversed")=pure [.type "reversed",.type "object"]:=by rw[mroOf_type];kernel_rfl
theorem AD:typeLookup (.type "reversed") "__new__" = pure (some (.builtin "reversed.__new__")):=by rw[typeLookup_type,builtinLookup_eq_fast];kernel_rfl
theorem AC:Bind.madeBy (.type "reversed")=pure (some "reversed.__new__"):=madeBy_type xY AD (by decide +kernel)
theorem AG (a:Value):checkTypeCall "reversed" ⟨[a],[]⟩=pure ():=by kernel_rfl
theorem x5 (a:Value):checkBuiltinCall "reversed.__new__" ⟨[.type "reversed",a],[]⟩=pure ():=by kernel_rfl
theorem xZ:entryFor table "reversed.__new__" = some Builtin.«reversed.__new__»:=(entryFor_of_tree (by kernel_rfl))
theorem xX:isSubtype (.type "reversed") (.type "reversed")=pure true:=by rw[isSubtype_type];kernel_rfl
theorem AE:isSubtype (.type "list_reverseiterator") (.type "reversed")=pure false:=by rw[isSubtype_type];kernel_rfl
theorem oZ:Manifest.owners.lookup (String.ofList "list_reverseiterator".toList)=some Manifest.sig_list_reverseiterator:=by kernel_rfl
theorem ik:Slot "list_reverseiterator" "__next__" "list_reverseiterator.__next__" :=
 .of (owner:="list_reverseiterator") (n:="__next__") (by rw[typeLookup_type,builtinLookup_eq_fast];kernel_rfl) (by decide +kernel) (by decide +kernel) (by decide +kernel) (by first | exact .inl (by decide +kernel) | exact .inr (by decide +kernel)) (by rw[isSubtype_type];kernel_rfl)
theorem tM:Slot "list_reverseiterator" "__iter__" "list_reverseiterator.__iter__" :=
 .of (owner:="list_reverseiterator") (n:="__iter__") (by rw[typeLookup_type,builtinLookup_eq_fast];kernel_rfl) (by decide +kernel) (by decide +kernel) (by decide +kernel) (by first | exact .inl (by decide +kernel) | exact .inr (by decide +kernel)) (by rw[isSubtype_type];kernel_rfl)
theorem o0:entryFor table "list_reverseiterator.__next__" = some Builtin.«list_reverseiterator.__next__»:=(entryFor_of_tree (by kernel_rfl))
theorem uL:entryFor table "list_reverseiterator.__iter__" = some Builtin.«dict_keyiterator.__iter__» :=
 entryFor_alias (id':="dict_keyiterator.__iter__") (by kernel_rfl) (by first | rfl | decide +kernel | (unfold String.splitOn;simp +decide [String.splitOnAux])) (by decide +kernel) (by kernel_rfl)
theorem tN (a:Value):argsOk "list_reverseiterator.__next__" ⟨[a],[]⟩:=by
 unfold argsOk
 rw[signature?_of (id:="list_reverseiterator.__next__") (n:="__next__".toList.reverse) (o:="list_reverseiterator".toList.reverse) (by kernel_rfl) (by rw[List.reverse_reverse];exact oZ)]
 kernel_rfl
theorem yc (a:Value):argsOk "list_reverseiterator.__iter__" ⟨[a],[]⟩:=by
 unfold argsOk
 rw[signature?_of (id:="list_reverseiterator.__iter__") (n:="__iter__".toList.reverse) (o:="list_reverseiterator".toList.reverse) (by kernel_rfl) (by rw[List.reverse_reverse];exact oZ)]
 kernel_rfl
end
section
variable {prog:Program}{w:World}{A:Around}{E:Value->Shared->Prop}{s:Shared}
abbrev dR (h:Heap) (it l:Addr) (i:Int):Prop:=h.get? it=some {cls:=.type "list_reverseiterator",dict:=none,data:=.fields #[.ref l,rawInt i],slots:=#[]}
end
theorem AF:Slot "reversed" "__init__" "object.__init__" :=
 .of (owner:="object") (n:="__init__") (by rw[typeLookup_type,builtinLookup_eq_fast];kernel_rfl) (by decide +kernel) (by decide +kernel) (by decide +kernel) (by first | exact .inl (by decide +kernel) | exact .inr (by decide +kernel)) (by rw[isSubtype_type];kernel_rfl)
theorem AB:TypeCalled "reversed" "reversed.__new__" "object.__init__":=⟨by decide +kernel,by decide +kernel,⟨_,_,xY⟩,AC,by decide +kernel,xX,AF⟩
section
variable {prog:Program}{w:World}{A:Around}{E:Value->Shared->Prop}{s:Shared}
noncomputable abbrev iV (h:Heap) (l:Addr) (m:Nat):Heap:=h.push {cls:=.type "list_reverseiterator",data:=.fields #[.ref l,rawInt (((m:Nat):Int)-1)]}
theorem yV (l:Addr) (xs:Array Value) (n:Nat) (dc:Option Addr) (sl:Array (Option Value)) :
  Meets (Builtin.«list.__reversed__» ⟨[.ref l],[]⟩) (λ _ R s=>s.heap.get? l=some {cls:=.type "list",dict:=dc,data:=.seq xs n,slots:=sl}/\R (.ok (.ret (.ref s.heap.objs.size))) {s with heap:=iV s.heap l xs.size}) :=
 .of_wp λ prog w A R s h=>by
  obtain⟨hp,g,dr,tk,os⟩:=s
  obtain⟨hl,h⟩:=h
  wp_walk using AutoSeq1.wpAny_loadPart' hl
  exact⟨_,rfl,h⟩
theorem Ek (l:Addr) (xs:Array Value) (n:Nat) (dc:Option Addr) (sl:Array (Option Value)) :
  Meets (Builtin.«reversed.__new__» ⟨[.type "reversed",.ref l],[]⟩) (λ _ R s=>s.heap.get? l=some {cls:=.type "list",dict:=dc,data:=.seq xs n,slots:=sl} /\
   R (.ok (.ret (.ref s.heap.objs.size))) {s with heap:=iV s.heap l xs.size}) :=
 .of_wp λ prog w A R s h=>by
  obtain⟨hp,g,dr,tk,os⟩:=s
  obtain⟨ha,h⟩:=h
  have sub:=xX
  have tT:Shared.TypeIs ⟨hp,g,dr,tk,os⟩ (.ref l) "list":=⟨_,ha,rfl⟩
  have lk:=F.slot_list_reversed.lookup
  have bd:=F.slot_list_reversed.bind (.ref l)
  wp_walk using AutoSeq1.wpAny_loadPart' ha
  refine codeAny_mono (codeAny_call_builtin F.slot_list_reversed.plain F.entry_list_reversed (F.slot_list_reversed.check _ _ _ _ _ _ _ _ tT (F.args_list_reversed_1 _) (yV l xs n dc sl prog w A.in1 (wants (λ v s'=>v=.ref hp.objs.size/\s'=⟨iV hp l xs.size,g,dr,tk,os⟩) λ _ _=>False) _ ⟨ha,rfl,rfl⟩))) λ r s1 hr=>?_
  cases r with
  | error e=>exact hr.elim
  | ok fl =>
   cases fl with
   | ret v =>
    obtain⟨rfl,rfl⟩:=hr
    exact wpAny_pure ⟨_,rfl,h⟩
   | _=>exact hr.elim
theorem ny {l:Addr}{xs:Array Value}{Q:Value->Shared->Prop} (hL:s.heap.IsList l xs)
  (k:∀ g,dR g s.heap.objs.size l (((xs.size:Nat):Int)-1)->(∀ c o,s.heap.get? c=some o->g.get? c=some o)->Q (.ref s.heap.objs.size) {s with heap:=g}) :
  wpAny (model prog w) A (call (.type "reversed") [.ref l]) Q E s:=by
 obtain⟨⟨c,dc,dt,sl⟩,ha,hc,n,hd⟩:=hL
 replace hc:c=.type "list":=hc
 replace hd:dt=.seq xs n:=hd
 subst hc hd
 have ft:=AB
 obtain⟨c,tl,hmro⟩:=ft.mro
 have hmade:=ft.made
 have hsub:=ft.sub
 have hct:=AG (.ref l)
 refine (wpAny_call (codeAny_of_tree ?_))
 show wpAny _ _ (callAny (.type "reversed") _) (_) _ _
 refine (wpAny_pure ⟨Code.quiet_builtin _ (by decide +kernel),codeAny_builtin F.entry_type_call ?_⟩)
 rw[Around.under_plain (weight_type_call_type "reversed" [.ref l] []) (units_type_call_type "reversed" [.ref l] [])]
 have h1:=ft.notType
 have h2:=ft.canCreate
 repeat (any_goals (first | assumption | wp_step))
 refine codeAny_mono (codeAny_call_builtin ft.plain xZ (wpAny_of_eq (x5 (.ref l)) (Ek l xs n dc sl prog w A.in1 (wants (λ v s'=>v=.ref s.heap.objs.size/\s'={s with heap:=iV s.heap l xs.size}) λ _ _=>False) s ⟨ha,rfl,rfl⟩))) λ r s1 hr=>?_
 cases r with
 | error e=>exact hr.elim
 | ok fl =>
  cases fl with
  | ret v =>
   obtain⟨rfl,rfl⟩:=hr
   have g1:(iV s.heap l xs.size).get? s.heap.objs.size=some _:=Heap.get?_push_size _ rfl
   have hT:Shared.TypeIs {s with heap:=iV s.heap l xs.size} (.ref s.heap.objs.size) "list_reverseiterator":=⟨_,g1,rfl⟩
   have no:=AE
   have fin:=k _ g1 λ b o x=>Heap.get?_push_of_some _ x
   repeat (any_goals (first | assumption | wp_step))
  | _=>exact hr.elim
theorem tL {it l:Addr}{i:Int}{Q:Value->Shared->Prop} (he:dR s.heap it l i) (h:Q (.ref it) s):wpAny (model prog w) A (pyIter (.ref it)) Q E s:=by
 have ty:s.TypeIs (.ref it) "list_reverseiterator":=⟨_,he,rfl⟩
 refine (wpAny_pyIter_slot ty tM (wpAny_call_entry tM ty uL ?_ (yc _)))
 show wpAny _ _ (ret (.ref it)) (_) _ s
 exact wpAny_pure ⟨_,rfl,"list_reverseiterator",_,ty,ik.lookup,h⟩
theorem AN {it l:Addr}{i:Nat}{xs:Array Value}{v:Value}{Q:Option Value->Shared->Prop} (he:dR s.heap it l (i:Int)) (hl:s.heap.IsList l xs) (hv:xs[i]? = some v)
  (k:∀ g,dR g it l ((i:Int)-1)->Heap.SameBut it s.heap g->Q (some v) {s with heap:=g}):wpAny (model prog w) A (pyNext (.ref it)) Q E s:=by
 have ty:s.TypeIs (.ref it) "list_reverseiterator":=⟨_,he,rfl⟩
 obtain⟨ol,hol,_,nl,hdl⟩:=hl
 unfold pyNext
 refine (wpAny_bind (wpAny_attempt (wpAny_callSpecial?_slot (name:=Str.ofString "__next__") ty ik (wpAny_call_entry ik ty o0 ?_ (tN _)))))
 show wpAny _ _ (field (.ref it) 1 >>= _) (_) _ s
 refine (wpAny_bind (wpAny_field he rfl (x:=rawInt i) rfl ?_))
 have no:¬ ((i:Int)<0):=by omega
 show wpAny _ _ (if (i:Int)<0 then _ else _) (_) _ s
 rw[if_neg no]
 show wpAny _ _ (field (.ref it) 0 >>= _) (_) _ s
 refine (wpAny_bind (wpAny_field he rfl (x:=.ref l) rfl ?_))
 show wpAny _ _ (seqItems? (.ref l) >>= _) (_) _ s
 refine (wpAny_bind (wpAny_seqItems hol hdl ?_))
 simp only[Int.toNat_natCast,hv]
 refine (wpAny_bind (wpAny_setField_rec he (by simp) λ g e1 s1=>?_))
 exact wpAny_pure ⟨v,rfl,wpAny_pure (k g e1 s1)⟩
theorem AO {it l:Addr}{i:Int}{Q:Option Value->Shared->Prop} (hh:A.handled=none) (he:dR s.heap it l i) (neg:i<0)
  (k:∀ g,(∀ b o,s.heap.get? b=some o->g.get? b=some o)->Q none {s with heap:=g}):wpAny (model prog w) A (pyNext (.ref it)) Q E s:=by
 have ty:s.TypeIs (.ref it) "list_reverseiterator":=⟨_,he,rfl⟩
 unfold pyNext
 refine (wpAny_bind (wpAny_attempt (wpAny_callSpecial?_slot (name:=Str.ofString "__next__") ty ik (wpAny_call_entry ik ty o0 ?_ (tN _)))))
 show wpAny _ _ (field (.ref it) 1 >>= _) (_) _ s
 refine (wpAny_bind (wpAny_field he rfl (x:=rawInt i) rfl ?_))
 show wpAny _ _ (if i<0 then _ else _) (_) _ s
 rw[if_pos neg]
 refine (wpAny_bind (wpAny_rule ?_))
 refine (wpAny_bind ?_)
 show wpAny _ _ (newExc (.type "StopIteration") [] >>= _) (_) _ _
 refine (wpAny_bind ?_)
 simp only[newExc,newTuple]
 refine (wpAny_bind (wpAny_newObj_type ?_ (by size_fits)))
 refine (wpAny_bind (m:=firstArgMember _ _) (wpAny_of_eq (a:=Value.none) (by first | rfl | (simp only[firstArgMember];rfl)) ?_))
 refine (wpAny_newObj_type ?_ (by size_fits))
 simp only[raiseNew]
 refine (wpAny_bind (wpAny_handled ?_))
 rw[show A.in1.handled=none from hh]
 refine (wpAny_bind (wpAny_pure (wpAny_throw ?_)))
 refine (wpAny_bind (wpAny_isInstance (T:="StopIteration") (b:=true) ⟨_,Heap.get?_push_size _ rfl,rfl⟩ isSubtype_stop ?_))
 exact wpAny_pure (k _ λ b o x=>Heap.get?_push_of_some _ (Heap.get?_push_of_some _ x))
end
def z9 (K:PySem.W.Frag) (a:Addr) (m:Nat):It :=
 ⟨λ i H=>i<m/\∃ xs x,SqL K H a xs/\xs[m-1-i]? = some x,λ i H x H'=>H'=H/\∀ xs,SqL K H a xs->xs[m-1-i]? = some x,λ i _=>m<=i⟩
theorem wg {P:Program}{w:World}{K:PySem.W.Frag}{tg:Expr} (a it:Addr) (m:Nat):qg P w K tg (z9 K a m) [it] it (λ i h=>dR h it a ((m:Int)-1-(i:Int))) where
 mem:=by simp
 obj:=λ i h st b hb=>by
  have e:b=it:=by simpa using hb
  subst e
  exact⟨_,st,λ v z=>by cases z⟩
 keep:=λ i h h' st k=>k it (by simp) _ st
 item:=by
  intro X hP hw hK hc i pins s σ H E I hf st hg
  subst hP hw hK
  obtain⟨hi,xs,x,hq,hx⟩:=hg
  obtain⟨its,rv,p,hz⟩:=I.list hq
  obtain⟨u,hu,ru⟩:=rv.get hx
  obtain⟨f0,f1,f2,f3,f4,f5⟩:=hf it (by simp)
  have ei:(m:Int)-1-(i:Int)=((m-1-i:Nat):Int):=by omega
  have st0:dR s.heap it a ((m-1-i:Nat):Int):=by rw[<-ei];exact st
  refine AN st0 p.isList (v:=u) (by simpa using hu) λ h' st' sb=>?_
  have I1:Inv X pins σ H {s with heap:=h'}:=I.turned (t':=s.toks) (λ b o hb e=>(sb.2 b hb).trans e) f0 f1 f3 f4 f5
  have st2:dR h' it a ((m:Int)-1-((i+1:Nat):Int)):=by
   have:(m:Int)-1-((i+1:Nat):Int)=((m-1-i:Nat):Int)-1:=by omega
   rw[this]
   exact st'
  exact⟨u,rfl,pM (s:={s with heap:=h'}) st' rfl rfl (by decide) ⟨x,H,I1,ru,⟨rfl,λ ys hy=>by rw[I.list_inj hy hq];exact hx⟩,st2,λ b hb=>(hf b hb).1⟩⟩
 done:=by
  intro X hP hw hK hc i pins s σ H E I hf st hg
  subst hP hw hK
  have hm:m<=i:=hg
  exact AO (I.ok.hd hc) st (by omega) λ h' eb=>⟨rfl,I.kept (t':=s.toks) λ b o e=>eb b o e⟩
 self:=λ _ _ _ _ _ st h=>tL st h
def HA (K:PySem.W.Frag) (ta:TA):TI:=λ σ H R=>ta σ H λ vs H1=>∃ a xs,vs = [.ref a]/\SqL K H1 a xs/\R (z9 K a xs.length) H1
theorem lR:bootBuiltins "reversed" = some (.type "reversed"):=by decide +kernel
theorem Ev {X:Cx}{tg:Expr}{a:Expr}{ta:TA}{p pos:Pos} (hg:Gl X "reversed") (hm:X.mg "reversed" = none) (ha:PA X [a] ta) (hs:starEach [a] X.env=(false,eval a X.env)::starEach [] X.env:=by rfl) :
  PI X tg (.Call (.Name "reversed" p) [a] [] pos) (HA X.K ta):=by
 intro pins s σ H R I h
 refine Call_ (fU I hg hm lR (PyProof.Rows.callWith_type1 (thn (ha pos pins s σ H _ I h) λ us s1 ⟨vs,H1,I1,r1,q1⟩=>?_) hs rfl))
 obtain⟨l1,xs,e,q1,q⟩:=q1
 subst e
 cases r1 with
 | cons r rr =>
  cases rr
  cases r
  obtain⟨its,rv,p,hz⟩:=I1.list q1
  have lx:its.length=xs.length:=rv.length.symm
  refine ny p.isList λ h' za zk=>?_
  have za':dR h' s1.heap.objs.size l1 ((xs.length:Int)-1-((0:Nat):Int)):=by
   have:((its.toArray.size:Nat):Int)-1=(xs.length:Int)-1-((0:Nat):Int):=by rw[List.size_toArray,lx];omega
   rw[<-this]
   exact za
  refine tL (s:={s1 with heap:=h'}) za ?_
  have I2:Inv X pins σ H1 {s1 with heap:=h'}:=I1.kept (t':=s1.toks) λ b o e=>zk b o e
  refine⟨_,[_],_,_,H1,rfl,I2,wg l1 s1.heap.objs.size xs.length,za',λ b hb=>?_,q⟩
  have e:b=s1.heap.objs.size:=by simpa using hb
  subst e
  exact I1.fpOk (Nat.le_refl _) (I1.hok.fresh (Nat.le_refl _))
theorem BZ {K:PySem.W.Frag}{a:Addr}{xs:List V}{g:TG}{tb:TS}{D:hW}{σ:St}{H:Hp} (Pv:Nat->St->Hp->Prop) (h0:Pv 0 σ H) (hl:∀ i σ H,i<=xs.length->Pv i σ H->SqL K H a xs)
  (hs:∀ i x σ H,i<xs.length->xs[xs.length-1-i]? = some x->Pv i σ H->g x σ H λ σ2 H2=>tb {D with nx:=Pv (i+1),ct:=Pv (i+1),bk:=D.nx} σ2 H2) (hd:∀ σ H,Pv xs.length σ H->D.nx σ H) :
  ∃ W:Nat->Nat->St->Hp->Prop,(∃ m,W 0 m σ H)/\∀ i m σ H,W i m σ H ->
   ((z9 K a xs.length).stop i H/\D.nx σ H)∨((z9 K a xs.length).go i H/\∃ N:St->Hp->Prop,(∀ σ' H',N σ' H'->∃ m',m'<m/\W (i+1) m' σ' H')/\∀ x H',(z9 K a xs.length).yld i H x H'->g x σ H' λ σ2 H2=>tb {D with nx:=N,ct:=N,bk:=D.nx} σ2 H2):=by
 refine⟨λ i m σ H=>m=xs.length-i/\i<=xs.length/\Pv i σ H,⟨xs.length,by simp,Nat.zero_le _,h0⟩,?_⟩
 rintro i m σ H ⟨rfl,hi,p⟩
 have q:=hl i σ H hi p
 by_cases hlt:i<xs.length
 ·have ex:=List.getElem?_eq_getElem (show xs.length-1-i<xs.length by omega)
  refine .inr ⟨⟨hlt,xs,_,q,ex⟩,Pv (i+1),λ σ' H' pv=>⟨xs.length-(i+1),by omega,rfl,hlt,pv⟩,?_⟩
  rintro x H' ⟨rfl,hx⟩
  exact hs i x σ _ hlt (hx xs q) p
 ·have ei:i=xs.length:=by omega
  subst ei
  exact .inl ⟨Nat.le_refl _,hd σ H p⟩
end L2
namespace L2
open PySem PySem.Spec PyProof.Rows
theorem lP {prog:Program}{w:World}{A:Around}{R:Result->Shared->Prop}{s:Shared}{elt tg iter:Expr}{ifs:List Expr}{scope:Scope}{pos:Pos}{it acc:Value}{env:Env} (Iv:Nat->Shared->Prop)
  (turn:∀ k s,Iv k s->wpAny (model prog w) A (pyNext it) (λ r s1=>match r with
   | none=>R (.ok .next) s1
   | some v=>wpAny (model prog w) A (letOwnedTupleGo tg it v) (λ _ s2=>wpAny (model prog w) A (assign tg env v) (λ _ s3=>wpAny (model prog w) A (gh ifs env) (λ b s4=>if b=true then
     wpAny (model prog w) A (eval elt env) (λ y s5=>wpAny (model prog w) A (call (.builtin "list.append") [acc,y]) (λ _ s6=>∃ m,m<k/\Iv m s6) (λ _ _=>False) s5) (notedBy (model prog w) A env λ e s'=>R (.error e) s') s4
     else ∃ m,m<k/\Iv m s4) (λ _ _=>False) s3) (λ _ _=>False) s2) (λ _ _=>False) s1) (λ _ _=>False) s)
  (k:Nat) (h:Iv k s):codeAny (model prog w) A (.compLoop (.ListComp elt [⟨tg,iter,ifs,0⟩] scope pos) 0 it acc env) R s:=by
 refine codeAny_loop rfl Iv (λ k s hI=>?_) k h
 show wpAny _ _ ((compTurn (.ListComp elt [⟨tg,iter,ifs,0⟩] scope pos) 0 it acc env).onRaise (λ e=>do noteFrame e env;theTreesLotGoes e)) _ _ s
 refine wpAny_noted ?_
 rw[iJ]
 refine wpAny_bind (wpAny_standAt (wpAny_bind (wpAny_mono (turn k s hI) (λ r s1 h1=>?_) λ _ _ f=>f.elim)))
 cases r with
 | none=>exact wpAny_pure h1
 | some v =>
  refine wpAny_bind (wpAny_mono h1 (λ _ s2 h2=>wpAny_bind (wpAny_mono h2 (λ _ s3 h3=>wpAny_bind (wpAny_mono h3 (λ b s4 h4=>?_) λ _ _ f=>f.elim)) λ _ _ f=>f.elim)) λ _ _ f=>f.elim)
  cases b with
  | true =>
   rw[if_pos rfl] at h4 ⊢
   exact wpAny_bind (wpAny_mono h4 (λ y s5 h5=>wpAny_bind (wpAny_mono h5 (λ _ s6 h6=>wpAny_pure ⟨rfl,h6⟩) λ _ _ f=>f.elim)) λ _ _ f=>f)
  | false =>
   rw[if_neg Bool.false_ne_true] at h4 ⊢
   exact wpAny_pure ⟨rfl,h4⟩
def pf (M:Model) (A:Around) (E:Value->Shared->Prop) (Q:Value->Shared->Prop) (acc:Value) (cenv:Env):Result->Shared->Prop
 | .ok _,s'=>∃ m,s'.heap.Ns cenv.locals m/\∀ h',Heap.SameBut cenv.locals s'.heap h'->Q acc {s' with heap:=h'}
 | .error x,s'=>∃ m,s'.heap.Ns cenv.locals m/\∀ h',Heap.SameBut cenv.locals s'.heap h'->wpAny M A (passOn "comprehension.variables-let-go" x cenv:Sem Value) (λ _ _=>False) E {s' with heap:=h'}
theorem si {M:Model}{A:Around}{E:Value->Shared->Prop}{s:Shared}{env:Env}{e:Expr}{scope:Scope}{pos:Pos}{newAcc first:Sem Value}{g:Comprehension}{gs:List Comprehension}{cl:List (Str×Addr)}{Q:Value->Shared->Prop}
  (hcl:clausesOf e=g::gs) (hs:∀ x,foldedSetIterable g.iter env x=pure x) (hclos:closureFor scope env=pure cl)
  (hkind:scope.kind=.function) (hnames:∀ x∈scope.names,x.2=.local->scope.names.lookup x.1=some .local)
  (h:wpAny M A first (λ x s₁=>wpAny M A (pyIter x) (λ it s₂=>wpAny M A newAcc (λ acc s₃ =>
   wpAny M A (newFunctionEnv scope env.globals cl [] env.qual none .none (some env)) (λ cenv s₄ =>
    codeAny M A (.compStart e 0 it acc {cenv with scope:=relabel scope env}) (pf M A E Q acc {cenv with scope:=relabel scope env}) s₄) E s₃) E s₂) E s₁) E s) :
  wpAny M A (comprehension e scope env pos newAcc false first none) Q E s:=by
 unfold comprehension
 rw[hclos,hcl]
 have same:∀ {α:Type}{m:Sem α}{P P':α->Shared->Prop}{t:Shared},wpAny M A m P E t->(∀ a t',P a t'->P' a t')->wpAny M A m P' E t:=λ h1 h2=>wpAny_mono h1 h2 λ _ _ y=>y
 refine wpAny_bind (same h λ x s₁ h₁=>wpAny_bind (wpAny_standAt (wpAny_bind (wpAny_of_eq (hs x) (wpAny_bind (wpAny_holding (same h₁ λ it s₂ h₂ =>
  wpAny_standIf (wpAny_bind (same h₂ λ acc s₃ h₃=>wpAny_bind (wpAny_pure (wpAny_bind (same h₃ λ cenv s₄ h₄=>?_))))))))))))
 dsimp only
 have hv:∀ x∈(scope.names.filter λ x=>(x.2 == .local || x.2 == .cell) && x.1 != (".0":Str)).reverse,x.2=.local ->
   Env.kindOf {cenv with scope:=relabel scope env} x.1=some .local:=λ x hx hl=>lookup_relabel_local (hnames x (List.mem_filter.mp (List.mem_reverse.mp hx)).1 hl)
 refine wpAny_holding (wpAny_bind (wpAny_attempt (wpAny_holding (wpAny_run (codeAny_mono h₄ λ r s' hr=>?_)))))
 cases r with
 | ok f =>
  obtain⟨m,hn,hr⟩:=hr
  exact wpAny_bind (wpAny_holding (wpAny_comp_letGo (cenv:={cenv with scope:=relabel scope env}) hkind _ s' m hv hn λ h' _ _ z=>wpAny_pure (hr h' z)))
 | error x =>
  obtain⟨m,hn,hr⟩:=hr
  exact wpAny_bind (wpAny_holding (wpAny_comp_letGo (cenv:={cenv with scope:=relabel scope env}) hkind _ s' m hv hn λ h' _ _ z=>wpAny_mono (hr h' z) (λ _ _ f=>f.elim) λ _ _ y=>y))
section
variable {M:Model}{A:Around}{E:Value->Shared->Prop}{s:Shared}{B:Heap}{l:List Env}{e L:Addr}{cls a0:Value}
theorem kh {Q:Unit->Shared->Prop} (x:Heap.HeldW B l e cls a0 L s.heap) (h:∀ h',Heap.HeldW B l e cls a0 L h'->s.heap.UpToSlots h'->Q () {s with heap:=h'}) :
  wpAny M A (setFlight (.ref e) (some L)) Q E s:=by
 obtain⟨st,en,ff,oe,vs,T,oT,ts,he,hc,hd,h1,nT,Te,hT,hdT,h3⟩:=x
 have sz:=(Array.getElem?_eq_some_iff.mp h3).1
 have oth:∀ b,b≠T->(s.heap.update T (Obj.mapFields (·.setIfInBounds 3 ((some L).elim Value.none λ f=>rawInt f)))).get? b=s.heap.get? b:=λ b hb=>Heap.get?_update_other _ _ (Ne.symm hb)
 have nr:∀ b o,s.heap.get? b=some o->(∀ vs,o.data≠.fields vs)->b≠T:=λ b o hb hnf q=>by
  rw[q,hT] at hb;cases hb;exact hnf ts hdT
 unfold setFlight
 refine wpAny_bind (wpAny_field he hd h1 ?_)
 rw[if_pos (show (Value.ref T != Value.none)=true from by simp)]
 refine wpAny_setField hT hdT sz (h _ ⟨λ b o z=>(oth b λ q=>by rw[q,nT] at z;cases z).trans (st b o z),en,ff.of_keeps λ b o hb hnf=>⟨o,(oth b (nr b o hb hnf)).trans hb,rfl⟩,?_⟩ λ b o hb hnf=>⟨o.slots,(oth b (nr b o hb hnf)).trans hb⟩)
 exact⟨oe,vs,T,_,_,(oth e (Ne.symm Te)).trans he,hc,hd,h1,nT,Te,Heap.get?_update_self _ hT (Obj.isFreed_of_fields (Obj.data_mapFields hdT _)),Obj.data_mapFields hdT _,by simp [sz]⟩
theorem uX {α:Type}{what:String}{cenv:Env}{Q:α->Shared->Prop} (hf:cenv.frame=some L) (x:Heap.HeldW B l e cls a0 L s.heap) (h:∀ h',Heap.HeldW B l e cls a0 L h'->s.heap.UpToSlots h'->E (.ref e) {s with heap:=h'}) :
  wpAny M A (passOn what (.ref e) cenv:Sem α) Q E s:=by
 have y:=x
 obtain⟨st,en,ff,oe,vs,T,oT,ts,he,hc,hd,h1,nT,Te,hT,hdT,h3⟩:=y
 unfold PySem.passOn
 refine wpAny_bind (wpAny_field he hd h1 ?_)
 rw[if_neg (show ¬ ((Value.ref T == Value.none)=true) from by simp),hf]
 exact wpAny_bind (kh x λ h' y up=>wpAny_throw (h h' y up))
theorem rJ {env:Env}{outer:List Env}{Q:Unit->Shared->Prop} (hf:env.frame=some L) (x:Heap.HeldW B (env::outer) e cls a0 L s.heap)
  (h:∀ h',Heap.FlyingW B outer e cls a0 h'->s.heap.UpToSlots h'->Q () {s with heap:=h'}):wpAny M A (leaving env (.ref e)) Q E s:=by
 unfold leaving
 refine wpAny_bind (wpAny_noteFrame_againW hf x.2.2.2 (wpAny_landsW x λ h' fl up=>?_))
 obtain⟨k1,k2,⟨_,_,k3⟩,k4⟩:=fl
 exact h h' ⟨k1,k2,k3,k4⟩ up
end
theorem gG {h h' B:Heap}{C:Addr} (k:Heap.SameBut C h h'):∀ {l:List Env},C ∉ frs l->h.FunFrames B l->h'.FunFrames B l
 | [],_,_=>trivial
 | env::l,hC,⟨hk,⟨L,o,hf,hn,ho,hd⟩,hr⟩=>by
  have e1:frs (env::l)=L::frs l:=by unfold frs;rw[List.filterMap_cons,hf]
  rw[e1] at hC
  exact⟨hk,⟨L,o,hf,hn,(k.2 L λ z=>hC (by simp [z])).trans ho,hd⟩,gG k (λ z=>hC (by simp [z])) hr⟩
theorem zm {h h' B:Heap}{C e L:Addr}{l:List Env}{cls a0:Value}{m:Str->Option Value} (k:Heap.SameBut C h h') (hC:C ∉ frs l) (hn:h.Ns C m) (x:Heap.HeldW B l e cls a0 L h) :
  Heap.HeldW (PySem.W.hideAll B [C]) l e cls a0 L h':=by
 have x':=PySem.W.heldW_base (base:=PySem.W.hideAll B [C]) (λ b o q=>PySem.W.of_hideAll _ q) x
 obtain⟨st,en,ff,oe,vs,T,oT,ts,he,hc,hd,h1,nT,Te,hT,hdT,h3⟩:=x'
 obtain⟨o,es,ep,ho,od,_⟩:=hn
 have nC:∀ b u ws,h.get? b=some u->u.data=.fields ws->b≠C:=λ b u ws q d z=>by
  rw[z,ho] at q;cases q;rw[od] at d;cases d
 refine⟨λ b u q=>(k.2 b λ z=>?_).trans (st b u q),en,gG k hC ff,oe,vs,T,oT,ts,(k.2 e (nC e oe vs he hd)).trans he,hc,hd,h1,nT,Te,(k.2 T (nC T oT ts hT hdT)).trans hT,hdT,h3⟩
 rw[z,PySem.W.hideAll_none [C] (by simp)] at q
 cases q
section
variable {X:Cx}{E:XK}{N':List Str}{scope:Scope}{cl:List (Str×Addr)}{pins0:List (Addr×Obj)}{σ0:St}{H3:Hp}{s3:Shared}{fp:List Addr}{Q:Value->Shared->Prop}{acc:Value}
theorem vS (dx:dI X) (hxe:∀ e s',wpAny (model X.prog X.w) X.A (leaving X.env e) (λ _ s2=>CXX X.prog X.w X.outer X.H₀ X.s₀ E e s2) (λ e' s2=>CXX X.prog X.w X.outer X.H₀ X.s₀ E e' s2) s'->X.xe e s')
  (I3:Inv X pins0 σ0 H3 s3) (hfp:∀ b∈fp,fN X pins0 H3 b) {C:Addr} (hC:C=s3.heap.objs.size) :
  cG (CXX X.prog X.w) ((bt X N' scope cl C s3 H3 fp).wish (notedBy (model X.prog X.w) X.A (compEnvC scope cl C X.env) λ e s'=>pf (model X.prog X.w) X.A X.xe Q acc (compEnvC scope cl C X.env) (.error e) s')) E:=by
 intro pins σ H s e s' I h
 obtain⟨a,cls,H',rfl,os,bare,un,hok,⟨B,t,fw,ne,hn,kB⟩,q⟩:=h
 have fl:X.env.frame=some X.env.locals:=dx.fr
 have nofp:∀ b o,X.s₀.heap.get? b=some o->b ∉ fp:=λ b o e1 z=>by
  rcases (hfp b z).2.2.2.1 with y | y
  ·rw[dx.ex] at y;cases y
  ·exact absurd (Nat.lt_of_lt_of_le (Heap.lt_size e1) y) (Nat.lt_irrefl _)
 have thr:∀ b o,X.s₀.heap.get? b=some o->∃ o',s.heap.get? b=some o':=λ b o e1=>by
  obtain⟨o1,e2⟩:=I3.base.there b o e1 (by rw[dx.ex];simp)
  exact I.base.there b o1 e2 (nofp b o e1)
 have I1:Inv ((bt X N' scope cl C s3 H3 fp).wish (notedBy (model X.prog X.w) X.A (compEnvC scope cl C X.env) λ e s'=>pf (model X.prog X.w) X.A X.xe Q acc (compEnvC scope cl C X.env) (.error e) s')) pins σ H' s' :=
  I.call' (ch:=[]) os un hok bare (λ b z=>absurd z (by simp))
 have sf:∀ b∈frs X.stack,H' b=none:=I1.stkFree
 have fw':Heap.FlyingW B (X.env::X.outer) a cls (.ref t) s'.heap:=by rw[<-dx.st];exact fw
 show wpAny (model X.prog X.w) X.A (noteFrame (.ref a) X.env) _ _ s'
 refine wpAny_looks_onW (L:=X.env.locals) (by rw[I3.ok.frames,dx.st]) fl fw' λ h1 hw up=>?_
 have hw':Heap.HeldW B X.stack a cls (.ref t) X.env.locals h1:=by rw[dx.st];exact hw
 obtain⟨un1,hok1⟩:=fh (h5:=h1) un hok kB fw.2.2.1 (λ b hb=>hb) (λ b hb hb'=>absurd hb hb') sf hw.1 up
 have I2:Inv ((bt X N' scope cl C s3 H3 fp).wish (notedBy (model X.prog X.w) X.A (compEnvC scope cl C X.env) λ e s'=>pf (model X.prog X.w) X.A X.xe Q acc (compEnvC scope cl C X.env) (.error e) s')) pins σ H' {s' with heap:=h1} :=
  I.call' (s':={s' with heap:=h1}) (ch:=[]) os un1 hok1 bare (λ b z=>absurd z (by simp))
 obtain⟨m,ns,_⟩:=id I2.loc
 have ns':h1.Ns C m:=ns
 have u2:Un (frs X.stack) fp H3 H' s3.heap h1:=I2.base
 have fC:H' C=none:=I2.free
 have I4:Inv X pins0 σ0 H' {s' with heap:=h1}:=I3.call' (s':={s' with heap:=h1}) (ch:=fp) I2.os u2 I2.hok I2.bare (λ b hb=>⟨(hfp b hb).2.2.2.1,(hfp b hb).2.1,(hfp b hb).2.2.2.2.1,(hfp b hb).2.2.2.2.2⟩)
 have okC:fN X pins0 H' C:=I3.fpOk (Nat.le_of_eq hC.symm) fC
 have nC:C ∉ frs X.stack:=λ z=>by
  rcases List.mem_cons.mp (I4.stkSub C z) with y | y
  ·exact okC.2.1 y
  ·exact okC.2.2.1 y
 refine⟨m,ns',λ h2 sb=>?_⟩
 have I5:Inv X pins0 σ0 H' {s' with heap:=h2}:=Inv.turned (s:={s' with heap:=h1}) (it:=C) (t':=s'.toks) I4 (λ b o hb e=>(sb.2 b hb).trans e) okC.1 okC.2.1 okC.2.2.2.1 okC.2.2.2.2.1 okC.2.2.2.2.2
 refine uX (L:=X.env.locals) fl (zm sb nC ns' hw') λ h3 hw3 up3=>hxe _ _ ?_
 have hw3':Heap.HeldW (PySem.W.hideAll B [C]) (X.env::X.outer) a cls (.ref t) X.env.locals h3:=by rw[<-dx.st];exact hw3
 refine rJ (s:={s' with heap:=h3}) fl hw3' λ h4 fw4 up4=>?_
 have n1:X.s₀.heap.get? a=none:=by
  cases z:X.s₀.heap.get? a with
  | none=>rfl
  | some o =>
   obtain⟨o',y⟩:=thr a o z
   rw[ne] at y;cases y
 refine jR (s:={s' with heap:=h2}) dx I5 (λ b o e1 hz hb=>?_) fw4 (up3.trans up4) n1 hn q
 have bC:b≠C:=λ z=>by
  subst z
  rcases hz with ⟨o',y⟩ | ⟨u,y⟩
  ·rcases okC.2.2.2.1 with w | w
   ·rw[dx.ex] at w;cases w
   ·exact absurd (Nat.lt_of_lt_of_le (Heap.lt_size y) w) (Nat.lt_irrefl _)
  ·rw[fC] at y;cases y
 have e2:h1.get? b=some o:=(sb.2 b bC).symm.trans e1
 have hz':(∃ o',s.heap.get? b=some o')∨∃ u,H' b=some u:=hz.imp (λ ⟨o',y⟩=>thr b o' y) id
 have th:∃ o2,s'.heap.get? b=some o2:=by
  rcases hz' with ⟨o',y⟩ | ⟨u,y⟩
  ·exact un.there b o' y (by simp)
  ·exact (hok b u y).there
 obtain⟨o2,e3⟩:=th
 have e4:=kB b o2 e3 hz' hb
 have e5:=hw.1 b o2 e4
 rw[e2] at e5
 cases e5
 exact PySem.W.hideAll_get [C] e4 (by simpa using bC)
end
section
variable {X:Cx}{E:XK}{elt iter tg:Expr}{ifs:List Expr}{xs:List Str}{pos:Pos}{scope:Scope}{cl:List (Str×Addr)}{ts:List (Str×Nat)}{wi:TI}{te:TE}{g:TG}{tt:TT}
theorem io (dx:dI X) (hxe:∀ e s',wpAny (model X.prog X.w) X.A (leaving X.env e) (λ _ s2=>CXX X.prog X.w X.outer X.H₀ X.s₀ E e s2) (λ e' s2=>CXX X.prog X.w X.outer X.H₀ X.s₀ E e' s2) s'->X.xe e s')
  (hc:X.calm=true) (O:ci X xs ts scope cl) (hi:PI X tg iter wi) (hg:∀ C s3 H3 fp,PG (bt X (cR xs ts) scope cl C s3 H3 fp) tg g)
  (ht:∀ C s3 H3 fp,PIf (bt X (cR xs ts) scope cl C s3 H3 fp) ifs tt)
  (he:∀ C s3 H3 fp xe,cG (CXX X.prog X.w) ((bt X (cR xs ts) scope cl C s3 H3 fp).wish xe) E->PE ((bt X (cR xs ts) scope cl C s3 H3 fp).wish xe) elt te)
  (hs:∀ x,foldedSetIterable iter X.env x=pure x:=by intro _;rfl):PE X (.ListComp elt [⟨tg,iter,ifs,0⟩] scope pos) (mO wi g tt xs.length (dG ts) te):=by
 intro pins s σ H Q I h
 rw[eval_ListComp]
 refine si rfl hs O.clos O.kind O.locs' (thn (hi pins s σ H _ I h) λ v s1 h1=>thn h1 λ itv s2 h2=>?_)
 obtain⟨it,fp,tn,J,H2,rfl,I2,T,st2,f2,q⟩:=h2
 have hD:H2 s2.heap.objs.size=none:=I2.hok.fresh (Nat.le_refl _)
 obtain⟨W,⟨m0,w0⟩,turn⟩:=q s2.heap.objs.size hD
 refine wpAny_newObj_type ?_
 have I3:Inv X pins σ (upd H2 s2.heap.objs.size (.lst [])) {s2 with heap:=s2.heap.push {cls:=.type "list",dict:=none,data:=.seq ([]:List Value).toArray}} :=
  I2.laid (a:=s2.heap.objs.size) (o:=.lst []) (t':=s2.toks) (λ b u e=>Heap.get?_push_of_some _ e) (Nat.le_refl _) ⟨Nat.zero_le _,[],0,.nil,Heap.get?_push_size _ rfl⟩
 generalize hs3:({s2 with heap:=s2.heap.push {cls:=.type "list",dict:=none,data:=.seq ([]:List Value).toArray}}:Shared)=s3 at I3
 have sz3:s3.heap.objs.size=s2.heap.objs.size+1:=by rw[<-hs3,Heap.size_push]
 have old3:∀ b u,s2.heap.get? b=some u->s3.heap.get? b=some u:=λ b u e=>by rw[<-hs3];exact Heap.get?_push_of_some _ e
 generalize hH3:upd H2 s2.heap.objs.size (.lst [])=H3 at I3 w0
 have fp2:∀ b∈fp,b<s2.heap.objs.size:=λ b hb=>by
  obtain⟨o,e,_⟩:=T.obj _ _ st2 b hb
  exact Heap.lt_size e
 have hfp:∀ b∈fp,fN X pins H3 b/\b<s3.heap.objs.size:=λ b hb=>by
  refine⟨⟨?_,(f2 b hb).2⟩,by rw[sz3];exact Nat.lt_succ_of_lt (fp2 b hb)⟩
  rw[<-hH3,aM (Nat.ne_of_lt (fp2 b hb))]
  exact (f2 b hb).1
 refine wpAny_newFunctionEnv O.nocell' (by intro y hy;simp at hy) (λ h₁ hns₁ hsb₁=>?_) O.kind
 have old:∀ b o,s3.heap.get? b=some o->h₁.get? b=some o:=λ b o e=>hsb₁.extBut b o (Nat.ne_of_lt (Heap.lt_size e)) (Heap.get?_push_of_some _ e)
 have eC:Inv (bt X (cR xs ts) scope cl s3.heap.objs.size s3 H3 fp) [] (List.replicate xs.length none++eB σ (dG ts)) H3 {s3 with heap:=h₁,toks:=s3.toks+0}:=jz O I3 hfp hns₁ old
 have st4:tn 0 h₁:=T.keep _ _ _ st2 λ b hb o e=>old b o (old3 b o e)
 have okX:∀ {H':Hp},(∀ b∈fp,H' b=none)->∀ b∈fp,fN (bt X (cR xs ts) scope cl s3.heap.objs.size s3 H3 fp) [] H' b:=λ hn b hb=>by
  refine⟨hn b hb,Nat.ne_of_lt (hfp b hb).2,λ z=>?_,.inl hb,λ y c e=>(f2 b hb).2.2.2.2.1 y c (O.sub y c e),λ p hp=>absurd (show p∈([]:List (Addr×Obj)) from hp) (by simp)⟩
  rcases List.mem_cons.mp (I3.stkSub b z) with e | e
  ·exact (f2 b hb).2.1 e
  ·exact (f2 b hb).2.2.1 e
 have loop:∀ s₄:Shared,s₄={s3 with heap:=h₁,toks:=s3.toks+0} ->
   codeAny (model X.prog X.w) X.A (.compLoop (.ListComp elt [⟨tg,iter,ifs,0⟩] scope pos) 0 (.ref it) (.ref s2.heap.objs.size) (compEnvC scope cl s3.heap.objs.size X.env))
    (pf (model X.prog X.w) X.A X.xe (EP X pins σ Q) (.ref s2.heap.objs.size) (compEnvC scope cl s3.heap.objs.size X.env)) s₄:=by
  rintro s₄ rfl
  refine lP (λ n s'=>∃ i ys σ0 H',σ0.length=xs.length/\Inv (bt X (cR xs ts) scope cl s3.heap.objs.size s3 H3 fp) [] (σ0++eB σ (dG ts)) H' s'/\tn i s'.heap/\(∀ b∈fp,H' b=none)/\W i n ys H') ?_ m0
   ⟨0,[],_,H3,by simp,eC,st4,λ b hb=>(hfp b hb).1.1,w0⟩
  rintro n s5 ⟨i,ys,σ0,H5,l0,I5,st5,fr5,w5⟩
  rcases turn i n ys H5 w5 with ⟨stop,qn⟩ | ⟨go,step⟩
  ·refine thn (T.done (bt X (cR xs ts) scope cl s3.heap.objs.size s3 H3 fp) rfl rfl rfl hc i [] s5 (σ0++eB σ (dG ts)) H5 _ I5 (okX fr5) st5 stop) λ r s6 ⟨hr,I6⟩=>?_
   subst hr
   obtain⟨m,hn,_⟩:=id I6.loc
   have u6:Un (frs X.stack) fp H3 H5 s3.heap s6.heap:=I6.base
   have fC:H5 s3.heap.objs.size=none:=I6.free
   have J6:Inv X pins σ H5 s6:=I3.call' (s':=s6) (ch:=fp) I6.os u6 I6.hok I6.bare (λ b hb=>⟨(f2 b hb).2.2.2.1,(f2 b hb).2.1,(f2 b hb).2.2.2.2.1,(f2 b hb).2.2.2.2.2⟩)
   have oC:fN X pins H5 s3.heap.objs.size:=I3.fpOk (Nat.le_refl _) fC
   exact⟨m,hn,λ h' sb=>⟨.ref s2.heap.objs.size,H5,J6.turned (it:=s3.heap.objs.size) (t':=s6.toks) (λ b o hb e=>(sb.2 b hb).trans e) oC.1 oC.2.1 oC.2.2.2.1 oC.2.2.2.2.1 oC.2.2.2.2.2,rfl,qn⟩⟩
  ·refine thn (T.item (bt X (cR xs ts) scope cl s3.heap.objs.size s3 H3 fp) rfl rfl rfl hc i [] s5 (σ0++eB σ (dG ts)) H5 _ I5 (okX fr5) st5 go) λ r s6 ⟨u,hr,h6⟩=>?_
   subst hr
   refine thn h6 λ _ s7 ⟨z,H7,I7,rz,yz,st7,fr7⟩=>?_
   have I7':=I7.pinned (okX fr7) (T.obj _ _ st7)
   refine thn (hg s3.heap.objs.size s3 H3 fp _ s7 _ H7 z u _ I7' rz (step z H7 σ0 yz l0)) λ _ s8 ⟨σ8,H8,I8,⟨σ1,l1,e8⟩,q8⟩=>?_
   subst e8
   refine thn (ht s3.heap.objs.size s3 H3 fp _ s8 _ H8 _ I8 q8) λ b s9 ⟨H9,I9,q9⟩=>?_
   cases b with
   | true =>
    rw[if_pos rfl] at q9 ⊢
    have hx:=vS (E:=E) (N':=cR xs ts) (scope:=scope) (cl:=cl) (Q:=EP X pins σ Q) (acc:=.ref s2.heap.objs.size) dx hxe I3 (λ b hb=>(hfp b hb).1) rfl
    refine wpAny_mono (he s3.heap.objs.size s3 H3 fp _ hx _ s9 _ H9 _ (I9.wish _) q9) (λ y s10 ⟨vy,H10,I10',ry,hD9,hl9,m',hm',w9⟩=>?_) λ _ _ z=>z
    have I10:=I10'.unwish
    refine thn (ms (X:=bt X (cR xs ts) scope cl s3.heap.objs.size s3 H3 fp) _ s10 _ H10 (.ref s2.heap.objs.size) [vy] (.ref s2.heap.objs.size) [y] (λ _ H11=>H11=upd H10 s2.heap.objs.size (.lst (ys++[vy]))) I10 rfl (.cons ry .nil) ⟨_,ys,vy,rfl,rfl,hD9,hl9,rfl⟩) λ _ s11 ⟨_,H11,I11,_,e11⟩=>?_
    subst e11
    refine⟨m',hm',i+1,ys++[vy],σ1,_,l1,I11.unpinned,T.keep _ _ _ st7 λ b hb o e=>(I11.pin (b,o) (List.mem_append_right _ (List.mem_append_right _ (bQ hb e)))).1,λ b hb=>?_,w9⟩
    obtain⟨o,e,d⟩:=T.obj _ _ st7 b hb
    exact (I11.pin (b,o) (List.mem_append_right _ (List.mem_append_right _ (bQ hb e)))).2.1
   | false =>
    rw[if_neg Bool.false_ne_true] at q9 ⊢
    obtain⟨m',hm',w9⟩:=q9
    refine⟨m',hm',i+1,ys,σ1,_,l1,I9.unpinned,T.keep _ _ _ st7 λ b hb o e=>(I9.pin (b,o) (List.mem_append_right _ (List.mem_append_right _ (bQ hb e)))).1,λ b hb=>?_,w9⟩
    obtain⟨o,e,d⟩:=T.obj _ _ st7 b hb
    exact (I9.pin (b,o) (List.mem_append_right _ (List.mem_append_right _ (bQ hb e)))).2.1
 have hst:=codeAny_compStart_list (loop _ rfl) (T.self X.A 0 _ _ _ st4 (loop _ rfl))
 exact hst
end
def XO (cls:Value) (e:Addr):HO:=.ext λ h=>∃ oe,h.get? e=some oe/\oe.cls=cls
theorem Inv.track {X:Cx}{pins:List (Addr×Obj)}{σ:St}{H:Hp}{s:Shared}{a:Addr}{o:HO} (I:Inv X pins σ H s) (hn:X.s₀.heap.get? a=none) (hH:H a=none) (hL:a≠X.env.locals) (hc:∀ x c,X.env.cells.lookup x=some c->c≠a)
  (hp:∀ p∈X.pn++pins,p.1≠a) (new:bx X.prog X.w (upd H a o) s.heap a o):Inv X pins σ (upd H a o) s:=by
 have ne:∀ b u,H b=some u->b≠a:=λ b u e z=>by rw[z,hH] at e;cases e
 have b:=I.base
 refine⟨I.ok,I.os,I.bare,⟨b.keep,b.slot,λ c u e1 e2 e3=>?_,b.there,λ c xs e=>?_,λ c u v e=>?_,λ c ps e=>?_⟩,I.loc,I.cell,?_,λ x c e=>?_,λ p hq=>?_,λ c u e=>?_,I.len⟩
 ·rw[aM (λ z=>by rw[z,hn] at e1;cases e1)]
  exact b.free c u e1 e2 e3
 ·have y:=b.tups c xs e
  rw[aM (ne _ _ y)];exact y
 ·have y:=b.frzs c u v e
  rw[aM (ne _ _ y)];exact y
 ·obtain⟨more,y⟩:=b.tbls c ps e
  exact⟨more,by rw[aM (ne _ _ y)];exact y⟩
 ·rw[aM (Ne.symm hL)];exact I.free
 ·rw[aM (hc x c e)];exact I.freeC x c e
 ·obtain⟨y1,y2,y3⟩:=I.pin p hq
  exact⟨y1,by rw[aM (hp p hq)];exact y2,y3⟩
 ·by_cases z:c=a
  ·subst z
   rw[ai] at e
   cases e
   exact new
  ·rw[aM z] at e
   refine (I.hok c u e).stay (λ _ _ _ y=>y) (λ d y=>?_) (λ d xs y=>?_)
   ·rw[aM (ne _ _ y)];exact y
   ·rw[aM (ne _ _ y)];exact y
def uq (i:Nat) (e:Addr) (cls:Value) (D:hW):hW:={nx:=λ σ H=>D.nx (σ.set i none) (upd H e (XO cls e)),rt:=D.rt,bk:=λ σ H=>D.bk (σ.set i none) H,ct:=λ σ H=>D.ct (σ.set i none) H}
def ETK (K:PySem.W.Frag) (CS:Addr) (i:Nat) (ts:Addr->Obj->TS) (D:hW):St->XK:=λ σ cls _ H =>
 PySem.W.subIn K cls (.ref CS)=some true/\∀ e oe,H e=none->oe.cls=cls->ts e oe (uq i e cls D) (σ.set i (some (.ref e))) H
def FP (K:PySem.W.Frag) (CS:Addr) (i:Nat) (tb:(St->XK)->TS) (ts:Addr->Obj->TS):TS:=λ D σ H=>tb (ETK K CS i ts D) D σ H
theorem AU {X:Cx}{body:List Stmt}{b0:Stmt}{suite:List Stmt}{S n:Str}{np hpos pos:Pos}{CS:Addr}{i:Nat}{tb:(St->XK)->TS}{ts:Addr->Obj->TS} (dx:dI X) (hN:X.N.Nodup) (hi:X.N[i]? = some n) (hl:X.env.scope.names.lookup n=some .local)
  (hg:Gl X S) (hm:X.mg S=some (.ref CS)) (ca:Catch X.K CS)
  (hb:∀ (xe:Value->Shared->Prop) (pn:List (Addr×Obj)) (E:St->XK),gB (CXX X.prog X.w) (X.tried xe pn) E->PSs (X.tried xe pn) body (tb E))
  (hs:∀ (e:Addr) (oe:Obj),PSs (X.held e oe) (b0::suite) (ts e oe)) (hdb:(S == ("__debug__":Str))=false:=by decide) :
  PS X (.Try body [.ExceptHandler (some (.Name S np)) (some n) (b0::suite) hpos] [] [] pos) (FP X.K CS i tb ts):=by
 intro pins s σ H D I h
 have pass:gB (CXX X.prog X.w) (X.tried (λ e s1=>wpAny (model X.prog X.w) X.A (noteFrame e X.env) (λ _ s2=>wpAny (model X.prog X.w) X.A (setFlight e none) (λ _ s3 =>
   wpAny (model X.prog X.w) X.A (handleBy e X.env [.ExceptHandler (some (.Name S np)) (some n) (b0::suite) hpos]) (SP X pins D) X.xe s3) X.xe s2) X.xe s1) pins) (ETK X.K CS i ts D):=by
  intro pins' σ' H1 s1 e s' I' hx
  obtain⟨a,cls,H',rfl,os,bare,un,hok,⟨B,t,fw,ne,hn,kB⟩,hk,q⟩:=hx
  have J:Inv X pins σ' H1 s1:=I'.untried
  have hu:∀ b∈frs X.stack,H' b=none:=λ b z=>by
   obtain⟨_,o,e0,_⟩:=J.stack.mem z
   exact un.free b o e0 (J.stkFree b z) (by simp)
  have keep5:∀ h5:Heap,B.StaysIn h5->s'.heap.UpToSlots h5->Un (frs X.stack) [] H1 H' s1.heap h5/\HOk X.prog X.w H' h5:=λ h5 st up =>
   fh un hok kB fw.2.2.1 (λ _ z=>z) (λ b z nz=>absurd z nz) hu st up
  have inv5:∀ h5:Heap,B.StaysIn h5->s'.heap.UpToSlots h5->Inv X pins σ' H' {s' with heap:=h5}:=λ h5 st up =>
   J.call' (s':={s' with heap:=h5}) (ch:=[]) os (keep5 h5 st up).1 (keep5 h5 st up).2 bare (λ b z=>absurd z (by simp))
  have neL:a≠X.env.locals:=λ z=>by
   obtain⟨m,⟨o,_,_,ho,_⟩,_⟩:=J.loc
   rw[<-z,ne] at ho;cases ho
  have nfs:a ∉ X.fs:=λ z=>by
   obtain⟨_,o,e0,_⟩:=J.funs.mem z
   rw[ne] at e0;cases e0
  have fw':Heap.FlyingW B (X.env::X.outer) a cls (.ref t) s'.heap:=by rw[<-dx.st];exact fw
  show wpAny (model X.prog X.w) X.A (noteFrame (.ref a) X.env) _ X.xe s'
  refine wpAny_looks_onW (by rw[J.ok.frames,dx.st]) dx.fr fw' λ h4 held4 up4=>?_
  refine wpAny_landsW held4 λ h5 fl5 up5=>?_
  have up:=up4.trans up5
  have J5:=inv5 h5 fl5.1 up
  obtain⟨oe,vs,hoe,hoc,hod,_⟩:=fl5.first
  have K5:Inv (X.held a oe) pins σ' H' {s' with heap:=h5}:=J5.held hoe hn neL nfs (λ v z=>by rw[hod] at z;cases z)
  refine wpAny_handleBy_cons (codeAny_handlers_test (dl K5 hg hm ?_ hdb)) (by intro z;cases z)
  refine jt K5.kIn hoe ca (by rw[hoc];exact hk) ?_
  refine codeAny_handlers_suite_as ?_
  refine lands_againW fl5 λ h6 fl6 up6=>?_
  have J6:=inv5 h6 fl6.1 (up.trans up6)
  obtain⟨oe6,vs6,hoe6,hoc6,hod6,_⟩:=fl6.first
  have K6:Inv (X.held a oe6) pins σ' H' {s' with heap:=h6}:=J6.held hoe6 hn neL nfs (λ v z=>by rw[hod6] at z;cases z)
  refine ic (X:=X.held a oe6) K6 hN hi (.inl hl) (v:=.ref a) rfl (λ s7 I7=>?_) (.inr hl)
  refine wpAny_mono (hs a oe6 pins s7 _ H' (uq i a cls D) I7 (q a oe6 hn hoc6)) (λ f s8 h8=>?_) (λ _ _ z=>z.elim)
  cases f with
  | next =>
   obtain⟨σ8,H8,I8,q8⟩:=h8
   refine BS (X:=X.held a oe6) I8 hN hi hl λ s9 I9=>⟨_,_,(I9.unheld I.ok.hd).track (a:=a) (o:=XO cls a) (J.gone dx ne).1 ?_ neL (λ x c e z=>?_) (λ p hp z=>?_) ⟨⟨oe6,I9.heldAt,hoc6⟩,⟨oe6,I9.heldAt⟩,λ h1 h2 ⟨o,y1,y2⟩ k=>⟨o,k o y1,y2⟩⟩,q8⟩
   ·exact (I9.pin (a,oe6) (List.mem_append_left _ List.mem_cons_self)).2.1
   ·subst z
    obtain⟨v,o,y1,y2⟩:=I9.cell x c e
    have y3:=(I9.pin (c,oe6) (List.mem_append_left _ List.mem_cons_self)).2.2.2.2 v
    have y4:s9.heap.get? c=some oe6:=I9.heldAt
    rw[y4] at y1
    cases y1
    exact y3 y2
   ·have y:=(J.pin p hp).1
    rw[z,ne] at y
    cases y
  | brk =>
   obtain⟨σ8,H8,I8,q8⟩:=h8
   exact BS (X:=X.held a oe6) I8 hN hi hl λ s9 I9=>⟨_,_,I9.unheld I.ok.hd,q8⟩
  | cont =>
   obtain⟨σ8,H8,I8,q8⟩:=h8
   exact BS (X:=X.held a oe6) I8 hN hi hl λ s9 I9=>⟨_,_,I9.unheld I.ok.hd,q8⟩
  | ret u =>
   obtain⟨v8,σ8,H8,I8,r8,q8⟩:=h8
   exact BS (X:=X.held a oe6) I8 hN hi hl λ s9 I9=>⟨_,_,_,I9.unheld I.ok.hd,r8,q8⟩
 refine wpAny_Try_except (wpAny_mono (hb _ pins _ pass [] s σ H D I.tried h) (λ f s1 hf=>?_) λ e s1 he=>he)
 cases f with
 | next =>
  obtain⟨σ',H',J,q⟩:=hf
  exact wpAny_execs_nil ⟨σ',H',J.untried,q⟩
 | brk =>
  obtain⟨σ',H',J,q⟩:=hf
  exact⟨σ',H',J.untried,q⟩
 | cont =>
  obtain⟨σ',H',J,q⟩:=hf
  exact⟨σ',H',J.untried,q⟩
 | ret u =>
  obtain⟨v,σ',H',J,r,q⟩:=hf
  exact⟨v,σ',H',J.untried,r,q⟩
section
open PySem.W
variable {X:Cx}
theorem Inv.xo {pins:List (Addr×Obj)}{σ:St}{H:Hp}{s:Shared}{e:Addr}{cls:Value} (I:Inv X pins σ H s) (h:H e=some (XO cls e)):∃ oe,s.heap.get? e=some oe/\oe.cls=cls:=(show bx X.prog X.w H s.heap e (XO cls e) from I.hok e _ h).1
theorem bZ:dJ X (.builtin "isinstance") (λ xs H Q=>∃ (e C D:Addr) (b:Bool),xs = [.ref e,.ref D]/\H e=some (XO (.ref C) e)/\lC X.K C/\kitOne X.K (.ref C) (.ref D)=some b/\Q (.bl b) H):=by
 intro pins s σ H xs us Q I r h
 obtain⟨e,C,D,b,rfl,hc,x,k,q⟩:=h
 obtain⟨u,w',rfl,r1,r2⟩:=oB r
 cases r1
 cases r2
 exact kia_one (pD x) I.kIn (I.xo hc) k (λ z=>nomatch z) λ tk=>⟨.bl b,H,I.tok _,rfl,q⟩
theorem lQ:dJ X (.builtin "isinstance") (λ xs H Q=>∃ (e C:Addr) (T:String) (b:Bool),xs = [.ref e,.ty T]/\H e=some (XO (.ref C) e)/\lC X.K C/\kitOne X.K (.ref C) (.type T)=some b/\Q (.bl b) H):=by
 intro pins s σ H xs us Q I r h
 obtain⟨e,C,T,b,rfl,hc,x,k,q⟩:=h
 obtain⟨u,w',rfl,r1,r2⟩:=oB r
 cases r1
 cases r2
 exact kia_one (pD x) I.kIn (I.xo hc) k (λ z=>nomatch z) λ tk=>⟨.bl b,H,I.tok _,rfl,q⟩
end
theorem rX {K:PySem.W.Frag}{a:Addr}{xs:List V}{te:TE}{st:St}{H1:Hp}{Q:VK}{D:Addr} (R:Nat->List V->Hp->Prop) (hD:H1 D=none) (q1:SqT K H1 a xs) (hn:xs.length<=sizeLine) (h0:R 0 [] (upd H1 D (.lst [])))
  (hs:∀ (i:Nat) (x:V) (ys:List V) (H2:Hp) (k:VK),xs[i]? = some x->aA H1 H2->H2 D=some (.lst ys)->ys.length=i->R i ys H2->(∀ y H4,aA H2 H4->R (i+1) (ys++[y]) (upd H4 D (.lst (ys++[y])))->k y H4)->te (some x::st) H2 k)
  (hd:∀ ys H2,aA H1 H2->H2 D=some (.lst ys)->ys.length=xs.length->R xs.length ys H2->Q (.ref D) H2):fq (Itt K a) (cC 0) j0 te 1 st D H1 Q:=by
 refine⟨λ i m ys H2=>m=xs.length-i/\i<=xs.length/\ys.length=i/\aA H1 H2/\H2 D=some (.lst ys)/\R i ys H2,⟨xs.length,by simp,Nat.zero_le _,rfl,bb (aA.refl H1) hD,ai,h0⟩,?_⟩
 rintro i m ys H2 ⟨rfl,hi,hl,sm,e,r⟩
 by_cases hlt:i<xs.length
 ·have ex:xs[i]? = some xs[i]:=List.getElem?_eq_getElem hlt
  refine .inr ⟨⟨xs,_,sm.tup q1,ex⟩,?_⟩
  rintro x H3 σ0 ⟨rfl,hx⟩ l0
  have hx':=hx xs (sm.tup q1)
  obtain⟨a',rfl⟩:∃ a,σ0 = [a]:=by
   match σ0,l0 with
   | [a],_=>exact⟨a,rfl⟩
  refine⟨⟨[some x],rfl,rfl⟩,?_⟩
  exact hs i x ys _ _ hx' sm e hl r λ y H4 s4 r4=>⟨s4 _ _ e,by omega,xs.length-(i+1),by omega,rfl,hlt,by simp [hl],bb (sm.trans s4) hD,ai,r4⟩
 ·have ei:i=xs.length:=by omega
  subst ei
  exact .inl ⟨⟨xs,sm.tup q1,Nat.le_refl _⟩,hd ys H2 sm e hl r⟩
abbrev hJ (H:Hp) (a:Addr) (xs:List V):Prop:=H a=some (.lst xs)∨H a=some (.tup xs)
theorem hJ.keep {H H':Hp}{a:Addr}{xs:List V} (h:hJ H a xs) (s:aA H H'):hJ H' a xs:=h.imp (s _ _) (s _ _)
theorem hJ.ix {K:PySem.W.Frag}{H:Hp}{a:Addr}{xs:List V}{i:Int}{v:V}{Q:VK} (h:hJ H a xs) (e:atI xs i=some v) (q:Q v H):rIx K (.ref a) (.int i) H Q:=by
 rcases h with h | h
 ·exact .inl ⟨a,xs,i,v,rfl,rfl,SqL.of h,e,q⟩
 ·exact .inr (.inl ⟨a,xs,i,v,rfl,rfl,SqT.of h,e,q⟩)
theorem w4 {K:PySem.W.Frag}{a:Addr}{xs:List V}{te:TE}{st:St}{H1:Hp}{Q:VK} (hq:hJ H1 a xs) (hn:xs.length<=sizeLine) (R:Addr->Nat->List V->Hp->Prop)
  (h0:∀ D,H1 D=none->R D 0 [] (upd H1 D (.lst [])))
  (hs:∀ (D:Addr) (i:Nat) (x:V) (ys:List V) (H2:Hp) (k:VK),H1 D=none->xs[i]? = some x->aA H1 H2->H2 D=some (.lst ys)->ys.length=i->R D i ys H2->(∀ y H4,aA H2 H4->R D (i+1) (ys++[y]) (upd H4 D (.lst (ys++[y])))->k y H4)->te (some x::st) H2 k)
  (hd:∀ D ys H2,H1 D=none->aA H1 H2->H2 D=some (.lst ys)->ys.length=xs.length->R D xs.length ys H2->Q (.ref D) H2) :
  (SqL K H1 a xs/\∀ D,H1 D=none->fq (Itl K a) (cC 0) j0 te 1 st D H1 Q)∨(SqT K H1 a xs/\∀ D,H1 D=none->fq (Itt K a) (cC 0) j0 te 1 st D H1 Q):=by
 rcases hq with h | h
 ·exact .inl ⟨SqL.of h,λ D hD=>jy (R D) hD (SqL.of h) hn (h0 D hD) (λ i x ys H2 k a1 a2 a3 a4 a5=>hs D i x ys H2 k hD a1 a2 a3 a4 a5) λ ys H2=>hd D ys H2 hD⟩
 ·exact .inr ⟨SqT.of h,λ D hD=>rX (R D) hD (SqT.of h) hn (h0 D hD) (λ i x ys H2 k a1 a2 a3 a4 a5=>hs D i x ys H2 k hD a1 a2 a3 a4 a5) λ ys H2=>hd D ys H2 hD⟩
end L2
namespace L2
open PySem PySem.Spec PyProof.Rows PySem.W Gc
section
variable {prog:Program}{w:World}{A:Around}{E:Value->Shared->Prop}{s:Shared}
theorem yH {T nw:String}{o x:Value}{more:List Value}{kw:List (Str×Value)} (hl:typeLookup (.type T) "__init__" = pure (some (.builtin "object.__init__")))
  (hm:Bind.madeBy (.type T)=pure (some nw)) (hn:(some nw != some "object.__new__")=true) :
  Meets (Builtin.«object.__init__» ⟨o::x::more,kw⟩) (λ _ R t=>t.TypeIs o T/\R (.ok (.ret .none)) t) :=
 Meets.of_wp λ prog w A R s ⟨ty,q⟩=>by
  repeat (any_goals (first | assumption | wp_step))
  exact⟨_,rfl,q⟩
theorem zK {T nw:String}{bn:Builtin}{x:Value}{more:List Value}{kw:List (Str×Value)}{S:PySem.Spec}{Q:Value->Shared->Prop} (ft:TypeCalled T nw "object.__init__")
  (hn:(some nw != some "object.__new__")=true) (c1:checkTypeCall T ⟨x::more,kw⟩=pure ()) (c2:checkBuiltinCall nw ⟨.type T::x::more,kw⟩=pure ())
  (c3:∀ o,argsOk "object.__init__" ⟨o::x::more,kw⟩) (en:entryFor table nw=some bn) (g:Meets (bn ⟨.type T::x::more,kw⟩) S)
  (h:S A.in1 (wants (λ o t=>t.TypeIs o T/\Q o t) E) s):wpAny (model prog w) A (call (.type T) (x::more) kw) Q E s:=by
 obtain⟨hd0,tl0,mro0⟩:=ft.mro
 have mk:=ft.made
 have sb:=ft.sub
 refine wpAny_call (codeAny_of_tree (show wpAny _ _ (callAny (.type T) _) _ _ _ from wpAny_pure ⟨Code.quiet_builtin _ (by decide +kernel),codeAny_builtin F.entry_type_call ?_⟩))
 rw[Around.under_plain (weight_type_call_type T (x::more) kw) (units_type_call_type T (x::more) kw)]
 have k1:=ft.notType
 have k2:=ft.canCreate
 repeat (any_goals (first | assumption | wp_step))
 refine codeAny_mono (codeAny_call_builtin ft.plain en (wpAny_of_eq c2 (g prog w A.in1 _ s h))) λ r t hr=>?_
 cases r with
 | error e=>exact hr
 | ok fl =>
  cases fl with
  | ret o =>
   obtain⟨ty,q⟩:=hr
   have z1:=ft.init.lookup
   have z2:=ft.init.bind o
   repeat (any_goals (first | assumption | wp_step))
   refine codeAny_mono (codeAny_call_builtin ft.init.plain F.entry_object_init (ft.init.check _ _ _ _ _ _ _ _ ty (c3 o) (yH (more:=more) (kw:=kw) (x:=x) z1 mk hn prog w A.in1 (wants (λ r t'=>r=.none/\Q o t') E) t ⟨ty,rfl,q⟩))) λ r2 t2 h2=>?_
   cases r2 with
   | error e=>exact h2
   | ok f2 =>
    cases f2 with
    | ret r =>
     obtain⟨rfl,q2⟩:=h2
     repeat (any_goals (first | assumption | wp_step))
    | _=>exact h2.elim
  | _=>exact hr.elim
end
theorem uC (a v:Value):checkTypeCall "enumerate" ⟨[a],[("start",v)]⟩=pure ():=by kernel_rfl
theorem vj (a v:Value):checkBuiltinCall "enumerate.__new__" ⟨[.type "enumerate",a],[("start",v)]⟩=pure ():=by kernel_rfl
theorem vZ (o a v:Value):argsOk "object.__init__" ⟨[o,a],[("start",v)]⟩:=by
 unfold argsOk
 rw[signature?_of (id:="object.__init__") (n:="__tini__".toList) (o:="tcejbo".toList) (by kernel_rfl) F.owner_object]
 kernel_rfl
def SIt (b:Bool) (h:Heap) (it t:Addr) (i:Nat):Prop:=match b with
 | true=>h.IsTupleIter it t i
 | false=>h.IsListIter it t i
def SqH (b:Bool) (h:Heap) (t:Addr) (xs:Array Value):Prop:=match b with
 | true=>h.IsTuple t xs
 | false=>h.IsList t xs
def SqB (b:Bool) (K:PySem.W.Frag) (H:Hp) (a:Addr) (xs:List V):Prop:=match b with
 | true=>SqT K H a xs
 | false=>SqL K H a xs
theorem SIt.typ {b:Bool}{h:Heap}{it t:Addr}{i:Nat} (x:SIt b h it t i):∃ o,h.get? it=some o/\∀ v,o.data≠.cell v:=by
 cases b with
 | true =>
  obtain⟨o,e1,_,e2⟩:=(show h.IsTupleIter it t i from x)
  exact⟨o,e1,λ v q=>by rw[e2] at q;cases q⟩
 | false =>
  obtain⟨o,e1,_,e2⟩:=(show h.IsListIter it t i from x)
  exact⟨o,e1,λ v q=>by rw[e2] at q;cases q⟩
theorem SIt.at {b:Bool}{h h':Heap}{it t:Addr}{i:Nat} (x:SIt b h it t i) (k:∀ o,h.get? it=some o->h'.get? it=some o):SIt b h' it t i:=by
 cases b with
 | true=>exact (show h.IsTupleIter it t i from x).at k
 | false =>
  obtain⟨o,e1,e2⟩:=(show h.IsListIter it t i from x)
  exact⟨o,k o e1,e2⟩
theorem Inv.seqB {X:Cx}{pins:List (Addr×Obj)}{σ:St}{H:Hp}{s:Shared}{b:Bool}{a:Addr}{xs:List V} (I:Inv X pins σ H s) (h:SqB b X.K H a xs):∃ its,bg xs its/\SqH b s.heap a its.toArray:=by
 cases b with
 | true =>
  obtain⟨its,rv,pl,hz⟩:=I.tuple h
  exact⟨its,rv,pl⟩
 | false =>
  obtain⟨its,rv,pl,hz⟩:=I.list h
  exact⟨its,rv,pl.isList⟩
theorem Inv.seqB_inj {X:Cx}{pins:List (Addr×Obj)}{σ:St}{H:Hp}{s:Shared}{b:Bool}{a:Addr}{xs ys:List V} (I:Inv X pins σ H s) (h:SqB b X.K H a xs) (h':SqB b X.K H a ys):xs=ys:=by
 cases b with
 | true=>exact I.tuple_inj h h'
 | false=>exact I.list_inj h h'
theorem SqB.keep {b:Bool}{K:PySem.W.Frag}{H H':Hp}{a:Addr}{xs:List V} (h:SqB b K H a xs) (s:aA H H'):SqB b K H' a xs:=by
 cases b with
 | true=>exact s.tup h
 | false=>exact s.seq h
section
variable {prog:Program}{w:World}{A:Around}{E:Value->Shared->Prop}{s:Shared}
theorem fu {b:Bool}{it t:Addr}{i:Nat}{xs:Array Value}{v:Value}{Q:Value->Shared->Prop} (hj:SIt b s.heap it t i) (ht:SqH b s.heap t xs) (hv:xs[i]? = some v)
  (k:∀ g,SIt b g it t (i+1)->Heap.SameBut it s.heap g->Q v {s with heap:=g}):wpAny (model prog w) A (Builtin.SmallTypes.nextOf (.ref it)) Q E s:=by
 cases b with
 | true=>exact qp hj ht hv k
 | false=>exact wpAny_nextOf_list_item hj ht hv k
theorem iO {b:Bool}{it t:Addr}{i:Nat}{xs:Array Value}{Q:Value->Shared->Prop} (hh:A.handled=none) (hj:SIt b s.heap it t i) (ht:SqH b s.heap t xs) (hv:xs[i]? = none)
  (k:∀ g e,Heap.ExtBut it s.heap g->(∃ o,g.get? e=some o/\o.cls=.type "StopIteration")->E (.ref e) {s with heap:=g}):wpAny (model prog w) A (Builtin.SmallTypes.nextOf (.ref it)) Q E s:=by
 cases b with
 | true=>exact uB hh hj ht hv k
 | false=>exact wpAny_nextOf_list_end hh hj ht hv k
noncomputable def iU (b:Bool) (a:Addr):Obj:=match b with
 | true=>{cls:=.type "tuple_iterator",data:=.fields #[.ref a,rawInt 0]}
 | false=>{cls:=.type "list_iterator",data:=.fields #[.ref a,.int 0 0]}
theorem iA {b:Bool}{a:Addr}{xs:Array Value}{Q:Value->Shared->Prop} (h:SqH b s.heap a xs) (k:Q (.ref s.heap.objs.size) {s with heap:=s.heap.push (iU b a)}):wpAny (model prog w) A (pyIter (.ref a)) Q E s:=by
 cases b with
 | true=>exact wpAny_pyIter_tuple h k
 | false=>exact wpAny_pyIter_list h k
theorem Fs (b:Bool) (a:Addr) (t:Tok) :
  Meets (Builtin.«enumerate.__new__» ⟨[.type "enumerate",.ref a],[("start",.int 1 t)]⟩) (λ _ R s=>(∃ xs,SqH b s.heap a xs) /\
   R (.ok (.ret (.ref (s.heap.push (iU b a)).objs.size))) {s with heap:=(s.heap.push (iU b a)).push {cls:=.type "enumerate",data:=.fields #[.none,.bool false,.ref s.heap.objs.size,rawInt 1,.none,.none]}}) :=
 .of_wp λ prog w A R s h=>by
  obtain⟨hp,g,dr,tk,os⟩:=s
  obtain⟨⟨xs,hx⟩,h⟩:=h
  have sub:=sub_enumerate
  wp_walk
  refine (wpAny_stack_any λ st=>wpAny_pure ?_)
  split
  ·rename_i c _ _ _ _ _
   cases (c == Value.type "enumerate")
   ·wp_walk using iA hx
    exact⟨_,rfl,h⟩
   ·wp_walk using iA hx
    exact⟨_,rfl,h⟩
  ·wp_walk using iA hx
   exact⟨_,rfl,h⟩
theorem B6 {b:Bool}{a:Addr}{t:Tok}{xs:Array Value}{Q:Value->Shared->Prop} (hT:SqH b s.heap a xs)
  (k:∀ g,IsEnum g (s.heap.objs.size+1) s.heap.objs.size 1 .none->SIt b g s.heap.objs.size a 0->(∀ c o,s.heap.get? c=some o->g.get? c=some o)->Q (.ref (s.heap.objs.size+1)) {s with heap:=g}) :
  wpAny (model prog w) A (call (.type "enumerate") [.ref a] [("start",.int 1 t)]) Q E s:=by
 refine zK F.called_enumerate (by decide) (uC _ _) (vj _ _) (λ o=>vZ o _ _) F.entry_enumerate_new (Fs b a t) ⟨⟨xs,hT⟩,?_⟩
 have z1:(s.heap.push (iU b a)).objs.size=s.heap.objs.size+1:=Heap.size_push ..
 have fr:Obj.isFreed (iU b a)=false:=by cases b<;>rfl
 have g2:((s.heap.push (iU b a)).push {cls:=.type "enumerate",data:=.fields #[.none,.bool false,.ref s.heap.objs.size,rawInt 1,.none,.none]}).get? (s.heap.push (iU b a)).objs.size=some _:=Heap.get?_push_size _ rfl
 have g1:((s.heap.push (iU b a)).push {cls:=.type "enumerate",data:=.fields #[.none,.bool false,.ref s.heap.objs.size,rawInt 1,.none,.none]}).get? s.heap.objs.size=some _:=Heap.get?_push_of_some _ (Heap.get?_push_size _ fr)
 show _/\_
 rw[z1] at g2 ⊢
 refine⟨⟨_,g2,rfl⟩,k _ g2 ?_ λ b o x=>Heap.get?_push_of_some _ (Heap.get?_push_of_some _ x)⟩
 cases b with
 | true=>exact⟨_,g1,rfl,rfl⟩
 | false=>exact⟨_,g1,rfl,rfl⟩
theorem B5 {b:Bool}{e it t:Addr}{i:Nat}{j:Int}{xs:Array Value}{v old:Value}{Q:Value->Shared->Prop} (he:IsEnum s.heap e it j old) (hi:SIt b s.heap it t i) (ht:SqH b s.heap t xs) (hv:xs[i]? = some v) (ne:e≠it)
  (k:∀ g,IsEnumOut g e it (j+1) v s.heap.objs.size->SIt b g it t (i+1)->g.get? s.heap.objs.size=some {cls:=.type "tuple",data:=.seq #[.int j s.toks,v]} ->
   (∀ b o,b≠e->b≠it->s.heap.get? b=some o->g.get? b=some o)->Q (.ref s.heap.objs.size) {s with heap:=g,toks:=s.toks+1}) :
  wpAny (model prog w) A (Builtin.«enumerate.__next__» ⟨[.ref e],[]⟩) (λ f s'=>∃ r,f=.done (.ret r)/\Q r s') E s:=by
 obtain⟨hp,gn,dr,tk,os⟩:=s
 show wpAny _ _ (field (.ref e) 2 >>= _) (_) _ _
 refine (wpAny_bind (wpAny_field he rfl (x:=.ref it) rfl ?_))
 refine (wpAny_bind (fu hi ht hv λ g1 i1 s1=>?_))
 replace s1:Heap.SameBut it hp g1:=s1
 have e1:IsEnum g1 e it j old:=(s1.2 e ne).trans he
 show wpAny _ _ (field (.ref e) 3 >>= _) (_) _ (⟨g1,gn,dr,tk,os⟩)
 refine (wpAny_bind (wpAny_field e1 rfl (x:=rawInt j) rfl ?_))
 show wpAny _ _ (field (.ref e) 4 >>= _) (_) _ (⟨g1,gn,dr,tk,os⟩)
 refine (wpAny_bind (wpAny_field e1 rfl (x:=.none) rfl ?_))
 show wpAny _ _ (mkInt j >>= _) (_) _ (⟨g1,gn,dr,tk,os⟩)
 refine (wpAny_bind (wpAny_mkInt ?_))
 show wpAny _ _ (setField (.ref e) 3 (rawInt (j+1)) >>= _) (_) _ (⟨g1,gn,dr,tk+1,os⟩)
 refine (wpAny_bind (wpAny_setField_rec e1 (by simp) λ g2 e2 s2=>?_))
 replace s2:Heap.SameBut e g1 g2:=s2
 replace e2:IsEnum g2 e it (j+1) old:=e2
 show wpAny _ _ (setField (.ref e) 4 .none >>= _) (_) _ (⟨g2,gn,dr,tk+1,os⟩)
 refine (wpAny_bind (wpAny_setField_rec e2 (by simp) λ g3 e3 s3=>?_))
 replace s3:Heap.SameBut e g2 g3:=s3
 replace e3:IsEnum g3 e it (j+1) old:=e3
 show wpAny _ _ (newTuple [.int j tk,v] >>= _) (_) _ (⟨g3,gn,dr,tk+1,os⟩)
 refine (wpAny_bind (wpAny_newTuple ?_))
 have e4:IsEnum (g3.push {cls:=.type "tuple",data:=.seq #[.int j tk,v]}) e it (j+1) old:=Heap.get?_push_of_some _ e3
 have z3:g3.objs.size=hp.objs.size:=by rw[s3.1,s2.1,s1.1]
 have t4:(g3.push {cls:=.type "tuple",data:=.seq #[.int j tk,v]}).get? g3.objs.size=some {cls:=.type "tuple",data:=.seq #[.int j tk,v]}:=Heap.get?_push_size _ rfl
 have k4:∀ b o,b≠e->b≠it->hp.get? b=some o->(g3.push {cls:=.type "tuple",data:=.seq #[.int j tk,v]}).get? b=some o:=λ b o be bi q =>
  Heap.get?_push_of_some _ (s3.extBut b o be (s2.extBut b o be (s1.extBut b o bi q)))
 have i4:SIt b (g3.push {cls:=.type "tuple",data:=.seq #[.int j tk,v]}) it t (i+1) :=
  i1.at λ o q=>Heap.get?_push_of_some _ (s3.extBut it o ne.symm (s2.extBut it o ne.symm q))
 rw[z3] at t4
 have lt:e<hp.objs.size:=Heap.lt_size he
 rw[z3]
 generalize g3.push {cls:=.type "tuple",data:=.seq #[.int j tk,v]}=g4 at *
 show wpAny _ _ (Builtin.SmallTypes.ownedTupleIsFree (.ref e) >>= _) (_) _ (⟨g4,gn,dr,tk+1,os⟩)
 refine (wpAny_bind ?_)
 unfold Builtin.SmallTypes.ownedTupleIsFree
 refine (wpAny_bind (wpAny_field e4 rfl (x:=.none) rfl (wpAny_pure ?_)))
 simp only[if_true]
 refine (wpAny_bind (wpAny_rule ?_))
 refine (wpAny_bind (wpAny_field e4 rfl (x:=old) rfl ?_))
 refine (wpAny_bind (wpAny_setField_rec e4 (by simp) λ g5 e5 s5=>?_))
 replace s5:Heap.SameBut e g4 g5:=s5
 replace e5:IsEnum g5 e it (j+1) v:=e5
 show wpAny _ _ (Builtin.SmallTypes.ownedTupleHandOut (.ref e) (.ref hp.objs.size) >>= _) (_) _ (⟨g5,gn,dr,tk+1,os⟩)
 refine (wpAny_bind ?_)
 unfold Builtin.SmallTypes.ownedTupleHandOut
 refine (wpAny_bind (wpAny_setField_rec e5 (by simp) λ g6 e6 s6=>?_))
 replace s6:Heap.SameBut e g5 g6:=s6
 replace e6:IsEnumOut g6 e it (j+1) v hp.objs.size:=e6
 refine wpAny_setField_rec e6 (by simp) λ g7 e7 s7=>?_
 replace s7:Heap.SameBut e g6 g7:=s7
 replace e7:IsEnumOut g7 e it (j+1) v hp.objs.size:=e7
 have up:∀ b o,b≠e->g4.get? b=some o->g7.get? b=some o:=λ b o nb q=>s7.extBut b o nb (s6.extBut b o nb (s5.extBut b o nb q))
 refine (wpAny_bind (wpAny_letGo (wpAny_pure ⟨_,rfl,k g7 e7 (i4.at λ o q=>up _ o ne.symm q) (up _ _ (Nat.ne_of_gt lt) t4) λ b o be bi q=>up b o be (k4 b o be bi q)⟩)))
theorem vL {b:Bool}{e it t:Addr}{i:Nat}{j:Int}{xs:Array Value}{v old:Value}{Q:Option Value->Shared->Prop} (he:IsEnum s.heap e it j old) (hi:SIt b s.heap it t i) (ht:SqH b s.heap t xs) (hv:xs[i]? = some v) (ne:e≠it)
  (k:∀ g,IsEnumOut g e it (j+1) v s.heap.objs.size->SIt b g it t (i+1)->g.get? s.heap.objs.size=some {cls:=.type "tuple",data:=.seq #[.int j s.toks,v]} ->
   (∀ b o,b≠e->b≠it->s.heap.get? b=some o->g.get? b=some o)->Q (some (.ref s.heap.objs.size)) {s with heap:=g,toks:=s.toks+1}):wpAny (model prog w) A (pyNext (.ref e)) Q E s:=by
 have ty:s.TypeIs (.ref e) "enumerate":=⟨_,he,rfl⟩
 unfold pyNext
 exact (wpAny_bind (wpAny_attempt (wpAny_callSpecial?_slot (name:=Str.ofString "__next__") ty F.slot_enumerate_next (wpAny_call_entry F.slot_enumerate_next ty F.entry_enumerate_next (B5 he hi ht hv ne λ g a1 a2 a3 a4=>wpAny_pure (k g a1 a2 a3 a4)) (F.args_enumerate_next_1 _)))))
theorem zB {b:Bool}{e it t:Addr}{i:Nat}{j:Int}{xs:Array Value}{old:Value}{Q:Option Value->Shared->Prop} (hh:A.handled=none) (he:IsEnum s.heap e it j old) (hi:SIt b s.heap it t i) (ht:SqH b s.heap t xs) (hv:xs[i]? = none)
  (k:∀ g,Heap.ExtBut it s.heap g->Q none {s with heap:=g}):wpAny (model prog w) A (pyNext (.ref e)) Q E s:=by
 have ty:s.TypeIs (.ref e) "enumerate":=⟨_,he,rfl⟩
 unfold pyNext
 refine (wpAny_bind (wpAny_attempt (wpAny_callSpecial?_slot (name:=Str.ofString "__next__") ty F.slot_enumerate_next (wpAny_call_entry F.slot_enumerate_next ty F.entry_enumerate_next ?_ (F.args_enumerate_next_1 _)))))
 show wpAny _ _ (field (.ref e) 2 >>= _) (_) _ _
 refine (wpAny_bind (wpAny_field he rfl (x:=.ref it) rfl ?_))
 refine (wpAny_bind (iO hh hi ht hv λ g x hk hs=>?_))
 obtain⟨o,ho,hc⟩:=hs
 refine (wpAny_bind (wpAny_isInstance (T:="StopIteration") (b:=true) ⟨o,ho,hc⟩ isSubtype_stop ?_))
 exact wpAny_pure (k _ hk)
end
def FI (b:Bool) (K:PySem.W.Frag) (t:Addr):It :=
 ⟨λ i H=>∃ xs x,SqB b K H t xs/\xs[i]? = some x,
  λ i H v H'=>∃ T x,H T=none/\H'=upd H T (.tup [.int ((i:Int)+1),x])/\v=.ref T/\∀ xs,SqB b K H t xs->xs[i]? = some x,
  λ i H=>∃ xs,SqB b K H t xs/\xs.length<=i⟩
def HH (b:Bool) (e it t:Addr) (i:Nat) (h:Heap):Prop:=(∃ old,IsEnum h e it ((i:Int)+1) old)/\SIt b h it t i
theorem qo {P:Program}{w:World}{K:PySem.W.Frag}{es:List Expr}{k0:Nat}{p0:Pos}{b:Bool}{e it t:Addr} (ne:e≠it):qg P w K (.Tuple es k0 p0) (FI b K t) [e,it] e (HH b e it t) where
 mem:=by simp
 obj:=λ i h ⟨⟨old,a⟩,d⟩ x hx=>by
  simp only[List.mem_cons,List.not_mem_nil,or_false] at hx
  rcases hx with rfl | rfl
  ·exact⟨_,a,λ v q=>by cases q⟩
  ·exact d.typ
 keep:=λ i h h' ⟨⟨old,a⟩,d⟩ kk=>⟨⟨old,kk _ (by simp) _ a⟩,d.at λ o q=>kk _ (by simp) o q⟩
 item:=by
  intro X hP hw hK hc i pins s σ H E I hf st hg
  subst hP hw hK
  obtain⟨⟨old,a⟩,d⟩:=st
  obtain⟨xs,x,q1,x1⟩:=hg
  obtain⟨its,rv,pl⟩:=I.seqB q1
  obtain⟨u,hu,ru⟩:=rv.get x1
  refine vL a d pl (v:=u) (by simpa using hu) ne λ h' za zc zt zk=>?_
  refine⟨_,rfl,wpAny_letOwnedTupleGo_enum (s:={s with heap:=h',toks:=s.toks+1}) za λ h2 za2 sb=>?_⟩
  have kk:∀ b o,b ∉ [e,it]->s.heap.get? b=some o->h2.get? b=some o:=λ b o hb q=>by
   simp only[List.mem_cons,List.not_mem_nil,or_false,not_or] at hb
   exact (sb.2 b hb.1).trans (zk b o hb.1 hb.2 q)
  have sze:s.heap.objs.size≠e:=λ q=>absurd (Heap.lt_size a) (by rw[<-q];exact Nat.lt_irrefl _)
  have hT:h2.get? s.heap.objs.size=some {cls:=.type "tuple",data:=.seq #[.int ((i:Int)+1) s.toks,u]}:=(sb.2 _ sze).trans zt
  have fr:H s.heap.objs.size=none:=I.hok.fresh (Nat.le_refl _)
  have I2:Inv X pins σ (upd H s.heap.objs.size (.tup [.int ((i:Int)+1),x])) {s with heap:=h2,toks:=s.toks+1}:=I.turnLay (t':=s.toks+1) (fp:=[e,it]) kk hf (Nat.le_refl _)
   ⟨by show 2<=sizeLine;decide,[.int ((i:Int)+1) s.toks,u],.cons ⟨_,rfl⟩ (.cons ru .nil),⟨_,hT,rfl,_,rfl⟩⟩
  refine⟨.ref s.heap.objs.size,_,I2,rfl,⟨_,x,fr,rfl,rfl,λ zs hz=>by rw[I.seqB_inj hz q1];exact x1⟩,⟨⟨_,za2⟩,zc.at λ o q=>(sb.2 _ ne.symm).trans q⟩,λ b hb=>?_⟩
  have h0:=(hf b hb).1
  have hlt:b≠s.heap.objs.size:=λ q=>by
   subst q
   simp only[List.mem_cons,List.not_mem_nil,or_false] at hb
   rcases hb with q | q
   ·exact sze q
   ·obtain⟨o,e1,_⟩:=d.typ
    exact absurd (Heap.lt_size e1) (by rw[<-q];exact Nat.lt_irrefl _)
  rw[aM hlt]
  exact h0
 done:=by
  intro X hP hw hK hc i pins s σ H E I hf st hg
  subst hP hw hK
  obtain⟨⟨old,a⟩,d⟩:=st
  obtain⟨xs,q1,hl⟩:=hg
  obtain⟨its,rv,pl⟩:=I.seqB q1
  have g1:=rv.length
  refine zB (I.ok.hd hc) a d pl (by simp;omega) λ h' zk=>⟨rfl,I.turnedL (t':=s.toks) (fp:=[e,it]) (λ b o hb q=>?_) hf⟩
  simp only[List.mem_cons,List.not_mem_nil,or_false,not_or] at hb
  exact zk b o hb.2 q
 self:=λ _ _ _ _ _ st h=>by
  obtain⟨⟨old,a⟩,_⟩:=st
  exact wpAny_pyIter_enum a h
def Fo (K:PySem.W.Frag) (ta:TA) (tk:TE):TI:=λ σ H R=>ta σ H λ vs H1=>tk σ H1 λ y H2=>∃ a b,vs = [.ref a]/\y=.int 1/\(∃ xs,SqB b K H2 a xs)/\R (FI b K a) H2
theorem rT {M:Model}{A:Around}{E:Value->Shared->Prop}{s:Shared}{env:Env}{pos kp:Pos}{T:String}{x:Expr}{name:Str}{ke:Expr}{Q:Value->Shared->Prop}
  (h:wpAny M A (spliced (backTo pos (starEach [x] env))) (λ vs s1=>wpAny M A (eval ke env) (λ v s2=>wpAny M A (call (.type T) vs [(name,v)]) Q E s2) E s1) E s)
  (hs:starEach [x] env=(false,eval x env)::starEach [] env) :
  wpAny M A (callWith pos (.type T) [] (backTo pos (starEach [x] env)) (backToKw pos (keywordEach [⟨some name,ke,kp⟩] env))) Q E s:=by
 rw[hs] at h ⊢
 unfold callWith
 refine wpAny_bind (wpAny_holding (thn (evalArgs_kwB (x:=eval x env) (rest:=[]) (Q:=λ a s2=>wpAny M A (call (.type T) ([]++a.pos) a.kw) Q E s2) rfl (thn h λ vs s1 h1=>kws_cons (thn h1 λ v s2 h2=>kws_nil h2))) λ a s1 h1=>wpAny_bind (wpAny_standAt ?_)))
 refine wpAny_bind (wpAny_pure ?_)
 exact wpAny_bind (thn h1 λ r s2 hr=>wpAny_bind (wpAny_holding (wpAny_point (wpAny_pure hr))))
theorem yj {X:Cx}{es:List Expr}{k0:Nat}{p0:Pos}{a ke:Expr}{ta:TA}{tk:TE}{p pos kp:Pos} (hg:Gl X "enumerate") (hm:X.mg "enumerate" = none) (ha:PA X [a] ta) (hk:PE X ke tk) (hs:starEach [a] X.env=(false,eval a X.env)::starEach [] X.env:=by rfl) :
  PI X (.Tuple es k0 p0) (.Call (.Name "enumerate" p) [a] [⟨some "start",ke,kp⟩] pos) (Fo X.K ta tk):=by
 intro pins s σ H R I h
 refine wpAny_bind (fU I hg hm boot_enumerate (rT (thn (ha pos pins s σ H _ I h) λ us s0 ⟨vs,H0,I0,r1,q0⟩=>thn (hk pins s0 σ H0 _ I0 q0) λ v s1 ⟨y,H1,I1,ry,q1⟩=>?_) hs))
 obtain⟨l1,b,e,ey,⟨xs,q1⟩,q⟩:=q1
 subst e
 subst ey
 obtain⟨tok,rfl⟩:=ry
 cases r1 with
 | cons r rr =>
  cases rr
  cases r
  obtain⟨its,rv,pl⟩:=I1.seqB q1
  refine B6 pl λ h' za zb zk=>?_
  refine wpAny_pyIter_enum (s:={s1 with heap:=h'}) za ?_
  have I2:Inv X pins σ H1 {s1 with heap:=h'}:=I1.kept (t':=s1.toks) λ b o e=>zk b o e
  refine⟨_,[_,_],_,_,H1,rfl,I2,qo (e:=s1.heap.objs.size+1) (it:=s1.heap.objs.size) (t:=l1) (Nat.succ_ne_self _),⟨⟨_,za⟩,zb⟩,λ b hb=>?_,q⟩
  simp only[List.mem_cons,List.not_mem_nil,or_false] at hb
  have ge:s1.heap.objs.size<=b:=by rcases hb with z | z<;>(subst z;first | exact Nat.le_add_right _ _ | exact Nat.le_refl _)
  exact I1.fpOk ge (I1.hok.fresh ge)
theorem p9 {b:Bool}{K:PySem.W.Frag}{a:Addr}{xs:List V}{te:TE}{st:St}{H1:Hp}{Q:VK}{D:Addr} (R:Nat->List V->Hp->Prop) (hD:H1 D=none) (q1:SqB b K H1 a xs) (hn:xs.length<=sizeLine) (h0:R 0 [] (upd H1 D (.lst [])))
  (hs:∀ (i:Nat) (x:V) (ys:List V) (H2:Hp) (k:VK),xs[i]? = some x->aA H1 H2->H2 D=some (.lst ys)->ys.length=i->R i ys H2->(∀ y H4,aA H2 H4->R (i+1) (ys++[y]) (upd H4 D (.lst (ys++[y])))->k y H4)->∀ T,H2 T=none->te (some (.int ((i:Int)+1))::some x::st) (upd H2 T (.tup [.int ((i:Int)+1),x])) k)
  (hd:∀ ys H2,aA H1 H2->H2 D=some (.lst ys)->ys.length=xs.length->R xs.length ys H2->Q (.ref D) H2):fq (FI b K a) (pO K 2 (fe (cC 0) (fe (cC 1) rO))) j0 te 2 st D H1 Q:=by
 refine⟨λ i m ys H2=>m=xs.length-i/\i<=xs.length/\ys.length=i/\aA H1 H2/\H2 D=some (.lst ys)/\R i ys H2,⟨xs.length,by simp,Nat.zero_le _,rfl,bb (aA.refl H1) hD,ai,h0⟩,?_⟩
 rintro i m ys H2 ⟨rfl,hi,hl,sm,e,r⟩
 by_cases hlt:i<xs.length
 ·have ex:xs[i]? = some xs[i]:=List.getElem?_eq_getElem hlt
  refine .inr ⟨⟨xs,_,q1.keep sm,ex⟩,?_⟩
  rintro x H3 σ0 ⟨T,y,hT,rfl,rfl,hx⟩ l0
  have hy:=hx xs (q1.keep sm)
  obtain⟨a',b',rfl⟩:∃ a b,σ0 = [a,b]:=by
   match σ0,l0 with
   | [a,b],_=>exact⟨a,b,rfl⟩
  have sT:=aw hT (.tup [.int ((i:Int)+1),y])
  refine⟨T,[.int ((i:Int)+1),y],rfl,SqT.of ai,rfl,.int ((i:Int)+1),[y],rfl,y,[],rfl,rfl,⟨[some (.int ((i:Int)+1)),some y],rfl,rfl⟩,?_⟩
  exact hs i y ys H2 _ hy sm e hl r (λ z H4 s4 r4=>⟨s4 _ _ e,by omega,xs.length-(i+1),by omega,rfl,hlt,by simp [hl],bb (sm.trans s4) hD,ai,r4⟩) T hT
 ·have ei:i=xs.length:=by omega
  subst ei
  exact .inl ⟨⟨xs,q1.keep sm,Nat.le_refl _⟩,hd ys H2 sm e hl r⟩
end L2
namespace L2
open PySem PySem.Spec PyProof.Rows Gc
theorem SIt.extBut {b:Bool}{h h':Heap}{it t:Addr}{i:Nat}{c:Addr} (x:SIt b h it t i) (k:Heap.ExtBut c h h') (ne:it≠c):SIt b h' it t i:=x.at λ o q=>k it o ne q
theorem SqH.at' {b:Bool}{h h':Heap}{t:Addr}{xs:Array Value} (x:SqH b h t xs) (k:∀ o,h.get? t=some o->h'.get? t=some o):SqH b h' t xs:=by
 cases b with
 | true =>
  obtain⟨o,e1,e2⟩:=(show h.IsTuple t xs from x)
  exact⟨o,k o e1,e2⟩
 | false =>
  obtain⟨o,e1,e2⟩:=(show h.IsList t xs from x)
  exact⟨o,k o e1,e2⟩
theorem SqH.extBut {b:Bool}{h h':Heap}{t:Addr}{xs:Array Value}{c:Addr} (x:SqH b h t xs) (k:Heap.ExtBut c h h') (ne:t≠c):SqH b h' t xs:=x.at' λ o q=>k t o ne q
theorem SqH.push {b:Bool}{h:Heap}{t:Addr}{xs:Array Value} (x:SqH b h t xs) (o:Obj):SqH b (h.push o) t xs:=x.at' λ _ q=>Heap.get?_push_of_some _ q
theorem SqH.lt {b:Bool}{h:Heap}{t:Addr}{xs:Array Value} (x:SqH b h t xs):t<h.objs.size:=by
 cases b with
 | true =>
  obtain⟨o,e1,e2⟩:=(show h.IsTuple t xs from x)
  exact Heap.lt_size e1
 | false =>
  obtain⟨o,e1,e2⟩:=(show h.IsList t xs from x)
  exact Heap.lt_size e1
theorem tH {b:Bool}{a:Addr}:Obj.isFreed (iU b a)=false:=by cases b<;>rfl
theorem SIt.new {b:Bool}{h:Heap}{it a:Addr} (e:h.get? it=some (iU b a)):SIt b h it a 0:=by
 cases b with
 | true=>exact⟨_,e,rfl,rfl⟩
 | false=>exact⟨_,e,rfl,rfl⟩
section
variable {prog:Program}{w:World}{A:Around}{E:Value->Shared->Prop}{s:Shared}
theorem v9 {b1 b2:Bool}{z TI TO j1 j2 t1 t2:Addr}{k1 k2:Nat}{xs ys:Array Value}{u v c d:Value}{Q:Value->Shared->Prop} (ap:ZipApart z TI TO j1 j2 t1 t2) (hz:IsZip s.heap z TI TO .none) (hI:IsPair s.heap TI (.ref j1) (.ref j2)) (hO:IsPair s.heap TO c d)
  (i1:SIt b1 s.heap j1 t1 k1) (i2:SIt b2 s.heap j2 t2 k2) (q1:SqH b1 s.heap t1 xs) (q2:SqH b2 s.heap t2 ys) (hu:xs[k1]? = some u) (hv:ys[k2]? = some v)
  (k:∀ g,IsZip g z TI TO (rawInt s.heap.objs.size)->IsPair g TO u v->SIt b1 g j1 t1 (k1+1)->SIt b2 g j2 t2 (k2+1)->IsPair g s.heap.objs.size u v->g.objs.size=s.heap.objs.size+1 ->
   (∀ b o,b≠z->b≠TO->b≠j1->b≠j2->s.heap.get? b=some o->g.get? b=some o)->Q (.ref s.heap.objs.size) {s with heap:=g}) :
  wpAny (model prog w) A (Builtin.«zip.__next__» ⟨[.ref z],[]⟩) (λ f s'=>∃ r,f=.done (.ret r)/\Q r s') E s:=by
 show wpAny _ _ (field (.ref z) 2 >>= _) (_) _ _
 refine (wpAny_bind (wpAny_field hz rfl (x:=.bool false) rfl ?_))
 show wpAny _ _ (field (.ref z) 3 >>= _) (_) _ _
 refine (wpAny_bind (wpAny_field hz rfl (x:=.ref TI) rfl ?_))
 refine (wpAny_bind (wpAny_seqItems hI rfl ?_))
 show wpAny _ _ (Builtin.SmallTypes.ownedTupleIsFree (.ref z) >>= _) (_) _ _
 refine (wpAny_bind ?_)
 unfold Builtin.SmallTypes.ownedTupleIsFree
 refine (wpAny_bind (wpAny_field hz rfl (x:=.none) rfl (wpAny_pure ?_)))
 simp only[if_true]
 refine (wpAny_bind (wpAny_rule ?_))
 refine (wpAny_bind (wpAny_field hz rfl (x:=.ref TO) rfl ?_))
 refine (wpAny_bind (wpAny_setField_rec hz (by simp) λ g1 z1 s1=>?_))
 replace z1:IsZip g1 z TI TO .ellipsis:=z1
 refine (wpAny_bind ?_)
 simp only[List.zipIdx_cons,List.zipIdx_nil,List.forIn_cons,List.forIn_nil,id]
 refine (wpAny_bind (wpAny_bind (wpAny_onRaise ?_)))
 show wpAny _ _ (Builtin.SmallTypes.nextOf (.ref j1) >>= _) (_) _ _
 refine (wpAny_bind (fu (i1.extBut s1.extBut ap.i1z) (q1.extBut s1.extBut ap.l1z) hu λ g2 n1 s2=>wpAny_pure ?_))
 have O2:IsPair g2 TO c d:=s2.extBut _ _ ap.TOi1 (s1.extBut _ _ ap.TOz hO)
 refine (wpAny_bind (wpAny_seqItems O2 rfl ?_))
 refine (wpAny_bind (wpAny_updateSeq_pair O2 λ g3 O3 s3=>?_))
 replace O3:IsPair g3 TO u d:=O3
 refine (wpAny_bind (wpAny_letGo (wpAny_pure ?_)))
 refine (wpAny_bind (wpAny_bind (wpAny_onRaise ?_)))
 show wpAny _ _ (Builtin.SmallTypes.nextOf (.ref j2) >>= _) (_) _ _
 refine (wpAny_bind (fu (((i2.extBut s1.extBut ap.i2z).extBut s2.extBut ap.i12.symm).extBut s3.extBut ap.TOi2.symm) (((q2.extBut s1.extBut ap.l2z).extBut s2.extBut ap.l2i1).extBut s3.extBut ap.l2TO) hv λ g4 n2 s4=>wpAny_pure ?_))
 have O4:IsPair g4 TO u d:=s4.extBut _ _ ap.TOi2 O3
 refine (wpAny_bind (wpAny_seqItems O4 rfl ?_))
 refine (wpAny_bind (wpAny_updateSeq_pair O4 λ g5 O5 s5=>?_))
 replace O5:IsPair g5 TO u v:=O5
 refine (wpAny_bind (wpAny_letGo (wpAny_pure (wpAny_pure ?_))))
 refine (wpAny_bind (wpAny_seqItems O5 rfl ?_))
 refine (wpAny_bind (wpAny_newTuple ?_))
 have sz:g5.objs.size=s.heap.objs.size:=by rw[s5.1,s4.1,s3.1,s2.1,s1.1]
 have Z5:IsZip g5 z TI TO .ellipsis:=s5.extBut _ _ ap.TOz.symm (s4.extBut _ _ ap.i2z.symm (s3.extBut _ _ ap.TOz.symm (s2.extBut _ _ ap.i1z.symm z1)))
 have K5:∀ b o,b≠z->b≠TO->b≠j1->b≠j2->s.heap.get? b=some o->g5.get? b=some o:=λ b o b1 b2 b3 b4 e=>s5.extBut _ _ b2 (s4.extBut _ _ b4 (s3.extBut _ _ b2 (s2.extBut _ _ b3 (s1.extBut _ _ b1 e))))
 have I1:SIt b1 g5 j1 t1 (k1+1):=((n1.extBut s3.extBut ap.TOi1.symm).extBut s4.extBut ap.i12).extBut s5.extBut ap.TOi1.symm
 have I2:SIt b2 g5 j2 t2 (k2+1):=n2.extBut s5.extBut ap.TOi2.symm
 have zlt:z<g5.objs.size:=Heap.lt_size Z5
 show wpAny _ _ (Builtin.SmallTypes.ownedTupleHandOut (.ref z) (.ref g5.objs.size) >>= _) (_) _ _
 refine (wpAny_bind ?_)
 unfold Builtin.SmallTypes.ownedTupleHandOut
 have Z6:IsZip (g5.push {cls:=.type "tuple",data:=.seq #[u,v]}) z TI TO .ellipsis:=Heap.get?_push_of_some _ Z5
 refine (wpAny_bind (wpAny_setField_rec Z6 (by simp) λ g7 Z7 s7=>?_))
 replace Z7:IsZip g7 z TI TO (rawInt g5.objs.size):=Z7
 refine wpAny_setField_rec Z7 (by simp) λ g8 Z8 s8=>?_
 replace Z8:IsZip g8 z TI TO (rawInt g5.objs.size):=Z8
 have up:∀ b o,b≠z->g5.get? b=some o->g8.get? b=some o:=λ b o nb e=>s8.extBut _ _ nb (s7.extBut _ _ nb (Heap.get?_push_of_some _ e))
 have T8:IsPair g8 g5.objs.size u v:=s8.extBut _ _ (Nat.ne_of_gt zlt) (s7.extBut _ _ (Nat.ne_of_gt zlt) (Heap.get?_push_size _ rfl))
 have N8:g8.objs.size=g5.objs.size+1:=by rw[s8.1,s7.1,Heap.size_push]
 rw[sz] at Z8 T8 N8
 refine wpAny_pure ⟨_,rfl,?_⟩
 show Q (.ref g5.objs.size) _
 rw[sz]
 exact k g8 Z8 (up _ _ ap.TOz O5) (I1.at λ o e=>up _ o ap.i1z e) (I2.at λ o e=>up _ o ap.i2z e) T8 N8 λ b o b1 b2 b3 b4 e=>up b o b1 (K5 b o b1 b2 b3 b4 e)
theorem Ac {b1 b2:Bool}{z TI TO j1 j2 t1 t2:Addr}{k1 k2:Nat}{xs ys:Array Value}{c d:Value}{Q:Fin->Shared->Prop} (hh:A.handled=none) (ap:ZipApart z TI TO j1 j2 t1 t2) (hz:IsZip s.heap z TI TO .none) (hI:IsPair s.heap TI (.ref j1) (.ref j2)) (hO:IsPair s.heap TO c d)
  (i1:SIt b1 s.heap j1 t1 k1) (i2:SIt b2 s.heap j2 t2 k2) (q1:SqH b1 s.heap t1 xs) (q2:SqH b2 s.heap t2 ys) (he:xs[k1]? = none∨ys[k2]? = none)
  (k:∀ g e,(∀ b o,b≠z->b≠TO->b≠j1->b≠j2->s.heap.get? b=some o->g.get? b=some o)->(∃ o,g.get? e=some o/\o.cls=.type "StopIteration")->E (.ref e) {s with heap:=g}) :
  wpAny (model prog w) A (Builtin.«zip.__next__» ⟨[.ref z],[]⟩) Q E s:=by
 show wpAny _ _ (field (.ref z) 2 >>= _) (_) _ _
 refine (wpAny_bind (wpAny_field hz rfl (x:=.bool false) rfl ?_))
 show wpAny _ _ (field (.ref z) 3 >>= _) (_) _ _
 refine (wpAny_bind (wpAny_field hz rfl (x:=.ref TI) rfl ?_))
 refine (wpAny_bind (wpAny_seqItems hI rfl ?_))
 show wpAny _ _ (Builtin.SmallTypes.ownedTupleIsFree (.ref z) >>= _) (_) _ _
 refine (wpAny_bind ?_)
 unfold Builtin.SmallTypes.ownedTupleIsFree
 refine (wpAny_bind (wpAny_field hz rfl (x:=.none) rfl (wpAny_pure ?_)))
 simp only[if_true]
 refine (wpAny_bind (wpAny_rule ?_))
 refine (wpAny_bind (wpAny_field hz rfl (x:=.ref TO) rfl ?_))
 refine (wpAny_bind (wpAny_setField_rec hz (by simp) λ g1 z1 s1=>?_))
 replace z1:IsZip g1 z TI TO .ellipsis:=z1
 refine (wpAny_bind ?_)
 simp only[List.zipIdx_cons,List.zipIdx_nil,List.forIn_cons,List.forIn_nil,id]
 refine (wpAny_bind (wpAny_bind (wpAny_onRaise ?_)))
 show wpAny _ _ (Builtin.SmallTypes.nextOf (.ref j1) >>= _) (_) _ _
 cases hu:xs[k1]? with
 | none =>
  refine (wpAny_bind (iO hh (i1.extBut s1.extBut ap.i1z) (q1.extBut s1.extBut ap.l1z) hu λ g2 e s2 he=>?_))
  obtain⟨oe,ho,hc⟩:=he
  have Z2:IsZip g2 z TI TO .ellipsis:=s2 _ _ ap.i1z.symm z1
  have nz:e≠z:=λ x=>by
   subst x
   rw[Z2] at ho
   cases ho
   simp at hc
  refine wpAny_setField_rec Z2 (by simp) λ g3 _ s3=>k g3 e (λ b o b1 _ b3 _ x=>s3.extBut _ _ b1 (s2 _ _ b3 (s1.extBut _ _ b1 x))) ⟨oe,s3.extBut _ _ nz ho,hc⟩
 | some u =>
  have hv:ys[k2]? = none:=by
   rcases he with q | q
   ·rw[hu] at q;cases q
   ·exact q
  refine (wpAny_bind (fu (i1.extBut s1.extBut ap.i1z) (q1.extBut s1.extBut ap.l1z) hu λ g2 n1 s2=>wpAny_pure ?_))
  have O2:IsPair g2 TO c d:=s2.extBut _ _ ap.TOi1 (s1.extBut _ _ ap.TOz hO)
  refine (wpAny_bind (wpAny_seqItems O2 rfl ?_))
  refine (wpAny_bind (wpAny_updateSeq_pair O2 λ g3 O3 s3=>?_))
  refine (wpAny_bind (wpAny_letGo (wpAny_pure ?_)))
  refine (wpAny_bind (wpAny_bind (wpAny_onRaise ?_)))
  show wpAny _ _ (Builtin.SmallTypes.nextOf (.ref j2) >>= _) (_) _ _
  refine (wpAny_bind (iO hh (((i2.extBut s1.extBut ap.i2z).extBut s2.extBut ap.i12.symm).extBut s3.extBut ap.TOi2.symm) (((q2.extBut s1.extBut ap.l2z).extBut s2.extBut ap.l2i1).extBut s3.extBut ap.l2TO) hv λ g4 e s4 he=>?_))
  obtain⟨oe,ho,hc⟩:=he
  have Z4:IsZip g4 z TI TO .ellipsis:=s4 _ _ ap.i2z.symm (s3.extBut _ _ ap.TOz.symm (s2.extBut _ _ ap.i1z.symm z1))
  have nz:e≠z:=λ x=>by
   subst x
   rw[Z4] at ho
   cases ho
   simp at hc
  refine wpAny_setField_rec Z4 (by simp) λ g5 _ s5=>k g5 e (λ b o b1 b2 b3 b4 x=>s5.extBut _ _ b1 (s4 _ _ b4 (s3.extBut _ _ b2 (s2.extBut _ _ b3 (s1.extBut _ _ b1 x))))) ⟨oe,s5.extBut _ _ nz ho,hc⟩
theorem qj {b1 b2:Bool}{z TI TO j1 j2 t1 t2:Addr}{k1 k2:Nat}{xs ys:Array Value}{u v c d:Value}{Q:Option Value->Shared->Prop} (ap:ZipApart z TI TO j1 j2 t1 t2) (hz:IsZip s.heap z TI TO .none) (hI:IsPair s.heap TI (.ref j1) (.ref j2)) (hO:IsPair s.heap TO c d)
  (i1:SIt b1 s.heap j1 t1 k1) (i2:SIt b2 s.heap j2 t2 k2) (q1:SqH b1 s.heap t1 xs) (q2:SqH b2 s.heap t2 ys) (hu:xs[k1]? = some u) (hv:ys[k2]? = some v)
  (k:∀ g,IsZip g z TI TO (rawInt s.heap.objs.size)->IsPair g TO u v->SIt b1 g j1 t1 (k1+1)->SIt b2 g j2 t2 (k2+1)->IsPair g s.heap.objs.size u v->g.objs.size=s.heap.objs.size+1 ->
   (∀ b o,b≠z->b≠TO->b≠j1->b≠j2->s.heap.get? b=some o->g.get? b=some o)->Q (some (.ref s.heap.objs.size)) {s with heap:=g}):wpAny (model prog w) A (pyNext (.ref z)) Q E s:=by
 have ty:s.TypeIs (.ref z) "zip":=⟨_,hz,rfl⟩
 unfold pyNext
 exact wpAny_bind (wpAny_attempt (wpAny_callSpecial?_slot (name:=Str.ofString "__next__") ty F.slot_zip_next (wpAny_call_entry F.slot_zip_next ty F.entry_zip_next (v9 ap hz hI hO i1 i2 q1 q2 hu hv λ g a1 a2 a3 a4 a5 a6 a7=>wpAny_pure (k g a1 a2 a3 a4 a5 a6 a7)) (F.args_zip_next_1 _))))
theorem uy {b1 b2:Bool}{z TI TO j1 j2 t1 t2:Addr}{k1 k2:Nat}{xs ys:Array Value}{c d:Value}{Q:Option Value->Shared->Prop} (hh:A.handled=none) (ap:ZipApart z TI TO j1 j2 t1 t2) (hz:IsZip s.heap z TI TO .none) (hI:IsPair s.heap TI (.ref j1) (.ref j2)) (hO:IsPair s.heap TO c d)
  (i1:SIt b1 s.heap j1 t1 k1) (i2:SIt b2 s.heap j2 t2 k2) (q1:SqH b1 s.heap t1 xs) (q2:SqH b2 s.heap t2 ys) (he:xs[k1]? = none∨ys[k2]? = none)
  (k:∀ g,(∀ b o,b≠z->b≠TO->b≠j1->b≠j2->s.heap.get? b=some o->g.get? b=some o)->Q none {s with heap:=g}):wpAny (model prog w) A (pyNext (.ref z)) Q E s:=by
 have ty:s.TypeIs (.ref z) "zip":=⟨_,hz,rfl⟩
 unfold pyNext
 refine (wpAny_bind (wpAny_attempt (wpAny_callSpecial?_slot (name:=Str.ofString "__next__") ty F.slot_zip_next (wpAny_call_entry F.slot_zip_next ty F.entry_zip_next (Ac hh ap hz hI hO i1 i2 q1 q2 he λ g e hk hs=>?_) (F.args_zip_next_1 _)))))
 obtain⟨o,ho,hc⟩:=hs
 refine (wpAny_bind (wpAny_isInstance (T:="StopIteration") (b:=true) ⟨o,ho,hc⟩ isSubtype_stop ?_))
 exact wpAny_pure (k _ hk)
abbrev zs1 (b1:Bool) (h:Heap) (a:Addr):Heap:=h.push (iU b1 a)
abbrev zs2 (b1 b2:Bool) (h:Heap) (a b:Addr):Heap:=(zs1 b1 h a).push (iU b2 b)
abbrev zs3 (b1 b2:Bool) (h:Heap) (a b:Addr):Heap:=(zs2 b1 b2 h a b).push {cls:=.type "tuple",data:=.seq #[.ref h.objs.size,.ref (zs1 b1 h a).objs.size]}
noncomputable abbrev zs4 (b1 b2:Bool) (h:Heap) (a b:Addr):Heap:=(zs3 b1 b2 h a b).push {cls:=.type "tuple",data:=.seq #[.none,.none]}
noncomputable abbrev zs5 (b1 b2:Bool) (h:Heap) (a b:Addr):Heap:=(zs4 b1 b2 h a b).push {cls:=.type "zip",data:=.fields #[.none,.bool false,.bool false,.ref (zs2 b1 b2 h a b).objs.size,.ref (zs3 b1 b2 h a b).objs.size]}
theorem Ab {b1 b2:Bool} (a b:Addr) (xs ys:Array Value) :
  Meets (Builtin.«zip.__new__» ⟨[.type "zip",.ref a,.ref b],[]⟩) (λ _ R s=>SqH b1 s.heap a xs/\SqH b2 s.heap b ys/\R (.ok (.ret (.ref (zs4 b1 b2 s.heap a b).objs.size))) {s with heap:=zs5 b1 b2 s.heap a b}) :=
 .of_wp λ prog w A R s h=>by
  obtain⟨hp,g,dr,tk,os⟩:=s
  obtain⟨h1,h2,h⟩:=h
  have sub:=sub_zip
  have L1:SqH b1 (Shared.heap ⟨hp,g,dr,tk,os⟩) a xs:=h1
  have L2:SqH b2 (Shared.heap ⟨hp.push (iU b1 a),g,dr,tk,os⟩) b ys:=SqH.push h2 _
  wp_walk using iA L1,iA L2
  exact⟨_,rfl,h⟩
theorem wa {b1 b2:Bool}{a b:Addr}{xs ys:Array Value}{Q:Value->Shared->Prop} (h1:SqH b1 s.heap a xs) (h2:SqH b2 s.heap b ys)
  (k:∀ g,IsZip g (s.heap.objs.size+4) (s.heap.objs.size+2) (s.heap.objs.size+3) .none->IsPair g (s.heap.objs.size+2) (.ref s.heap.objs.size) (.ref (s.heap.objs.size+1))->IsPair g (s.heap.objs.size+3) .none .none ->
   SIt b1 g s.heap.objs.size a 0->SIt b2 g (s.heap.objs.size+1) b 0->(∀ c o,s.heap.get? c=some o->g.get? c=some o)->Q (.ref (s.heap.objs.size+4)) {s with heap:=g}) :
  wpAny (model prog w) A (call (.type "zip") [.ref a,.ref b]) Q E s:=by
 refine callType_new F.called_zip (by decide) (F.typeCall_zip_2 _ _) (F.newCall_zip_2 _ _) (λ o=>F.args_object_init_3 o _ _) F.entry_zip_new (Ab a b xs ys) ⟨h1,h2,?_⟩
 have z1:(zs1 b1 s.heap a).objs.size=s.heap.objs.size+1:=Heap.size_push ..
 have z2:(zs2 b1 b2 s.heap a b).objs.size=s.heap.objs.size+2:=by rw[Heap.size_push,z1]
 have z3:(zs3 b1 b2 s.heap a b).objs.size=s.heap.objs.size+3:=by rw[Heap.size_push,z2]
 have z4:(zs4 b1 b2 s.heap a b).objs.size=s.heap.objs.size+4:=by rw[Heap.size_push,z3]
 have g5:(zs5 b1 b2 s.heap a b).get? (zs4 b1 b2 s.heap a b).objs.size=some _:=Heap.get?_push_size _ rfl
 have g4:(zs5 b1 b2 s.heap a b).get? (zs3 b1 b2 s.heap a b).objs.size=some _:=Heap.get?_push_of_some _ (Heap.get?_push_size _ rfl)
 have g3:(zs5 b1 b2 s.heap a b).get? (zs2 b1 b2 s.heap a b).objs.size=some _:=Heap.get?_push_of_some _ (Heap.get?_push_of_some _ (Heap.get?_push_size _ rfl))
 have g2:(zs5 b1 b2 s.heap a b).get? (zs1 b1 s.heap a).objs.size=some _:=Heap.get?_push_of_some _ (Heap.get?_push_of_some _ (Heap.get?_push_of_some _ (Heap.get?_push_size _ tH)))
 have g1:(zs5 b1 b2 s.heap a b).get? s.heap.objs.size=some _:=Heap.get?_push_of_some _ (Heap.get?_push_of_some _ (Heap.get?_push_of_some _ (Heap.get?_push_of_some _ (Heap.get?_push_size _ tH))))
 show _/\_
 rw[z2,z3,z4] at g5
 rw[z1,z2] at g3
 rw[z3] at g4
 rw[z1] at g2
 rw[z4]
 exact⟨⟨_,g5,rfl⟩,k _ g5 g3 g4 (SIt.new g1) (SIt.new g2) λ c o x=>Heap.get?_push_of_some _ (Heap.get?_push_of_some _ (Heap.get?_push_of_some _ (Heap.get?_push_of_some _ (Heap.get?_push_of_some _ x))))⟩
end
def z7 (b1 b2:Bool) (K:PySem.W.Frag) (t1 t2:Addr):It :=
 ⟨λ i H=>∃ xs ys x y,SqB b1 K H t1 xs/\SqB b2 K H t2 ys/\xs[i]? = some x/\ys[i]? = some y,
  λ i H v H'=>∃ T x y,H T=none/\H'=upd H T (.tup [x,y])/\v=.ref T/\(∀ xs,SqB b1 K H t1 xs->xs[i]? = some x)/\∀ ys,SqB b2 K H t2 ys->ys[i]? = some y,
  λ i H=>∃ xs ys,SqB b1 K H t1 xs/\SqB b2 K H t2 ys/\(xs.length<=i∨ys.length<=i)⟩
def GT (b1 b2:Bool) (z TI TO j1 j2 t1 t2:Addr) (i:Nat) (h:Heap):Prop :=
 IsZip h z TI TO Value.none/\IsPair h TI (.ref j1) (.ref j2)/\(∃ a b,IsPair h TO a b)/\SIt b1 h j1 t1 i/\SIt b2 h j2 t2 i
theorem ql {b1 b2:Bool}{P:Program}{w:World}{K:PySem.W.Frag}{es:List Expr}{k0:Nat}{p0:Pos}{z TI TO i1 i2 l1 l2:Addr} (ap:ZipApart z TI TO i1 i2 l1 l2) :
  qg P w K (.Tuple es k0 p0) (z7 b1 b2 K l1 l2) [z,TI,TO,i1,i2] z (GT b1 b2 z TI TO i1 i2 l1 l2) where
 mem:=by simp
 obj:=λ i h ⟨a,b,⟨c1,c2,c⟩,d,e⟩ x hx=>by
  simp only[List.mem_cons,List.not_mem_nil,or_false] at hx
  rcases hx with rfl | rfl | rfl | rfl | rfl
  ·exact⟨_,a,λ v q=>by cases q⟩
  ·exact⟨_,b,λ v q=>by cases q⟩
  ·exact⟨_,c,λ v q=>by cases q⟩
  ·exact d.typ
  ·exact e.typ
 keep:=λ i h h' ⟨a,b,⟨c1,c2,c⟩,d,e⟩ kk =>
  ⟨kk _ (by simp) _ a,kk _ (by simp) _ b,⟨c1,c2,kk _ (by simp) _ c⟩,d.at λ o q=>kk _ (by simp) o q,e.at λ o q=>kk _ (by simp) o q⟩
 item:=by
  intro X hP hw hK hc i pins s σ H E I hf st hg
  subst hP hw hK
  obtain⟨a,b,⟨c1,c2,c⟩,d,e⟩:=st
  obtain⟨xs,ys,x,y,q1,q2,x1,y1⟩:=hg
  obtain⟨its1,rv1,pl1⟩:=I.seqB q1
  obtain⟨its2,rv2,pl2⟩:=I.seqB q2
  obtain⟨u1,hu1,ru1⟩:=rv1.get x1
  obtain⟨u2,hu2,ru2⟩:=rv2.get y1
  refine qj ap a b c d e pl1 pl2 (u:=u1) (v:=u2) (by simpa using hu1) (by simpa using hu2) λ h' za zb zc zd ze zs zk=>?_
  refine⟨_,rfl,wpAny_letOwnedTupleGo_zip (s:={s with heap:=h'}) za λ h2 za2 sb=>?_⟩
  have kk:∀ b o,b ∉ [z,TI,TO,i1,i2]->s.heap.get? b=some o->h2.get? b=some o:=λ b o hb q=>by
   simp only[List.mem_cons,List.not_mem_nil,or_false,not_or] at hb
   exact (sb.2 b hb.1).trans (zk b o hb.1 hb.2.2.1 hb.2.2.2.1 hb.2.2.2.2 q)
  have szn:s.heap.objs.size≠z:=λ q=>by
   obtain⟨f0,_⟩:=hf z (by simp)
   exact absurd (Heap.lt_size a) (by rw[<-q];exact Nat.lt_irrefl _)
  have hT:h2.get? s.heap.objs.size=some {cls:=.type "tuple",data:=.seq #[u1,u2]}:=(sb.2 _ szn).trans ze
  have fr:H s.heap.objs.size=none:=I.hok.fresh (Nat.le_refl _)
  have I2:Inv X pins σ (upd H s.heap.objs.size (.tup [x,y])) {s with heap:=h2}:=I.turnLay (t':=s.toks) (fp:=[z,TI,TO,i1,i2]) kk hf (Nat.le_refl _)
   ⟨by show 2<=sizeLine;decide,[u1,u2],.cons ru1 (.cons ru2 .nil),⟨_,hT,rfl,_,rfl⟩⟩
  have kTI:h2.get? TI=some _:=(sb.2 TI ap.TIz).trans (zk TI _ ap.TIz ap.TITO ap.TIi1 ap.TIi2 b)
  refine⟨.ref s.heap.objs.size,_,I2,rfl,⟨_,x,y,fr,rfl,rfl,λ zs hz=>by rw[I.seqB_inj hz q1];exact x1,λ zs hz=>by rw[I.seqB_inj hz q2];exact y1⟩,
   ⟨za2,kTI,⟨_,_,(sb.2 TO ap.TOz).trans zb⟩,zc.at λ o q=>(sb.2 _ ap.i1z).trans q,zd.at λ o q=>(sb.2 _ ap.i2z).trans q⟩,λ b hb=>?_⟩
  have h0:=(hf b hb).1
  have hlt:b≠s.heap.objs.size:=λ q=>by
   subst q
   simp only[List.mem_cons,List.not_mem_nil,or_false] at hb
   rcases hb with q | q | q | q | q
   ·exact szn q
   ·exact absurd (Heap.lt_size b) (by rw[<-q];exact Nat.lt_irrefl _)
   ·exact absurd (Heap.lt_size c) (by rw[<-q];exact Nat.lt_irrefl _)
   ·obtain⟨o,e1,_⟩:=d.typ
    exact absurd (Heap.lt_size e1) (by rw[<-q];exact Nat.lt_irrefl _)
   ·obtain⟨o,e1,_⟩:=e.typ
    exact absurd (Heap.lt_size e1) (by rw[<-q];exact Nat.lt_irrefl _)
  rw[aM hlt]
  exact h0
 done:=by
  intro X hP hw hK hc i pins s σ H E I hf st hg
  subst hP hw hK
  obtain⟨a,b,⟨c1,c2,c⟩,d,e⟩:=st
  obtain⟨xs,ys,q1,q2,hl⟩:=hg
  obtain⟨its1,rv1,pl1⟩:=I.seqB q1
  obtain⟨its2,rv2,pl2⟩:=I.seqB q2
  have g1:=rv1.length
  have g2:=rv2.length
  refine uy (I.ok.hd hc) ap a b c d e pl1 pl2 ?_ λ h' zk=>⟨rfl,I.turnedL (t':=s.toks) (fp:=[z,TI,TO,i1,i2]) (λ b o hb q=>?_) hf⟩
  ·rcases hl with q | q
   ·left;simp;omega
   ·right;simp;omega
  ·simp only[List.mem_cons,List.not_mem_nil,or_false,not_or] at hb
   exact zk b o hb.1 hb.2.2.1 hb.2.2.2.1 hb.2.2.2.2 q
 self:=λ _ _ _ _ _ st h=>wpAny_pyIter_zip st.1 h
def Fm (K:PySem.W.Frag) (ta:TA):TI:=λ σ H R=>ta σ H λ vs H1=>∃ a b b1 b2,vs = [.ref a,.ref b]/\(∃ xs,SqB b1 K H1 a xs)/\(∃ ys,SqB b2 K H1 b ys)/\R (z7 b1 b2 K a b) H1
theorem kz {X:Cx}{es:List Expr}{k0:Nat}{p0:Pos}{a b:Expr}{ta:TA}{p pos:Pos} (hg:Gl X "zip") (hm:X.mg "zip" = none) (ha:PA X [a,b] ta) (hs:starEach [a,b] X.env = [(false,eval a X.env),(false,eval b X.env)]:=by rfl) (hs2:starEach [b] X.env = [(false,eval b X.env)]:=by rfl) :
  PI X (.Tuple es k0 p0) (.Call (.Name "zip" p) [a,b] [] pos) (Fm X.K ta):=by
 intro pins s σ H R I h
 refine Call_ (fU I hg hm boot_zip (PyProof.Rows.callWith_type1 (thn (ha pos pins s σ H _ I h) λ us s1 ⟨vs,H1,I1,r1,q1⟩=>?_) (by rw[hs,hs2]) (by rw[hs2];rfl)))
 obtain⟨l1,l2,b1,b2,e,⟨xs,q1⟩,⟨ys,q2⟩,q⟩:=q1
 subst e
 cases r1 with
 | cons r rr =>
  cases rr with
  | cons r' rr =>
   cases rr
   cases r
   cases r'
   obtain⟨its1,rv1,pl1⟩:=I1.seqB q1
   obtain⟨its2,rv2,pl2⟩:=I1.seqB q2
   have lt1:=pl1.lt
   have lt2:=pl2.lt
   refine wa pl1 pl2 λ h' za zb zc zd ze zk=>?_
   refine wpAny_pyIter_zip (s:={s1 with heap:=h'}) za ?_
   have I2:Inv X pins σ H1 {s1 with heap:=h'}:=I1.kept (t':=s1.toks) λ b o e=>zk b o e
   refine⟨_,[_,_,_,_,_],_,_,H1,rfl,I2,ql (z:=s1.heap.objs.size+4) (TI:=s1.heap.objs.size+2) (TO:=s1.heap.objs.size+3) (i1:=s1.heap.objs.size) (i2:=s1.heap.objs.size+1) (l1:=l1) (l2:=l2) ?_,⟨za,zb,⟨_,_,zc⟩,zd,ze⟩,λ b hb=>?_,q⟩
   ·exact DA lt1 lt2
   ·simp only[List.mem_cons,List.not_mem_nil,or_false] at hb
    have ge:s1.heap.objs.size<=b:=by rcases hb with z | z | z | z | z<;>(subst z;first | exact Nat.le_add_right _ _ | exact Nat.le_refl _)
    exact I1.fpOk ge (I1.hok.fresh ge)
end L2
namespace L2
open PySem PySem.Spec PyProof.Rows
section
variable {X:Cx}
theorem aq:OpR X (binaryOp .Add) (λ x y H Q=>∃ a b,x=.str a/\y=.str b/\a.length+b.length<=sizeLine/\Q (.str (a++b)) H):=by
 rintro pins s σ H x y v u Q I rx ry ⟨a,b,rfl,rfl,hl,q⟩
 obtain⟨t,rfl⟩:=rx
 obtain⟨t',rfl⟩:=ry
 exact SB.add (λ t2 k=>⟨.str (a++b),H,I.tok k,⟨t2,rfl⟩,q⟩) hl
theorem yw:OpR X (compareOp .In) (λ x y H Q=>∃ a b,x=.str a/\y=.str b/\Q (.bl (Txt.contains b a)) H):=by
 rintro pins s σ H x y v u Q I rx ry ⟨a,b,rfl,rfl,q⟩
 obtain⟨t,rfl⟩:=rx
 obtain⟨t',rfl⟩:=ry
 exact SB.contains ⟨.bl _,H,I,rfl,q⟩
theorem vV:dJ X (.type "int") (λ xs H Q=>∃ a n,xs = [.str a]/\intText? a=some n/\a.length<=640/\Q (.int n) H):=by
 rintro pins s σ H xs us Q I r ⟨a,n,rfl,hn,hl,q⟩
 obtain⟨u,rfl,t,rfl⟩:=jd r
 exact PySem.W.KIN.call_text hn hl ⟨.int n,H,I.tok _,⟨_,rfl⟩,q⟩
def tSM (r:Str->V->Hp->VK->Prop) (to te:TE):TE:=λ σ H Q=>to σ H λ x H1=>∃ a,x=.str a/\te σ H1 λ y H2=>r a y H2 Q
variable {o e:Expr}{to te:TE}{apos pos:Pos}
theorem mh (ho:PE X o to) (he:PE X e te) (hbase:attributeBase o "startswith" X.env (eval o X.env)=eval o X.env:=by rfl) (hs:starEach [e] X.env = [(false,eval e X.env)]:=by rfl) (hline:(apos.endLine == pos.line)=true:=by rfl) :
  PE X (.Call (.Attribute o "startswith" apos) [e] [] pos) (tSM (λ a y H Q=>∃ b,y=.str b/\Q (.bl (Txt.startswith a b)) H) to te):=by
 intro pins s σ H Q I h
 refine Call_method1 hbase hs hline (thn (ho pins s σ H _ I h) λ v s1 ⟨x,H1,I1,r1,a,e1,q1⟩=>?_)
 subst e1
 obtain⟨t,rfl⟩:=r1
 refine SB.startswith (thn (he pins s1 σ H1 _ I1 q1) λ u s2 ⟨y,H2,I2,r2,b,e2,q2⟩=>?_)
 subst e2
 obtain⟨t2,rfl⟩:=r2
 exact⟨b,t2,rfl,.bl _,H2,I2,rfl,q2⟩
theorem sP:∀ {ts:List Str}{its:List Value},bg (ts.map V.str) its->∃ l:List (Str×Tok),strValues l=its/\l.map (·.1)=ts
 | [],_,.nil=>⟨[],rfl,rfl⟩
 | t::ts,_,.cons r rs=>by
  obtain⟨k,rfl⟩:=r
  obtain⟨l,e1,e2⟩:=sP (ts:=ts) rs
  exact⟨(t,k)::l,by rw[<-e1];rfl,by rw[<-e2];rfl⟩
theorem lX:∀ l:List (Str×Tok),bg ((l.map (·.1)).map V.str) (strValues l)
 | []=>.nil
 | p::l=>.cons ⟨p.2,rfl⟩ (lX l)
theorem tV (ho:PE X o to) (he:PE X e te) (hbase:attributeBase o "join" X.env (eval o X.env)=eval o X.env:=by rfl) (hs:starEach [e] X.env = [(false,eval e X.env)]:=by rfl) (hline:(apos.endLine == pos.line)=true:=by rfl) :
  PE X (.Call (.Attribute o "join" apos) [e] [] pos) (tSM (λ a y H Q=>∃ D ts,y=.ref D/\SqL X.K H D (ts.map V.str)/\JoinOk a ts=true/\Q (.str (Txt.join a ts)) H) to te):=by
 intro pins s σ H Q I h
 refine Call_method1 hbase hs hline (thn (ho pins s σ H _ I h) λ v s1 ⟨x,H1,I1,r1,a,e1,q1⟩=>?_)
 subst e1
 obtain⟨t,rfl⟩:=r1
 refine SB.join (thn (he pins s1 σ H1 _ I1 q1) λ u s2 ⟨y,H2,I2,r2,D,ts,e2,hq,hok,q2⟩=>?_)
 subst e2
 cases r2
 obtain⟨its,rv,p,hz⟩:=I2.list hq
 obtain⟨l,e3,e4⟩:=sP rv
 exact⟨D,l,rfl,by rw[e3];exact p.isList,ts,e4,hok,λ t' k=>⟨.str _,H2,I2.tok k,⟨t',rfl⟩,q2⟩⟩
end
end L2
namespace L2
open PySem PySem.Spec PyProof.Rows
section
variable {X:Cx}{o e:Expr}{to te:TE}{apos pos:Pos}
theorem cY {pins:List (Addr×Obj)}{σ:St}{H:Hp}{s:Shared}{Q:VK}{k:Nat} (I:Inv X pins σ H s) (l:List (Str×Tok)) (ts:List Str) (hl:l.map (·.1)=ts) (z:ts.length<=sizeLine)
  (q:∀ p,H p=none->Q (.ref p) (upd H p (.lst (ts.map V.str)))):EP X pins σ Q (.ref s.heap.objs.size) {s with toks:=k,heap:=s.heap.push {cls:=.type "list",data:=.seq (strValues l).toArray}}:=by
 subst hl
 refine⟨.ref s.heap.objs.size,_,I.laid (t':=k) (o:=.lst ((l.map (·.1)).map V.str)) (λ b u e=>Heap.get?_push_of_some _ e) (Nat.le_refl _) ?_,rfl,q _ (I.hok.fresh (Nat.le_refl _))⟩
 exact⟨by rw[List.length_map];exact z,_,0,lX l,Heap.get?_push_size _ rfl⟩
def En:Str->V->Hp->VK->Prop:=λ a y H Q=>∃ b,y=.str b/\(b.length == 0)=false/\a.length<=sizeLine/\(Txt.split a b).length<=sizeLine/\∀ p,H p=none->Q (.ref p) (upd H p (.lst ((Txt.split a b).map V.str)))
theorem kC (ho:PE X o to) (he:PE X e te) (hbase:attributeBase o "split" X.env (eval o X.env)=eval o X.env:=by rfl) (hs:starEach [e] X.env = [(false,eval e X.env)]:=by rfl) (hline:(apos.endLine == pos.line)=true:=by rfl) :
  PE X (.Call (.Attribute o "split" apos) [e] [] pos) (tSM En to te):=by
 intro pins s σ H Q I h
 refine Call_method1 hbase hs hline (thn (ho pins s σ H _ I h) λ v s1 ⟨x,H1,I1,r1,a,e1,q1⟩=>?_)
 subst e1
 obtain⟨t,rfl⟩:=r1
 refine⟨"str",_,F.plainAttrs_str,F.slot_str_split,F.type_str_split,typeIs_str s1 a t,(λ _ z=>nomatch z),
  method1_meets F.slot_str_split F.entry_str_split (thn (he pins s1 σ H1 _ I1 q1) λ u s2 ⟨y,H2,I2,r2,b,e2,hy,hx,hn,q2⟩=>?_)⟩
 subst e2
 obtain⟨t2,rfl⟩:=r2
 refine⟨typeIs_str s2 a t,F.args_str_split_2 _ _,?_⟩
 unfold Txt.split at hn q2
 cases h1:(decide (a.length<b.length) || decide (Builtin.Str.strKind a<Builtin.Str.strKind b))
 ·rw[if_neg (ne_true_of_eq_false h1)] at hn q2
  cases hf:(Builtin.Str.occurrences a b 0 a.length (a.length+1)).isEmpty
  ·rw[if_neg (ne_true_of_eq_false hf)] at hn q2
   refine⟨_,meets_str_split_sep a b t t2 h1 hy hf hx hn,?_⟩
   rw[strsFrom_eq]
   exact cY I2 _ _ (numbered_texts _ _) hn q2
  ·rw[if_pos hf] at hn q2
   exact⟨_,meets_str_split_not_found a b t t2 h1 hy hf,cY (k:=s2.toks) I2 [(a,t)] _ rfl hn q2⟩
 ·rw[if_pos h1] at hn q2
  exact⟨_,meets_str_split_cannot_occur a b t t2 h1,cY (k:=s2.toks) I2 [(a,t)] _ rfl hn q2⟩
def cq (a b:Str):List Str:=match Builtin.Str.occurrences a b 0 a.length 1 with
 | i::_=>[Builtin.Str.strSub a 0 i,b,Builtin.Str.strSub a (i+b.length) a.length]
 | []=>[a,Str.empty,Str.empty]
def Gk:Str->V->Hp->VK->Prop:=λ a y H Q=>∃ b,y=.str b/\(b.length == 0)=false/\a.length<=sizeLine/\∀ p,H p=none->Q (.ref p) (upd H p (.tup ((cq a b).map V.str)))
theorem fB (ho:PE X o to) (he:PE X e te) (hbase:attributeBase o "partition" X.env (eval o X.env)=eval o X.env:=by rfl) (hs:starEach [e] X.env = [(false,eval e X.env)]:=by rfl) (hline:(apos.endLine == pos.line)=true:=by rfl) :
  PE X (.Call (.Attribute o "partition" apos) [e] [] pos) (tSM Gk to te):=by
 intro pins s σ H Q I h
 refine Call_method1 hbase hs hline (thn (ho pins s σ H _ I h) λ v s1 ⟨x,H1,I1,r1,a,e1,q1⟩=>?_)
 subst e1
 obtain⟨t,rfl⟩:=r1
 refine⟨"str",_,F.plainAttrs_str,F.slot_str_partition,F.type_str_partition,typeIs_str s1 a t,(λ _ z=>nomatch z),
  method1_meets F.slot_str_partition F.entry_str_partition (thn (he pins s1 σ H1 _ I1 q1) λ u s2 ⟨y,H2,I2,r2,b,e2,hy,hx,q2⟩=>?_)⟩
 subst e2
 obtain⟨t2,rfl⟩:=r2
 refine⟨typeIs_str _ _ _,F.args_str_partition_2 _ _,_,meets_str_partition a b t t2 hy hx,?_⟩
 unfold cq at q2
 revert q2
 cases Builtin.Str.occurrences a b 0 a.length 1 with
 | nil =>
  intro q2
  refine⟨.ref s2.heap.objs.size,_,I2.laid (t':=s2.toks+1) (o:=.tup _) (λ b ob q=>Heap.get?_push_of_some _ q) (Nat.le_refl _) ?_,rfl,q2 _ (I2.hok.fresh (Nat.le_refl _))⟩
  exact⟨by show 3<=sizeLine;decide,_,.cons ⟨_,rfl⟩ (.cons ⟨_,rfl⟩ (.cons ⟨_,rfl⟩ .nil)),IsTup.new _ _⟩
 | cons i r =>
  intro q2
  refine⟨.ref s2.heap.objs.size,_,I2.laid (t':=s2.toks+1+1) (o:=.tup _) (λ b ob q=>Heap.get?_push_of_some _ q) (Nat.le_refl _) ?_,rfl,q2 _ (I2.hok.fresh (Nat.le_refl _))⟩
  exact⟨by show 3<=sizeLine;decide,_,.cons ⟨_,rfl⟩ (.cons ⟨_,rfl⟩ (.cons ⟨_,rfl⟩ .nil)),IsTup.new _ _⟩
theorem iQ:SlR X (λ x lo hi H Q=>∃ a,x=.str a/\a.length<=sizeLine/\Q (.str (Txt.slice a lo hi)) H):=by
 intro pins s σ H x v vl vu lo hi sl Q I rx hs pl pu h
 obtain⟨a,rfl,hz,q⟩:=h
 obtain⟨t,rfl⟩:=rx
 refine⟨"str",_,F.slot_str_getitem.lookup,typeIs_str _ _ _,?_⟩
 cases pl<;>cases pu
 ·exact wpAny_getItem_str_slice (l:=none) (u:=none) (st:=none) hs rfl (post_val_or_str ⟨Nat.le_trans (Txt.slice_le a _ _) hz,λ t' k=>⟨.str _,H,I.tok k,⟨t',rfl⟩,q⟩⟩)
 ·exact wpAny_getItem_str_slice (l:=none) (u:=some (_,_)) (st:=none) hs rfl (post_val_or_str ⟨Nat.le_trans (Txt.slice_le a _ _) hz,λ t' k=>⟨.str _,H,I.tok k,⟨t',rfl⟩,q⟩⟩)
 ·exact wpAny_getItem_str_slice (l:=some (_,_)) (u:=none) (st:=none) hs rfl (post_val_or_str ⟨Nat.le_trans (Txt.slice_le a _ _) hz,λ t' k=>⟨.str _,H,I.tok k,⟨t',rfl⟩,q⟩⟩)
 ·exact wpAny_getItem_str_slice (l:=some (_,_)) (u:=some (_,_)) (st:=none) hs rfl (post_val_or_str ⟨Nat.le_trans (Txt.slice_le a _ _) hz,λ t' k=>⟨.str _,H,I.tok k,⟨t',rfl⟩,q⟩⟩)
def Its (a:Str):It:=⟨λ i _=>i<a.cps.size,λ i H x H'=>H'=H/\∃ c,a.cps[i]? = some c/\x=.str ⟨#[c]⟩,λ i _=>a.cps.size<=i⟩
theorem wf {P:Program}{w:World}{K:PySem.W.Frag}{tg:Expr} (it:Addr) (a:Str) (t:Tok):qg P w K tg (Its a) [it] it (λ i h=>h.IsStrIter it "str_ascii_iterator" a t i) where
 mem:=by simp
 obj:=λ i h st b hb=>by
  have e:b=it:=by simpa using hb
  subst e
  obtain⟨o,e,c,d⟩:=st
  exact⟨o,e,λ v z=>by
   rw[d] at z
   cases z⟩
 keep:=λ i h h' st k=>by
  obtain⟨o,e,c,d⟩:=st
  exact⟨o,k it (by simp) _ e,c,d⟩
 item:=by
  intro X hP hw hK hc i pins s σ H E I hf st hg
  subst hP hw hK
  obtain⟨f0,f1,f2,f3,f4,f5⟩:=hf it (by simp)
  have hi:i<a.cps.size:=hg
  refine wpAny_pyNext_ascii_item st (c:=a.cps[i]) (by simp [hi]) λ h' st' sb=>?_
  have I1:Inv X pins σ H {s with heap:=h',toks:=s.toks+1}:=I.turned (λ b o hb e=>sb.extBut b o hb e) f0 f1 f3 f4 f5
  obtain⟨o,e,c,d⟩:=id st'
  exact⟨_,rfl,pM (s:={s with heap:=h',toks:=s.toks+1}) (n:="str_ascii_iterator") e c d (by decide) ⟨.str ⟨#[a.cps[i]]⟩,H,I1,⟨_,rfl⟩,⟨rfl,_,by simp [hi],rfl⟩,st',λ b hb=>(hf b hb).1⟩⟩
 done:=by
  intro X hP hw hK hc i pins s σ H E I hf st hg
  subst hP hw hK
  obtain⟨f0,f1,f2,f3,f4,f5⟩:=hf it (by simp)
  exact wpAny_pyNext_ascii_end (I.ok.hd hc) st (by have:a.cps.size<=i:=hg;simp;omega) λ h' eb=>⟨rfl,I.turned (t':=s.toks) (λ b o hb e=>eb b o hb e) f0 f1 f3 f4 f5⟩
 self:=λ _ _ _ _ _ st h=>wpAny_pyIter_striter_ascii st h
def Hy (tl:TE):TI:=λ σ H R=>tl σ H λ x H1=>∃ a,x=.str a/\a.cps.all (· < 128)=true/\R (Its a) H1
theorem yi {l tg:Expr}{tl:TE} (hl:PE X l tl):PI X tg l (Hy tl):=by
 intro pins s σ H R I h
 refine thn (hl pins s σ H _ I h) λ v s1 ⟨x,H1,I1,r1,q1⟩=>?_
 obtain⟨a,e,ha,q⟩:=q1
 subst e
 obtain⟨t,rfl⟩:=r1
 refine wpAny_pyIter_ascii ha ?_
 refine⟨s1.heap.objs.size,[s1.heap.objs.size],_,_,H1,rfl,I1.kept (t':=s1.toks) λ b o e=>Heap.get?_push_of_some _ e,wf _ a t,⟨_,Heap.get?_push_size _ rfl,rfl,rfl⟩,λ b hb=>?_,q⟩
 have e:b=s1.heap.objs.size:=by simpa using hb
 subst e
 exact I1.fpOk (Nat.le_refl _) (I1.hok.fresh (Nat.le_refl _))
end
end L2
namespace L2
open PySem PySem.Spec PyProof.Rows
section
variable {X:Cx}{CX:CXT}{k:Nat}{f:Addr}{fd:FuncData}{ps:List Str}{ds:List Value}{dvs:List V}{sp:Sp}{x:Str}{p pos:Pos}{e:Expr}{es:List Expr}{t:TA}{E:XK}
theorem pj {a:Str} (hg:Gl X x) (hm:∃ t,X.mg x=some (.str a t)) (hd:(x == ("__debug__":Str))=false:=by decide):PE X (.Name x pos) (tC (.str a)):=by
 obtain⟨t,hm⟩:=hm
 exact bV hg hm ⟨t,rfl⟩ hd
end
end L2
namespace L2
open PySem PySem.Spec PyProof.Rows
theorem mD {a:Str}{te:TE}{st:St}{H1:Hp}{Q:VK}{D:Addr} (p:Nat->Bool) (hD:H1 D=none) (hn:a.cps.size<=sizeLine)
  (hs:∀ (i c:Nat) (H2:Hp) (k:VK),a.cps[i]? = some c->aA H1 H2->(∀ H4,aA H2 H4->k (.bl (p c)) H4)->te (some (.str ⟨#[c]⟩)::st) H2 k)
  (hd:∀ H2,aA H1 H2->H2 D=some (.lst ((a.cps.toList.map p).map V.bl))->Q (.ref D) H2):ja (Its a) te st D H1 Q:=by
 have hz:a.cps.toList.length=a.cps.size:=by simp
 refine⟨λ i m zs H2=>m=a.cps.size-i/\i<=a.cps.size/\zs=((a.cps.toList.take i).map p).map V.bl/\aA H1 H2/\H2 D=some (.lst zs),⟨a.cps.size,by simp,Nat.zero_le _,rfl,bb (aA.refl H1) hD,ai⟩,?_⟩
 rintro i m zs H2 ⟨rfl,hi,rfl,sm,e⟩
 by_cases hlt:i<a.cps.size
 ·refine .inr ⟨hlt,?_⟩
  rintro x H3 ⟨rfl,c,hc,rfl⟩
  have hc':a.cps.toList[i]? = some c:=by rw[Array.getElem?_toList];exact hc
  refine hs i c _ _ hc sm λ H4 s4=>⟨s4 _ _ e,by simp;omega,a.cps.size-(i+1),by omega,rfl,hlt,?_,bb (sm.trans s4) hD,ai⟩
  rw[List.take_add_one,hc',List.map_append,List.map_append]
  rfl
 ·have ei:i=a.cps.size:=by omega
  subst ei
  refine .inl ⟨Nat.le_refl _,hd _ sm ?_⟩
  rw[List.take_of_length_le (by omega)] at e
  exact e
end L2
namespace L2
open PySem PySem.Spec PyProof.Rows
section
variable {X:Cx}{CX:CXT}{k:Nat}{ps:List Str}{x:Str}{p pos:Pos}{e:Expr}{es:List Expr}{t:TA}{E:XK}
def DT {Par:Type} (fOf:Par->Addr) (i:Nat) (sp:Par->Sp) (E:XK) (t:TA):TE:=λ σ H Q=>∃ π,σ[i]? = some (some (.ref (fOf π)))/\t σ H λ vs H1=>sp π vs H1 Q E
theorem pq {Par:Type}{fOf:Par->Addr}{fdOf:Par->FuncData}{sp:Par->Sp}{i:Nat} (F:∀ π,aS X.prog X.w X.K X.mg X.base CX k (fOf π) (fdOf π) ps (sp π)) (hr:cF k X.A) (hk:∀ π,PySem.W.keepIn X.K (.ref (fOf π))=true)
  (hb:∀ π,bS X.K (fdOf π) ps []) (hx:cG CX X E) (hn:PE X (.Name x p) (DL i))
  (ha:PA X (e::es) t) (he:starEach (e::es) X.env=(false,eval e X.env)::starEach es X.env:=by rfl) (hpl:(backTo pos (starEach es X.env)).any (·.1)=false:=by rfl) :
  PE X (.Call (.Name x p) (e::es) [] pos) (DT fOf i sp E t):=by
 intro pins s σ H Q I h
 obtain⟨π,hσ,h⟩:=h
 refine wpAny_Call_Name_kw (thn (hn pins s σ H (λ v H'=>v=.ref (fOf π)/\H'=H) I ⟨_,hσ,rfl,rfl⟩) λ fv s0 ⟨v,H0,I0,rv,e1,e2⟩=>?_)
 subst e1 e2
 obtain rfl:fv=Value.ref (fOf π):=rv
 refine PySem.W.callWith_K (h₀:=X.base) I0.ok.mod.kin (hk π) (thn (ha pos pins s0 σ H0 _ I0 h) λ us s1 ⟨vs,H1,I1,r,q⟩=>⟨I1.kIn,?_⟩) he hpl
 exact re (dvs:=[]) (ds:=[]) (F π) hr (hb π) .nil hx I1 r (by rw[List.append_nil];exact q)
end
end L2
namespace Gc
open Ch
theorem rle {a b c:Rat} (h:a<=b) (hc:0<=c):c*a<=c*b:=Rat.mul_le_mul_of_nonneg_left h hc
def sm (f:Nat->Rat):Nat->Rat
 | 0=>0
 | m+1=>sm f m+f m
theorem wW (f g:Nat->Rat):∀ m,sm (λ k=>f k+g k) m=sm f m+sm g m
 | 0=>by simp only[sm];grind
 | m+1=>by simp only[sm,wW f g m];grind
theorem qv (c:Rat) (f:Nat->Rat):∀ m,sm (λ k=>c*f k) m=c*sm f m
 | 0=>by simp only[sm];grind
 | m+1=>by simp only[sm,qv c f m];grind
theorem oR {f g:Nat->Rat}:∀ {m:Nat},(∀ k,k<m->f k=g k)->sm f m=sm g m
 | 0,_=>rfl
 | m+1,h=>by
   have h1:=oR (m:=m) λ k hk=>h k (by omega)
   have h2:=h m (by omega)
   simp only[sm,h1,h2]
theorem tj {f:Nat->Rat}:∀ {m:Nat},(∀ k,k<m->f k=0)->sm f m=0
 | 0,_=>rfl
 | m+1,h=>by
   have h1:=tj (m:=m) λ k hk=>h k (by omega)
   have h2:=h m (by omega)
   simp only[sm,h1,h2];grind
theorem ij (f:Nat->Rat):∀ m,sm f (m+1)=f 0+sm (λ k=>f (k+1)) m
 | 0=>by simp only[sm];grind
 | m+1=>by rw[sm,ij f m];simp only[sm];grind
def wt (p:Rat):Nat->Nat->Rat
 | 0,0=>1
 | 0,_+1=>0
 | n+1,0=>(1-p)*wt p n 0
 | n+1,k+1=>(1-p)*wt p n (k+1)+p*wt p n k
theorem sJ (p:Rat):∀ n,wt p n 0=(1-p)^n
 | 0=>by rw[wt];grind
 | n+1=>by rw[wt,sJ p n];grind
theorem mL (p:Rat):∀ n k,wt p n k=(bE n k:Rat)*p^k*(1-p)^(n-k)
 | 0,0=>by simp [wt,bE]
 | 0,k+1=>by simp [wt,bE]
 | n+1,0=>by rw[sJ,b0];simp
 | n+1,k+1=>by
   rw[wt,mL p n k,mL p n (k+1),bs]
   have e:n+1-(k+1)=n-k:=by omega
   rw[e]
   by_cases h:k<n
   ·have e2:n-k=(n-(k+1))+1:=by omega
    rw[e2];push_cast;grind
   ·rw[blt (show n<k+1 by omega)];push_cast;grind
theorem gb {p:Rat} (h0:0<=p) (h1:p<=1):∀ n k,0<=wt p n k
 | 0,0=>by rw[wt];decide
 | 0,k+1=>by rw[wt];decide
 | n+1,0=>by
   rw[wt];exact Rat.mul_nonneg (by grind) (gb h0 h1 n 0)
 | n+1,k+1=>by
   have a:=Rat.mul_nonneg (show 0<=1-p by grind) (gb h0 h1 n (k+1))
   have b:=Rat.mul_nonneg h0 (gb h0 h1 n k)
   rw[wt];grind
def cu (p:Rat) (n m:Nat):Rat:=sm (wt p n) m
theorem Cg (p:Rat) (n m:Nat):cu p (n+1) (m+1)=(1-p)*cu p n (m+1)+p*cu p n m:=by
 simp only[cu]
 rw[ij,ij (wt p n)]
 have:sm (λ k=>wt p (n+1) (k+1)) m=(1-p)*sm (λ k=>wt p n (k+1)) m+p*sm (wt p n) m:=by
  rw[<-qv,<-qv,<-wW];exact oR λ k _=>by rw[wt]
 rw[this,wt];grind
theorem Cf (p:Rat) (n:Nat):cu p n 0=0:=rfl
theorem rV (p:Rat):∀ {n m:Nat},n<m->cu p n m=1
 | 0,m+1,_=>by
   rw[cu,ij,tj (λ k _=>by rw[wt]),wt];grind
 | n+1,m+1,h=>by rw[Cg,rV p (show n<m+1 by omega),rV p (show n<m by omega)];grind
theorem jS {p:Rat} (h0:0<=p) (h1:p<=1) (n:Nat) {a:Nat}:∀ {b:Nat},a<=b->cu p n a<=cu p n b
 | 0, h => by have : a = 0 := by omega
              subst this; exact Rat.le_refl
 | b+1,h=>by
   by_cases e:a=b+1
   ·subst e;exact Rat.le_refl
   ·have:=jS h0 h1 n (show a<=b by omega)
    have w:=gb h0 h1 n b
    simp only[cu,sm] at *;grind
theorem vQ {p:Rat} (h0:0<=p) (h1:p<=1) (n m:Nat):0<=cu p n m:=by
 have:=jS h0 h1 n (show 0<=m by omega);rw[Cf] at this;exact this
theorem GN {p:Rat} (h0:0<=p) (h1:p<=1) (n m:Nat):cu p n m<=1:=by
 have:=jS h0 h1 n (show m<=m+n+1 by omega);rw[rV p (show n<m+n+1 by omega)] at this;exact this
def rn (p:Rat) (n i d:Nat):Rat:=cu p n d-cu p n i
theorem AM {p:Rat} (h0:0<=p) (h1:p<=1) {n i d:Nat} (h:i<=d):0<=rn p n i d/\rn p n i d<=1:=by
 have a:=jS h0 h1 n h
 have b:=GN h0 h1 n d
 have c:=vQ h0 h1 n i
 unfold rn;constructor<;>grind
theorem Es {e x:Rat} (he:0<e) (h:0<e*x):0<x:=by
 by_cases hx:0<x
 ·exact hx
 ·have:=rle (show x<=0 by grind) (show 0<=e by grind);grind
theorem mq {e x:Rat} (he:0<e) (h:0<=e*x):0<=x:=by
 by_cases hx:0<=x
 ·exact hx
 ·have:=Rat.mul_pos he (show 0 < -x by grind);grind
theorem lK (r:Rat):(0:Int)<(r.den:Int):=by have:=r.den_nz;omega
theorem Gi (r:Rat):Int.gcd r.num (r.den:Int)=1:=by
 have:=r.reduced
 rw[Int.gcd];simpa [Nat.Coprime] using this
theorem Gj (r:Rat):(r.den:Rat)≠0:=by
 have:=r.den_nz
 intro h;exact this (by exact_mod_cast h)
theorem eQ (r:Rat):r*(r.den:Rat)=(r.num:Rat):=by
 have h:=Rat.mkRat_self r
 rw[Rat.mkRat_eq_div] at h
 have d:=Gj r
 generalize (r.num:Rat)=x at *
 generalize (r.den:Rat)=y at *
 grind
theorem gW {t b:Int} (h:b≠0) {r:Rat} (e:r*(b:Rat)=(t:Rat)):frT t b=r.num/\frB t b=(r.den:Int):=by
 refine GK h (lK r) (Gi r) ?_
 have s:=eQ r
 have:((t*(r.den:Int):Int):Rat)=((r.num*b:Int):Rat):=by push_cast;rw[<-e,<-s];grind
 exact_mod_cast this
theorem BX (r s:Rat):frT (r.num*s.den+s.num*r.den) (r.den*s.den)=(r+s).num
  /\ frB (r.num*s.den+s.num*r.den) (r.den*s.den)=((r+s).den:Int):=by
 refine gW (nN (lK r) (lK s)) ?_
 have a:=eQ r;have b:=eQ s
 push_cast;rw[<-a,<-b];grind
theorem zp (r s:Rat):frT (r.num*s.den-s.num*r.den) (r.den*s.den)=(r-s).num
  /\ frB (r.num*s.den-s.num*r.den) (r.den*s.den)=((r-s).den:Int):=by
 refine gW (nN (lK r) (lK s)) ?_
 have a:=eQ r;have b:=eQ s
 push_cast;rw[<-a,<-b];grind
theorem FA {a b:Int}:((a:Rat)<(b:Rat))↔a<b:=Rat.intCast_lt_intCast
theorem nD (r s:Rat):r.num*(s.den:Int)<s.num*(r.den:Int)↔r<s:=by
 have a:=eQ r;have b:=eQ s
 have dr:(0:Rat)<(r.den:Rat):=by exact_mod_cast (show 0<r.den by have:=r.den_nz;omega)
 have ds:(0:Rat)<(s.den:Rat):=by exact_mod_cast (show 0<s.den by have:=s.den_nz;omega)
 have p:=Rat.mul_pos dr ds
 rw[<-FA];push_cast;rw[<-a,<-b]
 constructor
 ·intro h
  have:=Es p (x:=s-r) (by grind);grind
 ·intro h
  have:=Rat.mul_pos p (show 0<s-r by grind);grind
theorem Em {r s:Rat} (h1:r.num=s.num) (h2:(r.den:Int)=(s.den:Int)):r=s:=by
 apply Rat.ext h1;exact_mod_cast h2
theorem pe (r:Rat):0<=r.num↔0<=r:=Rat.num_nonneg
theorem Dt (r:Rat):r.num<=(r.den:Int)↔r<=1:=by
 have:=nD 1 r
 have e1:(1:Rat).num=1:=rfl
 have e2:((1:Rat).den:Int)=1:=rfl
 rw[e1,e2] at this
 constructor
 ·intro h
  by_cases c:1<r
  ·exact absurd (this.mpr c) (by omega)
  ·grind
 ·intro h
  by_cases c:1*(r.den:Int)<r.num*1
  ·have:=this.mp c;grind
  ·omega
def rq (t b:Int):Rat:=(t:Rat) / (b:Rat)
def Ov (B:Nat) (r:Rat):Prop:=∃ m:Int,r*(B:Rat)=(m:Rat)
theorem Ov.dvd {B:Nat}{r:Rat} (h:Ov B r):r.den ∣ B:=by
 obtain⟨m,hm⟩:=h
 have s:=eQ r
 have:((r.num*(B:Int):Int):Rat)=((m*(r.den:Int):Int):Rat):=by push_cast;rw[<-hm,<-s];grind
 have e:r.num*(B:Int)=m*(r.den:Int):=by exact_mod_cast this
 have d:(r.den:Int) ∣ (B:Int):=nZ (k:=(r.den:Int)) (m:=r.num) ⟨m,by rw[e];exact Int.mul_comm _ _⟩ (by rw[Int.gcd_comm];exact Gi r)
 exact_mod_cast d
theorem Ov.self (r:Rat):Ov r.den r:=⟨r.num,eQ r⟩
theorem Ov.add {B:Nat}{r s:Rat} (h:Ov B r) (k:Ov B s):Ov B (r+s):=by
 obtain⟨a,ha⟩:=h;obtain⟨b,hb⟩:=k
 exact⟨a+b,by push_cast;rw[<-ha,<-hb];grind⟩
theorem Ov.sub {B:Nat}{r s:Rat} (h:Ov B r) (k:Ov B s):Ov B (r-s):=by
 obtain⟨a,ha⟩:=h;obtain⟨b,hb⟩:=k
 exact⟨a-b,by push_cast;rw[<-ha,<-hb];grind⟩
theorem Ov.mul {A B:Nat}{r s:Rat} (h:Ov A r) (k:Ov B s):Ov (A*B) (r*s):=by
 obtain⟨a,ha⟩:=h;obtain⟨b,hb⟩:=k
 exact⟨a*b,by push_cast;rw[<-ha,<-hb];grind⟩
theorem Ov.one (B:Nat):Ov B 1:=⟨(B:Int),by push_cast;grind⟩
theorem sK {p:Rat}{B:Nat} (h:Ov B p):∀ n k,Ov (B^n) (wt p n k)
 | 0,0=>by rw[wt];exact Ov.one _
 | 0,k+1=>by rw[wt];exact⟨0,by simp⟩
 | n+1,0=>by rw[wt,Nat.pow_succ,Nat.mul_comm];exact ((Ov.one B).sub h).mul (sK h n 0)
 | n+1,k+1=>by
   rw[wt,Nat.pow_succ,Nat.mul_comm]
   exact (((Ov.one B).sub h).mul (sK h n (k+1))).add (h.mul (sK h n k))
theorem Dk {B:Nat}{f:Nat->Rat} (h:∀ k,Ov B (f k)):∀ m,Ov B (sm f m)
 | 0=>⟨0,by simp [sm]⟩
 | m+1=>(Dk h m).add (h m)
theorem Dy {p:Rat}{B:Nat} (h:Ov B p) (n m:Nat):Ov (B^n) (cu p n m):=Dk (sK h n) m
theorem Gh {p:Rat}{B:Nat} (h:Ov B p) (n i d:Nat):Ov (B^n) (rn p n i d):=(Dy h n d).sub (Dy h n i)
structure RSz (n:Nat) (r:Rat):Prop where
 t:Sz n r.num
 b:Sz n (r.den:Int)
theorem RSz.of {n B:Nat}{r:Rat} (h:Ov B r) (hB:0<B) (hn:B<2^n) (h0:0<=r) (h1:r<=1):RSz n r:=by
 have a:=(pe r).mpr h0
 have b:=(Dt r).mpr h1
 have c:=Nat.le_of_dvd hB h.dvd
 constructor<;>(unfold Sz;omega)
theorem Du {b m:Nat} (h:b<2^m):∀ {n:Nat},0<n->b^n<2^(m*n)
 | 1,_=>by simpa using h
 | n+2,_=>by
   have i:=Du (b:=b) h (show 0<n+1 by omega)
   have e:b^(n+2)=b^(n+1)*b:=Nat.pow_succ b (n+1)
   have e2:2^(m*(n+2))=2^(m*(n+1))*2^m:=by rw[<-Nat.pow_add];congr 1
   rw[e,e2]
   exact Nat.mul_lt_mul'' i h
theorem kt (a b:Rat):∀ n:Nat,(a*b)^n=a^n*b^n
 | 0=>by simp
 | n+1=>by rw[Rat.pow_succ,Rat.pow_succ,Rat.pow_succ,kt a b n];grind
theorem oX (a:Rat) (m:Nat):∀ n:Nat,a^(m+n)=a^m*a^n
 | 0=>by simp
 | n+1=>by rw[<-Nat.add_assoc,Rat.pow_succ,Rat.pow_succ,oX a m n];grind
theorem gw (a:Int):∀ n:Nat,((a^n:Int):Rat)=(a:Rat)^n
 | 0=>by simp
 | n+1=>by rw[Int.pow_succ,Rat.pow_succ,<-gw a n];push_cast;rfl
def lE (p:Rat) (n k:Nat):Int:=(bE n k:Int)*p.num^k*((p.den:Int)-p.num)^(n-k)
theorem sI (p:Rat) {n k:Nat} (h:k<=n):wt p n k*(((p.den:Int)^n:Int):Rat)=((lE p n k:Int):Rat):=by
 obtain⟨m,rfl⟩:=Nat.exists_eq_add_of_le h
 have s:=eQ p
 have e1:k+m-k=m:=by omega
 rw[mL,lE,e1,gw,oX]
 push_cast
 have a1:p^k*(p.den:Rat)^k=(p.num:Rat)^k:=by rw[<-kt,s]
 have a2:(1-p)*(p.den:Rat)=(p.den:Rat)-(p.num:Rat):=by rw[<-s];grind
 have a3:(1-p)^m*(p.den:Rat)^m=((p.den:Rat)-(p.num:Rat))^m:=by rw[<-kt,a2]
 have i1:((p.num^k:Int):Rat)=(p.num:Rat)^k:=gw _ _
 have i2:((((p.den:Int)-p.num)^m:Int):Rat)=((p.den:Rat)-(p.num:Rat))^m:=by rw[gw];push_cast;rfl
 first
 | rw[i1,i2,<-a1,<-a3]
 | rw[<-a1,<-a3]
 generalize p^k=x
 generalize (1-p)^m=y
 grind
def ism (f:Nat->Int):Nat->Int
 | 0=>0
 | m+1=>ism f m+f m
theorem kQ {f:Nat->Int}{g:Nat->Rat}{c:Rat}:∀ {m:Nat},(∀ k,k<m->g k*c=(f k:Rat))->sm g m*c=((ism f m:Int):Rat)
 | 0,_=>by simp only[sm,ism];push_cast;grind
 | m+1,h=>by
   have i:=kQ (m:=m) λ k hk=>h k (by omega)
   have j:=h m (by omega)
   simp only[sm,ism];push_cast;grind
theorem Sz.powN {m:Nat}{b:Int} (h:Sz m b):∀ i:Nat,Sz (m*i+1) (b^i)
 | 0=>by rw[Int.pow_zero,Nat.mul_zero];show (1:Int).natAbs<2^1;decide
 | i+1=>by
   rw[Int.pow_succ]
   exact ((Sz.powN h i).mul h).mono (by rw[Nat.mul_succ];omega)
theorem lm:∀ n k:Nat,bE n k<=2^n
 | 0,0=>by decide
 | 0,k+1=>by simp [bE]
 | n+1,0=>by rw[b0];exact Nat.one_le_two_pow
 | n+1,k+1=>by
   have a:=lm n k
   have b:=lm n (k+1)
   rw[bs,Nat.pow_succ];omega
theorem oM (n k:Nat):Sz (n+1) (bE n k:Int):=by
 unfold Sz
 have:=lm n k
 rw[Nat.pow_succ]
 have:0<2^n:=Nat.two_pow_pos n
 omega
theorem DV {m:Nat}{a b:Int} (h0:0<=a) (h1:a<=b) (sb:Sz m b):Sz m (b-a):=by unfold Sz at *;omega
theorem CV {m:Nat}{a b:Int} (h0:0<=a) (h1:a<=b) (sb:Sz m b):Sz m a:=by unfold Sz at *;omega
def lJ (p:Rat) (n i j:Nat):Rat:=rn p n i (max i (j+1))
theorem mf {p:Rat} (h0:0<=p) (h1:p<=1) (n i j:Nat):0<=lJ p n i j/\lJ p n i j<=1:=AM h0 h1 (Nat.le_max_left _ _)
theorem tI {p:Rat}{B:Nat} (h:Ov B p) (n i j:Nat):Ov (B^n) (lJ p n i j):=Gh h n i _
end Gc
namespace Gc
def bR (r:Rat):List Rat->Nat
 | []=>0
 | x::xs=>if x<r then bR r xs+1 else 0
def pK (r:Rat) (l:List Rat):List Rat:=l.take (bR r l)++r::l.drop (bR r l)
theorem kN (r:Rat):∀ l:List Rat,bR r l<=l.length
 | []=>Nat.le_refl _
 | x::xs=>by
  have:=kN r xs
  rw[bR];split<;>(simp only[List.length_cons];omega)
theorem kM {r:Rat}:∀ {l:List Rat}{i:Nat}{x:Rat},i<bR r l->l[i]? = some x->x<r
 | y::ys,0,x,h,e=>by
  rw[List.getElem?_cons_zero] at e;cases e
  rw[bR] at h
  by_cases c:y<r
  ·exact c
  ·rw[if_neg c] at h;omega
 | y::ys,i+1,x,h,e=>by
  rw[List.getElem?_cons_succ] at e
  rw[bR] at h
  by_cases c:y<r
  ·rw[if_pos c] at h;exact kM (by omega) e
  ·rw[if_neg c] at h;omega
theorem pC {r:Rat}:∀ {l:List Rat}{x:Rat},l[bR r l]? = some x->¬ x<r
 | y::ys,x,e=>by
  rw[bR] at e
  by_cases c:y<r
  ·rw[if_pos c,List.getElem?_cons_succ] at e;exact pC e
  ·rw[if_neg c,List.getElem?_cons_zero] at e;cases e;exact c
theorem zf (r:Rat) (l:List Rat):(pK r l).length=l.length+1:=by
 have:=kN r l
 unfold pK;simp;omega
theorem y9 {r x:Rat}{l:List Rat}:x∈pK r l↔x=r∨x∈l:=by
 have:=List.take_append_drop (bR r l) l
 unfold pK
 constructor
 ·intro h
  rcases List.mem_append.mp h with h | h
  ·exact .inr (List.mem_of_mem_take h)
  ·rcases List.mem_cons.mp h with h | h
   ·exact .inl h
   ·exact .inr (List.mem_of_mem_drop h)
 ·rintro (h | h)
  ·subst h;simp
  ·rw[<-this] at h
   rcases List.mem_append.mp h with h | h
   ·exact List.mem_append.mpr (.inl h)
   ·exact List.mem_append.mpr (.inr (List.mem_cons_of_mem _ h))
abbrev Up (l:List Rat):Prop:=l.Pairwise (·<=·)
theorem Up.at {l:List Rat} (h:Up l) {i j:Nat}{x y:Rat} (hij:i<=j) (ex:l[i]? = some x) (ey:l[j]? = some y):x<=y:=by
 by_cases e:i=j
 ·subst e;rw[ex] at ey;cases ey;exact Rat.le_refl
 ·obtain⟨hi,rfl⟩:=List.getElem?_eq_some_iff.mp ex
  obtain⟨hj,rfl⟩:=List.getElem?_eq_some_iff.mp ey
  exact List.pairwise_iff_getElem.mp h i j hi hj (by omega)
def ib (p:Rat):List Rat->Nat
 | []=>0
 | x::xs=>if x<=p then ib p xs+1 else 0
theorem oG (p:Rat):∀ l:List Rat,ib p l<=l.length
 | []=>Nat.le_refl _
 | x::xs=>by
  have:=oG p xs
  rw[ib];split<;>(simp only[List.length_cons];omega)
theorem mt {p:Rat}{l:List Rat} (u:Up l) {i:Nat}{x:Rat} (e:l[i]? = some x):i<bR p l↔x<p:=by
 constructor
 ·exact λ h=>kM h e
 ·intro h
  by_cases c:i<bR p l
  ·exact c
  ·exfalso
   have hi:i<l.length:=(List.getElem?_eq_some_iff.mp e).1
   have hu:bR p l<l.length:=by omega
   have e0:=List.getElem?_eq_getElem hu
   have:=u.at (show bR p l<=i by omega) e0 e
   exact pC e0 (by grind)
theorem oH {r:Rat}:∀ {l:List Rat},Up l->(l.filter λ x=>decide (x<=r)).length=ib r l
 | [],_=>rfl
 | x::xs,u=>by
  obtain⟨h1,h2⟩:=List.pairwise_cons.mp u
  rw[ib]
  by_cases c:x<=r
  ·rw[if_pos c,List.filter_cons_of_pos (by simpa using c),List.length_cons,oH h2]
  ·rw[if_neg c,List.filter_cons_of_neg (by simpa using c)]
   have:(xs.filter λ x=>decide (x<=r)) = []:=List.filter_eq_nil_iff.mpr λ y hy=>by
    have:=h1 y hy
    simp;grind
   rw[this];rfl
end Gc
namespace Tx
open PySem PySem.Builtin.Str PySem.StrLaws
def go (P:Nat->Bool) (w:Nat):Nat->Nat->Nat->List Nat
 | _,_,0=>[]
 | i,free,n+1=>if free<=i/\P i=true then i::go P w (i+1) (i+w) n else go P w (i+1) free n
def iB (x y:Str) (j:Nat):Bool:=decide (j+y.length<=x.length) && subAt x y j
theorem jH (x y:Str) (limit:Nat):∀ (n i free:Nat) (acc:Array Nat),(forIn (List.range' i n) (acc,free) (occBody x y x.length limit)).run.fst.toList=acc.toList++(go (iB x y) y.length i free n).take (limit-acc.size)
 | 0,i,free,acc=>by simp [go]
 | n+1,i,free,acc=>by
  rw[List.range'_succ,List.forIn_cons]
  unfold occBody
  dsimp only
  by_cases h:free<=i/\iB x y i=true
  ·have h2:=h.2
   unfold iB at h2
   rw[Bool.and_eq_true,decide_eq_true_eq] at h2
   rw[go,if_pos h]
   by_cases hl:acc.size<limit
   ·rw[if_pos ⟨⟨⟨hl,h.1⟩,h2.1⟩,h2.2⟩]
    have:=jH x y limit n (i+1) (i+y.length) (acc.push i)
    refine Eq.trans this ?_
    rw[Array.toList_push,Array.size_push,List.append_assoc,show limit-acc.size=(limit-(acc.size+1))+1 by omega,List.take_succ_cons]
    rfl
   ·rw[if_neg (λ z=>hl z.1.1.1)]
    refine Eq.trans (jH x y limit n (i+1) free acc) ?_
    rw[show limit-acc.size=0 by omega,List.take_zero,List.take_zero]
  ·rw[go,if_neg h,if_neg (λ z=>h ⟨z.1.1.2,by unfold iB;rw[Bool.and_eq_true,decide_eq_true_eq];exact⟨z.1.2,z.2⟩⟩)]
   exact jH x y limit n (i+1) free acc
theorem iX (x y:Str) (limit:Nat):occurrences x y 0 x.length limit=(go (iB x y) y.length 0 0 (x.length+1)).take limit:=by
 rw[occ_eq]
 refine Eq.trans (jH x y limit _ _ _ _) ?_
 simp
theorem gx {P:Nat->Bool}{w free:Nat}:∀ (k i n:Nat),(∀ j,i<=j->j<i+k->P j=false∨j<free)->go P w i free (k+n)=go P w (i+k) free n
 | 0,i,n,_=>by rw[Nat.zero_add];rfl
 | k+1,i,n,h=>by
  rw[show k+1+n=(k+n)+1 by omega,go,if_neg,gx k (i+1) n (λ j h1 h2=>h j (by omega) (by omega)),show i+1+k=i+(k+1) by omega]
  rintro⟨a,b⟩
  rcases h i (Nat.le_refl _) (by omega) with z | z
  ·rw[z] at b;cases b
  ·omega
def jn (y:List Nat):List Str->List Nat
 | []=>[]
 | [p]=>p.cps.toList
 | p::q::r=>p.cps.toList++(y++jn y (q::r))
def iI (w:Nat):Nat->List Str->List Nat
 | _,[]=>[]
 | _,[_]=>[]
 | a,p::q::r=>(a+p.length)::iI w (a+p.length+w) (q::r)
theorem aB (p:Str):p.cps.toList.length=p.length:=by simp [Str.length]
theorem kR {x y:Str}{j:Nat}:iB x y j=true↔j+y.length<=x.length/\(x.cps.toList.drop j).take y.length=y.cps.toList:=by
 unfold iB
 rw[Bool.and_eq_true,decide_eq_true_eq,subAt_eq,beq_iff_eq]
theorem gv {x y:Str}{c:Nat}{r:List Nat} (hy:y.cps.toList=c::r) {j:Nat} (h:iB x y j=true):x.cps.toList[j]? = some c:=by
 have h2:=(kR.mp h).2
 rw[hy] at h2
 have e:((x.cps.toList.drop j).take y.length)[0]? = some c:=by rw[h2];rfl
 rw[List.getElem?_take] at e
 split at e
 ·rw[List.getElem?_drop] at e
  exact e
 ·cases e
theorem iC {x y:Str}{c:Nat}{r:List Nat} (hy:y.cps.toList=c::r):∀ (ps:List Str) (a n:Nat),ps≠[]->x.cps.toList.drop a=jn y.cps.toList ps->a+n=x.length+1->(∀ p∈ps,c ∉ p.cps.toList)->go (iB x y) y.length a a n=iI y.length a ps
 | [],_,_,h,_,_,_=>absurd rfl h
 | [p],a,n,_,hd,hn,hc=>by
  have e:=gx (P:=iB x y) (w:=y.length) (free:=a) n a 0 (λ j h1 h2=>.inl (by
   rw[Bool.eq_false_iff]
   intro z
   have q:=gv hy z
   have:(x.cps.toList.drop a)[j-a]? = some c:=by rw[List.getElem?_drop,show a+(j-a)=j by omega];exact q
   rw[hd] at this
   exact hc p (List.mem_singleton.mpr rfl) (List.mem_of_getElem? this)))
  rw[Nat.add_zero] at e
  rw[e]
  rfl
 | p::p'::ps,a,n,_,hd,hn,hc=>by
  have hw:y.length=r.length+1:=by rw[<-aB,hy];rfl
  have hd':x.cps.toList.drop a=p.cps.toList++(y.cps.toList++jn y.cps.toList (p'::ps)):=hd
  have hL:x.length-a=p.length+(y.length+(jn y.cps.toList (p'::ps)).length):=by
   have:=congrArg List.length hd'
   rw[List.length_drop,aB,List.length_append,List.length_append,aB,aB] at this
   exact this
  have hle:a+p.length+y.length<=x.length:=by omega
  have hd2:x.cps.toList.drop (a+p.length)=y.cps.toList++jn y.cps.toList (p'::ps):=by
   rw[<-List.drop_drop,hd',<-aB p,List.drop_left]
  have hd3:x.cps.toList.drop (a+p.length+y.length)=jn y.cps.toList (p'::ps):=by
   rw[<-List.drop_drop,hd2,<-aB y,List.drop_left]
  have yes:iB x y (a+p.length)=true:=kR.mpr ⟨hle,by rw[hd2,<-aB y,List.take_left]⟩
  obtain⟨m,rfl⟩:∃ m,n=p.length+(1+(r.length+m)):=⟨n-(p.length+(1+r.length)),by omega⟩
  rw[gx p.length a _ (λ j h1 h2=>.inl (by
   rw[Bool.eq_false_iff]
   intro z
   have q:=gv hy z
   have:(x.cps.toList.drop a)[j-a]? = some c:=by rw[List.getElem?_drop,show a+(j-a)=j by omega];exact q
   rw[hd',List.getElem?_append_left (by rw[aB];omega)] at this
   exact hc p (List.mem_cons_self ..) (List.mem_of_getElem? this)))]
  rw[show 1+(r.length+m)=(r.length+m)+1 by omega,go,if_pos ⟨by omega,yes⟩,gx r.length _ _ (λ j h1 h2=>.inr (by omega))]
  rw[show a+p.length+1+r.length=a+p.length+y.length by omega]
  rw[iC hy (p'::ps) (a+p.length+y.length) m (by simp) hd3 (by omega) (λ q hq=>hc q (List.mem_cons_of_mem _ hq))]
  rfl
theorem bJ {a b:Str} (h:a.cps.toList=b.cps.toList):a=b:=Str.ext' (Array.toList_inj.mp h)
theorem gS {x y:Str}:∀ (ps:List Str) (a:Nat),ps≠[]->x.cps.toList.drop a=jn y.cps.toList ps->partsFrom x y.length a (iI y.length a ps)=ps
 | [],_,h,_=>absurd rfl h
 | [p],a,_,hd=>by
  show [strSub x a x.length] = [p]
  refine congrArg (λ z=>[z]) (bJ ?_)
  rw[strSub_toList]
  have hd':x.cps.toList.drop a=p.cps.toList:=hd
  rw[hd',List.take_of_length_le]
  have:=congrArg List.length hd'
  rw[List.length_drop,aB] at this
  omega
 | p::p'::ps,a,_,hd=>by
  have hd':x.cps.toList.drop a=p.cps.toList++(y.cps.toList++jn y.cps.toList (p'::ps)):=hd
  have hd2:x.cps.toList.drop (a+p.length)=y.cps.toList++jn y.cps.toList (p'::ps):=by
   rw[<-List.drop_drop,hd',<-aB p,List.drop_left]
  have hd3:x.cps.toList.drop (a+p.length+y.length)=jn y.cps.toList (p'::ps):=by
   rw[<-List.drop_drop,hd2,<-aB y,List.drop_left]
  show strSub x a (a+p.length)::partsFrom x y.length (a+p.length+y.length) (iI y.length (a+p.length+y.length) (p'::ps))=_
  rw[gS (p'::ps) _ (by simp) hd3]
  refine congrArg (· :: p'::ps) (bJ ?_)
  rw[strSub_toList,hd',show a+p.length-a=p.length by omega,<-aB p,List.take_left]
theorem jP (y:Str):∀ (ps:List Str),(Str.join y ps).cps.toList=jn y.cps.toList ps
 | []=>rfl
 | [p]=>rfl
 | p::q::r=>by
  show (p++y++Str.join y (q::r)).cps.toList=_
  rw[Str.cps_append,Str.cps_append,Array.toList_append,Array.toList_append,jP y (q::r),List.append_assoc]
  rfl
theorem pE (x:Str):1<=PySem.Builtin.Str.strKind x:=by
 unfold PySem.Builtin.Str.strKind
 split
 ·exact Nat.le_refl _
 ·split<;>omega
theorem dX {y:Str}{c:Nat}{r:List Nat} (hy:y.cps.toList=c::r) (hk:PySem.Builtin.Str.strKind y=1) (ps:List Str) (h0:ps≠[]) (hc:∀ p∈ps,c ∉ p.cps.toList):Txt.split (Txt.join y ps) y=ps:=by
 have hj:(Txt.join y ps).cps.toList=jn y.cps.toList ps:=by
  show (glued y ps).cps.toList=_
  rw[glued_eq_join]
  exact jP y ps
 have ho:occurrences (Txt.join y ps) y 0 (Txt.join y ps).length ((Txt.join y ps).length+1)=iI y.length 0 ps:=by
  rw[iX,iC hy ps 0 _ h0 (by rw[List.drop_zero];exact hj) (by omega) hc]
  refine List.take_of_length_le ?_
  have:occurrences (Txt.join y ps) y 0 (Txt.join y ps).length ((Txt.join y ps).length+1)=(iI y.length 0 ps).take ((Txt.join y ps).length+1):=by
   rw[iX,iC hy ps 0 _ h0 (by rw[List.drop_zero];exact hj) (by omega) hc]
  have gl:∀ (P:Nat->Bool) (w n i f:Nat),(go P w i f n).length<=n:=by
   intro P w n
   induction n with
   | zero=>intro i f;simp [go]
   | succ n ih =>
    intro i f
    rw[go]
    split
    ·rw[List.length_cons];have:=ih (i+1) (i+w);omega
    ·have:=ih (i+1) f;omega
  have g1:=gl (iB (Txt.join y ps) y) y.length ((Txt.join y ps).length+1) 0 0
  rw[iC hy ps 0 _ h0 (by rw[List.drop_zero];exact hj) (by omega) hc] at g1
  exact g1
 unfold Txt.split
 rw[ho]
 match ps,h0,hc,hj with
 | [p],_,_,_ =>
  have e:Txt.join y [p]=p:=rfl
  rw[e]
  simp [iI]
 | p::q::rest,h0,_,hj =>
  have hl:y.length<=(Txt.join y (p::q::rest)).length:=by
   rw[<-aB,<-aB,hj]
   show _<=(p.cps.toList++(y.cps.toList++jn y.cps.toList (q::rest))).length
   rw[List.length_append,List.length_append]
   omega
  rw[if_neg,if_neg (by simp [iI]),partsBetween_eq,gS _ 0 h0 (by rw[List.drop_zero];exact hj)]
  rw[Bool.or_eq_true,decide_eq_true_eq,decide_eq_true_eq,hk]
  have:=pE (Txt.join y (p::q::rest))
  omega
theorem iY {x a y b:Str}{c:Nat}{r:List Nat} (hy:y.cps.toList=c::r) (hx:x=a++(y++b)) (hc:c ∉ a.cps.toList):occurrences x y 0 x.length 1 = [a.length]:=by
 have hd:x.cps.toList=a.cps.toList++(y.cps.toList++b.cps.toList):=by rw[hx,Str.cps_append,Str.cps_append,Array.toList_append,Array.toList_append]
 have hL:x.length=a.length+(y.length+b.length):=by
  rw[<-aB x,hd,List.length_append,List.length_append,aB,aB,aB]
 have yes:iB x y a.length=true:=kR.mpr ⟨by omega,by rw[hd,<-aB a,List.drop_left,<-aB y,List.take_left]⟩
 obtain⟨m,hm⟩:∃ m,x.length+1=a.length+(m+1):=⟨y.length+b.length,by omega⟩
 rw[iX,hm,gx a.length 0 _ (λ j h1 h2=>.inl (by
  rw[Bool.eq_false_iff]
  intro z
  have q:=gv hy z
  rw[hd,List.getElem?_append_left (by rw[aB];omega)] at q
  exact hc (List.mem_of_getElem? q)))]
 rw[Nat.zero_add,go,if_pos ⟨Nat.zero_le _,yes⟩]
 rfl
theorem j8 {x a z:Str} (hx:x=a++z):strSub x 0 a.length=a:=bJ (by
 rw[strSub_toList,hx,Str.cps_append,Array.toList_append,List.drop_zero,Nat.sub_zero,<-aB a,List.take_left])
theorem iN {x a y b:Str} (hx:x=a++(y++b)):strSub x (a.length+y.length) x.length=b:=bJ (by
 have hd:x.cps.toList=a.cps.toList++(y.cps.toList++b.cps.toList):=by rw[hx,Str.cps_append,Str.cps_append,Array.toList_append,Array.toList_append]
 have hL:x.length=a.length+(y.length+b.length):=by
  rw[<-aB x,hd,List.length_append,List.length_append,aB,aB,aB]
 rw[strSub_toList,hd,<-List.drop_drop,<-aB a,List.drop_left,<-aB y,List.drop_left,List.take_of_length_le]
 rw[aB,aB,aB]
 omega)
theorem cJ (a b c:Str):a++b++c=a++(b++c):=bJ (by simp [Str.cps_append])
end Tx
namespace Tx
open PySem PySem.Builtin.Str PySem.StrLaws
noncomputable def wds:List Str:=["-1","0","1","2","3","4","5","6","7","8","9","10","11","12","13"]
noncomputable def wd (i:Int):Str:=wds.getD (i+1).toNat ""
def sF (i:Int):Prop:=-1<=i/\i<=13
theorem Hv {i:Int} (h:sF i):∃ k:Fin 15,i=(k.val:Int)-1/\wd i=wds.getD k.val "":=by
 obtain⟨h1,h2⟩:=h
 refine⟨⟨(i+1).toNat,by omega⟩,by show i=(((i+1).toNat:Nat):Int)-1;omega,rfl⟩
noncomputable def bB (w:Str):Str:=if Txt.startswith w "-" = true then Txt.slice w (some 1) none else w
def FIG:Str:="0123456789"
def okW (k:Fin 15):Bool :=
 let w:=wds.getD k.val ""
 decide (w.length<=3) && decide (1<=(bB w).length) && decide ((bB w).length<=3) && (bB w).cps.all (· < 128) && (bB w).cps.all (λ c=>Txt.contains FIG ⟨#[c]⟩) &&
 !(Txt.startswith (bB w) "0" && (Txt.startswith w "-" || decide ((bB w).length>1))) && decide (intText? w=some ((k.val:Int)-1)) && decide (((toString ((k.val:Int)-1):String):Str)=w) &&
 w.cps.all (λ c=>c != 32 && c != 58 && c != 59)
theorem Br:∀ k:Fin 15,okW k=true:=by decide +kernel
structure Wd (i:Int):Prop where
 len:(wd i).length<=3
 l1:1<=(bB (wd i)).length
 l3:(bB (wd i)).length<=3
 asc:(bB (wd i)).cps.all (· < 128)=true
 fig:∀ (j c:Nat),(bB (wd i)).cps[j]? = some c->Txt.contains FIG ⟨#[c]⟩=true
 nou:(Txt.startswith (bB (wd i)) "0" && (Txt.startswith (wd i) "-" || decide ((bB (wd i)).length>1)))=false
 int:intText? (wd i)=some i
 str:((toString i:String):Str)=wd i
 no:∀ c∈(wd i).cps.toList,c≠32/\c≠58/\c≠59
theorem lV {i:Int} (h:sF i):Wd i:=by
 obtain⟨k,rfl,e⟩:=Hv h
 have o:=Br k
 unfold okW at o
 dsimp only at o
 rw[<-e] at o
 simp only[Bool.and_eq_true,decide_eq_true_eq,Bool.not_eq_true'] at o
 obtain⟨⟨⟨⟨⟨⟨⟨⟨a1,a2⟩,a3⟩,a4⟩,a5⟩,a6⟩,a7⟩,a8⟩,a9⟩:=o
 refine⟨a1,a2,a3,a4,λ j c hc=>?_,a6,a7,a8,λ c hc=>?_⟩
 ·rw[Array.all_eq_true_iff_forall_mem] at a5
  exact a5 c (Array.mem_of_getElem? hc)
 ·rw[Array.all_eq_true_iff_forall_mem] at a9
  have:=a9 c (Array.mem_def.mpr hc)
  simp at this
  exact⟨this.1.1,this.1.2,this.2⟩
noncomputable def prS (b:Int×Int):Str:=wd b.1 ++ " " ++ wd b.2
noncomputable def qd (n:Int) (bs:List (Int×Int)):Str:=wd n ++ ": " ++ Txt.join "; " (bs.map prS)
def InP (b:Int×Int):Prop:=sF b.1/\sF b.2
theorem Ep {b:Int×Int} (h:InP b):59 ∉ (prS b).cps.toList:=by
 unfold prS
 rw[Str.cps_append,Str.cps_append,Array.toList_append,Array.toList_append]
 simp only[List.mem_append,not_or]
 exact⟨⟨λ z=>((lV h.1).no _ z).2.2 rfl,by decide +kernel⟩,λ z=>((lV h.2).no _ z).2.2 rfl⟩
theorem uQ {b:Int×Int} (h:InP b):Txt.split (prS b) " " = [wd b.1,wd b.2]:=by
 have e:prS b=Txt.join " " [wd b.1,wd b.2]:=by
  show _=glued _ _
  rw[glued_eq_join]
  rfl
 rw[e]
 refine dX (c:=32) (r:=[]) (by decide +kernel) (by decide +kernel) _ (by simp) λ p hp=>?_
 rcases List.mem_cons.mp hp with rfl | hp
 ·exact λ z=>((lV h.1).no _ z).1 rfl
 ·cases List.mem_singleton.mp hp
  exact λ z=>((lV h.2).no _ z).1 rfl
theorem sr {bs:List (Int×Int)} (h0:bs≠[]) (h:∀ b∈bs,InP b):Txt.split (Txt.join "; " (bs.map prS)) "; " = bs.map prS:=by
 refine dX (c:=59) (r:=[32]) (by decide +kernel) (by decide +kernel) _ (by simpa using h0) λ p hp=>?_
 obtain⟨b,hb,rfl⟩:=List.mem_map.mp hp
 exact Ep (h b hb)
theorem sv {n:Int} (hn:sF n) (bs:List (Int×Int)):L2.cq (qd n bs) ": " = [wd n,": ",Txt.join "; " (bs.map prS)]:=by
 have e:qd n bs=wd n++(": " ++ Txt.join "; " (bs.map prS)):=cJ _ _ _
 unfold L2.cq
 rw[iY (c:=58) (r:=[32]) (by decide +kernel) e (λ z=>((lV hn).no _ z).2.1 rfl)]
 dsimp only
 rw[j8 e,iN e]
theorem pL (a len:Nat):strSliceIndices (some (a:Int)) none 1 len=strSliceIndices (some (a:Int)) (some (len:Int)) 1 len:=by
 have h:¬ ((len:Int)<0):=by omega
 have e:max (0:Int) (min (len:Int) (len:Int))=len:=by omega
 simp only[strSliceIndices,h,if_false,e,show ((1:Int)>0)=True from by simp,if_true]
theorem dY {x a b:Str}{k:Nat} (hx:x=a++b) (hk:a.length=k):Txt.slice x (some (k:Int)) none=b:=by
 have hd:x.cps.toList=a.cps.toList++b.cps.toList:=by rw[hx,Str.cps_append,Array.toList_append]
 have hL:x.length=a.length+b.length:=by rw[<-aB x,hd,List.length_append,aB,aB]
 have e:=sliced_plain x (a:=k) (b:=x.length) (by omega) (Nat.le_refl _)
 rw[<-pL,hd,<-hk,<-aB a,List.drop_left,aB,List.take_of_length_le (by rw[aB];omega)] at e
 unfold Txt.slice
 split
 ·rename_i h
  have h2:(strSliceIndices (some (k:Int)) none 1 x.length).length=x.length:=by simpa using h
  rw[pL,strSliceIndices_plain (by omega) (Nat.le_refl _),List.length_map,List.length_range] at h2
  refine bJ ?_
  have ha:a.cps.toList = []:=List.eq_nil_of_length_eq_zero (by rw[aB];omega)
  have hb:0<x.length∨x.length=0:=by omega
  rw[hd,ha,List.nil_append]
 ·refine bJ ?_
  rw[<-hk]
  simpa using e
end Tx
namespace Tx
open PySem PySem.Builtin.Str PySem.StrLaws
def num (i:Int):Str:=Str.ofString (toString i)
theorem fE (m:Nat):(num (m:Int)).cps.toList=(Nat.toDigits 10 m).map Char.toNat:=PySem.W.KIN.signs_num m
theorem Bu (m:Nat):num (-((m+1:Nat):Int)) = "-" ++ num ((m+1:Nat):Int):=by
 refine bJ ?_
 rw[Str.cps_append,Array.toList_append,fE]
 unfold num
 rw[PyProof.Rows.signs_ofString]
 rw[show -((m+1:Nat):Int)=Int.negSucc m from rfl]
 show ("-" ++ Nat.repr (m+1)).toList.map Char.toNat=_
 rw[String.toList_append,List.map_append,Nat.toList_repr]
 rfl
theorem Hs:∀ m:Nat,1<=m->∃ c r,Nat.toDigits 10 m=c::r/\c≠'0':=λ m=>by
 induction m using Nat.strongRecOn with
 | _ m ih =>
  intro h1
  by_cases h:m<10
  ·refine⟨_,[],Nat.toDigits_of_lt_base h,?_⟩
   have:∀ k,k<10->1<=k->Nat.digitChar k≠'0':=by decide
   exact this m h h1
  ·rw[Nat.toDigits_of_base_le (by decide) (by omega)]
   obtain⟨c,r,e,hc⟩:=ih (m / 10) (by omega) (by omega)
   rw[e]
   exact⟨c,_,rfl,hc⟩
theorem rS (m:Nat):∀ c∈(num (m:Int)).cps.toList,48<=c/\c<=57:=by
 intro c hc
 rw[fE] at hc
 obtain⟨ch,hch,e⟩:=List.mem_map.mp hc
 have r:=PyProof.Rows.digit_range (Nat.isDigit_of_mem_toDigits (by decide) (by decide) hch)
 rw[<-e]
 exact r
theorem ub {m k:Nat} (hk:1<=k) (h:m<10^k):1<=(num (m:Int)).length/\(num (m:Int)).length<=k:=by
 rw[<-aB,fE,List.length_map]
 exact⟨PySem.toDigits_len_ge 10 m,PySem.toDigits_len_pow (by decide) hk h⟩
theorem sw1 {x y:Str}{c d:Nat}{r:List Nat} (hx:x.cps.toList=c::r) (hy:y.cps.toList = [d]):Txt.startswith x y=(c == d):=by
 have l1:x.length=r.length+1:=by rw[<-aB,hx];rfl
 have l2:y.length=1:=by rw[<-aB,hy];rfl
 unfold Txt.startswith
 rw[subAt_eq,hx,hy,l1,l2,decide_eq_true (by omega),Bool.true_and]
 simp
structure Nm (i:Int):Prop where
 len:(num i).length<=61
 l1:1<=(bB (num i)).length
 l3:(bB (num i)).length<=60
 asc:(bB (num i)).cps.all (· < 128)=true
 fig:∀ (j c:Nat),(bB (num i)).cps[j]? = some c->Txt.contains FIG ⟨#[c]⟩=true
 nou:(Txt.startswith (bB (num i)) "0" && (Txt.startswith (num i) "-" || decide ((bB (num i)).length>1)))=false
 int:intText? (num i)=some i
 no:∀ c∈(num i).cps.toList,c≠32/\c≠47/\c≠58/\c≠59
theorem Fr:∀ c:Nat,c<58->48<=c->Txt.contains FIG ⟨#[c]⟩=true:=by decide +kernel
theorem py (m:Nat):∃ c r,(num (m:Int)).cps.toList=c::r/\(c=48->m=0)/\48<=c:=by
 have hd:=rS m
 by_cases h:m=0
 ·subst h
  exact⟨48,[],by decide +kernel,λ _=>rfl,Nat.le_refl _⟩
 ·obtain⟨c,r,e,hc⟩:=Hs m (by omega)
  rw[fE,e] at hd
  refine⟨c.toNat,r.map Char.toNat,by rw[fE,e];rfl,λ z=>?_,(hd _ (List.mem_cons_self ..)).1⟩
  exfalso
  apply hc
  exact Char.ext (UInt32.toNat_inj.mp z)
theorem kK {i:Int} (h:i.natAbs<10^60):Nm i:=by
 have key:∀ m:Nat,m<10^60->((num (m:Int)).cps.all (· < 128)=true)/\(∀ (j c:Nat),(num (m:Int)).cps[j]? = some c->Txt.contains FIG ⟨#[c]⟩=true):=λ m hm=>by
  refine⟨?_,λ j c hc=>?_⟩
  ·rw[Array.all_eq_true_iff_forall_mem]
   intro c hc
   have:=rS m c (Array.mem_def.mp hc)
   exact decide_eq_true (by omega)
  ·have:=rS m c (Array.mem_def.mp (Array.mem_of_getElem? hc))
   exact Fr c (by omega) this.1
 cases i with
 | ofNat m =>
  have hm:m<10^60:=h
  show Nm ((m:Nat):Int)
  obtain⟨c,r,e,h0,h48⟩:=py m
  obtain⟨a1,a2⟩:=ub (by decide) hm
  obtain⟨k1,k2⟩:=key m hm
  have sw:Txt.startswith (num (m:Int)) "-" = false:=by
   rw[sw1 e (d:=45) (by decide +kernel)]
   exact beq_false_of_ne (by omega)
  have ef:bB (num (m:Int))=num (m:Int):=by unfold bB;rw[sw];rfl
  refine⟨by omega,by rw[ef];exact a1,by rw[ef];exact a2,by rw[ef];exact k1,by rw[ef];exact k2,?_,?_,λ c hc=>?_⟩
  ·rw[ef,sw,Bool.false_or,sw1 e (d:=48) (by decide +kernel)]
   by_cases z:c=48
   ·have z0:=h0 z
    subst z0
    rw[show decide ((num ((0:Nat):Int)).length>1)=false by decide +kernel,Bool.and_false]
   ·rw[beq_false_of_ne z,Bool.false_and]
  ·have:=PySem.W.KIN.val_back m
   rw[intText_digits (λ c hc=>rS m c hc) (by rw[e];simp) (by omega),fE,this]
  ·have:=rS m c hc
   omega
 | negSucc m =>
  have hm:m+1<10^60:=h
  show Nm (-((m+1:Nat):Int))
  obtain⟨c,r,e,h0,h48⟩:=py (m+1)
  obtain⟨a1,a2⟩:=ub (by decide) hm
  obtain⟨k1,k2⟩:=key (m+1) hm
  have en:=Bu m
  have hn:(num (-((m+1:Nat):Int))).cps.toList=45::(num ((m+1:Nat):Int)).cps.toList:=by
   rw[en,Str.cps_append,Array.toList_append]
   rfl
  have sw:Txt.startswith (num (-((m+1:Nat):Int))) "-" = true:=by
   rw[sw1 hn (d:=45) (by decide +kernel)]
   rfl
  have ef:bB (num (-((m+1:Nat):Int)))=num ((m+1:Nat):Int):=by
   unfold bB
   rw[sw,if_pos rfl]
   exact dY (k:=1) en (by decide +kernel)
  have ll:(num (-((m+1:Nat):Int))).length=(num ((m+1:Nat):Int)).length+1:=by
   rw[<-aB,hn,List.length_cons,aB]
  refine⟨by omega,by rw[ef];exact a1,by rw[ef];exact a2,by rw[ef];exact k1,by rw[ef];exact k2,?_,?_,λ c hc=>?_⟩
  ·rw[ef,sw1 e (d:=48) (by decide +kernel),beq_false_of_ne (λ z=>by have:=h0 z;omega),Bool.false_and]
  ·have:=PySem.W.KIN.val_back (m+1)
   rw[intText_neg hn (λ c hc=>rS (m+1) c hc) (by rw[e];simp) (by omega),fE,this]
  ·rw[hn] at hc
   rcases List.mem_cons.mp hc with rfl | hc
   ·decide
   ·have:=rS (m+1) c hc
    omega
theorem E8 {x y:Str}{c:Nat}{r:List Nat} (hy:y.cps.toList=c::r) (hc:c ∉ x.cps.toList):occurrences x y 0 x.length 1 = []:=by
 have e:=gx (P:=iB x y) (w:=y.length) (free:=0) (x.length+1) 0 0 (λ j h1 h2=>.inl (by
  rw[Bool.eq_false_iff]
  intro z
  exact hc (List.mem_of_getElem? (gv hy z))))
 rw[Nat.add_zero] at e
 rw[iX,e]
 rfl
end Tx
namespace Tx
open PySem PySem.Builtin.Str PySem.StrLaws
noncomputable def frS (p:Int×Int):Str:=if p.2=1 then num p.1 else num p.1 ++ "/" ++ num p.2
structure FrB (p:Int×Int):Prop where
 a:p.1.natAbs<10^60
 b1:1<=p.2
 b:p.2.natAbs<10^60
theorem nX {p:Int×Int} (h:FrB p):∀ c∈(frS p).cps.toList,c≠32/\c≠58/\c≠59:=by
 have n1:=(kK h.a).no
 have n2:=(kK h.b).no
 unfold frS
 split
 ·intro c hc
  have:=n1 c hc
  omega
 ·intro c hc
  rw[Str.cps_append,Str.cps_append,Array.toList_append,Array.toList_append] at hc
  rcases List.mem_append.mp hc with hc | hc
  ·rcases List.mem_append.mp hc with hc | hc
   ·have:=n1 c hc
    omega
   ·have e:("/":Str).cps.toList = [47]:=by decide +kernel
    rw[e] at hc
    cases List.mem_singleton.mp hc
    decide
  ·have:=n2 c hc
   omega
theorem l9:("/":Str).length=1:=by decide +kernel
theorem vI {p:Int×Int} (h:FrB p):L2.cq (frS p) "/" = if p.2=1 then [num p.1,Str.empty,Str.empty] else [num p.1,"/",num p.2]:=by
 have n1:=(kK h.a).no
 by_cases hp:p.2=1
 ·have e:frS p=num p.1:=if_pos hp
  rw[if_pos hp,e]
  unfold L2.cq
  rw[E8 (c:=47) (r:=[]) (by decide +kernel) (λ z=>(n1 _ z).2.1 rfl)]
 ·have e:frS p=num p.1++("/" ++ num p.2):=(if_neg hp).trans (cJ _ _ _)
  rw[if_neg hp]
  unfold L2.cq
  rw[iY (c:=47) (r:=[]) (by decide +kernel) e (λ z=>(n1 _ z).2.1 rfl)]
  dsimp only
  rw[j8 e,iN e]
def prF (s:(Int×Int)×(Int×Int)):Str:=frS s.1 ++ " " ++ frS s.2
def PrB (s:(Int×Int)×(Int×Int)):Prop:=FrB s.1/\FrB s.2
def o9 (n:Int) (ss:List ((Int×Int)×(Int×Int))):Str:=num n ++ ": " ++ Txt.join "; " (ss.map prF)
theorem Er {b:(Int×Int)×(Int×Int)} (h:PrB b):59 ∉ (prF b).cps.toList:=by
 unfold prF
 rw[Str.cps_append,Str.cps_append,Array.toList_append,Array.toList_append]
 simp only[List.mem_append,not_or]
 exact⟨⟨λ z=>(nX h.1 _ z).2.2 rfl,by decide +kernel⟩,λ z=>(nX h.2 _ z).2.2 rfl⟩
theorem uR {b:(Int×Int)×(Int×Int)} (h:PrB b):Txt.split (prF b) " " = [frS b.1,frS b.2]:=by
 have e:prF b=Txt.join " " [frS b.1,frS b.2]:=by
  show _=glued _ _
  rw[glued_eq_join]
  rfl
 rw[e]
 refine dX (c:=32) (r:=[]) (by decide +kernel) (by decide +kernel) _ (by simp) λ p hp=>?_
 rcases List.mem_cons.mp hp with rfl | hp
 ·exact λ z=>(nX h.1 _ z).1 rfl
 ·cases List.mem_singleton.mp hp
  exact λ z=>(nX h.2 _ z).1 rfl
theorem o7 {bs:List ((Int×Int)×(Int×Int))} (h0:bs≠[]) (h:∀ b∈bs,PrB b):Txt.split (Txt.join "; " (bs.map prF)) "; " = bs.map prF:=by
 refine dX (c:=59) (r:=[32]) (by decide +kernel) (by decide +kernel) _ (by simpa using h0) λ p hp=>?_
 obtain⟨b,hb,rfl⟩:=List.mem_map.mp hp
 exact Er (h b hb)
theorem o8 {n:Int} (hn:n.natAbs<10^60) (bs:List ((Int×Int)×(Int×Int))):L2.cq (o9 n bs) ": " = [num n,": ",Txt.join "; " (bs.map prF)]:=by
 have e:o9 n bs=num n++(": " ++ Txt.join "; " (bs.map prF)):=cJ _ _ _
 unfold L2.cq
 rw[iY (c:=58) (r:=[32]) (by decide +kernel) e (λ z=>((kK hn).no _ z).2.2.1 rfl)]
 dsimp only
 rw[j8 e,iN e]
end Tx
namespace L2
open PySem PySem.Spec PyProof.Rows
section
variable {X:Cx}
def bU (b:Bool) (u:Value):Bool:=match u with
 | .bool c=>c == b
 | _=>false
theorem zW {A:Around}{s:Shared}{b:Bool}:∀ {bs:List Bool}{us:List Value},bg (bs.map V.bl) us->us=bs.map Value.bool
 | [],_,.nil=>rfl
 | c::bs,u::us,.cons r t=>by
  have e:u=.bool c:=r
  rw[e,zW (A:=A) (s:=s) (b:=b) t]
  rfl
theorem zC {A:Around}{s:Shared}{b:Bool}{bs:List Bool}:∀ u∈bs.map Value.bool,SeqAt.EqAt A s u (.bool b) (bU b u):=λ u hu=>by
 obtain⟨c,_,rfl⟩:=List.mem_map.mp hu
 exact SeqAt.EqAt.bool_bool c b
theorem vq:MtM X "list.count" (λ x vs H Q=>∃ (l:Addr) (bs:List Bool) (b:Bool),x=.ref l/\vs = [.bl b]/\H l=some (.lst (bs.map V.bl))/\Q (.int ((bs.count b:Nat):Int)) H):=by
 intro pins s σ H x vs v us Q I rx rv h
 obtain⟨l,bs,b,rfl,rfl,hH,q⟩:=h
 cases rx
 obtain⟨u,rfl,ru⟩:=rv.one
 obtain rfl:u=Value.bool b:=ru
 obtain⟨z,its,n,r,hl,e⟩:=I.lstM hH
 have ei:=zW (A:=X.A) (s:=s) (b:=b) r
 subst ei
 refine call_meets F.slot_list_count ⟨_,e,rfl⟩ F.entry_list_count (F.args_list_count_2 _ _) (SeqAt.list_countAt l _ n none #[] (.bool b) (bU b)) ⟨e,λ y hy=>zC y (by simpa using hy),?_⟩
 refine⟨.int _,H,I.tok _,⟨_,rfl⟩,?_⟩
 have ec:(bs.map Value.bool).countP (bU b)=bs.count b:=by
  rw[List.countP_map,List.count]
  rfl
 have ea:((bs.map Value.bool).toArray.toList).countP (bU b)=bs.count b:=ec
 rw[ea]
 exact q
theorem vp:MtM X "list.index" (λ x vs H Q=>∃ (l:Addr) (bs:List Bool) (b:Bool) (j:Nat),x=.ref l/\vs = [.bl b]/\H l=some (.lst (bs.map V.bl))/\bs[j]? = some b/\(∀ i c,i<j->bs[i]? = some c->c≠b)/\j<1000/\Q (.int ((j:Nat):Int)) H):=by
 intro pins s σ H x vs v us Q I rx rv h
 obtain⟨l,bs,b,j,rfl,rfl,hH,hj,hno,j9,q⟩:=h
 cases rx
 obtain⟨u,rfl,ru⟩:=rv.one
 obtain rfl:u=Value.bool b:=ru
 obtain⟨z,its,n,r,hl,e⟩:=I.lstM hH
 have ei:=zW (A:=X.A) (s:=s) (b:=b) r
 subst ei
 have jl:j<bs.length:=(List.getElem?_eq_some_iff.mp hj).1
 have hjs:j<(bs.map Value.bool).toArray.size:=by simp;exact jl
 refine call_meets F.slot_list_index ⟨_,e,rfl⟩ F.entry_list_index (F.args_list_index_2 _ _) (SeqAt.list_indexAt l _ n none #[] (.bool b) (bU b) j hjs (by omega) ?_ ?_) ⟨e,λ y hy=>zC y (by simpa using hy),?_⟩
 ·have:bs[j]=b:=(List.getElem?_eq_some_iff.mp hj).2
  simp [bU,this]
 ·intro m hm hmj
  have ml:m<bs.length:=by omega
  have:=hno m bs[m] hmj (List.getElem?_eq_getElem ml)
  simp [bU,this]
 ·exact⟨.int _,H,I.tok _,⟨_,rfl⟩,q⟩
end
end L2
namespace Tx
open PySem PySem.Builtin.Str PySem.StrLaws
def jr (c:Nat):Bool:=Txt.contains FIG ⟨#[c]⟩
def e9 (x:Str):Bool:=decide (1<=(bB x).length) && (decide ((bB x).length<=60) && (bB x).cps.toList.all jr)
def kG (x:Str):Bool:=Txt.startswith (bB x) "0" && (Txt.startswith x "-" || decide ((bB x).length>1))
def bI (x:Str):Option Int:=if e9 x=true/\kG x=false then intText? x else none
theorem mz {c:Nat}:jr c=true↔48<=c/\c<=57:=by
 have e:FIG.cps.toList = [48,49,50,51,52,53,54,55,56,57]:=by decide +kernel
 unfold jr Txt.contains
 rw[found_one,e,decide_eq_true_eq]
 simp only[List.mem_cons,List.not_mem_nil,or_false]
 omega
theorem Fx {x:Str} (h:Txt.startswith x "-" = true):∃ r:Str,x = "-" ++ r:=by
 have ey:("-":Str).cps.toList = [45]:=by decide +kernel
 have el:("-":Str).length=1:=by decide +kernel
 unfold Txt.startswith at h
 rw[Bool.and_eq_true,subAt_eq,beq_iff_eq,ey,el,List.drop_zero] at h
 obtain⟨_,h⟩:=h
 cases hx:x.cps.toList with
 | nil=>rw[hx] at h;cases h
 | cons c r =>
  rw[hx] at h
  have hc:c=45:=by simpa using h
  refine⟨⟨r.toArray⟩,bJ ?_⟩
  rw[Str.cps_append,Array.toList_append,ey,hx,hc]
  simp
theorem uz {x:Str} (h:e9 x=true):x.length<=61/\∃ n,intText? x=some n:=by
 unfold e9 at h
 rw[Bool.and_eq_true,Bool.and_eq_true,decide_eq_true_eq,decide_eq_true_eq,List.all_eq_true] at h
 obtain⟨h1,h2,h3⟩:=h
 have hd:∀ c∈(bB x).cps.toList,48<=c/\c<=57:=λ c hc=>mz.mp (h3 c hc)
 cases hs:Txt.startswith x "-" with
 | false =>
  have ef:bB x=x:=by unfold bB;rw[hs];rfl
  rw[ef] at h1 h2 hd
  refine⟨by omega,_,intText_digits hd (λ z=>?_) (by omega)⟩
  rw[<-aB,z] at h1
  exact absurd h1 (by decide)
 | true =>
  obtain⟨r,rfl⟩:=Fx hs
  have ef:bB ("-" ++ r)=r:=by
   unfold bB
   rw[hs,if_pos rfl]
   exact dY (k:=1) rfl (by decide +kernel)
  rw[ef] at h1 h2 hd
  have el:("-":Str).length=1:=by decide +kernel
  have ey:("-":Str).cps.toList = [45]:=by decide +kernel
  have ll:("-" ++ r:Str).length=r.length+1:=by rw[Str.length_append,el];omega
  refine⟨by omega,_,intText_neg (cs:=r.cps.toList) (by rw[Str.cps_append,Array.toList_append,ey];rfl) hd (λ z=>?_) (by omega)⟩
  rw[<-aB,z] at h1
  exact absurd h1 (by decide)
theorem B2 (x:Str):(bB x).length<=x.length:=by
 unfold bB
 split
 ·exact Txt.slice_le x _ _
 ·exact Nat.le_refl _
theorem zz {x:Str} (h:x.cps.all (· < 128)=true):(bB x).cps.all (· < 128)=true:=by
 cases hs:Txt.startswith x "-" with
 | false =>
  have ef:bB x=x:=by unfold bB;rw[hs];rfl
  rw[ef];exact h
 | true =>
  obtain⟨r,rfl⟩:=Fx hs
  have ef:bB ("-" ++ r)=r:=by
   unfold bB
   rw[hs,if_pos rfl]
   exact dY (k:=1) rfl (by decide +kernel)
  rw[ef]
  rw[Array.all_eq_true_iff_forall_mem] at h ⊢
  intro c hc
  refine h c ?_
  rw[Str.cps_append]
  exact Array.mem_append.mpr (.inr hc)
end Tx
namespace Tx
open PySem PySem.Builtin.Str PySem.StrLaws
def Asc (x:Str):Prop:=x.cps.all (· < 128)=true
theorem b8 {x:Str}:Asc x↔∀ c∈x.cps.toList,c<128:=by
 unfold Asc
 rw[Array.all_eq_true_iff_forall_mem]
 simp only[decide_eq_true_eq]
 exact⟨λ h c hc=>h c (Array.mem_def.mpr hc),λ h c hc=>h c (Array.mem_def.mp hc)⟩
theorem mQ {x:Str} (h:Asc x) (i j:Nat):Asc (strSub x i j):=b8.mpr λ c hc=>by
 rw[strSub_toList] at hc
 exact b8.mp h c (List.mem_of_mem_drop (List.mem_of_mem_take hc))
theorem mP (x:Str) (i j:Nat):(strSub x i j).length<=x.length:=by
 rw[<-aB,<-aB,strSub_toList,List.length_take,List.length_drop]
 omega
theorem mJ:Asc Str.empty:=by
 show Str.empty.cps.all (· < 128)=true
 decide +kernel
theorem pr (x y:Str):(∃ i,L2.cq x y = [strSub x 0 i,y,strSub x (i+y.length) x.length])∨L2.cq x y = [x,Str.empty,Str.empty]:=by
 unfold L2.cq
 cases occurrences x y 0 x.length 1 with
 | nil=>exact .inr rfl
 | cons i r=>exact .inl ⟨i,rfl⟩
theorem jg (x y:Str) (hx:Asc x) (hy:Asc y):∃ a m b,L2.cq x y = [a,m,b]/\Asc a/\Asc m/\Asc b/\a.length<=x.length/\b.length<=x.length:=by
 rcases pr x y with ⟨i,e⟩ | e
 ·exact⟨_,_,_,e,mQ hx _ _,hy,mQ hx _ _,mP _ _ _,mP _ _ _⟩
 ·exact⟨_,_,_,e,hx,mJ,mJ,Nat.le_refl _,Nat.zero_le _⟩
def fg (x:Str):Option (Int×Int):=match L2.cq x "/" with
 | [a,m,b]=>(bI a).bind λ t=>if m=Str.empty then some (t,1) else (bI b).bind λ d=>if d<2∨Int.gcd t d≠1 then none else some (t,d)
 | _=>none
end Tx
namespace Tx
open PySem PySem.Builtin.Str PySem.StrLaws
theorem gi {x y:Str} (hx:Asc x):∀ z∈Txt.split x y,Asc z/\z.length<=x.length:=by
 intro z hz
 unfold Txt.split at hz
 split at hz
 ·cases List.mem_singleton.mp hz
  exact⟨hx,Nat.le_refl _⟩
 ·split at hz
  ·cases List.mem_singleton.mp hz
   exact⟨hx,Nat.le_refl _⟩
  ·simp only[partsBetween,List.mem_map] at hz
   obtain⟨p,_,rfl⟩:=hz
   exact⟨mQ hx _ _,mP _ _ _⟩
theorem fP (x y:Str):(Txt.split x y).length<=x.length+2:=by
 unfold Txt.split
 split
 ·show 1<=_;omega
 ·split
  ·show 1<=_;omega
  ·rw[partsBetween_eq]
   have:∀ (cs:List Nat) (a:Nat),(partsFrom x y.length a cs).length=cs.length+1:=by
    intro cs
    induction cs with
    | nil=>intro a;rfl
    | cons c r ih=>intro a;show (partsFrom x y.length (c+y.length) r).length+1=_;rw[ih];rfl
   rw[this,iX,List.length_take]
   omega
def dE (b:Bool) (x:Str):Option L2.Th:=if b=true then (fg x).map (λ p=>.tup [.int p.1,.int p.2]) else (bI x).map .int
def bL (b:Bool) (x:Str):Option (L2.Th×L2.Th):=match Txt.split x " " with
 | [u,v]=>(dE b u).bind λ t1=>(dE b v).bind λ t2=>some (t1,t2)
 | _=>none
end Tx
namespace Tx
open PySem PySem.Builtin.Str PySem.StrLaws
def fk {α:Type}:List (Option α)->Option (List α)
 | []=>some []
 | some a::r=>(fk r).map (a :: ·)
 | none::_=>none
theorem fj {α:Type}:∀ ps:List α,fk (ps.map some)=some ps
 | []=>rfl
 | a::r=>by
  show (fk (r.map some)).map (a :: ·)=_
  rw[fj r]
  rfl
theorem i8 {α:Type}:∀ {l:List (Option α)},none∈l->fk l=none
 | none::_,_=>rfl
 | some a::r,h=>by
  rcases List.mem_cons.mp h with h | h
  ·cases h
  ·show (fk r).map (a :: ·)=none
   rw[i8 h]
   rfl
def dO (b:Bool) (x:Str):Option (Int×List (L2.Th×L2.Th)):=match L2.cq x ": " with
 | [a,_,c]=>(bI a).bind λ n=>(fk ((Txt.split c "; ").map (bL b))).map λ ps=>(n,ps)
 | _=>none
def bO (b:Bool):L2.Th->Option (Int×List (L2.Th×L2.Th))
 | .str x=>dO b x
 | _=>none
end Tx
namespace Tx
open PySem PySem.Builtin.Str PySem.StrLaws
theorem um:∀ (cs:List Nat) (acc:Nat),(∀ c∈cs,48<=c/\c<=57)->cs.foldl (λ acc c=>acc*10+(c-48)) acc<(acc+1)*10^cs.length
 | [],acc,_=>by simp
 | c::r,acc,h=>by
  have h2:=h c (List.mem_cons_self ..)
  have h1:=um r (acc*10+(c-48)) (λ d hd=>h d (List.mem_cons_of_mem _ hd))
  rw[List.foldl_cons,List.length_cons,Nat.pow_succ]
  refine Nat.lt_of_lt_of_le h1 ?_
  rw[Nat.mul_comm (10^r.length) 10,<-Nat.mul_assoc]
  exact Nat.mul_le_mul_right _ (by omega)
theorem Gq {k:Nat} (h:k<=60):10^k<=10^60:=Nat.pow_le_pow_right (by decide) h
theorem jV {x:Str}{n:Int} (h:bI x=some n):n.natAbs<10^60:=by
 unfold bI at h
 split at h
 ·rename_i hh
  have ho:=hh.1
  unfold e9 at ho
  rw[Bool.and_eq_true,Bool.and_eq_true,decide_eq_true_eq,decide_eq_true_eq,List.all_eq_true] at ho
  obtain⟨h1,h2,h3⟩:=ho
  have hd:∀ c∈(bB x).cps.toList,48<=c/\c<=57:=λ c hc=>mz.mp (h3 c hc)
  have lt:=um (bB x).cps.toList 0 hd
  rw[aB,Nat.zero_add,Nat.one_mul] at lt
  have lt2:=Nat.lt_of_lt_of_le lt (Gq h2)
  cases hs:Txt.startswith x "-" with
  | false =>
   have ef:bB x=x:=by unfold bB;rw[hs];rfl
   rw[ef] at h1 h2 hd lt2
   rw[intText_digits hd (λ z=>by rw[<-aB,z] at h1;exact absurd h1 (by decide)) (by omega)] at h
   cases h
   exact lt2
  | true =>
   obtain⟨r,rfl⟩:=Fx hs
   have ef:bB ("-" ++ r)=r:=by
    unfold bB
    rw[hs,if_pos rfl]
    exact dY (k:=1) rfl (by decide +kernel)
   rw[ef] at h1 h2 hd lt2
   have el:("-":Str).length=1:=by decide +kernel
   have ey:("-":Str).cps.toList = [45]:=by decide +kernel
   have ll:("-" ++ r:Str).length=r.length+1:=by rw[Str.length_append,el];omega
   rw[intText_neg (cs:=r.cps.toList) (by rw[Str.cps_append,Array.toList_append,ey];rfl) hd (λ z=>by rw[<-aB,z] at h1;exact absurd h1 (by decide)) (by omega)] at h
   cases h
   rw[Int.natAbs_neg]
   exact lt2
 ·cases h
end Tx
namespace Tx
open PySem PySem.Builtin.Str PySem.StrLaws
theorem ui {x:Str}{p:Int×Int} (h:fg x=some p):p.1.natAbs<10^60/\p.2.natAbs<10^60:=by
 unfold fg at h
 split at h
 ·rename_i a m b _
  cases ha:bI a with
  | none=>rw[ha] at h;cases h
  | some t =>
   rw[ha] at h
   have h':(if m=Str.empty then some (t,1) else (bI b).bind λ d=>if d<2∨Int.gcd t d≠1 then none else some (t,d))=some p:=h
   by_cases c:m=Str.empty
   ·rw[if_pos c] at h'
    cases h'
    exact⟨jV ha,(show (1:Int).natAbs<10^60 by decide)⟩
   ·rw[if_neg c] at h'
    cases hb:bI b with
    | none=>rw[hb] at h';cases h'
    | some d =>
     rw[hb] at h'
     have h2:(if d<2∨Int.gcd t d≠1 then none else some (t,d))=some p:=h'
     by_cases e:d<2∨Int.gcd t d≠1
     ·rw[if_pos e] at h2;cases h2
     ·rw[if_neg e] at h2
      cases h2
      exact⟨jV ha,jV hb⟩
 ·cases h
theorem qf {α:Type}:∀ {l:List (Option α)}{ps:List α},fk l=some ps->∀ p∈ps,some p∈l
 | [],ps,h,p,hp=>by cases h;exact absurd hp (by simp)
 | none::l,ps,h,p,hp=>by cases h
 | some a::l,ps,h,p,hp=>by
  have h':(fk l).map (a :: ·)=some ps:=h
  cases e:fk l with
  | none=>rw[e] at h';cases h'
  | some qs =>
   rw[e] at h'
   cases h'
   rcases List.mem_cons.mp hp with rfl | hp
   ·exact .head _
   ·exact .tail _ (qf e p hp)
theorem yd {b:Bool}{t:L2.Th}{n:Int}{ps:List (L2.Th×L2.Th)} (h:bO b t=some (n,ps)):∀ p∈ps,∃ x,bL b x=some p:=by
 cases t with
 | str x =>
  have h':dO b x=some (n,ps):=h
  unfold dO at h'
  split at h'
  ·rename_i a m c _
   cases ha:bI a with
   | none=>rw[ha] at h';cases h'
   | some k =>
    rw[ha] at h'
    have h2:(fk ((Txt.split c "; ").map (bL b))).map (λ ps=>(k,ps))=some (n,ps):=h'
    cases e:fk ((Txt.split c "; ").map (bL b)) with
    | none=>rw[e] at h2;cases h2
    | some qs =>
     rw[e] at h2
     cases h2
     intro p hp
     obtain⟨x,_,hx⟩:=List.mem_map.mp (qf e p hp)
     exact⟨x,hx⟩
  ·cases h'
 | _=>cases h
theorem uY {b:Bool}{x:Str}{p:L2.Th×L2.Th} (h:bL b x=some p):∃ u v,dE b u=some p.1/\dE b v=some p.2:=by
 unfold bL at h
 split at h
 ·rename_i u v _
  cases e1:dE b u with
  | none=>rw[e1] at h;cases h
  | some t1 =>
   rw[e1] at h
   cases e2:dE b v with
   | none=>rw[e2] at h;cases h
   | some t2 =>
    rw[e2] at h
    cases h
    exact⟨u,v,e1,e2⟩
 ·cases h
theorem pW {u:Str}{t:L2.Th} (h:dE true u=some t):∃ p,t=.tup [.int p.1,.int p.2]/\fg u=some p:=by
 unfold dE at h
 rw[if_pos rfl] at h
 cases e:fg u with
 | none=>rw[e] at h;cases h
 | some p=>rw[e] at h;cases h;exact⟨p,rfl,rfl⟩
end Tx
namespace Tx
open PySem PySem.Builtin.Str PySem.StrLaws
theorem BP (k n:Nat):strSliceIndices none (some (k:Int)) 1 n=strSliceIndices (some (0:Int)) (some ((min k n:Nat):Int)) 1 n:=by
 unfold strSliceIndices
 have e:max 0 (min (k:Int) (n:Int))=max 0 (min ((min k n:Nat):Int) (n:Int)):=by omega
 have z1:¬ (k:Int)<0:=by omega
 have z2:¬ ((min k n:Nat):Int)<0:=by omega
 simp only[if_neg z1,if_neg z2,show (1:Int)>0 by decide,if_true]
 rw[e]
 congr 1
theorem wX (x:Str) (k:Nat):(Txt.slice x none (some (k:Int))).cps.toList=x.cps.toList.take k:=by
 have e:=sliced_plain x (a:=0) (b:=min k x.length) (by omega) (by omega)
 unfold Txt.slice
 rw[BP]
 have tk:x.cps.toList.take (min k x.length)=x.cps.toList.take k:=by
  by_cases c:k<=x.length
  ·rw[Nat.min_eq_left c]
  ·rw[Nat.min_eq_right (by omega),List.take_of_length_le (by rw[aB];omega),List.take_of_length_le (by rw[aB];omega)]
 split
 ·rename_i h
  have h2:(strSliceIndices (some (0:Int)) (some ((min k x.length:Nat):Int)) 1 x.length).length=x.length:=by simpa using h
  have hp:=strSliceIndices_plain (a:=0) (b:=min k x.length) (len:=x.length) (by omega) (by omega)
  have h2':(strSliceIndices (some ((0:Nat):Int)) (some ((min k x.length:Nat):Int)) 1 x.length).length=x.length:=h2
  rw[hp,List.length_map,List.length_range] at h2'
  rw[List.take_of_length_le (by rw[aB];omega)]
 ·rw[List.drop_zero,Nat.sub_zero,tk] at e
  rw[<-e]
  simp
end Tx
namespace Tx
open PySem PySem.Builtin.Str PySem.StrLaws
theorem cg {x y:Str} (hx:Asc x) (hy:Asc y):Asc (x++y):=b8.mpr λ c hc=>by
 rw[Str.cps_append,Array.toList_append] at hc
 rcases List.mem_append.mp hc with hc | hc
 ·exact b8.mp hx c hc
 ·exact b8.mp hy c hc
structure Ws (S N:Nat) (ws:List Str):Prop where
 asc:∀ w∈ws,Asc w
 sum:(ws.map (·.length)).sum<=S
 len:ws.length<=N
theorem Ws.ok {S N:Nat}{ws:List Str} (h:Ws S N ws) {y:Str}{k:Nat} (ly:y.length<=k) (hs:S+N*k<=16777216):JoinOk y ws=true:=by
 unfold JoinOk
 rw[Bool.not_eq_true']
 have e:(2:Nat)^24=16777216:=by decide
 have h1:=h.sum
 have h2:ws.length*y.length<=N*k:=Nat.mul_le_mul h.len ly
 show tooLong (ws.toArray.foldl (λ a p=>a+p.length+y.length) 0)=false
 rw[joinTotal]
 unfold tooLong sizeLine
 exact decide_eq_false (by omega)
theorem uA:∀ c:Nat,c<128->∀ d∈Unicode.upperOf c,d<128:=by decide +kernel
theorem oJ {x:Str} (hx:Asc x):Asc (Txt.upper x)/\(Txt.upper x).length<=3*x.length:=by
 refine⟨b8.mpr λ d hd=>?_,placedRaw_le3 x.cps (λ _ c=>Unicode.upperOf c) λ _ c=>upperOf_le3 c⟩
 have hd':d∈((x.cps.mapIdx λ i c=>(Unicode.upperOf c).toArray).flatten):=Array.mem_def.mpr hd
 obtain⟨a,ha,hda⟩:=Array.mem_flatten.mp hd'
 obtain⟨i,hi,rfl⟩:=Array.mem_mapIdx.mp ha
 have:d∈Unicode.upperOf x.cps[i]:=by simpa using hda
 exact uA _ (b8.mp hx _ (by simp)) d this
theorem gf {i:Int} (h:i.natAbs<10^60):bI (num i)=some i:=by
 have n:=kK h
 unfold bI
 have o:e9 (num i)=true:=by
  unfold e9
  rw[decide_eq_true n.l1,decide_eq_true n.l3,List.all_eq_true.mpr λ c hc=>?_]
  ·rfl
  ·obtain⟨j,hj⟩:=List.getElem?_of_mem hc
   exact n.fig j c (by rw[<-Array.getElem?_toList];exact hj)
 rw[if_pos ⟨o,n.nou⟩,n.int]
theorem pP {p:Int×Int} (h:FrB p) (g:Int.gcd p.1 p.2=1):fg (frS p)=some p:=by
 unfold fg
 rw[vI h]
 by_cases c:p.2=1
 ·rw[if_pos c]
  dsimp only
  rw[gf h.a]
  rw[Option.bind_some,if_pos rfl,<-c]
 ·rw[if_neg c]
  dsimp only
  rw[gf h.a,gf h.b]
  show (if ("/":Str)=Str.empty then some (p.1,1) else if p.2<2∨Int.gcd p.1 p.2≠1 then none else some (p.1,p.2))=_
  have b1:=h.b1
  rw[if_neg (by decide +kernel),if_neg (λ z=>z.elim (λ z=>by omega) λ z=>z g)]
def fT (s:(Int×Int)×(Int×Int)):L2.Th×L2.Th:=(.tup [.int s.1.1,.int s.1.2],.tup [.int s.2.1,.int s.2.2])
def OkS (s:(Int×Int)×(Int×Int)):Prop:=PrB s/\Int.gcd s.1.1 s.1.2=1/\Int.gcd s.2.1 s.2.2=1
theorem uM {n:Int}{ss:List ((Int×Int)×(Int×Int))} (hn:n.natAbs<10^60) (h0:ss≠[]) (h:∀ s∈ss,OkS s):bO true (.str (o9 n ss))=some (n,ss.map fT):=by
 show dO true (o9 n ss)=_
 unfold dO
 rw[o8 hn]
 dsimp only
 rw[gf hn,o7 h0 λ s hs=>(h s hs).1,List.map_map]
 have e:ss.map (bL true ∘ prF)=(ss.map fT).map some:=by
  rw[List.map_map]
  refine List.map_congr_left λ s hs=>?_
  show bL true (prF s)=some (fT s)
  obtain⟨hb,g1,g2⟩:=h s hs
  unfold bL
  rw[uR hb]
  dsimp only
  unfold dE
  rw[if_pos rfl,if_pos rfl,pP hb.1 g1,pP hb.2 g2]
  rfl
 rw[e,fj]
 rfl
theorem jU {i:Int} (h:sF i):bI (wd i)=some i:=by
 have n:=lV h
 unfold bI
 have o:e9 (wd i)=true:=by
  unfold e9
  rw[decide_eq_true n.l1,decide_eq_true (Nat.le_trans n.l3 (by decide)),List.all_eq_true.mpr λ c hc=>?_]
  ·rfl
  ·obtain⟨j,hj⟩:=List.getElem?_of_mem hc
   exact n.fig j c (by rw[<-Array.getElem?_toList];exact hj)
 rw[if_pos ⟨o,n.nou⟩,n.int]
def iT (b:Int×Int):L2.Th×L2.Th:=(.int b.1,.int b.2)
theorem uN {n:Int}{bs:List (Int×Int)} (hn:sF n) (h0:bs≠[]) (h:∀ b∈bs,InP b):bO false (.str (qd n bs))=some (n,bs.map iT):=by
 show dO false (qd n bs)=_
 unfold dO
 rw[sv hn]
 dsimp only
 rw[jU hn,sr h0 h,List.map_map]
 have e:bs.map (bL false ∘ prS)=(bs.map iT).map some:=by
  rw[List.map_map]
  refine List.map_congr_left λ s hs=>?_
  show bL false (prS s)=some (iT s)
  obtain⟨h1,h2⟩:=h s hs
  unfold bL
  rw[uQ (h s hs)]
  dsimp only
  unfold dE
  rw[if_neg Bool.false_ne_true,if_neg Bool.false_ne_true,jU h1,jU h2]
  rfl
 rw[e,fj]
 rfl
end Tx
namespace L2
open PySem PySem.Spec PyProof.Rows
def tS0 (r:Str->Hp->VK->Prop) (to:TE):TE:=λ σ H Q=>to σ H λ x H1=>∃ a,x=.str a/\r a H1 Q
section
variable {X:Cx}{o a e:Expr}{to ta te:TE}{t:TA}{es:List Expr}{apos pos p1 p2:Pos}
theorem yk (ho:PE X o to) (hbase:attributeBase o "upper" X.env (eval o X.env)=eval o X.env:=by rfl) (hline:(apos.endLine == pos.line)=true:=by rfl) :
  PE X (.Call (.Attribute o "upper" apos) [] [] pos) (tS0 (λ a H Q=>Builtin.Str.tooLong (Txt.upper a).length=false/\Q (.str (Txt.upper a)) H) to):=by
 intro pins s σ H Q I h
 refine Call_method0 hbase hline (thn (ho pins s σ H _ I h) λ v s1 ⟨x,H1,I1,r1,a,e1,hf,q1⟩=>?_)
 subst e1
 obtain⟨t,rfl⟩:=r1
 exact SB.upper hf ⟨.str _,H1,I1.tok _,⟨_,rfl⟩,q1⟩
end
end L2
namespace L2
open PySem PySem.Spec PyProof.Rows
section
variable {κ:Type} [DecidableEq κ]
noncomputable def ce (kvs:List (κ×V)) (k:κ):Option V:=(kvs.find? λ kv=>decide (kv.1=k)).map (·.2)
def cM (kvs:List (κ×V)) (k:κ) (v:V):List (κ×V) :=
 if (kvs.any λ kv=>decide (kv.1=k))=true then kvs.map (λ kv=>if kv.1=k then (kv.1,v) else kv) else kvs++[(k,v)]
noncomputable def fV (kvs:List (κ×V)) (k:κ):List (κ×V):=kvs.filter λ kv=>decide (kv.1≠k)
theorem b9 {p:κ×V}{r:List (κ×V)}{k:κ} (e:p.1=k):ce (p::r) k=some p.2:=by simp [ce,List.find?_cons,e]
theorem cb {p:κ×V}{r:List (κ×V)}{k:κ} (e:¬ p.1=k):ce (p::r) k=ce r k:=by simp [ce,List.find?_cons,e]
theorem ia (k:κ):∀ kvs:List (κ×V),(kvs.any λ kv=>decide (kv.1=k))=(ce kvs k).isSome
 | []=>rfl
 | p::r=>by
  rw[List.any_cons]
  by_cases e:p.1=k
  ·simp only[b9 e,decide_eq_true e,Bool.true_or,Option.isSome_some]
  ·rw[cb e,decide_eq_false e,Bool.false_or];exact ia k r
theorem oF (k j:κ) (y:V):∀ kvs:List (κ×V),ce (kvs.map λ kv=>if kv.1=k then (kv.1,y) else kv) j=(ce kvs j).map λ x=>if j=k then y else x
 | []=>rfl
 | p::r=>by
  have ih:=oF k j y r
  rw[List.map_cons]
  by_cases h:p.1=k
  ·rw[if_pos h]
   by_cases e:p.1=j
   ·rw[b9 (p:=(p.1,y)) e,b9 e,Option.map_some,if_pos (e.symm.trans h)]
   ·rw[cb (p:=(p.1,y)) e,cb e,ih]
  ·rw[if_neg h]
   by_cases e:p.1=j
   ·rw[b9 (p:=p) e,b9 e,Option.map_some,if_neg (λ z=>h (e.trans z))]
   ·rw[cb (p:=p) e,cb e,ih]
theorem lZ (k j:κ) (y:V):∀ kvs:List (κ×V),ce kvs k=none->ce (kvs++[(k,y)]) j=if j=k then some y else ce kvs j
 | [],_=>by
  by_cases e:k=j
  ·rw[if_pos e.symm];exact b9 (p:=(k,y)) e
  ·rw[if_neg (λ z=>e z.symm)];exact cb (p:=(k,y)) e
 | p::r,hn=>by
  rw[List.cons_append]
  have hk:¬ p.1=k:=λ z=>by rw[b9 z] at hn;cases hn
  rw[cb hk] at hn
  have ih:=lZ k j y r hn
  by_cases e:p.1=j
  ·rw[b9 e,b9 e,if_neg (λ z=>hk (e.trans z))]
  ·rw[cb e,cb e,ih]
theorem eU (kvs:List (κ×V)) (k j:κ) (y:V):ce (cM kvs k y) j=if j=k then some y else ce kvs j:=by
 unfold cM
 by_cases a:(kvs.any λ kv=>decide (kv.1=k))=true
 ·rw[if_pos a,oF]
  rw[ia] at a
  by_cases e:j=k
  ·obtain⟨x,hx⟩:=Option.isSome_iff_exists.mp a
   rw[if_pos e,e,hx,Option.map_some,if_pos rfl]
  ·rw[if_neg e]
   cases ce kvs j with
   | none=>rfl
   | some x=>rw[Option.map_some,if_neg e]
 ·rw[if_neg a]
  refine lZ k j y kvs ?_
  rw[ia] at a
  cases q:ce kvs k with
  | none=>rfl
  | some x=>rw[q] at a;exact (a rfl).elim
theorem cH (kvs:List (κ×V)) (k:κ) (v:V):(cM kvs k v).length<=kvs.length+1:=by
 unfold cM
 split
 ·rw[List.length_map];omega
 ·rw[List.length_append,List.length_cons,List.length_nil];omega
theorem fM.isSome_eq {o:Option V}{u:Option Value} (r:fM o u):o.isSome=u.isSome:=by
 cases o with
 | none=>cases u with
  | none=>rfl
  | some _=>exact (show False from r).elim
 | some _=>cases u with
  | none=>exact (show False from r).elim
  | some _=>rfl
theorem KV.val {kvs:List (κ×V)}{vs:List (κ×Value)} (r:KV kvs vs) (k:κ):fM (ce kvs k) (valueAt vs k):=by
 unfold KV at r
 induction r with
 | nil=>exact True.intro
 | @cons p q ps qs h t ih =>
  obtain⟨h1,h2⟩:=h
  by_cases e:p.1=k
  ·have e':q.1=k:=h1.symm.trans e
   have b:valueAt (q::qs) k=some q.2:=by simp [valueAt,List.find?_cons,e']
   rw[b9 e,b];exact h2
  ·have e':¬ q.1=k:=λ z=>e (h1.trans z)
   have b:valueAt (q::qs) k=valueAt qs k:=by simp [valueAt,List.find?_cons,e']
   rw[cb e,b];exact ih
theorem KV.any {kvs:List (κ×V)}{vs:List (κ×Value)} (r:KV kvs vs) (k:κ):(kvs.any λ kv=>decide (kv.1=k))=vs.any λ kv=>decide (kv.1=k):=by
 unfold KV at r
 induction r with
 | nil=>rfl
 | cons h t ih=>rw[List.any_cons,List.any_cons,ih,h.1]
theorem KV.repl {kvs:List (κ×V)}{vs:List (κ×Value)} (r:KV kvs vs) (k:κ) {y:V}{u:Value} (ry:bw y u) :
  KV (kvs.map λ kv=>if kv.1=k then (kv.1,y) else kv) (vs.map λ kv=>if kv.1=k then (kv.1,u) else kv):=by
 unfold KV at r ⊢
 induction r with
 | nil=>exact .nil
 | @cons p q ps qs h t ih =>
  rw[List.map_cons,List.map_cons]
  refine .cons ?_ ih
  obtain⟨h1,h2⟩:=h
  by_cases e:p.1=k
  ·rw[if_pos e,if_pos (h1.symm.trans e)];exact⟨h1,ry⟩
  ·rw[if_neg e,if_neg (λ z=>e (h1.trans z))];exact⟨h1,h2⟩
theorem KV.put {kvs:List (κ×V)}{vs:List (κ×Value)} (r:KV kvs vs) (k:κ) {y:V}{u:Value} (ry:bw y u):KV (cM kvs k y) (stored vs k u):=by
 unfold cM stored
 rw[r.any k]
 by_cases e:(vs.any λ kv=>decide (kv.1=k))=true
 ·rw[if_pos e,if_pos e];exact r.repl k ry
 ·rw[if_neg e,if_neg e];exact Paired.snoc r ⟨rfl,ry⟩
theorem KV.drop {kvs:List (κ×V)}{vs:List (κ×Value)} (r:KV kvs vs) (k:κ):KV (fV kvs k) (without vs k):=by
 unfold KV at r ⊢
 unfold fV without
 induction r with
 | nil=>exact .nil
 | @cons p q ps qs h t ih =>
  obtain⟨h1,h2⟩:=h
  rw[List.filter_cons,List.filter_cons]
  by_cases e:p.1=k
  ·have a:¬ decide (p.1≠k)=true:=by simp [e]
   have b:¬ decide (q.1≠k)=true:=by simp [h1.symm.trans e]
   rw[if_neg a,if_neg b];exact ih
  ·have e':¬ q.1=k:=λ z=>e (h1.trans z)
   have a:decide (p.1≠k)=true:=by simp [e]
   have b:decide (q.1≠k)=true:=by simp [e']
   rw[if_pos a,if_pos b];exact .cons ⟨h1,h2⟩ ih
theorem KV.length {kvs:List (κ×V)}{vs:List (κ×Value)} (r:KV kvs vs):kvs.length=vs.length:=Paired.length r
theorem pZ (kvs:List (κ×V)) (k:κ):(fV kvs k).length<=kvs.length:=List.length_filter_le _ _
end
theorem jq {P:Program}{w:World}{k:Key}{u:Value} (r:bw (kV k) u):(bN P w).is k u=true:=by
 cases k with
 | inl i=>obtain⟨t,e⟩:=(show ∃ t,u=Value.int i t from r);subst e;exact pB P w i t
 | inr x=>obtain⟨t,e⟩:=(show ∃ t,u=Value.str x t from r);subst e;exact jj P w x t
theorem mx {P:Program}{w:World}:∀ {ks:List Key}{us:List Value},bg (ks.map kV) us->ItemsAre (bN P w) ks us
 | [],_,r=>by rw[List.map_nil] at r;cases r;exact .nil
 | k::ks,_,r=>by
  rw[List.map_cons] at r
  cases r with
  | cons h t=>exact .cons (jq h) (mx t)
abbrev KT (H:Hp):List (List Key×V)->List (List Key×Addr×Value)->Prop:=Paired λ p q=>p.1=q.1/\H q.2.1=some (.tup (p.1.map kV))/\bw p.2 q.2.2
theorem KT.val {H:Hp}{kvs:List (List Key×V)}{xs:List (List Key×Addr×Value)} (r:KT H kvs xs) (k:List Key):fM (ce kvs k) ((atKey xs k).map (·.2)):=by
 induction r with
 | nil=>exact True.intro
 | @cons p q ps qs h t ih =>
  obtain⟨h1,_,h2⟩:=h
  by_cases e:p.1=k
  ·have e':q.1=k:=h1.symm.trans e
   have b:atKey (q::qs) k=some q.2:=by simp [atKey,List.find?_cons,e']
   rw[b9 e,b];exact h2
  ·have e':¬ q.1=k:=λ z=>e (h1.trans z)
   have b:atKey (q::qs) k=atKey qs k:=by simp [atKey,List.find?_cons,e']
   rw[cb e,b];exact ih
theorem KT.repl {H:Hp}{kvs:List (List Key×V)}{xs:List (List Key×Addr×Value)} (r:KT H kvs xs) (k:List Key) {y:V}{u:Value} (ry:bw y u) :
  KT H (kvs.map λ kv=>if kv.1=k then (kv.1,y) else kv) (xs.map (putAt k u)):=by
 induction r with
 | nil=>exact .nil
 | @cons p q ps qs h t ih =>
  rw[List.map_cons,List.map_cons]
  refine .cons ?_ ih
  obtain⟨h1,h2,h3⟩:=h
  unfold putAt
  by_cases e:p.1=k
  ·rw[if_pos e,if_pos (h1.symm.trans e)];exact⟨h1,h2,ry⟩
  ·rw[if_neg e,if_neg (λ z=>e (h1.trans z))];exact⟨h1,h2,h3⟩
theorem KT.put {H:Hp}{kvs:List (List Key×V)}{xs:List (List Key×Addr×Value)} (r:KT H kvs xs) (k:List Key) {b:Addr}{y:V}{u:Value} (hb:H b=some (.tup (k.map kV))) (ry:bw y u) :
  KT H (cM kvs k y) (storedH xs k b u):=by
 have e:(kvs.any λ kv=>decide (kv.1=k))=(atKey xs k).isSome:=by
  rw[ia,(r.val k).isSome_eq,Option.isSome_map]
 unfold cM storedH
 rw[e]
 by_cases q:(atKey xs k).isSome=true
 ·rw[if_pos q,if_pos q];exact r.repl k ry
 ·rw[if_neg q,if_neg q];exact Paired.snoc r ⟨rfl,hb,ry⟩
theorem KT.keeps {H H':Hp}{kvs:List (List Key×V)}{xs:List (List Key×Addr×Value)} (r:KT H kvs xs) (ht:∀ b ys,H b=some (.tup ys)->H' b=some (.tup ys)):KT H' kvs xs :=
 Paired.mapP r λ _ _ z=>⟨z.1,ht _ _ z.2.1,z.2.2⟩
section
variable {P:Program}{w:World}{H:Hp}{h:Heap}{a:Addr}
theorem Dr {u:HO} (ok:HOk P w H h) (e:Rd H a u):bx P w H h a u:=e.ok ok
theorem p4 {kvs:List (Key×V)} (ok:HOk P w H h) (e:Rd H a (.dK kvs)):kvs.length<=sizeLine/\(a == sysModules)=false/\∃ vs,KV kvs vs/\h.DictOf (bN P w) a vs :=
 show bx P w H h a (.dK kvs) from Dr ok e
theorem Dx {kvs:List (Key×V)} (ok:HOk P w H h) (e:H a=some (.dK kvs)):kvs.length<=sizeLine/\(a == sysModules)=false/\∃ vs,KV kvs vs/\h.DictOf (bN P w) a vs:=p4 ok (.inl e)
theorem nP {ks:List Key} (ok:HOk P w H h) (e:H a=some (.tup (ks.map kV))):(tupleKind (bN P w)).is h ks a:=by
 obtain⟨_,its,r,o,h1,h2,n,h3⟩:=(show bx P w H h a (.tup (ks.map kV)) from ok a _ e)
 exact⟨o,its.toArray,n,h1,h2,h3,by simpa using mx r⟩
theorem pY {kvs:List (List Key×V)} (ok:HOk P w H h) (e:Rd H a (.dT kvs)):kvs.length<=sizeLine/\(a == sysModules)=false /\
  ∃ xs,KT H kvs xs/\h.DictOfH (tupleKind (bN P w)) a xs:=by
 obtain⟨z,y,xs,r,o,es,ep,h1,h2,h3,h4,h5⟩:=(show bx P w H h a (.dT kvs) from Dr ok e)
 refine⟨z,y,xs,r,o,es,ep,h1,h2,h3,h4,λ x hx=>?_,h5⟩
 have all:∀ {l:List (List Key×V)}{m:List (List Key×Addr×Value)},KT H l m->∀ x∈m,(tupleKind (bN P w)).is h x.1 x.2.1:=by
  intro l m q
  induction q with
  | nil=>intro x hx;exact nomatch hx
  | @cons p q ps qs hq t ih =>
   intro x hx
   rcases List.mem_cons.mp hx with e | hx
   ·subst e
    exact nP ok (by rw[<-hq.1];exact hq.2.1)
   ·exact ih x hx
 exact all r x hx
theorem GL {kvs:List (List Key×V)} (ok:HOk P w H h) (e:H a=some (.dT kvs)):kvs.length<=sizeLine/\(a == sysModules)=false /\
  ∃ xs,KT H kvs xs/\h.DictOfH (tupleKind (bN P w)) a xs:=pY ok (.inl e)
end
def oo (H:Hp) (a:Addr) (y:V) (r:Option V):Prop :=
 (∃ kvs k,Rd H a (.dK kvs)/\y=kV k/\r=ce kvs k)∨∃ kvs k b,Rd H a (.dT kvs)/\y=.ref b/\H b=some (.tup (k.map kV))/\r=ce kvs k
def Aa (H:Hp) (a:Addr) (y v:V) (H':Hp):Prop :=
 (∃ kvs k,H a=some (.dK kvs)/\y=kV k/\kvs.length<sizeLine/\H'=upd H a (.dK (cM kvs k v))) ∨
 ∃ kvs k b,H a=some (.dT kvs)/\y=.ref b/\H b=some (.tup (k.map kV))/\kvs.length<sizeLine/\H'=upd H a (.dT (cM kvs k v))
theorem oo.k {H:Hp}{a:Addr}{kvs:List (Key×V)}{k:Key} (e:H a=some (.dK kvs)):oo H a (kV k) (ce kvs k):=.inl ⟨kvs,k,.inl e,rfl,rfl⟩
theorem Aa.k {H:Hp}{a:Addr}{kvs:List (Key×V)}{k:Key}{v:V} (e:H a=some (.dK kvs)) (hl:kvs.length<sizeLine):Aa H a (kV k) v (upd H a (.dK (cM kvs k v))):=.inl ⟨kvs,k,e,rfl,hl,rfl⟩
section
variable {X:Cx}{pins:List (Addr×Obj)}{σ:St}{H:Hp}{s:Shared}{a:Addr}{y v:V}{u r:Value}{o:Option V}{A:Around}{E:Value->Shared->Prop}
theorem vN {Q:Value->Shared->Prop} (hu:A.units+1<cLine) (I:Inv X pins σ H s) (g:oo H a y (some v)) (ry:bw y u) (h:∀ w' s',Inv X pins σ H s'->bw v w'->Q w' s') :
  wpAny (model X.prog X.w) A (getItem (.ref a) u) Q E s:=by
 rcases g with ⟨kvs,k,e,ey,l⟩ | ⟨kvs,k,b,e,ey,eb,l⟩
 ·subst ey
  obtain⟨z,hd,vs,rel,dd⟩:=p4 I.hok e
  obtain⟨w',hw,rw'⟩:=fM.some_of (v:=v) (o:=valueAt vs k) (by rw[l];exact rel.val k)
  exact wpAny_getItem_of (jq ry) dd.mapOf hw (h w' _ (I.tok _) rw')
 ·subst ey
  cases (show u=Value.ref b from ry)
  obtain⟨z,hd,xs,rel,dd⟩:=pY I.hok e
  obtain⟨w',hw,rw'⟩:=fM.some_of (v:=v) (o:=(atKey xs k).map (·.2)) (by rw[l];exact rel.val k)
  obtain⟨p,hp,hp2⟩:=Option.map_eq_some_iff.mp hw
  refine wpAny_getItem_heap (tupleKind_room_in1 hu) (nP I.hok eb) dd hp ?_
  rw[hp2]
  exact h w' _ (I.tok _) rw'
theorem Cb {Q:Value->Shared->Prop} (hu:A.units+1<cLine) (I:Inv X pins σ H s) (g:oo H a y o) (ry:bw y u) (h:∀ s',Inv X pins σ H s'->Q (.bool (!o.isSome)) s') :
  wpAny (model X.prog X.w) A (compareOp .NotIn u (.ref a)) Q E s:=by
 rcases g with ⟨kvs,k,e,ey,l⟩ | ⟨kvs,k,b,e,ey,eb,l⟩
 ·subst ey
  obtain⟨z,hd,vs,rel,dd⟩:=p4 I.hok e
  refine wpAny_notIn_of (jq ry) hd dd.mapOf ?_
  rw[<-(rel.val k).isSome_eq,<-l]
  exact h _ (I.tok _)
 ·subst ey
  cases (show u=Value.ref b from ry)
  obtain⟨z,hd,xs,rel,dd⟩:=pY I.hok e
  refine wpAny_notIn_heap (tupleKind_room_in1 hu) (nP I.hok eb) hd dd ?_
  have q:=(rel.val k).isSome_eq
  rw[Option.isSome_map] at q
  rw[<-q,<-l]
  exact h _ (I.tok _)
theorem n5 {h':Heap}{t':Nat}{ob:HO} (I:Inv X pins σ H s) (mu:Mut (H a)) (hs:Heap.SameBut a s.heap h') (he:∃ q,h'.get? a=some q) (new:bx X.prog X.w (upd H a ob) h' a ob) :
  Inv X pins σ (upd H a ob) {s with heap:=h',toks:=t'} :=
 I.write (x:=a) (e:=a) mu (.inl rfl) (λ b q hb z=>(hs.2 b hb).trans z) he new
theorem zF {P:Program}{w:World}{H':Hp}{h':Heap}{kvs:List (Key×V)}{vs:List (Key×Value)} (z:kvs.length<=sizeLine) (hd:(a == sysModules)=false) (rel:KV kvs vs) (dd:h'.DictOf (bN P w) a vs) :
  bx P w H' h' a (.dK kvs):=⟨z,hd,vs,rel,dd⟩
theorem vM {H':Hp}{Q:Unit->Shared->Prop} (hu:A.units+1<cLine) (I:Inv X pins σ H s) (g:Aa H a y v H') (ry:bw y u) (rv:bw v r) (h:∀ s',Inv X pins σ H' s'->Q () s') :
  wpAny (model X.prog X.w) A (setItem (.ref a) u r) Q E s:=by
 rcases g with ⟨kvs,k,e,ey,l,eH⟩ | ⟨kvs,k,b,e,ey,eb,l,eH⟩
 ·subst ey eH
  obtain⟨z,hd,vs,rel,dd⟩:=Dx I.hok e
  have hz:vs.length<=sizeLine:=by rw[<-rel.length];exact z
  have hl:(cM kvs k v).length<=sizeLine:=by have:=cH kvs k v;omega
  refine wpAny_setItem_pairs (hsz:=hz) (jq ry) dd λ h' dd' hs=>h _ ?_
  have he:∃ q,h'.get? a=some q:=let ⟨q,_,_,hq,_⟩:=dd';⟨q,hq⟩
  exact n5 I (by rw[e];exact True.intro) hs he (zF hl hd (rel.put k rv) dd')
 ·subst ey eH
  cases (show u=Value.ref b from ry)
  obtain⟨z,hd,xs,rel,dd⟩:=GL I.hok e
  have hz:xs.length<=sizeLine:=by rw[<-Paired.length rel];exact z
  have hl:(cM kvs k v).length<=sizeLine:=by have:=cH kvs k v;omega
  refine wpAny_setItem_heap (hsz:=hz) (tupleKind_room_in1 hu) (nP I.hok eb) dd λ h' dd' hs=>h _ ?_
  obtain⟨q,es,ep,hq,h2,h3,h4,_,h5⟩:=dd'
  refine n5 I (by rw[e];exact True.intro) hs ⟨q,hq⟩ ⟨hl,hd,_,(rel.put k eb rv).keeps λ c ys ec=>?_,q,es,ep,hq,h2,h3,h4,h5⟩
  rw[aM (ji ec e (λ z=>nomatch z))]
  exact ec
end
section
variable {X:Cx}{pins:List (Addr×Obj)}{σ:St}{H:Hp}{s:Shared}{a:Addr}{kvs:List (Key×V)}{k:Key}{u:Value}{A:Around}{E:Value->Shared->Prop}
theorem GM {v:V}{more:List Value}{Q:Value->Shared->Prop} (I:Inv X pins σ H s) (e:H a=some (.dK kvs)) (ry:bw (kV k) u) (l:ce kvs k=some v) (hm:more = []∨∃ x,more = [x])
  (h:∀ w' s',Inv X pins σ (upd H a (.dK (fV kvs k))) s'->bw v w'->Q w' s'):wpAny (model X.prog X.w) A (call (.builtin "dict.pop") (.ref a::u::more)) Q E s:=by
 obtain⟨z,hd,vs,rel,dd⟩:=Dx I.hok e
 obtain⟨w',hw,rw'⟩:=fM.some_of (v:=v) (o:=valueAt vs k) (by rw[<-l];exact rel.val k)
 have hp:(keyPart u).isSome=true:=by
  cases k with
  | inl i=>obtain⟨t,q⟩:=(show ∃ t,u=Value.int i t from ry);subst q;rfl
  | inr x=>obtain⟨t,q⟩:=(show ∃ t,u=Value.str x t from ry);subst q;rfl
 have ha:argsOk "dict.pop" ⟨.ref a::u::more,[]⟩:=by
  rcases hm with q | ⟨x,q⟩
  ·subst q;exact PySem.F.args_dict_pop_2 _ _
  ·subst q;exact PySem.F.args_dict_pop_3 _ _ _
 refine call_meetsIn PySem.F.slot_dict_pop dd.typeIs PySem.F.entry_dict_pop ha (meets_dict_pop_there (bN X.prog X.w) a (jq ry) more hm hp)
  ⟨vs,w',dd,by rw[<-rel.length];exact z,hw,λ h' dd' hs=>h w' _ ?_ rw'⟩
 have he:∃ q,h'.get? a=some q:=let ⟨q,_,_,hq,_⟩:=dd';⟨q,hq⟩
 exact n5 I (by rw[e];exact True.intro) hs he (zF (Nat.le_trans (pZ kvs k) z) hd (rel.drop k) dd')
end
def FF (i:Expr):Prop:=∀ ov iv,subscripted i false ov iv=operate [ov,iv] (getItem ov iv)
theorem sO {prog:Program}{w:World}{A:Around}{E:Value->Shared->Prop}{s:Shared}{env:Env}{value slice:Expr}{pos:Pos}{T id:String}{Q:Value->Shared->Prop}
  (hl:typeLookup (.type T) "__getitem__" = pure (some (.builtin id))) (hs:FF slice)
  (h:wpAny (model prog w) A (eval value env) (λ o s₁=>wpAny (model prog w) A (eval slice env) (λ i s₂=>s₂.TypeIs o T/\wpAny (model prog w) A (getItem o i) Q E s₂) E s₁) E s) :
  wpAny (model prog w) A (eval (.Subscript value slice pos) env) Q E s:=by
 refine Subscript_ (wpAny_mono h (λ o s₁ h₁=>wpAny_mono h₁ (λ i s₂ h₂=>?_) λ _ _ x=>x) λ _ _ x=>x)
 obtain⟨hT,h₂⟩:=h₂
 unfold subscriptTail
 refine wpAny_bind ?_
 rw[getitemInPython_of_ne hT.not_modules]
 refine wpAny_bind (wpAny_specialOf hT hl ?_)
 have fin:wpAny (model prog w) A (subscripted slice false o i) (λ r s₃=>wpAny (model prog w) A (letTemporaryGo value o r >>= λ _=>pure r) Q E s₃) E s₂:=by
  rw[hs o i]
  exact wpAny_operating (wpAny_mono h₂ (λ r s₃ h₃=>wpAny_bind (wpAny_letTemporaryGo (wpAny_pure h₃))) λ _ _ x=>x)
 first
  | exact wpAny_pure (wpAny_bind fin)
  | exact wpAny_bind (wpAny_pure (wpAny_bind fin))
  | exact wpAny_bind fin
theorem p5 {X:Cx}{pins:List (Addr×Obj)}{σ:St}{H:Hp}{s:Shared}{a:Addr}{y:V}{o:Option V} (I:Inv X pins σ H s) (g:oo H a y o):s.TypeIs (.ref a) "dict":=by
 rcases g with ⟨kvs,k,e,_,_⟩ | ⟨kvs,k,b,e,_,_,_⟩
 ·obtain⟨_,_,vs,_,dd⟩:=p4 I.hok e
  exact dd.typeIs
 ·obtain⟨_,_,xs,_,dd⟩:=pY I.hok e
  exact dd.typeIs
def F0 (td ty:TE):TE:=λ σ H Q=>td σ H λ x H1=>ty σ H1 λ y H2=>∃ a v,x=.ref a/\oo H2 a y (some v)/\Q v H2
def Ah (ty td:TE):TE:=λ σ H Q=>ty σ H λ y H1=>td σ H1 λ x H2=>∃ a o,x=.ref a/\oo H2 a y o/\Q (.bl (!o.isSome)) H2
def Gf (td ty tv:TE):TS:=λ D σ H=>tv σ H λ v H1=>td σ H1 λ x H2=>ty σ H2 λ y H3=>∃ a H4,x=.ref a/\Aa H3 a y v H4/\D.nx σ H4
section
variable {X:Cx}{o i e value:Expr}{pos pos' tpos:Pos}{td ty tv:TE}
theorem AZ (hu:X.A.units+1<cLine) (ho:PE X o td) (hi:PE X i ty) (hs:FF i):PE X (.Subscript o i pos) (F0 td ty):=by
 intro pins s σ H Q I h
 refine sO PySem.F.slot_dict_getitem.lookup hs (thn (ho pins s σ H _ I h) λ u s1 ⟨x,H1,I1,rx,q1⟩=>thn (hi pins s1 σ H1 _ I1 q1) λ iv s2 ⟨y,H2,I2,ry,a,v,ex,g,q2⟩=>?_)
 subst ex
 obtain rfl:u=Value.ref a:=rx
 exact⟨p5 I2 g,vN hu I2 g ry λ w' s3 I3 rw'=>⟨v,H2,I3,rw',q2⟩⟩
theorem uW (hu:X.A.units+1<cLine) (hi:PE X i ty) (ho:PE X o td):PC X .NotIn i o (Ah ty td):=by
 intro pins s σ H Q I h
 refine thn (hi pins s σ H _ I h) λ iv s1 ⟨y,H1,I1,ry,q1⟩=>thn (ho pins s1 σ H1 _ I1 q1) λ u s2 ⟨x,H2,I2,rx,a,ov,ex,g,q2⟩=>?_
 subst ex
 obtain rfl:u=Value.ref a:=rx
 exact Cb hu I2 g ry λ s3 I3=>⟨.bl (!ov.isSome),H2,I3,rfl,q2⟩
theorem AW (hu:X.A.units+1<cLine) (ho:PE X o td) (hi:PE X i ty) (hv:PE X value tv) (hs:swapsWith value (some (.Subscript o i pos')) pos.line X.env=pure false) :
  PS X (.Assign [.Subscript o i pos'] value pos) (Gf td ty tv):=by
 intro pins s σ H D I h
 refine wpAny_Assign_Subscript (thn (hv pins s σ H _ I h) λ r s1 ⟨v,H1,I1,rv,q1⟩=>thn (ho pins s1 σ H1 _ I1 q1) λ u s2 ⟨x,H2,I2,rx,q2⟩=>thn (hi pins s2 σ H2 _ I2 q2) λ iv s3 ⟨y,H3,I3,ry,a,H4,ex,g,q3⟩=>?_) hs
 subst ex
 obtain rfl:u=Value.ref a:=rx
 exact vM hu I3 g ry rv λ s4 I4=>⟨σ,H4,I4,q3⟩
end
structure M1 (X:Cx) (o:Expr) (m:Str) (apos:Pos) (e:Expr) (cpos:Pos):Prop where
 base:attributeBase o m X.env (eval o X.env)=eval o X.env
 few:((backTo cpos (starEach [e] X.env)).all (λ x=>!x.1) && (backToKw cpos (keywordEach [] X.env)).all (λ x=>x.1.isSome)
  && decide (([e]:List Expr).length+([]:List Keyword).length+(if ([]:List Keyword).isEmpty then 0 else 1)<30))=true
 line:(apos.endLine == cpos.line)=true
 trees:backTo cpos (starEach [e] X.env) = [(false,eval e X.env)]
def IsD (H:Hp) (a:Addr):Prop:=(∃ kvs,Rd H a (.dK kvs))∨∃ kvs,Rd H a (.dT kvs)
theorem Fk {X:Cx}{pins:List (Addr×Obj)}{σ:St}{H:Hp}{s:Shared}{a:Addr} (I:Inv X pins σ H s) (d:IsD H a) :
  s.TypeIs (.ref a) "dict"/\(∀ b,Value.ref a=.ref b->∃ ob,s.heap.get? b=some ob/\ob.dict=none)/\(a == sysModules)=false:=by
 rcases d with ⟨kvs,e⟩ | ⟨kvs,e⟩
 ·obtain⟨_,hd,vs,_,dd⟩:=p4 I.hok e
  refine⟨dd.typeIs,λ b q=>?_,hd⟩
  cases q
  obtain⟨ob,_,_,h1,h2,_⟩:=dd
  exact⟨ob,h1,h2.2.1⟩
 ·obtain⟨_,hd,xs,_,dd⟩:=pY I.hok e
  refine⟨dd.typeIs,λ b q=>?_,hd⟩
  cases q
  obtain⟨ob,_,_,h1,h2,_⟩:=dd
  exact⟨ob,h1,h2.2.1⟩
def DP (td ty:TE):TE:=λ σ H Q=>td σ H λ x H1=>∃ a,x=.ref a/\IsD H1 a/\ty σ H1 λ y H2=>∃ kvs k v,H2 a=some (.dK kvs)/\y=kV k/\ce kvs k=some v/\Q v (upd H2 a (.dK (fV kvs k)))
section
variable {X:Cx}{o e f:Expr}{apos cpos:Pos}{td ty tx:TE}
theorem yp (ho:PE X o td) (he:PE X e ty) (m:M1 X o "pop" apos e cpos):PE X (.Call (.Attribute o "pop" apos) [e] [] cpos) (DP td ty):=by
 intro pins s σ H Q I h
 refine wpAny_Call_method m.base m.few m.line PySem.F.plainAttrs_dict PySem.F.slot_dict_pop PySem.F.type_dict_pop (thn (ho pins s σ H _ I h) λ u s1 ⟨x,H1,I1,rx,a,ex,d,q1⟩=>?_)
 subst ex
 obtain rfl:u=Value.ref a:=rx
 obtain⟨t1,t2,_⟩:=Fk I1 d
 refine⟨t1,t2,?_⟩
 rw[m.trees]
 refine Calls.callWith_builtin rfl (Calls.evalArgs_plain (Calls.spliced_cons (thn (he pins s1 σ H1 _ I1 q1) λ iv s2 ⟨y,H2,I2,ry,kvs,k,v,ea,ey,l,q2⟩=>Calls.spliced_nil ?_)))
 subst ey
 exact GM I2 ea ry l (.inl rfl) λ w' s3 I3 rw'=>⟨v,_,I3,rw',q2⟩
end
end L2
namespace L2
open PySem PySem.Spec PyProof.Rows
structure sE (P:Program) (w:World) (K:PySem.W.Frag) (d:Addr) (kvs:List (Key×V)):Prop where
 ns:(d == sysModules)=false
 at_:∀ h:Heap,K.In h->∃ vs,KV kvs vs/\h.DictOf (bN P w) d vs
def FX (d:Addr) (kvs:List (Key×V)) (td ty:TE):TE:=λ σ H Q=>td σ H λ x H1=>ty σ H1 λ y H2=>∃ (k:Str) (v:V),x=.ref d/\y=.str k/\ce kvs (.inr k)=some v/\Q v H2
def Ha (d:Addr) (kvs:List (Key×V)) (ty td:TE):TE:=λ σ H Q=>ty σ H λ y H1=>td σ H1 λ x H2=>∃ k:Str,x=.ref d/\y=.str k/\Q (.bl (ce kvs (.inr k)).isSome) H2
def Ag (d:Addr) (kvs:List (Key×V)) (ty td:TE):TE:=λ σ H Q=>ty σ H λ y H1=>td σ H1 λ x H2=>∃ k:Str,x=.ref d/\y=.str k/\Q (.bl (!(ce kvs (.inr k)).isSome)) H2
section
variable {X:Cx}{o i:Expr}{pos:Pos}{td ty:TE}{d:Addr}{kvs:List (Key×V)}
theorem nJ (M:sE X.prog X.w X.K d kvs) (ho:PE X o td) (hi:PE X i ty) (hs:FF i):PE X (.Subscript o i pos) (FX d kvs td ty):=by
 intro pins s σ H Q I h
 refine sO PySem.F.slot_dict_getitem.lookup hs (thn (ho pins s σ H _ I h) λ u s1 ⟨x,H1,I1,rx,q1⟩=>thn (hi pins s1 σ H1 _ I1 q1) λ iv s2 ⟨y,H2,I2,ry,k,v,ex,ey,l,q2⟩=>?_)
 subst ex ey
 obtain rfl:u=Value.ref d:=rx
 obtain⟨vs,rel,dd⟩:=M.at_ _ I2.kIn
 obtain⟨w',hw,rw'⟩:=fM.some_of (v:=v) (o:=valueAt vs (.inr k:Key)) (by rw[<-l];exact rel.val _)
 exact⟨dd.typeIs,wpAny_getItem_of (jq (k:=(.inr k:Key)) ry) dd.mapOf hw ⟨v,H2,I2.tok _,rw',q2⟩⟩
theorem Ey (M:sE X.prog X.w X.K d kvs) (hi:PE X i ty) (ho:PE X o td):PC X .In i o (Ha d kvs ty td):=by
 intro pins s σ H Q I h
 refine thn (hi pins s σ H _ I h) λ iv s1 ⟨y,H1,I1,ry,q1⟩=>thn (ho pins s1 σ H1 _ I1 q1) λ u s2 ⟨x,H2,I2,rx,k,ex,ey,q2⟩=>?_
 subst ex ey
 obtain rfl:u=Value.ref d:=rx
 obtain⟨vs,rel,dd⟩:=M.at_ _ I2.kIn
 refine wpAny_in_of (jq (k:=(.inr k:Key)) ry) M.ns dd.mapOf ?_
 rw[<-(rel.val (.inr k:Key)).isSome_eq]
 exact⟨.bl _,H2,I2.tok _,rfl,q2⟩
theorem mi (M:sE X.prog X.w X.K d kvs) (hi:PE X i ty) (ho:PE X o td):PC X .NotIn i o (Ag d kvs ty td):=by
 intro pins s σ H Q I h
 refine thn (hi pins s σ H _ I h) λ iv s1 ⟨y,H1,I1,ry,q1⟩=>thn (ho pins s1 σ H1 _ I1 q1) λ u s2 ⟨x,H2,I2,rx,k,ex,ey,q2⟩=>?_
 subst ex ey
 obtain rfl:u=Value.ref d:=rx
 obtain⟨vs,rel,dd⟩:=M.at_ _ I2.kIn
 refine wpAny_notIn_of (jq (k:=(.inr k:Key)) ry) M.ns dd.mapOf ?_
 rw[<-(rel.val (.inr k:Key)).isSome_eq]
 exact⟨.bl _,H2,I2.tok _,rfl,q2⟩
end
def v7:List DictEntry->List (Str×V)->Prop
 | [],kvs=>kvs = []
 | e::es,kvs=>∃ x v r,kvs=(x,v)::r/\(∃ t,e.key=.str x t)/\bw v e.val/\v7 es r
def jp (kvs:List (Str×V)):List (Key×V):=kvs.map λ kv=>((Sum.inr kv.1:Key),kv.2)
theorem mB {P:Program}{w:World}:∀ {es:List DictEntry}{kvs:List (Str×V)},v7 es kvs->PySem.W.KeysLit w.params es ->
  ∃ vs:List (Key×Value),KV (jp kvs) vs/\Pairs (bN P w) es vs/\vs.map (·.1)=kvs.map (λ kv=>(Sum.inr kv.1:Key))/\∀ e∈es,∃ k,(bN P w).is k e.key=true/\e.hash=(bN P w).hash k
 | [],_,h,_=>by
  rw[show _ = [] from h]
  exact⟨[],.nil,.nil,rfl,λ e he=>by cases he⟩
 | e::es,_,⟨x,v,r,eq,⟨t,hk⟩,rv,hr⟩,kl=>by
  rw[PySem.W.KeysLit.eq_2] at kl
  obtain⟨⟨x',t',hk',hh⟩,kl⟩:=kl
  obtain⟨vs,a,b,c,d⟩:=mB (P:=P) hr kl
  have ex:x'=x:=by rw[hk] at hk';injection hk' with z _;exact z.symm
  subst ex
  have isx:(bN P w).is (.inr x') e.key=true:=by rw[hk];exact jj P w x' t
  refine⟨((.inr x':Key),e.val)::vs,?_,.cons isx rfl b,?_,λ f hf=>?_⟩
  ·rw[eq]
   exact .cons ⟨rfl,rv⟩ a
  ·rw[eq,List.map_cons,List.map_cons,c]
  ·rcases List.mem_cons.mp hf with z | z
   ·subst z
    exact⟨.inr x',isx,hh⟩
   ·exact d f z
theorem ud {P:Program}{w:World}{K:PySem.W.Frag}{d:Addr}{es:Array DictEntry}{n:Nat}{kvs:List (Str×V)} (lk:K.lookup d=some {cls:=.type "dict",data:=.dict es n}) (kl:PySem.W.KeysLit w.params es.toList)
  (er:v7 es.toList kvs) (hd:(d == sysModules)=false) (nd:(kvs.map (·.1)).Nodup):sE P w K d (jp kvs) where
 ns:=hd
 at_:=λ h KX=>by
  obtain⟨vs,a,b,c,e⟩:=mB (P:=P) er kl
  refine⟨vs,a,_,es,n,KX d _ lk,⟨rfl,rfl,rfl⟩,rfl,λ x hx=>e x (by simpa using hx),b,?_⟩
  rw[c]
  have:kvs.map (λ kv=>(Sum.inr kv.1:Key))=(kvs.map (·.1)).map (λ x=>(Sum.inr x:Key)):=by rw[List.map_map];rfl
  rw[this]
  exact List.Pairwise.map _ (λ a b hab hc=>hab (Sum.inr.inj hc)) nd
theorem mv (kvs:List (Str×V)) (k:Str):ce (jp kvs) (.inr k)=(kvs.find? λ kv=>decide (kv.1=k)).map (·.2):=by
 induction kvs with
 | nil=>rfl
 | cons p r ih =>
  by_cases c:p.1=k
  ·rw[show jp (p::r)=((.inr p.1:Key),p.2)::jp r from rfl,b9 (by rw[c]),List.find?_cons,decide_eq_true c]
   rfl
  ·rw[show jp (p::r)=((.inr p.1:Key),p.2)::jp r from rfl,cb (λ z=>c (Sum.inr.inj z)),List.find?_cons,decide_eq_false c]
   exact ih
end L2
namespace L2
open PySem PySem.Spec PyProof.Rows
theorem kW:∀ xs ys:List Str,cA (xs.map Th.str) (ys.map Th.str)=decide (xs=ys)
 | [],[]=>by simp [cA]
 | [],_::_=>by simp [cA]
 | _::_,[]=>by simp [cA]
 | x::xs,y::ys=>by
  rw[List.map_cons,List.map_cons,cA,kW xs ys,db]
  by_cases h1:x=y<;>by_cases h2:xs=ys<;>simp [h1,h2]
theorem jc {xs:List Str}{its:List Value} (r:bg (xs.map V.str) its) {j:Nat} (hj:j<its.length):∃ x t,xs[j]? = some x/\its[j]? = some (Value.str x t):=by
 have hl:=r.length
 rw[List.length_map] at hl
 have hx:j<xs.length:=by omega
 obtain⟨u,e1,e2⟩:=r.get (i:=j) (x:=V.str xs[j]) (by rw[List.getElem?_map,List.getElem?_eq_getElem hx];rfl)
 obtain⟨t,rfl⟩:=e2
 exact⟨xs[j],t,List.getElem?_eq_getElem hx,e1⟩
theorem A2 {X:Cx} (hu:X.A.units+64<cLine):OpR X (compareOp .Eq) (λ x y H Q=>∃ a b,∃ xs ys:List Str,x=.ref a/\y=.ref b/\SqT X.K H a (xs.map V.str)/\SqT X.K H b (ys.map V.str)/\Q (.bl (decide (xs=ys))) H):=by
 intro pins s σ H x y v u Q I rx ry h
 obtain⟨a1,a2,xs,ys,rfl,rfl,h1,h2,q⟩:=h
 cases (show v=Value.ref a1 from rx);cases (show u=Value.ref a2 from ry)
 obtain⟨ws1,q1,g1,_⟩:=I.tuple h1
 obtain⟨ws2,q2,g2,_⟩:=I.tuple h2
 have z1:ws1.toArray.size=(xs.map Th.str).length:=by rw[List.size_toArray,<-q1.length,List.length_map,List.length_map]
 have z2:ws2.toArray.size=(ys.map Th.str).length:=by rw[List.size_toArray,<-q2.length,List.length_map,List.length_map]
 have h:=SeqAt.RcAt.tuples (A:=X.A) (s:=s) (e:=cX (xs.map Th.str) (ys.map Th.str)) (show s.heap.IsTuple a1 ws1.toArray from g1) (show s.heap.IsTuple a2 ws2.toArray from g2) (by omega) λ j j1 j2=>by
  have k1:j<ws1.length:=by simpa using j1
  have k2:j<ws2.length:=by simpa using j2
  obtain⟨x,t,ex,et⟩:=jc q1 k1
  obtain⟨y,t',ey,et'⟩:=jc q2 k2
  have e:cX (xs.map Th.str) (ys.map Th.str) j=decide (x=y):=by
   unfold cX
   rw[List.getElem?_map,List.getElem?_map,ex,ey]
   show db (.str x) (.str y)=_
   rw[db]
   by_cases c:x=y
   ·rw[decide_eq_true c,c];exact beq_self_eq_true _
   ·rw[decide_eq_false c];exact beq_eq_false_iff_ne.mpr c
  rw[e]
  have f1:ws1.toArray[j]=Value.str x t:=by
   rw[List.getElem_toArray]
   rw[List.getElem?_eq_getElem k1] at et
   exact Option.some.inj et
  have f2:ws2.toArray[j]=Value.str y t':=by
   rw[List.getElem_toArray]
   rw[List.getElem?_eq_getElem k2] at et'
   exact Option.some.inj et'
  rw[f1,f2]
  exact SeqAt.EqAt.str_str (A:=X.A.in1) (s:=s) x t y t'
 rw[z1,z2,fi,kW] at h
 exact h X.prog X.w _ _ ⟨.bl _,H,I,rfl,q⟩
end L2
namespace L2
open PySem PySem.Spec PyProof.Rows
theorem uV {X:Cx}{o:Expr}{to:TE}{apos pos p1 p2:Pos}{y:Str}{k:Int}{j1 j2:Nat} (ho:PE X o to) (hy:(y.length == 0)=false) (hk:(decide (k < -2^63) || decide (k ≥ 2^63))=false) (hbase:attributeBase o "split" X.env (eval o X.env)=eval o X.env:=by rfl)
  (hs:starEach [.Constant (.str y) j1 p1,.Constant (.int k) j2 p2] X.env = [(false,eval (.Constant (.str y) j1 p1) X.env),(false,eval (.Constant (.int k) j2 p2) X.env)]:=by rfl) (hline:(apos.endLine == pos.line)=true:=by rfl) :
  PE X (.Call (.Attribute o "split" apos) [.Constant (.str y) j1 p1,.Constant (.int k) j2 p2] [] pos) (λ σ H Q=>to σ H λ x H1=>∃ a,x=.str a/\a.length<=sizeLine/\(Txt.splitMax a y k).length<=sizeLine/\∀ p,H1 p=none->Q (.ref p) (upd H1 p (.lst ((Txt.splitMax a y k).map V.str)))):=by
 intro pins s σ H Q I h
 refine Call_method2 hbase hs hline (thn (ho pins s σ H _ I h) λ v s1 ⟨x,H1,I1,r1,a,e1,hx,hn,q⟩=>?_)
 subst e1
 obtain⟨t,rfl⟩:=r1
 refine⟨"str",_,F.plainAttrs_str,F.slot_str_split,F.type_str_split,typeIs_str s1 a t,(λ _ z=>nomatch z),?_⟩
 refine Calls.callWith_builtin rfl (Calls.evalArgs_plain (Calls.spliced_cons (Calls.Constant_str (Calls.spliced_cons (wpAny_Constant_int (Calls.spliced_nil ?_))))))
 have I2:=(I1.tok (s1.toks+1+1))
 have fin:∀ S,Meets (Builtin.«str.split» {pos:=[Value.str a t,Value.str y s1.toks,Value.int k (s1.toks+1)]}) S->S X.A (wants (EP X pins σ Q) X.xe) {s1 with toks:=s1.toks+1+1}->wpAny (model X.prog X.w) X.A (call (Value.builtin "str.split") [Value.str a t,Value.str y s1.toks,Value.int k (s1.toks+1)]) (EP X pins σ Q) X.xe {s1 with toks:=s1.toks+1+1}:=λ S m w=>call_meets F.slot_str_split (typeIs_str _ a t) F.entry_str_split (F.args_str_split_3 _ _ _) m w
 show wpAny (model X.prog X.w) X.A (call (Value.builtin "str.split") [Value.str a t,Value.str y s1.toks,Value.int k (s1.toks+1)]) (EP X pins σ Q) X.xe {s1 with toks:=s1.toks+1+1}
 unfold Txt.splitMax at hn q
 cases h1:(decide (a.length<y.length) || decide (Builtin.Str.strKind a<Builtin.Str.strKind y))
 ·rw[if_neg (ne_true_of_eq_false h1)] at hn q
  cases hf:(Builtin.Str.occurrences a y 0 a.length (limitOf a k)).isEmpty
  ·rw[if_neg (ne_true_of_eq_false hf)] at hn q
   refine fin _ (meets_str_split_sep_max a y k t _ _ hk h1 hy hf hx hn) ?_
   rw[strsFrom_eq]
   exact cY I2 _ _ (numbered_texts _ _) hn q
  ·rw[if_pos hf] at hn q
   exact fin _ (meets_str_split_max_not_found a y k t _ _ hk h1 hy hf) (cY (k:=s1.toks+1+1) I2 [(a,t)] _ rfl hn q)
 ·rw[if_pos h1] at hn q
  exact fin _ (meets_str_split_max_cannot_occur a y k t _ _ hk h1) (cY (k:=s1.toks+1+1) I2 [(a,t)] _ rfl hn q)
end L2
namespace Tx
open PySem PySem.Builtin.Str PySem.StrLaws
theorem qe:(" ":Str).cps.toList = [32]:=by decide +kernel
theorem uw:(" ":Str).length=1:=by decide +kernel
theorem zV:PySem.Builtin.Str.strKind " " = 1:=by decide +kernel
def ofL (l:List Nat):Str:=⟨l.toArray⟩
def spl:List Nat->List (List Nat)
 | []=>[[]]
 | c::r=>if c=32 then []::spl r else match spl r with
  | w::ws=>(c::w)::ws
  | []=>[[c]]
theorem gN:∀ l:List Nat,∃ w ws,spl l=w::ws
 | []=>⟨_,_,rfl⟩
 | c::r=>by
  obtain⟨w,ws,e⟩:=gN r
  by_cases h:c=32
  ·exact⟨[],spl r,by rw[spl,if_pos h]⟩
  ·exact⟨c::w,ws,by rw[spl,if_neg h,e]⟩
theorem oO:∀ (l:List Nat),∀ w∈spl l,32 ∉ w
 | [],w,hw=>by rw[show w = [] from List.mem_singleton.mp hw];simp
 | c::r,w,hw=>by
  have ih:=oO r
  by_cases h:c=32
  ·rw[spl,if_pos h] at hw
   rcases List.mem_cons.mp hw with z | z
   ·rw[z];simp
   ·exact ih w z
  ·obtain⟨w0,ws,e⟩:=gN r
   rw[spl,if_neg h,e] at hw
   rcases List.mem_cons.mp hw with z | z
   ·rw[z]
    intro m
    rcases List.mem_cons.mp m with q | q
    ·exact h q.symm
    ·exact ih w0 (by rw[e];exact List.mem_cons_self) q
   ·exact ih w (by rw[e];exact List.mem_cons_of_mem _ z)
theorem gO:∀ l:List Nat,jn [32] ((spl l).map ofL)=l
 | []=>rfl
 | c::r=>by
  have ih:=gO r
  obtain⟨w,ws,e⟩:=gN r
  by_cases h:c=32
  ·rw[spl,if_pos h,e,List.map_cons,List.map_cons]
   show []++([32]++jn [32] (ofL w::ws.map ofL))=c::r
   rw[e,List.map_cons] at ih
   rw[ih,h]
   rfl
  ·rw[spl,if_neg h,e]
   rw[e] at ih
   cases ws with
   | nil =>
    have ih':w=r:=ih
    show c::w=c::r
    rw[ih']
   | cons v vs =>
    have ih':w++([32]++jn [32] (ofL v::vs.map ofL))=r:=ih
    show (c::w)++([32]++jn [32] (ofL v::vs.map ofL))=c::r
    rw[List.cons_append,ih']
def aL (x:Str):List Str:=(spl x.cps.toList).map ofL
theorem gc (x:Str):aL x≠[]:=by
 obtain⟨w,ws,e⟩:=gN x.cps.toList
 unfold aL
 rw[e]
 simp
theorem jb (x:Str):∀ p∈aL x,32 ∉ p.cps.toList:=λ p hp=>by
 obtain⟨w,hw,rfl⟩:=List.mem_map.mp hp
 exact oO _ w hw
theorem oz (x:Str):x=Txt.join " " (aL x):=bJ (by
 have hj:(Txt.join " " (aL x)).cps.toList=jn (" ":Str).cps.toList (aL x):=by
  show (glued " " (aL x)).cps.toList=_
  rw[glued_eq_join]
  exact jP " " (aL x)
 rw[hj,qe]
 exact (gO _).symm)
theorem dw (x:Str):Txt.split x " " = aL x:=by
 have h:=dX (y:=" ") qe zV (aL x) (gc x) (jb x)
 rw[<-oz] at h
 exact h
theorem mn (x:Str) (limit:Nat):occurrences x " " 0 x.length limit=(iI 1 0 (aL x)).take limit:=by
 rw[iX,iC qe (aL x) 0 _ (gc x) (by rw[List.drop_zero,qe];exact (gO _).symm) (by omega) (jb x),uw]
def mrg:List Str->List Str
 | a::b::c::r=>[a,b,ofL (jn [32] (c::r))]
 | l=>l
theorem yP:∀ ws:List Str,(iI 1 0 ws).take 2=iI 1 0 (mrg ws)
 | []=>rfl
 | [_]=>rfl
 | [_,_]=>rfl
 | _::_::_::_=>rfl
theorem yO:∀ ws:List Str,jn [32] (mrg ws)=jn [32] ws
 | []=>rfl
 | [_]=>rfl
 | [_,_]=>rfl
 | _::_::_::_=>rfl
theorem Fa:∀ {ws:List Str},ws≠[]->mrg ws≠[]
 | [],h=>h
 | [_],_=>by simp [mrg]
 | [_,_],_=>by simp [mrg]
 | _::_::_::_,_=>by simp [mrg]
theorem ig (x:Str):Txt.splitMax x " " 2=mrg (aL x):=by
 have hj:x.cps.toList=jn [32] (mrg (aL x)):=by rw[yO];exact (gO _).symm
 have hl:limitOf x 2=2:=rfl
 unfold Txt.splitMax
 rw[hl,mn,yP]
 match e:aL x,gc x with
 | [p],_ =>
  have ep:x=p:=bJ (by rw[hj,e];rfl)
  rw[ep]
  simp [mrg,iI]
 | p::q::r,_ =>
  have ne:iI 1 0 (mrg (p::q::r))≠[]:=by cases r<;>simp [mrg,iI]
  rw[e] at hj
  have hlen:(" ":Str).length<=x.length:=by
   rw[uw,<-aB x,hj]
   cases r with
   | nil=>show 1<=(p.cps.toList++([32]++q.cps.toList)).length;simp;omega
   | cons c r=>show 1<=(p.cps.toList++([32]++(q.cps.toList++([32]++_)))).length;simp;omega
  rw[if_neg,if_neg (by simpa using ne),partsBetween_eq,<-uw,gS _ 0 (Fa (by simp)) (by rw[List.drop_zero,qe];exact hj)]
  rw[Bool.or_eq_true,decide_eq_true_eq,decide_eq_true_eq,zV]
  have:=pE x
  omega
theorem rk (x:Str):∃ m b,L2.cq x " " = [(aL x).headD Str.empty,m,b]:=by
 unfold L2.cq
 rw[mn]
 match e:aL x,gc x with
 | [p],_ =>
  have hj:x.cps.toList=jn [32] (aL x):=(gO _).symm
  have ep:x=p:=bJ (by rw[hj,e];rfl)
  exact⟨_,_,by rw[ep];rfl⟩
 | p::q::r,_ =>
  have hj:x.cps.toList=jn [32] (aL x):=(gO _).symm
  refine⟨" ",strSub x (p.length+1) x.length,?_⟩
  show [strSub x 0 (0+p.length)," ",strSub x (0+p.length+(" ":Str).length) x.length]=_
  rw[Nat.zero_add,uw]
  congr 1
  rw[e] at hj
  exact bJ (by rw[strSub_toList,List.drop_zero,hj,Nat.sub_zero,<-aB p];exact List.take_left)
theorem uf (y:List Nat):∀ {ps:List Str}{p:Str},p∈ps->(∀ c∈p.cps.toList,c∈jn y ps)/\p.cps.toList.length<=(jn y ps).length
 | [q],p,h=>by
  rw[List.mem_singleton.mp h]
  exact⟨λ c hc=>hc,Nat.le_refl _⟩
 | q::r::ps,p,h=>by
  have e:jn y (q::r::ps)=q.cps.toList++(y++jn y (r::ps)):=rfl
  rw[e]
  rcases List.mem_cons.mp h with z | z
  ·rw[z]
   exact⟨λ c hc=>List.mem_append_left _ hc,by rw[List.length_append];omega⟩
  ·obtain⟨a,b⟩:=uf y z
   exact⟨λ c hc=>List.mem_append_right _ (List.mem_append_right _ (a c hc)),by rw[List.length_append,List.length_append];omega⟩
theorem BG:∀ ws:List Str,(mrg ws).length<=ws.length
 | []=>Nat.le_refl _
 | [_]=>Nat.le_refl _
 | [_,_]=>Nat.le_refl _
 | _::_::_::_=>by simp [mrg]
theorem iy {x z:Str} (h:z∈mrg (aL x)):(∀ c∈z.cps.toList,c∈x.cps.toList)/\z.length<=x.length:=by
 have hj:x.cps.toList=jn [32] (mrg (aL x)):=by rw[yO];exact (gO _).symm
 obtain⟨a,b⟩:=uf [32] h
 rw[<-hj] at a b
 rw[aB,aB] at b
 exact⟨a,b⟩
def BT:List (List Nat)->List (List Nat)->List (List Nat)
 | [],b=>b
 | [w],v::vs=>(w++v)::vs
 | [w],[]=>[w]
 | w::w'::ws,b=>w::BT (w'::ws) b
theorem sS:∀ a b:List Nat,spl (a++b)=BT (spl a) (spl b)
 | [],b=>by
  obtain⟨w,ws,e⟩:=gN b
  rw[List.nil_append,e]
  rfl
 | c::a,b=>by
  have ih:=sS a b
  obtain⟨w,ws,e⟩:=gN a
  obtain⟨v,vs,f⟩:=gN b
  by_cases h:c=32
  ·rw[List.cons_append,spl,if_pos h,spl,if_pos h,ih,e]
   rfl
  ·rw[List.cons_append,spl,if_neg h,spl,if_neg h,ih,e,f]
   cases ws with
   | nil=>rfl
   | cons u us=>rfl
theorem sR:∀ {l:List Nat},32 ∉ l->spl l = [l]
 | [],_=>rfl
 | c::r,h=>by
  rw[spl,if_neg (λ z=>h (by rw[z];exact List.mem_cons_self)),sR (λ z=>h (List.mem_cons_of_mem _ z))]
theorem cT (a b:Str):(a++b).cps.toList=a.cps.toList++b.cps.toList:=by rw[Str.cps_append,Array.toList_append]
end Tx
namespace Tx
open PySem PySem.Builtin.Str PySem.StrLaws
theorem zJ (x:Str) {k:Nat} (h:k<=x.length):(Txt.slice x (some (k:Int)) none).cps.toList=x.cps.toList.drop k:=by
 have e:x=ofL (x.cps.toList.take k)++ofL (x.cps.toList.drop k):=bJ (by rw[cT];exact (List.take_append_drop k _).symm)
 have hk:(ofL (x.cps.toList.take k)).length=k:=by
  rw[<-aB]
  show (x.cps.toList.take k).length=k
  rw[List.length_take,aB]
  omega
 rw[dY e hk]
 rfl
theorem Ce (x:Str) {a b:Nat} (h1:a<=b) (h2:b<=x.length):(Txt.slice x (some (a:Int)) (some (b:Int))).cps.toList=(x.cps.toList.drop a).take (b-a):=by
 have e:=sliced_plain x (a:=a) (b:=b) h1 h2
 unfold Txt.slice
 split
 ·rename_i h
  have h':(strSliceIndices (some (a:Int)) (some (b:Int)) 1 x.length).length=x.length:=by simpa using h
  rw[strSliceIndices_plain h1 h2,List.length_map,List.length_range] at h'
  have ha:x.length=0∨a=0:=by omega
  have hl:=aB x
  rcases ha with z | z
  ·rw[List.eq_nil_of_length_eq_zero (hl.trans z)];simp
  ·subst z
   rw[List.drop_zero,List.take_of_length_le (by omega)]
 ·simpa using e
end Tx
namespace L2
open PySem PySem.Spec PyProof.Rows
def hid (H:Hp) (c:Addr):Hp:=λ b=>if b=c then none else H b
theorem ed {H:Hp}{b c:Addr} (h:b≠c):hid H c b=H b:=if_neg h
theorem fc {H:Hp}{c:Addr}:hid H c c=none:=if_pos rfl
theorem zj {H:Hp}{b c:Addr}{o:HO} (e:hid H c b=some o):b≠c/\H b=some o:=by
 by_cases z:b=c
 ·rw[z,fc] at e;cases e
 ·exact⟨z,by rw[ed z] at e;exact e⟩
end L2
namespace L2
open PySem
section
variable {prog:Program}{w:World}{A:Around}{E:Value->Shared->Prop}{h:Heap}{g:Array GenState}{d:Drawn}{t:Nat}{os:OsState}
variable {nm q:Str}{C N:Addr}{bs bm bmB bmN:List Value}{hdct:Bool}{sn:List Str}{sub:List Value}{ab:Bool}{col:Option Bool}{dd:Option Addr}{k0 k1 k2 k3 k5:Option Value}{B Bn nid inN newId initId:String}
theorem jY (Fn:ExcBaseFacts Bn newId inN bmN) (hBn:bmB.contains (.type Bn)=true) (F:ExcBaseFacts B nid initId bmB) (T:OwnTail h bmB bm) {mN:Str->Option Value}{rest:List Value}{fI:Addr}{oI:Obj}{Q:Fin->Shared->Prop}
  (hC:h.get? C=some (excClassObj nm q C N bs bm hdct sn sub ab col dd k0 k1 k2 k3 k5 newId)) (hn:h.Ns N mN) (hi:mN "__init__" = some (.ref fI)) (hfI:h.get? fI=some oI) (hfc:oI.cls=.type "function")
  (hq:∀ h' e,Heap.MadeExcOf h h' e (.ref C) rest->wpAny (model prog w) A (call (.ref fI) (.ref e::rest)) (λ r s'=>r=.none/\Q (.done (.ret (.ref e))) s') E ⟨h',g,d,t,os⟩) (hrest:rest.length<=sizeLine) :
  wpAny (model prog w) A (Builtin.«type.__call__» ⟨.ref C::rest,[]⟩) Q E ⟨h,g,d,t,os⟩:=by
 repeat (first | with_reducible refine wpAny_loadPart_at hC ?_ | with_reducible refine wpAny_madeBy_exc hC ?_ | wp_step)
 refine codeAny_call_builtin_code (Code.quiet_builtin _ Fn.quiet) (wpAny_check_new_subU Fn hBn T hC ?_)
 refine codeAny_exc_new_subU Fn hBn F T hC ?_ hrest
 show wpAny _ _ _ _ _ _
 generalize hx:(h.push {cls:=.type "tuple",data:=.seq rest.toArray}).push {cls:=.ref C,data:=.fields #[.ref h.objs.size,.none,.none,.none,.bool false,.none]}=hp
 have keep:∀ b o,h.get? b=some o->hp.get? b=some o:=λ b o e=>by rw[<-hx];exact Heap.get?_push_of_some _ (Heap.get?_push_of_some _ e)
 have hn1:hp.Ns N mN:=let ⟨o,es,ep,e,r⟩:=hn;⟨o,es,ep,keep _ _ e,r⟩
 have hget:hp.get? (h.objs.size+1)=some {cls:=.ref C,data:=.fields #[.ref h.objs.size,.none,.none,.none,.bool false,.none]}:=by rw[<-hx];heap_get
 have htup:hp.get? h.objs.size=some {cls:=.type "tuple",data:=.seq rest.toArray}:=by rw[<-hx];exact Heap.get?_push_of_some _ (Heap.get?_push_at rfl rfl)
 have hcC:(Value.ref C::bm).contains (.ref C)=true:=by simp
 have T1:=T.keeps (h':=hp) keep
 unfold isInstance
 repeat (first | with_reducible refine wpAny_loadPart_at hget ?_ | (with_reducible refine wpAny_isSubtype_exc (keep _ _ hC) ?_;rw[hcC]) | wp_step)
 show wpAny _ _ (typeLookup (.ref C) _) _ _ _
 refine wpAny_typeLookup_tail (keep _ _ hC) hn1 T1 F.mroIs F.init.lookup ?_
 rw[hi]
 refine wpAny_holding (wpAny_bind ?_)
 unfold bindSpecial
 refine wpAny_bind (wpAny_typeOf (T:="function") ⟨_,keep _ _ hfI,hfc⟩ ?_)
 rw[if_pos (by decide)]
 refine wpAny_pure (wpAny_bind (wpAny_mono (hq _ (h.objs.size+1) ⟨keep,Heap.get?_none_of_le (Nat.le_succ _),h.objs.size,hget,Heap.get?_none_of_le (Nat.le_refl _),htup⟩) (λ r s' hr=>?_) λ _ _ e=>e))
 obtain⟨rfl,hQ⟩:=hr
 wp_walk
 exact hQ
theorem vW (Fn:ExcBaseFacts Bn newId inN bmN) (hBn:bmB.contains (.type Bn)=true) (F:ExcBaseFacts B nid initId bmB) (T:OwnTail h bmB bm) {mN:Str->Option Value}{rest:List Value}{fI:Addr}{oI:Obj}{Q:Value->Shared->Prop}
  (hC:h.get? C=some (excClassObj nm q C N bs bm hdct sn sub ab col dd k0 k1 k2 k3 k5 newId)) (hn:h.Ns N mN) (hi:mN "__init__" = some (.ref fI)) (hfI:h.get? fI=some oI) (hfc:oI.cls=.type "function")
  (hq:∀ h' e,Heap.MadeExcOf h h' e (.ref C) rest->wpAny (model prog w) (A.under (.builtin "type.__call__" ⟨.ref C::rest,[]⟩)) (call (.ref fI) (.ref e::rest)) (λ r s'=>r=.none/\Q (.ref e) s') E ⟨h',g,d,t,os⟩) (hrest:rest.length<=sizeLine) :
  wpAny (model prog w) A (call (.ref C) rest) Q E ⟨h,g,d,t,os⟩:=by
 have f1:=tc_lookup
 have f2:=tc_bind (.ref C)
 have hT:(⟨h,g,d,t,os⟩:Shared).TypeIs (.ref C) "type":=⟨_,hC,rfl⟩
 refine wpAny_call (codeAny_of_tree ?_)
 show wpAny _ _ (callAny (.ref C) _) _ _ _
 repeat (any_goals (first | assumption | with_reducible refine wpAny_loadPart_at hC ?_ | wp_step))
 refine⟨rfl,codeAny_call_builtin_at (Code.quiet_builtin _ (by decide +kernel)) entry_typeCall (wpAny_check_type_call_sub hC (jY Fn hBn F T hC hn hi hfI hfc (λ h' e hm=>hq h' e hm) hrest))⟩
end
end L2
namespace L2
open PySem PySem.Spec PySem.W PyProof.Rows Builtin Builtin.ObjectAttr
def mM:List Value->Bool
 | .ref _::r=>mM r
 | l=>l == vbm
theorem rg (self:Value) (l:List Value) (e:mM l=true):refuseLoop self "__setattr__" l=pure ():=by
 induction l with
 | nil=>exact absurd e (by decide)
 | cons v r ih =>
  cases v with
  | ref c=>rw[refuseLoop_ref];exact ih e
  | _ =>
   have e':=beq_iff_eq.mp e
   rw[e']
   exact PySem.F.store_ValueError.passes self
theorem Ad (l:List Value) (e:mM l=true):l.contains (.type "object")=true:=by
 induction l with
 | nil=>exact absurd e (by decide)
 | cons v r ih =>
  cases v with
  | ref c=>rw[List.contains_cons,ih e,Bool.or_true]
  | _ =>
   have e':=beq_iff_eq.mp e
   rw[e']
   decide
structure FD (K:Frag) (C:Addr) (f:Str):Prop where
 sa:findIn K (.ref C) "__setattr__" = some (some (.builtin "object.__setattr__"))
 at_:findIn K (.ref C) f=some none
 st:(clsIn K C).any (λ cd=>mM cd.mro && cd.hasDict)=true
section
variable {prog:Program}{w:World}{A:Around}{E:Value->Shared->Prop}{s:Shared}{K:Frag}{C a:Addr}{name:Str}{v:Value}
theorem B4 {ox:Obj}{vs:Array Value}{Q:Unit->Shared->Prop} (X:K.In s.heap) (x:FD K C name) (hx:s.heap.get? a=some ox) (hc:ox.cls=.ref C) (hd:ox.data=.fields vs) (hn:ox.dict=none)
  (h:∀ h' tk,h'.get? a=some {ox with dict:=some s.heap.objs.size}->h'.Ns1 s.heap.objs.size (λ y=>if y=name then some v else none)->(∀ b o,b≠a->s.heap.get? b=some o->h'.get? b=some o)->Q () {s with heap:=h',toks:=tk}) :
  wpAny (model prog w) A (setAttr (.ref a) name v) Q E s:=by
 obtain⟨oc,od,oda,osl⟩:=ox
 dsimp only at hc hd hn
 subst hc hd hn
 have I:InstAt s.heap a ⟨.ref C,none,.fields vs,osl⟩ C none:=⟨hx,rfl,rfl,trivial⟩
 have SF:=PySem.F.store_object
 obtain⟨cd,hcd,ho⟩:=any_some x.st
 obtain⟨hv,hh⟩:=Bool.and_eq_true_iff.mp ho
 have ne:cd.mro.isEmpty=false:=by
  cases q:cd.mro with
  | nil=>rw[q] at hv;exact absurd hv (by decide)
  | cons _ _=>rfl
 have sub:Looks (model prog w) s.heap (isInstance (.ref a) (.type "object")) true:=I.type.andThen (looks_mroIn X (by unfold mroIn;rw[hcd,Option.bind_some,if_neg (by rw[ne];decide),Ad _ hv]))
 have hm:Looks (model prog w) s.heap (mroOf (.ref C)) cd.mro:=(looks_clsIn X hcd).andThen .now
 refine set_plain X I x.sa ?_
 refine codeAny_call_builtin SF.slot.plain SF.entry (@check_slot (model prog w) _ _ {s with toks:=s.toks+1} "object.__setattr__" "object" "__setattr__" (.ref a) [.str name s.toks,v] [] _ SF.kind SF.split sub (SF.args (.ref a) (.str name s.toks) v) ?_)
 rw[osa_eq,refuse_eq]
 refine wpAny_bind (wpAny_bind (I.type.here (s:={s with toks:=s.toks+1}) (wpAny_bind (hm.here (s:={s with toks:=s.toks+1}) ?_))))
 rw[rg _ _ hv]
 refine wpAny_pure (wpAny_bind (I.type.here (s:={s with toks:=s.toks+1}) (wpAny_bind ((looks_findIn X x.at_).here (s:={s with toks:=s.toks+1}) (wpAny_bind (wpAny_pure ?_))))))
 obtain⟨h0,g,d,t,os⟩:=s
 dsimp only at *
 refine wpAny_bind (wpAny_pure (wpAny_bind (wpAny_bind (wpAny_loadPart hx (wpAny_bind (Looks.here (s:=⟨h0,g,d,t+1,os⟩) (looks_clsIn X hcd) ?_))))))
 rw[hh]
 have hx1:(h0.push {cls:=.type "dict",data:=.dict #[]}).get? a=some ⟨.ref C,none,.fields vs,osl⟩:=Heap.get?_push_of_some _ hx
 have hxs:a≠h0.objs.size:=Nat.ne_of_lt (Heap.lt_size hx)
 refine wpAny_bind (wpAny_alloc' ?_)
 refine wpAny_bind (wpAny_update' hx1 ?_)
 refine wpAny_pure ?_
 have hgd:((h0.push {cls:=.type "dict",data:=.dict #[]}).update a λ o=>{o with dict:=some h0.objs.size}).get? h0.objs.size=some {cls:=.type "dict",data:=.dict #[]} :=
  (Heap.get?_update_ne _ _ _ _ hxs.symm).trans (Heap.get?_push_at rfl rfl)
 have hnd:((h0.push {cls:=.type "dict",data:=.dict #[]}).update a λ o=>{o with dict:=some h0.objs.size}).Ns h0.objs.size (λ _=>none):=⟨_,#[],_,hgd,rfl,λ e he=>absurd he (by simp),λ _=>rfl⟩
 show wpAny _ _ (storeInDict h0.objs.size (.str name t) name v) _ _ _
 unfold storeInDict newKeyGuard
 refine wpAny_bind (wpAny_pure (wpAny_bind (wpAny_nsSet1 (Heap.Ns1.of_empty hnd) λ h' hn' hs=>?_)))
 obtain⟨oD,esD,epD,hoD,hdD,hcD⟩:=hn'.count (Within.cons name v Within.nil)
 refine wpAny_bind (wpAny_lookBehind hoD (by rw[hdD];exact pastItsLine_dict (Nat.le_trans hcD (by rw[List.length_cons,List.length_nil,sizeLine_eq];omega))) ?_)
 refine wpAny_pure (h h' _ ?_ hn' λ b o hb e=>?_)
 ·refine (hs.2 a hxs).trans (Heap.get?_update_self _ hx1 ?_)
  have hfr:=(Heap.get?_some_iff.mp hx).2
  exact hfr
 ·exact (hs.2 b (Nat.ne_of_lt (Heap.lt_size e))).trans ((Heap.get?_update_ne _ _ _ _ hb).trans (Heap.get?_push_of_some _ e))
structure HE (K:Frag) (C:Addr) (f:Str):Prop where
 ga:findIn K (.ref C) "__getattribute__" = some (some (.builtin "BaseException.__getattribute__"))
 gt:findIn K (.ref C) "__getattr__" = some none
 at_:findIn K (.ref C) f=some none
 hd:hasDictIn K C=true
 be:subIn K (.ref C) (.type "BaseException")=some true
end
end L2
namespace L2
open PySem
theorem kY (o:Obj) (f:Array Value->Array Value):(Obj.mapFields f o).dict=o.dict:=by
 obtain⟨c,d,da,sl⟩:=o
 cases da<;>rfl
def TrD (h B:Heap) (e:Addr) (cls a0 fl:Value) (dd:Option Addr) (cx:Value):Prop :=
 ∃ oe vs T oT ts,h.get? e=some oe/\(oe.cls=cls/\(vs[0]? = some a0/\vs[2]? = some cx)/\oe.dict=dd)/\oe.data=.fields vs/\vs[1]? = some (.ref T)/\B.get? T=none/\T≠e/\h.get? T=some oT/\oT.data=.fields ts/\ts[3]? = some fl
theorem TrD.at {h B:Heap}{e:Addr}{cls a0 fl cx:Value}{dd:Option Addr} (x:TrD h B e cls a0 fl dd cx):h.TracedAtW B e cls a0 fl :=
 let ⟨oe,vs,T,oT,ts,he,⟨hc,h0,_⟩,r⟩:=x
 ⟨oe,vs,T,oT,ts,he,⟨hc,h0.1⟩,r⟩
def FlC (cx:Value) (B:Heap) (l:List Env) (e:Addr) (cls a0 fl:Value) (dd:Option Addr) (h:Heap):Prop:=B.StaysIn h/\B.get? e=none/\h.FunFrames B l/\TrD h B e cls a0 fl dd cx
abbrev FlD (B:Heap) (l:List Env) (e:Addr) (cls a0 fl:Value) (dd:Option Addr) (h:Heap):Prop:=FlC .none B l e cls a0 fl dd h
theorem FlC.w {B h:Heap}{l:List Env}{e:Addr}{cls a0 cx:Value}{dd:Option Addr} (x:FlC cx B l e cls a0 .none dd h):Heap.FlyingW B l e cls a0 h:=⟨x.1,x.2.1,x.2.2.1,x.2.2.2.at⟩
section
variable {M:Model}{A:Around}{E:Value->Shared->Prop}{s:Shared}{B:Heap}{env:Env}{l outer:List Env}{L e:Addr}{cls a0 cx:Value}{dd:Option Addr}{Q:Unit->Shared->Prop}
theorem nY {oe:Obj}{vs:Array Value}{head:Value}{hadNext:Bool} (hfr:A.frames=some (env::outer)) (hl:s.heap.FunFrames B (env::outer)) (hf:env.frame=some L) (he:s.heap.get? e=some oe)
  (st:B.StaysIn s.heap) (hen:B.get? e=none) (hd:oe.data=.fields vs) (hsz:1<vs.size) (h0:vs[0]? = some a0/\vs[2]? = some cx)
  (h:∀ h',FlC cx B (env::outer) e oe.cls a0 (rawInt L) oe.dict h'->s.heap.UpToSlots h'->Q () {s with heap:=h'}) :
  wpAny M A (do let a <-frameOf env;let pl <-entryPlaceOf L hadNext;let b <-EntryCells.newEntry head a .none (rawInt L) .none pl;setField (.ref e) 1 b) Q E s:=by
 have notF:e ∉ (env::outer).filterMap (·.frame):=λ hm=>by
  obtain⟨_,o,ho,hnf⟩:=hl.mem hm
  rw[he] at ho
  cases ho
  exact hnf vs hd
 refine wpAny_bind (wpAny_frameOf_fun hfr hl hf λ h1 hs1=>?_)
 refine wpAny_bind (wpAny_entryPlaceOf λ pl hpl=>?_)
 unfold EntryCells.newEntry newFields
 refine wpAny_bind (wpAny_newObj_type ?_ (hpl.sizeOk5 _ _ _ _ _))
 have he1:h1.get? e=some oe:=(hs1.2.1 e notF).trans he
 have kb1:B.StaysIn h1:=λ b o z=>(hs1.2.1 b λ hm=>by rw[(hl.mem hm).1] at z;cases z).trans (st b o z)
 generalize hob:({cls:=.type "traceback",dict:=none,data:=.fields ([head,.ref L,.none,rawInt L,.none]++(if pl.isEmpty then List.replicate 6 Value.none else pl)).toArray}:Obj)=ob
 have hfree:ob.isFreed=false:=by rw[<-hob];rfl
 have hobd:ob.data=.fields ([head,.ref L,.none,rawInt L,.none]++(if pl.isEmpty then List.replicate 6 Value.none else pl)).toArray:=by rw[<-hob]
 have he2:(h1.push ob).get? e=some oe:=Heap.get?_push_of_some ob he1
 have hTe:h1.objs.size≠e:=Nat.ne_of_gt (Heap.lt_size he1)
 have hd3:=Obj.data_mapFields hd (·.setIfInBounds 1 (Value.ref h1.objs.size))
 have he3:=Heap.get?_update_self (Obj.mapFields (·.setIfInBounds 1 (Value.ref h1.objs.size))) he2 (Obj.isFreed_of_fields hd3)
 have hT3:=(Heap.get?_update_other (h1.push ob) (Obj.mapFields (·.setIfInBounds 1 (Value.ref h1.objs.size))) (Ne.symm hTe)).trans (Heap.get?_push_size h1 hfree)
 have keep:∀ b o,b≠e->h1.get? b=some o->((h1.push ob).update e (Obj.mapFields (·.setIfInBounds 1 (Value.ref h1.objs.size)))).get? b=some o:=λ b o hbe hb=>by
  rw[Heap.get?_update_other _ _ (Ne.symm hbe)]
  exact Heap.get?_push_of_some _ hb
 have noRec:∀ b o,s.heap.get? b=some o->(∀ vs,o.data≠.fields vs)->b≠e:=λ b o hb hnf q=>by
  rw[q,he] at hb
  cases hb
  exact hnf vs hd
 refine wpAny_setField he2 hd hsz (h _ ⟨?_,hen,?_,?_⟩ ?_)
 ·exact λ b o z=>keep b o (λ q=>by rw[q,hen] at z;cases z) (kb1 b o z)
 ·exact hl.of_keeps λ b o hb hnf=>let ⟨sl,hs⟩:=hs1.2.2 b o hb;⟨_,keep b _ (noRec b o hb hnf) hs,rfl⟩
 ·refine⟨_,_,h1.objs.size,_,_,he3,⟨Obj.cls_mapFields _ _,⟨by rw[Array.getElem?_setIfInBounds_ne (by decide)];exact h0.1,by rw[Array.getElem?_setIfInBounds_ne (by decide)];exact h0.2⟩,kY _ _⟩,hd3,by simp [hsz],kb1.fresh,hTe,hT3,hobd,by first | (simp;done) | (rcases hpl with rfl | ⟨_,_,_,_,_,_,_,rfl⟩<;>simp)⟩
 ·exact λ b o hb hnf=>let ⟨sl,hs⟩:=hs1.2.2 b o hb;⟨sl,keep b _ (noRec b o hb hnf) hs⟩
theorem nO {fl:Value} (hh:FlC cx B l e cls a0 fl dd s.heap) (h:∀ h',FlC cx B l e cls a0 .none dd h'->s.heap.UpToSlots h'->Q () {s with heap:=h'}):wpAny M A (setFlight (.ref e) none) Q E s:=by
 obtain⟨st,hen,hl,oe,vs,T,oT,ts,he,hcls,hd,h1,hnT,hTe,hT,hdT,h3⟩:=hh
 have sz:3<ts.size:=(Array.getElem?_eq_some_iff.mp h3).1
 have oth:∀ b,b≠T->(s.heap.update T (Obj.mapFields (·.setIfInBounds 3 ((none:Option Addr).elim Value.none λ f=>rawInt f)))).get? b=s.heap.get? b:=λ b hb=>Heap.get?_update_other _ _ (Ne.symm hb)
 have nr:∀ b o,s.heap.get? b=some o->(∀ vs,o.data≠.fields vs)->b≠T:=λ b o hb hnf q=>by
  rw[q,hT] at hb
  cases hb
  exact hnf ts hdT
 unfold setFlight
 refine wpAny_bind (wpAny_field he hd h1 ?_)
 rw[if_pos (show (Value.ref T != Value.none)=true from by simp)]
 refine wpAny_setField hT hdT sz (h _ ⟨λ b o z=>(oth b λ q=>by rw[q,hnT] at z;cases z).trans (st b o z),hen,hl.of_keeps λ b o hb hnf=>⟨o,(oth b (nr b o hb hnf)).trans hb,rfl⟩,?_⟩ λ b o hb hnf=>⟨o.slots,(oth b (nr b o hb hnf)).trans hb⟩)
 exact⟨oe,vs,T,_,_,(oth e (Ne.symm hTe)).trans he,hcls,hd,h1,hnT,hTe,Heap.get?_update_self _ hT (Obj.isFreed_of_fields (Obj.data_mapFields hdT _)),Obj.data_mapFields hdT _,by simp [sz]⟩
theorem yX {oe:Obj}{vs:Array Value} (hfr:A.frames=some (env::outer)) (hf:env.frame=some L) (st:B.StaysIn s.heap) (hl:s.heap.FunFrames B (env::outer)) (he:s.heap.get? e=some oe) (hen:B.get? e=none)
  (hd:oe.data=.fields vs) (h1:vs[1]? = some .none) (h0:vs[0]? = some a0/\vs[2]? = some cx) (h:∀ h',FlC cx B outer e oe.cls a0 .none oe.dict h'->s.heap.UpToSlots h'->Q () {s with heap:=h'}):wpAny M A (leaving env (.ref e)) Q E s:=by
 unfold leaving noteFrame
 simp only[hf]
 refine wpAny_bind (wpAny_bind (wpAny_field he hd h1 ?_))
 rw[if_neg (by decide)]
 refine nY hfr hl hf he st hen hd (Array.getElem?_eq_some_iff.mp h1).1 h0 λ h' x up=>?_
 refine nO x λ h2 y up2=>?_
 obtain⟨k1,k2,⟨_,_,k3⟩,k4⟩:=y
 exact h h2 ⟨k1,k2,k3,k4⟩ (up.trans up2)
theorem ue (hfr:A.frames=some (env::outer)) (hf:env.frame=some L) (x:FlC cx B (env::outer) e cls a0 .none dd s.heap) (h:∀ h',FlC cx B (env::outer) e cls a0 (rawInt L) dd h'->s.heap.UpToSlots h'->Q () {s with heap:=h'}) :
  wpAny M A (noteFrame (.ref e) env) Q E s:=by
 obtain⟨st,hen,hl,oe,vs,T,oT,ts,he,⟨hcls,h0,hdd⟩,hd,h1,hnT,hTe,hT,hdT,h3⟩:=x
 subst hcls hdd
 unfold noteFrame
 simp only[hf]
 refine wpAny_bind (wpAny_field he hd h1 ?_)
 rw[if_pos (show (Value.ref T != Value.none)=true from by simp)]
 refine wpAny_bind (wpAny_field hT hdT h3 ?_)
 rw[if_neg (show ¬ ((Value.none == rawInt L)=true) from by simp [rawInt])]
 refine wpAny_bind (wpAny_setField hT hdT (Array.getElem?_eq_some_iff.mp h3).1 ?_)
 have oth:∀ b,b≠T->(s.heap.update T (Obj.mapFields (·.setIfInBounds 3 Value.none))).get? b=s.heap.get? b:=λ b hb=>Heap.get?_update_other _ _ (Ne.symm hb)
 have nr:∀ b o,s.heap.get? b=some o->(∀ vs,o.data≠.fields vs)->b≠T:=λ b o hb hnf q=>by
  rw[q,hT] at hb
  cases hb
  exact hnf ts hdT
 exact nY hfr (hl.of_keeps λ b o hb hnf=>⟨o,(oth b (nr b o hb hnf)).trans hb,rfl⟩) hf ((oth e (Ne.symm hTe)).trans he) (λ b o z=>(oth b λ q=>by rw[q,hnT] at z;cases z).trans (st b o z)) hen hd
  (Array.getElem?_eq_some_iff.mp h1).1 h0 λ h' y up=>h h' y λ b o hb hnf=>up b o ((oth b (nr b o hb hnf)).trans hb) hnf
theorem yr (hfr:A.frames=some (env::outer)) (hf:env.frame=some L) (x:FlC cx B (env::outer) e cls a0 .none dd s.heap) (h:∀ h',FlC cx B outer e cls a0 .none dd h'->s.heap.UpToSlots h'->Q () {s with heap:=h'}):wpAny M A (leaving env (.ref e)) Q E s:=by
 unfold leaving
 refine wpAny_bind (ue hfr hf x λ h' y up=>?_)
 refine nO y λ h2 z up2=>?_
 obtain⟨k1,k2,⟨_,_,k3⟩,k4⟩:=z
 exact h h2 ⟨k1,k2,k3,k4⟩ (up.trans up2)
end
theorem FlC.ctx {B h:Heap}{l:List Env}{e:Addr}{cls a0 fl cx:Value}{dd:Option Addr} (x:FlC cx B l e cls a0 fl dd h):∃ oe vs,h.get? e=some oe/\oe.cls=cls/\oe.data=.fields vs/\vs[2]? = some cx :=
 let ⟨_,_,_,oe,vs,_,_,_,he,hc,hd,_⟩:=x
 ⟨oe,vs,he,hc.1,hd,hc.2.1.2⟩
end L2
namespace L2
open PySem PySem.Spec PySem.W PyProof.Rows
def HG (l:List Env) (h0:Heap) (H':Hp) (e:Addr) (cls:Value) (dd:Option Addr) (h:Heap):Prop :=
 ∃ (B:Heap) (t:Addr),FlD B l e cls (.ref t) .none dd h/\h0.get? e=none/\H' e=none /\
  ∀ b o,h.get? b=some o->((∃ o',h0.get? b=some o')∨∃ u,H' b=some u)->b ∉ frs l->B.get? b=some o
def CXD (P:Program) (w:World):CXT:=λ outer H s E e s' =>
 ∃ a cls dd H',e=.ref a/\s'.os=s.os/\AllBare s'.gens/\Un (frs outer) [] H H' s.heap s'.heap/\HOk P w H' s'.heap/\HG outer s.heap H' a cls dd s'.heap/\E cls dd H'
def exD (t:Addr):Array Value:=#[.ref t,.none,.none,.none,.bool false,.none]
section
variable {X:Cx}{pins:List (Addr×Obj)}{σ:St}{H:Hp}{s:Shared}{E:XK}{M:Model}
theorem pS (dx:dI X) (I:Inv X pins σ H s) {B h':Heap}{e t:Addr}{cls:Value}{dd:Option Addr}
  (kB:∀ b o,s.heap.get? b=some o->((∃ o',X.s₀.heap.get? b=some o')∨∃ u,H b=some u)->b ∉ frs X.stack->B.get? b=some o)
  (fw:FlD B X.outer e cls (.ref t) .none dd h') (up:s.heap.UpToSlots h') (ne:X.s₀.heap.get? e=none) (hn:H e=none) (q:E cls dd H):CXD X.prog X.w X.outer X.H₀ X.s₀ E (.ref e) {s with heap:=h'}:=by
 have un0:Un X.fs [] X.H₀ H X.s₀.heap s.heap:=by have:=I.base;rw[dx.ex] at this;exact this
 have sub:∀ b∈X.fs,b∈frs X.stack:=λ b hb=>by
  rw[dx.st];unfold frs;rw[List.filterMap_cons,dx.fr];exact List.mem_cons_of_mem _ hb
 have hl:∀ b∈frs X.stack,b ∉ X.fs->X.s₀.heap.get? b=none:=λ b hb hn=>by
  rcases List.mem_cons.mp (I.stkSub b hb) with z | z
  ·cases q:X.s₀.heap.get? b with
   | none=>rfl
   | some o=>exact absurd z (I.notMine q)
  ·exact absurd z hn
 obtain⟨un,hok⟩:=fh (h5:=h') un0 I.hok kB I.stack sub hl I.stkFree fw.1 up
 refine⟨e,cls,dd,H,rfl,I.os,I.bare,un,hok,⟨B,t,fw,ne,hn,λ b o e1 hz hb=>?_⟩,q⟩
 have there:∃ o2,s.heap.get? b=some o2:=by
  rcases hz with ⟨o',z⟩ | ⟨u,z⟩
  ·exact un0.there b o' z (by simp)
  ·exact (I.hok b u z).there
 have nst:b ∉ frs X.stack:=λ z=>by
  rcases List.mem_cons.mp (I.stkSub b z) with y | y
  ·rcases hz with ⟨o',q⟩ | ⟨u,q⟩
   ·exact I.notMine q y
   ·rw[I.stkFree b z] at q;cases q
  ·exact hb y
 obtain⟨o2,e2⟩:=there
 have e3:=kB b o2 e2 hz nst
 have e4:=fw.1 b o2 e3
 have e1':h'.get? b=some o:=e1
 rw[e1'] at e4
 cases e4
 exact e3
theorem BK (dx:dI X) (I:Inv X pins σ H s) {e t:Addr}{oe:Obj} (he:s.heap.get? e=some oe) (hd:oe.data=.fields (exD t)) (ne:X.s₀.heap.get? e=none) (hn:H e=none) (q:E oe.cls oe.dict H) {E':Value->Shared->Prop} :
  wpAny M X.A (leaving X.env (.ref e)) (λ _ s2=>CXD X.prog X.w X.outer X.H₀ X.s₀ E (.ref e) s2) E' s:=by
 have hin:∀ env∈X.stack,∀ b,env.frame=some b->b∈e::frs X.stack:=λ env hv b hb=>List.mem_cons_of_mem _ (List.mem_filterMap.mpr ⟨env,hv,hb⟩)
 have ff:=PySem.W.funFrames_hide I.stack hin
 rw[dx.st] at ff
 refine yX (B:=PySem.W.hideAll s.heap (e::frs (X.env::X.outer))) (by rw[I.ok.frames,dx.st]) dx.fr (λ b o z=>PySem.W.of_hideAll _ z) ff he (PySem.W.hideAll_none _ List.mem_cons_self) hd rfl (a0:=.ref t) ⟨rfl,rfl⟩ λ h' x up=>?_
 refine pS dx I (λ b o e1 hz hb=>PySem.W.hideAll_get _ e1 λ z=>?_) x up ne hn q
 rcases List.mem_cons.mp z with y | y
 ·subst y
  rcases hz with ⟨o',q⟩ | ⟨u,q⟩
  ·rw[ne] at q;cases q
  ·rw[hn] at q;cases q
 ·rw[<-dx.st] at y
  exact hb y
def sC (X:Cx) (E:XK):Prop:=∀ (pins:List (Addr×Obj)) (σ:St) (H:Hp) (s:Shared) (e t:Addr) (oe:Obj),Inv X pins σ H s->s.heap.get? e=some oe->oe.data=.fields (exD t)->X.s₀.heap.get? e=none->H e=none->E oe.cls oe.dict H->X.xe (.ref e) s
theorem Inv.untrack {e:Addr}{φ:Heap->Prop} (I:Inv X pins σ H s) (h:H e=some (.ext φ)):Inv X pins σ (hid H e) s:=by
 have b:=I.base
 have ne:∀ c u,H c=some u->u≠.ext φ->c≠e:=λ c u q n z=>by rw[z,h] at q;cases q;exact n rfl
 refine⟨I.ok,I.os,I.bare,⟨b.keep,b.slot,λ c u e1 e2 e3=>?_,b.there,λ c xs q=>?_,λ c u v q=>?_,λ c ps q=>?_⟩,I.loc,I.cell,?_,λ x c q=>?_,λ p hq=>?_,λ c u q=>?_,I.len⟩
 ·by_cases z:c=e
  ·rw[z];exact fc
  ·rw[ed z];exact b.free c u e1 e2 e3
 ·have y:=b.tups c xs q
  rw[ed (ne _ _ y (by intro z;cases z))];exact y
 ·have y:=b.frzs c u v q
  rw[ed (ne _ _ y (by intro z;cases z))];exact y
 ·obtain⟨more,y⟩:=b.tbls c ps q
  exact⟨more,by rw[ed (ne _ _ y (by intro z;cases z))];exact y⟩
 ·by_cases z:X.env.locals=e
  ·rw[z];exact fc
  ·rw[ed z];exact I.free
 ·by_cases z:c=e
  ·rw[z];exact fc
  ·rw[ed z];exact I.freeC x c q
 ·obtain⟨y1,y2,y3⟩:=I.pin p hq
  refine⟨y1,?_,y3⟩
  by_cases z:p.1=e
  ·rw[z];exact fc
  ·rw[ed z];exact y2
 ·obtain⟨n,q⟩:=zj q
  refine (I.hok c u q).stay (λ _ _ _ y=>y) (λ d y=>?_) (λ d xs y=>?_)
  ·rw[ed (ne _ _ y (by intro z;cases z))];exact y
  ·rw[ed (ne _ _ y (by intro z;cases z))];exact y
end
section
variable {P:Program}{w:World}{K:PySem.W.Frag}{mg:Str->Option Value}{base:Heap}{N:List Str}{qual:Str}{scope:Scope}{f:Addr}{cd:Value}{A:Around}{outer:List Env}{s:Shared}{H:Hp}{E:XK}
theorem kx:sC (i6 (CXD P w) P w K mg base N qual scope f cd A outer s H E) E:=λ _ _ _ _ _ _ _ I he hd ne hn q=>BK lO I he hd ne hn q
end
def XN (C e t:Addr):HO:=.ext λ h=>h.get? e=some {cls:=.ref C,data:=.fields (exD t)}
def XE (C e dx t:Addr):HO:=.ext λ h=>h.get? e=some {cls:=.ref C,dict:=some dx,data:=.fields (exD t)}
theorem FM {P:Program}{w:World}{H:Hp}{h:Heap}{C e t:Addr} (q:h.get? e=some {cls:=.ref C,data:=.fields (exD t)}):bx P w H h e (XN C e t):=⟨q,⟨_,q⟩,λ _ _ a b=>b _ a⟩
theorem FN {P:Program}{w:World}{H:Hp}{h:Heap}{C e dx t:Addr} (q:h.get? e=some {cls:=.ref C,dict:=some dx,data:=.fields (exD t)}):bx P w H h e (XE C e dx t):=⟨q,⟨_,q⟩,λ _ _ a b=>b _ a⟩
def Ge (K:PySem.W.Frag) (ta tv:TE) (f:Str):TS:=λ D σ H=>tv σ H λ y H1=>ta σ H1 λ x H2=>∃ C e t,x=.ref e/\H2 e=some (XN C e t)/\FD K C f /\
 ∀ dx,H2 dx=none->dx≠e->D.nx σ (upd (upd H2 e (XE C e dx t)) dx (.xd [(f,y)]))
theorem AV {X:Cx}{o value:Expr}{f:Str}{pos pos':Pos}{ta tv:TE} (ha:PE X o ta) (hv:PE X value tv) (hs:swapsWith value (some (.Attribute o f pos')) pos.line X.env=pure false):PS X (.Assign [.Attribute o f pos'] value pos) (Ge X.K ta tv f):=by
 intro pins s σ H D I h
 refine plainObj_wpAny_Assign_Attribute (thn (hv pins s σ H _ I h) λ u s1 ⟨y,H1,I1,ry,q⟩=>thn (ha pins s1 σ H1 _ I1 q) λ ov s2 ⟨x,H2,I2,rx,C,e,t,ex,he,xs,q2⟩=>?_) hs
 subst ex
 obtain rfl:ov=Value.ref e:=rx
 have hx:s2.heap.get? e=some {cls:=.ref C,data:=.fields (exD t)}:=(I2.hok e _ he).1
 have lt:=Heap.lt_size hx
 have nd:s2.heap.objs.size≠e:=Nat.ne_of_gt lt
 have hd0:H2 s2.heap.objs.size=none:=I2.hok.fresh (Nat.le_refl _)
 refine B4 I2.kIn xs hx rfl rfl rfl λ h' tk g1 g2 g3=>?_
 have J:Inv X pins σ (upd H2 e (XE C e s2.heap.objs.size t)) {s2 with heap:=h',toks:=tk}:=I2.write (x:=e) (e:=e) (by rw[he];exact True.intro) (.inl rfl) g3 ⟨_,g1⟩ (FN g1)
 refine⟨σ,_,J.track (a:=s2.heap.objs.size) (o:=.xd [(f,y)]) (Heap.get?_none_of_le I2.sz) (by rw[aM nd];exact hd0) ?_ (λ z c hc w=>?_) (λ p hp w=>?_) ⟨_,g2,λ g=>?_⟩,q2 _ hd0 nd⟩
 ·exact Nat.ne_of_gt I2.lt
 ·obtain⟨v,o,y1,y2⟩:=I2.cell z c hc
  exact Nat.ne_of_lt (Heap.lt_size y1) w
 ·exact Nat.ne_of_lt (Heap.lt_size (I2.pin p hp).1) w
 ·by_cases z:g=f
  ·subst z
   rw[if_pos rfl]
   have:List.lookup g [(g,y)]=some y:=by simp [List.lookup]
   rw[this]
   exact ry
  ·rw[if_neg z]
   have hb:(g == f)=false:=beq_eq_false_iff_ne.mpr z
   have:List.lookup g [(f,y)]=none:=by simp only[List.lookup,hb]
   rw[this]
   exact True.intro
def jG (K:Frag) (C f:Addr):Bool:=match K.lookup C with
 | some ⟨.type "type",_,.cls cd,sl⟩=>(match cd.mro,sl.toList with
  | .ref C'::tl,[_,_,_,_,some (.builtin n),_]=>C' == C && n == "ValueError.__new__" && !cd.hasDel && tailIn K vbm tl && nsOkIn K cd.ns && nsIn K cd.ns "__init__" == some (some (.ref f))
  | _,_=>false)
 | _=>false
theorem rm {K:Frag}{h:Heap}{N:Addr}{mg:Str->Option Value}{n:Str}{v:Value} (X:K.In h) (G:h.Ns N mg) (e:nsIn K N n=some (some v)):mg n=some v:=by
 obtain⟨o,es,ep,ho,hd,_,hf⟩:=G
 unfold nsIn at e
 split at e
 ·rename_i c d es' n' sl q
  have:=X _ _ q
  rw[ho] at this
  cases this
  cases hd
  split at e
  ·rename_i en he
   cases e
   rw[<-hf]
   unfold nsFind findBy
   rw[<-Array.find?_toList,he]
   rfl
  ·split at e<;>cases e
 ·cases e
theorem ug {K:PySem.W.Frag}{h:Heap}{C f:Addr} (kin:K.In h) (z:jG K C f=true) :
  ∃ (tl:List Value) (N:Addr) (nm qn:Str) (bs:List Value) (hd:Bool) (sn:List Str) (su:List Value) (ab:Bool) (co:Option Bool) (dd:Option Addr) (k0 k1 k2 k3 k5:Option Value) (mN:Str->Option Value),
   h.get? C=some (excClassObj nm qn C N bs tl hd sn su ab co dd k0 k1 k2 k3 k5 "ValueError.__new__")/\h.Ns N mN/\mN "__init__" = some (.ref f)/\OwnTail h vbm tl:=by
 unfold jG at z
 split at z
 ·rename_i d0 c0 slt lk
  split at z
  ·rename_i C2 tl a0 a1 a2 a3 nn a5 em es
   simp only[Bool.and_eq_true,beq_iff_eq,Bool.not_eq_true'] at z
   obtain⟨⟨⟨⟨⟨y1,y2⟩,y3⟩,y4⟩,y5⟩,y6⟩:=z
   subst y1 y2
   obtain⟨nm,bs,mr,ns,qn,hd,sn,su,ab,co,de⟩:=c0
   dsimp only at em y3 y5 y6
   subst em y3
   have sz:slt=#[a0,a1,a2,a3,some (.builtin "ValueError.__new__"),a5]:=by
    cases slt with | mk l=>exact congrArg Array.mk es
   subst sz
   exact⟨tl,ns,nm,qn,bs,hd,sn,su,ab,co,d0,a0,a1,a2,a3,a5,_,kin _ _ lk,.of_isNs (PySem.W.isNs_of_in kin y5),rm kin (.of_isNs (PySem.W.isNs_of_in kin y5)) y6,PySem.W.tail_of_in kin y4⟩
  ·cases z
 ·cases z
structure MkX (K:PySem.W.Frag) (C f:Addr):Prop where
 ini:jG K C f=true
 fn:PySem.W.isFn K (.ref f)=true
 kp:PySem.W.keepIn K (.ref C)=true
def DO (C:Addr) (sp:Sp) (t:TA):TE:=λ σ H Q=>t σ H λ vs H1=>vs.length<=sizeLine/\∀ e tt,H1 e=none->sp (.ref e::vs) (upd H1 e (XN C e tt)) (λ v H2=>v=.non/\Q (.ref e) H2) E0
section
variable {X:Cx}{k:Nat}{f C:Addr}{fd:FuncData}{ps:List Str}{sp:Sp}{E:XK}{x:Str}{p pos:Pos}{e:Expr}{es:List Expr}{t:TA}
theorem DJ {K:Frag}{h:Heap}{f:Addr} (kin:K.In h) (z:PySem.W.isFn K (.ref f)=true):∃ o,h.get? f=some o/\o.cls=.type "function":=by
 have z':typeIn K (.ref f)=some (.type "function"):=beq_iff_eq.mp z
 unfold typeIn at z'
 cases q:K.lookup f with
 | none=>simp [q] at z'
 | some o=>exact⟨o,kin _ _ q,by simpa [q] using z'⟩
theorem ym (dx:dI X) (M:MkX X.K C f) (F:aS X.prog X.w X.K X.mg X.base CX0 k f fd ps sp) (hr:cF (k+1) X.A) (hg:Gl X x) (hm:X.mg x=some (.ref C)) (hb:bS X.K fd ps [])
  (ha:PA X (e::es) t) (hdb:(x == ("__debug__":Str))=false:=by decide) (he:starEach (e::es) X.env=(false,eval e X.env)::starEach es X.env:=by rfl) (hpl:(backTo pos (starEach es X.env)).any (·.1)=false:=by rfl) :
  PE X (.Call (.Name x p) (e::es) [] pos) (DO C sp t):=by
 intro pins s σ H Q I h
 refine wpAny_Call_Name_kw (dl I hg hm ?_ hdb)
 refine PySem.W.callWith_K (h₀:=X.base) I.ok.mod.kin M.kp (thn (ha pos pins s σ H _ I h) λ us s1 ⟨vs,H1,I1,r,hl,q⟩=>⟨I1.kIn,?_⟩) he hpl
 obtain⟨tl,N,nm,qn,bs,hd,sn,su,ab,co,dd,k0,k1,k2,k3,k5,mN,hC,hN,hni,T⟩:=ug I1.kIn M.ini
 obtain⟨oI,hfI,hfc⟩:=DJ I1.kIn M.fn
 obtain⟨hh,g,d,tk,os⟩:=s1
 refine vW PySem.F.excBase_ValueError (by decide) PySem.F.excBase_ValueError T hC hN hni hfI hfc (λ h' a mk=>?_) (by show us.length<=sizeLine;rw[<-r.length];exact hl)
 obtain⟨n1,n2⟩:=I1.gone dx mk.new
 obtain⟨tt,ga,_,_⟩:=mk.there
 have I2:Inv X pins σ H1 ⟨h',g,d,tk,os⟩:=I1.kept mk.keeps
 have neo:∀ b o,hh.get? b=some o->b≠a:=λ b o q z=>by
  have y:=mk.new
  rw[<-z] at y
  have q':hh.get? b=some o:=q
  rw[show hh.get? b=none from y] at q'
  cases q'
 have I3:Inv X pins σ (upd H1 a (XN C a tt)) ⟨h',g,d,tk,os⟩:=I2.track (a:=a) (o:=XN C a tt) n1 n2 (λ z=>by
   obtain⟨m,⟨o,_,_,ho,_⟩,_⟩:=I1.loc
   exact neo _ _ ho z.symm) (λ y c hc z=>by
   obtain⟨v,o,y1,y2⟩:=I1.cell y c hc
   exact neo _ _ y1 z) (λ p hp z=>neo _ _ (I1.pin p hp).1 z) (FM ga)
 have hq:=q a tt n2
 have r2:bg (V.ref a::vs) (Value.ref a::us):=.cons rfl r
 have hl2:(Value.ref a::us++[]).length=ps.length:=by
  have e:=r2.length
  rw[F.len _ _ _ _ hq] at e
  rw[List.append_nil]
  exact e.symm
 have bnd:=hb ⟨h',g,d,tk,os⟩ (Value.ref a::us) I3.kIn hl2
 rw[List.append_nil] at bnd
 refine wpAny_call (codeAny_mono (F.run _ X.stack _ _ ⟨Value.ref a::us,[]⟩ (Value.ref a::us) _ _ E0 (hr.make C us []) (I3.env0.make C us []) bnd r2 hq) λ r s' hq'=>?_)
 cases r with
 | error e=>exact hq'.elim
 | ok fl =>
  cases fl with
  | ret u =>
   obtain⟨v,H',I4,rv,ev,q3⟩:=I3.after hq'
   subst ev
   exact⟨rv,⟨V.ref a,H',I4,rfl,q3⟩⟩
  | next=>exact False.elim hq'
  | brk=>exact False.elim hq'
  | cont=>exact False.elim hq'
def Ae (H0:Hp) (K:Frag) (E:XK) (t:TE):TS:=λ _ σ H=>t σ H λ v H1=>∃ e C f dx tt,v=.ref e/\H1 e=some (XE C e dx tt)/\jG K C f=true/\H0 e=none/\E (.ref C) (some dx) (hid H1 e)
theorem uP {ex:Expr}{tx:TE} (dx:dI X) (hr:sC X E) (hc:X.calm=true) (he:PE X ex tx):PS X (.Raise (some ex) none pos) (Ae X.H₀ X.K E tx):=by
 intro pins s σ H D I h
 rw[arm_exec_Raise]
 simp only[evalOpt,Option.map]
 refine wpAny_bind (wpAny_standAt ?_)
 unfold raiseStmt
 refine wpAny_bind (wpAny_bind (thn (he pins s σ H _ I h) λ u s1 ⟨v,H1,I1,rv,a,C,f,dd,tt,ev,ha,hi,h0,q⟩=>wpAny_bind (wpAny_standAt (wpAny_pure ?_))))
 subst ev
 obtain rfl:u=Value.ref a:=rv
 obtain⟨tl,N,nm,qn,bs,hd,sn,su,ab,co,dd',k0,k1,k2,k3,k5,mN,hC,hN,hni,T⟩:=ug I1.kIn hi
 have hx:s1.heap.get? a=some {cls:=.ref C,dict:=some dd,data:=.fields (exD tt)}:=(I1.hok a _ ha).1
 have hcB:(Value.ref C::tl).contains (.type "BaseException")=true:=by rw[List.contains_cons,T.hasType (b:=true) (by decide),Bool.or_true]
 have ne:X.s₀.heap.get? a=none:=by
  cases q:X.s₀.heap.get? a with
  | none=>rfl
  | some o =>
   have y:=I1.base.free a o q h0 (by rw[dx.ex];simp)
   rw[ha] at y;cases y
 have fin:=hr pins σ (hid H1 a) s1 a tt _ (I1.untrack ha) hx rfl ne fc q
 obtain⟨hp,g,d,tk,os⟩:=s1
 unfold exD at hx
 repeat (first | with_reducible refine wpAny_loadPart_at hx ?_ | with_reducible refine wpAny_loadPart_at hC ?_ | (with_reducible refine wpAny_isSubtype_exc hC ?_;rw[hcB]) | wp_step)
 exact wpAny_raiseNew_none (I.ok.hd hc) fin
end
end L2
namespace L2
open PySem PySem.Spec PySem.W PyProof.Rows
theorem gp {X:Cx}{E:XK}{x:Str}{C:Addr}{np cpos pos:Pos}{e:Expr}{es:List Expr}{t:TA} (dx:dI X) (hr:sC X E) (hc:X.calm=true) (xc:lT X.K X.mg x C) (hg:Gl X x) (ha:PA X (e::es) t)
  (hdb:(x == ("__debug__":Str))=false:=by decide) (he:starEach (e::es) X.env=(false,eval e X.env)::starEach es X.env:=by rfl) (hpl:(backTo cpos (starEach es X.env)).any (·.1)=false:=by rfl) :
  PS X (.Raise (some (.Call (.Name x np) (e::es) [] cpos)) none pos) (wo C E t):=by
 intro pins s σ H D I h
 obtain⟨tl,N,nm,qn,bs,hd,sn,su,ab,co,dd,k0,k1,k2,k3,k5,mN,hC,hN,hni,T⟩:=sj I.mod.kin xc.ok
 refine wpAny_Raise_call_subT (C:=C) (nm:=nm) (q:=qn) (N:=N) (bs:=bs) (bm:=tl) (hdct:=hd) (sn:=sn) (sub:=su) (ab:=ab) (col:=co) (dd:=dd) (k0:=k0) (k1:=k1) (k2:=k2) (k3:=k3) (k5:=k5)
  PySem.F.excBase_ValueError (mN:=mN) (T.hasType PySem.F.excBase_ValueError.hasBase) (I.ok.hd hc) (by rw[he];show (false || _)=false;exact hpl) hni (dl I hg xc.at_ ⟨rfl,?_⟩ hdb)
 have h2:=ha cpos pins s σ H _ I h
 rw[he] at h2 ⊢
 refine Calls.evalArgs_plain (wpAny_mono h2 (λ us s2 ⟨vs,H1,I1,rv,hl,q⟩=>⟨rfl,by rw[<-rv.length];exact hl,I1.bk _ _ hC,hN.keeps I1.bk,T.keeps I1.bk,λ h' e mk=>?_⟩) λ _ _ y=>y)
 obtain⟨tt,ga,_,_⟩:=mk.there
 obtain⟨n1,n2⟩:=I1.gone dx mk.new
 obtain⟨hh,g,d,tk,os⟩:=s2
 exact hr pins σ H1 ⟨h',g,d,tk,os⟩ e tt _ (I1.kept mk.keeps) ga rfl n1 n2 q
end L2
namespace L2
open PySem PySem.Spec PySem.W PyProof.Rows
theorem lN:entryFor table "proto.unchain" = some Builtin.«proto.unchain»:=by rfl
theorem lL {prog:Program}{w:World}{A:Around}{E:Value->Shared->Prop}{s:Shared}{α:Type}{Q:α->Shared->Prop}{a e:Addr}{oa oe:Obj}{va ve:Array Value} (hA:A.handled=some (.ref a)) (ne:a≠e) (ha:s.heap.get? a=some oa) (hda:oa.data=.fields va) (h2:va[2]? = some .none)
  (he:s.heap.get? e=some oe) (hde:oe.data=.fields ve) (hs:2<ve.size) (fin:E (.ref e) {s with heap:=s.heap.update e (Obj.mapFields (·.setIfInBounds 2 (.ref a)))}):wpAny (model prog w) A (raiseNew (α:=α) (.ref e)) Q E s:=by
 unfold raiseNew
 refine wpAny_bind (wpAny_handled ?_)
 rw[hA]
 show wpAny (model prog w) A (if (Value.ref a != Value.ref e)=true then _ else _) Q E s
 rw[if_pos (by simpa using ne)]
 refine wpAny_bind (wpAny_holding (wpAny_runValue (codeAny_builtin lN ?_)))
 show wpAny (model prog w) _ (Builtin.«proto.unchain» {pos:=[.ref e,.ref a,.ref a,.bool false]}) _ _ s
 unfold Builtin.«proto.unchain»
 refine wpAny_bind (wpAny_field ha hda h2 ?_)
 rw[if_pos (by decide)]
 refine wpAny_pure ?_
 show wpAny (model prog w) A _ Q E s
 refine wpAny_bind ?_
 show wpAny (model prog w) A (setField (.ref e) 2 (.ref a)) _ E s
 exact wpAny_setField he hde hs (wpAny_throw fin)
theorem yR {M:Model}{A:Around}{E:Value->Shared->Prop}{s:Shared}{B:Heap}{l:List Env}{e:Addr}{cls a0 cx fl:Value}{dd:Option Addr}{Q:Unit->Shared->Prop} (fr:Option Addr) (hh:FlC cx B l e cls a0 fl dd s.heap) (h:∀ h',FlC cx B l e cls a0 (fr.elim Value.none λ f=>rawInt f) dd h'->s.heap.UpToSlots h'->Q () {s with heap:=h'}):wpAny M A (setFlight (.ref e) fr) Q E s:=by
 obtain⟨st,hen,hl,oe,vs,T,oT,ts,he,hcls,hd,h1,hnT,hTe,hT,hdT,h3⟩:=hh
 have sz:3<ts.size:=(Array.getElem?_eq_some_iff.mp h3).1
 have oth:∀ b,b≠T->(s.heap.update T (Obj.mapFields (·.setIfInBounds 3 (fr.elim Value.none λ f=>rawInt f)))).get? b=s.heap.get? b:=λ b hb=>Heap.get?_update_other _ _ (Ne.symm hb)
 have nr:∀ b o,s.heap.get? b=some o->(∀ vs,o.data≠.fields vs)->b≠T:=λ b o hb hnf q=>by
  rw[q,hT] at hb
  cases hb
  exact hnf ts hdT
 unfold setFlight
 refine wpAny_bind (wpAny_field he hd h1 ?_)
 rw[if_pos (show (Value.ref T != Value.none)=true from by simp)]
 refine wpAny_setField hT hdT sz (h _ ⟨λ b o z=>(oth b λ q=>by rw[q,hnT] at z;cases z).trans (st b o z),hen,hl.of_keeps λ b o hb hnf=>⟨o,(oth b (nr b o hb hnf)).trans hb,rfl⟩,?_⟩ λ b o hb hnf=>⟨o.slots,(oth b (nr b o hb hnf)).trans hb⟩)
 exact⟨oe,vs,T,_,_,(oth e (Ne.symm hTe)).trans he,hcls,hd,h1,hnT,hTe,Heap.get?_update_self _ hT (Obj.isFreed_of_fields (Obj.data_mapFields hdT _)),Obj.data_mapFields hdT _,by simp [sz]⟩
theorem vx {X:Cx}{pins:List (Addr×Obj)}{σ:St}{H:Hp}{s:Shared}{E:XK} (dx:dI X)
  (hxe:∀ e s',wpAny (model X.prog X.w) X.A (leaving X.env e) (λ _ s2=>CXX X.prog X.w X.outer X.H₀ X.s₀ E e s2) (λ e' s2=>CXX X.prog X.w X.outer X.H₀ X.s₀ E e' s2) s'->X.xe e s')
  (I:Inv X pins σ H s) {e tt a C:Addr} (ge:s.heap.get? e=some {cls:=.ref C,data:=.fields (exD tt)}) (ne0:X.s₀.heap.get? e=none) (hn:H e=none) (q:E (.ref C) none H) {A':Around} (hA':A'.frames=X.A.frames) :
  notedBy (model X.prog X.w) A' X.env (λ x s₂=>cameBackBy (model X.prog X.w) X.A X.env X.xe x s₂) (.ref e) {s with heap:=s.heap.update e (Obj.mapFields (·.setIfInBounds 2 (.ref a)))}:=by
 have hin:∀ env∈X.stack,∀ b,env.frame=some b->b∈e::frs X.stack:=λ env hv b hb=>List.mem_cons_of_mem _ (List.mem_filterMap.mpr ⟨env,hv,hb⟩)
 have ff:=PySem.W.funFrames_hide I.stack hin
 rw[dx.st] at ff
 have hd8:(Obj.mapFields (·.setIfInBounds 2 (Value.ref a)) {cls:=Value.ref C,data:=.fields (exD tt)}).data=.fields ((exD tt).setIfInBounds 2 (.ref a)):=rfl
 have he8:=Heap.get?_update_self (Obj.mapFields (·.setIfInBounds 2 (Value.ref a))) ge (Obj.isFreed_of_fields hd8)
 have oth:∀ b,b≠e->(s.heap.update e (Obj.mapFields (·.setIfInBounds 2 (Value.ref a)))).get? b=s.heap.get? b:=λ b hb=>Heap.get?_update_other _ _ (Ne.symm hb)
 have frm:X.A.frames=some (X.env::X.outer):=by rw[I.ok.frames,dx.st]
 have hen:(PySem.W.hideAll s.heap (e::frs (X.env::X.outer))).get? e=none:=PySem.W.hideAll_none _ List.mem_cons_self
 have st8:(PySem.W.hideAll s.heap (e::frs (X.env::X.outer))).StaysIn (s.heap.update e (Obj.mapFields (·.setIfInBounds 2 (Value.ref a)))):=λ b o z=>(oth b λ y=>by rw[y,hen] at z;cases z).trans (PySem.W.of_hideAll _ z)
 have nof:∀ b o,s.heap.get? b=some o->(∀ vs,o.data≠.fields vs)->b≠e:=λ b o hb hnf y=>by
  rw[y,ge] at hb
  cases hb
  exact hnf _ rfl
 have up8:s.heap.UpToSlots (s.heap.update e (Obj.mapFields (·.setIfInBounds 2 (Value.ref a)))):=λ b o hb hnf=>⟨o.slots,(oth b (nof b o hb hnf)).trans hb⟩
 have ff8:=ff.of_keeps (h':=s.heap.update e (Obj.mapFields (·.setIfInBounds 2 (Value.ref a)))) λ b o hb hnf=>⟨o,(oth b (nof b o hb hnf)).trans hb,rfl⟩
 unfold notedBy noteFrame
 simp only[dx.fr]
 refine wpAny_bind (wpAny_field (x:=.none) he8 hd8 rfl ?_)
 rw[if_neg (by decide)]
 refine nY (hA'.trans frm) ff8 dx.fr he8 st8 hen hd8 (by show 1<6;decide) (a0:=.ref tt) (cx:=.ref a) ⟨rfl,rfl⟩ λ h9 fl9 up9=>?_
 unfold cameBackBy
 obtain⟨k1,k2,k3,oe9,vs9,T9,oT9,ts9,g9,c9,d9,f9,r9⟩:=id fl9
 refine wpAny_bind (wpAny_field g9 d9 f9 ?_)
 rw[if_neg (by simp)]
 rw[dx.fr]
 refine yR (some X.env.locals) fl9 λ h10 fl10 up10=>?_
 refine hxe _ _ ?_
 unfold leaving noteFrame
 simp only[dx.fr]
 obtain⟨m1,m2,m3,oe10,vs10,T10,oT10,ts10,g10,c10,d10,f10,b10,n10,gT,dT,t3⟩:=id fl10
 refine wpAny_bind (wpAny_bind (wpAny_field g10 d10 f10 ?_))
 rw[if_pos (by simp)]
 refine wpAny_bind (wpAny_field gT dT t3 ?_)
 rw[if_pos (by simp)]
 refine wpAny_pure ?_
 refine yR none fl10 λ h11 fl11 up11=>?_
 obtain⟨l1,l2,⟨_,_,l3⟩,l4⟩:=fl11
 have fin:FlC (.ref a) (PySem.W.hideAll s.heap (e::frs (X.env::X.outer))) X.outer e (.ref C) (.ref tt) .none none h11:=⟨l1,l2,l3,l4⟩
 refine jR dx I (λ b o e1 hz hb=>PySem.W.hideAll_get _ e1 λ z=>?_) fin.w (((up8.trans up9).trans up10).trans up11) ne0 hn q
 rcases List.mem_cons.mp z with y | y
 ·subst y
  rcases hz with ⟨o',q⟩ | ⟨u,q⟩
  ·rw[ne0] at q;cases q
  ·rw[hn] at q;cases q
 ·rw[<-dx.st] at y
  exact hb y
end L2
namespace L2
open PySem PySem.Spec PySem.W PyProof.Rows
section
variable {X:Cx}{E:XK}
theorem yt (dx:dI X) (hxe:∀ e s',wpAny (model X.prog X.w) X.A (leaving X.env e) (λ _ s2=>CXD X.prog X.w X.outer X.H₀ X.s₀ E e s2) (λ e' s2=>CXD X.prog X.w X.outer X.H₀ X.s₀ E e' s2) s'->X.xe e s'):cG (CXD X.prog X.w) X E:=by
 intro pins σ H s e s' I h
 obtain⟨a,cls,dd,H',rfl,os,bare,un,hok,⟨B,t,fw,ne,hn,kB⟩,q⟩:=h
 have I':Inv X pins σ H' s':=I.call' (ch:=[]) os un hok bare (λ b z=>absurd z (by simp))
 obtain⟨n1,_⟩:=I.gone dx ne
 refine hxe _ _ (yr (L:=X.env.locals) (by rw[I.ok.frames,dx.st]) dx.fr (by rw[<-dx.st];exact fw) λ h2 f2 up=>?_)
 refine pS dx I' (λ b o e1 hz hb=>kB b o e1 ?_ hb) f2 up n1 hn q
 rcases hz with ⟨o',z⟩ | z
 ·exact .inl (I.base.there b o' z (by rw[dx.ex];simp))
 ·exact .inr z
end
section
variable {P:Program}{w:World}{K:PySem.W.Frag}{mg:Str->Option Value}{base:Heap}{N:List Str}{qual:Str}{scope:Scope}{f:Addr}{cd:Value}{A:Around}{outer:List Env}{s:Shared}{H:Hp}{E:XK}
theorem tX:cG (CXD P w) (i6 (CXD P w) P w K mg base N qual scope f cd A outer s H E) E:=yt lO λ _ _ h=>h
theorem Cc {l:List Env}{e:Value}{s':Shared} (h:CXD P w l H s (λ c _ H'=>E c none H') e s'):CXX P w l H s E e s':=by
 obtain⟨a,cls,dd,H',rfl,os,bare,un,hok,⟨B,t,fw,ne,hn,kB⟩,q⟩:=h
 exact⟨a,cls,H',rfl,os,bare,un,hok,⟨B,t,fw.w,ne,hn,kB⟩,q⟩
end
def ETR (K:PySem.W.Frag) (CS CD:Addr) (E:XK):St->XK:=λ _ cls _ H=>PySem.W.subIn K cls (.ref CS)=some true/\E (.ref CD) none H
theorem tQ {X:Cx}{E:XK}{body:List Stmt}{S D msg:Str}{np hpos pos dp cp rp mp:Pos}{j:Nat}{CS CD:Addr}{tb:(St->XK)->TS} (dx:dI X)
  (hxe:∀ e s',wpAny (model X.prog X.w) X.A (leaving X.env e) (λ _ s2=>CXX X.prog X.w X.outer X.H₀ X.s₀ E e s2) (λ e' s2=>CXX X.prog X.w X.outer X.H₀ X.s₀ E e' s2) s'->X.xe e s')
  (hg:Gl X S) (hm:X.mg S=some (.ref CS)) (ca:Catch X.K CS) (hgD:Gl X D) (xc:lT X.K X.mg D CD) (kp:PySem.W.keepIn X.K (.ref CD)=true)
  (hb:∀ (xe:Value->Shared->Prop) (pn:List (Addr×Obj)) (E:St->XK),gB (CXD X.prog X.w) (X.tried xe pn) E->PSs (X.tried xe pn) body (tb E))
  (hdb:(S == ("__debug__":Str))=false:=by decide) (hdbD:(D == ("__debug__":Str))=false:=by decide) :
  PS X (.Try body [.ExceptHandler (some (.Name S np)) none [.Raise (some (.Call (.Name D dp) [.Constant (.str msg) j mp] [] cp)) none rp] hpos] [] [] pos) (λ Ds σ H=>tb (ETR X.K CS CD E) Ds σ H):=by
 intro pins s σ H Ds I h
 have pass:gB (CXD X.prog X.w) (X.tried (λ e s1=>wpAny (model X.prog X.w) X.A (noteFrame e X.env) (λ _ s2=>wpAny (model X.prog X.w) X.A (setFlight e none) (λ _ s3 =>
   wpAny (model X.prog X.w) X.A (handleBy e X.env [.ExceptHandler (some (.Name S np)) none [.Raise (some (.Call (.Name D dp) [.Constant (.str msg) j mp] [] cp)) none rp] hpos]) (SP X pins Ds) X.xe s3) X.xe s2) X.xe s1) pins) (ETR X.K CS CD E):=by
  intro pins' σ' H1 s1 e s' I' hx
  obtain⟨a,cls,dd,H',rfl,os,bare,un,hok,⟨B,t,fw,ne,hn,kB⟩,hk,q⟩:=hx
  have J:Inv X pins σ' H1 s1:=I'.untried
  have hu:∀ b∈frs X.stack,H' b=none:=λ b z=>by
   obtain⟨_,o,e0,_⟩:=J.stack.mem z
   exact un.free b o e0 (J.stkFree b z) (by simp)
  have keep5:∀ h5:Heap,B.StaysIn h5->s'.heap.UpToSlots h5->Un (frs X.stack) [] H1 H' s1.heap h5/\HOk X.prog X.w H' h5:=λ h5 st up =>
   fh un hok kB fw.2.2.1 (λ _ z=>z) (λ b z nz=>absurd z nz) hu st up
  have inv5:∀ h5:Heap,B.StaysIn h5->s'.heap.UpToSlots h5->Inv X pins σ' H' {s' with heap:=h5}:=λ h5 st up =>
   J.call' (s':={s' with heap:=h5}) (ch:=[]) os (keep5 h5 st up).1 (keep5 h5 st up).2 bare (λ b z=>absurd z (by simp))
  have neL:a≠X.env.locals:=λ z=>by
   obtain⟨m,⟨o,_,_,ho,_⟩,_⟩:=J.loc
   rw[<-z,ne] at ho;cases ho
  have nfs:a ∉ X.fs:=λ z=>by
   obtain⟨_,o,e0,_⟩:=J.funs.mem z
   rw[ne] at e0;cases e0
  have fw':FlD B (X.env::X.outer) a cls (.ref t) .none dd s'.heap:=by rw[<-dx.st];exact fw
  show wpAny (model X.prog X.w) X.A (noteFrame (.ref a) X.env) _ X.xe s'
  refine ue (by rw[J.ok.frames,dx.st]) dx.fr fw' λ h4 held4 up4=>?_
  refine nO held4 λ h5 fl5 up5=>?_
  have up:=up4.trans up5
  have J5:=inv5 h5 fl5.1 up
  obtain⟨oe,vs,hoe,hoc,hod,hctx⟩:=fl5.ctx
  have K5:Inv (X.held a oe) pins σ' H' {s' with heap:=h5}:=J5.held hoe hn neL nfs (λ v z=>by rw[hod] at z;cases z)
  refine wpAny_handleBy_cons (codeAny_handlers_test (dl K5 hg hm ?_ hdb)) (by intro z;cases z)
  refine jt K5.kIn hoe ca (by rw[hoc];exact hk) ?_
  refine codeAny_handlers_suite ?_
  refine nO fl5 λ h6 fl6 up6=>?_
  obtain⟨oe6,vs6,hoe6,hoc6,hod6,hctx6⟩:=fl6.ctx
  have J6:=inv5 h6 fl6.1 (up.trans up6)
  have K6:Inv (X.held a oe6) pins σ' H' {s' with heap:=h6}:=J6.held hoe6 hn neL nfs (λ v z=>by rw[hod6] at z;cases z)
  refine wpAny_execs_cons ?_
  rw[arm_exec_Raise]
  simp only[evalOpt,Option.map]
  refine wpAny_bind (wpAny_standAt ?_)
  unfold raiseStmt
  refine wpAny_bind (wpAny_bind ?_)
  refine wpAny_Call_Name_kw (dl K6 hgD xc.at_ ?_ hdbD)
  have pa:PA (X.held a oe6) [.Constant (.str msg) j mp] (CQ (tC (.str msg)) DM):=ae ah af
  refine PySem.W.callWith_K (h₀:=X.base) K6.ok.mod.kin kp (thn (pa cp pins _ σ' H' (λ us H1=>H1=H'/\us.length=1) K6 ⟨rfl,rfl⟩) λ us s7 ⟨vs7,H7,I7,r7,e7,l7⟩=>⟨I7.kIn,?_⟩) rfl rfl
  subst e7
  obtain⟨tl,N,nm,qn,bs,hd,sn,su,ab,co,dd',k0,k1,k2,k3,k5,mN,hC,hN,hni,T⟩:=sj I7.kIn xc.ok
  obtain⟨hh,g,d,tk,os7⟩:=s7
  refine wpAny_call_exc_subU PySem.F.excBase_ValueError PySem.F.excBase_ValueError.hasBase PySem.F.excBase_ValueError T hC hN hni (λ h7 e mk=>?_) (by show us.length<=sizeLine;rw[<-r7.length,l7];decide)
  obtain⟨tt,ge,htn,gt⟩:=mk.there
  have hC7:=mk.keeps _ _ hC
  have hcB:(Value.ref CD::tl).contains (.type "BaseException")=true:=by rw[List.contains_cons,T.hasType (b:=true) (by decide),Bool.or_true]
  refine wpAny_bind (wpAny_standAt (wpAny_pure ?_))
  repeat (first | with_reducible refine wpAny_loadPart_at ge ?_ | with_reducible refine wpAny_loadPart_at hC7 ?_ | (with_reducible refine wpAny_isSubtype_exc hC7 ?_;rw[hcB]) | wp_step)
  have I7u:Inv X pins σ' H7 ⟨hh,g,d,tk,os7⟩:=I7.unheld I.ok.hd
  obtain⟨n1,n2⟩:=I7u.gone dx mk.new
  have I8:Inv X pins σ' H7 ⟨h7,g,d,tk,os7⟩:=I7u.kept mk.keeps
  have pin7:=(I7.pin (a,oe6) (List.mem_append_left _ List.mem_cons_self)).1
  have nae:a≠e:=λ z=>by
   have y:=mk.new
   rw[<-z] at y
   have pin7':hh.get? a=some oe6:=pin7
   rw[show hh.get? a=none from y] at pin7'
   cases pin7'
  exact lL rfl nae (mk.keeps _ _ pin7) hod6 hctx6 ge rfl (by show 2<6;decide) (vx dx hxe I8 ge n1 n2 q rfl)
 refine wpAny_Try_except (wpAny_mono (hb _ pins _ pass [] s σ H Ds I.tried h) (λ f s1 hf=>?_) λ e s1 he=>he)
 cases f with
 | next =>
  obtain⟨σ',H',J,q⟩:=hf
  exact wpAny_execs_nil ⟨σ',H',J.untried,q⟩
 | brk =>
  obtain⟨σ',H',J,q⟩:=hf
  exact⟨σ',H',J.untried,q⟩
 | cont =>
  obtain⟨σ',H',J,q⟩:=hf
  exact⟨σ',H',J.untried,q⟩
 | ret u =>
  obtain⟨v,σ',H',J,r,q⟩:=hf
  exact⟨v,σ',H',J.untried,r,q⟩
theorem aS.forget {P:Program}{w:World}{K:PySem.W.Frag}{mg:Str->Option Value}{base:Heap}{k:Nat}{f:Addr}{fd:FuncData}{ps:List Str}{sp sp':Sp} (F:aS P w K mg base (CXD P w) k f fd ps sp)
  (h:∀ vs H Q E,sp' vs H Q E->sp vs H Q (λ c _ H'=>E c none H')):aS P w K mg base (CXX P w) k f fd ps sp' :=
 ⟨λ vs H Q E q=>F.len vs H Q _ (h _ _ _ _ q),λ A outer s H args us vs Q E hr he hb hv hs=>codeAny_mono (F.run A outer s H args us vs Q _ hr he hb hv (h _ _ _ _ hs)) λ r s' z=>by
  cases r with
  | error e=>exact Cc z
  | ok fl=>cases fl<;>exact z⟩
end L2
namespace L2
open PySem PySem.Spec PyProof.Rows
theorem aA.sqB {b:Bool}{K:PySem.W.Frag}{H H':Hp}{a:Addr}{xs:List V} (s:aA H H') (h:SqB b K H a xs):SqB b K H' a xs:=by
 cases b
 ·exact s.seq h
 ·exact s.tup h
theorem rW {b1 b2:Bool}{K:PySem.W.Frag}{l1 l2:Addr}{xs ys:List V}{te:TE}{st:St}{H1:Hp}{Q:VK}{D:Addr}{n:Nat} (R:Nat->List V->Hp->Prop) (hD:H1 D=none) (q1:SqB b1 K H1 l1 xs) (q2:SqB b2 K H1 l2 ys) (n1:n<=xs.length) (n2:n<=ys.length) (ne:xs.length=n∨ys.length=n) (hn:n<=sizeLine) (h0:R 0 [] (upd H1 D (.lst [])))
  (hs:∀ (i:Nat) (x y:V) (zs:List V) (H2 H3:Hp) (k:VK),i<n->xs[i]? = some x->ys[i]? = some y->aA H1 H2->aA H2 H3->H2 D=some (.lst zs)->R i zs H2->(∀ z H4,aA H3 H4->R (i+1) (zs++[z]) (upd H4 D (.lst (zs++[z])))->k z H4)->te (some x::some y::st) H3 k)
  (hd:∀ zs H2,aA H1 H2->H2 D=some (.lst zs)->zs.length=n->R n zs H2->Q (.ref D) H2):fq (z7 b1 b2 K l1 l2) (pO K 2 (fe (cC 0) (fe (cC 1) rO))) j0 te 2 st D H1 Q:=by
 refine⟨λ i m zs H2=>m=n-i/\i<=n/\zs.length=i/\aA H1 H2/\H2 D=some (.lst zs)/\R i zs H2,⟨n,by simp,Nat.zero_le _,rfl,bb (aA.refl H1) hD,ai,h0⟩,?_⟩
 rintro i m zs H2 ⟨rfl,hi,hz,sm,e,r⟩
 by_cases hlt:i<n
 ·have ex:xs[i]? = some (xs[i]'(by omega)):=List.getElem?_eq_getElem (by omega)
  have ey:ys[i]? = some (ys[i]'(by omega)):=List.getElem?_eq_getElem (by omega)
  refine .inr ⟨⟨xs,ys,_,_,sm.sqB q1,sm.sqB q2,ex,ey⟩,?_⟩
  rintro v H3 σ0 ⟨T,x,y,fr,rfl,rfl,hx,hy⟩ l0
  have hx':=hx xs (sm.sqB q1)
  have hy':=hy ys (sm.sqB q2)
  obtain⟨a,b,rfl⟩:∃ a b,σ0 = [a,b]:=by
   match σ0,l0 with
   | [a,b],_=>exact⟨a,b,rfl⟩
  refine⟨T,[x,y],rfl,SqT.of ai,rfl,x,[y],rfl,y,[],rfl,rfl,⟨[some x,some y],rfl,rfl⟩,?_⟩
  have s3:aA H2 (upd H2 T (.tup [x,y])):=aw fr _
  exact hs i x y zs H2 _ _ hlt hx' hy' sm s3 e r λ z H4 s4 r4=>⟨s4 _ _ (s3 _ _ e),by omega,n-(i+1),by omega,rfl,hlt,by simp [hz],bb (sm.trans (s3.trans s4)) hD,ai,r4⟩
 ·have ei:i=n:=by omega
  subst ei
  refine .inl ⟨⟨xs,ys,sm.sqB q1,sm.sqB q2,?_⟩,hd zs H2 sm e hz r⟩
  rcases ne with z | z
  ·exact .inl (by omega)
  ·exact .inr (by omega)
end L2
namespace L2
open PySem
def DN (C:Addr) (m:Str) (sp:Sp) (dvs:List V) (E:St->XK) (ta:TE) (t:TA):TE:=λ σ H Q=>ta σ H λ x H1=>∃ a dx fs,x=.ref a/\H1 a=some (.ins C dx fs)/\fs.lookup m=none/\t σ H1 λ vs H2=>sp (.ref a::(vs++dvs)) H2 Q (E σ)
section
variable {X:Cx}{CX:CXT}{k:Nat}{f C:Addr}{fd:FuncData}{ps:List Str}{sp:Sp}{dvs:List V}{ds:List Value}{E:St->XK}{m:Str}{pos apos:Pos}{o e:Expr}{es:List Expr}{ta:TE}{t:TA}
theorem yl {pl:Sem Bool} (he:PE X o ta) (c:Cls X.K C) (hm:qh X.K C m f) (F:aS X.prog X.w X.K X.mg X.base CX k f fd ps sp) (hr:cF k X.A) (hb:bS X.K fd ps ds) (hd:bg dvs ds) (hx:gB CX X E) (ha:PA X (e::es) t)
  (hst:starEach (e::es) X.env=(false,eval e X.env)::starEach es X.env:=by rfl) (hpl:(backTo pos (starEach es X.env)).any (·.1)=false:=by rfl)
  (ht:eval (.Call (.Attribute o m apos) (e::es) [] pos) X.env=(do
   let ov <-eval o X.env
   standAt apos.atName
   let (f,first) <-holding [ov] (getMethod ov m pl)
   callWith pos f first (backTo pos (starEach (e::es) X.env)) (backToKw pos (keywordEach [] X.env))):=by rfl) :
  PE X (.Call (.Attribute o m apos) (e::es) [] pos) (DN C m sp dvs E ta t):=by
 intro pins s σ H Q I h
 refine PySem.W.methodCall_KW (pl:=pl) (thn (he pins s σ H _ I h) λ u s1 ⟨x,H1,I1,rx,a,dx,fs,ex,ea,l,q⟩=>?_) ht
 subst ex
 obtain rfl:u=Value.ref a:=rx
 refine kS I1 ea c hm l ?_
 refine PySem.W.callWith_K (first:=[.ref a]) (h₀:=X.base) I.ok.mod.kin hm.kp (thn (ha pos pins s1 σ H1 _ I1 q) λ us s2 ⟨vs,H2,I2,r,q2⟩=>⟨I2.kIn,?_⟩) hst hpl
 have r2:bg (V.ref a::(vs++dvs)) (Value.ref a::(us++ds)):=.cons rfl (r.append hd)
 have hl:(Value.ref a::us++ds).length=ps.length:=by
  have e1:=r2.length
  rw[F.len _ _ _ _ q2] at e1
  exact e1.symm
 refine wpAny_call (codeAny_mono (F.run X.A X.stack s2 H2 ⟨Value.ref a::us,[]⟩ (Value.ref a::(us++ds)) (V.ref a::(vs++dvs)) Q (E σ) hr I2.env0 (hb s2 (Value.ref a::us) I2.kIn hl) r2 q2) λ r s' hq=>?_)
 cases r with
 | error e=>exact hx pins σ H2 s2 e s' I2 hq
 | ok fl =>
  cases fl with
  | ret u=>exact I2.after hq
  | next=>exact False.elim hq
  | brk=>exact False.elim hq
  | cont=>exact False.elim hq
end
end L2
namespace L2
open PySem PySem.Spec PyProof.Rows
def Cl (P:Program) (w:World) (K:PySem.W.Frag) (mg:Str->Option Value) (base:Heap) (CX:CXT) (k:Nat) (x:Str) (ps:List Str) (sp:Sp):Prop :=
 ∃ f d,aS P w K mg base CX k f d ps sp/\bS K d ps []/\PySem.W.keepIn K (.ref f)=true/\mg x=some (.ref f)
section
variable {P:Program}{w:World}{K:PySem.W.Frag}{mg:Str->Option Value}{base:Heap}{CX:CXT}{j k:Nat}{x q qual:Str}{ps:List Str}{sp sp':Sp}{st:Stmt}{f:Addr}{fd:FuncData}
theorem Cl.up (c:Cl P w K mg base CX j x ps sp) (h:j<=k:=by decide):Cl P w K mg base CX k x ps sp:=by
 obtain⟨f,d,a,b⟩:=c
 exact⟨f,d,a.mono h,b⟩
theorem Cl.imp (c:Cl P w K mg base CX k x ps sp) (h:∀ vs H Q E,sp' vs H Q E->sp vs H Q E):Cl P w K mg base CX k x ps sp':=by
 obtain⟨f,d,a,b⟩:=c
 exact⟨f,d,a.imp h,b⟩
theorem Cl.forget (c:Cl P w K mg base (CXD P w) k x ps sp) (h:∀ vs H Q E,sp' vs H Q E->sp vs H Q (λ c _ H'=>E c none H')):Cl P w K mg base (CXX P w) k x ps sp':=by
 obtain⟨f,d,a,b⟩:=c
 exact⟨f,d,a.forget h,b⟩
theorem aJ {X:Cx}{E:XK}{t:TA}{e:Expr}{es:List Expr}{p pos:Pos} (F:Cl X.prog X.w X.K X.mg X.base CX k x ps sp) (hr:cF k X.A) (hg:Gl X x) (hx:cG CX X E) (ha:PA X (e::es) t) (hdb:(x == ("__debug__":Str))=false:=by decide)
  (he:starEach (e::es) X.env=(false,eval e X.env)::starEach es X.env:=by rfl) (hpl:(backTo pos (starEach es X.env)).any (·.1)=false:=by rfl):PE X (.Call (.Name x p) (e::es) [] pos) (CT sp [] E t):=by
 obtain⟨f,d,a,b,c,m⟩:=F
 exact jM a hr hg m c b .nil hx ha hdb he hpl
def FAt (K:PySem.W.Frag) (x q:Str) (st:Stmt) (f:Addr):Prop:=∃ (od an:Option Addr) (sl:Array (Option Value)) (oc kV dc pm cd ct:Value),
 K.lookup f=some ⟨oc,od,.func (PySem.W.fnOf x q (dm st) (cw st) (aC st) .none kV dc pm an cd ct),sl⟩/\PySem.W.codeIn K cd q=true/\PySem.W.keepIn K (.ref f)=true
def FIn (K:PySem.W.Frag) (x:Str) (st:Stmt) (f:Addr):Prop:=PySem.W.nsIn K mainGlobals x=some (some (.ref f))/\FAt K x x st f
def FAll (K:PySem.W.Frag):List (Str×Stmt)->Prop
 | []=>True
 | (x,st)::l=>(∃ f,FIn K x st f)/\FAll K l
theorem FAll.c {L:List (Str×Stmt)}{oc:Value}{od an:Option Addr}{sl:Array (Option Value)}{kV dc pm cd ct:Value} (a:PySem.W.nsIn K mainGlobals x=some (some (.ref f))) (b:K.lookup f=some ⟨oc,od,.func (PySem.W.fnOf x x (dm st) (cw st) (aC st) .none kV dc pm an cd ct),sl⟩)
  (c:PySem.W.codeIn K cd x=true) (d:PySem.W.keepIn K (.ref f)=true) (r:FAll K L):FAll K ((x,st)::L):=⟨⟨f,a,_,_,_,_,_,_,_,_,_,b,c,d⟩,r⟩
theorem FAt.mk {oc:Value}{od an:Option Addr}{sl:Array (Option Value)}{kV dc pm cd ct:Value} (b:K.lookup f=some ⟨oc,od,.func (PySem.W.fnOf x q (dm st) (cw st) (aC st) .none kV dc pm an cd ct),sl⟩)
  (c:PySem.W.codeIn K cd q=true) (d:PySem.W.keepIn K (.ref f)=true):FAt K x q st f:=⟨_,_,_,_,_,_,_,_,_,b,c,d⟩
theorem FAt.fn (h:FAt K x q st f):∃ fd,Fun K x q st f fd:=by
 obtain⟨_,_,_,_,_,_,_,_,_,l,c,k⟩:=h
 exact⟨_,zo l c k⟩
theorem us1 {fd:FuncData}{x0:Str} (h:∀ a0,bindArgs fd ⟨[a0],[]⟩=pure [(x0,a0)]):∀ us:List Value,us.length = [x0].length->bindArgs fd ⟨us,[]⟩=pure ([x0].zip us)
 | [a0],_=>h a0
theorem us2 {fd:FuncData}{x0 x1:Str} (h:∀ a0 a1,bindArgs fd ⟨[a0,a1],[]⟩=pure [(x0,a0),(x1,a1)]):∀ us:List Value,us.length = [x0,x1].length->bindArgs fd ⟨us,[]⟩=pure ([x0,x1].zip us)
 | [a0,a1],_=>h a0 a1
theorem us3 {fd:FuncData}{x0 x1 x2:Str} (h:∀ a0 a1 a2,bindArgs fd ⟨[a0,a1,a2],[]⟩=pure [(x0,a0),(x1,a1),(x2,a2)]):∀ us:List Value,us.length = [x0,x1,x2].length->bindArgs fd ⟨us,[]⟩=pure ([x0,x1,x2].zip us)
 | [a0,a1,a2],_=>h a0 a1 a2
theorem us4 {fd:FuncData}{x0 x1 x2 x3:Str} (h:∀ a0 a1 a2 a3,bindArgs fd ⟨[a0,a1,a2,a3],[]⟩=pure [(x0,a0),(x1,a1),(x2,a2),(x3,a3)]):∀ us:List Value,us.length = [x0,x1,x2,x3].length->bindArgs fd ⟨us,[]⟩=pure ([x0,x1,x2,x3].zip us)
 | [a0,a1,a2,a3],_=>h a0 a1 a2 a3
theorem Fun.bnd (F:Fun K x q st f fd) (h:∀ (kV doc pm:Value) (an:Option Addr) (cdv ct:Value) (us:List Value),us.length=ps.length->bindArgs (PySem.W.fnOf x q (dm st) (cw st) (aC st) .none kV doc pm an cdv ct) ⟨us,[]⟩=pure (ps.zip us):=by decreasing_trivial):bS K fd ps []:=F.binds h
theorem Fun.oka {N:List Str} (F:Fun K x qual st f fd) (S:aG N ps (aC st))
  (hbody:∀ (cdv:Value) (A:Around) (outer:List Env) (s:Shared) (H:Hp) (vs:List V) (Q:VK) (E:XK),cF k (A.deeper (envOfC qual (aC st) s.heap.objs.size f cdv))->sp vs H Q E ->
   ∃ t,PSs (i6 CX0 P w K mg base N qual (aC st) f cdv A outer s H E).nox (cw st) t/\t {nx:=λ _ H'=>Q .non H',rt:=Q} (eC N vs) H)
  (len:∀ vs H Q E,sp vs H Q E->vs.length=ps.length:=by decreasing_trivial):aS P w K mg base CX0 (k+1) f fd ps sp:=F.ok S len hbody
theorem Fun.okb {N:List Str} (F:Fun K x qual st f fd) (S:aG N ps (aC st))
  (hbody:∀ (cdv:Value) (A:Around) (outer:List Env) (s:Shared) (H:Hp) (vs:List V) (Q:VK) (E:XK),cF k (A.deeper (envOfC qual (aC st) s.heap.objs.size f cdv))->sp vs H Q E ->
   ∃ t,PSs (i6 CX P w K mg base N qual (aC st) f cdv A outer s H E) (cw st) t/\t {nx:=λ _ H'=>Q .non H',rt:=Q} (eC N vs) H)
  (len:∀ vs H Q E,sp vs H Q E->vs.length=ps.length:=by decreasing_trivial):aS P w K mg base CX (k+1) f fd ps sp:=by
 obtain⟨oc,od,kV,doc,pm,an,cdv,ct,osl,rfl,lk,hcd⟩:=F.ex
 exact Dw lk hcd S len λ A outer s H vs Q E hr hsp=>hbody cdv A outer s H vs Q E hr hsp
theorem aY {N ps:List Str}{s:Scope} (a:s.kind=.function:=by rfl) (b:s.isCoroutine=false:=by rfl) (c:s.isGenerator=false:=by rfl) (d:N.Nodup:=by decide +kernel) (e:N.take ps.length=ps:=by rfl)
  (f:∀ x∈ps,s.names.lookup x=some .local∨s.names.lookup x=some .cell:=by decide +kernel) (g:∀ y∈s.names,y.2≠.free:=by decide +kernel):aG N ps s:=⟨a,b,c,d,e,f,g⟩
end
theorem GO {P:Program}{w:World}{K:PySem.W.Frag}{mg:Str->Option Value}{base h:Heap} (X:K.In h) (G:h.Ns mainGlobals mg) {x:Str}{st:Stmt}{CX:CXT}{k:Nat}{ps:List Str}{sp:Sp} (hf:∃ f,FIn K x st f) (ok:∀ {f fd},Fun K x x st f fd->aS P w K mg base CX k f fd ps sp)
  (hb:∀ (kV doc pm:Value) (an:Option Addr) (cdv ct:Value) (us:List Value),us.length=ps.length->bindArgs (PySem.W.fnOf x x (dm st) (cw st) (aC st) .none kV doc pm an cdv ct) ⟨us,[]⟩=pure (ps.zip us):=by decreasing_trivial):Cl P w K mg base CX k x ps sp:=by
 obtain⟨f,m,a⟩:=hf
 obtain⟨fd,F⟩:=a.fn
 exact⟨f,fd,ok F,F.bnd hb,F.kp,PySem.W.mg_of X G m⟩
end L2
namespace L2
open PySem PySem.Spec PyProof.Rows
section
variable {X:Cx}{es':List Expr}{k0:Nat}{p0:Pos}{a b:Expr}{ta:TA}{p pos:Pos}{es:List Expr}
theorem tY (ha:PA X es ta):PA X es (λ σ H Q=>∃ Q0,ta σ H Q0/\∀ vs H1,Q0 vs H1->Q vs H1):=λ pos pins s σ H Q I ⟨Q0,h,m⟩ =>
 thn (ha pos pins s σ H Q0 I h) λ us s1 ⟨vs,H1,I1,r1,q1⟩=>⟨vs,H1,I1,r1,m _ _ q1⟩
theorem AX (hg:Gl X "zip") (hm:X.mg "zip" = none) (ha:PA X [a,b] ta) (hs:starEach [a,b] X.env = [(false,eval a X.env),(false,eval b X.env)]:=by rfl) (hs2:starEach [b] X.env = [(false,eval b X.env)]:=by rfl) :
  PI X (.Tuple es' k0 p0) (.Call (.Name "zip" p) [a,b] [] pos) (Hw X.K ta):=λ pins s σ H R I h =>
 kz hg hm (tY ha) hs hs2 pins s σ H R I ⟨_,h,λ vs H1 ⟨a,b,e,x,y,q⟩=>⟨a,b,false,false,e,x,y,q⟩⟩
theorem yh (hg:Gl X "zip") (hm:X.mg "zip" = none) (ha:PA X [a,b] ta) (hs:starEach [a,b] X.env = [(false,eval a X.env),(false,eval b X.env)]:=by rfl) (hs2:starEach [b] X.env = [(false,eval b X.env)]:=by rfl) :
  PI X (.Tuple es' k0 p0) (.Call (.Name "zip" p) [a,b] [] pos) (GE X.K ta):=λ pins s σ H R I h =>
 kz hg hm (tY ha) hs hs2 pins s σ H R I ⟨_,h,λ vs H1 ⟨a,b,e,x,y,q⟩=>⟨a,b,true,true,e,x,y,q⟩⟩
theorem AY {tg iter:Expr}{wi:TI} (hi:PI X tg iter wi):PI X tg iter (λ σ H R=>∃ R0,wi σ H R0/\∀ J H1,R0 J H1->R J H1):=λ pins s σ H R I ⟨R0,h,m⟩ =>
 thn (hi pins s σ H R0 I h) λ v s1 h1=>thn h1 λ it s2 ⟨a,b,c,d,e,f,g,i,j,k,q⟩=>⟨a,b,c,d,e,f,g,i,j,k,m _ _ q⟩
theorem eX {x:Str}{px:Pos}{elt iter:Expr}{ts:List (Str×Nat)}{scope:Scope}{cl:List (Str×Addr)}{wi:TI}{te:TE} (hc:X.calm=true) (O:FK X x ts scope cl) (hi:PI X (.Name x px) iter wi) (he:∀ C s3 H3 fp,PE (bt X (GA x ts) scope cl C s3 H3 fp) elt te)
  (hs:∀ x,foldedSetIterable iter X.env x=pure x:=by intro _;rfl):PE X (.ListComp elt [⟨.Name x px,iter,[],0⟩] scope pos) (F1 wi (dG ts) te):=λ pins s σ H Q I h=>by
 have v:=lookup_relabel_local (env:=X.env) O.var
 refine dy (xs:=[x]) hc ⟨O.clos,O.sub,O.nocell,O.kind,O.locs,O.nd,O.around,O.has⟩ (AY hi) (λ C s3 H3 fp=>aP (i:=0) O.nd rfl (.inl v) (.inr v)) (λ C s3 H3 fp=>cN) he hs pins s σ H Q I ⟨_,h,λ J H1 q D hD=>?_⟩
 obtain⟨W,w0,turn⟩:=q D hD
 refine⟨W,w0,λ i m ys H2 hw=>(turn i m ys H2 hw).imp id λ ⟨go,st⟩=>⟨go,λ x H3 σ0 hy hl=>?_⟩⟩
 match σ0,hl with
 | [a],_=>exact⟨⟨[some x],rfl,rfl⟩,st x H3 hy⟩
end
end L2
namespace Gc
abbrev Inc (l:List Rat):Prop:=l.Pairwise (· < ·)
theorem Inc.up {l:List Rat} (h:Inc l):Up l:=List.Pairwise.imp (λ h=>by grind) h
def lS (acc:List Rat) (r:Rat):List Rat:=if r∈acc then acc else pK r acc
def edg (l:List Rat):List Rat:=l.foldl lS []
theorem kX (l:List Rat) (r:Rat):edg (l++[r])=lS (edg l) r:=by unfold edg;rw[List.foldl_append];rfl
theorem zg {r:Rat}{l:List Rat} (h:Inc l) (hr:r ∉ l):Inc (pK r l):=by
 unfold pK
 have hu:=h.up
 refine List.pairwise_append.mpr ⟨h.sublist (List.take_sublist _ _),List.pairwise_cons.mpr ⟨?_,h.sublist (List.drop_sublist _ _)⟩,?_⟩
 ·intro x hx
  obtain⟨i,hi⟩:=List.mem_iff_getElem?.mp hx
  rw[List.getElem?_drop] at hi
  have h1:¬ x<r:=λ c=>by
   have:=(mt hu hi (p:=r)).mpr c
   omega
  have h2:x≠r:=λ e=>hr (e ▸ List.mem_of_getElem? hi)
  grind
 ·intro x hx y hy
  obtain⟨i,hi⟩:=List.mem_iff_getElem?.mp hx
  have hil:i<bR r l:=by
   have:=(List.getElem?_eq_some_iff.mp hi).1
   simp at this
   omega
  rw[List.getElem?_take_of_lt hil] at hi
  have hxr:=kM hil hi
  rcases List.mem_cons.mp hy with rfl | hy
  ·exact hxr
  ·obtain⟨j,hj⟩:=List.mem_iff_getElem?.mp hy
   rw[List.getElem?_drop] at hj
   have h1:¬ y<r:=λ c=>by
    have:=(mt hu hj (p:=r)).mpr c
    omega
   grind
theorem z6 {r:Rat}{l:List Rat} (h:Inc l):Inc (lS l r):=by
 unfold lS
 split
 ·exact h
 ·exact zg h ‹_›
theorem zZ {r x:Rat}{l:List Rat}:x∈lS l r↔x=r∨x∈l:=by
 unfold lS
 split
 ·constructor
  ·exact .inr
  ·rintro (rfl | h)
   ·assumption
   ·exact h
 ·exact y9
theorem rR (l:List Rat):Inc (edg l)/\∀ x,x∈edg l↔x∈l:=by
 have:∀ (n:Nat) (l:List Rat),l.length=n->Inc (edg l)/\∀ x,x∈edg l↔x∈l:=by
  intro n
  induction n with
  | zero =>
   intro l hl
   have:l = []:=List.eq_nil_of_length_eq_zero hl
   subst this
   exact⟨List.Pairwise.nil,λ x=>Iff.rfl⟩
  | succ n ih =>
   intro l hl
   rcases List.eq_nil_or_concat l with e | ⟨l',r,e⟩
   ·rw[e] at hl;simp at hl
   ·rw[List.concat_eq_append] at e
    subst e
    obtain⟨i1,i2⟩:=ih l' (by simp at hl;exact hl)
    rw[kX]
    refine⟨z6 i1,λ x=>?_⟩
    rw[zZ,i2,List.mem_append,List.mem_singleton]
    constructor
    ·rintro (h | h)
     ·exact .inr h
     ·exact .inl h
    ·rintro (h | h)
     ·exact .inr h
     ·exact .inl h
 exact this _ l rfl
theorem z5 (l:List Rat) (r:Rat):(lS l r).length<=l.length+1:=by
 unfold lS
 split
 ·omega
 ·rw[zf];omega
theorem ur (l:List Rat):(edg l).length<=l.length:=by
 have:∀ (n:Nat) (l:List Rat),l.length=n->(edg l).length<=n:=by
  intro n
  induction n with
  | zero =>
   intro l hl
   have:l = []:=List.eq_nil_of_length_eq_zero hl
   subst this
   exact Nat.le_refl _
  | succ n ih =>
   intro l hl
   rcases List.eq_nil_or_concat l with e | ⟨l',r,e⟩
   ·rw[e] at hl;simp at hl
   ·rw[List.concat_eq_append] at e
    subst e
    have:=ih l' (by simp at hl;exact hl)
    have:=z5 (edg l') r
    rw[kX]
    omega
 exact this _ l rfl
end Gc
namespace K54
open PySem L2 Gc Ch Tx
seal wpAny
local macro_rules | `(tactic| decreasing_trivial)=>`(tactic| first | (intro vs H Q E h;(repeat (first | (obtain⟨e,_⟩:=h;exact e ▸ rfl) | (obtain⟨_,h⟩:=h)));done) | (intro _ _ _ _ _ _ us hl;first | exact us1 (λ _=>rfl) us hl | exact us2 (λ _ _=>rfl) us hl | exact us3 (λ _ _ _=>rfl) us hl | exact us4 (λ _ _ _ _=>rfl) us hl))
def top (i:Nat):Stmt:=PySem.Challenge.pw_surestretch_k54_desk_rows_refused.main.body.getD i (.Pass ⟨0,0,0,0⟩)
abbrev nc:Stmt:=top 11
abbrev nj:Stmt:=top 12
abbrev na:Stmt:=top 13
abbrev Ei:Stmt:=top 14
abbrev xv:Stmt:=top 18
abbrev ko:Stmt:=top 26
abbrev nk:Stmt:=top 27
abbrev xx:Stmt:=top 28
abbrev qM:Stmt:=top 45
abbrev xU:Stmt:=top 46
abbrev Ee:Stmt:=top 73
abbrev Eh:Stmt:=top 74
abbrev xF:Stmt:=top 75
abbrev Ef:Stmt:=top 76
abbrev Eg:Stmt:=top 77
abbrev Ed:Stmt:=top 78
abbrev xQ:Stmt:=top 90
abbrev xr:Stmt:=top 87
abbrev xM:Stmt:=top 88
abbrev xz:Stmt:=top 89
abbrev xu:Stmt:=top 86
abbrev qK:Stmt:=top 85
abbrev qY:Stmt:=nU (top 84) 0
abbrev xE:Stmt:=nU (top 84) 1
abbrev qX:Stmt:=nU (top 84) 2
abbrev qQ:Stmt:=top 91
abbrev xW:Stmt:=top 92
abbrev xC:Stmt:=top 69
abbrev qI:Stmt:=top 70
abbrev qH:Stmt:=top 71
abbrev xB:Stmt:=top 72
abbrev qW:Stmt:=top 15
abbrev qL:Stmt:=top 16
abbrev nq:Stmt:=top 17
abbrev xT:Stmt:=top 20
abbrev xH:Stmt:=top 22
abbrev qD:Stmt:=top 23
abbrev qJ:Stmt:=top 24
abbrev qU:Stmt:=top 29
abbrev xG:Stmt:=top 30
abbrev xS:Stmt:=top 31
abbrev xy:Stmt:=top 32
abbrev nu:Stmt:=top 33
abbrev kq:Stmt:=top 34
abbrev xN:Stmt:=top 37
abbrev qF:Stmt:=top 38
abbrev qS:Stmt:=top 39
abbrev xO:Stmt:=top 40
abbrev xD:Stmt:=top 41
abbrev xA:Stmt:=top 42
abbrev m9:Stmt:=top 43
abbrev xw:Stmt:=top 60
abbrev ni:Stmt:=top 54
abbrev qV:Stmt:=top 55
abbrev qE:Stmt:=top 56
abbrev ng:Stmt:=top 57
abbrev xV:Stmt:=top 96
abbrev xL:Stmt:=top 97
abbrev xK:Stmt:=top 98
abbrev xI:Stmt:=top 99
abbrev xJ:Stmt:=top 100
abbrev qO:Stmt:=top 101
abbrev qZ:Stmt:=top 102
abbrev qP:Stmt:=top 103
abbrev qG:Stmt:=top 104
abbrev qR:Stmt:=top 105
abbrev xP:Stmt:=top 106
abbrev kr:Stmt:=top 107
def Cq (s:Stmt):List Stmt:=match s with
 | .ClassDef _ _ _ b _ _ _ _ _ _ _=>b
 | _=>[]
noncomputable abbrev xR:Stmt:=(Cq (top 4)).getD 0 (.Pass ⟨0,0,0,0⟩)
structure Txt (mg:Str->Option Value):Prop where
 range:mg "range" = none
 min:mg "min" = none
 max:mg "max" = none
 len:mg "len" = none
 isinstance:mg "isinstance" = none
 int:mg "int" = none
 bool:mg "bool" = none
 str:mg "str" = none
 tuple:mg "tuple" = none
 list:mg "list" = none
 zip:mg "zip" = none
 enumerate:mg "enumerate" = none
 all:mg "all" = none
 abs:mg "abs" = none
 sum:mg "sum" = none
 sorted:mg "sorted" = none
 reversed:mg "reversed" = none
 ValueError:mg "ValueError" = none
 FIGURES:∃ t,mg "FIGURES" = some (.str "0123456789" t)
 LETTERS:∃ t,mg "LETTERS" = some (.str "abcdefghijklmnopqrstuvwxyz" t)
noncomputable def bA {α:Type} (l:List (Str×α)) (k:Str):Option α:=(l.find? λ p=>decide (p.1=k)).map (·.2)
noncomputable def eh:List (Str×List Str):=[("rule",["text"]),("plan",["text"]),("show",[]),("drop",[]),("tails",["trials","share above 0","measure"]),("tight",["share","measure"]),("cover",["share"]),("least",[]),("sure",["share"]),("span",[]),("spend",["trials","share","share"]),("chance",["word","share"]),("mean",["share"])]
noncomputable def makes:List (Str×Str):=[("rule","rule"),("plan","plan"),("tails","rule"),("tight","rule"),("spend","plan")]
noncomputable def d6:List (Str×Str):=[("show","either"),("drop","either"),("tight","rule"),("cover","rule"),("least","rule"),("sure","rule"),("span","rule"),("chance","plan"),("mean","plan")]
def FG (P:Program) (w:World) (K:PySem.W.Frag) (d:Addr) (l:List (Str×List Str)):Prop:=∃ kvs:List (Key×V),sE P w K d kvs/\∀ k:Str,(bA l k=none->ce kvs (.inr k)=none)/\∀ fs,bA l k=some fs->∃ t,ce kvs (.inr k)=some (.ref t)/\∀ H:Hp,SqT K H t (fs.map V.str)
def CL (P:Program) (w:World) (K:PySem.W.Frag) (d:Addr) (l:List (Str×Str)):Prop:=∃ kvs:List (Key×V),sE P w K d kvs/\∀ k:Str,ce kvs (.inr k)=(bA l k).map V.str
structure CA where
 StretchError:Addr
 NoNumber:Addr
 NoRule:Addr
 NotSure:Addr
 TooMuch:Addr
 NoPlan:Addr
 NoText:Addr
 NoName:Addr
 NoRow:Addr
 Desk:Addr
 ini:Addr
 FORMS:Addr
 MAKES:Addr
 NEEDS:Addr
theorem kit_self {K:PySem.W.Frag}{C:Addr}:PySem.W.kitOne K (.ref C) (.ref C)=some true:=by
 unfold PySem.W.kitOne
 simp
structure KdJ (K:PySem.W.Frag) (C:CA) (X:Addr) (j:Nat):Prop where
 i:lC K X
 sub:PySem.W.subIn K (.ref X) (.ref C.StretchError)=some true
 val:PySem.W.kitOne K (.ref X) (.type "ValueError")=some true
 num:PySem.W.kitOne K (.ref X) (.ref C.NoNumber)=some false
 k0:PySem.W.kitOne K (.ref X) (.ref C.NoRow)=some (j == 0)
 k1:PySem.W.kitOne K (.ref X) (.ref C.NoName)=some (j == 1)
 k2:PySem.W.kitOne K (.ref X) (.ref C.NoText)=some (j == 2)
 k3:PySem.W.kitOne K (.ref X) (.ref C.NoRule)=some (j == 3)
 k4:PySem.W.kitOne K (.ref X) (.ref C.NoPlan)=some (j == 4)
 k5:PySem.W.kitOne K (.ref X) (.ref C.NotSure)=some (j == 5)
 k6:PySem.W.kitOne K (.ref X) (.ref C.TooMuch)=some (j == 6)
 j7:j<7
structure CF (P:Program) (w:World) (K:PySem.W.Frag) (mg:Str->Option Value) (C:CA):Prop where
 mFORMS:mg "FORMS" = some (.ref C.FORMS)
 mMAKES:mg "MAKES" = some (.ref C.MAKES)
 mNEEDS:mg "NEEDS" = some (.ref C.NEEDS)
 fFORMS:FG P w K C.FORMS eh
 fMAKES:CL P w K C.MAKES makes
 fNEEDS:CL P w K C.NEEDS d6
 clDesk:Cls K C.Desk
 nDesk_kept:hV K C.Desk "kept"
 mStretchError:mg "StretchError" = some (.ref C.StretchError)
 mNoNumber:mg "NoNumber" = some (.ref C.NoNumber)
 mNoRule:mg "NoRule" = some (.ref C.NoRule)
 mNotSure:mg "NotSure" = some (.ref C.NotSure)
 mTooMuch:mg "TooMuch" = some (.ref C.TooMuch)
 mNoPlan:mg "NoPlan" = some (.ref C.NoPlan)
 mNoText:mg "NoText" = some (.ref C.NoText)
 mNoName:mg "NoName" = some (.ref C.NoName)
 mNoRow:mg "NoRow" = some (.ref C.NoRow)
 mDesk:mg "Desk" = some (.ref C.Desk)
 xNoNumber:lT K mg "NoNumber" C.NoNumber
 xNoRule:lT K mg "NoRule" C.NoRule
 xNoPlan:lT K mg "NoPlan" C.NoPlan
 xNoText:lT K mg "NoText" C.NoText
 xNoName:lT K mg "NoName" C.NoName
 xNoRow:lT K mg "NoRow" C.NoRow
 xTooMuch:lT K mg "TooMuch" C.TooMuch
 cStretchError:Catch K C.StretchError
 cNoText:Catch K C.NoText
 aini:PySem.W.findIn K (.ref C.NotSure) "__init__" = some (some (.ref C.ini))
 hini:FAt K "__init__" "NotSure.__init__" xR C.ini
 kNotSure:MkX K C.NotSure C.ini
 sNotSure:FD K C.NotSure "at"
 gNotSure:HE K C.NotSure "at"
 kpNoRow:PySem.W.keepIn K (.ref C.NoRow)=true
 kdNoRow:KdJ K C C.NoRow 0
 kdNoName:KdJ K C C.NoName 1
 kdNoText:KdJ K C C.NoText 2
 kdNoRule:KdJ K C C.NoRule 3
 kdNoPlan:KdJ K C C.NoPlan 4
 kdNotSure:KdJ K C C.NotSure 5
 kdTooMuch:KdJ K C C.TooMuch 6
 subNTT:PySem.W.subIn K (.ref C.NoText) (.ref C.NoText)=some true
def isW (t:Th):Bool:=nR t && !nS t
theorem cI {t:Th} (h:isW t=true):∃ i,t=.int i:=by
 cases t<;>first | exact⟨_,rfl⟩ | (simp [isW,nR,nS] at h)
theorem at0 {x:V}{xs:List V}:atI (x::xs) 0=some x:=cy (xs:=x::xs) (j:=0) rfl
theorem at1 {x y:V}{xs:List V}:atI (x::y::xs) 1=some y:=cy (xs:=x::y::xs) (j:=1) rfl
theorem fW {H:Hp}{a b:Int}{v:V} (d:Den H (.tup [.int a,.int b]) v):∃ p,v=.ref p/\H p=some (.tup [.int a,.int b]):=by
 obtain⟨p,xs,rfl,h,y,ys,e1,e2,z,zs,e3,e4,e5⟩:=d
 have e2':y=V.int a:=e2
 have e4':z=V.int b:=e4
 have e5':zs = []:=e5
 subst e5' e4' e3 e2' e1
 exact⟨p,rfl,h⟩
theorem pN {α:Type}{l:List α}{i:Nat}{d:α} (h:i<l.length):l.getD i d∈l:=by rw[nW h];exact List.getElem_mem h
theorem gH {H:Hp}{p:Addr}{a b:Int} (h:H p=some (.tup [.int a,.int b])):Den H (.tup [.int a,.int b]) (.ref p):=⟨p,_,rfl,h,_,_,rfl,rfl,_,_,rfl,rfl,rfl⟩
theorem Fv {H:Hp}{p:Addr}{x y:V}{a b:Th} (h:H p=some (.tup [x,y])) (d1:Den H a x) (d2:Den H b y):Den H (.tup [a,b]) (.ref p):=⟨p,_,rfl,h,_,_,rfl,d1,_,_,rfl,d2,rfl⟩
theorem _root_.Gc.Sz.smk {n:Nat}{i:Int} (h:Sz n i) (hn:n<=8900):Smk i:=h.mono hn
theorem fL {P:Program}{w:World}{X:Cx}:cG (CXX P w) X E0:=λ _ _ _ _ _ _ _ h=>(vO h).elim
theorem jF:bootBuiltins "ValueError" = some (.type "ValueError"):=by decide +kernel
theorem cD:bootBuiltins "str" = some (.type "str"):=by decide +kernel
theorem vv {n:Nat} (h:n<=40):n<sizeLine:=Nat.lt_of_le_of_lt h (by decide)
theorem aV {n:Nat} (h:n<=100000):n<=sizeLine:=Nat.le_trans h (by decide)
theorem dH {c:Bool}{A B:Prop} (h:c=false) (b:B):if c=true then A else B:=by rw[h,if_neg Bool.false_ne_true];exact b
theorem pF {c:Bool}{A B:Prop} (h:c=true) (a:A):if c=true then A else B:=by rw[if_pos h];exact a
section
variable {P:Program}{w:World}{K:PySem.W.Frag}{mg:Str->Option Value}{base:Heap}{C:CA}{f:Addr}{fd:FuncData}
def gj:Sp:=λ vs H Q _=>∃ x t,vs = [x]/\Den H t x/\Q (.bl (isW t)) H
theorem xa:aG ["thing"] ["thing"] (aC nc):=aY
theorem yA (F:Fun K "is_whole" "is_whole" nc f fd) (T:Txt mg):aS P w K mg base CX0 1 f fd ["thing"] gj:=by
 refine F.oka xa λ cdv A outer s H vs Q E hr h=>?_
 obtain⟨x,t,rfl,d,q⟩:=h
 refine⟨_,(ak (aE (fR (aT cU rfl T.isinstance boot_isinstance (ae (pv 0) (ae (eJ (v:=.ty "int") rfl T.int boot_int rfl) af))) (kD (Ex (aT cU rfl T.isinstance boot_isinstance (ae (pv 0) (ae (eJ (v:=.ty "bool") rfl T.bool boot_bool rfl) af)))))))),?_⟩
 refine⟨_,rfl,x,t,_,_,rfl,d,BN t,_,rfl,?_⟩
 cases hi:nR t with
 | false =>
  unfold isW at q
  rw[hi,Bool.false_and] at q
  exact bf q
 | true =>
  unfold isW at q
  rw[hi,Bool.true_and] at q
  exact bj ⟨_,rfl,x,t,_,_,rfl,d,yZ t,_,rfl,q⟩
def jh:Th->Bool
 | .tup [a,b]=>isW a && isW b
 | _=>false
def eN (t:Th):Bool:=jh t && (match t with
 | .tup [.int a,.int b]=>decide (1<=b) && (decide (0<=a) && (decide (a<=b) && decide (Int.gcd a b=1)))
 | _=>false)
theorem kF {t:Th} (h:jh t=true):∃ a b,t=.tup [.int a,.int b]:=by
 match t,h with
 | .tup [a,b],h =>
  have h':(isW a && isW b)=true:=h
  rw[Bool.and_eq_true] at h'
  obtain⟨i,rfl⟩:=cI h'.1
  obtain⟨j,rfl⟩:=cI h'.2
  exact⟨i,j,rfl⟩
theorem md {t:Th} (h:jh t=false):eN t=false:=by unfold eN;rw[h];rfl
def sV:Sp:=λ vs H Q _=>∃ x t,vs = [x]/\Den H t x/\Q (.bl (jh t)) H
theorem yu {ts:List Th} (h:ts.length≠2):jh (.tup ts)=false:=by
 match ts,h with
 | [],_=>rfl
 | [_],_=>rfl
 | [_,_],h=>exact absurd rfl h
 | _::_::_::_,_=>rfl
theorem w8:aG ["thing"] ["thing"] (aC na):=aY
theorem yy (F:Fun K "is_whole_pair" "is_whole_pair" na f fd) (T:Txt mg) (Gwhole:Cl P w K mg base CX0 1 "is_whole" ["thing"] gj):aS P w K mg base CX0 2 f fd ["thing"] sV:=by
 refine F.oka w8 λ cdv A outer s H vs Q E hr h=>?_
 obtain⟨x,t,rfl,d,q⟩:=h
 refine⟨_,(ak (aE (fR (aT cU rfl T.isinstance boot_isinstance (ae (pv 0) (ae (eJ (v:=.ty "tuple") rfl T.tuple boot_tuple rfl) af))) (fR (eI b7 (aT bF rfl T.len boot_len (ae (pv 0) af)) aj (aO _)) (fR (aJ Gwhole hr rfl aN (ae (aF aH (pv 0) aj (λ _ _=>rfl)) af)) (kD (aJ Gwhole hr rfl aN (ae (aF aH (pv 0) aj (λ _ _=>rfl)) af)))))))),?_⟩
 refine⟨_,rfl,x,t,_,_,rfl,d,vz t,_,rfl,?_⟩
 cases t with
 | tup ts =>
  refine bj ?_
  obtain⟨p,xs,rfl,hH,dd⟩:=d
  refine⟨_,rfl,p,xs,rfl,.inr (SqT.of hH),rfl,_,rfl,?_⟩
  refine c7 (λ c=>?_) (λ c=>?_)
  ·have c':V.int (xs.length:Int)=V.int 2:=of_decide_eq_true c
   have c2:xs.length=2:=by injection c' with z;omega
   rw[dd.len] at c2
   match ts,c2,dd,q with
   | [a,b],_,dd,q =>
    obtain⟨y,ys,rfl,d1,z,zs,rfl,d2,e5⟩:=dd
    have e5':zs = []:=e5
    subst e5'
    refine⟨_,rfl,p,_,0,_,rfl,rfl,SqT.of hH,at0,y,a,rfl,d1,_,rfl,?_⟩
    have q':Q (.bl (isW a && isW b)) H:=q
    cases ha:isW a with
    | false=>rw[ha,Bool.false_and] at q';exact bf q'
    | true =>
     rw[ha,Bool.true_and] at q'
     exact bj ⟨_,rfl,p,_,1,_,rfl,rfl,SqT.of hH,at1,z,b,rfl,d2,q'⟩
  ·have c2:ts.length≠2:=λ z=>c (decide_eq_true (by rw[dd.len,z]<;>rfl))
   rw[yu c2] at q
   exact q
 | non=>exact bf q
 | bl _=>exact bf q
 | int _=>exact bf q
 | str _=>exact bf q
 | lst _=>exact bf q
 | emp=>exact bf q
 | dic=>exact bf q
def Ak:Sp:=λ vs H Q _=>∃ a b:Int,vs = [.int a,.int b]/\0<=a/\0<=b/\Q (.int (Int.gcd a b)) H
def mu2 (σ:St):Nat:=match σ with
 | _::some (.int y)::_=>y.toNat
 | _=>0
theorem tG:aG ["one","other","rest"] ["one","other"] (aC Ei):=aY
theorem Gz (F:Fun K "common_divisor" "common_divisor" Ei f fd) (T:Txt mg):aS P w K mg base CX0 1 f fd ["one","other"] Ak:=by
 refine F.oka tG λ cdv A outer s H vs Q E hr h=>?_
 obtain⟨a,b,rfl,ha,hb,q⟩:=h
 refine⟨_,(ag (im PassesOwn.never (aK eY (pv 1) aj (aO _)) (ag (aD (i:=2) tG.nd rfl (Or.inl rfl) (ar cP (pv 0) (pv 1)))
   (ag (aD (i:=0) tG.nd rfl (Or.inl rfl) (pv 1))
   (ak (aD (i:=1) tG.nd rfl (Or.inl rfl) (pv 2))))))
  (ak (aE (pv 0)))),?_⟩
 refine hZ (λ σ H'=>H'=H/\∃ x y v,σ = [some (.int x),some (.int y),v]/\0<=x/\0<=y/\Int.gcd x y=Int.gcd a b) (λ σ _=>mu2 σ) ⟨rfl,a,b,none,rfl,ha,hb,rfl⟩ ?_ ?_
 ·rintro σ H' ⟨rfl,x,y,v,rfl,hx,hy,g⟩
  refine⟨_,rfl,rfl,_,rfl,?_⟩
  refine c7 (λ c=>?_) (λ c=>?_)
  ·have c':y≠0:=by rintro rfl;exact absurd c (by decide)
   have hm:=Int.emod_nonneg x c'
   have hl:=Int.emod_lt_of_pos x (show 0<y by omega)
   refine⟨_,rfl,_,rfl,_,_,rfl,rfl,(by show 0<y;omega),_,rfl,_,rfl,?_⟩
   refine⟨⟨rfl,y,x%y,some (.int (x%y)),rfl,hy,hm,by rw[GI hx hy c'];exact g⟩,?_⟩
   show (x%y).toNat<y.toNat
   omega
  ·have c':y=0:=by
    by_cases z:y=0
    ·exact z
    ·exact absurd (show (!decide (V.int y=V.int 0))=true by rw[decide_eq_false (λ w=>z (by injection w))];rfl) c
   subst c'
   refine⟨_,rfl,?_⟩
   rw[<-g,HB hx] at q
   exact q
 ·intro σ H Q Q' hq h
  obtain⟨v,e,h1,k,e2,h2⟩:=h
  exact⟨v,e,h1,k,e2,hq _ _ h2⟩
def mU:Sp:=λ vs H Q _=>∃ x t,vs = [x]/\Den H t x/\Q (.bl (eN t)) H
theorem uF {a b:Int}:(decide (V.int (Int.gcd a b:Int)=V.int 1))=decide (Int.gcd a b=1):=by
 apply decide_eq_decide.mpr
 constructor
 ·intro h;injection h with z;omega
 ·intro h;rw[h];rfl
theorem km:aG ["thing","top","bottom"] ["thing"] (aC nj):=aY
theorem yD (F:Fun K "is_share" "is_share" nj f fd) (T:Txt mg) (Gwpair:Cl P w K mg base CX0 2 "is_whole_pair" ["thing"] sV) (Gcd:Cl P w K mg base CX0 2 "common_divisor" ["one","other"] Ak):aS P w K mg base CX0 3 f fd ["thing"] mU:=by
 refine F.oka km λ cdv A outer s H vs Q E hr h=>?_
 obtain⟨x,t,rfl,d,q⟩:=h
 refine⟨_,(ag (aU (bK (br (aJ Gwpair hr rfl aN (ae (pv 0) af)))) (ak (aE ip)) aI)
  (ag (aD (i:=1) km.nd rfl (Or.inl rfl) (aF aH (pv 0) aj (λ _ _=>rfl)))
  (ag (aD (i:=2) km.nd rfl (Or.inl rfl) (aF aH (pv 0) aj (λ _ _=>rfl)))
  (ak (aE (fR (eI Dv (pv 2) aj (aO _)) (fR (pk mm mm aj (pv 1) (pv 2)) (kD (eI b7 (aJ Gcd hr rfl aN (ae (pv 1) (ae (pv 2) af))) aj (aO _)))))))))),?_⟩
 refine⟨_,rfl,x,t,rfl,d,_,rfl,?_⟩
 cases hp:jh t with
 | false =>
  rw[md hp] at q
  exact bj q
 | true =>
  obtain⟨a,b,rfl⟩:=kF hp
  obtain⟨p,rfl,hH⟩:=fW d
  refine bf ?_
  refine⟨_,rfl,p,_,0,_,rfl,rfl,SqT.of hH,at0,?_⟩
  refine⟨_,rfl,p,_,1,_,rfl,rfl,SqT.of hH,at1,?_⟩
  have q':Q (.bl (decide (1<=b) && (decide (0<=a) && (decide (a<=b) && decide (Int.gcd a b=1))))) H:=q
  refine⟨_,rfl,_,_,rfl,rfl,_,rfl,?_⟩
  refine c7 (λ c=>?_) (λ c=>?_)
  ·rw[c,Bool.true_and] at q'
   refine⟨_,rfl,_,_,rfl,rfl,_,rfl,?_⟩
   refine c7 (λ c2=>?_) (λ c2=>?_)
   ·rw[c2,Bool.true_and] at q'
    refine⟨_,rfl,_,_,rfl,rfl,_,rfl,?_⟩
    refine c7 (λ c3=>?_) (λ c3=>?_)
    ·rw[c3,Bool.true_and] at q'
     refine⟨_,rfl,_,rfl,a,b,rfl,of_decide_eq_true c2,?_,rfl,?_⟩
     ·have:=of_decide_eq_true c;omega
     rw[uF];exact q'
    ·rw[Bool.eq_false_iff.mpr c3,Bool.false_and] at q'
     exact q'
   ·rw[Bool.eq_false_iff.mpr c2,Bool.false_and] at q'
    exact⟨_,rfl,bf q'⟩
  ·rw[Bool.eq_false_iff.mpr c,Bool.false_and] at q'
   exact q'
theorem Fd {K:PySem.W.Frag} (t:Th):PySem.W.kitAny K (lG t) (["list","tuple"].map Value.type)=some (Fj t || y7 t):=by cases t<;>rfl
def fJ:Th->Option (List Th)
 | .lst ts=>some ts
 | .tup ts=>some ts
 | _=>none
def jB (t:Th) (c:Int):Bool:=match fJ t with
 | some ts=>decide ((ts.length:Int)=c)
 | none=>false
theorem jI {H:Hp}{t:Th}{ts:List Th}{v:V} (h:fJ t=some ts) (d:Den H t v):∃ a xs,v=.ref a/\hJ H a xs/\bu H ts xs:=by
 cases t with
 | lst us =>
  cases h
  obtain⟨a,xs,e,h1,h2⟩:=d
  exact⟨a,xs,e,.inl h1,h2⟩
 | tup us =>
  cases h
  obtain⟨a,xs,e,h1,h2⟩:=d
  exact⟨a,xs,e,.inr h1,h2⟩
 | non=>cases h
 | bl _=>cases h
 | int _=>cases h
 | str _=>cases h
 | emp=>cases h
 | dic=>cases h
theorem nA {t:Th}{c:Int} (h:jB t c=true):∃ ts,fJ t=some ts/\(ts.length:Int)=c:=by
 unfold jB at h
 cases e:fJ t with
 | none=>rw[e] at h;cases h
 | some ts=>rw[e] at h;exact⟨ts,rfl,of_decide_eq_true h⟩
theorem tK {t:Th} (h:jB t 2=true):∃ x y,fJ t=some [x,y]:=by
 obtain⟨ts,e,l⟩:=nA h
 match ts,l with
 | [x,y],_=>exact⟨x,y,e⟩
theorem fG {a b:Int}:decide (V.int a=V.int b)=decide (a=b):=decide_eq_decide.mpr ⟨λ h=>by injection h,λ h=>by rw[h]⟩
def kb:Sp:=λ vs H Q _=>∃ (x:V) (c:Int) (t:Th),vs = [x,.int c]/\Den H t x/\∀ H',aA H H'->Q (.bl (jB t c)) H'
theorem xj:aG ["thing","count"] ["thing","count"] (aC nk):=aY
theorem yE (F:Fun K "is_row_of" "is_row_of" nk f fd) (T:Txt mg):aS P w K mg base CX0 1 f fd ["thing","count"] kb:=by
 refine F.oka xj λ cdv A outer s H vs Q E hr h=>?_
 obtain⟨x,c,t,rfl,d,q⟩:=h
 refine⟨_,(ak (aE (fR (aT n9 rfl T.isinstance boot_isinstance (ae (pv 0) (ae (aW (ae (eJ (v:=.ty "list") rfl T.list boot_list rfl) (ae (eJ (v:=.ty "tuple") rfl T.tuple boot_tuple rfl) af))) af))) (kD (eI b7 (aT bF rfl T.len boot_len (ae (pv 0) af)) (pv 1) (aO _)))))),?_⟩
 refine⟨_,rfl,(by show 2<=sizeLine;decide),λ p hp=>?_⟩
 have s1:=aw hp (.tup [V.ty "list",V.ty "tuple"])
 refine⟨x,p,t,["list","tuple"],_,rfl,ai,d.keep s1,Fd t,_,rfl,?_⟩
 have q1:=q _ s1
 cases t with
 | lst ts =>
  obtain⟨a,xs,rfl,h1,dd⟩:=d
  refine bj ⟨_,rfl,a,xs,rfl,.inl (SqL.of (s1 _ _ h1)),_,rfl,rfl,?_⟩
  show Q (.bl (decide (V.int (xs.length:Int)=V.int c))) _
  rw[fG,dd.len]
  exact q1
 | tup ts =>
  obtain⟨a,xs,rfl,h1,dd⟩:=d
  refine bj ⟨_,rfl,a,xs,rfl,.inr (SqT.of (s1 _ _ h1)),_,rfl,rfl,?_⟩
  show Q (.bl (decide (V.int (xs.length:Int)=V.int c))) _
  rw[fG,dd.len]
  exact q1
 | non=>exact bf q1
 | bl _=>exact bf q1
 | int _=>exact bf q1
 | str _=>exact bf q1
 | emp=>exact bf q1
 | dic=>exact bf q1
theorem p6 {ws:List V} (h:1<=ws.length):i7 ws (some 1) none=ws.drop 1:=by
 have h1:HT.sIx ws.length 0 (some 1)=1:=by
  rw[show (1:Int)=((1:Nat):Int) from rfl,HT.nv]
  omega
 unfold i7
 rw[h1,HT.oW,List.take_of_length_le (by simp)]
abbrev Fq:=Int×Int
abbrev Sq:=Fq×Fq
def ppT (p:Fq):Th:=.tup [.int p.1,.int p.2]
def ssT (s:Sq):Th:=.tup [ppT s.1,ppT s.2]
def jA (t:Th):Option Fq:=if eN t=true then (match t with
 | .tup [.int a,.int b]=>some (a,b)
 | _=>none) else none
theorem qw {t:Th} (h:eN t=true):∃ p,t=ppT p/\jA t=some p:=by
 have hp:jh t=true:=by
  cases e:jh t with
  | true=>rfl
  | false=>rw[md e] at h;cases h
 obtain⟨a,b,rfl⟩:=kF hp
 exact⟨(a,b),rfl,by unfold jA;rw[if_pos h]⟩
theorem Dl {t:Th} (h:eN t=false):jA t=none:=by unfold jA;rw[if_neg (by rw[h];exact Bool.false_ne_true)]
def st2 (t:Th):Option Sq:=match fJ t with
 | some [x,y]=>(jA x).bind λ p=>(jA y).bind λ q=>some (p,q)
 | _=>none
def gM (p q:Fq):Bool:=decide (p.1*q.2<q.1*p.2)
def Sm2 (p:Fq):Prop:=Smk p.1/\Smk p.2
theorem g0 {H:Hp}{p:Fq}{v:V} (d:Den H (ppT p) v):∃ a,v=.ref a/\H a=some (.tup [.int p.1,.int p.2]):=fW d
theorem gZ {H:Hp}{s:Sq}{v:V} (d:Den H (ssT s) v):∃ c a b,v=.ref c/\H c=some (.tup [.ref a,.ref b])/\H a=some (.tup [.int s.1.1,.int s.1.2])/\H b=some (.tup [.int s.2.1,.int s.2.2]):=by
 obtain⟨c,xs,rfl,h,y,ys,rfl,d1,z,zs,rfl,d2,e⟩:=d
 have e':zs = []:=e
 subst e'
 obtain⟨a,rfl,ha⟩:=g0 d1
 obtain⟨b,rfl,hb⟩:=g0 d2
 exact⟨c,a,b,rfl,h,ha,hb⟩
def mS:Sp:=λ vs H Q _=>∃ (f g:Addr) (p q:Fq),vs = [.ref f,.ref g]/\H f=some (.tup [.int p.1,.int p.2])/\H g=some (.tup [.int q.1,.int q.2])/\Sm2 p/\Sm2 q/\Q (.bl (gM p q)) H
theorem D1:aG ["one","other"] ["one","other"] (aC xv):=aY
theorem ED (F:Fun K "under" "under" xv f fd) (T:Txt mg):aS P w K mg base CX0 1 f fd ["one","other"] mS:=by
 refine F.oka D1 λ cdv A outer s H vs Q E hr h=>?_
 obtain⟨f,g,p,q,rfl,h1,h2,t,u,k⟩:=h
 refine⟨_,(ak (aE (eI eZ (ar bW (aF aH (pv 0) aj (λ _ _=>rfl)) (aF aH (pv 1) aj (λ _ _=>rfl))) (ar bW (aF aH (pv 1) aj (λ _ _=>rfl)) (aF aH (pv 0) aj (λ _ _=>rfl))) (aO _)))),?_⟩
 exact⟨_,rfl,f,_,0,_,rfl,rfl,SqT.of h1,at0,_,rfl,g,_,1,_,rfl,rfl,SqT.of h2,at1,_,_,rfl,rfl,⟨t.1,u.2⟩,_,rfl,g,_,0,_,rfl,rfl,SqT.of h2,at0,_,rfl,f,_,1,_,rfl,rfl,SqT.of h1,at1,_,_,rfl,rfl,⟨u.1,t.2⟩,_,_,rfl,rfl,k⟩
def wv (C:CA):Sp:=λ vs H Q E=>∃ (x:V) (t:Th),vs = [x]/\Den H t x/\(∀ s,st2 t=some s->Sm2 s.1/\Sm2 s.2)/\(∀ s,st2 t=some s->gM s.2 s.1=false->∀ p H',aA H H'->Den H' (ssT s) (.ref p)->Q (.ref p) H') /\
 ((∀ s,st2 t=some s->gM s.2 s.1=true)->∀ H',aA H H'->E (.ref C.NoRule) none H')
theorem qz:aG ["thing","low","high"] ["thing"] (aC xx):=aY
theorem EF (F:Fun K "stretch_of" "stretch_of" xx f fd) (T:Txt mg) (cf:CF P w K mg C) (Growof:Cl P w K mg base CX0 4 "is_row_of" ["thing","count"] kb) (Gshare:Cl P w K mg base CX0 4 "is_share" ["thing"] mU) (Gund:Cl P w K mg base CX0 4 "under" ["one","other"] mS):aS P w K mg base (CXX P w) 5 f fd ["thing"] (wv C):=by
 refine F.okb qz λ cdv A outer s H vs Q E hr h=>?_
 obtain⟨x,t,rfl,d,hsm,q1,q2⟩:=h
 refine⟨_,(ag (aU (bK (br (aJ Growof hr rfl aN (ae (pv 0) (ae aj af))))) (ak (bc bz rfl cf.xNoRule rfl (ae ah af))) aI)
  (ag (aD (i:=1) qz.nd rfl (Or.inl rfl) (aF nQ (pv 0) aj (λ _ _=>rfl)))
  (ag (aD (i:=2) qz.nd rfl (Or.inl rfl) (aF nQ (pv 0) aj (λ _ _=>rfl)))
  (ag (aU (PW.pt (cL (bK (br (aJ Gshare hr rfl aN (ae (pv 1) af)))) (cB (bK (br (aJ Gshare hr rfl aN (ae (pv 2) af))))))) (ak (bc bz rfl cf.xNoRule rfl (ae ah af))) aI)
  (ag (aU (br (aJ Gund hr rfl aN (ae (pv 2) (ae (pv 1) af)))) (ak (bc bz rfl cf.xNoRule rfl (ae ah af))) aI)
  (ak (aE (aW (ae (pv 1) (ae (pv 2) af)))))))))),?_⟩
 have one:1<=sizeLine:=by decide
 refine⟨_,rfl,x,2,t,rfl,d,λ H1 s1=>⟨_,rfl,?_⟩⟩
 cases hr2:jB t 2 with
 | false =>
  refine bj ⟨one,q2 (λ s hs=>?_) _ s1⟩
  exfalso
  unfold st2 at hs
  unfold jB at hr2
  split at hs
  ·rename_i e
   rw[e] at hr2
   exact absurd hr2 (by simp)
  ·cases hs
 | true =>
  obtain⟨t0,t1,e2⟩:=tK hr2
  obtain⟨a,xs,rfl,sq,dd⟩:=jI e2 d
  obtain⟨y,ys,rfl,d0,z,zs,rfl,d1,e5⟩:=dd
  have e5':zs = []:=e5
  subst e5'
  refine bf ?_
  have sq1:=sq.keep s1
  have es:st2 t=(jA t0).bind λ p=>(jA t1).bind λ q=>some (p,q):=by unfold st2;rw[e2]
  refine⟨_,rfl,sq1.ix at0 ?_⟩
  refine⟨_,rfl,sq1.ix at1 ?_⟩
  refine⟨_,rfl,y,t0,rfl,d0.keep s1,_,rfl,?_⟩
  cases h0:eN t0 with
  | false =>
   refine bj (bj ⟨one,q2 (λ s hs=>?_) _ s1⟩)
   rw[es,Dl h0] at hs
   cases hs
  | true =>
   refine bf ⟨_,rfl,z,t1,rfl,d1.keep s1,_,rfl,?_⟩
   cases h1:eN t1 with
   | false =>
    refine bj ⟨one,q2 (λ s hs=>?_) _ s1⟩
    obtain⟨p,_,ep⟩:=qw h0
    rw[es,ep,Dl h1] at hs
    cases hs
   | true =>
    refine bf ?_
    obtain⟨p,rfl,ep⟩:=qw h0
    obtain⟨q,rfl,eq⟩:=qw h1
    have e3:st2 t=some (p,q):=by rw[es,ep,eq];rfl
    obtain⟨m1,m2⟩:=hsm _ e3
    obtain⟨b,rfl,hb⟩:=g0 (d0.keep s1)
    obtain⟨c,rfl,hc⟩:=g0 (d1.keep s1)
    refine⟨_,rfl,_,rfl,c,b,q,p,rfl,hc,hb,m2,m1,_,rfl,?_⟩
    cases hu:gM q p with
    | true=>exact bj ⟨one,q2 (λ s hs=>by rw[e3] at hs;cases hs;exact hu) _ s1⟩
    | false =>
     refine bf ⟨_,rfl,_,rfl,(by show 2<=sizeLine;decide),λ m hm=>?_⟩
     have s2:=aw hm (.tup [V.ref b,V.ref c])
     exact q1 (p,q) e3 hu m _ (s1.trans s2) (Fv ai (gH (s2 _ _ hb)) (gH (s2 _ _ hc)))
def GV (ps:List Sq):Prop:=∀ i p q,ps[i]? = some p->ps[i+1]? = some q->gM q.1 p.1=false/\gM q.2 p.2=false
structure gK (A S:Th) (n:Int) (ps:List Sq):Prop where
 a:A=.int n
 seq:∃ ts,fJ S=some ts/\ts.map st2=ps.map some
 n1:1<=n
 n12:n<=12
 len:(ps.length:Int)=n+1
 inn:∀ p∈ps,gM p.2 p.1=false
 ris:GV ps
def ruT (n:Int) (ps:List Sq):Th:=.tup [.int n,.tup (ps.map ssT)]
theorem df {H:Hp}:∀ {ts:List Th}{xs:List V}{t:Th}{v:V},bu H ts xs->Den H t v->bu H (ts++[t]) (xs++[v])
 | [],xs,t,v,h,d=>by
  rw[show xs = [] from h]
  exact⟨v,[],rfl,d,rfl⟩
 | u::us,xs,t,v,⟨y,ys,e,d1,d2⟩,d=>by
  rw[e]
  exact⟨y,ys++[v],rfl,d1,df d2 d⟩
theorem yS {ts:List Th}{ps:List Sq}{i:Nat}{t:Th}{a:Sq} (h:(ts.take i).map st2=ps.map some) (e:ts[i]? = some t) (ha:st2 t=some a):(ts.take (i+1)).map st2=(ps++[a]).map some:=by
 rw[List.take_add_one,e,List.map_append,List.map_append,h]
 show _++[st2 t]=_
 rw[ha]
 rfl
theorem yT {ts:List Th}{ps:List Sq} (h:ts.map st2=ps.map some) {i:Nat}{t:Th} (e:ts[i]? = some t):∃ p,ps[i]? = some p/\st2 t=some p:=by
 have h1:(ts.map st2)[i]? = some (st2 t):=by rw[List.getElem?_map,e];rfl
 rw[h,List.getElem?_map] at h1
 cases q:ps[i]? with
 | none=>rw[q] at h1;cases h1
 | some p=>rw[q] at h1;exact⟨p,rfl,(Option.some.inj h1).symm⟩
theorem oQ:∀ {ps qs:List Sq},ps.map some=qs.map some->ps=qs
 | [],[],_=>rfl
 | [],_::_,h=>by cases h
 | _::_,[],h=>by cases h
 | p::ps,q::qs,h=>by
  rw[List.map_cons,List.map_cons] at h
  injection h with h1 h2
  injection h1 with h1
  rw[h1,oQ h2]
theorem kZ {H:Hp}{l:Addr}{zs ws:List V} (hl:H l=some (.lst zs)):∀ {ts:List Th}{xs:List V},(∀ t∈ts,∃ p,t=ssT p)->bu H ts xs->bu (upd H l (.lst ws)) ts xs
 | [],_,_,h=>h
 | t::ts,xs,ht,⟨y,ys,e,d1,d2⟩=>by
  obtain⟨p,rfl⟩:=ht t (by simp)
  obtain⟨c,a,b,rfl,hc,ha,hb⟩:=gZ d1
  have k:∀ {x o},H x=some (.tup o)->upd H l (.lst ws) x=some (.tup o):=λ h=>by rw[aM (ji h hl (by intro z;cases z))];exact h
  exact⟨.ref c,ys,e,Fv (k hc) (gH (k ha)) (gH (k hb)),kZ hl (λ t' h'=>ht t' (by simp [h'])) d2⟩
def C5 (C:CA):Sp:=λ vs H Q E=>∃ (x z:V) (A S:Th),vs = [x,z]/\Den H A x/\Den H S z/\(∀ ts,fJ S=some ts->∀ t∈ts,∀ s,st2 t=some s->Sm2 s.1/\Sm2 s.2)/\(∀ n ps,gK A S n ps->∀ p H',aA H H'->Den H' (ruT n ps) (.ref p)->Q (.ref p) H') /\
 ((∀ n ps,¬ gK A S n ps)->∀ H',aA H H'->E (.ref C.NoRule) none H')
theorem gk:aG ["n","stretches","kept","ahead","behind"] ["n","stretches"] (aC ko):=aY
theorem u5 (F:Fun K "rule_of" "rule_of" ko f fd) (T:Txt mg) (cf:CF P w K mg C) (Gwhole:Cl P w K mg base CX0 5 "is_whole" ["thing"] gj) (Growof:Cl P w K mg base CX0 5 "is_row_of" ["thing","count"] kb) (Gstr:Cl P w K mg base (CXX P w) 5 "stretch_of" ["thing"] (wv C)) (Gund:Cl P w K mg base CX0 5 "under" ["one","other"] mS):aS P w K mg base (CXX P w) 6 f fd ["n","stretches"] (C5 C):=by
 refine F.okb gk λ cdv A outer s H vs Q E hr h=>?_
 obtain⟨x,z,A',S',rfl,dA,dS,hsm,q1,q2⟩:=h
 refine⟨_,(ag (aU (PW.pt (cL (bK (br (aJ Gwhole hr rfl aN (ae (pv 0) af)))) (cL (aK eZ (pv 0) aj (aO _)) (cB (aK gE (pv 0) aj (aO _)))))) (ak (bc bz rfl cf.xNoRule rfl (ae ah af))) aI)
  (ag (aU (bK (br (aJ Growof hr rfl aN (ae (pv 1) (ae (ar bM (pv 0) aj) af))))) (ak (bc bz rfl cf.xNoRule rfl (ae ah af))) aI)
  (ag (aD (i:=2) gk.nd rfl (Or.inl rfl) (bT eT rfl T.tuple boot_tuple (ae (io (xs:=["stretch"]) (ts:=[]) lO (λ _ _ h=>h) rfl ⟨rfl,oN,rfl,rfl,rfl,by decide +kernel,rfl,rfl⟩ (Eu (pv 1)) (λ C s3 H3 fp=>(aP (i:=0) (show (["stretch"]:List Str).Nodup by decide +kernel) rfl (Or.inl rfl) (Or.inr rfl))) (λ C s3 H3 fp=>cN) (λ C s3 H3 fp xe hx=>(aJ Gstr hr rfl hx (ae (pv 0) af)))) af)))
  (ag (eR PassesOwn.leaving rfl (yh rfl T.zip (ae (pv 2) (ae (cO DY (pv 2) (dh aj) eF) af))) (kA rfl (aR (aP (i:=3) gk.nd rfl (Or.inl rfl)) (aR (aP (i:=4) gk.nd rfl (Or.inl rfl)) b5))) (ak (aU (PW.pt (cL (br (aJ Gund hr rfl aN (ae (aF aH (pv 4) aj (λ _ _=>rfl)) (ae (aF aH (pv 3) aj (λ _ _=>rfl)) af)))) (cB (br (aJ Gund hr rfl aN (ae (aF aH (pv 4) aj (λ _ _=>rfl)) (ae (aF aH (pv 3) aj (λ _ _=>rfl)) af))))))) (ak (bc bz rfl cf.xNoRule rfl (ae ah af))) aI)))
  (ak (aE (aW (ae (pv 0) (ae (pv 2) af))))))))),?_⟩
 have one:1<=sizeLine:=by decide
 refine⟨_,rfl,x,A',rfl,dA,_,rfl,?_⟩
 cases hA:isW A' with
 | false=>exact bj (bj ⟨one,q2 (λ n ps g=>by rw[g.a] at hA;cases hA) _ (aA.refl H)⟩)
 | true =>
 obtain⟨n,rfl⟩:=cI hA
 cases (show x=V.int n from dA)
 have gn:∀ {n' ps},gK (.int n) S' n' ps->n'=n:=λ g=>by
  have e:=g.a
  cases e
  rfl
 refine bf ⟨_,rfl,_,_,rfl,rfl,_,rfl,?_⟩
 refine c7 (λ c=>bj ⟨one,q2 (λ n' ps g=>?_) _ (aA.refl H)⟩) (λ c1=>?_)
 ·cases gn g
  have:=of_decide_eq_true c
  have:=g.n1
  omega
 refine⟨_,rfl,_,_,rfl,rfl,_,rfl,?_⟩
 refine c7 (λ c=>⟨one,q2 (λ n' ps g=>?_) _ (aA.refl H)⟩) (λ c2=>?_)
 ·cases gn g
  have:=of_decide_eq_true c
  have:=g.n12
  omega
 have k1:¬ n<1:=ofD c1
 have k2:¬ (12:Int)<n:=ofD c2
 refine⟨_,rfl,_,rfl,_,_,rfl,rfl,z,n+1,S',rfl,dS,λ H1 s1=>⟨_,rfl,?_⟩⟩
 cases hR:jB S' (n+1) with
 | false =>
  refine bj ⟨one,q2 (λ n' ps g=>?_) _ s1⟩
  cases gn g
  obtain⟨ts,e1,e2⟩:=g.seq
  have l1:ts.length=ps.length:=by simpa using congrArg List.length e2
  have l2:=g.len
  unfold jB at hR
  rw[e1] at hR
  exact absurd hR (by simp;omega)
 | true =>
 refine bf ?_
 obtain⟨ts,es,lt⟩:=nA hR
 have hsm:=hsm ts es
 obtain⟨a,xs,rfl,sq,dd⟩:=jI es dS
 have lx:=dd.len
 have sq1:=sq.keep s1
 have dd1:=dd.keep s1
 refine⟨_,rfl,a,xs,rfl,?_⟩
 refine w4 sq1 (Nat.le_of_lt (vv (by omega))) (λ D i ws H2=>∃ ps:List Sq,(ts.take i).map st2=ps.map some/\(∀ p∈ps,gM p.2 p.1=false)/\bu H2 (ps.map ssT) ws) (λ D hD=>⟨[],rfl,(λ p hp=>absurd hp (by simp)),rfl⟩) ?_ ?_
 ·rintro D i v ws H2 k hD hv sm e hl ⟨ps,m1,m2,m3⟩ hk
  have hi:=(List.getElem?_eq_some_iff.mp hv).1
  have et:=List.getElem?_eq_getElem (show i<ts.length by omega)
  obtain⟨v',f1,f2⟩:=(dd1.keep sm).get et
  rw[hv] at f1
  cases f1
  refine⟨_,rfl,v,_,rfl,f2,hsm _ (List.getElem_mem _),λ b hb hin p H3 s3 hp=>hk _ _ s3 ⟨ps++[b],yS m1 et hb,λ p' hp'=>?_,?_⟩,λ hbad H3 s3=>q2 (λ n' ps' g=>?_) _ ((s1.trans sm).trans s3)⟩
  ·rcases List.mem_append.mp hp' with y | y
   ·exact m2 p' y
   ·rw[List.mem_singleton.mp y];exact hin
  ·rw[List.map_append]
   exact kZ (s3 _ _ e) (λ p' hp'=>by
    rcases List.mem_append.mp hp' with y | y
    ·obtain⟨q,_,rfl⟩:=List.mem_map.mp y;exact⟨q,rfl⟩
    ·exact⟨b,List.mem_singleton.mp y⟩) (df (m3.keep s3) hp)
  ·obtain⟨ts',e1,e2⟩:=g.seq
   rw[es] at e1
   cases e1
   obtain⟨p,y1,y2⟩:=yT e2 et
   have:=hbad p y2
   rw[g.inn p (List.mem_of_getElem? y1)] at this
   cases this
 rintro D ws H2 hD s2 hD2 hlw ⟨ps,m1,m2,m3⟩
 rw[List.take_of_length_le (by omega)] at m1
 have lp:ts.length=ps.length:=by simpa using congrArg List.length m1
 have psm:∀ p∈ps,Sm2 p.1/\Sm2 p.2:=λ p hp=>by
  obtain⟨i,hi⟩:=List.mem_iff_getElem?.mp hp
  have hi':=(List.getElem?_eq_some_iff.mp hi).1
  have et:=List.getElem?_eq_getElem (show i<ts.length by omega)
  obtain⟨p',y1,y2⟩:=yT m1 et
  rw[hi] at y1
  cases y1
  exact hsm _ (List.getElem_mem _) p y2
 refine⟨D,ws,rfl,.inl ⟨SqL.of hD2,λ t ht=>?_⟩⟩
 have s3:=aw ht (.tup ws)
 have r3:=m3.keep s3
 have t3:(upd H2 t (.tup ws)) t=some (.tup ws):=ai
 have s13:=(s1.trans s2).trans s3
 generalize hH3:upd H2 t (.tup ws)=H3 at *
 have hcut:¬ (HT.sIx ws.length 0 (some 1)=0/\HT.sIx ws.length ws.length none=ws.length):=by
  rw[show (1:Int)=((1:Nat):Int) from rfl,HT.nv]
  omega
 refine⟨_,rfl,_,rfl,_,rfl,t,ws,rfl,SqT.of t3,hcut,λ m hm=>?_⟩
 rw[p6 (by omega)]
 have s4:=aw hm (.tup (ws.drop 1))
 refine⟨t,m,rfl,⟨_,SqT.of (s4 _ _ t3)⟩,⟨_,SqT.of ai⟩,?_⟩
 have m4:(upd H3 m (.tup (ws.drop 1))) m=some (.tup (ws.drop 1)):=ai
 have r4:=r3.keep s4
 have t4:=s4 _ _ t3
 generalize hH4:upd H3 m (.tup (ws.drop 1))=H4 at *
 have pin:∀ {n' ps'},gK (.int n) S' n' ps'->ps'=ps:=λ g=>by
  obtain⟨ts',e1,e2⟩:=g.seq
  rw[es] at e1
  cases e1
  exact oQ (e2.symm.trans m1)
 refine zx (n:=ws.length-1) (xs:=ws) (ys:=ws.drop 1) (λ i σ H'=>aA H4 H'/\(∀ j,j<i->∀ p q,ps[j]? = some p->ps[j+1]? = some q->gM q.1 p.1=false/\gM q.2 p.2=false)/\∃ v1 v2,σ = [some (.int n),some (.ref a),some (.ref t),v1,v2]) ⟨aA.refl H4,λ j hj=>absurd hj (by omega),none,none,rfl⟩ (by omega) (by simp) (.inr (by simp)) ?_ ?_ ?_
 ·rintro i σ H' hi ⟨sm,_⟩
  exact⟨SqT.of (sm _ _ t4),SqT.of (sm _ _ m4)⟩
 ·rintro i u v U σ H' hi hu hv hU ⟨sm,hj,v1,v2,rfl⟩
  have ep:=List.getElem?_eq_getElem (show i<ps.length by omega)
  have ep2:=List.getElem?_eq_getElem (show i+1<ps.length by omega)
  obtain⟨w1,f1,g1⟩:=(r4.keep sm).get (i:=i) (t:=ssT ps[i]) (by rw[List.getElem?_map,ep];rfl)
  obtain⟨w2,f2,g2⟩:=(r4.keep sm).get (i:=i+1) (t:=ssT ps[i+1]) (by rw[List.getElem?_map,ep2];rfl)
  rw[hu] at f1
  cases f1
  rw[List.getElem?_drop,Nat.add_comm,f2] at hv
  cases hv
  obtain⟨b,bl,bh,rfl,b2,b3,b4⟩:=gZ g1
  obtain⟨c,cl,ch,rfl,c2',c3,c4⟩:=gZ g2
  have sU:=aw hU (.tup [.ref b,.ref c])
  have z1:=psm _ (List.mem_of_getElem? ep)
  have z2:=psm _ (List.mem_of_getElem? ep2)
  refine⟨U,_,rfl,SqT.of ai,rfl,.ref b,[.ref c],rfl,.ref c,[],rfl,rfl,?_⟩
  have b2:=sU _ _ b2
  have b3:=sU _ _ b3
  have b4:=sU _ _ b4
  have c2':=sU _ _ c2'
  have c3:=sU _ _ c3
  have c4:=sU _ _ c4
  refine⟨_,rfl,c,_,0,_,rfl,rfl,SqT.of c2',at0,_,rfl,b,_,0,_,rfl,rfl,SqT.of b2,at0,cl,bl,_,_,rfl,c3,b3,z2.1,z1.1,_,rfl,?_⟩
  cases u1:gM ps[i+1].1 ps[i].1 with
  | true =>
   refine bj (bj ⟨one,q2 (λ n' ps' g=>?_) _ ((((s13.trans s4).trans sm)).trans sU)⟩)
   have y:=g.ris
   rw[pin g] at y
   have y':=(y i _ _ ep ep2).1
   rw[u1] at y'
   cases y'
  | false =>
  refine bf ⟨_,rfl,c,_,1,_,rfl,rfl,SqT.of c2',at1,_,rfl,b,_,1,_,rfl,rfl,SqT.of b2,at1,ch,bh,_,_,rfl,c4,b4,z2.2,z1.2,_,rfl,?_⟩
  cases u2:gM ps[i+1].2 ps[i].2 with
  | true =>
   refine bj ⟨one,q2 (λ n' ps' g=>?_) _ ((((s13.trans s4).trans sm)).trans sU)⟩
   have y:=g.ris
   rw[pin g] at y
   have y':=(y i _ _ ep ep2).2
   rw[u2] at y'
   cases y'
  | false =>
  refine bf ⟨sm.trans sU,λ j hj' p q hp hq=>?_,_,_,rfl⟩
  by_cases ej:j<i
  ·exact hj j ej p q hp hq
  ·have:j=i:=by omega
   subst this
   rw[ep] at hp
   rw[ep2] at hq
   cases hp
   cases hq
   exact⟨u1,u2⟩
 ·rintro σ H' ⟨sm,hj,v1,v2,rfl⟩
  refine⟨_,rfl,_,rfl,(by show 2<=sizeLine;decide),λ x hx=>?_⟩
  have s5:=aw hx (.tup [V.int n,V.ref t])
  have gd:gK (.int n) S' n ps:=⟨rfl,⟨ts,es,m1⟩,by omega,by omega,by omega,m2,λ i p q hp hq=>hj i (by have:=(List.getElem?_eq_some_iff.mp hq).1;omega) p q hp hq⟩
  exact q1 n ps gd x _ (((s13.trans s4).trans sm).trans s5) ⟨x,_,rfl,ai,_,_,rfl,rfl,_,_,rfl,⟨t,ws,rfl,s5 _ _ (sm _ _ t4),(r4.keep sm).keep s5⟩,rfl⟩
theorem Al {a b:Int} (h:b≠0) (sb:Smk b):Smk (frD a b):=by
 have h1:(frD a b).natAbs=Int.gcd a b:=by unfold frD;split<;>omega
 have h2:Int.gcd a b<=b.natAbs:=Nat.le_of_dvd (by omega) (Nat.gcd_dvd_right ..)
 exact Nat.lt_of_le_of_lt (by rw[h1];exact h2) sb
theorem aX {t u:TS}{D:hW}{σ:St}{H:Hp} (P:St->Hp->Prop) (h1:∀ N:St->Hp->Prop,(∀ σ H,P σ H->N σ H)->t {D with nx:=N} σ H) (h2:∀ σ H,P σ H->u D σ H):FR t u D σ H:=h1 _ h2
def wT (K:PySem.W.Frag):Sp:=λ vs H Q _=>∃ (a:Addr) (ns:List Int) (k:Int),vs = [.ref a,.int k]/\SqL K H a (ns.map V.int)/\ns.length<=63/\0<=k/\k<=400/\∀ r:Int,Q (.int r) H
theorem Ec:aG ["_law_script","_law_k"] ["_law_script","_law_k"] (aC xV):=aY
theorem E6 (F:Fun K "_law_at" "_law_at" xV f fd) (T:Txt mg):aS P w K mg base CX0 1 f fd ["_law_script","_law_k"] (wT K):=by
 refine F.oka Ec λ cdv A outer s H vs Q E hr h=>?_
 obtain⟨a,ns,k,rfl,hS,h63,h0,h4,q⟩:=h
 refine⟨_,(ag (aU (aK eZ (pv 1) (aT bF rfl T.len boot_len (ae (pv 0) af)) (aO _)) (ak (aE (aF ba (pv 0) (pv 1) (λ _ _=>rfl)))) aI)
  (ag (aU (aK b7 (aT bF rfl T.len boot_len (ae (pv 0) af)) aj (aO _)) (ak (aE (ar bM (ar d5 (ar d5 (pv 1) (pv 1)) aj) aj))) aI)
  (ak (aE (ar bM (ar d5 (aF ba (pv 0) (ar cP (pv 1) (aT bF rfl T.len boot_len (ae (pv 0) af))) (λ _ _=>rfl)) (ar bM (pv 1) aj)) (ar d5 (ar d5 (pv 1) (pv 1)) aj)))))),?_⟩
 have hl:(ns.map V.int).length=ns.length:=List.length_map _
 have kk:k*k<=160000:=Int.le_trans (Int.mul_le_mul h4 h4 h0 (by decide)) (by decide)
 have kk0:0<=k*k:=Int.mul_nonneg h0 h0
 refine⟨_,rfl,_,rfl,a,_,rfl,.inl hS,_,_,rfl,rfl,_,rfl,?_⟩
 refine c7 (λ c=>?_) (λ c=>?_)
 ·have c':k<(((ns.map V.int).length:Nat):Int):=of_decide_eq_true c
  rw[hl] at c'
  exact⟨_,rfl,_,rfl,a,_,k,_,rfl,rfl,hS,ux h0 c',q _⟩
 refine⟨_,rfl,a,_,rfl,.inl hS,rfl,_,rfl,?_⟩
 refine c7 (λ c1=>?_) (λ c1=>?_)
 ·exact⟨_,rfl,_,rfl,_,_,rfl,rfl,.inl ⟨by omega,by omega⟩,_,_,rfl,rfl,.inr ⟨by decide,by decide⟩,_,_,rfl,rfl,q _⟩
 ·have l0:(0:Int)<((ns.map V.int).length:Nat):=by
   have:¬ (((ns.map V.int).length:Nat):Int)=0:=by
    intro z
    rw[z] at c1
    exact absurd c1 (by simp)
   omega
  refine⟨_,rfl,_,rfl,_,rfl,a,_,rfl,.inl hS,_,_,rfl,rfl,l0,a,_,_,_,rfl,rfl,hS,ux (md0 _ l0) (by rw[<-hl];exact md1 _ l0),_,rfl,_,_,rfl,rfl,_,_,rfl,rfl,.inr ⟨by omega,by omega⟩,_,rfl,_,rfl,_,_,rfl,rfl,.inl ⟨by omega,by omega⟩,_,_,rfl,rfl,.inr ⟨by decide,by decide⟩,_,_,rfl,rfl,q _⟩
def jf (C:CA):Sp:=λ vs H Q E=>∃ x:Str,vs = [.str x]/\Asc x/\x.length<=100000/\(∀ n,bI x=some n->∀ H',aA H H'->Q (.int n) H')/\(bI x=none->∀ H',aA H H'->E (.ref C.NoText) none H')
theorem xh:aG ["text","below","figures"] ["text"] (aC Ed):=aY
theorem Gu (F:Fun K "read_whole" "read_whole" Ed f fd) (T:Txt mg) (cf:CF P w K mg C):aS P w K mg base (CXD P w) 1 f fd ["text"] (jf C):=by
 refine F.okb xh λ cdv A outer s H vs Q E hr h=>?_
 obtain⟨x,rfl,ax,lx,q1,q2⟩:=h
 refine⟨_,(ag (aD (i:=1) xh.nd rfl (Or.inl rfl) (mh (pv 0) ah))
  (ag (aD (i:=2) xh.nd rfl (Or.inl rfl) (kE (br (pv 1)) (cO iQ (pv 0) (dh aj) eF) (pv 0)))
  (ag (aU (PW.pt (cL (aK eZ (aT dP rfl T.len boot_len (ae (pv 2) af)) aj (aO _)) (cL (aK gE (aT dP rfl T.len boot_len (ae (pv 2) af)) aj (aO _)) (cB (bK (br (aT (qc rfl) rfl T.all boot_all (ae (eX (ts:=[]) rfl ⟨rfl,oN,rfl,rfl,rfl,rfl,by decide +kernel,rfl,rfl⟩ (yi (pv 2)) (λ C s3 H3 fp=>(eI yw (pv 0) (pj rfl T.FIGURES) (by with_unfolding_all rfl)))) af)))))))) (ak (gp ⟨rfl,rfl,rfl⟩ kx rfl cf.xNoText rfl (ae ah af))) aI)
  (ag (aU (PW.pt (ye (br (mh (pv 2) ah)) (tO (PW.pt (cL (br (pv 1)) (cB (aK gE (aT dP rfl T.len boot_len (ae (pv 2) af)) aj (aO _)))))))) (ak (gp ⟨rfl,rfl,rfl⟩ kx rfl cf.xNoText rfl (ae ah af))) aI)
  (ak (aE (bT vV rfl T.int boot_int (ae (pv 0) af)))))))),?_⟩
 refine⟨_,rfl,_,rfl,_,rfl,?_⟩
 dsimp only
 refine aX (λ σ H'=>H'=H/\σ = [some (.str x),some (.bl (Txt.startswith x "-")),some (.str (bB x))]) ?_ ?_
 ·intro M hM
  refine⟨_,rfl,_,rfl,?_⟩
  unfold bB at hM
  cases hb:Txt.startswith x "-" with
  | true =>
   rw[hb,if_pos rfl] at hM
   refine bj ⟨_,rfl,1,rfl,_,rfl,aV (by omega),hM _ _ ⟨rfl,?_⟩⟩
   rw[<-hb];rfl
  | false =>
   rw[hb,if_neg Bool.false_ne_true] at hM
   refine bf ⟨_,rfl,hM _ _ ⟨rfl,?_⟩⟩
   rw[<-hb];rfl
 rintro σ H' ⟨rfl,rfl⟩
 have fl:=B2 x
 have fa:=zz ax
 have one:1<=sizeLine:=by decide
 have bad:e9 x=false->∀ H2,aA H' H2->E (.ref C.NoText) none H2:=λ h=>q2 (by unfold bI;rw[if_neg (λ z=>by rw[h] at z;cases z.1)])
 refine⟨_,rfl,_,rfl,aV (by omega),_,_,rfl,rfl,_,rfl,?_⟩
 refine c7 (λ c=>⟨one,bad ?_ _ (aA.refl _)⟩) (λ c=>?_)
 ·have c':((bB x).length:Int)<1:=of_decide_eq_true c
  unfold e9
  rw[decide_eq_false (by omega),Bool.false_and]
 have c1:¬ ((bB x).length:Int)<1:=ofD c
 refine⟨_,rfl,_,rfl,aV (by omega),_,_,rfl,rfl,_,rfl,?_⟩
 refine c7 (λ c=>⟨one,bad ?_ _ (aA.refl _)⟩) (λ c=>?_)
 ·have c':(60:Int)<((bB x).length:Int):=of_decide_eq_true c
  unfold e9
  rw[decide_eq_false (show ¬ (bB x).length<=60 by omega),Bool.false_and,Bool.and_false]
 have c2:¬ (60:Int)<((bB x).length:Int):=ofD c
 refine⟨_,rfl,bB x,rfl,fa,λ D hD=>mD jr hD (aV (by have:(bB x).cps.size=(bB x).length:=rfl;omega)) (λ j c H2 k hc s2 hk=>⟨_,rfl,_,_,rfl,rfl,hk _ (aA.refl _)⟩) λ H2 s2 hD2=>?_⟩
 refine⟨D,_,rfl,SqL.of hD2,_,rfl,?_⟩
 have ea:((bB x).cps.toList.map jr).all id=(bB x).cps.toList.all jr:=by rw[List.all_map];rfl
 rw[ea]
 have eo:e9 x=(bB x).cps.toList.all jr:=by
  unfold e9
  rw[decide_eq_true (show 1<=(bB x).length by omega),decide_eq_true (show (bB x).length<=60 by omega),Bool.true_and,Bool.true_and]
 cases ho:(bB x).cps.toList.all jr with
 | false =>
  rw[ho] at eo
  exact bj ⟨one,bad eo _ s2⟩
 | true =>
  rw[ho] at eo
  refine bf ?_
  obtain⟨l61,n,hn⟩:=uz eo
  have good:kG x=false->Q (.int n) H2:=λ h=>q1 n (by unfold bI;rw[if_pos ⟨eo,h⟩];exact hn) _ s2
  have bad2:kG x=true->E (.ref C.NoText) none H2:=λ h=>q2 (by unfold bI;rw[if_neg (λ z=>by rw[h] at z;cases z.2)]) _ s2
  refine⟨_,rfl,_,rfl,_,rfl,_,rfl,?_⟩
  have fin:kG x=false->∃ v,[some (V.str x),some (V.bl (Txt.startswith x "-")),some (V.str (bB x))][0]? = some (some v)/\∃ a n,[v] = [V.str a]/\intText? a=some n/\a.length<=640/\Q (V.int n) H2:=λ h=>⟨_,rfl,_,n,rfl,hn,by omega,good h⟩
  unfold kG at fin bad2
  cases hs:Txt.startswith (bB x) "0" with
  | false =>
   rw[hs,Bool.false_and] at fin
   exact bf (fin rfl)
  | true =>
   rw[hs,Bool.true_and] at fin bad2
   refine bj ⟨_,rfl,_,rfl,?_⟩
   cases hb:Txt.startswith x "-" with
   | true =>
    rw[hb,Bool.true_or] at bad2
    exact bj (bj ⟨one,bad2 rfl⟩)
   | false =>
    rw[hb,Bool.false_or] at fin bad2
    refine bf ⟨_,rfl,_,rfl,aV (by omega),_,_,rfl,rfl,_,rfl,?_⟩
    refine c7 (λ c=>⟨one,bad2 ?_⟩) (λ c=>fin ?_)
    ·have c':(1:Int)<((bB x).length:Int):=of_decide_eq_true c
     exact decide_eq_true (by omega)
    ·have c':¬ (1:Int)<((bB x).length:Int):=ofD c
     exact decide_eq_false (by omega)
def kc (C:CA):Sp:=λ vs H Q E=>∃ x:Str,vs = [.str x]/\Asc x/\x.length<=100000/\(∀ p,fg x=some p->∀ a H',aA H H'->H' a=some (.tup [.int p.1,.int p.2])->Q (.ref a) H')/\(fg x=none->∀ H',aA H H'->E (.ref C.NoText) none H')
theorem tD:aG ["text","parts","top","bottom"] ["text"] (aC Eg):=aY
theorem Gx (F:Fun K "read_fraction" "read_fraction" Eg f fd) (T:Txt mg) (cf:CF P w K mg C) {frw:Addr}{drw:FuncData} (Grw:aS P w K mg base (CXD P w) 1 frw drw ["text"] (jf C)) (brw:bS K drw ["text"] []) (krw:PySem.W.keepIn K (.ref frw)=true) (mrw:mg "read_whole" = some (.ref frw)) (Gcd:Cl P w K mg base CX0 1 "common_divisor" ["one","other"] Ak):aS P w K mg base (CXD P w) 2 f fd ["text"] (kc C):=by
 refine F.okb tD λ cdv A outer s H vs Q E hr h=>?_
 obtain⟨x,rfl,ax,lx,q1,q2⟩:=h
 have one:1<=sizeLine:=by decide
 obtain⟨a,m,b,ep,aa,am,ab,la,lb⟩:=jg x "/" ax (show (Str.ofString "/").cps.all (· < 128)=true by decide +kernel)
 have ef:fg x=(bI a).bind λ t=>if m=Str.empty then some (t,1) else (bI b).bind λ d=>if d<2∨Int.gcd t d≠1 then none else some (t,d):=by
  unfold fg
  rw[ep]
 rw[ef] at q1 q2
 refine⟨_,(ag (aD (i:=1) tD.nd rfl (Or.inl rfl) (fB (pv 0) ah))
  (ag (aD (i:=2) tD.nd rfl (Or.inl rfl) (jM Grw hr rfl mrw krw brw .nil tX (ae (aF aH (pv 1) aj (λ _ _=>rfl)) af)))
  (ag (aU (aK b7 (aF aH (pv 1) aj (λ _ _=>rfl)) ah (aO _)) (ak (aE (aW (ae (pv 2) (ae aj af))))) aI)
  (ag (aD (i:=3) tD.nd rfl (Or.inl rfl) (jM Grw hr rfl mrw krw brw .nil tX (ae (aF aH (pv 1) aj (λ _ _=>rfl)) af)))
  (ag (aU (PW.pt (cL (aK eZ (pv 3) aj (aO _)) (cB (aK eY (aJ Gcd hr rfl aN (ae (aT lj rfl T.abs boot_abs (ae (pv 2) af)) (ae (pv 3) af))) aj (aO _))))) (ak (gp ⟨rfl,rfl,rfl⟩ kx rfl cf.xNoText rfl (ae ah af))) aI)
  (ak (aE (aW (ae (pv 2) (ae (pv 3) af)))))))))),?_⟩
 refine⟨_,rfl,_,rfl,_,rfl,by decide +kernel,aV (by omega),λ t ht=>?_⟩
 rw[ep]
 have s1:=aw ht (.tup ([a,m,b].map V.str))
 have xt:upd H t (.tup ([a,m,b].map V.str)) t=some (.tup [.str a,.str m,.str b]):=ai
 generalize upd H t (.tup ([a,m,b].map V.str))=H1 at *
 refine⟨_,rfl,t,_,0,_,rfl,rfl,SqT.of xt,at0,a,rfl,aa,by omega,λ n hn H2 s2=>?_,λ hn H2 s2=>q2 (by rw[hn];rfl) _ (s1.trans s2)⟩
 rw[hn] at q1 q2
 have q1':∀ p,(if m=Str.empty then some (n,(1:Int)) else (bI b).bind λ d=>if d<2∨Int.gcd n d≠1 then none else some (n,d))=some p->∀ a H',aA H H'->H' a=some (.tup [.int p.1,.int p.2])->Q (.ref a) H':=q1
 have q2':(if m=Str.empty then some (n,(1:Int)) else (bI b).bind λ d=>if d<2∨Int.gcd n d≠1 then none else some (n,d))=none->∀ H',aA H H'->E (.ref C.NoText) none H':=q2
 have x2:=s2 _ _ xt
 have s12:=s1.trans s2
 refine⟨_,rfl,t,_,1,_,rfl,rfl,SqT.of x2,at1,rfl,_,rfl,?_⟩
 have e0:Str.ofString "" = Str.empty:=by decide +kernel
 by_cases hm:m=Str.empty
 ·rw[if_pos hm] at q1'
  refine pF (by rw[dn,hm,e0];simp) ?_
  exact⟨_,rfl,(by show 2<=sizeLine;decide),λ g hg=>q1' _ rfl g _ (s12.trans (aw hg _)) ai⟩
 ·rw[if_neg hm] at q1' q2'
  refine dH (by rw[dn,e0];simpa using hm) ?_
  refine⟨_,rfl,t,_,2,_,rfl,rfl,SqT.of x2,cy (j:=2) rfl,b,rfl,ab,by omega,λ d hd H3 s3=>?_,λ hd H3 s3=>q2' (by rw[hd];rfl) _ (s12.trans s3)⟩
  rw[hd] at q1' q2'
  have s13:=s12.trans s3
  refine⟨_,rfl,_,_,rfl,rfl,_,rfl,?_⟩
  refine c7 (λ c=>⟨one,q2' (if_pos (.inl (of_decide_eq_true c))) _ s13⟩) (λ c=>?_)
  have c':¬ d<2:=ofD c
  have gg:Int.gcd (if n<0 then -n else n) d=Int.gcd n d:=by
   have:=GJ n d
   rw[if_neg (show ¬ d<0 by omega)] at this
   exact this
  refine⟨_,rfl,_,rfl,_,rfl,_,_,rfl,by split<;>omega,by omega,rfl,_,rfl,?_⟩
  rw[gg]
  by_cases hg:Int.gcd n d=1
  ·refine dH (by rw[hg];decide) ?_
   exact⟨_,rfl,_,rfl,(by show 2<=sizeLine;decide),λ g hg'=>q1' (n,d) (if_neg (λ z=>z.elim c' (λ y=>y hg))) g _ (s13.trans (aw hg' _)) ai⟩
  ·refine pF ?_ ⟨one,q2' (if_pos (.inr hg)) _ s13⟩
   have:¬ ((Int.gcd n d:Nat):Int)=1:=by omega
   simpa using this
def eOf (frw frf:Addr) (b:Bool):Addr:=if b=true then frf else frw
def dOf (drw drf:FuncData) (b:Bool):FuncData:=if b=true then drf else drw
def F7 (C:CA) (b:Bool):Sp:=λ vs H Q E=>∃ x:Str,vs = [.str x]/\Asc x/\x.length<=100000/\(∀ t,dE b x=some t->∀ v H',aA H H'->Den H' t v->Q v H')/\(dE b x=none->∀ H',aA H H'->E (.ref C.NoText) none H')
theorem Fu {C:CA}{k:Nat}{frw frf:Addr}{drw drf:FuncData} (Grw:aS P w K mg base (CXX P w) k frw drw ["text"] (jf C)) (Grf:aS P w K mg base (CXX P w) k frf drf ["text"] (kc C)):∀ b:Bool,aS P w K mg base (CXX P w) k (eOf frw frf b) (dOf drw drf b) ["text"] (F7 C b)
 | false=>Grw.imp λ vs H Q E ⟨x,e,ax,lx,q1,q2⟩=>⟨x,e,ax,lx,λ n hn H' s'=>q1 (.int n) (by unfold dE;rw[hn];rfl) _ H' s' rfl,λ hn=>q2 (by unfold dE;rw[hn];rfl)⟩
 | true=>Grf.imp λ vs H Q E ⟨x,e,ax,lx,q1,q2⟩=>⟨x,e,ax,lx,λ p hp a H' s' ha=>q1 (.tup [.int p.1,.int p.2]) (by unfold dE;rw[hp];rfl) _ H' s' (gH ha),λ hn=>q2 (by unfold dE;rw[hn];rfl)⟩
def C6 (C:CA) (frw frf:Addr):Sp:=λ vs H Q E=>∃ (x:Str) (b:Bool),vs = [.str x,.ref (eOf frw frf b)]/\Asc x/\x.length<=50000/\(∀ t,bL b x=some t->∀ p H',aA H H'->Den H' (.tup [t.1,t.2]) (.ref p)->Q (.ref p) H')/\(bL b x=none->∀ H',aA H H'->E (.ref C.NoText) none H')
theorem Do:aG ["text","read_end","written"] ["text","read_end"] (aC Ef):=aY
theorem Gw (F:Fun K "read_pair" "read_pair" Ef f fd) (T:Txt mg) (cf:CF P w K mg C) {frw:Addr}{drw:FuncData} (Grw:aS P w K mg base (CXX P w) 2 frw drw ["text"] (jf C)) (brw:bS K drw ["text"] []) (krw:PySem.W.keepIn K (.ref frw)=true) (mrw:mg "read_whole" = some (.ref frw)) {frf:Addr}{drf:FuncData} (Grf:aS P w K mg base (CXX P w) 2 frf drf ["text"] (kc C)) (brf:bS K drf ["text"] []) (krf:PySem.W.keepIn K (.ref frf)=true) (mrf:mg "read_fraction" = some (.ref frf)):aS P w K mg base (CXX P w) 3 f fd ["text","read_end"] (C6 C frw frf):=by
 have GP:=Fu Grw Grf
 have kP:∀ b,PySem.W.keepIn K (.ref (eOf frw frf b))=true:=λ b=>by cases b;exact krw;exact krf
 have bP:∀ b,bS K (dOf drw drf b) ["text"] []:=λ b=>by cases b;exact brw;exact brf
 refine F.okb Do λ cdv A outer s H vs Q E hr h=>?_
 obtain⟨x,b,rfl,ax,lx,q1,q2⟩:=h
 have one:1<=sizeLine:=by decide
 have mem:=gi (y:=" ") ax
 have cnt:=fP x " "
 unfold bL at q1 q2
 refine⟨_,(ag (aD (i:=2) Do.nd rfl (Or.inl rfl) (kC (pv 0) ah))
  (ag (aU (aK eY (aT bF rfl T.len boot_len (ae (pv 2) af)) aj (aO _)) (ak (bc bz rfl cf.xNoText rfl (ae ah af))) aI)
  (ak (aE (aW (ae (pq GP hr kP bP cn (pv 1) (ae (aF ba (pv 2) aj (λ _ _=>rfl)) af)) (ae (pq GP hr kP bP cn (pv 1) (ae (aF ba (pv 2) aj (λ _ _=>rfl)) af)) af))))))),?_⟩
 refine⟨_,rfl,_,rfl,_,rfl,by decide +kernel,aV (by omega),aV (by omega),λ l hl=>?_⟩
 have sl:=aw hl (.lst ((Txt.split x " ").map V.str))
 have xl:upd H l (.lst ((Txt.split x " ").map V.str)) l=some (.lst ((Txt.split x " ").map V.str)):=ai
 generalize upd H l (.lst ((Txt.split x " ").map V.str))=H1 at *
 generalize Txt.split x " " = zs at *
 refine⟨_,rfl,l,_,rfl,.inl (SqL.of xl),rfl,_,rfl,?_⟩
 by_cases h2:zs.length=2
 ·match zs,h2,mem,xl,q1,q2 with
  | [u,v],_,mem,xl,q1,q2 =>
   refine dH (by simp) ?_
   obtain⟨au,lu⟩:=mem u (by simp)
   obtain⟨av,lv⟩:=mem v (by simp)
   refine⟨b,rfl,_,rfl,l,_,0,_,rfl,rfl,SqL.of xl,at0,u,rfl,au,by omega,λ t1 h1 v1 H2 s2 d1=>?_,λ h1 H2 s2=>q2 (by show (dE b u).bind _=none;rw[h1];rfl) _ (sl.trans s2)⟩
   refine⟨b,rfl,_,rfl,l,_,1,_,rfl,rfl,SqL.of (s2 _ _ xl),at1,v,rfl,av,by omega,λ t2 h3 v2 H3 s3 d2=>?_,λ h3 H3 s3=>q2 (by show (dE b u).bind _=none;rw[h1];show (dE b v).bind _=none;rw[h3];rfl) _ (sl.trans (s2.trans s3))⟩
   refine⟨(by show 2<=sizeLine;decide),λ p hp=>?_⟩
   have s4:=aw hp (.tup [v1,v2])
   exact q1 (t1,t2) (by show (dE b u).bind _=_;rw[h1];show (dE b v).bind _=_;rw[h3];rfl) p _ (sl.trans (s2.trans (s3.trans s4))) (Fv ai (d1.keep (s3.trans s4)) (d2.keep s4))
 ·refine pF ?_ ⟨one,q2 ?_ _ sl⟩
  ·rw[fG,List.length_map]
   simp
   omega
  ·match zs,h2 with
   | [],_=>rfl
   | [_],_=>rfl
   | [_,_],h2=>exact absurd rfl h2
   | _::_::_::_,_=>rfl
def gX:Nat->Th->Prop
 | _,.int _=>True
 | _,.str _=>True
 | d+1,.tup ts=>∀ t∈ts,gX d t
 | _,_=>False
theorem iH {H H':Hp}:∀ {ts:List Th}{xs:List V},(∀ t∈ts,∀ v,Den H t v->Den H' t v)->bu H ts xs->bu H' ts xs
 | [],_,_,h=>h
 | t::ts,xs,hk,⟨y,ys,e,d1,d2⟩=>⟨y,ys,e,hk t (List.mem_cons_self ..) _ d1,iH (λ u hu=>hk u (List.mem_cons_of_mem _ hu)) d2⟩
theorem Ca {H:Hp}{D:Addr}{zs ws:List V} (hD:H D=some (.lst zs)):∀ (d:Nat) (t:Th) (v:V),gX d t->Den H t v->Den (upd H D (.lst ws)) t v:=by
 intro d
 induction d with
 | zero =>
  intro t v f h
  cases t with
  | int i=>exact h
  | str i=>exact h
  | _=>exact f.elim
 | succ d ih =>
  intro t v f h
  cases t with
  | int i=>exact h
  | str i=>exact h
  | tup ts =>
   obtain⟨a,xs,rfl,ha,dd⟩:=h
   exact⟨a,xs,rfl,by rw[aM (ji ha hD (by intro z;cases z))];exact ha,iH (λ t ht v=>ih t v (f t ht)) dd⟩
  | _=>exact f.elim
theorem iG {H:Hp}{D:Addr}{zs ws:List V} (hD:H D=some (.lst zs)) {d:Nat}{ts:List Th}{xs:List V} (f:∀ t∈ts,gX d t) (h:bu H ts xs):bu (upd H D (.lst ws)) ts xs:=iH (λ t ht v=>Ca hD d t v (f t ht)) h
def pT (t:Th×Th):Th:=.tup [t.1,t.2]
theorem pX {b:Bool}{x:Str}{t:Th} (h:dE b x=some t):gX 1 t:=by
 unfold dE at h
 cases b with
 | false =>
  rw[if_neg Bool.false_ne_true] at h
  cases e:bI x with
  | none=>rw[e] at h;cases h
  | some n=>rw[e] at h;cases h;trivial
 | true =>
  rw[if_pos rfl] at h
  cases e:fg x with
  | none=>rw[e] at h;cases h
  | some p =>
   rw[e] at h
   cases h
   intro u hu
   rcases List.mem_cons.mp hu with rfl | hu
   ·trivial
   ·cases List.mem_singleton.mp hu;trivial
theorem mj {b:Bool}{x:Str}{t:Th×Th} (h:bL b x=some t):gX 2 (pT t):=by
 unfold bL at h
 split at h
 ·rename_i u v _
  cases e1:dE b u with
  | none=>rw[e1] at h;cases h
  | some t1 =>
   rw[e1] at h
   cases e2:dE b v with
   | none=>rw[e2] at h;cases h
   | some t2 =>
    rw[e2] at h
    cases h
    intro w hw
    rcases List.mem_cons.mp hw with rfl | hw
    ·exact pX e1
    ·cases List.mem_singleton.mp hw;exact pX e2
 ·cases h
theorem my {K:PySem.W.Frag} (t:Th):PySem.W.kitOne K (lG t) (.type "str")=some (match t with | .str _=>true | _=>false):=by cases t<;>rfl
def qt (C:CA) (frw frf:Addr):Sp:=λ vs H Q E=>∃ (v:V) (t:Th) (b:Bool),vs = [v,.ref (eOf frw frf b)]/\Den H t v/\(∀ x,t=.str x->Asc x/\x.length<=40000)/\(∀ n ps,bO b t=some (n,ps)->∀ p l zs H',aA H H'->H' p=some (.tup [.int n,.ref l])->H' l=some (.lst zs)->bu H' (ps.map pT) zs->Q (.ref p) H')/\(bO b t=none->∀ H',aA H H'->E (.ref C.NoText) none H')
theorem xi:aG ["text","read_end","parts"] ["text","read_end"] (aC xF):=aY
theorem EN (F:Fun K "read_pairs" "read_pairs" xF f fd) (T:Txt mg) (cf:CF P w K mg C) {frw:Addr}{drw:FuncData} (Grw:aS P w K mg base (CXX P w) 3 frw drw ["text"] (jf C)) (brw:bS K drw ["text"] []) (krw:PySem.W.keepIn K (.ref frw)=true) (mrw:mg "read_whole" = some (.ref frw)) {frf:Addr}{drf:FuncData} (Grf:aS P w K mg base (CXX P w) 3 frf drf ["text"] (kc C)) (brf:bS K drf ["text"] []) (krf:PySem.W.keepIn K (.ref frf)=true) (mrf:mg "read_fraction" = some (.ref frf)) (Grp:Cl P w K mg base (CXX P w) 3 "read_pair" ["text","read_end"] (C6 C frw frf)):aS P w K mg base (CXX P w) 4 f fd ["text","read_end"] (qt C frw frf):=by
 refine F.okb xi λ cdv A outer s H vs Q E hr h=>?_
 obtain⟨v,t,b,rfl,dv,hx,q1,q2⟩:=h
 have one:1<=sizeLine:=by decide
 refine⟨_,(ag (aU (bK (br (aT cU rfl T.isinstance boot_isinstance (ae (pv 0) (ae (eJ (v:=.ty "str") rfl T.str cD rfl) af))))) (ak (bc bz rfl cf.xNoText rfl (ae ah af))) aI)
  (ag (aD (i:=2) xi.nd rfl (Or.inl rfl) (fB (pv 0) ah))
  (ak (aE (aW (ae (jM Grw hr rfl mrw krw brw .nil cn (ae (aF aH (pv 2) aj (λ _ _=>rfl)) af)) (ae (io (xs:=["pair"]) (ts:=[("read_end",1)]) lO (λ _ _ h=>h) rfl ⟨rfl,uD rfl,rfl,rfl,rfl,by decide +kernel,rfl,rfl⟩ (fA (kC (aF aH (pv 2) aj (λ _ _=>rfl)) ah)) (λ C s3 H3 fp=>(aP (i:=0) (show (["pair","read_end"]:List Str).Nodup by decide +kernel) rfl (Or.inl rfl) (Or.inr rfl))) (λ C s3 H3 fp=>cN) (λ C s3 H3 fp xe hx=>(aJ Grp hr rfl hx (ae (pv 0) (ae (pv 1) af))))) af))))))),?_⟩
 refine⟨_,rfl,v,t,_,_,rfl,dv,my t,_,rfl,?_⟩
 cases t with
 | str x =>
  refine bf ?_
  cases (show v=V.str x from dv)
  obtain⟨ax,lx⟩:=hx x rfl
  obtain⟨a,m,c,ep,aa,am,ac,la,lc⟩:=jg x ": " ax (show (Str.ofString ": ").cps.all (· < 128)=true by decide +kernel)
  have er:bO b (.str x)=(bI a).bind λ n=>(fk ((Txt.split c "; ").map (bL b))).map λ ps=>(n,ps):=by
   show dO b x=_
   unfold dO
   rw[ep]
  rw[er] at q1 q2
  refine⟨_,rfl,_,rfl,_,rfl,by decide +kernel,aV (by omega),λ p hp=>?_⟩
  rw[ep]
  have s1:=aw hp (.tup ([a,m,c].map V.str))
  have xp:upd H p (.tup ([a,m,c].map V.str)) p=some (.tup [.str a,.str m,.str c]):=ai
  generalize upd H p (.tup ([a,m,c].map V.str))=H1 at *
  refine⟨_,rfl,p,_,0,_,rfl,rfl,SqT.of xp,at0,a,rfl,aa,by omega,λ n hn H2 s2=>?_,λ hn H2 s2=>q2 (by rw[hn];rfl) _ (s1.trans s2)⟩
  have x2:=s2 _ _ xp
  have s12:=s1.trans s2
  have mem:=gi (y:="; ") ac
  have cnt:=fP c "; "
  rw[hn] at q1 q2
  refine⟨_,rfl,p,_,2,_,rfl,rfl,SqT.of x2,cy (j:=2) rfl,_,rfl,_,rfl,by decide +kernel,aV (by omega),aV (by omega),λ l hl=>⟨l,rfl,⟨_,SqL.of ai⟩,?_⟩⟩
  have s3:=aw hl (.lst ((Txt.split c "; ").map V.str))
  have xl:upd H2 l (.lst ((Txt.split c "; ").map V.str)) l=some (.lst ((Txt.split c "; ").map V.str)):=ai
  generalize upd H2 l (.lst ((Txt.split c "; ").map V.str))=H3 at *
  generalize Txt.split c "; " = zs at *
  have q2':fk (zs.map (bL b))=none->∀ H',aA H H'->E (.ref C.NoText) none H':=λ h=>q2 (by show (fk (zs.map (bL b))).map _=none;rw[h];rfl)
  have q1':∀ ps,fk (zs.map (bL b))=some ps->∀ p l ws H',aA H H'->H' p=some (.tup [.int n,.ref l])->H' l=some (.lst ws)->bu H' (ps.map pT) ws->Q (.ref p) H':=λ ps h=>q1 n ps (by show (fk (zs.map (bL b))).map _=_;rw[h];rfl)
  have s13:=s12.trans s3
  intro D hD
  refine jy (λ i ws G=>∃ ps:List (Th×Th),(zs.take i).map (bL b)=ps.map some/\(∀ t∈ps,gX 2 (pT t))/\bu G (ps.map pT) ws) hD (SqL.of xl) (aV (by rw[List.length_map];omega)) ⟨([]:List (Th×Th)),rfl,λ t ht=>absurd ht (by simp),(show bu _ [] [] from rfl)⟩ ?_ ?_
  ·rintro i v ws H5 k hv sm e _ ⟨ps,m1,m2,m3⟩ hk
   obtain⟨y,hy,rfl⟩:∃ y,zs[i]? = some y/\v=.str y:=by
    rw[List.getElem?_map] at hv
    cases hq:zs[i]? with
    | none=>rw[hq] at hv;cases hv
    | some y=>rw[hq] at hv;exact⟨y,rfl,(Option.some.inj hv).symm⟩
   have hm:=List.mem_of_getElem? hy
   obtain⟨ay,ly⟩:=mem y hm
   refine⟨_,rfl,_,rfl,y,b,rfl,ay,by omega,λ t ht g H6 s6 dg=>hk _ _ s6 ⟨ps++[t],?_,λ u hu=>?_,?_⟩,λ ht H6 s6=>q2' (i8 ?_) _ (s13.trans (sm.trans s6))⟩
   ·rw[List.take_add_one,hy,List.map_append,List.map_append,m1]
    show _++[bL b y]=_
    rw[ht]
    rfl
   ·rcases List.mem_append.mp hu with hu | hu
    ·exact m2 u hu
    ·rw[List.mem_singleton.mp hu];exact mj ht
   ·refine iG (d:=2) (s6 _ _ e) (λ u hu=>?_) ?_
    ·obtain⟨w,hw,rfl⟩:=List.mem_map.mp hu
     rcases List.mem_append.mp hw with hw | hw
     ·exact m2 w hw
     ·rw[List.mem_singleton.mp hw];exact mj ht
    ·rw[List.map_append]
     exact df (m3.keep s6) dg
   ·exact List.mem_map.mpr ⟨y,hm,ht⟩
  rintro ws H5 s5 hD5 lw ⟨ps,m1,m2,m3⟩
  rw[List.length_map,List.take_of_length_le (Nat.le_refl _)] at m1
  refine⟨(by show 2<=sizeLine;decide),λ g hg=>?_⟩
  have s6:=aw hg (.tup [V.int n,V.ref D])
  exact q1' ps (by rw[m1];exact fj ps) g D ws _ (s13.trans (s5.trans s6)) ai (s6 _ _ hD5) (m3.keep s6)
 | _=>exact bj ⟨one,q2 rfl _ (aA.refl _)⟩
def pr2 (t:Th):Option (Int×Int):=match fJ t with
 | some [.int a,.int b]=>some (a,b)
 | _=>none
theorem vt {ts:List Th}{ps:List (Int×Int)}{i:Nat}{t:Th}{a:Int×Int} (h:(ts.take i).map pr2=ps.map some) (e:ts[i]? = some t) (ha:pr2 t=some a):(ts.take (i+1)).map pr2=(ps++[a]).map some:=by
 rw[List.take_add_one,e,List.map_append,List.map_append,h]
 show _++[pr2 t]=_
 rw[ha]
 rfl
theorem BJ {ts:List Th}{ps:List (Int×Int)} (h:ts.map pr2=ps.map some) {i:Nat}{t:Th} (e:ts[i]? = some t):∃ p,ps[i]? = some p/\pr2 t=some p:=by
 have h1:(ts.map pr2)[i]? = some (pr2 t):=by rw[List.getElem?_map,e];rfl
 rw[h,List.getElem?_map] at h1
 cases q:ps[i]? with
 | none=>rw[q] at h1;cases h1
 | some p=>rw[q] at h1;exact⟨p,rfl,(Option.some.inj h1).symm⟩
theorem l6:∀ {ps qs:List (Int×Int)},ps.map some=qs.map some->ps=qs
 | [],[],_=>rfl
 | [],_::_,h=>by cases h
 | _::_,[],h=>by cases h
 | p::ps,q::qs,h=>by
  rw[List.map_cons,List.map_cons] at h
  injection h with h1 h2
  injection h1 with h1
  rw[h1,l6 h2]
theorem ju {H:Hp}{l:Addr}{zs ws:List V} (hl:H l=some (.lst zs)):∀ {ts:List Th}{xs:List V},(∀ t∈ts,∃ p,t=ppT p)->bu H ts xs->bu (upd H l (.lst ws)) ts xs
 | [],_,_,h=>h
 | t::ts,xs,ht,⟨y,ys,e,d1,d2⟩=>by
  obtain⟨p,rfl⟩:=ht t (by simp)
  obtain⟨a,rfl,ha⟩:=g0 d1
  exact⟨.ref a,ys,e,gH (by rw[aM (ji ha hl (by intro z;cases z))];exact ha),ju hl (λ t' h'=>ht t' (by simp [h'])) d2⟩
def InB (t:Int) (p:Int×Int):Prop:=-1<=p.1/\p.1<p.2/\p.2<=t+1
def wQ (C:CA):Sp:=λ vs H Q E=>∃ (x:V) (t:Th) (N:Int),vs = [x,.int N]/\Den H t x/\(∀ a,pr2 t=some a->InB N a->∀ p H',aA H H'->H' p=some (.tup [.int a.1,.int a.2])->Q (.ref p) H') /\
 ((∀ a,pr2 t=some a->¬ InB N a)->∀ H',aA H H'->E (.ref C.NoPlan) none H')
theorem qC:aG ["thing","t","low","high"] ["thing","t"] (aC xU):=aY
theorem E5 (F:Fun K "bound_of" "bound_of" xU f fd) (T:Txt mg) (cf:CF P w K mg C) (Growof:Cl P w K mg base CX0 3 "is_row_of" ["thing","count"] kb) (Gwhole:Cl P w K mg base CX0 3 "is_whole" ["thing"] gj):aS P w K mg base (CXX P w) 4 f fd ["thing","t"] (wQ C):=by
 refine F.okb qC λ cdv A outer s H vs Q E hr h=>?_
 obtain⟨x,t,N,rfl,d,q1,q2⟩:=h
 refine⟨_,(ag (aU (bK (br (aJ Growof hr rfl aN (ae (pv 0) (ae aj af))))) (ak (bc bz rfl cf.xNoPlan rfl (ae ah af))) aI)
  (ag (aD (i:=2) qC.nd rfl (Or.inl rfl) (aF nQ (pv 0) aj (λ _ _=>rfl)))
  (ag (aD (i:=3) qC.nd rfl (Or.inl rfl) (aF nQ (pv 0) aj (λ _ _=>rfl)))
  (ag (aU (PW.pt (cL (bK (br (aJ Gwhole hr rfl aN (ae (pv 2) af)))) (cB (bK (br (aJ Gwhole hr rfl aN (ae (pv 3) af))))))) (ak (bc bz rfl cf.xNoPlan rfl (ae ah af))) aI)
  (ag (aU (bK (uO mm eZ mm (pi jX aj) (pv 2) (pv 3) (ar bM (pv 1) aj))) (ak (bc bz rfl cf.xNoPlan rfl (ae ah af))) aI)
  (ak (aE (aW (ae (pv 2) (ae (pv 3) af)))))))))),?_⟩
 refine⟨_,rfl,x,2,t,rfl,d,λ H1 s1=>⟨_,rfl,?_⟩⟩
 cases hr2:jB t 2 with
 | false =>
  refine bj ⟨(by show 1<=sizeLine;decide),q2 (λ a ha=>?_) _ s1⟩
  exfalso
  unfold pr2 at ha
  unfold jB at hr2
  split at ha
  ·rename_i e
   rw[e] at hr2
   exact absurd hr2 (by simp)
  ·cases ha
 | true =>
  obtain⟨t0,t1,e2⟩:=tK hr2
  obtain⟨a,xs,rfl,sq,dd⟩:=jI e2 d
  obtain⟨y,ys,rfl,d0,z,zs,rfl,d1,e5⟩:=dd
  have e5':zs = []:=e5
  subst e5'
  refine bf ?_
  have sq1:=sq.keep s1
  refine⟨_,rfl,sq1.ix at0 ?_⟩
  refine⟨_,rfl,sq1.ix at1 ?_⟩
  refine⟨_,rfl,y,t0,rfl,d0.keep s1,_,rfl,?_⟩
  cases h0:isW t0 with
  | false =>
   refine bj (bj ⟨(by show 1<=sizeLine;decide),q2 (λ a ha=>?_) _ s1⟩)
   exfalso
   unfold pr2 at ha
   rw[e2] at ha
   split at ha
   ·rename_i e
    cases e
    cases h0
   ·cases ha
  | true =>
   refine bf ⟨_,rfl,z,t1,rfl,d1.keep s1,_,rfl,?_⟩
   cases h1:isW t1 with
   | false =>
    refine bj ⟨(by show 1<=sizeLine;decide),q2 (λ a ha=>?_) _ s1⟩
    exfalso
    unfold pr2 at ha
    rw[e2] at ha
    split at ha
    ·rename_i e
     cases e
     cases h1
    ·cases ha
   | true =>
    obtain⟨i,rfl⟩:=cI h0
    obtain⟨j,rfl⟩:=cI h1
    have d0':y=V.int i:=d0
    have d1':z=V.int j:=d1
    subst d0' d1'
    have ep:pr2 t=some (i,j):=by unfold pr2;rw[e2]
    have bad:¬ InB N (i,j)->∀ H',aA H H'->E (.ref C.NoPlan) none H':=λ hb=>q2 λ a ha=>by rw[ep] at ha;cases ha;exact hb
    refine bf ?_
    refine⟨_,rfl,_,rfl,_,_,rfl,rfl,_,rfl,?_⟩
    refine c7 (λ c0=>?_) (λ c0=>bj ⟨(by show 1<=sizeLine;decide),bad (λ hb=>ofD c0 hb.1) _ s1⟩)
    refine⟨_,rfl,_,_,rfl,rfl,_,rfl,?_⟩
    refine c7 (λ c1=>?_) (λ c1=>bj ⟨(by show 1<=sizeLine;decide),bad (λ hb=>ofD c1 hb.2.1) _ s1⟩)
    refine⟨_,rfl,_,_,rfl,rfl,_,_,rfl,rfl,_,rfl,?_⟩
    refine c7 (λ c2=>⟨(by show 1<=sizeLine;decide),bad (λ hb=>?_) _ s1⟩) (λ c2=>?_)
    ·exact absurd (show j<=N+1 from hb.2.2) (by simpa using c2)
    ·have hN:j<=N+1:=by simpa using c2
     exact⟨_,rfl,_,rfl,(by show 2<=sizeLine;decide),λ b hb=>q1 (i,j) ep ⟨of_decide_eq_true c0,of_decide_eq_true c1,hN⟩ b _ (s1.trans (aw hb _)) ai⟩
structure gL (A S:Th) (n:Nat) (bs:List (Int×Int)):Prop where
 a:A=.int n
 seq:∃ ts,fJ S=some ts/\ts.map pr2=bs.map some
 n1:1<=n
 n12:n<=12
 len:bs.length=n
 inn:∀ (i:Nat) (p:Int×Int),bs[i]? = some p->InB ((i:Int)+1) p
 last:∀ p,bs[n-1]? = some p->p.2=p.1+1
def gD (n:Nat) (bs:List (Int×Int)):Th:=.tup [.int n,.tup (bs.map ppT)]
theorem CI {xs:List V}{v:V} (h:xs[xs.length-1]? = some v):atI xs (-1)=some v:=by
 have hl:=(List.getElem?_eq_some_iff.mp h).1
 have e:xs=xs.take (xs.length-1)++[v]:=by
  have e1:=List.take_append_drop (xs.length-1) xs
  rw[List.drop_eq_getElem_cons (by omega),List.drop_of_length_le (by omega)] at e1
  rw[(List.getElem?_eq_some_iff.mp h).2] at e1
  exact e1.symm
 rw[e]
 exact zY _ v
def C7 (C:CA):Sp:=λ vs H Q E=>∃ (x z:V) (A S:Th),vs = [x,z]/\Den H A x/\Den H S z/\(∀ n bs,gL A S n bs->∀ p H',aA H H'->Den H' (gD n bs) (.ref p)->Q (.ref p) H') /\
 ((∀ n bs,¬ gL A S n bs)->∀ H',aA H H'->E (.ref C.NoPlan) none H')
theorem tE:aG ["n","bounds","kept"] ["n","bounds"] (aC qM):=aY
theorem Bd (F:Fun K "plan_of" "plan_of" qM f fd) (T:Txt mg) (cf:CF P w K mg C) (Gwhole:Cl P w K mg base CX0 4 "is_whole" ["thing"] gj) (Growof:Cl P w K mg base CX0 4 "is_row_of" ["thing","count"] kb) (Gbnd:Cl P w K mg base (CXX P w) 4 "bound_of" ["thing","t"] (wQ C)):aS P w K mg base (CXX P w) 5 f fd ["n","bounds"] (C7 C):=by
 refine F.okb tE λ cdv A outer s H vs Q E hr h=>?_
 obtain⟨x,z,A',S',rfl,dA,dS,q1,q2⟩:=h
 refine⟨_,(ag (aU (PW.pt (cL (bK (br (aJ Gwhole hr rfl aN (ae (pv 0) af)))) (cL (aK eZ (pv 0) aj (aO _)) (cB (aK gE (pv 0) aj (aO _)))))) (ak (bc bz rfl cf.xNoPlan rfl (ae ah af))) aI)
  (ag (aU (bK (br (aJ Growof hr rfl aN (ae (pv 1) (ae (pv 0) af))))) (ak (bc bz rfl cf.xNoPlan rfl (ae ah af))) aI)
  (ag (aD (i:=2) tE.nd rfl (Or.inl rfl) (bT eT rfl T.tuple boot_tuple (ae (io (xs:=["t","bound"]) (ts:=[]) lO (λ _ _ h=>h) rfl ⟨rfl,oN,rfl,rfl,rfl,by decide +kernel,rfl,rfl⟩ (yj rfl T.enumerate (ae (pv 1) af) aj) (λ C s3 H3 fp=>(eG (n:=2) rfl (aR (aP (i:=0) (show (["t","bound"]:List Str).Nodup by decide +kernel) rfl (Or.inl rfl) (Or.inr rfl)) (aR (aP (i:=1) (show (["t","bound"]:List Str).Nodup by decide +kernel) rfl (Or.inl rfl) (Or.inr rfl)) b5)))) (λ C s3 H3 fp=>cN) (λ C s3 H3 fp xe hx=>(aJ Gbnd hr rfl hx (ae (pv 1) (ae (pv 0) af))))) af)))
  (ag (aU (aK eY (aF aH (aF aH (pv 2) (pi jX aj) (λ _ _=>rfl)) aj (λ _ _=>rfl)) (ar bM (aF aH (aF aH (pv 2) (pi jX aj) (λ _ _=>rfl)) aj (λ _ _=>rfl)) aj) (aO _)) (ak (bc bz rfl cf.xNoPlan rfl (ae ah af))) aI)
  (ak (aE (aW (ae (pv 0) (ae (pv 2) af))))))))),?_⟩
 have one:1<=sizeLine:=by decide
 refine⟨_,rfl,x,A',rfl,dA,_,rfl,?_⟩
 cases hA:isW A' with
 | false=>exact bj (bj ⟨one,q2 (λ n ps g=>by rw[g.a] at hA;cases hA) _ (aA.refl H)⟩)
 | true =>
 obtain⟨N,rfl⟩:=cI hA
 cases (show x=V.int N from dA)
 have gn:∀ {n ps},gL (.int N) S' n ps->N=(n:Int):=λ g=>by
  have e:=g.a
  injection e
 refine bf ⟨_,rfl,_,_,rfl,rfl,_,rfl,?_⟩
 refine c7 (λ c=>bj ⟨one,q2 (λ n ps g=>?_) _ (aA.refl H)⟩) (λ c1=>?_)
 ·have:=gn g
  have:=of_decide_eq_true c
  have:=g.n1
  omega
 refine⟨_,rfl,_,_,rfl,rfl,_,rfl,?_⟩
 refine c7 (λ c=>⟨one,q2 (λ n ps g=>?_) _ (aA.refl H)⟩) (λ c2=>?_)
 ·have:=gn g
  have:=of_decide_eq_true c
  have:=g.n12
  omega
 have k1:¬ N<1:=ofD c1
 have k2:¬ (12:Int)<N:=ofD c2
 refine⟨_,rfl,_,rfl,z,N,S',rfl,dS,λ H1 s1=>⟨_,rfl,?_⟩⟩
 cases hR:jB S' N with
 | false =>
  refine bj ⟨one,q2 (λ n ps g=>?_) _ s1⟩
  have e0:=gn g
  obtain⟨ts,e1,e2⟩:=g.seq
  have l1:ts.length=ps.length:=by simpa using congrArg List.length e2
  have l2:=g.len
  unfold jB at hR
  rw[e1] at hR
  exact absurd hR (by simp;omega)
 | true =>
 refine bf ?_
 obtain⟨ts,es,lt⟩:=nA hR
 obtain⟨a,xs,rfl,sq,dd⟩:=jI es dS
 have lx:=dd.len
 have dd1:=dd.keep s1
 obtain⟨b,sqb⟩:∃ b,SqB b K H1 a xs:=by
  rcases sq.keep s1 with h | h
  ·exact⟨false,SqL.of h⟩
  ·exact⟨true,SqT.of h⟩
 refine⟨_,rfl,a,b,rfl,rfl,⟨xs,sqb⟩,λ D hD=>?_⟩
 refine p9 (λ i ws H2=>∃ ps:List (Int×Int),(ts.take i).map pr2=ps.map some/\(∀ (j:Nat) (p:Int×Int),ps[j]? = some p->InB ((j:Int)+1) p)/\bu H2 (ps.map ppT) ws) hD sqb (Nat.le_of_lt (vv (by omega))) ⟨[],rfl,(λ j p hp=>absurd hp (by simp)),rfl⟩ ?_ ?_
 ·rintro i v ws H2 k hv sm e hl ⟨ps,m1,m2,m3⟩ hk U hU
  have hi:=(List.getElem?_eq_some_iff.mp hv).1
  have et:=List.getElem?_eq_getElem (show i<ts.length by omega)
  have sU:=aw hU (.tup [.int ((i:Int)+1),v])
  have lps:ps.length=i:=by
   have:=congrArg List.length m1
   simp at this
   omega
  obtain⟨v',f1,f2⟩:=(dd1.keep (sm.trans sU)).get et
  rw[hv] at f1
  cases f1
  refine⟨_,rfl,_,rfl,v,_,(i:Int)+1,rfl,f2,λ b hb hin p H3 s3 hp=>hk _ _ (sU.trans s3) ⟨ps++[b],vt m1 et hb,λ j p' hp'=>?_,?_⟩,λ hbad H3 s3=>q2 (λ n ps' g=>?_) _ (((s1.trans sm).trans sU).trans s3)⟩
  ·by_cases hj:j<ps.length
   ·rw[List.getElem?_append_left hj] at hp'
    exact m2 j p' hp'
   ·rw[List.getElem?_append_right (by omega)] at hp'
    have hj0:j-ps.length=0:=by
     have:=(List.getElem?_eq_some_iff.mp hp').1
     simp at this
     omega
    rw[hj0] at hp'
    cases hp'
    have:j=i:=by omega
    rw[this]
    exact hin
  ·rw[List.map_append]
   have hD3:=s3 _ _ (sU _ _ e)
   exact ju hD3 (λ p' hp'=>by
    rcases List.mem_append.mp hp' with y | y
    ·obtain⟨q,_,rfl⟩:=List.mem_map.mp y;exact⟨q,rfl⟩
    ·exact⟨b,List.mem_singleton.mp y⟩) (df (m3.keep (sU.trans s3)) (show Den H3 (ppT b) (.ref p) from gH hp))
  ·obtain⟨ts',e1,e2⟩:=g.seq
   rw[es] at e1
   cases e1
   obtain⟨p,y1,y2⟩:=BJ e2 et
   exact hbad p y2 (g.inn i p y1)
 rintro ws H2 s2 hD2 hlw ⟨ps,m1,m2,m3⟩
 rw[List.take_of_length_le (by omega)] at m1
 have lp:ts.length=ps.length:=by simpa using congrArg List.length m1
 refine⟨D,ws,rfl,.inl ⟨SqL.of hD2,λ t ht=>?_⟩⟩
 have s3:=aw ht (.tup ws)
 have r3:=m3.keep s3
 have t3:(upd H2 t (.tup ws)) t=some (.tup ws):=ai
 have s13:=(s1.trans s2).trans s3
 generalize hH3:upd H2 t (.tup ws)=H3 at *
 have ep:=List.getElem?_eq_getElem (show ps.length-1<ps.length by omega)
 obtain⟨wl,f1,f2⟩:=r3.get (i:=ps.length-1) (t:=ppT (ps[ps.length-1]'(by omega))) (by rw[List.getElem?_map,ep];rfl)
 obtain⟨c,rfl,hc⟩:=g0 f2
 have al:atI ws (-1)=some (V.ref c):=CI (by rw[show ws.length-1=ps.length-1 by omega];exact f1)
 have pin:∀ {n ps'},gL (.int N) S' n ps'->ps'=ps:=λ g=>by
  obtain⟨ts',e1,e2⟩:=g.seq
  rw[es] at e1
  cases e1
  exact l6 (e2.symm.trans m1)
 refine⟨_,rfl,_,rfl,t,ws,_,_,rfl,rfl,SqT.of t3,al,c,_,1,_,rfl,rfl,SqT.of hc,at1,_,rfl,_,rfl,t,ws,_,_,rfl,rfl,SqT.of t3,al,c,_,0,_,rfl,rfl,SqT.of hc,at0,_,_,rfl,rfl,rfl,_,rfl,?_⟩
 refine c7 (λ c=>⟨one,q2 (λ n ps' g=>?_) _ s13⟩) (λ c0=>?_)
 ·have e:=pin g
  subst e
  have hl:=g.last _ (by rw[<-g.len];exact ep)
  rw[hl] at c
  simp at c
 ·obtain⟨n,rfl⟩:∃ n:Nat,N=(n:Int):=⟨N.toNat,by omega⟩
  refine⟨_,rfl,_,rfl,(by show 2<=sizeLine;decide),λ x hx=>?_⟩
  have s5:=aw hx (.tup [V.int n,V.ref t])
  have gd:gL (.int n) S' n ps:=⟨rfl,⟨ts,es,m1⟩,by omega,by omega,by omega,m2,λ p hp=>by
   rw[show n-1=ps.length-1 by omega,ep] at hp
   cases hp
   simpa using c0⟩
  exact q1 n ps gd x _ (s13.trans s5) ⟨x,_,rfl,ai,_,_,rfl,rfl,_,_,rfl,⟨t,ws,rfl,s5 _ _ t3,r3.keep s5⟩,rfl⟩
theorem ti {i:Int} (h:i.natAbs<10^60):Smk i:=Nat.lt_of_lt_of_le h (Nat.le_trans (show (10:Nat)^60<=2^200 by decide +kernel) (Nat.pow_le_pow_right (by decide) (by decide)))
theorem rh {t:Th}{n:Int}{ps:List (Th×Th)} (h:bO true t=some (n,ps)):∀ ts,fJ (.lst (ps.map pT))=some ts->∀ u∈ts,∀ s,st2 u=some s->Sm2 s.1/\Sm2 s.2:=by
 intro ts e u hu s hs
 cases e
 obtain⟨p,hp,rfl⟩:=List.mem_map.mp hu
 obtain⟨x,hx⟩:=yd h p hp
 obtain⟨y,z,e1,e2⟩:=uY hx
 obtain⟨a,ea,fa⟩:=pW e1
 obtain⟨b,eb,fb⟩:=pW e2
 obtain⟨p1,p2⟩:=p
 dsimp only at ea eb
 subst ea eb
 have ha:=ui fa
 have hb:=ui fb
 have key:s=(a,b):=by
  have hs':st2 (.tup [ppT a,ppT b])=some s:=hs
  unfold st2 fJ at hs'
  dsimp only at hs'
  have s1:∀ p q,jA (ppT p)=some q->q=p:=λ p q h=>by
   unfold jA at h
   split at h
   ·cases h;rfl
   ·cases h
  cases c1:jA (ppT a) with
  | none=>rw[c1] at hs';cases hs'
  | some a' =>
   rw[c1] at hs'
   cases c2:jA (ppT b) with
   | none=>rw[c2] at hs';cases hs'
   | some b' =>
    rw[c2] at hs'
    cases hs'
    rw[s1 _ _ c1,s1 _ _ c2]
 subst key
 exact⟨⟨ti ha.1,ti ha.2⟩,⟨ti hb.1,ti hb.2⟩⟩
def okT (t:Th):Prop:=∀ x,t=.str x->Asc x/\x.length<=40000
def wD (C:CA):Sp:=λ vs H Q E=>∃ (v:V) (t:Th),vs = [v]/\Den H t v/\okT t/\(∀ n ps,bO true t=some (n,ps)->(∀ m qs,gK (.int n) (.lst (ps.map pT)) m qs->∀ p H',aA H H'->Den H' (ruT m qs) (.ref p)->Q (.ref p) H')/\((∀ m qs,¬ gK (.int n) (.lst (ps.map pT)) m qs)->∀ H',aA H H'->E (.ref C.NoRule) none H'))/\(bO true t=none->∀ H',aA H H'->E (.ref C.NoText) none H')
theorem Dn:aG ["text","written"] ["text"] (aC Ee):=aY
theorem Gv (F:Fun K "read_rule" "read_rule" Ee f fd) (T:Txt mg) (cf:CF P w K mg C) {frw:Addr}{drw:FuncData} (Grw:aS P w K mg base (CXX P w) 7 frw drw ["text"] (jf C)) (brw:bS K drw ["text"] []) (krw:PySem.W.keepIn K (.ref frw)=true) (mrw:mg "read_whole" = some (.ref frw)) {frf:Addr}{drf:FuncData} (Grf:aS P w K mg base (CXX P w) 7 frf drf ["text"] (kc C)) (brf:bS K drf ["text"] []) (krf:PySem.W.keepIn K (.ref frf)=true) (mrf:mg "read_fraction" = some (.ref frf)) (Grps:Cl P w K mg base (CXX P w) 7 "read_pairs" ["text","read_end"] (qt C frw frf)) (Gruleof:Cl P w K mg base (CXX P w) 7 "rule_of" ["n","stretches"] (C5 C)):aS P w K mg base (CXX P w) 8 f fd ["text"] (wD C):=by
 refine F.okb Dn λ cdv A outer s H vs Q E hr h=>?_
 obtain⟨v,t,rfl,dv,ok,q1,q2⟩:=h
 refine⟨_,(ag (aD (i:=1) Dn.nd rfl (Or.inl rfl) (aJ Grps hr rfl cn (ae (pv 0) (ae (bV (v:=.ref frf) rfl mrf rfl) af))))
  (ak (aE (aJ Gruleof hr rfl cn (ae (aF aH (pv 1) aj (λ _ _=>rfl)) (ae (aF aH (pv 1) aj (λ _ _=>rfl)) af)))))),?_⟩
 refine⟨_,rfl,v,t,true,rfl,dv,ok,λ n ps hn p l zs H1 s1 hp hl dz=>?_,λ hn H1 s1=>q2 hn _ s1⟩
 obtain⟨g1,g2⟩:=q1 n ps hn
 refine⟨_,rfl,p,_,0,_,rfl,rfl,SqT.of hp,at0,_,rfl,p,_,1,_,rfl,rfl,SqT.of hp,at1,_,_,.int n,.lst (ps.map pT),rfl,rfl,⟨l,_,rfl,hl,dz⟩,rh hn,λ m qs g r H2 s2 dr=>g1 m qs g r H2 (s1.trans s2) dr,λ hb H2 s2=>g2 hb H2 (s1.trans s2)⟩
def wF (C:CA):Sp:=λ vs H Q E=>∃ (v:V) (t:Th),vs = [v]/\Den H t v/\okT t/\(∀ n ps,bO false t=some (n,ps)->(∀ m bs,gL (.int n) (.lst (ps.map pT)) m bs->∀ p H',aA H H'->Den H' (gD m bs) (.ref p)->Q (.ref p) H')/\((∀ m bs,¬ gL (.int n) (.lst (ps.map pT)) m bs)->∀ H',aA H H'->E (.ref C.NoPlan) none H'))/\(bO false t=none->∀ H',aA H H'->E (.ref C.NoText) none H')
theorem Dp:aG ["text","written"] ["text"] (aC Eh):=aY
theorem Gy (F:Fun K "read_bounds" "read_bounds" Eh f fd) (T:Txt mg) (cf:CF P w K mg C) {frw:Addr}{drw:FuncData} (Grw:aS P w K mg base (CXX P w) 7 frw drw ["text"] (jf C)) (brw:bS K drw ["text"] []) (krw:PySem.W.keepIn K (.ref frw)=true) (mrw:mg "read_whole" = some (.ref frw)) {frf:Addr}{drf:FuncData} (Grf:aS P w K mg base (CXX P w) 7 frf drf ["text"] (kc C)) (brf:bS K drf ["text"] []) (krf:PySem.W.keepIn K (.ref frf)=true) (mrf:mg "read_fraction" = some (.ref frf)) (Grps:Cl P w K mg base (CXX P w) 7 "read_pairs" ["text","read_end"] (qt C frw frf)) (Gplan:Cl P w K mg base (CXX P w) 7 "plan_of" ["n","bounds"] (C7 C)):aS P w K mg base (CXX P w) 8 f fd ["text"] (wF C):=by
 refine F.okb Dp λ cdv A outer s H vs Q E hr h=>?_
 obtain⟨v,t,rfl,dv,ok,q1,q2⟩:=h
 refine⟨_,(ag (aD (i:=1) Dp.nd rfl (Or.inl rfl) (aJ Grps hr rfl cn (ae (pv 0) (ae (bV (v:=.ref frw) rfl mrw rfl) af))))
  (ak (aE (aJ Gplan hr rfl cn (ae (aF aH (pv 1) aj (λ _ _=>rfl)) (ae (aF aH (pv 1) aj (λ _ _=>rfl)) af)))))),?_⟩
 refine⟨_,rfl,v,t,false,rfl,dv,ok,λ n ps hn p l zs H1 s1 hp hl dz=>?_,λ hn H1 s1=>q2 hn _ s1⟩
 obtain⟨g1,g2⟩:=q1 n ps hn
 refine⟨_,rfl,p,_,0,_,rfl,rfl,SqT.of hp,at0,_,rfl,p,_,1,_,rfl,rfl,SqT.of hp,at1,_,_,.int n,.lst (ps.map pT),rfl,rfl,⟨l,_,rfl,hl,dz⟩,λ m qs g r H2 s2 dr=>g1 m qs g r H2 (s1.trans s2) dr,λ hb H2 s2=>g2 hb H2 (s1.trans s2)⟩
noncomputable def gF (c:Nat):Bool:=Txt.contains "abcdefghijklmnopqrstuvwxyz" ⟨#[c]⟩
def dB (x:Str):Bool:=decide (1<=x.length) && (decide (x.length<=8) && x.cps.toList.all gF)
def Dg:Sp:=λ vs H Q _=>∃ x:Str,vs = [.str x]/\Asc x/\x.length<=50000/\∀ H',aA H H'->Q (.bl (dB x)) H'
theorem D9:aG ["word"] ["word"] (aC xQ):=aY
theorem E1 (F:Fun K "is_name" "is_name" xQ f fd) (T:Txt mg):aS P w K mg base CX0 1 f fd ["word"] Dg:=by
 refine F.oka D9 λ cdv A outer s H vs Q E hr h=>?_
 obtain⟨x,rfl,ax,lx,q⟩:=h
 refine⟨_,(ak (aE (fR (pk mm mm aj (aT dP rfl T.len boot_len (ae (pv 0) af)) aj) (kD (aT (qc rfl) rfl T.all boot_all (ae (eX (ts:=[]) rfl ⟨rfl,oN,rfl,rfl,rfl,rfl,by decide +kernel,rfl,rfl⟩ (yi (pv 0)) (λ C s3 H3 fp=>(eI yw (pv 0) (pj rfl T.LETTERS) (by with_unfolding_all rfl)))) af)))))),?_⟩
 refine⟨_,rfl,_,rfl,aV (by omega),_,_,rfl,rfl,_,rfl,?_⟩
 by_cases c1:1<=x.length
 ·rw[decide_eq_true (show (1:Int)<=((x.length:Nat):Int) by omega)]
  refine bj ⟨_,_,rfl,rfl,_,rfl,?_⟩
  by_cases c2:x.length<=8
  ·rw[decide_eq_true (show ((x.length:Nat):Int)<=8 by omega)]
   refine bj ⟨_,rfl,x,rfl,ax,λ D hD=>mD gF hD (aV (by have:x.cps.size=x.length:=rfl;omega)) (λ j c H2 k hc s2 hk=>⟨_,rfl,_,_,rfl,rfl,hk _ (aA.refl _)⟩) λ H2 s2 hD2=>?_⟩
   refine⟨D,_,rfl,SqL.of hD2,?_⟩
   have ea:(x.cps.toList.map gF).all id=x.cps.toList.all gF:=by rw[List.all_map];rfl
   rw[ea]
   have e:=q H2 s2
   unfold dB at e
   rw[decide_eq_true c1,decide_eq_true c2,Bool.true_and,Bool.true_and] at e
   exact e
  ·rw[decide_eq_false (show ¬ ((x.length:Nat):Int)<=8 by omega)]
   have e:=q H (aA.refl H)
   unfold dB at e
   rw[decide_eq_true c1,decide_eq_false c2,Bool.true_and,Bool.false_and] at e
   exact bf e
 ·rw[decide_eq_false (show ¬ (1:Int)<=((x.length:Nat):Int) by omega)]
  have e:=q H (aA.refl H)
  unfold dB at e
  rw[decide_eq_false c1,Bool.false_and] at e
  exact bf ⟨_,rfl,bf e⟩
theorem eqS (a b:Str):eqV (.str a) (.str b)=decide (a=b):=by
 show (a == b)=_
 by_cases c:a=b
 ·rw[decide_eq_true c,c];exact beq_self_eq_true _
 ·rw[decide_eq_false c];exact beq_eq_false_iff_ne.mpr c
def VF (C:CA) (H:Hp) (o:Option Th) (Q:VK) (E:XK):Prop:=(∀ t,o=some t->∀ v H',aA H H'->Den H' t v->Q v H')/\(o=none->∀ H',aA H H'->E (.ref C.NoRow) none H')
noncomputable def sL (x:Str):Option Th:=if x = "low"∨x = "high" then some (.str x) else none
def CW (C:CA):Sp:=λ vs H Q E=>∃ x:Str,vs = [.str x]/\VF C H (sL x) Q E
theorem D0:aG ["word"] ["word"] (aC xr):=aY
theorem EB (F:Fun K "word_in" "word_in" xr f fd) (T:Txt mg) (cf:CF P w K mg C):aS P w K mg base (CXX P w) 1 f fd ["word"] (CW C):=by
 refine F.okb D0 λ cdv A outer s H vs Q E hr h=>?_
 obtain⟨x,rfl,q1,q2⟩:=h
 refine⟨_,(ag (aU (aK iq (pv 0) (aW (ae ah (ae ah af))) (by with_unfolding_all rfl)) (ak (bc bz rfl cf.xNoRow rfl (ae ah af))) aI)
  (ak (aE (pv 0)))),?_⟩
 have one:1<=sizeLine:=by decide
 refine⟨_,rfl,(by show 2<=sizeLine;decide),λ p hp=>?_⟩
 have s1:=aw hp (.tup [V.str "low",V.str "high"])
 refine⟨p,_,rfl,.inr (SqT.of ai),rfl,rfl,_,rfl,?_⟩
 have ei:inV (.str x) [V.str "low",V.str "high"]=decide (x = "low"∨x = "high"):=by
  show (eqV (.str "low") (.str x) || (eqV (.str "high") (.str x) || false))=_
  rw[eqS,eqS,Bool.or_false]
  by_cases c1:x = "low"<;>by_cases c2:x = "high"<;>simp [c1,c2,eq_comm]
 dsimp only
 rw[if_pos rfl,ei]
 unfold sL at q1 q2
 by_cases c:x = "low"∨x = "high"
 ·rw[if_pos c] at q1
  rw[decide_eq_true c]
  exact bf ⟨_,rfl,q1 _ rfl _ _ s1 rfl⟩
 ·rw[if_neg c] at q2
  rw[decide_eq_false c]
  exact bj ⟨one,q2 rfl _ s1⟩
def u9 (x:Str) (m:Int):Option Th:=match bI x with
 | some n=>if n<1∨m<n then none else some (.int n)
 | none=>none
def Dc (C:CA):Sp:=λ vs H Q E=>∃ (x:Str) (m:Int),vs = [.str x,.int m]/\Asc x/\x.length<=50000/\VF C H (u9 x m) Q E
theorem xm:aG ["word","most","number"] ["word","most"] (aC xM):=aY
theorem EV (F:Fun K "number_in" "number_in" xM f fd) (T:Txt mg) (cf:CF P w K mg C) {frw:Addr}{drw:FuncData} (Grw:aS P w K mg base (CXD P w) 2 frw drw ["text"] (jf C)) (brw:bS K drw ["text"] []) (krw:PySem.W.keepIn K (.ref frw)=true) (mrw:mg "read_whole" = some (.ref frw)):aS P w K mg base (CXX P w) 3 f fd ["word","most"] (Dc C):=by
 refine F.okb xm λ cdv A outer s H vs Q E hr h=>?_
 obtain⟨x,m,rfl,ax,lx,q1,q2⟩:=h
 refine⟨_,(ag (tQ lO (λ _ _ h=>h) rfl cf.mNoText cf.cNoText rfl cf.xNoRow cf.kpNoRow (λ xe pn E hp=>(ak (aD (i:=2) xm.nd rfl (Or.inl rfl) (pp Grw hr rfl mrw krw brw .nil hp (ae (pv 0) af))))))
  (ag (aU (PW.pt (cL (aK eZ (pv 2) aj (aO _)) (cB (aK gE (pv 2) (pv 1) (aO _))))) (ak (bc bz rfl cf.xNoRow rfl (ae ah af))) aI)
  (ak (aE (pv 2))))),?_⟩
 have one:1<=sizeLine:=by decide
 unfold u9 at q1 q2
 refine⟨_,rfl,x,rfl,ax,by omega,λ n hn H1 s1=>?_,λ hn H1 s1=>⟨cf.subNTT,?_⟩⟩
 ·rw[hn] at q1 q2
  refine⟨_,rfl,_,_,rfl,rfl,_,rfl,?_⟩
  by_cases c1:n<1
  ·rw[decide_eq_true c1]
   exact bj ⟨one,q2 (if_pos (.inl c1)) _ s1⟩
  rw[decide_eq_false c1]
  refine bf ⟨_,rfl,_,rfl,_,_,rfl,rfl,_,rfl,?_⟩
  by_cases c2:m<n
  ·rw[decide_eq_true c2]
   exact bj ⟨one,q2 (if_pos (.inr c2)) _ s1⟩
  rw[decide_eq_false c2]
  exact bf ⟨_,rfl,q1 _ (if_neg (by omega)) _ _ s1 rfl⟩
 ·rw[hn] at q2
  exact q2 rfl _ s1
def mY (x:Str):Option (Int×Int):=match fg x with
 | some p=>if eN (.tup [.int p.1,.int p.2])=true then some p else none
 | none=>none
def C0 (C:CA):Sp:=λ vs H Q E=>∃ x:Str,vs = [.str x]/\Asc x/\x.length<=50000/\(∀ p,mY x=some p->∀ a H',aA H H'->H' a=some (.tup [.int p.1,.int p.2])->Q (.ref a) H')/\(mY x=none->∀ H',aA H H'->E (.ref C.NoRow) none H')
theorem xg:aG ["word","share"] ["word"] (aC xz):=aY
theorem EH (F:Fun K "share_in" "share_in" xz f fd) (T:Txt mg) (cf:CF P w K mg C) {frf:Addr}{drf:FuncData} (Grf:aS P w K mg base (CXD P w) 3 frf drf ["text"] (kc C)) (brf:bS K drf ["text"] []) (krf:PySem.W.keepIn K (.ref frf)=true) (mrf:mg "read_fraction" = some (.ref frf)) (Gshare:Cl P w K mg base CX0 3 "is_share" ["thing"] mU):aS P w K mg base (CXX P w) 4 f fd ["word"] (C0 C):=by
 refine F.okb xg λ cdv A outer s H vs Q E hr h=>?_
 obtain⟨x,rfl,ax,lx,q1,q2⟩:=h
 refine⟨_,(ag (tQ lO (λ _ _ h=>h) rfl cf.mNoText cf.cNoText rfl cf.xNoRow cf.kpNoRow (λ xe pn E hp=>(ak (aD (i:=1) xg.nd rfl (Or.inl rfl) (pp Grf hr rfl mrf krf brf .nil hp (ae (pv 0) af))))))
  (ag (aU (bK (br (aJ Gshare hr rfl aN (ae (pv 1) af)))) (ak (bc bz rfl cf.xNoRow rfl (ae ah af))) aI)
  (ak (aE (pv 1))))),?_⟩
 have one:1<=sizeLine:=by decide
 unfold mY at q1 q2
 refine⟨_,rfl,x,rfl,ax,by omega,λ p hn a H1 s1 ha=>?_,λ hn H1 s1=>⟨cf.subNTT,?_⟩⟩
 ·rw[hn] at q1 q2
  have d:Den H1 (.tup [.int p.1,.int p.2]) (.ref a):=gH ha
  refine⟨_,rfl,_,_,rfl,d,?_⟩
  dsimp only at q1 q2
  cases c:eN (.tup [.int p.1,.int p.2]) with
  | true =>
   rw[c,if_pos rfl] at q1
   exact⟨_,rfl,bf ⟨_,rfl,q1 _ rfl _ _ s1 ha⟩⟩
  | false =>
   rw[c,if_neg Bool.false_ne_true] at q2
   exact⟨_,rfl,bj ⟨one,q2 rfl _ s1⟩⟩
 ·rw[hn] at q2
  exact q2 rfl _ s1
noncomputable def lF (k x:Str):Option Th:=if k = "text" then some (.str x) else if k = "word" then sL x else if k = "trials" then u9 x 12 else if k = "measure" then u9 x 60 else match mY x with
 | some p=>if k = "share above 0"/\p=(0,1) then none else some (.tup [.int p.1,.int p.2])
 | none=>none
def CY (C:CA):Sp:=λ vs H Q E=>∃ k x:Str,vs = [.str k,.str x]/\Asc x/\x.length<=50000/\VF C H (lF k x) Q E
theorem dn (a b:Str):decide (V.str a=V.str b)=decide (a=b):=by
 by_cases c:a=b
 ·rw[decide_eq_true c,decide_eq_true (by rw[c])]
 ·rw[decide_eq_false c,decide_eq_false (λ z=>c (by injection z))]
theorem xb:aG ["kind","word","share"] ["kind","word"] (aC xu):=aY
theorem EC (F:Fun K "value_of" "value_of" xu f fd) (T:Txt mg) (cf:CF P w K mg C) (Gwin:Cl P w K mg base (CXX P w) 4 "word_in" ["word"] (CW C)) (Gnin:Cl P w K mg base (CXX P w) 4 "number_in" ["word","most"] (Dc C)) (Gsin:Cl P w K mg base (CXX P w) 4 "share_in" ["word"] (C0 C)):aS P w K mg base (CXX P w) 5 f fd ["kind","word"] (CY C):=by
 refine F.okb xb λ cdv A outer s H vs Q E hr h=>?_
 obtain⟨k,x,rfl,ax,lx,q1,q2⟩:=h
 refine⟨_,(ag (aU (aK b7 (pv 0) ah (aO _)) (ak (aE (pv 1))) aI)
  (ag (aU (aK b7 (pv 0) ah (aO _)) (ak (aE (aJ Gwin hr rfl cn (ae (pv 1) af)))) aI)
  (ag (aU (aK b7 (pv 0) ah (aO _)) (ak (aE (aJ Gnin hr rfl cn (ae (pv 1) (ae aj af))))) aI)
  (ag (aU (aK b7 (pv 0) ah (aO _)) (ak (aE (aJ Gnin hr rfl cn (ae (pv 1) (ae aj af))))) aI)
  (ag (aD (i:=2) xb.nd rfl (Or.inl rfl) (aJ Gsin hr rfl cn (ae (pv 1) af)))
  (ag (aU (PW.pt (ye (aK b7 (pv 0) ah (aO _)) (tO (aK (EA hr.units) (pv 2) (aW (ae aj (ae aj af))) (aO _))))) (ak (bc bz rfl cf.xNoRow rfl (ae ah af))) aI)
  (ak (aE (pv 2))))))))),?_⟩
 have one:1<=sizeLine:=by decide
 have two:2<=sizeLine:=by decide
 unfold lF at q1 q2
 refine⟨_,rfl,rfl,_,rfl,?_⟩
 rw[dn]
 by_cases c1:k = "text"
 ·rw[if_pos c1] at q1
  rw[decide_eq_true c1]
  exact bj ⟨_,rfl,q1 _ rfl _ _ (aA.refl H) rfl⟩
 rw[if_neg c1] at q1 q2
 rw[decide_eq_false c1]
 refine bf ⟨_,rfl,rfl,_,rfl,?_⟩
 rw[dn]
 by_cases c2:k = "word"
 ·rw[if_pos c2] at q1 q2
  rw[decide_eq_true c2]
  exact bj ⟨_,rfl,x,rfl,q1,q2⟩
 rw[if_neg c2] at q1 q2
 rw[decide_eq_false c2]
 refine bf ⟨_,rfl,rfl,_,rfl,?_⟩
 rw[dn]
 by_cases c3:k = "trials"
 ·rw[if_pos c3] at q1 q2
  rw[decide_eq_true c3]
  exact bj ⟨_,rfl,x,12,rfl,ax,lx,q1,q2⟩
 rw[if_neg c3] at q1 q2
 rw[decide_eq_false c3]
 refine bf ⟨_,rfl,rfl,_,rfl,?_⟩
 rw[dn]
 by_cases c4:k = "measure"
 ·rw[if_pos c4] at q1 q2
  rw[decide_eq_true c4]
  exact bj ⟨_,rfl,x,60,rfl,ax,lx,q1,q2⟩
 rw[if_neg c4] at q1 q2
 rw[decide_eq_false c4]
 refine bf ⟨_,rfl,x,rfl,ax,lx,λ p hp a H1 s1 ha=>?_,λ hn H1 s1=>q2 (by rw[hn]) _ s1⟩
 rw[hp] at q1 q2
 dsimp only at q1 q2
 have d:Den H1 (.tup [.int p.1,.int p.2]) (.ref a):=gH ha
 refine⟨_,rfl,rfl,_,rfl,?_⟩
 rw[dn]
 by_cases c5:k = "share above 0"
 ·rw[decide_eq_true c5]
  refine bj ⟨_,rfl,two,λ p2 hp2=>?_⟩
  have s2:=aw hp2 (.tup [V.int 0,V.int 1])
  refine⟨[.int p.1,.int p.2],[.int 0,.int 1],d.keep s2,gH ai,by simp [iF,jE],rfl,_,rfl,?_⟩
  have ee:cA [.int p.1,.int p.2] [.int 0,.int 1]=decide (p=(0,1)):=by
   rw[cA,cA,cA,db,db]
   obtain⟨p1,p2⟩:=p
   by_cases z1:p1=0<;>by_cases z2:p2=1<;>simp [z1,z2]
  rw[ee]
  by_cases c6:p=(0,1)
  ·rw[if_pos ⟨c5,c6⟩] at q2
   rw[decide_eq_true c6]
   exact bj ⟨one,q2 rfl _ (s1.trans s2)⟩
  ·rw[if_neg (λ z=>c6 z.2)] at q1
   rw[decide_eq_false c6]
   exact bf ⟨_,rfl,q1 _ rfl _ _ (s1.trans s2) (d.keep s2)⟩
 ·rw[if_neg (λ z=>c5 z.1)] at q1
  rw[decide_eq_false c5]
  exact bf (bf ⟨_,rfl,q1 _ rfl _ _ s1 d⟩)
def tx1:List Str:=["text"]
def b6 (x:Str):Option (Str×Str×List Th):=match bA eh ((aL x).headD Str.empty) with
 | none=>none
 | some fs=>if ((if fs=tx1 then mrg (aL x) else aL x).length=fs.length+2) then (fk ((fs.zip ((if fs=tx1 then mrg (aL x) else aL x).drop 2)).map λ p=>lF p.1 p.2)).map λ vs=>((aL x).headD Str.empty,(if fs=tx1 then mrg (aL x) else aL x).getD 1 Str.empty,vs) else none
def uJ:Th->Option (Str×Str×List Th)
 | .str x=>b6 x
 | _=>none
theorem oE {k x:Str}{t:Th} (h:lF k x=some t):gX 2 t:=by
 unfold lF at h
 split at h
 ·cases h;trivial
 split at h
 ·unfold sL at h
  split at h
  ·cases h;trivial
  ·cases h
 split at h
 ·unfold u9 at h
  split at h
  ·split at h
   ·cases h
   ·cases h;trivial
  ·cases h
 split at h
 ·unfold u9 at h
  split at h
  ·split at h
   ·cases h
   ·cases h;trivial
  ·cases h
 split at h
 ·split at h
  ·cases h
  ·cases h
   intro u hu
   rcases List.mem_cons.mp hu with rfl | hu
   ·trivial
   ·rw[List.mem_singleton.mp hu];trivial
 ·cases h
theorem vJ {f:Str}{fs:List Str} (h:bA eh f=some fs):fs.length<=3:=by
 unfold bA at h
 cases e:eh.find? λ p=>decide (p.1=f) with
 | none=>rw[e] at h;cases h
 | some p =>
  rw[e] at h
  cases h
  have m:=List.mem_of_find?_eq_some e
  have all:∀ p∈eh,p.2.length<=3:=by decide +kernel
  exact all p m
theorem vP {ws:List V}{k:Nat} (h:k<=ws.length):i7 ws (some (k:Int)) none=ws.drop k:=by
 unfold i7
 rw[HT.nv,HT.oW,Nat.min_eq_left h,List.take_of_length_le (by simp)]
def okR (t:Th):Prop:=∀ x,t=.str x->Asc x/\x.length<=30000
def wC (C:CA):Sp:=λ vs H Q E=>∃ (v:V) (t:Th),vs = [v]/\Den H t v/\okR t/\(∀ f n ths,uJ t=some (f,n,ths)->∀ a l ws H',aA H H'->H' a=some (.tup [.str f,.str n,.ref l])->H' l=some (.lst ws)->bu H' ths ws->Q (.ref a) H')/\(uJ t=none->∀ H',aA H H'->E (.ref C.NoRow) none H')
theorem jJ:aG ["row","first","form","words"] ["row"] (aC qK):=aY
theorem Bb (F:Fun K "read_row" "read_row" qK f fd) (T:Txt mg) (cf:CF P w K mg C) (Gvof:Cl P w K mg base (CXX P w) 5 "value_of" ["kind","word"] (CY C)):aS P w K mg base (CXX P w) 6 f fd ["row"] (wC C):=by
 obtain⟨kvF,MFORMS,hF⟩:=cf.fFORMS
 refine F.okb jJ λ cdv A outer s H vs Q E hr h=>?_
 obtain⟨v,t,rfl,dv,hx,q1,q2⟩:=h
 refine⟨_,(ag (aU (bK (br (aT cU rfl T.isinstance boot_isinstance (ae (pv 0) (ae (eJ (v:=.ty "str") rfl T.str cD rfl) af))))) (ak (bc bz rfl cf.xNoRow rfl (ae ah af))) aI)
  (ag (aD (i:=1) jJ.nd rfl (Or.inl rfl) (aF aH (fB (pv 0) ah) aj (λ _ _=>rfl)))
  (ag (aU (nF (mi MFORMS (pv 1) (bV (v:=.ref C.FORMS) rfl cf.mFORMS rfl))) (ak (bc bz rfl cf.xNoRow rfl (ae ah af))) aI)
  (ag (aD (i:=2) jJ.nd rfl (Or.inl rfl) (nJ MFORMS (bV (v:=.ref C.FORMS) rfl cf.mFORMS rfl) (pv 1) (λ _ _=>rfl)))
  (ag (aD (i:=3) jJ.nd rfl (Or.inl rfl) (kE (aK (A2 hr.units) (pv 2) (aW (ae ah af)) (aO _)) (uV (pv 0) rfl (by decide)) (kC (pv 0) ah)))
  (ag (aU (aK eY (aT bF rfl T.len boot_len (ae (pv 3) af)) (ar bM (aT bF rfl T.len boot_len (ae (pv 2) af)) aj) (aO _)) (ak (bc bz rfl cf.xNoRow rfl (ae ah af))) aI)
  (ak (aE (aW (ae (pv 1) (ae (aF ba (pv 3) aj (λ _ _=>rfl)) (ae (io (xs:=["kind","word"]) (ts:=[]) lO (λ _ _ h=>h) rfl ⟨rfl,oN,rfl,rfl,rfl,by decide +kernel,rfl,rfl⟩ (kz rfl T.zip (ae (pv 2) (ae (cO tm (pv 3) (dh aj) eF) af))) (λ C s3 H3 fp=>(eG (n:=2) rfl (aR (aP (i:=0) (show (["kind","word"]:List Str).Nodup by decide +kernel) rfl (Or.inl rfl) (Or.inr rfl)) (aR (aP (i:=1) (show (["kind","word"]:List Str).Nodup by decide +kernel) rfl (Or.inl rfl) (Or.inr rfl)) b5)))) (λ C s3 H3 fp=>cN) (λ C s3 H3 fp xe hx=>(aJ Gvof hr rfl hx (ae (pv 0) (ae (pv 1) af))))) af)))))))))))),?_⟩
 have one:1<=sizeLine:=by decide
 refine⟨_,rfl,v,t,_,_,rfl,dv,my t,_,rfl,?_⟩
 cases t with
 | str x =>
  refine bf ?_
  cases (show v=V.str x from dv)
  obtain⟨ax,lx⟩:=hx x rfl
  obtain⟨pm,pb,ep⟩:=rk x
  have q1:∀ f n ths,b6 x=some (f,n,ths)->∀ a l ws H',aA H H'->H' a=some (.tup [.str f,.str n,.ref l])->H' l=some (.lst ws)->bu H' ths ws->Q (.ref a) H':=q1
  have q2:b6 x=none->∀ H',aA H H'->E (.ref C.NoRow) none H':=q2
  unfold b6 at q1 q2
  generalize hf:(aL x).headD Str.empty=f at *
  dsimp only
  refine aX (λ σ G=>G=H/\σ = [some (.str x),none,none,none]) (λ M hM=>hM _ _ ⟨rfl,rfl⟩) ?_
  rintro σ G0 ⟨rfl,rfl⟩
  refine aX (λ σ G=>aA G0 G/\σ = [some (.str x),some (.str f),none,none]) ?_ ?_
  ·intro M hM
   refine⟨_,rfl,_,rfl,_,rfl,by decide +kernel,aV (by omega),λ p hp=>?_⟩
   rw[ep]
   have s1:=aw hp (.tup ([f,pm,pb].map V.str))
   have xp:upd G0 p (.tup ([f,pm,pb].map V.str)) p=some (.tup [.str f,.str pm,.str pb]):=ai
   exact⟨p,_,0,_,rfl,rfl,SqT.of xp,at0,hM _ _ ⟨s1,rfl⟩⟩
  rintro σ G ⟨sG,rfl⟩
  obtain⟨hF1,hF2⟩:=hF f
  refine⟨_,rfl,f,rfl,rfl,_,rfl,?_⟩
  cases lk:bA eh f with
  | none =>
   rw[lk] at q2
   rw[hF1 lk]
   exact bj ⟨one,q2 rfl _ sG⟩
  | some fs =>
   rw[lk] at q1 q2
   obtain⟨ta,eta,hta⟩:=hF2 fs lk
   rw[eta]
   refine bf ⟨_,rfl,f,_,rfl,rfl,eta,?_⟩
   dsimp only at q1 q2
   have axs:∀ z∈aL x,Asc z/\z.length<=x.length:=by rw[<-dw];exact gi ax
   have lws:(aL x).length<=x.length+2:=by rw[<-dw];exact fP x " "
   have axm:∀ z∈mrg (aL x),Asc z/\z.length<=x.length:=λ z hz=>⟨b8.mpr λ c hc=>b8.mp ax c ((iy hz).1 c hc),(iy hz).2⟩
   have lmm:(mrg (aL x)).length<=x.length+3:=by have:=BG (aL x);omega
   have axw:∀ z∈(if fs=tx1 then mrg (aL x) else aL x),Asc z/\z.length<=x.length:=by split<;>assumption
   have lww:(if fs=tx1 then mrg (aL x) else aL x).length<=x.length+3:=by split<;>omega
   refine aX (λ σ G'=>G'=G/\σ = [some (.str x),some (.str f),some (.ref ta),none]) (λ M hM=>hM _ _ ⟨rfl,rfl⟩) ?_
   rintro σ G ⟨rfl,rfl⟩
   refine aX (λ σ G1=>aA G G1/\∃ l:Addr,σ = [some (.str x),some (.str f),some (.ref ta),some (.ref l)]/\G1 l=some (.lst ((if fs=tx1 then mrg (aL x) else aL x).map V.str))) ?_ ?_
   ·intro M hM
    refine⟨_,rfl,(by show 1<=sizeLine;decide),λ p hp=>?_⟩
    have s1:=aw hp (.tup [V.str "text"])
    refine⟨ta,p,fs,tx1,rfl,rfl,hta _,SqT.of ai,_,rfl,?_⟩
    by_cases c:fs=tx1
    ·rw[if_pos c] at hM
     rw[decide_eq_true c]
     refine bj ⟨_,rfl,x,rfl,aV (by omega),?_,λ l hl=>hM _ _ ⟨s1.trans (aw hl _),l,rfl,?_⟩⟩
     ·rw[ig];exact aV (by omega)
     ·rw[ai,ig]
    ·rw[if_neg c] at hM
     rw[decide_eq_false c]
     refine bf ⟨_,rfl,_,rfl,_,rfl,by decide +kernel,aV (by omega),?_,λ l hl=>hM _ _ ⟨s1.trans (aw hl _),l,rfl,?_⟩⟩
     ·rw[dw];exact aV (by omega)
     ·rw[ai,dw]
   rintro σ G1 ⟨sG1,l,rfl,hl⟩
   generalize (if fs=tx1 then mrg (aL x) else aL x)=ws at *
   have lfs:fs.length<=3:=vJ lk
   refine⟨_,rfl,l,_,rfl,.inl (SqL.of hl),_,rfl,ta,_,rfl,.inr (hta _),_,_,rfl,rfl,rfl,_,rfl,?_⟩
   have s2:=sG.trans sG1
   by_cases c:ws.length=fs.length+2
   ·rw[if_pos c] at q1 q2
    rw[decide_eq_true (show V.int (((ws.map V.str).length:Nat):Int)=V.int ((((fs.map V.str).length:Nat):Int)+2) by rw[List.length_map,List.length_map,c];rfl)]
    have e1:atI (ws.map V.str) 1=some (.str (ws.getD 1 Str.empty)):=cy (j:=1) (by rw[List.getElem?_map,List.getElem?_eq_getElem (show 1<ws.length by omega),List.getD_eq_getElem?_getD,List.getElem?_eq_getElem (show 1<ws.length by omega)];rfl)
    refine bf ⟨_,rfl,_,rfl,l,_,1,_,rfl,rfl,SqL.of hl,e1,?_⟩
    refine⟨_,rfl,_,rfl,_,rfl,l,_,rfl,SqL.of hl,λ p hp=>?_⟩
    have ec:i7 (ws.map V.str) (some 2) none=(ws.drop 2).map V.str:=by
     have:=vP (ws:=ws.map V.str) (k:=2) (by rw[List.length_map];omega)
     rw[<-List.map_drop] at this
     exact this
    rw[ec]
    have s3:=aw hp (.lst ((ws.drop 2).map V.str))
    have xp:upd G1 p (.lst ((ws.drop 2).map V.str)) p=some (.lst ((ws.drop 2).map V.str)):=ai
    generalize upd G1 p (.lst ((ws.drop 2).map V.str))=G3 at *
    have s23:=s2.trans s3
    have axd:∀ z∈ws.drop 2,Asc z/\z.length<=x.length:=λ z hz=>axw z (List.mem_of_mem_drop hz)
    generalize ws.getD 1 Str.empty=nm at *
    have ld:(ws.drop 2).length=fs.length:=by rw[List.length_drop];omega
    generalize ws.drop 2=ys at *
    refine⟨ta,p,true,false,rfl,⟨_,hta _⟩,⟨_,SqL.of xp⟩,λ D hD=>?_⟩
    have q2':fk ((fs.zip ys).map λ p=>lF p.1 p.2)=none->∀ H',aA G0 H'->E (.ref C.NoRow) none H':=λ h=>q2 (by rw[h];rfl)
    have q1':∀ ths,fk ((fs.zip ys).map λ p=>lF p.1 p.2)=some ths->∀ a l ws H',aA G0 H'->H' a=some (.tup [.str f,.str nm,.ref l])->H' l=some (.lst ws)->bu H' ths ws->Q (.ref a) H':=λ ths h=>q1 f nm ths (by rw[h];rfl)
    have lz:(fs.zip ys).length=fs.length:=by rw[List.length_zip];omega
    refine rW (n:=fs.length) (λ i zs G=>∃ ps:List Th,((fs.zip ys).take i).map (λ p=>lF p.1 p.2)=ps.map some/\(∀ t∈ps,gX 2 t)/\bu G ps zs) hD (show SqB true K G3 ta (fs.map V.str) from hta _) (show SqB false K G3 p (ys.map V.str) from SqL.of xp) (by rw[List.length_map];exact Nat.le_refl _) (by rw[List.length_map];omega) (.inl (List.length_map ..)) (aV (by omega)) ⟨([]:List Th),rfl,λ t ht=>absurd ht (by simp),(show bu _ [] [] from rfl)⟩ ?_ ?_
    ·rintro i u v zs H5 H6 k hi hu hv sm5 sm6 e ⟨ps,m1,m2,m3⟩ hk
     have hi2:i<ys.length:=by omega
     rw[List.getElem?_map,List.getElem?_eq_getElem hi] at hu
     rw[List.getElem?_map,List.getElem?_eq_getElem hi2] at hv
     cases hu
     cases hv
     have hz:(fs.zip ys)[i]? = some (fs[i],ys[i]):=by rw[List.getElem?_eq_getElem (by omega),List.getElem_zip]
     obtain⟨ay,ly⟩:=axd _ (List.getElem_mem hi2)
     refine⟨_,rfl,_,rfl,fs[i],ys[i],rfl,ay,by omega,λ t ht g H7 s7 dg=>hk _ _ s7 ⟨ps++[t],?_,λ u hu=>?_,?_⟩,λ ht H7 s7=>q2' (i8 ?_) _ (s23.trans (sm5.trans (sm6.trans s7)))⟩
     ·rw[List.take_add_one,hz,List.map_append,List.map_append,m1]
      show _++[lF fs[i] ys[i]]=_
      rw[ht]
      rfl
     ·rcases List.mem_append.mp hu with hu | hu
      ·exact m2 u hu
      ·rw[List.mem_singleton.mp hu];exact oE ht
     ·refine iG (d:=2) (s7 _ _ (sm6 _ _ e)) (λ u hu=>?_) ?_
      ·rcases List.mem_append.mp hu with hu | hu
       ·exact m2 u hu
       ·rw[List.mem_singleton.mp hu];exact oE ht
      ·exact df (m3.keep (sm6.trans s7)) dg
     ·exact List.mem_map.mpr ⟨(fs[i],ys[i]),List.mem_of_getElem? hz,ht⟩
    rintro zs H5 s5 hD5 lw ⟨ps,m1,m2,m3⟩
    rw[List.take_of_length_le (by omega)] at m1
    refine⟨(by show 3<=sizeLine;decide),λ g hg=>?_⟩
    have s6:=aw hg (.tup [V.str f,V.str nm,V.ref D])
    exact q1' ps (by rw[m1];exact fj ps) g D zs _ (s23.trans (s5.trans s6)) ai (s6 _ _ hD5) (m3.keep s6)
   ·rw[if_neg c] at q2
    rw[decide_eq_false (λ z=>c (by rw[List.length_map,List.length_map] at z;injection z with z;omega))]
    exact bj ⟨one,q2 rfl _ s2⟩
 | _=>exact bj ⟨one,q2 rfl _ (aA.refl _)⟩
def Di:Sp:=λ vs H Q _=>∃ n k:Int,vs = [.int n,.int k]/\n<=100/\Q (.int (cho n k)) H
theorem m8:aG ["n","k","ways","taken"] ["n","k"] (aC xT):=aY
theorem E4 (F:Fun K "choices" "choices" xT f fd) (T:Txt mg):aS P w K mg base CX0 1 f fd ["n","k"] Di:=by
 refine F.oka m8 λ cdv A outer s H vs Q E hr h=>?_
 obtain⟨n,k,rfl,hn,q⟩:=h
 refine⟨_,(ag (aU (PW.pt (cL (aK eZ (pv 1) aj (aO _)) (cB (aK gE (pv 1) (pv 0) (aO _))))) (ak (aE aj)) aI)
  (ag (aD (i:=2) m8.nd rfl (Or.inl rfl) aj)
  (ag (eR PassesOwn.never rfl (cZ rfl T.range (ae (aT (vU rfl) rfl T.min boot_min (ae (pv 1) (ae (ar eS (pv 0) (pv 1)) af))) af)) (aP (i:=3) m8.nd rfl (Or.inl rfl)) (ak (aD (i:=2) m8.nd rfl (Or.inl rfl) (ar di (ar d5 (pv 2) (ar eS (pv 0) (pv 3))) (ar bM (pv 3) aj)))))
  (ak (aE (pv 2)))))),?_⟩
 refine⟨_,rfl,_,_,rfl,rfl,_,rfl,?_⟩
 refine c7 (λ c=>?_) (λ c=>?_)
 ·have c':k<0:=of_decide_eq_true c
  refine bj ?_
  show Q (.int 0) H
  rw[uv (.inl c')] at q
  exact q
 have c':¬ k<0:=ofD c
 refine⟨_,rfl,_,rfl,_,_,rfl,rfl,_,rfl,?_⟩
 refine c7 (λ d=>?_) (λ d=>?_)
 ·have d':n<k:=of_decide_eq_true d
  show Q (.int 0) H
  rw[uv (.inr d')] at q
  exact q
 have d':¬ n<k:=ofD d
 refine⟨_,rfl,_,rfl,_,rfl,_,_,rfl,rfl,_,_,rfl,?_⟩
 refine⟨_,rfl,?_,?_,?_⟩
 ·split<;>omega
 ·split<;>omega
 refine i3 (lo:=0) (λ i σ H'=>H'=H/\∃ v,σ = [some (.int n),some (.int k),some (.int (bE n.toNat i:Int)),v]) ⟨rfl,none,?_⟩ ?_ ?_
 ·rw[b0]<;>rfl
 ·rintro i σ H' hi ⟨rfl,v,rfl⟩
  have hi2:(i:Int)<n:=by
   by_cases z:n-k<k
   ·rw[if_pos z] at hi;omega
   ·rw[if_neg z] at hi;omega
  have e:(bE n.toNat i:Int)*(n-(0+(i:Int))) / (0+(i:Int)+1)=(bE n.toNat (i+1):Int):=by
   rw[Int.zero_add];exact zN hi2
  refine⟨_,rfl,_,rfl,_,rfl,_,_,rfl,rfl,_,_,rfl,rfl,.inr ⟨?_,?_⟩,_,rfl,_,_,rfl,rfl,_,_,rfl,rfl,⟨?_,?_⟩,rfl,some (.int (0+(i:Int))),?_⟩
  ·omega
  ·omega
  ·omega
  ·omega
  rw[<-e]<;>rfl
 ·rintro σ H' ⟨rfl,v,rfl⟩
  refine⟨_,rfl,?_⟩
  rw[<-Cs (by omega) (by omega)] at q
  exact q
def rP:Th->Th->Option (Int×Int)
 | .int a,.int b=>if b=0 then none else some (a,b)
 | _,_=>none
theorem kT {tx ty:Th}{a b:Int} (h:rP tx ty=some (a,b)):tx=.int a/\ty=.int b/\b≠0:=by
 unfold rP at h
 split at h
 ·split at h
  ·cases h
  ·rename_i hz;cases h;exact⟨rfl,rfl,hz⟩
 ·cases h
theorem zu {tx ty:Th} (h:isW tx=false):rP tx ty=none:=by
 cases tx<;>first | rfl | cases h
theorem zr {tx ty:Th} (h:isW ty=false):rP tx ty=none:=by
 cases tx<;>cases ty<;>first | rfl | cases h
theorem pR {a b:Int} (h:b≠0):rP (.int a) (.int b)=some (a,b):=if_neg h
def fQ (C:CA):Sp:=λ vs H Q E=>∃ x y tx ty,vs = [x,y]/\Den H tx x/\Den H ty y /\
 (∀ a b,rP tx ty=some (a,b)->Smk b/\∀ p,H p=none->Q (.ref p) (upd H p (.tup [.int (frT a b),.int (frB a b)])))/\(rP tx ty=none->E (.ref C.NoNumber) none H)
theorem BV (a b:Int):(Int.gcd (if a<0 then -a else a) (if b<0 then -b else b):Int)=Int.gcd a b:=by rw[GJ]
theorem m7:aG ["top","bottom","divisor"] ["top","bottom"] (aC qW):=aY
theorem Bm (F:Fun K "fraction" "fraction" qW f fd) (T:Txt mg) (cf:CF P w K mg C) (Gwhole:Cl P w K mg base CX0 2 "is_whole" ["thing"] gj) (Gcd:Cl P w K mg base CX0 2 "common_divisor" ["one","other"] Ak):aS P w K mg base (CXX P w) 3 f fd ["top","bottom"] (fQ C):=by
 refine F.okb m7 λ cdv A outer s H vs Q E hr h=>?_
 obtain⟨x,y,tx,ty,rfl,d1,d2,q1,q2⟩:=h
 refine⟨_,(ag (aU (PW.pt (cL (bK (br (aJ Gwhole hr rfl aN (ae (pv 0) af)))) (cB (bK (br (aJ Gwhole hr rfl aN (ae (pv 1) af))))))) (ak (bc bz rfl cf.xNoNumber rfl (ae ah af))) aI)
  (ag (aU (aK b7 (pv 1) aj (aO _)) (ak (bc bz rfl cf.xNoNumber rfl (ae ah af))) aI)
  (ag (aD (i:=2) m7.nd rfl (Or.inl rfl) (aJ Gcd hr rfl aN (ae (aT lj rfl T.abs boot_abs (ae (pv 0) af)) (ae (aT lj rfl T.abs boot_abs (ae (pv 1) af)) af))))
  (ag (aU (aK eZ (pv 1) aj (aO _)) (ak (aD (i:=2) m7.nd rfl (Or.inl rfl) (pi jX (pv 2)))) aI)
  (ak (aE (aW (ae (ar ir (pv 0) (pv 2)) (ae (ar ir (pv 1) (pv 2)) af))))))))),?_⟩
 refine⟨_,rfl,x,tx,rfl,d1,_,rfl,?_⟩
 cases hx:isW tx with
 | false=>exact bj (bj ⟨(by show 1<=sizeLine;decide),q2 (zu hx)⟩)
 | true =>
  refine bf ?_
  refine⟨_,rfl,y,ty,rfl,d2,_,rfl,?_⟩
  cases hy:isW ty with
  | false=>exact bj ⟨(by show 1<=sizeLine;decide),q2 (zr hy)⟩
  | true =>
   refine bf ?_
   obtain⟨a,rfl⟩:=cI hx
   obtain⟨b,rfl⟩:=cI hy
   have d1':x=V.int a:=d1
   have d2':y=V.int b:=d2
   subst d1' d2'
   refine⟨_,rfl,rfl,_,rfl,?_⟩
   by_cases hb:b=0
   ·subst hb
    exact bj ⟨(by show 1<=sizeLine;decide),q2 rfl⟩
   refine c7 (λ c=>absurd (by have:=of_decide_eq_true c;injection this) hb) (λ _=>?_)
   obtain⟨sb,q⟩:=q1 a b (pR hb)
   have sd:=Al (a:=a) hb sb
   have nd:=rQ (t:=a) hb
   have ha:0<=(if a<0 then -a else a):=by split<;>omega
   have hb':0<=(if b<0 then -b else b):=by split<;>omega
   refine⟨_,rfl,_,rfl,_,rfl,_,rfl,_,_,rfl,ha,hb',?_⟩
   rw[BV]
   refine⟨_,rfl,_,_,rfl,rfl,_,rfl,?_⟩
   refine c7 (λ c=>?_) (λ c=>?_)
   ·have c':b<0:=of_decide_eq_true c
    have e:frD a b = -(Int.gcd a b:Int):=if_pos c'
    rw[e] at sd nd
    refine⟨_,rfl,_,rfl,?_⟩
    refine⟨_,rfl,_,rfl,_,_,rfl,rfl,⟨nd,sd⟩,_,rfl,_,rfl,_,_,rfl,rfl,⟨nd,sd⟩,(by show 2<=sizeLine;decide),λ p hp=>?_⟩
    have z:=q p hp
    unfold frT frB at z
    rw[e] at z
    exact z
   ·have c':¬ b<0:=ofD c
    have e:frD a b=(Int.gcd a b:Int):=if_neg c'
    rw[e] at sd nd
    refine⟨_,rfl,_,rfl,_,_,rfl,rfl,⟨nd,sd⟩,_,rfl,_,rfl,_,_,rfl,rfl,⟨nd,sd⟩,(by show 2<=sizeLine;decide),λ p hp=>?_⟩
    have z:=q p hp
    unfold frT frB at z
    rw[e] at z
    exact z
def iM (H:Hp) (r:Rat) (Q:VK):Prop:=∀ a H',aA H H'->H' a=some (.tup [.int r.num,.int (r.den:Int)])->Q (.ref a) H'
def GU (H:Hp) (t b:Int) (Q:VK):Prop:=∀ p,H p=none->Q (.ref p) (upd H p (.tup [.int (frT t b),.int (frB t b)]))
theorem eg {C:CA}{H:Hp}{Q:VK}{E:XK}{t b:Int} (hb:b≠0) (sb:Smk b) (q:GU H t b Q):fQ C [.int t,.int b] H Q E:=by
 refine⟨_,_,.int t,.int b,rfl,rfl,rfl,λ a b' e=>?_,λ e=>?_⟩
 ·obtain⟨e1,e2,_⟩:=kT e
  cases e1;cases e2
  exact⟨sb,q⟩
 ·rw[pR hb] at e;cases e
theorem fO {H:Hp}{t b:Int}{r:Rat}{Q:VK} (e:frT t b=r.num/\frB t b=(r.den:Int)) (q:iM H r Q):GU H t b Q:=λ x hx=>by
 refine q x _ (aw hx _) ?_
 rw[ai,e.1,e.2]
structure FrA (H:Hp) (f:Addr) (r:Rat):Prop where
 ob:H f=some (.tup [.int r.num,.int (r.den:Int)])
 st:Sz 4400 r.num
 sb:Sz 4400 (r.den:Int)
theorem FrA.keep {H H':Hp}{f:Addr}{r:Rat} (h:FrA H f r) (s:aA H H'):FrA H' f r:=⟨s _ _ h.ob,h.st,h.sb⟩
def wR (g:Rat->Rat->Rat):Sp:=λ vs H Q _=>∃ f h r s,vs = [.ref f,.ref h]/\FrA H f r/\FrA H h s/\iM H (g r s) Q
abbrev wG:Sp:=wR λ r s=>r+s
abbrev sY:Sp:=wR λ r s=>r-s
theorem Aw:aG ["one","other"] ["one","other"] (aC qL):=aY
theorem Bc (F:Fun K "plus" "plus" qL f fd) (T:Txt mg) (Gfrac:Cl P w K mg base (CXX P w) 3 "fraction" ["top","bottom"] (fQ C)):aS P w K mg base CX0 4 f fd ["one","other"] wG:=by
 refine F.oka Aw λ cdv A outer s H vs Q E hr h=>?_
 obtain⟨f,g,r,s,rfl,t,u,q⟩:=h
 refine⟨_,(ak (aE (aJ Gfrac hr rfl fL (ae (ar bM (ar bW (aF aH (pv 0) aj (λ _ _=>rfl)) (aF aH (pv 1) aj (λ _ _=>rfl))) (ar bW (aF aH (pv 1) aj (λ _ _=>rfl)) (aF aH (pv 0) aj (λ _ _=>rfl)))) (ae (ar bW (aF aH (pv 0) aj (λ _ _=>rfl)) (aF aH (pv 1) aj (λ _ _=>rfl))) af))))),?_⟩
 refine⟨_,rfl,f,_,0,_,rfl,rfl,SqT.of t.ob,at0,_,rfl,g,_,1,_,rfl,rfl,SqT.of u.ob,at1,_,_,rfl,rfl,⟨t.st.smk (by decide),u.sb.smk (by decide)⟩,_,rfl,g,_,0,_,rfl,rfl,SqT.of u.ob,at0,_,rfl,f,_,1,_,rfl,rfl,SqT.of t.ob,at1,_,_,rfl,rfl,⟨u.st.smk (by decide),t.sb.smk (by decide)⟩,_,_,rfl,rfl,?_⟩
 refine⟨_,rfl,f,_,1,_,rfl,rfl,SqT.of t.ob,at1,_,rfl,g,_,1,_,rfl,rfl,SqT.of u.ob,at1,_,_,rfl,rfl,⟨t.sb.smk (by decide),u.sb.smk (by decide)⟩,?_⟩
 exact eg (nN (lK r) (lK s)) ((t.sb.mul u.sb).smk (by decide)) (fO (BX r s) q)
theorem xn:aG ["one","other"] ["one","other"] (aC nq):=aY
theorem yF (F:Fun K "minus" "minus" nq f fd) (T:Txt mg) (Gfrac:Cl P w K mg base (CXX P w) 3 "fraction" ["top","bottom"] (fQ C)):aS P w K mg base CX0 4 f fd ["one","other"] sY:=by
 refine F.oka xn λ cdv A outer s H vs Q E hr h=>?_
 obtain⟨f,g,r,s,rfl,t,u,q⟩:=h
 refine⟨_,(ak (aE (aJ Gfrac hr rfl fL (ae (ar eS (ar bW (aF aH (pv 0) aj (λ _ _=>rfl)) (aF aH (pv 1) aj (λ _ _=>rfl))) (ar bW (aF aH (pv 1) aj (λ _ _=>rfl)) (aF aH (pv 0) aj (λ _ _=>rfl)))) (ae (ar bW (aF aH (pv 0) aj (λ _ _=>rfl)) (aF aH (pv 1) aj (λ _ _=>rfl))) af))))),?_⟩
 refine⟨_,rfl,f,_,0,_,rfl,rfl,SqT.of t.ob,at0,_,rfl,g,_,1,_,rfl,rfl,SqT.of u.ob,at1,_,_,rfl,rfl,⟨t.st.smk (by decide),u.sb.smk (by decide)⟩,_,rfl,g,_,0,_,rfl,rfl,SqT.of u.ob,at0,_,rfl,f,_,1,_,rfl,rfl,SqT.of t.ob,at1,_,_,rfl,rfl,⟨u.st.smk (by decide),t.sb.smk (by decide)⟩,_,_,rfl,rfl,?_⟩
 refine⟨_,rfl,f,_,1,_,rfl,rfl,SqT.of t.ob,at1,_,rfl,g,_,1,_,rfl,rfl,SqT.of u.ob,at1,_,_,rfl,rfl,⟨t.sb.smk (by decide),u.sb.smk (by decide)⟩,?_⟩
 exact eg (nN (lK r) (lK s)) ((t.sb.mul u.sb).smk (by decide)) (fO (zp r s) q)
structure Shp (H:Hp) (a:Addr) (p:Rat):Prop where
 ob:H a=some (.tup [.int p.num,.int (p.den:Int)])
 lo:0<=p
 hi:p<=1
 sz:Sz 300 (p.den:Int)
theorem Shp.keep {H H':Hp}{a:Addr}{p:Rat} (h:Shp H a p) (s:aA H H'):Shp H' a p:=⟨s _ _ h.ob,h.lo,h.hi,h.sz⟩
theorem DZ {m:Nat}{t b:Int} (h0:0<=t) (h1:t<=b) (hb:0<b) (sb:Sz m b):Sz m ((rq t b).den:Int):=by
 have hq : (b : Rat) ≠ 0 := by intro e; have : b = 0 := by exact_mod_cast e
                               omega
 have er:rq t b*(b:Rat)=(t:Rat):=by unfold rq;grind
 obtain⟨f1,f2⟩:=gW (Int.ne_of_gt hb) er
 rw[<-f2]
 exact (Sz.fr (Int.ne_of_gt hb) (CV h0 h1 sb) sb).2
theorem GD:(1000000000000000000000000000000000000000000000000000000000000:Nat)<2^300:=by decide +kernel
theorem CU {i:Int} (h:i.natAbs<=1000000000000000000000000000000000000000000000000000000000000):Sz 300 i:=Nat.lt_of_le_of_lt h GD
theorem Shp.num {H:Hp}{a:Addr}{p:Rat} (h:Shp H a p):0<=p.num/\p.num<=(p.den:Int):=⟨(pe p).mpr h.lo,(Dt p).mpr h.hi⟩
theorem Shp.sn {H:Hp}{a:Addr}{p:Rat} (h:Shp H a p):Sz 300 p.num:=CV h.num.1 h.num.2 h.sz
def ShL (H:Hp):List Rat->List V->Prop
 | [],xs=>xs = []
 | r::rs,xs=>∃ a ys,xs=.ref a::ys/\Shp H a r/\ShL H rs ys
theorem ShL.keep {H H':Hp} (s:aA H H'):∀ {rs:List Rat}{xs:List V},ShL H rs xs->ShL H' rs xs
 | [],_,h=>h
 | _::_,_,⟨a,ys,e,h1,h2⟩=>⟨a,ys,e,h1.keep s,h2.keep s⟩
theorem ShL.len {H:Hp}:∀ {rs:List Rat}{xs:List V},ShL H rs xs->xs.length=rs.length
 | [],_,h=>by rw[show _ = [] from h];rfl
 | _::_,_,⟨a,ys,e,h1,h2⟩=>by rw[e,List.length_cons,List.length_cons,h2.len]
theorem ShL.get {H:Hp}:∀ {rs:List Rat}{xs:List V}{i:Nat}{r:Rat},ShL H rs xs->rs[i]? = some r->∃ a,xs[i]? = some (.ref a)/\Shp H a r
 | _::_,_,0,r,⟨a,ys,e,h1,h2⟩,q=>by
  rw[List.getElem?_cons_zero] at q;cases q
  exact⟨a,by rw[e];rfl,h1⟩
 | _::_,_,i+1,r,⟨a,ys,e,h1,h2⟩,q=>by
  rw[List.getElem?_cons_succ] at q
  obtain⟨b,f,g⟩:=h2.get q
  exact⟨b,by rw[e,List.getElem?_cons_succ];exact f,g⟩
theorem ShL.app {H:Hp}:∀ {rs ss:List Rat}{xs ys:List V},ShL H rs xs->ShL H ss ys->ShL H (rs++ss) (xs++ys)
 | [],_,_,_,h,k=>by rw[show _ = [] from h];exact k
 | _::_,_,_,_,⟨a,zs,e,h1,h2⟩,k=>by rw[e];exact⟨a,_,rfl,h1,h2.app k⟩
theorem ShL.take {H:Hp}:∀ {rs:List Rat}{xs:List V} (n:Nat),ShL H rs xs->ShL H (rs.take n) (xs.take n)
 | [],_,n,h=>by rw[show _ = [] from h];simp [ShL]
 | _::_,_,0,_=>rfl
 | _::_,_,n+1,⟨a,zs,e,h1,h2⟩=>by rw[e];exact⟨a,_,rfl,h1,h2.take n⟩
theorem ShL.drop {H:Hp}:∀ {rs:List Rat}{xs:List V} (n:Nat),ShL H rs xs->ShL H (rs.drop n) (xs.drop n)
 | [],_,n,h=>by rw[show _ = [] from h];simp [ShL]
 | _::_,_,0,h=>h
 | _::_,_,n+1,⟨a,zs,e,h1,h2⟩=>by rw[e];exact h2.drop n
theorem kn {H H1:Hp}{l:Addr}{o:HO} (s:aA H H1) (hl:H l=none):aA H (upd H1 l o):=λ b u e=>by rw[aM (aZ e hl)];exact s b u e
theorem ShL.write {H:Hp}{l:Addr}{zs ws:List V} (hl:H l=some (.lst zs)):∀ {rs:List Rat}{xs:List V},ShL H rs xs->ShL (upd H l (.lst ws)) rs xs
 | [],_,h=>h
 | _::_,_,⟨a,ys,e,h1,h2⟩=>⟨a,ys,e,⟨by rw[aM (ji h1.ob hl (by intro z;cases z))];exact h1.ob,h1.lo,h1.hi,h1.sz⟩,h2.write hl⟩
def oi (H:Hp):List (Rat×Rat)->List V->Prop
 | [],xs=>xs = []
 | p::ps,xs=>∃ a la ha ys,xs=.ref a::ys/\H a=some (.tup [.ref la,.ref ha])/\Shp H la p.1/\Shp H ha p.2/\oi H ps ys
theorem oi.keep {H H':Hp} (s:aA H H'):∀ {ps:List (Rat×Rat)}{xs:List V},oi H ps xs->oi H' ps xs
 | [],_,h=>h
 | _::_,_,⟨a,la,ha,ys,e,h0,h1,h2,h3⟩=>⟨a,la,ha,ys,e,s _ _ h0,h1.keep s,h2.keep s,h3.keep s⟩
theorem oi.len {H:Hp}:∀ {ps:List (Rat×Rat)}{xs:List V},oi H ps xs->xs.length=ps.length
 | [],_,h=>by rw[show _ = [] from h];rfl
 | _::_,_,⟨a,la,ha,ys,e,h0,h1,h2,h3⟩=>by rw[e,List.length_cons,List.length_cons,h3.len]
theorem oi.get {H:Hp}:∀ {ps:List (Rat×Rat)}{xs:List V}{i:Nat}{p:Rat×Rat},oi H ps xs->ps[i]? = some p->∃ a la ha,xs[i]? = some (.ref a)/\H a=some (.tup [.ref la,.ref ha])/\Shp H la p.1/\Shp H ha p.2
 | _::_,_,0,p,⟨a,la,ha,ys,e,h0,h1,h2,h3⟩,q=>by
  rw[List.getElem?_cons_zero] at q;cases q
  exact⟨a,la,ha,by rw[e];rfl,h0,h1,h2⟩
 | _::_,_,i+1,p,⟨a,la,ha,ys,e,h0,h1,h2,h3⟩,q=>by
  rw[List.getElem?_cons_succ] at q
  obtain⟨b,lb,hb,f,g⟩:=h3.get q
  exact⟨b,lb,hb,by rw[e,List.getElem?_cons_succ];exact f,g⟩
theorem Shp.write {H:Hp}{l a:Addr}{zs ws:List V}{r:Rat} (hl:H l=some (.lst zs)) (h:Shp H a r):Shp (upd H l (.lst ws)) a r :=
 ⟨by rw[aM (ji h.ob hl (by intro z;cases z))];exact h.ob,h.lo,h.hi,h.sz⟩
structure om (n:Nat) (ps:List (Rat×Rat)):Prop where
 n1:1<=n
 n12:n<=12
 len:ps.length=n+1
 lows:Up (ps.map (·.1))
 highs:Up (ps.map (·.2))
 le:∀ p∈ps,p.1<=p.2
structure cE (H:Hp) (x:Addr) (n:Nat) (ps:List (Rat×Rat)):Prop where
 ob:∃ t zs,H x=some (.tup [.int n,.ref t])/\H t=some (.tup zs)/\oi H ps zs
 ok:om n ps
theorem cE.keep {H H':Hp}{x:Addr}{n:Nat}{ps:List (Rat×Rat)} (h:cE H x n ps) (s:aA H H'):cE H' x n ps:=by
 obtain⟨⟨t,zs,a,b,c⟩,ok⟩:=h
 exact⟨⟨t,zs,s _ _ a,s _ _ b,c.keep s⟩,ok⟩
def sX:Sp:=λ vs H Q _=>∃ (b t:Int) (m:Nat),vs = [.int b,.int t]/\Sz m b/\0<=t/\m*t.toNat+1<=8900/\m<=8900/\t<=1000/\Q (.int (b^t.toNat)) H
theorem m6:aG ["base","count","product","turn"] ["base","count"] (aC xH):=aY
theorem EQ (F:Fun K "power" "power" xH f fd) (T:Txt mg):aS P w K mg base CX0 1 f fd ["base","count"] sX:=by
 refine F.oka m6 λ cdv A outer s H vs Q E hr h=>?_
 obtain⟨b,t,m,rfl,sb,t0,t1,t2,t3,q⟩:=h
 refine⟨_,(ag (aD (i:=2) m6.nd rfl (Or.inl rfl) aj)
  (ag (eR PassesOwn.never rfl (cZ rfl T.range (ae (pv 1) af)) (aP (i:=3) m6.nd rfl (Or.inl rfl)) (ak (aD (i:=2) m6.nd rfl (Or.inl rfl) (ar bW (pv 2) (pv 0)))))
  (ak (aE (pv 2))))),?_⟩
 refine⟨_,rfl,_,rfl,by omega,by omega,?_⟩
 refine i3 (lo:=0) (λ i σ H'=>H'=H/\∃ v,σ = [some (.int b),some (.int t),some (.int (b^i)),v]) ⟨rfl,none,by rw[Int.pow_zero]<;>rfl⟩ ?_ ?_
 ·rintro i σ H' hi ⟨rfl,v,rfl⟩
  refine⟨_,rfl,_,rfl,_,_,rfl,rfl,⟨(sb.powN i).smk (Nat.le_trans (Nat.add_le_add_right (Nat.mul_le_mul_left m (Nat.le_of_lt hi)) 1) t1),sb.smk t2⟩,rfl,some (.int (0+(i:Int))),?_⟩
  rw[Int.pow_succ]<;>rfl
 ·rintro σ H' ⟨rfl,v,rfl⟩
  exact⟨_,rfl,q⟩
theorem Cr {n k:Nat} (h:k<=n):cho (n:Int) (k:Int)=(bE n k:Int):=by
 rw[zO (by omega) (by omega)]<;>rfl
theorem Shp.sd {H:Hp}{a:Addr}{p:Rat} (h:Shp H a p):Sz 300 ((p.den:Int)-p.num):=DV h.num.1 h.num.2 h.sz
theorem iM.on {H H':Hp}{r:Rat}{Q:VK} (q:iM H r Q) (s:aA H H'):iM H' r Q:=λ a H'' s' e=>q a H'' (s.trans s') e
def wp:Sp:=λ vs H Q _=>∃ (n k:Nat) (a:Addr) (p:Rat),vs = [.int n,.int k,.ref a]/\Shp H a p/\n<=12/\k<=n/\Q (.int (lE p n k)) H
theorem At:aG ["n","k","p"] ["n","k","p"] (aC qD):=aY
theorem A4 (F:Fun K "weight_top" "weight_top" qD f fd) (T:Txt mg) (Gcho:Cl P w K mg base CX0 1 "choices" ["n","k"] Di) (Gpow:Cl P w K mg base CX0 1 "power" ["base","count"] sX):aS P w K mg base CX0 2 f fd ["n","k","p"] wp:=by
 refine F.oka At λ cdv A outer s H vs Q E hr h=>?_
 obtain⟨n,k,a,p,rfl,sp,hn,hk,q⟩:=h
 refine⟨_,(ak (aE (ar bW (ar bW (aJ Gcho hr rfl aN (ae (pv 0) (ae (pv 1) af))) (aJ Gpow hr rfl aN (ae (aF aH (pv 2) aj (λ _ _=>rfl)) (ae (pv 1) af)))) (aJ Gpow hr rfl aN (ae (ar eS (aF aH (pv 2) aj (λ _ _=>rfl)) (aF aH (pv 2) aj (λ _ _=>rfl))) (ae (ar eS (pv 0) (pv 1)) af)))))),?_⟩
 have e1:((k:Int)).toNat=k:=rfl
 have e2:((n:Int)-(k:Int)).toNat=n-k:=by omega
 have s1:Sz (300*k+1) (p.num^k):=sp.sn.powN k
 have s2:Sz (300*(n-k)+1) (((p.den:Int)-p.num)^(n-k)):=sp.sd.powN (n-k)
 have s3:=(oM n k).mul s1
 refine⟨_,rfl,_,rfl,n,k,rfl,by omega,_,rfl,a,_,0,_,rfl,rfl,SqT.of sp.ob,at0,_,rfl,p.num,k,300,rfl,sp.sn,by omega,by omega,by decide,by omega,?_⟩
 rw[Cr hk,e1]
 refine⟨_,_,rfl,rfl,⟨(oM n k).smk (by omega),s1.smk (by omega)⟩,_,rfl,a,_,1,_,rfl,rfl,SqT.of sp.ob,at1,_,rfl,a,_,0,_,rfl,rfl,SqT.of sp.ob,at0,_,_,rfl,rfl,_,rfl,_,rfl,_,_,rfl,rfl,_,_,300,rfl,sp.sd,by omega,by omega,by decide,by omega,?_⟩
 rw[e2]
 exact⟨_,_,rfl,rfl,⟨s3.smk (by omega),s2.smk (by omega)⟩,q⟩
def mV:Sp:=λ vs H Q _=>∃ (n i j:Nat) (a:Addr) (p:Rat),vs = [.int n,.int i,.int j,.ref a]/\Shp H a p/\n<=12/\i<=n/\j<=n/\iM H (lJ p n i j) Q
def pI (p:Rat) (n i d:Nat):Int:=ism (lE p n) d-ism (lE p n) i
theorem y8 (p:Rat) {n i d:Nat} (hi:i<=n+1) (hd:d<=n+1):rn p n i d*(((p.den:Int)^n:Int):Rat)=((pI p n i d:Int):Rat):=by
 have a:=kQ (f:=lE p n) (g:=wt p n) (c:=(((p.den:Int)^n:Int):Rat)) (m:=i) λ k hk=>sI p (by omega)
 have b:=kQ (f:=lE p n) (g:=wt p n) (c:=(((p.den:Int)^n:Int):Rat)) (m:=d) λ k hk=>sI p (by omega)
 unfold rn cu pI
 rw[Rat.intCast_sub,<-a,<-b];grind
theorem wm (p:Rat) (n i m:Nat):((List.range m).map λ k=>lE p n (i+k)).sum=pI p n i (i+m):=by
 induction m with
 | zero=>simp [pI]
 | succ m ih =>
  rw[List.range_succ,List.map_append,List.sum_append,ih,List.map_cons,List.map_nil,List.sum_cons,List.sum_nil]
  unfold pI
  rw[<-Nat.add_assoc,ism]
  omega
theorem tz:aG ["n","i","j","p","tops"] ["n","i","j","p"] (aC qJ):=aY
theorem Ba (F:Fun K "run_sum" "run_sum" qJ f fd) (T:Txt mg) (Gwtop:Cl P w K mg base CX0 3 "weight_top" ["n","k","p"] wp) (Gpow:Cl P w K mg base CX0 3 "power" ["base","count"] sX) (Gfrac:Cl P w K mg base (CXX P w) 3 "fraction" ["top","bottom"] (fQ C)):aS P w K mg base CX0 4 f fd ["n","i","j","p"] mV:=by
 refine F.oka tz λ cdv A outer s H vs Q E hr h=>?_
 obtain⟨n,i,j,a,p,rfl,sp,hn,hi,hj,q⟩:=h
 refine⟨_,(ag (tR (i:=4) tz.nd rfl (Or.inl rfl) (xs:=["k"]) (ts:=[("n",0),("p",3)]) rfl ⟨rfl,DX rfl rfl,rfl,rfl,rfl,by decide +kernel,rfl,rfl⟩ (uU rfl T.range (ae (pv 1) (ae (ar bM (pv 2) aj) af))) (λ C s3 H3 fp=>(aP (i:=0) (show (["k","n","p"]:List Str).Nodup by decide +kernel) rfl (Or.inl rfl) (Or.inr rfl))) (λ C s3 H3 fp=>cN) (λ C s3 H3 fp=>(aJ Gwtop hr rfl aN (ae (pv 1) (ae (pv 0) (ae (pv 2) af))))))
  (ak (aE (aJ Gfrac hr rfl fL (ae (aT (zP rfl) rfl T.sum boot_sum (ae (pv 4) af)) (ae (aJ Gpow hr rfl aN (ae (aF aH (pv 3) aj (λ _ _=>rfl)) (ae (pv 0) af))) af)))))),?_⟩
 refine⟨_,rfl,_,rfl,_,_,rfl,rfl,_,_,rfl,⟨by omega,by omega,by omega,by omega⟩,λ D hD=>?_⟩
 have em:i+((j:Int)+1-(i:Int)).toNat=max i (j+1):=by omega
 have lim:max i (j+1)<=n+1:=by omega
 refine jx (λ m=>V.int (lE p n (i+m))) hD (Nat.le_trans (show _<=40 by omega) (by decide)) ?_ ?_
 ·intro m H2 k hm sm hk
  have ek:(i:Int)+(m:Int)=((i+m:Nat):Int):=by omega
  rw[ek]
  exact⟨_,rfl,_,rfl,_,rfl,n,i+m,a,p,rfl,sp.keep sm,hn,by omega,hk H2 (aA.refl H2)⟩
 intro H2 s2 hD2
 refine⟨_,rfl,D,(List.range ((j:Int)+1-(i:Int)).toNat).map (λ m=>lE p n (i+m)),rfl,SqL.of (by rw[hD2,List.map_map];rfl),?_⟩
 rw[wm,em]
 refine⟨_,rfl,a,_,1,_,rfl,rfl,SqT.of (sp.keep s2).ob,at1,_,rfl,(p.den:Int),n,300,rfl,sp.sz,by omega,by omega,by decide,by omega,?_⟩
 have e3:((n:Int)).toNat=n:=rfl
 rw[e3]
 have dp:(0:Int)<(p.den:Int)^n:=Int.pow_pos (lK p)
 exact eg (Int.ne_of_gt dp) ((sp.sz.powN n).smk (by omega)) (fO (gW (Int.ne_of_gt dp) (y8 p (show i<=n+1 by omega) lim)) (q.on s2))
theorem Shp.fr {H:Hp}{a:Addr}{p:Rat} (h:Shp H a p):FrA H a p:=⟨h.ob,h.sn.mono (by decide),h.sz.mono (by decide)⟩
def ii:Sp:=λ vs H Q _=>∃ f g r s,vs = [.ref f,.ref g]/\FrA H f r/\FrA H g s/\Q (.bl (decide (r<s))) H
def fqR (p:Rat):Fq:=(p.num,(p.den:Int))
theorem Fw (r s:Rat):decide (r.num*(s.den:Int)<s.num*(r.den:Int))=decide (r<s):=by
 by_cases c:r<s
 ·rw[decide_eq_true c,decide_eq_true ((nD r s).mpr c)]
 ·rw[decide_eq_false c,decide_eq_false (λ z=>c ((nD r s).mp z))]
theorem FO (p q:Rat):gM (fqR p) (fqR q)=decide (p<q):=Fw p q
theorem eA:∀ (vs:List V) (H:Hp) (Q:VK) (E:XK),ii vs H Q E->mS vs H Q E:=λ vs H Q E h=>by
 obtain⟨f,g,r,s,rfl,t,u,q⟩:=h
 exact⟨f,g,fqR r,fqR s,rfl,t.ob,u.ob,⟨t.st.smk (by decide),t.sb.smk (by decide)⟩,⟨u.st.smk (by decide),u.sb.smk (by decide)⟩,by rw[FO];exact q⟩
theorem zv {H:Hp}{f:Addr}{r:Rat}{B:Nat} (e:H f=some (.tup [.int r.num,.int (r.den:Int)])) (h:Ov B r) (hB:0<B) (hn:B<2^4400) (h0:0<=r) (h1:r<=1):FrA H f r :=
 have z:=RSz.of h hB hn h0 h1
 ⟨e,z.t,z.b⟩
theorem Shp.den1 {H:Hp}{a:Addr}{p:Rat} (h:Shp H a p):0<p.den/\p.den<2^300:=⟨by have:=p.den_nz;omega,by have:=h.sz;unfold Sz at this;omega⟩
theorem Shp.pw {H:Hp}{a:Addr}{p:Rat} (h:Shp H a p) {n:Nat} (hn:n<=14):0<p.den^n/\p.den^n<2^4400:=by
 refine⟨Nat.pow_pos h.den1.1,?_⟩
 by_cases z:n=0
 ·subst z;rw[Nat.pow_zero];exact Nat.one_lt_two_pow (by decide)
 ·exact Nat.lt_of_lt_of_le (Du h.den1.2 (by omega)) (Nat.pow_le_pow_right (by decide) (by omega))
theorem uk {H H':Hp}{a f:Addr}{p:Rat} (h:Shp H a p) {n i j:Nat} (hn:n<=12) (e:H' f=some (.tup [.int (lJ p n i j).num,.int ((lJ p n i j).den:Int)])):FrA H' f (lJ p n i j) :=
 have u:=mf h.lo h.hi n i j
 zv e (tI (Ov.self p) n i j) (h.pw (by omega)).1 (h.pw (by omega)).2 u.1 u.2
theorem Hh {H:Hp}{a:Addr} (h:H a=some (.tup [.int 0,.int 1])):Shp H a 0:=⟨h,by decide,by decide,by show (1:Nat)<2^300;decide⟩
theorem Hg {H:Hp}{a:Addr} (h:H a=some (.tup [.int 1,.int 1])):Shp H a 1:=⟨h,by decide,by decide,by show (1:Nat)<2^300;decide⟩
noncomputable abbrev dD (ps:List (Rat×Rat)):List Rat:=ps.map (·.1)
noncomputable abbrev fF (ps:List (Rat×Rat)):List Rat:=ps.map (·.2)
def fK (ps:List (Rat×Rat)) (a b:Rat):Option (Nat×Nat):=if bR b (fF ps)<ib a (dD ps) then some (bR b (fF ps),ib a (dD ps)-1) else none
def lD (H:Hp):Option (Nat×Nat)->V->Prop
 | none,v=>v=.non
 | some r,v=>∃ t,v=.ref t/\H t=some (.tup [.int (r.1:Int),.int (r.2:Int)])
theorem lD.keep {H H':Hp} (s:aA H H'):∀ {r:Option (Nat×Nat)}{v:V},lD H r v->lD H' r v
 | none,_,h=>h
 | some _,_,⟨t,e,h⟩=>⟨t,e,s _ _ h⟩
theorem x8 {n:Nat}{ps:List (Rat×Rat)} (ok:om n ps) {a b:Rat}{r:Nat×Nat} (h:fK ps a b=some r):r.1<=r.2/\r.2<=n:=by
 unfold fK at h
 split at h
 ·rename_i c
  cases h
  have:=oG a (dD ps)
  rw[List.length_map,ok.len] at this
  exact⟨by show bR b (fF ps)<=ib a (dD ps)-1;omega,by show ib a (dD ps)-1<=n;omega⟩
 ·cases h
theorem iZ {r:Rat}:∀ {l:List Rat},Up l->(l.filter λ x=>decide (x<r)).length=bR r l
 | [],_=>rfl
 | x::l,u=>by
  by_cases c:x<r
  ·have e:(x::l).filter (λ x=>decide (x<r))=x::l.filter (λ x=>decide (x<r)):=by simp [c]
   rw[e,List.length_cons,iZ (List.pairwise_cons.mp u).2,bR,if_pos c]
  ·have e:(x::l).filter (λ x=>decide (x<r))=l.filter (λ x=>decide (x<r)):=by simp [c]
   rw[e,bR,if_neg c]
   have:l.filter (λ x=>decide (x<r)) = []:=by
    apply List.filter_eq_nil_iff.mpr
    intro y hy
    have:=(List.pairwise_cons.mp u).1 y hy
    simp
    grind
   rw[this]<;>rfl
theorem vT {ps:List (Rat×Rat)} (u:Up (fF ps)) (b:Rat):(ps.filter λ h=>decide (h.2<b)).length=bR b (fF ps):=by
 rw[<-iZ u]
 unfold fF
 rw[List.filter_map,List.length_map]<;>rfl
theorem zM {ps:List (Rat×Rat)} (u:Up (dD ps)) (a:Rat):(ps.filter λ h=>!decide (a<h.1)).length=ib a (dD ps):=by
 rw[<-oH u]
 unfold dD
 rw[List.filter_map,List.length_map]
 congr 1
 apply List.filter_congr
 intro x _
 by_cases c:a<x.1
 ·have:¬ x.1<=a:=by grind
  simp [c,this]
 ·have:x.1<=a:=by grind
  simp [c,this]
def wE:Sp:=λ vs H Q _=>∃ (x:Addr) (n:Nat) (ps:List (Rat×Rat)) (a b:Addr) (ra rb:Rat),vs = [.ref x,.ref a,.ref b]/\cE H x n ps/\Shp H a ra/\Shp H b rb/\∀ v H',aA H H'->lD H' (fK ps ra rb) v->Q v H'
theorem qB:aG ["rule","a","b","first","last"] ["rule","a","b"] (aC xG):=aY
theorem EO (F:Fun K "run_over" "run_over" xG f fd) (T:Txt mg) (Gund:Cl P w K mg base CX0 1 "under" ["one","other"] ii):aS P w K mg base CX0 2 f fd ["rule","a","b"] wE:=by
 refine F.oka qB λ cdv A outer s H vs Q E hr h=>?_
 obtain⟨x,n,ps,a,b,ra,rb,rfl,⟨⟨t,zs,hx,ht,row⟩,ok⟩,sa,sb,q⟩:=h
 refine⟨_,(ag (aD (i:=3) qB.nd rfl (Or.inl rfl) (aT bF rfl T.len boot_len (ae (dy (xs:=["low","high"]) (ts:=[("b",2)]) rfl ⟨rfl,uD rfl,rfl,rfl,rfl,by decide +kernel,rfl,rfl⟩ (iW (aF aH (pv 0) aj (λ _ _=>rfl))) (λ C s3 H3 fp=>(eG (n:=2) rfl (aR (aP (i:=0) (show (["low","high","b"]:List Str).Nodup by decide +kernel) rfl (Or.inl rfl) (Or.inr rfl)) (aR (aP (i:=1) (show (["low","high","b"]:List Str).Nodup by decide +kernel) rfl (Or.inl rfl) (Or.inr rfl)) b5)))) (λ C s3 H3 fp=>(nH (br (aJ Gund hr rfl aN (ae (pv 1) (ae (pv 2) af)))))) (λ C s3 H3 fp=>(pv 1))) af)))
  (ag (aD (i:=4) qB.nd rfl (Or.inl rfl) (ar eS (aT bF rfl T.len boot_len (ae (dy (xs:=["low","high"]) (ts:=[("a",1)]) rfl ⟨rfl,uD rfl,rfl,rfl,rfl,by decide +kernel,rfl,rfl⟩ (iW (aF aH (pv 0) aj (λ _ _=>rfl))) (λ C s3 H3 fp=>(eG (n:=2) rfl (aR (aP (i:=0) (show (["low","high","a"]:List Str).Nodup by decide +kernel) rfl (Or.inl rfl) (Or.inr rfl)) (aR (aP (i:=1) (show (["low","high","a"]:List Str).Nodup by decide +kernel) rfl (Or.inl rfl) (Or.inr rfl)) b5)))) (λ C s3 H3 fp=>(nH (bK (br (aJ Gund hr rfl aN (ae (pv 2) (ae (pv 0) af))))))) (λ C s3 H3 fp=>(pv 0))) af)) aj))
  (ag (aU (aK gE (pv 3) (pv 4) (aO _)) (ak (aE gR)) aI)
  (ak (aE (aW (ae (pv 3) (ae (pv 4) af)))))))),?_⟩
 have lz:=row.len
 have l13:=ok.len
 have n12:=ok.n12
 have big:zs.length<=sizeLine:=Nat.le_trans (show zs.length<=40 by omega) (by decide)
 refine⟨_,rfl,x,_,1,_,rfl,rfl,SqT.of hx,at1,t,rfl,⟨_,SqT.of ht⟩,λ D hD=>?_⟩
 refine lh ps (λ h=>decide (h.2<rb)) (λ h u v=>∃ la ha,u=.ref la/\v=.ref ha/\Shp H la h.1/\Shp H ha h.2) hD (SqT.of ht) (by omega) big ?_ ?_ ?_ ?_
 ·intro i h e
  obtain⟨c,la,ha,e1,e2,e3,e4⟩:=row.get e
  exact⟨c,_,_,e1,e2,la,ha,rfl,rfl,e3,e4⟩
 ·rintro h u v H2 k ⟨la,ha,rfl,rfl,s1,s2⟩ sm hk
  exact⟨_,rfl,_,rfl,ha,b,_,_,rfl,(s2.keep sm).fr,(sb.keep sm).fr,_,rfl,hk H2 (aA.refl H2)⟩
 ·rintro h u v H2 k ⟨la,ha,rfl,rfl,s1,s2⟩ sm hk
  exact⟨_,rfl,hk _ _ (aA.refl H2)⟩
 intro H1 ys s1 hD1 hl1
 rw[vT ok.highs] at hl1
 refine⟨D,ys,rfl,.inl (SqL.of hD1),?_⟩
 rw[hl1]
 refine⟨_,rfl,x,_,1,_,rfl,rfl,SqT.of (s1 _ _ hx),at1,t,rfl,⟨_,SqT.of (s1 _ _ ht)⟩,λ D' hD'=>?_⟩
 refine lh ps (λ h=>!decide (ra<h.1)) (λ h u v=>∃ la ha,u=.ref la/\v=.ref ha/\Shp H la h.1/\Shp H ha h.2) hD' (SqT.of (s1 _ _ ht)) (by omega) big ?_ ?_ ?_ ?_
 ·intro i h e
  obtain⟨c,la,ha,e1,e2,e3,e4⟩:=row.get e
  exact⟨c,_,_,e1,s1 _ _ e2,la,ha,rfl,rfl,e3,e4⟩
 ·rintro h u v H2 k ⟨la,ha,rfl,rfl,t1,t2⟩ sm hk
  exact⟨_,rfl,_,rfl,a,la,_,_,rfl,(sa.keep (s1.trans sm)).fr,(t1.keep (s1.trans sm)).fr,_,rfl,hk H2 (aA.refl H2)⟩
 ·rintro h u v H2 k ⟨la,ha,rfl,rfl,t1,t2⟩ sm hk
  exact⟨_,rfl,hk _ _ (aA.refl H2)⟩
 intro H2 ys' s2 hD2 hl2
 rw[zM ok.lows] at hl2
 refine⟨D',ys',rfl,.inl (SqL.of hD2),_,_,rfl,rfl,?_⟩
 rw[hl2]
 refine⟨_,rfl,_,rfl,_,_,rfl,rfl,_,rfl,?_⟩
 refine c7 (λ c=>?_) (λ c=>?_)
 ·have c':(ib ra (dD ps):Int)-1<(bR rb (fF ps):Int):=of_decide_eq_true c
  refine q _ _ (s1.trans s2) ?_
  unfold fK
  rw[if_neg (by omega)]<;>rfl
 ·have c':=ofD c
  refine⟨_,rfl,_,rfl,(by show 2<=sizeLine;decide),λ r hr'=>q _ _ ((s1.trans s2).trans (aw hr' _)) ?_⟩
  unfold fK
  rw[if_pos (by omega)]
  refine⟨r,rfl,?_⟩
  rw[ai]
  have e:((ib ra (dD ps):Int)-1)=((ib ra (dD ps)-1:Nat):Int):=by omega
  show some (HO.tup [V.int _,V.int ((ib ra (dD ps):Int)-1)])=_
  rw[e]
def wL:Sp:=λ vs H Q _=>∃ (x:Addr) (n:Nat) (ps:List (Rat×Rat)) (a:Addr) (r:Rat),vs = [.ref x,.ref a]/\cE H x n ps/\Shp H a r/\∀ v H',aA H H'->lD H' (fK ps r r) v->Q v H'
theorem Ay:aG ["rule","p"] ["rule","p"] (aC qU):=aY
theorem Bk (F:Fun K "held" "held" qU f fd) (T:Txt mg) (Grov:Cl P w K mg base CX0 2 "run_over" ["rule","a","b"] wE):aS P w K mg base CX0 3 f fd ["rule","p"] wL:=by
 refine F.oka Ay λ cdv A outer s H vs Q E hr h=>?_
 obtain⟨x,n,ps,a,r,rfl,hx,sa,q⟩:=h
 refine⟨_,(ak (aE (aJ Grov hr rfl aN (ae (pv 0) (ae (pv 1) (ae (pv 1) af)))))),?_⟩
 exact⟨_,rfl,_,rfl,_,rfl,x,n,ps,a,a,r,r,rfl,hx,sa,sa,q⟩
def eW (p:Rat) (n:Nat):Option (Nat×Nat)->Rat
 | none=>0
 | some r=>lJ p n r.1 r.2
def wx:Sp:=λ vs H Q _=>∃ (n:Nat) (v:V) (r:Option (Nat×Nat)) (a:Addr) (p:Rat),vs = [.int n,v,.ref a]/\lD H r v/\Shp H a p/\n<=12/\(∀ z,r=some z->z.1<=z.2/\z.2<=n)/\iM H (eW p n r) Q
theorem D3:aG ["n","run","p"] ["n","run","p"] (aC xy):=aY
theorem EG (F:Fun K "sum_of_run" "sum_of_run" xy f fd) (T:Txt mg) (Grsum:Cl P w K mg base CX0 4 "run_sum" ["n","i","j","p"] mV):aS P w K mg base CX0 5 f fd ["n","run","p"] wx:=by
 refine F.oka D3 λ cdv A outer s H vs Q E hr h=>?_
 obtain⟨n,v,r,a,p,rfl,rv,sp,hn,hz,q⟩:=h
 refine⟨_,(ag (aU (aK yv (pv 1) gR (aO _)) (ak (aE (aW (ae aj (ae aj af))))) aI)
  (ak (aE (aJ Grsum hr rfl aN (ae (pv 0) (ae (aF aH (pv 1) aj (λ _ _=>rfl)) (ae (aF aH (pv 1) aj (λ _ _=>rfl)) (ae (pv 2) af)))))))),?_⟩
 cases r with
 | none =>
  have e:v=V.non:=rv
  subst e
  refine⟨_,rfl,rfl,_,rfl,bj ?_⟩
  refine⟨(by show 2<=sizeLine;decide),λ t ht=>q t _ (aw ht _) ?_⟩
  rw[ai]<;>rfl
 | some z =>
  obtain⟨t,e,ht⟩:=rv
  subst e
  obtain⟨z1,z2⟩:=hz z rfl
  refine⟨_,rfl,rfl,_,rfl,bf ?_⟩
  exact⟨_,rfl,_,rfl,t,_,0,_,rfl,rfl,SqT.of ht,at0,_,rfl,t,_,1,_,rfl,rfl,SqT.of ht,at1,_,rfl,n,z.1,z.2,a,p,rfl,sp,hn,by omega,z2,q⟩
def wP:Sp:=λ vs H Q _=>∃ (x:Addr) (n:Nat) (ps:List (Rat×Rat)) (a:Addr) (p:Rat),vs = [.ref x,.ref a]/\cE H x n ps/\Shp H a p/\iM H (eW p n (fK ps p p)) Q
theorem Eb:aG ["rule","p"] ["rule","p"] (aC xS):=aY
theorem E3 (F:Fun K "cover" "cover" xS f fd) (T:Txt mg) (Gheld:Cl P w K mg base CX0 5 "held" ["rule","p"] wL) (Gsor:Cl P w K mg base CX0 5 "sum_of_run" ["n","run","p"] wx):aS P w K mg base CX0 6 f fd ["rule","p"] wP:=by
 refine F.oka Eb λ cdv A outer s H vs Q E hr h=>?_
 obtain⟨x,n,ps,a,p,rfl,hx,sa,q⟩:=h
 refine⟨_,(ak (aE (aJ Gsor hr rfl aN (ae (aF aH (pv 0) aj (λ _ _=>rfl)) (ae (aJ Gheld hr rfl aN (ae (pv 0) (ae (pv 1) af))) (ae (pv 1) af)))))),?_⟩
 obtain⟨t,zs,ex,et,row⟩:=hx.ob
 refine⟨_,rfl,x,_,0,_,rfl,rfl,SqT.of ex,at0,_,rfl,_,rfl,x,n,ps,a,p,rfl,hx,sa,λ v H1 s1 rv=>?_⟩
 exact⟨_,rfl,n,v,_,a,p,rfl,rv,sa.keep s1,hx.ok.n12,λ z hz=>x8 hx.ok hz,q.on s1⟩
def dC (ps:List (Rat×Rat)):List Rat:=0::1::ps.flatMap λ p=>[p.1,p.2]
theorem ku (ps:List (Rat×Rat)):(dC ps).length=2+2*ps.length:=by
 unfold dC
 induction ps with
 | nil=>rfl
 | cons p ps ih=>simp only[List.flatMap_cons,List.length_cons,List.length_append,List.length_nil] at ih ⊢;omega
theorem uK (ps:List (Rat×Rat)) (p:Rat×Rat):dC (ps++[p])=dC ps++[p.1,p.2]:=by
 unfold dC
 rw[List.flatMap_append]<;>rfl
theorem yf {H:Hp}:∀ {rs:List Rat}{xs:List V},ShL H rs xs->Prs H (rs.map λ r=>(r.num,(r.den:Int))) xs
 | [],_,h=>h
 | _::_,_,⟨a,ys,e,h1,h2⟩=>⟨a,ys,e,h1.ob,yf h2⟩
theorem CJ (rs:List Rat) (r:Rat):((rs.map λ r=>(r.num,(r.den:Int))).any λ w=>decide (w=(r.num,(r.den:Int))))=decide (r∈rs):=by
 rw[Bool.eq_iff_iff,List.any_eq_true,decide_eq_true_iff]
 constructor
 ·rintro⟨w,hw,e⟩
  obtain⟨s,hs,rfl⟩:=List.mem_map.mp hw
  have e':=of_decide_eq_true e
  simp only[Prod.mk.injEq] at e'
  rw[<-Em e'.1 e'.2]
  exact hs
 ·intro h
  exact⟨_,List.mem_map.mpr ⟨r,h,rfl⟩,decide_eq_true rfl⟩
def tf:Sp:=λ vs H Q _=>∃ (x:Addr) (n:Nat) (ps:List (Rat×Rat)),vs = [.ref x]/\cE H x n ps/\∀ l H' ws,H l=none->aA H H'->H' l=some (.lst ws)->ShL H' (edg (dC ps)) ws->Q (.ref l) H'
theorem eV:aG ["rule","ends","stretch","told","end","place"] ["rule"] (aC nu):=aY
theorem yG (F:Fun K "edges" "edges" nu f fd) (T:Txt mg) (Gund:Cl P w K mg base CX0 1 "under" ["one","other"] ii):aS P w K mg base CX0 2 f fd ["rule"] tf:=by
 refine F.oka eV λ cdv A outer s H vs Q E hr h=>?_
 obtain⟨x,n,ps,rfl,⟨⟨t,zs,hx,ht,row⟩,ok⟩,q⟩:=h
 refine⟨_,(ag (aD (i:=1) eV.nd rfl (Or.inl rfl) (bG (ae (aW (ae aj (ae aj af))) (ae (aW (ae aj (ae aj af))) af))))
  (ag (eR PassesOwn.never rfl (iW (aF aH (pv 0) aj (λ _ _=>rfl))) (aP (i:=2) eV.nd rfl (Or.inl rfl)) (ak (jL (tW PySem.F.plainAttrs_list PySem.F.slot_list_extend PySem.F.type_list_extend rD (pv 1) (ae (pv 2) af)))))
  (ag (aD (i:=3) eV.nd rfl (Or.inl rfl) (bG af))
  (ag (eR PassesOwn.never rfl (fA (pv 1)) (aP (i:=4) eV.nd rfl (Or.inr rfl)) (ak (aU (aK (uZ hr.units) (pv 4) (pv 3) (by with_unfolding_all rfl)) (ag (aD (i:=5) eV.nd rfl (Or.inl rfl) (aT bF rfl T.len boot_len (ae (dy (xs:=["edge"]) (ts:=[("end",4)]) rfl ⟨rfl,uD rfl,rfl,rfl,rfl,by decide +kernel,rfl,rfl⟩ (fA (pv 3)) (λ C s3 H3 fp=>(aP (i:=0) (show (["edge","end"]:List Str).Nodup by decide +kernel) rfl (Or.inl rfl) (Or.inr rfl))) (λ C s3 H3 fp=>(nH (br (aJ Gund hr rfl aN (ae (pv 0) (ae (pv 1) af)))))) (λ C s3 H3 fp=>(pv 0))) af)))
    (ak (jL (tW PySem.F.plainAttrs_list PySem.F.slot_list_insert PySem.F.type_list_insert vo (pv 3) (ae (pv 5) (ae (pv 4) af)))))) aI)))
  (ak (aE (pv 3))))))),?_⟩
 have lz:=row.len
 have l13:=ok.len
 have n12:=ok.n12
 refine⟨(by show 2<=sizeLine;decide),λ a0 h0=>⟨(by show 2<=sizeLine;decide),λ a1 h1=>⟨(by show 2<=sizeLine;decide),λ l hl=>?_⟩⟩⟩
 have s0:=aw h0 (.tup [V.int 0,V.int 1])
 have s1:=aw h1 (.tup [V.int 1,V.int 1])
 have s2:=aw hl (.lst [V.ref a0,V.ref a1])
 have s02:=(s0.trans s1).trans s2
 have p0:=((Hh (H:=upd H a0 (.tup [V.int 0,V.int 1])) ai).keep s1).keep s2
 have p1:=(Hg (H:=upd (upd H a0 (.tup [V.int 0,V.int 1])) a1 (.tup [V.int 1,V.int 1])) ai).keep s2
 refine⟨_,rfl,x,_,1,_,rfl,rfl,SqT.of (s02 _ _ hx),at1,t,rfl,⟨_,SqT.of (s02 _ _ ht)⟩,?_⟩
 have hln:H l=none:=by
  cases e:H l with
  | none=>rfl
  | some o=>rw[s1 _ _ (s0 _ _ e)] at hl;cases hl
 refine ul (xs:=zs) (λ i σ H'=>aA H H'/\∃ ws v1 v2 v3 v4,σ = [some (.ref x),some (.ref l),v1,v2,v3,v4]/\H' l=some (.lst ws)/\ShL H' (dC (ps.take i)) ws) ⟨s02,_,none,none,none,none,rfl,ai,a0,_,rfl,p0,a1,_,rfl,p1,rfl⟩ ?_ ?_ ?_
 ·rintro i σ H' hi ⟨sm,_⟩
  exact SqT.of (sm _ _ ht)
 ·rintro i z σ H' hz ⟨sm,ws,v1,v2,v3,v4,rfl,hl',shw⟩
  have hi:i<ps.length:=by rw[<-lz];exact (List.getElem?_eq_some_iff.mp hz).1
  have ep:=List.getElem?_eq_getElem hi
  obtain⟨d,la,ha,e1,e2,e3,e4⟩:=(row.keep sm).get ep
  rw[hz] at e1
  cases e1
  have lw:=shw.len
  rw[ku] at lw
  have lt:(ps.take i).length=i:=by simp;omega
  refine⟨_,rfl,.inl ⟨rfl,_,SqL.of hl'⟩,_,rfl,l,d,ws,_,rfl,rfl,hl',e2,Nat.le_trans (show _<=60 by simp;omega) (by decide),?_⟩
  refine⟨kn sm hln,_,_,_,_,_,rfl,ai,?_⟩
  rw[List.take_add_one,ep]
  show ShL _ (dC (ps.take i++[ps[i]])) _
  rw[uK]
  exact (shw.app (show ShL _ [_,_] [.ref la,.ref ha] from ⟨la,_,rfl,e3,ha,_,rfl,e4,rfl⟩)).write hl'
 rintro σ H1 ⟨sm1,ws,v1,v2,v3,v4,rfl,hl1,shw⟩
 rw[List.take_of_length_le (by omega)] at shw
 have lw:=shw.len
 have lr:=ku ps
 refine⟨Nat.zero_le _,λ m hm=>?_⟩
 have s3:=aw hm (.lst [])
 have sm2:=sm1.trans s3
 have hmn:H m=none:=by
  cases e:H m with
  | none=>rfl
  | some o=>rw[sm1 _ _ e] at hm;cases hm
 have nml:m≠l:=λ e=>by rw[e,hl1] at hm;cases hm
 refine⟨_,rfl,l,rfl,⟨_,SqL.of (s3 _ _ hl1)⟩,?_⟩
 refine kU (xs:=ws) (λ i σ H'=>aA H H'/\∃ us v1 v3 v4,σ = [some (.ref x),some (.ref l),v1,some (.ref m),v3,v4]/\H' l=some (.lst ws)/\ShL H' (dC ps) ws/\H' m=some (.lst us)/\ShL H' (edg ((dC ps).take i)) us) ⟨sm2,[],v1,v3,v4,rfl,s3 _ _ hl1,shw.keep s3,ai,rfl⟩ ?_ ?_ ?_
 ·rintro i σ H' hi ⟨sm,us,u1,u3,u4,rfl,hl',_⟩
  exact SqL.of hl'
 ·rintro i z σ H' hz ⟨sm,us,u1,u3,u4,rfl,hl',shl',hm',shu⟩
  have hi:i<(dC ps).length:=by rw[<-lw];exact (List.getElem?_eq_some_iff.mp hz).1
  have ep:=List.getElem?_eq_getElem hi
  obtain⟨b,e1,sb⟩:=shl'.get ep
  rw[hz] at e1
  cases e1
  generalize (dC ps)[i]=r at *
  have tk:(dC ps).take (i+1)=(dC ps).take i++[r]:=by rw[List.take_add_one,ep];rfl
  have lu:=shu.len
  have l40:us.length<=40:=by
   rw[lu]
   exact Nat.le_trans (ur _) (by simp;omega)
  obtain⟨inc,_⟩:=rR ((dC ps).take i)
  rw[tk,kX]
  generalize edg ((dC ps).take i)=acc at *
  refine⟨_,rfl,_,rfl,m,us,_,b,(r.num,(r.den:Int)),rfl,rfl,SqL.of hm',yf shu,sb.ob,_,rfl,?_⟩
  rw[CJ]
  by_cases c:r∈acc
  ·rw[decide_eq_true c]
   refine bf ⟨sm,us,_,_,_,rfl,hl',shl',hm',?_⟩
   unfold lS
   rw[if_pos c]
   exact shu
  ·rw[decide_eq_false c]
   refine bj ?_
   refine⟨_,rfl,m,rfl,⟨_,SqL.of hm'⟩,λ D hD=>?_⟩
   refine se acc (λ h=>decide (h<r)) (λ h u=>∃ a,u=.ref a/\Shp H' a h) hD (SqL.of hm') (by omega) (Nat.le_of_lt (vv l40)) ?_ ?_ ?_ ?_
   ·intro j h e
    obtain⟨a,f1,f2⟩:=shu.get e
    exact⟨_,f1,a,rfl,f2⟩
   ·rintro h u H2 k ⟨a,rfl,sa⟩ s4 hk
    exact⟨_,rfl,_,rfl,a,b,_,_,rfl,(sa.keep s4).fr,(sb.keep s4).fr,_,rfl,hk H2 (aA.refl H2)⟩
   ·rintro h u H2 k ⟨a,rfl,sa⟩ s4 hk
    exact⟨_,rfl,hk _ _ (aA.refl H2)⟩
   intro H2 ys s4 hD2 hly
   rw[iZ inc.up] at hly
   have hm2:=s4 _ _ hm'
   have hl2:=s4 _ _ hl'
   have shu2:=shu.keep s4
   have sb2:=sb.keep s4
   refine⟨D,ys,rfl,.inl (SqL.of hD2),?_⟩
   rw[hly]
   have le:=kN r acc
   refine⟨_,rfl,.inl ⟨rfl,_,SqL.of hm2⟩,_,rfl,_,rfl,m,us,(bR r acc:Int),.ref b,rfl,rfl,hm2,by omega,by omega,vv l40,?_⟩
   have ek:((bR r acc:Int)).toNat=bR r acc:=rfl
   rw[ek]
   refine⟨kn (sm.trans s4) hmn,_,_,_,_,rfl,by rw[aM (Ne.symm nml)];exact hl2,(shl'.keep s4).write hm2,ai,?_⟩
   unfold lS
   rw[if_neg c]
   unfold pK
   have z:=((shu2.take (bR r acc)).app (show ShL _ [r] [.ref b] from ⟨b,[],rfl,sb2,rfl⟩)).app (shu2.drop (bR r acc))
   have z':=z.write (l:=m) (zs:=us) hm2 (ws:=us.take (bR r acc)++.ref b::us.drop (bR r acc))
   rw[List.append_assoc,List.append_assoc] at z'
   exact z'
 ·rintro σ H' ⟨sm,us,u1,u3,u4,rfl,hl',shl',hm',shu⟩
  rw[lw,List.take_length] at shu
  exact⟨_,rfl,q m H' us hmn sm hm' shu⟩
theorem vb {H H':Hp}{a:Addr} (s:aA H H') (h:H' a=none):H a=none:=by
 cases e:H a with
 | none=>rfl
 | some o=>rw[s _ _ e] at h;cases h
abbrev Pc:=Rat×Rat×Option (Nat×Nat)
def PcL (H:Hp):List Pc->List V->Prop
 | [],xs=>xs = []
 | p::ps,xs=>∃ t a b v ys,xs=.ref t::ys/\H t=some (.tup [.ref a,.ref b,v])/\Shp H a p.1/\Shp H b p.2.1/\lD H p.2.2 v/\PcL H ps ys
theorem PcL.keep {H H':Hp} (s:aA H H'):∀ {ps:List Pc}{xs:List V},PcL H ps xs->PcL H' ps xs
 | [],_,h=>h
 | _::_,_,⟨t,a,b,v,ys,e,h0,h1,h2,h3,h4⟩=>⟨t,a,b,v,ys,e,s _ _ h0,h1.keep s,h2.keep s,h3.keep s,h4.keep s⟩
theorem lD.write {H:Hp}{l:Addr}{zs ws:List V} (hl:H l=some (.lst zs)):∀ {r:Option (Nat×Nat)}{v:V},lD H r v->lD (upd H l (.lst ws)) r v
 | none,_,h=>h
 | some _,_,⟨t,e,h⟩=>⟨t,e,by rw[aM (ji h hl (by intro z;cases z))];exact h⟩
theorem PcL.write {H:Hp}{l:Addr}{zs ws:List V} (hl:H l=some (.lst zs)):∀ {ps:List Pc}{xs:List V},PcL H ps xs->PcL (upd H l (.lst ws)) ps xs
 | [],_,h=>h
 | _::_,_,⟨t,a,b,v,ys,e,h0,h1,h2,h3,h4⟩=>⟨t,a,b,v,ys,e,by rw[aM (ji h0 hl (by intro z;cases z))];exact h0,h1.write hl,h2.write hl,h3.write hl,h4.write hl⟩
theorem PcL.len {H:Hp}:∀ {ps:List Pc}{xs:List V},PcL H ps xs->xs.length=ps.length
 | [],_,h=>by rw[show _ = [] from h];rfl
 | _::_,_,⟨t,a,b,v,ys,e,h0,h1,h2,h3,h4⟩=>by rw[e,List.length_cons,List.length_cons,h4.len]
theorem PcL.get {H:Hp}:∀ {ps:List Pc}{xs:List V}{i:Nat}{p:Pc},PcL H ps xs->ps[i]? = some p->∃ t a b v,xs[i]? = some (.ref t)/\H t=some (.tup [.ref a,.ref b,v])/\Shp H a p.1/\Shp H b p.2.1/\lD H p.2.2 v
 | _::_,_,0,p,⟨t,a,b,v,ys,e,h0,h1,h2,h3,h4⟩,q=>by
  rw[List.getElem?_cons_zero] at q;cases q
  exact⟨t,a,b,v,by rw[e];rfl,h0,h1,h2,h3⟩
 | _::_,_,i+1,p,⟨t,a,b,v,ys,e,h0,h1,h2,h3,h4⟩,q=>by
  rw[List.getElem?_cons_succ] at q
  obtain⟨t',a',b',v',f,g⟩:=h4.get q
  exact⟨t',a',b',v',by rw[e,List.getElem?_cons_succ];exact f,g⟩
theorem PcL.app {H:Hp}:∀ {ps qs:List Pc}{xs ys:List V},PcL H ps xs->PcL H qs ys->PcL H (ps++qs) (xs++ys)
 | [],_,_,_,h,k=>by rw[show _ = [] from h];exact k
 | _::_,_,_,_,⟨t,a,b,v,zs,e,h0,h1,h2,h3,h4⟩,k=>by rw[e];exact⟨t,a,b,v,_,rfl,h0,h1,h2,h3,h4.app k⟩
def d4 (es:List Rat) (ps:List (Rat×Rat)):List Pc:=(List.range (es.length-1)).map λ k=>(es.getD k 0,es.getD (k+1) 0,fK ps (es.getD k 0) (es.getD (k+1) 0))
theorem ph (es:List Rat) (ps:List (Rat×Rat)) {i:Nat} (h:i<es.length-1):(d4 es ps).take (i+1)=(d4 es ps).take i++[(es.getD i 0,es.getD (i+1) 0,fK ps (es.getD i 0) (es.getD (i+1) 0))]:=by
 have:(d4 es ps)[i]? = some (es.getD i 0,es.getD (i+1) 0,fK ps (es.getD i 0) (es.getD (i+1) 0)):=by
  unfold d4
  rw[List.getElem?_map,List.getElem?_range h]<;>rfl
 rw[List.take_add_one,this]<;>rfl
theorem rj (es:List Rat) (ps:List (Rat×Rat)):(d4 es ps).length=es.length-1:=by simp [d4]
theorem B9 (ps:List (Rat×Rat)):2<=(edg (dC ps)).length:=by
 have m0:(0:Rat)∈edg (dC ps):=((rR _).2 0).mpr (List.mem_cons_self ..)
 have m1:(1:Rat)∈edg (dC ps):=((rR _).2 1).mpr (List.mem_cons_of_mem _ (List.mem_cons_self ..))
 match he:edg (dC ps) with
 | []=>rw[he] at m0;cases m0
 | [z] =>
  rw[he] at m0 m1
  have e0:=List.mem_singleton.mp m0
  have e1:=List.mem_singleton.mp m1
  exact absurd (e0.trans e1.symm) (by decide)
 | _::_::_=>simp
def oP:Sp:=λ vs H Q _=>∃ (x:Addr) (n:Nat) (ps:List (Rat×Rat)),vs = [.ref x]/\cE H x n ps/\∀ l H' ws,H l=none->aA H H'->H' l=some (.lst ws)->PcL H' (d4 (edg (dC ps)) ps) ws->Q (.ref l) H'
theorem me:aG ["rule","rising"] ["rule"] (aC kq):=aY
theorem u7 (F:Fun K "pieces" "pieces" kq f fd) (T:Txt mg) (Gedges:Cl P w K mg base CX0 2 "edges" ["rule"] tf) (Grov:Cl P w K mg base CX0 2 "run_over" ["rule","a","b"] wE):aS P w K mg base CX0 3 f fd ["rule"] oP:=by
 refine F.oka me λ cdv A outer s H vs Q E hr h=>?_
 obtain⟨x,n,ps,rfl,hx,q⟩:=h
 refine⟨_,(ag (aD (i:=1) me.nd rfl (Or.inl rfl) (aJ Gedges hr rfl aN (ae (pv 0) af)))
  (ak (aE (dy (xs:=["a","b"]) (ts:=[("rule",0)]) rfl ⟨rfl,uD rfl,rfl,rfl,rfl,by decide +kernel,rfl,rfl⟩ (AX rfl T.zip (ae (pv 1) (ae (cO tm (pv 1) (dh aj) eF) af))) (λ C s3 H3 fp=>(eG (n:=2) rfl (aR (aP (i:=0) (show (["a","b","rule"]:List Str).Nodup by decide +kernel) rfl (Or.inl rfl) (Or.inr rfl)) (aR (aP (i:=1) (show (["a","b","rule"]:List Str).Nodup by decide +kernel) rfl (Or.inl rfl) (Or.inr rfl)) b5)))) (λ C s3 H3 fp=>cN) (λ C s3 H3 fp=>(aW (ae (pv 0) (ae (pv 1) (ae (aJ Grov hr rfl aN (ae (pv 2) (ae (pv 0) (ae (pv 1) af)))) af))))))))),?_⟩
 refine⟨_,rfl,x,n,ps,rfl,hx,λ l H1 ws _ s1 hl shw=>?_⟩
 have lw:=shw.len
 have le:=ur (dC ps)
 have lr:=ku ps
 have l13:=hx.ok.len
 have n12:=hx.ok.n12
 have h2:2<=(edg (dC ps)).length:=B9 ps
 generalize hE:edg (dC ps)=es at *
 refine⟨_,rfl,_,rfl,_,rfl,l,ws,rfl,SqL.of hl,λ m hm=>?_⟩
 have s2:=aw hm (.lst (i7 ws (some 1) none))
 have ec:i7 ws (some 1) none=ws.drop 1:=p6 (by omega)
 rw[ec] at s2 ⊢
 refine⟨l,m,rfl,⟨_,SqL.of (s2 _ _ hl)⟩,⟨_,SqL.of ai⟩,λ D hD=>?_⟩
 have s12:=s1.trans s2
 have hx2:=hx.keep s12
 have shw2:=shw.keep s2
 refine vR (n:=es.length-1) (λ i zs H2=>PcL H2 ((d4 es ps).take i) zs) hD (SqL.of (s2 _ _ hl)) (SqL.of ai) (by omega) (by simp;omega) (.inr (by simp;omega)) (Nat.le_of_lt (vv (by omega))) rfl ?_ ?_
 ·rintro i u v zs H2 H3 k hi hu hv sm sm3 e r hk
  obtain⟨a,ea,sa⟩:=(shw2.keep sm).get (show es[i]? = some (es.getD i 0) by rw[List.getD_eq_getElem?_getD,List.getElem?_eq_getElem (show i<es.length by omega)]<;>rfl)
  obtain⟨b,eb,sb⟩:=(shw2.keep sm).get (show es[i+1]? = some (es.getD (i+1) 0) by rw[List.getD_eq_getElem?_getD,List.getElem?_eq_getElem (show i+1<es.length by omega)]<;>rfl)
  rw[hu] at ea
  cases ea
  rw[List.getElem?_drop,Nat.add_comm,eb] at hv
  cases hv
  have sa3:=sa.keep sm3
  have sb3:=sb.keep sm3
  refine⟨_,rfl,_,rfl,_,rfl,_,rfl,_,rfl,x,n,ps,a,b,_,_,rfl,(hx2.keep sm).keep sm3,sa3,sb3,λ w H4 s4 rv=>?_⟩
  refine⟨(by show 3<=sizeLine;decide),λ t ht=>?_⟩
  have s5:=aw ht (.tup [V.ref a,V.ref b,w])
  refine hk _ _ (s4.trans s5) ?_
  rw[ph es ps hi]
  exact (((r.keep sm3).keep (s4.trans s5)).app (show PcL _ [_] [.ref t] from ⟨t,a,b,w,[],rfl,ai,(sa3.keep s4).keep s5,(sb3.keep s4).keep s5,rv.keep s5,rfl⟩)).write ((s4.trans s5) _ _ (sm3 _ _ e))
 ·rintro zs H2 sm e hz r
  rw[List.take_of_length_le (by rw[rj];exact Nat.le_refl _)] at r
  exact q D H2 zs (vb s12 hD) (s12.trans sm) e r
abbrev Cd:=Rat×Rat×Bool×Rat
def sQ:Option Cd->Cd->Option Cd
 | none,c=>some c
 | some d,c=>if c.1<d.1 then some c else some d
def li (n:Nat) (p:Pc):List Cd:=[(eW p.1 n p.2.2,p.1,true,p.2.1),(eW p.2.1 n p.2.2,p.2.1,false,p.1)]
def ls (n:Nat) (l:List Pc):Option Cd:=(l.flatMap (li n)).foldl sQ none
theorem sx (n:Nat) (l:List Pc) (p:Pc):ls n (l++[p])=(li n p).foldl sQ (ls n l):=by
 unfold ls
 rw[List.flatMap_append,List.foldl_append]
 simp
noncomputable def oS (b:Bool):Str:=if b then "above" else "below"
structure CdA (H:Hp) (x:Addr) (c:Cd):Prop where
 ob:∃ t a f,H x=some (.tup [.ref t,.ref a,.str (oS c.2.2.1),.ref f])/\FrA H t c.1/\Shp H a c.2.1/\Shp H f c.2.2.2
theorem CdA.keep {H H':Hp}{x:Addr}{c:Cd} (h:CdA H x c) (s:aA H H'):CdA H' x c:=by
 obtain⟨t,a,f,e,h1,h2,h3⟩:=h.ob
 exact⟨t,a,f,s _ _ e,h1.keep s,h2.keep s,h3.keep s⟩
def CdV (H:Hp):Option Cd->V->Prop
 | none,v=>v=.non
 | some c,v=>∃ x,v=.ref x/\CdA H x c
theorem CdV.keep {H H':Hp} (s:aA H H'):∀ {o:Option Cd}{v:V},CdV H o v->CdV H' o v
 | none,_,h=>h
 | some _,_,⟨x,e,h⟩=>⟨x,e,h.keep s⟩
theorem rf {n:Nat}{p:Rat} (h0:0<=p) (h1:p<=1):∀ r,0<=eW p n r/\eW p n r<=1
 | none=>⟨by show (0:Rat)<=0;grind,by show (0:Rat)<=1;grind⟩
 | some z=>mf h0 h1 n z.1 z.2
theorem ya {p:Rat}{B:Nat} (h:Ov B p) (n:Nat):∀ r,Ov (B^n) (eW p n r)
 | none=>⟨0,by show (0:Rat)*_=_;grind⟩
 | some z=>tI h n z.1 z.2
theorem pQ {H H':Hp}{a f:Addr}{p:Rat} (h:Shp H a p) {n:Nat} (hn:n<=12) {r:Option (Nat×Nat)} (e:H' f=some (.tup [.int (eW p n r).num,.int ((eW p n r).den:Int)])):FrA H' f (eW p n r) :=
 have u:=rf (n:=n) h.lo h.hi r
 zv e (ya (Ov.self p) n r) (h.pw (by omega)).1 (h.pw (by omega)).2 u.1 u.2
theorem uT {n:Nat}{ps:List (Rat×Rat)} (ok:om n ps) {es:List Rat}{p:Pc} (hp:p∈d4 es ps):∀ z,p.2.2=some z->z.1<=z.2/\z.2<=n:=by
 unfold d4 at hp
 obtain⟨k,_,rfl⟩:=List.mem_map.mp hp
 intro z hz
 exact x8 ok hz
abbrev gI (ps:List (Rat×Rat)):List Pc:=d4 (edg (dC ps)) ps
def Dd:Sp:=λ vs H Q _=>∃ (x:Addr) (n:Nat) (ps:List (Rat×Rat)),vs = [.ref x]/\cE H x n ps/\∀ v H',aA H H'->CdV H' (ls n (gI ps)) v->Q v H'
theorem eP:aG ["rule","found","a","b","run","at","side","far","total"] ["rule"] (aC xN):=aY
theorem EW (F:Fun K "least_place" "least_place" xN f fd) (T:Txt mg) (Gpieces:Cl P w K mg base CX0 6 "pieces" ["rule"] oP) (Gsor:Cl P w K mg base CX0 6 "sum_of_run" ["n","run","p"] wx) (Gund:Cl P w K mg base CX0 6 "under" ["one","other"] ii):aS P w K mg base CX0 7 f fd ["rule"] Dd:=by
 refine F.oka eP λ cdv A outer s H vs Q E hr h=>?_
 obtain⟨x,n,ps,rfl,hx,q⟩:=h
 refine⟨_,(ag (aD (i:=1) eP.nd rfl (Or.inl rfl) gR)
  (ag (eR PassesOwn.never rfl (fA (aJ Gpieces hr rfl aN (ae (pv 0) af))) (kA rfl (aR (aP (i:=2) eP.nd rfl (Or.inl rfl)) (aR (aP (i:=3) eP.nd rfl (Or.inl rfl)) (aR (aP (i:=4) eP.nd rfl (Or.inl rfl)) b5)))) (ak (eR PassesOwn.never rfl (iW (aW (ae (aW (ae (pv 2) (ae ah (ae (pv 3) af)))) (ae (aW (ae (pv 3) (ae ah (ae (pv 2) af)))) af)))) (kA rfl (aR (aP (i:=5) eP.nd rfl (Or.inl rfl)) (aR (aP (i:=6) eP.nd rfl (Or.inl rfl)) (aR (aP (i:=7) eP.nd rfl (Or.inl rfl)) b5)))) (ag (aD (i:=8) eP.nd rfl (Or.inl rfl) (aJ Gsor hr rfl aN (ae (aF aH (pv 0) aj (λ _ _=>rfl)) (ae (pv 4) (ae (pv 5) af)))))
    (ak (aU (PW.pt (cL (aK yv (pv 1) gR (aO _)) (cB (br (aJ Gund hr rfl aN (ae (pv 8) (ae (aF aH (pv 1) aj (λ _ _=>rfl)) af))))))) (ak (aD (i:=1) eP.nd rfl (Or.inl rfl) (aW (ae (pv 8) (ae (pv 5) (ae (pv 6) (ae (pv 7) af))))))) aI))))))
  (ak (aE (pv 1))))),?_⟩
 have n12:=hx.ok.n12
 obtain⟨tt,zs,ex,et,row⟩:=hx.ob
 refine⟨_,rfl,x,n,ps,rfl,hx,λ l H1 ws _ s1 hl pcs=>?_⟩
 have lw:ws.length=(gI ps).length:=pcs.len
 refine⟨l,rfl,⟨_,SqL.of hl⟩,?_⟩
 refine kU (xs:=ws) (λ i σ H'=>aA H1 H'/\∃ v j1 j2 j3 j4 j5 j6 j7,σ = [some (.ref x),some v,j1,j2,j3,j4,j5,j6,j7]/\CdV H' (ls n ((gI ps).take i)) v) ⟨aA.refl H1,.non,none,none,none,none,none,none,none,rfl,rfl⟩ ?_ ?_ ?_
 ·rintro i σ H' hi ⟨sm,_⟩
  exact SqL.of (sm _ _ hl)
 ·rintro i y σ H2 hy ⟨sm,v,j1,j2,j3,j4,j5,j6,j7,rfl,cv⟩
  have hi:=(List.getElem?_eq_some_iff.mp hy).1
  have ep:=List.getElem?_eq_getElem (show i<(gI ps).length by omega)
  have rin:=uT hx.ok (List.mem_of_getElem? ep)
  obtain⟨t,a,b,w,f1,f2,f3,f4,f5⟩:=(pcs.keep sm).get ep
  rw[hy] at f1
  cases f1
  have tk:(gI ps).take (i+1)=(gI ps).take i++[(gI ps)[i]]:=by rw[List.take_add_one,ep];rfl
  rw[tk,sx]
  generalize hpc:(gI ps)[i]=pc at *
  generalize hbo:ls n ((gI ps).take i)=bo at *
  refine⟨t,_,rfl,SqT.of f2,rfl,.ref a,_,rfl,.ref b,_,rfl,w,[],rfl,rfl,?_⟩
  refine⟨_,rfl,_,rfl,(by show 3<=sizeLine;decide),λ u1 h1=>⟨_,rfl,_,rfl,(by show 3<=sizeLine;decide),λ u2 h2=>⟨(by show 2<=sizeLine;decide),λ u3 h3=>?_⟩⟩⟩
  have t1:=aw h1 (.tup [V.ref a,V.str "above",V.ref b])
  have t2:=aw h2 (.tup [V.ref b,V.str "below",V.ref a])
  have t3:=aw h3 (.tup [V.ref u1,V.ref u2])
  have o1:=t3 _ _ (t2 _ _ (ai (H:=H2) (a:=u1) (o:=.tup [V.ref a,V.str "above",V.ref b])))
  have o2:=t3 _ _ (ai (H:=upd H2 u1 (.tup [V.ref a,V.str "above",V.ref b])) (a:=u2) (o:=.tup [V.ref b,V.str "below",V.ref a]))
  have o3:(upd (upd (upd H2 u1 (.tup [V.ref a,V.str "above",V.ref b])) u2 (.tup [V.ref b,V.str "below",V.ref a])) u3 (.tup [V.ref u1,V.ref u2])) u3=some (.tup [V.ref u1,V.ref u2]):=ai
  have t13:=(t1.trans t2).trans t3
  refine⟨u3,rfl,⟨_,SqT.of o3⟩,?_⟩
  generalize hH3:upd (upd (upd H2 u1 (.tup [V.ref a,V.str "above",V.ref b])) u2 (.tup [V.ref b,V.str "below",V.ref a])) u3 (.tup [V.ref u1,V.ref u2])=H3 at *
  refine ul (xs:=[V.ref u1,V.ref u2]) (λ j σ H'=>aA H3 H'/\∃ v k1 k2 k3 k4,σ = [some (.ref x),some v,some (.ref a),some (.ref b),some w,k1,k2,k3,k4]/\CdV H' (((li n pc).take j).foldl sQ bo) v) ⟨aA.refl H3,v,j4,j5,j6,j7,rfl,cv.keep t13⟩ ?_ ?_ ?_
  ·rintro j σ H' hj ⟨sm',_⟩
   exact SqT.of (sm' _ _ o3)
  ·rintro j z σ H4 hz ⟨sm',v',k1,k2,k3,k4,rfl,cv'⟩
   have s34:=t13.trans sm'
   obtain⟨uj,at_,far,c,rfl,e1,e2,e3,e4,e5⟩:∃ uj at_ far c,z=V.ref uj/\(li n pc)[j]? = some c/\H3 uj=some (.tup [.ref at_,.str (oS c.2.2.1),.ref far])/\Shp H2 at_ c.2.1/\Shp H2 far c.2.2.2/\c.1=eW c.2.1 n pc.2.2:=by
    match j,hz with
    | 0,hz=>exact⟨u1,a,b,_,by simpa using hz.symm,rfl,o1,f3,f4,rfl⟩
    | 1,hz=>exact⟨u2,b,a,_,by simpa using hz.symm,rfl,o2,f4,f3,rfl⟩
   have tk':(li n pc).take (j+1)=(li n pc).take j++[c]:=by rw[List.take_add_one,e1];rfl
   rw[tk',List.foldl_append,List.foldl_cons,List.foldl_nil]
   generalize ((li n pc).take j).foldl sQ bo=o at *
   have sat:=e3.keep s34
   have sfar:=e4.keep s34
   refine⟨uj,_,rfl,SqT.of (sm' _ _ e2),rfl,.ref at_,_,rfl,.str (oS c.2.2.1),_,rfl,.ref far,[],rfl,rfl,?_⟩
   have ex4:=(s1.trans (sm.trans s34)) _ _ ex
   refine⟨_,rfl,x,_,0,_,rfl,rfl,SqT.of ex4,at0,_,rfl,_,rfl,n,w,pc.2.2,at_,c.2.1,rfl,f5.keep s34,sat,n12,rin,λ to H5 s5 hto=>?_⟩
   have fto:=pQ sat n12 hto
   rw[<-e5] at fto
   have sm5:=sm'.trans s5
   cases o with
   | none =>
    have ev:v'=V.non:=cv'
    subst ev
    refine⟨_,rfl,rfl,_,rfl,bj (bj ?_)⟩
    refine⟨_,rfl,_,rfl,_,rfl,_,rfl,(by show 4<=sizeLine;decide),λ y hy=>?_⟩
    have s6:=aw hy (.tup [V.ref to,V.ref at_,V.str (oS c.2.2.1),V.ref far])
    exact⟨sm5.trans s6,_,_,_,_,_,rfl,y,rfl,to,at_,far,ai,fto.keep s6,(sat.keep s5).keep s6,(sfar.keep s5).keep s6⟩
   | some d =>
    obtain⟨yo,ev,⟨to',ao,fo,g1,g2,g3,g4⟩⟩:=cv'
    subst ev
    refine⟨_,rfl,rfl,_,rfl,bf ?_⟩
    refine⟨_,rfl,_,rfl,yo,_,0,_,rfl,rfl,SqT.of (s5 _ _ g1),at0,to,to',_,_,rfl,fto,g2.keep s5,_,rfl,?_⟩
    by_cases cc:c.1<d.1
    ·rw[decide_eq_true cc]
     refine bj ⟨_,rfl,_,rfl,_,rfl,_,rfl,(by show 4<=sizeLine;decide),λ y hy=>?_⟩
     have s6:=aw hy (.tup [V.ref to,V.ref at_,V.str (oS c.2.2.1),V.ref far])
     refine⟨sm5.trans s6,_,_,_,_,_,rfl,?_⟩
     show CdV _ (if c.1<d.1 then some c else some d) _
     rw[if_pos cc]
     exact⟨y,rfl,to,at_,far,ai,fto.keep s6,(sat.keep s5).keep s6,(sfar.keep s5).keep s6⟩
    ·rw[decide_eq_false cc]
     refine bf ⟨sm5,_,_,_,_,_,rfl,?_⟩
     show CdV _ (if c.1<d.1 then some c else some d) _
     rw[if_neg cc]
     exact⟨yo,rfl,to',ao,fo,s5 _ _ g1,g2.keep s5,g3.keep s5,g4.keep s5⟩
  ·rintro σ H4 ⟨sm',v',k1,k2,k3,k4,rfl,cv'⟩
   exact⟨(sm.trans t13).trans sm',_,_,_,_,_,_,_,_,rfl,cv'⟩
 ·rintro σ H2 ⟨sm,v,j1,j2,j3,j4,j5,j6,j7,rfl,cv⟩
  rw[lw,List.take_length] at cv
  exact⟨_,rfl,q v H2 (s1.trans sm) cv⟩
def F6:Sp:=λ vs H Q _=>∃ (k:Int) (l be:Addr) (a b c d:Int),vs = [.int k,.ref l,.ref be]/\H l=some (.tup [.int a,.int b])/\H be=some (.tup [.int c,.int d])/\Smk k/\Smk a/\Smk b/\∀ p,H p=none->Q (.ref p) (upd H p (.tup [.int (k*a+c),.int (k*b+d)]))
theorem w6:aG ["term","last","before"] ["term","last","before"] (aC m9):=aY
theorem yx (F:Fun K "with_term" "with_term" m9 f fd) (T:Txt mg):aS P w K mg base CX0 1 f fd ["term","last","before"] F6:=by
 refine F.oka w6 λ cdv A outer s H vs Q E hr h=>?_
 obtain⟨k,l,be,a,b,c,d,rfl,hl,hb,sk,sa,sb,q⟩:=h
 refine⟨_,(ak (aE (aW (ae (ar bM (ar bW (pv 0) (aF aH (pv 1) aj (λ _ _=>rfl))) (aF aH (pv 2) aj (λ _ _=>rfl))) (ae (ar bM (ar bW (pv 0) (aF aH (pv 1) aj (λ _ _=>rfl))) (aF aH (pv 2) aj (λ _ _=>rfl))) af))))),?_⟩
 exact⟨_,rfl,_,rfl,l,_,0,_,rfl,rfl,SqT.of hl,at0,_,_,rfl,rfl,⟨sk,sa⟩,_,rfl,be,_,0,_,rfl,rfl,SqT.of hb,at0,_,_,rfl,rfl,_,rfl,_,rfl,l,_,1,_,rfl,rfl,SqT.of hl,at1,_,_,rfl,rfl,⟨sk,sb⟩,_,rfl,be,_,1,_,rfl,rfl,SqT.of hb,at1,_,_,rfl,rfl,(by show 2<=sizeLine;decide),λ p hp=>q p hp⟩
def muZ (σ:St) (G:Hp):Nat:=match σ with
 | some (.ref lo)::some (.ref hi)::_=>match G lo,G hi with
  | some (.tup [_,.int l1]),some (.tup [_,.int h1])=>(l1+h1).toNat
  | _,_=>0
 | _=>0
theorem yN {lo hi:Addr}{x y:V}{l1 h1:Int}{σ:St}{G:Hp} (e1:G lo=some (.tup [x,.int l1])) (e2:G hi=some (.tup [y,.int h1])):muZ (some (.ref lo)::some (.ref hi) :: σ) G=(l1+h1).toNat:=by
 unfold muZ
 simp only[e1,e2]
theorem fz {i:Int} (h:i.natAbs<2^20):Smk i:=Nat.lt_trans h (Nat.pow_lt_pow_right (by decide) (by decide))
def C1:Sp:=λ vs H Q _=>∃ (lo hi:Addr),vs = [.ref lo,.ref hi]/\H lo=some (.tup [.int 0,.int 1])/\H hi=some (.tup [.int 1,.int 4]) /\
 ∀ p H',aA H H'->H' p=some (.tup [.int 1,.int 5])->Q (.ref p) H'
theorem dZ:aG ["low","high","before","last","whole","added","turned"] ["low","high"] (aC xA):=aY
theorem EI (F:Fun K "simplest_between" "simplest_between" xA f fd) (T:Txt mg) (Gwterm:Cl P w K mg base CX0 1 "with_term" ["term","last","before"] F6):aS P w K mg base CX0 2 f fd ["low","high"] C1:=by
 refine F.oka dZ λ cdv A outer s H vs Q E hr h=>?_
 obtain⟨lo,hi,rfl,hlo,hhi,q⟩:=h
 refine⟨_,(ag (aD (i:=2) dZ.nd rfl (Or.inl rfl) (aW (ae aj (ae aj af))))
  (ag (aD (i:=3) dZ.nd rfl (Or.inl rfl) (aW (ae aj (ae aj af))))
  (ag (aD (i:=4) dZ.nd rfl (Or.inl rfl) (ar ir (aF aH (pv 0) aj (λ _ _=>rfl)) (aF aH (pv 0) aj (λ _ _=>rfl))))
  (ag (im PassesOwn.never (aK Dv (ar bW (ar bM (pv 4) aj) (aF aH (pv 1) aj (λ _ _=>rfl))) (aF aH (pv 1) aj (λ _ _=>rfl)) (aO _)) (ag (aD (i:=5) dZ.nd rfl (Or.inl rfl) (aJ Gwterm hr rfl aN (ae (pv 4) (ae (pv 3) (ae (pv 2) af)))))
   (ag (aD (i:=2) dZ.nd rfl (Or.inl rfl) (pv 3))
   (ag (aD (i:=3) dZ.nd rfl (Or.inl rfl) (pv 5))
   (ag (aD (i:=6) dZ.nd rfl (Or.inl rfl) (aW (ae (aF aH (pv 1) aj (λ _ _=>rfl)) (ae (ar eS (aF aH (pv 1) aj (λ _ _=>rfl)) (ar bW (pv 4) (aF aH (pv 1) aj (λ _ _=>rfl)))) af))))
   (ag (aD (i:=1) dZ.nd rfl (Or.inl rfl) (aW (ae (aF aH (pv 0) aj (λ _ _=>rfl)) (ae (ar eS (aF aH (pv 0) aj (λ _ _=>rfl)) (ar bW (pv 4) (aF aH (pv 0) aj (λ _ _=>rfl)))) af))))
   (ag (aD (i:=0) dZ.nd rfl (Or.inl rfl) (pv 6))
   (ak (aD (i:=4) dZ.nd rfl (Or.inl rfl) (ar ir (aF aH (pv 0) aj (λ _ _=>rfl)) (aF aH (pv 0) aj (λ _ _=>rfl))))))))))))
  (ak (aE (aJ Gwterm hr rfl aN (ae (ar bM (pv 4) aj) (ae (pv 3) (ae (pv 2) af)))))))))),?_⟩
 have two:2<=sizeLine:=by decide
 refine⟨two,λ be hbe=>?_⟩
 have w1:=aw hbe (.tup [V.int 0,V.int 1])
 have x1:upd H be (.tup [V.int 0,V.int 1]) be=some (.tup [V.int 0,V.int 1]):=ai
 generalize upd H be (.tup [V.int 0,V.int 1])=H1 at *
 refine⟨two,λ la hla=>?_⟩
 have w2:=aw hla (.tup [V.int 1,V.int 0])
 have x2:upd H1 la (.tup [V.int 1,V.int 0]) la=some (.tup [V.int 1,V.int 0]):=ai
 generalize upd H1 la (.tup [V.int 1,V.int 0])=H2 at *
 have s2:=w1.trans w2
 refine⟨_,rfl,lo,_,0,_,rfl,rfl,SqT.of (s2 _ _ hlo),at0,_,rfl,lo,_,1,_,rfl,rfl,SqT.of (s2 _ _ hlo),at1,_,_,rfl,rfl,⟨by decide,fz (by decide)⟩,?_⟩
 dsimp only
 refine hZ (λ σ G=>aA H G/\∃ (lo hi be la:Addr) (l0 l1 h0 h1 a b c d:Int) (v5 v6:Option V),σ = [some (.ref lo),some (.ref hi),some (.ref be),some (.ref la),some (.int (Int.fdiv l0 l1)),v5,v6]/\G lo=some (.tup [.int l0,.int l1])/\G hi=some (.tup [.int h0,.int h1])/\G be=some (.tup [.int c,.int d])/\G la=some (.tup [.int a,.int b])/\((l0=0/\l1=1/\h0=1/\h1=4/\a=1/\b=0/\c=0/\d=1)∨(l0=4/\l1=1/\h0=1/\h1=0/\a=0/\b=1/\c=1/\d=0))) muZ
  ⟨s2,lo,hi,be,la,_,_,_,_,1,0,0,1,none,none,rfl,s2 _ _ hlo,s2 _ _ hhi,w2 _ _ x1,x2,.inl ⟨rfl,rfl,rfl,rfl,rfl,rfl,rfl,rfl⟩⟩ ?_ ?_
 ·rintro σ G ⟨sm,lo',hi',be',la',p0,p1,q0,q1,a,b,c,d,v5,v6,rfl,g1,g2,g3,g4,hc⟩
  rcases hc with ⟨rfl,rfl,rfl,rfl,rfl,rfl,rfl,rfl⟩ | ⟨rfl,rfl,rfl,rfl,rfl,rfl,rfl,rfl⟩
  ·refine⟨_,rfl,_,_,rfl,rfl,_,rfl,hi',_,1,_,rfl,rfl,SqT.of g2,at1,_,_,rfl,rfl,⟨fz (by decide),fz (by decide)⟩,_,rfl,hi',_,0,_,rfl,rfl,SqT.of g2,at0,_,_,rfl,rfl,_,rfl,?_⟩
   refine pF (by decide) ?_
   refine⟨_,rfl,_,rfl,_,rfl,_,la',be',1,0,0,1,rfl,g4,g3,fz (by decide),fz (by decide),fz (by decide),λ ad had=>?_⟩
   have u1:=aw had (.tup [V.int (Int.fdiv 0 1*1+0),V.int (Int.fdiv 0 1*0+1)])
   have y1:upd G ad (.tup [V.int (Int.fdiv 0 1*1+0),V.int (Int.fdiv 0 1*0+1)]) ad=some (.tup [V.int 0,V.int 1]):=ai
   generalize upd G ad (.tup [V.int (Int.fdiv 0 1*1+0),V.int (Int.fdiv 0 1*0+1)])=G1 at *
   have g1':=u1 _ _ g1
   have g2':=u1 _ _ g2
   refine⟨_,rfl,_,rfl,_,rfl,hi',_,1,_,rfl,rfl,SqT.of g2',at1,_,rfl,hi',_,0,_,rfl,rfl,SqT.of g2',at0,_,rfl,_,rfl,hi',_,1,_,rfl,rfl,SqT.of g2',at1,_,_,rfl,rfl,⟨fz (by decide),fz (by decide)⟩,_,_,rfl,rfl,two,λ tu htu=>?_⟩
   have u2:=aw htu (.tup [V.int 4,V.int (1-Int.fdiv 0 1*4)])
   have y2:upd G1 tu (.tup [V.int 4,V.int (1-Int.fdiv 0 1*4)]) tu=some (.tup [V.int 4,V.int 1]):=ai
   generalize upd G1 tu (.tup [V.int 4,V.int (1-Int.fdiv 0 1*4)])=G2 at *
   have g1'':=u2 _ _ g1'
   refine⟨_,rfl,lo',_,1,_,rfl,rfl,SqT.of g1'',at1,_,rfl,lo',_,0,_,rfl,rfl,SqT.of g1'',at0,_,rfl,_,rfl,lo',_,1,_,rfl,rfl,SqT.of g1'',at1,_,_,rfl,rfl,⟨fz (by decide),fz (by decide)⟩,_,_,rfl,rfl,two,λ nh hnh=>?_⟩
   have u3:=aw hnh (.tup [V.int 1,V.int (0-Int.fdiv 0 1*1)])
   have y3:upd G2 nh (.tup [V.int 1,V.int (0-Int.fdiv 0 1*1)]) nh=some (.tup [V.int 1,V.int 0]):=ai
   generalize upd G2 nh (.tup [V.int 1,V.int (0-Int.fdiv 0 1*1)])=G3 at *
   have y2':=u3 _ _ y2
   refine⟨_,rfl,_,rfl,tu,_,0,_,rfl,rfl,SqT.of y2',at0,_,rfl,tu,_,1,_,rfl,rfl,SqT.of y2',at1,_,_,rfl,rfl,⟨by decide,fz (by decide)⟩,?_⟩
   have u13:=u1.trans (u2.trans u3)
   refine⟨⟨sm.trans u13,tu,nh,la',ad,4,1,1,0,0,1,1,0,some (V.ref ad),some (V.ref tu),rfl,y2',y3,u13 _ _ g4,(u2.trans u3) _ _ y1,.inr ⟨rfl,rfl,rfl,rfl,rfl,rfl,rfl,rfl⟩⟩,?_⟩
   rw[yN g1 g2]
   show muZ [some (.ref tu),some (.ref nh),some (.ref la'),some (.ref ad),some (.int (Int.fdiv 4 1)),some (.ref ad),some (.ref tu)] G3<_
   rw[yN y2' y3]
   decide
  ·refine⟨_,rfl,_,_,rfl,rfl,_,rfl,hi',_,1,_,rfl,rfl,SqT.of g2,at1,_,_,rfl,rfl,⟨fz (by decide),fz (by decide)⟩,_,rfl,hi',_,0,_,rfl,rfl,SqT.of g2,at0,_,_,rfl,rfl,_,rfl,?_⟩
   refine dH (by decide) ?_
   refine⟨_,rfl,_,_,rfl,rfl,_,rfl,_,rfl,_,la',be',0,1,1,0,rfl,g4,g3,fz (by decide),fz (by decide),fz (by decide),λ ad had=>?_⟩
   refine q ad _ (sm.trans (aw had _)) ?_
   exact ai
 ·intro σ H Q Q' hq h
  obtain⟨v1,e1,x1,y1,f1,f2,v2,e2,p1,xs1,i1,u1,f3,f4,sq1,t1,x2,y2,f5,f6,cnd,v3,e3,p2,xs2,i2,u2,f7,f8,sq2,t2,x3,y3,f9,f10,k,ek,h2⟩:=h
  exact⟨v1,e1,x1,y1,f1,f2,v2,e2,p1,xs1,i1,u1,f3,f4,sq1,t1,x2,y2,f5,f6,cnd,v3,e3,p2,xs2,i2,u2,f7,f8,sq2,t2,x3,y3,f9,f10,k,ek,hq _ _ h2⟩
def qtr:Rat:=mkRat 1 4
def fth:Rat:=mkRat 1 5
noncomputable def ruZ:List (Rat×Rat):=[(0,mkRat 1 2),(mkRat 1 4,mkRat 3 4),(mkRat 1 2,1)]
def C4:Sp:=λ vs H Q _=>∃ (pa fa:Addr),vs = [.ref pa,.ref fa,.int 0]/\Shp H pa qtr/\Shp H fa 0/\∀ a H',aA H H'->Shp H' a fth->Q (.ref a) H'
theorem szI {i:Int}{m:Nat} (h:i.natAbs<2^10) (hm:10<=m):Sz m i:=Nat.lt_of_lt_of_le h (Nat.pow_le_pow_right (by decide) hm)
theorem wj {a b c d:Int} (h:a=c) (k:b=d):some (HO.tup [.int a,.int b])=some (HO.tup [.int c,.int d]):=by rw[h,k]
theorem Am {H:Hp}{a:Addr} (h:H a=some (.tup [.int 1,.int 5])):Shp H a fth:=⟨h,by decide +kernel,by decide +kernel,szI (by decide +kernel) (by decide)⟩
theorem qA:aG ["at","far","halvings","apart","reached"] ["at","far","halvings"] (aC xD):=aY
theorem EL (F:Fun K "share_beside" "share_beside" xD f fd) (T:Txt mg) (Gminus:Cl P w K mg base CX0 4 "minus" ["one","other"] sY) (Gplus:Cl P w K mg base CX0 4 "plus" ["one","other"] wG) (Gfrac:Cl P w K mg base (CXX P w) 4 "fraction" ["top","bottom"] (fQ C)) (Gpow:Cl P w K mg base CX0 4 "power" ["base","count"] sX) (Gund:Cl P w K mg base CX0 4 "under" ["one","other"] ii) (Gsim:Cl P w K mg base CX0 4 "simplest_between" ["low","high"] C1):aS P w K mg base CX0 5 f fd ["at","far","halvings"] C4:=by
 refine F.oka qA λ cdv A outer s H vs Q E hr h=>?_
 obtain⟨pa,fa,rfl,sp,sf,q⟩:=h
 refine⟨_,(ag (aD (i:=3) qA.nd rfl (Or.inl rfl) (aJ Gminus hr rfl aN (ae (pv 1) (ae (pv 0) af))))
  (ag (aD (i:=4) qA.nd rfl (Or.inl rfl) (aJ Gplus hr rfl aN (ae (pv 0) (ae (aJ Gfrac hr rfl fL (ae (aF aH (pv 3) aj (λ _ _=>rfl)) (ae (ar bW (aF aH (pv 3) aj (λ _ _=>rfl)) (aJ Gpow hr rfl aN (ae aj (ae (pv 2) af)))) af))) af))))
  (ag (aU (br (aJ Gund hr rfl aN (ae (pv 0) (ae (pv 4) af)))) (ak (aE (aJ Gsim hr rfl aN (ae (pv 0) (ae (pv 4) af))))) aI)
  (ak (aE (aJ Gsim hr rfl aN (ae (pv 4) (ae (pv 0) af)))))))),?_⟩
 refine⟨_,rfl,_,rfl,fa,pa,0,qtr,rfl,sf.fr,sp.fr,λ ap H1 s1 hap=>?_⟩
 have hap':H1 ap=some (.tup [.int (-1),.int 4]):=hap.trans (wj (by decide +kernel) (by decide +kernel))
 refine⟨_,rfl,_,rfl,ap,_,0,_,rfl,rfl,SqT.of hap',at0,_,rfl,ap,_,1,_,rfl,rfl,SqT.of hap',at1,_,rfl,2,0,2,rfl,(show Sz 2 (2:Int) by unfold Sz;decide),by decide,by decide,by decide,by decide,?_⟩
 refine⟨_,_,rfl,rfl,⟨fz (by decide),fz (by decide)⟩,?_⟩
 refine⟨_,_,.int _,.int _,rfl,rfl,rfl,λ t0 b0 e=>?_,λ e=>?_⟩
 rotate_left
 ·exact absurd e (by decide +kernel)
 obtain⟨y1,y2,_⟩:=kT e
 cases y1
 cases y2
 refine⟨fz (by decide),λ hf hhf0=>?_⟩
 have s2:=aw hhf0 (.tup [V.int (frT (-1) (4*2^(0:Int).toNat)),V.int (frB (-1) (4*2^(0:Int).toNat))])
 have hhf:upd H1 hf (.tup [V.int (frT (-1) (4*2^(0:Int).toNat)),V.int (frB (-1) (4*2^(0:Int).toNat))]) hf=some (.tup [.int (-qtr).num,.int ((-qtr).den:Int)]):=ai.trans (wj (by decide +kernel) (by decide +kernel))
 generalize upd H1 hf (.tup [V.int (frT (-1) (4*2^(0:Int).toNat)),V.int (frB (-1) (4*2^(0:Int).toNat))])=H2 at *
 refine⟨pa,hf,qtr,-qtr,rfl,(sp.keep (s1.trans s2)).fr,⟨hhf,szI (by decide +kernel) (by decide),szI (by decide +kernel) (by decide)⟩,λ rc H3 s3 hrc=>?_⟩
 have s13:=s1.trans (s2.trans s3)
 have hrc':H3 rc=some (.tup [.int 0,.int 1]):=hrc.trans (wj (by decide +kernel) (by decide +kernel))
 have sp3:=sp.keep s13
 refine⟨_,rfl,_,rfl,pa,rc,qtr,0,rfl,sp3.fr,⟨hrc',szI (by decide) (by decide),szI (by decide) (by decide)⟩,_,rfl,?_⟩
 refine dH (by decide +kernel) ?_
 exact⟨_,rfl,_,rfl,rc,pa,rfl,hrc',sp3.ob.trans (wj (by decide +kernel) (by decide +kernel)),λ a H' sm e=>q a H' (s13.trans sm) (Am e)⟩
def De:Sp:=λ vs H Q _=>∃ (x sa a:Addr) (n:Nat) (ps:List (Rat×Rat)) (s p:Rat),vs = [.ref x,.ref sa,.ref a]/\cE H x n ps/\FrA H sa s/\Shp H a p/\∀ H',aA H H'->Q (.bl (decide (eW p n (fK ps p p)<s))) H'
theorem D8:aG ["rule","share","p"] ["rule","share","p"] (aC xO):=aY
theorem EX (F:Fun K "lacks" "lacks" xO f fd) (T:Txt mg) (Gcov:Cl P w K mg base CX0 6 "cover" ["rule","p"] wP) (Gund:Cl P w K mg base CX0 6 "under" ["one","other"] ii):aS P w K mg base CX0 7 f fd ["rule","share","p"] De:=by
 refine F.oka D8 λ cdv A outer s H vs Q E hr h=>?_
 obtain⟨x,sa,a,n,ps,sh,p,rfl,hx,fs,sp,q⟩:=h
 refine⟨_,(ak (aE (aJ Gund hr rfl aN (ae (aJ Gcov hr rfl aN (ae (pv 0) (ae (pv 2) af))) (ae (pv 1) af))))),?_⟩
 refine⟨_,rfl,_,rfl,x,n,ps,a,p,rfl,hx,sp,λ f H1 s1 hf=>?_⟩
 exact⟨_,rfl,f,sa,_,_,rfl,pQ sp hx.ok.n12 hf,fs.keep s1,q _ s1⟩
def wK:Sp:=λ vs H Q _=>∃ (x sa pa fa:Addr),vs = [.ref x,.ref sa,.ref pa,.ref fa]/\cE H x 2 ruZ/\FrA H sa 1/\Shp H pa qtr/\Shp H fa 0 /\
 ∀ a H',aA H H'->Shp H' a fth->Q (.ref a) H'
theorem Fb:decide (eW fth 2 (fK ruZ fth fth)<1)=true:=by decide +kernel
theorem eE:aG ["rule","share","at","far","too_few","enough","middle"] ["rule","share","at","far"] (aC qS):=aY
theorem Bj (F:Fun K "share_lacking" "share_lacking" qS f fd) (T:Txt mg) (Glks:Cl P w K mg base CX0 7 "lacks" ["rule","share","p"] De) (Gshb:Cl P w K mg base CX0 7 "share_beside" ["at","far","halvings"] C4):aS P w K mg base CX0 8 f fd ["rule","share","at","far"] wK:=by
 refine F.oka eE λ cdv A outer s H vs Q E hr h=>?_
 obtain⟨x,sa,pa,fa,rfl,hx,fs,sp,sf,q⟩:=h
 refine⟨_,(ag (aD (i:=4) eE.nd rfl (Or.inl rfl) (pi jX aj))
  (ag (aD (i:=5) eE.nd rfl (Or.inl rfl) aj)
  (ag (im PassesOwn.never (bK (br (aJ Glks hr rfl aN (ae (pv 0) (ae (pv 1) (ae (aJ Gshb hr rfl aN (ae (pv 2) (ae (pv 3) (ae (pv 5) af)))) af)))))) (ag (aD (i:=4) eE.nd rfl (Or.inl rfl) (pv 5))
   (ak (aD (i:=5) eE.nd rfl (Or.inl rfl) (ar bM (ar d5 aj (pv 5)) aj)))))
  (ag (im PassesOwn.never (aK gE (ar eS (pv 5) (pv 4)) aj (aO _)) (ag (aD (i:=6) eE.nd rfl (Or.inl rfl) (ar di (ar bM (pv 4) (pv 5)) aj))
   (ak (aU (br (aJ Glks hr rfl aN (ae (pv 0) (ae (pv 1) (ae (aJ Gshb hr rfl aN (ae (pv 2) (ae (pv 3) (ae (pv 6) af)))) af))))) (ak (aD (i:=5) eE.nd rfl (Or.inl rfl) (pv 6))) (ak (aD (i:=4) eE.nd rfl (Or.inl rfl) (pv 6)))))))
  (ak (aE (aJ Gshb hr rfl aN (ae (pv 2) (ae (pv 3) (ae (pv 5) af)))))))))),?_⟩
 refine⟨_,rfl,?_⟩
 dsimp only
 refine aX (λ σ G=>G=H/\σ = [some (.ref x),some (.ref sa),some (.ref pa),some (.ref fa),some (.int (-1)),some (.int 0),none]) (λ M hM=>hM _ _ ⟨rfl,rfl⟩) ?_
 rintro σ G ⟨rfl,rfl⟩
 refine aX (λ σ G'=>aA G G'/\σ = [some (.ref x),some (.ref sa),some (.ref pa),some (.ref fa),some (.int (-1)),some (.int 0),none]) ?_ ?_
 ·intro M hM
  refine hZ (λ σ G'=>aA G G'/\σ = [some (.ref x),some (.ref sa),some (.ref pa),some (.ref fa),some (.int (-1)),some (.int 0),none]) (λ _ _=>0) ⟨aA.refl G,rfl⟩ ?_ ?_
  ·rintro σ G1 ⟨sm,rfl⟩
   refine⟨_,rfl,_,rfl,_,rfl,_,rfl,_,rfl,pa,fa,rfl,sp.keep sm,sf.keep sm,λ a H1 s1 sh1=>?_⟩
   refine⟨x,sa,a,2,ruZ,1,_,rfl,hx.keep (sm.trans s1),fs.keep (sm.trans s1),sh1,λ H2 s2=>⟨_,rfl,?_⟩⟩
   rw[Fb]
   exact bf (hM _ _ ⟨sm.trans (s1.trans s2),rfl⟩)
  ·intro σ H Q Q' hq h
   obtain⟨v1,e1,v2,e2,v3,e3,v4,e4,v5,e5,pa,fa,ev,a1,a2,qq⟩:=h
   refine⟨v1,e1,v2,e2,v3,e3,v4,e4,v5,e5,pa,fa,ev,a1,a2,λ a H' sm sh=>?_⟩
   obtain⟨x',sa',a',n',ps',s',p',ev',b1,b2,b3,q'⟩:=qq a H' sm sh
   refine⟨x',sa',a',n',ps',s',p',ev',b1,b2,b3,λ H2 s2=>?_⟩
   obtain⟨k,ek,hk⟩:=q' H2 s2
   exact⟨k,ek,hq _ _ hk⟩
 rintro σ G1 ⟨sm,rfl⟩
 refine aX (λ σ G'=>aA G G'/\σ = [some (.ref x),some (.ref sa),some (.ref pa),some (.ref fa),some (.int (-1)),some (.int 0),none]) ?_ ?_
 ·intro M hM
  refine hZ (λ σ G'=>aA G G'/\σ = [some (.ref x),some (.ref sa),some (.ref pa),some (.ref fa),some (.int (-1)),some (.int 0),none]) (λ _ _=>0) ⟨sm,rfl⟩ ?_ ?_
  ·rintro σ G2 ⟨sm,rfl⟩
   refine⟨_,rfl,_,rfl,_,_,rfl,rfl,_,_,rfl,rfl,_,rfl,?_⟩
   exact dH (by decide) (hM _ _ ⟨sm,rfl⟩)
  ·intro σ H Q Q' hq h
   obtain⟨v1,e1,v2,e2,x,y,ex,ey,z,w',ez,ew,k,ek,h2⟩:=h
   exact⟨v1,e1,v2,e2,x,y,ex,ey,z,w',ez,ew,k,ek,hq _ _ h2⟩
 rintro σ G2 ⟨sm,rfl⟩
 exact⟨_,rfl,_,rfl,_,rfl,pa,fa,rfl,sp.keep sm,sf.keep sm,λ a H1 s1 sh1=>q a H1 (sm.trans s1) sh1⟩
theorem at3 {x y z w:V}{xs:List V}:atI (x::y::z::w::xs) 3=some w:=cy (xs:=x::y::z::w::xs) (j:=3) rfl
theorem zT:ls 2 (gI ruZ)=some (mkRat 9 16,qtr,false,0):=by decide +kernel
def wu:Sp:=λ vs H Q _=>∃ (x sa:Addr),vs = [.ref x,.ref sa]/\cE H x 2 ruZ/\FrA H sa 1 /\
 ∀ y pa ca H',aA H H'->H' y=some (.tup [.str "not",.ref pa,.ref ca])->Shp H' pa fth->Q (.ref y) H'
theorem m5:aG ["rule","share","place","p"] ["rule","share"] (aC qF):=aY
theorem A6 (F:Fun K "sure" "sure" qF f fd) (T:Txt mg) (Glpl:Cl P w K mg base CX0 8 "least_place" ["rule"] Dd) (Gund:Cl P w K mg base CX0 8 "under" ["one","other"] ii) (Glack:Cl P w K mg base CX0 8 "share_lacking" ["rule","share","at","far"] wK) (Gcov:Cl P w K mg base CX0 8 "cover" ["rule","p"] wP):aS P w K mg base CX0 9 f fd ["rule","share"] wu:=by
 refine F.oka m5 λ cdv A outer s H vs Q E hr h=>?_
 obtain⟨x,sa,rfl,hx,fs,q2⟩:=h
 refine⟨_,(ag (aD (i:=2) m5.nd rfl (Or.inl rfl) (aJ Glpl hr rfl aN (ae (pv 0) af)))
  (ag (aU (bK (br (aJ Gund hr rfl aN (ae (aF aH (pv 2) aj (λ _ _=>rfl)) (ae (pv 1) af))))) (ak (dN)) aI)
  (ag (aD (i:=3) m5.nd rfl (Or.inl rfl) (aJ Glack hr rfl aN (ae (pv 0) (ae (pv 1) (ae (aF aH (pv 2) aj (λ _ _=>rfl)) (ae (aF aH (pv 2) aj (λ _ _=>rfl)) af))))))
  (ak (aE (aW (ae ah (ae (pv 3) (ae (aJ Gcov hr rfl aN (ae (pv 0) (ae (pv 3) af))) af))))))))),?_⟩
 refine⟨_,rfl,x,2,ruZ,rfl,hx,λ v H1 s1 cv=>?_⟩
 rw[zT] at cv
 obtain⟨y,ev,⟨t,a',f,g1,g2,g3,g4⟩⟩:=cv
 subst ev
 refine⟨_,rfl,y,_,0,_,rfl,rfl,SqT.of g1,at0,_,rfl,t,sa,_,_,rfl,g2,fs.keep s1,_,rfl,?_⟩
 rw[show decide (mkRat 9 16<(1:Rat))=true by decide +kernel]
 refine bf ⟨_,rfl,_,rfl,_,rfl,y,_,1,_,rfl,rfl,SqT.of g1,at1,_,rfl,y,_,3,_,rfl,rfl,SqT.of g1,at3,x,sa,a',f,rfl,hx.keep s1,fs.keep s1,g3,g4,λ pa H2 s2 shp=>?_⟩
 have s12:=s1.trans s2
 refine⟨_,rfl,_,rfl,_,rfl,x,2,ruZ,pa,_,rfl,hx.keep s12,shp,λ ca H3 s3 hca=>?_⟩
 refine⟨(by show 3<=sizeLine;decide),λ z hz=>?_⟩
 have s4:=aw hz (.tup [V.str "not",V.ref pa,V.ref ca])
 exact q2 z pa ca _ ((s12.trans s3).trans s4) ai (shp.keep (s3.trans s4))
def Dh (CN:Addr):Sp:=λ vs H Q _=>∃ (e t:Addr) (v:V),vs = [.ref e,v]/\H e=some (XN CN e t)/\∀ dx,H dx=none->dx≠e->Q .non (upd (upd H e (XE CN e dx t)) dx (.xd [("at",v)]))
theorem Ea:aG ["self","at"] ["self","at"] (aC xR):=⟨rfl,rfl,rfl,by decide +kernel,rfl,by decide +kernel,by decide +kernel⟩
theorem E2 {f:Addr}{fd:FuncData} (F:Fun K "__init__" "NotSure.__init__" xR f fd) (T:Txt mg) (cf:CF P w K mg C):aS P w K mg base CX0 1 f fd ["self","at"] (Dh C.NotSure):=by
 refine F.oka Ea λ cdv A outer s H vs Q E hr h=>?_
 obtain⟨e,t,v,rfl,he,q⟩:=h
 refine⟨_,(ak (AV (pv 0) (pv 1) rfl)),?_⟩
 exact⟨_,rfl,_,rfl,_,e,t,rfl,he,cf.sNotSure,λ dx h1 h2=>q dx h1 h2⟩
def CZ (C:CA):Sp:=λ vs H Q E=>∃ (x a:Addr) (m:Int),vs = [.ref x,.ref a,.int m]/\cE H x 2 ruZ /\
 (20<m->∀ H',aA H H'->E (.ref C.TooMuch) none H') /\
 (m<=20->FrA H a 1/\∀ o H',aA H H'->E (.ref C.NotSure) o H')
def wr (C:CA):Sp:=λ vs H Q E=>∃ (x a:Addr) (m:Int),vs = [.ref x,.ref a,.int m]/\cE H x 2 ruZ /\
 (20<m->∀ H',aA H H'->E (.ref C.TooMuch) none H') /\
 (m<=20->FrA H a 1/\∀ H',aA H H'->E (.ref C.NotSure) none H')
theorem GW {C:CA}:∀ (vs:List V) (H:Hp) (Q:VK) (E:XK),wr C vs H Q E->CZ C vs H Q (λ c _ H'=>E c none H'):=λ vs H Q E h=>by
 obtain⟨x,a,m,e,hx,q1,q2⟩:=h
 exact⟨x,a,m,e,hx,λ z H' s=>q1 z H' s,λ z=>⟨(q2 z).1,λ _ H' s=>(q2 z).2 H' s⟩⟩
theorem xf:aG ["rule","share","measure","told"] ["rule","share","measure"] (aC xw):=aY
theorem EE (F:Fun K "tight" "tight" xw f fd) (T:Txt mg) (cf:CF P w K mg C) (Gsure:Cl P w K mg base CX0 13 "sure" ["rule","share"] wu) {dini:FuncData} (Gini:aS P w K mg base CX0 12 C.ini dini ["self","at"] (Dh C.NotSure)) (bini:bS K dini ["self","at"] []):aS P w K mg base (CXD P w) 14 f fd ["rule","share","measure"] (CZ C):=by
 refine F.okb xf λ cdv A outer s H vs Q E hr h=>?_
 obtain⟨x,a,m,rfl,hx,qT,qN⟩:=h
 refine⟨_,(ag (aU (PW.pt (cL (aK gE (aF aH (pv 0) aj (λ _ _=>rfl)) aj (aO _)) (cB (aK gE (pv 2) aj (aO _))))) (ak (gp ⟨rfl,rfl,rfl⟩ kx rfl cf.xTooMuch rfl (ae ah af))) aI)
  (ag (aD (i:=3) xf.nd rfl (Or.inl rfl) (aJ Gsure hr rfl aN (ae (pv 0) (ae (pv 1) af))))
  (ag (aU (aK b7 (aF aH (pv 3) aj (λ _ _=>rfl)) ah (aO _)) (ak (uP ⟨rfl,rfl,rfl⟩ kx rfl (ym ⟨rfl,rfl,rfl⟩ cf.kNotSure Gini hr rfl cf.mNotSure bini (ae (aF aH (pv 3) aj (λ _ _=>rfl)) af)))) aI)
  (ak (dN))))),?_⟩
 obtain⟨t,zs,ox,ot,row⟩:=hx.ob
 have one:1<=sizeLine:=by decide
 refine⟨_,rfl,x,_,0,_,rfl,rfl,SqT.of ox,at0,_,_,rfl,rfl,_,rfl,?_⟩
 refine dH (by decide) ⟨_,rfl,_,_,rfl,rfl,_,rfl,?_⟩
 by_cases c20:20<m
 ·rw[decide_eq_true c20]
  exact bj ⟨one,qT c20 H (aA.refl H)⟩
 rw[decide_eq_false c20]
 obtain⟨fs,qN⟩:=qN (by omega)
 refine bf ⟨_,rfl,_,rfl,x,a,rfl,hx,fs,λ y pa ca G sG hy shp=>?_⟩
 refine⟨_,rfl,y,_,0,_,rfl,rfl,SqT.of hy,at0,rfl,_,rfl,?_⟩
 rw[decide_eq_true rfl]
 refine bj ⟨_,rfl,y,_,1,_,rfl,rfl,SqT.of hy,at1,one,λ e tt he=>⟨e,tt,.ref pa,rfl,ai,λ dx hdx ne=>⟨rfl,e,_,_,dx,tt,rfl,?_,cf.kNotSure.ini,?_,?_⟩⟩⟩
 ·rw[aM (Ne.symm ne),ai]
 ·show H e=none
  cases q:H e with
  | none=>rfl
  | some u=>rw[sG _ _ q] at he;cases he
 ·have hd1:G dx=none:=by rw[aM ne] at hdx;exact hdx
  have out:∀ b o,G b=some o->hid (upd (upd (upd G e (XN C.NotSure e tt)) e (XE C.NotSure e dx tt)) dx (.xd [("at",.ref pa)])) e b=some o:=λ b o e1=>by
   rw[ed (aZ e1 he),aM (aZ e1 hd1),aM (aZ e1 he),aM (aZ e1 he)]
   exact e1
  exact qN (some dx) _ (λ b o eb'=>out b o (sG _ _ eb'))
theorem tJ {t b:Int} (hb:0<b):rq t b*(b:Rat)=(t:Rat):=by
 have bp:(0:Rat)<(b:Rat):=by exact_mod_cast hb
 unfold rq;grind
theorem p30:(2000000000000000000000000000000000:Nat)<2^120:=by decide +kernel
def wM:Sp:=λ vs H Q _=>∃ (a:Addr) (s0 s1:Nat),vs = [.ref a]/\H a=some (.tup [.int s0,.int s1])/\1<=s1/\s1<=1000000000000000000000000000000/\iM H (rq ((s1:Int)-(s0:Int)) (2*(s1:Int))) Q
theorem Az:aG ["share"] ["share"] (aC qV):=aY
theorem Bl (F:Fun K "half_of_what_is_left" "half_of_what_is_left" qV f fd) (T:Txt mg) (Gfrac:Cl P w K mg base (CXX P w) 3 "fraction" ["top","bottom"] (fQ C)):aS P w K mg base CX0 4 f fd ["share"] wM:=by
 refine F.oka Az λ cdv A outer s H vs Q E hr h=>?_
 obtain⟨a,s0,s1,rfl,ha,h1,h2,q⟩:=h
 refine⟨_,(ak (aE (aJ Gfrac hr rfl fL (ae (ar eS (aF aH (pv 0) aj (λ _ _=>rfl)) (aF aH (pv 0) aj (λ _ _=>rfl))) (ae (ar d5 aj (aF aH (pv 0) aj (λ _ _=>rfl))) af))))),?_⟩
 refine⟨_,rfl,a,_,1,_,rfl,rfl,SqT.of ha,at1,_,rfl,a,_,0,_,rfl,rfl,SqT.of ha,at0,_,_,rfl,rfl,_,rfl,a,_,1,_,rfl,rfl,SqT.of ha,at1,_,_,rfl,rfl,.inl ⟨by decide,by decide⟩,?_⟩
 have bp:(0:Int)<2*(s1:Int):=by omega
 have z:Sz 120 (2*(s1:Int)):=Nat.lt_of_le_of_lt (show (2*(s1:Int)).natAbs<=2000000000000000000000000000000000 by omega) p30
 exact eg (Int.ne_of_gt bp) (z.smk (by decide)) (fO (gW (Int.ne_of_gt bp) (tJ bp)) q)
def yQ (s0 s1:Nat):Rat:=rq ((s1:Int)-(s0:Int)) (2*(s1:Int))
theorem zw {H:Hp}{f:Addr}{s0 s1:Nat} (h0:s0<=s1) (h1:1<=s1) (h2:s1<=1000000000000000000000000000000) (e:H f=some (.tup [.int (yQ s0 s1).num,.int ((yQ s0 s1).den:Int)])):FrA H f (yQ s0 s1):=by
 have bi:(0:Int)<2*(s1:Int):=by omega
 have z:Sz 120 (2*(s1:Int)):=Nat.lt_of_le_of_lt (show (2*(s1:Int)).natAbs<=2000000000000000000000000000000000 by omega) p30
 have z2:Sz 120 ((s1:Int)-(s0:Int)):=Nat.lt_of_le_of_lt (show ((s1:Int)-(s0:Int)).natAbs<=2000000000000000000000000000000000 by omega) p30
 have r:=gW (Int.ne_of_gt bi) (tJ (t:=((s1:Int)-(s0:Int))) bi)
 have s:=Sz.fr (Int.ne_of_gt bi) z2 z
 rw[r.1,r.2] at s
 exact⟨e,s.1.mono (by decide),s.2.mono (by decide)⟩
def stp (M t:Nat):Rat:=rq (t:Int) (M:Int)
def qr (M:Nat):List Rat:=(List.range (M+1)).map (stp M)
theorem mR {M t:Nat} (h:t<=M):(qr M)[t]? = some (stp M t):=by
 unfold qr
 rw[List.getElem?_map,List.getElem?_range (by omega)]
 rfl
theorem ka (M:Nat):(qr M).length=M+1:=by unfold qr;simp
def wq:Sp:=λ vs H Q _=>∃ (n k M:Nat) (m l:Addr) (mo:Rat) (zs:List V),vs = [.int n,.int k,.ref m,.ref l]/\FrA H m mo/\H l=some (.lst zs)/\ShL H (qr M) zs/\n<=12/\k<=n/\M<=60/\∀ a H',aA H H'->Q (.ref a) H'
theorem tw:aG ["n","k","most","steps","step"] ["n","k","most","steps"] (aC qE):=aY
theorem A5 (F:Fun K "tails_low" "tails_low" qE f fd) (T:Txt mg) (Grsum:Cl P w K mg base CX0 4 "run_sum" ["n","i","j","p"] mV) (Gund:Cl P w K mg base CX0 4 "under" ["one","other"] ii):aS P w K mg base CX0 5 f fd ["n","k","most","steps"] wq:=by
 refine F.oka tw λ cdv A outer s H vs Q E hr h=>?_
 obtain⟨n,k,M,m,l,mo,zs,rfl,fm,hl,row,hn,hk,hM,q⟩:=h
 refine⟨_,(ag (eR PassesOwn.never rfl (Ev rfl T.reversed (ae (pv 3) af)) (aP (i:=4) tw.nd rfl (Or.inl rfl)) (ak (aU (bK (br (aJ Gund hr rfl aN (ae (pv 2) (ae (aJ Grsum hr rfl aN (ae (pv 0) (ae (pv 1) (ae (pv 0) (ae (pv 4) af))))) af))))) (ak (aE (pv 4))) aI)))
  (ak (aE (aW (ae aj (ae aj af)))))),?_⟩
 have lz:zs.length=M+1:=by rw[row.len,ka]
 refine⟨_,rfl,l,zs,rfl,SqL.of hl,?_⟩
 refine BZ (xs:=zs) (λ i σ H'=>aA H H'/\(∃ v,σ = [some (.int n),some (.int k),some (.ref m),some (.ref l),v])) ⟨aA.refl H,⟨none,rfl⟩⟩ ?_ ?_ ?_
 ·rintro i σ H' hi ⟨sm,_⟩
  exact SqL.of (sm _ _ hl)
 ·rintro i x σ H' hi hx ⟨sm,⟨v,rfl⟩⟩
  have hM':M-i<=M:=by omega
  have ei:zs.length-1-i=M-i:=by omega
  rw[ei] at hx
  obtain⟨a,e1,e2⟩:=(row.keep sm).get (mR hM')
  rw[hx] at e1
  cases e1
  refine⟨_,rfl,_,rfl,_,rfl,_,rfl,_,rfl,n,k,n,a,_,rfl,e2,hn,hk,Nat.le_refl _,λ w1 H2 s2 hw=>?_⟩
  have fw:=uk e2 hn hw
  refine⟨m,w1,_,_,rfl,(fm.keep sm).keep s2,fw,_,rfl,?_⟩
  by_cases c:mo<lJ (stp M (M-i)) n k n
  ·rw[decide_eq_true c]
   exact bf ⟨sm.trans s2,⟨_,rfl⟩⟩
  ·rw[decide_eq_false c]
   exact bj ⟨_,rfl,q a _ (sm.trans s2)⟩
 ·rintro σ H' ⟨sm,⟨v,rfl⟩⟩
  exact⟨(by show 2<=sizeLine;decide),λ p hp=>q p _ (sm.trans (aw hp _))⟩
def sW:Sp:=λ vs H Q _=>∃ (n k M:Nat) (m l:Addr) (mo:Rat) (zs:List V),vs = [.int n,.int k,.ref m,.ref l]/\FrA H m mo/\H l=some (.lst zs)/\ShL H (qr M) zs/\n<=12/\k<=n/\M<=60/\∀ a H',aA H H'->Q (.ref a) H'
theorem oV:aG ["n","k","most","steps","step"] ["n","k","most","steps"] (aC ng):=aY
theorem yB (F:Fun K "tails_high" "tails_high" ng f fd) (T:Txt mg) (Grsum:Cl P w K mg base CX0 4 "run_sum" ["n","i","j","p"] mV) (Gund:Cl P w K mg base CX0 4 "under" ["one","other"] ii):aS P w K mg base CX0 5 f fd ["n","k","most","steps"] sW:=by
 refine F.oka oV λ cdv A outer s H vs Q E hr h=>?_
 obtain⟨n,k,M,m,l,mo,zs,rfl,fm,hl,row,hn,hk,hM,q⟩:=h
 refine⟨_,(ag (eR PassesOwn.never rfl (fA (pv 3)) (aP (i:=4) oV.nd rfl (Or.inl rfl)) (ak (aU (bK (br (aJ Gund hr rfl aN (ae (pv 2) (ae (aJ Grsum hr rfl aN (ae (pv 0) (ae aj (ae (pv 1) (ae (pv 4) af))))) af))))) (ak (aE (pv 4))) aI)))
  (ak (aE (aW (ae aj (ae aj af)))))),?_⟩
 have lz:zs.length=M+1:=by rw[row.len,ka]
 refine⟨_,rfl,l,rfl,⟨zs,SqL.of hl⟩,?_⟩
 refine kU (xs:=zs) (λ i σ H'=>aA H H'/\(∃ v,σ = [some (.int n),some (.int k),some (.ref m),some (.ref l),v])) ⟨aA.refl H,⟨none,rfl⟩⟩ ?_ ?_ ?_
 ·rintro i σ H' hi ⟨sm,_⟩
  exact SqL.of (sm _ _ hl)
 ·rintro i x σ H' hx ⟨sm,⟨v,rfl⟩⟩
  have hi:i<=M:=by have:=(List.getElem?_eq_some_iff.mp hx).1;omega
  obtain⟨a,e1,e2⟩:=(row.keep sm).get (mR hi)
  rw[hx] at e1
  cases e1
  refine⟨_,rfl,_,rfl,_,rfl,_,rfl,n,0,k,a,_,rfl,e2,hn,Nat.zero_le _,hk,λ w1 H2 s2 hw=>?_⟩
  have fw:=uk e2 hn hw
  refine⟨m,w1,_,_,rfl,(fm.keep sm).keep s2,fw,_,rfl,?_⟩
  by_cases c:mo<lJ (stp M i) n 0 k
  ·rw[decide_eq_true c]
   exact bf ⟨sm.trans s2,⟨_,rfl⟩⟩
  ·rw[decide_eq_false c]
   exact bj ⟨_,rfl,q a _ (sm.trans s2)⟩
 ·rintro σ H' ⟨sm,⟨v,rfl⟩⟩
  exact⟨(by show 2<=sizeLine;decide),λ p hp=>q p _ (sm.trans (aw hp _))⟩
theorem Aj {H:Hp}{a:Addr}{M t:Nat} (hM:1<=M) (h60:M<=60) (ht:t<=M) (e:H a=some (.tup [.int (stp M t).num,.int ((stp M t).den:Int)])):Shp H a (stp M t):=by
 have hb:(0:Int)<(M:Int):=by omega
 have bq:(0:Rat)<((M:Int):Rat):=by exact_mod_cast hb
 have er:=tJ (t:=(t:Int)) hb
 have t0:(0:Rat)<=((t:Int):Rat):=by exact_mod_cast (show (0:Int)<=(t:Int) by omega)
 have t1:((t:Int):Rat)<=((M:Int):Rat):=by exact_mod_cast (show (t:Int)<=(M:Int) by omega)
 refine⟨e,?_,?_,?_⟩
 ·exact mq bq (x:=stp M t) (by unfold stp;grind)
 ·have:=mq bq (x:=1-stp M t) (by unfold stp;grind)
  grind
 ·unfold stp
  exact DZ (by omega) (by omega) hb (CU (by omega))
def mT:Sp:=λ vs H Q _=>∃ (n s0 s1 M:Nat) (a:Addr),vs = [.int n,.ref a,.int M]/\H a=some (.tup [.int s0,.int s1])/\s0<=s1/\1<=s1/\s1<=1000000000000000000000000000000/\n<=12/\1<=M/\M<=60/\∀ x H',aA H H'->Q (.ref x) H'
theorem GC {n:Nat} (h:n<=70):n<sizeLine:=Nat.lt_of_le_of_lt h (by decide)
theorem ki:aG ["n","share","measure","most","steps"] ["n","share","measure"] (aC ni):=aY
theorem yC (F:Fun K "tails" "tails" ni f fd) (T:Txt mg) (Ghalf:Cl P w K mg base CX0 5 "half_of_what_is_left" ["share"] wM) (Gfrac:Cl P w K mg base (CXX P w) 5 "fraction" ["top","bottom"] (fQ C)) (Gtlow:Cl P w K mg base CX0 5 "tails_low" ["n","k","most","steps"] wq) (Gthigh:Cl P w K mg base CX0 5 "tails_high" ["n","k","most","steps"] sW):aS P w K mg base CX0 6 f fd ["n","share","measure"] mT:=by
 refine F.oka ki λ cdv A outer s H vs Q E hr h=>?_
 obtain⟨n,s0,s1,M,a,rfl,ha,h01,h1,h2,hn,hM,h60,q⟩:=h
 refine⟨_,(ag (aD (i:=3) ki.nd rfl (Or.inr rfl) (aJ Ghalf hr rfl aN (ae (pv 1) af)))
  (ag (aD (i:=4) ki.nd rfl (Or.inr rfl) (eX (ts:=[("measure",2)]) rfl ⟨rfl,uD rfl,rfl,rfl,rfl,rfl,by decide +kernel,rfl,rfl⟩ (cZ rfl T.range (ae (ar bM (pv 2) aj) af)) (λ C s3 H3 fp=>(aJ Gfrac hr rfl fL (ae (pv 0) (ae (pv 1) af))))))
  (ak (aE (aW (ae (pv 0) (ae (bT eT rfl T.tuple boot_tuple (ae (eX (ts:=[("n",0),("most",3),("steps",4)]) rfl ⟨rfl,F4 rfl rfl rfl,rfl,rfl,rfl,rfl,by decide +kernel,rfl,rfl⟩ (cZ rfl T.range (ae (ar bM (pv 0) aj) af)) (λ C s3 H3 fp=>(aW (ae (aJ Gtlow hr rfl aN (ae (pv 1) (ae (pv 0) (ae (pv 2) (ae (pv 3) af))))) (ae (aJ Gthigh hr rfl aN (ae (pv 1) (ae (pv 0) (ae (pv 2) (ae (pv 3) af))))) af))))) af)) af))))))),?_⟩
 refine⟨_,rfl,a,s0,s1,rfl,ha,h1,h2,λ m H1 t1 hm=>?_⟩
 have fm:=zw (H:=H1) (f:=m) h01 h1 h2 hm
 have eM:((M:Int)+1).toNat=M+1:=by omega
 have en:((n:Int)+1).toNat=n+1:=by omega
 have hb:(0:Int)<(M:Int):=by omega
 refine⟨_,rfl,_,_,rfl,rfl,_,rfl,by omega,by omega,λ D hD=>?_⟩
 rw[eM]
 refine jw (λ i ys H'=>ShL H' ((qr M).take i) ys) hD (Nat.le_of_lt (GC (show M+1<=70 by omega))) rfl ?_ ?_
 ·rintro i ys H2 kk hi sm e r hk
  rw[show (0:Int)+(i:Int)=(i:Int) from Int.zero_add _]
  refine⟨_,rfl,_,rfl,?_⟩
  refine eg (Int.ne_of_gt hb) ((CU (show ((M:Int)).natAbs<=_ by omega)).smk (by decide)) (fO (r:=stp M i) (gW (Int.ne_of_gt hb) (tJ hb)) λ p H3 s3 hp=>hk _ _ s3 ?_)
  rw[List.take_add_one,mR (by omega)]
  exact ((r.keep s3).app (show ShL H3 [_] [.ref p] from ⟨p,[],rfl,Aj hM h60 (by omega) hp,rfl⟩)).write (s3 _ _ e)
 rintro zs H2 s2 hD2 lz r
 rw[List.take_of_length_le (by rw[ka];omega)] at r
 have fm2:=fm.keep s2
 refine⟨_,rfl,_,rfl,_,_,rfl,rfl,_,rfl,by omega,by omega,λ D2 hD2'=>?_⟩
 rw[en]
 refine jw (λ i ys H'=>True) hD2' (Nat.le_of_lt (GC (show n+1<=70 by omega))) True.intro ?_ ?_
 ·rintro i ys H3 kk hi sm e rr hk
  rw[show (0:Int)+(i:Int)=(i:Int) from Int.zero_add _]
  refine⟨_,rfl,_,rfl,_,rfl,_,rfl,n,i,M,m,D,_,zs,rfl,fm2.keep sm,sm _ _ hD2,r.keep sm,hn,by omega,h60,λ x1 H4 s4=>?_⟩
  have s34:=sm.trans s4
  refine⟨_,rfl,_,rfl,_,rfl,_,rfl,n,i,M,m,D,_,zs,rfl,fm2.keep s34,s34 _ _ hD2,r.keep s34,hn,by omega,h60,λ x2 H5 s5=>?_⟩
  refine⟨(by show 2<=sizeLine;decide),λ p hp=>?_⟩
  have s6:=aw hp (.tup [V.ref x1,V.ref x2])
  have s46:=(s4.trans s5).trans s6
  exact hk _ _ s46 True.intro
 rintro ws H3 s3 hD3 lw rr
 refine⟨D2,ws,rfl,.inl ⟨SqL.of hD3,λ t ht=>?_⟩⟩
 have s4:=aw ht (.tup ws)
 refine⟨(by show 2<=sizeLine;decide),λ x hx=>?_⟩
 have s5:=aw hx (.tup [V.int n,V.ref t])
 exact q x _  (((t1.trans s2).trans s3).trans (s4.trans s5))
theorem tZ:(" ":Str).length=1:=by decide +kernel
theorem sM:(": ":Str).length=2:=by decide +kernel
theorem pz:(num 2).length=1:=by decide +kernel
theorem lg {i:Int} (h:i.natAbs<10^60):i.natAbs.log2<1920:=by
 by_cases z:i.natAbs=0
 ·rw[z];decide
 ·rw[Nat.log2_lt z]
  exact Nat.lt_trans h (by decide)
def C3:Sp:=λ vs H Q _=>∃ (p:Fq) (f:Addr),vs = [.ref f]/\H f=some (.tup [.int p.1,.int p.2])/\FrB p/\∀ H',aA H H'->Q (.str (frS p)) H'
theorem D5:aG ["one"] ["one"] (aC xC):=aY
theorem EK (F:Fun K "show_fraction" "show_fraction" xC f fd) (T:Txt mg):aS P w K mg base CX0 1 f fd ["one"] C3:=by
 refine F.oka D5 λ cdv A outer s H vs Q E hr h=>?_
 obtain⟨p,f,rfl,hf,hp,q⟩:=h
 have w1:=(kK hp.a).len
 have w2:=(kK hp.b).len
 refine⟨_,(ag (aU (aK b7 (aF aH (pv 0) aj (λ _ _=>rfl)) aj (aO _)) (ak (aE (bT bY rfl T.str cD (ae (aF aH (pv 0) aj (λ _ _=>rfl)) af)))) aI)
  (ak (aE (ar aq (ar aq (bT bY rfl T.str cD (ae (aF aH (pv 0) aj (λ _ _=>rfl)) af)) ah) (bT bY rfl T.str cD (ae (aF aH (pv 0) aj (λ _ _=>rfl)) af)))))),?_⟩
 have q':=q H (aA.refl H)
 unfold frS at q'
 refine⟨_,rfl,f,_,1,_,rfl,rfl,SqT.of hf,at1,rfl,_,rfl,?_⟩
 by_cases h1:p.2=1
 ·rw[if_pos h1] at q'
  refine pF (by rw[h1];decide) ?_
  exact⟨_,rfl,f,_,0,_,rfl,rfl,SqT.of hf,at0,p.1,rfl,lg hp.a,q'⟩
 ·rw[if_neg h1] at q'
  refine dH (by rw[fG];simpa using h1) ?_
  refine⟨_,rfl,f,_,0,_,rfl,rfl,SqT.of hf,at0,p.1,rfl,lg hp.a,?_⟩
  refine⟨_,_,rfl,rfl,aV (by rw[l9];have:(num p.1).length<=61:=w1;exact Nat.le_trans (Nat.add_le_add_right this 1) (by decide)),?_⟩
  refine⟨_,rfl,f,_,1,_,rfl,rfl,SqT.of hf,at1,p.2,rfl,lg hp.b,_,_,rfl,rfl,aV ?_,q'⟩
  rw[Str.length_append,l9]
  have h1:(num p.1).length<=61:=w1
  have h2:(num p.2).length<=61:=w2
  exact Nat.le_trans (Nat.add_le_add (Nat.add_le_add_right h1 1) h2) (by decide)
def twT (p:Str×Str):Th:=.tup [.str p.1,.str p.2]
theorem B0 (s:Str×Str):gX 2 (twT s):=by
 intro t ht
 rcases List.mem_cons.mp ht with rfl | ht
 ·trivial
 ·rw[List.mem_singleton.mp ht];trivial
theorem pU (l:List (Str×Str)):∀ t∈l.map twT,gX 2 t:=λ t ht=>by
 obtain⟨s,_,rfl⟩:=List.mem_map.mp ht
 exact B0 s
theorem zH {H:Hp}{b:Str×Str}{v:V} (d:Den H (twT b) v):∃ a,v=.ref a/\H a=some (.tup [.str b.1,.str b.2]):=by
 obtain⟨p,xs,rfl,h,y,ys,e1,e2,z,zs,e3,e4,e5⟩:=d
 have e2':y=V.str b.1:=e2
 have e4':z=V.str b.2:=e4
 have e5':zs = []:=e5
 subst e5' e4' e3 e2' e1
 exact⟨p,rfl,h⟩
theorem ck {H:Hp}{b:Str×Str}{p:Addr} (h:H p=some (.tup [.str b.1,.str b.2])):Den H (twT b) (.ref p):=⟨p,_,rfl,h,_,_,rfl,rfl,_,_,rfl,rfl,rfl⟩
def prW (b:Str×Str):Str:=b.1 ++ " " ++ b.2
noncomputable def ruQ:List Sq:=[((0,1),(1,2)),((1,4),(3,4)),((1,2),(1,1))]
noncomputable def plQ:List (Int×Int):=[(-1,2),(0,1)]
noncomputable def wdZ (b:Bool):List (Str×Str):=if b=true then ruQ.map λ q=>(frS q.1,frS q.2) else plQ.map λ q=>(num q.1,num q.2)
noncomputable def txZ (b:Bool):Str:=if b=true then "2: 0 1/2; 1/4 3/4; 1/2 1" else "2: -1 2; 0 1"
theorem DG:∀ b:Bool,(wdZ b).length<=13/\(∀ p∈wdZ b,p.1.length<=20/\p.2.length<=20)/\JoinOk "; " ((wdZ b).map prW)=true/\(Txt.join "; " ((wdZ b).map prW)).length<=100/\num 2 ++ ": " ++ Txt.join "; " ((wdZ b).map prW)=txZ b:=by decide +kernel
def wz:Sp:=λ vs H Q _=>∃ (b:Bool) (l:Addr) (zs:List V),vs = [.int 2,.ref l]/\H l=some (.lst zs)/\bu H ((wdZ b).map twT) zs/\∀ H',aA H H'->Q (.str (txZ b)) H'
theorem D4:aG ["n","pairs"] ["n","pairs"] (aC xB):=aY
theorem EJ (F:Fun K "show_pairs" "show_pairs" xB f fd) (T:Txt mg):aS P w K mg base CX0 1 f fd ["n","pairs"] wz:=by
 refine F.oka D4 λ cdv A outer s H vs Q E hr h=>?_
 obtain⟨tb,l,zs,rfl,hl,dz,q⟩:=h
 obtain⟨h12,hb,jo,jl,je⟩:=DG tb
 generalize wdZ tb=bs at *
 have lz:=dz.len
 rw[List.length_map] at lz
 refine⟨_,(ak (aE (ar aq (ar aq (bT bY rfl T.str cD (ae (pv 0) af)) ah) (tV ah (dy (xs:=["low","high"]) (ts:=[]) rfl ⟨rfl,oN,rfl,rfl,rfl,by decide +kernel,rfl,rfl⟩ (fA (pv 1)) (λ C s3 H3 fp=>(eG (n:=2) rfl (aR (aP (i:=0) (show (["low","high"]:List Str).Nodup by decide +kernel) rfl (Or.inl rfl) (Or.inr rfl)) (aR (aP (i:=1) (show (["low","high"]:List Str).Nodup by decide +kernel) rfl (Or.inl rfl) (Or.inr rfl)) b5)))) (λ C s3 H3 fp=>cN) (λ C s3 H3 fp=>(ar aq (ar aq (pv 0) ah) (pv 1)))))))),?_⟩
 refine⟨_,rfl,2,rfl,lg (by decide),?_⟩
 rw[show Str.ofString (toString (2:Int))=num 2 from rfl]
 refine⟨_,_,rfl,rfl,aV (by rw[sM];have:=pz;omega),_,rfl,_,rfl,l,rfl,⟨_,SqL.of hl⟩,λ D hD=>?_⟩
 have at_:∀ (i:Nat) (b:Str×Str),bs[i]? = some b->∃ c,zs[i]? = some (.ref c)/\H c=some (.tup [.str b.1,.str b.2]):=λ i b hi=>by
  obtain⟨v,hv,dv⟩:=dz.get (show (bs.map twT)[i]? = some (twT b) by rw[List.getElem?_map,hi];rfl)
  obtain⟨c,rfl,hc⟩:=zH dv
  exact⟨c,hv,hc⟩
 refine p7 (λ i ws _=>ws=(bs.take i).map λ b=>V.str (prW b)) hD (SqL.of hl) (aV (by omega)) rfl (λ i hi=>?_) (λ i c u v ws H2 k hc hx s2 e r hk=>?_) ?_
 ·obtain⟨c,h1,h2⟩:=at_ i _ (List.getElem?_eq_getElem (by omega:i<bs.length))
  exact⟨c,_,_,h1,h2⟩
 ·have hi:i<bs.length:=by
   have:=(List.getElem?_eq_some_iff.mp hc).1
   omega
  have hbi:bs[i]? = some bs[i]:=List.getElem?_eq_getElem hi
  obtain⟨c',h1,h2⟩:=at_ i _ hbi
  rw[hc] at h1
  cases h1
  rw[hx] at h2
  cases h2
  obtain⟨w1,w2⟩:=hb _ (List.getElem_mem hi)
  refine⟨_,rfl,_,_,rfl,rfl,aV (by rw[tZ];omega),_,rfl,_,_,rfl,rfl,aV (by rw[Str.length_append,tZ];omega),hk _ _ (aA.refl _) ?_⟩
  rw[List.take_add_one,hbi,List.map_append,r]
  rfl
 rintro ws H2 s2 hD2 lw r
 rw[List.take_of_length_le (by omega)] at r
 subst r
 have e2:(bs.map λ b=>V.str (prW b))=(bs.map prW).map V.str:=by rw[List.map_map];rfl
 rw[e2] at hD2
 have q2:=q _ s2
 rw[<-je] at q2
 exact⟨D,bs.map prW,rfl,SqL.of hD2,jo,_,_,rfl,rfl,aV (by rw[Str.length_append,sM];have:=pz;omega),q2⟩
theorem k8 {H:Hp}{n:Int}{us:List Th}{p:Addr} (d:Den H (.tup [.int n,.tup us]) (.ref p)):∃ q zs,H p=some (.tup [.int n,.ref q])/\H q=some (.tup zs)/\bu H us zs:=by
 obtain⟨p',xs,e0,h,y,ys,e1,e2,z,zs,e3,e4,e5⟩:=d
 cases e0
 have e2':y=V.int n:=e2
 have e5':zs = []:=e5
 subst e5' e3 e2' e1
 obtain⟨q,ws,rfl,hq,dq⟩:=e4
 exact⟨q,ws,h,hq,dq⟩
theorem x9:∀ q∈ruQ,(q.1.1.natAbs<10^60/\1<=q.1.2/\q.1.2.natAbs<10^60)/\(q.2.1.natAbs<10^60/\1<=q.2.2/\q.2.2.natAbs<10^60):=by decide +kernel
theorem Et:∀ q∈plQ,q.1.natAbs<10^60/\q.2.natAbs<10^60:=by decide +kernel
def wA:Sp:=λ vs H Q _=>∃ (p:Addr),vs = [.ref p]/\Den H (ruT 2 ruQ) (.ref p)/\∀ H',aA H H'->Q (.str (txZ true)) H'
theorem Av:aG ["rule"] ["rule"] (aC qI):=aY
theorem A9 (F:Fun K "show_rule" "show_rule" qI f fd) (T:Txt mg) (Gshf:Cl P w K mg base CX0 1 "show_fraction" ["one"] C3) (Gshp:Cl P w K mg base CX0 1 "show_pairs" ["n","pairs"] wz):aS P w K mg base CX0 2 f fd ["rule"] wA:=by
 refine F.oka Av λ cdv A outer s H vs Q E hr h=>?_
 obtain⟨p,rfl,dp,q⟩:=h
 obtain⟨t,zs,hp,ht,dz⟩:=k8 dp
 have lz:=dz.len
 rw[List.length_map] at lz
 have h3:ruQ.length=3:=rfl
 have ok:=x9
 have ew:wdZ true=ruQ.map λ q=>(frS q.1,frS q.2):=rfl
 generalize ruQ=bs at *
 refine⟨_,(ak (aE (aJ Gshp hr rfl aN (ae (aF aH (pv 0) aj (λ _ _=>rfl)) (ae (dy (xs:=["low","high"]) (ts:=[]) rfl ⟨rfl,oN,rfl,rfl,rfl,by decide +kernel,rfl,rfl⟩ (iW (aF aH (pv 0) aj (λ _ _=>rfl))) (λ C s3 H3 fp=>(eG (n:=2) rfl (aR (aP (i:=0) (show (["low","high"]:List Str).Nodup by decide +kernel) rfl (Or.inl rfl) (Or.inr rfl)) (aR (aP (i:=1) (show (["low","high"]:List Str).Nodup by decide +kernel) rfl (Or.inl rfl) (Or.inr rfl)) b5)))) (λ C s3 H3 fp=>cN) (λ C s3 H3 fp=>(aW (ae (aJ Gshf hr rfl aN (ae (pv 0) af)) (ae (aJ Gshf hr rfl aN (ae (pv 1) af)) af))))) af))))),?_⟩
 refine⟨_,rfl,p,_,0,_,rfl,rfl,SqT.of hp,at0,?_⟩
 refine⟨_,rfl,p,_,1,_,rfl,rfl,SqT.of hp,at1,t,rfl,⟨_,SqT.of ht⟩,λ D hD=>?_⟩
 have at_:∀ (i:Nat) (b:Sq),bs[i]? = some b->∃ c a' b',zs[i]? = some (.ref c)/\H c=some (.tup [.ref a',.ref b'])/\H a'=some (.tup [.int b.1.1,.int b.1.2])/\H b'=some (.tup [.int b.2.1,.int b.2.2]):=λ i b hi=>by
  obtain⟨v,hv,dv⟩:=dz.get (show (bs.map ssT)[i]? = some (ssT b) by rw[List.getElem?_map,hi];rfl)
  obtain⟨c,a',b',rfl,hc,ha,hb⟩:=gZ dv
  exact⟨c,a',b',hv,hc,ha,hb⟩
 refine lf (λ i ws G=>bu G (((bs.take i).map λ q=>(frS q.1,frS q.2)).map twT) ws) hD (SqT.of ht) (aV (by omega)) rfl (λ i hi=>?_) (λ i c u v ws H2 k hc hx s2 e rr hk=>?_) ?_
 ·obtain⟨c,_,_,h1,h2,_,_⟩:=at_ i _ (List.getElem?_eq_getElem (by omega:i<bs.length))
  exact⟨c,_,_,h1,h2⟩
 ·have hi:i<bs.length:=by
   have:=(List.getElem?_eq_some_iff.mp hc).1
   omega
  have hbi:bs[i]? = some bs[i]:=List.getElem?_eq_getElem hi
  obtain⟨c',a',b',h1,h2,ha,hb⟩:=at_ i _ hbi
  rw[hc] at h1
  cases h1
  rw[hx] at h2
  cases h2
  obtain⟨⟨o1,o2,o3⟩,o4,o5,o6⟩:=ok _ (List.getElem_mem hi)
  refine⟨_,rfl,_,_,rfl,s2 _ _ ha,⟨o1,o2,o3⟩,λ H3 s3=>⟨_,rfl,_,_,rfl,s3 _ _ (s2 _ _ hb),⟨o4,o5,o6⟩,λ H4 s4=>⟨(by show 2<=sizeLine;decide),λ g hg=>?_⟩⟩⟩
  have s5:=aw hg (.tup [V.str (frS bs[i].1),V.str (frS bs[i].2)])
  have s34:=s3.trans (s4.trans s5)
  refine hk _ _ s34 ?_
  refine iG (d:=2) (s34 _ _ e) (pU _) ?_
  rw[List.take_add_one,hbi,List.map_append,List.map_append]
  exact df (rr.keep s34) (ck (b:=(frS bs[i].1,frS bs[i].2)) ai)
 rintro ws H2 s2 hD2 lw rr
 rw[List.take_of_length_le (by omega),<-ew] at rr
 exact⟨true,D,ws,rfl,hD2,rr,λ H3 s3=>q _ (s2.trans s3)⟩
def wy:Sp:=λ vs H Q _=>∃ (p:Addr),vs = [.ref p]/\Den H (gD 2 plQ) (.ref p)/\∀ H',aA H H'->Q (.str ("plan " ++ txZ false)) H'
theorem Au:aG ["plan"] ["plan"] (aC qH):=aY
theorem A8 (F:Fun K "show_plan" "show_plan" qH f fd) (T:Txt mg) (Gshp:Cl P w K mg base CX0 1 "show_pairs" ["n","pairs"] wz):aS P w K mg base CX0 2 f fd ["plan"] wy:=by
 refine F.oka Au λ cdv A outer s H vs Q E hr h=>?_
 obtain⟨p,rfl,dp,q⟩:=h
 obtain⟨t,zs,hp,ht,dz⟩:=k8 dp
 have lz:=dz.len
 rw[List.length_map] at lz
 have h3:plQ.length=2:=rfl
 have ok:=Et
 have ew:wdZ false=plQ.map λ q=>(num q.1,num q.2):=rfl
 generalize plQ=bs at *
 refine⟨_,(ak (aE (ar aq ah (aJ Gshp hr rfl aN (ae (aF aH (pv 0) aj (λ _ _=>rfl)) (ae (dy (xs:=["low","high"]) (ts:=[]) rfl ⟨rfl,oN,rfl,rfl,rfl,by decide +kernel,rfl,rfl⟩ (iW (aF aH (pv 0) aj (λ _ _=>rfl))) (λ C s3 H3 fp=>(eG (n:=2) rfl (aR (aP (i:=0) (show (["low","high"]:List Str).Nodup by decide +kernel) rfl (Or.inl rfl) (Or.inr rfl)) (aR (aP (i:=1) (show (["low","high"]:List Str).Nodup by decide +kernel) rfl (Or.inl rfl) (Or.inr rfl)) b5)))) (λ C s3 H3 fp=>cN) (λ C s3 H3 fp=>(aW (ae (bT bY rfl T.str cD (ae (pv 0) af)) (ae (bT bY rfl T.str cD (ae (pv 1) af)) af))))) af)))))),?_⟩
 refine⟨_,rfl,p,_,0,_,rfl,rfl,SqT.of hp,at0,?_⟩
 refine⟨_,rfl,p,_,1,_,rfl,rfl,SqT.of hp,at1,t,rfl,⟨_,SqT.of ht⟩,λ D hD=>?_⟩
 have at_:∀ (i:Nat) (b:Int×Int),bs[i]? = some b->∃ c,zs[i]? = some (.ref c)/\H c=some (.tup [.int b.1,.int b.2]):=λ i b hi=>by
  obtain⟨v,hv,dv⟩:=dz.get (show (bs.map ppT)[i]? = some (ppT b) by rw[List.getElem?_map,hi];rfl)
  obtain⟨c,rfl,hc⟩:=g0 dv
  exact⟨c,hv,hc⟩
 refine lf (λ i ws G=>bu G (((bs.take i).map λ q=>(num q.1,num q.2)).map twT) ws) hD (SqT.of ht) (aV (by omega)) rfl (λ i hi=>?_) (λ i c u v ws H2 k hc hx s2 e rr hk=>?_) ?_
 ·obtain⟨c,h1,h2⟩:=at_ i _ (List.getElem?_eq_getElem (by omega:i<bs.length))
  exact⟨c,_,_,h1,h2⟩
 ·have hi:i<bs.length:=by
   have:=(List.getElem?_eq_some_iff.mp hc).1
   omega
  have hbi:bs[i]? = some bs[i]:=List.getElem?_eq_getElem hi
  obtain⟨c',h1,h2⟩:=at_ i _ hbi
  rw[hc] at h1
  cases h1
  rw[hx] at h2
  cases h2
  obtain⟨o1,o2⟩:=ok _ (List.getElem_mem hi)
  refine⟨_,rfl,_,rfl,lg o1,_,rfl,_,rfl,lg o2,(by show 2<=sizeLine;decide),λ g hg=>?_⟩
  have s34:=aw hg (.tup [V.str (num bs[i].1),V.str (num bs[i].2)])
  refine hk _ _ s34 ?_
  refine iG (d:=2) (s34 _ _ e) (pU _) ?_
  rw[List.take_add_one,hbi,List.map_append,List.map_append]
  exact df (rr.keep s34) (ck (b:=(num bs[i].1,num bs[i].2)) ai)
 rintro ws H2 s2 hD2 lw rr
 rw[List.take_of_length_le (by omega),<-ew] at rr
 exact⟨false,D,ws,rfl,hD2,rr,λ H3 s3=>⟨_,_,rfl,rfl,aV (by decide +kernel),q _ (s2.trans s3)⟩⟩
def wO (C:CA):Sp:=λ vs H Q _=>∃ (p dx:Addr),vs = [.ref p]/\H p=some (.ins C.Desk dx [])/\∀ d,H d=none->Q .non (upd (upd H d (.dK [])) p (.ins C.Desk dx [("kept",.ref d)]))
theorem AA:aG ["self"] ["self"] (aC qY):=aY
theorem Bp (F:Fun K "__init__" "Desk.__init__" qY f fd) (T:Txt mg) (cf:CF P w K mg C):aS P w K mg base CX0 1 f fd ["self"] (wO C):=by
 refine F.oka AA λ cdv A outer s H vs Q E hr h=>?_
 obtain⟨p,dx,rfl,hp,q⟩:=h
 refine⟨_,(ak (Eo (pv 0) yq rfl)),?_⟩
 intro d hd
 exact⟨_,rfl,p,C.Desk,dx,[],rfl,by rw[aM (aZ hp hd)];exact hp,cf.clDesk,cf.nDesk_kept,by decide,q d hd⟩
structure fH (C:CA) (H:Hp) (p d:Addr) (kvs:List (Key×V)):Prop where
 ob:∃ dx,H p=some (.ins C.Desk dx [("kept",.ref d)])
 dk:H d=some (.dK kvs)
theorem fH.keep {C:CA}{H H':Hp}{p d:Addr}{kvs:List (Key×V)} (h:fH C H p d kvs) (s:aA H H'):fH C H' p d kvs:=by
 obtain⟨⟨dx,a⟩,b⟩:=h
 exact⟨⟨dx,s _ _ a⟩,s _ _ b⟩
theorem gu {d:Addr}:List.lookup (Str.ofString "kept") ([("kept",V.ref d)]:List (Str×V))=some (V.ref d):=by
 simp [List.lookup]
theorem eL {d:Addr}{m:Str} (h:(m == Str.ofString "kept")=false):List.lookup m ([("kept",V.ref d)]:List (Str×V))=none:=by simp only[List.lookup,h]
theorem Hu {H:Hp}{d:Addr}{kvs:List (Key×V)} (h:H d=some (.dK kvs)):IsD H d:=.inl ⟨kvs,.inl h⟩
def fX (H:Hp) (kvs:List (Key×V)) (n:Str) (a:Addr) (kd:Str) (x:V):Prop:=ce kvs (.inr n)=some (.ref a)/\H a=some (.tup [.str kd,x])
def lU (k kd:Str):Prop:=k = "either"∨k=kd
instance (k kd:Str):Decidable (lU k kd):=inferInstanceAs (Decidable (_∨_))
def qi (H:Hp) (kvs:List (Key×V)) (f n:Str):Prop:=dB n=false∨∃ k,bA d6 f=some k/\(ce kvs (.inr n)=none∨∃ a kd x,fX H kvs n a kd x/\¬ lU k kd)
def mK (H:Hp) (kvs:List (Key×V)) (f n:Str) (v:V):Prop:=dB n=true/\((bA d6 f=none/\v=.non)∨∃ k a kd x,bA d6 f=some k/\v=.ref a/\fX H kvs n a kd x/\lU k kd)
theorem fX.keep {H H':Hp}{kvs:List (Key×V)}{n:Str}{a:Addr}{kd:Str}{x:V} (h:fX H kvs n a kd x) (s:aA H H'):fX H' kvs n a kd x:=⟨h.1,s _ _ h.2⟩
theorem qi.keep {H H':Hp}{kvs:List (Key×V)}{f n:Str} (h:qi H kvs f n) (s:aA H H'):qi H' kvs f n:=by
 rcases h with h | ⟨k,e,h | ⟨a,kd,x,h,c⟩⟩
 ·exact .inl h
 ·exact .inr ⟨k,e,.inl h⟩
 ·exact .inr ⟨k,e,.inr ⟨a,kd,x,h.keep s,c⟩⟩
theorem mK.keep {H H':Hp}{kvs:List (Key×V)}{f n:Str}{v:V} (h:mK H kvs f n v) (s:aA H H'):mK H' kvs f n v:=by
 obtain⟨h0,h | ⟨k,a,kd,x,h1,h2,h3,h4⟩⟩:=h
 ·exact⟨h0,.inl h⟩
 ·exact⟨h0,.inr ⟨k,a,kd,x,h1,h2,h3.keep s,h4⟩⟩
def wN (C:CA):Sp:=λ vs H Q E=>∃ (p d:Addr) (kvs:List (Key×V)) (f n:Str),vs = [.ref p,.str f,.str n]/\fH C H p d kvs/\Asc n/\n.length<=50000 /\
 ((qi H kvs f n/\∀ H',aA H H'->E (.ref C.NoName) none H')∨∃ v,mK H kvs f n v/\∀ H',aA H H'->Q v H')
theorem tF:aG ["self","first","name","due"] ["self","first","name"] (aC qX):=aY
theorem Bo (F:Fun K "find_due" "Desk.find_due" qX f fd) (T:Txt mg) (cf:CF P w K mg C) (Gisn:Cl P w K mg base CX0 5 "is_name" ["word"] Dg):aS P w K mg base (CXX P w) 6 f fd ["self","first","name"] (wN C):=by
 obtain⟨kvN,MNEEDS,hN⟩:=cf.fNEEDS
 refine F.okb tF λ cdv A outer s H vs Q E hr h=>?_
 obtain⟨p,d,kvs,f,n,rfl,dk,an,ln,q⟩:=h
 refine⟨_,(ag (aU (bK (br (aJ Gisn hr rfl aN (ae (pv 2) af)))) (ak (bc bz rfl cf.xNoName rfl (ae ah af))) aI)
  (ag (aU (nF (mi MNEEDS (pv 1) (bV (v:=.ref C.NEEDS) rfl cf.mNEEDS rfl))) (ak (aE gR)) aI)
  (ag (aU (nF (uW (zh hr) (pv 2) (nK (pv 0) rfl))) (ak (bc bz rfl cf.xNoName rfl (ae ah af))) aI)
  (ag (aD (i:=3) tF.nd rfl (Or.inl rfl) (AZ (zh hr) (nK (pv 0) rfl) (pv 2) (λ _ _=>rfl)))
  (ag (aU (aK iq (nJ MNEEDS (bV (v:=.ref C.NEEDS) rfl cf.mNEEDS rfl) (pv 1) (λ _ _=>rfl)) (aW (ae ah (ae (aF aH (pv 3) aj (λ _ _=>rfl)) af))) (by with_unfolding_all rfl)) (ak (bc bz rfl cf.xNoName rfl (ae ah af))) aI)
  (ak (aE (pv 3)))))))),?_⟩
 have one:1<=sizeLine:=by decide
 obtain⟨⟨dx,op⟩,od⟩:=dk
 refine⟨_,rfl,n,rfl,an,ln,λ H1 s1=>⟨_,rfl,?_⟩⟩
 have op1:=s1 _ _ op
 have od1:=s1 _ _ od
 have hNf:=hN f
 cases hi:dB n with
 | false =>
  rcases q with ⟨_,q⟩ | ⟨v,⟨z,_⟩,_⟩
  ·exact bj ⟨one,q _ s1⟩
  ·rw[hi] at z;cases z
 | true =>
  refine bf ⟨_,rfl,f,rfl,rfl,_,rfl,?_⟩
  rw[hNf]
  cases hk:bA d6 f with
  | none =>
   rcases q with ⟨z | ⟨k,z,_⟩,_⟩ | ⟨v,⟨_,⟨_,rfl⟩ | ⟨k,a,kd,x,z,_⟩⟩,q⟩
   ·rw[hi] at z;cases z
   ·rw[hk] at z;cases z
   ·exact bj (q _ s1)
   ·rw[hk] at z;cases z
  | some k =>
   rw[hk] at hNf
   have hNf':ce kvN (Sum.inr f)=some (V.str k):=hNf
   refine bf ⟨_,rfl,_,rfl,p,C.Desk,dx,_,_,rfl,op1,cf.clDesk,cf.nDesk_kept,gu,d,_,rfl,oo.k (k:=.inr n) od1,_,rfl,?_⟩
   cases hv:ce kvs (.inr n) with
   | none =>
    rcases q with ⟨_,q⟩ | ⟨v,⟨_,⟨z,_⟩ | ⟨k,a,kd,x,_,_,z,_⟩⟩,q⟩
    ·exact bj ⟨one,q _ s1⟩
    ·rw[hk] at z;cases z
    ·have:=z.1;rw[hv] at this;cases this
   | some u =>
    have ent:∃ a kd x,fX H kvs n a kd x/\((¬ lU k kd/\∀ H',aA H H'->E (.ref C.NoName) none H')∨(lU k kd/\∀ H',aA H H'->Q (.ref a) H')):=by
     rcases q with ⟨z | ⟨k',z,y | ⟨a,kd,x,e,c⟩⟩,q⟩ | ⟨v,⟨_,⟨z,_⟩ | ⟨k',a,kd,x,z,rfl,e,c⟩⟩,q⟩
     ·rw[hi] at z;cases z
     ·rw[hv] at y;cases y
     ·rw[hk] at z;cases z
      exact⟨a,kd,x,e,.inl ⟨c,q⟩⟩
     ·rw[hk] at z;cases z
     ·rw[hk] at z;cases z
      exact⟨a,kd,x,e,.inr ⟨c,q⟩⟩
    obtain⟨a,kd,x,⟨e1,e2⟩,cc⟩:=ent
    rw[hv] at e1
    cases e1
    refine bf ⟨_,rfl,p,C.Desk,dx,_,_,rfl,op1,cf.clDesk,cf.nDesk_kept,gu,_,rfl,d,.ref a,rfl,hv ▸ oo.k (k:=.inr n) od1,?_⟩
    have e21:=s1 _ _ e2
    refine⟨_,rfl,f,_,rfl,rfl,hNf',?_⟩
    refine⟨_,rfl,a,_,0,_,rfl,rfl,SqT.of e21,at0,(by show 2<=sizeLine;decide),λ t ht=>?_⟩
    have s2:=aw ht (.tup [V.str "either",V.str kd])
    refine⟨t,_,rfl,.inr (SqT.of ai),rfl,rfl,_,rfl,?_⟩
    have ei:inV (.str k) [V.str "either",V.str kd]=decide (lU k kd):=by
     show (eqV (.str "either") (.str k) || (eqV (.str kd) (.str k) || false))=_
     rw[eqS,eqS,Bool.or_false]
     unfold lU
     by_cases c1:k = "either"<;>by_cases c2:k=kd<;>simp [c1,c2,eq_comm]
    dsimp only
    rw[if_pos rfl,ei]
    rcases cc with ⟨c,q⟩ | ⟨c,q⟩
    ·rw[decide_eq_false c]
     exact bj ⟨one,q _ (s1.trans s2)⟩
    ·rw[decide_eq_true c]
     exact bf ⟨_,rfl,q _ (s1.trans s2)⟩
theorem at2 {x y z:V}{xs:List V}:atI (x::y::z::xs) 2=some z:=cy (xs:=x::y::z::xs) (j:=2) rfl
theorem sne {a b:Str} (h:a≠b):decide (V.str a=V.str b)=false:=decide_eq_false λ z=>h (by injection z)
theorem uG {a b:Str} (h:a=b):decide (V.str a=V.str b)=true:=decide_eq_true (by rw[h])
def qu (C:CA):Sp:=λ vs H Q E=>∃ (f:Str) (due:V) (l:Addr) (ws:List V),vs = [.str f,due,.ref l]/\H l=some (.lst ws) /\
 ((f = "rule"/\∃ v,ws = [v]/\wD C [v] H Q E)∨(f = "plan"/\∃ v,ws = [v]/\wF C [v] H Q E)∨(f = "tails"/\∃ a b c,ws = [a,b,c]/\mT [a,b,c] H Q E)∨(f = "tight"/\∃ ad k x a b,due=.ref ad/\H ad=some (.tup [k,x])/\ws = [a,b]/\wr C [x,a,b] H Q E))
theorem Ax:aG ["first","due","values"] ["first","due","values"] (aC qQ):=aY
theorem Bh (F:Fun K "make" "make" qQ f fd) (T:Txt mg) (cf:CF P w K mg C) (Grr:Cl P w K mg base (CXX P w) 15 "read_rule" ["text"] (wD C)) (Grb:Cl P w K mg base (CXX P w) 15 "read_bounds" ["text"] (wF C)) (Gtails:Cl P w K mg base CX0 15 "tails" ["n","share","measure"] mT) (Gtgt:Cl P w K mg base (CXX P w) 15 "tight" ["rule","share","measure"] (wr C)):aS P w K mg base (CXX P w) 16 f fd ["first","due","values"] (qu C):=by
 refine F.okb Ax λ cdv A outer s H vs Q E hr h=>?_
 obtain⟨f,due,l,ws,rfl,hl,q⟩:=h
 refine⟨_,(ag (aU (aK b7 (pv 0) ah (aO _)) (ak (aE (aJ Grr hr rfl cn (ae (aF ba (pv 2) aj (λ _ _=>rfl)) af)))) aI)
  (ag (aU (aK b7 (pv 0) ah (aO _)) (ak (aE (aJ Grb hr rfl cn (ae (aF ba (pv 2) aj (λ _ _=>rfl)) af)))) aI)
  (ag (aU (aK b7 (pv 0) ah (aO _)) (ak (aE (aJ Gtails hr rfl aN (ae (aF ba (pv 2) aj (λ _ _=>rfl)) (ae (aF ba (pv 2) aj (λ _ _=>rfl)) (ae (aF ba (pv 2) aj (λ _ _=>rfl)) af)))))) aI)
  (ag (aU (aK b7 (pv 0) ah (aO _)) (ak (aE (aJ Gtgt hr rfl cn (ae (aF aH (pv 1) aj (λ _ _=>rfl)) (ae (aF ba (pv 2) aj (λ _ _=>rfl)) (ae (aF ba (pv 2) aj (λ _ _=>rfl)) af)))))) aI)
  (ak (dN)))))),?_⟩
 refine⟨_,rfl,rfl,_,rfl,?_⟩
 rcases q with ⟨rfl,v,rfl,q⟩ | ⟨rfl,v,rfl,q⟩ | ⟨rfl,a,b,c,rfl,q⟩ | ⟨rfl,ad,k,x,a,b,rfl,had,rfl,q⟩
 ·rw[uG rfl]
  exact bj ⟨_,rfl,l,_,0,_,rfl,rfl,SqL.of hl,at0,q⟩
 ·rw[sne (by decide +kernel)]
  refine bf ⟨_,rfl,rfl,_,rfl,?_⟩
  rw[uG rfl]
  exact bj ⟨_,rfl,l,_,0,_,rfl,rfl,SqL.of hl,at0,q⟩
 ·rw[sne (by decide +kernel)]
  refine bf ⟨_,rfl,rfl,_,rfl,?_⟩
  rw[sne (by decide +kernel)]
  refine bf ⟨_,rfl,rfl,_,rfl,?_⟩
  rw[uG rfl]
  exact bj ⟨_,rfl,l,_,0,_,rfl,rfl,SqL.of hl,at0,_,rfl,l,_,1,_,rfl,rfl,SqL.of hl,at1,_,rfl,l,_,2,_,rfl,rfl,SqL.of hl,at2,q⟩
 ·rw[sne (by decide +kernel)]
  refine bf ⟨_,rfl,rfl,_,rfl,?_⟩
  rw[sne (by decide +kernel)]
  refine bf ⟨_,rfl,rfl,_,rfl,?_⟩
  rw[sne (by decide +kernel)]
  refine bf ⟨_,rfl,rfl,_,rfl,?_⟩
  rw[uG rfl]
  exact bj ⟨_,rfl,ad,_,1,_,rfl,rfl,SqT.of had,at1,_,rfl,l,_,0,_,rfl,rfl,SqL.of hl,at0,_,rfl,l,_,1,_,rfl,rfl,SqL.of hl,at1,q⟩
def Dj:Sp:=λ vs H Q _=>∃ (ad x l:Addr) (b:Bool),vs = [.str "show",.ref ad,.ref l]/\H ad=some (.tup [.str (if b=true then "rule" else "plan"),.ref x])/\Den H (if b=true then ruT 2 ruQ else gD 2 plQ) (.ref x)/\∀ H',aA H H'->Q (.str (if b=true then txZ true else "plan " ++ txZ false)) H'
theorem xq:aG ["first","due","values","thing"] ["first","due","values"] (aC xW):=aY
theorem E7 (F:Fun K "answer" "answer" xW f fd) (T:Txt mg) (Gshow:Cl P w K mg base CX0 15 "show_rule" ["rule"] wA) (Gshpl:Cl P w K mg base CX0 15 "show_plan" ["plan"] wy):aS P w K mg base CX0 16 f fd ["first","due","values"] Dj:=by
 refine F.oka xq λ cdv A outer s H vs Q E hr h=>?_
 obtain⟨ad,x,l,b,rfl,had,dx,q⟩:=h
 refine⟨_,(ag (aD (i:=3) xq.nd rfl (Or.inl rfl) (aF aH (pv 1) aj (λ _ _=>rfl)))
  (ag (aU (aK b7 (pv 0) ah (aO _)) (ak (aE (kE (aK b7 (aF aH (pv 1) aj (λ _ _=>rfl)) ah (aO _)) (aJ Gshow hr rfl aN (ae (pv 3) af)) (aJ Gshpl hr rfl aN (ae (pv 3) af))))) aI)
  (ag (aU (aK b7 (pv 0) ah (aO _)) (ak (dN)) aI)
  (ag (aU (aK b7 (pv 0) ah (aO _)) (ak (dN)) aI)
  (ag (aU (aK b7 (pv 0) ah (aO _)) (ak (dN)) aI)
  (ag (aU (aK b7 (pv 0) ah (aO _)) (ak (dN)) aI)
  (ag (aU (aK b7 (pv 0) ah (aO _)) (ak (dN)) aI)
  (ak (dN))))))))),?_⟩
 refine⟨_,rfl,ad,_,1,_,rfl,rfl,SqT.of had,at1,_,rfl,rfl,_,rfl,?_⟩
 rw[uG rfl]
 refine bj ⟨_,rfl,ad,_,0,_,rfl,rfl,SqT.of had,at0,rfl,_,rfl,?_⟩
 cases b with
 | true=>exact bj ⟨_,rfl,x,rfl,dx,q⟩
 | false=>exact bf ⟨_,rfl,x,rfl,dx,q⟩
theorem yb {x f n:Str}{ths:List Th} (h:b6 x=some (f,n,ths)) (ax:Asc x):Asc n/\n.length<=x.length:=by
 unfold b6 at h
 cases lk:bA eh ((aL x).headD Str.empty) with
 | none=>rw[lk] at h;cases h
 | some fs =>
  rw[lk] at h
  dsimp only at h
  have axs:∀ z∈aL x,Asc z/\z.length<=x.length:=by rw[<-dw];exact gi ax
  have axm:∀ z∈mrg (aL x),Asc z/\z.length<=x.length:=λ z hz=>⟨b8.mpr λ c hc=>b8.mp ax c ((iy hz).1 c hc),(iy hz).2⟩
  have axw:∀ z∈(if fs=tx1 then mrg (aL x) else aL x),Asc z/\z.length<=x.length:=by split<;>assumption
  generalize (if fs=tx1 then mrg (aL x) else aL x)=W at h axw
  by_cases hl:W.length=fs.length+2
  ·rw[if_pos hl] at h
   obtain⟨vs,_,e⟩:=Option.map_eq_some_iff.mp h
   cases e
   exact axw _ (pN (by omega))
  ·rw[if_neg hl] at h;cases h
def Act (C:CA) (H:Hp) (d:Addr) (kvs:List (Key×V)) (f n:Str) (ths:List Th) (due:V) (Q:VK) (E:XK):Prop :=
 (∃ mk,bA makes f=some mk/\∀ l ws H1 Qm,aA H H1->H1 l=some (.lst ws)->bu H1 ths ws->(∀ x H2,aA H H2->(∀ e,H2 e=none->Q (.str "ok") (upd (upd H2 e (.tup [.str mk,x])) d (.dK (cM kvs (.inr n) (.ref e)))))->Qm x H2)->qu C [.str f,due,.ref l] H1 Qm E) ∨
 (f = "drop"/\∀ H',aA H H'->Q (.str "ok") (upd H' d (.dK (fV kvs (.inr n))))) ∨
 (f = "show"/\∃ (b:Bool) (ad x:Addr),due=.ref ad/\H ad=some (.tup [.str (if b=true then "rule" else "plan"),.ref x])/\Den H (if b=true then ruT 2 ruQ else gD 2 plQ) (.ref x)/\∀ H',aA H H'->Q (.str (if b=true then txZ true else "plan " ++ txZ false)) H')
def Say (C:CA) (H:Hp) (d:Addr) (kvs:List (Key×V)) (t:Th) (Q:VK) (E:XK):Prop :=
 (uJ t=none/\∀ H',aA H H'->E (.ref C.NoRow) none H')∨∃ f n ths,uJ t=some (f,n,ths) /\
 ((qi H kvs f n/\∀ H',aA H H'->E (.ref C.NoName) none H')∨∃ due,mK H kvs f n due/\Act C H d kvs f n ths due Q E)
def wB (C:CA):Sp:=λ vs H Q E=>∃ (p d:Addr) (kvs:List (Key×V)) (v:V) (t:Th),vs = [.ref p,v]/\fH C H p d kvs/\Den H t v/\okR t/\kvs.length<=10/\Say C H d kvs t Q E
theorem uI {t:Th}{f n:Str}{ths:List Th} (h:uJ t=some (f,n,ths)) (ok:okR t):Asc n/\n.length<=50000:=by
 cases t with
 | str x =>
  obtain⟨a,b⟩:=ok x rfl
  obtain⟨c,d⟩:=yb (show b6 x=some (f,n,ths) from h) a
  exact⟨c,by omega⟩
 | _=>cases h
theorem iu:bA d6 "drop" = some "either"/\bA d6 "show" = some "either"/\bA makes "drop" = none/\bA makes "show" = none:=by decide +kernel
theorem iR:aG ["self","row","asked","first","name","values","due"] ["self","row"] (aC xE):=aY
theorem EM (F:Fun K "say" "Desk.say" xE f fd) (T:Txt mg) (cf:CF P w K mg C) (Grrow:Cl P w K mg base (CXX P w) 16 "read_row" ["row"] (wC C)) {ffdue:Addr}{dfdue:FuncData} (Gfdue:aS P w K mg base (CXX P w) 16 ffdue dfdue ["self","first","name"] (wN C)) (bfdue:bS K dfdue ["self","first","name"] []) (mfdue:qh K C.Desk "find_due" ffdue) (Gmake:Cl P w K mg base (CXX P w) 16 "make" ["first","due","values"] (qu C)) (Gans:Cl P w K mg base CX0 16 "answer" ["first","due","values"] Dj):aS P w K mg base (CXX P w) 17 f fd ["self","row"] (wB C):=by
 obtain⟨kvM,MMAKES,hM⟩:=cf.fMAKES
 refine F.okb iR λ cdv A outer s H vs Q E hr h=>?_
 obtain⟨p,d,kvs,v,t,rfl,dk,dv,ok,lk,q⟩:=h
 refine⟨_,(ag (aD (i:=2) iR.nd rfl (Or.inl rfl) (aJ Grrow hr rfl cn (ae (pv 1) af)))
  (ag (aD (i:=3) iR.nd rfl (Or.inl rfl) (aF aH (pv 2) aj (λ _ _=>rfl)))
  (ag (aD (i:=4) iR.nd rfl (Or.inl rfl) (aF aH (pv 2) aj (λ _ _=>rfl)))
  (ag (aD (i:=5) iR.nd rfl (Or.inl rfl) (aF aH (pv 2) aj (λ _ _=>rfl)))
  (ag (aD (i:=6) iR.nd rfl (Or.inl rfl) (fD (pv 0) cf.clDesk mfdue Gfdue hr bfdue .nil cn (ae (pv 3) (ae (pv 4) af))))
  (ag (aU (nF (Ey MMAKES (pv 3) (bV (v:=.ref C.MAKES) rfl cf.mMAKES rfl))) (ag (AW (zh hr) (nK (pv 0) rfl) (pv 4) (aW (ae (nJ MMAKES (bV (v:=.ref C.MAKES) rfl cf.mMAKES rfl) (pv 3) (λ _ _=>rfl)) (ae (aJ Gmake hr rfl cn (ae (pv 3) (ae (pv 6) (ae (pv 5) af)))) af))) rfl)
   (ak (aE ah))) aI)
  (ag (aU (aK b7 (pv 3) ah (aO _)) (ag (jL (yp (nK (pv 0) rfl) (pv 4) ⟨rfl,rfl,rfl,rfl⟩))
   (ak (aE ah))) aI)
  (ak (aE (aJ Gans hr rfl aN (ae (pv 3) (ae (pv 6) (ae (pv 5) af))))))))))))),?_⟩
 rcases q with ⟨hn,q⟩ | ⟨f,n,ths,hn,q⟩
 ·exact⟨_,rfl,v,t,rfl,dv,ok,(λ f n ths z=>by rw[hn] at z;cases z),λ _ H' s=>q H' s⟩
 obtain⟨an,ln⟩:=uI hn ok
 refine⟨_,rfl,v,t,rfl,dv,ok,(λ f' n' ths' z a l ws H1 s1 ha hl dz=>?_),λ z=>by rw[hn] at z;cases z⟩
 rw[hn] at z
 cases z
 refine⟨_,rfl,a,_,0,_,rfl,rfl,SqT.of ha,at0,_,rfl,a,_,1,_,rfl,rfl,SqT.of ha,at1,_,rfl,a,_,2,_,rfl,rfl,SqT.of ha,at2,?_⟩
 dsimp only
 refine aX (λ σ G=>aA H1 G/\∃ due,mK H kvs f n due/\Act C H d kvs f n ths due Q E/\σ = [some (.ref p),some v,some (.ref a),some (.str f),some (.str n),some (.ref l),some due]) ?_ ?_
 ·intro M hM
  obtain⟨dx,op⟩:=dk.ob
  refine⟨_,rfl,p,_,_,rfl,s1 _ _ op,eL (by decide +kernel),_,rfl,_,rfl,p,d,kvs,f,n,rfl,dk.keep s1,an,ln,?_⟩
  rcases q with ⟨c,q⟩ | ⟨due,c,q⟩
  ·exact .inl ⟨c.keep s1,λ H' s'=>q H' (s1.trans s')⟩
  ·exact .inr ⟨due,c.keep s1,λ H' s'=>hM _ _ ⟨s',due,c,q,rfl⟩⟩
 clear q
 rintro σ G ⟨sG,due,dok,q5,rfl⟩
 have sHG:=s1.trans sG
 have dkG:=dk.keep sHG
 have hMf:=hM f
 obtain⟨dx,opG⟩:=dkG.ob
 refine⟨_,rfl,f,rfl,rfl,_,rfl,?_⟩
 rw[hMf]
 obtain⟨n1,n2,n3,n4⟩:=iu
 rcases q5 with ⟨mk,em,q6⟩ | ⟨rfl,q6⟩ | ⟨rfl,b,ad,x,rfl,had,hx,q6⟩
 ·rw[em] at hMf ⊢
  refine bj ⟨_,rfl,f,_,rfl,rfl,hMf,_,rfl,_,rfl,_,rfl,?_⟩
  refine q6 l ws G _ sHG (sG _ _ hl) (dz.keep sG) λ x H2 s2 q2=>⟨(by show 2<=sizeLine;decide),λ e he=>?_⟩
  have dk2:=dk.keep s2
  obtain⟨dx2,op2⟩:=dk2.ob
  have s3:=aw he (.tup [V.str mk,x])
  exact⟨_,rfl,p,C.Desk,dx2,_,_,rfl,s3 _ _ op2,cf.clDesk,cf.nDesk_kept,gu,_,rfl,d,_,rfl,Aa.k (k:=.inr n) (s3 _ _ dk2.dk) (vv (by omega)),q2 e he⟩
 ·rw[n3]
  refine bf ⟨_,rfl,rfl,_,rfl,?_⟩
  rw[uG rfl]
  obtain⟨u,hu⟩:∃ u,ce kvs (.inr n)=some u:=by
   obtain⟨_,⟨z,_⟩ | ⟨k,a,kd,x,_,_,z,_⟩⟩:=dok
   ·rw[n1] at z;cases z
   ·exact⟨_,z.1⟩
  exact bj ⟨_,rfl,p,C.Desk,dx,_,_,rfl,opG,cf.clDesk,cf.nDesk_kept,gu,d,rfl,Hu dkG.dk,_,rfl,kvs,.inr n,u,dkG.dk,rfl,hu,q6 _ sHG⟩
 ·rw[n4]
  refine bf ⟨_,rfl,rfl,_,rfl,?_⟩
  rw[sne (by decide +kernel)]
  exact bf ⟨_,rfl,_,rfl,_,rfl,ad,x,l,b,rfl,sHG _ _ had,hx.keep sHG,λ H' s'=>q6 H' (sHG.trans s')⟩
def glS:List Str->List Str->List Str
 | [],b=>b
 | [w],v::vs=>(w++v)::vs
 | [w],[]=>[w]
 | w::w'::ws,b=>w::glS (w'::ws) b
theorem Bt (a b:List Nat):ofL (a++b)=ofL a++ofL b:=bJ (by rw[cT];rfl)
theorem uh:∀ a b:List (List Nat),(BT a b).map ofL=glS (a.map ofL) (b.map ofL)
 | [],b=>rfl
 | [w],v::vs=>by
  show ofL (w++v)::vs.map ofL=(ofL w++ofL v)::vs.map ofL
  rw[Bt]
 | [w],[]=>rfl
 | w::w'::ws,b=>by
  show ofL w::(BT (w'::ws) b).map ofL=ofL w::glS ((w'::ws).map ofL) (b.map ofL)
  rw[uh (w'::ws) b]
theorem lW (a b:Str):aL (a++b)=glS (aL a) (aL b):=by
 unfold aL
 rw[cT,sS,uh]
theorem DH {n:Str} (h:32 ∉ n.cps.toList):aL n = [n]:=by
 unfold aL
 rw[sR h]
 rfl
theorem zE (n:Str):Str.empty++n=n:=bJ (by rw[cT];rfl)
theorem lB (n:Str):n++Str.empty=n:=bJ (by rw[cT];exact List.append_nil _)
theorem CO {f s w:Str}{ws:List Str}{n:Str} (hn:32 ∉ n.cps.toList) (hf:aL f = [w,Str.empty]) (hs:aL s=Str.empty::ws):aL (f++n++s)=w::n::ws:=by
 rw[lW,lW,DH hn,hf,hs]
 show w::(Str.empty++n++Str.empty)::ws=_
 rw[zE,lB]
def rE (fs:List Str) (ws:List Str):List Str:=if fs=tx1 then (match ws with
 | []=>[]
 | c::r=>[ofL (jn [32] (c::r))]) else ws
def oY (w:Str) (ws:List Str):Option (List Th):=match bA eh w with
 | none=>none
 | some fs=>if (rE fs ws).length=fs.length then fk ((fs.zip (rE fs ws)).map λ p=>lF p.1 p.2) else none
theorem gm {x w n:Str}{ws:List Str} (h:aL x=w::n::ws):b6 x=(oY w ws).map λ ths=>(w,n,ths):=by
 unfold b6 oY
 rw[h]
 show (match bA eh w with | none=>none | some fs=>_)=_
 cases bA eh w with
 | none=>rfl
 | some fs =>
  dsimp only
  have e:(if fs=tx1 then mrg (w::n::ws) else w::n::ws)=w::n::rE fs ws:=by
   unfold rE
   by_cases c:fs=tx1
   ·rw[if_pos c,if_pos c]
    cases ws<;>rfl
   ·rw[if_neg c,if_neg c]
  rw[e]
  by_cases c:(rE fs ws).length=fs.length
  ·rw[if_pos c,if_pos (show (w::n::rE fs ws).length=fs.length+2 by simp [c])]
   rfl
  ·rw[if_neg c,if_neg (show ¬ (w::n::rE fs ws).length=fs.length+2 by simp [c])]
   rfl
def kJ (f s:Str):Bool:=match aL f,aL s with
 | [w,e],e'::ws=>decide (e=Str.empty) && (decide (e'=Str.empty) && (oY w ws).isNone)
 | _,_=>false
theorem yJ {f s n:Str} (hn:32 ∉ n.cps.toList) (h:kJ f s=true):b6 (f++n++s)=none:=by
 unfold kJ at h
 split at h
 ·rename_i w e e' ws hf hs
  simp only[Bool.and_eq_true,decide_eq_true_eq,Option.isNone_iff_eq_none] at h
  obtain⟨rfl,rfl,h⟩:=h
  rw[gm (CO hn hf hs),h]
  rfl
 ·cases h
theorem Bv {f n:Str} (hn:32 ∉ n.cps.toList) (h:kJ f Str.empty=true):b6 (f++n)=none:=by
 have:=yJ hn h
 rwa [lB] at this
def qk (f s w:Str) (ths:List Th):Prop:=aL f = [w,Str.empty]/\∃ ws,aL s=Str.empty::ws/\oY w ws=some ths
theorem fY {f s w n:Str}{ths:List Th} (hn:32 ∉ n.cps.toList) (h:qk f s w ths):b6 (f++n++s)=some (w,n,ths):=by
 obtain⟨hf,ws,hs,h⟩:=h
 rw[gm (CO hn hf hs),h]
 rfl
theorem ow {f w n:Str}{ths:List Th} (hn:32 ∉ n.cps.toList) (h:qk f Str.empty w ths):b6 (f++n)=some (w,n,ths):=by
 have:=fY hn h
 rwa [lB] at this
def tB:Th->Th->Bool
 | .int a,.int b=>decide (a=b)
 | .str a,.str b=>decide (a=b)
 | .tup [.int a,.int b],.tup [.int c,.int d]=>decide (a=c) && decide (b=d)
 | _,_=>false
theorem F2 {a b:Th} (h:tB a b=true):a=b:=by
 unfold tB at h
 split at h
 ·rw[of_decide_eq_true h]
 ·rw[of_decide_eq_true h]
 ·simp only[Bool.and_eq_true,decide_eq_true_eq] at h
  rw[h.1,h.2]
 ·cases h
def tsB:List Th->List Th->Bool
 | [],[]=>true
 | a::as,b::bs=>tB a b && tsB as bs
 | _,_=>false
theorem wk:∀ {as bs:List Th},tsB as bs=true->as=bs
 | [],[],_=>rfl
 | a::as,b::bs,h=>by
  unfold tsB at h
  rw[Bool.and_eq_true] at h
  rw[F2 h.1,wk h.2]
 | [],_::_,h=>by cases h
 | _::_,[],h=>by cases h
def oy (f s w:Str) (ths:List Th):Bool:=decide (aL f = [w,Str.empty]) && match aL s with
 | e::ws=>decide (e=Str.empty) && match oY w ws with
  | some us=>tsB us ths
  | none=>false
 | []=>false
theorem fZ {f s w:Str}{ths:List Th} (h:oy f s w ths=true):qk f s w ths:=by
 unfold oy at h
 rw[Bool.and_eq_true] at h
 obtain⟨h1,h2⟩:=h
 split at h2
 ·rename_i e ws es
  rw[Bool.and_eq_true] at h2
  obtain⟨h2,h3⟩:=h2
  split at h3
  ·rename_i us eu
   have:=of_decide_eq_true h2
   subst this
   exact⟨of_decide_eq_true h1,ws,es,by rw[eu,wk h3]⟩
  ·cases h3
 ·cases h2
def wV (f s w:Str):Bool:=decide (aL f = [w,Str.empty]) && match aL s with
 | e::ws=>decide (e=Str.empty) && (oY w ws).isSome
 | []=>false
theorem wU {f s w n:Str} (hn:32 ∉ n.cps.toList) (h:wV f s w=true):∃ ths,b6 (f++n++s)=some (w,n,ths):=by
 unfold wV at h
 rw[Bool.and_eq_true] at h
 obtain⟨h1,h2⟩:=h
 split at h2
 ·rename_i e ws es
  rw[Bool.and_eq_true] at h2
  obtain⟨h2,h3⟩:=h2
  have:=of_decide_eq_true h2
  subst this
  obtain⟨ths,et⟩:=Option.isSome_iff_exists.mp h3
  exact⟨ths,fY hn ⟨of_decide_eq_true h1,ws,es,et⟩⟩
 ·cases h2
structure cz (x:Str):Prop where
 l1:1<=x.length
 l8:x.length<=8
 lt:∀ c∈x.cps.toList,97<=c/\c<=122
theorem Fc:∀ c:Nat,c<123->97<=c->gF c=true:=by decide +kernel
theorem cz.nm {x:Str} (h:cz x):dB x=true:=by
 unfold dB
 rw[decide_eq_true h.l1,decide_eq_true h.l8,Bool.true_and,Bool.true_and,List.all_eq_true]
 intro c hc
 have:=h.lt c hc
 exact Fc c (by omega) (by omega)
theorem cz.no {x:Str} (h:cz x):32 ∉ x.cps.toList:=λ m=>by
 have:=h.lt _ m
 omega
theorem cz.asc {x:Str} (h:cz x):Asc x:=b8.mpr λ c hc=>by
 have:=h.lt _ hc
 omega
structure Nms (r p l:Str):Prop where
 hr:cz r
 hp:cz p
 hl:cz l
 rp:r≠p
 rl:r≠l
 pl:p≠l
theorem pH {x:Str}{c:Nat} (hc:c∈x.cps.toList) (hl:gF c=false):dB x=false:=by
 unfold dB
 have:x.cps.toList.all gF=false:=by
  rw[Bool.eq_false_iff]
  intro z
  have:=List.all_eq_true.mp z c hc
  rw[hl] at this
  cases this
 rw[this,Bool.and_false,Bool.and_false]
theorem vD {x:Str} (h:8<x.length):dB x=false:=by
 unfold dB
 rw[decide_eq_false (show ¬ x.length<=8 by omega),Bool.false_and,Bool.and_false]
structure NoW (x:Str):Prop where
 nm:dB x=false
 no:32 ∉ x.cps.toList
 asc:Asc x
 len:x.length<=30
theorem gA {x:Str} (h:x.cps.toList.all (λ c=>decide (c<128))=true):Asc x:=b8.mpr λ c hc=>of_decide_eq_true (List.all_eq_true.mp h c hc)
theorem NoW.emp:NoW Str.empty:=⟨by decide +kernel,by decide +kernel,gA (by decide +kernel),by decide +kernel⟩
theorem NoW.long {n:Str} (h:cz n):NoW (n ++ "abcdefgh"):=by
 have l1:=h.l1
 have l8:=h.l8
 have e:("abcdefgh":Str).length=8:=by decide +kernel
 refine⟨vD (by rw[Str.length_append,e];omega),λ m=>?_,cg h.asc (gA (by decide +kernel)),by rw[Str.length_append,e];omega⟩
 rw[cT,List.mem_append] at m
 rcases m with m | m
 ·exact h.no m
 ·exact absurd m (by decide +kernel)
theorem DI:∀ c:Nat,c<123->97<=c->Unicode.upperOf c = [c-32]/\gF (c-32)=false:=by decide +kernel
theorem NoW.tail {n y:Str}{c:Nat} (h:cz n) (hy:y.cps.toList = [c]) (hc:gF c=false) (c32:c≠32) (c128:c<128):NoW (Txt.slice n (some 1) none++y):=by
 have e:=zJ n h.l1
 have hd:∀ d∈(Txt.slice n (some 1) none++y).cps.toList,d=c∨97<=d/\d<=122:=λ d m=>by
  rw[cT,List.mem_append,hy] at m
  rcases m with m | m
  ·exact .inr (h.lt d (List.mem_of_mem_drop (by rw[<-e];exact m)))
  ·exact .inl (List.mem_singleton.mp m)
 refine⟨pH (c:=c) (by rw[cT,List.mem_append,hy];exact .inr (List.mem_singleton.mpr rfl)) hc,λ m=>?_,b8.mpr λ d m=>?_,?_⟩
 ·rcases hd _ m with z | z<;>omega
 ·rcases hd _ m with z | z<;>omega
 ·rw[<-aB,cT,hy,List.length_append]
  have:(Txt.slice n (some 1) none).cps.toList.length<=n.cps.toList.length:=by
   rw[show (1:Int)=((1:Nat):Int) from rfl,e,List.length_drop];omega
  rw[aB n] at this
  have:=h.l8
  simp only[List.length_singleton]
  omega
theorem NoW.upper {n:Str} (h:cz n):NoW (Txt.upper n):=by
 have hd:∀ d∈(Txt.upper n).cps.toList,gF d=false/\d≠32:=λ d m=>by
  have hd':d∈((n.cps.mapIdx λ i c=>(Unicode.upperOf c).toArray).flatten):=Array.mem_def.mpr m
  obtain⟨a,ha,hda⟩:=Array.mem_flatten.mp hd'
  obtain⟨i,hi,rfl⟩:=Array.mem_mapIdx.mp ha
  have hx:=h.lt n.cps[i] (by simp)
  obtain⟨u1,u2⟩:=DI n.cps[i] (by omega) hx.1
  have:d∈Unicode.upperOf n.cps[i]:=by simpa using hda
  rw[u1] at this
  rw[List.mem_singleton.mp this]
  exact⟨u2,by omega⟩
 obtain⟨u1,u2⟩:=oJ h.asc
 refine⟨?_,λ m=>(hd _ m).2 rfl,u1,by have:=h.l8;omega⟩
 cases e:(Txt.upper n).cps.toList with
 | cons d r=>exact pH (c:=d) (by rw[e];exact List.mem_cons_self) (hd d (by rw[e];exact List.mem_cons_self)).1
 | nil =>
  unfold dB
  have:(Txt.upper n).length=0:=by rw[<-aB,e];rfl
  rw[this]
  rfl
def L26:Str:="abcdefghijklmnopqrstuvwxyz"
def chL (i:Int):Nat:=97+(i%26).toNat
def chr (i:Int):Str:=⟨#[chL i]⟩
theorem FH:∀ j:Nat,j<26->L26.cps.toList[j]? = some (97+j):=by decide +kernel
theorem zX (i:Int):atI L26.cps.toList (i%26)=some (chL i):=by
 have h0:=md0 i (m:=26) (by decide)
 have h1:=md1 i (m:=26) (by decide)
 obtain⟨j,e⟩:∃ j:Nat,i%26=(j:Int):=⟨(i%26).toNat,by omega⟩
 unfold chL
 rw[e,Int.toNat_natCast]
 exact cy (FH j (by omega))
theorem so (i:Int):97<=chL i/\chL i<=122:=by
 have h0:=md0 i (m:=26) (by decide)
 have h1:=md1 i (m:=26) (by decide)
 unfold chL
 omega
theorem y0:∀ ks:List Int,jn [] (ks.map chr)=ks.map chL
 | []=>rfl
 | [k]=>rfl
 | k::j::r=>by
  have ih:=y0 (j::r)
  show [chL k]++([]++jn [] (chr j::r.map chr))=_
  rw[List.nil_append,show jn [] (chr j::r.map chr)=jn [] ((j::r).map chr) from rfl,ih]
  rfl
def nmL (S:List Nat) (a z:Nat) (x:Nat):List Nat:=S.take a++x::(S.drop (a+1)).take (z-(a+1))
def nmS (S:Str) (a z:Nat) (i:Int):Str:=Txt.slice S none (some (a:Int))++chr i++Txt.slice S (some ((a:Int)+1)) (some (z:Int))
theorem rC {S:Str}{a z:Nat} (hz:z<=S.length) (ha:a+1<=z) (i:Int):(nmS S a z i).cps.toList=nmL S.cps.toList a z (chL i):=by
 unfold nmS nmL
 rw[cT,cT,wX,show (a:Int)+1=((a+1:Nat):Int) by omega,Ce S ha hz,List.append_assoc]
 rfl
theorem nM {S:Str}{a z:Nat} (hz:z<=S.length) (ha:a+1<=z) (z8:z<=8) (hS:∀ c∈S.cps.toList,97<=c/\c<=122) (i:Int):cz (nmS S a z i):=by
 have e:=rC hz ha i
 have hl:S.cps.toList.length=S.length:=aB S
 have len:(nmS S a z i).length=z:=by
  rw[<-aB,e]
  unfold nmL
  simp only[List.length_append,List.length_cons,List.length_take,List.length_drop]
  omega
 refine⟨by omega,by omega,λ c hc=>?_⟩
 rw[e] at hc
 unfold nmL at hc
 rcases List.mem_append.mp hc with m | m
 ·exact hS c (List.mem_of_mem_take m)
 ·rcases List.mem_cons.mp m with m | m
  ·rw[m];exact so i
  ·exact hS c (List.mem_of_mem_drop (List.mem_of_mem_take m))
theorem rB {S:Str}{a z:Nat} (hz:z<=S.length) (ha:a+1<=z) {i j:Int} (h:chL i≠chL j):nmS S a z i≠nmS S a z j:=λ q=>by
 have e:=rC hz ha i
 rw[q,rC hz ha j] at e
 unfold nmL at e
 have:=List.append_cancel_left e
 injection this with w _
 exact h w.symm
theorem Fz (i:Int):chL i≠chL (i+5)/\chL i≠chL (i+10)/\chL (i+5)≠chL (i+10):=by
 unfold chL
 omega
def Db (K:PySem.W.Frag):Sp:=λ vs H Q _=>∃ (a:Addr) (ns:List Int),vs = [.ref a]/\SqL K H a (ns.map V.int)/\ns.length<=63/\∀ l r p q H',aA H H'->H' l=some (.lst [.str r,.str p,.str q])->Nms r p q->Q (.ref l) H'
theorem BL:("abcdefghijklmnopqrstuvwxyz":Str).length<=sizeLine:=aV (by decide +kernel)
theorem gP:aG ["_law_script","_law_letters","_law_cell","_law_size","_law_at_here","_law_stem","_law_signs"] ["_law_script"] (aC xL):=aY
theorem EU (F:Fun K "_law_names" "_law_names" xL f fd) (T:Txt mg) (GatU:Cl P w K mg base CX0 1 "_law_at" ["_law_script","_law_k"] (wT K)):aS P w K mg base CX0 2 f fd ["_law_script"] (Db K):=by
 refine F.oka gP λ cdv A outer s H vs Q E hr h=>?_
 obtain⟨a,ns,rfl,hS,h63,q⟩:=h
 refine⟨_,(ag (aD (i:=1) gP.nd rfl (Or.inr rfl) ah)
  (ag (aD (i:=2) gP.nd rfl (Or.inr rfl) (aJ GatU hr rfl aN (ae (pv 0) (ae aj af))))
  (ag (aD (i:=3) gP.nd rfl (Or.inr rfl) (ar bM aj (ar cP (pv 2) aj)))
  (ag (aD (i:=4) gP.nd rfl (Or.inr rfl) (ar cP (ar di (pv 2) aj) (pv 3)))
  (ag (aD (i:=5) gP.nd rfl (Or.inr rfl) (tV ah (eX (ts:=[("_law_letters",1),("_law_cell",2)]) rfl ⟨rfl,DX rfl rfl,rfl,rfl,rfl,rfl,by decide +kernel,rfl,rfl⟩ (cZ rfl T.range (ae aj af)) (λ C s3 H3 fp=>(aF rK (pv 1) (ar cP (ar bM (ar di (pv 2) aj) (ar d5 (ar d5 aj (pv 0)) (pv 0))) aj) (λ _ _=>rfl))))))
  (ag (tR (i:=6) gP.nd rfl (Or.inl rfl) (xs:=["_law_k"]) (ts:=[("_law_letters",1),("_law_cell",2)]) rfl ⟨rfl,DX rfl rfl,rfl,rfl,rfl,by decide +kernel,rfl,rfl⟩ (cZ rfl T.range (ae aj af)) (λ C s3 H3 fp=>(aP (i:=0) (show (["_law_k","_law_letters","_law_cell"]:List Str).Nodup by decide +kernel) rfl (Or.inl rfl) (Or.inr rfl))) (λ C s3 H3 fp=>cN) (λ C s3 H3 fp=>(aF rK (pv 1) (ar cP (ar bM (ar di (pv 2) aj) (ar d5 aj (pv 0))) aj) (λ _ _=>rfl))))
  (ak (aE (eX (ts:=[("_law_stem",5),("_law_size",3),("_law_at_here",4)]) rfl ⟨rfl,F4 rfl rfl rfl,rfl,rfl,rfl,rfl,by decide +kernel,rfl,rfl⟩ (fA (pv 6)) (λ C s3 H3 fp=>(ar aq (ar aq (cO iQ (pv 1) eF (dh (pv 3))) (pv 0)) (cO iQ (pv 1) (dh (ar bM (pv 3) aj)) (dh (pv 2)))))))))))))),?_⟩
 dsimp only
 refine aX (λ σ G=>G=H/\σ = [some (.ref a),some (.str L26),none,none,none,none,none]) (λ M hM=>hM _ _ ⟨rfl,rfl⟩) ?_
 rintro σ G ⟨rfl,rfl⟩
 refine aX (λ σ G'=>G'=G/\∃ c:Int,σ = [some (.ref a),some (.str L26),some (.int c),none,none,none,none]) (λ M hM=>⟨_,rfl,a,ns,0,rfl,hS,h63,by decide,by decide,λ c=>hM _ _ ⟨rfl,c,rfl⟩⟩) ?_
 rintro σ G' ⟨rfl,c,rfl⟩
 have c8:=md0 c (m:=8) (by decide)
 have c8':=md1 c (m:=8) (by decide)
 refine aX (λ σ G=>G=G'/\σ = [some (.ref a),some (.str L26),some (.int c),some (.int (1+c%8)),none,none,none]) (λ M hM=>⟨_,rfl,_,_,rfl,rfl,(by show (0:Int)<8;decide),_,_,rfl,rfl,hM _ _ ⟨rfl,rfl⟩⟩) ?_
 rintro σ G ⟨rfl,rfl⟩
 obtain⟨z,ez⟩:∃ z:Nat,1+c%8=(z:Int):=⟨(1+c%8).toNat,by omega⟩
 rw[ez]
 have z1:1<=z:=by omega
 have z8:z<=8:=by omega
 have zi:(0:Int)<(z:Int):=by omega
 obtain⟨aa,ea⟩:∃ aa:Nat,c / 8%(z:Int)=(aa:Int):=⟨(c / 8%(z:Int)).toNat,by have:=md0 (c / 8) zi;omega⟩
 have az:aa+1<=z:=by have:=md1 (c / 8) zi;omega
 refine aX (λ σ G'=>G'=G/\σ = [some (.ref a),some (.str L26),some (.int c),some (.int (z:Int)),some (.int (aa:Int)),none,none]) (λ M hM=>⟨_,rfl,_,_,rfl,rfl,⟨by decide,by decide⟩,_,rfl,_,_,rfl,rfl,zi,hM _ _ ⟨rfl,by rw[<-ea];rfl⟩⟩) ?_
 rintro σ G' ⟨rfl,rfl⟩
 have ll:=BL
 refine aX (λ σ G=>aA G' G/\∃ S:Str,S.length=8/\(∀ c∈S.cps.toList,97<=c/\c<=122)/\σ = [some (.ref a),some (.str L26),some (.int c),some (.int (z:Int)),some (.int (aa:Int)),some (.str S),none]) ?_ ?_
 ·intro M hM
  refine⟨_,rfl,_,rfl,by decide,by decide,λ D hD=>?_⟩
  refine rY (λ i=>V.str (chr (c / 64+3*(0+(i:Int))*(0+(i:Int))))) hD (aV (by decide)) (λ i H2 k hi s2 hk=>?_) λ H2 s2 hD2=>?_
  ·have hi8:i<8:=hi
   exact⟨_,rfl,_,rfl,_,_,rfl,rfl,⟨by decide,by decide⟩,_,rfl,_,_,rfl,rfl,.inl ⟨by decide,by decide⟩,_,rfl,_,_,rfl,rfl,.inr ⟨by omega,by omega⟩,_,_,rfl,rfl,_,_,rfl,rfl,(by show (0:Int)<26;decide),_,_,_,rfl,rfl,ll,zX _,hk _ (aA.refl _)⟩
  ·have em:((List.range 8).map λ i:Nat=>V.str (chr (c / 64+3*(0+(i:Int))*(0+(i:Int)))))=(((List.range 8).map λ i:Nat=>c / 64+3*(0+(i:Int))*(0+(i:Int))).map chr).map V.str:=by rw[List.map_map,List.map_map];rfl
   have hD3:H2 D=some (.lst ((((List.range 8).map λ i:Nat=>c / 64+3*(0+(i:Int))*(0+(i:Int))).map chr).map V.str)):=by rw[<-em];exact hD2
   clear hD2 em
   generalize hk:((List.range 8).map λ i:Nat=>c / 64+3*(0+(i:Int))*(0+(i:Int)))=ks at hD3
   have lk:ks.length=8:=by rw[<-hk];rfl
   have wsum:∀ ks:List Int,((ks.map chr).map (·.length)).sum=ks.length:=λ ks=>by
    induction ks with
    | nil=>rfl
    | cons k r ih =>
     rw[List.map_cons,List.map_cons,List.sum_cons,ih,List.length_cons,show (chr k).length=1 from rfl]
     omega
   have W:Ws 8 8 (ks.map chr):=⟨λ w hw=>by
    obtain⟨i,_,rfl⟩:=List.mem_map.mp hw
    have:=so i
    exact b8.mpr λ d hd=>by
     have:d=chL i:=List.mem_singleton.mp hd
     omega,by rw[wsum,lk];exact Nat.le_refl _,by rw[List.length_map,lk];exact Nat.le_refl _⟩
   have je:(Txt.join "" (ks.map chr)).cps.toList=ks.map chL:=by
    have hj:(Txt.join "" (ks.map chr)).cps.toList=jn ("":Str).cps.toList (ks.map chr):=by
     show (PySem.Builtin.Str.glued "" (ks.map chr)).cps.toList=_
     rw[PySem.StrLaws.glued_eq_join]
     exact jP "" (ks.map chr)
    rw[hj,show ("":Str).cps.toList = [] by decide +kernel]
    exact y0 ks
   refine⟨D,_,rfl,SqL.of hD3,W.ok (y:="") (k:=0) (by decide +kernel) (by decide),hM _ _ ⟨s2,_,?_,?_,rfl⟩⟩
   ·rw[<-aB,je,List.length_map,lk]
   ·intro d hd
    rw[je] at hd
    obtain⟨i,_,rfl⟩:=List.mem_map.mp hd
    exact so i
 rintro σ G ⟨sG,S,S8,hSl,rfl⟩
 refine aX (λ σ G1=>aA G G1/\∃ l:Addr,G1 l=some (.lst [.str (chr (c / 1664)),.str (chr (c / 1664+5)),.str (chr (c / 1664+10))])/\σ = [some (.ref a),some (.str L26),some (.int c),some (.int (z:Int)),some (.int (aa:Int)),some (.str S),some (.ref l)]) ?_ ?_
 ·intro M hM
  refine⟨_,rfl,by decide,by decide,λ D hD=>?_⟩
  refine jx (λ i=>V.str (chr (c / 1664+5*(0+(i:Int))))) hD (aV (by decide)) (λ i H2 k hi s2 hk=>?_) λ H2 s2 hD2=>?_
  ·exact⟨_,rfl,_,rfl,_,_,rfl,rfl,⟨by decide,by decide⟩,_,rfl,_,_,rfl,rfl,.inl ⟨by decide,by decide⟩,_,_,rfl,rfl,_,_,rfl,rfl,(by show (0:Int)<26;decide),_,_,_,rfl,rfl,ll,zX _,hk _ (aA.refl _)⟩
  ·refine hM _ _ ⟨s2,D,?_,rfl⟩
   rw[hD2]
   show some (HO.lst [V.str (chr (c / 1664+5*(0+0))),V.str (chr (c / 1664+5*(0+1))),V.str (chr (c / 1664+5*(0+2)))])=_
   rw[show c / 1664+5*(0+0)=c / 1664 by omega,show c / 1664+5*(0+1)=c / 1664+5 by omega,show c / 1664+5*(0+2)=c / 1664+10 by omega]
 rintro σ G1 ⟨sG1,l,hl,rfl⟩
 generalize c / 1664=e at *
 refine⟨_,rfl,l,rfl,⟨_,SqL.of hl⟩,λ D hD=>?_⟩
 refine r0 [chr e,chr (e+5),chr (e+10)] V.str (λ x=>V.str (Txt.slice S none (some (aa:Int))++x++Txt.slice S (some ((aa:Int)+1)) (some (z:Int)))) hD (SqL.of hl) (aV (by show 3<=100000;decide)) (λ x H2 k hx s2 hk=>?_) λ H2 s2 hD2=>?_
 ·have x1:x.length=1:=by
   rcases List.mem_cons.mp hx with rfl | hx
   ·rfl
   rcases List.mem_cons.mp hx with rfl | hx
   ·rfl
   rw[List.mem_singleton.mp hx]
   rfl
  have le1:=Txt.slice_le S none (some (aa:Int))
  have le2:=Txt.slice_le S (some ((aa:Int)+1)) (some (z:Int))
  exact⟨_,rfl,_,rfl,_,rfl,S,rfl,aV (by omega),_,rfl,_,_,rfl,rfl,aV (by omega),_,rfl,_,rfl,_,_,rfl,rfl,_,rfl,_,rfl,_,rfl,S,rfl,aV (by omega),_,_,rfl,rfl,aV (by rw[Str.length_append];omega),hk _ (aA.refl _)⟩
 ·have ne:=Fz e
  have zS:z<=S.length:=by omega
  exact q D _ _ _ H2 (((sG.trans sG1)).trans s2) hD2 ⟨nM zS az z8 hSl e,nM zS az z8 hSl _,nM zS az z8 hSl _,rB zS az ne.1,rB zS az ne.2.1,rB zS az ne.2.2⟩
theorem lA {ws:List Str}{k:Int} (k0:0<=k) (k1:k<(ws.length:Int)):∃ w∈ws,atI (ws.map V.str) k=some (.str w):=by
 obtain⟨j,rfl⟩:∃ j:Nat,k=(j:Int):=⟨k.toNat,by omega⟩
 have hj:j<ws.length:=by omega
 refine⟨ws[j],List.getElem_mem hj,cy ?_⟩
 rw[List.getElem?_map,List.getElem?_eq_getElem hj]
 rfl
theorem lc {a b:Str}{m n:Nat} (ha:a.length<=m) (hb:b.length<=n):(a++b).length<=m+n:=by
 rw[Str.length_append]
 exact Nat.add_le_add ha hb
theorem l60 {x:Str} (h:x.length<=60):x.length<=60:=h
local macro_rules | `(tactic| ac_rfl)=>`(tactic| first | assumption | (apply l60;decide +kernel) | (apply lc<;>ac_rfl))
local macro_rules | `(tactic| and_intros)=>`(tactic| repeat (first | refine⟨_,rfl,?_⟩ | refine⟨_,_,rfl,rfl,aV (Nat.le_trans (Nat.add_le_add (by ac_rfl) (by ac_rfl)) (by decide)),?_⟩))
def d8 (x:Str):Bool:=x.cps.toList.all (λ c=>decide (c<128)) && decide (x.length<=200)
theorem d7 {x:Str} (h:d8 x=true):Asc x/\x.length<=200:=by
 unfold d8 at h
 rw[Bool.and_eq_true] at h
 exact⟨gA h.1,of_decide_eq_true h.2⟩
def NoR (t:Th):Prop:=okR t/\uJ t=none
theorem eK {x:Str} (a:Asc x) (l:x.length<=30000):okR (.str x):=λ y e=>by
 cases e
 exact⟨a,l⟩
theorem gr {x:Str} (h:(d8 x && (b6 x).isNone)=true):NoR (.str x):=by
 rw[Bool.and_eq_true] at h
 obtain⟨a,l⟩:=d7 h.1
 exact⟨eK a (by omega),Option.isNone_iff_eq_none.mp h.2⟩
theorem rA {f n:Str} (hn:cz n) (h:(d8 f && kJ f Str.empty)=true):NoR (.str (f++n)):=by
 rw[Bool.and_eq_true] at h
 obtain⟨a,l⟩:=d7 h.1
 have:=hn.l8
 exact⟨eK (cg a hn.asc) (by rw[Str.length_append];omega),Bv hn.no h.2⟩
theorem gU {f s n:Str} (hn:cz n) (h:(d8 f && d8 s && kJ f s)=true):NoR (.str (f++n++s)):=by
 rw[Bool.and_eq_true,Bool.and_eq_true] at h
 obtain⟨a,l⟩:=d7 h.1.1
 obtain⟨a',l'⟩:=d7 h.1.2
 have:=hn.l8
 exact⟨eK (cg (cg a hn.asc) a') (by rw[Str.length_append,Str.length_append];omega),yJ hn.no h.2⟩
theorem BB {n:Str} (hn:cz n):NoR (.str ("show " ++ n ++ " " ++ n)):=by
 have:=hn.l8
 have e5:("show ":Str).length=5:=by decide +kernel
 have e1:(" ":Str).length=1:=by decide +kernel
 refine⟨eK (cg (cg (cg (gA (by decide +kernel)) hn.asc) (gA (by decide +kernel))) hn.asc) (by rw[Str.length_append,Str.length_append,Str.length_append];omega),?_⟩
 have hw:aL ("show " ++ n ++ " " ++ n) = [("show":Str),n,n]:=by
  rw[lW,lW,lW,DH hn.no,show aL "show " = [("show":Str),Str.empty] by decide +kernel,show aL " " = [Str.empty,Str.empty] by decide +kernel]
  show [("show":Str),Str.empty++n++Str.empty,Str.empty++n]=_
  rw[zE,lB]
 show b6 _=none
 rw[gm hw]
 unfold oY
 rw[show bA eh "show" = some [] by decide +kernel]
 rfl
theorem vi {n:Str} (hn:cz n):NoR (.str (" show " ++ n)):=by
 have:=hn.l8
 have e6:(" show ":Str).length=6:=by decide +kernel
 refine⟨eK (cg (gA (by decide +kernel)) hn.asc) (by rw[Str.length_append];omega),?_⟩
 have hw:aL (" show " ++ n) = [Str.empty,"show",n]:=by
  rw[lW,DH hn.no,show aL " show " = [Str.empty,"show",Str.empty] by decide +kernel]
  show [Str.empty,"show",Str.empty++n]=_
  rw[zE]
 show b6 _=none
 rw[gm hw]
 unfold oY
 rw[show bA eh Str.empty=none by decide +kernel]
 rfl
theorem cr {α:Type}{P:α->Prop}{a b:List α} (h1:∀ t∈a,P t) (h2:∀ t∈b,P t):∀ t∈a++b,P t:=λ t ht=>(List.mem_append.mp ht).elim (h1 t) (h2 t)
theorem aQ {α:Type}{P:α->Prop}{a:α}{b:List α} (h1:P a) (h2:∀ t∈b,P t):∀ t∈a::b,P t:=List.forall_mem_cons.mpr ⟨h1,h2⟩
theorem cW {α:Type}{P:α->Prop}:∀ t∈([]:List α),P t:=λ t ht=>absurd ht (by simp)
noncomputable def vh (r p z:Str):List Th:=[.non,.int 7,.bl true,.lst [.str (("show ":Str)++r)],.str (("":Str)),.str ((" ":Str)),.str (("Show ":Str)++r),.str (("shows ":Str)++r),.str (("show":Str)),.str (("show ":Str)++r ++ " " ++ r),.str ((" show ":Str)++r)]
noncomputable def jC (i:Addr) (r p z:Str):List V:=[.non,.int 7,.bl true,.ref i,.str (("":Str)),.str ((" ":Str)),.str (("Show ":Str)++r),.str (("shows ":Str)++r),.str (("show":Str)),.str (("show ":Str)++r ++ " " ++ r),.str ((" show ":Str)++r)]
theorem BA {r p z:Str} (hN:Nms r p z):∀ t∈vh r p z,NoR t :=
 aQ (⟨(λ _ e=>by cases e),rfl⟩) (
 aQ (⟨(λ _ e=>by cases e),rfl⟩) (
 aQ (⟨(λ _ e=>by cases e),rfl⟩) (
 aQ (⟨(λ _ e=>by cases e),rfl⟩) (
 aQ (gr (by decide +kernel)) (
 aQ (gr (by decide +kernel)) (
 aQ (rA hN.hr (by decide +kernel)) (
 aQ (rA hN.hr (by decide +kernel)) (
 aQ (gr (by decide +kernel)) (
 aQ (BB hN.hr) (
 aQ (vi hN.hr) (
 cW)))))))))))
theorem Hr {H:Hp}{i:Addr}{r p z:Str} (hi:H i=some (.lst [.str ("show " ++ r)])):bu H (vh r p z) (jC i r p z):=⟨_,_,rfl,rfl,⟨_,_,rfl,rfl,⟨_,_,rfl,rfl,⟨_,_,rfl,⟨i,_,rfl,hi,_,_,rfl,rfl,rfl⟩,⟨_,_,rfl,rfl,⟨_,_,rfl,rfl,⟨_,_,rfl,rfl,⟨_,_,rfl,rfl,⟨_,_,rfl,rfl,⟨_,_,rfl,rfl,⟨_,_,rfl,rfl,rfl⟩⟩⟩⟩⟩⟩⟩⟩⟩⟩⟩
noncomputable def vg (r p z:Str):List Th:=[.str (("show ":Str)++r ++ " "),.str (("rule":Str)),.str (("rule ":Str)++r),.str (("plan ":Str)++p),.str (("drop":Str)),.str (("cover ":Str)++r),.str (("cover ":Str)++r ++ " 1/2 1")]
noncomputable def kI (i:Addr) (r p z:Str):List V:=[.str (("show ":Str)++r ++ " "),.str (("rule":Str)),.str (("rule ":Str)++r),.str (("plan ":Str)++p),.str (("drop":Str)),.str (("cover ":Str)++r),.str (("cover ":Str)++r ++ " 1/2 1")]
theorem Bz {r p z:Str} (hN:Nms r p z):∀ t∈vg r p z,NoR t :=
 aQ (gU hN.hr (by decide +kernel)) (
 aQ (gr (by decide +kernel)) (
 aQ (rA hN.hr (by decide +kernel)) (
 aQ (rA hN.hp (by decide +kernel)) (
 aQ (gr (by decide +kernel)) (
 aQ (rA hN.hr (by decide +kernel)) (
 aQ (gU hN.hr (by decide +kernel)) (
 cW)))))))
theorem Hq {H:Hp}{i:Addr}{r p z:Str} (hi:H i=some (.lst [.str ("show " ++ r)])):bu H (vg r p z) (kI i r p z):=⟨_,_,rfl,rfl,⟨_,_,rfl,rfl,⟨_,_,rfl,rfl,⟨_,_,rfl,rfl,⟨_,_,rfl,rfl,⟨_,_,rfl,rfl,⟨_,_,rfl,rfl,rfl⟩⟩⟩⟩⟩⟩⟩
noncomputable def vf (r p z:Str):List Th:=[.str (("least":Str)),.str (("least ":Str)++r ++ " 1"),.str (("sure ":Str)++r),.str (("span ":Str)++r ++ " 1"),.str (("chance ":Str)++p ++ " 1/2"),.str (("mean ":Str)++p)]
noncomputable def nL (i:Addr) (r p z:Str):List V:=[.str (("least":Str)),.str (("least ":Str)++r ++ " 1"),.str (("sure ":Str)++r),.str (("span ":Str)++r ++ " 1"),.str (("chance ":Str)++p ++ " 1/2"),.str (("mean ":Str)++p)]
theorem By {r p z:Str} (hN:Nms r p z):∀ t∈vf r p z,NoR t :=
 aQ (gr (by decide +kernel)) (
 aQ (gU hN.hr (by decide +kernel)) (
 aQ (rA hN.hr (by decide +kernel)) (
 aQ (gU hN.hr (by decide +kernel)) (
 aQ (gU hN.hp (by decide +kernel)) (
 aQ (rA hN.hp (by decide +kernel)) (
 cW))))))
theorem Ho {H:Hp}{i:Addr}{r p z:Str} (hi:H i=some (.lst [.str ("show " ++ r)])):bu H (vf r p z) (nL i r p z):=⟨_,_,rfl,rfl,⟨_,_,rfl,rfl,⟨_,_,rfl,rfl,⟨_,_,rfl,rfl,⟨_,_,rfl,rfl,⟨_,_,rfl,rfl,rfl⟩⟩⟩⟩⟩⟩
noncomputable def vd (r p z:Str):List Th:=[.str (("chance ":Str)++p ++ " high"),.str (("tails ":Str)++r ++ " 2 1/2"),.str (("tight ":Str)++r ++ " 1/2"),.str (("spend ":Str)++p ++ " 2 1/2")]
noncomputable def ro (i:Addr) (r p z:Str):List V:=[.str (("chance ":Str)++p ++ " high"),.str (("tails ":Str)++r ++ " 2 1/2"),.str (("tight ":Str)++r ++ " 1/2"),.str (("spend ":Str)++p ++ " 2 1/2")]
theorem Bx {r p z:Str} (hN:Nms r p z):∀ t∈vd r p z,NoR t :=
 aQ (gU hN.hp (by decide +kernel)) (
 aQ (gU hN.hr (by decide +kernel)) (
 aQ (gU hN.hr (by decide +kernel)) (
 aQ (gU hN.hp (by decide +kernel)) (
 cW))))
theorem Hn {H:Hp}{i:Addr}{r p z:Str} (hi:H i=some (.lst [.str ("show " ++ r)])):bu H (vd r p z) (ro i r p z):=⟨_,_,rfl,rfl,⟨_,_,rfl,rfl,⟨_,_,rfl,rfl,⟨_,_,rfl,rfl,rfl⟩⟩⟩⟩
noncomputable def vc (r p z:Str):List Th:=[.str (("chance ":Str)++p ++ " High 1/2"),.str (("chance ":Str)++p ++ "  1/2"),.str (("chance ":Str)++z ++ " none 1/2")]
noncomputable def yK (i:Addr) (r p z:Str):List V:=[.str (("chance ":Str)++p ++ " High 1/2"),.str (("chance ":Str)++p ++ "  1/2"),.str (("chance ":Str)++z ++ " none 1/2")]
theorem Bw {r p z:Str} (hN:Nms r p z):∀ t∈vc r p z,NoR t :=
 aQ (gU hN.hp (by decide +kernel)) (
 aQ (gU hN.hp (by decide +kernel)) (
 aQ (gU hN.hl (by decide +kernel)) (
 cW)))
theorem Hm {H:Hp}{i:Addr}{r p z:Str} (hi:H i=some (.lst [.str ("show " ++ r)])):bu H (vc r p z) (yK i r p z):=⟨_,_,rfl,rfl,⟨_,_,rfl,rfl,⟨_,_,rfl,rfl,rfl⟩⟩⟩
theorem cS {H:Hp}:∀ {ts us:List Th}{xs ys:List V},bu H ts xs->bu H us ys->bu H (ts++us) (xs++ys)
 | [],us,xs,ys,h,d=>by
  rw[show xs = [] from h]
  exact d
 | t::ts,us,xs,ys,⟨y,zs,e,d1,d2⟩,d=>by
  rw[e]
  exact⟨y,zs++ys,rfl,d1,cS d2 d⟩
def wH:Sp:=λ vs H Q _=>∃ (l:Addr) (r p z:Str) (c:Int),vs = [.ref l,.int c]/\H l=some (.lst [.str r,.str p,.str z])/\Nms r p z/\∀ t v H',aA H H'->Den H' t v->NoR t->Q v H'
theorem dM:aG ["_law_names_here","_law_cell","_law_r","_law_p","_law_lost","_law_some"] ["_law_names_here","_law_cell"] (aC qO):=aY
theorem Be (F:Fun K "_law_no_rows" "_law_no_rows" qO f fd) (T:Txt mg):aS P w K mg base CX0 1 f fd ["_law_names_here","_law_cell"] wH:=by
 refine F.oka dM λ cdv A outer s H vs Q E hr h=>?_
 obtain⟨l,r,p,z,c,rfl,hl,hN,q⟩:=h
 have r8:=hN.hr.l8
 have p8:=hN.hp.l8
 have z8:=hN.hl.l8
 refine⟨_,(ag (ky (pv 0) (nI rfl (aR (aP (i:=2) dM.nd rfl (Or.inl rfl)) (aR (aP (i:=3) dM.nd rfl (Or.inl rfl)) (aR (aP (i:=4) dM.nd rfl (Or.inl rfl)) b5)))))
  (ag (aD (i:=5) dM.nd rfl (Or.inl rfl) (bG (ae gR (ae aj (ae ip (ae (bG (ae (ar aq ah (pv 2)) af)) (ae ah (ae ah (ae (ar aq ah (pv 2)) (ae (ar aq ah (pv 2)) (ae ah (ae (ar aq (ar aq (ar aq ah (pv 2)) ah) (pv 2)) (ae (ar aq ah (pv 2)) af)))))))))))))
  (ag (aD (i:=5) dM.nd rfl (Or.inl rfl) (ar cQ (pv 5) (bG (ae (ar aq (ar aq ah (pv 2)) ah) (ae ah (ae (ar aq ah (pv 2)) (ae (ar aq ah (pv 3)) (ae ah (ae (ar aq ah (pv 2)) (ae (ar aq (ar aq ah (pv 2)) ah) af))))))))))
  (ag (aD (i:=5) dM.nd rfl (Or.inl rfl) (ar cQ (pv 5) (bG (ae ah (ae (ar aq (ar aq ah (pv 2)) ah) (ae (ar aq ah (pv 2)) (ae (ar aq (ar aq ah (pv 2)) ah) (ae (ar aq (ar aq ah (pv 3)) ah) (ae (ar aq ah (pv 3)) af)))))))))
  (ag (aD (i:=5) dM.nd rfl (Or.inl rfl) (ar cQ (pv 5) (bG (ae (ar aq (ar aq ah (pv 3)) ah) (ae (ar aq (ar aq ah (pv 2)) ah) (ae (ar aq (ar aq ah (pv 2)) ah) (ae (ar aq (ar aq ah (pv 3)) ah) af)))))))
  (ag (aD (i:=5) dM.nd rfl (Or.inl rfl) (ar cQ (pv 5) (bG (ae (ar aq (ar aq ah (pv 3)) ah) (ae (ar aq (ar aq ah (pv 3)) ah) (ae (ar aq (ar aq ah (pv 4)) ah) af))))))
  (ak (aE (aF ba (pv 5) (ar cP (pv 1) aj) (λ _ _=>rfl)))))))))),?_⟩
 dsimp only
 refine aX (λ σ G=>G=H/\σ = [some (.ref l),some (.int c),some (.str r),some (.str p),some (.str z),none]) (λ M hM=>⟨_,rfl,l,_,rfl,SqL.of hl,rfl,_,_,rfl,_,_,rfl,_,_,rfl,rfl,hM _ _ ⟨rfl,rfl⟩⟩) ?_
 rintro σ G ⟨rfl,rfl⟩
 refine aX (λ σ G1=>aA G G1/\∃ i a:Addr,G1 i=some (.lst [.str ("show " ++ r)])/\G1 a=some (.lst (jC i r p z))/\σ = [some (.ref l),some (.int c),some (.str r),some (.str p),some (.str z),some (.ref a)]) ?_ ?_
 ·intro M hM
  refine⟨_,rfl,_,_,rfl,rfl,aV (Nat.le_trans (Nat.add_le_add (by ac_rfl) (by ac_rfl)) (by decide)),(by show 1<=sizeLine;decide),λ i hi=>?_⟩
  and_intros
  refine⟨(by show 11<=sizeLine;decide),λ a ha=>?_⟩
  have s1:=aw hi (.lst [V.str ("show " ++ r)])
  have s2:=aw ha (.lst (jC i r p z))
  exact hM _ _ ⟨s1.trans s2,i,a,s2 _ _ ai,ai,rfl⟩
 rintro σ G1 ⟨s1,i,a1,hi,ha1,rfl⟩
 refine aX (λ σ G'=>aA G G'/\∃ i a:Addr,G' i=some (.lst [.str ("show " ++ r)])/\G' a=some (.lst (jC i r p z++kI i r p z))/\σ = [some (.ref l),some (.int c),some (.str r),some (.str p),some (.str z),some (.ref a)]) ?_ ?_
 ·intro M hM
  refine⟨_,rfl,?_⟩
  and_intros
  refine⟨(by show 7<=sizeLine;decide),λ b hb=>?_⟩
  have t1:=aw hb (.lst (kI i r p z))
  refine⟨a1,b,_,_,rfl,rfl,t1 _ _ ha1,ai,aV (by show 18<=100000;decide),λ a' ha'=>?_⟩
  have t2:=aw ha' (.lst (jC i r p z++kI i r p z))
  exact hM _ _ ⟨s1.trans (t1.trans t2),i,a',t2 _ _ (t1 _ _ hi),ai,rfl⟩
 rintro σ G2 ⟨s2,i,a2,hi,ha2,rfl⟩
 refine aX (λ σ G'=>aA G G'/\∃ i a:Addr,G' i=some (.lst [.str ("show " ++ r)])/\G' a=some (.lst (jC i r p z++kI i r p z++nL i r p z))/\σ = [some (.ref l),some (.int c),some (.str r),some (.str p),some (.str z),some (.ref a)]) ?_ ?_
 ·intro M hM
  refine⟨_,rfl,?_⟩
  and_intros
  refine⟨(by show 6<=sizeLine;decide),λ b hb=>?_⟩
  have t1:=aw hb (.lst (nL i r p z))
  refine⟨a2,b,_,_,rfl,rfl,t1 _ _ ha2,ai,aV (by show 24<=100000;decide),λ a' ha'=>?_⟩
  have t2:=aw ha' (.lst (jC i r p z++kI i r p z++nL i r p z))
  exact hM _ _ ⟨s2.trans (t1.trans t2),i,a',t2 _ _ (t1 _ _ hi),ai,rfl⟩
 rintro σ G3 ⟨s3,i,a3,hi,ha3,rfl⟩
 refine aX (λ σ G'=>aA G G'/\∃ i a:Addr,G' i=some (.lst [.str ("show " ++ r)])/\G' a=some (.lst (jC i r p z++kI i r p z++nL i r p z++ro i r p z))/\σ = [some (.ref l),some (.int c),some (.str r),some (.str p),some (.str z),some (.ref a)]) ?_ ?_
 ·intro M hM
  refine⟨_,rfl,?_⟩
  and_intros
  refine⟨(by show 4<=sizeLine;decide),λ b hb=>?_⟩
  have t1:=aw hb (.lst (ro i r p z))
  refine⟨a3,b,_,_,rfl,rfl,t1 _ _ ha3,ai,aV (by show 28<=100000;decide),λ a' ha'=>?_⟩
  have t2:=aw ha' (.lst (jC i r p z++kI i r p z++nL i r p z++ro i r p z))
  exact hM _ _ ⟨s3.trans (t1.trans t2),i,a',t2 _ _ (t1 _ _ hi),ai,rfl⟩
 rintro σ G4 ⟨s4,i,a4,hi,ha4,rfl⟩
 refine aX (λ σ G'=>aA G G'/\∃ i a:Addr,G' i=some (.lst [.str ("show " ++ r)])/\G' a=some (.lst (jC i r p z++kI i r p z++nL i r p z++ro i r p z++yK i r p z))/\σ = [some (.ref l),some (.int c),some (.str r),some (.str p),some (.str z),some (.ref a)]) ?_ ?_
 ·intro M hM
  refine⟨_,rfl,?_⟩
  and_intros
  refine⟨(by show 3<=sizeLine;decide),λ b hb=>?_⟩
  have t1:=aw hb (.lst (yK i r p z))
  refine⟨a4,b,_,_,rfl,rfl,t1 _ _ ha4,ai,aV (by show 31<=100000;decide),λ a' ha'=>?_⟩
  have t2:=aw ha' (.lst (jC i r p z++kI i r p z++nL i r p z++ro i r p z++yK i r p z))
  exact hM _ _ ⟨s4.trans (t1.trans t2),i,a',t2 _ _ (t1 _ _ hi),ai,rfl⟩
 rintro σ G5 ⟨s5,i,a5,hi,ha5,rfl⟩
 have D:bu G5 (vh r p z++vg r p z++vf r p z++vd r p z++vc r p z) (jC i r p z++kI i r p z++nL i r p z++ro i r p z++yK i r p z):=cS (cS (cS (cS (Hr hi) (Hq hi)) (Ho hi)) (Hn hi)) (Hm hi)
 have ok:∀ t∈vh r p z++vg r p z++vf r p z++vd r p z++vc r p z,NoR t:=cr (cr (cr (cr (BA hN) (Bz hN)) (By hN)) (Bx hN)) (Bw hN)
 have m0:=md0 c (m:=31) (by decide)
 have m1:=md1 c (m:=31) (by decide)
 obtain⟨v,hv,dv⟩:=D.at .non m0 (show c%31<((vh r p z++vg r p z++vf r p z++vd r p z++vc r p z).length:Int) from m1)
 exact⟨_,rfl,_,rfl,_,_,rfl,rfl,(by show (0:Int)<31;decide),a5,_,_,_,rfl,rfl,SqL.of ha5,hv,q _ v _ s5 dv (ok _ (pN (show (c%31).toNat<(vh r p z++vg r p z++vf r p z++vd r p z++vc r p z).length from (by show (c%31).toNat<31;omega))))⟩
def Da:Sp:=λ vs H Q _=>∃ (c:Int) (n:Str),vs = [.int c,.str n]/\cz n/\∀ x H',aA H H'->NoW x->Q (.str x) H'
def nnL (n:Str):List Str:=["",n ++ "abcdefgh",Txt.upper n,Txt.slice n (some 1) none ++ "1",Txt.slice n (some 1) none ++ "-",Txt.slice n (some 1) none ++ "/"]
theorem E9 {n:Str} (h:cz n):∀ x∈nnL n,NoW x :=
 aQ NoW.emp (aQ (NoW.long h) (aQ (NoW.upper h) (aQ (NoW.tail h (c:=49) (by decide +kernel) (by decide +kernel) (by decide) (by decide)) (aQ (NoW.tail h (c:=45) (by decide +kernel) (by decide +kernel) (by decide) (by decide)) (aQ (NoW.tail h (c:=47) (by decide +kernel) (by decide +kernel) (by decide) (by decide)) cW)))))
theorem D7:aG ["_law_cell","_law_name"] ["_law_cell","_law_name"] (aC xK):=aY
theorem ET (F:Fun K "_law_no_name" "_law_no_name" xK f fd) (T:Txt mg):aS P w K mg base CX0 1 f fd ["_law_cell","_law_name"] Da:=by
 refine F.oka D7 λ cdv A outer s H vs Q E hr h=>?_
 obtain⟨c,n,rfl,hn,q⟩:=h
 have n8:=hn.l8
 have sl8:(Txt.slice n (some 1) none).length<=8:=Nat.le_trans (Txt.slice_le n (some 1) none) n8
 have up:(Txt.upper n).length<=24:=by have:=(oJ hn.asc).2;omega
 have tlf:PySem.Builtin.Str.tooLong (Txt.upper n).length=false:=by
  unfold PySem.Builtin.Str.tooLong
  have:24<=sizeLine:=aV (by decide)
  exact decide_eq_false (by omega)
 refine⟨_,(ak (aE (aF ba (bG (ae ah (ae (ar aq (pv 1) ah) (ae (yk (pv 1)) (ae (ar aq (cO iQ (pv 1) (dh aj) eF) ah) (ae (ar aq (cO iQ (pv 1) (dh aj) eF) ah) (ae (ar aq (cO iQ (pv 1) (dh aj) eF) ah) af))))))) (ar cP (pv 0) aj) (λ _ _=>rfl)))),?_⟩
 have one:("1":Str).length=1/\("-":Str).length=1/\("/":Str).length=1:=by decide +kernel
 refine⟨_,rfl,_,_,rfl,rfl,aV (Nat.le_trans (Nat.add_le_add (by ac_rfl) (by ac_rfl)) (by decide)),_,rfl,n,rfl,tlf,?_⟩
 refine⟨_,rfl,_,rfl,n,rfl,aV (by omega),_,_,rfl,rfl,aV (by omega),?_⟩
 refine⟨_,rfl,_,rfl,n,rfl,aV (by omega),_,_,rfl,rfl,aV (by omega),?_⟩
 refine⟨_,rfl,_,rfl,n,rfl,aV (by omega),_,_,rfl,rfl,aV (by omega),?_⟩
 refine⟨(by show 6<=sizeLine;decide),λ b hb=>?_⟩
 have t1:=aw hb (.lst ((nnL n).map V.str))
 obtain⟨x,hx,e⟩:=lA (ws:=nnL n) (md0 c (m:=6) (by decide)) (show c%6<((nnL n).length:Int) from md1 c (m:=6) (by decide))
 exact⟨_,rfl,_,_,rfl,rfl,(by show (0:Int)<6;decide),b,_,_,_,rfl,rfl,SqL.of ai,e,q x _ t1 (E9 hn x hx)⟩
noncomputable def osL:List Str:=["","2","-1","3/2","2/4","1/1","0/5","1/0","x","-1/2","1/-2","01","1/02","0.5","+1","-0"]
def C8:Sp:=λ vs H Q _=>∃ (c:Int),vs = [.int c]/\∀ x H',aA H H'->x∈osL->Q (.str x) H'
theorem xk:aG ["_law_cell","_law_some"] ["_law_cell"] (aC xI):=aY
theorem ER (F:Fun K "_law_odd_share" "_law_odd_share" xI f fd) (T:Txt mg):aS P w K mg base CX0 1 f fd ["_law_cell"] C8:=by
 refine F.oka xk λ cdv A outer s H vs Q E hr h=>?_
 obtain⟨c,rfl,q⟩:=h
 refine⟨_,(ag (aD (i:=1) xk.nd rfl (Or.inl rfl) (bG (ae ah (ae ah (ae ah (ae ah (ae ah (ae ah (ae ah (ae ah (ae ah (ae ah (ae ah (ae ah (ae ah (ae ah (ae ah (ae ah af))))))))))))))))))
  (ak (aE (aF ba (pv 1) (ar cP (pv 0) aj) (λ _ _=>rfl))))),?_⟩
 refine⟨(by show 16<=sizeLine;decide),λ b hb=>?_⟩
 have t1:=aw hb (.lst (osL.map V.str))
 obtain⟨x,hx,e⟩:=lA (ws:=osL) (md0 c (m:=16) (by decide)) (show c%16<(osL.length:Int) from md1 c (m:=16) (by decide))
 exact⟨_,rfl,_,rfl,_,_,rfl,rfl,(by show (0:Int)<16;decide),b,_,_,_,rfl,rfl,SqL.of ai,e,q x _ t1 hx⟩
noncomputable def onL (m:Int):List Str:=["0","-1",num (m+1),"01","","x","1/2","+1",num (10^59)]
def C9:Sp:=λ vs H Q _=>∃ (c m:Int),vs = [.int c,.int m]/\(m=12∨m=60)/\∀ x H',aA H H'->x∈onL m->Q (.str x) H'
theorem D6:aG ["_law_cell","_law_most"] ["_law_cell","_law_most"] (aC xJ):=aY
theorem ES (F:Fun K "_law_odd_number" "_law_odd_number" xJ f fd) (T:Txt mg):aS P w K mg base CX0 1 f fd ["_law_cell","_law_most"] C9:=by
 refine F.oka D6 λ cdv A outer s H vs Q E hr h=>?_
 obtain⟨c,m,rfl,hm,q⟩:=h
 refine⟨_,(ak (aE (aF ba (bG (ae ah (ae ah (ae (bT bY rfl T.str cD (ae (ar bM (pv 1) aj) af)) (ae ah (ae ah (ae ah (ae ah (ae ah (ae (bT bY rfl T.str cD (ae (ar Ez aj aj) af)) af)))))))))) (ar cP (pv 0) aj) (λ _ _=>rfl)))),?_⟩
 refine⟨_,rfl,_,_,rfl,rfl,_,rfl,lg (Nat.lt_of_le_of_lt (show (m+1).natAbs<=61 by omega) (by decide)),?_⟩
 refine⟨_,_,rfl,rfl,⟨by decide,by decide,by decide⟩,_,rfl,lg (by decide),(by show 9<=sizeLine;decide),λ b hb=>?_⟩
 have t1:=aw hb (.lst ((onL m).map V.str))
 obtain⟨x,hx,e⟩:=lA (ws:=onL m) (md0 c (m:=9) (by decide)) (show c%9<((onL m).length:Int) from md1 c (m:=9) (by decide))
 exact⟨_,rfl,_,_,rfl,rfl,(by show (0:Int)<9;decide),b,_,_,_,rfl,rfl,SqL.of ai,e,q x _ t1 hx⟩
theorem pA {f m S n:Str}{L:List Str} (hn:cz n) (hS:S∈L) (h:∀ S∈L,(d8 f && d8 (m++S) && kJ f (m++S))=true):NoR (.str (f++n++m++S)):=by
 rw[cJ (f++n) m S]
 exact gU hn (h S hS)
theorem uc {f m S e n:Str}{L:List Str} (hn:cz n) (hS:S∈L) (h:∀ S∈L,(d8 f && d8 (m++(S++e)) && kJ f (m++(S++e)))=true):NoR (.str (f++n++m++S++e)):=by
 rw[cJ (f++n++m) S e,cJ (f++n) m (S++e)]
 exact gU hn (h S hS)
noncomputable def sA (r p z S A B:Str):List Str:=[("cover ":Str)++r ++ " " ++ S,("sure ":Str)++r ++ " " ++ S,("mean ":Str)++p ++ " " ++ S,("tails ":Str)++r ++ " 2 0 3"]
theorem Cw {r p z S A B:Str} (hN:Nms r p z) (hS:S∈osL) (hA:A∈onL 12) (hB:B∈onL 60):∀ x∈sA r p z S A B,NoR (.str x) :=
 aQ (pA hN.hr hS (by decide +kernel)) (
 aQ (pA hN.hr hS (by decide +kernel)) (
 aQ (pA hN.hp hS (by decide +kernel)) (
 aQ (gU hN.hr (by decide +kernel)) (
 cW))))
noncomputable def sy (r p z S A B:Str):List Str:=[("chance ":Str)++p ++ " low " ++ S,("tails ":Str)++z ++ " " ++ A ++ " 1/2 3",("spend ":Str)++z ++ " 2 1/2 " ++ S]
theorem Cv {r p z S A B:Str} (hN:Nms r p z) (hS:S∈osL) (hA:A∈onL 12) (hB:B∈onL 60):∀ x∈sy r p z S A B,NoR (.str x) :=
 aQ (pA hN.hp hS (by decide +kernel)) (
 aQ (uc hN.hl hA (by decide +kernel)) (
 aQ (pA hN.hl hS (by decide +kernel)) (
 cW)))
noncomputable def vY (r p z S A B:Str):List Str:=[("tails ":Str)++z ++ " 2 1/2 " ++ B,("tails ":Str)++z ++ " 2 " ++ S ++ " 3",("tight ":Str)++r ++ " 1/2 " ++ B]
theorem Cu {r p z S A B:Str} (hN:Nms r p z) (hS:S∈osL) (hA:A∈onL 12) (hB:B∈onL 60):∀ x∈vY r p z S A B,NoR (.str x) :=
 aQ (pA hN.hl hB (by decide +kernel)) (
 aQ (uc hN.hl hS (by decide +kernel)) (
 aQ (pA hN.hr hB (by decide +kernel)) (
 cW)))
noncomputable def zU (r p z S A B:Str):List Str:=[("tight ":Str)++r ++ " " ++ S ++ " 3",("spend ":Str)++z ++ " " ++ A ++ " 1/2 1/2",("cover ":Str)++z ++ " " ++ S]
theorem Ct {r p z S A B:Str} (hN:Nms r p z) (hS:S∈osL) (hA:A∈onL 12) (hB:B∈onL 60):∀ x∈zU r p z S A B,NoR (.str x) :=
 aQ (uc hN.hr hS (by decide +kernel)) (
 aQ (uc hN.hl hA (by decide +kernel)) (
 aQ (pA hN.hl hS (by decide +kernel)) (
 cW)))
theorem A1:∀ x∈osL,x.length<=60:=by decide +kernel
theorem ua:(∀ x∈onL 12,x.length<=60)/\∀ x∈onL 60,x.length<=60:=by decide +kernel
def wS:Sp:=λ vs H Q _=>∃ (l:Addr) (r p z:Str) (c:Int),vs = [.ref l,.int c]/\H l=some (.lst [.str r,.str p,.str z])/\Nms r p z/\∀ x H',aA H H'->NoR (.str x)->Q (.str x) H'
theorem cK:aG ["_law_names_here","_law_cell","_law_r","_law_p","_law_lost","_law_share","_law_trials","_law_steps","_law_some"] ["_law_names_here","_law_cell"] (aC qZ):=aY
theorem Bq (F:Fun K "_law_bent_rows" "_law_bent_rows" qZ f fd) (T:Txt mg) (Gosh:Cl P w K mg base CX0 1 "_law_odd_share" ["_law_cell"] C8) (Gonu:Cl P w K mg base CX0 1 "_law_odd_number" ["_law_cell","_law_most"] C9):aS P w K mg base CX0 2 f fd ["_law_names_here","_law_cell"] wS:=by
 refine F.oka cK λ cdv A outer s H vs Q E hr h=>?_
 obtain⟨l,r,p,z,c,rfl,hl,hN,q⟩:=h
 have r8:=hN.hr.l8
 have p8:=hN.hp.l8
 have z8:=hN.hl.l8
 refine⟨_,(ag (ky (pv 0) (nI rfl (aR (aP (i:=2) cK.nd rfl (Or.inl rfl)) (aR (aP (i:=3) cK.nd rfl (Or.inl rfl)) (aR (aP (i:=4) cK.nd rfl (Or.inl rfl)) b5)))))
  (ag (aD (i:=5) cK.nd rfl (Or.inl rfl) (aJ Gosh hr rfl aN (ae (ar di (pv 1) aj) af)))
  (ag (aD (i:=6) cK.nd rfl (Or.inl rfl) (aJ Gonu hr rfl aN (ae (ar di (pv 1) aj) (ae aj af))))
  (ag (aD (i:=7) cK.nd rfl (Or.inl rfl) (aJ Gonu hr rfl aN (ae (ar di (pv 1) aj) (ae aj af))))
  (ag (aD (i:=8) cK.nd rfl (Or.inl rfl) (bG (ae (ar aq (ar aq (ar aq ah (pv 2)) ah) (pv 5)) (ae (ar aq (ar aq (ar aq ah (pv 2)) ah) (pv 5)) (ae (ar aq (ar aq (ar aq ah (pv 3)) ah) (pv 5)) (ae (ar aq (ar aq ah (pv 2)) ah) af))))))
  (ag (aD (i:=8) cK.nd rfl (Or.inl rfl) (ar cQ (pv 8) (bG (ae (ar aq (ar aq (ar aq ah (pv 3)) ah) (pv 5)) (ae (ar aq (ar aq (ar aq (ar aq ah (pv 4)) ah) (pv 6)) ah) (ae (ar aq (ar aq (ar aq ah (pv 4)) ah) (pv 5)) af))))))
  (ag (aD (i:=8) cK.nd rfl (Or.inl rfl) (ar cQ (pv 8) (bG (ae (ar aq (ar aq (ar aq ah (pv 4)) ah) (pv 7)) (ae (ar aq (ar aq (ar aq (ar aq ah (pv 4)) ah) (pv 5)) ah) (ae (ar aq (ar aq (ar aq ah (pv 2)) ah) (pv 7)) af))))))
  (ag (aD (i:=8) cK.nd rfl (Or.inl rfl) (ar cQ (pv 8) (bG (ae (ar aq (ar aq (ar aq (ar aq ah (pv 2)) ah) (pv 5)) ah) (ae (ar aq (ar aq (ar aq (ar aq ah (pv 4)) ah) (pv 6)) ah) (ae (ar aq (ar aq (ar aq ah (pv 4)) ah) (pv 5)) af))))))
  (ak (aE (aF ba (pv 8) (ar cP (pv 1) aj) (λ _ _=>rfl)))))))))))),?_⟩
 dsimp only
 refine aX (λ σ G=>G=H/\σ = [some (.ref l),some (.int c),some (.str r),some (.str p),some (.str z),none,none,none,none]) (λ M hM=>⟨_,rfl,l,_,rfl,SqL.of hl,rfl,_,_,rfl,_,_,rfl,_,_,rfl,rfl,hM _ _ ⟨rfl,rfl⟩⟩) ?_
 rintro σ G ⟨rfl,rfl⟩
 refine aX (λ σ G1=>aA G G1/\∃ S,S∈osL/\σ = [some (.ref l),some (.int c),some (.str r),some (.str p),some (.str z),some (.str S),none,none,none]) (λ M hM=>⟨_,rfl,_,_,rfl,rfl,⟨by decide,by decide⟩,_,rfl,λ S H' s' hS=>hM _ _ ⟨s',S,hS,rfl⟩⟩) ?_
 rintro σ G1 ⟨s1,S,hS,rfl⟩
 refine aX (λ σ G1=>aA G G1/\∃ A,A∈onL 12/\σ = [some (.ref l),some (.int c),some (.str r),some (.str p),some (.str z),some (.str S),some (.str A),none,none]) (λ M hM=>⟨_,rfl,_,_,rfl,rfl,⟨by decide,by decide⟩,_,_,rfl,.inl rfl,λ A H' s' hA=>hM _ _ ⟨s1.trans s',A,hA,rfl⟩⟩) ?_
 rintro σ G2 ⟨s2,A,hA,rfl⟩
 refine aX (λ σ G1=>aA G G1/\∃ B,B∈onL 60/\σ = [some (.ref l),some (.int c),some (.str r),some (.str p),some (.str z),some (.str S),some (.str A),some (.str B),none]) (λ M hM=>⟨_,rfl,_,_,rfl,rfl,⟨by decide,by decide⟩,_,_,rfl,.inr rfl,λ B H' s' hB=>hM _ _ ⟨s2.trans s',B,hB,rfl⟩⟩) ?_
 rintro σ G0 ⟨s0,B,hB,rfl⟩
 have hS6:=A1 S hS
 have hA6:=ua.1 A hA
 have hB6:=ua.2 B hB
 refine aX (λ σ G'=>aA G G'/\∃ a:Addr,G' a=some (.lst ((sA r p z S A B).map V.str))/\σ = [some (.ref l),some (.int c),some (.str r),some (.str p),some (.str z),some (.str S),some (.str A),some (.str B),some (.ref a)]) ?_ ?_
 ·intro M hM
  and_intros
  refine⟨(by show 4<=sizeLine;decide),λ b hb=>?_⟩
  exact hM _ _ ⟨s0.trans (aw hb _),b,ai,rfl⟩
 rintro σ G10 ⟨s10,a10,ha10,rfl⟩
 refine aX (λ σ G'=>aA G G'/\∃ a:Addr,G' a=some (.lst ((sA r p z S A B++sy r p z S A B).map V.str))/\σ = [some (.ref l),some (.int c),some (.str r),some (.str p),some (.str z),some (.str S),some (.str A),some (.str B),some (.ref a)]) ?_ ?_
 ·intro M hM
  refine⟨_,rfl,?_⟩
  and_intros
  refine⟨(by show 3<=sizeLine;decide),λ b hb=>?_⟩
  have t1:=aw hb (.lst ((sy r p z S A B).map V.str))
  refine⟨a10,b,_,_,rfl,rfl,t1 _ _ ha10,ai,aV (by show 7<=100000;decide),λ a' ha'=>?_⟩
  exact hM _ _ ⟨s10.trans (t1.trans (aw ha' _)),a',ai,rfl⟩
 rintro σ G11 ⟨s11,a11,ha11,rfl⟩
 refine aX (λ σ G'=>aA G G'/\∃ a:Addr,G' a=some (.lst ((sA r p z S A B++sy r p z S A B++vY r p z S A B).map V.str))/\σ = [some (.ref l),some (.int c),some (.str r),some (.str p),some (.str z),some (.str S),some (.str A),some (.str B),some (.ref a)]) ?_ ?_
 ·intro M hM
  refine⟨_,rfl,?_⟩
  and_intros
  refine⟨(by show 3<=sizeLine;decide),λ b hb=>?_⟩
  have t1:=aw hb (.lst ((vY r p z S A B).map V.str))
  refine⟨a11,b,_,_,rfl,rfl,t1 _ _ ha11,ai,aV (by show 10<=100000;decide),λ a' ha'=>?_⟩
  exact hM _ _ ⟨s11.trans (t1.trans (aw ha' _)),a',ai,rfl⟩
 rintro σ G12 ⟨s12,a12,ha12,rfl⟩
 refine aX (λ σ G'=>aA G G'/\∃ a:Addr,G' a=some (.lst ((sA r p z S A B++sy r p z S A B++vY r p z S A B++zU r p z S A B).map V.str))/\σ = [some (.ref l),some (.int c),some (.str r),some (.str p),some (.str z),some (.str S),some (.str A),some (.str B),some (.ref a)]) ?_ ?_
 ·intro M hM
  refine⟨_,rfl,?_⟩
  and_intros
  refine⟨(by show 3<=sizeLine;decide),λ b hb=>?_⟩
  have t1:=aw hb (.lst ((zU r p z S A B).map V.str))
  refine⟨a12,b,_,_,rfl,rfl,t1 _ _ ha12,ai,aV (by show 13<=100000;decide),λ a' ha'=>?_⟩
  exact hM _ _ ⟨s12.trans (t1.trans (aw ha' _)),a',ai,rfl⟩
 rintro σ G13 ⟨s13,a13,ha13,rfl⟩
 obtain⟨x,hx,e⟩:=lA (ws:=sA r p z S A B++sy r p z S A B++vY r p z S A B++zU r p z S A B) (md0 c (m:=13) (by decide)) (show c%13<((sA r p z S A B++sy r p z S A B++vY r p z S A B++zU r p z S A B).length:Int) from md1 c (m:=13) (by decide))
 exact⟨_,rfl,_,rfl,_,_,rfl,rfl,(by show (0:Int)<13;decide),a13,_,_,_,rfl,rfl,SqL.of ha13,e,q x _ s13 ((cr (cr (cr (Cw hN hS hA hB) (Cv hN hS hA hB)) (Cu hN hS hA hB)) (Ct hN hS hA hB)) x hx)⟩
def dQ (r p z x:Str):Prop:=okR (.str x)/\∃ f n ths,b6 x=some (f,n,ths)/\(dB n=false∨∃ k,bA d6 f=some k/\(n=z∨(n=p/\¬ lU k "plan")∨(n=r/\¬ lU k "rule")))
structure Wd1 (n:Str):Prop where
 no:32 ∉ n.cps.toList
 asc:Asc n
 len:n.length<=30
theorem cz.w1 {n:Str} (h:cz n):Wd1 n:=⟨h.no,h.asc,Nat.le_trans h.l8 (by decide)⟩
theorem NoW.w1 {n:Str} (h:NoW n):Wd1 n:=⟨h.no,h.asc,h.len⟩
def stB (f s w:Str):Bool:=d8 f && d8 s && wV f s w
theorem dW {f s w n:Str} (hn:Wd1 n) (h:stB f s w=true):okR (.str (f++n++s))/\∃ ths,b6 (f++n++s)=some (w,n,ths):=by
 unfold stB at h
 rw[Bool.and_eq_true,Bool.and_eq_true] at h
 obtain⟨a,l⟩:=d7 h.1.1
 obtain⟨a',l'⟩:=d7 h.1.2
 have:=hn.len
 exact⟨eK (cg (cg a hn.asc) a') (by rw[Str.length_append,Str.length_append];omega),wU hn.no h.2⟩
theorem ie {f w n:Str} (hn:Wd1 n) (h:stB f Str.empty w=true):okR (.str (f++n))/\∃ ths,b6 (f++n)=some (w,n,ths):=by
 have:=dW hn h
 rwa [lB] at this
theorem iw {r p z x f n:Str} (hn:dB n=false) (h:okR (.str x)/\∃ ths,b6 x=some (f,n,ths)):dQ r p z x:=⟨h.1,f,n,h.2.choose,h.2.choose_spec,.inl hn⟩
theorem jO {r p z x f:Str} (k:Str) (hk:bA d6 f=some k) (h:okR (.str x)/\∃ ths,b6 x=some (f,z,ths)):dQ r p z x:=⟨h.1,f,z,h.2.choose,h.2.choose_spec,.inr ⟨k,hk,.inl rfl⟩⟩
theorem BC {r p z x f:Str} (hk:bA d6 f=some "rule") (h:okR (.str x)/\∃ ths,b6 x=some (f,p,ths)):dQ r p z x:=⟨h.1,f,p,h.2.choose,h.2.choose_spec,.inr ⟨_,hk,.inr (.inl ⟨rfl,by decide +kernel⟩)⟩⟩
theorem GB {r p z x f:Str} (hk:bA d6 f=some "plan") (h:okR (.str x)/\∃ ths,b6 x=some (f,r,ths)):dQ r p z x:=⟨h.1,f,r,h.2.choose,h.2.choose_spec,.inr ⟨_,hk,.inr (.inr ⟨rfl,by decide +kernel⟩)⟩⟩
noncomputable def vm (r p z x0:Str):List Str:=[("show ":Str)++x0,("show ":Str)++z,("drop ":Str)++z,("cover ":Str)++p ++ " 1/2",("least ":Str)++p,("sure ":Str)++z ++ " 1/2"]
theorem BF {r p z x0:Str} (hN:Nms r p z) (hX:NoW x0):∀ x∈vm r p z x0,dQ r p z x :=
 aQ (iw hX.nm (ie hX.w1 (w:="show") (by decide +kernel))) (
 aQ (jO "either" (by decide +kernel) (ie hN.hl.w1 (w:="show") (by decide +kernel))) (
 aQ (jO "either" (by decide +kernel) (ie hN.hl.w1 (w:="drop") (by decide +kernel))) (
 aQ (BC (by decide +kernel) (dW hN.hp.w1 (w:="cover") (by decide +kernel))) (
 aQ (BC (by decide +kernel) (ie hN.hp.w1 (w:="least") (by decide +kernel))) (
 aQ (jO "rule" (by decide +kernel) (dW hN.hl.w1 (w:="sure") (by decide +kernel))) (
 cW))))))
noncomputable def vk (r p z x0:Str):List Str:=[("span ":Str)++p,("chance ":Str)++r ++ " low 1/2",("mean ":Str)++r ++ " 0",("tight ":Str)++p ++ " 1/2 3",("tight ":Str)++z ++ " 1 60"]
theorem BE {r p z x0:Str} (hN:Nms r p z) (hX:NoW x0):∀ x∈vk r p z x0,dQ r p z x :=
 aQ (BC (by decide +kernel) (ie hN.hp.w1 (w:="span") (by decide +kernel))) (
 aQ (GB (by decide +kernel) (dW hN.hr.w1 (w:="chance") (by decide +kernel))) (
 aQ (GB (by decide +kernel) (dW hN.hr.w1 (w:="mean") (by decide +kernel))) (
 aQ (BC (by decide +kernel) (dW hN.hp.w1 (w:="tight") (by decide +kernel))) (
 aQ (jO "rule" (by decide +kernel) (dW hN.hl.w1 (w:="tight") (by decide +kernel))) (
 cW)))))
noncomputable def yM (r p z x0:Str):List Str:=[("tails ":Str)++x0 ++ " 2 1/2 3",("spend ":Str)++x0 ++ " 2 1/2 1/2",("rule ":Str)++x0 ++ " 1: 0 1; 0 1",("plan ":Str)++x0 ++ " x"]
theorem BD {r p z x0:Str} (hN:Nms r p z) (hX:NoW x0):∀ x∈yM r p z x0,dQ r p z x :=
 aQ (iw hX.nm (dW hX.w1 (w:="tails") (by decide +kernel))) (
 aQ (iw hX.nm (dW hX.w1 (w:="spend") (by decide +kernel))) (
 aQ (iw hX.nm (dW hX.w1 (w:="rule") (by decide +kernel))) (
 aQ (iw hX.nm (dW hX.w1 (w:="plan") (by decide +kernel))) (
 cW))))
def wI:Sp:=λ vs H Q _=>∃ (l:Addr) (r p z:Str) (c:Int),vs = [.ref l,.int c]/\H l=some (.lst [.str r,.str p,.str z])/\Nms r p z/\∀ x H',aA H H'->dQ r p z x->Q (.str x) H'
theorem eD:aG ["_law_names_here","_law_cell","_law_r","_law_p","_law_lost","_law_none","_law_some"] ["_law_names_here","_law_cell"] (aC qP):=aY
theorem Bf (F:Fun K "_law_name_rows" "_law_name_rows" qP f fd) (T:Txt mg) (Gnnm:Cl P w K mg base CX0 1 "_law_no_name" ["_law_cell","_law_name"] Da):aS P w K mg base CX0 2 f fd ["_law_names_here","_law_cell"] wI:=by
 refine F.oka eD λ cdv A outer s H vs Q E hr h=>?_
 obtain⟨l,r,p,z,c,rfl,hl,hN,q⟩:=h
 have r8:=hN.hr.l8
 have p8:=hN.hp.l8
 have z8:=hN.hl.l8
 refine⟨_,(ag (ky (pv 0) (nI rfl (aR (aP (i:=2) eD.nd rfl (Or.inl rfl)) (aR (aP (i:=3) eD.nd rfl (Or.inl rfl)) (aR (aP (i:=4) eD.nd rfl (Or.inl rfl)) b5)))))
  (ag (aD (i:=5) eD.nd rfl (Or.inl rfl) (aJ Gnnm hr rfl aN (ae (ar di (pv 1) aj) (ae (pv 4) af))))
  (ag (aD (i:=6) eD.nd rfl (Or.inl rfl) (bG (ae (ar aq ah (pv 5)) (ae (ar aq ah (pv 4)) (ae (ar aq ah (pv 4)) (ae (ar aq (ar aq ah (pv 3)) ah) (ae (ar aq ah (pv 3)) (ae (ar aq (ar aq ah (pv 4)) ah) af))))))))
  (ag (aD (i:=6) eD.nd rfl (Or.inl rfl) (ar cQ (pv 6) (bG (ae (ar aq ah (pv 3)) (ae (ar aq (ar aq ah (pv 2)) ah) (ae (ar aq (ar aq ah (pv 2)) ah) (ae (ar aq (ar aq ah (pv 3)) ah) (ae (ar aq (ar aq ah (pv 4)) ah) af))))))))
  (ag (aD (i:=6) eD.nd rfl (Or.inl rfl) (ar cQ (pv 6) (bG (ae (ar aq (ar aq ah (pv 5)) ah) (ae (ar aq (ar aq ah (pv 5)) ah) (ae (ar aq (ar aq ah (pv 5)) ah) (ae (ar aq (ar aq ah (pv 5)) ah) af)))))))
  (ak (aE (aF ba (pv 6) (ar cP (pv 1) aj) (λ _ _=>rfl))))))))),?_⟩
 dsimp only
 refine aX (λ σ G=>G=H/\σ = [some (.ref l),some (.int c),some (.str r),some (.str p),some (.str z),none,none]) (λ M hM=>⟨_,rfl,l,_,rfl,SqL.of hl,rfl,_,_,rfl,_,_,rfl,_,_,rfl,rfl,hM _ _ ⟨rfl,rfl⟩⟩) ?_
 rintro σ G ⟨rfl,rfl⟩
 refine aX (λ σ G1=>aA G G1/\∃ x0,NoW x0/\σ = [some (.ref l),some (.int c),some (.str r),some (.str p),some (.str z),some (.str x0),none]) (λ M hM=>⟨_,rfl,_,_,rfl,rfl,⟨by decide,by decide⟩,_,rfl,_,_,rfl,hN.hl,λ x0 H' s' hX=>hM _ _ ⟨s',x0,hX,rfl⟩⟩) ?_
 rintro σ G0 ⟨s0,x0,hX,rfl⟩
 have hX3:=hX.len
 refine aX (λ σ G'=>aA G G'/\∃ a:Addr,G' a=some (.lst ((vm r p z x0).map V.str))/\σ = [some (.ref l),some (.int c),some (.str r),some (.str p),some (.str z),some (.str x0),some (.ref a)]) ?_ ?_
 ·intro M hM
  and_intros
  refine⟨(by show 6<=sizeLine;decide),λ b hb=>?_⟩
  exact hM _ _ ⟨s0.trans (aw hb _),b,ai,rfl⟩
 rintro σ G10 ⟨s10,a10,ha10,rfl⟩
 refine aX (λ σ G'=>aA G G'/\∃ a:Addr,G' a=some (.lst ((vm r p z x0++vk r p z x0).map V.str))/\σ = [some (.ref l),some (.int c),some (.str r),some (.str p),some (.str z),some (.str x0),some (.ref a)]) ?_ ?_
 ·intro M hM
  refine⟨_,rfl,?_⟩
  and_intros
  refine⟨(by show 5<=sizeLine;decide),λ b hb=>?_⟩
  have t1:=aw hb (.lst ((vk r p z x0).map V.str))
  refine⟨a10,b,_,_,rfl,rfl,t1 _ _ ha10,ai,aV (by show 11<=100000;decide),λ a' ha'=>?_⟩
  exact hM _ _ ⟨s10.trans (t1.trans (aw ha' _)),a',ai,rfl⟩
 rintro σ G11 ⟨s11,a11,ha11,rfl⟩
 refine aX (λ σ G'=>aA G G'/\∃ a:Addr,G' a=some (.lst ((vm r p z x0++vk r p z x0++yM r p z x0).map V.str))/\σ = [some (.ref l),some (.int c),some (.str r),some (.str p),some (.str z),some (.str x0),some (.ref a)]) ?_ ?_
 ·intro M hM
  refine⟨_,rfl,?_⟩
  and_intros
  refine⟨(by show 4<=sizeLine;decide),λ b hb=>?_⟩
  have t1:=aw hb (.lst ((yM r p z x0).map V.str))
  refine⟨a11,b,_,_,rfl,rfl,t1 _ _ ha11,ai,aV (by show 15<=100000;decide),λ a' ha'=>?_⟩
  exact hM _ _ ⟨s11.trans (t1.trans (aw ha' _)),a',ai,rfl⟩
 rintro σ G12 ⟨s12,a12,ha12,rfl⟩
 obtain⟨x,hx,e⟩:=lA (ws:=vm r p z x0++vk r p z x0++yM r p z x0) (md0 c (m:=15) (by decide)) (show c%15<((vm r p z x0++vk r p z x0++yM r p z x0).length:Int) from md1 c (m:=15) (by decide))
 exact⟨_,rfl,_,rfl,_,_,rfl,rfl,(by show (0:Int)<15;decide),a12,_,_,_,rfl,rfl,SqL.of ha12,e,q x _ s12 ((cr (cr (BF hN hX) (BE hN hX)) (BD hN hX)) x hx)⟩
def Cz (t:Str):Bool:=match bO true (.str t) with
 | some (n,ps)=>decide (n<1) || (decide (12<n) || (decide ((ps.length:Int)≠n+1) || ps.any λ p=>(st2 (pT p)).isNone))
 | none=>false
def CB (t:Str):Bool:=match bO false (.str t) with
 | some (n,ps)=>decide (n<1) || (decide (12<n) || (decide ((ps.length:Int)≠n) || match ps with
  | [p]=>match pr2 (pT p) with
   | some q=>decide (q.2≠q.1+1)
   | none=>true
  | _=>false))
 | none=>false
theorem GR {t:Str} (h:Cz t=true):∃ n ps,bO true (.str t)=some (n,ps)/\∀ m qs,¬ gK (.int n) (.lst (ps.map pT)) m qs:=by
 unfold Cz at h
 split at h
 ·rename_i n ps e
  refine⟨n,ps,e,λ m qs g=>?_⟩
  obtain⟨ts,e1,e2⟩:=g.seq
  cases e1
  have ea:=g.a
  injection ea with ea
  have n1:=g.n1
  have n12:=g.n12
  have ln:=g.len
  have lq:ps.length=qs.length:=by
   have:=congrArg List.length e2
   simpa using this
  have hs:∀ p∈ps,(st2 (pT p)).isNone=false:=λ p hp=>by
   have m1:st2 (pT p)∈(ps.map pT).map st2:=List.mem_map.mpr ⟨_,List.mem_map.mpr ⟨p,hp,rfl⟩,rfl⟩
   rw[e2] at m1
   obtain⟨q,_,eq⟩:=List.mem_map.mp m1
   rw[<-eq]
   rfl
  have any:(ps.any λ p=>(st2 (pT p)).isNone)=false:=List.any_eq_false.mpr λ p hp=>by rw[hs p hp];exact Bool.false_ne_true
  rw[any] at h
  simp only[Bool.or_eq_true,decide_eq_true_eq,Bool.false_eq_true,or_false] at h
  omega
 ·cases h
theorem GS {t:Str} (h:CB t=true):∃ n ps,bO false (.str t)=some (n,ps)/\∀ m bs,¬ gL (.int n) (.lst (ps.map pT)) m bs:=by
 unfold CB at h
 split at h
 ·rename_i n ps e
  refine⟨n,ps,e,λ m bs g=>?_⟩
  obtain⟨ts,e1,e2⟩:=g.seq
  cases e1
  have ea:=g.a
  injection ea with ea
  have n1:=g.n1
  have n12:=g.n12
  have ln:=g.len
  have lq:ps.length=bs.length:=by
   have:=congrArg List.length e2
   simpa using this
  simp only[Bool.or_eq_true,decide_eq_true_eq] at h
  rcases h with h | h | h | h
  ·omega
  ·omega
  ·omega
  ·split at h
   ·rename_i p
    cases bs with
    | nil=>simp at lq
    | cons b r =>
     cases r with
     | cons _ _=>simp at lq
     | nil =>
      have e3:pr2 (pT p)=some b:=by
       have:=e2
       simp only[List.map_cons,List.map_nil] at this
       injection this
      rw[e3] at h
      have hb := g.last b (by have : m - 1 = 0 := by simp at ln; omega
                              rw [this]; rfl)
      simp only[decide_eq_true_eq] at h
      exact h hb
   ·cases h
 ·cases h
inductive cV (r x:Str):Str->Prop
 | rtext {n t:Str} (h:b6 x=some (("rule":Str),n,[Th.str t])) (hn:dB n=true) (ht:okT (.str t)) (hr:bO true (.str t)=none):cV r x "text"
 | ptext {n t:Str} (h:b6 x=some (("plan":Str),n,[Th.str t])) (hn:dB n=true) (ht:okT (.str t)) (hr:bO false (.str t)=none):cV r x "text"
 | rrule {n t:Str} (h:b6 x=some (("rule":Str),n,[Th.str t])) (hn:dB n=true) (ht:okT (.str t)) (hr:Cz t=true):cV r x "rule"
 | pplan {n t:Str} (h:b6 x=some (("plan":Str),n,[Th.str t])) (hn:dB n=true) (ht:okT (.str t)) (hr:CB t=true):cV r x "plan"
 | sure {m:Int} (h:b6 x=some (("tight":Str),r,[Th.tup [.int 1,.int 1],.int m])) (hm:m<=20):cV r x "sure"
 | much {a b m:Int} (h:b6 x=some (("tight":Str),r,[Th.tup [.int a,.int b],.int m])) (hm:20<m):cV r x "much"
theorem gq {t:Str} (h:d8 t=true):okT (.str t):=λ y e=>by
 cases e
 obtain⟨a,l⟩:=d7 h
 exact⟨a,by omega⟩
def sgB (f s w:Str) (ths:List Th):Bool:=d8 f && d8 s && oy f s w ths
theorem eO {f s w n:Str}{ths:List Th} (hn:cz n) (h:sgB f s w ths=true):okR (.str (f++n++s))/\b6 (f++n++s)=some (w,n,ths):=by
 unfold sgB at h
 rw[Bool.and_eq_true,Bool.and_eq_true] at h
 obtain⟨a,l⟩:=d7 h.1.1
 obtain⟨a',l'⟩:=d7 h.1.2
 have:=hn.l8
 exact⟨eK (cg (cg a hn.asc) a') (by rw[Str.length_append,Str.length_append];omega),fY hn.no (fZ h.2)⟩
def StB (r:Str) (q:Str×Str):Prop:=okR (.str q.1)/\cV r q.1 q.2
theorem wY {r f s n:Str} (t:Str) (hn:cz n) (h:(sgB f s "rule" [.str t] && d8 t && (bO true (.str t)).isNone)=true):StB r (f++n++s,"text"):=by
 rw[Bool.and_eq_true,Bool.and_eq_true] at h
 obtain⟨a,b⟩:=eO hn h.1.1
 exact⟨a,.rtext b hn.nm (gq h.1.2) (Option.isNone_iff_eq_none.mp h.2)⟩
theorem wZ {r f s n:Str} (t:Str) (hn:cz n) (h:(sgB f s "plan" [.str t] && d8 t && (bO false (.str t)).isNone)=true):StB r (f++n++s,"text"):=by
 rw[Bool.and_eq_true,Bool.and_eq_true] at h
 obtain⟨a,b⟩:=eO hn h.1.1
 exact⟨a,.ptext b hn.nm (gq h.1.2) (Option.isNone_iff_eq_none.mp h.2)⟩
theorem tq {r f s n:Str} (t:Str) (hn:cz n) (h:(sgB f s "rule" [.str t] && d8 t && Cz t)=true):StB r (f++n++s,"rule"):=by
 rw[Bool.and_eq_true,Bool.and_eq_true] at h
 obtain⟨a,b⟩:=eO hn h.1.1
 exact⟨a,.rrule b hn.nm (gq h.1.2) h.2⟩
theorem Dm {r f s n:Str} (t:Str) (hn:cz n) (h:(sgB f s "plan" [.str t] && d8 t && CB t)=true):StB r (f++n++s,"plan"):=by
 rw[Bool.and_eq_true,Bool.and_eq_true] at h
 obtain⟨a,b⟩:=eO hn h.1.1
 exact⟨a,.pplan b hn.nm (gq h.1.2) h.2⟩
noncomputable def kg (r p z:Str):List (Str×Str):=[(("rule ":Str)++r ++ " ","text"),(("rule ":Str)++z ++ " 1: 0 1","rule"),(("rule ":Str)++p ++ " 1: 0 1; 0 3/2","rule")]
theorem Ar {r p z:Str} (hN:Nms r p z):∀ x∈kg r p z,StB r x :=
 aQ (wY "" hN.hr (by decide +kernel)) (
 aQ (tq "1: 0 1" hN.hl (by decide +kernel)) (
 aQ (tq "1: 0 1; 0 3/2" hN.hp (by decide +kernel)) (
 cW)))
noncomputable def lI (r p z:Str):List (Str×Str):=[(("rule ":Str)++r ++ " plan 1: -1 0","text"),(("rule ":Str)++z ++ " 1: 0 1;0 1","text"),(("rule ":Str)++p ++ " 0: 0 1","rule")]
theorem Aq {r p z:Str} (hN:Nms r p z):∀ x∈lI r p z,StB r x :=
 aQ (wY "plan 1: -1 0" hN.hr (by decide +kernel)) (
 aQ (wY "1: 0 1;0 1" hN.hl (by decide +kernel)) (
 aQ (tq "0: 0 1" hN.hp (by decide +kernel)) (
 cW)))
noncomputable def mZ (r p z:Str):List (Str×Str):=[(("plan ":Str)++p ++ " ","text"),(("plan ":Str)++z ++ " plan 1: -1 0","text"),(("plan ":Str)++r ++ " 1: -1 1","plan")]
theorem Ap {r p z:Str} (hN:Nms r p z):∀ x∈mZ r p z,StB r x :=
 aQ (wZ "" hN.hp (by decide +kernel)) (
 aQ (wZ "plan 1: -1 0" hN.hl (by decide +kernel)) (
 aQ (Dm "1: -1 1" hN.hr (by decide +kernel)) (
 cW)))
noncomputable def oU (r p z:Str):List (Str×Str):=[(("plan ":Str)++p ++ " 2: -1 0","plan"),(("plan ":Str)++z ++ " 1: 0 1/2","text"),(("tight ":Str)++r ++ " 1 3","sure")]
theorem Ao {r p z:Str} (hN:Nms r p z):∀ x∈oU r p z,StB r x :=
 aQ (Dm "2: -1 0" hN.hp (by decide +kernel)) (
 aQ (wZ "1: 0 1/2" hN.hl (by decide +kernel)) (
 aQ (⟨(eO hN.hr (w:="tight") (ths:=[.tup [.int 1,.int 1],.int 3]) (by decide +kernel)).1,.sure (eO hN.hr (ths:=[.tup [.int 1,.int 1],.int 3]) (by decide +kernel)).2 (by decide)⟩) (
 cW)))
noncomputable def qx (r p z:Str):List (Str×Str):=[(("tight ":Str)++r ++ " 0 21","much"),(("tight ":Str)++r ++ " 1 60","much"),(("rule ":Str)++r ++ " 13: 0 1","rule")]
theorem An {r p z:Str} (hN:Nms r p z):∀ x∈qx r p z,StB r x :=
 aQ (⟨(eO hN.hr (w:="tight") (ths:=[.tup [.int 0,.int 1],.int 21]) (by decide +kernel)).1,.much (eO hN.hr (ths:=[.tup [.int 0,.int 1],.int 21]) (by decide +kernel)).2 (by decide)⟩) (
 aQ (⟨(eO hN.hr (w:="tight") (ths:=[.tup [.int 1,.int 1],.int 60]) (by decide +kernel)).1,.much (eO hN.hr (ths:=[.tup [.int 1,.int 1],.int 60]) (by decide +kernel)).2 (by decide)⟩) (
 aQ (tq "13: 0 1" hN.hr (by decide +kernel)) (
 cW)))
def ww:Sp:=λ vs H Q _=>∃ (l:Addr) (r p z:Str) (c:Int),vs = [.ref l,.int c]/\H l=some (.lst [.str r,.str p,.str z])/\Nms r p z/\∀ a x kd H',aA H H'->H' a=some (.tup [.str x,.str kd])->okR (.str x)->cV r x kd->Q (.ref a) H'
theorem dL:aG ["_law_names_here","_law_cell","_law_r","_law_p","_law_lost","_law_some"] ["_law_names_here","_law_cell"] (aC qG):=aY
theorem A7 (F:Fun K "_law_stage_rows" "_law_stage_rows" qG f fd) (T:Txt mg):aS P w K mg base CX0 2 f fd ["_law_names_here","_law_cell"] ww:=by
 refine F.oka dL λ cdv A outer s H vs Q E hr h=>?_
 obtain⟨l,r,p,z,c,rfl,hl,hN,q⟩:=h
 have r8:=hN.hr.l8
 have p8:=hN.hp.l8
 have z8:=hN.hl.l8
 refine⟨_,(ag (ky (pv 0) (nI rfl (aR (aP (i:=2) dL.nd rfl (Or.inl rfl)) (aR (aP (i:=3) dL.nd rfl (Or.inl rfl)) (aR (aP (i:=4) dL.nd rfl (Or.inl rfl)) b5)))))
  (ag (aD (i:=5) dL.nd rfl (Or.inl rfl) (bG (ae (aW (ae (ar aq (ar aq ah (pv 2)) ah) (ae ah af))) (ae (aW (ae (ar aq (ar aq ah (pv 4)) ah) (ae ah af))) (ae (aW (ae (ar aq (ar aq ah (pv 3)) ah) (ae ah af))) af)))))
  (ag (aD (i:=5) dL.nd rfl (Or.inl rfl) (ar cQ (pv 5) (bG (ae (aW (ae (ar aq (ar aq ah (pv 2)) ah) (ae ah af))) (ae (aW (ae (ar aq (ar aq ah (pv 4)) ah) (ae ah af))) (ae (aW (ae (ar aq (ar aq ah (pv 3)) ah) (ae ah af))) af))))))
  (ag (aD (i:=5) dL.nd rfl (Or.inl rfl) (ar cQ (pv 5) (bG (ae (aW (ae (ar aq (ar aq ah (pv 3)) ah) (ae ah af))) (ae (aW (ae (ar aq (ar aq ah (pv 4)) ah) (ae ah af))) (ae (aW (ae (ar aq (ar aq ah (pv 2)) ah) (ae ah af))) af))))))
  (ag (aD (i:=5) dL.nd rfl (Or.inl rfl) (ar cQ (pv 5) (bG (ae (aW (ae (ar aq (ar aq ah (pv 3)) ah) (ae ah af))) (ae (aW (ae (ar aq (ar aq ah (pv 4)) ah) (ae ah af))) (ae (aW (ae (ar aq (ar aq ah (pv 2)) ah) (ae ah af))) af))))))
  (ag (aD (i:=5) dL.nd rfl (Or.inl rfl) (ar cQ (pv 5) (bG (ae (aW (ae (ar aq (ar aq ah (pv 2)) ah) (ae ah af))) (ae (aW (ae (ar aq (ar aq ah (pv 2)) ah) (ae ah af))) (ae (aW (ae (ar aq (ar aq ah (pv 2)) ah) (ae ah af))) af))))))
  (ak (aE (aF ba (pv 5) (ar cP (pv 1) aj) (λ _ _=>rfl)))))))))),?_⟩
 dsimp only
 refine aX (λ σ G=>G=H/\σ = [some (.ref l),some (.int c),some (.str r),some (.str p),some (.str z),none]) (λ M hM=>⟨_,rfl,l,_,rfl,SqL.of hl,rfl,_,_,rfl,_,_,rfl,_,_,rfl,rfl,hM _ _ ⟨rfl,rfl⟩⟩) ?_
 rintro σ G ⟨rfl,rfl⟩
 have two:2<=sizeLine:=by decide
 refine aX (λ σ G'=>aA G G'/\∃ (a:Addr) (ws:List V),G' a=some (.lst ws)/\bu G' ((kg r p z).map twT) ws/\σ = [some (.ref l),some (.int c),some (.str r),some (.str p),some (.str z),some (.ref a)]) ?_ ?_
 ·intro M hM
  and_intros
  refine⟨two,λ t0 h0=>?_⟩
  have u0:=aw h0 (.tup [V.str (("rule ":Str)++r ++ " "),V.str "text"])
  and_intros
  refine⟨two,λ t1 h1=>?_⟩
  have u1:=aw h1 (.tup [V.str (("rule ":Str)++z ++ " 1: 0 1"),V.str "rule"])
  and_intros
  refine⟨two,λ t2 h2=>?_⟩
  have u2:=aw h2 (.tup [V.str (("rule ":Str)++p ++ " 1: 0 1; 0 3/2"),V.str "rule"])
  refine⟨(by show 3<=sizeLine;decide),λ b hb=>?_⟩
  have w1:=aw hb (.lst [V.ref t0,V.ref t1,V.ref t2])
  have sU:=((u0.trans u1).trans u2).trans w1
  have dU:bu _ ((kg r p z).map twT) [V.ref t0,V.ref t1,V.ref t2]:=⟨_,_,rfl,ck (b:=(("rule ":Str)++r ++ " ","text")) (w1 _ _ (u2 _ _ (u1 _ _ (ai)))),⟨_,_,rfl,ck (b:=(("rule ":Str)++z ++ " 1: 0 1","rule")) (w1 _ _ (u2 _ _ (ai))),⟨_,_,rfl,ck (b:=(("rule ":Str)++p ++ " 1: 0 1; 0 3/2","rule")) (w1 _ _ (ai)),rfl⟩⟩⟩
  exact hM _ _ ⟨sU,b,_,ai,dU,rfl⟩
 rintro σ G0 ⟨s0,a0,ws0,ha0,dw0,rfl⟩
 have l0:ws0.length=3:=dw0.len
 refine aX (λ σ G'=>aA G G'/\∃ (a:Addr) (ws:List V),G' a=some (.lst ws)/\bu G' ((kg r p z++lI r p z).map twT) ws/\σ = [some (.ref l),some (.int c),some (.str r),some (.str p),some (.str z),some (.ref a)]) ?_ ?_
 ·intro M hM
  refine⟨_,rfl,?_⟩
  and_intros
  refine⟨two,λ t0 h0=>?_⟩
  have u0:=aw h0 (.tup [V.str (("rule ":Str)++r ++ " plan 1: -1 0"),V.str "text"])
  and_intros
  refine⟨two,λ t1 h1=>?_⟩
  have u1:=aw h1 (.tup [V.str (("rule ":Str)++z ++ " 1: 0 1;0 1"),V.str "text"])
  and_intros
  refine⟨two,λ t2 h2=>?_⟩
  have u2:=aw h2 (.tup [V.str (("rule ":Str)++p ++ " 0: 0 1"),V.str "rule"])
  refine⟨(by show 3<=sizeLine;decide),λ b hb=>?_⟩
  have w1:=aw hb (.lst [V.ref t0,V.ref t1,V.ref t2])
  have sU:=((u0.trans u1).trans u2).trans w1
  have dU:bu _ ((lI r p z).map twT) [V.ref t0,V.ref t1,V.ref t2]:=⟨_,_,rfl,ck (b:=(("rule ":Str)++r ++ " plan 1: -1 0","text")) (w1 _ _ (u2 _ _ (u1 _ _ (ai)))),⟨_,_,rfl,ck (b:=(("rule ":Str)++z ++ " 1: 0 1;0 1","text")) (w1 _ _ (u2 _ _ (ai))),⟨_,_,rfl,ck (b:=(("rule ":Str)++p ++ " 0: 0 1","rule")) (w1 _ _ (ai)),rfl⟩⟩⟩
  refine⟨a0,b,_,_,rfl,rfl,sU _ _ ha0,ai,aV (by rw[l0];show 6<=100000;decide),λ a' ha'=>?_⟩
  have w2:=aw ha' (.lst (ws0++[V.ref t0,V.ref t1,V.ref t2]))
  exact hM _ _ ⟨s0.trans (sU.trans w2),a',_,ai,by rw[List.map_append];exact cS ((dw0.keep sU).keep w2) (dU.keep w2),rfl⟩
 rintro σ G1 ⟨s1,a1,ws1,ha1,dw1,rfl⟩
 have l1:ws1.length=6:=dw1.len
 refine aX (λ σ G'=>aA G G'/\∃ (a:Addr) (ws:List V),G' a=some (.lst ws)/\bu G' ((kg r p z++lI r p z++mZ r p z).map twT) ws/\σ = [some (.ref l),some (.int c),some (.str r),some (.str p),some (.str z),some (.ref a)]) ?_ ?_
 ·intro M hM
  refine⟨_,rfl,?_⟩
  and_intros
  refine⟨two,λ t0 h0=>?_⟩
  have u0:=aw h0 (.tup [V.str (("plan ":Str)++p ++ " "),V.str "text"])
  and_intros
  refine⟨two,λ t1 h1=>?_⟩
  have u1:=aw h1 (.tup [V.str (("plan ":Str)++z ++ " plan 1: -1 0"),V.str "text"])
  and_intros
  refine⟨two,λ t2 h2=>?_⟩
  have u2:=aw h2 (.tup [V.str (("plan ":Str)++r ++ " 1: -1 1"),V.str "plan"])
  refine⟨(by show 3<=sizeLine;decide),λ b hb=>?_⟩
  have w1:=aw hb (.lst [V.ref t0,V.ref t1,V.ref t2])
  have sU:=((u0.trans u1).trans u2).trans w1
  have dU:bu _ ((mZ r p z).map twT) [V.ref t0,V.ref t1,V.ref t2]:=⟨_,_,rfl,ck (b:=(("plan ":Str)++p ++ " ","text")) (w1 _ _ (u2 _ _ (u1 _ _ (ai)))),⟨_,_,rfl,ck (b:=(("plan ":Str)++z ++ " plan 1: -1 0","text")) (w1 _ _ (u2 _ _ (ai))),⟨_,_,rfl,ck (b:=(("plan ":Str)++r ++ " 1: -1 1","plan")) (w1 _ _ (ai)),rfl⟩⟩⟩
  refine⟨a1,b,_,_,rfl,rfl,sU _ _ ha1,ai,aV (by rw[l1];show 9<=100000;decide),λ a' ha'=>?_⟩
  have w2:=aw ha' (.lst (ws1++[V.ref t0,V.ref t1,V.ref t2]))
  exact hM _ _ ⟨s1.trans (sU.trans w2),a',_,ai,by rw[List.map_append];exact cS ((dw1.keep sU).keep w2) (dU.keep w2),rfl⟩
 rintro σ G2 ⟨s2,a2,ws2,ha2,dw2,rfl⟩
 have l2:ws2.length=9:=dw2.len
 refine aX (λ σ G'=>aA G G'/\∃ (a:Addr) (ws:List V),G' a=some (.lst ws)/\bu G' ((kg r p z++lI r p z++mZ r p z++oU r p z).map twT) ws/\σ = [some (.ref l),some (.int c),some (.str r),some (.str p),some (.str z),some (.ref a)]) ?_ ?_
 ·intro M hM
  refine⟨_,rfl,?_⟩
  and_intros
  refine⟨two,λ t0 h0=>?_⟩
  have u0:=aw h0 (.tup [V.str (("plan ":Str)++p ++ " 2: -1 0"),V.str "plan"])
  and_intros
  refine⟨two,λ t1 h1=>?_⟩
  have u1:=aw h1 (.tup [V.str (("plan ":Str)++z ++ " 1: 0 1/2"),V.str "text"])
  and_intros
  refine⟨two,λ t2 h2=>?_⟩
  have u2:=aw h2 (.tup [V.str (("tight ":Str)++r ++ " 1 3"),V.str "sure"])
  refine⟨(by show 3<=sizeLine;decide),λ b hb=>?_⟩
  have w1:=aw hb (.lst [V.ref t0,V.ref t1,V.ref t2])
  have sU:=((u0.trans u1).trans u2).trans w1
  have dU:bu _ ((oU r p z).map twT) [V.ref t0,V.ref t1,V.ref t2]:=⟨_,_,rfl,ck (b:=(("plan ":Str)++p ++ " 2: -1 0","plan")) (w1 _ _ (u2 _ _ (u1 _ _ (ai)))),⟨_,_,rfl,ck (b:=(("plan ":Str)++z ++ " 1: 0 1/2","text")) (w1 _ _ (u2 _ _ (ai))),⟨_,_,rfl,ck (b:=(("tight ":Str)++r ++ " 1 3","sure")) (w1 _ _ (ai)),rfl⟩⟩⟩
  refine⟨a2,b,_,_,rfl,rfl,sU _ _ ha2,ai,aV (by rw[l2];show 12<=100000;decide),λ a' ha'=>?_⟩
  have w2:=aw ha' (.lst (ws2++[V.ref t0,V.ref t1,V.ref t2]))
  exact hM _ _ ⟨s2.trans (sU.trans w2),a',_,ai,by rw[List.map_append];exact cS ((dw2.keep sU).keep w2) (dU.keep w2),rfl⟩
 rintro σ G3 ⟨s3,a3,ws3,ha3,dw3,rfl⟩
 have l3:ws3.length=12:=dw3.len
 refine aX (λ σ G'=>aA G G'/\∃ (a:Addr) (ws:List V),G' a=some (.lst ws)/\bu G' ((kg r p z++lI r p z++mZ r p z++oU r p z++qx r p z).map twT) ws/\σ = [some (.ref l),some (.int c),some (.str r),some (.str p),some (.str z),some (.ref a)]) ?_ ?_
 ·intro M hM
  refine⟨_,rfl,?_⟩
  and_intros
  refine⟨two,λ t0 h0=>?_⟩
  have u0:=aw h0 (.tup [V.str (("tight ":Str)++r ++ " 0 21"),V.str "much"])
  and_intros
  refine⟨two,λ t1 h1=>?_⟩
  have u1:=aw h1 (.tup [V.str (("tight ":Str)++r ++ " 1 60"),V.str "much"])
  and_intros
  refine⟨two,λ t2 h2=>?_⟩
  have u2:=aw h2 (.tup [V.str (("rule ":Str)++r ++ " 13: 0 1"),V.str "rule"])
  refine⟨(by show 3<=sizeLine;decide),λ b hb=>?_⟩
  have w1:=aw hb (.lst [V.ref t0,V.ref t1,V.ref t2])
  have sU:=((u0.trans u1).trans u2).trans w1
  have dU:bu _ ((qx r p z).map twT) [V.ref t0,V.ref t1,V.ref t2]:=⟨_,_,rfl,ck (b:=(("tight ":Str)++r ++ " 0 21","much")) (w1 _ _ (u2 _ _ (u1 _ _ (ai)))),⟨_,_,rfl,ck (b:=(("tight ":Str)++r ++ " 1 60","much")) (w1 _ _ (u2 _ _ (ai))),⟨_,_,rfl,ck (b:=(("rule ":Str)++r ++ " 13: 0 1","rule")) (w1 _ _ (ai)),rfl⟩⟩⟩
  refine⟨a3,b,_,_,rfl,rfl,sU _ _ ha3,ai,aV (by rw[l3];show 15<=100000;decide),λ a' ha'=>?_⟩
  have w2:=aw ha' (.lst (ws3++[V.ref t0,V.ref t1,V.ref t2]))
  exact hM _ _ ⟨s3.trans (sU.trans w2),a',_,ai,by rw[List.map_append];exact cS ((dw3.keep sU).keep w2) (dU.keep w2),rfl⟩
 rintro σ G4 ⟨s4,a4,ws4,ha4,dw4,rfl⟩
 have l4:ws4.length=15:=dw4.len
 have ok:∀ x∈kg r p z++lI r p z++mZ r p z++oU r p z++qx r p z,StB r x:=cr (cr (cr (cr (Ar hN) (Aq hN)) (Ap hN)) (Ao hN)) (An hN)
 have m0:=md0 c (m:=15) (by decide)
 have m1:=md1 c (m:=15) (by decide)
 obtain⟨j,ej⟩:∃ j:Nat,c%15=(j:Int):=⟨(c%15).toNat,by omega⟩
 have hj:j<(kg r p z++lI r p z++mZ r p z++oU r p z++qx r p z).length:=by show j<15;omega
 obtain⟨u,hu,du⟩:=dw4.get (show ((kg r p z++lI r p z++mZ r p z++oU r p z++qx r p z).map twT)[j]? = some (twT (kg r p z++lI r p z++mZ r p z++oU r p z++qx r p z)[j]) by rw[List.getElem?_map,List.getElem?_eq_getElem hj];rfl)
 obtain⟨t,rfl,ht⟩:=zH du
 obtain⟨k1,k2⟩:=ok _ (List.getElem_mem hj)
 exact⟨_,rfl,_,rfl,_,_,rfl,rfl,(by show (0:Int)<15;decide),a4,_,_,_,rfl,rfl,SqL.of ha4,(by rw[ej];exact cy hu),q t _ _ _ s4 ht k1 k2⟩
inductive i9 (r p z:Str):Th->Str->Prop
 | row {t:Th} (h:NoR t):i9 r p z t "row"
 | name {x:Str} (h:dQ r p z x):i9 r p z (.str x) "name"
 | stage {x kd:Str} (h1:okR (.str x)) (h:cV r x kd):i9 r p z (.str x) kd
def wJ (K:PySem.W.Frag):Sp:=λ vs H Q _=>∃ (l a:Addr) (r p z:Str) (ns:List Int) (k:Int),vs = [.ref l,.ref a,.int k]/\H l=some (.lst [.str r,.str p,.str z])/\Nms r p z/\SqL K H a (ns.map V.int)/\ns.length<=63/\0<=k/\k<=100 /\
 ∀ b v t kd H',aA H H'->H' b=some (.tup [v,.str kd])->Den H' t v->i9 r p z t kd->Q (.ref b) H'
theorem jK:aG ["_law_names_here","_law_script","_law_k","_law_cell","_law_way","_law_more"] ["_law_names_here","_law_script","_law_k"] (aC qR):=aY
theorem Bi (F:Fun K "_law_row" "_law_row" qR f fd) (T:Txt mg) (GatU:Cl P w K mg base CX0 3 "_law_at" ["_law_script","_law_k"] (wT K)) (Gnorw:Cl P w K mg base CX0 3 "_law_no_rows" ["_law_names_here","_law_cell"] wH) (Gbenr:Cl P w K mg base CX0 3 "_law_bent_rows" ["_law_names_here","_law_cell"] wS) (Gnamr:Cl P w K mg base CX0 3 "_law_name_rows" ["_law_names_here","_law_cell"] wI) (Gstar:Cl P w K mg base CX0 3 "_law_stage_rows" ["_law_names_here","_law_cell"] ww):aS P w K mg base CX0 4 f fd ["_law_names_here","_law_script","_law_k"] (wJ K):=by
 refine F.oka jK λ cdv A outer s H vs Q E hr h=>?_
 obtain⟨l,a,r,p,z,ns,k,rfl,hl,hN,hS,h63,k0,k1,q⟩:=h
 refine⟨_,(ag (aD (i:=3) jK.nd rfl (Or.inl rfl) (aJ GatU hr rfl aN (ae (pv 1) (ae (ar bM aj (pv 2)) af))))
  (ag (aD (i:=4) jK.nd rfl (Or.inl rfl) (ar cP (pv 3) aj))
  (ag (aD (i:=5) jK.nd rfl (Or.inl rfl) (ar di (pv 3) aj))
  (ag (aU (aK eZ (pv 4) aj (aO _)) (ak (aE (aW (ae (aJ Gnorw hr rfl aN (ae (pv 0) (ae (pv 5) af))) (ae ah af))))) aI)
  (ag (aU (aK eZ (pv 4) aj (aO _)) (ak (aE (aW (ae (aJ Gbenr hr rfl aN (ae (pv 0) (ae (pv 5) af))) (ae ah af))))) aI)
  (ag (aU (aK eZ (pv 4) aj (aO _)) (ak (aE (aW (ae (aJ Gnamr hr rfl aN (ae (pv 0) (ae (pv 5) af))) (ae ah af))))) aI)
  (ak (aE (aJ Gstar hr rfl aN (ae (pv 0) (ae (pv 5) af))))))))))),?_⟩
 have two:2<=sizeLine:=by decide
 refine⟨_,rfl,_,rfl,_,_,rfl,rfl,a,ns,2+k,rfl,hS,h63,by omega,by omega,λ c=>?_⟩
 refine⟨_,rfl,_,_,rfl,rfl,(by show (0:Int)<8;decide),_,rfl,_,_,rfl,rfl,⟨by decide,by decide⟩,?_⟩
 dsimp only
 refine⟨_,rfl,_,_,rfl,rfl,_,rfl,?_⟩
 refine c7 (λ _=>?_) (λ _=>?_)
 ·refine⟨_,rfl,_,rfl,l,r,p,z,_,rfl,hl,hN,λ t v H1 s1 dv hr=>⟨two,λ b hb=>?_⟩⟩
  have w1:=aw hb (.tup [v,V.str "row"])
  exact q b v t _ _ (s1.trans w1) ai (dv.keep w1) (.row hr)
 refine⟨_,rfl,_,_,rfl,rfl,_,rfl,?_⟩
 refine c7 (λ _=>?_) (λ _=>?_)
 ·refine⟨_,rfl,_,rfl,l,r,p,z,_,rfl,hl,hN,λ x H1 s1 hr=>⟨two,λ b hb=>?_⟩⟩
  have w1:=aw hb (.tup [V.str x,V.str "row"])
  exact q b _ (.str x) _ _ (s1.trans w1) ai rfl (.row hr)
 refine⟨_,rfl,_,_,rfl,rfl,_,rfl,?_⟩
 refine c7 (λ _=>?_) (λ _=>?_)
 ·refine⟨_,rfl,_,rfl,l,r,p,z,_,rfl,hl,hN,λ x H1 s1 hr=>⟨two,λ b hb=>?_⟩⟩
  have w1:=aw hb (.tup [V.str x,V.str "name"])
  exact q b _ (.str x) _ _ (s1.trans w1) ai rfl (.name hr)
 exact⟨_,rfl,_,rfl,l,r,p,z,_,rfl,hl,hN,λ b x kd H1 s1 hb h1 h2=>q b _ (.str x) kd H1 s1 hb rfl (.stage h1 h2)⟩
noncomputable def kdN:List Str:=["row","name","text","rule","plan","sure","much"]
def kdB (j:Nat):List Bool:=[j == 0,j == 1,j == 2,j == 3,j == 4,j == 5,j == 6]
theorem Fi {j:Nat} (h:j<7):(kdB j).count true=1/\(kdB j)[j]? = some true/\(∀ i,i<j->(kdB j)[i]? = some false)/\kdN[j]? = some (kdN.getD j ""):=by
 have all:∀ j:Fin 7,(kdB j.val).count true=1/\(kdB j.val)[j.val]? = some true/\(∀ i:Fin 7,i.val<j.val->(kdB j.val)[i.val]? = some false)/\kdN[j.val]? = some (kdN.getD j.val ""):=by decide +kernel
 obtain⟨a,b,c,d⟩:=all ⟨j,h⟩
 exact⟨a,b,λ i hi=>c ⟨i,by omega⟩ hi,d⟩
def Df (K:PySem.W.Frag) (C:CA):Sp:=λ vs H Q _=>∃ (p d X:Addr) (kvs:List (Key×V)) (v:V) (t:Th) (j:Nat),vs = [.ref p,v]/\fH C H p d kvs/\Den H t v/\okR t/\kvs.length<=10/\KdJ K C X j /\
 (∀ Q' E',(∀ H',aA H H'->E' (.ref X) none H')->Say C H d kvs t Q' E')/\∀ H',aA H H'->Q (.str (kdN.getD j "")) H'
theorem iS:aG ["_law_desk","_law_row_here","_law_caught","e","_law_kinds"] ["_law_desk","_law_row_here"] (aC xP):=aY
theorem EZ (F:Fun K "_law_kind" "_law_kind" xP f fd) (T:Txt mg) (cf:CF P w K mg C) {fsay:Addr}{dsay:FuncData} (Gsay:aS P w K mg base (CXX P w) 18 fsay dsay ["self","row"] (wB C)) (bsay:bS K dsay ["self","row"] []) (msay:qh K C.Desk "say" fsay):aS P w K mg base CX0 19 f fd ["_law_desk","_law_row_here"] (Df K C):=by
 refine F.oka iS λ cdv A outer s H vs Q E hr h=>?_
 obtain⟨p,d,X,kvs,v,t,j,rfl,dk,dv,ok,lk,kd,say,q⟩:=h
 refine⟨_,(ag (aD (i:=2) iS.nd rfl (Or.inl rfl) gR)
  (ag (AU (i:=3) ⟨rfl,rfl,rfl⟩ iS.nd rfl rfl rfl cf.mStretchError cf.cStretchError (λ xe pn E hp=>(ak (jL (yl (pv 0) cf.clDesk msay Gsay hr bsay .nil hp (ae (pv 1) af))))) (λ e oe=>(ak (aD (i:=2) iS.nd rfl (Or.inl rfl) (pv 3)))))
  (ag (aU (PW.pt (cL (bK (br (aT lQ rfl T.isinstance boot_isinstance (ae (pv 2) (ae (eJ (v:=.ty "ValueError") rfl T.ValueError jF rfl) af))))) (cB (br (aT bZ rfl T.isinstance boot_isinstance (ae (pv 2) (ae (bV (v:=.ref C.NoNumber) rfl cf.mNoNumber rfl) af))))))) (ak (aE ah)) aI)
  (ag (aD (i:=4) iS.nd rfl (Or.inl rfl) (bG (ae (aT bZ rfl T.isinstance boot_isinstance (ae (pv 2) (ae (bV (v:=.ref C.NoRow) rfl cf.mNoRow rfl) af))) (ae (aT bZ rfl T.isinstance boot_isinstance (ae (pv 2) (ae (bV (v:=.ref C.NoName) rfl cf.mNoName rfl) af))) (ae (aT bZ rfl T.isinstance boot_isinstance (ae (pv 2) (ae (bV (v:=.ref C.NoText) rfl cf.mNoText rfl) af))) (ae (aT bZ rfl T.isinstance boot_isinstance (ae (pv 2) (ae (bV (v:=.ref C.NoRule) rfl cf.mNoRule rfl) af))) af))))))
  (ag (aD (i:=4) iS.nd rfl (Or.inl rfl) (ar cQ (pv 4) (bG (ae (aT bZ rfl T.isinstance boot_isinstance (ae (pv 2) (ae (bV (v:=.ref C.NoPlan) rfl cf.mNoPlan rfl) af))) (ae (aT bZ rfl T.isinstance boot_isinstance (ae (pv 2) (ae (bV (v:=.ref C.NotSure) rfl cf.mNotSure rfl) af))) (ae (aT bZ rfl T.isinstance boot_isinstance (ae (pv 2) (ae (bV (v:=.ref C.TooMuch) rfl cf.mTooMuch rfl) af))) af))))))
  (ag (aU (aK eY (tW PySem.F.plainAttrs_list PySem.F.slot_list_count PySem.F.type_list_count vq (pv 4) (ae ip af)) aj (aO _)) (ak (aE ah)) aI)
  (ak (aE (aF ba (bG (ae ah (ae ah (ae ah (ae ah (ae ah (ae ah (ae ah af)))))))) (tW PySem.F.plainAttrs_list PySem.F.slot_list_index PySem.F.type_list_index vp (pv 4) (ae ip af)) (λ _ _=>rfl)))))))))),?_⟩
 obtain⟨dx,op⟩:=dk.ob
 dsimp only
 refine aX (λ σ G=>G=H/\σ = [some (.ref p),some v,some .non,none,none]) (λ M hM=>hM _ _ ⟨rfl,rfl⟩) ?_
 rintro σ H ⟨rfl,rfl⟩
 refine aX (λ σ G=>aA H G/\∃ e w w2,σ = [some (.ref p),some v,some (.ref e),w,w2]/\G e=some (XO (.ref X) e)) ?_ ?_
 ·intro M hM
  refine⟨_,rfl,p,dx,_,rfl,op,eL (by decide +kernel),_,rfl,p,d,kvs,v,t,rfl,dk,dv,ok,lk,say _ _ λ G sG=>⟨kd.sub,λ e oe he hoe=>?_⟩⟩
  refine⟨_,rfl,?_⟩
  exact hM _ _ ⟨sG.trans (aw he _),e,_,_,rfl,ai⟩
 rintro σ G ⟨sG,e,w,w2,rfl,he⟩
 refine aX (λ σ G'=>G'=G/\σ = [some (.ref p),some v,some (.ref e),w,w2]) ?_ ?_
 ·intro M hM
  refine⟨_,rfl,e,X,"ValueError",true,rfl,he,kd.i,kd.val,_,rfl,?_⟩
  exact bf ⟨_,rfl,e,X,C.NoNumber,false,rfl,he,kd.i,kd.num,_,rfl,bf (hM _ _ ⟨rfl,rfl⟩)⟩
 rintro σ G ⟨rfl,rfl⟩
 obtain⟨cnt1,at_j,at_i,at_n⟩:=Fi kd.j7
 refine aX (λ σ G'=>aA G G'/\∃ l,G' l=some (.lst [V.bl (j == 0),V.bl (j == 1),V.bl (j == 2),V.bl (j == 3)])/\σ = [some (.ref p),some v,some (.ref e),w,some (.ref l)]) ?_ ?_
 ·intro M hM
  refine⟨_,rfl,e,X,C.NoRow,_,rfl,he,kd.i,kd.k0,_,rfl,e,X,C.NoName,_,rfl,he,kd.i,kd.k1,_,rfl,e,X,C.NoText,_,rfl,he,kd.i,kd.k2,_,rfl,e,X,C.NoRule,_,rfl,he,kd.i,kd.k3,(by show 4<=sizeLine;decide),λ l hl=>?_⟩
  exact hM _ _ ⟨aw hl _,l,ai,rfl⟩
 rintro σ G1 ⟨s1,l,hl,rfl⟩
 have he1:=s1 _ _ he
 refine aX (λ σ G'=>aA G1 G'/\∃ l,G' l=some (.lst ((kdB j).map V.bl))/\σ = [some (.ref p),some v,some (.ref e),w,some (.ref l)]) ?_ ?_
 ·intro M hM
  refine⟨_,rfl,_,rfl,e,X,C.NoPlan,_,rfl,he1,kd.i,kd.k4,_,rfl,e,X,C.NotSure,_,rfl,he1,kd.i,kd.k5,_,rfl,e,X,C.TooMuch,_,rfl,he1,kd.i,kd.k6,(by show 3<=sizeLine;decide),λ b hb=>?_⟩
  have w1:=aw hb (.lst [V.bl (j == 4),V.bl (j == 5),V.bl (j == 6)])
  refine⟨l,b,_,_,rfl,rfl,w1 _ _ hl,ai,(by show 7<=sizeLine;decide),λ a ha=>?_⟩
  exact hM _ _ ⟨w1.trans (aw ha _),a,ai,rfl⟩
 rintro σ G2 ⟨s2,l2,hl2,rfl⟩
 refine⟨_,rfl,.inl ⟨rfl,_,SqL.of hl2⟩,l2,kdB j,true,rfl,rfl,hl2,rfl,_,rfl,dH (by rw[cnt1];rfl) ?_⟩
 refine⟨(by show 7<=sizeLine;decide),λ c hc=>?_⟩
 have s3:=aw hc (.lst (kdN.map V.str))
 have x3:=s3 _ _ hl2
 have fin:=q _ (sG.trans (s1.trans (s2.trans s3)))
 refine⟨_,rfl,.inl ⟨rfl,_,SqL.of x3⟩,l2,kdB j,true,j,rfl,rfl,x3,?_,λ i c' hi e'=>?_,by have:=kd.j7;omega,c,_,_,V.str (kdN.getD j ""),rfl,rfl,SqL.of ai,?_,fin⟩
 ·exact at_j
 ·rw[at_i i hi] at e'
  cases e'
  decide
 ·refine cy (xs:=kdN.map V.str) (j:=j) ?_
  rw[List.getElem?_map,at_n]
  rfl
theorem yW {α:Type} (g:α->V) (l:List (Str×α)) (k:Str):((l.map λ p=>(p.1,g p.2)).find? λ kv=>decide (kv.1=k)).map (·.2)=(bA l k).map g:=by
 unfold bA
 rw[List.find?_map]
 show Option.map _ (Option.map _ (l.find? λ p=>decide (p.1=k)))=_
 cases l.find? λ p=>decide (p.1=k)<;>rfl
theorem BH {P:Program}{w:World}{K:PySem.W.Frag}{d:Addr}{l:List (Str×Str)} (M:sE P w K d (jp (l.map λ p=>(p.1,V.str p.2)))):CL P w K d l:=⟨_,M,λ k=>by rw[mv,yW]⟩
noncomputable def jT (l:List (Str×List Str)) (ts:List Addr):List (Str×V):=List.zipWith (λ p t=>(p.1,V.ref t)) l ts
theorem oq (k:Str):∀ (l:List (Str×List Str)) (ts:List Addr),ts.length=l.length->(bA l k=none->((jT l ts).find? λ kv=>decide (kv.1=k)).map (·.2)=none)/\∀ fs,bA l k=some fs->∃ p t,((jT l ts).find? λ kv=>decide (kv.1=k)).map (·.2)=some (V.ref t)/\(p,t)∈l.zip ts/\p.2=fs
 | [],[],_=>⟨(λ _=>rfl),(λ fs z=>by cases z)⟩
 | [],_::_,h=>by cases h
 | _::_,[],h=>by cases h
 | p::l,t::ts,h=>by
  obtain⟨a,b⟩:=oq k l ts (by simpa using h)
  by_cases c:p.1=k
  ·have e:bA (p::l) k=some p.2:=by unfold bA;rw[List.find?_cons,decide_eq_true c];rfl
   have e':((jT (p::l) (t::ts)).find? λ kv=>decide (kv.1=k)).map (·.2)=some (V.ref t):=by
    show (List.find? _ ((p.1,V.ref t)::jT l ts)).map _=_
    rw[List.find?_cons,decide_eq_true c]
    rfl
   rw[e,e']
   refine⟨(λ z=>by cases z),λ fs z=>⟨p,t,rfl,List.mem_cons_self,?_⟩⟩
   cases z
   rfl
  ·have e:bA (p::l) k=bA l k:=by unfold bA;rw[List.find?_cons,decide_eq_false c]
   have e':((jT (p::l) (t::ts)).find? λ kv=>decide (kv.1=k)).map (·.2)=((jT l ts).find? λ kv=>decide (kv.1=k)).map (·.2):=by
    show (List.find? _ ((p.1,V.ref t)::jT l ts)).map _=_
    rw[List.find?_cons,decide_eq_false c]
   rw[e,e']
   refine⟨a,λ fs z=>?_⟩
   obtain⟨p',t',h1,h2,h3⟩:=b fs z
   exact⟨p',t',h1,List.mem_cons_of_mem _ h2,h3⟩
theorem ou:∀ (l:List (Str×List Str)) (ts:List Addr),ts.length=l.length->(jT l ts).map (·.1)=l.map (·.1)
 | [],[],_=>rfl
 | [],_::_,h=>by cases h
 | _::_,[],h=>by cases h
 | p::l,t::ts,h=>by
  show p.1::(jT l ts).map (·.1)=p.1::l.map (·.1)
  rw[ou l ts (by simpa using h)]
theorem F5 {K:PySem.W.Frag}{t:Addr}{its:Array Value}{n:Nat}{fs:List Str} (lk:K.lookup t=some {cls:=.type "tuple",data:=.seq its n}) (hv:bg (fs.map V.str) its.toList) (hn:fs.length<=1000) (H:Hp):SqT K H t (fs.map V.str):=by
 refine .inr ⟨_,its,n,lk,rfl,rfl,?_,hv⟩
 have:=hv.length
 rw[List.length_map] at this
 have e:its.size=its.toList.length:=by simp
 rw[e,<-this]
 exact Nat.le_trans hn (by decide)
def v0 (K:PySem.W.Frag):List (Str×List Str)->List Addr->Prop
 | p::l,t::ts=>(∃ (its:Array Value) (n:Nat),K.lookup t=some {cls:=.type "tuple",data:=.seq its n}/\bg (p.2.map V.str) its.toList)/\v0 K l ts
 | _,_=>True
theorem tups_c {K:PySem.W.Frag}{p:Str×List Str}{l:List (Str×List Str)}{t:Addr}{ts:List Addr}{its:Array Value}{n:Nat} (a:K.lookup t=some {cls:=.type "tuple",data:=.seq its n}) (b:bg (p.2.map V.str) its.toList) (c:v0 K l ts):v0 K (p::l) (t::ts):=⟨⟨_,_,a,b⟩,c⟩
theorem sN {K:PySem.W.Frag}:∀ {l:List (Str×List Str)}{ts:List Addr},v0 K l ts->(∀ p∈l,p.2.length<=1000)->∀ x∈l.zip ts,∀ H:Hp,SqT K H x.2 (x.1.2.map V.str)
 | [],_,_,_,x,hx,_=>by simp at hx
 | _::_,[],_,_,x,hx,_=>by simp at hx
 | p::l,t::ts,⟨⟨_,_,a,b⟩,h⟩,hn,x,hx,H=>by
  rcases List.mem_cons.mp hx with rfl | hx
  ·exact F5 a b (hn _ List.mem_cons_self) H
  ·exact sN h (λ q hq=>hn q (List.mem_cons_of_mem _ hq)) x hx H
theorem modS_fr {P:Program}{w:World}{K:PySem.W.Frag}{d:Addr}{es:Array DictEntry}{n:Nat}{l:List (Str×Str)} (lk:K.lookup d=some {cls:=.type "dict",data:=.dict es n}) (kl:PySem.W.KeysLit w.params es.toList)
  (er:v7 es.toList (l.map λ p=>(p.1,V.str p.2))) (hd:(d == sysModules)=false) (nd:(l.map (·.1)).Nodup):CL P w K d l:=BH (ud lk kl er hd (by rw[List.map_map];exact nd))
theorem BI {P:Program}{w:World}{K:PySem.W.Frag}{d:Addr}{es:Array DictEntry}{n:Nat}{l:List (Str×List Str)} (ts:List Addr) (lk:K.lookup d=some {cls:=.type "dict",data:=.dict es n}) (kl:PySem.W.KeysLit w.params es.toList)
  (er:v7 es.toList (jT l ts)) (hd:(d == sysModules)=false) (nd:(l.map (·.1)).Nodup) (hl:ts.length=l.length) (hn:∀ p∈l,p.2.length<=1000) (h:v0 K l ts):FG P w K d l:=by
 refine⟨_,ud lk kl er hd (by rw[ou l ts hl];exact nd),λ k=>?_⟩
 rw[mv]
 obtain⟨a,b⟩:=oq k l ts hl
 refine⟨a,λ fs z=>?_⟩
 obtain⟨p,t,h1,h2,h3⟩:=b fs z
 exact⟨t,h1,λ H=>by rw[<-h3];exact sN h hn (p,t) h2 H⟩
theorem mf_FORMS {P:Program}{w:World}{K:PySem.W.Frag}{d t0 t1 t2 t3 t4 t5 t6 t7 t8 t9 t10 t11 t12:Addr}{es:Array DictEntry}{n:Nat} (lk:K.lookup d=some {cls:=.type "dict",data:=.dict es n}) (kl:PySem.W.KeysLit w.params es.toList) (er:v7 es.toList (jT eh [t0,t1,t2,t3,t4,t5,t6,t7,t8,t9,t10,t11,t12])) (hd:(d == sysModules)=false) (h:v0 K eh [t0,t1,t2,t3,t4,t5,t6,t7,t8,t9,t10,t11,t12]):FG P w K d eh:=BI [t0,t1,t2,t3,t4,t5,t6,t7,t8,t9,t10,t11,t12] lk kl er hd (by decide +kernel) rfl (by decide +kernel) h
theorem n0 {H H':Hp} (hk:∀ b xs,H b=some (.tup xs)->H' b=some (.tup xs)):∀ (d:Nat) (t:Th) (v:V),gX d t->Den H t v->Den H' t v:=by
 intro d
 induction d with
 | zero =>
  intro t v f h
  cases t with
  | int i=>exact h
  | str i=>exact h
  | _=>exact f.elim
 | succ d ih =>
  intro t v f h
  cases t with
  | int i=>exact h
  | str i=>exact h
  | tup ts =>
   obtain⟨a,xs,e,ha,hx⟩:=h
   exact⟨a,xs,e,hk _ _ ha,iH (λ t ht v=>ih t v (f t ht)) hx⟩
  | _=>exact f.elim
theorem uo:gX 4 (ruT 2 ruQ):=by simp [gX,ruT,ruQ,ssT,ppT]
theorem B1:gX 4 (gD 2 plQ):=by simp [gX,gD,plQ,ppT]
theorem AH:om 2 ruZ:=⟨by decide,by decide,rfl,by decide +kernel,by decide +kernel,by decide +kernel⟩
theorem ma {H:Hp}{a:Addr}{t b:Int}{q:Rat} (h:H a=some (.tup [.int t,.int b])) (e1:q.num=t) (e2:(q.den:Int)=b) (l0:0<=q) (l1:q<=1) (hs:Sz 10 (q.den:Int)):Shp H a q:=⟨by rw[h,e1,e2],l0,l1,hs.mono (by decide)⟩
theorem k9 {H:Hp}{x:Addr} (h:Den H (ruT 2 ruQ) (.ref x)):cE H x 2 ruZ:=by
 obtain⟨t,zs,h1,h2,h3⟩:=k8 h
 refine⟨⟨t,zs,h1,h2,?_⟩,AH⟩
 obtain⟨y1,ys1,rfl,d1,y2,ys2,rfl,d2,y3,ys3,rfl,d3,e⟩:=h3
 have e':ys3 = []:=e
 subst e'
 obtain⟨c1,a1,b1,rfl,o1,p1,q1⟩:=gZ d1
 obtain⟨c2,a2,b2,rfl,o2,p2,q2⟩:=gZ d2
 obtain⟨c3,a3,b3,rfl,o3,p3,q3⟩:=gZ d3
 exact⟨c1,a1,b1,_,rfl,o1,ma p1 (by decide +kernel) (by decide +kernel) (by decide +kernel) (by decide +kernel) (szI (by decide +kernel) (by decide)),ma q1 (by decide +kernel) (by decide +kernel) (by decide +kernel) (by decide +kernel) (szI (by decide +kernel) (by decide)),
  c2,a2,b2,_,rfl,o2,ma p2 (by decide +kernel) (by decide +kernel) (by decide +kernel) (by decide +kernel) (szI (by decide +kernel) (by decide)),ma q2 (by decide +kernel) (by decide +kernel) (by decide +kernel) (by decide +kernel) (szI (by decide +kernel) (by decide)),
  c3,a3,b3,_,rfl,o3,ma p3 (by decide +kernel) (by decide +kernel) (by decide +kernel) (by decide +kernel) (szI (by decide +kernel) (by decide)),ma q3 (by decide +kernel) (by decide +kernel) (by decide +kernel) (by decide +kernel) (szI (by decide +kernel) (by decide)),rfl⟩
structure iL (C:CA) (H:Hp) (p d:Addr) (kvs:List (Key×V)) (r q z:Str):Prop where
 dk:fH C H p d kvs
 len:kvs.length<=3
 er:∃ a x,fX H kvs r a "rule" (.ref x)/\Den H (ruT 2 ruQ) (.ref x)
 eq:∃ a x,fX H kvs q a "plan" (.ref x)/\Den H (gD 2 plQ) (.ref x)
 ez:ce kvs (.inr z)=none
theorem iL.keep {C:CA}{H H':Hp}{p d:Addr}{kvs:List (Key×V)}{r q z:Str} (h:iL C H p d kvs r q z) (s:aA H H'):iL C H' p d kvs r q z:=by
 obtain⟨dk,ln,⟨a,x,e1,e2⟩,⟨b,y,f1,f2⟩,ez⟩:=h
 exact⟨dk.keep s,ln,⟨a,x,e1.keep s,e2.keep s⟩,⟨b,y,f1.keep s,f2.keep s⟩,ez⟩
theorem zy (kd:Str):lU "either" kd:=.inl rfl
theorem jN:bA d6 "rule" = none/\bA d6 "plan" = none/\bA d6 "tails" = none/\bA d6 "tight" = some ("rule":Str)/\bA makes "rule" = some ("rule":Str)/\bA makes "plan" = some ("plan":Str)/\bA makes "tails" = some ("rule":Str)/\bA makes "tight" = some ("rule":Str):=by decide +kernel
theorem Cy {C:CA} (cf:CF P w K mg C) {H:Hp}{p d:Addr}{kvs:List (Key×V)}{r q z:Str} (hN:Nms r q z) (sh:iL C H p d kvs r q z) {t:Th}{kd:Str} (h:i9 r q z t kd) :
  okR t/\∃ X j,KdJ K C X j/\kdN.getD j "" = kd/\∀ Q' E',(∀ H',aA H H'->E' (.ref X) none H')->Say C H d kvs t Q' E':=by
 obtain⟨n1,n2,n3,n4,m1,m2,m3,m4⟩:=jN
 cases h with
 | row h=>exact⟨h.1,C.NoRow,0,cf.kdNoRow,rfl,λ Q' E' hE=>.inl ⟨h.2,hE⟩⟩
 | name h =>
  obtain⟨ok,f,n,ths,hr,hc⟩:=h
  refine⟨ok,C.NoName,1,cf.kdNoName,rfl,λ Q' E' hE=>.inr ⟨f,n,ths,hr,.inl ⟨?_,hE⟩⟩⟩
  rcases hc with hc | ⟨k,hk,hc | ⟨hc,hf⟩ | ⟨hc,hf⟩⟩
  ·exact .inl hc
  ·exact .inr ⟨k,hk,.inl (by rw[hc];exact sh.ez)⟩
  ·obtain⟨a,x,e,_⟩:=sh.eq
   exact .inr ⟨k,hk,.inr ⟨a,"plan",.ref x,by rw[hc];exact e,hf⟩⟩
  ·obtain⟨a,x,e,_⟩:=sh.er
   exact .inr ⟨k,hk,.inr ⟨a,"rule",.ref x,by rw[hc];exact e,hf⟩⟩
 | stage h1 h =>
  refine⟨h1,?_⟩
  cases h with
  | rtext h hn ht hr =>
   refine⟨C.NoText,2,cf.kdNoText,rfl,λ Q' E' hE=>.inr ⟨_,_,_,h,.inr ⟨.non,⟨hn,.inl ⟨n1,rfl⟩⟩,.inl ⟨_,m1,λ l ws H1 Qm s1 hl dz hq=>?_⟩⟩⟩⟩
   obtain⟨v,vs,rfl,dv,e⟩:=dz
   cases (show vs = [] from e)
   exact⟨_,_,l,_,rfl,hl,.inl ⟨rfl,v,rfl,v,_,rfl,dv,ht,(λ n ps e=>by rw[hr] at e;cases e),λ _ H' s'=>hE H' (s1.trans s')⟩⟩
  | ptext h hn ht hr =>
   refine⟨C.NoText,2,cf.kdNoText,rfl,λ Q' E' hE=>.inr ⟨_,_,_,h,.inr ⟨.non,⟨hn,.inl ⟨n2,rfl⟩⟩,.inl ⟨_,m2,λ l ws H1 Qm s1 hl dz hq=>?_⟩⟩⟩⟩
   obtain⟨v,vs,rfl,dv,e⟩:=dz
   cases (show vs = [] from e)
   exact⟨_,_,l,_,rfl,hl,.inr (.inl ⟨rfl,v,rfl,v,_,rfl,dv,ht,(λ n ps e=>by rw[hr] at e;cases e),λ _ H' s'=>hE H' (s1.trans s')⟩)⟩
  | rrule h hn ht hr =>
   obtain⟨nn,ps,e0,bad⟩:=GR hr
   refine⟨C.NoRule,3,cf.kdNoRule,rfl,λ Q' E' hE=>.inr ⟨_,_,_,h,.inr ⟨.non,⟨hn,.inl ⟨n1,rfl⟩⟩,.inl ⟨_,m1,λ l ws H1 Qm s1 hl dz hq=>?_⟩⟩⟩⟩
   obtain⟨v,vs,rfl,dv,e⟩:=dz
   cases (show vs = [] from e)
   exact⟨_,_,l,_,rfl,hl,.inl ⟨rfl,v,rfl,v,_,rfl,dv,ht,(λ n ps' e=>by rw[e0] at e;cases e;exact⟨λ m qs g=>absurd g (bad m qs),λ _ H' s'=>hE H' (s1.trans s')⟩),λ z=>by rw[e0] at z;cases z⟩⟩
  | pplan h hn ht hr =>
   obtain⟨nn,ps,e0,bad⟩:=GS hr
   refine⟨C.NoPlan,4,cf.kdNoPlan,rfl,λ Q' E' hE=>.inr ⟨_,_,_,h,.inr ⟨.non,⟨hn,.inl ⟨n2,rfl⟩⟩,.inl ⟨_,m2,λ l ws H1 Qm s1 hl dz hq=>?_⟩⟩⟩⟩
   obtain⟨v,vs,rfl,dv,e⟩:=dz
   cases (show vs = [] from e)
   exact⟨_,_,l,_,rfl,hl,.inr (.inl ⟨rfl,v,rfl,v,_,rfl,dv,ht,(λ n ps' e=>by rw[e0] at e;cases e;exact⟨λ m qs g=>absurd g (bad m qs),λ _ H' s'=>hE H' (s1.trans s')⟩),λ z=>by rw[e0] at z;cases z⟩)⟩
  | sure h hm =>
   obtain⟨a,x,e,dx⟩:=sh.er
   refine⟨C.NotSure,5,cf.kdNotSure,rfl,λ Q' E' hE=>.inr ⟨_,_,_,h,.inr ⟨.ref a,⟨hN.hr.nm,.inr ⟨"rule",a,"rule",.ref x,n4,rfl,e,.inr rfl⟩⟩,.inl ⟨_,m4,λ l ws H1 Qm s1 hl dz hq=>?_⟩⟩⟩⟩
   obtain⟨v,vs,rfl,dv,v2,vs2,rfl,dv2,e2⟩:=dz
   cases (show vs2 = [] from e2)
   obtain⟨sa,rfl,hsa⟩:=fW dv
   cases (show v2=_ from dv2)
   exact⟨_,_,l,_,rfl,hl,.inr (.inr (.inr ⟨rfl,a,_,_,_,_,rfl,(e.keep s1).2,rfl,x,sa,_,rfl,k9 (dx.keep s1),λ z=>absurd z (by omega),λ _=>⟨⟨hsa.trans (wj (by decide +kernel) (by decide +kernel)),szI (by decide +kernel) (by decide),szI (by decide +kernel) (by decide)⟩,λ H' s'=>hE H' (s1.trans s')⟩⟩))⟩
  | much h hm =>
   obtain⟨a,x,e,dx⟩:=sh.er
   refine⟨C.TooMuch,6,cf.kdTooMuch,rfl,λ Q' E' hE=>.inr ⟨_,_,_,h,.inr ⟨.ref a,⟨hN.hr.nm,.inr ⟨"rule",a,"rule",.ref x,n4,rfl,e,.inr rfl⟩⟩,.inl ⟨_,m4,λ l ws H1 Qm s1 hl dz hq=>?_⟩⟩⟩⟩
   obtain⟨v,vs,rfl,dv,v2,vs2,rfl,dv2,e2⟩:=dz
   cases (show vs2 = [] from e2)
   obtain⟨sa,rfl,hsa⟩:=fW dv
   cases (show v2=_ from dv2)
   exact⟨_,_,l,_,rfl,hl,.inr (.inr (.inr ⟨rfl,a,_,_,_,_,rfl,(e.keep s1).2,rfl,x,sa,_,rfl,k9 (dx.keep s1),λ _ H' s'=>hE H' (s1.trans s'),λ z=>absurd z (by omega)⟩))⟩
theorem fS {f s n:Str} (hn:cz n) (h:(d8 f && d8 s)=true):okR (.str (f++n++s)):=by
 rw[Bool.and_eq_true] at h
 obtain⟨a,l⟩:=d7 h.1
 obtain⟨a',l'⟩:=d7 h.2
 have:=hn.l8
 exact eK (cg (cg a hn.asc) a') (by rw[Str.length_append,Str.length_append];omega)
theorem mW {α:Type}:∀ {ps qs:List α},ps.map some=qs.map some->ps=qs
 | [],[],_=>rfl
 | [],_::_,h=>by cases h
 | _::_,[],h=>by cases h
 | p::ps,q::qs,h=>by
  rw[List.map_cons,List.map_cons] at h
  injection h with h1 h2
  rw[Option.some.inj h1,mW h2]
theorem Gg {m:Int}{qs:List Sq} (g:gK (.int 2) (.lst ((ruQ.map fT).map pT)) m qs):m=2/\qs=ruQ:=by
 obtain⟨ts,e1,e2⟩:=g.seq
 have ea:=g.a
 injection ea with ea
 refine⟨ea.symm,?_⟩
 cases e1
 exact (mW (e2.symm.trans (by decide +kernel:((ruQ.map fT).map pT).map st2=ruQ.map some)).symm).symm
theorem Gr {m:Nat}{bs:List (Int×Int)} (g:gL (.int 2) (.lst ((plQ.map iT).map pT)) m bs):m=2/\bs=plQ:=by
 obtain⟨ts,e1,e2⟩:=g.seq
 have ea:=g.a
 injection ea with ea
 refine⟨by omega,?_⟩
 cases e1
 exact (mW (e2.symm.trans (by decide +kernel:((plQ.map iT).map pT).map pr2=plQ.map some)).symm).symm
theorem El:GV ruQ:=λ i p q h1 h2=>by
 have hi:i<3:=(List.getElem?_eq_some_iff.mp h1).1
 have all:∀ i:Fin 3,∀ p∈ruQ[i.val]?,∀ q∈ruQ[i.val+1]?,gM q.1 p.1=false/\gM q.2 p.2=false:=by decide +kernel
 exact all ⟨i,hi⟩ p h1 q h2
theorem BQ:gK (.int 2) (.lst ((ruQ.map fT).map pT)) 2 ruQ:=⟨rfl,⟨_,rfl,by decide +kernel⟩,by decide,by decide,rfl,by decide +kernel,El⟩
theorem Fl:∀ (i:Nat) (p:Int×Int),plQ[i]? = some p->InB ((i:Int)+1) p:=λ i p h=>by
 have hi:i<2:=(List.getElem?_eq_some_iff.mp h).1
 match i,h with
 | 0,h=>cases h;exact⟨by decide,by decide,by decide⟩
 | 1,h=>cases h;exact⟨by decide,by decide,by decide⟩
theorem BR:gL (.int 2) (.lst ((plQ.map iT).map pT)) 2 plQ:=⟨rfl,⟨_,rfl,by decide +kernel⟩,by decide,by decide,rfl,Fl,λ p h=>by cases h;rfl⟩
theorem AQ:bO true (.str (txZ true))=some (2,ruQ.map fT):=by
 rw[show txZ true=o9 2 ruQ by decide +kernel]
 have g:∀ s∈ruQ,Int.gcd s.1.1 s.1.2=1/\Int.gcd s.2.1 s.2.2=1:=by decide +kernel
 exact uM (by decide) (by decide) λ s hs=>by
  obtain⟨⟨a1,a2,a3⟩,a4,a5,a6⟩:=x9 s hs
  exact⟨⟨⟨a1,a2,a3⟩,⟨a4,a5,a6⟩⟩,g s hs⟩
theorem AR:bO false (.str (txZ false))=some (2,plQ.map iT):=by
 rw[show txZ false=qd 2 plQ by decide +kernel]
 have g:∀ b∈plQ,(-1<=b.1/\b.1<=13)/\-1<=b.2/\b.2<=13:=by decide +kernel
 exact uN ⟨by decide,by decide⟩ (by decide) λ b hb=>g b hb
theorem CP:∀ b:Bool,d8 (txZ b)=true/\d8 (" " ++ txZ b)=true:=by decide +kernel
theorem DD:oy "rule " (" " ++ txZ true) "rule" [.str (txZ true)]=true:=by decide +kernel
theorem DE:oy "plan " (" " ++ txZ false) "plan" [.str (txZ false)]=true:=by decide +kernel
theorem DB:oy "tails " " 1 1/2 1" "tails" [.int 1,.tup [.int 1,.int 2],.int 1]=true:=by decide +kernel
theorem DC:oy "show " Str.empty "show" []=true:=by decide +kernel
theorem DF:oy "drop " Str.empty "drop" []=true:=by decide +kernel
section
variable {C:CA}{H:Hp}{d:Addr}{kvs:List (Key×V)}{n:Str}{Q:VK}{E:XK}
theorem Ga {x t:Str} (hr:b6 x=some (("rule":Str),n,[Th.str t])) (hn:dB n=true) (ht:okT (.str t)) (rd:bO true (.str t)=some (2,ruQ.map fT)) (q:∀ x H2 e,aA H H2->Den H2 (ruT 2 ruQ) (.ref x)->H2 e=none->Q (.str "ok") (upd (upd H2 e (.tup [.str "rule",.ref x])) d (.dK (cM kvs (.inr n) (.ref e))))) :
  Say C H d kvs (.str x) Q E:=by
 obtain⟨n1,n2,n3,n4,m1,m2,m3,m4⟩:=jN
 refine .inr ⟨_,_,_,hr,.inr ⟨.non,⟨hn,.inl ⟨n1,rfl⟩⟩,.inl ⟨_,m1,λ l ws H1 Qm s1 hl dz hq=>?_⟩⟩⟩
 obtain⟨v,vs,rfl,dv,e⟩:=dz
 cases (show vs = [] from e)
 refine⟨_,_,l,_,rfl,hl,.inl ⟨rfl,v,rfl,v,_,rfl,dv,ht,(λ n' ps e=>?_),λ z=>by rw[rd] at z;cases z⟩⟩
 rw[rd] at e
 cases e
 refine⟨λ m qs g p H' s' d'=>?_,λ hb=>absurd BQ (hb _ _)⟩
 obtain⟨rfl,rfl⟩:=Gg g
 exact hq _ _ (s1.trans s') λ e he=>q p H' e (s1.trans s') d' he
theorem Gb {x t:Str} (hr:b6 x=some (("plan":Str),n,[Th.str t])) (hn:dB n=true) (ht:okT (.str t)) (rd:bO false (.str t)=some (2,plQ.map iT)) (q:∀ x H2 e,aA H H2->Den H2 (gD 2 plQ) (.ref x)->H2 e=none->Q (.str "ok") (upd (upd H2 e (.tup [.str "plan",.ref x])) d (.dK (cM kvs (.inr n) (.ref e))))) :
  Say C H d kvs (.str x) Q E:=by
 obtain⟨n1,n2,n3,n4,m1,m2,m3,m4⟩:=jN
 refine .inr ⟨_,_,_,hr,.inr ⟨.non,⟨hn,.inl ⟨n2,rfl⟩⟩,.inl ⟨_,m2,λ l ws H1 Qm s1 hl dz hq=>?_⟩⟩⟩
 obtain⟨v,vs,rfl,dv,e⟩:=dz
 cases (show vs = [] from e)
 refine⟨_,_,l,_,rfl,hl,.inr (.inl ⟨rfl,v,rfl,v,_,rfl,dv,ht,(λ n' ps e=>?_),λ z=>by rw[rd] at z;cases z⟩)⟩
 rw[rd] at e
 cases e
 refine⟨λ m qs g p H' s' d'=>?_,λ hb=>absurd BR (hb _ _)⟩
 obtain⟨rfl,rfl⟩:=Gr g
 exact hq _ _ (s1.trans s') λ e he=>q p H' e (s1.trans s') d' he
theorem F9 {x:Str} (hr:b6 x=some (("tails":Str),n,[Th.int 1,.tup [.int 1,.int 2],.int 1])) (hn:dB n=true) (q:∀ x H2 e,aA H H2->H2 e=none->Q (.str "ok") (upd (upd H2 e (.tup [.str "rule",.ref x])) d (.dK (cM kvs (.inr n) (.ref e))))) :
  Say C H d kvs (.str x) Q E:=by
 obtain⟨n1,n2,n3,n4,m1,m2,m3,m4⟩:=jN
 refine .inr ⟨_,_,_,hr,.inr ⟨.non,⟨hn,.inl ⟨n3,rfl⟩⟩,.inl ⟨_,m3,λ l ws H1 Qm s1 hl dz hq=>?_⟩⟩⟩
 obtain⟨v,vs,rfl,dv,v2,vs2,rfl,dv2,v3,vs3,rfl,dv3,e⟩:=dz
 cases (show vs3 = [] from e)
 obtain⟨sa,rfl,hsa⟩:=fW dv2
 cases (show v=_ from dv)
 cases (show v3=_ from dv3)
 exact⟨_,_,l,_,rfl,hl,.inr (.inr (.inl ⟨rfl,_,_,_,rfl,1,1,2,1,sa,rfl,hsa,by decide,by decide,by decide,by decide,by decide,by decide,λ x H' s'=>hq _ _ (s1.trans s') λ e he=>q x H' e (s1.trans s') he⟩))⟩
theorem Gd {x:Str}{ths:List Th}{a:Addr}{kd:Str}{y:V} (hr:b6 x=some (("drop":Str),n,ths)) (hn:dB n=true) (he:fX H kvs n a kd y) (q:∀ H',aA H H'->Q (.str "ok") (upd H' d (.dK (fV kvs (.inr n))))):Say C H d kvs (.str x) Q E:=by
 obtain⟨n1,n2,n3,n4⟩:=iu
 exact .inr ⟨_,_,_,hr,.inr ⟨.ref a,⟨hn,.inr ⟨_,a,kd,y,n1,rfl,he,zy _⟩⟩,.inr (.inl ⟨rfl,q⟩)⟩⟩
theorem Dq {x:Str}{ths:List Th} (b:Bool) {a y:Addr} (hr:b6 x=some (("show":Str),n,ths)) (hn:dB n=true) (he:fX H kvs n a (if b=true then "rule" else "plan") (.ref y)) (hd:Den H (if b=true then ruT 2 ruQ else gD 2 plQ) (.ref y)) (q:∀ H',aA H H'->Q (.str (if b=true then txZ true else "plan " ++ txZ false)) H'):Say C H d kvs (.str x) Q E:=by
 obtain⟨n1,n2,n3,n4⟩:=iu
 exact .inr ⟨_,_,_,hr,.inr ⟨.ref a,⟨hn,.inr ⟨_,a,_,.ref y,n2,rfl,he,zy _⟩⟩,.inr (.inr ⟨rfl,b,a,y,rfl,he.2,hd,q⟩)⟩⟩
end
theorem AJ {n:Str} (hn:cz n):okR (.str ("rule " ++ n ++ " " ++ txZ true))/\b6 ("rule " ++ n ++ " " ++ txZ true)=some (("rule":Str),n,[Th.str (txZ true)]):=by
 rw[cJ ("rule " ++ n) " " (txZ true)]
 exact⟨fS hn (by decide +kernel),fY hn.no (fZ DD)⟩
theorem AK {n:Str} (hn:cz n):okR (.str ("plan " ++ n ++ " " ++ txZ false))/\b6 ("plan " ++ n ++ " " ++ txZ false)=some (("plan":Str),n,[Th.str (txZ false)]):=by
 rw[cJ ("plan " ++ n) " " (txZ false)]
 exact⟨fS hn (by decide +kernel),fY hn.no (fZ DE)⟩
theorem AI {n:Str} (hn:cz n):okR (.str ("tails " ++ n ++ " 1 1/2 1"))/\b6 ("tails " ++ n ++ " 1 1/2 1")=some (("tails":Str),n,[Th.int 1,.tup [.int 1,.int 2],.int 1]):=⟨fS hn (by decide +kernel),fY hn.no (fZ DB)⟩
theorem AL {n:Str} (hn:cz n):okR (.str ("drop " ++ n))/\b6 ("drop " ++ n)=some (("drop":Str),n,[]):=by
 have:=fS (f:="drop ") (s:=Str.empty) hn (by decide +kernel)
 rw[lB] at this
 exact⟨this,ow hn.no (fZ DF)⟩
theorem nB {n:Str} (hn:cz n):okR (.str ("show " ++ n))/\b6 ("show " ++ n)=some (("show":Str),n,[]):=by
 have:=fS (f:="show ") (s:=Str.empty) hn (by decide +kernel)
 rw[lB] at this
 exact⟨this,ow hn.no (fZ DC)⟩
structure gJ (K:PySem.W.Frag) (C:CA) (H:Hp) (a l tx p d:Addr) (ns:List Int) (r q z:Str) (kvs:List (Key×V)):Prop where
 sc:SqL K H a (ns.map V.int)
 nm:H l=some (.lst [.str r,.str q,.str z])
 tx:H tx=some (.lst [.str (txZ true),.str (txZ false)])
 dk:fH C H p d kvs
theorem gJ.ext {C:CA}{H H':Hp}{a l tx p d:Addr}{ns:List Int}{r q z:Str}{kvs kvs':List (Key×V)} (h:gJ K C H a l tx p d ns r q z kvs) (k:∀ b o,b≠d->H b=some o->H' b=some o) (hd:H' d=some (.dK kvs')):gJ K C H' a l tx p d ns r q z kvs':=by
 obtain⟨sc,nm,htx,⟨dx,op⟩,od⟩:=h
 have ne:∀ {b o},H b=some o->(∀ kvs,o≠.dK kvs)->b≠d:=λ e c z=>by rw[z,od] at e;cases e;exact c _ rfl
 refine⟨?_,k _ _ (ne nm (λ _ z=>by cases z)) nm,k _ _ (ne htx (λ _ z=>by cases z)) htx,⟨⟨dx,k _ _ (ne op (λ _ z=>by cases z)) op⟩,hd⟩⟩
 rcases sc with (e | ⟨o,e⟩) | e
 ·exact .inl (.inl (k _ _ (ne e (λ _ z=>by cases z)) e))
 ·exact .inl (.inr ⟨o,k _ _ (ne e (λ _ z=>by cases z)) e⟩)
 ·exact .inr e
theorem gJ.keep {C:CA}{H H':Hp}{a l tx p d:Addr}{ns:List Int}{r q z:Str}{kvs:List (Key×V)} (h:gJ K C H a l tx p d ns r q z kvs) (s:aA H H'):gJ K C H' a l tx p d ns r q z kvs:=h.ext (λ b o _ e=>s _ _ e) (s _ _ h.dk.dk)
theorem nE {H H2:Hp}{d e:Addr}{o:HO}{u:HO} (s:aA H H2) (he:H2 e=none):∀ b w,b≠d->H b=some w->upd (upd H2 e o) d u b=some w:=λ b w nb hb=>by
 have:=s _ _ hb
 rw[aM nb,aM (aZ this he)]
 exact this
theorem tP {H2:Hp}{d e:Addr}{o:HO}{kvs kvs':List (Key×V)} (hd:H2 d=some (.dK kvs)) (he:H2 e=none):∀ b xs,H2 b=some (.tup xs)->upd (upd H2 e o) d (.dK kvs') b=some (.tup xs):=λ b xs hb=>by
 rw[aM (λ z=>by rw[z,hd] at hb;cases hb),aM (aZ hb he)]
 exact hb
theorem sqk {K:PySem.W.Frag}{H H':Hp}{a:Addr}{xs:List V} (h:SqL K H a xs) (k:∀ o,H a=some o->H' a=some o):SqL K H' a xs:=by
 rcases h with (e | ⟨o,e⟩) | e
 ·exact .inl (.inl (k _ e))
 ·exact .inl (.inr ⟨o,k _ e⟩)
 ·exact .inr e
theorem wc (kvs:List (Key×V)) (k:Key):ce (fV kvs k) k=none:=by
 unfold ce fV
 rw[Option.map_eq_none_iff]
 exact List.find?_eq_none.mpr λ x hx=>by have:=(List.mem_filter.mp hx).2;simpa using this
theorem we:∀ b:Bool,(txZ b).length<=60:=by decide +kernel
def sZ (K:PySem.W.Frag):Sp:=λ vs H Q _=>∃ (a:Addr) (ns:List Int),vs = [.ref a]/\SqL K H a (ns.map V.int)/\ns.length<=63/\(∀ i∈ns,Bg i)/\∀ H',Q (.bl true) H'
theorem gQ:aG ["_law_script","_law_names_here","_law_desk","_law_texts_put","_law_k","_law_row_here","_law_due"] ["_law_script"] (aC kr):=aY
theorem EY (F:Fun K "law" "law" kr f fd) (T:Txt mg) (cf:CF P w K mg C) (Gnms:Cl P w K mg base CX0 20 "_law_names" ["_law_script"] (Db K)) {fdini:Addr}{ddini:FuncData} (Gdini:aS P w K mg base CX0 19 fdini ddini ["self"] (wO C)) (bdini:bS K ddini ["self"] []) (mdini:Mk K C.Desk fdini) {fsay:Addr}{dsay:FuncData} (Gsay:aS P w K mg base (CXX P w) 20 fsay dsay ["self","row"] (wB C)) (bsay:bS K dsay ["self","row"] []) (msay:qh K C.Desk "say" fsay) (Glrow:Cl P w K mg base CX0 20 "_law_row" ["_law_names_here","_law_script","_law_k"] (wJ K)) (Gknd:Cl P w K mg base CX0 20 "_law_kind" ["_law_desk","_law_row_here"] (Df K C)):aS P w K mg base CX0 21 f fd ["_law_script"] (sZ K):=by
 refine F.oka gQ λ cdv A outer s H vs Q E hr h=>?_
 obtain⟨a,ns,rfl,hS,h63,hB,fin⟩:=h
 refine⟨_,(ag (aD (i:=1) gQ.nd rfl (Or.inl rfl) (aJ Gnms hr rfl aN (ae (pv 0) af)))
  (ag (aD (i:=2) gQ.nd rfl (Or.inl rfl) (yn mdini Gdini hr rfl cf.mDesk bdini .nil aN))
  (ag (aD (i:=3) gQ.nd rfl (Or.inl rfl) (bG (ae ah (ae ah af))))
  (ag (aU (aK eY (fD (pv 2) cf.clDesk msay Gsay hr bsay .nil fL (ae (ar aq (ar aq (ar aq ah (aF ba (pv 1) aj (λ _ _=>rfl))) ah) (aF ba (pv 3) aj (λ _ _=>rfl))) af)) ah (aO _)) (ak (aE ip)) aI)
  (ag (aU (aK eY (fD (pv 2) cf.clDesk msay Gsay hr bsay .nil fL (ae (ar aq (ar aq (ar aq ah (aF ba (pv 1) aj (λ _ _=>rfl))) ah) (aF ba (pv 3) aj (λ _ _=>rfl))) af)) ah (aO _)) (ak (aE ip)) aI)
  (ag (eR PassesOwn.never rfl (cZ rfl T.range (ae aj af)) (aP (i:=4) gQ.nd rfl (Or.inl rfl)) (ag (ky (aJ Glrow hr rfl aN (ae (pv 1) (ae (pv 0) (ae (pv 4) af)))) (kA rfl (aR (aP (i:=5) gQ.nd rfl (Or.inl rfl)) (aR (aP (i:=6) gQ.nd rfl (Or.inl rfl)) b5))))
   (ag (aU (aK eY (aJ Gknd hr rfl aN (ae (pv 2) (ae (pv 5) af))) (pv 6) (aO _)) (ak (aE ip)) aI)
   (ak (aU (PW.pt (cL (aK eY (fD (pv 2) cf.clDesk msay Gsay hr bsay .nil fL (ae (ar aq ah (aF ba (pv 1) aj (λ _ _=>rfl))) af)) (aF ba (pv 3) aj (λ _ _=>rfl)) (aO _)) (cB (aK eY (fD (pv 2) cf.clDesk msay Gsay hr bsay .nil fL (ae (ar aq ah (aF ba (pv 1) aj (λ _ _=>rfl))) af)) (ar aq ah (aF ba (pv 3) aj (λ _ _=>rfl))) (aO _))))) (ak (aE ip)) aI)))))
  (ag (aU (PW.pt (cL (aK eY (fD (pv 2) cf.clDesk msay Gsay hr bsay .nil fL (ae (ar aq (ar aq ah (aF ba (pv 1) aj (λ _ _=>rfl))) ah) af)) ah (aO _)) (cB (aK eY (fD (pv 2) cf.clDesk msay Gsay hr bsay .nil fL (ae (ar aq ah (aF ba (pv 1) aj (λ _ _=>rfl))) af)) ah (aO _))))) (ak (aE ip)) aI)
  (ak (aE (eI b7 (aJ Gknd hr rfl aN (ae (pv 2) (ae (ar aq ah (aF ba (pv 1) aj (λ _ _=>rfl))) af))) ah (aO _))))))))))),?_⟩
 refine aX (λ σ G=>aA H G/\∃ l r q z,G l=some (.lst [.str r,.str q,.str z])/\Nms r q z/\σ = [some (.ref a),some (.ref l),none,none,none,none,none]) ?_ ?_
 ·intro M hM
  exact⟨_,rfl,a,ns,rfl,hS,h63,λ l r q z H' s' hl hN=>hM _ _ ⟨s',l,r,q,z,hl,hN,rfl⟩⟩
 rintro σ G ⟨sG,l,r,q,z,hl,hN,rfl⟩
 have hS1:=sqk hS λ o e=>sG _ _ e
 refine aX (λ σ G'=>∃ p d,fH C G' p d []/\G' l=some (.lst [.str r,.str q,.str z])/\SqL K G' a (ns.map V.int)/\σ = [some (.ref a),some (.ref l),some (.ref p),none,none,none,none]) ?_ ?_
 ·intro M hM
  intro p dx hp hdx ne
  refine⟨p,dx,rfl,ai,λ d hd=>⟨rfl,?_⟩⟩
  have np:d≠p:=λ z=>by rw[z,ai] at hd;cases hd
  have nx:d≠dx:=λ z=>by rw[z,aM ne,ai] at hd;cases hd
  have hd0:G d=none:=by rw[aM np,aM nx] at hd;exact hd
  have kp:∀ b o,G b=some o->upd (upd (upd (upd G dx (.own p)) p (.ins C.Desk dx [])) d (.dK [])) p (.ins C.Desk dx [("kept",.ref d)]) b=some o:=λ b o e=>by
   rw[aM (aZ e hp),aM (aZ e hd0),aM (aZ e hp),aM (aZ e hdx)]
   exact e
  exact hM _ _ ⟨p,d,⟨⟨dx,ai⟩,by rw[aM np,ai]⟩,kp _ _ hl,sqk hS1 λ o e=>kp _ _ e,rfl⟩
 rintro σ G1 ⟨p,d,dk,hl1,hS2,rfl⟩
 refine aX (λ σ G'=>∃ tx,gJ K C G' a l tx p d ns r q z []/\σ = [some (.ref a),some (.ref l),some (.ref p),some (.ref tx),none,none,none]) ?_ ?_
 ·intro M hM
  refine⟨(by show 2<=sizeLine;decide),λ tx htx=>?_⟩
  have w1:=aw htx (.lst [V.str (txZ true),V.str (txZ false)])
  exact hM _ _ ⟨tx,⟨(sqk hS2 λ o e=>w1 _ _ e),w1 _ _ hl1,ai,dk.keep w1⟩,rfl⟩
 rintro σ G2 ⟨tx,la,rfl⟩
 have r8:=hN.hr.l8
 have q8:=hN.hp.l8
 have z8:=hN.hl.l8
 have t1:=we true
 have t2:=we false
 refine aX (λ σ G'=>∃ e x,gJ K C G' a l tx p d ns r q z (cM [] (.inr r) (.ref e))/\G' e=some (.tup [.str "rule",.ref x])/\Den G' (ruT 2 ruQ) (.ref x)/\σ = [some (.ref a),some (.ref l),some (.ref p),some (.ref tx),none,none,none]) ?_ ?_
 ·intro M hM
  obtain⟨dx,op⟩:=la.dk.ob
  obtain⟨ok,hrow⟩:=AJ hN.hr
  refine⟨_,rfl,p,dx,_,rfl,op,eL (by decide +kernel),_,rfl,l,_,0,_,rfl,rfl,SqL.of la.nm,at0,_,_,rfl,rfl,aV (Nat.le_trans (Nat.add_le_add (by ac_rfl) (by ac_rfl)) (by decide)),_,_,rfl,rfl,aV (Nat.le_trans (Nat.add_le_add (by ac_rfl) (by ac_rfl)) (by decide)),_,rfl,tx,_,0,_,rfl,rfl,SqL.of la.tx,at0,_,_,rfl,rfl,aV (Nat.le_trans (Nat.add_le_add (by ac_rfl) (by ac_rfl)) (by decide)),?_⟩
  refine⟨p,d,[],_,.str _,rfl,la.dk,rfl,ok,by decide,Ga hrow hN.hr.nm (gq (CP true).1) AQ λ x H2 e s2 dr he=>?_⟩
  refine⟨rfl,_,rfl,dH (by decide) (hM _ _ ⟨e,x,?_,?_,?_,rfl⟩)⟩
  ·exact la.ext (nE s2 he) ai
  ·rw[aM (λ z=>by rw[z,s2 _ _ la.dk.dk] at he;cases he),ai]
  ·exact n0 (tP (s2 _ _ la.dk.dk) he) 4 _ _ uo dr
 rintro σ G3 ⟨e1,x1,la3,he1,dr1,rfl⟩
 refine aX (λ σ G'=>∃ kvs,gJ K C G' a l tx p d ns r q z kvs/\iL C G' p d kvs r q z/\σ = [some (.ref a),some (.ref l),some (.ref p),some (.ref tx),none,none,none]) ?_ ?_
 ·intro M hM
  obtain⟨dx,op⟩:=la3.dk.ob
  obtain⟨ok,hrow⟩:=AK hN.hp
  refine⟨_,rfl,p,dx,_,rfl,op,eL (by decide +kernel),_,rfl,l,_,1,_,rfl,rfl,SqL.of la3.nm,at1,_,_,rfl,rfl,aV (Nat.le_trans (Nat.add_le_add (by ac_rfl) (by ac_rfl)) (by decide)),_,_,rfl,rfl,aV (Nat.le_trans (Nat.add_le_add (by ac_rfl) (by ac_rfl)) (by decide)),_,rfl,tx,_,1,_,rfl,rfl,SqL.of la3.tx,at1,_,_,rfl,rfl,aV (Nat.le_trans (Nat.add_le_add (by ac_rfl) (by ac_rfl)) (by decide)),?_⟩
  refine⟨p,d,_,_,.str _,rfl,la3.dk,rfl,ok,by have:=cH ([]:List (Key×V)) (.inr r) (.ref e1);simp at this;omega,Gb hrow hN.hp.nm (gq (CP false).1) AR λ x H2 e s2 dr he=>?_⟩
  have hd2:=s2 _ _ la3.dk.dk
  have la4:=la3.ext (kvs':=cM (cM [] (.inr r) (.ref e1)) (.inr q) (.ref e)) (nE (o:=.tup [.str "plan",.ref x]) s2 he) ai
  have pt:=tP (o:=.tup [.str "plan",.ref x]) (kvs':=cM (cM [] (.inr r) (.ref e1)) (.inr q) (.ref e)) hd2 he
  have l1:=cH ([]:List (Key×V)) (.inr r) (.ref e1)
  have l2:=cH (cM ([]:List (Key×V)) (.inr r) (.ref e1)) (.inr q) (.ref e)
  refine⟨rfl,_,rfl,dH (by decide) (hM _ _ ⟨_,la4,⟨la4.dk,by simp at l1;omega,⟨e1,x1,⟨?_,pt _ _ (s2 _ _ he1)⟩,n0 pt 4 _ _ uo (dr1.keep s2)⟩,⟨e,x,⟨?_,?_⟩,n0 pt 4 _ _ B1 dr⟩,?_⟩,rfl⟩)⟩
  ·rw[eU,if_neg (λ z=>hN.rp (Sum.inr.inj z)),eU,if_pos rfl]
  ·rw[eU,if_pos rfl]
  ·rw[aM (λ z=>by rw[z,hd2] at he;cases he),ai]
  ·rw[eU,if_neg (λ z=>hN.pl (Sum.inr.inj z).symm),eU,if_neg (λ z=>hN.rl (Sum.inr.inj z).symm)]
   rfl
 rintro σ G4 ⟨kvs,la4,sh,rfl⟩
 have lt10:kvs.length<=10:=by have:=sh.len;omega
 refine aX (λ σ G=>aA G4 G/\∃ v4 v5 v6,σ = [some (.ref a),some (.ref l),some (.ref p),some (.ref tx),v4,v5,v6]) ?_ ?_
 ·intro M hM
  refine⟨_,rfl,by decide,by decide,?_⟩
  refine i3 (lo:=0) (λ i σ G=>aA G4 G/\∃ v4 v5 v6,σ = [some (.ref a),some (.ref l),some (.ref p),some (.ref tx),v4,v5,v6]) ⟨aA.refl G4,none,none,none,rfl⟩ ?_ (λ σ G hG=>hM _ _ hG)
  rintro i σ G hi ⟨sG,v4,v5,v6,rfl⟩
  have hi12:i<12:=hi
  have laG:=la4.keep sG
  have shG:=sh.keep sG
  refine aX (λ σ G'=>aA G G'/\∃ v t kd,Den G' t v/\i9 r q z t kd/\σ = [some (.ref a),some (.ref l),some (.ref p),some (.ref tx),some (.int (0+(i:Int))),some v,some (.str kd)]) ?_ ?_
  ·intro N hN'
   exact⟨_,rfl,_,rfl,_,rfl,l,a,r,q,z,ns,_,rfl,laG.nm,hN,laG.sc,h63,by omega,by omega,λ b v t kd H' s' hb dv bad=>⟨b,_,rfl,SqT.of hb,rfl,_,_,rfl,_,_,rfl,rfl,hN' _ _ ⟨s',v,t,kd,dv,bad,rfl⟩⟩⟩
  rintro σ G5 ⟨s5,v,t,kd,dv,bad,rfl⟩
  have sh5:=shG.keep s5
  have la5:=laG.keep s5
  refine aX (λ σ G'=>aA G5 G'/\σ = [some (.ref a),some (.ref l),some (.ref p),some (.ref tx),some (.int (0+(i:Int))),some v,some (.str kd)]) ?_ ?_
  ·intro N hN'
   obtain⟨ok,X,j,kj,ek,say⟩:=Cy cf hN sh5 bad
   subst ek
   exact⟨_,rfl,_,rfl,p,d,X,kvs,v,t,j,rfl,sh5.dk,dv,ok,lt10,kj,say,λ H' s'=>⟨_,rfl,rfl,_,rfl,dH (by rw[decide_eq_true rfl];rfl) (hN' _ _ ⟨s',rfl⟩)⟩⟩
  rintro σ G6 ⟨s6,rfl⟩
  have sh6:=sh5.keep s6
  have la6:=la5.keep s6
  obtain⟨dx,op⟩:=la6.dk.ob
  obtain⟨okS,hS'⟩:=nB hN.hr
  obtain⟨a1,y1,ea1,da1⟩:=sh6.er
  refine⟨_,rfl,p,dx,_,rfl,op,eL (by decide +kernel),_,rfl,l,_,0,_,rfl,rfl,SqL.of la6.nm,at0,_,_,rfl,rfl,aV (Nat.le_trans (Nat.add_le_add (by ac_rfl) (by ac_rfl)) (by decide)),?_⟩
  refine⟨p,d,kvs,_,.str _,rfl,la6.dk,rfl,okS,lt10,Dq true hS' hN.hr.nm ea1 da1 λ G7 s7=>?_⟩
  have la7:=la6.keep s7
  have sh7:=sh6.keep s7
  obtain⟨dx7,op7⟩:=la7.dk.ob
  obtain⟨okS2,hS2'⟩:=nB hN.hp
  obtain⟨a2,y2,ea2,da2⟩:=sh7.eq
  refine⟨_,rfl,tx,_,0,_,rfl,rfl,SqL.of la7.tx,at0,rfl,_,rfl,dH (by rw[if_pos rfl,decide_eq_true rfl];rfl) ?_⟩
  refine⟨_,rfl,p,dx7,_,rfl,op7,eL (by decide +kernel),_,rfl,l,_,1,_,rfl,rfl,SqL.of la7.nm,at1,_,_,rfl,rfl,aV (Nat.le_trans (Nat.add_le_add (by ac_rfl) (by ac_rfl)) (by decide)),?_⟩
  refine⟨p,d,kvs,_,.str _,rfl,la7.dk,rfl,okS2,lt10,Dq false hS2' hN.hp.nm ea2 da2 λ G8 s8=>?_⟩
  have la8:=la7.keep s8
  refine⟨_,rfl,tx,_,1,_,rfl,rfl,SqL.of la8.tx,at1,_,_,rfl,rfl,aV (Nat.le_trans (Nat.add_le_add (by ac_rfl) (by ac_rfl)) (by decide)),rfl,_,rfl,dH (by rw[if_neg Bool.false_ne_true,decide_eq_true rfl];rfl) ?_⟩
  exact⟨sG.trans (s5.trans (s6.trans (s7.trans s8))),_,_,_,rfl⟩
 rintro σ G9 ⟨s9,v4,v5,v6,rfl⟩
 have la9:=la4.keep s9
 have sh9:=sh.keep s9
 refine aX (λ σ G=>∃ kv,gJ K C G a l tx p d ns r q z kv/\kv.length<=10/\ce kv (.inr z)=none/\σ = [some (.ref a),some (.ref l),some (.ref p),some (.ref tx),v4,v5,v6]) ?_ ?_
 ·intro M hM
  obtain⟨dx,op⟩:=la9.dk.ob
  obtain⟨ok,hrow⟩:=AI hN.hl
  refine⟨_,rfl,p,dx,_,rfl,op,eL (by decide +kernel),_,rfl,l,_,2,_,rfl,rfl,SqL.of la9.nm,at2,_,_,rfl,rfl,aV (Nat.le_trans (Nat.add_le_add (by ac_rfl) (by ac_rfl)) (by decide)),_,_,rfl,rfl,aV (Nat.le_trans (Nat.add_le_add (by ac_rfl) (by ac_rfl)) (by decide)),?_⟩
  refine⟨p,d,kvs,_,.str _,rfl,la9.dk,rfl,ok,lt10,F9 hrow hN.hl.nm λ x H2 e s2 he=>?_⟩
  have hd2:=s2 _ _ la9.dk.dk
  have laT:=la9.ext (kvs':=cM kvs (.inr z) (.ref e)) (nE (o:=.tup [.str "rule",.ref x]) s2 he) ai
  have le:=cH kvs (.inr z) (.ref e)
  have l3:=sh.len
  have ent:fX (upd (upd H2 e (.tup [.str "rule",.ref x])) d (.dK (cM kvs (.inr z) (.ref e)))) (cM kvs (.inr z) (.ref e)) z e "rule" (.ref x):=⟨by rw[eU,if_pos rfl],by rw[aM (λ w=>by rw[w,hd2] at he;cases he),ai]⟩
  refine⟨rfl,_,rfl,dH (by decide) ?_⟩
  obtain⟨dxT,opT⟩:=laT.dk.ob
  obtain⟨okD,hrowD⟩:=AL hN.hl
  refine⟨_,rfl,p,dxT,_,rfl,opT,eL (by decide +kernel),_,rfl,l,_,2,_,rfl,rfl,SqL.of laT.nm,at2,_,_,rfl,rfl,aV (Nat.le_trans (Nat.add_le_add (by ac_rfl) (by ac_rfl)) (by decide)),?_⟩
  refine⟨p,d,_,_,.str _,rfl,laT.dk,rfl,okD,by omega,Gd hrowD hN.hl.nm ent λ H3 s3=>?_⟩
  have laD:=(laT.keep s3).ext (H':=upd H3 d (.dK (fV (cM kvs (.inr z) (.ref e)) (.inr z)))) (kvs':=fV (cM kvs (.inr z) (.ref e)) (.inr z)) (λ b o nb hb=>by rw[aM nb];exact hb) ai
  refine⟨rfl,_,rfl,dH (by decide) (hM _ _ ⟨_,laD,?_,?_,rfl⟩)⟩
  ·have:=pZ (cM kvs (.inr z) (.ref e)) (.inr z)
   omega
  ·exact wc _ _
 rintro σ G10 ⟨kv,la10,lk10,ez,rfl⟩
 obtain⟨okS,hrowS⟩:=nB hN.hl
 obtain⟨n1,n2,n3,n4⟩:=iu
 refine⟨_,rfl,_,rfl,l,_,2,_,rfl,rfl,SqL.of la10.nm,at2,_,_,rfl,rfl,aV (Nat.le_trans (Nat.add_le_add (by ac_rfl) (by ac_rfl)) (by decide)),?_⟩
 refine⟨p,d,C.NoName,kv,_,.str _,1,rfl,la10.dk,rfl,okS,lk10,cf.kdNoName,?_,λ H' s'=>⟨rfl,?_⟩⟩
 ·generalize "show " ++ z=x at *
  exact λ Q' E' hE=>.inr ⟨_,_,_,hrowS,.inl ⟨.inr ⟨_,n2,.inl ez⟩,hE⟩⟩
 ·rw[show (decide (V.str (kdN.getD 1 "")=V.str "name"))=true by decide +kernel]
  exact fin _
end
theorem all_mk {l:PySem.W.OpenLaw}{w:World}{K:PySem.W.Frag}{h:Heap}{mg:Str->Option Value}{fa f_rf f_rw f_dini f_say f_fdue d_StretchError d_NoNumber d_NoRule d_NotSure d_TooMuch d_NoPlan d_NoText d_NoName d_NoRow d_Desk d_ini d_FORMS d_MAKES d_NEEDS:Addr} (X:K.In h) (G:h.Ns mainGlobals mg) (hfa:mg "law" = some (.ref fa)) (T:Txt mg) (cf:CF l.prog w K mg ⟨d_StretchError,d_NoNumber,d_NoRule,d_NotSure,d_TooMuch,d_NoPlan,d_NoText,d_NoName,d_NoRow,d_Desk,d_ini,d_FORMS,d_MAKES,d_NEEDS⟩)
  (hf:FAll K (("is_whole",nc)::("is_share",nj)::("is_whole_pair",na)::("common_divisor",Ei)::("under",xv)::("rule_of",ko)::("is_row_of",nk)::("stretch_of",xx)::("plan_of",qM)::("bound_of",xU)::("read_rule",Ee)::("read_bounds",Eh)::("read_pairs",xF)::("read_pair",Ef)::("is_name",xQ)::("word_in",xr)::("number_in",xM)::("share_in",xz)::("value_of",xu)::("read_row",qK)::("make",qQ)::("answer",xW)::("show_fraction",xC)::("show_rule",qI)::("show_plan",qH)::("show_pairs",xB)::("fraction",qW)::("plus",qL)::("minus",nq)::("choices",xT)::("power",xH)::("weight_top",qD)::("run_sum",qJ)::("held",qU)::("run_over",xG)::("cover",xS)::("sum_of_run",xy)::("edges",nu)::("pieces",kq)::("least_place",xN)::("sure",qF)::("share_lacking",qS)::("lacks",xO)::("share_beside",xD)::("simplest_between",xA)::("with_term",m9)::("tight",xw)::("tails",ni)::("half_of_what_is_left",qV)::("tails_low",qE)::("tails_high",ng)::("_law_at",xV)::("_law_names",xL)::("_law_no_name",xK)::("_law_odd_share",xI)::("_law_odd_number",xJ)::("_law_no_rows",qO)::("_law_bent_rows",qZ)::("_law_name_rows",qP)::("_law_stage_rows",qG)::("_law_row",qR)::("_law_kind",xP)::("law",kr)::[]))
  (h_rf:FIn K "read_fraction" Eg f_rf) (h_rw:FIn K "read_whole" Ed f_rw) (m_dini:Mk K d_Desk f_dini) (h_dini:FAt K "__init__" "Desk.__init__" qY f_dini) (m_say:qh K d_Desk "say" f_say) (h_say:FAt K "say" "Desk.say" xE f_say) (m_fdue:qh K d_Desk "find_due" f_fdue) (h_fdue:FAt K "find_due" "Desk.find_due" qX f_fdue) :
  ∃ fd:FuncData,(∀ (s:Shared) (v:Value),BindsTo s fd ⟨[v],[]⟩ [("_law_script",v)])/\∀ base:Heap,K.In base->base.Ns mainGlobals mg->aS l.prog w K mg base CX0 21 fa fd ["_law_script"] (sZ K):=by
 obtain⟨h_whole,h_share,h_wpair,h_cd,h_und,h_ruleof,h_rowof,h_str,h_plan,h_bnd,h_rr,h_rb,h_rps,h_rp,h_isn,h_win,h_nin,h_sin,h_vof,h_rrow,h_make,h_ans,h_shf,h_show,h_shpl,h_shp,h_frac,h_plus,h_minus,h_cho,h_pow,h_wtop,h_rsum,h_held,h_rov,h_cov,h_sor,h_edges,h_pieces,h_lpl,h_sure,h_lack,h_lks,h_shb,h_sim,h_wterm,h_tgt,h_tails,h_half,h_tlow,h_thigh,h_atU,h_nms,h_nnm,h_osh,h_onu,h_norw,h_benr,h_namr,h_star,h_lrow,h_knd,h_law,_⟩:=hf
 obtain⟨_,m_law,_,an,_,_,kV,dc,pm,cd,ct,l_law,c_law,k_law⟩:=h_law
 cases hfa.symm.trans (PySem.W.mg_of X G m_law)
 have F_law:=zo (st:=kr) l_law c_law k_law
 refine⟨_,λ s v=>BindsTo.of_eq (fd:=PySem.W.fnOf "law" "law" (dm kr) (cw kr) (aC kr) .none kV dc pm an cd ct) rfl,λ base _ _=>?_⟩
 have cm:=@GO l.prog w K mg base h X G
 have G_atU:=cm h_atU λ F=>E6 F T
 have G_nms:=cm h_nms λ F=>EU F T G_atU.up
 obtain⟨_,F_dini⟩:=h_dini.fn
 have b_dini:=F_dini.bnd (ps:=["self"])
 have G_dini:=Bp (P:=l.prog) (w:=w) (base:=base) F_dini T cf
 have G_win:=cm h_win λ F=>EB F T cf
 obtain⟨_,F_rw⟩:=h_rw.2.fn
 have b_rw:=F_rw.bnd (ps:=["text"])
 have k_rw:=F_rw.kp
 have m_rw:=PySem.W.mg_of X G h_rw.1
 have G_rw:=Gu (P:=l.prog) (w:=w) (base:=base) F_rw T cf
 have G_nin:=cm h_nin λ F=>EV F T cf (G_rw.mono (by decide)) b_rw k_rw m_rw
 have G_cd:=cm h_cd λ F=>Gz F T
 obtain⟨_,F_rf⟩:=h_rf.2.fn
 have b_rf:=F_rf.bnd (ps:=["text"])
 have k_rf:=F_rf.kp
 have m_rf:=PySem.W.mg_of X G h_rf.1
 have G_rf:=Gx (P:=l.prog) (w:=w) (base:=base) F_rf T cf (G_rw.mono (by decide)) b_rw k_rw m_rw G_cd.up
 have G_whole:=cm h_whole λ F=>yA F T
 have G_wpair:=cm h_wpair λ F=>yy F T G_whole.up
 have G_share:=cm h_share λ F=>yD F T G_wpair.up G_cd.up
 have G_sin:=cm h_sin λ F=>EH F T cf (G_rf.mono (by decide)) b_rf k_rf m_rf G_share.up
 have G_vof:=cm h_vof λ F=>EC F T cf G_win.up G_nin.up G_sin.up
 have G_rrow:=cm h_rrow λ F=>Bb F T cf G_vof.up
 have G_isn:=cm h_isn λ F=>E1 F T
 obtain⟨_,F_fdue⟩:=h_fdue.fn
 have b_fdue:=F_fdue.bnd (ps:=["self","first","name"])
 have G_fdue:=Bo (P:=l.prog) (w:=w) (base:=base) F_fdue T cf G_isn.up
 have G_rp:=cm h_rp λ F=>Gw F T cf ((G_rw.forget λ _ _ _ _ h=>h).mono (by decide)) b_rw k_rw m_rw ((G_rf.forget λ _ _ _ _ h=>h).mono (by decide)) b_rf k_rf m_rf
 have G_rps:=cm h_rps λ F=>EN F T cf ((G_rw.forget λ _ _ _ _ h=>h).mono (by decide)) b_rw k_rw m_rw ((G_rf.forget λ _ _ _ _ h=>h).mono (by decide)) b_rf k_rf m_rf G_rp.up
 have G_rowof:=cm h_rowof λ F=>yE F T
 have G_und:=cm h_und λ F=>ED F T
 have G_str:=cm h_str λ F=>EF F T cf G_rowof.up G_share.up G_und.up
 have G_ruleof:=cm h_ruleof λ F=>u5 F T cf G_whole.up G_rowof.up G_str.up G_und.up
 have G_rr:=cm h_rr λ F=>Gv F T cf ((G_rw.forget λ _ _ _ _ h=>h).mono (by decide)) b_rw k_rw m_rw ((G_rf.forget λ _ _ _ _ h=>h).mono (by decide)) b_rf k_rf m_rf G_rps.up G_ruleof.up
 have G_bnd:=cm h_bnd λ F=>E5 F T cf G_rowof.up G_whole.up
 have G_plan:=cm h_plan λ F=>Bd F T cf G_whole.up G_rowof.up G_bnd.up
 have G_rb:=cm h_rb λ F=>Gy F T cf ((G_rw.forget λ _ _ _ _ h=>h).mono (by decide)) b_rw k_rw m_rw ((G_rf.forget λ _ _ _ _ h=>h).mono (by decide)) b_rf k_rf m_rf G_rps.up G_plan.up
 have G_frac:=cm h_frac λ F=>Bm F T cf G_whole.up G_cd.up
 have G_half:=cm h_half λ F=>Bl F T G_frac.up
 have G_cho:=cm h_cho λ F=>E4 F T
 have G_pow:=cm h_pow λ F=>EQ F T
 have G_wtop:=cm h_wtop λ F=>A4 F T G_cho.up G_pow.up
 have G_rsum:=cm h_rsum λ F=>Ba F T G_wtop.up G_pow.up G_frac.up
 have G_tlow:=cm h_tlow λ F=>A5 F T G_rsum.up (G_und.imp eA).up
 have G_thigh:=cm h_thigh λ F=>yB F T G_rsum.up (G_und.imp eA).up
 have G_tails:=cm h_tails λ F=>yC F T G_half.up G_frac.up G_tlow.up G_thigh.up
 have G_edges:=cm h_edges λ F=>yG F T (G_und.imp eA).up
 have G_rov:=cm h_rov λ F=>EO F T (G_und.imp eA).up
 have G_pieces:=cm h_pieces λ F=>u7 F T G_edges.up G_rov.up
 have G_sor:=cm h_sor λ F=>EG F T G_rsum.up
 have G_lpl:=cm h_lpl λ F=>EW F T G_pieces.up G_sor.up (G_und.imp eA).up
 have G_held:=cm h_held λ F=>Bk F T G_rov.up
 have G_cov:=cm h_cov λ F=>E3 F T G_held.up G_sor.up
 have G_lks:=cm h_lks λ F=>EX F T G_cov.up (G_und.imp eA).up
 have G_minus:=cm h_minus λ F=>yF F T G_frac.up
 have G_plus:=cm h_plus λ F=>Bc F T G_frac.up
 have G_wterm:=cm h_wterm λ F=>yx F T
 have G_sim:=cm h_sim λ F=>EI F T G_wterm.up
 have G_shb:=cm h_shb λ F=>EL F T G_minus.up G_plus.up G_frac.up G_pow.up (G_und.imp eA).up G_sim.up
 have G_lack:=cm h_lack λ F=>Bj F T G_lks.up G_shb.up
 have G_sure:=cm h_sure λ F=>A6 F T G_lpl.up (G_und.imp eA).up G_lack.up G_cov.up
 obtain⟨_,F_ini⟩:=cf.hini.fn
 have b_ini:=F_ini.bnd (ps:=["self","at"])
 have G_ini:=E2 (P:=l.prog) (w:=w) (base:=base) F_ini T cf
 have G_tgt:=cm h_tgt λ F=>EE F T cf G_sure.up (G_ini.mono (by decide)) b_ini
 have G_make:=cm h_make λ F=>Bh F T cf G_rr.up G_rb.up G_tails.up (G_tgt.forget GW).up
 have G_shf:=cm h_shf λ F=>EK F T
 have G_shp:=cm h_shp λ F=>EJ F T
 have G_show:=cm h_show λ F=>A9 F T G_shf.up G_shp.up
 have G_shpl:=cm h_shpl λ F=>A8 F T G_shp.up
 have G_ans:=cm h_ans λ F=>E7 F T G_show.up G_shpl.up
 obtain⟨_,F_say⟩:=h_say.fn
 have b_say:=F_say.bnd (ps:=["self","row"])
 have G_say:=EM (P:=l.prog) (w:=w) (base:=base) F_say T cf G_rrow.up (G_fdue.mono (by decide)) b_fdue m_fdue G_make.up G_ans.up
 have G_norw:=cm h_norw λ F=>Be F T
 have G_osh:=cm h_osh λ F=>ER F T
 have G_onu:=cm h_onu λ F=>ES F T
 have G_benr:=cm h_benr λ F=>Bq F T G_osh.up G_onu.up
 have G_nnm:=cm h_nnm λ F=>ET F T
 have G_namr:=cm h_namr λ F=>Bf F T G_nnm.up
 have G_star:=cm h_star λ F=>A7 F T
 have G_lrow:=cm h_lrow λ F=>Bi F T G_atU.up G_norw.up G_benr.up G_namr.up G_star.up
 have G_knd:=cm h_knd λ F=>EZ F T cf (G_say.mono (by decide)) b_say m_say
 exact EY F_law T cf G_nms.up (G_dini.mono (by decide)) b_dini m_dini (G_say.mono (by decide)) b_say m_say G_lrow.up G_knd.up
theorem walk {l:PySem.W.OpenLaw}{q:Program}{loose:List Str}{XP:(Str->Option Value)->Heap->Prop}{YP:World->Heap->Prop}{d:DefRec}{K:Params->PySem.W.Frag} (hn:l.most=some 63) (hdf:d.params.defaults = [])
  (hY:∀ (w:World) (h:Heap),YP w h->(K w.params).In h)
  (F:∀ (w:World) (mg:Str->Option Value) (fa:Addr) (h:Heap),(K w.params).In h->h.Ns mainGlobals mg->mg d.name=some (.ref fa) ->
   ∃ fd:FuncData,(∀ (s:Shared) (u:Value),BindsTo s fd ⟨[u],[]⟩ [("_law_script",u)])/\∀ base:Heap,(K w.params).In base->base.Ns mainGlobals mg->aS l.prog w (K w.params) mg base CX0 21 fa fd ["_law_script"] (sZ (K w.params))) :
  PySem.W.WalkO q loose XP YP l.row.toRowW d [] (λ f vs=>PySem.call f vs) :=
 L2.wb (n:=63) (k:=21) (x:="_law_script") (CX:=λ _=>CX0) (sp:=λ w=>sZ (K w.params)) hn (by decide) hdf ⟨rfl,by decide,by decide⟩ hY F (λ _ _ a ns hl hb _ hS=>⟨a,ns,rfl,hS,hl,hb,λ _=>rfl⟩) λ _ _ _ _ _ z=>z
end K54
end
open PySem PySem.W PyProof.Rows
namespace PySem.W.Fast
def tw8978560617187984428:Nat:=0
def tw9687892671746702426:Nat:=0
def tw4500604039667614302:Nat:=0
def tw18143488455348031298:Nat:=0
def tw11395759203785453404:Nat:=0
def tw10799808270289456337:Nat:=0
def tw14836633241057203849:Nat:=0
def tw14135072821457396623:Nat:=0
def tw13633477848732638014:Nat:=0
def tw8875579580386031743:Nat:=0
def tw1602484731226889124:Nat:=0
def tw15554464349312741498:Nat:=0
def tw6500932851135131956:Nat:=0
def tw11429875558454080009:Nat:=0
def tw5363163844621083160:Nat:=0
def tw15792415717993069246:Nat:=0
def tw14314317493336446896:Nat:=0
def tw6683047746248851236:Nat:=0
def tw17008163077278229559:Nat:=0
def tw14013387036161843958:Nat:=0
def tw5676297428693149726:Nat:=0
def tw15907893116918695771:Nat:=0
def tw10682073459515994727:Nat:=0
def tw15759455619874759783:Nat:=0
def tw18360796059782572657:Nat:=0
def tw9109346698455102995:Nat:=0
def tw15241739213423558554:Nat:=0
def tw17823927163798254612:Nat:=0
def tw10630035865952114853:Nat:=0
def tw14088328435285158547:Nat:=0
def tw6331483336567184493:Nat:=0
def tw17028234663519984443:Nat:=0
def tw5011760767970038883:Nat:=0
def tw9933497677827757296:Nat:=0
def tw11741296768520471807:Nat:=0
def tw9733223045497861740:Nat:=0
def tw12849319800253905641:Nat:=0
def tw12061374785039170445:Nat:=0
def tw17497628820681819612:Nat:=0
def tw13170025582810193180:Nat:=0
def tw465682952346164062:Nat:=0
def tw11547630705540266185:Nat:=0
def tw3047727233961833274:Nat:=0
def tw1218187212042147620:Nat:=0
def tw9083234755417937860:Nat:=0
def tw15765954458716956624:Nat:=0
def tw6658095078199880996:Nat:=0
def tw5348046729390836518:Nat:=0
def tw14444113485503138360:Nat:=0
def tw10634011851579323382:Nat:=0
def tw16759339864387595171:Nat:=0
def tw17286992688198515693:Nat:=0
def tw11169041560182429345:Nat:=0
def tw4581583613095135590:Nat:=0
def tw3420309084140106510:Nat:=0
def tw16849749907559620651:Nat:=0
def tw3246660168240596943:Nat:=0
def tw5482182655578973895:Nat:=0
def tw5782554415573698677:Nat:=0
def tw13802037315502699231:Nat:=0
def tw15790749894269827031:Nat:=0
def tw15503100400846642302:Nat:=0
def tw16234744040306732897:Nat:=0
def tw2439553167529268951:Nat:=0
def tw8400098971145520770:Nat:=0
def tw1468722789991950455:Nat:=0
def tw12974399934812554225:Nat:=0
def tw5122880740289859620:Nat:=0
def tw3866756785825643846:Nat:=0
def tw668166039827682181:Nat:=0
def tw16142169320617517127:Nat:=0
def tw18262787420987544810:Nat:=0
def tw4998302019639140608:Nat:=0
def tw16367671231091342975:Nat:=0
def tw3058583278154962667:Nat:=0
def tw4459120157880358140:Nat:=0
def tw1105815860333794460:Nat:=0
def tw12351288214555219966:Nat:=0
def tw2458871865255972161:Nat:=0
def tw14674172227901634459:Nat:=0
def tw1751857598910441521:Nat:=0
def tw13976287275630977143:Nat:=0
def tw4052104640098268143:Nat:=0
def tw6310208924786267446:Nat:=0
def tw14103325631325876371:Nat:=0
def tw11970280362269372797:Nat:=0
def tw14784384327987664097:Nat:=0
def tw6958326160647430199:Nat:=0
def tw12934259690850769998:Nat:=0
def tw9707248754004157156:Nat:=0
def tw2169474291525993889:Nat:=0
def tw12822102070811054187:Nat:=0
def tw3419722647098300305:Nat:=0
def tw3663544071577206524:Nat:=0
def tw16175128989630666217:Nat:=0
def tw8426567754124859940:Nat:=0
def tw16273748822832970040:Nat:=0
def tw17121522898803041678:Nat:=0
def tw39301268730267128:Nat:=0
def tw5274229566678505455:Nat:=0
def tw11615211851264267923:Nat:=0
def tw6710469667128502775:Nat:=0
def tw18106991172821385170:Nat:=0
def tw7896418509537611097:Nat:=0
def tw6658187783292937893:Nat:=0
def tw3565206411469402046:Nat:=0
def tw11300623788063018826:Nat:=0
def tw14347849230411572657:Nat:=0
def tw12598106941920249714:Nat:=0
def tw8523891665842006309:Nat:=0
def tw7348776030266280304:Nat:=0
def tw4885128114772940514:Nat:=0
def tw17642084575124407423:Nat:=0
def tw16800170893856423930:Nat:=0
def tw4070324668004174750:Nat:=0
def tw8441291933573990158:Nat:=0
def tw4611520710494280149:Nat:=0
def tw2746592092851108997:Nat:=0
def tw17468141741334313428:Nat:=0
def tw8941970081677937383:Nat:=0
def tw8709000866379738736:Nat:=0
def tw10223415598014017227:Nat:=0
def tw4832454890309182876:Nat:=0
def tw7260281053703249721:Nat:=0
def tw16171016016330283133:Nat:=0
def tw4873566386489572166:Nat:=0
def tw4284849997313123797:Nat:=0
def tw10079794302165777161:Nat:=0
def tw9680900616417230688:Nat:=0
def tw15104489608243521052:Nat:=0
def tw14847922010360939251:Nat:=0
def tw55853474418377177:Nat:=0
def tw13117498302356020396:Nat:=0
def tw1675717915366417584:Nat:=0
def tw2815797012021793282:Nat:=0
def tw11044781221454454927:Nat:=0
def tw6016742681351808210:Nat:=0
def tw9134603272910890261:Nat:=0
def tw3548026529491747372:Nat:=0
def tw8329466124867813398:Nat:=0
def tw9228149507258184689:Nat:=0
def tw2622711583888026291:Nat:=0
def tw7270983922373418998:Nat:=0
def tw3501834468601258047:Nat:=0
def tw8041779317251698674:Nat:=0
def tw1822368248546541983:Nat:=0
def tw3345991260232968140:Nat:=0
def tw2074740123873463835:Nat:=0
def tw3267377317538613243:Nat:=0
def tw6307816480311865702:Nat:=0
def tw11019052671022979361:Nat:=0
def tw6205758498598404355:Nat:=0
def tw8069974735420557200:Nat:=0
def tw775081704134677211:Nat:=0
def tw8549976971896034139:Nat:=0
def tw10862219820146961345:Nat:=0
def tw905909548187985585:Nat:=0
def tw13039641090613804838:Nat:=0
def tw15085971354280823126:Nat:=0
def tw16730253339209993513:Nat:=0
def tw13349678316162775979:Nat:=0
def tw4621612983432543749:Nat:=0
def tw595870929110910789:Nat:=0
def tw5154344458217489910:Nat:=0
def tw923133843099683396:Nat:=0
def tw6608739264939290842:Nat:=0
def tw5835757929565375628:Nat:=0
def tw13175134175981246434:Nat:=0
def tw12036844900960682584:Nat:=0
def tw10522660063400999489:Nat:=0
def tw14285530384357401330:Nat:=0
def tw13500509906149406725:Nat:=0
def tw17923129550049864745:Nat:=0
def tw3840753880307147856:Nat:=0
def tw4094934847114649653:Nat:=0
def tw11904180041500204153:Nat:=0
def tw6809769343101122085:Nat:=0
def tw4113780485963886971:Nat:=0
def tw6958154588108800315:Nat:=0
def tw10014809116079702313:Nat:=0
def tw7616687958081458651:Nat:=0
def tw2795672581211204079:Nat:=0
def tw11636990446673404715:Nat:=0
def tw1874051265323405937:Nat:=0
def tw5650615100512723772:Nat:=0
def tw15923090808591649756:Nat:=0
def tw3761056337726450025:Nat:=0
def tw6801997895962542448:Nat:=0
def tw7741710155424621710:Nat:=0
def tw16774556971139210024:Nat:=0
def tw17783439778267196016:Nat:=0
def tw15313397423281332640:Nat:=0
def tw7163420660260685437:Nat:=0
def tw7029582238684549494:Nat:=0
def tw16527968097823684445:Nat:=0
def tw8929826874269371889:Nat:=0
def tw5463784845757033241:Nat:=0
def tw10466017478464827482:Nat:=0
def tw9752896451652523256:Nat:=0
def tw5664080778092477993:Nat:=0
def tw1363163074562442352:Nat:=0
def tw14816537381706871523:Nat:=0
def tw13871556938369824357:Nat:=0
def tw17892691340434887907:Nat:=0
def tw6725090089318792124:Nat:=0
def tw15927969147462275680:Nat:=0
def tw5062624367083525033:Nat:=0
def tw782543380719785261:Nat:=0
def tw11056293864027160260:Nat:=0
def tw12442180545434729932:Nat:=0
def tw17378345509182339088:Nat:=0
def tw3079421557968428198:Nat:=0
def tw12722328567085700623:Nat:=0
def tw11667764619192092170:Nat:=0
def tw5980393155289044575:Nat:=0
def tw6284836643752947650:Nat:=0
def tw676073606237108640:Nat:=0
def tw1229211226383979537:Nat:=0
def tw3912017887079788263:Nat:=0
def tw16253798948323219893:Nat:=0
def tw16155801719043510906:Nat:=0
def tw15072670439653945340:Nat:=0
def tw18132447967280711529:Nat:=0
def tw999154073127892865:Nat:=0
def tw297023475386686200:Nat:=0
def tw4117784525589697401:Nat:=0
def tw8162753167480875126:Nat:=0
def tw6768547891366617952:Nat:=0
def tw1608225663490913931:Nat:=0
def tw16061371716595529648:Nat:=0
def tw6800046371706359951:Nat:=0
def tw7617470881079873392:Nat:=0
def tw1861192281583534733:Nat:=0
def tw5467668012734599483:Nat:=0
def tw18130312922452304032:Nat:=0
def tw5290727986232343537:Nat:=0
def tw10737952805513703154:Nat:=0
def tw2660948988435333210:Nat:=0
def tw243873632523575160:Nat:=0
def tw15055736199714082893:Nat:=0
def tw13323862285083867902:Nat:=0
def tw12242244728672822049:Nat:=0
def tw10304255199980860196:Nat:=0
def tw6734149843334782732:Nat:=0
def tw10931819320241985483:Nat:=0
def tw6910209809934617904:Nat:=0
def tw11216393222423232006:Nat:=0
def tw12355349971697257491:Nat:=0
def tw3973161093482375249:Nat:=0
def tw14613823149644056760:Nat:=0
def tw3988553710038411495:Nat:=0
def tw7992897111835707140:Nat:=0
def tw10994794631680427395:Nat:=0
def tw904068866398789067:Nat:=0
def tw14223200322995321091:Nat:=0
def tw10778813263589637945:Nat:=0
def tw10172047080916785933:Nat:=0
def tw15209889983605577845:Nat:=0
def tw14817991312766971194:Nat:=0
def tw9103322242614172335:Nat:=0
def tw5646542800945544076:Nat:=0
def tw16200068241235447420:Nat:=0
def tw5051222287122900416:Nat:=0
def tw8109347428851882574:Nat:=0
def tw3909877675150639892:Nat:=0
def tw3210731305438501113:Nat:=0
def tw8741069446269986519:Nat:=0
def tw9415773572478310739:Nat:=0
def tw4692348681409677793:Nat:=0
def tw2073007792784384970:Nat:=0
def tw16849363880987192466:Nat:=0
def tw14351749540552778333:Nat:=0
def tw11221469804514012772:Nat:=0
def tw4532368057577185254:Nat:=0
def tw2213149275983919169:Nat:=0
def tw4552111310203789950:Nat:=0
def tw601478791670929605:Nat:=0
def tw5701753865653041563:Nat:=0
def tw4661639008146455955:Nat:=0
def tw11455456981795200098:Nat:=0
def tw16850938315187740297:Nat:=0
def tw4753868371714202349:Nat:=0
def tw7910609469390247109:Nat:=0
def tw1430330118099792634:Nat:=0
def tw13774017653035406885:Nat:=0
def tw4101427877258690864:Nat:=0
def tw15710196323606116902:Nat:=0
def tw12673481816666678931:Nat:=0
def tw8505744996653651731:Nat:=0
def tw18199127331635155766:Nat:=0
def tw12247692901672954321:Nat:=0
def tw6792337412552977688:Nat:=0
def tw3219795244439856749:Nat:=0
def tw10559091485291344813:Nat:=0
def tw9457746374215221606:Nat:=0
def tw788011362654847831:Nat:=0
def tw15932224057800924917:Nat:=0
def tw17568858041971865766:Nat:=0
def tw11663613704007128462:Nat:=0
def tw17292800550171711857:Nat:=0
def tw4368020152892146334:Nat:=0
def tw7780188658776276217:Nat:=0
def tw3763631235910539225:Nat:=0
def tw18427522291539515749:Nat:=0
def tw18136726664173561134:Nat:=0
def tw14545620928939612986:Nat:=0
def tw17172838443312538117:Nat:=0
def tw14046300026117358390:Nat:=0
def tw11790286283097326369:Nat:=0
def tw1123451010746367543:Nat:=0
def tw906278101816136174:Nat:=0
def tw12597919907240614444:Nat:=0
def tw1069927492017862810:Nat:=0
def tw10676761217422204415:Nat:=0
def tw10088900909535206937:Nat:=0
def tw4875397743974489171:Nat:=0
def tw3204169406888049726:Nat:=0
def tw12609127394310109343:Nat:=0
def tw10011586544241856356:Nat:=0
def tw2506534422490529753:Nat:=0
def tw16190497697129863099:Nat:=0
def tw16679531917013252927:Nat:=0
def tw13931358432387056128:Nat:=0
def tw1157043583914434029:Nat:=0
def tw7959300546292529908:Nat:=0
def tw5523261288781993544:Nat:=0
def tw14335937928368579656:Nat:=0
def tw771737453575135078:Nat:=0
def tw5631075787748911958:Nat:=0
def tw15970379494002180108:Nat:=0
def tw14506885229855182640:Nat:=0
end PySem.W.Fast
set_option maxRecDepth 100000 in
set_option maxHeartbeats 0 in
theorem PySem.Challenge.cw_surestretch_k54_desk_rows_refused_holds : PySem.Challenge.rw_surestretch_k54_desk_rows_refused.Holds := by
 w_on;o_law;k_head;(case hw=>w_witness2)
 k_fill
 refine K54.walk (l:=PySem.Challenge.rw_surestretch_k54_desk_rows_refused) rfl rfl (λ w h Y=>PySem.W.km_in_of Y) ?F
 case F =>
  intro w mg fa h KX G hmg
  refine' K54.all_mk KX G hmg ?T ?cf ?hf ?h_rf ?h_rw ?m_dini ?h_dini ?m_say ?h_say ?m_fdue ?h_fdue
  (case T=>constructor<;>first | exact mg_none_of KX G (by k_is) | exact⟨_,mg_of KX G (by k_is)⟩)
  (case cf =>
   constructor
   all_goals try (refine mg_of KX G ?_;k_is)
   (case fFORMS=>refine' K54.mf_FORMS ?lk_FORMS ?kl_FORMS ?er_FORMS ?hd_FORMS ?tu_FORMS;(case lk_FORMS=>k_is);(case kl_FORMS=>repeat' (first | exact True.intro | (rw[KeysLit.eq_2];refine⟨⟨_,_,rfl,rfl⟩,?_⟩) | rw[KeysLit.eq_1]));(case er_FORMS=>repeat' (first | exact rfl | exact⟨_,rfl⟩ | refine⟨_,_,_,rfl,⟨_,rfl⟩,?_,?_⟩));(case hd_FORMS=>first | rfl | decide | kernel_rfl);(case tu_FORMS=>(iterate 13 (refine' K54.tups_c ?_ ?_ ?_;(all_goals try k_is);(· repeat' (first | exact .nil | refine .cons ⟨_,rfl⟩ ?_))));exact True.intro))
   (case fMAKES=>refine' K54.modS_fr ?lk_MAKES ?kl_MAKES ?er_MAKES ?hd_MAKES (by decide +kernel);(case lk_MAKES=>k_is);(case kl_MAKES=>repeat' (first | exact True.intro | (rw[KeysLit.eq_2];refine⟨⟨_,_,rfl,rfl⟩,?_⟩) | rw[KeysLit.eq_1]));(case er_MAKES=>repeat' (first | exact rfl | exact⟨_,rfl⟩ | refine⟨_,_,_,rfl,⟨_,rfl⟩,?_,?_⟩));(case hd_MAKES=>first | rfl | decide | kernel_rfl))
   (case fNEEDS=>refine' K54.modS_fr ?lk_NEEDS ?kl_NEEDS ?er_NEEDS ?hd_NEEDS (by decide +kernel);(case lk_NEEDS=>k_is);(case kl_NEEDS=>repeat' (first | exact True.intro | (rw[KeysLit.eq_2];refine⟨⟨_,_,rfl,rfl⟩,?_⟩) | rw[KeysLit.eq_1]));(case er_NEEDS=>repeat' (first | exact rfl | exact⟨_,rfl⟩ | refine⟨_,_,_,rfl,⟨_,rfl⟩,?_,?_⟩));(case hd_NEEDS=>first | rfl | decide | kernel_rfl))
   all_goals first
    | k_is
    | (refine' L2.FAt.mk ?_ ?_ ?_;(all_goals try k_is);done)
    | (constructor<;>first | (refine mg_of KX G ?_;k_is) | k_is | kit_is | k_exc | exact K54.kit_self | (show _=some false;kit_is) | (show _=some false;k_is) | exact rfl | kernel_rfl | decide | (constructor<;>k_is))
    | exact rfl | kernel_rfl)
  (case hf=>(iterate 63 (refine' L2.FAll.c ?_ ?_ ?_ ?_ ?_;all_goals try k_is));exact True.intro)
  (case h_rf=>refine⟨?_,?_⟩;k_is;(refine' L2.FAt.mk ?_ ?_ ?_;(all_goals try k_is);done))
  (case h_rw=>refine⟨?_,?_⟩;k_is;(refine' L2.FAt.mk ?_ ?_ ?_;(all_goals try k_is);done))
  (case m_dini=>constructor<;>first | k_is | exact rfl | kernel_rfl);(case h_dini=>refine' L2.FAt.mk ?_ ?_ ?_;(all_goals try k_is);done)
  (case m_say=>constructor<;>first | k_is | exact rfl | kernel_rfl);(case h_say=>refine' L2.FAt.mk ?_ ?_ ?_;(all_goals try k_is);done)
  (case m_fdue=>constructor<;>first | k_is | exact rfl | kernel_rfl);(case h_fdue=>refine' L2.FAt.mk ?_ ?_ ?_;(all_goals try k_is);done)
