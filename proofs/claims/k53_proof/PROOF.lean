import PyProof.Rows.All
import Wide.All
import OpenK.AllK
import Wide.FinOn
import Lean
import PyProof.EqAt
import PyProof.EqKinds
import PyProof.TupleCall
import PySem.Challenge.RW_swapbook_k53_plain_roads_between_baskets
set_option Elab.async false
set_option linter.all false
set_option maxRecDepth 100000
namespace L2
open PySem PySem.Spec PyProof.Rows
abbrev Key:=Sum Int Str
def zn8:Key->Value->Bool
 | .inl k,v=>Value.isInt k v
 | .inr x,v=>Value.isStrOf x v
def zqv (w:World):Key->Int
 | .inl k=>hashInt k
 | .inr x=>hashStr w x
theorem keyIs_shape:∀ {k:Key} {v:Value},zn8 k v=true->(∃ i t,k=Sum.inl i∧v=Value.int i t)∨(∃ x t,k=Sum.inr x∧v=Value.str x t)
 | .inl i,v,h=>by
  obtain ⟨t,e⟩:=Value.isInt_shape (k:=i) (v:=v) h
  exact .inl ⟨i,t,rfl,e⟩
 | .inr x,v,h=>by
  obtain ⟨t,e⟩:=Value.isStrOf_shape (x:=x) (v:=v) h
  exact .inr ⟨x,t,rfl,e⟩
theorem zn7 (a b:Int):decide ((Sum.inl a:Key)=Sum.inl b)=(a == b):=by
 by_cases e:a=b
 ·subst e;simp
 ·have h:¬ (Sum.inl a:Key)=Sum.inl b:=λq=>e (Sum.inl.inj q)
  rw [decide_eq_false h]
  exact (beq_eq_false_iff_ne.mpr e).symm
theorem zoB (a b:Str):decide ((Sum.inr a:Key)=Sum.inr b)=decide (a=b):=by
 by_cases e:a=b
 ·subst e;simp
 ·have h:¬ (Sum.inr a:Key)=Sum.inr b:=λq=>e (Sum.inr.inj q)
  rw [decide_eq_false h,decide_eq_false e]
theorem zow (a:Int) (b:Str):decide ((Sum.inl a:Key)=Sum.inr b)=false:=decide_eq_false (λq=>nomatch q)
theorem zo2 (a:Str) (b:Int):decide ((Sum.inr a:Key)=Sum.inl b)=false:=decide_eq_false (λq=>nomatch q)
def zjw (prog:Program) (w:World):PySem.KeyKind prog w Key where
 is:=zn8
 hash:=zqv w
 inj:=λv a b ha hb=>by
  rcases keyIs_shape ha with ⟨i,t,rfl,rfl⟩ | ⟨x,t,rfl,rfl⟩
  ·rcases keyIs_shape hb with ⟨j,u,rfl,e⟩ | ⟨y,u,rfl,e⟩
   ·injection e with e1 _;rw [e1]
   ·exact nomatch e
  ·rcases keyIs_shape hb with ⟨j,u,rfl,e⟩ | ⟨y,u,rfl,e⟩
   ·exact nomatch e
   ·injection e with e1 _;rw [e1]
 byValue:=λk v h=>by
  rcases keyIs_shape h with ⟨i,t,rfl,rfl⟩ | ⟨x,t,rfl,rfl⟩<;>rfl
 pyHash:=λhv h=>by
  rcases keyIs_shape hv with ⟨i,t,rfl,rfl⟩ | ⟨x,t,rfl,rfl⟩
  ·exact wpAny_pyHash_int h
  ·exact wpAny_pyHash_str h
 eqBool:=λhu hv h=>by
  rcases keyIs_shape hu with ⟨i,t,rfl,rfl⟩ | ⟨x,t,rfl,rfl⟩
  ·rcases keyIs_shape hv with ⟨j,u,rfl,rfl⟩ | ⟨y,u,rfl,rfl⟩
   ·rw [zn7] at h;exact wpAny_eqBool_int h
   ·rw [zow] at h;exact SeqAt.EqAt.int_str i t y u _ _ _ _ h
  ·rcases keyIs_shape hv with ⟨j,u,rfl,rfl⟩ | ⟨y,u,rfl,rfl⟩
   ·rw [zo2] at h;exact SeqAt.EqAt.str_int x t j u _ _ _ _ h
   ·rw [zoB] at h;exact wpAny_eqBool_str h
 «strs»:=λk x t v h=>by
  rcases keyIs_shape h with ⟨i,u,rfl,e⟩ | ⟨y,u,rfl,e⟩
  ·exact nomatch e
  ·injection e with e1 _
   subst e1
   cases v<;>rfl
end L2
namespace L2
open PySem PySem.Spec PyProof.Rows
inductive V where
 | non | bl (b:Bool) | int (i:Int) | str (x:Str) | byt (b:Array UInt8) | flt (b:UInt64) | ref (a:Addr) | ty (n:String)
 deriving DecidableEq
def RelV:V->Value->Prop
 | .non,u=>u=Value.none
 | .bl b,u=>u=Value.bool b
 | .int i,u=>∃ t,u=Value.int i t
 | .str x,u=>∃ t,u=Value.str x t
 | .byt b,u=>∃ t,u=Value.bytes b t
 | .flt b,u=>∃ t,u=Value.float b t
 | .ref a,u=>u=Value.ref a
 | .ty n,u=>u=Value.type n
abbrev Vals:List V->List Value->Prop:=Paired RelV
theorem Vals.length {xs:List V} {us:List Value} (r:Vals xs us):xs.length=us.length:=Paired.length r
theorem Vals.get:∀ {xs:List V} {us:List Value} {i:Nat} {x:V},Vals xs us->xs[i]?=some x->∃ u,us[i]?=some u∧RelV x u
 | _,_,_,_,.nil,e=>by simp at e
 | _,_,0,_,.cons r _,e=>by simp at e;subst e;exact ⟨_,rfl,r⟩
 | _,_,i+1,x,.cons _ t,e=>by
  obtain ⟨u,h1,h2⟩:=Vals.get (i:=i) (x:=x) t (by simpa using e)
  exact ⟨u,by simpa using h1,h2⟩
theorem Vals.set {x:V} {u:Value} (r:RelV x u):∀ {xs:List V} {us:List Value} (i:Nat),Vals xs us->Vals (xs.set i x) (us.set i u)
 | _,_,_,.nil=>.nil
 | _,_,0,.cons _ t=>.cons r t
 | _,_,i+1,.cons q t=>.cons q (Vals.set r i t)
theorem Vals.append:∀ {xs ys:List V} {us ws:List Value},Vals xs us->Vals ys ws->Vals (xs++ys) (us++ws)
 | _,_,_,_,.nil,s=>s
 | _,_,_,_,.cons r t,s=>.cons r (Vals.append t s)
theorem Vals.take:∀ {xs:List V} {us:List Value} (n:Nat),Vals xs us->Vals (xs.take n) (us.take n)
 | _,_,0,_=>.nil
 | _,_,_+1,.nil=>.nil
 | _,_,n+1,.cons r t=>.cons r (Vals.take n t)
theorem Vals.drop:∀ {xs:List V} {us:List Value} (n:Nat),Vals xs us->Vals (xs.drop n) (us.drop n)
 | _,_,0,r=>r
 | _,_,_+1,.nil=>.nil
 | _,_,n+1,.cons _ t=>Vals.drop n t
def zm5:Option V->Option Value->Prop
 | some v,some u=>RelV v u
 | none,none=>True
 | _,_=>False
def KV {κ:Type}:List (κ×V)->List (κ×Value)->Prop:=Paired λ(p:κ×V) (q:κ×Value)=>p.1=q.1∧RelV p.2 q.2
def kV:Key->V
 | .inl i=>.int i
 | .inr x=>.str x
inductive HO where
 | lst (xs:List V)
 | tup (xs:List V)
 | dK (kvs:List (Key×V)) | dT (kvs:List (List Key×V))
 | set (S:Int->Bool) (n:Nat)
 | ins (C dx:Addr) (fs:List (Str×V))
 | own (x:Addr)
 | xd (fs:List (Str×V))
 | met (f x:Addr)
 | rng (lo hi:Int)
 | frz (o:Obj) (u:HO)
 | tbl (ps:Array Value)
 | ext (φ:Heap->Prop)
abbrev Hp:=Addr->Option HO
def upd (H:Hp) (a:Addr) (o:HO):Hp:=λb=>if b=a then some o else H b
theorem upd_same {H:Hp} {a:Addr} {o:HO}:upd H a o a=some o:=by unfold upd;rw [if_pos rfl]
theorem upd_ne {H:Hp} {a b:Addr} {o:HO} (h:b≠a):upd H a o b=H b:=by unfold upd;rw [if_neg h]
theorem zlO {H:Hp} {a b:Addr} {o u:HO} (h:H a=some o) (h':H b=some u) (d:o≠u):a≠b:=by
 intro e;subst e;rw [h] at h';exact d (Option.some.inj h')
theorem ne_of_none {H:Hp} {a b:Addr} {o:HO} (h:H a=some o) (h':H b=none):a≠b:=by
 intro e;subst e;rw [h] at h';cases h'
section
variable (P:Program) (w:World)
def zcs (H:Hp) (h:Heap) (a:Addr):HO->Prop
 | .lst xs=>xs.length≤sizeLine∧∃ (its:List Value) (n:Nat),Vals xs its∧h.get? a=some { cls:=.type "list",data:=.seq its.toArray n }
 | .tup xs=>xs.length≤sizeLine∧∃ its:List Value,Vals xs its∧IsTup h a its.toArray
 | .dK kvs=>kvs.length≤sizeLine∧(a == sysModules)=false∧∃ vs,KV kvs vs∧h.DictOf (zjw P w) a vs
 | .dT kvs=>kvs.length≤sizeLine∧(a == sysModules)=false∧∃ xs:List (List Key×Addr×Value),
   Paired (λ(p:List Key×V) (q:List Key×Addr×Value)=>p.1=q.1∧H q.2.1=some (.tup (p.1.map kV))∧RelV p.2 q.2.2) kvs xs ∧
   ∃ o es ep,h.get? a=some o∧o.ExactDict∧o.data=.dict es ep∧es.toList=xs.map (entryOfKey (tupleKind (zjw P w)))∧(xs.map (·.1)).Nodup
 | .set S n=>h.SetOf (intKind P w) a S n
 | .ins C dx fs=>H dx=some (.own a)∧fs.length≤1000∧dx≠a∧h.get? a=some (W.instObj C dx) ∧
   ∃ mA,h.Ns1 dx mA∧(∀ f,zm5 (fs.lookup f) (mA f))∧PySem.Within mA (fs.map (·.1))
 | .own _=>∃ o,h.get? a=some o
 | .xd fs=>∃ mA,h.Ns1 a mA∧∀ f,zm5 (fs.lookup f) (mA f)
 | .rng lo hi=>∃ t u v,h.get? a=some { cls:=.type "range",data:=.fields #[.int lo t,.int hi u,.int 1 v] }
 | .frz o u=>h.get? a=some o∧zcs H h a u
 | .tbl ps=>h.get? a=some { cls:=.none,data:=.fields ps }
 | .met f x=>h.get? a=some (W.methodObj (.ref f) (.ref x))
 | .ext φ=>φ h∧(∃ o,h.get? a=some o)∧∀ h1 h2:Heap,φ h1->(∀ o,h1.get? a=some o->h2.get? a=some o)->φ h2
def HOk (H:Hp) (h:Heap):Prop:=∀ a o,H a=some o->zcs P w H h a o
end
section
variable {P:Program} {w:World} {H H':Hp} {h h':Heap} {a:Addr} {o:HO}
theorem zcs.lt (x:zcs P w H h a o):a<h.objs.size:=by
 cases o with
 | lst xs=>obtain ⟨_,_,_,_,e⟩:=x;exact Heap.lt_size e
 | tup xs=>obtain ⟨_,_,_,p⟩:=x;exact p.lt
 | dK kvs=>obtain ⟨_,_,_,_,o,_,_,e,_⟩:=x;exact Heap.lt_size e
 | dT kvs=>obtain ⟨_,_,_,_,o,_,_,e,_⟩:=x;exact Heap.lt_size e
 | set S n=>obtain ⟨o,_,_,_,e,_⟩:=x;exact Heap.lt_size e
 | ins C dx fs=>obtain ⟨_,_,_,e,_⟩:=x;exact Heap.lt_size e
 | own y=>obtain ⟨_,e⟩:=x;exact Heap.lt_size e
 | xd fs=>obtain ⟨_,⟨_,_,_,e,_⟩,_⟩:=x;exact Heap.lt_size e
 | rng lo hi=>obtain ⟨_,_,_,e⟩:=x;exact Heap.lt_size e
 | frz ob u=>obtain ⟨e,_⟩:=x;exact Heap.lt_size e
 | tbl ps=>exact Heap.lt_size (show h.get? a=some _ from x)
 | met f y=>exact Heap.lt_size (show h.get? a=some _ from x)
 | ext φ=>obtain ⟨_,⟨_,e⟩,_⟩:=x;exact Heap.lt_size e
theorem Paired.mapP {α β:Type} {F G:α->β->Prop}:∀ {l₁:List α} {l₂:List β},Paired F l₁ l₂->(∀ a b,F a b->G a b)->Paired G l₁ l₂
 | _,_,.nil,_=>.nil
 | _,_,.cons r t,f=>.cons (f _ _ r) (Paired.mapP t f)
theorem zcs.stay (x:zcs P w H h a o) (k:∀ b u,(b=a∨H b=some (.own a))->h.get? b=some u->h'.get? b=some u)
  (ho:∀ b,H b=some (.own a)->H' b=some (.own a)) (ht:∀ b xs,H b=some (.tup xs)->H' b=some (.tup xs)):zcs P w H' h' a o:=by
 induction o with
 | lst xs=>obtain ⟨z,its,n,r,e⟩:=x;exact ⟨z,its,n,r,k _ _ (.inl rfl) e⟩
 | tup xs=>obtain ⟨z,its,r,ob,e,c⟩:=x;exact ⟨z,its,r,ob,k _ _ (.inl rfl) e,c⟩
 | dK kvs=>obtain ⟨z,y,vs,r,ob,es,ep,e,c⟩:=x;exact ⟨z,y,vs,r,ob,es,ep,k _ _ (.inl rfl) e,c⟩
 | dT kvs =>
  obtain ⟨z,y,xs,r,ob,es,ep,e,c⟩:=x
  exact ⟨z,y,xs,Paired.mapP r λp q z=>⟨z.1,ht _ _ z.2.1,z.2.2⟩,ob,es,ep,k _ _ (.inl rfl) e,c⟩
 | set S n=>obtain ⟨ob,es,ep,t,e,c⟩:=x;exact ⟨ob,es,ep,t,k _ _ (.inl rfl) e,c⟩
 | ins C dx fs =>
  obtain ⟨d,z,ne,e,mA,⟨od,es,ep,e2,c⟩,r⟩:=x
  exact ⟨ho _ d,z,ne,k _ _ (.inl rfl) e,mA,⟨od,es,ep,k _ _ (.inr d) e2,c⟩,r⟩
 | own y=>obtain ⟨ob,e⟩:=x;exact ⟨ob,k _ _ (.inl rfl) e⟩
 | xd fs=>obtain ⟨mA,⟨od,es,ep,e,c⟩,r⟩:=x;exact ⟨mA,⟨od,es,ep,k _ _ (.inl rfl) e,c⟩,r⟩
 | rng lo hi=>obtain ⟨t,u,v,e⟩:=x;exact ⟨t,u,v,k _ _ (.inl rfl) e⟩
 | frz ob u ih=>obtain ⟨e,q⟩:=x;exact ⟨k _ _ (.inl rfl) e,ih q⟩
 | tbl ps =>
  have e:h.get? a=some { cls:=.none,data:=.fields ps }:=x
  show h'.get? a=some { cls:=.none,data:=.fields ps }
  exact k a _ (.inl rfl) e
 | met f y =>
  have e:h.get? a=some (W.methodObj (.ref f) (.ref y)):=x
  show h'.get? a=some (W.methodObj (.ref f) (.ref y))
  exact k a _ (.inl rfl) e
 | ext φ=>obtain ⟨p,⟨o,e⟩,st⟩:=x;exact ⟨st _ _ p λo q=>k _ _ (.inl rfl) q,⟨o,k _ _ (.inl rfl) e⟩,st⟩
theorem HOk.lt (x:HOk P w H h) (e:H a=some o):a<h.objs.size:=(x a o e).lt
theorem HOk.fresh (x:HOk P w H h) (e:h.objs.size≤a):H a=none:=by
 cases q:H a with
 | none=>rfl
 | some u=>exact absurd (Nat.lt_of_lt_of_le (x.lt q) e) (Nat.lt_irrefl _)
theorem HOk.kept (x:HOk P w H h) (k:∀ b u,h.get? b=some u->h'.get? b=some u):HOk P w H h':=λa o e =>
 (x a o e).stay (λb u _ q=>k b u q) (λ_ q=>q) λ_ _ q=>q
theorem HOk.laid (x:HOk P w H h) (k:∀ b u,h.get? b=some u->h'.get? b=some u) (hp:h.objs.size≤a) (new:zcs P w (upd H a o) h' a o):HOk P w (upd H a o) h':=λb u e=>by
 have hn:=x.fresh hp
 by_cases hb:b=a
 ·subst hb;rw [upd_same] at e;cases e;exact new
 ·rw [upd_ne hb] at e
  exact (x b u e).stay (λc v _ q=>k c v q) (λc q=>by rw [upd_ne (ne_of_none q hn)];exact q) λc xs q=>by rw [upd_ne (ne_of_none q hn)];exact q
end
def Rd (H:Hp) (a:Addr) (u:HO):Prop:=H a=some u∨∃ o,H a=some (.frz o u)
theorem Rd.ok {P:Program} {w:World} {H:Hp} {h:Heap} {a:Addr} {u:HO} (r:Rd H a u) (x:HOk P w H h):zcs P w H h a u:=by
 rcases r with r | ⟨o,r⟩
 ·exact x a u r
 ·obtain ⟨_,q⟩:=x a _ r
  exact q
def Mut:Option HO->Prop
 | some (.lst _)=>True
 | some (.dK _)=>True
 | some (.dT _)=>True
 | some (.set _ _)=>True
 | some (.ins _ _ _)=>True
 | some (.ext _)=>True
 | _=>False
section
variable {P:Program} {w:World} {H:Hp} {h h':Heap} {x e:Addr} {o':HO}
theorem HOk.write (ok:HOk P w H h) (mu:Mut (H x)) (he:e=x∨H e=some (.own x)) (k:∀ b u,b≠e->h.get? b=some u->h'.get? b=some u) (heo:∃ u,h'.get? e=some u)
  (new:zcs P w (upd H x o') h' x o'):HOk P w (upd H x o') h':=λb u q=>by
 have nown:∀ c y,H c=some (.own y)->c≠x:=λc y r z=>by subst z;rw [r] at mu;exact mu
 have ntup:∀ c xs,H c=some (.tup xs)->c≠x:=λc xs r z=>by subst z;rw [r] at mu;exact mu
 by_cases hb:b=x
 ·subst hb;rw [upd_same] at q;cases q;exact new
 ·rw [upd_ne hb] at q
  by_cases hbe:b=e
  ·have q':H b=some (.own x):=by
    rcases he with z | z
    ·exact absurd (hbe.trans z) hb
    ·rw [hbe];exact z
   rw [q] at q';cases q'
   obtain ⟨v,hv⟩:=heo
   exact ⟨v,by rw [hbe];exact hv⟩
  ·refine (ok b u q).stay (λc v hc r=>k c v ?_ r) (λc r=>by rw [upd_ne (nown c b r)];exact r) λc xs r=>by rw [upd_ne (ntup c xs r)];exact r
   rcases hc with rfl | hc
   ·exact hbe
   ·rintro rfl
    rcases he with z | z
    ·exact nown c b hc z
    ·rw [hc] at z;cases z;exact hb rfl
end
structure Un (fs ex:List Addr) (H H':Hp) (h h':Heap):Prop where
 keep:∀ b o,h.get? b=some o->H b=none->b ∉ fs->b ∉ ex->h'.get? b=some o
 slot:∀ b o,h.get? b=some o->H b=none->b∈fs->b ∉ ex->∃ sl,h'.get? b=some { o with slots:=sl }
 free:∀ b o,h.get? b=some o->H b=none->b ∉ ex->H' b=none
 there:∀ b o,h.get? b=some o->b ∉ ex->∃ o',h'.get? b=some o'
 tups:∀ b xs,H b=some (.tup xs)->H' b=some (.tup xs)
 frzs:∀ b o u,H b=some (.frz o u)->H' b=some (.frz o u)
 tbls:∀ b ps,H b=some (.tbl ps)->∃ more,H' b=some (.tbl (ps++more))
section
variable {fs fs' ex ex':List Addr} {H H1 H2:Hp} {h h1 h2 h':Heap} {a x e:Addr} {o:HO}
theorem Un.any (u:Un fs ex H H1 h h1) {b:Addr} {ob:Obj} (q:h.get? b=some ob) (n:H b=none) (hx:b ∉ ex):∃ sl,h1.get? b=some { ob with slots:=sl }:=by
 by_cases hb:b∈fs
 ·exact u.slot b ob q n hb hx
 ·exact ⟨ob.slots,u.keep b ob q n hb hx⟩
theorem Un.kept (k:∀ b u,h.get? b=some u->h'.get? b=some u):Un fs ex H H h h' :=
 ⟨λb ob q _ _ _=>k b ob q,λb ob q _ _ _=>⟨ob.slots,k b ob q⟩,λ_ _ _ n _=>n,λb ob q _=>⟨ob,k b ob q⟩,λ_ _ q=>q,λ_ _ _ q=>q,λ_ ps q=>⟨#[],by rw [q];simp⟩⟩
theorem Un.refl:Un fs ex H H h h:=Un.kept λ_ _ q=>q
theorem Un.laid (k:∀ b u,h.get? b=some u->h'.get? b=some u) (hp:h.objs.size≤a) (hn:H a=none):Un fs ex H (upd H a o) h h' where
 keep:=λb u q _ _ _=>k b u q
 slot:=λb u q _ _ _=>⟨u.slots,k b u q⟩
 free:=λb u q n _=>by rw [upd_ne (Nat.ne_of_lt (Nat.lt_of_lt_of_le (Heap.lt_size q) hp))];exact n
 there:=λb u q _=>⟨u,k b u q⟩
 tups:=λb xs q=>by rw [upd_ne (ne_of_none q hn)];exact q
 frzs:=λb u xs q=>by rw [upd_ne (ne_of_none q hn)];exact q
 tbls:=λb ps q=>⟨#[],by rw [upd_ne (ne_of_none q hn),q];simp⟩
theorem Un.write (mu:Mut (H x)) (he:e=x∨H e=some (.own x)) (k:∀ b u,b≠e->h.get? b=some u->h'.get? b=some u) (heo:∃ u,h'.get? e=some u):Un fs ex H (upd H x o) h h':=by
 have hx:∀ b,H b=none->b≠x:=λb n z=>by subst z;rw [n] at mu;exact mu
 have hb:∀ b,H b=none->b≠e:=λb n z=>by
  subst z
  rcases he with r | r
  ·exact hx b n r
  ·rw [n] at r;cases r
 have hm:∀ b u,H b=some u->¬ Mut (some u)->b≠x:=λb u q nm z=>by subst z;rw [q] at mu;exact nm mu
 refine ⟨λb u q n _ _=>k b u (hb b n) q,λb u q n _ _=>⟨u.slots,k b u (hb b n) q⟩,λb u q n _=>by rw [upd_ne (hx b n)];exact n,λb u q _=>?_,
  λb xs q=>by rw [upd_ne (hm b _ q λz=>z)];exact q,λb u xs q=>by rw [upd_ne (hm b _ q λz=>z)];exact q,λb ps q=>⟨#[],by rw [upd_ne (hm b _ q λz=>z),q];simp⟩⟩
 by_cases hbe:b=e
 ·subst hbe;exact heo
 ·exact ⟨u,k b u hbe q⟩
end
def trk (h:Heap) (H:Hp):List Addr:=(List.range h.objs.size).filter λa=>(H a).isSome
def zlU (h:Heap) (H:Hp):Heap:=W.hideAll h (trk h H)
theorem zke (h:Heap) (H:Hp):(zlU h H).objs.size=h.objs.size:=W.hideAll_size _ _
theorem zli {h:Heap} {H:Hp} {b:Addr} {o:Obj} (e:h.get? b=some o) (n:H b=none):(zlU h H).get? b=some o :=
 W.hideAll_get _ e λhm=>by
  have q:(H b).isSome=true:=(List.mem_filter.mp hm).2
  rw [n] at q;simp at q
theorem znE {h:Heap} {H:Hp} {b:Addr} {o:Obj} (e:(zlU h H).get? b=some o):h.get? b=some o∧H b=none:=by
 have e':h.get? b=some o:=W.of_hideAll (trk h H) e
 refine ⟨e',?_⟩
 cases q:H b with
 | none=>rfl
 | some x =>
  have hm:b∈trk h H:=List.mem_filter.mpr ⟨List.mem_range.mpr (Heap.lt_size e'),by simp [q]⟩
  have z:(zlU h H).get? b=none:=W.hideAll_none (trk h H) hm
  rw [z] at e;cases e
def allNews (g h:Heap) (L:Addr):List (Addr×Obj):=(List.range h.objs.size).filterMap λa=>if a=L∨(g.get? a).isSome=true then none else (h.get? a).map λo=>(a,o)
def rest (g h:Heap) (L d:Addr):List (Addr×Obj):=(allNews g h L).filter λp=>decide (p.1≠d)
end L2
namespace L2
open PySem PySem.Spec PyProof.Rows
structure Mod (K:W.Frag) (mg:Str->Option Value) (base:Heap):Prop where
 kin:K.In base
 glob:base.Ns mainGlobals mg
 blt:∃ mb,base.Ns builtinsNs mb∧∀ x:Str,x≠"__name__"->mb x=bootBuiltins x
 nolimit:base.NoLimit
structure Cx where
 prog:Program
 w:World
 K:W.Frag
 mg:Str->Option Value
 base:Heap
 A:Around
 N:List Str
 s₀:Shared
 H₀:Hp
 env:Env
 outer:List Env
 stack:List Env
 ex:List Addr
 fn:Str->Bool
 calm:Bool
 pn:List (Addr×Obj)
 xe:Value->Shared->Prop
def frs (l:List Env):List Addr:=l.filterMap (·.frame)
abbrev Cx.fs (X:Cx):List Addr:=frs X.outer
def Vis (sc:Scope) (x:Str):Prop:=sc.names.lookup x=some .local∨sc.names.lookup x=some .cell∨sc.names.lookup x=some .free
def Loc (sc:Scope) (x:Str):Prop:=sc.names.lookup x=some .local∨sc.names.lookup x=some .cell
def zqf (env:Env) (h:Heap) (m:Str->Option Value) (x:Str) (u:Value):Prop :=
 (env.kindOf x=some .local∧m x=some u)∨((env.kindOf x=some .cell∨env.kindOf x=some .free)∧∃ c,env.cells.lookup x=some c∧h.IsCell c (some u))
structure Cx.Ok (X:Cx):Prop where
 mod:Mod X.K X.mg X.base
 kind:X.env.scope.kind=.function
 glob:X.env.globals=mainGlobals
 blt:X.env.builtins=builtinsNs
 above:X.s₀.heap.objs.size≤X.env.locals
 inj:∀ x y c,X.env.cells.lookup x=some c->X.env.cells.lookup y=some c->x=y
 has:∀ x,(X.env.kindOf x=some .cell∨X.env.kindOf x=some .free)->∃ c,X.env.cells.lookup x=some c
 cab:∀ x c,X.fn x=true->X.env.cells.lookup x=some c->X.s₀.heap.objs.size≤c
 hd:X.calm=true->X.A.handled=none
 frames:X.A.frames=some X.stack
 stk:X.stack=X.outer∨(X.stack=X.env :: X.outer∧X.env.frame=some X.env.locals)
 exf:∀ b∈X.ex,b≠X.env.locals∧∀ x c,X.env.cells.lookup x=some c->c≠b
 bs:∀ b o,X.base.get? b=some o->X.s₀.heap.get? b=some o∧X.H₀ b=none
 bsz:X.base.objs.size≤X.s₀.heap.objs.size
 noex:∀ b o,X.base.get? b=some o->b ∉ X.ex
 exfs:∀ b∈X.ex,b ∉ X.fs
 funs:X.s₀.heap.FunFrames X.base X.outer
 frf:∀ b∈X.fs,X.H₀ b=none
structure Inv (X:Cx) (pins:List (Addr×Obj)) (σ:List (Option V)) (H:Hp) (s:Shared):Prop where
 ok:X.Ok
 os:s.os=X.s₀.os
 bare:AllBare s.gens
 base:Un X.fs X.ex X.H₀ H X.s₀.heap s.heap
 loc:∃ m,s.heap.Ns X.env.locals m∧∀ (i:Nat) (x:Str) (v:V),X.N[i]?=some x->σ[i]?=some (some v)->Vis X.env.scope x->∃ u,RelV v u∧zqf X.env s.heap m x u
 cell:∀ x c,X.env.cells.lookup x=some c->∃ v,s.heap.IsCell c v
 free:H X.env.locals=none
 freeC:∀ x c,X.env.cells.lookup x=some c->H c=none
 pin:∀ p∈X.pn++pins,s.heap.get? p.1=some p.2∧H p.1=none∧p.1≠X.env.locals∧p.1 ∉ X.fs∧∀ v,p.2.data≠.cell v
 hok:HOk X.prog X.w H s.heap
 len:σ.length=X.N.length
section
variable {X:Cx} {pins:List (Addr×Obj)} {σ:List (Option V)} {H H':Hp} {s:Shared} {h':Heap}
theorem Cx.Ok.nofr (ok:X.Ok) {b:Addr} {o:Obj} (e:X.base.get? b=some o):b ∉ X.fs:=λhb=>by
 have:=(ok.funs.mem hb).1
 rw [e] at this;cases this
theorem Inv.bs (I:Inv X pins σ H s):∀ b o,X.base.get? b=some o->s.heap.get? b=some o∧H b=none:=λb o e =>
 ⟨I.base.keep b o (I.ok.bs b o e).1 (I.ok.bs b o e).2 (I.ok.nofr e) (I.ok.noex b o e),I.base.free b o (I.ok.bs b o e).1 (I.ok.bs b o e).2 (I.ok.noex b o e)⟩
theorem Inv.bk (I:Inv X pins σ H s):∀ b o,X.base.get? b=some o->s.heap.get? b=some o:=λb o e=>(I.bs b o e).1
theorem Inv.mod (I:Inv X pins σ H s):Mod X.K X.mg X.base:=I.ok.mod
theorem Inv.kIn (I:Inv X pins σ H s):X.K.In s.heap:=I.ok.mod.kin.keeps I.bk
theorem Inv.nolimit (I:Inv X pins σ H s):s.heap.NoLimit:=I.ok.mod.nolimit.keeps I.bk
theorem Inv.fr (I:Inv X pins σ H s):∃ m,Fr X.base X.env.locals s.heap m :=
 let ⟨m,hn,_⟩:=I.loc
 ⟨m,hn,I.bk,Nat.le_trans I.ok.bsz I.ok.above⟩
theorem Inv.lt (I:Inv X pins σ H s):X.env.locals<s.heap.objs.size:=let ⟨_,hn,_⟩:=I.loc;hn.lt
theorem Inv.sz (I:Inv X pins σ H s):X.s₀.heap.objs.size≤s.heap.objs.size:=Nat.le_trans I.ok.above (Nat.le_of_lt I.lt)
theorem Inv.nofs (I:Inv X pins σ H s) {a:Addr} (h:s.heap.objs.size≤a):a ∉ X.fs:=λhb=>by
 obtain ⟨_,o,ho,_⟩:=I.ok.funs.mem hb
 exact absurd (Nat.lt_of_lt_of_le (Heap.lt_size ho) (Nat.le_trans I.sz h)) (Nat.lt_irrefl _)
theorem Inv.cne (I:Inv X pins σ H s):∀ x c,X.env.cells.lookup x=some c->c≠X.env.locals:=λx c e z=>by
 obtain ⟨v,o,ho,hd⟩:=I.cell x c e
 obtain ⟨m,⟨o',es,ep,ho',hd',_⟩,_⟩:=I.loc
 rw [z,ho'] at ho;cases ho;rw [hd'] at hd;cases hd
theorem Inv.funs (I:Inv X pins σ H s):s.heap.FunFrames X.base X.outer:=by
 have all:∀ (l:List Env),(∀ b∈frs l,b∈X.fs)->X.s₀.heap.FunFrames X.base l->s.heap.FunFrames X.base l:=by
  intro l
  induction l with
  | nil=>intro _ _;trivial
  | cons env r ih =>
   intro hs hl
   obtain ⟨hk,⟨L,o,hf,hn,ho,hd⟩,hr⟩:=hl
   have hL:L∈X.fs:=hs L (by unfold frs;rw [List.filterMap_cons,hf];exact List.mem_cons_self)
   obtain ⟨sl,e⟩:=I.base.slot L o ho (I.ok.frf L hL) hL λz=>I.ok.exfs L z hL
   exact ⟨hk,⟨L,_,hf,hn,e,hd⟩,ih (λb hb=>hs b (by unfold frs;rw [List.filterMap_cons,hf];exact List.mem_cons_of_mem _ hb)) hr⟩
 exact all X.outer (λ_ hb=>hb) I.ok.funs
theorem Inv.stack (I:Inv X pins σ H s):s.heap.FunFrames X.base X.stack:=by
 rcases I.ok.stk with e | ⟨e,hf⟩
 ·rw [e];exact I.funs
 ·rw [e]
  obtain ⟨m,hn,_⟩:=I.loc
  refine .cons (by rw [I.ok.kind];decide) hf hn ?_ I.funs
  exact Heap.get?_none_of_le (Nat.le_trans I.ok.bsz I.ok.above)
theorem Inv.stkSub (I:Inv X pins σ H s):∀ b∈frs X.stack,b∈X.env.locals :: X.fs:=λb hb=>by
 rcases I.ok.stk with e | ⟨e,hf⟩
 ·rw [e] at hb;exact List.mem_cons_of_mem _ hb
 ·rw [e] at hb
  unfold frs at hb
  rw [List.filterMap_cons,hf] at hb
  exact hb
theorem Inv.stkFree (I:Inv X pins σ H s):∀ b∈frs X.stack,H b=none:=λb hb=>by
 rcases List.mem_cons.mp (I.stkSub b hb) with e | hb
 ·rw [e];exact I.free
 ·obtain ⟨_,o,ho,_⟩:=I.ok.funs.mem hb
  exact I.base.free b o ho (I.ok.frf b hb) λz=>I.ok.exfs b z hb
theorem Inv.step {g':Array GenState} {t':Nat} {d':Drawn} {ch:List Addr} (I:Inv X pins σ H s)
  (hch:∀ b∈ch,(b∈X.ex∨X.s₀.heap.objs.size≤b)∧b≠X.env.locals∧(∀ x c,X.env.cells.lookup x=some c->c≠b)∧∀ p∈X.pn++pins,p.1≠b)
  (keep:∀ b o,b≠X.env.locals->b ∉ X.fs->b ∉ ch->s.heap.get? b=some o->H b=none->h'.get? b=some o)
  (slot:∀ b o,b≠X.env.locals->b∈X.fs->b ∉ ch->s.heap.get? b=some o->H b=none->∃ sl,h'.get? b=some { o with slots:=sl }) (free:∀ b o,b ∉ ch->s.heap.get? b=some o->H b=none->H' b=none)
  (there:∀ b o,b ∉ ch->s.heap.get? b=some o->∃ o',h'.get? b=some o')
  (tups:∀ b xs,H b=some (.tup xs)->H' b=some (.tup xs)) (frzs:∀ b o u,H b=some (.frz o u)->H' b=some (.frz o u)) (tbls:∀ b ps,H b=some (.tbl ps)->∃ more,H' b=some (.tbl (ps++more)))
  (ns:∀ m,s.heap.Ns X.env.locals m->h'.Ns X.env.locals m) (hok:HOk X.prog X.w H' h') (hg:AllBare g') :
  Inv X pins σ H' { s with heap:=h',gens:=g',drawn:=d',toks:=t' }:=by
 have neL:∀ b o,X.s₀.heap.get? b=some o->b≠X.env.locals:=λb o e=>Nat.ne_of_lt (Nat.lt_of_lt_of_le (Heap.lt_size e) I.ok.above)
 have neC:∀ b o,X.s₀.heap.get? b=some o->b ∉ X.ex->b ∉ ch:=λb o e hx hb=>by
  rcases (hch b hb).1 with z | z
  ·exact hx z
  ·exact absurd (Nat.lt_of_lt_of_le (Heap.lt_size e) z) (Nat.lt_irrefl _)
 have cellK:∀ x c,X.env.cells.lookup x=some c->∀ v,s.heap.IsCell c v->h'.IsCell c v:=λx c e v ⟨o,ho,hd⟩=>by
  have nch:c ∉ ch:=λz=>(hch c z).2.2.1 x c e rfl
  by_cases hc:c∈X.fs
  ·obtain ⟨sl,q⟩:=slot c o (I.cne x c e) hc nch ho (I.freeC x c e)
   exact ⟨_,q,hd⟩
  ·exact ⟨o,keep c o (I.cne x c e) hc nch ho (I.freeC x c e),hd⟩
 refine ⟨I.ok,I.os,hg,⟨λb o e n hb hx=>?_,λb o e n hb hx=>?_,λb o e n hx=>?_,λb o e hx=>?_,λb xs e=>tups b xs (I.base.tups b xs e),λb o xs e=>frzs b o xs (I.base.frzs b o xs e),λb ps e=>?_⟩,?_,λx c e=>?_,?_,λx c e=>?_,λp hp=>?_,hok,I.len⟩
 ·exact keep b o (neL b o e) hb (neC b o e hx) (I.base.keep b o e n hb hx) (I.base.free b o e n hx)
 ·obtain ⟨sl,e1⟩:=I.base.slot b o e n hb hx
  obtain ⟨sl',e2⟩:=slot b _ (neL b o e) hb (neC b o e hx) e1 (I.base.free b o e n hx)
  exact ⟨sl',e2⟩
 ·obtain ⟨o',e1⟩:=I.base.there b o e hx
  exact free b o' (neC b o e hx) e1 (I.base.free b o e n hx)
 ·obtain ⟨o',e1⟩:=I.base.there b o e hx
  exact there b o' (neC b o e hx) e1
 ·obtain ⟨m1,e1⟩:=I.base.tbls b ps e
  obtain ⟨m2,e2⟩:=tbls b _ e1
  exact ⟨m1++m2,by rw [e2,Array.append_assoc]⟩
 ·obtain ⟨m,hn,hl⟩:=I.loc
  refine ⟨m,ns m hn,λi x v e1 e2 e3=>?_⟩
  obtain ⟨u,r,l⟩:=hl i x v e1 e2 e3
  refine ⟨u,r,?_⟩
  rcases l with l | ⟨k,c,e,z⟩
  ·exact .inl l
  ·exact .inr ⟨k,c,e,cellK x c e _ z⟩
 ·obtain ⟨v,z⟩:=I.cell x c e
  exact ⟨v,cellK x c e v z⟩
 ·obtain ⟨m,⟨o,_,_,ho,_⟩,_⟩:=I.loc
  exact free _ o (λz=>(hch _ z).2.1 rfl) ho I.free
 ·obtain ⟨v,o,ho,hd⟩:=I.cell x c e
  exact free c o (λz=>(hch c z).2.2.1 x c e rfl) ho (I.freeC x c e)
 ·obtain ⟨e,n,ne,nf,d⟩:=I.pin p hp
  have nch:p.1 ∉ ch:=λz=>(hch p.1 z).2.2.2 p hp rfl
  exact ⟨keep p.1 p.2 ne nf nch e n,free p.1 p.2 nch e n,ne,nf,d⟩
theorem Inv.un {t':Nat} (I:Inv X pins σ H s) (u:Un X.fs [] H H' s.heap h') (hok:HOk X.prog X.w H' h'):Inv X pins σ H' { s with heap:=h',toks:=t' }:=by
 obtain ⟨m,⟨o,es,ep,ho,r⟩,_⟩:=id I.loc
 obtain ⟨sl,hL⟩:=u.any ho I.free (by simp)
 exact I.step (g':=s.gens) (d':=s.drawn) (ch:=[]) (λ_ z=>nomatch z) (λb o _ hb _ e n=>u.keep b o e n hb (by simp)) (λb o _ hb _ e n=>u.slot b o e n hb (by simp)) (λb o _ e n=>u.free b o e n (by simp)) (λb o _ e=>u.there b o e (by simp)) u.tups u.frzs u.tbls (λm' hm=>by
  obtain ⟨o',es',ep',ho',r'⟩:=hm
  rw [ho] at ho';cases ho'
  exact ⟨_,es',ep',hL,r'⟩) hok I.bare
theorem Inv.call {g':Array GenState} {t':Nat} {d':Drawn} {ch:List Addr} (I:Inv X pins σ H s) (u:Un (frs X.stack) ch H H' s.heap h') (hok:HOk X.prog X.w H' h') (hg:AllBare g')
  (hch:∀ b∈ch,(b∈X.ex∨X.s₀.heap.objs.size≤b)∧b≠X.env.locals∧(∀ x c,X.env.cells.lookup x=some c->c≠b)∧∀ p∈X.pn++pins,p.1≠b) :
  Inv X pins σ H' { s with heap:=h',gens:=g',drawn:=d',toks:=t' }:=by
 obtain ⟨m,⟨o,es,ep,ho,r⟩,_⟩:=id I.loc
 obtain ⟨sl,hL⟩:=u.any ho I.free λz=>(hch _ z).2.1 rfl
 exact I.step (ch:=ch) hch (λb o hL hb hc e n=>u.keep b o e n (λz=>(List.mem_cons.mp (I.stkSub b z)).elim hL hb) hc) (λb o _ _ hc e n=>u.any e n hc) (λb o hc e n=>u.free b o e n hc) (λb o hc e=>u.there b o e hc) u.tups u.frzs u.tbls (λm' hm=>by
  obtain ⟨o',es',ep',ho',r'⟩:=hm
  rw [ho] at ho';cases ho'
  exact ⟨_,es',ep',hL,r'⟩) hok hg
theorem Inv.turned {t':Nat} {it:Addr} (I:Inv X pins σ H s) (k:∀ b o,b≠it->s.heap.get? b=some o->h'.get? b=some o) (hn:H it=none) (hL:it≠X.env.locals)
  (h1:it∈X.ex∨X.s₀.heap.objs.size≤it) (h2:∀ x c,X.env.cells.lookup x=some c->c≠it) (h3:∀ p∈X.pn++pins,p.1≠it):Inv X pins σ H { s with heap:=h',toks:=t' }:=by
 have nit:∀ b u,H b=some u->b≠it:=λb u e z=>by rw [z,hn] at e;cases e
 refine I.step (g':=s.gens) (d':=s.drawn) (ch:=[it]) (λb hb=>?_) (λb o _ _ hc e _=>k b o (λz=>hc (by simp [z])) e) (λb o _ _ hc e _=>⟨o.slots,k b o (λz=>hc (by simp [z])) e⟩) (λ_ _ _ _ n=>n)
  (λb o hc e=>⟨o,k b o (λz=>hc (by simp [z])) e⟩) (λ_ _ e=>e) (λ_ _ _ e=>e) (λb ps e=>⟨#[],by rw [e];simp⟩) (λm hm=>?_) (λb u e=>?_) I.bare
 ·have e:b=it:=by simpa using hb
  subst e
  exact ⟨h1,hL,h2,h3⟩
 ·obtain ⟨o,es,ep,ho,r⟩:=hm
  exact ⟨o,es,ep,k _ o (Ne.symm hL) ho,r⟩
 ·refine (I.hok b u e).stay (λc v hc q=>k c v ?_ q) (λ_ q=>q) λ_ _ q=>q
  rcases hc with z | z
  ·rw [z];exact nit b u e
  ·exact nit c _ z
theorem Inv.tok (I:Inv X pins σ H s) (t:Nat):Inv X pins σ H { s with toks:=t }:=I.un (h':=s.heap) (t':=t) Un.refl I.hok
theorem Inv.kept {t':Nat} (I:Inv X pins σ H s) (k:∀ b u,s.heap.get? b=some u->h'.get? b=some u):Inv X pins σ H { s with heap:=h',toks:=t' }:=I.un (Un.kept k) (I.hok.kept k)
theorem Inv.laid {a:Addr} {o:HO} {t':Nat} (I:Inv X pins σ H s) (k:∀ b u,s.heap.get? b=some u->h'.get? b=some u) (hp:s.heap.objs.size≤a) (new:zcs X.prog X.w (upd H a o) h' a o) :
  Inv X pins σ (upd H a o) { s with heap:=h',toks:=t' }:=I.un (Un.laid k hp (I.hok.fresh hp)) (I.hok.laid k hp new)
theorem Inv.write {x e:Addr} {o:HO} {t':Nat} (I:Inv X pins σ H s) (mu:Mut (H x)) (he:e=x∨H e=some (.own x)) (k:∀ b u,b≠e->s.heap.get? b=some u->h'.get? b=some u) (heo:∃ u,h'.get? e=some u)
  (new:zcs X.prog X.w (upd H x o) h' x o):Inv X pins σ (upd H x o) { s with heap:=h',toks:=t' }:=I.un (Un.write mu he k heo) (I.hok.write mu he k heo new)
theorem Inv.pins_of {pins':List (Addr×Obj)} (I:Inv X pins σ H s) (h:∀ p∈pins',s.heap.get? p.1=some p.2∧H p.1=none∧p.1≠X.env.locals∧p.1 ∉ X.fs∧∀ v,p.2.data≠.cell v):Inv X pins' σ H s :=
 ⟨I.ok,I.os,I.bare,I.base,I.loc,I.cell,I.free,I.freeC,λp hp=>(List.mem_append.mp hp).elim (λz=>I.pin p (List.mem_append_left _ z)) (h p),I.hok,I.len⟩
theorem nodup_ix {N:List Str} (hN:N.Nodup) {i j:Nat} {x:Str} (a:N[i]?=some x) (b:N[j]?=some x):i=j:=by
 obtain ⟨h1,e1⟩:=List.getElem?_eq_some_iff.mp a
 obtain ⟨h2,e2⟩:=List.getElem?_eq_some_iff.mp b
 exact (List.getElem_inj hN).mp (e1.trans e2.symm)
theorem zhc {M:Model} {A:Around} {E:Value->Shared->Prop} {i:Nat} {x:Str} {v:V} {u:Value} {Q:Unit->Shared->Prop} (I:Inv X pins σ H s) (hN:X.N.Nodup) (hi:X.N[i]?=some x) (hx:Loc X.env.scope x) (r:RelV v u)
  (h:∀ s',Inv X pins (σ.set i (some v)) H s'->(∃ a,Heap.SameBut a s.heap s'.heap∧(a=X.env.locals∨X.env.cells.lookup x=some a))->Q () s') (hf:X.fn x=true∨X.env.scope.names.lookup x=some .local:=by first | exact .inl rfl | exact .inr rfl | assumption):wpAny M A (storeName X.env x u) Q E s:=by
 obtain ⟨m,hn,hl⟩:=id I.loc
 have hcls:(X.env.scope.kind == .class||(X.env.scope.kind == .module&&X.env.locals != X.env.globals))=false:=by rw [I.ok.kind];rfl
 have hiσ:i<σ.length:=by rw [I.len];exact (List.getElem?_eq_some_iff.mp hi).1
 have cne:=I.cne
 have tracked:∀ {a:Addr} {h':Heap},(∃ o,s.heap.get? a=some o∧H a=none)->Heap.SameBut a s.heap h'->HOk X.prog X.w H h':=λ{a h'} ha hs b ob e=>by
  obtain ⟨_,_,hfree⟩:=ha
  refine (I.hok b ob e).stay (λc w' hc q=>(hs.2 c ?_).trans q) (λ_ q=>q) λ_ _ q=>q
  rintro rfl
  rcases hc with rfl | hc
  ·rw [hfree] at e;cases e
  ·rw [hfree] at hc;cases hc
 rcases hx with hk | hk
 ·refine wpAny_storeName_local hk hn (λh' hn' hs=>?_) hcls
  obtain ⟨oL,_,_,hoL,_⟩:=id hn
  refine h _ ⟨I.ok,I.os,I.bare,⟨λb o e n hb hx=>?_,λb o e n hb hx=>?_,I.base.free,λb o e hx=>?_,I.base.tups,I.base.frzs,I.base.tbls⟩,⟨_,hn',λj y v' e1 e2 e3=>?_⟩,λy c e=>?_,I.free,I.freeC,λp hp=>?_,tracked ⟨oL,hoL,I.free⟩ hs,by simpa using I.len⟩ ⟨_,hs,.inl rfl⟩
  ·exact (hs.2 b (Nat.ne_of_lt (Nat.lt_of_lt_of_le (Heap.lt_size e) I.ok.above))).trans (I.base.keep b o e n hb hx)
  ·obtain ⟨sl,e1⟩:=I.base.slot b o e n hb hx
   exact ⟨sl,(hs.2 b (Nat.ne_of_lt (Nat.lt_of_lt_of_le (Heap.lt_size e) I.ok.above))).trans e1⟩
  ·obtain ⟨o',e1⟩:=I.base.there b o e hx
   exact ⟨o',(hs.2 b (Nat.ne_of_lt (Nat.lt_of_lt_of_le (Heap.lt_size e) I.ok.above))).trans e1⟩
  ·by_cases hj:j=i
   ·subst hj
    rw [hi] at e1;cases e1
    rw [List.getElem?_set_self hiσ] at e2
    cases e2
    exact ⟨u,r,.inl ⟨hk,by simp⟩⟩
   ·rw [List.getElem?_set_ne (Ne.symm hj)] at e2
    obtain ⟨u',r',q⟩:=hl j y v' e1 e2 e3
    refine ⟨u',r',?_⟩
    rcases q with ⟨k,e⟩ | ⟨k,c,e,z⟩
    ·refine .inl ⟨k,?_⟩
     have:y≠x:=λe=>hj (nodup_ix hN e1 (e ▸ hi))
     simp [this,e]
    ·exact .inr ⟨k,c,e,z.sameBut hs (cne y c e)⟩
  ·obtain ⟨w',z⟩:=I.cell y c e
   exact ⟨w',z.sameBut hs (cne y c e)⟩
  ·obtain ⟨e,n,ne,nf,d⟩:=I.pin p hp
   exact ⟨(hs.2 p.1 ne).trans e,n,ne,nf,d⟩
 ·have hfn:X.fn x=true:=by
   rcases hf with z | z
   ·exact z
   ·rw [z] at hk;cases hk
  obtain ⟨c,hc⟩:=I.ok.has x (.inl hk)
  obtain ⟨w',z⟩:=I.cell x c hc
  refine wpAny_storeName_cell I.ok.kind hk hc z (λh' hc' hs=>?_)
  obtain ⟨oc,hoc,hocd⟩:=id z
  refine h { s with heap:=h' } ⟨I.ok,I.os,I.bare,⟨λb o e n hb hx=>?_,λb o e n hb hx=>?_,I.base.free,λb o e hx=>?_,I.base.tups,I.base.frzs,I.base.tbls⟩,⟨m,hn.sameBut hs (Ne.symm (cne x c hc)),λj y v' e1 e2 e3=>?_⟩,λy c' e=>?_,I.free,I.freeC,λp hp=>?_,tracked ⟨oc,hoc,I.freeC x c hc⟩ hs,by simpa using I.len⟩ ⟨c,hs,.inr hc⟩
  ·exact (hs.2 b (Nat.ne_of_lt (Nat.lt_of_lt_of_le (Heap.lt_size e) (I.ok.cab x c hfn hc)))).trans (I.base.keep b o e n hb hx)
  ·obtain ⟨sl,e1⟩:=I.base.slot b o e n hb hx
   exact ⟨sl,(hs.2 b (Nat.ne_of_lt (Nat.lt_of_lt_of_le (Heap.lt_size e) (I.ok.cab x c hfn hc)))).trans e1⟩
  ·obtain ⟨o',e1⟩:=I.base.there b o e hx
   exact ⟨o',(hs.2 b (Nat.ne_of_lt (Nat.lt_of_lt_of_le (Heap.lt_size e) (I.ok.cab x c hfn hc)))).trans e1⟩
  ·by_cases hj:j=i
   ·subst hj
    rw [hi] at e1;cases e1
    rw [List.getElem?_set_self hiσ] at e2
    cases e2
    exact ⟨u,r,.inr ⟨.inl hk,c,hc,hc'⟩⟩
   ·rw [List.getElem?_set_ne (Ne.symm hj)] at e2
    obtain ⟨u',r',q⟩:=hl j y v' e1 e2 e3
    refine ⟨u',r',?_⟩
    rcases q with q | ⟨k,c',e,z'⟩
    ·exact .inl q
    ·refine .inr ⟨k,c',e,z'.sameBut hs ?_⟩
     rintro rfl
     exact hj (nodup_ix hN e1 (I.ok.inj _ _ _ e hc ▸ hi))
  ·by_cases hcc:c'=c
   ·subst hcc;exact ⟨_,hc'⟩
   ·obtain ⟨w2,z2⟩:=I.cell y c' e
    exact ⟨w2,z2.sameBut hs hcc⟩
  ·obtain ⟨e,n,ne,nf,d⟩:=I.pin p hp
   refine ⟨(hs.2 p.1 ?_).trans e,n,ne,nf,d⟩
   intro q
   rw [q,hoc] at e
   have q':oc=p.2:=Option.some.inj e
   exact d w' (by rw [← q'];exact hocd)
theorem store_ok {M:Model} {A:Around} {E:Value->Shared->Prop} {i:Nat} {x:Str} {v:V} {u:Value} {Q:Unit->Shared->Prop} (I:Inv X pins σ H s) (hN:X.N.Nodup) (hi:X.N[i]?=some x) (hx:Loc X.env.scope x) (r:RelV v u)
  (h:∀ s',Inv X pins (σ.set i (some v)) H s'->Q () s') (hf:X.fn x=true∨X.env.scope.names.lookup x=some .local:=by first | exact .inl rfl | exact .inr rfl | assumption):wpAny M A (storeName X.env x u) Q E s :=
 zhc I hN hi hx r (λs' I' _=>h s' I') hf
theorem Inv.call' {s':Shared} {ch:List Addr} (I:Inv X pins σ H s) (ho:s'.os=s.os) (u:Un (frs X.stack) ch H H' s.heap s'.heap) (hok:HOk X.prog X.w H' s'.heap) (hg:AllBare s'.gens)
  (hch:∀ b∈ch,(b∈X.ex∨X.s₀.heap.objs.size≤b)∧b≠X.env.locals∧(∀ x c,X.env.cells.lookup x=some c->c≠b)∧∀ p∈X.pn++pins,p.1≠b):Inv X pins σ H' s':=by
 obtain ⟨h',g',d',t',o'⟩:=s'
 have e:o'=s.os:=ho
 subst e
 exact I.call (g':=g') (t':=t') (d':=d') u hok hg hch
end
abbrev XK:=Value->Option Addr->Hp->Prop
abbrev St:=List (Option V)
abbrev VK:=V->Hp->Prop
abbrev TE:=St->Hp->VK->Prop
abbrev TT:=St->Hp->(Bool->Hp->Prop)->Prop
abbrev TA:=St->Hp->(List V->Hp->Prop)->Prop
structure Ends where
 nx:St->Hp->Prop
 rt:VK
 bk:St->Hp->Prop:=λ_ _=>False
 ct:St->Hp->Prop:=λ_ _=>False
abbrev TS:=Ends->St->Hp->Prop
def EP (X:Cx) (pins:List (Addr×Obj)) (σ:St) (Q:VK) (u:Value) (s':Shared):Prop:=∃ v H',Inv X pins σ H' s'∧RelV v u∧Q v H'
def TP (X:Cx) (pins:List (Addr×Obj)) (σ:St) (Q:Bool->Hp->Prop) (b:Bool) (s':Shared):Prop:=∃ H',Inv X pins σ H' s'∧Q b H'
def AP (X:Cx) (pins:List (Addr×Obj)) (σ:St) (Q:List V->Hp->Prop) (us:List Value) (s':Shared):Prop:=∃ vs H',Inv X pins σ H' s'∧Vals vs us∧Q vs H'
def SP (X:Cx) (pins:List (Addr×Obj)) (D:Ends) (f:Flow) (s':Shared):Prop :=
 match f with
 | .next=>∃ σ' H',Inv X pins σ' H' s'∧D.nx σ' H'
 | .brk=>∃ σ' H',Inv X pins σ' H' s'∧D.bk σ' H'
 | .cont=>∃ σ' H',Inv X pins σ' H' s'∧D.ct σ' H'
 | .ret u=>∃ v σ' H',Inv X pins σ' H' s'∧RelV v u∧D.rt v H'
def PE (X:Cx) (e:Expr) (t:TE):Prop :=
 ∀ (pins:List (Addr×Obj)) (s:Shared) (σ:St) (H:Hp) (Q:VK),Inv X pins σ H s->t σ H Q->wpAny (model X.prog X.w) X.A (eval e X.env) (EP X pins σ Q) X.xe s
def PT (X:Cx) (e:Expr) (t:TT):Prop :=
 ∀ (pins:List (Addr×Obj)) (s:Shared) (σ:St) (H:Hp) (Q:Bool->Hp->Prop),Inv X pins σ H s->t σ H Q->wpAny (model X.prog X.w) X.A (isTrue e X.env (eval e X.env)) (TP X pins σ Q) X.xe s
def PW (X:Cx) (e:Expr) (t:TT):Prop :=
 ∀ (whole:Sem Value) (pins:List (Addr×Obj)) (s:Shared) (σ:St) (H:Hp) (Q:Bool->Hp->Prop),Inv X pins σ H s->t σ H Q->wpAny (model X.prog X.w) X.A (isTrue e X.env whole) (TP X pins σ Q) X.xe s
theorem PW.pt {X:Cx} {e:Expr} {t:TT} (h:PW X e t):PT X e t:=h _
def PA (X:Cx) (es:List Expr) (t:TA):Prop :=
 ∀ (pos:Pos) (pins:List (Addr×Obj)) (s:Shared) (σ:St) (H:Hp) (Q:List V->Hp->Prop),Inv X pins σ H s->t σ H Q->wpAny (model X.prog X.w) X.A (spliced (backTo pos (starEach es X.env))) (AP X pins σ Q) X.xe s
def PS (X:Cx) (st:Stmt) (t:TS):Prop :=
 ∀ (pins:List (Addr×Obj)) (s:Shared) (σ:St) (H:Hp) (D:Ends),Inv X pins σ H s->t D σ H->wpAny (model X.prog X.w) X.A (exec st X.env) (SP X pins D) X.xe s
def PSs (X:Cx) (st:List Stmt) (t:TS):Prop :=
 ∀ (pins:List (Addr×Obj)) (s:Shared) (σ:St) (H:Hp) (D:Ends),Inv X pins σ H s->t D σ H->wpAny (model X.prog X.w) X.A (execs st X.env) (SP X pins D) X.xe s
theorem thn {α:Type} {t:Sem α} {Q Q':α->Shared->Prop} {M:Model} {A:Around} {E:Value->Shared->Prop} {s:Shared} (h:wpAny M A t Q E s) (hQ:∀ a s,Q a s->Q' a s):wpAny M A t Q' E s:=wpAny_mono h hQ λ_ _ x=>x
end L2
namespace L2
open PySem PySem.Spec PyProof.Rows
section
variable {X:Cx}
theorem bin {a b:Expr} {ta tb:TE} (ha:PE X a ta) (hb:PE X b tb) {pins:List (Addr×Obj)} {s:Shared} {σ:St} {H:Hp} {R:V->V->Hp->Prop} (I:Inv X pins σ H s) (h:ta σ H λx H1=>tb σ H1 λy H2=>R x y H2)
  {α:Type} {Q:α->Shared->Prop} {f:Value->Value->Sem α}
  (hf:∀ v u s2 x y H2,Inv X pins σ H2 s2->RelV x v->RelV y u->R x y H2->wpAny (model X.prog X.w) X.A (f v u) Q X.xe s2) :
  wpAny (model X.prog X.w) X.A (eval a X.env) (λv s₁=>wpAny (model X.prog X.w) X.A (eval b X.env) (λu s₂=>wpAny (model X.prog X.w) X.A (f v u) Q X.xe s₂) X.xe s₁) X.xe s:=by
 refine thn (ha pins s σ H _ I h) λv s1 ⟨x,H1,I1,r1,q1⟩=>?_
 refine thn (hb pins s1 σ H1 _ I1 q1) λu s2 ⟨y,H2,I2,r2,q2⟩=>?_
 exact hf v u s2 x y H2 I2 r1 r2 q2
def tVar (i:Nat):TE:=λσ H Q=>∃ v,σ[i]?=some (some v)∧Q v H
def tC (v:V):TE:=λ_ H Q=>Q v H
theorem pe_var {i:Nat} {x:Str} {pos:Pos} (hN:X.N[i]?=some x) (hv:Vis X.env.scope x) (hd:(x == ("__debug__":Str))=false:=by decide) (hcd:(x == ("__classdict__":Str))=false:=by decide):PE X (.Name x pos) (tVar i):=by
 intro pins s σ H Q I h
 obtain ⟨v,e,h⟩:=h
 obtain ⟨m,hn,hl⟩:=I.loc
 obtain ⟨u,r,l⟩:=hl i x v hN e hv
 have fin:EP X pins σ Q u s:=⟨v,H,I,r,h⟩
 rcases l with ⟨hk,hm⟩ | ⟨hk,c,hc,hcell⟩
 ·exact wpAny_Name (wpAny_loadName_local I.ok.kind hk hn hm fin) hd
 ·rcases hk with hk | hk
  ·exact wpAny_Name (wpAny_loadName_cell I.ok.kind hk hc hcell fin) hd
  ·exact wpAny_Name (wpAny_loadName_free I.ok.kind hk hc hcell fin hcd) hd
theorem zaf {i j pos}:PE X (.Constant (.int i) j pos) (tC (.int i)):=λ_ _ _ H _ I h=>wpAny_Constant_int ⟨.int i,H,I.tok _,⟨_,rfl⟩,h⟩
theorem zgY {b j pos}:PE X (.Constant (.bool b) j pos) (tC (.bl b)):=λ_ _ _ H _ I h=>Constant_bool ⟨.bl b,H,I,rfl,h⟩
theorem zer {j pos}:PE X (.Constant .none j pos) (tC .non):=λ_ _ _ H _ I h=>Constant_none ⟨.non,H,I,rfl,h⟩
theorem zby {x j pos}:PE X (.Constant (.str x) j pos) (tC (.str x)):=λ_ _ _ H _ I h=>Calls.Constant_str ⟨.str x,H,I.tok _,⟨_,rfl⟩,h⟩
def Gl (X:Cx) (x:Str):Prop:=X.env.kindOf x=some .globalImplicit
theorem ld_glob {E:Value->Shared->Prop} {pins:List (Addr×Obj)} {s:Shared} {σ:St} {H:Hp} {x:Str} {u:Value} {pos:Pos} {Q:Value->Shared->Prop} (I:Inv X pins σ H s) (hg:Gl X x) (hm:X.mg x=some u) (h:Q u s)
  (hd:(x == ("__debug__":Str))=false:=by decide):wpAny (model X.prog X.w) X.A (eval (.Name x pos) X.env) Q E s :=
 Calls.Name_function_global I.ok.kind hg (Calls.loadGlobal_global (by rw [I.ok.glob];exact I.mod.glob.keeps I.bk) hm h) hd
theorem ld_blt {E:Value->Shared->Prop} {pins:List (Addr×Obj)} {s:Shared} {σ:St} {H:Hp} {x:Str} {u:Value} {pos:Pos} {Q:Value->Shared->Prop} (I:Inv X pins σ H s) (hg:Gl X x) (hm:X.mg x=none) (hv:bootBuiltins x=some u) (h:Q u s)
  (hn:x≠"__name__":=by decide) (hd:(x == ("__debug__":Str))=false:=by decide):wpAny (model X.prog X.w) X.A (eval (.Name x pos) X.env) Q E s:=by
 obtain ⟨mb,h1,h2⟩:=I.mod.blt
 exact Calls.Name_function_global I.ok.kind hg (Calls.loadGlobal_builtin (by rw [I.ok.glob];exact I.mod.glob.keeps I.bk) hm (by rw [I.ok.blt];exact h1.keeps I.bk) ((h2 x hn).trans hv) h) hd
theorem pe_glob {x:Str} {v:V} {u:Value} {pos:Pos} (hg:Gl X x) (hm:X.mg x=some u) (r:RelV v u) (hd:(x == ("__debug__":Str))=false:=by decide):PE X (.Name x pos) (tC v) :=
 λ_ _ _ H _ I h=>ld_glob I hg hm ⟨v,H,I,r,h⟩ hd
theorem pe_bltn {x:Str} {v:V} {u:Value} {pos:Pos} (hg:Gl X x) (hm:X.mg x=none) (hv:bootBuiltins x=some u) (r:RelV v u) (hn:x≠"__name__":=by decide) (hd:(x == ("__debug__":Str))=false:=by decide):PE X (.Name x pos) (tC v) :=
 λ_ _ _ H _ I h=>ld_blt I hg hm hv ⟨v,H,I,r,h⟩ hn hd
variable {a b:Expr} {ta tb:TE} {pos:Pos}
def PC (X:Cx) (op:CmpOp) (a b:Expr) (t:TE):Prop :=
 ∀ (pins:List (Addr×Obj)) (s:Shared) (σ:St) (H:Hp) (Q:VK),Inv X pins σ H s->t σ H Q →
  wpAny (model X.prog X.w) X.A (eval a X.env) (λv s₁=>wpAny (model X.prog X.w) X.A (eval b X.env) (λu s₂=>wpAny (model X.prog X.w) X.A (compareOp op v u) (EP X pins σ Q) X.xe s₂) X.xe s₁) X.xe s
theorem zl4 (b:Expr) {op:CmpOp} (h:op≠.In) (h2:op≠.NotIn):behindInMarks op b=false:=by
 have e1:(op == CmpOp.In)=false:=by cases op<;>first | rfl | exact absurd rfl h
 have e2:(op == CmpOp.NotIn)=false:=by cases op<;>first | rfl | exact absurd rfl h2
 cases b<;>simp [behindInMarks,e1,e2]
def tB (t:TE):TT:=λσ H Q=>t σ H λx H1=>∃ c,x=.bl c∧Q c H1
theorem zqd {op:CmpOp} {t:TE} (h:PC X op a b t) (h1:behindInMarks op b=false:=by first | exact zl4 _ (by decide) (by decide) | rfl):PT X (.Compare a [op] [b] pos) (tB t):=by
 intro pins s σ H Q I hw
 refine wpAny_isTrue_Compare1 (thn (h pins s σ H _ I hw) λv s1 h1=>thn h1 λu s2 h2=>thn h2 λc s3 ⟨x,H1,I1,r1,q1⟩=>?_) h1
 obtain ⟨d,rfl,q⟩:=q1
 cases r1
 exact wpAny_truthy_bool ⟨H1,I1,q⟩
theorem pt_val {e:Expr} {t:TE} (h:PE X e t) (he:∀ whole,isTrue e X.env whole=(do let v ← whole;standAt e.pos;holding [v] (truthy v)):=by intro _;rfl):PT X e (tB t):=by
 intro pins s σ H Q I hw
 refine isTrue_plain (thn (h pins s σ H _ I hw) λv s1 ⟨x,H1,I1,r1,q1⟩=>?_) (he _)
 obtain ⟨d,rfl,q⟩:=q1
 cases r1
 exact wpAny_truthy_bool ⟨H1,I1,q⟩
variable {tA tB':TT} {rest:List Expr}
def zqm (t u:TT):TT:=λσ H Q=>t σ H λc H1=>if c=true then u σ H1 Q else Q false H1
def tOr (t u:TT):TT:=λσ H Q=>t σ H λc H1=>if c=true then Q true H1 else u σ H1 Q
def zqj (t:TT):TT:=λσ H Q=>t σ H λc H1=>Q (!c) H1
theorem zkS (ha:PT X a tA):PW X (.BoolOp .And [a] pos) tA:=by
 intro wh pins s σ H Q I h
 refine isTrue_and (thn (ha pins s σ H Q I h) λc s1 e=>?_)
 cases c with
 | true=>exact isTrue_and_nil e
 | false=>exact e
theorem pw_or1 (ha:PT X a tA):PW X (.BoolOp .Or [a] pos) tA:=by
 intro wh pins s σ H Q I h
 refine isTrue_or (thn (ha pins s σ H Q I h) λc s1 e=>?_)
 cases c with
 | false=>exact isTrue_or_nil e
 | true=>exact e
theorem zmt (ha:PT X a tA) (hb:PW X (.BoolOp .And (b :: rest) pos) tB'):PW X (.BoolOp .And (a :: b :: rest) pos) (zqm tA tB'):=by
 intro wh pins s σ H Q I h
 refine isTrue_and (thn (ha pins s σ H _ I h) λc s1 ⟨H1,I1,q1⟩=>?_)
 cases c with
 | true=>exact hb wh pins s1 σ H1 Q I1 q1
 | false=>exact ⟨H1,I1,q1⟩
theorem zh3 (ha:PT X a tA) (hb:PW X (.BoolOp .Or (b :: rest) pos) tB'):PW X (.BoolOp .Or (a :: b :: rest) pos) (tOr tA tB'):=by
 intro wh pins s σ H Q I h
 refine isTrue_or (thn (ha pins s σ H _ I h) λc s1 ⟨H1,I1,q1⟩=>?_)
 cases c with
 | true=>exact ⟨H1,I1,q1⟩
 | false=>exact hb wh pins s1 σ H1 Q I1 q1
theorem zio (ha:PT X a tA):PT X (.UnaryOp .Not a pos) (zqj tA):=by
 intro pins s σ H Q I h
 exact isTrue_not (ha pins s σ H (λc H1=>Q (!c) H1) I h)
def zpv (ta tb:TE):TE:=λσ H Q=>ta σ H λx H1=>∃ c,x=.bl c∧if c=true then tb σ H1 Q else Q (.bl false) H1
theorem pe_one {op} {t:TE} (h:PE X a t):PE X (.BoolOp op [a] pos) t:=λpins s σ H Q I hw=>BoolOp_one (h pins s σ H Q I hw)
theorem zmK (ha:PE X a ta) (hb:PE X (.BoolOp .And (b :: rest) pos) tb):PE X (.BoolOp .And (a :: b :: rest) pos) (zpv ta tb):=by
 intro pins s σ H Q I h
 refine BoolOp_and (thn (ha pins s σ H _ I h) λv s1 ⟨x,H1,I1,r1,q1⟩=>?_)
 obtain ⟨c,rfl,q1⟩:=q1
 cases r1
 refine wpAny_truthy_bool ?_
 cases c with
 | true=>exact hb pins s1 σ H1 Q I1 q1
 | false=>exact ⟨.bl false,H1,I1,rfl,q1⟩
def tIf (t:TT) (ta tb:TE):TE:=λσ H Q=>t σ H λc H1=>if c=true then ta σ H1 Q else tb σ H1 Q
theorem zgJ {c:Expr} (hc:PT X c tA) (ha:PE X a ta) (hb:PE X b tb):PE X (.IfExp c a b pos) (tIf tA ta tb):=by
 intro pins s σ H Q I h
 refine wpAny_IfExp (thn (hc pins s σ H _ I h) λd s1 ⟨H1,I1,q1⟩=>?_)
 cases d with
 | true=>exact ha pins s1 σ H1 Q I1 q1
 | false=>exact hb pins s1 σ H1 Q I1 q1
end
end L2
namespace L2
open PySem PySem.Spec PyProof.Rows
def SqL (K:W.Frag) (H:Hp) (a:Addr) (xs:List V):Prop :=
 Rd H a (.lst xs) ∨
  ∃ (o:Obj) (its:Array Value) (n:Nat),K.lookup a=some o∧o.cls=.type "list"∧o.dict=none∧o.data=.seq its n∧its.size≤sizeLine∧Vals xs its.toList
def SqT (K:W.Frag) (H:Hp) (a:Addr) (xs:List V):Prop :=
 Rd H a (.tup xs) ∨
  ∃ (o:Obj) (its:Array Value) (n:Nat),K.lookup a=some o∧o.cls=.type "tuple"∧o.data=.seq its n∧its.size≤sizeLine∧Vals xs its.toList
def zqu:Value->Option V
 | .none=>some .non
 | .bool b=>some (.bl b)
 | .int i _=>some (.int i)
 | .str x _=>some (.str x)
 | .bytes b _=>some (.byt b)
 | .float b _=>some (.flt b)
 | .ref a=>some (.ref a)
 | .type n=>some (.ty n)
 | _=>none
theorem RelV.abs {x:V} {u:Value} (r:RelV x u):zqu u=some x:=by
 cases x with
 | non=>cases r;rfl
 | bl _=>cases r;rfl
 | int _=>obtain ⟨t,rfl⟩:=r;rfl
 | str _=>obtain ⟨t,rfl⟩:=r;rfl
 | byt _=>obtain ⟨t,rfl⟩:=r;rfl
 | flt _=>obtain ⟨t,rfl⟩:=r;rfl
 | ref _=>cases r;rfl
 | ty _=>cases r;rfl
theorem RelV.inj {x y:V} {u:Value} (r:RelV x u) (q:RelV y u):x=y:=Option.some.inj (r.abs.symm.trans q.abs)
theorem Vals.inj:∀ {xs ys:List V} {us:List Value},Vals xs us->Vals ys us->xs=ys
 | _,_,_,.nil,.nil=>rfl
 | _,_,_,.cons r t,.cons r' t'=>by rw [r.inj r',Vals.inj t t']
section
variable {X:Cx} {pins:List (Addr×Obj)} {σ:St} {H:Hp} {s:Shared} {a:Addr} {xs ys:List V}
theorem SqL.of {K:W.Frag} (h:H a=some (.lst xs)):SqL K H a xs:=.inl (.inl h)
theorem Inv.list (I:Inv X pins σ H s) (h:SqL X.K H a xs):∃ its:List Value,Vals xs its∧PlainL s.heap a its.toArray∧xs.length≤sizeLine:=by
 rcases h with h | ⟨o,its,n,hk,hc,hd,hs,hz,r⟩
 ·obtain ⟨z,its,n,r,e⟩:=h.ok I.hok
  exact ⟨its,r,⟨_,n,e,rfl,rfl,rfl⟩,z⟩
 ·refine ⟨its.toList,r,⟨o,n,I.kIn a o hk,hc,hd,by simpa using hs⟩,?_⟩
  have e:=r.length
  simp only [Array.length_toList] at e
  omega
theorem Inv.tuple (I:Inv X pins σ H s) (h:SqT X.K H a xs):∃ its:List Value,Vals xs its∧IsTup s.heap a its.toArray∧xs.length≤sizeLine:=by
 rcases h with h | ⟨o,its,n,hk,hc,hs,hz,r⟩
 ·obtain ⟨z,its,r,p⟩:=h.ok I.hok
  exact ⟨its,r,p,z⟩
 ·refine ⟨its.toList,r,⟨o,I.kIn a o hk,hc,n,by simpa using hs⟩,?_⟩
  have e:=r.length
  simp only [Array.length_toList] at e
  omega
theorem Inv.list_inj (I:Inv X pins σ H s) (h:SqL X.K H a xs) (h':SqL X.K H a ys):xs=ys:=by
 obtain ⟨its,r,⟨o,n,e,_,_,d⟩,_⟩:=I.list h
 obtain ⟨its',r',⟨o',n',e',_,_,d'⟩,_⟩:=I.list h'
 rw [e] at e';cases e'
 rw [d] at d'
 injection d' with d1 _
 have:its=its':=by simpa using congrArg Array.toList d1
 subst this
 exact r.inj r'
end
abbrev Cx.wish (X:Cx) (E:Value->Shared->Prop):Cx:={ X with xe:=E }
abbrev Cx.nox (X:Cx):Cx:=X.wish λ_ _=>False
theorem Cx.Ok.wish {X:Cx} (ok:X.Ok) (E:Value->Shared->Prop):(X.wish E).Ok :=
 ⟨ok.mod,ok.kind,ok.glob,ok.blt,ok.above,ok.inj,ok.has,ok.cab,ok.hd,ok.frames,ok.stk,ok.exf,ok.bs,ok.bsz,ok.noex,ok.exfs,ok.funs,ok.frf⟩
theorem Cx.Ok.unwish {X:Cx} {E:Value->Shared->Prop} (ok:(X.wish E).Ok):X.Ok :=
 ⟨ok.mod,ok.kind,ok.glob,ok.blt,ok.above,ok.inj,ok.has,ok.cab,ok.hd,ok.frames,ok.stk,ok.exf,ok.bs,ok.bsz,ok.noex,ok.exfs,ok.funs,ok.frf⟩
section
variable {X:Cx} {pins:List (Addr×Obj)} {σ:St} {H:Hp} {s:Shared} {E:Value->Shared->Prop}
theorem Inv.wish (I:Inv X pins σ H s) (E:Value->Shared->Prop):Inv (X.wish E) pins σ H s:=⟨I.ok.wish E,I.os,I.bare,I.base,I.loc,I.cell,I.free,I.freeC,I.pin,I.hok,I.len⟩
theorem Inv.unwish (I:Inv (X.wish E) pins σ H s):Inv X pins σ H s:=⟨I.ok.unwish,I.os,I.bare,I.base,I.loc,I.cell,I.free,I.freeC,I.pin,I.hok,I.len⟩
theorem SP.unwish {D:Ends} {f:Flow} {s':Shared} (h:SP (X.wish E) pins D f s'):SP X pins D f s':=by
 cases f with
 | next=>obtain ⟨σ',H',I,q⟩:=h;exact ⟨σ',H',I.unwish,q⟩
 | brk=>obtain ⟨σ',H',I,q⟩:=h;exact ⟨σ',H',I.unwish,q⟩
 | cont=>obtain ⟨σ',H',I,q⟩:=h;exact ⟨σ',H',I.unwish,q⟩
 | ret u=>obtain ⟨v,σ',H',I,r,q⟩:=h;exact ⟨v,σ',H',I.unwish,r,q⟩
end
section
variable {X:Cx} {st:Stmt} {rest:List Stmt} {t u:TS} {e:Expr} {te:TE} {pos:Pos}
def zk4:TS:=λD σ H=>D.nx σ H
def tSeq (t u:TS):TS:=λD σ H=>t { D with nx:=u D } σ H
theorem zae:PSs X [] zk4:=λ_ _ σ H _ I h=>wpAny_execs_nil ⟨σ,H,I,h⟩
theorem zac (h1:PS X st t) (h2:PSs X rest u):PSs X (st :: rest) (tSeq t u):=by
 intro pins s σ H D I h
 refine wpAny_execs_cons (thn (h1 pins s σ H { D with nx:=u D } I h) λf s1 q=>?_)
 cases f with
 | next =>
  obtain ⟨σ',H',I',q⟩:=q
  exact h2 pins s1 σ' H' D I' q
 | ret v=>exact q
 | brk=>exact q
 | cont=>exact q
theorem zne (h1:PS X st t):PSs X [st] t:=by
 intro pins s σ H D I h
 refine wpAny_execs_cons (thn (h1 pins s σ H D I h) λf s1 q=>?_)
 cases f with
 | next=>exact wpAny_execs_nil q
 | ret v=>exact q
 | brk=>exact q
 | cont=>exact q
theorem Inv.quiet {pins:List (Addr×Obj)} {σ:St} {H:Hp} {s:Shared} (I:Inv X pins σ H s):interactive X.env=false:=by simp [interactive,I.ok.kind]
def tDrop (te:TE):TS:=λD σ H=>te σ H λ_ H1=>D.nx σ H1
theorem zcu (he:PE X e te) (hs:swapsWith e none pos.line X.env=pure false:=by rfl):PS X (.Expr e pos) (tDrop te):=by
 intro pins s σ H D I h
 exact wpAny_Expr_any (thn (he pins s σ H _ I h) λv s1 ⟨x,H1,I1,r1,q1⟩=>⟨σ,H1,I1,q1⟩) I.quiet hs
def zld (te:TE):TS:=λD σ H=>te σ H D.rt
theorem zav (he:PE X e te):PS X (.Return (some e) pos) (zld te):=by
 intro pins s σ H D I h
 exact wpAny_Return_some (thn (he pins s σ H _ I h) λv s1 ⟨x,H1,I1,r1,q1⟩=>⟨x,σ,H1,I1,r1,q1⟩)
def zpw (c:TT) (t u:TS):TS:=λD σ H=>c σ H λb H1=>if b=true then t D σ H1 else u D σ H1
theorem zbw {c:Expr} {a b:List Stmt} {tc:TT} (hc:PT X c tc) (ha:PSs X a t) (hb:PSs X b u):PS X (.If c a b pos) (zpw tc t u):=by
 intro pins s σ H D I h
 refine wpAny_If (thn (hc pins s σ H _ I h) λd s1 ⟨H1,I1,q1⟩=>?_)
 cases d with
 | true=>exact ha pins s1 σ H1 D I1 q1
 | false=>exact hb pins s1 σ H1 D I1 q1
def zoA:TS:=λ_ _ _=>False
theorem zej:PS X st zoA:=λ_ _ _ _ _ _ h=>h.elim
end
abbrev TG:=V->St->Hp->(St->Hp->Prop)->Prop
abbrev TGs:=List V->St->Hp->(St->Hp->Prop)->Prop
def PG (X:Cx) (target:Expr) (t:TG):Prop :=
 ∀ (pins:List (Addr×Obj)) (s:Shared) (σ:St) (H:Hp) (v:V) (u:Value) (Q:St->Hp->Prop),Inv X pins σ H s->RelV v u->t v σ H Q →
  wpAny (model X.prog X.w) X.A (assign target X.env u) (λ_ s'=>∃ σ' H',Inv X pins σ' H' s'∧Q σ' H') X.xe s
def PGs (X:Cx) (ts:List Expr) (t:TGs):Prop :=
 ∀ (pins:List (Addr×Obj)) (s:Shared) (σ:St) (H:Hp) (vs:List V) (us:List Value) (Q:St->Hp->Prop),Inv X pins σ H s->Vals vs us->t vs σ H Q →
  wpAny (model X.prog X.w) X.A (assignInOrder ((assignEach ts X.env).map (·.2)) us) (λ_ s'=>∃ σ' H',Inv X pins σ' H' s'∧Q σ' H') X.xe s
abbrev zpQ:=V->V->V->Hp->(Hp->Prop)->Prop
def zqi (X:Cx) (t:zpQ):Prop :=
 ∀ (pins:List (Addr×Obj)) (s:Shared) (σ:St) (H:Hp) (o i v:V) (ov iv u:Value) (Q:Hp->Prop),Inv X pins σ H s->RelV o ov->RelV i iv->RelV v u->t o i v H Q →
  wpAny (model X.prog X.w) X.A (setItem ov iv u) (λ_ s'=>∃ H',Inv X pins σ H' s'∧Q H') X.xe s
section
variable {X:Cx} {pos:Pos}
def zbx (i:Nat):TG:=λv σ H Q=>Q (σ.set i (some v)) H
theorem pg_name {i:Nat} {x:Str} (hN:X.N.Nodup) (hi:X.N[i]?=some x) (hx:Loc X.env.scope x) (hf:X.fn x=true∨X.env.scope.names.lookup x=some .local:=by first | exact .inl rfl | exact .inr rfl | assumption):PG X (.Name x pos) (zbx i):=by
 intro pins s σ H v u Q I r h
 exact wpAny_assign_Name (store_ok I hN hi hx r (λs' I'=>⟨_,H,I',h⟩) hf)
def zms:TGs:=λvs σ H Q=>vs=[]∧Q σ H
def zdM (t:TG) (u:TGs):TGs:=λvs σ H Q=>∃ v r,vs=v :: r∧t v σ H λσ' H'=>u r σ' H' Q
theorem zbe:PGs X [] zms:=by
 intro pins s σ H vs us Q I r h
 obtain ⟨e,h⟩:=h
 subst e
 cases r
 exact assignInOrder_nil ⟨σ,H,I,h⟩
theorem zas {e:Expr} {es:List Expr} {t:TG} {u:TGs} (h1:PG X e t) (h2:PGs X es u)
  (hs:(assignEach (e :: es) X.env).map (·.2)=assign e X.env :: (assignEach es X.env).map (·.2):=by rfl):PGs X (e :: es) (zdM t u):=by
 intro pins s σ H vs us Q I r h
 obtain ⟨v,vr,e1,h⟩:=h
 subst e1
 cases r with
 | cons r rr =>
  rw [hs]
  refine assignInOrder_cons (thn (h1 pins s σ H _ _ _ I r h) λ_ s1 ⟨σ1,H1,I1,q1⟩=>?_)
  exact h2 pins s1 σ1 H1 _ _ Q I1 rr q1
def zly (K:W.Frag) (n:Nat) (t:TGs):TG:=λv σ H Q=>∃ a xs,v=.ref a∧SqT K H a xs∧xs.length=n∧t xs σ H Q
theorem zpd {es:List Expr} {k:Nat} {t:TGs} {n:Nat} (hc:X.calm=true) (h:PGs X es t)
  (hn:(assignEach es X.env).length=n:=by rfl) (hst:(assignEach es X.env).findIdx? (·.1)=none:=by rfl):PG X (.Tuple es k pos) (zly X.K n t):=by
 intro pins s σ H v u Q I r hw
 obtain ⟨a,xs,e1,hq,hl,hw⟩:=hw
 subst e1
 cases r
 obtain ⟨its,rv,ht,hz⟩:=I.tuple hq
 refine assign_Tuple_tuple (I.ok.hd hc) ht (by simp [hn,← hl,rv.length]) hst λh' hx=>?_
 have I1:Inv X pins σ H { s with heap:=h' }:=I.kept (t':=s.toks) λb o e=>hx b o (Nat.ne_of_lt (Heap.lt_size e)) e
 exact h pins _ σ H xs _ Q I1 (by simpa using rv) hw
def zoa (to ti:TE) (t:zpQ):TG:=λv σ H Q=>to σ H λo H1=>ti σ H1 λi H2=>t o i v H2 λH3=>Q σ H3
theorem zhu {o i:Expr} {to ti:TE} {t:zpQ} (ho:PE X o to) (hi:PE X i ti) (hs:zqi X t)
  (ha:∀ v,assign (.Subscript o i pos) X.env v=(do
   let ov ← holding [v] (eval o X.env)
   let iv ← holding [v,ov] (eval i X.env)
   standAt pos
   holding [v,ov,iv] (setItem ov iv v)
   release [v,ov,iv] []):=by intro _;rfl):PG X (.Subscript o i pos) (zoa to ti t):=by
 intro pins s σ H v u Q I r h
 rw [ha]
 refine wpAny_bind (wpAny_holding (thn (ho pins s σ H _ I h) λov s1 ⟨x,H1,I1,r1,q1⟩=>?_))
 refine wpAny_bind (wpAny_holding (thn (hi pins s1 σ H1 _ I1 q1) λiv s2 ⟨y,H2,I2,r2,q2⟩=>?_))
 refine wpAny_bind (wpAny_standAt (wpAny_bind (wpAny_holding (thn (hs pins s2 σ H2 x y v ov iv u _ I2 r1 r2 r q2) λ_ s3 ⟨H3,I3,q3⟩=>?_))))
 exact wpAny_release ⟨σ,H3,I3,q3⟩
def zgV (te:TE) (g:TG):TS:=λD σ H=>te σ H λx H1=>g x σ H1 D.nx
theorem zep {tg e:Expr} {te:TE} {g:TG} (he:PE X e te) (hg:PG X tg g) (hs:swapsWithSole [tg] e pos.line X.env=pure false:=by rfl) (hw:swappedStores [tg] e X.env=pure none:=by rfl)
  (h1:(assignEach [tg] X.env).map (·.2)=[assign tg X.env]:=by rfl):PS X (.Assign [tg] e pos) (zgV te g):=by
 intro pins s σ H D I h
 refine wpAny_Assign_stores (thn (he pins s σ H _ I h) λv s1 ⟨x,H1,I1,r1,q1⟩=>?_) hs hw
 rw [h1]
 exact thn (hg pins s1 σ H1 x v _ I1 r1 q1) λ_ s2 q=>q
theorem zak {i:Nat} {x:Str} {e:Expr} {te:TE} {pos':Pos} (hN:X.N.Nodup) (hi:X.N[i]?=some x) (hx:Loc X.env.scope x) (he:PE X e te) (hs:swapsWith e (some (.Name x pos')) pos.line X.env=pure false:=by rfl) (hf:X.fn x=true∨X.env.scope.names.lookup x=some .local:=by first | exact .inl rfl | exact .inr rfl | assumption) :
  PS X (.Assign [.Name x pos'] e pos) (zgV te (zbx i)):=by
 intro pins s σ H D I h
 refine wpAny_Assign_Name (thn (he pins s σ H _ I h) λv s1 ⟨y,H1,I1,r1,q1⟩=>?_) hs
 exact store_ok I1 hN hi hx r1 (λs2 I2=>⟨_,H1,I2,q1⟩) hf
end
section
variable {X:Cx} {pos:Pos}
def zmr (c:TT) (tb:TS):TS:=λD σ H=>∃ W:Nat->St->Hp->Prop,(∃ m,W m σ H)∧∀ m σ H,W m σ H →
 c σ H λb H1=>if b=true then ∃ N:St->Hp->Prop,(∀ σ' H',N σ' H'->∃ m',m'<m∧W m' σ' H')∧tb { D with nx:=N,ct:=N,bk:=D.nx } σ H1 else D.nx σ H1
theorem zlN {c:Expr} {body:List Stmt} {tc:TT} {tb:TS} (hp:PassesOwn (model X.prog X.w) X.A X.env X.xe) (hc:PT X c tc) (hb:PSs X body tb):PS X (.While c body [] pos) (zmr tc tb):=by
 intro pins s σ H D I h
 obtain ⟨W,⟨m0,w0⟩,turn⟩:=h
 refine wpAny_While (codeAny_whileLoop (λn s'=>∃ σ' H',Inv X pins σ' H' s'∧W n σ' H') ?_ m0 ⟨σ,H,I,w0⟩)
 rintro n s1 ⟨σ1,H1,I1,w1⟩
 refine wpAny_passesOwn hp (thn (hc pins s1 σ1 H1 _ I1 (turn n σ1 H1 w1)) λb s2 ⟨H2,I2,q2⟩=>?_)
 cases b with
 | true =>
  obtain ⟨N,hN,q2⟩:=q2
  rw [if_pos rfl]
  refine wpAny_passesOwn hp (thn (hb pins s2 σ1 H2 _ I2 q2) λf s3 q3=>?_)
  cases f with
  | next =>
   obtain ⟨σ3,H3,I3,n3⟩:=q3
   obtain ⟨m',hm,w3⟩:=hN σ3 H3 n3
   exact ⟨m',hm,σ3,H3,I3,w3⟩
  | cont =>
   obtain ⟨σ3,H3,I3,n3⟩:=q3
   obtain ⟨m',hm,w3⟩:=hN σ3 H3 n3
   exact ⟨m',hm,σ3,H3,I3,w3⟩
  | brk=>exact q3
  | ret v=>exact q3
 | false =>
  rw [if_neg Bool.false_ne_true]
  exact wpAny_execs_nil ⟨σ1,H2,I2,q2⟩
end
structure It where
 go:Nat->Hp->Prop
 yld:Nat->Hp->V->Hp->Prop
 stop:Nat->Hp->Prop
def FpOk (X:Cx) (pins:List (Addr×Obj)) (H:Hp) (b:Addr):Prop :=
 H b=none∧b≠X.env.locals∧b ∉ X.fs∧(b∈X.ex∨X.s₀.heap.objs.size≤b)∧(∀ x c,X.env.cells.lookup x=some c->c≠b)∧∀ p∈X.pn++pins,p.1≠b
theorem Inv.fpOk {X:Cx} {pins:List (Addr×Obj)} {σ:St} {H H':Hp} {s:Shared} {b:Addr} (I:Inv X pins σ H s) (hb:s.heap.objs.size≤b) (hn:H' b=none):FpOk X pins H' b:=by
 refine ⟨hn,Nat.ne_of_gt (Nat.lt_of_lt_of_le I.lt hb),I.nofs hb,.inr (Nat.le_trans I.sz hb),λx c e z=>?_,λp hp z=>?_⟩
 ·obtain ⟨v,q⟩:=I.cell x c e
  exact absurd (Nat.lt_of_lt_of_le q.lt (by rw [z];exact hb)) (Nat.lt_irrefl _)
 ·exact absurd (Nat.lt_of_lt_of_le (Heap.lt_size (I.pin p hp).1) (by rw [z];exact hb)) (Nat.lt_irrefl _)
structure Turn (P:Program) (w:World) (K:W.Frag) (tg:Expr) (J:It) (fp:List Addr) (it:Addr) (tn:Nat->Heap->Prop):Prop where
 mem:it∈fp
 obj:∀ i h,tn i h->∀ b∈fp,∃ o,h.get? b=some o∧∀ v,o.data≠.cell v
 keep:∀ i h h',tn i h->(∀ b∈fp,∀ o,h.get? b=some o->h'.get? b=some o)->tn i h'
 item:∀ (X:Cx),X.prog=P->X.w=w->X.K=K->X.calm=true->∀ (i:Nat) (pins:List (Addr×Obj)) (s:Shared) (σ:St) (H:Hp) (E:Value->Shared->Prop),Inv X pins σ H s->(∀ b∈fp,FpOk X pins H b)->tn i s.heap->J.go i H →
  wpAny (model P w) X.A (pyNext (.ref it)) (λr s1=>∃ u,r=some u ∧
   wpAny (model P w) X.A (letOwnedTupleGo tg (.ref it) u) (λ_ s2=>∃ x H',Inv X pins σ H' s2∧RelV x u∧J.yld i H x H'∧tn (i+1) s2.heap∧∀ b∈fp,H' b=none) E s1) E s
 done:∀ (X:Cx),X.prog=P->X.w=w->X.K=K->X.calm=true->∀ (i:Nat) (pins:List (Addr×Obj)) (s:Shared) (σ:St) (H:Hp) (E:Value->Shared->Prop),Inv X pins σ H s->(∀ b∈fp,FpOk X pins H b)->tn i s.heap->J.stop i H →
  wpAny (model P w) X.A (pyNext (.ref it)) (λr s1=>r=none∧Inv X pins σ H s1) E s
 self:∀ (A:Around) (i:Nat) (s:Shared) (Q:Value->Shared->Prop) (E:Value->Shared->Prop),tn i s.heap->Q (.ref it) s->wpAny (model P w) A (pyIter (.ref it)) Q E s
abbrev TI:=St->Hp->(It->Hp->Prop)->Prop
def PIE (X:Cx) (pins:List (Addr×Obj)) (σ:St) (tg:Expr) (R:It->Hp->Prop) (itv:Value) (s2:Shared):Prop :=
 ∃ (it:Addr) (fp:List Addr) (tn:Nat->Heap->Prop) (J:It) (H':Hp),itv=.ref it∧Inv X pins σ H' s2∧Turn X.prog X.w X.K tg J fp it tn∧tn 0 s2.heap∧(∀ b∈fp,FpOk X pins H' b)∧R J H'
def PI (X:Cx) (tg iter:Expr) (wi:TI):Prop :=
 ∀ (pins:List (Addr×Obj)) (s:Shared) (σ:St) (H:Hp) (R:It->Hp->Prop),Inv X pins σ H s->wi σ H R →
  wpAny (model X.prog X.w) X.A (eval iter X.env) (λv s1=>wpAny (model X.prog X.w) X.A (pyIter v) (PIE X pins σ tg R) X.xe s1) X.xe s
theorem zmP {M:Model} {A:Around} {E:Value->Shared->Prop} {s:Shared} {tg:Expr} {it:Addr} {u:Value} {o:Obj} {n:String} {vs:Array Value} {Q:Unit->Shared->Prop} (ho:s.heap.get? it=some o) (hc:o.cls=.type n) (hd:o.data=.fields vs)
  (hn:["enumerate","zip","dict_itemiterator","dict_reverseitemiterator","odict_iterator","itertools.zip_longest","itertools.pairwise"].contains n=false) (hQ:Q () s):wpAny M A (letOwnedTupleGo tg (.ref it) u) Q E s:=by
 unfold letOwnedTupleGo
 cases tg<;>first
  | exact wpAny_pure hQ
  | (cases u<;>first
    | exact wpAny_pure hQ
    | (refine wpAny_bind (wpAny_load ho ?_)
       rw [hc,hd]
       show wpAny M A (if (["enumerate","zip","dict_itemiterator","dict_reverseitemiterator","odict_iterator","itertools.zip_longest","itertools.pairwise"].contains n&&vs[0]? == some (rawInt _))=true then _ else _) Q E s
       rw [if_neg (by intro h;rw [hn,Bool.false_and] at h;cases h)]
       exact wpAny_pure hQ))
def Itl (K:W.Frag) (a:Addr):It :=
 ⟨λi H=>∃ xs x,SqL K H a xs∧xs[i]?=some x,λi H x H'=>H'=H∧∀ xs,SqL K H a xs->xs[i]?=some x,λi H=>∃ xs,SqL K H a xs∧xs.length≤i⟩
def Itr (lo:Int) (n:Nat):It:=⟨λi _=>i<n,λi H x H'=>H'=H∧x=.int (lo+i),λi _=>n≤i⟩
theorem zkD {P:Program} {w:World} {K:W.Frag} {tg:Expr} (a it:Addr):Turn P w K tg (Itl K a) [it] it (λi h=>h.IsListIter it a i) where
 mem:=by simp
 obj:=λi h st b hb=>by
  have e:b=it:=by simpa using hb
  subst e
  obtain ⟨o,e,c,d⟩:=st
  exact ⟨o,e,λv z=>by rw [d] at z;cases z⟩
 keep:=λi h h' st k=>st.at λo e=>k it (by simp) o e
 item:=by
  intro X hP hw hK hc i pins s σ H E I hf st hg
  subst hP hw hK
  obtain ⟨xs,x,hq,hx⟩:=hg
  obtain ⟨its,rv,p,hz⟩:=I.list hq
  obtain ⟨u,hu,ru⟩:=rv.get hx
  obtain ⟨f0,f1,f2,f3,f4,f5⟩:=hf it (by simp)
  refine wpAny_pyNext_list_item st p.isList (x:=u) (by simpa using hu) λh' st' sb=>?_
  have I1:Inv X pins σ H { s with heap:=h' }:=I.turned (t':=s.toks) (λb o hb e=>(sb.2 b hb).trans e) f0 f1 f3 f4 f5
  obtain ⟨o,e,c,d⟩:=id st'
  exact ⟨u,rfl,zmP (s:={ s with heap:=h' }) e c d (by decide) ⟨x,H,I1,ru,⟨rfl,λys hy=>by rw [I.list_inj hy hq];exact hx⟩,st',λb hb=>(hf b hb).1⟩⟩
 done:=by
  intro X hP hw hK hc i pins s σ H E I hf st hg
  subst hP hw hK
  obtain ⟨xs,hq,hx⟩:=hg
  obtain ⟨its,rv,p,hz⟩:=I.list hq
  obtain ⟨f0,f1,f2,f3,f4,f5⟩:=hf it (by simp)
  have hl:=rv.length
  exact wpAny_pyNext_list_end (I.ok.hd hc) st p.isList (by simp;omega) λh' eb=>⟨rfl,I.turned (t':=s.toks) (λb o hb e=>eb b o hb e) f0 f1 f3 f4 f5⟩
 self:=λ_ _ _ _ _ st h=>wpAny_pyIter_listiter st h
theorem zjp {P:Program} {w:World} {K:W.Frag} {tg:Expr} (it:Addr) (lo:Int) (n:Nat):Turn P w K tg (Itr lo n) [it] it (λi h=>IsRangeIter h it (lo+(i:Nat)*1) ((n:Int)-(i:Nat)) 1) where
 mem:=by simp
 obj:=λi h st b hb=>by
  have e:b=it:=by simpa using hb
  subst e
  exact ⟨_,st,λv z=>by
   have z':Data.fields _=Data.cell v:=z
   cases z'⟩
 keep:=λi h h' st k=>k it (by simp) _ st
 item:=by
  intro X hP hw hK hc i pins s σ H E I hf st hg
  subst hP hw hK
  obtain ⟨f0,f1,f2,f3,f4,f5⟩:=hf it (by simp)
  have W:=Walks.range (prog:=X.prog) (w:=X.w) (I.ok.hd hc) it lo 1 n
  refine W.item i s _ _ hg st λv h' tk hv st' kk=>?_
  obtain ⟨t,rfl⟩:=hv
  have I1:Inv X pins σ H { s with heap:=h',toks:=tk }:=I.turned (λb o hb e=>kk b o (by simpa using hb) e) f0 f1 f3 f4 f5
  refine ⟨_,rfl,zmP (s:={ s with heap:=h',toks:=tk }) (n:="range_iterator") st' rfl rfl (by decide) ⟨.int (lo+i),H,I1,⟨t,?_⟩,⟨rfl,rfl⟩,st',λb hb=>(hf b hb).1⟩⟩
  rw [Int.mul_one]
 done:=by
  intro X hP hw hK hc i pins s σ H E I hf st hg
  subst hP hw hK
  obtain ⟨f0,f1,f2,f3,f4,f5⟩:=hf it (by simp)
  exact wpAny_pyNext_range_end (I.ok.hd hc) st (by have:n≤i:=hg;omega) λh' eb=>⟨rfl,I.turned (t':=s.toks) (λb o hb e=>eb b o hb e) f0 f1 f3 f4 f5⟩
 self:=λ_ _ _ _ _ st h=>wpAny_pyIter_rangeiter st h
end L2
namespace L2
open PySem PySem.Spec PyProof.Rows
section
variable {X:Cx} {tg:Expr}
def zlV (K:W.Frag) (tl:TE):TI:=λσ H R=>tl σ H λx H1=>∃ a,x=.ref a∧(∃ xs,SqL K H1 a xs)∧R (Itl K a) H1
theorem zmL {l:Expr} {tl:TE} (hl:PE X l tl):PI X tg l (zlV X.K tl):=by
 intro pins s σ H R I h
 refine thn (hl pins s σ H _ I h) λv s1 ⟨x,H1,I1,r1,q1⟩=>?_
 obtain ⟨a,e,⟨xs,hq⟩,q⟩:=q1
 subst e
 cases r1
 obtain ⟨its,rv,p,hz⟩:=I1.list hq
 refine wpAny_pyIter_list p.isList ?_
 refine ⟨s1.heap.objs.size,[s1.heap.objs.size],_,_,H1,rfl,I1.kept (t':=s1.toks) λb o e=>Heap.get?_push_of_some _ e,zkD a _,⟨_,Heap.get?_push_size _ rfl,rfl,rfl⟩,λb hb=>?_,q⟩
 have e:b=s1.heap.objs.size:=by simpa using hb
 subst e
 exact I1.fpOk (Nat.le_refl _) (I1.hok.fresh (Nat.le_refl _))
theorem zlg {pins:List (Addr×Obj)} {σ:St} {H:Hp} {s:Shared} {R:It->Hp->Prop} {E:Value->Shared->Prop} {lo hi:Int} {t u v:Tok} {tk:Nat} (I:Inv X pins σ H s) (h1:-(2^62)≤lo) (h2:lo<2^62) (h3:-(2^62)≤hi) (h4:hi<2^62)
  (q:R (Itr lo (hi-lo).toNat) H):wpAny (model X.prog X.w) X.A (pyIter (.ref s.heap.objs.size)) (PIE X pins σ tg R) E { s with heap:=s.heap.push { cls:=.type "range",data:=.fields #[.int lo t,.int hi u,.int 1 v] },toks:=tk }:=by
 refine wpAny_pyIter_range (IsRange.new ..) (small_one h1 h2 h3 h4) ?_
 have I1:Inv X pins σ H { s with heap:=s.heap.push { cls:=.type "range",data:=.fields #[.int lo t,.int hi u,.int 1 v] },toks:=tk }:=I.kept λb o e=>Heap.get?_push_of_some _ e
 refine ⟨(s.heap.push { cls:=.type "range",data:=.fields #[.int lo t,.int hi u,.int 1 v] }).objs.size,[(s.heap.push { cls:=.type "range",data:=.fields #[.int lo t,.int hi u,.int 1 v] }).objs.size],_,_,H,rfl,
  I1.kept (t':=tk) λb o e=>Heap.get?_push_of_some _ e,zjp _ lo (hi-lo).toNat,?_,λb hb=>?_,q⟩
 ·have e1:lo+((0:Nat):Int)*1=lo:=by simp
  have e2:(((hi-lo).toNat:Nat):Int)-((0:Nat):Int)=Builtin.Range.rangeSize lo hi 1:=by rw [rangeSize_one];split<;>omega
  show IsRangeIter _ _ (lo+((0:Nat):Int)*1) ((((hi-lo).toNat:Nat):Int)-((0:Nat):Int)) 1
  rw [e1,e2]
  exact Heap.get?_push_size _ rfl
 ·have e:b=(s.heap.push { cls:=.type "range",data:=.fields #[.int lo t,.int hi u,.int 1 v] }).objs.size:=by simpa using hb
  subst e
  exact I1.fpOk (Nat.le_refl _) (I1.hok.fresh (Nat.le_refl _))
def zpl (ta:TA):TI:=λσ H R=>ta σ H λvs H1=>∃ j:Int,vs=[.int j]∧-(2^62)≤j∧j<2^62∧R (Itr 0 j.toNat) H1
theorem zbC {a:Expr} {ta:TA} {p pos:Pos} (hg:Gl X "range") (hm:X.mg "range"=none) (ha:PA X [a] ta) (hs:starEach [a] X.env=[(false,eval a X.env)]:=by rfl):PI X tg (.Call (.Name "range" p) [a] [] pos) (zpl ta):=by
 intro pins s σ H R I h
 refine Call_ (ld_blt I hg hm boot_range (PyProof.Rows.callWith_type1 (thn (ha pos pins s σ H _ I h) λus s1 ⟨vs,H1,I1,r1,q1⟩=>?_) hs rfl))
 obtain ⟨j,e,q1,q2,q⟩:=q1
 subst e
 cases r1 with
 | cons r rr =>
  cases rr
  obtain ⟨t,rfl⟩:=r
  exact call_range_1 (zlg I1 (by omega) (by omega) q1 q2 (by simpa using q))
def zoL (wi:TI) (g:TG) (tb:TS):TS:=λD σ H=>wi σ H λJ H1=>∃ W:Nat->Nat->St->Hp->Prop,(∃ m,W 0 m σ H1)∧∀ i m σ H,W i m σ H →
 (J.stop i H∧D.nx σ H)∨(J.go i H∧∃ N:St->Hp->Prop,(∀ σ' H',N σ' H'->∃ m',m'<m∧W (i+1) m' σ' H')∧∀ x H',J.yld i H x H'->g x σ H' λσ2 H2=>tb { D with nx:=N,ct:=N,bk:=D.nx } σ2 H2)
def zho (fp:List Addr) (h:Heap):List (Addr×Obj):=fp.filterMap λb=>(h.get? b).map λo=>(b,o)
theorem zem {fp:List Addr} {h:Heap} {b:Addr} {o:Obj} (hb:b∈fp) (e:h.get? b=some o):(b,o)∈zho fp h:=List.mem_filterMap.mpr ⟨b,hb,by rw [e];rfl⟩
theorem zkk {fp:List Addr} {h:Heap} {p:Addr×Obj} (hp:p∈zho fp h):p.1∈fp∧h.get? p.1=some p.2:=by
 obtain ⟨b,hb,e⟩:=List.mem_filterMap.mp hp
 cases q:h.get? b with
 | none=>rw [q] at e;cases e
 | some o =>
  rw [q] at e
  have e':(b,o)=p:=Option.some.inj e
  subst e'
  exact ⟨hb,q⟩
theorem Inv.pinned {pins:List (Addr×Obj)} {σ:St} {H:Hp} {s:Shared} {fp:List Addr} (I:Inv X pins σ H s) (hf:∀ b∈fp,FpOk X pins H b) (ho:∀ b∈fp,∃ o,s.heap.get? b=some o∧∀ v,o.data≠.cell v):Inv X (pins++zho fp s.heap) σ H s :=
 I.pins_of λp hp=>(List.mem_append.mp hp).elim (λz=>I.pin p (List.mem_append_right _ z)) λz=>by
  obtain ⟨hb,e⟩:=zkk z
  obtain ⟨f0,f1,f2,_⟩:=hf p.1 hb
  obtain ⟨o,e',d⟩:=ho p.1 hb
  rw [e] at e';cases e'
  exact ⟨e,f0,f1,f2,d⟩
theorem Inv.unpinned {pins pl:List (Addr×Obj)} {σ:St} {H:Hp} {s:Shared} (I:Inv X (pins++pl) σ H s):Inv X pins σ H s:=I.pins_of λp hp=>I.pin p (List.mem_append_right _ (List.mem_append_left _ hp))
theorem zcx {iter:Expr} {body:List Stmt} {wi:TI} {g:TG} {tb:TS} {pos:Pos} (hp:PassesOwn (model X.prog X.w) X.A X.env X.xe) (hc:X.calm=true) (hi:PI X tg iter wi) (hg:PG X tg g) (hb:PSs X body tb)
  (hs:∀ x,foldedSetIterable iter X.env x=pure x:=by intro _;rfl):PS X (.For tg iter body [] pos) (zoL wi g tb):=by
 intro pins s σ H D I h
 refine wpAny_For (thn (hi pins s σ H _ I h) λv s1 h1=>thn h1 λitv s2 h2=>?_) hs
 obtain ⟨it,fp,tn,J,H2,e,I2,T,st2,f2,W,⟨m0,w0⟩,turn⟩:=h2
 subst e
 have stat:∀ {H':Hp},(∀ b∈fp,H' b=none)->∀ b∈fp,FpOk X pins H' b:=λhn b hb=>⟨hn b hb,(f2 b hb).2⟩
 refine codeAny_forLoop_any (λn s'=>∃ i σ' H',Inv X pins σ' H' s'∧tn i s'.heap∧(∀ b∈fp,H' b=none)∧W i n σ' H') ?_ m0 ⟨0,σ,H2,I2,st2,λb hb=>(f2 b hb).1,w0⟩
 rintro n s3 ⟨i,σ3,H3,I3,st3,fr3,w3⟩
 rcases turn i n σ3 H3 w3 with ⟨stop,qn⟩ | ⟨go,N,hN,step⟩
 ·refine wpAny_passesOwn hp (thn (T.done X rfl rfl rfl hc i pins s3 σ3 H3 X.xe I3 (stat fr3) st3 stop) λr s4 ⟨hr,I4⟩=>?_)
  subst hr
  exact wpAny_execs_nil ⟨σ3,H3,I4,qn⟩
 ·refine wpAny_passesOwn hp (thn (T.item X rfl rfl rfl hc i pins s3 σ3 H3 X.xe I3 (stat fr3) st3 go) λr s4 ⟨u,hr,h4⟩=>?_)
  subst hr
  refine wpAny_passesOwn hp (thn h4 λ_ s5 ⟨x,H5,I5,r5,y5,st5,fr5⟩=>?_)
  have I5':=I5.pinned (stat fr5) (T.obj _ _ st5)
  refine wpAny_passesOwn hp (thn (hg _ s5 σ3 H5 x u _ I5' r5 (step x H5 y5)) λ_ s6 ⟨σ6,H6,I6,q6⟩=>?_)
  refine wpAny_passesOwn hp (thn (hb _ s6 σ6 H6 _ I6 q6) λf s7 q7=>?_)
  have again:∀ {σ7:St} {H7:Hp},Inv X (pins++zho fp s5.heap) σ7 H7 s7->N σ7 H7->∃ m,m<n∧∃ i σ' H',Inv X pins σ' H' s7∧tn i s7.heap∧(∀ b∈fp,H' b=none)∧W i m σ' H':=λ{σ7 H7} I7 n7=>by
   obtain ⟨m',hm,w7⟩:=hN σ7 H7 n7
   refine ⟨m',hm,i+1,σ7,H7,I7.unpinned,T.keep _ _ _ st5 λb hb o e=>(I7.pin (b,o) (List.mem_append_right _ (List.mem_append_right _ (zem hb e)))).1,λb hb=>?_,w7⟩
   obtain ⟨o,e,d⟩:=T.obj _ _ st5 b hb
   exact (I7.pin (b,o) (List.mem_append_right _ (List.mem_append_right _ (zem hb e)))).2.1
  cases f with
  | next=>obtain ⟨σ7,H7,I7,n7⟩:=q7;exact again I7 n7
  | cont=>obtain ⟨σ7,H7,I7,n7⟩:=q7;exact again I7 n7
  | brk=>obtain ⟨σ7,H7,I7,q7⟩:=q7;exact ⟨σ7,H7,I7.unpinned,q7⟩
  | ret v=>obtain ⟨x7,σ7,H7,I7,r7,q7⟩:=q7;exact ⟨x7,σ7,H7,I7.unpinned,r7,q7⟩
end
end L2
namespace L2
open PySem PySem.Spec PyProof.Rows
abbrev R2:=V->V->Hp->VK->Prop
def OpR (X:Cx) (f:Value->Value->Sem Value) (r:R2):Prop :=
 ∀ (pins:List (Addr×Obj)) (s:Shared) (σ:St) (H:Hp) (x y:V) (v u:Value) (Q:VK),Inv X pins σ H s->RelV x v->RelV y u->r x y H Q →
  wpAny (model X.prog X.w) X.A (f v u) (EP X pins σ Q) X.xe s
def UnR (X:Cx) (f:Value->Sem Value) (r:V->Hp->VK->Prop):Prop :=
 ∀ (pins:List (Addr×Obj)) (s:Shared) (σ:St) (H:Hp) (x:V) (v:Value) (Q:VK),Inv X pins σ H s->RelV x v->r x H Q →
  wpAny (model X.prog X.w) X.A (f v) (EP X pins σ Q) X.xe s
def zfe (X:Cx) (f:Value) (r:List V->Hp->VK->Prop):Prop :=
 ∀ (pins:List (Addr×Obj)) (s:Shared) (σ:St) (H:Hp) (xs:List V) (us:List Value) (Q:VK),Inv X pins σ H s->Vals xs us->r xs H Q →
  wpAny (model X.prog X.w) X.A (call f us) (EP X pins σ Q) X.xe s
def tOp (r:R2) (ta tb:TE):TE:=λσ H Q=>ta σ H λx H1=>tb σ H1 λy H2=>r x y H2 Q
def tUn (r:V->Hp->VK->Prop) (ta:TE):TE:=λσ H Q=>ta σ H λx H1=>r x H1 Q
def rI (C:Int->Int->Prop) (g:Int->Int->V):R2:=λx y H Q=>∃ i j,x=.int i∧y=.int j∧C i j∧Q (g i j) H
def rI0 (g:Int->Int->V):R2:=λx y H Q=>∃ i j,x=.int i∧y=.int j∧Q (g i j) H
def rU (g:Int->V):V->Hp->VK->Prop:=λx H Q=>∃ i,x=.int i∧Q (g i) H
section
variable {X:Cx} {a b c:Expr} {ta tb tc:TE} {pos:Pos}
theorem binT (ha:PE X a ta) (hb:PE X b tb) {pins:List (Addr×Obj)} {s:Shared} {σ:St} {H:Hp} {R:V->V->Hp->Prop} (I:Inv X pins σ H s)
  (h:ta σ H λx H1=>tb σ H1 λy H2=>R x y H2) {Q:Value->Shared->Prop} {f:Value->Value->Sem Value}
  (hf:∀ v u s2 x y H2,Inv X pins σ H2 s2->RelV x v->RelV y u->R x y H2->wpAny (model X.prog X.w) X.A (f v u) Q X.xe s2) :
  wpAny (model X.prog X.w) X.A (eval a X.env) (λv s₁=>wpAny (model X.prog X.w) X.A (eval b X.env) (λu s₂=>wpAny (model X.prog X.w) X.A (f v u) Q X.xe s₂) X.xe s₁) X.xe s:=by
 refine thn (ha pins s σ H _ I h) λv s1 ⟨x,H1,I1,r1,q1⟩=>?_
 refine thn (hb pins s1 σ H1 _ I1 q1) λu s2 ⟨y,H2,I2,r2,q2⟩=>?_
 exact hf v u s2 x y H2 I2 r1 r2 q2
theorem zam {op:Operator} {r:R2} (ho:OpR X (binaryOp op) r) (ha:PE X a ta) (hb:PE X b tb):PE X (.BinOp a op b pos) (tOp r ta tb):=by
 intro pins s σ H Q I h
 exact wpAny_BinOp (binT ha hb I h λv u s2 x y H2 I2 rx ry q=>ho pins s2 σ H2 x y v u Q I2 rx ry q)
theorem zoK {op:UnaryOp} {r:V->Hp->VK->Prop} (ho:UnR X (unaryOp op) r) (ha:PE X a ta):PE X (.UnaryOp op a pos) (tUn r ta):=by
 intro pins s σ H Q I h
 exact UnaryOp_ (thn (ha pins s σ H _ I h) λv s1 ⟨x,H1,I1,r1,q1⟩=>ho pins s1 σ H1 x v Q I1 r1 q1)
theorem opI {f:Value->Value->Sem Value} {C:Int->Int->Prop} {g:Int->Int->Int}
  (rule:∀ (i j:Int) (t u:Tok) (s:Shared) (Q:Value->Shared->Prop) (E:Value->Shared->Prop),C i j->Q (.int (g i j) s.toks) { s with toks:=s.toks+1 }->wpAny (model X.prog X.w) X.A (f (.int i t) (.int j u)) Q E s) :
  OpR X f (rI C λi j=>.int (g i j)):=by
 intro pins s σ H x y v u Q I rx ry h
 obtain ⟨i,j,rfl,rfl,hc,q⟩:=h
 obtain ⟨t,rfl⟩:=rx
 obtain ⟨t',rfl⟩:=ry
 exact rule i j t t' s _ _ hc ⟨.int (g i j),H,I.tok _,⟨_,rfl⟩,q⟩
theorem zqh {f:Value->Value->Sem Value} {g:Int->Int->Int}
  (rule:∀ (i j:Int) (t u:Tok) (s:Shared) (Q:Value->Shared->Prop) (E:Value->Shared->Prop),Q (.int (g i j) s.toks) { s with toks:=s.toks+1 }->wpAny (model X.prog X.w) X.A (f (.int i t) (.int j u)) Q E s) :
  OpR X f (rI0 λi j=>.int (g i j)):=by
 intro pins s σ H x y v u Q I rx ry h
 obtain ⟨i,j,rfl,rfl,q⟩:=h
 obtain ⟨t,rfl⟩:=rx
 obtain ⟨t',rfl⟩:=ry
 exact rule i j t t' s _ _ ⟨.int (g i j),H,I.tok _,⟨_,rfl⟩,q⟩
theorem zpD {f:Value->Value->Sem Value} {g:Int->Int->Bool}
  (rule:∀ (i j:Int) (t u:Tok) (s:Shared) (Q:Value->Shared->Prop) (E:Value->Shared->Prop),Q (.bool (g i j)) s->wpAny (model X.prog X.w) X.A (f (.int i t) (.int j u)) Q E s) :
  OpR X f (rI0 λi j=>.bl (g i j)):=by
 intro pins s σ H x y v u Q I rx ry h
 obtain ⟨i,j,rfl,rfl,q⟩:=h
 obtain ⟨t,rfl⟩:=rx
 obtain ⟨t',rfl⟩:=ry
 exact rule i j t t' s _ _ ⟨.bl (g i j),H,I,rfl,q⟩
def zqt (i j:Int):Prop:=0≤j∧j≤1000000∧i.natAbs<2^64
theorem zbt:OpR X (binaryOp .Add) (rI0 λi j=>.int (i+j)):=zqh λ_ _ _ _ _ _ _ q=>add_int q
theorem zeq:OpR X (binaryOp .Sub) (rI0 λi j=>.int (i-j)):=zqh λ_ _ _ _ _ _ _ q=>sub_int q
theorem zbO:OpR X (binaryOp .Mod) (rI (λ_ j=>0<j) λi j=>.int (i%j)):=opI λi j _ _ _ _ _ hc q=>by
 have h1:(0:Int)<j:=hc
 exact mod_int' (by omega) (by rw [Int.fmod_eq_emod_of_nonneg i (by omega)];exact q)
theorem zmA:OpR X (binaryOp .Pow) (rI zqt λi j=>.int (i^j.toNat)):=opI λ_ _ _ _ _ _ _ hc q=>pow_int_small hc.1 hc.2.1 hc.2.2 q
theorem unI {f:Value->Sem Value} {g:Int->Int}
  (rule:∀ (i:Int) (t:Tok) (s:Shared) (Q:Value->Shared->Prop) (E:Value->Shared->Prop),Q (.int (g i) s.toks) { s with toks:=s.toks+1 }->wpAny (model X.prog X.w) X.A (f (.int i t)) Q E s) :
  UnR X f (rU λi=>.int (g i)):=by
 intro pins s σ H x v Q I rx h
 obtain ⟨i,rfl,q⟩:=h
 obtain ⟨t,rfl⟩:=rx
 exact rule i t s _ _ ⟨.int (g i),H,I.tok _,⟨_,rfl⟩,q⟩
theorem zmw:UnR X (unaryOp .USub) (rU λi=>.int (-i)):=unI λ_ _ _ _ _ q=>neg_int q
end
def scal:V->V->Bool
 | .non,.non=>true | .non,.int _=>true | .int _,.non=>true | .non,.bl _=>true | .bl _,.non=>true | .non,.str _=>true | .str _,.non=>true
 | .int _,.int _=>true | .bl _,.bl _=>true | .str _,.str _=>true | .byt _,.byt _=>true
 | .int _,.str _=>true | .str _,.int _=>true | .bl _,.str _=>true | .str _,.bl _=>true
 | _,_=>false
def rEq:R2:=λx y H Q=>scal x y=true∧Q (.bl (decide (x=y))) H
def rNe:R2:=λx y H Q=>scal x y=true∧Q (.bl (!decide (x=y))) H
theorem zkt {i j:Int}:decide (V.int i=V.int j)=(i == j):=by
 rw [Bool.eq_iff_iff]
 simp
theorem dec_bl {i j:Bool}:decide (V.bl i=V.bl j)=(i == j):=by
 rw [Bool.eq_iff_iff]
 simp
theorem zkr {i j:Str}:decide (V.str i=V.str j)=(i == j):=by
 rw [Bool.eq_iff_iff]
 simp
theorem zjC {i j:Array UInt8}:decide (V.byt i=V.byt j)=(i.toList == j.toList):=by
 rw [Bool.eq_iff_iff]
 cases i
 cases j
 simp
section
variable {X:Cx} {a b c:Expr} {ta tb tc:TE} {pos:Pos}
theorem fin_bl {pins:List (Addr×Obj)} {σ:St} {H:Hp} {s:Shared} {Q:VK} {k k':Bool} (I:Inv X pins σ H s) (q:Q (.bl k) H) (e:k=k'):EP X pins σ Q (.bool k') s:=by
 subst e
 exact ⟨.bl k,H,I,rfl,q⟩
theorem op_eq:OpR X (compareOp .Eq) rEq:=by
 intro pins s σ H x y v u Q I rx ry h
 obtain ⟨hs,q⟩:=h
 cases x with
 | non =>
  cases rx
  cases y with
  | non=>cases ry;exact PySem.EqNone.eq_none_none (fin_bl I q (by simp))
  | bl j=>cases ry;exact PySem.EqNone.eq_none_bool (fin_bl I q (by simp))
  | int j=>obtain ⟨t',rfl⟩:=ry;exact PySem.EqNone.eq_none_int (fin_bl I q (by simp))
  | str j=>obtain ⟨t',rfl⟩:=ry;exact PySem.EqNone.eq_none_str (fin_bl I q (by simp))
  | _=>exact absurd (show false=true from hs) Bool.false_ne_true
 | bl i =>
  cases rx
  cases y with
  | non=>cases ry;exact PySem.EqNone.eq_bool_none (fin_bl I q (by simp))
  | bl j=>cases ry;exact eq_bool (fin_bl I q dec_bl)
  | str j=>obtain ⟨t',rfl⟩:=ry;exact PySem.EqMixed.eq_bool_str (fin_bl I q (by simp))
  | _=>exact absurd (show false=true from hs) Bool.false_ne_true
 | int i =>
  obtain ⟨t,rfl⟩:=rx
  cases y with
  | non=>cases ry;exact PySem.EqNone.eq_int_none (fin_bl I q (by simp))
  | int j=>obtain ⟨t',rfl⟩:=ry;exact eq_int (fin_bl I q zkt)
  | str j=>obtain ⟨t',rfl⟩:=ry;exact PySem.EqMixed.eq_int_str (fin_bl I q (by simp))
  | _=>exact absurd (show false=true from hs) Bool.false_ne_true
 | str i =>
  obtain ⟨t,rfl⟩:=rx
  cases y with
  | non=>cases ry;exact PySem.EqNone.eq_str_none (fin_bl I q (by simp))
  | bl j=>cases ry;exact PySem.EqMixed.eq_str_bool (fin_bl I q (by simp))
  | int j=>obtain ⟨t',rfl⟩:=ry;exact PySem.EqMixed.eq_str_int (fin_bl I q (by simp))
  | str j=>obtain ⟨t',rfl⟩:=ry;exact eq_str (fin_bl I q zkr)
  | _=>exact absurd (show false=true from hs) Bool.false_ne_true
 | byt i =>
  obtain ⟨t,rfl⟩:=rx
  cases y with
  | byt j=>obtain ⟨t',rfl⟩:=ry;exact W.eq_bytes (fin_bl I q zjC)
  | _=>exact absurd (show false=true from hs) Bool.false_ne_true
 | _=>cases y<;>exact absurd (show false=true from hs) Bool.false_ne_true
theorem op_ne:OpR X (compareOp .NotEq) rNe:=by
 intro pins s σ H x y v u Q I rx ry h
 obtain ⟨hs,q⟩:=h
 cases x with
 | non =>
  cases rx
  cases y with
  | non=>cases ry;exact PySem.EqNone.ne_none_none (fin_bl I q (by simp))
  | bl j=>cases ry;exact PySem.EqNone.ne_none_bool (fin_bl I q (by simp))
  | int j=>obtain ⟨t',rfl⟩:=ry;exact PySem.EqNone.ne_none_int (fin_bl I q (by simp))
  | str j=>obtain ⟨t',rfl⟩:=ry;exact PySem.EqNone.ne_none_str (fin_bl I q (by simp))
  | _=>exact absurd (show false=true from hs) Bool.false_ne_true
 | bl i =>
  cases rx
  cases y with
  | non=>cases ry;exact PySem.EqNone.ne_bool_none (fin_bl I q (by simp))
  | bl j=>cases ry;exact ne_bool (fin_bl I q (congrArg not dec_bl))
  | str j=>obtain ⟨t',rfl⟩:=ry;exact PySem.EqMixed.ne_bool_str (fin_bl I q (by simp))
  | _=>exact absurd (show false=true from hs) Bool.false_ne_true
 | int i =>
  obtain ⟨t,rfl⟩:=rx
  cases y with
  | non=>cases ry;exact PySem.EqNone.ne_int_none (fin_bl I q (by simp))
  | int j=>obtain ⟨t',rfl⟩:=ry;exact ne_int (fin_bl I q (congrArg not zkt))
  | str j=>obtain ⟨t',rfl⟩:=ry;exact PySem.EqMixed.ne_int_str (fin_bl I q (by simp))
  | _=>exact absurd (show false=true from hs) Bool.false_ne_true
 | str i =>
  obtain ⟨t,rfl⟩:=rx
  cases y with
  | non=>cases ry;exact PySem.EqNone.ne_str_none (fin_bl I q (by simp))
  | bl j=>cases ry;exact PySem.EqMixed.ne_str_bool (fin_bl I q (by simp))
  | int j=>obtain ⟨t',rfl⟩:=ry;exact PySem.EqMixed.ne_str_int (fin_bl I q (by simp))
  | str j=>obtain ⟨t',rfl⟩:=ry;exact ne_str (fin_bl I q (congrArg not zkr))
  | _=>exact absurd (show false=true from hs) Bool.false_ne_true
 | byt i =>
  obtain ⟨t,rfl⟩:=rx
  cases y with
  | byt j=>obtain ⟨t',rfl⟩:=ry;exact W.ne_bytes (fin_bl I q (congrArg not zjC))
  | _=>exact absurd (show false=true from hs) Bool.false_ne_true
 | _=>cases y<;>exact absurd (show false=true from hs) Bool.false_ne_true
theorem zjm:OpR X (compareOp .Lt) (rI0 λi j=>.bl (decide (i<j))):=zpD λ_ _ _ _ _ _ _ q=>lt_int q
theorem zlZ:OpR X (compareOp .Gt) (rI0 λi j=>.bl (decide (j<i))):=zpD λ_ _ _ _ _ _ _ q=>gt_int q
theorem zpM:OpR X (compareOp .GtE) (rI0 λi j=>.bl (decide (j≤i))):=zpD λ_ _ _ _ _ _ _ q=>ge_int q
theorem ziQ:OpR X (compareOp .Is) (λx y H Q=>y=.non∧Q (.bl (decide (x=.non))) H):=by
 intro pins s σ H x y v u Q I rx ry h
 obtain ⟨rfl,q⟩:=h
 cases ry
 refine is_none_gen (fin_bl I q ?_)
 cases x<;>first
  | (cases rx;rfl)
  | (obtain ⟨t,rfl⟩:=rx;rfl)
theorem znf:OpR X (compareOp .IsNot) (λx y H Q=>y=.non∧Q (.bl (!decide (x=.non))) H):=by
 intro pins s σ H x y v u Q I rx ry h
 obtain ⟨rfl,q⟩:=h
 cases ry
 refine isnot_none_gen (fin_bl I q ?_)
 cases x<;>first
  | (cases rx;rfl)
  | (obtain ⟨t,rfl⟩:=rx;rfl)
theorem nomark (b:Expr) {op:CmpOp} (h:op≠.In:=by decide) (h2:op≠.NotIn:=by decide):behindInMarks op b=false:=by
 have e1:(op == CmpOp.In)=false:=by cases op<;>first | rfl | exact absurd rfl h
 have e2:(op == CmpOp.NotIn)=false:=by cases op<;>first | rfl | exact absurd rfl h2
 cases b<;>simp [behindInMarks,e1,e2]
theorem pe_cmpR {op:CmpOp} {r:R2} (ho:OpR X (compareOp op) r) (ha:PE X a ta) (hb:PE X b tb) (hm:behindInMarks op b=false):PE X (.Compare a [op] [b] pos) (tOp r ta tb):=by
 intro pins s σ H Q I h
 exact wpAny_Compare1 (binT ha hb I h λv u s2 x y H2 I2 rx ry q=>ho pins s2 σ H2 x y v u Q I2 rx ry q) hm
def zpq (t:TE):TT:=λσ H Q=>t σ H λx H'=>∃ k,x=.bl k∧Q k H'
theorem pt_cmpR {op:CmpOp} {r:R2} (ho:OpR X (compareOp op) r) (ha:PE X a ta) (hb:PE X b tb) (hm:behindInMarks op b=false):PT X (.Compare a [op] [b] pos) (zpq (tOp r ta tb)):=by
 intro pins s σ H Q I h
 refine wpAny_isTrue_Compare1 (thn (ha pins s σ H _ I h) λv s1 ⟨x,H1,I1,r1,q1⟩=>thn (hb pins s1 σ H1 _ I1 q1) λu s2 ⟨y,H2,I2,r2,q2⟩ =>
  thn (ho pins s2 σ H2 x y v u _ I2 r1 r2 q2) λc s3 ⟨z,H3,I3,r3,k,e,q3⟩=>?_) hm
 subst e
 cases r3
 exact wpAny_truthy_bool ⟨H3,I3,q3⟩
theorem ziB:(sizeLine:Nat)<2^63:=by rw [sizeLine_eq];decide
theorem zkl {x:V} {us:List Value} (r:Vals [x] us):∃ u,us=[u]∧RelV x u:=by
 cases r with
 | cons r1 r2=>cases r2;exact ⟨_,rfl,r1⟩
theorem zlz {x y:V} {us:List Value} (r:Vals [x,y] us):∃ u w',us=[u,w']∧RelV x u∧RelV y w':=by
 cases r with
 | cons r1 r2 =>
  cases r2 with
  | cons r3 r4=>cases r4;exact ⟨_,_,rfl,r1,r3⟩
theorem zg8 (hc:X.calm=true):zfe X (.builtin "max") (λxs H Q=>∃ i j,xs=[.int i,.int j]∧Q (.int (if j > i then j else i)) H):=by
 intro pins s σ H xs us Q I r h
 obtain ⟨i,j,rfl,q⟩:=h
 obtain ⟨u,w',rfl,⟨t,rfl⟩,⟨t',rfl⟩⟩:=zlz r
 refine max_two_ints (I.ok.hd hc) λh' tk k=>⟨_,H,I.kept k,?_,q⟩
 by_cases hj:j > i
 ·rw [if_pos hj,if_pos hj];exact ⟨_,rfl⟩
 ·rw [if_neg hj,if_neg hj];exact ⟨_,rfl⟩
theorem zhm:zfe X (.type "int") (λxs H Q=>(∃ i,xs=[.int i]∧Q (.int i) H)∨∃ k,xs=[.bl k]∧Q (.int (if k then 1 else 0)) H):=by
 intro pins s σ H xs us Q I r h
 rcases h with ⟨i,rfl,q⟩ | ⟨k,rfl,q⟩
 ·obtain ⟨u,rfl,t,rfl⟩:=zkl r
  exact call_int_int ⟨.int i,H,I,⟨_,rfl⟩,q⟩
 ·obtain ⟨u,rfl,r1⟩:=zkl r
  cases r1
  exact call_int_bool ⟨.int (if k then 1 else 0),H,I.tok _,⟨_,rfl⟩,q⟩
end
end L2
namespace L2
open PySem PySem.Spec PyProof.Rows
structure ObjM (h:Heap) (x dx C:Addr) (mA:Str->Option Value):Prop where
 obj:h.get? x=some (W.instObj C dx)
 ns:h.Ns1 dx mA
 ne:dx≠x
theorem zla {h:Heap} {dx:Addr} {mA:Str->Option Value} (n:h.Ns1 dx mA):∃ od,h.get? dx=some od∧∀ name,W.lookIn name od=some (mA name):=by
 obtain ⟨o,es,ep,ho,hd,hk,_,hm⟩:=n
 refine ⟨o,ho,λname=>?_⟩
 have e:=hm name
 unfold nsFind findBy at e
 rw [← Array.find?_toList] at e
 unfold W.lookIn
 rw [hd]
 dsimp only
 split
 ·rename_i y q
  rw [q] at e
  exact congrArg some e
 ·rename_i q
  rw [q] at e
  have a:es.toList.any (·.refKey)=false:=by
   rw [List.any_eq_false]
   intro y hy
   obtain ⟨z,t,hkey⟩:=hk y (Array.mem_toList_iff.mp hy)
   simp [DictEntry.refKey,hkey]
  have a':¬ es.toList.any (·.refKey)=true:=by rw [a];exact Bool.false_ne_true
  rw [if_neg a']
  exact congrArg some e
theorem ObjM.look {h:Heap} {x dx C:Addr} {mA:Str->Option Value} (I:ObjM h x dx C mA):∃ od,W.InstAt h x (W.instObj C dx) C (some od)∧∀ name,W.lookIn name od=some (mA name) :=
 let ⟨od,ho,hl⟩:=zla I.ns
 ⟨od,⟨I.obj,rfl,rfl,ho⟩,hl⟩
section
variable {prog:Program} {w:World} {A:Around} {E:Value->Shared->Prop} {s:Shared} {K:W.Frag} {x dx C f:Addr} {mA:Str->Option Value} {name:Str} {v:Value}
theorem znn {expr:Bool} {Q:Value->Shared->Prop} (X:K.In s.heap) (I:ObjM s.heap x dx C mA) (hg:W.plainGet K C name=true) (hh:W.hasDictIn K C=true)
  (ha:W.findIn K (.ref C) name=some none) (hv:mA name=some v) (hv':W.handedIn v=true) (h:Q v { s with toks:=s.toks+1 }) :
  wpAny (model prog w) A (getAttr (.ref x) name expr) Q E s:=by
 obtain ⟨od,J,hl⟩:=I.look
 exact W.get_value X J (W.plainGet_of hg).1 (W.findObj_own hh ha rfl (by rw [hl,hv])) hv' h
theorem znG {ns:List Str} {Q:Unit->Shared->Prop} (X:K.In s.heap) (I:ObjM s.heap x dx C mA)
  (hs:W.findIn K (.ref C) "__setattr__"=some (some (.builtin "object.__setattr__"))) (hp:W.plainOver K C=true) (ht:W.takerIn K C name=some none) (hh:W.hasDictIn K C=true)
  (hw:PySem.Within mA ns) (hsz:ns.length≤sizeLine)
  (h:∀ h',ObjM h' x dx C (λy=>if y=name then some v else mA y)->Heap.SameBut dx s.heap h'->Q () { s with heap:=h',toks:=s.toks+2 }) :
  wpAny (model prog w) A (setAttr (.ref x) name v) Q E s:=by
 obtain ⟨od,J,hl⟩:=I.look
 refine W.set_plain X J hs (W.osa_open (s:={ s with toks:=s.toks+1 }) (r:=none) X J hp ht λb=>?_)
 obtain ⟨cd,hc,hd'⟩:=W.any_some hh
 have hx:s.heap.get? x=some ⟨.ref C,some dx,.plain,#[]⟩:=I.obj
 refine wpAny_bind (wpAny_pure (wpAny_bind (wpAny_bind (wpAny_loadPart hx (wpAny_bind (W.Looks.here (s:={ s with toks:=s.toks+1 }) (W.looks_clsIn X hc) ?_))))))
 rw [hd']
 refine wpAny_pure (a:=some dx) (wpAny_bind (wpAny_pure (wpAny_bind ?_)))
 refine wpAny_nsSet1 (s:={ s with toks:=s.toks+1 }) I.ns λh' hn2 hs2=>?_
 obtain ⟨oD,esD,epD,hoD,hdD,hcD⟩:=hn2.count (PySem.Within.cons name v hw)
 refine wpAny_bind (wpAny_lookBehind hoD (by rw [hdD];exact pastItsLine_dict (Nat.le_trans hcD (by rw [List.length_cons];omega))) ?_)
 exact wpAny_pure (h _ ⟨(hs2.2 _ (Ne.symm I.ne)).trans I.obj,hn2,I.ne⟩ hs2)
theorem zlY {R:Result->Shared->Prop} {vs:List Value} {kw:List (Str×Value)} (X:K.In s.heap) (hm:W.makesIn K C=true)
  (hi:W.findIn K (.ref C) "__init__"=some (some (.ref f))) (hf:W.typeIn K (.ref f)=some (.type "function"))
  (h:codeAny (model prog w) (A.under (.builtin "type.__call__" ⟨.ref C :: vs,kw⟩)) (.call (.ref f) ⟨.ref (s.heap.objs.size+1) :: vs,kw⟩) (W.InitBack (s.heap.objs.size+1) R)
   { s with heap:=(s.heap.push W.emptyDict).push (W.instObj C s.heap.objs.size) }) :
  codeAny (model prog w) A (.call (.ref C) ⟨vs,kw⟩) R s:=by
 obtain ⟨hh,g,d,t,os⟩:=s
 exact W.make_core (W.makes_of X hm) (W.looks_findIn X hi) (λself=>W.bind_fn X self hf) (.inl rfl) h
end
def putF (f:Str) (v:V):List (Str×V)->List (Str×V)
 | []=>[(f,v)]
 | (g,x) :: r=>if g=f then (g,v) :: r else (g,x) :: putF f v r
theorem zf0 (f g:Str) (v:V):∀ fs:List (Str×V),(putF f v fs).lookup g=if g=f then some v else fs.lookup g
 | []=>by
  show List.lookup g [(f,v)]=_
  by_cases h:g=f
  ·have hb:(g == f)=true:=beq_iff_eq.mpr h
   simp only [List.lookup,hb,if_pos h]
  ·have hb:(g == f)=false:=beq_eq_false_iff_ne.mpr h
   simp only [List.lookup,hb,if_neg h]
 | (k,x) :: r=>by
  have ih:=zf0 f g v r
  rw [show putF f v ((k,x) :: r)=(if k=f then (k,v) :: r else (k,x) :: putF f v r) from rfl]
  by_cases hk:k=f
  ·rw [if_pos hk]
   by_cases h:g=k
   ·have hb:(g == k)=true:=beq_iff_eq.mpr h
    simp only [List.lookup,hb,if_pos (h.trans hk)]
   ·have hb:(g == k)=false:=beq_eq_false_iff_ne.mpr h
    simp only [List.lookup,hb,if_neg (λe:g=f=>h (e.trans hk.symm))]
  ·rw [if_neg hk]
   by_cases h:g=k
   ·have hb:(g == k)=true:=beq_iff_eq.mpr h
    simp only [List.lookup,hb,if_neg (λe:g=f=>hk (h.symm.trans e))]
   ·have hb:(g == k)=false:=beq_eq_false_iff_ne.mpr h
    simp only [List.lookup,hb]
    exact ih
theorem zfR (f:Str) (v:V):∀ fs:List (Str×V),f∈(putF f v fs).map (·.1)∧∀ g,g∈fs.map (·.1)->g∈(putF f v fs).map (·.1)
 | []=>⟨by simp [putF],λg h=>by simp at h⟩
 | (k,x) :: r=>by
  obtain ⟨i1,i2⟩:=zfR f v r
  rw [show putF f v ((k,x) :: r)=(if k=f then (k,v) :: r else (k,x) :: putF f v r) from rfl]
  by_cases hk:k=f
  ·rw [if_pos hk]
   subst hk
   exact ⟨by simp,λg h=>by simpa using h⟩
  ·rw [if_neg hk]
   refine ⟨?_,λg h=>?_⟩
   ·rw [List.map_cons]
    exact List.mem_cons_of_mem _ i1
   ·rw [List.map_cons] at h ⊢
    rcases List.mem_cons.mp h with e | e
    ·exact List.mem_cons.mpr (.inl e)
    ·exact List.mem_cons_of_mem _ (i2 g e)
theorem zf7 (f:Str) (v:V):∀ fs:List (Str×V),(putF f v fs).length≤fs.length+1
 | []=>by simp [putF]
 | (k,x) :: r=>by
  have ih:=zf7 f v r
  rw [show putF f v ((k,x) :: r)=(if k=f then (k,v) :: r else (k,x) :: putF f v r) from rfl]
  by_cases hk:k=f
  ·rw [if_pos hk,List.length_cons,List.length_cons];omega
  ·rw [if_neg hk,List.length_cons,List.length_cons];omega
theorem zm5.some_of {v:V} {o:Option Value} (r:zm5 (some v) o):∃ u,o=some u∧RelV v u:=by
 cases o with
 | none=>exact (show False from r).elim
 | some u=>exact ⟨u,rfl,r⟩
theorem zjV {v:V} {u:Value} (r:RelV v u):W.handedIn u=true:=by
 cases v with
 | non=>cases (show u=Value.none from r);rfl
 | bl b=>cases (show u=Value.bool b from r);rfl
 | int i=>obtain ⟨t,e⟩:=(show ∃ t,u=Value.int i t from r);cases e;rfl
 | str x=>obtain ⟨t,e⟩:=(show ∃ t,u=Value.str x t from r);cases e;rfl
 | byt b=>obtain ⟨t,e⟩:=(show ∃ t,u=Value.bytes b t from r);cases e;rfl
 | flt b=>obtain ⟨t,e⟩:=(show ∃ t,u=Value.float b t from r);cases e;rfl
 | ref a=>cases (show u=Value.ref a from r);rfl
 | ty n=>cases (show u=Value.type n from r);rfl
section
variable {P:Program} {w:World} {H H':Hp} {h h':Heap} {a C dx:Addr} {fs fs':List (Str×V)}
theorem zh6 (hok:HOk P w H h) (e:H a=some (.ins C dx fs)):∃ mA,ObjM h a dx C mA∧(∀ f,zm5 (fs.lookup f) (mA f))∧PySem.Within mA (fs.map (·.1))∧fs.length≤1000∧H dx=some (.own a):=by
 obtain ⟨d,z,ne,ob,mA,n,r,q⟩:=(show zcs P w H h a (.ins C dx fs) from hok a _ e)
 exact ⟨mA,⟨ob,n,ne⟩,r,q,z,d⟩
end
structure Cls (K:W.Frag) (C:Addr):Prop where
 pg:W.plainGet K C Str.empty=true
 hd:W.hasDictIn K C=true
 po:W.plainOver K C=true
 sa:W.findIn K (.ref C) "__setattr__"=some (some (.builtin "object.__setattr__"))
theorem Cls.get {K:W.Frag} {C:Addr} (c:Cls K C) (f:Str):W.plainGet K C f=true:=c.pg
def NoAttr (K:W.Frag) (C:Addr) (f:Str):Prop:=W.findIn K (.ref C) f=some none
theorem NoAttr.taker {K:W.Frag} {C:Addr} {f:Str} (n:NoAttr K C f):W.takerIn K C f=some none:=by
 unfold W.takerIn
 rw [show W.findIn K (.ref C) f=some none from n]
 rfl
structure Con (K:W.Frag) (C:Addr) (f:Str) (v:V) (u:Value):Prop where
 at_:W.findIn K (.ref C) f=some (some u)
 rel:RelV v u
 get:W.specialIn K u "__get__"=some none
 cp:W.copiedNames.contains f=false
structure Meth (K:W.Frag) (C:Addr) (m:Str) (f:Addr):Prop where
 at_:W.findIn K (.ref C) m=some (some (.ref f))
 fn:W.isFn K (.ref f)=true
 kp:W.keepIn K (.ref f)=true
section
variable {X:Cx} {pins:List (Addr×Obj)} {σ:St} {H:Hp} {s:Shared} {a C dx:Addr} {fs:List (Str×V)} {f:Str} {v:V} {A:Around} {E:Value->Shared->Prop}
theorem zja {b:Bool} {Q:Value->Shared->Prop} (I:Inv X pins σ H s) (e:H a=some (.ins C dx fs)) (c:Cls X.K C) (n:NoAttr X.K C f) (l:fs.lookup f=some v)
  (h:∀ u s',Inv X pins σ H s'->RelV v u->Q u s'):wpAny (model X.prog X.w) A (getAttr (.ref a) f b) Q E s:=by
 obtain ⟨mA,O,r,_,_,_⟩:=zh6 I.hok e
 obtain ⟨u,hu,ru⟩:=zm5.some_of (v:=v) (o:=mA f) (by rw [← l];exact r f)
 exact znn I.kIn O (c.get f) c.hd n hu (zjV ru) (h u _ (I.tok _) ru)
theorem zi6 {y:V} {u:Value} {Q:Unit->Shared->Prop} (I:Inv X pins σ H s) (e:H a=some (.ins C dx fs)) (c:Cls X.K C) (n:NoAttr X.K C f) (hl:fs.length<1000) (ry:RelV y u)
  (h:∀ s',Inv X pins σ (upd H a (.ins C dx (putF f y fs))) s'->Q () s'):wpAny (model X.prog X.w) A (setAttr (.ref a) f u) Q E s:=by
 obtain ⟨mA,O,r,wi,_,ho⟩:=zh6 I.hok e
 have hz:(fs.map (·.1)).length≤sizeLine:=by rw [List.length_map,sizeLine_eq];omega
 refine znG I.kIn O c.sa c.po n.taker c.hd wi hz λh' O' sb=>h _ ?_
 have hd:∃ o,h'.get? dx=some o:=let ⟨o,_,_,e',_⟩:=O'.ns;⟨o,e'⟩
 refine I.write (x:=a) (e:=dx) (by rw [e];exact True.intro) (.inr ho) (λb q hb z=>(sb.2 b hb).trans z) hd ?_
 refine ⟨by rw [upd_ne O.ne];exact ho,?_,O.ne,O'.obj,_,O'.ns,λg=>?_,λg hg=>?_⟩
 ·have:=zf7 f y fs;omega
 ·show zm5 ((putF f y fs).lookup g) (if g=f then some u else mA g)
  rw [zf0]
  by_cases q:g=f
  ·rw [if_pos q,if_pos q];exact ry
  ·rw [if_neg q,if_neg q];exact r g
 ·by_cases q:g=f
  ·rw [q];exact (zfR f y fs).1
  ·refine (zfR f y fs).2 g (wi g λz=>hg ?_)
   show (if g=f then some u else mA g)=none
   rw [if_neg q];exact z
theorem Inv.made (I:Inv X pins σ H s):Inv X pins σ (upd (upd H s.heap.objs.size (.own (s.heap.objs.size+1))) (s.heap.objs.size+1) (.ins C s.heap.objs.size []))
  { s with heap:=(s.heap.push W.emptyDict).push (W.instObj C s.heap.objs.size) }:=by
 have e1:(s.heap.push W.emptyDict).get? s.heap.objs.size=some W.emptyDict:=Heap.get?_push_size s.heap rfl
 have e2:((s.heap.push W.emptyDict).push (W.instObj C s.heap.objs.size)).get? (s.heap.objs.size+1)=some (W.instObj C s.heap.objs.size):=by
  have:=Heap.get?_push_size (s.heap.push W.emptyDict) (o:=W.instObj C s.heap.objs.size) rfl
  rwa [Heap.size_push] at this
 have e3:(s.heap.push W.emptyDict).Ns s.heap.objs.size (λ_=>none):=⟨W.emptyDict,#[],_,e1,rfl,(λe he=>absurd he (by simp)),λ_=>rfl⟩
 have I1:=I.laid (a:=s.heap.objs.size) (o:=.own (s.heap.objs.size+1)) (h':=s.heap.push W.emptyDict) (t':=s.toks) (λb u q=>Heap.get?_push_of_some _ q) (Nat.le_refl _) ⟨_,e1⟩
 refine I1.laid (a:=s.heap.objs.size+1) (o:=.ins C s.heap.objs.size []) (t':=s.toks) (λb u q=>Heap.get?_push_of_some _ q) (Nat.le_of_eq (Heap.size_push _ _)) ?_
 have ne:s.heap.objs.size≠s.heap.objs.size+1:=Nat.ne_of_lt (Nat.lt_succ_self _)
 refine ⟨by rw [upd_ne ne,upd_same],Nat.zero_le _,ne,e2,λ_=>none,(Heap.Ns1.of_empty e3).at λo q=>Heap.get?_push_of_some _ q,λ_=>True.intro,λy hy=>absurd rfl hy⟩
theorem attr_of {prog:Program} {w:World} {env:Env} {e:Expr} {f:Str} {pos:Pos} {s:Shared} {Q:Value->Shared->Prop} (hb:attributeBase e f env (eval e env)=eval e env)
  (h:wpAny (model prog w) A (eval e env) (λo s₁=>wpAny (model prog w) A (getAttr o f true) Q E s₁) E s):wpAny (model prog w) A (eval (.Attribute e f pos) env) Q E s :=
 Attribute_any_ h (by rw [arm_eval_Attribute,hb])
end
def tFld (K:W.Frag) (ta:TE) (f:Str):TE:=λσ H Q=>ta σ H λx H1=>∃ a C dx fs v,x=.ref a∧H1 a=some (.ins C dx fs)∧Cls K C∧NoAttr K C f∧fs.lookup f=some v∧Q v H1
def zpR (K:W.Frag) (ta tv:TE) (f:Str):TS:=λD σ H=>tv σ H λy H1=>ta σ H1 λx H2=>∃ a C dx fs,x=.ref a∧H2 a=some (.ins C dx fs)∧Cls K C∧NoAttr K C f∧fs.length<1000 ∧
 D.nx σ (upd H2 a (.ins C dx (putF f y fs)))
section
variable {X:Cx} {o e value:Expr} {f:Str} {pos pos' tpos:Pos} {ta tv:TE}
theorem zoo (he:PE X e ta) (hb:attributeBase e f X.env (eval e X.env)=eval e X.env):PE X (.Attribute e f pos) (tFld X.K ta f):=by
 intro pins s σ H Q I h
 refine attr_of hb (thn (he pins s σ H _ I h) λu s1 ⟨x,H1,I1,rx,a,C,dx,fs,v,ex,ea,c,n,l,q⟩=>?_)
 subst ex
 obtain rfl:u=Value.ref a:=rx
 exact zja I1 ea c n l λu' s2 I2 ru=>⟨v,H1,I2,ru,q⟩
theorem zmy (ha:PE X o ta) (hv:PE X value tv) (hs:swapsWith value (some (.Attribute o f pos')) pos.line X.env=pure false):PS X (.Assign [.Attribute o f pos'] value pos) (zpR X.K ta tv f):=by
 intro pins s σ H D I h
 refine plainObj_wpAny_Assign_Attribute (thn (hv pins s σ H _ I h) λu s1 ⟨y,H1,I1,ry,q⟩=>thn (ha pins s1 σ H1 _ I1 q) λov s2 ⟨x,H2,I2,rx,a,C,dx,fs,ex,ea,c,n,l,q2⟩=>?_) hs
 subst ex
 obtain rfl:ov=Value.ref a:=rx
 exact zi6 I2 ea c n l ry λs3 I3=>⟨σ,_,I3,q2⟩
end
section
variable {X:Cx} {pins:List (Addr×Obj)} {σ:St} {H:Hp} {s:Shared} {A:Around} {E:Value->Shared->Prop} {Q:Value->Shared->Prop} {c:Value} {b:Bool}
inductive TyOf (K:W.Frag) (H:Hp):V->Value->Prop where
 | non:TyOf K H .non (.type "NoneType")
 | bl (x:Bool):TyOf K H (.bl x) (.type "bool")
 | int (i:Int):TyOf K H (.int i) (.type "int")
 | str (x:Str):TyOf K H (.str x) (.type "str")
 | flt (x:UInt64):TyOf K H (.flt x) (.type "float")
 | lst {a:Addr} {xs:List V} (e:H a=some (.lst xs)):TyOf K H (.ref a) (.type "list")
 | frz {a:Addr} {o:Obj} {xs:List V} (e:H a=some (.frz o (.lst xs))):TyOf K H (.ref a) (.type "list")
 | tup {a:Addr} {xs:List V} (e:H a=some (.tup xs)):TyOf K H (.ref a) (.type "tuple")
 | dK {a:Addr} {kvs:List (Key×V)} (e:H a=some (.dK kvs)):TyOf K H (.ref a) (.type "dict")
 | dT {a:Addr} {kvs:List (List Key×V)} (e:H a=some (.dT kvs)):TyOf K H (.ref a) (.type "dict")
 | ins {a C dx:Addr} {fs:List (Str×V)} (e:H a=some (.ins C dx fs)) (cl:Cls K C) (ha:W.findIn K (.ref C) "__class__"=some (some (.builtin "object.__class__")))
   (hn:W.specialIn K (.builtin "object.__class__") "__get__"=some (some (.builtin "getset_descriptor.__get__"))) (htk:W.takesIn K (.builtin "object.__class__")=some true)
   (hm:W.mroIn K C (.type "object")=some true):TyOf K H (.ref a) (.ref C)
theorem isinst_ok {x:V} {u t:Value} (I:Inv X pins σ H s) (rx:RelV x u) (ty:TyOf X.K H x t) (e:W.kitOne X.K t c=some b) (h:∀ tk,Q (.bool b) { s with toks:=tk }) :
  wpAny (model X.prog X.w) A (call (.builtin "isinstance") [u,c]) Q E s:=by
 cases ty with
 | non=>cases (show u=Value.none from rx);exact W.kia_one W.kitx_none I.kIn True.intro e (λz=>nomatch z) h
 | bl y=>cases (show u=Value.bool y from rx);exact W.kia_one W.kitx_bool I.kIn True.intro e (λz=>nomatch z) h
 | int i=>obtain ⟨t,q⟩:=(show ∃ t,u=Value.int i t from rx);cases q;exact W.kia_one W.kitx_int I.kIn True.intro e (λz=>nomatch z) h
 | str y=>obtain ⟨t,q⟩:=(show ∃ t,u=Value.str y t from rx);cases q;exact W.kia_one W.kitx_str I.kIn True.intro e (λz=>nomatch z) h
 | flt y=>obtain ⟨t,q⟩:=(show ∃ t,u=Value.float y t from rx);cases q;exact W.kia_one W.kitx_float I.kIn True.intro e (λz=>nomatch z) h
 | @lst a xs ea =>
  cases (show u=Value.ref a from rx)
  obtain ⟨_,_,n,_,h1⟩:=(show zcs X.prog X.w H s.heap a (.lst xs) from I.hok a _ ea)
  exact W.kia_one W.kitx_list I.kIn ⟨_,h1,rfl⟩ e (λz=>nomatch z) h
 | @frz a ob xs ea =>
  cases (show u=Value.ref a from rx)
  obtain ⟨_,_,_,n,_,h1⟩:=(show zcs X.prog X.w H s.heap a (.frz ob (.lst xs)) from I.hok a _ ea)
  exact W.kia_one W.kitx_list I.kIn ⟨_,h1,rfl⟩ e (λz=>nomatch z) h
 | @tup a xs ea =>
  cases (show u=Value.ref a from rx)
  obtain ⟨_,_,_,p⟩:=(show zcs X.prog X.w H s.heap a (.tup xs) from I.hok a _ ea)
  obtain ⟨o,h1,h2,_⟩:=p
  exact W.kia_one W.kitx_tuple I.kIn ⟨o,h1,h2⟩ e (λz=>nomatch z) h
 | @dK a kvs ea =>
  cases (show u=Value.ref a from rx)
  obtain ⟨_,_,vs,_,p⟩:=(show zcs X.prog X.w H s.heap a (.dK kvs) from I.hok a _ ea)
  obtain ⟨o,es,ep,h1,h2,_⟩:=p
  exact W.kia_one W.kitx_dict I.kIn ⟨o,h1,h2.1⟩ e (λz=>nomatch z) h
 | @dT a kvs ea =>
  cases (show u=Value.ref a from rx)
  obtain ⟨_,_,xs,_,o,es,ep,h1,h2,_⟩:=(show zcs X.prog X.w H s.heap a (.dT kvs) from I.hok a _ ea)
  exact W.kia_one W.kitx_dict I.kIn ⟨o,h1,h2.1⟩ e (λz=>nomatch z) h
 | @ins a C dx fs ea cl ha hn htk hm =>
  cases (show u=Value.ref a from rx)
  obtain ⟨mA,O,_⟩:=zh6 I.hok ea
  obtain ⟨od,J,_⟩:=O.look
  exact W.kia_one (W.kitx_own (cl.get _) cl.hd ha hn htk hm) I.kIn J e (λz=>nomatch z) h
end
end L2
namespace L2
open PySem PySem.Spec PyProof.Rows
structure Room (k:Nat) (A:Around):Prop where
 hd:A.handled=none
 dp:A.depth+3*k+5<recursionLimit
 un:A.units+16*k+200<cLine
theorem Room.mono {j k:Nat} {A:Around} (r:Room k A) (h:j≤k):Room j A:=⟨r.hd,by have:=r.dp;omega,by have:=r.un;omega⟩
theorem Room.deeper {k:Nat} {A:Around} (r:Room (k+1) A) (env:Env):Room k (A.deeper env) :=
 ⟨r.hd,by have:=r.dp;show A.depth+1+3*k+5<_;omega,by have:=r.un;show A.units+3+16*k+200<_;omega⟩
theorem Room.in1 {k:Nat} {A:Around} (r:Room (k+1) A):Room k A.in1 :=
 ⟨r.hd,by have:=r.dp;show A.depth+3*k+5<_;omega,by have:=r.un;show A.units+1+16*k+200<_;omega⟩
theorem zjq {A:Around} {C:Addr} {us:List Value} {kw:List (Str×Value)}:(A.under (.builtin "type.__call__" ⟨.ref C :: us,kw⟩)).depth=A.depth+1:=by
 first | rfl | simp [Around.under,Code.weight,Code.isCreation,Code.isGuard,Code.isCaller,Code.frames,Code.isFrame,guardIds]
theorem zjh {A:Around} {C:Addr} {us:List Value} {kw:List (Str×Value)}:(A.under (.builtin "type.__call__" ⟨.ref C :: us,kw⟩)).units=A.units+1:=by
 first | rfl | simp [Around.under,Code.cUnits,Code.frames,Code.isFrame]
theorem Room.make {k:Nat} {A:Around} (r:Room (k+1) A) (C:Addr) (us:List Value) (kw:List (Str×Value)):Room k (A.under (.builtin "type.__call__" ⟨.ref C :: us,kw⟩)) :=
 ⟨r.hd,by have:=r.dp;rw [zjq];omega,by have:=r.un;rw [zjh];omega⟩
theorem Room.depth {k:Nat} {A:Around} (r:Room k A):A.depth<recursionLimit:=by have:=r.dp;omega
theorem Room.units {k:Nat} {A:Around} (r:Room k A):A.units+64<cLine:=by have:=r.un;omega
def tNil:TA:=λ_ H Q=>Q [] H
def tCons (ta:TE) (tr:TA):TA:=λσ H Q=>ta σ H λx H1=>tr σ H1 λxs H2=>Q (x :: xs) H2
section
variable {X:Cx} {e:Expr} {es:List Expr} {te:TE} {t:TA} {pos:Pos}
theorem pa_nil:PA X [] tNil:=λ_ _ _ _ H Q I h=>Calls.spliced_nil ⟨[],H,I,.nil,h⟩
theorem pa_cons (ha:PE X e te) (hr:PA X es t) (hs:starEach (e :: es) X.env=(false,eval e X.env) :: starEach es X.env:=by rfl):PA X (e :: es) (tCons te t):=by
 intro pos pins s σ H Q I h
 rw [hs]
 show wpAny _ _ (spliced ((false,eval e X.env) :: backTo pos (starEach es X.env))) _ _ s
 refine Calls.spliced_cons (thn (ha pins s σ H _ I h) λu s1 ⟨x,H1,I1,r1,q1⟩=>?_)
 exact thn (hr pos pins s1 σ H1 _ I1 q1) λus s2 ⟨xs,H2,I2,r2,q2⟩=>⟨x :: xs,H2,I2,.cons r1 r2,q2⟩
def zqo (t:TA):TE:=λσ H Q=>t σ H λxs H1=>xs.length≤sizeLine∧∀ p,H1 p=none->Q (.ref p) (upd H1 p (.tup xs))
def zpF (t:TA):TE:=λσ H Q=>t σ H λxs H1=>xs.length≤sizeLine∧∀ p,H1 p=none->Q (.ref p) (upd H1 p (.lst xs))
theorem zfj {x1} (h:PA X es t):PE X (.Tuple es x1 pos) (zqo t):=by
 intro pins s σ H Q I hq
 refine wpAny_Tuple_spliced (thn (h pos pins s σ H _ I hq) λus s1 ⟨xs,H1,I1,r,z,q⟩=>⟨by rw [← r.length];exact z,?_⟩)
 have hf:H1 s1.heap.objs.size=none:=I1.hok.fresh (Nat.le_refl _)
 refine ⟨.ref s1.heap.objs.size,upd H1 s1.heap.objs.size (.tup xs),I1.laid (t':=s1.toks) (λb u e=>Heap.get?_push_of_some _ e) (Nat.le_refl _) ?_,rfl,q _ hf⟩
 exact ⟨z,us,r,⟨_,Heap.get?_push_size _ rfl,rfl,_,rfl⟩⟩
theorem za2 (h:PA X es t):PE X (.List es pos) (zpF t):=by
 intro pins s σ H Q I hq
 refine wpAny_List_spliced (thn (h pos pins s σ H _ I hq) λus s1 ⟨xs,H1,I1,r,z,q⟩=>⟨by rw [← r.length];exact z,?_⟩)
 have hf:H1 s1.heap.objs.size=none:=I1.hok.fresh (Nat.le_refl _)
 refine ⟨.ref s1.heap.objs.size,upd H1 s1.heap.objs.size (.lst xs),I1.laid (t':=s1.toks) (λb u e=>Heap.get?_push_of_some _ e) (Nat.le_refl _) ?_,rfl,q _ hf⟩
 exact ⟨z,us,0,r,Heap.get?_push_size _ rfl⟩
end
abbrev Sp:=List V->Hp->VK->XK->Prop
abbrev CXT:=List Env->Hp->Shared->XK->Value->Shared->Prop
structure Env0 (P:Program) (w:World) (K:W.Frag) (mg:Str->Option Value) (base:Heap) (A:Around) (outer:List Env) (s:Shared) (H:Hp):Prop where
 frames:A.frames=some outer
 mod:Mod K mg base
 bs:∀ b o,base.get? b=some o->s.heap.get? b=some o∧H b=none
 bsz:base.objs.size≤s.heap.objs.size
 funs:s.heap.FunFrames base outer
 frf:∀ b∈frs outer,H b=none
 hok:HOk P w H s.heap
 bare:AllBare s.gens
def CE (outer:List Env) (P:Program) (w:World) (H:Hp) (s:Shared) (Q:VK) (u:Value) (s':Shared):Prop :=
 ∃ v H',s'.os=s.os∧AllBare s'.gens∧Un (frs outer) [] H H' s.heap s'.heap∧HOk P w H' s'.heap∧RelV v u∧Q v H'
def CR (CX:CXT) (outer:List Env) (P:Program) (w:World) (H:Hp) (s:Shared) (Q:VK) (E:XK) (r:Result) (s':Shared):Prop :=
 match r with
 | .ok (.ret u)=>CE outer P w H s Q u s'
 | .ok _=>False
 | .error e=>CX outer H s E e s'
structure FnOk (P:Program) (w:World) (K:W.Frag) (mg:Str->Option Value) (base:Heap) (CX:CXT) (k:Nat) (f:Addr) (fd:FuncData) (ps:List Str) (sp:Sp):Prop where
 len:∀ vs H Q E,sp vs H Q E->vs.length=ps.length
 run:∀ (A:Around) (outer:List Env) (s:Shared) (H:Hp) (args:Args) (us:List Value) (vs:List V) (Q:VK) (E:XK),Room k A->Env0 P w K mg base A outer s H->BindsTo s fd args (ps.zip us)->Vals vs us->sp vs H Q E →
  codeAny (model P w) A (.call (.ref f) args) (CR CX outer P w H s Q E) s
theorem FnOk.imp {P:Program} {w:World} {K:W.Frag} {mg:Str->Option Value} {base:Heap} {CX:CXT} {k:Nat} {f:Addr} {fd:FuncData} {ps:List Str} {sp sp':Sp} (F:FnOk P w K mg base CX k f fd ps sp)
  (h:∀ vs H Q E,sp' vs H Q E->sp vs H Q E):FnOk P w K mg base CX k f fd ps sp' :=
 ⟨λvs H Q E q=>F.len vs H Q E (h _ _ _ _ q),λA outer s H args us vs Q E hr he hb hv hs=>F.run A outer s H args us vs Q E hr he hb hv (h _ _ _ _ hs)⟩
theorem Env0.make {P:Program} {w:World} {K:W.Frag} {mg:Str->Option Value} {base:Heap} {A:Around} {outer:List Env} {s:Shared} {H:Hp} (e:Env0 P w K mg base A outer s H) (C:Addr) (us:List Value) (kw:List (Str×Value)) :
  Env0 P w K mg base (A.under (.builtin "type.__call__" ⟨.ref C :: us,kw⟩)) outer s H:=⟨by first | exact e.frames | (simpa [Around.under,Code.envs,Code.isFrame,pushEnvs] using e.frames),e.mod,e.bs,e.bsz,e.funs,e.frf,e.hok,e.bare⟩
theorem Env0.in1 {P:Program} {w:World} {K:W.Frag} {mg:Str->Option Value} {base:Heap} {A:Around} {outer:List Env} {s:Shared} {H:Hp} (e:Env0 P w K mg base A outer s H) :
  Env0 P w K mg base A.in1 outer s H:=⟨e.frames,e.mod,e.bs,e.bsz,e.funs,e.frf,e.hok,e.bare⟩
section
variable {X:Cx} {pins:List (Addr×Obj)} {σ:St} {H:Hp} {s s':Shared}
theorem Inv.env0 (I:Inv X pins σ H s):Env0 X.prog X.w X.K X.mg X.base X.A X.stack s H :=
 ⟨I.ok.frames,I.ok.mod,I.bs,Nat.le_trans I.ok.bsz I.sz,I.stack,I.stkFree,I.hok,I.bare⟩
theorem Inv.after {Q:VK} {u:Value} (I:Inv X pins σ H s) (h:CE X.stack X.prog X.w H s Q u s'):EP X pins σ Q u s':=by
 obtain ⟨v,H',os,bare,un,hok,r,q⟩:=h
 obtain ⟨hh,g,d,t,os'⟩:=s'
 obtain rfl:os'=s.os:=os
 exact ⟨v,H',I.call (h':=hh) (g':=g) (d':=d) (t':=t) (ch:=[]) un hok bare (λb z=>absurd z (by simp)),r,q⟩
end
def tCall (sp:Sp) (dvs:List V) (E:XK) (t:TA):TE:=λσ H Q=>t σ H λvs H1=>sp (vs++dvs) H1 Q E
def zod (C:Addr) (sp:Sp) (dvs:List V) (E:XK) (t:TA):TE:=λσ H Q=>t σ H λvs H1=>∀ x dx,H1 x=none->H1 dx=none->dx≠x →
 sp (.ref x :: (vs++dvs)) (upd (upd H1 dx (.own x)) x (.ins C dx [])) (λv H2=>v=.non∧Q (.ref x) H2) E
def zgX (K:W.Frag) (fd:FuncData) (ps:List Str) (ds:List Value):Prop :=
 ∀ (s:Shared) (us:List Value),K.In s.heap->(us++ds).length=ps.length->BindsTo s fd ⟨us,[]⟩ (ps.zip (us++ds))
theorem zgX.all {K:W.Frag} {fd:FuncData} {ps:List Str} (h:∀ us:List Value,us.length=ps.length->bindArgs fd ⟨us,[]⟩=pure (ps.zip us)):zgX K fd ps []:=λs us _ hl=>by
 rw [List.append_nil] at hl ⊢
 exact .of_eq (h us hl)
def zgl (CX:CXT) (X:Cx) (E:XK):Prop:=∀ (pins:List (Addr×Obj)) (σ:St) (H:Hp) (s:Shared) (e:Value) (s':Shared),Inv X pins σ H s->CX X.stack H s E e s'->X.xe e s'
section
variable {X:Cx} {CX:CXT} {k:Nat} {f C:Addr} {fd:FuncData} {ps:List Str} {sp:Sp} {dvs:List V} {ds:List Value} {E:XK} {x m:Str} {p pos apos:Pos} {e o:Expr} {es:List Expr} {ta:TE} {t:TA}
theorem zoH {pins:List (Addr×Obj)} {σ:St} {H:Hp} {s:Shared} {Q:VK} {us:List Value} {vs:List V} (F:FnOk X.prog X.w X.K X.mg X.base CX k f fd ps sp) (hr:Room k X.A) (hb:zgX X.K fd ps ds) (hd:Vals dvs ds) (hx:zgl CX X E)
  (I:Inv X pins σ H s) (r:Vals vs us) (h:sp (vs++dvs) H Q E):wpAny (model X.prog X.w) X.A (call (.ref f) us) (EP X pins σ Q) X.xe s:=by
 have r2:Vals (vs++dvs) (us++ds):=r.append hd
 have hl:(us++ds).length=ps.length:=by rw [← r2.length];exact F.len _ _ _ _ h
 refine wpAny_call (codeAny_mono (F.run X.A X.stack s H ⟨us,[]⟩ (us++ds) (vs++dvs) Q E hr I.env0 (hb s us I.kIn hl) r2 h) λr s' hq=>?_)
 cases r with
 | error e=>exact hx pins σ H s e s' I hq
 | ok fl =>
  cases fl with
  | ret u=>exact I.after hq
  | next=>exact False.elim hq
  | brk=>exact False.elim hq
  | cont=>exact False.elim hq
theorem zmX (F:FnOk X.prog X.w X.K X.mg X.base CX k f fd ps sp) (hr:Room k X.A) (hg:Gl X x) (hm:X.mg x=some (.ref f)) (hk:W.keepIn X.K (.ref f)=true) (hb:zgX X.K fd ps ds) (hd:Vals dvs ds) (hx:zgl CX X E)
  (ha:PA X (e :: es) t) (hdb:(x == ("__debug__":Str))=false:=by decide) (he:starEach (e :: es) X.env=(false,eval e X.env) :: starEach es X.env:=by rfl) (hpl:(backTo pos (starEach es X.env)).any (·.1)=false:=by rfl) :
  PE X (.Call (.Name x p) (e :: es) [] pos) (tCall sp dvs E t):=by
 intro pins s σ H Q I h
 refine wpAny_Call_Name_kw (ld_glob I hg hm ?_ hdb)
 refine W.callWith_K (h₀:=X.base) I.ok.mod.kin hk (thn (ha pos pins s σ H _ I h) λus s1 ⟨vs,H1,I1,r,q⟩=>⟨I1.kIn,?_⟩) he hpl
 exact zoH F hr hb hd hx I1 r q
structure Mk (K:W.Frag) (C f:Addr):Prop where
 makes:W.makesIn K C=true
 init:W.findIn K (.ref C) "__init__"=some (some (.ref f))
 fn:W.isFn K (.ref f)=true
 kp:W.keepIn K (.ref C)=true
theorem zlm {pins:List (Addr×Obj)} {σ:St} {H:Hp} {s:Shared} {Q:VK} {us:List Value} {vs:List V} (M:Mk X.K C f) (F:FnOk X.prog X.w X.K X.mg X.base CX k f fd ps sp) (hr:Room (k+1) X.A) (hb:zgX X.K fd ps ds) (hd:Vals dvs ds)
  (hx:zgl CX X E) (I:Inv X pins σ H s) (r:Vals vs us)
  (h:∀ x dx,H x=none->H dx=none->dx≠x->sp (.ref x :: (vs++dvs)) (upd (upd H dx (.own x)) x (.ins C dx [])) (λv H2=>v=.non∧Q (.ref x) H2) E) :
  wpAny (model X.prog X.w) X.A (call (.ref C) us) (EP X pins σ Q) X.xe s:=by
 have hq:=h (s.heap.objs.size+1) s.heap.objs.size (I.hok.fresh (Nat.le_succ _)) (I.hok.fresh (Nat.le_refl _)) (Nat.ne_of_lt (Nat.lt_succ_self _))
 have I2:=Inv.made (C:=C) I
 have r2:Vals (V.ref (s.heap.objs.size+1) :: (vs++dvs)) (Value.ref (s.heap.objs.size+1) :: (us++ds)):=.cons rfl (r.append hd)
 have hl:(Value.ref (s.heap.objs.size+1) :: us++ds).length=ps.length:=by
  have e:=r2.length
  rw [F.len _ _ _ _ hq] at e
  exact e.symm
 refine wpAny_call (zlY (f:=f) I.kIn M.makes M.init (beq_iff_eq.mp M.fn) (codeAny_mono (F.run _ X.stack _ _ ⟨Value.ref (s.heap.objs.size+1) :: us,[]⟩ (Value.ref (s.heap.objs.size+1) :: (us++ds)) _ _ E (hr.make C us [])
  (I2.env0.make C us []) (hb _ (Value.ref (s.heap.objs.size+1) :: us) I2.kIn hl) r2 hq) λr s' hq'=>?_))
 cases r with
 | error e=>exact hx pins σ _ _ e s' I2 hq'
 | ok fl =>
  cases fl with
  | ret u =>
   obtain ⟨v,H',I3,rv,ev,q3⟩:=I2.after hq'
   subst ev
   exact ⟨rv,⟨V.ref (s.heap.objs.size+1),H',I3,rfl,q3⟩⟩
  | next=>exact False.elim hq'
  | brk=>exact False.elim hq'
  | cont=>exact False.elim hq'
theorem znj (M:Mk X.K C f) (F:FnOk X.prog X.w X.K X.mg X.base CX k f fd ps sp) (hr:Room (k+1) X.A) (hg:Gl X x) (hm:X.mg x=some (.ref C)) (hb:zgX X.K fd ps ds) (hd:Vals dvs ds) (hx:zgl CX X E)
  (ha:PA X (e :: es) t) (hdb:(x == ("__debug__":Str))=false:=by decide) (he:starEach (e :: es) X.env=(false,eval e X.env) :: starEach es X.env:=by rfl) (hpl:(backTo pos (starEach es X.env)).any (·.1)=false:=by rfl) :
  PE X (.Call (.Name x p) (e :: es) [] pos) (zod C sp dvs E t):=by
 intro pins s σ H Q I h
 refine wpAny_Call_Name_kw (ld_glob I hg hm ?_ hdb)
 refine W.callWith_K (h₀:=X.base) I.ok.mod.kin M.kp (thn (ha pos pins s σ H _ I h) λus s1 ⟨vs,H1,I1,r,q⟩=>⟨I1.kIn,?_⟩) he hpl
 exact zlm M F hr hb hd hx I1 r q
end
section
variable {X:Cx} {CX:CXT} {k:Nat} {f C:Addr} {fd:FuncData} {ps ks:List Str} {sp:Sp} {E:XK} {x m:Str} {p pos apos kpos:Pos} {e o:Expr} {es:List Expr} {kws:List Keyword} {te ta:TE} {t tk:TA} {nm:Option Str}
structure KBinds (K:W.Frag) (fd:FuncData) (ps ks:List Str) (g:List Value->List Value->List Value) (gV:List V->List V->List V):Prop where
 to:∀ (s:Shared) (us ws:List Value),K.In s.heap->(g us ws).length=ps.length->BindsTo s fd ⟨us,ks.zip ws⟩ (ps.zip (g us ws))
 rel:∀ {vs:List V} {us:List Value} {zs:List V} {ws:List Value},Vals vs us->Vals zs ws->Vals (gV vs zs) (g us ws)
variable {g:List Value->List Value->List Value} {gV:List V->List V->List V}
end
structure FnScope (N P:List Str) (sc:Scope):Prop where
 kind:sc.kind=.function
 co:sc.isCoroutine=false
 gen:sc.isGenerator=false
 nd:N.Nodup
 pre:N.take P.length=P
 par:∀ x∈P,sc.names.lookup x=some .local∨sc.names.lookup x=some .cell
 nofree:∀ y∈sc.names,y.2≠.free
theorem zg9 {kindOf:Str->Option NameKind} {x:Str}:∀ {binds:List (Str×Value)} {m:Str->Option Value},(∀ v,(x,v) ∉ binds)->bindL kindOf binds m x=m x
 | [],_,_=>rfl
 | (n,v) :: r,m,h=>by
  unfold bindL
  rw [zg9 λw hw=>h w (List.mem_cons_of_mem _ hw)]
  split
  ·have:x≠n:=by rintro rfl;exact h v List.mem_cons_self
   simp [this]
  ·rfl
theorem bindC_out {kindOf:Str->Option NameKind} {x:Str}:∀ {binds:List (Str×Value)} {m:Str->Option Value},(∀ v,(x,v) ∉ binds)->bindC kindOf binds m x=m x
 | [],_,_=>rfl
 | (n,v) :: r,m,h=>by
  unfold bindC
  rw [bindC_out λw hw=>h w (List.mem_cons_of_mem _ hw)]
  split
  ·rfl
  ·have:x≠n:=by rintro rfl;exact h v List.mem_cons_self
   simp [this]
theorem bindL_get {kindOf:Str->Option NameKind} {x:Str} {v:Value}:∀ {P:List Str} {vs:List Value} {i:Nat} {m:Str->Option Value},P.Nodup->P[i]?=some x->vs[i]?=some v->kindOf x=some .local →
  bindL kindOf (P.zip vs) m x=some v
 | [],_,_,_,_,h,_,_=>by simp at h
 | _ :: _,[],_,_,_,_,h,_=>by simp at h
 | p :: P,w :: vs,0,m,nd,h1,h2,hk=>by
  simp at h1 h2;subst h1;subst h2
  show bindL kindOf ((p,w) :: P.zip vs) m p=_
  unfold bindL
  rw [zg9 λv hv=>(List.nodup_cons.mp nd).1 (List.of_mem_zip hv).1,if_pos hk]
  simp
 | p :: P,w :: vs,i+1,m,nd,h1,h2,hk=>by
  show bindL kindOf ((p,w) :: P.zip vs) m x=_
  unfold bindL
  exact bindL_get (i:=i) (List.nodup_cons.mp nd).2 (by simpa using h1) (by simpa using h2) hk
theorem zhp {kindOf:Str->Option NameKind} {x:Str} {v:Value}:∀ {P:List Str} {vs:List Value} {i:Nat} {m:Str->Option Value},P.Nodup->P[i]?=some x->vs[i]?=some v->kindOf x≠some .local →
  bindC kindOf (P.zip vs) m x=some v
 | [],_,_,_,_,h,_,_=>by simp at h
 | _ :: _,[],_,_,_,_,h,_=>by simp at h
 | p :: P,w :: vs,0,m,nd,h1,h2,hk=>by
  simp at h1 h2;subst h1;subst h2
  show bindC kindOf ((p,w) :: P.zip vs) m p=_
  unfold bindC
  rw [bindC_out λv hv=>(List.nodup_cons.mp nd).1 (List.of_mem_zip hv).1,if_neg hk]
  simp
 | p :: P,w :: vs,i+1,m,nd,h1,h2,hk=>by
  show bindC kindOf ((p,w) :: P.zip vs) m x=_
  unfold bindC
  exact zhp (i:=i) (List.nodup_cons.mp nd).2 (by simpa using h1) (by simpa using h2) hk
def start (N:List Str) (vs:List V):St:=vs.map some++List.replicate (N.length-vs.length) none
def zih (CX:CXT) (P:Program) (w:World) (K:W.Frag) (mg:Str->Option Value) (base:Heap) (N:List Str) (qual:Str) (scope:Scope) (f:Addr) (cd:Value) (A:Around) (outer:List Env) (s:Shared) (H:Hp) (E:XK):Cx where
 prog:=P
 w:=w
 K:=K
 mg:=mg
 base:=base
 A:=A.deeper (envOfC qual scope s.heap.objs.size f cd)
 N:=N
 s₀:=s
 H₀:=H
 env:=envOfC qual scope s.heap.objs.size f cd
 outer:=outer
 stack:=envOfC qual scope s.heap.objs.size f cd :: outer
 ex:=[]
 calm:=true
 fn:=λ_=>true
 pn:=[]
 xe:=λe s'=>wpAny (model P w) (A.deeper (envOfC qual scope s.heap.objs.size f cd)) (leaving (envOfC qual scope s.heap.objs.size f cd) e) (λ_ s''=>CX outer H s E e s'') (λe' s''=>CX outer H s E e' s'') s'
theorem ziG {sc:Scope} {n:Nat} {x:Str} (h:sc.names.lookup x=some .cell):∃ c,(cellsFrom n sc.names []).lookup x=some c:=by
 have q:=W.cellsFrom_some sc.names n [] (.inl h)
 exact Option.isSome_iff_exists.mp q
theorem zjQ {CX:CXT} {P:Program} {w:World} {K:W.Frag} {mg:Str->Option Value} {base:Heap} {N ps:List Str} {qual:Str} {scope:Scope} {f:Addr} {cd:Value} {A:Around} {outer:List Env} {s s1:Shared} {H:Hp} {E:XK} {us:List Value} {vs:List V}
  (S:FnScope N ps scope) (hd:A.handled=none) (e0:Env0 P w K mg base A outer s H) (hl:vs.length=ps.length) (r:Vals vs us)
  (x:InCallC s s.heap.objs.size (bindL (envOfC qual scope s.heap.objs.size f cd).kindOf (ps.zip us) λ_=>none) (cellsFrom (s.heap.objs.size+1) scope.names []) (bindC (envOfC qual scope s.heap.objs.size f cd).kindOf (ps.zip us) λ_=>none) s1) :
  Inv (zih CX P w K mg base N qual scope f cd A outer s H E) [] (start N vs) H s1:=by
 have hpl:ps.length≤N.length:=by have:=congrArg List.length S.pre;rw [List.length_take] at this;omega
 obtain ⟨h1,tk,rfl,hk⟩:=x.done
 have noA:∀ b:Addr,b ∉ (zih CX P w K mg base N qual scope f cd A outer s H E).ex:=λb z=>absurd (show b∈([]:List Addr) from z) (by simp)
 refine ⟨⟨e0.mod,S.kind,rfl,rfl,Nat.le_refl _,λy z c h1 h2=>?_,λy hy=>?_,λy c _ h=>?_,λ_=>hd,Around.frames_deeper e0.frames,.inr ⟨rfl,rfl⟩,λb z=>absurd z (noA b),e0.bs,e0.bsz,λb _ _=>noA b,λb z=>absurd z (noA b),e0.funs,e0.frf⟩,
  rfl,e0.bare,Un.kept hk,⟨_,x.toInCall.ns,λi y v h1 h2 h3=>?_⟩,λy c h=>⟨_,x.cell y c h⟩,e0.hok.fresh (Nat.le_refl _),λy c h=>?_,λp hp=>absurd (show p∈([]:List (Addr×Obj)) from hp) (by simp),e0.hok.kept hk,?_⟩
 ·exact name_of_addr x.apart (PySem.mem_of_lookup h1) (PySem.mem_of_lookup h2)
 ·have hy:scope.names.lookup y=some .cell∨scope.names.lookup y=some .free:=hy
  rcases hy with hy | hy
  ·exact ziG hy
  ·exact absurd rfl (S.nofree _ (PySem.mem_of_lookup hy))
 ·exact Nat.le_of_lt (x.above y c (PySem.mem_of_lookup h))
 ·have hi:i<vs.length:=by
   unfold start at h2
   by_cases hi:i<vs.length
   ·exact hi
   ·rw [List.getElem?_append_right (by simpa using hi)] at h2
    rw [List.getElem?_replicate] at h2
    split at h2<;>cases h2
  have ha:vs[i]?=some v:=by
   unfold start at h2
   rw [List.getElem?_append_left (by simpa using hi),List.getElem?_map] at h2
   cases e:vs[i]? with
   | none=>rw [e] at h2;cases h2
   | some a=>rw [e] at h2;cases h2;rfl
  obtain ⟨u,hu,rv⟩:=r.get ha
  have hp:ps[i]?=some y:=by
   rw [← S.pre,List.getElem?_take_of_lt (by omega)];exact h1
  have ndP:ps.Nodup:=by rw [← S.pre];exact S.nd.sublist (List.take_sublist _ _)
  refine ⟨u,rv,?_⟩
  rcases S.par y (List.mem_of_getElem? hp) with k | k
  ·exact .inl ⟨k,bindL_get ndP hp hu k⟩
  ·obtain ⟨c,e⟩:=ziG (n:=s.heap.objs.size+1) k
   refine .inr ⟨.inl k,c,e,?_⟩
   have q:=x.cell y c e
   rw [zhp ndP hp hu (by show scope.names.lookup y≠_;rw [k];decide)] at q
   exact q
 ·exact e0.hok.fresh (Nat.le_of_lt (x.above y c (PySem.mem_of_lookup h)))
 ·unfold start
  show _=N.length
  rw [List.length_append,List.length_map,List.length_replicate]
  omega
theorem zpW {CX:CXT} {P:Program} {w:World} {K:W.Frag} {mg:Str->Option Value} {base:Heap} {k:Nat} {f:Addr} {name qual:Str} {params:Arguments} {body:List Stmt} {scope:Scope} {dV kV doc pm cdv ct oc:Value} {an od:Option Addr}
  {osl:Array (Option Value)} {N ps:List Str} {sp:Sp} (lk:K.lookup f=some ⟨oc,od,.func (W.fnOf name qual params body scope dV kV doc pm an cdv ct),osl⟩) (hcd:W.codeIn K cdv qual=true) (S:FnScope N ps scope)
  (len:∀ vs H Q E,sp vs H Q E->vs.length=ps.length)
  (hbody:∀ (A:Around) (outer:List Env) (s:Shared) (H:Hp) (vs:List V) (Q:VK) (E:XK),Room k (A.deeper (envOfC qual scope s.heap.objs.size f cdv))->sp vs H Q E →
   ∃ t,PSs (zih CX P w K mg base N qual scope f cdv A outer s H E) body t∧t { nx:=λ_ H'=>Q .non H',rt:=Q } (start N vs) H) :
  FnOk P w K mg base CX (k+1) f (W.fnOf name qual params body scope dV kV doc pm an cdv ct) ps sp:=by
 refine ⟨len,λA outer s H args us vs Q E hr e0 hb r hsp=>?_⟩
 have hl:=len _ _ _ _ hsp
 have KX:K.In s.heap:=e0.mod.kin.keeps λb o e=>(e0.bs b o e).1
 have lim:s.heap.NoLimit:=e0.mod.nolimit.keeps λb o e=>(e0.bs b o e).1
 have hkind:∀ y∈ps.zip us,scope.names.lookup y.1=some .local∨(scope.names.lookup y.1=some .cell∧((cellsFrom (s.heap.objs.size+1) scope.names []).lookup y.1).isSome=true):=λ⟨n,v⟩ hy=>by
  rcases S.par n (List.of_mem_zip hy).1 with q | q
  ·exact .inl q
  ·exact .inr ⟨q,W.cellsFrom_some _ _ _ (.inl q)⟩
 refine codeAny_call_function hr.depth (KX _ _ lk) rfl S.co S.gen rfl (W.codeRec_of KX hcd) (hb _ _ _ _ ?_)
 refine wpAny_newFunctionEnv_cells S.kind hkind λenv he s1 x=>?_
 subst he
 refine ⟨lim.keeps x.toInCall.keep,codeAny_func ?_⟩
 obtain ⟨t,ht,hq⟩:=hbody A outer s H vs Q E (hr.deeper _) hsp
 have I:Inv (zih CX P w K mg base N qual scope f cdv A outer s H E) [] (start N vs) H s1:=zjQ S hr.hd e0 hl r x
 refine wpAny_mono (ht [] s1 (start N vs) H _ I hq) (λfl s' hs=>?_) λe s' hs=>hs
 have fin:∀ {σ':St} {H':Hp} {v:V} {u:Value},Inv (zih CX P w K mg base N qual scope f cdv A outer s H E) [] σ' H' s'->RelV v u->Q v H'->CE outer P w H s Q u s' :=
  λ{σ' H' v u} J rv q=>⟨v,H',J.os,J.bare,J.base,J.hok,rv,q⟩
 cases fl with
 | ret u =>
  obtain ⟨v,σ',H',J,rv,q⟩:=hs
  exact fin J rv q
 | next =>
  obtain ⟨σ',H',J,q⟩:=hs
  exact fin (v:=V.non) (u:=Value.none) J rfl q
 | brk =>
  obtain ⟨_,_,_,q⟩:=hs
  exact False.elim q
 | cont =>
  obtain ⟨_,_,_,q⟩:=hs
  exact False.elim q
end L2
namespace L2
open PySem PySem.Spec PyProof.Rows
section
variable {X:Cx} {x:Str} {p pos:Pos} {e:Expr} {es:List Expr} {t:TA} {id T:String} {r:List V->Hp->VK->Prop}
def tCB (r:List V->Hp->VK->Prop) (t:TA):TE:=λσ H Q=>t σ H λvs H1=>r vs H1 Q
theorem pe_callB (hc:zfe X (.builtin id) r) (hg:Gl X x) (hm:X.mg x=none) (hv:bootBuiltins x=some (.builtin id)) (ha:PA X (e :: es) t) (hn:x≠"__name__":=by decide) (hdb:(x == ("__debug__":Str))=false:=by decide)
  (he:starEach (e :: es) X.env=(false,eval e X.env) :: starEach es X.env:=by rfl) (hpl:(backTo pos (starEach es X.env)).any (·.1)=false:=by rfl):PE X (.Call (.Name x p) (e :: es) [] pos) (tCB r t):=by
 intro pins s σ H Q I h
 refine wpAny_Call_Name_kw (ld_blt I hg hm hv ?_ hn hdb)
 exact PyProof.Rows.callWith_builtin1 (thn (ha pos pins s σ H _ I h) λus s1 ⟨vs,H1,I1,r1,q1⟩=>hc pins s1 σ H1 vs us Q I1 r1 q1) he hpl
theorem zbA (hc:zfe X (.type T) r) (hg:Gl X x) (hm:X.mg x=none) (hv:bootBuiltins x=some (.type T)) (ha:PA X (e :: es) t) (hn:x≠"__name__":=by decide) (hdb:(x == ("__debug__":Str))=false:=by decide)
  (he:starEach (e :: es) X.env=(false,eval e X.env) :: starEach es X.env:=by rfl) (hpl:(backTo pos (starEach es X.env)).any (·.1)=false:=by rfl):PE X (.Call (.Name x p) (e :: es) [] pos) (tCB r t):=by
 intro pins s σ H Q I h
 refine wpAny_Call_Name_kw (ld_blt I hg hm hv ?_ hn hdb)
 exact PyProof.Rows.callWith_type1 (thn (ha pos pins s σ H _ I h) λus s1 ⟨vs,H1,I1,r1,q1⟩=>hc pins s1 σ H1 vs us Q I1 r1 q1) he hpl
end
end L2
namespace HT
open PySem PyProof.Rows
section
open PySem.SeqAt
open PySem.AutoSeq1 (wpAny_loadPart')
open PySem.MeetsSeq PySem.MeetsSeq2 PySem.MeetsSeq3
end
section
variable {prog:Program} {w:World} {A:Around} {E:Value->Shared->Prop} {s:Shared}
def sIx (n d:Nat):Option Int->Nat
 | none=>d
 | some v=>if v<0 then (v+(n:Int)).toNat else min v.toNat n
theorem sIx_none (n d:Nat):sIx n d none=d:=rfl
theorem sIx_nat (n d k:Nat):sIx n d (some (k:Int))=min k n:=by
 show (if (k:Int)<0 then ((k:Int)+(n:Int)).toNat else min (k:Int).toNat n)=min k n
 rw [if_neg (by omega),Int.toNat_natCast]
end
end HT
namespace L2
open PySem PySem.Spec PyProof.Rows
abbrev TO:=St->Hp->(Option Int->Hp->Prop)->Prop
def PO (X:Cx) (e:Option Expr) (t:TO):Prop :=
 ∀ (pins:List (Addr×Obj)) (s:Shared) (σ:St) (H:Hp) (Q:Option Int->Hp->Prop),Inv X pins σ H s->t σ H Q →
  wpAny (model X.prog X.w) X.A (evalPart e X.env) (λu s'=>∃ o H',Inv X pins σ H' s'∧IsPart u o∧Q o H') X.xe s
def zlc:TO:=λ_ H Q=>Q none H
def zoy (t:TE):TO:=λσ H Q=>t σ H λx H1=>∃ i,x=.int i∧Q (some i) H1
section
variable {X:Cx} {e:Expr} {te:TE} {lo hi:Option Expr} {tl th:TO} {pos p2:Pos}
theorem zcr:PO X none zlc:=by
 intro pins s σ H Q I h
 rw [evalPart_none]
 exact wpAny_pure ⟨none,H,I,.none,h⟩
theorem zbv (h:PE X e te):PO X (some e) (zoy te):=by
 intro pins s σ H Q I hw
 rw [evalPart_some]
 refine thn (h pins s σ H _ I hw) λu s1 ⟨x,H1,I1,r1,q1⟩=>?_
 obtain ⟨i,rfl,q⟩:=q1
 obtain ⟨t,rfl⟩:=r1
 exact ⟨some i,H1,I1,.int i t,q⟩
def SlR (X:Cx) (r:V->Option Int->Option Int->Hp->VK->Prop):Prop :=
 ∀ (pins:List (Addr×Obj)) (s:Shared) (σ:St) (H:Hp) (x:V) (v vl vu:Value) (lo hi:Option Int) (sl:Addr) (Q:VK),Inv X pins σ H s->RelV x v->s.heap.IsSliceOf sl vl vu .none->IsPart vl lo->IsPart vu hi->r x lo hi H Q →
  ∃ T id,typeLookup (.type T) "__getitem__"=pure (some (.builtin id))∧s.TypeIs v T∧wpAny (model X.prog X.w) X.A (getItem v (.ref sl)) (EP X pins σ Q) X.xe s
def tSl (r:V->Option Int->Option Int->Hp->VK->Prop) (te:TE) (tl th:TO):TE:=λσ H Q=>te σ H λx H1=>tl σ H1 λl H2=>th σ H2 λu H3=>r x l u H3 Q
theorem zbh {r:V->Option Int->Option Int->Hp->VK->Prop} (hr:SlR X r) (he:PE X e te) (hl:PO X lo tl) (hu:PO X hi th):PE X (.Subscript e (.Slice lo hi none p2) pos) (tSl r te tl th):=by
 intro pins s σ H Q I h
 refine Subscript_ (thn (he pins s σ H _ I h) λv s1 ⟨x,H1,I1,r1,q1⟩=>?_)
 refine wpAny_Slice (thn (hl pins s1 σ H1 _ I1 q1) λvl s2 ⟨l,H2,I2,pl,q2⟩=>thn (hu pins s2 σ H2 _ I2 q2) λvu s3 ⟨u,H3,I3,pu,q3⟩=>?_)
 rw [evalPart_none]
 refine wpAny_pure ?_
 have I4:Inv X pins σ H3 { s3 with heap:=s3.heap.push { cls:=.type "slice",data:=.fields #[vl,vu,.none] } }:=I3.kept (t':=s3.toks) λb ob q=>Heap.get?_push_of_some _ q
 obtain ⟨T,id,hT,ht,hg⟩:=hr pins { s3 with heap:=s3.heap.push { cls:=.type "slice",data:=.fields #[vl,vu,.none] } } σ H3 x v vl vu l u s3.heap.objs.size Q I4 r1 (Heap.IsSliceOf.new ..) pl pu q3
 show wpAny (model X.prog X.w) X.A (subscriptTail e (.Slice lo hi none p2) v (.ref s3.heap.objs.size)) (EP X pins σ Q) X.xe { s3 with heap:=s3.heap.push { cls:=.type "slice",data:=.fields #[vl,vu,.none] } }
 exact tail_any (ops:=[.ref s3.heap.objs.size,v]) ht hT hg (by with_unfolding_all rfl)
def zpm (xs:List V) (lo hi:Option Int):List V:=(xs.drop (HT.sIx xs.length 0 lo)).take (HT.sIx xs.length xs.length hi-HT.sIx xs.length 0 lo)
theorem zib (xs:List V) (lo hi:Option Int):(zpm xs lo hi).length≤xs.length:=by
 unfold zpm
 rw [List.length_take,List.length_drop]
 omega
end
end L2
namespace L2
open PySem PySem.Spec PyProof.Rows
def ixN (n:Nat) (i:Int):Option Nat:=if 0≤i then (if i<n then some i.toNat else none) else if -(n:Int)≤i then some (i+n).toNat else none
def atI {α:Type} (xs:List α) (i:Int):Option α:=(ixN xs.length i).bind λj=>xs[j]?
theorem zkb {n:Nat} {i:Int} {j:Nat} (h:ixN n i=some j):seqIndex? i n=some j∧j<n∧-(n:Int)≤i∧i<n:=by
 unfold ixN at h
 by_cases h0:0≤i
 ·rw [if_pos h0] at h
  by_cases h1:i<n
  ·rw [if_pos h1] at h
   have e:i.toNat=j:=Option.some.inj h
   exact ⟨by rw [seqIndex_of h0 h1,e],by omega,by omega,h1⟩
  ·rw [if_neg h1] at h;cases h
 ·rw [if_neg h0] at h
  by_cases h1:-(n:Int)≤i
  ·rw [if_pos h1] at h
   have e:(i+n).toNat=j:=Option.some.inj h
   exact ⟨by rw [seqIndex_neg (by omega) h1,e],by omega,h1,by omega⟩
  ·rw [if_neg h1] at h;cases h
theorem atI_get {α:Type} {xs:List α} {i:Int} {v:α} (h:atI xs i=some v):∃ j,seqIndex? i xs.length=some j∧xs[j]?=some v∧j<xs.length∧-(xs.length:Int)≤i∧i<xs.length:=by
 unfold atI at h
 cases e:ixN xs.length i with
 | none=>rw [e] at h;cases h
 | some j =>
  rw [e] at h
  obtain ⟨h1,h2,h3,h4⟩:=zkb e
  exact ⟨j,h1,h,h2,h3,h4⟩
def zmO (b:Expr):Prop:=∀ o i,subscripted b false o i=operate [o,i] (getItem o i)
def IxR (X:Cx) (r:R2):Prop :=
 ∀ (value slice:Expr) (pins:List (Addr×Obj)) (s:Shared) (σ:St) (H:Hp) (x y:V) (v u:Value) (Q:VK),Inv X pins σ H s->RelV x v->RelV y u->r x y H Q →
  subscripted slice false v u=operate [v,u] (getItem v u)->wpAny (model X.prog X.w) X.A (subscriptTail value slice v u) (EP X pins σ Q) X.xe s
def MtR (X:Cx) (id:String) (r:V->List V->Hp->VK->Prop):Prop :=
 ∀ (pins:List (Addr×Obj)) (s:Shared) (σ:St) (H:Hp) (x:V) (xs:List V) (v:Value) (us:List Value) (Q:VK),Inv X pins σ H s->RelV x v->Vals xs us->r x xs H Q →
  wpAny (model X.prog X.w) X.A (call (.builtin id) (v :: us)) (EP X pins σ Q) X.xe s
section
variable {X:Cx} {a b:Expr} {ta tb:TE} {pos:Pos}
theorem zbI {r:R2} (hr:IxR X r) (ha:PE X a ta) (hb:PE X b tb) (hs:zmO b):PE X (.Subscript a b pos) (tOp r ta tb):=by
 intro pins s σ H Q I h
 exact Subscript_ (binT ha hb I h λv u s2 x y H2 I2 rx ry q=>hr a b pins s2 σ H2 x y v u Q I2 rx ry q (hs _ _))
def znZ (K:W.Frag):R2:=λx y H Q=>∃ p xs i v,x=.ref p∧y=.int i∧SqL K H p xs∧atI xs i=some v∧Q v H
def zpN (K:W.Frag):R2:=λx y H Q=>∃ p xs i v,x=.ref p∧y=.int i∧SqT K H p xs∧atI xs i=some v∧Q v H
theorem znM:IxR X (znZ X.K):=by
 intro value slice pins s σ H x y v u Q I rx ry h hs
 obtain ⟨p,xs,i,z,rfl,rfl,hq,he,q⟩:=h
 cases rx
 obtain ⟨t,rfl⟩:=ry
 obtain ⟨its,r,pl,hz⟩:=I.list hq
 obtain ⟨j,h1,h2,h3,h4,h5⟩:=atI_get he
 obtain ⟨w,ew,rw'⟩:=r.get h2
 have hl:=r.length
 have hn:=ziB
 have fin:EP X pins σ Q w s:=⟨z,H,I,rw',q⟩
 by_cases h0:0≤i
 ·have hj:i.toNat=j:=by
   rw [seqIndex_of h0 h5] at h1
   exact Option.some.inj h1
  exact item_listR pl.isList h0 (by omega) (by rw [hj];simpa using ew) fin hs
 ·have hj:(i+(its.toArray.size:Int)).toNat=j:=by
   rw [seqIndex_neg (by omega) h4] at h1
   rw [List.size_toArray,← hl]
   exact Option.some.inj h1
  exact subscriptTail_builtinR (x:=w) pl.isList.typeIs slot_list_getitem.lookup
   (wpAny_getItem_list_neg (Q:=λr s'=>r=w∧EP X pins σ Q r s') pl.isList (by omega) (by rw [List.size_toArray]<;>omega) (by omega) (by rw [hj];simpa using ew) ⟨rfl,fin⟩) hs
theorem zoz:IxR X (zpN X.K):=by
 intro value slice pins s σ H x y v u Q I rx ry h hs
 obtain ⟨p,xs,i,z,rfl,rfl,hq,he,q⟩:=h
 cases rx
 obtain ⟨t,rfl⟩:=ry
 obtain ⟨its,r,pl,hz⟩:=I.tuple hq
 obtain ⟨j,h1,h2,h3,h4,h5⟩:=atI_get he
 obtain ⟨w,ew,rw'⟩:=r.get h2
 have hl:=r.length
 have hn:=ziB
 have fin:EP X pins σ Q w s:=⟨z,H,I,rw',q⟩
 exact subscriptTail_builtinR (x:=w) pl.typeIs slot_tuple_getitem.lookup
  (getItem_tuple (j:=j) (Q:=λr s'=>r=w∧EP X pins σ Q r s') pl (by omega) (by omega) (by rw [List.size_toArray,← hl];exact h1) (by simpa using ew) ⟨rfl,fin⟩) hs
theorem zi8 (its:List Value) (n j:Nat) (u:Value):Obj.mapSeq (·.setIfInBounds j u) { cls:=.type "list",data:=.seq its.toArray n }={ cls:=.type "list",data:=.seq (its.set j u).toArray n }:=by
 simp [Obj.mapSeq]
theorem Inv.lst {pins:List (Addr×Obj)} {σ:St} {H:Hp} {s:Shared} {p:Addr} {xs:List V} (I:Inv X pins σ H s) (h:H p=some (.lst xs)) :
  ∃ (its:List Value) (n:Nat),Vals xs its∧s.heap.get? p=some { cls:=.type "list",data:=.seq its.toArray n }∧xs.length≤sizeLine:=by
 obtain ⟨z,its,n,r,e⟩:=I.hok p _ h
 exact ⟨its,n,r,e,z⟩
theorem Inv.lstUpd {pins:List (Addr×Obj)} {σ:St} {H:Hp} {s:Shared} {p:Addr} {xs ys:List V} {its its':List Value} {n n':Nat} {f:Obj->Obj} (I:Inv X pins σ H s) (h:H p=some (.lst xs))
  (ho:s.heap.get? p=some { cls:=.type "list",data:=.seq its.toArray n }) (hf:f { cls:=.type "list",data:=.seq its.toArray n }={ cls:=.type "list",data:=.seq its'.toArray n' }) (r:Vals ys its') (hz:ys.length≤sizeLine) (t:Nat) :
  Inv X pins σ (upd H p (.lst ys)) { s with heap:=s.heap.update p f,toks:=t }:=by
 have e:(s.heap.update p f).get? p=some { cls:=.type "list",data:=.seq its'.toArray n' }:=by
  rw [Heap.get?_update_self f ho (by rw [hf]<;>rfl),hf]
 refine I.write (x:=p) (e:=p) (by rw [h];trivial) (.inl rfl) (λb u hb q=>(Heap.get?_update_other _ _ (Ne.symm hb)).trans q) ⟨_,e⟩ ?_
 exact ⟨hz,its',n',r,e⟩
def zjz:V->V->V->Hp->(Hp->Prop)->Prop:=λo i v H Q=>∃ p xs k j,o=.ref p∧i=.int k∧H p=some (.lst xs)∧ixN xs.length k=some j∧Q (upd H p (.lst (xs.set j v)))
theorem set_list:zqi X zjz:=by
 intro pins s σ H o i v ov iv u Q I ro ri rv h
 obtain ⟨p,xs,k,j,rfl,rfl,hp,hj,q⟩:=h
 cases ro
 obtain ⟨t,rfl⟩:=ri
 obtain ⟨its,n,r,ho,hz⟩:=I.lst hp
 obtain ⟨h1,h2,h3,h4⟩:=zkb hj
 have hl:=r.length
 have hn:=ziB
 have I':Inv X pins σ (upd H p (.lst (xs.set j v))) { s with heap:=s.heap.update p (Obj.mapSeq (·.setIfInBounds j u)) } :=
  I.lstUpd hp ho (zi8 its n j u) (r.set rv j) (by rw [List.length_set];exact hz) s.toks
 by_cases h0:0≤k
 ·have hk:k.toNat=j:=by
   rw [seqIndex_of h0 h4] at h1
   exact Option.some.inj h1
  exact W.ki_setAt ho h0 (by omega) (by rw [List.size_toArray,← hl];exact h4) (by rw [hk];exact ⟨_,I',q⟩)
 ·have hk:(k+(its.toArray.size:Int)).toNat=j:=by
   rw [seqIndex_neg (by omega) h3] at h1
   rw [List.size_toArray,← hl]
   exact Option.some.inj h1
  exact W.ki_setBack ho (by omega) (by rw [List.size_toArray,← hl];exact h3) (by omega) (by rw [hk];exact ⟨_,I',q⟩)
theorem zhd (lo hi:Option Int) (n:Nat):(sliceBounds lo hi none n).1=((HT.sIx n 0 lo:Nat):Int)∧(sliceBounds lo hi none n).2.1=((HT.sIx n n hi:Nat):Int)∧(sliceBounds lo hi none n).2.2=1:=by
 refine ⟨?_,?_,rfl⟩
 ·cases lo with
  | none=>simp [sliceBounds,HT.sIx]
  | some i =>
   simp only [sliceBounds,HT.sIx,Option.getD_none,show (1:Int) > 0 by decide,if_true]
   by_cases h:i<0
   ·simp only [h,if_true]<;>omega
   ·simp only [h,if_false]<;>omega
 ·cases hi with
  | none=>simp [sliceBounds,HT.sIx]
  | some i =>
   simp only [sliceBounds,HT.sIx,Option.getD_none,show (1:Int) > 0 by decide,if_true]
   by_cases h:i<0
   ·simp only [h,if_true]<;>omega
   ·simp only [h,if_false]<;>omega
theorem zgQ (its:List Value) (lo hi:Option Int):slicePick its.toArray lo hi none=((its.drop (HT.sIx its.length 0 lo)).take (HT.sIx its.length its.length hi-HT.sIx its.length 0 lo)).toArray:=by
 obtain ⟨h1,h2,h3⟩:=zhd lo hi its.toArray.size
 unfold slicePick
 rw [h1,h2,h3]
 simp only [sliceRange_one,pick_run,List.size_toArray]<;>rfl
def zpA (K:W.Frag):V->Option Int->Option Int->Hp->VK->Prop:=λx lo hi H Q=>∃ a xs,x=.ref a∧SqL K H a xs∧∀ p,H p=none->Q (.ref p) (upd H p (.lst (zpm xs lo hi)))
theorem zni:SlR X (zpA X.K):=by
 intro pins s σ H x v vl vu lo hi sl Q I rx hs pl pu h
 obtain ⟨a,xs,rfl,hx,q⟩:=h
 cases rx
 obtain ⟨its,r,ht,hz⟩:=I.list hx
 have hlen:=r.length
 refine ⟨"list",_,slot_list_getitem.lookup,ht.isList.typeIs,?_⟩
 refine wpAny_getItem_list_slice ht.isList hs pl pu .none (by simp) ?_ (by rw [List.size_toArray]<;>omega)
 rw [zgQ,← hlen]
 refine ⟨.ref s.heap.objs.size,_,I.laid (t':=s.toks) (o:=.lst (zpm xs lo hi)) (λb ob q=>Heap.get?_push_of_some _ q) (Nat.le_refl _) ?_,rfl,q _ (I.hok.fresh (Nat.le_refl _))⟩
 exact ⟨Nat.le_trans (zib xs lo hi) hz,_,0,(r.drop (HT.sIx xs.length 0 lo)).take (HT.sIx xs.length xs.length hi-HT.sIx xs.length 0 lo),Heap.get?_push_size _ rfl⟩
def zl7:V->Bool
 | .non=>true
 | .bl _=>true
 | .int _=>true
 | .str _=>true
 | _=>false
def eqV:V->V->Bool
 | .non,.non=>true
 | .bl a,.bl b=>a == b
 | .bl a,.int b=>(if a then 1 else 0) == b
 | .int a,.bl b=>a == (if b then 1 else 0)
 | .int a,.int b=>a == b
 | .str a,.str b=>a == b
 | _,_=>false
theorem eqAt_V {A:Around} {s:Shared} {y x:V} {u v:Value} (ry:RelV y u) (rx:RelV x v) (fy:zl7 y=true) (fx:zl7 x=true):SeqAt.EqAt A s u v (eqV y x):=by
 cases y with
 | non =>
  cases ry
  cases x with
  | non=>cases rx;exact SeqAt.EqAt.same _
  | bl b=>cases rx;exact SeqAt.EqAt.none_bool b
  | int b=>obtain ⟨t,rfl⟩:=rx;exact SeqAt.EqAt.none_int b t
  | str b=>obtain ⟨t,rfl⟩:=rx;exact SeqAt.EqAt.none_str b t
  | _=>exact absurd (show false=true from fx) Bool.false_ne_true
 | bl a =>
  cases ry
  cases x with
  | non=>cases rx;exact SeqAt.EqAt.bool_none a
  | bl b=>cases rx;exact SeqAt.EqAt.bool_bool a b
  | int b=>obtain ⟨t,rfl⟩:=rx;exact SeqAt.EqAt.bool_int a b t
  | str b=>obtain ⟨t,rfl⟩:=rx;exact SeqAt.EqAt.bool_str a b t
  | _=>exact absurd (show false=true from fx) Bool.false_ne_true
 | int a =>
  obtain ⟨t',rfl⟩:=ry
  cases x with
  | non=>cases rx;exact SeqAt.EqAt.int_none a t'
  | bl b=>cases rx;exact SeqAt.EqAt.int_bool a t' b
  | int b=>obtain ⟨t,rfl⟩:=rx;exact SeqAt.EqAt.int_int a t' b t
  | str b=>obtain ⟨t,rfl⟩:=rx;exact SeqAt.EqAt.int_str a t' b t
  | _=>exact absurd (show false=true from fx) Bool.false_ne_true
 | str a =>
  obtain ⟨t',rfl⟩:=ry
  cases x with
  | non=>cases rx;exact SeqAt.EqAt.str_none a t'
  | bl b=>cases rx;exact SeqAt.EqAt.str_bool a t' b
  | int b=>obtain ⟨t,rfl⟩:=rx;exact SeqAt.EqAt.str_int a t' b t
  | str b=>obtain ⟨t,rfl⟩:=rx;exact SeqAt.EqAt.str_str a t' b t
  | _=>exact absurd (show false=true from fx) Bool.false_ne_true
 | _=>exact absurd (show false=true from fy) Bool.false_ne_true
theorem zhx:zfe X (.builtin "len") (λxs H Q=>∃ p ys,xs=[.ref p]∧(SqL X.K H p ys∨SqT X.K H p ys)∧Q (.int ys.length) H):=by
 intro pins s σ H xs us Q I r h
 obtain ⟨p,ys,rfl,hq,q⟩:=h
 obtain ⟨u,rfl,rx⟩:=zkl r
 cases rx
 have hn:=ziB
 rcases hq with hq | hq
 ·obtain ⟨its,r',pl,hz⟩:=I.list hq
  have hlen:=r'.length
  exact Calls.call_len_list pl.isList (by simp only [List.size_toArray]<;>omega) ⟨.int ys.length,H,I.tok _,⟨s.toks+1,by rw [List.size_toArray,hlen]⟩,q⟩
 ·obtain ⟨its,r',pl,hz⟩:=I.tuple hq
  have hlen:=r'.length
  exact len_tuple pl (by simp only [List.size_toArray]<;>omega) ⟨.int ys.length,H,I.tok _,⟨s.toks+1,by rw [List.size_toArray,hlen]⟩,q⟩
theorem zhn:zfe X (.type "list") (λxs H Q=>∃ p ys,xs=[.ref p]∧(SqL X.K H p ys∨SqT X.K H p ys)∧∀ l,H l=none->Q (.ref l) (upd H l (.lst ys))):=by
 intro pins s σ H xs us Q I r h
 obtain ⟨p,ys,rfl,hq,q⟩:=h
 obtain ⟨u,rfl,rx⟩:=zkl r
 cases rx
 have fin:∀ (its:List Value),Vals ys its->ys.length≤sizeLine->∀ (h':Heap) (c':Nat),(∀ b o',s.heap.get? b=some o'->h'.get? b=some o') →
   h'.get? s.heap.objs.size=some { cls:=.type "list",dict:=none,data:=.seq its.toArray c',slots:=#[] }->EP X pins σ Q (.ref s.heap.objs.size) { s with heap:=h' }:=λits r' hz h' c' kp e =>
  ⟨.ref s.heap.objs.size,_,I.laid (t':=s.toks) kp (Nat.le_refl _) (show zcs X.prog X.w _ h' _ (.lst ys) from ⟨hz,its,c',r',e⟩),rfl,q _ (I.hok.fresh (Nat.le_refl _))⟩
 rcases hq with hq | hq
 ·obtain ⟨its,r',pl,hz⟩:=I.list hq
  have hlen:=r'.length
  obtain ⟨o,ho,hc,n,hd⟩:=pl.isList
  exact call_list_seq p (.inl rfl) ho hc hd (λh' c' kp e=>fin its r' hz h' c' kp e) (by simp only [List.size_toArray]<;>omega)
 ·obtain ⟨its,r',pl,hz⟩:=I.tuple hq
  have hlen:=r'.length
  obtain ⟨o,ho,hc,n,hd⟩:=pl
  exact call_list_seq p (.inr rfl) ho hc hd (λh' c' kp e=>fin its r' hz h' c' kp e) (by simp only [List.size_toArray]<;>omega)
def tyV (K:W.Frag) (T:String) (x:V) (H:Hp):Prop:=match x with
 | .str _=>T="str"
 | .int _=>T="int"
 | .ref p=>(T="list"∧∃ xs,SqL K H p xs)∨(T="tuple"∧∃ o,K.lookup p=some o∧o.cls=.type "tuple"∧o.dict=none) ∨
   (T="dict"∧((∃ kvs,H p=some (.dK kvs))∨∃ kvs,H p=some (.dT kvs)))∨(T="set"∧∃ S n,H p=some (.set S n))
 | _=>False
theorem zos {pins:List (Addr×Obj)} {σ:St} {H:Hp} {s:Shared} {T:String} {x:V} {v:Value} (I:Inv X pins σ H s) (r:RelV x v) (ty:tyV X.K T x H) :
  s.TypeIs v T∧∀ a,v=.ref a->∃ ob,s.heap.get? a=some ob∧ob.dict=none:=by
 cases x with
 | str z =>
  obtain ⟨t,rfl⟩:=r
  cases (show T="str" from ty)
  exact ⟨typeIs_str s z t,λ_ e=>nomatch e⟩
 | int i =>
  obtain ⟨t,rfl⟩:=r
  cases (show T="int" from ty)
  exact ⟨typeIs_int s i t,λ_ e=>nomatch e⟩
 | ref p =>
  cases r
  rcases ty with ⟨rfl,xs,hq⟩ | ⟨rfl,o,hk,hc,hd⟩ | ⟨rfl,hk⟩ | ⟨rfl,S,n,hk⟩
  ·obtain ⟨its,_,pl,_⟩:=I.list hq
   refine ⟨pl.isList.typeIs,λa e=>?_⟩
   cases e
   obtain ⟨o,n,e,c,hd,_⟩:=pl
   exact ⟨o,e,hd⟩
  ·refine ⟨⟨o,I.kIn p o hk,hc⟩,λa e=>?_⟩
   cases e
   exact ⟨o,I.kIn _ o hk,hd⟩
  ·have z:∃ o,s.heap.get? p=some o∧o.ExactDict:=by
    rcases hk with ⟨kvs,hk⟩ | ⟨kvs,hk⟩
    ·obtain ⟨_,_,_,_,o,_,_,e,ex,_⟩:=I.hok p _ hk
     exact ⟨o,e,ex⟩
    ·obtain ⟨_,_,_,_,o,_,_,e,ex,_⟩:=I.hok p _ hk
     exact ⟨o,e,ex⟩
   obtain ⟨o,e,ex⟩:=z
   refine ⟨⟨o,e,ex.1⟩,λa e2=>?_⟩
   cases e2
   exact ⟨o,e,ex.2.1⟩
  ·obtain ⟨o,_,_,_,e,ex,_⟩:=I.hok p _ hk
   refine ⟨⟨o,e,ex.1⟩,λa e2=>?_⟩
   cases e2
   exact ⟨o,e,ex.2.1⟩
 | _=>exact False.elim ty
def tBM (K:W.Frag) (T:String) (r:V->List V->Hp->VK->Prop) (to:TE) (t:TA):TE:=λσ H Q=>to σ H λx H1=>tyV K T x H1∧t σ H1 λxs H2=>r x xs H2 Q
variable {o e:Expr} {es:List Expr} {to:TE} {t:TA} {name:Str} {apos cpos:Pos} {T id:String} {r:V->List V->Hp->VK->Prop}
theorem zpT (pa:PlainAttrs T) (slot:Slot T name id) (hty:typeOf (.builtin id)=pure (.type "method_descriptor")) (hm:MtR X id r) (ho:PE X o to) (ha:PA X (e :: es) t)
  (hbase:attributeBase o name X.env (eval o X.env)=eval o X.env:=by rfl)
  (hfew:((backTo cpos (starEach (e :: es) X.env)).all (λx=>!x.1)&&(backToKw cpos (keywordEach [] X.env)).all (λx=>x.1.isSome)
   &&decide ((e :: es).length+([]:List Keyword).length+(if ([]:List Keyword).isEmpty then 0 else 1)<30))=true:=by rfl)
  (hline:(apos.endLine == cpos.line)=true:=by rfl) (hs:starEach (e :: es) X.env=(false,eval e X.env) :: starEach es X.env:=by rfl) (hplain:(backTo cpos (starEach es X.env)).any (·.1)=false:=by rfl) :
  PE X (.Call (.Attribute o name apos) (e :: es) [] cpos) (tBM X.K T r to t):=by
 intro pins s σ H Q I h
 refine wpAny_Call_method_late hbase hfew hline rfl (thn (ho pins s σ H _ I h) λv s1 ⟨x,H1,I1,r1,ty,q1⟩=>?_)
 obtain ⟨h1,h2⟩:=zos I1 r1 ty
 refine ⟨T,id,pa,slot,hty,h1,h2,?_⟩
 have hA:=ha cpos pins s1 σ H1 _ I1 q1
 rw [hs] at hA ⊢
 refine Calls.callWith_builtin (by show (false||(backTo cpos (starEach es X.env)).any (·.1))=false;rw [hplain]<;>rfl) (Calls.evalArgs_plain ?_)
 exact thn hA λus s2 ⟨vs,H2,I2,r2,q2⟩=>hm pins s2 σ H2 x vs v us Q I2 r1 r2 q2
end
end L2
namespace L2
open PySem PySem.Spec PyProof.Rows
def MtM (X:Cx) (id:String) (r:V->List V->Hp->VK->Prop):Prop :=
 ∀ (pins:List (Addr×Obj)) (s:Shared) (σ:St) (H:Hp) (x:V) (xs:List V) (v:Value) (us:List Value) (Q:VK),Inv X pins σ H s->RelV x v->Vals xs us->r x xs H Q →
  wpAny (model X.prog X.w) X.A (call (.builtin id) (v :: us)) (EP X pins σ Q) X.xe s
theorem Vals.one:∀ {x:V} {us:List Value},Vals [x] us->∃ u,us=[u]∧RelV x u
 | _,_,.cons r .nil=>⟨_,rfl,r⟩
theorem Vals.zero:∀ {us:List Value},Vals [] us->us=[]
 | _,.nil=>rfl
theorem Vals.dropLast {xs:List V} {us:List Value} (h:Vals xs us):Vals xs.dropLast us.dropLast:=by
 induction h with
 | nil=>exact .nil
 | cons r t ih =>
  cases t with
  | nil=>exact .nil
  | cons q t'=>exact .cons r ih
theorem Vals.reverse {xs:List V} {us:List Value} (h:Vals xs us):Vals xs.reverse us.reverse:=by
 induction h with
 | nil=>exact .nil
 | cons r t ih=>rw [List.reverse_cons,List.reverse_cons];exact Vals.append ih (.cons r .nil)
theorem Vals.rep {xs:List V} {us:List Value} (h:Vals xs us):∀ k:Nat,Vals (List.replicate k xs).flatten (List.replicate k us).flatten
 | 0=>.nil
 | k+1=>by
  rw [List.replicate_succ,List.replicate_succ,List.flatten_cons,List.flatten_cons]
  exact Vals.append h (Vals.rep h k)
theorem zhC (its:List Value):∀ (k:Nat) (acc:List Value),
  List.foldl (λx1 x2=>x1++x2) acc.toArray (List.replicate k its.toArray)=(acc++(List.replicate k its).flatten).toArray
 | 0,acc=>by simp
 | k+1,acc=>by
  have e:acc.toArray++its.toArray=(acc++its).toArray:=by simp
  have e2:(acc++its)++(List.replicate k its).flatten=acc++(List.replicate (k+1) its).flatten:=by
   rw [List.replicate_succ,List.flatten_cons,List.append_assoc]
  rw [← e2,← zhC its k (acc++its),← e,List.replicate_succ,List.foldl_cons]
section
variable {X:Cx} {pins:List (Addr×Obj)} {σ:St} {H:Hp} {s:Shared} {l b:Addr} {xs ys zs:List V}
theorem Inv.lset {its its':List Value} {n:Nat} {f:Array Value->Array Value} {t':Nat} (I:Inv X pins σ H s) (hH:H l=some (.lst xs))
  (e:s.heap.get? l=some { cls:=.type "list",data:=.seq its.toArray n }) (hf:f its.toArray=its'.toArray) (hv:Vals ys its') (hz:ys.length≤sizeLine) :
  Inv X pins σ (upd H l (.lst ys)) { s with heap:=s.heap.update l (Obj.mapSeq f),toks:=t' }:=by
 have q:=PySem.IsL.update e f
 rw [hf] at q
 refine I.write (x:=l) (e:=l) (by rw [hH];exact trivial) (.inl rfl) (λb' u hb hu=>(Heap.get?_update_other s.heap (Obj.mapSeq f) (Ne.symm hb)).trans hu) ⟨_,q⟩ ?_
 exact ⟨hz,its',_,hv,q⟩
theorem Inv.lnew {its:List Value} {t':Nat} (I:Inv X pins σ H s) (hv:Vals ys its) (hz:ys.length≤sizeLine) :
  Inv X pins σ (upd H s.heap.objs.size (.lst ys)) { s with heap:=s.heap.push { cls:=.type "list",data:=.seq its.toArray },toks:=t' } :=
 I.laid (λ_ _ q=>Heap.get?_push_of_some _ q) (Nat.le_refl _) ⟨hz,its,0,hv,Heap.get?_push_size _ rfl⟩
theorem Inv.fresh (I:Inv X pins σ H s):H s.heap.objs.size=none:=I.hok.fresh (Nat.le_refl _)
theorem Inv.lstM (I:Inv X pins σ H s) (hH:H l=some (.lst xs)):xs.length≤sizeLine∧∃ (its:List Value) (n:Nat),Vals xs its∧xs.length=its.length∧s.heap.get? l=some { cls:=.type "list",data:=.seq its.toArray n }:=by
 obtain ⟨z,its,n,r,e⟩:=I.hok l _ hH
 exact ⟨z,its,n,r,r.length,e⟩
theorem ziT {n:Nat} (h:n≤sizeLine):Builtin.List.listTooLong n=false:=by
 unfold Builtin.List.listTooLong
 exact decide_eq_false (by omega)
end
section
variable {X:Cx}
def rAppend:V->List V->Hp->VK->Prop:=λx vs H Q=>∃ l xs y,x=.ref l∧vs=[y]∧H l=some (.lst xs)∧xs.length<sizeLine∧Q .non (upd H l (.lst (xs++[y])))
theorem mt_append:MtM X "list.append" rAppend:=by
 intro pins s σ H x vs v us Q I rx rv h
 obtain ⟨l,xs,y,rfl,rfl,hH,hz,q⟩:=h
 cases rx
 obtain ⟨u,rfl,ru⟩:=rv.one
 obtain ⟨z,its,n,r,hl,e⟩:=I.lstM hH
 refine call_meets F.slot_list_append ⟨_,e,rfl⟩ F.entry_list_append (F.args_list_append_2 _ _) (PySem.list_append l its.toArray n u (by rw [List.size_toArray];omega)) ⟨e,?_⟩
 refine ⟨.non,_,I.lset (its':=its++[u]) hH e (by simp) (r.append (.cons ru .nil)) ?_,rfl,q⟩
 rw [List.length_append,List.length_singleton]
 omega
def rExtend:V->List V->Hp->VK->Prop:=λx vs H Q=>∃ l b xs zs,x=.ref l∧vs=[.ref b]∧H l=some (.lst xs)∧H b=some (.lst zs)∧xs.length+zs.length≤sizeLine∧Q .non (upd H l (.lst (xs++zs)))
theorem zoT:MtM X "list.extend" rExtend:=by
 intro pins s σ H x vs v us Q I rx rv h
 obtain ⟨l,b,xs,zs,rfl,rfl,hH,hB,hz,q⟩:=h
 cases rx
 obtain ⟨u,rfl,ru⟩:=rv.one
 cases ru
 obtain ⟨z,its,n,r,hl,e⟩:=I.lstM hH
 obtain ⟨z2,its2,n2,r2,hl2,e2⟩:=I.lstM hB
 have hsz:its.toArray.size+its2.toArray.size≤sizeLine:=by rw [List.size_toArray,List.size_toArray];omega
 have hlong:¬ (!its.toArray.isEmpty&&Builtin.List.listTooLong (its.toArray.size+its2.toArray.size))=true:=by
  rw [ziT hsz,Bool.and_false]
  exact Bool.false_ne_true
 refine call_meets F.slot_list_extend ⟨_,e,rfl⟩ F.entry_list_extend (F.args_list_extend_2 _ _)
  (AutoSeq1.list_extend_list_list_0 l its.toArray n b its2.toArray n2 hlong (by rw [List.size_toArray];omega) (by omega)) ⟨e,e2,?_⟩
 refine ⟨.non,_,I.lset (its':=its++its2) hH e (by simp) (r.append r2) ?_,rfl,q⟩
 rw [List.length_append]
 omega
def zpC:R2:=λx y H Q=>∃ l b xs zs,x=.ref l∧y=.ref b∧H l=some (.lst xs)∧H b=some (.lst zs)∧xs.length+zs.length≤sizeLine∧∀ p,H p=none->Q (.ref p) (upd H p (.lst (xs++zs)))
theorem zb4:OpR X (binaryOp .Add) zpC:=by
 intro pins s σ H x y v u Q I rx ry h
 obtain ⟨l,b,xs,zs,rfl,rfl,hH,hB,hz,q⟩:=h
 cases rx
 cases ry
 obtain ⟨z,its,n,r,hl,e⟩:=I.lstM hH
 obtain ⟨z2,its2,n2,r2,hl2,e2⟩:=I.lstM hB
 refine PySem.P.add_list e e2 ?_ (by rw [List.size_toArray,List.size_toArray];omega)
 have ea:its.toArray++its2.toArray=(its++its2).toArray:=by simp
 rw [ea]
 exact ⟨.ref _,_,I.lnew (t':=s.toks) (r.append r2) (by rw [List.length_append];omega),rfl,q _ I.fresh⟩
def zp4:R2:=λx y H Q=>∃ l k xs,x=.ref l∧y=.int k∧H l=some (.lst xs)∧-(2^63)≤k∧k<2^63∧xs.length*k.toNat≤sizeLine ∧
 ∀ p,H p=none->Q (.ref p) (upd H p (.lst (List.replicate k.toNat xs).flatten))
theorem zmU {α:Type} (xs:List α) (k:Nat):(List.replicate k xs).flatten.length=k*xs.length:=by
 induction k with
 | zero=>simp
 | succ k ih=>rw [List.replicate_succ,List.flatten_cons,List.length_append,ih,Nat.succ_mul,Nat.add_comm]
theorem zkF:OpR X (binaryOp .Mult) zp4:=by
 intro pins s σ H x y v u Q I rx ry h
 obtain ⟨l,k,xs,rfl,rfl,hH,h1,h2,hz,q⟩:=h
 cases rx
 obtain ⟨t,rfl⟩:=ry
 obtain ⟨z,its,n,r,hl,e⟩:=I.lstM hH
 have hlen:its.toArray.size*k.toNat≤sizeLine:=by rw [List.size_toArray,← hl];exact hz
 have hcap:¬ its.toArray.size*k.toNat > (2^63-1)/8:=by
  have:(sizeLine:Nat)≤(2^63-1)/8:=by decide
  omega
 have hfit:¬ (!Builtin.List.listFitsIndex k)=true:=by
  rw [fitsIndex_both h1 h2]
  exact Bool.false_ne_true
 have hlong:¬ Builtin.List.listTooLong (its.toArray.size*k.toNat)=true:=by
  rw [ziT hlen]
  exact Bool.false_ne_true
 have hnew:List.foldl (λx1 x2=>x1++x2) #[] (List.replicate (if its.toArray.isEmpty=true then 0 else k.toNat) its.toArray)=(List.replicate k.toNat its).flatten.toArray:=by
  have f0:∀ m:Nat,List.foldl (λx1 x2=>x1++x2) #[] (List.replicate m its.toArray)=(List.replicate m its).flatten.toArray:=λm=>by
   have:=zhC its m []
   rw [List.nil_append] at this
   exact this
  rw [f0]
  cases its with
  | nil=>simp
  | cons a r'=>rw [if_neg (by simp)]
 refine wpAny_binaryOp_repeat_ref (T:="list") (U:="int") (by decide) ⟨_,e,rfl⟩ (λs'=>typeIs_int s' k t) noFill_list_mul F.fills_int_mul F.slot_int_rmul repeat_list F.slot_int_index.lookup
  (call_meets F.slot_int_rmul (typeIs_int s k t) F.entry_int_rmul (F.args_int_rmul_2 _ _) (int___rmul___int_list k t l its.toArray n)
   ⟨e,rfl,⟨_,e,rfl⟩,call_meets F.slot_list_mul ⟨_,e,rfl⟩ F.entry_list_mul (F.args_list_mul_2 _ _) (AutoListH.list___mul___list_int_3 l its.toArray n k t hfit hcap hlong) ⟨e,?_⟩⟩)
 rw [hnew]
 exact ⟨.ref _,_,I.lnew (t':=s.toks) (r.rep k.toNat) (by rw [zmU,Nat.mul_comm];exact hz),rfl,q _ I.fresh⟩
end
section
variable {prog:Program} {w:World} {A:Around} {E:Value->Shared->Prop} {s:Shared}
end
section
variable {X:Cx}
end
end L2
namespace Att
open PySem PySem.W PySem.Calls PyProof.Rows
theorem zfD {P:Params} {h:Heap}:∀ (ns:List Int) (vs:List Value),WellAll P h vs (ns.map WData.int)->IntsAre vs ns:=by
 intro ns
 induction ns with
 | nil =>
  intro vs w
  rw [List.map_nil] at w
  cases w
  exact .nil
 | cons n ns ih =>
  intro vs w
  rw [List.map_cons] at w
  cases w with
  | cons a b =>
   cases a
   exact .cons _ _ (ih _ b)
theorem script_of {l:OpenLaw} {n:Nat} (hn:l.most=some n) {P:Params} {h:Heap} {args:List WData} {vals:List Value}
  (hpre:l.row.toRowW.claim.pre args=true) (hwl:WellAll P h vals args) :
  ∃ a vs ns,vals=[Value.ref a]∧args=[WData.list (ns.map WData.int)]∧h.get? a=some { cls:=.type "list",data:=.seq vs.toArray }∧IntsAre vs ns∧ns.length≤n:=by
 have hsh:WShape.hasAll [] args [.list .int]=true:=(pre_splitW hpre).1
 have hc:l.pre.holds [] { args:=args }=true:=(pre_splitW hpre).2
 obtain ⟨d,r,rfl,h1,h2⟩:=hasAllW_cons hsh
 obtain rfl:=hasAllW_nil h2
 obtain ⟨xs,rfl,h3⟩:=hasW_list h1
 obtain ⟨ns,rfl⟩:=items_int h3
 have hlen:ns.length≤n:=by
  unfold OpenLaw.pre at hc
  have h4:(WTm.not (.lt (.lit (.int (n:Int))) (.len (.arg 0)))).holds [] { args:=[.list (ns.map .int)] }=true:=by
   have h4:=(holds_andW hc).1
   rw [hn] at h4
   exact h4
  have h5:=condW_of h4 (w_not (w_lt w_lit (w_len_list (w_arg rfl))))
  rw [List.length_map] at h5
  refine Nat.le_of_not_lt λq=>?_
  have q':(n:Int)<((ns.length:Nat):Int):=by omega
  first
   | (rw [decide_eq_true q'] at h5;exact absurd h5 (by decide))
   | (simp at h5;omega)
 cases hwl with
 | cons w1 w2 =>
  cases w2
  cases w1 with
  | list ho hall=>exact ⟨_,_,ns,rfl,rfl,ho,zfD ns _ hall,hlen⟩
theorem zjG (l:OpenLaw) (args:List WData):l.row.toRowW.claim.post args (.bool true) args=true :=
 postW_of (r:=l.row.toRowW) (X:=(true == true))
  (show WShape.has [] (.bool true) .bool=true by first | rfl | decide | simp [WShape.has,WShape.arms,WShape.armsAll])
  (show (WTm.eq .res (.lit (.bool true))).value [] { args:=args,res:=some (.bool true),after:=args }=some (.bool (true == true)) from w_eq_bool (w_res rfl) w_lit) rfl
theorem attach_call {l:OpenLaw} {n:Nat} {q:Program} {loose:List Str} {XP:(Str->Option Value)->Heap->Prop} {YP:World->Heap->Prop} {d:DefRec}
  (hn:l.most=some n) (hdf:d.params.defaults=[])
  (call:∀ (w:World) (s₀ s₁:Shared) (mg mb:Str->Option Value) (fa:Addr) (o:Obj) (pm cd doc:Value) (a:Addr) (vs:List Value) (ns:List Int),
   Ground q loose [] XP w s₀ mg mb s₁.heap->YP w s₁.heap →
   s₁.heap.get? fa=some o->o.data=.func (docDef d.name d.params d.body d.scope pm cd doc)->s₁.heap.CodeRec cd d.name->mg d.name=some (.ref fa) →
   s₁.heap.get? a=some { cls:=.type "list",data:=.seq vs.toArray }->IntsAre vs ns->ns.length≤n->s₁.gens=#[] →
   codeAny (model l.prog w) callerA (.call (.ref fa) ⟨[.ref a],[]⟩) (λr s'=>r=.ok (.ret (.bool true))∧OldK s₁.heap s'.heap∧s'.os=s₁.os∧AllBare s'.gens) s₁) :
  WalkO q loose XP YP l.row.toRowW d [] (λf vs=>PySem.call f vs):=by
 intro w s₀ s₁ mg mb G Y fa o pm cd doc dV kV ho hd hcd hD hmg hg args vals as hpre hlay hrd hwl hlo
 obtain rfl:dV=.none:=Dflts.none hD hdf
 obtain rfl:kV=.none:=Dflts.noKw hD
 obtain ⟨a,vs,ns,rfl,rfl,hobj,hints,hlen⟩:=script_of hn hpre hwl
 refine enter_call (codeAny_mono (call w s₀ s₁ mg mb fa o pm cd doc a vs ns G Y ho (fd_plain hd) hcd hmg hobj hints hlen hg) λr s' hq=>?_)
 obtain ⟨rfl,h2,h3,h4⟩:=hq
 exact ⟨.inl ⟨.bool true,.bool true,[],rfl,λ_=>rfl,.bool true,zjG l _,λ_=>⟨List.Pairwise.nil,λ_ hm=>(nomatch hm)⟩⟩,h2,h3,h4⟩
section
variable {prog:Program} {w:World} {A:Around} {E:Value->Shared->Prop} {s:Shared} {K:Frag}
end
end Att
namespace L2
open PySem PySem.Spec PyProof.Rows
theorem zhk:∀ {vs:List Value} {ns:List Int},IntsAre vs ns->Vals (ns.map V.int) vs
 | _,_,.nil=>.nil
 | _,_,.cons n t h=>.cons ⟨t,rfl⟩ (zhk h)
def zpX (H:Hp):Prop:=∀ b,H b=none∨∃ o xs,H b=some (.frz o (.lst xs))
theorem zl5 {P:Program} {w:World} {K:W.Frag} {mg mb:Str->Option Value} {CX:CXT} {k:Nat} {fa a:Addr} {fd:FuncData} {x:Str} {sp:Sp} {s₁:Shared} {vs:List Value} {ns:List Int}
  (KX:K.In s₁.heap) (hns:s₁.heap.Ns mainGlobals mg) (hb:s₁.heap.Ns builtinsNs mb) (hbb:∀ x:Str,x≠"__name__"->mb x=bootBuiltins x) (hlim:s₁.heap.NoLimit) (hg:s₁.gens=#[])
  (ha:s₁.heap.get? a=some { cls:=.type "list",data:=.seq vs.toArray }) (hi:IntsAre vs ns) (hl:ns.length≤sizeLine) (hr:Room k callerA)
  (F:∀ base:Heap,K.In base->base.Ns mainGlobals mg->FnOk P w K mg base CX k fa fd [x] sp) (hbind:∀ (s:Shared) (u:Value),BindsTo s fd ⟨[u],[]⟩ [(x,u)])
  (hsp:∀ H:Hp,zpX H->SqL K H a (ns.map V.int)->sp [.ref a] H (λv _=>v=.bl true) λ_ _ _=>False)
  (hCX:∀ H e s',CX [] H s₁ (λ_ _ _=>False) e s'->False) :
  codeAny (model P w) callerA (.call (.ref fa) ⟨[.ref a],[]⟩) (λr s'=>r=.ok (.ret (.bool true))∧OldK s₁.heap s'.heap∧s'.os=s₁.os∧AllBare s'.gens) s₁:=by
 have rv:=zhk hi
 have lenV:=hi.length
 have core:∀ H:Hp,zpX H->SqL K H a (ns.map V.int)->HOk P w H s₁.heap->(∀ b,H b≠none->b=a)->(H a≠none->K.lookup a=none) →
   codeAny (model P w) callerA (.call (.ref fa) ⟨[.ref a],[]⟩) (λr s'=>r=.ok (.ret (.bool true))∧OldK s₁.heap s'.heap∧s'.os=s₁.os∧AllBare s'.gens) s₁:=by
  intro H hO hS hok hA hK
  have base_of:∀ {b:Addr} {o:Obj},s₁.heap.get? b=some o->H b=none->(zlU s₁.heap H).get? b=some o:=λe n=>zli e n
  have noA:∀ {b:Addr} {o:Obj} {es:Array DictEntry} {ep:Nat},s₁.heap.get? b=some o->o.data=.dict es ep->H b=none:=λ{b o es ep} e d=>by
   cases q:H b with
   | none=>rfl
   | some u =>
    have e':b=a:=hA b (by rw [q];simp)
    subst e'
    rw [ha] at e;cases e
    have d':Data.seq vs.toArray _=Data.dict es ep:=d
    cases d'
  have nsK:∀ {b:Addr} {m:Str->Option Value},s₁.heap.Ns b m->(zlU s₁.heap H).Ns b m:=λ{b m} ⟨o,es,ep,e,d,r⟩=>⟨o,es,ep,base_of e (noA e d),d,r⟩
  have hKb:K.In (zlU s₁.heap H):=λb o e=>base_of (KX b o e) (by
   cases q:H b with
   | none=>rfl
   | some u =>
    have e':b=a:=hA b (by rw [q];simp)
    subst e'
    rw [hK (by rw [q];simp)] at e;cases e)
  have hM:Mod K mg (zlU s₁.heap H):=⟨hKb,nsK hns,⟨mb,nsK hb,hbb⟩,let ⟨mc,h1,h2⟩:=hlim;⟨mc,nsK h1,h2⟩⟩
  have e0:Env0 P w K mg (zlU s₁.heap H) callerA [] s₁ H:=⟨rfl,hM,λb o e=>znE e,Nat.le_of_eq (zke _ _),trivial,λb hb=>absurd (show b∈([]:List Addr) from hb) (by simp),hok,.of_eq hg⟩
  refine codeAny_mono ((F _ hKb (nsK hns)).run callerA [] s₁ H ⟨[.ref a],[]⟩ [.ref a] [.ref a] _ _ hr e0 (hbind s₁ (.ref a)) (.cons rfl .nil) (hsp H hO hS)) λr s' h=>?_
  cases r with
  | error e=>exact (hCX H e s' h).elim
  | ok fl =>
   cases fl with
   | next=>exact False.elim h
   | brk=>exact False.elim h
   | cont=>exact False.elim h
   | ret u =>
    obtain ⟨v,H',os,bare,un,hok',r',q⟩:=h
    have q':v=.bl true:=q
    subst q'
    obtain rfl:u=Value.bool true:=r'
    refine ⟨rfl,OldK.of_keep λb o e=>?_,os,bare⟩
    cases q:H b with
    | none=>exact un.keep b o e q (by intro z;exact absurd (show b∈([]:List Addr) from z) (by simp)) (by simp)
    | some u =>
     rcases hO b with z | ⟨ob,xs,z⟩
     ·rw [q] at z;cases z
     ·have z2:=un.frzs b ob _ z
      obtain ⟨e1,_⟩:=hok b _ z
      obtain ⟨e2,_⟩:=hok' b _ z2
      rw [e] at e1;cases e1
      exact e2
 cases hk:K.lookup a with
 | some o =>
  have e:=KX a o hk
  rw [ha] at e
  cases e
  refine core (λ_=>none) (λ_=>.inl rfl) (.inr ⟨_,vs.toArray,_,hk,rfl,rfl,rfl,by rw [List.size_toArray,lenV];exact hl,by simpa using rv⟩) (λb u z=>by have z':(none:Option HO)=some u:=z;cases z') (λb z=>absurd rfl z) λz=>absurd rfl z
 | none =>
  refine core (λb=>if b=a then some (.frz { cls:=.type "list",data:=.seq vs.toArray } (.lst (ns.map V.int))) else none) (λb=>?_) (.inl (.inr ⟨{ cls:=.type "list",data:=.seq vs.toArray },if_pos rfl⟩)) (λb u z=>?_) (λb z=>?_) λ_=>hk
  ·by_cases hb:b=a
   ·exact .inr ⟨_,_,if_pos hb⟩
   ·exact .inl (if_neg hb)
  ·by_cases hb:b=a
   ·have z':=(if_pos hb).symm.trans z
    cases z'
    subst hb
    exact ⟨ha,by rw [List.length_map];exact hl,vs,_,rv,ha⟩
   ·have z':=(if_neg hb).symm.trans z
    cases z'
  ·by_cases hb:b=a
   ·exact hb
   ·exact absurd (if_neg hb) z
end L2
namespace L2
open PySem PySem.Spec PyProof.Rows
theorem znD {l:W.OpenLaw} {n k:Nat} {q:Program} {loose:List Str} {XP:(Str->Option Value)->Heap->Prop} {YP:World->Heap->Prop} {d:DefRec} {K:Params->W.Frag} {CX:World->CXT} {sp:World->Sp} {x:Str}
  (hn:l.most=some n) (hn2:n≤sizeLine) (hdf:d.params.defaults=[]) (hr:Room k callerA)
  (hY:∀ (w:World) (h:Heap),YP w h->(K w.params).In h)
  (F:∀ (w:World) (mg:Str->Option Value) (fa:Addr) (h:Heap),(K w.params).In h->h.Ns mainGlobals mg->mg d.name=some (.ref fa) →
   ∃ fd:FuncData,(∀ (s:Shared) (u:Value),BindsTo s fd ⟨[u],[]⟩ [(x,u)]) ∧
    ∀ base:Heap,(K w.params).In base->base.Ns mainGlobals mg->FnOk l.prog w (K w.params) mg base (CX w) k fa fd [x] (sp w))
  (hsp:∀ (w:World) (H:Hp) (a:Addr) (ns:List Int),ns.length≤n->zpX H->SqL (K w.params) H a (ns.map V.int)->sp w [.ref a] H (λv _=>v=.bl true) λ_ _ _=>False)
  (hCX:∀ (w:World) (H:Hp) (s:Shared) (e:Value) (s':Shared),CX w [] H s (λ_ _ _=>False) e s'->False) :
  W.WalkO q loose XP YP l.row.toRowW d [] (λf vs=>PySem.call f vs):=by
 refine Att.attach_call hn hdf λw s₀ s₁ mg mb fa o pm cd doc a vs ns G Y ho hd hcd hmg hobj hints hlen hg=>?_
 have KX:=hY w _ Y
 obtain ⟨fd,hb,hF⟩:=F w mg fa _ KX G.T.g hmg
 exact zl5 KX G.T.g G.T.b G.T.builtins G.T.nolimit hg hobj hints (Nat.le_trans hlen hn2) hr hF hb (λH hO hS=>hsp w H a ns hlen hO hS) λH e s'=>hCX w H s₁ e s'
end L2
namespace L2
open PySem PySem.Spec PyProof.Rows
def zm8 (s:Stmt) (j:Nat):Stmt:=match s with
 | .ClassDef _ _ _ body _ _ _ _ _ _ _=>body.getD j (.Pass ⟨0,0,0,0⟩)
 | _=>.Pass ⟨0,0,0,0⟩
def zat (s:Stmt):Arguments:=match s with
 | .FunctionDef _ a _ _ _ _ _ _ _ _=>a
 | _=>{ posonlyargs:=[],args:=[],vararg:=none,kwonlyargs:=[],kw_defaults:=[],kwarg:=none,defaults:=[] }
def zaq (s:Stmt):List Stmt:=match s with
 | .FunctionDef _ _ b _ _ _ _ _ _ _=>b
 | _=>[]
def defScope (s:Stmt):Scope:=match s with
 | .FunctionDef _ _ _ _ _ _ sc _ _ _=>sc
 | _=>{ kind:=.function,names:=[],isGenerator:=false,isCoroutine:=false }
abbrev E0:XK:=λ_ _ _=>False
structure Fun (K:W.Frag) (x qual:Str) (st:Stmt) (f:Addr) (fd:FuncData):Prop where
 ex:∃ (oc:Value) (od:Option Addr) (kV doc pm:Value) (an:Option Addr) (cdv ct:Value) (osl:Array (Option Value)),
  fd=W.fnOf x qual (zat st) (zaq st) (defScope st) .none kV doc pm an cdv ct∧K.lookup f=some ⟨oc,od,.func fd,osl⟩∧W.codeIn K cdv qual=true
 kp:W.keepIn K (.ref f)=true
section
variable {P:Program} {w:World} {K:W.Frag} {mg:Str->Option Value} {base:Heap}
theorem Fun.binds {x qual:Str} {st:Stmt} {f:Addr} {fd:FuncData} {ps:List Str} (F:Fun K x qual st f fd)
  (h:∀ (kV doc pm:Value) (an:Option Addr) (cdv ct:Value) (us:List Value),us.length=ps.length->bindArgs (W.fnOf x qual (zat st) (zaq st) (defScope st) .none kV doc pm an cdv ct) ⟨us,[]⟩=pure (ps.zip us)):zgX K fd ps []:=by
 obtain ⟨oc,od,kV,doc,pm,an,cdv,ct,osl,rfl,lk,hcd⟩:=F.ex
 exact .all (h kV doc pm an cdv ct)
theorem zaF {x qual:Str} {st:Stmt} {f:Addr} {oc:Value} {od an:Option Addr} {osl:Array (Option Value)} {kV doc pm cdv ct:Value} (l:K.lookup f=some ⟨oc,od,.func (W.fnOf x qual (zat st) (zaq st) (defScope st) .none kV doc pm an cdv ct),osl⟩)
  (c:W.codeIn K cdv qual=true) (k:W.keepIn K (.ref f)=true):Fun K x qual st f (W.fnOf x qual (zat st) (zaq st) (defScope st) .none kV doc pm an cdv ct):=⟨⟨oc,od,kV,doc,pm,an,cdv,ct,osl,rfl,l,c⟩,k⟩
end
section
variable {X:Cx}
theorem pv (i:Nat) {x:Str} {pos:Pos} (hN:X.N[i]?=some x:=by rfl) (hv:Vis X.env.scope x:=by first | exact Or.inl rfl | exact Or.inr (Or.inl rfl) | exact Or.inr (Or.inr rfl)) (hd:(x == ("__debug__":Str))=false:=by decide)
  (hcd:(x == ("__classdict__":Str))=false:=by decide):PE X (.Name x pos) (tVar i):=pe_var hN hv hd hcd
end
def Same (H H':Hp):Prop:=∀ b o,H b=some o->H' b=some o
theorem Same.refl (H:Hp):Same H H:=λ_ _ h=>h
theorem Same.trans {H H1 H2:Hp} (a:Same H H1) (b:Same H1 H2):Same H H2:=λc o h=>b c o (a c o h)
theorem Same.free {H H':Hp} (e:Same H H') {l:Addr} (h:H' l=Option.none):H l=Option.none:=by
 cases q:H l with
 | none=>rfl
 | some o =>
  rw [e l o q] at h
  cases h
theorem Same.seq {K:W.Frag} {H H':Hp} {a:Addr} {xs:List V} (e:Same H H') (h:SqL K H a xs):SqL K H' a xs:=by
 rcases h with (h | ⟨o,h⟩) | h
 ·exact .inl (.inl (e _ _ h))
 ·exact .inl (.inr ⟨o,e _ _ h⟩)
 ·exact .inr h
end L2
namespace L2
open PySem PySem.Spec PyProof.Rows
theorem ze8 {env:Env}:∀ (names:List (Str×NameKind)) (acc:List (Str×Addr)),(∀ x∈names,x.2=.free->∃ c,env.cells.lookup x.1=some c) →
  ∃ cl:List (Str×Addr),(forIn (m:=Sem) names acc λ(x:Str×NameKind) (cs:List (Str×Addr))=>if (x.2 == NameKind.free)=true then (do let a ← cellOf env x.1;pure (ForInStep.yield ((x.1,a) :: cs))) else pure (ForInStep.yield cs))=pure cl ∧
   (∀ x c,cl.lookup x=some c->acc.lookup x=some c∨env.cells.lookup x=some c)∧(∀ x,((x,NameKind.free)∈names∨∃ c,acc.lookup x=some c)->∃ c,cl.lookup x=some c)
 | [],acc,_=>⟨acc,rfl,λ_ _ h=>.inl h,λx h=>by
   rcases h with h | h
   ·cases h
   ·exact h⟩
 | (n,k) :: r,acc,h=>by
  have hr:∀ x∈r,x.2=.free->∃ c,env.cells.lookup x.1=some c:=λx hx=>h x (List.mem_cons_of_mem _ hx)
  by_cases hk:k=.free
  ·subst hk
   obtain ⟨c,hc⟩:=h (n,.free) List.mem_cons_self rfl
   obtain ⟨cl,e,h1,h2⟩:=ze8 r ((n,c) :: acc) hr
   refine ⟨cl,?_,λx c' q=>?_,λx q=>?_⟩
   ·rw [List.forIn_cons]
    have e1:cellOf env n=pure c:=by unfold cellOf;rw [hc]
    simp only [beq_self_eq_true,if_true,e1]
    exact e
   ·rcases h1 x c' q with z | z
    ·rw [List.lookup_cons] at z
     cases hx:x == n with
     | true =>
      rw [hx] at z
      have z':some c=some c':=z
      cases z'
      have:x=n:=eq_of_beq hx
      subst this
      exact .inr hc
     | false=>rw [hx] at z;exact .inl z
    ·exact .inr z
   ·refine h2 x ?_
    by_cases hx:x=n
    ·subst hx
     exact .inr ⟨c,by rw [List.lookup_cons];simp⟩
    ·rcases q with q | ⟨c',q⟩
     ·rcases List.mem_cons.mp q with q | q
      ·exact absurd (congrArg Prod.fst q) hx
      ·exact .inl q
     ·refine .inr ⟨c',?_⟩
      have:(x == n)=false:=by simpa using hx
      rw [List.lookup_cons,this]
      exact q
  ·obtain ⟨cl,e,h1,h2⟩:=ze8 r acc hr
   refine ⟨cl,?_,h1,λx q=>h2 x ?_⟩
   ·rw [List.forIn_cons]
    have e1:(k == NameKind.free)=false:=by simpa using hk
    simp only [e1,Bool.false_eq_true,if_false]
    exact e
   ·rcases q with q | q
    ·rcases List.mem_cons.mp q with q | q
     ·exact absurd (congrArg Prod.snd q).symm hk
     ·exact .inl q
    ·exact .inr q
theorem zjj {scope:Scope} {env:Env} (h:∀ x∈scope.names,x.2=.free->∃ c,env.cells.lookup x.1=some c) :
  ∃ cl,closureFor scope env=pure cl∧(∀ x c,cl.lookup x=some c->env.cells.lookup x=some c)∧∀ x,(x,NameKind.free)∈scope.names->∃ c,cl.lookup x=some c:=by
 obtain ⟨cl,e,h1,h2⟩:=ze8 (env:=env) scope.names [] h
 refine ⟨cl,?_,λx c q=>(h1 x c q).elim (λz=>by cases z) id,λx q=>h2 x (.inl q)⟩
 have e2:closureFor scope env=(forIn (m:=Sem) scope.names [] λ(x:Str×NameKind) (cs:List (Str×Addr))=>if (x.2 == NameKind.free)=true then (do let a ← cellOf env x.1;pure (ForInStep.yield ((x.1,a) :: cs))) else pure (ForInStep.yield cs)) >>= λr=>pure r:=by
  unfold closureFor
  rfl
 rw [e2,e]
 rfl
theorem lookup_relabel {env:Env}:∀ {names:List (Str×NameKind)} {x:Str} {k:NameKind},
  (names.map λ(n,k)=>if (k == NameKind.free&&env.scope.kind == .function&&env.kindOf n == some .cell) then (n,NameKind.cell) else (n,k)).lookup x=some k →
   names.lookup x=some k∨(k=.cell∧names.lookup x=some .free)
 | [],_,_,h=>by simp at h
 | (n,k') :: r,x,k,h=>by
  have ih:=@lookup_relabel env r x k
  have h:List.lookup x ((if (k' == NameKind.free&&env.scope.kind == .function&&env.kindOf n == some .cell)=true then (n,NameKind.cell) else (n,k')) :: _)=some k:=h
  cases hx:x == n with
  | true =>
   by_cases hc:(k' == NameKind.free&&env.scope.kind == .function&&env.kindOf n == some .cell)=true
   ·rw [if_pos hc] at h
    simp only [List.lookup_cons,hx] at h
    cases h
    simp only [Bool.and_eq_true,beq_iff_eq] at hc
    refine .inr ⟨rfl,?_⟩
    simp [List.lookup_cons,hx,hc.1.1]
   ·rw [if_neg hc] at h
    simp only [List.lookup_cons,hx] at h
    cases h
    exact .inl (by simp [List.lookup_cons,hx])
  | false =>
   have h':(r.map λ(n,k)=>if (k == NameKind.free&&env.scope.kind == .function&&env.kindOf n == some .cell) then (n,NameKind.cell) else (n,k)).lookup x=some k:=by
    by_cases hc:(k' == NameKind.free&&env.scope.kind == .function&&env.kindOf n == some .cell)=true
    ·rw [if_pos hc] at h
     simpa only [List.lookup_cons,hx] using h
    ·rw [if_neg hc] at h
     simpa only [List.lookup_cons,hx] using h
   simpa only [List.lookup_cons,hx] using ih h'
theorem cells_look:∀ (names:List (Str×NameKind)) (a:Nat) (acc:List (Str×Addr)) (x:Str) (c:Addr),(cellsFrom a names acc).lookup x=some c->((x,NameKind.cell)∈names∧a≤c)∨((x,NameKind.cell) ∉ names∧acc.lookup x=some c)
 | [],_,_,_,_,h=>.inr ⟨by simp,h⟩
 | (n,k) :: r,a,acc,x,c,h=>by
  unfold cellsFrom at h
  by_cases hk:k=.cell
  ·subst hk
   rw [if_pos (by rfl)] at h
   rcases cells_look r (a+1) ((n,a) :: acc) x c h with ⟨h1,h2⟩ | ⟨h1,h2⟩
   ·exact .inl ⟨List.mem_cons_of_mem _ h1,Nat.le_of_succ_le h2⟩
   ·rw [List.lookup_cons] at h2
    cases hx:x == n with
    | true =>
     rw [hx] at h2
     have h2:some a=some c:=h2
     cases h2
     rw [eq_of_beq hx]
     exact .inl ⟨List.mem_cons_self,Nat.le_refl _⟩
    | false =>
     rw [hx] at h2
     refine .inr ⟨λz=>?_,h2⟩
     rcases List.mem_cons.mp z with z | z
     ·have:=congrArg Prod.fst z
      have:x=n:=this
      rw [this] at hx
      simp at hx
     ·exact h1 z
  ·have hk':(k == NameKind.cell)=false:=by simpa using hk
   rw [hk',if_neg (by simp)] at h
   rcases cells_look r a acc x c h with ⟨h1,h2⟩ | ⟨h1,h2⟩
   ·exact .inl ⟨List.mem_cons_of_mem _ h1,h2⟩
   ·refine .inr ⟨λz=>?_,h2⟩
    rcases List.mem_cons.mp z with z | z
    ·exact hk (congrArg Prod.snd z).symm
    ·exact h1 z
theorem zfV:∀ (names:List (Str×NameKind)) (a:Nat) (acc:List (Str×Addr)) (x:Str),((x,NameKind.cell)∈names∨∃ c,acc.lookup x=some c)->∃ c,(cellsFrom a names acc).lookup x=some c
 | [],_,_,_,h=>by
  rcases h with h | h
  ·simp at h
  ·exact h
 | (n,k) :: r,a,acc,x,h=>by
  unfold cellsFrom
  by_cases hk:k=.cell
  ·subst hk
   rw [if_pos (by rfl)]
   refine zfV r (a+1) ((n,a) :: acc) x ?_
   by_cases hx:x=n
   ·subst hx
    exact .inr ⟨a,by rw [List.lookup_cons];simp⟩
   ·rcases h with h | ⟨c,h⟩
    ·rcases List.mem_cons.mp h with h | h
     ·exact absurd (congrArg Prod.fst h) hx
     ·exact .inl h
    ·refine .inr ⟨c,?_⟩
     have:(x == n)=false:=by simpa using hx
     rw [List.lookup_cons,this]
     exact h
  ·have hk':(k == NameKind.cell)=false:=by simpa using hk
   rw [hk',if_neg (by simp)]
   refine zfV r a acc x ?_
   rcases h with h | h
   ·rcases List.mem_cons.mp h with h | h
    ·exact absurd (congrArg Prod.snd h).symm hk
    ·exact .inl h
   ·exact .inr h
theorem zeQ:∀ (names:List (Str×NameKind)) (a:Nat) (acc acc':List (Str×Addr)) (x:Str),((x,NameKind.cell)∈names∨acc.lookup x=acc'.lookup x)->(cellsFrom a names acc).lookup x=(cellsFrom a names acc').lookup x
 | [],_,_,_,_,h=>by
  rcases h with h | h
  ·simp at h
  ·exact h
 | (n,k) :: r,a,acc,acc',x,h=>by
  unfold cellsFrom
  by_cases hk:k=.cell
  ·subst hk
   rw [if_pos (by rfl),if_pos (by rfl)]
   refine zeQ r (a+1) _ _ x ?_
   by_cases hx:x=n
   ·subst hx
    exact .inr (by rw [List.lookup_cons,List.lookup_cons];simp)
   ·have hx':(x == n)=false:=by simpa using hx
    rcases h with h | h
    ·rcases List.mem_cons.mp h with h | h
     ·exact absurd (congrArg Prod.fst h) hx
     ·exact .inl h
    ·exact .inr (by rw [List.lookup_cons,List.lookup_cons,hx'];exact h)
  ·have hk':(k == NameKind.cell)=false:=by simpa using hk
   rw [hk',if_neg (by simp),if_neg (by simp)]
   refine zeQ r a _ _ x ?_
   rcases h with h | h
   ·rcases List.mem_cons.mp h with h | h
    ·exact absurd (congrArg Prod.snd h).symm hk
    ·exact .inl h
   ·exact .inr h
theorem zdq {M:Model} {A:Around} {E:Value->Shared->Prop} {s:Shared} {scope:Scope} {globals:Addr} {closure:List (Str×Addr)} {qual:Str} {func:Option Addr} {code:Value} {outer:Env} {builtins:Addr} {Q:Env->Shared->Prop}
  (hQ:∀ h',h'.Ns s.heap.objs.size (λ_=>none)->(∀ b o,s.heap.get? b=some o->h'.get? b=some o) →
   (∀ x c,(x,NameKind.cell)∈scope.names->(cellsFrom (s.heap.objs.size+1) scope.names closure).lookup x=some c->h'.IsCell c none) →
   Q (newEnv scope s.heap.objs.size globals (cellsFrom (s.heap.objs.size+1) scope.names closure) qual func code (some outer) builtins) { s with heap:=h' }) :
  wpAny M A (newFunctionEnv scope globals closure [] qual func code (some outer) builtins) Q E s:=by
 simp only [newFunctionEnv,Option.isSome_some,if_true]
 refine wpAny_bind (wpAny_alloc ?_)
 refine wpAny_bind (wpAny_layCells _ (λname kind cells=>by cases hkc:kind == NameKind.cell<;>simp [hkc]) _ _ _ _ ?_)
 have ok:=cellsFrom_ok scope.names (s.heap.push { cls:=.type "dict",data:=.dict #[] }) (s.heap.objs.size+1) [] ⟨λ_ _ hm=>(nomatch hm),List.Pairwise.nil⟩ (by rw [Heap.size_push];exact Nat.le_refl _)
 rw [Heap.size_push] at ok
 rw [show ({ s with heap:=s.heap.push { cls:=.type "dict",data:=.dict #[] } }:Shared).heap.objs.size=s.heap.objs.size+1 from Heap.size_push ..]
 simp only [List.forIn_nil]
 refine wpAny_bind (wpAny_pure (wpAny_pure (hQ _ ((Heap.Ns.new s.heap (.type "dict")).keeps (pushCells_keeps _ _)) (λb o e=>pushCells_keeps _ _ b o (Heap.get?_push_of_some _ e)) λx c hx hc=>?_)))
 rw [zeQ _ _ closure [] x (.inl hx)] at hc
 exact (ok.empty x c (PySem.mem_of_lookup hc)).1
def za4 (X:Cx) (N':List Str) (scope:Scope) (cl:List (Str×Addr)) (C:Addr) (fp:List Addr) (s:Shared) (H:Hp):Cx where
 prog:=X.prog
 w:=X.w
 K:=X.K
 mg:=X.mg
 base:=X.base
 A:=X.A
 N:=N'
 s₀:=s
 H₀:=H
 env:=compEnvC scope cl C X.env
 outer:=X.stack
 stack:=X.stack
 ex:=fp
 fn:=λx=>scope.names.lookup x == some .cell
 calm:=true
 pn:=X.pn
 xe:=λ_ _=>False
def zfC (own:Nat) (fv:List Nat) (σ:St):St:=List.replicate own none++fv.map λi=>(σ[i]?).join
structure BlkScope (X:Cx) (scope:Scope) (own fvn:List Str) (fv:List Nat):Prop where
 cell:∀ y∈scope.names,y.2=.cell->scope.names.lookup y.1=some .cell
 fre:∀ y∈scope.names,y.2=.free->scope.names.lookup y.1=some .free
 kind:scope.kind=.function
 names:∀ y∈scope.names,y.2=.local->scope.names.lookup y.1=some .local
 free:∀ y∈scope.names,y.2=.free->X.env.scope.names.lookup y.1=some .cell∨X.env.scope.names.lookup y.1=some .free
 map:fvn.map some=fv.map λi=>X.N[i]?
 vis:∀ x∈fvn,scope.names.lookup x=some .free
section
variable {X:Cx} {pins:List (Addr×Obj)} {σ:St} {H:Hp} {s:Shared}
def zln (X:Cx) (scope:Scope) (cl:List (Str×Addr)) (C:Addr):Prop:=(∀ x c,cl.lookup x=some c->(X.env.cells.lookup x=some c∧scope.names.lookup x≠some .cell)∨(C<c∧scope.names.lookup x=some .cell)) ∧
 (∀ x y c,C<c->cl.lookup x=some c->cl.lookup y=some c->x=y)∧∀ x,((x,NameKind.free)∈scope.names∨(x,NameKind.cell)∈scope.names)->∃ c,cl.lookup x=some c
theorem zoR {scope:Scope} {own fvn:List Str} {fv:List Nat} {cl:List (Str×Addr)} {C:Addr} (B:BlkScope X scope own fvn fv) (h1:∀ x c,cl.lookup x=some c->X.env.cells.lookup x=some c) (h2:∀ x,(x,NameKind.free)∈scope.names->∃ c,cl.lookup x=some c)
  (hlt:∀ x c,X.env.cells.lookup x=some c->c≤C):zln X scope (cellsFrom (C+1) scope.names cl) C:=by
 refine ⟨λx c e=>?_,λx y c hc e1 e2=>?_,λx hx=>?_⟩
 ·rcases cells_look _ _ _ _ _ e with ⟨z1,z2⟩ | ⟨z1,z2⟩
  ·exact .inr ⟨z2,B.cell _ z1 rfl⟩
  ·exact .inl ⟨h1 x c z2,λq=>z1 (PySem.mem_of_lookup q)⟩
 ·have key:∀ x,(cellsFrom (C+1) scope.names cl).lookup x=some c->(x,c)∈cellsFrom (C+1) scope.names []:=λx e=>by
   rcases cells_look _ _ _ _ _ e with ⟨z1,z2⟩ | ⟨z1,z2⟩
   ·rw [zeQ _ _ cl [] x (.inl z1)] at e
    exact PySem.mem_of_lookup e
   ·exact absurd (hlt x c (h1 x c z2)) (Nat.not_le.mpr hc)
  have ap:∀ (names:List (Str×NameKind)) (a:Nat) (acc:List (Str×Addr)),(∀ e∈acc,e.2<a)->(acc.Pairwise λx y=>x.2≠y.2)->(cellsFrom a names acc).Pairwise λx y=>x.2≠y.2:=by
   intro names
   induction names with
   | nil=>intro a acc _ h;exact h
   | cons nk r ih =>
    intro a acc h h'
    obtain ⟨n,k⟩:=nk
    unfold cellsFrom
    split
    ·refine ih (a+1) _ (λe he=>?_) (List.pairwise_cons.mpr ⟨λy hy=>Nat.ne_of_gt (h y hy),h'⟩)
     rcases List.mem_cons.mp he with rfl | he
     ·exact Nat.lt_succ_self _
     ·exact Nat.lt_succ_of_lt (h e he)
    ·exact ih a acc h h'
  exact PySem.name_of_addr (ap scope.names (C+1) [] (by simp) .nil) (key x e1) (key y e2)
 ·refine zfV _ _ _ _ ?_
  rcases hx with hx | hx
  ·exact .inr (h2 x hx)
  ·exact .inl hx
theorem zl3 {scope:Scope} {own fvn:List Str} {fv:List Nat} {cl:List (Str×Addr)} {C:Addr} {fp:List Addr} (I:Inv X pins σ H s) (B:BlkScope X scope own fvn fv) (hc:X.calm=true)
  (hb:zln X scope cl C)
  (hC:s.heap.objs.size≤C) (hf:∀ b∈fp,FpOk X pins H b) (hl:∀ b∈fp,b<s.heap.objs.size):(za4 X (own++fvn) scope cl C fp s H).Ok where
 mod:=I.ok.mod
 kind:=B.kind
 glob:=I.ok.glob
 blt:=I.ok.blt
 above:=hC
 inj:=λx y c e1 e2=>by
  have lt:∀ z,X.env.cells.lookup z=some c->c<s.heap.objs.size:=λz e=>by obtain ⟨v,q⟩:=I.cell z c e;exact q.lt
  rcases hb.1 x c e1 with ⟨z1,_⟩ | ⟨z1,_⟩
  ·rcases hb.1 y c e2 with ⟨z2,_⟩ | ⟨z2,_⟩
   ·exact I.ok.inj x y c z1 z2
   ·exact absurd (Nat.lt_of_lt_of_le (lt x z1) hC) (Nat.not_lt.mpr (Nat.le_of_lt z2))
  ·exact hb.2.1 x y c z1 e1 e2
 has:=λx hx=>by
  have hx:(scope.names.map λ(n,k)=>if (k == NameKind.free&&X.env.scope.kind == .function&&X.env.kindOf n == some .cell) then (n,NameKind.cell) else (n,k)).lookup x=some .cell ∨
   (scope.names.map λ(n,k)=>if (k == NameKind.free&&X.env.scope.kind == .function&&X.env.kindOf n == some .cell) then (n,NameKind.cell) else (n,k)).lookup x=some .free:=hx
  refine hb.2.2 x ?_
  rcases hx with hx | hx
  ·rcases lookup_relabel hx with z | ⟨_,z⟩
   ·exact .inr (PySem.mem_of_lookup z)
   ·exact .inl (PySem.mem_of_lookup z)
  ·rcases lookup_relabel hx with z | ⟨z,_⟩
   ·exact .inl (PySem.mem_of_lookup z)
   ·cases z
 cab:=λx c h e=>by
  have h:(scope.names.lookup x == some NameKind.cell)=true:=h
  rcases hb.1 x c e with ⟨_,z⟩ | ⟨z,_⟩
  ·exact absurd (eq_of_beq h) z
  ·exact Nat.le_trans hC (Nat.le_of_lt z)
 hd:=λ_=>I.ok.hd hc
 frames:=I.ok.frames
 stk:=.inl rfl
 exf:=λb hb'=>⟨Nat.ne_of_lt (Nat.lt_of_lt_of_le (hl b hb') hC),λx c e=>by
  rcases hb.1 x c e with ⟨z,_⟩ | ⟨z,_⟩
  ·exact (hf b hb').2.2.2.2.1 x c z
  ·exact Nat.ne_of_gt (Nat.lt_trans (Nat.lt_of_lt_of_le (hl b hb') hC) z)⟩
 bs:=I.bs
 bsz:=Nat.le_trans I.ok.bsz I.sz
 noex:=λb o e hb=>by
  rcases (hf b hb).2.2.2.1 with z | z
  ·exact I.ok.noex b o e z
  ·exact absurd (Nat.lt_of_lt_of_le (Heap.lt_size (I.ok.bs b o e).1) z) (Nat.lt_irrefl _)
 exfs:=λb hb z=>by
  rcases List.mem_cons.mp (I.stkSub b z) with q | q
  ·exact (hf b hb).2.1 q
  ·exact (hf b hb).2.2.1 q
 funs:=I.stack
 frf:=I.stkFree
theorem zm2 {own:List Str} {fvn:List Str} {fv:List Nat} {i:Nat} {x:Str} {v:V} (hm:fvn.map some=fv.map λi=>X.N[i]?) (h1:(own++fvn)[i]?=some x) (h2:(zfC own.length fv σ)[i]?=some (some v)) :
  x∈fvn∧∃ j:Nat,X.N[j]?=some x∧σ[j]?=some (some v):=by
 unfold zfC at h2
 by_cases hi:i<own.length
 ·rw [List.getElem?_append_left (by simpa using hi),List.getElem?_replicate] at h2
  split at h2<;>cases h2
 ·rw [List.getElem?_append_right (by simpa using hi),List.length_replicate,List.getElem?_map] at h2
  rw [List.getElem?_append_right (by simpa using hi)] at h1
  have q:(fvn.map some)[i-own.length]?=(fv.map λi=>X.N[i]?)[i-own.length]?:=by rw [hm]
  rw [List.getElem?_map,List.getElem?_map,h1] at q
  cases e:fv[i-own.length]? with
  | none=>rw [e] at h2;cases h2
  | some j =>
   rw [e] at h2 q
   have q':X.N[j]?=some x:=(Option.some.inj q).symm
   have h2':(σ[j]?).join=some v:=Option.some.inj h2
   refine ⟨List.mem_of_getElem? h1,j,q',?_⟩
   cases e2:σ[j]? with
   | none=>rw [e2] at h2';cases h2'
   | some o =>
    rw [e2] at h2'
    have:o=some v:=h2'
    rw [this]
theorem zhP {scope:Scope} {own fvn:List Str} {fv:List Nat} {cl:List (Str×Addr)} {C D:Addr} {fp:List Addr} {h':Heap} {t':Nat} {m:Str->Option Value} (I:Inv X pins σ H s) (B:BlkScope X scope own fvn fv) (hc:X.calm=true)
  (hb:zln X scope cl C) (hnew:∀ x c,C<c->cl.lookup x=some c->h'.IsCell c none)
  (hf:∀ b∈fp,FpOk X pins H b) (hl:∀ b∈fp,b<s.heap.objs.size) (hD:s.heap.objs.size≤D) (hC:s.heap.objs.size≤C) (hDC:D<C)
  (k:∀ b o,s.heap.get? b=some o->h'.get? b=some o) (hn:h'.Ns C m) (ho:h'.get? D=some { cls:=.type "list",data:=.seq #[] 0 }) :
  Inv (za4 X (own++fvn) scope cl C fp s H) pins (zfC own.length fv σ) (upd H D (.lst [])) { s with heap:=h',toks:=t' }:=by
 have hDn:H D=none:=I.hok.fresh hD
 have hCn:H C=none:=I.hok.fresh hC
 have lt:∀ b o,s.heap.get? b=some o->b≠D:=λb o e=>Nat.ne_of_lt (Nat.lt_of_lt_of_le (Heap.lt_size e) hD)
 refine ⟨zl3 I B hc hb hC hf hl,rfl,I.bare,Un.laid k hD hDn,⟨m,hn,λi x v e1 e2 e3=>?_⟩,λx c e=>?_,?_,λx c e=>?_,λp hp=>?_,?_,?_⟩
 ·obtain ⟨hx,j,e4,e5⟩:=zm2 B.map e1 e2
  have hfr:=B.vis x hx
  obtain ⟨c,hcl⟩:=hb.2.2 x (.inl (PySem.mem_of_lookup hfr))
  have h1x:X.env.cells.lookup x=some c:=by
   rcases hb.1 x c hcl with ⟨z,_⟩ | ⟨_,z⟩
   ·exact z
   ·rw [hfr] at z;cases z
  obtain ⟨m0,hn0,hl0⟩:=I.loc
  have ok:=B.free _ (PySem.mem_of_lookup hfr) rfl
  have hv:Vis X.env.scope x:=by
   rcases ok with z | z
   ·exact .inr (.inl z)
   ·exact .inr (.inr z)
  obtain ⟨u,r,l⟩:=hl0 j x v e4 e5 hv
  refine ⟨u,r,.inr ⟨?_,c,hcl,?_⟩⟩
  ·rcases e3 with z | z | z
   ·have z':(scope.names.map λ(n,k)=>if (k == NameKind.free&&X.env.scope.kind == .function&&X.env.kindOf n == some .cell) then (n,NameKind.cell) else (n,k)).lookup x=some .local:=z
    rcases lookup_relabel z' with y | ⟨y,_⟩
    ·rw [hfr] at y;cases y
    ·cases y
   ·exact .inl z
   ·exact .inr z
  ·rcases l with ⟨k0,_⟩ | ⟨_,c',e6,o,ho',hd⟩
   ·have k0':X.env.scope.names.lookup x=some .local:=k0
    rcases ok with z | z<;>(rw [k0'] at z;cases z)
   ·rw [h1x] at e6
    cases e6
    exact ⟨o,k _ _ ho',hd⟩
 ·rcases hb.1 x c e with ⟨z,_⟩ | ⟨z,_⟩
  ·obtain ⟨v,o,ho',hd⟩:=I.cell x c z
   exact ⟨v,o,k _ _ ho',hd⟩
  ·exact ⟨none,hnew x c z e⟩
 ·show upd H D (.lst []) C=none
  rw [upd_ne (Nat.ne_of_gt hDC)];exact hCn
 ·rcases hb.1 x c e with ⟨z,_⟩ | ⟨z,_⟩
  ·obtain ⟨v,o,ho',hd⟩:=I.cell x c z
   rw [upd_ne (lt _ _ ho')]
   exact I.freeC x c z
  ·rw [upd_ne (Nat.ne_of_gt (Nat.lt_trans hDC z))]
   exact I.hok.fresh (Nat.le_trans hC (Nat.le_of_lt z))
 ·obtain ⟨e,n,ne,nf,d⟩:=I.pin p hp
  refine ⟨k _ _ e,?_,Nat.ne_of_lt (Nat.lt_of_lt_of_le (Heap.lt_size e) hC),λz=>?_,d⟩
  ·rw [upd_ne (lt _ _ e)];exact n
  ·rcases List.mem_cons.mp (I.stkSub _ z) with q | q
   ·exact ne q
   ·exact nf q
 ·exact I.hok.laid k hD ⟨Nat.zero_le _,[],0,.nil,ho⟩
 ·have hm:=congrArg List.length B.map
  rw [List.length_map,List.length_map] at hm
  show (zfC own.length fv σ).length=(own++fvn).length
  unfold zfC
  rw [List.length_append,List.length_append,List.length_replicate,List.length_map,hm]
theorem zkv {scope:Scope} {N':List Str} {cl:List (Str×Addr)} {C:Addr} {fp:List Addr} {σ':St} {H':Hp} {s':Shared} (I:Inv X pins σ H s) (hC:s.heap.objs.size≤C) (hf:∀ b∈fp,FpOk X pins H b)
  (J:Inv (za4 X N' scope cl C fp s H) pins σ' H' s'):Inv X pins σ H' s'∧FpOk X pins H' C:=by
 have I':Inv X pins σ H' s':=I.call' (ch:=fp) J.os J.base J.hok J.bare λb hb=>⟨(hf b hb).2.2.2.1,(hf b hb).2.1,(hf b hb).2.2.2.2.1,(hf b hb).2.2.2.2.2⟩
 refine ⟨I',J.free,Nat.ne_of_gt (Nat.lt_of_lt_of_le I.lt hC),I.nofs hC,.inr (Nat.le_trans I.sz hC),λx c e z=>?_,λp hp z=>?_⟩
 ·obtain ⟨v,q⟩:=I.cell x c e
  exact absurd (Nat.lt_of_lt_of_le q.lt (by rw [z];exact hC)) (Nat.lt_irrefl _)
 ·exact absurd (Nat.lt_of_lt_of_le (Heap.lt_size (I.pin p hp).1) (by rw [z];exact hC)) (Nat.lt_irrefl _)
end
section
variable {prog:Program} {w:World} {A:Around} {R:Result->Shared->Prop} {s:Shared}
theorem comp_loop {elt target iter:Expr} {ifs:List Expr} {scope:Scope} {pos:Pos} {it acc:Value} {env:Env} (I:Nat->Shared->Prop)
  (turn:∀ n s,I n s->wpAny (model prog w) A (pyNext it) (λr s₁=>match r with
   | none=>R (.ok .next) s₁
   | some v=>wpAny (model prog w) A (letOwnedTupleGo target it v) (λ_ s₁'=>wpAny (model prog w) A (assign target env v) (λ_ s₂ =>
     wpAny (model prog w) A (forIn ifs true λc r=>if r=true then do let ok ← isTrue c env (eval c env);pure (ForInStep.yield ok) else pure (ForInStep.yield r)) (λok s₃ =>
      if ok=true then wpAny (model prog w) A (eval elt env) (λx s₄ =>
       wpAny (model prog w) A (call (.builtin "list.append") [acc,x]) (λ_ s₅=>∃ m,m<n∧I m s₅) (λ_ _=>False) s₄) (λ_ _=>False) s₃
      else ∃ m,m<n∧I m s₃) (λ_ _=>False) s₂) (λ_ _=>False) s₁') (λ_ _=>False) s₁) (λ_ _=>False) s)
  (n:Nat) (h:I n s) :
  codeAny (model prog w) A (.compLoop (.ListComp elt [⟨target,iter,ifs,0⟩] scope pos) 0 it acc env) R s:=by
 refine codeAny_loop rfl I (λn s hI=>?_) n h
 show wpAny _ A ((compTurn (.ListComp elt [⟨target,iter,ifs,0⟩] scope pos) 0 it acc env).onRaise (λx=>do noteFrame x env;theTreesLotGoes x)) _ _ s
 refine wpAny_noted ?_
 rw [compTurn_list]
 refine wpAny_bind (wpAny_standAt (wpAny_bind (wpAny_mono (turn n s hI) (λr s₁ h₁=>?_) λ_ _ h'=>h'.elim)))
 cases r with
 | none=>exact wpAny_pure h₁
 | some v =>
  refine wpAny_bind (wpAny_mono h₁ (λ_ s₁' h₁'=>?_) λ_ _ h'=>h'.elim)
  refine wpAny_bind (wpAny_mono h₁' (λ_ s₂ h₂=>wpAny_bind (wpAny_mono h₂ (λok s₃ h₃=>?_) λ_ _ h'=>h'.elim)) λ_ _ h'=>h'.elim)
  cases ok with
  | false=>exact wpAny_pure ⟨rfl,h₃⟩
  | true =>
   exact wpAny_bind (wpAny_bind (wpAny_mono h₃ (λx s₄ h₄=>wpAny_bind (wpAny_mono h₄ (λ_ s₅ h₅=>wpAny_pure (wpAny_pure ⟨rfl,h₅⟩)) λ_ _ h'=>h'.elim)) λ_ _ h'=>h'.elim))
end
abbrev TTs:=St->Hp->(Bool->Hp->Prop)->Prop
def PTs (X:Cx) (ifs:List Expr) (t:TTs):Prop :=
 ∀ (pins:List (Addr×Obj)) (s:Shared) (σ:St) (H:Hp) (Q:Bool->Hp->Prop),Inv X pins σ H s->t σ H Q →
  wpAny (model X.prog X.w) X.A (forIn ifs true λc r=>if r=true then do let ok ← isTrue c X.env (eval c X.env);pure (ForInStep.yield ok) else pure (ForInStep.yield r)) (TP X pins σ Q) X.xe s
def tNoIf:TTs:=λ_ H Q=>Q true H
theorem pts_nil {X:Cx}:PTs X [] tNoIf:=λ_ _ _ H _ I h=>wpAny_tests_nil ⟨H,I,h⟩
theorem zjL {X:Cx} {c:Expr} {t:TT} (h:PT X c t):PTs X [c] t:=λpins s σ H Q I hw=>wpAny_tests_one (h pins s σ H Q I hw)
def zkE (own:Nat) (fv:List Nat) (wi:TI) (g:TG) (tt:TTs) (te:TE):TE:=λσ H Q=>wi σ H λJ H1=>∀ D,H1 D=none →
 ∃ W:Nat->Nat->List V->St->Hp->Prop,(∃ m,W 0 m [] (zfC own fv σ) (upd H1 D (.lst [])))∧∀ i m ys σb H,W i m ys σb H->H D=some (.lst ys) ∧
  ((J.stop i H∧Q (.ref D) H)∨(J.go i H∧∀ x H',J.yld i H x H'->g x σb H' λσ2 H2=>tt σ2 H2 λok H3=>if ok=true then te σ2 H3 λy H4=>H4 D=some (.lst ys)∧ys.length<sizeLine∧∃ m',m'<m∧W (i+1) m' (ys++[y]) σ2 (upd H4 D (.lst (ys++[y])))
   else ∃ m',m'<m∧W (i+1) m' ys σ2 H3))
section
variable {X:Cx} {tg iter elt:Expr} {ifs:List Expr} {scope:Scope} {pos:Pos} {wi:TI} {g:TG} {tt:TTs} {te:TE} {own fvn:List Str} {fv:List Nat}
theorem zi0 {pins:List (Addr×Obj)} {σ:St} {s:Shared} {Q:VK} {E:Value->Shared->Prop} {cl:List (Str×Addr)} {RR:Value->Addr->Result->Shared->Prop} {itv:Value}
  (hc:X.calm=true) (B:BlkScope X scope own fvn fv) (h1:∀ x c,cl.lookup x=some c->X.env.cells.lookup x=some c) (h2:∀ x,(x,NameKind.free)∈scope.names->∃ c,cl.lookup x=some c)
  (hb:∀ (cl:List (Str×Addr)) (C:Addr) (fp:List Addr) (s:Shared) (H:Hp),PG (za4 X (own++fvn) scope cl C fp s H) tg g∧PTs (za4 X (own++fvn) scope cl C fp s H) ifs tt∧PE (za4 X (own++fvn) scope cl C fp s H) elt te)
  (P:PIE X pins σ tg (λJ H1=>∀ D,H1 D=none →
   ∃ W:Nat->Nat->List V->St->Hp->Prop,(∃ m,W 0 m [] (zfC own.length fv σ) (upd H1 D (.lst [])))∧∀ i m ys σb H,W i m ys σb H->H D=some (.lst ys) ∧
    ((J.stop i H∧Q (.ref D) H)∨(J.go i H∧∀ x H',J.yld i H x H'->g x σb H' λσ2 H2=>tt σ2 H2 λok H3=>if ok=true then te σ2 H3 λy H4=>H4 D=some (.lst ys)∧ys.length<sizeLine∧∃ m',m'<m∧W (i+1) m' (ys++[y]) σ2 (upd H4 D (.lst (ys++[y])))
     else ∃ m',m'<m∧W (i+1) m' ys σ2 H3))) itv s)
  (hRR:∀ D C s' H' m,Inv X pins σ H' s'->s'.heap.Ns C m->FpOk X pins H' C->Q (.ref D) H'->RR (.ref D) C (.ok .next) s') :
  wpAny (model X.prog X.w) X.A (newList []) (λacc s₃=>wpAny (model X.prog X.w) X.A (newFunctionEnv scope X.env.globals cl [] X.env.qual none .none (some X.env)) (λcenv s₄ =>
   codeAny (model X.prog X.w) X.A (.compStart (.ListComp elt [⟨tg,iter,ifs,0⟩] scope pos) 0 itv acc { cenv with scope:=relabel scope X.env }) (RR acc cenv.locals) s₄) E s₃) E s:=by
 obtain ⟨it,fp,tn,J,H2,rfl,I2,T,st2,f2,hW⟩:=P
 have hl:∀ b∈fp,b<s.heap.objs.size:=λb hb=>by
  obtain ⟨o,e,_⟩:=T.obj _ _ st2 b hb
  exact Heap.lt_size e
 refine wpAny_newObj_type (zdq (λh₁ hns₁ hsb₁ hcl₁=>?_))
 dsimp only at hns₁ hsb₁ hcl₁ ⊢
 generalize hH2:s.heap.push { cls:=.type "list",dict:=none,data:=.seq ([]:List Value).toArray }=G2 at hns₁ hsb₁ hcl₁ ⊢
 have hC:G2.objs.size=s.heap.objs.size+1:=by rw [← hH2,Heap.size_push]
 have hDC:s.heap.objs.size<G2.objs.size:=by rw [hC];exact Nat.lt_succ_self _
 have hCle:s.heap.objs.size≤G2.objs.size:=by rw [hC];exact Nat.le_succ _
 have old:∀ b o,s.heap.get? b=some o->h₁.get? b=some o:=λb o e=>hsb₁ b o (hH2 ▸ Heap.get?_push_of_some _ e)
 have hacc:h₁.get? s.heap.objs.size=some { cls:=.type "list",data:=.seq #[] 0 }:=hsb₁ _ _ (hH2 ▸ Heap.get?_push_size _ rfl)
 have hbc:zln X scope (cellsFrom (G2.objs.size+1) scope.names cl) G2.objs.size:=zoR B h1 h2 λx c e=>by
  obtain ⟨v,q⟩:=I2.cell x c e
  exact Nat.le_trans (Nat.le_of_lt q.lt) hCle
 have hnew:∀ x c,G2.objs.size<c->(cellsFrom (G2.objs.size+1) scope.names cl).lookup x=some c->h₁.IsCell c none:=λx c hc' e=>by
  rcases hbc.1 x c e with ⟨z,_⟩ | ⟨_,z⟩
  ·obtain ⟨v,q⟩:=I2.cell x c z
   exact absurd (Nat.lt_of_lt_of_le q.lt hCle) (Nat.not_lt.mpr (Nat.le_of_lt hc'))
  ·exact hcl₁ x c (PySem.mem_of_lookup z) e
 generalize cellsFrom (G2.objs.size+1) scope.names cl=cl' at hbc hnew ⊢
 clear h1 h2 hcl₁
 obtain ⟨W,⟨m0,w0⟩,turn⟩:=hW s.heap.objs.size (I2.hok.fresh (Nat.le_refl _))
 have J0:∀ t',Inv (za4 X (own++fvn) scope cl' G2.objs.size fp s H2) pins (zfC own.length fv σ) (upd H2 s.heap.objs.size (.lst [])) { s with heap:=h₁,toks:=t' }:=λt' =>
  zhP I2 B hc hbc hnew f2 hl (Nat.le_refl _) hCle hDC old hns₁ hacc
 obtain ⟨hpg,hpt,hpe⟩:=hb cl' G2.objs.size fp s H2
 have stat:∀ {H':Hp},(∀ b∈fp,H' b=none)->∀ b∈fp,FpOk (za4 X (own++fvn) scope cl' G2.objs.size fp s H2) pins H' b:=λhn b hb =>
  ⟨hn b hb,Nat.ne_of_lt (Nat.lt_of_lt_of_le (hl b hb) hCle),λz=>by
   rcases List.mem_cons.mp (I2.stkSub b z) with q | q
   ·exact (f2 b hb).2.1 q
   ·exact (f2 b hb).2.2.1 q,.inl hb,λx c e=>(by
    rcases hbc.1 x c e with ⟨z,_⟩ | ⟨z,_⟩
    ·exact (f2 b hb).2.2.2.2.1 x c z
    ·exact Nat.ne_of_gt (Nat.lt_trans (Nat.lt_of_lt_of_le (hl b hb) hCle) z)),(f2 b hb).2.2.2.2.2⟩
 have st1:tn 0 h₁:=T.keep _ _ _ st2 λb hb o e=>old b o e
 have fr1:∀ b∈fp,upd H2 s.heap.objs.size (.lst []) b=none:=λb hb=>by
  rw [upd_ne (Nat.ne_of_lt (hl b hb))];exact (f2 b hb).1
 have loop:∀ s₃:Shared,s₃={ s with heap:=h₁ } →
   codeAny (model X.prog X.w) X.A (.compLoop (.ListComp elt [⟨tg,iter,ifs,0⟩] scope pos) 0 (.ref it) (.ref s.heap.objs.size) (compEnvC scope cl' G2.objs.size X.env)) (RR (.ref s.heap.objs.size) G2.objs.size) s₃:=by
  rintro s₃ rfl
  refine comp_loop (λn s'=>∃ i ys σ' H',Inv (za4 X (own++fvn) scope cl' G2.objs.size fp s H2) pins σ' H' s'∧tn i s'.heap∧(∀ b∈fp,H' b=none)∧W i n ys σ' H') ?_ m0 ⟨0,[],_,_,J0 s.toks,st1,fr1,w0⟩
  rintro n s3 ⟨i,ys,σ3,H3,I3,st3,fr3,w3⟩
  obtain ⟨hD,w3⟩:=turn i n ys σ3 H3 w3
  rcases w3 with ⟨stop,qn⟩ | ⟨go,step⟩
  ·refine thn (T.done (za4 X (own++fvn) scope cl' G2.objs.size fp s H2) rfl rfl rfl rfl i pins s3 σ3 H3 _ I3 (stat fr3) st3 stop) λr s4 ⟨hr,I4⟩=>?_
   subst hr
   obtain ⟨I5,fC⟩:=zkv I2 hCle f2 I4
   obtain ⟨m,hn,_⟩:=I4.loc
   exact hRR _ _ s4 H3 m I5 hn fC qn
  ·refine thn (T.item (za4 X (own++fvn) scope cl' G2.objs.size fp s H2) rfl rfl rfl rfl i pins s3 σ3 H3 _ I3 (stat fr3) st3 go) λr s4 ⟨u,hr,h4⟩=>?_
   subst hr
   refine thn h4 λ_ s5 ⟨x,H5,I5,r5,y5,st5,fr5⟩=>?_
   have I5':=I5.pinned (stat fr5) (T.obj _ _ st5)
   refine thn (hpg _ s5 σ3 H5 x u _ I5' r5 (step x H5 y5)) λ_ s6 ⟨σ6,H6,I6,q6⟩=>?_
   refine thn (hpt _ s6 σ6 H6 _ I6 q6) λok s7 ⟨H7,I7,q7⟩=>?_
   have again:∀ {s8:Shared} {σ8:St} {H8:Hp} {ys':List V} {m':Nat},Inv (za4 X (own++fvn) scope cl' G2.objs.size fp s H2) (pins++zho fp s5.heap) σ8 H8 s8->m'<n->W (i+1) m' ys' σ8 H8 →
     ∃ m,m<n∧∃ i ys σ' H',Inv (za4 X (own++fvn) scope cl' G2.objs.size fp s H2) pins σ' H' s8∧tn i s8.heap∧(∀ b∈fp,H' b=none)∧W i m ys σ' H':=λ{s8 σ8 H8 ys' m'} I8 hm w8=>by
    refine ⟨m',hm,i+1,ys',σ8,H8,I8.unpinned,T.keep _ _ _ st5 λb hb o e=>(I8.pin (b,o) (List.mem_append_right _ (List.mem_append_right _ (zem hb e)))).1,λb hb=>?_,w8⟩
    obtain ⟨o,e,d⟩:=T.obj _ _ st5 b hb
    exact (I8.pin (b,o) (List.mem_append_right _ (List.mem_append_right _ (zem hb e)))).2.1
   cases ok with
   | false =>
    rw [if_neg Bool.false_ne_true] at q7 ⊢
    obtain ⟨m',hm,w8⟩:=q7
    exact again I7 hm w8
   | true =>
    rw [if_pos rfl] at q7 ⊢
    refine thn (hpe _ s7 σ6 H7 _ I7 q7) λyv s8 ⟨y,H8,I8,r8,hD8,hz8,m',hm,w8⟩=>?_
    refine thn (mt_append _ s8 σ6 H8 (.ref s.heap.objs.size) [y] _ [yv] (λ_ H9=>H9=upd H8 s.heap.objs.size (.lst (ys++[y]))) I8 rfl (.cons r8 .nil) ⟨_,ys,y,rfl,rfl,hD8,hz8,rfl⟩) λ_ s9 ⟨_,H9,I9,_,e9⟩=>?_
    subst e9
    exact again I9 hm w8
 exact codeAny_compStart_list (loop _ rfl) (T.self _ 0 _ _ _ st1 (loop _ rfl))
theorem zfx (B:BlkScope X scope own fvn fv) (ok:X.Ok):∃ cl,closureFor scope X.env=pure cl∧(∀ x c,cl.lookup x=some c->X.env.cells.lookup x=some c)∧∀ x,(x,NameKind.free)∈scope.names->∃ c,cl.lookup x=some c :=
 zjj λx hx hk=>ok.has x.1 (B.free x hx hk)
theorem pe_comp (hc:X.calm=true) (B:BlkScope X scope own fvn fv) (hi:PI X tg iter wi)
  (hb:∀ (cl:List (Str×Addr)) (C:Addr) (fp:List Addr) (s:Shared) (H:Hp),PG (za4 X (own++fvn) scope cl C fp s H) tg g∧PTs (za4 X (own++fvn) scope cl C fp s H) ifs tt∧PE (za4 X (own++fvn) scope cl C fp s H) elt te)
  (hs:∀ x,foldedSetIterable iter X.env x=pure x:=by intro _;rfl):PE X (.ListComp elt [⟨tg,iter,ifs,0⟩] scope pos) (zkE own.length fv wi g tt te):=by
 intro pins s σ H Q I h
 obtain ⟨cl,hcl,h1,h2⟩:=zfx B I.ok
 rw [eval_ListComp]
 refine wpAny_comprehension_free (use:=none) rfl hs hcl B.kind B.names (thn (hi pins s σ H _ I h) λv s1 q1=>thn q1 λitv s2 q2=>?_)
 refine zi0 (RR:=λacc C=>compPost (model X.prog X.w) X.A X.xe none (EP X pins σ Q) acc C) hc B h1 h2 hb q2 λD C s' H' m I' hn fC q=>?_
 exact ⟨m,hn,λh' hs'=>⟨.ref D,H',I'.turned (t':=s'.toks) (λb o hb e=>(hs'.2 b hb).trans e) fC.1 fC.2.1 fC.2.2.2.1 fC.2.2.2.2.1 fC.2.2.2.2.2,rfl,q⟩⟩
theorem zdX {i:Nat} {x:Str} {pos' spos:Pos} (hc:X.calm=true) (hN:X.N.Nodup) (hix:X.N[i]?=some x) (hx:X.env.scope.names.lookup x=some .local) (B:BlkScope X scope own fvn fv) (hi:PI X tg iter wi)
  (hb:∀ (cl:List (Str×Addr)) (C:Addr) (fp:List Addr) (s:Shared) (H:Hp),PG (za4 X (own++fvn) scope cl C fp s H) tg g∧PTs (za4 X (own++fvn) scope cl C fp s H) ifs tt∧PE (za4 X (own++fvn) scope cl C fp s H) elt te)
  (hsw:swapsWith (.ListComp elt [⟨tg,iter,ifs,0⟩] scope pos) (some (.Name x pos')) spos.line X.env=pure true:=by rfl)
  (hs:∀ x,foldedSetIterable iter X.env x=pure x:=by intro _;rfl) :
  PS X (.Assign [.Name x pos'] (.ListComp elt [⟨tg,iter,ifs,0⟩] scope pos) spos) (zgV (zkE own.length fv wi g tt te) (zbx i)):=by
 intro pins s σ H D I h
 obtain ⟨cl,hcl,h1,h2⟩:=zfx B I.ok
 rw [exec_Assign_Name_used _ _ _ _ hsw]
 refine wpAny_bind (wpAny_standAt (wpAny_bind ?_))
 show wpAny _ _ (do let _ ← comprehension (.ListComp elt [⟨tg,iter,ifs,0⟩] scope pos) scope X.env _ (newList []) false (eval iter X.env) (some (assign (.Name x pos') X.env))) _ _ s
 refine wpAny_bind (wpAny_mono (wpAny_comprehension_free (use:=some (assign (.Name x pos') X.env)) (Q:=λ_ s'=>SP X pins D .next s') rfl hs hcl B.kind B.names
  (thn (hi pins s σ H _ I h) λv s1 q1=>thn q1 λitv s2 q2=>?_)) (λ_ s' hq=>wpAny_pure (wpAny_pure hq)) λ_ _ e=>e)
 refine zi0 (Q:=λv H1=>zbx i v σ H1 D.nx) (RR:=λacc C=>compPost (model X.prog X.w) X.A X.xe (some (assign (.Name x pos') X.env)) (λ_ s'=>SP X pins D .next s') acc C) hc B h1 h2 hb q2 λDa C s' H' m I' hn fC q=>?_
 show wpAny _ _ (assign (.Name x pos') X.env (.ref Da)) _ _ _
 refine wpAny_assign_Name (zhc I' hN hix (.inl hx) (v:=.ref Da) rfl (λs'' I'' ⟨a,hsb,ha⟩=>?_) (.inr hx))
 have hCa:C≠a:=by
  rcases ha with z | z
  ·rw [z];exact fC.2.1
  ·exact Ne.symm (fC.2.2.2.2.1 x a z)
 refine ⟨m,hn.sameBut hsb hCa,λh'' hs''=>⟨_,H',I''.turned (t':=s''.toks) (λb o hb e=>(hs''.2 b hb).trans e) fC.1 fC.2.1 fC.2.2.2.1 fC.2.2.2.2.1 fC.2.2.2.2.2,q⟩⟩
end
end L2
namespace L2
open PySem PySem.Spec PyProof.Rows
section
variable {X:Cx} {pins:List (Addr×Obj)} {σ:St} {H:Hp} {s:Shared} {h':Heap}
theorem Inv.turnedNew {t':Nat} {ch:List Addr} {T:Addr} {o:HO} (I:Inv X pins σ H s) (hf:∀ b∈ch,FpOk X pins H b) (k:∀ b u,b ∉ ch->s.heap.get? b=some u->h'.get? b=some u) (hT:s.heap.objs.size≤T)
  (new:zcs X.prog X.w (upd H T o) h' T o):Inv X pins σ (upd H T o) { s with heap:=h',toks:=t' }:=by
 have hn:H T=none:=I.hok.fresh hT
 have lt:∀ b u,s.heap.get? b=some u->b≠T:=λb u e=>Nat.ne_of_lt (Nat.lt_of_lt_of_le (Heap.lt_size e) hT)
 refine I.step (g':=s.gens) (d':=s.drawn) (ch:=ch) (λb hb=>⟨(hf b hb).2.2.2.1,(hf b hb).2.1,(hf b hb).2.2.2.2.1,(hf b hb).2.2.2.2.2⟩) (λb u _ _ hc e _=>k b u hc e) (λb u _ _ hc e _=>⟨u.slots,k b u hc e⟩)
  (λb u _ e n=>by rw [upd_ne (lt b u e)];exact n) (λb u hc e=>⟨u,k b u hc e⟩) (λb xs e=>by rw [upd_ne (ne_of_none e hn)];exact e) (λb u xs e=>by rw [upd_ne (ne_of_none e hn)];exact e)
  (λb ps e=>⟨#[],by rw [upd_ne (ne_of_none e hn),e];simp⟩) (λm hm=>?_) (λb u e=>?_) I.bare
 ·obtain ⟨o,es,ep,ho,r⟩:=hm
  exact ⟨o,es,ep,k _ o (λz=>(hf _ z).2.1 rfl) ho,r⟩
 ·by_cases hb:b=T
  ·subst hb;rw [upd_same] at e;cases e;exact new
  ·rw [upd_ne hb] at e
   refine (I.hok b u e).stay (λc v hc q=>k c v (λz=>?_) q) (λc q=>by rw [upd_ne (ne_of_none q hn)];exact q) λc xs q=>by rw [upd_ne (ne_of_none q hn)];exact q
   have z':=(hf c z).1
   rcases hc with hc | hc
   ·rw [hc,e] at z';cases z'
   ·rw [hc] at z';cases z'
theorem Inv.turnedL {t':Nat} {ch:List Addr} (I:Inv X pins σ H s) (hf:∀ b∈ch,FpOk X pins H b) (k:∀ b u,b ∉ ch->s.heap.get? b=some u->h'.get? b=some u):Inv X pins σ H { s with heap:=h',toks:=t' }:=by
 refine I.step (g':=s.gens) (d':=s.drawn) (ch:=ch) (λb hb=>⟨(hf b hb).2.2.2.1,(hf b hb).2.1,(hf b hb).2.2.2.2.1,(hf b hb).2.2.2.2.2⟩) (λb u _ _ hc e _=>k b u hc e) (λb u _ _ hc e _=>⟨u.slots,k b u hc e⟩)
  (λb u _ e n=>n) (λb u hc e=>⟨u,k b u hc e⟩) (λb xs e=>e) (λb u xs e=>e) (λb ps e=>⟨#[],by rw [e];simp⟩) (λm hm=>?_) (λb u e=>?_) I.bare
 ·obtain ⟨o,es,ep,ho,r⟩:=hm
  exact ⟨o,es,ep,k _ o (λz=>(hf _ z).2.1 rfl) ho,r⟩
 ·refine (I.hok b u e).stay (λc v hc q=>k c v (λz=>?_) q) (λc q=>q) λc xs q=>q
  have z':=(hf c z).1
  rcases hc with hc | hc
  ·rw [hc,e] at z';cases z'
  ·rw [hc] at z';cases z'
end
def Itz (K:W.Frag) (a b:Addr):It :=
 ⟨λi H=>∃ xs ys x y,SqL K H a xs∧SqL K H b ys∧xs[i]?=some x∧ys[i]?=some y,
  λi H v H'=>∃ p x y,v=.ref p∧H p=none∧H'=upd H p (.tup [x,y])∧∀ xs ys,SqL K H a xs->SqL K H b ys->xs[i]?=some x∧ys[i]?=some y,
  λi H=>∃ xs ys,SqL K H a xs∧SqL K H b ys∧(xs.length≤i∨ys.length≤i)⟩
theorem zlM {P:Program} {w:World} {K:W.Frag} {elts:List Expr} {x1:Nat} {tp:Pos} {a b z TI TO i1 i2:Addr} (D:ZipApart z TI TO i1 i2 a b) :
  Turn P w K (.Tuple elts x1 tp) (Itz K a b) [z,TI,TO,i1,i2] z
   (λi h=>IsZip h z TI TO .none∧IsPair h TI (.ref i1) (.ref i2)∧(∃ p q,IsPair h TO p q)∧h.IsListIter i1 a i∧h.IsListIter i2 b i) where
 mem:=by simp
 obj:=λi h st c hc=>by
  obtain ⟨hz,hTI,⟨p,q,hTO⟩,⟨o1,e1,_,d1⟩,⟨o2,e2,_,d2⟩⟩:=st
  simp only [List.mem_cons,List.not_mem_nil,or_false] at hc
  rcases hc with rfl | rfl | rfl | rfl | rfl
  ·exact ⟨_,hz,λv z=>by cases z⟩
  ·exact ⟨_,hTI,λv z=>by cases z⟩
  ·exact ⟨_,hTO,λv z=>by cases z⟩
  ·exact ⟨o1,e1,λv z=>by rw [d1] at z;cases z⟩
  ·exact ⟨o2,e2,λv z=>by rw [d2] at z;cases z⟩
 keep:=λi h h' st k=>by
  obtain ⟨hz,hTI,⟨p,q,hTO⟩,h1,h2⟩:=st
  exact ⟨k z (by simp) _ hz,k TI (by simp) _ hTI,⟨p,q,k TO (by simp) _ hTO⟩,h1.at λo e=>k i1 (by simp) o e,h2.at λo e=>k i2 (by simp) o e⟩
 item:=by
  intro X hP hw hK hc i pins s σ H E I hf st hg
  subst hP hw hK
  obtain ⟨xs,ys,x,y,hxs,hys,hx,hy⟩:=hg
  obtain ⟨itx,rx,px,hzx⟩:=I.list hxs
  obtain ⟨ity,ry,py,hzy⟩:=I.list hys
  obtain ⟨u,hu,ru⟩:=rx.get hx
  obtain ⟨v,hv,rv⟩:=ry.get hy
  obtain ⟨hz,hTI,⟨p,q,hTO⟩,h1,h2⟩:=st
  refine wpAny_pyNext_zip_item (x:=u) (y:=v) D hz hTI hTO h1 h2 px.isList py.isList (by simpa using hu) (by simpa using hv) λh' a1 a2 a3 a4 a5 a6 hk=>?_
  refine ⟨_,rfl,wpAny_letOwnedTupleGo_zip a1 λh'' b1 b2=>?_⟩
  have zlt:z<s.heap.objs.size:=Heap.lt_size hz
  have lt:∀ c∈[z,TI,TO,i1,i2],c<s.heap.objs.size:=λc hc=>by
   simp only [List.mem_cons,List.not_mem_nil,or_false] at hc
   rcases hc with rfl | rfl | rfl | rfl | rfl
   ·exact zlt
   ·exact Heap.lt_size hTI
   ·exact Heap.lt_size hTO
   ·obtain ⟨_,e,_⟩:=h1;exact Heap.lt_size e
   ·obtain ⟨_,e,_⟩:=h2;exact Heap.lt_size e
  have tup:IsPair h'' s.heap.objs.size u v:=b2.extBut _ _ (Nat.ne_of_gt zlt) a5
  have I1:Inv X pins σ (upd H s.heap.objs.size (.tup [x,y])) { s with heap:=h'' }:=by
   refine I.turnedNew (t':=s.toks) (ch:=[z,TO,i1,i2]) (λc hc=>hf c ?_) (λc ob hc e=>?_) (Nat.le_refl _) ?_
   ·simp only [List.mem_cons,List.not_mem_nil,or_false] at hc ⊢
    rcases hc with z | z | z | z<;>simp [z]
   ·simp only [List.mem_cons,List.not_mem_nil,or_false,not_or] at hc
    exact b2.extBut _ _ hc.1 (hk c ob hc.1 hc.2.1 hc.2.2.1 hc.2.2.2 e)
   ·exact ⟨by show 2≤sizeLine;decide,[u,v],.cons ru (.cons rv .nil),⟨_,tup,rfl,_,rfl⟩⟩
  refine ⟨.ref s.heap.objs.size,_,I1,rfl,⟨_,x,y,rfl,I.hok.fresh (Nat.le_refl _),rfl,λxs' ys' q1 q2=>?_⟩,⟨b1,?_,⟨_,_,b2.extBut _ _ D.TOz a2⟩,a3.extBut b2.extBut D.i1z,a4.extBut b2.extBut D.i2z⟩,λc hc=>?_⟩
  ·rw [I.list_inj q1 hxs,I.list_inj q2 hys];exact ⟨hx,hy⟩
  ·exact b2.extBut _ _ D.TIz (hk _ _ D.TIz D.TITO D.TIi1 D.TIi2 hTI)
  ·rw [upd_ne (Nat.ne_of_lt (lt c hc))];exact (hf c hc).1
 done:=by
  intro X hP hw hK hc i pins s σ H E I hf st hg
  subst hP hw hK
  obtain ⟨xs,ys,hxs,hys,hend⟩:=hg
  obtain ⟨itx,rx,px,hzx⟩:=I.list hxs
  obtain ⟨ity,ry,py,hzy⟩:=I.list hys
  obtain ⟨hz,hTI,⟨p,q,hTO⟩,h1,h2⟩:=st
  have lx:=rx.length
  have ly:=ry.length
  refine wpAny_pyNext_zip_end (I.ok.hd hc) D hz hTI hTO h1 h2 px.isList py.isList ?_ λh' hk=>⟨rfl,?_⟩
  ·rcases hend with e | e
   ·exact .inl (by simp;omega)
   ·exact .inr (by simp;omega)
  ·refine I.turnedL (t':=s.toks) (ch:=[z,TO,i1,i2]) (λc hc=>hf c ?_) (λc ob hc e=>?_)
   ·simp only [List.mem_cons,List.not_mem_nil,or_false] at hc ⊢
    rcases hc with z | z | z | z<;>simp [z]
   ·simp only [List.mem_cons,List.not_mem_nil,or_false,not_or] at hc
    exact hk c ob hc.1 hc.2.1 hc.2.2.1 hc.2.2.2 e
 self:=λ_ _ _ _ _ st h=>wpAny_pyIter_zip st.1 h
section
variable {X:Cx}
def zp7 (K:W.Frag) (ta:TA):TI:=λσ H R=>ta σ H λvs H1=>∃ a b,vs=[.ref a,.ref b]∧(∃ xs,SqL K H1 a xs)∧(∃ ys,SqL K H1 b ys)∧R (Itz K a b) H1
theorem zn9 {a b:Expr} {ta:TA} {p pos tp:Pos} {elts:List Expr} {x1:Nat} (hg:Gl X "zip") (hm:X.mg "zip"=none) (ha:PA X [a,b] ta) (hs:starEach [a,b] X.env=[(false,eval a X.env),(false,eval b X.env)]:=by rfl) (hs2:starEach [b] X.env=[(false,eval b X.env)]:=by rfl) :
  PI X (.Tuple elts x1 tp) (.Call (.Name "zip" p) [a,b] [] pos) (zp7 X.K ta):=by
 intro pins s σ H R I h
 refine Call_ (ld_blt I hg hm boot_zip (PyProof.Rows.callWith_type1 (thn (ha pos pins s σ H _ I h) λus s1 ⟨vs,H1,I1,r1,q1⟩=>?_) (by rw [hs,hs2]) (by rw [hs2];rfl)))
 obtain ⟨l1,l2,e,⟨xs,hx⟩,⟨ys,hy⟩,q⟩:=q1
 subst e
 cases r1 with
 | cons r rr =>
  cases rr with
  | cons r' rr =>
   cases rr
   cases r
   cases r'
   obtain ⟨itx,rx,px,hzx⟩:=I1.list hx
   obtain ⟨ity,ry,py,hzy⟩:=I1.list hy
   have lt1:@LT.lt Nat _ l1 s1.heap.objs.size:=by obtain ⟨o,e,_⟩:=px.isList;exact Heap.lt_size e
   have lt2:@LT.lt Nat _ l2 s1.heap.objs.size:=by obtain ⟨o,e,_⟩:=py.isList;exact Heap.lt_size e
   refine call_zip_2 px.isList py.isList λh' hz hTI hTO h1 h2 hsz hk=>?_
   refine wpAny_pyIter_zip hz ?_
   have D:ZipApart (s1.heap.objs.size+4) (s1.heap.objs.size+2) (s1.heap.objs.size+3) s1.heap.objs.size (s1.heap.objs.size+1) l1 l2:=by
    constructor<;>(show @Ne Nat _ _;omega)
   refine ⟨s1.heap.objs.size+4,[s1.heap.objs.size+4,s1.heap.objs.size+2,s1.heap.objs.size+3,s1.heap.objs.size,s1.heap.objs.size+1],_,Itz X.K l1 l2,H1,rfl,I1.kept (t':=s1.toks) hk,zlM D,⟨hz,hTI,⟨_,_,hTO⟩,h1,h2⟩,λc hc=>?_,q⟩
   have hle:@LE.le Nat _ s1.heap.objs.size c:=by
    simp only [List.mem_cons,List.not_mem_nil,or_false] at hc
    rcases hc with rfl | rfl | rfl | rfl | rfl<;>omega
   exact I1.fpOk hle (I1.hok.fresh hle)
end
section
variable {X:Cx}
def zpE (K:W.Frag):List V->Hp->VK->Prop:=λxs H Q=>∃ x t b,((∃ n,xs=[x,.ty n]∧W.kitOne K t (.type n)=some b)∨(∃ C,xs=[x,.ref C]∧W.kitOne K t (.ref C)=some b))∧TyOf K H x t∧Q (.bl b) H
theorem zlp:zfe X (.builtin "isinstance") (zpE X.K):=by
 intro pins s σ H xs us Q I r h
 obtain ⟨x,t,b,hx,ty,q⟩:=h
 rcases hx with ⟨n,rfl,e⟩ | ⟨C,rfl,e⟩
 ·obtain ⟨u,w',rfl,rx,ry⟩:=zlz r
  cases ry
  exact isinst_ok I rx ty e λtk=>⟨.bl b,H,I.tok _,rfl,q⟩
 ·obtain ⟨u,w',rfl,rx,ry⟩:=zlz r
  cases ry
  exact isinst_ok I rx ty e λtk=>⟨.bl b,H,I.tok _,rfl,q⟩
end
theorem kit_int_bool (K:W.Frag):W.kitOne K (.type "int") (.type "bool")=some false:=by with_unfolding_all rfl
inductive EqV (K:W.Frag) (H:Hp):Nat->V->V->Bool->Prop where
 | flat {n:Nat} {x y:V} (fx:zl7 x=true) (fy:zl7 y=true):EqV K H n x y (eqV x y)
 | same {n:Nat} {a:Addr}:EqV K H n (.ref a) (.ref a) true
 | lists {n:Nat} {a b:Addr} {xs ys:List V} {e:Nat->Bool} (ne:a≠b) (ha:SqL K H a xs) (hb:SqL K H b ys) (hl:xs.length=ys.length)
   (he:∀ (j:Nat) (x y:V),xs[j]?=some x->ys[j]?=some y->EqV K H n x y (e j)):EqV K H (n+1) (.ref a) (.ref b) ((List.range xs.length).all e)
 | lens {n:Nat} {a b:Addr} {xs ys:List V} (ne:a≠b) (ha:SqL K H a xs) (hb:SqL K H b ys) (hl:xs.length≠ys.length):EqV K H (n+1) (.ref a) (.ref b) false
theorem EqV.at {X:Cx} {pins:List (Addr×Obj)} {σ:St} {H:Hp} {s:Shared} (I:Inv X pins σ H s) {n:Nat} {x y:V} {k:Bool} (h:EqV X.K H n x y k) :
  ∀ {A:Around} {u v:Value},RelV x u->RelV y v->A.units+n<cLine->SeqAt.EqAt A s u v k:=by
 induction h with
 | flat fx fy=>intro A u v rx ry _;exact eqAt_V rx ry fx fy
 | same=>intro A u v rx ry _;cases rx;cases ry;exact SeqAt.EqAt.same _
 | @lists n a b xs ys e ne ha hb hl he ih =>
  intro A u v rx ry hu
  cases rx
  cases ry
  obtain ⟨ita,ra,pa,za⟩:=I.list ha
  obtain ⟨itb,rb,pb,zb⟩:=I.list hb
  have la:=ra.length
  have lb:=rb.length
  have q:=SeqAt.RcAt.lists (A:=A) (e:=e) pa.isList pb.isList (by simp;omega) (by omega) λj h1 h2=>?_
  ·rw [List.size_toArray,← la] at q
   exact SeqAt.EqAt.of_refs ne q
  ·have h1':j<ita.length:=by simpa using h1
   have h2':j<itb.length:=by simpa using h2
   obtain ⟨u',hu',ru⟩:=ra.get (i:=j) (x:=xs[j]'(by omega)) (List.getElem?_eq_getElem (by omega))
   obtain ⟨v',hv',rv⟩:=rb.get (i:=j) (x:=ys[j]'(by omega)) (List.getElem?_eq_getElem (by omega))
   have eu:ita.toArray[j]=u':=by
    rw [List.getElem?_eq_getElem h1'] at hu'
    simpa using hu'
   have ev:itb.toArray[j]=v':=by
    rw [List.getElem?_eq_getElem h2'] at hv'
    simpa using hv'
   rw [eu,ev]
   exact ih j _ _ (List.getElem?_eq_getElem (by omega)) (List.getElem?_eq_getElem (by omega)) ru rv (by show A.units+1+n<cLine;omega)
 | @lens n a b xs ys ne ha hb hl =>
  intro A u v rx ry hu
  cases rx
  cases ry
  obtain ⟨ita,ra,pa,za⟩:=I.list ha
  obtain ⟨itb,rb,pb,zb⟩:=I.list hb
  have la:=ra.length
  have lb:=rb.length
  exact SeqAt.EqAt.of_refs ne (SeqAt.RcAt.lists_lengths pa.isList pb.isList (by simp;omega) (by omega))
def rEqL (K:W.Frag) (neg:Bool):R2:=λx y H Q=>∃ a b n xs ys,x=.ref a∧y=.ref b∧SqL K H a xs∧SqL K H b ys∧n≤50 ∧
 ((xs.length≠ys.length∧Q (.bl neg) H)∨∃ e:Nat->Bool,xs.length=ys.length∧(∀ (j:Nat) (x y:V),xs[j]?=some x->ys[j]?=some y->EqV K H n x y (e j))∧Q (.bl (if neg then !(List.range xs.length).all e else (List.range xs.length).all e)) H)
section
variable {X:Cx}
theorem zhi {pins:List (Addr×Obj)} {σ:St} {H:Hp} {s:Shared} (I:Inv X pins σ H s) {n:Nat} {xs ys:List V} {ita itb:List Value} {e:Nat->Bool} (ra:Vals xs ita) (rb:Vals ys itb) (he:∀ (j:Nat) (x y:V),xs[j]?=some x->ys[j]?=some y->EqV X.K H n x y (e j))
  {A:Around} (hu:A.units+1+n<cLine):∀ j (h1:j<ita.toArray.size) (h2:j<itb.toArray.size),SeqAt.EqAt A.in1 s ita.toArray[j] itb.toArray[j] (e j):=λj h1 h2=>by
 have la:=ra.length
 have lb:=rb.length
 have h1':j<ita.length:=by simpa using h1
 have h2':j<itb.length:=by simpa using h2
 obtain ⟨u',hu',ru⟩:=ra.get (i:=j) (x:=xs[j]'(by omega)) (List.getElem?_eq_getElem (by omega))
 obtain ⟨v',hv',rv⟩:=rb.get (i:=j) (x:=ys[j]'(by omega)) (List.getElem?_eq_getElem (by omega))
 have eu:ita.toArray[j]=u':=by
  rw [List.getElem?_eq_getElem h1'] at hu'
  simpa using hu'
 have ev:itb.toArray[j]=v':=by
  rw [List.getElem?_eq_getElem h2'] at hv'
  simpa using hv'
 rw [eu,ev]
 exact (he j _ _ (List.getElem?_eq_getElem (by omega)) (List.getElem?_eq_getElem (by omega))).at I ru rv hu
theorem zob (hu:X.A.units+64<cLine):OpR X (compareOp .Eq) (rEqL X.K false):=by
 intro pins s σ H x y v u Q I rx ry h
 obtain ⟨a,b,n,xs,ys,rfl,rfl,ha,hb,hn,h⟩:=h
 cases rx
 cases ry
 obtain ⟨ita,ra,pa,za⟩:=I.list ha
 obtain ⟨itb,rb,pb,zb⟩:=I.list hb
 have la:=ra.length
 have lb:=rb.length
 rcases h with ⟨hl,q⟩ | ⟨e,hl,he,q⟩
 ·exact SeqAt.eq_list_lengthsAt pa.isList pb.isList (by simp;omega) (by omega) ⟨.bl false,H,I,rfl,q⟩
 ·refine SeqAt.eq_listAt (e:=e) pa.isList pb.isList (by simp;omega) (by omega) (zhi I ra rb he (by omega)) ?_
  rw [List.size_toArray,← la]
  exact ⟨.bl _,H,I,rfl,q⟩
theorem zoX (hu:X.A.units+64<cLine):OpR X (compareOp .NotEq) (rEqL X.K true):=by
 intro pins s σ H x y v u Q I rx ry h
 obtain ⟨a,b,n,xs,ys,rfl,rfl,ha,hb,hn,h⟩:=h
 cases rx
 cases ry
 obtain ⟨ita,ra,pa,za⟩:=I.list ha
 obtain ⟨itb,rb,pb,zb⟩:=I.list hb
 have la:=ra.length
 have lb:=rb.length
 rcases h with ⟨hl,q⟩ | ⟨e,hl,he,q⟩
 ·exact SeqAt.RcNeAt.lists_lengths pa.isList pb.isList (by simp;omega) (by omega) _ _ _ _ ⟨.bl true,H,I,rfl,q⟩
 ·refine SeqAt.RcNeAt.lists (e:=e) pa.isList pb.isList (by simp;omega) (by omega) (zhi I ra rb he (by omega)) _ _ _ _ ?_
  rw [List.size_toArray,← la]
  exact ⟨.bl _,H,I,rfl,q⟩
end
theorem all_eq {α:Type} [DecidableEq α] {xs ys:List α} (h:xs.length=ys.length):(List.range xs.length).all (λj=>decide (xs[j]?=ys[j]?))=decide (xs=ys):=by
 rw [Bool.eq_iff_iff,List.all_eq_true,decide_eq_true_iff]
 constructor
 ·intro z
  refine List.ext_getElem? λi=>?_
  by_cases hi:i<xs.length
  ·exact of_decide_eq_true (z i (List.mem_range.mpr hi))
  ·rw [List.getElem?_eq_none (by omega),List.getElem?_eq_none (by omega)]
 ·rintro rfl i _
  exact decide_eq_true rfl
theorem rEqL.ints {K:W.Frag} {neg:Bool} {H:Hp} {Q:VK} {a b:Addr} {ns ms:List Int} (ha:SqL K H a (ns.map V.int)) (hb:SqL K H b (ms.map V.int)) (q:Q (.bl (if neg then !decide (ns=ms) else decide (ns=ms))) H) :
  rEqL K neg (.ref a) (.ref b) H Q:=by
 refine ⟨a,b,0,_,_,rfl,rfl,ha,hb,by omega,?_⟩
 by_cases hl:ns.length=ms.length
 ·refine .inr ⟨λj=>decide (ns[j]?=ms[j]?),by simp [hl],λj x y hx hy=>?_,?_⟩
  ·rw [List.getElem?_map] at hx hy
   cases e1:ns[j]? with
   | none=>rw [e1] at hx;cases hx
   | some i =>
    cases e2:ms[j]? with
    | none=>rw [e2] at hy;cases hy
    | some k =>
     rw [e1] at hx
     rw [e2] at hy
     cases hx
     cases hy
     have q:=EqV.flat (K:=K) (H:=H) (n:=0) (x:=.int i) (y:=.int k) rfl rfl
     have e:eqV (.int i) (.int k)=decide (some i=some k):=by
      show (i == k)=_
      rw [Bool.beq_eq_decide_eq]
      simp
     rw [e] at q
     show EqV K H 0 (V.int i) (V.int k) (decide (ns[j]?=ms[j]?))
     rw [e1,e2]
     exact q
  ·rw [List.length_map,all_eq hl]
   exact q
 ·refine .inl ⟨by simpa using hl,?_⟩
  have e:decide (ns=ms)=false:=decide_eq_false (λz=>hl (by rw [z]))
  rw [e] at q
  cases neg<;>exact q
def Rows (K:W.Frag) (H:Hp) (a:Addr) (xss:List (List Int)):Prop :=
 ∃ as:List Addr,SqL K H a (as.map V.ref)∧as.length=xss.length∧∀ (j:Nat) (p:Addr) (ns:List Int),as[j]?=some p->xss[j]?=some ns->H p=some (.lst (ns.map V.int))
theorem zhO {ns ms:List Int} (h:ns.map V.int=ms.map V.int):ns=ms:=by
 induction ns generalizing ms with
 | nil=>cases ms with
  | nil=>rfl
  | cons _ _=>cases h
 | cons x r ih=>cases ms with
  | nil=>cases h
  | cons y s =>
   injection h with h1 h2
   injection h1 with h1
   rw [h1,ih h2]
theorem EqV.ints {K:W.Frag} {H:Hp} {n:Nat} {a b:Addr} {ns ms:List Int} (ha:H a=some (.lst (ns.map V.int))) (hb:H b=some (.lst (ms.map V.int))):EqV K H (n+1) (.ref a) (.ref b) (decide (ns=ms)):=by
 by_cases hab:a=b
 ·subst hab
  rw [ha] at hb
  have e:ns=ms:=zhO (by injection hb with hb;injection hb)
  rw [decide_eq_true e]
  exact .same
 ·by_cases hl:ns.length=ms.length
  ·have q:=EqV.lists (K:=K) (H:=H) (n:=n) (e:=λj=>decide (ns[j]?=ms[j]?)) hab (SqL.of ha) (SqL.of hb) (by simp [hl]) λj x y hx hy=>?_
   ·rw [List.length_map,all_eq hl] at q
    exact q
   ·rw [List.getElem?_map] at hx hy
    cases e1:ns[j]? with
    | none=>rw [e1] at hx;cases hx
    | some i =>
     cases e2:ms[j]? with
     | none=>rw [e2] at hy;cases hy
     | some k =>
      rw [e1] at hx
      rw [e2] at hy
      cases hx
      cases hy
      have q:=EqV.flat (K:=K) (H:=H) (n:=n) (x:=.int i) (y:=.int k) rfl rfl
      have e:eqV (.int i) (.int k)=decide (some i=some k):=by
       show (i == k)=_
       rw [Bool.beq_eq_decide_eq]
       simp
      rw [e] at q
      exact q
  ·rw [decide_eq_false (λz=>hl (by rw [z]))]
   exact .lens hab (SqL.of ha) (SqL.of hb) (by simpa using hl)
theorem rEqL.rows {K:W.Frag} {neg:Bool} {H:Hp} {Q:VK} {a b:Addr} {xss yss:List (List Int)} (ha:Rows K H a xss) (hb:Rows K H b yss) (q:Q (.bl (if neg then !decide (xss=yss) else decide (xss=yss))) H) :
  rEqL K neg (.ref a) (.ref b) H Q:=by
 obtain ⟨as,hsa,hla,hra⟩:=ha
 obtain ⟨bs,hsb,hlb,hrb⟩:=hb
 refine ⟨a,b,1,_,_,rfl,rfl,hsa,hsb,by omega,?_⟩
 by_cases hl:xss.length=yss.length
 ·refine .inr ⟨λj=>decide (xss[j]?=yss[j]?),by simp;omega,λj x y hx hy=>?_,?_⟩
  ·rw [List.getElem?_map] at hx hy
   cases e1:as[j]? with
   | none=>rw [e1] at hx;cases hx
   | some p =>
    cases e2:bs[j]? with
    | none=>rw [e2] at hy;cases hy
    | some p2 =>
     rw [e1] at hx
     rw [e2] at hy
     cases hx
     cases hy
     have h1:j<xss.length:=by have:=(List.getElem?_eq_some_iff.mp e1).1;omega
     have h2:j<yss.length:=by omega
     have q:=EqV.ints (K:=K) (n:=0) (hra j p _ e1 (List.getElem?_eq_getElem h1)) (hrb j p2 _ e2 (List.getElem?_eq_getElem h2))
     show EqV K H 1 (V.ref p) (V.ref p2) (decide (xss[j]?=yss[j]?))
     rw [List.getElem?_eq_getElem h1,List.getElem?_eq_getElem h2]
     have e:decide (xss[j]=yss[j])=decide (some xss[j]=some yss[j]):=by simp
     rw [e] at q
     exact q
  ·rw [List.length_map,hla,all_eq hl]
   exact q
 ·refine .inl ⟨by simp;omega,?_⟩
  have e:decide (xss=yss)=false:=decide_eq_false (λz=>hl (by rw [z]))
  rw [e] at q
  cases neg<;>exact q
section
variable {X:Cx}
theorem zfO {n k m:Nat} (h:n<2^k) (hk:k≤m) (hm:0<m):n.log2<m:=by
 by_cases hn:n=0
 ·subst hn
  exact Nat.lt_of_le_of_lt (by decide:Nat.log2 0≤0) hm
 ·exact Nat.lt_of_lt_of_le ((Nat.log2_lt hn).mpr h) hk
theorem zkw {i:Int} {k:Nat} (h:i.natAbs.log2<k):Builtin.Int.intBits i≤k:=by
 unfold Builtin.Int.intBits
 split
 ·exact Nat.zero_le _
 ·omega
def zfH (i j:Int):Prop:=0<j∧j.natAbs.log2<9000
theorem zaS:OpR X (binaryOp .FloorDiv) (rI zfH λi j=>.int (i/j)):=opI λi j _ _ _ _ _ hc q=>by
 have hj:j≠0:=by have:=hc.1;omega
 have e:i.fdiv j=i/j:=Int.fdiv_eq_ediv_of_nonneg _ (by have:=hc.1;omega)
 exact floordiv_int hj (by rw [e];exact q) (.inl (PyProof.noPylong_of_log2 hc.2))
end
end L2
namespace L2
open PySem PySem.Spec PyProof.Rows
def zmd (scope osc:Scope) (N own fvn:List Str) (fv:List Nat):Bool :=
 (scope.names.all λy=>y.2 != .cell||scope.names.lookup y.1 == some .cell)&&(scope.names.all λy=>y.2 != .free||scope.names.lookup y.1 == some .free)&&(scope.kind == .function)&&(scope.names.all λy=>y.2 != .local||scope.names.lookup y.1 == some .local) &&
 (scope.names.all λy=>y.2 != .free||osc.names.lookup y.1 == some .cell||osc.names.lookup y.1 == some .free)&&(fvn.map some == fv.map λi=>N[i]?)&&(fvn.all λx=>scope.names.lookup x == some .free)
theorem BlkScope.of {X:Cx} {scope osc:Scope} {N own fvn:List Str} {fv:List Nat} (hX:X.env.scope=osc) (hN:X.N=N) (h:zmd scope osc N own fvn fv=true):BlkScope X scope own fvn fv:=by
 subst hX hN
 unfold zmd at h
 simp only [Bool.and_eq_true,List.all_eq_true,bne_iff_ne,beq_iff_eq,Bool.or_eq_true] at h
 obtain ⟨⟨⟨⟨⟨⟨h1,h1'⟩,h2⟩,h3⟩,h4⟩,h5⟩,h6⟩:=h
 refine ⟨λy hy e=>?_,λy hy e=>?_,h2,λy hy e=>?_,λy hy e=>?_,h5,h6⟩
 ·rcases h1 y hy with z | z
  ·exact absurd e z
  ·exact z
 ·rcases h1' y hy with z | z
  ·exact absurd e z
  ·exact z
 ·rcases h3 y hy with z | z
  ·exact absurd e z
  ·exact z
 ·rcases h4 y hy with (z | z) | z
  ·exact absurd e z
  ·exact .inl z
  ·exact .inr z
theorem Same.new {H:Hp} {p:Addr} (h:H p=none) (o:HO):Same H (upd H p o):=λb u q=>by rw [upd_ne (ne_of_none q h)];exact q
theorem Same.tup {K:W.Frag} {H H':Hp} {a:Addr} {xs:List V} (e:Same H H') (h:SqT K H a xs):SqT K H' a xs:=by
 rcases h with (h | ⟨o,h⟩) | h
 ·exact .inl (.inl (e _ _ h))
 ·exact .inl (.inr ⟨o,e _ _ h⟩)
 ·exact .inr h
theorem Same.rows {K:W.Frag} {H H':Hp} {a:Addr} {xss:List (List Int)} (e:Same H H') (h:Rows K H a xss):Rows K H' a xss:=by
 obtain ⟨as,h1,h2,h3⟩:=h
 exact ⟨as,e.seq h1,h2,λj p ns q1 q2=>e _ _ (h3 j p ns q1 q2)⟩
structure Callee (P:Program) (w:World) (K:W.Frag) (mg:Str->Option Value) (base:Heap) (CX:CXT) (k:Nat) (x:Str) (ps:List Str) (sp:Sp):Prop where
 ex:∃ f fd,FnOk P w K mg base CX k f fd ps sp∧mg x=some (.ref f)∧W.keepIn K (.ref f)=true∧zgX K fd ps []
section
variable {X:Cx} {CX:CXT} {k:Nat} {ps:List Str} {sp:Sp} {E:XK} {x:Str} {p pos:Pos} {e:Expr} {es:List Expr} {t:TA}
theorem pe_fn (F:Callee X.prog X.w X.K X.mg X.base CX k x ps sp) (hr:Room k X.A) (hg:Gl X x) (hx:zgl CX X E)
  (ha:PA X (e :: es) t) (hdb:(x == ("__debug__":Str))=false:=by decide) (he:starEach (e :: es) X.env=(false,eval e X.env) :: starEach es X.env:=by rfl) (hpl:(backTo pos (starEach es X.env)).any (·.1)=false:=by rfl) :
  PE X (.Call (.Name x p) (e :: es) [] pos) (tCall sp [] E t):=by
 obtain ⟨f,fd,G,hm,hk,hb⟩:=F.ex
 exact zmX G hr hg hm hk hb .nil hx ha hdb he hpl
end
section
variable {X:Cx} {K:W.Frag}
theorem call_len_K (hK:X.K=K):zfe X (.builtin "len") (λxs H Q=>∃ p ys,xs=[.ref p]∧(SqL K H p ys∨SqT K H p ys)∧Q (.int ys.length) H):=by subst hK;exact zhx
theorem zbj (hK:X.K=K):zfe X (.type "list") (λxs H Q=>∃ p ys,xs=[.ref p]∧(SqL K H p ys∨SqT K H p ys)∧∀ l,H l=none->Q (.ref l) (upd H l (.lst ys))):=by subst hK;exact zhn
theorem zi9 (hK:X.K=K):zfe X (.builtin "isinstance") (zpE K):=by subst hK;exact zlp
theorem zax (hK:X.K=K):IxR X (znZ K):=by subst hK;exact znM
theorem zef (hK:X.K=K):IxR X (zpN K):=by subst hK;exact zoz
theorem zaT (hK:X.K=K):SlR X (zpA K):=by subst hK;exact zni
theorem op_eq_K (hK:X.K=K) (hu:X.A.units+64<cLine):OpR X (compareOp .Eq) (rEqL K false):=by subst hK;exact zob hu
theorem zic (hK:X.K=K) (hu:X.A.units+64<cLine):OpR X (compareOp .NotEq) (rEqL K true):=by subst hK;exact zoX hu
theorem zb2 {e:Expr} {f:Str} {pos:Pos} {ta:TE} (hK:X.K=K) (he:PE X e ta) (hb:attributeBase e f X.env (eval e X.env)=eval e X.env):PE X (.Attribute e f pos) (tFld K ta f):=by subst hK;exact zoo he hb
theorem pi_list_K {tg l:Expr} {tl:TE} (hK:X.K=K) (hl:PE X l tl):PI X tg l (zlV K tl):=by subst hK;exact zmL hl
theorem zcE {a b:Expr} {ta:TA} {p pos tp:Pos} {elts:List Expr} {x1:Nat} (hK:X.K=K) (hg:Gl X "zip") (hm:X.mg "zip"=none) (ha:PA X [a,b] ta) (hs:starEach [a,b] X.env=[(false,eval a X.env),(false,eval b X.env)]:=by rfl) (hs2:starEach [b] X.env=[(false,eval b X.env)]:=by rfl) :
  PI X (.Tuple elts x1 tp) (.Call (.Name "zip" p) [a,b] [] pos) (zp7 K ta):=by subst hK;exact zn9 hg hm ha hs hs2
theorem zaR {es:List Expr} {k:Nat} {t:TGs} {n:Nat} {pos:Pos} (hK:X.K=K) (hc:X.calm=true) (h:PGs X es t)
  (hn:(assignEach es X.env).length=n:=by rfl) (hst:(assignEach es X.env).findIdx? (·.1)=none:=by rfl):PG X (.Tuple es k pos) (zly K n t):=by subst hK;exact zpd hc h hn hst
theorem zbL {o e:Expr} {to:TE} {t:TA} {apos cpos:Pos} (hK:X.K=K) (ho:PE X o to) (ha:PA X [e] t)
  (hbase:attributeBase o "append" X.env (eval o X.env)=eval o X.env:=by rfl)
  (hfew:((backTo cpos (starEach [e] X.env)).all (λx=>!x.1)&&(backToKw cpos (keywordEach [] X.env)).all (λx=>x.1.isSome)
   &&decide (([e]:List Expr).length+([]:List Keyword).length+(if ([]:List Keyword).isEmpty then 0 else 1)<30))=true:=by rfl)
  (hline:(apos.endLine == cpos.line)=true:=by rfl) (hs:starEach [e] X.env=(false,eval e X.env) :: starEach [] X.env:=by rfl) (hplain:(backTo cpos (starEach [] X.env)).any (·.1)=false:=by rfl) :
  PE X (.Call (.Attribute o "append" apos) [e] [] cpos) (tBM K "list" rAppend to t):=by
 subst hK
 exact zpT PySem.F.plainAttrs_list PySem.F.slot_list_append PySem.F.type_list_append mt_append ho ha hbase hfew hline hs hplain
end
end L2
namespace L2
open PySem PySem.Spec PyProof.Rows
theorem zai {n:Nat} (h:n≤10000):n≤sizeLine:=Nat.le_trans h (by decide)
end L2
namespace L2
open PySem PySem.Spec PyProof.Rows
theorem zgb (o:Obj) (f:Array Value->Array Value):(o.mapFields f).dict=o.dict:=by
 obtain ⟨c,d,dt,sl⟩:=o
 cases dt<;>rfl
section
variable {M:Model} {A:Around} {E:Value->Shared->Prop} {s:Shared}
theorem zkh {base:Heap} {env:Env} {outer:List Env} {L e:Addr} {oe:Obj} {vs:Array Value} {head:Value} {hadNext:Bool} {Q:Unit->Shared->Prop}
  (hfr:A.frames=some (env :: outer)) (hl:s.heap.FunFrames base (env :: outer)) (hf:env.frame=some L) (he:s.heap.get? e=some oe) (hd:oe.data=.fields vs) (hsz:1<vs.size)
  (h:∀ (h':Heap) (T:Addr) (oT:Obj) (ts:Array Value),(∀ b o,b ∉ frs (env :: outer)->b≠e->s.heap.get? b=some o->h'.get? b=some o)->(∀ b o,b≠e->s.heap.get? b=some o->∃ sl,h'.get? b=some { o with slots:=sl }) →
   h'.get? e=some (oe.mapFields (·.setIfInBounds 1 (.ref T)))->s.heap.objs.size≤T->h'.get? T=some oT->oT.data=.fields ts->ts[3]?=some (rawInt L)->Q () { s with heap:=h' }) :
  wpAny M A (do let a ← frameOf env;let pl ← entryPlaceOf L hadNext;let b ← EntryCells.newEntry head a .none (rawInt L) .none pl;setField (.ref e) 1 b) Q E s:=by
 have hene:e ∉ (env :: outer).filterMap (·.frame):=λhm=>by
  obtain ⟨_,o,ho,hnf⟩:=hl.mem hm
  rw [he] at ho;injection ho with ho;subst ho;exact hnf vs hd
 refine wpAny_bind (wpAny_frameOf_fun hfr hl hf λh₁ hs₁=>?_)
 refine wpAny_bind (wpAny_entryPlaceOf λpl hpl=>?_)
 unfold EntryCells.newEntry newFields
 refine wpAny_bind (wpAny_newObj_type ?_ (hpl.sizeOk5 _ _ _ _ _))
 have he₁:h₁.get? e=some oe:=(hs₁.2.1 e hene).trans he
 have he₂:=Heap.get?_push_of_some (h:=h₁) { cls:=.type "traceback",dict:=none,data:=.fields ([head,.ref L,.none,rawInt L,.none]++(if pl.isEmpty then List.replicate 6 Value.none else pl)).toArray } he₁
 refine wpAny_setField he₂ hd hsz ?_
 have hTe:h₁.objs.size≠e:=Nat.ne_of_gt (Heap.lt_size he₁)
 have hd₃:=Obj.data_mapFields hd (·.setIfInBounds 1 (Value.ref h₁.objs.size))
 have he₃:=Heap.get?_update_self (Obj.mapFields (·.setIfInBounds 1 (Value.ref h₁.objs.size))) he₂ (Obj.isFreed_of_fields hd₃)
 have hT₃:=(Heap.get?_update_other (h₁.push { cls:=.type "traceback",dict:=none,data:=.fields ([head,.ref L,.none,rawInt L,.none]++(if pl.isEmpty then List.replicate 6 Value.none else pl)).toArray })
  (Obj.mapFields (·.setIfInBounds 1 (Value.ref h₁.objs.size))) (Ne.symm hTe)).trans (Heap.get?_push_size h₁ rfl)
 refine h _ h₁.objs.size _ _ (λb o hb hbe e1=>?_) (λb o hbe e1=>?_) he₃ (Nat.le_of_eq hs₁.1.symm) hT₃ rfl (by first | (simp;done) | (rcases hpl with rfl | ⟨_,_,_,_,_,_,_,rfl⟩<;>simp))
 ·rw [Heap.get?_update_other _ _ (Ne.symm hbe)]
  exact Heap.get?_push_of_some _ ((hs₁.2.1 b hb).trans e1)
 ·obtain ⟨sl,e2⟩:=hs₁.2.2 b o e1
  exact ⟨sl,by rw [Heap.get?_update_other _ _ (Ne.symm hbe)];exact Heap.get?_push_of_some _ e2⟩
end
def ExcAt (h:Heap) (H:Hp) (Fz:Addr->Prop) (L e:Addr) (cls:Value) (dct:Option Addr):Prop :=
 ∃ oe vs a0,h.get? e=some oe∧oe.cls=cls∧oe.dict=dct∧oe.data=.fields vs∧vs[0]?=some a0∧1<vs.size∧H e=none∧Fz e ∧
  (vs[1]?=some .none∨∃ T oT ts,vs[1]?=some (.ref T)∧T≠e∧h.get? T=some oT∧oT.data=.fields ts∧(ts[3]?=some .none∨ts[3]?=some (rawInt L))∧H T=none∧Fz T)
def zgx (h:Heap) (H:Hp) (Fz:Addr->Prop) (fl:Value) (e:Addr) (cls:Value) (dct:Option Addr):Prop :=
 ∃ oe vs a0,h.get? e=some oe∧oe.cls=cls∧oe.dict=dct∧oe.data=.fields vs∧vs[0]?=some a0∧1<vs.size∧H e=none∧Fz e ∧
  ∃ T oT ts,vs[1]?=some (.ref T)∧T≠e∧h.get? T=some oT∧oT.data=.fields ts∧ts[3]?=some fl∧H T=none∧Fz T
theorem zgx.atN {h:Heap} {H:Hp} {Fz:Addr->Prop} {L e:Addr} {cls:Value} {dct:Option Addr} (x:zgx h H Fz .none e cls dct):ExcAt h H Fz L e cls dct:=by
 obtain ⟨oe,vs,a0,h1,h2,h3,h4,h5,h6,h7,h8,T,oT,ts,t1,t2,t3,t4,t5,t6,t7⟩:=x
 exact ⟨oe,vs,a0,h1,h2,h3,h4,h5,h6,h7,h8,.inr ⟨T,oT,ts,t1,t2,t3,t4,.inl t5,t6,t7⟩⟩
theorem zgx.imp {h:Heap} {H:Hp} {Fz Fz':Addr->Prop} {e:Addr} {fl cls:Value} {dct:Option Addr} (x:zgx h H Fz fl e cls dct) (k:∀ b,Fz b->Fz' b):zgx h H Fz' fl e cls dct:=by
 obtain ⟨oe,vs,a0,h1,h2,h3,h4,h5,h6,h7,h8,T,oT,ts,t1,t2,t3,t4,t5,t6,t7⟩:=x
 exact ⟨oe,vs,a0,h1,h2,h3,h4,h5,h6,h7,k _ h8,T,oT,ts,t1,t2,t3,t4,t5,t6,k _ t7⟩
structure Own (X:Cx):Prop where
 stk:X.stack=X.env :: X.outer
 fr:X.env.frame=some X.env.locals
 ex:X.ex=[]
theorem zcs.there {P:Program} {w:World} {H:Hp} {h:Heap} {a:Addr} {o:HO} (x:zcs P w H h a o):∃ ob,h.get? a=some ob:=by
 cases o with
 | lst xs=>obtain ⟨_,_,_,_,e⟩:=x;exact ⟨_,e⟩
 | tup xs=>obtain ⟨_,_,_,o,e,_⟩:=x;exact ⟨_,e⟩
 | dK kvs=>obtain ⟨_,_,_,_,o,_,_,e,_⟩:=x;exact ⟨_,e⟩
 | dT kvs=>obtain ⟨_,_,_,_,o,_,_,e,_⟩:=x;exact ⟨_,e⟩
 | set S n=>obtain ⟨o,_,_,_,e,_⟩:=x;exact ⟨_,e⟩
 | ins C dx fs=>obtain ⟨_,_,_,e,_⟩:=x;exact ⟨_,e⟩
 | own y=>obtain ⟨_,e⟩:=x;exact ⟨_,e⟩
 | xd fs=>obtain ⟨_,⟨_,_,_,e,_⟩,_⟩:=x;exact ⟨_,e⟩
 | rng lo hi=>obtain ⟨_,_,_,e⟩:=x;exact ⟨_,e⟩
 | frz ob u=>obtain ⟨e,_⟩:=x;exact ⟨_,e⟩
 | tbl ps=>exact ⟨_,(show h.get? a=some _ from x)⟩
 | met f y=>exact ⟨_,(show h.get? a=some _ from x)⟩
 | ext φ=>obtain ⟨_,e,_⟩:=x;exact e
section
variable {X:Cx} {pins:List (Addr×Obj)} {σ:St} {H:Hp} {s:Shared} {h':Heap}
theorem Inv.recs {t':Nat} {ch:List Addr} (I:Inv X pins σ H s) (hch:∀ b∈ch,H b=none∧X.s₀.heap.get? b=none∧b≠X.env.locals∧(∀ x c,X.env.cells.lookup x=some c->c≠b)∧∀ p∈X.pn++pins,p.1≠b)
  (hex:X.ex=[]) (k:∀ b o,b ∉ frs X.stack->b ∉ ch->s.heap.get? b=some o->h'.get? b=some o) (ks:∀ b o,b ∉ ch->s.heap.get? b=some o->∃ sl,h'.get? b=some { o with slots:=sl }) :
  Inv X pins σ H { s with heap:=h',toks:=t' }:=by
 have sub:=I.stkSub
 have nfr:∀ b,b≠X.env.locals->b ∉ X.fs->b ∉ frs X.stack:=λb h1 h2 z=>by
  rcases List.mem_cons.mp (sub b z) with q | q
  ·exact h1 q
  ·exact h2 q
 have cl:∀ x c,X.env.cells.lookup x=some c->c≠X.env.locals:=I.cne
 refine ⟨I.ok,I.os,I.bare,⟨λb o e n hb hx=>?_,λb o e n hb hx=>?_,I.base.free,λb o e hx=>?_,I.base.tups,I.base.frzs,I.base.tbls⟩,?_,λx c e=>?_,I.free,I.freeC,λp hp=>?_,λb u e=>?_,I.len⟩
 ·have nc:b ∉ ch:=λz=>by rw [(hch b z).2.1] at e;cases e
  exact k b o (nfr b (Nat.ne_of_lt (Nat.lt_of_lt_of_le (Heap.lt_size e) I.ok.above)) hb) nc (I.base.keep b o e n hb hx)
 ·have nc:b ∉ ch:=λz=>by rw [(hch b z).2.1] at e;cases e
  obtain ⟨sl,e1⟩:=I.base.slot b o e n hb hx
  obtain ⟨sl',e2⟩:=ks b _ nc e1
  exact ⟨sl',e2⟩
 ·have nc:b ∉ ch:=λz=>by rw [(hch b z).2.1] at e;cases e
  obtain ⟨o',e1⟩:=I.base.there b o e hx
  obtain ⟨sl',e2⟩:=ks b _ nc e1
  exact ⟨_,e2⟩
 ·obtain ⟨m,⟨o,es,ep,ho,hd,r⟩,hl⟩:=I.loc
  have nc:X.env.locals ∉ ch:=λz=>(hch _ z).2.2.1 rfl
  obtain ⟨sl,e1⟩:=ks _ _ nc ho
  refine ⟨m,⟨_,es,ep,e1,hd,r⟩,λi x v e1 e2 e3=>?_⟩
  obtain ⟨u,ru,l⟩:=hl i x v e1 e2 e3
  refine ⟨u,ru,?_⟩
  rcases l with l | ⟨kk,c,e,oc,hoc,hcd⟩
  ·exact .inl l
  ·obtain ⟨sl',e4⟩:=ks c oc (λz=>(hch c z).2.2.2.1 x c e rfl) hoc
   exact .inr ⟨kk,c,e,_,e4,hcd⟩
 ·obtain ⟨v,oc,hoc,hcd⟩:=I.cell x c e
  obtain ⟨sl',e4⟩:=ks c oc (λz=>(hch c z).2.2.2.1 x c e rfl) hoc
  exact ⟨v,_,e4,hcd⟩
 ·obtain ⟨e,n,ne,nf,d⟩:=I.pin p hp
  exact ⟨k _ _ (nfr _ ne nf) (λz=>(hch _ z).2.2.2.2 p hp rfl) e,n,ne,nf,d⟩
 ·refine (I.hok b u e).stay (λc v hc q=>?_) (λ_ q=>q) λ_ _ q=>q
  have trk:∃ u',H c=some u':=by
   rcases hc with z | z
   ·rw [z];exact ⟨u,e⟩
   ·exact ⟨_,z⟩
  obtain ⟨u',hu'⟩:=trk
  refine k c v (λz=>?_) (λz=>?_) q
  ·rw [I.stkFree c z] at hu';cases hu'
  ·rw [(hch c z).1] at hu';cases hu'
def Fz (X:Cx) (pins:List (Addr×Obj)) (b:Addr):Prop:=X.s₀.heap.get? b=none∧∀ p∈X.pn++pins,p.1≠b
theorem Inv.fz (I:Inv X pins σ H s) (hex:X.ex=[]) {b:Addr} (h:s.heap.get? b=none):Fz X pins b:=by
 refine ⟨?_,λp hp z=>?_⟩
 ·cases q:X.s₀.heap.get? b with
  | none=>rfl
  | some o =>
   obtain ⟨o',e⟩:=I.base.there b o q (by rw [hex];simp)
   rw [h] at e;cases e
 ·rw [← z,(I.pin p hp).1] at h;cases h
theorem Inv.tfree (I:Inv X pins σ H s) {b:Addr} (h:s.heap.get? b=none):H b=none:=by
 cases q:H b with
 | none=>rfl
 | some u =>
  have:=(I.hok b u q).lt
  cases e:s.heap.get? b with
  | none =>
   obtain ⟨o,e'⟩:=zcs.there (I.hok b u q)
   rw [h] at e';cases e'
  | some o=>rw [h] at e;cases e
theorem exc_apart (I:Inv X pins σ H s) {b:Addr} {o:Obj} {vs:Array Value} (e:s.heap.get? b=some o) (hd:o.data=.fields vs) (hn:H b=none) (hF:Fz X pins b) :
  H b=none∧X.s₀.heap.get? b=none∧b≠X.env.locals∧(∀ x c,X.env.cells.lookup x=some c->c≠b)∧∀ p∈X.pn++pins,p.1≠b:=by
 refine ⟨hn,hF.1,λz=>?_,λx c ec z=>?_,hF.2⟩
 ·obtain ⟨m,⟨o',es,ep,ho',hd',_⟩,_⟩:=I.loc
  rw [← z,e] at ho';cases ho';rw [hd] at hd';cases hd'
 ·obtain ⟨v,oc,hoc,hcd⟩:=I.cell x c ec
  rw [z,e] at hoc;cases hoc;rw [hd] at hcd;cases hcd
theorem note_exc {M:Model} {E:Value->Shared->Prop} {e:Addr} {cls:Value} {dct:Option Addr} {Q:Unit->Shared->Prop} (O:Own X) (I:Inv X pins σ H s) (x:ExcAt s.heap H (Fz X pins) X.env.locals e cls dct)
  {A:Around} (hA:A.frames=X.A.frames) (hQ:∀ s',Inv X pins σ H s'->zgx s'.heap H (Fz X pins) (rawInt X.env.locals) e cls dct->Q () s'):wpAny M A (noteFrame (.ref e) X.env) Q E s:=by
 obtain ⟨oe,vs,a0,h1,h2,h3,h4,h5,h6,h7,h8,h9⟩:=x
 have hfr:A.frames=some (X.env :: X.outer):=by rw [hA,I.ok.frames,O.stk]
 have hfun:s.heap.FunFrames X.base (X.env :: X.outer):=by have:=I.stack;rw [O.stk] at this;exact this
 have ae:=exc_apart I h1 h4 h7 h8
 have newE:∀ (s1:Shared) (head:Value) (hadNext:Bool),Inv X pins σ H s1->s1.heap.get? e=some oe->(∀ b,b∈X.env :: X.outer->True) →
   wpAny M A (do let a ← frameOf X.env;let pl ← entryPlaceOf X.env.locals hadNext;let b ← EntryCells.newEntry head a .none (rawInt X.env.locals) .none pl;setField (.ref e) 1 b) Q E s1:=λs1 head hadNext I1 e1 _=>by
  have hfun1:s1.heap.FunFrames X.base (X.env :: X.outer):=by have:=I1.stack;rw [O.stk] at this;exact this
  refine zkh hfr hfun1 O.fr e1 h4 h6 λh' T oT ts k ks he hT hgT hdT ht3=>?_
  have hTn:s1.heap.get? T=none:=Heap.get?_none_of_le hT
  have I2:Inv X pins σ H { s1 with heap:=h' }:=by
   refine I1.recs (t':=s1.toks) (ch:=[e]) (λb hb=>?_) O.ex (λb o hb hc q=>?_) (λb o hc q=>?_)
   ·rw [List.mem_singleton.mp hb];exact ae
   ·rw [O.stk] at hb
    exact k b o hb (λz=>hc (by rw [z];exact List.mem_singleton.mpr rfl)) q
   ·exact ks b o (λz=>hc (by rw [z];exact List.mem_singleton.mpr rfl)) q
  refine hQ _ I2 ⟨_,_,a0,he,(Obj.cls_mapFields _ _).trans h2,(zgb _ _).trans h3,Obj.data_mapFields h4 _,?_,?_,h7,h8,T,oT,ts,?_,?_,hgT,hdT,ht3,I1.tfree hTn,I1.fz O.ex hTn⟩
  ·rw [Array.getElem?_setIfInBounds_ne (by decide)];exact h5
  ·rw [Array.size_setIfInBounds];exact h6
  ·rw [Array.getElem?_setIfInBounds_self_of_lt h6]
  ·intro z;rw [z,e1] at hTn;cases hTn
 unfold noteFrame
 simp only [O.fr]
 rcases h9 with h9 | ⟨T,oT,ts,t1,t2,t3,t4,t5,t6,t7⟩
 ·refine wpAny_bind (wpAny_field h1 h4 h9 ?_)
  rw [if_neg (by decide)]
  exact newE s _ _ I h1 (λ_ _=>trivial)
 ·refine wpAny_bind (wpAny_field h1 h4 t1 ?_)
  rw [if_pos (show (Value.ref T != Value.none)=true from by simp)]
  rcases t5 with t5 | t5
  ·refine wpAny_bind (wpAny_field t3 t4 t5 ?_)
   rw [if_neg (show ¬ ((Value.none == rawInt X.env.locals)=true) from by simp [rawInt])]
   refine wpAny_bind (wpAny_setField t3 t4 (Array.getElem?_eq_some_iff.mp t5).1 ?_)
   have aT:=exc_apart I t3 t4 t6 t7
   have other:∀ b,b≠T->(s.heap.update T (Obj.mapFields (·.setIfInBounds 3 Value.none))).get? b=s.heap.get? b:=λb hb=>Heap.get?_update_other _ _ (Ne.symm hb)
   have I1:Inv X pins σ H { s with heap:=s.heap.update T (Obj.mapFields (·.setIfInBounds 3 Value.none)) }:=by
    refine I.recs (t':=s.toks) (ch:=[T]) (λb hb=>?_) O.ex (λb o _ hc q=>?_) (λb o hc q=>⟨o.slots,?_⟩)
    ·rw [List.mem_singleton.mp hb];exact aT
    ·exact (other b (λz=>hc (by rw [z];exact List.mem_singleton.mpr rfl))).trans q
    ·exact (other b (λz=>hc (by rw [z];exact List.mem_singleton.mpr rfl))).trans q
   exact newE _ _ _ I1 ((other e (Ne.symm t2)).trans h1) (λ_ _=>trivial)
  ·refine wpAny_bind (wpAny_field t3 t4 t5 ?_)
   rw [if_pos (show (rawInt X.env.locals == rawInt X.env.locals)=true from by simp)]
   exact wpAny_pure (hQ s I ⟨oe,vs,a0,h1,h2,h3,h4,h5,h6,h7,h8,T,oT,ts,t1,t2,t3,t4,t5,t6,t7⟩)
theorem ze6 {M:Model} {A:Around} {E:Value->Shared->Prop} {e:Addr} {fl cls:Value} {dct:Option Addr} {fr:Option Addr} {Q:Unit->Shared->Prop} (O:Own X) (I:Inv X pins σ H s) (x:zgx s.heap H (Fz X pins) fl e cls dct)
  (hQ:∀ s',Inv X pins σ H s'->zgx s'.heap H (Fz X pins) (fr.elim .none λf=>rawInt f) e cls dct->Q () s'):wpAny M A (setFlight (.ref e) fr) Q E s:=by
 obtain ⟨oe,vs,a0,h1,h2,h3,h4,h5,h6,h7,h8,T,oT,ts,t1,t2,t3,t4,t5,t6,t7⟩:=x
 have h3s:3<ts.size:=(Array.getElem?_eq_some_iff.mp t5).1
 have aT:=exc_apart I t3 t4 t6 t7
 have other:∀ b,b≠T->(s.heap.update T (Obj.mapFields (·.setIfInBounds 3 (fr.elim Value.none λf=>rawInt f)))).get? b=s.heap.get? b:=λb hb=>Heap.get?_update_other _ _ (Ne.symm hb)
 unfold setFlight
 refine wpAny_bind (wpAny_field h1 h4 t1 ?_)
 rw [if_pos (show (Value.ref T != Value.none)=true from by simp)]
 refine wpAny_setField t3 t4 h3s (hQ _ ?_ ?_)
 ·refine I.recs (t':=s.toks) (ch:=[T]) (λb hb=>?_) O.ex (λb o _ hc q=>?_) (λb o hc q=>⟨o.slots,?_⟩)
  ·rw [List.mem_singleton.mp hb];exact aT
  ·exact (other b (λz=>hc (by rw [z];exact List.mem_singleton.mpr rfl))).trans q
  ·exact (other b (λz=>hc (by rw [z];exact List.mem_singleton.mpr rfl))).trans q
 ·exact ⟨oe,vs,a0,(other e (Ne.symm t2)).trans h1,h2,h3,h4,h5,h6,h7,h8,T,_,_,t1,t2,Heap.get?_update_self _ t3 (Obj.isFreed_of_fields (Obj.data_mapFields t4 _)),Obj.data_mapFields t4 _,by rw [Array.getElem?_setIfInBounds_self_of_lt h3s],t6,t7⟩
end
theorem exc_obj {K:W.Frag} {h:Heap} {C:Addr} {bmB:List Value} {newId:String} (X:K.In h) (q:W.excIn K C bmB newId=true) :
  ∃ bm N nm qn bs hdct sn sub ab col dd k0 k1 k2 k3 k5 mN,h.get? C=some (excClassObj nm qn C N bs bm hdct sn sub ab col dd k0 k1 k2 k3 k5 newId)∧h.Ns N mN∧mN "__init__"=none∧OwnTail h bmB bm:=by
 unfold W.excIn at q
 split at q
 ·rename_i dd cd sl ho
  split at q
  ·rename_i C' bm k0 k1 k2 k3 n k5 hm hs
   simp only [Bool.and_eq_true,beq_iff_eq,Bool.not_eq_true'] at q
   obtain ⟨⟨⟨⟨⟨rfl,rfl⟩,hdel⟩,ht⟩,hok⟩,hni⟩:=q
   obtain ⟨nm,bs,mro,ns,qn,hd,sn,sub,ab,col,del⟩:=cd
   dsimp only at hm hdel hok hni
   subst hm hdel
   have hsl:sl=#[k0,k1,k2,k3,some (.builtin n),k5]:=by
    obtain ⟨l⟩:=sl
    simp only at hs
    rw [hs]
   subst hsl
   exact ⟨bm,ns,nm,qn,bs,hd,sn,sub,ab,col,dd,k0,k1,k2,k3,k5,_,X _ _ ho,.of_isNs (W.isNs_of_in X hok),W.nsMap_none_of_in X hok hni,W.tail_of_in X ht⟩
  ·cases q
 ·cases q
end L2
namespace L2
open PySem PySem.Spec PyProof.Rows
def XP (X:Cx) (pins:List (Addr×Obj)) (σ:St) (E:XK) (ev:Value) (s':Shared):Prop :=
 ∃ e cls dct H',ev=.ref e∧Inv X pins σ H' s'∧ExcAt s'.heap H' (Fz X pins) X.env.locals e cls dct∧E cls dct H'
abbrev XS:=St->XK
def XPs (X:Cx) (pins:List (Addr×Obj)) (E:XS) (ev:Value) (s':Shared):Prop:=∃ σ',XP X pins σ' (E σ') ev s'
def CXE (P:Program) (w:World):CXT:=λouter H s E ev s'=>∃ e cls dct H',ev=.ref e∧s'.os=s.os∧AllBare s'.gens∧Un (frs outer) [] H H' s.heap s'.heap∧HOk P w H' s'.heap ∧
 zgx s'.heap H' (λb=>s.heap.get? b=none) .none e cls dct∧E cls dct H'
theorem passE {P:Program} {w:World} {X:Cx}:zgl (CXE P w) X E0:=λ_ _ _ _ _ _ _ h=>by
 obtain ⟨_,_,_,_,_,_,_,_,_,_,f⟩:=h
 exact False.elim f
abbrev TEX:=St->Hp->VK->XK->Prop
def PEX (X:Cx) (e:Expr) (t:TEX):Prop :=
 ∀ (pins:List (Addr×Obj)) (s:Shared) (σ:St) (H:Hp) (Q:VK) (E:XK),Inv X pins σ H s->t σ H Q E->wpAny (model X.prog X.w) X.A (eval e X.env) (EP X pins σ Q) (XP X pins σ E) s
abbrev TSX:=Ends->XS->St->Hp->Prop
def PSX (X:Cx) (st:Stmt) (t:TSX):Prop :=
 ∀ (pins:List (Addr×Obj)) (s:Shared) (σ:St) (H:Hp) (D:Ends) (E:XS),Inv X pins σ H s->t D E σ H->wpAny (model X.prog X.w) X.A (exec st X.env) (SP X pins D) (XPs X pins E) s
def zhG (X:Cx) (st:List Stmt) (t:TSX):Prop :=
 ∀ (pins:List (Addr×Obj)) (s:Shared) (σ:St) (H:Hp) (D:Ends) (E:XS),Inv X pins σ H s->t D E σ H->wpAny (model X.prog X.w) X.A (execs st X.env) (SP X pins D) (XPs X pins E) s
section
variable {X:Cx} {e:Expr} {st:Stmt} {rest:List Stmt} {pos:Pos}
theorem zlw {t:TS} (h:PS X.nox st t):PSX X st (λD _ σ H=>t D σ H):=λpins s σ H D E I hw =>
 wpAny_mono (h pins s σ H D (I.wish _) hw) (λ_ _ q=>SP.unwish q) λ_ _ f=>f.elim
theorem zhv {sts:List Stmt} {t:TS} (h:PSs X.nox sts t):zhG X sts (λD _ σ H=>t D σ H):=λpins s σ H D E I hw =>
 wpAny_mono (h pins s σ H D (I.wish _) hw) (λ_ _ q=>SP.unwish q) λ_ _ f=>f.elim
theorem zlF:zhG X [] (λD _ σ H=>D.nx σ H):=λ_ _ σ H _ _ I h=>wpAny_execs_nil ⟨σ,H,I,h⟩
theorem zj5 {t u:TSX} (h1:PSX X st t) (h2:zhG X rest u):zhG X (st :: rest) (λD E σ H=>t { D with nx:=u D E } E σ H):=by
 intro pins s σ H D E I h
 refine wpAny_execs_cons (thn (h1 pins s σ H { D with nx:=u D E } E I h) λf s1 q=>?_)
 cases f with
 | next =>
  obtain ⟨σ',H',I',q⟩:=q
  exact h2 pins s1 σ' H' D E I' q
 | ret v=>exact q
 | brk=>exact q
 | cont=>exact q
theorem zpg {c:Expr} {a b:List Stmt} {tc:TT} {t u:TSX} (hc:PT X.nox c tc) (ha:zhG X a t) (hb:zhG X b u):PSX X (.If c a b pos) (λD E σ H=>tc σ H λk H1=>if k=true then t D E σ H1 else u D E σ H1):=by
 intro pins s σ H D E I h
 refine wpAny_If (wpAny_mono (hc pins s σ H _ (I.wish _) h) (λd s1 ⟨H1,I1,q1⟩=>?_) λ_ _ f=>f.elim)
 cases d with
 | true=>exact ha pins s1 σ H1 D E I1.unwish q1
 | false=>exact hb pins s1 σ H1 D E I1.unwish q1
theorem zlE {te:TEX} (he:PEX X e te) (hs:swapsWith e none pos.line X.env=pure false:=by rfl):PSX X (.Expr e pos) (λD E σ H=>te σ H (λ_ H1=>D.nx σ H1) (E σ)):=by
 intro pins s σ H D E I h
 exact wpAny_Expr_any (wpAny_mono (he pins s σ H _ _ I h) (λv s1 ⟨x,H1,I1,r1,q1⟩=>⟨σ,H1,I1,q1⟩) λ_ _ q=>⟨σ,q⟩) I.quiet hs
theorem znm {i:Nat} {x:Str} {te:TEX} {pos':Pos} (hN:X.N.Nodup) (hi:X.N[i]?=some x) (hx:Loc X.env.scope x) (he:PEX X e te) (hs:swapsWith e (some (.Name x pos')) pos.line X.env=pure false:=by rfl)
  (hf:X.fn x=true∨X.env.scope.names.lookup x=some .local:=by first | exact .inl rfl | exact .inr rfl | assumption) :
  PSX X (.Assign [.Name x pos'] e pos) (λD E σ H=>te σ H (λv H1=>D.nx (σ.set i (some v)) H1) (E σ)):=by
 intro pins s σ H D E I h
 refine wpAny_Assign_Name (wpAny_mono (he pins s σ H _ _ I h) (λv s1 ⟨y,H1,I1,r1,q1⟩=>?_) λ_ _ q=>⟨σ,q⟩) hs
 exact store_ok I1 hN hi hx r1 (λs2 I2=>⟨_,H1,I2,q1⟩) hf
end
section
variable {X:Cx} {k:Nat} {ps:List Str} {sp:Sp} {x:Str} {p pos:Pos} {e:Expr} {es:List Expr} {t:TA}
theorem zkx {pins:List (Addr×Obj)} {σ:St} {H:Hp} {s s':Shared} {E:XK} {ev:Value} (O:Own X) (I:Inv X pins σ H s) (h:CXE X.prog X.w X.stack H s E ev s'):XP X pins σ E ev s':=by
 obtain ⟨a,cls,dct,H',rfl,ho,hb,u,hok,x,q⟩:=h
 have I':Inv X pins σ H' s':=I.call' (ch:=[]) ho u hok hb λb hb=>by cases hb
 exact ⟨a,cls,dct,H',rfl,I',(x.imp λb hb=>I.fz O.ex hb).atN,q⟩
theorem zpZ (O:Own X) (F:Callee X.prog X.w X.K X.mg X.base (CXE X.prog X.w) k x ps sp) (hr:Room k X.A) (hg:Gl X x)
  (ha:PA X.nox (e :: es) t) (hdb:(x == ("__debug__":Str))=false:=by decide) (he:starEach (e :: es) X.env=(false,eval e X.env) :: starEach es X.env:=by rfl) (hpl:(backTo pos (starEach es X.env)).any (·.1)=false:=by rfl) :
  PEX X (.Call (.Name x p) (e :: es) [] pos) (λσ H Q E=>t σ H λvs H1=>sp (vs++[]) H1 Q E):=by
 obtain ⟨f,fd,G,hm,hk,hb⟩:=F.ex
 intro pins s σ H Q E I h
 refine wpAny_Call_Name_kw (ld_glob I hg hm ?_ hdb)
 refine W.callWith_K (h₀:=X.base) I.ok.mod.kin hk (wpAny_mono (ha pos pins s σ H _ (I.wish _) h) (λus s1 ⟨vs,H1,I1,r,q⟩=>⟨I1.unwish.kIn,?_⟩) λ_ _ f=>f.elim) he hpl
 have I2:=I1.unwish
 have r2:Vals (vs++[]) (us++[]):=r.append .nil
 have hl:(us++[]).length=ps.length:=by rw [← r2.length];exact G.len _ _ _ _ q
 refine wpAny_call (codeAny_mono (G.run X.A X.stack s1 H1 ⟨us,[]⟩ (us++[]) (vs++[]) Q E hr I2.env0 (hb s1 us I2.kIn hl) r2 q) λr s' hq=>?_)
 cases r with
 | error e=>exact zkx O I2 hq
 | ok fl =>
  cases fl with
  | ret u=>exact I2.after hq
  | next=>exact False.elim hq
  | brk=>exact False.elim hq
  | cont=>exact False.elim hq
theorem zjF {C:Addr} {B newId initId:String} {bmB:List Value} {np cpos:Pos} (O:Own X) (hc:X.calm=true) (hg:Gl X x) (hm:X.mg x=some (.ref C)) (hK:W.excIn X.K C bmB newId=true) (FB:ExcBaseFacts B newId initId bmB)
  (ha:PA X.nox (e :: es) t) (hdb:(x == ("__debug__":Str))=false:=by decide) (he:starEach (e :: es) X.env=(false,eval e X.env) :: starEach es X.env:=by rfl) (hpl:(backTo cpos (starEach es X.env)).any (·.1)=false:=by rfl) :
  PSX X (.Raise (some (.Call (.Name x np) (e :: es) [] cpos)) none pos) (λ_ E σ H=>t σ H λvs H1=>vs.length≤sizeLine∧E σ (.ref C) none H1):=by
 intro pins s σ H D E I h
 obtain ⟨tl,N,nm,q,bs,hdct,sn,sub,ab,col,dd,k0,k1,k2,k3,k5,mN,hC,hN,hni,T⟩:=exc_obj I.ok.mod.kin hK
 refine wpAny_Raise_call_subT (C:=C) (nm:=nm) (q:=q) (N:=N) (bs:=bs) (bm:=tl) (hdct:=hdct) (sn:=sn) (sub:=sub) (ab:=ab) (col:=col) (dd:=dd) (k0:=k0) (k1:=k1) (k2:=k2) (k3:=k3) (k5:=k5)
  FB (mN:=mN) (T.hasType FB.hasBase) (I.ok.hd hc) (by rw [he];show (false||(backTo cpos (starEach es X.env)).any (·.1))=false;rw [hpl];rfl) hni (ld_glob I hg hm ⟨rfl,?_⟩ hdb)
 have hA:=ha cpos pins s σ H _ (I.wish _) h
 rw [he] at hA ⊢
 refine Calls.evalArgs_plain (wpAny_mono hA (λus s1 ⟨vs,H1,I1,r,hz,qE⟩=>⟨rfl,?_,?_⟩) λ_ _ f=>f.elim)
 ·show us.length≤sizeLine
  rw [← r.length];exact hz
 ·have I2:=I1.unwish
  refine ⟨I2.bk _ _ hC,hN.keeps I2.bk,T.keeps I2.bk,λh' ea hx=>?_⟩
  obtain ⟨tp,hea,_,_⟩:=hx.there
  refine ⟨σ,ea,.ref C,none,H1,rfl,I2.kept (t':=s1.toks) hx.keeps,⟨_,_,_,hea,rfl,rfl,rfl,rfl,by show 1<6;decide,I2.tfree hx.new,I2.fz O.ex hx.new,.inl rfl⟩,qE⟩
end
section
variable {P:Program} {w:World} {K:W.Frag} {mg:Str->Option Value} {base:Heap}
theorem zk8 {N:List Str} {qual:Str} {scope:Scope} {f:Addr} {cd:Value} {A:Around} {outer:List Env} {s:Shared} {H:Hp} {E:XK} {pins:List (Addr×Obj)} {ev:Value} {s':Shared}
  (h:XPs (zih (CXE P w) P w K mg base N qual scope f cd A outer s H E) pins (λ_=>E) ev s'):(zih (CXE P w) P w K mg base N qual scope f cd A outer s H E).xe ev s':=by
 obtain ⟨σ',e,cls,dct,H',rfl,I,x,q⟩:=h
 have O:Own (zih (CXE P w) P w K mg base N qual scope f cd A outer s H E):=⟨rfl,rfl,rfl⟩
 show wpAny _ _ (leaving _ (.ref e)) _ _ s'
 unfold leaving
 refine wpAny_bind (note_exc O I x rfl λs1 I1 x1=>?_)
 refine ze6 (fr:=none) O I1 x1 λs2 I2 x2=>?_
 exact ⟨e,cls,dct,H',rfl,I2.os,I2.bare,I2.base,I2.hok,x2.imp (λb hb=>hb.1),q⟩
theorem Fun.okX {x qual:Str} {st:Stmt} {f:Addr} {fd:FuncData} {N ps:List Str} {k:Nat} {sp:Sp} (F:Fun K x qual st f fd) (S:FnScope N ps (defScope st)) (len:∀ vs H Q E,sp vs H Q E->vs.length=ps.length)
  (hbody:∀ (cdv:Value) (A:Around) (outer:List Env) (s:Shared) (H:Hp) (vs:List V) (Q:VK) (E:XK),Room k (A.deeper (envOfC qual (defScope st) s.heap.objs.size f cdv))->sp vs H Q E →
   ∃ t,zhG (zih (CXE P w) P w K mg base N qual (defScope st) f cdv A outer s H E) (zaq st) t∧t { nx:=λ_ H'=>Q .non H',rt:=Q } (λ_=>E) (start N vs) H):FnOk P w K mg base (CXE P w) (k+1) f fd ps sp:=by
 obtain ⟨oc,od,kV,doc,pm,an,cdv,ct,osl,rfl,lk,hcd⟩:=F.ex
 refine zpW lk hcd S len λA outer s H vs Q E hr hsp=>?_
 obtain ⟨t,h,q⟩:=hbody cdv A outer s H vs Q E hr hsp
 exact ⟨λD σ H=>t D (λ_=>E) σ H,λpins s1 σ H1 D I hw=>wpAny_mono (h pins s1 σ H1 D _ I hw) (λ_ _ q=>q) λ_ _ q=>zk8 q,q⟩
end
end L2
namespace Hd
open PySem PySem.W PyProof.Rows
def runT (p:Program) (w:World) (m:Nat) (a:Option Value):Nat->SharedT->Thread->Option SharedT
 | 0,_,_=>none
 | n+1,s,t=>match through t with
  | true=>some s
  | false=>match stepOk m a t with
   | true=>(match stepT (denote treeTable) p w s t with
    | some x=>runT p w m a n x.1 x.2
    | none=>none)
   | false=>none
theorem zmh {p:Program} {w:World} {m:Nat} {a:Option Value}:∀ {n:Nat} {s z:SharedT} {t:Thread},runT p w m a n s t=some z->topRun treeTable p w m a n s.abs t=some z.abs
 | 0,_,_,_,h=>by cases h
 | n+1,s,z,t,h=>by
  rw [runT] at h
  rw [topRun]
  cases h1:through t<;>rw [h1] at h
  ·cases h2:stepOk m a t<;>rw [h2] at h
   ·cases h
   ·cases h3:stepT (denote treeTable) p w s t with
    | none=>rw [h3] at h;cases h
    | some x=>rw [h3] at h;rw [stepT_spec (s':=x.1) (t':=x.2) h3];exact zmh h
  ·cases h;rfl
def tr:List Obj->Nat->BT->BT
 | [],_,t=>t
 | o :: r,n,t=>tr r (n+1) (t.ins n o)
noncomputable def boot (P:Params) (os:OsState):SharedT:=⟨tr (boot_heap P).objs.toList 0 .nil,11,(boot_heap P).life,Array.mk [],boot_drawn,boot_toks,os⟩
theorem zls (P:Params) (os:OsState):(boot P os).abs=⟨boot_heap P,Array.mk [],boot_drawn,boot_toks,os⟩:=by kernel_rfl
theorem zm4 (P:Params):((boot_heap P).isNs mainGlobals&&(Array.mk ([]:List GenState)).size == 0)=true:=by kernel_rfl
theorem zmS (P:Params):(boot_heap P).objs.size=11:=by kernel_rfl
theorem znJ (P:Params):(boot_heap P).nsMap mainGlobals "__annotations__"=some (.ref 6):=by kernel_rfl
noncomputable def lk (p:Program) (w:World) (s:Shared):Bool:=staticsOk (importedModules p.main.body) (boot_heap w.params) s.heap&&namesBound p s.heap&&gensDone s&&laidKept (boot_heap w.params) s.heap
theorem left_of {p q:Program} {loose:List Str} {Xt:Shared->Bool} {α:Type} {Yf:Shared->α} {Ya:World->α} {N:Nat} {g0:Bool}
  (e:opening p=plainProg p.main.scope.names) (hN:Nat.ble 600 N=true) (f:∀ s,fenceModules? p s=some s)
  (h:∀ w os,(runT p w 11 (some (.ref 6)) N (boot w.params os) (topStub p)).map (λs=>(lk p w s.abs,openSeen q loose (importedModules p.main.body) Xt g0 s.abs,Yf s.abs))=some (true,openGood q loose,Ya w)):LeftO p q loose Xt Yf Ya N g0:=λw=>by
 obtain ⟨s,h1,h2⟩:=Option.map_eq_some_iff.mp (boot_open e hN f w)
 obtain ⟨hp,gs,dr,tk,os⟩:=s
 have h3:hp=boot_heap w.params∧gs=Array.mk []∧dr=boot_drawn∧tk=boot_toks:=by simpa using h2
 obtain ⟨rfl,rfl,rfl,rfl⟩:=h3
 obtain ⟨z,h4,h5⟩:=Option.map_eq_some_iff.mp (h w os)
 have h6:=zmh h4
 rw [zls] at h6
 obtain ⟨l1,l2,l3⟩:_∧_∧_:=by simpa only [Prod.mk.injEq] using h5
 unfold openEnds
 rw [h1]
 show (topFrom treeTable p w N _).map _=_
 have h7:topFrom treeTable p w N ⟨boot_heap w.params,Array.mk [],boot_drawn,boot_toks,os⟩=some z.abs:=by
  unfold topFrom
  dsimp only
  rw [zm4,zmS,znJ,h6]
  show (match lk p w z.abs with | true=>_ | false=>_)=_
  rw [l1]
 rw [h7]
 exact congrArg some (Prod.ext l2 l3)
end Hd
set_option maxHeartbeats 4000000
namespace My
open PySem L2
def top (i:Nat):Stmt:=PySem.Challenge.pw_swapbook_k53_plain_roads_between_baskets.main.body.getD i (.Pass ⟨0,0,0,0⟩)
abbrev za0:Stmt:=top 22
abbrev zfF:Stmt:=top 23
abbrev zfX:Stmt:=top 24
abbrev zeD:Stmt:=top 25
abbrev zaQ:Stmt:=zm8 (top 29) 0
abbrev zdj:Stmt:=top 30
abbrev zaE:Stmt:=top 31
abbrev zaO:Stmt:=top 32
abbrev zdh:Stmt:=top 34
abbrev zed:Stmt:=top 35
abbrev zde:Stmt:=top 36
abbrev zdp:Stmt:=top 37
abbrev zeg:Stmt:=top 38
abbrev zcF:Stmt:=top 39
abbrev zdm:Stmt:=top 40
abbrev zdk:Stmt:=top 41
abbrev zec:Stmt:=top 42
abbrev zeb:Stmt:=top 43
abbrev zew:Stmt:=top 44
abbrev zdi:Stmt:=top 45
abbrev zei:Stmt:=top 47
abbrev zd9:Stmt:=top 49
abbrev zfh:Stmt:=top 50
abbrev zbl:Stmt:=top 51
abbrev zb9:Stmt:=top 53
abbrev s_law_only:Stmt:=top 54
abbrev zcG:Stmt:=top 55
abbrev zdt:Stmt:=top 56
abbrev zb6:Stmt:=top 57
abbrev zaV:Stmt:=top 58
abbrev zbr:Stmt:=top 59
abbrev zaK:Stmt:=top 60
abbrev zca:Stmt:=top 61
abbrev zcS:Stmt:=top 62
abbrev zbP:Stmt:=top 63
abbrev zcc:Stmt:=top 64
abbrev zcd:Stmt:=top 65
abbrev za1:Stmt:=top 66
abbrev zbQ:Stmt:=top 67
abbrev zcI:Stmt:=top 68
abbrev zfo:Stmt:=top 69
end My
set_option maxRecDepth 100000
namespace My
open PySem PySem.W PyProof.Rows
noncomputable def hdF (q:Program) (as:List Addr) (N:Nat) (w:World) (os:OsState) :=
 (Hd.runT PySem.Challenge.rw_swapbook_k53_plain_roads_between_baskets.row.prog w 11 (some (.ref 6)) N (Hd.boot w.params os) (topStub PySem.Challenge.rw_swapbook_k53_plain_roads_between_baskets.row.prog)).map (λs=>(Hd.lk PySem.Challenge.rw_swapbook_k53_plain_roads_between_baskets.row.prog w s.abs,
  openSeen q [] (importedModules PySem.Challenge.rw_swapbook_k53_plain_roads_between_baskets.row.prog.main.body) (λs=>xlAt q [] s&&recOk (RowW.records PySem.Challenge.rw_swapbook_k53_plain_roads_between_baskets.row.toRowW) s) true s.abs,as.map s.abs.heap.get?))
noncomputable def hdG (q:Program) (K:Params->Frag) (w:World):=some (true,openGood q [],(K w.params).map λp=>some p.2)
end My
set_option Elab.async false
lay_quick My.hdF My.hdG
namespace My
open PySem PySem.W PyProof.Rows
theorem hd_run {q:Program} {K:Params->Frag} {as:List Addr} {N:Nat} {e:∀ P,as=(K P).map (·.1)} (hN:Nat.ble 600 N=true)
  (h:∀ w os,W.Fast.tw6084617276858994590 q as N w os=W.Fast.tw7309032369996461460 q K w) :
  LeftO PySem.Challenge.rw_swapbook_k53_plain_roads_between_baskets.row.prog q [] (λs=>xlAt q [] s&&recOk (RowW.records PySem.Challenge.rw_swapbook_k53_plain_roads_between_baskets.row.toRowW) s) (kHook K as e).obs (kHook K as e).val N:=by
 rw [← W.Fast.te6084617276858994590,← W.Fast.te7309032369996461460] at h
 exact Hd.left_of (by kernel_rfl) hN (λs=>by kernel_rfl) h
end My
section
local macro_rules
 | `(tactic| refine $e:term)=>do
  if e.raw.isOfKind `Lean.Parser.Term.app&&e.raw[0].getId.eraseMacroScopes == `PySem.W.holds_open then
   let some _:=e.raw.find? (λs=>s.isOfKind `Lean.Parser.Term.syntheticHole&&s[1].getId.eraseMacroScopes == `hl) | Lean.Macro.throwUnsupported
   let h ← `(My.hd_run (by decide) (λw os=>by kernel_rfl))
   let e' ← e.raw.replaceM λs=>pure (if s.isOfKind `Lean.Parser.Term.syntheticHole&&s[1].getId.eraseMacroScopes == `hl then some h.raw else none)
   `(tactic| refine $(⟨e'⟩))
  else Lean.Macro.throwUnsupported
open PySem PySem.W PyProof.Rows
set_option maxRecDepth 100000 in
set_option maxHeartbeats 0 in
open_top My.headT for PySem.Challenge.rw_swapbook_k53_plain_roads_between_baskets
end
namespace L2
open PySem PySem.Spec PyProof.Rows
structure Ds where
 pr:Hp->V->Prop
 up:∀ {H H':Hp} {v:V},Same H H'->pr H v->pr H' v
theorem pr_up {ds:List Ds} {H H':Hp} (e:Same H H'):∀ {vs:List V} {ds:List Ds},Paired (λv (d:Ds)=>d.pr H v) vs ds->Paired (λv (d:Ds)=>d.pr H' v) vs ds
 | _,_,.nil=>.nil
 | _,_,.cons (b:=d) h t=>.cons (d.up e h) (pr_up (ds:=[]) e t)
theorem paired_imp {α β:Type} {R S:α->β->Prop} (h:∀ a b,R a b->S a b):∀ {xs:List α} {ys:List β},Paired R xs ys->Paired S xs ys
 | _,_,.nil=>.nil
 | _,_,.cons q t=>.cons (h _ _ q) (paired_imp h t)
theorem zaJ {α β:Type} {R:α->β->Prop}:∀ {xs:List α} {ys:List β} {i:Nat} {y:β},Paired R xs ys->ys[i]?=some y->∃ x,xs[i]?=some x∧R x y
 | _,_,_,_,.nil,e=>by simp at e
 | _,_,0,_,.cons r _,e=>by simp at e;subst e;exact ⟨_,rfl,r⟩
 | _,_,i+1,y,.cons _ t,e=>by
  obtain ⟨u,h1,h2⟩:=zaJ (i:=i) (y:=y) t (by simpa using e)
  exact ⟨u,by simpa using h1,h2⟩
theorem zbs {α β:Type} {R:α->β->Prop}:∀ {xs xs':List α} {ys ys':List β},Paired R xs ys->Paired R xs' ys'->Paired R (xs++xs') (ys++ys')
 | _,_,_,_,.nil,s=>s
 | _,_,_,_,.cons r t,s=>.cons r (zbs t s)
theorem zgs {α β:Type} {R:α->β->Prop} {x:α} {y:β} (r:R x y):∀ {xs:List α} {ys:List β} (i:Nat),Paired R xs ys->Paired R (xs.set i x) (ys.set i y)
 | _,_,_,.nil=>.nil
 | _,_,0,.cons _ t=>.cons r t
 | _,_,i+1,.cons q t=>.cons q (zgs r i t)
theorem paired_take {α β:Type} {R:α->β->Prop}:∀ {xs:List α} {ys:List β} (n:Nat),Paired R xs ys->Paired R (xs.take n) (ys.take n)
 | _,_,0,_=>.nil
 | _,_,_+1,.nil=>.nil
 | _,_,n+1,.cons r t=>.cons r (paired_take n t)
theorem zfP {α β:Type} {R:α->β->Prop}:∀ {xs:List α} {ys:List β} (n:Nat),Paired R xs ys->Paired R (xs.drop n) (ys.drop n)
 | _,_,0,r=>r
 | _,_,_+1,.nil=>.nil
 | _,_,n+1,.cons _ t=>zfP n t
theorem paired_rep {α β:Type} {R:α->β->Prop} {xs:List α} {ys:List β} (h:Paired R xs ys):∀ n:Nat,Paired R (List.replicate n xs).flatten (List.replicate n ys).flatten
 | 0=>.nil
 | n+1=>by
  rw [List.replicate_succ,List.replicate_succ,List.flatten_cons,List.flatten_cons]
  exact zbs h (paired_rep h n)
abbrev dV (v:V):Ds:=⟨λ_ u=>u=v,λ_ h=>h⟩
abbrev dI (n:Int):Ds:=dV (.int n)
abbrev dB (b:Bool):Ds:=dV (.bl b)
abbrev dN:Ds:=dV .non
abbrev dS (x:Str):Ds:=dV (.str x)
def dL (ds:List Ds):Ds:=⟨λH v=>∃ p vs,v=.ref p∧H p=some (.lst vs)∧Paired (λv (d:Ds)=>d.pr H v) vs ds,λe ⟨p,vs,h1,h2,h3⟩=>⟨p,vs,h1,e _ _ h2,pr_up (ds:=[]) e h3⟩⟩
def dQ (K:W.Frag) (ds:List Ds):Ds:=⟨λH v=>∃ p vs,v=.ref p∧SqL K H p vs∧Paired (λv (d:Ds)=>d.pr H v) vs ds,λe ⟨p,vs,h1,h2,h3⟩=>⟨p,vs,h1,e.seq h2,pr_up (ds:=[]) e h3⟩⟩
def dT (ds:List Ds):Ds:=⟨λH v=>∃ p vs,v=.ref p∧H p=some (.tup vs)∧Paired (λv (d:Ds)=>d.pr H v) vs ds,λe ⟨p,vs,h1,h2,h3⟩=>⟨p,vs,h1,e _ _ h2,pr_up (ds:=[]) e h3⟩⟩
def dO (C:Addr) (fs:List (Str×Ds)):Ds:=⟨λH v=>∃ p dx vs,v=.ref p∧H p=some (.ins C dx vs)∧H dx=some (.own p)∧Paired (λ(a:Str×V) (b:Str×Ds)=>a.1=b.1∧b.2.pr H a.2) vs fs,
 λe ⟨p,dx,vs,h1,h2,h3,h4⟩=>⟨p,dx,vs,h1,e _ _ h2,e _ _ h3,paired_imp (λ_ b q=>⟨q.1,b.2.up e q.2⟩) h4⟩⟩
class Enc (α:Type) where
 d:α->Ds
instance:Enc Int:=⟨dI⟩
instance:Enc Bool:=⟨dB⟩
instance:Enc Unit:=⟨λ_=>dN⟩
instance:Enc Str:=⟨dS⟩
instance {α:Type} [Enc α]:Enc (List α):=⟨λxs=>dL (xs.map Enc.d)⟩
instance {α β:Type} [Enc α] [Enc β]:Enc (α×β):=⟨λp=>dT [Enc.d p.1,Enc.d p.2]⟩
instance {α:Type} [Enc α]:Enc (Option α):=⟨λo=>match o with | none=>dN | some x=>Enc.d x⟩
structure T3 (α β γ:Type) where
 a:α
 b:β
 c:γ
instance {α β γ:Type} [Enc α] [Enc β] [Enc γ]:Enc (T3 α β γ):=⟨λp=>dT [Enc.d p.a,Enc.d p.b,Enc.d p.c]⟩
structure Grow (F H F' H':Hp):Prop where
 f:Same F F'
 fh:Same F' H'
 h:Same H H'
 no:∀ a,H a≠none->F a=none->F' a=none
theorem Grow.refl {F H:Hp} (e:Same F H):Grow F H F H:=⟨Same.refl _,e,Same.refl _,λ_ _ h=>h⟩
theorem Same.some {H H':Hp} (e:Same H H') {a:Addr} (h:H a≠none):H' a≠none:=by
 cases q:H a with
 | none=>exact absurd q h
 | some o=>rw [e _ _ q];simp
theorem Grow.trans {F H F' H' F'' H'':Hp} (g:Grow F H F' H') (k:Grow F' H' F'' H''):Grow F H F'' H'' :=
 ⟨g.f.trans k.f,k.fh,g.h.trans k.h,λa h1 h2=>k.no a (g.h.some h1) (g.no a h1 h2)⟩
theorem Grow.new {F H F' H':Hp} (g:Grow F H F' H') {p:Addr} {o:HO} (hp:H' p=none):Grow F H (upd F' p o) (upd H' p o):=by
 have hf:F' p=none:=by
  cases q:F' p with
  | none=>rfl
  | some u=>rw [g.fh _ _ q] at hp;cases hp
 refine ⟨g.f.trans (Same.new hf _),λa u q=>?_,g.h.trans (Same.new hp _),λa h1 h2=>?_⟩
 ·by_cases e:a=p
  ·subst e;rw [upd_same] at q ⊢;exact q
  ·rw [upd_ne e] at q ⊢;exact g.fh _ _ q
 ·have:a≠p:=λe=>by subst e;exact (g.h.some h1) hp
  rw [upd_ne this];exact g.no a h1 h2
theorem Grow.newH {F H F' H':Hp} (g:Grow F H F' H') {p:Addr} {o:HO} (hp:H' p=none):Grow F H F' (upd H' p o) :=
 ⟨g.f,g.fh.trans (Same.new hp _),g.h.trans (Same.new hp _),g.no⟩
theorem Grow.setH {F H F' H':Hp} (g:Grow F H F' H') {p:Addr} {o:HO} (hf:F' p=none) (hp:H p=none):Grow F H F' (upd H' p o) :=
 ⟨g.f,λa u q=>by rw [upd_ne (ne_of_none q hf)];exact g.fh _ _ q,λa u q=>by rw [upd_ne (ne_of_none q hp)];exact g.h _ _ q,g.no⟩
theorem Grow.take {F H F' H':Hp} (g:Grow F H F' H') {p:Addr} {o:HO} (hp:H p=none) (e:H' p=some o):Grow F H (upd F' p o) H':=by
 refine ⟨λa u q=>?_,λa u q=>?_,g.h,λa h1 h2=>?_⟩
 ·by_cases z:a=p
  ·subst z
   have:=g.fh _ _ (g.f _ _ q)
   rw [e] at this;cases this;exact upd_same
  ·rw [upd_ne z];exact g.f _ _ q
 ·by_cases z:a=p
  ·subst z;rw [upd_same] at q;cases q;exact e
  ·rw [upd_ne z] at q;exact g.fh _ _ q
 ·have:a≠p:=λz=>by subst z;exact h1 hp
  rw [upd_ne this];exact g.no a h1 h2
def off (F Hb:Hp):Hp:=λa=>match Hb a with | none=>F a | some _=>none
theorem off_some {F Hb:Hp} {a:Addr} {o:HO}:off F Hb a=some o ↔ Hb a=none∧F a=some o:=by
 unfold off
 cases q:Hb a with
 | none=>simp
 | some u=>simp
theorem off_up {F F' Hb:Hp} (e:Same F F'):Same (off F Hb) (off F' Hb):=λa o q=>by
 rw [off_some] at q ⊢;exact ⟨q.1,e _ _ q.2⟩
theorem zgH {F Hb:Hp}:Same (off F Hb) F:=λa o q=>(off_some.mp q).2
theorem zkN {F Hb Hc:Hp} (e:Same Hb Hc):Same (off F Hc) (off F Hb):=λa o q=>by
 rw [off_some] at q ⊢
 refine ⟨?_,q.2⟩
 cases z:Hb a with
 | none=>rfl
 | some u=>rw [e _ _ z] at q;cases q.1
def part (m:Bool) (F Hb:Hp):Hp:=match m with | true=>off F Hb | false=>F
theorem part_up {m:Bool} {F F' Hb:Hp} (e:Same F F'):Same (part m F Hb) (part m F' Hb):=by
 cases m with
 | true=>exact off_up e
 | false=>exact e
theorem part_sub {m:Bool} {F Hb:Hp}:Same (part m F Hb) F:=by
 cases m with
 | true=>exact zgH
 | false=>exact Same.refl _
theorem zen {m:Bool} {F Hb:Hp} {p:Addr} {o:HO} (hb:Hb p=none) (hp:F p=some o):part m F Hb p=some o:=by
 cases m with
 | true=>exact off_some.mpr ⟨hb,hp⟩
 | false=>exact hp
inductive Slot where
 | no
 | va (m:Bool) (d:Ds)
 | ow (m:Bool) (ds:List Ds)
 | ob (m:Bool) (C p dx:Addr) (fs:List (Str×Ds))
 | tl (d:Ds)
 | ol (p:Addr) (ds:List Ds)
abbrev Ctx:=List Slot
def zeS (Hb F H:Hp) (own:Nat->Option Addr) (i:Nat) (v:Option V):Slot->Prop
 | .tl d=>∃ x R,v=some x∧Same R H∧(∀ a o,R a=some o->F a=none∧Hb a=none)∧(∀ j p,own j=some p->R p=none)∧d.pr R x
 | .no=>True
 | .va m d=>∃ x,v=some x∧d.pr (part m F Hb) x
 | .ow m ds=>∃ p vs,v=some (.ref p)∧own i=some p∧F p=none∧Hb p=none∧H p=some (.lst vs)∧Paired (λv (d:Ds)=>d.pr (part m F Hb) v) vs ds
 | .ol p ds=>∃ vs,v=some (.ref p)∧own i=some p∧F p=none∧Hb p=none∧H p=some (.lst vs)∧Paired (λv (d:Ds)=>d.pr F v) vs ds
 | .ob m C p dx fs=>∃ vs,v=some (.ref p)∧own i=some p∧(F p=none∧F dx=none)∧(Hb p=none∧Hb dx=none)∧(H p=some (.ins C dx vs)∧H dx=some (.own p))∧Paired (λ(a:Str×V) (b:Str×Ds)=>a.1=b.1∧b.2.pr (part m F Hb) a.2) vs fs
structure At (F0 Hb F H:Hp) (σ:St) (own:Nat->Option Addr) (Γ:Ctx):Prop where
 g:Grow F0 Hb F H
 inj:∀ i j p,own i=some p->own j=some p->i=j
 liv:∀ i p,own i=some p->H p≠none
 sl:∀ i s,Γ[i]?=some s->zeS Hb F H own i (σ[i]?).join s
 len:σ.length=Γ.length
theorem zeS.grow {Hb F H F' H':Hp} {own:Nat->Option Addr} {i:Nat} {v:Option V} {s:Slot} (h:zeS Hb F H own i v s) (g:Grow F H F' H'):zeS Hb F' H' own i v s:=by
 cases s with
 | no=>trivial
 | tl d =>
  obtain ⟨x,R,e,h1,h2,h3,h4⟩:=h
  exact ⟨x,R,e,h1.trans g.h,λa o q=>⟨g.no a (by rw [h1 _ _ q];simp) (h2 a o q).1,(h2 a o q).2⟩,h3,h4⟩
 | va m d=>obtain ⟨x,e,q⟩:=h;exact ⟨x,e,d.up (part_up g.f) q⟩
 | ow m ds =>
  obtain ⟨p,vs,e,ho,hf,hb,hp,q⟩:=h
  exact ⟨p,vs,e,ho,g.no p (by rw [hp];simp) hf,hb,g.h _ _ hp,pr_up (ds:=[]) (part_up g.f) q⟩
 | ol p ds =>
  obtain ⟨vs,e,ho,hf,hb,hp,q⟩:=h
  exact ⟨vs,e,ho,g.no p (by rw [hp];simp) hf,hb,g.h _ _ hp,pr_up (ds:=[]) g.f q⟩
 | ob m C p dx fs =>
  obtain ⟨vs,e,ho,hf,hb,hp,q⟩:=h
  exact ⟨vs,e,ho,⟨g.no p (by rw [hp.1];simp) hf.1,g.no dx (by rw [hp.2];simp) hf.2⟩,hb,⟨g.h _ _ hp.1,g.h _ _ hp.2⟩,paired_imp (λ_ b z=>⟨z.1,b.2.up (part_up g.f) z.2⟩) q⟩
theorem At.grow {F0 Hb F H F' H':Hp} {σ:St} {own:Nat->Option Addr} {Γ:Ctx} (a:At F0 Hb F H σ own Γ) (g:Grow F H F' H'):At F0 Hb F' H' σ own Γ :=
 ⟨a.g.trans g,a.inj,λi p e=>g.h.some (a.liv i p e),λi s e=>(a.sl i s e).grow g,a.len⟩
theorem At.fh {F0 Hb F H:Hp} {σ:St} {own:Nat->Option Addr} {Γ:Ctx} (a:At F0 Hb F H σ own Γ):Same F H:=a.g.fh
theorem join_set_self {σ:St} {i:Nat} {x:Option V} (h:i<σ.length):((σ.set i x)[i]?).join=x:=by
 rw [List.getElem?_set_self h];rfl
theorem zdD {σ:St} {i j:Nat} {x:Option V} (h:i≠j):((σ.set i x)[j]?).join=(σ[j]?).join:=by
 rw [List.getElem?_set_ne h]
theorem At.set {F0 Hb F H:Hp} {σ:St} {own:Nat->Option Addr} {Γ:Ctx} (a:At F0 Hb F H σ own Γ) (i:Nat) {m:Bool} {d:Ds} {v:V} (h:d.pr (part m F Hb) v) :
  At F0 Hb F H (σ.set i (some v)) own (Γ.set i (.va m d)):=by
 refine ⟨a.g,a.inj,a.liv,λj s e=>?_,by simp [a.len]⟩
 by_cases z:i=j
 ·subst z
  have hi:i<Γ.length:=by
   have:=(List.getElem?_eq_some_iff.mp e).1
   simpa using this
  rw [List.getElem?_set_self hi] at e
  cases e
  rw [join_set_self (by rw [a.len];exact hi)]
  exact ⟨v,rfl,h⟩
 ·rw [List.getElem?_set_ne z] at e
  rw [zdD z]
  exact a.sl j s e
theorem At.setOwn {F0 Hb F1 H1 F H:Hp} {σ:St} {own:Nat->Option Addr} {Γ:Ctx} (a1:At F0 Hb F1 H1 σ own Γ) (g:Grow F1 H1 F H) (i:Nat) {m:Bool} {ds:List Ds} {p:Addr} {vs:List V} (h1:H1 p=none) (hf:F p=none) (hp:H p=some (.lst vs))
  (h:Paired (λv (d:Ds)=>d.pr (part m F Hb) v) vs ds):At F0 Hb F H (σ.set i (some (.ref p))) (λj=>if j=i then some p else own j) (Γ.set i (.ow m ds)):=by
 have a:=a1.grow g
 have hb:Hb p=none:=a1.g.h.free h1
 have ho:∀ j,own j≠some p:=λj e=>a1.liv j p e h1
 refine ⟨a.g,λj k q e1 e2=>?_,λj q e=>?_,λj s e=>?_,by simp [a.len]⟩
 ·skip
  split at e1<;>split at e2
  ·omega
  ·cases e1;exact absurd e2 (ho k)
  ·cases e2;exact absurd e1 (ho j)
  ·exact a.inj j k q e1 e2
 ·skip
  split at e
  ·cases e;rw [hp];simp
  ·exact a.liv j q e
 ·by_cases z:i=j
  ·subst z
   have hi:i<Γ.length:=by
    have:=(List.getElem?_eq_some_iff.mp e).1
    simpa using this
   rw [List.getElem?_set_self hi] at e
   cases e
   rw [join_set_self (by rw [a.len];exact hi)]
   exact ⟨p,vs,rfl,by simp,hf,hb,hp,h⟩
  ·rw [List.getElem?_set_ne z] at e
   rw [zdD z]
   have z':¬ j=i:=Ne.symm z
   cases s with
   | tl d =>
    obtain ⟨x,R,q1,q2,q3,q4,q5⟩:=a1.sl j _ e
    refine ⟨x,R,q1,q2.trans g.h,λb o w=>⟨g.no b (by rw [q2 _ _ w];simp) (q3 b o w).1,(q3 b o w).2⟩,λk q w=>?_,q5⟩
    dsimp only at w
    split at w
    ·cases w;exact q2.free h1
    ·exact q4 k q w
   | no=>trivial
   | va m d=>exact a.sl j _ e
   | ow m ds =>
    obtain ⟨q,us,w1,w2,w3⟩:=a.sl j _ e
    exact ⟨q,us,w1,(if_neg z').trans w2,w3⟩
   | ol q ds =>
    obtain ⟨us,w1,w2,w3⟩:=a.sl j _ e
    exact ⟨us,w1,(if_neg z').trans w2,w3⟩
   | ob m C q dx fs =>
    obtain ⟨us,w1,w2,w3⟩:=a.sl j _ e
    exact ⟨us,w1,(if_neg z').trans w2,w3⟩
theorem At.turn {F0 Hb F H:Hp} {σ:St} {own:Nat->Option Addr} {Γ:Ctx} (a:At F0 Hb F H σ own Γ) {i:Nat} {m n:Bool} {ds es:List Ds} {p:Addr} {ws:List V} (e:Γ[i]?=some (.ow m ds)) (ep:σ[i]?=some (some (.ref p)))
  (h:Paired (λv (d:Ds)=>d.pr (part n F Hb) v) ws es):At F0 Hb F (upd H p (.lst ws)) σ own (Γ.set i (.ow n es)):=by
 obtain ⟨p',vs,e1,e2,hf,hb,hp,_⟩:=a.sl i _ e
 rw [ep] at e1
 have e1':p=p':=by
  have:some (V.ref p)=some (V.ref p'):=e1
  cases this;rfl
 subst e1'
 refine ⟨a.g.setH hf hb,a.inj,λj q ej=>?_,λj s es'=>?_,by simp [a.len]⟩
 ·by_cases z:q=p
  ·subst z;rw [upd_same];simp
  ·rw [upd_ne z];exact a.liv j q ej
 ·by_cases z:i=j
  ·subst z
   have hi:i<Γ.length:=(List.getElem?_eq_some_iff.mp e).1
   rw [List.getElem?_set_self hi] at es'
   cases es'
   exact ⟨p,ws,by rw [ep];rfl,e2,hf,hb,upd_same,h⟩
  ·rw [List.getElem?_set_ne z] at es'
   have:=a.sl j s es'
   cases s with
   | no=>trivial
   | tl d =>
    obtain ⟨x,R,q1,q2,q3,q4,q5⟩:=this
    exact ⟨x,R,q1,λb o w=>by rw [upd_ne (ne_of_none w (q4 i p e2))];exact q2 b o w,q3,q4,q5⟩
   | va m d=>exact this
   | ow m ds =>
    obtain ⟨q,us,h1,h2,h3,h4,h5,h6⟩:=this
    have:q≠p:=λw=>by subst w;exact z (a.inj i j q e2 h2)
    exact ⟨q,us,h1,h2,h3,h4,by rw [upd_ne this];exact h5,h6⟩
   | ol q ds =>
    obtain ⟨us,h1,h2,h3,h4,h5,h6⟩:=this
    have:q≠p:=λw=>by subst w;exact z (a.inj i j q e2 h2)
    exact ⟨us,h1,h2,h3,h4,by rw [upd_ne this];exact h5,h6⟩
   | ob m C q dx fs =>
    obtain ⟨us,h1,h2,h3,h4,h5,h6⟩:=this
    have n1:q≠p:=λw=>by subst w;exact z (a.inj i j q e2 h2)
    have n2:dx≠p:=zlO h5.2 hp (by intro z;cases z)
    exact ⟨us,h1,h2,h3,h4,⟨by rw [upd_ne n1];exact h5.1,by rw [upd_ne n2];exact h5.2⟩,h6⟩
theorem At.turnOb {F0 Hb F H:Hp} {σ:St} {own:Nat->Option Addr} {Γ:Ctx} (a:At F0 Hb F H σ own Γ) {i:Nat} {m n:Bool} {C p dx:Addr} {fs gs:List (Str×Ds)} {ws:List (Str×V)} (e:Γ[i]?=some (.ob m C p dx fs))
  (h:Paired (λ(a:Str×V) (b:Str×Ds)=>a.1=b.1∧b.2.pr (part n F Hb) a.2) ws gs):At F0 Hb F (upd H p (.ins C dx ws)) σ own (Γ.set i (.ob n C p dx gs)):=by
 obtain ⟨vs,e1,e2,hf,hb,hp,_⟩:=a.sl i _ e
 have ndp:dx≠p:=zlO hp.2 hp.1 (by intro z;cases z)
 refine ⟨a.g.setH hf.1 hb.1,a.inj,λj q ej=>?_,λj s es'=>?_,by simp [a.len]⟩
 ·by_cases z:q=p
  ·subst z;rw [upd_same];simp
  ·rw [upd_ne z];exact a.liv j q ej
 ·by_cases z:i=j
  ·subst z
   have hi:i<Γ.length:=(List.getElem?_eq_some_iff.mp e).1
   rw [List.getElem?_set_self hi] at es'
   cases es'
   exact ⟨ws,e1,e2,hf,hb,⟨upd_same,by rw [upd_ne ndp];exact hp.2⟩,h⟩
  ·rw [List.getElem?_set_ne z] at es'
   have:=a.sl j s es'
   cases s with
   | no=>trivial
   | tl d =>
    obtain ⟨x,R,q1,q2,q3,q4,q5⟩:=this
    exact ⟨x,R,q1,λb o w=>by rw [upd_ne (ne_of_none w (q4 i p e2))];exact q2 b o w,q3,q4,q5⟩
   | va m d=>exact this
   | ow m ds =>
    obtain ⟨q,us,h1,h2,h3,h4,h5,h6⟩:=this
    have:q≠p:=λw=>by subst w;exact z (a.inj i j q e2 h2)
    exact ⟨q,us,h1,h2,h3,h4,by rw [upd_ne this];exact h5,h6⟩
   | ol q ds =>
    obtain ⟨us,h1,h2,h3,h4,h5,h6⟩:=this
    have:q≠p:=λw=>by subst w;exact z (a.inj i j q e2 h2)
    exact ⟨us,h1,h2,h3,h4,by rw [upd_ne this];exact h5,h6⟩
   | ob m C q dy fs =>
    obtain ⟨us,h1,h2,h3,h4,h5,h6⟩:=this
    have n1:q≠p:=λw=>by subst w;exact z (a.inj i j q e2 h2)
    have n2:dy≠p:=zlO h5.2 hp.1 (by intro z;cases z)
    exact ⟨us,h1,h2,h3,h4,⟨by rw [upd_ne n1];exact h5.1,by rw [upd_ne n2];exact h5.2⟩,h6⟩
inductive Wk:Ctx->Ctx->Prop where
 | nil:Wk [] []
 | eq {s Γ Δ}:Wk Γ Δ->Wk (s :: Γ) (s :: Δ)
 | no {s Γ Δ}:Wk Γ Δ->Wk (s :: Γ) (.no :: Δ)
 | old {m d Γ Δ}:Wk Γ Δ->Wk (.va m d :: Γ) (.va false d :: Δ)
 | oldL {m d Γ Δ}:Wk Γ Δ->Wk (.ow m d :: Γ) (.ow false d :: Δ)
theorem Wk.refl:∀ Γ:Ctx,Wk Γ Γ
 | []=>.nil
 | _ :: Γ=>.eq (Wk.refl Γ)
theorem Wk.len {Γ Δ:Ctx} (h:Wk Γ Δ):Γ.length=Δ.length:=by
 induction h<;>simp_all
theorem Wk.slot {Γ Δ:Ctx} (h:Wk Γ Δ):∀ {i:Nat} {s:Slot},Δ[i]?=some s->∃ r,Γ[i]?=some r∧∀ {Hb F H:Hp} {own:Nat->Option Addr} {j:Nat} {v:Option V},zeS Hb F H own j v r->zeS Hb F H own j v s:=by
 induction h with
 | nil=>intro i s e;simp at e
 | eq _ ih =>
  intro i s e
  cases i with
  | zero=>simp at e;subst e;exact ⟨_,rfl,λh=>h⟩
  | succ i=>simpa using ih (i:=i) (s:=s) (by simpa using e)
 | no _ ih =>
  intro i s e
  cases i with
  | zero=>simp at e;subst e;exact ⟨_,rfl,λ_=>trivial⟩
  | succ i=>simpa using ih (i:=i) (s:=s) (by simpa using e)
 | old _ ih =>
  intro i s e
  cases i with
  | zero=>simp at e;subst e;exact ⟨_,rfl,λ⟨x,h1,h2⟩=>⟨x,h1,Ds.up _ part_sub h2⟩⟩
  | succ i=>simpa using ih (i:=i) (s:=s) (by simpa using e)
 | oldL _ ih =>
  intro i s e
  cases i with
  | zero=>simp at e;subst e;exact ⟨_,rfl,λ⟨p,vs,h1,h2,h3,h4,h5,h6⟩=>⟨p,vs,h1,h2,h3,h4,h5,pr_up (ds:=[]) part_sub h6⟩⟩
  | succ i=>simpa using ih (i:=i) (s:=s) (by simpa using e)
theorem At.wk {F0 Hb F H:Hp} {σ:St} {own:Nat->Option Addr} {Γ Δ:Ctx} (a:At F0 Hb F H σ own Γ) (w:Wk Γ Δ):At F0 Hb F H σ own Δ :=
 ⟨a.g,a.inj,a.liv,λi s e=>by
  obtain ⟨r,e1,h⟩:=w.slot e
  exact h (a.sl i r e1),by rw [a.len,w.len]⟩
theorem At.share {F0 Hb F H:Hp} {σ:St} {own:Nat->Option Addr} {Γ:Ctx} (a:At F0 Hb F H σ own Γ) {i:Nat} {m:Bool} {ds:List Ds} (e:Γ[i]?=some (.ow m ds)) :
  ∃ F' own',Grow F0 Hb F' H∧At F0 Hb F' H σ own' (Γ.set i (.va m (dL ds))):=by
 obtain ⟨p,vs,e1,e2,hf,hb,hp,hq⟩:=a.sl i _ e
 have g:=a.g.take hb hp
 have fs:Same F (upd F p (.lst vs)):=Same.new hf _
 refine ⟨upd F p (.lst vs),λj=>if j=i then none else own j,g,g,λj k q h1 h2=>?_,λj q h1=>?_,λj s es=>?_,by simp [a.len]⟩
 ·skip
  split at h1
  ·cases h1
  ·split at h2
   ·cases h2
   ·exact a.inj j k q h1 h2
 ·skip
  split at h1
  ·cases h1
  ·exact a.liv j q h1
 ·by_cases z:i=j
  ·subst z
   have hi:i<Γ.length:=(List.getElem?_eq_some_iff.mp e).1
   rw [List.getElem?_set_self hi] at es
   cases es
   exact ⟨.ref p,e1,p,vs,rfl,zen hb upd_same,pr_up (ds:=[]) (part_up fs) hq⟩
  ·rw [List.getElem?_set_ne z] at es
   have z':¬ j=i:=Ne.symm z
   have:=a.sl j s es
   cases s with
   | no=>trivial
   | tl d =>
    obtain ⟨x,R,q1,q2,q3,q4,q5⟩:=this
    refine ⟨x,R,q1,q2,λb o w=>⟨by rw [upd_ne (ne_of_none w (q4 i p e2))];exact (q3 b o w).1,(q3 b o w).2⟩,λk q w=>?_,q5⟩
    dsimp only at w
    split at w
    ·cases w
    ·exact q4 k q w
   | va m d=>obtain ⟨x,h1,h2⟩:=this;exact ⟨x,h1,d.up (part_up fs) h2⟩
   | ow m ds =>
    obtain ⟨q,us,h1,h2,h3,h4,h5,h6⟩:=this
    have:q≠p:=λw=>by subst w;exact z (a.inj i j q e2 h2)
    exact ⟨q,us,h1,(if_neg z').trans h2,by rw [upd_ne this];exact h3,h4,h5,pr_up (ds:=[]) (part_up fs) h6⟩
   | ol q ds =>
    obtain ⟨us,h1,h2,h3,h4,h5,h6⟩:=this
    have:q≠p:=λw=>by subst w;exact z (a.inj i j q e2 h2)
    exact ⟨us,h1,(if_neg z').trans h2,by rw [upd_ne this];exact h3,h4,h5,pr_up (ds:=[]) fs h6⟩
   | ob m C q dx gs =>
    obtain ⟨us,h1,h2,h3,h4,h5,h6⟩:=this
    have n1:q≠p:=λw=>by subst w;exact z (a.inj i j q e2 h2)
    have n2:dx≠p:=zlO h5.2 hp (by intro z;cases z)
    exact ⟨us,h1,(if_neg z').trans h2,⟨by rw [upd_ne n1];exact h3.1,by rw [upd_ne n2];exact h3.2⟩,h4,h5,paired_imp (λ_ b z=>⟨z.1,b.2.up (part_up fs) z.2⟩) h6⟩
end L2
namespace L2
open PySem PySem.Spec PyProof.Rows
def Ev (Γ:Ctx) (t:TE) (m:Bool) (d:Ds):Prop:=∀ (F0 Hb F H:Hp) (σ:St) (own:Nat->Option Addr) (Q:VK),At F0 Hb F H σ own Γ →
 (∀ v F' H',Grow F H F' H'->d.pr (part m F' Hb) v->Q v H')->t σ H Q
def EvO (Γ:Ctx) (t:TE) (m:Bool) (ds:List Ds):Prop:=∀ (F0 Hb F H:Hp) (σ:St) (own:Nat->Option Addr) (Q:VK),At F0 Hb F H σ own Γ →
 (∀ p vs F' H',Grow F H F' H'->H p=none->F' p=none->H' p=some (.lst vs)->Paired (λv (d:Ds)=>d.pr (part m F' Hb) v) vs ds->Q (.ref p) H')->t σ H Q
def EvT (Γ:Ctx) (t:TT) (b:Bool):Prop:=∀ (F0 Hb F H:Hp) (σ:St) (own:Nat->Option Addr) (Q:Bool->Hp->Prop),At F0 Hb F H σ own Γ →
 (∀ F' H',Grow F H F' H'->Q b H')->t σ H Q
def EvA (Γ:Ctx) (t:TA) (m:Bool) (ds:List Ds):Prop:=∀ (F0 Hb F H:Hp) (σ:St) (own:Nat->Option Addr) (Q:List V->Hp->Prop),At F0 Hb F H σ own Γ →
 (∀ vs F' H',Grow F H F' H'->Paired (λv (d:Ds)=>d.pr (part m F' Hb) v) vs ds->Q vs H')->t σ H Q
def EvP (Γ:Ctx) (t:TO) (i:Option Int):Prop:=∀ (F0 Hb F H:Hp) (σ:St) (own:Nat->Option Addr) (Q:Option Int->Hp->Prop),At F0 Hb F H σ own Γ →
 (∀ F' H',Grow F H F' H'->Q i H')->t σ H Q
theorem At.free {F0 Hb F H:Hp} {σ:St} {own:Nat->Option Addr} {Γ:Ctx} (a:At F0 Hb F H σ own Γ) {F' H':Hp} (g:Grow F H F' H') {p:Addr} (h:H' p=none):H p=none∧F' p=none∧Hb p=none:=by
 have h1:=g.h.free h
 exact ⟨h1,g.fh.free h,a.g.h.free h1⟩
section
variable {Γ:Ctx} {t ta tb:TE} {m n:Bool} {d e:Ds} {ds es:List Ds} {K:W.Frag}
theorem Ev.old (h:Ev Γ t m d):Ev Γ t false d:=λF0 Hb F H σ own Q a k=>h F0 Hb F H σ own Q a λv F' H' g q=>k v F' H' g (d.up part_sub q)
theorem Ev.conv (h:Ev Γ t m d) (e':d=e):Ev Γ t m e:=e' ▸ h
theorem EvO.conv (h:EvO Γ t m ds) (e':ds=es):EvO Γ t m es:=e' ▸ h
theorem EvT.conv {t:TT} {b c:Bool} (h:EvT Γ t b) (e':b=c):EvT Γ t c:=e' ▸ h
theorem EvO.ev (h:EvO Γ t m ds):Ev Γ t m (dL ds):=λF0 Hb F H σ own Q a k=>h F0 Hb F H σ own Q a λp vs F' H' g h1 h2 h3 q=>by
 have fs:Same F' (upd F' p (.lst vs)):=Same.new h2 _
 exact k (.ref p) (upd F' p (.lst vs)) H' (g.take h1 h3) ⟨p,vs,rfl,zen (a.g.h.free h1) upd_same,pr_up (ds:=[]) (part_up fs) q⟩
theorem Ev.weak (h:Ev Γ t m (dL ds)):Ev Γ t m (dQ K ds):=λF0 Hb F H σ own Q a k=>h F0 Hb F H σ own Q a λv F' H' g ⟨p,vs,h1,h2,h3⟩=>k v F' H' g ⟨p,vs,h1,SqL.of h2,h3⟩
theorem zaa {i:Nat} (h:Γ[i]?=some (.va m d)):Ev Γ (tVar i) m d:=λF0 Hb F H σ own Q a k=>by
 obtain ⟨x,e,q⟩:=a.sl i _ h
 have hi:i<σ.length:=by rw [a.len];exact (List.getElem?_eq_some_iff.mp h).1
 rw [List.getElem?_eq_getElem hi] at e
 have e':σ[i]=some x:=e
 exact ⟨x,by rw [List.getElem?_eq_getElem hi,e'],k x F H (Grow.refl a.fh) q⟩
theorem zaw {v:V}:Ev Γ (tC v) m (dV v):=λF0 Hb F H σ own Q a k=>k v F H (Grow.refl a.fh) rfl
theorem zaD {g:Int->Int->V} {x y:Int} (h1:Ev Γ ta false (dI x)) (h2:Ev Γ tb false (dI y)):Ev Γ (tOp (rI0 g) ta tb) m (dV (g x y)):=λF0 Hb F H σ own Q a k =>
 h1 F0 Hb F H σ own _ a λu F1 H1 g1 q1=>h2 F0 Hb F1 H1 σ own _ (a.grow g1) λv F2 H2 g2 q2=>⟨x,y,q1,q2,k _ F2 H2 (g1.trans g2) rfl⟩
theorem zau {C:Int->Int->Prop} {g:Int->Int->V} {x y:Int} (h1:Ev Γ ta false (dI x)) (h2:Ev Γ tb false (dI y)) (c:C x y):Ev Γ (tOp (rI C g) ta tb) m (dV (g x y)):=λF0 Hb F H σ own Q a k =>
 h1 F0 Hb F H σ own _ a λu F1 H1 g1 q1=>h2 F0 Hb F1 H1 σ own _ (a.grow g1) λv F2 H2 g2 q2=>⟨x,y,q1,q2,c,k _ F2 H2 (g1.trans g2) rfl⟩
theorem zoF {g:Int->V} {x:Int} (h1:Ev Γ ta false (dI x)):Ev Γ (tUn (rU g) ta) m (dV (g x)):=λF0 Hb F H σ own Q a k =>
 h1 F0 Hb F H σ own _ a λu F1 H1 g1 q1=>⟨x,q1,k _ F1 H1 g1 rfl⟩
theorem zpp {v w:V} (h1:Ev Γ ta false (dV v)) (h2:Ev Γ tb false (dV w)) (hs:scal v w=true):Ev Γ (tOp rEq ta tb) m (dB (decide (v=w))):=λF0 Hb F H σ own Q a k =>
 h1 F0 Hb F H σ own _ a λu F1 H1 g1 q1=>h2 F0 Hb F1 H1 σ own _ (a.grow g1) λv F2 H2 g2 q2=>by
  cases q1;cases q2;exact ⟨hs,k _ F2 H2 (g1.trans g2) rfl⟩
theorem zpU {v w:V} (h1:Ev Γ ta false (dV v)) (h2:Ev Γ tb false (dV w)) (hs:scal v w=true):Ev Γ (tOp rNe ta tb) m (dB (!decide (v=w))):=λF0 Hb F H σ own Q a k =>
 h1 F0 Hb F H σ own _ a λu F1 H1 g1 q1=>h2 F0 Hb F1 H1 σ own _ (a.grow g1) λv F2 H2 g2 q2=>by
  cases q1;cases q2;exact ⟨hs,k _ F2 H2 (g1.trans g2) rfl⟩
theorem zjO (x y:Int):decide (V.int x=V.int y)=decide (x=y):=by simp
theorem zds {x y:Int} (h1:Ev Γ ta false (dI x)) (h2:Ev Γ tb false (dI y)):Ev Γ (tOp rEq ta tb) m (dB (decide (x=y))):=(zpp h1 h2 rfl).conv (by rw [zjO])
theorem zc0 {x y:Int} (h1:Ev Γ ta false (dI x)) (h2:Ev Γ tb false (dI y)):Ev Γ (tOp rNe ta tb) m (dB (!decide (x=y))):=(zpU h1 h2 rfl).conv (by rw [zjO])
theorem znr (x y:Str):decide (V.str x=V.str y)=decide (x=y):=by simp
theorem zn0 {x y:Str} (h1:Ev Γ ta false (dS x)) (h2:Ev Γ tb false (dS y)):Ev Γ (tOp rEq ta tb) m (dB (decide (x=y))):=(zpp h1 h2 rfl).conv (by rw [znr])
theorem zao {b:Bool} (h:Ev Γ t false (dB b)):EvT Γ (zpq t) b:=λF0 Hb F H σ own Q a k=>h F0 Hb F H σ own _ a λv F' H' g q=>⟨b,q,k F' H' g⟩
theorem zeu {b:Bool} (h:Ev Γ t false (dB b)):EvT Γ (tB t) b:=λF0 Hb F H σ own Q a k=>h F0 Hb F H σ own _ a λv F' H' g q=>⟨b,q,k F' H' g⟩
theorem zg3 {t:TT} {b:Bool} (h:EvT Γ t b):EvT Γ (zqj t) (!b):=λF0 Hb F H σ own Q a k=>h F0 Hb F H σ own _ a λF' H' g=>k F' H' g
theorem zjZ {t u:TT} {b c:Bool} (h:EvT Γ t b) (h2:b=true->EvT Γ u c):EvT Γ (zqm t u) (b&&c):=λF0 Hb F H σ own Q a k=>h F0 Hb F H σ own _ a λF' H' g=>by
 cases b with
 | true=>exact h2 rfl F0 Hb F' H' σ own Q (a.grow g) λF2 H2 g2=>k F2 H2 (g.trans g2)
 | false=>exact k F' H' g
theorem zf4 {t u:TT} {b c:Bool} (h:EvT Γ t b) (h2:b=false->EvT Γ u c):EvT Γ (tOr t u) (b||c):=λF0 Hb F H σ own Q a k=>h F0 Hb F H σ own _ a λF' H' g=>by
 cases b with
 | false=>exact h2 rfl F0 Hb F' H' σ own Q (a.grow g) λF2 H2 g2=>k F2 H2 (g.trans g2)
 | true=>exact k F' H' g
theorem zmf {b c:Bool} (h:Ev Γ ta false (dB b)) (h2:b=true->Ev Γ tb false (dB c)):Ev Γ (zpv ta tb) m (dB (b&&c)):=λF0 Hb F H σ own Q a k=>h F0 Hb F H σ own _ a λv F' H' g q=>⟨b,q,by
 cases b with
 | true=>exact h2 rfl F0 Hb F' H' σ own Q (a.grow g) λv F2 H2 g2 q2=>k v F2 H2 (g.trans g2) q2
 | false=>exact k _ F' H' g rfl⟩
theorem zmZ {tc:TT} {α:Type} {b:Bool} {x y:α} (f:α->Ds) (h:EvT Γ tc b) (h1:b=true->Ev Γ ta m (f x)) (h2:b=false->Ev Γ tb m (f y)):Ev Γ (tIf tc ta tb) m (f (bif b then x else y)):=λF0 Hb F H σ own Q a k=>h F0 Hb F H σ own _ a λF' H' g=>by
 cases b with
 | true=>exact h1 rfl F0 Hb F' H' σ own Q (a.grow g) λv F2 H2 g2 q2=>k v F2 H2 (g.trans g2) q2
 | false=>exact h2 rfl F0 Hb F' H' σ own Q (a.grow g) λv F2 H2 g2 q2=>k v F2 H2 (g.trans g2) q2
theorem zad:EvA Γ tNil m []:=λF0 Hb F H σ own Q a k=>k [] F H (Grow.refl a.fh) .nil
theorem zab {tr:TA} (h:Ev Γ ta m d) (h2:EvA Γ tr m ds):EvA Γ (tCons ta tr) m (d :: ds):=λF0 Hb F H σ own Q a k =>
 h F0 Hb F H σ own _ a λv F1 H1 g1 q1=>h2 F0 Hb F1 H1 σ own _ (a.grow g1) λvs F2 H2 g2 q2=>k _ F2 H2 (g1.trans g2) (.cons (d.up (part_up g2.f) q1) q2)
theorem zbD {tr:TA} (h:EvA Γ tr m ds) (hz:ds.length≤sizeLine):EvO Γ (zpF tr) m ds:=λF0 Hb F H σ own Q a k =>
 h F0 Hb F H σ own _ a λvs F1 H1 g1 q1=>⟨by rw [Paired.length q1];exact hz,λp hp=>by
  obtain ⟨h1,h2,h3⟩:=a.free g1 hp
  exact k p vs F1 _ (g1.newH hp) h1 h2 upd_same q1⟩
theorem zfk {tr:TA} (h:EvA Γ tr m ds) (hz:ds.length≤sizeLine):Ev Γ (zqo tr) m (dT ds):=λF0 Hb F H σ own Q a k =>
 h F0 Hb F H σ own _ a λvs F1 H1 g1 q1=>⟨by rw [Paired.length q1];exact hz,λp hp=>by
  obtain ⟨h1,h2,h3⟩:=a.free g1 hp
  exact k (.ref p) _ _ (g1.new hp) ⟨p,vs,rfl,zen h3 upd_same,pr_up (ds:=[]) (part_up (Same.new h2 _)) q1⟩⟩
theorem zdg {tr:TA} (h:EvA Γ tr m []):EvO Γ (zpF tr) m []:=zbD h (Nat.zero_le _)
theorem ze9 {R:V->Ds->Prop} {vs:List V} {ds:List Ds} {i:Int} {d:Ds} (h:Paired R vs ds) (e:atI ds i=some d):∃ v,atI vs i=some v∧R v d:=by
 unfold atI at e ⊢
 rw [Paired.length h]
 cases q:ixN ds.length i with
 | none=>rw [q] at e;cases e
 | some j =>
  rw [q] at e
  obtain ⟨v,e1,r⟩:=zaJ h (show ds[j]?=some d from e)
  exact ⟨v,e1,r⟩
theorem zk3 {α β:Type} {f:α->β} {xs:List α} {i:Int} {x:α} (e:atI xs i=some x):atI (xs.map f) i=some (f x):=by
 unfold atI at e ⊢
 rw [List.length_map]
 cases q:ixN xs.length i with
 | none=>rw [q] at e;cases e
 | some j =>
  rw [q] at e
  have e':xs[j]?=some x:=e
  show (xs.map f)[j]?=_
  rw [List.getElem?_map,e']
  rfl
theorem zpY {i:Int} (h1:Ev Γ ta m (dQ K ds)) (h2:Ev Γ tb false (dI i)) (e:atI ds i=some d):Ev Γ (tOp (znZ K) ta tb) m d:=λF0 Hb F H σ own Q a k =>
 h1 F0 Hb F H σ own _ a λu F1 H1 g1 ⟨p,vs,e1,e2,e3⟩=>h2 F0 Hb F1 H1 σ own _ (a.grow g1) λv F2 H2 g2 q2=>by
  obtain ⟨x,ex,rx⟩:=ze9 e3 e
  exact ⟨p,vs,i,x,e1,q2,(part_sub.trans (g2.f.trans g2.fh)).seq e2,ex,k x F2 H2 (g1.trans g2) (d.up (part_up g2.f) rx)⟩
theorem zgo {i:Int} (h1:Ev Γ ta m (dT ds)) (h2:Ev Γ tb false (dI i)) (e:atI ds i=some d):Ev Γ (tOp (zpN K) ta tb) m d:=λF0 Hb F H σ own Q a k =>
 h1 F0 Hb F H σ own _ a λu F1 H1 g1 ⟨p,vs,e1,e2,e3⟩=>h2 F0 Hb F1 H1 σ own _ (a.grow g1) λv F2 H2 g2 q2=>by
  obtain ⟨x,ex,rx⟩:=ze9 e3 e
  exact ⟨p,vs,i,x,e1,q2,.inl (.inl ((part_sub.trans (g2.f.trans g2.fh)) _ _ e2)),ex,k x F2 H2 (g1.trans g2) (d.up (part_up g2.f) rx)⟩
theorem zo8 {t:TE} (h1:Ev Γ t false (dQ K ds)):Ev Γ (tCB (λxs H Q=>∃ p ys,xs=[.ref p]∧(SqL K H p ys∨SqT K H p ys)∧Q (.int ys.length) H) (tCons t tNil)) m (dI ds.length):=λF0 Hb F H σ own Q a k =>
 h1 F0 Hb F H σ own _ a λu F1 H1 g1 ⟨p,vs,e1,e2,e3⟩=>⟨p,vs,by rw [e1],.inl (g1.fh.seq e2),k _ F1 H1 g1 (by show V.int _=_;rw [Paired.length e3])⟩
theorem zdP {t:TE} (h1:Ev Γ t m (dQ K ds)):EvO Γ (tCB (λxs H Q=>∃ p ys,xs=[.ref p]∧(SqL K H p ys∨SqT K H p ys)∧∀ l,H l=none->Q (.ref l) (upd H l (.lst ys))) (tCons t tNil)) m ds:=λF0 Hb F H σ own Q a k =>
 h1 F0 Hb F H σ own _ a λu F1 H1 g1 ⟨p,vs,e1,e2,e3⟩=>⟨p,vs,by rw [e1],.inl ((part_sub.trans g1.fh).seq e2),λl hl=>by
  obtain ⟨h1,h2,h3⟩:=a.free g1 hl
  exact k l vs F1 _ (g1.newH hl) h1 h2 upd_same e3⟩
theorem zbF:EvP Γ zlc none:=λF0 Hb F H σ own Q a k=>k F H (Grow.refl a.fh)
theorem zaX {i:Int} (h:Ev Γ t false (dI i)):EvP Γ (zoy t) (some i):=λF0 Hb F H σ own Q a k=>h F0 Hb F H σ own _ a λv F' H' g q=>⟨i,q,k F' H' g⟩
def cutD {α:Type} (xs:List α) (lo hi:Option Int):List α:=(xs.drop (HT.sIx xs.length 0 lo)).take (HT.sIx xs.length xs.length hi-HT.sIx xs.length 0 lo)
theorem zlo {α β:Type} {f:α->β} {xs:List α} {lo hi:Option Int}:(cutD xs lo hi).map f=cutD (xs.map f) lo hi:=by
 unfold cutD;rw [List.map_take,List.map_drop,List.length_map]
theorem zo3 {tl th:TO} {lo hi:Option Int} (h1:Ev Γ t m (dQ K ds)) (h2:EvP Γ tl lo) (h3:EvP Γ th hi):EvO Γ (tSl (zpA K) t tl th) m (cutD ds lo hi):=λF0 Hb F H σ own Q a k =>
 h1 F0 Hb F H σ own _ a λu F1 H1 g1 ⟨p,vs,e1,e2,e3⟩=>h2 F0 Hb F1 H1 σ own _ (a.grow g1) λF2 H2 g2=>h3 F0 Hb F2 H2 σ own _ ((a.grow g1).grow g2) λF3 H3 g3 =>
  ⟨p,vs,e1,(part_sub.trans (g1.fh.trans (g2.h.trans g3.h))).seq e2,λl hl=>by
   have g:=g1.trans (g2.trans g3)
   obtain ⟨h1,h2,h3⟩:=a.free g hl
   refine k l _ F3 _ (g.newH hl) h1 h2 upd_same ?_
   unfold zpm cutD
   rw [Paired.length e3]
   exact paired_take _ (zfP _ (pr_up (ds:=[]) (part_up (g2.f.trans g3.f)) e3))⟩
theorem zoG {es:List Ds} (h1:Ev Γ ta m (dL ds)) (h2:Ev Γ tb m (dL es)) (hz:ds.length+es.length≤sizeLine):EvO Γ (tOp zpC ta tb) m (ds++es):=λF0 Hb F H σ own Q a k =>
 h1 F0 Hb F H σ own _ a λu F1 H1 g1 ⟨p,vs,e1,e2,e3⟩=>h2 F0 Hb F1 H1 σ own _ (a.grow g1) λv F2 H2 g2 ⟨q,ws,f1,f2,f3⟩ =>
  ⟨p,q,vs,ws,e1,f1,(part_sub.trans (g2.f.trans g2.fh)) _ _ e2,(part_sub.trans g2.fh) _ _ f2,by rw [Paired.length e3,Paired.length f3];exact hz,λl hl=>by
   have g:=g1.trans g2
   obtain ⟨h1,h2,h3⟩:=a.free g hl
   exact k l _ F2 _ (g.newH hl) h1 h2 upd_same (zbs (pr_up (ds:=[]) (part_up g2.f) e3) f3)⟩
theorem zoV {n:Int} (h1:Ev Γ ta m (dL ds)) (h2:Ev Γ tb false (dI n)) (hn:-(2^63)≤n∧n<2^63) (hz:ds.length*n.toNat≤sizeLine):EvO Γ (tOp zp4 ta tb) m (List.replicate n.toNat ds).flatten:=λF0 Hb F H σ own Q a k =>
 h1 F0 Hb F H σ own _ a λu F1 H1 g1 ⟨p,vs,e1,e2,e3⟩=>h2 F0 Hb F1 H1 σ own _ (a.grow g1) λv F2 H2 g2 q2 =>
  ⟨p,n,vs,e1,q2,(part_sub.trans (g2.f.trans g2.fh)) _ _ e2,hn.1,hn.2,by rw [Paired.length e3];exact hz,λl hl=>by
   have g:=g1.trans g2
   obtain ⟨h1,h2,h3⟩:=a.free g hl
   exact k l _ F2 _ (g.newH hl) h1 h2 upd_same (paired_rep (pr_up (ds:=[]) (part_up g2.f) e3) _)⟩
theorem zoj {d:Ds} {b:Bool} (h1:Ev Γ ta false d) (h2:Ev Γ tb false dN) (hb:∀ H v,d.pr H v->decide (v=V.non)=b):Ev Γ (tOp (λx y H Q=>y=.non∧Q (.bl (decide (x=.non))) H) ta tb) m (dB b):=λF0 Hb F H σ own Q a k =>
 h1 F0 Hb F H σ own _ a λu F1 H1 g1 q1=>h2 F0 Hb F1 H1 σ own _ (a.grow g1) λv F2 H2 g2 q2=>⟨q2,k _ F2 H2 (g1.trans g2) (by show V.bl _=_;rw [hb _ _ q1])⟩
theorem zna {d:Ds} {b:Bool} (h1:Ev Γ ta false d) (h2:Ev Γ tb false dN) (hb:∀ H v,d.pr H v->decide (v=V.non)=b):Ev Γ (tOp (λx y H Q=>y=.non∧Q (.bl (!decide (x=.non))) H) ta tb) m (dB (!b)):=λF0 Hb F H σ own Q a k =>
 h1 F0 Hb F H σ own _ a λu F1 H1 g1 q1=>h2 F0 Hb F1 H1 σ own _ (a.grow g1) λv F2 H2 g2 q2=>⟨q2,k _ F2 H2 (g1.trans g2) (by show V.bl _=_;rw [hb _ _ q1])⟩
theorem zmx {x y:Int} {tr:TA} (h:EvA Γ tr false [dI x,dI y]):Ev Γ (tCB (λxs H Q=>∃ i j,xs=[.int i,.int j]∧Q (.int (if j > i then j else i)) H) tr) m (dI (max x y)):=λF0 Hb F H σ own Q a k =>
 h F0 Hb F H σ own _ a λvs F1 H1 g1 q=>by
  cases q with | cons q1 q=>cases q with | cons q2 q=>cases q;cases q1;cases q2;exact ⟨x,y,rfl,k _ F1 H1 g1 (by show V.int _=V.int _;congr 1;omega)⟩
theorem zkB {b:Bool} {tr:TA} (h:EvA Γ tr false [dB b]):Ev Γ (tCB (λxs H Q=>(∃ i,xs=[.int i]∧Q (.int i) H)∨∃ k,xs=[.bl k]∧Q (.int (if k then 1 else 0)) H) tr) m (dI (if b then 1 else 0)):=λF0 Hb F H σ own Q a k =>
 h F0 Hb F H σ own _ a λvs F1 H1 g1 q=>by
  cases q with | cons q1 q=>cases q;cases q1;exact .inr ⟨b,rfl,k _ F1 H1 g1 rfl⟩
theorem zfY {f:α->V} {R:Hp} {xs:List α}:∀ {vs:List V},Paired (λv (d:Ds)=>d.pr R v) vs (xs.map λx=>dV (f x))->vs=xs.map f:=by
 induction xs with
 | nil=>intro vs h;cases h;rfl
 | cons x xs ih=>intro vs h;cases h with | cons h1 h2=>rw [ih h2,h1];rfl
theorem zeU {H:Hp} {f:Str} {d:Ds}:∀ {vs:List (Str×V)} {fs:List (Str×Ds)},Paired (λ(a:Str×V) (b:Str×Ds)=>a.1=b.1∧b.2.pr H a.2) vs fs->fs.lookup f=some d->∃ v,vs.lookup f=some v∧d.pr H v
 | _,_,.nil,e=>by cases e
 | _,_,.cons (a:=(x,v)) (b:=(y,d')) ⟨h1,h2⟩ t,e=>by
  have h1:x=y:=h1
  subst h1
  simp only [List.lookup_cons] at e ⊢
  cases q:f == x with
  | true=>rw [q] at e;cases e;exact ⟨v,rfl,h2⟩
  | false=>rw [q] at e;exact zeU t e
theorem zdU {C:Addr} {fs:List (Str×Ds)} {f:Str} (h1:Ev Γ ta m (dO C fs)) (c:Cls K C) (nf:NoAttr K C f) (e:fs.lookup f=some d):Ev Γ (tFld K ta f) m d:=λF0 Hb F H σ own Q a k =>
 h1 F0 Hb F H σ own _ a λu F1 H1 g1 ⟨p,dx,vs,e1,e2,e3,e4⟩=>by
  obtain ⟨v,ev,qv⟩:=zeU e4 e
  exact ⟨p,C,dx,vs,v,e1,(part_sub.trans g1.fh) _ _ e2,c,nf,ev,k v F1 H1 g1 qv⟩
inductive Rs where
 | va (m:Bool) (d:Ds)
 | ow (m:Bool) (ds:List Ds)
 | ex (C:Addr)
def Spv {ι:Type} (args:ι->List Ds) (pre:ι->Prop) (res:ι->Rs):Sp:=λvs H Q E=>∃ (x:ι) (F:Hp),Same F H∧Paired (λv (d:Ds)=>d.pr F v) vs (args x)∧pre x∧match res x with
 | .ex C=>∀ dct F' H',Grow F H F' H'->E (.ref C) dct H'
 | .va m d=>∀ v F' H',Grow F H F' H'->d.pr (part m F' H) v->Q v H'
 | .ow m ds=>∀ p ws F' H',Grow F H F' H'->H p=none->F' p=none->H' p=some (.lst ws)->Paired (λv (d:Ds)=>d.pr (part m F' H) v) ws ds->Q (.ref p) H'
theorem part_old {m:Bool} {F Hb H:Hp} (e:Same Hb H):Same (part m F H) (part m F Hb):=by
 cases m with
 | true=>exact zkN e
 | false=>exact Same.refl _
theorem zah {ι:Type} {args:ι->List Ds} {pre:ι->Prop} {res:ι->Rs} {tr:TA} {E:XK} (x:ι) (h:EvA Γ tr false ds) (ha:ds=args x) (hp:pre x) (hr:res x=.va m d):Ev Γ (tCall (Spv args pre res) [] E tr) m d:=λF0 Hb F H σ own Q a k=>by
 subst ha
 refine h F0 Hb F H σ own _ a λvs F1 H1 g1 q1=>⟨x,F1,g1.fh,by rw [List.append_nil];exact q1,hp,?_⟩
 rw [hr]
 exact λv F' H' g q=>k v F' H' (g1.trans g) (d.up (part_old (a.g.h.trans g1.h)) q)
theorem zbg {ι:Type} {args:ι->List Ds} {pre:ι->Prop} {res:ι->Rs} {tr:TA} {E:XK} (x:ι) (h:EvA Γ tr false es) (ha:es=args x) (hp:pre x) (hr:res x=.ow m ds):EvO Γ (tCall (Spv args pre res) [] E tr) m ds:=λF0 Hb F H σ own Q a k=>by
 subst ha
 refine h F0 Hb F H σ own _ a λvs F1 H1 g1 q1=>⟨x,F1,g1.fh,by rw [List.append_nil];exact q1,hp,?_⟩
 rw [hr]
 exact λp ws F' H' g h1 h2 h3 q=>k p ws F' H' (g1.trans g) (g1.h.free h1) h2 h3 (pr_up (ds:=[]) (part_old (a.g.h.trans g1.h)) q)
end
end L2
namespace L2
open PySem PySem.Spec PyProof.Rows
def zpO:List Nat->List V->St->St
 | j :: js,v :: vs,σ=>zpO js vs (σ.set j (some v))
 | _,_,σ=>σ
def zj2:List Nat->List Ds->Bool->Ctx->Ctx
 | j :: js,d :: ds,m,Γ=>zj2 js ds m (Γ.set j (.va m d))
 | _,_,_,Γ=>Γ
theorem At.setMany {F0 Hb F H:Hp} {own:Nat->Option Addr} {m:Bool}:∀ {js:List Nat} {vs:List V} {ds:List Ds} {σ:St} {Γ:Ctx},At F0 Hb F H σ own Γ->Paired (λv (d:Ds)=>d.pr (part m F Hb) v) vs ds →
  At F0 Hb F H (zpO js vs σ) own (zj2 js ds m Γ)
 | [],_,_,_,_,a,.nil=>a
 | [],_,_,_,_,a,.cons _ _=>a
 | _ :: _,_,_,_,_,a,.nil=>a
 | j :: js,_,_,_,_,a,.cons h t=>At.setMany (js:=js) (a.set j h) t
theorem At.unset {F0 Hb F H:Hp} {own:Nat->Option Addr} {σ:St} {Γ:Ctx} {j:Nat} {s:Slot} (a:At F0 Hb F H σ own (Γ.set j s)) (h:Γ[j]?=some .no):At F0 Hb F H σ own Γ :=
 ⟨a.g,a.inj,a.liv,λi r e=>by
  by_cases z:j=i
  ·subst z;rw [h] at e;cases e;trivial
  ·exact a.sl i r (by rw [List.getElem?_set_ne z];exact e),by rw [a.len];simp⟩
theorem At.unsetMany {F0 Hb F H:Hp} {own:Nat->Option Addr} {σ:St} {m:Bool}:∀ {js:List Nat} {ds:List Ds} {Γ:Ctx},At F0 Hb F H σ own (zj2 js ds m Γ)->(∀ j∈js,Γ[j]?=some .no)->js.Nodup->At F0 Hb F H σ own Γ
 | [],[],_,a,_,_=>a
 | [],_ :: _,_,a,_,_=>a
 | _ :: _,[],_,a,_,_=>a
 | j :: js,d :: ds,Γ,a,h,hn=>by
  have hn:=List.nodup_cons.mp hn
  refine At.unset (At.unsetMany (js:=js) (ds:=ds) (Γ:=Γ.set j (.va m d)) a (λi hi=>?_) hn.2) (h j List.mem_cons_self)
  rw [List.getElem?_set_ne (λ(z:j=i)=>hn.1 (by rw [z];exact hi))]
  exact h i (List.mem_cons_of_mem _ hi)
def zo6 {γ:Type} (Hb F:Hp) (J:It) (g:TG) (js:List Nat) (xs:List γ) (bds:γ->List Ds) (m:Bool):Prop:=∀ H,Same F H->J.stop xs.length H∧∀ i x,xs[i]?=some x->J.go i H ∧
 ∀ v H',J.yld i H v H'->Grow F H F H'∧∀ (σ:St) (Q:St->Hp->Prop),(∀ vs,Paired (λv (d:Ds)=>d.pr (part m F Hb) v) vs (bds x)->Q (zpO js vs σ) H')->g v σ H' Q
def Iv {γ:Type} (Γ:Ctx) (wi:TI) (g:TG) (js:List Nat) (xs:List γ) (bds:γ->List Ds) (m:Bool):Prop:=∀ (F0 Hb F H:Hp) (σ:St) (own:Nat->Option Addr) (R:It->Hp->Prop),At F0 Hb F H σ own Γ →
 (∀ J F' H',Grow F H F' H'->zo6 Hb F' J g js xs bds m->R J H')->wi σ H R
section
variable {Γ:Ctx} {m:Bool} {K:W.Frag} {γ δ:Type}
theorem zo6.up {Hb F F':Hp} {J:It} {g:TG} {js:List Nat} {xs:List γ} {bds:γ->List Ds} (h:zo6 Hb F J g js xs bds m) (e:Same F F'):zo6 Hb F' J g js xs bds m:=λH hs=>by
 obtain ⟨h1,h2⟩:=h H (e.trans hs)
 refine ⟨h1,λi x ex=>?_⟩
 obtain ⟨h3,h4⟩:=h2 i x ex
 refine ⟨h3,λv H' y=>?_⟩
 obtain ⟨h5,h6⟩:=h4 v H' y
 exact ⟨⟨Same.refl _,hs.trans h5.h,h5.h,λ_ _ z=>z⟩,λσ Q k=>h6 σ Q λvs q=>k vs (pr_up (ds:=[]) (part_up e) q)⟩
theorem zbX {tl:TE} {j:Nat} {xs:List γ} (f:γ->Ds) (h:Ev Γ tl m (dQ K (xs.map f))):Iv Γ (zlV K tl) (zbx j) [j] xs (λx=>[f x]) m:=λF0 Hb F H σ own R a k =>
 h F0 Hb F H σ own _ a λu F1 H1 g1 ⟨p,vs,e1,e2,e3⟩=>by
  have e2':SqL K F1 p vs:=part_sub.seq e2
  refine ⟨p,e1,⟨vs,g1.fh.seq e2'⟩,k _ F1 H1 g1 λH hs=>⟨⟨vs,hs.seq e2',by rw [Paired.length e3,List.length_map];exact Nat.le_refl _⟩,λi x ex=>?_⟩⟩
  obtain ⟨v,ev,qv⟩:=zaJ e3 (show (xs.map f)[i]?=some (f x) by rw [List.getElem?_map,ex];rfl)
  refine ⟨⟨vs,v,hs.seq e2',ev⟩,λw H' y=>?_⟩
  obtain ⟨rfl,y⟩:=y
  have:=y vs (hs.seq e2')
  rw [ev] at this
  cases this
  exact ⟨Grow.refl hs,λσ Q k=>k [v] (.cons qv .nil)⟩
def zaW (lo:Int) (n:Nat):List Int:=(List.range n).map λ(i:Nat)=>lo+(i:Int)
theorem zaC {lo:Int} {n:Nat}:(zaW lo n).length=n:=by simp [zaW]
theorem zbf {lo:Int} {n i:Nat} {x:Int} (h:(zaW lo n)[i]?=some x):i<n∧x=lo+i:=by
 unfold zaW at h
 rw [List.getElem?_map] at h
 by_cases z:i<n
 ·rw [List.getElem?_range z] at h
  exact ⟨z,(Option.some.inj h).symm⟩
 ·rw [List.getElem?_eq_none (by simp;omega)] at h;cases h
theorem mem_rngZ {lo:Int} {n:Nat} {x:Int}:x∈zaW lo n ↔ lo≤x∧x<lo+n:=by
 unfold zaW
 rw [List.mem_map]
 constructor
 ·rintro ⟨i,hi,rfl⟩;have:=List.mem_range.mp hi;omega
 ·intro h;exact ⟨(x-lo).toNat,List.mem_range.mpr (by omega),by omega⟩
theorem zn3 {Hb F:Hp} {lo:Int} {n j:Nat}:zo6 Hb F (Itr lo n) (zbx j) [j] (zaW lo n) (λx=>[dI x]) m:=λH hs =>
 ⟨by show n≤_;rw [zaC];exact Nat.le_refl _,λi x ex=>by
  obtain ⟨hi,rfl⟩:=zbf ex
  refine ⟨hi,λv H' y=>?_⟩
  obtain ⟨rfl,rfl⟩:=y
  exact ⟨Grow.refl hs,λσ Q k=>k [_] (.cons rfl .nil)⟩⟩
theorem zdb {t:TE} {j:Nat} {n:Int} (h:Ev Γ t false (dI n)) (hn:-(2^62)≤n∧n<2^62):Iv Γ (zpl (tCons t tNil)) (zbx j) [j] (zaW 0 n.toNat) (λx=>[dI x]) m:=λF0 Hb F H σ own R a k =>
 h F0 Hb F H σ own _ a λu F1 H1 g1 q1=>⟨n,by rw [q1],hn.1,hn.2,k _ F1 H1 g1 zn3⟩
theorem zcv {α β:Type} {xs:List α} {ys:List β} {i:Nat} {p:α×β} (h:(xs.zip ys)[i]?=some p):xs[i]?=some p.1∧ys[i]?=some p.2:=by
 rw [List.getElem?_zip_eq_some] at h;exact h
theorem zeM {ta tb:TE} {j1 j2:Nat} {xs:List γ} {ys:List δ} (f1:γ->Ds) (f2:δ->Ds) (h1:Ev Γ ta m (dQ K (xs.map f1))) (h2:Ev Γ tb m (dQ K (ys.map f2))) :
  Iv Γ (zp7 K (tCons ta (tCons tb tNil))) (zly K 2 (zdM (zbx j1) (zdM (zbx j2) zms))) [j1,j2] (xs.zip ys) (λx=>[f1 x.1,f2 x.2]) m:=λF0 Hb F H σ own R a k =>
 h1 F0 Hb F H σ own _ a λu F1 H1 g1 ⟨p,vs,e1,e2,e3⟩=>h2 F0 Hb F1 H1 σ own _ (a.grow g1) λu' F2 H2 g2 ⟨q,ws,d1,d2,d3⟩=>by
  have e2':SqL K F2 p vs:=g2.f.seq (part_sub.seq e2)
  have d2':SqL K F2 q ws:=part_sub.seq d2
  have e3':=pr_up (ds:=[]) (part_up (m:=m) (Hb:=Hb) g2.f) e3
  have le:=Paired.length e3
  have ld:=Paired.length d3
  rw [List.length_map] at le ld
  refine ⟨p,q,by rw [e1,d1],⟨vs,g2.fh.seq e2'⟩,⟨ws,g2.fh.seq d2'⟩,k _ F2 H2 (g1.trans g2) λH hs=>⟨⟨vs,ws,hs.seq e2',hs.seq d2',by rw [le,ld,List.length_zip];omega⟩,λi x ex=>?_⟩⟩
  obtain ⟨x1,x2⟩:=zcv ex
  obtain ⟨v,ev,qv⟩:=zaJ e3' (show (xs.map f1)[i]?=some (f1 x.1) by rw [List.getElem?_map,x1];rfl)
  obtain ⟨w,ew,qw⟩:=zaJ d3 (show (ys.map f2)[i]?=some (f2 x.2) by rw [List.getElem?_map,x2];rfl)
  refine ⟨⟨vs,ws,v,w,hs.seq e2',hs.seq d2',ev,ew⟩,λz H' y=>?_⟩
  obtain ⟨r,x',y',rfl,hr,rfl,hxy⟩:=y
  obtain ⟨hx,hy⟩:=hxy vs ws (hs.seq e2') (hs.seq d2')
  rw [ev] at hx;rw [ew] at hy
  cases hx;cases hy
  exact ⟨(Grow.refl hs).newH hr,λσ Q k=>⟨r,_,rfl,.inl (.inl upd_same),rfl,_,_,rfl,_,_,rfl,rfl,k [v,w] (.cons qv (.cons qw .nil))⟩⟩
def zpB:Option Slot->Slot
 | some (.va m d)=>.va m d
 | _=>.no
def zhF (own:Nat) (fv:List Nat) (Γ:Ctx):Ctx:=List.replicate own .no++fv.map λi=>zpB Γ[i]?
theorem At.block {F0 Hb F H:Hp} {own:Nat->Option Addr} {σ:St} (a:At F0 Hb F H σ own Γ) (k:Nat) (fv:List Nat):At F0 Hb F H (zfC k fv σ) (λ_=>none) (zhF k fv Γ):=by
 refine ⟨a.g,λ_ _ _ h=>(by cases h),λ_ _ h=>(by cases h),λi s e=>?_,?_⟩
 ·unfold zhF at e
  unfold zfC
  by_cases hi:i<k
  ·rw [List.getElem?_append_left (by simpa using hi),List.getElem?_replicate,if_pos hi] at e
   cases e;trivial
  ·rw [List.getElem?_append_right (by simpa using hi),List.length_replicate,List.getElem?_map] at e
   rw [List.getElem?_append_right (by simpa using hi),List.length_replicate,List.getElem?_map]
   cases q:fv[i-k]? with
   | none=>rw [q] at e;cases e
   | some j =>
    rw [q] at e
    have e':zpB Γ[j]?=s:=Option.some.inj e
    subst e'
    show zeS Hb F H (λ_=>none) _ ((σ[j]?).join) (zpB Γ[j]?)
    cases z:Γ[j]? with
    | none=>trivial
    | some r =>
     cases r with
     | no=>trivial
     | va m d=>exact (show zeS Hb F H own j _ (.va m d) from a.sl j _ z)
     | ow m ds=>trivial
     | ob m C p dx fs=>trivial
     | ol p ds=>trivial
     | tl d=>trivial
 ·unfold zfC zhF;simp
theorem zkX {k:Nat} {fv:List Nat} {j:Nat} {d:Ds} (e:(zhF k fv Γ)[j]?=some (.tl d)):False:=by
 unfold zhF at e
 have:=List.mem_of_getElem? e
 rcases List.mem_append.mp this with q | q
 ·cases (List.mem_replicate.mp q).2
 ·obtain ⟨l,_,q⟩:=List.mem_map.mp q
  unfold zpB at q
  split at q<;>cases q
theorem evt_noif:EvT Γ tNoIf true:=λF0 Hb F H σ own Q a k=>k F H (Grow.refl a.fh)
theorem zg6 {xs:List γ} {i:Nat} {x:γ} (h:xs[i]?=some x):xs.take (i+1)=xs.take i++[x]:=by
 rw [List.take_succ,h];rfl
theorem zhJ {own:Nat} {fv:List Nat} {wi:TI} {tg:TG} {tt:TTs} {te:TE} {js:List Nat} {xs:List γ} {bds:γ->List Ds} {mi:Bool} {c:γ->Bool} {g:γ->Ds} (it:Iv Γ wi tg js xs bds mi) (hz:xs.length≤sizeLine) (hj:(∀ j∈js,j<own)∧js.Nodup)
  (ht:∀ (i:Nat) (x:γ),xs[i]?=some x->EvT (zj2 js (bds x) mi (zhF own fv Γ)) tt (c x)) (he:∀ (i:Nat) (x:γ),xs[i]?=some x->c x=true->Ev (zj2 js (bds x) mi (zhF own fv Γ)) te m (g x)):EvO Γ (zkE own fv wi tg tt te) m ((xs.filter c).map g):=λF0 Hb F H σ ow Q a k =>
 it F0 Hb F H σ ow _ a λJ F1 H1 g1 ok D hD=>by
  have hno:∀ j∈js,(zhF own fv Γ)[j]?=some .no:=λj hj'=>by
   have:=hj.1 j hj'
   unfold zhF
   rw [List.getElem?_append_left (by simpa using this),List.getElem?_replicate,if_pos this]
  obtain ⟨hD0,hDF,hDb⟩:=a.free g1 hD
  refine ⟨λi mm ys σb H2=>mm=xs.length-i∧i≤xs.length∧ys.length≤i∧∃ F2,Grow F1 H1 F2 H2∧F2 D=none∧H2 D=some (.lst ys)∧Paired (λv (d:Ds)=>d.pr (part m F2 Hb) v) ys (((xs.take i).filter c).map g)∧At F0 Hb F2 H2 σb (λ_=>none) (zhF own fv Γ),
   ⟨_,rfl,Nat.zero_le _,Nat.zero_le _,F1,(Grow.refl g1.fh).newH hD,hDF,upd_same,by simpa using Paired.nil,((a.grow g1).block own fv).grow ((Grow.refl g1.fh).newH hD)⟩,?_⟩
  rintro i mm ys σb H2 ⟨rfl,hi,hy,F2,g2,hF2,hH2,hP,a2⟩
  refine ⟨hH2,?_⟩
  obtain ⟨hstop,hitem⟩:=ok.up g2.f H2 g2.fh
  by_cases hlt:i<xs.length
  ·obtain ⟨go,yl⟩:=hitem i xs[i] (List.getElem?_eq_getElem hlt)
   refine .inr ⟨go,λx H' y=>?_⟩
   obtain ⟨g3,bind⟩:=yl x H' y
   refine bind σb _ λvs hvs=>?_
   have a3:=(a2.grow g3).setMany (js:=js) hvs
   have hx:xs[i]?=some xs[i]:=List.getElem?_eq_getElem hlt
   refine ht i _ hx F0 Hb F2 H' _ _ _ a3 λF4 H4 g4=>?_
   have tk:=zg6 hx
   have gD:∀ {F5 H5:Hp},Grow F2 H2 F5 H5->F5 D=none∧H5 D=some (.lst ys):=λg=>⟨g.no D (by rw [hH2];simp) hF2,g.h _ _ hH2⟩
   cases hc:c xs[i] with
   | true =>
    rw [if_pos rfl]
    refine he i _ hx hc F0 Hb F4 H4 _ _ _ (a3.grow g4) λv F5 H5 g5 q5=>?_
    have g25:=g3.trans (g4.trans g5)
    obtain ⟨n1,n2⟩:=gD g25
    have sD:Same H5 H5:=Same.refl _
    have n3:H1 D=none:=hD
    refine ⟨n2,by omega,xs.length-(i+1),by omega,rfl,hlt,by simp;omega,F5,?_,n1,upd_same,?_,?_⟩
    ·exact (g2.trans g25).setH n1 n3
    ·rw [tk,List.filter_append,List.map_append]
     refine zbs (pr_up (ds:=[]) (part_up g25.f) hP) ?_
     rw [List.filter_cons,hc]
     exact .cons q5 .nil
    ·have a5:=((a3.grow g4).grow g5).unsetMany hno hj.2
     refine ⟨a5.g.setH n1 hDb,a5.inj,λ_ _ h=>(nomatch h),λj s es=>?_,a5.len⟩
     ·have:=a5.sl j s es
      cases s with
      | no=>trivial
      | va m d=>exact this
      | ow m ds=>obtain ⟨_,_,_,h,_⟩:=this;exact (nomatch h)
      | ob m C p dx fs=>obtain ⟨_,_,h,_⟩:=this;exact (nomatch h)
      | ol p ds=>obtain ⟨_,_,h,_⟩:=this;exact (nomatch h)
      | tl d=>exact (zkX es).elim
   | false =>
    rw [if_neg Bool.false_ne_true]
    have g25:=g3.trans g4
    obtain ⟨n1,n2⟩:=gD g25
    refine ⟨xs.length-(i+1),by omega,rfl,hlt,by omega,F4,g2.trans g25,n1,n2,?_,(a3.grow g4).unsetMany hno hj.2⟩
    rw [tk,List.filter_append,List.map_append,List.filter_cons,hc]
    simpa using pr_up (ds:=[]) (part_up g25.f) hP
  ·have e:i=xs.length:=by omega
   subst e
   rw [List.take_length] at hP
   exact .inl ⟨hstop,k D ys F2 H2 (g1.trans g2) hD0 hF2 hH2 hP⟩
theorem zbN {own:Nat} {fv:List Nat} {wi:TI} {tg:TG} {te:TE} {js:List Nat} {xs:List γ} {bds:γ->List Ds} {mi:Bool} {g:γ->Ds} (it:Iv Γ wi tg js xs bds mi) (hz:xs.length≤sizeLine) (hj:(∀ j∈js,j<own)∧js.Nodup)
  (he:∀ (i:Nat) (x:γ),xs[i]?=some x->Ev (zj2 js (bds x) mi (zhF own fv Γ)) te m (g x)):EvO Γ (zkE own fv wi tg tNoIf te) m (xs.map g):=by
 have:=zhJ (c:=λ_=>true) it hz hj (λ_ _ _=>evt_noif) (λi x hx _=>he i x hx)
 rwa [show xs.filter (λ_=>true)=xs from List.filter_eq_self.mpr λ_ _=>rfl] at this
end
inductive Oc where
 | nx (Γ:Ctx)
 | rt (m:Bool) (d:Ds)
 | rl (m:Bool) (ds:List Ds)
 | bk (Γ:Ctx)
 | ct (Γ:Ctx)
 | ex (C:Addr) (Γ:Ctx)
 | rw (Γ:Ctx) (d:Ds)
def zfq (E:XS) (F0 Hb:Hp) (D:Ends):Oc->Prop
 | .ex C Γ=>∀ dct F H σ own,At F0 Hb F H σ own Γ->E σ (.ref C) dct H
 | .rw Γ d=>∀ v F H σ own,At F0 Hb F H σ own Γ->d.pr F v->D.rt v H
 | .nx Γ=>∀ F H σ own,At F0 Hb F H σ own Γ->D.nx σ H
 | .bk Γ=>∀ F H σ own,At F0 Hb F H σ own Γ->D.bk σ H
 | .ct Γ=>∀ F H σ own,At F0 Hb F H σ own Γ->D.ct σ H
 | .rt m d=>∀ v F H,Grow F0 Hb F H->d.pr (part m F Hb) v->D.rt v H
 | .rl m ds=>∀ p vs F H,Grow F0 Hb F H->Hb p=none->F p=none->H p=some (.lst vs)->Paired (λv (d:Ds)=>d.pr (part m F Hb) v) vs ds->D.rt (.ref p) H
def Run (E:XS) (Γ:Ctx) (t:TS) (o:Oc):Prop:=∀ (F0 Hb F H:Hp) (σ:St) (own:Nat->Option Addr) (D:Ends),At F0 Hb F H σ own Γ->zfq E F0 Hb D o->t D σ H
def Let {α:Type} {β:Type} (a:α) (k:α->β):β:=k a
def zbi {σ:Type} {γ:Type} {β:Type} (f:σ->γ->σ ⊕ β):σ->List γ->σ ⊕ β
 | s,[]=>.inl s
 | s,x :: xs=>match f s x with | .inl s'=>zbi f s' xs | .inr b=>.inr b
section
variable {E:XS} {Γ Δ:Ctx} {m:Bool} {K:W.Frag} {γ β:Type} {te:TE} {t u:TS} {d:Ds} {ds:List Ds} {o:Oc} {i:Nat}
theorem zar (w:Wk Γ Δ):Run E Γ zk4 (.nx Δ):=λF0 Hb F H σ own D a k=>k F H σ own (a.wk w)
theorem zap (h:Ev Γ te m d):Run E Γ (zld te) (.rt m d):=λF0 Hb F H σ own D a k=>h F0 Hb F H σ own _ a λv F' H' g q=>k v F' H' (a.g.trans g) q
theorem zfs (h:EvO Γ te m ds):Run E Γ (zld te) (.rl m ds):=λF0 Hb F H σ own D a k=>h F0 Hb F H σ own _ a λp vs F' H' g h1 h2 h3 q=>k p vs F' H' (a.g.trans g) (a.g.h.free h1) h2 h3 q
theorem zjf (e:Γ[i]?=some (.ow m ds)):Run E Γ (zld (tVar i)) (.rl m ds):=λF0 Hb F H σ own D a k=>by
 obtain ⟨p,vs,e1,e2,e3,e4,e5,e6⟩:=a.sl i _ e
 have hi:i<σ.length:=by rw [a.len];exact (List.getElem?_eq_some_iff.mp e).1
 rw [List.getElem?_eq_getElem hi] at e1
 have e':σ[i]=some (.ref p):=e1
 exact ⟨_,by rw [List.getElem?_eq_getElem hi,e'],k p vs F H a.g e4 e3 e5 e6⟩
theorem zfL (h:Run E Γ (zld te) o) (ho:∀ F0 Hb D D',D.rt=D'.rt->zfq E F0 Hb D o->zfq E F0 Hb D' o):Run E Γ (tSeq (zld te) u) o:=λF0 Hb F H σ own D a k=>h F0 Hb F H σ own _ a (ho F0 Hb D { D with nx:=u D } rfl k)
theorem zag (h:Run E Γ (zld te) (.rt m d)):Run E Γ (tSeq (zld te) u) (.rt m d):=zfL h λ_ _ _ _ e q v F H g p=>e ▸ q v F H g p
theorem zdv (h:Run E Γ (zld te) (.rl m ds)):Run E Γ (tSeq (zld te) u) (.rl m ds):=zfL h λ_ _ _ _ e q p vs F H g h1 h2 h3 h4=>e ▸ q p vs F H g h1 h2 h3 h4
theorem zbd (h:Ev Γ te m d) (k:Run E (Γ.set i (.va m d)) u o):Run E Γ (tSeq (zgV te (zbx i)) u) o:=λF0 Hb F H σ own D a q =>
 h F0 Hb F H σ own _ a λv F' H' g p=>k F0 Hb F' H' _ own D ((a.grow g).set i p) q
theorem run_setO (h:EvO Γ te m ds) (k:Run E (Γ.set i (.ow m ds)) u o):Run E Γ (tSeq (zgV te (zbx i)) u) o:=λF0 Hb F H σ own D a q =>
 h F0 Hb F H σ own _ a λp vs F' H' g h1 h2 h3 h4=>k F0 Hb F' H' _ _ D (a.setOwn g i h1 h2 h3 h4) q
theorem zaj {α:Type} {x:α} (f:α->Ds) (fo:β->Oc) {kk:α->β} (h:Ev Γ te m (f x)) (k:∀ y,y=x->Run E (Γ.set i (.va m (f y))) u (fo (kk y))):Run E Γ (tSeq (zgV te (zbx i)) u) (fo (Let x kk)):=zbd h (k x rfl)
theorem run_letO {α:Type} {x:α} (f:α->List Ds) (fo:β->Oc) {kk:α->β} (h:EvO Γ te m (f x)) (k:∀ y,y=x->Run E (Γ.set i (.ow m (f y))) u (fo (kk y))):Run E Γ (tSeq (zgV te (zbx i)) u) (fo (Let x kk)):=run_setO h (k x rfl)
theorem zeW (h:Ev Γ te m d) (k:Run E Γ u o):Run E Γ (tSeq (tDrop te) u) o:=λF0 Hb F H σ own D a q =>
 h F0 Hb F H σ own _ a λv F' H' g p=>k F0 Hb F' H' σ own D (a.grow g) q
theorem zcq (e:Γ[i]?=some (.ow m ds)) (k:Run E (Γ.set i (.va m (dL ds))) t o):Run E Γ t o:=λF0 Hb F H σ own D a q=>by
 obtain ⟨F',own',_,a'⟩:=a.share e
 exact k F0 Hb F' H σ own' D a' q
theorem zaB {α:Type} {tc:TT} {b:Bool} {x y:α} {r:TS} (fo:α->Oc) (h:EvT Γ tc b) (h1:b=true->Run E Γ (tSeq t r) (fo x)) (h2:b=false->Run E Γ (tSeq u r) (fo y)):Run E Γ (tSeq (zpw tc t u) r) (fo (bif b then x else y)):=λF0 Hb F H σ own D a q =>
 h F0 Hb F H σ own _ a λF' H' g=>by
  cases b with
  | true=>rw [if_pos rfl];exact h1 rfl F0 Hb F' H' σ own D (a.grow g) q
  | false=>rw [if_neg Bool.false_ne_true];exact h2 rfl F0 Hb F' H' σ own D (a.grow g) q
theorem zbM {tc:TT} {r:TS} (h:EvT Γ tc false) (h1:Run E Γ (tSeq u r) o):Run E Γ (tSeq (zpw tc t u) r) o:=λF0 Hb F H σ own D a q=>h F0 Hb F H σ own _ a λF' H' g=>by
 rw [if_neg Bool.false_ne_true];exact h1 F0 Hb F' H' σ own D (a.grow g) q
theorem zcD {tc:TT} {b:Bool} {r:TS} (G:Bool->Ctx) (h:EvT Γ tc b) (h1:b=true->Run E Γ t (.nx (G true))) (h2:b=false->Run E Γ u (.nx (G false))) (k:Run E (G b) r o):Run E Γ (tSeq (zpw tc t u) r) o:=λF0 Hb F H σ own D a q =>
 h F0 Hb F H σ own _ a λF' H' g=>by
  cases b with
  | true=>rw [if_pos rfl];exact h1 rfl F0 Hb F' H' σ own _ (a.grow g) λF H σ own a'=>k F0 Hb F H σ own D a' q
  | false=>rw [if_neg Bool.false_ne_true];exact h2 rfl F0 Hb F' H' σ own _ (a.grow g) λF H σ own a'=>k F0 Hb F H σ own D a' q
theorem zal (k:Run E Γ u o):Run E Γ (tSeq zk4 u) o:=λF0 Hb F H σ own D a q=>k F0 Hb F H σ own D a q
theorem zj7 {Δ:Ctx} (h:Run E Γ t (.nx Δ)) (k:Run E Δ u o):Run E Γ (tSeq t u) o:=λF0 Hb F H σ own D a q=>h F0 Hb F H σ own _ a λF H σ own a'=>k F0 Hb F H σ own D a' q
theorem zan {r:TS} (h:Run E Γ (tSeq t (tSeq u r)) o):Run E Γ (tSeq (tSeq t u) r) o:=λF0 Hb F H σ own D a q=>h F0 Hb F H σ own D a q
theorem zgj {F0 Hb F H:Hp} {σ:St} {own:Nat->Option Addr} (a:At F0 Hb F H σ own Γ) (e:Γ[i]?=some (.ow m ds)) :
  ∃ p vs,σ[i]?=some (some (.ref p))∧own i=some p∧F p=none∧Hb p=none∧H p=some (.lst vs)∧Paired (λv (d:Ds)=>d.pr (part m F Hb) v) vs ds:=by
 obtain ⟨p,vs,e1,e2,e3,e4,e5,e6⟩:=a.sl i _ e
 have hi:i<σ.length:=by rw [a.len];exact (List.getElem?_eq_some_iff.mp e).1
 rw [List.getElem?_eq_getElem hi] at e1
 have e':σ[i]=some (.ref p):=e1
 exact ⟨p,vs,by rw [List.getElem?_eq_getElem hi,e'],e2,e3,e4,e5,e6⟩
theorem zjk {te:TE} (e:Γ[i]?=some (.ow m ds)) (h:Ev Γ te m d) (hz:ds.length<sizeLine) (k:Run E (Γ.set i (.ow m (ds++[d]))) u o):Run E Γ (tSeq (tDrop (tBM K "list" rAppend (tVar i) (tCons te tNil))) u) o:=λF0 Hb F H σ own D a q=>by
 obtain ⟨p,vs,e1,e2,e3,e4,e5,e6⟩:=zgj a e
 refine ⟨_,e1,.inl ⟨rfl,_,SqL.of e5⟩,?_⟩
 refine h F0 Hb F H σ own _ a λv F' H' g qv=>?_
 obtain ⟨p',vs',f1,f2,f3,f4,f5,f6⟩:=zgj (a.grow g) e
 rw [e1] at f1
 cases f1
 exact ⟨p,vs',v,rfl,rfl,f5,by rw [Paired.length f6];exact hz,k F0 Hb F' _ σ own D ((a.grow g).turn e e1 (zbs f6 (.cons qv .nil))) q⟩
theorem zlr {tb:TE} {n:Bool} {j:Int} (e:Γ[i]?=some (.ow m ds)) (h2:Ev Γ tb false (dI j)) (ej:atI ds j=some d):Ev Γ (tOp (znZ K) (tVar i) tb) m d:=λF0 Hb F H σ own Q a k=>by
 obtain ⟨p,vs,e1,e2,e3,e4,e5,e6⟩:=zgj a e
 refine ⟨_,e1,h2 F0 Hb F H σ own _ a λv F' H' g qv=>?_⟩
 obtain ⟨x,ex,rx⟩:=ze9 e6 ej
 exact ⟨p,vs,j,x,rfl,qv,SqL.of (g.h _ _ e5),ex,k x F' H' g (d.up (part_up g.f) rx)⟩
theorem zkg {n:Bool} (e:Γ[i]?=some (.ow m ds)):Ev Γ (tCB (λxs H Q=>∃ p ys,xs=[.ref p]∧(SqL K H p ys∨SqT K H p ys)∧Q (.int ys.length) H) (tCons (tVar i) tNil)) n (dI ds.length):=λF0 Hb F H σ own Q a k=>by
 obtain ⟨p,vs,e1,e2,e3,e4,e5,e6⟩:=zgj a e
 exact ⟨_,e1,p,vs,rfl,.inl (SqL.of e5),k _ F H (Grow.refl a.fh) (by show V.int _=_;rw [Paired.length e6])⟩
theorem zkU {te tj:TE} {j:Int} {n:Nat} (e:Γ[i]?=some (.ow m ds)) (h:Ev Γ te m d) (hj:Ev Γ tj false (dI j)) (ej:ixN ds.length j=some n) (k:Run E (Γ.set i (.ow m (ds.set n d))) u o):Run E Γ (tSeq (zgV te (zoa (tVar i) tj zjz)) u) o:=λF0 Hb F H σ own D a q=>by
 refine h F0 Hb F H σ own _ a λv F' H' g qv=>?_
 obtain ⟨p,vs,e1,e2,e3,e4,e5,e6⟩:=zgj (a.grow g) e
 refine ⟨_,e1,hj F0 Hb F' H' σ own _ (a.grow g) λw F2 H2 g2 qw=>?_⟩
 obtain ⟨p',vs',f1,f2,f3,f4,f5,f6⟩:=zgj ((a.grow g).grow g2) e
 rw [e1] at f1
 cases f1
 exact ⟨p,vs',j,n,rfl,qw,f5,by rw [Paired.length f6];exact ej,k F0 Hb F2 _ σ own D (((a.grow g).grow g2).turn e e1 (zgs (R:=λv (d:Ds)=>d.pr (part m F2 Hb) v) (d.up (part_up g2.f) qv) n f6)) q⟩
theorem zgt {S:Type} (f:S->γ->S ⊕ β):∀ (xs:List γ) (s:S) (i:Nat) (s':S),zbi f s (xs.take i)=.inl s'->∀ x,xs[i]?=some x->zbi f s (xs.take (i+1))=f s' x
 | [],_,_,_,_,_,h=>by simp at h
 | y :: ys,s,0,s',e,x,h=>by
  simp at h;subst h
  have e':s=s':=by simpa [zbi] using e
  subst e'
  show zbi f s [y]=_
  simp only [zbi]
  cases f s y<;>rfl
 | y :: ys,s,i+1,s',e,x,h=>by
  simp only [List.take_succ_cons,zbi] at e ⊢
  cases q:f s y with
  | inl s1=>rw [q] at e;exact zgt f ys s1 i s' e x (by simpa using h)
  | inr b=>rw [q] at e;cases e
theorem loopR_more {S:Type} (f:S->γ->S ⊕ β):∀ (xs:List γ) (s:S) (i:Nat) (b:β),zbi f s (xs.take i)=.inr b->zbi f s xs=.inr b
 | [],s,i,b,e=>by simpa using e
 | y :: ys,s,0,b,e=>by simp [zbi] at e
 | y :: ys,s,i+1,b,e=>by
  simp only [List.take_succ_cons,zbi] at e ⊢
  cases q:f s y with
  | inl s1=>rw [q] at e;exact loopR_more f ys s1 i b e
  | inr b'=>rw [q] at e;exact e
def zet {S:Type} (G:S->Ctx) (res:β->Oc):S ⊕ β->Oc
 | .inl s=>.nx (G s)
 | .inr b=>res b
theorem Grow.rebase {F0 Hb F1 H1 F H:Hp} (g1:Grow F0 Hb F1 H1) (g:Grow F0 Hb F H) (e:Same F1 F):Grow F1 Hb F H :=
 ⟨e,g.fh,g.h,λa h1 h2=>g.no a h1 (g1.f.free h2)⟩
theorem Grow.unbase {F0 Hb F1 H1 F H:Hp} (g1:Grow F0 Hb F1 H1) (g:Grow F1 Hb F H):Grow F0 Hb F H :=
 ⟨g1.f.trans g.f,g.fh,g.h,λa h1 h2=>g.no a h1 (g1.no a h1 h2)⟩
theorem At.rebase {F0 Hb F1 H1 F H:Hp} {σ:St} {own:Nat->Option Addr} (g1:Grow F0 Hb F1 H1) (a:At F0 Hb F H σ own Γ) (e:Same F1 F):At F1 Hb F H σ own Γ:=⟨g1.rebase a.g e,a.inj,a.liv,a.sl,a.len⟩
theorem At.unbase {F0 Hb F1 H1 F H:Hp} {σ:St} {own:Nat->Option Addr} (g1:Grow F0 Hb F1 H1) (a:At F1 Hb F H σ own Γ):At F0 Hb F H σ own Γ:=⟨g1.unbase a.g,a.inj,a.liv,a.sl,a.len⟩
theorem zfq.rebase {F0 Hb F1 H1:Hp} {D:Ends} (g1:Grow F0 Hb F1 H1) (h:zfq E F0 Hb D o):zfq E F1 Hb D o:=by
 cases o with
 | nx Γ=>exact λF H σ own a=>h F H σ own (a.unbase g1)
 | bk Γ=>exact λF H σ own a=>h F H σ own (a.unbase g1)
 | ct Γ=>exact λF H σ own a=>h F H σ own (a.unbase g1)
 | rt m d=>exact λv F H g q=>h v F H (g1.unbase g) q
 | rl m ds=>exact λp vs F H g h1 h2 h3 q=>h p vs F H (g1.unbase g) h1 h2 h3 q
 | ex C Γ=>exact λdct F H σ own a=>h dct F H σ own (a.unbase g1)
 | rw Γ d=>exact λv F H σ own a q=>h v F H σ own (a.unbase g1) q
theorem zkM {S:Type} {wi:TI} {g:TG} {tb:TS} {js:List Nat} {xs:List γ} {bds:γ->List Ds} {mi:Bool} {s0:S} (G:S->Ctx) (res:β->Oc) (f:S->γ->S ⊕ β) (I:Nat->S->Prop) (it:Iv Γ wi g js xs bds mi) (w:Wk Γ (G s0)) (h0:I 0 s0)
  (hres:∀ (b:β) (F0 Hb:Hp) (D D':Ends),D.rt=D'.rt->zfq E F0 Hb D (res b)->zfq E F0 Hb D' (res b))
  (body:∀ (i:Nat) (x:γ) (s:S),xs[i]?=some x->I i s->(∀ s',f s x=.inl s'->I (i+1) s')∧Run E (zj2 js (bds x) mi (G s)) tb (zet G res (f s x))):Run E Γ (zoL wi g tb) (zet G res (zbi f s0 xs)):=λF0 Hb F H σ own D a q =>
 it F0 Hb F H σ own _ a λJ F1 H1 g1 ok=>by
  have gb:Grow F0 Hb F1 H1:=a.g.trans g1
  refine ⟨λi mm σ H2=>mm=xs.length-i∧i≤xs.length∧∃ s F2 own2,zbi f s0 (xs.take i)=.inl s∧I i s∧At F1 Hb F2 H2 σ own2 (G s),⟨_,rfl,Nat.zero_le _,s0,F1,own,by simp [zbi],h0,((a.grow g1).wk w).rebase gb (Same.refl _)⟩,?_⟩
  rintro i mm σ2 H2 ⟨rfl,hi,s,F2,own2,es,hI,a2⟩
  obtain ⟨hstop,hitem⟩:=ok.up a2.g.f H2 a2.fh
  by_cases hlt:i<xs.length
  ·have hx:xs[i]?=some xs[i]:=List.getElem?_eq_getElem hlt
   obtain ⟨go,yl⟩:=hitem i xs[i] hx
   obtain ⟨hI',hb⟩:=body i _ s hx hI
   have tk:=zgt f xs s0 i s es _ hx
   refine .inr ⟨go,λσ' H'=>∃ s' F3 own3,f s xs[i]=.inl s'∧At F1 Hb F3 H' σ' own3 (G s'),λσ' H' ⟨s',F3,own3,e3,a3⟩=>⟨xs.length-(i+1),by omega,rfl,hlt,s',F3,own3,by rw [tk,e3],hI' s' e3,a3⟩,λx H' y=>?_⟩
   obtain ⟨g3,bind⟩:=yl x H' y
   refine bind σ2 _ λvs hvs=>?_
   have a3:=(a2.grow g3).setMany (js:=js) hvs
   refine hb F1 Hb F2 H' _ own2 _ a3 ?_
   cases e3:f s xs[i] with
   | inl s'=>exact λF3 H3 σ3 own3 a4=>⟨s',F3,own3,rfl,a4⟩
   | inr b =>
    have:=loopR_more f xs s0 (i+1) b (by rw [tk,e3])
    rw [this] at q
    exact hres b F1 Hb D _ rfl (zfq.rebase (o:=res b) gb q)
  ·have e:i=xs.length:=by omega
   subst e
   rw [List.take_length] at es
   rw [es] at q
   exact .inl ⟨hstop,q F2 H2 σ2 own2 (a2.unbase gb)⟩
end
end L2
namespace L2
open PySem PySem.Spec PyProof.Rows
structure EqD {α:Type} [DecidableEq α] (K:W.Frag) (f:α->Ds) (n:Nat):Prop where
 eq:∀ H x y v w,(f x).pr H v->(f y).pr H w->EqV K H n v w (decide (x=y))
 inj:∀ H x y v,(f x).pr H v->(f y).pr H v->x=y
theorem EqD.int {K:W.Frag} {n:Nat}:EqD K dI n:=⟨λH x y v w h1 h2=>by
 cases h1;cases h2
 have:decide (x=y)=eqV (.int x) (.int y):=Bool.eq_iff_iff.mpr (by unfold eqV;simp)
 rw [this];exact .flat rfl rfl,λH x y v h1 h2=>by cases h1;cases h2;rfl⟩
theorem EqD.bool {K:W.Frag} {n:Nat}:EqD K dB n:=⟨λH x y v w h1 h2=>by
 cases h1;cases h2
 have:decide (x=y)=eqV (.bl x) (.bl y):=by cases x<;>cases y<;>rfl
 rw [this];exact .flat rfl rfl,λH x y v h1 h2=>by cases h1;cases h2;rfl⟩
theorem EqD.str {K:W.Frag} {n:Nat}:EqD K dS n:=⟨λH x y v w h1 h2=>by
 cases h1;cases h2
 have:decide (x=y)=eqV (.str x) (.str y):=Bool.eq_iff_iff.mpr (by unfold eqV;simp)
 rw [this];exact .flat rfl rfl,λH x y v h1 h2=>by cases h1;cases h2;rfl⟩
theorem paired_inj {α:Type} {f:α->Ds} {H:Hp} (h:∀ x y v,(f x).pr H v->(f y).pr H v->x=y):∀ {xs ys:List α} {vs:List V},Paired (λv (d:Ds)=>d.pr H v) vs (xs.map f)->Paired (λv (d:Ds)=>d.pr H v) vs (ys.map f)->xs=ys
 | [],[],_,_,_=>rfl
 | [],_ :: _,_,.nil,h2=>by cases h2
 | _ :: _,[],_,h1,.nil=>by cases h1
 | x :: xs,y :: ys,_,.cons a s,.cons b t=>by rw [h x y _ a b,paired_inj h s t]
theorem zjY {α:Type} [DecidableEq α] {xs ys:List α} (h:xs.length=ys.length):((List.range xs.length).all λj=>decide (xs[j]?=ys[j]?))=decide (xs=ys):=by
 by_cases e:xs=ys
 ·subst e;simp
 ·rw [decide_eq_false e]
  by_cases z:((List.range xs.length).all λj=>decide (xs[j]?=ys[j]?))=true
  ·exfalso
   apply e
   rw [List.all_eq_true] at z
   refine List.ext_getElem? λj=>?_
   by_cases hj:j<xs.length
   ·simpa using z j (List.mem_range.mpr hj)
   ·rw [List.getElem?_eq_none (by omega),List.getElem?_eq_none (by omega)]
  ·simpa using z
theorem zin {α:Type} [DecidableEq α] {K:W.Frag} {f:α->Ds} {n:Nat} (E:EqD K f n) {H:Hp} {xs ys:List α} {vs ws:List V} (h1:Paired (λv (d:Ds)=>d.pr H v) vs (xs.map f)) (h2:Paired (λv (d:Ds)=>d.pr H v) ws (ys.map f)) (hl:xs.length=ys.length) :
  ∀ (j:Nat) (x y:V),vs[j]?=some x->ws[j]?=some y->EqV K H n x y (decide (xs[j]?=ys[j]?)):=λj x y e1 e2=>by
 have l1:=Paired.length h1
 have l2:=Paired.length h2
 rw [List.length_map] at l1 l2
 have hj:j<vs.length:=(List.getElem?_eq_some_iff.mp e1).1
 have q1:xs[j]?=some (xs[j]'(by omega)):=List.getElem?_eq_getElem (by omega)
 have q2:ys[j]?=some (ys[j]'(by omega)):=List.getElem?_eq_getElem (by omega)
 obtain ⟨v,ev,rv⟩:=zaJ h1 (show (xs.map f)[j]?=some (f (xs[j]'(by omega))) by rw [List.getElem?_map,q1];rfl)
 obtain ⟨w,ew,rw'⟩:=zaJ h2 (show (ys.map f)[j]?=some (f (ys[j]'(by omega))) by rw [List.getElem?_map,q2];rfl)
 rw [e1] at ev;rw [e2] at ew
 cases ev;cases ew
 have:=E.eq H _ _ _ _ rv rw'
 rw [q1,q2]
 simpa using this
theorem EqD.list {α:Type} [DecidableEq α] {K:W.Frag} {f:α->Ds} {n:Nat} (E:EqD K f n):EqD K (λxs:List α=>dL (xs.map f)) (n+1):=⟨λH xs ys v w h1 h2=>by
 obtain ⟨p,vs,rfl,hp,qp⟩:=h1
 obtain ⟨q,ws,rfl,hq,qq⟩:=h2
 by_cases e:p=q
 ·subst e
  rw [hp] at hq
  cases hq
  rw [paired_inj (E.inj H) qp qq,decide_eq_true rfl]
  exact .same
 ·have l1:=Paired.length qp
  have l2:=Paired.length qq
  rw [List.length_map] at l1 l2
  by_cases hl:xs.length=ys.length
  ·rw [← zjY hl,← l1]
   exact .lists e (SqL.of hp) (SqL.of hq) (by omega) (zin E qp qq hl)
  ·have:decide (xs=ys)=false:=decide_eq_false λz=>hl (by rw [z])
   rw [this]
   exact .lens e (SqL.of hp) (SqL.of hq) (by omega),λH xs ys v h1 h2=>by
 obtain ⟨p,vs,rfl,hp,qp⟩:=h1
 obtain ⟨q,ws,e,hq,qq⟩:=h2
 cases e
 rw [hp] at hq
 cases hq
 exact paired_inj (E.inj H) qp qq⟩
theorem zgk {α:Type} [DecidableEq α] {K:W.Frag} {f:α->Ds} {n:Nat} (E:EqD K f n) {Γ:Ctx} {ta tb:TE} {m neg:Bool} {xs ys:List α} (h1:Ev Γ ta false (dQ K (xs.map f))) (h2:Ev Γ tb false (dQ K (ys.map f))) (hn:n≤50:=by decide) :
  Ev Γ (tOp (rEqL K neg) ta tb) m (dB (bif neg then !decide (xs=ys) else decide (xs=ys))):=λF0 Hb F H σ own Q a k =>
 h1 F0 Hb F H σ own _ a λu F1 H1 g1 ⟨p,vs,e1,e2,e3⟩=>h2 F0 Hb F1 H1 σ own _ (a.grow g1) λu' F2 H2 g2 ⟨q,ws,d1,d2,d3⟩=>by
  have e2':SqL K H2 p vs:=(g1.fh.trans g2.h).seq e2
  have d2':SqL K H2 q ws:=g2.fh.seq d2
  have e3':=pr_up (ds:=[]) (g1.fh.trans g2.h) e3
  have d3':=pr_up (ds:=[]) g2.fh d3
  have l1:=Paired.length e3'
  have l2:=Paired.length d3'
  rw [List.length_map] at l1 l2
  refine ⟨p,q,n,vs,ws,e1,d1,e2',d2',hn,?_⟩
  by_cases hl:xs.length=ys.length
  ·refine .inr ⟨_,by omega,zin E e3' d3' hl,k _ F2 H2 (g1.trans g2) ?_⟩
   rw [l1,zjY hl]
   cases neg<;>rfl
  ·refine .inl ⟨by omega,k _ F2 H2 (g1.trans g2) ?_⟩
   rw [show decide (xs=ys)=false from decide_eq_false λz=>hl (by rw [z])]
   cases neg<;>rfl
def startC (N:List Str) (ds:List Ds):Ctx:=ds.map (.va false)++List.replicate (N.length-ds.length) .no
def zof (n:Nat):Rs->Oc
 | .va m d=>.rt m d
 | .ow m ds=>.rl m ds
 | .ex C=>.ex C (List.replicate n .no)
theorem ziL {F H:Hp} {N:List Str} {vs:List V} {ds:List Ds} (hF:Same F H) (hv:Paired (λv (d:Ds)=>d.pr F v) vs ds):At F H F H (start N vs) (λ_=>none) (startC N ds):=by
 have hl:=Paired.length hv
 refine ⟨Grow.refl hF,λ_ _ _ h=>(nomatch h),λ_ _ h=>(nomatch h),λi s e=>?_,by unfold start startC;simp [hl]⟩
 unfold startC at e
 unfold start
 by_cases hi:i<ds.length
 ·rw [List.getElem?_append_left (by simpa using hi),List.getElem?_map] at e
  rw [List.getElem?_append_left (by simpa [hl] using hi),List.getElem?_map]
  obtain ⟨v,ev,rv⟩:=zaJ hv (List.getElem?_eq_getElem hi)
  rw [List.getElem?_eq_getElem hi] at e
  have e':Slot.va false ds[i]=s:=Option.some.inj e
  subst e'
  exact ⟨v,by rw [ev];rfl,rv⟩
 ·rw [List.getElem?_append_right (by simpa using hi),List.getElem?_replicate] at e
  split at e
  ·cases e;trivial
  ·cases e
def ResOk (H F:Hp) (Q:VK) (E:XK):Rs->Prop
 | .ex C=>∀ dct F' H',Grow F H F' H'->E (.ref C) dct H'
 | .va m d=>∀ v F' H',Grow F H F' H'->d.pr (part m F' H) v->Q v H'
 | .ow m ds=>∀ p ws F' H',Grow F H F' H'->H p=none->F' p=none->H' p=some (.lst ws)->Paired (λv (d:Ds)=>d.pr (part m F' H) v) ws ds->Q (.ref p) H'
theorem zkL {E:XK} {F H:Hp} {N:List Str} {vs:List V} {ds:List Ds} {Q:VK} {t:TS} {r:Rs} (hF:Same F H) (hv:Paired (λv (d:Ds)=>d.pr F v) vs ds) (hq:ResOk H F Q E r) (h:Run (λ_=>E) (startC N ds) t (zof N.length r)):t { nx:=λ_ H'=>Q .non H',rt:=Q } (start N vs) H:=by
 refine h F H F H _ _ _ (ziL hF hv) ?_
 cases r with
 | va m d=>exact λv F' H' g q=>hq v F' H' g q
 | ow m ds=>exact λp ws F' H' g h1 h2 h3 q=>hq p ws F' H' g h1 h2 h3 q
 | ex C=>exact λdct F' H' σ own a=>hq dct F' H' a.g
theorem zit {E:XK} {F H:Hp} {N:List Str} {vs:List V} {ds:List Ds} {Q:VK} {t:TS} {m:Bool} {Δ:Ctx} (hF:Same F H) (hv:Paired (λv (d:Ds)=>d.pr F v) vs ds) (hq:ResOk H F Q E (.va m dN)) (h:Run (λ_=>E) (startC N ds) t (.nx Δ)):t { nx:=λ_ H'=>Q .non H',rt:=Q } (start N vs) H :=
 h F H F H _ _ _ (ziL hF hv) λF' H' σ own a=>hq _ F' H' a.g rfl
section
variable {P:Program} {w:World} {K:W.Frag} {mg:Str->Option Value} {base:Heap} {x qual:Str} {st:Stmt} {f:Addr} {fd:FuncData} {N ps:List Str} {k:Nat}
theorem Fun.okV {ι:Type} {args:ι->List Ds} {pre:ι->Prop} {res:ι->Rs} (F:Fun K x qual st f fd) (S:FnScope N ps (defScope st)) (hl:∀ i,(args i).length=ps.length)
  (hbody:∀ (cdv:Value) (A:Around) (outer:List Env) (s:Shared) (H:Hp) (E:XK) (i:ι),Room k (A.deeper (envOfC qual (defScope st) s.heap.objs.size f cdv))->pre i →
   ∃ t,PSs (zih (CXE P w) P w K mg base N qual (defScope st) f cdv A outer s H E).nox (zaq st) t∧(Run (λ_=>E) (startC N (args i)) t (zof N.length (res i))∨∃ m Δ,res i=.va m dN∧Run (λ_=>E) (startC N (args i)) t (.nx Δ))):FnOk P w K mg base (CXE P w) (k+1) f fd ps (Spv args pre res):=by
 refine F.okX S (λvs H Q E ⟨i,F',_,hv,_⟩=>by rw [Paired.length hv];exact hl i) λcdv A outer s H vs Q E hr ⟨i,F',hF,hv,hp,hq⟩=>?_
 obtain ⟨t,h1,h2⟩:=hbody cdv A outer s H E i hr hp
 have hq':ResOk H F' Q E (res i):=by
  cases e:res i with
  | va m d=>rw [e] at hq;exact hq
  | ow m ds=>rw [e] at hq;exact hq
  | ex C=>rw [e] at hq;exact hq
 refine ⟨_,zhv h1,?_⟩
 rcases h2 with h2 | ⟨m,Δ,e,h2⟩
 ·exact zkL hF hv hq' h2
 ·rw [e] at hq'
  exact zit hF hv hq' h2
end
def putD (f:Str) (d:Ds):List (Str×Ds)->List (Str×Ds)
 | []=>[(f,d)]
 | (g,x) :: r=>if g=f then (g,d) :: r else (g,x) :: putD f d r
theorem zgp {R:V->Ds->Prop} {f:Str} {v:V} {d:Ds} (h:R v d):∀ {vs:List (Str×V)} {fs:List (Str×Ds)},Paired (λ(a:Str×V) (b:Str×Ds)=>a.1=b.1∧R a.2 b.2) vs fs->Paired (λ(a:Str×V) (b:Str×Ds)=>a.1=b.1∧R a.2 b.2) (putF f v vs) (putD f d fs)
 | _,_,.nil=>.cons ⟨rfl,h⟩ .nil
 | _,_,.cons (a:=(x,u)) (b:=(y,e)) ⟨h1,h2⟩ t=>by
  have h1:x=y:=h1
  subst h1
  unfold putF putD
  split
  ·exact .cons ⟨rfl,h⟩ t
  ·exact .cons ⟨rfl,h2⟩ (zgp h t)
theorem znO {Γ:Ctx} {i:Nat} {m:Bool} {C p dx:Addr} {fs:List (Str×Ds)} {K:W.Frag} {tv:TE} {d:Ds} {f:Str} {u:TS} {o:Oc} {E:XS} (e:Γ[i]?=some (.ob m C p dx fs)) (h:Ev Γ tv m d) (c:Cls K C) (nf:NoAttr K C f) (hz:fs.length<1000) (k:Run E (Γ.set i (.ob m C p dx (putD f d fs))) u o):Run E Γ (tSeq (zpR K (tVar i) tv f) u) o:=λF0 Hb F H σ own D a q=>by
 refine h F0 Hb F H σ own _ a λv F' H' g qv=>?_
 have a':=a.grow g
 obtain ⟨vs,e1,e2,e3,e4,e5,e6⟩:=a'.sl i _ e
 have hi:i<σ.length:=by rw [a.len];exact (List.getElem?_eq_some_iff.mp e).1
 rw [List.getElem?_eq_getElem hi] at e1
 have e':σ[i]=some (.ref p):=e1
 have ei:σ[i]?=some (some (.ref p)):=by rw [List.getElem?_eq_getElem hi,e']
 exact ⟨_,ei,p,C,dx,vs,rfl,e5.1,c,nf,by rw [Paired.length e6];exact hz,k F0 Hb F' _ σ own D (a'.turnOb e (zgp (R:=λv (d:Ds)=>d.pr (part m F' Hb) v) qv e6)) q⟩
def zpV {ι:Type} (C:Addr) (args:ι->List Ds) (pre:ι->Prop) (m:Bool) (fs:ι->List (Str×Ds)):Sp:=λvs H Q _=>∃ (i:ι) (p dx:Addr) (ws:List V) (H1 F:Hp),vs=.ref p :: ws∧H1 p=none∧H1 dx=none∧dx≠p∧H=upd (upd H1 dx (.own p)) p (.ins C dx [])∧Same F H1 ∧
 Paired (λv (d:Ds)=>d.pr F v) ws (args i)∧pre i∧∀ us F' H',Grow F H1 F' H'->F' p=none->F' dx=none->H' p=some (.ins C dx us)->H' dx=some (.own p)->Paired (λ(a:Str×V) (b:Str×Ds)=>a.1=b.1∧b.2.pr (part m F' H1) a.2) us (fs i)->Q .non H'
def startI (m:Bool) (C p dx:Addr) (N:List Str) (ds:List Ds):Ctx:=.ob m C p dx [] :: (ds.map (.va false)++List.replicate (N.length-(ds.length+1)) .no)
section
variable {P:Program} {w:World} {K:W.Frag} {mg:Str->Option Value} {base:Heap} {x qual:Str} {st:Stmt} {f:Addr} {fd:FuncData} {N ps:List Str} {k:Nat}
theorem zkC {m:Bool} {F H1:Hp} {C p dx:Addr} {N:List Str} {ws:List V} {ds:List Ds} (hF:Same F H1) (hv:Paired (λv (d:Ds)=>d.pr F v) ws ds) (h1:H1 p=none) (h2:H1 dx=none) (h3:dx≠p) :
  At F H1 F (upd (upd H1 dx (.own p)) p (.ins C dx [])) (start N (.ref p :: ws)) (λi=>if i=0 then some p else none) (startI m C p dx N ds):=by
 have hl:=Paired.length hv
 have n1:upd H1 dx (.own p) p=none:=by rw [upd_ne (Ne.symm h3)];exact h1
 have g:Grow F H1 F (upd (upd H1 dx (.own p)) p (.ins C dx [])):=((Grow.refl hF).newH h2).newH n1
 refine ⟨g,λi j q e1 e2=>?_,λi q e=>?_,λi s e=>?_,?_⟩
 ·split at e1
  ·split at e2
   ·omega
   ·cases e2
  ·cases e1
 ·split at e
  ·cases e;rw [upd_same];simp
  ·cases e
 ·cases i with
  | zero =>
   have e':Slot.ob m C p dx []=s:=Option.some.inj e
   subst e'
   exact ⟨[],rfl,rfl,⟨hF.free h1,hF.free h2⟩,⟨h1,h2⟩,⟨upd_same,by rw [upd_ne h3];exact upd_same⟩,.nil⟩
  | succ i =>
   have e:(ds.map (Slot.va false)++List.replicate (N.length-(ds.length+1)) Slot.no)[i]?=some s:=e
   show zeS H1 F _ _ _ ((ws.map some++List.replicate (N.length-(ws.length+1)) none)[i]?).join s
   by_cases hi:i<ds.length
   ·rw [List.getElem?_append_left (by simpa using hi),List.getElem?_map] at e
    rw [List.getElem?_append_left (by simpa [hl] using hi),List.getElem?_map]
    obtain ⟨v,ev,rv⟩:=zaJ hv (List.getElem?_eq_getElem hi)
    rw [List.getElem?_eq_getElem hi] at e
    have e':Slot.va false ds[i]=s:=Option.some.inj e
    subst e'
    exact ⟨v,by rw [ev];rfl,rv⟩
   ·rw [List.getElem?_append_right (by simpa using hi),List.getElem?_replicate] at e
    split at e
    ·cases e;trivial
    ·cases e
 ·unfold start startI;simp [hl]
theorem Fun.okI {ι:Type} {C:Addr} {args:ι->List Ds} {pre:ι->Prop} {m:Bool} {fs:ι->List (Str×Ds)} (F:Fun K x qual st f fd) (S:FnScope N ps (defScope st)) (hl:∀ i,(args i).length+1=ps.length)
  (hbody:∀ (cdv:Value) (A:Around) (outer:List Env) (s:Shared) (H:Hp) (E:XK) (i:ι),Room k (A.deeper (envOfC qual (defScope st) s.heap.objs.size f cdv))->pre i →
   ∃ t,PSs (zih (CXE P w) P w K mg base N qual (defScope st) f cdv A outer s H E).nox (zaq st) t∧∀ p dx,∃ Δ,Run (λ_=>E) (startI m C p dx N (args i)) t (.nx Δ)∧Δ[0]?=some (.ob m C p dx (fs i))):FnOk P w K mg base (CXE P w) (k+1) f fd ps (zpV C args pre m fs):=by
 refine F.okX S (λvs H Q E ⟨i,p,dx,ws,H1,F',e,_,_,_,_,_,hv,_⟩=>by rw [e,List.length_cons,Paired.length hv];exact hl i) λcdv A outer s H vs Q E hr ⟨i,p,dx,ws,H1,F',e,h1,h2,h3,h4,hF,hv,hp,hq⟩=>?_
 subst e h4
 obtain ⟨t,t1,t2⟩:=hbody cdv A outer s _ E i hr hp
 obtain ⟨Δ,t2,t3⟩:=t2 p dx
 refine ⟨_,zhv t1,?_⟩
 refine t2 F' H1 F' _ _ _ _ (zkC hF hv h1 h2 h3) λF2 H2 σ2 own2 a2=>?_
 obtain ⟨us,e1,e2,e3,e4,e5,e6⟩:=a2.sl 0 _ t3
 exact hq us F2 H2 a2.g e3.1 e3.2 e5.1 e5.2 e6
end
section
variable {Γ:Ctx} {K:W.Frag} {ds:List Ds} {tr:TA} {E:XK}
theorem zno {ι:Type} {C:Addr} {args:ι->List Ds} {pre:ι->Prop} {m:Bool} {fs:ι->List (Str×Ds)} (i:ι) (h:EvA Γ tr false ds) (ha:ds=args i) (hp:pre i):Ev Γ (zod C (zpV C args pre m fs) [] E tr) m (dO C (fs i)):=λF0 Hb F H σ own Q a k=>by
 subst ha
 refine h F0 Hb F H σ own _ a λvs F1 H1 g1 q1 p dx h1 h2 h3=>⟨i,p,dx,vs,H1,F1,by rw [List.append_nil],h1,h2,h3,rfl,g1.fh,q1,hp,λus F' H' g n1 n2 e1 e2 e3=>⟨rfl,?_⟩⟩
 have g2:=g1.trans g
 obtain ⟨p0,_,pb⟩:=a.free g1 h1
 obtain ⟨d0,_,db⟩:=a.free g1 h2
 have g3:=(g2.take p0 e1).take d0 e2
 have s1:Same F' (upd F' p (.ins C dx us)):=Same.new n1 _
 have n3:upd F' p (.ins C dx us) dx=none:=by rw [upd_ne h3];exact n2
 have s2:Same F' (upd (upd F' p (.ins C dx us)) dx (.own p)):=s1.trans (Same.new n3 _)
 refine k _ _ _ g3 ⟨p,dx,us,rfl,zen pb (by rw [upd_ne (Ne.symm h3)];exact upd_same),zen db upd_same,?_⟩
 exact paired_imp (λ_ b q=>⟨q.1,b.2.up ((part_old (a.g.h.trans g1.h)).trans (part_up s2)) q.2⟩) e3
end
end L2
namespace L2
open PySem PySem.Spec PyProof.Rows
def Ite (K:W.Frag) (a:Addr):It :=
 ⟨λi H=>∃ xs x,SqL K H a xs∧xs[i]?=some x,
  λi H v H'=>∃ p x,v=.ref p∧H p=none∧H'=upd H p (.tup [.int (i:Int),x])∧∀ xs,SqL K H a xs->xs[i]?=some x,
  λi H=>∃ xs,SqL K H a xs∧xs.length≤i⟩
theorem zj1 {P:Program} {w:World} {K:W.Frag} {elts:List Expr} {x1:Nat} {tp:Pos} {a e it:Addr} (hne:e≠it) :
  Turn P w K (.Tuple elts x1 tp) (Ite K a) [e,it] e (λi h=>(∃ old,IsEnum h e it (i:Int) old)∧h.IsListIter it a i) where
 mem:=by simp
 obj:=λi h st c hc=>by
  obtain ⟨⟨old,he⟩,⟨o1,e1,_,d1⟩⟩:=st
  simp only [List.mem_cons,List.not_mem_nil,or_false] at hc
  rcases hc with rfl | rfl
  ·exact ⟨_,he,λv z=>by cases z⟩
  ·exact ⟨o1,e1,λv z=>by rw [d1] at z;cases z⟩
 keep:=λi h h' st k=>by
  obtain ⟨⟨old,he⟩,h1⟩:=st
  exact ⟨⟨old,k e (by simp) _ he⟩,h1.at λo q=>k it (by simp) o q⟩
 item:=by
  intro X hP hw hK hc i pins s σ H E I hf st hg
  subst hP hw hK
  obtain ⟨xs,x,hxs,hx⟩:=hg
  obtain ⟨itx,rx,px,hzx⟩:=I.list hxs
  obtain ⟨u,hu,ru⟩:=rx.get hx
  obtain ⟨⟨old,he⟩,h1⟩:=st
  refine wpAny_pyNext_enum_item (x:=u) he h1 px.isList (by simpa using hu) hne λh' a1 a2 a3 a4 hk=>?_
  refine ⟨_,rfl,wpAny_letOwnedTupleGo_enum a1 λh'' b1 b2=>?_⟩
  have elt:e<s.heap.objs.size:=Heap.lt_size he
  have itl:it<s.heap.objs.size:=by obtain ⟨_,q,_⟩:=h1;exact Heap.lt_size q
  have tup:h''.get? s.heap.objs.size=some { cls:=.type "tuple",data:=.seq #[.int i s.toks,u] }:=b2.extBut _ _ (Nat.ne_of_gt elt) a3
  have I1:Inv X pins σ (upd H s.heap.objs.size (.tup [.int (i:Int),x])) { s with heap:=h'',toks:=s.toks+1 }:=by
   refine I.turnedNew (t':=s.toks+1) (ch:=[e,it]) (λc hc=>hf c hc) (λc ob hc q=>?_) (Nat.le_refl _) ?_
   ·simp only [List.mem_cons,List.not_mem_nil,or_false,not_or] at hc
    exact b2.extBut _ _ hc.1 (hk c ob hc.1 hc.2 q)
   ·exact ⟨by show 2≤sizeLine;decide,[.int i s.toks,u],.cons ⟨_,rfl⟩ (.cons ru .nil),⟨_,tup,rfl,_,rfl⟩⟩
  refine ⟨.ref s.heap.objs.size,_,I1,rfl,⟨_,x,rfl,I.hok.fresh (Nat.le_refl _),rfl,λxs' q1=>?_⟩,⟨⟨u,?_⟩,a2.extBut b2.extBut (Ne.symm hne)⟩,λc hc=>?_⟩
  ·rw [I.list_inj q1 hxs];exact hx
  ·exact b1
  ·have:c≠s.heap.objs.size:=by
    simp only [List.mem_cons,List.not_mem_nil,or_false] at hc
    rcases hc with rfl | rfl
    ·exact Nat.ne_of_lt elt
    ·exact Nat.ne_of_lt itl
   rw [upd_ne this];exact (hf c hc).1
 done:=by
  intro X hP hw hK hc i pins s σ H E I hf st hg
  subst hP hw hK
  obtain ⟨xs,hxs,hend⟩:=hg
  obtain ⟨itx,rx,px,hzx⟩:=I.list hxs
  obtain ⟨⟨old,he⟩,h1⟩:=st
  have lx:=rx.length
  refine wpAny_pyNext_enum_end (I.ok.hd hc) he h1 px.isList (by simp;omega) λh' hk=>⟨rfl,?_⟩
  refine I.turnedL (t':=s.toks) (ch:=[e,it]) (λc hc=>hf c hc) (λc ob hc q=>?_)
  simp only [List.mem_cons,List.not_mem_nil,or_false,not_or] at hc
  exact hk c ob hc.2 q
 self:=λ_ _ _ _ _ st h=>by obtain ⟨⟨old,he⟩,_⟩:=st;exact wpAny_pyIter_enum he h
section
variable {X:Cx} {K:W.Frag}
def zoM (K:W.Frag) (ta:TA):TI:=λσ H R=>ta σ H λvs H1=>∃ a,vs=[.ref a]∧(∃ xs,SqL K H1 a xs)∧R (Ite K a) H1
theorem zgB {a:Expr} {ta:TA} {p pos tp:Pos} {elts:List Expr} {x1:Nat} (hK:X.K=K) (hg:Gl X "enumerate") (hm:X.mg "enumerate"=none) (ha:PA X [a] ta) (hs:starEach [a] X.env=[(false,eval a X.env)]:=by rfl) :
  PI X (.Tuple elts x1 tp) (.Call (.Name "enumerate" p) [a] [] pos) (zoM K ta):=by
 subst hK
 intro pins s σ H R I h
 refine Call_ (ld_blt I hg hm boot_enumerate (PyProof.Rows.callWith_type1 (thn (ha pos pins s σ H _ I h) λus s1 ⟨vs,H1,I1,r1,q1⟩=>?_) (by rw [hs];rfl) rfl))
 obtain ⟨l,e,⟨xs,hx⟩,q⟩:=q1
 subst e
 cases r1 with
 | cons r rr =>
  cases rr
  cases r
  obtain ⟨itx,rx,px,hzx⟩:=I1.list hx
  refine call_enumerate_list px.isList λh' he h1 hsz hk=>wpAny_pyIter_enum he ?_
  have hne:(s1.heap.objs.size+1:Nat)≠s1.heap.objs.size:=by omega
  refine ⟨s1.heap.objs.size+1,[s1.heap.objs.size+1,s1.heap.objs.size],_,Ite X.K l,H1,rfl,I1.kept (t':=s1.toks) hk,zj1 hne,⟨⟨_,he⟩,h1⟩,λc hc=>?_,q⟩
  have hle:@LE.le Nat _ s1.heap.objs.size c:=by
   simp only [List.mem_cons,List.not_mem_nil,or_false] at hc
   rcases hc with rfl | rfl<;>omega
  exact I1.fpOk hle (I1.hok.fresh hle)
end
def Itv (K:W.Frag) (a:Addr) (n:Nat):It :=
 ⟨λi H=>i<n∧∃ xs x,SqL K H a xs∧xs.length=n∧xs[n-1-i]?=some x,λi H x H'=>H'=H∧∀ xs,SqL K H a xs->xs[n-1-i]?=some x,λi _=>i=n⟩
theorem zl8 {P:Program} {w:World} {K:W.Frag} {tg:Expr} (a it:Addr) (n:Nat):Turn P w K tg (Itv K a n) [it] it (λi h=>h.IsRevIter it a ((n:Int)-1-(i:Int))) where
 mem:=by simp
 obj:=λi h st b hb=>by
  have e:b=it:=by simpa using hb
  subst e
  obtain ⟨o,e,c,d⟩:=st
  exact ⟨o,e,λv z=>by rw [d] at z;cases z⟩
 keep:=λi h h' st k=>st.at λo e=>k it (by simp) o e
 item:=by
  intro X hP hw hK hc i pins s σ H E I hf st hg
  subst hP hw hK
  obtain ⟨hi,xs,x,hq,hn,hx⟩:=hg
  obtain ⟨its,rv,p,hz⟩:=I.list hq
  obtain ⟨u,hu,ru⟩:=rv.get hx
  obtain ⟨f0,f1,f2,f3,f4,f5⟩:=hf it (by simp)
  have e1:(n:Int)-1-(i:Int)=((n-1-i:Nat):Int):=by omega
  have e2:((n-1-i:Nat):Int)-1=(n:Int)-1-((i+1:Nat):Int):=by omega
  rw [e1] at st
  refine wpAny_pyNext_rev_item st p.isList (x:=u) (by simpa using hu) λh' st' sb=>?_
  rw [e2] at st'
  have I1:Inv X pins σ H { s with heap:=h' }:=I.turned (t':=s.toks) (λb o hb e=>(sb.2 b hb).trans e) f0 f1 f3 f4 f5
  obtain ⟨o,e,c,d⟩:=id st'
  exact ⟨u,rfl,zmP (s:={ s with heap:=h' }) e c d (by decide) ⟨x,H,I1,ru,⟨rfl,λys hy=>by rw [I.list_inj hy hq];exact hx⟩,st',λb hb=>(hf b hb).1⟩⟩
 done:=by
  intro X hP hw hK hc i pins s σ H E I hf st hg
  subst hP hw hK
  have hg:i=n:=hg
  subst hg
  obtain ⟨f0,f1,f2,f3,f4,f5⟩:=hf it (by simp)
  have e1:(i:Int)-1-(i:Int)=-1:=by omega
  rw [e1] at st
  exact wpAny_pyNext_rev_end (I.ok.hd hc) st λh' eb=>⟨rfl,I.turned (t':=s.toks) (λb o hb e=>eb b o hb e) f0 f1 f3 f4 f5⟩
 self:=λ_ _ _ _ _ st h=>wpAny_pyIter_revIter st h
section
variable {X:Cx} {K:W.Frag}
def zqp (K:W.Frag) (ta:TA):TI:=λσ H R=>ta σ H λvs H1=>∃ a xs,vs=[.ref a]∧SqL K H1 a xs∧R (Itv K a xs.length) H1
theorem zov {a tg:Expr} {ta:TA} {p pos:Pos} (hK:X.K=K) (hg:Gl X "reversed") (hm:X.mg "reversed"=none) (ha:PA X [a] ta) (hs:starEach [a] X.env=[(false,eval a X.env)]:=by rfl) :
  PI X tg (.Call (.Name "reversed" p) [a] [] pos) (zqp K ta):=by
 subst hK
 intro pins s σ H R I h
 refine Call_ (ld_blt I hg hm boot_reversed (PyProof.Rows.callWith_type1 (thn (ha pos pins s σ H _ I h) λus s1 ⟨vs,H1,I1,r1,q1⟩=>?_) (by rw [hs];rfl) rfl))
 obtain ⟨l,xs,e,hx,q⟩:=q1
 subst e
 cases r1 with
 | cons r rr =>
  cases rr
  cases r
  obtain ⟨itx,rx,px,hzx⟩:=I1.list hx
  have hl:=rx.length
  refine call_reversed_list px.isList ?_
  have ho:=Heap.get?_push_size s1.heap (o:=revObj l ((itx.toArray.size:Int)-1)) rfl
  have st:(s1.heap.push (revObj l ((itx.toArray.size:Int)-1))).IsRevIter s1.heap.objs.size l ((xs.length:Int)-1-((0:Nat):Int)):=⟨_,ho,rfl,by rw [List.size_toArray,← hl];simp [revObj]⟩
  refine wpAny_pyIter_revIter st ?_
  refine ⟨s1.heap.objs.size,[s1.heap.objs.size],_,Itv X.K l xs.length,H1,rfl,I1.kept (t':=s1.toks) (λb o e=>Heap.get?_push_of_some _ e),zl8 l s1.heap.objs.size xs.length,st,λc hc=>?_,q⟩
  have hle:@LE.le Nat _ s1.heap.objs.size c:=by
   simp only [List.mem_cons,List.not_mem_nil,or_false] at hc
   rw [hc];exact Nat.le_refl _
  exact I1.fpOk hle (I1.hok.fresh hle)
theorem zjI (hK:X.K=K) (hc:X.calm=true):zfe X (.builtin "any") (λxs H Q=>∃ (a:Addr) (ns:List Int),xs=[.ref a]∧SqL K H a (ns.map V.int)∧Q (.bl (ns.any (· != 0))) H):=by
 subst hK
 intro pins s σ H xs us Q I r h
 obtain ⟨a,bs,rfl,hq,q⟩:=h
 obtain ⟨u,rfl,rx⟩:=zkl r
 cases rx
 obtain ⟨its,rv,p,hz⟩:=I.list hq
 have hl:=rv.length
 rw [List.length_map] at hl
 have alt:a<s.heap.objs.size:=by obtain ⟨o,e,_⟩:=p.isList;exact Heap.lt_size e
 have hl1:(s.heap.push { cls:=.type "list_iterator",data:=.fields #[.ref a,.int 0 0] }).IsList a its.toArray:=Heap.IsList.push p.isList _
 refine call_any_walk (wpAny_pyIter_list p.isList ?_)
 refine ⟨s.heap.objs.size,[s.heap.objs.size,a],[s.heap.objs.size],its.toArray.size,_,_,λi=>(bs[i]?).getD 0 != 0,rfl,Walks.list (A:=X.A.in1) (I.ok.hd hc) s.heap.objs.size a (Nat.ne_of_lt alt) its.toArray,⟨⟨_,Heap.get?_push_size _ rfl,rfl,rfl⟩,hl1⟩,λi v s' Q' E' hv hQ'=>?_,λh' tk hk=>?_⟩
 ·have hv':its[i]?=some v:=by simpa using hv
  have hi:i<its.length:=(List.getElem?_eq_some_iff.mp hv').1
  obtain ⟨u,hu,ru⟩:=rv.get (i:=i) (x:=.int (bs[i]'(by omega))) (by rw [List.getElem?_map,List.getElem?_eq_getElem (by omega)];rfl)
  rw [hv'] at hu
  cases hu
  obtain ⟨t,rfl⟩:=ru
  have e:(bs[i]?).getD 0=bs[i]'(by omega):=by rw [List.getElem?_eq_getElem (show i<bs.length by omega)];rfl
  have hQ2:Q' ((bs[i]?).getD 0 != 0) s':=hQ'
  rw [e] at hQ2
  exact PySem.P.truthy_int hQ2
 ·have e:(List.range its.toArray.size).any (λi=>(bs[i]?).getD 0 != 0)=bs.any (· != 0):=by
   rw [List.size_toArray,← hl,Bool.eq_iff_iff,List.any_eq_true,List.any_eq_true]
   constructor
   ·rintro ⟨i,hi,z⟩
    have hi':=List.mem_range.mp hi
    rw [List.getElem?_eq_getElem hi'] at z
    exact ⟨_,List.getElem_mem hi',z⟩
   ·rintro ⟨x,hx,z⟩
    obtain ⟨i,hi,rfl⟩:=List.getElem_of_mem hx
    exact ⟨i,List.mem_range.mpr hi,by rw [List.getElem?_eq_getElem hi];exact z⟩
  rw [e]
  exact ⟨.bl _,H,I.kept (h':=h') (t':=tk) λb o e=>hk b o (by simp only [List.mem_singleton];exact Nat.ne_of_lt (Heap.lt_size e)) (Heap.get?_push_of_some _ e),rfl,q⟩
end
section
variable {Γ:Ctx} {m:Bool} {K:W.Frag} {γ:Type}
def zdI {α:Type} (xs:List α):List (Int×α):=(zaW 0 xs.length).zip xs
theorem zfK {α:Type} {xs:List α}:(zdI xs).length=xs.length:=by simp [zdI,List.length_zip,zaC]
theorem zcQ {α:Type} {xs:List α} {i:Nat} {p:Int×α} (h:(zdI xs)[i]?=some p):i<xs.length∧p.1=i∧xs[i]?=some p.2:=by
 obtain ⟨h1,h2⟩:=zcv h
 obtain ⟨h3,h4⟩:=zbf h1
 exact ⟨h3,by rw [h4];omega,h2⟩
theorem zgv {tl:TE} {j1 j2:Nat} {xs:List γ} (f:γ->Ds) (h:Ev Γ tl m (dQ K (xs.map f))) :
  Iv Γ (zoM K (tCons tl tNil)) (zly K 2 (zdM (zbx j1) (zdM (zbx j2) zms))) [j1,j2] (zdI xs) (λx=>[dI x.1,f x.2]) m:=λF0 Hb F H σ own R a k =>
 h F0 Hb F H σ own _ a λu F1 H1 g1 ⟨p,vs,e1,e2,e3⟩=>by
  have e2':SqL K F1 p vs:=part_sub.seq e2
  have le:=Paired.length e3
  rw [List.length_map] at le
  refine ⟨p,by rw [e1],⟨vs,g1.fh.seq e2'⟩,k _ F1 H1 g1 λH hs=>⟨⟨vs,hs.seq e2',by rw [le,zfK];exact Nat.le_refl _⟩,λi x ex=>?_⟩⟩
  obtain ⟨hi,x1,x2⟩:=zcQ ex
  obtain ⟨v,ev,qv⟩:=zaJ e3 (show (xs.map f)[i]?=some (f x.2) by rw [List.getElem?_map,x2];rfl)
  refine ⟨⟨vs,v,hs.seq e2',ev⟩,λz H' y=>?_⟩
  obtain ⟨r,x',rfl,hr,rfl,hxy⟩:=y
  have hx:=hxy vs (hs.seq e2')
  rw [ev] at hx
  cases hx
  exact ⟨(Grow.refl hs).newH hr,λσ Q k=>⟨r,_,rfl,.inl (.inl upd_same),rfl,_,_,rfl,_,_,rfl,rfl,k [.int i,v] (.cons (by show V.int _=V.int _;rw [x1]) (.cons qv .nil))⟩⟩
theorem zoi {tl:TE} {j:Nat} {xs:List γ} (f:γ->Ds) (h:Ev Γ tl m (dQ K (xs.map f))):Iv Γ (zqp K (tCons tl tNil)) (zbx j) [j] xs.reverse (λx=>[f x]) m:=λF0 Hb F H σ own R a k =>
 h F0 Hb F H σ own _ a λu F1 H1 g1 ⟨p,vs,e1,e2,e3⟩=>by
  have e2':SqL K F1 p vs:=part_sub.seq e2
  have le:=Paired.length e3
  rw [List.length_map] at le
  refine ⟨p,vs,by rw [e1],g1.fh.seq e2',k _ F1 H1 g1 λH hs=>⟨by show xs.reverse.length=vs.length;rw [List.length_reverse,le],λi x ex=>?_⟩⟩
  have hi:i<xs.length:=by simpa using (List.getElem?_eq_some_iff.mp ex).1
  rw [List.getElem?_reverse hi] at ex
  obtain ⟨v,ev,qv⟩:=zaJ e3 (show (xs.map f)[xs.length-1-i]?=some (f x) by rw [List.getElem?_map,ex];rfl)
  rw [← le] at ev
  refine ⟨⟨by rw [le];exact hi,vs,v,hs.seq e2',rfl,ev⟩,λw H' y=>?_⟩
  obtain ⟨rfl,y⟩:=y
  have:=y vs (hs.seq e2')
  rw [ev] at this
  cases this
  exact ⟨Grow.refl hs,λσ Q k=>k [v] (.cons qv .nil)⟩
theorem zpk {xs:List Int} {t:TE} (h1:Ev Γ t false (dQ K (xs.map dI))):Ev Γ (tCB (λxs H Q=>∃ (a:Addr) (ns:List Int),xs=[.ref a]∧SqL K H a (ns.map V.int)∧Q (.bl (ns.any (· != 0))) H) (tCons t tNil)) m (dB (xs.any (· != 0))):=λF0 Hb F H σ own Q a k =>
 h1 F0 Hb F H σ own _ a λu F1 H1 g1 ⟨p,vs,e1,e2,e3⟩=>⟨p,xs,by rw [e1],by rw [← zfY e3];exact g1.fh.seq e2,k _ F1 H1 g1 rfl⟩
end
end L2
namespace L2
open PySem PySem.Spec PyProof.Rows
theorem Ev.any {Γ:Ctx} {t:TE} {m n:Bool} {v:V} (h:Ev Γ t m (dV v)):Ev Γ t n (dV v):=λF0 Hb F H σ own Q a k=>h F0 Hb F H σ own Q a λu F' H' g q=>k u F' H' g q
theorem zki {α:Type} {R R':Hp} {g:α->V} {vs:List V} {xs:List α} (h:Paired (λv (d:Ds)=>d.pr R v) vs (xs.map λx=>dV (g x))):Paired (λv (d:Ds)=>d.pr R' v) vs (xs.map λx=>dV (g x)):=by
 rw [zfY h]
 clear h
 induction xs with
 | nil=>exact .nil
 | cons x xs ih=>exact .cons rfl ih
theorem EvO.anyV {Γ:Ctx} {t:TE} {m n:Bool} {α:Type} {g:α->V} {xs:List α} (h:EvO Γ t m (xs.map λx=>dV (g x))):EvO Γ t n (xs.map λx=>dV (g x)):=λF0 Hb F H σ own Q a k=>h F0 Hb F H σ own Q a λp vs F' H' g h1 h2 h3 q=>k p vs F' H' g h1 h2 h3 (zki q)
theorem EvO.anyI {Γ:Ctx} {t:TE} {m n:Bool} {xs:List Int} (h:EvO Γ t m (xs.map dI)):EvO Γ t n (xs.map dI):=EvO.anyV h
theorem EvO.anyB {Γ:Ctx} {t:TE} {m n:Bool} {xs:List Bool} (h:EvO Γ t m (xs.map dB)):EvO Γ t n (xs.map dB):=EvO.anyV h
theorem EvO.anyS {Γ:Ctx} {t:TE} {m n:Bool} {xs:List Str} (h:EvO Γ t m (xs.map dS)):EvO Γ t n (xs.map dS):=EvO.anyV h
section
variable {X:Cx}
def zdH (i j:Int):Prop:=(-(2^64)<i∧i<2^64)∨(-(2^64)<j∧j<2^64)∨(i.natAbs.log2<60000000∧j.natAbs.log2<60000000)
theorem zk0 {a b:Int} (ha:Builtin.Int.intBits a≤60000000) (hb:Builtin.Int.intBits b≤60000000):IntMulOk a b:=by
 have h:Builtin.Int.intTooBig (Builtin.Int.intBits a+Builtin.Int.intBits b)=false:=by
  unfold Builtin.Int.intTooBig bitsLine
  exact decide_eq_false (by omega)
 unfold IntMulOk
 rw [h]
 simp
theorem zbb:OpR X (binaryOp .Mult) (rI zdH λi j=>.int (i*j)):=opI λ_ _ _ _ _ _ _ hc q=>mul_int q (by
 rcases hc with h | h | h
 ·exact .of_left (intBits_le_64 h.1 h.2)
 ·exact .of_right (intBits_le_64 h.1 h.2)
 ·exact zk0 (zkw h.1) (zkw h.2))
end
def ixD {α:Type} [Inhabited α] (xs:List α) (i:Int):α:=(atI xs i).getD default
def InB (n:Nat) (i:Int):Prop:=-(n:Int)≤i∧i<n
theorem zhl {n:Nat} {i:Int} (h:InB n i):∃ j,ixN n i=some j∧j<n∧(0≤i->j=i.toNat):=by
 unfold InB at h
 unfold ixN
 by_cases h0:0≤i
 ·rw [if_pos h0,if_pos h.2];exact ⟨_,rfl,by omega,λ_=>rfl⟩
 ·rw [if_neg h0,if_pos h.1];exact ⟨_,rfl,by omega,λz=>absurd z h0⟩
theorem zjt {α:Type} [Inhabited α] {xs:List α} {i:Int} (h:InB xs.length i):atI xs i=some (ixD xs i):=by
 obtain ⟨j,e,hj,_⟩:=zhl h
 unfold ixD atI
 rw [e]
 show xs[j]?=some (xs[j]?.getD default)
 rw [List.getElem?_eq_getElem hj];rfl
theorem zdO {α:Type} [Inhabited α] {xs:List α} {n:Nat} {x:α} (h:xs[n]?=some x):ixD xs (n:Int)=x:=by
 have hn:n<xs.length:=(List.getElem?_eq_some_iff.mp h).1
 unfold ixD atI ixN
 rw [if_pos (by omega),if_pos (by omega)]
 show (xs[(n:Int).toNat]?).getD default=x
 rw [Int.toNat_natCast,h];rfl
theorem zdx {α:Type} [Inhabited α] {xs:List α} {i:Int} (h:InB xs.length i):ixD xs i∈xs:=by
 have:=zjt h
 unfold atI at this
 obtain ⟨j,e,hj,_⟩:=zhl h
 rw [e] at this
 exact List.mem_of_getElem? this
def setZ {α:Type} (xs:List α) (i:Int) (x:α):List α:=match ixN xs.length i with
 | some n=>xs.set n x
 | none=>xs
theorem zd5 {α:Type} {xs:List α} {i:Int} {x:α}:(setZ xs i x).length=xs.length:=by
 unfold setZ;split<;>simp
def zcY {α:Type} (n:Int) (xs:List α):List α:=(List.replicate n.toNat xs).flatten
def dOpt {α:Type} (f:α->Ds):Option α->Ds
 | none=>dN
 | some x=>f x
def NN {α:Type} (f:α->Ds):Prop:=∀ x H v,(f x).pr H v->v≠.non
theorem NN.lst {α:Type} {f:α->Ds}:NN (λxs:List α=>dL (xs.map f)):=λ_ _ _ ⟨_,_,e,_⟩=>by rw [e];simp
theorem NN.tup {α:Type} {f:α->List Ds}:NN (λx=>dT (f x)):=λ_ _ _ ⟨_,_,e,_⟩=>by rw [e];simp
theorem NN.obj {α:Type} {C:Addr} {f:α->List (Str×Ds)}:NN (λx=>dO C (f x)):=λ_ _ _ ⟨_,_,_,e,_⟩=>by rw [e];simp
section
variable {E:XS} {Γ:Ctx} {m:Bool} {K:W.Frag} {α β γ:Type} {f:α->Ds} {t ta tb te:TE} {u r:TS} {o:Oc} {xs ys:List α} {i:Nat}
theorem zb1 [Inhabited α] {j:Int} (h1:Ev Γ ta m (dQ K (xs.map f))) (h2:Ev Γ tb false (dI j)) (h:InB xs.length j):Ev Γ (tOp (znZ K) ta tb) m (f (ixD xs j)):=zpY h1 h2 (zk3 (zjt h))
theorem zaG {n:Bool} (h1:Ev Γ t false (dQ K (xs.map f))):Ev Γ (tCB (λxs H Q=>∃ p ys,xs=[.ref p]∧(SqL K H p ys∨SqT K H p ys)∧Q (.int ys.length) H) (tCons t tNil)) n (dI (xs.length:Nat)):=(zo8 h1).conv (by rw [List.length_map])
theorem zbT {tl th:TO} {lo hi:Option Int} (h1:Ev Γ t m (dQ K (xs.map f))) (h2:EvP Γ tl lo) (h3:EvP Γ th hi):EvO Γ (tSl (zpA K) t tl th) m ((cutD xs lo hi).map f):=(zo3 h1 h2 h3).conv zlo.symm
theorem zbc (h1:Ev Γ ta m (dL (xs.map f))) (h2:Ev Γ tb m (dL (ys.map f))) (hz:xs.length+ys.length≤sizeLine):EvO Γ (tOp zpC ta tb) m ((xs++ys).map f):=(zoG h1 h2 (by rw [List.length_map,List.length_map];exact hz)).conv (List.map_append ..).symm
theorem zf1 {n:Nat}:(List.replicate n (xs.map f)).flatten=((List.replicate n xs).flatten).map f:=by
 induction n with
 | zero=>rfl
 | succ n ih=>rw [List.replicate_succ,List.replicate_succ,List.flatten_cons,List.flatten_cons,List.map_append,ih]
theorem zhH {n:Int} (h1:Ev Γ ta m (dL (xs.map f))) (h2:Ev Γ tb false (dI n)) (hn:-(2^63)≤n∧n<2^63) (hz:xs.length*n.toNat≤sizeLine):EvO Γ (tOp zp4 ta tb) m ((zcY n xs).map f):=(zoV h1 h2 hn (by rw [List.length_map];exact hz)).conv zf1
theorem zeF {x:Option α} {n:Bool} (h1:Ev Γ ta false (dOpt f x)) (h2:Ev Γ tb false dN) (hf:NN f):Ev Γ (tOp (λx y H Q=>y=.non∧Q (.bl (decide (x=.non))) H) ta tb) n (dB x.isNone):=zoj h1 h2 λH v q=>by
 cases x with
 | none=>rw [show v=V.non from q];rfl
 | some x=>exact decide_eq_false (hf x H v q)
theorem zhg {x:Option α} {n:Bool} (h1:Ev Γ ta false (dOpt f x)) (h2:Ev Γ tb false dN) (hf:NN f):Ev Γ (tOp (λx y H Q=>y=.non∧Q (.bl (!decide (x=.non))) H) ta tb) n (dB x.isSome):=(zna (b:=x.isNone) h1 h2 λH v q=>by
 cases x with
 | none=>rw [show v=V.non from q];rfl
 | some x=>exact decide_eq_false (hf x H v q)).conv (by cases x<;>rfl)
theorem ev_ownIxM [Inhabited α] {j:Int} (e:Γ[i]?=some (.ow m (xs.map f))) (h2:Ev Γ tb false (dI j)) (h:InB xs.length j):Ev Γ (tOp (znZ K) (tVar i) tb) m (f (ixD xs j)):=zlr (n:=m) e h2 (zk3 (zjt h))
theorem ze3 {n:Bool} (e:Γ[i]?=some (.ow m (xs.map f))):Ev Γ (tCB (λxs H Q=>∃ p ys,xs=[.ref p]∧(SqL K H p ys∨SqT K H p ys)∧Q (.int ys.length) H) (tCons (tVar i) tNil)) n (dI (xs.length:Nat)):=(zkg (n:=n) e).conv (by rw [List.length_map])
theorem zb5 {x:α} (e:Γ[i]?=some (.ow m (xs.map f))) (h:Ev Γ te m (f x)) (hz:xs.length<sizeLine) (k:Run E (Γ.set i (.ow m ((xs++[x]).map f))) u o):Run E Γ (tSeq (tDrop (tBM K "list" rAppend (tVar i) (tCons te tNil))) u) o :=
 zjk e h (by rw [List.length_map];exact hz) (by rw [List.map_append] at k;exact k)
theorem zea {tj:TE} {x:α} {j:Int} (e:Γ[i]?=some (.ow m (xs.map f))) (h:Ev Γ te m (f x)) (hj:Ev Γ tj false (dI j)) (hb:InB xs.length j) (k:Run E (Γ.set i (.ow m ((setZ xs j x).map f))) u o):Run E Γ (tSeq (zgV te (zoa (tVar i) tj zjz)) u) o:=by
 obtain ⟨n,en,hn,_⟩:=zhl hb
 refine zkU (n:=n) e h hj (by rw [List.length_map];exact en) ?_
 unfold setZ at k
 rw [en] at k
 rw [← List.map_set]
 exact k
theorem zjl {tj:TE} {x:α} {j:Int} (fo:β->Oc) {kk:List α->β} (e:Γ[i]?=some (.ow m (xs.map f))) (h:Ev Γ te m (f x)) (hj:Ev Γ tj false (dI j)) (hb:InB xs.length j) (k:∀ y,y=setZ xs j x->Run E (Γ.set i (.ow m (y.map f))) u (fo (kk y))):Run E Γ (tSeq (zgV te (zoa (tVar i) tj zjz)) u) (fo (Let (setZ xs j x) kk)) :=
 zea e h hj hb (k _ rfl)
theorem zhR {d1 d2:Ds} {i j:Nat} (h:Ev Γ te m (dT [d1,d2])) (k:Run E ((Γ.set i (.va m d1)).set j (.va m d2)) u o):Run E Γ (tSeq (zgV te (zly K 2 (zdM (zbx i) (zdM (zbx j) zms)))) u) o:=λF0 Hb F H σ own D a q =>
 h F0 Hb F H σ own _ a λv F' H' g ⟨p,vs,e1,e2,e3⟩=>by
  cases e3 with | cons q1 t=>cases t with | cons q2 t=>cases t;exact ⟨p,_,e1,.inl (.inl ((part_sub.trans g.fh) _ _ e2)),rfl,_,_,rfl,_,_,rfl,rfl,k F0 Hb F' H' _ own D (((a.grow g).set i q1).set j q2) q⟩
theorem zce {x:α} (G:α->Ctx) (fo:β->Oc) {kk:α->β} (k:∀ y,y=x->Run E (G y) u (fo (kk y))):Run E (G x) u (fo (Let x kk)):=k x rfl
def znz (o:Oc):Prop:=(∃ m d,o=.rt m d)∨(∃ m ds,o=.rl m ds)∨∃ C Γ,o=.ex C Γ
theorem znz.meets (h:znz o) {F0 Hb:Hp} {D D':Ends} (e:D.rt=D'.rt) (q:zfq E F0 Hb D o):zfq E F0 Hb D' o:=by
 rcases h with ⟨m,d,rfl⟩ | ⟨m,ds,rfl⟩ | ⟨C,Γ',rfl⟩
 ·exact λv F H g p=>e ▸ q v F H g p
 ·exact λp vs F H g h1 h2 h3 h4=>e ▸ q p vs F H g h1 h2 h3 h4
 ·exact q
def zil {S:Type} (x:S ⊕ β) (k:S->α) (w:β->α):α:=match x with
 | .inl s=>k s
 | .inr b=>w b
theorem ziP {f:Str} {d:Ds}:∀ {fs:List (Str×Ds)} {ns:List Str},fs.map Prod.fst=ns->ns.contains f=false->putD f d fs=fs++[(f,d)]
 | [],_,_,_=>rfl
 | (g,e) :: r,_,rfl,h=>by
  have h':f≠g∧f ∉ r.map Prod.fst:=by simpa using h
  unfold putD
  rw [if_neg (Ne.symm h'.1),ziP rfl (by simpa using h'.2)]
  rfl
theorem ziy {C p dx:Addr} {fs:List (Str×Ds)} {tv:TE} {d:Ds} {f:Str} (e:Γ[i]?=some (.ob m C p dx fs)) (h:Ev Γ tv m d) (c:Cls K C) (nf:NoAttr K C f) (ns:List Str) (hns:fs.map Prod.fst=ns) (hn:ns.contains f=false) (hz:ns.length<1000) (k:Run E (Γ.set i (.ob m C p dx (fs++[(f,d)]))) u o) :
  Run E Γ (tSeq (zpR K (tVar i) tv f) u) o:=znO e h c nf (by rw [← List.length_map (f:=Prod.fst),hns];exact hz) (by rw [ziP hns hn];exact k)
theorem zgd {S:Type} (f:S->γ->S):∀ (xs:List γ) (s:S),zbi (β:=Empty) (λs x=>.inl (f s x)) s xs=.inl (xs.foldl f s)
 | [],_=>rfl
 | x :: xs,s=>zgd f xs (f s x)
theorem zhh {S:Type} {f:S->γ->S} {I:Nat->S->Prop}:∀ {xs:List γ} {s:S} {n:Nat},I n s->(∀ (i:Nat) (x:γ) (s:S),xs[i]?=some x->I (n+i) s->I (n+i+1) (f s x))->I (n+xs.length) (xs.foldl f s)
 | [],s,n,h,_=>h
 | x :: xs,s,n,h,k=>by
  have h1:=k 0 x s rfl h
  have:=zhh (xs:=xs) (s:=f s x) (n:=n+1) h1 λi y s' e q=>by
   have:=k (i+1) y s' (by simpa using e) (by rw [show n+(i+1)=n+1+i by omega];exact q)
   rw [show n+1+i+1=n+(i+1)+1 by omega];exact this
  rw [List.length_cons,show n+(xs.length+1)=n+1+xs.length by omega]
  exact this
theorem zbS {S:Type} {wi:TI} {g:TG} {tb:TS} {js:List Nat} {xs:List γ} {bds:γ->List Ds} {mi:Bool} {s0:S} (G:S->Ctx) (fo:β->Oc) {kk:S->β} (f:S->γ->S) (I:Nat->S->Prop) (it:Iv Γ wi g js xs bds mi) (w:Wk Γ (G s0)) (h0:I 0 s0)
  (body:∀ (i:Nat) (x:γ) (s:S),xs[i]?=some x->I i s->I (i+1) (f s x)∧Run E (zj2 js (bds x) mi (G s)) tb (.nx (G (f s x)))) (k:∀ s,s=xs.foldl f s0->I xs.length s->Run E (G s) u (fo (kk s))):Run E Γ (tSeq (zoL wi g tb) u) (fo (Let (xs.foldl f s0) kk)):=by
 refine zj7 (Δ:=G (xs.foldl f s0)) ?_ (k _ rfl (by simpa using zhh (n:=0) (I:=I) h0 λi x s e q=>by rw [Nat.zero_add] at q ⊢;exact (body i x s e q).1))
 have:=zkM (β:=Empty) G (λz=>z.elim) (λs x=>.inl (f s x)) I it w h0 (λb=>b.elim) λi x s e q=>⟨λs' z=>by cases z;exact (body i x s e q).1,(body i x s e q).2⟩
 rw [zgd] at this
 exact this
theorem zhf {S:Type} {f:S->γ->S ⊕ β} {I:Nat->S->Prop}:∀ {xs:List γ} {s s':S} {n:Nat},I n s->(∀ (i:Nat) (x:γ) (s:S),xs[i]?=some x->I (n+i) s->∀ s',f s x=.inl s'->I (n+i+1) s')->zbi f s xs=.inl s'->I (n+xs.length) s'
 | [],s,s',n,h,_,e=>by cases e;exact h
 | x :: xs,s,s',n,h,k,e=>by
  unfold zbi at e
  cases q:f s x with
  | inr b=>rw [q] at e;cases e
  | inl s1 =>
   rw [q] at e
   have h1:=k 0 x s rfl h s1 q
   have:=zhf (xs:=xs) (s:=s1) (n:=n+1) h1 (λi y s' e q=>by
    have:=k (i+1) y s' (by simpa using e) (by rw [show n+(i+1)=n+1+i by omega];exact q)
    rw [show n+1+i+1=n+(i+1)+1 by omega];exact this) e
   rw [List.length_cons,show n+(xs.length+1)=n+1+xs.length by omega]
   exact this
theorem zft {S:Type} {wi:TI} {g:TG} {tb:TS} {js:List Nat} {xs:List γ} {bds:γ->List Ds} {mi:Bool} {s0:S} (G:S->Ctx) (fo:α->Oc) (wr:β->α) {kk:S->α} (f:S->γ->S ⊕ β) (I:Nat->S->Prop) (hres:∀ b,znz (fo (wr b))) (it:Iv Γ wi g js xs bds mi) (w:Wk Γ (G s0)) (h0:I 0 s0)
  (body:∀ (i:Nat) (x:γ) (s:S),xs[i]?=some x->I i s->(∀ s',f s x=.inl s'->I (i+1) s')∧Run E (zj2 js (bds x) mi (G s)) tb (zet G (λb=>fo (wr b)) (f s x))) (k:∀ s,zbi f s0 xs=.inl s->I xs.length s->Run E (G s) u (fo (kk s))):Run E Γ (tSeq (zoL wi g tb) u) (fo (zil (zbi f s0 xs) kk wr)):=by
 have h:=zkM G (λb=>fo (wr b)) f I it w h0 (λb F0 Hb D D' e q=>(hres b).meets e q) body
 cases e:zbi f s0 xs with
 | inl s =>
  rw [e] at h
  exact zj7 h (k s e (by simpa using zhf (n:=0) h0 (λi x s e q=>by rw [Nat.zero_add] at q ⊢;exact (body i x s e q).1) e))
 | inr b =>
  rw [e] at h
  exact λF0 Hb F H σ own D a q=>h F0 Hb F H σ own _ a ((hres b).meets (D:=D) rfl (show zfq E F0 Hb D (fo (wr b)) from q))
end
end L2
namespace L2
open PySem PySem.Spec PyProof.Rows PySem.Builtin PySem.Builtin.Getset_descriptor
structure XCls (K:W.Frag) (C:Addr):Prop where
 ga:W.findIn K (.ref C) "__getattribute__"=some (some (.builtin "BaseException.__getattribute__"))
 gn:W.findIn K (.ref C) "__getattr__"=some none
 cl:W.findIn K (.ref C) "__class__"=some (some (.builtin "object.__class__"))
 ob:W.mroIn K C (.type "object")=some true
 be:W.mroIn K C (.type "BaseException")=some true
 gt:W.specialIn K (.builtin "object.__class__") "__get__"=some (some (.builtin "getset_descriptor.__get__"))
 tk:W.takesIn K (.builtin "object.__class__")=some true
def XAt (h:Heap) (a C:Addr):Prop:=∃ o vs,h.get? a=some o∧o.cls=.ref C∧o.data=.fields vs
section
variable {prog:Program} {w:World} {A:Around} {E:Value->Shared->Prop} {K:W.Frag} {C a:Addr} {h:Heap} {g:Array GenState} {d:Drawn} {t:Nat} {os:OsState}
theorem XAt.ty {M:Model} (x:XAt h a C):W.Looks M h (typeOf (.ref a)) (.ref C):=by
 obtain ⟨o,vs,hx,hc,hd⟩:=x
 exact hc ▸ (W.Looks.ld hx).andThen .now
theorem zh8 {tp:Value} {R:Result->Shared->Prop} (X:K.In h) (c:XCls K C) (x:XAt h a C) (hr:R (.ok (.ret (.ref C))) ⟨h,g,d,t,os⟩) :
  codeAny (model prog w) A (.call (.builtin "getset_descriptor.__get__") ⟨[.builtin "object.__class__",.ref a,tp],[]⟩) R ⟨h,g,d,t,os⟩:=by
 have L0:=x.ty (M:=model prog w)
 have L1:=W.looks_mroIn (M:=model prog w) X c.ob
 refine codeAny_call_builtin W.KF.slot_gs.plain W.KF.entry_gs (W.KF.slot_gs.check _ _ _ _ _ _ _ _ W.KF.type_class (W.KF.args_gs _ _ _) ?_)
 unfold Builtin.«getset_descriptor.__get__»
 unfold descrGet
 rw [W.dga_obj]
 refine wpAny_bind (wpAny_pure ?_)
 unfold descrGetter
 unfold descrCheckInstance descrNameAndClass
 unfold isInstance
 simp only [W.KF.owner_class]
 repeat (any_goals (first | assumption | with_reducible refine wpAny_bind (L0.at ?_) | with_reducible refine wpAny_bind (L1.at ?_) | with_reducible refine L0.at ?_ | with_reducible refine L1.at ?_ | wp_step))
 refine ⟨Code.quiet_builtin _ (by decide +kernel),codeAny_builtin (W.KF.entry_class) ?_⟩
 unfold Builtin.«object.__class__»
 unfold shownTypeOf
 repeat (any_goals (first | assumption | with_reducible refine wpAny_bind (L0.at ?_) | with_reducible refine L0.at ?_ | wp_step))
theorem zkq {tk:Tok} {Q:Fin->Shared->Prop} (X:K.In h) (c:XCls K C) (x:XAt h a C) (hq:Q (.done (.ret (.ref C))) ⟨h,g,d,t,os⟩) :
  wpAny (model prog w) A (Builtin.«object.__getattribute__» ⟨[.ref a,.str "__class__" tk],[]⟩) Q E ⟨h,g,d,t,os⟩:=by
 have L0:=x.ty (M:=model prog w)
 have L1:=W.looks_findIn (M:=model prog w) X c.cl
 have L2:=W.looks_specialIn (M:=model prog w) X c.gt
 have L3:=W.looks_takesIn (M:=model prog w) X c.tk
 unfold Builtin.«object.__getattribute__»
 repeat (any_goals (first | assumption | with_reducible refine wpAny_bind (L0.at ?_) | with_reducible refine wpAny_bind (L1.at ?_) | with_reducible refine wpAny_bind (L2.at ?_) | with_reducible refine wpAny_bind (L3.at ?_) | wp_step))
 refine zh8 X c x ?_
 repeat (any_goals (first | assumption | wp_step))
theorem zkz {nameV:Value} {Q:Unit->Shared->Prop} (X:K.In h) (c:XCls K C) (x:XAt h a C) (hq:Q () ⟨h,g,d,t,os⟩):wpAny (model prog w) A (checkBuiltinCall "BaseException.__getattribute__" ⟨[.ref a,nameV],[]⟩) Q E ⟨h,g,d,t,os⟩:=by
 have hk:builtinKind "BaseException.__getattribute__"=some .slot:=by decide +kernel
 have hsplit:splitId "BaseException.__getattribute__"=some ("BaseException","__getattribute__"):=by decide +kernel
 have L0:=x.ty (M:=model prog w)
 have L1:=W.looks_mroIn (M:=model prog w) X c.be
 have LI:W.Looks (model prog w) h (isInstance (.ref a) (.type "BaseException")) true:=L0.andThen L1
 have ha:=F.args_bexc_ga (.ref a) nameV
 simp only [checkBuiltinCall,hk,hsplit]
 refine wpAny_bind (LI.at ?_)
 repeat (any_goals (first | assumption | wp_step))
 all_goals (try exact hq)
theorem zpr {tk:Tok} {fill expr:Bool} {Q:Value->Shared->Prop} (X:K.In h) (c:XCls K C) (x:XAt h a C) (hq:Q (.ref C) ⟨h,g,d,t,os⟩) :
  wpAny (model prog w) A (getAttrBy (.ref a) (.str "__class__" tk) fill expr) Q E ⟨h,g,d,t,os⟩:=by
 have L0:=x.ty (M:=model prog w)
 have L1:=W.looks_findIn (M:=model prog w) X c.ga
 have L2:=W.looks_findIn (M:=model prog w) X c.gn
 have f3:=(PySem.F.attr_ValueError.ga).bind (.ref a)
 have hx0:(expr&&onTheHeap (Value.builtin "BaseException.__getattribute__"))=false:=by cases expr<;>rfl
 have hx2:(Value.builtin "BaseException.__getattribute__" == Value.builtin "object.__getattribute__")=false:=by decide +kernel
 have hx1:(onTheHeap (Value.ref C)&&Value.builtin "BaseException.__getattribute__" == Value.builtin "object.__getattribute__")=false:=by rw [hx2];rfl
 unfold getAttrBy
 repeat (any_goals (first | assumption | with_reducible refine wpAny_bind (L0.at ?_) | with_reducible refine wpAny_bind (L1.at ?_) | with_reducible refine wpAny_bind (L2.at ?_) | wp_step))
 refine codeAny_call_builtin PySem.F.attr_ValueError.ga.plain F.entry_bexc_ga (zkz X c x (zkq X c x ?_))
 repeat (any_goals (first | assumption | wp_step))
theorem zlQ {Q:Option Value->Shared->Prop} (X:K.In h) (c:XCls K C) (x:XAt h a C) (hq:Q (some (.ref C)) ⟨h,g,d,t+1,os⟩) :
  wpAny (model prog w) A (getAttr? (.ref a) "__class__") Q E ⟨h,g,d,t,os⟩:=by
 unfold getAttr? getAttrBy?
 repeat (any_goals (first | assumption | with_reducible apply zpr X c x | wp_step))
end
theorem cls_at {K:W.Frag} {C:Addr} {T:Value} {r:Bool} (e:W.mroIn K C T=some r):∃ c d cd sl,K.lookup C=some ⟨c,d,.cls cd,sl⟩:=by
 obtain ⟨cd,hc,_⟩:=Option.bind_eq_some_iff.mp e
 unfold W.clsIn at hc
 split at hc
 ·exact ⟨_,_,_,_,by assumption⟩
 ·cases hc
theorem kitx_exc {K:W.Frag} {a C:Addr} (c:XCls K C):W.KitX K (.ref a) (.ref C) (λh=>XAt h a C) where
 ty:=λ_ _ _ x=>x.ty
 it:=λM h X _=>by
  obtain ⟨c',d',cd',sl',ho⟩:=cls_at c.ob
  intro A' Q' E' s' k q
  unfold isType loadHead
  exact wpAny_bind (wpAny_loadPart (k _ _ (X _ _ ho)) (wpAny_pure q))
 ne:=λh tp dd its n sl X htp=>by
  obtain ⟨c',d',cd',sl',ho⟩:=cls_at c.ob
  refine Bool.eq_false_iff.mpr λq=>?_
  have e:C=tp:=Value.ref.inj (beq_iff_eq.mp q)
  subst e
  have z:=(X _ _ ho).symm.trans htp
  cases z
 ca:=λ{prog w A E Q s} X x k=>by
  obtain ⟨h,g,d,t,os⟩:=s
  exact zlQ X c x k
def excO (a C:Addr) (fs:List (Str×V)):HO:=.ext λh=>∃ o vs,h.get? a=some o∧o.cls=.ref C∧o.data=.fields vs∧fs=[]
theorem excO_ok {P:Program} {w:World} {H:Hp} {h:Heap} {a C:Addr} (x:XAt h a C):zcs P w H h a (excO a C []):=by
 obtain ⟨o,vs,hx,hc,hd⟩:=x
 refine ⟨⟨o,vs,hx,hc,hd,rfl⟩,⟨o,hx⟩,λh1 h2 ⟨o',vs',q1,q2,q3,q4⟩ k=>⟨o',vs',k _ q1,q2,q3,q4⟩⟩
section
variable {X:Cx} {K:W.Frag}
theorem zkm (hK:X.K=K):zfe X (.builtin "isinstance") (λxs H Q=>∃ a C c b,(xs=[.ref a,c])∧H a=some (excO a C [])∧XCls K C∧(∃ u,RelV c u∧(∀ u',RelV c u'->u'=u)∧W.kitOne K (.ref C) u=some b)∧Q (.bl b) H):=by
 subst hK
 intro pins s σ H xs us Q I r h
 obtain ⟨a,C,c,b,rfl,ha,hc,⟨u,hu,hu2,hk⟩,q⟩:=h
 obtain ⟨v,w',rfl,rx,ry⟩:=zlz r
 cases rx
 rw [hu2 w' ry]
 obtain ⟨⟨o,vs,h1,h2,h3,_⟩,_⟩:=(show zcs X.prog X.w H s.heap a (excO a C []) from I.hok a _ ha)
 exact W.kia_one (kitx_exc hc) I.kIn ⟨o,vs,h1,h2,h3⟩ hk (λz=>nomatch z) λtk=>⟨.bl b,H,I.tok _,rfl,q⟩
end
end L2
namespace L2
open PySem PySem.Spec PyProof.Rows
section
variable {X:Cx} {pins:List (Addr×Obj)} {σ:St} {H:Hp} {s:Shared}
theorem Inv.locals {h':Heap} {t':Nat} {m':Str->Option Value} {σ':St} (I:Inv X pins σ H s) (hs:Heap.SameBut X.env.locals s.heap h') (hn':h'.Ns X.env.locals m')
  (hl:∀ (j:Nat) (y:Str) (v:V),X.N[j]?=some y->σ'[j]?=some (some v)->Vis X.env.scope y->∃ u,RelV v u∧zqf X.env h' m' y u) (len:σ'.length=X.N.length):Inv X pins σ' H { s with heap:=h',toks:=t' }:=by
 have lt:∀ b o,X.s₀.heap.get? b=some o->b≠X.env.locals:=λb o e=>Nat.ne_of_lt (Nat.lt_of_lt_of_le (Heap.lt_size e) I.ok.above)
 refine ⟨I.ok,I.os,I.bare,⟨λb o e n hb hx=>(hs.2 b (lt b o e)).trans (I.base.keep b o e n hb hx),λb o e n hb hx=>?_,I.base.free,λb o e hx=>?_,I.base.tups,I.base.frzs,I.base.tbls⟩,⟨m',hn',hl⟩,λy c e=>?_,I.free,I.freeC,λp hp=>?_,λb u e=>?_,len⟩
 ·obtain ⟨sl,q⟩:=I.base.slot b o e n hb hx
  exact ⟨sl,(hs.2 b (lt b o e)).trans q⟩
 ·obtain ⟨o',q⟩:=I.base.there b o e hx
  exact ⟨o',(hs.2 b (lt b o e)).trans q⟩
 ·obtain ⟨w',z⟩:=I.cell y c e
  exact ⟨w',z.sameBut hs (I.cne y c e)⟩
 ·obtain ⟨e,n,ne,nf,d⟩:=I.pin p hp
  exact ⟨(hs.2 p.1 ne).trans e,n,ne,nf,d⟩
 ·refine (I.hok b u e).stay (λc v hc q=>(hs.2 c ?_).trans q) (λ_ q=>q) λ_ _ q=>q
  intro z
  have z':=I.free
  rw [← z] at z'
  rcases hc with hc | hc
  ·rw [hc,e] at z';cases z'
  ·rw [hc] at z';cases z'
theorem goes_ok {M:Model} {A:Around} {E:Value->Shared->Prop} {i:Nat} {n:Str} {pos:Pos} {Q:Unit->Shared->Prop} (I:Inv X pins σ H s) (hN:X.N.Nodup) (hi:X.N[i]?=some n) (hloc:X.env.scope.names.lookup n=some .local)
  (h:∀ s',Inv X pins (σ.set i none) H s'->Q () s'):wpAny M A (do bindName X.env n .none;unbindBehindTheSuite X.env n pos) Q E s:=by
 have hcls:(X.env.scope.kind == .class||(X.env.scope.kind == .module&&X.env.locals != X.env.globals))=false:=by rw [I.ok.kind];rfl
 have hk:X.env.kindOf n=some .local:=hloc
 have hiσ:i<σ.length:=by rw [I.len];exact (List.getElem?_eq_some_iff.mp hi).1
 refine wpAny_bind (wpAny_bindName (store_ok I hN hi (.inl hloc) (v:=.non) (u:=.none) rfl (λs1 I1=>?_) (.inr hloc)))
 obtain ⟨m,hn,hl⟩:=id I1.loc
 have hm:m n=some .none:=by
  obtain ⟨u,r,q⟩:=hl i n .non hi (List.getElem?_set_self hiσ) (.inl hloc)
  have r:u=Value.none:=r
  subst r
  rcases q with ⟨_,e⟩ | ⟨k,_⟩
  ·exact e
  ·rw [hk] at k;rcases k with k | k<;>cases k
 unfold unbindBehindTheSuite
 refine wpAny_onRaise ?_
 unfold unbindName
 refine wpAny_bind (wpAny_point (wpAny_bind ?_))
 unfold deleteName
 simp only [hk,hcls]
 rw [if_neg (by decide)]
 refine wpAny_bind (wpAny_nsDel_keeps hn λh2 v hn2 hs2=>?_)
 rw [hm]
 simp only [Option.isSome_some,Bool.not_true,Bool.false_eq_true,if_false]
 refine wpAny_pure (wpAny_point (h { s1 with heap:=h2 } (I1.locals (t':=s1.toks) hs2 hn2 (λj y v' e1 e2 e3=>?_) (by simp [I.len]))))
 by_cases hj:i=j
 ·subst hj
  rw [List.getElem?_set_self hiσ] at e2;cases e2
 ·rw [List.getElem?_set_ne hj] at e2
  obtain ⟨u',r',q⟩:=hl j y v' e1 (by rw [List.getElem?_set_ne hj];exact e2) e3
  have hy:y≠n:=λe=>hj (nodup_ix hN hi (e ▸ e1))
  refine ⟨u',r',?_⟩
  rcases q with ⟨k,e⟩ | ⟨k,c,e,z⟩
  ·exact .inl ⟨k,by simp [hy,e]⟩
  ·exact .inr ⟨k,c,e,z.sameBut hs2 (I.cne y c e)⟩
theorem Inv.track {e C:Addr} (I:Inv X pins σ H s) (x:XAt s.heap e C) (hn:H e=none) (hF:Fz X pins e):Inv X pins σ (upd H e (excO e C [])) s:=by
 obtain ⟨o,vs,hx,hc,hd⟩:=id x
 obtain ⟨_,a2,a3,a4,a5⟩:=exc_apart I hx hd hn hF
 refine ⟨I.ok,I.os,I.bare,⟨I.base.keep,I.base.slot,λb o' q n hx=>?_,I.base.there,λb xs q=>?_,λb o' u q=>?_,λb ps q=>?_⟩,I.loc,I.cell,?_,λy c q=>?_,λp hp=>?_,λb u q=>?_,I.len⟩
 ·have hb:b≠e:=λz=>by rw [z,a2] at q;cases q
  rw [upd_ne hb];exact I.base.free b o' q n hx
 ·have q1:=I.base.tups b xs q
  rw [upd_ne (ne_of_none q1 hn)];exact q1
 ·have q1:=I.base.frzs b o' u q
  rw [upd_ne (ne_of_none q1 hn)];exact q1
 ·obtain ⟨more,q1⟩:=I.base.tbls b ps q
  exact ⟨more,by rw [upd_ne (ne_of_none q1 hn)];exact q1⟩
 ·rw [upd_ne (Ne.symm a3)];exact I.free
 ·rw [upd_ne (a4 y c q)];exact I.freeC y c q
 ·obtain ⟨q1,q2,q3,q4,q5⟩:=I.pin p hp
  exact ⟨q1,by rw [upd_ne (a5 p hp)];exact q2,q3,q4,q5⟩
 ·by_cases hb:b=e
  ·subst hb;rw [upd_same] at q;cases q;exact excO_ok x
  ·rw [upd_ne hb] at q
   exact (I.hok b u q).stay (λ_ _ _ z=>z) (λc z=>by rw [upd_ne (ne_of_none z hn)];exact z) λc xs z=>by rw [upd_ne (ne_of_none z hn)];exact z
abbrev Cx.marked (X:Cx) (e:Addr):Cx:={ X with A:=X.A.mark (some (.ref e)),calm:=false,xe:=λ_ _=>False }
theorem Inv.marked {e:Addr} (I:Inv X pins σ H s):Inv (X.marked e) pins σ H s :=
 ⟨⟨I.ok.mod,I.ok.kind,I.ok.glob,I.ok.blt,I.ok.above,I.ok.inj,I.ok.has,I.ok.cab,(λz=>(nomatch z)),I.ok.frames,I.ok.stk,I.ok.exf,I.ok.bs,I.ok.bsz,I.ok.noex,I.ok.exfs,I.ok.funs,I.ok.frf⟩,I.os,I.bare,I.base,I.loc,I.cell,I.free,I.freeC,I.pin,I.hok,I.len⟩
theorem Inv.unmarked {e:Addr} (I:Inv (X.marked e) pins σ H s) (ok:X.Ok):Inv X pins σ H s :=
 ⟨ok,I.os,I.bare,I.base,I.loc,I.cell,I.free,I.freeC,I.pin,I.hok,I.len⟩
end
section
variable {X:Cx} {K:W.Frag}
theorem znU {body:List Stmt} {tb:TSX} {cn n x:Str} {CS:Addr} {i j:Nat} {p1 p2 p3 p4 p5 pos:Pos} (O:Own X) (hK:X.K=K) (hN:X.N.Nodup) (hn:X.N[i]?=some n) (hln:X.env.scope.names.lookup n=some .local) (hx:X.N[j]?=some x) (hlx:Loc X.env.scope x)
  (hfx:X.fn x=true∨X.env.scope.names.lookup x=some .local) (hg:Gl X cn) (hm:X.mg cn=some (.ref CS)) (hb:zhG X body tb) (hd:(n == ("__debug__":Str))=false:=by decide) (hcd:(n == ("__classdict__":Str))=false:=by decide)
  (hdb:(cn == ("__debug__":Str))=false:=by decide) (hsw:swapsWith (.Name n p3) (some (.Name x p2)) p4.line X.env=pure false:=by rfl) :
  PSX X (.Try body [.ExceptHandler (some (.Name cn p1)) (some n) [.Assign [.Name x p2] (.Name n p3) p4] p5] [] [] pos)
   (λD _ σ H=>tb D (λσ' cls _ H'=>∃ C,cls=.ref C∧W.exmOne K (.ref C) (.ref CS)=some true∧∀ a,H' a=none->D.nx ((σ'.set j (some (.ref a))).set i none) (upd H' a (excO a C []))) σ H):=by
 subst hK
 intro pins s σ H D E I h
 refine wpAny_Try_except (wpAny_mono (hb pins s σ H D _ I h) (λf s1 q=>?_) λev s1 q=>?_)
 ·cases f with
  | next=>exact wpAny_execs_nil q
  | ret v=>exact q
  | brk=>exact q
  | cont=>exact q
 ·obtain ⟨σ',e,cls,dct,H',rfl,I1,x1,C,rfl,hC,q⟩:=q
  refine note_exc O I1 x1 rfl λs2 I2 x2=>?_
  refine ze6 (fr:=none) O I2 x2 λs3 I3 x3=>?_
  obtain ⟨oe,vs,a0,y1,y2,y3,y4,y5,y6,y7,y8,_⟩:=id x3
  have xa:XAt s3.heap e C:=⟨oe,vs,y1,y2,y4⟩
  refine wpAny_handleBy_cons (codeAny_handlers_test ?_) (by intro z;cases z)
  refine ld_glob (X:=X.marked e) I3.marked hg hm ?_ hdb
  refine (W.exm_one I3.kIn xa.ty hC).at ?_
  refine codeAny_handlers_suite_as ?_
  refine ze6 (fr:=none) O I3 x3 λs4 I4 x4=>?_
  obtain ⟨oe,vs,a0,y1,y2,y3,y4,y5,y6,y7,y8,_⟩:=id x4
  have I5:=I4.track ⟨oe,vs,y1,y2,y4⟩ y7 y8
  refine store_ok I5 hN hn (.inl hln) (v:=.ref e) rfl (λs6 I6=>?_) (.inr hln)
  have hset:PS (X.marked e) (.Assign [.Name x p2] (.Name n p3) p4) (zgV (tVar i) (zbx j)):=zak hN hx hlx (pe_var hn (.inl hln) hd hcd) hsw hfx
  have hiσ:i<σ'.length:=by rw [I1.len];exact (List.getElem?_eq_some_iff.mp hn).1
  refine wpAny_mono ((zne hset) pins s6 _ _ { nx:=λσ'' H''=>σ''=(σ'.set i (some (.ref e))).set j (some (.ref e))∧H''=upd H' e (excO e C []),rt:=λ_ _=>False } I6.marked ⟨.ref e,List.getElem?_set_self hiσ,rfl,rfl⟩) (λf s7 q7=>?_) λ_ _ z=>z.elim
  cases f with
  | ret v=>obtain ⟨_,_,_,_,_,z⟩:=q7;exact z.elim
  | brk=>obtain ⟨_,_,_,z⟩:=q7;exact z.elim
  | cont=>obtain ⟨_,_,_,z⟩:=q7;exact z.elim
  | next =>
   obtain ⟨σ7,H7,I7,rfl,rfl⟩:=q7
   show wpAny _ _ _ _ _ s7
   refine goes_ok (I7.unmarked I.ok) hN hn hln λs8 I8=>?_
   have eσ:((σ'.set i (some (V.ref e))).set j (some (.ref e))).set i none=(σ'.set j (some (.ref e))).set i none:=by
    by_cases hij:i=j
    ·subst hij;simp
    ·refine List.ext_getElem? λk=>?_
     by_cases h1:i=k
     ·subst h1
      rw [List.getElem?_set_self (by simpa using hiσ),List.getElem?_set_self (by simpa using hiσ)]
     ·rw [List.getElem?_set_ne h1,List.getElem?_set_ne h1]
      by_cases h2:j=k
      ·subst h2
       by_cases h3:j<σ'.length
       ·rw [List.getElem?_set_self (by simpa using h3),List.getElem?_set_self h3]
       ·rw [List.getElem?_eq_none (by simp;omega),List.getElem?_eq_none (by simp;omega)]
      ·rw [List.getElem?_set_ne h2,List.getElem?_set_ne h2,List.getElem?_set_ne h1]
   rw [eσ] at I8
   exact ⟨_,_,I8,q e y7⟩
end
end L2
namespace L2
open PySem PySem.Spec PyProof.Rows
abbrev atE (E:XS) (t:TSX):TS:=λD σ H=>t D E σ H
abbrev zou (t:TS):TSX:=λD _ σ H=>t D σ H
abbrev zqs (t u:TSX):TSX:=λD E σ H=>tSeq (atE E t) (atE E u) D σ H
abbrev ifX (c:TT) (t u:TSX):TSX:=λD E σ H=>zpw c (atE E t) (atE E u) D σ H
def zmc (ta:TA) (C:Addr) (E:XS):TS:=λ_ σ H=>ta σ H λvs H1=>vs.length≤sizeLine∧E σ (.ref C) none H1
def zmD (te:TEX) (E:XS):TS:=λD σ H=>te σ H (λ_ H1=>D.nx σ H1) (E σ)
def zoP (te:TEX) (i:Nat) (E:XS):TS:=λD σ H=>te σ H (λv H1=>D.nx (σ.set i (some v)) H1) (E σ)
def callX (sp:Sp) (t:TA):TEX:=λσ H Q E=>t σ H λvs H1=>sp (vs++[]) H1 Q E
def zpK (K:W.Frag) (CS:Addr) (i j:Nat) (tb:TSX):TS:=λD σ H=>tb D (λσ' cls _ H'=>∃ C,cls=.ref C∧W.exmOne K (.ref C) (.ref CS)=some true∧∀ a,H' a=none->D.nx ((σ'.set j (some (.ref a))).set i none) (upd H' a (excO a C []))) σ H
section
variable {X:Cx} {K:W.Frag} {e:Expr} {st:Stmt} {rest:List Stmt} {pos:Pos}
theorem zgn:zhG X [] (zou zk4):=zlF
theorem zcR {t u:TSX} (h1:PSX X st t) (h2:zhG X rest u):zhG X (st :: rest) (zqs t u):=zj5 (t:=t) (u:=u) h1 h2
theorem zf6 {t:TS} (h:PS X.nox st t):PSX X st (zou t):=zlw h
theorem zpP {c:Expr} {a b:List Stmt} {tc:TT} {t u:TSX} (hc:PT X.nox c tc) (ha:zhG X a t) (hb:zhG X b u):PSX X (.If c a b pos) (ifX tc t u):=zpg (t:=t) (u:=u) hc ha hb
theorem zka {te:TEX} (he:PEX X e te) (hs:swapsWith e none pos.line X.env=pure false:=by rfl):PSX X (.Expr e pos) (λD E σ H=>zmD te E D σ H):=zlE he hs
theorem zpc {i:Nat} {x:Str} {te:TEX} {pos':Pos} (hN:X.N.Nodup) (hi:X.N[i]?=some x) (hx:Loc X.env.scope x) (he:PEX X e te) (hs:swapsWith e (some (.Name x pos')) pos.line X.env=pure false:=by rfl)
  (hf:X.fn x=true∨X.env.scope.names.lookup x=some .local:=by first | exact .inl rfl | exact .inr rfl | assumption):PSX X (.Assign [.Name x pos'] e pos) (λD E σ H=>zoP te i E D σ H):=znm hN hi hx he hs hf
theorem xe_fn {k:Nat} {ps:List Str} {sp:Sp} {x:Str} {p:Pos} {es:List Expr} {t:TA} (O:Own X) (F:Callee X.prog X.w X.K X.mg X.base (CXE X.prog X.w) k x ps sp) (hr:Room k X.A) (hg:Gl X x)
  (ha:PA X.nox (e :: es) t) (hdb:(x == ("__debug__":Str))=false:=by decide) (he:starEach (e :: es) X.env=(false,eval e X.env) :: starEach es X.env:=by rfl) (hpl:(backTo pos (starEach es X.env)).any (·.1)=false:=by rfl) :
  PEX X (.Call (.Name x p) (e :: es) [] pos) (callX sp t):=zpZ O F hr hg ha hdb he hpl
theorem zll {C:Addr} {B newId initId:String} {bmB:List Value} {x:Str} {es:List Expr} {t:TA} {np cpos:Pos} (O:Own X) (hc:X.calm=true) (hg:Gl X x) (hm:X.mg x=some (.ref C)) (hK:W.excIn X.K C bmB newId=true) (FB:ExcBaseFacts B newId initId bmB)
  (ha:PA X.nox (e :: es) t) (hdb:(x == ("__debug__":Str))=false:=by decide) (he:starEach (e :: es) X.env=(false,eval e X.env) :: starEach es X.env:=by rfl) (hpl:(backTo cpos (starEach es X.env)).any (·.1)=false:=by rfl) :
  PSX X (.Raise (some (.Call (.Name x np) (e :: es) [] cpos)) none pos) (λD E σ H=>zmc t C E D σ H):=zjF O hc hg hm hK FB ha hdb he hpl
theorem zot {body:List Stmt} {tb:TSX} {cn n x:Str} {CS:Addr} {i j:Nat} {p1 p2 p3 p4 p5:Pos} (O:Own X) (hK:X.K=K) (hN:X.N.Nodup) (hn:X.N[i]?=some n) (hln:X.env.scope.names.lookup n=some .local) (hx:X.N[j]?=some x) (hlx:Loc X.env.scope x)
  (hfx:X.fn x=true∨X.env.scope.names.lookup x=some .local) (hg:Gl X cn) (hm:X.mg cn=some (.ref CS)) (hb:zhG X body tb) (hd:(n == ("__debug__":Str))=false:=by decide) (hcd:(n == ("__classdict__":Str))=false:=by decide)
  (hdb:(cn == ("__debug__":Str))=false:=by decide) (hsw:swapsWith (.Name n p3) (some (.Name x p2)) p4.line X.env=pure false:=by rfl) :
  PSX X (.Try body [.ExceptHandler (some (.Name cn p1)) (some n) [.Assign [.Name x p2] (.Name n p3) p4] p5] [] [] pos) (λD _ σ H=>zpK K CS i j tb D σ H):=znU O hK hN hn hln hx hlx hfx hg hm hb hd hcd hdb hsw
end
def dE (C:Addr):Ds:=⟨λH v=>∃ a,v=.ref a∧H a=some (excO a C []),λe ⟨a,h1,h2⟩=>⟨a,h1,e _ _ h2⟩⟩
theorem NN.exc {ε:Type} {xc:ε->Addr}:NN (λe=>dE (xc e)):=λ_ _ _ ⟨_,h,_⟩=>by rw [h];simp
def zb3 {ε:Type} (f:ε->Bool) (x:Option ε):Bool:=match x with
 | none=>false
 | some e=>f e
def zkP (K:W.Frag):List V->Hp->VK->Prop:=λxs H Q=>zpE K xs H Q∨∃ a C c b,(xs=[.ref a,c])∧H a=some (excO a C [])∧XCls K C∧(∃ u,RelV c u∧(∀ u',RelV c u'->u'=u)∧W.kitOne K (.ref C) u=some b)∧Q (.bl b) H
theorem call_isiB {X:Cx} {K:W.Frag} (hK:X.K=K):zfe X (.builtin "isinstance") (zkP K):=λpins s σ H xs us Q I r h=>by
 rcases h with h | h
 ·exact zi9 hK pins s σ H xs us Q I r h
 ·exact zkm hK pins s σ H xs us Q I r h
section
variable {E:XS} {Γ Δ Γx:Ctx} {m:Bool} {K:W.Frag} {α β ε:Type} {u:TS} {o:Oc} {ds:List Ds}
theorem za6 {xc:ε->Addr} {x:Option ε} {ta:TE} {C:Addr} {f:ε->Bool} (h:Ev Γ ta false (dOpt (λe=>dE (xc e)) x)) (h0:W.kitOne K (.type "NoneType") (.ref C)=some false) (h1:∀ e,XCls K (xc e)∧W.kitOne K (.ref (xc e)) (.ref C)=some (f e)) :
  Ev Γ (tCB (zkP K) (tCons ta (tCons (tC (.ref C)) tNil))) m (dB (zb3 f x)):=λF0 Hb F H σ own Q a k =>
 h F0 Hb F H σ own _ a λv F1 H1 g1 q1=>by
  cases x with
  | none =>
   have q1:v=.non:=q1
   subst q1
   exact .inl ⟨.non,.type "NoneType",false,.inr ⟨C,rfl,h0⟩,.non,k _ F1 H1 g1 rfl⟩
  | some e =>
   obtain ⟨p,rfl,hp⟩:=q1
   exact .inr ⟨p,xc e,.ref C,f e,rfl,(part_sub.trans g1.fh) _ _ hp,(h1 e).1,⟨.ref C,rfl,λu' z=>z,(h1 e).2⟩,k _ F1 H1 g1 rfl⟩
theorem zlj {xc:ε->Addr} {x:Option ε} {ta:TE} {T:String} {f:ε->Bool} (h:Ev Γ ta false (dOpt (λe=>dE (xc e)) x)) (h0:W.kitOne K (.type "NoneType") (.type T)=some false) (h1:∀ e,XCls K (xc e)∧W.kitOne K (.ref (xc e)) (.type T)=some (f e)) :
  Ev Γ (tCB (zkP K) (tCons ta (tCons (tC (.ty T)) tNil))) m (dB (zb3 f x)):=λF0 Hb F H σ own Q a k =>
 h F0 Hb F H σ own _ a λv F1 H1 g1 q1=>by
  cases x with
  | none =>
   have q1:v=.non:=q1
   subst q1
   exact .inl ⟨.non,.type "NoneType",false,.inl ⟨T,rfl,h0⟩,.non,k _ F1 H1 g1 rfl⟩
  | some e =>
   obtain ⟨p,rfl,hp⟩:=q1
   exact .inr ⟨p,xc e,.ty T,f e,rfl,(part_sub.trans g1.fh) _ _ hp,(h1 e).1,⟨.type T,rfl,λu' z=>z,(h1 e).2⟩,k _ F1 H1 g1 rfl⟩
theorem zk6 {v:V} {t:Value} {ta:TE} {T:String} {b:Bool} (ty:∀ H,TyOf K H v t) (h:Ev Γ ta false (dV v)) (hk:W.kitOne K t (.type T)=some b):Ev Γ (tCB (zkP K) (tCons ta (tCons (tC (.ty T)) tNil))) m (dB b):=λF0 Hb F H σ own Q a k =>
 h F0 Hb F H σ own _ a λv' F1 H1 g1 q1=>by
  cases q1
  exact .inl ⟨v,t,b,.inl ⟨T,rfl,hk⟩,ty H1,k _ F1 H1 g1 rfl⟩
theorem znc {ta:TE} {T:String} {b:Bool} (h:Ev Γ ta false (dL ds)) (hk:W.kitOne K (.type "list") (.type T)=some b):Ev Γ (tCB (zkP K) (tCons ta (tCons (tC (.ty T)) tNil))) m (dB b):=λF0 Hb F H σ own Q a k =>
 h F0 Hb F H σ own _ a λv' F1 H1 g1 ⟨p,vs,e1,e2,e3⟩=>by
  subst e1
  exact .inl ⟨.ref p,_,b,.inl ⟨T,rfl,hk⟩,.lst (g1.fh _ _ e2),k _ F1 H1 g1 rfl⟩
def foX (xc:ε->Addr) (Γx:Ctx) (fo:β->Oc):Except ε β->Oc
 | .ok v=>fo v
 | .error e=>.ex (xc e) Γx
def znx (r:Except ε α) (k:α->Except ε β):Except ε β:=match r with
 | .ok v=>k v
 | .error e=>.error e
theorem zjN {C:Addr} {ta:TA} (h:EvA Γ ta m ds) (hz:ds.length≤sizeLine) (w:Wk Γ Γx):Run E Γ (tSeq (zmc ta C E) u) (.ex C Γx):=λF0 Hb F H σ own D a q =>
 h F0 Hb F H σ own _ a λvs F1 H1 g1 q1=>⟨by rw [Paired.length q1];exact hz,q none F1 H1 σ own ((a.grow g1).wk w)⟩
def znQ (xc:ε->Addr) (m:Bool) (d:α->Ds):Except ε α->Rs
 | .ok v=>.va m (d v)
 | .error e=>.ex (xc e)
theorem zhq {ι:Type} {args:ι->List Ds} {pre:ι->Prop} {res:ι->Rs} {tr:TA} {xc:ε->Addr} {d:α->Ds} {r:Except ε α} {kk:α->Except ε β} (fo:β->Oc) (x:ι) (h:EvA Γ tr false ds) (ha:ds=args x) (hp:pre x) (hr:res x=znQ xc m d r) (w:Wk Γ Γx)
  (k:∀ v,r=.ok v->Run E Γ u (foX xc Γx fo (kk v))):Run E Γ (tSeq (zmD (callX (Spv args pre res) tr) E) u) (foX xc Γx fo (znx r kk)):=λF0 Hb F H σ own D a q=>by
 subst ha
 refine h F0 Hb F H σ own _ a λvs F1 H1 g1 q1=>⟨x,F1,g1.fh,by rw [List.append_nil];exact q1,hp,?_⟩
 rw [hr]
 cases r with
 | ok v=>exact λv' F' H' g _=>k v rfl F0 Hb F' H' σ own D (a.grow (g1.trans g)) q
 | error e=>exact λdct F' H' g=>q dct F' H' σ own ((a.grow (g1.trans g)).wk w)
theorem zlJ {ι:Type} {args:ι->List Ds} {pre:ι->Prop} {res:ι->Rs} {tr:TA} {xc:ε->Addr} {d:α->Ds} {r:Except ε α} {kk:α->Except ε β} {i:Nat} (fo:β->Oc) (x:ι) (h:EvA Γ tr false ds) (ha:ds=args x) (hp:pre x) (hr:res x=znQ xc m d r) (w:Wk Γ Γx)
  (k:∀ v,r=.ok v->Run E (Γ.set i (.va m (d v))) u (foX xc Γx fo (kk v))):Run E Γ (tSeq (zoP (callX (Spv args pre res) tr) i E) u) (foX xc Γx fo (znx r kk)):=λF0 Hb F H σ own D a q=>by
 subst ha
 refine h F0 Hb F H σ own _ a λvs F1 H1 g1 q1=>⟨x,F1,g1.fh,by rw [List.append_nil];exact q1,hp,?_⟩
 rw [hr]
 cases r with
 | ok v=>exact λv' F' H' g qv=>k v rfl F0 Hb F' H' _ own D ((a.grow (g1.trans g)).set i ((d v).up (part_old (a.g.h.trans g1.h)) qv)) q
 | error e=>exact λdct F' H' g=>q dct F' H' σ own ((a.grow (g1.trans g)).wk w)
theorem zm7 {CS:Addr} {i j:Nat} {tb:TSX} {xc:ε->Addr} {r:Except ε α} (Gok:α->Ctx) (Gerr:Ctx) (Gj:Except ε α->Ctx) (hb:∀ E',Run E' Γ (atE E' tb) (foX xc Gerr (λv=>.nx (Gok v)) r))
  (w1:∀ v,r=.ok v->Wk (Gok v) (Gj r)) (w2:∀ e,r=.error e->W.exmOne K (.ref (xc e)) (.ref CS)=some true∧Wk ((Gerr.set j (.va true (dE (xc e)))).set i .no) (Gj r)) (k:Run E (Gj r) u o) :
  Run E Γ (tSeq (zpK K CS i j tb) u) o:=λF0 Hb F H σ own D a q=>by
 refine hb _ F0 Hb F H σ own { D with nx:=u D } a ?_
 cases r with
 | ok v=>exact λF1 H1 σ1 own1 a1=>k F0 Hb F1 H1 σ1 own1 D (a1.wk (w1 v rfl)) q
 | error e =>
  refine λdct F1 H1 σ1 own1 a1=>⟨xc e,rfl,(w2 e rfl).1,λx hx=>?_⟩
  obtain ⟨h1,h2,h3⟩:=a1.free (Grow.refl a1.fh) hx
  have g2:Grow F1 H1 (upd F1 x (excO x (xc e) [])) (upd H1 x (excO x (xc e) [])):=(Grow.refl a1.fh).new hx
  have a2:=(a1.grow g2).set j (m:=true) (d:=dE (xc e)) (v:=.ref x) ⟨x,rfl,zen h3 upd_same⟩
  refine k F0 Hb (upd F1 x (excO x (xc e) [])) _ _ own1 D (At.wk ?_ (w2 e rfl).2) q
  exact ⟨a2.g,a2.inj,a2.liv,λl s es=>by
   by_cases z:i=l
   ·subst z
    have hi:i<(Gerr.set j (.va true (dE (xc e)))).length:=by simpa using (List.getElem?_eq_some_iff.mp es).1
    rw [List.getElem?_set_self hi] at es
    cases es;trivial
   ·rw [List.getElem?_set_ne z] at es
    have:=a2.sl l s es
    rw [List.getElem?_set_ne z]
    exact this,by simp [a1.len]⟩
end
section
variable {E:XS} {Γ:Ctx} {K:W.Frag} {α β ε:Type} {u:TS}
def zpz (r:Except ε α):Option ε:=match r with
 | .ok _=>none
 | .error e=>some e
theorem zma {CS:Addr} {i j:Nat} {tb:TSX} {xc:ε->Addr} {r:Except ε α} (Gok:α->Ctx) (Gerr:Ctx) (Gj:Except ε α->Ctx) (fo:β->Oc) {kk:Except ε α->β} (hb:∀ E',Run E' Γ (atE E' tb) (foX xc Gerr (λv=>.nx (Gok v)) r))
  (w1:∀ v,Wk (Gok v) (Gj (.ok v))) (w2:∀ e,W.exmOne K (.ref (xc e)) (.ref CS)=some true∧Wk ((Gerr.set j (.va true (dE (xc e)))).set i .no) (Gj (.error e))) (k:∀ y,y=r->Run E (Gj y) u (fo (kk y))) :
  Run E Γ (tSeq (zpK K CS i j tb) u) (fo (Let r kk)) :=
 zm7 Gok Gerr Gj hb (λv e=>by rw [e];exact w1 v) (λe' e=>by rw [e];exact w2 e') (k r rfl)
theorem zj6 {xc:ε->Addr} {m:Bool} {d:α->Ds} {n:Nat} {r:Except ε α}:zof n (znQ xc m d r)=foX xc (List.replicate n .no) (λv=>.rt m (d v)) r:=by cases r<;>rfl
end
theorem exm_of {K:W.Frag} {C CS:Addr} (h1:W.subIn K (.ref CS) (.type "BaseException")=some true) (h2:W.mroIn K CS (.type "object")=some true) (h3:W.typeIn K (.ref CS)=some (.type "type")) (h4:W.subIn K (.ref C) (.ref CS)=some true):W.exmOne K (.ref C) (.ref CS)=some true:=by
 unfold W.exmOne
 rw [h1,if_pos (by simp)]
 unfold W.kitCls
 obtain ⟨cd,hc,_⟩:=Option.bind_eq_some_iff.mp h2
 dsimp only
 rw [hc,h3,if_pos (by simp),h4]
section
variable {P:Program} {w:World} {K:W.Frag} {mg:Str->Option Value} {base:Heap} {x qual:Str} {st:Stmt} {f:Addr} {fd:FuncData} {N ps:List Str} {k:Nat}
theorem Fun.okVX {ι:Type} {args:ι->List Ds} {pre:ι->Prop} {res:ι->Rs} (F:Fun K x qual st f fd) (S:FnScope N ps (defScope st)) (hl:∀ i,(args i).length=ps.length)
  (hbody:∀ (cdv:Value) (A:Around) (outer:List Env) (s:Shared) (H:Hp) (E:XK) (i:ι),Room k (A.deeper (envOfC qual (defScope st) s.heap.objs.size f cdv))->pre i->Own (zih (CXE P w) P w K mg base N qual (defScope st) f cdv A outer s H E) →
   ∃ t,zhG (zih (CXE P w) P w K mg base N qual (defScope st) f cdv A outer s H E) (zaq st) t∧(Run (λ_=>E) (startC N (args i)) (atE (λ_=>E) t) (zof N.length (res i))∨∃ m Δ,(∀ C,res i≠.ex C)∧res i=.va m dN∧Run (λ_=>E) (startC N (args i)) (atE (λ_=>E) t) (.nx Δ))) :
  FnOk P w K mg base (CXE P w) (k+1) f fd ps (Spv args pre res):=by
 refine F.okX S (λvs H Q E ⟨i,F',_,hv,_⟩=>by rw [Paired.length hv];exact hl i) λcdv A outer s H vs Q E hr ⟨i,F',hF,hv,hp,hq⟩=>?_
 obtain ⟨t,h1,h2⟩:=hbody cdv A outer s H E i hr hp ⟨rfl,rfl,rfl⟩
 have hq':ResOk H F' Q E (res i):=by
  cases e:res i with
  | va m d=>rw [e] at hq;exact hq
  | ow m ds=>rw [e] at hq;exact hq
  | ex C=>rw [e] at hq;exact hq
 refine ⟨t,h1,?_⟩
 rcases h2 with h2 | ⟨m,Δ,_,e,h2⟩
 ·exact zkL (t:=atE (λ_=>E) t) hF hv hq' h2
 ·rw [e] at hq'
  exact zit (t:=atE (λ_=>E) t) hF hv hq' h2
theorem Fun.okVXN {ι ε:Type} {args:ι->List Ds} {pre:ι->Prop} {xc:ε->Addr} {r:ι->Except ε Unit} {m:Bool} (F:Fun K x qual st f fd) (S:FnScope N ps (defScope st)) (hl:∀ i,(args i).length=ps.length)
  (hbody:∀ (cdv:Value) (A:Around) (outer:List Env) (s:Shared) (H:Hp) (E:XK) (i:ι),Room k (A.deeper (envOfC qual (defScope st) s.heap.objs.size f cdv))->pre i->Own (zih (CXE P w) P w K mg base N qual (defScope st) f cdv A outer s H E) →
   ∃ t Δ,zhG (zih (CXE P w) P w K mg base N qual (defScope st) f cdv A outer s H E) (zaq st) t∧Run (λ_=>E) (startC N (args i)) (atE (λ_=>E) t) (foX xc (List.replicate N.length .no) (λ_=>.nx Δ) (r i))) :
  FnOk P w K mg base (CXE P w) (k+1) f fd ps (Spv args pre λi=>znQ xc m (λ_=>dN) (r i)):=by
 refine F.okVX S hl λcdv A outer s H E i hr hp O=>?_
 obtain ⟨t,Δ,h1,h2⟩:=hbody cdv A outer s H E i hr hp O
 refine ⟨t,h1,?_⟩
 cases q:r i with
 | ok v =>
  rw [q] at h2
  exact .inr ⟨m,Δ,λC z=>(by cases z),rfl,h2⟩
 | error e =>
  rw [q] at h2
  exact .inl h2
end
end L2
namespace L2
open PySem PySem.Spec PyProof.Rows
def EvN (Γ:Ctx) (t:TE) (d:Ds):Prop:=∀ (F0 Hb F H:Hp) (σ:St) (own:Nat->Option Addr) (Q:VK),At F0 Hb F H σ own Γ->(∀ v F' H',Grow F H F' H'->d.pr (off F' H) v->Q v H')->t σ H Q
def zqe:Slot->Slot
 | .va _ d=>.va false d
 | _=>.no
def zo0 (Γ:Ctx):Ctx:=Γ.map zqe
theorem At.now {F0 Hb F H:Hp} {σ:St} {own:Nat->Option Addr} {Γ:Ctx} (a:At F0 Hb F H σ own Γ):At F H F H σ (λ_=>none) (zo0 Γ):=by
 refine ⟨Grow.refl a.fh,λ_ _ _ h=>(nomatch h),λ_ _ h=>(nomatch h),λi s e=>?_,by unfold zo0;rw [List.length_map];exact a.len⟩
 unfold zo0 at e
 rw [List.getElem?_map] at e
 cases q:Γ[i]? with
 | none=>rw [q] at e;cases e
 | some r =>
  rw [q] at e
  have e':zqe r=s:=Option.some.inj e
  subst e'
  have h:=a.sl i r q
  cases r with
  | va m d =>
   obtain ⟨x,h1,h2⟩:=h
   exact ⟨x,h1,d.up part_sub h2⟩
  | no=>trivial
  | ow m ds=>trivial
  | ob m C p dx fs=>trivial
  | ol p ds=>trivial
  | tl d=>trivial
theorem zmu {Γ:Ctx} {t:TE} {d:Ds} (h:Ev (zo0 Γ) t true d):EvN Γ t d:=λF0 Hb F H σ own Q a k=>h F H F H σ _ Q a.now λv F' H' g q=>k v F' H' g q
theorem At.setTl {F0 Hb F H F' H':Hp} {σ:St} {own:Nat->Option Addr} {Γ:Ctx} (a:At F0 Hb F H σ own Γ) (g:Grow F H F' H') (i:Nat) {d:Ds} {v:V} (h:d.pr (off F' H) v):At F0 Hb F H' (σ.set i (some v)) own (Γ.set i (.tl d)):=by
 have gF:Grow F H F H':=⟨Same.refl _,a.fh.trans g.h,g.h,λ_ _ z=>z⟩
 have a':=a.grow gF
 refine ⟨a'.g,a'.inj,a'.liv,λj s e=>?_,by simp [a.len]⟩
 by_cases z:i=j
 ·subst z
  have hi:i<Γ.length:=by simpa using (List.getElem?_eq_some_iff.mp e).1
  rw [List.getElem?_set_self hi] at e
  cases e
  rw [join_set_self (by rw [a.len];exact hi)]
  refine ⟨v,off F' H,rfl,zgH.trans g.fh,λb o q=>?_,λj p q=>?_,h⟩
  ·have hb:=(off_some.mp q).1
   exact ⟨a.fh.free hb,a.g.h.free hb⟩
  ·have:=a.liv j p q
   cases w:off F' H p with
   | none=>rfl
   | some o=>exact absurd (off_some.mp w).1 this
 ·rw [List.getElem?_set_ne z] at e
  rw [zdD z]
  exact a'.sl j s e
section
variable {E:XS} {Γ:Ctx} {te:TE} {u:TS} {o:Oc} {d d1 d2:Ds} {K:W.Frag} {i j:Nat}
theorem zlx (h:EvN Γ te d) (k:Run E (Γ.set i (.tl d)) u o):Run E Γ (tSeq (zgV te (zbx i)) u) o:=λF0 Hb F H σ own D a q =>
 h F0 Hb F H σ own _ a λv F' H' g p=>k F0 Hb F H' _ own D (a.setTl g i p) q
theorem zl9 {α β:Type} {x:α} (f:α->Ds) (fo:β->Oc) {kk:α->β} (h:EvN Γ te (f x)) (k:∀ y,y=x->Run E (Γ.set i (.tl (f y))) u (fo (kk y))):Run E Γ (tSeq (zgV te (zbx i)) u) (fo (Let x kk)):=zlx h (k x rfl)
theorem zh1 (h:EvN Γ te (dT [d1,d2])) (k:Run E ((Γ.set i (.tl d1)).set j (.tl d2)) u o):Run E Γ (tSeq (zgV te (zly K 2 (zdM (zbx i) (zdM (zbx j) zms)))) u) o:=λF0 Hb F H σ own D a q =>
 h F0 Hb F H σ own _ a λv F' H' g ⟨p,vs,e1,e2,e3⟩=>by
  cases e3 with | cons q1 t=>cases t with | cons q2 t =>
   cases t
   have a1:=a.setTl g i q1
   refine ⟨p,_,e1,.inl (.inl ((zgH.trans g.fh) _ _ e2)),rfl,_,_,rfl,_,_,rfl,rfl,k F0 Hb F H' _ own D ?_ q⟩
   refine ⟨a1.g,a1.inj,a1.liv,λl s e=>?_,by simp [a.len]⟩
   by_cases z:j=l
   ·subst z
    have hj:j<(Γ.set i (.tl d1)).length:=by simpa using (List.getElem?_eq_some_iff.mp e).1
    rw [List.getElem?_set_self hj] at e
    cases e
    rw [join_set_self (by simpa [a.len] using hj)]
    refine ⟨_,off F' H,rfl,zgH.trans g.fh,λb o q=>?_,λl p q=>?_,q2⟩
    ·have hb:=(off_some.mp q).1
     exact ⟨a.fh.free hb,a.g.h.free hb⟩
    ·have:=a.liv l p q
     cases w:off F' H p with
     | none=>rfl
     | some o=>exact absurd (off_some.mp w).1 this
   ·rw [List.getElem?_set_ne z] at e
    rw [zdD z]
    exact a1.sl l s e
end
def shS:Slot->Slot
 | .tl d=>.va true d
 | s=>s
def shC (Γ:Ctx):Ctx:=Γ.map shS
def zlb (Γ:Ctx):Bool:=Γ.all λs=>match s with | .ob _ _ _ _ _=>false | _=>true
open Classical in
noncomputable def wide (F Hb H:Hp) (own:Nat->Option Addr):Hp:=λa=>match F a with
 | some o=>some o
 | none=>if Hb a=none∧∀ j,own j≠some a then H a else none
theorem wide_f {F Hb H:Hp} {own:Nat->Option Addr}:Same F (wide F Hb H own):=λa o q=>by unfold wide;rw [q]
theorem zn6 {F Hb H:Hp} {own:Nat->Option Addr} (e:Same F H):Same (wide F Hb H own) H:=λa o q=>by
 unfold wide at q
 cases z:F a with
 | some o'=>rw [z] at q;cases q;exact e _ _ z
 | none =>
  rw [z] at q
  dsimp only at q
  split at q
  ·exact q
  ·cases q
theorem At.wide {F0 Hb F H:Hp} {σ:St} {own:Nat->Option Addr} {Γ:Ctx} (a:At F0 Hb F H σ own Γ) (hno:zlb Γ=true):At F0 Hb (wide F Hb H own) H σ own (shC Γ):=by
 refine ⟨⟨a.g.f.trans wide_f,zn6 a.fh,a.g.h,λb h1 h2=>?_⟩,a.inj,a.liv,λi s e=>?_,by unfold shC;rw [List.length_map];exact a.len⟩
 ·unfold L2.wide
  rw [a.g.no b h1 h2]
  dsimp only
  rw [if_neg (λz=>h1 z.1)]
 ·unfold shC at e
  rw [List.getElem?_map] at e
  cases q:Γ[i]? with
  | none=>rw [q] at e;cases e
  | some r =>
   rw [q] at e
   have e':shS r=s:=Option.some.inj e
   subst e'
   have h:=a.sl i r q
   cases r with
   | va m d =>
    obtain ⟨x,h1,h2⟩:=h
    exact ⟨x,h1,d.up (part_up wide_f) h2⟩
   | no=>trivial
   | ow m ds =>
    obtain ⟨p,vs,h1,h2,h3,h4,h5,h6⟩:=h
    refine ⟨p,vs,h1,h2,?_,h4,h5,pr_up (ds:=[]) (part_up wide_f) h6⟩
    unfold L2.wide
    rw [h3]
    dsimp only
    rw [if_neg (λz=>z.2 i h2)]
   | ol p ds =>
    obtain ⟨vs,h1,h2,h3,h4,h5,h6⟩:=h
    refine ⟨vs,h1,h2,?_,h4,h5,pr_up (ds:=[]) wide_f h6⟩
    unfold L2.wide
    rw [h3]
    dsimp only
    rw [if_neg (λz=>z.2 i h2)]
   | ob m C p dx fs =>
    have:=List.all_eq_true.mp hno _ (List.mem_of_getElem? q)
    cases this
   | tl d =>
    obtain ⟨x,R,h1,h2,h3,h4,h5⟩:=h
    refine ⟨x,h1,d.up (λb o w=>?_) h5⟩
    refine off_some.mpr ⟨(h3 b o w).2,?_⟩
    unfold L2.wide
    rw [(h3 b o w).1]
    dsimp only
    rw [if_pos ⟨(h3 b o w).2,λj z=>by rw [h4 j b z] at w;cases w⟩]
    exact h2 b o w
section
variable {E:XS} {Γ:Ctx} {t:TE} {d:Ds} {m n:Bool} {u:TS} {o:Oc}
theorem Grow.only {F H H':Hp} (e:Same F H) (g:Same H H'):Grow F H F H':=⟨Same.refl _,e.trans g,g,λ_ _ z=>z⟩
theorem Ev.borrow {v:V} (hno:zlb Γ=true) (h:Ev (shC Γ) t m (dV v)):Ev Γ t n (dV v):=λF0 Hb F H σ own Q a k =>
 h F0 Hb _ H σ own Q (a.wide hno) λx F' H' g q=>k x F H' (Grow.only a.fh g.h) q
theorem EvT.borrow {t:TT} {b:Bool} (hno:zlb Γ=true) (h:EvT (shC Γ) t b):EvT Γ t b:=λF0 Hb F H σ own Q a k =>
 h F0 Hb _ H σ own Q (a.wide hno) λF' H' g=>k F H' (Grow.only a.fh g.h)
theorem zff {t:TS} (hno:zlb Γ=true) (k:Run E (shC Γ) t o):Run E Γ t o:=λF0 Hb F H σ own D a q=>k F0 Hb _ H σ own D (a.wide hno) q
def unS:Slot->Slot
 | .tl _=>.no
 | s=>s
def unC (Γ:Ctx):Ctx:=Γ.map unS
theorem At.spoil {F0 Hb F H:Hp} {σ:St} {own:Nat->Option Addr} (a:At F0 Hb F H σ own Γ) (hno:zlb Γ=true) {p:Addr} (w:HO) (h1:F p=none) (h2:Hb p=none) (h3:∀ j,own j≠some p):At F0 Hb F (upd H p w) σ own (unC Γ):=by
 refine ⟨a.g.setH h1 h2,a.inj,λj q e=>?_,λi s e=>?_,by unfold unC;rw [List.length_map];exact a.len⟩
 ·have:q≠p:=λz=>h3 j (z ▸ e)
  rw [upd_ne this];exact a.liv j q e
 ·unfold unC at e
  rw [List.getElem?_map] at e
  cases q:Γ[i]? with
  | none=>rw [q] at e;cases e
  | some r =>
   rw [q] at e
   have e':unS r=s:=Option.some.inj e
   subst e'
   have h:=a.sl i r q
   cases r with
   | va m d=>exact h
   | no=>trivial
   | ow m ds =>
    obtain ⟨x,vs,q1,q2,q3,q4,q5,q6⟩:=h
    have:x≠p:=λz=>h3 i (z ▸ q2)
    exact ⟨x,vs,q1,q2,q3,q4,by rw [upd_ne this];exact q5,q6⟩
   | ol x ds =>
    obtain ⟨vs,q1,q2,q3,q4,q5,q6⟩:=h
    have:x≠p:=λz=>h3 i (z ▸ q2)
    exact ⟨vs,q1,q2,q3,q4,by rw [upd_ne this];exact q5,q6⟩
   | ob m C p dx fs =>
    have:=List.all_eq_true.mp hno _ (List.mem_of_getElem? q)
    cases this
   | tl d=>trivial
def EvW (Γ:Ctx) (t:TE) (n:Nat):Prop:=∀ (F0 Hb F H:Hp) (σ:St) (own:Nat->Option Addr) (Q:VK),At F0 Hb F H σ own Γ →
 (∀ p vs H',Same H H'->F p=none->Hb p=none->(∀ j,own j≠some p)->H' p=some (.lst vs)->vs.length=n->Q (.ref p) H')->t σ H Q
theorem zns {i:Nat} {ds:List Ds} (e:Γ[i]?=some (.tl (dL ds))):EvW Γ (tVar i) ds.length:=λF0 Hb F H σ own Q a k=>by
 obtain ⟨x,R,h1,h2,h3,h4,p,vs,rfl,h6,h7⟩:=a.sl i _ e
 have hi:i<σ.length:=by rw [a.len];exact (List.getElem?_eq_some_iff.mp e).1
 rw [List.getElem?_eq_getElem hi] at h1
 have e':σ[i]=some (.ref p):=h1
 exact ⟨_,by rw [List.getElem?_eq_getElem hi,e'],k p vs H (Same.refl _) (h3 p _ h6).1 (h3 p _ h6).2 (λj z=>by rw [h4 j p z] at h6;cases h6) (h2 _ _ h6) (Paired.length h7)⟩
theorem zjo {K:W.Frag} {to te:TE} {v:V} {l:Nat} (hno:zlb Γ=true) (h:EvW Γ to l) (hv:Ev Γ te m (dV v)) (hz:l<sizeLine) (k:Run E (unC Γ) u o):Run E Γ (tSeq (tDrop (tBM K "list" rAppend to (tCons te tNil))) u) o:=λF0 Hb F H σ own D a q =>
 h F0 Hb F H σ own _ a λp vs H1 g1 h1 h2 h3 h4 h5=>⟨.inl ⟨rfl,_,SqL.of h4⟩,by
  have a1:=a.grow (Grow.only a.fh g1)
  refine hv F0 Hb F H1 σ own _ a1 λx F2 H2 g2 qx=>?_
  have a2:=a.grow (Grow.only a.fh (g1.trans g2.h))
  exact ⟨p,vs,x,rfl,rfl,g2.h _ _ h4,by omega,k F0 Hb F _ σ own D (a2.spoil hno _ h1 h2 h3) q⟩⟩
end
theorem ev_some {Γ:Ctx} {t:TE} {m:Bool} {α:Type} [Inhabited α] {f:α->Ds} {x:Option α} (h:Ev Γ t m (dOpt f x)) (hs:x.isSome=true):Ev Γ t m (f (x.getD default)):=by
 cases x with
 | none=>cases hs
 | some v=>exact h
def gS {α:Type} [Inhabited α] (x:Option α):α:=x.getD default
section
variable {E:XS} {Γ:Ctx} {te:TE} {u:TS} {K:W.Frag} {i j:Nat} {α β:Type} {f:α->Ds}
theorem zht {x:α} (d1 d2:α->Ds) (fo:β->Oc) {kk:α->β} (h:EvN Γ te (dT [d1 x,d2 x])) (k:∀ y,y=x->Run E ((Γ.set i (.tl (d1 y))).set j (.tl (d2 y))) u (fo (kk y))):Run E Γ (tSeq (zgV te (zly K 2 (zdM (zbx i) (zdM (zbx j) zms)))) u) (fo (Let x kk)):=zh1 h (k x rfl)
theorem zlh {xs:List α} (e:Γ[i]?=some (.tl (dL (xs.map f)))):EvW Γ (tVar i) xs.length:=by
 have:=zns e
 rwa [List.length_map] at this
theorem znL {x:Option (List α)} (e:Γ[i]?=some (.tl (dOpt (λxs=>dL (xs.map f)) x))) (hs:x.isSome=true):EvW Γ (tVar i) (gS x).length:=by
 cases x with
 | none=>cases hs
 | some v=>exact zlh e
end
section
variable {X:Cx} {K:W.Frag}
end
end L2
namespace Lat
abbrev Vc:=Nat->Int
inductive Sp (A:Vc->Prop):Vc->Prop
 | zero:Sp A (λ_=>0)
 | add {u a:Vc} (x:Int):Sp A u->A a->Sp A (λi=>u i+x*a i)
section
variable {A B:Vc->Prop} {u v a:Vc}
theorem Sp.conv (h:Sp A u) (e:∀ i,u i=v i):Sp A v:=(funext e:u=v) ▸ h
theorem Sp.mem (h:A a):Sp A a:=(Sp.add 1 Sp.zero h).conv λi=>by grind
theorem Sp.smul (x:Int) (h:Sp A u):Sp A (λi=>x*u i):=by
 induction h with
 | zero=>exact Sp.zero.conv λi=>by grind
 | @add u a z _ ha ih=>exact (Sp.add (x*z) ih ha).conv λi=>by grind
theorem Sp.plus (h:Sp A u) (k:Sp A v):Sp A (λi=>u i+v i):=by
 induction k with
 | zero=>exact h.conv λi=>by grind
 | @add w a z _ ha ih=>exact (Sp.add z ih ha).conv λi=>by grind
theorem Sp.lin (x y:Int) (h:Sp A u) (k:Sp A v):Sp A (λi=>x*u i+y*v i):=(h.smul x).plus (k.smul y)
theorem Sp.sub (k:∀ a,A a->Sp B a) (h:Sp A u):Sp B u:=by
 induction h with
 | zero=>exact Sp.zero
 | @add u a z _ ha ih=>exact (ih.plus ((k a ha).smul z)).conv λi=>by grind
theorem Sp.mono (k:∀ a,A a->B a) (h:Sp A u):Sp B u:=h.sub λa ha=>.mem (k a ha)
theorem Sp.at0 {i:Nat} (k:∀ a,A a->a i=0) (h:Sp A u):u i=0:=by
 induction h with
 | zero=>rfl
 | @add u a z _ ha ih=>show u i+z*a i=0;rw [ih,k a ha];simp
theorem Sp.split {a:Vc} (h:Sp (λu=>A u∨u=a) v):∃ w y,Sp A w∧∀ i,v i=w i+y*a i:=by
 induction h with
 | zero=>exact ⟨_,0,.zero,λi=>by grind⟩
 | @add u b z _ hb ih =>
  obtain ⟨w,y,hw,e⟩:=ih
  rcases hb with hb | rfl
  ·exact ⟨_,y,.add z hw hb,λi=>by grind⟩
  ·exact ⟨w,y+z,hw,λi=>by grind⟩
end
def comb:List Int->List Vc->Vc
 | x :: xs,a :: as=>λi=>x*a i+comb xs as i
 | _,_=>λ_=>0
theorem zdY {A:Vc->Prop}:∀ {xs:List Int} {as:List Vc},(∀ a∈as,A a)->Sp A (comb xs as)
 | [],_,_=>.zero
 | _ :: _,[],_=>.zero
 | x :: xs,a :: as,h=>(((Sp.mem (h a List.mem_cons_self)).smul x).plus (zdY (xs:=xs) λb hb=>h b (List.mem_cons_of_mem _ hb))).conv λi=>by simp only [comb]
theorem ziW:∀ {xs ys:List Int} {as:List Vc} (i:Nat),xs.length=ys.length->comb (List.zipWith (·-·) xs ys) as i=comb xs as i-comb ys as i
 | [],[],_,_,_=>by simp [comb]
 | x :: xs,y :: ys,[],_,_=>by simp [comb]
 | x :: xs,y :: ys,a :: as,i,h=>by
  have:=ziW (xs:=xs) (ys:=ys) (as:=as) i (by simpa using h)
  simp only [comb,List.zipWith_cons_cons,this]
  grind
theorem zf3:∀ {xs:List Int} {as:List Vc} (c:Int) (i:Nat),comb (xs.map (c*·)) as i=c*comb xs as i
 | [],_,_,_=>by simp [comb]
 | x :: xs,[],_,_=>by simp [comb]
 | x :: xs,a :: as,c,i=>by
  have:=zf3 (xs:=xs) (as:=as) c i
  simp only [comb,List.map_cons,this]
  grind
theorem zf2 {X B:Nat} {i:Nat}:∀ {xs:List Int} {as:List Vc},(∀ x∈xs,x.natAbs≤X)->(∀ a∈as,(a i).natAbs≤B)->(comb xs as i).natAbs≤as.length*(X*B)
 | [],_,_,_=>by simp [comb]
 | _ :: _,[],_,_=>by simp [comb]
 | x :: xs,a :: as,h,k=>by
  have h1:=zf2 (xs:=xs) (as:=as) (λy hy=>h y (List.mem_cons_of_mem _ hy)) λb hb=>k b (List.mem_cons_of_mem _ hb)
  have h2:(x*a i).natAbs≤X*B:=by rw [Int.natAbs_mul];exact Nat.mul_le_mul (h x List.mem_cons_self) (k a List.mem_cons_self)
  simp only [comb,List.length_cons,Nat.succ_mul]
  omega
theorem zmj:∀ (M N:Nat) (f:Nat->Nat),M<N->(∀ n,n<N->f n<M)->∃ i j,i<j∧j<N∧f i=f j
 | 0,N,f,h,k=>absurd (k 0 h) (Nat.not_lt_zero _)
 | M+1,N,f,h,k=>by
  by_cases q:∃ i,i<N-1∧f i=f (N-1)
  ·obtain ⟨i,h1,h2⟩:=q
   exact ⟨i,N-1,h1,by omega,h2⟩
  ·have q:∀ i,i<N-1->f i≠f (N-1):=λi h1 h2=>q ⟨i,h1,h2⟩
   obtain ⟨i,j,h1,h2,h3⟩:=zmj M (N-1) (λn=>if f (N-1)<f n then f n-1 else f n) (by omega) λn hn=>by
    have a:=k n (by omega)
    have b:=k (N-1) (by omega)
    have c:=q n hn
    show (if f (N-1)<f n then f n-1 else f n)<M
    split<;>omega
   refine ⟨i,j,h1,by omega,?_⟩
   have a:=q i (by omega)
   have b:=q j h2
   split at h3<;>split at h3<;>omega
def digs (b:Nat):Nat->Nat->List Int
 | 0,_=>[]
 | k+1,n=>((n%b:Nat):Int) :: digs b k (n/b)
theorem zc5 {b:Nat}:∀ {k n:Nat},(digs b k n).length=k
 | 0,_=>rfl
 | k+1,n=>by simp [digs,zc5]
theorem zgw {b:Nat} (hb:0<b):∀ {k n:Nat},∀ x∈digs b k n,0≤x∧x<b
 | 0,_,x,h=>by simp [digs] at h
 | k+1,n,x,h=>by
  simp only [digs,List.mem_cons] at h
  rcases h with rfl | h
  ·have:=Nat.mod_lt n hb
   omega
  ·exact zgw hb x h
theorem ziD {b:Nat} (hb:0<b):∀ {k n m:Nat},n<b^k->m<b^k->digs b k n=digs b k m->n=m
 | 0,n,m,h1,h2,_=>by simp at h1 h2;omega
 | k+1,n,m,h1,h2,e=>by
  simp only [digs,List.cons.injEq] at e
  have h3:=ziD hb (k:=k) (Nat.div_lt_of_lt_mul (by rw [Nat.pow_succ,Nat.mul_comm] at h1;exact h1)) (Nat.div_lt_of_lt_mul (by rw [Nat.pow_succ,Nat.mul_comm] at h2;exact h2)) e.2
  have h4:=Nat.div_add_mod n b
  have h5:=Nat.div_add_mod m b
  rw [h3] at h4
  omega
def enc (W:Nat) (u:Vc):List Nat->Nat
 | []=>0
 | h :: hs=>(u h+W).toNat+(2*W+1)*enc W u hs
theorem zmE {W:Nat} {u:Vc}:∀ {hs:List Nat},(∀ h∈hs,(u h).natAbs≤W)->enc W u hs<(2*W+1)^hs.length
 | [],_=>by simp [enc]
 | h :: hs,k=>by
  have h1:=zmE (hs:=hs) λg hg=>k g (List.mem_cons_of_mem _ hg)
  have h2:=k h List.mem_cons_self
  simp only [enc,List.length_cons,Nat.pow_succ]
  have h3:(2*W+1)*(enc W u hs+1)≤(2*W+1)*(2*W+1)^hs.length:=Nat.mul_le_mul_left _ h1
  rw [Nat.mul_comm ((2*W+1)^hs.length)]
  rw [Nat.mul_add] at h3
  omega
theorem zk9 {W:Nat} {u v:Vc}:∀ {hs:List Nat},(∀ h∈hs,(u h).natAbs≤W∧(v h).natAbs≤W)->enc W u hs=enc W v hs->∀ h∈hs,u h=v h
 | [],_,_,h,hh=>by simp at hh
 | g :: hs,k,e,h,hh=>by
  have h2:=k g List.mem_cons_self
  simp only [enc] at e
  have e1:((u g+W).toNat+(2*W+1)*enc W u hs)%(2*W+1)=((v g+W).toNat+(2*W+1)*enc W v hs)%(2*W+1):=by rw [e]
  rw [Nat.add_mul_mod_self_left,Nat.add_mul_mod_self_left,Nat.mod_eq_of_lt (by omega),Nat.mod_eq_of_lt (by omega)] at e1
  have e2:u g=v g:=by omega
  rcases List.mem_cons.mp hh with rfl | hh
  ·exact e2
  ·refine zk9 (λx hx=>k x (List.mem_cons_of_mem _ hx)) ?_ h hh
   rw [e1] at e
   exact Nat.eq_of_mul_eq_mul_left (show 0<2*W+1 by omega) (Nat.add_left_cancel e)
theorem zo4 {as:List Vc} {hs:List Nat} {B:Nat} (hl:hs.length<as.length) (hB:∀ a∈as,∀ h∈hs,(a h).natAbs≤B) :
  ∃ xs:List Int,xs.length=as.length∧(∃ x∈xs,x≠0)∧(∀ x∈xs,x.natAbs≤(2*(as.length*B)+1)^hs.length)∧∀ h∈hs,comb xs as h=0:=by
 generalize hY:2*(as.length*B)+1=Y
 have hY1:1≤Y:=by omega
 generalize hX:Y^hs.length=X
 have hX1:1≤X:=by rw [← hX];exact Nat.one_le_pow _ _ hY1
 have key:∀ n,∀ h∈hs,(comb (digs (X+1) as.length n) as h).natAbs≤as.length*(X*B):=λn h hh =>
  zf2 (λx hx=>by have:=zgw (by omega) x hx;omega) λa ha=>hB a ha h hh
 obtain ⟨i,j,h1,h2,h3⟩:=zmj ((2*(as.length*(X*B))+1)^hs.length) ((X+1)^as.length) (λn=>enc (as.length*(X*B)) (comb (digs (X+1) as.length n) as) hs) (by
  have e1:2*(as.length*(X*B))+1≤Y*X:=by
   rw [← hY,Nat.add_mul,Nat.one_mul,Nat.mul_assoc,Nat.mul_assoc,Nat.mul_comm B X]
   omega
  calc (2*(as.length*(X*B))+1)^hs.length≤(Y*X)^hs.length:=Nat.pow_le_pow_left e1 _
   _=X*X^hs.length:=by rw [Nat.mul_pow,hX]
   _=X^(hs.length+1):=by rw [Nat.pow_succ,Nat.mul_comm]
   _≤X^as.length:=Nat.pow_le_pow_right hX1 hl
   _<(X+1)^as.length:=Nat.pow_lt_pow_left (by omega) (by omega)) λn _=>zmE (key n)
 refine ⟨List.zipWith (·-·) (digs (X+1) as.length i) (digs (X+1) as.length j),by simp [zc5],?_,λx hx=>?_,λh hh=>?_⟩
 ·refine Classical.byContradiction λq=>?_
  have q:∀ x∈List.zipWith (·-·) (digs (X+1) as.length i) (digs (X+1) as.length j),x=0:=λx hx=>Classical.byContradiction λz=>q ⟨x,hx,z⟩
  have e:digs (X+1) as.length i=digs (X+1) as.length j:=by
   refine List.ext_getElem (by simp [zc5]) λk k1 k2=>?_
   have:=q _ (List.getElem_mem (l:=List.zipWith (·-·) (digs (X+1) as.length i) (digs (X+1) as.length j)) (n:=k) (by simp [zc5] at *;omega))
   rw [List.getElem_zipWith] at this
   omega
  have:=ziD (by omega) (Nat.lt_trans h1 h2) h2 e
  omega
 ·obtain ⟨k,hk,rfl⟩:=List.getElem_of_mem hx
  have hk':k<as.length:=by simpa [zc5] using hk
  rw [List.getElem_zipWith]
  have:=zgw (b:=X+1) (by omega) _ (List.getElem_mem (l:=digs (X+1) as.length i) (n:=k) (by rw [zc5];exact hk'))
  have:=zgw (b:=X+1) (by omega) _ (List.getElem_mem (l:=digs (X+1) as.length j) (n:=k) (by rw [zc5];exact hk'))
  omega
 ·rw [ziW _ (by simp [zc5])]
  have:=zk9 (λh hh=>⟨key i h hh,key j h hh⟩) h3 h hh
  omega
theorem first {u:Vc} {c:Nat} (h:u c≠0):∃ d,d≤c∧u d≠0∧∀ i,i<d->u i=0:=by
 induction c using Nat.strongRecOn with
 | _ c ih =>
  by_cases q:∃ i,i<c∧u i≠0
  ·obtain ⟨i,h1,h2⟩:=q
   obtain ⟨d,h3,h4⟩:=ih i h1 h2
   exact ⟨d,by omega,h4⟩
  ·exact ⟨c,Nat.le_refl c,h,λi hi=>Classical.byContradiction λz=>q ⟨i,hi,z⟩⟩
def bnd (k B C:Nat):Nat:=(k+1)*((2*((k+1)*C)+1)^k*B)
theorem zim {k l B C:Nat} (h:k≤l):bnd k B C≤bnd l B C:=by
 unfold bnd
 refine Nat.mul_le_mul (by omega) (Nat.mul_le_mul_right _ ?_)
 refine Nat.le_trans (Nat.pow_le_pow_right (by omega) h) (Nat.pow_le_pow_left ?_ _)
 have:=Nat.mul_le_mul_right C (show k+1≤l+1 by omega)
 omega
structure Wit (A:Vc->Prop) (B E:Nat) (hs:List Nat) (as:List Vc):Prop where
 len:hs.length=as.length
 mem:∀ a∈as,A a
 bd:∀ a∈as,∀ i,(a i).natAbs≤B
 van:∀ u,Sp A u->(∀ h∈hs,u h=0)->∀ i,u i=0
 hd:∀ h∈hs,∃ v,Sp A v∧(∀ i,i<h->v i=0)∧v h≠0∧∀ i,(v i).natAbs≤E
 ind:∀ xs:List Int,xs.length=as.length->(∀ i,comb xs as i=0)->∀ x∈xs,x=0
theorem Wit.nil {B E:Nat}:Wit (λ_=>False) B E [] [] where
 len:=rfl
 mem:=by simp
 bd:=by simp
 van:=λu h _ i=>h.at0 λ_ z=>z.elim
 hd:=by simp
 ind:=λxs h _ x hx=>by rw [List.length_eq_zero_iff.mp h] at hx;simp at hx
theorem Wit.rel {A:Vc->Prop} {B C E:Nat} {hs:List Nat} {as:List Vc} {u:Vc} (W:Wit A B E hs as) (hBC:B≤C) (hu:∀ h∈hs,(u h).natAbs≤C) :
  ∃ (x:Int) (xs:List Int),x≠0∧xs.length=as.length∧x.natAbs≤(2*((as.length+1)*C)+1)^as.length∧(∀ y∈xs,y.natAbs≤(2*((as.length+1)*C)+1)^as.length)∧∀ h∈hs,x*u h+comb xs as h=0:=by
 obtain ⟨xs,h1,⟨z,hz,hz0⟩,h3,h4⟩:=zo4 (as:=u :: as) (hs:=hs) (B:=C) (by simp [W.len]) λa ha h hh=>by
  rcases List.mem_cons.mp ha with rfl | ha
  ·exact hu h hh
  ·exact Nat.le_trans (W.bd a ha h) hBC
 rw [W.len,List.length_cons] at h3
 match xs,h1 with
 | x :: xs,h1 =>
  refine ⟨x,xs,λq=>?_,by simpa using h1,h3 x List.mem_cons_self,λy hy=>h3 y (List.mem_cons_of_mem _ hy),λh hh=>by have:=h4 h hh;simpa [comb] using this⟩
  subst q
  have k1:∀ i,comb xs as i=0:=W.van _ (zdY W.mem) λh hh=>by have:=h4 h hh;simpa [comb] using this
  have k2:=W.ind xs (by simpa using h1) k1
  rcases List.mem_cons.mp hz with rfl | hz
  ·exact hz0 rfl
  ·exact hz0 (k2 z hz)
theorem Wit.step {A:Vc->Prop} {B E:Nat} {hs:List Nat} {as:List Vc} {a:Vc} (W:Wit A B E hs as) (ha:∀ i,(a i).natAbs≤B) (hE:bnd as.length B B≤E) :
  ∃ hs' as',Wit (λu=>A u∨u=a) B E hs' as'∧as'.length≤as.length+1:=by
 obtain ⟨x,xs,hx,hl,b1,b2,h0⟩:=W.rel (u:=a) (Nat.le_refl B) λh _=>ha h
 have sp1:Sp A (comb xs as):=zdY W.mem
 have up:∀ u,Sp A u->Sp (λu=>A u∨u=a) u:=λu hu=>hu.mono λ_=>.inl
 have hva:Sp (λu=>A u∨u=a) (λi=>x*a i+comb xs as i):=((Sp.mem (.inr rfl)).smul x).plus (up _ sp1)
 by_cases q:∃ i,x*a i+comb xs as i≠0
 ·obtain ⟨i,hi⟩:=q
  obtain ⟨c,_,hc,hc0⟩:=first (u:=λi=>x*a i+comb xs as i) hi
  refine ⟨c :: hs,a :: as,⟨by simp [W.len],λb hb=>?_,λb hb=>?_,λu hu hv=>?_,λh hh=>?_,λys hy hys=>?_⟩,by simp⟩
  ·rcases List.mem_cons.mp hb with rfl | hb
   ·exact .inr rfl
   ·exact .inl (W.mem b hb)
  ·rcases List.mem_cons.mp hb with rfl | hb
   ·exact ha
   ·exact W.bd b hb
  ·obtain ⟨w,y,hw,e⟩:=hu.split
   have k1:∀ i,x*w i-y*comb xs as i=0:=λi=>by
    have:=W.van _ (hw.lin x (-y) sp1) (λh hh=>by
     have e1:=e h
     rw [hv h (List.mem_cons_of_mem _ hh)] at e1
     have e2:=h0 h hh
     grind) i
    grind
   have k2:y=0:=by
    have e1:=e c
    rw [hv c List.mem_cons_self] at e1
    have e2:=k1 c
    have e3:y*(x*a c+comb xs as c)=0:=by grind
    rcases Int.mul_eq_zero.mp e3 with z | z
    ·exact z
    ·exact (hc z).elim
   intro i
   have e1:=e i
   have e2:=k1 i
   have e3:x*u i=0:=by grind
   exact (Int.mul_eq_zero.mp e3).resolve_left hx
  ·rcases List.mem_cons.mp hh with rfl | hh
   ·refine ⟨_,hva,hc0,hc,λi=>?_⟩
    have e1:=zf2 (i:=i) b2 λb hb=>W.bd b hb i
    have e2:(x*a i).natAbs≤(2*((as.length+1)*B)+1)^as.length*B:=by rw [Int.natAbs_mul];exact Nat.mul_le_mul b1 (ha i)
    unfold bnd at hE
    rw [Nat.add_mul,Nat.one_mul] at hE
    show (x*a i+comb xs as i).natAbs≤E
    omega
   ·obtain ⟨v,q1,q2⟩:=W.hd h hh
    exact ⟨v,up v q1,q2⟩
  ·match ys,hy with
   | y :: ys,hy =>
    have k1:∀ i,x*comb ys as i-y*comb xs as i=0:=λi=>by
     have:=W.van _ ((zdY (xs:=ys) W.mem).lin x (-y) sp1) (λh hh=>by
      have e1:=hys h
      simp only [comb] at e1
      have e2:=h0 h hh
      grind) i
     grind
    have k2:y=0:=by
     have e1:=hys c
     simp only [comb] at e1
     have e2:=k1 c
     have e3:y*(x*a c+comb xs as c)=0:=by grind
     rcases Int.mul_eq_zero.mp e3 with z | z
     ·exact z
     ·exact (hc z).elim
    subst k2
    have k3:=W.ind ys (by simpa using hy) λi=>by have:=hys i;simpa [comb] using this
    intro z hz
    rcases List.mem_cons.mp hz with rfl | hz
    ·rfl
    ·exact k3 z hz
 ·have q:∀ i,x*a i+comb xs as i=0:=λi=>Classical.byContradiction λz=>q ⟨i,z⟩
  refine ⟨hs,as,⟨W.len,λb hb=>.inl (W.mem b hb),W.bd,λu hu hv=>?_,λh hh=>?_,W.ind⟩,by omega⟩
  ·obtain ⟨w,y,hw,e⟩:=hu.split
   have k1:∀ i,x*w i-y*comb xs as i=0:=λi=>by
    have:=W.van _ (hw.lin x (-y) sp1) (λh hh=>by
     have e1:=e h
     rw [hv h hh] at e1
     have e2:=h0 h hh
     grind) i
    grind
   intro i
   have e1:=e i
   have e2:=k1 i
   have e3:=q i
   have e4:x*u i=0:=by grind
   exact (Int.mul_eq_zero.mp e4).resolve_left hx
  ·obtain ⟨v,q1,q2⟩:=W.hd h hh
   exact ⟨v,up v q1,q2⟩
theorem Wit.small {A:Vc->Prop} {B C E:Nat} {hs:List Nat} {as:List Vc} {u:Vc} (W:Wit A B E hs as) (hBC:B≤C) (hs_:Sp A u) (hu:∀ h∈hs,(u h).natAbs≤C) (i:Nat):(u i).natAbs≤bnd as.length B C:=by
 obtain ⟨x,xs,hx,hl,b1,b2,h0⟩:=W.rel hBC hu
 have k:=W.van _ ((hs_.smul x).plus (zdY (xs:=xs) W.mem)) h0 i
 have e1:=zf2 (i:=i) b2 λb hb=>W.bd b hb i
 have e2:(x*u i).natAbs=(comb xs as i).natAbs:=by
  have k:x*u i+comb xs as i=0:=k
  omega
 rw [Int.natAbs_mul] at e2
 have e3:(u i).natAbs≤x.natAbs*(u i).natAbs:=Nat.le_mul_of_pos_left _ (Int.natAbs_pos.mpr hx)
 unfold bnd
 rw [Nat.add_mul]
 omega
theorem Wit.head {A:Vc->Prop} {B E:Nat} {hs:List Nat} {as:List Vc} {u:Vc} {h:Nat} (W:Wit A B E hs as) (hu:Sp A u) (h0:∀ i,i<h->u i=0) (h1:u h≠0):h∈hs:=by
 refine Classical.byContradiction λq=>?_
 have hm:∃ n,∀ g∈hs,g<n:=by
  clear W q
  induction hs with
  | nil=>exact ⟨0,by simp⟩
  | cons g hs ih =>
   obtain ⟨n,hn⟩:=ih
   exact ⟨max n (g+1),λk hk=>by
    rcases List.mem_cons.mp hk with rfl | hk
    ·omega
    ·have:=hn k hk;omega⟩
 obtain ⟨n,hn⟩:=hm
 have main:∀ (d t:Nat) (u:Vc),n-t=d->h<t->Sp A u->u h≠0->(∀ g∈hs,g<t->u g=0)->False:=by
  intro d
  induction d with
  | zero=>exact λt u e _ hu h1 k=>h1 (W.van u hu (λg hg=>k g hg (by have:=hn g hg;omega)) h)
  | succ d ih =>
   intro t u e ht hu h1 k
   by_cases z:t∈hs
   ·obtain ⟨v,v1,v2,v3,_⟩:=W.hd t z
    refine ih (t+1) _ (by omega) (by omega) (hu.lin (v t) (-(u t)) v1) ?_ λg hg hgt=>?_
    ·show v t*u h+-u t*v h≠0
     rw [v2 h ht]
     intro y
     rcases Int.mul_eq_zero.mp (show v t*u h=0 by grind) with y | y
     ·exact v3 y
     ·exact h1 y
    ·show v t*u g+-u t*v g=0
     by_cases y:g=t
     ·subst y;grind
     ·rw [v2 g (by omega),k g hg (by omega)];grind
   ·exact ih (t+1) u (by omega) (by omega) hu h1 λg hg hgt=>k g hg (by
     have:g≠t:=λy=>z (y ▸ hg)
     omega)
 exact main _ (h+1) u rfl (by omega) hu h1 λg hg hgt=>by
  by_cases y:g=h
  ·exact (q (y ▸ hg)).elim
  ·exact h0 g (by omega)
end Lat
namespace L2
open PySem PySem.Spec PyProof.Rows
def whl {S:Type} (c:S->Bool) (f:S->S):Nat->S->S
 | 0,s=>s
 | n+1,s=>bif c s then whl c f n (f s) else s
theorem ziX {S:Type} {c:S->Bool} {f:S->S} {s:S} (h:c s=false):∀ n,whl c f n s=s
 | 0=>rfl
 | n+1=>by rw [whl,h];rfl
theorem zme {S:Type} {c:S->Bool} {f:S->S} {s:S} (h:c s=true) (n:Nat):whl c f (n+1) s=whl c f n (f s):=by rw [whl,h];rfl
theorem zh9 {S:Type} {c:S->Bool} {f:S->S} {I:S->Prop} {μ:S->Nat} (hs:∀ s,I s->c s=true->I (f s)∧μ (f s)<μ s):∀ {n:Nat} {s:S},I s->μ s≤n->I (whl c f n s)∧c (whl c f n s)=false
 | 0,s,h,k=>⟨h,by
  show c s=false
  cases q:c s with
  | false=>rfl
  | true=>have:=(hs s h q).2;omega⟩
 | n+1,s,h,k=>by
  cases q:c s with
  | false=>rw [ziX q];exact ⟨h,q⟩
  | true =>
   rw [zme q]
   exact zh9 hs (hs s h q).1 (by have:=(hs s h q).2;omega)
section
variable {E:XS} {Γ:Ctx} {β:Type} {u:TS}
theorem zkJ {S:Type} {tc:TT} {tb:TS} {s0:S} (G:S->Ctx) (fo:β->Oc) {kk:S->β} (c:S->Bool) (f:S->S) (I:S->Prop) (μ:S->Nat) (n:Nat) (w:Wk Γ (G s0)) (h0:I s0) (hn:μ s0≤n)
  (body:∀ s,I s->EvT (G s) tc (c s)∧(c s=true->(I (f s)∧μ (f s)<μ s)∧Run E (G s) tb (.nx (G (f s)))))
  (k:∀ s,s=whl c f n s0->I s->c s=false->Run E (G s) u (fo (kk s))):Run E Γ (tSeq (zmr tc tb) u) (fo (Let (whl c f n s0) kk)):=λF0 Hb F H σ own D a q=>by
 obtain ⟨i1,i2⟩:=zh9 (n:=n) (λs hi hc=>((body s hi).2 hc).1) h0 hn
 have kf:=k _ rfl i1 i2
 refine ⟨λm σ H=>∃ s F own,At F0 Hb F H σ own (G s)∧I s∧μ s=m∧∃ j,μ s≤j∧whl c f j s=whl c f n s0,⟨_,s0,F,own,a.wk w,h0,rfl,n,hn,rfl⟩,?_⟩
 rintro m σ1 H1 ⟨s,F1,own1,a1,hI,rfl,j,hj,ej⟩
 obtain ⟨b1,b2⟩:=body s hI
 refine b1 F0 Hb F1 H1 σ1 own1 _ a1 λF2 H2 g=>?_
 cases e:c s with
 | false =>
  rw [if_neg Bool.false_ne_true]
  rw [ziX e] at ej
  rw [← ej] at kf
  exact kf F0 Hb F2 H2 σ1 own1 D (a1.grow g) (by rw [ej];exact q)
 | true =>
  rw [if_pos rfl]
  obtain ⟨⟨c1,c2⟩,c3⟩:=b2 e
  refine ⟨λσ' H'=>∃ F own,At F0 Hb F H' σ' own (G (f s)),λσ' H' ⟨F',own',a'⟩=>⟨_,c2,f s,F',own',a',c1,rfl,j-1,by omega,?_⟩,?_⟩
  ·rw [← ej,show j=(j-1)+1 by omega,zme e];simp
  ·exact c3 F0 Hb F2 H2 σ1 own1 _ (a1.grow g) λF' H' σ' own' a'=>⟨F',own',a'⟩
end
end L2
namespace Lat
def vec (l:List Int):Vc:=λi=>l.getD i 0
def hd:List Int->Nat
 | []=>0
 | x :: xs=>bif (!decide (x=0)) then 0 else hd xs+1
def add (l s:List Int):List Int:=List.map (λ(x:Int×Int)=>x.1+x.2) (List.zip l s)
def sub (l s:List Int):List Int:=List.map (λ(x:Int×Int)=>x.1-x.2) (List.zip l s)
def mul (l:List Int) (c:Int):List Int:=List.map (λ(x:Int)=>x*c) l
theorem zg5 {x:Int} {xs:List Int}:vec (x :: xs) 0=x:=rfl
theorem zaP {x:Int} {xs:List Int} {i:Nat}:vec (x :: xs) (i+1)=vec xs i:=by simp [vec]
theorem zct {l:List Int} {i:Nat} (h:l.length≤i):vec l i=0:=by simp [vec,List.getD_eq_getElem?_getD,List.getElem?_eq_none h]
theorem zhM {l:List Int} {i:Nat} (h:i<l.length):vec l i∈l:=by
 simp only [vec,List.getD_eq_getElem?_getD,List.getElem?_eq_getElem h,Option.getD_some];exact List.getElem_mem h
theorem zfJ {l:List Int} {x:Int} (h:x∈l):∃ i,i<l.length∧vec l i=x:=by
 obtain ⟨i,hi,e⟩:=List.getElem_of_mem h
 exact ⟨i,hi,by simp [vec,List.getD_eq_getElem?_getD,List.getElem?_eq_getElem hi,e]⟩
theorem vec_ext {l s:List Int} (h:l.length=s.length) (e:∀ i,vec l i=vec s i):l=s:=by
 refine List.ext_getElem h λi h1 h2=>?_
 have:=e i
 simpa [vec,List.getD_eq_getElem?_getD,List.getElem?_eq_getElem h1,List.getElem?_eq_getElem h2] using this
theorem zmk {l:List Int} {B:Nat} (h:∀ x∈l,x.natAbs≤B) (i:Nat):(vec l i).natAbs≤B:=by
 by_cases q:i<l.length
 ·exact h _ (zhM q)
 ·rw [zct (by omega)];exact Nat.zero_le _
theorem zgE {l s:List Int} (h:l.length=s.length):(sub l s).length=l.length:=by simp [sub,h]
theorem zjU {l s:List Int} (h:l.length=s.length):(add l s).length=l.length:=by simp [add,h]
theorem zaM {l:List Int} {c:Int}:(mul l c).length=l.length:=by simp [mul]
theorem zev:∀ {l s:List Int} {i:Nat},l.length=s.length->vec (sub l s) i=vec l i-vec s i
 | [],[],i,_=>by simp [sub,vec]
 | x :: l,y :: s,0,_=>rfl
 | x :: l,y :: s,i+1,h=>by
  have:=zev (l:=l) (s:=s) (i:=i) (by simpa using h)
  rw [zaP,zaP,← this]
  exact zaP
theorem zgF:∀ {l s:List Int} {i:Nat},l.length=s.length->vec (add l s) i=vec l i+vec s i
 | [],[],i,_=>by simp [add,vec]
 | x :: l,y :: s,0,_=>rfl
 | x :: l,y :: s,i+1,h=>by
  have:=zgF (l:=l) (s:=s) (i:=i) (by simpa using h)
  rw [zaP,zaP,← this]
  exact zaP
theorem zda:∀ {l:List Int} {c:Int} {i:Nat},vec (mul l c) i=vec l i*c
 | [],c,i=>by simp [mul,vec]
 | x :: l,c,0=>rfl
 | x :: l,c,i+1=>by
  have:=zda (l:=l) (c:=c) (i:=i)
  rw [zaP,← this]
  exact zaP
theorem zoS:∀ {l:List Int},hd l≤l.length
 | []=>Nat.le_refl 0
 | x :: xs=>by
  unfold hd
  cases (!decide (x=0))
  ·exact Nat.succ_le_succ zoS
  ·exact Nat.zero_le _
theorem za5:∀ {l:List Int} {i:Nat},i<hd l->vec l i=0
 | [],i,h=>absurd h (Nat.not_lt_zero i)
 | x :: xs,i,h=>by
  unfold hd at h
  by_cases q:x=0
  ·rw [show (!decide (x=0))=false by simp [q]] at h
   have h:i<hd xs+1:=h
   cases i with
   | zero=>exact q
   | succ i=>rw [zaP];exact za5 (by omega)
  ·rw [show (!decide (x=0))=true by simp [q]] at h
   exact absurd h (Nat.not_lt_zero i)
theorem zfz:∀ {l:List Int},hd l<l.length->vec l (hd l)≠0
 | [],h=>absurd h (Nat.not_lt_zero _)
 | x :: xs,h=>by
  unfold hd at h ⊢
  by_cases q:x=0
  ·rw [show (!decide (x=0))=false by simp [q]] at h ⊢
   have h:hd xs+1<xs.length+1:=h
   show vec (x :: xs) (hd xs+1)≠0
   rw [zaP]
   exact zfz (by omega)
  ·rw [show (!decide (x=0))=true by simp [q]]
   exact q
theorem zko {l:List Int} {d:Nat} (h:vec l d≠0) (k:∀ i,i<d->vec l i=0):hd l=d:=by
 have h1:¬ hd l<d:=λq=>by
  have hl:d<l.length:=Nat.lt_of_not_le λz=>h (zct z)
  exact zfz (by omega) (k _ q)
 have h2:¬ d<hd l:=λq=>h (za5 q)
 omega
theorem zn1 {l:List Int} {d:Nat} (hl:d≤l.length) (k:∀ i,i<d->vec l i=0):d≤hd l:=by
 refine Nat.le_of_not_lt λq=>?_
 exact zfz (by omega) (k _ q)
def quo (l s:List Int):Int:=vec l (hd s)/vec s (hd s)
def zh2 (l s:List Int):List Int:=bif (!decide (quo l s=0)) then sub l (mul s (quo l s)) else l
def low (l:List Int) (ss:List (List Int)):List Int:=ss.foldl zh2 l
theorem zgz {l s:List Int} (h:l.length=s.length):(zh2 l s).length=l.length:=by
 unfold zh2
 cases (!decide (quo l s=0))
 ·rfl
 ·show (sub l (mul s (quo l s))).length=_
  rw [zgE (by rw [zaM];exact h)]
theorem zfw {l s:List Int} (h:l.length=s.length) (i:Nat):vec (zh2 l s) i=vec l i-vec s i*quo l s:=by
 unfold zh2
 by_cases q:quo l s=0
 ·rw [show (!decide (quo l s=0))=false by simp [q],q]
  show vec l i=_
  omega
 ·rw [show (!decide (quo l s=0))=true by simp [q]]
  show vec (sub l (mul s (quo l s))) i=_
  rw [zev (by rw [zaM];exact h),zda]
def Ech (n:Nat):Nat->List (List Int)->Prop
 | _,[]=>True
 | lo,s :: ss=>s.length=n∧lo≤hd s∧hd s<n∧0<vec s (hd s)∧Ech n (hd s+1) ss
def SpL (ss:List (List Int)):Vc->Prop:=Sp (λu=>∃ s∈ss,u=vec s)
theorem Ech.mono {n:Nat}:∀ {ss:List (List Int)} {lo lo':Nat},Ech n lo ss->lo'≤lo->Ech n lo' ss
 | [],_,_,_,_=>trivial
 | s :: ss,lo,lo',h,k=>⟨h.1,Nat.le_trans k h.2.1,h.2.2⟩
theorem Ech.mem {n:Nat}:∀ {ss:List (List Int)} {lo:Nat},Ech n lo ss->∀ t∈ss,t.length=n∧lo≤hd t∧hd t<n∧0<vec t (hd t)
 | [],_,_,t,h=>by simp at h
 | s :: ss,lo,h,t,ht=>by
  rcases List.mem_cons.mp ht with rfl | ht
  ·exact ⟨h.1,h.2.1,h.2.2.1,h.2.2.2.1⟩
  ·obtain ⟨a,b,c,d⟩:=Ech.mem h.2.2.2.2 t ht
   have:=h.2.1
   exact ⟨a,by omega,c,d⟩
theorem Ech.before {n lo i:Nat} {ss:List (List Int)} (h:Ech n lo ss) (hi:i<lo):∀ t∈ss,vec t i=0:=λt ht=>za5 (by have:=(h.mem t ht).2.1;omega)
theorem SpL.before {n lo i:Nat} {ss:List (List Int)} {u:Vc} (h:Ech n lo ss) (hi:i<lo) (hu:SpL ss u):u i=0:=Sp.at0 (λa ⟨s,hs,e⟩=>by rw [e];exact h.before hi s hs) hu
theorem SpL.cons {s:List Int} {ss:List (List Int)} {u:Vc} (h:SpL (s :: ss) u):∃ w y,SpL ss w∧∀ i,u i=w i+y*vec s i:=by
 have:Sp (λu=>(∃ t∈ss,u=vec t)∨u=vec s) u:=Sp.mono (λa ⟨t,ht,e⟩=>by
  rcases List.mem_cons.mp ht with rfl | ht
  ·exact .inr e
  ·exact .inl ⟨t,ht,e⟩) h
 exact this.split
theorem SpL.mem {ss:List (List Int)} {s:List Int} (h:s∈ss):SpL ss (vec s):=Sp.mem ⟨s,h,rfl⟩
theorem SpL.up {s:List Int} {ss:List (List Int)} {u:Vc} (h:SpL ss u):SpL (s :: ss) u:=Sp.mono (λ_ ⟨t,ht,e⟩=>⟨t,List.mem_cons_of_mem _ ht,e⟩) h
theorem SpL.sub {ss tt:List (List Int)} {u:Vc} (k:∀ s∈ss,SpL tt (vec s)) (h:SpL ss u):SpL tt u:=Sp.sub (λ_ ⟨s,hs,e⟩=>e ▸ k s hs) h
theorem ziI {n:Nat}:∀ {ss:List (List Int)} {lo:Nat} {u:Vc},Ech n lo ss->SpL ss u->(∀ t∈ss,0≤u (hd t)∧u (hd t)<vec t (hd t))->∀ i,u i=0
 | [],_,u,_,h,_,i=>Sp.at0 (λ_ ⟨_,z,_⟩=>by simp at z) h
 | s :: ss,lo,u,e,h,k,i=>by
  obtain ⟨w,y,hw,hu⟩:=h.cons
  have e1:=SpL.before e.2.2.2.2 (Nat.lt_succ_self (hd s)) hw
  have e2:=hu (hd s)
  have e3:=k s List.mem_cons_self
  have e4:=e.2.2.2.1
  rw [e1] at e2
  have y0:y=0:=by
   rw [e2,Int.zero_add] at e3
   refine Classical.byContradiction λq=>?_
   rcases Int.lt_or_gt_of_ne q with q | q
   ·have:=Int.mul_neg_of_neg_of_pos q e4
    omega
   ·have:=Int.mul_le_mul_of_nonneg_right (show (1:Int)≤y by omega) (Int.le_of_lt e4)
    omega
  have hu':∀ i,u i=w i:=λi=>by rw [hu i,y0];omega
  have:u=w:=funext hu'
  subst this
  exact ziI e.2.2.2.2 hw (λt ht=>k t (List.mem_cons_of_mem _ ht)) i
theorem zjT {n:Nat}:∀ {ss:List (List Int)} {lo:Nat} {u:Vc} {t:List Int},Ech n lo ss->SpL ss u->t∈ss->(∀ i,i<hd t->u i=0)->vec t (hd t) ∣ u (hd t)
 | [],_,_,t,_,_,h,_=>by simp at h
 | s :: ss,lo,u,t,e,h,ht,k=>by
  obtain ⟨w,y,hw,hu⟩:=h.cons
  have e1:=SpL.before e.2.2.2.2 (Nat.lt_succ_self (hd s)) hw
  rcases List.mem_cons.mp ht with rfl | ht
  ·rw [hu,e1];exact ⟨y,by grind⟩
  ·have e5:=(Ech.mem e.2.2.2.2 t ht).2.1
   have e6:=hu (hd s)
   rw [k (hd s) (by omega),e1] at e6
   have y0:y=0:=(Int.mul_eq_zero.mp (show y*vec s (hd s)=0 by omega)).resolve_right (by have:=e.2.2.2.1;omega)
   have:u=w:=funext λi=>by rw [hu i,y0];omega
   subst this
   exact zjT e.2.2.2.2 hw ht k
theorem ziv {n:Nat}:∀ {ss:List (List Int)} {lo:Nat} {u:Vc} {h:Nat},Ech n lo ss->SpL ss u->(∀ i,i<h->u i=0)->u h≠0->∃ t∈ss,hd t=h
 | [],_,u,h,_,hu,_,q=>(q (Sp.at0 (λ_ ⟨_,z,_⟩=>by simp at z) hu)).elim
 | s :: ss,lo,u,h,e,hu,k,q=>by
  obtain ⟨w,y,hw,hu⟩:=hu.cons
  by_cases z:hd s=h
  ·exact ⟨s,List.mem_cons_self,z⟩
  ·have e1:=SpL.before e.2.2.2.2 (Nat.lt_succ_self (hd s)) hw
   by_cases y0:y=0
   ·have:u=w:=funext λi=>by rw [hu i,y0];omega
    subst this
    obtain ⟨t,ht,e⟩:=ziv e.2.2.2.2 hw k q
    exact ⟨t,List.mem_cons_of_mem _ ht,e⟩
   ·have e6:=hu (hd s)
    rw [e1,Int.zero_add] at e6
    have e7:u (hd s)≠0:=by
     rw [e6];intro z;rcases Int.mul_eq_zero.mp z with z | z
     ·exact y0 z
     ·have:=e.2.2.2.1;omega
    have e8:h<hd s:=Nat.lt_of_not_le λz'=>e7 (k _ (by omega))
    have e9:w h=0:=SpL.before e.2.2.2.2 (Nat.lt_succ_of_lt e8) hw
    rw [hu h,e9,za5 e8] at q
    simp at q
theorem za7 {n:Nat}:∀ {ss:List (List Int)} {lo:Nat} {l:List Int},Ech n lo ss->l.length=n →
  (low l ss).length=n∧SpL ss (λi=>vec l i-vec (low l ss) i)∧(∀ t∈ss,0≤vec (low l ss) (hd t)∧vec (low l ss) (hd t)<vec t (hd t))∧∀ i,i<lo->vec (low l ss) i=vec l i
 | [],lo,l,_,h=>⟨h,Sp.zero.conv λi=>by show (0:Int)=vec l i-vec l i;omega,by simp,λ_ _=>rfl⟩
 | s :: ss,lo,l,e,h=>by
  have hl:l.length=s.length:=by rw [h,e.1]
  obtain ⟨a,b,c,d⟩:=za7 (l:=zh2 l s) e.2.2.2.2 (by rw [zgz hl,h])
  refine ⟨a,?_,λt ht=>?_,λi hi=>?_⟩
  ·refine ((SpL.up (s:=s) b).plus ((SpL.mem (ss:=s :: ss) List.mem_cons_self).smul (quo l s))).conv λi=>?_
   rw [zfw hl]
   show vec l i-vec s i*quo l s-vec (low (zh2 l s) ss) i+quo l s*vec s i=vec l i-vec (low (zh2 l s) ss) i
   rw [Int.mul_comm (quo l s)];omega
  ·rcases List.mem_cons.mp ht with rfl | ht
   ·show 0≤vec (low (zh2 l t) ss) (hd t)∧vec (low (zh2 l t) ss) (hd t)<_
    rw [d (hd t) (Nat.lt_succ_self _),zfw hl]
    have p:=e.2.2.2.1
    have e1:=Int.mul_ediv_add_emod (vec l (hd t)) (vec t (hd t))
    have e2:=Int.emod_nonneg (vec l (hd t)) (show vec t (hd t)≠0 by omega)
    have e3:=Int.emod_lt_of_pos (vec l (hd t)) p
    unfold quo
    omega
   ·exact c t ht
  ·show vec (low (zh2 l s) ss) i=_
   have:=e.2.1
   rw [d i (by omega),zfw hl,za5 (show i<hd s by omega)];omega
end Lat
namespace Lat
abbrev G4:=Int×Int×Int×Int
def cmC (s:G4):Bool:=!decide (s.2.1=(0:Int))
def cmF (s:G4):G4:=(s.2.1,s.1-s.1/s.2.1*s.2.1,s.2.2.2,s.2.2.1-s.1/s.2.1*s.2.2.2)
structure GI (one other:Int) (s:G4):Prop where
 g:0<s.1
 m:0≤s.2.1
 gb:s.1≤one+other
 mb:s.2.1≤one+other
 tb:-other≤s.2.2.1∧s.2.2.1≤other
 lb:-other≤s.2.2.2∧s.2.2.2≤other
 sg:(0≤s.2.2.1∧s.2.2.2≤0∧s.2.1*s.2.2.1-s.1*s.2.2.2=other)∨(s.2.2.1≤0∧0≤s.2.2.2∧s.1*s.2.2.2-s.2.1*s.2.2.1=other)
 bg:∃ y,s.1=s.2.2.1*one+y*other
 bm:∃ y,s.2.1=s.2.2.2*one+y*other
 d1:∃ p q,one=p*s.1+q*s.2.1
 d2:∃ p q,other=p*s.1+q*s.2.1
theorem GI.start {one other:Int} (h1:0<one) (h2:0<other):GI one other (one,other,1,0) where
 g:=h1
 m:=by show 0≤other;omega
 gb:=by show one≤one+other;omega
 mb:=by show other≤one+other;omega
 tb:=by show -other≤1∧1≤other;omega
 lb:=by show -other≤0∧0≤other;omega
 sg:=.inl (by show (0:Int)≤1∧(0:Int)≤0∧other*1-one*0=other;omega)
 bg:=⟨0,by show one=1*one+0*other;omega⟩
 bm:=⟨1,by show other=0*one+1*other;omega⟩
 d1:=⟨1,0,by show one=1*one+0*other;omega⟩
 d2:=⟨0,1,by show other=0*one+1*other;omega⟩
theorem GI.step {one other:Int} {s:G4} (I:GI one other s) (hc:cmC s=true):GI one other (cmF s)∧(cmF s).2.1.toNat<s.2.1.toNat:=by
 obtain ⟨g,m,t,l⟩:=s
 obtain ⟨h1,h2,h3,h4,h5,h6,h7,⟨y1,h8⟩,⟨y2,h9⟩,⟨p1,q1,hA⟩,⟨p2,q2,hB⟩⟩:=I
 simp only at h1 h2 h3 h4 h5 h6 h7 h8 h9 hA hB
 have hm:0<m:=by
  unfold cmC at hc
  simp only [Bool.not_eq_true',decide_eq_false_iff_not] at hc
  omega
 have e1:=Int.mul_ediv_add_emod g m
 have e2:=Int.emod_nonneg g (show m≠0 by omega)
 have e3:=Int.emod_lt_of_pos g hm
 have e4:0≤g/m:=Int.ediv_nonneg (by omega) (by omega)
 have e5:g-g/m*m=g%m:=by rw [Int.mul_comm];omega
 show GI one other (m,g-g/m*m,l,t-g/m*l)∧(g-g/m*m).toNat<m.toNat
 rw [e5]
 generalize hq:g/m=q at *
 generalize hr:g%m=r at *
 have eg:g=m*q+r:=by omega
 have sg:(0≤l∧t-q*l≤0∧r*l-m*(t-q*l)=other)∨(l≤0∧0≤t-q*l∧m*(t-q*l)-r*l=other):=by
  rcases h7 with ⟨a,b,c⟩ | ⟨a,b,c⟩
  ·refine .inr ⟨b,?_,by grind⟩
   have:=Int.mul_nonneg e4 (show (0:Int)≤-l by omega)
   grind
  ·refine .inl ⟨b,?_,by grind⟩
   have:=Int.mul_nonneg e4 b
   omega
 have hl:-other≤t-q*l∧t-q*l≤other:=by
  rcases sg with ⟨a,b,c⟩ | ⟨a,b,c⟩
  ·have k1:=Int.mul_nonneg e2 a
   have k2:=Int.mul_le_mul_of_nonneg_right (show (1:Int)≤m by omega) (show (0:Int)≤-(t-q*l) by omega)
   have k3:m*-(t-q*l)=-(m*(t-q*l)):=by grind
   rw [k3] at k2
   omega
  ·have k1:=Int.mul_nonneg e2 (show (0:Int)≤-l by omega)
   have k2:=Int.mul_le_mul_of_nonneg_right (show (1:Int)≤m by omega) b
   have k3:r*-l=-(r*l):=by grind
   rw [k3] at k1
   omega
 refine ⟨⟨hm,e2,h4,by show r≤_;omega,h6,hl,sg,⟨y2,h9⟩,⟨y1-q*y2,?_⟩,⟨p1*q+q1,p1,?_⟩,⟨p2*q+q2,p2,?_⟩⟩,by omega⟩
 ·show r=(t-q*l)*one+(y1-q*y2)*other
  grind
 ·show one=(p1*q+q1)*m+p1*r
  grind
 ·show other=(p2*q+q2)*m+p2*r
  grind
structure Cm (one other g x y:Int):Prop where
 pos:0<g
 le:g≤one+other
 xb:-other≤x∧x≤other
 eq:g=x*one+y*other
 d1:one/g*g=one
 d2:other/g*g=other
theorem GI.done {one other:Int} {s:G4} (h2:0<other) (I:GI one other s) (hc:cmC s=false):Cm one other s.1 s.2.2.1 ((s.1-s.2.2.1*one)/other):=by
 obtain ⟨g,m,t,l⟩:=s
 obtain ⟨h1,_,h3,_,h5,_,_,⟨y1,h8⟩,_,⟨p1,q1,hA⟩,⟨p2,q2,hB⟩⟩:=I
 simp only at h1 h3 h5 h8 hA hB
 have hm:m=0:=by
  unfold cmC at hc
  simpa using hc
 subst hm
 have e:(g-t*one)/other=y1:=by
  rw [show g-t*one=y1*other by omega]
  exact Int.mul_ediv_cancel _ (by omega)
 refine ⟨h1,h3,h5,?_,?_,?_⟩
 ·show g=t*one+(g-t*one)/other*other
  rw [e];exact h8
 ·exact Int.ediv_mul_cancel ⟨p1,by show one=g*p1;rw [Int.mul_comm];omega⟩
 ·exact Int.ediv_mul_cancel ⟨p2,by show other=g*p2;rw [Int.mul_comm];omega⟩
def mg1 (s l:List Int) (x y:Int):List Int:=add (mul s x) (mul l y)
def mg2 (s l:List Int) (g:Int):List Int:=sub (mul l (vec s (hd s)/g)) (mul s (vec l (hd s)/g))
theorem zfM {s l:List Int} {x y:Int} (h:s.length=l.length) (i:Nat):vec (mg1 s l x y) i=x*vec s i+y*vec l i:=by
 unfold mg1
 rw [zgF (by rw [zaM,zaM,h]),zda,zda,Int.mul_comm,Int.mul_comm (vec l i)]
theorem zg1 {s l:List Int} {g:Int} (h:s.length=l.length) (i:Nat):vec (mg2 s l g) i=vec s (hd s)/g*vec l i-vec l (hd s)/g*vec s i:=by
 unfold mg2
 rw [zev (by rw [zaM,zaM,h]),zda,zda,Int.mul_comm,Int.mul_comm (vec s i)]
theorem zjA {s l:List Int} {x y:Int} (h:s.length=l.length):(mg1 s l x y).length=s.length:=by unfold mg1;rw [zjU (by rw [zaM,zaM,h]),zaM]
theorem zk2 {s l:List Int} {g:Int} (h:s.length=l.length):(mg2 s l g).length=s.length:=by unfold mg2;rw [zgE (by rw [zaM,zaM,h]),zaM,h]
theorem zkc {s l:List Int} {g x y:Int} (h:s.length=l.length) (C:Cm (vec s (hd s)) (vec l (hd s)) g x y) (i:Nat) :
  vec s i=vec s (hd s)/g*vec (mg1 s l x y) i-y*vec (mg2 s l g) i∧vec l i=vec l (hd s)/g*vec (mg1 s l x y) i+x*vec (mg2 s l g) i:=by
 rw [zfM h,zg1 h]
 have e1:=C.eq
 have e2:=C.d1
 have e3:=C.d2
 have e4:=C.pos
 generalize vec s (hd s)=a at *
 generalize vec l (hd s)=b at *
 generalize a/g=p at *
 generalize b/g=q at *
 have u:x*p+y*q=1:=by
  have:(x*p+y*q-1)*g=0:=by grind
  rcases Int.mul_eq_zero.mp this with z | z<;>omega
 constructor<;>grind
def upr (l:List Int):List Int:=bif decide (vec l (hd l)<(0:Int)) then mul l (-(1:Int)) else l
theorem zkp {l:List Int}:(upr l).length=l.length:=by
 unfold upr
 cases decide (vec l (hd l)<(0:Int))
 ·rfl
 ·exact zaM
theorem zhT {l:List Int}:∃ c:Int,c*c=1∧(∀ i,vec (upr l) i=c*vec l i)∧0≤c*vec l (hd l):=by
 unfold upr
 by_cases q:vec l (hd l)<0
 ·rw [show decide (vec l (hd l)<(0:Int))=true by simp [q]]
  exact ⟨-1,by decide,λi=>by show vec (mul l (-(1:Int))) i=_;rw [zda];omega,by omega⟩
 ·rw [show decide (vec l (hd l)<(0:Int))=false by simp [q]]
  exact ⟨1,by decide,λi=>by show vec l i=_;omega,by omega⟩
theorem zmv {l:List Int} (h:hd l<l.length):hd (upr l)=hd l∧0<vec (upr l) (hd l):=by
 obtain ⟨c,c1,c2,c3⟩:=zhT (l:=l)
 have e:=zfz h
 have c0:c≠0:=by intro z;subst z;simp at c1
 have e1:c*vec l (hd l)≠0:=λz=>by
  rcases Int.mul_eq_zero.mp z with z | z
  ·exact c0 z
  ·exact e z
 refine ⟨zko (by rw [c2];exact e1) λi hi=>by rw [c2,za5 hi];simp,by rw [c2];omega⟩
theorem zmo {l:List Int} {ss:List (List Int)} (h:SpL ss (vec l)):SpL ss (vec (upr l)):=by
 obtain ⟨c,_,c2,_⟩:=zhT (l:=l)
 exact (Sp.smul c h).conv λi=>(c2 i).symm
theorem zkG {l:List Int} {ss:List (List Int)} (h:SpL ss (vec (upr l))):SpL ss (vec l):=by
 obtain ⟨c,c1,c2,_⟩:=zhT (l:=l)
 exact (Sp.smul c h).conv λi=>by rw [c2,← Int.mul_assoc,c1,Int.one_mul]
structure Mg where
 f:Int->Int->Int×Int×Int
 ok:∀ a b:Int,0<a->0<b->Cm a b (f a b).1 (f a b).2.1 (f a b).2.2
def tin (M:Mg):List (List Int)->List Int->List (List Int)
 | [],l=>bif decide (hd l<l.length) then [upr l] else []
 | s :: ss,l=>bif decide (hd l<hd s) then upr l :: s :: ss else
   bif decide (hd l=hd s) then mg1 s l (M.f (vec s (hd s)) (vec l (hd s))).2.1 (M.f (vec s (hd s)) (vec l (hd s))).2.2 :: tin M ss (low (mg2 s l (M.f (vec s (hd s)) (vec l (hd s))).1) ss) else s :: tin M ss l
theorem zfv (M:Mg) {n:Nat}:∀ {ss:List (List Int)} {lo:Nat} {l:List Int},Ech n lo ss->l.length=n->(∀ i,i<lo->vec l i=0)->(∀ t∈ss,0≤vec l (hd t)∧vec l (hd t)<vec t (hd t))->lo≤n →
  Ech n lo (tin M ss l)∧(tin M ss l).length≤ss.length+1∧(∀ t∈tin M ss l,SpL (l :: ss) (vec t))∧(∀ t∈l :: ss,SpL (tin M ss l) (vec t))
 | [],lo,l,_,hl,h0,_,hlo=>by
  unfold tin
  by_cases q:hd l<l.length
  ·rw [show decide (hd l<l.length)=true by simp [q],cond_true]
   obtain ⟨e1,e2⟩:=zmv q
   refine ⟨⟨by rw [zkp,hl],by rw [e1];exact zn1 (by omega) h0,by rw [e1];omega,by rw [e1];exact e2,trivial⟩,by simp,λt ht=>?_,λt ht=>?_⟩
   ·rw [List.mem_singleton.mp ht];exact zmo (SpL.mem List.mem_cons_self)
   ·rw [List.mem_singleton.mp ht];exact zkG (SpL.mem List.mem_cons_self)
  ·rw [show decide (hd l<l.length)=false by simp [q],cond_false]
   have hz:hd l=l.length:=by have:=zoS (l:=l);omega
   refine ⟨trivial,by simp,by simp,λt ht=>?_⟩
   rw [List.mem_singleton.mp ht]
   exact Sp.zero.conv λi=>by
    by_cases z:i<l.length
    ·rw [za5 (by omega)]
    ·rw [zct (by omega)]
 | s :: ss,lo,l,e,hl,h0,hr,hlo=>by
  unfold tin
  have hsl:s.length=l.length:=by rw [e.1,hl]
  by_cases q:hd l<hd s
  ·rw [show decide (hd l<hd s)=true by simp [q],cond_true]
   have hsn:=e.2.2.1
   obtain ⟨e1,e2⟩:=zmv (l:=l) (by omega)
   refine ⟨⟨by rw [zkp,hl],by rw [e1];exact zn1 (by omega) h0,by rw [e1];omega,by rw [e1];exact e2,e.1,by rw [e1];omega,e.2.2⟩,by simp,λt ht=>?_,λt ht=>?_⟩
   ·rcases List.mem_cons.mp ht with rfl | ht
    ·exact zmo (SpL.mem List.mem_cons_self)
    ·exact SpL.mem (List.mem_cons_of_mem _ ht)
   ·rcases List.mem_cons.mp ht with rfl | ht
    ·exact zkG (SpL.mem List.mem_cons_self)
    ·exact SpL.mem (List.mem_cons_of_mem _ ht)
  ·rw [show decide (hd l<hd s)=false by simp [q],cond_false]
   by_cases z:hd l=hd s
   ·rw [show decide (hd l=hd s)=true by simp [z],cond_true]
    have hb:0<vec l (hd s):=by
     have:=(hr s List.mem_cons_self).1
     have:=zfz (l:=l) (by rw [z,hl];exact e.2.2.1)
     rw [z] at this;omega
    have C:=M.ok _ _ e.2.2.2.1 hb
    generalize hg:(M.f (vec s (hd s)) (vec l (hd s))).1=g at *
    generalize hx:(M.f (vec s (hd s)) (vec l (hd s))).2.1=x at *
    generalize hy:(M.f (vec s (hd s)) (vec l (hd s))).2.2=y at *
    have f0:∀ i,i<hd s->vec (mg1 s l x y) i=0:=λi hi=>by rw [zfM hsl,za5 hi,za5 (show i<hd l by omega)];omega
    have f1:vec (mg1 s l x y) (hd s)=g:=by rw [zfM hsl];exact C.eq.symm
    have f2:hd (mg1 s l x y)=hd s:=zko (by rw [f1];have:=C.pos;omega) f0
    have g0:∀ i,i<hd s+1->vec (mg2 s l g) i=0:=λi hi=>by
     rw [zg1 hsl]
     by_cases zi:i=hd s
     ·subst zi
      have:=C.d1;have:=C.d2
      generalize vec s (hd s)/g=p at *
      generalize vec l (hd s)/g=r at *
      generalize vec s (hd s)=a at *
      generalize vec l (hd s)=b at *
      grind
     ·rw [za5 (show i<hd s by omega),za5 (show i<hd l by omega)];omega
    obtain ⟨k1,k2,k3,k4⟩:=za7 (l:=mg2 s l g) e.2.2.2.2 (by rw [zk2 hsl,e.1])
    obtain ⟨i1,i2,i3,i4⟩:=zfv M (l:=low (mg2 s l g) ss) e.2.2.2.2 k1 (λi hi=>by rw [k4 i hi,g0 i hi]) k3 (by have:=e.2.2.1;omega)
    have low_in:∀ {tt:List (List Int)},(∀ t∈ss,SpL tt (vec t))->SpL tt (vec (mg2 s l g))->SpL tt (vec (low (mg2 s l g) ss)):=λh1 h2=>(Sp.lin 1 (-1) h2 (k2.sub h1)).conv λi=>by omega
    have low_out:∀ {tt:List (List Int)},(∀ t∈ss,SpL tt (vec t))->SpL tt (vec (low (mg2 s l g) ss))->SpL tt (vec (mg2 s l g)):=λh1 h2=>(Sp.plus h2 (k2.sub h1)).conv λi=>by omega
    have hS:SpL (l :: s :: ss) (vec s):=SpL.mem (List.mem_cons_of_mem _ List.mem_cons_self)
    have hL:SpL (l :: s :: ss) (vec l):=SpL.mem List.mem_cons_self
    refine ⟨⟨by rw [zjA hsl,e.1],by rw [f2];exact e.2.1,by rw [f2];exact e.2.2.1,by rw [f2,f1];exact C.pos,by rw [f2];exact i1⟩,by simp only [List.length_cons];omega,λt ht=>?_,λt ht=>?_⟩
    ·rcases List.mem_cons.mp ht with rfl | ht
     ·exact (Sp.lin x y hS hL).conv λi=>(zfM hsl i).symm
     ·refine (i3 t ht).sub λv hv=>?_
      rcases List.mem_cons.mp hv with rfl | hv
      ·refine low_in (λt ht=>SpL.mem (List.mem_cons_of_mem _ (List.mem_cons_of_mem _ ht))) ((Sp.lin (vec s (hd s)/g) (-(vec l (hd s)/g)) hL hS).conv λi=>?_)
       rw [zg1 hsl];grind
      ·exact SpL.mem (List.mem_cons_of_mem _ (List.mem_cons_of_mem _ hv))
    ·have u1:∀ v∈low (mg2 s l g) ss :: ss,SpL (mg1 s l x y :: tin M ss (low (mg2 s l g) ss)) (vec v):=λv hv=>(i4 v hv).up
     have u2:=low_out (λt ht=>u1 t (List.mem_cons_of_mem _ ht)) (u1 _ List.mem_cons_self)
     have u3:SpL (mg1 s l x y :: tin M ss (low (mg2 s l g) ss)) (vec (mg1 s l x y)):=SpL.mem List.mem_cons_self
     rcases List.mem_cons.mp ht with rfl | ht
     ·exact (Sp.lin (vec t (hd s)/g) x u3 u2).conv λi=>((zkc hsl C i).2).symm
     ·rcases List.mem_cons.mp ht with rfl | ht
      ·exact (Sp.lin (vec t (hd t)/g) (-y) u3 u2).conv λi=>by rw [(zkc hsl C i).1];grind
      ·exact u1 t (List.mem_cons_of_mem _ ht)
   ·rw [show decide (hd l=hd s)=false by simp [z],cond_false]
    obtain ⟨i1,i2,i3,i4⟩:=zfv M (l:=l) e.2.2.2.2 hl (λi hi=>za5 (by omega)) (λt ht=>hr t (List.mem_cons_of_mem _ ht)) (by have:=e.2.2.1;omega)
    refine ⟨⟨e.1,e.2.1,e.2.2.1,e.2.2.2.1,i1⟩,by simp only [List.length_cons];omega,λt ht=>?_,λt ht=>?_⟩
    ·rcases List.mem_cons.mp ht with rfl | ht
     ·exact SpL.mem (List.mem_cons_of_mem _ List.mem_cons_self)
     ·refine (i3 t ht).sub λv hv=>?_
      rcases List.mem_cons.mp hv with rfl | hv
      ·exact SpL.mem List.mem_cons_self
      ·exact SpL.mem (List.mem_cons_of_mem _ (List.mem_cons_of_mem _ hv))
    ·rcases List.mem_cons.mp ht with rfl | ht
     ·exact (i4 t List.mem_cons_self).up
     ·rcases List.mem_cons.mp ht with rfl | ht
      ·exact SpL.mem List.mem_cons_self
      ·exact (i4 t (List.mem_cons_of_mem _ ht)).up
def stl:List (List Int)->List (List Int)
 | []=>[]
 | s :: ss=>low s (stl ss) :: stl ss
def Red:List (List Int)->Prop
 | []=>True
 | s :: ss=>(∀ t∈ss,0≤vec s (hd t)∧vec s (hd t)<vec t (hd t))∧Red ss
theorem ziR {n:Nat}:∀ {ss:List (List Int)} {lo:Nat},Ech n lo ss->Ech n lo (stl ss)∧Red (stl ss)∧(stl ss).length=ss.length∧(∀ t∈stl ss,SpL ss (vec t))∧∀ t∈ss,SpL (stl ss) (vec t)
 | [],_,_=>⟨trivial,trivial,rfl,by simp [stl],by simp⟩
 | s :: ss,lo,e=>by
  obtain ⟨a,b,c,d,f⟩:=ziR e.2.2.2.2
  obtain ⟨k1,k2,k3,k4⟩:=za7 (l:=s) a e.1
  have h1:hd (low s (stl ss))=hd s:=zko (by rw [k4 _ (Nat.lt_succ_self _)];have:=e.2.2.2.1;omega) λi hi=>by rw [k4 _ (by omega),za5 hi]
  refine ⟨⟨k1,by rw [h1];exact e.2.1,by rw [h1];exact e.2.2.1,by rw [h1,k4 _ (Nat.lt_succ_self _)];exact e.2.2.2.1,by rw [h1];exact a⟩,⟨k3,b⟩,by simp [stl,c],λt ht=>?_,λt ht=>?_⟩
  ·rcases List.mem_cons.mp ht with rfl | ht
   ·exact (Sp.lin 1 (-1) (SpL.mem (ss:=s :: ss) List.mem_cons_self) (k2.sub λv hv=>(d v hv).up)).conv λi=>by omega
   ·exact (d t ht).up
  ·rcases List.mem_cons.mp ht with rfl | ht
   ·exact (Sp.plus (SpL.mem (ss:=stl (t :: ss)) (s:=low t (stl ss)) List.mem_cons_self) (k2.sub λv hv=>SpL.mem (List.mem_cons_of_mem _ hv))).conv λi=>by omega
   ·exact (f t ht).up
def clm (M:Mg) (rows:List (List Int)):List (List Int):=rows.foldl (λss r=>stl (tin M ss (low r ss))) []
structure Stairs (n:Nat) (rows ss:List (List Int)):Prop where
 ech:Ech n 0 ss
 red:Red ss
 inn:∀ t∈ss,SpL rows (vec t)
 out:∀ r∈rows,SpL ss (vec r)
theorem Stairs.nil {n:Nat}:Stairs n [] []:=⟨trivial,trivial,by simp,by simp⟩
theorem Stairs.step {n:Nat} {rows ss:List (List Int)} {r:List Int} (M:Mg) (h:Stairs n rows ss) (hr:r.length=n):Stairs n (rows++[r]) (stl (tin M ss (low r ss)))∧(stl (tin M ss (low r ss))).length≤ss.length+1:=by
 obtain ⟨k1,k2,k3,_⟩:=za7 (l:=r) h.ech hr
 obtain ⟨t1,t2,t3,t4⟩:=zfv M h.ech k1 (λi hi=>absurd hi (Nat.not_lt_zero i)) k3 (Nat.zero_le n)
 obtain ⟨s1,s2,s3,s4,s5⟩:=ziR t1
 have inn:∀ t∈ss,SpL (rows++[r]) (vec t):=λt ht=>(h.inn t ht).sub λv hv=>SpL.mem (List.mem_append_left _ hv)
 have hr':SpL (rows++[r]) (vec r):=SpL.mem (List.mem_append_right _ List.mem_cons_self)
 have f1:∀ t∈low r ss :: ss,SpL (stl (tin M ss (low r ss))) (vec t):=λt ht=>(t4 t ht).sub s5
 refine ⟨⟨s1,s2,λt ht=>(s4 t ht).sub λv hv=>(t3 v hv).sub λw hw=>?_,λt ht=>?_⟩,by rw [s3];exact t2⟩
 ·rcases List.mem_cons.mp hw with rfl | hw
  ·exact (Sp.lin 1 (-1) hr' (k2.sub inn)).conv λi=>by omega
  ·exact inn w hw
 ·rcases List.mem_append.mp ht with ht | ht
  ·exact (h.out t ht).sub λv hv=>f1 v (List.mem_cons_of_mem _ hv)
  ·rw [List.mem_singleton.mp ht]
   exact (Sp.plus (f1 _ List.mem_cons_self) (k2.sub λv hv=>f1 v (List.mem_cons_of_mem _ hv))).conv λi=>by omega
end Lat
namespace Lat
theorem ech_red {n:Nat}:∀ {ss:List (List Int)} {lo:Nat},Ech n lo ss->Red ss->∀ t∈ss,∀ t'∈ss,hd t'<hd t∨t=t'∨(0≤vec t (hd t')∧vec t (hd t')<vec t' (hd t'))
 | [],_,_,_,t,h,_,_=>by simp at h
 | s :: ss,lo,e,r,t,ht,t',ht'=>by
  rcases List.mem_cons.mp ht with h1 | h1
  ·rcases List.mem_cons.mp ht' with h2 | h2
   ·exact .inr (.inl (h1.trans h2.symm))
   ·rw [h1];exact .inr (.inr (r.1 t' h2))
  ·rcases List.mem_cons.mp ht' with h2 | h2
   ·rw [h2]
    have:=(Ech.mem e.2.2.2.2 t h1).2.1
    exact .inl (by omega)
   ·exact ech_red e.2.2.2.2 r.2 t h1 t' h2
theorem zkY {n:Nat}:∀ {ss:List (List Int)} {lo:Nat},Ech n lo ss->lo≤n->ss.length+lo≤n
 | [],_,_,h=>by simpa using h
 | s :: ss,lo,e,h=>by
  have:=zkY e.2.2.2.2 (by have:=e.2.2.1;omega)
  have:=e.2.1
  simp only [List.length_cons]
  omega
abbrev Rw (rows:List (List Int)):Vc->Prop:=λu=>∃ r∈rows,u=vec r
theorem ziN {B E R:Nat} (hE:bnd R B B≤E):∀ (k:Nat) (rows:List (List Int)),rows.length=k->k≤R+1->(∀ r∈rows,∀ x∈r,x.natAbs≤B)->∃ hs as,Wit (Rw rows) B E hs as∧as.length≤rows.length
 | 0,rows,h,_,_=>by
  rw [List.length_eq_zero_iff.mp h]
  refine ⟨[],[],?_,by simp⟩
  have e:Rw []=λ_=>False:=funext λu=>propext ⟨λ⟨_,z,_⟩=>by simp at z,λz=>z.elim⟩
  rw [e]
  exact Wit.nil
 | k+1,rows,h,hk,hb=>by
  have hne:rows≠[]:=by intro z;rw [z] at h;simp at h
  obtain ⟨rs,r,rfl⟩:∃ rs r,rows=rs++[r]:=⟨rows.dropLast,rows.getLast hne,(List.dropLast_concat_getLast hne).symm⟩
  have hl:rs.length=k:=by simpa using h
  obtain ⟨hs,as,W,h1⟩:=ziN hE k rs hl (by omega) λr hr=>hb r (List.mem_append_left _ hr)
  obtain ⟨hs',as',W',h2⟩:=W.step (a:=vec r) (λi=>zmk (hb r (List.mem_append_right _ List.mem_cons_self)) i) (Nat.le_trans (zim (by omega)) hE)
  refine ⟨hs',as',?_,by simp only [List.length_append,List.length_singleton];omega⟩
  have e:Rw (rs++[r])=λu=>Rw rs u∨u=vec r:=funext λu=>propext ⟨λ⟨s,hs,e⟩=>by
   rcases List.mem_append.mp hs with z | z
   ·exact .inl ⟨s,z,e⟩
   ·rw [List.mem_singleton.mp z] at e;exact .inr e,λz=>by
   rcases z with ⟨s,hs,e⟩ | z
   ·exact ⟨s,List.mem_append_left _ hs,e⟩
   ·exact ⟨r,List.mem_append_right _ List.mem_cons_self,z⟩⟩
  rw [e]
  exact W'
theorem Stairs.wit {n B E:Nat} {rows ss:List (List Int)} {hs:List Nat} {as:List Vc} (h:Stairs n rows ss) (W:Wit (Rw rows) B E hs as) (hBE:B≤E):∀ t∈ss,(vec t (hd t)).natAbs≤E∧∀ i,(vec t i).natAbs≤bnd as.length B E:=by
 have hd1:∀ t∈ss,(vec t (hd t)).natAbs≤E:=λt ht=>by
  obtain ⟨m1,m2,m3,m4⟩:=h.ech.mem t ht
  obtain ⟨v,v1,v2,v3,v4⟩:=W.hd _ (W.head (h.inn t ht) (λi hi=>za5 hi) (by omega))
  have d:=zjT h.ech (v1.sub λa ⟨r,hr,e⟩=>e ▸ h.out r hr) ht v2
  exact Nat.le_trans (Nat.le_of_dvd (Int.natAbs_pos.mpr v3) (Int.natAbs_dvd_natAbs.mpr d)) (v4 _)
 refine λt ht=>⟨hd1 t ht,λi=>W.small hBE (h.inn t ht) (λg hg=>?_) i⟩
 obtain ⟨v,v1,v2,v3,v4⟩:=W.hd g hg
 obtain ⟨t',ht',rfl⟩:=ziv h.ech (v1.sub λa ⟨r,hr,e⟩=>e ▸ h.out r hr) v2 v3
 rcases ech_red h.ech h.red t ht t' ht' with z | rfl | ⟨z1,z2⟩
 ·rw [za5 z];exact Nat.zero_le _
 ·exact hd1 t ht
 ·have:=hd1 t' ht';omega
theorem ziS {k R b c:Nat} (hk:k≤R) (hR:R≤31) (hbc:b≤c):bnd k (2^b) (2^c)≤2^((c+7)*(R+1)):=by
 refine Nat.le_trans (zim hk) ?_
 unfold bnd
 have h1:R+1≤2^5:=by omega
 have h2:2*((R+1)*2^c)+1≤2^(c+7):=by
  have e1:(R+1)*2^c≤2^5*2^c:=Nat.mul_le_mul_right _ h1
  have e2:2^(c+7)=4*(2^5*2^c):=by rw [Nat.pow_add];omega
  have e3:0<2^c:=Nat.pow_pos (by decide)
  omega
 calc (R+1)*((2*((R+1)*2^c)+1)^R*2^b)≤2^5*((2^(c+7))^R*2^b):=Nat.mul_le_mul h1 (Nat.mul_le_mul_right _ (Nat.pow_le_pow_left h2 _))
  _=2^(5+((c+7)*R+b)):=by rw [← Nat.pow_mul,← Nat.pow_add,← Nat.pow_add]
  _≤2^((c+7)*(R+1)):=Nat.pow_le_pow_right (by decide) (by rw [Nat.mul_add];omega)
def Bit (a:Nat) (l:List Int):Prop:=∀ x∈l,x.natAbs≤2^a
theorem Bit.vec {a:Nat} {l:List Int} (h:Bit a l) (i:Nat):(vec l i).natAbs≤2^a:=zmk h i
theorem Bit.of {a:Nat} {l:List Int} (h:∀ i,(Lat.vec l i).natAbs≤2^a):Bit a l:=λx hx=>by
 obtain ⟨i,_,rfl⟩:=zfJ hx
 exact h i
theorem Bit.mono {a b:Nat} {l:List Int} (h:Bit a l) (k:a≤b):Bit b l:=λx hx=>Nat.le_trans (h x hx) (Nat.pow_le_pow_right (by decide) k)
def eB (b R:Nat):Nat:=(b+7)*(R+1)
def sB (b R:Nat):Nat:=(eB b R+7)*(R+1)
theorem Stairs.bits {n b R:Nat} {rows ss:List (List Int)} (h:Stairs n rows ss) (hR:R≤31) (hr:rows.length≤R) (hb:∀ r∈rows,Bit b r):∀ t∈ss,(vec t (hd t)).natAbs≤2^eB b R∧Bit (sB b R) t:=by
 obtain ⟨hs,as,W,hl⟩:=ziN (B:=2^b) (E:=2^eB b R) (R:=R) (ziS (Nat.le_refl _) hR (Nat.le_refl _)) rows.length rows rfl (by omega) hb
 have e:b≤eB b R:=by unfold eB;exact Nat.le_trans (by omega) (Nat.le_mul_of_pos_right _ (Nat.succ_pos R))
 refine λt ht=>?_
 obtain ⟨a1,a2⟩:=h.wit W (Nat.pow_le_pow_right (by decide) e) t ht
 exact ⟨a1,Bit.of λi=>Nat.le_trans (a2 i) (ziS (Nat.le_trans hl hr) hR e)⟩
theorem ze0 {x y a b:Nat} (h1:x≤2^a) (h2:y≤2^b):x*y≤2^(a+b):=by rw [Nat.pow_add];exact Nat.mul_le_mul h1 h2
theorem zgZ {x d:Int} (_h:0<d):(x/d).natAbs≤x.natAbs:=by
 have:=Int.natAbs_ediv_le_natAbs x d
 exact this
structure Sd (n s:Nat) (t:List Int):Prop where
 len:t.length=n
 hd:hd t<n
 pos:0<vec t (Lat.hd t)
 top:(vec t (Lat.hd t)).natAbs≤2^8980
 bit:Bit s t
theorem zmI {n s a:Nat} {l t:List Int} (T:Sd n s t) (hb:Bit a l):(quo l t).natAbs≤2^a:=Nat.le_trans (zgZ T.pos) (hb.vec _)
theorem zix {n s a:Nat} {l t:List Int} (T:Sd n s t) (hl:l.length=n) (hb:Bit a l):Bit (a+(s+1)) (zh2 l t):=Bit.of λi=>by
 rw [zfw (by rw [hl,T.len])]
 have e1:=hb.vec i
 have e2:(vec t i*quo l t).natAbs≤2^(s+a):=by rw [Int.natAbs_mul];exact ze0 (T.bit.vec i) (zmI T hb)
 have e3:2^a≤2^(s+a):=Nat.pow_le_pow_right (by decide) (by omega)
 have e4:2^(a+(s+1))=2^(s+a)+2^(s+a):=by rw [show a+(s+1)=(s+a)+1 by omega,Nat.pow_succ];omega
 omega
theorem zes {n s:Nat}:∀ {ss:List (List Int)} {a:Nat} {l:List Int},(∀ t∈ss,Sd n s t)->l.length=n->Bit a l->Bit (a+ss.length*(s+1)) (low l ss)
 | [],a,l,_,_,h=>by simpa [low] using h
 | t :: ss,a,l,T,hl,h=>by
  have T1:=T t List.mem_cons_self
  have:=zes (ss:=ss) (λt ht=>T t (List.mem_cons_of_mem _ ht)) (by rw [zgz (by rw [hl,T1.len]),hl]) (zix T1 hl h)
  refine Bit.mono this ?_
  rw [List.length_cons,Nat.succ_mul]
  omega
theorem Cm.bd {one other g x y:Int} (C:Cm one other g x y) (h2:0<other) (hy:y=(g-x*one)/other) {c:Nat} (b1:one.natAbs≤2^c) (b2:other.natAbs≤2^c):g.natAbs≤2^(c+1)∧x.natAbs≤2^c∧y.natAbs≤2^(2*c+2):=by
 have e1:=C.le
 have e2:=C.xb
 have e3:=C.pos
 have g1:g.natAbs≤2^(c+1):=by
  rw [Nat.pow_succ]
  omega
 have x1:x.natAbs≤2^c:=by omega
 refine ⟨g1,x1,?_⟩
 rw [hy]
 refine Nat.le_trans (zgZ h2) ?_
 have e4:(x*one).natAbs≤2^(c+c):=by rw [Int.natAbs_mul];exact ze0 x1 b1
 have e5:2^(c+1)≤2^(c+c+1):=Nat.pow_le_pow_right (by decide) (by omega)
 have e6:2^(2*c+2)=2^(c+c+1)+2^(c+c+1):=by rw [show 2*c+2=(c+c+1)+1 by omega,Nat.pow_succ];omega
 have e7:2^(c+c)≤2^(c+c+1):=Nat.pow_le_pow_right (by decide) (by omega)
 omega
theorem zfa {a g:Int} (hg:0<g) {c:Nat} (h:a.natAbs≤2^c):(a/g).natAbs≤2^c:=Nat.le_trans (zgZ hg) h
theorem znR {n s a:Nat} {l t:List Int} {g x y:Int} (T:Sd n s t) (hl:l.length=n) (hb:Bit a l) (C:Cm (vec t (hd t)) (vec l (hd t)) g x y) (hlt:vec l (hd t)<vec t (hd t)) (h0:0≤vec l (hd t)):Bit (a+(s+8982)) (mg2 t l g):=Bit.of λi=>by
 rw [zg1 (by rw [hl,T.len])]
 have e1:(vec t (hd t)/g*vec l i).natAbs≤2^(8980+a):=by rw [Int.natAbs_mul];exact ze0 (zfa C.pos T.top) (hb.vec i)
 have e2:(vec l (hd t)/g*vec t i).natAbs≤2^(8980+s):=by rw [Int.natAbs_mul];exact ze0 (zfa C.pos (by have:=T.top;omega)) (T.bit.vec i)
 have e3:2^(8980+a)≤2^(a+(s+8981)):=Nat.pow_le_pow_right (by decide) (by omega)
 have e4:2^(8980+s)≤2^(a+(s+8981)):=Nat.pow_le_pow_right (by decide) (by omega)
 have e5:2^(a+(s+8982))=2^(a+(s+8981))+2^(a+(s+8981)):=by rw [show a+(s+8982)=(a+(s+8981))+1 by omega,Nat.pow_succ];omega
 omega
theorem zmT {n s a:Nat} {l t:List Int} {x y:Int} (T:Sd n s t) (hl:l.length=n) (hb:Bit a l) (hx:x.natAbs≤2^8980) (hy:y.natAbs≤2^17962):Bit (a+(s+17964)) (mg1 t l x y):=Bit.of λi=>by
 rw [zfM (by rw [hl,T.len])]
 have e1:(x*vec t i).natAbs≤2^(8980+s):=by rw [Int.natAbs_mul];exact ze0 hx (T.bit.vec i)
 have e2:(y*vec l i).natAbs≤2^(17962+a):=by rw [Int.natAbs_mul];exact ze0 hy (hb.vec i)
 have e3:2^(8980+s)≤2^(a+(s+17963)):=Nat.pow_le_pow_right (by decide) (by omega)
 have e4:2^(17962+a)≤2^(a+(s+17963)):=Nat.pow_le_pow_right (by decide) (by omega)
 have e5:2^(a+(s+17964))=2^(a+(s+17963))+2^(a+(s+17963)):=by rw [show a+(s+17964)=(a+(s+17963))+1 by omega,Nat.pow_succ];omega
 omega
theorem zk7 {a:Nat} {l:List Int} (h:Bit a l):Bit a (upr l):=by
 unfold upr
 cases decide (vec l (hd l)<(0:Int))
 ·exact h
 ·exact Bit.of λi=>by
   show (vec (mul l (-(1:Int))) i).natAbs≤_
   rw [zda]
   have:=h.vec i
   omega
end Lat
namespace Lat
open L2
theorem zcb (l:List Int) (k:Nat):ixD l (k:Int)=vec l k:=by
 by_cases h:k<l.length
 ·rw [zdO (List.getElem?_eq_getElem h)]
  simp [vec,List.getD_eq_getElem?_getD,List.getElem?_eq_getElem h]
 ·rw [zct (by omega)]
  unfold ixD atI ixN
  rw [if_pos (by omega),if_neg (by omega)]
  rfl
theorem zf8 {lo:Int} {n:Nat}:zaW lo (n+1)=lo :: zaW (lo+1) n:=by
 unfold zaW
 rw [List.range_succ_eq_map,List.map_cons,List.map_map]
 congr 1
 ·simp
 ·exact List.map_congr_left λi _=>by show lo+((i+1:Nat):Int)=lo+1+(i:Int);omega
abbrev hdB:Unit->Int×Int->Unit ⊕ Int:=λ_ x=>bif (!decide (x.2=(0:Int))) then (Sum.inr x.1) else (Sum.inl ())
theorem zks:∀ (xs:List Int) (lo:Int),zil (zbi hdB () ((zaW lo xs.length).zip xs)) (λ(_:Unit)=>lo+(xs.length:Int)) (λb=>b)=lo+(hd xs:Int)
 | [],lo=>rfl
 | x :: xs,lo=>by
  rw [List.length_cons,zf8,List.zip_cons_cons]
  unfold zbi hd
  cases q:(!decide (x=(0:Int))) with
  | true =>
   rw [show hdB () (lo,x)=.inr lo by unfold hdB;dsimp only;rw [q];rfl]
   show lo=lo+((0:Nat):Int)
   omega
  | false =>
   rw [show hdB () (lo,x)=.inl () by unfold hdB;dsimp only;rw [q];rfl]
   have:=zks xs (lo+1)
   have e:(λ(_:Unit)=>lo+1+(xs.length:Int))=(λ(_:Unit)=>lo+((xs.length+1:Nat):Int)):=funext λ_=>by omega
   rw [e] at this
   show zil (zbi hdB () ((zaW (lo+1) xs.length).zip xs)) _ _=_
   rw [this]
   show lo+1+(hd xs:Int)=lo+((hd xs+1:Nat):Int)
   omega
theorem zqa (xs:List Int):zil (zbi hdB () (zdI xs)) (λ(_:Unit)=>((xs.length:Nat):Int)) (λb=>b)=(hd xs:Int):=by
 have:=zks xs 0
 simp only [Int.zero_add] at this
 exact this
theorem zdz {α:Type} {xs:List α} {k:Nat}:cutD xs (some (k:Int)) none=xs.drop k:=by
 unfold cutD
 rw [HT.sIx_nat,HT.sIx_none]
 by_cases h:k≤xs.length
 ·rw [Nat.min_eq_left h,List.take_of_length_le (by rw [List.length_drop];omega)]
 ·rw [Nat.min_eq_right (by omega),List.drop_eq_nil_of_le (by omega),List.drop_eq_nil_of_le (by omega)];simp
def cmn (a b:Int):T3 Int Int Int:=Let (whl cmC cmF b.toNat (a,b,(1:Int),(0:Int))) (λ(r:G4)=>T3.mk r.1 r.2.2.1 ((r.1-(r.2.2.1*a))/b))
theorem zjW {a b:Int} (h1:0<a) (h2:0<b):Cm a b (cmn a b).a (cmn a b).b (cmn a b).c:=by
 obtain ⟨i1,i2⟩:=zh9 (n:=b.toNat) (c:=cmC) (f:=cmF) (I:=GI a b) (μ:=λs=>s.2.1.toNat) (λs h c=>h.step c) (GI.start h1 h2) (Nat.le_refl _)
 exact i1.done h2 i2
theorem zp1 {a b:Int}:(cmn a b).c=((cmn a b).a-(cmn a b).b*a)/b:=rfl
def MG:Mg:=⟨λa b=>((cmn a b).a,(cmn a b).b,(cmn a b).c),λ_ _ h1 h2=>zjW h1 h2⟩
def mrg (s l:List Int):List Int×List Int:=(mg1 s l (cmn (vec s (hd s)) (vec l (hd s))).b (cmn (vec s (hd s)) (vec l (hd s))).c,mg2 s l (cmn (vec s (hd s)) (vec l (hd s))).a)
theorem ziY {s:List Int} {ss:List (List Int)} {l:List Int}:tin MG (s :: ss) l=bif decide (hd l<hd s) then upr l :: s :: ss else bif decide (hd l=hd s) then (mrg s l).1 :: tin MG ss (low (mrg s l).2 ss) else s :: tin MG ss l:=rfl
abbrev TS2:=List (List Int)×List Int
def zjs (steps:List (List Int)):TS2->Int×List Int->TS2 ⊕ List (List Int):=λs x =>
 bif decide ((hd s.2:Int)<(hd x.2:Int)) then (Sum.inr ((s.1++[upr s.2])++(cutD steps (some x.1) none)))
 else Let (bif decide ((hd s.2:Int)=(hd x.2:Int)) then (s.1++[(mrg x.2 s.2).1]) else (s.1++[x.2])) (λ(g:List (List Int)) =>
  Let (bif decide ((hd s.2:Int)=(hd x.2:Int)) then (low ((mrg x.2 s.2).2) (cutD steps (some (x.1+(1:Int))) none)) else s.2) (λ(l:List Int)=>Sum.inl (g,l)))
abbrev zpy:TS2->List (List Int):=λr=>Let (bif decide ((hd r.2:Int)<((r.2.length:Nat):Int)) then (r.1++[upr r.2]) else r.1) (λ(g:List (List Int))=>g)
theorem zgI {steps:List (List Int)}:∀ (ss:List (List Int)) (k:Nat) (g:List (List Int)) (l:List Int),steps.drop k=ss->zil (zbi (zjs steps) (g,l) ((zaW (k:Int) ss.length).zip ss)) zpy (λb=>b)=g++tin MG ss l
 | [],k,g,l,_=>by
  show zpy (g,l)=_
  unfold zpy Let tin
  dsimp only
  by_cases q:hd l<l.length
  ·rw [show decide ((hd l:Int)<((l.length:Nat):Int))=true by simp [q],show decide (hd l<l.length)=true by simp [q]];rfl
  ·rw [show decide ((hd l:Int)<((l.length:Nat):Int))=false by simpa using q,show decide (hd l<l.length)=false by simp [q]]
   simp
 | s :: ss,k,g,l,e=>by
  have e':steps.drop (k+1)=ss:=by rw [← List.drop_drop,e];rfl
  have e2:((k:Int)+(1:Int))=((k+1:Nat):Int):=by omega
  rw [List.length_cons,zf8,List.zip_cons_cons,ziY]
  unfold zbi
  by_cases q:hd l<hd s
  ·rw [show zjs steps (g,l) ((k:Int),s)=.inr ((g++[upr l])++(s :: ss)) by
    unfold zjs;dsimp only
    rw [show decide ((hd l:Int)<(hd s:Int))=true by simp [q],cond_true,zdz,e]]
   rw [show decide (hd l<hd s)=true by simp [q],cond_true]
   show (g++[upr l])++(s :: ss)=_
   simp
  ·rw [show decide (hd l<hd s)=false by simp [q],cond_false]
   have q':decide ((hd l:Int)<(hd s:Int))=false:=by simp;omega
   by_cases z:hd l=hd s
   ·rw [show zjs steps (g,l) ((k:Int),s)=.inl (g++[(mrg s l).1],low (mrg s l).2 ss) by
     unfold zjs Let;dsimp only
     rw [q',show decide ((hd l:Int)=(hd s:Int))=true by simp [z],cond_false,cond_true,cond_true,e2,zdz,e']]
    rw [show decide (hd l=hd s)=true by simp [z],cond_true]
    show zil (zbi (zjs steps) _ ((zaW ((k:Int)+1) ss.length).zip ss)) _ _=_
    rw [e2,zgI ss (k+1) _ _ e']
    simp
   ·rw [show zjs steps (g,l) ((k:Int),s)=.inl (g++[s],l) by
     unfold zjs Let;dsimp only
     rw [q',show decide ((hd l:Int)=(hd s:Int))=false by simp;omega,cond_false,cond_false,cond_false]]
    rw [show decide (hd l=hd s)=false by simp [z],cond_false]
    show zil (zbi (zjs steps) _ ((zaW ((k:Int)+1) ss.length).zip ss)) _ _=_
    rw [e2,zgI ss (k+1) _ _ e']
    simp
theorem zqy (steps:List (List Int)) (l:List Int):zil (zbi (zjs steps) ([],l) (zdI steps)) zpy (λb=>b)=tin MG steps l:=by
 have:=zgI (steps:=steps) steps 0 [] l rfl
 simp only [List.nil_append] at this
 exact this
theorem zqn:∀ (ss:List (List Int)),List.foldl (λ(s:List (List Int)) (x:List Int)=>[low x s]++s) [] ss.reverse=stl ss
 | []=>rfl
 | s :: ss=>by
  rw [List.reverse_cons,List.foldl_append,zqn ss]
  rfl
theorem ziq:∀ {ss:List (List Int)} {j:Nat},stl (ss.drop j)=(stl ss).drop j
 | [],j=>by simp [stl]
 | s :: ss,0=>rfl
 | s :: ss,j+1=>by rw [List.drop_succ_cons,ziq];rfl
theorem zdH.of {x y:Int} {a b:Nat} (h1:x.natAbs≤2^a) (h2:y.natAbs≤2^b) (ha:a≤50000000) (hb:b≤50000000):zdH x y :=
 .inr (.inr ⟨zfO (k:=a+1) (by have:2^a<2^(a+1):=Nat.pow_lt_pow_right (by decide) (Nat.lt_succ_self a);omega) (by omega) (by omega),zfO (k:=b+1) (by have:2^b<2^(b+1):=Nat.pow_lt_pow_right (by decide) (Nat.lt_succ_self b);omega) (by omega) (by omega)⟩)
theorem zfH.of {x y:Int} {b:Nat} (h:0<y) (h2:y.natAbs≤2^b) (hb:b≤8990):zfH x y :=
 ⟨h,zfO (k:=b+1) (by have:2^b<2^(b+1):=Nat.pow_lt_pow_right (by decide) (Nat.lt_succ_self b);omega) (by omega) (by omega)⟩
def zid (a b:Int):Prop:=0<a∧0<b∧a.natAbs≤2^8980∧b.natAbs≤2^8980
section
variable {one other:Int} {s:G4}
theorem GI.gn (I:GI one other s) (h:zid one other):s.1.natAbs≤2^8981:=by
 have:=I.g;have:=I.gb;obtain ⟨h1,h2,h3,h4⟩:=h
 rw [Nat.pow_succ]
 omega
theorem GI.mn (I:GI one other s) (h:zid one other):s.2.1.natAbs≤2^8981:=by
 have:=I.m;have:=I.mb;obtain ⟨h1,h2,h3,h4⟩:=h
 rw [Nat.pow_succ]
 omega
theorem GI.tn (I:GI one other s) (h:zid one other):s.2.2.1.natAbs≤2^8980:=by
 have:=I.tb;obtain ⟨h1,h2,h3,h4⟩:=h
 omega
theorem GI.ln (I:GI one other s) (h:zid one other):s.2.2.2.natAbs≤2^8980:=by
 have:=I.lb;obtain ⟨h1,h2,h3,h4⟩:=h
 omega
theorem GI.pos (I:GI one other s) (hc:(!decide (s.2.1=(0:Int)))=true):0<s.2.1:=by
 have:=I.m
 simp only [Bool.not_eq_true',decide_eq_false_iff_not] at hc
 omega
theorem GI.div (I:GI one other s) (h:zid one other) (hc:(!decide (s.2.1=(0:Int)))=true):zfH s.1 s.2.1:=zfH.of (I.pos hc) (I.mn h) (by decide)
theorem GI.mul1 (I:GI one other s) (h:zid one other) (hc:(!decide (s.2.1=(0:Int)))=true) {p:Int} (e:p=s.1/s.2.1):zdH p s.2.1:=by
 subst e;exact zdH.of (zfa (I.pos hc) (I.gn h)) (I.mn h) (by decide) (by decide)
theorem GI.mul2 (I:GI one other s) (h:zid one other) (hc:(!decide (s.2.1=(0:Int)))=true) {p:Int} (e:p=s.1/s.2.1):zdH p s.2.2.2:=by
 subst e;exact zdH.of (zfa (I.pos hc) (I.gn h)) (I.ln h) (by decide) (by decide)
theorem GI.mul3 (I:GI one other s) (h:zid one other):zdH s.2.2.1 one:=zdH.of (I.tn h) h.2.2.1 (by decide) (by decide)
theorem zid.div (h:zid one other) {x:Int}:zfH x other:=zfH.of h.2.1 h.2.2.2 (by decide)
end
def LowP (row:List Int) (steps:List (List Int)):Prop:=∃ n a s,n≤1000∧row.length=n∧steps.length≤1000∧Bit a row∧(∀ t∈steps,Sd n s t)∧a+steps.length*(s+1)+s≤50000000
section
variable {n s a i:Nat} {l t:List Int} {h q:Int}
theorem ziH (T:Sd n s t) (e:h=(hd t:Int)) (hl:l.length=n):InB l.length h:=by
 have:=T.hd
 unfold InB
 omega
theorem znh (T:Sd n s t) (e:h=(hd t:Int)):zfH (ixD l h) (ixD t h):=by
 subst e
 rw [zcb,zcb]
 exact zfH.of T.pos T.top (by decide)
theorem znV (T:Sd n s t) (e:h=(hd t:Int)) (hb:Bit a l) (eq:q=ixD l h/ixD t h) (ha:a+s≤50000000):∀ y∈t,zdH y q:=by
 subst e eq
 rw [zcb,zcb]
 exact λy hy=>zdH.of (T.bit y hy) (zmI T hb) (by omega) (by omega)
theorem znW (T:Sd n s t) (hl:l.length=n∧Bit (a+i*(s+1)) l) {y:List Int} (e:y=zh2 l t):y.length=n∧Bit (a+(i+1)*(s+1)) y:=by
 subst e
 refine ⟨by rw [zgz (by rw [hl.1,T.len]),hl.1],(zix T hl.1 hl.2).mono ?_⟩
 rw [Nat.succ_mul];omega
theorem zm6 {k i:Nat} (h:a+k*(s+1)+s≤50000000) (hi:i<k):a+i*(s+1)+s≤50000000:=by
 have:=Nat.mul_le_mul_right (s+1) (show i≤k by omega)
 omega
end
def MrgP (t l:List Int):Prop:=∃ n a s,n≤1000∧Sd n s t∧l.length=n∧Bit a l∧0<vec l (hd t)∧vec l (hd t)<vec t (hd t)∧a+s≤40000000
section
variable {n s a:Nat} {l t:List Int} {h:Int}
theorem zjJ (T:Sd n s t) (e:h=(hd t:Int)) (h0:0<vec l (hd t)) (h1:vec l (hd t)<vec t (hd t)):zid (ixD t h) (ixD l h):=by
 subst e
 rw [zcb,zcb]
 exact ⟨T.pos,h0,T.top,by have:=T.top;omega⟩
theorem zmC {x y:Int} (h:zid x y):0<(cmn x y).a∧(cmn x y).a.natAbs≤2^8981∧(cmn x y).b.natAbs≤2^8980∧(cmn x y).c.natAbs≤2^17962:=by
 have C:=zjW h.1 h.2.1
 have:=C.bd h.2.1 zp1 h.2.2.1 h.2.2.2
 exact ⟨C.pos,this⟩
theorem zgC {x:Int} {a b:Nat} {l:List Int} (h1:Bit a l) (h2:x.natAbs≤2^b) (ha:a≤50000000) (hb:b≤50000000):∀ y∈l,zdH y x:=λy hy=>zdH.of (h1 y hy) h2 ha hb
end
def TinP (steps:List (List Int)) (row:List Int):Prop:=∃ n a s,n≤1000∧Ech n 0 steps∧(∀ t∈steps,Sd n s t)∧row.length=n∧Bit a row∧steps.length≤100∧a+(steps.length+2)*((steps.length+1)*(s+9000))+s≤40000000
theorem ziF {n:Nat}:∀ {ss:List (List Int)} {lo j:Nat},Ech n lo ss->Ech n lo (ss.drop j)
 | [],_,_,_=>by simp [Ech]
 | _ :: _,_,0,h=>h
 | s :: ss,lo,j+1,h=>by
  rw [List.drop_succ_cons]
  exact ziF (h.2.2.2.2.mono (by have:=h.2.1;omega))
section
variable {n s a i:Nat} {steps:List (List Int)} {st:TS2} {x:Int×List Int}
structure TI (steps:List (List Int)) (n a s i:Nat) (st:TS2):Prop where
 g:st.1.length≤i
 len:st.2.length=n
 bit:Bit (a+steps.length*(s+1)+i*((steps.length+1)*(s+9000))) st.2
 red:∀ t∈steps.drop i,0≤vec st.2 (hd t)∧vec st.2 (hd t)<vec t (hd t)
theorem TI.start {row:List Int} (e:Ech n 0 steps) (T:∀ t∈steps,Sd n s t) (hl:row.length=n) (hb:Bit a row):TI steps n a s 0 ([],low row steps):=by
 obtain ⟨k1,k2,k3,k4⟩:=za7 (l:=row) e hl
 exact ⟨Nat.le_refl 0,k1,by simpa using zes T hl hb,by simpa using k3⟩
theorem TI.mem (hx:i<steps.length∧x.1=(i:Int)∧steps[i]?=some x.2):x.2∈steps∧x.2∈steps.drop i∧steps.drop i=x.2 :: steps.drop (i+1):=by
 have e:steps.drop i=x.2 :: steps.drop (i+1):=by
  rw [List.drop_eq_getElem_cons hx.1]
  congr 1
  have:=hx.2.2
  rw [List.getElem?_eq_getElem hx.1] at this
  exact Option.some.inj this
 exact ⟨List.mem_of_getElem? hx.2.2,by rw [e];exact List.mem_cons_self,e⟩
theorem TI.num (hi:i≤steps.length) (h:a+(steps.length+2)*((steps.length+1)*(s+9000))+s≤40000000):a+steps.length*(s+1)+i*((steps.length+1)*(s+9000))+(s+9000)≤40000000:=by
 have e1:i*((steps.length+1)*(s+9000))≤steps.length*((steps.length+1)*(s+9000)):=Nat.mul_le_mul_right _ hi
 have e2:steps.length*(s+1)≤(steps.length+1)*(s+9000):=Nat.mul_le_mul (by omega) (by omega)
 have e3:s+9000≤(steps.length+1)*(s+9000):=Nat.le_mul_of_pos_left _ (by omega)
 rw [Nat.add_mul] at h
 omega
theorem TI.mrg (I:TI steps n a s i st) (hn:n≤1000) (T:∀ t∈steps,Sd n s t) (hx:i<steps.length∧x.1=(i:Int)∧steps[i]?=some x.2) (hh:hd st.2=hd x.2) (hN:a+(steps.length+2)*((steps.length+1)*(s+9000))+s≤40000000):MrgP x.2 st.2:=by
 obtain ⟨m1,m2,m3⟩:=TI.mem hx
 have r:=I.red _ m2
 have T1:=T _ m1
 have ne:=zfz (l:=st.2) (by rw [hh,I.len];exact T1.hd)
 rw [hh] at ne
 exact ⟨n,_,s,hn,T1,I.len,I.bit,by omega,r.2,by have:=TI.num (Nat.le_of_lt hx.1) hN;omega⟩
theorem zhL {t l:List Int} {b:Nat} (T:Sd n s t) (hl:l.length=n) (hb:Bit b l) (h0:0<vec l (hd t)) (h1:vec l (hd t)<vec t (hd t)):(mrg t l).2.length=n∧Bit (b+(s+8982)) (mrg t l).2∧(mrg t l).1.length=n∧Bit (b+(s+17964)) (mrg t l).1:=by
 have e:t.length=l.length:=by rw [hl,T.len]
 have P:zid (vec t (hd t)) (vec l (hd t)):=⟨T.pos,h0,T.top,by have:=T.top;omega⟩
 have C:=zmC P
 exact ⟨by rw [show (mrg t l).2=mg2 t l _ from rfl,zk2 e,T.len],znR T hl hb (zjW T.pos h0) h1 (by omega),by rw [show (mrg t l).1=mg1 t l _ _ from rfl,zjA e,T.len],zmT T hl hb C.2.2.1 C.2.2.2⟩
theorem TI.low (I:TI steps n a s i st) (hn:n≤1000) (hk:steps.length≤100) (T:∀ t∈steps,Sd n s t) (hx:i<steps.length∧x.1=(i:Int)∧steps[i]?=some x.2) (hh:hd st.2=hd x.2) (hN:a+(steps.length+2)*((steps.length+1)*(s+9000))+s≤40000000):LowP (Lat.mrg x.2 st.2).2 (cutD steps (some (x.1+(1:Int))) none):=by
 obtain ⟨m1,m2,m3⟩:=TI.mem hx
 have r:=I.red _ m2
 have T1:=T _ m1
 have ne:=zfz (l:=st.2) (by rw [hh,I.len];exact T1.hd)
 rw [hh] at ne
 obtain ⟨b1,b2,_⟩:=zhL T1 I.len I.bit (by omega) r.2
 rw [hx.2.1,show ((i:Int)+(1:Int))=((i+1:Nat):Int) by omega,zdz]
 refine ⟨n,_,s,hn,b1,by rw [List.length_drop];omega,b2,λt ht=>T t (List.mem_of_mem_drop ht),?_⟩
 have hp:(List.drop (i+1) steps).length*(s+1)≤steps.length*(s+9000):=Nat.mul_le_mul (by rw [List.length_drop];omega) (by omega)
 have hm:steps.length*(s+1)≤(steps.length+1)*(s+9000):=Nat.mul_le_mul (by omega) (by omega)
 have ho:i*((steps.length+1)*(s+9000))≤steps.length*((steps.length+1)*(s+9000)):=Nat.mul_le_mul_right _ (by omega)
 have hq:(steps.length+1)*(s+9000)=steps.length*(s+9000)+(s+9000):=Nat.succ_mul _ _
 rw [Nat.add_mul steps.length 2] at hN
 omega
theorem TI.step (I:TI steps n a s i st) (e:Ech n 0 steps) (T:∀ t∈steps,Sd n s t) (hx:i<steps.length∧x.1=(i:Int)∧steps[i]?=some x.2) {st':TS2} (hf:zjs steps st x=.inl st'):TI steps n a s (i+1) st':=by
 obtain ⟨m1,m2,m3⟩:=TI.mem hx
 have r:=I.red _ m2
 have T1:=T _ m1
 have dd:∀ t∈steps.drop (i+1),t∈steps.drop i:=λt ht=>by rw [m3];exact List.mem_cons_of_mem _ ht
 have mo:a+steps.length*(s+1)+i*((steps.length+1)*(s+9000))≤a+steps.length*(s+1)+(i+1)*((steps.length+1)*(s+9000)):=by
  have:=Nat.mul_le_mul_right ((steps.length+1)*(s+9000)) (show i≤i+1 by omega)
  omega
 unfold zjs Let at hf
 by_cases q:hd st.2<hd x.2
 ·rw [show decide ((hd st.2:Int)<(hd x.2:Int))=true by simp [q],cond_true] at hf
  cases hf
 ·rw [show decide ((hd st.2:Int)<(hd x.2:Int))=false by simp;omega,cond_false] at hf
  by_cases z:hd st.2=hd x.2
  ·rw [show decide ((hd st.2:Int)=(hd x.2:Int))=true by simp [z],cond_true,cond_true] at hf
   cases hf
   have ne:=zfz (l:=st.2) (by rw [z,I.len];exact T1.hd)
   rw [z] at ne
   obtain ⟨b1,b2,_⟩:=zhL T1 I.len I.bit (by omega) r.2
   rw [hx.2.1,show ((i:Int)+(1:Int))=((i+1:Nat):Int) by omega,zdz]
   have ed:Ech n 0 (steps.drop (i+1)):=ziF e
   obtain ⟨k1,k2,k3,k4⟩:=za7 (l:=(Lat.mrg x.2 st.2).2) ed b1
   refine ⟨by have:=I.g;simp;omega,k1,(zes (λt ht=>T t (List.mem_of_mem_drop ht)) b1 b2).mono ?_,k3⟩
   have e5:(List.drop (i+1) steps).length*(s+1)≤steps.length*(s+9000):=Nat.mul_le_mul (by rw [List.length_drop];omega) (by omega)
   rw [Nat.succ_mul i,Nat.add_mul steps.length 1]
   omega
  ·rw [show decide ((hd st.2:Int)=(hd x.2:Int))=false by simp;omega,cond_false,cond_false] at hf
   cases hf
   exact ⟨by have:=I.g;simp;omega,I.len,I.bit.mono mo,λt ht=>I.red t (dd t ht)⟩
end
theorem tin_bit {n s K:Nat}:∀ {ss:List (List Int)} {lo a:Nat} {l:List Int},Ech n lo ss->(∀ t∈ss,Sd n s t)->l.length=n->(∀ t∈ss,0≤vec l (hd t)∧vec l (hd t)<vec t (hd t))->Bit a l->ss.length≤K →
  ∀ t∈tin MG ss l,Bit (a+ss.length*((K+1)*(s+9000))+s+18000) t
 | [],lo,a,l,_,_,_,_,hb,_,t,ht=>by
  unfold tin at ht
  cases q:decide (hd l<l.length) with
  | true=>rw [q,cond_true] at ht;rw [List.mem_singleton.mp ht];exact (zk7 hb).mono (by omega)
  | false=>rw [q,cond_false] at ht;simp at ht
 | s' :: ss,lo,a,l,e,T,hl,r,hb,hK,t,ht=>by
  have T1:=T s' List.mem_cons_self
  have hS:∀ t∈s' :: ss,Bit (a+(s' :: ss).length*((K+1)*(s+9000))+s+18000) t:=λt ht=>(T t ht).bit.mono (by omega)
  rw [ziY] at ht
  cases q:decide (hd l<hd s') with
  | true =>
   rw [q,cond_true] at ht
   rcases List.mem_cons.mp ht with rfl | ht
   ·exact (zk7 hb).mono (by omega)
   ·exact hS t ht
  | false =>
   rw [q,cond_false] at ht
   by_cases z:hd l=hd s'
   ·rw [show decide (hd l=hd s')=true by simp [z],cond_true] at ht
    have ne:=zfz (l:=l) (by rw [z,hl];exact T1.hd)
    rw [z] at ne
    have r1:=r s' List.mem_cons_self
    obtain ⟨b1,b2,b3,b4⟩:=zhL T1 hl hb (by omega) r1.2
    rcases List.mem_cons.mp ht with rfl | ht
    ·exact b4.mono (by omega)
    ·obtain ⟨k1,k2,k3,k4⟩:=za7 (l:=(mrg s' l).2) e.2.2.2.2 b1
     have:=tin_bit (K:=K) e.2.2.2.2 (λt ht=>T t (List.mem_cons_of_mem _ ht)) k1 k3 (zes (λt ht=>T t (List.mem_cons_of_mem _ ht)) b1 b2) (by simp at hK;omega) t ht
     refine this.mono ?_
     have e5:ss.length*(s+1)≤K*(s+9000):=Nat.mul_le_mul (by simp at hK;omega) (by omega)
     rw [List.length_cons,Nat.succ_mul ss.length ((K+1)*(s+9000))]
     have e6:(K+1)*(s+9000)=K*(s+9000)+(s+9000):=Nat.succ_mul _ _
     omega
   ·rw [show decide (hd l=hd s')=false by simp [z],cond_false] at ht
    rcases List.mem_cons.mp ht with rfl | ht
    ·exact hS t List.mem_cons_self
    ·refine (tin_bit (K:=K) e.2.2.2.2 (λt ht=>T t (List.mem_cons_of_mem _ ht)) hl (λt ht=>r t (List.mem_cons_of_mem _ ht)) hb (by simp at hK;omega) t ht).mono ?_
     have:ss.length*((K+1)*(s+9000))≤(s' :: ss).length*((K+1)*(s+9000)):=Nat.mul_le_mul_right _ (by simp)
     omega
def zol (steps:List (List Int)):Prop:=steps.length≤1000∧∀ j x,steps[j]?=some x->LowP x (stl (steps.drop (j+1)))
section
variable {steps fl:List (List Int)} {i:Nat} {x:List Int}
theorem zhQ (hx:steps.reverse[i]?=some x):∃ j,j+1+i=steps.length∧steps[j]?=some x∧steps.drop j=x :: steps.drop (j+1):=by
 have hi:i<steps.reverse.length:=(List.getElem?_eq_some_iff.mp hx).1
 rw [List.length_reverse] at hi
 rw [List.getElem?_reverse hi] at hx
 have hj:steps.length-1-i<steps.length:=by omega
 refine ⟨steps.length-1-i,by omega,hx,?_⟩
 rw [List.getElem?_eq_getElem hj] at hx
 rw [List.drop_eq_getElem_cons hj,Option.some.inj hx]
theorem znX (h:zol steps) (hx:steps.reverse[i]?=some x) (e:fl=stl (steps.drop (steps.length-i))):LowP x fl:=by
 obtain ⟨j,h1,h2,h3⟩:=zhQ hx
 rw [e,show steps.length-i=j+1 by omega]
 exact h.2 j x h2
theorem zmW (hx:steps.reverse[i]?=some x) (e:fl=stl (steps.drop (steps.length-i))) {y:List (List Int)} (hy:y=[low x fl]++fl):y=stl (steps.drop (steps.length-(i+1))):=by
 obtain ⟨j,h1,h2,h3⟩:=zhQ hx
 rw [hy,e,show steps.length-i=j+1 by omega,show steps.length-(i+1)=j by omega,h3]
 rfl
theorem zh5:∀ {ss:List (List Int)},(stl ss).length=ss.length
 | []=>rfl
 | s :: ss=>by simp [stl,zh5]
theorem zoE (h:zol steps) (hi:i<steps.length) (e:fl=stl (steps.drop (steps.length-i))):fl.length≤1000:=by
 rw [e,zh5,List.length_drop]
 have:=h.1
 omega
end
def Fit (n b R:Nat):Prop:=n≤1000∧R≤31∧eB b R≤8980∧b+(min n R+2)*((min n R+1)*(sB b R+9000))+3*sB b R+18001+(min n R+1)*(sB b R+1)≤40000000
def zqk (rows:List (List Int)):Prop:=∃ n b R,Fit n b R∧rows.length≤R∧∀ r∈rows,r.length=n∧Bit b r
section
variable {n b R i:Nat} {rows ss:List (List Int)} {r:List Int}
theorem zgL (hr:rows[i]?=some r):clm MG (rows.take (i+1))=stl (tin MG (clm MG (rows.take i)) (low r (clm MG (rows.take i)))):=by
 have hi:=(List.getElem?_eq_some_iff.mp hr).1
 rw [List.take_succ_eq_append_getElem hi]
 unfold clm
 rw [List.foldl_append]
 rw [List.getElem?_eq_getElem hi] at hr
 rw [← Option.some.inj hr]
 rfl
theorem zgh (h:∀ r∈rows,r.length=n):Stairs n rows (clm MG rows)∧(clm MG rows).length≤rows.length:=by
 have:∀ i,i≤rows.length->Stairs n (rows.take i) (clm MG (rows.take i))∧(clm MG (rows.take i)).length≤i:=by
  intro i
  induction i with
  | zero=>exact λ_=>⟨by simpa [clm] using Stairs.nil,by simp [clm]⟩
  | succ i ih =>
   intro hi
   obtain ⟨s1,s2⟩:=ih (by omega)
   have e:rows[i]?=some rows[i]:=List.getElem?_eq_getElem (by omega)
   obtain ⟨t1,t2⟩:=s1.step MG (r:=rows[i]) (h _ (List.getElem_mem _))
   rw [zgL e,List.take_succ_eq_append_getElem (by omega)]
   exact ⟨t1,by omega⟩
 obtain ⟨t1,t2⟩:=this rows.length (Nat.le_refl _)
 rw [List.take_length] at t1 t2
 exact ⟨t1,t2⟩
theorem zha (F:Fit n b R) (hl:rows.length≤R) (h:∀ r∈rows,r.length=n∧Bit b r):Stairs n rows (clm MG rows)∧(clm MG rows).length≤min n R∧∀ t∈clm MG rows,Sd n (sB b R) t:=by
 obtain ⟨s1,s2⟩:=zgh (rows:=rows) λr hr=>(h r hr).1
 refine ⟨s1,?_,λt ht=>?_⟩
 ·have:=zkY s1.ech (Nat.zero_le n)
  omega
 ·obtain ⟨a1,a2,a3,a4⟩:=s1.ech.mem t ht
  obtain ⟨b1,b2⟩:=s1.bits F.2.1 hl (λr hr=>(h r hr).2) t ht
  exact ⟨a1,a3,a4,Nat.le_trans b1 (Nat.pow_le_pow_right (by decide) F.2.2.1),b2⟩
theorem zjx (F:Fit n b R) (hl:rows.length≤R) (h:∀ r∈rows,r.length=n∧Bit b r) (hr:rows[i]?=some r) (e:ss=clm MG (rows.take i)):LowP r ss∧TinP ss r∧zol (tin MG ss (low r ss)):=by
 subst e
 have hi:=(List.getElem?_eq_some_iff.mp hr).1
 have hrm:=h r (List.mem_of_getElem? hr)
 obtain ⟨s1,s2,s3⟩:=zha F (rows:=rows.take i) (by rw [List.length_take];omega) λr hr=>h r (List.mem_of_mem_take hr)
 obtain ⟨t1,t2,t3⟩:=zha F (rows:=rows.take (i+1)) (by rw [List.length_take];omega) λr hr=>h r (List.mem_of_mem_take hr)
 rw [zgL hr] at t1 t2 t3
 obtain ⟨f1,f2,f3,f4⟩:=F
 generalize clm MG (rows.take i)=ss at *
 generalize hs:sB b R=s at *
 generalize hk:min n R=k at *
 obtain ⟨k1,k2,k3,k4⟩:=za7 (l:=r) s1.ech hrm.1
 have m1:ss.length*(s+1)≤(k+1)*(s+1):=Nat.mul_le_mul_right _ (by omega)
 have m2:(ss.length+2)*((ss.length+1)*(s+9000))≤(k+2)*((k+1)*(s+9000)):=Nat.mul_le_mul (by omega) (Nat.mul_le_mul_right _ (by omega))
 have hk32:k≤31:=by omega
 refine ⟨⟨n,b,s,f1,hrm.1,by omega,hrm.2,s3,by omega⟩,⟨n,b,s,f1,s1.ech,s3,hrm.1,hrm.2,by omega,by omega⟩,?_,λj x hx=>?_⟩
 ·rw [zh5] at t2;omega
 ·have hxm:=List.mem_of_getElem? hx
  have g1:=tin_bit (K:=k) s1.ech s3 k1 k3 (zes s3 hrm.1 hrm.2) s2 x hxm
  obtain ⟨e1,_⟩:=zfv MG s1.ech k1 (λi hi=>absurd hi (Nat.not_lt_zero i)) k3 (Nat.zero_le n)
  rw [ziq]
  refine ⟨n,_,s,f1,(e1.mem x hxm).1,by rw [List.length_drop];omega,g1,λt ht=>t3 t (List.mem_of_mem_drop ht),?_⟩
  have m3:(List.drop (j+1) (stl (tin MG ss (low r ss)))).length*(s+1)≤(k+1)*(s+1):=Nat.mul_le_mul_right _ (by rw [List.length_drop];omega)
  have m4:ss.length*((k+1)*(s+9000))≤k*((k+1)*(s+9000)):=Nat.mul_le_mul_right _ s2
  have m5:(k+1)*(s+1)≤(k+1)*(s+9000):=Nat.mul_le_mul_left _ (by omega)
  rw [Nat.add_mul k 2] at f4
  omega
end
end Lat
namespace L2
open PySem PySem.Spec PyProof.Rows
section
variable {X:Cx} {K:W.Frag}
end
section
variable {E:XS} {Γ:Ctx} {te tj:TE} {u:TS} {o:Oc} {m:Bool} {K:W.Frag} {i j:Nat} {α β:Type} {f:α->Ds}
end
section
variable {E:XS} {Γ:Ctx} {u:TS} {o:Oc} {K:W.Frag} {i j:Nat}
theorem zjE {k:Nat} {s:Slot} (h:(unC Γ)[k]?=some s):∃ r,Γ[k]?=some r∧unS r=s:=by
 unfold unC at h
 rw [List.getElem?_map] at h
 cases q:Γ[k]? with
 | none=>rw [q] at h;cases h
 | some r=>rw [q] at h;exact ⟨r,rfl,Option.some.inj h⟩
theorem zpt:unC (unC Γ)=unC Γ:=by
 unfold unC
 rw [List.map_map]
 refine List.map_congr_left λs _=>?_
 cases s<;>rfl
theorem noOb_un (h:zlb Γ=true):zlb (unC Γ)=true:=by
 unfold zlb unC at *
 rw [List.all_map]
 refine List.all_eq_true.mpr λs hs=>?_
 have:=List.all_eq_true.mp h s hs
 cases s<;>first | rfl | exact this
theorem paired_ints {R:Hp}:∀ {vs:List V} {ns:List Int},Paired (λv (d:Ds)=>d.pr R v) vs (ns.map dI)->vs=ns.map V.int
 | [],[],_=>rfl
 | _ :: _,_ :: _,.cons h t=>by
  have h:_=V.int _:=h
  rw [h,paired_ints t];rfl
end
end L2
namespace L2
open PySem PySem.Spec PyProof.Rows
end L2
namespace Lat
open L2
def RB (w b:Nat) (rows:List (List Int)):Prop:=∀ r∈rows,r.length=w∧Bit b r
theorem setZ_mem {α:Type} {xs:List α} {i:Int} {x y:α} (h:y∈setZ xs i x):y=x∨y∈xs:=by
 unfold setZ at h
 split at h
 ·rcases List.mem_or_eq_of_mem_set h with h | h
  ·exact .inr h
  ·exact .inl h
 ·exact .inr h
theorem zgN {α β:Type} (g:α->β):∀ (xs:List α) (acc:List β),List.foldl (λs x=>s++[g x]) acc xs=acc++xs.map g
 | [],acc=>by simp
 | x :: xs,acc=>by rw [List.foldl_cons,zgN g xs];simp
theorem zeN {n:Nat} (h:n≤24):Fit n 200 13:=by
 unfold Fit
 have e1:eB 200 13=2898:=rfl
 have e2:sB 200 13=40670:=rfl
 rw [e1,e2]
 refine ⟨by omega,by decide,by decide,?_⟩
 have hk:min n 13≤13:=by omega
 generalize min n 13=k at *
 have m1:(k+2)*((k+1)*(40670+9000))≤15*(14*(40670+9000)):=Nat.mul_le_mul (by omega) (Nat.mul_le_mul_right _ (by omega))
 have m2:(k+1)*(40670+1)≤14*(40670+1):=Nat.mul_le_mul_right _ (by omega)
 omega
end Lat
namespace Lat
theorem zhD {n:Nat}:∀ {ss:List (List Int)} {lo:Nat} {u:Vc},Ech n lo ss->SpL ss u->(∀ t∈ss,-vec t (hd t)<u (hd t)∧u (hd t)<vec t (hd t))->∀ i,u i=0
 | [],_,u,_,h,_,i=>Sp.at0 (λ_ ⟨_,z,_⟩=>by simp at z) h
 | s :: ss,lo,u,e,h,k,i=>by
  obtain ⟨w,y,hw,hu⟩:=h.cons
  have e1:=SpL.before e.2.2.2.2 (Nat.lt_succ_self (hd s)) hw
  have e2:=hu (hd s)
  have e3:=k s List.mem_cons_self
  have e4:=e.2.2.2.1
  rw [e1] at e2
  have y0:y=0:=by
   rw [e2,Int.zero_add] at e3
   refine Classical.byContradiction λq=>?_
   rcases Int.lt_or_gt_of_ne q with q | q
   ·have:=Int.mul_le_mul_of_nonneg_right (show y≤(-1:Int) by omega) (Int.le_of_lt e4)
    omega
   ·have:=Int.mul_le_mul_of_nonneg_right (show (1:Int)≤y by omega) (Int.le_of_lt e4)
    omega
  have hu':∀ i,u i=w i:=λi=>by rw [hu i,y0];omega
  have:u=w:=funext hu'
  subst this
  exact zhD e.2.2.2.2 hw (λt ht=>k t (List.mem_cons_of_mem _ ht)) i
theorem Sp.image {A B:Vc->Prop} {g:Vc->Vc} {u:Vc} (h0:∀ i,g (λ_=>0) i=0) (hl:∀ (u a:Vc) (x:Int) i,g (λi=>u i+x*a i) i=g u i+x*g a i) (hA:∀ a,A a->Sp B (g a)) (h:Sp A u):Sp B (g u):=by
 induction h with
 | zero=>exact Sp.zero.conv λi=>(h0 i).symm
 | @add u a z _ ha ih=>exact (ih.plus ((hA a ha).smul z)).conv λi=>(hl u a z i).symm
theorem zcg {l:List Int} {n i:Nat}:vec (l.take n) i=if i<n then vec l i else 0:=by
 unfold vec
 rw [List.getD_eq_getElem?_getD,List.getD_eq_getElem?_getD,List.getElem?_take]
 split<;>rfl
theorem zc6 {l:List Int} {n i:Nat}:vec (l.drop n) i=vec l (n+i):=by
 unfold vec
 rw [List.getD_eq_getElem?_getD,List.getD_eq_getElem?_getD,List.getElem?_drop]
theorem zfW {l t:List Int} {i:Nat}:vec (l++t) i=if i<l.length then vec l i else vec t (i-l.length):=by
 unfold vec
 rw [List.getD_eq_getElem?_getD,List.getD_eq_getElem?_getD,List.getD_eq_getElem?_getD,List.getElem?_append]
 split<;>rfl
theorem zhI {l:List Int} {n:Nat} (h:hd l<n) (hl:hd l<l.length):hd (l.take n)=hd l:=zko (by rw [zcg,if_pos h];exact zfz hl) λi hi=>by
 rw [zcg]
 split
 ·exact za5 hi
 ·rfl
def zlG (n:Nat) (ss:List (List Int)):List (List Int):=List.map (λ(x:List Int)=>x.take n) (List.filter (λ(x:List Int)=>decide (hd x<n)) ss)
theorem zgU {n m:Nat} (hnm:n≤m):∀ {ss:List (List Int)} {lo:Nat},Ech m lo ss->Ech n lo (zlG n ss)
 | [],_,_=>trivial
 | s :: ss,lo,e=>by
  unfold zlG
  by_cases q:hd s<n
  ·rw [List.filter_cons_of_pos (by simpa using q),List.map_cons]
   have hl:=e.1
   have e1:=zhI q (by rw [hl];exact e.2.2.1)
   refine ⟨by rw [List.length_take,hl];omega,by rw [e1];exact e.2.1,by rw [e1];exact q,by rw [e1,zcg,if_pos q];exact e.2.2.2.1,?_⟩
   rw [e1]
   exact zgU hnm e.2.2.2.2
  ·rw [List.filter_cons_of_neg (by simpa using q)]
   exact (zgU hnm e.2.2.2.2).mono (by have:=e.2.1;omega)
theorem zgG {n:Nat} {ss:List (List Int)} {t:List Int} (h:t∈zlG n ss):∃ s∈ss,hd s<n∧t=s.take n:=by
 unfold zlG at h
 obtain ⟨s,hs,rfl⟩:=List.mem_map.mp h
 obtain ⟨h1,h2⟩:=List.mem_filter.mp hs
 exact ⟨s,h1,by simpa using h2,rfl⟩
theorem zgA {n m:Nat} (hnm:n≤m):∀ {ss:List (List Int)} {lo:Nat},Ech m lo ss->Red ss->Red (zlG n ss)
 | [],_,_,_=>trivial
 | s :: ss,lo,e,r=>by
  unfold zlG
  by_cases q:hd s<n
  ·rw [List.filter_cons_of_pos (by simpa using q),List.map_cons]
   refine ⟨λt ht=>?_,zgA hnm e.2.2.2.2 r.2⟩
   obtain ⟨x,hx,h1,rfl⟩:=zgG ht
   have ex:=Ech.mem e.2.2.2.2 x hx
   rw [zhI h1 (by rw [ex.1];exact ex.2.2.1),zcg,zcg,if_pos h1,if_pos h1]
   exact r.1 x hx
  ·rw [List.filter_cons_of_neg (by simpa using q)]
   exact zgA hnm e.2.2.2.2 r.2
abbrev rst (n:Nat) (u:Vc):Vc:=λi=>if i<n then u i else 0
theorem zeJ {n:Nat} {l:List Int}:rst n (vec l)=vec (l.take n):=funext λi=>by rw [zcg]
theorem zg0 {n:Nat} (u a:Vc) (x:Int) (i:Nat):rst n (λi=>u i+x*a i) i=rst n u i+x*rst n a i:=by
 unfold rst;dsimp only;split<;>omega
theorem Stairs.cut {n m:Nat} {rows marked ss:List (List Int)} (hnm:n≤m) (h:Stairs m marked ss) (k:∀ r∈marked,∃ r'∈rows,r.take n=r') (k':∀ r'∈rows,∃ r∈marked,r.take n=r'):Stairs n rows (zlG n ss):=by
 refine ⟨zgU hnm h.ech,zgA hnm h.ech h.red,λt ht=>?_,λr' hr'=>?_⟩
 ·obtain ⟨s,hs,_,rfl⟩:=zgG ht
  rw [← zeJ]
  refine Sp.image (g:=rst n) (λi=>by unfold rst;split<;>rfl) zg0 (λa ⟨r,hr,e⟩=>?_) (h.inn s hs)
  obtain ⟨r',hr',e'⟩:=k r hr
  rw [e,zeJ,e']
  exact SpL.mem hr'
 ·obtain ⟨r,hr,rfl⟩:=k' r' hr'
  rw [← zeJ]
  refine Sp.image (g:=rst n) (λi=>by unfold rst;split<;>rfl) zg0 (λa ⟨s,hs,e⟩=>?_) (h.out r hr)
  rw [e,zeJ]
  by_cases q:hd s<n
  ·refine SpL.mem ?_
   unfold zlG
   exact List.mem_map.mpr ⟨s,List.mem_filter.mpr ⟨hs,by simpa using q⟩,rfl⟩
  ·exact Sp.zero.conv λi=>by
    rw [zcg]
    split
    ·rw [za5 (by omega)]
    ·rfl
def Led (n k:Nat) (rows:List (List Int)) (u:Vc):Prop:=∀ j,j<n->u j=comb (List.map (λi=>u (n+i)) (List.range k)) (rows.map vec) j
theorem Led.sp {n k:Nat} {rows:List (List Int)} {A:Vc->Prop} {u:Vc} (hk:rows.length=k) (hA:∀ a,A a->Led n k rows a) (h:Sp A u):Led n k rows u:=by
 induction h with
 | zero =>
  intro j _
  have:=zf3 (xs:=List.map (λi=>(0:Int)) (List.range k)) (as:=rows.map vec) 0 j
  rw [List.map_map] at this
  have e:(List.map ((λx=>(0:Int)*x) ∘ λ(i:Nat)=>(0:Int)) (List.range k))=List.map (λ_=>(0:Int)) (List.range k):=List.map_congr_left λ_ _=>rfl
  rw [e] at this
  show (0:Int)=comb (List.map (λ(_:Nat)=>(0:Int)) (List.range k)) (rows.map vec) j
  omega
 | @add u a z _ ha ih =>
  intro j hj
  have e1:=ih j hj
  have e2:=hA a ha j hj
  have e3:∀ (xs:List Nat) (as:List Vc),comb (List.map (λi=>u (n+i)+z*a (n+i)) xs) as j=comb (List.map (λi=>u (n+i)) xs) as j+z*comb (List.map (λi=>a (n+i)) xs) as j:=by
   intro xs
   induction xs with
   | nil=>intro as;simp [comb]
   | cons x xs ihx =>
    intro as
    match as with
    | []=>simp [comb]
    | b :: as =>
     simp only [List.map_cons,comb,ihx as]
     grind
  show u j+z*a j=comb (List.map (λi=>u (n+i)+z*a (n+i)) (List.range k)) (rows.map vec) j
  rw [e3,← e1,← e2]
end Lat
namespace L2
open PySem PySem.Spec PyProof.Rows
end L2
namespace Lat
open L2
def zgr (k:Nat) (i:Int):List Int:=setZ (zcY (k:Int) [(0:Int)]) i (1:Int)
def mark (rows:List (List Int)):List (List Int):=List.map (λ(x:Int×List Int)=>x.2++zgr rows.length x.1) (zdI rows)
theorem zcM {k:Nat}:(zcY (k:Int) [(0:Int)]).length=k:=by unfold zcY;simp
theorem ziJ {k:Nat} {i:Int}:(zgr k i).length=k:=by unfold zgr;rw [zd5,zcM]
theorem zez {k j:Nat}:vec (zcY (k:Int) [(0:Int)]) j=0:=by
 by_cases h:j<(zcY (k:Int) [(0:Int)]).length
 ·have:=zhM h
  unfold zcY at this
  obtain ⟨l,h1,h2⟩:=List.mem_flatten.mp this
  rw [(List.mem_replicate.mp h1).2] at h2
  exact List.mem_singleton.mp h2
 ·exact zct (by omega)
theorem ziV {k i j:Nat} (h:i<k):vec (zgr k (i:Int)) j=if j=i then 1 else 0:=by
 unfold zgr setZ ixN
 rw [if_pos (by omega),zcM,if_pos (by omega)]
 show vec ((zcY (k:Int) [(0:Int)]).set (i:Int).toNat 1) j=_
 rw [Int.toNat_natCast]
 unfold vec
 rw [List.getD_eq_getElem?_getD,List.getElem?_set]
 by_cases q:j=i
 ·subst q
  rw [if_pos rfl,if_pos (by rw [zcM];exact h),if_pos rfl];rfl
 ·rw [if_neg (λz=>q z.symm),if_neg q,← List.getD_eq_getElem?_getD]
  exact zez
theorem zl1 {k:Nat} {i:Int} {b:Nat}:Bit b (zgr k i):=λx hx=>by
 unfold zgr at hx
 rcases setZ_mem hx with rfl | hx
 ·exact Nat.one_le_two_pow
 ·obtain ⟨j,_,rfl⟩:=zfJ hx
  rw [zez];exact Nat.zero_le _
theorem zeI {rows:List (List Int)} {m:List Int} (h:m∈mark rows):∃ (i:Nat) (r:List Int),rows[i]?=some r∧m=r++zgr rows.length (i:Int):=by
 unfold mark at h
 obtain ⟨x,hx,rfl⟩:=List.mem_map.mp h
 obtain ⟨i,hi⟩:=List.getElem?_of_mem hx
 obtain ⟨h1,h2,h3⟩:=zcQ hi
 exact ⟨i,x.2,h3,by rw [h2]⟩
theorem znp {rows:List (List Int)} {i:Nat} {r:List Int} (h:rows[i]?=some r):r++zgr rows.length (i:Int)∈mark rows:=by
 unfold mark
 have hi:=(List.getElem?_eq_some_iff.mp h).1
 refine List.mem_map.mpr ⟨((i:Int),r),?_,rfl⟩
 refine List.mem_of_getElem? (i:=i) ?_
 unfold zdI
 rw [List.getElem?_zip_eq_some]
 refine ⟨?_,h⟩
 unfold zaW
 rw [List.getElem?_map,List.getElem?_range hi]
 show some ((0:Int)+(i:Int))=some (i:Int)
 rw [Int.zero_add]
theorem zeH {rows:List (List Int)}:(mark rows).length=rows.length:=by unfold mark;rw [List.length_map,zfK]
theorem zgu {n b:Nat} {rows:List (List Int)} (h:∀ r∈rows,r.length=n∧Bit b r):∀ m∈mark rows,m.length=n+rows.length∧Bit b m:=λm hm=>by
 obtain ⟨i,r,hr,rfl⟩:=zeI hm
 have h1:=h r (List.mem_of_getElem? hr)
 refine ⟨by rw [List.length_append,h1.1,ziJ],λx hx=>?_⟩
 rcases List.mem_append.mp hx with hx | hx
 ·exact h1.2 x hx
 ·exact zl1 x hx
theorem zhe:∀ {as:List Vc} {i c j:Nat} {a:Vc},as[i]?=some a->comb (List.map (λt=>if t=i+c then (1:Int) else 0) (List.map (·+c) (List.range as.length))) as j=a j
 | [],i,c,j,a,h=>by simp at h
 | b :: as,0,c,j,a,h=>by
  have h:b=a:=by simpa using h
  subst h
  rw [List.length_cons,List.range_succ_eq_map,List.map_cons,List.map_cons,List.map_map,List.map_map]
  simp only [comb,Nat.zero_add,if_true]
  have z:∀ (xs:List Nat) (as:List Vc),(∀ x∈xs,x≠0)->comb (List.map (λx=>if x+c=c then (1:Int) else 0) xs) as j=0:=by
   intro xs
   induction xs with
   | nil=>intro as _;simp [comb]
   | cons x xs ih =>
    intro as hx
    match as with
    | []=>simp [comb]
    | d :: as =>
     simp only [List.map_cons,comb]
     rw [if_neg (by have:=hx x List.mem_cons_self;omega),ih as λy hy=>hx y (List.mem_cons_of_mem _ hy)]
     omega
  have:=z (List.map Nat.succ (List.range as.length)) as (λx hx=>by obtain ⟨y,_,rfl⟩:=List.mem_map.mp hx;omega)
  rw [List.map_map] at this
  have e:(List.map (((λt=>if t=c then (1:Int) else 0) ∘ λx=>x+c) ∘ Nat.succ) (List.range as.length))=List.map ((λx=>if x+c=c then (1:Int) else 0) ∘ Nat.succ) (List.range as.length):=List.map_congr_left λ_ _=>rfl
  rw [e,this]
  omega
 | b :: as,i+1,c,j,a,h=>by
  have ih:=zhe (as:=as) (i:=i) (c:=c+1) (j:=j) (a:=a) (by simpa using h)
  rw [List.length_cons,List.range_succ_eq_map,List.map_cons,List.map_cons,List.map_map,List.map_map]
  simp only [comb]
  rw [if_neg (by omega)]
  rw [List.map_map] at ih
  have e:(List.map (((λt=>if t=i+1+c then (1:Int) else 0) ∘ λx=>x+c) ∘ Nat.succ) (List.range as.length))=List.map ((λt=>if t=i+(c+1) then (1:Int) else 0) ∘ λx=>x+(c+1)) (List.range as.length):=List.map_congr_left λx _=>by
   show (if x.succ+c=i+1+c then (1:Int) else 0)=if x+(c+1)=i+(c+1) then 1 else 0
   by_cases q:x=i
   ·rw [if_pos (by omega),if_pos (by omega)]
   ·rw [if_neg (by omega),if_neg (by omega)]
  rw [e,ih]
  omega
theorem zlC {n:Nat} {rows:List (List Int)} (h:∀ r∈rows,r.length=n):∀ m∈mark rows,Led n rows.length rows (vec m):=λm hm j hj=>by
 obtain ⟨i,r,hr,rfl⟩:=zeI hm
 have hi:=(List.getElem?_eq_some_iff.mp hr).1
 have hl:=h r (List.mem_of_getElem? hr)
 have:=zhe (as:=rows.map vec) (i:=i) (c:=0) (j:=j) (a:=vec r) (by rw [List.getElem?_map,hr];rfl)
 rw [zfW,if_pos (by omega),← this,List.map_map,List.length_map]
 congr 1
 refine List.map_congr_left λt ht=>?_
 show (if t+0=i+0 then (1:Int) else 0)=vec (r++zgr rows.length (i:Int)) (n+t)
 rw [zfW,hl,if_neg (show ¬ n+t<n by omega),Nat.add_sub_cancel_left,ziV hi]
 rfl
structure Tr (n:Nat) (rows ss:List (List Int)):Prop where
 st:Stairs (n+rows.length) (mark rows) ss
 sw:Stairs n rows (zlG n ss)
 led:∀ t∈ss,Led n rows.length rows (vec t)
theorem zhz {n:Nat} {rows:List (List Int)} (h:∀ r∈rows,r.length=n):Tr n rows (clm MG (mark rows)):=by
 have S:=(zgh (rows:=mark rows) (n:=n+rows.length) λm hm=>by
  obtain ⟨i,r,hr,rfl⟩:=zeI hm
  rw [List.length_append,ziJ,h r (List.mem_of_getElem? hr)]).1
 have tk:∀ {i:Nat} {r:List Int},rows[i]?=some r->(r++zgr rows.length (i:Int)).take n=r:=λhr=>by
  rw [List.take_append_of_le_length (by rw [h _ (List.mem_of_getElem? hr)];exact Nat.le_refl _),List.take_of_length_le (by rw [h _ (List.mem_of_getElem? hr)];exact Nat.le_refl _)]
 refine ⟨S,S.cut (by omega) (λm hm=>?_) λr hr=>?_,λt ht=>?_⟩
 ·obtain ⟨i,r,hr,rfl⟩:=zeI hm
  exact ⟨r,List.mem_of_getElem? hr,tk hr⟩
 ·obtain ⟨i,hi⟩:=List.getElem?_of_mem hr
  exact ⟨_,znp hi,tk hi⟩
 ·exact Led.sp rfl (λa ⟨m,hm,e⟩=>e ▸ zlC h m hm) (S.inn t ht)
theorem led_road {n k:Nat} {rows:List (List Int)} {t:List Int} (hl:t.length=n+k) (h:Led n k rows (vec t)) {j:Nat} (hj:j<n):vec t j=comb (t.drop n) (rows.map vec) j:=by
 rw [h j hj]
 congr 1
 refine List.ext_getElem (by simp [hl]) λi h1 h2=>?_
 rw [List.getElem_map,List.getElem_range,List.getElem_drop]
 have:n+i<t.length:=by simp at h1;omega
 simp [vec,List.getD_eq_getElem?_getD,List.getElem?_eq_getElem this]
end Lat
namespace Lat
theorem zfB:∀ {l t:List Int} {q:Int} {i:Nat},l.length=t.length->vec (List.map (λ(x:Int×Int)=>x.1+(q*x.2)) (List.zip l t)) i=vec l i+q*vec t i
 | [],[],q,i,_=>by simp [vec]
 | a :: l,b :: t,q,0,_=>rfl
 | a :: l,b :: t,q,i+1,h=>by
  rw [zaP,zaP,← zfB (l:=l) (t:=t) (by simpa using h)]
  exact zaP
end Lat
namespace Lat
end Lat
namespace L2
open PySem PySem.Spec PyProof.Rows
section
variable {X:Cx} {K:W.Frag} {pos:Pos}
end
section
variable {E:XS} {Γ:Ctx} {te ta tb:TE} {u:TS} {o:Oc} {m:Bool} {K:W.Frag} {i j l:Nat} {α β:Type} {f:α->Ds}
end
end L2
namespace Lat
open L2
theorem zlk {xs:List Int} {as:List Vc} {j:Nat}:comb (List.map (λx=>(-1)*x) xs) as j=(-1)*comb xs as j:=zf3 (-1) j
theorem zku {n:Nat} {rows ss:List (List Int)} {v:List Int} (hlen:∀ r∈rows,r.length=n) (T:Tr n rows ss) (hv:v.length=n+rows.length) (h:SpL rows (rst n (vec v))):∀ j,j<n->vec (low v ss) j=0:=by
 obtain ⟨a1,a2,a3,a4⟩:=za7 (l:=v) T.st.ech hv
 have key:=ziI (u:=rst n (vec (low v ss))) T.sw.ech (by
  have d:SpL rows (rst n (λi=>vec v i-vec (low v ss) i)):=by
   refine Sp.image (g:=rst n) (λi=>by unfold rst;split<;>rfl) zg0 (λa ⟨s,hs,e⟩=>?_) a2
   rw [e]
   refine (T.st.inn s hs) |> λq=>Sp.image (g:=rst n) (λi=>by unfold rst;split<;>rfl) zg0 (λb ⟨m,hm,e2⟩=>?_) q
   obtain ⟨i,r,hr,rfl⟩:=zeI hm
   rw [e2,zeJ]
   by_cases hl:r.length=n
   ·rw [List.take_append_of_le_length (by omega),List.take_of_length_le (by omega)]
    exact SpL.mem (List.mem_of_getElem? hr)
   ·exfalso
    have m1:=T.st.ech
    exact hl (hlen r (List.mem_of_getElem? hr))
  exact ((Sp.lin 1 (-1) h d).sub λa ⟨r,hr,e⟩=>e ▸ T.sw.out r hr).conv λi=>by
   unfold rst
   dsimp only
   split<;>omega) (λt ht=>by
  obtain ⟨s,hs,h1,rfl⟩:=zgG ht
  have es:=T.st.ech.mem s hs
  have eh:=zhI h1 (by rw [es.1];exact es.2.2.1)
  rw [eh,zcg,if_pos h1]
  show 0≤(if hd s<n then vec (low v ss) (hd s) else 0)∧(if hd s<n then vec (low v ss) (hd s) else 0)<vec s (hd s)
  rw [if_pos h1]
  exact a3 s hs)
 intro j hj
 have:=key j
 unfold rst at this
 rwa [if_pos hj] at this
theorem zlB {n:Nat} {rows ss:List (List Int)} {v:List Int} (T:Tr n rows ss) (hv:v.length=n+rows.length) (hz:∀ i,vec v (n+i)=0) (h0:∀ j,j<n->vec (low v ss) j=0):∀ j,j<n->comb ((low v ss).drop n) (rows.map vec) j=(-1)*vec v j:=λj hj=>by
 obtain ⟨a1,a2,a3,a4⟩:=za7 (l:=v) T.st.ech hv
 have L:=Led.sp (n:=n) (k:=rows.length) rfl (λa ⟨s,hs,e⟩=>e ▸ T.led s hs) a2 j hj
 rw [h0 j hj] at L
 have e:List.map (λi=>vec v (n+i)-vec (low v ss) (n+i)) (List.range rows.length)=List.map (λx=>(-1)*x) ((low v ss).drop n):=by
  refine List.ext_getElem (by simp [a1]) λi h1 h2=>?_
  rw [List.getElem_map,List.getElem_range,List.getElem_map,List.getElem_drop,hz i]
  have:n+i<(low v ss).length:=by simp [a1] at h1 ⊢;omega
  have e2:vec (low v ss) (n+i)=(low v ss)[n+i]:=by simp [vec,List.getD_eq_getElem?_getD,List.getElem?_eq_getElem this]
  rw [e2];omega
 rw [e,zlk] at L
 omega
end Lat
namespace L2
open PySem PySem.Spec PyProof.Rows
section
variable {X:Cx}
end
end L2
namespace L2
open PySem PySem.Spec PyProof.Rows
section
variable {E:XS} {Γ Γx:Ctx} {m:Bool} {α β ε S:Type} {u:TS} {ds:List Ds}
end
end L2
namespace L2
open PySem PySem.Spec PyProof.Rows
def zfy (R:Hp) (v:V) (ns:List Int):Prop:=∃ r,v=.ref r∧R r=some (.lst (List.map V.int ns))
def dRI (nss:List (List Int)):Ds:=⟨λR v=>∃ p vs,v=.ref p∧R p=some (.lst vs)∧vs.Nodup∧V.ref p ∉ vs∧Paired (zfy R) vs nss,λe ⟨p,vs,h1,h2,h3,h4,h5⟩=>⟨p,vs,h1,e _ _ h2,h3,h4,paired_imp (λ_ _ ⟨r,q1,q2⟩=>⟨r,q1,e _ _ q2⟩) h5⟩⟩
theorem zhZ {R:Hp}:∀ {ns:List Int},Paired (λv (d:Ds)=>d.pr R v) (ns.map V.int) (ns.map dI)
 | []=>.nil
 | _ :: _=>.cons rfl zhZ
theorem zoJ {R:Hp} {v:V} {nss:List (List Int)} (h:(dRI nss).pr R v):(dL (nss.map λl=>dL (l.map dI))).pr R v:=by
 obtain ⟨p,vs,rfl,h2,h3,h4,h5⟩:=h
 refine ⟨p,vs,rfl,h2,?_⟩
 clear h2 h3 h4
 induction h5 with
 | nil=>exact .nil
 | cons q _ ih =>
  obtain ⟨r,rfl,q2⟩:=q
  exact .cons ⟨r,_,rfl,q2,zhZ⟩ ih
section
variable {Γ:Ctx} {m:Bool} {K:W.Frag} {γ:Type} {te tj:TE} {i:Nat} {nss:List (List Int)}
theorem zp8 {t:TE} (h:Ev Γ t m (dRI nss)):Ev Γ t m (dL (nss.map λl=>dL (l.map dI))):=λF0 Hb F H σ own Q a k=>h F0 Hb F H σ own Q a λv F' H' g q=>k v F' H' g (zoJ q)
theorem zlA {own:Nat} {fv:List Nat} {wi:TI} {tg:TG} {js:List Nat} {xs:List γ} {bds:γ->List Ds} {mi:Bool} {ns:γ->List Int} (it:Iv Γ wi tg js xs bds mi) (hz:xs.length≤sizeLine) (hj:(∀ j∈js,j<own)∧js.Nodup)
  (he:∀ (i:Nat) (x:γ),xs[i]?=some x->EvO (zj2 js (bds x) mi (zhF own fv Γ)) te true ((ns x).map dI)):Ev Γ (zkE own fv wi tg tNoIf te) true (dRI (xs.map ns)):=λF0 Hb F H σ ow Q a k =>
 it F0 Hb F H σ ow _ a λJ F1 H1 g1 ok D hD=>by
  have hno:∀ j∈js,(zhF own fv Γ)[j]?=some .no:=λj hj'=>by
   have:=hj.1 j hj'
   unfold zhF
   rw [List.getElem?_append_left (by simpa using this),List.getElem?_replicate,if_pos this]
  obtain ⟨hD0,hDF,hDb⟩:=a.free g1 hD
  refine ⟨λi mm ys σb H2=>mm=xs.length-i∧i≤xs.length∧ys.length≤i∧∃ F2,Grow F1 H1 F2 H2∧F2 D=none∧H2 D=some (.lst ys)∧(ys.Nodup∧V.ref D ∉ ys∧Paired (zfy (off F2 Hb)) ys ((xs.take i).map ns))∧At F0 Hb F2 H2 σb (λ_=>none) (zhF own fv Γ),
   ⟨_,rfl,Nat.zero_le _,Nat.zero_le _,F1,(Grow.refl g1.fh).newH hD,hDF,upd_same,⟨.nil,by simp,by simpa using Paired.nil⟩,((a.grow g1).block own fv).grow ((Grow.refl g1.fh).newH hD)⟩,?_⟩
  rintro i mm ys σb H2 ⟨rfl,hi,hy,F2,g2,hF2,hH2,⟨hN,hDy,hP⟩,a2⟩
  refine ⟨hH2,?_⟩
  obtain ⟨hstop,hitem⟩:=ok.up g2.f H2 g2.fh
  by_cases hlt:i<xs.length
  ·obtain ⟨go,yl⟩:=hitem i xs[i] (List.getElem?_eq_getElem hlt)
   refine .inr ⟨go,λx H' y=>?_⟩
   obtain ⟨g3,bind⟩:=yl x H' y
   refine bind σb _ λvs hvs=>?_
   have a3:=(a2.grow g3).setMany (js:=js) hvs
   have hx:xs[i]?=some xs[i]:=List.getElem?_eq_getElem hlt
   refine evt_noif (Γ:=zj2 js (bds xs[i]) mi (zhF own fv Γ)) F0 Hb F2 H' _ _ _ a3 λF4 H4 g4=>?_
   have tk:=zg6 hx
   rw [if_pos rfl]
   refine he i _ hx F0 Hb F4 H4 _ _ _ (a3.grow g4) λp ws F5 H5 g5 p1 p2 p3 q5=>?_
   have ew:=paired_ints q5
   subst ew
   have g24:=g3.trans g4
   have g6:=g5.take p1 p3
   have g26:=g24.trans g6
   have n2:H5 D=some (.lst ys):=g26.h _ _ hH2
   have hpD:D≠p:=λz=>by rw [← z] at p1;rw [g24.h _ _ hH2] at p1;cases p1
   have n1:upd F5 p (.lst (List.map V.int (ns xs[i]))) D=none:=g26.no D (by rw [hH2];simp) hF2
   have hbp:Hb p=none:=(a2.g.h.trans g24.h).free p1
   have n3:H1 D=none:=hD
   refine ⟨n2,by omega,xs.length-(i+1),by omega,rfl,hlt,by simp;omega,upd F5 p (.lst (List.map V.int (ns xs[i]))),?_,n1,upd_same,⟨?_,?_,?_⟩,?_⟩
   ·exact (g2.trans g26).setH n1 n3
   ·
    refine List.nodup_append.mpr ⟨hN,by simp,λv hv w hw z=>?_⟩
    rw [List.mem_singleton.mp hw] at z
    subst z
    obtain ⟨n,hn⟩:=List.getElem?_of_mem hv
    have hl:=Paired.length hP
    obtain ⟨v',e',⟨r,er,hr⟩⟩:=zaJ hP (List.getElem?_eq_getElem (l:=(xs.take i).map ns) (i:=n) (by have:=(List.getElem?_eq_some_iff.mp hn).1;omega))
    rw [hn] at e'
    cases e'
    cases er
    have:=(off_some.mp hr).2
    have:=g24.h _ _ (g2.fh _ _ this)
    rw [p1] at this;cases this
   ·intro z
    rcases List.mem_append.mp z with z | z
    ·exact hDy z
    ·have:=List.mem_singleton.mp z
     cases this
     exact hpD rfl
   ·rw [tk,List.map_append]
    refine zbs (paired_imp (λ_ _ ⟨r,q1,q2⟩=>⟨r,q1,off_up g26.f _ _ q2⟩) hP) (.cons ⟨p,rfl,off_some.mpr ⟨hbp,upd_same⟩⟩ .nil)
   ·have a5:=((a3.grow g4).grow g6).unsetMany hno hj.2
    refine ⟨a5.g.setH n1 hDb,a5.inj,λ_ _ h=>(nomatch h),λj s es=>?_,a5.len⟩
    have:=a5.sl j s es
    cases s with
    | no=>trivial
    | va m d=>exact this
    | ow m ds=>obtain ⟨_,_,_,h,_⟩:=this;exact (nomatch h)
    | ob m C p dx fs=>obtain ⟨_,_,h,_⟩:=this;exact (nomatch h)
    | ol p ds=>obtain ⟨_,_,h,_⟩:=this;exact (nomatch h)
    | tl d=>exact (zkX es).elim
  ·have e:i=xs.length:=by omega
   subst e
   rw [List.take_length] at hP
   refine .inl ⟨hstop,k (.ref D) (upd F2 D (.lst ys)) H2 ((g1.trans g2).take hD0 hH2) ⟨D,ys,rfl,off_some.mpr ⟨hDb,upd_same⟩,hN,hDy,?_⟩⟩
   exact paired_imp (λ_ _ ⟨r,q1,q2⟩=>⟨r,q1,off_up (Same.new hF2 _) _ _ q2⟩) hP
end
section
variable {E:XS} {Γ:Ctx} {m:Bool} {K:W.Frag} {te tj:TE} {u:TS} {o:Oc} {i:Nat} {nss:List (List Int)}
theorem zgD {R:Hp} {r:Addr} {new:List Int}:∀ {vs:List V} {nss:List (List Int)} {j:Nat},Paired (zfy R) vs nss->vs.Nodup->vs[j]?=some (.ref r)->Paired (zfy (upd R r (.lst (new.map V.int)))) vs (nss.set j new)
 | _,_,_,.nil,_,h=>by simp at h
 | v :: vs,ns :: nss,0,.cons q t,hN,h=>by
  have h:v=.ref r:=by simpa using h
  subst h
  refine .cons ⟨r,rfl,upd_same⟩ ?_
  have hn1:=(List.nodup_cons.mp hN).1
  clear q h hN
  induction t with
  | nil=>exact .nil
  | @cons a b as bs q t ih =>
   obtain ⟨r',rfl,q2⟩:=q
   have hne:r'≠r:=λz=>hn1 (by rw [z];exact List.mem_cons_self)
   exact .cons ⟨r',rfl,by rw [upd_ne hne];exact q2⟩ (ih λz=>hn1 (List.mem_cons_of_mem _ z))
 | v :: vs,ns :: nss,j+1,.cons q t,hN,h=>by
  have hN:=List.nodup_cons.mp hN
  have h:vs[j]?=some (.ref r):=by simpa using h
  obtain ⟨r',rfl,q2⟩:=q
  have hne:r'≠r:=λz=>hN.1 (by rw [z];exact List.mem_of_getElem? h)
  exact .cons ⟨r',rfl,by rw [upd_ne hne];exact q2⟩ (zgD t hN.2 h)
theorem At.row {F0 Hb F H:Hp} {σ:St} {own:Nat->Option Addr} (a:At F0 Hb F H σ own Γ) (e:Γ[i]?=some (.tl (dRI nss))) (hno:zlb Γ=true) {k:Int} (hk:InB nss.length k) :
  ∃ p vs r,σ[i]?=some (some (.ref p))∧H p=some (.lst vs)∧atI vs k=some (.ref r)∧H r=some (.lst ((ixD nss k).map V.int))∧∀ (H':Hp) (new:List Int),Same H H'->At F0 Hb F (upd H' r (.lst (new.map V.int))) σ own ((unC Γ).set i (.tl (dRI (setZ nss k new)))):=by
 obtain ⟨x,R,h1,h2,h3,h4,p,vs,rfl,h6,h7,h8,h9⟩:=a.sl i _ e
 have hi:i<σ.length:=by rw [a.len];exact (List.getElem?_eq_some_iff.mp e).1
 have e':σ[i]?=some (some (.ref p)):=by
  rw [List.getElem?_eq_getElem hi] at h1 ⊢
  exact congrArg some h1
 have hl:=Paired.length h9
 obtain ⟨j,ej,hj,_⟩:=zhl hk
 obtain ⟨v,ev,⟨r,rfl,hr⟩⟩:=zaJ h9 (List.getElem?_eq_getElem (l:=nss) (i:=j) hj)
 have ex:ixD nss k=nss[j]:=by
  unfold ixD atI
  rw [ej]
  show (nss[j]?).getD default=_
  rw [List.getElem?_eq_getElem hj];rfl
 have es:∀ new,setZ nss k new=nss.set j new:=λnew=>by unfold setZ;rw [ej]
 have rF:=h3 r _ hr
 have rO:∀ l,own l≠some r:=λl z=>by rw [h4 l r z] at hr;cases hr
 have rp:p≠r:=λz=>h8 (by rw [z];exact List.mem_of_getElem? ev)
 refine ⟨p,vs,r,e',h2 _ _ h6,?_,by rw [ex];exact h2 _ _ hr,λH' new hs=>?_⟩
 ·unfold atI
  rw [hl,ej]
  exact ev
 ·have a1:=(a.grow (Grow.only a.fh hs)).spoil hno (.lst (new.map V.int)) rF.1 rF.2 rO
  refine ⟨a1.g,a1.inj,a1.liv,λl s es'=>?_,by rw [List.length_set];exact a1.len⟩
  by_cases z:i=l
  ·subst z
   rw [List.getElem?_set_self (by rw [← a1.len];exact hi)] at es'
   cases es'
   rw [e']
   refine ⟨.ref p,upd R r (.lst (new.map V.int)),rfl,λb w q=>?_,λb w q=>?_,λl' b q=>?_,p,vs,rfl,by rw [upd_ne rp];exact h6,h7,h8,by rw [es];exact zgD h9 h7 ev⟩
   ·by_cases y:b=r
    ·subst y;rw [upd_same] at q ⊢;exact q
    ·rw [upd_ne y] at q ⊢;exact hs _ _ (h2 _ _ q)
   ·by_cases y:b=r
    ·subst y;exact rF
    ·rw [upd_ne y] at q;exact h3 b w q
   ·have y:b≠r:=λy=>rO l' (y ▸ q)
    rw [upd_ne y];exact h4 l' b q
  ·rw [List.getElem?_set_ne z] at es'
   exact a1.sl l s es'
end
end L2
namespace L2
open PySem PySem.Spec PyProof.Rows
section
variable {E:XS} {Γ Δ:Ctx} {m:Bool} {K:W.Frag} {te ta tb:TE} {t u:TS} {d:Ds} {ds es:List Ds} {o:Oc} {i j:Nat}
end
section
variable {P:Program} {w:World} {K:W.Frag} {mg:Str->Option Value} {base:Heap} {x qual:Str} {st:Stmt} {f:Addr} {fd:FuncData} {N ps:List Str} {k:Nat}
end
section
variable {E:XS} {Γ Δ:Ctx} {m:Bool} {K:W.Frag} {te ta tb tj:TE} {t u:TS} {d:Ds} {ds es:List Ds} {o:Oc} {i j:Nat} {p:Addr} {α β:Type} {f:α->Ds} {xs:List α}
end
end L2
namespace L2
open PySem PySem.Spec PyProof.Rows
structure T5 (α β γ δ ε:Type) where
 a:α
 b:β
 c:γ
 d:δ
 e:ε
section
variable {E:XS} {Γ:Ctx} {m:Bool} {K:W.Frag} {te tj:TE} {u:TS} {o:Oc} {i j:Nat} {nss:List (List Int)} {α β:Type}
def zmi (Γ:Ctx) (t:TE) (ds:List Ds):Prop:=∀ (F0 Hb F H:Hp) (σ:St) (own:Nat->Option Addr) (Q:VK),At F0 Hb F H σ own Γ →
 (∀ p vs F' H',Grow F H F' H'->H p=none->F' p=none->H' p=some (.lst vs)->Paired (λv (d:Ds)=>d.pr (off F' H) v) vs ds->Q (.ref p) H')->t σ H Q
theorem znb {ds:List Ds} (h:EvO (zo0 Γ) te true ds):zmi Γ te ds:=λF0 Hb F H σ own Q a k=>h F H F H σ _ Q a.now λp vs F' H' g h1 h2 h3 q=>k p vs F' H' g h1 h2 h3 q
theorem zmi.evo {ds:List Ds} (h:zmi Γ te ds):EvO Γ te true ds:=λF0 Hb F H σ own Q a k=>h F0 Hb F H σ own Q a λp vs F' H' g h1 h2 h3 q=>k p vs F' H' g h1 h2 h3 (pr_up (ds:=[]) (zkN a.g.h) q)
theorem zmi.borrowO {ds es:List Ds} (e:Γ[i]?=some (.ow m es)) (h:zmi (Γ.set i (.va m (dL es))) te ds):zmi Γ te ds:=λF0 Hb F H σ own Q a k=>by
 obtain ⟨F1,own1,_,a1⟩:=a.share e
 refine h F0 Hb F1 H σ own1 Q a1 λp vs F' H' g h1 h2 h3 q=>?_
 have e:∀ b o,off F' H b=some o->H b=none∧F' b=some o:=λb o z=>off_some.mp z
 refine k p vs (λb=>match H b with | some _=>F b | none=>F' b) H' ⟨λb o z=>?_,λb o z=>?_,g.h,λb z1 z2=>?_⟩ h1 (by rw [h1];exact h2) h3 (pr_up (ds:=[]) (λb o z=>?_) q)
 ·show (match H b with | some _=>F b | none=>F' b)=some o
  rw [a.fh _ _ z];exact z
 ·have z:(match H b with | some _=>F b | none=>F' b)=some o:=z
  cases w:H b with
  | some o'=>rw [w] at z;exact g.h _ _ (a.fh _ _ z)
  | none=>rw [w] at z;exact g.fh _ _ z
 ·show (match H b with | some _=>F b | none=>F' b)=none
  cases w:H b with
  | some o'=>exact z2
  | none=>exact absurd w z1
 ·obtain ⟨h1,h2⟩:=e b o z
  refine off_some.mpr ⟨h1,?_⟩
  show (match H b with | some _=>F b | none=>F' b)=some o
  rw [h1];exact h2
theorem zdT {x:α} {i j:Nat} (d1 d2:α->Ds) (fo:β->Oc) {kk:α->β} (h:Ev Γ te m (dT [d1 x,d2 x])) (k:∀ y,y=x->Run E ((Γ.set i (.va m (d1 y))).set j (.va m (d2 y))) u (fo (kk y))):Run E Γ (tSeq (zgV te (zly K 2 (zdM (zbx i) (zdM (zbx j) zms)))) u) (fo (Let x kk)):=zhR h (k x rfl)
theorem zhA {x:α} {i1 i2 i3 i4 i5:Nat} (d1 d2 d3 d4 d5:α->Ds) (fo:β->Oc) {kk:α->β} (h:Ev Γ te m (dT [d1 x,d2 x,d3 x,d4 x,d5 x])) (k:∀ y,y=x->Run E (((((Γ.set i1 (.va m (d1 y))).set i2 (.va m (d2 y))).set i3 (.va m (d3 y))).set i4 (.va m (d4 y))).set i5 (.va m (d5 y))) u (fo (kk y))) :
  Run E Γ (tSeq (zgV te (zly K 5 (zdM (zbx i1) (zdM (zbx i2) (zdM (zbx i3) (zdM (zbx i4) (zdM (zbx i5) zms))))))) u) (fo (Let x kk)):=λF0 Hb F H σ own D a q =>
 h F0 Hb F H σ own _ a λv F' H' g ⟨p,vs,e1,e2,e3⟩=>by
  cases e3 with | cons q1 t=>cases t with | cons q2 t=>cases t with | cons q3 t=>cases t with | cons q4 t=>cases t with | cons q5 t =>
   cases t
   exact ⟨p,_,e1,.inl (.inl ((part_sub.trans g.fh) _ _ e2)),rfl,_,_,rfl,_,_,rfl,_,_,rfl,_,_,rfl,_,_,rfl,rfl,k x rfl F0 Hb F' H' _ own D ((((((a.grow g).set i1 q1).set i2 q2).set i3 q3).set i4 q4).set i5 q5) q⟩
theorem paired_rows_up {R R':Hp} (e:Same R R') {vs:List V} (h:Paired (zfy R) vs nss):Paired (zfy R') vs nss:=paired_imp (λ_ _ ⟨r,q1,q2⟩=>⟨r,q1,e _ _ q2⟩) h
open Classical in
theorem zhS {v:List Int->Int} {k:Int} {P:List Int->Prop} (e:Γ[i]?=some (.tl (dRI nss))) (ej:Γ[j]?=some .no) (hno:zlb Γ=true) (hP:∀ ns∈nss,P ns) (hk:∀ ns,P ns->InB ns.length k)
  (h:∀ ns,P ns->Ev ((unC Γ).set j (.tl (dL (ns.map dI)))) te false (dI (v ns))) (hj:∀ ns,P ns->Ev ((unC Γ).set j (.tl (dL (ns.map dI)))) tj false (dI k))
  (kk:Run E ((unC Γ).set i (.tl (dRI (nss.map λns=>setZ ns k (v ns))))) u o):Run E Γ (tSeq (zoL (zlV K (tVar i)) (zbx j) (tSeq (zgV te (zoa (tVar j) tj zjz)) zk4)) u) o:=λF0 Hb F H σ own D a q=>by
 obtain ⟨x,R,h1,h2,h3,h4,p,vs,rfl,h6,h7,h8,h9⟩:=a.sl i _ e
 have hi:i<σ.length:=by rw [a.len];exact (List.getElem?_eq_some_iff.mp e).1
 have e':σ[i]?=some (some (.ref p)):=by
  rw [List.getElem?_eq_getElem hi] at h1 ⊢
  exact congrArg some h1
 have hij:i≠j:=λz=>by rw [z,ej] at e;cases e
 have hl:=Paired.length h9
 have st:∀ v'∈vs,∃ r,v'=.ref r∧F r=none∧Hb r=none∧(∀ l,own l≠some r)∧r≠p:=λv' hv=>by
  obtain ⟨n,hn⟩:=List.getElem?_of_mem hv
  have hn':=(List.getElem?_eq_some_iff.mp hn).1
  obtain ⟨v2,ev,⟨r,er,hr⟩⟩:=zaJ h9 (List.getElem?_eq_getElem (l:=nss) (i:=n) (by omega))
  rw [hn] at ev
  cases ev
  refine ⟨r,er,(h3 r _ hr).1,(h3 r _ hr).2,(λl z=>by rw [h4 l r z] at hr;cases hr),λz=>h8 ?_⟩
  subst z;rw [← er];exact hv
 have hp:H p=some (.lst vs):=h2 _ _ h6
 have pF:=h3 p _ h6
 have pO:∀ l,own l≠some p:=λl z=>by rw [h4 l p z] at h6;cases h6
 have a0:At F0 Hb F H σ own (unC Γ):=⟨a.g,a.inj,a.liv,λk s es=>by
  obtain ⟨r,e1,rfl⟩:=zjE es
  have:=a.sl k r e1
  cases r with
  | tl d=>trivial
  | no=>trivial
  | va m d=>exact this
  | ow m ds=>exact this
  | ol p ds=>exact this
  | ob m C p dx fs=>exact this,by unfold unC;rw [List.length_map];exact a.len⟩
 have gst:∀ n ns,nss[n]?=some ns->((nss.take n).map (λns=>setZ ns k (v ns))++nss.drop n).set n (setZ ns k (v ns))=(nss.take (n+1)).map (λns=>setZ ns k (v ns))++nss.drop (n+1):=λn ns hn=>by
  have hlt:=(List.getElem?_eq_some_iff.mp hn).1
  have en:nss[n]=ns:=by rw [List.getElem?_eq_getElem hlt] at hn;exact Option.some.inj hn
  rw [List.set_append_right _ _ (by rw [List.length_map,List.length_take];omega),List.length_map,List.length_take,Nat.min_eq_left (by omega),Nat.sub_self,List.drop_eq_getElem_cons hlt,List.set_cons_zero,List.take_succ_eq_append_getElem hlt,List.map_append,List.append_assoc,en]
  rfl
 refine ⟨_,e',p,rfl,⟨vs,SqL.of hp⟩,λn m σ' H'=>m=vs.length-n∧n≤vs.length∧At F0 Hb F H' σ' own (unC Γ)∧σ'[i]?=some (some (.ref p))∧H' p=some (.lst vs)∧Paired (zfy H') vs ((nss.take n).map (λns=>setZ ns k (v ns))++nss.drop n),⟨_,rfl,Nat.zero_le _,a0,e',hp,by simpa using paired_rows_up h2 h9⟩,?_⟩
 rintro n m σ1 H1 ⟨rfl,hn,a1,s1,p1,rows1⟩
 by_cases hlt:n<vs.length
 ·refine .inr ⟨⟨vs,vs[n],SqL.of p1,List.getElem?_eq_getElem hlt⟩,λσ' H'=>At F0 Hb F H' σ' own (unC Γ)∧σ'[i]?=some (some (.ref p))∧H' p=some (.lst vs)∧Paired (zfy H') vs ((nss.take (n+1)).map (λns=>setZ ns k (v ns))++nss.drop (n+1)),λσ' H' z=>⟨_,by omega,rfl,by omega,z⟩,λv' H' y=>?_⟩
  obtain ⟨rfl,y⟩:=y
  have hv:=y vs (SqL.of p1)
  obtain ⟨ns,hns⟩:∃ ns,nss[n]?=some ns:=⟨_,List.getElem?_eq_getElem (by omega)⟩
  have hrow:((nss.take n).map (λns=>setZ ns k (v ns))++nss.drop n)[n]?=some ns:=by
   rw [List.getElem?_append_right (by rw [List.length_map,List.length_take];omega),List.length_map,List.length_take,Nat.min_eq_left (by omega),Nat.sub_self,List.getElem?_drop]
   exact hns
  obtain ⟨v2,ev,⟨r,er,hr⟩⟩:=zaJ rows1 hrow
  rw [hv] at ev
  cases ev
  subst er
  obtain ⟨r',er',rF,rB,rO,rp⟩:=st _ (List.mem_of_getElem? hv)
  cases er'
  have Pn:P ns:=hP ns (List.mem_of_getElem? hns)
  have hjl:j<σ1.length:=by rw [a1.len];unfold unC;rw [List.length_map];exact (List.getElem?_eq_some_iff.mp ej).1
  have sj:(σ1.set j (some (.ref r)))[j]?=some (some (.ref r)):=List.getElem?_set_self hjl
  have a2:At F0 Hb F H' (σ1.set j (some (.ref r))) own (unC Γ):=⟨a1.g,a1.inj,a1.liv,λk s es=>by
   by_cases z:j=k
   ·subst z
    obtain ⟨r',e1,rfl⟩:=zjE es
    rw [ej] at e1
    cases e1
    trivial
   ·rw [List.getElem?_set_ne z]
    exact a1.sl k s es,by simp [a1.len]⟩
  have a3:At F0 Hb F H' (σ1.set j (some (.ref r))) own ((unC Γ).set j (.tl (dL (ns.map dI)))):=⟨a2.g,a2.inj,a2.liv,λk s es=>by
   by_cases z:j=k
   ·subst z
    rw [List.getElem?_set_self (by rw [← a1.len];exact hjl)] at es
    cases es
    rw [sj]
    refine ⟨.ref r,λb=>if b=r then some (.lst (ns.map V.int)) else none,rfl,λb o z=>?_,λb o z=>?_,λl b z=>?_,r,ns.map V.int,rfl,if_pos rfl,zhZ⟩
    ·dsimp only at z
     split at z
     ·cases z;rename_i w;rw [w];exact hr
     ·cases z
    ·dsimp only at z
     split at z
     ·rename_i w;rw [w];exact ⟨rF,rB⟩
     ·cases z
    ·dsimp only
     rw [if_neg (λw=>rO l (by rw [← w];exact z))]
   ·rw [List.getElem?_set_ne z] at es
    exact a2.sl k s es,by simpa using a2.len⟩
  obtain ⟨nn,en,hnn,_⟩:=zhl (hk ns Pn)
  refine h ns Pn F0 Hb F H' _ own _ a3 λw F2 H2 g2 qw=>?_
  have qw:w=.int (v ns):=qw
  subst qw
  have a4:=a3.grow (Grow.only a3.fh g2.h)
  refine ⟨_,sj,hj ns Pn F0 Hb F H2 _ own _ a4 λw F3 H3 g3 qk=>?_⟩
  have qk:w=.int k:=qk
  subst qk
  have s13:Same H' H3:=g2.h.trans g3.h
  refine ⟨r,ns.map V.int,k,nn,rfl,rfl,s13 _ _ hr,by rw [List.length_map];exact en,?_⟩
  have enew:(ns.map V.int).set nn (.int (v ns))=(setZ ns k (v ns)).map V.int:=by
   unfold setZ
   rw [en]
   show _=(ns.set nn (v ns)).map V.int
   rw [List.map_set]
  rw [enew]
  refine ⟨?_,?_,?_,?_⟩
  ·have:=(a2.grow (Grow.only a2.fh s13)).spoil (noOb_un hno) (.lst ((setZ ns k (v ns)).map V.int)) rF rB rO
   rwa [zpt] at this
  ·rw [List.getElem?_set_ne (Ne.symm hij)];exact s1
  ·rw [upd_ne (Ne.symm rp)];exact s13 _ _ p1
  ·rw [← gst n ns hns]
   exact zgD (paired_rows_up s13 rows1) h7 hv
 ·have en:n=nss.length:=by omega
  subst en
  refine .inl ⟨⟨vs,SqL.of p1,by omega⟩,kk F0 Hb F H1 σ1 own D ?_ q⟩
  refine ⟨a1.g,a1.inj,a1.liv,λl s es=>?_,by rw [List.length_set];exact a1.len⟩
  by_cases z:i=l
  ·subst z
   rw [List.getElem?_set_self (by rw [← a1.len];exact (List.getElem?_eq_some_iff.mp s1).1)] at es
   cases es
   rw [s1]
   have rows2:Paired (zfy H1) vs (nss.map λns=>setZ ns k (v ns)):=by simpa using rows1
   refine ⟨.ref p,λb=>if b=p then some (.lst vs) else if V.ref b∈vs then H1 b else none,rfl,λb o z=>?_,λb o z=>?_,λl b z=>?_,p,vs,rfl,if_pos rfl,h7,h8,?_⟩
   ·dsimp only at z
    split at z
    ·cases z;rename_i w;rw [w];exact p1
    ·split at z
     ·exact z
     ·cases z
   ·dsimp only at z
    split at z
    ·rename_i w;rw [w];exact pF
    ·split at z
     ·rename_i w
      obtain ⟨r,er,t1,t2,_⟩:=st _ w
      cases er
      exact ⟨t1,t2⟩
     ·cases z
   ·dsimp only
    rw [if_neg (λw=>pO l (by rw [← w];exact z)),if_neg]
    intro w
    obtain ⟨r,er,_,_,t3,_⟩:=st _ w
    cases er
    exact t3 l z
   ·clear q rows1 h9 hp h6 h kk
    have key:∀ {ws:List V} {mss:List (List Int)},(∀ w∈ws,w∈vs)->Paired (zfy H1) ws mss->Paired (zfy λb=>if b=p then some (.lst vs) else if V.ref b∈vs then H1 b else none) ws mss:=by
     intro ws mss hw hq
     induction hq with
     | nil=>exact .nil
     | cons q1 _ ih =>
      obtain ⟨r,rfl,q2⟩:=q1
      have hm:=hw _ List.mem_cons_self
      refine .cons ⟨r,rfl,?_⟩ (ih λw hw'=>hw w (List.mem_cons_of_mem _ hw'))
      dsimp only
      rw [if_neg (λz=>h8 (by rw [← z];exact hm)),if_pos hm]
      exact q2
    exact key (λ_ hw=>hw) rows2
  ·rw [List.getElem?_set_ne z] at es
   exact a1.sl l s es
end
end L2
namespace Lat
open L2
theorem zdN {j:Nat}:∀ {xs:List Int} {as:List Vc} {i:Nat} {x x0:Int} {a:Vc},xs[i]?=some x0->as[i]?=some a->comb (xs.set i x) as j=comb xs as j+(x-x0)*a j
 | [],_,_,_,_,_,h,_=>by simp at h
 | _ :: _,[],_,_,_,_,_,h=>by simp at h
 | y :: xs,b :: as,0,x,x0,a,h,k=>by
  have h:y=x0:=by simpa using h
  have k:b=a:=by simpa using k
  subst h k
  simp only [List.set_cons_zero,comb]
  grind
 | y :: xs,b :: as,i+1,x,x0,a,h,k=>by
  have:=zdN (j:=j) (xs:=xs) (as:=as) (i:=i) (x:=x) (x0:=x0) (a:=a) (by simpa using h) (by simpa using k)
  simp only [List.set_cons_succ,comb,this]
  omega
theorem zfN {j:Nat}:∀ {xs:List Int} {as:List Vc} {i:Nat} {x:Int} {a a0:Vc},xs[i]?=some x->as[i]?=some a0->comb xs (as.set i a) j=comb xs as j+x*(a j-a0 j)
 | [],_,_,_,_,_,h,_=>by simp at h
 | _ :: _,[],_,_,_,_,_,h=>by simp at h
 | y :: xs,b :: as,0,x,a,a0,h,k=>by
  have h:y=x:=by simpa using h
  have k:b=a0:=by simpa using k
  subst h k
  simp only [List.set_cons_zero,comb]
  grind
 | y :: xs,b :: as,i+1,x,a,a0,h,k=>by
  have:=zfN (j:=j) (xs:=xs) (as:=as) (i:=i) (x:=x) (a:=a) (a0:=a0) (by simpa using h) (by simpa using k)
  simp only [List.set_cons_succ,comb,this]
  omega
theorem comb_zero {j:Nat}:∀ {xs:List Int} {as:List Vc},(∀ (i:Nat) (x:Int) (a:Vc),xs[i]?=some x->as[i]?=some a->x*a j=0)->comb xs as j=0
 | [],_,_=>rfl
 | _ :: _,[],_=>rfl
 | x :: xs,a :: as,h=>by
  have h0:=h 0 x a rfl rfl
  have:=comb_zero (j:=j) (xs:=xs) (as:=as) λi y b h1 h2=>h (i+1) y b (by simpa using h1) (by simpa using h2)
  simp only [comb,h0,this]
  rfl
theorem zgR {j:Nat}:∀ {xs ys:List Int} {as bs:List Vc},xs.length=as.length->comb (xs++ys) (as++bs) j=comb xs as j+comb ys bs j
 | [],ys,[],bs,_=>by simp [comb]
 | x :: xs,ys,a :: as,bs,h=>by
  have:=zgR (j:=j) (xs:=xs) (ys:=ys) (as:=as) (bs:=bs) (by simpa using h)
  simp only [List.cons_append,comb,this]
  omega
theorem zjK {j t:Nat} {xs:List Int} {as:List Vc} (h:xs.length=as.length):comb (xs.drop t++xs.take t) (as.drop t++as.take t) j=comb xs as j:=by
 rw [zgR (by rw [List.length_drop,List.length_drop,h])]
 have:=zgR (j:=j) (xs:=xs.take t) (ys:=xs.drop t) (as:=as.take t) (bs:=as.drop t) (by rw [List.length_take,List.length_take,h])
 rw [List.take_append_drop,List.take_append_drop] at this
 omega
theorem zk5 {j x y:Nat} {q:Int} {t:List Int} {as:List Vc} {t1 t2:Int} {a1 a2:Vc} (hxy:x≠y) (h1:t[x]?=some t1) (h2:t[y]?=some t2) (k1:as[x]?=some a1) (k2:as[y]?=some a2) {b:Vc} (hb:b j=a2 j+q*a1 j) :
  comb (t.set x (t1-q*t2)) (as.set y b) j=comb t as j:=by
 rw [zdN h1 (by rw [List.getElem?_set_ne (Ne.symm hxy)];exact k1),zfN h2 k2,hb]
 grind
def Rel (n:Nat) (rows:List (List Int)) (u:Vc):Prop:=∀ j,j<n->comb (List.map u (List.range rows.length)) (rows.map vec) j=0
theorem comb_lin {j:Nat} (u a:Vc) (z:Int):∀ (xs:List Nat) (as:List Vc),comb (List.map (λi=>u i+z*a i) xs) as j=comb (List.map u xs) as j+z*comb (List.map a xs) as j
 | [],as=>by simp [comb]
 | x :: xs,[]=>by simp [comb]
 | x :: xs,b :: as=>by
  simp only [List.map_cons,comb,comb_lin u a z xs as]
  grind
theorem Rel.sp {n:Nat} {rows:List (List Int)} {A:Vc->Prop} {u:Vc} (hA:∀ a,A a->Rel n rows a) (h:Sp A u):Rel n rows u:=by
 induction h with
 | zero =>
  intro j _
  refine comb_zero λi x a h1 _=>?_
  rw [List.getElem?_map] at h1
  cases q:(List.range rows.length)[i]? with
  | none=>rw [q] at h1;cases h1
  | some y=>rw [q] at h1;have h1:(0:Int)=x:=Option.some.inj h1;rw [← h1];simp
 | @add u a z _ ha ih =>
  intro j hj
  rw [comb_lin,ih j hj,hA a ha j hj]
  simp
theorem zg2 {l:List Int} {k:Nat} (h:l.length=k):List.map (vec l) (List.range k)=l:=by
 refine List.ext_getElem (by simp [h]) λi h1 h2=>?_
 rw [List.getElem_map,List.getElem_range]
 simp [vec,List.getD_eq_getElem?_getD,List.getElem?_eq_getElem h2]
theorem zir {n:Nat} {rows:List (List Int)} {r:List Int} (h:r.length=rows.length):Rel n rows (vec r) ↔ ∀ j,j<n->comb r (rows.map vec) j=0:=by
 unfold Rel
 rw [zg2 h]
def tailS (n:Nat) (ss:List (List Int)):List (List Int):=List.map (λ(x:List Int)=>x.drop n) (List.filter (λ(x:List Int)=>decide (n≤hd x)) ss)
theorem zhW {l:List Int} {n:Nat} (h:n≤hd l) (hl:hd l<l.length):hd (l.drop n)=hd l-n:=zko (by rw [zc6,show n+(hd l-n)=hd l by omega];exact zfz hl) λi hi=>by
 rw [zc6];exact za5 (by omega)
theorem zfQ {n:Nat} {ss:List (List Int)} {t:List Int} (h:t∈tailS n ss):∃ s∈ss,n≤hd s∧t=s.drop n:=by
 unfold tailS at h
 obtain ⟨s,hs,rfl⟩:=List.mem_map.mp h
 obtain ⟨h1,h2⟩:=List.mem_filter.mp hs
 exact ⟨s,h1,by simpa using h2,rfl⟩
theorem zfG {n k:Nat}:∀ {ss:List (List Int)} {lo:Nat},Ech (n+k) lo ss->Ech k (lo-n) (tailS n ss)
 | [],_,_=>trivial
 | s :: ss,lo,e=>by
  unfold tailS
  by_cases q:n≤hd s
  ·rw [List.filter_cons_of_pos (by simpa using q),List.map_cons]
   have hl:=e.1
   have e1:=zhW q (by rw [hl];exact e.2.2.1)
   have e3:=e.2.2.1
   have e2:=e.2.1
   refine ⟨by rw [List.length_drop,hl];omega,by rw [e1];omega,by rw [e1];omega,by rw [e1,zc6,show n+(hd s-n)=hd s by omega];exact e.2.2.2.1,?_⟩
   have:=zfG e.2.2.2.2
   rw [e1]
   exact this.mono (by omega)
  ·rw [List.filter_cons_of_neg (by simpa using q)]
   have:=zfG e.2.2.2.2
   exact this.mono (by have:=e.2.1;omega)
theorem zfA {n k:Nat}:∀ {ss:List (List Int)} {lo:Nat},Ech (n+k) lo ss->Red ss->Red (tailS n ss)
 | [],_,_,_=>trivial
 | s :: ss,lo,e,r=>by
  unfold tailS
  by_cases q:n≤hd s
  ·rw [List.filter_cons_of_pos (by simpa using q),List.map_cons]
   refine ⟨λt ht=>?_,zfA e.2.2.2.2 r.2⟩
   obtain ⟨x,hx,h1,rfl⟩:=zfQ ht
   have ex:=Ech.mem e.2.2.2.2 x hx
   rw [zhW h1 (by rw [ex.1];exact ex.2.2.1),zc6,zc6,show n+(hd x-n)=hd x by omega]
   exact r.1 x hx
  ·rw [List.filter_cons_of_neg (by simpa using q)]
   exact zfA e.2.2.2.2 r.2
theorem zh7 {m n:Nat}:∀ {ss:List (List Int)} {lo:Nat} {u:Vc},Ech m lo ss->SpL ss u->(∀ i,i<n->u i=0)->SpL (List.filter (λ(x:List Int)=>decide (n≤hd x)) ss) u
 | [],_,_,_,h,_=>h
 | s :: ss,lo,u,e,h,hz=>by
  obtain ⟨w,y,hw,hu⟩:=h.cons
  have e1:=SpL.before e.2.2.2.2 (Nat.lt_succ_self (hd s)) hw
  by_cases q:n≤hd s
  ·rw [List.filter_cons_of_pos (by simpa using q)]
   have hw0:∀ i,i<n->w i=0:=λi hi=>SpL.before e.2.2.2.2 (by omega) hw
   exact ((SpL.up (s:=s) (zh7 e.2.2.2.2 hw hw0)).plus ((SpL.mem (ss:=s :: _) List.mem_cons_self).smul y)).conv λi=>(hu i).symm
  ·rw [List.filter_cons_of_neg (by simpa using q)]
   have e2:=hu (hd s)
   rw [hz _ (by omega),e1] at e2
   have e4:=e.2.2.2.1
   have hy:y=0:=by
    rcases Int.mul_eq_zero.mp (show y*vec s (hd s)=0 by omega) with z | z
    ·exact z
    ·omega
   refine zh7 e.2.2.2.2 (hw.conv λi=>?_) hz
   rw [hu i,hy];simp
theorem zjP {n:Nat} {rows ss:List (List Int)} (hlen:∀ r∈rows,r.length=n) (T:Tr n rows ss) :
  Ech rows.length 0 (tailS n ss)∧Red (tailS n ss)∧(∀ t∈tailS n ss,Rel n rows (vec t))∧∀ r:List Int,r.length=rows.length->Rel n rows (vec r)->SpL (tailS n ss) (vec r):=by
 refine ⟨by have:=zfG T.st.ech;exact this.mono (Nat.zero_le _),zfA T.st.ech T.st.red,λt ht=>?_,λr hr hR=>?_⟩
 ·obtain ⟨s,hs,h1,rfl⟩:=zfQ ht
  have hl:=(T.st.ech.mem s hs).1
  rw [zir (by rw [List.length_drop,hl];omega)]
  intro j hj
  rw [← led_road (k:=rows.length) hl (T.led s hs) hj]
  exact za5 (by omega)
 ·have hv:SpL (mark rows) (λi=>if i<n then 0 else vec r (i-n)):=by
   have h0:Sp (λu=>∃ m∈mark rows,u=vec m) (comb r ((mark rows).map vec)):=zdY λa ha=>by
    obtain ⟨m,hm,rfl⟩:=List.mem_map.mp ha
    exact ⟨m,hm,rfl⟩
   refine Sp.conv h0 λi=>?_
   have key:∀ (j:Nat),comb r ((mark rows).map vec) j=if j<n then comb r (rows.map vec) j else comb r (List.map (λi=>vec (zgr rows.length ((i:Nat):Int))) (List.range rows.length)) (j-n):=by
    intro j
    have em:mark rows=List.map (λi=>rows.getD i []++zgr rows.length ((i:Nat):Int)) (List.range rows.length):=by
     refine List.ext_getElem? λi=>?_
     by_cases hi:i<rows.length
     ·have e1:(zdI rows)[i]?=some ((i:Int),rows[i]):=by
       unfold zdI
       rw [List.getElem?_zip_eq_some]
       refine ⟨?_,List.getElem?_eq_getElem hi⟩
       unfold zaW
       rw [List.getElem?_map,List.getElem?_range hi]
       show some ((0:Int)+(i:Int))=some (i:Int)
       rw [Int.zero_add]
      unfold mark
      rw [List.getElem?_map,e1,List.getElem?_map,List.getElem?_range hi]
      show some (rows[i]++zgr rows.length (i:Int))=some (rows.getD i []++zgr rows.length (i:Int))
      rw [List.getD_eq_getElem?_getD,List.getElem?_eq_getElem hi]
      rfl
     ·rw [List.getElem?_eq_none (by rw [zeH];omega),List.getElem?_eq_none (by rw [List.length_map,List.length_range];omega)]
    have er:rows.map vec=List.map (λi=>vec (rows.getD i [])) (List.range rows.length):=by
     refine List.ext_getElem (by simp) λi h1 h2=>?_
     have hi:i<rows.length:=by simpa using h1
     rw [List.getElem_map,List.getElem_map,List.getElem_range,List.getD_eq_getElem?_getD,List.getElem?_eq_getElem hi]
     rfl
    rw [em,er,List.map_map]
    have gen:∀ (xs:List Nat) (r:List Int),(∀ i∈xs,(rows.getD i []).length=n)->comb r (List.map (vec ∘ λi=>rows.getD i []++zgr rows.length ((i:Nat):Int)) xs) j=if j<n then comb r (List.map (λi=>vec (rows.getD i [])) xs) j else comb r (List.map (λi=>vec (zgr rows.length ((i:Nat):Int))) xs) (j-n):=by
     intro xs
     induction xs with
     | nil=>intro r _;cases r<;>simp [comb]
     | cons x xs ih =>
      intro r hx
      match r with
      | []=>simp [comb]
      | y :: r =>
       have:=ih r λi hi=>hx i (List.mem_cons_of_mem _ hi)
       simp only [List.map_cons,comb,this]
       have hl:=hx x List.mem_cons_self
       show y*vec (rows.getD x []++zgr rows.length ((x:Nat):Int)) j+_=_
       rw [zfW,hl]
       split<;>rfl
    refine gen _ r λi hi=>?_
    have hi:=List.mem_range.mp hi
    rw [List.getD_eq_getElem?_getD,List.getElem?_eq_getElem hi]
    exact hlen _ (List.getElem_mem hi)
   rw [key i]
   by_cases q:i<n
   ·rw [if_pos q,if_pos q]
    exact (zir hr).mp hR i q
   ·rw [if_neg q,if_neg q]
    have gen:∀ (r:List Int) (c k:Nat) (j:Nat),c+r.length≤k->comb r (List.map (λi=>vec (zgr k ((i:Nat):Int))) (List.map (·+c) (List.range r.length))) j=if c≤j then vec r (j-c) else 0:=by
     intro r
     induction r with
     | nil=>intro c k j _;simp [comb,vec]
     | cons y r ih =>
      intro c k j hk
      rw [List.length_cons] at hk
      have:=ih (c+1) k j (by omega)
      rw [List.length_cons,List.range_succ_eq_map,List.map_cons,List.map_cons]
      have em:List.map (λx=>x+c) (List.map Nat.succ (List.range r.length))=List.map (λx=>x+(c+1)) (List.range r.length):=by
       rw [List.map_map]
       exact List.map_congr_left λx _=>by show x.succ+c=x+(c+1);omega
      rw [em]
      simp only [comb,this]
      rw [show ((0+c:Nat):Int)=((c:Nat):Int) by omega,ziV (by omega)]
      by_cases e:j=c
      ·subst e
       rw [if_pos rfl,if_neg (by omega),if_pos (Nat.le_refl _),Nat.sub_self,zg5]
       omega
      ·rw [if_neg e]
       by_cases e2:c≤j
       ·rw [if_pos (by omega),if_pos e2,show j-c=(j-(c+1))+1 by omega,zaP];omega
       ·rw [if_neg (by omega),if_neg e2];omega
    have:=gen r 0 rows.length (i-n) (by omega)
    rw [hr] at this
    simpa using this
  have hs:SpL ss (λi=>if i<n then 0 else vec r (i-n)):=SpL.sub (λm hm=>T.st.out m hm) hv
  have ht:=zh7 (n:=n) T.st.ech hs λi hi=>by simp [hi]
  have:=Sp.image (g:=λu=>λi=>u (n+i)) (B:=λu=>∃ s∈tailS n ss,u=vec s) (λi=>rfl) (λu a x i=>rfl) (λa ⟨s,hs',e⟩=>by
   refine Sp.mem ⟨s.drop n,?_,?_⟩
   ·unfold tailS
    exact List.mem_map.mpr ⟨s,hs',rfl⟩
   ·rw [e];exact funext λi=>(zc6).symm) ht
  refine Sp.conv this λi=>?_
  show (if n+i<n then (0:Int) else vec r (n+i-n))=vec r i
  rw [if_neg (by omega),Nat.add_sub_cancel_left]
theorem Sd.drop {n k s:Nat} {t:List Int} (h:Sd (n+k) s t) (hn:n≤Lat.hd t):Sd k s (t.drop n):=by
 have e:=zhW hn (by rw [h.len];exact h.hd)
 have h1:=h.hd
 have e2:n+(Lat.hd t-n)=Lat.hd t:=by omega
 exact ⟨by rw [List.length_drop,h.len];omega,by rw [e];omega,by rw [e,zc6,e2];exact h.pos,by rw [e,zc6,e2];exact h.top,λx hx=>h.bit x (List.mem_of_mem_drop hx)⟩
end Lat
namespace L2
open PySem PySem.Spec PyProof.Rows
section
variable {X:Cx} {K:W.Frag}
end
section
variable {Γ:Ctx} {m:Bool} {K:W.Frag}
end
end L2
namespace L2
open PySem PySem.Spec PyProof.Rows
section
variable {E:XS} {Γ:Ctx} {u:TS} {o:Oc} {K:W.Frag} {i j:Nat}
end
end L2
namespace Lat
open L2
theorem zm9 {ss:List (List Int)} {u:Vc} (h:SpL ss u):∃ c:List Int,c.length=ss.length∧∀ i,u i=comb c (ss.map vec) i:=by
 induction h with
 | zero=>exact ⟨List.replicate ss.length 0,by simp,λi=>(comb_zero λk x a h1 _=>by
   have:=List.mem_of_getElem? h1
   rw [(List.mem_replicate.mp this).2];simp).symm⟩
 | @add u a z _ ha ih =>
  obtain ⟨s,hs,e⟩:=ha
  obtain ⟨c,hc,hu⟩:=ih
  obtain ⟨k,hk⟩:=List.getElem?_of_mem hs
  have hkl:k<c.length:=by rw [hc];exact (List.getElem?_eq_some_iff.mp hk).1
  refine ⟨c.set k (c[k]+z),by rw [List.length_set,hc],λi=>?_⟩
  rw [zdN (List.getElem?_eq_getElem hkl) (by rw [List.getElem?_map,hk];rfl)]
  show u i+z*a i=_
  rw [hu i,e]
  grind
def zh0 (A:List Vc):Prop:=∀ xs:List Int,xs.length=A.length->(∀ i,comb xs A i=0)->∀ x∈xs,x=0
theorem zi5 {A:List Vc} {o w:Nat} {q:Int} {ao aw b:Vc} (how:o≠w) (h:zh0 A) (ho:A[o]?=some ao) (hw:A[w]?=some aw) (hb:∀ i,b i=aw i+q*ao i):zh0 (A.set w b):=λxs hl hz=>by
 rw [List.length_set] at hl
 have lo:o<xs.length:=by rw [hl];exact (List.getElem?_eq_some_iff.mp ho).1
 have lw:w<xs.length:=by rw [hl];exact (List.getElem?_eq_some_iff.mp hw).1
 have key:=h (xs.set o (xs[o]+q*xs[w])) (by rw [List.length_set];exact hl) λi=>by
  have:=hz i
  rw [zfN (List.getElem?_eq_getElem lw) hw,hb i] at this
  rw [zdN (List.getElem?_eq_getElem lo) ho]
  grind
 have hx:∀ k (hk:k<xs.length),k≠o->xs[k]=0:=λk hk hko=>key _ (List.mem_of_getElem? (i:=k) (by rw [List.getElem?_set_ne (Ne.symm hko),List.getElem?_eq_getElem hk]))
 have h0:xs[o]+q*xs[w]=0:=key _ (List.mem_of_getElem? (i:=o) (by rw [List.getElem?_set_self lo]))
 rw [hx w lw (Ne.symm how)] at h0
 intro x hxm
 obtain ⟨k,hk,rfl⟩:=List.getElem_of_mem hxm
 by_cases e:k=o
 ·subst e;omega
 ·exact hx k hk e
theorem zqw {m:Nat} {z:Int} {i:Nat}:vec (List.map (λ(y:Int)=>(if (decide (y=z)) then (1:Int) else 0)) (zaW 0 m)) i=if i<m∧(i:Int)=z then 1 else 0:=by
 unfold vec
 rw [List.getD_eq_getElem?_getD,List.getElem?_map]
 by_cases hi:i<m
 ·have:(zaW 0 m)[i]?=some (i:Int):=by
   unfold zaW
   rw [List.getElem?_map,List.getElem?_range hi]
   show some ((0:Int)+(i:Int))=some (i:Int)
   rw [Int.zero_add]
  rw [this]
  show (if (decide ((i:Int)=z)) then (1:Int) else 0)=_
  by_cases e:(i:Int)=z
  ·rw [decide_eq_true e,if_pos rfl,if_pos ⟨hi,e⟩]
  ·rw [decide_eq_false e,if_neg (by simp),if_neg (λq=>e q.2)]
 ·rw [List.getElem?_eq_none (by rw [zaC];omega),if_neg (λq=>hi q.1)]
  rfl
theorem zgg {m:Nat} {c:Int}:∀ (ys:List Int) (s:Int) (i:Nat),i<m->0≤c+s->comb ys (List.map (λ(x:Int)=>vec (List.map (λ(y:Int)=>(if (decide (y=(c+x))) then (1:Int) else 0)) (zaW 0 m))) (zaW s ys.length)) i=if c+s≤(i:Int) then vec ys ((i:Int)-(c+s)).toNat else 0
 | [],s,i,_,_=>by
  rw [show comb [] _ i=0 from rfl]
  split
  ·simp [vec]
  ·rfl
 | y :: ys,s,i,hi,hs=>by
  have ih:=zgg (c:=c) ys (s+1) i hi (by omega)
  rw [List.length_cons,zf8,List.map_cons]
  simp only [comb,ih]
  rw [zqw]
  by_cases e:(i:Int)=c+s
  ·rw [if_pos ⟨hi,e⟩,if_neg (by omega),if_pos (by omega),show ((i:Int)-(c+s)).toNat=0 by omega,zg5]
   omega
  ·rw [if_neg (λq=>e q.2)]
   by_cases e2:c+s≤(i:Int)
   ·rw [if_pos (by omega),if_pos e2,show ((i:Int)-(c+s)).toNat=((i:Int)-(c+(s+1))).toNat+1 by omega,zaP]
    omega
   ·rw [if_neg (by omega),if_neg e2]
    omega
end Lat
set_option maxHeartbeats 4000000
set_option maxRecDepth 100000
namespace My
open PySem L2
abbrev lI:List Int->Ds:=λxs=>dL (List.map dI xs)
inductive Xn where
 | BadBasket
 deriving DecidableEq,Inhabited
structure Adr where
 no:Unit:=()
 Book:Addr
 xc:Xn->Addr
 k_BadBasket:Addr
 k_BadBaskets:Addr
 k_BadNames:Addr
 k_BadRest:Addr
 k_BadRoad:Addr
 k_BadScale:Addr
 k_BadSwap:Addr
 k_BadWares:Addr
 k_Endless:Addr
 k_NoBook:Addr
 k_NoLine:Addr
 k_NoName:Addr
 k_NoSwap:Addr
 k_NotAlike:Addr
 k_NotKept:Addr
 k_OtherBook:Addr
 k_OtherWares:Addr
 k_SwapError:Addr
 k_TooGreat:Addr
 k_TooMany:Addr
def zbZ:Xn->Bool
 | .BadBasket=>true
def zbz:Xn->Bool
 | .BadBasket=>false
def zcl:Xn->Bool
 | .BadBasket=>false
def zcK:Xn->Bool
 | .BadBasket=>false
def zcV:Xn->Bool
 | .BadBasket=>false
def zcn:Xn->Bool
 | .BadBasket=>false
def zcO:Xn->Bool
 | .BadBasket=>false
def zc8:Xn->Bool
 | .BadBasket=>false
def zcN:Xn->Bool
 | .BadBasket=>false
def zdl:Xn->Bool
 | .BadBasket=>false
def zdr:Xn->Bool
 | .BadBasket=>false
def zdu:Xn->Bool
 | .BadBasket=>false
def zd6:Xn->Bool
 | .BadBasket=>false
def zc2:Xn->Bool
 | .BadBasket=>false
def zcL:Xn->Bool
 | .BadBasket=>false
def zbU:Xn->Bool
 | .BadBasket=>false
def zbB:Xn->Bool
 | .BadBasket=>false
def zcm:Xn->Bool
 | .BadBasket=>false
def zdG:Xn->Bool
 | .BadBasket=>false
def zck:Xn->Bool
 | .BadBasket=>true
structure BookD where
 many:Int
 swaps:(List (List Int))
 deriving Inhabited
def zaU (C:Addr) (b:BookD):Ds:=dO C [("many",dI b.many),("swaps",dL (List.map lI b.swaps))]
structure Txt (K:W.Frag) (mg:Str->Option Value) (A:Adr):Prop where
 ValueError:mg "ValueError"=none
 any:mg "any"=none
 bool:mg "bool"=none
 enumerate:mg "enumerate"=none
 int:mg "int"=none
 isinstance:mg "isinstance"=none
 len:mg "len"=none
 list:mg "list"=none
 max:mg "max"=none
 range:mg "range"=none
 reversed:mg "reversed"=none
 zip:mg "zip"=none
 Book:mg "Book"=some (.ref A.Book)
 Book_cl:Cls K A.Book
 Book_many:NoAttr K A.Book "many"
 Book_swaps:NoAttr K A.Book "swaps"
 g_MOST_WARES:∃ t,mg "MOST_WARES"=some (.int 8 t)
 g_MOST_SWAPS:∃ t,mg "MOST_SWAPS"=some (.int 12 t)
 k_BadBasket:mg "BadBasket"=some (.ref A.k_BadBasket)
 k_BadBaskets:mg "BadBaskets"=some (.ref A.k_BadBaskets)
 k_BadNames:mg "BadNames"=some (.ref A.k_BadNames)
 k_BadRest:mg "BadRest"=some (.ref A.k_BadRest)
 k_BadRoad:mg "BadRoad"=some (.ref A.k_BadRoad)
 k_BadScale:mg "BadScale"=some (.ref A.k_BadScale)
 k_BadSwap:mg "BadSwap"=some (.ref A.k_BadSwap)
 k_BadWares:mg "BadWares"=some (.ref A.k_BadWares)
 k_Endless:mg "Endless"=some (.ref A.k_Endless)
 k_NoBook:mg "NoBook"=some (.ref A.k_NoBook)
 k_NoLine:mg "NoLine"=some (.ref A.k_NoLine)
 k_NoName:mg "NoName"=some (.ref A.k_NoName)
 k_NoSwap:mg "NoSwap"=some (.ref A.k_NoSwap)
 k_NotAlike:mg "NotAlike"=some (.ref A.k_NotAlike)
 k_NotKept:mg "NotKept"=some (.ref A.k_NotKept)
 k_OtherBook:mg "OtherBook"=some (.ref A.k_OtherBook)
 k_OtherWares:mg "OtherWares"=some (.ref A.k_OtherWares)
 k_SwapError:mg "SwapError"=some (.ref A.k_SwapError)
 k_TooGreat:mg "TooGreat"=some (.ref A.k_TooGreat)
 k_TooMany:mg "TooMany"=some (.ref A.k_TooMany)
 xm_BadBasket:mg "BadBasket"=some (.ref (A.xc .BadBasket))
 xi_BadBasket:W.excIn K (A.xc .BadBasket) [.type "ValueError",.type "Exception",.type "BaseException",.type "object"] "ValueError.__new__"=true
 xcl_BadBasket:XCls K (A.xc .BadBasket)
 exm_BadBasket:W.exmOne K (.ref (A.xc .BadBasket)) (.ref A.k_SwapError)=some true
 i0_BadBasket:W.kitOne K (.type "NoneType") (.ref A.k_BadBasket)=some false
 i_BadBasket_BadBasket:W.kitOne K (.ref (A.xc .BadBasket)) (.ref A.k_BadBasket)=some (zbZ .BadBasket)
 i0_BadBaskets:W.kitOne K (.type "NoneType") (.ref A.k_BadBaskets)=some false
 i_BadBasket_BadBaskets:W.kitOne K (.ref (A.xc .BadBasket)) (.ref A.k_BadBaskets)=some (zbz .BadBasket)
 i0_BadNames:W.kitOne K (.type "NoneType") (.ref A.k_BadNames)=some false
 i_BadBasket_BadNames:W.kitOne K (.ref (A.xc .BadBasket)) (.ref A.k_BadNames)=some (zcl .BadBasket)
 i0_BadRest:W.kitOne K (.type "NoneType") (.ref A.k_BadRest)=some false
 i_BadBasket_BadRest:W.kitOne K (.ref (A.xc .BadBasket)) (.ref A.k_BadRest)=some (zcK .BadBasket)
 i0_BadRoad:W.kitOne K (.type "NoneType") (.ref A.k_BadRoad)=some false
 i_BadBasket_BadRoad:W.kitOne K (.ref (A.xc .BadBasket)) (.ref A.k_BadRoad)=some (zcV .BadBasket)
 i0_BadScale:W.kitOne K (.type "NoneType") (.ref A.k_BadScale)=some false
 i_BadBasket_BadScale:W.kitOne K (.ref (A.xc .BadBasket)) (.ref A.k_BadScale)=some (zcn .BadBasket)
 i0_BadSwap:W.kitOne K (.type "NoneType") (.ref A.k_BadSwap)=some false
 i_BadBasket_BadSwap:W.kitOne K (.ref (A.xc .BadBasket)) (.ref A.k_BadSwap)=some (zcO .BadBasket)
 i0_BadWares:W.kitOne K (.type "NoneType") (.ref A.k_BadWares)=some false
 i_BadBasket_BadWares:W.kitOne K (.ref (A.xc .BadBasket)) (.ref A.k_BadWares)=some (zc8 .BadBasket)
 i0_Endless:W.kitOne K (.type "NoneType") (.ref A.k_Endless)=some false
 i_BadBasket_Endless:W.kitOne K (.ref (A.xc .BadBasket)) (.ref A.k_Endless)=some (zcN .BadBasket)
 i0_NoBook:W.kitOne K (.type "NoneType") (.ref A.k_NoBook)=some false
 i_BadBasket_NoBook:W.kitOne K (.ref (A.xc .BadBasket)) (.ref A.k_NoBook)=some (zdl .BadBasket)
 i0_NoLine:W.kitOne K (.type "NoneType") (.ref A.k_NoLine)=some false
 i_BadBasket_NoLine:W.kitOne K (.ref (A.xc .BadBasket)) (.ref A.k_NoLine)=some (zdr .BadBasket)
 i0_NoName:W.kitOne K (.type "NoneType") (.ref A.k_NoName)=some false
 i_BadBasket_NoName:W.kitOne K (.ref (A.xc .BadBasket)) (.ref A.k_NoName)=some (zdu .BadBasket)
 i0_NoSwap:W.kitOne K (.type "NoneType") (.ref A.k_NoSwap)=some false
 i_BadBasket_NoSwap:W.kitOne K (.ref (A.xc .BadBasket)) (.ref A.k_NoSwap)=some (zd6 .BadBasket)
 i0_NotAlike:W.kitOne K (.type "NoneType") (.ref A.k_NotAlike)=some false
 i_BadBasket_NotAlike:W.kitOne K (.ref (A.xc .BadBasket)) (.ref A.k_NotAlike)=some (zc2 .BadBasket)
 i0_NotKept:W.kitOne K (.type "NoneType") (.ref A.k_NotKept)=some false
 i_BadBasket_NotKept:W.kitOne K (.ref (A.xc .BadBasket)) (.ref A.k_NotKept)=some (zcL .BadBasket)
 i0_OtherBook:W.kitOne K (.type "NoneType") (.ref A.k_OtherBook)=some false
 i_BadBasket_OtherBook:W.kitOne K (.ref (A.xc .BadBasket)) (.ref A.k_OtherBook)=some (zbU .BadBasket)
 i0_OtherWares:W.kitOne K (.type "NoneType") (.ref A.k_OtherWares)=some false
 i_BadBasket_OtherWares:W.kitOne K (.ref (A.xc .BadBasket)) (.ref A.k_OtherWares)=some (zbB .BadBasket)
 i0_TooGreat:W.kitOne K (.type "NoneType") (.ref A.k_TooGreat)=some false
 i_BadBasket_TooGreat:W.kitOne K (.ref (A.xc .BadBasket)) (.ref A.k_TooGreat)=some (zcm .BadBasket)
 i0_TooMany:W.kitOne K (.type "NoneType") (.ref A.k_TooMany)=some false
 i_BadBasket_TooMany:W.kitOne K (.ref (A.xc .BadBasket)) (.ref A.k_TooMany)=some (zdG .BadBasket)
 i0_ValueError:W.kitOne K (.type "NoneType") (.type "ValueError")=some false
 i_BadBasket_ValueError:W.kitOne K (.ref (A.xc .BadBasket)) (.type "ValueError")=some (zck .BadBasket)
 kit_int_bool:W.kitOne K (.type "int") (.type "bool")=some false
 kit_int_int:W.kitOne K (.type "int") (.type "int")=some true
 kit_list_list:W.kitOne K (.type "list") (.type "list")=some true
section
variable {P:Program} {w:World} {K:W.Frag} {mg:Str->Option Value} {base:Heap} {f:Addr} {fd:FuncData} {A:Adr}
def m_refuse_unlike (P0:(List Int)) (P1:(List Int)):Unit:=()
def zaY (P0:(List Int)) (P1:(List Int)):Prop:=P0.length=P1.length
def zbG (K:W.Frag) (A:Adr):Sp:=Spv (ι:=(List Int)×(List Int)) (λx=>[dQ K (List.map dI x.1),dQ K (List.map dI x.2)]) (λx=>zaY x.1 x.2) (λx=>.va true (dN))
theorem zfp:FnScope ["one","other"] ["one","other"] (defScope za0):=⟨rfl,rfl,rfl,by decide +kernel,rfl,by decide +kernel,by decide +kernel⟩
theorem zfr (F:Fun K "refuse_unlike" "refuse_unlike" za0 f fd) (T:Txt K mg A) :FnOk P w K mg base (CXE P w) 1 f fd ["one","other"] (zbG K A):=by
 refine F.okV zfp (λ_=>rfl) (λcdv Ar outer s H E x hr hp=>?_)
 obtain ⟨P0,P1⟩:=x
 have hu:=hr.units
 replace hp:zaY P0 P1:=hp
 unfold zaY at hp
 refine ⟨_,(zac (zbw (pt_cmpR op_ne (pe_callB (call_len_K (K:=K) rfl) rfl T.len PySem.boot_len (pa_cons (pv 0) pa_nil)) (pe_callB (call_len_K (K:=K) rfl) rfl T.len PySem.boot_len (pa_cons (pv 1) pa_nil)) (nomark _))
 (zac zej zae)
 zae)
 zae),.inr ⟨_,([.va false (dQ K (List.map dI P0)),.va false (dQ K (List.map dI P1))]:L2.Ctx),rfl,?_⟩⟩
 show L2.Run _ ([.va false (dQ K (List.map dI P0)),.va false (dQ K (List.map dI P1))]:L2.Ctx) _ _
 exact (zbM (EvT.conv (zao (zc0 (x:=((P0.length:Nat):Int)) (y:=((P1.length:Nat):Int)) (zaG (f:=dI) (xs:=P0) (zaa (i:=0) rfl)) (zaG (f:=dI) (xs:=P1) (zaa (i:=1) rfl)))) (by ((try simp only [decide_eq_true_eq,decide_eq_false_iff_not,Bool.not_eq_true',Bool.not_eq_false',Bool.and_eq_true,Bool.or_eq_false_iff,Bool.or_eq_true,Bool.and_eq_false_iff,Bool.cond_eq_ite] at *)<;>omega))) (zal
 (zar (Wk.refl _))))
def m_plus (P0:(List Int)) (P1:(List Int)):(List Int) :=
 (List.map (λ(x2:(Int×Int))=>(x2.1+x2.2)) (List.zip P0 P1))
def zeK (P0:(List Int)) (P1:(List Int)):Prop:=P0.length=P1.length∧P0.length≤1000
def zie (K:W.Frag) (A:Adr):Sp:=Spv (ι:=(List Int)×(List Int)) (λx=>[dQ K (List.map dI x.1),dQ K (List.map dI x.2)]) (λx=>zeK x.1 x.2) (λx=>.ow true (List.map dI (m_plus x.1 x.2)))
theorem znd:FnScope ["one","other"] ["one","other"] (defScope zfF):=⟨rfl,rfl,rfl,by decide +kernel,rfl,by decide +kernel,by decide +kernel⟩
theorem znC (F:Fun K "plus" "plus" zfF f fd) (T:Txt K mg A) (G_refuse_unlike:Callee P w K mg base (CXE P w) 1 "refuse_unlike" ["one","other"] (zbG K A)):FnOk P w K mg base (CXE P w) 2 f fd ["one","other"] (zie K A):=by
 refine F.okV znd (λ_=>rfl) (λcdv Ar outer s H E x hr hp=>?_)
 obtain ⟨P0,P1⟩:=x
 have hu:=hr.units
 replace hp:zeK P0 P1:=hp
 unfold zeK at hp
 refine ⟨_,(zac (zcu (pe_fn G_refuse_unlike (hr.mono (by decide)) rfl passE (pa_cons (pv 0) (pa_cons (pv 1) pa_nil))))
 (zac (zav (pe_comp rfl (.of (osc:=(defScope zfF)) (N:=["one","other"]) (own:=["a","b"]) (fvn:=[]) (fv:=[]) rfl rfl (by decide +kernel)) (zcE (K:=K) rfl rfl T.zip (pa_cons (pv 0) (pa_cons (pv 1) pa_nil))) (λ_ _ _ _ _=>⟨(zaR (K:=K) (n:=2) rfl rfl (zas (pg_name (i:=0) (show (["a","b"]:List Str).Nodup by decide +kernel) rfl (Or.inl rfl) (Or.inr rfl)) (zas (pg_name (i:=1) (show (["a","b"]:List Str).Nodup by decide +kernel) rfl (Or.inl rfl) (Or.inr rfl)) zbe))),pts_nil,(zam zbt (pv 0) (pv 1))⟩)))
 zae)),.inl ?_⟩
 show L2.Run _ ([.va false (dQ K (List.map dI P0)),.va false (dQ K (List.map dI P1))]:L2.Ctx) _ ((λr=>Oc.rl true (List.map dI r)) (m_plus P0 P1))
 unfold m_plus
 exact (zeW (m:=true) (Ev.any (m:=true) (zah (x:=(P0,P1)) (zab (zaa (i:=0) rfl) (zab (zaa (i:=1) rfl) zad)) rfl (by show zaY P0 P1;exact hp.1) rfl))
 (zdv (zfs (EvO.conv (zbN (g:=(λ(x2:(Int×Int))=>dI (x2.1+x2.2))) (zeM (m:=false) dI dI (xs:=P0) (ys:=P1) (zaa (i:=0) rfl) (zaa (i:=1) rfl)) (by exact zai (by rw [List.length_zip];omega)) ⟨by decide,by decide⟩ (λi3 x2 hx4=>have qhx4:=zcv hx4;(zaD (x:=x2.1) (y:=x2.2) (Ev.any (m:=false) (zaa (i:=0) rfl)) (Ev.any (m:=false) (zaa (i:=1) rfl))))) (by first | (rw [List.map_map];rfl) | (simp only [cond_true,cond_false];rw [List.map_map];rfl))))))
def m_less (P0:(List Int)) (P1:(List Int)):(List Int) :=
 (List.map (λ(x5:(Int×Int))=>(x5.1-x5.2)) (List.zip P0 P1))
def zcj (P0:(List Int)) (P1:(List Int)):Prop:=P0.length=P1.length∧P0.length≤1000
def ze7 (K:W.Frag) (A:Adr):Sp:=Spv (ι:=(List Int)×(List Int)) (λx=>[dQ K (List.map dI x.1),dQ K (List.map dI x.2)]) (λx=>zcj x.1 x.2) (λx=>.ow true (List.map dI (m_less x.1 x.2)))
theorem zmQ:FnScope ["one","other"] ["one","other"] (defScope zfX):=⟨rfl,rfl,rfl,by decide +kernel,rfl,by decide +kernel,by decide +kernel⟩
theorem zm1 (F:Fun K "less" "less" zfX f fd) (T:Txt K mg A) (G_refuse_unlike:Callee P w K mg base (CXE P w) 1 "refuse_unlike" ["one","other"] (zbG K A)):FnOk P w K mg base (CXE P w) 2 f fd ["one","other"] (ze7 K A):=by
 refine F.okV zmQ (λ_=>rfl) (λcdv Ar outer s H E x hr hp=>?_)
 obtain ⟨P0,P1⟩:=x
 have hu:=hr.units
 replace hp:zcj P0 P1:=hp
 unfold zcj at hp
 refine ⟨_,(zac (zcu (pe_fn G_refuse_unlike (hr.mono (by decide)) rfl passE (pa_cons (pv 0) (pa_cons (pv 1) pa_nil))))
 (zac (zav (pe_comp rfl (.of (osc:=(defScope zfX)) (N:=["one","other"]) (own:=["a","b"]) (fvn:=[]) (fv:=[]) rfl rfl (by decide +kernel)) (zcE (K:=K) rfl rfl T.zip (pa_cons (pv 0) (pa_cons (pv 1) pa_nil))) (λ_ _ _ _ _=>⟨(zaR (K:=K) (n:=2) rfl rfl (zas (pg_name (i:=0) (show (["a","b"]:List Str).Nodup by decide +kernel) rfl (Or.inl rfl) (Or.inr rfl)) (zas (pg_name (i:=1) (show (["a","b"]:List Str).Nodup by decide +kernel) rfl (Or.inl rfl) (Or.inr rfl)) zbe))),pts_nil,(zam zeq (pv 0) (pv 1))⟩)))
 zae)),.inl ?_⟩
 show L2.Run _ ([.va false (dQ K (List.map dI P0)),.va false (dQ K (List.map dI P1))]:L2.Ctx) _ ((λr=>Oc.rl true (List.map dI r)) (m_less P0 P1))
 unfold m_less
 exact (zeW (m:=true) (Ev.any (m:=true) (zah (x:=(P0,P1)) (zab (zaa (i:=0) rfl) (zab (zaa (i:=1) rfl) zad)) rfl (by show zaY P0 P1;exact hp.1) rfl))
 (zdv (zfs (EvO.conv (zbN (g:=(λ(x5:(Int×Int))=>dI (x5.1-x5.2))) (zeM (m:=false) dI dI (xs:=P0) (ys:=P1) (zaa (i:=0) rfl) (zaa (i:=1) rfl)) (by exact zai (by rw [List.length_zip];omega)) ⟨by decide,by decide⟩ (λi6 x5 hx7=>have qhx7:=zcv hx7;(zaD (x:=x5.1) (y:=x5.2) (Ev.any (m:=false) (zaa (i:=0) rfl)) (Ev.any (m:=false) (zaa (i:=1) rfl))))) (by first | (rw [List.map_map];rfl) | (simp only [cond_true,cond_false];rw [List.map_map];rfl))))))
def m_times (P0:(List Int)) (P1:Int):(List Int) :=
 (List.map (λ(x8:Int)=>(x8*P1)) P0)
def zbk (P0:(List Int)) (P1:Int):Prop:=P0.length≤1000∧∀ x∈P0,zdH x P1
def zek (K:W.Frag) (A:Adr):Sp:=Spv (ι:=(List Int)×Int) (λx=>[dQ K (List.map dI x.1),dI x.2]) (λx=>zbk x.1 x.2) (λx=>.ow true (List.map dI (m_times x.1 x.2)))
theorem zl2:FnScope ["some","many"] ["some","many"] (defScope zeD):=⟨rfl,rfl,rfl,by decide +kernel,rfl,by decide +kernel,by decide +kernel⟩
theorem zlR (F:Fun K "times" "times" zeD f fd) (T:Txt K mg A) :FnOk P w K mg base (CXE P w) 1 f fd ["some","many"] (zek K A):=by
 refine F.okV zl2 (λ_=>rfl) (λcdv Ar outer s H E x hr hp=>?_)
 obtain ⟨P0,P1⟩:=x
 have hu:=hr.units
 replace hp:zbk P0 P1:=hp
 unfold zbk at hp
 refine ⟨_,(zac (zav (pe_comp rfl (.of (osc:=(defScope zeD)) (N:=["some","many"]) (own:=["number"]) (fvn:=["many"]) (fv:=[1]) rfl rfl (by decide +kernel)) (pi_list_K (K:=K) rfl (pv 0)) (λ_ _ _ _ _=>⟨(pg_name (i:=0) (show (["number","many"]:List Str).Nodup by decide +kernel) rfl (Or.inl rfl) (Or.inr rfl)),pts_nil,(zam zbb (pv 0) (pv 1))⟩)))
 zae),.inl ?_⟩
 show L2.Run _ ([.va false (dQ K (List.map dI P0)),.va false (dI P1)]:L2.Ctx) _ ((λr=>Oc.rl true (List.map dI r)) (m_times P0 P1))
 unfold m_times
 exact (zdv (zfs (EvO.conv (zbN (g:=(λ(x8:Int)=>dI (x8*P1))) (zbX (m:=false) dI (xs:=P0) (zaa (i:=0) rfl)) (by exact zai (by omega)) ⟨by decide,by decide⟩ (λi9 x8 hx10=>have v10:=List.mem_of_getElem? hx10;(zau (x:=x8) (y:=P1) (Ev.any (m:=false) (zaa (i:=0) rfl)) (Ev.any (m:=false) (zaa (i:=1) rfl)) (by exact hp.2 _ (List.mem_of_getElem? (by assumption)))))) (by first | (rw [List.map_map];rfl) | (simp only [cond_true,cond_false];rw [List.map_map];rfl)))))
theorem zl0 {α:Type} {xs:List α} {i:Nat} {p:Int×α} (h:(zdI xs)[i]?=some p):p.2∈xs:=List.mem_of_getElem? (zcQ h).2.2
def m_head_of (P0:(List Int)):Int :=
 (zil (zbi (λ(s11:Unit) (x12:(Int×Int))=>(((bif (!decide (x12.2=(0:Int))) then (Sum.inr x12.1)
 else (Sum.inl ()))):(Unit) ⊕ Int)) () (zdI P0)) (λ(r17:Unit) =>
 ((P0.length:Nat):Int)) (λb=>b))
def zaN (P0:(List Int)):Prop:=True
def zb7 (K:W.Frag) (A:Adr):Sp:=Spv (ι:=(List Int)) (λx=>[dQ K (List.map dI x)]) (λx=>zaN x) (λx=>.va true (dI (m_head_of x)))
theorem ze1:FnScope ["row","place","number"] ["row"] (defScope zdh):=⟨rfl,rfl,rfl,by decide +kernel,rfl,by decide +kernel,by decide +kernel⟩
theorem zjb (F:Fun K "head_of" "head_of" zdh f fd) (T:Txt K mg A) :FnOk P w K mg base (CXE P w) 1 f fd ["row"] (zb7 K A):=by
 refine F.okV ze1 (λ_=>rfl) (λcdv Ar outer s H E P0 hr hp=>?_)
 have hu:=hr.units
 replace hp:zaN P0:=hp
 unfold zaN at hp
 refine ⟨_,(zac (zcx PassesOwn.never rfl (zgB rfl rfl T.enumerate (pa_cons (pv 0) pa_nil)) (zaR (K:=K) (n:=2) rfl rfl (zas (pg_name (i:=1) ze1.nd rfl (Or.inl rfl) (Or.inl rfl)) (zas (pg_name (i:=2) ze1.nd rfl (Or.inl rfl) (Or.inl rfl)) zbe)))
 (zac (zbw (pt_cmpR op_ne (pv 2) zaf (nomark _))
 (zac (zav (pv 1))
 zae)
 zae)
 zae))
 (zac (zav (pe_callB (call_len_K (K:=K) rfl) rfl T.len PySem.boot_len (pa_cons (pv 0) pa_nil)))
 zae)),.inl ?_⟩
 show L2.Run _ ([.va false (dQ K (List.map dI P0)),.no,.no]:L2.Ctx) _ ((λ(r:Int)=>Oc.rt true (dI r)) (m_head_of P0))
 unfold m_head_of
 exact (zft (s0:=()) (λ(s11:Unit)=>([.va false (dQ K (List.map dI P0)),.no,.no]:L2.Ctx)) (λ(r:Int)=>Oc.rt true (dI r)) (λb=>b) (λ(s11:Unit) (x12:(Int×Int))=>(((bif (!decide (x12.2=(0:Int))) then (Sum.inr x12.1)
 else (Sum.inl ()))):(Unit) ⊕ Int)) (λ_ _=>True) (λb=>.inl ⟨_,_,rfl⟩) (zgv (m:=false) dI (xs:=P0) (zaa (i:=0) rfl)) (.eq (.eq (.eq .nil))) trivial (λi13 x12 s11 hx14 hI15=>have v14:=zcQ hx14;⟨(λ_ _=>trivial),
 (zaB (b:=(!decide (x12.2=(0:Int)))) (zet (λ(s11:Unit)=>([.va false (dQ K (List.map dI P0)),.no,.no]:L2.Ctx)) (λ(r:Int)=>Oc.rt true (dI r))) (zao (zc0 (x:=x12.2) (y:=(0:Int)) (Ev.any (m:=false) (zaa (i:=2) rfl)) zaw)) (λh16=>(zan (zag (zap (Ev.any (m:=false) (zaa (i:=1) rfl)))))) (λh16 =>
 (zal (zar (.eq (.no (.no .nil)))))))⟩) (λr17 hr17 hI =>
 (zag (zap (zaG (f:=dI) (xs:=P0) (zaa (i:=0) rfl))))))
theorem head_eq (r:List Int):m_head_of r=(Lat.hd r:Int):=Lat.zqa r
def m_common (P0:Int) (P1:Int):(T3 Int Int Int) :=
 (Let (whl (λ(s18:Int×Int×Int×Int)=>(!decide (s18.2.1=(0:Int)))) (λ(s18:Int×Int×Int×Int)=>(Let (s18.1/s18.2.1) (λ(v21:Int) =>
 (Let (s18.1-(v21*s18.2.1)) (λ(v22:Int) =>
 (Let s18.2.1 (λ(v23:Int) =>
 (Let (s18.2.2.1-(v21*s18.2.2.2)) (λ(v24:Int) =>
 (Let s18.2.2.2 (λ(v25:Int) =>
 (v23,v22,v25,v24)))))))))))) (P1.toNat) (P0,P1,(1:Int),(0:Int))) (λ(r26:Int×Int×Int×Int) =>
 (T3.mk r26.1 r26.2.2.1 ((r26.1-(r26.2.2.1*P0))/P1))))
def zel (P0:Int) (P1:Int):Prop:=Lat.zid P0 P1
def zfS (K:W.Frag) (A:Adr):Sp:=Spv (ι:=Int×Int) (λx=>[dI x.1,dI x.2]) (λx=>zel x.1 x.2) (λx=>.va true (dT [dI ((m_common x.1 x.2).a),dI ((m_common x.1 x.2).b),dI ((m_common x.1 x.2).c)]))
theorem za9:FnScope ["one","other","great","small","taken","later","part","left"] ["one","other"] (defScope zed):=⟨rfl,rfl,rfl,by decide +kernel,rfl,by decide +kernel,by decide +kernel⟩
theorem zj9 (F:Fun K "common" "common" zed f fd) (T:Txt K mg A) :FnOk P w K mg base (CXE P w) 1 f fd ["one","other"] (zfS K A):=by
 refine F.okV za9 (λ_=>rfl) (λcdv Ar outer s H E x hr hp=>?_)
 obtain ⟨P0,P1⟩:=x
 have hu:=hr.units
 replace hp:zel P0 P1:=hp
 unfold zel at hp
 refine ⟨_,(zac (zak (i:=2) za9.nd rfl (Or.inl rfl) (pv 0))
 (zac (zak (i:=3) za9.nd rfl (Or.inl rfl) (pv 1))
 (zac (zak (i:=4) za9.nd rfl (Or.inl rfl) zaf)
 (zac (zak (i:=5) za9.nd rfl (Or.inl rfl) zaf)
 (zac (zlN PassesOwn.never (pt_cmpR op_ne (pv 3) zaf (nomark _))
 (zac (zak (i:=6) za9.nd rfl (Or.inl rfl) (zam zaS (pv 2) (pv 3)))
 (zac (zak (i:=7) za9.nd rfl (Or.inl rfl) (zam zeq (pv 2) (zam zbb (pv 6) (pv 3))))
 (zac (zak (i:=2) za9.nd rfl (Or.inl rfl) (pv 3))
 (zac (zak (i:=3) za9.nd rfl (Or.inl rfl) (pv 7))
 (zac (zak (i:=7) za9.nd rfl (Or.inl rfl) (zam zeq (pv 4) (zam zbb (pv 6) (pv 5))))
 (zac (zak (i:=4) za9.nd rfl (Or.inl rfl) (pv 5))
 (zac (zak (i:=5) za9.nd rfl (Or.inl rfl) (pv 7))
 zae))))))))
 (zac (zav (zfj (pa_cons (pv 2) (pa_cons (pv 4) (pa_cons (zam zaS (zam zeq (pv 2) (zam zbb (pv 4) (pv 0))) (pv 1)) pa_nil)))))
 zae)))))),.inl ?_⟩
 show L2.Run _ ([.va false (dI P0),.va false (dI P1),.no,.no,.no,.no,.no,.no]:L2.Ctx) _ ((λ(r:(T3 Int Int Int))=>Oc.rt true (dT [dI r.a,dI r.b,dI r.c])) (m_common P0 P1))
 unfold m_common
 exact (zbd (m:=true) (Ev.any (m:=false) (zaa (i:=0) rfl))
 (zbd (m:=true) (Ev.any (m:=false) (zaa (i:=1) rfl))
 (zbd (m:=true) zaw
 (zbd (m:=true) zaw
 (zkJ (s0:=(P0,P1,(1:Int),(0:Int))) (λ(s18:Int×Int×Int×Int)=>([.va false (dI P0),.va false (dI P1),.va true (dI s18.1),.va true (dI s18.2.1),.va true (dI s18.2.2.1),.va true (dI s18.2.2.2),.no,.no]:L2.Ctx)) (λ(r:(T3 Int Int Int))=>Oc.rt true (dT [dI r.a,dI r.b,dI r.c])) (λ(s18:Int×Int×Int×Int)=>(!decide (s18.2.1=(0:Int)))) (λ(s18:Int×Int×Int×Int)=>(Let (s18.1/s18.2.1) (λ(v21:Int) =>
 (Let (s18.1-(v21*s18.2.1)) (λ(v22:Int) =>
 (Let s18.2.1 (λ(v23:Int) =>
 (Let (s18.2.2.1-(v21*s18.2.2.2)) (λ(v24:Int) =>
 (Let s18.2.2.2 (λ(v25:Int) =>
 (v23,v22,v25,v24)))))))))))) (λ(s18:Int×Int×Int×Int)=>Lat.GI P0 P1 s18) (λ(s18:Int×Int×Int×Int)=>(s18.2.1).toNat) (P1.toNat) (.eq (.eq (.eq (.eq (.eq (.eq (.eq (.eq .nil)))))))) (by exact Lat.GI.start hp.1 hp.2.1) (by exact Nat.le_refl _) (λs18 hI19=>⟨(zao (zc0 (x:=s18.2.1) (y:=(0:Int)) (Ev.any (m:=true) (zaa (i:=3) rfl)) zaw)),λhc20=>⟨(by exact Lat.GI.step (by assumption) (by assumption)),
 (zaj (m:=true) (x:=(s18.1/s18.2.1)) dI (λz=>Oc.nx ((λ(s18:Int×Int×Int×Int)=>([.va false (dI P0),.va false (dI P1),.va true (dI s18.1),.va true (dI s18.2.1),.va true (dI s18.2.2.1),.va true (dI s18.2.2.2),.no,.no]:L2.Ctx)) z)) (zau (x:=s18.1) (y:=s18.2.1) (Ev.any (m:=true) (zaa (i:=2) rfl)) (Ev.any (m:=true) (zaa (i:=3) rfl)) (by exact Lat.GI.div (by assumption) hp (by assumption))) (λv21 hv21 =>
 (zaj (m:=true) (x:=(s18.1-(v21*s18.2.1))) dI (λz=>Oc.nx ((λ(s18:Int×Int×Int×Int)=>([.va false (dI P0),.va false (dI P1),.va true (dI s18.1),.va true (dI s18.2.1),.va true (dI s18.2.2.1),.va true (dI s18.2.2.2),.no,.no]:L2.Ctx)) z)) (zaD (x:=s18.1) (y:=(v21*s18.2.1)) (Ev.any (m:=true) (zaa (i:=2) rfl)) (zau (x:=v21) (y:=s18.2.1) (Ev.any (m:=true) (zaa (i:=6) rfl)) (Ev.any (m:=true) (zaa (i:=3) rfl)) (by exact Lat.GI.mul1 (by assumption) hp (by assumption) (by assumption)))) (λv22 hv22 =>
 (zaj (m:=true) (x:=s18.2.1) dI (λz=>Oc.nx ((λ(s18:Int×Int×Int×Int)=>([.va false (dI P0),.va false (dI P1),.va true (dI s18.1),.va true (dI s18.2.1),.va true (dI s18.2.2.1),.va true (dI s18.2.2.2),.no,.no]:L2.Ctx)) z)) (Ev.any (m:=true) (zaa (i:=3) rfl)) (λv23 hv23 =>
 (zbd (m:=true) (Ev.any (m:=true) (zaa (i:=7) rfl))
 (zaj (m:=true) (x:=(s18.2.2.1-(v21*s18.2.2.2))) dI (λz=>Oc.nx ((λ(s18:Int×Int×Int×Int)=>([.va false (dI P0),.va false (dI P1),.va true (dI s18.1),.va true (dI s18.2.1),.va true (dI s18.2.2.1),.va true (dI s18.2.2.2),.no,.no]:L2.Ctx)) z)) (zaD (x:=s18.2.2.1) (y:=(v21*s18.2.2.2)) (Ev.any (m:=true) (zaa (i:=4) rfl)) (zau (x:=v21) (y:=s18.2.2.2) (Ev.any (m:=true) (zaa (i:=6) rfl)) (Ev.any (m:=true) (zaa (i:=5) rfl)) (by exact Lat.GI.mul2 (by assumption) hp (by assumption) (by assumption)))) (λv24 hv24 =>
 (zaj (m:=true) (x:=s18.2.2.2) dI (λz=>Oc.nx ((λ(s18:Int×Int×Int×Int)=>([.va false (dI P0),.va false (dI P1),.va true (dI s18.1),.va true (dI s18.2.1),.va true (dI s18.2.2.1),.va true (dI s18.2.2.2),.no,.no]:L2.Ctx)) z)) (Ev.any (m:=true) (zaa (i:=5) rfl)) (λv25 hv25 =>
 (zbd (m:=true) (Ev.any (m:=true) (zaa (i:=7) rfl))
 (zar (.eq (.eq (.eq (.eq (.eq (.eq (.no (.no .nil)))))))))))))))))))))⟩⟩) (λr26 hr26 hI hc =>
 (zag (zap (zfk (zab (Ev.any (m:=true) (zaa (i:=2) rfl)) (zab (Ev.any (m:=true) (zaa (i:=4) rfl)) (zab (zau (x:=(r26.1-(r26.2.2.1*P0))) (y:=P1) (zaD (x:=r26.1) (y:=(r26.2.2.1*P0)) (Ev.any (m:=true) (zaa (i:=2) rfl)) (zau (x:=r26.2.2.1) (y:=P0) (Ev.any (m:=true) (zaa (i:=4) rfl)) (Ev.any (m:=false) (zaa (i:=0) rfl)) (by exact Lat.GI.mul3 (by assumption) hp))) (Ev.any (m:=false) (zaa (i:=1) rfl)) (by exact Lat.zid.div hp)) zad))) (by show 3≤sizeLine;decide))))))))))
theorem zj8 (a b:Int):m_common a b=Lat.cmn a b:=rfl
def m_upright (P0:(List Int)):(List Int) :=
 (bif (decide ((ixD P0 (m_head_of P0))<(0:Int))) then (m_times P0 (-(1:Int))) else P0)
def zbJ (P0:(List Int)):Prop:=P0.length≤1000∧Lat.hd P0<P0.length
def ze5 (K:W.Frag) (A:Adr):Sp:=Spv (ι:=(List Int)) (λx=>[dL (List.map dI x)]) (λx=>zbJ x) (λx=>.va false (dL (List.map dI (m_upright x))))
theorem zi1:FnScope ["row"] ["row"] (defScope zde):=⟨rfl,rfl,rfl,by decide +kernel,rfl,by decide +kernel,by decide +kernel⟩
theorem zjn (F:Fun K "upright" "upright" zde f fd) (T:Txt K mg A) (G_head_of:Callee P w K mg base (CXE P w) 1 "head_of" ["row"] (zb7 K A)) (G_times:Callee P w K mg base (CXE P w) 1 "times" ["some","many"] (zek K A)):FnOk P w K mg base (CXE P w) 2 f fd ["row"] (ze5 K A):=by
 refine F.okV zi1 (λ_=>rfl) (λcdv Ar outer s H E P0 hr hp=>?_)
 have hu:=hr.units
 replace hp:zbJ P0:=hp
 unfold zbJ at hp
 refine ⟨_,(zac (zav (zgJ (pt_cmpR zjm (zbI (zax (K:=K) rfl) (pv 0) (pe_fn G_head_of (hr.mono (by decide)) rfl passE (pa_cons (pv 0) pa_nil)) (λ_ _=>rfl)) zaf (nomark _)) (pe_fn G_times (hr.mono (by decide)) rfl passE (pa_cons (pv 0) (pa_cons (zoK zmw zaf) pa_nil))) (pv 0)))
 zae),.inl ?_⟩
 show L2.Run _ ([.va false (dL (List.map dI P0))]:L2.Ctx) _ ((λ(r:(List Int))=>Oc.rt false (dL (List.map dI r))) (m_upright P0))
 unfold m_upright
 exact (zag (zap (zmZ lI (b:=(decide ((ixD P0 (m_head_of P0))<(0:Int)))) (x:=(m_times P0 (-(1:Int)))) (y:=P0) (zao (zaD (x:=(ixD P0 (m_head_of P0))) (y:=(0:Int)) (Ev.any (m:=false) (zb1 (f:=dI) (xs:=P0) (Ev.weak (K:=K) (zaa (i:=0) rfl)) (Ev.any (m:=true) (zah (x:=P0) (zab (Ev.weak (K:=K) (zaa (i:=0) rfl)) zad) rfl (by show zaN P0;exact trivial) rfl)) (by have:=hp.2;rw [head_eq];unfold InB;omega))) zaw)) (λhb=>(EvO.ev (EvO.anyI (m:=true) (zbg (x:=(P0,(-(1:Int)))) (zab (Ev.weak (K:=K) (zaa (i:=0) rfl)) (zab (zoF (x:=(1:Int)) zaw) zad)) rfl (by show zbk P0 (-(1:Int));exact ⟨hp.1,λ_ _=>.inr (.inl ⟨by decide,by decide⟩)⟩) rfl)))) (λhb=>(zaa (i:=0) rfl)))))
theorem zgq (l:List Int):m_upright l=Lat.upr l:=by unfold m_upright;rw [head_eq,Lat.zcb];rfl
theorem zik (s x:List Int):Let (m_head_of x) (λ(h:Int)=>Let ((ixD s h)/(ixD x h)) (λ(q:Int)=>Let (bif (!decide (q=(0:Int))) then (m_less s (m_times x q)) else s) (λ(y:List Int)=>y)))=Lat.zh2 s x:=by
 unfold Let
 dsimp only
 rw [head_eq,Lat.zcb,Lat.zcb];rfl
section
variable {n s a b i:Nat} {l t:List Int} {h q:Int} {steps:List (List Int)}
theorem zp5 (T:Lat.Sd n s t) (e:h=(Lat.hd t:Int)) (hl:l.length=n∧Lat.Bit b l):InB l.length h:=Lat.ziH T e hl.1
theorem zjM (T:Lat.Sd n s t) (e:h=(Lat.hd t:Int)):InB t.length h:=Lat.ziH T e T.len
theorem zoC (p1:n≤1000) (p6:a+steps.length*(s+1)+s≤50000000) (hx:steps[i]?=some t) (T:∀ t∈steps,Lat.Sd n s t) (hl:l.length=n∧Lat.Bit (a+i*(s+1)) l) (e:h=(Lat.hd t:Int)) (eq:q=ixD l h/ixD t h):zbk t q:=by
 have T1:=T t (List.mem_of_getElem? hx)
 exact ⟨by rw [T1.len];exact p1,Lat.znV T1 e hl.2 eq (Lat.zm6 p6 (List.getElem?_eq_some_iff.mp hx).1)⟩
theorem zm0 (p1:n≤1000) (T:Lat.Sd n s t) (hl:l.length=n∧Lat.Bit b l):zcj l (m_times t q):=⟨by rw [hl.1,show (m_times t q).length=t.length from Lat.zaM,T.len],by omega⟩
theorem zpH {sh:T3 Int Int Int} (e:h=(Lat.hd t:Int)) (T:Lat.Sd n s t) (h0:0<Lat.vec l (Lat.hd t)) (h1:Lat.vec l (Lat.hd t)<Lat.vec t (Lat.hd t)) (hs:sh=m_common (ixD t h) (ixD l h)):0<sh.a∧sh.a.natAbs≤2^8981∧sh.b.natAbs≤2^8980∧sh.c.natAbs≤2^17962:=by
 subst hs
 exact Lat.zmC (Lat.zjJ T e h0 h1)
theorem znv {x y:Int} (p1:n≤1000) (h1:t.length=n) (h2:l.length=n):zeK (m_times t x) (m_times l y):=⟨by rw [show (m_times t x).length=t.length from Lat.zaM,show (m_times l y).length=l.length from Lat.zaM,h1,h2],by rw [show (m_times t x).length=t.length from Lat.zaM,h1];exact p1⟩
theorem zlL {x y:Int} (p1:n≤1000) (h1:t.length=n) (h2:l.length=n):zcj (m_times l x) (m_times t y):=⟨by rw [show (m_times t y).length=t.length from Lat.zaM,show (m_times l x).length=l.length from Lat.zaM,h1,h2],by rw [show (m_times l x).length=l.length from Lat.zaM,h2];exact p1⟩
theorem zop (e:h=(Lat.hd t:Int)) (T:Lat.Sd n s t):(ixD t h).natAbs≤2^8980:=by subst e;rw [Lat.zcb];exact T.top
theorem znt (e:h=(Lat.hd t:Int)) (T:Lat.Sd n s t) (h0:0<Lat.vec l (Lat.hd t)) (h1:Lat.vec l (Lat.hd t)<Lat.vec t (Lat.hd t)):(ixD l h).natAbs≤2^8980:=by subst e;rw [Lat.zcb];have:=T.top;omega
end
def m_lowered (P0:(List Int)) (P1:(List (List Int))):(List Int) :=
 (Let (List.foldl (λ(s27:(List Int)) (x28:(List Int))=>(Let (m_head_of x28) (λ(hv32:Int) =>
 (Let ((ixD s27 hv32)/(ixD x28 hv32)) (λ(v33:Int) =>
 (Let (bif (!decide (v33=(0:Int))) then (m_less s27 (m_times x28 v33)) else s27) (λ(v35:(List Int)) =>
 v35))))))) P0 P1) (λ(r36:(List Int)) =>
 r36))
def za8 (P0:(List Int)) (P1:(List (List Int))):Prop:=Lat.LowP P0 P1
def zcJ (K:W.Frag) (A:Adr):Sp:=Spv (ι:=(List Int)×(List (List Int))) (λx=>[dQ K (List.map dI x.1),dQ K (List.map lI x.2)]) (λx=>za8 x.1 x.2) (λx=>.va true (dL (List.map dI (m_lowered x.1 x.2))))
theorem zcH:FnScope ["row","steps","left","step","head","many"] ["row","steps"] (defScope zdp):=⟨rfl,rfl,rfl,by decide +kernel,rfl,by decide +kernel,by decide +kernel⟩
theorem zjd (F:Fun K "lowered" "lowered" zdp f fd) (T:Txt K mg A) (G_head_of:Callee P w K mg base (CXE P w) 1 "head_of" ["row"] (zb7 K A)) (G_less:Callee P w K mg base (CXE P w) 2 "less" ["one","other"] (ze7 K A)) (G_times:Callee P w K mg base (CXE P w) 1 "times" ["some","many"] (zek K A)):FnOk P w K mg base (CXE P w) 3 f fd ["row","steps"] (zcJ K A):=by
 refine F.okV zcH (λ_=>rfl) (λcdv Ar outer s H E x hr hp=>?_)
 obtain ⟨P0,P1⟩:=x
 have hu:=hr.units
 replace hp:za8 P0 P1:=hp
 unfold za8 at hp
 obtain ⟨N0,A0,S0,p1,p2,p3,p4,p5,p6⟩:=hp
 refine ⟨_,(zac (zak (i:=2) zcH.nd rfl (Or.inl rfl) (zbA (zbj (K:=K) rfl) rfl T.list PyProof.Rows.boot_list (pa_cons (pv 0) pa_nil)))
 (zac (zcx PassesOwn.never rfl (pi_list_K (K:=K) rfl (pv 1)) (pg_name (i:=3) zcH.nd rfl (Or.inl rfl) (Or.inl rfl))
 (zac (zak (i:=4) zcH.nd rfl (Or.inl rfl) (pe_fn G_head_of (hr.mono (by decide)) rfl passE (pa_cons (pv 3) pa_nil)))
 (zac (zak (i:=5) zcH.nd rfl (Or.inl rfl) (zam zaS (zbI (zax (K:=K) rfl) (pv 2) (pv 4) (λ_ _=>rfl)) (zbI (zax (K:=K) rfl) (pv 3) (pv 4) (λ_ _=>rfl))))
 (zac (zbw (pt_cmpR op_ne (pv 5) zaf (nomark _))
 (zac (zak (i:=2) zcH.nd rfl (Or.inl rfl) (pe_fn G_less (hr.mono (by decide)) rfl passE (pa_cons (pv 2) (pa_cons (pe_fn G_times (hr.mono (by decide)) rfl passE (pa_cons (pv 3) (pa_cons (pv 5) pa_nil))) pa_nil))))
 zae)
 zae)
 zae))))
 (zac (zav (pv 2))
 zae))),.inl ?_⟩
 show L2.Run _ ([.va false (dQ K (List.map dI P0)),.va false (dQ K (List.map lI P1)),.no,.no,.no,.no]:L2.Ctx) _ ((λ(r:(List Int))=>Oc.rt true (dL (List.map dI r))) (m_lowered P0 P1))
 unfold m_lowered
 exact (zbd (m:=true) (EvO.ev (EvO.anyI (m:=false) (zdP (zaa (i:=0) rfl))))
 (zbS (s0:=P0) (λ(s27:(List Int))=>([.va false (dQ K (List.map dI P0)),.va false (dQ K (List.map lI P1)),.va true (dL (List.map dI s27)),.no,.no,.no]:L2.Ctx)) (λ(r:(List Int))=>Oc.rt true (dL (List.map dI r))) (λ(s27:(List Int)) (x28:(List Int))=>(Let (m_head_of x28) (λ(hv32:Int) =>
 (Let ((ixD s27 hv32)/(ixD x28 hv32)) (λ(v33:Int) =>
 (Let (bif (!decide (v33=(0:Int))) then (m_less s27 (m_times x28 v33)) else s27) (λ(v35:(List Int)) =>
 v35))))))) (λ(i:Nat) (s27:(List Int))=>s27.length=N0∧Lat.Bit (A0+i*(S0+1)) s27) (zbX (m:=false) lI (xs:=P1) (zaa (i:=1) rfl)) (.eq (.eq (.eq (.eq (.eq (.eq .nil)))))) (by exact ⟨p2,by simpa using p4⟩) (λi29 x28 s27 hx30 hI31=>have v30:=List.mem_of_getElem? hx30;⟨(by exact Lat.znW (p5 _ (by assumption)) (by assumption) (zik _ _)),
 (zaj (m:=true) (x:=(m_head_of x28)) dI (λz=>Oc.nx ((λ(s27:(List Int))=>([.va false (dQ K (List.map dI P0)),.va false (dQ K (List.map lI P1)),.va true (dL (List.map dI s27)),.no,.no,.no]:L2.Ctx)) z)) (Ev.any (m:=true) (zah (x:=x28) (zab (Ev.weak (K:=K) (zaa (i:=3) rfl)) zad) rfl (by show zaN x28;exact trivial) rfl)) (λhv32 hhead32 =>
 have hH:=(hhead32).trans (head_eq _);(zaj (m:=true) (x:=((ixD s27 hv32)/(ixD x28 hv32))) dI (λz=>Oc.nx ((λ(s27:(List Int))=>([.va false (dQ K (List.map dI P0)),.va false (dQ K (List.map lI P1)),.va true (dL (List.map dI s27)),.no,.no,.no]:L2.Ctx)) z)) (zau (x:=(ixD s27 hv32)) (y:=(ixD x28 hv32)) (Ev.any (m:=true) (zb1 (f:=dI) (xs:=s27) (Ev.weak (K:=K) (zaa (i:=2) rfl)) (Ev.any (m:=true) (zaa (i:=4) rfl)) (by exact zp5 (p5 _ (by assumption)) hH (by assumption)))) (Ev.any (m:=false) (zb1 (f:=dI) (xs:=x28) (Ev.weak (K:=K) (zaa (i:=3) rfl)) (Ev.any (m:=true) (zaa (i:=4) rfl)) (by exact zjM (p5 _ (by assumption)) hH))) (by exact Lat.znh (p5 _ (by assumption)) hH)) (λv33 hv33 =>
 (zcD (b:=(!decide (v33=(0:Int)))) (λbb=>([.va false (dQ K (List.map dI P0)),.va false (dQ K (List.map lI P1)),.va true (dL (List.map dI (bif bb then (m_less s27 (m_times x28 v33)) else s27))),.va false (dL (List.map dI x28)),.va true (dI hv32),.va true (dI v33)]:L2.Ctx)) (zao (zc0 (x:=v33) (y:=(0:Int)) (Ev.any (m:=true) (zaa (i:=5) rfl)) zaw)) (λh34=>(zbd (m:=true) (EvO.ev (EvO.anyI (m:=true) (zbg (x:=(s27,(m_times x28 v33))) (zab (Ev.old (Ev.weak (K:=K) (zaa (i:=2) rfl))) (zab (Ev.weak (K:=K) (EvO.ev (EvO.anyI (m:=true) (zbg (x:=(x28,v33)) (zab (Ev.weak (K:=K) (zaa (i:=3) rfl)) (zab (Ev.any (m:=true) (zaa (i:=5) rfl)) zad)) rfl (by show zbk x28 v33;exact zoC p1 p6 (by assumption) p5 (by assumption) hH (by assumption)) rfl)))) zad)) rfl (by show zcj s27 (m_times x28 v33);exact zm0 p1 (p5 _ (by assumption)) (by assumption)) rfl)))
 (zar (.eq (.eq (.eq (.eq (.eq (.eq .nil))))))))) (λh34=>(zar (.eq (.eq (.eq (.eq (.eq (.eq .nil))))))))
 (zce (x:=(bif (!decide (v33=(0:Int))) then (m_less s27 (m_times x28 v33)) else s27)) (λv35=>([.va false (dQ K (List.map dI P0)),.va false (dQ K (List.map lI P1)),.va true (dL (List.map dI v35)),.va false (dL (List.map dI x28)),.va true (dI hv32),.va true (dI v33)]:L2.Ctx)) (λz=>Oc.nx ((λ(s27:(List Int))=>([.va false (dQ K (List.map dI P0)),.va false (dQ K (List.map lI P1)),.va true (dL (List.map dI s27)),.no,.no,.no]:L2.Ctx)) z)) (λv35 hv35 =>
 (zar (.eq (.eq (.eq (.no (.no (.no .nil))))))))))))))⟩) (λr36 hr36 hI =>
 (zag (zap (zaa (i:=2) rfl))))))
theorem zb8 (l:List Int) (ss:List (List Int)):m_lowered l ss=Lat.low l ss:=by
 unfold m_lowered
 show List.foldl _ l ss=List.foldl Lat.zh2 l ss
 congr 1
 funext s x
 exact zik s x
def m_merged (P0:(List Int)) (P1:(List Int)):((List Int)×(List Int)) :=
 (Let (m_head_of P0) (λ(hv37:Int) =>
 (Let (m_common (ixD P0 hv37) (ixD P1 hv37)) (λ(v38:(T3 Int Int Int)) =>
 (Let (m_plus (m_times P0 v38.b) (m_times P1 v38.c)) (λ(v39:(List Int)) =>
 (Let (m_less (m_times P1 ((ixD P0 hv37)/v38.a)) (m_times P0 ((ixD P1 hv37)/v38.a))) (λ(v40:(List Int)) =>
 (v39,v40)))))))))
def zd3 (P0:(List Int)) (P1:(List Int)):Prop:=Lat.MrgP P0 P1
def zfI (K:W.Frag) (A:Adr):Sp:=Spv (ι:=(List Int)×(List Int)) (λx=>[dQ K (List.map dI x.1),dQ K (List.map dI x.2)]) (λx=>zd3 x.1 x.2) (λx=>.va true (dT [dL (List.map dI ((m_merged x.1 x.2).1)),dL (List.map dI ((m_merged x.1 x.2).2))]))
theorem zdQ:FnScope ["step","row","head","shared","first","second"] ["step","row"] (defScope zeg):=⟨rfl,rfl,rfl,by decide +kernel,rfl,by decide +kernel,by decide +kernel⟩
theorem zkW (F:Fun K "merged" "merged" zeg f fd) (T:Txt K mg A) (G_common:Callee P w K mg base (CXE P w) 1 "common" ["one","other"] (zfS K A)) (G_head_of:Callee P w K mg base (CXE P w) 1 "head_of" ["row"] (zb7 K A)) (G_less:Callee P w K mg base (CXE P w) 2 "less" ["one","other"] (ze7 K A)) (G_plus:Callee P w K mg base (CXE P w) 2 "plus" ["one","other"] (zie K A)) (G_times:Callee P w K mg base (CXE P w) 1 "times" ["some","many"] (zek K A)):FnOk P w K mg base (CXE P w) 3 f fd ["step","row"] (zfI K A):=by
 refine F.okV zdQ (λ_=>rfl) (λcdv Ar outer s H E x hr hp=>?_)
 obtain ⟨P0,P1⟩:=x
 have hu:=hr.units
 replace hp:zd3 P0 P1:=hp
 unfold zd3 at hp
 obtain ⟨N0,A0,S0,p1,p2,p3,p4,p5,p6,p7⟩:=hp
 refine ⟨_,(zac (zak (i:=2) zdQ.nd rfl (Or.inl rfl) (pe_fn G_head_of (hr.mono (by decide)) rfl passE (pa_cons (pv 0) pa_nil)))
 (zac (zak (i:=3) zdQ.nd rfl (Or.inl rfl) (pe_fn G_common (hr.mono (by decide)) rfl passE (pa_cons (zbI (zax (K:=K) rfl) (pv 0) (pv 2) (λ_ _=>rfl)) (pa_cons (zbI (zax (K:=K) rfl) (pv 1) (pv 2) (λ_ _=>rfl)) pa_nil))))
 (zac (zak (i:=4) zdQ.nd rfl (Or.inl rfl) (pe_fn G_plus (hr.mono (by decide)) rfl passE (pa_cons (pe_fn G_times (hr.mono (by decide)) rfl passE (pa_cons (pv 0) (pa_cons (zbI (zef (K:=K) rfl) (pv 3) zaf (λ_ _=>rfl)) pa_nil))) (pa_cons (pe_fn G_times (hr.mono (by decide)) rfl passE (pa_cons (pv 1) (pa_cons (zbI (zef (K:=K) rfl) (pv 3) zaf (λ_ _=>rfl)) pa_nil))) pa_nil))))
 (zac (zak (i:=5) zdQ.nd rfl (Or.inl rfl) (pe_fn G_less (hr.mono (by decide)) rfl passE (pa_cons (pe_fn G_times (hr.mono (by decide)) rfl passE (pa_cons (pv 1) (pa_cons (zam zaS (zbI (zax (K:=K) rfl) (pv 0) (pv 2) (λ_ _=>rfl)) (zbI (zef (K:=K) rfl) (pv 3) zaf (λ_ _=>rfl))) pa_nil))) (pa_cons (pe_fn G_times (hr.mono (by decide)) rfl passE (pa_cons (pv 0) (pa_cons (zam zaS (zbI (zax (K:=K) rfl) (pv 1) (pv 2) (λ_ _=>rfl)) (zbI (zef (K:=K) rfl) (pv 3) zaf (λ_ _=>rfl))) pa_nil))) pa_nil))))
 (zac (zav (zfj (pa_cons (pv 4) (pa_cons (pv 5) pa_nil))))
 zae))))),.inl ?_⟩
 show L2.Run _ ([.va false (dQ K (List.map dI P0)),.va false (dQ K (List.map dI P1)),.no,.no,.no,.no]:L2.Ctx) _ ((λ(r:((List Int)×(List Int)))=>Oc.rt true (dT [dL (List.map dI r.1),dL (List.map dI r.2)])) (m_merged P0 P1))
 unfold m_merged
 exact (zaj (m:=true) (x:=(m_head_of P0)) dI (λ(r:((List Int)×(List Int)))=>Oc.rt true (dT [dL (List.map dI r.1),dL (List.map dI r.2)])) (Ev.any (m:=true) (zah (x:=P0) (zab (zaa (i:=0) rfl) zad) rfl (by show zaN P0;exact trivial) rfl)) (λhv37 hhead37 =>
 have hH:=(hhead37).trans (head_eq _);(zaj (m:=true) (x:=(m_common (ixD P0 hv37) (ixD P1 hv37))) (λ(p:(T3 Int Int Int))=>dT [dI p.a,dI p.b,dI p.c]) (λ(r:((List Int)×(List Int)))=>Oc.rt true (dT [dL (List.map dI r.1),dL (List.map dI r.2)])) (zah (x:=((ixD P0 hv37),(ixD P1 hv37))) (zab (Ev.any (m:=false) (zb1 (f:=dI) (xs:=P0) (zaa (i:=0) rfl) (Ev.any (m:=true) (zaa (i:=2) rfl)) (by exact zjM p2 hH))) (zab (Ev.any (m:=false) (zb1 (f:=dI) (xs:=P1) (zaa (i:=1) rfl) (Ev.any (m:=true) (zaa (i:=2) rfl)) (by exact Lat.ziH p2 hH p3))) zad)) rfl (by show zel (ixD P0 hv37) (ixD P1 hv37);exact Lat.zjJ p2 hH p5 p6) rfl) (λv38 hv38 =>
 have hC:=zpH hH p2 p5 p6 hv38;(zaj (m:=true) (x:=(m_plus (m_times P0 v38.b) (m_times P1 v38.c))) lI (λ(r:((List Int)×(List Int)))=>Oc.rt true (dT [dL (List.map dI r.1),dL (List.map dI r.2)])) (EvO.ev (EvO.anyI (m:=true) (zbg (x:=((m_times P0 v38.b),(m_times P1 v38.c))) (zab (Ev.weak (K:=K) (EvO.ev (EvO.anyI (m:=true) (zbg (x:=(P0,v38.b)) (zab (zaa (i:=0) rfl) (zab (Ev.any (m:=true) (zgo (zaa (i:=3) rfl) zaw rfl)) zad)) rfl (by show zbk P0 v38.b;exact ⟨by rw [p2.len];exact p1,Lat.zgC p2.bit hC.2.2.1 (by omega) (by decide)⟩) rfl)))) (zab (Ev.weak (K:=K) (EvO.ev (EvO.anyI (m:=true) (zbg (x:=(P1,v38.c)) (zab (zaa (i:=1) rfl) (zab (Ev.any (m:=true) (zgo (zaa (i:=3) rfl) zaw rfl)) zad)) rfl (by show zbk P1 v38.c;exact ⟨by rw [p3];exact p1,Lat.zgC p4 hC.2.2.2 (by omega) (by decide)⟩) rfl)))) zad)) rfl (by show zeK (m_times P0 v38.b) (m_times P1 v38.c);exact znv p1 p2.len p3) rfl))) (λv39 hv39 =>
 (zaj (m:=true) (x:=(m_less (m_times P1 ((ixD P0 hv37)/v38.a)) (m_times P0 ((ixD P1 hv37)/v38.a)))) lI (λ(r:((List Int)×(List Int)))=>Oc.rt true (dT [dL (List.map dI r.1),dL (List.map dI r.2)])) (EvO.ev (EvO.anyI (m:=true) (zbg (x:=((m_times P1 ((ixD P0 hv37)/v38.a)),(m_times P0 ((ixD P1 hv37)/v38.a)))) (zab (Ev.weak (K:=K) (EvO.ev (EvO.anyI (m:=true) (zbg (x:=(P1,((ixD P0 hv37)/v38.a))) (zab (zaa (i:=1) rfl) (zab (zau (x:=(ixD P0 hv37)) (y:=v38.a) (Ev.any (m:=false) (zb1 (f:=dI) (xs:=P0) (zaa (i:=0) rfl) (Ev.any (m:=true) (zaa (i:=2) rfl)) (by exact zjM p2 hH))) (Ev.any (m:=true) (zgo (zaa (i:=3) rfl) zaw rfl)) (by exact Lat.zfH.of hC.1 hC.2.1 (by decide))) zad)) rfl (by show zbk P1 ((ixD P0 hv37)/v38.a);exact ⟨by rw [p3];exact p1,Lat.zgC p4 (Lat.zfa hC.1 (zop hH p2)) (by omega) (by decide)⟩) rfl)))) (zab (Ev.weak (K:=K) (EvO.ev (EvO.anyI (m:=true) (zbg (x:=(P0,((ixD P1 hv37)/v38.a))) (zab (zaa (i:=0) rfl) (zab (zau (x:=(ixD P1 hv37)) (y:=v38.a) (Ev.any (m:=false) (zb1 (f:=dI) (xs:=P1) (zaa (i:=1) rfl) (Ev.any (m:=true) (zaa (i:=2) rfl)) (by exact Lat.ziH p2 hH p3))) (Ev.any (m:=true) (zgo (zaa (i:=3) rfl) zaw rfl)) (by exact Lat.zfH.of hC.1 hC.2.1 (by decide))) zad)) rfl (by show zbk P0 ((ixD P1 hv37)/v38.a);exact ⟨by rw [p2.len];exact p1,Lat.zgC p2.bit (Lat.zfa hC.1 (znt hH p2 p5 p6)) (by omega) (by decide)⟩) rfl)))) zad)) rfl (by show zcj (m_times P1 ((ixD P0 hv37)/v38.a)) (m_times P0 ((ixD P1 hv37)/v38.a));exact zlL p1 p2.len p3) rfl))) (λv40 hv40 =>
 (zag (zap (zfk (zab (zaa (i:=4) rfl) (zab (zaa (i:=5) rfl) zad)) (by show 2≤sizeLine;decide))))))))))))
theorem zfE (s l:List Int):m_merged s l=Lat.mrg s l:=by
 unfold m_merged Let
 dsimp only
 rw [head_eq,Lat.zcb,Lat.zcb,zj8];rfl
section
variable {n s a i:Nat} {l row:List Int} {steps:List (List Int)} {st:Lat.TS2} {x:Int×List Int}
theorem zoU (p1:n≤1000) (p2:Lat.Ech n 0 steps) (p3:∀ t∈steps,Lat.Sd n s t) (p4:row.length=n) (p5:Lat.Bit a row) (p6:steps.length≤100) (p7:a+(steps.length+2)*((steps.length+1)*(s+9000))+s≤40000000):Lat.LowP row steps:=by
 refine ⟨n,a,s,p1,p4,by omega,p5,p3,?_⟩
 have e2:steps.length*(s+1)≤(steps.length+1)*(s+9000):=Nat.mul_le_mul (by omega) (by omega)
 rw [Nat.add_mul steps.length 2] at p7
 omega
theorem zmz (p1:n≤1000) (I:Lat.TI steps n a s i st) (T:Lat.Sd n s x.2) (h:decide (m_head_of st.2<m_head_of x.2)=true):zbJ st.2:=by
 rw [head_eq,head_eq] at h
 simp only [decide_eq_true_eq] at h
 have:=T.hd;have:=I.len
 exact ⟨by omega,by omega⟩
theorem zmJ (p1:n≤1000) (I:Lat.TI steps n a s i st) (h:decide (m_head_of st.2<((st.2.length:Nat):Int))=true):zbJ st.2:=by
 rw [head_eq] at h
 simp only [decide_eq_true_eq] at h
 have:=I.len
 exact ⟨by omega,by omega⟩
theorem zoN (h:decide (m_head_of st.2=m_head_of x.2)=true):Lat.hd st.2=Lat.hd x.2:=by
 rw [head_eq,head_eq] at h
 simp only [decide_eq_true_eq] at h
 omega
theorem zo7 (I:Lat.TI steps n a s i st) (hx:i<steps.length∧x.1=(i:Int)∧steps[i]?=some x.2) (p6:steps.length≤100):st.1.length<PySem.sizeLine:=Nat.lt_of_le_of_lt (show _≤1000 by have:=I.g;omega) (by decide)
theorem zoQ (I:Lat.TI steps n a s (zdI steps).length st) (p6:steps.length≤100):st.1.length<PySem.sizeLine:=Nat.lt_of_le_of_lt (show _≤1000 by have:=I.g;rw [zfK] at this;omega) (by decide)
theorem zng {y:List Int} (I:Lat.TI steps n a s i st) (hx:i<steps.length∧x.1=(i:Int)∧steps[i]?=some x.2) (p6:steps.length≤100):st.1.length+[y].length≤PySem.sizeLine:=by
 apply zai
 have:=I.g
 simp;omega
theorem zmV {lo hi:Option Int}:(cutD steps lo hi).length≤steps.length:=by
 unfold cutD;rw [List.length_take,List.length_drop];omega
theorem zmM {y:List Int} {lo hi:Option Int} (I:Lat.TI steps n a s i st) (hx:i<steps.length∧x.1=(i:Int)∧steps[i]?=some x.2) (p6:steps.length≤100):(st.1++[y]).length+(cutD steps lo hi).length≤PySem.sizeLine:=by
 apply zai
 have:=I.g
 have:=zmV (steps:=steps) (lo:=lo) (hi:=hi)
 simp;omega
end
def m_taken_in (P0:(List (List Int))) (P1:(List Int)):(List (List Int)) :=
 (Let (m_lowered P1 P0) (λ(v41:(List Int)) =>
 (zil (zbi (λ(s51:(List (List Int))×(List Int)) (x52:(Int×(List Int)))=>(((bif (decide ((m_head_of s51.2)<(m_head_of x52.2))) then (Sum.inr ((s51.1++[(m_upright s51.2)])++(cutD P0 (some x52.1) none)))
 else (Let (bif (decide ((m_head_of s51.2)=(m_head_of x52.2))) then (s51.1++[(m_merged x52.2 s51.2).1]) else (s51.1++[x52.2])) (λ(v58:(List (List Int))) =>
 (Let (bif (decide ((m_head_of s51.2)=(m_head_of x52.2))) then (m_lowered ((m_merged x52.2 s51.2).2) (cutD P0 (some (x52.1+(1:Int))) none)) else s51.2) (λ(v59:(List Int)) =>
 (Sum.inl (v58,v59)))))))):((List (List Int))×(List Int)) ⊕ (List (List Int)))) ([],v41) (zdI P0)) (λ(r60:(List (List Int))×(List Int)) =>
 (Let (bif (decide ((m_head_of r60.2)<((r60.2.length:Nat):Int))) then (r60.1++[(m_upright r60.2)]) else r60.1) (λ(v62:(List (List Int))) =>
 v62))) (λb=>b))))
def zcZ (P0:(List (List Int))) (P1:(List Int)):Prop:=Lat.TinP P0 P1
def zeA (K:W.Frag) (A:Adr):Sp:=Spv (ι:=(List (List Int))×(List Int)) (λx=>[dQ K (List.map lI x.1),dQ K (List.map dI x.2)]) (λx=>zcZ x.1 x.2) (λx=>.va false (dL (List.map lI (m_taken_in x.1 x.2))))
theorem zbK:FnScope ["steps","row","loose","grown","place","step","pair"] ["steps","row"] (defScope zcF):=⟨rfl,rfl,rfl,by decide +kernel,rfl,by decide +kernel,by decide +kernel⟩
theorem zii (F:Fun K "taken_in" "taken_in" zcF f fd) (T:Txt K mg A) (G_head_of:Callee P w K mg base (CXE P w) 1 "head_of" ["row"] (zb7 K A)) (G_lowered:Callee P w K mg base (CXE P w) 3 "lowered" ["row","steps"] (zcJ K A)) (G_merged:Callee P w K mg base (CXE P w) 3 "merged" ["step","row"] (zfI K A)) (G_upright:Callee P w K mg base (CXE P w) 2 "upright" ["row"] (ze5 K A)):FnOk P w K mg base (CXE P w) 4 f fd ["steps","row"] (zeA K A):=by
 refine F.okV zbK (λ_=>rfl) (λcdv Ar outer s H E x hr hp=>?_)
 obtain ⟨P0,P1⟩:=x
 have hu:=hr.units
 replace hp:zcZ P0 P1:=hp
 unfold zcZ at hp
 obtain ⟨N0,A0,S0,p1,p2,p3,p4,p5,p6,p7⟩:=hp
 refine ⟨_,(zac (zak (i:=2) zbK.nd rfl (Or.inl rfl) (pe_fn G_lowered (hr.mono (by decide)) rfl passE (pa_cons (pv 1) (pa_cons (pv 0) pa_nil))))
 (zac (zak (i:=3) zbK.nd rfl (Or.inl rfl) (za2 pa_nil))
 (zac (zcx PassesOwn.never rfl (zgB rfl rfl T.enumerate (pa_cons (pv 0) pa_nil)) (zaR (K:=K) (n:=2) rfl rfl (zas (pg_name (i:=4) zbK.nd rfl (Or.inl rfl) (Or.inl rfl)) (zas (pg_name (i:=5) zbK.nd rfl (Or.inl rfl) (Or.inl rfl)) zbe)))
 (zac (zbw (pt_cmpR zjm (pe_fn G_head_of (hr.mono (by decide)) rfl passE (pa_cons (pv 2) pa_nil)) (pe_fn G_head_of (hr.mono (by decide)) rfl passE (pa_cons (pv 5) pa_nil)) (nomark _))
 (zac (zav (zam zb4 (zam zb4 (pv 3) (za2 (pa_cons (pe_fn G_upright (hr.mono (by decide)) rfl passE (pa_cons (pv 2) pa_nil)) pa_nil))) (zbh (zaT (K:=K) rfl) (pv 0) (zbv (pv 4)) zcr)))
 zae)
 zae)
 (zac (zbw (pt_cmpR op_eq (pe_fn G_head_of (hr.mono (by decide)) rfl passE (pa_cons (pv 2) pa_nil)) (pe_fn G_head_of (hr.mono (by decide)) rfl passE (pa_cons (pv 5) pa_nil)) (nomark _))
 (zac (zak (i:=6) zbK.nd rfl (Or.inl rfl) (pe_fn G_merged (hr.mono (by decide)) rfl passE (pa_cons (pv 5) (pa_cons (pv 2) pa_nil))))
 (zac (zcu (zbL (K:=K) rfl (pv 3) (pa_cons (zbI (zef (K:=K) rfl) (pv 6) zaf (λ_ _=>rfl)) pa_nil)))
 (zac (zak (i:=2) zbK.nd rfl (Or.inl rfl) (pe_fn G_lowered (hr.mono (by decide)) rfl passE (pa_cons (zbI (zef (K:=K) rfl) (pv 6) zaf (λ_ _=>rfl)) (pa_cons (zbh (zaT (K:=K) rfl) (pv 0) (zbv (zam zbt (pv 4) zaf)) zcr) pa_nil))))
 zae)))
 (zac (zcu (zbL (K:=K) rfl (pv 3) (pa_cons (pv 5) pa_nil)))
 zae))
 zae)))
 (zac (zbw (pt_cmpR zjm (pe_fn G_head_of (hr.mono (by decide)) rfl passE (pa_cons (pv 2) pa_nil)) (pe_callB (call_len_K (K:=K) rfl) rfl T.len PySem.boot_len (pa_cons (pv 2) pa_nil)) (nomark _))
 (zac (zcu (zbL (K:=K) rfl (pv 3) (pa_cons (pe_fn G_upright (hr.mono (by decide)) rfl passE (pa_cons (pv 2) pa_nil)) pa_nil)))
 zae)
 zae)
 (zac (zav (pv 3))
 zae))))),.inl ?_⟩
 show L2.Run _ ([.va false (dQ K (List.map lI P0)),.va false (dQ K (List.map dI P1)),.no,.no,.no,.no,.no]:L2.Ctx) _ ((λ(r:(List (List Int)))=>Oc.rt false (dL (List.map lI r))) (m_taken_in P0 P1))
 unfold m_taken_in
 exact (zaj (m:=true) (x:=(m_lowered P1 P0)) lI (λ(r:(List (List Int)))=>Oc.rt false (dL (List.map lI r))) (zah (x:=(P1,P0)) (zab (zaa (i:=1) rfl) (zab (zaa (i:=0) rfl) zad)) rfl (by show za8 P1 P0;exact zoU p1 p2 p3 p4 p5 p6 p7) rfl) (λv41 hv41 =>
 have hL:=(hv41).trans (zb8 _ _);(run_setO (m:=true) (ds:=List.map lI []) (zdg (m:=true) zad)
 (zft (s0:=([],v41)) (λ(s51:(List (List Int))×(List Int))=>([.va false (dQ K (List.map lI P0)),.va false (dQ K (List.map dI P1)),.va true (dL (List.map dI s51.2)),.ow false (List.map lI s51.1),.no,.no,.no]:L2.Ctx)) (λ(r:(List (List Int)))=>Oc.rt false (dL (List.map lI r))) (λb=>b) (λ(s51:(List (List Int))×(List Int)) (x52:(Int×(List Int)))=>(((bif (decide ((m_head_of s51.2)<(m_head_of x52.2))) then (Sum.inr ((s51.1++[(m_upright s51.2)])++(cutD P0 (some x52.1) none)))
 else (Let (bif (decide ((m_head_of s51.2)=(m_head_of x52.2))) then (s51.1++[(m_merged x52.2 s51.2).1]) else (s51.1++[x52.2])) (λ(v58:(List (List Int))) =>
 (Let (bif (decide ((m_head_of s51.2)=(m_head_of x52.2))) then (m_lowered ((m_merged x52.2 s51.2).2) (cutD P0 (some (x52.1+(1:Int))) none)) else s51.2) (λ(v59:(List Int)) =>
 (Sum.inl (v58,v59)))))))):((List (List Int))×(List Int)) ⊕ (List (List Int)))) (λ(i:Nat) (s51:(List (List Int))×(List Int))=>Lat.TI P0 N0 A0 S0 i s51) (λb=>.inl ⟨_,_,rfl⟩) (zgv (m:=false) lI (xs:=P0) (zaa (i:=0) rfl)) (.eq (.eq (.eq (.oldL (.eq (.eq (.eq .nil))))))) (by rw [hL];exact Lat.TI.start p2 p3 p4 p5) (λi53 x52 s51 hx54 hI55=>have v54:=zcQ hx54;⟨(by intro z hz;simp only [head_eq,zgq,zfE,zb8] at hz;exact Lat.TI.step (by assumption) p2 p3 (by assumption) hz),
 (zaB (b:=(decide ((m_head_of s51.2)<(m_head_of x52.2)))) (zet (λ(s51:(List (List Int))×(List Int))=>([.va false (dQ K (List.map lI P0)),.va false (dQ K (List.map dI P1)),.va true (dL (List.map dI s51.2)),.ow false (List.map lI s51.1),.no,.no,.no]:L2.Ctx)) (λ(r:(List (List Int)))=>Oc.rt false (dL (List.map lI r)))) (zao (zaD (x:=(m_head_of s51.2)) (y:=(m_head_of x52.2)) (Ev.any (m:=true) (zah (x:=s51.2) (zab (Ev.old (Ev.weak (K:=K) (zaa (i:=2) rfl))) zad) rfl (by show zaN s51.2;exact trivial) rfl)) (Ev.any (m:=true) (zah (x:=x52.2) (zab (Ev.weak (K:=K) (zaa (i:=5) rfl)) zad) rfl (by show zaN x52.2;exact trivial) rfl)))) (λh56=>(zan (zcq (i:=3) rfl (zag (zap (EvO.ev (zbc (f:=lI) (xs:=(s51.1++[(m_upright s51.2)])) (ys:=(cutD P0 (some x52.1) none)) (EvO.ev (zbc (f:=lI) (xs:=s51.1) (ys:=[(m_upright s51.2)]) (zaa (i:=3) rfl) (EvO.ev (zbD (zab (zah (x:=s51.2) (zab (Ev.old (zaa (i:=2) rfl)) zad) rfl (by show zbJ s51.2;first | exact zmz p1 (by assumption) (p3 _ (Lat.TI.mem (by assumption)).1) (by assumption) | exact zmJ p1 (by assumption) (by assumption)) rfl) zad) (by show 1≤sizeLine;decide))) (by exact zng (by assumption) (by assumption) p6))) (EvO.ev (zbT (f:=lI) (xs:=P0) (zaa (i:=0) rfl) (zaX (Ev.any (m:=false) (zaa (i:=4) rfl))) zbF)) (by exact zmM (by assumption) (by assumption) p6)))))))) (λh56 =>
 (zal (zcD (b:=(decide ((m_head_of s51.2)=(m_head_of x52.2)))) (λbb=>([.va false (dQ K (List.map lI P0)),.va false (dQ K (List.map dI P1)),.va true (dL (List.map dI (bif bb then (m_lowered ((m_merged x52.2 s51.2).2) (cutD P0 (some (x52.1+(1:Int))) none)) else s51.2))),.ow false (List.map lI (bif bb then (s51.1++[(m_merged x52.2 s51.2).1]) else (s51.1++[x52.2]))),.va false (dI x52.1),.va false (dL (List.map dI x52.2)),.no]:L2.Ctx)) (zao (zds (x:=(m_head_of s51.2)) (y:=(m_head_of x52.2)) (Ev.any (m:=true) (zah (x:=s51.2) (zab (Ev.old (Ev.weak (K:=K) (zaa (i:=2) rfl))) zad) rfl (by show zaN s51.2;exact trivial) rfl)) (Ev.any (m:=true) (zah (x:=x52.2) (zab (Ev.weak (K:=K) (zaa (i:=5) rfl)) zad) rfl (by show zaN x52.2;exact trivial) rfl)))) (λh57=>(zbd (m:=true) (zah (x:=(x52.2,s51.2)) (zab (Ev.weak (K:=K) (zaa (i:=5) rfl)) (zab (Ev.old (Ev.weak (K:=K) (zaa (i:=2) rfl))) zad)) rfl (by show zd3 x52.2 s51.2;exact Lat.TI.mrg (by assumption) p1 p3 (by assumption) (zoN (by assumption)) p7) rfl)
 (zb5 (f:=lI) (xs:=s51.1) (x:=(m_merged x52.2 s51.2).1) rfl (Ev.old (zgo (zaa (i:=6) rfl) zaw rfl)) (by exact zo7 (by assumption) (by assumption) p6)
 (zbd (m:=true) (zah (x:=((m_merged x52.2 s51.2).2,(cutD P0 (some (x52.1+(1:Int))) none))) (zab (Ev.old (Ev.weak (K:=K) (zgo (zaa (i:=6) rfl) zaw rfl))) (zab (Ev.weak (K:=K) (EvO.ev (zbT (f:=lI) (xs:=P0) (zaa (i:=0) rfl) (zaX (zaD (x:=x52.1) (y:=(1:Int)) (Ev.any (m:=false) (zaa (i:=4) rfl)) zaw)) zbF))) zad)) rfl (by show za8 ((m_merged x52.2 s51.2).2) (cutD P0 (some (x52.1+(1:Int))) none);unfold za8;rw [zfE];exact Lat.TI.low (by assumption) p1 p6 p3 (by assumption) (zoN (by assumption)) p7) rfl)
 (zar (.eq (.eq (.eq (.eq (.eq (.eq (.no .nil)))))))))))) (λh57=>(zb5 (f:=lI) (xs:=s51.1) (x:=x52.2) rfl (zaa (i:=5) rfl) (by exact zo7 (by assumption) (by assumption) p6)
 (zar (.eq (.eq (.eq (.eq (.eq (.eq (.eq .nil))))))))))
 (zce (x:=(bif (decide ((m_head_of s51.2)=(m_head_of x52.2))) then (s51.1++[(m_merged x52.2 s51.2).1]) else (s51.1++[x52.2]))) (λv58=>([.va false (dQ K (List.map lI P0)),.va false (dQ K (List.map dI P1)),.va true (dL (List.map dI (bif (decide ((m_head_of s51.2)=(m_head_of x52.2))) then (m_lowered ((m_merged x52.2 s51.2).2) (cutD P0 (some (x52.1+(1:Int))) none)) else s51.2))),.ow false (List.map lI v58),.va false (dI x52.1),.va false (dL (List.map dI x52.2)),.no]:L2.Ctx)) (zet (λ(s51:(List (List Int))×(List Int))=>([.va false (dQ K (List.map lI P0)),.va false (dQ K (List.map dI P1)),.va true (dL (List.map dI s51.2)),.ow false (List.map lI s51.1),.no,.no,.no]:L2.Ctx)) (λ(r:(List (List Int)))=>Oc.rt false (dL (List.map lI r)))) (λv58 hv58 =>
 (zce (x:=(bif (decide ((m_head_of s51.2)=(m_head_of x52.2))) then (m_lowered ((m_merged x52.2 s51.2).2) (cutD P0 (some (x52.1+(1:Int))) none)) else s51.2)) (λv59=>([.va false (dQ K (List.map lI P0)),.va false (dQ K (List.map dI P1)),.va true (dL (List.map dI v59)),.ow false (List.map lI v58),.va false (dI x52.1),.va false (dL (List.map dI x52.2)),.no]:L2.Ctx)) (zet (λ(s51:(List (List Int))×(List Int))=>([.va false (dQ K (List.map lI P0)),.va false (dQ K (List.map dI P1)),.va true (dL (List.map dI s51.2)),.ow false (List.map lI s51.1),.no,.no,.no]:L2.Ctx)) (λ(r:(List (List Int)))=>Oc.rt false (dL (List.map lI r)))) (λv59 hv59 =>
 (zar (.eq (.eq (.eq (.eq (.no (.no (.eq .nil))))))))))))))))⟩) (λr60 hr60 hI =>
 (zcD (b:=(decide ((m_head_of r60.2)<((r60.2.length:Nat):Int)))) (λbb=>([.va false (dQ K (List.map lI P0)),.va false (dQ K (List.map dI P1)),.va true (dL (List.map dI r60.2)),.ow false (List.map lI (bif bb then (r60.1++[(m_upright r60.2)]) else r60.1)),.no,.no,.no]:L2.Ctx)) (zao (zaD (x:=(m_head_of r60.2)) (y:=((r60.2.length:Nat):Int)) (Ev.any (m:=true) (zah (x:=r60.2) (zab (Ev.old (Ev.weak (K:=K) (zaa (i:=2) rfl))) zad) rfl (by show zaN r60.2;exact trivial) rfl)) (zaG (f:=dI) (xs:=r60.2) (Ev.old (Ev.weak (K:=K) (zaa (i:=2) rfl)))))) (λh61=>(zb5 (f:=lI) (xs:=r60.1) (x:=(m_upright r60.2)) rfl (zah (x:=r60.2) (zab (Ev.old (zaa (i:=2) rfl)) zad) rfl (by show zbJ r60.2;first | exact zmz p1 (by assumption) (p3 _ (Lat.TI.mem (by assumption)).1) (by assumption) | exact zmJ p1 (by assumption) (by assumption)) rfl) (by exact zoQ (by assumption) p6)
 (zar (.eq (.eq (.eq (.eq (.eq (.eq (.eq .nil)))))))))) (λh61=>(zar (.eq (.eq (.eq (.eq (.eq (.eq (.eq .nil)))))))))
 (zce (x:=(bif (decide ((m_head_of r60.2)<((r60.2.length:Nat):Int))) then (r60.1++[(m_upright r60.2)]) else r60.1)) (λv62=>([.va false (dQ K (List.map lI P0)),.va false (dQ K (List.map dI P1)),.va true (dL (List.map dI r60.2)),.ow false (List.map lI v62),.no,.no,.no]:L2.Ctx)) (λ(r:(List (List Int)))=>Oc.rt false (dL (List.map lI r))) (λv62 hv62 =>
 (zcq (i:=3) rfl (zag (zap (zaa (i:=3) rfl))))))))))))
theorem zgP (ss:List (List Int)) (l:List Int):m_taken_in ss l=Lat.tin Lat.MG ss (Lat.low l ss):=by
 unfold m_taken_in
 simp only [head_eq,zgq,zfE,zb8]
 exact Lat.zqy ss _
theorem znA (x:List Int) (fl:List (List Int)):Let ([(m_lowered x fl)]++fl) (λ(y:List (List Int))=>y)=[Lat.low x fl]++fl:=by unfold Let;rw [zb8]
theorem zox {steps fl:List (List Int)} {i:Nat} {x y:List Int} (h:Lat.zol steps) (hx:steps.reverse[i]?=some x) (e:fl=Lat.stl (steps.drop (steps.length-i))):[y].length+fl.length≤PySem.sizeLine:=by
 obtain ⟨j,h1,_⟩:=Lat.zhQ hx
 have:=Lat.zoE h (by omega) e
 apply zai
 simp;omega
def m_settled (P0:(List (List Int))):(List (List Int)) :=
 (Let (List.foldl (λ(s63:(List (List Int))) (x64:(List Int))=>(Let ([(m_lowered x64 s63)]++s63) (λ(v68:(List (List Int))) =>
 v68))) [] (List.reverse P0)) (λ(r69:(List (List Int))) =>
 r69))
def zcW (P0:(List (List Int))):Prop:=Lat.zol P0
def zfg (K:W.Frag) (A:Adr):Sp:=Spv (ι:=(List (List Int))) (λx=>[dQ K (List.map lI x)]) (λx=>zcW x) (λx=>.va true (dL (List.map lI (m_settled x))))
theorem zd4:FnScope ["steps","flat","step"] ["steps"] (defScope zdm):=⟨rfl,rfl,rfl,by decide +kernel,rfl,by decide +kernel,by decide +kernel⟩
theorem zjc (F:Fun K "settled" "settled" zdm f fd) (T:Txt K mg A) (G_lowered:Callee P w K mg base (CXE P w) 3 "lowered" ["row","steps"] (zcJ K A)):FnOk P w K mg base (CXE P w) 4 f fd ["steps"] (zfg K A):=by
 refine F.okV zd4 (λ_=>rfl) (λcdv Ar outer s H E P0 hr hp=>?_)
 have hu:=hr.units
 replace hp:zcW P0:=hp
 unfold zcW at hp
 refine ⟨_,(zac (zak (i:=1) zd4.nd rfl (Or.inl rfl) (za2 pa_nil))
 (zac (zcx PassesOwn.never rfl (zov rfl rfl T.reversed (pa_cons (pv 0) pa_nil)) (pg_name (i:=2) zd4.nd rfl (Or.inl rfl) (Or.inl rfl))
 (zac (zak (i:=1) zd4.nd rfl (Or.inl rfl) (zam zb4 (za2 (pa_cons (pe_fn G_lowered (hr.mono (by decide)) rfl passE (pa_cons (pv 2) (pa_cons (pv 1) pa_nil))) pa_nil)) (pv 1)))
 zae))
 (zac (zav (pv 1))
 zae))),.inl ?_⟩
 show L2.Run _ ([.va false (dQ K (List.map lI P0)),.no,.no]:L2.Ctx) _ ((λ(r:(List (List Int)))=>Oc.rt true (dL (List.map lI r))) (m_settled P0))
 unfold m_settled
 exact (zbd (m:=true) (EvO.ev (zdg (m:=true) zad))
 (zbS (s0:=[]) (λ(s63:(List (List Int)))=>([.va false (dQ K (List.map lI P0)),.va true (dL (List.map lI s63)),.no]:L2.Ctx)) (λ(r:(List (List Int)))=>Oc.rt true (dL (List.map lI r))) (λ(s63:(List (List Int))) (x64:(List Int))=>(Let ([(m_lowered x64 s63)]++s63) (λ(v68:(List (List Int))) =>
 v68))) (λ(i:Nat) (s63:(List (List Int)))=>s63=Lat.stl (P0.drop (P0.length-i))) (zoi (m:=false) lI (xs:=P0) (zaa (i:=0) rfl)) (.eq (.eq (.eq .nil))) (by simp [Lat.stl]) (λi65 x64 s63 hx66 hI67=>have v66:=List.mem_of_getElem? hx66;⟨(by exact Lat.zmW (by assumption) (by assumption) (znA _ _)),
 (zaj (m:=true) (x:=([(m_lowered x64 s63)]++s63)) (λ(xs:(List (List Int)))=>dL (List.map lI xs)) (λz=>Oc.nx ((λ(s63:(List (List Int)))=>([.va false (dQ K (List.map lI P0)),.va true (dL (List.map lI s63)),.no]:L2.Ctx)) z)) (EvO.ev (zbc (f:=lI) (xs:=[(m_lowered x64 s63)]) (ys:=s63) (EvO.ev (zbD (zab (zah (x:=(x64,s63)) (zab (Ev.weak (K:=K) (zaa (i:=2) rfl)) (zab (Ev.old (Ev.weak (K:=K) (zaa (i:=1) rfl))) zad)) rfl (by show za8 x64 s63;exact Lat.znX hp (by assumption) (by assumption)) rfl) zad) (by show 1≤sizeLine;decide))) (zaa (i:=1) rfl) (by exact zox hp (by assumption) (by assumption)))) (λv68 hv68 =>
 (zar (.eq (.eq (.no .nil))))))⟩) (λr69 hr69 hI =>
 (zag (zap (zaa (i:=1) rfl))))))
theorem zge (ss:List (List Int)):m_settled ss=Lat.stl ss:=by
 unfold m_settled
 simp only [zb8]
 exact Lat.zqn ss
theorem zmY {rows ss:List (List Int)} {r:List Int} {i:Nat} (hr:rows[i]?=some r) (e:ss=Lat.clm Lat.MG (rows.take i)):Let (m_settled (m_taken_in ss r)) (λ(y:List (List Int))=>y)=Lat.clm Lat.MG (rows.take (i+1)):=by
 unfold Let
 rw [zge,zgP,Lat.zgL hr,e]
def m_climbed (P0:(List (List Int))):(List (List Int)) :=
 (Let (List.foldl (λ(s70:(List (List Int))) (x71:(List Int))=>(Let (m_settled (m_taken_in s70 x71)) (λ(v75:(List (List Int))) =>
 v75))) [] P0) (λ(r76:(List (List Int))) =>
 r76))
def zdE (P0:(List (List Int))):Prop:=Lat.zqk P0
def zfb (K:W.Frag) (A:Adr):Sp:=Spv (ι:=(List (List Int))) (λx=>[dQ K (List.map lI x)]) (λx=>zdE x) (λx=>.va true (dL (List.map lI (m_climbed x))))
theorem zd8:FnScope ["rows","steps","row"] ["rows"] (defScope zdk):=⟨rfl,rfl,rfl,by decide +kernel,rfl,by decide +kernel,by decide +kernel⟩
theorem zjr (F:Fun K "climbed" "climbed" zdk f fd) (T:Txt K mg A) (G_settled:Callee P w K mg base (CXE P w) 4 "settled" ["steps"] (zfg K A)) (G_taken_in:Callee P w K mg base (CXE P w) 4 "taken_in" ["steps","row"] (zeA K A)):FnOk P w K mg base (CXE P w) 5 f fd ["rows"] (zfb K A):=by
 refine F.okV zd8 (λ_=>rfl) (λcdv Ar outer s H E P0 hr hp=>?_)
 have hu:=hr.units
 replace hp:zdE P0:=hp
 unfold zdE at hp
 obtain ⟨N0,B0,R0,p1,p2,p3⟩:=hp
 refine ⟨_,(zac (zak (i:=1) zd8.nd rfl (Or.inl rfl) (za2 pa_nil))
 (zac (zcx PassesOwn.never rfl (pi_list_K (K:=K) rfl (pv 0)) (pg_name (i:=2) zd8.nd rfl (Or.inl rfl) (Or.inl rfl))
 (zac (zak (i:=1) zd8.nd rfl (Or.inl rfl) (pe_fn G_settled (hr.mono (by decide)) rfl passE (pa_cons (pe_fn G_taken_in (hr.mono (by decide)) rfl passE (pa_cons (pv 1) (pa_cons (pv 2) pa_nil))) pa_nil)))
 zae))
 (zac (zav (pv 1))
 zae))),.inl ?_⟩
 show L2.Run _ ([.va false (dQ K (List.map lI P0)),.no,.no]:L2.Ctx) _ ((λ(r:(List (List Int)))=>Oc.rt true (dL (List.map lI r))) (m_climbed P0))
 unfold m_climbed
 exact (zbd (m:=true) (EvO.ev (zdg (m:=true) zad))
 (zbS (s0:=[]) (λ(s70:(List (List Int)))=>([.va false (dQ K (List.map lI P0)),.va true (dL (List.map lI s70)),.no]:L2.Ctx)) (λ(r:(List (List Int)))=>Oc.rt true (dL (List.map lI r))) (λ(s70:(List (List Int))) (x71:(List Int))=>(Let (m_settled (m_taken_in s70 x71)) (λ(v75:(List (List Int))) =>
 v75))) (λ(i:Nat) (s70:(List (List Int)))=>s70=Lat.clm Lat.MG (P0.take i)) (zbX (m:=false) lI (xs:=P0) (zaa (i:=0) rfl)) (.eq (.eq (.eq .nil))) (by rfl) (λi72 x71 s70 hx73 hI74=>have v73:=List.mem_of_getElem? hx73;⟨(by exact zmY (by assumption) (by assumption)),
 (zaj (m:=true) (x:=(m_settled (m_taken_in s70 x71))) (λ(xs:(List (List Int)))=>dL (List.map lI xs)) (λz=>Oc.nx ((λ(s70:(List (List Int)))=>([.va false (dQ K (List.map lI P0)),.va true (dL (List.map lI s70)),.no]:L2.Ctx)) z)) (zah (x:=(m_taken_in s70 x71)) (zab (Ev.weak (K:=K) (zah (x:=(s70,x71)) (zab (Ev.old (Ev.weak (K:=K) (zaa (i:=1) rfl))) (zab (Ev.weak (K:=K) (zaa (i:=2) rfl)) zad)) rfl (by show zcZ s70 x71;exact (Lat.zjx p1 p2 p3 (by assumption) (by assumption)).2.1) rfl)) zad) rfl (by show zcW (m_taken_in s70 x71);unfold zcW;rw [zgP];exact (Lat.zjx p1 p2 p3 (by assumption) (by assumption)).2.2) rfl) (λv75 hv75 =>
 (zar (.eq (.eq (.no .nil))))))⟩) (λr76 hr76 hI =>
 (zag (zap (zaa (i:=1) rfl))))))
theorem zi4 (rows:List (List Int)):m_climbed rows=Lat.clm Lat.MG rows:=by
 unfold m_climbed Lat.clm
 simp only [zge,zgP]
 rfl
def TrP (rows:List (List Int)):Prop:=∃ n b R,Lat.Fit (n+rows.length) b R∧rows.length≤R∧∀ r∈rows,r.length=n∧Lat.Bit b r
theorem zps {s:List (List Int)} {i:Nat} {y:List Int} (h:s.length≤i):(s++[y]).length≤i+1:=by simp;omega
theorem zpI {rows:List (List Int)} {i:Nat} {p:Int×List Int} {c:List Int} (q:i<rows.length∧p.1=(i:Int)∧rows[i]?=some p.2) (e:c=zcY ((rows.length:Nat):Int) [(0:Int)]):InB c.length p.1:=by
 rw [e,Lat.zcM];unfold InB;omega
theorem zpL {n b R i:Nat} {rows:List (List Int)} {p:Int×List Int} {c c0:List Int} {y:Int} (p1:Lat.Fit (n+rows.length) b R) (p2:rows.length≤R) (p3:∀ r∈rows,r.length=n∧Lat.Bit b r) (q:i<rows.length∧p.1=(i:Int)∧rows[i]?=some p.2) (e0:c0=zcY ((rows.length:Nat):Int) [(0:Int)]) (e:c=setZ c0 p.1 y):p.2.length+c.length≤PySem.sizeLine:=by
 have h1:=(p3 _ (List.mem_of_getElem? q.2.2)).1
 have h2:=p1.1
 rw [e,zd5,e0,Lat.zcM,h1]
 exact zai (by omega)
theorem zp9 {n b R i:Nat} {rows s:List (List Int)} {p:Int×List Int} (p1:Lat.Fit (n+rows.length) b R) (p2:rows.length≤R) (h:s.length≤i) (q:i<rows.length∧p.1=(i:Int)∧rows[i]?=some p.2):s.length<PySem.sizeLine:=Nat.lt_of_le_of_lt (show _≤1000 by have:=p1.2.1;omega) (by decide)
theorem zog {rows:List (List Int)}:List.foldl (λ(s:List (List Int)) (x:Int×List Int)=>Let (setZ (zcY ((rows.length:Nat):Int) [(0:Int)]) x.1 (1:Int)) (λ(c:List Int)=>s++[x.2++c])) [] (zdI rows)=Lat.mark rows:=by
 show List.foldl (λ(s:List (List Int)) (x:Int×List Int)=>s++[x.2++Lat.zgr rows.length x.1]) [] (zdI rows)=_
 rw [Lat.zgN]
 rfl
theorem zoq {n b R:Nat} {rows ms:List (List Int)} (p1:Lat.Fit (n+rows.length) b R) (p2:rows.length≤R) (p3:∀ r∈rows,r.length=n∧Lat.Bit b r) (e:ms=List.foldl (λ(s:List (List Int)) (x:Int×List Int)=>Let (setZ (zcY ((rows.length:Nat):Int) [(0:Int)]) x.1 (1:Int)) (λ(c:List Int)=>s++[x.2++c])) [] (zdI rows)):Lat.zqk ms:=by
 rw [e,zog]
 exact ⟨_,b,R,p1,by rw [Lat.zeH];exact p2,Lat.zgu p3⟩
def m_marked (P0:(List (List Int))):(List (List Int)) :=
 (Let (List.foldl (λ(s77:(List (List Int))) (x78:(Int×(List Int)))=>(Let (zcY ((P0.length:Nat):Int) [(0:Int)]) (λ(v82:(List Int)) =>
 (Let (setZ v82 x78.1 (1:Int)) (λ(v83:(List Int)) =>
 (s77++[(x78.2++v83)])))))) [] (zdI P0)) (λ(r84:(List (List Int))) =>
 r84))
def zeh (P0:(List (List Int))):Prop:=TrP P0
def zfU (K:W.Frag) (A:Adr):Sp:=Spv (ι:=(List (List Int))) (λx=>[dQ K (List.map lI x)]) (λx=>zeh x) (λx=>.va true (dL (List.map lI (m_marked x))))
theorem zd1:FnScope ["rows","longer","place","row","counts"] ["rows"] (defScope zec):=⟨rfl,rfl,rfl,by decide +kernel,rfl,by decide +kernel,by decide +kernel⟩
theorem zkT (F:Fun K "marked" "marked" zec f fd) (T:Txt K mg A) :FnOk P w K mg base (CXE P w) 1 f fd ["rows"] (zfU K A):=by
 refine F.okV zd1 (λ_=>rfl) (λcdv Ar outer s H E P0 hr hp=>?_)
 have hu:=hr.units
 replace hp:zeh P0:=hp
 unfold zeh at hp
 obtain ⟨N0,B0,R0,p1,p2,p3⟩:=hp
 refine ⟨_,(zac (zak (i:=1) zd1.nd rfl (Or.inl rfl) (za2 pa_nil))
 (zac (zcx PassesOwn.never rfl (zgB rfl rfl T.enumerate (pa_cons (pv 0) pa_nil)) (zaR (K:=K) (n:=2) rfl rfl (zas (pg_name (i:=2) zd1.nd rfl (Or.inl rfl) (Or.inl rfl)) (zas (pg_name (i:=3) zd1.nd rfl (Or.inl rfl) (Or.inl rfl)) zbe)))
 (zac (zak (i:=4) zd1.nd rfl (Or.inl rfl) (zam zkF (za2 (pa_cons zaf pa_nil)) (pe_callB (call_len_K (K:=K) rfl) rfl T.len PySem.boot_len (pa_cons (pv 0) pa_nil))))
 (zac (zep zaf (zhu (pv 4) (pv 2) set_list))
 (zac (zcu (zbL (K:=K) rfl (pv 1) (pa_cons (zam zb4 (pv 3) (pv 4)) pa_nil)))
 zae))))
 (zac (zav (pv 1))
 zae))),.inl ?_⟩
 show L2.Run _ ([.va false (dQ K (List.map lI P0)),.no,.no,.no,.no]:L2.Ctx) _ ((λ(r:(List (List Int)))=>Oc.rt true (dL (List.map lI r))) (m_marked P0))
 unfold m_marked
 exact (run_setO (m:=true) (ds:=List.map lI []) (zdg (m:=true) zad)
 (zbS (s0:=[]) (λ(s77:(List (List Int)))=>([.va false (dQ K (List.map lI P0)),.ow true (List.map lI s77),.no,.no,.no]:L2.Ctx)) (λ(r:(List (List Int)))=>Oc.rt true (dL (List.map lI r))) (λ(s77:(List (List Int))) (x78:(Int×(List Int)))=>(Let (zcY ((P0.length:Nat):Int) [(0:Int)]) (λ(v82:(List Int)) =>
 (Let (setZ v82 x78.1 (1:Int)) (λ(v83:(List Int)) =>
 (s77++[(x78.2++v83)])))))) (λ(i:Nat) (s77:(List (List Int)))=>s77.length≤i) (zgv (m:=false) lI (xs:=P0) (zaa (i:=0) rfl)) (.eq (.eq (.eq (.eq (.eq .nil))))) (by exact Nat.le_refl 0) (λi79 x78 s77 hx80 hI81=>have v80:=zcQ hx80;⟨(by exact zps (by assumption)),
 (run_letO (m:=true) (x:=(zcY ((P0.length:Nat):Int) [(0:Int)])) (λz=>List.map dI z) (λz=>Oc.nx ((λ(s77:(List (List Int)))=>([.va false (dQ K (List.map lI P0)),.ow true (List.map lI s77),.no,.no,.no]:L2.Ctx)) z)) (zhH (f:=dI) (xs:=[(0:Int)]) (n:=((P0.length:Nat):Int)) (EvO.ev (zbD (zab zaw zad) (by show 1≤sizeLine;decide))) (zaG (f:=lI) (xs:=P0) (zaa (i:=0) rfl)) (by have z:=p1.2.1;constructor<;>omega) (by show 1*_≤PySem.sizeLine;apply zai;have z:=p1.2.1;omega)) (λv82 hv82 =>
 (zjl (f:=dI) (xs:=v82) (x:=(1:Int)) (j:=x78.1) (λz=>Oc.nx ((λ(s77:(List (List Int)))=>([.va false (dQ K (List.map lI P0)),.ow true (List.map lI s77),.no,.no,.no]:L2.Ctx)) z)) rfl zaw (Ev.any (m:=false) (zaa (i:=2) rfl)) (by exact zpI (by assumption) (by assumption)) (λv83 hv83 =>
 (zcq (i:=4) rfl (zb5 (f:=lI) (xs:=s77) (x:=(x78.2++v83)) rfl (EvO.ev (EvO.anyI (m:=false) (zbc (f:=dI) (xs:=x78.2) (ys:=v83) (zaa (i:=3) rfl) (Ev.old (zaa (i:=4) rfl)) (by exact zpL p1 p2 p3 (by assumption) (by assumption) (by assumption))))) (by exact zp9 p1 p2 (by assumption) (by assumption))
 (zar (.eq (.eq (.no (.no (.no .nil))))))))))))⟩) (λr84 hr84 hI =>
 (zcq (i:=1) rfl (zag (zap (zaa (i:=1) rfl)))))))
def m_traced (P0:(List (List Int))):(List (List Int)) :=
 (m_climbed (m_marked P0))
def zdw (P0:(List (List Int))):Prop:=TrP P0
def zeG (K:W.Frag) (A:Adr):Sp:=Spv (ι:=(List (List Int))) (λx=>[dQ K (List.map lI x)]) (λx=>zdw x) (λx=>.va true (dL (List.map lI (m_traced x))))
theorem zkR:FnScope ["rows"] ["rows"] (defScope zeb):=⟨rfl,rfl,rfl,by decide +kernel,rfl,by decide +kernel,by decide +kernel⟩
theorem zjS (F:Fun K "traced" "traced" zeb f fd) (T:Txt K mg A) (G_climbed:Callee P w K mg base (CXE P w) 5 "climbed" ["rows"] (zfb K A)) (G_marked:Callee P w K mg base (CXE P w) 1 "marked" ["rows"] (zfU K A)):FnOk P w K mg base (CXE P w) 6 f fd ["rows"] (zeG K A):=by
 refine F.okV zkR (λ_=>rfl) (λcdv Ar outer s H E P0 hr hp=>?_)
 have hu:=hr.units
 replace hp:zdw P0:=hp
 unfold zdw at hp
 obtain ⟨N0,B0,R0,p1,p2,p3⟩:=hp
 refine ⟨_,(zac (zav (pe_fn G_climbed (hr.mono (by decide)) rfl passE (pa_cons (pe_fn G_marked (hr.mono (by decide)) rfl passE (pa_cons (pv 0) pa_nil)) pa_nil)))
 zae),.inl ?_⟩
 show L2.Run _ ([.va false (dQ K (List.map lI P0))]:L2.Ctx) _ ((λ(r:(List (List Int)))=>Oc.rt true (dL (List.map lI r))) (m_traced P0))
 unfold m_traced
 exact (zag (zap (zah (x:=(m_marked P0)) (zab (Ev.old (Ev.weak (K:=K) (zah (x:=P0) (zab (zaa (i:=0) rfl) zad) rfl (by show zeh P0;exact ⟨N0,B0,R0,p1,p2,p3⟩) rfl))) zad) rfl (by show zdE (m_marked P0);exact zoq p1 p2 p3 rfl) rfl)))
theorem zdV (rows:List (List Int)):m_traced rows=Lat.clm Lat.MG (Lat.mark rows):=by
 unfold m_traced
 rw [zi4]
 exact congrArg _ zog
theorem znP {rows:List (List Int)} (h:TrP rows):(m_traced rows).length≤31:=by
 obtain ⟨n,b,R,p1,p2,p3⟩:=h
 rw [zdV]
 have:=(Lat.zha p1 (rows:=Lat.mark rows) (by rw [Lat.zeH];exact p2) (Lat.zgu p3)).2.1
 have:=p1.2.1
 omega
def zp2 (ss:List (List Int)) (x:List Int) (m:Int):Prop:=0≤m∧m≤24∧x.length≤24∧Lat.LowP (m_times x (-(1:Int))++zcY m [(0:Int)]) ss
theorem znI {ss:List (List Int)} {x:List Int} {m:Int} (h:zp2 ss x m):(m_times x (-(1:Int))).length+(zcY m [(0:Int)]).length≤PySem.sizeLine:=by
 obtain ⟨h1,h2,h3,h4⟩:=h
 obtain ⟨k,rfl⟩:∃ k:Nat,m=(k:Int):=⟨m.toNat,by omega⟩
 exact zai (by rw [Lat.zcM,show (m_times x (-(1:Int))).length=x.length from Lat.zaM];omega)
def m_tails (P0:(List (List Int))) (P1:Int):(List (List Int)) :=
 (List.map (λ(x85:(List Int))=>(cutD x85 (some P1) none)) (List.filter (λ(x85:(List Int))=>(decide (P1≤(m_head_of x85)))) P0))
def zeT (P0:(List (List Int))) (P1:Int):Prop:=P0.length≤1000
def zgO (K:W.Frag) (A:Adr):Sp:=Spv (ι:=(List (List Int))×Int) (λx=>[dQ K (List.map lI x.1),dI x.2]) (λx=>zeT x.1 x.2) (λx=>.va true (dL (List.map lI (m_tails x.1 x.2))))
theorem zlP:FnScope ["steps","many"] ["steps","many"] (defScope zew):=⟨rfl,rfl,rfl,by decide +kernel,rfl,by decide +kernel,by decide +kernel⟩
theorem zlT (F:Fun K "tails" "tails" zew f fd) (T:Txt K mg A) (G_head_of:Callee P w K mg base (CXE P w) 1 "head_of" ["row"] (zb7 K A)):FnOk P w K mg base (CXE P w) 2 f fd ["steps","many"] (zgO K A):=by
 refine F.okV zlP (λ_=>rfl) (λcdv Ar outer s H E x hr hp=>?_)
 obtain ⟨P0,P1⟩:=x
 have hu:=hr.units
 replace hp:zeT P0 P1:=hp
 unfold zeT at hp
 refine ⟨_,(zac (zav (pe_comp rfl (.of (osc:=(defScope zew)) (N:=["steps","many"]) (own:=["step"]) (fvn:=["many"]) (fv:=[1]) rfl rfl (by decide +kernel)) (pi_list_K (K:=K) rfl (pv 0)) (λ_ _ _ _ _=>⟨(pg_name (i:=0) (show (["step","many"]:List Str).Nodup by decide +kernel) rfl (Or.inl rfl) (Or.inr rfl)),(zjL (pt_cmpR zpM (pe_fn G_head_of (hr.mono (by decide)) rfl passE (pa_cons (pv 0) pa_nil)) (pv 1) (nomark _))),(zbh (zaT (K:=K) rfl) (pv 0) (zbv (pv 1)) zcr)⟩)))
 zae),.inl ?_⟩
 show L2.Run _ ([.va false (dQ K (List.map lI P0)),.va false (dI P1)]:L2.Ctx) _ ((λ(r:(List (List Int)))=>Oc.rt true (dL (List.map lI r))) (m_tails P0 P1))
 unfold m_tails
 exact (zag (zap (EvO.ev (EvO.conv (zhJ (c:=λ(x85:(List Int))=>(decide (P1≤(m_head_of x85)))) (g:=(λ(x85:(List Int))=>dL (List.map dI (cutD x85 (some P1) none)))) (zbX (m:=false) lI (xs:=P0) (zaa (i:=0) rfl)) (by exact zai (by omega)) ⟨by decide,by decide⟩ (λi86 x85 hx87=>have v87:=List.mem_of_getElem? hx87;(zao (zaD (x:=(m_head_of x85)) (y:=P1) (Ev.any (m:=true) (zah (x:=x85) (zab (Ev.weak (K:=K) (zaa (i:=0) rfl)) zad) rfl (by show zaN x85;exact trivial) rfl)) (Ev.any (m:=false) (zaa (i:=1) rfl))))) (λi86 x85 hx87 hc=>have v87:=List.mem_of_getElem? hx87;(EvO.ev (EvO.anyI (m:=false) (zbT (f:=dI) (xs:=x85) (Ev.weak (K:=K) (zaa (i:=0) rfl)) (zaX (Ev.any (m:=false) (zaa (i:=1) rfl))) zbF))))) (by first | (rw [List.map_map];rfl) | (simp only [cond_true,cond_false];rw [List.map_map];rfl))))))
theorem zlH {l:List Int} {n:Nat}:cutD l none (some (n:Int))=l.take n:=by
 unfold cutD
 rw [HT.sIx_nat,HT.sIx_none]
 show (l.drop 0).take (min n l.length-0)=_
 rw [List.drop_zero,Nat.sub_zero]
 by_cases h:n≤l.length
 ·rw [Nat.min_eq_left h]
 ·rw [Nat.min_eq_right (by omega),List.take_of_length_le (by omega),List.take_of_length_le (by omega)]
theorem zlX {ss:List (List Int)} {n:Nat}:m_tails ss (n:Int)=Lat.tailS n ss:=by
 unfold m_tails Lat.tailS
 simp only [head_eq,Lat.zdz]
 have e:(λ(x:List Int)=>decide ((n:Int)≤(Lat.hd x:Int)))=λ(x:List Int)=>decide (n≤Lat.hd x):=funext λx=>by simp
 rw [e]
def m_counted (P0:(List (List Int))) (P1:(List Int)) (P2:Int):(Option (List Int)) :=
 (Let (m_lowered ((m_times P1 (-(1:Int)))++(zcY P2 [(0:Int)])) P0) (λ(v88:(List Int)) =>
 (bif ((cutD v88 none (some ((P1.length:Nat):Int))).any (· != 0)) then none
 else (some (cutD v88 (some ((P1.length:Nat):Int)) none)))))
def zdy (P0:(List (List Int))) (P1:(List Int)) (P2:Int):Prop:=zp2 P0 P1 P2
def zeX (K:W.Frag) (A:Adr):Sp:=Spv (ι:=(List (List Int))×(List Int)×Int) (λx=>[dQ K (List.map lI x.1),dQ K (List.map dI x.2.1),dI x.2.2]) (λx=>zdy x.1 x.2.1 x.2.2) (λx=>.va true (dOpt lI (m_counted x.1 x.2.1 x.2.2)))
theorem zgf:FnScope ["steps","basket","many","left"] ["steps","basket","many"] (defScope zdi):=⟨rfl,rfl,rfl,by decide +kernel,rfl,by decide +kernel,by decide +kernel⟩
theorem zje (F:Fun K "counted" "counted" zdi f fd) (T:Txt K mg A) (G_lowered:Callee P w K mg base (CXE P w) 3 "lowered" ["row","steps"] (zcJ K A)) (G_times:Callee P w K mg base (CXE P w) 1 "times" ["some","many"] (zek K A)):FnOk P w K mg base (CXE P w) 4 f fd ["steps","basket","many"] (zeX K A):=by
 refine F.okV zgf (λ_=>rfl) (λcdv Ar outer s H E x hr hp=>?_)
 obtain ⟨P0,P1,P2⟩:=x
 have hu:=hr.units
 replace hp:zdy P0 P1 P2:=hp
 unfold zdy at hp
 refine ⟨_,(zac (zak (i:=3) zgf.nd rfl (Or.inl rfl) (pe_fn G_lowered (hr.mono (by decide)) rfl passE (pa_cons (zam zb4 (pe_fn G_times (hr.mono (by decide)) rfl passE (pa_cons (pv 1) (pa_cons (zoK zmw zaf) pa_nil))) (zam zkF (za2 (pa_cons zaf pa_nil)) (pv 2))) (pa_cons (pv 0) pa_nil))))
 (zac (zbw (pt_val (pe_callB (zjI (K:=K) rfl rfl) rfl T.any PyProof.Rows.boot_any (pa_cons (zbh (zaT (K:=K) rfl) (pv 3) zcr (zbv (pe_callB (call_len_K (K:=K) rfl) rfl T.len PySem.boot_len (pa_cons (pv 1) pa_nil)))) pa_nil)))
 (zac (zav zer)
 zae)
 zae)
 (zac (zav (zbh (zaT (K:=K) rfl) (pv 3) (zbv (pe_callB (call_len_K (K:=K) rfl) rfl T.len PySem.boot_len (pa_cons (pv 1) pa_nil))) zcr))
 zae))),.inl ?_⟩
 show L2.Run _ ([.va false (dQ K (List.map lI P0)),.va false (dQ K (List.map dI P1)),.va false (dI P2),.no]:L2.Ctx) _ ((λ(r:(Option (List Int)))=>Oc.rt true (dOpt lI r)) (m_counted P0 P1 P2))
 unfold m_counted
 exact (zaj (m:=true) (x:=(m_lowered ((m_times P1 (-(1:Int)))++(zcY P2 [(0:Int)])) P0)) lI (λ(r:(Option (List Int)))=>Oc.rt true (dOpt lI r)) (zah (x:=(((m_times P1 (-(1:Int)))++(zcY P2 [(0:Int)])),P0)) (zab (Ev.weak (K:=K) (EvO.ev (zbc (f:=dI) (xs:=(m_times P1 (-(1:Int)))) (ys:=(zcY P2 [(0:Int)])) (EvO.ev (EvO.anyI (m:=true) (zbg (x:=(P1,(-(1:Int)))) (zab (zaa (i:=1) rfl) (zab (zoF (x:=(1:Int)) zaw) zad)) rfl (by show zbk P1 (-(1:Int));exact ⟨by have z:=hp.2.2.1;omega,λ_ _=>.inr (.inl ⟨by decide,by decide⟩)⟩) rfl))) (EvO.ev (zhH (f:=dI) (xs:=[(0:Int)]) (n:=P2) (EvO.ev (zbD (zab zaw zad) (by show 1≤sizeLine;decide))) (Ev.any (m:=false) (zaa (i:=2) rfl)) (by have z:=hp.1;have z2:=hp.2.1;constructor<;>omega) (by show 1*_≤PySem.sizeLine;apply zai;have z:=hp.1;have z2:=hp.2.1;omega))) (by exact znI hp)))) (zab (zaa (i:=0) rfl) zad)) rfl (by show za8 ((m_times P1 (-(1:Int)))++(zcY P2 [(0:Int)])) P0;exact hp.2.2.2) rfl) (λv88 hv88 =>
 (zaB (b:=((cutD v88 none (some ((P1.length:Nat):Int))).any (· != 0))) (λ(r:(Option (List Int)))=>Oc.rt true (dOpt lI r)) (zeu (zpk (xs:=(cutD v88 none (some ((P1.length:Nat):Int)))) (Ev.weak (K:=K) (EvO.ev (EvO.anyI (m:=true) (zbT (f:=dI) (xs:=v88) (Ev.weak (K:=K) (zaa (i:=3) rfl)) zbF (zaX (zaG (f:=dI) (xs:=P1) (zaa (i:=1) rfl))))))))) (λh89=>(zan (zag (zap zaw)))) (λh89 =>
 (zal (zag (zap (EvO.ev (EvO.anyI (m:=true) (zbT (f:=dI) (xs:=v88) (Ev.weak (K:=K) (zaa (i:=3) rfl)) (zaX (zaG (f:=dI) (xs:=P1) (zaa (i:=1) rfl))) zbF))))))))))
def ziZ (P0:Int) (P1:(List (List Int))):BookD:=⟨P0,(List.map (λ(x90:(List Int))=>x90) P1)⟩
def zaZ (P0:Int) (P1:(List (List Int))):Prop:=P1.length≤1000
def zdL (K:W.Frag) (A:Adr):Sp:=zpV (ι:=Int×(List (List Int))) A.Book (λx=>[dI x.1,dQ K (List.map lI x.2)]) (λx=>zaZ x.1 x.2) true (λx=>[("many",dI ((ziZ x.1 x.2).many)),("swaps",dL (List.map lI ((ziZ x.1 x.2).swaps)))])
theorem zfm:FnScope ["self","many","swaps"] ["self","many","swaps"] (defScope zaQ):=⟨rfl,rfl,rfl,by decide +kernel,rfl,by decide +kernel,by decide +kernel⟩
theorem zfn (F:Fun K "__init__" "Book.__init__" zaQ f fd) (T:Txt K mg A) :FnOk P w K mg base (CXE P w) 1 f fd ["self","many","swaps"] (zdL K A):=by
 refine F.okI zfm (λ_=>rfl) (λcdv Ar outer s H E x hr hp=>?_)
 obtain ⟨P0,P1⟩:=x
 have hu:=hr.units
 replace hp:zaZ P0 P1:=hp
 unfold zaZ at hp
 refine ⟨_,(zac (zmy (pv 0) (pv 1) rfl)
 (zac (zmy (pv 0) (pe_comp rfl (.of (osc:=(defScope zaQ)) (N:=["self","many","swaps"]) (own:=["swap"]) (fvn:=[]) (fv:=[]) rfl rfl (by decide +kernel)) (pi_list_K (K:=K) rfl (pv 2)) (λ_ _ _ _ _=>⟨(pg_name (i:=0) (show (["swap"]:List Str).Nodup by decide +kernel) rfl (Or.inl rfl) (Or.inr rfl)),pts_nil,(zbA (zbj (K:=K) rfl) rfl T.list PyProof.Rows.boot_list (pa_cons (pv 0) pa_nil))⟩)) rfl)
 zae)),λp dx=>⟨([.ob true A.Book p dx [("many",dI P0),("swaps",dL (List.map lI (List.map (λ(x90:(List Int))=>x90) P1)))],.va false (dI P0),.va false (dQ K (List.map lI P1))]:L2.Ctx),?_,rfl⟩⟩
 show L2.Run _ ([.ob true A.Book p dx [],.va false (dI P0),.va false (dQ K (List.map lI P1))]:L2.Ctx) _ _
 exact (ziy (i:=0) rfl (Ev.any (m:=false) (zaa (i:=1) rfl)) T.Book_cl T.Book_many [] rfl (by decide +kernel) (by decide)
 (ziy (i:=0) rfl (EvO.ev (EvO.conv (zbN (g:=(λ(x90:(List Int))=>dL (List.map dI x90))) (zbX (m:=false) lI (xs:=P1) (zaa (i:=2) rfl)) (by exact zai (by omega)) ⟨by decide,by decide⟩ (λi91 x90 hx92=>have v92:=List.mem_of_getElem? hx92;(EvO.ev (EvO.anyI (m:=false) (zdP (Ev.weak (K:=K) (zaa (i:=0) rfl))))))) (by first | (rw [List.map_map];rfl) | (simp only [cond_true,cond_false];rw [List.map_map];rfl)))) T.Book_cl T.Book_swaps ["many"] rfl (by decide +kernel) (by decide)
 (zar (Wk.refl _))))
def m_book_of (P0:Int) (P1:(List (List Int))):BookD :=
 (Let (List.foldl (λ(s95:Unit) (x96:(Int×(List Int)))=>()) () (zdI P1)) (λ(r101:Unit) =>
 (ziZ P0 P1)))
def zcX (P0:Int) (P1:(List (List Int))):Prop:=1≤P0∧P0≤8∧P1.length≤12∧∀ s∈P1,(s.length:Int)=P0
def ze4 (K:W.Frag) (A:Adr):Sp:=Spv (ι:=Int×(List (List Int))) (λx=>[dI x.1,dQ K (List.map lI x.2)]) (λx=>zcX x.1 x.2) (λx=>.va true (zaU A.Book (m_book_of x.1 x.2)))
theorem zfc:FnScope ["many","swaps","place","swap"] ["many","swaps"] (defScope zdj):=⟨rfl,rfl,rfl,by decide +kernel,rfl,by decide +kernel,by decide +kernel⟩
theorem zjg (F:Fun K "book_of" "book_of" zdj f fd) (T:Txt K mg A)  {f_Book:Addr} {fd_Book:FuncData} (M_Book:Mk K A.Book f_Book) (G_Book___init__:FnOk P w K mg base (CXE P w) 1 f_Book fd_Book ["self","many","swaps"] (zdL K A)) (b_Book___init__:zgX K fd_Book ["self","many","swaps"] []):FnOk P w K mg base (CXE P w) 3 f fd ["many","swaps"] (ze4 K A):=by
 refine F.okV zfc (λ_=>rfl) (λcdv Ar outer s H E x hr hp=>?_)
 obtain ⟨P0,P1⟩:=x
 have hu:=hr.units
 replace hp:zcX P0 P1:=hp
 unfold zcX at hp
 obtain ⟨t_MOST_SWAPS,c_MOST_SWAPS⟩:=T.g_MOST_SWAPS
 obtain ⟨t_MOST_WARES,c_MOST_WARES⟩:=T.g_MOST_WARES
 refine ⟨_,(zac (zbw (PW.pt (zh3 (pt_cmpR zjm (pv 0) zaf (nomark _)) (pw_or1 (pt_cmpR zlZ (pv 0) (pe_glob (v:=.int 8) rfl c_MOST_WARES ⟨_,rfl⟩) (nomark _)))))
 (zac zej zae)
 zae)
 (zac (zbw (pt_cmpR zlZ (pe_callB (call_len_K (K:=K) rfl) rfl T.len PySem.boot_len (pa_cons (pv 1) pa_nil)) (pe_glob (v:=.int 12) rfl c_MOST_SWAPS ⟨_,rfl⟩) (nomark _))
 (zac zej zae)
 zae)
 (zac (zcx PassesOwn.never rfl (zgB rfl rfl T.enumerate (pa_cons (pv 1) pa_nil)) (zaR (K:=K) (n:=2) rfl rfl (zas (pg_name (i:=2) zfc.nd rfl (Or.inl rfl) (Or.inl rfl)) (zas (pg_name (i:=3) zfc.nd rfl (Or.inl rfl) (Or.inl rfl)) zbe)))
 (zac (zbw (pt_cmpR op_ne (pe_callB (call_len_K (K:=K) rfl) rfl T.len PySem.boot_len (pa_cons (pv 3) pa_nil)) (pv 0) (nomark _))
 (zac zej zae)
 zae)
 zae))
 (zac (zav (znj M_Book G_Book___init__ (hr.mono (by decide)) rfl T.Book b_Book___init__ .nil passE (pa_cons (pv 0) (pa_cons (pv 1) pa_nil))))
 zae)))),.inl ?_⟩
 show L2.Run _ ([.va false (dI P0),.va false (dQ K (List.map lI P1)),.no,.no]:L2.Ctx) _ ((λ(r:BookD)=>Oc.rt true (zaU A.Book r)) (m_book_of P0 P1))
 unfold m_book_of
 exact (zbM (EvT.conv (zf4 (b:=(decide (P0<(1:Int)))) (zao (zaD (x:=P0) (y:=(1:Int)) (Ev.any (m:=false) (zaa (i:=0) rfl)) zaw)) (λhb=>(zao (zaD (x:=P0) (y:=8) (Ev.any (m:=false) (zaa (i:=0) rfl)) zaw)))) (by simp only [Bool.or_eq_false_iff,decide_eq_false_iff_not];omega)) (zal
 (zbM (EvT.conv (zao (zaD (x:=((P1.length:Nat):Int)) (y:=12) (zaG (f:=lI) (xs:=P1) (zaa (i:=1) rfl)) zaw)) (by ((try simp only [decide_eq_true_eq,decide_eq_false_iff_not,Bool.not_eq_true',Bool.not_eq_false',Bool.and_eq_true,Bool.or_eq_false_iff,Bool.or_eq_true,Bool.and_eq_false_iff,Bool.cond_eq_ite] at *)<;>omega))) (zal
 (zbS (s0:=()) (λ(s95:Unit)=>([.va false (dI P0),.va false (dQ K (List.map lI P1)),.no,.no]:L2.Ctx)) (λ(r:BookD)=>Oc.rt true (zaU A.Book r)) (λ(s95:Unit) (x96:(Int×(List Int)))=>()) (λ_ _=>True) (zgv (m:=false) lI (xs:=P1) (zaa (i:=1) rfl)) (.eq (.eq (.eq (.eq .nil)))) trivial (λi97 x96 s95 hx98 hI99=>have v98:=zcQ hx98;⟨trivial,
 (zbM (EvT.conv (zao (zc0 (x:=((x96.2.length:Nat):Int)) (y:=P0) (zaG (f:=dI) (xs:=x96.2) (Ev.weak (K:=K) (zaa (i:=3) rfl))) (Ev.any (m:=false) (zaa (i:=0) rfl)))) (by have:=hp.2.2.2 _ (zl0 (by assumption));simp only [Bool.not_eq_false',decide_eq_true_eq];exact this)) (zal
 (zar (.eq (.eq (.no (.no .nil)))))))⟩) (λr101 hr101 hI =>
 (zag (zap (zno (i:=(P0,P1)) (zab (Ev.any (m:=false) (zaa (i:=0) rfl)) (zab (zaa (i:=1) rfl) zad)) rfl (by show zaZ P0 P1;unfold zaZ;omega))))))))))
theorem zoe {w:Int} {sw:List (List Int)}:m_book_of w sw=⟨w,sw⟩:=by
 unfold m_book_of ziZ Let
 simp
def m_refuse_bad_basket (P0:BookD) (P1:(List Int)):Unit:=()
def zaL (P0:BookD) (P1:(List Int)):Prop:=(P1.length:Int)=P0.many
def zbu (K:W.Frag) (A:Adr):Sp:=Spv (ι:=BookD×(List Int)) (λx=>[zaU A.Book x.1,dQ K (List.map dI x.2)]) (λx=>zaL x.1 x.2) (λx=>.va true (dN))
theorem zcw:FnScope ["book","basket"] ["book","basket"] (defScope zaE):=⟨rfl,rfl,rfl,by decide +kernel,rfl,by decide +kernel,by decide +kernel⟩
theorem zeo (F:Fun K "refuse_bad_basket" "refuse_bad_basket" zaE f fd) (T:Txt K mg A) :FnOk P w K mg base (CXE P w) 1 f fd ["book","basket"] (zbu K A):=by
 refine F.okV zcw (λ_=>rfl) (λcdv Ar outer s H E x hr hp=>?_)
 obtain ⟨P0,P1⟩:=x
 have hu:=hr.units
 replace hp:zaL P0 P1:=hp
 unfold zaL at hp
 refine ⟨_,(zac (zbw (pt_cmpR op_ne (pe_callB (call_len_K (K:=K) rfl) rfl T.len PySem.boot_len (pa_cons (pv 1) pa_nil)) (zb2 (K:=K) rfl (pv 0) rfl) (nomark _))
 (zac zej zae)
 zae)
 zae),.inr ⟨_,([.va false (zaU A.Book P0),.va false (dQ K (List.map dI P1))]:L2.Ctx),rfl,?_⟩⟩
 show L2.Run _ ([.va false (zaU A.Book P0),.va false (dQ K (List.map dI P1))]:L2.Ctx) _ _
 exact (zbM (EvT.conv (zao (zc0 (x:=((P1.length:Nat):Int)) (y:=P0.many) (zaG (f:=dI) (xs:=P1) (zaa (i:=1) rfl)) (Ev.any (m:=false) (zdU (zaa (i:=0) rfl) T.Book_cl T.Book_many rfl)))) (by ((try simp only [decide_eq_true_eq,decide_eq_false_iff_not,Bool.not_eq_true',Bool.not_eq_false',Bool.and_eq_true,Bool.or_eq_false_iff,Bool.or_eq_true,Bool.and_eq_false_iff,Bool.cond_eq_ite] at *)<;>omega))) (zal
 (zar (Wk.refl _))))
def zaz (P0:BookD) (P1:(List Int)):Except Xn Unit :=
 (bif (!decide (((P1.length:Nat):Int)=P0.many)) then (Except.error Xn.BadBasket)
 else (Except.ok ()))
def zaI (P0:BookD) (P1:(List Int)):Prop:=True
def zbm (K:W.Frag) (A:Adr):Sp:=Spv (ι:=BookD×(List Int)) (λx=>[zaU A.Book x.1,dQ K (List.map dI x.2)]) (λx=>zaI x.1 x.2) (λx=>znQ A.xc true (λ_=>dN) (zaz x.1 x.2))
theorem zdS (F:Fun K "refuse_bad_basket" "refuse_bad_basket" zaE f fd) (T:Txt K mg A) :FnOk P w K mg base (CXE P w) 1 f fd ["book","basket"] (zbm K A):=by
 refine F.okVXN zcw (λ_=>rfl) (λcdv Ar outer s H E x hr hp O=>?_)
 obtain ⟨P0,P1⟩:=x
 have hu:=hr.units
 replace hp:zaI P0 P1:=hp
 unfold zaI at hp
 refine ⟨_,([.va false (zaU A.Book P0),.va false (dQ K (List.map dI P1))]:L2.Ctx),(zcR (zpP (pt_cmpR op_ne (pe_callB (call_len_K (K:=K) rfl) rfl T.len PySem.boot_len (pa_cons (pv 1) pa_nil)) (zb2 (K:=K) rfl (pv 0) rfl) (nomark _))
 (zcR (zll O rfl rfl T.xm_BadBasket T.xi_BadBasket PySem.F.excBase_ValueError (pa_cons zby pa_nil))
 zgn)
 zgn)
 zgn),?_⟩
 show L2.Run _ ([.va false (zaU A.Book P0),.va false (dQ K (List.map dI P1))]:L2.Ctx) _ ((foX A.xc ([.no,.no]:L2.Ctx) (λ(_:Unit)=>Oc.nx ([.va false (zaU A.Book P0),.va false (dQ K (List.map dI P1))]:L2.Ctx))) (zaz P0 P1))
 unfold zaz
 exact (zaB (b:=(!decide (((P1.length:Nat):Int)=P0.many))) (foX A.xc ([.no,.no]:L2.Ctx) (λ(_:Unit)=>Oc.nx ([.va false (zaU A.Book P0),.va false (dQ K (List.map dI P1))]:L2.Ctx))) (zao (zc0 (x:=((P1.length:Nat):Int)) (y:=P0.many) (zaG (f:=dI) (xs:=P1) (zaa (i:=1) rfl)) (Ev.any (m:=false) (zdU (zaa (i:=0) rfl) T.Book_cl T.Book_many rfl)))) (λh103=>(zan (zjN (m:=false) (zab zaw zad) (by show 1≤sizeLine;decide) (.no (.no .nil))))) (λh103 =>
 (zal (zar (Wk.refl _)))))
theorem zgm {b:BookD} {x:List Int} {v:Unit} (h:zaz b x=.ok v):(x.length:Int)=b.many:=by
 unfold zaz at h
 cases q:(!decide (((x.length:Nat):Int)=b.many)) with
 | true=>rw [q] at h;cases h
 | false=>simpa using q
def m_refuse_bad_road (P0:BookD) (P1:(List Int)):Unit:=()
def za3 (P0:BookD) (P1:(List Int)):Prop:=P1.length=P0.swaps.length
def zbW (K:W.Frag) (A:Adr):Sp:=Spv (ι:=BookD×(List Int)) (λx=>[zaU A.Book x.1,dQ K (List.map dI x.2)]) (λx=>za3 x.1 x.2) (λx=>.va true (dN))
theorem zeL:FnScope ["book","road"] ["book","road"] (defScope zaO):=⟨rfl,rfl,rfl,by decide +kernel,rfl,by decide +kernel,by decide +kernel⟩
theorem zeO (F:Fun K "refuse_bad_road" "refuse_bad_road" zaO f fd) (T:Txt K mg A) :FnOk P w K mg base (CXE P w) 1 f fd ["book","road"] (zbW K A):=by
 refine F.okV zeL (λ_=>rfl) (λcdv Ar outer s H E x hr hp=>?_)
 obtain ⟨P0,P1⟩:=x
 have hu:=hr.units
 replace hp:za3 P0 P1:=hp
 unfold za3 at hp
 refine ⟨_,(zac (zbw (pt_cmpR op_ne (pe_callB (call_len_K (K:=K) rfl) rfl T.len PySem.boot_len (pa_cons (pv 1) pa_nil)) (pe_callB (call_len_K (K:=K) rfl) rfl T.len PySem.boot_len (pa_cons (zb2 (K:=K) rfl (pv 0) rfl) pa_nil)) (nomark _))
 (zac zej zae)
 zae)
 zae),.inr ⟨_,([.va false (zaU A.Book P0),.va false (dQ K (List.map dI P1))]:L2.Ctx),rfl,?_⟩⟩
 show L2.Run _ ([.va false (zaU A.Book P0),.va false (dQ K (List.map dI P1))]:L2.Ctx) _ _
 exact (zbM (EvT.conv (zao (zc0 (x:=((P1.length:Nat):Int)) (y:=((P0.swaps.length:Nat):Int)) (zaG (f:=dI) (xs:=P1) (zaa (i:=1) rfl)) (zaG (f:=lI) (xs:=P0.swaps) (Ev.weak (K:=K) (zdU (zaa (i:=0) rfl) T.Book_cl T.Book_swaps rfl))))) (by ((try simp only [decide_eq_true_eq,decide_eq_false_iff_not,Bool.not_eq_true',Bool.not_eq_false',Bool.and_eq_true,Bool.or_eq_false_iff,Bool.or_eq_true,Bool.and_eq_false_iff,Bool.cond_eq_ite] at *)<;>omega))) (zal
 (zar (Wk.refl _))))
def znN (b:BookD) (x:List Int):Prop:=∃ n a:Nat,b.many=(n:Int)∧x.length=n∧Lat.Bit a x∧a≤1000000∧n+b.swaps.length≤24∧b.swaps.length≤13∧∀ r∈b.swaps,r.length=n∧Lat.Bit 200 r
theorem zoc {b:BookD} {x:List Int} (h:znN b x):TrP b.swaps:=by
 obtain ⟨n,a,h1,h2,h3,h4,h5,h6,h7⟩:=h
 exact ⟨n,200,13,Lat.zeN h5,h6,h7⟩
theorem zny {b:BookD} {x:List Int} {n a:Nat} (h2:x.length=n) (h3:Lat.Bit a x):(m_times x (-(1:Int))++zcY ((b.swaps.length:Nat):Int) [(0:Int)]).length=n+b.swaps.length∧Lat.Bit a (m_times x (-(1:Int))++zcY ((b.swaps.length:Nat):Int) [(0:Int)]):=by
 refine ⟨by rw [List.length_append,Lat.zcM,show (m_times x (-(1:Int))).length=x.length from Lat.zaM,h2],λy hy=>?_⟩
 rcases List.mem_append.mp hy with hy | hy
 ·obtain ⟨z,hz,rfl⟩:=List.mem_map.mp hy
  have:=h3 z hz
  omega
 ·obtain ⟨j,_,rfl⟩:=Lat.zfJ hy
  rw [Lat.zez];exact Nat.zero_le _
theorem zmm {b:BookD} {x:List Int} (h:znN b x):∃ n:Nat,b.many=(n:Int)∧(∀ t∈m_traced b.swaps,Lat.Sd (n+b.swaps.length) (Lat.sB 200 13) t)∧(m_traced b.swaps).length≤13∧n+b.swaps.length≤24∧x.length=n:=by
 obtain ⟨n,a,h1,h2,h3,h4,h5,h6,h7⟩:=h
 obtain ⟨S,s2,s3⟩:=Lat.zha (Lat.zeN h5) (rows:=Lat.mark b.swaps) (by rw [Lat.zeH];omega) (Lat.zgu h7)
 rw [zdV]
 exact ⟨n,h1,s3,by omega,h5,h2⟩
theorem znu {b:BookD} {x:List Int} (h:znN b x):Lat.LowP (m_times x (-(1:Int))++zcY ((b.swaps.length:Nat):Int) [(0:Int)]) (m_traced b.swaps):=by
 obtain ⟨n',e1,e2,e3,e4,e5⟩:=zmm h
 obtain ⟨n,a,h1,h2,h3,h4,h5,h6,h7⟩:=h
 have hn:n'=n:=by omega
 subst hn
 have hv:=zny (b:=b) h2 h3
 refine ⟨n'+b.swaps.length,a,Lat.sB 200 13,by omega,hv.1,by omega,hv.2,e2,?_⟩
 rw [show Lat.sB 200 13=40670 from rfl]
 have:=Nat.mul_le_mul_right (40670+1) e3
 omega
theorem znq {b:BookD} {x:List Int} (h:znN b x):zp2 (m_traced b.swaps) x ((b.swaps.length:Nat):Int):=by
 have h':=znu h
 obtain ⟨n,a,h1,h2,h3,h4,h5,h6,h7⟩:=h
 exact ⟨by omega,by omega,by omega,h'⟩
def BkP (b:BookD):Prop:=∃ n:Nat,b.many=(n:Int)∧n≤8∧b.swaps.length≤12∧∀ r∈b.swaps,r.length=n∧Lat.Bit 200 r
theorem zoZ {b:BookD} (h:BkP b):TrP b.swaps:=by
 obtain ⟨n,h1,h2,h3,h4⟩:=h
 exact ⟨n,200,13,Lat.zeN (by omega),by omega,h4⟩
theorem zqb {b:BookD} (h:BkP b):(m_traced b.swaps).length≤1000:=by have:=znP (zoZ h);omega
def PlP (b:BookD) (r:List Int):Prop:=BkP b∧r.length=b.swaps.length∧∃ a,a≤1500000∧Lat.Bit a r
def PrP (b:BookD) (x y:List Int):Prop:=(x.length:Int)=b.many∧(y.length:Int)=b.many∧zcj y x∧BkP b∧∃ a,a≤400000∧Lat.Bit a (m_less y x)
theorem zfu {x y:List Int} (h:x.length=y.length):(m_less y x).length=x.length:=by rw [show m_less y x=Lat.sub y x from rfl,Lat.zgE h.symm,h]
theorem zhK {b:BookD} {x y:List Int} (h:PrP b x y):znN b (m_less y x):=by
 obtain ⟨h1,h2,h3,⟨n,k1,k2,k3,k4⟩,a,ha,hb⟩:=h
 exact ⟨n,a,k1,by rw [zfu (by omega)];omega,hb,by omega,by omega,by omega,k4⟩
def m_way_to (P0:BookD) (P1:(List Int)):(Option (List Int)) :=
 (m_counted (m_traced P0.swaps) P1 ((P0.swaps.length:Nat):Int))
def zdn (P0:BookD) (P1:(List Int)):Prop:=znN P0 P1
def zeE (K:W.Frag) (A:Adr):Sp:=Spv (ι:=BookD×(List Int)) (λx=>[zaU A.Book x.1,dQ K (List.map dI x.2)]) (λx=>zdn x.1 x.2) (λx=>.va true (dOpt lI (m_way_to x.1 x.2)))
theorem zkf:FnScope ["book","basket"] ["book","basket"] (defScope zei):=⟨rfl,rfl,rfl,by decide +kernel,rfl,by decide +kernel,by decide +kernel⟩
theorem zkO (F:Fun K "way_to" "way_to" zei f fd) (T:Txt K mg A) (G_counted:Callee P w K mg base (CXE P w) 4 "counted" ["steps","basket","many"] (zeX K A)) (G_traced:Callee P w K mg base (CXE P w) 6 "traced" ["rows"] (zeG K A)):FnOk P w K mg base (CXE P w) 7 f fd ["book","basket"] (zeE K A):=by
 refine F.okV zkf (λ_=>rfl) (λcdv Ar outer s H E x hr hp=>?_)
 obtain ⟨P0,P1⟩:=x
 have hu:=hr.units
 replace hp:zdn P0 P1:=hp
 unfold zdn at hp
 refine ⟨_,(zac (zav (pe_fn G_counted (hr.mono (by decide)) rfl passE (pa_cons (pe_fn G_traced (hr.mono (by decide)) rfl passE (pa_cons (zb2 (K:=K) rfl (pv 0) rfl) pa_nil)) (pa_cons (pv 1) (pa_cons (pe_callB (call_len_K (K:=K) rfl) rfl T.len PySem.boot_len (pa_cons (zb2 (K:=K) rfl (pv 0) rfl) pa_nil)) pa_nil)))))
 zae),.inl ?_⟩
 show L2.Run _ ([.va false (zaU A.Book P0),.va false (dQ K (List.map dI P1))]:L2.Ctx) _ ((λ(r:(Option (List Int)))=>Oc.rt true (dOpt lI r)) (m_way_to P0 P1))
 unfold m_way_to
 exact (zag (zap (zah (x:=((m_traced P0.swaps),P1,((P0.swaps.length:Nat):Int))) (zab (Ev.old (Ev.weak (K:=K) (zah (x:=P0.swaps) (zab (Ev.weak (K:=K) (zdU (zaa (i:=0) rfl) T.Book_cl T.Book_swaps rfl)) zad) rfl (by show zdw P0.swaps;exact zoc hp) rfl))) (zab (zaa (i:=1) rfl) (zab (zaG (f:=lI) (xs:=P0.swaps) (Ev.weak (K:=K) (zdU (zaa (i:=0) rfl) T.Book_cl T.Book_swaps rfl))) zad))) rfl (by show zdy (m_traced P0.swaps) P1 ((P0.swaps.length:Nat):Int);exact znq hp) rfl)))
theorem ziO {b:BookD} {x:List Int} {n:Nat} (hn:b.many=(n:Int)) (hx:x.length=n) (hr:∀ r∈b.swaps,r.length=n) :
  (m_way_to b x=none->¬ Lat.SpL b.swaps (Lat.vec x))∧∀ r,m_way_to b x=some r->r.length=b.swaps.length∧r=(Lat.low (m_times x (-(1:Int))++zcY ((b.swaps.length:Nat):Int) [(0:Int)]) (m_traced b.swaps)).drop n∧∀ j,j<n->Lat.comb r (b.swaps.map Lat.vec) j=Lat.vec x j:=by
 have T:=Lat.zhz hr
 have hv:=(zny (b:=b) (a:=0+(List.map Int.natAbs x).sum) hx (λy hy=>by
  have:y.natAbs≤(List.map Int.natAbs x).sum:=by
   have:∀ (l:List Int),y∈l->y.natAbs≤(List.map Int.natAbs l).sum:=by
    intro l
    induction l with
    | nil=>intro h;simp at h
    | cons a l ih =>
     intro h
     rw [List.map_cons,List.sum_cons]
     rcases List.mem_cons.mp h with rfl | h
     ·omega
     ·have:=ih h;omega
   exact this x hy
  exact Nat.le_trans this (Nat.le_of_lt (by rw [Nat.zero_add];exact Nat.lt_two_pow_self)))).1
 have e:m_way_to b x=bif (cutD (Lat.low (m_times x (-(1:Int))++zcY ((b.swaps.length:Nat):Int) [(0:Int)]) (Lat.clm Lat.MG (Lat.mark b.swaps))) none (some (n:Int))).any (· != 0) then none else some ((Lat.low (m_times x (-(1:Int))++zcY ((b.swaps.length:Nat):Int) [(0:Int)]) (Lat.clm Lat.MG (Lat.mark b.swaps))).drop n):=by
  unfold m_way_to m_counted Let
  dsimp only
  rw [zb8,zdV,hx,Lat.zdz]
 rw [zdV]
 have vj:∀ j,j<n->Lat.vec (m_times x (-(1:Int))++zcY ((b.swaps.length:Nat):Int) [(0:Int)]) j=(-1)*Lat.vec x j:=λj hj=>by
  rw [Lat.zfW,if_pos (by rw [show (m_times x (-(1:Int))).length=x.length from Lat.zaM,hx];exact hj),show m_times x (-(1:Int))=Lat.mul x (-(1:Int)) from rfl,Lat.zda];omega
 have vz:∀ i,Lat.vec (m_times x (-(1:Int))++zcY ((b.swaps.length:Nat):Int) [(0:Int)]) (n+i)=0:=λi=>by
  rw [Lat.zfW,if_neg (by rw [show (m_times x (-(1:Int))).length=x.length from Lat.zaM,hx];omega),Lat.zez]
 generalize (m_times x (-(1:Int))++zcY ((b.swaps.length:Nat):Int) [(0:Int)])=v at *
 obtain ⟨a1,_⟩:=Lat.za7 T.st.ech hv
 have anyz:(cutD (Lat.low v (Lat.clm Lat.MG (Lat.mark b.swaps))) none (some (n:Int))).any (· != 0)=false ↔ ∀ j,j<n->Lat.vec (Lat.low v (Lat.clm Lat.MG (Lat.mark b.swaps))) j=0:=by
  rw [zlH,List.any_eq_false]
  constructor
  ·intro h j hj
   have hm:Lat.vec (Lat.low v (Lat.clm Lat.MG (Lat.mark b.swaps))) j∈(Lat.low v (Lat.clm Lat.MG (Lat.mark b.swaps))).take n:=by
    have hl:j<((Lat.low v (Lat.clm Lat.MG (Lat.mark b.swaps))).take n).length:=by rw [List.length_take,a1];omega
    have:=Lat.zhM hl
    rwa [Lat.zcg,if_pos hj] at this
   simpa using h _ hm
  ·intro h y hy
   obtain ⟨j,hj,rfl⟩:=Lat.zfJ hy
   rw [Lat.zcg]
   rw [List.length_take] at hj
   rw [if_pos (by omega),h j (by omega)]
   simp
 constructor
 ·intro h0 hsp
  have fr:=Lat.zku hr T hv ((Lat.Sp.smul (-1) hsp).conv λi=>by
   unfold Lat.rst
   by_cases hi:i<n
   ·rw [if_pos hi,vj i hi]
   ·rw [if_neg hi,Lat.zct (by omega)];rfl)
  rw [e,anyz.mpr fr] at h0
  cases h0
 ·intro r h0
  rw [e] at h0
  cases q:(cutD (Lat.low v (Lat.clm Lat.MG (Lat.mark b.swaps))) none (some (n:Int))).any (· != 0) with
  | true=>rw [q] at h0;cases h0
  | false =>
   rw [q] at h0
   have h0:(Lat.low v (Lat.clm Lat.MG (Lat.mark b.swaps))).drop n=r:=Option.some.inj h0
   subst h0
   refine ⟨by rw [List.length_drop,a1];omega,rfl,λj hj=>?_⟩
   rw [Lat.zlB T hv vz (anyz.mp q) j hj,vj j hj]
   omega
theorem zlI:∀ {sw:List (List Int)} {way l:List Int} {j:Nat},(∀ s∈sw,s.length=l.length)->(List.foldl (λ(s:List Int) (p:List Int×Int)=>m_plus s (m_times p.1 p.2)) l (List.zip sw way)).length=l.length∧Lat.vec (List.foldl (λ(s:List Int) (p:List Int×Int)=>m_plus s (m_times p.1 p.2)) l (List.zip sw way)) j=Lat.vec l j+Lat.comb way (sw.map Lat.vec) j
 | [],way,l,j,_=>by
  refine ⟨rfl,?_⟩
  show Lat.vec l j=Lat.vec l j+Lat.comb way [] j
  cases way<;>simp [Lat.comb]
 | s :: sw,[],l,j,_=>by
  refine ⟨rfl,?_⟩
  show Lat.vec l j=Lat.vec l j+Lat.comb [] _ j
  simp [Lat.comb]
 | s :: sw,w :: way,l,j,h=>by
  have hs:=h s List.mem_cons_self
  have hl:(Lat.mul s w).length=l.length:=by rw [Lat.zaM,hs]
  have e1:(Lat.add l (Lat.mul s w)).length=l.length:=Lat.zjU hl.symm
  obtain ⟨k1,k2⟩:=zlI (sw:=sw) (way:=way) (l:=Lat.add l (Lat.mul s w)) (j:=j) λt ht=>by rw [e1,h t (List.mem_cons_of_mem _ ht)]
  refine ⟨k1.trans e1,?_⟩
  show Lat.vec (List.foldl (λ(s:List Int) (p:List Int×Int)=>m_plus s (m_times p.1 p.2)) (Lat.add l (Lat.mul s w)) (List.zip sw way)) j=_
  rw [k2,Lat.zgF hl.symm,Lat.zda]
  simp only [List.map_cons,Lat.comb]
  rw [Int.mul_comm w]
  omega
def m_rounds (P0:BookD):(List (List Int)) :=
 (m_tails (m_traced P0.swaps) P0.many)
def zd7 (P0:BookD):Prop:=BkP P0
def zfT (K:W.Frag) (A:Adr):Sp:=Spv (ι:=BookD) (λx=>[zaU A.Book x]) (λx=>zd7 x) (λx=>.va true (dL (List.map lI (m_rounds x))))
theorem zkI:FnScope ["book"] ["book"] (defScope zd9):=⟨rfl,rfl,rfl,by decide +kernel,rfl,by decide +kernel,by decide +kernel⟩
theorem zkK (F:Fun K "rounds" "rounds" zd9 f fd) (T:Txt K mg A) (G_tails:Callee P w K mg base (CXE P w) 2 "tails" ["steps","many"] (zgO K A)) (G_traced:Callee P w K mg base (CXE P w) 6 "traced" ["rows"] (zeG K A)):FnOk P w K mg base (CXE P w) 7 f fd ["book"] (zfT K A):=by
 refine F.okV zkI (λ_=>rfl) (λcdv Ar outer s H E P0 hr hp=>?_)
 have hu:=hr.units
 replace hp:zd7 P0:=hp
 unfold zd7 at hp
 refine ⟨_,(zac (zav (pe_fn G_tails (hr.mono (by decide)) rfl passE (pa_cons (pe_fn G_traced (hr.mono (by decide)) rfl passE (pa_cons (zb2 (K:=K) rfl (pv 0) rfl) pa_nil)) (pa_cons (zb2 (K:=K) rfl (pv 0) rfl) pa_nil))))
 zae),.inl ?_⟩
 show L2.Run _ ([.va false (zaU A.Book P0)]:L2.Ctx) _ ((λ(r:(List (List Int)))=>Oc.rt true (dL (List.map lI r))) (m_rounds P0))
 unfold m_rounds
 exact (zag (zap (zah (x:=((m_traced P0.swaps),P0.many)) (zab (Ev.old (Ev.weak (K:=K) (zah (x:=P0.swaps) (zab (Ev.weak (K:=K) (zdU (zaa (i:=0) rfl) T.Book_cl T.Book_swaps rfl)) zad) rfl (by show zdw P0.swaps;exact zoZ hp) rfl))) (zab (Ev.any (m:=false) (zdU (zaa (i:=0) rfl) T.Book_cl T.Book_many rfl)) zad)) rfl (by show zeT (m_traced P0.swaps) P0.many;exact zqb hp) rfl)))
theorem zhw {b:BookD} {n:Nat} (hn:b.many=(n:Int)):m_rounds b=Lat.tailS n (Lat.clm Lat.MG (Lat.mark b.swaps)):=by
 unfold m_rounds
 rw [zdV,hn,zlX]
theorem zok {b:BookD} (h:BkP b):(∀ t∈m_rounds b,Lat.Sd b.swaps.length (Lat.sB 200 13) t)∧(m_rounds b).length≤13:=by
 obtain ⟨n,k1,k2,k3,k4⟩:=h
 obtain ⟨S,s2,s3⟩:=Lat.zha (Lat.zeN (n:=n+b.swaps.length) (by omega)) (rows:=Lat.mark b.swaps) (by rw [Lat.zeH];omega) (Lat.zgu k4)
 rw [zhw k1]
 refine ⟨λt ht=>?_,?_⟩
 ·obtain ⟨s,hs,h1,rfl⟩:=Lat.zfQ ht
  exact (s3 s hs).drop h1
 ·unfold Lat.tailS
  rw [List.length_map]
  exact Nat.le_trans (List.length_filter_le _ _) (by omega)
theorem zon {b:BookD} {r:List Int} (h:PlP b r):Lat.LowP r (m_rounds b):=by
 obtain ⟨h1,h2,a,ha,hb⟩:=h
 obtain ⟨s1,s2⟩:=zok h1
 obtain ⟨n,k1,k2,k3,k4⟩:=h1
 refine ⟨b.swaps.length,a,Lat.sB 200 13,by omega,h2,by omega,hb,s1,?_⟩
 rw [show Lat.sB 200 13=40670 from rfl]
 have:=Nat.mul_le_mul_right (40670+1) s2
 omega
theorem zlK {b:BookD} {n:Nat} (hn:b.many=(n:Int)) (h:∀ r∈b.swaps,r.length=n):Lat.Ech b.swaps.length 0 (m_rounds b)∧Lat.Red (m_rounds b)∧(∀ t∈m_rounds b,Lat.Rel n b.swaps (Lat.vec t))∧∀ r:List Int,r.length=b.swaps.length->Lat.Rel n b.swaps (Lat.vec r)->Lat.SpL (m_rounds b) (Lat.vec r):=by
 rw [zhw hn]
 exact Lat.zjP h (Lat.zhz h)
def m_plain (P0:BookD) (P1:(List Int)):(List Int) :=
 (m_lowered P1 (m_rounds P0))
def zdo (P0:BookD) (P1:(List Int)):Prop:=PlP P0 P1
def zeV (K:W.Frag) (A:Adr):Sp:=Spv (ι:=BookD×(List Int)) (λx=>[zaU A.Book x.1,dQ K (List.map dI x.2)]) (λx=>zdo x.1 x.2) (λx=>.va true (dL (List.map dI (m_plain x.1 x.2))))
theorem zlq:FnScope ["book","road"] ["book","road"] (defScope zfh):=⟨rfl,rfl,rfl,by decide +kernel,rfl,by decide +kernel,by decide +kernel⟩
theorem zlv (F:Fun K "plain" "plain" zfh f fd) (T:Txt K mg A) (G_lowered:Callee P w K mg base (CXE P w) 3 "lowered" ["row","steps"] (zcJ K A)) (G_refuse_bad_road:Callee P w K mg base (CXE P w) 1 "refuse_bad_road" ["book","road"] (zbW K A)) (G_rounds:Callee P w K mg base (CXE P w) 7 "rounds" ["book"] (zfT K A)):FnOk P w K mg base (CXE P w) 8 f fd ["book","road"] (zeV K A):=by
 refine F.okV zlq (λ_=>rfl) (λcdv Ar outer s H E x hr hp=>?_)
 obtain ⟨P0,P1⟩:=x
 have hu:=hr.units
 replace hp:zdo P0 P1:=hp
 unfold zdo at hp
 refine ⟨_,(zac (zcu (pe_fn G_refuse_bad_road (hr.mono (by decide)) rfl passE (pa_cons (pv 0) (pa_cons (pv 1) pa_nil))))
 (zac (zav (pe_fn G_lowered (hr.mono (by decide)) rfl passE (pa_cons (pv 1) (pa_cons (pe_fn G_rounds (hr.mono (by decide)) rfl passE (pa_cons (pv 0) pa_nil)) pa_nil))))
 zae)),.inl ?_⟩
 show L2.Run _ ([.va false (zaU A.Book P0),.va false (dQ K (List.map dI P1))]:L2.Ctx) _ ((λ(r:(List Int))=>Oc.rt true (dL (List.map dI r))) (m_plain P0 P1))
 unfold m_plain
 exact (zeW (m:=true) (Ev.any (m:=true) (zah (x:=(P0,P1)) (zab (zaa (i:=0) rfl) (zab (zaa (i:=1) rfl) zad)) rfl (by show za3 P0 P1;exact hp.2.1) rfl))
 (zag (zap (zah (x:=(P1,(m_rounds P0))) (zab (zaa (i:=1) rfl) (zab (Ev.old (Ev.weak (K:=K) (zah (x:=P0) (zab (zaa (i:=0) rfl) zad) rfl (by show zd7 P0;exact hp.1) rfl))) zad)) rfl (by show za8 P1 (m_rounds P0);exact zon hp) rfl))))
theorem zlD {n:Nat} {ss:List (List Int)} {lo:Nat} {a b:List Int} (e:Lat.Ech n lo ss) (ha:a.length=n) (hb:b.length=n) (h:Lat.SpL ss (λi=>Lat.vec a i-Lat.vec b i)):Lat.low a ss=Lat.low b ss:=by
 obtain ⟨a1,a2,a3,a4⟩:=Lat.za7 (l:=a) e ha
 obtain ⟨b1,b2,b3,b4⟩:=Lat.za7 (l:=b) e hb
 refine Lat.vec_ext (by rw [a1,b1]) λi=>?_
 have:=Lat.zhD (u:=λi=>Lat.vec (Lat.low a ss) i-Lat.vec (Lat.low b ss) i) e ((Lat.Sp.lin 1 1 (Lat.Sp.lin 1 (-1) h a2) b2).conv λi=>by omega) (λt ht=>by
  have:=a3 t ht;have:=b3 t ht
  show -Lat.vec t (Lat.hd t)<Lat.vec (Lat.low a ss) (Lat.hd t)-Lat.vec (Lat.low b ss) (Lat.hd t)∧Lat.vec (Lat.low a ss) (Lat.hd t)-Lat.vec (Lat.low b ss) (Lat.hd t)<Lat.vec t (Lat.hd t)
  omega) i
 have this:Lat.vec (Lat.low a ss) i-Lat.vec (Lat.low b ss) i=0:=this
 omega
theorem zle {b:BookD} {r:List Int}:m_plain b r=Lat.low r (m_rounds b):=by
 unfold m_plain
 rw [zb8]
theorem zmH {b:BookD} {r:List Int} {a:Nat} (h:BkP b) (hr:r.length=b.swaps.length) (hb:Lat.Bit a r):(m_plain b r).length=b.swaps.length∧Lat.Bit (a+528723) (m_plain b r):=by
 obtain ⟨s1,s2⟩:=zok h
 obtain ⟨n,k1,k2,k3,k4⟩:=h
 have E:=(zlK k1 λr hr=>(k4 r hr).1).1
 rw [zle]
 refine ⟨(Lat.za7 E hr).1,(Lat.zes s1 hr hb).mono ?_⟩
 rw [show Lat.sB 200 13=40670 from rfl]
 have:=Nat.mul_le_mul_right (40670+1) s2
 omega
theorem znk {b:BookD} {x y:List Int} (h:BkP b) (hx:x.length=b.swaps.length) (hy:y.length=b.swaps.length) (hs:Lat.SpL (m_rounds b) (λi=>Lat.vec x i-Lat.vec y i)):m_plain b x=m_plain b y:=by
 obtain ⟨n,k1,k2,k3,k4⟩:=h
 have E:=(zlK k1 λr hr=>(k4 r hr).1).1
 rw [zle,zle]
 exact zlD E hx hy hs
theorem znS {b:BookD} {x:List Int} (h:BkP b) (hx:x.length=b.swaps.length):Lat.SpL (m_rounds b) (λi=>Lat.vec x i-Lat.vec (m_plain b x) i):=by
 obtain ⟨n,k1,k2,k3,k4⟩:=h
 have E:=(zlK k1 λr hr=>(k4 r hr).1).1
 rw [zle]
 exact (Lat.za7 E hx).2.1
theorem zm3 {b:BookD} {x r:List Int} {n a:Nat} (h:znN b x) (hn:b.many=(n:Int)) (hx:x.length=n) (ha:Lat.Bit a x) (e:m_way_to b x=some r):r.length=b.swaps.length∧Lat.Bit (a+528723) r:=by
 obtain ⟨n',e1,e2,e3,e4,e5⟩:=zmm h
 have hnn:n'=n:=by omega
 subst hnn
 obtain ⟨n0,a0,q1,q2,q3,q4,q5,q6,q7⟩:=h
 have h0:n0=n':=by omega
 obtain ⟨k1,k2,_⟩:=(ziO (x:=x) hn hx (λr hr=>by rw [(q7 r hr).1,h0])).2 r e
 refine ⟨k1,?_⟩
 have hv:=zny (b:=b) hx ha
 rw [k2]
 have lb:=Lat.zes e2 hv.1 hv.2
 rw [show Lat.sB 200 13=40670 from rfl] at lb
 have:=Nat.mul_le_mul_right (40670+1) e3
 exact λz hz=>(lb.mono (by omega)) z (List.mem_of_mem_drop hz)
theorem zmF {b:BookD} {x y:List Int} {w:Option (List Int)} (h:PrP b x y) (hw:w=m_way_to b (m_less y x)) (hb:w.isNone=false):PlP b (gS w):=by
 have hW:=zhK h
 obtain ⟨h1,h2,h3,hB,a,ha,hbit⟩:=h
 have hB':=hB
 obtain ⟨n,k1,k2,k3,k4⟩:=hB'
 cases w with
 | none=>cases hb
 | some r =>
  obtain ⟨w1,w2⟩:=zm3 hW k1 (by rw [zfu (by omega)];omega) hbit hw.symm
  exact ⟨hB,w1,_,by omega,w2⟩
theorem some_of {α:Type} {w:Option α} (h:w.isNone=false):w.isSome=true:=by cases w<;>first | rfl | cases h
def m_plain_road (P0:BookD) (P1:(List Int)) (P2:(List Int)):(Option (List Int)) :=
 (Let (m_way_to P0 (m_less P2 P1)) (λ(v105:(Option (List Int))) =>
 (bif v105.isNone then none else (some (m_plain P0 (gS v105))))))
def zci (P0:BookD) (P1:(List Int)) (P2:(List Int)):Prop:=PrP P0 P1 P2
def zdJ (K:W.Frag) (A:Adr):Sp:=Spv (ι:=BookD×(List Int)×(List Int)) (λx=>[zaU A.Book x.1,dQ K (List.map dI x.2.1),dQ K (List.map dI x.2.2)]) (λx=>zci x.1 x.2.1 x.2.2) (λx=>.va true (dOpt lI (m_plain_road x.1 x.2.1 x.2.2)))
theorem zcC:FnScope ["book","one","other","way"] ["book","one","other"] (defScope zbl):=⟨rfl,rfl,rfl,by decide +kernel,rfl,by decide +kernel,by decide +kernel⟩
theorem zgy (F:Fun K "plain_road" "plain_road" zbl f fd) (T:Txt K mg A) (G_less:Callee P w K mg base (CXE P w) 2 "less" ["one","other"] (ze7 K A)) (G_plain:Callee P w K mg base (CXE P w) 8 "plain" ["book","road"] (zeV K A)) (G_refuse_bad_basket:Callee P w K mg base (CXE P w) 1 "refuse_bad_basket" ["book","basket"] (zbu K A)) (G_way_to:Callee P w K mg base (CXE P w) 7 "way_to" ["book","basket"] (zeE K A)):FnOk P w K mg base (CXE P w) 9 f fd ["book","one","other"] (zdJ K A):=by
 refine F.okV zcC (λ_=>rfl) (λcdv Ar outer s H E x hr hp=>?_)
 obtain ⟨P0,P1,P2⟩:=x
 have hu:=hr.units
 replace hp:zci P0 P1 P2:=hp
 unfold zci at hp
 refine ⟨_,(zac (zcu (pe_fn G_refuse_bad_basket (hr.mono (by decide)) rfl passE (pa_cons (pv 0) (pa_cons (pv 1) pa_nil))))
 (zac (zcu (pe_fn G_refuse_bad_basket (hr.mono (by decide)) rfl passE (pa_cons (pv 0) (pa_cons (pv 2) pa_nil))))
 (zac (zak (i:=3) zcC.nd rfl (Or.inl rfl) (pe_fn G_way_to (hr.mono (by decide)) rfl passE (pa_cons (pv 0) (pa_cons (pe_fn G_less (hr.mono (by decide)) rfl passE (pa_cons (pv 2) (pa_cons (pv 1) pa_nil))) pa_nil))))
 (zac (zav (zgJ (pt_cmpR ziQ (pv 3) zer (nomark _)) zer (pe_fn G_plain (hr.mono (by decide)) rfl passE (pa_cons (pv 0) (pa_cons (pv 3) pa_nil)))))
 zae)))),.inl ?_⟩
 show L2.Run _ ([.va false (zaU A.Book P0),.va false (dQ K (List.map dI P1)),.va false (dQ K (List.map dI P2)),.no]:L2.Ctx) _ ((λ(r:(Option (List Int)))=>Oc.rt true (dOpt lI r)) (m_plain_road P0 P1 P2))
 unfold m_plain_road
 exact (zeW (m:=true) (Ev.any (m:=true) (zah (x:=(P0,P1)) (zab (zaa (i:=0) rfl) (zab (zaa (i:=1) rfl) zad)) rfl (by show zaL P0 P1;exact hp.1) rfl))
 (zeW (m:=true) (Ev.any (m:=true) (zah (x:=(P0,P2)) (zab (zaa (i:=0) rfl) (zab (zaa (i:=2) rfl) zad)) rfl (by show zaL P0 P2;exact hp.2.1) rfl))
 (zaj (m:=true) (x:=(m_way_to P0 (m_less P2 P1))) (dOpt lI) (λ(r:(Option (List Int)))=>Oc.rt true (dOpt lI r)) (zah (x:=(P0,(m_less P2 P1))) (zab (zaa (i:=0) rfl) (zab (Ev.weak (K:=K) (EvO.ev (EvO.anyI (m:=true) (zbg (x:=(P2,P1)) (zab (zaa (i:=2) rfl) (zab (zaa (i:=1) rfl) zad)) rfl (by show zcj P2 P1;exact hp.2.2.1) rfl)))) zad)) rfl (by show zdn P0 (m_less P2 P1);exact zhK hp) rfl) (λv105 hv105 =>
 have hW:=hv105;(zag (zap (zmZ (dOpt lI) (b:=v105.isNone) (x:=none) (y:=(some (m_plain P0 (gS v105)))) (zao (zeF (x:=v105) (f:=lI) (Ev.old (zaa (i:=3) rfl)) zaw NN.lst)) (λhb=>zaw) (λhb=>(zah (x:=(P0,(gS v105))) (zab (zaa (i:=0) rfl) (zab (Ev.old (Ev.weak (K:=K) (ev_some (f:=lI) (x:=v105) (zaa (i:=3) rfl) (by exact some_of hb)))) zad)) rfl (by show zdo P0 (gS v105);exact zmF hp hW hb) rfl)))))))))
def okJ {ε α:Type}:Except ε (Option α)->Option α
 | .ok v=>v
 | .error _=>none
def PxP (b:BookD) (x y:List Int):Prop:=BkP b∧∃ a,a≤399999∧Lat.Bit a x∧Lat.Bit a y
theorem ziA {b:BookD} {x y:List Int} (h:PxP b x y) (hx:(x.length:Int)=b.many) (hy:(y.length:Int)=b.many):PrP b x y:=by
 obtain ⟨hB,a,ha,b1,b2⟩:=h
 have hB':=hB
 obtain ⟨n,k1,k2,k3,k4⟩:=hB'
 refine ⟨hx,hy,⟨by omega,by omega⟩,hB,a+1,by omega,Lat.Bit.of λi=>?_⟩
 rw [show m_less y x=Lat.sub y x from rfl,Lat.zev (by omega),Nat.pow_succ]
 have:=b1.vec i
 have:=b2.vec i
 omega
def x_plain_road (P0:BookD) (P1:(List Int)) (P2:(List Int)):Except Xn (Option (List Int)) :=
 (znx (zaz P0 P1) (λ_ =>
 (znx (zaz P0 P2) (λ_ =>
 (Let (m_way_to P0 (m_less P2 P1)) (λ(v106:(Option (List Int))) =>
 (Except.ok (bif v106.isNone then none else (some (m_plain P0 (gS v106)))))))))))
def zb0 (P0:BookD) (P1:(List Int)) (P2:(List Int)):Prop:=PxP P0 P1 P2
def zdc (K:W.Frag) (A:Adr):Sp:=Spv (ι:=BookD×(List Int)×(List Int)) (λx=>[zaU A.Book x.1,dQ K (List.map dI x.2.1),dQ K (List.map dI x.2.2)]) (λx=>zb0 x.1 x.2.1 x.2.2) (λx=>znQ A.xc true (dOpt lI) (x_plain_road x.1 x.2.1 x.2.2))
theorem zga (F:Fun K "plain_road" "plain_road" zbl f fd) (T:Txt K mg A) (G_less:Callee P w K mg base (CXE P w) 2 "less" ["one","other"] (ze7 K A)) (G_plain:Callee P w K mg base (CXE P w) 8 "plain" ["book","road"] (zeV K A)) (G_way_to:Callee P w K mg base (CXE P w) 7 "way_to" ["book","basket"] (zeE K A)) (GX_refuse_bad_basket:Callee P w K mg base (CXE P w) 1 "refuse_bad_basket" ["book","basket"] (zbm K A)):FnOk P w K mg base (CXE P w) 9 f fd ["book","one","other"] (zdc K A):=by
 refine F.okVX zcC (λ_=>rfl) (λcdv Ar outer s H E x hr hp O=>?_)
 obtain ⟨P0,P1,P2⟩:=x
 have hu:=hr.units
 replace hp:zb0 P0 P1 P2:=hp
 unfold zb0 at hp
 refine ⟨_,(zcR (zka (xe_fn O GX_refuse_bad_basket (hr.mono (by decide)) rfl (pa_cons (pv 0) (pa_cons (pv 1) pa_nil))))
 (zcR (zka (xe_fn O GX_refuse_bad_basket (hr.mono (by decide)) rfl (pa_cons (pv 0) (pa_cons (pv 2) pa_nil))))
 (zcR (zf6 (zak (i:=3) zcC.nd rfl (Or.inl rfl) (pe_fn G_way_to (hr.mono (by decide)) rfl passE (pa_cons (pv 0) (pa_cons (pe_fn G_less (hr.mono (by decide)) rfl passE (pa_cons (pv 2) (pa_cons (pv 1) pa_nil))) pa_nil)))))
 (zcR (zf6 (zav (zgJ (pt_cmpR ziQ (pv 3) zer (nomark _)) zer (pe_fn G_plain (hr.mono (by decide)) rfl passE (pa_cons (pv 0) (pa_cons (pv 3) pa_nil))))))
 zgn)))),.inl ?_⟩
 show L2.Run _ ([.va false (zaU A.Book P0),.va false (dQ K (List.map dI P1)),.va false (dQ K (List.map dI P2)),.no]:L2.Ctx) _ (zof 4 (znQ A.xc true (dOpt lI) (x_plain_road P0 P1 P2)))
 rw [zj6]
 show L2.Run _ _ _ ((foX A.xc ([.no,.no,.no,.no]:L2.Ctx) (λ(r:(Option (List Int)))=>Oc.rt true (dOpt lI r))) (x_plain_road P0 P1 P2))
 unfold x_plain_road
 exact (zhq (λ(r:(Option (List Int)))=>Oc.rt true (dOpt lI r)) (P0,P1) (zab (zaa (i:=0) rfl) (zab (zaa (i:=1) rfl) zad)) rfl (by show zaI P0 P1;exact trivial) rfl (.no (.no (.no (.eq .nil)))) (λv108 hv108 =>
 (zhq (λ(r:(Option (List Int)))=>Oc.rt true (dOpt lI r)) (P0,P2) (zab (zaa (i:=0) rfl) (zab (zaa (i:=2) rfl) zad)) rfl (by show zaI P0 P2;exact trivial) rfl (.no (.no (.no (.eq .nil)))) (λv107 hv107 =>
 (zaj (m:=true) (x:=(m_way_to P0 (m_less P2 P1))) (dOpt lI) (foX A.xc ([.no,.no,.no,.no]:L2.Ctx) (λ(r:(Option (List Int)))=>Oc.rt true (dOpt lI r))) (zah (x:=(P0,(m_less P2 P1))) (zab (zaa (i:=0) rfl) (zab (Ev.weak (K:=K) (EvO.ev (EvO.anyI (m:=true) (zbg (x:=(P2,P1)) (zab (zaa (i:=2) rfl) (zab (zaa (i:=1) rfl) zad)) rfl (by show zcj P2 P1;exact (ziA hp (zgm (by assumption)) (zgm (by assumption))).2.2.1) rfl)))) zad)) rfl (by show zdn P0 (m_less P2 P1);exact zhK (ziA hp (zgm (by assumption)) (zgm (by assumption)))) rfl) (λv106 hv106 =>
 have hW:=hv106;(zag (zap (zmZ (dOpt lI) (b:=v106.isNone) (x:=none) (y:=(some (m_plain P0 (gS v106)))) (zao (zeF (x:=v106) (f:=lI) (Ev.old (zaa (i:=3) rfl)) zaw NN.lst)) (λhb=>zaw) (λhb=>(zah (x:=(P0,(gS v106))) (zab (zaa (i:=0) rfl) (zab (Ev.old (Ev.weak (K:=K) (ev_some (f:=lI) (x:=v106) (zaa (i:=3) rfl) (by exact some_of hb)))) zad)) rfl (by show zdo P0 (gS v106);exact zmF (ziA hp (zgm (by assumption)) (zgm (by assumption))) hW hb) rfl)))))))))))
theorem zqc (b:BookD) (x y:List Int):x_plain_road b x y=if (x.length:Int)=b.many∧(y.length:Int)=b.many then .ok (m_plain_road b x y) else .error .BadBasket:=by
 unfold x_plain_road zaz znx
 by_cases h:(x.length:Int)=b.many
 ·have e1:(!decide (((x.length:Nat):Int)=b.many))=false:=by simp [h]
  rw [e1]
  by_cases h2:(y.length:Int)=b.many
  ·have e2:(!decide (((y.length:Nat):Int)=b.many))=false:=by simp [h2]
   rw [e2,if_pos ⟨h,h2⟩]
   show Let (m_way_to b (m_less y x)) _=Except.ok (Let (m_way_to b (m_less y x)) _)
   unfold Let
   cases m_way_to b (m_less y x)<;>rfl
  ·have e2:(!decide (((y.length:Nat):Int)=b.many))=true:=by simp [h2]
   rw [e2,if_neg (λz=>h2 z.2)]
   rfl
 ·have e1:(!decide (((x.length:Nat):Int)=b.many))=true:=by simp [h]
  rw [e1,if_neg (λz=>h z.1)]
  rfl
def m_law_flags (P0:(Option Xn)):(List Bool) :=
 (Let [(zb3 zc2 P0),(zb3 zc8 P0),(zb3 zdG P0)] (λ(v109:(List Bool)) =>
 (Let (v109++[(zb3 zcO P0),(zb3 zbZ P0),(zb3 zcV P0)]) (λ(v110:(List Bool)) =>
 (Let (v110++[(zb3 zcN P0),(zb3 zcm P0),(zb3 zcK P0)]) (λ(v111:(List Bool)) =>
 (Let (v111++[(zb3 zcn P0),(zb3 zbB P0),(zb3 zbz P0)]) (λ(v112:(List Bool)) =>
 (Let (v112++[(zb3 zcL P0),(zb3 zbU P0),(zb3 zdr P0)]) (λ(v113:(List Bool)) =>
 (Let (v113++[(zb3 zcl P0),(zb3 zdl P0),(zb3 zdu P0)]) (λ(v114:(List Bool)) =>
 (v114++[(zb3 zd6 P0)])))))))))))))
def zcy (P0:(Option Xn)):Prop:=True
def zdR (K:W.Frag) (A:Adr):Sp:=Spv (ι:=(Option Xn)) (λx=>[dOpt (λe=>dE (A.xc e)) x]) (λx=>zcy x) (λx=>.ow true (List.map dB (m_law_flags x)))
theorem zbo:FnScope ["_law_caught","_law_flags_here"] ["_law_caught"] (defScope zb9):=⟨rfl,rfl,rfl,by decide +kernel,rfl,by decide +kernel,by decide +kernel⟩
theorem zhE (F:Fun K "_law_flags" "_law_flags" zb9 f fd) (T:Txt K mg A) :FnOk P w K mg base (CXE P w) 1 f fd ["_law_caught"] (zdR K A):=by
 refine F.okV zbo (λ_=>rfl) (λcdv Ar outer s H E P0 hr hp=>?_)
 have hu:=hr.units
 replace hp:zcy P0:=hp
 unfold zcy at hp
 refine ⟨_,(zac (zak (i:=1) zbo.nd rfl (Or.inl rfl) (za2 (pa_cons (pe_callB (call_isiB (K:=K) rfl) rfl T.isinstance PyProof.Rows.boot_isinstance (pa_cons (pv 0) (pa_cons (pe_glob (v:=.ref A.k_NotAlike) rfl T.k_NotAlike rfl) pa_nil))) (pa_cons (pe_callB (call_isiB (K:=K) rfl) rfl T.isinstance PyProof.Rows.boot_isinstance (pa_cons (pv 0) (pa_cons (pe_glob (v:=.ref A.k_BadWares) rfl T.k_BadWares rfl) pa_nil))) (pa_cons (pe_callB (call_isiB (K:=K) rfl) rfl T.isinstance PyProof.Rows.boot_isinstance (pa_cons (pv 0) (pa_cons (pe_glob (v:=.ref A.k_TooMany) rfl T.k_TooMany rfl) pa_nil))) pa_nil)))))
 (zac (zak (i:=1) zbo.nd rfl (Or.inl rfl) (zam zb4 (pv 1) (za2 (pa_cons (pe_callB (call_isiB (K:=K) rfl) rfl T.isinstance PyProof.Rows.boot_isinstance (pa_cons (pv 0) (pa_cons (pe_glob (v:=.ref A.k_BadSwap) rfl T.k_BadSwap rfl) pa_nil))) (pa_cons (pe_callB (call_isiB (K:=K) rfl) rfl T.isinstance PyProof.Rows.boot_isinstance (pa_cons (pv 0) (pa_cons (pe_glob (v:=.ref A.k_BadBasket) rfl T.k_BadBasket rfl) pa_nil))) (pa_cons (pe_callB (call_isiB (K:=K) rfl) rfl T.isinstance PyProof.Rows.boot_isinstance (pa_cons (pv 0) (pa_cons (pe_glob (v:=.ref A.k_BadRoad) rfl T.k_BadRoad rfl) pa_nil))) pa_nil))))))
 (zac (zak (i:=1) zbo.nd rfl (Or.inl rfl) (zam zb4 (pv 1) (za2 (pa_cons (pe_callB (call_isiB (K:=K) rfl) rfl T.isinstance PyProof.Rows.boot_isinstance (pa_cons (pv 0) (pa_cons (pe_glob (v:=.ref A.k_Endless) rfl T.k_Endless rfl) pa_nil))) (pa_cons (pe_callB (call_isiB (K:=K) rfl) rfl T.isinstance PyProof.Rows.boot_isinstance (pa_cons (pv 0) (pa_cons (pe_glob (v:=.ref A.k_TooGreat) rfl T.k_TooGreat rfl) pa_nil))) (pa_cons (pe_callB (call_isiB (K:=K) rfl) rfl T.isinstance PyProof.Rows.boot_isinstance (pa_cons (pv 0) (pa_cons (pe_glob (v:=.ref A.k_BadRest) rfl T.k_BadRest rfl) pa_nil))) pa_nil))))))
 (zac (zak (i:=1) zbo.nd rfl (Or.inl rfl) (zam zb4 (pv 1) (za2 (pa_cons (pe_callB (call_isiB (K:=K) rfl) rfl T.isinstance PyProof.Rows.boot_isinstance (pa_cons (pv 0) (pa_cons (pe_glob (v:=.ref A.k_BadScale) rfl T.k_BadScale rfl) pa_nil))) (pa_cons (pe_callB (call_isiB (K:=K) rfl) rfl T.isinstance PyProof.Rows.boot_isinstance (pa_cons (pv 0) (pa_cons (pe_glob (v:=.ref A.k_OtherWares) rfl T.k_OtherWares rfl) pa_nil))) (pa_cons (pe_callB (call_isiB (K:=K) rfl) rfl T.isinstance PyProof.Rows.boot_isinstance (pa_cons (pv 0) (pa_cons (pe_glob (v:=.ref A.k_BadBaskets) rfl T.k_BadBaskets rfl) pa_nil))) pa_nil))))))
 (zac (zak (i:=1) zbo.nd rfl (Or.inl rfl) (zam zb4 (pv 1) (za2 (pa_cons (pe_callB (call_isiB (K:=K) rfl) rfl T.isinstance PyProof.Rows.boot_isinstance (pa_cons (pv 0) (pa_cons (pe_glob (v:=.ref A.k_NotKept) rfl T.k_NotKept rfl) pa_nil))) (pa_cons (pe_callB (call_isiB (K:=K) rfl) rfl T.isinstance PyProof.Rows.boot_isinstance (pa_cons (pv 0) (pa_cons (pe_glob (v:=.ref A.k_OtherBook) rfl T.k_OtherBook rfl) pa_nil))) (pa_cons (pe_callB (call_isiB (K:=K) rfl) rfl T.isinstance PyProof.Rows.boot_isinstance (pa_cons (pv 0) (pa_cons (pe_glob (v:=.ref A.k_NoLine) rfl T.k_NoLine rfl) pa_nil))) pa_nil))))))
 (zac (zak (i:=1) zbo.nd rfl (Or.inl rfl) (zam zb4 (pv 1) (za2 (pa_cons (pe_callB (call_isiB (K:=K) rfl) rfl T.isinstance PyProof.Rows.boot_isinstance (pa_cons (pv 0) (pa_cons (pe_glob (v:=.ref A.k_BadNames) rfl T.k_BadNames rfl) pa_nil))) (pa_cons (pe_callB (call_isiB (K:=K) rfl) rfl T.isinstance PyProof.Rows.boot_isinstance (pa_cons (pv 0) (pa_cons (pe_glob (v:=.ref A.k_NoBook) rfl T.k_NoBook rfl) pa_nil))) (pa_cons (pe_callB (call_isiB (K:=K) rfl) rfl T.isinstance PyProof.Rows.boot_isinstance (pa_cons (pv 0) (pa_cons (pe_glob (v:=.ref A.k_NoName) rfl T.k_NoName rfl) pa_nil))) pa_nil))))))
 (zac (zav (zam zb4 (pv 1) (za2 (pa_cons (pe_callB (call_isiB (K:=K) rfl) rfl T.isinstance PyProof.Rows.boot_isinstance (pa_cons (pv 0) (pa_cons (pe_glob (v:=.ref A.k_NoSwap) rfl T.k_NoSwap rfl) pa_nil))) pa_nil))))
 zae))))))),.inl ?_⟩
 show L2.Run _ ([.va false (dOpt (λe=>dE (A.xc e)) P0),.no]:L2.Ctx) _ ((λr=>Oc.rl true (List.map dB r)) (m_law_flags P0))
 unfold m_law_flags
 exact (zaj (m:=true) (x:=[(zb3 zc2 P0),(zb3 zc8 P0),(zb3 zdG P0)]) (λ(xs:(List Bool))=>dL (List.map dB xs)) (λr=>Oc.rl true (List.map dB r)) (EvO.ev (zbD (zab (za6 (xc:=A.xc) (x:=P0) (f:=zc2) (zaa (i:=0) rfl) T.i0_NotAlike (λe=>match e with | .BadBasket=>⟨T.xcl_BadBasket,T.i_BadBasket_NotAlike⟩)) (zab (za6 (xc:=A.xc) (x:=P0) (f:=zc8) (zaa (i:=0) rfl) T.i0_BadWares (λe=>match e with | .BadBasket=>⟨T.xcl_BadBasket,T.i_BadBasket_BadWares⟩)) (zab (za6 (xc:=A.xc) (x:=P0) (f:=zdG) (zaa (i:=0) rfl) T.i0_TooMany (λe=>match e with | .BadBasket=>⟨T.xcl_BadBasket,T.i_BadBasket_TooMany⟩)) zad))) (by show 3≤sizeLine;decide))) (λv109 hv109 =>
 (zaj (m:=true) (x:=(v109++[(zb3 zcO P0),(zb3 zbZ P0),(zb3 zcV P0)])) (λ(xs:(List Bool))=>dL (List.map dB xs)) (λr=>Oc.rl true (List.map dB r)) (EvO.ev (EvO.anyB (m:=true) (zbc (f:=dB) (xs:=v109) (ys:=[(zb3 zcO P0),(zb3 zbZ P0),(zb3 zcV P0)]) (zaa (i:=1) rfl) (EvO.ev (zbD (zab (za6 (xc:=A.xc) (x:=P0) (f:=zcO) (zaa (i:=0) rfl) T.i0_BadSwap (λe=>match e with | .BadBasket=>⟨T.xcl_BadBasket,T.i_BadBasket_BadSwap⟩)) (zab (za6 (xc:=A.xc) (x:=P0) (f:=zbZ) (zaa (i:=0) rfl) T.i0_BadBasket (λe=>match e with | .BadBasket=>⟨T.xcl_BadBasket,T.i_BadBasket_BadBasket⟩)) (zab (za6 (xc:=A.xc) (x:=P0) (f:=zcV) (zaa (i:=0) rfl) T.i0_BadRoad (λe=>match e with | .BadBasket=>⟨T.xcl_BadBasket,T.i_BadBasket_BadRoad⟩)) zad))) (by show 3≤sizeLine;decide))) (by apply zai;subst_vars;simp only [List.length_append,List.length_cons,List.length_nil,List.length_map];omega)))) (λv110 hv110 =>
 (zaj (m:=true) (x:=(v110++[(zb3 zcN P0),(zb3 zcm P0),(zb3 zcK P0)])) (λ(xs:(List Bool))=>dL (List.map dB xs)) (λr=>Oc.rl true (List.map dB r)) (EvO.ev (EvO.anyB (m:=true) (zbc (f:=dB) (xs:=v110) (ys:=[(zb3 zcN P0),(zb3 zcm P0),(zb3 zcK P0)]) (zaa (i:=1) rfl) (EvO.ev (zbD (zab (za6 (xc:=A.xc) (x:=P0) (f:=zcN) (zaa (i:=0) rfl) T.i0_Endless (λe=>match e with | .BadBasket=>⟨T.xcl_BadBasket,T.i_BadBasket_Endless⟩)) (zab (za6 (xc:=A.xc) (x:=P0) (f:=zcm) (zaa (i:=0) rfl) T.i0_TooGreat (λe=>match e with | .BadBasket=>⟨T.xcl_BadBasket,T.i_BadBasket_TooGreat⟩)) (zab (za6 (xc:=A.xc) (x:=P0) (f:=zcK) (zaa (i:=0) rfl) T.i0_BadRest (λe=>match e with | .BadBasket=>⟨T.xcl_BadBasket,T.i_BadBasket_BadRest⟩)) zad))) (by show 3≤sizeLine;decide))) (by apply zai;subst_vars;simp only [List.length_append,List.length_cons,List.length_nil,List.length_map];omega)))) (λv111 hv111 =>
 (zaj (m:=true) (x:=(v111++[(zb3 zcn P0),(zb3 zbB P0),(zb3 zbz P0)])) (λ(xs:(List Bool))=>dL (List.map dB xs)) (λr=>Oc.rl true (List.map dB r)) (EvO.ev (EvO.anyB (m:=true) (zbc (f:=dB) (xs:=v111) (ys:=[(zb3 zcn P0),(zb3 zbB P0),(zb3 zbz P0)]) (zaa (i:=1) rfl) (EvO.ev (zbD (zab (za6 (xc:=A.xc) (x:=P0) (f:=zcn) (zaa (i:=0) rfl) T.i0_BadScale (λe=>match e with | .BadBasket=>⟨T.xcl_BadBasket,T.i_BadBasket_BadScale⟩)) (zab (za6 (xc:=A.xc) (x:=P0) (f:=zbB) (zaa (i:=0) rfl) T.i0_OtherWares (λe=>match e with | .BadBasket=>⟨T.xcl_BadBasket,T.i_BadBasket_OtherWares⟩)) (zab (za6 (xc:=A.xc) (x:=P0) (f:=zbz) (zaa (i:=0) rfl) T.i0_BadBaskets (λe=>match e with | .BadBasket=>⟨T.xcl_BadBasket,T.i_BadBasket_BadBaskets⟩)) zad))) (by show 3≤sizeLine;decide))) (by apply zai;subst_vars;simp only [List.length_append,List.length_cons,List.length_nil,List.length_map];omega)))) (λv112 hv112 =>
 (zaj (m:=true) (x:=(v112++[(zb3 zcL P0),(zb3 zbU P0),(zb3 zdr P0)])) (λ(xs:(List Bool))=>dL (List.map dB xs)) (λr=>Oc.rl true (List.map dB r)) (EvO.ev (EvO.anyB (m:=true) (zbc (f:=dB) (xs:=v112) (ys:=[(zb3 zcL P0),(zb3 zbU P0),(zb3 zdr P0)]) (zaa (i:=1) rfl) (EvO.ev (zbD (zab (za6 (xc:=A.xc) (x:=P0) (f:=zcL) (zaa (i:=0) rfl) T.i0_NotKept (λe=>match e with | .BadBasket=>⟨T.xcl_BadBasket,T.i_BadBasket_NotKept⟩)) (zab (za6 (xc:=A.xc) (x:=P0) (f:=zbU) (zaa (i:=0) rfl) T.i0_OtherBook (λe=>match e with | .BadBasket=>⟨T.xcl_BadBasket,T.i_BadBasket_OtherBook⟩)) (zab (za6 (xc:=A.xc) (x:=P0) (f:=zdr) (zaa (i:=0) rfl) T.i0_NoLine (λe=>match e with | .BadBasket=>⟨T.xcl_BadBasket,T.i_BadBasket_NoLine⟩)) zad))) (by show 3≤sizeLine;decide))) (by apply zai;subst_vars;simp only [List.length_append,List.length_cons,List.length_nil,List.length_map];omega)))) (λv113 hv113 =>
 (zaj (m:=true) (x:=(v113++[(zb3 zcl P0),(zb3 zdl P0),(zb3 zdu P0)])) (λ(xs:(List Bool))=>dL (List.map dB xs)) (λr=>Oc.rl true (List.map dB r)) (EvO.ev (EvO.anyB (m:=true) (zbc (f:=dB) (xs:=v113) (ys:=[(zb3 zcl P0),(zb3 zdl P0),(zb3 zdu P0)]) (zaa (i:=1) rfl) (EvO.ev (zbD (zab (za6 (xc:=A.xc) (x:=P0) (f:=zcl) (zaa (i:=0) rfl) T.i0_BadNames (λe=>match e with | .BadBasket=>⟨T.xcl_BadBasket,T.i_BadBasket_BadNames⟩)) (zab (za6 (xc:=A.xc) (x:=P0) (f:=zdl) (zaa (i:=0) rfl) T.i0_NoBook (λe=>match e with | .BadBasket=>⟨T.xcl_BadBasket,T.i_BadBasket_NoBook⟩)) (zab (za6 (xc:=A.xc) (x:=P0) (f:=zdu) (zaa (i:=0) rfl) T.i0_NoName (λe=>match e with | .BadBasket=>⟨T.xcl_BadBasket,T.i_BadBasket_NoName⟩)) zad))) (by show 3≤sizeLine;decide))) (by apply zai;subst_vars;simp only [List.length_append,List.length_cons,List.length_nil,List.length_map];omega)))) (λv114 hv114 =>
 (zdv (zfs (EvO.anyB (m:=true) (zbc (f:=dB) (xs:=v114) (ys:=[(zb3 zd6 P0)]) (zaa (i:=1) rfl) (EvO.ev (zbD (zab (za6 (xc:=A.xc) (x:=P0) (f:=zd6) (zaa (i:=0) rfl) T.i0_NoSwap (λe=>match e with | .BadBasket=>⟨T.xcl_BadBasket,T.i_BadBasket_NoSwap⟩)) zad) (by show 1≤sizeLine;decide))) (by apply zai;subst_vars;simp only [List.length_append,List.length_cons,List.length_nil,List.length_map];omega)))))))))))))))))
def m_law_only (P0:(Option Xn)) (P1:Str):Bool :=
 (Let [("NotAlike":Str),("BadWares":Str),("TooMany":Str),("BadSwap":Str),("BadBasket":Str),("BadRoad":Str),("Endless":Str),("TooGreat":Str)] (λ(v115:(List Str)) =>
 (Let (v115++[("BadRest":Str),("BadScale":Str),("OtherWares":Str),("BadBaskets":Str),("NotKept":Str),("OtherBook":Str),("NoLine":Str)]) (λ(v116:(List Str)) =>
 (Let (v116++[("BadNames":Str),("NoBook":Str),("NoName":Str),("NoSwap":Str)]) (λ(v117:(List Str)) =>
 ((zb3 zck P0)&&(decide ((m_law_flags P0)=(List.map (λ(x118:Str)=>(decide (x118=P1))) v117))))))))))
def zc7 (P0:(Option Xn)) (P1:Str):Prop:=True
def zeC (K:W.Frag) (A:Adr):Sp:=Spv (ι:=(Option Xn)×Str) (λx=>[dOpt (λe=>dE (A.xc e)) x.1,dS x.2]) (λx=>zc7 x.1 x.2) (λx=>.va true (dB (m_law_only x.1 x.2)))
theorem zdK:FnScope ["_law_caught","_law_name","_law_names"] ["_law_caught","_law_name"] (defScope s_law_only):=⟨rfl,rfl,rfl,by decide +kernel,rfl,by decide +kernel,by decide +kernel⟩
theorem zij (F:Fun K "_law_only" "_law_only" s_law_only f fd) (T:Txt K mg A) (G_law_flags:Callee P w K mg base (CXE P w) 1 "_law_flags" ["_law_caught"] (zdR K A)):FnOk P w K mg base (CXE P w) 2 f fd ["_law_caught","_law_name"] (zeC K A):=by
 refine F.okV zdK (λ_=>rfl) (λcdv Ar outer s H E x hr hp=>?_)
 obtain ⟨P0,P1⟩:=x
 have hu:=hr.units
 replace hp:zc7 P0 P1:=hp
 unfold zc7 at hp
 refine ⟨_,(zac (zak (i:=2) zdK.nd rfl (Or.inl rfl) (za2 (pa_cons zby (pa_cons zby (pa_cons zby (pa_cons zby (pa_cons zby (pa_cons zby (pa_cons zby (pa_cons zby pa_nil))))))))))
 (zac (zak (i:=2) zdK.nd rfl (Or.inl rfl) (zam zb4 (pv 2) (za2 (pa_cons zby (pa_cons zby (pa_cons zby (pa_cons zby (pa_cons zby (pa_cons zby (pa_cons zby pa_nil))))))))))
 (zac (zak (i:=2) zdK.nd rfl (Or.inl rfl) (zam zb4 (pv 2) (za2 (pa_cons zby (pa_cons zby (pa_cons zby (pa_cons zby pa_nil)))))))
 (zac (zav (zmK (pe_callB (call_isiB (K:=K) rfl) rfl T.isinstance PyProof.Rows.boot_isinstance (pa_cons (pv 0) (pa_cons (pe_bltn rfl T.ValueError (v:=.ty "ValueError") (u:=.type "ValueError") (by decide +kernel) rfl) pa_nil))) (pe_one (pe_cmpR (op_eq_K (K:=K) rfl hu) (pe_fn G_law_flags (hr.mono (by decide)) rfl passE (pa_cons (pv 0) pa_nil)) (pe_comp rfl (.of (osc:=(defScope s_law_only)) (N:=["_law_caught","_law_name","_law_names"]) (own:=["_law_other"]) (fvn:=["_law_name"]) (fv:=[1]) rfl rfl (by decide +kernel)) (pi_list_K (K:=K) rfl (pv 2)) (λ_ _ _ _ _=>⟨(pg_name (i:=0) (show (["_law_other","_law_name"]:List Str).Nodup by decide +kernel) rfl (Or.inl rfl) (Or.inr rfl)),pts_nil,(pe_cmpR op_eq (pv 0) (pv 1) (nomark _))⟩)) (nomark _)))))
 zae)))),.inl ?_⟩
 show L2.Run _ ([.va false (dOpt (λe=>dE (A.xc e)) P0),.va false (dS P1),.no]:L2.Ctx) _ ((λ(r:Bool)=>Oc.rt true (dB r)) (m_law_only P0 P1))
 unfold m_law_only
 exact (zaj (m:=true) (x:=[("NotAlike":Str),("BadWares":Str),("TooMany":Str),("BadSwap":Str),("BadBasket":Str),("BadRoad":Str),("Endless":Str),("TooGreat":Str)]) (λ(xs:(List Str))=>dL (List.map dS xs)) (λ(r:Bool)=>Oc.rt true (dB r)) (EvO.ev (zbD (zab zaw (zab zaw (zab zaw (zab zaw (zab zaw (zab zaw (zab zaw (zab zaw zad)))))))) (by show 8≤sizeLine;decide))) (λv115 hv115 =>
 (zaj (m:=true) (x:=(v115++[("BadRest":Str),("BadScale":Str),("OtherWares":Str),("BadBaskets":Str),("NotKept":Str),("OtherBook":Str),("NoLine":Str)])) (λ(xs:(List Str))=>dL (List.map dS xs)) (λ(r:Bool)=>Oc.rt true (dB r)) (EvO.ev (EvO.anyS (m:=true) (zbc (f:=dS) (xs:=v115) (ys:=[("BadRest":Str),("BadScale":Str),("OtherWares":Str),("BadBaskets":Str),("NotKept":Str),("OtherBook":Str),("NoLine":Str)]) (zaa (i:=2) rfl) (EvO.ev (zbD (zab zaw (zab zaw (zab zaw (zab zaw (zab zaw (zab zaw (zab zaw zad))))))) (by show 7≤sizeLine;decide))) (by apply zai;subst_vars;simp only [List.length_append,List.length_cons,List.length_nil,List.length_map];omega)))) (λv116 hv116 =>
 (zaj (m:=true) (x:=(v116++[("BadNames":Str),("NoBook":Str),("NoName":Str),("NoSwap":Str)])) (λ(xs:(List Str))=>dL (List.map dS xs)) (λ(r:Bool)=>Oc.rt true (dB r)) (EvO.ev (EvO.anyS (m:=true) (zbc (f:=dS) (xs:=v116) (ys:=[("BadNames":Str),("NoBook":Str),("NoName":Str),("NoSwap":Str)]) (zaa (i:=2) rfl) (EvO.ev (zbD (zab zaw (zab zaw (zab zaw (zab zaw zad)))) (by show 4≤sizeLine;decide))) (by apply zai;subst_vars;simp only [List.length_append,List.length_cons,List.length_nil,List.length_map];omega)))) (λv117 hv117 =>
 (zag (zap (zmf (b:=(zb3 zck P0)) (zlj (xc:=A.xc) (x:=P0) (f:=zck) (zaa (i:=0) rfl) T.i0_ValueError (λe=>match e with | .BadBasket=>⟨T.xcl_BadBasket,T.i_BadBasket_ValueError⟩)) (λhb=>(zgk (n:=0) (neg:=false) (xs:=(m_law_flags P0)) (ys:=(List.map (λ(x118:Str)=>(decide (x118=P1))) v117)) EqD.bool (Ev.weak (K:=K) (EvO.ev (EvO.anyB (m:=true) (zbg (x:=P0) (zab (zaa (i:=0) rfl) zad) rfl (by show zcy P0;exact trivial) rfl)))) (Ev.weak (K:=K) (EvO.ev (EvO.conv (zbN (g:=(λ(x118:Str)=>dB (decide (x118=P1)))) (zbX (m:=true) dS (xs:=v117) (Ev.weak (K:=K) (zaa (i:=2) rfl))) (by apply zai;subst_vars;simp only [List.length_append,List.length_cons,List.length_nil,List.length_map];omega) ⟨by decide,by decide⟩ (λi119 x118 hx120=>have v120:=List.mem_of_getElem? hx120;(zn0 (x:=x118) (y:=P1) (Ev.any (m:=true) (zaa (i:=0) rfl)) (Ev.any (m:=false) (zaa (i:=1) rfl))))) (by first | (rw [List.map_map];rfl) | (simp only [cond_true,cond_false];rw [List.map_map];rfl))))))))))))))))
def m_law_cell (P0:(List Int)) (P1:Int):Int :=
 (bif (decide (P1<((P0.length:Nat):Int))) then ((ixD P0 P1)%(2147483647:Int))
 else (0:Int))
def zco (P0:(List Int)) (P1:Int):Prop:=0≤P1
def zeB (K:W.Frag) (A:Adr):Sp:=Spv (ι:=(List Int)×Int) (λx=>[dQ K (List.map dI x.1),dI x.2]) (λx=>zco x.1 x.2) (λx=>.va true (dI (m_law_cell x.1 x.2)))
theorem zhY:FnScope ["_law_script","_law_k"] ["_law_script","_law_k"] (defScope zcG):=⟨rfl,rfl,rfl,by decide +kernel,rfl,by decide +kernel,by decide +kernel⟩
theorem zhU (F:Fun K "_law_cell" "_law_cell" zcG f fd) (T:Txt K mg A) :FnOk P w K mg base (CXE P w) 1 f fd ["_law_script","_law_k"] (zeB K A):=by
 refine F.okV zhY (λ_=>rfl) (λcdv Ar outer s H E x hr hp=>?_)
 obtain ⟨P0,P1⟩:=x
 have hu:=hr.units
 replace hp:zco P0 P1:=hp
 unfold zco at hp
 refine ⟨_,(zac (zbw (pt_cmpR zjm (pv 1) (pe_callB (call_len_K (K:=K) rfl) rfl T.len PySem.boot_len (pa_cons (pv 0) pa_nil)) (nomark _))
 (zac (zav (zam zbO (zbI (zax (K:=K) rfl) (pv 0) (pv 1) (λ_ _=>rfl)) zaf))
 zae)
 zae)
 (zac (zav zaf)
 zae)),.inl ?_⟩
 show L2.Run _ ([.va false (dQ K (List.map dI P0)),.va false (dI P1)]:L2.Ctx) _ ((λ(r:Int)=>Oc.rt true (dI r)) (m_law_cell P0 P1))
 unfold m_law_cell
 exact (zaB (b:=(decide (P1<((P0.length:Nat):Int)))) (λ(r:Int)=>Oc.rt true (dI r)) (zao (zaD (x:=P1) (y:=((P0.length:Nat):Int)) (Ev.any (m:=false) (zaa (i:=1) rfl)) (zaG (f:=dI) (xs:=P0) (zaa (i:=0) rfl)))) (λh121=>(zan (zag (zap (zau (x:=(ixD P0 P1)) (y:=(2147483647:Int)) (Ev.any (m:=false) (zb1 (f:=dI) (xs:=P0) (zaa (i:=0) rfl) (Ev.any (m:=false) (zaa (i:=1) rfl)) (by unfold InB;constructor<;>((try simp only [decide_eq_true_eq,decide_eq_false_iff_not,Bool.not_eq_true',Bool.not_eq_false',Bool.and_eq_true,Bool.or_eq_false_iff,Bool.or_eq_true,Bool.and_eq_false_iff,Bool.cond_eq_ite] at *)<;>omega)))) zaw (by decide)))))) (λh121 =>
 (zal (zag (zap zaw)))))
theorem zmR {s:List Int} {i:Nat} {y:Int} (h:s.length≤i):(s++[y]).length≤i+1:=by simp;omega
theorem zoD {s:List Int} {i n:Nat} {x lo:Int} (h:s.length≤i) (hx:i<n∧x=lo+(i:Int)) (hn:n≤400):s.length<PySem.sizeLine:=Nat.lt_of_le_of_lt (show _≤10000 by omega) (by decide)
def m_law_raw (P0:(List Int)) (P1:Int):Int :=
 (bif (decide (P1<((P0.length:Nat):Int))) then (ixD P0 P1)
 else (0:Int))
def zcT (P0:(List Int)) (P1:Int):Prop:=0≤P1
def zfi (K:W.Frag) (A:Adr):Sp:=Spv (ι:=(List Int)×Int) (λx=>[dQ K (List.map dI x.1),dI x.2]) (λx=>zcT x.1 x.2) (λx=>.va true (dI (m_law_raw x.1 x.2)))
theorem zi3:FnScope ["_law_script","_law_k"] ["_law_script","_law_k"] (defScope zdt):=⟨rfl,rfl,rfl,by decide +kernel,rfl,by decide +kernel,by decide +kernel⟩
theorem zi7 (F:Fun K "_law_raw" "_law_raw" zdt f fd) (T:Txt K mg A) :FnOk P w K mg base (CXE P w) 1 f fd ["_law_script","_law_k"] (zfi K A):=by
 refine F.okV zi3 (λ_=>rfl) (λcdv Ar outer s H E x hr hp=>?_)
 obtain ⟨P0,P1⟩:=x
 have hu:=hr.units
 replace hp:zcT P0 P1:=hp
 unfold zcT at hp
 refine ⟨_,(zac (zbw (pt_cmpR zjm (pv 1) (pe_callB (call_len_K (K:=K) rfl) rfl T.len PySem.boot_len (pa_cons (pv 0) pa_nil)) (nomark _))
 (zac (zav (zbI (zax (K:=K) rfl) (pv 0) (pv 1) (λ_ _=>rfl)))
 zae)
 zae)
 (zac (zav zaf)
 zae)),.inl ?_⟩
 show L2.Run _ ([.va false (dQ K (List.map dI P0)),.va false (dI P1)]:L2.Ctx) _ ((λ(r:Int)=>Oc.rt true (dI r)) (m_law_raw P0 P1))
 unfold m_law_raw
 exact (zaB (b:=(decide (P1<((P0.length:Nat):Int)))) (λ(r:Int)=>Oc.rt true (dI r)) (zao (zaD (x:=P1) (y:=((P0.length:Nat):Int)) (Ev.any (m:=false) (zaa (i:=1) rfl)) (zaG (f:=dI) (xs:=P0) (zaa (i:=0) rfl)))) (λh122=>(zan (zag (zap (Ev.any (m:=false) (zb1 (f:=dI) (xs:=P0) (zaa (i:=0) rfl) (Ev.any (m:=false) (zaa (i:=1) rfl)) (by unfold InB;simp only [decide_eq_true_eq] at *;omega))))))) (λh122 =>
 (zal (zag (zap zaw)))))
def m_law_thing (P0:Int) (P1:Int) (P2:Int):Int :=
 (Let (P0/(2147483647:Int)) (λ(v123:Int) =>
 (bif (decide ((v123%(2:Int))=(1:Int))) then (Let (v123/(2:Int)) (λ(v125:Int) =>
 (Let (List.foldl (λ(s126:Int) (x127:Int)=>(Let (s126/(60:Int)) (λ(v131:Int) =>
 v131))) v125 (zaW 0 P1.toNat)) (λ(r132:Int) =>
 ((r132%(60:Int))%P2)))))
 else (Let (((((P0%(2147483647:Int))*(48271:Int))+(((69621:Int)*P1)*P1))+((7:Int)*P1))%(2147483629:Int)) (λ(v133:Int) =>
 (Let ((v133*v133)%(2147483587:Int)) (λ(v134:Int) =>
 (((v134*(v134+(48271:Int)))%(2147483563:Int))%P2))))))))
def zay (P0:Int) (P1:Int) (P2:Int):Prop:=0≤P1∧P1≤1000∧0<P2
def zbp (K:W.Frag) (A:Adr):Sp:=Spv (ι:=Int×Int×Int) (λx=>[dI x.1,dI x.2.1,dI x.2.2]) (λx=>zay x.1 x.2.1 x.2.2) (λx=>.va true (dI (m_law_thing x.1 x.2.1 x.2.2)))
theorem zbn:FnScope ["_law_cell_here","_law_k","_law_many","_law_free","_law_step","_law_number"] ["_law_cell_here","_law_k","_law_many"] (defScope zb6):=⟨rfl,rfl,rfl,by decide +kernel,rfl,by decide +kernel,by decide +kernel⟩
theorem zg7 (F:Fun K "_law_thing" "_law_thing" zb6 f fd) (T:Txt K mg A) :FnOk P w K mg base (CXE P w) 1 f fd ["_law_cell_here","_law_k","_law_many"] (zbp K A):=by
 refine F.okV zbn (λ_=>rfl) (λcdv Ar outer s H E x hr hp=>?_)
 obtain ⟨P0,P1,P2⟩:=x
 have hu:=hr.units
 replace hp:zay P0 P1 P2:=hp
 unfold zay at hp
 refine ⟨_,(zac (zak (i:=3) zbn.nd rfl (Or.inl rfl) (zam zaS (pv 0) zaf))
 (zac (zbw (pt_cmpR op_eq (zam zbO (pv 3) zaf) zaf (nomark _))
 (zac (zak (i:=3) zbn.nd rfl (Or.inl rfl) (zam zaS (pv 3) zaf))
 (zac (zcx PassesOwn.never rfl (zbC rfl T.range (pa_cons (pv 1) pa_nil)) (pg_name (i:=4) zbn.nd rfl (Or.inl rfl) (Or.inl rfl))
 (zac (zak (i:=3) zbn.nd rfl (Or.inl rfl) (zam zaS (pv 3) zaf))
 zae))
 (zac (zav (zam zbO (zam zbO (pv 3) zaf) (pv 2)))
 zae)))
 zae)
 (zac (zak (i:=5) zbn.nd rfl (Or.inl rfl) (zam zbO (zam zbt (zam zbt (zam zbb (zam zbO (pv 0) zaf) zaf) (zam zbb (zam zbb zaf (pv 1)) (pv 1))) (zam zbb zaf (pv 1))) zaf))
 (zac (zak (i:=5) zbn.nd rfl (Or.inl rfl) (zam zbO (zam zbb (pv 5) (pv 5)) zaf))
 (zac (zav (zam zbO (zam zbO (zam zbb (pv 5) (zam zbt (pv 5) zaf)) zaf) (pv 2)))
 zae))))),.inl ?_⟩
 show L2.Run _ ([.va false (dI P0),.va false (dI P1),.va false (dI P2),.no,.no,.no]:L2.Ctx) _ ((λ(r:Int)=>Oc.rt true (dI r)) (m_law_thing P0 P1 P2))
 unfold m_law_thing
 exact (zaj (m:=true) (x:=(P0/(2147483647:Int))) dI (λ(r:Int)=>Oc.rt true (dI r)) (zau (x:=P0) (y:=(2147483647:Int)) (Ev.any (m:=false) (zaa (i:=0) rfl)) zaw (by exact ⟨by decide,by decide⟩)) (λv123 hv123 =>
 (zaB (b:=(decide ((v123%(2:Int))=(1:Int)))) (λ(r:Int)=>Oc.rt true (dI r)) (zao (zds (x:=(v123%(2:Int))) (y:=(1:Int)) (zau (x:=v123) (y:=(2:Int)) (Ev.any (m:=true) (zaa (i:=3) rfl)) zaw (by decide)) zaw)) (λh124=>(zan (zaj (m:=true) (x:=(v123/(2:Int))) dI (λ(r:Int)=>Oc.rt true (dI r)) (zau (x:=v123) (y:=(2:Int)) (Ev.any (m:=true) (zaa (i:=3) rfl)) zaw (by exact ⟨by decide,by decide⟩)) (λv125 hv125 =>
 (zan (zbS (s0:=v125) (λ(s126:Int)=>([.va false (dI P0),.va false (dI P1),.va false (dI P2),.va true (dI s126),.no,.no]:L2.Ctx)) (λ(r:Int)=>Oc.rt true (dI r)) (λ(s126:Int) (x127:Int)=>(Let (s126/(60:Int)) (λ(v131:Int) =>
 v131))) (λ_ _=>True) (zdb (m:=true) (n:=P1) (Ev.any (m:=false) (zaa (i:=1) rfl)) (by refine ⟨?_,?_⟩<;>omega)) (.eq (.eq (.eq (.eq (.eq (.eq .nil)))))) trivial (λi128 x127 s126 hx129 hI130=>have v129:=zbf hx129;⟨trivial,
 (zaj (m:=true) (x:=(s126/(60:Int))) dI (λz=>Oc.nx ((λ(s126:Int)=>([.va false (dI P0),.va false (dI P1),.va false (dI P2),.va true (dI s126),.no,.no]:L2.Ctx)) z)) (zau (x:=s126) (y:=(60:Int)) (Ev.any (m:=true) (zaa (i:=3) rfl)) zaw (by exact ⟨by decide,by decide⟩)) (λv131 hv131 =>
 (zar (.eq (.eq (.eq (.eq (.no (.eq .nil)))))))))⟩) (λr132 hr132 hI =>
 (zan (zag (zap (zau (x:=(r132%(60:Int))) (y:=P2) (zau (x:=r132) (y:=(60:Int)) (Ev.any (m:=true) (zaa (i:=3) rfl)) zaw (by decide)) (Ev.any (m:=false) (zaa (i:=2) rfl)) (by exact hp.2.2)))))))))))) (λh124 =>
 (zal (zaj (m:=true) (x:=(((((P0%(2147483647:Int))*(48271:Int))+(((69621:Int)*P1)*P1))+((7:Int)*P1))%(2147483629:Int))) dI (λ(r:Int)=>Oc.rt true (dI r)) (zau (x:=((((P0%(2147483647:Int))*(48271:Int))+(((69621:Int)*P1)*P1))+((7:Int)*P1))) (y:=(2147483629:Int)) (zaD (x:=(((P0%(2147483647:Int))*(48271:Int))+(((69621:Int)*P1)*P1))) (y:=((7:Int)*P1)) (zaD (x:=((P0%(2147483647:Int))*(48271:Int))) (y:=(((69621:Int)*P1)*P1)) (zau (x:=(P0%(2147483647:Int))) (y:=(48271:Int)) (zau (x:=P0) (y:=(2147483647:Int)) (Ev.any (m:=false) (zaa (i:=0) rfl)) zaw (by decide)) zaw (by exact .inl ⟨by omega,by omega⟩)) (zau (x:=((69621:Int)*P1)) (y:=P1) (zau (x:=(69621:Int)) (y:=P1) zaw (Ev.any (m:=false) (zaa (i:=1) rfl)) (by exact .inl ⟨by omega,by omega⟩)) (Ev.any (m:=false) (zaa (i:=1) rfl)) (by exact .inl ⟨by omega,by omega⟩))) (zau (x:=(7:Int)) (y:=P1) zaw (Ev.any (m:=false) (zaa (i:=1) rfl)) (by exact .inl ⟨by omega,by omega⟩))) zaw (by decide)) (λv133 hv133 =>
 have hNnumber133:=hv133;(zaj (m:=true) (x:=((v133*v133)%(2147483587:Int))) dI (λ(r:Int)=>Oc.rt true (dI r)) (zau (x:=(v133*v133)) (y:=(2147483587:Int)) (zau (x:=v133) (y:=v133) (Ev.any (m:=true) (zaa (i:=5) rfl)) (Ev.any (m:=true) (zaa (i:=5) rfl)) (by exact .inl ⟨by omega,by omega⟩)) zaw (by decide)) (λv134 hv134 =>
 have hNnumber134:=hv134;(zag (zap (zau (x:=((v134*(v134+(48271:Int)))%(2147483563:Int))) (y:=P2) (zau (x:=(v134*(v134+(48271:Int)))) (y:=(2147483563:Int)) (zau (x:=v134) (y:=(v134+(48271:Int))) (Ev.any (m:=true) (zaa (i:=5) rfl)) (zaD (x:=v134) (y:=(48271:Int)) (Ev.any (m:=true) (zaa (i:=5) rfl)) zaw) (by exact .inl ⟨by omega,by omega⟩)) zaw (by decide)) (Ev.any (m:=false) (zaa (i:=2) rfl)) (by exact hp.2.2)))))))))))))
theorem zcz {c k m:Int} (hm:0<m):0≤m_law_thing c k m∧m_law_thing c k m<m:=by
 unfold m_law_thing Let
 dsimp only
 have key:∀ b:Bool,∀ x y:Int,0≤(bif b then x%m else y%m)∧(bif b then x%m else y%m)<m:=λb x y=>by
  cases b
  ·exact ⟨Int.emod_nonneg y (by omega),Int.emod_lt_of_pos y hm⟩
  ·exact ⟨Int.emod_nonneg x (by omega),Int.emod_lt_of_pos x hm⟩
 exact key _ _ _
def Sq (w:Nat) (n:Nat) (rows:List (List Int)):Prop:=rows.length=n∧∀ r∈rows,r.length=w
def FrI (w:Nat) (s:List (List Int)×List (List Int)):Prop:=Sq w w s.1∧Sq w w s.2
theorem zkA {w n:Nat} {rows:List (List Int)} {i:Int} {y:List Int} (h:Sq w n rows) (hy:y.length=w):Sq w n (setZ rows i y):=⟨by rw [zd5];exact h.1,λr hr=>by
 rcases Lat.setZ_mem hr with rfl | hr
 ·exact hy
 ·exact h.2 r hr⟩
theorem zky {w n:Nat} {b:Bool} {rows ys:List (List Int)} (h:Sq w n rows) (k:Sq w n ys):Sq w n (bif b then ys else rows):=by cases b<;>assumption
theorem sq_ix {w n:Nat} {rows:List (List Int)} {x:Int} (h:Sq w n rows) (h0:0≤x) (h1:x<(n:Int)):InB rows.length x:=by rw [h.1];unfold InB;omega
theorem zjB {w n:Nat} {rows:List (List Int)} {x:Int} (h:Sq w n rows) (h0:0≤x) (h1:x<(n:Int)):(ixD rows x).length=w:=h.2 _ (zdx (sq_ix h h0 h1))
theorem zpe {α:Type} {w n:Nat} {xs:List α} {f:α->List Int} (h:xs.length=n) (k:∀ x,(f x).length=w):Sq w n (List.map f xs):=⟨by rw [List.length_map];exact h,λr hr=>by obtain ⟨x,_,rfl⟩:=List.mem_map.mp hr;exact k x⟩
theorem sq_zip {w n m:Nat} {rows ys:List (List Int)} {x y:Int} {f:Int×Int->Int} (h:Sq w n rows) (k:Sq w m ys) (h0:0≤x∧x<(n:Int)) (h1:0≤y∧y<(m:Int)):(List.map f (List.zip (ixD rows x) (ixD ys y))).length=w:=by
 rw [List.length_map,List.length_zip,zjB h h0.1 h0.2,zjB k h1.1 h1.2];omega
theorem zjy {w n m:Nat} {rows ys:List (List Int)} {x y:Int} (h:Sq w n rows) (h0:0≤x∧x<(n:Int)) (hw:w≤1000):(List.zip (ixD rows x) (ixD ys y)).length≤PySem.sizeLine:=zai (by rw [List.length_zip,zjB h h0.1 h0.2];omega)
theorem znB {W:Nat} {s:List (List Int)×List (List Int)} {x y:Int} (h:FrI W s) (hx:0≤x∧x<(W:Int)) (hw:W≤8):(List.zip (ixD s.1 x) (ixD s.1 y)).length≤PySem.sizeLine:=zjy (ys:=s.1) (m:=0) h.1 hx (by omega)
theorem znH {W:Nat} {s:List (List Int)×List (List Int)} {x y:Int} (h:FrI W s) (hx:0≤x∧x<(W:Int)) (hw:W≤8):(List.zip (ixD s.2 x) (ixD s.2 y)).length≤PySem.sizeLine:=zjy (ys:=s.2) (m:=0) h.2 hx (by omega)
theorem ziu {w:Int} {W:Nat} {a b:List (List Int)} (hw:w=(W:Int)) (ha:a=List.map (λ(x:Int)=>List.map (λ(y:Int)=>(if (decide (y=x)) then (1:Int) else 0)) (zaW 0 w.toNat)) (zaW 0 w.toNat)) (hb:b=List.map (λ(x:List Int)=>x) a):FrI W (a,b):=by
 have h1:Sq W W a:=by
  subst ha
  exact zpe (by rw [zaC];omega) λx=>by rw [List.length_map,zaC];omega
 exact ⟨h1,by subst hb;rw [List.map_id'];exact h1⟩
theorem zjH {W:Nat} {s:List (List Int)×List (List Int)} {b:Bool} {x y q:Int} (h:FrI W s) (hx:0≤x∧x<(W:Int)) (hy:0≤y∧y<(W:Int)):FrI W (bif b then (setZ s.1 y (List.map (λ(z:Int×Int)=>(z.1+(q*z.2))) (List.zip (ixD s.1 y) (ixD s.1 x)))) else s.1,bif b then (setZ s.2 x (List.map (λ(z:Int×Int)=>(z.1-(q*z.2))) (List.zip (ixD s.2 x) (ixD s.2 y)))) else s.2) :=
 ⟨zky h.1 (zkA h.1 (sq_zip h.1 h.1 hy hx)),zky h.2 (zkA h.2 (sq_zip h.2 h.2 hx hy))⟩
theorem zc3 {c k w x:Int} {W:Nat} (hw:w=(W:Int)) (h1:1≤w) (e:x=m_law_thing c k w):0≤x∧x<(W:Int):=by
 subst e;have:=zcz (c:=c) (k:=k) (m:=w) (by omega);omega
theorem ziU {c k x:Int} (e:x=m_law_thing c k (5:Int)-(2:Int)):-2≤x∧x≤2:=by
 subst e;have:=zcz (c:=c) (k:=k) (m:=5) (by decide);omega
theorem znF {c k x:Int} (e:x=m_law_thing c k (7:Int)):InB 7 x:=by
 subst e;have:=zcz (c:=c) (k:=k) (m:=7) (by decide);unfold InB;omega
def m_law_frame (P0:Int) (P1:(List Int)):((List (List Int))×(List (List Int))) :=
 (Let (List.map (λ(x135:Int)=>(List.map (λ(x138:Int)=>(if (decide (x138=x135)) then 1 else 0)) (zaW 0 P0.toNat))) (zaW 0 P0.toNat)) (λ(v141:(List (List Int))) =>
 (Let (List.map (λ(x142:(List Int))=>x142) v141) (λ(v145:(List (List Int))) =>
 (Let (List.foldl (λ(s146:(List (List Int))×(List (List Int))) (x147:Int)=>(Let (m_law_thing x147 (1:Int) P0) (λ(v151:Int) =>
 (Let (m_law_thing x147 (2:Int) P0) (λ(v152:Int) =>
 (Let ((m_law_thing x147 (3:Int) (5:Int))-(2:Int)) (λ(v153:Int) =>
 (Let (bif (!decide (v151=v152)) then (setZ s146.1 v152 (List.map (λ(x155:(Int×Int))=>(x155.1+(v153*x155.2))) (List.zip (ixD s146.1 v152) (ixD s146.1 v151)))) else s146.1) (λ(v161:(List (List Int))) =>
 (Let (bif (!decide (v151=v152)) then (setZ s146.2 v151 (List.map (λ(x158:(Int×Int))=>(x158.1-(v153*x158.2))) (List.zip (ixD s146.2 v151) (ixD s146.2 v152)))) else s146.2) (λ(v162:(List (List Int))) =>
 (v161,v162)))))))))))) (v141,v145) P1) (λ(r163:(List (List Int))×(List (List Int))) =>
 (r163.1,r163.2)))))))
def zcA (P0:Int) (P1:(List Int)):Prop:=1≤P0∧P0≤8
def zd0 (K:W.Frag) (A:Adr):Sp:=Spv (ι:=Int×(List Int)) (λx=>[dI x.1,dQ K (List.map dI x.2)]) (λx=>zcA x.1 x.2) (λx=>.va true (dT [dL (List.map lI ((m_law_frame x.1 x.2).1)),dL (List.map lI ((m_law_frame x.1 x.2).2))]))
theorem zbq:FnScope ["_law_wide","_law_cells","_law_rows","_law_duals","_law_cell_here","_law_one","_law_two","_law_many"] ["_law_wide","_law_cells"] (defScope zaV):=⟨rfl,rfl,rfl,by decide +kernel,rfl,by decide +kernel,by decide +kernel⟩
theorem zhy (F:Fun K "_law_frame" "_law_frame" zaV f fd) (T:Txt K mg A) (G_law_thing:Callee P w K mg base (CXE P w) 1 "_law_thing" ["_law_cell_here","_law_k","_law_many"] (zbp K A)):FnOk P w K mg base (CXE P w) 2 f fd ["_law_wide","_law_cells"] (zd0 K A):=by
 refine F.okV zbq (λ_=>rfl) (λcdv Ar outer s H E x hr hp=>?_)
 obtain ⟨P0,P1⟩:=x
 have hu:=hr.units
 replace hp:zcA P0 P1:=hp
 unfold zcA at hp
 obtain ⟨W,hW⟩:∃ W:Nat,P0=(W:Int):=⟨P0.toNat,by omega⟩
 refine ⟨_,(zac (zdX (i:=2) rfl zbq.nd rfl rfl (.of (osc:=(defScope zaV)) (N:=["_law_wide","_law_cells","_law_rows","_law_duals","_law_cell_here","_law_one","_law_two","_law_many"]) (own:=["_law_k"]) (fvn:=["_law_wide"]) (fv:=[0]) rfl rfl (by decide +kernel)) (zbC rfl T.range (pa_cons (pv 0) pa_nil)) (λ_ _ _ _ _=>⟨(pg_name (i:=0) (show (["_law_k","_law_wide"]:List Str).Nodup by decide +kernel) rfl (Or.inr rfl) (Or.inl rfl)),pts_nil,(pe_comp rfl (.of (osc:=({ kind:=.function,names:=[(".0",.local),("_law_k",.cell),("range",.globalImplicit),("_law_wide",.cell)],isGenerator:=false,isCoroutine:=false }:Scope)) (N:=["_law_k","_law_wide"]) (own:=["_law_j"]) (fvn:=["_law_k"]) (fv:=[0]) rfl rfl (by decide +kernel)) (zbC rfl T.range (pa_cons (pv 1) pa_nil)) (λ_ _ _ _ _=>⟨(pg_name (i:=0) (show (["_law_j","_law_k"]:List Str).Nodup by decide +kernel) rfl (Or.inl rfl) (Or.inr rfl)),pts_nil,(zbA zhm rfl T.int (by decide +kernel) (pa_cons (pe_cmpR op_eq (pv 0) (pv 1) (nomark _)) pa_nil))⟩))⟩))
 (zac (zdX (i:=3) rfl zbq.nd rfl rfl (.of (osc:=(defScope zaV)) (N:=["_law_wide","_law_cells","_law_rows","_law_duals","_law_cell_here","_law_one","_law_two","_law_many"]) (own:=["_law_row"]) (fvn:=[]) (fv:=[]) rfl rfl (by decide +kernel)) (pi_list_K (K:=K) rfl (pv 2)) (λ_ _ _ _ _=>⟨(pg_name (i:=0) (show (["_law_row"]:List Str).Nodup by decide +kernel) rfl (Or.inl rfl) (Or.inr rfl)),pts_nil,(zbA (zbj (K:=K) rfl) rfl T.list PyProof.Rows.boot_list (pa_cons (pv 0) pa_nil))⟩))
 (zac (zcx PassesOwn.never rfl (pi_list_K (K:=K) rfl (pv 1)) (pg_name (i:=4) zbq.nd rfl (Or.inl rfl) (Or.inl rfl))
 (zac (zak (i:=5) zbq.nd rfl (Or.inl rfl) (pe_fn G_law_thing (hr.mono (by decide)) rfl passE (pa_cons (pv 4) (pa_cons zaf (pa_cons (pv 0) pa_nil)))))
 (zac (zak (i:=6) zbq.nd rfl (Or.inl rfl) (pe_fn G_law_thing (hr.mono (by decide)) rfl passE (pa_cons (pv 4) (pa_cons zaf (pa_cons (pv 0) pa_nil)))))
 (zac (zak (i:=7) zbq.nd rfl (Or.inr rfl) (zam zeq (pe_fn G_law_thing (hr.mono (by decide)) rfl passE (pa_cons (pv 4) (pa_cons zaf (pa_cons zaf pa_nil)))) zaf))
 (zac (zbw (pt_cmpR op_ne (pv 5) (pv 6) (nomark _))
 (zac (zep (pe_comp rfl (.of (osc:=(defScope zaV)) (N:=["_law_wide","_law_cells","_law_rows","_law_duals","_law_cell_here","_law_one","_law_two","_law_many"]) (own:=["_law_a","_law_b"]) (fvn:=["_law_many"]) (fv:=[7]) rfl rfl (by decide +kernel)) (zcE (K:=K) rfl rfl T.zip (pa_cons (zbI (zax (K:=K) rfl) (pv 2) (pv 6) (λ_ _=>rfl)) (pa_cons (zbI (zax (K:=K) rfl) (pv 2) (pv 5) (λ_ _=>rfl)) pa_nil))) (λ_ _ _ _ _=>⟨(zaR (K:=K) (n:=2) rfl rfl (zas (pg_name (i:=0) (show (["_law_a","_law_b","_law_many"]:List Str).Nodup by decide +kernel) rfl (Or.inl rfl) (Or.inr rfl)) (zas (pg_name (i:=1) (show (["_law_a","_law_b","_law_many"]:List Str).Nodup by decide +kernel) rfl (Or.inl rfl) (Or.inr rfl)) zbe))),pts_nil,(zam zbt (pv 0) (zam zbb (pv 2) (pv 1)))⟩)) (zhu (pv 2) (pv 6) set_list))
 (zac (zep (pe_comp rfl (.of (osc:=(defScope zaV)) (N:=["_law_wide","_law_cells","_law_rows","_law_duals","_law_cell_here","_law_one","_law_two","_law_many"]) (own:=["_law_a","_law_b"]) (fvn:=["_law_many"]) (fv:=[7]) rfl rfl (by decide +kernel)) (zcE (K:=K) rfl rfl T.zip (pa_cons (zbI (zax (K:=K) rfl) (pv 3) (pv 5) (λ_ _=>rfl)) (pa_cons (zbI (zax (K:=K) rfl) (pv 3) (pv 6) (λ_ _=>rfl)) pa_nil))) (λ_ _ _ _ _=>⟨(zaR (K:=K) (n:=2) rfl rfl (zas (pg_name (i:=0) (show (["_law_a","_law_b","_law_many"]:List Str).Nodup by decide +kernel) rfl (Or.inl rfl) (Or.inr rfl)) (zas (pg_name (i:=1) (show (["_law_a","_law_b","_law_many"]:List Str).Nodup by decide +kernel) rfl (Or.inl rfl) (Or.inr rfl)) zbe))),pts_nil,(zam zeq (pv 0) (zam zbb (pv 2) (pv 1)))⟩)) (zhu (pv 3) (pv 5) set_list))
 zae))
 zae)
 zae)))))
 (zac (zav (zfj (pa_cons (pv 2) (pa_cons (pv 3) pa_nil))))
 zae)))),.inl ?_⟩
 show L2.Run _ ([.va false (dI P0),.va false (dQ K (List.map dI P1)),.no,.no,.no,.no,.no,.no]:L2.Ctx) _ ((λ(r:((List (List Int))×(List (List Int))))=>Oc.rt true (dT [dL (List.map lI r.1),dL (List.map lI r.2)])) (m_law_frame P0 P1))
 unfold m_law_frame
 exact (run_letO (m:=true) (x:=(List.map (λ(x135:Int)=>(List.map (λ(x138:Int)=>(if (decide (x138=x135)) then 1 else 0)) (zaW 0 P0.toNat))) (zaW 0 P0.toNat))) (λz=>List.map lI z) (λ(r:((List (List Int))×(List (List Int))))=>Oc.rt true (dT [dL (List.map lI r.1),dL (List.map lI r.2)])) (EvO.conv (zbN (g:=(λ(x135:Int)=>dL (List.map dI (List.map (λ(x138:Int)=>(if (decide (x138=x135)) then 1 else 0)) (zaW 0 P0.toNat))))) (zdb (m:=true) (n:=P0) (Ev.any (m:=false) (zaa (i:=0) rfl)) (by refine ⟨?_,?_⟩<;>omega)) (by exact zai (by rw [zaC];omega)) ⟨by decide,by decide⟩ (λi136 x135 hx137=>have v137:=zbf hx137;(EvO.ev (EvO.conv (zbN (g:=(λ(x138:Int)=>dI (if (decide (x138=x135)) then 1 else 0))) (zdb (m:=true) (n:=P0) (Ev.any (m:=false) (zaa (i:=1) rfl)) (by refine ⟨?_,?_⟩<;>omega)) (by exact zai (by rw [zaC];omega)) ⟨by decide,by decide⟩ (λi139 x138 hx140=>have v140:=zbf hx140;(zkB (b:=(decide (x138=x135))) (zab (zds (x:=x138) (y:=x135) (Ev.any (m:=true) (zaa (i:=0) rfl)) (Ev.any (m:=true) (zaa (i:=1) rfl))) zad)))) (by first | (rw [List.map_map];rfl) | (simp only [cond_true,cond_false];rw [List.map_map];rfl)))))) (by first | (rw [List.map_map];rfl) | (simp only [cond_true,cond_false];rw [List.map_map];rfl))) (λv141 hv141 =>
 have hA:=hv141;(run_letO (m:=true) (x:=(List.map (λ(x142:(List Int))=>x142) v141)) (λz=>List.map lI z) (λ(r:((List (List Int))×(List (List Int))))=>Oc.rt true (dT [dL (List.map lI r.1),dL (List.map lI r.2)])) (zmi.evo (zmi.borrowO (i:=2) rfl (znb (EvO.conv (zbN (g:=(λ(x142:(List Int))=>dL (List.map dI x142))) (zbX (m:=false) lI (xs:=v141) (Ev.weak (K:=K) (zaa (i:=2) rfl))) (by exact zai (by rw [hA,List.length_map,zaC];omega)) ⟨by decide,by decide⟩ (λi143 x142 hx144=>have v144:=List.mem_of_getElem? hx144;(EvO.ev (EvO.anyI (m:=false) (zdP (Ev.weak (K:=K) (zaa (i:=0) rfl))))))) (by first | (rw [List.map_map];rfl) | (simp only [cond_true,cond_false];rw [List.map_map];rfl)))))) (λv145 hv145 =>
 have hF:=ziu hW hA hv145;(zbS (s0:=(v141,v145)) (λ(s146:(List (List Int))×(List (List Int)))=>([.va false (dI P0),.va false (dQ K (List.map dI P1)),.ow true (List.map lI s146.1),.ow true (List.map lI s146.2),.no,.no,.no,.no]:L2.Ctx)) (λ(r:((List (List Int))×(List (List Int))))=>Oc.rt true (dT [dL (List.map lI r.1),dL (List.map lI r.2)])) (λ(s146:(List (List Int))×(List (List Int))) (x147:Int)=>(Let (m_law_thing x147 (1:Int) P0) (λ(v151:Int) =>
 (Let (m_law_thing x147 (2:Int) P0) (λ(v152:Int) =>
 (Let ((m_law_thing x147 (3:Int) (5:Int))-(2:Int)) (λ(v153:Int) =>
 (Let (bif (!decide (v151=v152)) then (setZ s146.1 v152 (List.map (λ(x155:(Int×Int))=>(x155.1+(v153*x155.2))) (List.zip (ixD s146.1 v152) (ixD s146.1 v151)))) else s146.1) (λ(v161:(List (List Int))) =>
 (Let (bif (!decide (v151=v152)) then (setZ s146.2 v151 (List.map (λ(x158:(Int×Int))=>(x158.1-(v153*x158.2))) (List.zip (ixD s146.2 v151) (ixD s146.2 v152)))) else s146.2) (λ(v162:(List (List Int))) =>
 (v161,v162)))))))))))) (λ(i:Nat) (s146:(List (List Int))×(List (List Int)))=>FrI W s146) (zbX (m:=false) dI (xs:=P1) (zaa (i:=1) rfl)) (.eq (.eq (.eq (.eq (.eq (.eq (.eq (.eq .nil)))))))) (by exact hF) (λi148 x147 s146 hx149 hI150=>have v149:=List.mem_of_getElem? hx149;⟨(by exact zjH (by assumption) (zc3 hW hp.1 rfl) (zc3 hW hp.1 rfl)),
 (zaj (m:=true) (x:=(m_law_thing x147 (1:Int) P0)) dI (λz=>Oc.nx ((λ(s146:(List (List Int))×(List (List Int)))=>([.va false (dI P0),.va false (dQ K (List.map dI P1)),.ow true (List.map lI s146.1),.ow true (List.map lI s146.2),.no,.no,.no,.no]:L2.Ctx)) z)) (Ev.any (m:=true) (zah (x:=(x147,(1:Int),P0)) (zab (Ev.any (m:=false) (zaa (i:=4) rfl)) (zab zaw (zab (Ev.any (m:=false) (zaa (i:=0) rfl)) zad))) rfl (by show zay x147 (1:Int) P0;refine ⟨by omega,by omega,by omega⟩) rfl)) (λv151 hv151 =>
 have hO:=zc3 hW hp.1 hv151;(zaj (m:=true) (x:=(m_law_thing x147 (2:Int) P0)) dI (λz=>Oc.nx ((λ(s146:(List (List Int))×(List (List Int)))=>([.va false (dI P0),.va false (dQ K (List.map dI P1)),.ow true (List.map lI s146.1),.ow true (List.map lI s146.2),.no,.no,.no,.no]:L2.Ctx)) z)) (Ev.any (m:=true) (zah (x:=(x147,(2:Int),P0)) (zab (Ev.any (m:=false) (zaa (i:=4) rfl)) (zab zaw (zab (Ev.any (m:=false) (zaa (i:=0) rfl)) zad))) rfl (by show zay x147 (2:Int) P0;refine ⟨by omega,by omega,by omega⟩) rfl)) (λv152 hv152 =>
 have hT:=zc3 hW hp.1 hv152;(zaj (m:=true) (x:=((m_law_thing x147 (3:Int) (5:Int))-(2:Int))) dI (λz=>Oc.nx ((λ(s146:(List (List Int))×(List (List Int)))=>([.va false (dI P0),.va false (dQ K (List.map dI P1)),.ow true (List.map lI s146.1),.ow true (List.map lI s146.2),.no,.no,.no,.no]:L2.Ctx)) z)) (zaD (x:=(m_law_thing x147 (3:Int) (5:Int))) (y:=(2:Int)) (Ev.any (m:=true) (zah (x:=(x147,(3:Int),(5:Int))) (zab (Ev.any (m:=false) (zaa (i:=4) rfl)) (zab zaw (zab zaw zad))) rfl (by show zay x147 (3:Int) (5:Int);refine ⟨by omega,by omega,by omega⟩) rfl)) zaw) (λv153 hv153 =>
 have hM:=ziU hv153;(zcD (b:=(!decide (v151=v152))) (λbb=>([.va false (dI P0),.va false (dQ K (List.map dI P1)),.ow true (List.map lI (bif bb then (setZ s146.1 v152 (List.map (λ(x155:(Int×Int))=>(x155.1+(v153*x155.2))) (List.zip (ixD s146.1 v152) (ixD s146.1 v151)))) else s146.1)),.ow true (List.map lI (bif bb then (setZ s146.2 v151 (List.map (λ(x158:(Int×Int))=>(x158.1-(v153*x158.2))) (List.zip (ixD s146.2 v151) (ixD s146.2 v152)))) else s146.2)),.va false (dI x147),.va true (dI v151),.va true (dI v152),.va true (dI v153)]:L2.Ctx)) (zao (zc0 (x:=v151) (y:=v152) (Ev.any (m:=true) (zaa (i:=5) rfl)) (Ev.any (m:=true) (zaa (i:=6) rfl)))) (λh154=>(zea (f:=lI) (xs:=s146.1) (x:=(List.map (λ(x155:(Int×Int))=>(x155.1+(v153*x155.2))) (List.zip (ixD s146.1 v152) (ixD s146.1 v151)))) rfl (EvO.ev (EvO.conv (zbN (g:=(λ(x155:(Int×Int))=>dI (x155.1+(v153*x155.2)))) (zeM (m:=true) dI dI (xs:=(ixD s146.1 v152)) (ys:=(ixD s146.1 v151)) (Ev.weak (K:=K) (ev_ownIxM (f:=lI) (xs:=s146.1) rfl (Ev.any (m:=true) (zaa (i:=6) rfl)) (by exact sq_ix ((by assumption):FrI W _).1 hT.1 hT.2))) (Ev.weak (K:=K) (ev_ownIxM (f:=lI) (xs:=s146.1) rfl (Ev.any (m:=true) (zaa (i:=5) rfl)) (by exact sq_ix ((by assumption):FrI W _).1 hO.1 hO.2)))) (by exact znB (by assumption) hT (by omega)) ⟨by decide,by decide⟩ (λi156 x155 hx157=>have v157:=zcv hx157;(zaD (x:=x155.1) (y:=(v153*x155.2)) (Ev.any (m:=true) (zaa (i:=0) rfl)) (zau (x:=v153) (y:=x155.2) (Ev.any (m:=true) (zaa (i:=2) rfl)) (Ev.any (m:=true) (zaa (i:=1) rfl)) (by exact .inl ⟨by omega,by omega⟩))))) (by first | (rw [List.map_map];rfl) | (simp only [cond_true,cond_false];rw [List.map_map];rfl)))) (Ev.any (m:=true) (zaa (i:=6) rfl)) (by exact sq_ix ((by assumption):FrI W _).1 hT.1 hT.2)
 (zea (f:=lI) (xs:=s146.2) (x:=(List.map (λ(x158:(Int×Int))=>(x158.1-(v153*x158.2))) (List.zip (ixD s146.2 v151) (ixD s146.2 v152)))) rfl (EvO.ev (EvO.conv (zbN (g:=(λ(x158:(Int×Int))=>dI (x158.1-(v153*x158.2)))) (zeM (m:=true) dI dI (xs:=(ixD s146.2 v151)) (ys:=(ixD s146.2 v152)) (Ev.weak (K:=K) (ev_ownIxM (f:=lI) (xs:=s146.2) rfl (Ev.any (m:=true) (zaa (i:=5) rfl)) (by exact sq_ix ((by assumption):FrI W _).2 hO.1 hO.2))) (Ev.weak (K:=K) (ev_ownIxM (f:=lI) (xs:=s146.2) rfl (Ev.any (m:=true) (zaa (i:=6) rfl)) (by exact sq_ix ((by assumption):FrI W _).2 hT.1 hT.2)))) (by exact znH (by assumption) hO (by omega)) ⟨by decide,by decide⟩ (λi159 x158 hx160=>have v160:=zcv hx160;(zaD (x:=x158.1) (y:=(v153*x158.2)) (Ev.any (m:=true) (zaa (i:=0) rfl)) (zau (x:=v153) (y:=x158.2) (Ev.any (m:=true) (zaa (i:=2) rfl)) (Ev.any (m:=true) (zaa (i:=1) rfl)) (by exact .inl ⟨by omega,by omega⟩))))) (by first | (rw [List.map_map];rfl) | (simp only [cond_true,cond_false];rw [List.map_map];rfl)))) (Ev.any (m:=true) (zaa (i:=5) rfl)) (by exact sq_ix ((by assumption):FrI W _).2 hO.1 hO.2)
 (zar (.eq (.eq (.eq (.eq (.eq (.eq (.eq (.eq .nil)))))))))))) (λh154=>(zar (.eq (.eq (.eq (.eq (.eq (.eq (.eq (.eq .nil))))))))))
 (zce (x:=(bif (!decide (v151=v152)) then (setZ s146.1 v152 (List.map (λ(x155:(Int×Int))=>(x155.1+(v153*x155.2))) (List.zip (ixD s146.1 v152) (ixD s146.1 v151)))) else s146.1)) (λv161=>([.va false (dI P0),.va false (dQ K (List.map dI P1)),.ow true (List.map lI v161),.ow true (List.map lI (bif (!decide (v151=v152)) then (setZ s146.2 v151 (List.map (λ(x158:(Int×Int))=>(x158.1-(v153*x158.2))) (List.zip (ixD s146.2 v151) (ixD s146.2 v152)))) else s146.2)),.va false (dI x147),.va true (dI v151),.va true (dI v152),.va true (dI v153)]:L2.Ctx)) (λz=>Oc.nx ((λ(s146:(List (List Int))×(List (List Int)))=>([.va false (dI P0),.va false (dQ K (List.map dI P1)),.ow true (List.map lI s146.1),.ow true (List.map lI s146.2),.no,.no,.no,.no]:L2.Ctx)) z)) (λv161 hv161 =>
 have hR1:=hv161;(zce (x:=(bif (!decide (v151=v152)) then (setZ s146.2 v151 (List.map (λ(x158:(Int×Int))=>(x158.1-(v153*x158.2))) (List.zip (ixD s146.2 v151) (ixD s146.2 v152)))) else s146.2)) (λv162=>([.va false (dI P0),.va false (dQ K (List.map dI P1)),.ow true (List.map lI v161),.ow true (List.map lI v162),.va false (dI x147),.va true (dI v151),.va true (dI v152),.va true (dI v153)]:L2.Ctx)) (λz=>Oc.nx ((λ(s146:(List (List Int))×(List (List Int)))=>([.va false (dI P0),.va false (dQ K (List.map dI P1)),.ow true (List.map lI s146.1),.ow true (List.map lI s146.2),.no,.no,.no,.no]:L2.Ctx)) z)) (λv162 hv162 =>
 (zar (.eq (.eq (.eq (.eq (.no (.no (.no (.no .nil))))))))))))))))))))⟩) (λr163 hr163 hI =>
 (zcq (i:=2) rfl (zcq (i:=3) rfl (zag (zap (zfk (zab (zaa (i:=2) rfl) (zab (zaa (i:=3) rfl) zad)) (by show 2≤sizeLine;decide))))))))))))
def m_law_bottoms (P0:Int) (P1:Int) (P2:Int):(List Int) :=
 (Let (List.foldl (λ(s164:(List Int)) (x165:Int)=>(Let (m_law_thing P1 (P2+x165) (7:Int)) (λ(v169:Int) =>
 (Let (ixD [(0:Int),(1:Int),(2:Int),(3:Int),(6:Int),(0:Int),(4:Int)] v169) (λ(v170:Int) =>
 (Let (bif ((decide (v169=(6:Int)))&&(decide ((P1%(2:Int))=(1:Int)))) then ((2:Int)+(m_law_thing P1 ((P2+(20:Int))+x165) ((10:Int)^(9:Int).toNat))) else v170) (λ(v172:Int) =>
 (s164++[v172])))))))) [] (zaW 0 P0.toNat)) (λ(r173:(List Int)) =>
 r173))
def zbV (P0:Int) (P1:Int) (P2:Int):Prop:=0≤P0∧P0≤8∧0≤P2∧P2≤100
def zdd (K:W.Frag) (A:Adr):Sp:=Spv (ι:=Int×Int×Int) (λx=>[dI x.1,dI x.2.1,dI x.2.2]) (λx=>zbV x.1 x.2.1 x.2.2) (λx=>.ow true (List.map dI (m_law_bottoms x.1 x.2.1 x.2.2)))
theorem zba:FnScope ["_law_wide","_law_cell_here","_law_far","_law_found","_law_k","_law_way","_law_number"] ["_law_wide","_law_cell_here","_law_far"] (defScope zbr):=⟨rfl,rfl,rfl,by decide +kernel,rfl,by decide +kernel,by decide +kernel⟩
theorem zgc (F:Fun K "_law_bottoms" "_law_bottoms" zbr f fd) (T:Txt K mg A) (G_law_thing:Callee P w K mg base (CXE P w) 1 "_law_thing" ["_law_cell_here","_law_k","_law_many"] (zbp K A)):FnOk P w K mg base (CXE P w) 2 f fd ["_law_wide","_law_cell_here","_law_far"] (zdd K A):=by
 refine F.okV zba (λ_=>rfl) (λcdv Ar outer s H E x hr hp=>?_)
 obtain ⟨P0,P1,P2⟩:=x
 have hu:=hr.units
 replace hp:zbV P0 P1 P2:=hp
 unfold zbV at hp
 refine ⟨_,(zac (zak (i:=3) zba.nd rfl (Or.inl rfl) (za2 pa_nil))
 (zac (zcx PassesOwn.never rfl (zbC rfl T.range (pa_cons (pv 0) pa_nil)) (pg_name (i:=4) zba.nd rfl (Or.inl rfl) (Or.inl rfl))
 (zac (zak (i:=5) zba.nd rfl (Or.inl rfl) (pe_fn G_law_thing (hr.mono (by decide)) rfl passE (pa_cons (pv 1) (pa_cons (zam zbt (pv 2) (pv 4)) (pa_cons zaf pa_nil)))))
 (zac (zak (i:=6) zba.nd rfl (Or.inl rfl) (zbI (zax (K:=K) rfl) (za2 (pa_cons zaf (pa_cons zaf (pa_cons zaf (pa_cons zaf (pa_cons zaf (pa_cons zaf (pa_cons zaf pa_nil)))))))) (pv 5) (λ_ _=>rfl)))
 (zac (zbw (PW.pt (zmt (pt_cmpR op_eq (pv 5) zaf (nomark _)) (zkS (pt_cmpR op_eq (zam zbO (pv 1) zaf) zaf (nomark _)))))
 (zac (zak (i:=6) zba.nd rfl (Or.inl rfl) (zam zbt zaf (pe_fn G_law_thing (hr.mono (by decide)) rfl passE (pa_cons (pv 1) (pa_cons (zam zbt (zam zbt (pv 2) zaf) (pv 4)) (pa_cons (zam zmA zaf zaf) pa_nil))))))
 zae)
 zae)
 (zac (zcu (zbL (K:=K) rfl (pv 3) (pa_cons (pv 6) pa_nil)))
 zae)))))
 (zac (zav (pv 3))
 zae))),.inl ?_⟩
 show L2.Run _ ([.va false (dI P0),.va false (dI P1),.va false (dI P2),.no,.no,.no,.no]:L2.Ctx) _ ((λr=>Oc.rl true (List.map dI r)) (m_law_bottoms P0 P1 P2))
 unfold m_law_bottoms
 exact (run_setO (m:=true) (ds:=List.map dI []) (zdg (m:=true) zad)
 (zbS (s0:=[]) (λ(s164:(List Int))=>([.va false (dI P0),.va false (dI P1),.va false (dI P2),.ow true (List.map dI s164),.no,.no,.no]:L2.Ctx)) (λr=>Oc.rl true (List.map dI r)) (λ(s164:(List Int)) (x165:Int)=>(Let (m_law_thing P1 (P2+x165) (7:Int)) (λ(v169:Int) =>
 (Let (ixD [(0:Int),(1:Int),(2:Int),(3:Int),(6:Int),(0:Int),(4:Int)] v169) (λ(v170:Int) =>
 (Let (bif ((decide (v169=(6:Int)))&&(decide ((P1%(2:Int))=(1:Int)))) then ((2:Int)+(m_law_thing P1 ((P2+(20:Int))+x165) ((10:Int)^(9:Int).toNat))) else v170) (λ(v172:Int) =>
 (s164++[v172])))))))) (λ(i:Nat) (s164:(List Int))=>s164.length≤i) (zdb (m:=true) (n:=P0) (Ev.any (m:=false) (zaa (i:=0) rfl)) (by refine ⟨?_,?_⟩<;>omega)) (.eq (.eq (.eq (.eq (.eq (.eq (.eq .nil))))))) (by exact Nat.le_refl 0) (λi166 x165 s164 hx167 hI168=>have v167:=zbf hx167;⟨(by exact zmR (by assumption)),
 (zaj (m:=true) (x:=(m_law_thing P1 (P2+x165) (7:Int))) dI (λz=>Oc.nx ((λ(s164:(List Int))=>([.va false (dI P0),.va false (dI P1),.va false (dI P2),.ow true (List.map dI s164),.no,.no,.no]:L2.Ctx)) z)) (Ev.any (m:=true) (zah (x:=(P1,(P2+x165),(7:Int))) (zab (Ev.any (m:=false) (zaa (i:=1) rfl)) (zab (zaD (x:=P2) (y:=x165) (Ev.any (m:=false) (zaa (i:=2) rfl)) (Ev.any (m:=true) (zaa (i:=4) rfl))) (zab zaw zad))) rfl (by show zay P1 (P2+x165) (7:Int);refine ⟨by omega,by omega,by first | decide | omega⟩) rfl)) (λv169 hv169 =>
 have hY:=znF hv169;(zaj (m:=true) (x:=(ixD [(0:Int),(1:Int),(2:Int),(3:Int),(6:Int),(0:Int),(4:Int)] v169)) dI (λz=>Oc.nx ((λ(s164:(List Int))=>([.va false (dI P0),.va false (dI P1),.va false (dI P2),.ow true (List.map dI s164),.no,.no,.no]:L2.Ctx)) z)) (zb1 (f:=dI) (xs:=[(0:Int),(1:Int),(2:Int),(3:Int),(6:Int),(0:Int),(4:Int)]) (Ev.weak (K:=K) (EvO.ev (zbD (zab zaw (zab zaw (zab zaw (zab zaw (zab zaw (zab zaw (zab zaw zad))))))) (by show 7≤sizeLine;decide)))) (Ev.any (m:=true) (zaa (i:=5) rfl)) (by exact hY)) (λv170 hv170 =>
 (zcD (b:=((decide (v169=(6:Int)))&&(decide ((P1%(2:Int))=(1:Int))))) (λbb=>([.va false (dI P0),.va false (dI P1),.va false (dI P2),.ow true (List.map dI s164),.va true (dI x165),.va true (dI v169),.va true (dI (bif bb then ((2:Int)+(m_law_thing P1 ((P2+(20:Int))+x165) ((10:Int)^(9:Int).toNat))) else v170))]:L2.Ctx)) (zjZ (b:=(decide (v169=(6:Int)))) (zao (zds (x:=v169) (y:=(6:Int)) (Ev.any (m:=true) (zaa (i:=5) rfl)) zaw)) (λhb=>(zao (zds (x:=(P1%(2:Int))) (y:=(1:Int)) (zau (x:=P1) (y:=(2:Int)) (Ev.any (m:=false) (zaa (i:=1) rfl)) zaw (by decide)) zaw)))) (λh171=>(zbd (m:=true) (zaD (x:=(2:Int)) (y:=(m_law_thing P1 ((P2+(20:Int))+x165) ((10:Int)^(9:Int).toNat))) zaw (Ev.any (m:=true) (zah (x:=(P1,((P2+(20:Int))+x165),((10:Int)^(9:Int).toNat))) (zab (Ev.any (m:=false) (zaa (i:=1) rfl)) (zab (zaD (x:=(P2+(20:Int))) (y:=x165) (zaD (x:=P2) (y:=(20:Int)) (Ev.any (m:=false) (zaa (i:=2) rfl)) zaw) (Ev.any (m:=true) (zaa (i:=4) rfl))) (zab (zau (x:=(10:Int)) (y:=(9:Int)) zaw zaw (by exact ⟨by decide,by decide,by decide⟩)) zad))) rfl (by show zay P1 ((P2+(20:Int))+x165) ((10:Int)^(9:Int).toNat);refine ⟨by omega,by omega,by first | decide | omega⟩) rfl)))
 (zar (.eq (.eq (.eq (.eq (.eq (.eq (.eq .nil)))))))))) (λh171=>(zar (.eq (.eq (.eq (.eq (.eq (.eq (.eq .nil)))))))))
 (zce (x:=(bif ((decide (v169=(6:Int)))&&(decide ((P1%(2:Int))=(1:Int)))) then ((2:Int)+(m_law_thing P1 ((P2+(20:Int))+x165) ((10:Int)^(9:Int).toNat))) else v170)) (λv172=>([.va false (dI P0),.va false (dI P1),.va false (dI P2),.ow true (List.map dI s164),.va true (dI x165),.va true (dI v169),.va true (dI v172)]:L2.Ctx)) (λz=>Oc.nx ((λ(s164:(List Int))=>([.va false (dI P0),.va false (dI P1),.va false (dI P2),.ow true (List.map dI s164),.no,.no,.no]:L2.Ctx)) z)) (λv172 hv172 =>
 (zb5 (f:=dI) (xs:=s164) (x:=v172) rfl (Ev.any (m:=true) (zaa (i:=6) rfl)) (by exact zoD (by assumption) (by assumption) (by omega))
 (zar (.eq (.eq (.eq (.eq (.no (.no (.no .nil))))))))))))))))⟩) (λr173 hr173 hI =>
 (zdv (zjf (i:=3) rfl)))))
theorem ziz {w c f:Int} (hw:0≤w):(m_law_bottoms w c f).length=w.toNat∧∀ b∈m_law_bottoms w c f,0≤b∧b≤1000000001:=by
 unfold m_law_bottoms Let
 dsimp only
 rw [Lat.zgN,List.nil_append]
 refine ⟨by rw [List.length_map,zaC],λb hb=>?_⟩
 obtain ⟨x,_,rfl⟩:=List.mem_map.mp hb
 have h7:=zcz (c:=c) (k:=f+x) (m:=7) (by decide)
 generalize m_law_thing c (f+x) 7=y at *
 have e10:(10:Int)^(9:Int).toNat=1000000000:=by decide +kernel
 rw [e10]
 have h9:=zcz (c:=c) (k:=f+20+x) (m:=1000000000) (by decide)
 have key:0≤ixD [(0:Int),(1:Int),(2:Int),(3:Int),(6:Int),(0:Int),(4:Int)] y∧ixD [(0:Int),(1:Int),(2:Int),(3:Int),(6:Int),(0:Int),(4:Int)] y≤6:=by
  have hm:=zdx (xs:=[(0:Int),(1:Int),(2:Int),(3:Int),(6:Int),(0:Int),(4:Int)]) (i:=y) (by show InB 7 y;unfold InB;omega)
  generalize ixD [(0:Int),(1:Int),(2:Int),(3:Int),(6:Int),(0:Int),(4:Int)] y=z at *
  simp at hm
  omega
 cases (decide (y=(6:Int))&&decide (c%(2:Int)=(1:Int)))
 ·rw [cond_false];omega
 ·rw [cond_true];omega
theorem zor {s:List (List Int)} {i w:Nat} {b:Bool} {y:List Int} (h:s.length≤i∧∀ r∈s,r.length=w) (hy:y.length=w):(bif b then (s++[y]) else s).length≤i+1∧∀ r∈(bif b then (s++[y]) else s),r.length=w:=by
 cases b
 ·exact ⟨by show s.length≤_;omega,h.2⟩
 ·refine ⟨by show (s++[y]).length≤_;rw [List.length_append,List.length_singleton];omega,λr hr=>?_⟩
  rcases List.mem_append.mp hr with hr | hr
  ·exact h.2 r hr
  ·rw [List.mem_singleton.mp hr];exact hy
def StP (rows:List (List Int)) (bs:List Int) (idle:Int):Prop:=∃ W:Nat,1≤W∧W≤8∧Sq W W rows∧bs.length=W∧(∀ b∈bs,0≤b∧b≤1000000001)∧0≤idle∧idle≤3
theorem zqx {s rows:List (List Int)} {bs:List Int} {W:Nat} (hI:s.length≤(List.zip rows bs).length∧∀ r∈s,r.length=W) (hq:Sq W W rows) (w8:W≤8):s.length≤8∧∀ r∈s,r.length=W:=by
 refine ⟨?_,hI.2⟩
 have:=hI.1
 rw [List.length_zip] at this
 have:=hq.1
 omega
theorem zpx {w:Nat} {rows a ys:List (List Int)} {k idle:Int} (hw:rows.length=w) (h0:0≤idle) (h:a.length≤8∧∀ r∈a,r.length=w) (hk:k=((a.length:Nat):Int)) (e:ys=a++List.map (λ(_:Int)=>zcY ((rows.length:Nat):Int) [(0:Int)]) (zaW 0 idle.toNat)):Sq w (k+idle).toNat ys:=by
 subst e
 refine ⟨by rw [List.length_append,List.length_map,zaC];omega,λr hr=>?_⟩
 rcases List.mem_append.mp hr with hr | hr
 ·exact h.2 r hr
 ·obtain ⟨x,_,rfl⟩:=List.mem_map.mp hr
  rw [Lat.zcM];exact hw
theorem znw {k idle:Int} {ts:List (List Int)} (e:ts=List.map (λ(x:Int)=>List.map (λ(y:Int)=>(if (decide (y=(k+x))) then (1:Int) else 0)) (zaW 0 (k+idle).toNat)) (zaW 0 idle.toNat)):∀ t∈ts,t.length=(k+idle).toNat:=λt ht=>by
 subst e
 obtain ⟨x,_,rfl⟩:=List.mem_map.mp ht
 rw [List.length_map,zaC]
def StI (w n:Nat) (s:List (List Int)×List (List Int)):Prop:=Sq w n s.1∧∀ t∈s.2,t.length=n
theorem zfl {n:Nat} {w:Nat} {s:List (List Int)} {c k x:Int} (h:Sq w n s) (e:x=m_law_thing c k (max (1:Int) ((s.length:Nat):Int))):0≤x∧(x<(n:Int)∨x=0):=by
 subst e;have:=zcz (c:=c) (k:=k) (m:=max (1:Int) ((s.length:Nat):Int)) (by omega);rw [h.1] at this ⊢;omega
theorem zeZ {n:Nat} {x y:Int} (hx:0≤x∧(x<(n:Int)∨x=0)) (hy:0≤y∧(y<(n:Int)∨y=0)) (h:(!decide (x=y))=true):(0≤x∧x<(n:Int))∧0≤y∧y<(n:Int):=by
 have:x≠y:=by simpa using h
 omega
theorem znK {n:Nat} {ns:List Int} {x:Int} (h:ns.length=n) (hx:0≤x∧x<(n:Int)):InB ns.length x:=by unfold InB;omega
theorem zkQ {w n:Nat} {s:List (List Int)×List (List Int)} {x y q:Int} (h:StI w n s) (hx:0≤x∧(x<(n:Int)∨x=0)) (hy:0≤y∧(y<(n:Int)∨y=0)) :
  StI w n (bif (!decide (x=y)) then (setZ s.1 y (List.map (λ(z:Int×Int)=>(z.1+(q*z.2))) (List.zip (ixD s.1 y) (ixD s.1 x)))) else s.1,bif (!decide (x=y)) then (List.map (λ(ns:List Int)=>setZ ns x (ixD ns x-(q*ixD ns y))) s.2) else s.2):=by
 by_cases e:x=y
 ·rw [decide_eq_true e];exact h
 ·rw [decide_eq_false e]
  have hl:=zeZ hx hy (by simp [e])
  refine ⟨zkA h.1 (sq_zip h.1 h.1 hl.2 hl.1),λt ht=>?_⟩
  obtain ⟨z,hz,rfl⟩:=List.mem_map.mp ht
  rw [zd5];exact h.2 z hz
theorem zpJ {w n:Nat} {s:List (List Int)} {x y:Int} (h:Sq w n s) (hx:0≤x∧x<(n:Int)) (hw:w≤8):(List.zip (ixD s x) (ixD s y)).length≤PySem.sizeLine:=zjy (ys:=s) (m:=0) h hx (by omega)
theorem zpu {W:Nat} {rows:List (List Int)} {r:List Int} (h:Sq W W rows) (hm:r∈rows) (hw:W≤8):r.length≤PySem.sizeLine:=zai (by have:=h.2 r hm;omega)
theorem zp3 {W:Nat} {rows:List (List Int)} {bs:List Int} {i:Nat} {p:List Int×Int} (h:Sq W W rows) (hx:rows[i]?=some p.1∧bs[i]?=some p.2):i<W:=by have:=(List.getElem?_eq_some_iff.mp hx.1).1;rw [h.1] at this;exact this
def m_law_stirred (P0:(List (List Int))) (P1:(List Int)) (P2:Int) (P3:(List Int)):((List (List Int))×(List (List Int))) :=
 (Let (List.foldl (λ(s174:(List (List Int))) (x175:((List Int)×Int))=>(Let (bif (decide ((0:Int)<x175.2)) then (s174++[(List.map (λ(x180:Int)=>(x175.2*x180)) x175.1)]) else s174) (λ(v183:(List (List Int))) =>
 v183))) [] (List.zip P0 P1)) (λ(r184:(List (List Int))) =>
 (Let ((r184.length:Nat):Int) (λ(v185:Int) =>
 (Let (r184++(List.map (λ(x186:Int)=>(zcY ((P0.length:Nat):Int) [(0:Int)])) (zaW 0 P2.toNat))) (λ(v189:(List (List Int))) =>
 (Let (List.map (λ(x190:Int)=>(List.map (λ(x193:Int)=>(if (decide (x193=(v185+x190))) then 1 else 0)) (zaW 0 (v185+P2).toNat))) (zaW 0 P2.toNat)) (λ(v196:(List (List Int))) =>
 (Let (List.foldl (λ(s197:(List (List Int))×(List (List Int))) (x198:Int)=>(Let (m_law_thing x198 (4:Int) (max (1:Int) ((s197.1.length:Nat):Int))) (λ(v202:Int) =>
 (Let (m_law_thing x198 (5:Int) (max (1:Int) ((s197.1.length:Nat):Int))) (λ(v203:Int) =>
 (Let ((m_law_thing x198 (6:Int) (5:Int))-(2:Int)) (λ(v204:Int) =>
 (Let (bif (!decide (v202=v203)) then (setZ s197.1 v203 (List.map (λ(x206:(Int×Int))=>(x206.1+(v204*x206.2))) (List.zip (ixD s197.1 v203) (ixD s197.1 v202)))) else s197.1) (λ(v210:(List (List Int))) =>
 (Let (bif (!decide (v202=v203)) then (List.map (λ(ns209:List Int)=>setZ ns209 v202 ((ixD ns209 v202)-(v204*(ixD ns209 v203)))) s197.2) else s197.2) (λ(v211:(List (List Int))) =>
 (v210,v211)))))))))))) (v189,v196) P3) (λ(r212:(List (List Int))×(List (List Int))) =>
 (r212.1,r212.2)))))))))))
def zbY (P0:(List (List Int))) (P1:(List Int)) (P2:Int) (P3:(List Int)):Prop:=StP P0 P1 P2
def zc9 (K:W.Frag) (A:Adr):Sp:=Spv (ι:=(List (List Int))×(List Int)×Int×(List Int)) (λx=>[dQ K (List.map lI x.1),dQ K (List.map dI x.2.1),dI x.2.2.1,dQ K (List.map dI x.2.2.2)]) (λx=>zbY x.1 x.2.1 x.2.2.1 x.2.2.2) (λx=>.va true (dT [dL (List.map lI ((m_law_stirred x.1 x.2.1 x.2.2.1 x.2.2.2).1)),dL (List.map lI ((m_law_stirred x.1 x.2.1 x.2.2.1 x.2.2.2).2))]))
theorem zaA:FnScope ["_law_rows","_law_bottoms_here","_law_idle","_law_cells","_law_swaps","_law_row","_law_number","_law_kept","_law_trips","_law_cell_here","_law_one","_law_two","_law_many","_law_trip"] ["_law_rows","_law_bottoms_here","_law_idle","_law_cells"] (defScope zaK):=⟨rfl,rfl,rfl,by decide +kernel,rfl,by decide +kernel,by decide +kernel⟩
theorem zf9 (F:Fun K "_law_stirred" "_law_stirred" zaK f fd) (T:Txt K mg A) (G_law_thing:Callee P w K mg base (CXE P w) 1 "_law_thing" ["_law_cell_here","_law_k","_law_many"] (zbp K A)):FnOk P w K mg base (CXE P w) 2 f fd ["_law_rows","_law_bottoms_here","_law_idle","_law_cells"] (zc9 K A):=by
 refine F.okV zaA (λ_=>rfl) (λcdv Ar outer s H E x hr hp=>?_)
 obtain ⟨P0,P1,P2,P3⟩:=x
 have hu:=hr.units
 replace hp:zbY P0 P1 P2 P3:=hp
 unfold zbY at hp
 obtain ⟨W,w1,w8,hq,hb,hbb,hi0,hi3⟩:=hp
 refine ⟨_,(zac (zak (i:=4) zaA.nd rfl (Or.inl rfl) (za2 pa_nil))
 (zac (zcx PassesOwn.never rfl (zcE (K:=K) rfl rfl T.zip (pa_cons (pv 0) (pa_cons (pv 1) pa_nil))) (zaR (K:=K) (n:=2) rfl rfl (zas (pg_name (i:=5) zaA.nd rfl (Or.inl rfl) (Or.inl rfl)) (zas (pg_name (i:=6) zaA.nd rfl (Or.inr rfl) (Or.inl rfl)) zbe)))
 (zac (zbw (pt_cmpR zlZ (pv 6) zaf (nomark _))
 (zac (zcu (zbL (K:=K) rfl (pv 4) (pa_cons (pe_comp rfl (.of (osc:=(defScope zaK)) (N:=["_law_rows","_law_bottoms_here","_law_idle","_law_cells","_law_swaps","_law_row","_law_number","_law_kept","_law_trips","_law_cell_here","_law_one","_law_two","_law_many","_law_trip"]) (own:=["_law_entry"]) (fvn:=["_law_number"]) (fv:=[6]) rfl rfl (by decide +kernel)) (pi_list_K (K:=K) rfl (pv 5)) (λ_ _ _ _ _=>⟨(pg_name (i:=0) (show (["_law_entry","_law_number"]:List Str).Nodup by decide +kernel) rfl (Or.inl rfl) (Or.inr rfl)),pts_nil,(zam zbb (pv 1) (pv 0))⟩)) pa_nil)))
 zae)
 zae)
 zae))
 (zac (zak (i:=7) zaA.nd rfl (Or.inr rfl) (pe_callB (call_len_K (K:=K) rfl) rfl T.len PySem.boot_len (pa_cons (pv 4) pa_nil)))
 (zac (zak (i:=4) zaA.nd rfl (Or.inl rfl) (zam zb4 (pv 4) (pe_comp rfl (.of (osc:=(defScope zaK)) (N:=["_law_rows","_law_bottoms_here","_law_idle","_law_cells","_law_swaps","_law_row","_law_number","_law_kept","_law_trips","_law_cell_here","_law_one","_law_two","_law_many","_law_trip"]) (own:=["_law_k"]) (fvn:=["_law_rows"]) (fv:=[0]) rfl rfl (by decide +kernel)) (zbC rfl T.range (pa_cons (pv 2) pa_nil)) (λ_ _ _ _ _=>⟨(pg_name (i:=0) (show (["_law_k","_law_rows"]:List Str).Nodup by decide +kernel) rfl (Or.inl rfl) (Or.inr rfl)),pts_nil,(zam zkF (za2 (pa_cons zaf pa_nil)) (pe_callB (call_len_K (K:=K) rfl) rfl T.len PySem.boot_len (pa_cons (pv 1) pa_nil)))⟩))))
 (zac (zdX (i:=8) rfl zaA.nd rfl rfl (.of (osc:=(defScope zaK)) (N:=["_law_rows","_law_bottoms_here","_law_idle","_law_cells","_law_swaps","_law_row","_law_number","_law_kept","_law_trips","_law_cell_here","_law_one","_law_two","_law_many","_law_trip"]) (own:=["_law_k"]) (fvn:=["_law_kept","_law_idle"]) (fv:=[7,2]) rfl rfl (by decide +kernel)) (zbC rfl T.range (pa_cons (pv 2) pa_nil)) (λ_ _ _ _ _=>⟨(pg_name (i:=0) (show (["_law_k","_law_kept","_law_idle"]:List Str).Nodup by decide +kernel) rfl (Or.inr rfl) (Or.inl rfl)),pts_nil,(pe_comp rfl (.of (osc:=({ kind:=.function,names:=[(".0",.local),("_law_k",.cell),("range",.globalImplicit),("_law_idle",.cell),("_law_kept",.cell)],isGenerator:=false,isCoroutine:=false }:Scope)) (N:=["_law_k","_law_kept","_law_idle"]) (own:=["_law_j"]) (fvn:=["_law_kept","_law_k"]) (fv:=[1,0]) rfl rfl (by decide +kernel)) (zbC rfl T.range (pa_cons (zam zbt (pv 1) (pv 2)) pa_nil)) (λ_ _ _ _ _=>⟨(pg_name (i:=0) (show (["_law_j","_law_kept","_law_k"]:List Str).Nodup by decide +kernel) rfl (Or.inl rfl) (Or.inr rfl)),pts_nil,(zbA zhm rfl T.int (by decide +kernel) (pa_cons (pe_cmpR op_eq (pv 0) (zam zbt (pv 1) (pv 2)) (nomark _)) pa_nil))⟩))⟩))
 (zac (zcx PassesOwn.never rfl (pi_list_K (K:=K) rfl (pv 3)) (pg_name (i:=9) zaA.nd rfl (Or.inl rfl) (Or.inl rfl))
 (zac (zak (i:=10) zaA.nd rfl (Or.inl rfl) (pe_fn G_law_thing (hr.mono (by decide)) rfl passE (pa_cons (pv 9) (pa_cons zaf (pa_cons (pe_callB (zg8 rfl) rfl T.max PyProof.Rows.boot_max (pa_cons zaf (pa_cons (pe_callB (call_len_K (K:=K) rfl) rfl T.len PySem.boot_len (pa_cons (pv 4) pa_nil)) pa_nil))) pa_nil)))))
 (zac (zak (i:=11) zaA.nd rfl (Or.inl rfl) (pe_fn G_law_thing (hr.mono (by decide)) rfl passE (pa_cons (pv 9) (pa_cons zaf (pa_cons (pe_callB (zg8 rfl) rfl T.max PyProof.Rows.boot_max (pa_cons zaf (pa_cons (pe_callB (call_len_K (K:=K) rfl) rfl T.len PySem.boot_len (pa_cons (pv 4) pa_nil)) pa_nil))) pa_nil)))))
 (zac (zak (i:=12) zaA.nd rfl (Or.inr rfl) (zam zeq (pe_fn G_law_thing (hr.mono (by decide)) rfl passE (pa_cons (pv 9) (pa_cons zaf (pa_cons zaf pa_nil)))) zaf))
 (zac (zbw (pt_cmpR op_ne (pv 10) (pv 11) (nomark _))
 (zac (zep (pe_comp rfl (.of (osc:=(defScope zaK)) (N:=["_law_rows","_law_bottoms_here","_law_idle","_law_cells","_law_swaps","_law_row","_law_number","_law_kept","_law_trips","_law_cell_here","_law_one","_law_two","_law_many","_law_trip"]) (own:=["_law_a","_law_b"]) (fvn:=["_law_many"]) (fv:=[12]) rfl rfl (by decide +kernel)) (zcE (K:=K) rfl rfl T.zip (pa_cons (zbI (zax (K:=K) rfl) (pv 4) (pv 11) (λ_ _=>rfl)) (pa_cons (zbI (zax (K:=K) rfl) (pv 4) (pv 10) (λ_ _=>rfl)) pa_nil))) (λ_ _ _ _ _=>⟨(zaR (K:=K) (n:=2) rfl rfl (zas (pg_name (i:=0) (show (["_law_a","_law_b","_law_many"]:List Str).Nodup by decide +kernel) rfl (Or.inl rfl) (Or.inr rfl)) (zas (pg_name (i:=1) (show (["_law_a","_law_b","_law_many"]:List Str).Nodup by decide +kernel) rfl (Or.inl rfl) (Or.inr rfl)) zbe))),pts_nil,(zam zbt (pv 0) (zam zbb (pv 2) (pv 1)))⟩)) (zhu (pv 4) (pv 11) set_list))
 (zac (zcx PassesOwn.never rfl (pi_list_K (K:=K) rfl (pv 8)) (pg_name (i:=13) zaA.nd rfl (Or.inl rfl) (Or.inl rfl))
 (zac (zep (zam zeq (zbI (zax (K:=K) rfl) (pv 13) (pv 10) (λ_ _=>rfl)) (zam zbb (pv 12) (zbI (zax (K:=K) rfl) (pv 13) (pv 11) (λ_ _=>rfl)))) (zhu (pv 13) (pv 10) set_list)) zae))
 zae))
 zae)
 zae)))))
 (zac (zav (zfj (pa_cons (pv 4) (pa_cons (pv 8) pa_nil))))
 zae))))))),.inl ?_⟩
 show L2.Run _ ([.va false (dQ K (List.map lI P0)),.va false (dQ K (List.map dI P1)),.va false (dI P2),.va false (dQ K (List.map dI P3)),.no,.no,.no,.no,.no,.no,.no,.no,.no,.no]:L2.Ctx) _ ((λ(r:((List (List Int))×(List (List Int))))=>Oc.rt true (dT [dL (List.map lI r.1),dL (List.map lI r.2)])) (m_law_stirred P0 P1 P2 P3))
 unfold m_law_stirred
 exact (run_setO (m:=true) (ds:=List.map lI []) (zdg (m:=true) zad)
 (zbS (s0:=[]) (λ(s174:(List (List Int)))=>([.va false (dQ K (List.map lI P0)),.va false (dQ K (List.map dI P1)),.va false (dI P2),.va false (dQ K (List.map dI P3)),.ow true (List.map lI s174),.no,.no,.no,.no,.no,.no,.no,.no,.no]:L2.Ctx)) (λ(r:((List (List Int))×(List (List Int))))=>Oc.rt true (dT [dL (List.map lI r.1),dL (List.map lI r.2)])) (λ(s174:(List (List Int))) (x175:((List Int)×Int))=>(Let (bif (decide ((0:Int)<x175.2)) then (s174++[(List.map (λ(x180:Int)=>(x175.2*x180)) x175.1)]) else s174) (λ(v183:(List (List Int))) =>
 v183))) (λ(i:Nat) (s174:(List (List Int)))=>s174.length≤i∧∀ r∈s174,r.length=W) (zeM (m:=false) lI dI (xs:=P0) (ys:=P1) (zaa (i:=0) rfl) (zaa (i:=1) rfl)) (.eq (.eq (.eq (.eq (.eq (.eq (.eq (.eq (.eq (.eq (.eq (.eq (.eq (.eq .nil)))))))))))))) (by exact ⟨Nat.le_refl 0,λr hr=>by simp at hr⟩) (λi176 x175 s174 hx177 hI178=>have v177:=zcv hx177;⟨(by exact zor (by assumption) (by rw [List.length_map];exact hq.2 _ (List.mem_of_getElem? ((by assumption):_∧_).1))),
 (zcD (b:=(decide ((0:Int)<x175.2))) (λbb=>([.va false (dQ K (List.map lI P0)),.va false (dQ K (List.map dI P1)),.va false (dI P2),.va false (dQ K (List.map dI P3)),.ow true (List.map lI (bif bb then (s174++[(List.map (λ(x180:Int)=>(x175.2*x180)) x175.1)]) else s174)),.va false (dL (List.map dI x175.1)),.va false (dI x175.2),.no,.no,.no,.no,.no,.no,.no]:L2.Ctx)) (zao (zaD (x:=x175.2) (y:=(0:Int)) (Ev.any (m:=false) (zaa (i:=6) rfl)) zaw)) (λh179=>(zb5 (f:=lI) (xs:=s174) (x:=(List.map (λ(x180:Int)=>(x175.2*x180)) x175.1)) rfl (EvO.ev (EvO.conv (zbN (g:=(λ(x180:Int)=>dI (x175.2*x180))) (zbX (m:=false) dI (xs:=x175.1) (Ev.weak (K:=K) (zaa (i:=5) rfl))) (by exact zpu hq (List.mem_of_getElem? ((by assumption):_∧_).1) w8) ⟨by decide,by decide⟩ (λi181 x180 hx182=>have v182:=List.mem_of_getElem? hx182;(zau (x:=x175.2) (y:=x180) (Ev.any (m:=false) (zaa (i:=1) rfl)) (Ev.any (m:=false) (zaa (i:=0) rfl)) (by have z:=hbb _ (List.mem_of_getElem? ((by assumption):_∧_).2);exact .inl ⟨by omega,by omega⟩)))) (by first | (rw [List.map_map];rfl) | (simp only [cond_true,cond_false];rw [List.map_map];rfl)))) (by have z:=zp3 hq (by assumption);exact Nat.lt_of_le_of_lt (show _≤1000 by omega) (by decide))
 (zar (.eq (.eq (.eq (.eq (.eq (.eq (.eq (.eq (.eq (.eq (.eq (.eq (.eq (.eq .nil))))))))))))))))) (λh179=>(zar (.eq (.eq (.eq (.eq (.eq (.eq (.eq (.eq (.eq (.eq (.eq (.eq (.eq (.eq .nil))))))))))))))))
 (zce (x:=(bif (decide ((0:Int)<x175.2)) then (s174++[(List.map (λ(x180:Int)=>(x175.2*x180)) x175.1)]) else s174)) (λv183=>([.va false (dQ K (List.map lI P0)),.va false (dQ K (List.map dI P1)),.va false (dI P2),.va false (dQ K (List.map dI P3)),.ow true (List.map lI v183),.va false (dL (List.map dI x175.1)),.va false (dI x175.2),.no,.no,.no,.no,.no,.no,.no]:L2.Ctx)) (λz=>Oc.nx ((λ(s174:(List (List Int)))=>([.va false (dQ K (List.map lI P0)),.va false (dQ K (List.map dI P1)),.va false (dI P2),.va false (dQ K (List.map dI P3)),.ow true (List.map lI s174),.no,.no,.no,.no,.no,.no,.no,.no,.no]:L2.Ctx)) z)) (λv183 hv183 =>
 (zar (.eq (.eq (.eq (.eq (.eq (.no (.no (.eq (.eq (.eq (.eq (.eq (.eq (.eq .nil))))))))))))))))))⟩) (λr184 hr184 hI =>
 (zaj (m:=true) (x:=((r184.length:Nat):Int)) dI (λ(r:((List (List Int))×(List (List Int))))=>Oc.rt true (dT [dL (List.map lI r.1),dL (List.map lI r.2)])) (ze3 (f:=lI) (xs:=r184) rfl) (λv185 hv185 =>
 have hL:=zqx hI hq w8;have hK:=hv185;(zcq (i:=4) rfl (run_letO (m:=true) (x:=(r184++(List.map (λ(x186:Int)=>(zcY ((P0.length:Nat):Int) [(0:Int)])) (zaW 0 P2.toNat)))) (λz=>List.map lI z) (λ(r:((List (List Int))×(List (List Int))))=>Oc.rt true (dT [dL (List.map lI r.1),dL (List.map lI r.2)])) (zbc (f:=lI) (xs:=r184) (ys:=(List.map (λ(x186:Int)=>(zcY ((P0.length:Nat):Int) [(0:Int)])) (zaW 0 P2.toNat))) (zaa (i:=4) rfl) (EvO.ev (EvO.conv (zbN (g:=(λ(x186:Int)=>dL (List.map dI (zcY ((P0.length:Nat):Int) [(0:Int)])))) (zdb (m:=true) (n:=P2) (Ev.any (m:=false) (zaa (i:=2) rfl)) (by refine ⟨?_,?_⟩<;>omega)) (by exact zai (by rw [zaC];omega)) ⟨by decide,by decide⟩ (λi187 x186 hx188=>have v188:=zbf hx188;(EvO.ev (zhH (f:=dI) (xs:=[(0:Int)]) (n:=((P0.length:Nat):Int)) (EvO.ev (zbD (zab zaw zad) (by show 1≤sizeLine;decide))) (zaG (f:=lI) (xs:=P0) (zaa (i:=1) rfl)) (by have z:=hq.1;constructor<;>omega) (by show 1*_≤PySem.sizeLine;have z:=hq.1;exact zai (by omega)))))) (by first | (rw [List.map_map];rfl) | (simp only [cond_true,cond_false];rw [List.map_map];rfl)))) (by exact zai (by rw [List.length_map,zaC];omega))) (λv189 hv189 =>
 have hS:=zpx hq.1 hi0 hL hK hv189;(zl9 (x:=(List.map (λ(x190:Int)=>(List.map (λ(x193:Int)=>(if (decide (x193=(v185+x190))) then 1 else 0)) (zaW 0 (v185+P2).toNat))) (zaW 0 P2.toNat))) dRI (λ(r:((List (List Int))×(List (List Int))))=>Oc.rt true (dT [dL (List.map lI r.1),dL (List.map lI r.2)])) (zmu (zlA (ns:=λ(x190:Int)=>(List.map (λ(x193:Int)=>(if (decide (x193=(v185+x190))) then 1 else 0)) (zaW 0 (v185+P2).toNat))) (zdb (m:=true) (n:=P2) (Ev.any (m:=false) (zaa (i:=2) rfl)) (by refine ⟨?_,?_⟩<;>omega)) (by exact zai (by rw [zaC];omega)) ⟨by decide,by decide⟩ (λi191 x190 hx192=>have v192:=zbf hx192;(EvO.conv (zbN (g:=(λ(x193:Int)=>dI (if (decide (x193=(v185+x190))) then 1 else 0))) (zdb (m:=true) (n:=(v185+P2)) (zaD (x:=v185) (y:=P2) (Ev.any (m:=false) (zaa (i:=1) rfl)) (Ev.any (m:=false) (zaa (i:=2) rfl))) (by refine ⟨?_,?_⟩<;>omega)) (by exact zai (by rw [zaC];omega)) ⟨by decide,by decide⟩ (λi194 x193 hx195=>have v195:=zbf hx195;(zkB (b:=(decide (x193=(v185+x190)))) (zab (zds (x:=x193) (y:=(v185+x190)) (Ev.any (m:=true) (zaa (i:=0) rfl)) (zaD (x:=v185) (y:=x190) (Ev.any (m:=false) (zaa (i:=1) rfl)) (Ev.any (m:=true) (zaa (i:=2) rfl)))) zad)))) (by first | (rw [List.map_map];rfl) | (simp only [cond_true,cond_false];rw [List.map_map];rfl)))))) (λv196 hv196 =>
 have hTr:=znw hv196;(zbS (s0:=(v189,v196)) (λ(s197:(List (List Int))×(List (List Int)))=>([.va false (dQ K (List.map lI P0)),.va false (dQ K (List.map dI P1)),.va false (dI P2),.va false (dQ K (List.map dI P3)),.ow true (List.map lI s197.1),.no,.no,.va true (dI v185),.tl (dRI s197.2),.no,.no,.no,.no,.no]:L2.Ctx)) (λ(r:((List (List Int))×(List (List Int))))=>Oc.rt true (dT [dL (List.map lI r.1),dL (List.map lI r.2)])) (λ(s197:(List (List Int))×(List (List Int))) (x198:Int)=>(Let (m_law_thing x198 (4:Int) (max (1:Int) ((s197.1.length:Nat):Int))) (λ(v202:Int) =>
 (Let (m_law_thing x198 (5:Int) (max (1:Int) ((s197.1.length:Nat):Int))) (λ(v203:Int) =>
 (Let ((m_law_thing x198 (6:Int) (5:Int))-(2:Int)) (λ(v204:Int) =>
 (Let (bif (!decide (v202=v203)) then (setZ s197.1 v203 (List.map (λ(x206:(Int×Int))=>(x206.1+(v204*x206.2))) (List.zip (ixD s197.1 v203) (ixD s197.1 v202)))) else s197.1) (λ(v210:(List (List Int))) =>
 (Let (bif (!decide (v202=v203)) then (List.map (λ(ns209:List Int)=>setZ ns209 v202 ((ixD ns209 v202)-(v204*(ixD ns209 v203)))) s197.2) else s197.2) (λ(v211:(List (List Int))) =>
 (v210,v211)))))))))))) (λ(i:Nat) (s197:(List (List Int))×(List (List Int)))=>StI W (v185+P2).toNat s197) (zbX (m:=false) dI (xs:=P3) (zaa (i:=3) rfl)) (.eq (.eq (.eq (.eq (.eq (.eq (.eq (.eq (.eq (.eq (.eq (.eq (.eq (.eq .nil)))))))))))))) (by exact ⟨hS,hTr⟩) (λi199 x198 s197 hx200 hI201=>have v200:=List.mem_of_getElem? hx200;⟨(by exact zkQ (by assumption) (zfl ((by assumption):StI W _ _).1 rfl) (zfl ((by assumption):StI W _ _).1 rfl)),
 (zaj (m:=true) (x:=(m_law_thing x198 (4:Int) (max (1:Int) ((s197.1.length:Nat):Int)))) dI (λz=>Oc.nx ((λ(s197:(List (List Int))×(List (List Int)))=>([.va false (dQ K (List.map lI P0)),.va false (dQ K (List.map dI P1)),.va false (dI P2),.va false (dQ K (List.map dI P3)),.ow true (List.map lI s197.1),.no,.no,.va true (dI v185),.tl (dRI s197.2),.no,.no,.no,.no,.no]:L2.Ctx)) z)) (Ev.any (m:=true) (zah (x:=(x198,(4:Int),(max (1:Int) ((s197.1.length:Nat):Int)))) (zab (Ev.any (m:=false) (zaa (i:=9) rfl)) (zab zaw (zab (zmx (x:=(1:Int)) (y:=((s197.1.length:Nat):Int)) (zab zaw (zab (ze3 (f:=lI) (xs:=s197.1) rfl) zad))) zad))) rfl (by show zay x198 (4:Int) (max (1:Int) ((s197.1.length:Nat):Int));refine ⟨by decide,by decide,by omega⟩) rfl)) (λv202 hv202 =>
 have hO:=zfl ((by assumption):StI W _ _).1 hv202;(zaj (m:=true) (x:=(m_law_thing x198 (5:Int) (max (1:Int) ((s197.1.length:Nat):Int)))) dI (λz=>Oc.nx ((λ(s197:(List (List Int))×(List (List Int)))=>([.va false (dQ K (List.map lI P0)),.va false (dQ K (List.map dI P1)),.va false (dI P2),.va false (dQ K (List.map dI P3)),.ow true (List.map lI s197.1),.no,.no,.va true (dI v185),.tl (dRI s197.2),.no,.no,.no,.no,.no]:L2.Ctx)) z)) (Ev.any (m:=true) (zah (x:=(x198,(5:Int),(max (1:Int) ((s197.1.length:Nat):Int)))) (zab (Ev.any (m:=false) (zaa (i:=9) rfl)) (zab zaw (zab (zmx (x:=(1:Int)) (y:=((s197.1.length:Nat):Int)) (zab zaw (zab (ze3 (f:=lI) (xs:=s197.1) rfl) zad))) zad))) rfl (by show zay x198 (5:Int) (max (1:Int) ((s197.1.length:Nat):Int));refine ⟨by decide,by decide,by omega⟩) rfl)) (λv203 hv203 =>
 have hT:=zfl ((by assumption):StI W _ _).1 hv203;(zaj (m:=true) (x:=((m_law_thing x198 (6:Int) (5:Int))-(2:Int))) dI (λz=>Oc.nx ((λ(s197:(List (List Int))×(List (List Int)))=>([.va false (dQ K (List.map lI P0)),.va false (dQ K (List.map dI P1)),.va false (dI P2),.va false (dQ K (List.map dI P3)),.ow true (List.map lI s197.1),.no,.no,.va true (dI v185),.tl (dRI s197.2),.no,.no,.no,.no,.no]:L2.Ctx)) z)) (zaD (x:=(m_law_thing x198 (6:Int) (5:Int))) (y:=(2:Int)) (Ev.any (m:=true) (zah (x:=(x198,(6:Int),(5:Int))) (zab (Ev.any (m:=false) (zaa (i:=9) rfl)) (zab zaw (zab zaw zad))) rfl (by show zay x198 (6:Int) (5:Int);refine ⟨by decide,by decide,by omega⟩) rfl)) zaw) (λv204 hv204 =>
 have hM:=ziU hv204;(zcD (b:=(!decide (v202=v203))) (λbb=>([.va false (dQ K (List.map lI P0)),.va false (dQ K (List.map dI P1)),.va false (dI P2),.va false (dQ K (List.map dI P3)),.ow true (List.map lI (bif bb then (setZ s197.1 v203 (List.map (λ(x206:(Int×Int))=>(x206.1+(v204*x206.2))) (List.zip (ixD s197.1 v203) (ixD s197.1 v202)))) else s197.1)),.no,.no,.va true (dI v185),.tl (dRI (bif bb then (List.map (λ(ns209:List Int)=>setZ ns209 v202 ((ixD ns209 v202)-(v204*(ixD ns209 v203)))) s197.2) else s197.2)),.va false (dI x198),.va true (dI v202),.va true (dI v203),.va true (dI v204),.no]:L2.Ctx)) (zao (zc0 (x:=v202) (y:=v203) (Ev.any (m:=true) (zaa (i:=10) rfl)) (Ev.any (m:=true) (zaa (i:=11) rfl)))) (λh205=>(zea (f:=lI) (xs:=s197.1) (x:=(List.map (λ(x206:(Int×Int))=>(x206.1+(v204*x206.2))) (List.zip (ixD s197.1 v203) (ixD s197.1 v202)))) rfl (EvO.ev (EvO.conv (zbN (g:=(λ(x206:(Int×Int))=>dI (x206.1+(v204*x206.2)))) (zeM (m:=true) dI dI (xs:=(ixD s197.1 v203)) (ys:=(ixD s197.1 v202)) (Ev.weak (K:=K) (ev_ownIxM (f:=lI) (xs:=s197.1) rfl (Ev.any (m:=true) (zaa (i:=11) rfl)) (by exact sq_ix ((by assumption):StI W _ _).1 (zeZ hO hT (by assumption)).2.1 (zeZ hO hT (by assumption)).2.2))) (Ev.weak (K:=K) (ev_ownIxM (f:=lI) (xs:=s197.1) rfl (Ev.any (m:=true) (zaa (i:=10) rfl)) (by exact sq_ix ((by assumption):StI W _ _).1 (zeZ hO hT (by assumption)).1.1 (zeZ hO hT (by assumption)).1.2)))) (by exact zpJ ((by assumption):StI W _ _).1 (zeZ hO hT (by assumption)).2 w8) ⟨by decide,by decide⟩ (λi207 x206 hx208=>have v208:=zcv hx208;(zaD (x:=x206.1) (y:=(v204*x206.2)) (Ev.any (m:=true) (zaa (i:=0) rfl)) (zau (x:=v204) (y:=x206.2) (Ev.any (m:=true) (zaa (i:=2) rfl)) (Ev.any (m:=true) (zaa (i:=1) rfl)) (by exact .inl ⟨by omega,by omega⟩))))) (by first | (rw [List.map_map];rfl) | (simp only [cond_true,cond_false];rw [List.map_map];rfl)))) (Ev.any (m:=true) (zaa (i:=11) rfl)) (by exact sq_ix ((by assumption):StI W _ _).1 (zeZ hO hT (by assumption)).2.1 (zeZ hO hT (by assumption)).2.2)
 (zhS (nss:=s197.2) (i:=8) (j:=13) (v:=λ(ns209:List Int)=>((ixD ns209 v202)-(v204*(ixD ns209 v203)))) (k:=v202) (P:=λ(ns209:List Int)=>ns209.length=(v185+P2).toNat) rfl rfl rfl (by exact ((by assumption):StI W _ _).2) (λns209 hns=>(by exact znK hns (zeZ hO hT (by assumption)).1)) (λns209 hns=>Ev.borrow (m:=false) rfl (zaD (x:=(ixD ns209 v202)) (y:=(v204*(ixD ns209 v203))) (Ev.any (m:=true) (zb1 (f:=dI) (xs:=ns209) (Ev.weak (K:=K) (zaa (i:=13) rfl)) (Ev.any (m:=true) (zaa (i:=10) rfl)) (by exact znK hns (zeZ hO hT (by assumption)).1))) (zau (x:=v204) (y:=(ixD ns209 v203)) (Ev.any (m:=true) (zaa (i:=12) rfl)) (Ev.any (m:=true) (zb1 (f:=dI) (xs:=ns209) (Ev.weak (K:=K) (zaa (i:=13) rfl)) (Ev.any (m:=true) (zaa (i:=11) rfl)) (by exact znK hns (zeZ hO hT (by assumption)).2))) (by exact .inl ⟨by omega,by omega⟩)))) (λns209 hns=>Ev.borrow (m:=false) rfl (Ev.any (m:=true) (zaa (i:=10) rfl)))
 (zar (.eq (.eq (.eq (.eq (.eq (.eq (.eq (.eq (.eq (.eq (.eq (.eq (.eq (.eq .nil)))))))))))))))))) (λh205=>(zar (.eq (.eq (.eq (.eq (.eq (.eq (.eq (.eq (.eq (.eq (.eq (.eq (.eq (.eq .nil))))))))))))))))
 (zce (x:=(bif (!decide (v202=v203)) then (setZ s197.1 v203 (List.map (λ(x206:(Int×Int))=>(x206.1+(v204*x206.2))) (List.zip (ixD s197.1 v203) (ixD s197.1 v202)))) else s197.1)) (λv210=>([.va false (dQ K (List.map lI P0)),.va false (dQ K (List.map dI P1)),.va false (dI P2),.va false (dQ K (List.map dI P3)),.ow true (List.map lI v210),.no,.no,.va true (dI v185),.tl (dRI (bif (!decide (v202=v203)) then (List.map (λ(ns209:List Int)=>setZ ns209 v202 ((ixD ns209 v202)-(v204*(ixD ns209 v203)))) s197.2) else s197.2)),.va false (dI x198),.va true (dI v202),.va true (dI v203),.va true (dI v204),.no]:L2.Ctx)) (λz=>Oc.nx ((λ(s197:(List (List Int))×(List (List Int)))=>([.va false (dQ K (List.map lI P0)),.va false (dQ K (List.map dI P1)),.va false (dI P2),.va false (dQ K (List.map dI P3)),.ow true (List.map lI s197.1),.no,.no,.va true (dI v185),.tl (dRI s197.2),.no,.no,.no,.no,.no]:L2.Ctx)) z)) (λv210 hv210 =>
 (zce (x:=(bif (!decide (v202=v203)) then (List.map (λ(ns209:List Int)=>setZ ns209 v202 ((ixD ns209 v202)-(v204*(ixD ns209 v203)))) s197.2) else s197.2)) (λv211=>([.va false (dQ K (List.map lI P0)),.va false (dQ K (List.map dI P1)),.va false (dI P2),.va false (dQ K (List.map dI P3)),.ow true (List.map lI v210),.no,.no,.va true (dI v185),.tl (dRI v211),.va false (dI x198),.va true (dI v202),.va true (dI v203),.va true (dI v204),.no]:L2.Ctx)) (λz=>Oc.nx ((λ(s197:(List (List Int))×(List (List Int)))=>([.va false (dQ K (List.map lI P0)),.va false (dQ K (List.map dI P1)),.va false (dI P2),.va false (dQ K (List.map dI P3)),.ow true (List.map lI s197.1),.no,.no,.va true (dI v185),.tl (dRI s197.2),.no,.no,.no,.no,.no]:L2.Ctx)) z)) (λv211 hv211 =>
 (zar (.eq (.eq (.eq (.eq (.eq (.eq (.eq (.eq (.eq (.no (.no (.no (.no (.eq .nil))))))))))))))))))))))))))⟩) (λr212 hr212 hI =>
 (zff rfl (zcq (i:=4) rfl (zag (zap (zfk (zab (zaa (i:=4) rfl) (zab (zp8 (zaa (i:=8) rfl)) zad)) (by show 2≤sizeLine;decide))))))))))))))))))
theorem zjX {b:Nat} {l t:List Int} {q:Int} (h:Lat.Bit b l) (k:Lat.Bit b t) (hq:-2≤q∧q≤2):Lat.Bit (b+2) (List.map (λ(x:Int×Int)=>x.1+(q*x.2)) (List.zip l t))∧Lat.Bit (b+2) (List.map (λ(x:Int×Int)=>x.1-(q*x.2)) (List.zip l t)):=by
 have a4:(2:Nat)^(b+2)=4*2^b:=by rw [Nat.pow_add];omega
 have key:∀ x:Int×Int,x∈List.zip l t->x.1.natAbs≤2^b∧(q*x.2).natAbs≤2*2^b:=λx hx=>by
  obtain ⟨h1,h2⟩:=List.of_mem_zip (a:=x.1) (b:=x.2) hx
  exact ⟨h _ h1,by rw [Int.natAbs_mul];exact Nat.mul_le_mul (by omega) (k _ h2)⟩
 refine ⟨λy hy=>?_,λy hy=>?_⟩ <;>
 ·obtain ⟨x,hx,rfl⟩:=List.mem_map.mp hy
  have:=key x hx
  rw [a4]
  omega
def FrJ (W b:Nat) (s:List (List Int)×List (List Int)):Prop:=(s.1.length=W∧Lat.RB W b s.1)∧s.2.length=W∧Lat.RB W b s.2
theorem zmn {W b:Nat} {rows:List (List Int)} {i:Int} {y:List Int} (h:rows.length=W∧Lat.RB W b rows) (hy:y.length=W∧Lat.Bit (b+2) y):(setZ rows i y).length=W∧Lat.RB W (b+2) (setZ rows i y):=by
 refine ⟨by rw [zd5];exact h.1,λr hr=>?_⟩
 rcases Lat.setZ_mem hr with rfl | hr
 ·exact hy
 ·exact ⟨(h.2 r hr).1,((h.2 r hr).2).mono (by omega)⟩
theorem zoO {W b:Nat} {rows:List (List Int)} (h:rows.length=W∧Lat.RB W b rows):rows.length=W∧Lat.RB W (b+2) rows:=⟨h.1,λr hr=>⟨(h.2 r hr).1,((h.2 r hr).2).mono (by omega)⟩⟩
theorem zif {W b n:Nat} {rows:List (List Int)} (h:rows.length=n∧Lat.RB W b rows):Sq W n rows:=⟨h.1,λr hr=>(h.2 r hr).1⟩
def frF (w:Int):List (List Int)×List (List Int)->Int->List (List Int)×List (List Int):=λs x=>Let (m_law_thing x (1:Int) w) (λ(one:Int)=>Let (m_law_thing x (2:Int) w) (λ(two:Int)=>Let ((m_law_thing x (3:Int) (5:Int))-(2:Int)) (λ(many:Int) =>
 Let (bif (!decide (one=two)) then (setZ s.1 two (List.map (λ(x35:(Int×Int))=>(x35.1+(many*x35.2))) (List.zip (ixD s.1 two) (ixD s.1 one)))) else s.1) (λ(rows41:(List (List Int))) =>
 Let (bif (!decide (one=two)) then (setZ s.2 one (List.map (λ(x38:(Int×Int))=>(x38.1-(many*x38.2))) (List.zip (ixD s.2 one) (ixD s.2 two)))) else s.2) (λ(v42:(List (List Int)))=>(rows41,v42))))))
theorem zkn {w:Int} {W:Nat} (hw:w=(W:Int)) (h1:1≤w):∀ (cs:List Int) (b:Nat) (s:List (List Int)×List (List Int)),FrJ W b s->FrJ W (b+2*cs.length) (List.foldl (frF w) s cs)
 | [],b,s,h=>h
 | c :: cs,b,s,h=>by
  rw [List.foldl_cons,List.length_cons,show b+2*(cs.length+1)=b+2+2*cs.length by omega]
  refine zkn hw h1 cs (b+2) _ ?_
  have hO:=zc3 (c:=c) (k:=1) hw h1 rfl
  have hT:=zc3 (c:=c) (k:=2) hw h1 rfl
  have hM:=ziU (c:=c) (k:=3) rfl
  unfold frF Let
  dsimp only
  generalize m_law_thing c 1 w=one at *
  generalize m_law_thing c 2 w=two at *
  generalize m_law_thing c 3 5-2=many at *
  have q1:=zif h.1
  have q2:=zif h.2
  have m:∀ {rows:List (List Int)} {x:Int},rows.length=W∧Lat.RB W b rows->0≤x∧x<(W:Int)->Lat.Bit b (ixD rows x):=λh hx=>(h.2 _ (zdx (sq_ix (zif h) hx.1 hx.2))).2
  cases (!decide (one=two))
  ·exact ⟨zoO h.1,zoO h.2⟩
  ·exact ⟨zmn h.1 ⟨sq_zip q1 q1 hT hO,(zjX (m h.1 hT) (m h.1 hO) hM).1⟩,zmn h.2 ⟨sq_zip q2 q2 hO hT,(zjX (m h.2 hO) (m h.2 hT) hM).2⟩⟩
theorem zd2 {w:Int} {W:Nat} {cs:List Int} (hw:w=(W:Int)) (h1:1≤w):FrJ W (2*cs.length) (m_law_frame w cs):=by
 have h:=zkn hw h1 cs 0 (List.map (λ(x:Int)=>List.map (λ(y:Int)=>(if (decide (y=x)) then (1:Int) else 0)) (zaW 0 w.toNat)) (zaW 0 w.toNat),List.map (λ(x:List Int)=>x) (List.map (λ(x:Int)=>List.map (λ(y:Int)=>(if (decide (y=x)) then (1:Int) else 0)) (zaW 0 w.toNat)) (zaW 0 w.toNat))) (by
  have h0:∀ x:Int,Lat.Bit 0 (List.map (λ(y:Int)=>(if (decide (y=x)) then (1:Int) else 0)) (zaW 0 w.toNat)):=λx y hy=>by
   obtain ⟨z,_,rfl⟩:=List.mem_map.mp hy
   cases decide (z=x)<;>decide
  have hA:((List.map (λ(x:Int)=>List.map (λ(y:Int)=>(if (decide (y=x)) then (1:Int) else 0)) (zaW 0 w.toNat)) (zaW 0 w.toNat)).length=W)∧Lat.RB W 0 (List.map (λ(x:Int)=>List.map (λ(y:Int)=>(if (decide (y=x)) then (1:Int) else 0)) (zaW 0 w.toNat)) (zaW 0 w.toNat)):=by
   refine ⟨by rw [List.length_map,zaC];omega,λr hr=>?_⟩
   obtain ⟨x,_,rfl⟩:=List.mem_map.mp hr
   exact ⟨by rw [List.length_map,zaC];omega,h0 x⟩
  exact ⟨hA,by rw [List.map_id'];exact hA⟩)
 rw [Nat.zero_add] at h
 exact h
def zpS (n:Nat) (swaps trips:List (List Int)):Prop:=∀ t∈trips,∀ j,j<n->Lat.comb t (swaps.map Lat.vec) j=0
def StJ (n k b c:Nat) (s:List (List Int)×List (List Int)):Prop:=(s.1.length=k∧Lat.RB n b s.1)∧(∀ t∈s.2,t.length=k∧Lat.Bit c t)∧zpS n s.1 s.2
theorem ziC {rows:List (List Int)} {k:Nat} {y:List Int}:(rows.set k y).map Lat.vec=(rows.map Lat.vec).set k (Lat.vec y):=List.map_set
theorem setZ_nt {α:Type} {xs:List α} {k:Nat} {x:α} (h:k<xs.length):setZ xs (k:Int) x=xs.set k x:=by
 unfold setZ ixN
 rw [if_pos (by omega),if_pos (by omega)]
 show xs.set (k:Int).toNat x=_
 rw [Int.toNat_natCast]
def stF:List (List Int)×List (List Int)->Int->List (List Int)×List (List Int):=λs x=>Let (m_law_thing x (4:Int) (max (1:Int) ((s.1.length:Nat):Int))) (λ(one:Int)=>Let (m_law_thing x (5:Int) (max (1:Int) ((s.1.length:Nat):Int))) (λ(two:Int)=>Let ((m_law_thing x (6:Int) (5:Int))-(2:Int)) (λ(many:Int) =>
 Let (bif (!decide (one=two)) then (setZ s.1 two (List.map (λ(z:(Int×Int))=>(z.1+(many*z.2))) (List.zip (ixD s.1 two) (ixD s.1 one)))) else s.1) (λ(swaps:(List (List Int))) =>
 Let (bif (!decide (one=two)) then (List.map (λ(ns:List Int)=>setZ ns one ((ixD ns one)-(many*(ixD ns two)))) s.2) else s.2) (λ(trips:(List (List Int)))=>(swaps,trips))))))
theorem zkH {n k:Nat}:∀ (cs:List Int) (b c:Nat) (s:List (List Int)×List (List Int)),StJ n k b c s->StJ n k (b+2*cs.length) (c+2*cs.length) (List.foldl stF s cs)
 | [],b,c,s,h=>h
 | x :: cs,b,c,s,h=>by
  rw [List.foldl_cons,List.length_cons,show b+2*(cs.length+1)=b+2+2*cs.length by omega,show c+2*(cs.length+1)=c+2+2*cs.length by omega]
  refine zkH cs (b+2) (c+2) _ ?_
  obtain ⟨h1,h2,h3⟩:=h
  have hq:=zif h1
  have hO:=zfl (c:=x) (k:=4) hq rfl
  have hT:=zfl (c:=x) (k:=5) hq rfl
  have hM:=ziU (c:=x) (k:=6) rfl
  unfold stF Let
  dsimp only
  generalize m_law_thing x 4 (max (1:Int) ((s.1.length:Nat):Int))=one at *
  generalize m_law_thing x 5 (max (1:Int) ((s.1.length:Nat):Int))=two at *
  generalize m_law_thing x 6 5-2=many at *
  by_cases e:one=two
  ·rw [decide_eq_true e]
   exact ⟨⟨h1.1,λr hr=>⟨(h1.2 r hr).1,((h1.2 r hr).2).mono (by omega)⟩⟩,λt ht=>⟨(h2 t ht).1,((h2 t ht).2).mono (by omega)⟩,h3⟩
  ·rw [decide_eq_false e]
   have hl:=zeZ hO hT (by simp [e])
   obtain ⟨o,rfl⟩:∃ o:Nat,one=(o:Int):=⟨one.toNat,by omega⟩
   obtain ⟨w,rfl⟩:∃ w:Nat,two=(w:Int):=⟨two.toNat,by omega⟩
   have how:o≠w:=λz=>e (by rw [z])
   have ho:o<s.1.length:=by rw [h1.1];omega
   have hw:w<s.1.length:=by rw [h1.1];omega
   have ge:∀ {i:Nat} (hi:i<s.1.length),ixD s.1 (i:Int)=s.1[i]:=λhi=>zdO (List.getElem?_eq_getElem hi)
   show StJ n k (b+2) (c+2) (setZ s.1 (w:Int) _,List.map _ s.2)
   rw [ge ho,ge hw,setZ_nt hw]
   have ro:=h1.2 _ (List.getElem_mem ho)
   have rw':=h1.2 _ (List.getElem_mem hw)
   refine ⟨⟨by rw [List.length_set];exact h1.1,λr hr=>?_⟩,λt ht=>?_,λt ht j hj=>?_⟩
   ·rcases List.mem_or_eq_of_mem_set hr with h' | rfl
    ·exact ⟨(h1.2 r h').1,((h1.2 r h').2).mono (by omega)⟩
    ·exact ⟨by rw [List.length_map,List.length_zip,ro.1,rw'.1];omega,(zjX rw'.2 ro.2 hM).1⟩
   ·obtain ⟨ns,hns,rfl⟩:=List.mem_map.mp ht
    have hn:=h2 ns hns
    refine ⟨by rw [zd5];exact hn.1,λy hy=>?_⟩
    have a4:(2:Nat)^(c+2)=4*2^c:=by rw [Nat.pow_add];omega
    rcases Lat.setZ_mem hy with rfl | hy
    ·have b1:=hn.2 _ (zdx (xs:=ns) (i:=(o:Int)) (by unfold InB;omega))
     have b2:=hn.2 _ (zdx (xs:=ns) (i:=(w:Int)) (by unfold InB;omega))
     have b3:(many*ixD ns (w:Int)).natAbs≤2*2^c:=by rw [Int.natAbs_mul];exact Nat.mul_le_mul (by omega) b2
     rw [a4];omega
    ·have:=hn.2 y hy
     rw [a4];omega
   ·obtain ⟨ns,hns,rfl⟩:=List.mem_map.mp ht
    have hn:=h2 ns hns
    have no:o<ns.length:=by omega
    have nw:w<ns.length:=by omega
    have e1:ixD ns (o:Int)=ns[o]:=zdO (List.getElem?_eq_getElem no)
    have e2:ixD ns (w:Int)=ns[w]:=zdO (List.getElem?_eq_getElem nw)
    rw [setZ_nt no,e1,e2,ziC]
    rw [Lat.zk5 (t1:=ns[o]) (t2:=ns[w]) (a1:=Lat.vec s.1[o]) (a2:=Lat.vec s.1[w]) how (List.getElem?_eq_getElem no) (List.getElem?_eq_getElem nw) (by rw [List.getElem?_map,List.getElem?_eq_getElem ho];rfl) (by rw [List.getElem?_map,List.getElem?_eq_getElem hw];rfl) (Lat.zfB (by rw [ro.1,rw'.1]))]
    exact h3 ns hns j hj
theorem zkV {W b:Nat}:∀ (l:List (List Int×Int)) (acc:List (List Int)),(∀ p∈l,p.1.length=W∧Lat.Bit b p.1∧0≤p.2∧p.2≤1000000001)->Lat.RB W (b+30) acc->(List.foldl (λ(s:List (List Int)) (x:List Int×Int)=>Let (bif (decide ((0:Int)<x.2)) then (s++[List.map (λ(y:Int)=>(x.2*y)) x.1]) else s) (λ(z:List (List Int))=>z)) acc l).length≤acc.length+l.length∧Lat.RB W (b+30) (List.foldl (λ(s:List (List Int)) (x:List Int×Int)=>Let (bif (decide ((0:Int)<x.2)) then (s++[List.map (λ(y:Int)=>(x.2*y)) x.1]) else s) (λ(z:List (List Int))=>z)) acc l)
 | [],acc,_,h=>⟨Nat.le_refl _,h⟩
 | p :: l,acc,hl,h=>by
  have hp:=hl p List.mem_cons_self
  rw [List.foldl_cons]
  have hn:(bif (decide ((0:Int)<p.2)) then (acc++[List.map (λ(y:Int)=>(p.2*y)) p.1]) else acc).length≤acc.length+1∧Lat.RB W (b+30) (bif (decide ((0:Int)<p.2)) then (acc++[List.map (λ(y:Int)=>(p.2*y)) p.1]) else acc):=by
   cases decide ((0:Int)<p.2)
   ·exact ⟨Nat.le_succ _,h⟩
   ·refine ⟨by rw [cond_true,List.length_append,List.length_singleton];exact Nat.le_refl _,λr hr=>?_⟩
    rcases List.mem_append.mp hr with hr | hr
    ·exact h r hr
    ·rw [List.mem_singleton.mp hr]
     refine ⟨by rw [List.length_map];exact hp.1,λy hy=>?_⟩
     obtain ⟨z,hz,rfl⟩:=List.mem_map.mp hy
     rw [Int.natAbs_mul,Nat.pow_add,Nat.mul_comm]
     exact Nat.mul_le_mul (hp.2.1 z hz) (Nat.le_trans (show p.2.natAbs≤1000000001 by omega) (by decide))
  have:=zkV l _ (λq hq=>hl q (List.mem_cons_of_mem _ hq)) hn.2
  refine ⟨Nat.le_trans this.1 ?_,this.2⟩
  rw [List.length_cons]
  have:=hn.1
  omega
theorem zpb {W k:Nat} {a:List (List Int)} {idle:Int} (h0:0≤idle) {w:Int}:zpS W (a++List.map (λ(_:Int)=>zcY w [(0:Int)]) (zaW 0 idle.toNat)) (List.map (λ(x:Int)=>List.map (λ(y:Int)=>(if (decide (y=(((a.length:Nat):Int)+x))) then (1:Int) else 0)) (zaW 0 (((a.length:Nat):Int)+idle).toNat)) (zaW 0 idle.toNat)):=λt ht j _=>by
 obtain ⟨x,hx,rfl⟩:=List.mem_map.mp ht
 have hx0:=(mem_rngZ.mp hx).1
 refine Lat.comb_zero λi y v h1 h2=>?_
 rw [List.getElem?_map] at h1 h2
 cases q:(zaW 0 (((a.length:Nat):Int)+idle).toNat)[i]? with
 | none=>rw [q] at h1;cases h1
 | some z =>
  rw [q] at h1
  obtain ⟨g1,g2⟩:=zbf q
  have h1:(if (decide (z=(((a.length:Nat):Int)+x))) then (1:Int) else 0)=y:=Option.some.inj h1
  by_cases e:i<a.length
  ·rw [decide_eq_false (by omega)] at h1
   rw [← h1];simp
  ·rw [List.getElem?_append_right (by omega),List.getElem?_map] at h2
   cases q2:(zaW 0 idle.toNat)[i-a.length]? with
   | none=>rw [q2] at h2;cases h2
   | some z2 =>
    rw [q2] at h2
    have h2:Lat.vec (zcY w [(0:Int)])=v:=Option.some.inj h2
    rw [← h2]
    have:Lat.vec (zcY w [(0:Int)]) j=0:=by
     by_cases hw:0≤w
     ·obtain ⟨n,rfl⟩:∃ n:Nat,w=(n:Int):=⟨w.toNat,by omega⟩
      exact Lat.zez
     ·unfold zcY
      rw [show w.toNat=0 by omega]
      simp [Lat.vec]
    rw [this];simp
theorem zji {W b:Nat} {rows:List (List Int)} {bs cs:List Int} {idle:Int} (hr:rows.length=W∧Lat.RB W b rows) (hw:W≤8) (hb:∀ x∈bs,0≤x∧x≤1000000001) (hi:0≤idle∧idle≤3) :
  ∃ k,k≤11∧StJ W k (b+30+2*cs.length) (2*cs.length) (m_law_stirred rows bs idle cs):=by
 have h0:=zkV (W:=W) (b:=b) (List.zip rows bs) [] (λp hp=>by
  have:=List.of_mem_zip (a:=p.1) (b:=p.2) hp
  exact ⟨(hr.2 _ this.1).1,(hr.2 _ this.1).2,hb _ this.2⟩) (λr hr=>by simp at hr)
 rw [List.length_zip,List.length_nil,Nat.zero_add] at h0
 unfold m_law_stirred
 generalize ha:(List.foldl (λ(s:List (List Int)) (x:List Int×Int)=>Let (bif (decide ((0:Int)<x.2)) then (s++[List.map (λ(y:Int)=>(x.2*y)) x.1]) else s) (λ(z:List (List Int))=>z)) [] (List.zip rows bs))=a at h0
 show ∃ k,k≤11∧StJ W k _ _ (List.foldl stF (a++List.map (λ(_:Int)=>zcY ((rows.length:Nat):Int) [(0:Int)]) (zaW 0 idle.toNat),List.map (λ(x:Int)=>List.map (λ(y:Int)=>(if (decide (y=(((a.length:Nat):Int)+x))) then (1:Int) else 0)) (zaW 0 (((a.length:Nat):Int)+idle).toNat)) (zaW 0 idle.toNat)) cs)
 have hl:=hr.1
 refine ⟨a.length+idle.toNat,by have:=h0.1;omega,?_⟩
 have:=zkH (n:=W) (k:=a.length+idle.toNat) cs (b+30) 0 (a++List.map (λ(_:Int)=>zcY ((rows.length:Nat):Int) [(0:Int)]) (zaW 0 idle.toNat),List.map (λ(x:Int)=>List.map (λ(y:Int)=>(if (decide (y=(((a.length:Nat):Int)+x))) then (1:Int) else 0)) (zaW 0 (((a.length:Nat):Int)+idle).toNat)) (zaW 0 idle.toNat)) ⟨⟨by rw [List.length_append,List.length_map,zaC],λr hr'=>?_⟩,λt ht=>?_,zpb (k:=0) (a:=a) (w:=((rows.length:Nat):Int)) hi.1⟩
 ·rw [Nat.zero_add] at this
  exact this
 ·rcases List.mem_append.mp hr' with hr' | hr'
  ·exact h0.2 r hr'
  ·obtain ⟨x,_,rfl⟩:=List.mem_map.mp hr'
   refine ⟨by rw [Lat.zcM];exact hl,λy hy=>?_⟩
   obtain ⟨j,_,rfl⟩:=Lat.zfJ hy
   rw [Lat.zez];exact Nat.zero_le _
 ·obtain ⟨x,_,rfl⟩:=List.mem_map.mp ht
  refine ⟨by rw [List.length_map,zaC];omega,λy hy=>?_⟩
  obtain ⟨z,_,rfl⟩:=List.mem_map.mp hy
  cases decide (z=(((a.length:Nat):Int)+x))<;>decide
theorem zpj {b:Bool} {c w0 w:Int} (e0:w0=((1:Int)+(c%(4:Int)))) (e:w=bif b then ((5:Int)+((c/(64:Int))%(4:Int))) else w0):1≤w∧w≤8:=by
 subst e0 e;cases b
 ·rw [cond_false];omega
 ·rw [cond_true];omega
theorem md_stp {w c:Int} {cs bs:List Int} {p:List (List Int)×List (List Int)} {x k:Int} (hw:1≤w∧w≤8) (e:p=m_law_frame w cs) (eb:bs=m_law_bottoms w x k):StP p.1 bs ((c/(64:Int))%(4:Int)):=by
 obtain ⟨W,hW⟩:∃ W:Nat,w=(W:Int):=⟨w.toNat,by omega⟩
 have h:=zd2 (cs:=cs) hW hw.1
 subst e eb
 have hb:=ziz (w:=w) (c:=x) (f:=k) (by omega)
 exact ⟨W,by omega,by omega,zif h.1,by rw [hb.1];omega,hb.2,by omega,by omega⟩
def MdP (w:Int) (s:List (List Int)×List (List Int)):Prop:=∃ k,k≤11∧StJ w.toNat k 160 66 s
theorem zpf {w c:Int} {cs ds bs:List Int} {p q:List (List Int)×List (List Int)} {x k:Int} (hw:1≤w∧w≤8) (e:p=m_law_frame w cs) (eb:bs=m_law_bottoms w x k) (h1:cs.length≤31) (h2:ds.length≤33) (eq:q=m_law_stirred p.1 bs ((c/(64:Int))%(4:Int)) ds):MdP w q:=by
 obtain ⟨W,hW⟩:∃ W:Nat,w=(W:Int):=⟨w.toNat,by omega⟩
 have h:=zd2 (cs:=cs) hW hw.1
 subst e eb eq
 have hb:=ziz (w:=w) (c:=x) (f:=k) (by omega)
 obtain ⟨k',h3,h4⟩:=zji (cs:=ds) (idle:=(c/(64:Int))%(4:Int)) h.1 (by omega) hb.2 (by omega)
 refine ⟨k',h3,?_⟩
 rw [show w.toNat=W by omega]
 obtain ⟨a,b,d⟩:=h4
 exact ⟨⟨a.1,λr hr=>⟨(a.2 r hr).1,((a.2 r hr).2).mono (by omega)⟩⟩,λt ht=>⟨(b t ht).1,((b t ht).2).mono (by omega)⟩,d⟩
theorem zhb {α:Type} {xs:List α} {a b:Option Int}:(cutD xs a b).length≤xs.length:=by
 unfold cutD
 rw [List.length_take,List.length_drop]
 omega
theorem zgW {xs:List Int} {h:Int} (e:h=((xs.length:Nat):Int)/(2:Int)) (hx:xs.length≤60):(cutD xs none (some h)).length≤31∧(cutD xs (some h) none).length≤33:=by
 obtain ⟨k,rfl⟩:∃ k:Nat,h=(k:Int):=⟨h.toNat,by omega⟩
 unfold cutD
 simp only [HT.sIx_nat,HT.sIx_none,List.length_take,List.length_drop]
 omega
theorem zf5 {xs ys:List Int} (h:xs.length≤63) (e:ys=cutD xs (some (2:Int)) (some (62:Int))):ys.length≤60:=by
 subst e
 unfold cutD
 rw [show (some (2:Int))=some ((2:Nat):Int) from rfl,show (some (62:Int))=some ((62:Nat):Int) from rfl,HT.sIx_nat,HT.sIx_nat,List.length_take,List.length_drop]
 omega
theorem zfd {α:Type} {xs:List α} {t:Int} (h0:0≤t):cutD xs (some t) none++cutD xs none (some t)=xs.drop t.toNat++xs.take t.toNat:=by
 obtain ⟨k,rfl⟩:∃ k:Nat,t=(k:Int):=⟨t.toNat,by omega⟩
 rw [Int.toNat_natCast]
 unfold cutD
 simp only [HT.sIx_nat,HT.sIx_none]
 by_cases h:k≤xs.length
 ·rw [Nat.min_eq_left h,List.drop_zero,Nat.sub_zero,List.take_of_length_le (by rw [List.length_drop];omega)]
 ·have e1:xs.drop k=[]:=List.drop_eq_nil_of_le (by omega)
  have e2:xs.take k=xs:=List.take_of_length_le (by omega)
  rw [Nat.min_eq_right (by omega),e1,e2]
  simp
theorem zo1 {w:Int} {s:List (List Int)×List (List Int)} {t:Int} (h:MdP w s):(cutD s.1 (some t) none).length+(cutD s.1 none (some t)).length≤PySem.sizeLine:=by
 obtain ⟨k,hk,h1,h2,h3⟩:=h
 exact zai (by have:=zhb (xs:=s.1) (a:=some t) (b:=none);have:=zhb (xs:=s.1) (a:=none) (b:=some t);have:=h1.1;omega)
theorem zp0 {w:Int} {s:List (List Int)×List (List Int)} {t:Int} {r:List Int} (h:MdP w s) (hr:r∈s.2):(cutD r (some t) none).length+(cutD r none (some t)).length≤PySem.sizeLine:=by
 obtain ⟨k,hk,h1,h2,h3⟩:=h
 exact zai (by have:=zhb (xs:=r) (a:=some t) (b:=none);have:=zhb (xs:=r) (a:=none) (b:=some t);have:=(h2 r hr).1;omega)
theorem zpG {s:List (List Int)×List (List Int)} (h:s.2.length≤3):s.2.length≤PySem.sizeLine:=zai (by omega)
theorem ziw:∀ (cs:List Int) (s:List (List Int)×List (List Int)),(List.foldl stF s cs).2.length=s.2.length
 | [],_=>rfl
 | c :: cs,s=>by
  rw [List.foldl_cons,ziw cs]
  unfold stF Let
  dsimp only
  cases (!decide (m_law_thing c (4:Int) (max (1:Int) ((s.1.length:Nat):Int))=m_law_thing c (5:Int) (max (1:Int) ((s.1.length:Nat):Int))))
  ·rfl
  ·rw [cond_true,List.length_map]
theorem zml {rows:List (List Int)} {bs cs:List Int} {c:Int} {q:List (List Int)×List (List Int)} (e:q=m_law_stirred rows bs ((c/(64:Int))%(4:Int)) cs):q.2.length=((c/(64:Int))%(4:Int)).toNat:=by
 subst e
 unfold m_law_stirred
 refine (ziw cs _).trans ?_
 show (List.map _ (zaW 0 ((c/(64:Int))%(4:Int)).toNat)).length=_
 rw [List.length_map,zaC]
def m_law_made (P0:(List Int)):(T5 (List (List Int)) (List (List Int)) (List Int) (List (List Int)) (List (List Int))) :=
 (Let (m_law_cell P0 (0:Int)) (λ(v213:Int) =>
 (Let ((1:Int)+(v213%(4:Int))) (λ(v214:Int) =>
 (Let (bif (decide (((v213/(4:Int))%(16:Int))=(7:Int))) then ((5:Int)+((v213/(64:Int))%(4:Int))) else v214) (λ(v216:Int) =>
 (Let (cutD P0 (some (2:Int)) (some (62:Int))) (λ(v217:(List Int)) =>
 (Let (((v217.length:Nat):Int)/(2:Int)) (λ(hv218:Int) =>
 (Let (m_law_frame v216 (cutD v217 none (some hv218))) (λ(p219:((List (List Int))×(List (List Int)))) =>
 (Let (m_law_bottoms v216 (m_law_raw P0 (1:Int)) (7:Int)) (λ(v220:(List Int)) =>
 (Let (m_law_stirred p219.1 v220 ((v213/(64:Int))%(4:Int)) (cutD v217 (some hv218) none)) (λ(p221:((List (List Int))×(List (List Int)))) =>
 (Let ((v213/(256:Int))%(((p221.1.length:Nat):Int)+(1:Int))) (λ(v222:Int) =>
 (Let ((cutD p221.1 (some v222) none)++(cutD p221.1 none (some v222))) (λ(v223:(List (List Int))) =>
 (Let (List.map (λ(x224:(List Int))=>((cutD x224 (some v222) none)++(cutD x224 none (some v222)))) p221.2) (λ(v227:(List (List Int))) =>
 (T5.mk p219.1 p219.2 v220 v223 v227)))))))))))))))))))))))
def zc4 (P0:(List Int)):Prop:=P0.length≤63
def zey (K:W.Frag) (A:Adr):Sp:=Spv (ι:=(List Int)) (λx=>[dQ K (List.map dI x)]) (λx=>zc4 x) (λx=>.va true (dT [dL (List.map lI ((m_law_made x).a)),dL (List.map lI ((m_law_made x).b)),dL (List.map dI ((m_law_made x).c)),dL (List.map lI ((m_law_made x).d)),dL (List.map lI ((m_law_made x).e))]))
theorem zaH:FnScope ["_law_script","_law_cell_here","_law_wide","_law_cells","_law_half","_law_rows","_law_duals","_law_bottoms_here","_law_swaps","_law_trips","_law_turn"] ["_law_script"] (defScope zca):=⟨rfl,rfl,rfl,by decide +kernel,rfl,by decide +kernel,by decide +kernel⟩
theorem zig (F:Fun K "_law_made" "_law_made" zca f fd) (T:Txt K mg A) (G_law_bottoms:Callee P w K mg base (CXE P w) 2 "_law_bottoms" ["_law_wide","_law_cell_here","_law_far"] (zdd K A)) (G_law_cell:Callee P w K mg base (CXE P w) 1 "_law_cell" ["_law_script","_law_k"] (zeB K A)) (G_law_frame:Callee P w K mg base (CXE P w) 2 "_law_frame" ["_law_wide","_law_cells"] (zd0 K A)) (G_law_raw:Callee P w K mg base (CXE P w) 1 "_law_raw" ["_law_script","_law_k"] (zfi K A)) (G_law_stirred:Callee P w K mg base (CXE P w) 2 "_law_stirred" ["_law_rows","_law_bottoms_here","_law_idle","_law_cells"] (zc9 K A)):FnOk P w K mg base (CXE P w) 3 f fd ["_law_script"] (zey K A):=by
 refine F.okV zaH (λ_=>rfl) (λcdv Ar outer s H E P0 hr hp=>?_)
 have hu:=hr.units
 replace hp:zc4 P0:=hp
 unfold zc4 at hp
 refine ⟨_,(zac (zak (i:=1) zaH.nd rfl (Or.inl rfl) (pe_fn G_law_cell (hr.mono (by decide)) rfl passE (pa_cons (pv 0) (pa_cons zaf pa_nil))))
 (zac (zak (i:=2) zaH.nd rfl (Or.inl rfl) (zam zbt zaf (zam zbO (pv 1) zaf)))
 (zac (zbw (pt_cmpR op_eq (zam zbO (zam zaS (pv 1) zaf) zaf) zaf (nomark _))
 (zac (zak (i:=2) zaH.nd rfl (Or.inl rfl) (zam zbt zaf (zam zbO (zam zaS (pv 1) zaf) zaf)))
 zae)
 zae)
 (zac (zak (i:=3) zaH.nd rfl (Or.inl rfl) (zbh (zaT (K:=K) rfl) (pv 0) (zbv zaf) (zbv zaf)))
 (zac (zak (i:=4) zaH.nd rfl (Or.inl rfl) (zam zaS (pe_callB (call_len_K (K:=K) rfl) rfl T.len PySem.boot_len (pa_cons (pv 3) pa_nil)) zaf))
 (zac (zep (pe_fn G_law_frame (hr.mono (by decide)) rfl passE (pa_cons (pv 2) (pa_cons (zbh (zaT (K:=K) rfl) (pv 3) zcr (zbv (pv 4))) pa_nil))) (zaR (K:=K) (n:=2) rfl rfl (zas (pg_name (i:=5) zaH.nd rfl (Or.inl rfl) (Or.inl rfl)) (zas (pg_name (i:=6) zaH.nd rfl (Or.inl rfl) (Or.inl rfl)) zbe))))
 (zac (zak (i:=7) zaH.nd rfl (Or.inl rfl) (pe_fn G_law_bottoms (hr.mono (by decide)) rfl passE (pa_cons (pv 2) (pa_cons (pe_fn G_law_raw (hr.mono (by decide)) rfl passE (pa_cons (pv 0) (pa_cons zaf pa_nil))) (pa_cons zaf pa_nil)))))
 (zac (zep (pe_fn G_law_stirred (hr.mono (by decide)) rfl passE (pa_cons (pv 5) (pa_cons (pv 7) (pa_cons (zam zbO (zam zaS (pv 1) zaf) zaf) (pa_cons (zbh (zaT (K:=K) rfl) (pv 3) (zbv (pv 4)) zcr) pa_nil))))) (zaR (K:=K) (n:=2) rfl rfl (zas (pg_name (i:=8) zaH.nd rfl (Or.inl rfl) (Or.inl rfl)) (zas (pg_name (i:=9) zaH.nd rfl (Or.inl rfl) (Or.inl rfl)) zbe))))
 (zac (zak (i:=10) zaH.nd rfl (Or.inr rfl) (zam zbO (zam zaS (pv 1) zaf) (zam zbt (pe_callB (call_len_K (K:=K) rfl) rfl T.len PySem.boot_len (pa_cons (pv 8) pa_nil)) zaf)))
 (zac (zak (i:=8) zaH.nd rfl (Or.inl rfl) (zam zb4 (zbh (zaT (K:=K) rfl) (pv 8) (zbv (pv 10)) zcr) (zbh (zaT (K:=K) rfl) (pv 8) zcr (zbv (pv 10)))))
 (zac (zdX (i:=9) rfl zaH.nd rfl rfl (.of (osc:=(defScope zca)) (N:=["_law_script","_law_cell_here","_law_wide","_law_cells","_law_half","_law_rows","_law_duals","_law_bottoms_here","_law_swaps","_law_trips","_law_turn"]) (own:=["_law_trip"]) (fvn:=["_law_turn"]) (fv:=[10]) rfl rfl (by decide +kernel)) (pi_list_K (K:=K) rfl (pv 9)) (λ_ _ _ _ _=>⟨(pg_name (i:=0) (show (["_law_trip","_law_turn"]:List Str).Nodup by decide +kernel) rfl (Or.inl rfl) (Or.inr rfl)),pts_nil,(zam zb4 (zbh (zaT (K:=K) rfl) (pv 0) (zbv (pv 1)) zcr) (zbh (zaT (K:=K) rfl) (pv 0) zcr (zbv (pv 1))))⟩))
 (zac (zav (zfj (pa_cons (pv 5) (pa_cons (pv 6) (pa_cons (pv 7) (pa_cons (pv 8) (pa_cons (pv 9) pa_nil)))))))
 zae)))))))))))),.inl ?_⟩
 show L2.Run _ ([.va false (dQ K (List.map dI P0)),.no,.no,.no,.no,.no,.no,.no,.no,.no,.no]:L2.Ctx) _ ((λ(r:(T5 (List (List Int)) (List (List Int)) (List Int) (List (List Int)) (List (List Int))))=>Oc.rt true (dT [dL (List.map lI r.a),dL (List.map lI r.b),dL (List.map dI r.c),dL (List.map lI r.d),dL (List.map lI r.e)])) (m_law_made P0))
 unfold m_law_made
 exact (zaj (m:=true) (x:=(m_law_cell P0 (0:Int))) dI (λ(r:(T5 (List (List Int)) (List (List Int)) (List Int) (List (List Int)) (List (List Int))))=>Oc.rt true (dT [dL (List.map lI r.a),dL (List.map lI r.b),dL (List.map dI r.c),dL (List.map lI r.d),dL (List.map lI r.e)])) (Ev.any (m:=true) (zah (x:=(P0,(0:Int))) (zab (zaa (i:=0) rfl) (zab zaw zad)) rfl (by show zco P0 (0:Int);unfold zco;decide) rfl)) (λv213 hv213 =>
 (zaj (m:=true) (x:=((1:Int)+(v213%(4:Int)))) dI (λ(r:(T5 (List (List Int)) (List (List Int)) (List Int) (List (List Int)) (List (List Int))))=>Oc.rt true (dT [dL (List.map lI r.a),dL (List.map lI r.b),dL (List.map dI r.c),dL (List.map lI r.d),dL (List.map lI r.e)])) (zaD (x:=(1:Int)) (y:=(v213%(4:Int))) zaw (zau (x:=v213) (y:=(4:Int)) (Ev.any (m:=true) (zaa (i:=1) rfl)) zaw (by decide))) (λv214 hv214 =>
 have hW0:=hv214;(zcD (b:=(decide (((v213/(4:Int))%(16:Int))=(7:Int)))) (λbb=>([.va false (dQ K (List.map dI P0)),.va true (dI v213),.va true (dI (bif bb then ((5:Int)+((v213/(64:Int))%(4:Int))) else v214)),.no,.no,.no,.no,.no,.no,.no,.no]:L2.Ctx)) (zao (zds (x:=((v213/(4:Int))%(16:Int))) (y:=(7:Int)) (zau (x:=(v213/(4:Int))) (y:=(16:Int)) (zau (x:=v213) (y:=(4:Int)) (Ev.any (m:=true) (zaa (i:=1) rfl)) zaw (by exact ⟨by decide,by decide⟩)) zaw (by decide)) zaw)) (λh215=>(zbd (m:=true) (zaD (x:=(5:Int)) (y:=((v213/(64:Int))%(4:Int))) zaw (zau (x:=(v213/(64:Int))) (y:=(4:Int)) (zau (x:=v213) (y:=(64:Int)) (Ev.any (m:=true) (zaa (i:=1) rfl)) zaw (by exact ⟨by decide,by decide⟩)) zaw (by decide)))
 (zar (.eq (.eq (.eq (.eq (.eq (.eq (.eq (.eq (.eq (.eq (.eq .nil)))))))))))))) (λh215=>(zar (.eq (.eq (.eq (.eq (.eq (.eq (.eq (.eq (.eq (.eq (.eq .nil)))))))))))))
 (zce (x:=(bif (decide (((v213/(4:Int))%(16:Int))=(7:Int))) then ((5:Int)+((v213/(64:Int))%(4:Int))) else v214)) (λv216=>([.va false (dQ K (List.map dI P0)),.va true (dI v213),.va true (dI v216),.no,.no,.no,.no,.no,.no,.no,.no]:L2.Ctx)) (λ(r:(T5 (List (List Int)) (List (List Int)) (List Int) (List (List Int)) (List (List Int))))=>Oc.rt true (dT [dL (List.map lI r.a),dL (List.map lI r.b),dL (List.map dI r.c),dL (List.map lI r.d),dL (List.map lI r.e)])) (λv216 hv216 =>
 have hW:=zpj hW0 hv216;(zaj (m:=true) (x:=(cutD P0 (some (2:Int)) (some (62:Int)))) lI (λ(r:(T5 (List (List Int)) (List (List Int)) (List Int) (List (List Int)) (List (List Int))))=>Oc.rt true (dT [dL (List.map lI r.a),dL (List.map lI r.b),dL (List.map dI r.c),dL (List.map lI r.d),dL (List.map lI r.e)])) (EvO.ev (EvO.anyI (m:=false) (zbT (f:=dI) (xs:=P0) (zaa (i:=0) rfl) (zaX zaw) (zaX zaw)))) (λv217 hv217 =>
 have hC:=zf5 hp hv217;(zaj (m:=true) (x:=(((v217.length:Nat):Int)/(2:Int))) dI (λ(r:(T5 (List (List Int)) (List (List Int)) (List Int) (List (List Int)) (List (List Int))))=>Oc.rt true (dT [dL (List.map lI r.a),dL (List.map lI r.b),dL (List.map dI r.c),dL (List.map lI r.d),dL (List.map lI r.e)])) (zau (x:=((v217.length:Nat):Int)) (y:=(2:Int)) (zaG (f:=dI) (xs:=v217) (Ev.old (Ev.weak (K:=K) (zaa (i:=3) rfl)))) zaw (by exact ⟨by decide,by decide⟩)) (λhv218 hhalf218 =>
 have hH:=zgW hhalf218 hC;(zdT (m:=true) (x:=(m_law_frame v216 (cutD v217 none (some hv218)))) (λ(p219:((List (List Int))×(List (List Int))))=>dL (List.map lI p219.1)) (λ(p219:((List (List Int))×(List (List Int))))=>dL (List.map lI p219.2)) (λ(r:(T5 (List (List Int)) (List (List Int)) (List Int) (List (List Int)) (List (List Int))))=>Oc.rt true (dT [dL (List.map lI r.a),dL (List.map lI r.b),dL (List.map dI r.c),dL (List.map lI r.d),dL (List.map lI r.e)])) (zah (x:=(v216,(cutD v217 none (some hv218)))) (zab (Ev.any (m:=true) (zaa (i:=2) rfl)) (zab (Ev.weak (K:=K) (EvO.ev (EvO.anyI (m:=true) (zbT (f:=dI) (xs:=v217) (Ev.weak (K:=K) (zaa (i:=3) rfl)) zbF (zaX (Ev.any (m:=true) (zaa (i:=4) rfl))))))) zad)) rfl (by show zcA v216 (cutD v217 none (some hv218));exact hW) rfl) (λp219 hp219 =>
 have hF:=hp219;(zaj (m:=true) (x:=(m_law_bottoms v216 (m_law_raw P0 (1:Int)) (7:Int))) lI (λ(r:(T5 (List (List Int)) (List (List Int)) (List Int) (List (List Int)) (List (List Int))))=>Oc.rt true (dT [dL (List.map lI r.a),dL (List.map lI r.b),dL (List.map dI r.c),dL (List.map lI r.d),dL (List.map lI r.e)])) (EvO.ev (EvO.anyI (m:=true) (zbg (x:=(v216,(m_law_raw P0 (1:Int)),(7:Int))) (zab (Ev.any (m:=true) (zaa (i:=2) rfl)) (zab (Ev.any (m:=true) (zah (x:=(P0,(1:Int))) (zab (zaa (i:=0) rfl) (zab zaw zad)) rfl (by show zcT P0 (1:Int);unfold zcT;decide) rfl)) (zab zaw zad))) rfl (by show zbV v216 (m_law_raw P0 (1:Int)) (7:Int);exact ⟨by omega,by omega,by decide,by decide⟩) rfl))) (λv220 hv220 =>
 have hB:=hv220;(zdT (m:=true) (x:=(m_law_stirred p219.1 v220 ((v213/(64:Int))%(4:Int)) (cutD v217 (some hv218) none))) (λ(p221:((List (List Int))×(List (List Int))))=>dL (List.map lI p221.1)) (λ(p221:((List (List Int))×(List (List Int))))=>dL (List.map lI p221.2)) (λ(r:(T5 (List (List Int)) (List (List Int)) (List Int) (List (List Int)) (List (List Int))))=>Oc.rt true (dT [dL (List.map lI r.a),dL (List.map lI r.b),dL (List.map dI r.c),dL (List.map lI r.d),dL (List.map lI r.e)])) (zah (x:=(p219.1,v220,((v213/(64:Int))%(4:Int)),(cutD v217 (some hv218) none))) (zab (Ev.old (Ev.weak (K:=K) (zaa (i:=5) rfl))) (zab (Ev.old (Ev.weak (K:=K) (zaa (i:=7) rfl))) (zab (zau (x:=(v213/(64:Int))) (y:=(4:Int)) (zau (x:=v213) (y:=(64:Int)) (Ev.any (m:=true) (zaa (i:=1) rfl)) zaw (by exact ⟨by decide,by decide⟩)) zaw (by decide)) (zab (Ev.weak (K:=K) (EvO.ev (EvO.anyI (m:=true) (zbT (f:=dI) (xs:=v217) (Ev.weak (K:=K) (zaa (i:=3) rfl)) (zaX (Ev.any (m:=true) (zaa (i:=4) rfl))) zbF)))) zad)))) rfl (by show zbY p219.1 v220 ((v213/(64:Int))%(4:Int)) (cutD v217 (some hv218) none);exact md_stp hW hF hB) rfl) (λp221 hp221 =>
 have hQ:=zpf hW hF hB hH.1 hH.2 hp221;have h3:=zml hp221;(zaj (m:=true) (x:=((v213/(256:Int))%(((p221.1.length:Nat):Int)+(1:Int)))) dI (λ(r:(T5 (List (List Int)) (List (List Int)) (List Int) (List (List Int)) (List (List Int))))=>Oc.rt true (dT [dL (List.map lI r.a),dL (List.map lI r.b),dL (List.map dI r.c),dL (List.map lI r.d),dL (List.map lI r.e)])) (zau (x:=(v213/(256:Int))) (y:=(((p221.1.length:Nat):Int)+(1:Int))) (zau (x:=v213) (y:=(256:Int)) (Ev.any (m:=true) (zaa (i:=1) rfl)) zaw (by exact ⟨by decide,by decide⟩)) (zaD (x:=((p221.1.length:Nat):Int)) (y:=(1:Int)) (zaG (f:=lI) (xs:=p221.1) (Ev.old (Ev.weak (K:=K) (zaa (i:=8) rfl)))) zaw) (by show (0:Int)<_;omega)) (λv222 hv222 =>
 (zaj (m:=true) (x:=((cutD p221.1 (some v222) none)++(cutD p221.1 none (some v222)))) (λ(xs:(List (List Int)))=>dL (List.map lI xs)) (λ(r:(T5 (List (List Int)) (List (List Int)) (List Int) (List (List Int)) (List (List Int))))=>Oc.rt true (dT [dL (List.map lI r.a),dL (List.map lI r.b),dL (List.map dI r.c),dL (List.map lI r.d),dL (List.map lI r.e)])) (EvO.ev (zbc (f:=lI) (xs:=(cutD p221.1 (some v222) none)) (ys:=(cutD p221.1 none (some v222))) (EvO.ev (zbT (f:=lI) (xs:=p221.1) (Ev.weak (K:=K) (zaa (i:=8) rfl)) (zaX (Ev.any (m:=true) (zaa (i:=10) rfl))) zbF)) (EvO.ev (zbT (f:=lI) (xs:=p221.1) (Ev.weak (K:=K) (zaa (i:=8) rfl)) zbF (zaX (Ev.any (m:=true) (zaa (i:=10) rfl))))) (by exact zo1 hQ))) (λv223 hv223 =>
 (zaj (m:=true) (x:=(List.map (λ(x224:(List Int))=>((cutD x224 (some v222) none)++(cutD x224 none (some v222)))) p221.2)) (λ(xs:(List (List Int)))=>dL (List.map lI xs)) (λ(r:(T5 (List (List Int)) (List (List Int)) (List Int) (List (List Int)) (List (List Int))))=>Oc.rt true (dT [dL (List.map lI r.a),dL (List.map lI r.b),dL (List.map dI r.c),dL (List.map lI r.d),dL (List.map lI r.e)])) (EvO.ev (EvO.conv (zbN (g:=(λ(x224:(List Int))=>dL (List.map dI ((cutD x224 (some v222) none)++(cutD x224 none (some v222)))))) (zbX (m:=true) lI (xs:=p221.2) (Ev.weak (K:=K) (zaa (i:=9) rfl))) (by exact zpG (by rw [h3];omega)) ⟨by decide,by decide⟩ (λi225 x224 hx226=>have v226:=List.mem_of_getElem? hx226;(EvO.ev (zbc (f:=dI) (xs:=(cutD x224 (some v222) none)) (ys:=(cutD x224 none (some v222))) (EvO.ev (EvO.anyI (m:=true) (zbT (f:=dI) (xs:=x224) (Ev.weak (K:=K) (zaa (i:=0) rfl)) (zaX (Ev.any (m:=true) (zaa (i:=1) rfl))) zbF))) (EvO.ev (EvO.anyI (m:=true) (zbT (f:=dI) (xs:=x224) (Ev.weak (K:=K) (zaa (i:=0) rfl)) zbF (zaX (Ev.any (m:=true) (zaa (i:=1) rfl)))))) (by exact zp0 hQ (by assumption)))))) (by first | (rw [List.map_map];rfl) | (simp only [cond_true,cond_false];rw [List.map_map];rfl)))) (λv227 hv227 =>
 (zag (zap (zfk (zab (zaa (i:=5) rfl) (zab (zaa (i:=6) rfl) (zab (zaa (i:=7) rfl) (zab (zaa (i:=8) rfl) (zab (zaa (i:=9) rfl) zad))))) (by show 5≤sizeLine;decide)))))))))))))))))))))))))))
def zhB (y:T5 (List (List Int)) (List (List Int)) (List Int) (List (List Int)) (List (List Int))):Prop:=∃ n k:Nat,y.a.length=n∧1≤n∧n≤8∧k≤11∧y.d.length=k∧Lat.RB n 160 y.d∧y.e.length≤3∧(∀ t∈y.e,t.length=k∧Lat.Bit 66 t)∧zpS n y.d y.e
theorem zju {xs:List Int} (hx:xs.length≤63):zhB (m_law_made xs):=by
 unfold m_law_made Let
 dsimp only
 have hW:=zpj (b:=decide ((m_law_cell xs (0:Int)/(4:Int))%(16:Int)=(7:Int))) (c:=m_law_cell xs (0:Int)) rfl rfl
 generalize hw:(bif _ then _ else (1:Int)+m_law_cell xs (0:Int)%(4:Int))=w at *
 have hc:=zf5 hx rfl
 generalize cutD xs (some (2:Int)) (some (62:Int))=cs at *
 have hh:=zgW (h:=((cs.length:Nat):Int)/(2:Int)) rfl hc
 have hM:=zpf (c:=m_law_cell xs (0:Int)) (x:=m_law_raw xs (1:Int)) (k:=(7:Int)) hW (rfl:m_law_frame w (cutD cs none (some (((cs.length:Nat):Int)/(2:Int))))=_) rfl hh.1 hh.2 rfl
 have h3:=zml (c:=m_law_cell xs (0:Int)) (rows:=(m_law_frame w (cutD cs none (some (((cs.length:Nat):Int)/(2:Int))))).1) (bs:=m_law_bottoms w (m_law_raw xs (1:Int)) (7:Int)) (cs:=cutD cs (some (((cs.length:Nat):Int)/(2:Int))) none) rfl
 obtain ⟨W,hWW⟩:∃ W:Nat,w=(W:Int):=⟨w.toNat,by omega⟩
 have hF:=zd2 (cs:=cutD cs none (some (((cs.length:Nat):Int)/(2:Int)))) hWW hW.1
 generalize m_law_frame w (cutD cs none (some (((cs.length:Nat):Int)/(2:Int))))=p at *
 generalize m_law_stirred p.1 _ _ _=q at *
 obtain ⟨k,hk,h1,h2,h4⟩:=hM
 have ht:0≤(m_law_cell xs (0:Int)/(256:Int))%(((q.1.length:Nat):Int)+(1:Int)):=Int.emod_nonneg _ (by omega)
 generalize (m_law_cell xs (0:Int)/(256:Int))%(((q.1.length:Nat):Int)+(1:Int))=t at *
 have hn:w.toNat=W:=by omega
 rw [hn] at h1 h4
 refine ⟨W,k,hF.1.1,by omega,by omega,hk,?_,λr hr=>?_,?_,λr hr=>?_,λr hr j hj=>?_⟩
 ·show (cutD q.1 (some t) none++cutD q.1 none (some t)).length=k
  rw [zfd ht,List.length_append,List.length_drop,List.length_take]
  have:=h1.1
  omega
 ·have hr:r∈cutD q.1 (some t) none++cutD q.1 none (some t):=hr
  rw [zfd ht] at hr
  rcases List.mem_append.mp hr with hr | hr
  ·exact h1.2 r (List.mem_of_mem_drop hr)
  ·exact h1.2 r (List.mem_of_mem_take hr)
 ·show (List.map _ q.2).length≤3
  rw [List.length_map,h3]
  omega
 ·have hr:r∈List.map (λ(x:List Int)=>cutD x (some t) none++cutD x none (some t)) q.2:=hr
  obtain ⟨x,hx',rfl⟩:=List.mem_map.mp hr
  have hx2:=h2 x hx'
  rw [zfd ht]
  refine ⟨by rw [List.length_append,List.length_drop,List.length_take];omega,λy hy=>?_⟩
  rcases List.mem_append.mp hy with hy | hy
  ·exact hx2.2 y (List.mem_of_mem_drop hy)
  ·exact hx2.2 y (List.mem_of_mem_take hy)
 ·have hr:r∈List.map (λ(x:List Int)=>cutD x (some t) none++cutD x none (some t)) q.2:=hr
  obtain ⟨x,hx',rfl⟩:=List.mem_map.mp hr
  show Lat.comb (cutD x (some t) none++cutD x none (some t)) ((cutD q.1 (some t) none++cutD q.1 none (some t)).map Lat.vec) j=0
  rw [zfd ht,zfd ht,List.map_append,List.map_drop,List.map_take,Lat.zjK (by rw [List.length_map,(h2 x hx').1,h1.1])]
  exact h4 x hx' j hj
theorem zoY {sw:List (List Int)} {way l:List Int} {i j:Nat} {p:List Int×Int} {q:Int×Int} (h:∀ p∈List.zip sw way,∀ x∈p.1,zdH p.2 x) (hx:(List.zip sw way)[i]?=some p) (hz:(List.zip l p.1)[j]?=some q):zdH p.2 q.2 :=
 h p (List.mem_of_getElem? hx) _ (List.of_mem_zip (a:=q.1) (b:=q.2) (List.mem_of_getElem? hz)).2
theorem zo5 {l b t:List Int} (hb:b.length≤1000) (hs:l.length=b.length):(List.zip l t).length≤PySem.sizeLine:=zai (by rw [List.length_zip];omega)
theorem zoh {sw:List (List Int)} {way l b:List Int} {i:Nat} {p:List Int×Int} {f:Int×Int->Int} (h:∀ s∈sw,s.length=b.length) (hx:(List.zip sw way)[i]?=some p) (hs:l.length=b.length):(Let (List.map f (List.zip l p.1)) (λ(y:List Int)=>y)).length=b.length:=by
 have:=h p.1 (List.mem_of_getElem? (zcv hx).1)
 show (List.map f (List.zip l p.1)).length=_
 rw [List.length_map,List.length_zip]
 omega
def m_law_led (P0:(List Int)) (P1:(List (List Int))) (P2:(List Int)):(List Int) :=
 (Let (List.foldl (λ(s228:(List Int)) (x229:((List Int)×Int))=>(Let (List.map (λ(x233:(Int×Int))=>(x233.1+(x229.2*x233.2))) (List.zip s228 x229.1)) (λ(v236:(List Int)) =>
 v236))) P0 (List.zip P1 P2)) (λ(r237:(List Int)) =>
 r237))
def zbH (P0:(List Int)) (P1:(List (List Int))) (P2:(List Int)):Prop:=(∀ s∈P1,s.length=P0.length)∧P0.length≤1000∧∀ p∈List.zip P1 P2,∀ x∈p.1,zdH p.2 x
def zee (K:W.Frag) (A:Adr):Sp:=Spv (ι:=(List Int)×(List (List Int))×(List Int)) (λx=>[dQ K (List.map dI x.1),dQ K (List.map lI x.2.1),dQ K (List.map dI x.2.2)]) (λx=>zbH x.1 x.2.1 x.2.2) (λx=>.va true (dL (List.map dI (m_law_led x.1 x.2.1 x.2.2))))
theorem zdf:FnScope ["_law_basket","_law_swaps","_law_way","_law_found","_law_swap","_law_many"] ["_law_basket","_law_swaps","_law_way"] (defScope zcS):=⟨rfl,rfl,rfl,by decide +kernel,rfl,by decide +kernel,by decide +kernel⟩
theorem zi2 (F:Fun K "_law_led" "_law_led" zcS f fd) (T:Txt K mg A) :FnOk P w K mg base (CXE P w) 1 f fd ["_law_basket","_law_swaps","_law_way"] (zee K A):=by
 refine F.okV zdf (λ_=>rfl) (λcdv Ar outer s H E x hr hp=>?_)
 obtain ⟨P0,P1,P2⟩:=x
 have hu:=hr.units
 replace hp:zbH P0 P1 P2:=hp
 unfold zbH at hp
 refine ⟨_,(zac (zak (i:=3) zdf.nd rfl (Or.inl rfl) (zbA (zbj (K:=K) rfl) rfl T.list PyProof.Rows.boot_list (pa_cons (pv 0) pa_nil)))
 (zac (zcx PassesOwn.never rfl (zcE (K:=K) rfl rfl T.zip (pa_cons (pv 1) (pa_cons (pv 2) pa_nil))) (zaR (K:=K) (n:=2) rfl rfl (zas (pg_name (i:=4) zdf.nd rfl (Or.inl rfl) (Or.inl rfl)) (zas (pg_name (i:=5) zdf.nd rfl (Or.inr rfl) (Or.inl rfl)) zbe)))
 (zac (zdX (i:=3) rfl zdf.nd rfl rfl (.of (osc:=(defScope zcS)) (N:=["_law_basket","_law_swaps","_law_way","_law_found","_law_swap","_law_many"]) (own:=["_law_a","_law_b"]) (fvn:=["_law_many"]) (fv:=[5]) rfl rfl (by decide +kernel)) (zcE (K:=K) rfl rfl T.zip (pa_cons (pv 3) (pa_cons (pv 4) pa_nil))) (λ_ _ _ _ _=>⟨(zaR (K:=K) (n:=2) rfl rfl (zas (pg_name (i:=0) (show (["_law_a","_law_b","_law_many"]:List Str).Nodup by decide +kernel) rfl (Or.inl rfl) (Or.inr rfl)) (zas (pg_name (i:=1) (show (["_law_a","_law_b","_law_many"]:List Str).Nodup by decide +kernel) rfl (Or.inl rfl) (Or.inr rfl)) zbe))),pts_nil,(zam zbt (pv 0) (zam zbb (pv 2) (pv 1)))⟩))
 zae))
 (zac (zav (pv 3))
 zae))),.inl ?_⟩
 show L2.Run _ ([.va false (dQ K (List.map dI P0)),.va false (dQ K (List.map lI P1)),.va false (dQ K (List.map dI P2)),.no,.no,.no]:L2.Ctx) _ ((λ(r:(List Int))=>Oc.rt true (dL (List.map dI r))) (m_law_led P0 P1 P2))
 unfold m_law_led
 exact (zbd (m:=true) (EvO.ev (EvO.anyI (m:=false) (zdP (zaa (i:=0) rfl))))
 (zbS (s0:=P0) (λ(s228:(List Int))=>([.va false (dQ K (List.map dI P0)),.va false (dQ K (List.map lI P1)),.va false (dQ K (List.map dI P2)),.va true (dL (List.map dI s228)),.no,.no]:L2.Ctx)) (λ(r:(List Int))=>Oc.rt true (dL (List.map dI r))) (λ(s228:(List Int)) (x229:((List Int)×Int))=>(Let (List.map (λ(x233:(Int×Int))=>(x233.1+(x229.2*x233.2))) (List.zip s228 x229.1)) (λ(v236:(List Int)) =>
 v236))) (λ(i:Nat) (s228:(List Int))=>s228.length=P0.length) (zeM (m:=false) lI dI (xs:=P1) (ys:=P2) (zaa (i:=1) rfl) (zaa (i:=2) rfl)) (.eq (.eq (.eq (.eq (.eq (.eq .nil)))))) (by rfl) (λi230 x229 s228 hx231 hI232=>have v231:=zcv hx231;⟨(by exact zoh hp.1 (by assumption) (by assumption)),
 (zaj (m:=true) (x:=(List.map (λ(x233:(Int×Int))=>(x233.1+(x229.2*x233.2))) (List.zip s228 x229.1))) lI (λz=>Oc.nx ((λ(s228:(List Int))=>([.va false (dQ K (List.map dI P0)),.va false (dQ K (List.map lI P1)),.va false (dQ K (List.map dI P2)),.va true (dL (List.map dI s228)),.no,.no]:L2.Ctx)) z)) (EvO.ev (EvO.conv (zbN (g:=(λ(x233:(Int×Int))=>dI (x233.1+(x229.2*x233.2)))) (zeM (m:=false) dI dI (xs:=s228) (ys:=x229.1) (Ev.old (Ev.weak (K:=K) (zaa (i:=3) rfl))) (Ev.weak (K:=K) (zaa (i:=4) rfl))) (by exact zo5 hp.2.1 (by assumption)) ⟨by decide,by decide⟩ (λi234 x233 hx235=>have v235:=zcv hx235;(zaD (x:=x233.1) (y:=(x229.2*x233.2)) (Ev.any (m:=false) (zaa (i:=0) rfl)) (zau (x:=x229.2) (y:=x233.2) (Ev.any (m:=false) (zaa (i:=2) rfl)) (Ev.any (m:=false) (zaa (i:=1) rfl)) (by exact zoY hp.2.2 (by assumption) (by assumption)))))) (by first | (rw [List.map_map];rfl) | (simp only [cond_true,cond_false];rw [List.map_map];rfl)))) (λv236 hv236 =>
 (zar (.eq (.eq (.eq (.eq (.no (.no .nil)))))))))⟩) (λr237 hr237 hI =>
 (zag (zap (zaa (i:=3) rfl))))))
theorem zeY:∀ {sw:List (List Int)} {way l:List Int} {j:Nat},(∀ s∈sw,s.length=l.length)->(m_law_led l sw way).length=l.length∧Lat.vec (m_law_led l sw way) j=Lat.vec l j+Lat.comb way (sw.map Lat.vec) j
 | [],way,l,j,_=>by
  refine ⟨rfl,?_⟩
  show Lat.vec l j=Lat.vec l j+Lat.comb way [] j
  cases way<;>simp [Lat.comb]
 | s :: sw,[],l,j,_=>by
  refine ⟨rfl,?_⟩
  show Lat.vec l j=Lat.vec l j+Lat.comb [] _ j
  simp [Lat.comb]
 | s :: sw,w :: way,l,j,h=>by
  have hs:=h s List.mem_cons_self
  have e1:(List.map (λ(x:(Int×Int))=>(x.1+(w*x.2))) (List.zip l s)).length=l.length:=by rw [List.length_map,List.length_zip,hs];omega
  have e2:Lat.vec (List.map (λ(x:(Int×Int))=>(x.1+(w*x.2))) (List.zip l s)) j=Lat.vec l j+w*Lat.vec s j:=Lat.zfB hs.symm
  obtain ⟨k1,k2⟩:=zeY (sw:=sw) (way:=way) (l:=List.map (λ(x:(Int×Int))=>(x.1+(w*x.2))) (List.zip l s)) (j:=j) λt ht=>by rw [e1,h t (List.mem_cons_of_mem _ ht)]
  refine ⟨k1.trans e1,?_⟩
  show Lat.vec (m_law_led (List.map (λ(x:(Int×Int))=>(x.1+(w*x.2))) (List.zip l s)) sw way) j=_
  rw [k2,e2]
  simp only [List.map_cons,Lat.comb]
  omega
theorem zis (sw:List (List Int)):List.map (λ(x:List Int)=>x) sw=sw:=by simp
def m_law_wholes (P0:(List Int)) (P1:Int):Bool :=
 (bif ((!true)||(!decide (((P0.length:Nat):Int)=P1))) then false
 else (zil (zbi (λ(s239:Unit) (x240:Int)=>(((bif ((!true)||false) then (Sum.inr false)
 else (Sum.inl ()))):(Unit) ⊕ Bool)) () P0) (λ(r245:Unit) =>
 true) (λb=>b)))
def zcf (P0:(List Int)) (P1:Int):Prop:=True
def zdB (K:W.Frag) (A:Adr):Sp:=Spv (ι:=(List Int)×Int) (λx=>[dL (List.map dI x.1),dI x.2]) (λx=>zcf x.1 x.2) (λx=>.va true (dB (m_law_wholes x.1 x.2)))
theorem zeP:FnScope ["_law_found","_law_many","_law_number"] ["_law_found","_law_many"] (defScope zbP):=⟨rfl,rfl,rfl,by decide +kernel,rfl,by decide +kernel,by decide +kernel⟩
theorem zgS (F:Fun K "_law_wholes" "_law_wholes" zbP f fd) (T:Txt K mg A) :FnOk P w K mg base (CXE P w) 1 f fd ["_law_found","_law_many"] (zdB K A):=by
 refine F.okV zeP (λ_=>rfl) (λcdv Ar outer s H E x hr hp=>?_)
 obtain ⟨P0,P1⟩:=x
 have hu:=hr.units
 replace hp:zcf P0 P1:=hp
 unfold zcf at hp
 refine ⟨_,(zac (zbw (PW.pt (zh3 (zio (pt_val (pe_callB (call_isiB (K:=K) rfl) rfl T.isinstance PyProof.Rows.boot_isinstance (pa_cons (pv 0) (pa_cons (pe_bltn rfl T.list (v:=.ty "list") (u:=.type "list") (by decide +kernel) rfl) pa_nil))))) (pw_or1 (pt_cmpR op_ne (pe_callB (call_len_K (K:=K) rfl) rfl T.len PySem.boot_len (pa_cons (pv 0) pa_nil)) (pv 1) (nomark _)))))
 (zac (zav zgY)
 zae)
 zae)
 (zac (zcx PassesOwn.never rfl (pi_list_K (K:=K) rfl (pv 0)) (pg_name (i:=2) zeP.nd rfl (Or.inl rfl) (Or.inl rfl))
 (zac (zbw (PW.pt (zh3 (zio (pt_val (pe_callB (call_isiB (K:=K) rfl) rfl T.isinstance PyProof.Rows.boot_isinstance (pa_cons (pv 2) (pa_cons (pe_bltn rfl T.int (v:=.ty "int") (u:=.type "int") (by decide +kernel) rfl) pa_nil))))) (pw_or1 (pt_val (pe_callB (call_isiB (K:=K) rfl) rfl T.isinstance PyProof.Rows.boot_isinstance (pa_cons (pv 2) (pa_cons (pe_bltn rfl T.bool (v:=.ty "bool") (u:=.type "bool") (by decide +kernel) rfl) pa_nil)))))))
 (zac (zav zgY)
 zae)
 zae)
 zae))
 (zac (zav zgY)
 zae))),.inl ?_⟩
 show L2.Run _ ([.va false (dL (List.map dI P0)),.va false (dI P1),.no]:L2.Ctx) _ ((λ(r:Bool)=>Oc.rt true (dB r)) (m_law_wholes P0 P1))
 unfold m_law_wholes
 exact (zaB (b:=((!true)||(!decide (((P0.length:Nat):Int)=P1)))) (λ(r:Bool)=>Oc.rt true (dB r)) (zf4 (b:=(!true)) (zg3 (zeu (znc (zaa (i:=0) rfl) T.kit_list_list))) (λhb=>(zao (zc0 (x:=((P0.length:Nat):Int)) (y:=P1) (zaG (f:=dI) (xs:=P0) (Ev.weak (K:=K) (zaa (i:=0) rfl))) (Ev.any (m:=false) (zaa (i:=1) rfl)))))) (λh238=>(zan (zag (zap zaw)))) (λh238 =>
 (zal (zft (s0:=()) (λ(s239:Unit)=>([.va false (dL (List.map dI P0)),.va false (dI P1),.no]:L2.Ctx)) (λ(r:Bool)=>Oc.rt true (dB r)) (λb=>b) (λ(s239:Unit) (x240:Int)=>(((bif ((!true)||false) then (Sum.inr false)
 else (Sum.inl ()))):(Unit) ⊕ Bool)) (λ_ _=>True) (λb=>.inl ⟨_,_,rfl⟩) (zbX (m:=false) dI (xs:=P0) (Ev.weak (K:=K) (zaa (i:=0) rfl))) (.eq (.eq (.eq .nil))) trivial (λi241 x240 s239 hx242 hI243=>have v242:=List.mem_of_getElem? hx242;⟨(λ_ _=>trivial),
 (zaB (b:=((!true)||false)) (zet (λ(s239:Unit)=>([.va false (dL (List.map dI P0)),.va false (dI P1),.no]:L2.Ctx)) (λ(r:Bool)=>Oc.rt true (dB r))) (zf4 (b:=(!true)) (zg3 (zeu (zk6 (λ_=>TyOf.int _) (Ev.any (m:=false) (zaa (i:=2) rfl)) T.kit_int_int))) (λhb=>(zeu (zk6 (λ_=>TyOf.int _) (Ev.any (m:=false) (zaa (i:=2) rfl)) T.kit_int_bool)))) (λh244=>(zan (zag (zap zaw)))) (λh244 =>
 (zal (zar (.eq (.eq (.no .nil)))))))⟩) (λr245 hr245 hI =>
 (zag (zap zaw)))))))
theorem zkd (l:List Int) (w:Int):m_law_wholes l w=decide ((l.length:Int)=w):=by
 unfold m_law_wholes
 have:∀ l:List Int,zbi (λ(_:Unit) (_:Int)=>(((bif ((!true)||false) then (Sum.inr false) else (Sum.inl ()))):(Unit) ⊕ Bool)) () l=.inl ():=by
  intro l
  induction l with
  | nil=>rfl
  | cons x l ih=>exact ih
 rw [this]
 by_cases q:((l.length:Nat):Int)=w
 ·simp [q,zil]
 ·simp [q,zil]
def m_law_count (P0:Int) (P1:Int) (P2:Int):Int :=
 (bif ((decide ((29:Int)<P2))&&(decide (((P0/(2147483647:Int))%(2:Int))=(1:Int)))) then ((m_law_thing P0 P1 (60:Int))-(30:Int))
 else ((m_law_thing P0 P1 (((2:Int)*P2)+(1:Int)))-P2))
def zbR (P0:Int) (P1:Int) (P2:Int):Prop:=0≤P1∧P1≤1000∧0≤P2∧P2≤10000000
def zdZ (K:W.Frag) (A:Adr):Sp:=Spv (ι:=Int×Int×Int) (λx=>[dI x.1,dI x.2.1,dI x.2.2]) (λx=>zbR x.1 x.2.1 x.2.2) (λx=>.va true (dI (m_law_count x.1 x.2.1 x.2.2)))
theorem zhr:FnScope ["_law_cell_here","_law_k","_law_size"] ["_law_cell_here","_law_k","_law_size"] (defScope zcd):=⟨rfl,rfl,rfl,by decide +kernel,rfl,by decide +kernel,by decide +kernel⟩
theorem zhj (F:Fun K "_law_count" "_law_count" zcd f fd) (T:Txt K mg A) (G_law_thing:Callee P w K mg base (CXE P w) 1 "_law_thing" ["_law_cell_here","_law_k","_law_many"] (zbp K A)):FnOk P w K mg base (CXE P w) 2 f fd ["_law_cell_here","_law_k","_law_size"] (zdZ K A):=by
 refine F.okV zhr (λ_=>rfl) (λcdv Ar outer s H E x hr hp=>?_)
 obtain ⟨P0,P1,P2⟩:=x
 have hu:=hr.units
 replace hp:zbR P0 P1 P2:=hp
 unfold zbR at hp
 refine ⟨_,(zac (zbw (PW.pt (zmt (pt_cmpR zlZ (pv 2) zaf (nomark _)) (zkS (pt_cmpR op_eq (zam zbO (zam zaS (pv 0) zaf) zaf) zaf (nomark _)))))
 (zac (zav (zam zeq (pe_fn G_law_thing (hr.mono (by decide)) rfl passE (pa_cons (pv 0) (pa_cons (pv 1) (pa_cons zaf pa_nil)))) zaf))
 zae)
 zae)
 (zac (zav (zam zeq (pe_fn G_law_thing (hr.mono (by decide)) rfl passE (pa_cons (pv 0) (pa_cons (pv 1) (pa_cons (zam zbt (zam zbb zaf (pv 2)) zaf) pa_nil)))) (pv 2)))
 zae)),.inl ?_⟩
 show L2.Run _ ([.va false (dI P0),.va false (dI P1),.va false (dI P2)]:L2.Ctx) _ ((λ(r:Int)=>Oc.rt true (dI r)) (m_law_count P0 P1 P2))
 unfold m_law_count
 exact (zaB (b:=((decide ((29:Int)<P2))&&(decide (((P0/(2147483647:Int))%(2:Int))=(1:Int))))) (λ(r:Int)=>Oc.rt true (dI r)) (zjZ (b:=(decide ((29:Int)<P2))) (zao (zaD (x:=P2) (y:=(29:Int)) (Ev.any (m:=false) (zaa (i:=2) rfl)) zaw)) (λhb=>(zao (zds (x:=((P0/(2147483647:Int))%(2:Int))) (y:=(1:Int)) (zau (x:=(P0/(2147483647:Int))) (y:=(2:Int)) (zau (x:=P0) (y:=(2147483647:Int)) (Ev.any (m:=false) (zaa (i:=0) rfl)) zaw (by exact ⟨by decide,by decide⟩)) zaw (by decide)) zaw)))) (λh246=>(zan (zag (zap (zaD (x:=(m_law_thing P0 P1 (60:Int))) (y:=(30:Int)) (Ev.any (m:=true) (zah (x:=(P0,P1,(60:Int))) (zab (Ev.any (m:=false) (zaa (i:=0) rfl)) (zab (Ev.any (m:=false) (zaa (i:=1) rfl)) (zab zaw zad))) rfl (by show zay P0 P1 (60:Int);refine ⟨by omega,by omega,by omega⟩) rfl)) zaw))))) (λh246 =>
 (zal (zag (zap (zaD (x:=(m_law_thing P0 P1 (((2:Int)*P2)+(1:Int)))) (y:=P2) (Ev.any (m:=true) (zah (x:=(P0,P1,(((2:Int)*P2)+(1:Int)))) (zab (Ev.any (m:=false) (zaa (i:=0) rfl)) (zab (Ev.any (m:=false) (zaa (i:=1) rfl)) (zab (zaD (x:=((2:Int)*P2)) (y:=(1:Int)) (zau (x:=(2:Int)) (y:=P2) zaw (Ev.any (m:=false) (zaa (i:=2) rfl)) (by exact .inl ⟨by omega,by omega⟩)) zaw) zad))) rfl (by show zay P0 P1 (((2:Int)*P2)+(1:Int));refine ⟨by omega,by omega,by omega⟩) rfl)) (Ev.any (m:=false) (zaa (i:=2) rfl))))))))
theorem zl6 {c k s:Int} (hs:0≤s):(m_law_count c k s).natAbs≤s.natAbs:=by
 unfold m_law_count
 have h1:=zcz (c:=c) (k:=k) (m:=60) (by decide)
 have h2:=zcz (c:=c) (k:=k) (m:=2*s+1) (by omega)
 by_cases e:(29:Int)<s
 ·cases (decide ((29:Int)<s)&&decide ((c/(2147483647:Int))%(2:Int)=(1:Int)))
  ·rw [cond_false];omega
  ·rw [cond_true];omega
 ·rw [decide_eq_false e,Bool.false_and,cond_false];omega
def ByP (rows:List (List Int)) (bs o:List Int):Prop:=∃ n,n≤8∧Sq n n rows∧bs.length=n∧o.length=n
theorem zj0 {rows:List (List Int)} {bs ks:List Int} (e:ks=List.map (λ(x:Int)=>x) (List.filter (λ(x:Int)=>(!decide (ixD bs x=(1:Int)))) (zaW 0 ((rows.length:Nat):Int).toNat))):∀ k∈ks,0≤k∧k<((rows.length:Nat):Int)∧ixD bs k≠1:=λk hk=>by
 rw [List.map_id'] at e
 subst e
 obtain ⟨h1,h2⟩:=List.mem_filter.mp hk
 have:=mem_rngZ.mp h1
 refine ⟨by omega,by omega,by simpa using h2⟩
theorem znT {c k:Int} {ks:List Int} (h:ks.length≠0):InB ks.length (m_law_thing c k ((ks.length:Nat):Int)):=by have:=zcz (c:=c) (k:=k) (m:=((ks.length:Nat):Int)) (by omega);unfold InB;omega
theorem zoW {rows:List (List Int)} {bs ks:List Int} {c k:Int} (h:ks.length≠0) (hk:∀ k∈ks,0≤k∧k<((rows.length:Nat):Int)∧ixD bs k≠1):InB rows.length (ixD ks (m_law_thing c k ((ks.length:Nat):Int))):=by
 have:=hk _ (zdx (znT (c:=c) (k:=k) h))
 unfold InB;omega
theorem zlS {b:Bool} {ks:List Int} (h:(b||decide (((ks.length:Nat):Int)=(0:Int)))=false):ks.length≠0:=by
 simp only [Bool.or_eq_false_iff,decide_eq_false_iff_not] at h;omega
def m_law_asked (P0:BookD) (P1:(List Int)) (P2:(List Int)):((Option (List Int))×(Option Xn)) :=
 (Let () (λ(v247:Unit) =>
 (Let () (λ(v248:Unit) =>
 (Let (znx (x_plain_road P0 P1 P2) (λ(v250:(Option (List Int))) =>
 (Except.ok v250))) (λ(r251:Except Xn (Option (List Int))) =>
 ((okJ r251),(zpz r251))))))))
def zcB (P0:BookD) (P1:(List Int)) (P2:(List Int)):Prop:=PxP P0 P1 P2
def zdW (K:W.Frag) (A:Adr):Sp:=Spv (ι:=BookD×(List Int)×(List Int)) (λx=>[zaU A.Book x.1,dQ K (List.map dI x.2.1),dQ K (List.map dI x.2.2)]) (λx=>zcB x.1 x.2.1 x.2.2) (λx=>.va true (dT [dOpt lI ((m_law_asked x.1 x.2.1 x.2.2).1),dOpt (λe=>dE (A.xc e)) ((m_law_asked x.1 x.2.1 x.2.2).2)]))
theorem zcp:FnScope ["_law_book","_law_one","_law_other","_law_found","_law_caught","e"] ["_law_book","_law_one","_law_other"] (defScope zcc):=⟨rfl,rfl,rfl,by decide +kernel,rfl,by decide +kernel,by decide +kernel⟩
theorem zhs (F:Fun K "_law_asked" "_law_asked" zcc f fd) (T:Txt K mg A)  (GX_plain_road:Callee P w K mg base (CXE P w) 9 "plain_road" ["book","one","other"] (zdc K A)):FnOk P w K mg base (CXE P w) 10 f fd ["_law_book","_law_one","_law_other"] (zdW K A):=by
 refine F.okVX zcp (λ_=>rfl) (λcdv Ar outer s H E x hr hp O=>?_)
 obtain ⟨P0,P1,P2⟩:=x
 have hu:=hr.units
 replace hp:zcB P0 P1 P2:=hp
 unfold zcB at hp
 refine ⟨_,(zcR (zf6 (zak (i:=3) zcp.nd rfl (Or.inl rfl) zer))
 (zcR (zf6 (zak (i:=4) zcp.nd rfl (Or.inl rfl) zer))
 (zcR (zot (K:=K) O rfl zcp.nd (i:=5) (j:=4) rfl rfl rfl (Or.inl rfl) (Or.inr rfl) rfl T.k_SwapError (zcR (zpc (i:=3) zcp.nd rfl (Or.inl rfl) (xe_fn O GX_plain_road (hr.mono (by decide)) rfl (pa_cons (pv 0) (pa_cons (pv 1) (pa_cons (pv 2) pa_nil)))))
 zgn))
 (zcR (zf6 (zav (zfj (pa_cons (pv 3) (pa_cons (pv 4) pa_nil)))))
 zgn)))),.inl ?_⟩
 show L2.Run _ ([.va false (zaU A.Book P0),.va false (dQ K (List.map dI P1)),.va false (dQ K (List.map dI P2)),.no,.no,.no]:L2.Ctx) _ ((λ(r:((Option (List Int))×(Option Xn)))=>Oc.rt true (dT [dOpt lI r.1,dOpt (λe=>dE (A.xc e)) r.2])) (m_law_asked P0 P1 P2))
 unfold m_law_asked
 exact (zaj (m:=true) (x:=()) (λ_=>dN) (λ(r:((Option (List Int))×(Option Xn)))=>Oc.rt true (dT [dOpt lI r.1,dOpt (λe=>dE (A.xc e)) r.2])) zaw (λv247 hv247 =>
 (zaj (m:=true) (x:=()) (λ_=>dN) (λ(r:((Option (List Int))×(Option Xn)))=>Oc.rt true (dT [dOpt lI r.1,dOpt (λe=>dE (A.xc e)) r.2])) zaw (λv248 hv248 =>
 (zma (xc:=A.xc) (λ(z249:(Option (List Int)))=>([.va false (zaU A.Book P0),.va false (dQ K (List.map dI P1)),.va false (dQ K (List.map dI P2)),.va true (dOpt lI z249),.va true (dN),.no]:L2.Ctx)) ([.va false (zaU A.Book P0),.va false (dQ K (List.map dI P1)),.va false (dQ K (List.map dI P2)),.va true (dN),.va true (dN),.no]:L2.Ctx) (λ(r251:Except Xn (Option (List Int)))=>([.va false (zaU A.Book P0),.va false (dQ K (List.map dI P1)),.va false (dQ K (List.map dI P2)),.va true (dOpt lI (okJ r251)),.va true (dOpt (λe=>dE (A.xc e)) (zpz r251)),.no]:L2.Ctx)) (λ(r:((Option (List Int))×(Option Xn)))=>Oc.rt true (dT [dOpt lI r.1,dOpt (λe=>dE (A.xc e)) r.2])) (λE1=>(zlJ (λv=>Oc.nx ((λ(z249:(Option (List Int)))=>([.va false (zaU A.Book P0),.va false (dQ K (List.map dI P1)),.va false (dQ K (List.map dI P2)),.va true (dOpt lI z249),.va true (dN),.no]:L2.Ctx)) v)) (P0,P1,P2) (zab (zaa (i:=0) rfl) (zab (zaa (i:=1) rfl) (zab (zaa (i:=2) rfl) zad))) rfl (by show zb0 P0 P1 P2;exact hp) rfl (.eq (.eq (.eq (.eq (.eq (.eq .nil)))))) (λv250 hv250 =>
 (zar (.eq (.eq (.eq (.eq (.eq (.eq .nil)))))))))) (λz249=>(.eq (.eq (.eq (.eq (.eq (.eq .nil))))))) (λe=>⟨match e with | .BadBasket=>T.exm_BadBasket,(.eq (.eq (.eq (.eq (.eq (.eq .nil))))))⟩) (λr251 hr251 =>
 (zag (zap (zfk (zab (zaa (i:=3) rfl) (zab (zaa (i:=4) rfl) zad)) (by show 2≤sizeLine;decide))))))))))
theorem ziK (b:BookD) (x r:List Int):m_law_asked b x r=(okJ (x_plain_road b x r),zpz (x_plain_road b x r)):=by
 unfold m_law_asked Let znx
 cases x_plain_road b x r<;>rfl
def m_law_beyond (P0:(List (List Int))) (P1:(List Int)) (P2:(List Int)) (P3:Int):((List Int)×Bool) :=
 (Let (List.map (λ(x252:Int)=>x252) (List.filter (λ(x252:Int)=>(!decide ((ixD P1 x252)=(1:Int)))) (zaW 0 ((P0.length:Nat):Int).toNat))) (λ(v255:(List Int)) =>
 (bif ((decide ((P3%(2:Int))=(0:Int)))||(decide (((v255.length:Nat):Int)=(0:Int)))) then (P2,false)
 else (Let (ixD P0 (ixD v255 (m_law_thing P3 (30:Int) ((v255.length:Nat):Int)))) (λ(v257:(List Int)) =>
 ((List.map (λ(x258:(Int×Int))=>(x258.1+x258.2)) (List.zip P2 v257)),true))))))
def zch (P0:(List (List Int))) (P1:(List Int)) (P2:(List Int)) (P3:Int):Prop:=ByP P0 P1 P2
def zdA (K:W.Frag) (A:Adr):Sp:=Spv (ι:=(List (List Int))×(List Int)×(List Int)×Int) (λx=>[dQ K (List.map lI x.1),dQ K (List.map dI x.2.1),dL (List.map dI x.2.2.1),dI x.2.2.2]) (λx=>zch x.1 x.2.1 x.2.2.1 x.2.2.2) (λx=>.va false (dT [dL (List.map dI ((m_law_beyond x.1 x.2.1 x.2.2.1 x.2.2.2).1)),dB ((m_law_beyond x.1 x.2.1 x.2.2.1 x.2.2.2).2)]))
theorem zdC:FnScope ["_law_rows","_law_bottoms_here","_law_other","_law_cell_here","_law_some","_law_row"] ["_law_rows","_law_bottoms_here","_law_other","_law_cell_here"] (defScope za1):=⟨rfl,rfl,rfl,by decide +kernel,rfl,by decide +kernel,by decide +kernel⟩
theorem zgT (F:Fun K "_law_beyond" "_law_beyond" za1 f fd) (T:Txt K mg A) (G_law_thing:Callee P w K mg base (CXE P w) 1 "_law_thing" ["_law_cell_here","_law_k","_law_many"] (zbp K A)):FnOk P w K mg base (CXE P w) 2 f fd ["_law_rows","_law_bottoms_here","_law_other","_law_cell_here"] (zdA K A):=by
 refine F.okV zdC (λ_=>rfl) (λcdv Ar outer s H E x hr hp=>?_)
 obtain ⟨P0,P1,P2,P3⟩:=x
 have hu:=hr.units
 replace hp:zch P0 P1 P2 P3:=hp
 unfold zch at hp
 obtain ⟨n,n8,hq,hb,ho⟩:=hp
 refine ⟨_,(zac (zdX (i:=4) rfl zdC.nd rfl rfl (.of (osc:=(defScope za1)) (N:=["_law_rows","_law_bottoms_here","_law_other","_law_cell_here","_law_some","_law_row"]) (own:=["_law_k"]) (fvn:=["_law_bottoms_here"]) (fv:=[1]) rfl rfl (by decide +kernel)) (zbC rfl T.range (pa_cons (pe_callB (call_len_K (K:=K) rfl) rfl T.len PySem.boot_len (pa_cons (pv 0) pa_nil)) pa_nil)) (λ_ _ _ _ _=>⟨(pg_name (i:=0) (show (["_law_k","_law_bottoms_here"]:List Str).Nodup by decide +kernel) rfl (Or.inl rfl) (Or.inr rfl)),(zjL (pt_cmpR op_ne (zbI (zax (K:=K) rfl) (pv 1) (pv 0) (λ_ _=>rfl)) zaf (nomark _))),(pv 0)⟩))
 (zac (zbw (PW.pt (zh3 (pt_cmpR op_eq (zam zbO (pv 3) zaf) zaf (nomark _)) (pw_or1 (pt_cmpR op_eq (pe_callB (call_len_K (K:=K) rfl) rfl T.len PySem.boot_len (pa_cons (pv 4) pa_nil)) zaf (nomark _)))))
 (zac (zav (zfj (pa_cons (pv 2) (pa_cons zgY pa_nil))))
 zae)
 zae)
 (zac (zak (i:=5) zdC.nd rfl (Or.inl rfl) (zbI (zax (K:=K) rfl) (pv 0) (zbI (zax (K:=K) rfl) (pv 4) (pe_fn G_law_thing (hr.mono (by decide)) rfl passE (pa_cons (pv 3) (pa_cons zaf (pa_cons (pe_callB (call_len_K (K:=K) rfl) rfl T.len PySem.boot_len (pa_cons (pv 4) pa_nil)) pa_nil)))) (λ_ _=>rfl)) (λ_ _=>rfl)))
 (zac (zav (zfj (pa_cons (pe_comp rfl (.of (osc:=(defScope za1)) (N:=["_law_rows","_law_bottoms_here","_law_other","_law_cell_here","_law_some","_law_row"]) (own:=["_law_a","_law_b"]) (fvn:=[]) (fv:=[]) rfl rfl (by decide +kernel)) (zcE (K:=K) rfl rfl T.zip (pa_cons (pv 2) (pa_cons (pv 5) pa_nil))) (λ_ _ _ _ _=>⟨(zaR (K:=K) (n:=2) rfl rfl (zas (pg_name (i:=0) (show (["_law_a","_law_b"]:List Str).Nodup by decide +kernel) rfl (Or.inl rfl) (Or.inr rfl)) (zas (pg_name (i:=1) (show (["_law_a","_law_b"]:List Str).Nodup by decide +kernel) rfl (Or.inl rfl) (Or.inr rfl)) zbe))),pts_nil,(zam zbt (pv 0) (pv 1))⟩)) (pa_cons zgY pa_nil))))
 zae)))),.inl ?_⟩
 show L2.Run _ ([.va false (dQ K (List.map lI P0)),.va false (dQ K (List.map dI P1)),.va false (dL (List.map dI P2)),.va false (dI P3),.no,.no]:L2.Ctx) _ ((λ(r:((List Int)×Bool))=>Oc.rt false (dT [dL (List.map dI r.1),dB r.2])) (m_law_beyond P0 P1 P2 P3))
 unfold m_law_beyond
 exact (zaj (m:=true) (x:=(List.map (λ(x252:Int)=>x252) (List.filter (λ(x252:Int)=>(!decide ((ixD P1 x252)=(1:Int)))) (zaW 0 ((P0.length:Nat):Int).toNat)))) lI (λ(r:((List Int)×Bool))=>Oc.rt false (dT [dL (List.map dI r.1),dB r.2])) (EvO.ev (EvO.conv (zhJ (c:=λ(x252:Int)=>(!decide ((ixD P1 x252)=(1:Int)))) (g:=(λ(x252:Int)=>dI x252)) (zdb (m:=true) (n:=((P0.length:Nat):Int)) (zaG (f:=lI) (xs:=P0) (zaa (i:=0) rfl)) (by have z:=hq.1;refine ⟨?_,?_⟩<;>omega)) (by have z:=hq.1;exact zai (by rw [zaC];omega)) ⟨by decide,by decide⟩ (λi253 x252 hx254=>have v254:=zbf hx254;(zao (zc0 (x:=(ixD P1 x252)) (y:=(1:Int)) (Ev.any (m:=false) (zb1 (f:=dI) (xs:=P1) (zaa (i:=1) rfl) (Ev.any (m:=true) (zaa (i:=0) rfl)) (by have z:=hq.1;unfold InB;omega))) zaw))) (λi253 x252 hx254 hc=>have v254:=zbf hx254;(Ev.any (m:=true) (zaa (i:=0) rfl)))) (by first | (rw [List.map_map];rfl) | (simp only [cond_true,cond_false];rw [List.map_map];rfl)))) (λv255 hv255 =>
 have hS:=zj0 hv255;(zaB (b:=((decide ((P3%(2:Int))=(0:Int)))||(decide (((v255.length:Nat):Int)=(0:Int))))) (λ(r:((List Int)×Bool))=>Oc.rt false (dT [dL (List.map dI r.1),dB r.2])) (zf4 (b:=(decide ((P3%(2:Int))=(0:Int)))) (zao (zds (x:=(P3%(2:Int))) (y:=(0:Int)) (zau (x:=P3) (y:=(2:Int)) (Ev.any (m:=false) (zaa (i:=3) rfl)) zaw (by decide)) zaw)) (λhb=>(zao (zds (x:=((v255.length:Nat):Int)) (y:=(0:Int)) (zaG (f:=dI) (xs:=v255) (Ev.old (Ev.weak (K:=K) (zaa (i:=4) rfl)))) zaw)))) (λh256=>(zan (zag (zap (zfk (zab (zaa (i:=2) rfl) (zab zaw zad)) (by show 2≤sizeLine;decide)))))) (λh256 =>
 (zal (zaj (m:=false) (x:=(ixD P0 (ixD v255 (m_law_thing P3 (30:Int) ((v255.length:Nat):Int))))) lI (λ(r:((List Int)×Bool))=>Oc.rt false (dT [dL (List.map dI r.1),dB r.2])) (zb1 (f:=lI) (xs:=P0) (zaa (i:=0) rfl) (Ev.any (m:=true) (zb1 (f:=dI) (xs:=v255) (Ev.weak (K:=K) (zaa (i:=4) rfl)) (Ev.any (m:=true) (zah (x:=(P3,(30:Int),((v255.length:Nat):Int))) (zab (Ev.any (m:=false) (zaa (i:=3) rfl)) (zab zaw (zab (zaG (f:=dI) (xs:=v255) (Ev.old (Ev.weak (K:=K) (zaa (i:=4) rfl)))) zad))) rfl (by show zay P3 (30:Int) ((v255.length:Nat):Int);have z:=zlS (by assumption);exact ⟨by decide,by decide,by omega⟩) rfl)) (by exact znT (zlS (by assumption))))) (by exact zoW (zlS (by assumption)) hS)) (λv257 hv257 =>
 have hR:=hv257;(zag (zap (zfk (zab (EvO.ev (EvO.conv (zbN (g:=(λ(x258:(Int×Int))=>dI (x258.1+x258.2))) (zeM (m:=false) dI dI (xs:=P2) (ys:=v257) (Ev.weak (K:=K) (zaa (i:=2) rfl)) (Ev.weak (K:=K) (zaa (i:=5) rfl))) (by exact zai (by rw [List.length_zip];omega)) ⟨by decide,by decide⟩ (λi259 x258 hx260=>have v260:=zcv hx260;(zaD (x:=x258.1) (y:=x258.2) (Ev.any (m:=false) (zaa (i:=0) rfl)) (Ev.any (m:=false) (zaa (i:=1) rfl))))) (by first | (rw [List.map_map];rfl) | (simp only [cond_true,cond_false];rw [List.map_map];rfl)))) (zab zaw zad)) (by show 2≤sizeLine;decide)))))))))))
def m_law_spoilt (P0:(List Int)) (P1:Int):(List Int) :=
 (bif (decide (P1=(1:Int))) then (cutD P0 (some (1:Int)) none)
 else (bif (decide (P1=(2:Int))) then (P0++[(0:Int)])
 else P0))
def zbE (P0:(List Int)) (P1:Int):Prop:=P0.length≤1000
def zdF (K:W.Frag) (A:Adr):Sp:=Spv (ι:=(List Int)×Int) (λx=>[dL (List.map dI x.1),dI x.2]) (λx=>zbE x.1 x.2) (λx=>.va false (dL (List.map dI (m_law_spoilt x.1 x.2))))
theorem zg4:FnScope ["_law_basket","_law_way"] ["_law_basket","_law_way"] (defScope zbQ):=⟨rfl,rfl,rfl,by decide +kernel,rfl,by decide +kernel,by decide +kernel⟩
theorem zgM (F:Fun K "_law_spoilt" "_law_spoilt" zbQ f fd) (T:Txt K mg A) :FnOk P w K mg base (CXE P w) 1 f fd ["_law_basket","_law_way"] (zdF K A):=by
 refine F.okV zg4 (λ_=>rfl) (λcdv Ar outer s H E x hr hp=>?_)
 obtain ⟨P0,P1⟩:=x
 have hu:=hr.units
 replace hp:zbE P0 P1:=hp
 unfold zbE at hp
 refine ⟨_,(zac (zbw (pt_cmpR op_eq (pv 1) zaf (nomark _))
 (zac (zav (zbh (zaT (K:=K) rfl) (pv 0) (zbv zaf) zcr))
 zae)
 zae)
 (zac (zbw (pt_cmpR op_eq (pv 1) zaf (nomark _))
 (zac (zav (zam zb4 (pv 0) (za2 (pa_cons zaf pa_nil))))
 zae)
 zae)
 (zac (zav (pv 0))
 zae))),.inl ?_⟩
 show L2.Run _ ([.va false (dL (List.map dI P0)),.va false (dI P1)]:L2.Ctx) _ ((λ(r:(List Int))=>Oc.rt false (dL (List.map dI r))) (m_law_spoilt P0 P1))
 unfold m_law_spoilt
 exact (zaB (b:=(decide (P1=(1:Int)))) (λ(r:(List Int))=>Oc.rt false (dL (List.map dI r))) (zao (zds (x:=P1) (y:=(1:Int)) (Ev.any (m:=false) (zaa (i:=1) rfl)) zaw)) (λh261=>(zan (zag (zap (EvO.ev (EvO.anyI (m:=false) (zbT (f:=dI) (xs:=P0) (Ev.weak (K:=K) (zaa (i:=0) rfl)) (zaX zaw) zbF))))))) (λh261 =>
 (zal (zaB (b:=(decide (P1=(2:Int)))) (λ(r:(List Int))=>Oc.rt false (dL (List.map dI r))) (zao (zds (x:=P1) (y:=(2:Int)) (Ev.any (m:=false) (zaa (i:=1) rfl)) zaw)) (λh262=>(zan (zag (zap (EvO.ev (EvO.anyI (m:=false) (zbc (f:=dI) (xs:=P0) (ys:=[(0:Int)]) (zaa (i:=0) rfl) (EvO.ev (zbD (zab zaw zad) (by show 1≤sizeLine;decide))) (by apply zai;simp only [List.length_append,List.length_singleton,List.length_cons,List.length_nil];omega)))))))) (λh262 =>
 (zal (zag (zap (zaa (i:=0) rfl)))))))))
theorem zk1 {w:Int} {W:Nat} (hw:w=(W:Int)) (h1:1≤w):∀ (cs:List Int) (s:List (List Int)×List (List Int)),FrI W s->Lat.zh0 (s.1.map Lat.vec)->Lat.zh0 ((List.foldl (frF w) s cs).1.map Lat.vec)
 | [],s,_,h=>h
 | c :: cs,s,hF,h=>by
  rw [List.foldl_cons]
  have hO:=zc3 (c:=c) (k:=1) hw h1 rfl
  have hT:=zc3 (c:=c) (k:=2) hw h1 rfl
  refine zk1 hw h1 cs _ (zjH hF hO hT) ?_
  unfold frF Let
  dsimp only
  generalize m_law_thing c 1 w=one at *
  generalize m_law_thing c 2 w=two at *
  generalize m_law_thing c 3 5-2=many at *
  by_cases e:one=two
  ·rw [decide_eq_true e];exact h
  ·rw [decide_eq_false e]
   obtain ⟨o,rfl⟩:∃ o:Nat,one=(o:Int):=⟨one.toNat,by omega⟩
   obtain ⟨t,rfl⟩:∃ w:Nat,two=(w:Int):=⟨two.toNat,by omega⟩
   have ho:o<s.1.length:=by rw [hF.1.1];omega
   have ht:t<s.1.length:=by rw [hF.1.1];omega
   show Lat.zh0 ((setZ s.1 (t:Int) _).map Lat.vec)
   rw [zdO (List.getElem?_eq_getElem ho),zdO (List.getElem?_eq_getElem ht),setZ_nt ht,ziC]
   refine Lat.zi5 (o:=o) (ao:=Lat.vec s.1[o]) (aw:=Lat.vec s.1[t]) (q:=many) (λz=>e (by rw [z])) h (by rw [List.getElem?_map,List.getElem?_eq_getElem ho];rfl) (by rw [List.getElem?_map,List.getElem?_eq_getElem ht];rfl) λi=>Lat.zfB ?_
   rw [hF.1.2 _ (List.getElem_mem ho),hF.1.2 _ (List.getElem_mem ht)]
theorem zjv {w:Int} {W:Nat} {cs:List Int} (hw:w=(W:Int)) (h1:1≤w):Lat.zh0 ((m_law_frame w cs).1.map Lat.vec):=by
 refine zk1 hw h1 cs _ (ziu hw rfl rfl) λxs hx hz x hxm=>?_
 obtain ⟨i,hi,rfl⟩:=List.getElem_of_mem hxm
 rw [List.length_map,List.length_map,zaC] at hx
 have:=hz i
 have e:=Lat.zgg (m:=w.toNat) (c:=0) xs 0 i (by omega) (by decide)
 rw [List.map_map,← hx] at this
 have e':(List.map (Lat.vec ∘ λ(x:Int)=>List.map (λ(y:Int)=>(if (decide (y=x)) then (1:Int) else 0)) (zaW 0 xs.length)) (zaW 0 xs.length))=List.map (λ(x:Int)=>Lat.vec (List.map (λ(y:Int)=>(if (decide (y=((0:Int)+x))) then (1:Int) else 0)) (zaW 0 w.toNat))) (zaW 0 xs.length):=List.map_congr_left λx _=>by
  show Lat.vec (List.map (λ(y:Int)=>(if (decide (y=x)) then (1:Int) else 0)) (zaW 0 xs.length))=_
  rw [hx,Int.zero_add]
 rw [e',e,if_pos (by omega)] at this
 have e3:((i:Int)-(0+0)).toNat=i:=by omega
 rw [e3] at this
 simpa [Lat.vec,List.getD_eq_getElem?_getD,List.getElem?_eq_getElem hi] using this
theorem zoI:∀ (l:List (List Int×Int)) (acc:List (List Int)),List.foldl (λ(s:List (List Int)) (x:List Int×Int)=>Let (bif (decide ((0:Int)<x.2)) then (s++[List.map (λ(y:Int)=>(x.2*y)) x.1]) else s) (λ(z:List (List Int))=>z)) acc l=acc++List.map (λp=>List.map (λ(y:Int)=>(p.2*y)) p.1) (l.filter λp=>decide ((0:Int)<p.2))
 | [],acc=>by simp
 | p :: l,acc=>by
  rw [List.foldl_cons,zoI l]
  show (bif (decide ((0:Int)<p.2)) then (acc++[List.map (λ(y:Int)=>(p.2*y)) p.1]) else acc)++_=_
  by_cases hp:(0:Int)<p.2
  ·rw [decide_eq_true hp,cond_true,List.filter_cons_of_pos (by simpa using hp),List.map_cons,List.append_assoc];rfl
  ·rw [decide_eq_false hp,cond_false,List.filter_cons_of_neg (by simpa using hp)]
theorem zfZ:∀ (l:List (List Int×Int)) (xs:List Int),(∀ p∈l,0≤p.2)->xs.length=(l.filter λp=>decide ((0:Int)<p.2)).length->∃ ys:List Int,ys.length=l.length∧(∀ i,Lat.comb ys (l.map λp=>Lat.vec p.1) i=Lat.comb xs ((l.filter λp=>decide ((0:Int)<p.2)).map λp=>Lat.vec (List.map (λ(y:Int)=>(p.2*y)) p.1)) i)∧∀ (k:Nat) (p:List Int×Int) (y:Int),l[k]?=some p->ys[k]?=some y->∃ z,y=z*p.2
 | [],xs,_,h=>⟨[],rfl,λi=>by rw [List.length_eq_zero_iff.mp h];rfl,λk p y h1 _=>by simp at h1⟩
 | p :: l,xs,hl,h=>by
  have hp0:=hl p List.mem_cons_self
  by_cases hp:(0:Int)<p.2
  ·rw [List.filter_cons_of_pos (by simpa using hp)] at h ⊢
   match xs,h with
   | x :: xs,h =>
    obtain ⟨ys,h1,h2,h3⟩:=zfZ l xs (λq hq=>hl q (List.mem_cons_of_mem _ hq)) (by simpa using h)
    refine ⟨(x*p.2) :: ys,by simp [h1],λi=>?_,λk q y e1 e2=>?_⟩
    ·simp only [List.map_cons,Lat.comb,h2 i]
     have:Lat.vec (List.map (λ(y:Int)=>(p.2*y)) p.1) i=p.2*Lat.vec p.1 i:=by
      unfold Lat.vec
      rw [List.getD_eq_getElem?_getD,List.getD_eq_getElem?_getD,List.getElem?_map]
      cases p.1[i]?<;>simp
     rw [this,Int.mul_assoc]
    ·cases k with
     | zero =>
      have e1:p=q:=by simpa using e1
      have e2:x*p.2=y:=by simpa using e2
      exact ⟨x,by rw [← e1,e2]⟩
     | succ k=>exact h3 k q y (by simpa using e1) (by simpa using e2)
  ·rw [List.filter_cons_of_neg (by simpa using hp)] at h ⊢
   obtain ⟨ys,h1,h2,h3⟩:=zfZ l xs (λq hq=>hl q (List.mem_cons_of_mem _ hq)) h
   refine ⟨0 :: ys,by simp [h1],λi=>?_,λk q y e1 e2=>?_⟩
   ·simp only [List.map_cons,Lat.comb,h2 i]
    omega
   ·cases k with
    | zero =>
     have e1:p=q:=by simpa using e1
     have e2:(0:Int)=y:=by simpa using e2
     exact ⟨0,by rw [← e2];simp⟩
    | succ k=>exact h3 k q y (by simpa using e1) (by simpa using e2)
theorem zjR {n k:Nat} {a:List (List Int)}:∀ (cs:List Int) (s:List (List Int)×List (List Int)),StI n k s->(∀ r∈s.1,Lat.SpL a (Lat.vec r))->∀ r∈(List.foldl stF s cs).1,Lat.SpL a (Lat.vec r)
 | [],s,_,h=>h
 | x :: cs,s,hS,h=>by
  rw [List.foldl_cons]
  have hO:=zfl (c:=x) (k:=4) hS.1 rfl
  have hT:=zfl (c:=x) (k:=5) hS.1 rfl
  refine zjR (n:=n) (k:=k) cs _ (zkQ hS hO hT) ?_
  unfold stF Let
  dsimp only
  generalize m_law_thing x 4 (max (1:Int) ((s.1.length:Nat):Int))=one at *
  generalize m_law_thing x 5 (max (1:Int) ((s.1.length:Nat):Int))=two at *
  generalize m_law_thing x 6 5-2=many at *
  by_cases e:one=two
  ·rw [decide_eq_true e];exact h
  ·rw [decide_eq_false e]
   have hl:=zeZ hO hT (by simp [e])
   intro r hr
   rcases Lat.setZ_mem (show r∈setZ s.1 two _ from hr) with rfl | hr
   ·have m1:=zdx (sq_ix hS.1 hl.1.1 hl.1.2)
    have m2:=zdx (sq_ix hS.1 hl.2.1 hl.2.2)
    refine (Lat.Sp.lin 1 many (h _ m2) (h _ m1)).conv λi=>?_
    rw [Lat.zfB (by rw [hS.1.2 _ m1,hS.1.2 _ m2])]
    omega
   ·exact h r hr
theorem zhV {W:Nat} {rows:List (List Int)} {bs cs:List Int} {idle:Int} (hr:Sq W W rows) (hI:Lat.zh0 (rows.map Lat.vec)) (hb:bs.length=W) (hbb:∀ x∈bs,0≤x) (hi:0≤idle) {j:Nat} {row:List Int} {bj:Int} (hj:rows[j]?=some row) (hbj:bs[j]?=some bj) (h1:bj≠1):¬ Lat.SpL (m_law_stirred rows bs idle cs).1 (Lat.vec row):=by
 intro hS0
 have ea:=zoI (List.zip rows bs) []
 rw [List.nil_append] at ea
 unfold m_law_stirred at hS0
 generalize ha:(List.foldl (λ(s:List (List Int)) (x:List Int×Int)=>Let (bif (decide ((0:Int)<x.2)) then (s++[List.map (λ(y:Int)=>(x.2*y)) x.1]) else s) (λ(z:List (List Int))=>z)) [] (List.zip rows bs))=a at hS0 ea
 have hal:∀ r∈a,r.length=W:=λr hr'=>by
  rw [ea] at hr'
  obtain ⟨p,hp,rfl⟩:=List.mem_map.mp hr'
  rw [List.length_map]
  exact hr.2 _ (List.of_mem_zip (a:=p.1) (b:=p.2) (List.mem_filter.mp hp).1).1
 have hS:StI W (a.length+idle.toNat) (a++List.map (λ(_:Int)=>zcY ((rows.length:Nat):Int) [(0:Int)]) (zaW 0 idle.toNat),List.map (λ(x:Int)=>List.map (λ(y:Int)=>(if (decide (y=(((a.length:Nat):Int)+x))) then (1:Int) else 0)) (zaW 0 (((a.length:Nat):Int)+idle).toNat)) (zaW 0 idle.toNat)):=by
  refine ⟨⟨by rw [List.length_append,List.length_map,zaC],λr hr'=>?_⟩,λt ht=>?_⟩
  ·rcases List.mem_append.mp hr' with hr' | hr'
   ·exact hal r hr'
   ·obtain ⟨x,_,rfl⟩:=List.mem_map.mp hr'
    rw [Lat.zcM];exact hr.1
  ·obtain ⟨x,_,rfl⟩:=List.mem_map.mp ht
   rw [List.length_map,zaC];omega
 have hsp:=zjR (n:=W) (k:=a.length+idle.toNat) (a:=a) cs _ hS (λr hr'=>by
  rcases List.mem_append.mp hr' with hr' | hr'
  ·exact Lat.SpL.mem hr'
  ·obtain ⟨x,_,rfl⟩:=List.mem_map.mp hr'
   exact Lat.Sp.zero.conv λi=>Lat.zez.symm)
 have hA:Lat.SpL a (Lat.vec row):=Lat.SpL.sub hsp hS0
 obtain ⟨xs,x1,x2⟩:=Lat.zm9 hA
 obtain ⟨ys,y1,y2,y3⟩:=zfZ (List.zip rows bs) xs (λp hp=>hbb _ (List.of_mem_zip (a:=p.1) (b:=p.2) hp).2) (by rw [x1,ea,List.length_map])
 have e1:rows.map Lat.vec=(List.zip rows bs).map λp=>Lat.vec p.1:=by
  have:rows=(List.zip rows bs).map Prod.fst:=by rw [List.map_fst_zip (by rw [hr.1,hb];exact Nat.le_refl _)]
  have h2:=congrArg (List.map Lat.vec) this
  rw [List.map_map] at h2
  exact h2
 have yl:ys.length=rows.length:=by rw [y1,List.length_zip,hr.1,hb];omega
 have hjl:j<ys.length:=by rw [yl];exact (List.getElem?_eq_some_iff.mp hj).1
 have hy:=y3 j (row,bj) ys[j] (by rw [List.getElem?_zip_eq_some];exact ⟨hj,hbj⟩) (List.getElem?_eq_getElem hjl)
 have hz:=hI (ys.set j (ys[j]-1)) (by rw [List.length_set,yl,List.length_map]) (λi=>by
  rw [Lat.zdN (a:=Lat.vec row) (List.getElem?_eq_getElem hjl) (by rw [List.getElem?_map,hj];rfl),e1,y2 i]
  have:=x2 i
  rw [ea,List.map_map] at this
  have e2:Lat.comb xs ((List.filter (λp=>decide ((0:Int)<p.2)) (List.zip rows bs)).map λp=>Lat.vec (List.map (λ(y:Int)=>(p.2*y)) p.1)) i=Lat.vec row i:=this.symm
  rw [e2]
  grind)
 have h0:ys[j]-1=0:=hz _ (List.mem_of_getElem? (i:=j) (by rw [List.getElem?_set_self hjl]))
 obtain ⟨z,hz'⟩:=hy
 have hz':ys[j]=z*bj:=hz'
 have hb0:=hbb bj (List.mem_of_getElem? hbj)
 have hm:z*bj=1:=by omega
 rcases Int.lt_or_le bj 2 with q | q
 ·have:bj=0:=by omega
  rw [this] at hm;simp at hm
 ·rcases Int.lt_or_le z 1 with q2 | q2
  ·have:=Int.mul_le_mul_of_nonneg_right (show z≤0 by omega) hb0
   omega
  ·have:=Int.mul_le_mul q2 q (by decide) (by omega)
   omega
theorem zlW {xs:List Int} (hx:xs.length≤63) {j:Nat} {row:List Int} {bj:Int} (hj:(m_law_made xs).a[j]?=some row) (hbj:(m_law_made xs).c[j]?=some bj) (h1:bj≠1):¬ Lat.SpL (m_law_made xs).d (Lat.vec row):=by
 unfold m_law_made Let at hj hbj ⊢
 dsimp only at hj hbj ⊢
 have hW:=zpj (b:=decide ((m_law_cell xs (0:Int)/(4:Int))%(16:Int)=(7:Int))) (c:=m_law_cell xs (0:Int)) rfl rfl
 generalize hw:(bif _ then _ else (1:Int)+m_law_cell xs (0:Int)%(4:Int))=w at *
 generalize cutD xs (some (2:Int)) (some (62:Int))=cs at *
 obtain ⟨W,hWW⟩:∃ W:Nat,w=(W:Int):=⟨w.toNat,by omega⟩
 have hF:=zd2 (cs:=cutD cs none (some (((cs.length:Nat):Int)/(2:Int)))) hWW hW.1
 have hI:=zjv (cs:=cutD cs none (some (((cs.length:Nat):Int)/(2:Int)))) hWW hW.1
 generalize m_law_frame w (cutD cs none (some (((cs.length:Nat):Int)/(2:Int))))=p at *
 have hb:=ziz (w:=w) (c:=m_law_raw xs (1:Int)) (f:=(7:Int)) (by omega)
 have hO:=zhV (cs:=cutD cs (some (((cs.length:Nat):Int)/(2:Int))) none) (idle:=m_law_cell xs (0:Int)/(64:Int)%(4:Int)) (zif hF.1) hI (by rw [hb.1];omega) (λx hx=>(hb.2 x hx).1) (by omega) hj hbj h1
 generalize m_law_stirred p.1 _ _ _=q at *
 have ht:0≤(m_law_cell xs (0:Int)/(256:Int))%(((q.1.length:Nat):Int)+(1:Int)):=Int.emod_nonneg _ (by omega)
 generalize (m_law_cell xs (0:Int)/(256:Int))%(((q.1.length:Nat):Int)+(1:Int))=t at *
 rw [zfd ht]
 intro h
 refine hO (Lat.SpL.sub (λs hs=>?_) h)
 rcases List.mem_append.mp hs with hs | hs
 ·exact Lat.SpL.mem (List.mem_of_mem_drop hs)
 ·exact Lat.SpL.mem (List.mem_of_mem_take hs)
def G53 (b:BookD) (x y w:List Int) (t:Bool):Prop:=BkP b∧Lat.Bit 400 x∧Lat.Bit 400 y∧x.length≤20∧y.length≤20∧w.length=b.swaps.length∧Lat.Bit 20 w∧((x.length:Int)=b.many->(y.length:Int)=b.many->bif t then m_way_to b (m_less y x)=none else y=m_law_led x b.swaps w)
theorem zmp {b:BookD} {x y w:List Int} {t:Bool} (h:G53 b x y w t):PxP b x y:=⟨h.1,400,by decide,h.2.1,h.2.2.1⟩
theorem ze2 {b:BookD} {x y:List Int} (h:((!decide (((x.length:Nat):Int)=b.many))||(!decide (((y.length:Nat):Int)=b.many)))=false):(x.length:Int)=b.many∧(y.length:Int)=b.many:=by simpa using h
theorem zhN {b:BookD} {x y:List Int} {hd:List (List Int)} {p:Option (List Int)×Option Xn} (e:hd=[x,y]) (ep:p=m_law_asked b (ixD hd (0:Int)) (ixD hd (1:Int))) (h:((!decide (((x.length:Nat):Int)=b.many))||(!decide (((y.length:Nat):Int)=b.many)))=false):p=(m_plain_road b x y,none):=by
 subst e
 rw [ep,ziK]
 show (okJ (x_plain_road b x y),zpz (x_plain_road b x y))=_
 rw [zqc,if_pos (ze2 h)]
 rfl
theorem zmB {b:BookD} {x z:List Int} {n:Nat} (hl:∀ s∈b.swaps,s.length=n) (hz:z.length=n):(m_less (m_law_led z b.swaps x) z).length=n∧∀ i,Lat.vec (m_less (m_law_led z b.swaps x) z) i=Lat.comb x (b.swaps.map Lat.vec) i:=by
 have L:=λj=>zeY (sw:=b.swaps) (way:=x) (l:=z) (j:=j) λs hs=>by rw [hl s hs,hz]
 have h0:=(L 0).1
 refine ⟨by rw [zfu (by rw [h0]),hz],λi=>?_⟩
 rw [show m_less (m_law_led z b.swaps x) z=Lat.sub (m_law_led z b.swaps x) z from rfl,Lat.zev (by rw [h0]),(L i).2]
 omega
theorem zpa {b:BookD} {x z:List Int} (h:BkP b) (hz:(z.length:Int)=b.many):∃ r,m_way_to b (m_less (m_law_led z b.swaps x) z)=some r:=by
 obtain ⟨n,k1,k2,k3,k4⟩:=h
 have V:=zmB (b:=b) (x:=x) (z:=z) (n:=n) (λs hs=>(k4 s hs).1) (by omega)
 cases q:m_way_to b (m_less (m_law_led z b.swaps x) z) with
 | some r=>exact ⟨r,rfl⟩
 | none =>
  refine absurd ?_ ((ziO k1 V.1 λr hr=>(k4 r hr).1).1 q)
  exact (Lat.zdY (A:=Lat.Rw b.swaps) (xs:=x) (as:=b.swaps.map Lat.vec) λa ha=>by
   obtain ⟨s,hs,rfl⟩:=List.mem_map.mp ha
   exact ⟨s,hs,rfl⟩).conv λi=>(V.2 i).symm
theorem zj4 {b:BookD} {n:Nat} {x y z:List Int} (hl:∀ s∈b.swaps,s.length=n) (hz:z.length=n) (hx:x.length=b.swaps.length) (hy:y.length=b.swaps.length):m_law_led z b.swaps x=m_law_led z b.swaps y ↔ Lat.Rel n b.swaps (λi=>Lat.vec x i-Lat.vec y i):=by
 have L:=λw j=>zeY (sw:=b.swaps) (way:=w) (l:=z) (j:=j) λs hs=>by rw [hl s hs,hz]
 have key:∀ j,Lat.comb (List.map (λi=>Lat.vec x i-Lat.vec y i) (List.range b.swaps.length)) (b.swaps.map Lat.vec) j=Lat.comb x (b.swaps.map Lat.vec) j-Lat.comb y (b.swaps.map Lat.vec) j:=λj=>by
  have:=Lat.comb_lin (j:=j) (Lat.vec x) (Lat.vec y) (-1) (List.range b.swaps.length) (b.swaps.map Lat.vec)
  rw [Lat.zg2 hx,Lat.zg2 hy] at this
  rw [show (λi=>Lat.vec x i-Lat.vec y i)=λi=>Lat.vec x i+(-1)*Lat.vec y i from funext λi=>by omega,this]
  omega
 constructor
 ·intro e j hj
  rw [key]
  have e1:=(L x j).2
  have e2:=(L y j).2
  rw [e] at e1
  omega
 ·intro R
  refine Lat.vec_ext (by rw [(L x 0).1,(L y 0).1]) λj=>?_
  by_cases hj:j<n
  ·have:=R j hj
   rw [key] at this
   rw [(L x j).2,(L y j).2]
   omega
  ·rw [Lat.zct (by rw [(L x 0).1];omega),Lat.zct (by rw [(L y 0).1];omega)]
theorem zmg {b:BookD} {n:Nat} (k1:b.many=(n:Int)) (hl:∀ s∈b.swaps,s.length=n) {x y:List Int} (hx:x.length=b.swaps.length) (hy:y.length=b.swaps.length):Lat.Rel n b.swaps (λi=>Lat.vec x i-Lat.vec y i) ↔ Lat.SpL (m_rounds b) (λi=>Lat.vec x i-Lat.vec y i):=by
 obtain ⟨E,Rd,r1,r2⟩:=zlK k1 hl
 constructor
 ·intro R
  have hs:(Lat.sub x y).length=b.swaps.length:=by rw [Lat.zgE (by rw [hx,hy]),hx]
  have e:Lat.vec (Lat.sub x y)=λi=>Lat.vec x i-Lat.vec y i:=funext λi=>Lat.zev (by rw [hx,hy])
  have:=r2 _ hs (by rw [e];exact R)
  rwa [e] at this
 ·intro S
  exact Lat.Rel.sp (λa ⟨t,ht,e⟩=>e ▸ r1 t ht) S
theorem zn2 {b:BookD} {w z:List Int} (h:BkP b) (hw:w.length=b.swaps.length) (hz:(z.length:Int)=b.many):m_plain_road b z (m_law_led z b.swaps w)=some (m_plain b w):=by
 have hB:=h
 obtain ⟨n,k1,k2,k3,k4⟩:=hB
 have hl:∀ s∈b.swaps,s.length=n:=λs hs=>(k4 s hs).1
 obtain ⟨r,hr⟩:=zpa (x:=w) h hz
 have V:=zmB (b:=b) (x:=w) (z:=z) (n:=n) hl (by omega)
 obtain ⟨w1,w2,w3⟩:=(ziO k1 V.1 hl).2 r hr
 have hN:(zcY b.many [(0:Int)]).length=n:=by rw [k1,Lat.zcM]
 unfold m_plain_road
 rw [hr]
 show some (m_plain b r)=some (m_plain b w)
 congr 1
 refine znk h w1 hw ((zmg k1 hl w1 hw).mp ?_)
 refine (zj4 hl hN w1 hw).mp ?_
 have L:=λu j=>zeY (sw:=b.swaps) (way:=u) (l:=zcY b.many [(0:Int)]) (j:=j) λs hs=>by rw [hl s hs,hN]
 refine Lat.vec_ext (by rw [(L r 0).1,(L w 0).1]) λj=>?_
 by_cases hj:j<n
 ·rw [(L r j).2,(L w j).2,w3 j hj,V.2 j]
 ·rw [Lat.zct (by rw [(L r 0).1];omega),Lat.zct (by rw [(L w 0).1];omega)]
theorem znY {b:BookD} {x y w:List Int} {t:Bool} {hd:List (List Int)} {p:Option (List Int)×Option Xn} (g:G53 b x y w t) (e:hd=[x,y]) (ep:p=m_law_asked b (ixD hd (0:Int)) (ixD hd (1:Int))) (h:((!decide (((x.length:Nat):Int)=b.many))||(!decide (((y.length:Nat):Int)=b.many)))=false) (h2:(p.2.isSome||t)=false):p.1=some (m_plain b w)∧y=m_law_led x b.swaps w:=by
 have hl:=ze2 h
 have ht:t=false:=by revert h2;cases t<;>simp
 have hy:=g.2.2.2.2.2.2.2 hl.1 hl.2
 rw [ht] at hy
 have hy:y=m_law_led x b.swaps w:=hy
 refine ⟨?_,hy⟩
 rw [zhN e ep h]
 show m_plain_road b x y=_
 rw [hy]
 exact zn2 g.1 g.2.2.2.2.2.1 hl.1
theorem zeR {b:BookD} {x y w:List Int} {t:Bool} {hd:List (List Int)} {p:Option (List Int)×Option Xn} (g:G53 b x y w t) (e:hd=[x,y]) (ep:p=m_law_asked b (ixD hd (0:Int)) (ixD hd (1:Int))) (h:((!decide (((x.length:Nat):Int)=b.many))||(!decide (((y.length:Nat):Int)=b.many)))=false) (h2:(p.2.isSome||t)=false):p.1.isSome=true:=by rw [(znY g e ep h h2).1];rfl
theorem zkZ {b:BookD} {x y w:List Int} {t:Bool} {hd:List (List Int)} {p:Option (List Int)×Option Xn} (g:G53 b x y w t) (e:hd=[x,y]) (ep:p=m_law_asked b (ixD hd (0:Int)) (ixD hd (1:Int))) (h:((!decide (((x.length:Nat):Int)=b.many))||(!decide (((y.length:Nat):Int)=b.many)))=false) (h2:(p.2.isSome||t)=false):zbH x b.swaps (gS p.1)∧(gS p.1).length<PySem.sizeLine:=by
 have q:=(znY g e ep h h2).1
 have hl:=ze2 h
 have pb:=zmH g.1 g.2.2.2.2.2.1 g.2.2.2.2.2.2.1
 rw [q]
 obtain ⟨n,k1,k2,k3,k4⟩:=g.1
 refine ⟨⟨λs hs=>by rw [(k4 s hs).1];omega,by omega,λp hp z hz=>?_⟩,?_⟩
 ·have hm:=List.of_mem_zip (a:=p.1) (b:=p.2) hp
  exact Lat.zdH.of (pb.2 _ hm.2) ((k4 _ hm.1).2 z hz) (by decide) (by decide)
 ·show (m_plain b w).length<_
  rw [pb.1]
  exact Nat.lt_of_le_of_lt k3 (by decide)
theorem zn4 {b:BookD} {x y w:List Int} {t:Bool} {hd:List (List Int)} (g:G53 b x y w t) (e:hd=[x,y]) (h:((!decide (((x.length:Nat):Int)=b.many))||(!decide (((y.length:Nat):Int)=b.many)))=false):PrP b (ixD hd (0:Int)) (ixD hd (1:Int)):=by
 subst e
 exact ziA (zmp g) (ze2 h).1 (ze2 h).2
theorem zo9 {b:BookD} {x y w:List Int} {t:Bool} {hd:List (List Int)} {p:Option (List Int)×Option Xn} (g:G53 b x y w t) (e:hd=[x,y]) (ep:p=m_law_asked b (ixD hd (0:Int)) (ixD hd (1:Int))) (h:((!decide (((x.length:Nat):Int)=b.many))||(!decide (((y.length:Nat):Int)=b.many)))=false) (h2:(p.2.isSome||t)=false):(m_plain_road b (ixD hd (0:Int)) (ixD hd (1:Int))).isSome=true:=by
 have q:=zeR g e ep h h2
 rw [zhN e ep h] at q
 subst e
 exact q
theorem zgK {x y:List Int} {hd:List (List Int)} (e:hd=[x,y]):InB hd.length (0:Int)∧InB hd.length (1:Int):=by subst e;unfold InB;simp
def m_law_good (P0:BookD) (P1:(List Int)) (P2:(List Int)) (P3:(List Int)) (P4:Bool):Bool :=
 (Let [P1,P2] (λ(hv263:(List (List Int))) =>
 (Let (m_law_asked P0 (ixD hv263 (0:Int)) (ixD hv263 (1:Int))) (λ(p264:((Option (List Int))×(Option Xn))) =>
 (bif (!decide (hv263=[P1,P2])) then false
 else (bif ((!decide (((P1.length:Nat):Int)=P0.many))||(!decide (((P2.length:Nat):Int)=P0.many))) then (m_law_only p264.2 ("BadBasket":Str))
 else (bif (p264.2.isSome||P4) then (p264.2.isNone&&p264.1.isNone)
 else (bif ((!(m_law_wholes (gS p264.1) ((P3.length:Nat):Int)))||(!decide ((m_law_led P1 P0.swaps (gS p264.1))=P2))) then false
 else (Let (m_plain P0 P3) (λ(v269:(List Int)) =>
 (bif (!decide ((gS p264.1)=v269)) then false
 else (decide ((gS (m_plain_road P0 (ixD hv263 (0:Int)) (ixD hv263 (1:Int))))=v269)))))))))))))
def zc1 (P0:BookD) (P1:(List Int)) (P2:(List Int)) (P3:(List Int)) (P4:Bool):Prop:=G53 P0 P1 P2 P3 P4
def zex (K:W.Frag) (A:Adr):Sp:=Spv (ι:=BookD×(List Int)×(List Int)×(List Int)×Bool) (λx=>[zaU A.Book x.1,dL (List.map dI x.2.1),dL (List.map dI x.2.2.1),dQ K (List.map dI x.2.2.2.1),dB x.2.2.2.2]) (λx=>zc1 x.1 x.2.1 x.2.2.1 x.2.2.2.1 x.2.2.2.2) (λx=>.va true (dB (m_law_good x.1 x.2.1 x.2.2.1 x.2.2.2.1 x.2.2.2.2)))
theorem zcP:FnScope ["_law_book","_law_one","_law_other","_law_way","_law_beyond_here","_law_handed","_law_found","_law_caught","_law_due"] ["_law_book","_law_one","_law_other","_law_way","_law_beyond_here"] (defScope zcI):=⟨rfl,rfl,rfl,by decide +kernel,rfl,by decide +kernel,by decide +kernel⟩
theorem zhX (F:Fun K "_law_good" "_law_good" zcI f fd) (T:Txt K mg A) (G_law_asked:Callee P w K mg base (CXE P w) 10 "_law_asked" ["_law_book","_law_one","_law_other"] (zdW K A)) (G_law_led:Callee P w K mg base (CXE P w) 1 "_law_led" ["_law_basket","_law_swaps","_law_way"] (zee K A)) (G_law_only:Callee P w K mg base (CXE P w) 2 "_law_only" ["_law_caught","_law_name"] (zeC K A)) (G_law_wholes:Callee P w K mg base (CXE P w) 1 "_law_wholes" ["_law_found","_law_many"] (zdB K A)) (G_plain:Callee P w K mg base (CXE P w) 8 "plain" ["book","road"] (zeV K A)) (G_plain_road:Callee P w K mg base (CXE P w) 9 "plain_road" ["book","one","other"] (zdJ K A)):FnOk P w K mg base (CXE P w) 11 f fd ["_law_book","_law_one","_law_other","_law_way","_law_beyond_here"] (zex K A):=by
 refine F.okV zcP (λ_=>rfl) (λcdv Ar outer s H E x hr hp=>?_)
 obtain ⟨P0,P1,P2,P3,P4⟩:=x
 have hu:=hr.units
 replace hp:zc1 P0 P1 P2 P3 P4:=hp
 unfold zc1 at hp
 refine ⟨_,(zac (zak (i:=5) zcP.nd rfl (Or.inl rfl) (za2 (pa_cons (zbA (zbj (K:=K) rfl) rfl T.list PyProof.Rows.boot_list (pa_cons (pv 1) pa_nil)) (pa_cons (zbA (zbj (K:=K) rfl) rfl T.list PyProof.Rows.boot_list (pa_cons (pv 2) pa_nil)) pa_nil))))
 (zac (zep (pe_fn G_law_asked (hr.mono (by decide)) rfl passE (pa_cons (pv 0) (pa_cons (zbI (zax (K:=K) rfl) (pv 5) zaf (λ_ _=>rfl)) (pa_cons (zbI (zax (K:=K) rfl) (pv 5) zaf (λ_ _=>rfl)) pa_nil)))) (zaR (K:=K) (n:=2) rfl rfl (zas (pg_name (i:=6) zcP.nd rfl (Or.inl rfl) (Or.inl rfl)) (zas (pg_name (i:=7) zcP.nd rfl (Or.inl rfl) (Or.inl rfl)) zbe))))
 (zac (zbw (pt_cmpR (zic (K:=K) rfl hu) (pv 5) (za2 (pa_cons (pv 1) (pa_cons (pv 2) pa_nil))) (nomark _))
 (zac (zav zgY)
 zae)
 zae)
 (zac (zbw (PW.pt (zh3 (pt_cmpR op_ne (pe_callB (call_len_K (K:=K) rfl) rfl T.len PySem.boot_len (pa_cons (pv 1) pa_nil)) (zb2 (K:=K) rfl (pv 0) rfl) (nomark _)) (pw_or1 (pt_cmpR op_ne (pe_callB (call_len_K (K:=K) rfl) rfl T.len PySem.boot_len (pa_cons (pv 2) pa_nil)) (zb2 (K:=K) rfl (pv 0) rfl) (nomark _)))))
 (zac (zav (pe_fn G_law_only (hr.mono (by decide)) rfl passE (pa_cons (pv 7) (pa_cons zby pa_nil))))
 zae)
 zae)
 (zac (zbw (PW.pt (zh3 (pt_cmpR znf (pv 7) zer (nomark _)) (pw_or1 (pt_val (pv 4)))))
 (zac (zav (zmK (pe_cmpR ziQ (pv 7) zer (nomark _)) (pe_one (pe_cmpR ziQ (pv 6) zer (nomark _)))))
 zae)
 zae)
 (zac (zbw (PW.pt (zh3 (zio (pt_val (pe_fn G_law_wholes (hr.mono (by decide)) rfl passE (pa_cons (pv 6) (pa_cons (pe_callB (call_len_K (K:=K) rfl) rfl T.len PySem.boot_len (pa_cons (pv 3) pa_nil)) pa_nil))))) (pw_or1 (pt_cmpR (zic (K:=K) rfl hu) (pe_fn G_law_led (hr.mono (by decide)) rfl passE (pa_cons (pv 1) (pa_cons (zb2 (K:=K) rfl (pv 0) rfl) (pa_cons (pv 6) pa_nil)))) (pv 2) (nomark _)))))
 (zac (zav zgY)
 zae)
 zae)
 (zac (zak (i:=8) zcP.nd rfl (Or.inl rfl) (zbA (zbj (K:=K) rfl) rfl T.list PyProof.Rows.boot_list (pa_cons (pe_fn G_plain (hr.mono (by decide)) rfl passE (pa_cons (pv 0) (pa_cons (pv 3) pa_nil))) pa_nil)))
 (zac (zbw (pt_cmpR (zic (K:=K) rfl hu) (pv 6) (pv 8) (nomark _))
 (zac (zav zgY)
 zae)
 zae)
 (zac (zcu (zbL (K:=K) rfl (pv 6) (pa_cons zaf pa_nil)))
 (zac (zav (pe_cmpR (op_eq_K (K:=K) rfl hu) (pe_fn G_plain_road (hr.mono (by decide)) rfl passE (pa_cons (pv 0) (pa_cons (zbI (zax (K:=K) rfl) (pv 5) zaf (λ_ _=>rfl)) (pa_cons (zbI (zax (K:=K) rfl) (pv 5) zaf (λ_ _=>rfl)) pa_nil)))) (pv 8) (nomark _)))
 zae)))))))))),.inl ?_⟩
 show L2.Run _ ([.va false (zaU A.Book P0),.va false (dL (List.map dI P1)),.va false (dL (List.map dI P2)),.va false (dQ K (List.map dI P3)),.va false (dB P4),.no,.no,.no,.no]:L2.Ctx) _ ((λ(r:Bool)=>Oc.rt true (dB r)) (m_law_good P0 P1 P2 P3 P4))
 unfold m_law_good
 exact (zaj (m:=true) (x:=[P1,P2]) (λ(xs:(List (List Int)))=>dL (List.map lI xs)) (λ(r:Bool)=>Oc.rt true (dB r)) (EvO.ev (zbD (zab (EvO.ev (EvO.anyI (m:=false) (zdP (Ev.weak (K:=K) (zaa (i:=1) rfl))))) (zab (EvO.ev (EvO.anyI (m:=false) (zdP (Ev.weak (K:=K) (zaa (i:=2) rfl))))) zad)) (by show 2≤sizeLine;decide))) (λhv263 hhanded263 =>
 have hH:=hhanded263;(zht (x:=(m_law_asked P0 (ixD hv263 (0:Int)) (ixD hv263 (1:Int)))) (λ(p:((Option (List Int))×(Option Xn)))=>dOpt lI p.1) (λ(p:((Option (List Int))×(Option Xn)))=>dOpt (λe=>dE (A.xc e)) p.2) (λ(r:Bool)=>Oc.rt true (dB r)) (zmu (zah (x:=(P0,(ixD hv263 (0:Int)),(ixD hv263 (1:Int)))) (zab (zaa (i:=0) rfl) (zab (Ev.weak (K:=K) (zb1 (f:=lI) (xs:=hv263) (Ev.weak (K:=K) (zaa (i:=5) rfl)) zaw (by exact (zgK hH).1))) (zab (Ev.weak (K:=K) (zb1 (f:=lI) (xs:=hv263) (Ev.weak (K:=K) (zaa (i:=5) rfl)) zaw (by exact (zgK hH).2))) zad))) rfl (by show zcB P0 (ixD hv263 (0:Int)) (ixD hv263 (1:Int));rw [hH];exact zmp hp) rfl)) (λp264 hp264 =>
 have hA:=hp264;(zaB (b:=(!decide (hv263=[P1,P2]))) (λ(r:Bool)=>Oc.rt true (dB r)) (zao (zgk (n:=1) (neg:=true) (xs:=hv263) (ys:=[P1,P2]) (EqD.list EqD.int) (Ev.old (Ev.weak (K:=K) (zaa (i:=5) rfl))) (Ev.weak (K:=K) (EvO.ev (zbD (zab (zaa (i:=1) rfl) (zab (zaa (i:=2) rfl) zad)) (by show 2≤sizeLine;decide)))))) (λh265=>(zan (zag (zap zaw)))) (λh265 =>
 (zal (zaB (b:=((!decide (((P1.length:Nat):Int)=P0.many))||(!decide (((P2.length:Nat):Int)=P0.many)))) (λ(r:Bool)=>Oc.rt true (dB r)) (zf4 (b:=(!decide (((P1.length:Nat):Int)=P0.many))) (zao (zc0 (x:=((P1.length:Nat):Int)) (y:=P0.many) (zaG (f:=dI) (xs:=P1) (Ev.weak (K:=K) (zaa (i:=1) rfl))) (Ev.any (m:=false) (zdU (zaa (i:=0) rfl) T.Book_cl T.Book_many rfl)))) (λhb=>(zao (zc0 (x:=((P2.length:Nat):Int)) (y:=P0.many) (zaG (f:=dI) (xs:=P2) (Ev.weak (K:=K) (zaa (i:=2) rfl))) (Ev.any (m:=false) (zdU (zaa (i:=0) rfl) T.Book_cl T.Book_many rfl)))))) (λh266=>(zan (zff rfl (zag (zap (Ev.any (m:=true) (zah (x:=(p264.2,("BadBasket":Str))) (zab (Ev.old (zaa (i:=7) rfl)) (zab zaw zad)) rfl (by show zc7 p264.2 ("BadBasket":Str);exact trivial) rfl))))))) (λh266 =>
 (zal (zaB (b:=(p264.2.isSome||P4)) (λ(r:Bool)=>Oc.rt true (dB r)) (EvT.borrow rfl (zf4 (b:=p264.2.isSome) (zao (zhg (x:=p264.2) (f:=(λe=>dE (A.xc e))) (Ev.old (zaa (i:=7) rfl)) zaw NN.exc)) (λhb=>(zeu (Ev.any (m:=false) (zaa (i:=4) rfl)))))) (λh267=>(zan (zff rfl (zag (zap (zmf (b:=p264.2.isNone) (zeF (x:=p264.2) (f:=(λe=>dE (A.xc e))) (Ev.old (zaa (i:=7) rfl)) zaw NN.exc) (λhb=>(zeF (x:=p264.1) (f:=lI) (Ev.old (zaa (i:=6) rfl)) zaw NN.lst)))))))) (λh267 =>
 (zal (zaB (b:=((!(m_law_wholes (gS p264.1) ((P3.length:Nat):Int)))||(!decide ((m_law_led P1 P0.swaps (gS p264.1))=P2)))) (λ(r:Bool)=>Oc.rt true (dB r)) (EvT.borrow rfl (zf4 (b:=(!(m_law_wholes (gS p264.1) ((P3.length:Nat):Int)))) (zg3 (zeu (Ev.any (m:=true) (zah (x:=((gS p264.1),((P3.length:Nat):Int))) (zab (Ev.old (ev_some (f:=lI) (x:=p264.1) (zaa (i:=6) rfl) (by exact zeR hp hH hA (by assumption) (by assumption)))) (zab (zaG (f:=dI) (xs:=P3) (zaa (i:=3) rfl)) zad)) rfl (by show zcf (gS p264.1) ((P3.length:Nat):Int);exact trivial) rfl)))) (λhb=>(zao (zgk (n:=0) (neg:=true) (xs:=(m_law_led P1 P0.swaps (gS p264.1))) (ys:=P2) EqD.int (Ev.old (Ev.weak (K:=K) (zah (x:=(P1,P0.swaps,(gS p264.1))) (zab (Ev.weak (K:=K) (zaa (i:=1) rfl)) (zab (Ev.weak (K:=K) (zdU (zaa (i:=0) rfl) T.Book_cl T.Book_swaps rfl)) (zab (Ev.old (Ev.weak (K:=K) (ev_some (f:=lI) (x:=p264.1) (zaa (i:=6) rfl) (by exact zeR hp hH hA (by assumption) (by assumption))))) zad))) rfl (by show zbH P1 P0.swaps (gS p264.1);exact (zkZ hp hH hA (by assumption) (by assumption)).1) rfl))) (Ev.weak (K:=K) (zaa (i:=2) rfl))))))) (λh268=>(zan (zag (zap zaw)))) (λh268 =>
 (zal (zaj (m:=true) (x:=(m_plain P0 P3)) lI (λ(r:Bool)=>Oc.rt true (dB r)) (EvO.ev (EvO.anyI (m:=true) (zdP (Ev.weak (K:=K) (zah (x:=(P0,P3)) (zab (zaa (i:=0) rfl) (zab (zaa (i:=3) rfl) zad)) rfl (by show zdo P0 P3;exact ⟨hp.1,hp.2.2.2.2.2.1,20,by decide,hp.2.2.2.2.2.2.1⟩) rfl))))) (λv269 hv269 =>
 have hD:=hv269;(zaB (b:=(!decide ((gS p264.1)=v269))) (λ(r:Bool)=>Oc.rt true (dB r)) (EvT.borrow rfl (zao (zgk (n:=0) (neg:=true) (xs:=(gS p264.1)) (ys:=v269) EqD.int (Ev.old (Ev.weak (K:=K) (ev_some (f:=lI) (x:=p264.1) (zaa (i:=6) rfl) (by exact zeR hp hH hA (by assumption) (by assumption))))) (Ev.old (Ev.weak (K:=K) (zaa (i:=8) rfl)))))) (λh270=>(zan (zag (zap zaw)))) (λh270 =>
 (zal (zjo (m:=true) rfl (znL (i:=6) rfl (by exact zeR hp hH hA (by assumption) (by assumption))) zaw (by exact (zkZ hp hH hA (by assumption) (by assumption)).2)
 (zag (zap (zgk (n:=0) (neg:=false) (xs:=(gS (m_plain_road P0 (ixD hv263 (0:Int)) (ixD hv263 (1:Int))))) (ys:=v269) EqD.int (Ev.old (Ev.weak (K:=K) (ev_some (f:=lI) (x:=(m_plain_road P0 (ixD hv263 (0:Int)) (ixD hv263 (1:Int)))) (zah (x:=(P0,(ixD hv263 (0:Int)),(ixD hv263 (1:Int)))) (zab (zaa (i:=0) rfl) (zab (Ev.old (Ev.weak (K:=K) (zb1 (f:=lI) (xs:=hv263) (Ev.weak (K:=K) (zaa (i:=5) rfl)) zaw (by exact (zgK hH).1)))) (zab (Ev.old (Ev.weak (K:=K) (zb1 (f:=lI) (xs:=hv263) (Ev.weak (K:=K) (zaa (i:=5) rfl)) zaw (by exact (zgK hH).2)))) zad))) rfl (by show zci P0 (ixD hv263 (0:Int)) (ixD hv263 (1:Int));exact zn4 hp hH (by assumption)) rfl) (by exact zo9 hp hH hA (by assumption) (by assumption))))) (Ev.old (Ev.weak (K:=K) (zaa (i:=8) rfl))))))))))))))))))))))))))))
theorem zgi {γ β:Type} {f:Unit->γ->Unit ⊕ β}:∀ {xs:List γ},(∀ x∈xs,f () x=.inl ())->zbi f () xs=.inl ()
 | [],_=>rfl
 | x :: xs,h=>by
  simp only [zbi,h x List.mem_cons_self]
  exact zgi λy hy=>h y (List.mem_cons_of_mem _ hy)
theorem only_b:m_law_only (some Xn.BadBasket) ("BadBasket":Str)=true:=by
 unfold m_law_only m_law_flags Let
 decide +kernel
theorem zph {b:BookD} {x y w:List Int} {t:Bool} (g:G53 b x y w t):m_law_good b x y w t=true:=by
 unfold m_law_good
 show (bif (!decide ([x,y]=[x,y])) then false else (bif ((!decide (((x.length:Nat):Int)=b.many))||(!decide (((y.length:Nat):Int)=b.many))) then (m_law_only (m_law_asked b x y).2 ("BadBasket":Str)) else (bif ((m_law_asked b x y).2.isSome||t) then ((m_law_asked b x y).2.isNone&&(m_law_asked b x y).1.isNone) else (bif ((!(m_law_wholes (gS (m_law_asked b x y).1) ((w.length:Nat):Int)))||(!decide ((m_law_led x b.swaps (gS (m_law_asked b x y).1))=y))) then false else (bif (!decide ((gS (m_law_asked b x y).1)=m_plain b w)) then false else (decide ((gS (m_plain_road b x y))=m_plain b w)))))))=true
 rw [decide_eq_true (rfl:[x,y]=[x,y]),Bool.not_true,cond_false]
 cases h:((!decide (((x.length:Nat):Int)=b.many))||(!decide (((y.length:Nat):Int)=b.many))) with
 | true =>
  rw [cond_true,ziK,zqc,if_neg (λz=>by rw [decide_eq_true z.1,decide_eq_true z.2] at h;cases h)]
  exact only_b
 | false =>
  rw [cond_false]
  have v:=zhN (hd:=[x,y]) rfl (p:=m_law_asked b x y) rfl h
  have hl:=ze2 h
  cases t with
  | true =>
   have hy:m_way_to b (m_less y x)=none:=g.2.2.2.2.2.2.2 hl.1 hl.2
   rw [v,Bool.or_true,cond_true]
   show (true&&(m_plain_road b x y).isNone)=true
   unfold m_plain_road
   rw [hy];rfl
  | false =>
   have q:=znY (hd:=[x,y]) g rfl (p:=m_law_asked b x y) rfl h (by rw [v];rfl)
   rw [v] at q
   have q1:m_plain_road b x y=some (m_plain b w):=q.1
   have pb:=zmH g.1 g.2.2.2.2.2.1 g.2.2.2.2.2.2.1
   have hB:=g.1
   obtain ⟨n,k1,k2,k3,k4⟩:=hB
   have hsl:∀ s∈b.swaps,s.length=n:=λs hs=>(k4 s hs).1
   have hL:m_law_led x b.swaps (m_plain b w)=y:=by
    rw [q.2]
    refine (zj4 hsl (by omega) pb.1 g.2.2.2.2.2.1).mpr ((zmg k1 hsl pb.1 g.2.2.2.2.2.1).mpr ?_)
    exact ((znS g.1 g.2.2.2.2.2.1).smul (-1)).conv λi=>by omega
   rw [v,q1]
   show (bif (false||false) then _ else (bif ((!(m_law_wholes (m_plain b w) ((w.length:Nat):Int)))||(!decide ((m_law_led x b.swaps (m_plain b w))=y))) then false else (bif (!decide ((m_plain b w)=m_plain b w)) then false else (decide ((m_plain b w)=m_plain b w)))))=true
   rw [hL,zkd,pb.1,g.2.2.2.2.2.1]
   simp
theorem zqr {xs:List Int} {y:T5 (List (List Int)) (List (List Int)) (List Int) (List (List Int)) (List (List Int))} (hx:xs.length≤63) (e:y=m_law_made xs):zhB y:=by subst e;exact zju hx
theorem znl {y:T5 (List (List Int)) (List (List Int)) (List Int) (List (List Int)) (List (List Int))} (h:zhB y):zcX ((y.a.length:Nat):Int) y.d:=by
 obtain ⟨n,k,h1,h2,h3,h4,h5,h6,h7,h8,h9⟩:=h
 exact ⟨by omega,by omega,by omega,λs hs=>by rw [(h6 s hs).1,h1]⟩
theorem zh4 {y:T5 (List (List Int)) (List (List Int)) (List Int) (List (List Int)) (List (List Int))} (h:zhB y):y.d.length≤11∧y.a.length≤8∧y.e.length≤3:=by
 obtain ⟨n,k,h1,h2,h3,h4,h5,h6,h7,h8,h9⟩:=h
 omega
def zql (y:T5 (List (List Int)) (List (List Int)) (List Int) (List (List Int)) (List (List Int))) (b:BookD):Prop:=BkP b∧b.swaps=y.d∧b.many=((y.a.length:Nat):Int)
theorem zmG {y:T5 (List (List Int)) (List (List Int)) (List Int) (List (List Int)) (List (List Int))} {b:BookD} (h:zhB y) (e:b=m_book_of ((y.a.length:Nat):Int) (List.map (λ(x:List Int)=>x) y.d)):zql y b:=by
 rw [zis,zoe] at e
 subst e
 obtain ⟨n,k,h1,h2,h3,h4,h5,h6,h7,h8,h9⟩:=h
 refine ⟨⟨n,by show ((y.a.length:Nat):Int)=n;omega,h3,by show y.d.length≤12;omega,λr hr=>⟨(h6 r hr).1,((h6 r hr).2).mono (by decide)⟩⟩,rfl,rfl⟩
theorem zmN {xs:List Int} {a b:Option Int} (h:xs.length≤63):(cutD xs a b).length+[(0:Int),(1:Int)].length≤PySem.sizeLine:=zai (by have:=zhb (xs:=xs) (a:=a) (b:=b);simp;omega)
def Cn (n b:Nat) (l:List Int):Prop:=l.length=n∧Lat.Bit b l
theorem ziM {c s:Int} {f:Int->Int} {n:Nat} {l:List Int} (hs:0≤s∧s≤500000) (e:l=List.map (λ(x:Int)=>m_law_count c (f x) s) (zaW 0 ((n:Nat):Int).toNat)):Cn n 20 l:=by
 subst e
 refine ⟨by rw [List.length_map,zaC];omega,λy hy=>?_⟩
 obtain ⟨x,_,rfl⟩:=List.mem_map.mp hy
 have:=zl6 (c:=c) (k:=f x) (s:=s) hs.1
 exact Nat.le_trans (show _≤500000 by omega) (by decide)
def Ot (y:T5 (List (List Int)) (List (List Int)) (List Int) (List (List Int)) (List (List Int))):Prop:=Sq y.a.length y.a.length y.a∧y.c.length=y.a.length∧∀ (j:Nat) (row:List Int) (bj:Int),y.a[j]?=some row->y.c[j]?=some bj->bj≠1->¬ Lat.SpL y.d (Lat.vec row)
theorem zqg {xs:List Int} {y:T5 (List (List Int)) (List (List Int)) (List Int) (List (List Int)) (List (List Int))} (hx:xs.length≤63) (e:y=m_law_made xs):Ot y:=by
 subst e
 refine ⟨?_,?_,λj row bj h1 h2 h3=>zlW hx h1 h2 h3⟩ <;>
 ·unfold m_law_made Let
  dsimp only
  have hW:=zpj (b:=decide ((m_law_cell xs (0:Int)/(4:Int))%(16:Int)=(7:Int))) (c:=m_law_cell xs (0:Int)) rfl rfl
  generalize hw:(bif _ then _ else (1:Int)+m_law_cell xs (0:Int)%(4:Int))=w at *
  obtain ⟨W,hWW⟩:∃ W:Nat,w=(W:Int):=⟨w.toNat,by omega⟩
  have hF:=zif (zd2 (cs:=cutD (cutD xs (some (2:Int)) (some (62:Int))) none (some (((((cutD xs (some (2:Int)) (some (62:Int))).length:Nat):Int))/(2:Int)))) hWW hW.1).1
  first
  | (rw [hF.1];exact hF)
  | (rw [hF.1,(ziz (w:=w) (c:=m_law_raw xs (1:Int)) (f:=(7:Int)) (by omega)).1];omega)
theorem zpi {y:T5 (List (List Int)) (List (List Int)) (List Int) (List (List Int)) (List (List Int))} {l w:List Int} (h:zhB y) (h1:Cn y.a.length 20 l) (h2:Cn y.d.length 20 w):zbH l y.d w:=by
 obtain ⟨n,k,q1,q2,q3,q4,q5,q6,q7,q8,q9⟩:=h
 refine ⟨λs hs=>by rw [(q6 s hs).1,h1.1,q1],by rw [h1.1];omega,λp hp z hz=>?_⟩
 have hm:=List.of_mem_zip (a:=p.1) (b:=p.2) hp
 exact Lat.zdH.of (h2.2 _ hm.2) ((q6 _ hm.1).2 z hz) (by decide) (by decide)
theorem zjD {y:T5 (List (List Int)) (List (List Int)) (List Int) (List (List Int)) (List (List Int))} {l w o:List Int} (h:zhB y) (h1:Cn y.a.length 20 l) (h2:Cn y.d.length 20 w) (e:o=m_law_led l y.d w):Cn y.a.length 300 o:=by
 subst e
 obtain ⟨n,k,q1,q2,q3,q4,q5,q6,q7,q8,q9⟩:=h
 have L:=λj=>zeY (sw:=y.d) (way:=w) (l:=l) (j:=j) λs hs=>by rw [(q6 s hs).1,h1.1,q1]
 refine ⟨by rw [(L 0).1,h1.1],Lat.Bit.of λi=>?_⟩
 rw [(L i).2]
 have c:=Lat.zf2 (i:=i) (X:=2^20) (B:=2^160) (xs:=w) (as:=y.d.map Lat.vec) h2.2 (λa ha=>by
  obtain ⟨s,hs,rfl⟩:=List.mem_map.mp ha
  exact ((q6 s hs).2).vec i)
 rw [List.length_map] at c
 have c2:=Nat.le_trans c (Nat.mul_le_mul_right _ (show y.d.length≤11 by omega))
 have v:=h1.2.vec i
 have b1:11*(2^20*2^160)+2^20≤2^300:=by decide +kernel
 omega
theorem zmb {y:T5 (List (List Int)) (List (List Int)) (List Int) (List (List Int)) (List (List Int))} {o:List Int} {c:Int} {p:List Int×Bool} (hO:Ot y) (hn:y.a.length≤8) (ho:Cn y.a.length 300 o) (e:p=m_law_beyond y.a y.c o c):(p.2=false∧p.1=o)∨(p.2=true∧∃ (j:Nat) (row:List Int) (bj:Int),y.a[j]?=some row∧y.c[j]?=some bj∧bj≠1∧p.1=List.map (λ(x:Int×Int)=>(x.1+x.2)) (List.zip o row)):=by
 subst e
 unfold m_law_beyond
 have hS:=zj0 (rows:=y.a) (bs:=y.c) rfl
 show (Let _ _:List Int×Bool).2=false∧(Let _ _:List Int×Bool).1=o∨_
 generalize hks:List.map (λ(x:Int)=>x) (List.filter (λ(x:Int)=>(!decide (ixD y.c x=(1:Int)))) (zaW 0 ((y.a.length:Nat):Int).toNat))=ks at *
 unfold Let
 dsimp only
 cases hb:((decide ((c%(2:Int))=(0:Int)))||(decide (((ks.length:Nat):Int)=(0:Int)))) with
 | true=>exact .inl ⟨rfl,rfl⟩
 | false =>
  have ne:=zlS hb
  have hm:=hS _ (zdx (znT (c:=c) (k:=30) ne))
  refine .inr ⟨rfl,?_⟩
  rw [cond_false]
  generalize ixD ks (m_law_thing c 30 ((ks.length:Nat):Int))=k at *
  obtain ⟨j,rfl⟩:∃ j:Nat,k=(j:Int):=⟨k.toNat,by omega⟩
  have hj:j<y.a.length:=by omega
  have hj2:j<y.c.length:=by rw [hO.2.1];exact hj
  refine ⟨j,y.a[j],y.c[j],List.getElem?_eq_getElem hj,List.getElem?_eq_getElem hj2,?_,?_⟩
  ·have:=hm.2.2
   rwa [zdO (List.getElem?_eq_getElem hj2)] at this
  ·rw [zdO (List.getElem?_eq_getElem hj)]
theorem zp6 {x:List Int} {q:Int} {n b:Nat} (h:Cn n b x):(m_law_spoilt x q).length≤n+1∧Lat.Bit b (m_law_spoilt x q)∧((m_law_spoilt x q).length=n->m_law_spoilt x q=x):=by
 unfold m_law_spoilt
 have e1:cutD x (some (1:Int)) none=x.drop 1:=by
  have:=Lat.zdz (xs:=x) (k:=1)
  exact this
 cases decide (q=(1:Int))
 ·rw [cond_false]
  cases decide (q=(2:Int))
  ·rw [cond_false];exact ⟨by rw [h.1];omega,h.2,λ_=>rfl⟩
  ·rw [cond_true]
   refine ⟨by rw [List.length_append,List.length_singleton,h.1];exact Nat.le_refl _,λy hy=>?_,λz=>?_⟩
   ·rcases List.mem_append.mp hy with hy | hy
    ·exact h.2 y hy
    ·rw [List.mem_singleton.mp hy];exact Nat.zero_le _
   ·rw [List.length_append,List.length_singleton,h.1] at z;omega
 ·rw [cond_true,e1]
  refine ⟨by rw [List.length_drop,h.1];omega,λy hy=>h.2 y (List.mem_of_mem_drop hy),λz=>?_⟩
  rw [List.length_drop,h.1] at z
  have:x.length=0:=by rw [h.1];omega
  rw [List.length_eq_zero_iff.mp this];rfl
theorem ziE {x z:List Int} {q:Int} {n b:Nat} {c:Bool} (h:Cn n b x) (e:z=bif c then m_law_spoilt x q else x):z.length≤n+1∧Lat.Bit b z∧(z.length=n->z=x):=by
 subst e
 cases c
 ·exact ⟨by rw [cond_false,h.1];omega,h.2,λ_=>rfl⟩
 ·exact zp6 h
theorem zom {n:Nat} {o r:List Int} (ho:Cn n 300 o) (hr:r.length=n∧Lat.Bit 300 r):Cn n 301 (List.map (λ(x:Int×Int)=>(x.1+x.2)) (List.zip o r)):=by
 refine ⟨by rw [List.length_map,List.length_zip,ho.1,hr.1];omega,λy hy=>?_⟩
 obtain ⟨z,hz,rfl⟩:=List.mem_map.mp hy
 have hm:=List.of_mem_zip (a:=z.1) (b:=z.2) hz
 have a1:=ho.2 _ hm.1
 have a2:=hr.2 _ hm.2
 have:(2:Nat)^301=2*2^300:=by decide +kernel
 omega
theorem zkj {xs:List Int} {y:T5 (List (List Int)) (List (List Int)) (List Int) (List (List Int)) (List (List Int))} (hx:xs.length≤63) (e:y=m_law_made xs):∀ r∈y.a,r.length=y.a.length∧Lat.Bit 300 r:=by
 subst e
 unfold m_law_made Let
 dsimp only
 have hW:=zpj (b:=decide ((m_law_cell xs (0:Int)/(4:Int))%(16:Int)=(7:Int))) (c:=m_law_cell xs (0:Int)) rfl rfl
 generalize hw:(bif _ then _ else (1:Int)+m_law_cell xs (0:Int)%(4:Int))=w at *
 have hc:=zf5 hx rfl
 generalize cutD xs (some (2:Int)) (some (62:Int))=cs at *
 have hh:=zgW (h:=((cs.length:Nat):Int)/(2:Int)) rfl hc
 obtain ⟨W,hWW⟩:∃ W:Nat,w=(W:Int):=⟨w.toNat,by omega⟩
 have hF:=(zd2 (cs:=cutD cs none (some (((cs.length:Nat):Int)/(2:Int)))) hWW hW.1).1
 rw [hF.1]
 exact λr hr=>⟨(hF.2 r hr).1,((hF.2 r hr).2).mono (by have:=hh.1;omega)⟩
theorem zj3 {y:T5 (List (List Int)) (List (List Int)) (List Int) (List (List Int)) (List (List Int))} {o:List Int} {p:List Int×Bool} (hR:∀ r∈y.a,r.length=y.a.length∧Lat.Bit 300 r) (ho:Cn y.a.length 300 o) (h:(p.2=false∧p.1=o)∨(p.2=true∧∃ (j:Nat) (row:List Int) (bj:Int),y.a[j]?=some row∧y.c[j]?=some bj∧bj≠1∧p.1=List.map (λ(x:Int×Int)=>(x.1+x.2)) (List.zip o row))):Cn y.a.length 301 p.1:=by
 rcases h with ⟨_,h⟩ | ⟨_,j,row,bj,h1,_,_,h⟩
 ·rw [h];exact ⟨ho.1,ho.2.mono (by decide)⟩
 ·rw [h];exact zom ho (hR row (List.mem_of_getElem? h1))
theorem zpn {y:T5 (List (List Int)) (List (List Int)) (List Int) (List (List Int)) (List (List Int))} {b:BookD} {l w o l' o':List Int} {p:List Int×Bool} (h:zhB y) (hO:Ot y) (hR:∀ r∈y.a,r.length=y.a.length∧Lat.Bit 300 r) (hB:zql y b) (h1:Cn y.a.length 20 l) (h2:Cn y.d.length 20 w) (e3:o=m_law_led l y.d w) (h3:Cn y.a.length 300 o)
  (h4:(p.2=false∧p.1=o)∨(p.2=true∧∃ (j:Nat) (row:List Int) (bj:Int),y.a[j]?=some row∧y.c[j]?=some bj∧bj≠1∧p.1=List.map (λ(x:Int×Int)=>(x.1+x.2)) (List.zip o row))) (h5:l'.length≤y.a.length+1∧Lat.Bit 20 l'∧(l'.length=y.a.length->l'=l)) (h6:o'.length≤y.a.length+1∧Lat.Bit 301 o'∧(o'.length=y.a.length->o'=p.1)):G53 b l' o' w p.2:=by
 have hn:=(zh4 h).2.1
 refine ⟨hB.1,h5.2.1.mono (by decide),h6.2.1.mono (by decide),by omega,by omega,by rw [h2.1,hB.2.1],h2.2,λq1 q2=>?_⟩
 rw [hB.2.2] at q1 q2
 have e1:=h5.2.2 (by omega)
 have e2:=h6.2.2 (by omega)
 subst e1 e2
 rcases h4 with ⟨t,h⟩ | ⟨t,j,row,bj,j1,j2,j3,h⟩
 ·rw [t]
  show p.1=m_law_led l' b.swaps w
  rw [h,e3,hB.2.1]
 ·rw [t]
  show m_way_to b (m_less p.1 l')=none
  obtain ⟨n,k1,k2,k3,k4⟩:=hB.1
  have hnn:n=y.a.length:=by have:=hB.2.2;omega
  have hl:∀ s∈b.swaps,s.length=n:=λs hs=>(k4 s hs).1
  have hrow:=hR row (List.mem_of_getElem? j1)
  have hp1:=zj3 (p:=p) hR h3 (.inr ⟨t,j,row,bj,j1,j2,j3,h⟩)
  have hlen:(m_less p.1 l').length=n:=by rw [zfu (by rw [hp1.1,h1.1]),h1.1,hnn]
  cases q:m_way_to b (m_less p.1 l') with
  | none=>rfl
  | some r =>
   exfalso
   obtain ⟨w1,w2,w3⟩:=(ziO k1 hlen hl).2 r q
   refine hO.2.2 j row bj j1 j2 j3 ?_
   rw [← hB.2.1]
   have L:=λi=>zeY (sw:=b.swaps) (way:=w) (l:=l') (j:=i) λs hs=>by rw [hl s hs,h1.1,hnn]
   have hv:∀ i,Lat.vec (m_less p.1 l') i=Lat.comb w (b.swaps.map Lat.vec) i+Lat.vec row i:=λi=>by
    rw [show m_less p.1 l'=Lat.sub p.1 l' from rfl,Lat.zev (by rw [hp1.1,h1.1]),h]
    have:=Lat.zgF (l:=o) (s:=row) (i:=i) (by rw [h3.1,hrow.1])
    have e:Lat.vec (List.map (λ(x:Int×Int)=>(x.1+x.2)) (List.zip o row)) i=Lat.vec o i+Lat.vec row i:=this
    rw [e,e3,← hB.2.1,(L i).2]
    omega
   have s1:∀ u:List Int,Lat.SpL b.swaps (Lat.comb u (b.swaps.map Lat.vec)):=λu=>Lat.zdY λa ha=>by
    obtain ⟨s,hs,rfl⟩:=List.mem_map.mp ha
    exact ⟨s,hs,rfl⟩
   refine (Lat.Sp.lin 1 (-1) (s1 r) (s1 w)).conv λi=>?_
   by_cases hi:i<n
   ·rw [w3 i hi,hv i];omega
   ·have z:∀ u:List Int,Lat.comb u (b.swaps.map Lat.vec) i=0:=λu=>Lat.comb_zero λk x v _ q2=>by
     obtain ⟨s,hs',rfl⟩:=List.mem_map.mp (List.mem_of_getElem? q2)
     rw [Lat.zct (by rw [hl s hs'];omega)];simp
    rw [z,z,Lat.zct (l:=row) (by rw [hrow.1];omega)];rfl
def m_law (P0:(List Int)):Bool :=
 (Let (m_law_made P0) (λ(p271:(T5 (List (List Int)) (List (List Int)) (List Int) (List (List Int)) (List (List Int)))) =>
 (Let (m_book_of ((p271.a.length:Nat):Int) (List.map (λ(x272:(List Int))=>x272) p271.d)) (λ(v275:BookD) =>
 (zil (zbi (λ(s276:Unit) (x277:Int)=>(((Let (List.map (λ(x281:Int)=>(m_law_count x277 x281 ((5:Int)*((10:Int)^(5:Int).toNat)))) (zaW 0 ((p271.a.length:Nat):Int).toNat)) (λ(v284:(List Int)) =>
 (Let (List.map (λ(x285:Int)=>(m_law_count x277 ((10:Int)+x285) (20:Int))) (zaW 0 ((p271.d.length:Nat):Int).toNat)) (λ(v288:(List Int)) =>
 (Let (m_law_led v284 p271.d v288) (λ(v289:(List Int)) =>
 (Let (m_law_beyond p271.a p271.c v289 x277) (λ(p290:((List Int)×Bool)) =>
 (Let (bif (decide (((x277/(2:Int))%(4:Int))=(1:Int))) then (m_law_spoilt v284 ((x277/(8:Int))%(3:Int))) else v284) (λ(v292:(List Int)) =>
 (Let (bif (decide (((x277/(2:Int))%(4:Int))=(1:Int))) then (m_law_spoilt p290.1 ((x277/(24:Int))%(3:Int))) else p290.1) (λ(v293:(List Int)) =>
 (bif (!(m_law_good v275 v292 v293 v288 p290.2)) then (Sum.inr false)
 else (Sum.inl ()))))))))))))))):(Unit) ⊕ Bool)) () ((cutD P0 (some (2:Int)) (some ((4:Int)+((16:Int)/(((p271.d.length:Nat):Int)+(1:Int))))))++[(0:Int),(1:Int)])) (λ(r295:Unit) =>
 (decide (v275.swaps=p271.d))) (λb=>b))))))
def zia (P0:(List Int)):Prop:=P0.length≤63
def zmq (K:W.Frag) (A:Adr):Sp:=Spv (ι:=(List Int)) (λx=>[dQ K (List.map dI x)]) (λx=>zia x) (λx=>.va true (dB (m_law x)))
theorem zcU:FnScope ["_law_script","_law_rows","_law_duals","_law_bottoms_here","_law_swaps","_law_trips","_law_book","_law_cell_here","_law_one","_law_way","_law_other","_law_beyond_here"] ["_law_script"] (defScope zfo):=⟨rfl,rfl,rfl,by decide +kernel,rfl,by decide +kernel,by decide +kernel⟩
theorem zn5 (F:Fun K "law" "law" zfo f fd) (T:Txt K mg A) (G_law_beyond:Callee P w K mg base (CXE P w) 2 "_law_beyond" ["_law_rows","_law_bottoms_here","_law_other","_law_cell_here"] (zdA K A)) (G_law_count:Callee P w K mg base (CXE P w) 2 "_law_count" ["_law_cell_here","_law_k","_law_size"] (zdZ K A)) (G_law_good:Callee P w K mg base (CXE P w) 11 "_law_good" ["_law_book","_law_one","_law_other","_law_way","_law_beyond_here"] (zex K A)) (G_law_led:Callee P w K mg base (CXE P w) 1 "_law_led" ["_law_basket","_law_swaps","_law_way"] (zee K A)) (G_law_made:Callee P w K mg base (CXE P w) 3 "_law_made" ["_law_script"] (zey K A)) (G_law_spoilt:Callee P w K mg base (CXE P w) 1 "_law_spoilt" ["_law_basket","_law_way"] (zdF K A)) (G_book_of:Callee P w K mg base (CXE P w) 3 "book_of" ["many","swaps"] (ze4 K A)):FnOk P w K mg base (CXE P w) 12 f fd ["_law_script"] (zmq K A):=by
 refine F.okV zcU (λ_=>rfl) (λcdv Ar outer s H E P0 hr hp=>?_)
 have hu:=hr.units
 replace hp:zia P0:=hp
 unfold zia at hp
 refine ⟨_,(zac (zep (pe_fn G_law_made (hr.mono (by decide)) rfl passE (pa_cons (pv 0) pa_nil)) (zaR (K:=K) (n:=5) rfl rfl (zas (pg_name (i:=1) zcU.nd rfl (Or.inl rfl) (Or.inl rfl)) (zas (pg_name (i:=2) zcU.nd rfl (Or.inl rfl) (Or.inl rfl)) (zas (pg_name (i:=3) zcU.nd rfl (Or.inl rfl) (Or.inl rfl)) (zas (pg_name (i:=4) zcU.nd rfl (Or.inl rfl) (Or.inl rfl)) (zas (pg_name (i:=5) zcU.nd rfl (Or.inl rfl) (Or.inl rfl)) zbe)))))))
 (zac (zak (i:=6) zcU.nd rfl (Or.inl rfl) (pe_fn G_book_of (hr.mono (by decide)) rfl passE (pa_cons (pe_callB (call_len_K (K:=K) rfl) rfl T.len PySem.boot_len (pa_cons (pv 1) pa_nil)) (pa_cons (pe_comp rfl (.of (osc:=(defScope zfo)) (N:=["_law_script","_law_rows","_law_duals","_law_bottoms_here","_law_swaps","_law_trips","_law_book","_law_cell_here","_law_one","_law_way","_law_other","_law_beyond_here"]) (own:=["_law_swap"]) (fvn:=[]) (fv:=[]) rfl rfl (by decide +kernel)) (pi_list_K (K:=K) rfl (pv 4)) (λ_ _ _ _ _=>⟨(pg_name (i:=0) (show (["_law_swap"]:List Str).Nodup by decide +kernel) rfl (Or.inl rfl) (Or.inr rfl)),pts_nil,(zbA (zbj (K:=K) rfl) rfl T.list PyProof.Rows.boot_list (pa_cons (pv 0) pa_nil))⟩)) pa_nil))))
 (zac (zcx PassesOwn.never rfl (pi_list_K (K:=K) rfl (zam zb4 (zbh (zaT (K:=K) rfl) (pv 0) (zbv zaf) (zbv (zam zbt zaf (zam zaS zaf (zam zbt (pe_callB (call_len_K (K:=K) rfl) rfl T.len PySem.boot_len (pa_cons (pv 4) pa_nil)) zaf))))) (za2 (pa_cons zaf (pa_cons zaf pa_nil))))) (pg_name (i:=7) zcU.nd rfl (Or.inr rfl) (Or.inl rfl))
 (zac (zdX (i:=8) rfl zcU.nd rfl rfl (.of (osc:=(defScope zfo)) (N:=["_law_script","_law_rows","_law_duals","_law_bottoms_here","_law_swaps","_law_trips","_law_book","_law_cell_here","_law_one","_law_way","_law_other","_law_beyond_here"]) (own:=["_law_k"]) (fvn:=["_law_cell_here"]) (fv:=[7]) rfl rfl (by decide +kernel)) (zbC rfl T.range (pa_cons (pe_callB (call_len_K (K:=K) rfl) rfl T.len PySem.boot_len (pa_cons (pv 1) pa_nil)) pa_nil)) (λ_ _ _ _ _=>⟨(pg_name (i:=0) (show (["_law_k","_law_cell_here"]:List Str).Nodup by decide +kernel) rfl (Or.inl rfl) (Or.inr rfl)),pts_nil,(pe_fn G_law_count (hr.mono (by decide)) rfl passE (pa_cons (pv 1) (pa_cons (pv 0) (pa_cons (zam zbb zaf (zam zmA zaf zaf)) pa_nil))))⟩))
 (zac (zdX (i:=9) rfl zcU.nd rfl rfl (.of (osc:=(defScope zfo)) (N:=["_law_script","_law_rows","_law_duals","_law_bottoms_here","_law_swaps","_law_trips","_law_book","_law_cell_here","_law_one","_law_way","_law_other","_law_beyond_here"]) (own:=["_law_k"]) (fvn:=["_law_cell_here"]) (fv:=[7]) rfl rfl (by decide +kernel)) (zbC rfl T.range (pa_cons (pe_callB (call_len_K (K:=K) rfl) rfl T.len PySem.boot_len (pa_cons (pv 4) pa_nil)) pa_nil)) (λ_ _ _ _ _=>⟨(pg_name (i:=0) (show (["_law_k","_law_cell_here"]:List Str).Nodup by decide +kernel) rfl (Or.inl rfl) (Or.inr rfl)),pts_nil,(pe_fn G_law_count (hr.mono (by decide)) rfl passE (pa_cons (pv 1) (pa_cons (zam zbt zaf (pv 0)) (pa_cons zaf pa_nil))))⟩))
 (zac (zak (i:=10) zcU.nd rfl (Or.inl rfl) (pe_fn G_law_led (hr.mono (by decide)) rfl passE (pa_cons (pv 8) (pa_cons (pv 4) (pa_cons (pv 9) pa_nil)))))
 (zac (zep (pe_fn G_law_beyond (hr.mono (by decide)) rfl passE (pa_cons (pv 1) (pa_cons (pv 3) (pa_cons (pv 10) (pa_cons (pv 7) pa_nil))))) (zaR (K:=K) (n:=2) rfl rfl (zas (pg_name (i:=10) zcU.nd rfl (Or.inl rfl) (Or.inl rfl)) (zas (pg_name (i:=11) zcU.nd rfl (Or.inl rfl) (Or.inl rfl)) zbe))))
 (zac (zbw (pt_cmpR op_eq (zam zbO (zam zaS (pv 7) zaf) zaf) zaf (nomark _))
 (zac (zak (i:=8) zcU.nd rfl (Or.inl rfl) (pe_fn G_law_spoilt (hr.mono (by decide)) rfl passE (pa_cons (pv 8) (pa_cons (zam zbO (zam zaS (pv 7) zaf) zaf) pa_nil))))
 (zac (zak (i:=10) zcU.nd rfl (Or.inl rfl) (pe_fn G_law_spoilt (hr.mono (by decide)) rfl passE (pa_cons (pv 10) (pa_cons (zam zbO (zam zaS (pv 7) zaf) zaf) pa_nil))))
 zae))
 zae)
 (zac (zbw (zio (pt_val (pe_fn G_law_good (hr.mono (by decide)) rfl passE (pa_cons (pv 6) (pa_cons (pv 8) (pa_cons (pv 10) (pa_cons (pv 9) (pa_cons (pv 11) pa_nil))))))))
 (zac (zav zgY)
 zae)
 zae)
 zae)))))))
 (zac (zav (pe_cmpR (op_eq_K (K:=K) rfl hu) (zb2 (K:=K) rfl (pv 6) rfl) (pv 4) (nomark _)))
 zae)))),.inl ?_⟩
 show L2.Run _ ([.va false (dQ K (List.map dI P0)),.no,.no,.no,.no,.no,.no,.no,.no,.no,.no,.no]:L2.Ctx) _ ((λ(r:Bool)=>Oc.rt true (dB r)) (m_law P0))
 unfold m_law
 exact (zhA (m:=true) (x:=(m_law_made P0)) (λ(p271:(T5 (List (List Int)) (List (List Int)) (List Int) (List (List Int)) (List (List Int))))=>dL (List.map lI p271.a)) (λ(p271:(T5 (List (List Int)) (List (List Int)) (List Int) (List (List Int)) (List (List Int))))=>dL (List.map lI p271.b)) (λ(p271:(T5 (List (List Int)) (List (List Int)) (List Int) (List (List Int)) (List (List Int))))=>dL (List.map dI p271.c)) (λ(p271:(T5 (List (List Int)) (List (List Int)) (List Int) (List (List Int)) (List (List Int))))=>dL (List.map lI p271.d)) (λ(p271:(T5 (List (List Int)) (List (List Int)) (List Int) (List (List Int)) (List (List Int))))=>dL (List.map lI p271.e)) (λ(r:Bool)=>Oc.rt true (dB r)) (zah (x:=P0) (zab (zaa (i:=0) rfl) zad) rfl (by show zc4 P0;exact hp) rfl) (λp271 hp271 =>
 have hM:=zqr hp hp271;have hZ:=zh4 hM;have hO:=zqg hp hp271;have hR:=zkj hp hp271;(zaj (m:=true) (x:=(m_book_of ((p271.a.length:Nat):Int) (List.map (λ(x272:(List Int))=>x272) p271.d))) (zaU A.Book) (λ(r:Bool)=>Oc.rt true (dB r)) (zah (x:=(((p271.a.length:Nat):Int),(List.map (λ(x272:(List Int))=>x272) p271.d))) (zab (zaG (f:=lI) (xs:=p271.a) (Ev.old (Ev.weak (K:=K) (zaa (i:=1) rfl)))) (zab (Ev.weak (K:=K) (EvO.ev (EvO.conv (zbN (g:=(λ(x272:(List Int))=>dL (List.map dI x272))) (zbX (m:=true) lI (xs:=p271.d) (Ev.weak (K:=K) (zaa (i:=4) rfl))) (by exact zai (by omega)) ⟨by decide,by decide⟩ (λi273 x272 hx274=>have v274:=List.mem_of_getElem? hx274;(EvO.ev (EvO.anyI (m:=true) (zdP (Ev.weak (K:=K) (zaa (i:=0) rfl))))))) (by first | (rw [List.map_map];rfl) | (simp only [cond_true,cond_false];rw [List.map_map];rfl))))) zad)) rfl (by show zcX ((p271.a.length:Nat):Int) (List.map (λ(x272:(List Int))=>x272) p271.d);rw [zis];exact znl hM) rfl) (λv275 hv275 =>
 have hB:=zmG hM hv275;(zft (s0:=()) (λ(s276:Unit)=>([.va false (dQ K (List.map dI P0)),.va true (dL (List.map lI p271.a)),.va true (dL (List.map lI p271.b)),.va true (dL (List.map dI p271.c)),.va true (dL (List.map lI p271.d)),.va true (dL (List.map lI p271.e)),.va true (zaU A.Book v275),.no,.no,.no,.no,.no]:L2.Ctx)) (λ(r:Bool)=>Oc.rt true (dB r)) (λb=>b) (λ(s276:Unit) (x277:Int)=>(((Let (List.map (λ(x281:Int)=>(m_law_count x277 x281 ((5:Int)*((10:Int)^(5:Int).toNat)))) (zaW 0 ((p271.a.length:Nat):Int).toNat)) (λ(v284:(List Int)) =>
 (Let (List.map (λ(x285:Int)=>(m_law_count x277 ((10:Int)+x285) (20:Int))) (zaW 0 ((p271.d.length:Nat):Int).toNat)) (λ(v288:(List Int)) =>
 (Let (m_law_led v284 p271.d v288) (λ(v289:(List Int)) =>
 (Let (m_law_beyond p271.a p271.c v289 x277) (λ(p290:((List Int)×Bool)) =>
 (Let (bif (decide (((x277/(2:Int))%(4:Int))=(1:Int))) then (m_law_spoilt v284 ((x277/(8:Int))%(3:Int))) else v284) (λ(v292:(List Int)) =>
 (Let (bif (decide (((x277/(2:Int))%(4:Int))=(1:Int))) then (m_law_spoilt p290.1 ((x277/(24:Int))%(3:Int))) else p290.1) (λ(v293:(List Int)) =>
 (bif (!(m_law_good v275 v292 v293 v288 p290.2)) then (Sum.inr false)
 else (Sum.inl ()))))))))))))))):(Unit) ⊕ Bool)) (λ_ _=>True) (λb=>.inl ⟨_,_,rfl⟩) (zbX (m:=true) dI (xs:=((cutD P0 (some (2:Int)) (some ((4:Int)+((16:Int)/(((p271.d.length:Nat):Int)+(1:Int))))))++[(0:Int),(1:Int)])) (Ev.weak (K:=K) (EvO.ev (zbc (f:=dI) (xs:=(cutD P0 (some (2:Int)) (some ((4:Int)+((16:Int)/(((p271.d.length:Nat):Int)+(1:Int))))))) (ys:=[(0:Int),(1:Int)]) (EvO.ev (EvO.anyI (m:=false) (zbT (f:=dI) (xs:=P0) (zaa (i:=0) rfl) (zaX zaw) (zaX (zaD (x:=(4:Int)) (y:=((16:Int)/(((p271.d.length:Nat):Int)+(1:Int)))) zaw (zau (x:=(16:Int)) (y:=(((p271.d.length:Nat):Int)+(1:Int))) zaw (zaD (x:=((p271.d.length:Nat):Int)) (y:=(1:Int)) (zaG (f:=lI) (xs:=p271.d) (Ev.old (Ev.weak (K:=K) (zaa (i:=4) rfl)))) zaw) (by exact ⟨by omega,zfO (k:=10) (by omega) (by decide) (by decide)⟩))))))) (EvO.ev (zbD (zab zaw (zab zaw zad)) (by show 2≤sizeLine;decide))) (by exact zmN hp))))) (.eq (.eq (.eq (.eq (.eq (.eq (.eq (.eq (.eq (.eq (.eq (.eq .nil)))))))))))) trivial (λi278 x277 s276 hx279 hI280=>have v279:=List.mem_of_getElem? hx279;⟨(λ_ _=>trivial),
 (zaj (m:=true) (x:=(List.map (λ(x281:Int)=>(m_law_count x277 x281 ((5:Int)*((10:Int)^(5:Int).toNat)))) (zaW 0 ((p271.a.length:Nat):Int).toNat))) lI (zet (λ(s276:Unit)=>([.va false (dQ K (List.map dI P0)),.va true (dL (List.map lI p271.a)),.va true (dL (List.map lI p271.b)),.va true (dL (List.map dI p271.c)),.va true (dL (List.map lI p271.d)),.va true (dL (List.map lI p271.e)),.va true (zaU A.Book v275),.no,.no,.no,.no,.no]:L2.Ctx)) (λ(r:Bool)=>Oc.rt true (dB r))) (EvO.ev (EvO.conv (zbN (g:=(λ(x281:Int)=>dI (m_law_count x277 x281 ((5:Int)*((10:Int)^(5:Int).toNat))))) (zdb (m:=true) (n:=((p271.a.length:Nat):Int)) (zaG (f:=lI) (xs:=p271.a) (Ev.old (Ev.weak (K:=K) (zaa (i:=1) rfl)))) (by refine ⟨?_,?_⟩<;>omega)) (by exact zai (by rw [zaC];omega)) ⟨by decide,by decide⟩ (λi282 x281 hx283=>have v283:=zbf hx283;(Ev.any (m:=true) (zah (x:=(x277,x281,((5:Int)*((10:Int)^(5:Int).toNat)))) (zab (Ev.any (m:=true) (zaa (i:=1) rfl)) (zab (Ev.any (m:=true) (zaa (i:=0) rfl)) (zab (zau (x:=(5:Int)) (y:=((10:Int)^(5:Int).toNat)) zaw (zau (x:=(10:Int)) (y:=(5:Int)) zaw zaw (by exact ⟨by decide,by decide,by decide⟩)) (by exact .inl ⟨by decide,by decide⟩)) zad))) rfl (by show zbR x277 x281 ((5:Int)*((10:Int)^(5:Int).toNat));exact ⟨by omega,by omega,by decide +kernel,by decide +kernel⟩) rfl)))) (by first | (rw [List.map_map];rfl) | (simp only [cond_true,cond_false];rw [List.map_map];rfl)))) (λv284 hv284 =>
 have h1:=ziM (f:=λx=>x) (by decide +kernel) hv284;(zaj (m:=true) (x:=(List.map (λ(x285:Int)=>(m_law_count x277 ((10:Int)+x285) (20:Int))) (zaW 0 ((p271.d.length:Nat):Int).toNat))) lI (zet (λ(s276:Unit)=>([.va false (dQ K (List.map dI P0)),.va true (dL (List.map lI p271.a)),.va true (dL (List.map lI p271.b)),.va true (dL (List.map dI p271.c)),.va true (dL (List.map lI p271.d)),.va true (dL (List.map lI p271.e)),.va true (zaU A.Book v275),.no,.no,.no,.no,.no]:L2.Ctx)) (λ(r:Bool)=>Oc.rt true (dB r))) (EvO.ev (EvO.conv (zbN (g:=(λ(x285:Int)=>dI (m_law_count x277 ((10:Int)+x285) (20:Int)))) (zdb (m:=true) (n:=((p271.d.length:Nat):Int)) (zaG (f:=lI) (xs:=p271.d) (Ev.old (Ev.weak (K:=K) (zaa (i:=4) rfl)))) (by refine ⟨?_,?_⟩<;>omega)) (by exact zai (by rw [zaC];omega)) ⟨by decide,by decide⟩ (λi286 x285 hx287=>have v287:=zbf hx287;(Ev.any (m:=true) (zah (x:=(x277,((10:Int)+x285),(20:Int))) (zab (Ev.any (m:=true) (zaa (i:=1) rfl)) (zab (zaD (x:=(10:Int)) (y:=x285) zaw (Ev.any (m:=true) (zaa (i:=0) rfl))) (zab zaw zad))) rfl (by show zbR x277 ((10:Int)+x285) (20:Int);exact ⟨by omega,by omega,by decide,by decide⟩) rfl)))) (by first | (rw [List.map_map];rfl) | (simp only [cond_true,cond_false];rw [List.map_map];rfl)))) (λv288 hv288 =>
 have h2:=ziM (f:=λx=>10+x) (by decide) hv288;(zaj (m:=true) (x:=(m_law_led v284 p271.d v288)) lI (zet (λ(s276:Unit)=>([.va false (dQ K (List.map dI P0)),.va true (dL (List.map lI p271.a)),.va true (dL (List.map lI p271.b)),.va true (dL (List.map dI p271.c)),.va true (dL (List.map lI p271.d)),.va true (dL (List.map lI p271.e)),.va true (zaU A.Book v275),.no,.no,.no,.no,.no]:L2.Ctx)) (λ(r:Bool)=>Oc.rt true (dB r))) (zah (x:=(v284,p271.d,v288)) (zab (Ev.old (Ev.weak (K:=K) (zaa (i:=8) rfl))) (zab (Ev.old (Ev.weak (K:=K) (zaa (i:=4) rfl))) (zab (Ev.old (Ev.weak (K:=K) (zaa (i:=9) rfl))) zad))) rfl (by show zbH v284 p271.d v288;exact zpi hM h1 h2) rfl) (λv289 hv289 =>
 have e3:=hv289;have h3:=zjD hM h1 h2 hv289;(zdT (m:=false) (x:=(m_law_beyond p271.a p271.c v289 x277)) (λ(p290:((List Int)×Bool))=>dL (List.map dI p290.1)) (λ(p290:((List Int)×Bool))=>dB p290.2) (zet (λ(s276:Unit)=>([.va false (dQ K (List.map dI P0)),.va true (dL (List.map lI p271.a)),.va true (dL (List.map lI p271.b)),.va true (dL (List.map dI p271.c)),.va true (dL (List.map lI p271.d)),.va true (dL (List.map lI p271.e)),.va true (zaU A.Book v275),.no,.no,.no,.no,.no]:L2.Ctx)) (λ(r:Bool)=>Oc.rt true (dB r))) (zah (x:=(p271.a,p271.c,v289,x277)) (zab (Ev.old (Ev.weak (K:=K) (zaa (i:=1) rfl))) (zab (Ev.old (Ev.weak (K:=K) (zaa (i:=3) rfl))) (zab (Ev.old (zaa (i:=10) rfl)) (zab (Ev.any (m:=true) (zaa (i:=7) rfl)) zad)))) rfl (by show zch p271.a p271.c v289 x277;exact ⟨_,hZ.2.1,hO.1,hO.2.1,h3.1⟩) rfl) (λp290 hp290 =>
 have h4:=zmb hO hZ.2.1 h3 hp290;have h7:=zj3 hR h3 h4;(zcD (b:=(decide (((x277/(2:Int))%(4:Int))=(1:Int)))) (λbb=>([.va false (dQ K (List.map dI P0)),.va true (dL (List.map lI p271.a)),.va true (dL (List.map lI p271.b)),.va true (dL (List.map dI p271.c)),.va true (dL (List.map lI p271.d)),.va true (dL (List.map lI p271.e)),.va true (zaU A.Book v275),.va true (dI x277),.va false (dL (List.map dI (bif bb then (m_law_spoilt v284 ((x277/(8:Int))%(3:Int))) else v284))),.va true (dL (List.map dI v288)),.va false (dL (List.map dI (bif bb then (m_law_spoilt p290.1 ((x277/(24:Int))%(3:Int))) else p290.1))),.va false (dB p290.2)]:L2.Ctx)) (zao (zds (x:=((x277/(2:Int))%(4:Int))) (y:=(1:Int)) (zau (x:=(x277/(2:Int))) (y:=(4:Int)) (zau (x:=x277) (y:=(2:Int)) (Ev.any (m:=true) (zaa (i:=7) rfl)) zaw (by exact ⟨by omega,zfO (k:=10) (by omega) (by decide) (by decide)⟩)) zaw (by decide)) zaw)) (λh291=>(zbd (m:=false) (zah (x:=(v284,((x277/(8:Int))%(3:Int)))) (zab (Ev.old (zaa (i:=8) rfl)) (zab (zau (x:=(x277/(8:Int))) (y:=(3:Int)) (zau (x:=x277) (y:=(8:Int)) (Ev.any (m:=true) (zaa (i:=7) rfl)) zaw (by exact ⟨by omega,zfO (k:=10) (by omega) (by decide) (by decide)⟩)) zaw (by decide)) zad)) rfl (by show zbE v284 ((x277/(8:Int))%(3:Int));show _≤1000;rw [h1.1];omega) rfl)
 (zbd (m:=false) (zah (x:=(p290.1,((x277/(24:Int))%(3:Int)))) (zab (zaa (i:=10) rfl) (zab (zau (x:=(x277/(24:Int))) (y:=(3:Int)) (zau (x:=x277) (y:=(24:Int)) (Ev.any (m:=true) (zaa (i:=7) rfl)) zaw (by exact ⟨by omega,zfO (k:=10) (by omega) (by decide) (by decide)⟩)) zaw (by decide)) zad)) rfl (by show zbE p290.1 ((x277/(24:Int))%(3:Int));show _≤1000;rw [h7.1];omega) rfl)
 (zar (.eq (.eq (.eq (.eq (.eq (.eq (.eq (.eq (.eq (.eq (.eq (.eq .nil)))))))))))))))) (λh291=>(zar (.eq (.eq (.eq (.eq (.eq (.eq (.eq (.eq (.old (.eq (.eq (.eq .nil))))))))))))))
 (zce (x:=(bif (decide (((x277/(2:Int))%(4:Int))=(1:Int))) then (m_law_spoilt v284 ((x277/(8:Int))%(3:Int))) else v284)) (λv292=>([.va false (dQ K (List.map dI P0)),.va true (dL (List.map lI p271.a)),.va true (dL (List.map lI p271.b)),.va true (dL (List.map dI p271.c)),.va true (dL (List.map lI p271.d)),.va true (dL (List.map lI p271.e)),.va true (zaU A.Book v275),.va true (dI x277),.va false (dL (List.map dI v292)),.va true (dL (List.map dI v288)),.va false (dL (List.map dI (bif (decide (((x277/(2:Int))%(4:Int))=(1:Int))) then (m_law_spoilt p290.1 ((x277/(24:Int))%(3:Int))) else p290.1))),.va false (dB p290.2)]:L2.Ctx)) (zet (λ(s276:Unit)=>([.va false (dQ K (List.map dI P0)),.va true (dL (List.map lI p271.a)),.va true (dL (List.map lI p271.b)),.va true (dL (List.map dI p271.c)),.va true (dL (List.map lI p271.d)),.va true (dL (List.map lI p271.e)),.va true (zaU A.Book v275),.no,.no,.no,.no,.no]:L2.Ctx)) (λ(r:Bool)=>Oc.rt true (dB r))) (λv292 hv292 =>
 have h5:=ziE h1 hv292;(zce (x:=(bif (decide (((x277/(2:Int))%(4:Int))=(1:Int))) then (m_law_spoilt p290.1 ((x277/(24:Int))%(3:Int))) else p290.1)) (λv293=>([.va false (dQ K (List.map dI P0)),.va true (dL (List.map lI p271.a)),.va true (dL (List.map lI p271.b)),.va true (dL (List.map dI p271.c)),.va true (dL (List.map lI p271.d)),.va true (dL (List.map lI p271.e)),.va true (zaU A.Book v275),.va true (dI x277),.va false (dL (List.map dI v292)),.va true (dL (List.map dI v288)),.va false (dL (List.map dI v293)),.va false (dB p290.2)]:L2.Ctx)) (zet (λ(s276:Unit)=>([.va false (dQ K (List.map dI P0)),.va true (dL (List.map lI p271.a)),.va true (dL (List.map lI p271.b)),.va true (dL (List.map dI p271.c)),.va true (dL (List.map lI p271.d)),.va true (dL (List.map lI p271.e)),.va true (zaU A.Book v275),.no,.no,.no,.no,.no]:L2.Ctx)) (λ(r:Bool)=>Oc.rt true (dB r))) (λv293 hv293 =>
 have h6:=ziE h7 hv293;(zaB (b:=(!(m_law_good v275 v292 v293 v288 p290.2))) (zet (λ(s276:Unit)=>([.va false (dQ K (List.map dI P0)),.va true (dL (List.map lI p271.a)),.va true (dL (List.map lI p271.b)),.va true (dL (List.map dI p271.c)),.va true (dL (List.map lI p271.d)),.va true (dL (List.map lI p271.e)),.va true (zaU A.Book v275),.no,.no,.no,.no,.no]:L2.Ctx)) (λ(r:Bool)=>Oc.rt true (dB r))) (zg3 (zeu (Ev.any (m:=true) (zah (x:=(v275,v292,v293,v288,p290.2)) (zab (Ev.old (zaa (i:=6) rfl)) (zab (zaa (i:=8) rfl) (zab (zaa (i:=10) rfl) (zab (Ev.old (Ev.weak (K:=K) (zaa (i:=9) rfl))) (zab (Ev.any (m:=false) (zaa (i:=11) rfl)) zad))))) rfl (by show zc1 v275 v292 v293 v288 p290.2;exact zpn hM hO hR hB h1 h2 e3 h3 h4 h5 h6) rfl)))) (λh294=>(zan (zag (zap zaw)))) (λh294 =>
 (zal (zar (.eq (.eq (.eq (.eq (.eq (.eq (.eq (.no (.no (.no (.no (.no .nil)))))))))))))))))))))))))))))⟩) (λr295 hr295 hI =>
 (zag (zap (zgk (n:=1) (neg:=false) (xs:=v275.swaps) (ys:=p271.d) (EqD.list EqD.int) (Ev.old (Ev.weak (K:=K) (zdU (zaa (i:=6) rfl) T.Book_cl T.Book_swaps rfl))) (Ev.old (Ev.weak (K:=K) (zaa (i:=4) rfl))))))))))))
theorem zlu (xs:List Int) (hp:xs.length≤63):m_law xs=true:=by
 unfold m_law
 have hM:=zju hp
 have hO:=zqg hp rfl
 have hR:=zkj hp rfl
 show Let (m_law_made xs) _=true
 unfold Let
 dsimp only
 generalize m_law_made xs=y at *
 have hB:=zmG hM rfl
 generalize m_book_of ((y.a.length:Nat):Int) (List.map (λ(x:List Int)=>x) y.d)=b at *
 have hZ:=zh4 hM
 have e5:(0:Int)≤((5:Int)*((10:Int)^(5:Int).toNat))∧((5:Int)*((10:Int)^(5:Int).toNat))≤500000:=by decide +kernel
 rw [zgi λc _=>by
  have h1:=ziM (c:=c) (f:=λx=>x) (n:=y.a.length) e5 rfl
  have h2:=ziM (c:=c) (s:=20) (f:=λx=>10+x) (n:=y.d.length) (by decide) rfl
  have h3:=zjD hM h1 h2 rfl
  have h4:=zmb (c:=c) hO hZ.2.1 h3 rfl
  have g:=zph (zpn hM hO hR hB h1 h2 rfl h3 h4 (ziE (q:=c/(8:Int)%(3:Int)) (c:=decide ((c/(2:Int))%(4:Int)=(1:Int))) h1 rfl) (ziE (q:=c/(24:Int)%(3:Int)) (c:=decide ((c/(2:Int))%(4:Int)=(1:Int))) (zj3 hR h3 h4) rfl))
  rw [g];rfl]
 show decide (b.swaps=y.d)=true
 rw [hB.2.1]
 simp
def zlf (K:W.Frag):Sp:=λvs H Q _=>∃ (a:Addr) (ns:List Int),vs=[.ref a]∧SqL K H a (ns.map V.int)∧ns.length≤63∧∀ H',Q (.bl true) H'
theorem zpo {K:W.Frag} {A:Adr} {vs:List V} {H:Hp} {Q:VK} {E:XK} (h:zlf K vs H Q E):zmq K A vs H Q E:=by
 obtain ⟨a,ns,rfl,hS,hl,q⟩:=h
 refine ⟨ns,H,Same.refl _,.cons ⟨a,_,rfl,hS,?_⟩ .nil,hl,λv F' H' _ hv=>?_⟩
 ·clear hS hl
  induction ns with
  | nil=>exact .nil
  | cons n ns ih=>exact .cons rfl ih
 ·have hv:v=.bl (m_law ns):=hv
  rw [hv,zlu ns hl]
  exact q _
theorem all_mk {l:W.OpenLaw} {w:World} {K:W.Frag} {h:Heap} {mg:Str->Option Value} {fa f0 f1 f2 f3 f4 f5 f6 f7 f8 f9 f10 f11 f12 f13 f14 f15 f16 f17 f18 f19 f20 f21 f22 f23 f24 f25 f26 f27 f28 f29 f30 f31 f32 f33 f34 f35 f36 f37 f38 f39 f40 C_Book K_BadBasket K_BadBaskets K_BadNames K_BadRest K_BadRoad K_BadScale K_BadSwap K_BadWares K_Endless K_NoBook K_NoLine K_NoName K_NoSwap K_NotAlike K_NotKept K_OtherBook K_OtherWares K_SwapError K_TooGreat K_TooMany:Addr} (X:K.In h) (G:h.Ns mainGlobals mg) (hfa:mg "law"=some (.ref fa))
  {od0 an0 od1 an1 od2 an2 od3 an3 od4 an4 od5 an5 od6 an6 od7 an7 od8 an8 od9 an9 od10 an10 od11 an11 od12 an12 od13 an13 od14 an14 od15 an15 od16 an16 od17 an17 od18 an18 od19 an19 od20 an20 od21 an21 od22 an22 od23 an23 od24 an24 od25 an25 od26 an26 od27 an27 od28 an28 od29 an29 od30 an30 od31 an31 od32 an32 od33 an33 od34 an34 od35 an35 od36 an36 od37 an37 od38 an38 od39 an39 od40 an40:Option Addr} {sl0 sl1 sl2 sl3 sl4 sl5 sl6 sl7 sl8 sl9 sl10 sl11 sl12 sl13 sl14 sl15 sl16 sl17 sl18 sl19 sl20 sl21 sl22 sl23 sl24 sl25 sl26 sl27 sl28 sl29 sl30 sl31 sl32 sl33 sl34 sl35 sl36 sl37 sl38 sl39 sl40:Array (Option Value)} {oc0 kV0 dc0 pm0 cd0 ct0 oc1 kV1 dc1 pm1 cd1 ct1 oc2 kV2 dc2 pm2 cd2 ct2 oc3 kV3 dc3 pm3 cd3 ct3 oc4 kV4 dc4 pm4 cd4 ct4 oc5 kV5 dc5 pm5 cd5 ct5 oc6 kV6 dc6 pm6 cd6 ct6 oc7 kV7 dc7 pm7 cd7 ct7 oc8 kV8 dc8 pm8 cd8 ct8 oc9 kV9 dc9 pm9 cd9 ct9 oc10 kV10 dc10 pm10 cd10 ct10 oc11 kV11 dc11 pm11 cd11 ct11 oc12 kV12 dc12 pm12 cd12 ct12 oc13 kV13 dc13 pm13 cd13 ct13 oc14 kV14 dc14 pm14 cd14 ct14 oc15 kV15 dc15 pm15 cd15 ct15 oc16 kV16 dc16 pm16 cd16 ct16 oc17 kV17 dc17 pm17 cd17 ct17 oc18 kV18 dc18 pm18 cd18 ct18 oc19 kV19 dc19 pm19 cd19 ct19 oc20 kV20 dc20 pm20 cd20 ct20 oc21 kV21 dc21 pm21 cd21 ct21 oc22 kV22 dc22 pm22 cd22 ct22 oc23 kV23 dc23 pm23 cd23 ct23 oc24 kV24 dc24 pm24 cd24 ct24 oc25 kV25 dc25 pm25 cd25 ct25 oc26 kV26 dc26 pm26 cd26 ct26 oc27 kV27 dc27 pm27 cd27 ct27 oc28 kV28 dc28 pm28 cd28 ct28 oc29 kV29 dc29 pm29 cd29 ct29 oc30 kV30 dc30 pm30 cd30 ct30 oc31 kV31 dc31 pm31 cd31 ct31 oc32 kV32 dc32 pm32 cd32 ct32 oc33 kV33 dc33 pm33 cd33 ct33 oc34 kV34 dc34 pm34 cd34 ct34 oc35 kV35 dc35 pm35 cd35 ct35 oc36 kV36 dc36 pm36 cd36 ct36 oc37 kV37 dc37 pm37 cd37 ct37 oc38 kV38 dc38 pm38 cd38 ct38 oc39 kV39 dc39 pm39 cd39 ct39 oc40 kV40 dc40 pm40 cd40 ct40:Value} {t_MOST_WARES t_MOST_SWAPS:Tok}
  (aC_Book:W.nsIn K mainGlobals "Book"=some (some (.ref C_Book)))
  (a0:W.nsIn K mainGlobals "refuse_unlike"=some (some (.ref f0)))
  (l0:K.lookup f0=some ⟨oc0,od0,.func (W.fnOf "refuse_unlike" "refuse_unlike" (zat za0) (zaq za0) (defScope za0) .none kV0 dc0 pm0 an0 cd0 ct0),sl0⟩)
  (c0:W.codeIn K cd0 "refuse_unlike"=true)
  (k0:W.keepIn K (.ref f0)=true)
  (a1:W.nsIn K mainGlobals "plus"=some (some (.ref f1)))
  (l1:K.lookup f1=some ⟨oc1,od1,.func (W.fnOf "plus" "plus" (zat zfF) (zaq zfF) (defScope zfF) .none kV1 dc1 pm1 an1 cd1 ct1),sl1⟩)
  (c1:W.codeIn K cd1 "plus"=true)
  (k1:W.keepIn K (.ref f1)=true)
  (a2:W.nsIn K mainGlobals "less"=some (some (.ref f2)))
  (l2:K.lookup f2=some ⟨oc2,od2,.func (W.fnOf "less" "less" (zat zfX) (zaq zfX) (defScope zfX) .none kV2 dc2 pm2 an2 cd2 ct2),sl2⟩)
  (c2:W.codeIn K cd2 "less"=true)
  (k2:W.keepIn K (.ref f2)=true)
  (a3:W.nsIn K mainGlobals "times"=some (some (.ref f3)))
  (l3:K.lookup f3=some ⟨oc3,od3,.func (W.fnOf "times" "times" (zat zeD) (zaq zeD) (defScope zeD) .none kV3 dc3 pm3 an3 cd3 ct3),sl3⟩)
  (c3:W.codeIn K cd3 "times"=true)
  (k3:W.keepIn K (.ref f3)=true)
  (a4:W.nsIn K mainGlobals "head_of"=some (some (.ref f4)))
  (l4:K.lookup f4=some ⟨oc4,od4,.func (W.fnOf "head_of" "head_of" (zat zdh) (zaq zdh) (defScope zdh) .none kV4 dc4 pm4 an4 cd4 ct4),sl4⟩)
  (c4:W.codeIn K cd4 "head_of"=true)
  (k4:W.keepIn K (.ref f4)=true)
  (a5:W.nsIn K mainGlobals "common"=some (some (.ref f5)))
  (l5:K.lookup f5=some ⟨oc5,od5,.func (W.fnOf "common" "common" (zat zed) (zaq zed) (defScope zed) .none kV5 dc5 pm5 an5 cd5 ct5),sl5⟩)
  (c5:W.codeIn K cd5 "common"=true)
  (k5:W.keepIn K (.ref f5)=true)
  (a6:W.nsIn K mainGlobals "upright"=some (some (.ref f6)))
  (l6:K.lookup f6=some ⟨oc6,od6,.func (W.fnOf "upright" "upright" (zat zde) (zaq zde) (defScope zde) .none kV6 dc6 pm6 an6 cd6 ct6),sl6⟩)
  (c6:W.codeIn K cd6 "upright"=true)
  (k6:W.keepIn K (.ref f6)=true)
  (a7:W.nsIn K mainGlobals "lowered"=some (some (.ref f7)))
  (l7:K.lookup f7=some ⟨oc7,od7,.func (W.fnOf "lowered" "lowered" (zat zdp) (zaq zdp) (defScope zdp) .none kV7 dc7 pm7 an7 cd7 ct7),sl7⟩)
  (c7:W.codeIn K cd7 "lowered"=true)
  (k7:W.keepIn K (.ref f7)=true)
  (a8:W.nsIn K mainGlobals "merged"=some (some (.ref f8)))
  (l8:K.lookup f8=some ⟨oc8,od8,.func (W.fnOf "merged" "merged" (zat zeg) (zaq zeg) (defScope zeg) .none kV8 dc8 pm8 an8 cd8 ct8),sl8⟩)
  (c8:W.codeIn K cd8 "merged"=true)
  (k8:W.keepIn K (.ref f8)=true)
  (a9:W.nsIn K mainGlobals "taken_in"=some (some (.ref f9)))
  (l9:K.lookup f9=some ⟨oc9,od9,.func (W.fnOf "taken_in" "taken_in" (zat zcF) (zaq zcF) (defScope zcF) .none kV9 dc9 pm9 an9 cd9 ct9),sl9⟩)
  (c9:W.codeIn K cd9 "taken_in"=true)
  (k9:W.keepIn K (.ref f9)=true)
  (a10:W.nsIn K mainGlobals "settled"=some (some (.ref f10)))
  (l10:K.lookup f10=some ⟨oc10,od10,.func (W.fnOf "settled" "settled" (zat zdm) (zaq zdm) (defScope zdm) .none kV10 dc10 pm10 an10 cd10 ct10),sl10⟩)
  (c10:W.codeIn K cd10 "settled"=true)
  (k10:W.keepIn K (.ref f10)=true)
  (a11:W.nsIn K mainGlobals "climbed"=some (some (.ref f11)))
  (l11:K.lookup f11=some ⟨oc11,od11,.func (W.fnOf "climbed" "climbed" (zat zdk) (zaq zdk) (defScope zdk) .none kV11 dc11 pm11 an11 cd11 ct11),sl11⟩)
  (c11:W.codeIn K cd11 "climbed"=true)
  (k11:W.keepIn K (.ref f11)=true)
  (a12:W.nsIn K mainGlobals "marked"=some (some (.ref f12)))
  (l12:K.lookup f12=some ⟨oc12,od12,.func (W.fnOf "marked" "marked" (zat zec) (zaq zec) (defScope zec) .none kV12 dc12 pm12 an12 cd12 ct12),sl12⟩)
  (c12:W.codeIn K cd12 "marked"=true)
  (k12:W.keepIn K (.ref f12)=true)
  (a13:W.nsIn K mainGlobals "traced"=some (some (.ref f13)))
  (l13:K.lookup f13=some ⟨oc13,od13,.func (W.fnOf "traced" "traced" (zat zeb) (zaq zeb) (defScope zeb) .none kV13 dc13 pm13 an13 cd13 ct13),sl13⟩)
  (c13:W.codeIn K cd13 "traced"=true)
  (k13:W.keepIn K (.ref f13)=true)
  (a14:W.nsIn K mainGlobals "tails"=some (some (.ref f14)))
  (l14:K.lookup f14=some ⟨oc14,od14,.func (W.fnOf "tails" "tails" (zat zew) (zaq zew) (defScope zew) .none kV14 dc14 pm14 an14 cd14 ct14),sl14⟩)
  (c14:W.codeIn K cd14 "tails"=true)
  (k14:W.keepIn K (.ref f14)=true)
  (a15:W.nsIn K mainGlobals "counted"=some (some (.ref f15)))
  (l15:K.lookup f15=some ⟨oc15,od15,.func (W.fnOf "counted" "counted" (zat zdi) (zaq zdi) (defScope zdi) .none kV15 dc15 pm15 an15 cd15 ct15),sl15⟩)
  (c15:W.codeIn K cd15 "counted"=true)
  (k15:W.keepIn K (.ref f15)=true)
  (a16:W.nsIn K mainGlobals "book_of"=some (some (.ref f16)))
  (l16:K.lookup f16=some ⟨oc16,od16,.func (W.fnOf "book_of" "book_of" (zat zdj) (zaq zdj) (defScope zdj) .none kV16 dc16 pm16 an16 cd16 ct16),sl16⟩)
  (c16:W.codeIn K cd16 "book_of"=true)
  (k16:W.keepIn K (.ref f16)=true)
  (a17:W.nsIn K mainGlobals "refuse_bad_basket"=some (some (.ref f17)))
  (l17:K.lookup f17=some ⟨oc17,od17,.func (W.fnOf "refuse_bad_basket" "refuse_bad_basket" (zat zaE) (zaq zaE) (defScope zaE) .none kV17 dc17 pm17 an17 cd17 ct17),sl17⟩)
  (c17:W.codeIn K cd17 "refuse_bad_basket"=true)
  (k17:W.keepIn K (.ref f17)=true)
  (a18:W.nsIn K mainGlobals "refuse_bad_road"=some (some (.ref f18)))
  (l18:K.lookup f18=some ⟨oc18,od18,.func (W.fnOf "refuse_bad_road" "refuse_bad_road" (zat zaO) (zaq zaO) (defScope zaO) .none kV18 dc18 pm18 an18 cd18 ct18),sl18⟩)
  (c18:W.codeIn K cd18 "refuse_bad_road"=true)
  (k18:W.keepIn K (.ref f18)=true)
  (a19:W.nsIn K mainGlobals "way_to"=some (some (.ref f19)))
  (l19:K.lookup f19=some ⟨oc19,od19,.func (W.fnOf "way_to" "way_to" (zat zei) (zaq zei) (defScope zei) .none kV19 dc19 pm19 an19 cd19 ct19),sl19⟩)
  (c19:W.codeIn K cd19 "way_to"=true)
  (k19:W.keepIn K (.ref f19)=true)
  (a20:W.nsIn K mainGlobals "rounds"=some (some (.ref f20)))
  (l20:K.lookup f20=some ⟨oc20,od20,.func (W.fnOf "rounds" "rounds" (zat zd9) (zaq zd9) (defScope zd9) .none kV20 dc20 pm20 an20 cd20 ct20),sl20⟩)
  (c20:W.codeIn K cd20 "rounds"=true)
  (k20:W.keepIn K (.ref f20)=true)
  (a21:W.nsIn K mainGlobals "plain"=some (some (.ref f21)))
  (l21:K.lookup f21=some ⟨oc21,od21,.func (W.fnOf "plain" "plain" (zat zfh) (zaq zfh) (defScope zfh) .none kV21 dc21 pm21 an21 cd21 ct21),sl21⟩)
  (c21:W.codeIn K cd21 "plain"=true)
  (k21:W.keepIn K (.ref f21)=true)
  (a22:W.nsIn K mainGlobals "plain_road"=some (some (.ref f22)))
  (l22:K.lookup f22=some ⟨oc22,od22,.func (W.fnOf "plain_road" "plain_road" (zat zbl) (zaq zbl) (defScope zbl) .none kV22 dc22 pm22 an22 cd22 ct22),sl22⟩)
  (c22:W.codeIn K cd22 "plain_road"=true)
  (k22:W.keepIn K (.ref f22)=true)
  (a23:W.nsIn K mainGlobals "_law_flags"=some (some (.ref f23)))
  (l23:K.lookup f23=some ⟨oc23,od23,.func (W.fnOf "_law_flags" "_law_flags" (zat zb9) (zaq zb9) (defScope zb9) .none kV23 dc23 pm23 an23 cd23 ct23),sl23⟩)
  (c23:W.codeIn K cd23 "_law_flags"=true)
  (k23:W.keepIn K (.ref f23)=true)
  (a24:W.nsIn K mainGlobals "_law_only"=some (some (.ref f24)))
  (l24:K.lookup f24=some ⟨oc24,od24,.func (W.fnOf "_law_only" "_law_only" (zat s_law_only) (zaq s_law_only) (defScope s_law_only) .none kV24 dc24 pm24 an24 cd24 ct24),sl24⟩)
  (c24:W.codeIn K cd24 "_law_only"=true)
  (k24:W.keepIn K (.ref f24)=true)
  (a25:W.nsIn K mainGlobals "_law_cell"=some (some (.ref f25)))
  (l25:K.lookup f25=some ⟨oc25,od25,.func (W.fnOf "_law_cell" "_law_cell" (zat zcG) (zaq zcG) (defScope zcG) .none kV25 dc25 pm25 an25 cd25 ct25),sl25⟩)
  (c25:W.codeIn K cd25 "_law_cell"=true)
  (k25:W.keepIn K (.ref f25)=true)
  (a26:W.nsIn K mainGlobals "_law_raw"=some (some (.ref f26)))
  (l26:K.lookup f26=some ⟨oc26,od26,.func (W.fnOf "_law_raw" "_law_raw" (zat zdt) (zaq zdt) (defScope zdt) .none kV26 dc26 pm26 an26 cd26 ct26),sl26⟩)
  (c26:W.codeIn K cd26 "_law_raw"=true)
  (k26:W.keepIn K (.ref f26)=true)
  (a27:W.nsIn K mainGlobals "_law_thing"=some (some (.ref f27)))
  (l27:K.lookup f27=some ⟨oc27,od27,.func (W.fnOf "_law_thing" "_law_thing" (zat zb6) (zaq zb6) (defScope zb6) .none kV27 dc27 pm27 an27 cd27 ct27),sl27⟩)
  (c27:W.codeIn K cd27 "_law_thing"=true)
  (k27:W.keepIn K (.ref f27)=true)
  (a28:W.nsIn K mainGlobals "_law_frame"=some (some (.ref f28)))
  (l28:K.lookup f28=some ⟨oc28,od28,.func (W.fnOf "_law_frame" "_law_frame" (zat zaV) (zaq zaV) (defScope zaV) .none kV28 dc28 pm28 an28 cd28 ct28),sl28⟩)
  (c28:W.codeIn K cd28 "_law_frame"=true)
  (k28:W.keepIn K (.ref f28)=true)
  (a29:W.nsIn K mainGlobals "_law_bottoms"=some (some (.ref f29)))
  (l29:K.lookup f29=some ⟨oc29,od29,.func (W.fnOf "_law_bottoms" "_law_bottoms" (zat zbr) (zaq zbr) (defScope zbr) .none kV29 dc29 pm29 an29 cd29 ct29),sl29⟩)
  (c29:W.codeIn K cd29 "_law_bottoms"=true)
  (k29:W.keepIn K (.ref f29)=true)
  (a30:W.nsIn K mainGlobals "_law_stirred"=some (some (.ref f30)))
  (l30:K.lookup f30=some ⟨oc30,od30,.func (W.fnOf "_law_stirred" "_law_stirred" (zat zaK) (zaq zaK) (defScope zaK) .none kV30 dc30 pm30 an30 cd30 ct30),sl30⟩)
  (c30:W.codeIn K cd30 "_law_stirred"=true)
  (k30:W.keepIn K (.ref f30)=true)
  (a31:W.nsIn K mainGlobals "_law_made"=some (some (.ref f31)))
  (l31:K.lookup f31=some ⟨oc31,od31,.func (W.fnOf "_law_made" "_law_made" (zat zca) (zaq zca) (defScope zca) .none kV31 dc31 pm31 an31 cd31 ct31),sl31⟩)
  (c31:W.codeIn K cd31 "_law_made"=true)
  (k31:W.keepIn K (.ref f31)=true)
  (a32:W.nsIn K mainGlobals "_law_led"=some (some (.ref f32)))
  (l32:K.lookup f32=some ⟨oc32,od32,.func (W.fnOf "_law_led" "_law_led" (zat zcS) (zaq zcS) (defScope zcS) .none kV32 dc32 pm32 an32 cd32 ct32),sl32⟩)
  (c32:W.codeIn K cd32 "_law_led"=true)
  (k32:W.keepIn K (.ref f32)=true)
  (a33:W.nsIn K mainGlobals "_law_wholes"=some (some (.ref f33)))
  (l33:K.lookup f33=some ⟨oc33,od33,.func (W.fnOf "_law_wholes" "_law_wholes" (zat zbP) (zaq zbP) (defScope zbP) .none kV33 dc33 pm33 an33 cd33 ct33),sl33⟩)
  (c33:W.codeIn K cd33 "_law_wholes"=true)
  (k33:W.keepIn K (.ref f33)=true)
  (a34:W.nsIn K mainGlobals "_law_count"=some (some (.ref f34)))
  (l34:K.lookup f34=some ⟨oc34,od34,.func (W.fnOf "_law_count" "_law_count" (zat zcd) (zaq zcd) (defScope zcd) .none kV34 dc34 pm34 an34 cd34 ct34),sl34⟩)
  (c34:W.codeIn K cd34 "_law_count"=true)
  (k34:W.keepIn K (.ref f34)=true)
  (a35:W.nsIn K mainGlobals "_law_asked"=some (some (.ref f35)))
  (l35:K.lookup f35=some ⟨oc35,od35,.func (W.fnOf "_law_asked" "_law_asked" (zat zcc) (zaq zcc) (defScope zcc) .none kV35 dc35 pm35 an35 cd35 ct35),sl35⟩)
  (c35:W.codeIn K cd35 "_law_asked"=true)
  (k35:W.keepIn K (.ref f35)=true)
  (a36:W.nsIn K mainGlobals "_law_beyond"=some (some (.ref f36)))
  (l36:K.lookup f36=some ⟨oc36,od36,.func (W.fnOf "_law_beyond" "_law_beyond" (zat za1) (zaq za1) (defScope za1) .none kV36 dc36 pm36 an36 cd36 ct36),sl36⟩)
  (c36:W.codeIn K cd36 "_law_beyond"=true)
  (k36:W.keepIn K (.ref f36)=true)
  (a37:W.nsIn K mainGlobals "_law_spoilt"=some (some (.ref f37)))
  (l37:K.lookup f37=some ⟨oc37,od37,.func (W.fnOf "_law_spoilt" "_law_spoilt" (zat zbQ) (zaq zbQ) (defScope zbQ) .none kV37 dc37 pm37 an37 cd37 ct37),sl37⟩)
  (c37:W.codeIn K cd37 "_law_spoilt"=true)
  (k37:W.keepIn K (.ref f37)=true)
  (a38:W.nsIn K mainGlobals "_law_good"=some (some (.ref f38)))
  (l38:K.lookup f38=some ⟨oc38,od38,.func (W.fnOf "_law_good" "_law_good" (zat zcI) (zaq zcI) (defScope zcI) .none kV38 dc38 pm38 an38 cd38 ct38),sl38⟩)
  (c38:W.codeIn K cd38 "_law_good"=true)
  (k38:W.keepIn K (.ref f38)=true)
  (a39:W.nsIn K mainGlobals "law"=some (some (.ref f39)))
  (l39:K.lookup f39=some ⟨oc39,od39,.func (W.fnOf "law" "law" (zat zfo) (zaq zfo) (defScope zfo) .none kV39 dc39 pm39 an39 cd39 ct39),sl39⟩)
  (c39:W.codeIn K cd39 "law"=true)
  (k39:W.keepIn K (.ref f39)=true)
  (a40:W.findIn K (.ref C_Book) "__init__"=some (some (.ref f40)))
  (i40:W.isFn K (.ref f40)=true)
  (l40:K.lookup f40=some ⟨oc40,od40,.func (W.fnOf "__init__" "Book.__init__" (zat zaQ) (zaq zaQ) (defScope zaQ) .none kV40 dc40 pm40 an40 cd40 ct40),sl40⟩)
  (c40:W.codeIn K cd40 "Book.__init__"=true)
  (k40:W.keepIn K (.ref f40)=true)
  (pg_Book:W.plainGet K C_Book Str.empty=true)
  (hd_Book:W.hasDictIn K C_Book=true)
  (po_Book:W.plainOver K C_Book=true)
  (sa_Book:W.findIn K (.ref C_Book) "__setattr__"=some (some (.builtin "object.__setattr__")))
  (mk_Book:W.makesIn K C_Book=true)
  (kc_Book:W.keepIn K (.ref C_Book)=true)
  (n_Book_many:W.findIn K (.ref C_Book) "many"=some none)
  (n_Book_swaps:W.findIn K (.ref C_Book) "swaps"=some none)
  (z_ValueError:W.nsIn K mainGlobals "ValueError"=some none)
  (z_any:W.nsIn K mainGlobals "any"=some none)
  (z_bool:W.nsIn K mainGlobals "bool"=some none)
  (z_enumerate:W.nsIn K mainGlobals "enumerate"=some none)
  (z_int:W.nsIn K mainGlobals "int"=some none)
  (z_isinstance:W.nsIn K mainGlobals "isinstance"=some none)
  (z_len:W.nsIn K mainGlobals "len"=some none)
  (z_list:W.nsIn K mainGlobals "list"=some none)
  (z_max:W.nsIn K mainGlobals "max"=some none)
  (z_range:W.nsIn K mainGlobals "range"=some none)
  (z_reversed:W.nsIn K mainGlobals "reversed"=some none)
  (z_zip:W.nsIn K mainGlobals "zip"=some none)
  (g_MOST_WARES:W.nsIn K mainGlobals "MOST_WARES"=some (some (.int 8 t_MOST_WARES)))
  (g_MOST_SWAPS:W.nsIn K mainGlobals "MOST_SWAPS"=some (some (.int 12 t_MOST_SWAPS)))
  (aK_BadBasket:W.nsIn K mainGlobals "BadBasket"=some (some (.ref K_BadBasket)))
  (aK_BadBaskets:W.nsIn K mainGlobals "BadBaskets"=some (some (.ref K_BadBaskets)))
  (aK_BadNames:W.nsIn K mainGlobals "BadNames"=some (some (.ref K_BadNames)))
  (aK_BadRest:W.nsIn K mainGlobals "BadRest"=some (some (.ref K_BadRest)))
  (aK_BadRoad:W.nsIn K mainGlobals "BadRoad"=some (some (.ref K_BadRoad)))
  (aK_BadScale:W.nsIn K mainGlobals "BadScale"=some (some (.ref K_BadScale)))
  (aK_BadSwap:W.nsIn K mainGlobals "BadSwap"=some (some (.ref K_BadSwap)))
  (aK_BadWares:W.nsIn K mainGlobals "BadWares"=some (some (.ref K_BadWares)))
  (aK_Endless:W.nsIn K mainGlobals "Endless"=some (some (.ref K_Endless)))
  (aK_NoBook:W.nsIn K mainGlobals "NoBook"=some (some (.ref K_NoBook)))
  (aK_NoLine:W.nsIn K mainGlobals "NoLine"=some (some (.ref K_NoLine)))
  (aK_NoName:W.nsIn K mainGlobals "NoName"=some (some (.ref K_NoName)))
  (aK_NoSwap:W.nsIn K mainGlobals "NoSwap"=some (some (.ref K_NoSwap)))
  (aK_NotAlike:W.nsIn K mainGlobals "NotAlike"=some (some (.ref K_NotAlike)))
  (aK_NotKept:W.nsIn K mainGlobals "NotKept"=some (some (.ref K_NotKept)))
  (aK_OtherBook:W.nsIn K mainGlobals "OtherBook"=some (some (.ref K_OtherBook)))
  (aK_OtherWares:W.nsIn K mainGlobals "OtherWares"=some (some (.ref K_OtherWares)))
  (aK_SwapError:W.nsIn K mainGlobals "SwapError"=some (some (.ref K_SwapError)))
  (aK_TooGreat:W.nsIn K mainGlobals "TooGreat"=some (some (.ref K_TooGreat)))
  (aK_TooMany:W.nsIn K mainGlobals "TooMany"=some (some (.ref K_TooMany)))
  (x_gt:W.specialIn K (.builtin "object.__class__") "__get__"=some (some (.builtin "getset_descriptor.__get__")))
  (x_tk:W.takesIn K (.builtin "object.__class__")=some true)
  (xi_BadBasket:W.excIn K K_BadBasket [.type "ValueError",.type "Exception",.type "BaseException",.type "object"] "ValueError.__new__"=true)
  (xga_BadBasket:W.findIn K (.ref K_BadBasket) "__getattribute__"=some (some (.builtin "BaseException.__getattribute__")))
  (xgn_BadBasket:W.findIn K (.ref K_BadBasket) "__getattr__"=some none)
  (xc_BadBasket:W.findIn K (.ref K_BadBasket) "__class__"=some (some (.builtin "object.__class__")))
  (xo_BadBasket:W.mroIn K K_BadBasket (.type "object")=some true)
  (xb_BadBasket:W.mroIn K K_BadBasket (.type "BaseException")=some true)
  (es_BadBasket:W.subIn K (.ref K_BadBasket) (.ref K_SwapError)=some true)
  (eb:W.subIn K (.ref K_SwapError) (.type "BaseException")=some true)
  (eo:W.mroIn K K_SwapError (.type "object")=some true)
  (et:W.typeIn K (.ref K_SwapError)=some (.type "type"))
  (i0_BadBasket:W.kitOne K (.type "NoneType") (.ref K_BadBasket)=some false)
  (i_BadBasket_BadBasket:W.kitOne K (.ref K_BadBasket) (.ref K_BadBasket)=some true)
  (i0_BadBaskets:W.kitOne K (.type "NoneType") (.ref K_BadBaskets)=some false)
  (i_BadBasket_BadBaskets:W.kitOne K (.ref K_BadBasket) (.ref K_BadBaskets)=some false)
  (i0_BadNames:W.kitOne K (.type "NoneType") (.ref K_BadNames)=some false)
  (i_BadBasket_BadNames:W.kitOne K (.ref K_BadBasket) (.ref K_BadNames)=some false)
  (i0_BadRest:W.kitOne K (.type "NoneType") (.ref K_BadRest)=some false)
  (i_BadBasket_BadRest:W.kitOne K (.ref K_BadBasket) (.ref K_BadRest)=some false)
  (i0_BadRoad:W.kitOne K (.type "NoneType") (.ref K_BadRoad)=some false)
  (i_BadBasket_BadRoad:W.kitOne K (.ref K_BadBasket) (.ref K_BadRoad)=some false)
  (i0_BadScale:W.kitOne K (.type "NoneType") (.ref K_BadScale)=some false)
  (i_BadBasket_BadScale:W.kitOne K (.ref K_BadBasket) (.ref K_BadScale)=some false)
  (i0_BadSwap:W.kitOne K (.type "NoneType") (.ref K_BadSwap)=some false)
  (i_BadBasket_BadSwap:W.kitOne K (.ref K_BadBasket) (.ref K_BadSwap)=some false)
  (i0_BadWares:W.kitOne K (.type "NoneType") (.ref K_BadWares)=some false)
  (i_BadBasket_BadWares:W.kitOne K (.ref K_BadBasket) (.ref K_BadWares)=some false)
  (i0_Endless:W.kitOne K (.type "NoneType") (.ref K_Endless)=some false)
  (i_BadBasket_Endless:W.kitOne K (.ref K_BadBasket) (.ref K_Endless)=some false)
  (i0_NoBook:W.kitOne K (.type "NoneType") (.ref K_NoBook)=some false)
  (i_BadBasket_NoBook:W.kitOne K (.ref K_BadBasket) (.ref K_NoBook)=some false)
  (i0_NoLine:W.kitOne K (.type "NoneType") (.ref K_NoLine)=some false)
  (i_BadBasket_NoLine:W.kitOne K (.ref K_BadBasket) (.ref K_NoLine)=some false)
  (i0_NoName:W.kitOne K (.type "NoneType") (.ref K_NoName)=some false)
  (i_BadBasket_NoName:W.kitOne K (.ref K_BadBasket) (.ref K_NoName)=some false)
  (i0_NoSwap:W.kitOne K (.type "NoneType") (.ref K_NoSwap)=some false)
  (i_BadBasket_NoSwap:W.kitOne K (.ref K_BadBasket) (.ref K_NoSwap)=some false)
  (i0_NotAlike:W.kitOne K (.type "NoneType") (.ref K_NotAlike)=some false)
  (i_BadBasket_NotAlike:W.kitOne K (.ref K_BadBasket) (.ref K_NotAlike)=some false)
  (i0_NotKept:W.kitOne K (.type "NoneType") (.ref K_NotKept)=some false)
  (i_BadBasket_NotKept:W.kitOne K (.ref K_BadBasket) (.ref K_NotKept)=some false)
  (i0_OtherBook:W.kitOne K (.type "NoneType") (.ref K_OtherBook)=some false)
  (i_BadBasket_OtherBook:W.kitOne K (.ref K_BadBasket) (.ref K_OtherBook)=some false)
  (i0_OtherWares:W.kitOne K (.type "NoneType") (.ref K_OtherWares)=some false)
  (i_BadBasket_OtherWares:W.kitOne K (.ref K_BadBasket) (.ref K_OtherWares)=some false)
  (i0_TooGreat:W.kitOne K (.type "NoneType") (.ref K_TooGreat)=some false)
  (i_BadBasket_TooGreat:W.kitOne K (.ref K_BadBasket) (.ref K_TooGreat)=some false)
  (i0_TooMany:W.kitOne K (.type "NoneType") (.ref K_TooMany)=some false)
  (i_BadBasket_TooMany:W.kitOne K (.ref K_BadBasket) (.ref K_TooMany)=some false)
  (i0_ValueError:W.kitOne K (.type "NoneType") (.type "ValueError")=some false)
  (i_BadBasket_ValueError:W.kitOne K (.ref K_BadBasket) (.type "ValueError")=some true)
  (kit_int_bool:W.kitOne K (.type "int") (.type "bool")=some false)
  (kit_int_int:W.kitOne K (.type "int") (.type "int")=some true)
  (kit_list_list:W.kitOne K (.type "list") (.type "list")=some true) :
  ∃ fd:FuncData,(∀ (s:Shared) (v:Value),BindsTo s fd ⟨[v],[]⟩ [("_law_script",v)])∧∀ base:Heap,K.In base->base.Ns mainGlobals mg->FnOk l.prog w K mg base (CXE l.prog w) 12 fa fd ["_law_script"] (zlf K):=by
 have e:=hfa.symm.trans (W.mg_of X G a39)
 cases e
 have F_refuse_unlike:=zaF (st:=za0) l0 c0 k0
 have b_refuse_unlike:=F_refuse_unlike.binds (ps:=["one","other"]) λ_ _ _ _ _ _ us hl=>match us,hl with | [_,_],_=>rfl
 have m_refuse_unlike:=W.mg_of X G a0
 have F_plus:=zaF (st:=zfF) l1 c1 k1
 have b_plus:=F_plus.binds (ps:=["one","other"]) λ_ _ _ _ _ _ us hl=>match us,hl with | [_,_],_=>rfl
 have m_plus:=W.mg_of X G a1
 have F_less:=zaF (st:=zfX) l2 c2 k2
 have b_less:=F_less.binds (ps:=["one","other"]) λ_ _ _ _ _ _ us hl=>match us,hl with | [_,_],_=>rfl
 have m_less:=W.mg_of X G a2
 have F_times:=zaF (st:=zeD) l3 c3 k3
 have b_times:=F_times.binds (ps:=["some","many"]) λ_ _ _ _ _ _ us hl=>match us,hl with | [_,_],_=>rfl
 have m_times:=W.mg_of X G a3
 have F_head_of:=zaF (st:=zdh) l4 c4 k4
 have b_head_of:=F_head_of.binds (ps:=["row"]) λ_ _ _ _ _ _ us hl=>match us,hl with | [_],_=>rfl
 have m_head_of:=W.mg_of X G a4
 have F_common:=zaF (st:=zed) l5 c5 k5
 have b_common:=F_common.binds (ps:=["one","other"]) λ_ _ _ _ _ _ us hl=>match us,hl with | [_,_],_=>rfl
 have m_common:=W.mg_of X G a5
 have F_upright:=zaF (st:=zde) l6 c6 k6
 have b_upright:=F_upright.binds (ps:=["row"]) λ_ _ _ _ _ _ us hl=>match us,hl with | [_],_=>rfl
 have m_upright:=W.mg_of X G a6
 have F_lowered:=zaF (st:=zdp) l7 c7 k7
 have b_lowered:=F_lowered.binds (ps:=["row","steps"]) λ_ _ _ _ _ _ us hl=>match us,hl with | [_,_],_=>rfl
 have m_lowered:=W.mg_of X G a7
 have F_merged:=zaF (st:=zeg) l8 c8 k8
 have b_merged:=F_merged.binds (ps:=["step","row"]) λ_ _ _ _ _ _ us hl=>match us,hl with | [_,_],_=>rfl
 have m_merged:=W.mg_of X G a8
 have F_taken_in:=zaF (st:=zcF) l9 c9 k9
 have b_taken_in:=F_taken_in.binds (ps:=["steps","row"]) λ_ _ _ _ _ _ us hl=>match us,hl with | [_,_],_=>rfl
 have m_taken_in:=W.mg_of X G a9
 have F_settled:=zaF (st:=zdm) l10 c10 k10
 have b_settled:=F_settled.binds (ps:=["steps"]) λ_ _ _ _ _ _ us hl=>match us,hl with | [_],_=>rfl
 have m_settled:=W.mg_of X G a10
 have F_climbed:=zaF (st:=zdk) l11 c11 k11
 have b_climbed:=F_climbed.binds (ps:=["rows"]) λ_ _ _ _ _ _ us hl=>match us,hl with | [_],_=>rfl
 have m_climbed:=W.mg_of X G a11
 have F_marked:=zaF (st:=zec) l12 c12 k12
 have b_marked:=F_marked.binds (ps:=["rows"]) λ_ _ _ _ _ _ us hl=>match us,hl with | [_],_=>rfl
 have m_marked:=W.mg_of X G a12
 have F_traced:=zaF (st:=zeb) l13 c13 k13
 have b_traced:=F_traced.binds (ps:=["rows"]) λ_ _ _ _ _ _ us hl=>match us,hl with | [_],_=>rfl
 have m_traced:=W.mg_of X G a13
 have F_tails:=zaF (st:=zew) l14 c14 k14
 have b_tails:=F_tails.binds (ps:=["steps","many"]) λ_ _ _ _ _ _ us hl=>match us,hl with | [_,_],_=>rfl
 have m_tails:=W.mg_of X G a14
 have F_counted:=zaF (st:=zdi) l15 c15 k15
 have b_counted:=F_counted.binds (ps:=["steps","basket","many"]) λ_ _ _ _ _ _ us hl=>match us,hl with | [_,_,_],_=>rfl
 have m_counted:=W.mg_of X G a15
 have F_book_of:=zaF (st:=zdj) l16 c16 k16
 have b_book_of:=F_book_of.binds (ps:=["many","swaps"]) λ_ _ _ _ _ _ us hl=>match us,hl with | [_,_],_=>rfl
 have m_book_of:=W.mg_of X G a16
 have F_refuse_bad_basket:=zaF (st:=zaE) l17 c17 k17
 have b_refuse_bad_basket:=F_refuse_bad_basket.binds (ps:=["book","basket"]) λ_ _ _ _ _ _ us hl=>match us,hl with | [_,_],_=>rfl
 have m_refuse_bad_basket:=W.mg_of X G a17
 have F_refuse_bad_road:=zaF (st:=zaO) l18 c18 k18
 have b_refuse_bad_road:=F_refuse_bad_road.binds (ps:=["book","road"]) λ_ _ _ _ _ _ us hl=>match us,hl with | [_,_],_=>rfl
 have m_refuse_bad_road:=W.mg_of X G a18
 have F_way_to:=zaF (st:=zei) l19 c19 k19
 have b_way_to:=F_way_to.binds (ps:=["book","basket"]) λ_ _ _ _ _ _ us hl=>match us,hl with | [_,_],_=>rfl
 have m_way_to:=W.mg_of X G a19
 have F_rounds:=zaF (st:=zd9) l20 c20 k20
 have b_rounds:=F_rounds.binds (ps:=["book"]) λ_ _ _ _ _ _ us hl=>match us,hl with | [_],_=>rfl
 have m_rounds:=W.mg_of X G a20
 have F_plain:=zaF (st:=zfh) l21 c21 k21
 have b_plain:=F_plain.binds (ps:=["book","road"]) λ_ _ _ _ _ _ us hl=>match us,hl with | [_,_],_=>rfl
 have m_plain:=W.mg_of X G a21
 have F_plain_road:=zaF (st:=zbl) l22 c22 k22
 have b_plain_road:=F_plain_road.binds (ps:=["book","one","other"]) λ_ _ _ _ _ _ us hl=>match us,hl with | [_,_,_],_=>rfl
 have m_plain_road:=W.mg_of X G a22
 have F_law_flags:=zaF (st:=zb9) l23 c23 k23
 have b_law_flags:=F_law_flags.binds (ps:=["_law_caught"]) λ_ _ _ _ _ _ us hl=>match us,hl with | [_],_=>rfl
 have m_law_flags:=W.mg_of X G a23
 have F_law_only:=zaF (st:=s_law_only) l24 c24 k24
 have b_law_only:=F_law_only.binds (ps:=["_law_caught","_law_name"]) λ_ _ _ _ _ _ us hl=>match us,hl with | [_,_],_=>rfl
 have m_law_only:=W.mg_of X G a24
 have F_law_cell:=zaF (st:=zcG) l25 c25 k25
 have b_law_cell:=F_law_cell.binds (ps:=["_law_script","_law_k"]) λ_ _ _ _ _ _ us hl=>match us,hl with | [_,_],_=>rfl
 have m_law_cell:=W.mg_of X G a25
 have F_law_raw:=zaF (st:=zdt) l26 c26 k26
 have b_law_raw:=F_law_raw.binds (ps:=["_law_script","_law_k"]) λ_ _ _ _ _ _ us hl=>match us,hl with | [_,_],_=>rfl
 have m_law_raw:=W.mg_of X G a26
 have F_law_thing:=zaF (st:=zb6) l27 c27 k27
 have b_law_thing:=F_law_thing.binds (ps:=["_law_cell_here","_law_k","_law_many"]) λ_ _ _ _ _ _ us hl=>match us,hl with | [_,_,_],_=>rfl
 have m_law_thing:=W.mg_of X G a27
 have F_law_frame:=zaF (st:=zaV) l28 c28 k28
 have b_law_frame:=F_law_frame.binds (ps:=["_law_wide","_law_cells"]) λ_ _ _ _ _ _ us hl=>match us,hl with | [_,_],_=>rfl
 have m_law_frame:=W.mg_of X G a28
 have F_law_bottoms:=zaF (st:=zbr) l29 c29 k29
 have b_law_bottoms:=F_law_bottoms.binds (ps:=["_law_wide","_law_cell_here","_law_far"]) λ_ _ _ _ _ _ us hl=>match us,hl with | [_,_,_],_=>rfl
 have m_law_bottoms:=W.mg_of X G a29
 have F_law_stirred:=zaF (st:=zaK) l30 c30 k30
 have b_law_stirred:=F_law_stirred.binds (ps:=["_law_rows","_law_bottoms_here","_law_idle","_law_cells"]) λ_ _ _ _ _ _ us hl=>match us,hl with | [_,_,_,_],_=>rfl
 have m_law_stirred:=W.mg_of X G a30
 have F_law_made:=zaF (st:=zca) l31 c31 k31
 have b_law_made:=F_law_made.binds (ps:=["_law_script"]) λ_ _ _ _ _ _ us hl=>match us,hl with | [_],_=>rfl
 have m_law_made:=W.mg_of X G a31
 have F_law_led:=zaF (st:=zcS) l32 c32 k32
 have b_law_led:=F_law_led.binds (ps:=["_law_basket","_law_swaps","_law_way"]) λ_ _ _ _ _ _ us hl=>match us,hl with | [_,_,_],_=>rfl
 have m_law_led:=W.mg_of X G a32
 have F_law_wholes:=zaF (st:=zbP) l33 c33 k33
 have b_law_wholes:=F_law_wholes.binds (ps:=["_law_found","_law_many"]) λ_ _ _ _ _ _ us hl=>match us,hl with | [_,_],_=>rfl
 have m_law_wholes:=W.mg_of X G a33
 have F_law_count:=zaF (st:=zcd) l34 c34 k34
 have b_law_count:=F_law_count.binds (ps:=["_law_cell_here","_law_k","_law_size"]) λ_ _ _ _ _ _ us hl=>match us,hl with | [_,_,_],_=>rfl
 have m_law_count:=W.mg_of X G a34
 have F_law_asked:=zaF (st:=zcc) l35 c35 k35
 have b_law_asked:=F_law_asked.binds (ps:=["_law_book","_law_one","_law_other"]) λ_ _ _ _ _ _ us hl=>match us,hl with | [_,_,_],_=>rfl
 have m_law_asked:=W.mg_of X G a35
 have F_law_beyond:=zaF (st:=za1) l36 c36 k36
 have b_law_beyond:=F_law_beyond.binds (ps:=["_law_rows","_law_bottoms_here","_law_other","_law_cell_here"]) λ_ _ _ _ _ _ us hl=>match us,hl with | [_,_,_,_],_=>rfl
 have m_law_beyond:=W.mg_of X G a36
 have F_law_spoilt:=zaF (st:=zbQ) l37 c37 k37
 have b_law_spoilt:=F_law_spoilt.binds (ps:=["_law_basket","_law_way"]) λ_ _ _ _ _ _ us hl=>match us,hl with | [_,_],_=>rfl
 have m_law_spoilt:=W.mg_of X G a37
 have F_law_good:=zaF (st:=zcI) l38 c38 k38
 have b_law_good:=F_law_good.binds (ps:=["_law_book","_law_one","_law_other","_law_way","_law_beyond_here"]) λ_ _ _ _ _ _ us hl=>match us,hl with | [_,_,_,_,_],_=>rfl
 have m_law_good:=W.mg_of X G a38
 have F_law:=zaF (st:=zfo) l39 c39 k39
 have b_law:=F_law.binds (ps:=["_law_script"]) λ_ _ _ _ _ _ us hl=>match us,hl with | [_],_=>rfl
 have m_law:=W.mg_of X G a39
 have F_Book___init__:=zaF (st:=zaQ) l40 c40 k40
 have b_Book___init__:=F_Book___init__.binds (ps:=["self","many","swaps"]) λ_ _ _ _ _ _ us hl=>match us,hl with | [_,_,_],_=>rfl
 have T:Txt K mg ⟨(),C_Book,λe=>match e with | .BadBasket=>K_BadBasket,K_BadBasket,K_BadBaskets,K_BadNames,K_BadRest,K_BadRoad,K_BadScale,K_BadSwap,K_BadWares,K_Endless,K_NoBook,K_NoLine,K_NoName,K_NoSwap,K_NotAlike,K_NotKept,K_OtherBook,K_OtherWares,K_SwapError,K_TooGreat,K_TooMany⟩:=⟨W.mg_none_of X G z_ValueError,W.mg_none_of X G z_any,W.mg_none_of X G z_bool,W.mg_none_of X G z_enumerate,W.mg_none_of X G z_int,W.mg_none_of X G z_isinstance,W.mg_none_of X G z_len,W.mg_none_of X G z_list,W.mg_none_of X G z_max,W.mg_none_of X G z_range,W.mg_none_of X G z_reversed,W.mg_none_of X G z_zip,W.mg_of X G aC_Book,⟨pg_Book,hd_Book,po_Book,sa_Book⟩,n_Book_many,n_Book_swaps,⟨t_MOST_WARES,W.mg_of X G g_MOST_WARES⟩,⟨t_MOST_SWAPS,W.mg_of X G g_MOST_SWAPS⟩,W.mg_of X G aK_BadBasket,W.mg_of X G aK_BadBaskets,W.mg_of X G aK_BadNames,W.mg_of X G aK_BadRest,W.mg_of X G aK_BadRoad,W.mg_of X G aK_BadScale,W.mg_of X G aK_BadSwap,W.mg_of X G aK_BadWares,W.mg_of X G aK_Endless,W.mg_of X G aK_NoBook,W.mg_of X G aK_NoLine,W.mg_of X G aK_NoName,W.mg_of X G aK_NoSwap,W.mg_of X G aK_NotAlike,W.mg_of X G aK_NotKept,W.mg_of X G aK_OtherBook,W.mg_of X G aK_OtherWares,W.mg_of X G aK_SwapError,W.mg_of X G aK_TooGreat,W.mg_of X G aK_TooMany,W.mg_of X G aK_BadBasket,xi_BadBasket,⟨xga_BadBasket,xgn_BadBasket,xc_BadBasket,xo_BadBasket,xb_BadBasket,x_gt,x_tk⟩,exm_of eb eo et es_BadBasket,i0_BadBasket,i_BadBasket_BadBasket,i0_BadBaskets,i_BadBasket_BadBaskets,i0_BadNames,i_BadBasket_BadNames,i0_BadRest,i_BadBasket_BadRest,i0_BadRoad,i_BadBasket_BadRoad,i0_BadScale,i_BadBasket_BadScale,i0_BadSwap,i_BadBasket_BadSwap,i0_BadWares,i_BadBasket_BadWares,i0_Endless,i_BadBasket_Endless,i0_NoBook,i_BadBasket_NoBook,i0_NoLine,i_BadBasket_NoLine,i0_NoName,i_BadBasket_NoName,i0_NoSwap,i_BadBasket_NoSwap,i0_NotAlike,i_BadBasket_NotAlike,i0_NotKept,i_BadBasket_NotKept,i0_OtherBook,i_BadBasket_OtherBook,i0_OtherWares,i_BadBasket_OtherWares,i0_TooGreat,i_BadBasket_TooGreat,i0_TooMany,i_BadBasket_TooMany,i0_ValueError,i_BadBasket_ValueError,kit_int_bool,kit_int_int,kit_list_list⟩
 refine ⟨W.fnOf "law" "law" (zat zfo) (zaq zfo) (defScope zfo) .none kV39 dc39 pm39 an39 cd39 ct39,λs v=>.of_eq rfl,λbase _ _=>?_⟩
 have M_Book:Mk K C_Book f40:=⟨mk_Book,a40,i40,kc_Book⟩
 have G_refuse_unlike:Callee l.prog w K mg base (CXE l.prog w) 1 "refuse_unlike" ["one","other"] (zbG K _):=⟨_,_,zfr F_refuse_unlike T  ,m_refuse_unlike,k0,b_refuse_unlike⟩
 have G_plus:Callee l.prog w K mg base (CXE l.prog w) 2 "plus" ["one","other"] (zie K _):=⟨_,_,znC F_plus T G_refuse_unlike ,m_plus,k1,b_plus⟩
 have G_less:Callee l.prog w K mg base (CXE l.prog w) 2 "less" ["one","other"] (ze7 K _):=⟨_,_,zm1 F_less T G_refuse_unlike ,m_less,k2,b_less⟩
 have G_times:Callee l.prog w K mg base (CXE l.prog w) 1 "times" ["some","many"] (zek K _):=⟨_,_,zlR F_times T  ,m_times,k3,b_times⟩
 have G_head_of:Callee l.prog w K mg base (CXE l.prog w) 1 "head_of" ["row"] (zb7 K _):=⟨_,_,zjb F_head_of T  ,m_head_of,k4,b_head_of⟩
 have G_common:Callee l.prog w K mg base (CXE l.prog w) 1 "common" ["one","other"] (zfS K _):=⟨_,_,zj9 F_common T  ,m_common,k5,b_common⟩
 have G_upright:Callee l.prog w K mg base (CXE l.prog w) 2 "upright" ["row"] (ze5 K _):=⟨_,_,zjn F_upright T G_head_of G_times ,m_upright,k6,b_upright⟩
 have G_lowered:Callee l.prog w K mg base (CXE l.prog w) 3 "lowered" ["row","steps"] (zcJ K _):=⟨_,_,zjd F_lowered T G_head_of G_less G_times ,m_lowered,k7,b_lowered⟩
 have G_merged:Callee l.prog w K mg base (CXE l.prog w) 3 "merged" ["step","row"] (zfI K _):=⟨_,_,zkW F_merged T G_common G_head_of G_less G_plus G_times ,m_merged,k8,b_merged⟩
 have G_taken_in:Callee l.prog w K mg base (CXE l.prog w) 4 "taken_in" ["steps","row"] (zeA K _):=⟨_,_,zii F_taken_in T G_head_of G_lowered G_merged G_upright ,m_taken_in,k9,b_taken_in⟩
 have G_settled:Callee l.prog w K mg base (CXE l.prog w) 4 "settled" ["steps"] (zfg K _):=⟨_,_,zjc F_settled T G_lowered ,m_settled,k10,b_settled⟩
 have G_climbed:Callee l.prog w K mg base (CXE l.prog w) 5 "climbed" ["rows"] (zfb K _):=⟨_,_,zjr F_climbed T G_settled G_taken_in ,m_climbed,k11,b_climbed⟩
 have G_marked:Callee l.prog w K mg base (CXE l.prog w) 1 "marked" ["rows"] (zfU K _):=⟨_,_,zkT F_marked T  ,m_marked,k12,b_marked⟩
 have G_traced:Callee l.prog w K mg base (CXE l.prog w) 6 "traced" ["rows"] (zeG K _):=⟨_,_,zjS F_traced T G_climbed G_marked ,m_traced,k13,b_traced⟩
 have G_tails:Callee l.prog w K mg base (CXE l.prog w) 2 "tails" ["steps","many"] (zgO K _):=⟨_,_,zlT F_tails T G_head_of ,m_tails,k14,b_tails⟩
 have G_counted:Callee l.prog w K mg base (CXE l.prog w) 4 "counted" ["steps","basket","many"] (zeX K _):=⟨_,_,zje F_counted T G_lowered G_times ,m_counted,k15,b_counted⟩
 have G_Book___init__:=zfn (P:=l.prog) (w:=w) (base:=base) F_Book___init__ T
 have G_book_of:Callee l.prog w K mg base (CXE l.prog w) 3 "book_of" ["many","swaps"] (ze4 K _):=⟨_,_,zjg F_book_of T  M_Book G_Book___init__ b_Book___init__ ,m_book_of,k16,b_book_of⟩
 have G_refuse_bad_basket:Callee l.prog w K mg base (CXE l.prog w) 1 "refuse_bad_basket" ["book","basket"] (zbu K _):=⟨_,_,zeo F_refuse_bad_basket T  ,m_refuse_bad_basket,k17,b_refuse_bad_basket⟩
 have GX_refuse_bad_basket:Callee l.prog w K mg base (CXE l.prog w) 1 "refuse_bad_basket" ["book","basket"] (zbm K _):=⟨_,_,zdS F_refuse_bad_basket T  ,m_refuse_bad_basket,k17,b_refuse_bad_basket⟩
 have G_refuse_bad_road:Callee l.prog w K mg base (CXE l.prog w) 1 "refuse_bad_road" ["book","road"] (zbW K _):=⟨_,_,zeO F_refuse_bad_road T  ,m_refuse_bad_road,k18,b_refuse_bad_road⟩
 have G_way_to:Callee l.prog w K mg base (CXE l.prog w) 7 "way_to" ["book","basket"] (zeE K _):=⟨_,_,zkO F_way_to T G_counted G_traced ,m_way_to,k19,b_way_to⟩
 have G_rounds:Callee l.prog w K mg base (CXE l.prog w) 7 "rounds" ["book"] (zfT K _):=⟨_,_,zkK F_rounds T G_tails G_traced ,m_rounds,k20,b_rounds⟩
 have G_plain:Callee l.prog w K mg base (CXE l.prog w) 8 "plain" ["book","road"] (zeV K _):=⟨_,_,zlv F_plain T G_lowered G_refuse_bad_road G_rounds ,m_plain,k21,b_plain⟩
 have G_plain_road:Callee l.prog w K mg base (CXE l.prog w) 9 "plain_road" ["book","one","other"] (zdJ K _):=⟨_,_,zgy F_plain_road T G_less G_plain G_refuse_bad_basket G_way_to ,m_plain_road,k22,b_plain_road⟩
 have GX_plain_road:Callee l.prog w K mg base (CXE l.prog w) 9 "plain_road" ["book","one","other"] (zdc K _):=⟨_,_,zga F_plain_road T G_less G_plain G_way_to GX_refuse_bad_basket,m_plain_road,k22,b_plain_road⟩
 have G_law_flags:Callee l.prog w K mg base (CXE l.prog w) 1 "_law_flags" ["_law_caught"] (zdR K _):=⟨_,_,zhE F_law_flags T  ,m_law_flags,k23,b_law_flags⟩
 have G_law_only:Callee l.prog w K mg base (CXE l.prog w) 2 "_law_only" ["_law_caught","_law_name"] (zeC K _):=⟨_,_,zij F_law_only T G_law_flags ,m_law_only,k24,b_law_only⟩
 have G_law_cell:Callee l.prog w K mg base (CXE l.prog w) 1 "_law_cell" ["_law_script","_law_k"] (zeB K _):=⟨_,_,zhU F_law_cell T  ,m_law_cell,k25,b_law_cell⟩
 have G_law_raw:Callee l.prog w K mg base (CXE l.prog w) 1 "_law_raw" ["_law_script","_law_k"] (zfi K _):=⟨_,_,zi7 F_law_raw T  ,m_law_raw,k26,b_law_raw⟩
 have G_law_thing:Callee l.prog w K mg base (CXE l.prog w) 1 "_law_thing" ["_law_cell_here","_law_k","_law_many"] (zbp K _):=⟨_,_,zg7 F_law_thing T  ,m_law_thing,k27,b_law_thing⟩
 have G_law_frame:Callee l.prog w K mg base (CXE l.prog w) 2 "_law_frame" ["_law_wide","_law_cells"] (zd0 K _):=⟨_,_,zhy F_law_frame T G_law_thing ,m_law_frame,k28,b_law_frame⟩
 have G_law_bottoms:Callee l.prog w K mg base (CXE l.prog w) 2 "_law_bottoms" ["_law_wide","_law_cell_here","_law_far"] (zdd K _):=⟨_,_,zgc F_law_bottoms T G_law_thing ,m_law_bottoms,k29,b_law_bottoms⟩
 have G_law_stirred:Callee l.prog w K mg base (CXE l.prog w) 2 "_law_stirred" ["_law_rows","_law_bottoms_here","_law_idle","_law_cells"] (zc9 K _):=⟨_,_,zf9 F_law_stirred T G_law_thing ,m_law_stirred,k30,b_law_stirred⟩
 have G_law_made:Callee l.prog w K mg base (CXE l.prog w) 3 "_law_made" ["_law_script"] (zey K _):=⟨_,_,zig F_law_made T G_law_bottoms G_law_cell G_law_frame G_law_raw G_law_stirred ,m_law_made,k31,b_law_made⟩
 have G_law_led:Callee l.prog w K mg base (CXE l.prog w) 1 "_law_led" ["_law_basket","_law_swaps","_law_way"] (zee K _):=⟨_,_,zi2 F_law_led T  ,m_law_led,k32,b_law_led⟩
 have G_law_wholes:Callee l.prog w K mg base (CXE l.prog w) 1 "_law_wholes" ["_law_found","_law_many"] (zdB K _):=⟨_,_,zgS F_law_wholes T  ,m_law_wholes,k33,b_law_wholes⟩
 have G_law_count:Callee l.prog w K mg base (CXE l.prog w) 2 "_law_count" ["_law_cell_here","_law_k","_law_size"] (zdZ K _):=⟨_,_,zhj F_law_count T G_law_thing ,m_law_count,k34,b_law_count⟩
 have G_law_asked:Callee l.prog w K mg base (CXE l.prog w) 10 "_law_asked" ["_law_book","_law_one","_law_other"] (zdW K _):=⟨_,_,zhs F_law_asked T  GX_plain_road,m_law_asked,k35,b_law_asked⟩
 have G_law_beyond:Callee l.prog w K mg base (CXE l.prog w) 2 "_law_beyond" ["_law_rows","_law_bottoms_here","_law_other","_law_cell_here"] (zdA K _):=⟨_,_,zgT F_law_beyond T G_law_thing ,m_law_beyond,k36,b_law_beyond⟩
 have G_law_spoilt:Callee l.prog w K mg base (CXE l.prog w) 1 "_law_spoilt" ["_law_basket","_law_way"] (zdF K _):=⟨_,_,zgM F_law_spoilt T  ,m_law_spoilt,k37,b_law_spoilt⟩
 have G_law_good:Callee l.prog w K mg base (CXE l.prog w) 11 "_law_good" ["_law_book","_law_one","_law_other","_law_way","_law_beyond_here"] (zex K _):=⟨_,_,zhX F_law_good T G_law_asked G_law_led G_law_only G_law_wholes G_plain G_plain_road ,m_law_good,k38,b_law_good⟩
 exact (zn5 F_law T G_law_beyond G_law_count G_law_good G_law_led G_law_made G_law_spoilt G_book_of ).imp λ_ _ _ _ q=>zpo q
theorem zqq {l:W.OpenLaw} {q:Program} {loose:List Str} {XP:(Str->Option Value)->Heap->Prop} {YP:World->Heap->Prop} {d:DefRec} {K:Params->W.Frag} (hn:l.most=some 63) (hdf:d.params.defaults=[])
  (hY:∀ (w:World) (h:Heap),YP w h->(K w.params).In h)
  (F:∀ (w:World) (mg:Str->Option Value) (fa:Addr) (h:Heap),(K w.params).In h->h.Ns mainGlobals mg->mg d.name=some (.ref fa) →
   ∃ fd:FuncData,(∀ (s:Shared) (u:Value),BindsTo s fd ⟨[u],[]⟩ [("_law_script",u)])∧∀ base:Heap,(K w.params).In base->base.Ns mainGlobals mg->FnOk l.prog w (K w.params) mg base (CXE l.prog w) 12 fa fd ["_law_script"] (zlf (K w.params))) :
  W.WalkO q loose XP YP l.row.toRowW d [] (λf vs=>PySem.call f vs) :=
 L2.znD (n:=63) (k:=12) (x:="_law_script") (CX:=λw=>CXE l.prog w) (sp:=λw=>zlf (K w.params)) hn (by decide) hdf ⟨rfl,by decide,by decide⟩ hY F (λ_ _ a ns hl _ hS=>⟨a,ns,rfl,hS,hl,λ_=>rfl⟩) λ_ _ _ _ _ ⟨_,_,_,_,_,_,_,_,_,_,z⟩=>z
end
end My
section
open PySem PySem.W PyProof.Rows
set_option maxRecDepth 100000 in
set_option maxHeartbeats 0 in
theorem PySem.Challenge.cw_swapbook_k53_plain_roads_between_baskets_holds : PySem.Challenge.rw_swapbook_k53_plain_roads_between_baskets.Holds := by
 refine My.headT ?hc
 k_fill
 refine My.zqq (l:=PySem.Challenge.rw_swapbook_k53_plain_roads_between_baskets) rfl rfl (λw h Y=>W.kIn_of Y) ?F
 case F =>
  intro w mg fa h KX G hmg
  refine' My.all_mk KX G hmg ?aC_Book ?a0 ?l0 ?c0 ?k0 ?a1 ?l1 ?c1 ?k1 ?a2 ?l2 ?c2 ?k2 ?a3 ?l3 ?c3 ?k3 ?a4 ?l4 ?c4 ?k4 ?a5 ?l5 ?c5 ?k5 ?a6 ?l6 ?c6 ?k6 ?a7 ?l7 ?c7 ?k7 ?a8 ?l8 ?c8 ?k8 ?a9 ?l9 ?c9 ?k9 ?a10 ?l10 ?c10 ?k10 ?a11 ?l11 ?c11 ?k11 ?a12 ?l12 ?c12 ?k12 ?a13 ?l13 ?c13 ?k13 ?a14 ?l14 ?c14 ?k14 ?a15 ?l15 ?c15 ?k15 ?a16 ?l16 ?c16 ?k16 ?a17 ?l17 ?c17 ?k17 ?a18 ?l18 ?c18 ?k18 ?a19 ?l19 ?c19 ?k19 ?a20 ?l20 ?c20 ?k20 ?a21 ?l21 ?c21 ?k21 ?a22 ?l22 ?c22 ?k22 ?a23 ?l23 ?c23 ?k23 ?a24 ?l24 ?c24 ?k24 ?a25 ?l25 ?c25 ?k25 ?a26 ?l26 ?c26 ?k26 ?a27 ?l27 ?c27 ?k27 ?a28 ?l28 ?c28 ?k28 ?a29 ?l29 ?c29 ?k29 ?a30 ?l30 ?c30 ?k30 ?a31 ?l31 ?c31 ?k31 ?a32 ?l32 ?c32 ?k32 ?a33 ?l33 ?c33 ?k33 ?a34 ?l34 ?c34 ?k34 ?a35 ?l35 ?c35 ?k35 ?a36 ?l36 ?c36 ?k36 ?a37 ?l37 ?c37 ?k37 ?a38 ?l38 ?c38 ?k38 ?a39 ?l39 ?c39 ?k39 ?a40 ?i40 ?l40 ?c40 ?k40 ?pg_Book ?hd_Book ?po_Book ?sa_Book ?mk_Book ?kc_Book ?n_Book_many ?n_Book_swaps ?z_ValueError ?z_any ?z_bool ?z_enumerate ?z_int ?z_isinstance ?z_len ?z_list ?z_max ?z_range ?z_reversed ?z_zip ?g_MOST_WARES ?g_MOST_SWAPS ?aK_BadBasket ?aK_BadBaskets ?aK_BadNames ?aK_BadRest ?aK_BadRoad ?aK_BadScale ?aK_BadSwap ?aK_BadWares ?aK_Endless ?aK_NoBook ?aK_NoLine ?aK_NoName ?aK_NoSwap ?aK_NotAlike ?aK_NotKept ?aK_OtherBook ?aK_OtherWares ?aK_SwapError ?aK_TooGreat ?aK_TooMany ?x_gt ?x_tk ?xi_BadBasket ?xga_BadBasket ?xgn_BadBasket ?xc_BadBasket ?xo_BadBasket ?xb_BadBasket ?es_BadBasket ?eb ?eo ?et ?i0_BadBasket ?i_BadBasket_BadBasket ?i0_BadBaskets ?i_BadBasket_BadBaskets ?i0_BadNames ?i_BadBasket_BadNames ?i0_BadRest ?i_BadBasket_BadRest ?i0_BadRoad ?i_BadBasket_BadRoad ?i0_BadScale ?i_BadBasket_BadScale ?i0_BadSwap ?i_BadBasket_BadSwap ?i0_BadWares ?i_BadBasket_BadWares ?i0_Endless ?i_BadBasket_Endless ?i0_NoBook ?i_BadBasket_NoBook ?i0_NoLine ?i_BadBasket_NoLine ?i0_NoName ?i_BadBasket_NoName ?i0_NoSwap ?i_BadBasket_NoSwap ?i0_NotAlike ?i_BadBasket_NotAlike ?i0_NotKept ?i_BadBasket_NotKept ?i0_OtherBook ?i_BadBasket_OtherBook ?i0_OtherWares ?i_BadBasket_OtherWares ?i0_TooGreat ?i_BadBasket_TooGreat ?i0_TooMany ?i_BadBasket_TooMany ?i0_ValueError ?i_BadBasket_ValueError ?kit_int_bool ?kit_int_int ?kit_list_list
  (case aC_Book=>k_is)
  (case a0=>k_is)
  (case l0=>k_is)
  (case c0=>k_is)
  (case k0=>k_is)
  (case a1=>k_is)
  (case l1=>k_is)
  (case c1=>k_is)
  (case k1=>k_is)
  (case a2=>k_is)
  (case l2=>k_is)
  (case c2=>k_is)
  (case k2=>k_is)
  (case a3=>k_is)
  (case l3=>k_is)
  (case c3=>k_is)
  (case k3=>k_is)
  (case a4=>k_is)
  (case l4=>k_is)
  (case c4=>k_is)
  (case k4=>k_is)
  (case a5=>k_is)
  (case l5=>k_is)
  (case c5=>k_is)
  (case k5=>k_is)
  (case a6=>k_is)
  (case l6=>k_is)
  (case c6=>k_is)
  (case k6=>k_is)
  (case a7=>k_is)
  (case l7=>k_is)
  (case c7=>k_is)
  (case k7=>k_is)
  (case a8=>k_is)
  (case l8=>k_is)
  (case c8=>k_is)
  (case k8=>k_is)
  (case a9=>k_is)
  (case l9=>k_is)
  (case c9=>k_is)
  (case k9=>k_is)
  (case a10=>k_is)
  (case l10=>k_is)
  (case c10=>k_is)
  (case k10=>k_is)
  (case a11=>k_is)
  (case l11=>k_is)
  (case c11=>k_is)
  (case k11=>k_is)
  (case a12=>k_is)
  (case l12=>k_is)
  (case c12=>k_is)
  (case k12=>k_is)
  (case a13=>k_is)
  (case l13=>k_is)
  (case c13=>k_is)
  (case k13=>k_is)
  (case a14=>k_is)
  (case l14=>k_is)
  (case c14=>k_is)
  (case k14=>k_is)
  (case a15=>k_is)
  (case l15=>k_is)
  (case c15=>k_is)
  (case k15=>k_is)
  (case a16=>k_is)
  (case l16=>k_is)
  (case c16=>k_is)
  (case k16=>k_is)
  (case a17=>k_is)
  (case l17=>k_is)
  (case c17=>k_is)
  (case k17=>k_is)
  (case a18=>k_is)
  (case l18=>k_is)
  (case c18=>k_is)
  (case k18=>k_is)
  (case a19=>k_is)
  (case l19=>k_is)
  (case c19=>k_is)
  (case k19=>k_is)
  (case a20=>k_is)
  (case l20=>k_is)
  (case c20=>k_is)
  (case k20=>k_is)
  (case a21=>k_is)
  (case l21=>k_is)
  (case c21=>k_is)
  (case k21=>k_is)
  (case a22=>k_is)
  (case l22=>k_is)
  (case c22=>k_is)
  (case k22=>k_is)
  (case a23=>k_is)
  (case l23=>k_is)
  (case c23=>k_is)
  (case k23=>k_is)
  (case a24=>k_is)
  (case l24=>k_is)
  (case c24=>k_is)
  (case k24=>k_is)
  (case a25=>k_is)
  (case l25=>k_is)
  (case c25=>k_is)
  (case k25=>k_is)
  (case a26=>k_is)
  (case l26=>k_is)
  (case c26=>k_is)
  (case k26=>k_is)
  (case a27=>k_is)
  (case l27=>k_is)
  (case c27=>k_is)
  (case k27=>k_is)
  (case a28=>k_is)
  (case l28=>k_is)
  (case c28=>k_is)
  (case k28=>k_is)
  (case a29=>k_is)
  (case l29=>k_is)
  (case c29=>k_is)
  (case k29=>k_is)
  (case a30=>k_is)
  (case l30=>k_is)
  (case c30=>k_is)
  (case k30=>k_is)
  (case a31=>k_is)
  (case l31=>k_is)
  (case c31=>k_is)
  (case k31=>k_is)
  (case a32=>k_is)
  (case l32=>k_is)
  (case c32=>k_is)
  (case k32=>k_is)
  (case a33=>k_is)
  (case l33=>k_is)
  (case c33=>k_is)
  (case k33=>k_is)
  (case a34=>k_is)
  (case l34=>k_is)
  (case c34=>k_is)
  (case k34=>k_is)
  (case a35=>k_is)
  (case l35=>k_is)
  (case c35=>k_is)
  (case k35=>k_is)
  (case a36=>k_is)
  (case l36=>k_is)
  (case c36=>k_is)
  (case k36=>k_is)
  (case a37=>k_is)
  (case l37=>k_is)
  (case c37=>k_is)
  (case k37=>k_is)
  (case a38=>k_is)
  (case l38=>k_is)
  (case c38=>k_is)
  (case k38=>k_is)
  (case a39=>k_is)
  (case l39=>k_is)
  (case c39=>k_is)
  (case k39=>k_is)
  (case a40=>k_is)
  (case i40=>k_is)
  (case l40=>k_is)
  (case c40=>k_is)
  (case k40=>k_is)
  (case pg_Book=>k_is)
  (case hd_Book=>k_is)
  (case po_Book=>k_is)
  (case sa_Book=>k_is)
  (case mk_Book=>k_is)
  (case kc_Book=>k_is)
  (case n_Book_many=>k_is)
  (case n_Book_swaps=>k_is)
  (case z_ValueError=>k_is)
  (case z_any=>k_is)
  (case z_bool=>k_is)
  (case z_enumerate=>k_is)
  (case z_int=>k_is)
  (case z_isinstance=>k_is)
  (case z_len=>k_is)
  (case z_list=>k_is)
  (case z_max=>k_is)
  (case z_range=>k_is)
  (case z_reversed=>k_is)
  (case z_zip=>k_is)
  (case g_MOST_WARES=>k_is)
  (case g_MOST_SWAPS=>k_is)
  (case aK_BadBasket=>k_is)
  (case aK_BadBaskets=>k_is)
  (case aK_BadNames=>k_is)
  (case aK_BadRest=>k_is)
  (case aK_BadRoad=>k_is)
  (case aK_BadScale=>k_is)
  (case aK_BadSwap=>k_is)
  (case aK_BadWares=>k_is)
  (case aK_Endless=>k_is)
  (case aK_NoBook=>k_is)
  (case aK_NoLine=>k_is)
  (case aK_NoName=>k_is)
  (case aK_NoSwap=>k_is)
  (case aK_NotAlike=>k_is)
  (case aK_NotKept=>k_is)
  (case aK_OtherBook=>k_is)
  (case aK_OtherWares=>k_is)
  (case aK_SwapError=>k_is)
  (case aK_TooGreat=>k_is)
  (case aK_TooMany=>k_is)
  (case x_gt=>k_is)
  (case x_tk=>k_is)
  (case xi_BadBasket=>k_exc)
  (case xga_BadBasket=>k_is)
  (case xgn_BadBasket=>k_is)
  (case xc_BadBasket=>k_is)
  (case xo_BadBasket=>k_is)
  (case xb_BadBasket=>k_is)
  (case es_BadBasket=>k_is)
  (case eb=>k_is)
  (case eo=>k_is)
  (case et=>k_is)
  (case i0_BadBasket=>kit_is)
  (case i_BadBasket_BadBasket=>kit_is)
  (case i0_BadBaskets=>kit_is)
  (case i_BadBasket_BadBaskets=>kit_is)
  (case i0_BadNames=>kit_is)
  (case i_BadBasket_BadNames=>kit_is)
  (case i0_BadRest=>kit_is)
  (case i_BadBasket_BadRest=>kit_is)
  (case i0_BadRoad=>kit_is)
  (case i_BadBasket_BadRoad=>kit_is)
  (case i0_BadScale=>kit_is)
  (case i_BadBasket_BadScale=>kit_is)
  (case i0_BadSwap=>kit_is)
  (case i_BadBasket_BadSwap=>kit_is)
  (case i0_BadWares=>kit_is)
  (case i_BadBasket_BadWares=>kit_is)
  (case i0_Endless=>kit_is)
  (case i_BadBasket_Endless=>kit_is)
  (case i0_NoBook=>kit_is)
  (case i_BadBasket_NoBook=>kit_is)
  (case i0_NoLine=>kit_is)
  (case i_BadBasket_NoLine=>kit_is)
  (case i0_NoName=>kit_is)
  (case i_BadBasket_NoName=>kit_is)
  (case i0_NoSwap=>kit_is)
  (case i_BadBasket_NoSwap=>kit_is)
  (case i0_NotAlike=>kit_is)
  (case i_BadBasket_NotAlike=>kit_is)
  (case i0_NotKept=>kit_is)
  (case i_BadBasket_NotKept=>kit_is)
  (case i0_OtherBook=>kit_is)
  (case i_BadBasket_OtherBook=>kit_is)
  (case i0_OtherWares=>kit_is)
  (case i_BadBasket_OtherWares=>kit_is)
  (case i0_TooGreat=>kit_is)
  (case i_BadBasket_TooGreat=>kit_is)
  (case i0_TooMany=>kit_is)
  (case i_BadBasket_TooMany=>kit_is)
  (case i0_ValueError=>kit_is)
  (case i_BadBasket_ValueError=>kit_is)
  (case kit_int_bool=>kit_is)
  (case kit_int_int=>kit_is)
  (case kit_list_list=>kit_is)
end
