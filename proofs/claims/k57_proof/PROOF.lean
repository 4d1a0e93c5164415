import PyProof.Rows.All
import Wide.All
import OpenK.AllK
import Wide.FinOn
import Lean
import PyProof.EqAt
import PyProof.EqKinds
import PyProof.TupleCall
import PySem.Challenge.RW_swapbook_k57_refused_baskets
set_option Elab.async false
set_option linter.all false
set_option maxRecDepth 100000
namespace Hd
open PySem PySem.W PyProof.Rows
def runT (p:Program) (w:World) (m:Nat) (a:Option Value):Nat->SharedT->Thread->Option SharedT
 | 0,_,_=>none
 | n+1,s,t=>match through t with
  | true=>some s
  | false=>match stepOk m a t with
   | true=>(match stepT (denote treeTable) p w s t with
    | some x=>runT p w m a n x.1 x.2
    | none=>none)
   | false=>none
theorem zm0 {p:Program} {w:World} {m:Nat} {a:Option Value}:∀ {n:Nat} {s z:SharedT} {t:Thread},runT p w m a n s t=some z->topRun treeTable p w m a n s.abs t=some z.abs
 | 0,_,_,_,h=>by cases h
 | n+1,s,z,t,h=>by
  rw [runT] at h
  rw [topRun]
  cases h1:through t<;>rw [h1] at h
  ·cases h2:stepOk m a t<;>rw [h2] at h
   ·cases h
   ·cases h3:stepT (denote treeTable) p w s t with
    | none=>rw [h3] at h;cases h
    | some x=>rw [h3] at h;rw [stepT_spec (s':=x.1) (t':=x.2) h3];exact zm0 h
  ·cases h;rfl
def tr:List Obj->Nat->BT->BT
 | [],_,t=>t
 | o :: r,n,t=>tr r (n+1) (t.ins n o)
noncomputable def boot (P:Params) (os:OsState):SharedT:=⟨tr (boot_heap P).objs.toList 0 .nil,11,(boot_heap P).life,Array.mk [],boot_drawn,boot_toks,os⟩
theorem zl7 (P:Params) (os:OsState):(boot P os).abs=⟨boot_heap P,Array.mk [],boot_drawn,boot_toks,os⟩:=by kernel_rfl
theorem znJ (P:Params):((boot_heap P).isNs mainGlobals&&(Array.mk ([]:List GenState)).size == 0)=true:=by kernel_rfl
theorem zom (P:Params):(boot_heap P).objs.size=11:=by kernel_rfl
theorem znM (P:Params):(boot_heap P).nsMap mainGlobals "__annotations__"=some (.ref 6):=by kernel_rfl
noncomputable def lk (p:Program) (w:World) (s:Shared):Bool:=staticsOk (importedModules p.main.body) (boot_heap w.params) s.heap&&namesBound p s.heap&&gensDone s&&laidKept (boot_heap w.params) s.heap
def getT (s:SharedT) (a:Nat):Option Obj:=match Nat.blt a s.n with
 | true=>alive ((s.tree.get a).getD default)
 | false=>none
theorem zoq (s:SharedT) (a:Nat):s.abs.heap.get? a=getT s a:=by
 show (absHeap s.tree s.n s.life).get? a=_
 unfold Heap.get? getT
 rw [absHeap_at]
 by_cases h:a<s.n
 ·have e:Nat.blt a s.n=true:=by simpa [Nat.blt_eq] using h
  rw [if_pos h,e]
  generalize (s.tree.get a).getD default=o
  obtain ⟨c,d,dt,sl⟩:=o
  cases dt<;>rfl
 ·have e:Nat.blt a s.n=false:=by
   cases q:Nat.blt a s.n with
   | false=>rfl
   | true=>exact absurd (by simpa [Nat.blt_eq] using q) h
  rw [if_neg h,e]
theorem y_is (as:List Addr) (s:SharedT):as.map s.abs.heap.get?=as.map (getT s):=by
 congr 1
 funext a
 exact zoq s a
theorem left_of {p q:Program} {loose:List Str} {Xt:Shared->Bool} {α:Type} {Yf:Shared->α} {Ya:World->α} {N:Nat} {g0:Bool} {YT:SharedT->α}
  (e:opening p=plainProg p.main.scope.names) (hN:Nat.ble 600 N=true) (f:∀ s,fenceModules? p s=some s) (hy:∀ s:SharedT,Yf s.abs=YT s)
  (h:∀ w os,(runT p w 11 (some (.ref 6)) N (boot w.params os) (topStub p)).map (λs=>(lk p w s.abs,openSeen q loose (importedModules p.main.body) Xt g0 s.abs,YT s))=some (true,openGood q loose,Ya w)):LeftO p q loose Xt Yf Ya N g0:=λw=>by
 obtain ⟨s,h1,h2⟩:=Option.map_eq_some_iff.mp (boot_open e hN f w)
 obtain ⟨hp,gs,dr,tk,os⟩:=s
 have h3:hp=boot_heap w.params∧gs=Array.mk []∧dr=boot_drawn∧tk=boot_toks:=by simpa using h2
 obtain ⟨rfl,rfl,rfl,rfl⟩:=h3
 obtain ⟨z,h4,h5⟩:=Option.map_eq_some_iff.mp (h w os)
 have h6:=zm0 h4
 rw [zl7] at h6
 obtain ⟨l1,l2,l3⟩:_∧_∧_:=by simpa only [Prod.mk.injEq] using h5
 unfold openEnds
 rw [h1]
 show (topFrom treeTable p w N _).map _=_
 have h7:topFrom treeTable p w N ⟨boot_heap w.params,Array.mk [],boot_drawn,boot_toks,os⟩=some z.abs:=by
  unfold topFrom
  dsimp only
  rw [znJ,zom,znM,h6]
  show (match lk p w z.abs with | true=>_ | false=>_)=_
  rw [l1]
 rw [h7]
 exact congrArg some (Prod.ext l2 ((hy z).trans l3))
end Hd
set_option maxRecDepth 100000
namespace My
open PySem PySem.W PyProof.Rows
noncomputable def hdF (q:Program) (as:List Addr) (N:Nat) (w:World) (os:OsState) :=
 (Hd.runT PySem.Challenge.rw_swapbook_k57_refused_baskets.row.prog w 11 (some (.ref 6)) N (Hd.boot w.params os) (topStub PySem.Challenge.rw_swapbook_k57_refused_baskets.row.prog)).map (λs=>(Hd.lk PySem.Challenge.rw_swapbook_k57_refused_baskets.row.prog w s.abs,
  openSeen q [] (importedModules PySem.Challenge.rw_swapbook_k57_refused_baskets.row.prog.main.body) (λs=>xlAt q [] s&&recOk (RowW.records PySem.Challenge.rw_swapbook_k57_refused_baskets.row.toRowW) s) true s.abs,as.map (Hd.getT s)))
noncomputable def hdG (q:Program) (K:Params->Frag) (w:World):=some (true,openGood q [],(K w.params).map λp=>some p.2)
end My
set_option Elab.async false
lay_quick My.hdF My.hdG
namespace My
open PySem PySem.W PyProof.Rows
theorem hd_run {q:Program} {K:Params->Frag} {as:List Addr} {N:Nat} {e:∀ P,as=(K P).map (·.1)} (hN:Nat.ble 600 N=true)
  (h:∀ w os,W.Fast.tw6084617276858994590 q as N w os=W.Fast.tw7309032369996461460 q K w) :
  LeftO PySem.Challenge.rw_swapbook_k57_refused_baskets.row.prog q [] (λs=>xlAt q [] s&&recOk (RowW.records PySem.Challenge.rw_swapbook_k57_refused_baskets.row.toRowW) s) (kHook K as e).obs (kHook K as e).val N:=by
 rw [← W.Fast.te6084617276858994590,← W.Fast.te7309032369996461460] at h
 exact Hd.left_of (by kernel_rfl) hN (λs=>by kernel_rfl) (Hd.y_is as) h
end My
section
local macro_rules
 | `(tactic| refine $e:term)=>do
  if e.raw.isOfKind `Lean.Parser.Term.app&&e.raw[0].getId.eraseMacroScopes == `PySem.W.holds_open then
   let some _:=e.raw.find? (λs=>s.isOfKind `Lean.Parser.Term.syntheticHole&&s[1].getId.eraseMacroScopes == `hl) | Lean.Macro.throwUnsupported
   let h ← `(My.hd_run (by decide) (λw os=>by kernel_rfl))
   let e' ← e.raw.replaceM λs=>pure (if s.isOfKind `Lean.Parser.Term.syntheticHole&&s[1].getId.eraseMacroScopes == `hl then some h.raw else none)
   `(tactic| refine $(⟨e'⟩))
  else Lean.Macro.throwUnsupported
open PySem PySem.W PyProof.Rows
set_option maxRecDepth 100000 in
set_option maxHeartbeats 0 in
open_top My.headT for PySem.Challenge.rw_swapbook_k57_refused_baskets
end
namespace L2
open PySem PySem.Spec PyProof.Rows
abbrev Key:=Sum Int Str
def zpa:Key->Value->Bool
 | .inl k,v=>Value.isInt k v
 | .inr x,v=>Value.isStrOf x v
def zrw (w:World):Key->Int
 | .inl k=>hashInt k
 | .inr x=>hashStr w x
theorem keyIs_shape:∀ {k:Key} {v:Value},zpa k v=true->(∃ i t,k=Sum.inl i∧v=Value.int i t)∨(∃ x t,k=Sum.inr x∧v=Value.str x t)
 | .inl i,v,h=>by
  obtain ⟨t,e⟩:=Value.isInt_shape (k:=i) (v:=v) h
  exact .inl ⟨i,t,rfl,e⟩
 | .inr x,v,h=>by
  obtain ⟨t,e⟩:=Value.isStrOf_shape (x:=x) (v:=v) h
  exact .inr ⟨x,t,rfl,e⟩
theorem zpo (a b:Int):decide ((Sum.inl a:Key)=Sum.inl b)=(a == b):=by
 by_cases e:a=b
 ·subst e;simp
 ·have h:¬ (Sum.inl a:Key)=Sum.inl b:=λq=>e (Sum.inl.inj q)
  rw [decide_eq_false h]
  exact (beq_eq_false_iff_ne.mpr e).symm
theorem zpR (a b:Str):decide ((Sum.inr a:Key)=Sum.inr b)=decide (a=b):=by
 by_cases e:a=b
 ·subst e;simp
 ·have h:¬ (Sum.inr a:Key)=Sum.inr b:=λq=>e (Sum.inr.inj q)
  rw [decide_eq_false h,decide_eq_false e]
theorem zoO (a:Int) (b:Str):decide ((Sum.inl a:Key)=Sum.inr b)=false:=decide_eq_false (λq=>nomatch q)
theorem zpT (a:Str) (b:Int):decide ((Sum.inr a:Key)=Sum.inl b)=false:=decide_eq_false (λq=>nomatch q)
def zkA (prog:Program) (w:World):PySem.KeyKind prog w Key where
 is:=zpa
 hash:=zrw w
 inj:=λv a b ha hb=>by
  rcases keyIs_shape ha with ⟨i,t,rfl,rfl⟩ | ⟨x,t,rfl,rfl⟩
  ·rcases keyIs_shape hb with ⟨j,u,rfl,e⟩ | ⟨y,u,rfl,e⟩
   ·injection e with e1 _;rw [e1]
   ·exact nomatch e
  ·rcases keyIs_shape hb with ⟨j,u,rfl,e⟩ | ⟨y,u,rfl,e⟩
   ·exact nomatch e
   ·injection e with e1 _;rw [e1]
 byValue:=λk v h=>by
  rcases keyIs_shape h with ⟨i,t,rfl,rfl⟩ | ⟨x,t,rfl,rfl⟩<;>rfl
 pyHash:=λhv h=>by
  rcases keyIs_shape hv with ⟨i,t,rfl,rfl⟩ | ⟨x,t,rfl,rfl⟩
  ·exact wpAny_pyHash_int h
  ·exact wpAny_pyHash_str h
 eqBool:=λhu hv h=>by
  rcases keyIs_shape hu with ⟨i,t,rfl,rfl⟩ | ⟨x,t,rfl,rfl⟩
  ·rcases keyIs_shape hv with ⟨j,u,rfl,rfl⟩ | ⟨y,u,rfl,rfl⟩
   ·rw [zpo] at h;exact wpAny_eqBool_int h
   ·rw [zoO] at h;exact SeqAt.EqAt.int_str i t y u _ _ _ _ h
  ·rcases keyIs_shape hv with ⟨j,u,rfl,rfl⟩ | ⟨y,u,rfl,rfl⟩
   ·rw [zpT] at h;exact SeqAt.EqAt.str_int x t j u _ _ _ _ h
   ·rw [zpR] at h;exact wpAny_eqBool_str h
 «strs»:=λk x t v h=>by
  rcases keyIs_shape h with ⟨i,u,rfl,e⟩ | ⟨y,u,rfl,e⟩
  ·exact nomatch e
  ·injection e with e1 _
   subst e1
   cases v<;>rfl
end L2
namespace L2
open PySem PySem.Spec PyProof.Rows
inductive V where
 | non | bl (b:Bool) | int (i:Int) | str (x:Str) | byt (b:Array UInt8) | flt (b:UInt64) | ref (a:Addr) | ty (n:String)
 deriving DecidableEq
def RelV:V->Value->Prop
 | .non,u=>u=Value.none
 | .bl b,u=>u=Value.bool b
 | .int i,u=>∃ t,u=Value.int i t
 | .str x,u=>∃ t,u=Value.str x t
 | .byt b,u=>∃ t,u=Value.bytes b t
 | .flt b,u=>∃ t,u=Value.float b t
 | .ref a,u=>u=Value.ref a
 | .ty n,u=>u=Value.type n
abbrev Vals:List V->List Value->Prop:=Paired RelV
theorem Vals.length {xs:List V} {us:List Value} (r:Vals xs us):xs.length=us.length:=Paired.length r
theorem Vals.get:∀ {xs:List V} {us:List Value} {i:Nat} {x:V},Vals xs us->xs[i]?=some x->∃ u,us[i]?=some u∧RelV x u
 | _,_,_,_,.nil,e=>by simp at e
 | _,_,0,_,.cons r _,e=>by simp at e;subst e;exact ⟨_,rfl,r⟩
 | _,_,i+1,x,.cons _ t,e=>by
  obtain ⟨u,h1,h2⟩:=Vals.get (i:=i) (x:=x) t (by simpa using e)
  exact ⟨u,by simpa using h1,h2⟩
theorem Vals.set {x:V} {u:Value} (r:RelV x u):∀ {xs:List V} {us:List Value} (i:Nat),Vals xs us->Vals (xs.set i x) (us.set i u)
 | _,_,_,.nil=>.nil
 | _,_,0,.cons _ t=>.cons r t
 | _,_,i+1,.cons q t=>.cons q (Vals.set r i t)
theorem Vals.append:∀ {xs ys:List V} {us ws:List Value},Vals xs us->Vals ys ws->Vals (xs++ys) (us++ws)
 | _,_,_,_,.nil,s=>s
 | _,_,_,_,.cons r t,s=>.cons r (Vals.append t s)
theorem Vals.take:∀ {xs:List V} {us:List Value} (n:Nat),Vals xs us->Vals (xs.take n) (us.take n)
 | _,_,0,_=>.nil
 | _,_,_+1,.nil=>.nil
 | _,_,n+1,.cons r t=>.cons r (Vals.take n t)
theorem Vals.drop:∀ {xs:List V} {us:List Value} (n:Nat),Vals xs us->Vals (xs.drop n) (us.drop n)
 | _,_,0,r=>r
 | _,_,_+1,.nil=>.nil
 | _,_,n+1,.cons _ t=>Vals.drop n t
def zoy:Option V->Option Value->Prop
 | some v,some u=>RelV v u
 | none,none=>True
 | _,_=>False
def KV {κ:Type}:List (κ×V)->List (κ×Value)->Prop:=Paired λ(p:κ×V) (q:κ×Value)=>p.1=q.1∧RelV p.2 q.2
def kV:Key->V
 | .inl i=>.int i
 | .inr x=>.str x
inductive HO where
 | lst (xs:List V)
 | tup (xs:List V)
 | dK (kvs:List (Key×V)) | dT (kvs:List (List Key×V))
 | set (S:Int->Bool) (n:Nat)
 | ins (C dx:Addr) (fs:List (Str×V))
 | own (x:Addr)
 | xd (fs:List (Str×V))
 | met (f x:Addr)
 | rng (lo hi:Int)
 | frz (o:Obj) (u:HO)
 | tbl (ps:Array Value)
 | ext (φ:Heap->Prop)
abbrev Hp:=Addr->Option HO
def upd (H:Hp) (a:Addr) (o:HO):Hp:=λb=>if b=a then some o else H b
theorem upd_same {H:Hp} {a:Addr} {o:HO}:upd H a o a=some o:=by unfold upd;rw [if_pos rfl]
theorem upd_ne {H:Hp} {a b:Addr} {o:HO} (h:b≠a):upd H a o b=H b:=by unfold upd;rw [if_neg h]
theorem zl0 {H:Hp} {a b:Addr} {o u:HO} (h:H a=some o) (h':H b=some u) (d:o≠u):a≠b:=by
 intro e;subst e;rw [h] at h';exact d (Option.some.inj h')
theorem ne_of_none {H:Hp} {a b:Addr} {o:HO} (h:H a=some o) (h':H b=none):a≠b:=by
 intro e;subst e;rw [h] at h';cases h'
section
variable (P:Program) (w:World)
def zcX (H:Hp) (h:Heap) (a:Addr):HO->Prop
 | .lst xs=>xs.length≤sizeLine∧∃ (its:List Value) (n:Nat),Vals xs its∧h.get? a=some { cls:=.type "list",data:=.seq its.toArray n }
 | .tup xs=>xs.length≤sizeLine∧∃ its:List Value,Vals xs its∧IsTup h a its.toArray
 | .dK kvs=>kvs.length≤sizeLine∧(a == sysModules)=false∧∃ vs,KV kvs vs∧h.DictOf (zkA P w) a vs
 | .dT kvs=>kvs.length≤sizeLine∧(a == sysModules)=false∧∃ xs:List (List Key×Addr×Value),
   Paired (λ(p:List Key×V) (q:List Key×Addr×Value)=>p.1=q.1∧H q.2.1=some (.tup (p.1.map kV))∧RelV p.2 q.2.2) kvs xs ∧
   ∃ o es ep,h.get? a=some o∧o.ExactDict∧o.data=.dict es ep∧es.toList=xs.map (entryOfKey (tupleKind (zkA P w)))∧(xs.map (·.1)).Nodup
 | .set S n=>h.SetOf (intKind P w) a S n
 | .ins C dx fs=>H dx=some (.own a)∧fs.length≤1000∧dx≠a∧h.get? a=some (W.instObj C dx) ∧
   ∃ mA,h.Ns1 dx mA∧(∀ f,zoy (fs.lookup f) (mA f))∧PySem.Within mA (fs.map (·.1))
 | .own _=>∃ o,h.get? a=some o
 | .xd fs=>∃ mA,h.Ns1 a mA∧∀ f,zoy (fs.lookup f) (mA f)
 | .rng lo hi=>∃ t u v,h.get? a=some { cls:=.type "range",data:=.fields #[.int lo t,.int hi u,.int 1 v] }
 | .frz o u=>h.get? a=some o∧zcX H h a u
 | .tbl ps=>h.get? a=some { cls:=.none,data:=.fields ps }
 | .met f x=>h.get? a=some (W.methodObj (.ref f) (.ref x))
 | .ext φ=>φ h∧(∃ o,h.get? a=some o)∧∀ h1 h2:Heap,φ h1->(∀ o,h1.get? a=some o->h2.get? a=some o)->φ h2
def HOk (H:Hp) (h:Heap):Prop:=∀ a o,H a=some o->zcX P w H h a o
end
section
variable {P:Program} {w:World} {H H':Hp} {h h':Heap} {a:Addr} {o:HO}
theorem zcX.lt (x:zcX P w H h a o):a<h.objs.size:=by
 cases o with
 | lst xs=>obtain ⟨_,_,_,_,e⟩:=x;exact Heap.lt_size e
 | tup xs=>obtain ⟨_,_,_,p⟩:=x;exact p.lt
 | dK kvs=>obtain ⟨_,_,_,_,o,_,_,e,_⟩:=x;exact Heap.lt_size e
 | dT kvs=>obtain ⟨_,_,_,_,o,_,_,e,_⟩:=x;exact Heap.lt_size e
 | set S n=>obtain ⟨o,_,_,_,e,_⟩:=x;exact Heap.lt_size e
 | ins C dx fs=>obtain ⟨_,_,_,e,_⟩:=x;exact Heap.lt_size e
 | own y=>obtain ⟨_,e⟩:=x;exact Heap.lt_size e
 | xd fs=>obtain ⟨_,⟨_,_,_,e,_⟩,_⟩:=x;exact Heap.lt_size e
 | rng lo hi=>obtain ⟨_,_,_,e⟩:=x;exact Heap.lt_size e
 | frz ob u=>obtain ⟨e,_⟩:=x;exact Heap.lt_size e
 | tbl ps=>exact Heap.lt_size (show h.get? a=some _ from x)
 | met f y=>exact Heap.lt_size (show h.get? a=some _ from x)
 | ext φ=>obtain ⟨_,⟨_,e⟩,_⟩:=x;exact Heap.lt_size e
theorem Paired.mapP {α β:Type} {F G:α->β->Prop}:∀ {l₁:List α} {l₂:List β},Paired F l₁ l₂->(∀ a b,F a b->G a b)->Paired G l₁ l₂
 | _,_,.nil,_=>.nil
 | _,_,.cons r t,f=>.cons (f _ _ r) (Paired.mapP t f)
theorem zcX.stay (x:zcX P w H h a o) (k:∀ b u,(b=a∨H b=some (.own a))->h.get? b=some u->h'.get? b=some u)
  (ho:∀ b,H b=some (.own a)->H' b=some (.own a)) (ht:∀ b xs,H b=some (.tup xs)->H' b=some (.tup xs)):zcX P w H' h' a o:=by
 induction o with
 | lst xs=>obtain ⟨z,its,n,r,e⟩:=x;exact ⟨z,its,n,r,k _ _ (.inl rfl) e⟩
 | tup xs=>obtain ⟨z,its,r,ob,e,c⟩:=x;exact ⟨z,its,r,ob,k _ _ (.inl rfl) e,c⟩
 | dK kvs=>obtain ⟨z,y,vs,r,ob,es,ep,e,c⟩:=x;exact ⟨z,y,vs,r,ob,es,ep,k _ _ (.inl rfl) e,c⟩
 | dT kvs =>
  obtain ⟨z,y,xs,r,ob,es,ep,e,c⟩:=x
  exact ⟨z,y,xs,Paired.mapP r λp q z=>⟨z.1,ht _ _ z.2.1,z.2.2⟩,ob,es,ep,k _ _ (.inl rfl) e,c⟩
 | set S n=>obtain ⟨ob,es,ep,t,e,c⟩:=x;exact ⟨ob,es,ep,t,k _ _ (.inl rfl) e,c⟩
 | ins C dx fs =>
  obtain ⟨d,z,ne,e,mA,⟨od,es,ep,e2,c⟩,r⟩:=x
  exact ⟨ho _ d,z,ne,k _ _ (.inl rfl) e,mA,⟨od,es,ep,k _ _ (.inr d) e2,c⟩,r⟩
 | own y=>obtain ⟨ob,e⟩:=x;exact ⟨ob,k _ _ (.inl rfl) e⟩
 | xd fs=>obtain ⟨mA,⟨od,es,ep,e,c⟩,r⟩:=x;exact ⟨mA,⟨od,es,ep,k _ _ (.inl rfl) e,c⟩,r⟩
 | rng lo hi=>obtain ⟨t,u,v,e⟩:=x;exact ⟨t,u,v,k _ _ (.inl rfl) e⟩
 | frz ob u ih=>obtain ⟨e,q⟩:=x;exact ⟨k _ _ (.inl rfl) e,ih q⟩
 | tbl ps =>
  have e:h.get? a=some { cls:=.none,data:=.fields ps }:=x
  show h'.get? a=some { cls:=.none,data:=.fields ps }
  exact k a _ (.inl rfl) e
 | met f y =>
  have e:h.get? a=some (W.methodObj (.ref f) (.ref y)):=x
  show h'.get? a=some (W.methodObj (.ref f) (.ref y))
  exact k a _ (.inl rfl) e
 | ext φ=>obtain ⟨p,⟨o,e⟩,st⟩:=x;exact ⟨st _ _ p λo q=>k _ _ (.inl rfl) q,⟨o,k _ _ (.inl rfl) e⟩,st⟩
theorem HOk.lt (x:HOk P w H h) (e:H a=some o):a<h.objs.size:=(x a o e).lt
theorem HOk.fresh (x:HOk P w H h) (e:h.objs.size≤a):H a=none:=by
 cases q:H a with
 | none=>rfl
 | some u=>exact absurd (Nat.lt_of_lt_of_le (x.lt q) e) (Nat.lt_irrefl _)
theorem HOk.kept (x:HOk P w H h) (k:∀ b u,h.get? b=some u->h'.get? b=some u):HOk P w H h':=λa o e =>
 (x a o e).stay (λb u _ q=>k b u q) (λ_ q=>q) λ_ _ q=>q
theorem HOk.laid (x:HOk P w H h) (k:∀ b u,h.get? b=some u->h'.get? b=some u) (hp:h.objs.size≤a) (new:zcX P w (upd H a o) h' a o):HOk P w (upd H a o) h':=λb u e=>by
 have hn:=x.fresh hp
 by_cases hb:b=a
 ·subst hb;rw [upd_same] at e;cases e;exact new
 ·rw [upd_ne hb] at e
  exact (x b u e).stay (λc v _ q=>k c v q) (λc q=>by rw [upd_ne (ne_of_none q hn)];exact q) λc xs q=>by rw [upd_ne (ne_of_none q hn)];exact q
end
def Rd (H:Hp) (a:Addr) (u:HO):Prop:=H a=some u∨∃ o,H a=some (.frz o u)
theorem Rd.ok {P:Program} {w:World} {H:Hp} {h:Heap} {a:Addr} {u:HO} (r:Rd H a u) (x:HOk P w H h):zcX P w H h a u:=by
 rcases r with r | ⟨o,r⟩
 ·exact x a u r
 ·obtain ⟨_,q⟩:=x a _ r
  exact q
def Mut:Option HO->Prop
 | some (.lst _)=>True
 | some (.dK _)=>True
 | some (.dT _)=>True
 | some (.set _ _)=>True
 | some (.ins _ _ _)=>True
 | some (.ext _)=>True
 | _=>False
section
variable {P:Program} {w:World} {H:Hp} {h h':Heap} {x e:Addr} {o':HO}
theorem HOk.write (ok:HOk P w H h) (mu:Mut (H x)) (he:e=x∨H e=some (.own x)) (k:∀ b u,b≠e->h.get? b=some u->h'.get? b=some u) (heo:∃ u,h'.get? e=some u)
  (new:zcX P w (upd H x o') h' x o'):HOk P w (upd H x o') h':=λb u q=>by
 have nown:∀ c y,H c=some (.own y)->c≠x:=λc y r z=>by subst z;rw [r] at mu;exact mu
 have ntup:∀ c xs,H c=some (.tup xs)->c≠x:=λc xs r z=>by subst z;rw [r] at mu;exact mu
 by_cases hb:b=x
 ·subst hb;rw [upd_same] at q;cases q;exact new
 ·rw [upd_ne hb] at q
  by_cases hbe:b=e
  ·have q':H b=some (.own x):=by
    rcases he with z | z
    ·exact absurd (hbe.trans z) hb
    ·rw [hbe];exact z
   rw [q] at q';cases q'
   obtain ⟨v,hv⟩:=heo
   exact ⟨v,by rw [hbe];exact hv⟩
  ·refine (ok b u q).stay (λc v hc r=>k c v ?_ r) (λc r=>by rw [upd_ne (nown c b r)];exact r) λc xs r=>by rw [upd_ne (ntup c xs r)];exact r
   rcases hc with rfl | hc
   ·exact hbe
   ·rintro rfl
    rcases he with z | z
    ·exact nown c b hc z
    ·rw [hc] at z;cases z;exact hb rfl
end
structure Un (fs ex:List Addr) (H H':Hp) (h h':Heap):Prop where
 keep:∀ b o,h.get? b=some o->H b=none->b ∉ fs->b ∉ ex->h'.get? b=some o
 slot:∀ b o,h.get? b=some o->H b=none->b∈fs->b ∉ ex->∃ sl,h'.get? b=some { o with slots:=sl }
 free:∀ b o,h.get? b=some o->H b=none->b ∉ ex->H' b=none
 there:∀ b o,h.get? b=some o->b ∉ ex->∃ o',h'.get? b=some o'
 tups:∀ b xs,H b=some (.tup xs)->H' b=some (.tup xs)
 frzs:∀ b o u,H b=some (.frz o u)->H' b=some (.frz o u)
 tbls:∀ b ps,H b=some (.tbl ps)->∃ more,H' b=some (.tbl (ps++more))
section
variable {fs fs' ex ex':List Addr} {H H1 H2:Hp} {h h1 h2 h':Heap} {a x e:Addr} {o:HO}
theorem Un.any (u:Un fs ex H H1 h h1) {b:Addr} {ob:Obj} (q:h.get? b=some ob) (n:H b=none) (hx:b ∉ ex):∃ sl,h1.get? b=some { ob with slots:=sl }:=by
 by_cases hb:b∈fs
 ·exact u.slot b ob q n hb hx
 ·exact ⟨ob.slots,u.keep b ob q n hb hx⟩
theorem Un.kept (k:∀ b u,h.get? b=some u->h'.get? b=some u):Un fs ex H H h h' :=
 ⟨λb ob q _ _ _=>k b ob q,λb ob q _ _ _=>⟨ob.slots,k b ob q⟩,λ_ _ _ n _=>n,λb ob q _=>⟨ob,k b ob q⟩,λ_ _ q=>q,λ_ _ _ q=>q,λ_ ps q=>⟨#[],by rw [q];simp⟩⟩
theorem Un.refl:Un fs ex H H h h:=Un.kept λ_ _ q=>q
theorem Un.laid (k:∀ b u,h.get? b=some u->h'.get? b=some u) (hp:h.objs.size≤a) (hn:H a=none):Un fs ex H (upd H a o) h h' where
 keep:=λb u q _ _ _=>k b u q
 slot:=λb u q _ _ _=>⟨u.slots,k b u q⟩
 free:=λb u q n _=>by rw [upd_ne (Nat.ne_of_lt (Nat.lt_of_lt_of_le (Heap.lt_size q) hp))];exact n
 there:=λb u q _=>⟨u,k b u q⟩
 tups:=λb xs q=>by rw [upd_ne (ne_of_none q hn)];exact q
 frzs:=λb u xs q=>by rw [upd_ne (ne_of_none q hn)];exact q
 tbls:=λb ps q=>⟨#[],by rw [upd_ne (ne_of_none q hn),q];simp⟩
theorem Un.write (mu:Mut (H x)) (he:e=x∨H e=some (.own x)) (k:∀ b u,b≠e->h.get? b=some u->h'.get? b=some u) (heo:∃ u,h'.get? e=some u):Un fs ex H (upd H x o) h h':=by
 have hx:∀ b,H b=none->b≠x:=λb n z=>by subst z;rw [n] at mu;exact mu
 have hb:∀ b,H b=none->b≠e:=λb n z=>by
  subst z
  rcases he with r | r
  ·exact hx b n r
  ·rw [n] at r;cases r
 have hm:∀ b u,H b=some u->¬ Mut (some u)->b≠x:=λb u q nm z=>by subst z;rw [q] at mu;exact nm mu
 refine ⟨λb u q n _ _=>k b u (hb b n) q,λb u q n _ _=>⟨u.slots,k b u (hb b n) q⟩,λb u q n _=>by rw [upd_ne (hx b n)];exact n,λb u q _=>?_,
  λb xs q=>by rw [upd_ne (hm b _ q λz=>z)];exact q,λb u xs q=>by rw [upd_ne (hm b _ q λz=>z)];exact q,λb ps q=>⟨#[],by rw [upd_ne (hm b _ q λz=>z),q];simp⟩⟩
 by_cases hbe:b=e
 ·subst hbe;exact heo
 ·exact ⟨u,k b u hbe q⟩
end
def trk (h:Heap) (H:Hp):List Addr:=(List.range h.objs.size).filter λa=>(H a).isSome
def zmn (h:Heap) (H:Hp):Heap:=W.hideAll h (trk h H)
theorem zkL (h:Heap) (H:Hp):(zmn h H).objs.size=h.objs.size:=W.hideAll_size _ _
theorem zmo {h:Heap} {H:Hp} {b:Addr} {o:Obj} (e:h.get? b=some o) (n:H b=none):(zmn h H).get? b=some o :=
 W.hideAll_get _ e λhm=>by
  have q:(H b).isSome=true:=(List.mem_filter.mp hm).2
  rw [n] at q;simp at q
theorem znI {h:Heap} {H:Hp} {b:Addr} {o:Obj} (e:(zmn h H).get? b=some o):h.get? b=some o∧H b=none:=by
 have e':h.get? b=some o:=W.of_hideAll (trk h H) e
 refine ⟨e',?_⟩
 cases q:H b with
 | none=>rfl
 | some x =>
  have hm:b∈trk h H:=List.mem_filter.mpr ⟨List.mem_range.mpr (Heap.lt_size e'),by simp [q]⟩
  have z:(zmn h H).get? b=none:=W.hideAll_none (trk h H) hm
  rw [z] at e;cases e
end L2
namespace L2
open PySem PySem.Spec PyProof.Rows
structure Mod (K:W.Frag) (mg:Str->Option Value) (base:Heap):Prop where
 kin:K.In base
 glob:base.Ns mainGlobals mg
 blt:∃ mb,base.Ns builtinsNs mb∧∀ x:Str,x≠"__name__"->mb x=bootBuiltins x
 nolimit:base.NoLimit
structure Cx where
 prog:Program
 w:World
 K:W.Frag
 mg:Str->Option Value
 base:Heap
 A:Around
 N:List Str
 s₀:Shared
 H₀:Hp
 env:Env
 outer:List Env
 stack:List Env
 ex:List Addr
 fn:Str->Bool
 calm:Bool
 pn:List (Addr×Obj)
 xe:Value->Shared->Prop
def frs (l:List Env):List Addr:=l.filterMap (·.frame)
abbrev Cx.fs (X:Cx):List Addr:=frs X.outer
def Vis (sc:Scope) (x:Str):Prop:=sc.names.lookup x=some .local∨sc.names.lookup x=some .cell∨sc.names.lookup x=some .free
def Loc (sc:Scope) (x:Str):Prop:=sc.names.lookup x=some .local∨sc.names.lookup x=some .cell
def zrp (env:Env) (h:Heap) (m:Str->Option Value) (x:Str) (u:Value):Prop :=
 (env.kindOf x=some .local∧m x=some u)∨((env.kindOf x=some .cell∨env.kindOf x=some .free)∧∃ c,env.cells.lookup x=some c∧h.IsCell c (some u))
structure Cx.Ok (X:Cx):Prop where
 mod:Mod X.K X.mg X.base
 kind:X.env.scope.kind=.function
 glob:X.env.globals=mainGlobals
 blt:X.env.builtins=builtinsNs
 above:X.s₀.heap.objs.size≤X.env.locals
 inj:∀ x y c,X.env.cells.lookup x=some c->X.env.cells.lookup y=some c->x=y
 has:∀ x,(X.env.kindOf x=some .cell∨X.env.kindOf x=some .free)->∃ c,X.env.cells.lookup x=some c
 cab:∀ x c,X.fn x=true->X.env.cells.lookup x=some c->X.s₀.heap.objs.size≤c
 hd:X.calm=true->X.A.handled=none
 frames:X.A.frames=some X.stack
 stk:X.stack=X.outer∨(X.stack=X.env :: X.outer∧X.env.frame=some X.env.locals)
 exf:∀ b∈X.ex,b≠X.env.locals∧∀ x c,X.env.cells.lookup x=some c->c≠b
 bs:∀ b o,X.base.get? b=some o->X.s₀.heap.get? b=some o∧X.H₀ b=none
 bsz:X.base.objs.size≤X.s₀.heap.objs.size
 noex:∀ b o,X.base.get? b=some o->b ∉ X.ex
 exfs:∀ b∈X.ex,b ∉ X.fs
 funs:X.s₀.heap.FunFrames X.base X.outer
 frf:∀ b∈X.fs,X.H₀ b=none
structure Inv (X:Cx) (pins:List (Addr×Obj)) (σ:List (Option V)) (H:Hp) (s:Shared):Prop where
 ok:X.Ok
 os:s.os=X.s₀.os
 bare:AllBare s.gens
 base:Un X.fs X.ex X.H₀ H X.s₀.heap s.heap
 loc:∃ m,s.heap.Ns X.env.locals m∧∀ (i:Nat) (x:Str) (v:V),X.N[i]?=some x->σ[i]?=some (some v)->Vis X.env.scope x->∃ u,RelV v u∧zrp X.env s.heap m x u
 cell:∀ x c,X.env.cells.lookup x=some c->∃ v,s.heap.IsCell c v
 free:H X.env.locals=none
 freeC:∀ x c,X.env.cells.lookup x=some c->H c=none
 pin:∀ p∈X.pn++pins,s.heap.get? p.1=some p.2∧H p.1=none∧p.1≠X.env.locals∧p.1 ∉ X.fs∧∀ v,p.2.data≠.cell v
 hok:HOk X.prog X.w H s.heap
 len:σ.length=X.N.length
section
variable {X:Cx} {pins:List (Addr×Obj)} {σ:List (Option V)} {H H':Hp} {s:Shared} {h':Heap}
theorem Cx.Ok.nofr (ok:X.Ok) {b:Addr} {o:Obj} (e:X.base.get? b=some o):b ∉ X.fs:=λhb=>by
 have:=(ok.funs.mem hb).1
 rw [e] at this;cases this
theorem Inv.bs (I:Inv X pins σ H s):∀ b o,X.base.get? b=some o->s.heap.get? b=some o∧H b=none:=λb o e =>
 ⟨I.base.keep b o (I.ok.bs b o e).1 (I.ok.bs b o e).2 (I.ok.nofr e) (I.ok.noex b o e),I.base.free b o (I.ok.bs b o e).1 (I.ok.bs b o e).2 (I.ok.noex b o e)⟩
theorem Inv.bk (I:Inv X pins σ H s):∀ b o,X.base.get? b=some o->s.heap.get? b=some o:=λb o e=>(I.bs b o e).1
theorem Inv.mod (I:Inv X pins σ H s):Mod X.K X.mg X.base:=I.ok.mod
theorem Inv.kIn (I:Inv X pins σ H s):X.K.In s.heap:=I.ok.mod.kin.keeps I.bk
theorem Inv.nolimit (I:Inv X pins σ H s):s.heap.NoLimit:=I.ok.mod.nolimit.keeps I.bk
theorem Inv.fr (I:Inv X pins σ H s):∃ m,Fr X.base X.env.locals s.heap m :=
 let ⟨m,hn,_⟩:=I.loc
 ⟨m,hn,I.bk,Nat.le_trans I.ok.bsz I.ok.above⟩
theorem Inv.lt (I:Inv X pins σ H s):X.env.locals<s.heap.objs.size:=let ⟨_,hn,_⟩:=I.loc;hn.lt
theorem Inv.sz (I:Inv X pins σ H s):X.s₀.heap.objs.size≤s.heap.objs.size:=Nat.le_trans I.ok.above (Nat.le_of_lt I.lt)
theorem Inv.nofs (I:Inv X pins σ H s) {a:Addr} (h:s.heap.objs.size≤a):a ∉ X.fs:=λhb=>by
 obtain ⟨_,o,ho,_⟩:=I.ok.funs.mem hb
 exact absurd (Nat.lt_of_lt_of_le (Heap.lt_size ho) (Nat.le_trans I.sz h)) (Nat.lt_irrefl _)
theorem Inv.cne (I:Inv X pins σ H s):∀ x c,X.env.cells.lookup x=some c->c≠X.env.locals:=λx c e z=>by
 obtain ⟨v,o,ho,hd⟩:=I.cell x c e
 obtain ⟨m,⟨o',es,ep,ho',hd',_⟩,_⟩:=I.loc
 rw [z,ho'] at ho;cases ho;rw [hd'] at hd;cases hd
theorem Inv.funs (I:Inv X pins σ H s):s.heap.FunFrames X.base X.outer:=by
 have all:∀ (l:List Env),(∀ b∈frs l,b∈X.fs)->X.s₀.heap.FunFrames X.base l->s.heap.FunFrames X.base l:=by
  intro l
  induction l with
  | nil=>intro _ _;trivial
  | cons env r ih =>
   intro hs hl
   obtain ⟨hk,⟨L,o,hf,hn,ho,hd⟩,hr⟩:=hl
   have hL:L∈X.fs:=hs L (by unfold frs;rw [List.filterMap_cons,hf];exact List.mem_cons_self)
   obtain ⟨sl,e⟩:=I.base.slot L o ho (I.ok.frf L hL) hL λz=>I.ok.exfs L z hL
   exact ⟨hk,⟨L,_,hf,hn,e,hd⟩,ih (λb hb=>hs b (by unfold frs;rw [List.filterMap_cons,hf];exact List.mem_cons_of_mem _ hb)) hr⟩
 exact all X.outer (λ_ hb=>hb) I.ok.funs
theorem Inv.stack (I:Inv X pins σ H s):s.heap.FunFrames X.base X.stack:=by
 rcases I.ok.stk with e | ⟨e,hf⟩
 ·rw [e];exact I.funs
 ·rw [e]
  obtain ⟨m,hn,_⟩:=I.loc
  refine .cons (by rw [I.ok.kind];decide) hf hn ?_ I.funs
  exact Heap.get?_none_of_le (Nat.le_trans I.ok.bsz I.ok.above)
theorem Inv.stkSub (I:Inv X pins σ H s):∀ b∈frs X.stack,b∈X.env.locals :: X.fs:=λb hb=>by
 rcases I.ok.stk with e | ⟨e,hf⟩
 ·rw [e] at hb;exact List.mem_cons_of_mem _ hb
 ·rw [e] at hb
  unfold frs at hb
  rw [List.filterMap_cons,hf] at hb
  exact hb
theorem Inv.stkFree (I:Inv X pins σ H s):∀ b∈frs X.stack,H b=none:=λb hb=>by
 rcases List.mem_cons.mp (I.stkSub b hb) with e | hb
 ·rw [e];exact I.free
 ·obtain ⟨_,o,ho,_⟩:=I.ok.funs.mem hb
  exact I.base.free b o ho (I.ok.frf b hb) λz=>I.ok.exfs b z hb
theorem Inv.step {g':Array GenState} {t':Nat} {d':Drawn} {ch:List Addr} (I:Inv X pins σ H s)
  (hch:∀ b∈ch,(b∈X.ex∨X.s₀.heap.objs.size≤b)∧b≠X.env.locals∧(∀ x c,X.env.cells.lookup x=some c->c≠b)∧∀ p∈X.pn++pins,p.1≠b)
  (keep:∀ b o,b≠X.env.locals->b ∉ X.fs->b ∉ ch->s.heap.get? b=some o->H b=none->h'.get? b=some o)
  (slot:∀ b o,b≠X.env.locals->b∈X.fs->b ∉ ch->s.heap.get? b=some o->H b=none->∃ sl,h'.get? b=some { o with slots:=sl }) (free:∀ b o,b ∉ ch->s.heap.get? b=some o->H b=none->H' b=none)
  (there:∀ b o,b ∉ ch->s.heap.get? b=some o->∃ o',h'.get? b=some o')
  (tups:∀ b xs,H b=some (.tup xs)->H' b=some (.tup xs)) (frzs:∀ b o u,H b=some (.frz o u)->H' b=some (.frz o u)) (tbls:∀ b ps,H b=some (.tbl ps)->∃ more,H' b=some (.tbl (ps++more)))
  (ns:∀ m,s.heap.Ns X.env.locals m->h'.Ns X.env.locals m) (hok:HOk X.prog X.w H' h') (hg:AllBare g') :
  Inv X pins σ H' { s with heap:=h',gens:=g',drawn:=d',toks:=t' }:=by
 have neL:∀ b o,X.s₀.heap.get? b=some o->b≠X.env.locals:=λb o e=>Nat.ne_of_lt (Nat.lt_of_lt_of_le (Heap.lt_size e) I.ok.above)
 have neC:∀ b o,X.s₀.heap.get? b=some o->b ∉ X.ex->b ∉ ch:=λb o e hx hb=>by
  rcases (hch b hb).1 with z | z
  ·exact hx z
  ·exact absurd (Nat.lt_of_lt_of_le (Heap.lt_size e) z) (Nat.lt_irrefl _)
 have cellK:∀ x c,X.env.cells.lookup x=some c->∀ v,s.heap.IsCell c v->h'.IsCell c v:=λx c e v ⟨o,ho,hd⟩=>by
  have nch:c ∉ ch:=λz=>(hch c z).2.2.1 x c e rfl
  by_cases hc:c∈X.fs
  ·obtain ⟨sl,q⟩:=slot c o (I.cne x c e) hc nch ho (I.freeC x c e)
   exact ⟨_,q,hd⟩
  ·exact ⟨o,keep c o (I.cne x c e) hc nch ho (I.freeC x c e),hd⟩
 refine ⟨I.ok,I.os,hg,⟨λb o e n hb hx=>?_,λb o e n hb hx=>?_,λb o e n hx=>?_,λb o e hx=>?_,λb xs e=>tups b xs (I.base.tups b xs e),λb o xs e=>frzs b o xs (I.base.frzs b o xs e),λb ps e=>?_⟩,?_,λx c e=>?_,?_,λx c e=>?_,λp hp=>?_,hok,I.len⟩
 ·exact keep b o (neL b o e) hb (neC b o e hx) (I.base.keep b o e n hb hx) (I.base.free b o e n hx)
 ·obtain ⟨sl,e1⟩:=I.base.slot b o e n hb hx
  obtain ⟨sl',e2⟩:=slot b _ (neL b o e) hb (neC b o e hx) e1 (I.base.free b o e n hx)
  exact ⟨sl',e2⟩
 ·obtain ⟨o',e1⟩:=I.base.there b o e hx
  exact free b o' (neC b o e hx) e1 (I.base.free b o e n hx)
 ·obtain ⟨o',e1⟩:=I.base.there b o e hx
  exact there b o' (neC b o e hx) e1
 ·obtain ⟨m1,e1⟩:=I.base.tbls b ps e
  obtain ⟨m2,e2⟩:=tbls b _ e1
  exact ⟨m1++m2,by rw [e2,Array.append_assoc]⟩
 ·obtain ⟨m,hn,hl⟩:=I.loc
  refine ⟨m,ns m hn,λi x v e1 e2 e3=>?_⟩
  obtain ⟨u,r,l⟩:=hl i x v e1 e2 e3
  refine ⟨u,r,?_⟩
  rcases l with l | ⟨k,c,e,z⟩
  ·exact .inl l
  ·exact .inr ⟨k,c,e,cellK x c e _ z⟩
 ·obtain ⟨v,z⟩:=I.cell x c e
  exact ⟨v,cellK x c e v z⟩
 ·obtain ⟨m,⟨o,_,_,ho,_⟩,_⟩:=I.loc
  exact free _ o (λz=>(hch _ z).2.1 rfl) ho I.free
 ·obtain ⟨v,o,ho,hd⟩:=I.cell x c e
  exact free c o (λz=>(hch c z).2.2.1 x c e rfl) ho (I.freeC x c e)
 ·obtain ⟨e,n,ne,nf,d⟩:=I.pin p hp
  have nch:p.1 ∉ ch:=λz=>(hch p.1 z).2.2.2 p hp rfl
  exact ⟨keep p.1 p.2 ne nf nch e n,free p.1 p.2 nch e n,ne,nf,d⟩
theorem Inv.un {t':Nat} (I:Inv X pins σ H s) (u:Un X.fs [] H H' s.heap h') (hok:HOk X.prog X.w H' h'):Inv X pins σ H' { s with heap:=h',toks:=t' }:=by
 obtain ⟨m,⟨o,es,ep,ho,r⟩,_⟩:=id I.loc
 obtain ⟨sl,hL⟩:=u.any ho I.free (by simp)
 exact I.step (g':=s.gens) (d':=s.drawn) (ch:=[]) (λ_ z=>nomatch z) (λb o _ hb _ e n=>u.keep b o e n hb (by simp)) (λb o _ hb _ e n=>u.slot b o e n hb (by simp)) (λb o _ e n=>u.free b o e n (by simp)) (λb o _ e=>u.there b o e (by simp)) u.tups u.frzs u.tbls (λm' hm=>by
  obtain ⟨o',es',ep',ho',r'⟩:=hm
  rw [ho] at ho';cases ho'
  exact ⟨_,es',ep',hL,r'⟩) hok I.bare
theorem Inv.call {g':Array GenState} {t':Nat} {d':Drawn} {ch:List Addr} (I:Inv X pins σ H s) (u:Un (frs X.stack) ch H H' s.heap h') (hok:HOk X.prog X.w H' h') (hg:AllBare g')
  (hch:∀ b∈ch,(b∈X.ex∨X.s₀.heap.objs.size≤b)∧b≠X.env.locals∧(∀ x c,X.env.cells.lookup x=some c->c≠b)∧∀ p∈X.pn++pins,p.1≠b) :
  Inv X pins σ H' { s with heap:=h',gens:=g',drawn:=d',toks:=t' }:=by
 obtain ⟨m,⟨o,es,ep,ho,r⟩,_⟩:=id I.loc
 obtain ⟨sl,hL⟩:=u.any ho I.free λz=>(hch _ z).2.1 rfl
 exact I.step (ch:=ch) hch (λb o hL hb hc e n=>u.keep b o e n (λz=>(List.mem_cons.mp (I.stkSub b z)).elim hL hb) hc) (λb o _ _ hc e n=>u.any e n hc) (λb o hc e n=>u.free b o e n hc) (λb o hc e=>u.there b o e hc) u.tups u.frzs u.tbls (λm' hm=>by
  obtain ⟨o',es',ep',ho',r'⟩:=hm
  rw [ho] at ho';cases ho'
  exact ⟨_,es',ep',hL,r'⟩) hok hg
theorem Inv.turned {t':Nat} {it:Addr} (I:Inv X pins σ H s) (k:∀ b o,b≠it->s.heap.get? b=some o->h'.get? b=some o) (hn:H it=none) (hL:it≠X.env.locals)
  (h1:it∈X.ex∨X.s₀.heap.objs.size≤it) (h2:∀ x c,X.env.cells.lookup x=some c->c≠it) (h3:∀ p∈X.pn++pins,p.1≠it):Inv X pins σ H { s with heap:=h',toks:=t' }:=by
 have nit:∀ b u,H b=some u->b≠it:=λb u e z=>by rw [z,hn] at e;cases e
 refine I.step (g':=s.gens) (d':=s.drawn) (ch:=[it]) (λb hb=>?_) (λb o _ _ hc e _=>k b o (λz=>hc (by simp [z])) e) (λb o _ _ hc e _=>⟨o.slots,k b o (λz=>hc (by simp [z])) e⟩) (λ_ _ _ _ n=>n)
  (λb o hc e=>⟨o,k b o (λz=>hc (by simp [z])) e⟩) (λ_ _ e=>e) (λ_ _ _ e=>e) (λb ps e=>⟨#[],by rw [e];simp⟩) (λm hm=>?_) (λb u e=>?_) I.bare
 ·have e:b=it:=by simpa using hb
  subst e
  exact ⟨h1,hL,h2,h3⟩
 ·obtain ⟨o,es,ep,ho,r⟩:=hm
  exact ⟨o,es,ep,k _ o (Ne.symm hL) ho,r⟩
 ·refine (I.hok b u e).stay (λc v hc q=>k c v ?_ q) (λ_ q=>q) λ_ _ q=>q
  rcases hc with z | z
  ·rw [z];exact nit b u e
  ·exact nit c _ z
theorem Inv.tok (I:Inv X pins σ H s) (t:Nat):Inv X pins σ H { s with toks:=t }:=I.un (h':=s.heap) (t':=t) Un.refl I.hok
theorem Inv.kept {t':Nat} (I:Inv X pins σ H s) (k:∀ b u,s.heap.get? b=some u->h'.get? b=some u):Inv X pins σ H { s with heap:=h',toks:=t' }:=I.un (Un.kept k) (I.hok.kept k)
theorem Inv.laid {a:Addr} {o:HO} {t':Nat} (I:Inv X pins σ H s) (k:∀ b u,s.heap.get? b=some u->h'.get? b=some u) (hp:s.heap.objs.size≤a) (new:zcX X.prog X.w (upd H a o) h' a o) :
  Inv X pins σ (upd H a o) { s with heap:=h',toks:=t' }:=I.un (Un.laid k hp (I.hok.fresh hp)) (I.hok.laid k hp new)
theorem Inv.write {x e:Addr} {o:HO} {t':Nat} (I:Inv X pins σ H s) (mu:Mut (H x)) (he:e=x∨H e=some (.own x)) (k:∀ b u,b≠e->s.heap.get? b=some u->h'.get? b=some u) (heo:∃ u,h'.get? e=some u)
  (new:zcX X.prog X.w (upd H x o) h' x o):Inv X pins σ (upd H x o) { s with heap:=h',toks:=t' }:=I.un (Un.write mu he k heo) (I.hok.write mu he k heo new)
theorem Inv.pins_of {pins':List (Addr×Obj)} (I:Inv X pins σ H s) (h:∀ p∈pins',s.heap.get? p.1=some p.2∧H p.1=none∧p.1≠X.env.locals∧p.1 ∉ X.fs∧∀ v,p.2.data≠.cell v):Inv X pins' σ H s :=
 ⟨I.ok,I.os,I.bare,I.base,I.loc,I.cell,I.free,I.freeC,λp hp=>(List.mem_append.mp hp).elim (λz=>I.pin p (List.mem_append_left _ z)) (h p),I.hok,I.len⟩
theorem nodup_ix {N:List Str} (hN:N.Nodup) {i j:Nat} {x:Str} (a:N[i]?=some x) (b:N[j]?=some x):i=j:=by
 obtain ⟨h1,e1⟩:=List.getElem?_eq_some_iff.mp a
 obtain ⟨h2,e2⟩:=List.getElem?_eq_some_iff.mp b
 exact (List.getElem_inj hN).mp (e1.trans e2.symm)
theorem zhI {M:Model} {A:Around} {E:Value->Shared->Prop} {i:Nat} {x:Str} {v:V} {u:Value} {Q:Unit->Shared->Prop} (I:Inv X pins σ H s) (hN:X.N.Nodup) (hi:X.N[i]?=some x) (hx:Loc X.env.scope x) (r:RelV v u)
  (h:∀ s',Inv X pins (σ.set i (some v)) H s'->(∃ a,Heap.SameBut a s.heap s'.heap∧(a=X.env.locals∨X.env.cells.lookup x=some a))->Q () s') (hf:X.fn x=true∨X.env.scope.names.lookup x=some .local:=by first | exact .inl rfl | exact .inr rfl | assumption):wpAny M A (storeName X.env x u) Q E s:=by
 obtain ⟨m,hn,hl⟩:=id I.loc
 have hcls:(X.env.scope.kind == .class||(X.env.scope.kind == .module&&X.env.locals != X.env.globals))=false:=by rw [I.ok.kind];rfl
 have hiσ:i<σ.length:=by rw [I.len];exact (List.getElem?_eq_some_iff.mp hi).1
 have cne:=I.cne
 have tracked:∀ {a:Addr} {h':Heap},(∃ o,s.heap.get? a=some o∧H a=none)->Heap.SameBut a s.heap h'->HOk X.prog X.w H h':=λ{a h'} ha hs b ob e=>by
  obtain ⟨_,_,hfree⟩:=ha
  refine (I.hok b ob e).stay (λc w' hc q=>(hs.2 c ?_).trans q) (λ_ q=>q) λ_ _ q=>q
  rintro rfl
  rcases hc with rfl | hc
  ·rw [hfree] at e;cases e
  ·rw [hfree] at hc;cases hc
 rcases hx with hk | hk
 ·refine wpAny_storeName_local hk hn (λh' hn' hs=>?_) hcls
  obtain ⟨oL,_,_,hoL,_⟩:=id hn
  refine h _ ⟨I.ok,I.os,I.bare,⟨λb o e n hb hx=>?_,λb o e n hb hx=>?_,I.base.free,λb o e hx=>?_,I.base.tups,I.base.frzs,I.base.tbls⟩,⟨_,hn',λj y v' e1 e2 e3=>?_⟩,λy c e=>?_,I.free,I.freeC,λp hp=>?_,tracked ⟨oL,hoL,I.free⟩ hs,by simpa using I.len⟩ ⟨_,hs,.inl rfl⟩
  ·exact (hs.2 b (Nat.ne_of_lt (Nat.lt_of_lt_of_le (Heap.lt_size e) I.ok.above))).trans (I.base.keep b o e n hb hx)
  ·obtain ⟨sl,e1⟩:=I.base.slot b o e n hb hx
   exact ⟨sl,(hs.2 b (Nat.ne_of_lt (Nat.lt_of_lt_of_le (Heap.lt_size e) I.ok.above))).trans e1⟩
  ·obtain ⟨o',e1⟩:=I.base.there b o e hx
   exact ⟨o',(hs.2 b (Nat.ne_of_lt (Nat.lt_of_lt_of_le (Heap.lt_size e) I.ok.above))).trans e1⟩
  ·by_cases hj:j=i
   ·subst hj
    rw [hi] at e1;cases e1
    rw [List.getElem?_set_self hiσ] at e2
    cases e2
    exact ⟨u,r,.inl ⟨hk,by simp⟩⟩
   ·rw [List.getElem?_set_ne (Ne.symm hj)] at e2
    obtain ⟨u',r',q⟩:=hl j y v' e1 e2 e3
    refine ⟨u',r',?_⟩
    rcases q with ⟨k,e⟩ | ⟨k,c,e,z⟩
    ·refine .inl ⟨k,?_⟩
     have:y≠x:=λe=>hj (nodup_ix hN e1 (e ▸ hi))
     simp [this,e]
    ·exact .inr ⟨k,c,e,z.sameBut hs (cne y c e)⟩
  ·obtain ⟨w',z⟩:=I.cell y c e
   exact ⟨w',z.sameBut hs (cne y c e)⟩
  ·obtain ⟨e,n,ne,nf,d⟩:=I.pin p hp
   exact ⟨(hs.2 p.1 ne).trans e,n,ne,nf,d⟩
 ·have hfn:X.fn x=true:=by
   rcases hf with z | z
   ·exact z
   ·rw [z] at hk;cases hk
  obtain ⟨c,hc⟩:=I.ok.has x (.inl hk)
  obtain ⟨w',z⟩:=I.cell x c hc
  refine wpAny_storeName_cell I.ok.kind hk hc z (λh' hc' hs=>?_)
  obtain ⟨oc,hoc,hocd⟩:=id z
  refine h { s with heap:=h' } ⟨I.ok,I.os,I.bare,⟨λb o e n hb hx=>?_,λb o e n hb hx=>?_,I.base.free,λb o e hx=>?_,I.base.tups,I.base.frzs,I.base.tbls⟩,⟨m,hn.sameBut hs (Ne.symm (cne x c hc)),λj y v' e1 e2 e3=>?_⟩,λy c' e=>?_,I.free,I.freeC,λp hp=>?_,tracked ⟨oc,hoc,I.freeC x c hc⟩ hs,by simpa using I.len⟩ ⟨c,hs,.inr hc⟩
  ·exact (hs.2 b (Nat.ne_of_lt (Nat.lt_of_lt_of_le (Heap.lt_size e) (I.ok.cab x c hfn hc)))).trans (I.base.keep b o e n hb hx)
  ·obtain ⟨sl,e1⟩:=I.base.slot b o e n hb hx
   exact ⟨sl,(hs.2 b (Nat.ne_of_lt (Nat.lt_of_lt_of_le (Heap.lt_size e) (I.ok.cab x c hfn hc)))).trans e1⟩
  ·obtain ⟨o',e1⟩:=I.base.there b o e hx
   exact ⟨o',(hs.2 b (Nat.ne_of_lt (Nat.lt_of_lt_of_le (Heap.lt_size e) (I.ok.cab x c hfn hc)))).trans e1⟩
  ·by_cases hj:j=i
   ·subst hj
    rw [hi] at e1;cases e1
    rw [List.getElem?_set_self hiσ] at e2
    cases e2
    exact ⟨u,r,.inr ⟨.inl hk,c,hc,hc'⟩⟩
   ·rw [List.getElem?_set_ne (Ne.symm hj)] at e2
    obtain ⟨u',r',q⟩:=hl j y v' e1 e2 e3
    refine ⟨u',r',?_⟩
    rcases q with q | ⟨k,c',e,z'⟩
    ·exact .inl q
    ·refine .inr ⟨k,c',e,z'.sameBut hs ?_⟩
     rintro rfl
     exact hj (nodup_ix hN e1 (I.ok.inj _ _ _ e hc ▸ hi))
  ·by_cases hcc:c'=c
   ·subst hcc;exact ⟨_,hc'⟩
   ·obtain ⟨w2,z2⟩:=I.cell y c' e
    exact ⟨w2,z2.sameBut hs hcc⟩
  ·obtain ⟨e,n,ne,nf,d⟩:=I.pin p hp
   refine ⟨(hs.2 p.1 ?_).trans e,n,ne,nf,d⟩
   intro q
   rw [q,hoc] at e
   have q':oc=p.2:=Option.some.inj e
   exact d w' (by rw [← q'];exact hocd)
theorem store_ok {M:Model} {A:Around} {E:Value->Shared->Prop} {i:Nat} {x:Str} {v:V} {u:Value} {Q:Unit->Shared->Prop} (I:Inv X pins σ H s) (hN:X.N.Nodup) (hi:X.N[i]?=some x) (hx:Loc X.env.scope x) (r:RelV v u)
  (h:∀ s',Inv X pins (σ.set i (some v)) H s'->Q () s') (hf:X.fn x=true∨X.env.scope.names.lookup x=some .local:=by first | exact .inl rfl | exact .inr rfl | assumption):wpAny M A (storeName X.env x u) Q E s :=
 zhI I hN hi hx r (λs' I' _=>h s' I') hf
theorem Inv.call' {s':Shared} {ch:List Addr} (I:Inv X pins σ H s) (ho:s'.os=s.os) (u:Un (frs X.stack) ch H H' s.heap s'.heap) (hok:HOk X.prog X.w H' s'.heap) (hg:AllBare s'.gens)
  (hch:∀ b∈ch,(b∈X.ex∨X.s₀.heap.objs.size≤b)∧b≠X.env.locals∧(∀ x c,X.env.cells.lookup x=some c->c≠b)∧∀ p∈X.pn++pins,p.1≠b):Inv X pins σ H' s':=by
 obtain ⟨h',g',d',t',o'⟩:=s'
 have e:o'=s.os:=ho
 subst e
 exact I.call (g':=g') (t':=t') (d':=d') u hok hg hch
end
abbrev XK:=Value->Option Addr->Hp->Prop
abbrev St:=List (Option V)
abbrev VK:=V->Hp->Prop
abbrev TE:=St->Hp->VK->Prop
abbrev TT:=St->Hp->(Bool->Hp->Prop)->Prop
abbrev TA:=St->Hp->(List V->Hp->Prop)->Prop
structure Ends where
 nx:St->Hp->Prop
 rt:VK
 bk:St->Hp->Prop:=λ_ _=>False
 ct:St->Hp->Prop:=λ_ _=>False
abbrev TS:=Ends->St->Hp->Prop
def EP (X:Cx) (pins:List (Addr×Obj)) (σ:St) (Q:VK) (u:Value) (s':Shared):Prop:=∃ v H',Inv X pins σ H' s'∧RelV v u∧Q v H'
def TP (X:Cx) (pins:List (Addr×Obj)) (σ:St) (Q:Bool->Hp->Prop) (b:Bool) (s':Shared):Prop:=∃ H',Inv X pins σ H' s'∧Q b H'
def AP (X:Cx) (pins:List (Addr×Obj)) (σ:St) (Q:List V->Hp->Prop) (us:List Value) (s':Shared):Prop:=∃ vs H',Inv X pins σ H' s'∧Vals vs us∧Q vs H'
def SP (X:Cx) (pins:List (Addr×Obj)) (D:Ends) (f:Flow) (s':Shared):Prop :=
 match f with
 | .next=>∃ σ' H',Inv X pins σ' H' s'∧D.nx σ' H'
 | .brk=>∃ σ' H',Inv X pins σ' H' s'∧D.bk σ' H'
 | .cont=>∃ σ' H',Inv X pins σ' H' s'∧D.ct σ' H'
 | .ret u=>∃ v σ' H',Inv X pins σ' H' s'∧RelV v u∧D.rt v H'
def PE (X:Cx) (e:Expr) (t:TE):Prop :=
 ∀ (pins:List (Addr×Obj)) (s:Shared) (σ:St) (H:Hp) (Q:VK),Inv X pins σ H s->t σ H Q->wpAny (model X.prog X.w) X.A (eval e X.env) (EP X pins σ Q) X.xe s
def PT (X:Cx) (e:Expr) (t:TT):Prop :=
 ∀ (pins:List (Addr×Obj)) (s:Shared) (σ:St) (H:Hp) (Q:Bool->Hp->Prop),Inv X pins σ H s->t σ H Q->wpAny (model X.prog X.w) X.A (isTrue e X.env (eval e X.env)) (TP X pins σ Q) X.xe s
def PW (X:Cx) (e:Expr) (t:TT):Prop :=
 ∀ (whole:Sem Value) (pins:List (Addr×Obj)) (s:Shared) (σ:St) (H:Hp) (Q:Bool->Hp->Prop),Inv X pins σ H s->t σ H Q->wpAny (model X.prog X.w) X.A (isTrue e X.env whole) (TP X pins σ Q) X.xe s
theorem PW.pt {X:Cx} {e:Expr} {t:TT} (h:PW X e t):PT X e t:=h _
def PA (X:Cx) (es:List Expr) (t:TA):Prop :=
 ∀ (pos:Pos) (pins:List (Addr×Obj)) (s:Shared) (σ:St) (H:Hp) (Q:List V->Hp->Prop),Inv X pins σ H s->t σ H Q->wpAny (model X.prog X.w) X.A (spliced (backTo pos (starEach es X.env))) (AP X pins σ Q) X.xe s
def PS (X:Cx) (st:Stmt) (t:TS):Prop :=
 ∀ (pins:List (Addr×Obj)) (s:Shared) (σ:St) (H:Hp) (D:Ends),Inv X pins σ H s->t D σ H->wpAny (model X.prog X.w) X.A (exec st X.env) (SP X pins D) X.xe s
def PSs (X:Cx) (st:List Stmt) (t:TS):Prop :=
 ∀ (pins:List (Addr×Obj)) (s:Shared) (σ:St) (H:Hp) (D:Ends),Inv X pins σ H s->t D σ H->wpAny (model X.prog X.w) X.A (execs st X.env) (SP X pins D) X.xe s
theorem thn {α:Type} {t:Sem α} {Q Q':α->Shared->Prop} {M:Model} {A:Around} {E:Value->Shared->Prop} {s:Shared} (h:wpAny M A t Q E s) (hQ:∀ a s,Q a s->Q' a s):wpAny M A t Q' E s:=wpAny_mono h hQ λ_ _ x=>x
end L2
namespace L2
open PySem PySem.Spec PyProof.Rows
section
variable {X:Cx}
theorem bin {a b:Expr} {ta tb:TE} (ha:PE X a ta) (hb:PE X b tb) {pins:List (Addr×Obj)} {s:Shared} {σ:St} {H:Hp} {R:V->V->Hp->Prop} (I:Inv X pins σ H s) (h:ta σ H λx H1=>tb σ H1 λy H2=>R x y H2)
  {α:Type} {Q:α->Shared->Prop} {f:Value->Value->Sem α}
  (hf:∀ v u s2 x y H2,Inv X pins σ H2 s2->RelV x v->RelV y u->R x y H2->wpAny (model X.prog X.w) X.A (f v u) Q X.xe s2) :
  wpAny (model X.prog X.w) X.A (eval a X.env) (λv s₁=>wpAny (model X.prog X.w) X.A (eval b X.env) (λu s₂=>wpAny (model X.prog X.w) X.A (f v u) Q X.xe s₂) X.xe s₁) X.xe s:=by
 refine thn (ha pins s σ H _ I h) λv s1 ⟨x,H1,I1,r1,q1⟩=>?_
 refine thn (hb pins s1 σ H1 _ I1 q1) λu s2 ⟨y,H2,I2,r2,q2⟩=>?_
 exact hf v u s2 x y H2 I2 r1 r2 q2
def tVar (i:Nat):TE:=λσ H Q=>∃ v,σ[i]?=some (some v)∧Q v H
def tC (v:V):TE:=λ_ H Q=>Q v H
theorem pe_var {i:Nat} {x:Str} {pos:Pos} (hN:X.N[i]?=some x) (hv:Vis X.env.scope x) (hd:(x == ("__debug__":Str))=false:=by decide) (hcd:(x == ("__classdict__":Str))=false:=by decide):PE X (.Name x pos) (tVar i):=by
 intro pins s σ H Q I h
 obtain ⟨v,e,h⟩:=h
 obtain ⟨m,hn,hl⟩:=I.loc
 obtain ⟨u,r,l⟩:=hl i x v hN e hv
 have fin:EP X pins σ Q u s:=⟨v,H,I,r,h⟩
 rcases l with ⟨hk,hm⟩ | ⟨hk,c,hc,hcell⟩
 ·exact wpAny_Name (wpAny_loadName_local I.ok.kind hk hn hm fin) hd
 ·rcases hk with hk | hk
  ·exact wpAny_Name (wpAny_loadName_cell I.ok.kind hk hc hcell fin) hd
  ·exact wpAny_Name (wpAny_loadName_free I.ok.kind hk hc hcell fin hcd) hd
theorem zag {i j pos}:PE X (.Constant (.int i) j pos) (tC (.int i)):=λ_ _ _ H _ I h=>wpAny_Constant_int ⟨.int i,H,I.tok _,⟨_,rfl⟩,h⟩
theorem zj0 {b j pos}:PE X (.Constant (.bool b) j pos) (tC (.bl b)):=λ_ _ _ H _ I h=>Constant_bool ⟨.bl b,H,I,rfl,h⟩
theorem zgb {j pos}:PE X (.Constant .none j pos) (tC .non):=λ_ _ _ H _ I h=>Constant_none ⟨.non,H,I,rfl,h⟩
theorem zbp {x j pos}:PE X (.Constant (.str x) j pos) (tC (.str x)):=λ_ _ _ H _ I h=>Calls.Constant_str ⟨.str x,H,I.tok _,⟨_,rfl⟩,h⟩
def Gl (X:Cx) (x:Str):Prop:=X.env.kindOf x=some .globalImplicit
theorem ld_glob {E:Value->Shared->Prop} {pins:List (Addr×Obj)} {s:Shared} {σ:St} {H:Hp} {x:Str} {u:Value} {pos:Pos} {Q:Value->Shared->Prop} (I:Inv X pins σ H s) (hg:Gl X x) (hm:X.mg x=some u) (h:Q u s)
  (hd:(x == ("__debug__":Str))=false:=by decide):wpAny (model X.prog X.w) X.A (eval (.Name x pos) X.env) Q E s :=
 Calls.Name_function_global I.ok.kind hg (Calls.loadGlobal_global (by rw [I.ok.glob];exact I.mod.glob.keeps I.bk) hm h) hd
theorem ld_blt {E:Value->Shared->Prop} {pins:List (Addr×Obj)} {s:Shared} {σ:St} {H:Hp} {x:Str} {u:Value} {pos:Pos} {Q:Value->Shared->Prop} (I:Inv X pins σ H s) (hg:Gl X x) (hm:X.mg x=none) (hv:bootBuiltins x=some u) (h:Q u s)
  (hn:x≠"__name__":=by decide) (hd:(x == ("__debug__":Str))=false:=by decide):wpAny (model X.prog X.w) X.A (eval (.Name x pos) X.env) Q E s:=by
 obtain ⟨mb,h1,h2⟩:=I.mod.blt
 exact Calls.Name_function_global I.ok.kind hg (Calls.loadGlobal_builtin (by rw [I.ok.glob];exact I.mod.glob.keeps I.bk) hm (by rw [I.ok.blt];exact h1.keeps I.bk) ((h2 x hn).trans hv) h) hd
theorem pe_glob {x:Str} {v:V} {u:Value} {pos:Pos} (hg:Gl X x) (hm:X.mg x=some u) (r:RelV v u) (hd:(x == ("__debug__":Str))=false:=by decide):PE X (.Name x pos) (tC v) :=
 λ_ _ _ H _ I h=>ld_glob I hg hm ⟨v,H,I,r,h⟩ hd
theorem pe_bltn {x:Str} {v:V} {u:Value} {pos:Pos} (hg:Gl X x) (hm:X.mg x=none) (hv:bootBuiltins x=some u) (r:RelV v u) (hn:x≠"__name__":=by decide) (hd:(x == ("__debug__":Str))=false:=by decide):PE X (.Name x pos) (tC v) :=
 λ_ _ _ H _ I h=>ld_blt I hg hm hv ⟨v,H,I,r,h⟩ hn hd
variable {a b:Expr} {ta tb:TE} {pos:Pos}
def PC (X:Cx) (op:CmpOp) (a b:Expr) (t:TE):Prop :=
 ∀ (pins:List (Addr×Obj)) (s:Shared) (σ:St) (H:Hp) (Q:VK),Inv X pins σ H s->t σ H Q →
  wpAny (model X.prog X.w) X.A (eval a X.env) (λv s₁=>wpAny (model X.prog X.w) X.A (eval b X.env) (λu s₂=>wpAny (model X.prog X.w) X.A (compareOp op v u) (EP X pins σ Q) X.xe s₂) X.xe s₁) X.xe s
theorem zl9 (b:Expr) {op:CmpOp} (h:op≠.In) (h2:op≠.NotIn):behindInMarks op b=false:=by
 have e1:(op == CmpOp.In)=false:=by cases op<;>first | rfl | exact absurd rfl h
 have e2:(op == CmpOp.NotIn)=false:=by cases op<;>first | rfl | exact absurd rfl h2
 cases b<;>simp [behindInMarks,e1,e2]
def tB (t:TE):TT:=λσ H Q=>t σ H λx H1=>∃ c,x=.bl c∧Q c H1
theorem zrk {op:CmpOp} {t:TE} (h:PC X op a b t) (h1:behindInMarks op b=false:=by first | exact zl9 _ (by decide) (by decide) | rfl):PT X (.Compare a [op] [b] pos) (tB t):=by
 intro pins s σ H Q I hw
 refine wpAny_isTrue_Compare1 (thn (h pins s σ H _ I hw) λv s1 h1=>thn h1 λu s2 h2=>thn h2 λc s3 ⟨x,H1,I1,r1,q1⟩=>?_) h1
 obtain ⟨d,rfl,q⟩:=q1
 cases r1
 exact wpAny_truthy_bool ⟨H1,I1,q⟩
theorem zlz {e:Expr} {t:TE} (h:PE X e t) (he:∀ whole,isTrue e X.env whole=(do let v ← whole;standAt e.pos;holding [v] (truthy v)):=by intro _;rfl):PT X e (tB t):=by
 intro pins s σ H Q I hw
 refine isTrue_plain (thn (h pins s σ H _ I hw) λv s1 ⟨x,H1,I1,r1,q1⟩=>?_) (he _)
 obtain ⟨d,rfl,q⟩:=q1
 cases r1
 exact wpAny_truthy_bool ⟨H1,I1,q⟩
variable {tA tB':TT} {rest:List Expr}
def zrn (t u:TT):TT:=λσ H Q=>t σ H λc H1=>if c=true then u σ H1 Q else Q false H1
def tOr (t u:TT):TT:=λσ H Q=>t σ H λc H1=>if c=true then Q true H1 else u σ H1 Q
theorem zfE (ha:PT X a tA):PW X (.BoolOp .And [a] pos) tA:=by
 intro wh pins s σ H Q I h
 refine isTrue_and (thn (ha pins s σ H Q I h) λc s1 e=>?_)
 cases c with
 | true=>exact isTrue_and_nil e
 | false=>exact e
theorem zmQ (ha:PT X a tA):PW X (.BoolOp .Or [a] pos) tA:=by
 intro wh pins s σ H Q I h
 refine isTrue_or (thn (ha pins s σ H Q I h) λc s1 e=>?_)
 cases c with
 | false=>exact isTrue_or_nil e
 | true=>exact e
theorem zg1 (ha:PT X a tA) (hb:PW X (.BoolOp .And (b :: rest) pos) tB'):PW X (.BoolOp .And (a :: b :: rest) pos) (zrn tA tB'):=by
 intro wh pins s σ H Q I h
 refine isTrue_and (thn (ha pins s σ H _ I h) λc s1 ⟨H1,I1,q1⟩=>?_)
 cases c with
 | true=>exact hb wh pins s1 σ H1 Q I1 q1
 | false=>exact ⟨H1,I1,q1⟩
theorem zpl (ha:PT X a tA) (hb:PW X (.BoolOp .Or (b :: rest) pos) tB'):PW X (.BoolOp .Or (a :: b :: rest) pos) (tOr tA tB'):=by
 intro wh pins s σ H Q I h
 refine isTrue_or (thn (ha pins s σ H _ I h) λc s1 ⟨H1,I1,q1⟩=>?_)
 cases c with
 | true=>exact ⟨H1,I1,q1⟩
 | false=>exact hb wh pins s1 σ H1 Q I1 q1
def tIf (t:TT) (ta tb:TE):TE:=λσ H Q=>t σ H λc H1=>if c=true then ta σ H1 Q else tb σ H1 Q
theorem zhA {c:Expr} (hc:PT X c tA) (ha:PE X a ta) (hb:PE X b tb):PE X (.IfExp c a b pos) (tIf tA ta tb):=by
 intro pins s σ H Q I h
 refine wpAny_IfExp (thn (hc pins s σ H _ I h) λd s1 ⟨H1,I1,q1⟩=>?_)
 cases d with
 | true=>exact ha pins s1 σ H1 Q I1 q1
 | false=>exact hb pins s1 σ H1 Q I1 q1
end
end L2
namespace L2
open PySem PySem.Spec PyProof.Rows
def SqL (K:W.Frag) (H:Hp) (a:Addr) (xs:List V):Prop :=
 Rd H a (.lst xs) ∨
  ∃ (o:Obj) (its:Array Value) (n:Nat),K.lookup a=some o∧o.cls=.type "list"∧o.dict=none∧o.data=.seq its n∧its.size≤sizeLine∧Vals xs its.toList
def SqT (K:W.Frag) (H:Hp) (a:Addr) (xs:List V):Prop :=
 Rd H a (.tup xs) ∨
  ∃ (o:Obj) (its:Array Value) (n:Nat),K.lookup a=some o∧o.cls=.type "tuple"∧o.data=.seq its n∧its.size≤sizeLine∧Vals xs its.toList
def zrz:Value->Option V
 | .none=>some .non
 | .bool b=>some (.bl b)
 | .int i _=>some (.int i)
 | .str x _=>some (.str x)
 | .bytes b _=>some (.byt b)
 | .float b _=>some (.flt b)
 | .ref a=>some (.ref a)
 | .type n=>some (.ty n)
 | _=>none
theorem RelV.abs {x:V} {u:Value} (r:RelV x u):zrz u=some x:=by
 cases x with
 | non=>cases r;rfl
 | bl _=>cases r;rfl
 | int _=>obtain ⟨t,rfl⟩:=r;rfl
 | str _=>obtain ⟨t,rfl⟩:=r;rfl
 | byt _=>obtain ⟨t,rfl⟩:=r;rfl
 | flt _=>obtain ⟨t,rfl⟩:=r;rfl
 | ref _=>cases r;rfl
 | ty _=>cases r;rfl
theorem RelV.inj {x y:V} {u:Value} (r:RelV x u) (q:RelV y u):x=y:=Option.some.inj (r.abs.symm.trans q.abs)
theorem Vals.inj:∀ {xs ys:List V} {us:List Value},Vals xs us->Vals ys us->xs=ys
 | _,_,_,.nil,.nil=>rfl
 | _,_,_,.cons r t,.cons r' t'=>by rw [r.inj r',Vals.inj t t']
section
variable {X:Cx} {pins:List (Addr×Obj)} {σ:St} {H:Hp} {s:Shared} {a:Addr} {xs ys:List V}
theorem SqL.of {K:W.Frag} (h:H a=some (.lst xs)):SqL K H a xs:=.inl (.inl h)
theorem Inv.list (I:Inv X pins σ H s) (h:SqL X.K H a xs):∃ its:List Value,Vals xs its∧PlainL s.heap a its.toArray∧xs.length≤sizeLine:=by
 rcases h with h | ⟨o,its,n,hk,hc,hd,hs,hz,r⟩
 ·obtain ⟨z,its,n,r,e⟩:=h.ok I.hok
  exact ⟨its,r,⟨_,n,e,rfl,rfl,rfl⟩,z⟩
 ·refine ⟨its.toList,r,⟨o,n,I.kIn a o hk,hc,hd,by simpa using hs⟩,?_⟩
  have e:=r.length
  simp only [Array.length_toList] at e
  omega
theorem Inv.tuple (I:Inv X pins σ H s) (h:SqT X.K H a xs):∃ its:List Value,Vals xs its∧IsTup s.heap a its.toArray∧xs.length≤sizeLine:=by
 rcases h with h | ⟨o,its,n,hk,hc,hs,hz,r⟩
 ·obtain ⟨z,its,r,p⟩:=h.ok I.hok
  exact ⟨its,r,p,z⟩
 ·refine ⟨its.toList,r,⟨o,I.kIn a o hk,hc,n,by simpa using hs⟩,?_⟩
  have e:=r.length
  simp only [Array.length_toList] at e
  omega
theorem Inv.list_inj (I:Inv X pins σ H s) (h:SqL X.K H a xs) (h':SqL X.K H a ys):xs=ys:=by
 obtain ⟨its,r,⟨o,n,e,_,_,d⟩,_⟩:=I.list h
 obtain ⟨its',r',⟨o',n',e',_,_,d'⟩,_⟩:=I.list h'
 rw [e] at e';cases e'
 rw [d] at d'
 injection d' with d1 _
 have:its=its':=by simpa using congrArg Array.toList d1
 subst this
 exact r.inj r'
end
abbrev Cx.wish (X:Cx) (E:Value->Shared->Prop):Cx:={ X with xe:=E }
abbrev Cx.nox (X:Cx):Cx:=X.wish λ_ _=>False
theorem Cx.Ok.wish {X:Cx} (ok:X.Ok) (E:Value->Shared->Prop):(X.wish E).Ok :=
 ⟨ok.mod,ok.kind,ok.glob,ok.blt,ok.above,ok.inj,ok.has,ok.cab,ok.hd,ok.frames,ok.stk,ok.exf,ok.bs,ok.bsz,ok.noex,ok.exfs,ok.funs,ok.frf⟩
theorem Cx.Ok.unwish {X:Cx} {E:Value->Shared->Prop} (ok:(X.wish E).Ok):X.Ok :=
 ⟨ok.mod,ok.kind,ok.glob,ok.blt,ok.above,ok.inj,ok.has,ok.cab,ok.hd,ok.frames,ok.stk,ok.exf,ok.bs,ok.bsz,ok.noex,ok.exfs,ok.funs,ok.frf⟩
section
variable {X:Cx} {pins:List (Addr×Obj)} {σ:St} {H:Hp} {s:Shared} {E:Value->Shared->Prop}
theorem Inv.wish (I:Inv X pins σ H s) (E:Value->Shared->Prop):Inv (X.wish E) pins σ H s:=⟨I.ok.wish E,I.os,I.bare,I.base,I.loc,I.cell,I.free,I.freeC,I.pin,I.hok,I.len⟩
theorem Inv.unwish (I:Inv (X.wish E) pins σ H s):Inv X pins σ H s:=⟨I.ok.unwish,I.os,I.bare,I.base,I.loc,I.cell,I.free,I.freeC,I.pin,I.hok,I.len⟩
theorem SP.unwish {D:Ends} {f:Flow} {s':Shared} (h:SP (X.wish E) pins D f s'):SP X pins D f s':=by
 cases f with
 | next=>obtain ⟨σ',H',I,q⟩:=h;exact ⟨σ',H',I.unwish,q⟩
 | brk=>obtain ⟨σ',H',I,q⟩:=h;exact ⟨σ',H',I.unwish,q⟩
 | cont=>obtain ⟨σ',H',I,q⟩:=h;exact ⟨σ',H',I.unwish,q⟩
 | ret u=>obtain ⟨v,σ',H',I,r,q⟩:=h;exact ⟨v,σ',H',I.unwish,r,q⟩
end
section
variable {X:Cx} {st:Stmt} {rest:List Stmt} {t u:TS} {e:Expr} {te:TE} {pos:Pos}
def zmx:TS:=λD σ H=>D.nx σ H
def tSeq (t u:TS):TS:=λD σ H=>t { D with nx:=u D } σ H
theorem zaf:PSs X [] zmx:=λ_ _ σ H _ I h=>wpAny_execs_nil ⟨σ,H,I,h⟩
theorem zac (h1:PS X st t) (h2:PSs X rest u):PSs X (st :: rest) (tSeq t u):=by
 intro pins s σ H D I h
 refine wpAny_execs_cons (thn (h1 pins s σ H { D with nx:=u D } I h) λf s1 q=>?_)
 cases f with
 | next =>
  obtain ⟨σ',H',I',q⟩:=q
  exact h2 pins s1 σ' H' D I' q
 | ret v=>exact q
 | brk=>exact q
 | cont=>exact q
theorem zoC (h1:PS X st t):PSs X [st] t:=by
 intro pins s σ H D I h
 refine wpAny_execs_cons (thn (h1 pins s σ H D I h) λf s1 q=>?_)
 cases f with
 | next=>exact wpAny_execs_nil q
 | ret v=>exact q
 | brk=>exact q
 | cont=>exact q
theorem Inv.quiet {pins:List (Addr×Obj)} {σ:St} {H:Hp} {s:Shared} (I:Inv X pins σ H s):interactive X.env=false:=by simp [interactive,I.ok.kind]
def tDrop (te:TE):TS:=λD σ H=>te σ H λ_ H1=>D.nx σ H1
theorem zcY (he:PE X e te) (hs:swapsWith e none pos.line X.env=pure false:=by rfl):PS X (.Expr e pos) (tDrop te):=by
 intro pins s σ H D I h
 exact wpAny_Expr_any (thn (he pins s σ H _ I h) λv s1 ⟨x,H1,I1,r1,q1⟩=>⟨σ,H1,I1,q1⟩) I.quiet hs
def zlF (te:TE):TS:=λD σ H=>te σ H D.rt
theorem zaG (he:PE X e te):PS X (.Return (some e) pos) (zlF te):=by
 intro pins s σ H D I h
 exact wpAny_Return_some (thn (he pins s σ H _ I h) λv s1 ⟨x,H1,I1,r1,q1⟩=>⟨x,σ,H1,I1,r1,q1⟩)
def zoc (c:TT) (t u:TS):TS:=λD σ H=>c σ H λb H1=>if b=true then t D σ H1 else u D σ H1
theorem zbW {c:Expr} {a b:List Stmt} {tc:TT} (hc:PT X c tc) (ha:PSs X a t) (hb:PSs X b u):PS X (.If c a b pos) (zoc tc t u):=by
 intro pins s σ H D I h
 refine wpAny_If (thn (hc pins s σ H _ I h) λd s1 ⟨H1,I1,q1⟩=>?_)
 cases d with
 | true=>exact ha pins s1 σ H1 D I1 q1
 | false=>exact hb pins s1 σ H1 D I1 q1
def zoV:TS:=λ_ _ _=>False
theorem zeD:PS X st zoV:=λ_ _ _ _ _ _ h=>h.elim
end
abbrev TG:=V->St->Hp->(St->Hp->Prop)->Prop
abbrev TGs:=List V->St->Hp->(St->Hp->Prop)->Prop
def PG (X:Cx) (target:Expr) (t:TG):Prop :=
 ∀ (pins:List (Addr×Obj)) (s:Shared) (σ:St) (H:Hp) (v:V) (u:Value) (Q:St->Hp->Prop),Inv X pins σ H s->RelV v u->t v σ H Q →
  wpAny (model X.prog X.w) X.A (assign target X.env u) (λ_ s'=>∃ σ' H',Inv X pins σ' H' s'∧Q σ' H') X.xe s
def PGs (X:Cx) (ts:List Expr) (t:TGs):Prop :=
 ∀ (pins:List (Addr×Obj)) (s:Shared) (σ:St) (H:Hp) (vs:List V) (us:List Value) (Q:St->Hp->Prop),Inv X pins σ H s->Vals vs us->t vs σ H Q →
  wpAny (model X.prog X.w) X.A (assignInOrder ((assignEach ts X.env).map (·.2)) us) (λ_ s'=>∃ σ' H',Inv X pins σ' H' s'∧Q σ' H') X.xe s
abbrev zqS:=V->V->V->Hp->(Hp->Prop)->Prop
def zrj (X:Cx) (t:zqS):Prop :=
 ∀ (pins:List (Addr×Obj)) (s:Shared) (σ:St) (H:Hp) (o i v:V) (ov iv u:Value) (Q:Hp->Prop),Inv X pins σ H s->RelV o ov->RelV i iv->RelV v u->t o i v H Q →
  wpAny (model X.prog X.w) X.A (setItem ov iv u) (λ_ s'=>∃ H',Inv X pins σ H' s'∧Q H') X.xe s
section
variable {X:Cx} {pos:Pos}
def zd7 (i:Nat):TG:=λv σ H Q=>Q (σ.set i (some v)) H
theorem pg_name {i:Nat} {x:Str} (hN:X.N.Nodup) (hi:X.N[i]?=some x) (hx:Loc X.env.scope x) (hf:X.fn x=true∨X.env.scope.names.lookup x=some .local:=by first | exact .inl rfl | exact .inr rfl | assumption):PG X (.Name x pos) (zd7 i):=by
 intro pins s σ H v u Q I r h
 exact wpAny_assign_Name (store_ok I hN hi hx r (λs' I'=>⟨_,H,I',h⟩) hf)
def zqC:TGs:=λvs σ H Q=>vs=[]∧Q σ H
def zj2 (t:TG) (u:TGs):TGs:=λvs σ H Q=>∃ v r,vs=v :: r∧t v σ H λσ' H'=>u r σ' H' Q
theorem zdn:PGs X [] zqC:=by
 intro pins s σ H vs us Q I r h
 obtain ⟨e,h⟩:=h
 subst e
 cases r
 exact assignInOrder_nil ⟨σ,H,I,h⟩
theorem zaQ {e:Expr} {es:List Expr} {t:TG} {u:TGs} (h1:PG X e t) (h2:PGs X es u)
  (hs:(assignEach (e :: es) X.env).map (·.2)=assign e X.env :: (assignEach es X.env).map (·.2):=by rfl):PGs X (e :: es) (zj2 t u):=by
 intro pins s σ H vs us Q I r h
 obtain ⟨v,vr,e1,h⟩:=h
 subst e1
 cases r with
 | cons r rr =>
  rw [hs]
  refine assignInOrder_cons (thn (h1 pins s σ H _ _ _ I r h) λ_ s1 ⟨σ1,H1,I1,q1⟩=>?_)
  exact h2 pins s1 σ1 H1 _ _ Q I1 rr q1
def zql (K:W.Frag) (n:Nat) (t:TGs):TG:=λv σ H Q=>∃ a xs,v=.ref a∧SqT K H a xs∧xs.length=n∧t xs σ H Q
theorem zpH {es:List Expr} {k:Nat} {t:TGs} {n:Nat} (hc:X.calm=true) (h:PGs X es t)
  (hn:(assignEach es X.env).length=n:=by rfl) (hst:(assignEach es X.env).findIdx? (·.1)=none:=by rfl):PG X (.Tuple es k pos) (zql X.K n t):=by
 intro pins s σ H v u Q I r hw
 obtain ⟨a,xs,e1,hq,hl,hw⟩:=hw
 subst e1
 cases r
 obtain ⟨its,rv,ht,hz⟩:=I.tuple hq
 refine assign_Tuple_tuple (I.ok.hd hc) ht (by simp [hn,← hl,rv.length]) hst λh' hx=>?_
 have I1:Inv X pins σ H { s with heap:=h' }:=I.kept (t':=s.toks) λb o e=>hx b o (Nat.ne_of_lt (Heap.lt_size e)) e
 exact h pins _ σ H xs _ Q I1 (by simpa using rv) hw
def zqj (to ti:TE) (t:zqS):TG:=λv σ H Q=>to σ H λo H1=>ti σ H1 λi H2=>t o i v H2 λH3=>Q σ H3
theorem ziU {o i:Expr} {to ti:TE} {t:zqS} (ho:PE X o to) (hi:PE X i ti) (hs:zrj X t)
  (ha:∀ v,assign (.Subscript o i pos) X.env v=(do
   let ov ← holding [v] (eval o X.env)
   let iv ← holding [v,ov] (eval i X.env)
   standAt pos
   holding [v,ov,iv] (setItem ov iv v)
   release [v,ov,iv] []):=by intro _;rfl):PG X (.Subscript o i pos) (zqj to ti t):=by
 intro pins s σ H v u Q I r h
 rw [ha]
 refine wpAny_bind (wpAny_holding (thn (ho pins s σ H _ I h) λov s1 ⟨x,H1,I1,r1,q1⟩=>?_))
 refine wpAny_bind (wpAny_holding (thn (hi pins s1 σ H1 _ I1 q1) λiv s2 ⟨y,H2,I2,r2,q2⟩=>?_))
 refine wpAny_bind (wpAny_standAt (wpAny_bind (wpAny_holding (thn (hs pins s2 σ H2 x y v ov iv u _ I2 r1 r2 r q2) λ_ s3 ⟨H3,I3,q3⟩=>?_))))
 exact wpAny_release ⟨σ,H3,I3,q3⟩
def zkt (te:TE) (g:TG):TS:=λD σ H=>te σ H λx H1=>g x σ H1 D.nx
theorem zjg {tg e:Expr} {te:TE} {g:TG} (he:PE X e te) (hg:PG X tg g) (hs:swapsWithSole [tg] e pos.line X.env=pure false:=by rfl) (hw:swappedStores [tg] e X.env=pure none:=by rfl)
  (h1:(assignEach [tg] X.env).map (·.2)=[assign tg X.env]:=by rfl):PS X (.Assign [tg] e pos) (zkt te g):=by
 intro pins s σ H D I h
 refine wpAny_Assign_stores (thn (he pins s σ H _ I h) λv s1 ⟨x,H1,I1,r1,q1⟩=>?_) hs hw
 rw [h1]
 exact thn (hg pins s1 σ H1 x v _ I1 r1 q1) λ_ s2 q=>q
theorem zap {i:Nat} {x:Str} {e:Expr} {te:TE} {pos':Pos} (hN:X.N.Nodup) (hi:X.N[i]?=some x) (hx:Loc X.env.scope x) (he:PE X e te) (hs:swapsWith e (some (.Name x pos')) pos.line X.env=pure false:=by rfl) (hf:X.fn x=true∨X.env.scope.names.lookup x=some .local:=by first | exact .inl rfl | exact .inr rfl | assumption) :
  PS X (.Assign [.Name x pos'] e pos) (zkt te (zd7 i)):=by
 intro pins s σ H D I h
 refine wpAny_Assign_Name (thn (he pins s σ H _ I h) λv s1 ⟨y,H1,I1,r1,q1⟩=>?_) hs
 exact store_ok I1 hN hi hx r1 (λs2 I2=>⟨_,H1,I2,q1⟩) hf
end
section
variable {X:Cx} {pos:Pos}
def zmJ (c:TT) (tb:TS):TS:=λD σ H=>∃ W:Nat->St->Hp->Prop,(∃ m,W m σ H)∧∀ m σ H,W m σ H →
 c σ H λb H1=>if b=true then ∃ N:St->Hp->Prop,(∀ σ' H',N σ' H'->∃ m',m'<m∧W m' σ' H')∧tb { D with nx:=N,ct:=N,bk:=D.nx } σ H1 else D.nx σ H1
theorem ziX {c:Expr} {body:List Stmt} {tc:TT} {tb:TS} (hp:PassesOwn (model X.prog X.w) X.A X.env X.xe) (hc:PT X c tc) (hb:PSs X body tb):PS X (.While c body [] pos) (zmJ tc tb):=by
 intro pins s σ H D I h
 obtain ⟨W,⟨m0,w0⟩,turn⟩:=h
 refine wpAny_While (codeAny_whileLoop (λn s'=>∃ σ' H',Inv X pins σ' H' s'∧W n σ' H') ?_ m0 ⟨σ,H,I,w0⟩)
 rintro n s1 ⟨σ1,H1,I1,w1⟩
 refine wpAny_passesOwn hp (thn (hc pins s1 σ1 H1 _ I1 (turn n σ1 H1 w1)) λb s2 ⟨H2,I2,q2⟩=>?_)
 cases b with
 | true =>
  obtain ⟨N,hN,q2⟩:=q2
  rw [if_pos rfl]
  refine wpAny_passesOwn hp (thn (hb pins s2 σ1 H2 _ I2 q2) λf s3 q3=>?_)
  cases f with
  | next =>
   obtain ⟨σ3,H3,I3,n3⟩:=q3
   obtain ⟨m',hm,w3⟩:=hN σ3 H3 n3
   exact ⟨m',hm,σ3,H3,I3,w3⟩
  | cont =>
   obtain ⟨σ3,H3,I3,n3⟩:=q3
   obtain ⟨m',hm,w3⟩:=hN σ3 H3 n3
   exact ⟨m',hm,σ3,H3,I3,w3⟩
  | brk=>exact q3
  | ret v=>exact q3
 | false =>
  rw [if_neg Bool.false_ne_true]
  exact wpAny_execs_nil ⟨σ1,H2,I2,q2⟩
end
structure It where
 go:Nat->Hp->Prop
 yld:Nat->Hp->V->Hp->Prop
 stop:Nat->Hp->Prop
def FpOk (X:Cx) (pins:List (Addr×Obj)) (H:Hp) (b:Addr):Prop :=
 H b=none∧b≠X.env.locals∧b ∉ X.fs∧(b∈X.ex∨X.s₀.heap.objs.size≤b)∧(∀ x c,X.env.cells.lookup x=some c->c≠b)∧∀ p∈X.pn++pins,p.1≠b
theorem Inv.fpOk {X:Cx} {pins:List (Addr×Obj)} {σ:St} {H H':Hp} {s:Shared} {b:Addr} (I:Inv X pins σ H s) (hb:s.heap.objs.size≤b) (hn:H' b=none):FpOk X pins H' b:=by
 refine ⟨hn,Nat.ne_of_gt (Nat.lt_of_lt_of_le I.lt hb),I.nofs hb,.inr (Nat.le_trans I.sz hb),λx c e z=>?_,λp hp z=>?_⟩
 ·obtain ⟨v,q⟩:=I.cell x c e
  exact absurd (Nat.lt_of_lt_of_le q.lt (by rw [z];exact hb)) (Nat.lt_irrefl _)
 ·exact absurd (Nat.lt_of_lt_of_le (Heap.lt_size (I.pin p hp).1) (by rw [z];exact hb)) (Nat.lt_irrefl _)
structure Turn (P:Program) (w:World) (K:W.Frag) (tg:Expr) (J:It) (fp:List Addr) (it:Addr) (tn:Nat->Heap->Prop):Prop where
 mem:it∈fp
 obj:∀ i h,tn i h->∀ b∈fp,∃ o,h.get? b=some o∧∀ v,o.data≠.cell v
 keep:∀ i h h',tn i h->(∀ b∈fp,∀ o,h.get? b=some o->h'.get? b=some o)->tn i h'
 item:∀ (X:Cx),X.prog=P->X.w=w->X.K=K->X.calm=true->∀ (i:Nat) (pins:List (Addr×Obj)) (s:Shared) (σ:St) (H:Hp) (E:Value->Shared->Prop),Inv X pins σ H s->(∀ b∈fp,FpOk X pins H b)->tn i s.heap->J.go i H →
  wpAny (model P w) X.A (pyNext (.ref it)) (λr s1=>∃ u,r=some u ∧
   wpAny (model P w) X.A (letOwnedTupleGo tg (.ref it) u) (λ_ s2=>∃ x H',Inv X pins σ H' s2∧RelV x u∧J.yld i H x H'∧tn (i+1) s2.heap∧∀ b∈fp,H' b=none) E s1) E s
 done:∀ (X:Cx),X.prog=P->X.w=w->X.K=K->X.calm=true->∀ (i:Nat) (pins:List (Addr×Obj)) (s:Shared) (σ:St) (H:Hp) (E:Value->Shared->Prop),Inv X pins σ H s->(∀ b∈fp,FpOk X pins H b)->tn i s.heap->J.stop i H →
  wpAny (model P w) X.A (pyNext (.ref it)) (λr s1=>r=none∧Inv X pins σ H s1) E s
 self:∀ (A:Around) (i:Nat) (s:Shared) (Q:Value->Shared->Prop) (E:Value->Shared->Prop),tn i s.heap->Q (.ref it) s->wpAny (model P w) A (pyIter (.ref it)) Q E s
abbrev TI:=St->Hp->(It->Hp->Prop)->Prop
def PIE (X:Cx) (pins:List (Addr×Obj)) (σ:St) (tg:Expr) (R:It->Hp->Prop) (itv:Value) (s2:Shared):Prop :=
 ∃ (it:Addr) (fp:List Addr) (tn:Nat->Heap->Prop) (J:It) (H':Hp),itv=.ref it∧Inv X pins σ H' s2∧Turn X.prog X.w X.K tg J fp it tn∧tn 0 s2.heap∧(∀ b∈fp,FpOk X pins H' b)∧R J H'
def PI (X:Cx) (tg iter:Expr) (wi:TI):Prop :=
 ∀ (pins:List (Addr×Obj)) (s:Shared) (σ:St) (H:Hp) (R:It->Hp->Prop),Inv X pins σ H s->wi σ H R →
  wpAny (model X.prog X.w) X.A (eval iter X.env) (λv s1=>wpAny (model X.prog X.w) X.A (pyIter v) (PIE X pins σ tg R) X.xe s1) X.xe s
theorem zoB {M:Model} {A:Around} {E:Value->Shared->Prop} {s:Shared} {tg:Expr} {it:Addr} {u:Value} {o:Obj} {n:String} {vs:Array Value} {Q:Unit->Shared->Prop} (ho:s.heap.get? it=some o) (hc:o.cls=.type n) (hd:o.data=.fields vs)
  (hn:["enumerate","zip","dict_itemiterator","dict_reverseitemiterator","odict_iterator","itertools.zip_longest","itertools.pairwise"].contains n=false) (hQ:Q () s):wpAny M A (letOwnedTupleGo tg (.ref it) u) Q E s:=by
 unfold letOwnedTupleGo
 cases tg<;>first
  | exact wpAny_pure hQ
  | (cases u<;>first
    | exact wpAny_pure hQ
    | (refine wpAny_bind (wpAny_load ho ?_)
       rw [hc,hd]
       show wpAny M A (if (["enumerate","zip","dict_itemiterator","dict_reverseitemiterator","odict_iterator","itertools.zip_longest","itertools.pairwise"].contains n&&vs[0]? == some (rawInt _))=true then _ else _) Q E s
       rw [if_neg (by intro h;rw [hn,Bool.false_and] at h;cases h)]
       exact wpAny_pure hQ))
def Itl (K:W.Frag) (a:Addr):It :=
 ⟨λi H=>∃ xs x,SqL K H a xs∧xs[i]?=some x,λi H x H'=>H'=H∧∀ xs,SqL K H a xs->xs[i]?=some x,λi H=>∃ xs,SqL K H a xs∧xs.length≤i⟩
def Itr (lo:Int) (n:Nat):It:=⟨λi _=>i<n,λi H x H'=>H'=H∧x=.int (lo+i),λi _=>n≤i⟩
theorem zkC {P:Program} {w:World} {K:W.Frag} {tg:Expr} (a it:Addr):Turn P w K tg (Itl K a) [it] it (λi h=>h.IsListIter it a i) where
 mem:=by simp
 obj:=λi h st b hb=>by
  have e:b=it:=by simpa using hb
  subst e
  obtain ⟨o,e,c,d⟩:=st
  exact ⟨o,e,λv z=>by rw [d] at z;cases z⟩
 keep:=λi h h' st k=>st.at λo e=>k it (by simp) o e
 item:=by
  intro X hP hw hK hc i pins s σ H E I hf st hg
  subst hP hw hK
  obtain ⟨xs,x,hq,hx⟩:=hg
  obtain ⟨its,rv,p,hz⟩:=I.list hq
  obtain ⟨u,hu,ru⟩:=rv.get hx
  obtain ⟨f0,f1,f2,f3,f4,f5⟩:=hf it (by simp)
  refine wpAny_pyNext_list_item st p.isList (x:=u) (by simpa using hu) λh' st' sb=>?_
  have I1:Inv X pins σ H { s with heap:=h' }:=I.turned (t':=s.toks) (λb o hb e=>(sb.2 b hb).trans e) f0 f1 f3 f4 f5
  obtain ⟨o,e,c,d⟩:=id st'
  exact ⟨u,rfl,zoB (s:={ s with heap:=h' }) e c d (by decide) ⟨x,H,I1,ru,⟨rfl,λys hy=>by rw [I.list_inj hy hq];exact hx⟩,st',λb hb=>(hf b hb).1⟩⟩
 done:=by
  intro X hP hw hK hc i pins s σ H E I hf st hg
  subst hP hw hK
  obtain ⟨xs,hq,hx⟩:=hg
  obtain ⟨its,rv,p,hz⟩:=I.list hq
  obtain ⟨f0,f1,f2,f3,f4,f5⟩:=hf it (by simp)
  have hl:=rv.length
  exact wpAny_pyNext_list_end (I.ok.hd hc) st p.isList (by simp;omega) λh' eb=>⟨rfl,I.turned (t':=s.toks) (λb o hb e=>eb b o hb e) f0 f1 f3 f4 f5⟩
 self:=λ_ _ _ _ _ st h=>wpAny_pyIter_listiter st h
theorem zjR {P:Program} {w:World} {K:W.Frag} {tg:Expr} (it:Addr) (lo:Int) (n:Nat):Turn P w K tg (Itr lo n) [it] it (λi h=>IsRangeIter h it (lo+(i:Nat)*1) ((n:Int)-(i:Nat)) 1) where
 mem:=by simp
 obj:=λi h st b hb=>by
  have e:b=it:=by simpa using hb
  subst e
  exact ⟨_,st,λv z=>by
   have z':Data.fields _=Data.cell v:=z
   cases z'⟩
 keep:=λi h h' st k=>k it (by simp) _ st
 item:=by
  intro X hP hw hK hc i pins s σ H E I hf st hg
  subst hP hw hK
  obtain ⟨f0,f1,f2,f3,f4,f5⟩:=hf it (by simp)
  have W:=Walks.range (prog:=X.prog) (w:=X.w) (I.ok.hd hc) it lo 1 n
  refine W.item i s _ _ hg st λv h' tk hv st' kk=>?_
  obtain ⟨t,rfl⟩:=hv
  have I1:Inv X pins σ H { s with heap:=h',toks:=tk }:=I.turned (λb o hb e=>kk b o (by simpa using hb) e) f0 f1 f3 f4 f5
  refine ⟨_,rfl,zoB (s:={ s with heap:=h',toks:=tk }) (n:="range_iterator") st' rfl rfl (by decide) ⟨.int (lo+i),H,I1,⟨t,?_⟩,⟨rfl,rfl⟩,st',λb hb=>(hf b hb).1⟩⟩
  rw [Int.mul_one]
 done:=by
  intro X hP hw hK hc i pins s σ H E I hf st hg
  subst hP hw hK
  obtain ⟨f0,f1,f2,f3,f4,f5⟩:=hf it (by simp)
  exact wpAny_pyNext_range_end (I.ok.hd hc) st (by have:n≤i:=hg;omega) λh' eb=>⟨rfl,I.turned (t':=s.toks) (λb o hb e=>eb b o hb e) f0 f1 f3 f4 f5⟩
 self:=λ_ _ _ _ _ st h=>wpAny_pyIter_rangeiter st h
end L2
namespace L2
open PySem PySem.Spec PyProof.Rows
section
variable {X:Cx} {tg:Expr}
def znq (K:W.Frag) (tl:TE):TI:=λσ H R=>tl σ H λx H1=>∃ a,x=.ref a∧(∃ xs,SqL K H1 a xs)∧R (Itl K a) H1
theorem znf {l:Expr} {tl:TE} (hl:PE X l tl):PI X tg l (znq X.K tl):=by
 intro pins s σ H R I h
 refine thn (hl pins s σ H _ I h) λv s1 ⟨x,H1,I1,r1,q1⟩=>?_
 obtain ⟨a,e,⟨xs,hq⟩,q⟩:=q1
 subst e
 cases r1
 obtain ⟨its,rv,p,hz⟩:=I1.list hq
 refine wpAny_pyIter_list p.isList ?_
 refine ⟨s1.heap.objs.size,[s1.heap.objs.size],_,_,H1,rfl,I1.kept (t':=s1.toks) λb o e=>Heap.get?_push_of_some _ e,zkC a _,⟨_,Heap.get?_push_size _ rfl,rfl,rfl⟩,λb hb=>?_,q⟩
 have e:b=s1.heap.objs.size:=by simpa using hb
 subst e
 exact I1.fpOk (Nat.le_refl _) (I1.hok.fresh (Nat.le_refl _))
theorem zjb {pins:List (Addr×Obj)} {σ:St} {H:Hp} {s:Shared} {R:It->Hp->Prop} {E:Value->Shared->Prop} {lo hi:Int} {t u v:Tok} {tk:Nat} (I:Inv X pins σ H s) (h1:-(2^62)≤lo) (h2:lo<2^62) (h3:-(2^62)≤hi) (h4:hi<2^62)
  (q:R (Itr lo (hi-lo).toNat) H):wpAny (model X.prog X.w) X.A (pyIter (.ref s.heap.objs.size)) (PIE X pins σ tg R) E { s with heap:=s.heap.push { cls:=.type "range",data:=.fields #[.int lo t,.int hi u,.int 1 v] },toks:=tk }:=by
 refine wpAny_pyIter_range (IsRange.new ..) (small_one h1 h2 h3 h4) ?_
 have I1:Inv X pins σ H { s with heap:=s.heap.push { cls:=.type "range",data:=.fields #[.int lo t,.int hi u,.int 1 v] },toks:=tk }:=I.kept λb o e=>Heap.get?_push_of_some _ e
 refine ⟨(s.heap.push { cls:=.type "range",data:=.fields #[.int lo t,.int hi u,.int 1 v] }).objs.size,[(s.heap.push { cls:=.type "range",data:=.fields #[.int lo t,.int hi u,.int 1 v] }).objs.size],_,_,H,rfl,
  I1.kept (t':=tk) λb o e=>Heap.get?_push_of_some _ e,zjR _ lo (hi-lo).toNat,?_,λb hb=>?_,q⟩
 ·have e1:lo+((0:Nat):Int)*1=lo:=by simp
  have e2:(((hi-lo).toNat:Nat):Int)-((0:Nat):Int)=Builtin.Range.rangeSize lo hi 1:=by rw [rangeSize_one];split<;>omega
  show IsRangeIter _ _ (lo+((0:Nat):Int)*1) ((((hi-lo).toNat:Nat):Int)-((0:Nat):Int)) 1
  rw [e1,e2]
  exact Heap.get?_push_size _ rfl
 ·have e:b=(s.heap.push { cls:=.type "range",data:=.fields #[.int lo t,.int hi u,.int 1 v] }).objs.size:=by simpa using hb
  subst e
  exact I1.fpOk (Nat.le_refl _) (I1.hok.fresh (Nat.le_refl _))
def zpb (ta:TA):TI:=λσ H R=>ta σ H λvs H1=>∃ j:Int,vs=[.int j]∧-(2^62)≤j∧j<2^62∧R (Itr 0 j.toNat) H1
def zpE (ta:TA):TI:=λσ H R=>ta σ H λvs H1=>∃ i j:Int,vs=[.int i,.int j]∧(-(2^62)≤i∧i<2^62∧-(2^62)≤j∧j<2^62)∧R (Itr i (j-i).toNat) H1
theorem zgt {a:Expr} {ta:TA} {p pos:Pos} (hg:Gl X "range") (hm:X.mg "range"=none) (ha:PA X [a] ta) (hs:starEach [a] X.env=[(false,eval a X.env)]:=by rfl):PI X tg (.Call (.Name "range" p) [a] [] pos) (zpb ta):=by
 intro pins s σ H R I h
 refine Call_ (ld_blt I hg hm boot_range (PyProof.Rows.callWith_type1 (thn (ha pos pins s σ H _ I h) λus s1 ⟨vs,H1,I1,r1,q1⟩=>?_) hs rfl))
 obtain ⟨j,e,q1,q2,q⟩:=q1
 subst e
 cases r1 with
 | cons r rr =>
  cases rr
  obtain ⟨t,rfl⟩:=r
  exact call_range_1 (zjb I1 (by omega) (by omega) q1 q2 (by simpa using q))
theorem zkh {a b:Expr} {ta:TA} {p pos:Pos} (hg:Gl X "range") (hm:X.mg "range"=none) (ha:PA X [a,b] ta) (hs:starEach [a,b] X.env=[(false,eval a X.env),(false,eval b X.env)]:=by rfl) (hs2:starEach [b] X.env=[(false,eval b X.env)]:=by rfl) :
  PI X tg (.Call (.Name "range" p) [a,b] [] pos) (zpE ta):=by
 intro pins s σ H R I h
 refine Call_ (ld_blt I hg hm boot_range (PyProof.Rows.callWith_type1 (thn (ha pos pins s σ H _ I h) λus s1 ⟨vs,H1,I1,r1,q1⟩=>?_) (by rw [hs,hs2]) (by rw [hs2];rfl)))
 obtain ⟨i,j,e,⟨q1,q2,q3,q4⟩,q⟩:=q1
 subst e
 cases r1 with
 | cons r rr =>
  cases rr with
  | cons r' rr =>
   cases rr
   obtain ⟨t,rfl⟩:=r
   obtain ⟨t',rfl⟩:=r'
   exact call_range_2 (zjb I1 q1 q2 q3 q4 q)
def zqi (wi:TI) (g:TG) (tb:TS):TS:=λD σ H=>wi σ H λJ H1=>∃ W:Nat->Nat->St->Hp->Prop,(∃ m,W 0 m σ H1)∧∀ i m σ H,W i m σ H →
 (J.stop i H∧D.nx σ H)∨(J.go i H∧∃ N:St->Hp->Prop,(∀ σ' H',N σ' H'->∃ m',m'<m∧W (i+1) m' σ' H')∧∀ x H',J.yld i H x H'->g x σ H' λσ2 H2=>tb { D with nx:=N,ct:=N,bk:=D.nx } σ2 H2)
def zhO (fp:List Addr) (h:Heap):List (Addr×Obj):=fp.filterMap λb=>(h.get? b).map λo=>(b,o)
theorem zeE {fp:List Addr} {h:Heap} {b:Addr} {o:Obj} (hb:b∈fp) (e:h.get? b=some o):(b,o)∈zhO fp h:=List.mem_filterMap.mpr ⟨b,hb,by rw [e];rfl⟩
theorem zk9 {fp:List Addr} {h:Heap} {p:Addr×Obj} (hp:p∈zhO fp h):p.1∈fp∧h.get? p.1=some p.2:=by
 obtain ⟨b,hb,e⟩:=List.mem_filterMap.mp hp
 cases q:h.get? b with
 | none=>rw [q] at e;cases e
 | some o =>
  rw [q] at e
  have e':(b,o)=p:=Option.some.inj e
  subst e'
  exact ⟨hb,q⟩
theorem Inv.pinned {pins:List (Addr×Obj)} {σ:St} {H:Hp} {s:Shared} {fp:List Addr} (I:Inv X pins σ H s) (hf:∀ b∈fp,FpOk X pins H b) (ho:∀ b∈fp,∃ o,s.heap.get? b=some o∧∀ v,o.data≠.cell v):Inv X (pins++zhO fp s.heap) σ H s :=
 I.pins_of λp hp=>(List.mem_append.mp hp).elim (λz=>I.pin p (List.mem_append_right _ z)) λz=>by
  obtain ⟨hb,e⟩:=zk9 z
  obtain ⟨f0,f1,f2,_⟩:=hf p.1 hb
  obtain ⟨o,e',d⟩:=ho p.1 hb
  rw [e] at e';cases e'
  exact ⟨e,f0,f1,f2,d⟩
theorem Inv.unpinned {pins pl:List (Addr×Obj)} {σ:St} {H:Hp} {s:Shared} (I:Inv X (pins++pl) σ H s):Inv X pins σ H s:=I.pins_of λp hp=>I.pin p (List.mem_append_right _ (List.mem_append_left _ hp))
theorem zd3 {iter:Expr} {body:List Stmt} {wi:TI} {g:TG} {tb:TS} {pos:Pos} (hp:PassesOwn (model X.prog X.w) X.A X.env X.xe) (hc:X.calm=true) (hi:PI X tg iter wi) (hg:PG X tg g) (hb:PSs X body tb)
  (hs:∀ x,foldedSetIterable iter X.env x=pure x:=by intro _;rfl):PS X (.For tg iter body [] pos) (zqi wi g tb):=by
 intro pins s σ H D I h
 refine wpAny_For (thn (hi pins s σ H _ I h) λv s1 h1=>thn h1 λitv s2 h2=>?_) hs
 obtain ⟨it,fp,tn,J,H2,e,I2,T,st2,f2,W,⟨m0,w0⟩,turn⟩:=h2
 subst e
 have stat:∀ {H':Hp},(∀ b∈fp,H' b=none)->∀ b∈fp,FpOk X pins H' b:=λhn b hb=>⟨hn b hb,(f2 b hb).2⟩
 refine codeAny_forLoop_any (λn s'=>∃ i σ' H',Inv X pins σ' H' s'∧tn i s'.heap∧(∀ b∈fp,H' b=none)∧W i n σ' H') ?_ m0 ⟨0,σ,H2,I2,st2,λb hb=>(f2 b hb).1,w0⟩
 rintro n s3 ⟨i,σ3,H3,I3,st3,fr3,w3⟩
 rcases turn i n σ3 H3 w3 with ⟨stop,qn⟩ | ⟨go,N,hN,step⟩
 ·refine wpAny_passesOwn hp (thn (T.done X rfl rfl rfl hc i pins s3 σ3 H3 X.xe I3 (stat fr3) st3 stop) λr s4 ⟨hr,I4⟩=>?_)
  subst hr
  exact wpAny_execs_nil ⟨σ3,H3,I4,qn⟩
 ·refine wpAny_passesOwn hp (thn (T.item X rfl rfl rfl hc i pins s3 σ3 H3 X.xe I3 (stat fr3) st3 go) λr s4 ⟨u,hr,h4⟩=>?_)
  subst hr
  refine wpAny_passesOwn hp (thn h4 λ_ s5 ⟨x,H5,I5,r5,y5,st5,fr5⟩=>?_)
  have I5':=I5.pinned (stat fr5) (T.obj _ _ st5)
  refine wpAny_passesOwn hp (thn (hg _ s5 σ3 H5 x u _ I5' r5 (step x H5 y5)) λ_ s6 ⟨σ6,H6,I6,q6⟩=>?_)
  refine wpAny_passesOwn hp (thn (hb _ s6 σ6 H6 _ I6 q6) λf s7 q7=>?_)
  have again:∀ {σ7:St} {H7:Hp},Inv X (pins++zhO fp s5.heap) σ7 H7 s7->N σ7 H7->∃ m,m<n∧∃ i σ' H',Inv X pins σ' H' s7∧tn i s7.heap∧(∀ b∈fp,H' b=none)∧W i m σ' H':=λ{σ7 H7} I7 n7=>by
   obtain ⟨m',hm,w7⟩:=hN σ7 H7 n7
   refine ⟨m',hm,i+1,σ7,H7,I7.unpinned,T.keep _ _ _ st5 λb hb o e=>(I7.pin (b,o) (List.mem_append_right _ (List.mem_append_right _ (zeE hb e)))).1,λb hb=>?_,w7⟩
   obtain ⟨o,e,d⟩:=T.obj _ _ st5 b hb
   exact (I7.pin (b,o) (List.mem_append_right _ (List.mem_append_right _ (zeE hb e)))).2.1
  cases f with
  | next=>obtain ⟨σ7,H7,I7,n7⟩:=q7;exact again I7 n7
  | cont=>obtain ⟨σ7,H7,I7,n7⟩:=q7;exact again I7 n7
  | brk=>obtain ⟨σ7,H7,I7,q7⟩:=q7;exact ⟨σ7,H7,I7.unpinned,q7⟩
  | ret v=>obtain ⟨x7,σ7,H7,I7,r7,q7⟩:=q7;exact ⟨x7,σ7,H7,I7.unpinned,r7,q7⟩
end
end L2
namespace L2
open PySem PySem.Spec PyProof.Rows
abbrev R2:=V->V->Hp->VK->Prop
def OpR (X:Cx) (f:Value->Value->Sem Value) (r:R2):Prop :=
 ∀ (pins:List (Addr×Obj)) (s:Shared) (σ:St) (H:Hp) (x y:V) (v u:Value) (Q:VK),Inv X pins σ H s->RelV x v->RelV y u->r x y H Q →
  wpAny (model X.prog X.w) X.A (f v u) (EP X pins σ Q) X.xe s
def UnR (X:Cx) (f:Value->Sem Value) (r:V->Hp->VK->Prop):Prop :=
 ∀ (pins:List (Addr×Obj)) (s:Shared) (σ:St) (H:Hp) (x:V) (v:Value) (Q:VK),Inv X pins σ H s->RelV x v->r x H Q →
  wpAny (model X.prog X.w) X.A (f v) (EP X pins σ Q) X.xe s
def ze3 (X:Cx) (f:Value) (r:List V->Hp->VK->Prop):Prop :=
 ∀ (pins:List (Addr×Obj)) (s:Shared) (σ:St) (H:Hp) (xs:List V) (us:List Value) (Q:VK),Inv X pins σ H s->Vals xs us->r xs H Q →
  wpAny (model X.prog X.w) X.A (call f us) (EP X pins σ Q) X.xe s
def tOp (r:R2) (ta tb:TE):TE:=λσ H Q=>ta σ H λx H1=>tb σ H1 λy H2=>r x y H2 Q
def tUn (r:V->Hp->VK->Prop) (ta:TE):TE:=λσ H Q=>ta σ H λx H1=>r x H1 Q
def rI (C:Int->Int->Prop) (g:Int->Int->V):R2:=λx y H Q=>∃ i j,x=.int i∧y=.int j∧C i j∧Q (g i j) H
def rI0 (g:Int->Int->V):R2:=λx y H Q=>∃ i j,x=.int i∧y=.int j∧Q (g i j) H
def rU (g:Int->V):V->Hp->VK->Prop:=λx H Q=>∃ i,x=.int i∧Q (g i) H
section
variable {X:Cx} {a b c:Expr} {ta tb tc:TE} {pos:Pos}
theorem binT (ha:PE X a ta) (hb:PE X b tb) {pins:List (Addr×Obj)} {s:Shared} {σ:St} {H:Hp} {R:V->V->Hp->Prop} (I:Inv X pins σ H s)
  (h:ta σ H λx H1=>tb σ H1 λy H2=>R x y H2) {Q:Value->Shared->Prop} {f:Value->Value->Sem Value}
  (hf:∀ v u s2 x y H2,Inv X pins σ H2 s2->RelV x v->RelV y u->R x y H2->wpAny (model X.prog X.w) X.A (f v u) Q X.xe s2) :
  wpAny (model X.prog X.w) X.A (eval a X.env) (λv s₁=>wpAny (model X.prog X.w) X.A (eval b X.env) (λu s₂=>wpAny (model X.prog X.w) X.A (f v u) Q X.xe s₂) X.xe s₁) X.xe s:=by
 refine thn (ha pins s σ H _ I h) λv s1 ⟨x,H1,I1,r1,q1⟩=>?_
 refine thn (hb pins s1 σ H1 _ I1 q1) λu s2 ⟨y,H2,I2,r2,q2⟩=>?_
 exact hf v u s2 x y H2 I2 r1 r2 q2
theorem zau {op:Operator} {r:R2} (ho:OpR X (binaryOp op) r) (ha:PE X a ta) (hb:PE X b tb):PE X (.BinOp a op b pos) (tOp r ta tb):=by
 intro pins s σ H Q I h
 exact wpAny_BinOp (binT ha hb I h λv u s2 x y H2 I2 rx ry q=>ho pins s2 σ H2 x y v u Q I2 rx ry q)
theorem zie {op:UnaryOp} {r:V->Hp->VK->Prop} (ho:UnR X (unaryOp op) r) (ha:PE X a ta):PE X (.UnaryOp op a pos) (tUn r ta):=by
 intro pins s σ H Q I h
 exact UnaryOp_ (thn (ha pins s σ H _ I h) λv s1 ⟨x,H1,I1,r1,q1⟩=>ho pins s1 σ H1 x v Q I1 r1 q1)
theorem opI {f:Value->Value->Sem Value} {C:Int->Int->Prop} {g:Int->Int->Int}
  (rule:∀ (i j:Int) (t u:Tok) (s:Shared) (Q:Value->Shared->Prop) (E:Value->Shared->Prop),C i j->Q (.int (g i j) s.toks) { s with toks:=s.toks+1 }->wpAny (model X.prog X.w) X.A (f (.int i t) (.int j u)) Q E s) :
  OpR X f (rI C λi j=>.int (g i j)):=by
 intro pins s σ H x y v u Q I rx ry h
 obtain ⟨i,j,rfl,rfl,hc,q⟩:=h
 obtain ⟨t,rfl⟩:=rx
 obtain ⟨t',rfl⟩:=ry
 exact rule i j t t' s _ _ hc ⟨.int (g i j),H,I.tok _,⟨_,rfl⟩,q⟩
theorem zrr {f:Value->Value->Sem Value} {g:Int->Int->Int}
  (rule:∀ (i j:Int) (t u:Tok) (s:Shared) (Q:Value->Shared->Prop) (E:Value->Shared->Prop),Q (.int (g i j) s.toks) { s with toks:=s.toks+1 }->wpAny (model X.prog X.w) X.A (f (.int i t) (.int j u)) Q E s) :
  OpR X f (rI0 λi j=>.int (g i j)):=by
 intro pins s σ H x y v u Q I rx ry h
 obtain ⟨i,j,rfl,rfl,q⟩:=h
 obtain ⟨t,rfl⟩:=rx
 obtain ⟨t',rfl⟩:=ry
 exact rule i j t t' s _ _ ⟨.int (g i j),H,I.tok _,⟨_,rfl⟩,q⟩
theorem zqD {f:Value->Value->Sem Value} {g:Int->Int->Bool}
  (rule:∀ (i j:Int) (t u:Tok) (s:Shared) (Q:Value->Shared->Prop) (E:Value->Shared->Prop),Q (.bool (g i j)) s->wpAny (model X.prog X.w) X.A (f (.int i t) (.int j u)) Q E s) :
  OpR X f (rI0 λi j=>.bl (g i j)):=by
 intro pins s σ H x y v u Q I rx ry h
 obtain ⟨i,j,rfl,rfl,q⟩:=h
 obtain ⟨t,rfl⟩:=rx
 obtain ⟨t',rfl⟩:=ry
 exact rule i j t t' s _ _ ⟨.bl (g i j),H,I,rfl,q⟩
def zrv (i j:Int):Prop:=0≤j∧j≤1000000∧i.natAbs<2^64
theorem zdh:OpR X (binaryOp .Add) (rI0 λi j=>.int (i+j)):=zrr λ_ _ _ _ _ _ _ q=>add_int q
theorem zfM:OpR X (binaryOp .Sub) (rI0 λi j=>.int (i-j)):=zrr λ_ _ _ _ _ _ _ q=>sub_int q
theorem zbV:OpR X (binaryOp .Mod) (rI (λ_ j=>0<j) λi j=>.int (i%j)):=opI λi j _ _ _ _ _ hc q=>by
 have h1:(0:Int)<j:=hc
 exact mod_int' (by omega) (by rw [Int.fmod_eq_emod_of_nonneg i (by omega)];exact q)
theorem zi9:OpR X (binaryOp .Pow) (rI zrv λi j=>.int (i^j.toNat)):=opI λ_ _ _ _ _ _ _ hc q=>pow_int_small hc.1 hc.2.1 hc.2.2 q
theorem unI {f:Value->Sem Value} {g:Int->Int}
  (rule:∀ (i:Int) (t:Tok) (s:Shared) (Q:Value->Shared->Prop) (E:Value->Shared->Prop),Q (.int (g i) s.toks) { s with toks:=s.toks+1 }->wpAny (model X.prog X.w) X.A (f (.int i t)) Q E s) :
  UnR X f (rU λi=>.int (g i)):=by
 intro pins s σ H x v Q I rx h
 obtain ⟨i,rfl,q⟩:=h
 obtain ⟨t,rfl⟩:=rx
 exact rule i t s _ _ ⟨.int (g i),H,I.tok _,⟨_,rfl⟩,q⟩
theorem zgz:UnR X (unaryOp .USub) (rU λi=>.int (-i)):=unI λ_ _ _ _ _ q=>neg_int q
end
def scal:V->V->Bool
 | .non,.non=>true | .non,.int _=>true | .int _,.non=>true | .non,.bl _=>true | .bl _,.non=>true | .non,.str _=>true | .str _,.non=>true
 | .int _,.int _=>true | .bl _,.bl _=>true | .str _,.str _=>true | .byt _,.byt _=>true
 | .int _,.str _=>true | .str _,.int _=>true | .bl _,.str _=>true | .str _,.bl _=>true
 | _,_=>false
def rEq:R2:=λx y H Q=>scal x y=true∧Q (.bl (decide (x=y))) H
def rNe:R2:=λx y H Q=>scal x y=true∧Q (.bl (!decide (x=y))) H
theorem zj4 {i j:Int}:decide (V.int i=V.int j)=(i == j):=by
 rw [Bool.eq_iff_iff]
 simp
theorem dec_bl {i j:Bool}:decide (V.bl i=V.bl j)=(i == j):=by
 rw [Bool.eq_iff_iff]
 simp
theorem zjY {i j:Str}:decide (V.str i=V.str j)=(i == j):=by
 rw [Bool.eq_iff_iff]
 simp
theorem zk5 {i j:Array UInt8}:decide (V.byt i=V.byt j)=(i.toList == j.toList):=by
 rw [Bool.eq_iff_iff]
 cases i
 cases j
 simp
section
variable {X:Cx} {a b c:Expr} {ta tb tc:TE} {pos:Pos}
theorem fin_bl {pins:List (Addr×Obj)} {σ:St} {H:Hp} {s:Shared} {Q:VK} {k k':Bool} (I:Inv X pins σ H s) (q:Q (.bl k) H) (e:k=k'):EP X pins σ Q (.bool k') s:=by
 subst e
 exact ⟨.bl k,H,I,rfl,q⟩
theorem zeP:OpR X (compareOp .Eq) rEq:=by
 intro pins s σ H x y v u Q I rx ry h
 obtain ⟨hs,q⟩:=h
 cases x with
 | non =>
  cases rx
  cases y with
  | non=>cases ry;exact PySem.EqNone.eq_none_none (fin_bl I q (by simp))
  | bl j=>cases ry;exact PySem.EqNone.eq_none_bool (fin_bl I q (by simp))
  | int j=>obtain ⟨t',rfl⟩:=ry;exact PySem.EqNone.eq_none_int (fin_bl I q (by simp))
  | str j=>obtain ⟨t',rfl⟩:=ry;exact PySem.EqNone.eq_none_str (fin_bl I q (by simp))
  | _=>exact absurd (show false=true from hs) Bool.false_ne_true
 | bl i =>
  cases rx
  cases y with
  | non=>cases ry;exact PySem.EqNone.eq_bool_none (fin_bl I q (by simp))
  | bl j=>cases ry;exact eq_bool (fin_bl I q dec_bl)
  | str j=>obtain ⟨t',rfl⟩:=ry;exact PySem.EqMixed.eq_bool_str (fin_bl I q (by simp))
  | _=>exact absurd (show false=true from hs) Bool.false_ne_true
 | int i =>
  obtain ⟨t,rfl⟩:=rx
  cases y with
  | non=>cases ry;exact PySem.EqNone.eq_int_none (fin_bl I q (by simp))
  | int j=>obtain ⟨t',rfl⟩:=ry;exact eq_int (fin_bl I q zj4)
  | str j=>obtain ⟨t',rfl⟩:=ry;exact PySem.EqMixed.eq_int_str (fin_bl I q (by simp))
  | _=>exact absurd (show false=true from hs) Bool.false_ne_true
 | str i =>
  obtain ⟨t,rfl⟩:=rx
  cases y with
  | non=>cases ry;exact PySem.EqNone.eq_str_none (fin_bl I q (by simp))
  | bl j=>cases ry;exact PySem.EqMixed.eq_str_bool (fin_bl I q (by simp))
  | int j=>obtain ⟨t',rfl⟩:=ry;exact PySem.EqMixed.eq_str_int (fin_bl I q (by simp))
  | str j=>obtain ⟨t',rfl⟩:=ry;exact eq_str (fin_bl I q zjY)
  | _=>exact absurd (show false=true from hs) Bool.false_ne_true
 | byt i =>
  obtain ⟨t,rfl⟩:=rx
  cases y with
  | byt j=>obtain ⟨t',rfl⟩:=ry;exact W.eq_bytes (fin_bl I q zk5)
  | _=>exact absurd (show false=true from hs) Bool.false_ne_true
 | _=>cases y<;>exact absurd (show false=true from hs) Bool.false_ne_true
theorem zg6:OpR X (compareOp .NotEq) rNe:=by
 intro pins s σ H x y v u Q I rx ry h
 obtain ⟨hs,q⟩:=h
 cases x with
 | non =>
  cases rx
  cases y with
  | non=>cases ry;exact PySem.EqNone.ne_none_none (fin_bl I q (by simp))
  | bl j=>cases ry;exact PySem.EqNone.ne_none_bool (fin_bl I q (by simp))
  | int j=>obtain ⟨t',rfl⟩:=ry;exact PySem.EqNone.ne_none_int (fin_bl I q (by simp))
  | str j=>obtain ⟨t',rfl⟩:=ry;exact PySem.EqNone.ne_none_str (fin_bl I q (by simp))
  | _=>exact absurd (show false=true from hs) Bool.false_ne_true
 | bl i =>
  cases rx
  cases y with
  | non=>cases ry;exact PySem.EqNone.ne_bool_none (fin_bl I q (by simp))
  | bl j=>cases ry;exact ne_bool (fin_bl I q (congrArg not dec_bl))
  | str j=>obtain ⟨t',rfl⟩:=ry;exact PySem.EqMixed.ne_bool_str (fin_bl I q (by simp))
  | _=>exact absurd (show false=true from hs) Bool.false_ne_true
 | int i =>
  obtain ⟨t,rfl⟩:=rx
  cases y with
  | non=>cases ry;exact PySem.EqNone.ne_int_none (fin_bl I q (by simp))
  | int j=>obtain ⟨t',rfl⟩:=ry;exact ne_int (fin_bl I q (congrArg not zj4))
  | str j=>obtain ⟨t',rfl⟩:=ry;exact PySem.EqMixed.ne_int_str (fin_bl I q (by simp))
  | _=>exact absurd (show false=true from hs) Bool.false_ne_true
 | str i =>
  obtain ⟨t,rfl⟩:=rx
  cases y with
  | non=>cases ry;exact PySem.EqNone.ne_str_none (fin_bl I q (by simp))
  | bl j=>cases ry;exact PySem.EqMixed.ne_str_bool (fin_bl I q (by simp))
  | int j=>obtain ⟨t',rfl⟩:=ry;exact PySem.EqMixed.ne_str_int (fin_bl I q (by simp))
  | str j=>obtain ⟨t',rfl⟩:=ry;exact ne_str (fin_bl I q (congrArg not zjY))
  | _=>exact absurd (show false=true from hs) Bool.false_ne_true
 | byt i =>
  obtain ⟨t,rfl⟩:=rx
  cases y with
  | byt j=>obtain ⟨t',rfl⟩:=ry;exact W.ne_bytes (fin_bl I q (congrArg not zk5))
  | _=>exact absurd (show false=true from hs) Bool.false_ne_true
 | _=>cases y<;>exact absurd (show false=true from hs) Bool.false_ne_true
theorem zgs:OpR X (compareOp .Lt) (rI0 λi j=>.bl (decide (i<j))):=zqD λ_ _ _ _ _ _ _ q=>lt_int q
theorem zgI:OpR X (compareOp .Gt) (rI0 λi j=>.bl (decide (j<i))):=zqD λ_ _ _ _ _ _ _ q=>gt_int q
theorem zqP:OpR X (compareOp .GtE) (rI0 λi j=>.bl (decide (j≤i))):=zqD λ_ _ _ _ _ _ _ q=>ge_int q
theorem zmN:OpR X (compareOp .Is) (λx y H Q=>y=.non∧Q (.bl (decide (x=.non))) H):=by
 intro pins s σ H x y v u Q I rx ry h
 obtain ⟨rfl,q⟩:=h
 cases ry
 refine is_none_gen (fin_bl I q ?_)
 cases x<;>first
  | (cases rx;rfl)
  | (obtain ⟨t,rfl⟩:=rx;rfl)
theorem zaD (b:Expr) {op:CmpOp} (h:op≠.In:=by decide) (h2:op≠.NotIn:=by decide):behindInMarks op b=false:=by
 have e1:(op == CmpOp.In)=false:=by cases op<;>first | rfl | exact absurd rfl h
 have e2:(op == CmpOp.NotIn)=false:=by cases op<;>first | rfl | exact absurd rfl h2
 cases b<;>simp [behindInMarks,e1,e2]
theorem zn9 {op:CmpOp} {r:R2} (ho:OpR X (compareOp op) r) (ha:PE X a ta) (hb:PE X b tb) (hm:behindInMarks op b=false):PE X (.Compare a [op] [b] pos) (tOp r ta tb):=by
 intro pins s σ H Q I h
 exact wpAny_Compare1 (binT ha hb I h λv u s2 x y H2 I2 rx ry q=>ho pins s2 σ H2 x y v u Q I2 rx ry q) hm
def znj (t:TE):TT:=λσ H Q=>t σ H λx H'=>∃ k,x=.bl k∧Q k H'
theorem zat {op:CmpOp} {r:R2} (ho:OpR X (compareOp op) r) (ha:PE X a ta) (hb:PE X b tb) (hm:behindInMarks op b=false):PT X (.Compare a [op] [b] pos) (znj (tOp r ta tb)):=by
 intro pins s σ H Q I h
 refine wpAny_isTrue_Compare1 (thn (ha pins s σ H _ I h) λv s1 ⟨x,H1,I1,r1,q1⟩=>thn (hb pins s1 σ H1 _ I1 q1) λu s2 ⟨y,H2,I2,r2,q2⟩ =>
  thn (ho pins s2 σ H2 x y v u _ I2 r1 r2 q2) λc s3 ⟨z,H3,I3,r3,k,e,q3⟩=>?_) hm
 subst e
 cases r3
 exact wpAny_truthy_bool ⟨H3,I3,q3⟩
theorem zi3:(sizeLine:Nat)<2^63:=by rw [sizeLine_eq];decide
theorem zlr {x:V} {us:List Value} (r:Vals [x] us):∃ u,us=[u]∧RelV x u:=by
 cases r with
 | cons r1 r2=>cases r2;exact ⟨_,rfl,r1⟩
theorem zol {x y:V} {us:List Value} (r:Vals [x,y] us):∃ u w',us=[u,w']∧RelV x u∧RelV y w':=by
 cases r with
 | cons r1 r2 =>
  cases r2 with
  | cons r3 r4=>cases r4;exact ⟨_,_,rfl,r1,r3⟩
theorem zlW:ze3 X (.builtin "abs") (λxs H Q=>∃ i,xs=[.int i]∧Q (.int (if i<0 then -i else i)) H):=by
 intro pins s σ H xs us Q I r h
 obtain ⟨i,rfl,q⟩:=h
 obtain ⟨u,rfl,t,rfl⟩:=zlr r
 exact call_abs_int λu tk=>⟨.int (if i<0 then -i else i),H,I.tok _,⟨_,rfl⟩,q⟩
end
end L2
namespace L2
open PySem PySem.Spec PyProof.Rows
structure ObjM (h:Heap) (x dx C:Addr) (mA:Str->Option Value):Prop where
 obj:h.get? x=some (W.instObj C dx)
 ns:h.Ns1 dx mA
 ne:dx≠x
theorem zk7 {h:Heap} {dx:Addr} {mA:Str->Option Value} (n:h.Ns1 dx mA):∃ od,h.get? dx=some od∧∀ name,W.lookIn name od=some (mA name):=by
 obtain ⟨o,es,ep,ho,hd,hk,_,hm⟩:=n
 refine ⟨o,ho,λname=>?_⟩
 have e:=hm name
 unfold nsFind findBy at e
 rw [← Array.find?_toList] at e
 unfold W.lookIn
 rw [hd]
 dsimp only
 split
 ·rename_i y q
  rw [q] at e
  exact congrArg some e
 ·rename_i q
  rw [q] at e
  have a:es.toList.any (·.refKey)=false:=by
   rw [List.any_eq_false]
   intro y hy
   obtain ⟨z,t,hkey⟩:=hk y (Array.mem_toList_iff.mp hy)
   simp [DictEntry.refKey,hkey]
  have a':¬ es.toList.any (·.refKey)=true:=by rw [a];exact Bool.false_ne_true
  rw [if_neg a']
  exact congrArg some e
theorem ObjM.look {h:Heap} {x dx C:Addr} {mA:Str->Option Value} (I:ObjM h x dx C mA):∃ od,W.InstAt h x (W.instObj C dx) C (some od)∧∀ name,W.lookIn name od=some (mA name) :=
 let ⟨od,ho,hl⟩:=zk7 I.ns
 ⟨od,⟨I.obj,rfl,rfl,ho⟩,hl⟩
section
variable {prog:Program} {w:World} {A:Around} {E:Value->Shared->Prop} {s:Shared} {K:W.Frag} {x dx C f:Addr} {mA:Str->Option Value} {name:Str} {v:Value}
theorem zow {expr:Bool} {Q:Value->Shared->Prop} (X:K.In s.heap) (I:ObjM s.heap x dx C mA) (hg:W.plainGet K C name=true) (hh:W.hasDictIn K C=true)
  (ha:W.findIn K (.ref C) name=some none) (hv:mA name=some v) (hv':W.handedIn v=true) (h:Q v { s with toks:=s.toks+1 }) :
  wpAny (model prog w) A (getAttr (.ref x) name expr) Q E s:=by
 obtain ⟨od,J,hl⟩:=I.look
 exact W.get_value X J (W.plainGet_of hg).1 (W.findObj_own hh ha rfl (by rw [hl,hv])) hv' h
theorem zn2 {ns:List Str} {Q:Unit->Shared->Prop} (X:K.In s.heap) (I:ObjM s.heap x dx C mA)
  (hs:W.findIn K (.ref C) "__setattr__"=some (some (.builtin "object.__setattr__"))) (hp:W.plainOver K C=true) (ht:W.takerIn K C name=some none) (hh:W.hasDictIn K C=true)
  (hw:PySem.Within mA ns) (hsz:ns.length≤sizeLine)
  (h:∀ h',ObjM h' x dx C (λy=>if y=name then some v else mA y)->Heap.SameBut dx s.heap h'->Q () { s with heap:=h',toks:=s.toks+2 }) :
  wpAny (model prog w) A (setAttr (.ref x) name v) Q E s:=by
 obtain ⟨od,J,hl⟩:=I.look
 refine W.set_plain X J hs (W.osa_open (s:={ s with toks:=s.toks+1 }) (r:=none) X J hp ht λb=>?_)
 obtain ⟨cd,hc,hd'⟩:=W.any_some hh
 have hx:s.heap.get? x=some ⟨.ref C,some dx,.plain,#[]⟩:=I.obj
 refine wpAny_bind (wpAny_pure (wpAny_bind (wpAny_bind (wpAny_loadPart hx (wpAny_bind (W.Looks.here (s:={ s with toks:=s.toks+1 }) (W.looks_clsIn X hc) ?_))))))
 rw [hd']
 refine wpAny_pure (a:=some dx) (wpAny_bind (wpAny_pure (wpAny_bind ?_)))
 refine wpAny_nsSet1 (s:={ s with toks:=s.toks+1 }) I.ns λh' hn2 hs2=>?_
 obtain ⟨oD,esD,epD,hoD,hdD,hcD⟩:=hn2.count (PySem.Within.cons name v hw)
 refine wpAny_bind (wpAny_lookBehind hoD (by rw [hdD];exact pastItsLine_dict (Nat.le_trans hcD (by rw [List.length_cons];omega))) ?_)
 exact wpAny_pure (h _ ⟨(hs2.2 _ (Ne.symm I.ne)).trans I.obj,hn2,I.ne⟩ hs2)
theorem zlX {R:Result->Shared->Prop} {vs:List Value} {kw:List (Str×Value)} (X:K.In s.heap) (hm:W.makesIn K C=true)
  (hi:W.findIn K (.ref C) "__init__"=some (some (.ref f))) (hf:W.typeIn K (.ref f)=some (.type "function"))
  (h:codeAny (model prog w) (A.under (.builtin "type.__call__" ⟨.ref C :: vs,kw⟩)) (.call (.ref f) ⟨.ref (s.heap.objs.size+1) :: vs,kw⟩) (W.InitBack (s.heap.objs.size+1) R)
   { s with heap:=(s.heap.push W.emptyDict).push (W.instObj C s.heap.objs.size) }) :
  codeAny (model prog w) A (.call (.ref C) ⟨vs,kw⟩) R s:=by
 obtain ⟨hh,g,d,t,os⟩:=s
 exact W.make_core (W.makes_of X hm) (W.looks_findIn X hi) (λself=>W.bind_fn X self hf) (.inl rfl) h
end
def putF (f:Str) (v:V):List (Str×V)->List (Str×V)
 | []=>[(f,v)]
 | (g,x) :: r=>if g=f then (g,v) :: r else (g,x) :: putF f v r
theorem zgc (f g:Str) (v:V):∀ fs:List (Str×V),(putF f v fs).lookup g=if g=f then some v else fs.lookup g
 | []=>by
  show List.lookup g [(f,v)]=_
  by_cases h:g=f
  ·have hb:(g == f)=true:=beq_iff_eq.mpr h
   simp only [List.lookup,hb,if_pos h]
  ·have hb:(g == f)=false:=beq_eq_false_iff_ne.mpr h
   simp only [List.lookup,hb,if_neg h]
 | (k,x) :: r=>by
  have ih:=zgc f g v r
  rw [show putF f v ((k,x) :: r)=(if k=f then (k,v) :: r else (k,x) :: putF f v r) from rfl]
  by_cases hk:k=f
  ·rw [if_pos hk]
   by_cases h:g=k
   ·have hb:(g == k)=true:=beq_iff_eq.mpr h
    simp only [List.lookup,hb,if_pos (h.trans hk)]
   ·have hb:(g == k)=false:=beq_eq_false_iff_ne.mpr h
    simp only [List.lookup,hb,if_neg (λe:g=f=>h (e.trans hk.symm))]
  ·rw [if_neg hk]
   by_cases h:g=k
   ·have hb:(g == k)=true:=beq_iff_eq.mpr h
    simp only [List.lookup,hb,if_neg (λe:g=f=>hk (h.symm.trans e))]
   ·have hb:(g == k)=false:=beq_eq_false_iff_ne.mpr h
    simp only [List.lookup,hb]
    exact ih
theorem zgq (f:Str) (v:V):∀ fs:List (Str×V),f∈(putF f v fs).map (·.1)∧∀ g,g∈fs.map (·.1)->g∈(putF f v fs).map (·.1)
 | []=>⟨by simp [putF],λg h=>by simp at h⟩
 | (k,x) :: r=>by
  obtain ⟨i1,i2⟩:=zgq f v r
  rw [show putF f v ((k,x) :: r)=(if k=f then (k,v) :: r else (k,x) :: putF f v r) from rfl]
  by_cases hk:k=f
  ·rw [if_pos hk]
   subst hk
   exact ⟨by simp,λg h=>by simpa using h⟩
  ·rw [if_neg hk]
   refine ⟨?_,λg h=>?_⟩
   ·rw [List.map_cons]
    exact List.mem_cons_of_mem _ i1
   ·rw [List.map_cons] at h ⊢
    rcases List.mem_cons.mp h with e | e
    ·exact List.mem_cons.mpr (.inl e)
    ·exact List.mem_cons_of_mem _ (i2 g e)
theorem zgg (f:Str) (v:V):∀ fs:List (Str×V),(putF f v fs).length≤fs.length+1
 | []=>by simp [putF]
 | (k,x) :: r=>by
  have ih:=zgg f v r
  rw [show putF f v ((k,x) :: r)=(if k=f then (k,v) :: r else (k,x) :: putF f v r) from rfl]
  by_cases hk:k=f
  ·rw [if_pos hk,List.length_cons,List.length_cons];omega
  ·rw [if_neg hk,List.length_cons,List.length_cons];omega
theorem zoy.some_of {v:V} {o:Option Value} (r:zoy (some v) o):∃ u,o=some u∧RelV v u:=by
 cases o with
 | none=>exact (show False from r).elim
 | some u=>exact ⟨u,rfl,r⟩
theorem zlD {v:V} {u:Value} (r:RelV v u):W.handedIn u=true:=by
 cases v with
 | non=>cases (show u=Value.none from r);rfl
 | bl b=>cases (show u=Value.bool b from r);rfl
 | int i=>obtain ⟨t,e⟩:=(show ∃ t,u=Value.int i t from r);cases e;rfl
 | str x=>obtain ⟨t,e⟩:=(show ∃ t,u=Value.str x t from r);cases e;rfl
 | byt b=>obtain ⟨t,e⟩:=(show ∃ t,u=Value.bytes b t from r);cases e;rfl
 | flt b=>obtain ⟨t,e⟩:=(show ∃ t,u=Value.float b t from r);cases e;rfl
 | ref a=>cases (show u=Value.ref a from r);rfl
 | ty n=>cases (show u=Value.type n from r);rfl
section
variable {P:Program} {w:World} {H H':Hp} {h h':Heap} {a C dx:Addr} {fs fs':List (Str×V)}
theorem ziO (hok:HOk P w H h) (e:H a=some (.ins C dx fs)):∃ mA,ObjM h a dx C mA∧(∀ f,zoy (fs.lookup f) (mA f))∧PySem.Within mA (fs.map (·.1))∧fs.length≤1000∧H dx=some (.own a):=by
 obtain ⟨d,z,ne,ob,mA,n,r,q⟩:=(show zcX P w H h a (.ins C dx fs) from hok a _ e)
 exact ⟨mA,⟨ob,n,ne⟩,r,q,z,d⟩
end
structure Cls (K:W.Frag) (C:Addr):Prop where
 pg:W.plainGet K C Str.empty=true
 hd:W.hasDictIn K C=true
 po:W.plainOver K C=true
 sa:W.findIn K (.ref C) "__setattr__"=some (some (.builtin "object.__setattr__"))
theorem Cls.get {K:W.Frag} {C:Addr} (c:Cls K C) (f:Str):W.plainGet K C f=true:=c.pg
def NoAttr (K:W.Frag) (C:Addr) (f:Str):Prop:=W.findIn K (.ref C) f=some none
theorem NoAttr.taker {K:W.Frag} {C:Addr} {f:Str} (n:NoAttr K C f):W.takerIn K C f=some none:=by
 unfold W.takerIn
 rw [show W.findIn K (.ref C) f=some none from n]
 rfl
structure Con (K:W.Frag) (C:Addr) (f:Str) (v:V) (u:Value):Prop where
 at_:W.findIn K (.ref C) f=some (some u)
 rel:RelV v u
 get:W.specialIn K u "__get__"=some none
 cp:W.copiedNames.contains f=false
structure Meth (K:W.Frag) (C:Addr) (m:Str) (f:Addr):Prop where
 at_:W.findIn K (.ref C) m=some (some (.ref f))
 fn:W.isFn K (.ref f)=true
 kp:W.keepIn K (.ref f)=true
section
variable {X:Cx} {pins:List (Addr×Obj)} {σ:St} {H:Hp} {s:Shared} {a C dx:Addr} {fs:List (Str×V)} {f:Str} {v:V} {A:Around} {E:Value->Shared->Prop}
theorem zjT {b:Bool} {Q:Value->Shared->Prop} (I:Inv X pins σ H s) (e:H a=some (.ins C dx fs)) (c:Cls X.K C) (n:NoAttr X.K C f) (l:fs.lookup f=some v)
  (h:∀ u s',Inv X pins σ H s'->RelV v u->Q u s'):wpAny (model X.prog X.w) A (getAttr (.ref a) f b) Q E s:=by
 obtain ⟨mA,O,r,_,_,_⟩:=ziO I.hok e
 obtain ⟨u,hu,ru⟩:=zoy.some_of (v:=v) (o:=mA f) (by rw [← l];exact r f)
 exact zow I.kIn O (c.get f) c.hd n hu (zlD ru) (h u _ (I.tok _) ru)
theorem zjF {y:V} {u:Value} {Q:Unit->Shared->Prop} (I:Inv X pins σ H s) (e:H a=some (.ins C dx fs)) (c:Cls X.K C) (n:NoAttr X.K C f) (hl:fs.length<1000) (ry:RelV y u)
  (h:∀ s',Inv X pins σ (upd H a (.ins C dx (putF f y fs))) s'->Q () s'):wpAny (model X.prog X.w) A (setAttr (.ref a) f u) Q E s:=by
 obtain ⟨mA,O,r,wi,_,ho⟩:=ziO I.hok e
 have hz:(fs.map (·.1)).length≤sizeLine:=by rw [List.length_map,sizeLine_eq];omega
 refine zn2 I.kIn O c.sa c.po n.taker c.hd wi hz λh' O' sb=>h _ ?_
 have hd:∃ o,h'.get? dx=some o:=let ⟨o,_,_,e',_⟩:=O'.ns;⟨o,e'⟩
 refine I.write (x:=a) (e:=dx) (by rw [e];exact True.intro) (.inr ho) (λb q hb z=>(sb.2 b hb).trans z) hd ?_
 refine ⟨by rw [upd_ne O.ne];exact ho,?_,O.ne,O'.obj,_,O'.ns,λg=>?_,λg hg=>?_⟩
 ·have:=zgg f y fs;omega
 ·show zoy ((putF f y fs).lookup g) (if g=f then some u else mA g)
  rw [zgc]
  by_cases q:g=f
  ·rw [if_pos q,if_pos q];exact ry
  ·rw [if_neg q,if_neg q];exact r g
 ·by_cases q:g=f
  ·rw [q];exact (zgq f y fs).1
  ·refine (zgq f y fs).2 g (wi g λz=>hg ?_)
   show (if g=f then some u else mA g)=none
   rw [if_neg q];exact z
theorem Inv.made (I:Inv X pins σ H s):Inv X pins σ (upd (upd H s.heap.objs.size (.own (s.heap.objs.size+1))) (s.heap.objs.size+1) (.ins C s.heap.objs.size []))
  { s with heap:=(s.heap.push W.emptyDict).push (W.instObj C s.heap.objs.size) }:=by
 have e1:(s.heap.push W.emptyDict).get? s.heap.objs.size=some W.emptyDict:=Heap.get?_push_size s.heap rfl
 have e2:((s.heap.push W.emptyDict).push (W.instObj C s.heap.objs.size)).get? (s.heap.objs.size+1)=some (W.instObj C s.heap.objs.size):=by
  have:=Heap.get?_push_size (s.heap.push W.emptyDict) (o:=W.instObj C s.heap.objs.size) rfl
  rwa [Heap.size_push] at this
 have e3:(s.heap.push W.emptyDict).Ns s.heap.objs.size (λ_=>none):=⟨W.emptyDict,#[],_,e1,rfl,(λe he=>absurd he (by simp)),λ_=>rfl⟩
 have I1:=I.laid (a:=s.heap.objs.size) (o:=.own (s.heap.objs.size+1)) (h':=s.heap.push W.emptyDict) (t':=s.toks) (λb u q=>Heap.get?_push_of_some _ q) (Nat.le_refl _) ⟨_,e1⟩
 refine I1.laid (a:=s.heap.objs.size+1) (o:=.ins C s.heap.objs.size []) (t':=s.toks) (λb u q=>Heap.get?_push_of_some _ q) (Nat.le_of_eq (Heap.size_push _ _)) ?_
 have ne:s.heap.objs.size≠s.heap.objs.size+1:=Nat.ne_of_lt (Nat.lt_succ_self _)
 refine ⟨by rw [upd_ne ne,upd_same],Nat.zero_le _,ne,e2,λ_=>none,(Heap.Ns1.of_empty e3).at λo q=>Heap.get?_push_of_some _ q,λ_=>True.intro,λy hy=>absurd rfl hy⟩
theorem attr_of {prog:Program} {w:World} {env:Env} {e:Expr} {f:Str} {pos:Pos} {s:Shared} {Q:Value->Shared->Prop} (hb:attributeBase e f env (eval e env)=eval e env)
  (h:wpAny (model prog w) A (eval e env) (λo s₁=>wpAny (model prog w) A (getAttr o f true) Q E s₁) E s):wpAny (model prog w) A (eval (.Attribute e f pos) env) Q E s :=
 Attribute_any_ h (by rw [arm_eval_Attribute,hb])
end
def tFld (K:W.Frag) (ta:TE) (f:Str):TE:=λσ H Q=>ta σ H λx H1=>∃ a C dx fs v,x=.ref a∧H1 a=some (.ins C dx fs)∧Cls K C∧NoAttr K C f∧fs.lookup f=some v∧Q v H1
def zqX (K:W.Frag) (ta tv:TE) (f:Str):TS:=λD σ H=>tv σ H λy H1=>ta σ H1 λx H2=>∃ a C dx fs,x=.ref a∧H2 a=some (.ins C dx fs)∧Cls K C∧NoAttr K C f∧fs.length<1000 ∧
 D.nx σ (upd H2 a (.ins C dx (putF f y fs)))
section
variable {X:Cx} {o e value:Expr} {f:Str} {pos pos' tpos:Pos} {ta tv:TE}
theorem zoN (he:PE X e ta) (hb:attributeBase e f X.env (eval e X.env)=eval e X.env):PE X (.Attribute e f pos) (tFld X.K ta f):=by
 intro pins s σ H Q I h
 refine attr_of hb (thn (he pins s σ H _ I h) λu s1 ⟨x,H1,I1,rx,a,C,dx,fs,v,ex,ea,c,n,l,q⟩=>?_)
 subst ex
 obtain rfl:u=Value.ref a:=rx
 exact zjT I1 ea c n l λu' s2 I2 ru=>⟨v,H1,I2,ru,q⟩
theorem zfH (ha:PE X o ta) (hv:PE X value tv) (hs:swapsWith value (some (.Attribute o f pos')) pos.line X.env=pure false):PS X (.Assign [.Attribute o f pos'] value pos) (zqX X.K ta tv f):=by
 intro pins s σ H D I h
 refine plainObj_wpAny_Assign_Attribute (thn (hv pins s σ H _ I h) λu s1 ⟨y,H1,I1,ry,q⟩=>thn (ha pins s1 σ H1 _ I1 q) λov s2 ⟨x,H2,I2,rx,a,C,dx,fs,ex,ea,c,n,l,q2⟩=>?_) hs
 subst ex
 obtain rfl:ov=Value.ref a:=rx
 exact zjF I2 ea c n l ry λs3 I3=>⟨σ,_,I3,q2⟩
end
section
variable {X:Cx} {pins:List (Addr×Obj)} {σ:St} {H:Hp} {s:Shared} {A:Around} {E:Value->Shared->Prop} {Q:Value->Shared->Prop} {c:Value} {b:Bool}
inductive TyOf (K:W.Frag) (H:Hp):V->Value->Prop where
 | non:TyOf K H .non (.type "NoneType")
 | bl (x:Bool):TyOf K H (.bl x) (.type "bool")
 | int (i:Int):TyOf K H (.int i) (.type "int")
 | str (x:Str):TyOf K H (.str x) (.type "str")
 | flt (x:UInt64):TyOf K H (.flt x) (.type "float")
 | lst {a:Addr} {xs:List V} (e:H a=some (.lst xs)):TyOf K H (.ref a) (.type "list")
 | frz {a:Addr} {o:Obj} {xs:List V} (e:H a=some (.frz o (.lst xs))):TyOf K H (.ref a) (.type "list")
 | tup {a:Addr} {xs:List V} (e:H a=some (.tup xs)):TyOf K H (.ref a) (.type "tuple")
 | dK {a:Addr} {kvs:List (Key×V)} (e:H a=some (.dK kvs)):TyOf K H (.ref a) (.type "dict")
 | dT {a:Addr} {kvs:List (List Key×V)} (e:H a=some (.dT kvs)):TyOf K H (.ref a) (.type "dict")
 | ins {a C dx:Addr} {fs:List (Str×V)} (e:H a=some (.ins C dx fs)) (cl:Cls K C) (ha:W.findIn K (.ref C) "__class__"=some (some (.builtin "object.__class__")))
   (hn:W.specialIn K (.builtin "object.__class__") "__get__"=some (some (.builtin "getset_descriptor.__get__"))) (htk:W.takesIn K (.builtin "object.__class__")=some true)
   (hm:W.mroIn K C (.type "object")=some true):TyOf K H (.ref a) (.ref C)
theorem isinst_ok {x:V} {u t:Value} (I:Inv X pins σ H s) (rx:RelV x u) (ty:TyOf X.K H x t) (e:W.kitOne X.K t c=some b) (h:∀ tk,Q (.bool b) { s with toks:=tk }) :
  wpAny (model X.prog X.w) A (call (.builtin "isinstance") [u,c]) Q E s:=by
 cases ty with
 | non=>cases (show u=Value.none from rx);exact W.kia_one W.kitx_none I.kIn True.intro e (λz=>nomatch z) h
 | bl y=>cases (show u=Value.bool y from rx);exact W.kia_one W.kitx_bool I.kIn True.intro e (λz=>nomatch z) h
 | int i=>obtain ⟨t,q⟩:=(show ∃ t,u=Value.int i t from rx);cases q;exact W.kia_one W.kitx_int I.kIn True.intro e (λz=>nomatch z) h
 | str y=>obtain ⟨t,q⟩:=(show ∃ t,u=Value.str y t from rx);cases q;exact W.kia_one W.kitx_str I.kIn True.intro e (λz=>nomatch z) h
 | flt y=>obtain ⟨t,q⟩:=(show ∃ t,u=Value.float y t from rx);cases q;exact W.kia_one W.kitx_float I.kIn True.intro e (λz=>nomatch z) h
 | @lst a xs ea =>
  cases (show u=Value.ref a from rx)
  obtain ⟨_,_,n,_,h1⟩:=(show zcX X.prog X.w H s.heap a (.lst xs) from I.hok a _ ea)
  exact W.kia_one W.kitx_list I.kIn ⟨_,h1,rfl⟩ e (λz=>nomatch z) h
 | @frz a ob xs ea =>
  cases (show u=Value.ref a from rx)
  obtain ⟨_,_,_,n,_,h1⟩:=(show zcX X.prog X.w H s.heap a (.frz ob (.lst xs)) from I.hok a _ ea)
  exact W.kia_one W.kitx_list I.kIn ⟨_,h1,rfl⟩ e (λz=>nomatch z) h
 | @tup a xs ea =>
  cases (show u=Value.ref a from rx)
  obtain ⟨_,_,_,p⟩:=(show zcX X.prog X.w H s.heap a (.tup xs) from I.hok a _ ea)
  obtain ⟨o,h1,h2,_⟩:=p
  exact W.kia_one W.kitx_tuple I.kIn ⟨o,h1,h2⟩ e (λz=>nomatch z) h
 | @dK a kvs ea =>
  cases (show u=Value.ref a from rx)
  obtain ⟨_,_,vs,_,p⟩:=(show zcX X.prog X.w H s.heap a (.dK kvs) from I.hok a _ ea)
  obtain ⟨o,es,ep,h1,h2,_⟩:=p
  exact W.kia_one W.kitx_dict I.kIn ⟨o,h1,h2.1⟩ e (λz=>nomatch z) h
 | @dT a kvs ea =>
  cases (show u=Value.ref a from rx)
  obtain ⟨_,_,xs,_,o,es,ep,h1,h2,_⟩:=(show zcX X.prog X.w H s.heap a (.dT kvs) from I.hok a _ ea)
  exact W.kia_one W.kitx_dict I.kIn ⟨o,h1,h2.1⟩ e (λz=>nomatch z) h
 | @ins a C dx fs ea cl ha hn htk hm =>
  cases (show u=Value.ref a from rx)
  obtain ⟨mA,O,_⟩:=ziO I.hok ea
  obtain ⟨od,J,_⟩:=O.look
  exact W.kia_one (W.kitx_own (cl.get _) cl.hd ha hn htk hm) I.kIn J e (λz=>nomatch z) h
end
end L2
namespace L2
open PySem PySem.Spec PyProof.Rows
structure Room (k:Nat) (A:Around):Prop where
 hd:A.handled=none
 dp:A.depth+3*k+5<recursionLimit
 un:A.units+16*k+200<cLine
theorem Room.mono {j k:Nat} {A:Around} (r:Room k A) (h:j≤k):Room j A:=⟨r.hd,by have:=r.dp;omega,by have:=r.un;omega⟩
theorem Room.deeper {k:Nat} {A:Around} (r:Room (k+1) A) (env:Env):Room k (A.deeper env) :=
 ⟨r.hd,by have:=r.dp;show A.depth+1+3*k+5<_;omega,by have:=r.un;show A.units+3+16*k+200<_;omega⟩
theorem Room.in1 {k:Nat} {A:Around} (r:Room (k+1) A):Room k A.in1 :=
 ⟨r.hd,by have:=r.dp;show A.depth+3*k+5<_;omega,by have:=r.un;show A.units+1+16*k+200<_;omega⟩
theorem zjB {A:Around} {C:Addr} {us:List Value} {kw:List (Str×Value)}:(A.under (.builtin "type.__call__" ⟨.ref C :: us,kw⟩)).depth=A.depth+1:=by
 first | rfl | simp [Around.under,Code.weight,Code.isCreation,Code.isGuard,Code.isCaller,Code.frames,Code.isFrame,guardIds]
theorem zjz {A:Around} {C:Addr} {us:List Value} {kw:List (Str×Value)}:(A.under (.builtin "type.__call__" ⟨.ref C :: us,kw⟩)).units=A.units+1:=by
 first | rfl | simp [Around.under,Code.cUnits,Code.frames,Code.isFrame]
theorem Room.make {k:Nat} {A:Around} (r:Room (k+1) A) (C:Addr) (us:List Value) (kw:List (Str×Value)):Room k (A.under (.builtin "type.__call__" ⟨.ref C :: us,kw⟩)) :=
 ⟨r.hd,by have:=r.dp;rw [zjB];omega,by have:=r.un;rw [zjz];omega⟩
theorem Room.depth {k:Nat} {A:Around} (r:Room k A):A.depth<recursionLimit:=by have:=r.dp;omega
theorem Room.units {k:Nat} {A:Around} (r:Room k A):A.units+64<cLine:=by have:=r.un;omega
def tNil:TA:=λ_ H Q=>Q [] H
def tCons (ta:TE) (tr:TA):TA:=λσ H Q=>ta σ H λx H1=>tr σ H1 λxs H2=>Q (x :: xs) H2
section
variable {X:Cx} {e:Expr} {es:List Expr} {te:TE} {t:TA} {pos:Pos}
theorem pa_nil:PA X [] tNil:=λ_ _ _ _ H Q I h=>Calls.spliced_nil ⟨[],H,I,.nil,h⟩
theorem pa_cons (ha:PE X e te) (hr:PA X es t) (hs:starEach (e :: es) X.env=(false,eval e X.env) :: starEach es X.env:=by rfl):PA X (e :: es) (tCons te t):=by
 intro pos pins s σ H Q I h
 rw [hs]
 show wpAny _ _ (spliced ((false,eval e X.env) :: backTo pos (starEach es X.env))) _ _ s
 refine Calls.spliced_cons (thn (ha pins s σ H _ I h) λu s1 ⟨x,H1,I1,r1,q1⟩=>?_)
 exact thn (hr pos pins s1 σ H1 _ I1 q1) λus s2 ⟨xs,H2,I2,r2,q2⟩=>⟨x :: xs,H2,I2,.cons r1 r2,q2⟩
def zrh (t:TA):TE:=λσ H Q=>t σ H λxs H1=>xs.length≤sizeLine∧∀ p,H1 p=none->Q (.ref p) (upd H1 p (.tup xs))
def zqA (t:TA):TE:=λσ H Q=>t σ H λxs H1=>xs.length≤sizeLine∧∀ p,H1 p=none->Q (.ref p) (upd H1 p (.lst xs))
theorem zgX {x1} (h:PA X es t):PE X (.Tuple es x1 pos) (zrh t):=by
 intro pins s σ H Q I hq
 refine wpAny_Tuple_spliced (thn (h pos pins s σ H _ I hq) λus s1 ⟨xs,H1,I1,r,z,q⟩=>⟨by rw [← r.length];exact z,?_⟩)
 have hf:H1 s1.heap.objs.size=none:=I1.hok.fresh (Nat.le_refl _)
 refine ⟨.ref s1.heap.objs.size,upd H1 s1.heap.objs.size (.tup xs),I1.laid (t':=s1.toks) (λb u e=>Heap.get?_push_of_some _ e) (Nat.le_refl _) ?_,rfl,q _ hf⟩
 exact ⟨z,us,r,⟨_,Heap.get?_push_size _ rfl,rfl,_,rfl⟩⟩
theorem zaP (h:PA X es t):PE X (.List es pos) (zqA t):=by
 intro pins s σ H Q I hq
 refine wpAny_List_spliced (thn (h pos pins s σ H _ I hq) λus s1 ⟨xs,H1,I1,r,z,q⟩=>⟨by rw [← r.length];exact z,?_⟩)
 have hf:H1 s1.heap.objs.size=none:=I1.hok.fresh (Nat.le_refl _)
 refine ⟨.ref s1.heap.objs.size,upd H1 s1.heap.objs.size (.lst xs),I1.laid (t':=s1.toks) (λb u e=>Heap.get?_push_of_some _ e) (Nat.le_refl _) ?_,rfl,q _ hf⟩
 exact ⟨z,us,0,r,Heap.get?_push_size _ rfl⟩
end
abbrev Sp:=List V->Hp->VK->XK->Prop
abbrev CXT:=List Env->Hp->Shared->XK->Value->Shared->Prop
structure Env0 (P:Program) (w:World) (K:W.Frag) (mg:Str->Option Value) (base:Heap) (A:Around) (outer:List Env) (s:Shared) (H:Hp):Prop where
 frames:A.frames=some outer
 mod:Mod K mg base
 bs:∀ b o,base.get? b=some o->s.heap.get? b=some o∧H b=none
 bsz:base.objs.size≤s.heap.objs.size
 funs:s.heap.FunFrames base outer
 frf:∀ b∈frs outer,H b=none
 hok:HOk P w H s.heap
 bare:AllBare s.gens
def CE (outer:List Env) (P:Program) (w:World) (H:Hp) (s:Shared) (Q:VK) (u:Value) (s':Shared):Prop :=
 ∃ v H',s'.os=s.os∧AllBare s'.gens∧Un (frs outer) [] H H' s.heap s'.heap∧HOk P w H' s'.heap∧RelV v u∧Q v H'
def CR (CX:CXT) (outer:List Env) (P:Program) (w:World) (H:Hp) (s:Shared) (Q:VK) (E:XK) (r:Result) (s':Shared):Prop :=
 match r with
 | .ok (.ret u)=>CE outer P w H s Q u s'
 | .ok _=>False
 | .error e=>CX outer H s E e s'
structure FnOk (P:Program) (w:World) (K:W.Frag) (mg:Str->Option Value) (base:Heap) (CX:CXT) (k:Nat) (f:Addr) (fd:FuncData) (ps:List Str) (sp:Sp):Prop where
 len:∀ vs H Q E,sp vs H Q E->vs.length=ps.length
 run:∀ (A:Around) (outer:List Env) (s:Shared) (H:Hp) (args:Args) (us:List Value) (vs:List V) (Q:VK) (E:XK),Room k A->Env0 P w K mg base A outer s H->BindsTo s fd args (ps.zip us)->Vals vs us->sp vs H Q E →
  codeAny (model P w) A (.call (.ref f) args) (CR CX outer P w H s Q E) s
theorem FnOk.imp {P:Program} {w:World} {K:W.Frag} {mg:Str->Option Value} {base:Heap} {CX:CXT} {k:Nat} {f:Addr} {fd:FuncData} {ps:List Str} {sp sp':Sp} (F:FnOk P w K mg base CX k f fd ps sp)
  (h:∀ vs H Q E,sp' vs H Q E->sp vs H Q E):FnOk P w K mg base CX k f fd ps sp' :=
 ⟨λvs H Q E q=>F.len vs H Q E (h _ _ _ _ q),λA outer s H args us vs Q E hr he hb hv hs=>F.run A outer s H args us vs Q E hr he hb hv (h _ _ _ _ hs)⟩
theorem Env0.make {P:Program} {w:World} {K:W.Frag} {mg:Str->Option Value} {base:Heap} {A:Around} {outer:List Env} {s:Shared} {H:Hp} (e:Env0 P w K mg base A outer s H) (C:Addr) (us:List Value) (kw:List (Str×Value)) :
  Env0 P w K mg base (A.under (.builtin "type.__call__" ⟨.ref C :: us,kw⟩)) outer s H:=⟨by first | exact e.frames | (simpa [Around.under,Code.envs,Code.isFrame,pushEnvs] using e.frames),e.mod,e.bs,e.bsz,e.funs,e.frf,e.hok,e.bare⟩
theorem Env0.in1 {P:Program} {w:World} {K:W.Frag} {mg:Str->Option Value} {base:Heap} {A:Around} {outer:List Env} {s:Shared} {H:Hp} (e:Env0 P w K mg base A outer s H) :
  Env0 P w K mg base A.in1 outer s H:=⟨e.frames,e.mod,e.bs,e.bsz,e.funs,e.frf,e.hok,e.bare⟩
section
variable {X:Cx} {pins:List (Addr×Obj)} {σ:St} {H:Hp} {s s':Shared}
theorem Inv.env0 (I:Inv X pins σ H s):Env0 X.prog X.w X.K X.mg X.base X.A X.stack s H :=
 ⟨I.ok.frames,I.ok.mod,I.bs,Nat.le_trans I.ok.bsz I.sz,I.stack,I.stkFree,I.hok,I.bare⟩
theorem Inv.after {Q:VK} {u:Value} (I:Inv X pins σ H s) (h:CE X.stack X.prog X.w H s Q u s'):EP X pins σ Q u s':=by
 obtain ⟨v,H',os,bare,un,hok,r,q⟩:=h
 obtain ⟨hh,g,d,t,os'⟩:=s'
 obtain rfl:os'=s.os:=os
 exact ⟨v,H',I.call (h':=hh) (g':=g) (d':=d) (t':=t) (ch:=[]) un hok bare (λb z=>absurd z (by simp)),r,q⟩
end
def tCall (sp:Sp) (dvs:List V) (E:XK) (t:TA):TE:=λσ H Q=>t σ H λvs H1=>sp (vs++dvs) H1 Q E
def znp (C:Addr) (sp:Sp) (dvs:List V) (E:XK) (t:TA):TE:=λσ H Q=>t σ H λvs H1=>∀ x dx,H1 x=none->H1 dx=none->dx≠x →
 sp (.ref x :: (vs++dvs)) (upd (upd H1 dx (.own x)) x (.ins C dx [])) (λv H2=>v=.non∧Q (.ref x) H2) E
def zeR (K:W.Frag) (fd:FuncData) (ps:List Str) (ds:List Value):Prop :=
 ∀ (s:Shared) (us:List Value),K.In s.heap->(us++ds).length=ps.length->BindsTo s fd ⟨us,[]⟩ (ps.zip (us++ds))
theorem zeR.all {K:W.Frag} {fd:FuncData} {ps:List Str} (h:∀ us:List Value,us.length=ps.length->bindArgs fd ⟨us,[]⟩=pure (ps.zip us)):zeR K fd ps []:=λs us _ hl=>by
 rw [List.append_nil] at hl ⊢
 exact .of_eq (h us hl)
def zf7 (CX:CXT) (X:Cx) (E:XK):Prop:=∀ (pins:List (Addr×Obj)) (σ:St) (H:Hp) (s:Shared) (e:Value) (s':Shared),Inv X pins σ H s->CX X.stack H s E e s'->X.xe e s'
section
variable {X:Cx} {CX:CXT} {k:Nat} {f C:Addr} {fd:FuncData} {ps:List Str} {sp:Sp} {dvs:List V} {ds:List Value} {E:XK} {x m:Str} {p pos apos:Pos} {e o:Expr} {es:List Expr} {ta:TE} {t:TA}
theorem zm9 {pins:List (Addr×Obj)} {σ:St} {H:Hp} {s:Shared} {Q:VK} {us:List Value} {vs:List V} (F:FnOk X.prog X.w X.K X.mg X.base CX k f fd ps sp) (hr:Room k X.A) (hb:zeR X.K fd ps ds) (hd:Vals dvs ds) (hx:zf7 CX X E)
  (I:Inv X pins σ H s) (r:Vals vs us) (h:sp (vs++dvs) H Q E):wpAny (model X.prog X.w) X.A (call (.ref f) us) (EP X pins σ Q) X.xe s:=by
 have r2:Vals (vs++dvs) (us++ds):=r.append hd
 have hl:(us++ds).length=ps.length:=by rw [← r2.length];exact F.len _ _ _ _ h
 refine wpAny_call (codeAny_mono (F.run X.A X.stack s H ⟨us,[]⟩ (us++ds) (vs++dvs) Q E hr I.env0 (hb s us I.kIn hl) r2 h) λr s' hq=>?_)
 cases r with
 | error e=>exact hx pins σ H s e s' I hq
 | ok fl =>
  cases fl with
  | ret u=>exact I.after hq
  | next=>exact False.elim hq
  | brk=>exact False.elim hq
  | cont=>exact False.elim hq
theorem znm (F:FnOk X.prog X.w X.K X.mg X.base CX k f fd ps sp) (hr:Room k X.A) (hg:Gl X x) (hm:X.mg x=some (.ref f)) (hk:W.keepIn X.K (.ref f)=true) (hb:zeR X.K fd ps ds) (hd:Vals dvs ds) (hx:zf7 CX X E)
  (ha:PA X (e :: es) t) (hdb:(x == ("__debug__":Str))=false:=by decide) (he:starEach (e :: es) X.env=(false,eval e X.env) :: starEach es X.env:=by rfl) (hpl:(backTo pos (starEach es X.env)).any (·.1)=false:=by rfl) :
  PE X (.Call (.Name x p) (e :: es) [] pos) (tCall sp dvs E t):=by
 intro pins s σ H Q I h
 refine wpAny_Call_Name_kw (ld_glob I hg hm ?_ hdb)
 refine W.callWith_K (h₀:=X.base) I.ok.mod.kin hk (thn (ha pos pins s σ H _ I h) λus s1 ⟨vs,H1,I1,r,q⟩=>⟨I1.kIn,?_⟩) he hpl
 exact zm9 F hr hb hd hx I1 r q
structure Mk (K:W.Frag) (C f:Addr):Prop where
 makes:W.makesIn K C=true
 init:W.findIn K (.ref C) "__init__"=some (some (.ref f))
 fn:W.isFn K (.ref f)=true
 kp:W.keepIn K (.ref C)=true
theorem zmi {pins:List (Addr×Obj)} {σ:St} {H:Hp} {s:Shared} {Q:VK} {us:List Value} {vs:List V} (M:Mk X.K C f) (F:FnOk X.prog X.w X.K X.mg X.base CX k f fd ps sp) (hr:Room (k+1) X.A) (hb:zeR X.K fd ps ds) (hd:Vals dvs ds)
  (hx:zf7 CX X E) (I:Inv X pins σ H s) (r:Vals vs us)
  (h:∀ x dx,H x=none->H dx=none->dx≠x->sp (.ref x :: (vs++dvs)) (upd (upd H dx (.own x)) x (.ins C dx [])) (λv H2=>v=.non∧Q (.ref x) H2) E) :
  wpAny (model X.prog X.w) X.A (call (.ref C) us) (EP X pins σ Q) X.xe s:=by
 have hq:=h (s.heap.objs.size+1) s.heap.objs.size (I.hok.fresh (Nat.le_succ _)) (I.hok.fresh (Nat.le_refl _)) (Nat.ne_of_lt (Nat.lt_succ_self _))
 have I2:=Inv.made (C:=C) I
 have r2:Vals (V.ref (s.heap.objs.size+1) :: (vs++dvs)) (Value.ref (s.heap.objs.size+1) :: (us++ds)):=.cons rfl (r.append hd)
 have hl:(Value.ref (s.heap.objs.size+1) :: us++ds).length=ps.length:=by
  have e:=r2.length
  rw [F.len _ _ _ _ hq] at e
  exact e.symm
 refine wpAny_call (zlX (f:=f) I.kIn M.makes M.init (beq_iff_eq.mp M.fn) (codeAny_mono (F.run _ X.stack _ _ ⟨Value.ref (s.heap.objs.size+1) :: us,[]⟩ (Value.ref (s.heap.objs.size+1) :: (us++ds)) _ _ E (hr.make C us [])
  (I2.env0.make C us []) (hb _ (Value.ref (s.heap.objs.size+1) :: us) I2.kIn hl) r2 hq) λr s' hq'=>?_))
 cases r with
 | error e=>exact hx pins σ _ _ e s' I2 hq'
 | ok fl =>
  cases fl with
  | ret u =>
   obtain ⟨v,H',I3,rv,ev,q3⟩:=I2.after hq'
   subst ev
   exact ⟨rv,⟨V.ref (s.heap.objs.size+1),H',I3,rfl,q3⟩⟩
  | next=>exact False.elim hq'
  | brk=>exact False.elim hq'
  | cont=>exact False.elim hq'
theorem zhC (M:Mk X.K C f) (F:FnOk X.prog X.w X.K X.mg X.base CX k f fd ps sp) (hr:Room (k+1) X.A) (hg:Gl X x) (hm:X.mg x=some (.ref C)) (hb:zeR X.K fd ps ds) (hd:Vals dvs ds) (hx:zf7 CX X E)
  (ha:PA X (e :: es) t) (hdb:(x == ("__debug__":Str))=false:=by decide) (he:starEach (e :: es) X.env=(false,eval e X.env) :: starEach es X.env:=by rfl) (hpl:(backTo pos (starEach es X.env)).any (·.1)=false:=by rfl) :
  PE X (.Call (.Name x p) (e :: es) [] pos) (znp C sp dvs E t):=by
 intro pins s σ H Q I h
 refine wpAny_Call_Name_kw (ld_glob I hg hm ?_ hdb)
 refine W.callWith_K (h₀:=X.base) I.ok.mod.kin M.kp (thn (ha pos pins s σ H _ I h) λus s1 ⟨vs,H1,I1,r,q⟩=>⟨I1.kIn,?_⟩) he hpl
 exact zmi M F hr hb hd hx I1 r q
end
section
variable {X:Cx} {CX:CXT} {k:Nat} {f C:Addr} {fd:FuncData} {ps ks:List Str} {sp:Sp} {E:XK} {x m:Str} {p pos apos kpos:Pos} {e o:Expr} {es:List Expr} {kws:List Keyword} {te ta:TE} {t tk:TA} {nm:Option Str}
structure KBinds (K:W.Frag) (fd:FuncData) (ps ks:List Str) (g:List Value->List Value->List Value) (gV:List V->List V->List V):Prop where
 to:∀ (s:Shared) (us ws:List Value),K.In s.heap->(g us ws).length=ps.length->BindsTo s fd ⟨us,ks.zip ws⟩ (ps.zip (g us ws))
 rel:∀ {vs:List V} {us:List Value} {zs:List V} {ws:List Value},Vals vs us->Vals zs ws->Vals (gV vs zs) (g us ws)
variable {g:List Value->List Value->List Value} {gV:List V->List V->List V}
end
structure FnScope (N P:List Str) (sc:Scope):Prop where
 kind:sc.kind=.function
 co:sc.isCoroutine=false
 gen:sc.isGenerator=false
 nd:N.Nodup
 pre:N.take P.length=P
 par:∀ x∈P,sc.names.lookup x=some .local∨sc.names.lookup x=some .cell
 nofree:∀ y∈sc.names,y.2≠.free
theorem zh1 {kindOf:Str->Option NameKind} {x:Str}:∀ {binds:List (Str×Value)} {m:Str->Option Value},(∀ v,(x,v) ∉ binds)->bindL kindOf binds m x=m x
 | [],_,_=>rfl
 | (n,v) :: r,m,h=>by
  unfold bindL
  rw [zh1 λw hw=>h w (List.mem_cons_of_mem _ hw)]
  split
  ·have:x≠n:=by rintro rfl;exact h v List.mem_cons_self
   simp [this]
  ·rfl
theorem bindC_out {kindOf:Str->Option NameKind} {x:Str}:∀ {binds:List (Str×Value)} {m:Str->Option Value},(∀ v,(x,v) ∉ binds)->bindC kindOf binds m x=m x
 | [],_,_=>rfl
 | (n,v) :: r,m,h=>by
  unfold bindC
  rw [bindC_out λw hw=>h w (List.mem_cons_of_mem _ hw)]
  split
  ·rfl
  ·have:x≠n:=by rintro rfl;exact h v List.mem_cons_self
   simp [this]
theorem bindL_get {kindOf:Str->Option NameKind} {x:Str} {v:Value}:∀ {P:List Str} {vs:List Value} {i:Nat} {m:Str->Option Value},P.Nodup->P[i]?=some x->vs[i]?=some v->kindOf x=some .local →
  bindL kindOf (P.zip vs) m x=some v
 | [],_,_,_,_,h,_,_=>by simp at h
 | _ :: _,[],_,_,_,_,h,_=>by simp at h
 | p :: P,w :: vs,0,m,nd,h1,h2,hk=>by
  simp at h1 h2;subst h1;subst h2
  show bindL kindOf ((p,w) :: P.zip vs) m p=_
  unfold bindL
  rw [zh1 λv hv=>(List.nodup_cons.mp nd).1 (List.of_mem_zip hv).1,if_pos hk]
  simp
 | p :: P,w :: vs,i+1,m,nd,h1,h2,hk=>by
  show bindL kindOf ((p,w) :: P.zip vs) m x=_
  unfold bindL
  exact bindL_get (i:=i) (List.nodup_cons.mp nd).2 (by simpa using h1) (by simpa using h2) hk
theorem zhU {kindOf:Str->Option NameKind} {x:Str} {v:Value}:∀ {P:List Str} {vs:List Value} {i:Nat} {m:Str->Option Value},P.Nodup->P[i]?=some x->vs[i]?=some v->kindOf x≠some .local →
  bindC kindOf (P.zip vs) m x=some v
 | [],_,_,_,_,h,_,_=>by simp at h
 | _ :: _,[],_,_,_,_,h,_=>by simp at h
 | p :: P,w :: vs,0,m,nd,h1,h2,hk=>by
  simp at h1 h2;subst h1;subst h2
  show bindC kindOf ((p,w) :: P.zip vs) m p=_
  unfold bindC
  rw [bindC_out λv hv=>(List.nodup_cons.mp nd).1 (List.of_mem_zip hv).1,if_neg hk]
  simp
 | p :: P,w :: vs,i+1,m,nd,h1,h2,hk=>by
  show bindC kindOf ((p,w) :: P.zip vs) m x=_
  unfold bindC
  exact zhU (i:=i) (List.nodup_cons.mp nd).2 (by simpa using h1) (by simpa using h2) hk
def start (N:List Str) (vs:List V):St:=vs.map some++List.replicate (N.length-vs.length) none
def zif (CX:CXT) (P:Program) (w:World) (K:W.Frag) (mg:Str->Option Value) (base:Heap) (N:List Str) (qual:Str) (scope:Scope) (f:Addr) (cd:Value) (A:Around) (outer:List Env) (s:Shared) (H:Hp) (E:XK):Cx where
 prog:=P
 w:=w
 K:=K
 mg:=mg
 base:=base
 A:=A.deeper (envOfC qual scope s.heap.objs.size f cd)
 N:=N
 s₀:=s
 H₀:=H
 env:=envOfC qual scope s.heap.objs.size f cd
 outer:=outer
 stack:=envOfC qual scope s.heap.objs.size f cd :: outer
 ex:=[]
 calm:=true
 fn:=λ_=>true
 pn:=[]
 xe:=λe s'=>wpAny (model P w) (A.deeper (envOfC qual scope s.heap.objs.size f cd)) (leaving (envOfC qual scope s.heap.objs.size f cd) e) (λ_ s''=>CX outer H s E e s'') (λe' s''=>CX outer H s E e' s'') s'
theorem zjf {sc:Scope} {n:Nat} {x:Str} (h:sc.names.lookup x=some .cell):∃ c,(cellsFrom n sc.names []).lookup x=some c:=by
 have q:=W.cellsFrom_some sc.names n [] (.inl h)
 exact Option.isSome_iff_exists.mp q
theorem zlj {CX:CXT} {P:Program} {w:World} {K:W.Frag} {mg:Str->Option Value} {base:Heap} {N ps:List Str} {qual:Str} {scope:Scope} {f:Addr} {cd:Value} {A:Around} {outer:List Env} {s s1:Shared} {H:Hp} {E:XK} {us:List Value} {vs:List V}
  (S:FnScope N ps scope) (hd:A.handled=none) (e0:Env0 P w K mg base A outer s H) (hl:vs.length=ps.length) (r:Vals vs us)
  (x:InCallC s s.heap.objs.size (bindL (envOfC qual scope s.heap.objs.size f cd).kindOf (ps.zip us) λ_=>none) (cellsFrom (s.heap.objs.size+1) scope.names []) (bindC (envOfC qual scope s.heap.objs.size f cd).kindOf (ps.zip us) λ_=>none) s1) :
  Inv (zif CX P w K mg base N qual scope f cd A outer s H E) [] (start N vs) H s1:=by
 have hpl:ps.length≤N.length:=by have:=congrArg List.length S.pre;rw [List.length_take] at this;omega
 obtain ⟨h1,tk,rfl,hk⟩:=x.done
 have noA:∀ b:Addr,b ∉ (zif CX P w K mg base N qual scope f cd A outer s H E).ex:=λb z=>absurd (show b∈([]:List Addr) from z) (by simp)
 refine ⟨⟨e0.mod,S.kind,rfl,rfl,Nat.le_refl _,λy z c h1 h2=>?_,λy hy=>?_,λy c _ h=>?_,λ_=>hd,Around.frames_deeper e0.frames,.inr ⟨rfl,rfl⟩,λb z=>absurd z (noA b),e0.bs,e0.bsz,λb _ _=>noA b,λb z=>absurd z (noA b),e0.funs,e0.frf⟩,
  rfl,e0.bare,Un.kept hk,⟨_,x.toInCall.ns,λi y v h1 h2 h3=>?_⟩,λy c h=>⟨_,x.cell y c h⟩,e0.hok.fresh (Nat.le_refl _),λy c h=>?_,λp hp=>absurd (show p∈([]:List (Addr×Obj)) from hp) (by simp),e0.hok.kept hk,?_⟩
 ·exact name_of_addr x.apart (PySem.mem_of_lookup h1) (PySem.mem_of_lookup h2)
 ·have hy:scope.names.lookup y=some .cell∨scope.names.lookup y=some .free:=hy
  rcases hy with hy | hy
  ·exact zjf hy
  ·exact absurd rfl (S.nofree _ (PySem.mem_of_lookup hy))
 ·exact Nat.le_of_lt (x.above y c (PySem.mem_of_lookup h))
 ·have hi:i<vs.length:=by
   unfold start at h2
   by_cases hi:i<vs.length
   ·exact hi
   ·rw [List.getElem?_append_right (by simpa using hi)] at h2
    rw [List.getElem?_replicate] at h2
    split at h2<;>cases h2
  have ha:vs[i]?=some v:=by
   unfold start at h2
   rw [List.getElem?_append_left (by simpa using hi),List.getElem?_map] at h2
   cases e:vs[i]? with
   | none=>rw [e] at h2;cases h2
   | some a=>rw [e] at h2;cases h2;rfl
  obtain ⟨u,hu,rv⟩:=r.get ha
  have hp:ps[i]?=some y:=by
   rw [← S.pre,List.getElem?_take_of_lt (by omega)];exact h1
  have ndP:ps.Nodup:=by rw [← S.pre];exact S.nd.sublist (List.take_sublist _ _)
  refine ⟨u,rv,?_⟩
  rcases S.par y (List.mem_of_getElem? hp) with k | k
  ·exact .inl ⟨k,bindL_get ndP hp hu k⟩
  ·obtain ⟨c,e⟩:=zjf (n:=s.heap.objs.size+1) k
   refine .inr ⟨.inl k,c,e,?_⟩
   have q:=x.cell y c e
   rw [zhU ndP hp hu (by show scope.names.lookup y≠_;rw [k];decide)] at q
   exact q
 ·exact e0.hok.fresh (Nat.le_of_lt (x.above y c (PySem.mem_of_lookup h)))
 ·unfold start
  show _=N.length
  rw [List.length_append,List.length_map,List.length_replicate]
  omega
theorem zqM {CX:CXT} {P:Program} {w:World} {K:W.Frag} {mg:Str->Option Value} {base:Heap} {k:Nat} {f:Addr} {name qual:Str} {params:Arguments} {body:List Stmt} {scope:Scope} {dV kV doc pm cdv ct oc:Value} {an od:Option Addr}
  {osl:Array (Option Value)} {N ps:List Str} {sp:Sp} (lk:K.lookup f=some ⟨oc,od,.func (W.fnOf name qual params body scope dV kV doc pm an cdv ct),osl⟩) (hcd:W.codeIn K cdv qual=true) (S:FnScope N ps scope)
  (len:∀ vs H Q E,sp vs H Q E->vs.length=ps.length)
  (hbody:∀ (A:Around) (outer:List Env) (s:Shared) (H:Hp) (vs:List V) (Q:VK) (E:XK),Room k (A.deeper (envOfC qual scope s.heap.objs.size f cdv))->sp vs H Q E →
   ∃ t,PSs (zif CX P w K mg base N qual scope f cdv A outer s H E) body t∧t { nx:=λ_ H'=>Q .non H',rt:=Q } (start N vs) H) :
  FnOk P w K mg base CX (k+1) f (W.fnOf name qual params body scope dV kV doc pm an cdv ct) ps sp:=by
 refine ⟨len,λA outer s H args us vs Q E hr e0 hb r hsp=>?_⟩
 have hl:=len _ _ _ _ hsp
 have KX:K.In s.heap:=e0.mod.kin.keeps λb o e=>(e0.bs b o e).1
 have lim:s.heap.NoLimit:=e0.mod.nolimit.keeps λb o e=>(e0.bs b o e).1
 have hkind:∀ y∈ps.zip us,scope.names.lookup y.1=some .local∨(scope.names.lookup y.1=some .cell∧((cellsFrom (s.heap.objs.size+1) scope.names []).lookup y.1).isSome=true):=λ⟨n,v⟩ hy=>by
  rcases S.par n (List.of_mem_zip hy).1 with q | q
  ·exact .inl q
  ·exact .inr ⟨q,W.cellsFrom_some _ _ _ (.inl q)⟩
 refine codeAny_call_function hr.depth (KX _ _ lk) rfl S.co S.gen rfl (W.codeRec_of KX hcd) (hb _ _ _ _ ?_)
 refine wpAny_newFunctionEnv_cells S.kind hkind λenv he s1 x=>?_
 subst he
 refine ⟨lim.keeps x.toInCall.keep,codeAny_func ?_⟩
 obtain ⟨t,ht,hq⟩:=hbody A outer s H vs Q E (hr.deeper _) hsp
 have I:Inv (zif CX P w K mg base N qual scope f cdv A outer s H E) [] (start N vs) H s1:=zlj S hr.hd e0 hl r x
 refine wpAny_mono (ht [] s1 (start N vs) H _ I hq) (λfl s' hs=>?_) λe s' hs=>hs
 have fin:∀ {σ':St} {H':Hp} {v:V} {u:Value},Inv (zif CX P w K mg base N qual scope f cdv A outer s H E) [] σ' H' s'->RelV v u->Q v H'->CE outer P w H s Q u s' :=
  λ{σ' H' v u} J rv q=>⟨v,H',J.os,J.bare,J.base,J.hok,rv,q⟩
 cases fl with
 | ret u =>
  obtain ⟨v,σ',H',J,rv,q⟩:=hs
  exact fin J rv q
 | next =>
  obtain ⟨σ',H',J,q⟩:=hs
  exact fin (v:=V.non) (u:=Value.none) J rfl q
 | brk =>
  obtain ⟨_,_,_,q⟩:=hs
  exact False.elim q
 | cont =>
  obtain ⟨_,_,_,q⟩:=hs
  exact False.elim q
end L2
namespace L2
open PySem PySem.Spec PyProof.Rows
section
variable {X:Cx} {x:Str} {p pos:Pos} {e:Expr} {es:List Expr} {t:TA} {id T:String} {r:List V->Hp->VK->Prop}
def tCB (r:List V->Hp->VK->Prop) (t:TA):TE:=λσ H Q=>t σ H λvs H1=>r vs H1 Q
theorem pe_callB (hc:ze3 X (.builtin id) r) (hg:Gl X x) (hm:X.mg x=none) (hv:bootBuiltins x=some (.builtin id)) (ha:PA X (e :: es) t) (hn:x≠"__name__":=by decide) (hdb:(x == ("__debug__":Str))=false:=by decide)
  (he:starEach (e :: es) X.env=(false,eval e X.env) :: starEach es X.env:=by rfl) (hpl:(backTo pos (starEach es X.env)).any (·.1)=false:=by rfl):PE X (.Call (.Name x p) (e :: es) [] pos) (tCB r t):=by
 intro pins s σ H Q I h
 refine wpAny_Call_Name_kw (ld_blt I hg hm hv ?_ hn hdb)
 exact PyProof.Rows.callWith_builtin1 (thn (ha pos pins s σ H _ I h) λus s1 ⟨vs,H1,I1,r1,q1⟩=>hc pins s1 σ H1 vs us Q I1 r1 q1) he hpl
theorem zcn (hc:ze3 X (.type T) r) (hg:Gl X x) (hm:X.mg x=none) (hv:bootBuiltins x=some (.type T)) (ha:PA X (e :: es) t) (hn:x≠"__name__":=by decide) (hdb:(x == ("__debug__":Str))=false:=by decide)
  (he:starEach (e :: es) X.env=(false,eval e X.env) :: starEach es X.env:=by rfl) (hpl:(backTo pos (starEach es X.env)).any (·.1)=false:=by rfl):PE X (.Call (.Name x p) (e :: es) [] pos) (tCB r t):=by
 intro pins s σ H Q I h
 refine wpAny_Call_Name_kw (ld_blt I hg hm hv ?_ hn hdb)
 exact PyProof.Rows.callWith_type1 (thn (ha pos pins s σ H _ I h) λus s1 ⟨vs,H1,I1,r1,q1⟩=>hc pins s1 σ H1 vs us Q I1 r1 q1) he hpl
end
end L2
namespace HT
open PySem PyProof.Rows
section
open PySem.SeqAt
open PySem.AutoSeq1 (wpAny_loadPart')
open PySem.MeetsSeq PySem.MeetsSeq2 PySem.MeetsSeq3
end
section
variable {prog:Program} {w:World} {A:Around} {E:Value->Shared->Prop} {s:Shared}
def sIx (n d:Nat):Option Int->Nat
 | none=>d
 | some v=>if v<0 then (v+(n:Int)).toNat else min v.toNat n
theorem sIx_none (n d:Nat):sIx n d none=d:=rfl
theorem sIx_nat (n d k:Nat):sIx n d (some (k:Int))=min k n:=by
 show (if (k:Int)<0 then ((k:Int)+(n:Int)).toNat else min (k:Int).toNat n)=min k n
 rw [if_neg (by omega),Int.toNat_natCast]
end
end HT
namespace L2
open PySem PySem.Spec PyProof.Rows
abbrev TO:=St->Hp->(Option Int->Hp->Prop)->Prop
def PO (X:Cx) (e:Option Expr) (t:TO):Prop :=
 ∀ (pins:List (Addr×Obj)) (s:Shared) (σ:St) (H:Hp) (Q:Option Int->Hp->Prop),Inv X pins σ H s->t σ H Q →
  wpAny (model X.prog X.w) X.A (evalPart e X.env) (λu s'=>∃ o H',Inv X pins σ H' s'∧IsPart u o∧Q o H') X.xe s
def zkG:TO:=λ_ H Q=>Q none H
def zo4 (t:TE):TO:=λσ H Q=>t σ H λx H1=>∃ i,x=.int i∧Q (some i) H1
section
variable {X:Cx} {e:Expr} {te:TE} {lo hi:Option Expr} {tl th:TO} {pos p2:Pos}
theorem zdB:PO X none zkG:=by
 intro pins s σ H Q I h
 rw [evalPart_none]
 exact wpAny_pure ⟨none,H,I,.none,h⟩
theorem zcV (h:PE X e te):PO X (some e) (zo4 te):=by
 intro pins s σ H Q I hw
 rw [evalPart_some]
 refine thn (h pins s σ H _ I hw) λu s1 ⟨x,H1,I1,r1,q1⟩=>?_
 obtain ⟨i,rfl,q⟩:=q1
 obtain ⟨t,rfl⟩:=r1
 exact ⟨some i,H1,I1,.int i t,q⟩
def SlR (X:Cx) (r:V->Option Int->Option Int->Hp->VK->Prop):Prop :=
 ∀ (pins:List (Addr×Obj)) (s:Shared) (σ:St) (H:Hp) (x:V) (v vl vu:Value) (lo hi:Option Int) (sl:Addr) (Q:VK),Inv X pins σ H s->RelV x v->s.heap.IsSliceOf sl vl vu .none->IsPart vl lo->IsPart vu hi->r x lo hi H Q →
  ∃ T id,typeLookup (.type T) "__getitem__"=pure (some (.builtin id))∧s.TypeIs v T∧wpAny (model X.prog X.w) X.A (getItem v (.ref sl)) (EP X pins σ Q) X.xe s
def tSl (r:V->Option Int->Option Int->Hp->VK->Prop) (te:TE) (tl th:TO):TE:=λσ H Q=>te σ H λx H1=>tl σ H1 λl H2=>th σ H2 λu H3=>r x l u H3 Q
theorem zcj {r:V->Option Int->Option Int->Hp->VK->Prop} (hr:SlR X r) (he:PE X e te) (hl:PO X lo tl) (hu:PO X hi th):PE X (.Subscript e (.Slice lo hi none p2) pos) (tSl r te tl th):=by
 intro pins s σ H Q I h
 refine Subscript_ (thn (he pins s σ H _ I h) λv s1 ⟨x,H1,I1,r1,q1⟩=>?_)
 refine wpAny_Slice (thn (hl pins s1 σ H1 _ I1 q1) λvl s2 ⟨l,H2,I2,pl,q2⟩=>thn (hu pins s2 σ H2 _ I2 q2) λvu s3 ⟨u,H3,I3,pu,q3⟩=>?_)
 rw [evalPart_none]
 refine wpAny_pure ?_
 have I4:Inv X pins σ H3 { s3 with heap:=s3.heap.push { cls:=.type "slice",data:=.fields #[vl,vu,.none] } }:=I3.kept (t':=s3.toks) λb ob q=>Heap.get?_push_of_some _ q
 obtain ⟨T,id,hT,ht,hg⟩:=hr pins { s3 with heap:=s3.heap.push { cls:=.type "slice",data:=.fields #[vl,vu,.none] } } σ H3 x v vl vu l u s3.heap.objs.size Q I4 r1 (Heap.IsSliceOf.new ..) pl pu q3
 show wpAny (model X.prog X.w) X.A (subscriptTail e (.Slice lo hi none p2) v (.ref s3.heap.objs.size)) (EP X pins σ Q) X.xe { s3 with heap:=s3.heap.push { cls:=.type "slice",data:=.fields #[vl,vu,.none] } }
 exact tail_any (ops:=[.ref s3.heap.objs.size,v]) ht hT hg (by with_unfolding_all rfl)
def zpg (xs:List V) (lo hi:Option Int):List V:=(xs.drop (HT.sIx xs.length 0 lo)).take (HT.sIx xs.length xs.length hi-HT.sIx xs.length 0 lo)
theorem zik (xs:List V) (lo hi:Option Int):(zpg xs lo hi).length≤xs.length:=by
 unfold zpg
 rw [List.length_take,List.length_drop]
 omega
end
end L2
namespace L2
open PySem PySem.Spec PyProof.Rows
def ixN (n:Nat) (i:Int):Option Nat:=if 0≤i then (if i<n then some i.toNat else none) else if -(n:Int)≤i then some (i+n).toNat else none
def atI {α:Type} (xs:List α) (i:Int):Option α:=(ixN xs.length i).bind λj=>xs[j]?
theorem zlk {n:Nat} {i:Int} {j:Nat} (h:ixN n i=some j):seqIndex? i n=some j∧j<n∧-(n:Int)≤i∧i<n:=by
 unfold ixN at h
 by_cases h0:0≤i
 ·rw [if_pos h0] at h
  by_cases h1:i<n
  ·rw [if_pos h1] at h
   have e:i.toNat=j:=Option.some.inj h
   exact ⟨by rw [seqIndex_of h0 h1,e],by omega,by omega,h1⟩
  ·rw [if_neg h1] at h;cases h
 ·rw [if_neg h0] at h
  by_cases h1:-(n:Int)≤i
  ·rw [if_pos h1] at h
   have e:(i+n).toNat=j:=Option.some.inj h
   exact ⟨by rw [seqIndex_neg (by omega) h1,e],by omega,h1,by omega⟩
  ·rw [if_neg h1] at h;cases h
theorem atI_get {α:Type} {xs:List α} {i:Int} {v:α} (h:atI xs i=some v):∃ j,seqIndex? i xs.length=some j∧xs[j]?=some v∧j<xs.length∧-(xs.length:Int)≤i∧i<xs.length:=by
 unfold atI at h
 cases e:ixN xs.length i with
 | none=>rw [e] at h;cases h
 | some j =>
  rw [e] at h
  obtain ⟨h1,h2,h3,h4⟩:=zlk e
  exact ⟨j,h1,h,h2,h3,h4⟩
def znG (b:Expr):Prop:=∀ o i,subscripted b false o i=operate [o,i] (getItem o i)
def IxR (X:Cx) (r:R2):Prop :=
 ∀ (value slice:Expr) (pins:List (Addr×Obj)) (s:Shared) (σ:St) (H:Hp) (x y:V) (v u:Value) (Q:VK),Inv X pins σ H s->RelV x v->RelV y u->r x y H Q →
  subscripted slice false v u=operate [v,u] (getItem v u)->wpAny (model X.prog X.w) X.A (subscriptTail value slice v u) (EP X pins σ Q) X.xe s
def MtR (X:Cx) (id:String) (r:V->List V->Hp->VK->Prop):Prop :=
 ∀ (pins:List (Addr×Obj)) (s:Shared) (σ:St) (H:Hp) (x:V) (xs:List V) (v:Value) (us:List Value) (Q:VK),Inv X pins σ H s->RelV x v->Vals xs us->r x xs H Q →
  wpAny (model X.prog X.w) X.A (call (.builtin id) (v :: us)) (EP X pins σ Q) X.xe s
section
variable {X:Cx} {a b:Expr} {ta tb:TE} {pos:Pos}
theorem zbS {r:R2} (hr:IxR X r) (ha:PE X a ta) (hb:PE X b tb) (hs:znG b):PE X (.Subscript a b pos) (tOp r ta tb):=by
 intro pins s σ H Q I h
 exact Subscript_ (binT ha hb I h λv u s2 x y H2 I2 rx ry q=>hr a b pins s2 σ H2 x y v u Q I2 rx ry q (hs _ _))
def zoK (K:W.Frag):R2:=λx y H Q=>∃ p xs i v,x=.ref p∧y=.int i∧SqL K H p xs∧atI xs i=some v∧Q v H
def zq1 (K:W.Frag):R2:=λx y H Q=>∃ p xs i v,x=.ref p∧y=.int i∧SqT K H p xs∧atI xs i=some v∧Q v H
theorem znr:IxR X (zoK X.K):=by
 intro value slice pins s σ H x y v u Q I rx ry h hs
 obtain ⟨p,xs,i,z,rfl,rfl,hq,he,q⟩:=h
 cases rx
 obtain ⟨t,rfl⟩:=ry
 obtain ⟨its,r,pl,hz⟩:=I.list hq
 obtain ⟨j,h1,h2,h3,h4,h5⟩:=atI_get he
 obtain ⟨w,ew,rw'⟩:=r.get h2
 have hl:=r.length
 have hn:=zi3
 have fin:EP X pins σ Q w s:=⟨z,H,I,rw',q⟩
 by_cases h0:0≤i
 ·have hj:i.toNat=j:=by
   rw [seqIndex_of h0 h5] at h1
   exact Option.some.inj h1
  exact item_listR pl.isList h0 (by omega) (by rw [hj];simpa using ew) fin hs
 ·have hj:(i+(its.toArray.size:Int)).toNat=j:=by
   rw [seqIndex_neg (by omega) h4] at h1
   rw [List.size_toArray,← hl]
   exact Option.some.inj h1
  exact subscriptTail_builtinR (x:=w) pl.isList.typeIs slot_list_getitem.lookup
   (wpAny_getItem_list_neg (Q:=λr s'=>r=w∧EP X pins σ Q r s') pl.isList (by omega) (by rw [List.size_toArray]<;>omega) (by omega) (by rw [hj];simpa using ew) ⟨rfl,fin⟩) hs
theorem zpn:IxR X (zq1 X.K):=by
 intro value slice pins s σ H x y v u Q I rx ry h hs
 obtain ⟨p,xs,i,z,rfl,rfl,hq,he,q⟩:=h
 cases rx
 obtain ⟨t,rfl⟩:=ry
 obtain ⟨its,r,pl,hz⟩:=I.tuple hq
 obtain ⟨j,h1,h2,h3,h4,h5⟩:=atI_get he
 obtain ⟨w,ew,rw'⟩:=r.get h2
 have hl:=r.length
 have hn:=zi3
 have fin:EP X pins σ Q w s:=⟨z,H,I,rw',q⟩
 exact subscriptTail_builtinR (x:=w) pl.typeIs slot_tuple_getitem.lookup
  (getItem_tuple (j:=j) (Q:=λr s'=>r=w∧EP X pins σ Q r s') pl (by omega) (by omega) (by rw [List.size_toArray,← hl];exact h1) (by simpa using ew) ⟨rfl,fin⟩) hs
theorem zjI (its:List Value) (n j:Nat) (u:Value):Obj.mapSeq (·.setIfInBounds j u) { cls:=.type "list",data:=.seq its.toArray n }={ cls:=.type "list",data:=.seq (its.set j u).toArray n }:=by
 simp [Obj.mapSeq]
theorem Inv.lst {pins:List (Addr×Obj)} {σ:St} {H:Hp} {s:Shared} {p:Addr} {xs:List V} (I:Inv X pins σ H s) (h:H p=some (.lst xs)) :
  ∃ (its:List Value) (n:Nat),Vals xs its∧s.heap.get? p=some { cls:=.type "list",data:=.seq its.toArray n }∧xs.length≤sizeLine:=by
 obtain ⟨z,its,n,r,e⟩:=I.hok p _ h
 exact ⟨its,n,r,e,z⟩
theorem Inv.lstUpd {pins:List (Addr×Obj)} {σ:St} {H:Hp} {s:Shared} {p:Addr} {xs ys:List V} {its its':List Value} {n n':Nat} {f:Obj->Obj} (I:Inv X pins σ H s) (h:H p=some (.lst xs))
  (ho:s.heap.get? p=some { cls:=.type "list",data:=.seq its.toArray n }) (hf:f { cls:=.type "list",data:=.seq its.toArray n }={ cls:=.type "list",data:=.seq its'.toArray n' }) (r:Vals ys its') (hz:ys.length≤sizeLine) (t:Nat) :
  Inv X pins σ (upd H p (.lst ys)) { s with heap:=s.heap.update p f,toks:=t }:=by
 have e:(s.heap.update p f).get? p=some { cls:=.type "list",data:=.seq its'.toArray n' }:=by
  rw [Heap.get?_update_self f ho (by rw [hf]<;>rfl),hf]
 refine I.write (x:=p) (e:=p) (by rw [h];trivial) (.inl rfl) (λb u hb q=>(Heap.get?_update_other _ _ (Ne.symm hb)).trans q) ⟨_,e⟩ ?_
 exact ⟨hz,its',n',r,e⟩
def zlS:V->V->V->Hp->(Hp->Prop)->Prop:=λo i v H Q=>∃ p xs k j,o=.ref p∧i=.int k∧H p=some (.lst xs)∧ixN xs.length k=some j∧Q (upd H p (.lst (xs.set j v)))
theorem set_list:zrj X zlS:=by
 intro pins s σ H o i v ov iv u Q I ro ri rv h
 obtain ⟨p,xs,k,j,rfl,rfl,hp,hj,q⟩:=h
 cases ro
 obtain ⟨t,rfl⟩:=ri
 obtain ⟨its,n,r,ho,hz⟩:=I.lst hp
 obtain ⟨h1,h2,h3,h4⟩:=zlk hj
 have hl:=r.length
 have hn:=zi3
 have I':Inv X pins σ (upd H p (.lst (xs.set j v))) { s with heap:=s.heap.update p (Obj.mapSeq (·.setIfInBounds j u)) } :=
  I.lstUpd hp ho (zjI its n j u) (r.set rv j) (by rw [List.length_set];exact hz) s.toks
 by_cases h0:0≤k
 ·have hk:k.toNat=j:=by
   rw [seqIndex_of h0 h4] at h1
   exact Option.some.inj h1
  exact W.ki_setAt ho h0 (by omega) (by rw [List.size_toArray,← hl];exact h4) (by rw [hk];exact ⟨_,I',q⟩)
 ·have hk:(k+(its.toArray.size:Int)).toNat=j:=by
   rw [seqIndex_neg (by omega) h3] at h1
   rw [List.size_toArray,← hl]
   exact Option.some.inj h1
  exact W.ki_setBack ho (by omega) (by rw [List.size_toArray,← hl];exact h3) (by omega) (by rw [hk];exact ⟨_,I',q⟩)
theorem zhL (lo hi:Option Int) (n:Nat):(sliceBounds lo hi none n).1=((HT.sIx n 0 lo:Nat):Int)∧(sliceBounds lo hi none n).2.1=((HT.sIx n n hi:Nat):Int)∧(sliceBounds lo hi none n).2.2=1:=by
 refine ⟨?_,?_,rfl⟩
 ·cases lo with
  | none=>simp [sliceBounds,HT.sIx]
  | some i =>
   simp only [sliceBounds,HT.sIx,Option.getD_none,show (1:Int) > 0 by decide,if_true]
   by_cases h:i<0
   ·simp only [h,if_true]<;>omega
   ·simp only [h,if_false]<;>omega
 ·cases hi with
  | none=>simp [sliceBounds,HT.sIx]
  | some i =>
   simp only [sliceBounds,HT.sIx,Option.getD_none,show (1:Int) > 0 by decide,if_true]
   by_cases h:i<0
   ·simp only [h,if_true]<;>omega
   ·simp only [h,if_false]<;>omega
theorem zhy (its:List Value) (lo hi:Option Int):slicePick its.toArray lo hi none=((its.drop (HT.sIx its.length 0 lo)).take (HT.sIx its.length its.length hi-HT.sIx its.length 0 lo)).toArray:=by
 obtain ⟨h1,h2,h3⟩:=zhL lo hi its.toArray.size
 unfold slicePick
 rw [h1,h2,h3]
 simp only [sliceRange_one,pick_run,List.size_toArray]<;>rfl
def zqk (K:W.Frag):V->Option Int->Option Int->Hp->VK->Prop:=λx lo hi H Q=>∃ a xs,x=.ref a∧SqL K H a xs∧∀ p,H p=none->Q (.ref p) (upd H p (.lst (zpg xs lo hi)))
theorem zoD:SlR X (zqk X.K):=by
 intro pins s σ H x v vl vu lo hi sl Q I rx hs pl pu h
 obtain ⟨a,xs,rfl,hx,q⟩:=h
 cases rx
 obtain ⟨its,r,ht,hz⟩:=I.list hx
 have hlen:=r.length
 refine ⟨"list",_,slot_list_getitem.lookup,ht.isList.typeIs,?_⟩
 refine wpAny_getItem_list_slice ht.isList hs pl pu .none (by simp) ?_ (by rw [List.size_toArray]<;>omega)
 rw [zhy,← hlen]
 refine ⟨.ref s.heap.objs.size,_,I.laid (t':=s.toks) (o:=.lst (zpg xs lo hi)) (λb ob q=>Heap.get?_push_of_some _ q) (Nat.le_refl _) ?_,rfl,q _ (I.hok.fresh (Nat.le_refl _))⟩
 exact ⟨Nat.le_trans (zik xs lo hi) hz,_,0,(r.drop (HT.sIx xs.length 0 lo)).take (HT.sIx xs.length xs.length hi-HT.sIx xs.length 0 lo),Heap.get?_push_size _ rfl⟩
def zlK:V->Bool
 | .non=>true
 | .bl _=>true
 | .int _=>true
 | .str _=>true
 | _=>false
def eqV:V->V->Bool
 | .non,.non=>true
 | .bl a,.bl b=>a == b
 | .bl a,.int b=>(if a then 1 else 0) == b
 | .int a,.bl b=>a == (if b then 1 else 0)
 | .int a,.int b=>a == b
 | .str a,.str b=>a == b
 | _,_=>false
theorem eqAt_V {A:Around} {s:Shared} {y x:V} {u v:Value} (ry:RelV y u) (rx:RelV x v) (fy:zlK y=true) (fx:zlK x=true):SeqAt.EqAt A s u v (eqV y x):=by
 cases y with
 | non =>
  cases ry
  cases x with
  | non=>cases rx;exact SeqAt.EqAt.same _
  | bl b=>cases rx;exact SeqAt.EqAt.none_bool b
  | int b=>obtain ⟨t,rfl⟩:=rx;exact SeqAt.EqAt.none_int b t
  | str b=>obtain ⟨t,rfl⟩:=rx;exact SeqAt.EqAt.none_str b t
  | _=>exact absurd (show false=true from fx) Bool.false_ne_true
 | bl a =>
  cases ry
  cases x with
  | non=>cases rx;exact SeqAt.EqAt.bool_none a
  | bl b=>cases rx;exact SeqAt.EqAt.bool_bool a b
  | int b=>obtain ⟨t,rfl⟩:=rx;exact SeqAt.EqAt.bool_int a b t
  | str b=>obtain ⟨t,rfl⟩:=rx;exact SeqAt.EqAt.bool_str a b t
  | _=>exact absurd (show false=true from fx) Bool.false_ne_true
 | int a =>
  obtain ⟨t',rfl⟩:=ry
  cases x with
  | non=>cases rx;exact SeqAt.EqAt.int_none a t'
  | bl b=>cases rx;exact SeqAt.EqAt.int_bool a t' b
  | int b=>obtain ⟨t,rfl⟩:=rx;exact SeqAt.EqAt.int_int a t' b t
  | str b=>obtain ⟨t,rfl⟩:=rx;exact SeqAt.EqAt.int_str a t' b t
  | _=>exact absurd (show false=true from fx) Bool.false_ne_true
 | str a =>
  obtain ⟨t',rfl⟩:=ry
  cases x with
  | non=>cases rx;exact SeqAt.EqAt.str_none a t'
  | bl b=>cases rx;exact SeqAt.EqAt.str_bool a t' b
  | int b=>obtain ⟨t,rfl⟩:=rx;exact SeqAt.EqAt.str_int a t' b t
  | str b=>obtain ⟨t,rfl⟩:=rx;exact SeqAt.EqAt.str_str a t' b t
  | _=>exact absurd (show false=true from fx) Bool.false_ne_true
 | _=>exact absurd (show false=true from fy) Bool.false_ne_true
theorem zh2:ze3 X (.builtin "len") (λxs H Q=>∃ p ys,xs=[.ref p]∧(SqL X.K H p ys∨SqT X.K H p ys)∧Q (.int ys.length) H):=by
 intro pins s σ H xs us Q I r h
 obtain ⟨p,ys,rfl,hq,q⟩:=h
 obtain ⟨u,rfl,rx⟩:=zlr r
 cases rx
 have hn:=zi3
 rcases hq with hq | hq
 ·obtain ⟨its,r',pl,hz⟩:=I.list hq
  have hlen:=r'.length
  exact Calls.call_len_list pl.isList (by simp only [List.size_toArray]<;>omega) ⟨.int ys.length,H,I.tok _,⟨s.toks+1,by rw [List.size_toArray,hlen]⟩,q⟩
 ·obtain ⟨its,r',pl,hz⟩:=I.tuple hq
  have hlen:=r'.length
  exact len_tuple pl (by simp only [List.size_toArray]<;>omega) ⟨.int ys.length,H,I.tok _,⟨s.toks+1,by rw [List.size_toArray,hlen]⟩,q⟩
theorem zhM:ze3 X (.type "list") (λxs H Q=>∃ p ys,xs=[.ref p]∧(SqL X.K H p ys∨SqT X.K H p ys)∧∀ l,H l=none->Q (.ref l) (upd H l (.lst ys))):=by
 intro pins s σ H xs us Q I r h
 obtain ⟨p,ys,rfl,hq,q⟩:=h
 obtain ⟨u,rfl,rx⟩:=zlr r
 cases rx
 have fin:∀ (its:List Value),Vals ys its->ys.length≤sizeLine->∀ (h':Heap) (c':Nat),(∀ b o',s.heap.get? b=some o'->h'.get? b=some o') →
   h'.get? s.heap.objs.size=some { cls:=.type "list",dict:=none,data:=.seq its.toArray c',slots:=#[] }->EP X pins σ Q (.ref s.heap.objs.size) { s with heap:=h' }:=λits r' hz h' c' kp e =>
  ⟨.ref s.heap.objs.size,_,I.laid (t':=s.toks) kp (Nat.le_refl _) (show zcX X.prog X.w _ h' _ (.lst ys) from ⟨hz,its,c',r',e⟩),rfl,q _ (I.hok.fresh (Nat.le_refl _))⟩
 rcases hq with hq | hq
 ·obtain ⟨its,r',pl,hz⟩:=I.list hq
  have hlen:=r'.length
  obtain ⟨o,ho,hc,n,hd⟩:=pl.isList
  exact call_list_seq p (.inl rfl) ho hc hd (λh' c' kp e=>fin its r' hz h' c' kp e) (by simp only [List.size_toArray]<;>omega)
 ·obtain ⟨its,r',pl,hz⟩:=I.tuple hq
  have hlen:=r'.length
  obtain ⟨o,ho,hc,n,hd⟩:=pl
  exact call_list_seq p (.inr rfl) ho hc hd (λh' c' kp e=>fin its r' hz h' c' kp e) (by simp only [List.size_toArray]<;>omega)
def tyV (K:W.Frag) (T:String) (x:V) (H:Hp):Prop:=match x with
 | .str _=>T="str"
 | .int _=>T="int"
 | .ref p=>(T="list"∧∃ xs,SqL K H p xs)∨(T="tuple"∧∃ o,K.lookup p=some o∧o.cls=.type "tuple"∧o.dict=none) ∨
   (T="dict"∧((∃ kvs,H p=some (.dK kvs))∨∃ kvs,H p=some (.dT kvs)))∨(T="set"∧∃ S n,H p=some (.set S n))
 | _=>False
theorem zo9 {pins:List (Addr×Obj)} {σ:St} {H:Hp} {s:Shared} {T:String} {x:V} {v:Value} (I:Inv X pins σ H s) (r:RelV x v) (ty:tyV X.K T x H) :
  s.TypeIs v T∧∀ a,v=.ref a->∃ ob,s.heap.get? a=some ob∧ob.dict=none:=by
 cases x with
 | str z =>
  obtain ⟨t,rfl⟩:=r
  cases (show T="str" from ty)
  exact ⟨typeIs_str s z t,λ_ e=>nomatch e⟩
 | int i =>
  obtain ⟨t,rfl⟩:=r
  cases (show T="int" from ty)
  exact ⟨typeIs_int s i t,λ_ e=>nomatch e⟩
 | ref p =>
  cases r
  rcases ty with ⟨rfl,xs,hq⟩ | ⟨rfl,o,hk,hc,hd⟩ | ⟨rfl,hk⟩ | ⟨rfl,S,n,hk⟩
  ·obtain ⟨its,_,pl,_⟩:=I.list hq
   refine ⟨pl.isList.typeIs,λa e=>?_⟩
   cases e
   obtain ⟨o,n,e,c,hd,_⟩:=pl
   exact ⟨o,e,hd⟩
  ·refine ⟨⟨o,I.kIn p o hk,hc⟩,λa e=>?_⟩
   cases e
   exact ⟨o,I.kIn _ o hk,hd⟩
  ·have z:∃ o,s.heap.get? p=some o∧o.ExactDict:=by
    rcases hk with ⟨kvs,hk⟩ | ⟨kvs,hk⟩
    ·obtain ⟨_,_,_,_,o,_,_,e,ex,_⟩:=I.hok p _ hk
     exact ⟨o,e,ex⟩
    ·obtain ⟨_,_,_,_,o,_,_,e,ex,_⟩:=I.hok p _ hk
     exact ⟨o,e,ex⟩
   obtain ⟨o,e,ex⟩:=z
   refine ⟨⟨o,e,ex.1⟩,λa e2=>?_⟩
   cases e2
   exact ⟨o,e,ex.2.1⟩
  ·obtain ⟨o,_,_,_,e,ex,_⟩:=I.hok p _ hk
   refine ⟨⟨o,e,ex.1⟩,λa e2=>?_⟩
   cases e2
   exact ⟨o,e,ex.2.1⟩
 | _=>exact False.elim ty
def tBM (K:W.Frag) (T:String) (r:V->List V->Hp->VK->Prop) (to:TE) (t:TA):TE:=λσ H Q=>to σ H λx H1=>tyV K T x H1∧t σ H1 λxs H2=>r x xs H2 Q
variable {o e:Expr} {es:List Expr} {to:TE} {t:TA} {name:Str} {apos cpos:Pos} {T id:String} {r:V->List V->Hp->VK->Prop}
theorem zp6 (pa:PlainAttrs T) (slot:Slot T name id) (hty:typeOf (.builtin id)=pure (.type "method_descriptor")) (hm:MtR X id r) (ho:PE X o to) (ha:PA X (e :: es) t)
  (hbase:attributeBase o name X.env (eval o X.env)=eval o X.env:=by rfl)
  (hfew:((backTo cpos (starEach (e :: es) X.env)).all (λx=>!x.1)&&(backToKw cpos (keywordEach [] X.env)).all (λx=>x.1.isSome)
   &&decide ((e :: es).length+([]:List Keyword).length+(if ([]:List Keyword).isEmpty then 0 else 1)<30))=true:=by rfl)
  (hline:(apos.endLine == cpos.line)=true:=by rfl) (hs:starEach (e :: es) X.env=(false,eval e X.env) :: starEach es X.env:=by rfl) (hplain:(backTo cpos (starEach es X.env)).any (·.1)=false:=by rfl) :
  PE X (.Call (.Attribute o name apos) (e :: es) [] cpos) (tBM X.K T r to t):=by
 intro pins s σ H Q I h
 refine wpAny_Call_method_late hbase hfew hline rfl (thn (ho pins s σ H _ I h) λv s1 ⟨x,H1,I1,r1,ty,q1⟩=>?_)
 obtain ⟨h1,h2⟩:=zo9 I1 r1 ty
 refine ⟨T,id,pa,slot,hty,h1,h2,?_⟩
 have hA:=ha cpos pins s1 σ H1 _ I1 q1
 rw [hs] at hA ⊢
 refine Calls.callWith_builtin (by show (false||(backTo cpos (starEach es X.env)).any (·.1))=false;rw [hplain]<;>rfl) (Calls.evalArgs_plain ?_)
 exact thn hA λus s2 ⟨vs,H2,I2,r2,q2⟩=>hm pins s2 σ H2 x vs v us Q I2 r1 r2 q2
end
end L2
namespace L2
open PySem PySem.Spec PyProof.Rows
def MtM (X:Cx) (id:String) (r:V->List V->Hp->VK->Prop):Prop :=
 ∀ (pins:List (Addr×Obj)) (s:Shared) (σ:St) (H:Hp) (x:V) (xs:List V) (v:Value) (us:List Value) (Q:VK),Inv X pins σ H s->RelV x v->Vals xs us->r x xs H Q →
  wpAny (model X.prog X.w) X.A (call (.builtin id) (v :: us)) (EP X pins σ Q) X.xe s
theorem Vals.one:∀ {x:V} {us:List Value},Vals [x] us->∃ u,us=[u]∧RelV x u
 | _,_,.cons r .nil=>⟨_,rfl,r⟩
theorem Vals.two:∀ {x y:V} {us:List Value},Vals [x,y] us->∃ u v,us=[u,v]∧RelV x u∧RelV y v
 | _,_,_,.cons r (.cons q .nil)=>⟨_,_,rfl,r,q⟩
theorem Vals.zero:∀ {us:List Value},Vals [] us->us=[]
 | _,.nil=>rfl
theorem Vals.dropLast {xs:List V} {us:List Value} (h:Vals xs us):Vals xs.dropLast us.dropLast:=by
 induction h with
 | nil=>exact .nil
 | cons r t ih =>
  cases t with
  | nil=>exact .nil
  | cons q t'=>exact .cons r ih
theorem Vals.reverse {xs:List V} {us:List Value} (h:Vals xs us):Vals xs.reverse us.reverse:=by
 induction h with
 | nil=>exact .nil
 | cons r t ih=>rw [List.reverse_cons,List.reverse_cons];exact Vals.append ih (.cons r .nil)
theorem Vals.rep {xs:List V} {us:List Value} (h:Vals xs us):∀ k:Nat,Vals (List.replicate k xs).flatten (List.replicate k us).flatten
 | 0=>.nil
 | k+1=>by
  rw [List.replicate_succ,List.replicate_succ,List.flatten_cons,List.flatten_cons]
  exact Vals.append h (Vals.rep h k)
theorem zhV (its:List Value):∀ (k:Nat) (acc:List Value),
  List.foldl (λx1 x2=>x1++x2) acc.toArray (List.replicate k its.toArray)=(acc++(List.replicate k its).flatten).toArray
 | 0,acc=>by simp
 | k+1,acc=>by
  have e:acc.toArray++its.toArray=(acc++its).toArray:=by simp
  have e2:(acc++its)++(List.replicate k its).flatten=acc++(List.replicate (k+1) its).flatten:=by
   rw [List.replicate_succ,List.flatten_cons,List.append_assoc]
  rw [← e2,← zhV its k (acc++its),← e,List.replicate_succ,List.foldl_cons]
section
variable {X:Cx} {pins:List (Addr×Obj)} {σ:St} {H:Hp} {s:Shared} {l b:Addr} {xs ys zs:List V}
theorem Inv.lset {its its':List Value} {n:Nat} {f:Array Value->Array Value} {t':Nat} (I:Inv X pins σ H s) (hH:H l=some (.lst xs))
  (e:s.heap.get? l=some { cls:=.type "list",data:=.seq its.toArray n }) (hf:f its.toArray=its'.toArray) (hv:Vals ys its') (hz:ys.length≤sizeLine) :
  Inv X pins σ (upd H l (.lst ys)) { s with heap:=s.heap.update l (Obj.mapSeq f),toks:=t' }:=by
 have q:=PySem.IsL.update e f
 rw [hf] at q
 refine I.write (x:=l) (e:=l) (by rw [hH];exact trivial) (.inl rfl) (λb' u hb hu=>(Heap.get?_update_other s.heap (Obj.mapSeq f) (Ne.symm hb)).trans hu) ⟨_,q⟩ ?_
 exact ⟨hz,its',_,hv,q⟩
theorem Inv.lnew {its:List Value} {t':Nat} (I:Inv X pins σ H s) (hv:Vals ys its) (hz:ys.length≤sizeLine) :
  Inv X pins σ (upd H s.heap.objs.size (.lst ys)) { s with heap:=s.heap.push { cls:=.type "list",data:=.seq its.toArray },toks:=t' } :=
 I.laid (λ_ _ q=>Heap.get?_push_of_some _ q) (Nat.le_refl _) ⟨hz,its,0,hv,Heap.get?_push_size _ rfl⟩
theorem Inv.fresh (I:Inv X pins σ H s):H s.heap.objs.size=none:=I.hok.fresh (Nat.le_refl _)
theorem Inv.lstM (I:Inv X pins σ H s) (hH:H l=some (.lst xs)):xs.length≤sizeLine∧∃ (its:List Value) (n:Nat),Vals xs its∧xs.length=its.length∧s.heap.get? l=some { cls:=.type "list",data:=.seq its.toArray n }:=by
 obtain ⟨z,its,n,r,e⟩:=I.hok l _ hH
 exact ⟨z,its,n,r,r.length,e⟩
theorem ziW {n:Nat} (h:n≤sizeLine):Builtin.List.listTooLong n=false:=by
 unfold Builtin.List.listTooLong
 exact decide_eq_false (by omega)
end
section
variable {X:Cx}
def rAppend:V->List V->Hp->VK->Prop:=λx vs H Q=>∃ l xs y,x=.ref l∧vs=[y]∧H l=some (.lst xs)∧xs.length<sizeLine∧Q .non (upd H l (.lst (xs++[y])))
theorem mt_append:MtM X "list.append" rAppend:=by
 intro pins s σ H x vs v us Q I rx rv h
 obtain ⟨l,xs,y,rfl,rfl,hH,hz,q⟩:=h
 cases rx
 obtain ⟨u,rfl,ru⟩:=rv.one
 obtain ⟨z,its,n,r,hl,e⟩:=I.lstM hH
 refine call_meets F.slot_list_append ⟨_,e,rfl⟩ F.entry_list_append (F.args_list_append_2 _ _) (PySem.list_append l its.toArray n u (by rw [List.size_toArray];omega)) ⟨e,?_⟩
 refine ⟨.non,_,I.lset (its':=its++[u]) hH e (by simp) (r.append (.cons ru .nil)) ?_,rfl,q⟩
 rw [List.length_append,List.length_singleton]
 omega
def rExtend:V->List V->Hp->VK->Prop:=λx vs H Q=>∃ l b xs zs,x=.ref l∧vs=[.ref b]∧H l=some (.lst xs)∧H b=some (.lst zs)∧xs.length+zs.length≤sizeLine∧Q .non (upd H l (.lst (xs++zs)))
theorem zpx:MtM X "list.extend" rExtend:=by
 intro pins s σ H x vs v us Q I rx rv h
 obtain ⟨l,b,xs,zs,rfl,rfl,hH,hB,hz,q⟩:=h
 cases rx
 obtain ⟨u,rfl,ru⟩:=rv.one
 cases ru
 obtain ⟨z,its,n,r,hl,e⟩:=I.lstM hH
 obtain ⟨z2,its2,n2,r2,hl2,e2⟩:=I.lstM hB
 have hsz:its.toArray.size+its2.toArray.size≤sizeLine:=by rw [List.size_toArray,List.size_toArray];omega
 have hlong:¬ (!its.toArray.isEmpty&&Builtin.List.listTooLong (its.toArray.size+its2.toArray.size))=true:=by
  rw [ziW hsz,Bool.and_false]
  exact Bool.false_ne_true
 refine call_meets F.slot_list_extend ⟨_,e,rfl⟩ F.entry_list_extend (F.args_list_extend_2 _ _)
  (AutoSeq1.list_extend_list_list_0 l its.toArray n b its2.toArray n2 hlong (by rw [List.size_toArray];omega) (by omega)) ⟨e,e2,?_⟩
 refine ⟨.non,_,I.lset (its':=its++its2) hH e (by simp) (r.append r2) ?_,rfl,q⟩
 rw [List.length_append]
 omega
def zra:R2:=λx y H Q=>∃ l b xs zs,x=.ref l∧y=.ref b∧H l=some (.lst xs)∧H b=some (.lst zs)∧xs.length+zs.length≤sizeLine∧∀ p,H p=none->Q (.ref p) (upd H p (.lst (xs++zs)))
theorem zcm:OpR X (binaryOp .Add) zra:=by
 intro pins s σ H x y v u Q I rx ry h
 obtain ⟨l,b,xs,zs,rfl,rfl,hH,hB,hz,q⟩:=h
 cases rx
 cases ry
 obtain ⟨z,its,n,r,hl,e⟩:=I.lstM hH
 obtain ⟨z2,its2,n2,r2,hl2,e2⟩:=I.lstM hB
 refine PySem.P.add_list e e2 ?_ (by rw [List.size_toArray,List.size_toArray];omega)
 have ea:its.toArray++its2.toArray=(its++its2).toArray:=by simp
 rw [ea]
 exact ⟨.ref _,_,I.lnew (t':=s.toks) (r.append r2) (by rw [List.length_append];omega),rfl,q _ I.fresh⟩
def zqL:R2:=λx y H Q=>∃ l k xs,x=.ref l∧y=.int k∧H l=some (.lst xs)∧-(2^63)≤k∧k<2^63∧xs.length*k.toNat≤sizeLine ∧
 ∀ p,H p=none->Q (.ref p) (upd H p (.lst (List.replicate k.toNat xs).flatten))
theorem znQ {α:Type} (xs:List α) (k:Nat):(List.replicate k xs).flatten.length=k*xs.length:=by
 induction k with
 | zero=>simp
 | succ k ih=>rw [List.replicate_succ,List.flatten_cons,List.length_append,ih,Nat.succ_mul,Nat.add_comm]
theorem zlA:OpR X (binaryOp .Mult) zqL:=by
 intro pins s σ H x y v u Q I rx ry h
 obtain ⟨l,k,xs,rfl,rfl,hH,h1,h2,hz,q⟩:=h
 cases rx
 obtain ⟨t,rfl⟩:=ry
 obtain ⟨z,its,n,r,hl,e⟩:=I.lstM hH
 have hlen:its.toArray.size*k.toNat≤sizeLine:=by rw [List.size_toArray,← hl];exact hz
 have hcap:¬ its.toArray.size*k.toNat > (2^63-1)/8:=by
  have:(sizeLine:Nat)≤(2^63-1)/8:=by decide
  omega
 have hfit:¬ (!Builtin.List.listFitsIndex k)=true:=by
  rw [fitsIndex_both h1 h2]
  exact Bool.false_ne_true
 have hlong:¬ Builtin.List.listTooLong (its.toArray.size*k.toNat)=true:=by
  rw [ziW hlen]
  exact Bool.false_ne_true
 have hnew:List.foldl (λx1 x2=>x1++x2) #[] (List.replicate (if its.toArray.isEmpty=true then 0 else k.toNat) its.toArray)=(List.replicate k.toNat its).flatten.toArray:=by
  have f0:∀ m:Nat,List.foldl (λx1 x2=>x1++x2) #[] (List.replicate m its.toArray)=(List.replicate m its).flatten.toArray:=λm=>by
   have:=zhV its m []
   rw [List.nil_append] at this
   exact this
  rw [f0]
  cases its with
  | nil=>simp
  | cons a r'=>rw [if_neg (by simp)]
 refine wpAny_binaryOp_repeat_ref (T:="list") (U:="int") (by decide) ⟨_,e,rfl⟩ (λs'=>typeIs_int s' k t) noFill_list_mul F.fills_int_mul F.slot_int_rmul repeat_list F.slot_int_index.lookup
  (call_meets F.slot_int_rmul (typeIs_int s k t) F.entry_int_rmul (F.args_int_rmul_2 _ _) (int___rmul___int_list k t l its.toArray n)
   ⟨e,rfl,⟨_,e,rfl⟩,call_meets F.slot_list_mul ⟨_,e,rfl⟩ F.entry_list_mul (F.args_list_mul_2 _ _) (AutoListH.list___mul___list_int_3 l its.toArray n k t hfit hcap hlong) ⟨e,?_⟩⟩)
 rw [hnew]
 exact ⟨.ref _,_,I.lnew (t':=s.toks) (r.rep k.toNat) (by rw [znQ,Nat.mul_comm];exact hz),rfl,q _ I.fresh⟩
end
section
variable {prog:Program} {w:World} {A:Around} {E:Value->Shared->Prop} {s:Shared}
end
section
variable {X:Cx}
end
end L2
namespace Att
open PySem PySem.W PySem.Calls PyProof.Rows
theorem zf4 {P:Params} {h:Heap}:∀ (ns:List Int) (vs:List Value),WellAll P h vs (ns.map WData.int)->IntsAre vs ns:=by
 intro ns
 induction ns with
 | nil =>
  intro vs w
  rw [List.map_nil] at w
  cases w
  exact .nil
 | cons n ns ih =>
  intro vs w
  rw [List.map_cons] at w
  cases w with
  | cons a b =>
   cases a
   exact .cons _ _ (ih _ b)
theorem script_of {l:OpenLaw} {n:Nat} (hn:l.most=some n) {P:Params} {h:Heap} {args:List WData} {vals:List Value}
  (hpre:l.row.toRowW.claim.pre args=true) (hwl:WellAll P h vals args) :
  ∃ a vs ns,vals=[Value.ref a]∧args=[WData.list (ns.map WData.int)]∧h.get? a=some { cls:=.type "list",data:=.seq vs.toArray }∧IntsAre vs ns∧ns.length≤n:=by
 have hsh:WShape.hasAll [] args [.list .int]=true:=(pre_splitW hpre).1
 have hc:l.pre.holds [] { args:=args }=true:=(pre_splitW hpre).2
 obtain ⟨d,r,rfl,h1,h2⟩:=hasAllW_cons hsh
 obtain rfl:=hasAllW_nil h2
 obtain ⟨xs,rfl,h3⟩:=hasW_list h1
 obtain ⟨ns,rfl⟩:=items_int h3
 have hlen:ns.length≤n:=by
  unfold OpenLaw.pre at hc
  have h4:(WTm.not (.lt (.lit (.int (n:Int))) (.len (.arg 0)))).holds [] { args:=[.list (ns.map .int)] }=true:=by
   have h4:=(holds_andW hc).1
   rw [hn] at h4
   exact h4
  have h5:=condW_of h4 (w_not (w_lt w_lit (w_len_list (w_arg rfl))))
  rw [List.length_map] at h5
  refine Nat.le_of_not_lt λq=>?_
  have q':(n:Int)<((ns.length:Nat):Int):=by omega
  first
   | (rw [decide_eq_true q'] at h5;exact absurd h5 (by decide))
   | (simp at h5;omega)
 cases hwl with
 | cons w1 w2 =>
  cases w2
  cases w1 with
  | list ho hall=>exact ⟨_,_,ns,rfl,rfl,ho,zf4 ns _ hall,hlen⟩
theorem zk1 (l:OpenLaw) (args:List WData):l.row.toRowW.claim.post args (.bool true) args=true :=
 postW_of (r:=l.row.toRowW) (X:=(true == true))
  (show WShape.has [] (.bool true) .bool=true by first | rfl | decide | simp [WShape.has,WShape.arms,WShape.armsAll])
  (show (WTm.eq .res (.lit (.bool true))).value [] { args:=args,res:=some (.bool true),after:=args }=some (.bool (true == true)) from w_eq_bool (w_res rfl) w_lit) rfl
theorem attach_call {l:OpenLaw} {n:Nat} {q:Program} {loose:List Str} {XP:(Str->Option Value)->Heap->Prop} {YP:World->Heap->Prop} {d:DefRec}
  (hn:l.most=some n) (hdf:d.params.defaults=[])
  (call:∀ (w:World) (s₀ s₁:Shared) (mg mb:Str->Option Value) (fa:Addr) (o:Obj) (pm cd doc:Value) (a:Addr) (vs:List Value) (ns:List Int),
   Ground q loose [] XP w s₀ mg mb s₁.heap->YP w s₁.heap →
   s₁.heap.get? fa=some o->o.data=.func (docDef d.name d.params d.body d.scope pm cd doc)->s₁.heap.CodeRec cd d.name->mg d.name=some (.ref fa) →
   s₁.heap.get? a=some { cls:=.type "list",data:=.seq vs.toArray }->IntsAre vs ns->ns.length≤n->s₁.gens=#[] →
   codeAny (model l.prog w) callerA (.call (.ref fa) ⟨[.ref a],[]⟩) (λr s'=>r=.ok (.ret (.bool true))∧OldK s₁.heap s'.heap∧s'.os=s₁.os∧AllBare s'.gens) s₁) :
  WalkO q loose XP YP l.row.toRowW d [] (λf vs=>PySem.call f vs):=by
 intro w s₀ s₁ mg mb G Y fa o pm cd doc dV kV ho hd hcd hD hmg hg args vals as hpre hlay hrd hwl hlo
 obtain rfl:dV=.none:=Dflts.none hD hdf
 obtain rfl:kV=.none:=Dflts.noKw hD
 obtain ⟨a,vs,ns,rfl,rfl,hobj,hints,hlen⟩:=script_of hn hpre hwl
 refine enter_call (codeAny_mono (call w s₀ s₁ mg mb fa o pm cd doc a vs ns G Y ho (fd_plain hd) hcd hmg hobj hints hlen hg) λr s' hq=>?_)
 obtain ⟨rfl,h2,h3,h4⟩:=hq
 exact ⟨.inl ⟨.bool true,.bool true,[],rfl,λ_=>rfl,.bool true,zk1 l _,λ_=>⟨List.Pairwise.nil,λ_ hm=>(nomatch hm)⟩⟩,h2,h3,h4⟩
section
variable {prog:Program} {w:World} {A:Around} {E:Value->Shared->Prop} {s:Shared} {K:Frag}
end
end Att
namespace L2
open PySem PySem.Spec PyProof.Rows
theorem zhJ:∀ {vs:List Value} {ns:List Int},IntsAre vs ns->Vals (ns.map V.int) vs
 | _,_,.nil=>.nil
 | _,_,.cons n t h=>.cons ⟨t,rfl⟩ (zhJ h)
def zqQ (H:Hp):Prop:=∀ b,H b=none∨∃ o xs,H b=some (.frz o (.lst xs))
theorem zmC {P:Program} {w:World} {K:W.Frag} {mg mb:Str->Option Value} {CX:CXT} {k:Nat} {fa a:Addr} {fd:FuncData} {x:Str} {sp:Sp} {s₁:Shared} {vs:List Value} {ns:List Int}
  (KX:K.In s₁.heap) (hns:s₁.heap.Ns mainGlobals mg) (hb:s₁.heap.Ns builtinsNs mb) (hbb:∀ x:Str,x≠"__name__"->mb x=bootBuiltins x) (hlim:s₁.heap.NoLimit) (hg:s₁.gens=#[])
  (ha:s₁.heap.get? a=some { cls:=.type "list",data:=.seq vs.toArray }) (hi:IntsAre vs ns) (hl:ns.length≤sizeLine) (hr:Room k callerA)
  (F:∀ base:Heap,K.In base->base.Ns mainGlobals mg->FnOk P w K mg base CX k fa fd [x] sp) (hbind:∀ (s:Shared) (u:Value),BindsTo s fd ⟨[u],[]⟩ [(x,u)])
  (hsp:∀ H:Hp,zqQ H->SqL K H a (ns.map V.int)->sp [.ref a] H (λv _=>v=.bl true) λ_ _ _=>False)
  (hCX:∀ H e s',CX [] H s₁ (λ_ _ _=>False) e s'->False) :
  codeAny (model P w) callerA (.call (.ref fa) ⟨[.ref a],[]⟩) (λr s'=>r=.ok (.ret (.bool true))∧OldK s₁.heap s'.heap∧s'.os=s₁.os∧AllBare s'.gens) s₁:=by
 have rv:=zhJ hi
 have lenV:=hi.length
 have core:∀ H:Hp,zqQ H->SqL K H a (ns.map V.int)->HOk P w H s₁.heap->(∀ b,H b≠none->b=a)->(H a≠none->K.lookup a=none) →
   codeAny (model P w) callerA (.call (.ref fa) ⟨[.ref a],[]⟩) (λr s'=>r=.ok (.ret (.bool true))∧OldK s₁.heap s'.heap∧s'.os=s₁.os∧AllBare s'.gens) s₁:=by
  intro H hO hS hok hA hK
  have base_of:∀ {b:Addr} {o:Obj},s₁.heap.get? b=some o->H b=none->(zmn s₁.heap H).get? b=some o:=λe n=>zmo e n
  have noA:∀ {b:Addr} {o:Obj} {es:Array DictEntry} {ep:Nat},s₁.heap.get? b=some o->o.data=.dict es ep->H b=none:=λ{b o es ep} e d=>by
   cases q:H b with
   | none=>rfl
   | some u =>
    have e':b=a:=hA b (by rw [q];simp)
    subst e'
    rw [ha] at e;cases e
    have d':Data.seq vs.toArray _=Data.dict es ep:=d
    cases d'
  have nsK:∀ {b:Addr} {m:Str->Option Value},s₁.heap.Ns b m->(zmn s₁.heap H).Ns b m:=λ{b m} ⟨o,es,ep,e,d,r⟩=>⟨o,es,ep,base_of e (noA e d),d,r⟩
  have hKb:K.In (zmn s₁.heap H):=λb o e=>base_of (KX b o e) (by
   cases q:H b with
   | none=>rfl
   | some u =>
    have e':b=a:=hA b (by rw [q];simp)
    subst e'
    rw [hK (by rw [q];simp)] at e;cases e)
  have hM:Mod K mg (zmn s₁.heap H):=⟨hKb,nsK hns,⟨mb,nsK hb,hbb⟩,let ⟨mc,h1,h2⟩:=hlim;⟨mc,nsK h1,h2⟩⟩
  have e0:Env0 P w K mg (zmn s₁.heap H) callerA [] s₁ H:=⟨rfl,hM,λb o e=>znI e,Nat.le_of_eq (zkL _ _),trivial,λb hb=>absurd (show b∈([]:List Addr) from hb) (by simp),hok,.of_eq hg⟩
  refine codeAny_mono ((F _ hKb (nsK hns)).run callerA [] s₁ H ⟨[.ref a],[]⟩ [.ref a] [.ref a] _ _ hr e0 (hbind s₁ (.ref a)) (.cons rfl .nil) (hsp H hO hS)) λr s' h=>?_
  cases r with
  | error e=>exact (hCX H e s' h).elim
  | ok fl =>
   cases fl with
   | next=>exact False.elim h
   | brk=>exact False.elim h
   | cont=>exact False.elim h
   | ret u =>
    obtain ⟨v,H',os,bare,un,hok',r',q⟩:=h
    have q':v=.bl true:=q
    subst q'
    obtain rfl:u=Value.bool true:=r'
    refine ⟨rfl,OldK.of_keep λb o e=>?_,os,bare⟩
    cases q:H b with
    | none=>exact un.keep b o e q (by intro z;exact absurd (show b∈([]:List Addr) from z) (by simp)) (by simp)
    | some u =>
     rcases hO b with z | ⟨ob,xs,z⟩
     ·rw [q] at z;cases z
     ·have z2:=un.frzs b ob _ z
      obtain ⟨e1,_⟩:=hok b _ z
      obtain ⟨e2,_⟩:=hok' b _ z2
      rw [e] at e1;cases e1
      exact e2
 cases hk:K.lookup a with
 | some o =>
  have e:=KX a o hk
  rw [ha] at e
  cases e
  refine core (λ_=>none) (λ_=>.inl rfl) (.inr ⟨_,vs.toArray,_,hk,rfl,rfl,rfl,by rw [List.size_toArray,lenV];exact hl,by simpa using rv⟩) (λb u z=>by have z':(none:Option HO)=some u:=z;cases z') (λb z=>absurd rfl z) λz=>absurd rfl z
 | none =>
  refine core (λb=>if b=a then some (.frz { cls:=.type "list",data:=.seq vs.toArray } (.lst (ns.map V.int))) else none) (λb=>?_) (.inl (.inr ⟨{ cls:=.type "list",data:=.seq vs.toArray },if_pos rfl⟩)) (λb u z=>?_) (λb z=>?_) λ_=>hk
  ·by_cases hb:b=a
   ·exact .inr ⟨_,_,if_pos hb⟩
   ·exact .inl (if_neg hb)
  ·by_cases hb:b=a
   ·have z':=(if_pos hb).symm.trans z
    cases z'
    subst hb
    exact ⟨ha,by rw [List.length_map];exact hl,vs,_,rv,ha⟩
   ·have z':=(if_neg hb).symm.trans z
    cases z'
  ·by_cases hb:b=a
   ·exact hb
   ·exact absurd (if_neg hb) z
end L2
namespace L2
open PySem PySem.Spec PyProof.Rows
theorem znK {l:W.OpenLaw} {n k:Nat} {q:Program} {loose:List Str} {XP:(Str->Option Value)->Heap->Prop} {YP:World->Heap->Prop} {d:DefRec} {K:Params->W.Frag} {CX:World->CXT} {sp:World->Sp} {x:Str}
  (hn:l.most=some n) (hn2:n≤sizeLine) (hdf:d.params.defaults=[]) (hr:Room k callerA)
  (hY:∀ (w:World) (h:Heap),YP w h->(K w.params).In h)
  (F:∀ (w:World) (mg:Str->Option Value) (fa:Addr) (h:Heap),(K w.params).In h->h.Ns mainGlobals mg->mg d.name=some (.ref fa) →
   ∃ fd:FuncData,(∀ (s:Shared) (u:Value),BindsTo s fd ⟨[u],[]⟩ [(x,u)]) ∧
    ∀ base:Heap,(K w.params).In base->base.Ns mainGlobals mg->FnOk l.prog w (K w.params) mg base (CX w) k fa fd [x] (sp w))
  (hsp:∀ (w:World) (H:Hp) (a:Addr) (ns:List Int),ns.length≤n->zqQ H->SqL (K w.params) H a (ns.map V.int)->sp w [.ref a] H (λv _=>v=.bl true) λ_ _ _=>False)
  (hCX:∀ (w:World) (H:Hp) (s:Shared) (e:Value) (s':Shared),CX w [] H s (λ_ _ _=>False) e s'->False) :
  W.WalkO q loose XP YP l.row.toRowW d [] (λf vs=>PySem.call f vs):=by
 refine Att.attach_call hn hdf λw s₀ s₁ mg mb fa o pm cd doc a vs ns G Y ho hd hcd hmg hobj hints hlen hg=>?_
 have KX:=hY w _ Y
 obtain ⟨fd,hb,hF⟩:=F w mg fa _ KX G.T.g hmg
 exact zmC KX G.T.g G.T.b G.T.builtins G.T.nolimit hg hobj hints (Nat.le_trans hlen hn2) hr hF hb (λH hO hS=>hsp w H a ns hlen hO hS) λH e s'=>hCX w H s₁ e s'
end L2
namespace L2
open PySem PySem.Spec PyProof.Rows
def zfw (s:Stmt) (j:Nat):Stmt:=match s with
 | .ClassDef _ _ _ body _ _ _ _ _ _ _=>body.getD j (.Pass ⟨0,0,0,0⟩)
 | _=>.Pass ⟨0,0,0,0⟩
def zav (s:Stmt):Arguments:=match s with
 | .FunctionDef _ a _ _ _ _ _ _ _ _=>a
 | _=>{ posonlyargs:=[],args:=[],vararg:=none,kwonlyargs:=[],kw_defaults:=[],kwarg:=none,defaults:=[] }
def zar (s:Stmt):List Stmt:=match s with
 | .FunctionDef _ _ b _ _ _ _ _ _ _=>b
 | _=>[]
def zad (s:Stmt):Scope:=match s with
 | .FunctionDef _ _ _ _ _ _ sc _ _ _=>sc
 | _=>{ kind:=.function,names:=[],isGenerator:=false,isCoroutine:=false }
abbrev E0:XK:=λ_ _ _=>False
structure Fun (K:W.Frag) (x qual:Str) (st:Stmt) (f:Addr) (fd:FuncData):Prop where
 ex:∃ (oc:Value) (od:Option Addr) (kV doc pm:Value) (an:Option Addr) (cdv ct:Value) (osl:Array (Option Value)),
  fd=W.fnOf x qual (zav st) (zar st) (zad st) .none kV doc pm an cdv ct∧K.lookup f=some ⟨oc,od,.func fd,osl⟩∧W.codeIn K cdv qual=true
 kp:W.keepIn K (.ref f)=true
section
variable {P:Program} {w:World} {K:W.Frag} {mg:Str->Option Value} {base:Heap}
theorem Fun.binds {x qual:Str} {st:Stmt} {f:Addr} {fd:FuncData} {ps:List Str} (F:Fun K x qual st f fd)
  (h:∀ (kV doc pm:Value) (an:Option Addr) (cdv ct:Value) (us:List Value),us.length=ps.length->bindArgs (W.fnOf x qual (zav st) (zar st) (zad st) .none kV doc pm an cdv ct) ⟨us,[]⟩=pure (ps.zip us)):zeR K fd ps []:=by
 obtain ⟨oc,od,kV,doc,pm,an,cdv,ct,osl,rfl,lk,hcd⟩:=F.ex
 exact .all (h kV doc pm an cdv ct)
theorem zaJ {x qual:Str} {st:Stmt} {f:Addr} {oc:Value} {od an:Option Addr} {osl:Array (Option Value)} {kV doc pm cdv ct:Value} (l:K.lookup f=some ⟨oc,od,.func (W.fnOf x qual (zav st) (zar st) (zad st) .none kV doc pm an cdv ct),osl⟩)
  (c:W.codeIn K cdv qual=true) (k:W.keepIn K (.ref f)=true):Fun K x qual st f (W.fnOf x qual (zav st) (zar st) (zad st) .none kV doc pm an cdv ct):=⟨⟨oc,od,kV,doc,pm,an,cdv,ct,osl,rfl,l,c⟩,k⟩
end
section
variable {X:Cx}
theorem pv (i:Nat) {x:Str} {pos:Pos} (hN:X.N[i]?=some x:=by rfl) (hv:Vis X.env.scope x:=by first | exact Or.inl rfl | exact Or.inr (Or.inl rfl) | exact Or.inr (Or.inr rfl)) (hd:(x == ("__debug__":Str))=false:=by decide)
  (hcd:(x == ("__classdict__":Str))=false:=by decide):PE X (.Name x pos) (tVar i):=pe_var hN hv hd hcd
end
def Same (H H':Hp):Prop:=∀ b o,H b=some o->H' b=some o
theorem Same.refl (H:Hp):Same H H:=λ_ _ h=>h
theorem Same.trans {H H1 H2:Hp} (a:Same H H1) (b:Same H1 H2):Same H H2:=λc o h=>b c o (a c o h)
theorem Same.free {H H':Hp} (e:Same H H') {l:Addr} (h:H' l=Option.none):H l=Option.none:=by
 cases q:H l with
 | none=>rfl
 | some o =>
  rw [e l o q] at h
  cases h
theorem Same.seq {K:W.Frag} {H H':Hp} {a:Addr} {xs:List V} (e:Same H H') (h:SqL K H a xs):SqL K H' a xs:=by
 rcases h with (h | ⟨o,h⟩) | h
 ·exact .inl (.inl (e _ _ h))
 ·exact .inl (.inr ⟨o,e _ _ h⟩)
 ·exact .inr h
end L2
namespace L2
open PySem PySem.Spec PyProof.Rows
theorem zfs {env:Env}:∀ (names:List (Str×NameKind)) (acc:List (Str×Addr)),(∀ x∈names,x.2=.free->∃ c,env.cells.lookup x.1=some c) →
  ∃ cl:List (Str×Addr),(forIn (m:=Sem) names acc λ(x:Str×NameKind) (cs:List (Str×Addr))=>if (x.2 == NameKind.free)=true then (do let a ← cellOf env x.1;pure (ForInStep.yield ((x.1,a) :: cs))) else pure (ForInStep.yield cs))=pure cl ∧
   (∀ x c,cl.lookup x=some c->acc.lookup x=some c∨env.cells.lookup x=some c)∧(∀ x,((x,NameKind.free)∈names∨∃ c,acc.lookup x=some c)->∃ c,cl.lookup x=some c)
 | [],acc,_=>⟨acc,rfl,λ_ _ h=>.inl h,λx h=>by
   rcases h with h | h
   ·cases h
   ·exact h⟩
 | (n,k) :: r,acc,h=>by
  have hr:∀ x∈r,x.2=.free->∃ c,env.cells.lookup x.1=some c:=λx hx=>h x (List.mem_cons_of_mem _ hx)
  by_cases hk:k=.free
  ·subst hk
   obtain ⟨c,hc⟩:=h (n,.free) List.mem_cons_self rfl
   obtain ⟨cl,e,h1,h2⟩:=zfs r ((n,c) :: acc) hr
   refine ⟨cl,?_,λx c' q=>?_,λx q=>?_⟩
   ·rw [List.forIn_cons]
    have e1:cellOf env n=pure c:=by unfold cellOf;rw [hc]
    simp only [beq_self_eq_true,if_true,e1]
    exact e
   ·rcases h1 x c' q with z | z
    ·rw [List.lookup_cons] at z
     cases hx:x == n with
     | true =>
      rw [hx] at z
      have z':some c=some c':=z
      cases z'
      have:x=n:=eq_of_beq hx
      subst this
      exact .inr hc
     | false=>rw [hx] at z;exact .inl z
    ·exact .inr z
   ·refine h2 x ?_
    by_cases hx:x=n
    ·subst hx
     exact .inr ⟨c,by rw [List.lookup_cons];simp⟩
    ·rcases q with q | ⟨c',q⟩
     ·rcases List.mem_cons.mp q with q | q
      ·exact absurd (congrArg Prod.fst q) hx
      ·exact .inl q
     ·refine .inr ⟨c',?_⟩
      have:(x == n)=false:=by simpa using hx
      rw [List.lookup_cons,this]
      exact q
  ·obtain ⟨cl,e,h1,h2⟩:=zfs r acc hr
   refine ⟨cl,?_,h1,λx q=>h2 x ?_⟩
   ·rw [List.forIn_cons]
    have e1:(k == NameKind.free)=false:=by simpa using hk
    simp only [e1,Bool.false_eq_true,if_false]
    exact e
   ·rcases q with q | q
    ·rcases List.mem_cons.mp q with q | q
     ·exact absurd (congrArg Prod.snd q).symm hk
     ·exact .inl q
    ·exact .inr q
theorem zjD {scope:Scope} {env:Env} (h:∀ x∈scope.names,x.2=.free->∃ c,env.cells.lookup x.1=some c) :
  ∃ cl,closureFor scope env=pure cl∧(∀ x c,cl.lookup x=some c->env.cells.lookup x=some c)∧∀ x,(x,NameKind.free)∈scope.names->∃ c,cl.lookup x=some c:=by
 obtain ⟨cl,e,h1,h2⟩:=zfs (env:=env) scope.names [] h
 refine ⟨cl,?_,λx c q=>(h1 x c q).elim (λz=>by cases z) id,λx q=>h2 x (.inl q)⟩
 have e2:closureFor scope env=(forIn (m:=Sem) scope.names [] λ(x:Str×NameKind) (cs:List (Str×Addr))=>if (x.2 == NameKind.free)=true then (do let a ← cellOf env x.1;pure (ForInStep.yield ((x.1,a) :: cs))) else pure (ForInStep.yield cs)) >>= λr=>pure r:=by
  unfold closureFor
  rfl
 rw [e2,e]
 rfl
theorem lookup_relabel {env:Env}:∀ {names:List (Str×NameKind)} {x:Str} {k:NameKind},
  (names.map λ(n,k)=>if (k == NameKind.free&&env.scope.kind == .function&&env.kindOf n == some .cell) then (n,NameKind.cell) else (n,k)).lookup x=some k →
   names.lookup x=some k∨(k=.cell∧names.lookup x=some .free)
 | [],_,_,h=>by simp at h
 | (n,k') :: r,x,k,h=>by
  have ih:=@lookup_relabel env r x k
  have h:List.lookup x ((if (k' == NameKind.free&&env.scope.kind == .function&&env.kindOf n == some .cell)=true then (n,NameKind.cell) else (n,k')) :: _)=some k:=h
  cases hx:x == n with
  | true =>
   by_cases hc:(k' == NameKind.free&&env.scope.kind == .function&&env.kindOf n == some .cell)=true
   ·rw [if_pos hc] at h
    simp only [List.lookup_cons,hx] at h
    cases h
    simp only [Bool.and_eq_true,beq_iff_eq] at hc
    refine .inr ⟨rfl,?_⟩
    simp [List.lookup_cons,hx,hc.1.1]
   ·rw [if_neg hc] at h
    simp only [List.lookup_cons,hx] at h
    cases h
    exact .inl (by simp [List.lookup_cons,hx])
  | false =>
   have h':(r.map λ(n,k)=>if (k == NameKind.free&&env.scope.kind == .function&&env.kindOf n == some .cell) then (n,NameKind.cell) else (n,k)).lookup x=some k:=by
    by_cases hc:(k' == NameKind.free&&env.scope.kind == .function&&env.kindOf n == some .cell)=true
    ·rw [if_pos hc] at h
     simpa only [List.lookup_cons,hx] using h
    ·rw [if_neg hc] at h
     simpa only [List.lookup_cons,hx] using h
   simpa only [List.lookup_cons,hx] using ih h'
theorem cells_look:∀ (names:List (Str×NameKind)) (a:Nat) (acc:List (Str×Addr)) (x:Str) (c:Addr),(cellsFrom a names acc).lookup x=some c->((x,NameKind.cell)∈names∧a≤c)∨((x,NameKind.cell) ∉ names∧acc.lookup x=some c)
 | [],_,_,_,_,h=>.inr ⟨by simp,h⟩
 | (n,k) :: r,a,acc,x,c,h=>by
  unfold cellsFrom at h
  by_cases hk:k=.cell
  ·subst hk
   rw [if_pos (by rfl)] at h
   rcases cells_look r (a+1) ((n,a) :: acc) x c h with ⟨h1,h2⟩ | ⟨h1,h2⟩
   ·exact .inl ⟨List.mem_cons_of_mem _ h1,Nat.le_of_succ_le h2⟩
   ·rw [List.lookup_cons] at h2
    cases hx:x == n with
    | true =>
     rw [hx] at h2
     have h2:some a=some c:=h2
     cases h2
     rw [eq_of_beq hx]
     exact .inl ⟨List.mem_cons_self,Nat.le_refl _⟩
    | false =>
     rw [hx] at h2
     refine .inr ⟨λz=>?_,h2⟩
     rcases List.mem_cons.mp z with z | z
     ·have:=congrArg Prod.fst z
      have:x=n:=this
      rw [this] at hx
      simp at hx
     ·exact h1 z
  ·have hk':(k == NameKind.cell)=false:=by simpa using hk
   rw [hk',if_neg (by simp)] at h
   rcases cells_look r a acc x c h with ⟨h1,h2⟩ | ⟨h1,h2⟩
   ·exact .inl ⟨List.mem_cons_of_mem _ h1,h2⟩
   ·refine .inr ⟨λz=>?_,h2⟩
    rcases List.mem_cons.mp z with z | z
    ·exact hk (congrArg Prod.snd z).symm
    ·exact h1 z
theorem zgl:∀ (names:List (Str×NameKind)) (a:Nat) (acc:List (Str×Addr)) (x:Str),((x,NameKind.cell)∈names∨∃ c,acc.lookup x=some c)->∃ c,(cellsFrom a names acc).lookup x=some c
 | [],_,_,_,h=>by
  rcases h with h | h
  ·simp at h
  ·exact h
 | (n,k) :: r,a,acc,x,h=>by
  unfold cellsFrom
  by_cases hk:k=.cell
  ·subst hk
   rw [if_pos (by rfl)]
   refine zgl r (a+1) ((n,a) :: acc) x ?_
   by_cases hx:x=n
   ·subst hx
    exact .inr ⟨a,by rw [List.lookup_cons];simp⟩
   ·rcases h with h | ⟨c,h⟩
    ·rcases List.mem_cons.mp h with h | h
     ·exact absurd (congrArg Prod.fst h) hx
     ·exact .inl h
    ·refine .inr ⟨c,?_⟩
     have:(x == n)=false:=by simpa using hx
     rw [List.lookup_cons,this]
     exact h
  ·have hk':(k == NameKind.cell)=false:=by simpa using hk
   rw [hk',if_neg (by simp)]
   refine zgl r a acc x ?_
   rcases h with h | h
   ·rcases List.mem_cons.mp h with h | h
    ·exact absurd (congrArg Prod.snd h).symm hk
    ·exact .inl h
   ·exact .inr h
theorem zeZ:∀ (names:List (Str×NameKind)) (a:Nat) (acc acc':List (Str×Addr)) (x:Str),((x,NameKind.cell)∈names∨acc.lookup x=acc'.lookup x)->(cellsFrom a names acc).lookup x=(cellsFrom a names acc').lookup x
 | [],_,_,_,_,h=>by
  rcases h with h | h
  ·simp at h
  ·exact h
 | (n,k) :: r,a,acc,acc',x,h=>by
  unfold cellsFrom
  by_cases hk:k=.cell
  ·subst hk
   rw [if_pos (by rfl),if_pos (by rfl)]
   refine zeZ r (a+1) _ _ x ?_
   by_cases hx:x=n
   ·subst hx
    exact .inr (by rw [List.lookup_cons,List.lookup_cons];simp)
   ·have hx':(x == n)=false:=by simpa using hx
    rcases h with h | h
    ·rcases List.mem_cons.mp h with h | h
     ·exact absurd (congrArg Prod.fst h) hx
     ·exact .inl h
    ·exact .inr (by rw [List.lookup_cons,List.lookup_cons,hx'];exact h)
  ·have hk':(k == NameKind.cell)=false:=by simpa using hk
   rw [hk',if_neg (by simp),if_neg (by simp)]
   refine zeZ r a _ _ x ?_
   rcases h with h | h
   ·rcases List.mem_cons.mp h with h | h
    ·exact absurd (congrArg Prod.snd h).symm hk
    ·exact .inl h
   ·exact .inr h
theorem zdQ {M:Model} {A:Around} {E:Value->Shared->Prop} {s:Shared} {scope:Scope} {globals:Addr} {closure:List (Str×Addr)} {qual:Str} {func:Option Addr} {code:Value} {outer:Env} {builtins:Addr} {Q:Env->Shared->Prop}
  (hQ:∀ h',h'.Ns s.heap.objs.size (λ_=>none)->(∀ b o,s.heap.get? b=some o->h'.get? b=some o) →
   (∀ x c,(x,NameKind.cell)∈scope.names->(cellsFrom (s.heap.objs.size+1) scope.names closure).lookup x=some c->h'.IsCell c none) →
   Q (newEnv scope s.heap.objs.size globals (cellsFrom (s.heap.objs.size+1) scope.names closure) qual func code (some outer) builtins) { s with heap:=h' }) :
  wpAny M A (newFunctionEnv scope globals closure [] qual func code (some outer) builtins) Q E s:=by
 simp only [newFunctionEnv,Option.isSome_some,if_true]
 refine wpAny_bind (wpAny_alloc ?_)
 refine wpAny_bind (wpAny_layCells _ (λname kind cells=>by cases hkc:kind == NameKind.cell<;>simp [hkc]) _ _ _ _ ?_)
 have ok:=cellsFrom_ok scope.names (s.heap.push { cls:=.type "dict",data:=.dict #[] }) (s.heap.objs.size+1) [] ⟨λ_ _ hm=>(nomatch hm),List.Pairwise.nil⟩ (by rw [Heap.size_push];exact Nat.le_refl _)
 rw [Heap.size_push] at ok
 rw [show ({ s with heap:=s.heap.push { cls:=.type "dict",data:=.dict #[] } }:Shared).heap.objs.size=s.heap.objs.size+1 from Heap.size_push ..]
 simp only [List.forIn_nil]
 refine wpAny_bind (wpAny_pure (wpAny_pure (hQ _ ((Heap.Ns.new s.heap (.type "dict")).keeps (pushCells_keeps _ _)) (λb o e=>pushCells_keeps _ _ b o (Heap.get?_push_of_some _ e)) λx c hx hc=>?_)))
 rw [zeZ _ _ closure [] x (.inl hx)] at hc
 exact (ok.empty x c (PySem.mem_of_lookup hc)).1
def zbq (X:Cx) (N':List Str) (scope:Scope) (cl:List (Str×Addr)) (C:Addr) (fp:List Addr) (s:Shared) (H:Hp):Cx where
 prog:=X.prog
 w:=X.w
 K:=X.K
 mg:=X.mg
 base:=X.base
 A:=X.A
 N:=N'
 s₀:=s
 H₀:=H
 env:=compEnvC scope cl C X.env
 outer:=X.stack
 stack:=X.stack
 ex:=fp
 fn:=λx=>scope.names.lookup x == some .cell
 calm:=true
 pn:=X.pn
 xe:=λ_ _=>False
def zgf (own:Nat) (fv:List Nat) (σ:St):St:=List.replicate own none++fv.map λi=>(σ[i]?).join
structure BlkScope (X:Cx) (scope:Scope) (own fvn:List Str) (fv:List Nat):Prop where
 cell:∀ y∈scope.names,y.2=.cell->scope.names.lookup y.1=some .cell
 fre:∀ y∈scope.names,y.2=.free->scope.names.lookup y.1=some .free
 kind:scope.kind=.function
 names:∀ y∈scope.names,y.2=.local->scope.names.lookup y.1=some .local
 free:∀ y∈scope.names,y.2=.free->X.env.scope.names.lookup y.1=some .cell∨X.env.scope.names.lookup y.1=some .free
 map:fvn.map some=fv.map λi=>X.N[i]?
 vis:∀ x∈fvn,scope.names.lookup x=some .free
section
variable {X:Cx} {pins:List (Addr×Obj)} {σ:St} {H:Hp} {s:Shared}
def zmA (X:Cx) (scope:Scope) (cl:List (Str×Addr)) (C:Addr):Prop:=(∀ x c,cl.lookup x=some c->(X.env.cells.lookup x=some c∧scope.names.lookup x≠some .cell)∨(C<c∧scope.names.lookup x=some .cell)) ∧
 (∀ x y c,C<c->cl.lookup x=some c->cl.lookup y=some c->x=y)∧∀ x,((x,NameKind.free)∈scope.names∨(x,NameKind.cell)∈scope.names)->∃ c,cl.lookup x=some c
theorem zpO {scope:Scope} {own fvn:List Str} {fv:List Nat} {cl:List (Str×Addr)} {C:Addr} (B:BlkScope X scope own fvn fv) (h1:∀ x c,cl.lookup x=some c->X.env.cells.lookup x=some c) (h2:∀ x,(x,NameKind.free)∈scope.names->∃ c,cl.lookup x=some c)
  (hlt:∀ x c,X.env.cells.lookup x=some c->c≤C):zmA X scope (cellsFrom (C+1) scope.names cl) C:=by
 refine ⟨λx c e=>?_,λx y c hc e1 e2=>?_,λx hx=>?_⟩
 ·rcases cells_look _ _ _ _ _ e with ⟨z1,z2⟩ | ⟨z1,z2⟩
  ·exact .inr ⟨z2,B.cell _ z1 rfl⟩
  ·exact .inl ⟨h1 x c z2,λq=>z1 (PySem.mem_of_lookup q)⟩
 ·have key:∀ x,(cellsFrom (C+1) scope.names cl).lookup x=some c->(x,c)∈cellsFrom (C+1) scope.names []:=λx e=>by
   rcases cells_look _ _ _ _ _ e with ⟨z1,z2⟩ | ⟨z1,z2⟩
   ·rw [zeZ _ _ cl [] x (.inl z1)] at e
    exact PySem.mem_of_lookup e
   ·exact absurd (hlt x c (h1 x c z2)) (Nat.not_le.mpr hc)
  have ap:∀ (names:List (Str×NameKind)) (a:Nat) (acc:List (Str×Addr)),(∀ e∈acc,e.2<a)->(acc.Pairwise λx y=>x.2≠y.2)->(cellsFrom a names acc).Pairwise λx y=>x.2≠y.2:=by
   intro names
   induction names with
   | nil=>intro a acc _ h;exact h
   | cons nk r ih =>
    intro a acc h h'
    obtain ⟨n,k⟩:=nk
    unfold cellsFrom
    split
    ·refine ih (a+1) _ (λe he=>?_) (List.pairwise_cons.mpr ⟨λy hy=>Nat.ne_of_gt (h y hy),h'⟩)
     rcases List.mem_cons.mp he with rfl | he
     ·exact Nat.lt_succ_self _
     ·exact Nat.lt_succ_of_lt (h e he)
    ·exact ih a acc h h'
  exact PySem.name_of_addr (ap scope.names (C+1) [] (by simp) .nil) (key x e1) (key y e2)
 ·refine zgl _ _ _ _ ?_
  rcases hx with hx | hx
  ·exact .inr (h2 x hx)
  ·exact .inl hx
theorem zmr {scope:Scope} {own fvn:List Str} {fv:List Nat} {cl:List (Str×Addr)} {C:Addr} {fp:List Addr} (I:Inv X pins σ H s) (B:BlkScope X scope own fvn fv) (hc:X.calm=true)
  (hb:zmA X scope cl C)
  (hC:s.heap.objs.size≤C) (hf:∀ b∈fp,FpOk X pins H b) (hl:∀ b∈fp,b<s.heap.objs.size):(zbq X (own++fvn) scope cl C fp s H).Ok where
 mod:=I.ok.mod
 kind:=B.kind
 glob:=I.ok.glob
 blt:=I.ok.blt
 above:=hC
 inj:=λx y c e1 e2=>by
  have lt:∀ z,X.env.cells.lookup z=some c->c<s.heap.objs.size:=λz e=>by obtain ⟨v,q⟩:=I.cell z c e;exact q.lt
  rcases hb.1 x c e1 with ⟨z1,_⟩ | ⟨z1,_⟩
  ·rcases hb.1 y c e2 with ⟨z2,_⟩ | ⟨z2,_⟩
   ·exact I.ok.inj x y c z1 z2
   ·exact absurd (Nat.lt_of_lt_of_le (lt x z1) hC) (Nat.not_lt.mpr (Nat.le_of_lt z2))
  ·exact hb.2.1 x y c z1 e1 e2
 has:=λx hx=>by
  have hx:(scope.names.map λ(n,k)=>if (k == NameKind.free&&X.env.scope.kind == .function&&X.env.kindOf n == some .cell) then (n,NameKind.cell) else (n,k)).lookup x=some .cell ∨
   (scope.names.map λ(n,k)=>if (k == NameKind.free&&X.env.scope.kind == .function&&X.env.kindOf n == some .cell) then (n,NameKind.cell) else (n,k)).lookup x=some .free:=hx
  refine hb.2.2 x ?_
  rcases hx with hx | hx
  ·rcases lookup_relabel hx with z | ⟨_,z⟩
   ·exact .inr (PySem.mem_of_lookup z)
   ·exact .inl (PySem.mem_of_lookup z)
  ·rcases lookup_relabel hx with z | ⟨z,_⟩
   ·exact .inl (PySem.mem_of_lookup z)
   ·cases z
 cab:=λx c h e=>by
  have h:(scope.names.lookup x == some NameKind.cell)=true:=h
  rcases hb.1 x c e with ⟨_,z⟩ | ⟨z,_⟩
  ·exact absurd (eq_of_beq h) z
  ·exact Nat.le_trans hC (Nat.le_of_lt z)
 hd:=λ_=>I.ok.hd hc
 frames:=I.ok.frames
 stk:=.inl rfl
 exf:=λb hb'=>⟨Nat.ne_of_lt (Nat.lt_of_lt_of_le (hl b hb') hC),λx c e=>by
  rcases hb.1 x c e with ⟨z,_⟩ | ⟨z,_⟩
  ·exact (hf b hb').2.2.2.2.1 x c z
  ·exact Nat.ne_of_gt (Nat.lt_trans (Nat.lt_of_lt_of_le (hl b hb') hC) z)⟩
 bs:=I.bs
 bsz:=Nat.le_trans I.ok.bsz I.sz
 noex:=λb o e hb=>by
  rcases (hf b hb).2.2.2.1 with z | z
  ·exact I.ok.noex b o e z
  ·exact absurd (Nat.lt_of_lt_of_le (Heap.lt_size (I.ok.bs b o e).1) z) (Nat.lt_irrefl _)
 exfs:=λb hb z=>by
  rcases List.mem_cons.mp (I.stkSub b z) with q | q
  ·exact (hf b hb).2.1 q
  ·exact (hf b hb).2.2.1 q
 funs:=I.stack
 frf:=I.stkFree
theorem zn3 {own:List Str} {fvn:List Str} {fv:List Nat} {i:Nat} {x:Str} {v:V} (hm:fvn.map some=fv.map λi=>X.N[i]?) (h1:(own++fvn)[i]?=some x) (h2:(zgf own.length fv σ)[i]?=some (some v)) :
  x∈fvn∧∃ j:Nat,X.N[j]?=some x∧σ[j]?=some (some v):=by
 unfold zgf at h2
 by_cases hi:i<own.length
 ·rw [List.getElem?_append_left (by simpa using hi),List.getElem?_replicate] at h2
  split at h2<;>cases h2
 ·rw [List.getElem?_append_right (by simpa using hi),List.length_replicate,List.getElem?_map] at h2
  rw [List.getElem?_append_right (by simpa using hi)] at h1
  have q:(fvn.map some)[i-own.length]?=(fv.map λi=>X.N[i]?)[i-own.length]?:=by rw [hm]
  rw [List.getElem?_map,List.getElem?_map,h1] at q
  cases e:fv[i-own.length]? with
  | none=>rw [e] at h2;cases h2
  | some j =>
   rw [e] at h2 q
   have q':X.N[j]?=some x:=(Option.some.inj q).symm
   have h2':(σ[j]?).join=some v:=Option.some.inj h2
   refine ⟨List.mem_of_getElem? h1,j,q',?_⟩
   cases e2:σ[j]? with
   | none=>rw [e2] at h2';cases h2'
   | some o =>
    rw [e2] at h2'
    have:o=some v:=h2'
    rw [this]
theorem ziE {scope:Scope} {own fvn:List Str} {fv:List Nat} {cl:List (Str×Addr)} {C D:Addr} {fp:List Addr} {h':Heap} {t':Nat} {m:Str->Option Value} (I:Inv X pins σ H s) (B:BlkScope X scope own fvn fv) (hc:X.calm=true)
  (hb:zmA X scope cl C) (hnew:∀ x c,C<c->cl.lookup x=some c->h'.IsCell c none)
  (hf:∀ b∈fp,FpOk X pins H b) (hl:∀ b∈fp,b<s.heap.objs.size) (hD:s.heap.objs.size≤D) (hC:s.heap.objs.size≤C) (hDC:D<C)
  (k:∀ b o,s.heap.get? b=some o->h'.get? b=some o) (hn:h'.Ns C m) (ho:h'.get? D=some { cls:=.type "list",data:=.seq #[] 0 }) :
  Inv (zbq X (own++fvn) scope cl C fp s H) pins (zgf own.length fv σ) (upd H D (.lst [])) { s with heap:=h',toks:=t' }:=by
 have hDn:H D=none:=I.hok.fresh hD
 have hCn:H C=none:=I.hok.fresh hC
 have lt:∀ b o,s.heap.get? b=some o->b≠D:=λb o e=>Nat.ne_of_lt (Nat.lt_of_lt_of_le (Heap.lt_size e) hD)
 refine ⟨zmr I B hc hb hC hf hl,rfl,I.bare,Un.laid k hD hDn,⟨m,hn,λi x v e1 e2 e3=>?_⟩,λx c e=>?_,?_,λx c e=>?_,λp hp=>?_,?_,?_⟩
 ·obtain ⟨hx,j,e4,e5⟩:=zn3 B.map e1 e2
  have hfr:=B.vis x hx
  obtain ⟨c,hcl⟩:=hb.2.2 x (.inl (PySem.mem_of_lookup hfr))
  have h1x:X.env.cells.lookup x=some c:=by
   rcases hb.1 x c hcl with ⟨z,_⟩ | ⟨_,z⟩
   ·exact z
   ·rw [hfr] at z;cases z
  obtain ⟨m0,hn0,hl0⟩:=I.loc
  have ok:=B.free _ (PySem.mem_of_lookup hfr) rfl
  have hv:Vis X.env.scope x:=by
   rcases ok with z | z
   ·exact .inr (.inl z)
   ·exact .inr (.inr z)
  obtain ⟨u,r,l⟩:=hl0 j x v e4 e5 hv
  refine ⟨u,r,.inr ⟨?_,c,hcl,?_⟩⟩
  ·rcases e3 with z | z | z
   ·have z':(scope.names.map λ(n,k)=>if (k == NameKind.free&&X.env.scope.kind == .function&&X.env.kindOf n == some .cell) then (n,NameKind.cell) else (n,k)).lookup x=some .local:=z
    rcases lookup_relabel z' with y | ⟨y,_⟩
    ·rw [hfr] at y;cases y
    ·cases y
   ·exact .inl z
   ·exact .inr z
  ·rcases l with ⟨k0,_⟩ | ⟨_,c',e6,o,ho',hd⟩
   ·have k0':X.env.scope.names.lookup x=some .local:=k0
    rcases ok with z | z<;>(rw [k0'] at z;cases z)
   ·rw [h1x] at e6
    cases e6
    exact ⟨o,k _ _ ho',hd⟩
 ·rcases hb.1 x c e with ⟨z,_⟩ | ⟨z,_⟩
  ·obtain ⟨v,o,ho',hd⟩:=I.cell x c z
   exact ⟨v,o,k _ _ ho',hd⟩
  ·exact ⟨none,hnew x c z e⟩
 ·show upd H D (.lst []) C=none
  rw [upd_ne (Nat.ne_of_gt hDC)];exact hCn
 ·rcases hb.1 x c e with ⟨z,_⟩ | ⟨z,_⟩
  ·obtain ⟨v,o,ho',hd⟩:=I.cell x c z
   rw [upd_ne (lt _ _ ho')]
   exact I.freeC x c z
  ·rw [upd_ne (Nat.ne_of_gt (Nat.lt_trans hDC z))]
   exact I.hok.fresh (Nat.le_trans hC (Nat.le_of_lt z))
 ·obtain ⟨e,n,ne,nf,d⟩:=I.pin p hp
  refine ⟨k _ _ e,?_,Nat.ne_of_lt (Nat.lt_of_lt_of_le (Heap.lt_size e) hC),λz=>?_,d⟩
  ·rw [upd_ne (lt _ _ e)];exact n
  ·rcases List.mem_cons.mp (I.stkSub _ z) with q | q
   ·exact ne q
   ·exact nf q
 ·exact I.hok.laid k hD ⟨Nat.zero_le _,[],0,.nil,ho⟩
 ·have hm:=congrArg List.length B.map
  rw [List.length_map,List.length_map] at hm
  show (zgf own.length fv σ).length=(own++fvn).length
  unfold zgf
  rw [List.length_append,List.length_append,List.length_replicate,List.length_map,hm]
theorem zkJ {scope:Scope} {N':List Str} {cl:List (Str×Addr)} {C:Addr} {fp:List Addr} {σ':St} {H':Hp} {s':Shared} (I:Inv X pins σ H s) (hC:s.heap.objs.size≤C) (hf:∀ b∈fp,FpOk X pins H b)
  (J:Inv (zbq X N' scope cl C fp s H) pins σ' H' s'):Inv X pins σ H' s'∧FpOk X pins H' C:=by
 have I':Inv X pins σ H' s':=I.call' (ch:=fp) J.os J.base J.hok J.bare λb hb=>⟨(hf b hb).2.2.2.1,(hf b hb).2.1,(hf b hb).2.2.2.2.1,(hf b hb).2.2.2.2.2⟩
 refine ⟨I',J.free,Nat.ne_of_gt (Nat.lt_of_lt_of_le I.lt hC),I.nofs hC,.inr (Nat.le_trans I.sz hC),λx c e z=>?_,λp hp z=>?_⟩
 ·obtain ⟨v,q⟩:=I.cell x c e
  exact absurd (Nat.lt_of_lt_of_le q.lt (by rw [z];exact hC)) (Nat.lt_irrefl _)
 ·exact absurd (Nat.lt_of_lt_of_le (Heap.lt_size (I.pin p hp).1) (by rw [z];exact hC)) (Nat.lt_irrefl _)
end
section
variable {prog:Program} {w:World} {A:Around} {R:Result->Shared->Prop} {s:Shared}
theorem comp_loop {elt target iter:Expr} {ifs:List Expr} {scope:Scope} {pos:Pos} {it acc:Value} {env:Env} (I:Nat->Shared->Prop)
  (turn:∀ n s,I n s->wpAny (model prog w) A (pyNext it) (λr s₁=>match r with
   | none=>R (.ok .next) s₁
   | some v=>wpAny (model prog w) A (letOwnedTupleGo target it v) (λ_ s₁'=>wpAny (model prog w) A (assign target env v) (λ_ s₂ =>
     wpAny (model prog w) A (forIn ifs true λc r=>if r=true then do let ok ← isTrue c env (eval c env);pure (ForInStep.yield ok) else pure (ForInStep.yield r)) (λok s₃ =>
      if ok=true then wpAny (model prog w) A (eval elt env) (λx s₄ =>
       wpAny (model prog w) A (call (.builtin "list.append") [acc,x]) (λ_ s₅=>∃ m,m<n∧I m s₅) (λ_ _=>False) s₄) (λ_ _=>False) s₃
      else ∃ m,m<n∧I m s₃) (λ_ _=>False) s₂) (λ_ _=>False) s₁') (λ_ _=>False) s₁) (λ_ _=>False) s)
  (n:Nat) (h:I n s) :
  codeAny (model prog w) A (.compLoop (.ListComp elt [⟨target,iter,ifs,0⟩] scope pos) 0 it acc env) R s:=by
 refine codeAny_loop rfl I (λn s hI=>?_) n h
 show wpAny _ A ((compTurn (.ListComp elt [⟨target,iter,ifs,0⟩] scope pos) 0 it acc env).onRaise (λx=>do noteFrame x env;theTreesLotGoes x)) _ _ s
 refine wpAny_noted ?_
 rw [compTurn_list]
 refine wpAny_bind (wpAny_standAt (wpAny_bind (wpAny_mono (turn n s hI) (λr s₁ h₁=>?_) λ_ _ h'=>h'.elim)))
 cases r with
 | none=>exact wpAny_pure h₁
 | some v =>
  refine wpAny_bind (wpAny_mono h₁ (λ_ s₁' h₁'=>?_) λ_ _ h'=>h'.elim)
  refine wpAny_bind (wpAny_mono h₁' (λ_ s₂ h₂=>wpAny_bind (wpAny_mono h₂ (λok s₃ h₃=>?_) λ_ _ h'=>h'.elim)) λ_ _ h'=>h'.elim)
  cases ok with
  | false=>exact wpAny_pure ⟨rfl,h₃⟩
  | true =>
   exact wpAny_bind (wpAny_bind (wpAny_mono h₃ (λx s₄ h₄=>wpAny_bind (wpAny_mono h₄ (λ_ s₅ h₅=>wpAny_pure (wpAny_pure ⟨rfl,h₅⟩)) λ_ _ h'=>h'.elim)) λ_ _ h'=>h'.elim))
end
abbrev TTs:=St->Hp->(Bool->Hp->Prop)->Prop
def PTs (X:Cx) (ifs:List Expr) (t:TTs):Prop :=
 ∀ (pins:List (Addr×Obj)) (s:Shared) (σ:St) (H:Hp) (Q:Bool->Hp->Prop),Inv X pins σ H s->t σ H Q →
  wpAny (model X.prog X.w) X.A (forIn ifs true λc r=>if r=true then do let ok ← isTrue c X.env (eval c X.env);pure (ForInStep.yield ok) else pure (ForInStep.yield r)) (TP X pins σ Q) X.xe s
def tNoIf:TTs:=λ_ H Q=>Q true H
theorem zbm {X:Cx}:PTs X [] tNoIf:=λ_ _ _ H _ I h=>wpAny_tests_nil ⟨H,I,h⟩
theorem zhr {X:Cx} {c:Expr} {t:TT} (h:PT X c t):PTs X [c] t:=λpins s σ H Q I hw=>wpAny_tests_one (h pins s σ H Q I hw)
def zmd (own:Nat) (fv:List Nat) (wi:TI) (g:TG) (tt:TTs) (te:TE):TE:=λσ H Q=>wi σ H λJ H1=>∀ D,H1 D=none →
 ∃ W:Nat->Nat->List V->St->Hp->Prop,(∃ m,W 0 m [] (zgf own fv σ) (upd H1 D (.lst [])))∧∀ i m ys σb H,W i m ys σb H->H D=some (.lst ys) ∧
  ((J.stop i H∧Q (.ref D) H)∨(J.go i H∧∀ x H',J.yld i H x H'->g x σb H' λσ2 H2=>tt σ2 H2 λok H3=>if ok=true then te σ2 H3 λy H4=>H4 D=some (.lst ys)∧ys.length<sizeLine∧∃ m',m'<m∧W (i+1) m' (ys++[y]) σ2 (upd H4 D (.lst (ys++[y])))
   else ∃ m',m'<m∧W (i+1) m' ys σ2 H3))
section
variable {X:Cx} {tg iter elt:Expr} {ifs:List Expr} {scope:Scope} {pos:Pos} {wi:TI} {g:TG} {tt:TTs} {te:TE} {own fvn:List Str} {fv:List Nat}
theorem ziY {pins:List (Addr×Obj)} {σ:St} {s:Shared} {Q:VK} {E:Value->Shared->Prop} {cl:List (Str×Addr)} {RR:Value->Addr->Result->Shared->Prop} {itv:Value}
  (hc:X.calm=true) (B:BlkScope X scope own fvn fv) (h1:∀ x c,cl.lookup x=some c->X.env.cells.lookup x=some c) (h2:∀ x,(x,NameKind.free)∈scope.names->∃ c,cl.lookup x=some c)
  (hb:∀ (cl:List (Str×Addr)) (C:Addr) (fp:List Addr) (s:Shared) (H:Hp),PG (zbq X (own++fvn) scope cl C fp s H) tg g∧PTs (zbq X (own++fvn) scope cl C fp s H) ifs tt∧PE (zbq X (own++fvn) scope cl C fp s H) elt te)
  (P:PIE X pins σ tg (λJ H1=>∀ D,H1 D=none →
   ∃ W:Nat->Nat->List V->St->Hp->Prop,(∃ m,W 0 m [] (zgf own.length fv σ) (upd H1 D (.lst [])))∧∀ i m ys σb H,W i m ys σb H->H D=some (.lst ys) ∧
    ((J.stop i H∧Q (.ref D) H)∨(J.go i H∧∀ x H',J.yld i H x H'->g x σb H' λσ2 H2=>tt σ2 H2 λok H3=>if ok=true then te σ2 H3 λy H4=>H4 D=some (.lst ys)∧ys.length<sizeLine∧∃ m',m'<m∧W (i+1) m' (ys++[y]) σ2 (upd H4 D (.lst (ys++[y])))
     else ∃ m',m'<m∧W (i+1) m' ys σ2 H3))) itv s)
  (hRR:∀ D C s' H' m,Inv X pins σ H' s'->s'.heap.Ns C m->FpOk X pins H' C->Q (.ref D) H'->RR (.ref D) C (.ok .next) s') :
  wpAny (model X.prog X.w) X.A (newList []) (λacc s₃=>wpAny (model X.prog X.w) X.A (newFunctionEnv scope X.env.globals cl [] X.env.qual none .none (some X.env)) (λcenv s₄ =>
   codeAny (model X.prog X.w) X.A (.compStart (.ListComp elt [⟨tg,iter,ifs,0⟩] scope pos) 0 itv acc { cenv with scope:=relabel scope X.env }) (RR acc cenv.locals) s₄) E s₃) E s:=by
 obtain ⟨it,fp,tn,J,H2,rfl,I2,T,st2,f2,hW⟩:=P
 have hl:∀ b∈fp,b<s.heap.objs.size:=λb hb=>by
  obtain ⟨o,e,_⟩:=T.obj _ _ st2 b hb
  exact Heap.lt_size e
 refine wpAny_newObj_type (zdQ (λh₁ hns₁ hsb₁ hcl₁=>?_))
 dsimp only at hns₁ hsb₁ hcl₁ ⊢
 generalize hH2:s.heap.push { cls:=.type "list",dict:=none,data:=.seq ([]:List Value).toArray }=G2 at hns₁ hsb₁ hcl₁ ⊢
 have hC:G2.objs.size=s.heap.objs.size+1:=by rw [← hH2,Heap.size_push]
 have hDC:s.heap.objs.size<G2.objs.size:=by rw [hC];exact Nat.lt_succ_self _
 have hCle:s.heap.objs.size≤G2.objs.size:=by rw [hC];exact Nat.le_succ _
 have old:∀ b o,s.heap.get? b=some o->h₁.get? b=some o:=λb o e=>hsb₁ b o (hH2 ▸ Heap.get?_push_of_some _ e)
 have hacc:h₁.get? s.heap.objs.size=some { cls:=.type "list",data:=.seq #[] 0 }:=hsb₁ _ _ (hH2 ▸ Heap.get?_push_size _ rfl)
 have hbc:zmA X scope (cellsFrom (G2.objs.size+1) scope.names cl) G2.objs.size:=zpO B h1 h2 λx c e=>by
  obtain ⟨v,q⟩:=I2.cell x c e
  exact Nat.le_trans (Nat.le_of_lt q.lt) hCle
 have hnew:∀ x c,G2.objs.size<c->(cellsFrom (G2.objs.size+1) scope.names cl).lookup x=some c->h₁.IsCell c none:=λx c hc' e=>by
  rcases hbc.1 x c e with ⟨z,_⟩ | ⟨_,z⟩
  ·obtain ⟨v,q⟩:=I2.cell x c z
   exact absurd (Nat.lt_of_lt_of_le q.lt hCle) (Nat.not_lt.mpr (Nat.le_of_lt hc'))
  ·exact hcl₁ x c (PySem.mem_of_lookup z) e
 generalize cellsFrom (G2.objs.size+1) scope.names cl=cl' at hbc hnew ⊢
 clear h1 h2 hcl₁
 obtain ⟨W,⟨m0,w0⟩,turn⟩:=hW s.heap.objs.size (I2.hok.fresh (Nat.le_refl _))
 have J0:∀ t',Inv (zbq X (own++fvn) scope cl' G2.objs.size fp s H2) pins (zgf own.length fv σ) (upd H2 s.heap.objs.size (.lst [])) { s with heap:=h₁,toks:=t' }:=λt' =>
  ziE I2 B hc hbc hnew f2 hl (Nat.le_refl _) hCle hDC old hns₁ hacc
 obtain ⟨hpg,hpt,hpe⟩:=hb cl' G2.objs.size fp s H2
 have stat:∀ {H':Hp},(∀ b∈fp,H' b=none)->∀ b∈fp,FpOk (zbq X (own++fvn) scope cl' G2.objs.size fp s H2) pins H' b:=λhn b hb =>
  ⟨hn b hb,Nat.ne_of_lt (Nat.lt_of_lt_of_le (hl b hb) hCle),λz=>by
   rcases List.mem_cons.mp (I2.stkSub b z) with q | q
   ·exact (f2 b hb).2.1 q
   ·exact (f2 b hb).2.2.1 q,.inl hb,λx c e=>(by
    rcases hbc.1 x c e with ⟨z,_⟩ | ⟨z,_⟩
    ·exact (f2 b hb).2.2.2.2.1 x c z
    ·exact Nat.ne_of_gt (Nat.lt_trans (Nat.lt_of_lt_of_le (hl b hb) hCle) z)),(f2 b hb).2.2.2.2.2⟩
 have st1:tn 0 h₁:=T.keep _ _ _ st2 λb hb o e=>old b o e
 have fr1:∀ b∈fp,upd H2 s.heap.objs.size (.lst []) b=none:=λb hb=>by
  rw [upd_ne (Nat.ne_of_lt (hl b hb))];exact (f2 b hb).1
 have loop:∀ s₃:Shared,s₃={ s with heap:=h₁ } →
   codeAny (model X.prog X.w) X.A (.compLoop (.ListComp elt [⟨tg,iter,ifs,0⟩] scope pos) 0 (.ref it) (.ref s.heap.objs.size) (compEnvC scope cl' G2.objs.size X.env)) (RR (.ref s.heap.objs.size) G2.objs.size) s₃:=by
  rintro s₃ rfl
  refine comp_loop (λn s'=>∃ i ys σ' H',Inv (zbq X (own++fvn) scope cl' G2.objs.size fp s H2) pins σ' H' s'∧tn i s'.heap∧(∀ b∈fp,H' b=none)∧W i n ys σ' H') ?_ m0 ⟨0,[],_,_,J0 s.toks,st1,fr1,w0⟩
  rintro n s3 ⟨i,ys,σ3,H3,I3,st3,fr3,w3⟩
  obtain ⟨hD,w3⟩:=turn i n ys σ3 H3 w3
  rcases w3 with ⟨stop,qn⟩ | ⟨go,step⟩
  ·refine thn (T.done (zbq X (own++fvn) scope cl' G2.objs.size fp s H2) rfl rfl rfl rfl i pins s3 σ3 H3 _ I3 (stat fr3) st3 stop) λr s4 ⟨hr,I4⟩=>?_
   subst hr
   obtain ⟨I5,fC⟩:=zkJ I2 hCle f2 I4
   obtain ⟨m,hn,_⟩:=I4.loc
   exact hRR _ _ s4 H3 m I5 hn fC qn
  ·refine thn (T.item (zbq X (own++fvn) scope cl' G2.objs.size fp s H2) rfl rfl rfl rfl i pins s3 σ3 H3 _ I3 (stat fr3) st3 go) λr s4 ⟨u,hr,h4⟩=>?_
   subst hr
   refine thn h4 λ_ s5 ⟨x,H5,I5,r5,y5,st5,fr5⟩=>?_
   have I5':=I5.pinned (stat fr5) (T.obj _ _ st5)
   refine thn (hpg _ s5 σ3 H5 x u _ I5' r5 (step x H5 y5)) λ_ s6 ⟨σ6,H6,I6,q6⟩=>?_
   refine thn (hpt _ s6 σ6 H6 _ I6 q6) λok s7 ⟨H7,I7,q7⟩=>?_
   have again:∀ {s8:Shared} {σ8:St} {H8:Hp} {ys':List V} {m':Nat},Inv (zbq X (own++fvn) scope cl' G2.objs.size fp s H2) (pins++zhO fp s5.heap) σ8 H8 s8->m'<n->W (i+1) m' ys' σ8 H8 →
     ∃ m,m<n∧∃ i ys σ' H',Inv (zbq X (own++fvn) scope cl' G2.objs.size fp s H2) pins σ' H' s8∧tn i s8.heap∧(∀ b∈fp,H' b=none)∧W i m ys σ' H':=λ{s8 σ8 H8 ys' m'} I8 hm w8=>by
    refine ⟨m',hm,i+1,ys',σ8,H8,I8.unpinned,T.keep _ _ _ st5 λb hb o e=>(I8.pin (b,o) (List.mem_append_right _ (List.mem_append_right _ (zeE hb e)))).1,λb hb=>?_,w8⟩
    obtain ⟨o,e,d⟩:=T.obj _ _ st5 b hb
    exact (I8.pin (b,o) (List.mem_append_right _ (List.mem_append_right _ (zeE hb e)))).2.1
   cases ok with
   | false =>
    rw [if_neg Bool.false_ne_true] at q7 ⊢
    obtain ⟨m',hm,w8⟩:=q7
    exact again I7 hm w8
   | true =>
    rw [if_pos rfl] at q7 ⊢
    refine thn (hpe _ s7 σ6 H7 _ I7 q7) λyv s8 ⟨y,H8,I8,r8,hD8,hz8,m',hm,w8⟩=>?_
    refine thn (mt_append _ s8 σ6 H8 (.ref s.heap.objs.size) [y] _ [yv] (λ_ H9=>H9=upd H8 s.heap.objs.size (.lst (ys++[y]))) I8 rfl (.cons r8 .nil) ⟨_,ys,y,rfl,rfl,hD8,hz8,rfl⟩) λ_ s9 ⟨_,H9,I9,_,e9⟩=>?_
    subst e9
    exact again I9 hm w8
 exact codeAny_compStart_list (loop _ rfl) (T.self _ 0 _ _ _ st1 (loop _ rfl))
theorem zgo (B:BlkScope X scope own fvn fv) (ok:X.Ok):∃ cl,closureFor scope X.env=pure cl∧(∀ x c,cl.lookup x=some c->X.env.cells.lookup x=some c)∧∀ x,(x,NameKind.free)∈scope.names->∃ c,cl.lookup x=some c :=
 zjD λx hx hk=>ok.has x.1 (B.free x hx hk)
theorem zb9 (hc:X.calm=true) (B:BlkScope X scope own fvn fv) (hi:PI X tg iter wi)
  (hb:∀ (cl:List (Str×Addr)) (C:Addr) (fp:List Addr) (s:Shared) (H:Hp),PG (zbq X (own++fvn) scope cl C fp s H) tg g∧PTs (zbq X (own++fvn) scope cl C fp s H) ifs tt∧PE (zbq X (own++fvn) scope cl C fp s H) elt te)
  (hs:∀ x,foldedSetIterable iter X.env x=pure x:=by intro _;rfl):PE X (.ListComp elt [⟨tg,iter,ifs,0⟩] scope pos) (zmd own.length fv wi g tt te):=by
 intro pins s σ H Q I h
 obtain ⟨cl,hcl,h1,h2⟩:=zgo B I.ok
 rw [eval_ListComp]
 refine wpAny_comprehension_free (use:=none) rfl hs hcl B.kind B.names (thn (hi pins s σ H _ I h) λv s1 q1=>thn q1 λitv s2 q2=>?_)
 refine ziY (RR:=λacc C=>compPost (model X.prog X.w) X.A X.xe none (EP X pins σ Q) acc C) hc B h1 h2 hb q2 λD C s' H' m I' hn fC q=>?_
 exact ⟨m,hn,λh' hs'=>⟨.ref D,H',I'.turned (t':=s'.toks) (λb o hb e=>(hs'.2 b hb).trans e) fC.1 fC.2.1 fC.2.2.2.1 fC.2.2.2.2.1 fC.2.2.2.2.2,rfl,q⟩⟩
theorem zdV {i:Nat} {x:Str} {pos' spos:Pos} (hc:X.calm=true) (hN:X.N.Nodup) (hix:X.N[i]?=some x) (hx:X.env.scope.names.lookup x=some .local) (B:BlkScope X scope own fvn fv) (hi:PI X tg iter wi)
  (hb:∀ (cl:List (Str×Addr)) (C:Addr) (fp:List Addr) (s:Shared) (H:Hp),PG (zbq X (own++fvn) scope cl C fp s H) tg g∧PTs (zbq X (own++fvn) scope cl C fp s H) ifs tt∧PE (zbq X (own++fvn) scope cl C fp s H) elt te)
  (hsw:swapsWith (.ListComp elt [⟨tg,iter,ifs,0⟩] scope pos) (some (.Name x pos')) spos.line X.env=pure true:=by rfl)
  (hs:∀ x,foldedSetIterable iter X.env x=pure x:=by intro _;rfl) :
  PS X (.Assign [.Name x pos'] (.ListComp elt [⟨tg,iter,ifs,0⟩] scope pos) spos) (zkt (zmd own.length fv wi g tt te) (zd7 i)):=by
 intro pins s σ H D I h
 obtain ⟨cl,hcl,h1,h2⟩:=zgo B I.ok
 rw [exec_Assign_Name_used _ _ _ _ hsw]
 refine wpAny_bind (wpAny_standAt (wpAny_bind ?_))
 show wpAny _ _ (do let _ ← comprehension (.ListComp elt [⟨tg,iter,ifs,0⟩] scope pos) scope X.env _ (newList []) false (eval iter X.env) (some (assign (.Name x pos') X.env))) _ _ s
 refine wpAny_bind (wpAny_mono (wpAny_comprehension_free (use:=some (assign (.Name x pos') X.env)) (Q:=λ_ s'=>SP X pins D .next s') rfl hs hcl B.kind B.names
  (thn (hi pins s σ H _ I h) λv s1 q1=>thn q1 λitv s2 q2=>?_)) (λ_ s' hq=>wpAny_pure (wpAny_pure hq)) λ_ _ e=>e)
 refine ziY (Q:=λv H1=>zd7 i v σ H1 D.nx) (RR:=λacc C=>compPost (model X.prog X.w) X.A X.xe (some (assign (.Name x pos') X.env)) (λ_ s'=>SP X pins D .next s') acc C) hc B h1 h2 hb q2 λDa C s' H' m I' hn fC q=>?_
 show wpAny _ _ (assign (.Name x pos') X.env (.ref Da)) _ _ _
 refine wpAny_assign_Name (zhI I' hN hix (.inl hx) (v:=.ref Da) rfl (λs'' I'' ⟨a,hsb,ha⟩=>?_) (.inr hx))
 have hCa:C≠a:=by
  rcases ha with z | z
  ·rw [z];exact fC.2.1
  ·exact Ne.symm (fC.2.2.2.2.1 x a z)
 refine ⟨m,hn.sameBut hsb hCa,λh'' hs''=>⟨_,H',I''.turned (t':=s''.toks) (λb o hb e=>(hs''.2 b hb).trans e) fC.1 fC.2.1 fC.2.2.2.1 fC.2.2.2.2.1 fC.2.2.2.2.2,q⟩⟩
end
end L2
namespace L2
open PySem PySem.Spec PyProof.Rows
section
variable {X:Cx} {pins:List (Addr×Obj)} {σ:St} {H:Hp} {s:Shared} {h':Heap}
theorem Inv.turnedNew {t':Nat} {ch:List Addr} {T:Addr} {o:HO} (I:Inv X pins σ H s) (hf:∀ b∈ch,FpOk X pins H b) (k:∀ b u,b ∉ ch->s.heap.get? b=some u->h'.get? b=some u) (hT:s.heap.objs.size≤T)
  (new:zcX X.prog X.w (upd H T o) h' T o):Inv X pins σ (upd H T o) { s with heap:=h',toks:=t' }:=by
 have hn:H T=none:=I.hok.fresh hT
 have lt:∀ b u,s.heap.get? b=some u->b≠T:=λb u e=>Nat.ne_of_lt (Nat.lt_of_lt_of_le (Heap.lt_size e) hT)
 refine I.step (g':=s.gens) (d':=s.drawn) (ch:=ch) (λb hb=>⟨(hf b hb).2.2.2.1,(hf b hb).2.1,(hf b hb).2.2.2.2.1,(hf b hb).2.2.2.2.2⟩) (λb u _ _ hc e _=>k b u hc e) (λb u _ _ hc e _=>⟨u.slots,k b u hc e⟩)
  (λb u _ e n=>by rw [upd_ne (lt b u e)];exact n) (λb u hc e=>⟨u,k b u hc e⟩) (λb xs e=>by rw [upd_ne (ne_of_none e hn)];exact e) (λb u xs e=>by rw [upd_ne (ne_of_none e hn)];exact e)
  (λb ps e=>⟨#[],by rw [upd_ne (ne_of_none e hn),e];simp⟩) (λm hm=>?_) (λb u e=>?_) I.bare
 ·obtain ⟨o,es,ep,ho,r⟩:=hm
  exact ⟨o,es,ep,k _ o (λz=>(hf _ z).2.1 rfl) ho,r⟩
 ·by_cases hb:b=T
  ·subst hb;rw [upd_same] at e;cases e;exact new
  ·rw [upd_ne hb] at e
   refine (I.hok b u e).stay (λc v hc q=>k c v (λz=>?_) q) (λc q=>by rw [upd_ne (ne_of_none q hn)];exact q) λc xs q=>by rw [upd_ne (ne_of_none q hn)];exact q
   have z':=(hf c z).1
   rcases hc with hc | hc
   ·rw [hc,e] at z';cases z'
   ·rw [hc] at z';cases z'
theorem Inv.turnedL {t':Nat} {ch:List Addr} (I:Inv X pins σ H s) (hf:∀ b∈ch,FpOk X pins H b) (k:∀ b u,b ∉ ch->s.heap.get? b=some u->h'.get? b=some u):Inv X pins σ H { s with heap:=h',toks:=t' }:=by
 refine I.step (g':=s.gens) (d':=s.drawn) (ch:=ch) (λb hb=>⟨(hf b hb).2.2.2.1,(hf b hb).2.1,(hf b hb).2.2.2.2.1,(hf b hb).2.2.2.2.2⟩) (λb u _ _ hc e _=>k b u hc e) (λb u _ _ hc e _=>⟨u.slots,k b u hc e⟩)
  (λb u _ e n=>n) (λb u hc e=>⟨u,k b u hc e⟩) (λb xs e=>e) (λb u xs e=>e) (λb ps e=>⟨#[],by rw [e];simp⟩) (λm hm=>?_) (λb u e=>?_) I.bare
 ·obtain ⟨o,es,ep,ho,r⟩:=hm
  exact ⟨o,es,ep,k _ o (λz=>(hf _ z).2.1 rfl) ho,r⟩
 ·refine (I.hok b u e).stay (λc v hc q=>k c v (λz=>?_) q) (λc q=>q) λc xs q=>q
  have z':=(hf c z).1
  rcases hc with hc | hc
  ·rw [hc,e] at z';cases z'
  ·rw [hc] at z';cases z'
end
def Itz (K:W.Frag) (a b:Addr):It :=
 ⟨λi H=>∃ xs ys x y,SqL K H a xs∧SqL K H b ys∧xs[i]?=some x∧ys[i]?=some y,
  λi H v H'=>∃ p x y,v=.ref p∧H p=none∧H'=upd H p (.tup [x,y])∧∀ xs ys,SqL K H a xs->SqL K H b ys->xs[i]?=some x∧ys[i]?=some y,
  λi H=>∃ xs ys,SqL K H a xs∧SqL K H b ys∧(xs.length≤i∨ys.length≤i)⟩
theorem zms {P:Program} {w:World} {K:W.Frag} {elts:List Expr} {x1:Nat} {tp:Pos} {a b z TI TO i1 i2:Addr} (D:ZipApart z TI TO i1 i2 a b) :
  Turn P w K (.Tuple elts x1 tp) (Itz K a b) [z,TI,TO,i1,i2] z
   (λi h=>IsZip h z TI TO .none∧IsPair h TI (.ref i1) (.ref i2)∧(∃ p q,IsPair h TO p q)∧h.IsListIter i1 a i∧h.IsListIter i2 b i) where
 mem:=by simp
 obj:=λi h st c hc=>by
  obtain ⟨hz,hTI,⟨p,q,hTO⟩,⟨o1,e1,_,d1⟩,⟨o2,e2,_,d2⟩⟩:=st
  simp only [List.mem_cons,List.not_mem_nil,or_false] at hc
  rcases hc with rfl | rfl | rfl | rfl | rfl
  ·exact ⟨_,hz,λv z=>by cases z⟩
  ·exact ⟨_,hTI,λv z=>by cases z⟩
  ·exact ⟨_,hTO,λv z=>by cases z⟩
  ·exact ⟨o1,e1,λv z=>by rw [d1] at z;cases z⟩
  ·exact ⟨o2,e2,λv z=>by rw [d2] at z;cases z⟩
 keep:=λi h h' st k=>by
  obtain ⟨hz,hTI,⟨p,q,hTO⟩,h1,h2⟩:=st
  exact ⟨k z (by simp) _ hz,k TI (by simp) _ hTI,⟨p,q,k TO (by simp) _ hTO⟩,h1.at λo e=>k i1 (by simp) o e,h2.at λo e=>k i2 (by simp) o e⟩
 item:=by
  intro X hP hw hK hc i pins s σ H E I hf st hg
  subst hP hw hK
  obtain ⟨xs,ys,x,y,hxs,hys,hx,hy⟩:=hg
  obtain ⟨itx,rx,px,hzx⟩:=I.list hxs
  obtain ⟨ity,ry,py,hzy⟩:=I.list hys
  obtain ⟨u,hu,ru⟩:=rx.get hx
  obtain ⟨v,hv,rv⟩:=ry.get hy
  obtain ⟨hz,hTI,⟨p,q,hTO⟩,h1,h2⟩:=st
  refine wpAny_pyNext_zip_item (x:=u) (y:=v) D hz hTI hTO h1 h2 px.isList py.isList (by simpa using hu) (by simpa using hv) λh' a1 a2 a3 a4 a5 a6 hk=>?_
  refine ⟨_,rfl,wpAny_letOwnedTupleGo_zip a1 λh'' b1 b2=>?_⟩
  have zlt:z<s.heap.objs.size:=Heap.lt_size hz
  have lt:∀ c∈[z,TI,TO,i1,i2],c<s.heap.objs.size:=λc hc=>by
   simp only [List.mem_cons,List.not_mem_nil,or_false] at hc
   rcases hc with rfl | rfl | rfl | rfl | rfl
   ·exact zlt
   ·exact Heap.lt_size hTI
   ·exact Heap.lt_size hTO
   ·obtain ⟨_,e,_⟩:=h1;exact Heap.lt_size e
   ·obtain ⟨_,e,_⟩:=h2;exact Heap.lt_size e
  have tup:IsPair h'' s.heap.objs.size u v:=b2.extBut _ _ (Nat.ne_of_gt zlt) a5
  have I1:Inv X pins σ (upd H s.heap.objs.size (.tup [x,y])) { s with heap:=h'' }:=by
   refine I.turnedNew (t':=s.toks) (ch:=[z,TO,i1,i2]) (λc hc=>hf c ?_) (λc ob hc e=>?_) (Nat.le_refl _) ?_
   ·simp only [List.mem_cons,List.not_mem_nil,or_false] at hc ⊢
    rcases hc with z | z | z | z<;>simp [z]
   ·simp only [List.mem_cons,List.not_mem_nil,or_false,not_or] at hc
    exact b2.extBut _ _ hc.1 (hk c ob hc.1 hc.2.1 hc.2.2.1 hc.2.2.2 e)
   ·exact ⟨by show 2≤sizeLine;decide,[u,v],.cons ru (.cons rv .nil),⟨_,tup,rfl,_,rfl⟩⟩
  refine ⟨.ref s.heap.objs.size,_,I1,rfl,⟨_,x,y,rfl,I.hok.fresh (Nat.le_refl _),rfl,λxs' ys' q1 q2=>?_⟩,⟨b1,?_,⟨_,_,b2.extBut _ _ D.TOz a2⟩,a3.extBut b2.extBut D.i1z,a4.extBut b2.extBut D.i2z⟩,λc hc=>?_⟩
  ·rw [I.list_inj q1 hxs,I.list_inj q2 hys];exact ⟨hx,hy⟩
  ·exact b2.extBut _ _ D.TIz (hk _ _ D.TIz D.TITO D.TIi1 D.TIi2 hTI)
  ·rw [upd_ne (Nat.ne_of_lt (lt c hc))];exact (hf c hc).1
 done:=by
  intro X hP hw hK hc i pins s σ H E I hf st hg
  subst hP hw hK
  obtain ⟨xs,ys,hxs,hys,hend⟩:=hg
  obtain ⟨itx,rx,px,hzx⟩:=I.list hxs
  obtain ⟨ity,ry,py,hzy⟩:=I.list hys
  obtain ⟨hz,hTI,⟨p,q,hTO⟩,h1,h2⟩:=st
  have lx:=rx.length
  have ly:=ry.length
  refine wpAny_pyNext_zip_end (I.ok.hd hc) D hz hTI hTO h1 h2 px.isList py.isList ?_ λh' hk=>⟨rfl,?_⟩
  ·rcases hend with e | e
   ·exact .inl (by simp;omega)
   ·exact .inr (by simp;omega)
  ·refine I.turnedL (t':=s.toks) (ch:=[z,TO,i1,i2]) (λc hc=>hf c ?_) (λc ob hc e=>?_)
   ·simp only [List.mem_cons,List.not_mem_nil,or_false] at hc ⊢
    rcases hc with z | z | z | z<;>simp [z]
   ·simp only [List.mem_cons,List.not_mem_nil,or_false,not_or] at hc
    exact hk c ob hc.1 hc.2.1 hc.2.2.1 hc.2.2.2 e
 self:=λ_ _ _ _ _ st h=>wpAny_pyIter_zip st.1 h
section
variable {X:Cx}
def zrd (K:W.Frag) (ta:TA):TI:=λσ H R=>ta σ H λvs H1=>∃ a b,vs=[.ref a,.ref b]∧(∃ xs,SqL K H1 a xs)∧(∃ ys,SqL K H1 b ys)∧R (Itz K a b) H1
theorem zpv {a b:Expr} {ta:TA} {p pos tp:Pos} {elts:List Expr} {x1:Nat} (hg:Gl X "zip") (hm:X.mg "zip"=none) (ha:PA X [a,b] ta) (hs:starEach [a,b] X.env=[(false,eval a X.env),(false,eval b X.env)]:=by rfl) (hs2:starEach [b] X.env=[(false,eval b X.env)]:=by rfl) :
  PI X (.Tuple elts x1 tp) (.Call (.Name "zip" p) [a,b] [] pos) (zrd X.K ta):=by
 intro pins s σ H R I h
 refine Call_ (ld_blt I hg hm boot_zip (PyProof.Rows.callWith_type1 (thn (ha pos pins s σ H _ I h) λus s1 ⟨vs,H1,I1,r1,q1⟩=>?_) (by rw [hs,hs2]) (by rw [hs2];rfl)))
 obtain ⟨l1,l2,e,⟨xs,hx⟩,⟨ys,hy⟩,q⟩:=q1
 subst e
 cases r1 with
 | cons r rr =>
  cases rr with
  | cons r' rr =>
   cases rr
   cases r
   cases r'
   obtain ⟨itx,rx,px,hzx⟩:=I1.list hx
   obtain ⟨ity,ry,py,hzy⟩:=I1.list hy
   have lt1:@LT.lt Nat _ l1 s1.heap.objs.size:=by obtain ⟨o,e,_⟩:=px.isList;exact Heap.lt_size e
   have lt2:@LT.lt Nat _ l2 s1.heap.objs.size:=by obtain ⟨o,e,_⟩:=py.isList;exact Heap.lt_size e
   refine call_zip_2 px.isList py.isList λh' hz hTI hTO h1 h2 hsz hk=>?_
   refine wpAny_pyIter_zip hz ?_
   have D:ZipApart (s1.heap.objs.size+4) (s1.heap.objs.size+2) (s1.heap.objs.size+3) s1.heap.objs.size (s1.heap.objs.size+1) l1 l2:=by
    constructor<;>(show @Ne Nat _ _;omega)
   refine ⟨s1.heap.objs.size+4,[s1.heap.objs.size+4,s1.heap.objs.size+2,s1.heap.objs.size+3,s1.heap.objs.size,s1.heap.objs.size+1],_,Itz X.K l1 l2,H1,rfl,I1.kept (t':=s1.toks) hk,zms D,⟨hz,hTI,⟨_,_,hTO⟩,h1,h2⟩,λc hc=>?_,q⟩
   have hle:@LE.le Nat _ s1.heap.objs.size c:=by
    simp only [List.mem_cons,List.not_mem_nil,or_false] at hc
    rcases hc with rfl | rfl | rfl | rfl | rfl<;>omega
   exact I1.fpOk hle (I1.hok.fresh hle)
end
theorem preSum_list:∀ (ns:List Int) (k:Nat),k≤ns.length->preSum (λi=>(ns[i]?).getD 0) k=(ns.take k).sum
 | _,0,_=>by simp [preSum]
 | ns,k+1,h=>by
  have ih:=preSum_list ns k (by omega)
  have hk:k<ns.length:=by omega
  have e1:preSum (λi=>(ns[i]?).getD 0) (k+1)=preSum (λi=>(ns[i]?).getD 0) k+(ns[k]?).getD 0:=rfl
  have e2:ns.take (k+1)=ns.take k++[ns[k]]:=by rw [List.take_add_one,List.getElem?_eq_getElem hk];rfl
  rw [e1,ih,e2,List.sum_append,List.getElem?_eq_getElem hk]
  simp
section
variable {X:Cx}
theorem zkU (hc:X.calm=true):ze3 X (.builtin "sum") (λxs H Q=>∃ (a:Addr) (ns:List Int),xs=[.ref a]∧SqL X.K H a (ns.map V.int)∧Q (.int ns.sum) H):=by
 intro pins s σ H xs us Q I r h
 obtain ⟨a,ns,rfl,hq,q⟩:=h
 obtain ⟨u,rfl,rx⟩:=zlr r
 cases rx
 obtain ⟨its,rv,p,hz⟩:=I.list hq
 have hl:=rv.length
 rw [List.length_map] at hl
 have alt:a<s.heap.objs.size:=by obtain ⟨o,e,_⟩:=p.isList;exact Heap.lt_size e
 have hl1:(s.heap.push { cls:=.type "list_iterator",data:=.fields #[.ref a,.int 0 0] }).IsList a its.toArray:=Heap.IsList.push p.isList _
 refine call_sum_walkG (wpAny_pyIter_list p.isList ?_)
 refine ⟨s.heap.objs.size,[s.heap.objs.size,a],[s.heap.objs.size],its.toArray.size,_,_,λi=>(ns[i]?).getD 0,rfl,Walks.list (A:=X.A.in1) (I.ok.hd hc) s.heap.objs.size a (Nat.ne_of_lt alt) its.toArray,⟨⟨_,Heap.get?_push_size _ rfl,rfl,rfl⟩,hl1⟩,λb hb=>?_,λi v hv=>?_,λh' tk t' hk=>?_⟩
 ·show b<(s.heap.push _).objs.size
  rw [Heap.size_push]
  simp only [List.mem_cons,List.not_mem_nil,or_false] at hb
  rcases hb with rfl | rfl
  ·exact Nat.lt_succ_self _
  ·exact Nat.lt_succ_of_lt alt
 ·have hv':its[i]?=some v:=by simpa using hv
  have hi:i<its.length:=(List.getElem?_eq_some_iff.mp hv').1
  obtain ⟨u,hu,ru⟩:=rv.get (i:=i) (x:=.int (ns[i]'(by omega))) (by rw [List.getElem?_map,List.getElem?_eq_getElem (by omega)];rfl)
  rw [hv'] at hu
  cases hu
  obtain ⟨t,rfl⟩:=ru
  have e:(ns[i]?).getD 0=ns[i]'(by omega):=by rw [List.getElem?_eq_getElem (show i<ns.length by omega)];rfl
  exact ⟨t,congrArg (λz=>Value.int z t) e.symm⟩
 ·have e:preSum (λi=>(ns[i]?).getD 0) its.toArray.size=ns.sum:=by
   rw [List.size_toArray,← hl,preSum_list ns _ (Nat.le_refl _),List.take_length]
  rw [e]
  exact ⟨.int ns.sum,H,I.kept (h':=h') (t':=tk) λb o e=>hk b o (by simp only [List.mem_singleton];exact Nat.ne_of_lt (Heap.lt_size e)) (Heap.get?_push_of_some _ e),⟨t',rfl⟩,q⟩
def zqr (K:W.Frag):List V->Hp->VK->Prop:=λxs H Q=>∃ x t b,((∃ n,xs=[x,.ty n]∧W.kitOne K t (.type n)=some b)∨(∃ C,xs=[x,.ref C]∧W.kitOne K t (.ref C)=some b))∧TyOf K H x t∧Q (.bl b) H
theorem zlR:ze3 X (.builtin "isinstance") (zqr X.K):=by
 intro pins s σ H xs us Q I r h
 obtain ⟨x,t,b,hx,ty,q⟩:=h
 rcases hx with ⟨n,rfl,e⟩ | ⟨C,rfl,e⟩
 ·obtain ⟨u,w',rfl,rx,ry⟩:=zol r
  cases ry
  exact isinst_ok I rx ty e λtk=>⟨.bl b,H,I.tok _,rfl,q⟩
 ·obtain ⟨u,w',rfl,rx,ry⟩:=zol r
  cases ry
  exact isinst_ok I rx ty e λtk=>⟨.bl b,H,I.tok _,rfl,q⟩
end
inductive EqV (K:W.Frag) (H:Hp):Nat->V->V->Bool->Prop where
 | flat {n:Nat} {x y:V} (fx:zlK x=true) (fy:zlK y=true):EqV K H n x y (eqV x y)
 | same {n:Nat} {a:Addr}:EqV K H n (.ref a) (.ref a) true
 | lists {n:Nat} {a b:Addr} {xs ys:List V} {e:Nat->Bool} (ne:a≠b) (ha:SqL K H a xs) (hb:SqL K H b ys) (hl:xs.length=ys.length)
   (he:∀ (j:Nat) (x y:V),xs[j]?=some x->ys[j]?=some y->EqV K H n x y (e j)):EqV K H (n+1) (.ref a) (.ref b) ((List.range xs.length).all e)
 | lens {n:Nat} {a b:Addr} {xs ys:List V} (ne:a≠b) (ha:SqL K H a xs) (hb:SqL K H b ys) (hl:xs.length≠ys.length):EqV K H (n+1) (.ref a) (.ref b) false
theorem EqV.at {X:Cx} {pins:List (Addr×Obj)} {σ:St} {H:Hp} {s:Shared} (I:Inv X pins σ H s) {n:Nat} {x y:V} {k:Bool} (h:EqV X.K H n x y k) :
  ∀ {A:Around} {u v:Value},RelV x u->RelV y v->A.units+n<cLine->SeqAt.EqAt A s u v k:=by
 induction h with
 | flat fx fy=>intro A u v rx ry _;exact eqAt_V rx ry fx fy
 | same=>intro A u v rx ry _;cases rx;cases ry;exact SeqAt.EqAt.same _
 | @lists n a b xs ys e ne ha hb hl he ih =>
  intro A u v rx ry hu
  cases rx
  cases ry
  obtain ⟨ita,ra,pa,za⟩:=I.list ha
  obtain ⟨itb,rb,pb,zb⟩:=I.list hb
  have la:=ra.length
  have lb:=rb.length
  have q:=SeqAt.RcAt.lists (A:=A) (e:=e) pa.isList pb.isList (by simp;omega) (by omega) λj h1 h2=>?_
  ·rw [List.size_toArray,← la] at q
   exact SeqAt.EqAt.of_refs ne q
  ·have h1':j<ita.length:=by simpa using h1
   have h2':j<itb.length:=by simpa using h2
   obtain ⟨u',hu',ru⟩:=ra.get (i:=j) (x:=xs[j]'(by omega)) (List.getElem?_eq_getElem (by omega))
   obtain ⟨v',hv',rv⟩:=rb.get (i:=j) (x:=ys[j]'(by omega)) (List.getElem?_eq_getElem (by omega))
   have eu:ita.toArray[j]=u':=by
    rw [List.getElem?_eq_getElem h1'] at hu'
    simpa using hu'
   have ev:itb.toArray[j]=v':=by
    rw [List.getElem?_eq_getElem h2'] at hv'
    simpa using hv'
   rw [eu,ev]
   exact ih j _ _ (List.getElem?_eq_getElem (by omega)) (List.getElem?_eq_getElem (by omega)) ru rv (by show A.units+1+n<cLine;omega)
 | @lens n a b xs ys ne ha hb hl =>
  intro A u v rx ry hu
  cases rx
  cases ry
  obtain ⟨ita,ra,pa,za⟩:=I.list ha
  obtain ⟨itb,rb,pb,zb⟩:=I.list hb
  have la:=ra.length
  have lb:=rb.length
  exact SeqAt.EqAt.of_refs ne (SeqAt.RcAt.lists_lengths pa.isList pb.isList (by simp;omega) (by omega))
def rEqL (K:W.Frag) (neg:Bool):R2:=λx y H Q=>∃ a b n xs ys,x=.ref a∧y=.ref b∧SqL K H a xs∧SqL K H b ys∧n≤50 ∧
 ((xs.length≠ys.length∧Q (.bl neg) H)∨∃ e:Nat->Bool,xs.length=ys.length∧(∀ (j:Nat) (x y:V),xs[j]?=some x->ys[j]?=some y->EqV K H n x y (e j))∧Q (.bl (if neg then !(List.range xs.length).all e else (List.range xs.length).all e)) H)
section
variable {X:Cx}
theorem zhS {pins:List (Addr×Obj)} {σ:St} {H:Hp} {s:Shared} (I:Inv X pins σ H s) {n:Nat} {xs ys:List V} {ita itb:List Value} {e:Nat->Bool} (ra:Vals xs ita) (rb:Vals ys itb) (he:∀ (j:Nat) (x y:V),xs[j]?=some x->ys[j]?=some y->EqV X.K H n x y (e j))
  {A:Around} (hu:A.units+1+n<cLine):∀ j (h1:j<ita.toArray.size) (h2:j<itb.toArray.size),SeqAt.EqAt A.in1 s ita.toArray[j] itb.toArray[j] (e j):=λj h1 h2=>by
 have la:=ra.length
 have lb:=rb.length
 have h1':j<ita.length:=by simpa using h1
 have h2':j<itb.length:=by simpa using h2
 obtain ⟨u',hu',ru⟩:=ra.get (i:=j) (x:=xs[j]'(by omega)) (List.getElem?_eq_getElem (by omega))
 obtain ⟨v',hv',rv⟩:=rb.get (i:=j) (x:=ys[j]'(by omega)) (List.getElem?_eq_getElem (by omega))
 have eu:ita.toArray[j]=u':=by
  rw [List.getElem?_eq_getElem h1'] at hu'
  simpa using hu'
 have ev:itb.toArray[j]=v':=by
  rw [List.getElem?_eq_getElem h2'] at hv'
  simpa using hv'
 rw [eu,ev]
 exact (he j _ _ (List.getElem?_eq_getElem (by omega)) (List.getElem?_eq_getElem (by omega))).at I ru rv hu
theorem zpB (hu:X.A.units+64<cLine):OpR X (compareOp .Eq) (rEqL X.K false):=by
 intro pins s σ H x y v u Q I rx ry h
 obtain ⟨a,b,n,xs,ys,rfl,rfl,ha,hb,hn,h⟩:=h
 cases rx
 cases ry
 obtain ⟨ita,ra,pa,za⟩:=I.list ha
 obtain ⟨itb,rb,pb,zb⟩:=I.list hb
 have la:=ra.length
 have lb:=rb.length
 rcases h with ⟨hl,q⟩ | ⟨e,hl,he,q⟩
 ·exact SeqAt.eq_list_lengthsAt pa.isList pb.isList (by simp;omega) (by omega) ⟨.bl false,H,I,rfl,q⟩
 ·refine SeqAt.eq_listAt (e:=e) pa.isList pb.isList (by simp;omega) (by omega) (zhS I ra rb he (by omega)) ?_
  rw [List.size_toArray,← la]
  exact ⟨.bl _,H,I,rfl,q⟩
theorem zpy (hu:X.A.units+64<cLine):OpR X (compareOp .NotEq) (rEqL X.K true):=by
 intro pins s σ H x y v u Q I rx ry h
 obtain ⟨a,b,n,xs,ys,rfl,rfl,ha,hb,hn,h⟩:=h
 cases rx
 cases ry
 obtain ⟨ita,ra,pa,za⟩:=I.list ha
 obtain ⟨itb,rb,pb,zb⟩:=I.list hb
 have la:=ra.length
 have lb:=rb.length
 rcases h with ⟨hl,q⟩ | ⟨e,hl,he,q⟩
 ·exact SeqAt.RcNeAt.lists_lengths pa.isList pb.isList (by simp;omega) (by omega) _ _ _ _ ⟨.bl true,H,I,rfl,q⟩
 ·refine SeqAt.RcNeAt.lists (e:=e) pa.isList pb.isList (by simp;omega) (by omega) (zhS I ra rb he (by omega)) _ _ _ _ ?_
  rw [List.size_toArray,← la]
  exact ⟨.bl _,H,I,rfl,q⟩
end
theorem all_eq {α:Type} [DecidableEq α] {xs ys:List α} (h:xs.length=ys.length):(List.range xs.length).all (λj=>decide (xs[j]?=ys[j]?))=decide (xs=ys):=by
 rw [Bool.eq_iff_iff,List.all_eq_true,decide_eq_true_iff]
 constructor
 ·intro z
  refine List.ext_getElem? λi=>?_
  by_cases hi:i<xs.length
  ·exact of_decide_eq_true (z i (List.mem_range.mpr hi))
  ·rw [List.getElem?_eq_none (by omega),List.getElem?_eq_none (by omega)]
 ·rintro rfl i _
  exact decide_eq_true rfl
theorem rEqL.ints {K:W.Frag} {neg:Bool} {H:Hp} {Q:VK} {a b:Addr} {ns ms:List Int} (ha:SqL K H a (ns.map V.int)) (hb:SqL K H b (ms.map V.int)) (q:Q (.bl (if neg then !decide (ns=ms) else decide (ns=ms))) H) :
  rEqL K neg (.ref a) (.ref b) H Q:=by
 refine ⟨a,b,0,_,_,rfl,rfl,ha,hb,by omega,?_⟩
 by_cases hl:ns.length=ms.length
 ·refine .inr ⟨λj=>decide (ns[j]?=ms[j]?),by simp [hl],λj x y hx hy=>?_,?_⟩
  ·rw [List.getElem?_map] at hx hy
   cases e1:ns[j]? with
   | none=>rw [e1] at hx;cases hx
   | some i =>
    cases e2:ms[j]? with
    | none=>rw [e2] at hy;cases hy
    | some k =>
     rw [e1] at hx
     rw [e2] at hy
     cases hx
     cases hy
     have q:=EqV.flat (K:=K) (H:=H) (n:=0) (x:=.int i) (y:=.int k) rfl rfl
     have e:eqV (.int i) (.int k)=decide (some i=some k):=by
      show (i == k)=_
      rw [Bool.beq_eq_decide_eq]
      simp
     rw [e] at q
     show EqV K H 0 (V.int i) (V.int k) (decide (ns[j]?=ms[j]?))
     rw [e1,e2]
     exact q
  ·rw [List.length_map,all_eq hl]
   exact q
 ·refine .inl ⟨by simpa using hl,?_⟩
  have e:decide (ns=ms)=false:=decide_eq_false (λz=>hl (by rw [z]))
  rw [e] at q
  cases neg<;>exact q
def Rows (K:W.Frag) (H:Hp) (a:Addr) (xss:List (List Int)):Prop :=
 ∃ as:List Addr,SqL K H a (as.map V.ref)∧as.length=xss.length∧∀ (j:Nat) (p:Addr) (ns:List Int),as[j]?=some p->xss[j]?=some ns->H p=some (.lst (ns.map V.int))
theorem zim {ns ms:List Int} (h:ns.map V.int=ms.map V.int):ns=ms:=by
 induction ns generalizing ms with
 | nil=>cases ms with
  | nil=>rfl
  | cons _ _=>cases h
 | cons x r ih=>cases ms with
  | nil=>cases h
  | cons y s =>
   injection h with h1 h2
   injection h1 with h1
   rw [h1,ih h2]
theorem EqV.ints {K:W.Frag} {H:Hp} {n:Nat} {a b:Addr} {ns ms:List Int} (ha:H a=some (.lst (ns.map V.int))) (hb:H b=some (.lst (ms.map V.int))):EqV K H (n+1) (.ref a) (.ref b) (decide (ns=ms)):=by
 by_cases hab:a=b
 ·subst hab
  rw [ha] at hb
  have e:ns=ms:=zim (by injection hb with hb;injection hb)
  rw [decide_eq_true e]
  exact .same
 ·by_cases hl:ns.length=ms.length
  ·have q:=EqV.lists (K:=K) (H:=H) (n:=n) (e:=λj=>decide (ns[j]?=ms[j]?)) hab (SqL.of ha) (SqL.of hb) (by simp [hl]) λj x y hx hy=>?_
   ·rw [List.length_map,all_eq hl] at q
    exact q
   ·rw [List.getElem?_map] at hx hy
    cases e1:ns[j]? with
    | none=>rw [e1] at hx;cases hx
    | some i =>
     cases e2:ms[j]? with
     | none=>rw [e2] at hy;cases hy
     | some k =>
      rw [e1] at hx
      rw [e2] at hy
      cases hx
      cases hy
      have q:=EqV.flat (K:=K) (H:=H) (n:=n) (x:=.int i) (y:=.int k) rfl rfl
      have e:eqV (.int i) (.int k)=decide (some i=some k):=by
       show (i == k)=_
       rw [Bool.beq_eq_decide_eq]
       simp
      rw [e] at q
      exact q
  ·rw [decide_eq_false (λz=>hl (by rw [z]))]
   exact .lens hab (SqL.of ha) (SqL.of hb) (by simpa using hl)
theorem rEqL.rows {K:W.Frag} {neg:Bool} {H:Hp} {Q:VK} {a b:Addr} {xss yss:List (List Int)} (ha:Rows K H a xss) (hb:Rows K H b yss) (q:Q (.bl (if neg then !decide (xss=yss) else decide (xss=yss))) H) :
  rEqL K neg (.ref a) (.ref b) H Q:=by
 obtain ⟨as,hsa,hla,hra⟩:=ha
 obtain ⟨bs,hsb,hlb,hrb⟩:=hb
 refine ⟨a,b,1,_,_,rfl,rfl,hsa,hsb,by omega,?_⟩
 by_cases hl:xss.length=yss.length
 ·refine .inr ⟨λj=>decide (xss[j]?=yss[j]?),by simp;omega,λj x y hx hy=>?_,?_⟩
  ·rw [List.getElem?_map] at hx hy
   cases e1:as[j]? with
   | none=>rw [e1] at hx;cases hx
   | some p =>
    cases e2:bs[j]? with
    | none=>rw [e2] at hy;cases hy
    | some p2 =>
     rw [e1] at hx
     rw [e2] at hy
     cases hx
     cases hy
     have h1:j<xss.length:=by have:=(List.getElem?_eq_some_iff.mp e1).1;omega
     have h2:j<yss.length:=by omega
     have q:=EqV.ints (K:=K) (n:=0) (hra j p _ e1 (List.getElem?_eq_getElem h1)) (hrb j p2 _ e2 (List.getElem?_eq_getElem h2))
     show EqV K H 1 (V.ref p) (V.ref p2) (decide (xss[j]?=yss[j]?))
     rw [List.getElem?_eq_getElem h1,List.getElem?_eq_getElem h2]
     have e:decide (xss[j]=yss[j])=decide (some xss[j]=some yss[j]):=by simp
     rw [e] at q
     exact q
  ·rw [List.length_map,hla,all_eq hl]
   exact q
 ·refine .inl ⟨by simp;omega,?_⟩
  have e:decide (xss=yss)=false:=decide_eq_false (λz=>hl (by rw [z]))
  rw [e] at q
  cases neg<;>exact q
section
variable {X:Cx}
theorem zlo {n k m:Nat} (h:n<2^k) (hk:k≤m) (hm:0<m):n.log2<m:=by
 by_cases hn:n=0
 ·subst hn
  exact Nat.lt_of_le_of_lt (by decide:Nat.log2 0≤0) hm
 ·exact Nat.lt_of_lt_of_le ((Nat.log2_lt hn).mpr h) hk
theorem zkn {i:Int} {k:Nat} (h:i.natAbs.log2<k):Builtin.Int.intBits i≤k:=by
 unfold Builtin.Int.intBits
 split
 ·exact Nat.zero_le _
 ·omega
def zft (i j:Int):Prop:=0<j∧j.natAbs.log2<9000
theorem zbc:OpR X (binaryOp .FloorDiv) (rI zft λi j=>.int (i/j)):=opI λi j _ _ _ _ _ hc q=>by
 have hj:j≠0:=by have:=hc.1;omega
 have e:i.fdiv j=i/j:=Int.fdiv_eq_ediv_of_nonneg _ (by have:=hc.1;omega)
 exact floordiv_int hj (by rw [e];exact q) (.inl (PyProof.noPylong_of_log2 hc.2))
end
end L2
namespace L2
open PySem PySem.Spec PyProof.Rows
def zm6 (scope osc:Scope) (N own fvn:List Str) (fv:List Nat):Bool :=
 (scope.names.all λy=>y.2 != .cell||scope.names.lookup y.1 == some .cell)&&(scope.names.all λy=>y.2 != .free||scope.names.lookup y.1 == some .free)&&(scope.kind == .function)&&(scope.names.all λy=>y.2 != .local||scope.names.lookup y.1 == some .local) &&
 (scope.names.all λy=>y.2 != .free||osc.names.lookup y.1 == some .cell||osc.names.lookup y.1 == some .free)&&(fvn.map some == fv.map λi=>N[i]?)&&(fvn.all λx=>scope.names.lookup x == some .free)
theorem BlkScope.of {X:Cx} {scope osc:Scope} {N own fvn:List Str} {fv:List Nat} (hX:X.env.scope=osc) (hN:X.N=N) (h:zm6 scope osc N own fvn fv=true):BlkScope X scope own fvn fv:=by
 subst hX hN
 unfold zm6 at h
 simp only [Bool.and_eq_true,List.all_eq_true,bne_iff_ne,beq_iff_eq,Bool.or_eq_true] at h
 obtain ⟨⟨⟨⟨⟨⟨h1,h1'⟩,h2⟩,h3⟩,h4⟩,h5⟩,h6⟩:=h
 refine ⟨λy hy e=>?_,λy hy e=>?_,h2,λy hy e=>?_,λy hy e=>?_,h5,h6⟩
 ·rcases h1 y hy with z | z
  ·exact absurd e z
  ·exact z
 ·rcases h1' y hy with z | z
  ·exact absurd e z
  ·exact z
 ·rcases h3 y hy with z | z
  ·exact absurd e z
  ·exact z
 ·rcases h4 y hy with (z | z) | z
  ·exact absurd e z
  ·exact .inl z
  ·exact .inr z
theorem Same.new {H:Hp} {p:Addr} (h:H p=none) (o:HO):Same H (upd H p o):=λb u q=>by rw [upd_ne (ne_of_none q h)];exact q
theorem Same.tup {K:W.Frag} {H H':Hp} {a:Addr} {xs:List V} (e:Same H H') (h:SqT K H a xs):SqT K H' a xs:=by
 rcases h with (h | ⟨o,h⟩) | h
 ·exact .inl (.inl (e _ _ h))
 ·exact .inl (.inr ⟨o,e _ _ h⟩)
 ·exact .inr h
theorem Same.rows {K:W.Frag} {H H':Hp} {a:Addr} {xss:List (List Int)} (e:Same H H') (h:Rows K H a xss):Rows K H' a xss:=by
 obtain ⟨as,h1,h2,h3⟩:=h
 exact ⟨as,e.seq h1,h2,λj p ns q1 q2=>e _ _ (h3 j p ns q1 q2)⟩
structure Callee (P:Program) (w:World) (K:W.Frag) (mg:Str->Option Value) (base:Heap) (CX:CXT) (k:Nat) (x:Str) (ps:List Str) (sp:Sp):Prop where
 ex:∃ f fd,FnOk P w K mg base CX k f fd ps sp∧mg x=some (.ref f)∧W.keepIn K (.ref f)=true∧zeR K fd ps []
section
variable {X:Cx} {CX:CXT} {k:Nat} {ps:List Str} {sp:Sp} {E:XK} {x:Str} {p pos:Pos} {e:Expr} {es:List Expr} {t:TA}
theorem zaB (F:Callee X.prog X.w X.K X.mg X.base CX k x ps sp) (hr:Room k X.A) (hg:Gl X x) (hx:zf7 CX X E)
  (ha:PA X (e :: es) t) (hdb:(x == ("__debug__":Str))=false:=by decide) (he:starEach (e :: es) X.env=(false,eval e X.env) :: starEach es X.env:=by rfl) (hpl:(backTo pos (starEach es X.env)).any (·.1)=false:=by rfl) :
  PE X (.Call (.Name x p) (e :: es) [] pos) (tCall sp [] E t):=by
 obtain ⟨f,fd,G,hm,hk,hb⟩:=F.ex
 exact znm G hr hg hm hk hb .nil hx ha hdb he hpl
end
section
variable {X:Cx} {K:W.Frag}
theorem zaA (hK:X.K=K):ze3 X (.builtin "len") (λxs H Q=>∃ p ys,xs=[.ref p]∧(SqL K H p ys∨SqT K H p ys)∧Q (.int ys.length) H):=by subst hK;exact zh2
theorem zbv (hK:X.K=K):ze3 X (.type "list") (λxs H Q=>∃ p ys,xs=[.ref p]∧(SqL K H p ys∨SqT K H p ys)∧∀ l,H l=none->Q (.ref l) (upd H l (.lst ys))):=by subst hK;exact zhM
theorem zjS (hK:X.K=K):ze3 X (.builtin "isinstance") (zqr K):=by subst hK;exact zlR
theorem zjt (hK:X.K=K) (hc:X.calm=true):ze3 X (.builtin "sum") (λxs H Q=>∃ (a:Addr) (ns:List Int),xs=[.ref a]∧SqL K H a (ns.map V.int)∧Q (.int ns.sum) H):=by subst hK;exact zkU hc
theorem zaF (hK:X.K=K):IxR X (zoK K):=by subst hK;exact znr
theorem zcZ (hK:X.K=K):IxR X (zq1 K):=by subst hK;exact zpn
theorem zbI (hK:X.K=K):SlR X (zqk K):=by subst hK;exact zoD
theorem zor (hK:X.K=K) (hu:X.A.units+64<cLine):OpR X (compareOp .Eq) (rEqL K false):=by subst hK;exact zpB hu
theorem zge (hK:X.K=K) (hu:X.A.units+64<cLine):OpR X (compareOp .NotEq) (rEqL K true):=by subst hK;exact zpy hu
theorem za3 {e:Expr} {f:Str} {pos:Pos} {ta:TE} (hK:X.K=K) (he:PE X e ta) (hb:attributeBase e f X.env (eval e X.env)=eval e X.env):PE X (.Attribute e f pos) (tFld K ta f):=by subst hK;exact zoN he hb
theorem zaN {tg l:Expr} {tl:TE} (hK:X.K=K) (hl:PE X l tl):PI X tg l (znq K tl):=by subst hK;exact znf hl
theorem zeI {a b:Expr} {ta:TA} {p pos tp:Pos} {elts:List Expr} {x1:Nat} (hK:X.K=K) (hg:Gl X "zip") (hm:X.mg "zip"=none) (ha:PA X [a,b] ta) (hs:starEach [a,b] X.env=[(false,eval a X.env),(false,eval b X.env)]:=by rfl) (hs2:starEach [b] X.env=[(false,eval b X.env)]:=by rfl) :
  PI X (.Tuple elts x1 tp) (.Call (.Name "zip" p) [a,b] [] pos) (zrd K ta):=by subst hK;exact zpv hg hm ha hs hs2
theorem zcg {es:List Expr} {k:Nat} {t:TGs} {n:Nat} {pos:Pos} (hK:X.K=K) (hc:X.calm=true) (h:PGs X es t)
  (hn:(assignEach es X.env).length=n:=by rfl) (hst:(assignEach es X.env).findIdx? (·.1)=none:=by rfl):PG X (.Tuple es k pos) (zql K n t):=by subst hK;exact zpH hc h hn hst
theorem zcw {o e:Expr} {to:TE} {t:TA} {apos cpos:Pos} (hK:X.K=K) (ho:PE X o to) (ha:PA X [e] t)
  (hbase:attributeBase o "append" X.env (eval o X.env)=eval o X.env:=by rfl)
  (hfew:((backTo cpos (starEach [e] X.env)).all (λx=>!x.1)&&(backToKw cpos (keywordEach [] X.env)).all (λx=>x.1.isSome)
   &&decide (([e]:List Expr).length+([]:List Keyword).length+(if ([]:List Keyword).isEmpty then 0 else 1)<30))=true:=by rfl)
  (hline:(apos.endLine == cpos.line)=true:=by rfl) (hs:starEach [e] X.env=(false,eval e X.env) :: starEach [] X.env:=by rfl) (hplain:(backTo cpos (starEach [] X.env)).any (·.1)=false:=by rfl) :
  PE X (.Call (.Attribute o "append" apos) [e] [] cpos) (tBM K "list" rAppend to t):=by
 subst hK
 exact zp6 PySem.F.plainAttrs_list PySem.F.slot_list_append PySem.F.type_list_append mt_append ho ha hbase hfew hline hs hplain
end
end L2
namespace L2
open PySem PySem.Spec PyProof.Rows
theorem zaj {n:Nat} (h:n≤10000):n≤sizeLine:=Nat.le_trans h (by decide)
end L2
namespace L2
open PySem PySem.Spec PyProof.Rows
theorem zgK (o:Obj) (f:Array Value->Array Value):(o.mapFields f).dict=o.dict:=by
 obtain ⟨c,d,dt,sl⟩:=o
 cases dt<;>rfl
section
variable {M:Model} {A:Around} {E:Value->Shared->Prop} {s:Shared}
theorem zkV {base:Heap} {env:Env} {outer:List Env} {L e:Addr} {oe:Obj} {vs:Array Value} {head:Value} {hadNext:Bool} {Q:Unit->Shared->Prop}
  (hfr:A.frames=some (env :: outer)) (hl:s.heap.FunFrames base (env :: outer)) (hf:env.frame=some L) (he:s.heap.get? e=some oe) (hd:oe.data=.fields vs) (hsz:1<vs.size)
  (h:∀ (h':Heap) (T:Addr) (oT:Obj) (ts:Array Value),(∀ b o,b ∉ frs (env :: outer)->b≠e->s.heap.get? b=some o->h'.get? b=some o)->(∀ b o,b≠e->s.heap.get? b=some o->∃ sl,h'.get? b=some { o with slots:=sl }) →
   h'.get? e=some (oe.mapFields (·.setIfInBounds 1 (.ref T)))->s.heap.objs.size≤T->h'.get? T=some oT->oT.data=.fields ts->ts[3]?=some (rawInt L)->Q () { s with heap:=h' }) :
  wpAny M A (do let a ← frameOf env;let pl ← entryPlaceOf L hadNext;let b ← EntryCells.newEntry head a .none (rawInt L) .none pl;setField (.ref e) 1 b) Q E s:=by
 have hene:e ∉ (env :: outer).filterMap (·.frame):=λhm=>by
  obtain ⟨_,o,ho,hnf⟩:=hl.mem hm
  rw [he] at ho;injection ho with ho;subst ho;exact hnf vs hd
 refine wpAny_bind (wpAny_frameOf_fun hfr hl hf λh₁ hs₁=>?_)
 refine wpAny_bind (wpAny_entryPlaceOf λpl hpl=>?_)
 unfold EntryCells.newEntry newFields
 refine wpAny_bind (wpAny_newObj_type ?_ (hpl.sizeOk5 _ _ _ _ _))
 have he₁:h₁.get? e=some oe:=(hs₁.2.1 e hene).trans he
 have he₂:=Heap.get?_push_of_some (h:=h₁) { cls:=.type "traceback",dict:=none,data:=.fields ([head,.ref L,.none,rawInt L,.none]++(if pl.isEmpty then List.replicate 6 Value.none else pl)).toArray } he₁
 refine wpAny_setField he₂ hd hsz ?_
 have hTe:h₁.objs.size≠e:=Nat.ne_of_gt (Heap.lt_size he₁)
 have hd₃:=Obj.data_mapFields hd (·.setIfInBounds 1 (Value.ref h₁.objs.size))
 have he₃:=Heap.get?_update_self (Obj.mapFields (·.setIfInBounds 1 (Value.ref h₁.objs.size))) he₂ (Obj.isFreed_of_fields hd₃)
 have hT₃:=(Heap.get?_update_other (h₁.push { cls:=.type "traceback",dict:=none,data:=.fields ([head,.ref L,.none,rawInt L,.none]++(if pl.isEmpty then List.replicate 6 Value.none else pl)).toArray })
  (Obj.mapFields (·.setIfInBounds 1 (Value.ref h₁.objs.size))) (Ne.symm hTe)).trans (Heap.get?_push_size h₁ rfl)
 refine h _ h₁.objs.size _ _ (λb o hb hbe e1=>?_) (λb o hbe e1=>?_) he₃ (Nat.le_of_eq hs₁.1.symm) hT₃ rfl (by first | (simp;done) | (rcases hpl with rfl | ⟨_,_,_,_,_,_,_,rfl⟩<;>simp))
 ·rw [Heap.get?_update_other _ _ (Ne.symm hbe)]
  exact Heap.get?_push_of_some _ ((hs₁.2.1 b hb).trans e1)
 ·obtain ⟨sl,e2⟩:=hs₁.2.2 b o e1
  exact ⟨sl,by rw [Heap.get?_update_other _ _ (Ne.symm hbe)];exact Heap.get?_push_of_some _ e2⟩
end
def ExcAt (h:Heap) (H:Hp) (Fz:Addr->Prop) (L e:Addr) (cls:Value) (dct:Option Addr):Prop :=
 ∃ oe vs a0,h.get? e=some oe∧oe.cls=cls∧oe.dict=dct∧oe.data=.fields vs∧vs[0]?=some a0∧1<vs.size∧H e=none∧Fz e ∧
  (vs[1]?=some .none∨∃ T oT ts,vs[1]?=some (.ref T)∧T≠e∧h.get? T=some oT∧oT.data=.fields ts∧(ts[3]?=some .none∨ts[3]?=some (rawInt L))∧H T=none∧Fz T)
def zhc (h:Heap) (H:Hp) (Fz:Addr->Prop) (fl:Value) (e:Addr) (cls:Value) (dct:Option Addr):Prop :=
 ∃ oe vs a0,h.get? e=some oe∧oe.cls=cls∧oe.dict=dct∧oe.data=.fields vs∧vs[0]?=some a0∧1<vs.size∧H e=none∧Fz e ∧
  ∃ T oT ts,vs[1]?=some (.ref T)∧T≠e∧h.get? T=some oT∧oT.data=.fields ts∧ts[3]?=some fl∧H T=none∧Fz T
theorem zhc.atN {h:Heap} {H:Hp} {Fz:Addr->Prop} {L e:Addr} {cls:Value} {dct:Option Addr} (x:zhc h H Fz .none e cls dct):ExcAt h H Fz L e cls dct:=by
 obtain ⟨oe,vs,a0,h1,h2,h3,h4,h5,h6,h7,h8,T,oT,ts,t1,t2,t3,t4,t5,t6,t7⟩:=x
 exact ⟨oe,vs,a0,h1,h2,h3,h4,h5,h6,h7,h8,.inr ⟨T,oT,ts,t1,t2,t3,t4,.inl t5,t6,t7⟩⟩
theorem zhc.imp {h:Heap} {H:Hp} {Fz Fz':Addr->Prop} {e:Addr} {fl cls:Value} {dct:Option Addr} (x:zhc h H Fz fl e cls dct) (k:∀ b,Fz b->Fz' b):zhc h H Fz' fl e cls dct:=by
 obtain ⟨oe,vs,a0,h1,h2,h3,h4,h5,h6,h7,h8,T,oT,ts,t1,t2,t3,t4,t5,t6,t7⟩:=x
 exact ⟨oe,vs,a0,h1,h2,h3,h4,h5,h6,h7,k _ h8,T,oT,ts,t1,t2,t3,t4,t5,t6,k _ t7⟩
structure Own (X:Cx):Prop where
 stk:X.stack=X.env :: X.outer
 fr:X.env.frame=some X.env.locals
 ex:X.ex=[]
theorem zcX.there {P:Program} {w:World} {H:Hp} {h:Heap} {a:Addr} {o:HO} (x:zcX P w H h a o):∃ ob,h.get? a=some ob:=by
 cases o with
 | lst xs=>obtain ⟨_,_,_,_,e⟩:=x;exact ⟨_,e⟩
 | tup xs=>obtain ⟨_,_,_,o,e,_⟩:=x;exact ⟨_,e⟩
 | dK kvs=>obtain ⟨_,_,_,_,o,_,_,e,_⟩:=x;exact ⟨_,e⟩
 | dT kvs=>obtain ⟨_,_,_,_,o,_,_,e,_⟩:=x;exact ⟨_,e⟩
 | set S n=>obtain ⟨o,_,_,_,e,_⟩:=x;exact ⟨_,e⟩
 | ins C dx fs=>obtain ⟨_,_,_,e,_⟩:=x;exact ⟨_,e⟩
 | own y=>obtain ⟨_,e⟩:=x;exact ⟨_,e⟩
 | xd fs=>obtain ⟨_,⟨_,_,_,e,_⟩,_⟩:=x;exact ⟨_,e⟩
 | rng lo hi=>obtain ⟨_,_,_,e⟩:=x;exact ⟨_,e⟩
 | frz ob u=>obtain ⟨e,_⟩:=x;exact ⟨_,e⟩
 | tbl ps=>exact ⟨_,(show h.get? a=some _ from x)⟩
 | met f y=>exact ⟨_,(show h.get? a=some _ from x)⟩
 | ext φ=>obtain ⟨_,e,_⟩:=x;exact e
section
variable {X:Cx} {pins:List (Addr×Obj)} {σ:St} {H:Hp} {s:Shared} {h':Heap}
theorem Inv.recs {t':Nat} {ch:List Addr} (I:Inv X pins σ H s) (hch:∀ b∈ch,H b=none∧X.s₀.heap.get? b=none∧b≠X.env.locals∧(∀ x c,X.env.cells.lookup x=some c->c≠b)∧∀ p∈X.pn++pins,p.1≠b)
  (hex:X.ex=[]) (k:∀ b o,b ∉ frs X.stack->b ∉ ch->s.heap.get? b=some o->h'.get? b=some o) (ks:∀ b o,b ∉ ch->s.heap.get? b=some o->∃ sl,h'.get? b=some { o with slots:=sl }) :
  Inv X pins σ H { s with heap:=h',toks:=t' }:=by
 have sub:=I.stkSub
 have nfr:∀ b,b≠X.env.locals->b ∉ X.fs->b ∉ frs X.stack:=λb h1 h2 z=>by
  rcases List.mem_cons.mp (sub b z) with q | q
  ·exact h1 q
  ·exact h2 q
 have cl:∀ x c,X.env.cells.lookup x=some c->c≠X.env.locals:=I.cne
 refine ⟨I.ok,I.os,I.bare,⟨λb o e n hb hx=>?_,λb o e n hb hx=>?_,I.base.free,λb o e hx=>?_,I.base.tups,I.base.frzs,I.base.tbls⟩,?_,λx c e=>?_,I.free,I.freeC,λp hp=>?_,λb u e=>?_,I.len⟩
 ·have nc:b ∉ ch:=λz=>by rw [(hch b z).2.1] at e;cases e
  exact k b o (nfr b (Nat.ne_of_lt (Nat.lt_of_lt_of_le (Heap.lt_size e) I.ok.above)) hb) nc (I.base.keep b o e n hb hx)
 ·have nc:b ∉ ch:=λz=>by rw [(hch b z).2.1] at e;cases e
  obtain ⟨sl,e1⟩:=I.base.slot b o e n hb hx
  obtain ⟨sl',e2⟩:=ks b _ nc e1
  exact ⟨sl',e2⟩
 ·have nc:b ∉ ch:=λz=>by rw [(hch b z).2.1] at e;cases e
  obtain ⟨o',e1⟩:=I.base.there b o e hx
  obtain ⟨sl',e2⟩:=ks b _ nc e1
  exact ⟨_,e2⟩
 ·obtain ⟨m,⟨o,es,ep,ho,hd,r⟩,hl⟩:=I.loc
  have nc:X.env.locals ∉ ch:=λz=>(hch _ z).2.2.1 rfl
  obtain ⟨sl,e1⟩:=ks _ _ nc ho
  refine ⟨m,⟨_,es,ep,e1,hd,r⟩,λi x v e1 e2 e3=>?_⟩
  obtain ⟨u,ru,l⟩:=hl i x v e1 e2 e3
  refine ⟨u,ru,?_⟩
  rcases l with l | ⟨kk,c,e,oc,hoc,hcd⟩
  ·exact .inl l
  ·obtain ⟨sl',e4⟩:=ks c oc (λz=>(hch c z).2.2.2.1 x c e rfl) hoc
   exact .inr ⟨kk,c,e,_,e4,hcd⟩
 ·obtain ⟨v,oc,hoc,hcd⟩:=I.cell x c e
  obtain ⟨sl',e4⟩:=ks c oc (λz=>(hch c z).2.2.2.1 x c e rfl) hoc
  exact ⟨v,_,e4,hcd⟩
 ·obtain ⟨e,n,ne,nf,d⟩:=I.pin p hp
  exact ⟨k _ _ (nfr _ ne nf) (λz=>(hch _ z).2.2.2.2 p hp rfl) e,n,ne,nf,d⟩
 ·refine (I.hok b u e).stay (λc v hc q=>?_) (λ_ q=>q) λ_ _ q=>q
  have trk:∃ u',H c=some u':=by
   rcases hc with z | z
   ·rw [z];exact ⟨u,e⟩
   ·exact ⟨_,z⟩
  obtain ⟨u',hu'⟩:=trk
  refine k c v (λz=>?_) (λz=>?_) q
  ·rw [I.stkFree c z] at hu';cases hu'
  ·rw [(hch c z).1] at hu';cases hu'
def Fz (X:Cx) (pins:List (Addr×Obj)) (b:Addr):Prop:=X.s₀.heap.get? b=none∧∀ p∈X.pn++pins,p.1≠b
theorem Inv.fz (I:Inv X pins σ H s) (hex:X.ex=[]) {b:Addr} (h:s.heap.get? b=none):Fz X pins b:=by
 refine ⟨?_,λp hp z=>?_⟩
 ·cases q:X.s₀.heap.get? b with
  | none=>rfl
  | some o =>
   obtain ⟨o',e⟩:=I.base.there b o q (by rw [hex];simp)
   rw [h] at e;cases e
 ·rw [← z,(I.pin p hp).1] at h;cases h
theorem Inv.tfree (I:Inv X pins σ H s) {b:Addr} (h:s.heap.get? b=none):H b=none:=by
 cases q:H b with
 | none=>rfl
 | some u =>
  have:=(I.hok b u q).lt
  cases e:s.heap.get? b with
  | none =>
   obtain ⟨o,e'⟩:=zcX.there (I.hok b u q)
   rw [h] at e';cases e'
  | some o=>rw [h] at e;cases e
theorem exc_apart (I:Inv X pins σ H s) {b:Addr} {o:Obj} {vs:Array Value} (e:s.heap.get? b=some o) (hd:o.data=.fields vs) (hn:H b=none) (hF:Fz X pins b) :
  H b=none∧X.s₀.heap.get? b=none∧b≠X.env.locals∧(∀ x c,X.env.cells.lookup x=some c->c≠b)∧∀ p∈X.pn++pins,p.1≠b:=by
 refine ⟨hn,hF.1,λz=>?_,λx c ec z=>?_,hF.2⟩
 ·obtain ⟨m,⟨o',es,ep,ho',hd',_⟩,_⟩:=I.loc
  rw [← z,e] at ho';cases ho';rw [hd] at hd';cases hd'
 ·obtain ⟨v,oc,hoc,hcd⟩:=I.cell x c ec
  rw [z,e] at hoc;cases hoc;rw [hd] at hcd;cases hcd
theorem note_exc {M:Model} {E:Value->Shared->Prop} {e:Addr} {cls:Value} {dct:Option Addr} {Q:Unit->Shared->Prop} (O:Own X) (I:Inv X pins σ H s) (x:ExcAt s.heap H (Fz X pins) X.env.locals e cls dct)
  {A:Around} (hA:A.frames=X.A.frames) (hQ:∀ s',Inv X pins σ H s'->zhc s'.heap H (Fz X pins) (rawInt X.env.locals) e cls dct->Q () s'):wpAny M A (noteFrame (.ref e) X.env) Q E s:=by
 obtain ⟨oe,vs,a0,h1,h2,h3,h4,h5,h6,h7,h8,h9⟩:=x
 have hfr:A.frames=some (X.env :: X.outer):=by rw [hA,I.ok.frames,O.stk]
 have hfun:s.heap.FunFrames X.base (X.env :: X.outer):=by have:=I.stack;rw [O.stk] at this;exact this
 have ae:=exc_apart I h1 h4 h7 h8
 have newE:∀ (s1:Shared) (head:Value) (hadNext:Bool),Inv X pins σ H s1->s1.heap.get? e=some oe->(∀ b,b∈X.env :: X.outer->True) →
   wpAny M A (do let a ← frameOf X.env;let pl ← entryPlaceOf X.env.locals hadNext;let b ← EntryCells.newEntry head a .none (rawInt X.env.locals) .none pl;setField (.ref e) 1 b) Q E s1:=λs1 head hadNext I1 e1 _=>by
  have hfun1:s1.heap.FunFrames X.base (X.env :: X.outer):=by have:=I1.stack;rw [O.stk] at this;exact this
  refine zkV hfr hfun1 O.fr e1 h4 h6 λh' T oT ts k ks he hT hgT hdT ht3=>?_
  have hTn:s1.heap.get? T=none:=Heap.get?_none_of_le hT
  have I2:Inv X pins σ H { s1 with heap:=h' }:=by
   refine I1.recs (t':=s1.toks) (ch:=[e]) (λb hb=>?_) O.ex (λb o hb hc q=>?_) (λb o hc q=>?_)
   ·rw [List.mem_singleton.mp hb];exact ae
   ·rw [O.stk] at hb
    exact k b o hb (λz=>hc (by rw [z];exact List.mem_singleton.mpr rfl)) q
   ·exact ks b o (λz=>hc (by rw [z];exact List.mem_singleton.mpr rfl)) q
  refine hQ _ I2 ⟨_,_,a0,he,(Obj.cls_mapFields _ _).trans h2,(zgK _ _).trans h3,Obj.data_mapFields h4 _,?_,?_,h7,h8,T,oT,ts,?_,?_,hgT,hdT,ht3,I1.tfree hTn,I1.fz O.ex hTn⟩
  ·rw [Array.getElem?_setIfInBounds_ne (by decide)];exact h5
  ·rw [Array.size_setIfInBounds];exact h6
  ·rw [Array.getElem?_setIfInBounds_self_of_lt h6]
  ·intro z;rw [z,e1] at hTn;cases hTn
 unfold noteFrame
 simp only [O.fr]
 rcases h9 with h9 | ⟨T,oT,ts,t1,t2,t3,t4,t5,t6,t7⟩
 ·refine wpAny_bind (wpAny_field h1 h4 h9 ?_)
  rw [if_neg (by decide)]
  exact newE s _ _ I h1 (λ_ _=>trivial)
 ·refine wpAny_bind (wpAny_field h1 h4 t1 ?_)
  rw [if_pos (show (Value.ref T != Value.none)=true from by simp)]
  rcases t5 with t5 | t5
  ·refine wpAny_bind (wpAny_field t3 t4 t5 ?_)
   rw [if_neg (show ¬ ((Value.none == rawInt X.env.locals)=true) from by simp [rawInt])]
   refine wpAny_bind (wpAny_setField t3 t4 (Array.getElem?_eq_some_iff.mp t5).1 ?_)
   have aT:=exc_apart I t3 t4 t6 t7
   have other:∀ b,b≠T->(s.heap.update T (Obj.mapFields (·.setIfInBounds 3 Value.none))).get? b=s.heap.get? b:=λb hb=>Heap.get?_update_other _ _ (Ne.symm hb)
   have I1:Inv X pins σ H { s with heap:=s.heap.update T (Obj.mapFields (·.setIfInBounds 3 Value.none)) }:=by
    refine I.recs (t':=s.toks) (ch:=[T]) (λb hb=>?_) O.ex (λb o _ hc q=>?_) (λb o hc q=>⟨o.slots,?_⟩)
    ·rw [List.mem_singleton.mp hb];exact aT
    ·exact (other b (λz=>hc (by rw [z];exact List.mem_singleton.mpr rfl))).trans q
    ·exact (other b (λz=>hc (by rw [z];exact List.mem_singleton.mpr rfl))).trans q
   exact newE _ _ _ I1 ((other e (Ne.symm t2)).trans h1) (λ_ _=>trivial)
  ·refine wpAny_bind (wpAny_field t3 t4 t5 ?_)
   rw [if_pos (show (rawInt X.env.locals == rawInt X.env.locals)=true from by simp)]
   exact wpAny_pure (hQ s I ⟨oe,vs,a0,h1,h2,h3,h4,h5,h6,h7,h8,T,oT,ts,t1,t2,t3,t4,t5,t6,t7⟩)
theorem zfo {M:Model} {A:Around} {E:Value->Shared->Prop} {e:Addr} {fl cls:Value} {dct:Option Addr} {fr:Option Addr} {Q:Unit->Shared->Prop} (O:Own X) (I:Inv X pins σ H s) (x:zhc s.heap H (Fz X pins) fl e cls dct)
  (hQ:∀ s',Inv X pins σ H s'->zhc s'.heap H (Fz X pins) (fr.elim .none λf=>rawInt f) e cls dct->Q () s'):wpAny M A (setFlight (.ref e) fr) Q E s:=by
 obtain ⟨oe,vs,a0,h1,h2,h3,h4,h5,h6,h7,h8,T,oT,ts,t1,t2,t3,t4,t5,t6,t7⟩:=x
 have h3s:3<ts.size:=(Array.getElem?_eq_some_iff.mp t5).1
 have aT:=exc_apart I t3 t4 t6 t7
 have other:∀ b,b≠T->(s.heap.update T (Obj.mapFields (·.setIfInBounds 3 (fr.elim Value.none λf=>rawInt f)))).get? b=s.heap.get? b:=λb hb=>Heap.get?_update_other _ _ (Ne.symm hb)
 unfold setFlight
 refine wpAny_bind (wpAny_field h1 h4 t1 ?_)
 rw [if_pos (show (Value.ref T != Value.none)=true from by simp)]
 refine wpAny_setField t3 t4 h3s (hQ _ ?_ ?_)
 ·refine I.recs (t':=s.toks) (ch:=[T]) (λb hb=>?_) O.ex (λb o _ hc q=>?_) (λb o hc q=>⟨o.slots,?_⟩)
  ·rw [List.mem_singleton.mp hb];exact aT
  ·exact (other b (λz=>hc (by rw [z];exact List.mem_singleton.mpr rfl))).trans q
  ·exact (other b (λz=>hc (by rw [z];exact List.mem_singleton.mpr rfl))).trans q
 ·exact ⟨oe,vs,a0,(other e (Ne.symm t2)).trans h1,h2,h3,h4,h5,h6,h7,h8,T,_,_,t1,t2,Heap.get?_update_self _ t3 (Obj.isFreed_of_fields (Obj.data_mapFields t4 _)),Obj.data_mapFields t4 _,by rw [Array.getElem?_setIfInBounds_self_of_lt h3s],t6,t7⟩
end
theorem exc_obj {K:W.Frag} {h:Heap} {C:Addr} {bmB:List Value} {newId:String} (X:K.In h) (q:W.excIn K C bmB newId=true) :
  ∃ bm N nm qn bs hdct sn sub ab col dd k0 k1 k2 k3 k5 mN,h.get? C=some (excClassObj nm qn C N bs bm hdct sn sub ab col dd k0 k1 k2 k3 k5 newId)∧h.Ns N mN∧mN "__init__"=none∧OwnTail h bmB bm:=by
 unfold W.excIn at q
 split at q
 ·rename_i dd cd sl ho
  split at q
  ·rename_i C' bm k0 k1 k2 k3 n k5 hm hs
   simp only [Bool.and_eq_true,beq_iff_eq,Bool.not_eq_true'] at q
   obtain ⟨⟨⟨⟨⟨rfl,rfl⟩,hdel⟩,ht⟩,hok⟩,hni⟩:=q
   obtain ⟨nm,bs,mro,ns,qn,hd,sn,sub,ab,col,del⟩:=cd
   dsimp only at hm hdel hok hni
   subst hm hdel
   have hsl:sl=#[k0,k1,k2,k3,some (.builtin n),k5]:=by
    obtain ⟨l⟩:=sl
    simp only at hs
    rw [hs]
   subst hsl
   exact ⟨bm,ns,nm,qn,bs,hd,sn,sub,ab,col,dd,k0,k1,k2,k3,k5,_,X _ _ ho,.of_isNs (W.isNs_of_in X hok),W.nsMap_none_of_in X hok hni,W.tail_of_in X ht⟩
  ·cases q
 ·cases q
end L2
namespace L2
open PySem PySem.Spec PyProof.Rows
def XP (X:Cx) (pins:List (Addr×Obj)) (σ:St) (E:XK) (ev:Value) (s':Shared):Prop :=
 ∃ e cls dct H',ev=.ref e∧Inv X pins σ H' s'∧ExcAt s'.heap H' (Fz X pins) X.env.locals e cls dct∧E cls dct H'
abbrev XS:=St->XK
def XPs (X:Cx) (pins:List (Addr×Obj)) (E:XS) (ev:Value) (s':Shared):Prop:=∃ σ',XP X pins σ' (E σ') ev s'
def CXE (P:Program) (w:World):CXT:=λouter H s E ev s'=>∃ e cls dct H',ev=.ref e∧s'.os=s.os∧AllBare s'.gens∧Un (frs outer) [] H H' s.heap s'.heap∧HOk P w H' s'.heap ∧
 zhc s'.heap H' (λb=>s.heap.get? b=none) .none e cls dct∧E cls dct H'
theorem zaz {P:Program} {w:World} {X:Cx}:zf7 (CXE P w) X E0:=λ_ _ _ _ _ _ _ h=>by
 obtain ⟨_,_,_,_,_,_,_,_,_,_,f⟩:=h
 exact False.elim f
abbrev TEX:=St->Hp->VK->XK->Prop
def PEX (X:Cx) (e:Expr) (t:TEX):Prop :=
 ∀ (pins:List (Addr×Obj)) (s:Shared) (σ:St) (H:Hp) (Q:VK) (E:XK),Inv X pins σ H s->t σ H Q E->wpAny (model X.prog X.w) X.A (eval e X.env) (EP X pins σ Q) (XP X pins σ E) s
abbrev TSX:=Ends->XS->St->Hp->Prop
def PSX (X:Cx) (st:Stmt) (t:TSX):Prop :=
 ∀ (pins:List (Addr×Obj)) (s:Shared) (σ:St) (H:Hp) (D:Ends) (E:XS),Inv X pins σ H s->t D E σ H->wpAny (model X.prog X.w) X.A (exec st X.env) (SP X pins D) (XPs X pins E) s
def zh6 (X:Cx) (st:List Stmt) (t:TSX):Prop :=
 ∀ (pins:List (Addr×Obj)) (s:Shared) (σ:St) (H:Hp) (D:Ends) (E:XS),Inv X pins σ H s->t D E σ H->wpAny (model X.prog X.w) X.A (execs st X.env) (SP X pins D) (XPs X pins E) s
section
variable {X:Cx} {e:Expr} {st:Stmt} {rest:List Stmt} {pos:Pos}
theorem zlV {t:TS} (h:PS X.nox st t):PSX X st (λD _ σ H=>t D σ H):=λpins s σ H D E I hw =>
 wpAny_mono (h pins s σ H D (I.wish _) hw) (λ_ _ q=>SP.unwish q) λ_ _ f=>f.elim
theorem zh4 {sts:List Stmt} {t:TS} (h:PSs X.nox sts t):zh6 X sts (λD _ σ H=>t D σ H):=λpins s σ H D E I hw =>
 wpAny_mono (h pins s σ H D (I.wish _) hw) (λ_ _ q=>SP.unwish q) λ_ _ f=>f.elim
theorem zmD:zh6 X [] (λD _ σ H=>D.nx σ H):=λ_ _ σ H _ _ I h=>wpAny_execs_nil ⟨σ,H,I,h⟩
theorem zj6 {t u:TSX} (h1:PSX X st t) (h2:zh6 X rest u):zh6 X (st :: rest) (λD E σ H=>t { D with nx:=u D E } E σ H):=by
 intro pins s σ H D E I h
 refine wpAny_execs_cons (thn (h1 pins s σ H { D with nx:=u D E } E I h) λf s1 q=>?_)
 cases f with
 | next =>
  obtain ⟨σ',H',I',q⟩:=q
  exact h2 pins s1 σ' H' D E I' q
 | ret v=>exact q
 | brk=>exact q
 | cont=>exact q
theorem zpj {c:Expr} {a b:List Stmt} {tc:TT} {t u:TSX} (hc:PT X.nox c tc) (ha:zh6 X a t) (hb:zh6 X b u):PSX X (.If c a b pos) (λD E σ H=>tc σ H λk H1=>if k=true then t D E σ H1 else u D E σ H1):=by
 intro pins s σ H D E I h
 refine wpAny_If (wpAny_mono (hc pins s σ H _ (I.wish _) h) (λd s1 ⟨H1,I1,q1⟩=>?_) λ_ _ f=>f.elim)
 cases d with
 | true=>exact ha pins s1 σ H1 D E I1.unwish q1
 | false=>exact hb pins s1 σ H1 D E I1.unwish q1
theorem zmh {te:TEX} (he:PEX X e te) (hs:swapsWith e none pos.line X.env=pure false:=by rfl):PSX X (.Expr e pos) (λD E σ H=>te σ H (λ_ H1=>D.nx σ H1) (E σ)):=by
 intro pins s σ H D E I h
 exact wpAny_Expr_any (wpAny_mono (he pins s σ H _ _ I h) (λv s1 ⟨x,H1,I1,r1,q1⟩=>⟨σ,H1,I1,q1⟩) λ_ _ q=>⟨σ,q⟩) I.quiet hs
end
section
variable {X:Cx} {k:Nat} {ps:List Str} {sp:Sp} {x:Str} {p pos:Pos} {e:Expr} {es:List Expr} {t:TA}
theorem zlh {pins:List (Addr×Obj)} {σ:St} {H:Hp} {s s':Shared} {E:XK} {ev:Value} (O:Own X) (I:Inv X pins σ H s) (h:CXE X.prog X.w X.stack H s E ev s'):XP X pins σ E ev s':=by
 obtain ⟨a,cls,dct,H',rfl,ho,hb,u,hok,x,q⟩:=h
 have I':Inv X pins σ H' s':=I.call' (ch:=[]) ho u hok hb λb hb=>by cases hb
 exact ⟨a,cls,dct,H',rfl,I',(x.imp λb hb=>I.fz O.ex hb).atN,q⟩
theorem zq3 (O:Own X) (F:Callee X.prog X.w X.K X.mg X.base (CXE X.prog X.w) k x ps sp) (hr:Room k X.A) (hg:Gl X x)
  (ha:PA X.nox (e :: es) t) (hdb:(x == ("__debug__":Str))=false:=by decide) (he:starEach (e :: es) X.env=(false,eval e X.env) :: starEach es X.env:=by rfl) (hpl:(backTo pos (starEach es X.env)).any (·.1)=false:=by rfl) :
  PEX X (.Call (.Name x p) (e :: es) [] pos) (λσ H Q E=>t σ H λvs H1=>sp (vs++[]) H1 Q E):=by
 obtain ⟨f,fd,G,hm,hk,hb⟩:=F.ex
 intro pins s σ H Q E I h
 refine wpAny_Call_Name_kw (ld_glob I hg hm ?_ hdb)
 refine W.callWith_K (h₀:=X.base) I.ok.mod.kin hk (wpAny_mono (ha pos pins s σ H _ (I.wish _) h) (λus s1 ⟨vs,H1,I1,r,q⟩=>⟨I1.unwish.kIn,?_⟩) λ_ _ f=>f.elim) he hpl
 have I2:=I1.unwish
 have r2:Vals (vs++[]) (us++[]):=r.append .nil
 have hl:(us++[]).length=ps.length:=by rw [← r2.length];exact G.len _ _ _ _ q
 refine wpAny_call (codeAny_mono (G.run X.A X.stack s1 H1 ⟨us,[]⟩ (us++[]) (vs++[]) Q E hr I2.env0 (hb s1 us I2.kIn hl) r2 q) λr s' hq=>?_)
 cases r with
 | error e=>exact zlh O I2 hq
 | ok fl =>
  cases fl with
  | ret u=>exact I2.after hq
  | next=>exact False.elim hq
  | brk=>exact False.elim hq
  | cont=>exact False.elim hq
theorem zkg {C:Addr} {B newId initId:String} {bmB:List Value} {np cpos:Pos} (O:Own X) (hc:X.calm=true) (hg:Gl X x) (hm:X.mg x=some (.ref C)) (hK:W.excIn X.K C bmB newId=true) (FB:ExcBaseFacts B newId initId bmB)
  (ha:PA X.nox (e :: es) t) (hdb:(x == ("__debug__":Str))=false:=by decide) (he:starEach (e :: es) X.env=(false,eval e X.env) :: starEach es X.env:=by rfl) (hpl:(backTo cpos (starEach es X.env)).any (·.1)=false:=by rfl) :
  PSX X (.Raise (some (.Call (.Name x np) (e :: es) [] cpos)) none pos) (λ_ E σ H=>t σ H λvs H1=>vs.length≤sizeLine∧E σ (.ref C) none H1):=by
 intro pins s σ H D E I h
 obtain ⟨tl,N,nm,q,bs,hdct,sn,sub,ab,col,dd,k0,k1,k2,k3,k5,mN,hC,hN,hni,T⟩:=exc_obj I.ok.mod.kin hK
 refine wpAny_Raise_call_subT (C:=C) (nm:=nm) (q:=q) (N:=N) (bs:=bs) (bm:=tl) (hdct:=hdct) (sn:=sn) (sub:=sub) (ab:=ab) (col:=col) (dd:=dd) (k0:=k0) (k1:=k1) (k2:=k2) (k3:=k3) (k5:=k5)
  FB (mN:=mN) (T.hasType FB.hasBase) (I.ok.hd hc) (by rw [he];show (false||(backTo cpos (starEach es X.env)).any (·.1))=false;rw [hpl];rfl) hni (ld_glob I hg hm ⟨rfl,?_⟩ hdb)
 have hA:=ha cpos pins s σ H _ (I.wish _) h
 rw [he] at hA ⊢
 refine Calls.evalArgs_plain (wpAny_mono hA (λus s1 ⟨vs,H1,I1,r,hz,qE⟩=>⟨rfl,?_,?_⟩) λ_ _ f=>f.elim)
 ·show us.length≤sizeLine
  rw [← r.length];exact hz
 ·have I2:=I1.unwish
  refine ⟨I2.bk _ _ hC,hN.keeps I2.bk,T.keeps I2.bk,λh' ea hx=>?_⟩
  obtain ⟨tp,hea,_,_⟩:=hx.there
  refine ⟨σ,ea,.ref C,none,H1,rfl,I2.kept (t':=s1.toks) hx.keeps,⟨_,_,_,hea,rfl,rfl,rfl,rfl,by show 1<6;decide,I2.tfree hx.new,I2.fz O.ex hx.new,.inl rfl⟩,qE⟩
end
section
variable {P:Program} {w:World} {K:W.Frag} {mg:Str->Option Value} {base:Heap}
theorem zk4 {N:List Str} {qual:Str} {scope:Scope} {f:Addr} {cd:Value} {A:Around} {outer:List Env} {s:Shared} {H:Hp} {E:XK} {pins:List (Addr×Obj)} {ev:Value} {s':Shared}
  (h:XPs (zif (CXE P w) P w K mg base N qual scope f cd A outer s H E) pins (λ_=>E) ev s'):(zif (CXE P w) P w K mg base N qual scope f cd A outer s H E).xe ev s':=by
 obtain ⟨σ',e,cls,dct,H',rfl,I,x,q⟩:=h
 have O:Own (zif (CXE P w) P w K mg base N qual scope f cd A outer s H E):=⟨rfl,rfl,rfl⟩
 show wpAny _ _ (leaving _ (.ref e)) _ _ s'
 unfold leaving
 refine wpAny_bind (note_exc O I x rfl λs1 I1 x1=>?_)
 refine zfo (fr:=none) O I1 x1 λs2 I2 x2=>?_
 exact ⟨e,cls,dct,H',rfl,I2.os,I2.bare,I2.base,I2.hok,x2.imp (λb hb=>hb.1),q⟩
theorem Fun.okX {x qual:Str} {st:Stmt} {f:Addr} {fd:FuncData} {N ps:List Str} {k:Nat} {sp:Sp} (F:Fun K x qual st f fd) (S:FnScope N ps (zad st)) (len:∀ vs H Q E,sp vs H Q E->vs.length=ps.length)
  (hbody:∀ (cdv:Value) (A:Around) (outer:List Env) (s:Shared) (H:Hp) (vs:List V) (Q:VK) (E:XK),Room k (A.deeper (envOfC qual (zad st) s.heap.objs.size f cdv))->sp vs H Q E →
   ∃ t,zh6 (zif (CXE P w) P w K mg base N qual (zad st) f cdv A outer s H E) (zar st) t∧t { nx:=λ_ H'=>Q .non H',rt:=Q } (λ_=>E) (start N vs) H):FnOk P w K mg base (CXE P w) (k+1) f fd ps sp:=by
 obtain ⟨oc,od,kV,doc,pm,an,cdv,ct,osl,rfl,lk,hcd⟩:=F.ex
 refine zqM lk hcd S len λA outer s H vs Q E hr hsp=>?_
 obtain ⟨t,h,q⟩:=hbody cdv A outer s H vs Q E hr hsp
 exact ⟨λD σ H=>t D (λ_=>E) σ H,λpins s1 σ H1 D I hw=>wpAny_mono (h pins s1 σ H1 D _ I hw) (λ_ _ q=>q) λ_ _ q=>zk4 q,q⟩
end
end L2
namespace L2
open PySem PySem.Spec PyProof.Rows
structure Ds where
 pr:Hp->V->Prop
 up:∀ {H H':Hp} {v:V},Same H H'->pr H v->pr H' v
theorem pr_up {ds:List Ds} {H H':Hp} (e:Same H H'):∀ {vs:List V} {ds:List Ds},Paired (λv (d:Ds)=>d.pr H v) vs ds->Paired (λv (d:Ds)=>d.pr H' v) vs ds
 | _,_,.nil=>.nil
 | _,_,.cons (b:=d) h t=>.cons (d.up e h) (pr_up (ds:=[]) e t)
theorem zcy {α β:Type} {R S:α->β->Prop} (h:∀ a b,R a b->S a b):∀ {xs:List α} {ys:List β},Paired R xs ys->Paired S xs ys
 | _,_,.nil=>.nil
 | _,_,.cons q t=>.cons (h _ _ q) (zcy h t)
theorem zbn {α β:Type} {R:α->β->Prop}:∀ {xs:List α} {ys:List β} {i:Nat} {y:β},Paired R xs ys->ys[i]?=some y->∃ x,xs[i]?=some x∧R x y
 | _,_,_,_,.nil,e=>by simp at e
 | _,_,0,_,.cons r _,e=>by simp at e;subst e;exact ⟨_,rfl,r⟩
 | _,_,i+1,y,.cons _ t,e=>by
  obtain ⟨u,h1,h2⟩:=zbn (i:=i) (y:=y) t (by simpa using e)
  exact ⟨u,by simpa using h1,h2⟩
theorem zbQ {α β:Type} {R:α->β->Prop}:∀ {xs xs':List α} {ys ys':List β},Paired R xs ys->Paired R xs' ys'->Paired R (xs++xs') (ys++ys')
 | _,_,_,_,.nil,s=>s
 | _,_,_,_,.cons r t,s=>.cons r (zbQ t s)
theorem zg2 {α β:Type} {R:α->β->Prop} {x:α} {y:β} (r:R x y):∀ {xs:List α} {ys:List β} (i:Nat),Paired R xs ys->Paired R (xs.set i x) (ys.set i y)
 | _,_,_,.nil=>.nil
 | _,_,0,.cons _ t=>.cons r t
 | _,_,i+1,.cons q t=>.cons q (zg2 r i t)
theorem paired_take {α β:Type} {R:α->β->Prop}:∀ {xs:List α} {ys:List β} (n:Nat),Paired R xs ys->Paired R (xs.take n) (ys.take n)
 | _,_,0,_=>.nil
 | _,_,_+1,.nil=>.nil
 | _,_,n+1,.cons r t=>.cons r (paired_take n t)
theorem paired_drop {α β:Type} {R:α->β->Prop}:∀ {xs:List α} {ys:List β} (n:Nat),Paired R xs ys->Paired R (xs.drop n) (ys.drop n)
 | _,_,0,r=>r
 | _,_,_+1,.nil=>.nil
 | _,_,n+1,.cons _ t=>paired_drop n t
theorem paired_rep {α β:Type} {R:α->β->Prop} {xs:List α} {ys:List β} (h:Paired R xs ys):∀ n:Nat,Paired R (List.replicate n xs).flatten (List.replicate n ys).flatten
 | 0=>.nil
 | n+1=>by
  rw [List.replicate_succ,List.replicate_succ,List.flatten_cons,List.flatten_cons]
  exact zbQ h (paired_rep h n)
abbrev dV (v:V):Ds:=⟨λ_ u=>u=v,λ_ h=>h⟩
abbrev dI (n:Int):Ds:=dV (.int n)
abbrev dB (b:Bool):Ds:=dV (.bl b)
abbrev dN:Ds:=dV .non
abbrev dS (x:Str):Ds:=dV (.str x)
def dL (ds:List Ds):Ds:=⟨λH v=>∃ p vs,v=.ref p∧H p=some (.lst vs)∧Paired (λv (d:Ds)=>d.pr H v) vs ds,λe ⟨p,vs,h1,h2,h3⟩=>⟨p,vs,h1,e _ _ h2,pr_up (ds:=[]) e h3⟩⟩
def dQ (K:W.Frag) (ds:List Ds):Ds:=⟨λH v=>∃ p vs,v=.ref p∧SqL K H p vs∧Paired (λv (d:Ds)=>d.pr H v) vs ds,λe ⟨p,vs,h1,h2,h3⟩=>⟨p,vs,h1,e.seq h2,pr_up (ds:=[]) e h3⟩⟩
def dT (ds:List Ds):Ds:=⟨λH v=>∃ p vs,v=.ref p∧H p=some (.tup vs)∧Paired (λv (d:Ds)=>d.pr H v) vs ds,λe ⟨p,vs,h1,h2,h3⟩=>⟨p,vs,h1,e _ _ h2,pr_up (ds:=[]) e h3⟩⟩
def dO (C:Addr) (fs:List (Str×Ds)):Ds:=⟨λH v=>∃ p dx vs,v=.ref p∧H p=some (.ins C dx vs)∧H dx=some (.own p)∧Paired (λ(a:Str×V) (b:Str×Ds)=>a.1=b.1∧b.2.pr H a.2) vs fs,
 λe ⟨p,dx,vs,h1,h2,h3,h4⟩=>⟨p,dx,vs,h1,e _ _ h2,e _ _ h3,zcy (λ_ b q=>⟨q.1,b.2.up e q.2⟩) h4⟩⟩
class Enc (α:Type) where
 d:α->Ds
instance:Enc Int:=⟨dI⟩
instance:Enc Bool:=⟨dB⟩
instance:Enc Unit:=⟨λ_=>dN⟩
instance:Enc Str:=⟨dS⟩
instance {α:Type} [Enc α]:Enc (List α):=⟨λxs=>dL (xs.map Enc.d)⟩
instance {α β:Type} [Enc α] [Enc β]:Enc (α×β):=⟨λp=>dT [Enc.d p.1,Enc.d p.2]⟩
instance {α:Type} [Enc α]:Enc (Option α):=⟨λo=>match o with | none=>dN | some x=>Enc.d x⟩
structure T3 (α β γ:Type) where
 a:α
 b:β
 c:γ
instance {α β γ:Type} [Enc α] [Enc β] [Enc γ]:Enc (T3 α β γ):=⟨λp=>dT [Enc.d p.a,Enc.d p.b,Enc.d p.c]⟩
structure Grow (F H F' H':Hp):Prop where
 f:Same F F'
 fh:Same F' H'
 h:Same H H'
 no:∀ a,H a≠none->F a=none->F' a=none
theorem Grow.refl {F H:Hp} (e:Same F H):Grow F H F H:=⟨Same.refl _,e,Same.refl _,λ_ _ h=>h⟩
theorem Same.some {H H':Hp} (e:Same H H') {a:Addr} (h:H a≠none):H' a≠none:=by
 cases q:H a with
 | none=>exact absurd q h
 | some o=>rw [e _ _ q];simp
theorem Grow.trans {F H F' H' F'' H'':Hp} (g:Grow F H F' H') (k:Grow F' H' F'' H''):Grow F H F'' H'' :=
 ⟨g.f.trans k.f,k.fh,g.h.trans k.h,λa h1 h2=>k.no a (g.h.some h1) (g.no a h1 h2)⟩
theorem Grow.new {F H F' H':Hp} (g:Grow F H F' H') {p:Addr} {o:HO} (hp:H' p=none):Grow F H (upd F' p o) (upd H' p o):=by
 have hf:F' p=none:=by
  cases q:F' p with
  | none=>rfl
  | some u=>rw [g.fh _ _ q] at hp;cases hp
 refine ⟨g.f.trans (Same.new hf _),λa u q=>?_,g.h.trans (Same.new hp _),λa h1 h2=>?_⟩
 ·by_cases e:a=p
  ·subst e;rw [upd_same] at q ⊢;exact q
  ·rw [upd_ne e] at q ⊢;exact g.fh _ _ q
 ·have:a≠p:=λe=>by subst e;exact (g.h.some h1) hp
  rw [upd_ne this];exact g.no a h1 h2
theorem Grow.newH {F H F' H':Hp} (g:Grow F H F' H') {p:Addr} {o:HO} (hp:H' p=none):Grow F H F' (upd H' p o) :=
 ⟨g.f,g.fh.trans (Same.new hp _),g.h.trans (Same.new hp _),g.no⟩
theorem Grow.setH {F H F' H':Hp} (g:Grow F H F' H') {p:Addr} {o:HO} (hf:F' p=none) (hp:H p=none):Grow F H F' (upd H' p o) :=
 ⟨g.f,λa u q=>by rw [upd_ne (ne_of_none q hf)];exact g.fh _ _ q,λa u q=>by rw [upd_ne (ne_of_none q hp)];exact g.h _ _ q,g.no⟩
theorem Grow.take {F H F' H':Hp} (g:Grow F H F' H') {p:Addr} {o:HO} (hp:H p=none) (e:H' p=some o):Grow F H (upd F' p o) H':=by
 refine ⟨λa u q=>?_,λa u q=>?_,g.h,λa h1 h2=>?_⟩
 ·by_cases z:a=p
  ·subst z
   have:=g.fh _ _ (g.f _ _ q)
   rw [e] at this;cases this;exact upd_same
  ·rw [upd_ne z];exact g.f _ _ q
 ·by_cases z:a=p
  ·subst z;rw [upd_same] at q;cases q;exact e
  ·rw [upd_ne z] at q;exact g.fh _ _ q
 ·have:a≠p:=λz=>by subst z;exact h1 hp
  rw [upd_ne this];exact g.no a h1 h2
def off (F Hb:Hp):Hp:=λa=>match Hb a with | none=>F a | some _=>none
theorem ze8 {F Hb:Hp} {a:Addr} {o:HO}:off F Hb a=some o ↔ Hb a=none∧F a=some o:=by
 unfold off
 cases q:Hb a with
 | none=>simp
 | some u=>simp
theorem zmM {F F' Hb:Hp} (e:Same F F'):Same (off F Hb) (off F' Hb):=λa o q=>by
 rw [ze8] at q ⊢;exact ⟨q.1,e _ _ q.2⟩
theorem zkx {F Hb:Hp}:Same (off F Hb) F:=λa o q=>(ze8.mp q).2
theorem zof {F Hb Hc:Hp} (e:Same Hb Hc):Same (off F Hc) (off F Hb):=λa o q=>by
 rw [ze8] at q ⊢
 refine ⟨?_,q.2⟩
 cases z:Hb a with
 | none=>rfl
 | some u=>rw [e _ _ z] at q;cases q.1
def part (m:Bool) (F Hb:Hp):Hp:=match m with | true=>off F Hb | false=>F
theorem part_up {m:Bool} {F F' Hb:Hp} (e:Same F F'):Same (part m F Hb) (part m F' Hb):=by
 cases m with
 | true=>exact zmM e
 | false=>exact e
theorem part_sub {m:Bool} {F Hb:Hp}:Same (part m F Hb) F:=by
 cases m with
 | true=>exact zkx
 | false=>exact Same.refl _
theorem zdw {m:Bool} {F Hb:Hp} {p:Addr} {o:HO} (hb:Hb p=none) (hp:F p=some o):part m F Hb p=some o:=by
 cases m with
 | true=>exact ze8.mpr ⟨hb,hp⟩
 | false=>exact hp
inductive Slot where
 | no
 | va (m:Bool) (d:Ds)
 | ow (m:Bool) (ds:List Ds)
 | ob (m:Bool) (C p dx:Addr) (fs:List (Str×Ds))
 | tl (d:Ds)
 | ol (p:Addr) (ds:List Ds)
abbrev Ctx:=List Slot
def zeX (Hb F H:Hp) (own:Nat->Option Addr) (i:Nat) (v:Option V):Slot->Prop
 | .tl d=>∃ x R,v=some x∧Same R H∧(∀ a o,R a=some o->F a=none∧Hb a=none)∧(∀ j p,own j=some p->R p=none)∧d.pr R x
 | .no=>True
 | .va m d=>∃ x,v=some x∧d.pr (part m F Hb) x
 | .ow m ds=>∃ p vs,v=some (.ref p)∧own i=some p∧F p=none∧Hb p=none∧H p=some (.lst vs)∧Paired (λv (d:Ds)=>d.pr (part m F Hb) v) vs ds
 | .ol p ds=>∃ vs,v=some (.ref p)∧own i=some p∧F p=none∧Hb p=none∧H p=some (.lst vs)∧Paired (λv (d:Ds)=>d.pr F v) vs ds
 | .ob m C p dx fs=>∃ vs,v=some (.ref p)∧own i=some p∧(F p=none∧F dx=none)∧(Hb p=none∧Hb dx=none)∧(H p=some (.ins C dx vs)∧H dx=some (.own p))∧Paired (λ(a:Str×V) (b:Str×Ds)=>a.1=b.1∧b.2.pr (part m F Hb) a.2) vs fs
structure At (F0 Hb F H:Hp) (σ:St) (own:Nat->Option Addr) (Γ:Ctx):Prop where
 g:Grow F0 Hb F H
 inj:∀ i j p,own i=some p->own j=some p->i=j
 liv:∀ i p,own i=some p->H p≠none
 sl:∀ i s,Γ[i]?=some s->zeX Hb F H own i (σ[i]?).join s
 len:σ.length=Γ.length
theorem zeX.grow {Hb F H F' H':Hp} {own:Nat->Option Addr} {i:Nat} {v:Option V} {s:Slot} (h:zeX Hb F H own i v s) (g:Grow F H F' H'):zeX Hb F' H' own i v s:=by
 cases s with
 | no=>trivial
 | tl d =>
  obtain ⟨x,R,e,h1,h2,h3,h4⟩:=h
  exact ⟨x,R,e,h1.trans g.h,λa o q=>⟨g.no a (by rw [h1 _ _ q];simp) (h2 a o q).1,(h2 a o q).2⟩,h3,h4⟩
 | va m d=>obtain ⟨x,e,q⟩:=h;exact ⟨x,e,d.up (part_up g.f) q⟩
 | ow m ds =>
  obtain ⟨p,vs,e,ho,hf,hb,hp,q⟩:=h
  exact ⟨p,vs,e,ho,g.no p (by rw [hp];simp) hf,hb,g.h _ _ hp,pr_up (ds:=[]) (part_up g.f) q⟩
 | ol p ds =>
  obtain ⟨vs,e,ho,hf,hb,hp,q⟩:=h
  exact ⟨vs,e,ho,g.no p (by rw [hp];simp) hf,hb,g.h _ _ hp,pr_up (ds:=[]) g.f q⟩
 | ob m C p dx fs =>
  obtain ⟨vs,e,ho,hf,hb,hp,q⟩:=h
  exact ⟨vs,e,ho,⟨g.no p (by rw [hp.1];simp) hf.1,g.no dx (by rw [hp.2];simp) hf.2⟩,hb,⟨g.h _ _ hp.1,g.h _ _ hp.2⟩,zcy (λ_ b z=>⟨z.1,b.2.up (part_up g.f) z.2⟩) q⟩
theorem At.grow {F0 Hb F H F' H':Hp} {σ:St} {own:Nat->Option Addr} {Γ:Ctx} (a:At F0 Hb F H σ own Γ) (g:Grow F H F' H'):At F0 Hb F' H' σ own Γ :=
 ⟨a.g.trans g,a.inj,λi p e=>g.h.some (a.liv i p e),λi s e=>(a.sl i s e).grow g,a.len⟩
theorem At.fh {F0 Hb F H:Hp} {σ:St} {own:Nat->Option Addr} {Γ:Ctx} (a:At F0 Hb F H σ own Γ):Same F H:=a.g.fh
theorem join_set_self {σ:St} {i:Nat} {x:Option V} (h:i<σ.length):((σ.set i x)[i]?).join=x:=by
 rw [List.getElem?_set_self h];rfl
theorem zgr {σ:St} {i j:Nat} {x:Option V} (h:i≠j):((σ.set i x)[j]?).join=(σ[j]?).join:=by
 rw [List.getElem?_set_ne h]
theorem At.set {F0 Hb F H:Hp} {σ:St} {own:Nat->Option Addr} {Γ:Ctx} (a:At F0 Hb F H σ own Γ) (i:Nat) {m:Bool} {d:Ds} {v:V} (h:d.pr (part m F Hb) v) :
  At F0 Hb F H (σ.set i (some v)) own (Γ.set i (.va m d)):=by
 refine ⟨a.g,a.inj,a.liv,λj s e=>?_,by simp [a.len]⟩
 by_cases z:i=j
 ·subst z
  have hi:i<Γ.length:=by
   have:=(List.getElem?_eq_some_iff.mp e).1
   simpa using this
  rw [List.getElem?_set_self hi] at e
  cases e
  rw [join_set_self (by rw [a.len];exact hi)]
  exact ⟨v,rfl,h⟩
 ·rw [List.getElem?_set_ne z] at e
  rw [zgr z]
  exact a.sl j s e
theorem At.setOwn {F0 Hb F1 H1 F H:Hp} {σ:St} {own:Nat->Option Addr} {Γ:Ctx} (a1:At F0 Hb F1 H1 σ own Γ) (g:Grow F1 H1 F H) (i:Nat) {m:Bool} {ds:List Ds} {p:Addr} {vs:List V} (h1:H1 p=none) (hf:F p=none) (hp:H p=some (.lst vs))
  (h:Paired (λv (d:Ds)=>d.pr (part m F Hb) v) vs ds):At F0 Hb F H (σ.set i (some (.ref p))) (λj=>if j=i then some p else own j) (Γ.set i (.ow m ds)):=by
 have a:=a1.grow g
 have hb:Hb p=none:=a1.g.h.free h1
 have ho:∀ j,own j≠some p:=λj e=>a1.liv j p e h1
 refine ⟨a.g,λj k q e1 e2=>?_,λj q e=>?_,λj s e=>?_,by simp [a.len]⟩
 ·skip
  split at e1<;>split at e2
  ·omega
  ·cases e1;exact absurd e2 (ho k)
  ·cases e2;exact absurd e1 (ho j)
  ·exact a.inj j k q e1 e2
 ·skip
  split at e
  ·cases e;rw [hp];simp
  ·exact a.liv j q e
 ·by_cases z:i=j
  ·subst z
   have hi:i<Γ.length:=by
    have:=(List.getElem?_eq_some_iff.mp e).1
    simpa using this
   rw [List.getElem?_set_self hi] at e
   cases e
   rw [join_set_self (by rw [a.len];exact hi)]
   exact ⟨p,vs,rfl,by simp,hf,hb,hp,h⟩
  ·rw [List.getElem?_set_ne z] at e
   rw [zgr z]
   have z':¬ j=i:=Ne.symm z
   cases s with
   | tl d =>
    obtain ⟨x,R,q1,q2,q3,q4,q5⟩:=a1.sl j _ e
    refine ⟨x,R,q1,q2.trans g.h,λb o w=>⟨g.no b (by rw [q2 _ _ w];simp) (q3 b o w).1,(q3 b o w).2⟩,λk q w=>?_,q5⟩
    dsimp only at w
    split at w
    ·cases w;exact q2.free h1
    ·exact q4 k q w
   | no=>trivial
   | va m d=>exact a.sl j _ e
   | ow m ds =>
    obtain ⟨q,us,w1,w2,w3⟩:=a.sl j _ e
    exact ⟨q,us,w1,(if_neg z').trans w2,w3⟩
   | ol q ds =>
    obtain ⟨us,w1,w2,w3⟩:=a.sl j _ e
    exact ⟨us,w1,(if_neg z').trans w2,w3⟩
   | ob m C q dx fs =>
    obtain ⟨us,w1,w2,w3⟩:=a.sl j _ e
    exact ⟨us,w1,(if_neg z').trans w2,w3⟩
theorem At.turn {F0 Hb F H:Hp} {σ:St} {own:Nat->Option Addr} {Γ:Ctx} (a:At F0 Hb F H σ own Γ) {i:Nat} {m n:Bool} {ds es:List Ds} {p:Addr} {ws:List V} (e:Γ[i]?=some (.ow m ds)) (ep:σ[i]?=some (some (.ref p)))
  (h:Paired (λv (d:Ds)=>d.pr (part n F Hb) v) ws es):At F0 Hb F (upd H p (.lst ws)) σ own (Γ.set i (.ow n es)):=by
 obtain ⟨p',vs,e1,e2,hf,hb,hp,_⟩:=a.sl i _ e
 rw [ep] at e1
 have e1':p=p':=by
  have:some (V.ref p)=some (V.ref p'):=e1
  cases this;rfl
 subst e1'
 refine ⟨a.g.setH hf hb,a.inj,λj q ej=>?_,λj s es'=>?_,by simp [a.len]⟩
 ·by_cases z:q=p
  ·subst z;rw [upd_same];simp
  ·rw [upd_ne z];exact a.liv j q ej
 ·by_cases z:i=j
  ·subst z
   have hi:i<Γ.length:=(List.getElem?_eq_some_iff.mp e).1
   rw [List.getElem?_set_self hi] at es'
   cases es'
   exact ⟨p,ws,by rw [ep];rfl,e2,hf,hb,upd_same,h⟩
  ·rw [List.getElem?_set_ne z] at es'
   have:=a.sl j s es'
   cases s with
   | no=>trivial
   | tl d =>
    obtain ⟨x,R,q1,q2,q3,q4,q5⟩:=this
    exact ⟨x,R,q1,λb o w=>by rw [upd_ne (ne_of_none w (q4 i p e2))];exact q2 b o w,q3,q4,q5⟩
   | va m d=>exact this
   | ow m ds =>
    obtain ⟨q,us,h1,h2,h3,h4,h5,h6⟩:=this
    have:q≠p:=λw=>by subst w;exact z (a.inj i j q e2 h2)
    exact ⟨q,us,h1,h2,h3,h4,by rw [upd_ne this];exact h5,h6⟩
   | ol q ds =>
    obtain ⟨us,h1,h2,h3,h4,h5,h6⟩:=this
    have:q≠p:=λw=>by subst w;exact z (a.inj i j q e2 h2)
    exact ⟨us,h1,h2,h3,h4,by rw [upd_ne this];exact h5,h6⟩
   | ob m C q dx fs =>
    obtain ⟨us,h1,h2,h3,h4,h5,h6⟩:=this
    have n1:q≠p:=λw=>by subst w;exact z (a.inj i j q e2 h2)
    have n2:dx≠p:=zl0 h5.2 hp (by intro z;cases z)
    exact ⟨us,h1,h2,h3,h4,⟨by rw [upd_ne n1];exact h5.1,by rw [upd_ne n2];exact h5.2⟩,h6⟩
theorem At.turnOb {F0 Hb F H:Hp} {σ:St} {own:Nat->Option Addr} {Γ:Ctx} (a:At F0 Hb F H σ own Γ) {i:Nat} {m n:Bool} {C p dx:Addr} {fs gs:List (Str×Ds)} {ws:List (Str×V)} (e:Γ[i]?=some (.ob m C p dx fs))
  (h:Paired (λ(a:Str×V) (b:Str×Ds)=>a.1=b.1∧b.2.pr (part n F Hb) a.2) ws gs):At F0 Hb F (upd H p (.ins C dx ws)) σ own (Γ.set i (.ob n C p dx gs)):=by
 obtain ⟨vs,e1,e2,hf,hb,hp,_⟩:=a.sl i _ e
 have ndp:dx≠p:=zl0 hp.2 hp.1 (by intro z;cases z)
 refine ⟨a.g.setH hf.1 hb.1,a.inj,λj q ej=>?_,λj s es'=>?_,by simp [a.len]⟩
 ·by_cases z:q=p
  ·subst z;rw [upd_same];simp
  ·rw [upd_ne z];exact a.liv j q ej
 ·by_cases z:i=j
  ·subst z
   have hi:i<Γ.length:=(List.getElem?_eq_some_iff.mp e).1
   rw [List.getElem?_set_self hi] at es'
   cases es'
   exact ⟨ws,e1,e2,hf,hb,⟨upd_same,by rw [upd_ne ndp];exact hp.2⟩,h⟩
  ·rw [List.getElem?_set_ne z] at es'
   have:=a.sl j s es'
   cases s with
   | no=>trivial
   | tl d =>
    obtain ⟨x,R,q1,q2,q3,q4,q5⟩:=this
    exact ⟨x,R,q1,λb o w=>by rw [upd_ne (ne_of_none w (q4 i p e2))];exact q2 b o w,q3,q4,q5⟩
   | va m d=>exact this
   | ow m ds =>
    obtain ⟨q,us,h1,h2,h3,h4,h5,h6⟩:=this
    have:q≠p:=λw=>by subst w;exact z (a.inj i j q e2 h2)
    exact ⟨q,us,h1,h2,h3,h4,by rw [upd_ne this];exact h5,h6⟩
   | ol q ds =>
    obtain ⟨us,h1,h2,h3,h4,h5,h6⟩:=this
    have:q≠p:=λw=>by subst w;exact z (a.inj i j q e2 h2)
    exact ⟨us,h1,h2,h3,h4,by rw [upd_ne this];exact h5,h6⟩
   | ob m C q dy fs =>
    obtain ⟨us,h1,h2,h3,h4,h5,h6⟩:=this
    have n1:q≠p:=λw=>by subst w;exact z (a.inj i j q e2 h2)
    have n2:dy≠p:=zl0 h5.2 hp.1 (by intro z;cases z)
    exact ⟨us,h1,h2,h3,h4,⟨by rw [upd_ne n1];exact h5.1,by rw [upd_ne n2];exact h5.2⟩,h6⟩
inductive Wk:Ctx->Ctx->Prop where
 | nil:Wk [] []
 | eq {s Γ Δ}:Wk Γ Δ->Wk (s :: Γ) (s :: Δ)
 | no {s Γ Δ}:Wk Γ Δ->Wk (s :: Γ) (.no :: Δ)
 | old {m d Γ Δ}:Wk Γ Δ->Wk (.va m d :: Γ) (.va false d :: Δ)
 | oldL {m d Γ Δ}:Wk Γ Δ->Wk (.ow m d :: Γ) (.ow false d :: Δ)
theorem Wk.refl:∀ Γ:Ctx,Wk Γ Γ
 | []=>.nil
 | _ :: Γ=>.eq (Wk.refl Γ)
theorem Wk.len {Γ Δ:Ctx} (h:Wk Γ Δ):Γ.length=Δ.length:=by
 induction h<;>simp_all
theorem Wk.slot {Γ Δ:Ctx} (h:Wk Γ Δ):∀ {i:Nat} {s:Slot},Δ[i]?=some s->∃ r,Γ[i]?=some r∧∀ {Hb F H:Hp} {own:Nat->Option Addr} {j:Nat} {v:Option V},zeX Hb F H own j v r->zeX Hb F H own j v s:=by
 induction h with
 | nil=>intro i s e;simp at e
 | eq _ ih =>
  intro i s e
  cases i with
  | zero=>simp at e;subst e;exact ⟨_,rfl,λh=>h⟩
  | succ i=>simpa using ih (i:=i) (s:=s) (by simpa using e)
 | no _ ih =>
  intro i s e
  cases i with
  | zero=>simp at e;subst e;exact ⟨_,rfl,λ_=>trivial⟩
  | succ i=>simpa using ih (i:=i) (s:=s) (by simpa using e)
 | old _ ih =>
  intro i s e
  cases i with
  | zero=>simp at e;subst e;exact ⟨_,rfl,λ⟨x,h1,h2⟩=>⟨x,h1,Ds.up _ part_sub h2⟩⟩
  | succ i=>simpa using ih (i:=i) (s:=s) (by simpa using e)
 | oldL _ ih =>
  intro i s e
  cases i with
  | zero=>simp at e;subst e;exact ⟨_,rfl,λ⟨p,vs,h1,h2,h3,h4,h5,h6⟩=>⟨p,vs,h1,h2,h3,h4,h5,pr_up (ds:=[]) part_sub h6⟩⟩
  | succ i=>simpa using ih (i:=i) (s:=s) (by simpa using e)
theorem At.wk {F0 Hb F H:Hp} {σ:St} {own:Nat->Option Addr} {Γ Δ:Ctx} (a:At F0 Hb F H σ own Γ) (w:Wk Γ Δ):At F0 Hb F H σ own Δ :=
 ⟨a.g,a.inj,a.liv,λi s e=>by
  obtain ⟨r,e1,h⟩:=w.slot e
  exact h (a.sl i r e1),by rw [a.len,w.len]⟩
theorem At.share {F0 Hb F H:Hp} {σ:St} {own:Nat->Option Addr} {Γ:Ctx} (a:At F0 Hb F H σ own Γ) {i:Nat} {m:Bool} {ds:List Ds} (e:Γ[i]?=some (.ow m ds)) :
  ∃ F' own',Grow F0 Hb F' H∧At F0 Hb F' H σ own' (Γ.set i (.va m (dL ds))):=by
 obtain ⟨p,vs,e1,e2,hf,hb,hp,hq⟩:=a.sl i _ e
 have g:=a.g.take hb hp
 have fs:Same F (upd F p (.lst vs)):=Same.new hf _
 refine ⟨upd F p (.lst vs),λj=>if j=i then none else own j,g,g,λj k q h1 h2=>?_,λj q h1=>?_,λj s es=>?_,by simp [a.len]⟩
 ·skip
  split at h1
  ·cases h1
  ·split at h2
   ·cases h2
   ·exact a.inj j k q h1 h2
 ·skip
  split at h1
  ·cases h1
  ·exact a.liv j q h1
 ·by_cases z:i=j
  ·subst z
   have hi:i<Γ.length:=(List.getElem?_eq_some_iff.mp e).1
   rw [List.getElem?_set_self hi] at es
   cases es
   exact ⟨.ref p,e1,p,vs,rfl,zdw hb upd_same,pr_up (ds:=[]) (part_up fs) hq⟩
  ·rw [List.getElem?_set_ne z] at es
   have z':¬ j=i:=Ne.symm z
   have:=a.sl j s es
   cases s with
   | no=>trivial
   | tl d =>
    obtain ⟨x,R,q1,q2,q3,q4,q5⟩:=this
    refine ⟨x,R,q1,q2,λb o w=>⟨by rw [upd_ne (ne_of_none w (q4 i p e2))];exact (q3 b o w).1,(q3 b o w).2⟩,λk q w=>?_,q5⟩
    dsimp only at w
    split at w
    ·cases w
    ·exact q4 k q w
   | va m d=>obtain ⟨x,h1,h2⟩:=this;exact ⟨x,h1,d.up (part_up fs) h2⟩
   | ow m ds =>
    obtain ⟨q,us,h1,h2,h3,h4,h5,h6⟩:=this
    have:q≠p:=λw=>by subst w;exact z (a.inj i j q e2 h2)
    exact ⟨q,us,h1,(if_neg z').trans h2,by rw [upd_ne this];exact h3,h4,h5,pr_up (ds:=[]) (part_up fs) h6⟩
   | ol q ds =>
    obtain ⟨us,h1,h2,h3,h4,h5,h6⟩:=this
    have:q≠p:=λw=>by subst w;exact z (a.inj i j q e2 h2)
    exact ⟨us,h1,(if_neg z').trans h2,by rw [upd_ne this];exact h3,h4,h5,pr_up (ds:=[]) fs h6⟩
   | ob m C q dx gs =>
    obtain ⟨us,h1,h2,h3,h4,h5,h6⟩:=this
    have n1:q≠p:=λw=>by subst w;exact z (a.inj i j q e2 h2)
    have n2:dx≠p:=zl0 h5.2 hp (by intro z;cases z)
    exact ⟨us,h1,(if_neg z').trans h2,⟨by rw [upd_ne n1];exact h3.1,by rw [upd_ne n2];exact h3.2⟩,h4,h5,zcy (λ_ b z=>⟨z.1,b.2.up (part_up fs) z.2⟩) h6⟩
end L2
namespace L2
open PySem PySem.Spec PyProof.Rows
def Ev (Γ:Ctx) (t:TE) (m:Bool) (d:Ds):Prop:=∀ (F0 Hb F H:Hp) (σ:St) (own:Nat->Option Addr) (Q:VK),At F0 Hb F H σ own Γ →
 (∀ v F' H',Grow F H F' H'->d.pr (part m F' Hb) v->Q v H')->t σ H Q
def EvO (Γ:Ctx) (t:TE) (m:Bool) (ds:List Ds):Prop:=∀ (F0 Hb F H:Hp) (σ:St) (own:Nat->Option Addr) (Q:VK),At F0 Hb F H σ own Γ →
 (∀ p vs F' H',Grow F H F' H'->H p=none->F' p=none->H' p=some (.lst vs)->Paired (λv (d:Ds)=>d.pr (part m F' Hb) v) vs ds->Q (.ref p) H')->t σ H Q
def EvT (Γ:Ctx) (t:TT) (b:Bool):Prop:=∀ (F0 Hb F H:Hp) (σ:St) (own:Nat->Option Addr) (Q:Bool->Hp->Prop),At F0 Hb F H σ own Γ →
 (∀ F' H',Grow F H F' H'->Q b H')->t σ H Q
def EvA (Γ:Ctx) (t:TA) (m:Bool) (ds:List Ds):Prop:=∀ (F0 Hb F H:Hp) (σ:St) (own:Nat->Option Addr) (Q:List V->Hp->Prop),At F0 Hb F H σ own Γ →
 (∀ vs F' H',Grow F H F' H'->Paired (λv (d:Ds)=>d.pr (part m F' Hb) v) vs ds->Q vs H')->t σ H Q
def EvP (Γ:Ctx) (t:TO) (i:Option Int):Prop:=∀ (F0 Hb F H:Hp) (σ:St) (own:Nat->Option Addr) (Q:Option Int->Hp->Prop),At F0 Hb F H σ own Γ →
 (∀ F' H',Grow F H F' H'->Q i H')->t σ H Q
theorem At.free {F0 Hb F H:Hp} {σ:St} {own:Nat->Option Addr} {Γ:Ctx} (a:At F0 Hb F H σ own Γ) {F' H':Hp} (g:Grow F H F' H') {p:Addr} (h:H' p=none):H p=none∧F' p=none∧Hb p=none:=by
 have h1:=g.h.free h
 exact ⟨h1,g.fh.free h,a.g.h.free h1⟩
section
variable {Γ:Ctx} {t ta tb:TE} {m n:Bool} {d e:Ds} {ds es:List Ds} {K:W.Frag}
theorem Ev.old (h:Ev Γ t m d):Ev Γ t false d:=λF0 Hb F H σ own Q a k=>h F0 Hb F H σ own Q a λv F' H' g q=>k v F' H' g (d.up part_sub q)
theorem Ev.conv (h:Ev Γ t m d) (e':d=e):Ev Γ t m e:=e' ▸ h
theorem EvO.conv (h:EvO Γ t m ds) (e':ds=es):EvO Γ t m es:=e' ▸ h
theorem EvT.conv {t:TT} {b c:Bool} (h:EvT Γ t b) (e':b=c):EvT Γ t c:=e' ▸ h
theorem EvO.ev (h:EvO Γ t m ds):Ev Γ t m (dL ds):=λF0 Hb F H σ own Q a k=>h F0 Hb F H σ own Q a λp vs F' H' g h1 h2 h3 q=>by
 have fs:Same F' (upd F' p (.lst vs)):=Same.new h2 _
 exact k (.ref p) (upd F' p (.lst vs)) H' (g.take h1 h3) ⟨p,vs,rfl,zdw (a.g.h.free h1) upd_same,pr_up (ds:=[]) (part_up fs) q⟩
theorem Ev.weak (h:Ev Γ t m (dL ds)):Ev Γ t m (dQ K ds):=λF0 Hb F H σ own Q a k=>h F0 Hb F H σ own Q a λv F' H' g ⟨p,vs,h1,h2,h3⟩=>k v F' H' g ⟨p,vs,h1,SqL.of h2,h3⟩
theorem zab {i:Nat} (h:Γ[i]?=some (.va m d)):Ev Γ (tVar i) m d:=λF0 Hb F H σ own Q a k=>by
 obtain ⟨x,e,q⟩:=a.sl i _ h
 have hi:i<σ.length:=by rw [a.len];exact (List.getElem?_eq_some_iff.mp h).1
 rw [List.getElem?_eq_getElem hi] at e
 have e':σ[i]=some x:=e
 exact ⟨x,by rw [List.getElem?_eq_getElem hi,e'],k x F H (Grow.refl a.fh) q⟩
theorem zay {v:V}:Ev Γ (tC v) m (dV v):=λF0 Hb F H σ own Q a k=>k v F H (Grow.refl a.fh) rfl
theorem zaL {g:Int->Int->V} {x y:Int} (h1:Ev Γ ta false (dI x)) (h2:Ev Γ tb false (dI y)):Ev Γ (tOp (rI0 g) ta tb) m (dV (g x y)):=λF0 Hb F H σ own Q a k =>
 h1 F0 Hb F H σ own _ a λu F1 H1 g1 q1=>h2 F0 Hb F1 H1 σ own _ (a.grow g1) λv F2 H2 g2 q2=>⟨x,y,q1,q2,k _ F2 H2 (g1.trans g2) rfl⟩
theorem zax {C:Int->Int->Prop} {g:Int->Int->V} {x y:Int} (h1:Ev Γ ta false (dI x)) (h2:Ev Γ tb false (dI y)) (c:C x y):Ev Γ (tOp (rI C g) ta tb) m (dV (g x y)):=λF0 Hb F H σ own Q a k =>
 h1 F0 Hb F H σ own _ a λu F1 H1 g1 q1=>h2 F0 Hb F1 H1 σ own _ (a.grow g1) λv F2 H2 g2 q2=>⟨x,y,q1,q2,c,k _ F2 H2 (g1.trans g2) rfl⟩
theorem ziP {g:Int->V} {x:Int} (h1:Ev Γ ta false (dI x)):Ev Γ (tUn (rU g) ta) m (dV (g x)):=λF0 Hb F H σ own Q a k =>
 h1 F0 Hb F H σ own _ a λu F1 H1 g1 q1=>⟨x,q1,k _ F1 H1 g1 rfl⟩
theorem zqq {v w:V} (h1:Ev Γ ta false (dV v)) (h2:Ev Γ tb false (dV w)) (hs:scal v w=true):Ev Γ (tOp rEq ta tb) m (dB (decide (v=w))):=λF0 Hb F H σ own Q a k =>
 h1 F0 Hb F H σ own _ a λu F1 H1 g1 q1=>h2 F0 Hb F1 H1 σ own _ (a.grow g1) λv F2 H2 g2 q2=>by
  cases q1;cases q2;exact ⟨hs,k _ F2 H2 (g1.trans g2) rfl⟩
theorem zqF {v w:V} (h1:Ev Γ ta false (dV v)) (h2:Ev Γ tb false (dV w)) (hs:scal v w=true):Ev Γ (tOp rNe ta tb) m (dB (!decide (v=w))):=λF0 Hb F H σ own Q a k =>
 h1 F0 Hb F H σ own _ a λu F1 H1 g1 q1=>h2 F0 Hb F1 H1 σ own _ (a.grow g1) λv F2 H2 g2 q2=>by
  cases q1;cases q2;exact ⟨hs,k _ F2 H2 (g1.trans g2) rfl⟩
theorem zkb (x y:Int):decide (V.int x=V.int y)=decide (x=y):=by simp
theorem zdm {x y:Int} (h1:Ev Γ ta false (dI x)) (h2:Ev Γ tb false (dI y)):Ev Γ (tOp rEq ta tb) m (dB (decide (x=y))):=(zqq h1 h2 rfl).conv (by rw [zkb])
theorem zeY {x y:Int} (h1:Ev Γ ta false (dI x)) (h2:Ev Γ tb false (dI y)):Ev Γ (tOp rNe ta tb) m (dB (!decide (x=y))):=(zqF h1 h2 rfl).conv (by rw [zkb])
theorem zam {b:Bool} (h:Ev Γ t false (dB b)):EvT Γ (znj t) b:=λF0 Hb F H σ own Q a k=>h F0 Hb F H σ own _ a λv F' H' g q=>⟨b,q,k F' H' g⟩
theorem zig {b:Bool} (h:Ev Γ t false (dB b)):EvT Γ (tB t) b:=λF0 Hb F H σ own Q a k=>h F0 Hb F H σ own _ a λv F' H' g q=>⟨b,q,k F' H' g⟩
theorem zfn {t u:TT} {b c:Bool} (h:EvT Γ t b) (h2:b=true->EvT Γ u c):EvT Γ (zrn t u) (b&&c):=λF0 Hb F H σ own Q a k=>h F0 Hb F H σ own _ a λF' H' g=>by
 cases b with
 | true=>exact h2 rfl F0 Hb F' H' σ own Q (a.grow g) λF2 H2 g2=>k F2 H2 (g.trans g2)
 | false=>exact k F' H' g
theorem znb {t u:TT} {b c:Bool} (h:EvT Γ t b) (h2:b=false->EvT Γ u c):EvT Γ (tOr t u) (b||c):=λF0 Hb F H σ own Q a k=>h F0 Hb F H σ own _ a λF' H' g=>by
 cases b with
 | false=>exact h2 rfl F0 Hb F' H' σ own Q (a.grow g) λF2 H2 g2=>k F2 H2 (g.trans g2)
 | true=>exact k F' H' g
theorem zot {tc:TT} {α:Type} {b:Bool} {x y:α} (f:α->Ds) (h:EvT Γ tc b) (h1:b=true->Ev Γ ta m (f x)) (h2:b=false->Ev Γ tb m (f y)):Ev Γ (tIf tc ta tb) m (f (bif b then x else y)):=λF0 Hb F H σ own Q a k=>h F0 Hb F H σ own _ a λF' H' g=>by
 cases b with
 | true=>exact h1 rfl F0 Hb F' H' σ own Q (a.grow g) λv F2 H2 g2 q2=>k v F2 H2 (g.trans g2) q2
 | false=>exact h2 rfl F0 Hb F' H' σ own Q (a.grow g) λv F2 H2 g2 q2=>k v F2 H2 (g.trans g2) q2
theorem zae:EvA Γ tNil m []:=λF0 Hb F H σ own Q a k=>k [] F H (Grow.refl a.fh) .nil
theorem zaa {tr:TA} (h:Ev Γ ta m d) (h2:EvA Γ tr m ds):EvA Γ (tCons ta tr) m (d :: ds):=λF0 Hb F H σ own Q a k =>
 h F0 Hb F H σ own _ a λv F1 H1 g1 q1=>h2 F0 Hb F1 H1 σ own _ (a.grow g1) λvs F2 H2 g2 q2=>k _ F2 H2 (g1.trans g2) (.cons (d.up (part_up g2.f) q1) q2)
theorem za4 {tr:TA} (h:EvA Γ tr m ds) (hz:ds.length≤sizeLine):EvO Γ (zqA tr) m ds:=λF0 Hb F H σ own Q a k =>
 h F0 Hb F H σ own _ a λvs F1 H1 g1 q1=>⟨by rw [Paired.length q1];exact hz,λp hp=>by
  obtain ⟨h1,h2,h3⟩:=a.free g1 hp
  exact k p vs F1 _ (g1.newH hp) h1 h2 upd_same q1⟩
theorem zgV {tr:TA} (h:EvA Γ tr m ds) (hz:ds.length≤sizeLine):Ev Γ (zrh tr) m (dT ds):=λF0 Hb F H σ own Q a k =>
 h F0 Hb F H σ own _ a λvs F1 H1 g1 q1=>⟨by rw [Paired.length q1];exact hz,λp hp=>by
  obtain ⟨h1,h2,h3⟩:=a.free g1 hp
  exact k (.ref p) _ _ (g1.new hp) ⟨p,vs,rfl,zdw h3 upd_same,pr_up (ds:=[]) (part_up (Same.new h2 _)) q1⟩⟩
theorem zcR {tr:TA} (h:EvA Γ tr m []):EvO Γ (zqA tr) m []:=za4 h (Nat.zero_le _)
theorem zfB {R:V->Ds->Prop} {vs:List V} {ds:List Ds} {i:Int} {d:Ds} (h:Paired R vs ds) (e:atI ds i=some d):∃ v,atI vs i=some v∧R v d:=by
 unfold atI at e ⊢
 rw [Paired.length h]
 cases q:ixN ds.length i with
 | none=>rw [q] at e;cases e
 | some j =>
  rw [q] at e
  obtain ⟨v,e1,r⟩:=zbn h (show ds[j]?=some d from e)
  exact ⟨v,e1,r⟩
theorem zkM {α β:Type} {f:α->β} {xs:List α} {i:Int} {x:α} (e:atI xs i=some x):atI (xs.map f) i=some (f x):=by
 unfold atI at e ⊢
 rw [List.length_map]
 cases q:ixN xs.length i with
 | none=>rw [q] at e;cases e
 | some j =>
  rw [q] at e
  have e':xs[j]?=some x:=e
  show (xs.map f)[j]?=_
  rw [List.getElem?_map,e']
  rfl
theorem zqz {i:Int} (h1:Ev Γ ta m (dQ K ds)) (h2:Ev Γ tb false (dI i)) (e:atI ds i=some d):Ev Γ (tOp (zoK K) ta tb) m d:=λF0 Hb F H σ own Q a k =>
 h1 F0 Hb F H σ own _ a λu F1 H1 g1 ⟨p,vs,e1,e2,e3⟩=>h2 F0 Hb F1 H1 σ own _ (a.grow g1) λv F2 H2 g2 q2=>by
  obtain ⟨x,ex,rx⟩:=zfB e3 e
  exact ⟨p,vs,i,x,e1,q2,(part_sub.trans (g2.f.trans g2.fh)).seq e2,ex,k x F2 H2 (g1.trans g2) (d.up (part_up g2.f) rx)⟩
theorem ze1 {i:Int} (h1:Ev Γ ta m (dT ds)) (h2:Ev Γ tb false (dI i)) (e:atI ds i=some d):Ev Γ (tOp (zq1 K) ta tb) m d:=λF0 Hb F H σ own Q a k =>
 h1 F0 Hb F H σ own _ a λu F1 H1 g1 ⟨p,vs,e1,e2,e3⟩=>h2 F0 Hb F1 H1 σ own _ (a.grow g1) λv F2 H2 g2 q2=>by
  obtain ⟨x,ex,rx⟩:=zfB e3 e
  exact ⟨p,vs,i,x,e1,q2,.inl (.inl ((part_sub.trans (g2.f.trans g2.fh)) _ _ e2)),ex,k x F2 H2 (g1.trans g2) (d.up (part_up g2.f) rx)⟩
theorem zoS {t:TE} (h1:Ev Γ t false (dQ K ds)):Ev Γ (tCB (λxs H Q=>∃ p ys,xs=[.ref p]∧(SqL K H p ys∨SqT K H p ys)∧Q (.int ys.length) H) (tCons t tNil)) m (dI ds.length):=λF0 Hb F H σ own Q a k =>
 h1 F0 Hb F H σ own _ a λu F1 H1 g1 ⟨p,vs,e1,e2,e3⟩=>⟨p,vs,by rw [e1],.inl (g1.fh.seq e2),k _ F1 H1 g1 (by show V.int _=_;rw [Paired.length e3])⟩
theorem zd0 {t:TE} (h1:Ev Γ t m (dQ K ds)):EvO Γ (tCB (λxs H Q=>∃ p ys,xs=[.ref p]∧(SqL K H p ys∨SqT K H p ys)∧∀ l,H l=none->Q (.ref l) (upd H l (.lst ys))) (tCons t tNil)) m ds:=λF0 Hb F H σ own Q a k =>
 h1 F0 Hb F H σ own _ a λu F1 H1 g1 ⟨p,vs,e1,e2,e3⟩=>⟨p,vs,by rw [e1],.inl ((part_sub.trans g1.fh).seq e2),λl hl=>by
  obtain ⟨h1,h2,h3⟩:=a.free g1 hl
  exact k l vs F1 _ (g1.newH hl) h1 h2 upd_same e3⟩
theorem zcM:EvP Γ zkG none:=λF0 Hb F H σ own Q a k=>k F H (Grow.refl a.fh)
theorem zbY {i:Int} (h:Ev Γ t false (dI i)):EvP Γ (zo4 t) (some i):=λF0 Hb F H σ own Q a k=>h F0 Hb F H σ own _ a λv F' H' g q=>⟨i,q,k F' H' g⟩
def zbH {α:Type} (xs:List α) (lo hi:Option Int):List α:=(xs.drop (HT.sIx xs.length 0 lo)).take (HT.sIx xs.length xs.length hi-HT.sIx xs.length 0 lo)
theorem zlP {α β:Type} {f:α->β} {xs:List α} {lo hi:Option Int}:(zbH xs lo hi).map f=zbH (xs.map f) lo hi:=by
 unfold zbH;rw [List.map_take,List.map_drop,List.length_map]
theorem zoQ {tl th:TO} {lo hi:Option Int} (h1:Ev Γ t m (dQ K ds)) (h2:EvP Γ tl lo) (h3:EvP Γ th hi):EvO Γ (tSl (zqk K) t tl th) m (zbH ds lo hi):=λF0 Hb F H σ own Q a k =>
 h1 F0 Hb F H σ own _ a λu F1 H1 g1 ⟨p,vs,e1,e2,e3⟩=>h2 F0 Hb F1 H1 σ own _ (a.grow g1) λF2 H2 g2=>h3 F0 Hb F2 H2 σ own _ ((a.grow g1).grow g2) λF3 H3 g3 =>
  ⟨p,vs,e1,(part_sub.trans (g1.fh.trans (g2.h.trans g3.h))).seq e2,λl hl=>by
   have g:=g1.trans (g2.trans g3)
   obtain ⟨h1,h2,h3⟩:=a.free g hl
   refine k l _ F3 _ (g.newH hl) h1 h2 upd_same ?_
   unfold zpg zbH
   rw [Paired.length e3]
   exact paired_take _ (paired_drop _ (pr_up (ds:=[]) (part_up (g2.f.trans g3.f)) e3))⟩
theorem zp8 {es:List Ds} (h1:Ev Γ ta m (dL ds)) (h2:Ev Γ tb m (dL es)) (hz:ds.length+es.length≤sizeLine):EvO Γ (tOp zra ta tb) m (ds++es):=λF0 Hb F H σ own Q a k =>
 h1 F0 Hb F H σ own _ a λu F1 H1 g1 ⟨p,vs,e1,e2,e3⟩=>h2 F0 Hb F1 H1 σ own _ (a.grow g1) λv F2 H2 g2 ⟨q,ws,f1,f2,f3⟩ =>
  ⟨p,q,vs,ws,e1,f1,(part_sub.trans (g2.f.trans g2.fh)) _ _ e2,(part_sub.trans g2.fh) _ _ f2,by rw [Paired.length e3,Paired.length f3];exact hz,λl hl=>by
   have g:=g1.trans g2
   obtain ⟨h1,h2,h3⟩:=a.free g hl
   exact k l _ F2 _ (g.newH hl) h1 h2 upd_same (zbQ (pr_up (ds:=[]) (part_up g2.f) e3) f3)⟩
theorem zpA {n:Int} (h1:Ev Γ ta m (dL ds)) (h2:Ev Γ tb false (dI n)) (hn:-(2^63)≤n∧n<2^63) (hz:ds.length*n.toNat≤sizeLine):EvO Γ (tOp zqL ta tb) m (List.replicate n.toNat ds).flatten:=λF0 Hb F H σ own Q a k =>
 h1 F0 Hb F H σ own _ a λu F1 H1 g1 ⟨p,vs,e1,e2,e3⟩=>h2 F0 Hb F1 H1 σ own _ (a.grow g1) λv F2 H2 g2 q2 =>
  ⟨p,n,vs,e1,q2,(part_sub.trans (g2.f.trans g2.fh)) _ _ e2,hn.1,hn.2,by rw [Paired.length e3];exact hz,λl hl=>by
   have g:=g1.trans g2
   obtain ⟨h1,h2,h3⟩:=a.free g hl
   exact k l _ F2 _ (g.newH hl) h1 h2 upd_same (paired_rep (pr_up (ds:=[]) (part_up g2.f) e3) _)⟩
theorem zp1 {d:Ds} {b:Bool} (h1:Ev Γ ta false d) (h2:Ev Γ tb false dN) (hb:∀ H v,d.pr H v->decide (v=V.non)=b):Ev Γ (tOp (λx y H Q=>y=.non∧Q (.bl (decide (x=.non))) H) ta tb) m (dB b):=λF0 Hb F H σ own Q a k =>
 h1 F0 Hb F H σ own _ a λu F1 H1 g1 q1=>h2 F0 Hb F1 H1 σ own _ (a.grow g1) λv F2 H2 g2 q2=>⟨q2,k _ F2 H2 (g1.trans g2) (by show V.bl _=_;rw [hb _ _ q1])⟩
theorem zeM {f:α->V} {R:Hp} {xs:List α}:∀ {vs:List V},Paired (λv (d:Ds)=>d.pr R v) vs (xs.map λx=>dV (f x))->vs=xs.map f:=by
 induction xs with
 | nil=>intro vs h;cases h;rfl
 | cons x xs ih=>intro vs h;cases h with | cons h1 h2=>rw [ih h2,h1];rfl
theorem zoR {xs:List Int} {t:TE} (h1:Ev Γ t false (dQ K (xs.map dI))):Ev Γ (tCB (λxs H Q=>∃ (a:Addr) (ns:List Int),xs=[.ref a]∧SqL K H a (ns.map V.int)∧Q (.int ns.sum) H) (tCons t tNil)) m (dI xs.sum):=λF0 Hb F H σ own Q a k =>
 h1 F0 Hb F H σ own _ a λu F1 H1 g1 ⟨p,vs,e1,e2,e3⟩=>⟨p,xs,by rw [e1],by rw [← zeM e3];exact g1.fh.seq e2,k _ F1 H1 g1 rfl⟩
theorem zfb {H:Hp} {f:Str} {d:Ds}:∀ {vs:List (Str×V)} {fs:List (Str×Ds)},Paired (λ(a:Str×V) (b:Str×Ds)=>a.1=b.1∧b.2.pr H a.2) vs fs->fs.lookup f=some d->∃ v,vs.lookup f=some v∧d.pr H v
 | _,_,.nil,e=>by cases e
 | _,_,.cons (a:=(x,v)) (b:=(y,d')) ⟨h1,h2⟩ t,e=>by
  have h1:x=y:=h1
  subst h1
  simp only [List.lookup_cons] at e ⊢
  cases q:f == x with
  | true=>rw [q] at e;cases e;exact ⟨v,rfl,h2⟩
  | false=>rw [q] at e;exact zfb t e
theorem zcr {C:Addr} {fs:List (Str×Ds)} {f:Str} (h1:Ev Γ ta m (dO C fs)) (c:Cls K C) (nf:NoAttr K C f) (e:fs.lookup f=some d):Ev Γ (tFld K ta f) m d:=λF0 Hb F H σ own Q a k =>
 h1 F0 Hb F H σ own _ a λu F1 H1 g1 ⟨p,dx,vs,e1,e2,e3,e4⟩=>by
  obtain ⟨v,ev,qv⟩:=zfb e4 e
  exact ⟨p,C,dx,vs,v,e1,(part_sub.trans g1.fh) _ _ e2,c,nf,ev,k v F1 H1 g1 qv⟩
inductive Rs where
 | va (m:Bool) (d:Ds)
 | ow (m:Bool) (ds:List Ds)
 | ex (C:Addr)
def Spv {ι:Type} (args:ι->List Ds) (pre:ι->Prop) (res:ι->Rs):Sp:=λvs H Q E=>∃ (x:ι) (F:Hp),Same F H∧Paired (λv (d:Ds)=>d.pr F v) vs (args x)∧pre x∧match res x with
 | .ex C=>∀ dct F' H',Grow F H F' H'->E (.ref C) dct H'
 | .va m d=>∀ v F' H',Grow F H F' H'->d.pr (part m F' H) v->Q v H'
 | .ow m ds=>∀ p ws F' H',Grow F H F' H'->H p=none->F' p=none->H' p=some (.lst ws)->Paired (λv (d:Ds)=>d.pr (part m F' H) v) ws ds->Q (.ref p) H'
theorem zfW {m:Bool} {F Hb H:Hp} (e:Same Hb H):Same (part m F H) (part m F Hb):=by
 cases m with
 | true=>exact zof e
 | false=>exact Same.refl _
theorem zao {ι:Type} {args:ι->List Ds} {pre:ι->Prop} {res:ι->Rs} {tr:TA} {E:XK} (x:ι) (h:EvA Γ tr false ds) (ha:ds=args x) (hp:pre x) (hr:res x=.va m d):Ev Γ (tCall (Spv args pre res) [] E tr) m d:=λF0 Hb F H σ own Q a k=>by
 subst ha
 refine h F0 Hb F H σ own _ a λvs F1 H1 g1 q1=>⟨x,F1,g1.fh,by rw [List.append_nil];exact q1,hp,?_⟩
 rw [hr]
 exact λv F' H' g q=>k v F' H' (g1.trans g) (d.up (zfW (a.g.h.trans g1.h)) q)
theorem zaV {ι:Type} {args:ι->List Ds} {pre:ι->Prop} {res:ι->Rs} {tr:TA} {E:XK} (x:ι) (h:EvA Γ tr false es) (ha:es=args x) (hp:pre x) (hr:res x=.ow m ds):EvO Γ (tCall (Spv args pre res) [] E tr) m ds:=λF0 Hb F H σ own Q a k=>by
 subst ha
 refine h F0 Hb F H σ own _ a λvs F1 H1 g1 q1=>⟨x,F1,g1.fh,by rw [List.append_nil];exact q1,hp,?_⟩
 rw [hr]
 exact λp ws F' H' g h1 h2 h3 q=>k p ws F' H' (g1.trans g) (g1.h.free h1) h2 h3 (pr_up (ds:=[]) (zfW (a.g.h.trans g1.h)) q)
end
end L2
namespace L2
open PySem PySem.Spec PyProof.Rows
def zqE:List Nat->List V->St->St
 | j :: js,v :: vs,σ=>zqE js vs (σ.set j (some v))
 | _,_,σ=>σ
def zmf:List Nat->List Ds->Bool->Ctx->Ctx
 | j :: js,d :: ds,m,Γ=>zmf js ds m (Γ.set j (.va m d))
 | _,_,_,Γ=>Γ
theorem At.setMany {F0 Hb F H:Hp} {own:Nat->Option Addr} {m:Bool}:∀ {js:List Nat} {vs:List V} {ds:List Ds} {σ:St} {Γ:Ctx},At F0 Hb F H σ own Γ->Paired (λv (d:Ds)=>d.pr (part m F Hb) v) vs ds →
  At F0 Hb F H (zqE js vs σ) own (zmf js ds m Γ)
 | [],_,_,_,_,a,.nil=>a
 | [],_,_,_,_,a,.cons _ _=>a
 | _ :: _,_,_,_,_,a,.nil=>a
 | j :: js,_,_,_,_,a,.cons h t=>At.setMany (js:=js) (a.set j h) t
theorem At.unset {F0 Hb F H:Hp} {own:Nat->Option Addr} {σ:St} {Γ:Ctx} {j:Nat} {s:Slot} (a:At F0 Hb F H σ own (Γ.set j s)) (h:Γ[j]?=some .no):At F0 Hb F H σ own Γ :=
 ⟨a.g,a.inj,a.liv,λi r e=>by
  by_cases z:j=i
  ·subst z;rw [h] at e;cases e;trivial
  ·exact a.sl i r (by rw [List.getElem?_set_ne z];exact e),by rw [a.len];simp⟩
theorem At.unsetMany {F0 Hb F H:Hp} {own:Nat->Option Addr} {σ:St} {m:Bool}:∀ {js:List Nat} {ds:List Ds} {Γ:Ctx},At F0 Hb F H σ own (zmf js ds m Γ)->(∀ j∈js,Γ[j]?=some .no)->js.Nodup->At F0 Hb F H σ own Γ
 | [],[],_,a,_,_=>a
 | [],_ :: _,_,a,_,_=>a
 | _ :: _,[],_,a,_,_=>a
 | j :: js,d :: ds,Γ,a,h,hn=>by
  have hn:=List.nodup_cons.mp hn
  refine At.unset (At.unsetMany (js:=js) (ds:=ds) (Γ:=Γ.set j (.va m d)) a (λi hi=>?_) hn.2) (h j List.mem_cons_self)
  rw [List.getElem?_set_ne (λ(z:j=i)=>hn.1 (by rw [z];exact hi))]
  exact h i (List.mem_cons_of_mem _ hi)
def zp4 {γ:Type} (Hb F:Hp) (J:It) (g:TG) (js:List Nat) (xs:List γ) (bds:γ->List Ds) (m:Bool):Prop:=∀ H,Same F H->J.stop xs.length H∧∀ i x,xs[i]?=some x->J.go i H ∧
 ∀ v H',J.yld i H v H'->Grow F H F H'∧∀ (σ:St) (Q:St->Hp->Prop),(∀ vs,Paired (λv (d:Ds)=>d.pr (part m F Hb) v) vs (bds x)->Q (zqE js vs σ) H')->g v σ H' Q
def Iv {γ:Type} (Γ:Ctx) (wi:TI) (g:TG) (js:List Nat) (xs:List γ) (bds:γ->List Ds) (m:Bool):Prop:=∀ (F0 Hb F H:Hp) (σ:St) (own:Nat->Option Addr) (R:It->Hp->Prop),At F0 Hb F H σ own Γ →
 (∀ J F' H',Grow F H F' H'->zp4 Hb F' J g js xs bds m->R J H')->wi σ H R
section
variable {Γ:Ctx} {m:Bool} {K:W.Frag} {γ δ:Type}
theorem zp4.up {Hb F F':Hp} {J:It} {g:TG} {js:List Nat} {xs:List γ} {bds:γ->List Ds} (h:zp4 Hb F J g js xs bds m) (e:Same F F'):zp4 Hb F' J g js xs bds m:=λH hs=>by
 obtain ⟨h1,h2⟩:=h H (e.trans hs)
 refine ⟨h1,λi x ex=>?_⟩
 obtain ⟨h3,h4⟩:=h2 i x ex
 refine ⟨h3,λv H' y=>?_⟩
 obtain ⟨h5,h6⟩:=h4 v H' y
 exact ⟨⟨Same.refl _,hs.trans h5.h,h5.h,λ_ _ z=>z⟩,λσ Q k=>h6 σ Q λvs q=>k vs (pr_up (ds:=[]) (part_up e) q)⟩
theorem zbx {tl:TE} {j:Nat} {xs:List γ} (f:γ->Ds) (h:Ev Γ tl m (dQ K (xs.map f))):Iv Γ (znq K tl) (zd7 j) [j] xs (λx=>[f x]) m:=λF0 Hb F H σ own R a k =>
 h F0 Hb F H σ own _ a λu F1 H1 g1 ⟨p,vs,e1,e2,e3⟩=>by
  have e2':SqL K F1 p vs:=part_sub.seq e2
  refine ⟨p,e1,⟨vs,g1.fh.seq e2'⟩,k _ F1 H1 g1 λH hs=>⟨⟨vs,hs.seq e2',by rw [Paired.length e3,List.length_map];exact Nat.le_refl _⟩,λi x ex=>?_⟩⟩
  obtain ⟨v,ev,qv⟩:=zbn e3 (show (xs.map f)[i]?=some (f x) by rw [List.getElem?_map,ex];rfl)
  refine ⟨⟨vs,v,hs.seq e2',ev⟩,λw H' y=>?_⟩
  obtain ⟨rfl,y⟩:=y
  have:=y vs (hs.seq e2')
  rw [ev] at this
  cases this
  exact ⟨Grow.refl hs,λσ Q k=>k [v] (.cons qv .nil)⟩
def rngZ (lo:Int) (n:Nat):List Int:=(List.range n).map λ(i:Nat)=>lo+(i:Int)
theorem zb1 {lo:Int} {n:Nat}:(rngZ lo n).length=n:=by simp [rngZ]
theorem zc2 {lo:Int} {n i:Nat} {x:Int} (h:(rngZ lo n)[i]?=some x):i<n∧x=lo+i:=by
 unfold rngZ at h
 rw [List.getElem?_map] at h
 by_cases z:i<n
 ·rw [List.getElem?_range z] at h
  exact ⟨z,(Option.some.inj h).symm⟩
 ·rw [List.getElem?_eq_none (by simp;omega)] at h;cases h
theorem it_rng {Hb F:Hp} {lo:Int} {n j:Nat}:zp4 Hb F (Itr lo n) (zd7 j) [j] (rngZ lo n) (λx=>[dI x]) m:=λH hs =>
 ⟨by show n≤_;rw [zb1];exact Nat.le_refl _,λi x ex=>by
  obtain ⟨hi,rfl⟩:=zc2 ex
  refine ⟨hi,λv H' y=>?_⟩
  obtain ⟨rfl,rfl⟩:=y
  exact ⟨Grow.refl hs,λσ Q k=>k [_] (.cons rfl .nil)⟩⟩
theorem zis {t:TE} {j:Nat} {n:Int} (h:Ev Γ t false (dI n)) (hn:-(2^62)≤n∧n<2^62):Iv Γ (zpb (tCons t tNil)) (zd7 j) [j] (rngZ 0 n.toNat) (λx=>[dI x]) m:=λF0 Hb F H σ own R a k =>
 h F0 Hb F H σ own _ a λu F1 H1 g1 q1=>⟨n,by rw [q1],hn.1,hn.2,k _ F1 H1 g1 it_rng⟩
theorem zn7 {ta tb:TE} {j:Nat} {lo hi:Int} (h1:Ev Γ ta false (dI lo)) (h2:Ev Γ tb false (dI hi)) (hn:-(2^62)≤lo∧lo<2^62∧-(2^62)≤hi∧hi<2^62):Iv Γ (zpE (tCons ta (tCons tb tNil))) (zd7 j) [j] (rngZ lo (hi-lo).toNat) (λx=>[dI x]) m:=λF0 Hb F H σ own R a k =>
 h1 F0 Hb F H σ own _ a λu F1 H1 g1 q1=>h2 F0 Hb F1 H1 σ own _ (a.grow g1) λv F2 H2 g2 q2=>⟨lo,hi,by rw [q1,q2],hn,k _ F2 H2 (g1.trans g2) it_rng⟩
theorem zcW {α β:Type} {xs:List α} {ys:List β} {i:Nat} {p:α×β} (h:(xs.zip ys)[i]?=some p):xs[i]?=some p.1∧ys[i]?=some p.2:=by
 rw [List.getElem?_zip_eq_some] at h;exact h
theorem zgT {ta tb:TE} {j1 j2:Nat} {xs:List γ} {ys:List δ} (f1:γ->Ds) (f2:δ->Ds) (h1:Ev Γ ta m (dQ K (xs.map f1))) (h2:Ev Γ tb m (dQ K (ys.map f2))) :
  Iv Γ (zrd K (tCons ta (tCons tb tNil))) (zql K 2 (zj2 (zd7 j1) (zj2 (zd7 j2) zqC))) [j1,j2] (xs.zip ys) (λx=>[f1 x.1,f2 x.2]) m:=λF0 Hb F H σ own R a k =>
 h1 F0 Hb F H σ own _ a λu F1 H1 g1 ⟨p,vs,e1,e2,e3⟩=>h2 F0 Hb F1 H1 σ own _ (a.grow g1) λu' F2 H2 g2 ⟨q,ws,d1,d2,d3⟩=>by
  have e2':SqL K F2 p vs:=g2.f.seq (part_sub.seq e2)
  have d2':SqL K F2 q ws:=part_sub.seq d2
  have e3':=pr_up (ds:=[]) (part_up (m:=m) (Hb:=Hb) g2.f) e3
  have le:=Paired.length e3
  have ld:=Paired.length d3
  rw [List.length_map] at le ld
  refine ⟨p,q,by rw [e1,d1],⟨vs,g2.fh.seq e2'⟩,⟨ws,g2.fh.seq d2'⟩,k _ F2 H2 (g1.trans g2) λH hs=>⟨⟨vs,ws,hs.seq e2',hs.seq d2',by rw [le,ld,List.length_zip];omega⟩,λi x ex=>?_⟩⟩
  obtain ⟨x1,x2⟩:=zcW ex
  obtain ⟨v,ev,qv⟩:=zbn e3' (show (xs.map f1)[i]?=some (f1 x.1) by rw [List.getElem?_map,x1];rfl)
  obtain ⟨w,ew,qw⟩:=zbn d3 (show (ys.map f2)[i]?=some (f2 x.2) by rw [List.getElem?_map,x2];rfl)
  refine ⟨⟨vs,ws,v,w,hs.seq e2',hs.seq d2',ev,ew⟩,λz H' y=>?_⟩
  obtain ⟨r,x',y',rfl,hr,rfl,hxy⟩:=y
  obtain ⟨hx,hy⟩:=hxy vs ws (hs.seq e2') (hs.seq d2')
  rw [ev] at hx;rw [ew] at hy
  cases hx;cases hy
  exact ⟨(Grow.refl hs).newH hr,λσ Q k=>⟨r,_,rfl,.inl (.inl upd_same),rfl,_,_,rfl,_,_,rfl,rfl,k [v,w] (.cons qv (.cons qw .nil))⟩⟩
def zqh:Option Slot->Slot
 | some (.va m d)=>.va m d
 | _=>.no
def zj3 (own:Nat) (fv:List Nat) (Γ:Ctx):Ctx:=List.replicate own .no++fv.map λi=>zqh Γ[i]?
theorem At.block {F0 Hb F H:Hp} {own:Nat->Option Addr} {σ:St} (a:At F0 Hb F H σ own Γ) (k:Nat) (fv:List Nat):At F0 Hb F H (zgf k fv σ) (λ_=>none) (zj3 k fv Γ):=by
 refine ⟨a.g,λ_ _ _ h=>(by cases h),λ_ _ h=>(by cases h),λi s e=>?_,?_⟩
 ·unfold zj3 at e
  unfold zgf
  by_cases hi:i<k
  ·rw [List.getElem?_append_left (by simpa using hi),List.getElem?_replicate,if_pos hi] at e
   cases e;trivial
  ·rw [List.getElem?_append_right (by simpa using hi),List.length_replicate,List.getElem?_map] at e
   rw [List.getElem?_append_right (by simpa using hi),List.length_replicate,List.getElem?_map]
   cases q:fv[i-k]? with
   | none=>rw [q] at e;cases e
   | some j =>
    rw [q] at e
    have e':zqh Γ[j]?=s:=Option.some.inj e
    subst e'
    show zeX Hb F H (λ_=>none) _ ((σ[j]?).join) (zqh Γ[j]?)
    cases z:Γ[j]? with
    | none=>trivial
    | some r =>
     cases r with
     | no=>trivial
     | va m d=>exact (show zeX Hb F H own j _ (.va m d) from a.sl j _ z)
     | ow m ds=>trivial
     | ob m C p dx fs=>trivial
     | ol p ds=>trivial
     | tl d=>trivial
 ·unfold zgf zj3;simp
theorem znu {k:Nat} {fv:List Nat} {j:Nat} {d:Ds} (e:(zj3 k fv Γ)[j]?=some (.tl d)):False:=by
 unfold zj3 at e
 have:=List.mem_of_getElem? e
 rcases List.mem_append.mp this with q | q
 ·cases (List.mem_replicate.mp q).2
 ·obtain ⟨l,_,q⟩:=List.mem_map.mp q
  unfold zqh at q
  split at q<;>cases q
theorem evt_noif:EvT Γ tNoIf true:=λF0 Hb F H σ own Q a k=>k F H (Grow.refl a.fh)
theorem zkl {xs:List γ} {i:Nat} {x:γ} (h:xs[i]?=some x):xs.take (i+1)=xs.take i++[x]:=by
 rw [List.take_succ,h];rfl
theorem zgE {own:Nat} {fv:List Nat} {wi:TI} {tg:TG} {tt:TTs} {te:TE} {js:List Nat} {xs:List γ} {bds:γ->List Ds} {mi:Bool} {c:γ->Bool} {g:γ->Ds} (it:Iv Γ wi tg js xs bds mi) (hz:xs.length≤sizeLine) (hj:(∀ j∈js,j<own)∧js.Nodup)
  (ht:∀ (i:Nat) (x:γ),xs[i]?=some x->EvT (zmf js (bds x) mi (zj3 own fv Γ)) tt (c x)) (he:∀ (i:Nat) (x:γ),xs[i]?=some x->c x=true->Ev (zmf js (bds x) mi (zj3 own fv Γ)) te m (g x)):EvO Γ (zmd own fv wi tg tt te) m ((xs.filter c).map g):=λF0 Hb F H σ ow Q a k =>
 it F0 Hb F H σ ow _ a λJ F1 H1 g1 ok D hD=>by
  have hno:∀ j∈js,(zj3 own fv Γ)[j]?=some .no:=λj hj'=>by
   have:=hj.1 j hj'
   unfold zj3
   rw [List.getElem?_append_left (by simpa using this),List.getElem?_replicate,if_pos this]
  obtain ⟨hD0,hDF,hDb⟩:=a.free g1 hD
  refine ⟨λi mm ys σb H2=>mm=xs.length-i∧i≤xs.length∧ys.length≤i∧∃ F2,Grow F1 H1 F2 H2∧F2 D=none∧H2 D=some (.lst ys)∧Paired (λv (d:Ds)=>d.pr (part m F2 Hb) v) ys (((xs.take i).filter c).map g)∧At F0 Hb F2 H2 σb (λ_=>none) (zj3 own fv Γ),
   ⟨_,rfl,Nat.zero_le _,Nat.zero_le _,F1,(Grow.refl g1.fh).newH hD,hDF,upd_same,by simpa using Paired.nil,((a.grow g1).block own fv).grow ((Grow.refl g1.fh).newH hD)⟩,?_⟩
  rintro i mm ys σb H2 ⟨rfl,hi,hy,F2,g2,hF2,hH2,hP,a2⟩
  refine ⟨hH2,?_⟩
  obtain ⟨hstop,hitem⟩:=ok.up g2.f H2 g2.fh
  by_cases hlt:i<xs.length
  ·obtain ⟨go,yl⟩:=hitem i xs[i] (List.getElem?_eq_getElem hlt)
   refine .inr ⟨go,λx H' y=>?_⟩
   obtain ⟨g3,bind⟩:=yl x H' y
   refine bind σb _ λvs hvs=>?_
   have a3:=(a2.grow g3).setMany (js:=js) hvs
   have hx:xs[i]?=some xs[i]:=List.getElem?_eq_getElem hlt
   refine ht i _ hx F0 Hb F2 H' _ _ _ a3 λF4 H4 g4=>?_
   have tk:=zkl hx
   have gD:∀ {F5 H5:Hp},Grow F2 H2 F5 H5->F5 D=none∧H5 D=some (.lst ys):=λg=>⟨g.no D (by rw [hH2];simp) hF2,g.h _ _ hH2⟩
   cases hc:c xs[i] with
   | true =>
    rw [if_pos rfl]
    refine he i _ hx hc F0 Hb F4 H4 _ _ _ (a3.grow g4) λv F5 H5 g5 q5=>?_
    have g25:=g3.trans (g4.trans g5)
    obtain ⟨n1,n2⟩:=gD g25
    have sD:Same H5 H5:=Same.refl _
    have n3:H1 D=none:=hD
    refine ⟨n2,by omega,xs.length-(i+1),by omega,rfl,hlt,by simp;omega,F5,?_,n1,upd_same,?_,?_⟩
    ·exact (g2.trans g25).setH n1 n3
    ·rw [tk,List.filter_append,List.map_append]
     refine zbQ (pr_up (ds:=[]) (part_up g25.f) hP) ?_
     rw [List.filter_cons,hc]
     exact .cons q5 .nil
    ·have a5:=((a3.grow g4).grow g5).unsetMany hno hj.2
     refine ⟨a5.g.setH n1 hDb,a5.inj,λ_ _ h=>(nomatch h),λj s es=>?_,a5.len⟩
     ·have:=a5.sl j s es
      cases s with
      | no=>trivial
      | va m d=>exact this
      | ow m ds=>obtain ⟨_,_,_,h,_⟩:=this;exact (nomatch h)
      | ob m C p dx fs=>obtain ⟨_,_,h,_⟩:=this;exact (nomatch h)
      | ol p ds=>obtain ⟨_,_,h,_⟩:=this;exact (nomatch h)
      | tl d=>exact (znu es).elim
   | false =>
    rw [if_neg Bool.false_ne_true]
    have g25:=g3.trans g4
    obtain ⟨n1,n2⟩:=gD g25
    refine ⟨xs.length-(i+1),by omega,rfl,hlt,by omega,F4,g2.trans g25,n1,n2,?_,(a3.grow g4).unsetMany hno hj.2⟩
    rw [tk,List.filter_append,List.map_append,List.filter_cons,hc]
    simpa using pr_up (ds:=[]) (part_up g25.f) hP
  ·have e:i=xs.length:=by omega
   subst e
   rw [List.take_length] at hP
   exact .inl ⟨hstop,k D ys F2 H2 (g1.trans g2) hD0 hF2 hH2 hP⟩
theorem zcd {own:Nat} {fv:List Nat} {wi:TI} {tg:TG} {te:TE} {js:List Nat} {xs:List γ} {bds:γ->List Ds} {mi:Bool} {g:γ->Ds} (it:Iv Γ wi tg js xs bds mi) (hz:xs.length≤sizeLine) (hj:(∀ j∈js,j<own)∧js.Nodup)
  (he:∀ (i:Nat) (x:γ),xs[i]?=some x->Ev (zmf js (bds x) mi (zj3 own fv Γ)) te m (g x)):EvO Γ (zmd own fv wi tg tNoIf te) m (xs.map g):=by
 have:=zgE (c:=λ_=>true) it hz hj (λ_ _ _=>evt_noif) (λi x hx _=>he i x hx)
 rwa [show xs.filter (λ_=>true)=xs from List.filter_eq_self.mpr λ_ _=>rfl] at this
end
inductive Oc where
 | nx (Γ:Ctx)
 | rt (m:Bool) (d:Ds)
 | rl (m:Bool) (ds:List Ds)
 | bk (Γ:Ctx)
 | ct (Γ:Ctx)
 | ex (C:Addr) (Γ:Ctx)
 | rw (Γ:Ctx) (d:Ds)
def zfP (E:XS) (F0 Hb:Hp) (D:Ends):Oc->Prop
 | .ex C Γ=>∀ dct F H σ own,At F0 Hb F H σ own Γ->E σ (.ref C) dct H
 | .rw Γ d=>∀ v F H σ own,At F0 Hb F H σ own Γ->d.pr F v->D.rt v H
 | .nx Γ=>∀ F H σ own,At F0 Hb F H σ own Γ->D.nx σ H
 | .bk Γ=>∀ F H σ own,At F0 Hb F H σ own Γ->D.bk σ H
 | .ct Γ=>∀ F H σ own,At F0 Hb F H σ own Γ->D.ct σ H
 | .rt m d=>∀ v F H,Grow F0 Hb F H->d.pr (part m F Hb) v->D.rt v H
 | .rl m ds=>∀ p vs F H,Grow F0 Hb F H->Hb p=none->F p=none->H p=some (.lst vs)->Paired (λv (d:Ds)=>d.pr (part m F Hb) v) vs ds->D.rt (.ref p) H
def Run (E:XS) (Γ:Ctx) (t:TS) (o:Oc):Prop:=∀ (F0 Hb F H:Hp) (σ:St) (own:Nat->Option Addr) (D:Ends),At F0 Hb F H σ own Γ->zfP E F0 Hb D o->t D σ H
def Let {α:Type} {β:Type} (a:α) (k:α->β):β:=k a
def loopR {σ:Type} {γ:Type} {β:Type} (f:σ->γ->σ ⊕ β):σ->List γ->σ ⊕ β
 | s,[]=>.inl s
 | s,x :: xs=>match f s x with | .inl s'=>loopR f s' xs | .inr b=>.inr b
section
variable {E:XS} {Γ Δ:Ctx} {m:Bool} {K:W.Frag} {γ β:Type} {te:TE} {t u:TS} {d:Ds} {ds:List Ds} {o:Oc} {i:Nat}
theorem zal (w:Wk Γ Δ):Run E Γ zmx (.nx Δ):=λF0 Hb F H σ own D a k=>k F H σ own (a.wk w)
theorem zaw (h:Ev Γ te m d):Run E Γ (zlF te) (.rt m d):=λF0 Hb F H σ own D a k=>h F0 Hb F H σ own _ a λv F' H' g q=>k v F' H' (a.g.trans g) q
theorem zhd (h:EvO Γ te m ds):Run E Γ (zlF te) (.rl m ds):=λF0 Hb F H σ own D a k=>h F0 Hb F H σ own _ a λp vs F' H' g h1 h2 h3 q=>k p vs F' H' (a.g.trans g) (a.g.h.free h1) h2 h3 q
theorem zgR (e:Γ[i]?=some (.ow m ds)):Run E Γ (zlF (tVar i)) (.rl m ds):=λF0 Hb F H σ own D a k=>by
 obtain ⟨p,vs,e1,e2,e3,e4,e5,e6⟩:=a.sl i _ e
 have hi:i<σ.length:=by rw [a.len];exact (List.getElem?_eq_some_iff.mp e).1
 rw [List.getElem?_eq_getElem hi] at e1
 have e':σ[i]=some (.ref p):=e1
 exact ⟨_,by rw [List.getElem?_eq_getElem hi,e'],k p vs F H a.g e4 e3 e5 e6⟩
theorem zgx (h:Run E Γ (zlF te) o) (ho:∀ F0 Hb D D',D.rt=D'.rt->zfP E F0 Hb D o->zfP E F0 Hb D' o):Run E Γ (tSeq (zlF te) u) o:=λF0 Hb F H σ own D a k=>h F0 Hb F H σ own _ a (ho F0 Hb D { D with nx:=u D } rfl k)
theorem zai (h:Run E Γ (zlF te) (.rt m d)):Run E Γ (tSeq (zlF te) u) (.rt m d):=zgx h λ_ _ _ _ e q v F H g p=>e ▸ q v F H g p
theorem zdG (h:Run E Γ (zlF te) (.rl m ds)):Run E Γ (tSeq (zlF te) u) (.rl m ds):=zgx h λ_ _ _ _ e q p vs F H g h1 h2 h3 h4=>e ▸ q p vs F H g h1 h2 h3 h4
theorem za0 (h:Ev Γ te m d) (k:Run E (Γ.set i (.va m d)) u o):Run E Γ (tSeq (zkt te (zd7 i)) u) o:=λF0 Hb F H σ own D a q =>
 h F0 Hb F H σ own _ a λv F' H' g p=>k F0 Hb F' H' _ own D ((a.grow g).set i p) q
theorem run_setO (h:EvO Γ te m ds) (k:Run E (Γ.set i (.ow m ds)) u o):Run E Γ (tSeq (zkt te (zd7 i)) u) o:=λF0 Hb F H σ own D a q =>
 h F0 Hb F H σ own _ a λp vs F' H' g h1 h2 h3 h4=>k F0 Hb F' H' _ _ D (a.setOwn g i h1 h2 h3 h4) q
theorem zas {α:Type} {x:α} (f:α->Ds) (fo:β->Oc) {kk:α->β} (h:Ev Γ te m (f x)) (k:∀ y,y=x->Run E (Γ.set i (.va m (f y))) u (fo (kk y))):Run E Γ (tSeq (zkt te (zd7 i)) u) (fo (Let x kk)):=za0 h (k x rfl)
theorem run_letO {α:Type} {x:α} (f:α->List Ds) (fo:β->Oc) {kk:α->β} (h:EvO Γ te m (f x)) (k:∀ y,y=x->Run E (Γ.set i (.ow m (f y))) u (fo (kk y))):Run E Γ (tSeq (zkt te (zd7 i)) u) (fo (Let x kk)):=run_setO h (k x rfl)
theorem zf1 (h:Ev Γ te m d) (k:Run E Γ u o):Run E Γ (tSeq (tDrop te) u) o:=λF0 Hb F H σ own D a q =>
 h F0 Hb F H σ own _ a λv F' H' g p=>k F0 Hb F' H' σ own D (a.grow g) q
theorem zbk (e:Γ[i]?=some (.ow m ds)) (k:Run E (Γ.set i (.va m (dL ds))) t o):Run E Γ t o:=λF0 Hb F H σ own D a q=>by
 obtain ⟨F',own',_,a'⟩:=a.share e
 exact k F0 Hb F' H σ own' D a' q
theorem zpS (w:Wk Γ Δ) (k:Run E Δ t o):Run E Γ t o:=λF0 Hb F H σ own D a q=>k F0 Hb F H σ own D (a.wk w) q
theorem zaH {α:Type} {tc:TT} {b:Bool} {x y:α} {r:TS} (fo:α->Oc) (h:EvT Γ tc b) (h1:b=true->Run E Γ (tSeq t r) (fo x)) (h2:b=false->Run E Γ (tSeq u r) (fo y)):Run E Γ (tSeq (zoc tc t u) r) (fo (bif b then x else y)):=λF0 Hb F H σ own D a q =>
 h F0 Hb F H σ own _ a λF' H' g=>by
  cases b with
  | true=>rw [if_pos rfl];exact h1 rfl F0 Hb F' H' σ own D (a.grow g) q
  | false=>rw [if_neg Bool.false_ne_true];exact h2 rfl F0 Hb F' H' σ own D (a.grow g) q
theorem ziH {tc:TT} {r:TS} (h:EvT Γ tc true) (h1:Run E Γ (tSeq t r) o):Run E Γ (tSeq (zoc tc t u) r) o:=λF0 Hb F H σ own D a q=>h F0 Hb F H σ own _ a λF' H' g=>by
 rw [if_pos rfl];exact h1 F0 Hb F' H' σ own D (a.grow g) q
theorem zbK {tc:TT} {r:TS} (h:EvT Γ tc false) (h1:Run E Γ (tSeq u r) o):Run E Γ (tSeq (zoc tc t u) r) o:=λF0 Hb F H σ own D a q=>h F0 Hb F H σ own _ a λF' H' g=>by
 rw [if_neg Bool.false_ne_true];exact h1 F0 Hb F' H' σ own D (a.grow g) q
theorem zbZ {tc:TT} {b:Bool} {r:TS} (G:Bool->Ctx) (h:EvT Γ tc b) (h1:b=true->Run E Γ t (.nx (G true))) (h2:b=false->Run E Γ u (.nx (G false))) (k:Run E (G b) r o):Run E Γ (tSeq (zoc tc t u) r) o:=λF0 Hb F H σ own D a q =>
 h F0 Hb F H σ own _ a λF' H' g=>by
  cases b with
  | true=>rw [if_pos rfl];exact h1 rfl F0 Hb F' H' σ own _ (a.grow g) λF H σ own a'=>k F0 Hb F H σ own D a' q
  | false=>rw [if_neg Bool.false_ne_true];exact h2 rfl F0 Hb F' H' σ own _ (a.grow g) λF H σ own a'=>k F0 Hb F H σ own D a' q
theorem zah (k:Run E Γ u o):Run E Γ (tSeq zmx u) o:=λF0 Hb F H σ own D a q=>k F0 Hb F H σ own D a q
theorem zku {Δ:Ctx} (h:Run E Γ t (.nx Δ)) (k:Run E Δ u o):Run E Γ (tSeq t u) o:=λF0 Hb F H σ own D a q=>h F0 Hb F H σ own _ a λF H σ own a'=>k F0 Hb F H σ own D a' q
theorem zak {r:TS} (h:Run E Γ (tSeq t (tSeq u r)) o):Run E Γ (tSeq (tSeq t u) r) o:=λF0 Hb F H σ own D a q=>h F0 Hb F H σ own D a q
theorem zfL {F0 Hb F H:Hp} {σ:St} {own:Nat->Option Addr} (a:At F0 Hb F H σ own Γ) (e:Γ[i]?=some (.ow m ds)) :
  ∃ p vs,σ[i]?=some (some (.ref p))∧own i=some p∧F p=none∧Hb p=none∧H p=some (.lst vs)∧Paired (λv (d:Ds)=>d.pr (part m F Hb) v) vs ds:=by
 obtain ⟨p,vs,e1,e2,e3,e4,e5,e6⟩:=a.sl i _ e
 have hi:i<σ.length:=by rw [a.len];exact (List.getElem?_eq_some_iff.mp e).1
 rw [List.getElem?_eq_getElem hi] at e1
 have e':σ[i]=some (.ref p):=e1
 exact ⟨p,vs,by rw [List.getElem?_eq_getElem hi,e'],e2,e3,e4,e5,e6⟩
theorem zjx {te:TE} (e:Γ[i]?=some (.ow m ds)) (h:Ev Γ te m d) (hz:ds.length<sizeLine) (k:Run E (Γ.set i (.ow m (ds++[d]))) u o):Run E Γ (tSeq (tDrop (tBM K "list" rAppend (tVar i) (tCons te tNil))) u) o:=λF0 Hb F H σ own D a q=>by
 obtain ⟨p,vs,e1,e2,e3,e4,e5,e6⟩:=zfL a e
 refine ⟨_,e1,.inl ⟨rfl,_,SqL.of e5⟩,?_⟩
 refine h F0 Hb F H σ own _ a λv F' H' g qv=>?_
 obtain ⟨p',vs',f1,f2,f3,f4,f5,f6⟩:=zfL (a.grow g) e
 rw [e1] at f1
 cases f1
 exact ⟨p,vs',v,rfl,rfl,f5,by rw [Paired.length f6];exact hz,k F0 Hb F' _ σ own D ((a.grow g).turn e e1 (zbQ f6 (.cons qv .nil))) q⟩
theorem zl3 {tb:TE} {n:Bool} {j:Int} (e:Γ[i]?=some (.ow m ds)) (h2:Ev Γ tb false (dI j)) (ej:atI ds j=some d):Ev Γ (tOp (zoK K) (tVar i) tb) m d:=λF0 Hb F H σ own Q a k=>by
 obtain ⟨p,vs,e1,e2,e3,e4,e5,e6⟩:=zfL a e
 refine ⟨_,e1,h2 F0 Hb F H σ own _ a λv F' H' g qv=>?_⟩
 obtain ⟨x,ex,rx⟩:=zfB e6 ej
 exact ⟨p,vs,j,x,rfl,qv,SqL.of (g.h _ _ e5),ex,k x F' H' g (d.up (part_up g.f) rx)⟩
theorem zks {n:Bool} (e:Γ[i]?=some (.ow m ds)):Ev Γ (tCB (λxs H Q=>∃ p ys,xs=[.ref p]∧(SqL K H p ys∨SqT K H p ys)∧Q (.int ys.length) H) (tCons (tVar i) tNil)) n (dI ds.length):=λF0 Hb F H σ own Q a k=>by
 obtain ⟨p,vs,e1,e2,e3,e4,e5,e6⟩:=zfL a e
 exact ⟨_,e1,p,vs,rfl,.inl (SqL.of e5),k _ F H (Grow.refl a.fh) (by show V.int _=_;rw [Paired.length e6])⟩
theorem zkr {te tj:TE} {j:Int} {n:Nat} (e:Γ[i]?=some (.ow m ds)) (h:Ev Γ te m d) (hj:Ev Γ tj false (dI j)) (ej:ixN ds.length j=some n) (k:Run E (Γ.set i (.ow m (ds.set n d))) u o):Run E Γ (tSeq (zkt te (zqj (tVar i) tj zlS)) u) o:=λF0 Hb F H σ own D a q=>by
 refine h F0 Hb F H σ own _ a λv F' H' g qv=>?_
 obtain ⟨p,vs,e1,e2,e3,e4,e5,e6⟩:=zfL (a.grow g) e
 refine ⟨_,e1,hj F0 Hb F' H' σ own _ (a.grow g) λw F2 H2 g2 qw=>?_⟩
 obtain ⟨p',vs',f1,f2,f3,f4,f5,f6⟩:=zfL ((a.grow g).grow g2) e
 rw [e1] at f1
 cases f1
 exact ⟨p,vs',j,n,rfl,qw,f5,by rw [Paired.length f6];exact ej,k F0 Hb F2 _ σ own D (((a.grow g).grow g2).turn e e1 (zg2 (R:=λv (d:Ds)=>d.pr (part m F2 Hb) v) (d.up (part_up g2.f) qv) n f6)) q⟩
theorem zgP {S:Type} (f:S->γ->S ⊕ β):∀ (xs:List γ) (s:S) (i:Nat) (s':S),loopR f s (xs.take i)=.inl s'->∀ x,xs[i]?=some x->loopR f s (xs.take (i+1))=f s' x
 | [],_,_,_,_,_,h=>by simp at h
 | y :: ys,s,0,s',e,x,h=>by
  simp at h;subst h
  have e':s=s':=by simpa [loopR] using e
  subst e'
  show loopR f s [y]=_
  simp only [loopR]
  cases f s y<;>rfl
 | y :: ys,s,i+1,s',e,x,h=>by
  simp only [List.take_succ_cons,loopR] at e ⊢
  cases q:f s y with
  | inl s1=>rw [q] at e;exact zgP f ys s1 i s' e x (by simpa using h)
  | inr b=>rw [q] at e;cases e
theorem loopR_more {S:Type} (f:S->γ->S ⊕ β):∀ (xs:List γ) (s:S) (i:Nat) (b:β),loopR f s (xs.take i)=.inr b->loopR f s xs=.inr b
 | [],s,i,b,e=>by simpa using e
 | y :: ys,s,0,b,e=>by simp [loopR] at e
 | y :: ys,s,i+1,b,e=>by
  simp only [List.take_succ_cons,loopR] at e ⊢
  cases q:f s y with
  | inl s1=>rw [q] at e;exact loopR_more f ys s1 i b e
  | inr b'=>rw [q] at e;exact e
def zfy {S:Type} (G:S->Ctx) (res:β->Oc):S ⊕ β->Oc
 | .inl s=>.nx (G s)
 | .inr b=>res b
theorem Grow.rebase {F0 Hb F1 H1 F H:Hp} (g1:Grow F0 Hb F1 H1) (g:Grow F0 Hb F H) (e:Same F1 F):Grow F1 Hb F H :=
 ⟨e,g.fh,g.h,λa h1 h2=>g.no a h1 (g1.f.free h2)⟩
theorem Grow.unbase {F0 Hb F1 H1 F H:Hp} (g1:Grow F0 Hb F1 H1) (g:Grow F1 Hb F H):Grow F0 Hb F H :=
 ⟨g1.f.trans g.f,g.fh,g.h,λa h1 h2=>g.no a h1 (g1.no a h1 h2)⟩
theorem At.rebase {F0 Hb F1 H1 F H:Hp} {σ:St} {own:Nat->Option Addr} (g1:Grow F0 Hb F1 H1) (a:At F0 Hb F H σ own Γ) (e:Same F1 F):At F1 Hb F H σ own Γ:=⟨g1.rebase a.g e,a.inj,a.liv,a.sl,a.len⟩
theorem At.unbase {F0 Hb F1 H1 F H:Hp} {σ:St} {own:Nat->Option Addr} (g1:Grow F0 Hb F1 H1) (a:At F1 Hb F H σ own Γ):At F0 Hb F H σ own Γ:=⟨g1.unbase a.g,a.inj,a.liv,a.sl,a.len⟩
theorem zfP.rebase {F0 Hb F1 H1:Hp} {D:Ends} (g1:Grow F0 Hb F1 H1) (h:zfP E F0 Hb D o):zfP E F1 Hb D o:=by
 cases o with
 | nx Γ=>exact λF H σ own a=>h F H σ own (a.unbase g1)
 | bk Γ=>exact λF H σ own a=>h F H σ own (a.unbase g1)
 | ct Γ=>exact λF H σ own a=>h F H σ own (a.unbase g1)
 | rt m d=>exact λv F H g q=>h v F H (g1.unbase g) q
 | rl m ds=>exact λp vs F H g h1 h2 h3 q=>h p vs F H (g1.unbase g) h1 h2 h3 q
 | ex C Γ=>exact λdct F H σ own a=>h dct F H σ own (a.unbase g1)
 | rw Γ d=>exact λv F H σ own a q=>h v F H σ own (a.unbase g1) q
theorem zll {S:Type} {wi:TI} {g:TG} {tb:TS} {js:List Nat} {xs:List γ} {bds:γ->List Ds} {mi:Bool} {s0:S} (G:S->Ctx) (res:β->Oc) (f:S->γ->S ⊕ β) (I:Nat->S->Prop) (it:Iv Γ wi g js xs bds mi) (w:Wk Γ (G s0)) (h0:I 0 s0)
  (hres:∀ (b:β) (F0 Hb:Hp) (D D':Ends),D.rt=D'.rt->zfP E F0 Hb D (res b)->zfP E F0 Hb D' (res b))
  (body:∀ (i:Nat) (x:γ) (s:S),xs[i]?=some x->I i s->(∀ s',f s x=.inl s'->I (i+1) s')∧Run E (zmf js (bds x) mi (G s)) tb (zfy G res (f s x))):Run E Γ (zqi wi g tb) (zfy G res (loopR f s0 xs)):=λF0 Hb F H σ own D a q =>
 it F0 Hb F H σ own _ a λJ F1 H1 g1 ok=>by
  have gb:Grow F0 Hb F1 H1:=a.g.trans g1
  refine ⟨λi mm σ H2=>mm=xs.length-i∧i≤xs.length∧∃ s F2 own2,loopR f s0 (xs.take i)=.inl s∧I i s∧At F1 Hb F2 H2 σ own2 (G s),⟨_,rfl,Nat.zero_le _,s0,F1,own,by simp [loopR],h0,((a.grow g1).wk w).rebase gb (Same.refl _)⟩,?_⟩
  rintro i mm σ2 H2 ⟨rfl,hi,s,F2,own2,es,hI,a2⟩
  obtain ⟨hstop,hitem⟩:=ok.up a2.g.f H2 a2.fh
  by_cases hlt:i<xs.length
  ·have hx:xs[i]?=some xs[i]:=List.getElem?_eq_getElem hlt
   obtain ⟨go,yl⟩:=hitem i xs[i] hx
   obtain ⟨hI',hb⟩:=body i _ s hx hI
   have tk:=zgP f xs s0 i s es _ hx
   refine .inr ⟨go,λσ' H'=>∃ s' F3 own3,f s xs[i]=.inl s'∧At F1 Hb F3 H' σ' own3 (G s'),λσ' H' ⟨s',F3,own3,e3,a3⟩=>⟨xs.length-(i+1),by omega,rfl,hlt,s',F3,own3,by rw [tk,e3],hI' s' e3,a3⟩,λx H' y=>?_⟩
   obtain ⟨g3,bind⟩:=yl x H' y
   refine bind σ2 _ λvs hvs=>?_
   have a3:=(a2.grow g3).setMany (js:=js) hvs
   refine hb F1 Hb F2 H' _ own2 _ a3 ?_
   cases e3:f s xs[i] with
   | inl s'=>exact λF3 H3 σ3 own3 a4=>⟨s',F3,own3,rfl,a4⟩
   | inr b =>
    have:=loopR_more f xs s0 (i+1) b (by rw [tk,e3])
    rw [this] at q
    exact hres b F1 Hb D _ rfl (zfP.rebase (o:=res b) gb q)
  ·have e:i=xs.length:=by omega
   subst e
   rw [List.take_length] at es
   rw [es] at q
   exact .inl ⟨hstop,q F2 H2 σ2 own2 (a2.unbase gb)⟩
end
end L2
namespace L2
open PySem PySem.Spec PyProof.Rows
structure EqD {α:Type} [DecidableEq α] (K:W.Frag) (f:α->Ds) (n:Nat):Prop where
 eq:∀ H x y v w,(f x).pr H v->(f y).pr H w->EqV K H n v w (decide (x=y))
 inj:∀ H x y v,(f x).pr H v->(f y).pr H v->x=y
theorem EqD.int {K:W.Frag} {n:Nat}:EqD K dI n:=⟨λH x y v w h1 h2=>by
 cases h1;cases h2
 have:decide (x=y)=eqV (.int x) (.int y):=Bool.eq_iff_iff.mpr (by unfold eqV;simp)
 rw [this];exact .flat rfl rfl,λH x y v h1 h2=>by cases h1;cases h2;rfl⟩
theorem EqD.bool {K:W.Frag} {n:Nat}:EqD K dB n:=⟨λH x y v w h1 h2=>by
 cases h1;cases h2
 have:decide (x=y)=eqV (.bl x) (.bl y):=by cases x<;>cases y<;>rfl
 rw [this];exact .flat rfl rfl,λH x y v h1 h2=>by cases h1;cases h2;rfl⟩
theorem EqD.str {K:W.Frag} {n:Nat}:EqD K dS n:=⟨λH x y v w h1 h2=>by
 cases h1;cases h2
 have:decide (x=y)=eqV (.str x) (.str y):=Bool.eq_iff_iff.mpr (by unfold eqV;simp)
 rw [this];exact .flat rfl rfl,λH x y v h1 h2=>by cases h1;cases h2;rfl⟩
theorem paired_inj {α:Type} {f:α->Ds} {H:Hp} (h:∀ x y v,(f x).pr H v->(f y).pr H v->x=y):∀ {xs ys:List α} {vs:List V},Paired (λv (d:Ds)=>d.pr H v) vs (xs.map f)->Paired (λv (d:Ds)=>d.pr H v) vs (ys.map f)->xs=ys
 | [],[],_,_,_=>rfl
 | [],_ :: _,_,.nil,h2=>by cases h2
 | _ :: _,[],_,h1,.nil=>by cases h1
 | x :: xs,y :: ys,_,.cons a s,.cons b t=>by rw [h x y _ a b,paired_inj h s t]
theorem zk8 {α:Type} [DecidableEq α] {xs ys:List α} (h:xs.length=ys.length):((List.range xs.length).all λj=>decide (xs[j]?=ys[j]?))=decide (xs=ys):=by
 by_cases e:xs=ys
 ·subst e;simp
 ·rw [decide_eq_false e]
  by_cases z:((List.range xs.length).all λj=>decide (xs[j]?=ys[j]?))=true
  ·exfalso
   apply e
   rw [List.all_eq_true] at z
   refine List.ext_getElem? λj=>?_
   by_cases hj:j<xs.length
   ·simpa using z j (List.mem_range.mpr hj)
   ·rw [List.getElem?_eq_none (by omega),List.getElem?_eq_none (by omega)]
  ·simpa using z
theorem zji {α:Type} [DecidableEq α] {K:W.Frag} {f:α->Ds} {n:Nat} (E:EqD K f n) {H:Hp} {xs ys:List α} {vs ws:List V} (h1:Paired (λv (d:Ds)=>d.pr H v) vs (xs.map f)) (h2:Paired (λv (d:Ds)=>d.pr H v) ws (ys.map f)) (hl:xs.length=ys.length) :
  ∀ (j:Nat) (x y:V),vs[j]?=some x->ws[j]?=some y->EqV K H n x y (decide (xs[j]?=ys[j]?)):=λj x y e1 e2=>by
 have l1:=Paired.length h1
 have l2:=Paired.length h2
 rw [List.length_map] at l1 l2
 have hj:j<vs.length:=(List.getElem?_eq_some_iff.mp e1).1
 have q1:xs[j]?=some (xs[j]'(by omega)):=List.getElem?_eq_getElem (by omega)
 have q2:ys[j]?=some (ys[j]'(by omega)):=List.getElem?_eq_getElem (by omega)
 obtain ⟨v,ev,rv⟩:=zbn h1 (show (xs.map f)[j]?=some (f (xs[j]'(by omega))) by rw [List.getElem?_map,q1];rfl)
 obtain ⟨w,ew,rw'⟩:=zbn h2 (show (ys.map f)[j]?=some (f (ys[j]'(by omega))) by rw [List.getElem?_map,q2];rfl)
 rw [e1] at ev;rw [e2] at ew
 cases ev;cases ew
 have:=E.eq H _ _ _ _ rv rw'
 rw [q1,q2]
 simpa using this
theorem EqD.list {α:Type} [DecidableEq α] {K:W.Frag} {f:α->Ds} {n:Nat} (E:EqD K f n):EqD K (λxs:List α=>dL (xs.map f)) (n+1):=⟨λH xs ys v w h1 h2=>by
 obtain ⟨p,vs,rfl,hp,qp⟩:=h1
 obtain ⟨q,ws,rfl,hq,qq⟩:=h2
 by_cases e:p=q
 ·subst e
  rw [hp] at hq
  cases hq
  rw [paired_inj (E.inj H) qp qq,decide_eq_true rfl]
  exact .same
 ·have l1:=Paired.length qp
  have l2:=Paired.length qq
  rw [List.length_map] at l1 l2
  by_cases hl:xs.length=ys.length
  ·rw [← zk8 hl,← l1]
   exact .lists e (SqL.of hp) (SqL.of hq) (by omega) (zji E qp qq hl)
  ·have:decide (xs=ys)=false:=decide_eq_false λz=>hl (by rw [z])
   rw [this]
   exact .lens e (SqL.of hp) (SqL.of hq) (by omega),λH xs ys v h1 h2=>by
 obtain ⟨p,vs,rfl,hp,qp⟩:=h1
 obtain ⟨q,ws,e,hq,qq⟩:=h2
 cases e
 rw [hp] at hq
 cases hq
 exact paired_inj (E.inj H) qp qq⟩
theorem zgF {α:Type} [DecidableEq α] {K:W.Frag} {f:α->Ds} {n:Nat} (E:EqD K f n) {Γ:Ctx} {ta tb:TE} {m neg:Bool} {xs ys:List α} (h1:Ev Γ ta false (dQ K (xs.map f))) (h2:Ev Γ tb false (dQ K (ys.map f))) (hn:n≤50:=by decide) :
  Ev Γ (tOp (rEqL K neg) ta tb) m (dB (bif neg then !decide (xs=ys) else decide (xs=ys))):=λF0 Hb F H σ own Q a k =>
 h1 F0 Hb F H σ own _ a λu F1 H1 g1 ⟨p,vs,e1,e2,e3⟩=>h2 F0 Hb F1 H1 σ own _ (a.grow g1) λu' F2 H2 g2 ⟨q,ws,d1,d2,d3⟩=>by
  have e2':SqL K H2 p vs:=(g1.fh.trans g2.h).seq e2
  have d2':SqL K H2 q ws:=g2.fh.seq d2
  have e3':=pr_up (ds:=[]) (g1.fh.trans g2.h) e3
  have d3':=pr_up (ds:=[]) g2.fh d3
  have l1:=Paired.length e3'
  have l2:=Paired.length d3'
  rw [List.length_map] at l1 l2
  refine ⟨p,q,n,vs,ws,e1,d1,e2',d2',hn,?_⟩
  by_cases hl:xs.length=ys.length
  ·refine .inr ⟨_,by omega,zji E e3' d3' hl,k _ F2 H2 (g1.trans g2) ?_⟩
   rw [l1,zk8 hl]
   cases neg<;>rfl
  ·refine .inl ⟨by omega,k _ F2 H2 (g1.trans g2) ?_⟩
   rw [show decide (xs=ys)=false from decide_eq_false λz=>hl (by rw [z])]
   cases neg<;>rfl
def startC (N:List Str) (ds:List Ds):Ctx:=ds.map (.va false)++List.replicate (N.length-ds.length) .no
def zlE (n:Nat):Rs->Oc
 | .va m d=>.rt m d
 | .ow m ds=>.rl m ds
 | .ex C=>.ex C (List.replicate n .no)
theorem zi6 {F H:Hp} {N:List Str} {vs:List V} {ds:List Ds} (hF:Same F H) (hv:Paired (λv (d:Ds)=>d.pr F v) vs ds):At F H F H (start N vs) (λ_=>none) (startC N ds):=by
 have hl:=Paired.length hv
 refine ⟨Grow.refl hF,λ_ _ _ h=>(nomatch h),λ_ _ h=>(nomatch h),λi s e=>?_,by unfold start startC;simp [hl]⟩
 unfold startC at e
 unfold start
 by_cases hi:i<ds.length
 ·rw [List.getElem?_append_left (by simpa using hi),List.getElem?_map] at e
  rw [List.getElem?_append_left (by simpa [hl] using hi),List.getElem?_map]
  obtain ⟨v,ev,rv⟩:=zbn hv (List.getElem?_eq_getElem hi)
  rw [List.getElem?_eq_getElem hi] at e
  have e':Slot.va false ds[i]=s:=Option.some.inj e
  subst e'
  exact ⟨v,by rw [ev];rfl,rv⟩
 ·rw [List.getElem?_append_right (by simpa using hi),List.getElem?_replicate] at e
  split at e
  ·cases e;trivial
  ·cases e
def ResOk (H F:Hp) (Q:VK) (E:XK):Rs->Prop
 | .ex C=>∀ dct F' H',Grow F H F' H'->E (.ref C) dct H'
 | .va m d=>∀ v F' H',Grow F H F' H'->d.pr (part m F' H) v->Q v H'
 | .ow m ds=>∀ p ws F' H',Grow F H F' H'->H p=none->F' p=none->H' p=some (.lst ws)->Paired (λv (d:Ds)=>d.pr (part m F' H) v) ws ds->Q (.ref p) H'
theorem zkK {E:XK} {F H:Hp} {N:List Str} {vs:List V} {ds:List Ds} {Q:VK} {t:TS} {r:Rs} (hF:Same F H) (hv:Paired (λv (d:Ds)=>d.pr F v) vs ds) (hq:ResOk H F Q E r) (h:Run (λ_=>E) (startC N ds) t (zlE N.length r)):t { nx:=λ_ H'=>Q .non H',rt:=Q } (start N vs) H:=by
 refine h F H F H _ _ _ (zi6 hF hv) ?_
 cases r with
 | va m d=>exact λv F' H' g q=>hq v F' H' g q
 | ow m ds=>exact λp ws F' H' g h1 h2 h3 q=>hq p ws F' H' g h1 h2 h3 q
 | ex C=>exact λdct F' H' σ own a=>hq dct F' H' a.g
theorem ziQ {E:XK} {F H:Hp} {N:List Str} {vs:List V} {ds:List Ds} {Q:VK} {t:TS} {m:Bool} {Δ:Ctx} (hF:Same F H) (hv:Paired (λv (d:Ds)=>d.pr F v) vs ds) (hq:ResOk H F Q E (.va m dN)) (h:Run (λ_=>E) (startC N ds) t (.nx Δ)):t { nx:=λ_ H'=>Q .non H',rt:=Q } (start N vs) H :=
 h F H F H _ _ _ (zi6 hF hv) λF' H' σ own a=>hq _ F' H' a.g rfl
section
variable {P:Program} {w:World} {K:W.Frag} {mg:Str->Option Value} {base:Heap} {x qual:Str} {st:Stmt} {f:Addr} {fd:FuncData} {N ps:List Str} {k:Nat}
theorem Fun.okV {ι:Type} {args:ι->List Ds} {pre:ι->Prop} {res:ι->Rs} (F:Fun K x qual st f fd) (S:FnScope N ps (zad st)) (hl:∀ i,(args i).length=ps.length)
  (hbody:∀ (cdv:Value) (A:Around) (outer:List Env) (s:Shared) (H:Hp) (E:XK) (i:ι),Room k (A.deeper (envOfC qual (zad st) s.heap.objs.size f cdv))->pre i →
   ∃ t,PSs (zif (CXE P w) P w K mg base N qual (zad st) f cdv A outer s H E).nox (zar st) t∧(Run (λ_=>E) (startC N (args i)) t (zlE N.length (res i))∨∃ m Δ,res i=.va m dN∧Run (λ_=>E) (startC N (args i)) t (.nx Δ))):FnOk P w K mg base (CXE P w) (k+1) f fd ps (Spv args pre res):=by
 refine F.okX S (λvs H Q E ⟨i,F',_,hv,_⟩=>by rw [Paired.length hv];exact hl i) λcdv A outer s H vs Q E hr ⟨i,F',hF,hv,hp,hq⟩=>?_
 obtain ⟨t,h1,h2⟩:=hbody cdv A outer s H E i hr hp
 have hq':ResOk H F' Q E (res i):=by
  cases e:res i with
  | va m d=>rw [e] at hq;exact hq
  | ow m ds=>rw [e] at hq;exact hq
  | ex C=>rw [e] at hq;exact hq
 refine ⟨_,zh4 h1,?_⟩
 rcases h2 with h2 | ⟨m,Δ,e,h2⟩
 ·exact zkK hF hv hq' h2
 ·rw [e] at hq'
  exact ziQ hF hv hq' h2
end
def putD (f:Str) (d:Ds):List (Str×Ds)->List (Str×Ds)
 | []=>[(f,d)]
 | (g,x) :: r=>if g=f then (g,d) :: r else (g,x) :: putD f d r
theorem zgS {R:V->Ds->Prop} {f:Str} {v:V} {d:Ds} (h:R v d):∀ {vs:List (Str×V)} {fs:List (Str×Ds)},Paired (λ(a:Str×V) (b:Str×Ds)=>a.1=b.1∧R a.2 b.2) vs fs->Paired (λ(a:Str×V) (b:Str×Ds)=>a.1=b.1∧R a.2 b.2) (putF f v vs) (putD f d fs)
 | _,_,.nil=>.cons ⟨rfl,h⟩ .nil
 | _,_,.cons (a:=(x,u)) (b:=(y,e)) ⟨h1,h2⟩ t=>by
  have h1:x=y:=h1
  subst h1
  unfold putF putD
  split
  ·exact .cons ⟨rfl,h⟩ t
  ·exact .cons ⟨rfl,h2⟩ (zgS h t)
theorem znl {Γ:Ctx} {i:Nat} {m:Bool} {C p dx:Addr} {fs:List (Str×Ds)} {K:W.Frag} {tv:TE} {d:Ds} {f:Str} {u:TS} {o:Oc} {E:XS} (e:Γ[i]?=some (.ob m C p dx fs)) (h:Ev Γ tv m d) (c:Cls K C) (nf:NoAttr K C f) (hz:fs.length<1000) (k:Run E (Γ.set i (.ob m C p dx (putD f d fs))) u o):Run E Γ (tSeq (zqX K (tVar i) tv f) u) o:=λF0 Hb F H σ own D a q=>by
 refine h F0 Hb F H σ own _ a λv F' H' g qv=>?_
 have a':=a.grow g
 obtain ⟨vs,e1,e2,e3,e4,e5,e6⟩:=a'.sl i _ e
 have hi:i<σ.length:=by rw [a.len];exact (List.getElem?_eq_some_iff.mp e).1
 rw [List.getElem?_eq_getElem hi] at e1
 have e':σ[i]=some (.ref p):=e1
 have ei:σ[i]?=some (some (.ref p)):=by rw [List.getElem?_eq_getElem hi,e']
 exact ⟨_,ei,p,C,dx,vs,rfl,e5.1,c,nf,by rw [Paired.length e6];exact hz,k F0 Hb F' _ σ own D (a'.turnOb e (zgS (R:=λv (d:Ds)=>d.pr (part m F' Hb) v) qv e6)) q⟩
def zlT {ι:Type} (C:Addr) (args:ι->List Ds) (pre:ι->Prop) (m:Bool) (fs:ι->List (Str×Ds)):Sp:=λvs H Q _=>∃ (i:ι) (p dx:Addr) (ws:List V) (H1 F:Hp),vs=.ref p :: ws∧H1 p=none∧H1 dx=none∧dx≠p∧H=upd (upd H1 dx (.own p)) p (.ins C dx [])∧Same F H1 ∧
 Paired (λv (d:Ds)=>d.pr F v) ws (args i)∧pre i∧∀ us F' H',Grow F H1 F' H'->F' p=none->F' dx=none->H' p=some (.ins C dx us)->H' dx=some (.own p)->Paired (λ(a:Str×V) (b:Str×Ds)=>a.1=b.1∧b.2.pr (part m F' H1) a.2) us (fs i)->Q .non H'
def startI (m:Bool) (C p dx:Addr) (N:List Str) (ds:List Ds):Ctx:=.ob m C p dx [] :: (ds.map (.va false)++List.replicate (N.length-(ds.length+1)) .no)
section
variable {P:Program} {w:World} {K:W.Frag} {mg:Str->Option Value} {base:Heap} {x qual:Str} {st:Stmt} {f:Addr} {fd:FuncData} {N ps:List Str} {k:Nat}
theorem zkp {m:Bool} {F H1:Hp} {C p dx:Addr} {N:List Str} {ws:List V} {ds:List Ds} (hF:Same F H1) (hv:Paired (λv (d:Ds)=>d.pr F v) ws ds) (h1:H1 p=none) (h2:H1 dx=none) (h3:dx≠p) :
  At F H1 F (upd (upd H1 dx (.own p)) p (.ins C dx [])) (start N (.ref p :: ws)) (λi=>if i=0 then some p else none) (startI m C p dx N ds):=by
 have hl:=Paired.length hv
 have n1:upd H1 dx (.own p) p=none:=by rw [upd_ne (Ne.symm h3)];exact h1
 have g:Grow F H1 F (upd (upd H1 dx (.own p)) p (.ins C dx [])):=((Grow.refl hF).newH h2).newH n1
 refine ⟨g,λi j q e1 e2=>?_,λi q e=>?_,λi s e=>?_,?_⟩
 ·split at e1
  ·split at e2
   ·omega
   ·cases e2
  ·cases e1
 ·split at e
  ·cases e;rw [upd_same];simp
  ·cases e
 ·cases i with
  | zero =>
   have e':Slot.ob m C p dx []=s:=Option.some.inj e
   subst e'
   exact ⟨[],rfl,rfl,⟨hF.free h1,hF.free h2⟩,⟨h1,h2⟩,⟨upd_same,by rw [upd_ne h3];exact upd_same⟩,.nil⟩
  | succ i =>
   have e:(ds.map (Slot.va false)++List.replicate (N.length-(ds.length+1)) Slot.no)[i]?=some s:=e
   show zeX H1 F _ _ _ ((ws.map some++List.replicate (N.length-(ws.length+1)) none)[i]?).join s
   by_cases hi:i<ds.length
   ·rw [List.getElem?_append_left (by simpa using hi),List.getElem?_map] at e
    rw [List.getElem?_append_left (by simpa [hl] using hi),List.getElem?_map]
    obtain ⟨v,ev,rv⟩:=zbn hv (List.getElem?_eq_getElem hi)
    rw [List.getElem?_eq_getElem hi] at e
    have e':Slot.va false ds[i]=s:=Option.some.inj e
    subst e'
    exact ⟨v,by rw [ev];rfl,rv⟩
   ·rw [List.getElem?_append_right (by simpa using hi),List.getElem?_replicate] at e
    split at e
    ·cases e;trivial
    ·cases e
 ·unfold start startI;simp [hl]
theorem Fun.okI {ι:Type} {C:Addr} {args:ι->List Ds} {pre:ι->Prop} {m:Bool} {fs:ι->List (Str×Ds)} (F:Fun K x qual st f fd) (S:FnScope N ps (zad st)) (hl:∀ i,(args i).length+1=ps.length)
  (hbody:∀ (cdv:Value) (A:Around) (outer:List Env) (s:Shared) (H:Hp) (E:XK) (i:ι),Room k (A.deeper (envOfC qual (zad st) s.heap.objs.size f cdv))->pre i →
   ∃ t,PSs (zif (CXE P w) P w K mg base N qual (zad st) f cdv A outer s H E).nox (zar st) t∧∀ p dx,∃ Δ,Run (λ_=>E) (startI m C p dx N (args i)) t (.nx Δ)∧Δ[0]?=some (.ob m C p dx (fs i))):FnOk P w K mg base (CXE P w) (k+1) f fd ps (zlT C args pre m fs):=by
 refine F.okX S (λvs H Q E ⟨i,p,dx,ws,H1,F',e,_,_,_,_,_,hv,_⟩=>by rw [e,List.length_cons,Paired.length hv];exact hl i) λcdv A outer s H vs Q E hr ⟨i,p,dx,ws,H1,F',e,h1,h2,h3,h4,hF,hv,hp,hq⟩=>?_
 subst e h4
 obtain ⟨t,t1,t2⟩:=hbody cdv A outer s _ E i hr hp
 obtain ⟨Δ,t2,t3⟩:=t2 p dx
 refine ⟨_,zh4 t1,?_⟩
 refine t2 F' H1 F' _ _ _ _ (zkp hF hv h1 h2 h3) λF2 H2 σ2 own2 a2=>?_
 obtain ⟨us,e1,e2,e3,e4,e5,e6⟩:=a2.sl 0 _ t3
 exact hq us F2 H2 a2.g e3.1 e3.2 e5.1 e5.2 e6
end
section
variable {Γ:Ctx} {K:W.Frag} {ds:List Ds} {tr:TA} {E:XK}
theorem ziM {ι:Type} {C:Addr} {args:ι->List Ds} {pre:ι->Prop} {m:Bool} {fs:ι->List (Str×Ds)} (i:ι) (h:EvA Γ tr false ds) (ha:ds=args i) (hp:pre i):Ev Γ (znp C (zlT C args pre m fs) [] E tr) m (dO C (fs i)):=λF0 Hb F H σ own Q a k=>by
 subst ha
 refine h F0 Hb F H σ own _ a λvs F1 H1 g1 q1 p dx h1 h2 h3=>⟨i,p,dx,vs,H1,F1,by rw [List.append_nil],h1,h2,h3,rfl,g1.fh,q1,hp,λus F' H' g n1 n2 e1 e2 e3=>⟨rfl,?_⟩⟩
 have g2:=g1.trans g
 obtain ⟨p0,_,pb⟩:=a.free g1 h1
 obtain ⟨d0,_,db⟩:=a.free g1 h2
 have g3:=(g2.take p0 e1).take d0 e2
 have s1:Same F' (upd F' p (.ins C dx us)):=Same.new n1 _
 have n3:upd F' p (.ins C dx us) dx=none:=by rw [upd_ne h3];exact n2
 have s2:Same F' (upd (upd F' p (.ins C dx us)) dx (.own p)):=s1.trans (Same.new n3 _)
 refine k _ _ _ g3 ⟨p,dx,us,rfl,zdw pb (by rw [upd_ne (Ne.symm h3)];exact upd_same),zdw db upd_same,?_⟩
 exact zcy (λ_ b q=>⟨q.1,b.2.up ((zfW (a.g.h.trans g1.h)).trans (part_up s2)) q.2⟩) e3
end
end L2
namespace L2
open PySem PySem.Spec PyProof.Rows
def Ite (K:W.Frag) (a:Addr):It :=
 ⟨λi H=>∃ xs x,SqL K H a xs∧xs[i]?=some x,
  λi H v H'=>∃ p x,v=.ref p∧H p=none∧H'=upd H p (.tup [.int (i:Int),x])∧∀ xs,SqL K H a xs->xs[i]?=some x,
  λi H=>∃ xs,SqL K H a xs∧xs.length≤i⟩
theorem zlC {P:Program} {w:World} {K:W.Frag} {elts:List Expr} {x1:Nat} {tp:Pos} {a e it:Addr} (hne:e≠it) :
  Turn P w K (.Tuple elts x1 tp) (Ite K a) [e,it] e (λi h=>(∃ old,IsEnum h e it (i:Int) old)∧h.IsListIter it a i) where
 mem:=by simp
 obj:=λi h st c hc=>by
  obtain ⟨⟨old,he⟩,⟨o1,e1,_,d1⟩⟩:=st
  simp only [List.mem_cons,List.not_mem_nil,or_false] at hc
  rcases hc with rfl | rfl
  ·exact ⟨_,he,λv z=>by cases z⟩
  ·exact ⟨o1,e1,λv z=>by rw [d1] at z;cases z⟩
 keep:=λi h h' st k=>by
  obtain ⟨⟨old,he⟩,h1⟩:=st
  exact ⟨⟨old,k e (by simp) _ he⟩,h1.at λo q=>k it (by simp) o q⟩
 item:=by
  intro X hP hw hK hc i pins s σ H E I hf st hg
  subst hP hw hK
  obtain ⟨xs,x,hxs,hx⟩:=hg
  obtain ⟨itx,rx,px,hzx⟩:=I.list hxs
  obtain ⟨u,hu,ru⟩:=rx.get hx
  obtain ⟨⟨old,he⟩,h1⟩:=st
  refine wpAny_pyNext_enum_item (x:=u) he h1 px.isList (by simpa using hu) hne λh' a1 a2 a3 a4 hk=>?_
  refine ⟨_,rfl,wpAny_letOwnedTupleGo_enum a1 λh'' b1 b2=>?_⟩
  have elt:e<s.heap.objs.size:=Heap.lt_size he
  have itl:it<s.heap.objs.size:=by obtain ⟨_,q,_⟩:=h1;exact Heap.lt_size q
  have tup:h''.get? s.heap.objs.size=some { cls:=.type "tuple",data:=.seq #[.int i s.toks,u] }:=b2.extBut _ _ (Nat.ne_of_gt elt) a3
  have I1:Inv X pins σ (upd H s.heap.objs.size (.tup [.int (i:Int),x])) { s with heap:=h'',toks:=s.toks+1 }:=by
   refine I.turnedNew (t':=s.toks+1) (ch:=[e,it]) (λc hc=>hf c hc) (λc ob hc q=>?_) (Nat.le_refl _) ?_
   ·simp only [List.mem_cons,List.not_mem_nil,or_false,not_or] at hc
    exact b2.extBut _ _ hc.1 (hk c ob hc.1 hc.2 q)
   ·exact ⟨by show 2≤sizeLine;decide,[.int i s.toks,u],.cons ⟨_,rfl⟩ (.cons ru .nil),⟨_,tup,rfl,_,rfl⟩⟩
  refine ⟨.ref s.heap.objs.size,_,I1,rfl,⟨_,x,rfl,I.hok.fresh (Nat.le_refl _),rfl,λxs' q1=>?_⟩,⟨⟨u,?_⟩,a2.extBut b2.extBut (Ne.symm hne)⟩,λc hc=>?_⟩
  ·rw [I.list_inj q1 hxs];exact hx
  ·exact b1
  ·have:c≠s.heap.objs.size:=by
    simp only [List.mem_cons,List.not_mem_nil,or_false] at hc
    rcases hc with rfl | rfl
    ·exact Nat.ne_of_lt elt
    ·exact Nat.ne_of_lt itl
   rw [upd_ne this];exact (hf c hc).1
 done:=by
  intro X hP hw hK hc i pins s σ H E I hf st hg
  subst hP hw hK
  obtain ⟨xs,hxs,hend⟩:=hg
  obtain ⟨itx,rx,px,hzx⟩:=I.list hxs
  obtain ⟨⟨old,he⟩,h1⟩:=st
  have lx:=rx.length
  refine wpAny_pyNext_enum_end (I.ok.hd hc) he h1 px.isList (by simp;omega) λh' hk=>⟨rfl,?_⟩
  refine I.turnedL (t':=s.toks) (ch:=[e,it]) (λc hc=>hf c hc) (λc ob hc q=>?_)
  simp only [List.mem_cons,List.not_mem_nil,or_false,not_or] at hc
  exact hk c ob hc.2 q
 self:=λ_ _ _ _ _ st h=>by obtain ⟨⟨old,he⟩,_⟩:=st;exact wpAny_pyIter_enum he h
section
variable {X:Cx} {K:W.Frag}
def zo3 (K:W.Frag) (ta:TA):TI:=λσ H R=>ta σ H λvs H1=>∃ a,vs=[.ref a]∧(∃ xs,SqL K H1 a xs)∧R (Ite K a) H1
theorem zgw {a:Expr} {ta:TA} {p pos tp:Pos} {elts:List Expr} {x1:Nat} (hK:X.K=K) (hg:Gl X "enumerate") (hm:X.mg "enumerate"=none) (ha:PA X [a] ta) (hs:starEach [a] X.env=[(false,eval a X.env)]:=by rfl) :
  PI X (.Tuple elts x1 tp) (.Call (.Name "enumerate" p) [a] [] pos) (zo3 K ta):=by
 subst hK
 intro pins s σ H R I h
 refine Call_ (ld_blt I hg hm boot_enumerate (PyProof.Rows.callWith_type1 (thn (ha pos pins s σ H _ I h) λus s1 ⟨vs,H1,I1,r1,q1⟩=>?_) (by rw [hs];rfl) rfl))
 obtain ⟨l,e,⟨xs,hx⟩,q⟩:=q1
 subst e
 cases r1 with
 | cons r rr =>
  cases rr
  cases r
  obtain ⟨itx,rx,px,hzx⟩:=I1.list hx
  refine call_enumerate_list px.isList λh' he h1 hsz hk=>wpAny_pyIter_enum he ?_
  have hne:(s1.heap.objs.size+1:Nat)≠s1.heap.objs.size:=by omega
  refine ⟨s1.heap.objs.size+1,[s1.heap.objs.size+1,s1.heap.objs.size],_,Ite X.K l,H1,rfl,I1.kept (t':=s1.toks) hk,zlC hne,⟨⟨_,he⟩,h1⟩,λc hc=>?_,q⟩
  have hle:@LE.le Nat _ s1.heap.objs.size c:=by
   simp only [List.mem_cons,List.not_mem_nil,or_false] at hc
   rcases hc with rfl | rfl<;>omega
  exact I1.fpOk hle (I1.hok.fresh hle)
end
def Itv (K:W.Frag) (a:Addr) (n:Nat):It :=
 ⟨λi H=>i<n∧∃ xs x,SqL K H a xs∧xs.length=n∧xs[n-1-i]?=some x,λi H x H'=>H'=H∧∀ xs,SqL K H a xs->xs[n-1-i]?=some x,λi _=>i=n⟩
theorem zlM {P:Program} {w:World} {K:W.Frag} {tg:Expr} (a it:Addr) (n:Nat):Turn P w K tg (Itv K a n) [it] it (λi h=>h.IsRevIter it a ((n:Int)-1-(i:Int))) where
 mem:=by simp
 obj:=λi h st b hb=>by
  have e:b=it:=by simpa using hb
  subst e
  obtain ⟨o,e,c,d⟩:=st
  exact ⟨o,e,λv z=>by rw [d] at z;cases z⟩
 keep:=λi h h' st k=>st.at λo e=>k it (by simp) o e
 item:=by
  intro X hP hw hK hc i pins s σ H E I hf st hg
  subst hP hw hK
  obtain ⟨hi,xs,x,hq,hn,hx⟩:=hg
  obtain ⟨its,rv,p,hz⟩:=I.list hq
  obtain ⟨u,hu,ru⟩:=rv.get hx
  obtain ⟨f0,f1,f2,f3,f4,f5⟩:=hf it (by simp)
  have e1:(n:Int)-1-(i:Int)=((n-1-i:Nat):Int):=by omega
  have e2:((n-1-i:Nat):Int)-1=(n:Int)-1-((i+1:Nat):Int):=by omega
  rw [e1] at st
  refine wpAny_pyNext_rev_item st p.isList (x:=u) (by simpa using hu) λh' st' sb=>?_
  rw [e2] at st'
  have I1:Inv X pins σ H { s with heap:=h' }:=I.turned (t':=s.toks) (λb o hb e=>(sb.2 b hb).trans e) f0 f1 f3 f4 f5
  obtain ⟨o,e,c,d⟩:=id st'
  exact ⟨u,rfl,zoB (s:={ s with heap:=h' }) e c d (by decide) ⟨x,H,I1,ru,⟨rfl,λys hy=>by rw [I.list_inj hy hq];exact hx⟩,st',λb hb=>(hf b hb).1⟩⟩
 done:=by
  intro X hP hw hK hc i pins s σ H E I hf st hg
  subst hP hw hK
  have hg:i=n:=hg
  subst hg
  obtain ⟨f0,f1,f2,f3,f4,f5⟩:=hf it (by simp)
  have e1:(i:Int)-1-(i:Int)=-1:=by omega
  rw [e1] at st
  exact wpAny_pyNext_rev_end (I.ok.hd hc) st λh' eb=>⟨rfl,I.turned (t':=s.toks) (λb o hb e=>eb b o hb e) f0 f1 f3 f4 f5⟩
 self:=λ_ _ _ _ _ st h=>wpAny_pyIter_revIter st h
section
variable {X:Cx} {K:W.Frag}
def zri (K:W.Frag) (ta:TA):TI:=λσ H R=>ta σ H λvs H1=>∃ a xs,vs=[.ref a]∧SqL K H1 a xs∧R (Itv K a xs.length) H1
theorem zmV {a tg:Expr} {ta:TA} {p pos:Pos} (hK:X.K=K) (hg:Gl X "reversed") (hm:X.mg "reversed"=none) (ha:PA X [a] ta) (hs:starEach [a] X.env=[(false,eval a X.env)]:=by rfl) :
  PI X tg (.Call (.Name "reversed" p) [a] [] pos) (zri K ta):=by
 subst hK
 intro pins s σ H R I h
 refine Call_ (ld_blt I hg hm boot_reversed (PyProof.Rows.callWith_type1 (thn (ha pos pins s σ H _ I h) λus s1 ⟨vs,H1,I1,r1,q1⟩=>?_) (by rw [hs];rfl) rfl))
 obtain ⟨l,xs,e,hx,q⟩:=q1
 subst e
 cases r1 with
 | cons r rr =>
  cases rr
  cases r
  obtain ⟨itx,rx,px,hzx⟩:=I1.list hx
  have hl:=rx.length
  refine call_reversed_list px.isList ?_
  have ho:=Heap.get?_push_size s1.heap (o:=revObj l ((itx.toArray.size:Int)-1)) rfl
  have st:(s1.heap.push (revObj l ((itx.toArray.size:Int)-1))).IsRevIter s1.heap.objs.size l ((xs.length:Int)-1-((0:Nat):Int)):=⟨_,ho,rfl,by rw [List.size_toArray,← hl];simp [revObj]⟩
  refine wpAny_pyIter_revIter st ?_
  refine ⟨s1.heap.objs.size,[s1.heap.objs.size],_,Itv X.K l xs.length,H1,rfl,I1.kept (t':=s1.toks) (λb o e=>Heap.get?_push_of_some _ e),zlM l s1.heap.objs.size xs.length,st,λc hc=>?_,q⟩
  have hle:@LE.le Nat _ s1.heap.objs.size c:=by
   simp only [List.mem_cons,List.not_mem_nil,or_false] at hc
   rw [hc];exact Nat.le_refl _
  exact I1.fpOk hle (I1.hok.fresh hle)
theorem zkT (hK:X.K=K) (hc:X.calm=true):ze3 X (.builtin "any") (λxs H Q=>∃ (a:Addr) (ns:List Int),xs=[.ref a]∧SqL K H a (ns.map V.int)∧Q (.bl (ns.any (· != 0))) H):=by
 subst hK
 intro pins s σ H xs us Q I r h
 obtain ⟨a,bs,rfl,hq,q⟩:=h
 obtain ⟨u,rfl,rx⟩:=zlr r
 cases rx
 obtain ⟨its,rv,p,hz⟩:=I.list hq
 have hl:=rv.length
 rw [List.length_map] at hl
 have alt:a<s.heap.objs.size:=by obtain ⟨o,e,_⟩:=p.isList;exact Heap.lt_size e
 have hl1:(s.heap.push { cls:=.type "list_iterator",data:=.fields #[.ref a,.int 0 0] }).IsList a its.toArray:=Heap.IsList.push p.isList _
 refine call_any_walk (wpAny_pyIter_list p.isList ?_)
 refine ⟨s.heap.objs.size,[s.heap.objs.size,a],[s.heap.objs.size],its.toArray.size,_,_,λi=>(bs[i]?).getD 0 != 0,rfl,Walks.list (A:=X.A.in1) (I.ok.hd hc) s.heap.objs.size a (Nat.ne_of_lt alt) its.toArray,⟨⟨_,Heap.get?_push_size _ rfl,rfl,rfl⟩,hl1⟩,λi v s' Q' E' hv hQ'=>?_,λh' tk hk=>?_⟩
 ·have hv':its[i]?=some v:=by simpa using hv
  have hi:i<its.length:=(List.getElem?_eq_some_iff.mp hv').1
  obtain ⟨u,hu,ru⟩:=rv.get (i:=i) (x:=.int (bs[i]'(by omega))) (by rw [List.getElem?_map,List.getElem?_eq_getElem (by omega)];rfl)
  rw [hv'] at hu
  cases hu
  obtain ⟨t,rfl⟩:=ru
  have e:(bs[i]?).getD 0=bs[i]'(by omega):=by rw [List.getElem?_eq_getElem (show i<bs.length by omega)];rfl
  have hQ2:Q' ((bs[i]?).getD 0 != 0) s':=hQ'
  rw [e] at hQ2
  exact PySem.P.truthy_int hQ2
 ·have e:(List.range its.toArray.size).any (λi=>(bs[i]?).getD 0 != 0)=bs.any (· != 0):=by
   rw [List.size_toArray,← hl,Bool.eq_iff_iff,List.any_eq_true,List.any_eq_true]
   constructor
   ·rintro ⟨i,hi,z⟩
    have hi':=List.mem_range.mp hi
    rw [List.getElem?_eq_getElem hi'] at z
    exact ⟨_,List.getElem_mem hi',z⟩
   ·rintro ⟨x,hx,z⟩
    obtain ⟨i,hi,rfl⟩:=List.getElem_of_mem hx
    exact ⟨i,List.mem_range.mpr hi,by rw [List.getElem?_eq_getElem hi];exact z⟩
  rw [e]
  exact ⟨.bl _,H,I.kept (h':=h') (t':=tk) λb o e=>hk b o (by simp only [List.mem_singleton];exact Nat.ne_of_lt (Heap.lt_size e)) (Heap.get?_push_of_some _ e),rfl,q⟩
end
section
variable {Γ:Ctx} {m:Bool} {K:W.Frag} {γ:Type}
def zc1 {α:Type} (xs:List α):List (Int×α):=(rngZ 0 xs.length).zip xs
theorem zdI {α:Type} {xs:List α}:(zc1 xs).length=xs.length:=by simp [zc1,List.length_zip,zb1]
theorem zcP {α:Type} {xs:List α} {i:Nat} {p:Int×α} (h:(zc1 xs)[i]?=some p):i<xs.length∧p.1=i∧xs[i]?=some p.2:=by
 obtain ⟨h1,h2⟩:=zcW h
 obtain ⟨h3,h4⟩:=zc2 h1
 exact ⟨h3,by rw [h4];omega,h2⟩
theorem zgA {tl:TE} {j1 j2:Nat} {xs:List γ} (f:γ->Ds) (h:Ev Γ tl m (dQ K (xs.map f))) :
  Iv Γ (zo3 K (tCons tl tNil)) (zql K 2 (zj2 (zd7 j1) (zj2 (zd7 j2) zqC))) [j1,j2] (zc1 xs) (λx=>[dI x.1,f x.2]) m:=λF0 Hb F H σ own R a k =>
 h F0 Hb F H σ own _ a λu F1 H1 g1 ⟨p,vs,e1,e2,e3⟩=>by
  have e2':SqL K F1 p vs:=part_sub.seq e2
  have le:=Paired.length e3
  rw [List.length_map] at le
  refine ⟨p,by rw [e1],⟨vs,g1.fh.seq e2'⟩,k _ F1 H1 g1 λH hs=>⟨⟨vs,hs.seq e2',by rw [le,zdI];exact Nat.le_refl _⟩,λi x ex=>?_⟩⟩
  obtain ⟨hi,x1,x2⟩:=zcP ex
  obtain ⟨v,ev,qv⟩:=zbn e3 (show (xs.map f)[i]?=some (f x.2) by rw [List.getElem?_map,x2];rfl)
  refine ⟨⟨vs,v,hs.seq e2',ev⟩,λz H' y=>?_⟩
  obtain ⟨r,x',rfl,hr,rfl,hxy⟩:=y
  have hx:=hxy vs (hs.seq e2')
  rw [ev] at hx
  cases hx
  exact ⟨(Grow.refl hs).newH hr,λσ Q k=>⟨r,_,rfl,.inl (.inl upd_same),rfl,_,_,rfl,_,_,rfl,rfl,k [.int i,v] (.cons (by show V.int _=V.int _;rw [x1]) (.cons qv .nil))⟩⟩
theorem zmW {tl:TE} {j:Nat} {xs:List γ} (f:γ->Ds) (h:Ev Γ tl m (dQ K (xs.map f))):Iv Γ (zri K (tCons tl tNil)) (zd7 j) [j] xs.reverse (λx=>[f x]) m:=λF0 Hb F H σ own R a k =>
 h F0 Hb F H σ own _ a λu F1 H1 g1 ⟨p,vs,e1,e2,e3⟩=>by
  have e2':SqL K F1 p vs:=part_sub.seq e2
  have le:=Paired.length e3
  rw [List.length_map] at le
  refine ⟨p,vs,by rw [e1],g1.fh.seq e2',k _ F1 H1 g1 λH hs=>⟨by show xs.reverse.length=vs.length;rw [List.length_reverse,le],λi x ex=>?_⟩⟩
  have hi:i<xs.length:=by simpa using (List.getElem?_eq_some_iff.mp ex).1
  rw [List.getElem?_reverse hi] at ex
  obtain ⟨v,ev,qv⟩:=zbn e3 (show (xs.map f)[xs.length-1-i]?=some (f x) by rw [List.getElem?_map,ex];rfl)
  rw [← le] at ev
  refine ⟨⟨by rw [le];exact hi,vs,v,hs.seq e2',rfl,ev⟩,λw H' y=>?_⟩
  obtain ⟨rfl,y⟩:=y
  have:=y vs (hs.seq e2')
  rw [ev] at this
  cases this
  exact ⟨Grow.refl hs,λσ Q k=>k [v] (.cons qv .nil)⟩
theorem zpG {xs:List Int} {t:TE} (h1:Ev Γ t false (dQ K (xs.map dI))):Ev Γ (tCB (λxs H Q=>∃ (a:Addr) (ns:List Int),xs=[.ref a]∧SqL K H a (ns.map V.int)∧Q (.bl (ns.any (· != 0))) H) (tCons t tNil)) m (dB (xs.any (· != 0))):=λF0 Hb F H σ own Q a k =>
 h1 F0 Hb F H σ own _ a λu F1 H1 g1 ⟨p,vs,e1,e2,e3⟩=>⟨p,xs,by rw [e1],by rw [← zeM e3];exact g1.fh.seq e2,k _ F1 H1 g1 rfl⟩
end
end L2
namespace L2
open PySem PySem.Spec PyProof.Rows
theorem Ev.any {Γ:Ctx} {t:TE} {m n:Bool} {v:V} (h:Ev Γ t m (dV v)):Ev Γ t n (dV v):=λF0 Hb F H σ own Q a k=>h F0 Hb F H σ own Q a λu F' H' g q=>k u F' H' g q
theorem zkm {α:Type} {R R':Hp} {g:α->V} {vs:List V} {xs:List α} (h:Paired (λv (d:Ds)=>d.pr R v) vs (xs.map λx=>dV (g x))):Paired (λv (d:Ds)=>d.pr R' v) vs (xs.map λx=>dV (g x)):=by
 rw [zeM h]
 clear h
 induction xs with
 | nil=>exact .nil
 | cons x xs ih=>exact .cons rfl ih
theorem EvO.anyV {Γ:Ctx} {t:TE} {m n:Bool} {α:Type} {g:α->V} {xs:List α} (h:EvO Γ t m (xs.map λx=>dV (g x))):EvO Γ t n (xs.map λx=>dV (g x)):=λF0 Hb F H σ own Q a k=>h F0 Hb F H σ own Q a λp vs F' H' g h1 h2 h3 q=>k p vs F' H' g h1 h2 h3 (zkm q)
theorem EvO.anyI {Γ:Ctx} {t:TE} {m n:Bool} {xs:List Int} (h:EvO Γ t m (xs.map dI)):EvO Γ t n (xs.map dI):=EvO.anyV h
theorem EvO.anyB {Γ:Ctx} {t:TE} {m n:Bool} {xs:List Bool} (h:EvO Γ t m (xs.map dB)):EvO Γ t n (xs.map dB):=EvO.anyV h
theorem EvO.anyS {Γ:Ctx} {t:TE} {m n:Bool} {xs:List Str} (h:EvO Γ t m (xs.map dS)):EvO Γ t n (xs.map dS):=EvO.anyV h
section
variable {X:Cx}
def zcT (i j:Int):Prop:=(-(2^64)<i∧i<2^64)∨(-(2^64)<j∧j<2^64)∨(i.natAbs.log2<60000000∧j.natAbs.log2<60000000)
theorem zkW {a b:Int} (ha:Builtin.Int.intBits a≤60000000) (hb:Builtin.Int.intBits b≤60000000):IntMulOk a b:=by
 have h:Builtin.Int.intTooBig (Builtin.Int.intBits a+Builtin.Int.intBits b)=false:=by
  unfold Builtin.Int.intTooBig bitsLine
  exact decide_eq_false (by omega)
 unfold IntMulOk
 rw [h]
 simp
theorem zbG:OpR X (binaryOp .Mult) (rI zcT λi j=>.int (i*j)):=opI λ_ _ _ _ _ _ _ hc q=>mul_int q (by
 rcases hc with h | h | h
 ·exact .of_left (intBits_le_64 h.1 h.2)
 ·exact .of_right (intBits_le_64 h.1 h.2)
 ·exact zkW (zkn h.1) (zkn h.2))
end
def ixD {α:Type} [Inhabited α] (xs:List α) (i:Int):α:=(atI xs i).getD default
def InB (n:Nat) (i:Int):Prop:=-(n:Int)≤i∧i<n
theorem zlq {n:Nat} {i:Int} (h:InB n i):∃ j,ixN n i=some j∧j<n∧(0≤i->j=i.toNat):=by
 unfold InB at h
 unfold ixN
 by_cases h0:0≤i
 ·rw [if_pos h0,if_pos h.2];exact ⟨_,rfl,by omega,λ_=>rfl⟩
 ·rw [if_neg h0,if_pos h.1];exact ⟨_,rfl,by omega,λz=>absurd z h0⟩
theorem zkH {α:Type} [Inhabited α] {xs:List α} {i:Int} (h:InB xs.length i):atI xs i=some (ixD xs i):=by
 obtain ⟨j,e,hj,_⟩:=zlq h
 unfold ixD atI
 rw [e]
 show xs[j]?=some (xs[j]?.getD default)
 rw [List.getElem?_eq_getElem hj];rfl
theorem zkQ {α:Type} [Inhabited α] {xs:List α} {n:Nat} {x:α} (h:xs[n]?=some x):ixD xs (n:Int)=x:=by
 have hn:n<xs.length:=(List.getElem?_eq_some_iff.mp h).1
 unfold ixD atI ixN
 rw [if_pos (by omega),if_pos (by omega)]
 show (xs[(n:Int).toNat]?).getD default=x
 rw [Int.toNat_natCast,h];rfl
theorem zeh {α:Type} [Inhabited α] {xs:List α} {i:Int} (h:InB xs.length i):ixD xs i∈xs:=by
 have:=zkH h
 unfold atI at this
 obtain ⟨j,e,hj,_⟩:=zlq h
 rw [e] at this
 exact List.mem_of_getElem? this
def setZ {α:Type} (xs:List α) (i:Int) (x:α):List α:=match ixN xs.length i with
 | some n=>xs.set n x
 | none=>xs
theorem setZ_len {α:Type} {xs:List α} {i:Int} {x:α}:(setZ xs i x).length=xs.length:=by
 unfold setZ;split<;>simp
def zdp {α:Type} (n:Int) (xs:List α):List α:=(List.replicate n.toNat xs).flatten
def dOpt {α:Type} (f:α->Ds):Option α->Ds
 | none=>dN
 | some x=>f x
def NN {α:Type} (f:α->Ds):Prop:=∀ x H v,(f x).pr H v->v≠.non
theorem NN.lst {α:Type} {f:α->Ds}:NN (λxs:List α=>dL (xs.map f)):=λ_ _ _ ⟨_,_,e,_⟩=>by rw [e];simp
theorem NN.tup {α:Type} {f:α->List Ds}:NN (λx=>dT (f x)):=λ_ _ _ ⟨_,_,e,_⟩=>by rw [e];simp
theorem NN.obj {α:Type} {C:Addr} {f:α->List (Str×Ds)}:NN (λx=>dO C (f x)):=λ_ _ _ ⟨_,_,_,e,_⟩=>by rw [e];simp
section
variable {E:XS} {Γ:Ctx} {m:Bool} {K:W.Frag} {α β γ:Type} {f:α->Ds} {t ta tb te:TE} {u r:TS} {o:Oc} {xs ys:List α} {i:Nat}
theorem zbT [Inhabited α] {j:Int} (h1:Ev Γ ta m (dQ K (xs.map f))) (h2:Ev Γ tb false (dI j)) (h:InB xs.length j):Ev Γ (tOp (zoK K) ta tb) m (f (ixD xs j)):=zqz h1 h2 (zkM (zkH h))
theorem zbr {n:Bool} (h1:Ev Γ t false (dQ K (xs.map f))):Ev Γ (tCB (λxs H Q=>∃ p ys,xs=[.ref p]∧(SqL K H p ys∨SqT K H p ys)∧Q (.int ys.length) H) (tCons t tNil)) n (dI (xs.length:Nat)):=(zoS h1).conv (by rw [List.length_map])
theorem zdi {tl th:TO} {lo hi:Option Int} (h1:Ev Γ t m (dQ K (xs.map f))) (h2:EvP Γ tl lo) (h3:EvP Γ th hi):EvO Γ (tSl (zqk K) t tl th) m ((zbH xs lo hi).map f):=(zoQ h1 h2 h3).conv zlP.symm
theorem zbz (h1:Ev Γ ta m (dL (xs.map f))) (h2:Ev Γ tb m (dL (ys.map f))) (hz:xs.length+ys.length≤sizeLine):EvO Γ (tOp zra ta tb) m ((xs++ys).map f):=(zp8 h1 h2 (by rw [List.length_map,List.length_map];exact hz)).conv (List.map_append ..).symm
theorem zga {n:Nat}:(List.replicate n (xs.map f)).flatten=((List.replicate n xs).flatten).map f:=by
 induction n with
 | zero=>rfl
 | succ n ih=>rw [List.replicate_succ,List.replicate_succ,List.flatten_cons,List.flatten_cons,List.map_append,ih]
theorem ziB {n:Int} (h1:Ev Γ ta m (dL (xs.map f))) (h2:Ev Γ tb false (dI n)) (hn:-(2^63)≤n∧n<2^63) (hz:xs.length*n.toNat≤sizeLine):EvO Γ (tOp zqL ta tb) m ((zdp n xs).map f):=(zpA h1 h2 hn (by rw [List.length_map];exact hz)).conv zga
theorem zgi {x:Option α} {n:Bool} (h1:Ev Γ ta false (dOpt f x)) (h2:Ev Γ tb false dN) (hf:NN f):Ev Γ (tOp (λx y H Q=>y=.non∧Q (.bl (decide (x=.non))) H) ta tb) n (dB x.isNone):=zp1 h1 h2 λH v q=>by
 cases x with
 | none=>rw [show v=V.non from q];rfl
 | some x=>exact decide_eq_false (hf x H v q)
theorem zgG [Inhabited α] {j:Int} (e:Γ[i]?=some (.ow m (xs.map f))) (h2:Ev Γ tb false (dI j)) (h:InB xs.length j):Ev Γ (tOp (zoK K) (tVar i) tb) m (f (ixD xs j)):=zl3 (n:=m) e h2 (zkM (zkH h))
theorem zdP {n:Bool} (e:Γ[i]?=some (.ow m (xs.map f))):Ev Γ (tCB (λxs H Q=>∃ p ys,xs=[.ref p]∧(SqL K H p ys∨SqT K H p ys)∧Q (.int ys.length) H) (tCons (tVar i) tNil)) n (dI (xs.length:Nat)):=(zks (n:=n) e).conv (by rw [List.length_map])
theorem zcE {x:α} (e:Γ[i]?=some (.ow m (xs.map f))) (h:Ev Γ te m (f x)) (hz:xs.length<sizeLine) (k:Run E (Γ.set i (.ow m ((xs++[x]).map f))) u o):Run E Γ (tSeq (tDrop (tBM K "list" rAppend (tVar i) (tCons te tNil))) u) o :=
 zjx e h (by rw [List.length_map];exact hz) (by rw [List.map_append] at k;exact k)
theorem zfj {tj:TE} {x:α} {j:Int} (e:Γ[i]?=some (.ow m (xs.map f))) (h:Ev Γ te m (f x)) (hj:Ev Γ tj false (dI j)) (hb:InB xs.length j) (k:Run E (Γ.set i (.ow m ((setZ xs j x).map f))) u o):Run E Γ (tSeq (zkt te (zqj (tVar i) tj zlS)) u) o:=by
 obtain ⟨n,en,hn,_⟩:=zlq hb
 refine zkr (n:=n) e h hj (by rw [List.length_map];exact en) ?_
 unfold setZ at k
 rw [en] at k
 rw [← List.map_set]
 exact k
theorem zg0 {tj:TE} {x:α} {j:Int} (fo:β->Oc) {kk:List α->β} (e:Γ[i]?=some (.ow m (xs.map f))) (h:Ev Γ te m (f x)) (hj:Ev Γ tj false (dI j)) (hb:InB xs.length j) (k:∀ y,y=setZ xs j x->Run E (Γ.set i (.ow m (y.map f))) u (fo (kk y))):Run E Γ (tSeq (zkt te (zqj (tVar i) tj zlS)) u) (fo (Let (setZ xs j x) kk)) :=
 zfj e h hj hb (k _ rfl)
theorem zct {x:α} (G:α->Ctx) (fo:β->Oc) {kk:α->β} (k:∀ y,y=x->Run E (G y) u (fo (kk y))):Run E (G x) u (fo (Let x kk)):=k x rfl
def zoI (o:Oc):Prop:=(∃ m d,o=.rt m d)∨(∃ m ds,o=.rl m ds)∨∃ C Γ,o=.ex C Γ
theorem zoI.meets (h:zoI o) {F0 Hb:Hp} {D D':Ends} (e:D.rt=D'.rt) (q:zfP E F0 Hb D o):zfP E F0 Hb D' o:=by
 rcases h with ⟨m,d,rfl⟩ | ⟨m,ds,rfl⟩ | ⟨C,Γ',rfl⟩
 ·exact λv F H g p=>e ▸ q v F H g p
 ·exact λp vs F H g h1 h2 h3 h4=>e ▸ q p vs F H g h1 h2 h3 h4
 ·exact q
def LetR {S:Type} (x:S ⊕ β) (k:S->α) (w:β->α):α:=match x with
 | .inl s=>k s
 | .inr b=>w b
theorem ziT {f:Str} {d:Ds}:∀ {fs:List (Str×Ds)} {ns:List Str},fs.map Prod.fst=ns->ns.contains f=false->putD f d fs=fs++[(f,d)]
 | [],_,_,_=>rfl
 | (g,e) :: r,_,rfl,h=>by
  have h':f≠g∧f ∉ r.map Prod.fst:=by simpa using h
  unfold putD
  rw [if_neg (Ne.symm h'.1),ziT rfl (by simpa using h'.2)]
  rfl
theorem zdy {C p dx:Addr} {fs:List (Str×Ds)} {tv:TE} {d:Ds} {f:Str} (e:Γ[i]?=some (.ob m C p dx fs)) (h:Ev Γ tv m d) (c:Cls K C) (nf:NoAttr K C f) (ns:List Str) (hns:fs.map Prod.fst=ns) (hn:ns.contains f=false) (hz:ns.length<1000) (k:Run E (Γ.set i (.ob m C p dx (fs++[(f,d)]))) u o) :
  Run E Γ (tSeq (zqX K (tVar i) tv f) u) o:=znl e h c nf (by rw [← List.length_map (f:=Prod.fst),hns];exact hz) (by rw [ziT hns hn];exact k)
theorem zgW {S:Type} (f:S->γ->S):∀ (xs:List γ) (s:S),loopR (β:=Empty) (λs x=>.inl (f s x)) s xs=.inl (xs.foldl f s)
 | [],_=>rfl
 | x :: xs,s=>zgW f xs (f s x)
theorem zhK {S:Type} {f:S->γ->S} {I:Nat->S->Prop}:∀ {xs:List γ} {s:S} {n:Nat},I n s->(∀ (i:Nat) (x:γ) (s:S),xs[i]?=some x->I (n+i) s->I (n+i+1) (f s x))->I (n+xs.length) (xs.foldl f s)
 | [],s,n,h,_=>h
 | x :: xs,s,n,h,k=>by
  have h1:=k 0 x s rfl h
  have:=zhK (xs:=xs) (s:=f s x) (n:=n+1) h1 λi y s' e q=>by
   have:=k (i+1) y s' (by simpa using e) (by rw [show n+(i+1)=n+1+i by omega];exact q)
   rw [show n+1+i+1=n+(i+1)+1 by omega];exact this
  rw [List.length_cons,show n+(xs.length+1)=n+1+xs.length by omega]
  exact this
theorem zc0 {S:Type} {wi:TI} {g:TG} {tb:TS} {js:List Nat} {xs:List γ} {bds:γ->List Ds} {mi:Bool} {s0:S} (G:S->Ctx) (fo:β->Oc) {kk:S->β} (f:S->γ->S) (I:Nat->S->Prop) (it:Iv Γ wi g js xs bds mi) (w:Wk Γ (G s0)) (h0:I 0 s0)
  (body:∀ (i:Nat) (x:γ) (s:S),xs[i]?=some x->I i s->I (i+1) (f s x)∧Run E (zmf js (bds x) mi (G s)) tb (.nx (G (f s x)))) (k:∀ s,s=xs.foldl f s0->I xs.length s->Run E (G s) u (fo (kk s))):Run E Γ (tSeq (zqi wi g tb) u) (fo (Let (xs.foldl f s0) kk)):=by
 refine zku (Δ:=G (xs.foldl f s0)) ?_ (k _ rfl (by simpa using zhK (n:=0) (I:=I) h0 λi x s e q=>by rw [Nat.zero_add] at q ⊢;exact (body i x s e q).1))
 have:=zll (β:=Empty) G (λz=>z.elim) (λs x=>.inl (f s x)) I it w h0 (λb=>b.elim) λi x s e q=>⟨λs' z=>by cases z;exact (body i x s e q).1,(body i x s e q).2⟩
 rw [zgW] at this
 exact this
theorem zhX {S:Type} {f:S->γ->S ⊕ β} {I:Nat->S->Prop}:∀ {xs:List γ} {s s':S} {n:Nat},I n s->(∀ (i:Nat) (x:γ) (s:S),xs[i]?=some x->I (n+i) s->∀ s',f s x=.inl s'->I (n+i+1) s')->loopR f s xs=.inl s'->I (n+xs.length) s'
 | [],s,s',n,h,_,e=>by cases e;exact h
 | x :: xs,s,s',n,h,k,e=>by
  unfold loopR at e
  cases q:f s x with
  | inr b=>rw [q] at e;cases e
  | inl s1 =>
   rw [q] at e
   have h1:=k 0 x s rfl h s1 q
   have:=zhX (xs:=xs) (s:=s1) (n:=n+1) h1 (λi y s' e q=>by
    have:=k (i+1) y s' (by simpa using e) (by rw [show n+(i+1)=n+1+i by omega];exact q)
    rw [show n+1+i+1=n+(i+1)+1 by omega];exact this) e
   rw [List.length_cons,show n+(xs.length+1)=n+1+xs.length by omega]
   exact this
theorem zhx {S:Type} {wi:TI} {g:TG} {tb:TS} {js:List Nat} {xs:List γ} {bds:γ->List Ds} {mi:Bool} {s0:S} (G:S->Ctx) (fo:α->Oc) (wr:β->α) {kk:S->α} (f:S->γ->S ⊕ β) (I:Nat->S->Prop) (hres:∀ b,zoI (fo (wr b))) (it:Iv Γ wi g js xs bds mi) (w:Wk Γ (G s0)) (h0:I 0 s0)
  (body:∀ (i:Nat) (x:γ) (s:S),xs[i]?=some x->I i s->(∀ s',f s x=.inl s'->I (i+1) s')∧Run E (zmf js (bds x) mi (G s)) tb (zfy G (λb=>fo (wr b)) (f s x))) (k:∀ s,loopR f s0 xs=.inl s->I xs.length s->Run E (G s) u (fo (kk s))):Run E Γ (tSeq (zqi wi g tb) u) (fo (LetR (loopR f s0 xs) kk wr)):=by
 have h:=zll G (λb=>fo (wr b)) f I it w h0 (λb F0 Hb D D' e q=>(hres b).meets e q) body
 cases e:loopR f s0 xs with
 | inl s =>
  rw [e] at h
  exact zku h (k s e (by simpa using zhX (n:=0) h0 (λi x s e q=>by rw [Nat.zero_add] at q ⊢;exact (body i x s e q).1) e))
 | inr b =>
  rw [e] at h
  exact λF0 Hb F H σ own D a q=>h F0 Hb F H σ own _ a ((hres b).meets (D:=D) rfl (show zfP E F0 Hb D (fo (wr b)) from q))
theorem ziw {x:Option α} {t v:TS} {a:β} {kk:α->β} (fo:β->Oc) (e:Γ[i]?=some (.va m (dOpt f x))) (hf:NN f) (h1:x=none->Run E Γ (tSeq t r) (fo a)) (h2:∀ p,x=some p->Run E (Γ.set i (.va m (f p))) (tSeq v r) (fo (kk p))) :
  Run E Γ (tSeq (zoc (znj (tOp (λx y H Q=>y=.non∧Q (.bl (decide (x=.non))) H) (tVar i) (tC .non))) t v) r) (fo (x.elim a kk)):=by
 cases x with
 | none=>exact ziH ((zam (zgi (x:=none) (f:=f) (zab e).old zay hf)).conv rfl) (h1 rfl)
 | some p =>
  refine zbK ((zam (zgi (x:=some p) (f:=f) (zab e).old zay hf)).conv rfl) ?_
  refine zpS (Δ:=Γ.set i (.va m (f p))) ?_ (h2 p rfl)
  have:Γ.set i (.va m (f p))=Γ:=by
   refine List.ext_getElem? λj=>?_
   by_cases z:i=j
   ·subst z
    rw [List.getElem?_set_self (List.getElem?_eq_some_iff.mp e).1,e];rfl
   ·rw [List.getElem?_set_ne z]
  rw [this]
  exact Wk.refl _
end
end L2
namespace L2
open PySem PySem.Spec PyProof.Rows PySem.Builtin PySem.Builtin.Getset_descriptor
structure XCls (K:W.Frag) (C:Addr):Prop where
 ga:W.findIn K (.ref C) "__getattribute__"=some (some (.builtin "BaseException.__getattribute__"))
 gn:W.findIn K (.ref C) "__getattr__"=some none
 cl:W.findIn K (.ref C) "__class__"=some (some (.builtin "object.__class__"))
 ob:W.mroIn K C (.type "object")=some true
 be:W.mroIn K C (.type "BaseException")=some true
 gt:W.specialIn K (.builtin "object.__class__") "__get__"=some (some (.builtin "getset_descriptor.__get__"))
 tk:W.takesIn K (.builtin "object.__class__")=some true
def XAt (h:Heap) (a C:Addr):Prop:=∃ o vs,h.get? a=some o∧o.cls=.ref C∧o.data=.fields vs
section
variable {prog:Program} {w:World} {A:Around} {E:Value->Shared->Prop} {K:W.Frag} {C a:Addr} {h:Heap} {g:Array GenState} {d:Drawn} {t:Nat} {os:OsState}
theorem XAt.ty {M:Model} (x:XAt h a C):W.Looks M h (typeOf (.ref a)) (.ref C):=by
 obtain ⟨o,vs,hx,hc,hd⟩:=x
 exact hc ▸ (W.Looks.ld hx).andThen .now
theorem zii {tp:Value} {R:Result->Shared->Prop} (X:K.In h) (c:XCls K C) (x:XAt h a C) (hr:R (.ok (.ret (.ref C))) ⟨h,g,d,t,os⟩) :
  codeAny (model prog w) A (.call (.builtin "getset_descriptor.__get__") ⟨[.builtin "object.__class__",.ref a,tp],[]⟩) R ⟨h,g,d,t,os⟩:=by
 have L0:=x.ty (M:=model prog w)
 have L1:=W.looks_mroIn (M:=model prog w) X c.ob
 refine codeAny_call_builtin W.KF.slot_gs.plain W.KF.entry_gs (W.KF.slot_gs.check _ _ _ _ _ _ _ _ W.KF.type_class (W.KF.args_gs _ _ _) ?_)
 unfold Builtin.«getset_descriptor.__get__»
 unfold descrGet
 rw [W.dga_obj]
 refine wpAny_bind (wpAny_pure ?_)
 unfold descrGetter
 unfold descrCheckInstance descrNameAndClass
 unfold isInstance
 simp only [W.KF.owner_class]
 repeat (any_goals (first | assumption | with_reducible refine wpAny_bind (L0.at ?_) | with_reducible refine wpAny_bind (L1.at ?_) | with_reducible refine L0.at ?_ | with_reducible refine L1.at ?_ | wp_step))
 refine ⟨Code.quiet_builtin _ (by decide +kernel),codeAny_builtin (W.KF.entry_class) ?_⟩
 unfold Builtin.«object.__class__»
 unfold shownTypeOf
 repeat (any_goals (first | assumption | with_reducible refine wpAny_bind (L0.at ?_) | with_reducible refine L0.at ?_ | wp_step))
theorem zko {tk:Tok} {Q:Fin->Shared->Prop} (X:K.In h) (c:XCls K C) (x:XAt h a C) (hq:Q (.done (.ret (.ref C))) ⟨h,g,d,t,os⟩) :
  wpAny (model prog w) A (Builtin.«object.__getattribute__» ⟨[.ref a,.str "__class__" tk],[]⟩) Q E ⟨h,g,d,t,os⟩:=by
 have L0:=x.ty (M:=model prog w)
 have L1:=W.looks_findIn (M:=model prog w) X c.cl
 have L2:=W.looks_specialIn (M:=model prog w) X c.gt
 have L3:=W.looks_takesIn (M:=model prog w) X c.tk
 unfold Builtin.«object.__getattribute__»
 repeat (any_goals (first | assumption | with_reducible refine wpAny_bind (L0.at ?_) | with_reducible refine wpAny_bind (L1.at ?_) | with_reducible refine wpAny_bind (L2.at ?_) | with_reducible refine wpAny_bind (L3.at ?_) | wp_step))
 refine zii X c x ?_
 repeat (any_goals (first | assumption | wp_step))
theorem zkD {nameV:Value} {Q:Unit->Shared->Prop} (X:K.In h) (c:XCls K C) (x:XAt h a C) (hq:Q () ⟨h,g,d,t,os⟩):wpAny (model prog w) A (checkBuiltinCall "BaseException.__getattribute__" ⟨[.ref a,nameV],[]⟩) Q E ⟨h,g,d,t,os⟩:=by
 have hk:builtinKind "BaseException.__getattribute__"=some .slot:=by decide +kernel
 have hsplit:splitId "BaseException.__getattribute__"=some ("BaseException","__getattribute__"):=by decide +kernel
 have L0:=x.ty (M:=model prog w)
 have L1:=W.looks_mroIn (M:=model prog w) X c.be
 have LI:W.Looks (model prog w) h (isInstance (.ref a) (.type "BaseException")) true:=L0.andThen L1
 have ha:=F.args_bexc_ga (.ref a) nameV
 simp only [checkBuiltinCall,hk,hsplit]
 refine wpAny_bind (LI.at ?_)
 repeat (any_goals (first | assumption | wp_step))
 all_goals (try exact hq)
theorem zpf {tk:Tok} {fill expr:Bool} {Q:Value->Shared->Prop} (X:K.In h) (c:XCls K C) (x:XAt h a C) (hq:Q (.ref C) ⟨h,g,d,t,os⟩) :
  wpAny (model prog w) A (getAttrBy (.ref a) (.str "__class__" tk) fill expr) Q E ⟨h,g,d,t,os⟩:=by
 have L0:=x.ty (M:=model prog w)
 have L1:=W.looks_findIn (M:=model prog w) X c.ga
 have L2:=W.looks_findIn (M:=model prog w) X c.gn
 have f3:=(PySem.F.attr_ValueError.ga).bind (.ref a)
 have hx0:(expr&&onTheHeap (Value.builtin "BaseException.__getattribute__"))=false:=by cases expr<;>rfl
 have hx2:(Value.builtin "BaseException.__getattribute__" == Value.builtin "object.__getattribute__")=false:=by decide +kernel
 have hx1:(onTheHeap (Value.ref C)&&Value.builtin "BaseException.__getattribute__" == Value.builtin "object.__getattribute__")=false:=by rw [hx2];rfl
 unfold getAttrBy
 repeat (any_goals (first | assumption | with_reducible refine wpAny_bind (L0.at ?_) | with_reducible refine wpAny_bind (L1.at ?_) | with_reducible refine wpAny_bind (L2.at ?_) | wp_step))
 refine codeAny_call_builtin PySem.F.attr_ValueError.ga.plain F.entry_bexc_ga (zkD X c x (zko X c x ?_))
 repeat (any_goals (first | assumption | wp_step))
theorem zmB {Q:Option Value->Shared->Prop} (X:K.In h) (c:XCls K C) (x:XAt h a C) (hq:Q (some (.ref C)) ⟨h,g,d,t+1,os⟩) :
  wpAny (model prog w) A (getAttr? (.ref a) "__class__") Q E ⟨h,g,d,t,os⟩:=by
 unfold getAttr? getAttrBy?
 repeat (any_goals (first | assumption | with_reducible apply zpf X c x | wp_step))
end
theorem cls_at {K:W.Frag} {C:Addr} {T:Value} {r:Bool} (e:W.mroIn K C T=some r):∃ c d cd sl,K.lookup C=some ⟨c,d,.cls cd,sl⟩:=by
 obtain ⟨cd,hc,_⟩:=Option.bind_eq_some_iff.mp e
 unfold W.clsIn at hc
 split at hc
 ·exact ⟨_,_,_,_,by assumption⟩
 ·cases hc
theorem kitx_exc {K:W.Frag} {a C:Addr} (c:XCls K C):W.KitX K (.ref a) (.ref C) (λh=>XAt h a C) where
 ty:=λ_ _ _ x=>x.ty
 it:=λM h X _=>by
  obtain ⟨c',d',cd',sl',ho⟩:=cls_at c.ob
  intro A' Q' E' s' k q
  unfold isType loadHead
  exact wpAny_bind (wpAny_loadPart (k _ _ (X _ _ ho)) (wpAny_pure q))
 ne:=λh tp dd its n sl X htp=>by
  obtain ⟨c',d',cd',sl',ho⟩:=cls_at c.ob
  refine Bool.eq_false_iff.mpr λq=>?_
  have e:C=tp:=Value.ref.inj (beq_iff_eq.mp q)
  subst e
  have z:=(X _ _ ho).symm.trans htp
  cases z
 ca:=λ{prog w A E Q s} X x k=>by
  obtain ⟨h,g,d,t,os⟩:=s
  exact zmB X c x k
def excO (a C:Addr) (fs:List (Str×V)):HO:=.ext λh=>∃ o vs,h.get? a=some o∧o.cls=.ref C∧o.data=.fields vs∧fs=[]
theorem excO_ok {P:Program} {w:World} {H:Hp} {h:Heap} {a C:Addr} (x:XAt h a C):zcX P w H h a (excO a C []):=by
 obtain ⟨o,vs,hx,hc,hd⟩:=x
 refine ⟨⟨o,vs,hx,hc,hd,rfl⟩,⟨o,hx⟩,λh1 h2 ⟨o',vs',q1,q2,q3,q4⟩ k=>⟨o',vs',k _ q1,q2,q3,q4⟩⟩
section
variable {X:Cx} {K:W.Frag}
theorem zkk (hK:X.K=K):ze3 X (.builtin "isinstance") (λxs H Q=>∃ a C c b,(xs=[.ref a,c])∧H a=some (excO a C [])∧XCls K C∧(∃ u,RelV c u∧(∀ u',RelV c u'->u'=u)∧W.kitOne K (.ref C) u=some b)∧Q (.bl b) H):=by
 subst hK
 intro pins s σ H xs us Q I r h
 obtain ⟨a,C,c,b,rfl,ha,hc,⟨u,hu,hu2,hk⟩,q⟩:=h
 obtain ⟨v,w',rfl,rx,ry⟩:=zol r
 cases rx
 rw [hu2 w' ry]
 obtain ⟨⟨o,vs,h1,h2,h3,_⟩,_⟩:=(show zcX X.prog X.w H s.heap a (excO a C []) from I.hok a _ ha)
 exact W.kia_one (kitx_exc hc) I.kIn ⟨o,vs,h1,h2,h3⟩ hk (λz=>nomatch z) λtk=>⟨.bl b,H,I.tok _,rfl,q⟩
end
end L2
namespace L2
open PySem PySem.Spec PyProof.Rows
section
variable {X:Cx} {pins:List (Addr×Obj)} {σ:St} {H:Hp} {s:Shared}
theorem Inv.locals {h':Heap} {t':Nat} {m':Str->Option Value} {σ':St} (I:Inv X pins σ H s) (hs:Heap.SameBut X.env.locals s.heap h') (hn':h'.Ns X.env.locals m')
  (hl:∀ (j:Nat) (y:Str) (v:V),X.N[j]?=some y->σ'[j]?=some (some v)->Vis X.env.scope y->∃ u,RelV v u∧zrp X.env h' m' y u) (len:σ'.length=X.N.length):Inv X pins σ' H { s with heap:=h',toks:=t' }:=by
 have lt:∀ b o,X.s₀.heap.get? b=some o->b≠X.env.locals:=λb o e=>Nat.ne_of_lt (Nat.lt_of_lt_of_le (Heap.lt_size e) I.ok.above)
 refine ⟨I.ok,I.os,I.bare,⟨λb o e n hb hx=>(hs.2 b (lt b o e)).trans (I.base.keep b o e n hb hx),λb o e n hb hx=>?_,I.base.free,λb o e hx=>?_,I.base.tups,I.base.frzs,I.base.tbls⟩,⟨m',hn',hl⟩,λy c e=>?_,I.free,I.freeC,λp hp=>?_,λb u e=>?_,len⟩
 ·obtain ⟨sl,q⟩:=I.base.slot b o e n hb hx
  exact ⟨sl,(hs.2 b (lt b o e)).trans q⟩
 ·obtain ⟨o',q⟩:=I.base.there b o e hx
  exact ⟨o',(hs.2 b (lt b o e)).trans q⟩
 ·obtain ⟨w',z⟩:=I.cell y c e
  exact ⟨w',z.sameBut hs (I.cne y c e)⟩
 ·obtain ⟨e,n,ne,nf,d⟩:=I.pin p hp
  exact ⟨(hs.2 p.1 ne).trans e,n,ne,nf,d⟩
 ·refine (I.hok b u e).stay (λc v hc q=>(hs.2 c ?_).trans q) (λ_ q=>q) λ_ _ q=>q
  intro z
  have z':=I.free
  rw [← z] at z'
  rcases hc with hc | hc
  ·rw [hc,e] at z';cases z'
  ·rw [hc] at z';cases z'
theorem goes_ok {M:Model} {A:Around} {E:Value->Shared->Prop} {i:Nat} {n:Str} {pos:Pos} {Q:Unit->Shared->Prop} (I:Inv X pins σ H s) (hN:X.N.Nodup) (hi:X.N[i]?=some n) (hloc:X.env.scope.names.lookup n=some .local)
  (h:∀ s',Inv X pins (σ.set i none) H s'->Q () s'):wpAny M A (do bindName X.env n .none;unbindBehindTheSuite X.env n pos) Q E s:=by
 have hcls:(X.env.scope.kind == .class||(X.env.scope.kind == .module&&X.env.locals != X.env.globals))=false:=by rw [I.ok.kind];rfl
 have hk:X.env.kindOf n=some .local:=hloc
 have hiσ:i<σ.length:=by rw [I.len];exact (List.getElem?_eq_some_iff.mp hi).1
 refine wpAny_bind (wpAny_bindName (store_ok I hN hi (.inl hloc) (v:=.non) (u:=.none) rfl (λs1 I1=>?_) (.inr hloc)))
 obtain ⟨m,hn,hl⟩:=id I1.loc
 have hm:m n=some .none:=by
  obtain ⟨u,r,q⟩:=hl i n .non hi (List.getElem?_set_self hiσ) (.inl hloc)
  have r:u=Value.none:=r
  subst r
  rcases q with ⟨_,e⟩ | ⟨k,_⟩
  ·exact e
  ·rw [hk] at k;rcases k with k | k<;>cases k
 unfold unbindBehindTheSuite
 refine wpAny_onRaise ?_
 unfold unbindName
 refine wpAny_bind (wpAny_point (wpAny_bind ?_))
 unfold deleteName
 simp only [hk,hcls]
 rw [if_neg (by decide)]
 refine wpAny_bind (wpAny_nsDel_keeps hn λh2 v hn2 hs2=>?_)
 rw [hm]
 simp only [Option.isSome_some,Bool.not_true,Bool.false_eq_true,if_false]
 refine wpAny_pure (wpAny_point (h { s1 with heap:=h2 } (I1.locals (t':=s1.toks) hs2 hn2 (λj y v' e1 e2 e3=>?_) (by simp [I.len]))))
 by_cases hj:i=j
 ·subst hj
  rw [List.getElem?_set_self hiσ] at e2;cases e2
 ·rw [List.getElem?_set_ne hj] at e2
  obtain ⟨u',r',q⟩:=hl j y v' e1 (by rw [List.getElem?_set_ne hj];exact e2) e3
  have hy:y≠n:=λe=>hj (nodup_ix hN hi (e ▸ e1))
  refine ⟨u',r',?_⟩
  rcases q with ⟨k,e⟩ | ⟨k,c,e,z⟩
  ·exact .inl ⟨k,by simp [hy,e]⟩
  ·exact .inr ⟨k,c,e,z.sameBut hs2 (I.cne y c e)⟩
theorem Inv.track {e C:Addr} (I:Inv X pins σ H s) (x:XAt s.heap e C) (hn:H e=none) (hF:Fz X pins e):Inv X pins σ (upd H e (excO e C [])) s:=by
 obtain ⟨o,vs,hx,hc,hd⟩:=id x
 obtain ⟨_,a2,a3,a4,a5⟩:=exc_apart I hx hd hn hF
 refine ⟨I.ok,I.os,I.bare,⟨I.base.keep,I.base.slot,λb o' q n hx=>?_,I.base.there,λb xs q=>?_,λb o' u q=>?_,λb ps q=>?_⟩,I.loc,I.cell,?_,λy c q=>?_,λp hp=>?_,λb u q=>?_,I.len⟩
 ·have hb:b≠e:=λz=>by rw [z,a2] at q;cases q
  rw [upd_ne hb];exact I.base.free b o' q n hx
 ·have q1:=I.base.tups b xs q
  rw [upd_ne (ne_of_none q1 hn)];exact q1
 ·have q1:=I.base.frzs b o' u q
  rw [upd_ne (ne_of_none q1 hn)];exact q1
 ·obtain ⟨more,q1⟩:=I.base.tbls b ps q
  exact ⟨more,by rw [upd_ne (ne_of_none q1 hn)];exact q1⟩
 ·rw [upd_ne (Ne.symm a3)];exact I.free
 ·rw [upd_ne (a4 y c q)];exact I.freeC y c q
 ·obtain ⟨q1,q2,q3,q4,q5⟩:=I.pin p hp
  exact ⟨q1,by rw [upd_ne (a5 p hp)];exact q2,q3,q4,q5⟩
 ·by_cases hb:b=e
  ·subst hb;rw [upd_same] at q;cases q;exact excO_ok x
  ·rw [upd_ne hb] at q
   exact (I.hok b u q).stay (λ_ _ _ z=>z) (λc z=>by rw [upd_ne (ne_of_none z hn)];exact z) λc xs z=>by rw [upd_ne (ne_of_none z hn)];exact z
abbrev Cx.marked (X:Cx) (e:Addr):Cx:={ X with A:=X.A.mark (some (.ref e)),calm:=false,xe:=λ_ _=>False }
theorem Inv.marked {e:Addr} (I:Inv X pins σ H s):Inv (X.marked e) pins σ H s :=
 ⟨⟨I.ok.mod,I.ok.kind,I.ok.glob,I.ok.blt,I.ok.above,I.ok.inj,I.ok.has,I.ok.cab,(λz=>(nomatch z)),I.ok.frames,I.ok.stk,I.ok.exf,I.ok.bs,I.ok.bsz,I.ok.noex,I.ok.exfs,I.ok.funs,I.ok.frf⟩,I.os,I.bare,I.base,I.loc,I.cell,I.free,I.freeC,I.pin,I.hok,I.len⟩
theorem Inv.unmarked {e:Addr} (I:Inv (X.marked e) pins σ H s) (ok:X.Ok):Inv X pins σ H s :=
 ⟨ok,I.os,I.bare,I.base,I.loc,I.cell,I.free,I.freeC,I.pin,I.hok,I.len⟩
end
section
variable {X:Cx} {K:W.Frag}
theorem zoj {body:List Stmt} {tb:TSX} {cn n x:Str} {CS:Addr} {i j:Nat} {p1 p2 p3 p4 p5 pos:Pos} (O:Own X) (hK:X.K=K) (hN:X.N.Nodup) (hn:X.N[i]?=some n) (hln:X.env.scope.names.lookup n=some .local) (hx:X.N[j]?=some x) (hlx:Loc X.env.scope x)
  (hfx:X.fn x=true∨X.env.scope.names.lookup x=some .local) (hg:Gl X cn) (hm:X.mg cn=some (.ref CS)) (hb:zh6 X body tb) (hd:(n == ("__debug__":Str))=false:=by decide) (hcd:(n == ("__classdict__":Str))=false:=by decide)
  (hdb:(cn == ("__debug__":Str))=false:=by decide) (hsw:swapsWith (.Name n p3) (some (.Name x p2)) p4.line X.env=pure false:=by rfl) :
  PSX X (.Try body [.ExceptHandler (some (.Name cn p1)) (some n) [.Assign [.Name x p2] (.Name n p3) p4] p5] [] [] pos)
   (λD _ σ H=>tb D (λσ' cls _ H'=>∃ C,cls=.ref C∧W.exmOne K (.ref C) (.ref CS)=some true∧∀ a,H' a=none->D.nx ((σ'.set j (some (.ref a))).set i none) (upd H' a (excO a C []))) σ H):=by
 subst hK
 intro pins s σ H D E I h
 refine wpAny_Try_except (wpAny_mono (hb pins s σ H D _ I h) (λf s1 q=>?_) λev s1 q=>?_)
 ·cases f with
  | next=>exact wpAny_execs_nil q
  | ret v=>exact q
  | brk=>exact q
  | cont=>exact q
 ·obtain ⟨σ',e,cls,dct,H',rfl,I1,x1,C,rfl,hC,q⟩:=q
  refine note_exc O I1 x1 rfl λs2 I2 x2=>?_
  refine zfo (fr:=none) O I2 x2 λs3 I3 x3=>?_
  obtain ⟨oe,vs,a0,y1,y2,y3,y4,y5,y6,y7,y8,_⟩:=id x3
  have xa:XAt s3.heap e C:=⟨oe,vs,y1,y2,y4⟩
  refine wpAny_handleBy_cons (codeAny_handlers_test ?_) (by intro z;cases z)
  refine ld_glob (X:=X.marked e) I3.marked hg hm ?_ hdb
  refine (W.exm_one I3.kIn xa.ty hC).at ?_
  refine codeAny_handlers_suite_as ?_
  refine zfo (fr:=none) O I3 x3 λs4 I4 x4=>?_
  obtain ⟨oe,vs,a0,y1,y2,y3,y4,y5,y6,y7,y8,_⟩:=id x4
  have I5:=I4.track ⟨oe,vs,y1,y2,y4⟩ y7 y8
  refine store_ok I5 hN hn (.inl hln) (v:=.ref e) rfl (λs6 I6=>?_) (.inr hln)
  have hset:PS (X.marked e) (.Assign [.Name x p2] (.Name n p3) p4) (zkt (tVar i) (zd7 j)):=zap hN hx hlx (pe_var hn (.inl hln) hd hcd) hsw hfx
  have hiσ:i<σ'.length:=by rw [I1.len];exact (List.getElem?_eq_some_iff.mp hn).1
  refine wpAny_mono ((zoC hset) pins s6 _ _ { nx:=λσ'' H''=>σ''=(σ'.set i (some (.ref e))).set j (some (.ref e))∧H''=upd H' e (excO e C []),rt:=λ_ _=>False } I6.marked ⟨.ref e,List.getElem?_set_self hiσ,rfl,rfl⟩) (λf s7 q7=>?_) λ_ _ z=>z.elim
  cases f with
  | ret v=>obtain ⟨_,_,_,_,_,z⟩:=q7;exact z.elim
  | brk=>obtain ⟨_,_,_,z⟩:=q7;exact z.elim
  | cont=>obtain ⟨_,_,_,z⟩:=q7;exact z.elim
  | next =>
   obtain ⟨σ7,H7,I7,rfl,rfl⟩:=q7
   show wpAny _ _ _ _ _ s7
   refine goes_ok (I7.unmarked I.ok) hN hn hln λs8 I8=>?_
   have eσ:((σ'.set i (some (V.ref e))).set j (some (.ref e))).set i none=(σ'.set j (some (.ref e))).set i none:=by
    by_cases hij:i=j
    ·subst hij;simp
    ·refine List.ext_getElem? λk=>?_
     by_cases h1:i=k
     ·subst h1
      rw [List.getElem?_set_self (by simpa using hiσ),List.getElem?_set_self (by simpa using hiσ)]
     ·rw [List.getElem?_set_ne h1,List.getElem?_set_ne h1]
      by_cases h2:j=k
      ·subst h2
       by_cases h3:j<σ'.length
       ·rw [List.getElem?_set_self (by simpa using h3),List.getElem?_set_self h3]
       ·rw [List.getElem?_eq_none (by simp;omega),List.getElem?_eq_none (by simp;omega)]
      ·rw [List.getElem?_set_ne h2,List.getElem?_set_ne h2,List.getElem?_set_ne h1]
   rw [eσ] at I8
   exact ⟨_,_,I8,q e y7⟩
end
end L2
namespace L2
open PySem PySem.Spec PyProof.Rows
abbrev atE (E:XS) (t:TSX):TS:=λD σ H=>t D E σ H
abbrev zpL (t:TS):TSX:=λD _ σ H=>t D σ H
abbrev zrA (t u:TSX):TSX:=λD E σ H=>tSeq (atE E t) (atE E u) D σ H
abbrev ifX (c:TT) (t u:TSX):TSX:=λD E σ H=>zoc c (atE E t) (atE E u) D σ H
def zmT (ta:TA) (C:Addr) (E:XS):TS:=λ_ σ H=>ta σ H λvs H1=>vs.length≤sizeLine∧E σ (.ref C) none H1
def zmI (te:TEX) (E:XS):TS:=λD σ H=>te σ H (λ_ H1=>D.nx σ H1) (E σ)
def zp9 (sp:Sp) (t:TA):TEX:=λσ H Q E=>t σ H λvs H1=>sp (vs++[]) H1 Q E
def zq5 (K:W.Frag) (CS:Addr) (i j:Nat) (tb:TSX):TS:=λD σ H=>tb D (λσ' cls _ H'=>∃ C,cls=.ref C∧W.exmOne K (.ref C) (.ref CS)=some true∧∀ a,H' a=none->D.nx ((σ'.set j (some (.ref a))).set i none) (upd H' a (excO a C []))) σ H
section
variable {X:Cx} {K:W.Frag} {e:Expr} {st:Stmt} {rest:List Stmt} {pos:Pos}
theorem zbB:zh6 X [] (zpL zmx):=zmD
theorem zaC {t u:TSX} (h1:PSX X st t) (h2:zh6 X rest u):zh6 X (st :: rest) (zrA t u):=zj6 (t:=t) (u:=u) h1 h2
theorem zco {t:TS} (h:PS X.nox st t):PSX X st (zpL t):=zlV h
theorem zir {c:Expr} {a b:List Stmt} {tc:TT} {t u:TSX} (hc:PT X.nox c tc) (ha:zh6 X a t) (hb:zh6 X b u):PSX X (.If c a b pos) (ifX tc t u):=zpj (t:=t) (u:=u) hc ha hb
theorem zbO {te:TEX} (he:PEX X e te) (hs:swapsWith e none pos.line X.env=pure false:=by rfl):PSX X (.Expr e pos) (λD E σ H=>zmI te E D σ H):=zmh he hs
theorem zep {k:Nat} {ps:List Str} {sp:Sp} {x:Str} {p:Pos} {es:List Expr} {t:TA} (O:Own X) (F:Callee X.prog X.w X.K X.mg X.base (CXE X.prog X.w) k x ps sp) (hr:Room k X.A) (hg:Gl X x)
  (ha:PA X.nox (e :: es) t) (hdb:(x == ("__debug__":Str))=false:=by decide) (he:starEach (e :: es) X.env=(false,eval e X.env) :: starEach es X.env:=by rfl) (hpl:(backTo pos (starEach es X.env)).any (·.1)=false:=by rfl) :
  PEX X (.Call (.Name x p) (e :: es) [] pos) (zp9 sp t):=zq3 O F hr hg ha hdb he hpl
theorem zi5 {C:Addr} {B newId initId:String} {bmB:List Value} {x:Str} {es:List Expr} {t:TA} {np cpos:Pos} (O:Own X) (hc:X.calm=true) (hg:Gl X x) (hm:X.mg x=some (.ref C)) (hK:W.excIn X.K C bmB newId=true) (FB:ExcBaseFacts B newId initId bmB)
  (ha:PA X.nox (e :: es) t) (hdb:(x == ("__debug__":Str))=false:=by decide) (he:starEach (e :: es) X.env=(false,eval e X.env) :: starEach es X.env:=by rfl) (hpl:(backTo cpos (starEach es X.env)).any (·.1)=false:=by rfl) :
  PSX X (.Raise (some (.Call (.Name x np) (e :: es) [] cpos)) none pos) (λD E σ H=>zmT t C E D σ H):=zkg O hc hg hm hK FB ha hdb he hpl
theorem zo7 {body:List Stmt} {tb:TSX} {cn n x:Str} {CS:Addr} {i j:Nat} {p1 p2 p3 p4 p5:Pos} (O:Own X) (hK:X.K=K) (hN:X.N.Nodup) (hn:X.N[i]?=some n) (hln:X.env.scope.names.lookup n=some .local) (hx:X.N[j]?=some x) (hlx:Loc X.env.scope x)
  (hfx:X.fn x=true∨X.env.scope.names.lookup x=some .local) (hg:Gl X cn) (hm:X.mg cn=some (.ref CS)) (hb:zh6 X body tb) (hd:(n == ("__debug__":Str))=false:=by decide) (hcd:(n == ("__classdict__":Str))=false:=by decide)
  (hdb:(cn == ("__debug__":Str))=false:=by decide) (hsw:swapsWith (.Name n p3) (some (.Name x p2)) p4.line X.env=pure false:=by rfl) :
  PSX X (.Try body [.ExceptHandler (some (.Name cn p1)) (some n) [.Assign [.Name x p2] (.Name n p3) p4] p5] [] [] pos) (λD _ σ H=>zq5 K CS i j tb D σ H):=zoj O hK hN hn hln hx hlx hfx hg hm hb hd hcd hdb hsw
end
def dE (C:Addr):Ds:=⟨λH v=>∃ a,v=.ref a∧H a=some (excO a C []),λe ⟨a,h1,h2⟩=>⟨a,h1,e _ _ h2⟩⟩
theorem NN.exc {ε:Type} {xc:ε->Addr}:NN (λe=>dE (xc e)):=λ_ _ _ ⟨_,h,_⟩=>by rw [h];simp
def zck {ε:Type} (f:ε->Bool) (x:Option ε):Bool:=match x with
 | none=>false
 | some e=>f e
def zn5 (K:W.Frag):List V->Hp->VK->Prop:=λxs H Q=>zqr K xs H Q∨∃ a C c b,(xs=[.ref a,c])∧H a=some (excO a C [])∧XCls K C∧(∃ u,RelV c u∧(∀ u',RelV c u'->u'=u)∧W.kitOne K (.ref C) u=some b)∧Q (.bl b) H
theorem call_isiB {X:Cx} {K:W.Frag} (hK:X.K=K):ze3 X (.builtin "isinstance") (zn5 K):=λpins s σ H xs us Q I r h=>by
 rcases h with h | h
 ·exact zjS hK pins s σ H xs us Q I r h
 ·exact zkk hK pins s σ H xs us Q I r h
section
variable {E:XS} {Γ Δ Γx:Ctx} {m:Bool} {K:W.Frag} {α β ε:Type} {u:TS} {o:Oc} {ds:List Ds}
theorem zbt {xc:ε->Addr} {x:Option ε} {ta:TE} {C:Addr} {f:ε->Bool} (h:Ev Γ ta false (dOpt (λe=>dE (xc e)) x)) (h0:W.kitOne K (.type "NoneType") (.ref C)=some false) (h1:∀ e,XCls K (xc e)∧W.kitOne K (.ref (xc e)) (.ref C)=some (f e)) :
  Ev Γ (tCB (zn5 K) (tCons ta (tCons (tC (.ref C)) tNil))) m (dB (zck f x)):=λF0 Hb F H σ own Q a k =>
 h F0 Hb F H σ own _ a λv F1 H1 g1 q1=>by
  cases x with
  | none =>
   have q1:v=.non:=q1
   subst q1
   exact .inl ⟨.non,.type "NoneType",false,.inr ⟨C,rfl,h0⟩,.non,k _ F1 H1 g1 rfl⟩
  | some e =>
   obtain ⟨p,rfl,hp⟩:=q1
   exact .inr ⟨p,xc e,.ref C,f e,rfl,(part_sub.trans g1.fh) _ _ hp,(h1 e).1,⟨.ref C,rfl,λu' z=>z,(h1 e).2⟩,k _ F1 H1 g1 rfl⟩
theorem zmb {xc:ε->Addr} {x:Option ε} {ta:TE} {T:String} {f:ε->Bool} (h:Ev Γ ta false (dOpt (λe=>dE (xc e)) x)) (h0:W.kitOne K (.type "NoneType") (.type T)=some false) (h1:∀ e,XCls K (xc e)∧W.kitOne K (.ref (xc e)) (.type T)=some (f e)) :
  Ev Γ (tCB (zn5 K) (tCons ta (tCons (tC (.ty T)) tNil))) m (dB (zck f x)):=λF0 Hb F H σ own Q a k =>
 h F0 Hb F H σ own _ a λv F1 H1 g1 q1=>by
  cases x with
  | none =>
   have q1:v=.non:=q1
   subst q1
   exact .inl ⟨.non,.type "NoneType",false,.inl ⟨T,rfl,h0⟩,.non,k _ F1 H1 g1 rfl⟩
  | some e =>
   obtain ⟨p,rfl,hp⟩:=q1
   exact .inr ⟨p,xc e,.ty T,f e,rfl,(part_sub.trans g1.fh) _ _ hp,(h1 e).1,⟨.type T,rfl,λu' z=>z,(h1 e).2⟩,k _ F1 H1 g1 rfl⟩
def foX (xc:ε->Addr) (Γx:Ctx) (fo:β->Oc):Except ε β->Oc
 | .ok v=>fo v
 | .error e=>.ex (xc e) Γx
def zgH (r:Except ε α) (k:α->Except ε β):Except ε β:=match r with
 | .ok v=>k v
 | .error e=>.error e
theorem zhP {C:Addr} {ta:TA} (h:EvA Γ ta m ds) (hz:ds.length≤sizeLine) (w:Wk Γ Γx):Run E Γ (tSeq (zmT ta C E) u) (.ex C Γx):=λF0 Hb F H σ own D a q =>
 h F0 Hb F H σ own _ a λvs F1 H1 g1 q1=>⟨by rw [Paired.length q1];exact hz,q none F1 H1 σ own ((a.grow g1).wk w)⟩
def zhH (xc:ε->Addr) (m:Bool) (d:α->Ds):Except ε α->Rs
 | .ok v=>.va m (d v)
 | .error e=>.ex (xc e)
theorem zaU {ι:Type} {args:ι->List Ds} {pre:ι->Prop} {res:ι->Rs} {tr:TA} {xc:ε->Addr} {d:α->Ds} {r:Except ε α} {kk:α->Except ε β} (fo:β->Oc) (x:ι) (h:EvA Γ tr false ds) (ha:ds=args x) (hp:pre x) (hr:res x=zhH xc m d r) (w:Wk Γ Γx)
  (k:∀ v,r=.ok v->Run E Γ u (foX xc Γx fo (kk v))):Run E Γ (tSeq (zmI (zp9 (Spv args pre res) tr) E) u) (foX xc Γx fo (zgH r kk)):=λF0 Hb F H σ own D a q=>by
 subst ha
 refine h F0 Hb F H σ own _ a λvs F1 H1 g1 q1=>⟨x,F1,g1.fh,by rw [List.append_nil];exact q1,hp,?_⟩
 rw [hr]
 cases r with
 | ok v=>exact λv' F' H' g _=>k v rfl F0 Hb F' H' σ own D (a.grow (g1.trans g)) q
 | error e=>exact λdct F' H' g=>q dct F' H' σ own ((a.grow (g1.trans g)).wk w)
theorem znB {CS:Addr} {i j:Nat} {tb:TSX} {xc:ε->Addr} {r:Except ε α} (Gok:α->Ctx) (Gerr:Ctx) (Gj:Except ε α->Ctx) (hb:∀ E',Run E' Γ (atE E' tb) (foX xc Gerr (λv=>.nx (Gok v)) r))
  (w1:∀ v,r=.ok v->Wk (Gok v) (Gj r)) (w2:∀ e,r=.error e->W.exmOne K (.ref (xc e)) (.ref CS)=some true∧Wk ((Gerr.set j (.va true (dE (xc e)))).set i .no) (Gj r)) (k:Run E (Gj r) u o) :
  Run E Γ (tSeq (zq5 K CS i j tb) u) o:=λF0 Hb F H σ own D a q=>by
 refine hb _ F0 Hb F H σ own { D with nx:=u D } a ?_
 cases r with
 | ok v=>exact λF1 H1 σ1 own1 a1=>k F0 Hb F1 H1 σ1 own1 D (a1.wk (w1 v rfl)) q
 | error e =>
  refine λdct F1 H1 σ1 own1 a1=>⟨xc e,rfl,(w2 e rfl).1,λx hx=>?_⟩
  obtain ⟨h1,h2,h3⟩:=a1.free (Grow.refl a1.fh) hx
  have g2:Grow F1 H1 (upd F1 x (excO x (xc e) [])) (upd H1 x (excO x (xc e) [])):=(Grow.refl a1.fh).new hx
  have a2:=(a1.grow g2).set j (m:=true) (d:=dE (xc e)) (v:=.ref x) ⟨x,rfl,zdw h3 upd_same⟩
  refine k F0 Hb (upd F1 x (excO x (xc e) [])) _ _ own1 D (At.wk ?_ (w2 e rfl).2) q
  exact ⟨a2.g,a2.inj,a2.liv,λl s es=>by
   by_cases z:i=l
   ·subst z
    have hi:i<(Gerr.set j (.va true (dE (xc e)))).length:=by simpa using (List.getElem?_eq_some_iff.mp es).1
    rw [List.getElem?_set_self hi] at es
    cases es;trivial
   ·rw [List.getElem?_set_ne z] at es
    have:=a2.sl l s es
    rw [List.getElem?_set_ne z]
    exact this,by simp [a1.len]⟩
end
section
variable {E:XS} {Γ:Ctx} {K:W.Frag} {α β ε:Type} {u:TS}
def zmY (r:Except ε α):Option ε:=match r with
 | .ok _=>none
 | .error e=>some e
theorem zl1 {CS:Addr} {i j:Nat} {tb:TSX} {xc:ε->Addr} {r:Except ε α} (Gok:α->Ctx) (Gerr:Ctx) (Gj:Except ε α->Ctx) (fo:β->Oc) {kk:Except ε α->β} (hb:∀ E',Run E' Γ (atE E' tb) (foX xc Gerr (λv=>.nx (Gok v)) r))
  (w1:∀ v,Wk (Gok v) (Gj (.ok v))) (w2:∀ e,W.exmOne K (.ref (xc e)) (.ref CS)=some true∧Wk ((Gerr.set j (.va true (dE (xc e)))).set i .no) (Gj (.error e))) (k:∀ y,y=r->Run E (Gj y) u (fo (kk y))) :
  Run E Γ (tSeq (zq5 K CS i j tb) u) (fo (Let r kk)) :=
 znB Gok Gerr Gj hb (λv e=>by rw [e];exact w1 v) (λe' e=>by rw [e];exact w2 e') (k r rfl)
theorem zdR {xc:ε->Addr} {m:Bool} {d:α->Ds} {n:Nat} {r:Except ε α}:zlE n (zhH xc m d r)=foX xc (List.replicate n .no) (λv=>.rt m (d v)) r:=by cases r<;>rfl
end
theorem exm_of {K:W.Frag} {C CS:Addr} (h1:W.subIn K (.ref CS) (.type "BaseException")=some true) (h2:W.mroIn K CS (.type "object")=some true) (h3:W.typeIn K (.ref CS)=some (.type "type")) (h4:W.subIn K (.ref C) (.ref CS)=some true):W.exmOne K (.ref C) (.ref CS)=some true:=by
 unfold W.exmOne
 rw [h1,if_pos (by simp)]
 unfold W.kitCls
 obtain ⟨cd,hc,_⟩:=Option.bind_eq_some_iff.mp h2
 dsimp only
 rw [hc,h3,if_pos (by simp),h4]
section
variable {P:Program} {w:World} {K:W.Frag} {mg:Str->Option Value} {base:Heap} {x qual:Str} {st:Stmt} {f:Addr} {fd:FuncData} {N ps:List Str} {k:Nat}
theorem Fun.okVX {ι:Type} {args:ι->List Ds} {pre:ι->Prop} {res:ι->Rs} (F:Fun K x qual st f fd) (S:FnScope N ps (zad st)) (hl:∀ i,(args i).length=ps.length)
  (hbody:∀ (cdv:Value) (A:Around) (outer:List Env) (s:Shared) (H:Hp) (E:XK) (i:ι),Room k (A.deeper (envOfC qual (zad st) s.heap.objs.size f cdv))->pre i->Own (zif (CXE P w) P w K mg base N qual (zad st) f cdv A outer s H E) →
   ∃ t,zh6 (zif (CXE P w) P w K mg base N qual (zad st) f cdv A outer s H E) (zar st) t∧(Run (λ_=>E) (startC N (args i)) (atE (λ_=>E) t) (zlE N.length (res i))∨∃ m Δ,(∀ C,res i≠.ex C)∧res i=.va m dN∧Run (λ_=>E) (startC N (args i)) (atE (λ_=>E) t) (.nx Δ))) :
  FnOk P w K mg base (CXE P w) (k+1) f fd ps (Spv args pre res):=by
 refine F.okX S (λvs H Q E ⟨i,F',_,hv,_⟩=>by rw [Paired.length hv];exact hl i) λcdv A outer s H vs Q E hr ⟨i,F',hF,hv,hp,hq⟩=>?_
 obtain ⟨t,h1,h2⟩:=hbody cdv A outer s H E i hr hp ⟨rfl,rfl,rfl⟩
 have hq':ResOk H F' Q E (res i):=by
  cases e:res i with
  | va m d=>rw [e] at hq;exact hq
  | ow m ds=>rw [e] at hq;exact hq
  | ex C=>rw [e] at hq;exact hq
 refine ⟨t,h1,?_⟩
 rcases h2 with h2 | ⟨m,Δ,_,e,h2⟩
 ·exact zkK (t:=atE (λ_=>E) t) hF hv hq' h2
 ·rw [e] at hq'
  exact ziQ (t:=atE (λ_=>E) t) hF hv hq' h2
theorem Fun.okVXN {ι ε:Type} {args:ι->List Ds} {pre:ι->Prop} {xc:ε->Addr} {r:ι->Except ε Unit} {m:Bool} (F:Fun K x qual st f fd) (S:FnScope N ps (zad st)) (hl:∀ i,(args i).length=ps.length)
  (hbody:∀ (cdv:Value) (A:Around) (outer:List Env) (s:Shared) (H:Hp) (E:XK) (i:ι),Room k (A.deeper (envOfC qual (zad st) s.heap.objs.size f cdv))->pre i->Own (zif (CXE P w) P w K mg base N qual (zad st) f cdv A outer s H E) →
   ∃ t Δ,zh6 (zif (CXE P w) P w K mg base N qual (zad st) f cdv A outer s H E) (zar st) t∧Run (λ_=>E) (startC N (args i)) (atE (λ_=>E) t) (foX xc (List.replicate N.length .no) (λ_=>.nx Δ) (r i))) :
  FnOk P w K mg base (CXE P w) (k+1) f fd ps (Spv args pre λi=>zhH xc m (λ_=>dN) (r i)):=by
 refine F.okVX S hl λcdv A outer s H E i hr hp O=>?_
 obtain ⟨t,Δ,h1,h2⟩:=hbody cdv A outer s H E i hr hp O
 refine ⟨t,h1,?_⟩
 cases q:r i with
 | ok v =>
  rw [q] at h2
  exact .inr ⟨m,Δ,λC z=>(by cases z),rfl,h2⟩
 | error e =>
  rw [q] at h2
  exact .inl h2
end
end L2
namespace L2
open PySem PySem.Spec PyProof.Rows
def zrl:Slot->Slot
 | .va _ d=>.va false d
 | _=>.no
def zqZ (Γ:Ctx):Ctx:=Γ.map zrl
theorem At.now {F0 Hb F H:Hp} {σ:St} {own:Nat->Option Addr} {Γ:Ctx} (a:At F0 Hb F H σ own Γ):At F H F H σ (λ_=>none) (zqZ Γ):=by
 refine ⟨Grow.refl a.fh,λ_ _ _ h=>(nomatch h),λ_ _ h=>(nomatch h),λi s e=>?_,by unfold zqZ;rw [List.length_map];exact a.len⟩
 unfold zqZ at e
 rw [List.getElem?_map] at e
 cases q:Γ[i]? with
 | none=>rw [q] at e;cases e
 | some r =>
  rw [q] at e
  have e':zrl r=s:=Option.some.inj e
  subst e'
  have h:=a.sl i r q
  cases r with
  | va m d =>
   obtain ⟨x,h1,h2⟩:=h
   exact ⟨x,h1,d.up part_sub h2⟩
  | no=>trivial
  | ow m ds=>trivial
  | ob m C p dx fs=>trivial
  | ol p ds=>trivial
  | tl d=>trivial
section
variable {E:XS} {Γ:Ctx} {te:TE} {u:TS} {o:Oc} {d d1 d2:Ds} {K:W.Frag} {i j:Nat}
end
section
variable {E:XS} {Γ:Ctx} {t:TE} {d:Ds} {m n:Bool} {u:TS} {o:Oc}
end
theorem ev_some {Γ:Ctx} {t:TE} {m:Bool} {α:Type} [Inhabited α] {f:α->Ds} {x:Option α} (h:Ev Γ t m (dOpt f x)) (hs:x.isSome=true):Ev Γ t m (f (x.getD default)):=by
 cases x with
 | none=>cases hs
 | some v=>exact h
def gS {α:Type} [Inhabited α] (x:Option α):α:=x.getD default
section
variable {E:XS} {Γ:Ctx} {te:TE} {u:TS} {K:W.Frag} {i j:Nat} {α β:Type} {f:α->Ds}
end
section
variable {X:Cx} {K:W.Frag}
end
end L2
namespace Lat
abbrev Vc:=Nat->Int
inductive Sp (A:Vc->Prop):Vc->Prop
 | zero:Sp A (λ_=>0)
 | add {u a:Vc} (x:Int):Sp A u->A a->Sp A (λi=>u i+x*a i)
section
variable {A B:Vc->Prop} {u v a:Vc}
theorem Sp.conv (h:Sp A u) (e:∀ i,u i=v i):Sp A v:=(funext e:u=v) ▸ h
theorem Sp.mem (h:A a):Sp A a:=(Sp.add 1 Sp.zero h).conv λi=>by grind
theorem Sp.smul (x:Int) (h:Sp A u):Sp A (λi=>x*u i):=by
 induction h with
 | zero=>exact Sp.zero.conv λi=>by grind
 | @add u a z _ ha ih=>exact (Sp.add (x*z) ih ha).conv λi=>by grind
theorem Sp.plus (h:Sp A u) (k:Sp A v):Sp A (λi=>u i+v i):=by
 induction k with
 | zero=>exact h.conv λi=>by grind
 | @add w a z _ ha ih=>exact (Sp.add z ih ha).conv λi=>by grind
theorem Sp.lin (x y:Int) (h:Sp A u) (k:Sp A v):Sp A (λi=>x*u i+y*v i):=(h.smul x).plus (k.smul y)
theorem Sp.sub (k:∀ a,A a->Sp B a) (h:Sp A u):Sp B u:=by
 induction h with
 | zero=>exact Sp.zero
 | @add u a z _ ha ih=>exact (ih.plus ((k a ha).smul z)).conv λi=>by grind
theorem Sp.mono (k:∀ a,A a->B a) (h:Sp A u):Sp B u:=h.sub λa ha=>.mem (k a ha)
theorem Sp.at0 {i:Nat} (k:∀ a,A a->a i=0) (h:Sp A u):u i=0:=by
 induction h with
 | zero=>rfl
 | @add u a z _ ha ih=>show u i+z*a i=0;rw [ih,k a ha];simp
theorem Sp.split {a:Vc} (h:Sp (λu=>A u∨u=a) v):∃ w y,Sp A w∧∀ i,v i=w i+y*a i:=by
 induction h with
 | zero=>exact ⟨_,0,.zero,λi=>by grind⟩
 | @add u b z _ hb ih =>
  obtain ⟨w,y,hw,e⟩:=ih
  rcases hb with hb | rfl
  ·exact ⟨_,y,.add z hw hb,λi=>by grind⟩
  ·exact ⟨w,y+z,hw,λi=>by grind⟩
end
def comb:List Int->List Vc->Vc
 | x :: xs,a :: as=>λi=>x*a i+comb xs as i
 | _,_=>λ_=>0
theorem zf5 {A:Vc->Prop}:∀ {xs:List Int} {as:List Vc},(∀ a∈as,A a)->Sp A (comb xs as)
 | [],_,_=>.zero
 | _ :: _,[],_=>.zero
 | x :: xs,a :: as,h=>(((Sp.mem (h a List.mem_cons_self)).smul x).plus (zf5 (xs:=xs) λb hb=>h b (List.mem_cons_of_mem _ hb))).conv λi=>by simp only [comb]
theorem zi2:∀ {xs ys:List Int} {as:List Vc} (i:Nat),xs.length=ys.length->comb (List.zipWith (·-·) xs ys) as i=comb xs as i-comb ys as i
 | [],[],_,_,_=>by simp [comb]
 | x :: xs,y :: ys,[],_,_=>by simp [comb]
 | x :: xs,y :: ys,a :: as,i,h=>by
  have:=zi2 (xs:=xs) (ys:=ys) (as:=as) i (by simpa using h)
  simp only [comb,List.zipWith_cons_cons,this]
  grind
theorem zgj:∀ {xs:List Int} {as:List Vc} (c:Int) (i:Nat),comb (xs.map (c*·)) as i=c*comb xs as i
 | [],_,_,_=>by simp [comb]
 | x :: xs,[],_,_=>by simp [comb]
 | x :: xs,a :: as,c,i=>by
  have:=zgj (xs:=xs) (as:=as) c i
  simp only [comb,List.map_cons,this]
  grind
theorem zg8 {X B:Nat} {i:Nat}:∀ {xs:List Int} {as:List Vc},(∀ x∈xs,x.natAbs≤X)->(∀ a∈as,(a i).natAbs≤B)->(comb xs as i).natAbs≤as.length*(X*B)
 | [],_,_,_=>by simp [comb]
 | _ :: _,[],_,_=>by simp [comb]
 | x :: xs,a :: as,h,k=>by
  have h1:=zg8 (xs:=xs) (as:=as) (λy hy=>h y (List.mem_cons_of_mem _ hy)) λb hb=>k b (List.mem_cons_of_mem _ hb)
  have h2:(x*a i).natAbs≤X*B:=by rw [Int.natAbs_mul];exact Nat.mul_le_mul (h x List.mem_cons_self) (k a List.mem_cons_self)
  simp only [comb,List.length_cons,Nat.succ_mul]
  omega
theorem zmF:∀ (M N:Nat) (f:Nat->Nat),M<N->(∀ n,n<N->f n<M)->∃ i j,i<j∧j<N∧f i=f j
 | 0,N,f,h,k=>absurd (k 0 h) (Nat.not_lt_zero _)
 | M+1,N,f,h,k=>by
  by_cases q:∃ i,i<N-1∧f i=f (N-1)
  ·obtain ⟨i,h1,h2⟩:=q
   exact ⟨i,N-1,h1,by omega,h2⟩
  ·have q:∀ i,i<N-1->f i≠f (N-1):=λi h1 h2=>q ⟨i,h1,h2⟩
   obtain ⟨i,j,h1,h2,h3⟩:=zmF M (N-1) (λn=>if f (N-1)<f n then f n-1 else f n) (by omega) λn hn=>by
    have a:=k n (by omega)
    have b:=k (N-1) (by omega)
    have c:=q n hn
    show (if f (N-1)<f n then f n-1 else f n)<M
    split<;>omega
   refine ⟨i,j,h1,by omega,?_⟩
   have a:=q i (by omega)
   have b:=q j h2
   split at h3<;>split at h3<;>omega
def digs (b:Nat):Nat->Nat->List Int
 | 0,_=>[]
 | k+1,n=>((n%b:Nat):Int) :: digs b k (n/b)
theorem zdt {b:Nat}:∀ {k n:Nat},(digs b k n).length=k
 | 0,_=>rfl
 | k+1,n=>by simp [digs,zdt]
theorem zhF {b:Nat} (hb:0<b):∀ {k n:Nat},∀ x∈digs b k n,0≤x∧x<b
 | 0,_,x,h=>by simp [digs] at h
 | k+1,n,x,h=>by
  simp only [digs,List.mem_cons] at h
  rcases h with rfl | h
  ·have:=Nat.mod_lt n hb
   omega
  ·exact zhF hb x h
theorem zi0 {b:Nat} (hb:0<b):∀ {k n m:Nat},n<b^k->m<b^k->digs b k n=digs b k m->n=m
 | 0,n,m,h1,h2,_=>by simp at h1 h2;omega
 | k+1,n,m,h1,h2,e=>by
  simp only [digs,List.cons.injEq] at e
  have h3:=zi0 hb (k:=k) (Nat.div_lt_of_lt_mul (by rw [Nat.pow_succ,Nat.mul_comm] at h1;exact h1)) (Nat.div_lt_of_lt_mul (by rw [Nat.pow_succ,Nat.mul_comm] at h2;exact h2)) e.2
  have h4:=Nat.div_add_mod n b
  have h5:=Nat.div_add_mod m b
  rw [h3] at h4
  omega
def enc (W:Nat) (u:Vc):List Nat->Nat
 | []=>0
 | h :: hs=>(u h+W).toNat+(2*W+1)*enc W u hs
theorem zna {W:Nat} {u:Vc}:∀ {hs:List Nat},(∀ h∈hs,(u h).natAbs≤W)->enc W u hs<(2*W+1)^hs.length
 | [],_=>by simp [enc]
 | h :: hs,k=>by
  have h1:=zna (hs:=hs) λg hg=>k g (List.mem_cons_of_mem _ hg)
  have h2:=k h List.mem_cons_self
  simp only [enc,List.length_cons,Nat.pow_succ]
  have h3:(2*W+1)*(enc W u hs+1)≤(2*W+1)*(2*W+1)^hs.length:=Nat.mul_le_mul_left _ h1
  rw [Nat.mul_comm ((2*W+1)^hs.length)]
  rw [Nat.mul_add] at h3
  omega
theorem zk2 {W:Nat} {u v:Vc}:∀ {hs:List Nat},(∀ h∈hs,(u h).natAbs≤W∧(v h).natAbs≤W)->enc W u hs=enc W v hs->∀ h∈hs,u h=v h
 | [],_,_,h,hh=>by simp at hh
 | g :: hs,k,e,h,hh=>by
  have h2:=k g List.mem_cons_self
  simp only [enc] at e
  have e1:((u g+W).toNat+(2*W+1)*enc W u hs)%(2*W+1)=((v g+W).toNat+(2*W+1)*enc W v hs)%(2*W+1):=by rw [e]
  rw [Nat.add_mul_mod_self_left,Nat.add_mul_mod_self_left,Nat.mod_eq_of_lt (by omega),Nat.mod_eq_of_lt (by omega)] at e1
  have e2:u g=v g:=by omega
  rcases List.mem_cons.mp hh with rfl | hh
  ·exact e2
  ·refine zk2 (λx hx=>k x (List.mem_cons_of_mem _ hx)) ?_ h hh
   rw [e1] at e
   exact Nat.eq_of_mul_eq_mul_left (show 0<2*W+1 by omega) (Nat.add_left_cancel e)
theorem zpp {as:List Vc} {hs:List Nat} {B:Nat} (hl:hs.length<as.length) (hB:∀ a∈as,∀ h∈hs,(a h).natAbs≤B) :
  ∃ xs:List Int,xs.length=as.length∧(∃ x∈xs,x≠0)∧(∀ x∈xs,x.natAbs≤(2*(as.length*B)+1)^hs.length)∧∀ h∈hs,comb xs as h=0:=by
 generalize hY:2*(as.length*B)+1=Y
 have hY1:1≤Y:=by omega
 generalize hX:Y^hs.length=X
 have hX1:1≤X:=by rw [← hX];exact Nat.one_le_pow _ _ hY1
 have key:∀ n,∀ h∈hs,(comb (digs (X+1) as.length n) as h).natAbs≤as.length*(X*B):=λn h hh =>
  zg8 (λx hx=>by have:=zhF (by omega) x hx;omega) λa ha=>hB a ha h hh
 obtain ⟨i,j,h1,h2,h3⟩:=zmF ((2*(as.length*(X*B))+1)^hs.length) ((X+1)^as.length) (λn=>enc (as.length*(X*B)) (comb (digs (X+1) as.length n) as) hs) (by
  have e1:2*(as.length*(X*B))+1≤Y*X:=by
   rw [← hY,Nat.add_mul,Nat.one_mul,Nat.mul_assoc,Nat.mul_assoc,Nat.mul_comm B X]
   omega
  calc (2*(as.length*(X*B))+1)^hs.length≤(Y*X)^hs.length:=Nat.pow_le_pow_left e1 _
   _=X*X^hs.length:=by rw [Nat.mul_pow,hX]
   _=X^(hs.length+1):=by rw [Nat.pow_succ,Nat.mul_comm]
   _≤X^as.length:=Nat.pow_le_pow_right hX1 hl
   _<(X+1)^as.length:=Nat.pow_lt_pow_left (by omega) (by omega)) λn _=>zna (key n)
 refine ⟨List.zipWith (·-·) (digs (X+1) as.length i) (digs (X+1) as.length j),by simp [zdt],?_,λx hx=>?_,λh hh=>?_⟩
 ·refine Classical.byContradiction λq=>?_
  have q:∀ x∈List.zipWith (·-·) (digs (X+1) as.length i) (digs (X+1) as.length j),x=0:=λx hx=>Classical.byContradiction λz=>q ⟨x,hx,z⟩
  have e:digs (X+1) as.length i=digs (X+1) as.length j:=by
   refine List.ext_getElem (by simp [zdt]) λk k1 k2=>?_
   have:=q _ (List.getElem_mem (l:=List.zipWith (·-·) (digs (X+1) as.length i) (digs (X+1) as.length j)) (n:=k) (by simp [zdt] at *;omega))
   rw [List.getElem_zipWith] at this
   omega
  have:=zi0 (by omega) (Nat.lt_trans h1 h2) h2 e
  omega
 ·obtain ⟨k,hk,rfl⟩:=List.getElem_of_mem hx
  have hk':k<as.length:=by simpa [zdt] using hk
  rw [List.getElem_zipWith]
  have:=zhF (b:=X+1) (by omega) _ (List.getElem_mem (l:=digs (X+1) as.length i) (n:=k) (by rw [zdt];exact hk'))
  have:=zhF (b:=X+1) (by omega) _ (List.getElem_mem (l:=digs (X+1) as.length j) (n:=k) (by rw [zdt];exact hk'))
  omega
 ·rw [zi2 _ (by simp [zdt])]
  have:=zk2 (λh hh=>⟨key i h hh,key j h hh⟩) h3 h hh
  omega
theorem first {u:Vc} {c:Nat} (h:u c≠0):∃ d,d≤c∧u d≠0∧∀ i,i<d->u i=0:=by
 induction c using Nat.strongRecOn with
 | _ c ih =>
  by_cases q:∃ i,i<c∧u i≠0
  ·obtain ⟨i,h1,h2⟩:=q
   obtain ⟨d,h3,h4⟩:=ih i h1 h2
   exact ⟨d,by omega,h4⟩
  ·exact ⟨c,Nat.le_refl c,h,λi hi=>Classical.byContradiction λz=>q ⟨i,hi,z⟩⟩
def bnd (k B C:Nat):Nat:=(k+1)*((2*((k+1)*C)+1)^k*B)
theorem zjd {k l B C:Nat} (h:k≤l):bnd k B C≤bnd l B C:=by
 unfold bnd
 refine Nat.mul_le_mul (by omega) (Nat.mul_le_mul_right _ ?_)
 refine Nat.le_trans (Nat.pow_le_pow_right (by omega) h) (Nat.pow_le_pow_left ?_ _)
 have:=Nat.mul_le_mul_right C (show k+1≤l+1 by omega)
 omega
structure Wit (A:Vc->Prop) (B E:Nat) (hs:List Nat) (as:List Vc):Prop where
 len:hs.length=as.length
 mem:∀ a∈as,A a
 bd:∀ a∈as,∀ i,(a i).natAbs≤B
 van:∀ u,Sp A u->(∀ h∈hs,u h=0)->∀ i,u i=0
 hd:∀ h∈hs,∃ v,Sp A v∧(∀ i,i<h->v i=0)∧v h≠0∧∀ i,(v i).natAbs≤E
 ind:∀ xs:List Int,xs.length=as.length->(∀ i,comb xs as i=0)->∀ x∈xs,x=0
theorem Wit.nil {B E:Nat}:Wit (λ_=>False) B E [] [] where
 len:=rfl
 mem:=by simp
 bd:=by simp
 van:=λu h _ i=>h.at0 λ_ z=>z.elim
 hd:=by simp
 ind:=λxs h _ x hx=>by rw [List.length_eq_zero_iff.mp h] at hx;simp at hx
theorem Wit.rel {A:Vc->Prop} {B C E:Nat} {hs:List Nat} {as:List Vc} {u:Vc} (W:Wit A B E hs as) (hBC:B≤C) (hu:∀ h∈hs,(u h).natAbs≤C) :
  ∃ (x:Int) (xs:List Int),x≠0∧xs.length=as.length∧x.natAbs≤(2*((as.length+1)*C)+1)^as.length∧(∀ y∈xs,y.natAbs≤(2*((as.length+1)*C)+1)^as.length)∧∀ h∈hs,x*u h+comb xs as h=0:=by
 obtain ⟨xs,h1,⟨z,hz,hz0⟩,h3,h4⟩:=zpp (as:=u :: as) (hs:=hs) (B:=C) (by simp [W.len]) λa ha h hh=>by
  rcases List.mem_cons.mp ha with rfl | ha
  ·exact hu h hh
  ·exact Nat.le_trans (W.bd a ha h) hBC
 rw [W.len,List.length_cons] at h3
 match xs,h1 with
 | x :: xs,h1 =>
  refine ⟨x,xs,λq=>?_,by simpa using h1,h3 x List.mem_cons_self,λy hy=>h3 y (List.mem_cons_of_mem _ hy),λh hh=>by have:=h4 h hh;simpa [comb] using this⟩
  subst q
  have k1:∀ i,comb xs as i=0:=W.van _ (zf5 W.mem) λh hh=>by have:=h4 h hh;simpa [comb] using this
  have k2:=W.ind xs (by simpa using h1) k1
  rcases List.mem_cons.mp hz with rfl | hz
  ·exact hz0 rfl
  ·exact hz0 (k2 z hz)
theorem Wit.step {A:Vc->Prop} {B E:Nat} {hs:List Nat} {as:List Vc} {a:Vc} (W:Wit A B E hs as) (ha:∀ i,(a i).natAbs≤B) (hE:bnd as.length B B≤E) :
  ∃ hs' as',Wit (λu=>A u∨u=a) B E hs' as'∧as'.length≤as.length+1:=by
 obtain ⟨x,xs,hx,hl,b1,b2,h0⟩:=W.rel (u:=a) (Nat.le_refl B) λh _=>ha h
 have sp1:Sp A (comb xs as):=zf5 W.mem
 have up:∀ u,Sp A u->Sp (λu=>A u∨u=a) u:=λu hu=>hu.mono λ_=>.inl
 have hva:Sp (λu=>A u∨u=a) (λi=>x*a i+comb xs as i):=((Sp.mem (.inr rfl)).smul x).plus (up _ sp1)
 by_cases q:∃ i,x*a i+comb xs as i≠0
 ·obtain ⟨i,hi⟩:=q
  obtain ⟨c,_,hc,hc0⟩:=first (u:=λi=>x*a i+comb xs as i) hi
  refine ⟨c :: hs,a :: as,⟨by simp [W.len],λb hb=>?_,λb hb=>?_,λu hu hv=>?_,λh hh=>?_,λys hy hys=>?_⟩,by simp⟩
  ·rcases List.mem_cons.mp hb with rfl | hb
   ·exact .inr rfl
   ·exact .inl (W.mem b hb)
  ·rcases List.mem_cons.mp hb with rfl | hb
   ·exact ha
   ·exact W.bd b hb
  ·obtain ⟨w,y,hw,e⟩:=hu.split
   have k1:∀ i,x*w i-y*comb xs as i=0:=λi=>by
    have:=W.van _ (hw.lin x (-y) sp1) (λh hh=>by
     have e1:=e h
     rw [hv h (List.mem_cons_of_mem _ hh)] at e1
     have e2:=h0 h hh
     grind) i
    grind
   have k2:y=0:=by
    have e1:=e c
    rw [hv c List.mem_cons_self] at e1
    have e2:=k1 c
    have e3:y*(x*a c+comb xs as c)=0:=by grind
    rcases Int.mul_eq_zero.mp e3 with z | z
    ·exact z
    ·exact (hc z).elim
   intro i
   have e1:=e i
   have e2:=k1 i
   have e3:x*u i=0:=by grind
   exact (Int.mul_eq_zero.mp e3).resolve_left hx
  ·rcases List.mem_cons.mp hh with rfl | hh
   ·refine ⟨_,hva,hc0,hc,λi=>?_⟩
    have e1:=zg8 (i:=i) b2 λb hb=>W.bd b hb i
    have e2:(x*a i).natAbs≤(2*((as.length+1)*B)+1)^as.length*B:=by rw [Int.natAbs_mul];exact Nat.mul_le_mul b1 (ha i)
    unfold bnd at hE
    rw [Nat.add_mul,Nat.one_mul] at hE
    show (x*a i+comb xs as i).natAbs≤E
    omega
   ·obtain ⟨v,q1,q2⟩:=W.hd h hh
    exact ⟨v,up v q1,q2⟩
  ·match ys,hy with
   | y :: ys,hy =>
    have k1:∀ i,x*comb ys as i-y*comb xs as i=0:=λi=>by
     have:=W.van _ ((zf5 (xs:=ys) W.mem).lin x (-y) sp1) (λh hh=>by
      have e1:=hys h
      simp only [comb] at e1
      have e2:=h0 h hh
      grind) i
     grind
    have k2:y=0:=by
     have e1:=hys c
     simp only [comb] at e1
     have e2:=k1 c
     have e3:y*(x*a c+comb xs as c)=0:=by grind
     rcases Int.mul_eq_zero.mp e3 with z | z
     ·exact z
     ·exact (hc z).elim
    subst k2
    have k3:=W.ind ys (by simpa using hy) λi=>by have:=hys i;simpa [comb] using this
    intro z hz
    rcases List.mem_cons.mp hz with rfl | hz
    ·rfl
    ·exact k3 z hz
 ·have q:∀ i,x*a i+comb xs as i=0:=λi=>Classical.byContradiction λz=>q ⟨i,z⟩
  refine ⟨hs,as,⟨W.len,λb hb=>.inl (W.mem b hb),W.bd,λu hu hv=>?_,λh hh=>?_,W.ind⟩,by omega⟩
  ·obtain ⟨w,y,hw,e⟩:=hu.split
   have k1:∀ i,x*w i-y*comb xs as i=0:=λi=>by
    have:=W.van _ (hw.lin x (-y) sp1) (λh hh=>by
     have e1:=e h
     rw [hv h hh] at e1
     have e2:=h0 h hh
     grind) i
    grind
   intro i
   have e1:=e i
   have e2:=k1 i
   have e3:=q i
   have e4:x*u i=0:=by grind
   exact (Int.mul_eq_zero.mp e4).resolve_left hx
  ·obtain ⟨v,q1,q2⟩:=W.hd h hh
   exact ⟨v,up v q1,q2⟩
theorem Wit.small {A:Vc->Prop} {B C E:Nat} {hs:List Nat} {as:List Vc} {u:Vc} (W:Wit A B E hs as) (hBC:B≤C) (hs_:Sp A u) (hu:∀ h∈hs,(u h).natAbs≤C) (i:Nat):(u i).natAbs≤bnd as.length B C:=by
 obtain ⟨x,xs,hx,hl,b1,b2,h0⟩:=W.rel hBC hu
 have k:=W.van _ ((hs_.smul x).plus (zf5 (xs:=xs) W.mem)) h0 i
 have e1:=zg8 (i:=i) b2 λb hb=>W.bd b hb i
 have e2:(x*u i).natAbs=(comb xs as i).natAbs:=by
  have k:x*u i+comb xs as i=0:=k
  omega
 rw [Int.natAbs_mul] at e2
 have e3:(u i).natAbs≤x.natAbs*(u i).natAbs:=Nat.le_mul_of_pos_left _ (Int.natAbs_pos.mpr hx)
 unfold bnd
 rw [Nat.add_mul]
 omega
theorem Wit.head {A:Vc->Prop} {B E:Nat} {hs:List Nat} {as:List Vc} {u:Vc} {h:Nat} (W:Wit A B E hs as) (hu:Sp A u) (h0:∀ i,i<h->u i=0) (h1:u h≠0):h∈hs:=by
 refine Classical.byContradiction λq=>?_
 have hm:∃ n,∀ g∈hs,g<n:=by
  clear W q
  induction hs with
  | nil=>exact ⟨0,by simp⟩
  | cons g hs ih =>
   obtain ⟨n,hn⟩:=ih
   exact ⟨max n (g+1),λk hk=>by
    rcases List.mem_cons.mp hk with rfl | hk
    ·omega
    ·have:=hn k hk;omega⟩
 obtain ⟨n,hn⟩:=hm
 have main:∀ (d t:Nat) (u:Vc),n-t=d->h<t->Sp A u->u h≠0->(∀ g∈hs,g<t->u g=0)->False:=by
  intro d
  induction d with
  | zero=>exact λt u e _ hu h1 k=>h1 (W.van u hu (λg hg=>k g hg (by have:=hn g hg;omega)) h)
  | succ d ih =>
   intro t u e ht hu h1 k
   by_cases z:t∈hs
   ·obtain ⟨v,v1,v2,v3,_⟩:=W.hd t z
    refine ih (t+1) _ (by omega) (by omega) (hu.lin (v t) (-(u t)) v1) ?_ λg hg hgt=>?_
    ·show v t*u h+-u t*v h≠0
     rw [v2 h ht]
     intro y
     rcases Int.mul_eq_zero.mp (show v t*u h=0 by grind) with y | y
     ·exact v3 y
     ·exact h1 y
    ·show v t*u g+-u t*v g=0
     by_cases y:g=t
     ·subst y;grind
     ·rw [v2 g (by omega),k g hg (by omega)];grind
   ·exact ih (t+1) u (by omega) (by omega) hu h1 λg hg hgt=>k g hg (by
     have:g≠t:=λy=>z (y ▸ hg)
     omega)
 exact main _ (h+1) u rfl (by omega) hu h1 λg hg hgt=>by
  by_cases y:g=h
  ·exact (q (y ▸ hg)).elim
  ·exact h0 g (by omega)
end Lat
namespace L2
open PySem PySem.Spec PyProof.Rows
def whl {S:Type} (c:S->Bool) (f:S->S):Nat->S->S
 | 0,s=>s
 | n+1,s=>bif c s then whl c f n (f s) else s
theorem zjo {S:Type} {c:S->Bool} {f:S->S} {s:S} (h:c s=false):∀ n,whl c f n s=s
 | 0=>rfl
 | n+1=>by rw [whl,h];rfl
theorem zmU {S:Type} {c:S->Bool} {f:S->S} {s:S} (h:c s=true) (n:Nat):whl c f (n+1) s=whl c f n (f s):=by rw [whl,h];rfl
theorem zhm {S:Type} {c:S->Bool} {f:S->S} {I:S->Prop} {μ:S->Nat} (hs:∀ s,I s->c s=true->I (f s)∧μ (f s)<μ s):∀ {n:Nat} {s:S},I s->μ s≤n->I (whl c f n s)∧c (whl c f n s)=false
 | 0,s,h,k=>⟨h,by
  show c s=false
  cases q:c s with
  | false=>rfl
  | true=>have:=(hs s h q).2;omega⟩
 | n+1,s,h,k=>by
  cases q:c s with
  | false=>rw [zjo q];exact ⟨h,q⟩
  | true =>
   rw [zmU q]
   exact zhm hs (hs s h q).1 (by have:=(hs s h q).2;omega)
section
variable {E:XS} {Γ:Ctx} {β:Type} {u:TS}
theorem zh5 {S:Type} {tc:TT} {tb:TS} {s0:S} (G:S->Ctx) (fo:β->Oc) {kk:S->β} (c:S->Bool) (f:S->S) (I:S->Prop) (μ:S->Nat) (n:Nat) (w:Wk Γ (G s0)) (h0:I s0) (hn:μ s0≤n)
  (body:∀ s,I s->EvT (G s) tc (c s)∧(c s=true->(I (f s)∧μ (f s)<μ s)∧Run E (G s) tb (.nx (G (f s)))))
  (k:∀ s,s=whl c f n s0->I s->c s=false->Run E (G s) u (fo (kk s))):Run E Γ (tSeq (zmJ tc tb) u) (fo (Let (whl c f n s0) kk)):=λF0 Hb F H σ own D a q=>by
 obtain ⟨i1,i2⟩:=zhm (n:=n) (λs hi hc=>((body s hi).2 hc).1) h0 hn
 have kf:=k _ rfl i1 i2
 refine ⟨λm σ H=>∃ s F own,At F0 Hb F H σ own (G s)∧I s∧μ s=m∧∃ j,μ s≤j∧whl c f j s=whl c f n s0,⟨_,s0,F,own,a.wk w,h0,rfl,n,hn,rfl⟩,?_⟩
 rintro m σ1 H1 ⟨s,F1,own1,a1,hI,rfl,j,hj,ej⟩
 obtain ⟨b1,b2⟩:=body s hI
 refine b1 F0 Hb F1 H1 σ1 own1 _ a1 λF2 H2 g=>?_
 cases e:c s with
 | false =>
  rw [if_neg Bool.false_ne_true]
  rw [zjo e] at ej
  rw [← ej] at kf
  exact kf F0 Hb F2 H2 σ1 own1 D (a1.grow g) (by rw [ej];exact q)
 | true =>
  rw [if_pos rfl]
  obtain ⟨⟨c1,c2⟩,c3⟩:=b2 e
  refine ⟨λσ' H'=>∃ F own,At F0 Hb F H' σ' own (G (f s)),λσ' H' ⟨F',own',a'⟩=>⟨_,c2,f s,F',own',a',c1,rfl,j-1,by omega,?_⟩,?_⟩
  ·rw [← ej,show j=(j-1)+1 by omega,zmU e];simp
  ·exact c3 F0 Hb F2 H2 σ1 own1 _ (a1.grow g) λF' H' σ' own' a'=>⟨F',own',a'⟩
end
end L2
namespace Lat
def vec (l:List Int):Vc:=λi=>l.getD i 0
def hd:List Int->Nat
 | []=>0
 | x :: xs=>bif (!decide (x=0)) then 0 else hd xs+1
def add (l s:List Int):List Int:=List.map (λ(x:Int×Int)=>x.1+x.2) (List.zip l s)
def sub (l s:List Int):List Int:=List.map (λ(x:Int×Int)=>x.1-x.2) (List.zip l s)
def mul (l:List Int) (c:Int):List Int:=List.map (λ(x:Int)=>x*c) l
theorem zbe {x:Int} {xs:List Int} {i:Nat}:vec (x :: xs) (i+1)=vec xs i:=by simp [vec]
theorem vec_out {l:List Int} {i:Nat} (h:l.length≤i):vec l i=0:=by simp [vec,List.getD_eq_getElem?_getD,List.getElem?_eq_none h]
theorem zh7 {l:List Int} {i:Nat} (h:i<l.length):vec l i∈l:=by
 simp only [vec,List.getD_eq_getElem?_getD,List.getElem?_eq_getElem h,Option.getD_some];exact List.getElem_mem h
theorem zhg {l:List Int} {x:Int} (h:x∈l):∃ i,i<l.length∧vec l i=x:=by
 obtain ⟨i,hi,e⟩:=List.getElem_of_mem h
 exact ⟨i,hi,by simp [vec,List.getD_eq_getElem?_getD,List.getElem?_eq_getElem hi,e]⟩
theorem zmL {l:List Int} {B:Nat} (h:∀ x∈l,x.natAbs≤B) (i:Nat):(vec l i).natAbs≤B:=by
 by_cases q:i<l.length
 ·exact h _ (zh7 q)
 ·rw [vec_out (by omega)];exact Nat.zero_le _
theorem zhn {l s:List Int} (h:l.length=s.length):(sub l s).length=l.length:=by simp [sub,h]
theorem znt {l s:List Int} (h:l.length=s.length):(add l s).length=l.length:=by simp [add,h]
theorem zaO {l:List Int} {c:Int}:(mul l c).length=l.length:=by simp [mul]
theorem zgd:∀ {l s:List Int} {i:Nat},l.length=s.length->vec (sub l s) i=vec l i-vec s i
 | [],[],i,_=>by simp [sub,vec]
 | x :: l,y :: s,0,_=>rfl
 | x :: l,y :: s,i+1,h=>by
  have:=zgd (l:=l) (s:=s) (i:=i) (by simpa using h)
  rw [zbe,zbe,← this]
  exact zbe
theorem zj5:∀ {l s:List Int} {i:Nat},l.length=s.length->vec (add l s) i=vec l i+vec s i
 | [],[],i,_=>by simp [add,vec]
 | x :: l,y :: s,0,_=>rfl
 | x :: l,y :: s,i+1,h=>by
  have:=zj5 (l:=l) (s:=s) (i:=i) (by simpa using h)
  rw [zbe,zbe,← this]
  exact zbe
theorem zcU:∀ {l:List Int} {c:Int} {i:Nat},vec (mul l c) i=vec l i*c
 | [],c,i=>by simp [mul,vec]
 | x :: l,c,0=>rfl
 | x :: l,c,i+1=>by
  have:=zcU (l:=l) (c:=c) (i:=i)
  rw [zbe,← this]
  exact zbe
theorem zo1:∀ {l:List Int},hd l≤l.length
 | []=>Nat.le_refl 0
 | x :: xs=>by
  unfold hd
  cases (!decide (x=0))
  ·exact Nat.succ_le_succ zo1
  ·exact Nat.zero_le _
theorem zbw:∀ {l:List Int} {i:Nat},i<hd l->vec l i=0
 | [],i,h=>absurd h (Nat.not_lt_zero i)
 | x :: xs,i,h=>by
  unfold hd at h
  by_cases q:x=0
  ·rw [show (!decide (x=0))=false by simp [q]] at h
   have h:i<hd xs+1:=h
   cases i with
   | zero=>exact q
   | succ i=>rw [zbe];exact zbw (by omega)
  ·rw [show (!decide (x=0))=true by simp [q]] at h
   exact absurd h (Nat.not_lt_zero i)
theorem zgC:∀ {l:List Int},hd l<l.length->vec l (hd l)≠0
 | [],h=>absurd h (Nat.not_lt_zero _)
 | x :: xs,h=>by
  unfold hd at h ⊢
  by_cases q:x=0
  ·rw [show (!decide (x=0))=false by simp [q]] at h ⊢
   have h:hd xs+1<xs.length+1:=h
   show vec (x :: xs) (hd xs+1)≠0
   rw [zbe]
   exact zgC (by omega)
  ·rw [show (!decide (x=0))=true by simp [q]]
   exact q
theorem zkF {l:List Int} {d:Nat} (h:vec l d≠0) (k:∀ i,i<d->vec l i=0):hd l=d:=by
 have h1:¬ hd l<d:=λq=>by
  have hl:d<l.length:=Nat.lt_of_not_le λz=>h (vec_out z)
  exact zgC (by omega) (k _ q)
 have h2:¬ d<hd l:=λq=>h (zbw q)
 omega
theorem zph {l:List Int} {d:Nat} (hl:d≤l.length) (k:∀ i,i<d->vec l i=0):d≤hd l:=by
 refine Nat.le_of_not_lt λq=>?_
 exact zgC (by omega) (k _ q)
def quo (l s:List Int):Int:=vec l (hd s)/vec s (hd s)
def zih (l s:List Int):List Int:=bif (!decide (quo l s=0)) then sub l (mul s (quo l s)) else l
def low (l:List Int) (ss:List (List Int)):List Int:=ss.foldl zih l
theorem zg4 {l s:List Int} (h:l.length=s.length):(zih l s).length=l.length:=by
 unfold zih
 cases (!decide (quo l s=0))
 ·rfl
 ·show (sub l (mul s (quo l s))).length=_
  rw [zhn (by rw [zaO];exact h)]
theorem zf0 {l s:List Int} (h:l.length=s.length) (i:Nat):vec (zih l s) i=vec l i-vec s i*quo l s:=by
 unfold zih
 by_cases q:quo l s=0
 ·rw [show (!decide (quo l s=0))=false by simp [q],q]
  show vec l i=_
  omega
 ·rw [show (!decide (quo l s=0))=true by simp [q]]
  show vec (sub l (mul s (quo l s))) i=_
  rw [zgd (by rw [zaO];exact h),zcU]
def Ech (n:Nat):Nat->List (List Int)->Prop
 | _,[]=>True
 | lo,s :: ss=>s.length=n∧lo≤hd s∧hd s<n∧0<vec s (hd s)∧Ech n (hd s+1) ss
def SpL (ss:List (List Int)):Vc->Prop:=Sp (λu=>∃ s∈ss,u=vec s)
theorem Ech.mono {n:Nat}:∀ {ss:List (List Int)} {lo lo':Nat},Ech n lo ss->lo'≤lo->Ech n lo' ss
 | [],_,_,_,_=>trivial
 | s :: ss,lo,lo',h,k=>⟨h.1,Nat.le_trans k h.2.1,h.2.2⟩
theorem Ech.mem {n:Nat}:∀ {ss:List (List Int)} {lo:Nat},Ech n lo ss->∀ t∈ss,t.length=n∧lo≤hd t∧hd t<n∧0<vec t (hd t)
 | [],_,_,t,h=>by simp at h
 | s :: ss,lo,h,t,ht=>by
  rcases List.mem_cons.mp ht with rfl | ht
  ·exact ⟨h.1,h.2.1,h.2.2.1,h.2.2.2.1⟩
  ·obtain ⟨a,b,c,d⟩:=Ech.mem h.2.2.2.2 t ht
   have:=h.2.1
   exact ⟨a,by omega,c,d⟩
theorem Ech.before {n lo i:Nat} {ss:List (List Int)} (h:Ech n lo ss) (hi:i<lo):∀ t∈ss,vec t i=0:=λt ht=>zbw (by have:=(h.mem t ht).2.1;omega)
theorem SpL.before {n lo i:Nat} {ss:List (List Int)} {u:Vc} (h:Ech n lo ss) (hi:i<lo) (hu:SpL ss u):u i=0:=Sp.at0 (λa ⟨s,hs,e⟩=>by rw [e];exact h.before hi s hs) hu
theorem SpL.cons {s:List Int} {ss:List (List Int)} {u:Vc} (h:SpL (s :: ss) u):∃ w y,SpL ss w∧∀ i,u i=w i+y*vec s i:=by
 have:Sp (λu=>(∃ t∈ss,u=vec t)∨u=vec s) u:=Sp.mono (λa ⟨t,ht,e⟩=>by
  rcases List.mem_cons.mp ht with rfl | ht
  ·exact .inr e
  ·exact .inl ⟨t,ht,e⟩) h
 exact this.split
theorem SpL.mem {ss:List (List Int)} {s:List Int} (h:s∈ss):SpL ss (vec s):=Sp.mem ⟨s,h,rfl⟩
theorem SpL.up {s:List Int} {ss:List (List Int)} {u:Vc} (h:SpL ss u):SpL (s :: ss) u:=Sp.mono (λ_ ⟨t,ht,e⟩=>⟨t,List.mem_cons_of_mem _ ht,e⟩) h
theorem SpL.sub {ss tt:List (List Int)} {u:Vc} (k:∀ s∈ss,SpL tt (vec s)) (h:SpL ss u):SpL tt u:=Sp.sub (λ_ ⟨s,hs,e⟩=>e ▸ k s hs) h
theorem zjl {n:Nat}:∀ {ss:List (List Int)} {lo:Nat} {u:Vc},Ech n lo ss->SpL ss u->(∀ t∈ss,0≤u (hd t)∧u (hd t)<vec t (hd t))->∀ i,u i=0
 | [],_,u,_,h,_,i=>Sp.at0 (λ_ ⟨_,z,_⟩=>by simp at z) h
 | s :: ss,lo,u,e,h,k,i=>by
  obtain ⟨w,y,hw,hu⟩:=h.cons
  have e1:=SpL.before e.2.2.2.2 (Nat.lt_succ_self (hd s)) hw
  have e2:=hu (hd s)
  have e3:=k s List.mem_cons_self
  have e4:=e.2.2.2.1
  rw [e1] at e2
  have y0:y=0:=by
   rw [e2,Int.zero_add] at e3
   refine Classical.byContradiction λq=>?_
   rcases Int.lt_or_gt_of_ne q with q | q
   ·have:=Int.mul_neg_of_neg_of_pos q e4
    omega
   ·have:=Int.mul_le_mul_of_nonneg_right (show (1:Int)≤y by omega) (Int.le_of_lt e4)
    omega
  have hu':∀ i,u i=w i:=λi=>by rw [hu i,y0];omega
  have:u=w:=funext hu'
  subst this
  exact zjl e.2.2.2.2 hw (λt ht=>k t (List.mem_cons_of_mem _ ht)) i
theorem zit {n:Nat}:∀ {ss:List (List Int)} {lo:Nat} {u:Vc} {t:List Int},Ech n lo ss->SpL ss u->t∈ss->(∀ i,i<hd t->u i=0)->vec t (hd t) ∣ u (hd t)
 | [],_,_,t,_,_,h,_=>by simp at h
 | s :: ss,lo,u,t,e,h,ht,k=>by
  obtain ⟨w,y,hw,hu⟩:=h.cons
  have e1:=SpL.before e.2.2.2.2 (Nat.lt_succ_self (hd s)) hw
  rcases List.mem_cons.mp ht with rfl | ht
  ·rw [hu,e1];exact ⟨y,by grind⟩
  ·have e5:=(Ech.mem e.2.2.2.2 t ht).2.1
   have e6:=hu (hd s)
   rw [k (hd s) (by omega),e1] at e6
   have y0:y=0:=(Int.mul_eq_zero.mp (show y*vec s (hd s)=0 by omega)).resolve_right (by have:=e.2.2.2.1;omega)
   have:u=w:=funext λi=>by rw [hu i,y0];omega
   subst this
   exact zit e.2.2.2.2 hw ht k
theorem zhz {n:Nat}:∀ {ss:List (List Int)} {lo:Nat} {u:Vc} {h:Nat},Ech n lo ss->SpL ss u->(∀ i,i<h->u i=0)->u h≠0->∃ t∈ss,hd t=h
 | [],_,u,h,_,hu,_,q=>(q (Sp.at0 (λ_ ⟨_,z,_⟩=>by simp at z) hu)).elim
 | s :: ss,lo,u,h,e,hu,k,q=>by
  obtain ⟨w,y,hw,hu⟩:=hu.cons
  by_cases z:hd s=h
  ·exact ⟨s,List.mem_cons_self,z⟩
  ·have e1:=SpL.before e.2.2.2.2 (Nat.lt_succ_self (hd s)) hw
   by_cases y0:y=0
   ·have:u=w:=funext λi=>by rw [hu i,y0];omega
    subst this
    obtain ⟨t,ht,e⟩:=zhz e.2.2.2.2 hw k q
    exact ⟨t,List.mem_cons_of_mem _ ht,e⟩
   ·have e6:=hu (hd s)
    rw [e1,Int.zero_add] at e6
    have e7:u (hd s)≠0:=by
     rw [e6];intro z;rcases Int.mul_eq_zero.mp z with z | z
     ·exact y0 z
     ·have:=e.2.2.2.1;omega
    have e8:h<hd s:=Nat.lt_of_not_le λz'=>e7 (k _ (by omega))
    have e9:w h=0:=SpL.before e.2.2.2.2 (Nat.lt_succ_of_lt e8) hw
    rw [hu h,e9,zbw e8] at q
    simp at q
theorem zcp {n:Nat}:∀ {ss:List (List Int)} {lo:Nat} {l:List Int},Ech n lo ss->l.length=n →
  (low l ss).length=n∧SpL ss (λi=>vec l i-vec (low l ss) i)∧(∀ t∈ss,0≤vec (low l ss) (hd t)∧vec (low l ss) (hd t)<vec t (hd t))∧∀ i,i<lo->vec (low l ss) i=vec l i
 | [],lo,l,_,h=>⟨h,Sp.zero.conv λi=>by show (0:Int)=vec l i-vec l i;omega,by simp,λ_ _=>rfl⟩
 | s :: ss,lo,l,e,h=>by
  have hl:l.length=s.length:=by rw [h,e.1]
  obtain ⟨a,b,c,d⟩:=zcp (l:=zih l s) e.2.2.2.2 (by rw [zg4 hl,h])
  refine ⟨a,?_,λt ht=>?_,λi hi=>?_⟩
  ·refine ((SpL.up (s:=s) b).plus ((SpL.mem (ss:=s :: ss) List.mem_cons_self).smul (quo l s))).conv λi=>?_
   rw [zf0 hl]
   show vec l i-vec s i*quo l s-vec (low (zih l s) ss) i+quo l s*vec s i=vec l i-vec (low (zih l s) ss) i
   rw [Int.mul_comm (quo l s)];omega
  ·rcases List.mem_cons.mp ht with rfl | ht
   ·show 0≤vec (low (zih l t) ss) (hd t)∧vec (low (zih l t) ss) (hd t)<_
    rw [d (hd t) (Nat.lt_succ_self _),zf0 hl]
    have p:=e.2.2.2.1
    have e1:=Int.mul_ediv_add_emod (vec l (hd t)) (vec t (hd t))
    have e2:=Int.emod_nonneg (vec l (hd t)) (show vec t (hd t)≠0 by omega)
    have e3:=Int.emod_lt_of_pos (vec l (hd t)) p
    unfold quo
    omega
   ·exact c t ht
  ·show vec (low (zih l s) ss) i=_
   have:=e.2.1
   rw [d i (by omega),zf0 hl,zbw (show i<hd s by omega)];omega
end Lat
namespace Lat
abbrev G4:=Int×Int×Int×Int
def cmC (s:G4):Bool:=!decide (s.2.1=(0:Int))
def cmF (s:G4):G4:=(s.2.1,s.1-s.1/s.2.1*s.2.1,s.2.2.2,s.2.2.1-s.1/s.2.1*s.2.2.2)
structure GI (one other:Int) (s:G4):Prop where
 g:0<s.1
 m:0≤s.2.1
 gb:s.1≤one+other
 mb:s.2.1≤one+other
 tb:-other≤s.2.2.1∧s.2.2.1≤other
 lb:-other≤s.2.2.2∧s.2.2.2≤other
 sg:(0≤s.2.2.1∧s.2.2.2≤0∧s.2.1*s.2.2.1-s.1*s.2.2.2=other)∨(s.2.2.1≤0∧0≤s.2.2.2∧s.1*s.2.2.2-s.2.1*s.2.2.1=other)
 bg:∃ y,s.1=s.2.2.1*one+y*other
 bm:∃ y,s.2.1=s.2.2.2*one+y*other
 d1:∃ p q,one=p*s.1+q*s.2.1
 d2:∃ p q,other=p*s.1+q*s.2.1
theorem GI.start {one other:Int} (h1:0<one) (h2:0<other):GI one other (one,other,1,0) where
 g:=h1
 m:=by show 0≤other;omega
 gb:=by show one≤one+other;omega
 mb:=by show other≤one+other;omega
 tb:=by show -other≤1∧1≤other;omega
 lb:=by show -other≤0∧0≤other;omega
 sg:=.inl (by show (0:Int)≤1∧(0:Int)≤0∧other*1-one*0=other;omega)
 bg:=⟨0,by show one=1*one+0*other;omega⟩
 bm:=⟨1,by show other=0*one+1*other;omega⟩
 d1:=⟨1,0,by show one=1*one+0*other;omega⟩
 d2:=⟨0,1,by show other=0*one+1*other;omega⟩
theorem GI.step {one other:Int} {s:G4} (I:GI one other s) (hc:cmC s=true):GI one other (cmF s)∧(cmF s).2.1.toNat<s.2.1.toNat:=by
 obtain ⟨g,m,t,l⟩:=s
 obtain ⟨h1,h2,h3,h4,h5,h6,h7,⟨y1,h8⟩,⟨y2,h9⟩,⟨p1,q1,hA⟩,⟨p2,q2,hB⟩⟩:=I
 simp only at h1 h2 h3 h4 h5 h6 h7 h8 h9 hA hB
 have hm:0<m:=by
  unfold cmC at hc
  simp only [Bool.not_eq_true',decide_eq_false_iff_not] at hc
  omega
 have e1:=Int.mul_ediv_add_emod g m
 have e2:=Int.emod_nonneg g (show m≠0 by omega)
 have e3:=Int.emod_lt_of_pos g hm
 have e4:0≤g/m:=Int.ediv_nonneg (by omega) (by omega)
 have e5:g-g/m*m=g%m:=by rw [Int.mul_comm];omega
 show GI one other (m,g-g/m*m,l,t-g/m*l)∧(g-g/m*m).toNat<m.toNat
 rw [e5]
 generalize hq:g/m=q at *
 generalize hr:g%m=r at *
 have eg:g=m*q+r:=by omega
 have sg:(0≤l∧t-q*l≤0∧r*l-m*(t-q*l)=other)∨(l≤0∧0≤t-q*l∧m*(t-q*l)-r*l=other):=by
  rcases h7 with ⟨a,b,c⟩ | ⟨a,b,c⟩
  ·refine .inr ⟨b,?_,by grind⟩
   have:=Int.mul_nonneg e4 (show (0:Int)≤-l by omega)
   grind
  ·refine .inl ⟨b,?_,by grind⟩
   have:=Int.mul_nonneg e4 b
   omega
 have hl:-other≤t-q*l∧t-q*l≤other:=by
  rcases sg with ⟨a,b,c⟩ | ⟨a,b,c⟩
  ·have k1:=Int.mul_nonneg e2 a
   have k2:=Int.mul_le_mul_of_nonneg_right (show (1:Int)≤m by omega) (show (0:Int)≤-(t-q*l) by omega)
   have k3:m*-(t-q*l)=-(m*(t-q*l)):=by grind
   rw [k3] at k2
   omega
  ·have k1:=Int.mul_nonneg e2 (show (0:Int)≤-l by omega)
   have k2:=Int.mul_le_mul_of_nonneg_right (show (1:Int)≤m by omega) b
   have k3:r*-l=-(r*l):=by grind
   rw [k3] at k1
   omega
 refine ⟨⟨hm,e2,h4,by show r≤_;omega,h6,hl,sg,⟨y2,h9⟩,⟨y1-q*y2,?_⟩,⟨p1*q+q1,p1,?_⟩,⟨p2*q+q2,p2,?_⟩⟩,by omega⟩
 ·show r=(t-q*l)*one+(y1-q*y2)*other
  grind
 ·show one=(p1*q+q1)*m+p1*r
  grind
 ·show other=(p2*q+q2)*m+p2*r
  grind
structure Cm (one other g x y:Int):Prop where
 pos:0<g
 le:g≤one+other
 xb:-other≤x∧x≤other
 eq:g=x*one+y*other
 d1:one/g*g=one
 d2:other/g*g=other
theorem GI.done {one other:Int} {s:G4} (h2:0<other) (I:GI one other s) (hc:cmC s=false):Cm one other s.1 s.2.2.1 ((s.1-s.2.2.1*one)/other):=by
 obtain ⟨g,m,t,l⟩:=s
 obtain ⟨h1,_,h3,_,h5,_,_,⟨y1,h8⟩,_,⟨p1,q1,hA⟩,⟨p2,q2,hB⟩⟩:=I
 simp only at h1 h3 h5 h8 hA hB
 have hm:m=0:=by
  unfold cmC at hc
  simpa using hc
 subst hm
 have e:(g-t*one)/other=y1:=by
  rw [show g-t*one=y1*other by omega]
  exact Int.mul_ediv_cancel _ (by omega)
 refine ⟨h1,h3,h5,?_,?_,?_⟩
 ·show g=t*one+(g-t*one)/other*other
  rw [e];exact h8
 ·exact Int.ediv_mul_cancel ⟨p1,by show one=g*p1;rw [Int.mul_comm];omega⟩
 ·exact Int.ediv_mul_cancel ⟨p2,by show other=g*p2;rw [Int.mul_comm];omega⟩
def mg1 (s l:List Int) (x y:Int):List Int:=add (mul s x) (mul l y)
def mg2 (s l:List Int) (g:Int):List Int:=sub (mul l (vec s (hd s)/g)) (mul s (vec l (hd s)/g))
theorem zgh {s l:List Int} {x y:Int} (h:s.length=l.length) (i:Nat):vec (mg1 s l x y) i=x*vec s i+y*vec l i:=by
 unfold mg1
 rw [zj5 (by rw [zaO,zaO,h]),zcU,zcU,Int.mul_comm,Int.mul_comm (vec l i)]
theorem zhe {s l:List Int} {g:Int} (h:s.length=l.length) (i:Nat):vec (mg2 s l g) i=vec s (hd s)/g*vec l i-vec l (hd s)/g*vec s i:=by
 unfold mg2
 rw [zgd (by rw [zaO,zaO,h]),zcU,zcU,Int.mul_comm,Int.mul_comm (vec s i)]
theorem zly {s l:List Int} {x y:Int} (h:s.length=l.length):(mg1 s l x y).length=s.length:=by unfold mg1;rw [znt (by rw [zaO,zaO,h]),zaO]
theorem zln {s l:List Int} {g:Int} (h:s.length=l.length):(mg2 s l g).length=s.length:=by unfold mg2;rw [zhn (by rw [zaO,zaO,h]),zaO,h]
theorem zjZ {s l:List Int} {g x y:Int} (h:s.length=l.length) (C:Cm (vec s (hd s)) (vec l (hd s)) g x y) (i:Nat) :
  vec s i=vec s (hd s)/g*vec (mg1 s l x y) i-y*vec (mg2 s l g) i∧vec l i=vec l (hd s)/g*vec (mg1 s l x y) i+x*vec (mg2 s l g) i:=by
 rw [zgh h,zhe h]
 have e1:=C.eq
 have e2:=C.d1
 have e3:=C.d2
 have e4:=C.pos
 generalize vec s (hd s)=a at *
 generalize vec l (hd s)=b at *
 generalize a/g=p at *
 generalize b/g=q at *
 have u:x*p+y*q=1:=by
  have:(x*p+y*q-1)*g=0:=by grind
  rcases Int.mul_eq_zero.mp this with z | z<;>omega
 constructor<;>grind
def upr (l:List Int):List Int:=bif decide (vec l (hd l)<(0:Int)) then mul l (-(1:Int)) else l
theorem zkZ {l:List Int}:(upr l).length=l.length:=by
 unfold upr
 cases decide (vec l (hd l)<(0:Int))
 ·rfl
 ·exact zaO
theorem ziK {l:List Int}:∃ c:Int,c*c=1∧(∀ i,vec (upr l) i=c*vec l i)∧0≤c*vec l (hd l):=by
 unfold upr
 by_cases q:vec l (hd l)<0
 ·rw [show decide (vec l (hd l)<(0:Int))=true by simp [q]]
  exact ⟨-1,by decide,λi=>by show vec (mul l (-(1:Int))) i=_;rw [zcU];omega,by omega⟩
 ·rw [show decide (vec l (hd l)<(0:Int))=false by simp [q]]
  exact ⟨1,by decide,λi=>by show vec l i=_;omega,by omega⟩
theorem zmR {l:List Int} (h:hd l<l.length):hd (upr l)=hd l∧0<vec (upr l) (hd l):=by
 obtain ⟨c,c1,c2,c3⟩:=ziK (l:=l)
 have e:=zgC h
 have c0:c≠0:=by intro z;subst z;simp at c1
 have e1:c*vec l (hd l)≠0:=λz=>by
  rcases Int.mul_eq_zero.mp z with z | z
  ·exact c0 z
  ·exact e z
 refine ⟨zkF (by rw [c2];exact e1) λi hi=>by rw [c2,zbw hi];simp,by rw [c2];omega⟩
theorem zm5 {l:List Int} {ss:List (List Int)} (h:SpL ss (vec l)):SpL ss (vec (upr l)):=by
 obtain ⟨c,_,c2,_⟩:=ziK (l:=l)
 exact (Sp.smul c h).conv λi=>(c2 i).symm
theorem zls {l:List Int} {ss:List (List Int)} (h:SpL ss (vec (upr l))):SpL ss (vec l):=by
 obtain ⟨c,c1,c2,_⟩:=ziK (l:=l)
 exact (Sp.smul c h).conv λi=>by rw [c2,← Int.mul_assoc,c1,Int.one_mul]
structure Mg where
 f:Int->Int->Int×Int×Int
 ok:∀ a b:Int,0<a->0<b->Cm a b (f a b).1 (f a b).2.1 (f a b).2.2
def tin (M:Mg):List (List Int)->List Int->List (List Int)
 | [],l=>bif decide (hd l<l.length) then [upr l] else []
 | s :: ss,l=>bif decide (hd l<hd s) then upr l :: s :: ss else
   bif decide (hd l=hd s) then mg1 s l (M.f (vec s (hd s)) (vec l (hd s))).2.1 (M.f (vec s (hd s)) (vec l (hd s))).2.2 :: tin M ss (low (mg2 s l (M.f (vec s (hd s)) (vec l (hd s))).1) ss) else s :: tin M ss l
theorem zfZ (M:Mg) {n:Nat}:∀ {ss:List (List Int)} {lo:Nat} {l:List Int},Ech n lo ss->l.length=n->(∀ i,i<lo->vec l i=0)->(∀ t∈ss,0≤vec l (hd t)∧vec l (hd t)<vec t (hd t))->lo≤n →
  Ech n lo (tin M ss l)∧(tin M ss l).length≤ss.length+1∧(∀ t∈tin M ss l,SpL (l :: ss) (vec t))∧(∀ t∈l :: ss,SpL (tin M ss l) (vec t))
 | [],lo,l,_,hl,h0,_,hlo=>by
  unfold tin
  by_cases q:hd l<l.length
  ·rw [show decide (hd l<l.length)=true by simp [q],cond_true]
   obtain ⟨e1,e2⟩:=zmR q
   refine ⟨⟨by rw [zkZ,hl],by rw [e1];exact zph (by omega) h0,by rw [e1];omega,by rw [e1];exact e2,trivial⟩,by simp,λt ht=>?_,λt ht=>?_⟩
   ·rw [List.mem_singleton.mp ht];exact zm5 (SpL.mem List.mem_cons_self)
   ·rw [List.mem_singleton.mp ht];exact zls (SpL.mem List.mem_cons_self)
  ·rw [show decide (hd l<l.length)=false by simp [q],cond_false]
   have hz:hd l=l.length:=by have:=zo1 (l:=l);omega
   refine ⟨trivial,by simp,by simp,λt ht=>?_⟩
   rw [List.mem_singleton.mp ht]
   exact Sp.zero.conv λi=>by
    by_cases z:i<l.length
    ·rw [zbw (by omega)]
    ·rw [vec_out (by omega)]
 | s :: ss,lo,l,e,hl,h0,hr,hlo=>by
  unfold tin
  have hsl:s.length=l.length:=by rw [e.1,hl]
  by_cases q:hd l<hd s
  ·rw [show decide (hd l<hd s)=true by simp [q],cond_true]
   have hsn:=e.2.2.1
   obtain ⟨e1,e2⟩:=zmR (l:=l) (by omega)
   refine ⟨⟨by rw [zkZ,hl],by rw [e1];exact zph (by omega) h0,by rw [e1];omega,by rw [e1];exact e2,e.1,by rw [e1];omega,e.2.2⟩,by simp,λt ht=>?_,λt ht=>?_⟩
   ·rcases List.mem_cons.mp ht with rfl | ht
    ·exact zm5 (SpL.mem List.mem_cons_self)
    ·exact SpL.mem (List.mem_cons_of_mem _ ht)
   ·rcases List.mem_cons.mp ht with rfl | ht
    ·exact zls (SpL.mem List.mem_cons_self)
    ·exact SpL.mem (List.mem_cons_of_mem _ ht)
  ·rw [show decide (hd l<hd s)=false by simp [q],cond_false]
   by_cases z:hd l=hd s
   ·rw [show decide (hd l=hd s)=true by simp [z],cond_true]
    have hb:0<vec l (hd s):=by
     have:=(hr s List.mem_cons_self).1
     have:=zgC (l:=l) (by rw [z,hl];exact e.2.2.1)
     rw [z] at this;omega
    have C:=M.ok _ _ e.2.2.2.1 hb
    generalize hg:(M.f (vec s (hd s)) (vec l (hd s))).1=g at *
    generalize hx:(M.f (vec s (hd s)) (vec l (hd s))).2.1=x at *
    generalize hy:(M.f (vec s (hd s)) (vec l (hd s))).2.2=y at *
    have f0:∀ i,i<hd s->vec (mg1 s l x y) i=0:=λi hi=>by rw [zgh hsl,zbw hi,zbw (show i<hd l by omega)];omega
    have f1:vec (mg1 s l x y) (hd s)=g:=by rw [zgh hsl];exact C.eq.symm
    have f2:hd (mg1 s l x y)=hd s:=zkF (by rw [f1];have:=C.pos;omega) f0
    have g0:∀ i,i<hd s+1->vec (mg2 s l g) i=0:=λi hi=>by
     rw [zhe hsl]
     by_cases zi:i=hd s
     ·subst zi
      have:=C.d1;have:=C.d2
      generalize vec s (hd s)/g=p at *
      generalize vec l (hd s)/g=r at *
      generalize vec s (hd s)=a at *
      generalize vec l (hd s)=b at *
      grind
     ·rw [zbw (show i<hd s by omega),zbw (show i<hd l by omega)];omega
    obtain ⟨k1,k2,k3,k4⟩:=zcp (l:=mg2 s l g) e.2.2.2.2 (by rw [zln hsl,e.1])
    obtain ⟨i1,i2,i3,i4⟩:=zfZ M (l:=low (mg2 s l g) ss) e.2.2.2.2 k1 (λi hi=>by rw [k4 i hi,g0 i hi]) k3 (by have:=e.2.2.1;omega)
    have low_in:∀ {tt:List (List Int)},(∀ t∈ss,SpL tt (vec t))->SpL tt (vec (mg2 s l g))->SpL tt (vec (low (mg2 s l g) ss)):=λh1 h2=>(Sp.lin 1 (-1) h2 (k2.sub h1)).conv λi=>by omega
    have low_out:∀ {tt:List (List Int)},(∀ t∈ss,SpL tt (vec t))->SpL tt (vec (low (mg2 s l g) ss))->SpL tt (vec (mg2 s l g)):=λh1 h2=>(Sp.plus h2 (k2.sub h1)).conv λi=>by omega
    have hS:SpL (l :: s :: ss) (vec s):=SpL.mem (List.mem_cons_of_mem _ List.mem_cons_self)
    have hL:SpL (l :: s :: ss) (vec l):=SpL.mem List.mem_cons_self
    refine ⟨⟨by rw [zly hsl,e.1],by rw [f2];exact e.2.1,by rw [f2];exact e.2.2.1,by rw [f2,f1];exact C.pos,by rw [f2];exact i1⟩,by simp only [List.length_cons];omega,λt ht=>?_,λt ht=>?_⟩
    ·rcases List.mem_cons.mp ht with rfl | ht
     ·exact (Sp.lin x y hS hL).conv λi=>(zgh hsl i).symm
     ·refine (i3 t ht).sub λv hv=>?_
      rcases List.mem_cons.mp hv with rfl | hv
      ·refine low_in (λt ht=>SpL.mem (List.mem_cons_of_mem _ (List.mem_cons_of_mem _ ht))) ((Sp.lin (vec s (hd s)/g) (-(vec l (hd s)/g)) hL hS).conv λi=>?_)
       rw [zhe hsl];grind
      ·exact SpL.mem (List.mem_cons_of_mem _ (List.mem_cons_of_mem _ hv))
    ·have u1:∀ v∈low (mg2 s l g) ss :: ss,SpL (mg1 s l x y :: tin M ss (low (mg2 s l g) ss)) (vec v):=λv hv=>(i4 v hv).up
     have u2:=low_out (λt ht=>u1 t (List.mem_cons_of_mem _ ht)) (u1 _ List.mem_cons_self)
     have u3:SpL (mg1 s l x y :: tin M ss (low (mg2 s l g) ss)) (vec (mg1 s l x y)):=SpL.mem List.mem_cons_self
     rcases List.mem_cons.mp ht with rfl | ht
     ·exact (Sp.lin (vec t (hd s)/g) x u3 u2).conv λi=>((zjZ hsl C i).2).symm
     ·rcases List.mem_cons.mp ht with rfl | ht
      ·exact (Sp.lin (vec t (hd t)/g) (-y) u3 u2).conv λi=>by rw [(zjZ hsl C i).1];grind
      ·exact u1 t (List.mem_cons_of_mem _ ht)
   ·rw [show decide (hd l=hd s)=false by simp [z],cond_false]
    obtain ⟨i1,i2,i3,i4⟩:=zfZ M (l:=l) e.2.2.2.2 hl (λi hi=>zbw (by omega)) (λt ht=>hr t (List.mem_cons_of_mem _ ht)) (by have:=e.2.2.1;omega)
    refine ⟨⟨e.1,e.2.1,e.2.2.1,e.2.2.2.1,i1⟩,by simp only [List.length_cons];omega,λt ht=>?_,λt ht=>?_⟩
    ·rcases List.mem_cons.mp ht with rfl | ht
     ·exact SpL.mem (List.mem_cons_of_mem _ List.mem_cons_self)
     ·refine (i3 t ht).sub λv hv=>?_
      rcases List.mem_cons.mp hv with rfl | hv
      ·exact SpL.mem List.mem_cons_self
      ·exact SpL.mem (List.mem_cons_of_mem _ (List.mem_cons_of_mem _ hv))
    ·rcases List.mem_cons.mp ht with rfl | ht
     ·exact (i4 t List.mem_cons_self).up
     ·rcases List.mem_cons.mp ht with rfl | ht
      ·exact SpL.mem List.mem_cons_self
      ·exact (i4 t (List.mem_cons_of_mem _ ht)).up
def stl:List (List Int)->List (List Int)
 | []=>[]
 | s :: ss=>low s (stl ss) :: stl ss
def Red:List (List Int)->Prop
 | []=>True
 | s :: ss=>(∀ t∈ss,0≤vec s (hd t)∧vec s (hd t)<vec t (hd t))∧Red ss
theorem zi8 {n:Nat}:∀ {ss:List (List Int)} {lo:Nat},Ech n lo ss->Ech n lo (stl ss)∧Red (stl ss)∧(stl ss).length=ss.length∧(∀ t∈stl ss,SpL ss (vec t))∧∀ t∈ss,SpL (stl ss) (vec t)
 | [],_,_=>⟨trivial,trivial,rfl,by simp [stl],by simp⟩
 | s :: ss,lo,e=>by
  obtain ⟨a,b,c,d,f⟩:=zi8 e.2.2.2.2
  obtain ⟨k1,k2,k3,k4⟩:=zcp (l:=s) a e.1
  have h1:hd (low s (stl ss))=hd s:=zkF (by rw [k4 _ (Nat.lt_succ_self _)];have:=e.2.2.2.1;omega) λi hi=>by rw [k4 _ (by omega),zbw hi]
  refine ⟨⟨k1,by rw [h1];exact e.2.1,by rw [h1];exact e.2.2.1,by rw [h1,k4 _ (Nat.lt_succ_self _)];exact e.2.2.2.1,by rw [h1];exact a⟩,⟨k3,b⟩,by simp [stl,c],λt ht=>?_,λt ht=>?_⟩
  ·rcases List.mem_cons.mp ht with rfl | ht
   ·exact (Sp.lin 1 (-1) (SpL.mem (ss:=s :: ss) List.mem_cons_self) (k2.sub λv hv=>(d v hv).up)).conv λi=>by omega
   ·exact (d t ht).up
  ·rcases List.mem_cons.mp ht with rfl | ht
   ·exact (Sp.plus (SpL.mem (ss:=stl (t :: ss)) (s:=low t (stl ss)) List.mem_cons_self) (k2.sub λv hv=>SpL.mem (List.mem_cons_of_mem _ hv))).conv λi=>by omega
   ·exact (f t ht).up
def clm (M:Mg) (rows:List (List Int)):List (List Int):=rows.foldl (λss r=>stl (tin M ss (low r ss))) []
structure Stairs (n:Nat) (rows ss:List (List Int)):Prop where
 ech:Ech n 0 ss
 red:Red ss
 inn:∀ t∈ss,SpL rows (vec t)
 out:∀ r∈rows,SpL ss (vec r)
theorem Stairs.nil {n:Nat}:Stairs n [] []:=⟨trivial,trivial,by simp,by simp⟩
theorem Stairs.step {n:Nat} {rows ss:List (List Int)} {r:List Int} (M:Mg) (h:Stairs n rows ss) (hr:r.length=n):Stairs n (rows++[r]) (stl (tin M ss (low r ss)))∧(stl (tin M ss (low r ss))).length≤ss.length+1:=by
 obtain ⟨k1,k2,k3,_⟩:=zcp (l:=r) h.ech hr
 obtain ⟨t1,t2,t3,t4⟩:=zfZ M h.ech k1 (λi hi=>absurd hi (Nat.not_lt_zero i)) k3 (Nat.zero_le n)
 obtain ⟨s1,s2,s3,s4,s5⟩:=zi8 t1
 have inn:∀ t∈ss,SpL (rows++[r]) (vec t):=λt ht=>(h.inn t ht).sub λv hv=>SpL.mem (List.mem_append_left _ hv)
 have hr':SpL (rows++[r]) (vec r):=SpL.mem (List.mem_append_right _ List.mem_cons_self)
 have f1:∀ t∈low r ss :: ss,SpL (stl (tin M ss (low r ss))) (vec t):=λt ht=>(t4 t ht).sub s5
 refine ⟨⟨s1,s2,λt ht=>(s4 t ht).sub λv hv=>(t3 v hv).sub λw hw=>?_,λt ht=>?_⟩,by rw [s3];exact t2⟩
 ·rcases List.mem_cons.mp hw with rfl | hw
  ·exact (Sp.lin 1 (-1) hr' (k2.sub inn)).conv λi=>by omega
  ·exact inn w hw
 ·rcases List.mem_append.mp ht with ht | ht
  ·exact (h.out t ht).sub λv hv=>f1 v (List.mem_cons_of_mem _ hv)
  ·rw [List.mem_singleton.mp ht]
   exact (Sp.plus (f1 _ List.mem_cons_self) (k2.sub λv hv=>f1 v (List.mem_cons_of_mem _ hv))).conv λi=>by omega
end Lat
namespace Lat
theorem ech_red {n:Nat}:∀ {ss:List (List Int)} {lo:Nat},Ech n lo ss->Red ss->∀ t∈ss,∀ t'∈ss,hd t'<hd t∨t=t'∨(0≤vec t (hd t')∧vec t (hd t')<vec t' (hd t'))
 | [],_,_,_,t,h,_,_=>by simp at h
 | s :: ss,lo,e,r,t,ht,t',ht'=>by
  rcases List.mem_cons.mp ht with h1 | h1
  ·rcases List.mem_cons.mp ht' with h2 | h2
   ·exact .inr (.inl (h1.trans h2.symm))
   ·rw [h1];exact .inr (.inr (r.1 t' h2))
  ·rcases List.mem_cons.mp ht' with h2 | h2
   ·rw [h2]
    have:=(Ech.mem e.2.2.2.2 t h1).2.1
    exact .inl (by omega)
   ·exact ech_red e.2.2.2.2 r.2 t h1 t' h2
theorem zkR {n:Nat}:∀ {ss:List (List Int)} {lo:Nat},Ech n lo ss->lo≤n->ss.length+lo≤n
 | [],_,_,h=>by simpa using h
 | s :: ss,lo,e,h=>by
  have:=zkR e.2.2.2.2 (by have:=e.2.2.1;omega)
  have:=e.2.1
  simp only [List.length_cons]
  omega
abbrev Rw (rows:List (List Int)):Vc->Prop:=λu=>∃ r∈rows,u=vec r
theorem zjh {B E R:Nat} (hE:bnd R B B≤E):∀ (k:Nat) (rows:List (List Int)),rows.length=k->k≤R+1->(∀ r∈rows,∀ x∈r,x.natAbs≤B)->∃ hs as,Wit (Rw rows) B E hs as∧as.length≤rows.length
 | 0,rows,h,_,_=>by
  rw [List.length_eq_zero_iff.mp h]
  refine ⟨[],[],?_,by simp⟩
  have e:Rw []=λ_=>False:=funext λu=>propext ⟨λ⟨_,z,_⟩=>by simp at z,λz=>z.elim⟩
  rw [e]
  exact Wit.nil
 | k+1,rows,h,hk,hb=>by
  have hne:rows≠[]:=by intro z;rw [z] at h;simp at h
  obtain ⟨rs,r,rfl⟩:∃ rs r,rows=rs++[r]:=⟨rows.dropLast,rows.getLast hne,(List.dropLast_concat_getLast hne).symm⟩
  have hl:rs.length=k:=by simpa using h
  obtain ⟨hs,as,W,h1⟩:=zjh hE k rs hl (by omega) λr hr=>hb r (List.mem_append_left _ hr)
  obtain ⟨hs',as',W',h2⟩:=W.step (a:=vec r) (λi=>zmL (hb r (List.mem_append_right _ List.mem_cons_self)) i) (Nat.le_trans (zjd (by omega)) hE)
  refine ⟨hs',as',?_,by simp only [List.length_append,List.length_singleton];omega⟩
  have e:Rw (rs++[r])=λu=>Rw rs u∨u=vec r:=funext λu=>propext ⟨λ⟨s,hs,e⟩=>by
   rcases List.mem_append.mp hs with z | z
   ·exact .inl ⟨s,z,e⟩
   ·rw [List.mem_singleton.mp z] at e;exact .inr e,λz=>by
   rcases z with ⟨s,hs,e⟩ | z
   ·exact ⟨s,List.mem_append_left _ hs,e⟩
   ·exact ⟨r,List.mem_append_right _ List.mem_cons_self,z⟩⟩
  rw [e]
  exact W'
theorem Stairs.wit {n B E:Nat} {rows ss:List (List Int)} {hs:List Nat} {as:List Vc} (h:Stairs n rows ss) (W:Wit (Rw rows) B E hs as) (hBE:B≤E):∀ t∈ss,(vec t (hd t)).natAbs≤E∧∀ i,(vec t i).natAbs≤bnd as.length B E:=by
 have hd1:∀ t∈ss,(vec t (hd t)).natAbs≤E:=λt ht=>by
  obtain ⟨m1,m2,m3,m4⟩:=h.ech.mem t ht
  obtain ⟨v,v1,v2,v3,v4⟩:=W.hd _ (W.head (h.inn t ht) (λi hi=>zbw hi) (by omega))
  have d:=zit h.ech (v1.sub λa ⟨r,hr,e⟩=>e ▸ h.out r hr) ht v2
  exact Nat.le_trans (Nat.le_of_dvd (Int.natAbs_pos.mpr v3) (Int.natAbs_dvd_natAbs.mpr d)) (v4 _)
 refine λt ht=>⟨hd1 t ht,λi=>W.small hBE (h.inn t ht) (λg hg=>?_) i⟩
 obtain ⟨v,v1,v2,v3,v4⟩:=W.hd g hg
 obtain ⟨t',ht',rfl⟩:=zhz h.ech (v1.sub λa ⟨r,hr,e⟩=>e ▸ h.out r hr) v2 v3
 rcases ech_red h.ech h.red t ht t' ht' with z | rfl | ⟨z1,z2⟩
 ·rw [zbw z];exact Nat.zero_le _
 ·exact hd1 t ht
 ·have:=hd1 t' ht';omega
theorem zjq {k R b c:Nat} (hk:k≤R) (hR:R≤31) (hbc:b≤c):bnd k (2^b) (2^c)≤2^((c+7)*(R+1)):=by
 refine Nat.le_trans (zjd hk) ?_
 unfold bnd
 have h1:R+1≤2^5:=by omega
 have h2:2*((R+1)*2^c)+1≤2^(c+7):=by
  have e1:(R+1)*2^c≤2^5*2^c:=Nat.mul_le_mul_right _ h1
  have e2:2^(c+7)=4*(2^5*2^c):=by rw [Nat.pow_add];omega
  have e3:0<2^c:=Nat.pow_pos (by decide)
  omega
 calc (R+1)*((2*((R+1)*2^c)+1)^R*2^b)≤2^5*((2^(c+7))^R*2^b):=Nat.mul_le_mul h1 (Nat.mul_le_mul_right _ (Nat.pow_le_pow_left h2 _))
  _=2^(5+((c+7)*R+b)):=by rw [← Nat.pow_mul,← Nat.pow_add,← Nat.pow_add]
  _≤2^((c+7)*(R+1)):=Nat.pow_le_pow_right (by decide) (by rw [Nat.mul_add];omega)
def Bit (a:Nat) (l:List Int):Prop:=∀ x∈l,x.natAbs≤2^a
theorem Bit.vec {a:Nat} {l:List Int} (h:Bit a l) (i:Nat):(vec l i).natAbs≤2^a:=zmL h i
theorem Bit.of {a:Nat} {l:List Int} (h:∀ i,(Lat.vec l i).natAbs≤2^a):Bit a l:=λx hx=>by
 obtain ⟨i,_,rfl⟩:=zhg hx
 exact h i
theorem Bit.mono {a b:Nat} {l:List Int} (h:Bit a l) (k:a≤b):Bit b l:=λx hx=>Nat.le_trans (h x hx) (Nat.pow_le_pow_right (by decide) k)
def eB (b R:Nat):Nat:=(b+7)*(R+1)
def sB (b R:Nat):Nat:=(eB b R+7)*(R+1)
theorem Stairs.bits {n b R:Nat} {rows ss:List (List Int)} (h:Stairs n rows ss) (hR:R≤31) (hr:rows.length≤R) (hb:∀ r∈rows,Bit b r):∀ t∈ss,(vec t (hd t)).natAbs≤2^eB b R∧Bit (sB b R) t:=by
 obtain ⟨hs,as,W,hl⟩:=zjh (B:=2^b) (E:=2^eB b R) (R:=R) (zjq (Nat.le_refl _) hR (Nat.le_refl _)) rows.length rows rfl (by omega) hb
 have e:b≤eB b R:=by unfold eB;exact Nat.le_trans (by omega) (Nat.le_mul_of_pos_right _ (Nat.succ_pos R))
 refine λt ht=>?_
 obtain ⟨a1,a2⟩:=h.wit W (Nat.pow_le_pow_right (by decide) e) t ht
 exact ⟨a1,Bit.of λi=>Nat.le_trans (a2 i) (zjq (Nat.le_trans hl hr) hR e)⟩
theorem zdT {x y a b:Nat} (h1:x≤2^a) (h2:y≤2^b):x*y≤2^(a+b):=by rw [Nat.pow_add];exact Nat.mul_le_mul h1 h2
theorem zf2 {x d:Int} (_h:0<d):(x/d).natAbs≤x.natAbs:=by
 have:=Int.natAbs_ediv_le_natAbs x d
 exact this
structure Sd (n s:Nat) (t:List Int):Prop where
 len:t.length=n
 hd:hd t<n
 pos:0<vec t (Lat.hd t)
 top:(vec t (Lat.hd t)).natAbs≤2^8980
 bit:Bit s t
theorem zne {n s a:Nat} {l t:List Int} (T:Sd n s t) (hb:Bit a l):(quo l t).natAbs≤2^a:=Nat.le_trans (zf2 T.pos) (hb.vec _)
theorem zi7 {n s a:Nat} {l t:List Int} (T:Sd n s t) (hl:l.length=n) (hb:Bit a l):Bit (a+(s+1)) (zih l t):=Bit.of λi=>by
 rw [zf0 (by rw [hl,T.len])]
 have e1:=hb.vec i
 have e2:(vec t i*quo l t).natAbs≤2^(s+a):=by rw [Int.natAbs_mul];exact zdT (T.bit.vec i) (zne T hb)
 have e3:2^a≤2^(s+a):=Nat.pow_le_pow_right (by decide) (by omega)
 have e4:2^(a+(s+1))=2^(s+a)+2^(s+a):=by rw [show a+(s+1)=(s+a)+1 by omega,Nat.pow_succ];omega
 omega
theorem zfk {n s:Nat}:∀ {ss:List (List Int)} {a:Nat} {l:List Int},(∀ t∈ss,Sd n s t)->l.length=n->Bit a l->Bit (a+ss.length*(s+1)) (low l ss)
 | [],a,l,_,_,h=>by simpa [low] using h
 | t :: ss,a,l,T,hl,h=>by
  have T1:=T t List.mem_cons_self
  have:=zfk (ss:=ss) (λt ht=>T t (List.mem_cons_of_mem _ ht)) (by rw [zg4 (by rw [hl,T1.len]),hl]) (zi7 T1 hl h)
  refine Bit.mono this ?_
  rw [List.length_cons,Nat.succ_mul]
  omega
theorem Cm.bd {one other g x y:Int} (C:Cm one other g x y) (h2:0<other) (hy:y=(g-x*one)/other) {c:Nat} (b1:one.natAbs≤2^c) (b2:other.natAbs≤2^c):g.natAbs≤2^(c+1)∧x.natAbs≤2^c∧y.natAbs≤2^(2*c+2):=by
 have e1:=C.le
 have e2:=C.xb
 have e3:=C.pos
 have g1:g.natAbs≤2^(c+1):=by
  rw [Nat.pow_succ]
  omega
 have x1:x.natAbs≤2^c:=by omega
 refine ⟨g1,x1,?_⟩
 rw [hy]
 refine Nat.le_trans (zf2 h2) ?_
 have e4:(x*one).natAbs≤2^(c+c):=by rw [Int.natAbs_mul];exact zdT x1 b1
 have e5:2^(c+1)≤2^(c+c+1):=Nat.pow_le_pow_right (by decide) (by omega)
 have e6:2^(2*c+2)=2^(c+c+1)+2^(c+c+1):=by rw [show 2*c+2=(c+c+1)+1 by omega,Nat.pow_succ];omega
 have e7:2^(c+c)≤2^(c+c+1):=Nat.pow_le_pow_right (by decide) (by omega)
 omega
theorem zfC {a g:Int} (hg:0<g) {c:Nat} (h:a.natAbs≤2^c):(a/g).natAbs≤2^c:=Nat.le_trans (zf2 hg) h
theorem zoo {n s a:Nat} {l t:List Int} {g x y:Int} (T:Sd n s t) (hl:l.length=n) (hb:Bit a l) (C:Cm (vec t (hd t)) (vec l (hd t)) g x y) (hlt:vec l (hd t)<vec t (hd t)) (h0:0≤vec l (hd t)):Bit (a+(s+8982)) (mg2 t l g):=Bit.of λi=>by
 rw [zhe (by rw [hl,T.len])]
 have e1:(vec t (hd t)/g*vec l i).natAbs≤2^(8980+a):=by rw [Int.natAbs_mul];exact zdT (zfC C.pos T.top) (hb.vec i)
 have e2:(vec l (hd t)/g*vec t i).natAbs≤2^(8980+s):=by rw [Int.natAbs_mul];exact zdT (zfC C.pos (by have:=T.top;omega)) (T.bit.vec i)
 have e3:2^(8980+a)≤2^(a+(s+8981)):=Nat.pow_le_pow_right (by decide) (by omega)
 have e4:2^(8980+s)≤2^(a+(s+8981)):=Nat.pow_le_pow_right (by decide) (by omega)
 have e5:2^(a+(s+8982))=2^(a+(s+8981))+2^(a+(s+8981)):=by rw [show a+(s+8982)=(a+(s+8981))+1 by omega,Nat.pow_succ];omega
 omega
theorem znH {n s a:Nat} {l t:List Int} {x y:Int} (T:Sd n s t) (hl:l.length=n) (hb:Bit a l) (hx:x.natAbs≤2^8980) (hy:y.natAbs≤2^17962):Bit (a+(s+17964)) (mg1 t l x y):=Bit.of λi=>by
 rw [zgh (by rw [hl,T.len])]
 have e1:(x*vec t i).natAbs≤2^(8980+s):=by rw [Int.natAbs_mul];exact zdT hx (T.bit.vec i)
 have e2:(y*vec l i).natAbs≤2^(17962+a):=by rw [Int.natAbs_mul];exact zdT hy (hb.vec i)
 have e3:2^(8980+s)≤2^(a+(s+17963)):=Nat.pow_le_pow_right (by decide) (by omega)
 have e4:2^(17962+a)≤2^(a+(s+17963)):=Nat.pow_le_pow_right (by decide) (by omega)
 have e5:2^(a+(s+17964))=2^(a+(s+17963))+2^(a+(s+17963)):=by rw [show a+(s+17964)=(a+(s+17963))+1 by omega,Nat.pow_succ];omega
 omega
theorem zk6 {a:Nat} {l:List Int} (h:Bit a l):Bit a (upr l):=by
 unfold upr
 cases decide (vec l (hd l)<(0:Int))
 ·exact h
 ·exact Bit.of λi=>by
   show (vec (mul l (-(1:Int))) i).natAbs≤_
   rw [zcU]
   have:=h.vec i
   omega
end Lat
namespace Lat
open L2
theorem zby (l:List Int) (k:Nat):ixD l (k:Int)=vec l k:=by
 by_cases h:k<l.length
 ·rw [zkQ (List.getElem?_eq_getElem h)]
  simp [vec,List.getD_eq_getElem?_getD,List.getElem?_eq_getElem h]
 ·rw [vec_out (by omega)]
  unfold ixD atI ixN
  rw [if_pos (by omega),if_neg (by omega)]
  rfl
theorem zhN {lo:Int} {n:Nat}:rngZ lo (n+1)=lo :: rngZ (lo+1) n:=by
 unfold rngZ
 rw [List.range_succ_eq_map,List.map_cons,List.map_map]
 congr 1
 ·simp
 ·exact List.map_congr_left λi _=>by show lo+((i+1:Nat):Int)=lo+1+(i:Int);omega
abbrev hdB:Unit->Int×Int->Unit ⊕ Int:=λ_ x=>bif (!decide (x.2=(0:Int))) then (Sum.inr x.1) else (Sum.inl ())
theorem zlb:∀ (xs:List Int) (lo:Int),LetR (loopR hdB () ((rngZ lo xs.length).zip xs)) (λ(_:Unit)=>lo+(xs.length:Int)) (λb=>b)=lo+(hd xs:Int)
 | [],lo=>rfl
 | x :: xs,lo=>by
  rw [List.length_cons,zhN,List.zip_cons_cons]
  unfold loopR hd
  cases q:(!decide (x=(0:Int))) with
  | true =>
   rw [show hdB () (lo,x)=.inr lo by unfold hdB;dsimp only;rw [q];rfl]
   show lo=lo+((0:Nat):Int)
   omega
  | false =>
   rw [show hdB () (lo,x)=.inl () by unfold hdB;dsimp only;rw [q];rfl]
   have:=zlb xs (lo+1)
   have e:(λ(_:Unit)=>lo+1+(xs.length:Int))=(λ(_:Unit)=>lo+((xs.length+1:Nat):Int)):=funext λ_=>by omega
   rw [e] at this
   show LetR (loopR hdB () ((rngZ (lo+1) xs.length).zip xs)) _ _=_
   rw [this]
   show lo+1+(hd xs:Int)=lo+((hd xs+1:Nat):Int)
   omega
theorem zqV (xs:List Int):LetR (loopR hdB () (zc1 xs)) (λ(_:Unit)=>((xs.length:Nat):Int)) (λb=>b)=(hd xs:Int):=by
 have:=zlb xs 0
 simp only [Int.zero_add] at this
 exact this
theorem zdv {α:Type} {xs:List α} {k:Nat}:zbH xs (some (k:Int)) none=xs.drop k:=by
 unfold zbH
 rw [HT.sIx_nat,HT.sIx_none]
 by_cases h:k≤xs.length
 ·rw [Nat.min_eq_left h,List.take_of_length_le (by rw [List.length_drop];omega)]
 ·rw [Nat.min_eq_right (by omega),List.drop_eq_nil_of_le (by omega),List.drop_eq_nil_of_le (by omega)];simp
def cmn (a b:Int):T3 Int Int Int:=Let (whl cmC cmF b.toNat (a,b,(1:Int),(0:Int))) (λ(r:G4)=>T3.mk r.1 r.2.2.1 ((r.1-(r.2.2.1*a))/b))
theorem zkP {a b:Int} (h1:0<a) (h2:0<b):Cm a b (cmn a b).a (cmn a b).b (cmn a b).c:=by
 obtain ⟨i1,i2⟩:=zhm (n:=b.toNat) (c:=cmC) (f:=cmF) (I:=GI a b) (μ:=λs=>s.2.1.toNat) (λs h c=>h.step c) (GI.start h1 h2) (Nat.le_refl _)
 exact i1.done h2 i2
theorem zqK {a b:Int}:(cmn a b).c=((cmn a b).a-(cmn a b).b*a)/b:=rfl
def MG:Mg:=⟨λa b=>((cmn a b).a,(cmn a b).b,(cmn a b).c),λ_ _ h1 h2=>zkP h1 h2⟩
def mrg (s l:List Int):List Int×List Int:=(mg1 s l (cmn (vec s (hd s)) (vec l (hd s))).b (cmn (vec s (hd s)) (vec l (hd s))).c,mg2 s l (cmn (vec s (hd s)) (vec l (hd s))).a)
theorem zjj {s:List Int} {ss:List (List Int)} {l:List Int}:tin MG (s :: ss) l=bif decide (hd l<hd s) then upr l :: s :: ss else bif decide (hd l=hd s) then (mrg s l).1 :: tin MG ss (low (mrg s l).2 ss) else s :: tin MG ss l:=rfl
abbrev TS2:=List (List Int)×List Int
def zjW (steps:List (List Int)):TS2->Int×List Int->TS2 ⊕ List (List Int):=λs x =>
 bif decide ((hd s.2:Int)<(hd x.2:Int)) then (Sum.inr ((s.1++[upr s.2])++(zbH steps (some x.1) none)))
 else Let (bif decide ((hd s.2:Int)=(hd x.2:Int)) then (s.1++[(mrg x.2 s.2).1]) else (s.1++[x.2])) (λ(g:List (List Int)) =>
  Let (bif decide ((hd s.2:Int)=(hd x.2:Int)) then (low ((mrg x.2 s.2).2) (zbH steps (some (x.1+(1:Int))) none)) else s.2) (λ(l:List Int)=>Sum.inl (g,l)))
abbrev zqf:TS2->List (List Int):=λr=>Let (bif decide ((hd r.2:Int)<((r.2.length:Nat):Int)) then (r.1++[upr r.2]) else r.1) (λ(g:List (List Int))=>g)
theorem zg5 {steps:List (List Int)}:∀ (ss:List (List Int)) (k:Nat) (g:List (List Int)) (l:List Int),steps.drop k=ss->LetR (loopR (zjW steps) (g,l) ((rngZ (k:Int) ss.length).zip ss)) zqf (λb=>b)=g++tin MG ss l
 | [],k,g,l,_=>by
  show zqf (g,l)=_
  unfold zqf Let tin
  dsimp only
  by_cases q:hd l<l.length
  ·rw [show decide ((hd l:Int)<((l.length:Nat):Int))=true by simp [q],show decide (hd l<l.length)=true by simp [q]];rfl
  ·rw [show decide ((hd l:Int)<((l.length:Nat):Int))=false by simpa using q,show decide (hd l<l.length)=false by simp [q]]
   simp
 | s :: ss,k,g,l,e=>by
  have e':steps.drop (k+1)=ss:=by rw [← List.drop_drop,e];rfl
  have e2:((k:Int)+(1:Int))=((k+1:Nat):Int):=by omega
  rw [List.length_cons,zhN,List.zip_cons_cons,zjj]
  unfold loopR
  by_cases q:hd l<hd s
  ·rw [show zjW steps (g,l) ((k:Int),s)=.inr ((g++[upr l])++(s :: ss)) by
    unfold zjW;dsimp only
    rw [show decide ((hd l:Int)<(hd s:Int))=true by simp [q],cond_true,zdv,e]]
   rw [show decide (hd l<hd s)=true by simp [q],cond_true]
   show (g++[upr l])++(s :: ss)=_
   simp
  ·rw [show decide (hd l<hd s)=false by simp [q],cond_false]
   have q':decide ((hd l:Int)<(hd s:Int))=false:=by simp;omega
   by_cases z:hd l=hd s
   ·rw [show zjW steps (g,l) ((k:Int),s)=.inl (g++[(mrg s l).1],low (mrg s l).2 ss) by
     unfold zjW Let;dsimp only
     rw [q',show decide ((hd l:Int)=(hd s:Int))=true by simp [z],cond_false,cond_true,cond_true,e2,zdv,e']]
    rw [show decide (hd l=hd s)=true by simp [z],cond_true]
    show LetR (loopR (zjW steps) _ ((rngZ ((k:Int)+1) ss.length).zip ss)) _ _=_
    rw [e2,zg5 ss (k+1) _ _ e']
    simp
   ·rw [show zjW steps (g,l) ((k:Int),s)=.inl (g++[s],l) by
     unfold zjW Let;dsimp only
     rw [q',show decide ((hd l:Int)=(hd s:Int))=false by simp;omega,cond_false,cond_false,cond_false]]
    rw [show decide (hd l=hd s)=false by simp [z],cond_false]
    show LetR (loopR (zjW steps) _ ((rngZ ((k:Int)+1) ss.length).zip ss)) _ _=_
    rw [e2,zg5 ss (k+1) _ _ e']
    simp
theorem zrs (steps:List (List Int)) (l:List Int):LetR (loopR (zjW steps) ([],l) (zc1 steps)) zqf (λb=>b)=tin MG steps l:=by
 have:=zg5 (steps:=steps) steps 0 [] l rfl
 simp only [List.nil_append] at this
 exact this
theorem zrq:∀ (ss:List (List Int)),List.foldl (λ(s:List (List Int)) (x:List Int)=>[low x s]++s) [] ss.reverse=stl ss
 | []=>rfl
 | s :: ss=>by
  rw [List.reverse_cons,List.foldl_append,zrq ss]
  rfl
theorem ziV:∀ {ss:List (List Int)} {j:Nat},stl (ss.drop j)=(stl ss).drop j
 | [],j=>by simp [stl]
 | s :: ss,0=>rfl
 | s :: ss,j+1=>by rw [List.drop_succ_cons,ziV];rfl
theorem zcT.of {x y:Int} {a b:Nat} (h1:x.natAbs≤2^a) (h2:y.natAbs≤2^b) (ha:a≤50000000) (hb:b≤50000000):zcT x y :=
 .inr (.inr ⟨zlo (k:=a+1) (by have:2^a<2^(a+1):=Nat.pow_lt_pow_right (by decide) (Nat.lt_succ_self a);omega) (by omega) (by omega),zlo (k:=b+1) (by have:2^b<2^(b+1):=Nat.pow_lt_pow_right (by decide) (Nat.lt_succ_self b);omega) (by omega) (by omega)⟩)
theorem zft.of {x y:Int} {b:Nat} (h:0<y) (h2:y.natAbs≤2^b) (hb:b≤8990):zft x y :=
 ⟨h,zlo (k:=b+1) (by have:2^b<2^(b+1):=Nat.pow_lt_pow_right (by decide) (Nat.lt_succ_self b);omega) (by omega) (by omega)⟩
def ziC (a b:Int):Prop:=0<a∧0<b∧a.natAbs≤2^8980∧b.natAbs≤2^8980
section
variable {one other:Int} {s:G4}
theorem GI.gn (I:GI one other s) (h:ziC one other):s.1.natAbs≤2^8981:=by
 have:=I.g;have:=I.gb;obtain ⟨h1,h2,h3,h4⟩:=h
 rw [Nat.pow_succ]
 omega
theorem GI.mn (I:GI one other s) (h:ziC one other):s.2.1.natAbs≤2^8981:=by
 have:=I.m;have:=I.mb;obtain ⟨h1,h2,h3,h4⟩:=h
 rw [Nat.pow_succ]
 omega
theorem GI.tn (I:GI one other s) (h:ziC one other):s.2.2.1.natAbs≤2^8980:=by
 have:=I.tb;obtain ⟨h1,h2,h3,h4⟩:=h
 omega
theorem GI.ln (I:GI one other s) (h:ziC one other):s.2.2.2.natAbs≤2^8980:=by
 have:=I.lb;obtain ⟨h1,h2,h3,h4⟩:=h
 omega
theorem GI.pos (I:GI one other s) (hc:(!decide (s.2.1=(0:Int)))=true):0<s.2.1:=by
 have:=I.m
 simp only [Bool.not_eq_true',decide_eq_false_iff_not] at hc
 omega
theorem GI.div (I:GI one other s) (h:ziC one other) (hc:(!decide (s.2.1=(0:Int)))=true):zft s.1 s.2.1:=zft.of (I.pos hc) (I.mn h) (by decide)
theorem GI.mul1 (I:GI one other s) (h:ziC one other) (hc:(!decide (s.2.1=(0:Int)))=true) {p:Int} (e:p=s.1/s.2.1):zcT p s.2.1:=by
 subst e;exact zcT.of (zfC (I.pos hc) (I.gn h)) (I.mn h) (by decide) (by decide)
theorem GI.mul2 (I:GI one other s) (h:ziC one other) (hc:(!decide (s.2.1=(0:Int)))=true) {p:Int} (e:p=s.1/s.2.1):zcT p s.2.2.2:=by
 subst e;exact zcT.of (zfC (I.pos hc) (I.gn h)) (I.ln h) (by decide) (by decide)
theorem GI.mul3 (I:GI one other s) (h:ziC one other):zcT s.2.2.1 one:=zcT.of (I.tn h) h.2.2.1 (by decide) (by decide)
theorem ziC.div (h:ziC one other) {x:Int}:zft x other:=zft.of h.2.1 h.2.2.2 (by decide)
end
def LowP (row:List Int) (steps:List (List Int)):Prop:=∃ n a s,n≤1000∧row.length=n∧steps.length≤1000∧Bit a row∧(∀ t∈steps,Sd n s t)∧a+steps.length*(s+1)+s≤50000000
section
variable {n s a i:Nat} {l t:List Int} {h q:Int}
theorem ziS (T:Sd n s t) (e:h=(hd t:Int)) (hl:l.length=n):InB l.length h:=by
 have:=T.hd
 unfold InB
 omega
theorem znD (T:Sd n s t) (e:h=(hd t:Int)):zft (ixD l h) (ixD t h):=by
 subst e
 rw [zby,zby]
 exact zft.of T.pos T.top (by decide)
theorem zop (T:Sd n s t) (e:h=(hd t:Int)) (hb:Bit a l) (eq:q=ixD l h/ixD t h) (ha:a+s≤50000000):∀ y∈t,zcT y q:=by
 subst e eq
 rw [zby,zby]
 exact λy hy=>zcT.of (T.bit y hy) (zne T hb) (by omega) (by omega)
theorem znU (T:Sd n s t) (hl:l.length=n∧Bit (a+i*(s+1)) l) {y:List Int} (e:y=zih l t):y.length=n∧Bit (a+(i+1)*(s+1)) y:=by
 subst e
 refine ⟨by rw [zg4 (by rw [hl.1,T.len]),hl.1],(zi7 T hl.1 hl.2).mono ?_⟩
 rw [Nat.succ_mul];omega
theorem zn8 {k i:Nat} (h:a+k*(s+1)+s≤50000000) (hi:i<k):a+i*(s+1)+s≤50000000:=by
 have:=Nat.mul_le_mul_right (s+1) (show i≤k by omega)
 omega
end
def MrgP (t l:List Int):Prop:=∃ n a s,n≤1000∧Sd n s t∧l.length=n∧Bit a l∧0<vec l (hd t)∧vec l (hd t)<vec t (hd t)∧a+s≤40000000
section
variable {n s a:Nat} {l t:List Int} {h:Int}
theorem zlw (T:Sd n s t) (e:h=(hd t:Int)) (h0:0<vec l (hd t)) (h1:vec l (hd t)<vec t (hd t)):ziC (ixD t h) (ixD l h):=by
 subst e
 rw [zby,zby]
 exact ⟨T.pos,h0,T.top,by have:=T.top;omega⟩
theorem zmE {x y:Int} (h:ziC x y):0<(cmn x y).a∧(cmn x y).a.natAbs≤2^8981∧(cmn x y).b.natAbs≤2^8980∧(cmn x y).c.natAbs≤2^17962:=by
 have C:=zkP h.1 h.2.1
 have:=C.bd h.2.1 zqK h.2.2.1 h.2.2.2
 exact ⟨C.pos,this⟩
theorem zhs {x:Int} {a b:Nat} {l:List Int} (h1:Bit a l) (h2:x.natAbs≤2^b) (ha:a≤50000000) (hb:b≤50000000):∀ y∈l,zcT y x:=λy hy=>zcT.of (h1 y hy) h2 ha hb
end
def TinP (steps:List (List Int)) (row:List Int):Prop:=∃ n a s,n≤1000∧Ech n 0 steps∧(∀ t∈steps,Sd n s t)∧row.length=n∧Bit a row∧steps.length≤100∧a+(steps.length+2)*((steps.length+1)*(s+9000))+s≤40000000
theorem zjm {n:Nat}:∀ {ss:List (List Int)} {lo j:Nat},Ech n lo ss->Ech n lo (ss.drop j)
 | [],_,_,_=>by simp [Ech]
 | _ :: _,_,0,h=>h
 | s :: ss,lo,j+1,h=>by
  rw [List.drop_succ_cons]
  exact zjm (h.2.2.2.2.mono (by have:=h.2.1;omega))
section
variable {n s a i:Nat} {steps:List (List Int)} {st:TS2} {x:Int×List Int}
structure TI (steps:List (List Int)) (n a s i:Nat) (st:TS2):Prop where
 g:st.1.length≤i
 len:st.2.length=n
 bit:Bit (a+steps.length*(s+1)+i*((steps.length+1)*(s+9000))) st.2
 red:∀ t∈steps.drop i,0≤vec st.2 (hd t)∧vec st.2 (hd t)<vec t (hd t)
theorem TI.start {row:List Int} (e:Ech n 0 steps) (T:∀ t∈steps,Sd n s t) (hl:row.length=n) (hb:Bit a row):TI steps n a s 0 ([],low row steps):=by
 obtain ⟨k1,k2,k3,k4⟩:=zcp (l:=row) e hl
 exact ⟨Nat.le_refl 0,k1,by simpa using zfk T hl hb,by simpa using k3⟩
theorem TI.mem (hx:i<steps.length∧x.1=(i:Int)∧steps[i]?=some x.2):x.2∈steps∧x.2∈steps.drop i∧steps.drop i=x.2 :: steps.drop (i+1):=by
 have e:steps.drop i=x.2 :: steps.drop (i+1):=by
  rw [List.drop_eq_getElem_cons hx.1]
  congr 1
  have:=hx.2.2
  rw [List.getElem?_eq_getElem hx.1] at this
  exact Option.some.inj this
 exact ⟨List.mem_of_getElem? hx.2.2,by rw [e];exact List.mem_cons_self,e⟩
theorem TI.num (hi:i≤steps.length) (h:a+(steps.length+2)*((steps.length+1)*(s+9000))+s≤40000000):a+steps.length*(s+1)+i*((steps.length+1)*(s+9000))+(s+9000)≤40000000:=by
 have e1:i*((steps.length+1)*(s+9000))≤steps.length*((steps.length+1)*(s+9000)):=Nat.mul_le_mul_right _ hi
 have e2:steps.length*(s+1)≤(steps.length+1)*(s+9000):=Nat.mul_le_mul (by omega) (by omega)
 have e3:s+9000≤(steps.length+1)*(s+9000):=Nat.le_mul_of_pos_left _ (by omega)
 rw [Nat.add_mul] at h
 omega
theorem TI.mrg (I:TI steps n a s i st) (hn:n≤1000) (T:∀ t∈steps,Sd n s t) (hx:i<steps.length∧x.1=(i:Int)∧steps[i]?=some x.2) (hh:hd st.2=hd x.2) (hN:a+(steps.length+2)*((steps.length+1)*(s+9000))+s≤40000000):MrgP x.2 st.2:=by
 obtain ⟨m1,m2,m3⟩:=TI.mem hx
 have r:=I.red _ m2
 have T1:=T _ m1
 have ne:=zgC (l:=st.2) (by rw [hh,I.len];exact T1.hd)
 rw [hh] at ne
 exact ⟨n,_,s,hn,T1,I.len,I.bit,by omega,r.2,by have:=TI.num (Nat.le_of_lt hx.1) hN;omega⟩
theorem ziI {t l:List Int} {b:Nat} (T:Sd n s t) (hl:l.length=n) (hb:Bit b l) (h0:0<vec l (hd t)) (h1:vec l (hd t)<vec t (hd t)):(mrg t l).2.length=n∧Bit (b+(s+8982)) (mrg t l).2∧(mrg t l).1.length=n∧Bit (b+(s+17964)) (mrg t l).1:=by
 have e:t.length=l.length:=by rw [hl,T.len]
 have P:ziC (vec t (hd t)) (vec l (hd t)):=⟨T.pos,h0,T.top,by have:=T.top;omega⟩
 have C:=zmE P
 exact ⟨by rw [show (mrg t l).2=mg2 t l _ from rfl,zln e,T.len],zoo T hl hb (zkP T.pos h0) h1 (by omega),by rw [show (mrg t l).1=mg1 t l _ _ from rfl,zly e,T.len],znH T hl hb C.2.2.1 C.2.2.2⟩
theorem TI.low (I:TI steps n a s i st) (hn:n≤1000) (hk:steps.length≤100) (T:∀ t∈steps,Sd n s t) (hx:i<steps.length∧x.1=(i:Int)∧steps[i]?=some x.2) (hh:hd st.2=hd x.2) (hN:a+(steps.length+2)*((steps.length+1)*(s+9000))+s≤40000000):LowP (Lat.mrg x.2 st.2).2 (zbH steps (some (x.1+(1:Int))) none):=by
 obtain ⟨m1,m2,m3⟩:=TI.mem hx
 have r:=I.red _ m2
 have T1:=T _ m1
 have ne:=zgC (l:=st.2) (by rw [hh,I.len];exact T1.hd)
 rw [hh] at ne
 obtain ⟨b1,b2,_⟩:=ziI T1 I.len I.bit (by omega) r.2
 rw [hx.2.1,show ((i:Int)+(1:Int))=((i+1:Nat):Int) by omega,zdv]
 refine ⟨n,_,s,hn,b1,by rw [List.length_drop];omega,b2,λt ht=>T t (List.mem_of_mem_drop ht),?_⟩
 have hp:(List.drop (i+1) steps).length*(s+1)≤steps.length*(s+9000):=Nat.mul_le_mul (by rw [List.length_drop];omega) (by omega)
 have hm:steps.length*(s+1)≤(steps.length+1)*(s+9000):=Nat.mul_le_mul (by omega) (by omega)
 have ho:i*((steps.length+1)*(s+9000))≤steps.length*((steps.length+1)*(s+9000)):=Nat.mul_le_mul_right _ (by omega)
 have hq:(steps.length+1)*(s+9000)=steps.length*(s+9000)+(s+9000):=Nat.succ_mul _ _
 rw [Nat.add_mul steps.length 2] at hN
 omega
theorem TI.step (I:TI steps n a s i st) (e:Ech n 0 steps) (T:∀ t∈steps,Sd n s t) (hx:i<steps.length∧x.1=(i:Int)∧steps[i]?=some x.2) {st':TS2} (hf:zjW steps st x=.inl st'):TI steps n a s (i+1) st':=by
 obtain ⟨m1,m2,m3⟩:=TI.mem hx
 have r:=I.red _ m2
 have T1:=T _ m1
 have dd:∀ t∈steps.drop (i+1),t∈steps.drop i:=λt ht=>by rw [m3];exact List.mem_cons_of_mem _ ht
 have mo:a+steps.length*(s+1)+i*((steps.length+1)*(s+9000))≤a+steps.length*(s+1)+(i+1)*((steps.length+1)*(s+9000)):=by
  have:=Nat.mul_le_mul_right ((steps.length+1)*(s+9000)) (show i≤i+1 by omega)
  omega
 unfold zjW Let at hf
 by_cases q:hd st.2<hd x.2
 ·rw [show decide ((hd st.2:Int)<(hd x.2:Int))=true by simp [q],cond_true] at hf
  cases hf
 ·rw [show decide ((hd st.2:Int)<(hd x.2:Int))=false by simp;omega,cond_false] at hf
  by_cases z:hd st.2=hd x.2
  ·rw [show decide ((hd st.2:Int)=(hd x.2:Int))=true by simp [z],cond_true,cond_true] at hf
   cases hf
   have ne:=zgC (l:=st.2) (by rw [z,I.len];exact T1.hd)
   rw [z] at ne
   obtain ⟨b1,b2,_⟩:=ziI T1 I.len I.bit (by omega) r.2
   rw [hx.2.1,show ((i:Int)+(1:Int))=((i+1:Nat):Int) by omega,zdv]
   have ed:Ech n 0 (steps.drop (i+1)):=zjm e
   obtain ⟨k1,k2,k3,k4⟩:=zcp (l:=(Lat.mrg x.2 st.2).2) ed b1
   refine ⟨by have:=I.g;simp;omega,k1,(zfk (λt ht=>T t (List.mem_of_mem_drop ht)) b1 b2).mono ?_,k3⟩
   have e5:(List.drop (i+1) steps).length*(s+1)≤steps.length*(s+9000):=Nat.mul_le_mul (by rw [List.length_drop];omega) (by omega)
   rw [Nat.succ_mul i,Nat.add_mul steps.length 1]
   omega
  ·rw [show decide ((hd st.2:Int)=(hd x.2:Int))=false by simp;omega,cond_false,cond_false] at hf
   cases hf
   exact ⟨by have:=I.g;simp;omega,I.len,I.bit.mono mo,λt ht=>I.red t (dd t ht)⟩
end
theorem tin_bit {n s K:Nat}:∀ {ss:List (List Int)} {lo a:Nat} {l:List Int},Ech n lo ss->(∀ t∈ss,Sd n s t)->l.length=n->(∀ t∈ss,0≤vec l (hd t)∧vec l (hd t)<vec t (hd t))->Bit a l->ss.length≤K →
  ∀ t∈tin MG ss l,Bit (a+ss.length*((K+1)*(s+9000))+s+18000) t
 | [],lo,a,l,_,_,_,_,hb,_,t,ht=>by
  unfold tin at ht
  cases q:decide (hd l<l.length) with
  | true=>rw [q,cond_true] at ht;rw [List.mem_singleton.mp ht];exact (zk6 hb).mono (by omega)
  | false=>rw [q,cond_false] at ht;simp at ht
 | s' :: ss,lo,a,l,e,T,hl,r,hb,hK,t,ht=>by
  have T1:=T s' List.mem_cons_self
  have hS:∀ t∈s' :: ss,Bit (a+(s' :: ss).length*((K+1)*(s+9000))+s+18000) t:=λt ht=>(T t ht).bit.mono (by omega)
  rw [zjj] at ht
  cases q:decide (hd l<hd s') with
  | true =>
   rw [q,cond_true] at ht
   rcases List.mem_cons.mp ht with rfl | ht
   ·exact (zk6 hb).mono (by omega)
   ·exact hS t ht
  | false =>
   rw [q,cond_false] at ht
   by_cases z:hd l=hd s'
   ·rw [show decide (hd l=hd s')=true by simp [z],cond_true] at ht
    have ne:=zgC (l:=l) (by rw [z,hl];exact T1.hd)
    rw [z] at ne
    have r1:=r s' List.mem_cons_self
    obtain ⟨b1,b2,b3,b4⟩:=ziI T1 hl hb (by omega) r1.2
    rcases List.mem_cons.mp ht with rfl | ht
    ·exact b4.mono (by omega)
    ·obtain ⟨k1,k2,k3,k4⟩:=zcp (l:=(mrg s' l).2) e.2.2.2.2 b1
     have:=tin_bit (K:=K) e.2.2.2.2 (λt ht=>T t (List.mem_cons_of_mem _ ht)) k1 k3 (zfk (λt ht=>T t (List.mem_cons_of_mem _ ht)) b1 b2) (by simp at hK;omega) t ht
     refine this.mono ?_
     have e5:ss.length*(s+1)≤K*(s+9000):=Nat.mul_le_mul (by simp at hK;omega) (by omega)
     rw [List.length_cons,Nat.succ_mul ss.length ((K+1)*(s+9000))]
     have e6:(K+1)*(s+9000)=K*(s+9000)+(s+9000):=Nat.succ_mul _ _
     omega
   ·rw [show decide (hd l=hd s')=false by simp [z],cond_false] at ht
    rcases List.mem_cons.mp ht with rfl | ht
    ·exact hS t List.mem_cons_self
    ·refine (tin_bit (K:=K) e.2.2.2.2 (λt ht=>T t (List.mem_cons_of_mem _ ht)) hl (λt ht=>r t (List.mem_cons_of_mem _ ht)) hb (by simp at hK;omega) t ht).mono ?_
     have:ss.length*((K+1)*(s+9000))≤(s' :: ss).length*((K+1)*(s+9000)):=Nat.mul_le_mul_right _ (by simp)
     omega
def zoM (steps:List (List Int)):Prop:=steps.length≤1000∧∀ j x,steps[j]?=some x->LowP x (stl (steps.drop (j+1)))
section
variable {steps fl:List (List Int)} {i:Nat} {x:List Int}
theorem ziq (hx:steps.reverse[i]?=some x):∃ j,j+1+i=steps.length∧steps[j]?=some x∧steps.drop j=x :: steps.drop (j+1):=by
 have hi:i<steps.reverse.length:=(List.getElem?_eq_some_iff.mp hx).1
 rw [List.length_reverse] at hi
 rw [List.getElem?_reverse hi] at hx
 have hj:steps.length-1-i<steps.length:=by omega
 refine ⟨steps.length-1-i,by omega,hx,?_⟩
 rw [List.getElem?_eq_getElem hj] at hx
 rw [List.drop_eq_getElem_cons hj,Option.some.inj hx]
theorem zni (h:zoM steps) (hx:steps.reverse[i]?=some x) (e:fl=stl (steps.drop (steps.length-i))):LowP x fl:=by
 obtain ⟨j,h1,h2,h3⟩:=ziq hx
 rw [e,show steps.length-i=j+1 by omega]
 exact h.2 j x h2
theorem znS (hx:steps.reverse[i]?=some x) (e:fl=stl (steps.drop (steps.length-i))) {y:List (List Int)} (hy:y=[low x fl]++fl):y=stl (steps.drop (steps.length-(i+1))):=by
 obtain ⟨j,h1,h2,h3⟩:=ziq hx
 rw [hy,e,show steps.length-i=j+1 by omega,show steps.length-(i+1)=j by omega,h3]
 rfl
theorem ziG:∀ {ss:List (List Int)},(stl ss).length=ss.length
 | []=>rfl
 | s :: ss=>by simp [stl,ziG]
theorem zpw (h:zoM steps) (hi:i<steps.length) (e:fl=stl (steps.drop (steps.length-i))):fl.length≤1000:=by
 rw [e,ziG,List.length_drop]
 have:=h.1
 omega
end
def Fit (n b R:Nat):Prop:=n≤1000∧R≤31∧eB b R≤8980∧b+(min n R+2)*((min n R+1)*(sB b R+9000))+3*sB b R+18001+(min n R+1)*(sB b R+1)≤40000000
def zre (rows:List (List Int)):Prop:=∃ n b R,Fit n b R∧rows.length≤R∧∀ r∈rows,r.length=n∧Bit b r
section
variable {n b R i:Nat} {rows ss:List (List Int)} {r:List Int}
theorem zhk (hr:rows[i]?=some r):clm MG (rows.take (i+1))=stl (tin MG (clm MG (rows.take i)) (low r (clm MG (rows.take i)))):=by
 have hi:=(List.getElem?_eq_some_iff.mp hr).1
 rw [List.take_succ_eq_append_getElem hi]
 unfold clm
 rw [List.foldl_append]
 rw [List.getElem?_eq_getElem hi] at hr
 rw [← Option.some.inj hr]
 rfl
theorem zgZ (h:∀ r∈rows,r.length=n):Stairs n rows (clm MG rows)∧(clm MG rows).length≤rows.length:=by
 have:∀ i,i≤rows.length->Stairs n (rows.take i) (clm MG (rows.take i))∧(clm MG (rows.take i)).length≤i:=by
  intro i
  induction i with
  | zero=>exact λ_=>⟨by simpa [clm] using Stairs.nil,by simp [clm]⟩
  | succ i ih =>
   intro hi
   obtain ⟨s1,s2⟩:=ih (by omega)
   have e:rows[i]?=some rows[i]:=List.getElem?_eq_getElem (by omega)
   obtain ⟨t1,t2⟩:=s1.step MG (r:=rows[i]) (h _ (List.getElem_mem _))
   rw [zhk e,List.take_succ_eq_append_getElem (by omega)]
   exact ⟨t1,by omega⟩
 obtain ⟨t1,t2⟩:=this rows.length (Nat.le_refl _)
 rw [List.take_length] at t1 t2
 exact ⟨t1,t2⟩
theorem zf8 (F:Fit n b R) (hl:rows.length≤R) (h:∀ r∈rows,r.length=n∧Bit b r):Stairs n rows (clm MG rows)∧(clm MG rows).length≤min n R∧∀ t∈clm MG rows,Sd n (sB b R) t:=by
 obtain ⟨s1,s2⟩:=zgZ (rows:=rows) λr hr=>(h r hr).1
 refine ⟨s1,?_,λt ht=>?_⟩
 ·have:=zkR s1.ech (Nat.zero_le n)
  omega
 ·obtain ⟨a1,a2,a3,a4⟩:=s1.ech.mem t ht
  obtain ⟨b1,b2⟩:=s1.bits F.2.1 hl (λr hr=>(h r hr).2) t ht
  exact ⟨a1,a3,a4,Nat.le_trans b1 (Nat.pow_le_pow_right (by decide) F.2.2.1),b2⟩
theorem zle (F:Fit n b R) (hl:rows.length≤R) (h:∀ r∈rows,r.length=n∧Bit b r) (hr:rows[i]?=some r) (e:ss=clm MG (rows.take i)):LowP r ss∧TinP ss r∧zoM (tin MG ss (low r ss)):=by
 subst e
 have hi:=(List.getElem?_eq_some_iff.mp hr).1
 have hrm:=h r (List.mem_of_getElem? hr)
 obtain ⟨s1,s2,s3⟩:=zf8 F (rows:=rows.take i) (by rw [List.length_take];omega) λr hr=>h r (List.mem_of_mem_take hr)
 obtain ⟨t1,t2,t3⟩:=zf8 F (rows:=rows.take (i+1)) (by rw [List.length_take];omega) λr hr=>h r (List.mem_of_mem_take hr)
 rw [zhk hr] at t1 t2 t3
 obtain ⟨f1,f2,f3,f4⟩:=F
 generalize clm MG (rows.take i)=ss at *
 generalize hs:sB b R=s at *
 generalize hk:min n R=k at *
 obtain ⟨k1,k2,k3,k4⟩:=zcp (l:=r) s1.ech hrm.1
 have m1:ss.length*(s+1)≤(k+1)*(s+1):=Nat.mul_le_mul_right _ (by omega)
 have m2:(ss.length+2)*((ss.length+1)*(s+9000))≤(k+2)*((k+1)*(s+9000)):=Nat.mul_le_mul (by omega) (Nat.mul_le_mul_right _ (by omega))
 have hk32:k≤31:=by omega
 refine ⟨⟨n,b,s,f1,hrm.1,by omega,hrm.2,s3,by omega⟩,⟨n,b,s,f1,s1.ech,s3,hrm.1,hrm.2,by omega,by omega⟩,?_,λj x hx=>?_⟩
 ·rw [ziG] at t2;omega
 ·have hxm:=List.mem_of_getElem? hx
  have g1:=tin_bit (K:=k) s1.ech s3 k1 k3 (zfk s3 hrm.1 hrm.2) s2 x hxm
  obtain ⟨e1,_⟩:=zfZ MG s1.ech k1 (λi hi=>absurd hi (Nat.not_lt_zero i)) k3 (Nat.zero_le n)
  rw [ziV]
  refine ⟨n,_,s,f1,(e1.mem x hxm).1,by rw [List.length_drop];omega,g1,λt ht=>t3 t (List.mem_of_mem_drop ht),?_⟩
  have m3:(List.drop (j+1) (stl (tin MG ss (low r ss)))).length*(s+1)≤(k+1)*(s+1):=Nat.mul_le_mul_right _ (by rw [List.length_drop];omega)
  have m4:ss.length*((k+1)*(s+9000))≤k*((k+1)*(s+9000)):=Nat.mul_le_mul_right _ s2
  have m5:(k+1)*(s+1)≤(k+1)*(s+9000):=Nat.mul_le_mul_left _ (by omega)
  rw [Nat.add_mul k 2] at f4
  omega
end
end Lat
namespace L2
open PySem PySem.Spec PyProof.Rows
section
variable {X:Cx} {K:W.Frag}
def insN {α:Type} (xs:List α) (k:Nat) (x:α):List α:=xs.take k++x :: xs.drop k
def zib:V->List V->Hp->VK->Prop:=λx vs H Q=>∃ l xs k y,x=.ref l∧vs=[.int (k:Nat),y]∧H l=some (.lst xs)∧k≤xs.length∧xs.length<sizeLine∧Q .non (upd H l (.lst (insN xs k y)))
def zqN (xs:Array Value) (x:Int) (y:Value):Array Value:=(xs.extract 0 (if x<0 then (x+(xs.size:Int)).toNat else min x.toNat xs.size)).push y++xs.extract (if x<0 then (x+(xs.size:Int)).toNat else min x.toNat xs.size)
theorem ziz {prog:Program} {w:World} {A:Around} {E:Value->Shared->Prop} {s:Shared} {D:Addr} {its:List Value} {n:Nat} {x:Int} {t:Tok} {y:Value} {Q:Value->Shared->Prop} (e:s.heap.get? D=some { cls:=.type "list",data:=.seq its.toArray n }) (hf:Builtin.List.listFitsIndex x=true) (hz:its.length≤sizeLine)
  (h:Q .none { s with heap:=s.heap.update D (Obj.mapSeq λxs=>zqN xs x y) }):wpAny (model prog w) A (call (.builtin "list.insert") [.ref D,.int x t,y]) Q E s:=by
 refine call_meets PySem.F.slot_list_insert ⟨_,e,rfl⟩ PySem.F.entry_list_insert (PySem.F.args_list_insert_3 _ _ _) (PySem.AutoSeq1.list_insert_list_int_val_1 D _ n x t y (by simp [hf]) (by rw [List.size_toArray];exact hz)) ⟨e,?_⟩
 exact h
theorem znn {its:List Value} {k:Nat} {x:Int} {y:Value} (e:x=(k:Int)) (hk:k≤its.length):zqN its.toArray x y=(insN its k y).toArray:=by
 have e1:(if x<0 then (x+(its.toArray.size:Int)).toNat else min x.toNat its.toArray.size)=k:=by
  rw [if_neg (by omega),List.size_toArray,e,Int.toNat_natCast];omega
 unfold zqN insN
 rw [e1]
 apply Array.toList_inj.mp
 simp
 exact List.take_of_length_le (by simp)
theorem zkf:MtM X "list.insert" zib:=by
 intro pins s σ H x vs v us Q I rx rv h
 obtain ⟨l,xs,k,y,rfl,rfl,hH,hk,hz,q⟩:=h
 cases rx
 obtain ⟨u1,u,rfl,⟨t,rfl⟩,ru⟩:=rv.two
 obtain ⟨z,its,n,r,hl,e⟩:=I.lstM hH
 have hk2:(k:Int)<2^63:=by
  refine Int.lt_of_lt_of_le (b:=33554432) ?_ (by decide)
  have:k<33554432:=Nat.lt_of_le_of_lt hk (Nat.lt_of_lt_of_le hz (show sizeLine≤33554432 by decide +kernel))
  omega
 have hf:Builtin.List.listFitsIndex (k:Int)=true:=fitsIndex_both (Int.le_trans (by decide) (Int.natCast_nonneg k)) hk2
 refine ziz e hf (by rw [← hl];exact z) ?_
 refine ⟨.non,_,I.lset (its':=insN its k u) hH e (znn rfl (by omega)) ?_ ?_,rfl,q⟩
 ·unfold insN
  exact (r.take k).append (.cons ru (r.drop k))
 ·unfold insN
  rw [List.length_append,List.length_cons,List.length_take,List.length_drop]
  omega
theorem zij {o e1 e2:Expr} {to:TE} {t:TA} {apos cpos:Pos} (hK:X.K=K) (ho:PE X o to) (ha:PA X [e1,e2] t)
  (hbase:attributeBase o "insert" X.env (eval o X.env)=eval o X.env:=by rfl)
  (hfew:((backTo cpos (starEach [e1,e2] X.env)).all (λx=>!x.1)&&(backToKw cpos (keywordEach [] X.env)).all (λx=>x.1.isSome)
   &&decide (([e1,e2]:List Expr).length+([]:List Keyword).length+(if ([]:List Keyword).isEmpty then 0 else 1)<30))=true:=by rfl)
  (hline:(apos.endLine == cpos.line)=true:=by rfl) (hs:starEach [e1,e2] X.env=(false,eval e1 X.env) :: starEach [e2] X.env:=by rfl) (hplain:(backTo cpos (starEach [e2] X.env)).any (·.1)=false:=by rfl) :
  PE X (.Call (.Attribute o "insert" apos) [e1,e2] [] cpos) (tBM K "list" zib to t):=by
 subst hK
 exact zp6 PySem.F.plainAttrs_list PySem.F.slot_list_insert PySem.F.type_list_insert zkf ho ha hbase hfew hline hs hplain
end
def insZ {α:Type} (xs:List α) (k:Int) (x:α):List α:=insN xs k.toNat x
theorem zjr {α:Type} {xs:List α} {k:Int} {x:α}:(insZ xs k x).length=xs.length+1:=by
 unfold insZ insN
 rw [List.length_append,List.length_cons,List.length_take,List.length_drop]
 omega
theorem insZ_mem {α:Type} {xs:List α} {k:Int} {x y:α} (h:y∈insZ xs k x):y=x∨y∈xs:=by
 unfold insZ insN at h
 rcases List.mem_append.mp h with h | h
 ·exact .inr (List.mem_of_mem_take h)
 ·rcases List.mem_cons.mp h with h | h
  ·exact .inl h
  ·exact .inr (List.mem_of_mem_drop h)
section
variable {E:XS} {Γ:Ctx} {te tj:TE} {u:TS} {o:Oc} {m:Bool} {K:W.Frag} {i j:Nat} {α β:Type} {f:α->Ds}
theorem zid {xs:List α} {x:α} {k:Int} (e:Γ[i]?=some (.ow m (xs.map f))) (hj:Ev Γ tj false (dI k)) (h:Ev Γ te m (f x)) (hk:0≤k∧k≤(xs.length:Int)) (hz:xs.length<sizeLine) (kk:Run E (Γ.set i (.ow m ((insZ xs k x).map f))) u o) :
  Run E Γ (tSeq (tDrop (tBM K "list" zib (tVar i) (tCons tj (tCons te tNil)))) u) o:=λF0 Hb F H σ own D a q=>by
 obtain ⟨p,vs,e1,e2,e3,e4,e5,e6⟩:=zfL a e
 refine ⟨_,e1,.inl ⟨rfl,_,SqL.of e5⟩,?_⟩
 refine hj F0 Hb F H σ own _ a λvj F1 H1 g1 qj=>?_
 have qj:vj=.int k:=qj
 subst qj
 refine h F0 Hb F1 H1 σ own _ (a.grow g1) λv F' H' g qv=>?_
 obtain ⟨p',vs',f1,f2,f3,f4,f5,f6⟩:=zfL (a.grow (g1.trans g)) e
 rw [e1] at f1
 cases f1
 have hl:vs'.length=xs.length:=by rw [Paired.length f6,List.length_map]
 refine ⟨p,vs',k.toNat,v,rfl,by rw [Int.toNat_of_nonneg hk.1],f5,by omega,by omega,kk F0 Hb F' _ σ own D ?_ q⟩
 have em:(insZ xs k x).map f=(xs.map f).take k.toNat++f x :: (xs.map f).drop k.toNat:=by
  unfold insZ insN
  rw [List.map_append,List.map_cons,List.map_take,List.map_drop]
 rw [em]
 exact (a.grow (g1.trans g)).turn e e1 (zbQ (paired_take _ f6) (.cons qv (paired_drop _ f6)))
end
section
variable {E:XS} {Γ:Ctx} {u:TS} {o:Oc} {K:W.Frag} {i j:Nat}
end
end L2
namespace L2
open PySem PySem.Spec PyProof.Rows
end L2
namespace Lat
open L2
theorem zje {S γ β:Type} {f:S->γ->S ⊕ β} {I:Nat->S->Prop}:∀ {xs:List γ} {s:S} {n:Nat},I n s->(∀ (i:Nat) (x:γ) (s:S),xs[i]?=some x->I (n+i) s->∃ s',f s x=.inl s'∧I (n+i+1) s')->∃ s',loopR f s xs=.inl s'∧I (n+xs.length) s'
 | [],s,n,h,_=>⟨s,rfl,h⟩
 | x :: xs,s,n,h,k=>by
  obtain ⟨s1,e1,h1⟩:=k 0 x s rfl h
  obtain ⟨s2,e2,h2⟩:=zje (xs:=xs) (s:=s1) (n:=n+1) h1 λi y s e q=>by
   have:=k (i+1) y s (by simpa using e) (by rw [show n+(i+1)=n+1+i by omega];exact q)
   rw [show n+(i+1)+1=n+1+i+1 by omega] at this
   exact this
  refine ⟨s2,?_,by rw [List.length_cons,show n+(xs.length+1)=n+1+xs.length by omega];exact h2⟩
  unfold loopR
  rw [e1]
  exact e2
def RB (w b:Nat) (rows:List (List Int)):Prop:=∀ r∈rows,r.length=w∧Bit b r
theorem RB.mono {w b c:Nat} {rows:List (List Int)} (h:RB w b rows) (k:b≤c):RB w c rows:=λr hr=>⟨(h r hr).1,(h r hr).2.mono k⟩
theorem setZ_mem {α:Type} {xs:List α} {i:Int} {x y:α} (h:y∈setZ xs i x):y=x∨y∈xs:=by
 unfold setZ at h
 split at h
 ·rcases List.mem_or_eq_of_mem_set h with h | h
  ·exact .inr h
  ·exact .inl h
 ·exact .inr h
theorem RB.setZ {w b:Nat} {rows:List (List Int)} {i:Int} {r:List Int} (h:RB w b rows) (hr:r.length=w∧Bit b r):RB w b (setZ rows i r):=λy hy=>by
 rcases setZ_mem hy with rfl | hy
 ·exact hr
 ·exact h y hy
theorem RB.insZ {w b:Nat} {rows:List (List Int)} {i:Int} {r:List Int} (h:RB w b rows) (hr:r.length=w∧Bit b r):RB w b (insZ rows i r):=λy hy=>by
 rcases insZ_mem hy with rfl | hy
 ·exact hr
 ·exact h y hy
theorem ziN {b:Nat} {l:List Int} {c:Int} (h:Bit b l) (hc:c.natAbs≤16):Bit (b+4) (List.map (λ(x:Int)=>x*c) l):=λy hy=>by
 obtain ⟨x,hx,rfl⟩:=List.mem_map.mp hy
 rw [Int.natAbs_mul,Nat.pow_add]
 exact Nat.mul_le_mul (h x hx) hc
theorem zkc {b:Nat} {l t:List Int} {c d:Int} (h:Bit b l) (k:Bit b t) (hc:c.natAbs≤4) (hd:d.natAbs≤4):Bit (b+3) (List.map (λ(x:Int×Int)=>(c*x.1)+(d*x.2)) (List.zip l t)):=λy hy=>by
 obtain ⟨x,hx,rfl⟩:=List.mem_map.mp hy
 obtain ⟨h1,h2⟩:=List.of_mem_zip (a:=x.1) (b:=x.2) hx
 have e1:(c*x.1).natAbs≤4*2^b:=by rw [Int.natAbs_mul];exact Nat.mul_le_mul hc (h _ h1)
 have e2:(d*x.2).natAbs≤4*2^b:=by rw [Int.natAbs_mul];exact Nat.mul_le_mul hd (k _ h2)
 have e3:2^(b+3)=8*2^b:=by rw [Nat.pow_add];omega
 omega
theorem zjs {xs:List Int} {a w:Nat} (h:a+w≤xs.length):(zbH xs (some (a:Int)) (some ((a:Int)+(w:Int)))).length=w:=by
 rw [show ((a:Int)+(w:Int))=((a+w:Nat):Int) by omega]
 unfold zbH
 rw [HT.sIx_nat,HT.sIx_nat,List.length_take,List.length_drop]
 omega
theorem zkS {α:Type} {xs:List α} {lo hi:Option Int} {x:α} (h:x∈zbH xs lo hi):x∈xs:=List.mem_of_mem_drop (List.mem_of_mem_take h)
theorem zlm {b:Nat} {xs:List Int} {lo hi:Option Int} (h:Bit b xs):Bit b (zbH xs lo hi):=λx hx=>h x (zkS hx)
theorem zht {α β:Type} (g:α->β):∀ (xs:List α) (acc:List β),List.foldl (λs x=>s++[g x]) acc xs=acc++xs.map g
 | [],acc=>by simp
 | x :: xs,acc=>by rw [List.foldl_cons,zht g xs];simp
theorem zd9 {n:Nat} (h:n≤24):Fit n 200 13:=by
 unfold Fit
 have e1:eB 200 13=2898:=rfl
 have e2:sB 200 13=40670:=rfl
 rw [e1,e2]
 refine ⟨by omega,by decide,by decide,?_⟩
 have hk:min n 13≤13:=by omega
 generalize min n 13=k at *
 have m1:(k+2)*((k+1)*(40670+9000))≤15*(14*(40670+9000)):=Nat.mul_le_mul (by omega) (Nat.mul_le_mul_right _ (by omega))
 have m2:(k+1)*(40670+1)≤14*(40670+1):=Nat.mul_le_mul_right _ (by omega)
 omega
end Lat
namespace Lat
theorem Sp.image {A B:Vc->Prop} {g:Vc->Vc} {u:Vc} (h0:∀ i,g (λ_=>0) i=0) (hl:∀ (u a:Vc) (x:Int) i,g (λi=>u i+x*a i) i=g u i+x*g a i) (hA:∀ a,A a->Sp B (g a)) (h:Sp A u):Sp B (g u):=by
 induction h with
 | zero=>exact Sp.zero.conv λi=>(h0 i).symm
 | @add u a z _ ha ih=>exact (ih.plus ((hA a ha).smul z)).conv λi=>(hl u a z i).symm
theorem zb0 {l:List Int} {n i:Nat}:vec (l.take n) i=if i<n then vec l i else 0:=by
 unfold vec
 rw [List.getD_eq_getElem?_getD,List.getD_eq_getElem?_getD,List.getElem?_take]
 split<;>rfl
theorem zfV {l:List Int} {n i:Nat}:vec (l.drop n) i=vec l (n+i):=by
 unfold vec
 rw [List.getD_eq_getElem?_getD,List.getD_eq_getElem?_getD,List.getElem?_drop]
theorem zef {l t:List Int} {i:Nat}:vec (l++t) i=if i<l.length then vec l i else vec t (i-l.length):=by
 unfold vec
 rw [List.getD_eq_getElem?_getD,List.getD_eq_getElem?_getD,List.getD_eq_getElem?_getD,List.getElem?_append]
 split<;>rfl
theorem zhl {l:List Int} {n:Nat} (h:hd l<n) (hl:hd l<l.length):hd (l.take n)=hd l:=zkF (by rw [zb0,if_pos h];exact zgC hl) λi hi=>by
 rw [zb0]
 split
 ·exact zbw hi
 ·rfl
def cutS (n:Nat) (ss:List (List Int)):List (List Int):=List.map (λ(x:List Int)=>x.take n) (List.filter (λ(x:List Int)=>decide (hd x<n)) ss)
theorem zha {n m:Nat} (hnm:n≤m):∀ {ss:List (List Int)} {lo:Nat},Ech m lo ss->Ech n lo (cutS n ss)
 | [],_,_=>trivial
 | s :: ss,lo,e=>by
  unfold cutS
  by_cases q:hd s<n
  ·rw [List.filter_cons_of_pos (by simpa using q),List.map_cons]
   have hl:=e.1
   have e1:=zhl q (by rw [hl];exact e.2.2.1)
   refine ⟨by rw [List.length_take,hl];omega,by rw [e1];exact e.2.1,by rw [e1];exact q,by rw [e1,zb0,if_pos q];exact e.2.2.2.1,?_⟩
   rw [e1]
   exact zha hnm e.2.2.2.2
  ·rw [List.filter_cons_of_neg (by simpa using q)]
   exact (zha hnm e.2.2.2.2).mono (by have:=e.2.1;omega)
theorem zfX {n:Nat} {ss:List (List Int)} {t:List Int} (h:t∈cutS n ss):∃ s∈ss,hd s<n∧t=s.take n:=by
 unfold cutS at h
 obtain ⟨s,hs,rfl⟩:=List.mem_map.mp h
 obtain ⟨h1,h2⟩:=List.mem_filter.mp hs
 exact ⟨s,h1,by simpa using h2,rfl⟩
theorem zho {n m:Nat} (hnm:n≤m):∀ {ss:List (List Int)} {lo:Nat},Ech m lo ss->Red ss->Red (cutS n ss)
 | [],_,_,_=>trivial
 | s :: ss,lo,e,r=>by
  unfold cutS
  by_cases q:hd s<n
  ·rw [List.filter_cons_of_pos (by simpa using q),List.map_cons]
   refine ⟨λt ht=>?_,zho hnm e.2.2.2.2 r.2⟩
   obtain ⟨x,hx,h1,rfl⟩:=zfX ht
   have ex:=Ech.mem e.2.2.2.2 x hx
   rw [zhl h1 (by rw [ex.1];exact ex.2.2.1),zb0,zb0,if_pos h1,if_pos h1]
   exact r.1 x hx
  ·rw [List.filter_cons_of_neg (by simpa using q)]
   exact zho hnm e.2.2.2.2 r.2
abbrev rst (n:Nat) (u:Vc):Vc:=λi=>if i<n then u i else 0
theorem zfd {n:Nat} {l:List Int}:rst n (vec l)=vec (l.take n):=funext λi=>by rw [zb0]
theorem zhE {n:Nat} (u a:Vc) (x:Int) (i:Nat):rst n (λi=>u i+x*a i) i=rst n u i+x*rst n a i:=by
 unfold rst;dsimp only;split<;>omega
theorem Stairs.cut {n m:Nat} {rows marked ss:List (List Int)} (hnm:n≤m) (h:Stairs m marked ss) (k:∀ r∈marked,∃ r'∈rows,r.take n=r') (k':∀ r'∈rows,∃ r∈marked,r.take n=r'):Stairs n rows (cutS n ss):=by
 refine ⟨zha hnm h.ech,zho hnm h.ech h.red,λt ht=>?_,λr' hr'=>?_⟩
 ·obtain ⟨s,hs,_,rfl⟩:=zfX ht
  rw [← zfd]
  refine Sp.image (g:=rst n) (λi=>by unfold rst;split<;>rfl) zhE (λa ⟨r,hr,e⟩=>?_) (h.inn s hs)
  obtain ⟨r',hr',e'⟩:=k r hr
  rw [e,zfd,e']
  exact SpL.mem hr'
 ·obtain ⟨r,hr,rfl⟩:=k' r' hr'
  rw [← zfd]
  refine Sp.image (g:=rst n) (λi=>by unfold rst;split<;>rfl) zhE (λa ⟨s,hs,e⟩=>?_) (h.out r hr)
  rw [e,zfd]
  by_cases q:hd s<n
  ·refine SpL.mem ?_
   unfold cutS
   exact List.mem_map.mpr ⟨s,List.mem_filter.mpr ⟨hs,by simpa using q⟩,rfl⟩
  ·exact Sp.zero.conv λi=>by
    rw [zb0]
    split
    ·rw [zbw (by omega)]
    ·rfl
def Led (n k:Nat) (rows:List (List Int)) (u:Vc):Prop:=∀ j,j<n->u j=comb (List.map (λi=>u (n+i)) (List.range k)) (rows.map vec) j
theorem Led.sp {n k:Nat} {rows:List (List Int)} {A:Vc->Prop} {u:Vc} (hk:rows.length=k) (hA:∀ a,A a->Led n k rows a) (h:Sp A u):Led n k rows u:=by
 induction h with
 | zero =>
  intro j _
  have:=zgj (xs:=List.map (λi=>(0:Int)) (List.range k)) (as:=rows.map vec) 0 j
  rw [List.map_map] at this
  have e:(List.map ((λx=>(0:Int)*x) ∘ λ(i:Nat)=>(0:Int)) (List.range k))=List.map (λ_=>(0:Int)) (List.range k):=List.map_congr_left λ_ _=>rfl
  rw [e] at this
  show (0:Int)=comb (List.map (λ(_:Nat)=>(0:Int)) (List.range k)) (rows.map vec) j
  omega
 | @add u a z _ ha ih =>
  intro j hj
  have e1:=ih j hj
  have e2:=hA a ha j hj
  have e3:∀ (xs:List Nat) (as:List Vc),comb (List.map (λi=>u (n+i)+z*a (n+i)) xs) as j=comb (List.map (λi=>u (n+i)) xs) as j+z*comb (List.map (λi=>a (n+i)) xs) as j:=by
   intro xs
   induction xs with
   | nil=>intro as;simp [comb]
   | cons x xs ihx =>
    intro as
    match as with
    | []=>simp [comb]
    | b :: as =>
     simp only [List.map_cons,comb,ihx as]
     grind
  show u j+z*a j=comb (List.map (λi=>u (n+i)+z*a (n+i)) (List.range k)) (rows.map vec) j
  rw [e3,← e1,← e2]
end Lat
namespace L2
open PySem PySem.Spec PyProof.Rows
theorem zmy {Γ:Ctx} {ds:List Ds} {tr:TA} {E:XK} {ι:Type} {C:Addr} {args:ι->List Ds} {pre:ι->Prop} {fs:ι->List (Str×Ds)} (i:ι) (h:EvA Γ tr true ds) (ha:ds=args i) (hp:pre i):Ev Γ (znp C (zlT C args pre false fs) [] E tr) true (dO C (fs i)):=λF0 Hb F H σ own Q a k=>by
 subst ha
 refine h F0 Hb F H σ own _ a λvs F1 H1 g1 q1 p dx h1 h2 h3=>⟨i,p,dx,vs,H1,off F1 Hb,by rw [List.append_nil],h1,h2,h3,rfl,zkx.trans g1.fh,q1,hp,λus F' H' g n1 n2 e1 e2 e3=>⟨rfl,?_⟩⟩
 have hb1:Same Hb H1:=a.g.h.trans g1.h
 have nb:∀ b o,F' b=some o->Hb b=none:=λb o z=>by
  cases w:Hb b with
  | none=>rfl
  | some o' =>
   have:off F1 Hb b=none:=by unfold off;rw [w]
   have:=g.no b (by rw [hb1 _ _ w];simp) this
   rw [this] at z;cases z
 have gW:Grow F1 H1 (λb=>match F1 b with | some o=>some o | none=>F' b) H':=by
  refine ⟨λb o z=>by show (match F1 b with | some o=>some o | none=>F' b)=some o;rw [z],λb o z=>?_,g.h,λb z1 z2=>?_⟩
  ·have z:(match F1 b with | some o=>some o | none=>F' b)=some o:=z
   cases w:F1 b with
   | some o'=>rw [w] at z;cases z;exact g.h _ _ (g1.fh _ _ w)
   | none=>rw [w] at z;exact g.fh _ _ z
  ·show (match F1 b with | some o=>some o | none=>F' b)=none
   rw [z2]
   exact g.no b z1 (by unfold off;cases Hb b<;>first | rfl | exact z2)
 have sW:Same F' (off (λb=>match F1 b with | some o=>some o | none=>F' b) Hb):=λb o z=>by
  refine ze8.mpr ⟨nb b o z,?_⟩
  show (match F1 b with | some o=>some o | none=>F' b)=some o
  cases w:F1 b with
  | none=>exact z
  | some o' =>
   have u1:=g.h _ _ (g1.fh _ _ w)
   have u2:=g.fh _ _ z
   rw [u1] at u2
   exact u2
 have g2:=g1.trans gW
 obtain ⟨p0,_,pb⟩:=a.free g1 h1
 obtain ⟨d0,_,db⟩:=a.free g1 h2
 have np:(λb=>match F1 b with | some o=>some o | none=>F' b) p=none:=by
  show (match F1 p with | some o=>some o | none=>F' p)=none
  rw [g1.fh.free h1];exact n1
 have nd:(λb=>match F1 b with | some o=>some o | none=>F' b) dx=none:=by
  show (match F1 dx with | some o=>some o | none=>F' dx)=none
  rw [g1.fh.free h2];exact n2
 have g3:=(g2.take p0 e1).take d0 e2
 have s1:=Same.new (H:=λb=>match F1 b with | some o=>some o | none=>F' b) (p:=p) np (.ins C dx us)
 have n3:upd (λb=>match F1 b with | some o=>some o | none=>F' b) p (.ins C dx us) dx=none:=by rw [upd_ne h3];exact nd
 have s2:=s1.trans (Same.new n3 (.own p))
 refine k _ _ _ g3 ⟨p,dx,us,rfl,zdw pb (by rw [upd_ne (Ne.symm h3)];exact upd_same),zdw db upd_same,?_⟩
 exact zcy (λ_ b q=>⟨q.1,b.2.up (sW.trans (zmM s2)) q.2⟩) e3
end L2
namespace Lat
open L2
def zjV (k:Nat) (i:Int):List Int:=setZ (zdp (k:Int) [(0:Int)]) i (1:Int)
def mark (rows:List (List Int)):List (List Int):=List.map (λ(x:Int×List Int)=>x.2++zjV rows.length x.1) (zc1 rows)
theorem zdY {k:Nat}:(zdp (k:Int) [(0:Int)]).length=k:=by unfold zdp;simp
theorem zi4 {k:Nat} {i:Int}:(zjV k i).length=k:=by unfold zjV;rw [setZ_len,zdY]
theorem zhu {k j:Nat}:vec (zdp (k:Int) [(0:Int)]) j=0:=by
 by_cases h:j<(zdp (k:Int) [(0:Int)]).length
 ·have:=zh7 h
  unfold zdp at this
  obtain ⟨l,h1,h2⟩:=List.mem_flatten.mp this
  rw [(List.mem_replicate.mp h1).2] at h2
  exact List.mem_singleton.mp h2
 ·exact vec_out (by omega)
theorem zme {k i j:Nat} (h:i<k):vec (zjV k (i:Int)) j=if j=i then 1 else 0:=by
 unfold zjV setZ ixN
 rw [if_pos (by omega),zdY,if_pos (by omega)]
 show vec ((zdp (k:Int) [(0:Int)]).set (i:Int).toNat 1) j=_
 rw [Int.toNat_natCast]
 unfold vec
 rw [List.getD_eq_getElem?_getD,List.getElem?_set]
 by_cases q:j=i
 ·subst q
  rw [if_pos rfl,if_pos (by rw [zdY];exact h),if_pos rfl];rfl
 ·rw [if_neg (λz=>q z.symm),if_neg q,← List.getD_eq_getElem?_getD]
  exact zhu
theorem zmq {k:Nat} {i:Int} {b:Nat}:Bit b (zjV k i):=λx hx=>by
 unfold zjV at hx
 rcases setZ_mem hx with rfl | hx
 ·exact Nat.one_le_two_pow
 ·obtain ⟨j,_,rfl⟩:=zhg hx
  rw [zhu];exact Nat.zero_le _
theorem ze2 {rows:List (List Int)} {m:List Int} (h:m∈mark rows):∃ (i:Nat) (r:List Int),rows[i]?=some r∧m=r++zjV rows.length (i:Int):=by
 unfold mark at h
 obtain ⟨x,hx,rfl⟩:=List.mem_map.mp h
 obtain ⟨i,hi⟩:=List.getElem?_of_mem hx
 obtain ⟨h1,h2,h3⟩:=zcP hi
 exact ⟨i,x.2,h3,by rw [h2]⟩
theorem zob {rows:List (List Int)} {i:Nat} {r:List Int} (h:rows[i]?=some r):r++zjV rows.length (i:Int)∈mark rows:=by
 unfold mark
 have hi:=(List.getElem?_eq_some_iff.mp h).1
 refine List.mem_map.mpr ⟨((i:Int),r),?_,rfl⟩
 refine List.mem_of_getElem? (i:=i) ?_
 unfold zc1
 rw [List.getElem?_zip_eq_some]
 refine ⟨?_,h⟩
 unfold rngZ
 rw [List.getElem?_map,List.getElem?_range hi]
 show some ((0:Int)+(i:Int))=some (i:Int)
 rw [Int.zero_add]
theorem zeW {rows:List (List Int)}:(mark rows).length=rows.length:=by unfold mark;rw [List.length_map,zdI]
theorem zgy {n b:Nat} {rows:List (List Int)} (h:∀ r∈rows,r.length=n∧Bit b r):∀ m∈mark rows,m.length=n+rows.length∧Bit b m:=λm hm=>by
 obtain ⟨i,r,hr,rfl⟩:=ze2 hm
 have h1:=h r (List.mem_of_getElem? hr)
 refine ⟨by rw [List.length_append,h1.1,zi4],λx hx=>?_⟩
 rcases List.mem_append.mp hx with hx | hx
 ·exact h1.2 x hx
 ·exact zmq x hx
theorem zh3:∀ {as:List Vc} {i c j:Nat} {a:Vc},as[i]?=some a->comb (List.map (λt=>if t=i+c then (1:Int) else 0) (List.map (·+c) (List.range as.length))) as j=a j
 | [],i,c,j,a,h=>by simp at h
 | b :: as,0,c,j,a,h=>by
  have h:b=a:=by simpa using h
  subst h
  rw [List.length_cons,List.range_succ_eq_map,List.map_cons,List.map_cons,List.map_map,List.map_map]
  simp only [comb,Nat.zero_add,if_true]
  have z:∀ (xs:List Nat) (as:List Vc),(∀ x∈xs,x≠0)->comb (List.map (λx=>if x+c=c then (1:Int) else 0) xs) as j=0:=by
   intro xs
   induction xs with
   | nil=>intro as _;simp [comb]
   | cons x xs ih =>
    intro as hx
    match as with
    | []=>simp [comb]
    | d :: as =>
     simp only [List.map_cons,comb]
     rw [if_neg (by have:=hx x List.mem_cons_self;omega),ih as λy hy=>hx y (List.mem_cons_of_mem _ hy)]
     omega
  have:=z (List.map Nat.succ (List.range as.length)) as (λx hx=>by obtain ⟨y,_,rfl⟩:=List.mem_map.mp hx;omega)
  rw [List.map_map] at this
  have e:(List.map (((λt=>if t=c then (1:Int) else 0) ∘ λx=>x+c) ∘ Nat.succ) (List.range as.length))=List.map ((λx=>if x+c=c then (1:Int) else 0) ∘ Nat.succ) (List.range as.length):=List.map_congr_left λ_ _=>rfl
  rw [e,this]
  omega
 | b :: as,i+1,c,j,a,h=>by
  have ih:=zh3 (as:=as) (i:=i) (c:=c+1) (j:=j) (a:=a) (by simpa using h)
  rw [List.length_cons,List.range_succ_eq_map,List.map_cons,List.map_cons,List.map_map,List.map_map]
  simp only [comb]
  rw [if_neg (by omega)]
  rw [List.map_map] at ih
  have e:(List.map (((λt=>if t=i+1+c then (1:Int) else 0) ∘ λx=>x+c) ∘ Nat.succ) (List.range as.length))=List.map ((λt=>if t=i+(c+1) then (1:Int) else 0) ∘ λx=>x+(c+1)) (List.range as.length):=List.map_congr_left λx _=>by
   show (if x.succ+c=i+1+c then (1:Int) else 0)=if x+(c+1)=i+(c+1) then 1 else 0
   by_cases q:x=i
   ·rw [if_pos (by omega),if_pos (by omega)]
   ·rw [if_neg (by omega),if_neg (by omega)]
  rw [e,ih]
  omega
theorem zmm {n:Nat} {rows:List (List Int)} (h:∀ r∈rows,r.length=n):∀ m∈mark rows,Led n rows.length rows (vec m):=λm hm j hj=>by
 obtain ⟨i,r,hr,rfl⟩:=ze2 hm
 have hi:=(List.getElem?_eq_some_iff.mp hr).1
 have hl:=h r (List.mem_of_getElem? hr)
 have:=zh3 (as:=rows.map vec) (i:=i) (c:=0) (j:=j) (a:=vec r) (by rw [List.getElem?_map,hr];rfl)
 rw [zef,if_pos (by omega),← this,List.map_map,List.length_map]
 congr 1
 refine List.map_congr_left λt ht=>?_
 show (if t+0=i+0 then (1:Int) else 0)=vec (r++zjV rows.length (i:Int)) (n+t)
 rw [zef,hl,if_neg (show ¬ n+t<n by omega),Nat.add_sub_cancel_left,zme hi]
 rfl
structure Tr (n:Nat) (rows ss:List (List Int)):Prop where
 st:Stairs (n+rows.length) (mark rows) ss
 sw:Stairs n rows (cutS n ss)
 led:∀ t∈ss,Led n rows.length rows (vec t)
theorem zkw {n:Nat} {rows:List (List Int)} (h:∀ r∈rows,r.length=n):Tr n rows (clm MG (mark rows)):=by
 have S:=(zgZ (rows:=mark rows) (n:=n+rows.length) λm hm=>by
  obtain ⟨i,r,hr,rfl⟩:=ze2 hm
  rw [List.length_append,zi4,h r (List.mem_of_getElem? hr)]).1
 have tk:∀ {i:Nat} {r:List Int},rows[i]?=some r->(r++zjV rows.length (i:Int)).take n=r:=λhr=>by
  rw [List.take_append_of_le_length (by rw [h _ (List.mem_of_getElem? hr)];exact Nat.le_refl _),List.take_of_length_le (by rw [h _ (List.mem_of_getElem? hr)];exact Nat.le_refl _)]
 refine ⟨S,S.cut (by omega) (λm hm=>?_) λr hr=>?_,λt ht=>?_⟩
 ·obtain ⟨i,r,hr,rfl⟩:=ze2 hm
  exact ⟨r,List.mem_of_getElem? hr,tk hr⟩
 ·obtain ⟨i,hi⟩:=List.getElem?_of_mem hr
  exact ⟨_,zob hi,tk hi⟩
 ·exact Led.sp rfl (λa ⟨m,hm,e⟩=>e ▸ zmm h m hm) (S.inn t ht)
end Lat
namespace Lat
end Lat
namespace Lat
theorem Sd.take {m n s:Nat} {t:List Int} (h:Sd m s t) (hn:Lat.hd t<n) (hm:n≤m):Sd n s (t.take n):=by
 have e:=zhl hn (by rw [h.len];exact h.hd)
 exact ⟨by rw [List.length_take,h.len];omega,by rw [e];exact hn,by rw [e,zb0,if_pos hn];exact h.pos,by rw [e,zb0,if_pos hn];exact h.top,λx hx=>h.bit x (List.mem_of_mem_take hx)⟩
end Lat
namespace L2
open PySem PySem.Spec PyProof.Rows
section
variable {X:Cx} {K:W.Frag} {pos:Pos}
end
section
variable {E:XS} {Γ:Ctx} {te ta tb:TE} {u:TS} {o:Oc} {m:Bool} {K:W.Frag} {i j l:Nat} {α β:Type} {f:α->Ds}
end
end L2
namespace Lat
open L2
theorem zlL {xs:List Int} {as:List Vc} {j:Nat}:comb (List.map (λx=>(-1)*x) xs) as j=(-1)*comb xs as j:=zgj (-1) j
theorem zkI {n:Nat} {rows ss:List (List Int)} {v:List Int} (hlen:∀ r∈rows,r.length=n) (T:Tr n rows ss) (hv:v.length=n+rows.length) (h:SpL rows (rst n (vec v))):∀ j,j<n->vec (low v ss) j=0:=by
 obtain ⟨a1,a2,a3,a4⟩:=zcp (l:=v) T.st.ech hv
 have key:=zjl (u:=rst n (vec (low v ss))) T.sw.ech (by
  have d:SpL rows (rst n (λi=>vec v i-vec (low v ss) i)):=by
   refine Sp.image (g:=rst n) (λi=>by unfold rst;split<;>rfl) zhE (λa ⟨s,hs,e⟩=>?_) a2
   rw [e]
   refine (T.st.inn s hs) |> λq=>Sp.image (g:=rst n) (λi=>by unfold rst;split<;>rfl) zhE (λb ⟨m,hm,e2⟩=>?_) q
   obtain ⟨i,r,hr,rfl⟩:=ze2 hm
   rw [e2,zfd]
   by_cases hl:r.length=n
   ·rw [List.take_append_of_le_length (by omega),List.take_of_length_le (by omega)]
    exact SpL.mem (List.mem_of_getElem? hr)
   ·exfalso
    have m1:=T.st.ech
    exact hl (hlen r (List.mem_of_getElem? hr))
  exact ((Sp.lin 1 (-1) h d).sub λa ⟨r,hr,e⟩=>e ▸ T.sw.out r hr).conv λi=>by
   unfold rst
   dsimp only
   split<;>omega) (λt ht=>by
  obtain ⟨s,hs,h1,rfl⟩:=zfX ht
  have es:=T.st.ech.mem s hs
  have eh:=zhl h1 (by rw [es.1];exact es.2.2.1)
  rw [eh,zb0,if_pos h1]
  show 0≤(if hd s<n then vec (low v ss) (hd s) else 0)∧(if hd s<n then vec (low v ss) (hd s) else 0)<vec s (hd s)
  rw [if_pos h1]
  exact a3 s hs)
 intro j hj
 have:=key j
 unfold rst at this
 rwa [if_pos hj] at this
theorem zl4 {n:Nat} {rows ss:List (List Int)} {v:List Int} (T:Tr n rows ss) (hv:v.length=n+rows.length) (hz:∀ i,vec v (n+i)=0) (h0:∀ j,j<n->vec (low v ss) j=0):∀ j,j<n->comb ((low v ss).drop n) (rows.map vec) j=(-1)*vec v j:=λj hj=>by
 obtain ⟨a1,a2,a3,a4⟩:=zcp (l:=v) T.st.ech hv
 have L:=Led.sp (n:=n) (k:=rows.length) rfl (λa ⟨s,hs,e⟩=>e ▸ T.led s hs) a2 j hj
 rw [h0 j hj] at L
 have e:List.map (λi=>vec v (n+i)-vec (low v ss) (n+i)) (List.range rows.length)=List.map (λx=>(-1)*x) ((low v ss).drop n):=by
  refine List.ext_getElem (by simp [a1]) λi h1 h2=>?_
  rw [List.getElem_map,List.getElem_range,List.getElem_map,List.getElem_drop,hz i]
  have:n+i<(low v ss).length:=by simp [a1] at h1 ⊢;omega
  have e2:vec (low v ss) (n+i)=(low v ss)[n+i]:=by simp [vec,List.getD_eq_getElem?_getD,List.getElem?_eq_getElem this]
  rw [e2];omega
 rw [e,zlL] at L
 omega
end Lat
namespace L2
open PySem PySem.Spec PyProof.Rows
section
variable {X:Cx}
end
end L2
namespace L2
open PySem PySem.Spec PyProof.Rows
section
variable {E:XS} {Γ Γx:Ctx} {m:Bool} {α β ε S:Type} {u:TS} {ds:List Ds}
end
end L2
namespace L2
open PySem PySem.Spec PyProof.Rows
section
variable {Γ:Ctx} {m:Bool} {K:W.Frag} {γ:Type} {te tj:TE} {i:Nat} {nss:List (List Int)}
end
section
variable {E:XS} {Γ:Ctx} {m:Bool} {K:W.Frag} {te tj:TE} {u:TS} {o:Oc} {i:Nat} {nss:List (List Int)}
end
end L2
namespace L2
open PySem PySem.Spec PyProof.Rows
section
variable {E:XS} {Γ Δ:Ctx} {m:Bool} {K:W.Frag} {te ta tb:TE} {t u:TS} {d:Ds} {ds es:List Ds} {o:Oc} {i j:Nat}
end
section
variable {P:Program} {w:World} {K:W.Frag} {mg:Str->Option Value} {base:Heap} {x qual:Str} {st:Stmt} {f:Addr} {fd:FuncData} {N ps:List Str} {k:Nat}
end
section
variable {E:XS} {Γ Δ:Ctx} {m:Bool} {K:W.Frag} {te ta tb tj:TE} {t u:TS} {d:Ds} {ds es:List Ds} {o:Oc} {i j:Nat} {p:Addr} {α β:Type} {f:α->Ds} {xs:List α}
end
end L2
namespace L2
open PySem PySem.Spec PyProof.Rows
structure T5 (α β γ δ ε:Type) where
 a:α
 b:β
 c:γ
 d:δ
 e:ε
section
variable {E:XS} {Γ:Ctx} {m:Bool} {K:W.Frag} {te tj:TE} {u:TS} {o:Oc} {i j:Nat} {nss:List (List Int)} {α β:Type}
end
end L2
namespace Lat
open L2
def zjL (n:Nat) (ss:List (List Int)):List (List Int):=List.map (λ(x:List Int)=>x.drop n) (List.filter (λ(x:List Int)=>decide (n≤hd x)) ss)
theorem zoz {l:List Int} {n:Nat} (h:n≤hd l) (hl:hd l<l.length):hd (l.drop n)=hd l-n:=zkF (by rw [zfV,show n+(hd l-n)=hd l by omega];exact zgC hl) λi hi=>by
 rw [zfV];exact zbw (by omega)
theorem zj7 {n:Nat} {ss:List (List Int)} {t:List Int} (h:t∈zjL n ss):∃ s∈ss,n≤hd s∧t=s.drop n:=by
 unfold zjL at h
 obtain ⟨s,hs,rfl⟩:=List.mem_map.mp h
 obtain ⟨h1,h2⟩:=List.mem_filter.mp hs
 exact ⟨s,h1,by simpa using h2,rfl⟩
theorem Sd.drop {n k s:Nat} {t:List Int} (h:Sd (n+k) s t) (hn:n≤Lat.hd t):Sd k s (t.drop n):=by
 have e:=zoz hn (by rw [h.len];exact h.hd)
 have h1:=h.hd
 have e2:n+(Lat.hd t-n)=Lat.hd t:=by omega
 exact ⟨by rw [List.length_drop,h.len];omega,by rw [e];omega,by rw [e,zfV,e2];exact h.pos,by rw [e,zfV,e2];exact h.top,λx hx=>h.bit x (List.mem_of_mem_drop hx)⟩
end Lat
namespace L2
open PySem PySem.Spec PyProof.Rows
section
variable {X:Cx} {K:W.Frag}
end
section
variable {Γ:Ctx} {m:Bool} {K:W.Frag}
end
end L2
namespace L2
open PySem PySem.Spec PyProof.Rows
section
variable {E:XS} {Γ:Ctx} {u:TS} {o:Oc} {K:W.Frag} {i j:Nat}
end
end L2
namespace Lat
open L2
end Lat
namespace L2
open PySem PySem.Spec PyProof.Rows
section
open PySem.SeqAt PySem.MeetsSeq PySem.MeetsSeq2 PySem.MeetsSeq3
open PySem.AutoSeq1 (wpAny_loadPart')
end
section
variable {X:Cx} {K:W.Frag}
end
section
variable {X:Cx} {K:W.Frag}
end
section
variable {E:XS} {Γ:Ctx} {te tj:TE} {t u:TS} {o:Oc} {m:Bool} {K:W.Frag} {i j:Nat} {α β:Type}
end
end L2
namespace L2
open PySem PySem.Spec PyProof.Rows
section
variable {X:Cx} {CX:CXT} {k:Nat} {f C:Addr} {fd:FuncData} {ps:List Str} {sp:Sp} {E:XK} {m:Str} {pos apos:Pos} {o e:Expr} {es:List Expr} {t:TA}
structure ByCls (K:W.Frag) (C f:Addr) (m:Str):Prop where
 ga:W.specialIn K (.ref C) "__getattribute__"=some (some (.builtin "type.__getattribute__"))
 rd:W.readsIn K C (.type "type")=true
 fn:W.findCls K (.ref C) (.type "type") m=some (.val (.ref f))
 kp:W.keepIn K (.ref f)=true
theorem zlU {pl:Sem Bool} (he:PE X o (tC (.ref C))) (B:ByCls X.K C f m) (F:FnOk X.prog X.w X.K X.mg X.base CX k f fd ps sp) (hr:Room k X.A) (hb:zeR X.K fd ps []) (hx:zf7 CX X E) (ha:PA X (e :: es) t)
  (hst:starEach (e :: es) X.env=(false,eval e X.env) :: starEach es X.env:=by rfl) (hpl:(backTo pos (starEach es X.env)).any (·.1)=false:=by rfl)
  (ht:eval (.Call (.Attribute o m apos) (e :: es) [] pos) X.env=(do
   let ov ← eval o X.env
   standAt apos.atName
   let (f,first) ← holding [ov] (getMethod ov m pl)
   callWith pos f first (backTo pos (starEach (e :: es) X.env)) (backToKw pos (keywordEach [] X.env))):=by rfl) :
  PE X (.Call (.Attribute o m apos) (e :: es) [] pos) (tCall sp [] E t):=by
 intro pins s σ H Q I h
 refine W.methodCall_KW (pl:=pl) (thn (he pins s σ H (λv H1=>v=.ref C∧t σ H1 λvs H2=>sp (vs++[]) H2 Q E) I ⟨rfl,h⟩) λu s1 ⟨x,H1,I1,rx,ex,q⟩=>?_) ht
 subst ex
 obtain rfl:u=Value.ref C:=rx
 refine W.method_cls I1.kIn B.ga (W.cls_value I1.kIn B.rd B.fn rfl ?_)
 refine W.callWith_K (first:=[]) (h₀:=X.base) I.ok.mod.kin B.kp (thn (ha pos pins _ σ H1 _ (I1.tok _) q) λus s2 ⟨vs,H2,I2,r,q2⟩=>⟨I2.kIn,?_⟩) hst hpl
 exact zm9 F hr hb .nil hx I2 r q2
end
section
variable {E:XS} {Γ:Ctx} {u:TS} {o:Oc} {m m2:Bool} {K:W.Frag} {i:Nat} {ds:List Ds} {tr:TA}
theorem zjQ {ι:Type} {C p dx:Addr} {args:ι->List Ds} {pre:ι->Prop} {fs:ι->List (Str×Ds)} {E1:XK} (x:ι) (e:Γ[i]?=some (.ob m C p dx [])) (h:EvA Γ tr m2 ds) (ha:ds=args x) (hp:pre x) (k:Run E (Γ.set i (.ob m C p dx (fs x))) u o) :
  Run E Γ (tSeq (tDrop (tCall (zlT C args pre m fs) [] E1 (tCons (tVar i) tr))) u) o:=λF0 Hb F H σ own D a q=>by
 subst ha
 have hi:i<σ.length:=by rw [a.len];exact (List.getElem?_eq_some_iff.mp e).1
 obtain ⟨vs0,z1,_⟩:=a.sl i _ e
 have e':σ[i]?=some (some (.ref p)):=by
  rw [List.getElem?_eq_getElem hi] at z1 ⊢
  exact congrArg some z1
 refine ⟨_,e',h F0 Hb F H σ own _ a λvs F1 H1 g1 q1=>?_⟩
 have a1:=a.grow g1
 obtain ⟨vs1,w1,w2,w3,w4,w5,w6⟩:=a1.sl i _ e
 cases w6
 have ne:dx≠p:=λz=>by
  have h1:=w5.1;have h2:=w5.2
  rw [z] at h2
  rw [h1] at h2;cases h2
 have hE:∀ b,b≠p->b≠dx->(if b=p∨b=dx then none else H1 b)=H1 b:=λb n1 n2=>by
  rw [if_neg (by simp [n1,n2])]
 have hEp:(λb=>if b=p∨b=dx then none else H1 b) p=none:=if_pos (.inl rfl)
 have hEd:(λb=>if b=p∨b=dx then none else H1 b) dx=none:=if_pos (.inr rfl)
 have sE:∀ {R:Hp},Same R H1->R p=none->R dx=none->Same R (λb=>if b=p∨b=dx then none else H1 b):=λhR n1 n2 b w z=>by
  have b1:b≠p:=λy=>by rw [y,n1] at z;cases z
  have b2:b≠dx:=λy=>by rw [y,n2] at z;cases z
  show (if b=p∨b=dx then none else H1 b)=some w
  rw [hE b b1 b2];exact hR b w z
 refine ⟨x,p,dx,vs,λb=>if b=p∨b=dx then none else H1 b,F1,by rw [List.append_nil],hEp,hEd,ne,?_,sE a1.fh w3.1 w3.2,?_,hp,λus F' H' g n1 n2 h1 h2 h3=>?_⟩
 ·funext b
  by_cases b1:b=p
  ·rw [b1,upd_same,w5.1]
  ·rw [upd_ne b1]
   by_cases b2:b=dx
   ·rw [b2,upd_same,w5.2]
   ·rw [upd_ne b2,hE b b1 b2]
 ·exact pr_up (ds:=[]) part_sub q1
 ·have gg:Grow F1 H1 F' (upd H' p (.ins C dx [])):=by
   refine ⟨g.f,λb w z=>?_,λb w z=>?_,λb z1 z2=>?_⟩
   ·rw [upd_ne (λy=>by rw [y,n1] at z;cases z)];exact g.fh b w z
   ·by_cases b1:b=p
    ·rw [b1,upd_same];rw [b1,w5.1] at z;exact z
    ·rw [upd_ne b1]
     by_cases b2:b=dx
     ·rw [b2,h2];rw [b2,w5.2] at z;exact z
     ·exact g.h b w (by show (if b=p∨b=dx then none else H1 b)=some w;rw [hE b b1 b2];exact z)
   ·by_cases b1:b=p
    ·rw [b1];exact n1
    ·by_cases b2:b=dx
     ·rw [b2];exact n2
     ·exact g.no b (by show (if b=p∨b=dx then none else H1 b)≠none;rw [hE b b1 b2];exact z1) z2
  have a2:=(a1.grow gg).turnOb (n:=m) (ws:=us) (gs:=fs x) e (zcy (λ_ b z=>⟨z.1,b.2.up (zfW (sE a1.g.h w4.1 w4.2)) z.2⟩) h3)
  have eq:upd (upd H' p (.ins C dx [])) p (.ins C dx us)=H':=by
   funext b
   by_cases b1:b=p
   ·rw [b1,upd_same,h1]
   ·rw [upd_ne b1,upd_ne b1]
  rw [eq] at a2
  exact k F0 Hb F' H' σ own D a2 q
end
section
variable {Γ:Ctx} {m:Bool}
theorem zpP {ta:TE} {n:Int} (h:Ev Γ ta false (dI n)):Ev Γ (tCB (λxs H Q=>∃ i,xs=[.int i]∧Q (.int (if i<0 then -i else i)) H) (tCons ta tNil)) m (dI ((n.natAbs:Nat):Int)):=λF0 Hb F H σ own Q a k =>
 h F0 Hb F H σ own _ a λv F1 H1 g1 q1=>by
  have q1:v=.int n:=q1
  subst q1
  refine ⟨n,rfl,k _ F1 H1 g1 ?_⟩
  show V.int _=V.int _
  congr 1
  split<;>omega
end
section
variable {X:Cx} {CX:CXT} {k k2:Nat} {f f2 C C2:Addr} {fd fd2:FuncData} {ps ps2:List Str} {sp sp2:Sp} {E:XK} {m:Str} {pos apos:Pos} {o e:Expr} {es:List Expr} {ta:TE} {t:TA}
end
section
variable {Γ:Ctx} {i:Nat} {m n:Bool} {ds:List Ds}
end
end L2
namespace Lat
open L2
def dv:List Int->Vc->Int
 | [],_=>0
 | a :: w,u=>a*u 0+dv w λi=>u (i+1)
theorem zmG:∀ (w t:List Int),(List.map (λ(x:Int×Int)=>x.1*x.2) (List.zip w t)).sum=dv w (vec t)
 | [],_=>rfl
 | a :: w,[]=>by
  have:∀ (w:List Int),dv w (λ_=>0)=0:=by
   intro w
   induction w with
   | nil=>rfl
   | cons a w ih=>show a*0+dv w (λ_=>0)=0;rw [ih];omega
  exact (this (a :: w)).symm
 | a :: w,b :: t=>by
  show a*b+(List.map (λ(x:Int×Int)=>x.1*x.2) (List.zip w t)).sum=a*b+dv w λi=>vec (b :: t) (i+1)
  rw [zmG w t]
  congr 2
theorem zkz:∀ (w:List Int) (u v:Vc) (x:Int),dv w (λi=>u i+x*v i)=dv w u+x*dv w v
 | [],_,_,x=>by show (0:Int)=0+x*0;omega
 | a :: w,u,v,x=>by
  show a*(u 0+x*v 0)+dv w (λi=>u (i+1)+x*v (i+1))=_
  rw [zkz w (λi=>u (i+1)) (λi=>v (i+1)) x]
  show _=a*u 0+dv w (λi=>u (i+1))+x*(a*v 0+dv w λi=>v (i+1))
  grind
theorem znO (w:List Int):dv w (λ_=>0)=0:=by
 have:=zkz w (λ_=>0) (λ_=>0) (-1)
 have e:(λ(i:Nat)=>(0:Int)+-1*0)=λ_=>0:=by funext i;omega
 rw [e] at this
 omega
theorem zm4:∀ (w:List Int) (c:Int) (u:Vc),dv (mul w c) u=dv w u*c
 | [],c,u=>by show (0:Int)=0*c;omega
 | a :: w,c,u=>by
  show a*c*u 0+dv (mul w c) (λi=>u (i+1))=(a*u 0+dv w λi=>u (i+1))*c
  rw [zm4 w c]
  grind
theorem zlp:∀ {w:List Int} {k:Nat} {y:Int} {u:Vc},k<w.length->dv (w.set k y) u=dv w u+(y-vec w k)*u k
 | a :: w,0,y,u,_=>by
  show y*u 0+dv w (λi=>u (i+1))=a*u 0+dv w (λi=>u (i+1))+(y-a)*u 0
  grind
 | a :: w,k+1,y,u,h=>by
  show a*u 0+dv (w.set k y) (λi=>u (i+1))=a*u 0+dv w (λi=>u (i+1))+(y-vec (a :: w) (k+1))*u (k+1)
  rw [zlp (w:=w) (k:=k) (by simpa using h),zbe]
  omega
theorem zpU {A:Vc->Prop} {w:List Int} {M:Int} {u:Vc} (h:∀ a,A a->M ∣ dv w a) (hu:Sp A u):M ∣ dv w u:=by
 induction hu with
 | zero=>rw [znO];exact Int.dvd_zero _
 | @add u a z _ ha ih=>rw [zkz];exact Int.dvd_add ih (Int.dvd_trans (h a ha) (Int.dvd_mul_left _ _))
theorem zoX {X B:Nat}:∀ {w:List Int} {u:Vc},(∀ x∈w,x.natAbs≤X)->(∀ i,(u i).natAbs≤B)->(dv w u).natAbs≤w.length*(X*B)
 | [],u,_,_=>by show (0:Int).natAbs≤_;simp
 | a :: w,u,h,k=>by
  have h1:=zoX (w:=w) (u:=λi=>u (i+1)) (λy hy=>h y (List.mem_cons_of_mem _ hy)) λi=>k (i+1)
  have h2:(a*u 0).natAbs≤X*B:=by rw [Int.natAbs_mul];exact Nat.mul_le_mul (h a List.mem_cons_self) (k 0)
  show (a*u 0+dv w λi=>u (i+1)).natAbs≤(w.length+1)*(X*B)
  rw [Nat.succ_mul]
  omega
theorem zov {α:Type} {xs:List α} {k:Nat} {x:α} (h:k<xs.length):setZ xs (k:Int) x=xs.set k x:=by
 unfold setZ ixN
 rw [if_pos (by omega),if_pos (by omega)]
 simp
theorem zjk {l:List Int} {o:Nat} {x:Int} {i:Nat} (h:o<l.length):vec (l.set o x) i=if i=o then x else vec l i:=by
 unfold vec
 rw [List.getD_eq_getElem?_getD,List.getD_eq_getElem?_getD,List.getElem?_set]
 by_cases z:o=i
 ·subst z;rw [if_pos rfl,if_pos rfl,if_pos h];rfl
 ·rw [if_neg z,if_neg (Ne.symm z)]
def lv1 (w t:List Int):List Int:=setZ (mul w (vec t (hd t))) (hd t:Int) (-(dv w (vec t)))
def lv (N:Nat):List (List Int)->List Int
 | []=>zdp ((N:Int)-1) [(0:Int)]++[(1:Int)]
 | t :: ss=>lv1 (lv N ss) t
def prh:List (List Int)->Int
 | []=>1
 | t :: ss=>vec t (hd t)*prh ss
theorem zlc (N:Nat):∀ ss:List (List Int),List.foldl lv1 (lv N []) ss.reverse=lv N ss
 | []=>rfl
 | t :: ss=>by rw [List.reverse_cons,List.foldl_append,zlc N ss];rfl
theorem zmX {n:Nat}:(lv (n+1) []).length=n+1∧(∀ i,i<n->vec (lv (n+1) []) i=0)∧vec (lv (n+1) []) n=1:=by
 have hl:(zdp (((n+1:Nat):Int)-1) [(0:Int)]).length=n:=by rw [show ((n+1:Nat):Int)-1=(n:Int) by omega];exact zdY
 refine ⟨by show (zdp (((n+1:Nat):Int)-1) [(0:Int)]++[(1:Int)]).length=_;rw [List.length_append,hl];rfl,λi hi=>?_,?_⟩
 ·show vec (zdp (((n+1:Nat):Int)-1) [(0:Int)]++[(1:Int)]) i=0
  rw [zef,hl,if_pos hi]
  rw [show ((n+1:Nat):Int)-1=(n:Int) by omega]
  unfold zdp vec
  rw [List.getD_eq_getElem?_getD]
  cases q:((List.replicate (n:Int).toNat [(0:Int)]).flatten)[i]? with
  | none=>rfl
  | some y =>
   obtain ⟨l,h1,h2⟩:=List.mem_flatten.mp (List.mem_of_getElem? q)
   rw [List.eq_of_mem_replicate h1] at h2
   rw [List.mem_singleton.mp h2];rfl
 ·show vec (zdp (((n+1:Nat):Int)-1) [(0:Int)]++[(1:Int)]) n=1
  rw [zef,hl,if_neg (by omega),Nat.sub_self];rfl
theorem zpu {n:Nat}:∀ {ss:List (List Int)} {lo:Nat},Ech (n+1) lo ss->(∀ t∈ss,hd t<n) →
  (lv (n+1) ss).length=n+1∧(∀ i,i<lo->i<n->vec (lv (n+1) ss) i=0)∧(∀ t∈ss,dv (lv (n+1) ss) (vec t)=0)∧vec (lv (n+1) ss) n=prh ss∧0<prh ss
 | [],lo,_,_=>by
  obtain ⟨h1,h2,h3⟩:=zmX (n:=n)
  exact ⟨h1,λi _ hi=>h2 i hi,by simp,h3,by decide⟩
 | t :: ss,lo,e,h=>by
  obtain ⟨e1,e2,e3,e4,e5⟩:=e
  obtain ⟨h1,h2,h3,h4,h5⟩:=zpu e5 λs hs=>h s (List.mem_cons_of_mem _ hs)
  have ht:=h t List.mem_cons_self
  have hk:hd t<(mul (lv (n+1) ss) (vec t (hd t))).length:=by rw [zaO,h1];omega
  have z0:vec (lv (n+1) ss) (hd t)=0:=h2 _ (by omega) ht
  have ew:lv (n+1) (t :: ss)=(mul (lv (n+1) ss) (vec t (hd t))).set (hd t) (-(dv (lv (n+1) ss) (vec t))):=by
   show lv1 _ _=_
   unfold lv1
   rw [zov hk]
  have hdv:∀ u:Vc,dv (lv (n+1) (t :: ss)) u=dv (lv (n+1) ss) u*vec t (hd t)-dv (lv (n+1) ss) (vec t)*u (hd t):=λu=>by
   rw [ew,zlp hk,zm4,zcU,z0]
   grind
  refine ⟨by rw [ew,List.length_set,zaO,h1],λi hi hn=>?_,λs hs=>?_,?_,Int.mul_pos e4 h5⟩
  ·rw [ew,zjk hk,if_neg (by omega),zcU,h2 i (by omega) hn];omega
  ·rw [hdv]
   rcases List.mem_cons.mp hs with rfl | hs
   ·omega
   ·rw [h3 s hs,e5.before (Nat.lt_succ_self _) s hs];omega
  ·rw [ew,zjk hk,if_neg (by omega),zcU,h4]
   show prh ss*vec t (hd t)=vec t (hd t)*prh ss
   exact Int.mul_comm _ _
theorem znE {n s a:Nat} {w t:List Int} (T:Sd n s t) (hw:w.length≤1000) (hb:Bit a w):Bit (a+(s+9000)) (lv1 w t):=λx hx=>by
 rcases setZ_mem hx with rfl | hx
 ·have h1:=zoX hb T.bit.vec
  have h2:w.length*(2^a*2^s)≤2^10*(2^a*2^s):=Nat.mul_le_mul_right _ (by omega)
  rw [← Nat.pow_add,← Nat.pow_add] at h2
  have h3:2^(10+(a+s))≤2^(a+(s+9000)):=Nat.pow_le_pow_right (by decide) (by omega)
  rw [← Nat.pow_add] at h1
  rw [Int.natAbs_neg]
  exact Nat.le_trans h1 (Nat.le_trans h2 h3)
 ·unfold mul at hx
  obtain ⟨y,hy,rfl⟩:=List.mem_map.mp hx
  show (y*vec t (hd t)).natAbs≤_
  rw [Int.natAbs_mul]
  exact Nat.le_trans (zdT (hb y hy) T.top) (Nat.pow_le_pow_right (by decide) (by omega))
theorem znh {w t:List Int}:(lv1 w t).length=w.length:=by unfold lv1;rw [setZ_len,zaO]
def lvI (N:Nat) (ss:List (List Int)) (i:Nat) (w:List Int):Prop:=w=lv N (ss.drop (ss.length-i))
theorem zqn {N:Nat} {ss:List (List Int)}:lvI N ss 0 (lv N []):=by
 unfold lvI
 rw [Nat.sub_zero,List.drop_length]
theorem zqJ {N i:Nat} {ss:List (List Int)} {t w:List Int} (hx:ss.reverse[i]?=some t) (I:lvI N ss i w):lvI N ss (i+1) (lv1 w t):=by
 have hi:i<ss.length:=by have:=(List.getElem?_eq_some_iff.mp hx).1;rwa [List.length_reverse] at this
 have e:ss[ss.length-(i+1)]?=some t:=by rw [← hx,List.getElem?_reverse hi];congr 1;omega
 unfold lvI at *
 have hj:ss.length-(i+1)<ss.length:=by omega
 rw [List.drop_eq_getElem_cons hj,show ss.length-(i+1)+1=ss.length-i by omega]
 rw [List.getElem?_eq_getElem hj] at e
 cases e
 show lv1 w _=lv1 (lv N _) _
 rw [← I]
theorem zk0 {n s:Nat}:∀ {ss:List (List Int)},(∀ t∈ss,Sd (n+1) s t)->n≤900->(lv (n+1) ss).length=n+1∧Bit (1+ss.length*(s+9000)) (lv (n+1) ss)
 | [],_,_=>⟨zmX.1,λx hx=>by
  have hx:x∈zdp (((n+1:Nat):Int)-1) [(0:Int)]++[(1:Int)]:=hx
  rcases List.mem_append.mp hx with hx | hx
  ·unfold zdp at hx
   obtain ⟨l,h1,h2⟩:=List.mem_flatten.mp hx
   rw [List.eq_of_mem_replicate h1] at h2
   rw [List.mem_singleton.mp h2];exact Nat.zero_le _
  ·rw [List.mem_singleton.mp hx]
   exact Nat.one_le_two_pow⟩
 | t :: ss,h,hn=>by
  obtain ⟨h1,h2⟩:=zk0 (λs hs=>h s (List.mem_cons_of_mem _ hs)) hn
  refine ⟨by show (lv1 _ _).length=_;rw [znh,h1],(znE (h t List.mem_cons_self) (by omega) h2).mono ?_⟩
  rw [List.length_cons,Nat.succ_mul];omega
theorem zm8 {E:Nat}:∀ {ss:List (List Int)},(∀ t∈ss,(vec t (hd t)).natAbs≤2^E)->(prh ss).natAbs≤2^(E*ss.length)
 | [],_=>by show (1:Int).natAbs≤_;rw [List.length_nil,Nat.mul_zero];decide
 | t :: ss,h=>by
  show (vec t (hd t)*prh ss).natAbs≤_
  rw [Int.natAbs_mul,List.length_cons,Nat.mul_succ,Nat.add_comm]
  exact zdT (h t List.mem_cons_self) (zm8 λs hs=>h s (List.mem_cons_of_mem _ hs))
structure GdI (g0 s0:Int) (p:Int×Int):Prop where
 a:0≤p.1
 b:0≤p.2
 d:∀ d:Int,d ∣ p.1->d ∣ p.2->d ∣ g0∧d ∣ s0
 n:g0≠0∨s0≠0->p.1≠0∨p.2≠0
theorem GdI.start {g s:Int} (h1:0≤g) (h2:0≤s):GdI g s (g,s):=⟨h1,h2,λ_ a b=>⟨a,b⟩,λh=>h⟩
theorem GdI.step {g s:Int} {p:Int×Int} (I:GdI g s p) (h:p.2≠0):GdI g s (p.2,p.1%p.2)∧(p.1%p.2).toNat<p.2.toNat:=by
 have hb:=I.b
 have m0:=Int.emod_nonneg p.1 h
 have m1:=Int.emod_lt_of_pos p.1 (show 0<p.2 by omega)
 refine ⟨⟨hb,m0,λd d1 d2=>I.d d ?_ d1,λ_=>.inl h⟩,by omega⟩
 have:p.1%p.2+p.2*(p.1/p.2)=p.1:=Int.emod_add_mul_ediv p.1 p.2
 rw [← this]
 exact Int.dvd_add d2 (Int.dvd_trans d1 (Int.dvd_mul_right _ _))
theorem GdI.done {g s:Int} {p:Int×Int} (I:GdI g s p) (h:p.2=0):0≤p.1∧p.1 ∣ g∧p.1 ∣ s∧(g≠0∨s≠0->0<p.1):=by
 have:=I.d p.1 (Int.dvd_refl _) (by rw [h];exact Int.dvd_zero _)
 refine ⟨I.a,this.1,this.2,λz=>?_⟩
 have:=I.a
 rcases I.n z with w | w
 ·omega
 ·exact absurd h w
def DvI (l:List Int) (i:Nat) (g:Int):Prop:=0≤g∧(∀ x∈l.take i,g ∣ x)∧((∃ x∈l.take i,x≠0)->0<g)
theorem DvI.start {l:List Int}:DvI l 0 0:=⟨Int.le_refl _,by simp,by simp⟩
theorem DvI.step {l:List Int} {i:Nat} {g g' x:Int} (hx:l[i]?=some x) (I:DvI l i g) (h:0≤g'∧g' ∣ g∧g' ∣ ((x.natAbs:Nat):Int)∧(g≠0∨((x.natAbs:Nat):Int)≠0->0<g')):DvI l (i+1) g':=by
 obtain ⟨h1,h2,h3,h4⟩:=h
 have hm:∀ y∈l.take (i+1),y∈l.take i∨y=x:=λy hy=>by
  rw [List.take_add_one,hx] at hy
  rcases List.mem_append.mp hy with hy | hy
  ·exact .inl hy
  ·exact .inr (by simpa using hy)
 have hxx:g' ∣ x:=by rw [← Int.dvd_natAbs];exact h3
 refine ⟨h1,λy hy=>?_,λ⟨y,hy,hn⟩=>h4 ?_⟩
 ·rcases hm y hy with hy | rfl
  ·exact Int.dvd_trans h2 (I.2.1 y hy)
  ·exact hxx
 ·rcases hm y hy with hy | rfl
  ·have:=I.2.2 ⟨y,hy,hn⟩
   exact .inl (by omega)
  ·exact .inr (by omega)
def askR (sw:List (List Int)) (x:List Int):List (List Int):=List.map (λ(r:List Int)=>r++[(0:Int)]) sw++[x++[(-(1:Int))]]
theorem zhq {l:List Int}:vec (l++[(0:Int)])=vec l:=by
 funext i
 rw [zef]
 split
 ·rfl
 ·rename_i h
  rw [vec_out (l:=l) (by omega)]
  cases q:i-l.length with
  | zero=>rfl
  | succ k=>rw [zbe];rfl
theorem zfc {l:List Int} {n:Nat} (h:l.length=n) (i:Nat):vec (l++[(-(1:Int))]) i=vec l i-(if i=n then 1 else 0):=by
 rw [zef,h]
 by_cases q:i<n
 ·rw [if_pos q,if_neg (by omega)];omega
 ·rw [if_neg q,vec_out (l:=l) (by omega)]
  by_cases z:i=n
  ·rw [if_pos z,z,Nat.sub_self];rfl
  ·rw [if_neg z]
   obtain ⟨k,hk⟩:∃ k,i-n=k+1:=⟨i-n-1,by omega⟩
   rw [hk,zbe];rfl
theorem zki {n:Nat} {sw:List (List Int)} {x:List Int} (h:∀ r∈sw,r.length=n) (hx:x.length=n):∀ r∈askR sw x,r.length=n+1:=λr hr=>by
 rcases List.mem_append.mp hr with hr | hr
 ·obtain ⟨s,hs,rfl⟩:=List.mem_map.mp hr
  rw [List.length_append,h s hs];rfl
 ·rw [List.mem_singleton.mp hr,List.length_append,hx];rfl
theorem zkq {b:Nat} {sw:List (List Int)} {x:List Int} (h:∀ r∈sw,Bit b r) (hx:Bit b x):∀ r∈askR sw x,Bit b r:=λr hr y hy=>by
 rcases List.mem_append.mp hr with hr | hr
 ·obtain ⟨s,hs,rfl⟩:=List.mem_map.mp hr
  rcases List.mem_append.mp hy with hy | hy
  ·exact h s hs y hy
  ·rw [List.mem_singleton.mp hy];exact Nat.zero_le _
 ·rw [List.mem_singleton.mp hr] at hy
  rcases List.mem_append.mp hy with hy | hy
  ·exact hx y hy
  ·rw [List.mem_singleton.mp hy];exact Nat.one_le_two_pow
theorem zp5 {n:Nat} {sw:List (List Int)} {x:List Int} (h:∀ r∈sw,r.length=n) (hx:x.length=n) {v:Vc} (hv:SpL (askR sw x) v):SpL sw (λi=>v i+v n*(vec x i-if i=n then 1 else 0)):=by
 have hv:Sp (λu=>(∃ s∈sw,u=vec s)∨u=vec (x++[(-(1:Int))])) v:=Sp.mono (λa ⟨r,hr,e⟩=>by
  rcases List.mem_append.mp hr with hr | hr
  ·obtain ⟨s,hs,rfl⟩:=List.mem_map.mp hr
   exact .inl ⟨s,hs,by rw [e,zhq]⟩
  ·rw [List.mem_singleton.mp hr] at e
   exact .inr e) hv
 obtain ⟨u,y,hu,e⟩:=hv.split
 have u0:u n=0:=Sp.at0 (λa ⟨s,hs,e⟩=>by rw [e];exact vec_out (by rw [h s hs];exact Nat.le_refl _)) hu
 have en:=e n
 rw [u0,zfc hx,if_pos rfl,vec_out (l:=x) (by omega)] at en
 have hy:v n=-y:=by omega
 refine Sp.conv (A:=λu=>∃ s∈sw,u=vec s) hu λi=>?_
 rw [e i,hy,zfc hx]
 grind
theorem zmP {n:Nat} {sw:List (List Int)} {x:List Int} (hx:x.length=n) {d:Int} (h:SpL sw (λi=>d*vec x i)):SpL (askR sw x) (λi=>if i=n then d else 0):=by
 have h1:SpL (askR sw x) (λi=>d*vec x i):=Sp.mono (λa ⟨s,hs,e⟩=>⟨s++[(0:Int)],List.mem_append_left _ (List.mem_map.mpr ⟨s,hs,rfl⟩),by rw [e,zhq]⟩) h
 have h2:SpL (askR sw x) (vec (x++[(-(1:Int))])):=Sp.mem ⟨_,List.mem_append_right _ (List.mem_singleton.mpr rfl),rfl⟩
 refine (Sp.lin 1 (-d) h1 h2).conv λi=>?_
 rw [zfc hx]
 by_cases z:i=n
 ·rw [if_pos z,if_pos z];grind
 ·rw [if_neg z,if_neg z];grind
theorem ech_cut {n:Nat}:∀ {R:List (List Int)} {lo:Nat},Ech (n+1) lo R->R=List.filter (λ(t:List Int)=>decide (hd t<n)) R∨∃ t,hd t=n∧R=List.filter (λ(t:List Int)=>decide (hd t<n)) R++[t]
 | [],_,_=>.inl rfl
 | t :: R,lo,e=>by
  obtain ⟨e1,e2,e3,e4,e5⟩:=e
  by_cases q:hd t<n
  ·rw [List.filter_cons,if_pos (by simpa using q)]
   rcases ech_cut e5 with z | ⟨s,h1,h2⟩
   ·exact .inl (by rw [← z])
   ·exact .inr ⟨s,h1,by rw [List.cons_append,← h2]⟩
  ·have hR:R=[]:=by
    cases R with
    | nil=>rfl
    | cons s R=>have:=e5.2.1;have:=e5.2.2.1;omega
   subst hR
   rw [List.filter_cons,if_neg (by simpa using q)]
   exact .inr ⟨t,by omega,rfl⟩
theorem zfz {n N:Nat} {p:List Int->Bool}:∀ {R:List (List Int)} {lo:Nat},Ech N lo R->Ech N lo (List.filter p R)
 | [],_,_=>trivial
 | t :: R,lo,e=>by
  obtain ⟨e1,e2,e3,e4,e5⟩:=e
  rw [List.filter_cons]
  split
  ·exact ⟨e1,e2,e3,e4,zfz (n:=n) e5⟩
  ·exact (zfz (n:=n) e5).mono (by omega)
theorem ziu:∀ {ss:List (List Int)} {t:List Int},prh (ss++[t])=prh ss*vec t (hd t)
 | [],t=>by show vec t (hd t)*1=1*vec t (hd t);omega
 | s :: ss,t=>by show vec s (hd s)*prh (ss++[t])=vec s (hd s)*prh ss*vec t (hd t);rw [ziu,Int.mul_assoc]
theorem zhh:∀ {w:List Int} {n:Nat} {u:Vc},w.length=n+1->dv w u=dv (w.take n) u+vec w n*u n
 | [a],0,u,_=>by show a*u 0+0=0+a*u 0;omega
 | a :: b :: w,n+1,u,h=>by
  show a*u 0+dv (b :: w) (λi=>u (i+1))=a*u 0+dv ((b :: w).take n) (λi=>u (i+1))+vec (a :: b :: w) (n+1)*u (n+1)
  rw [zhh (w:=b :: w) (n:=n) (by simpa using h),zbe]
  omega
 | [a],n+1,u,h=>by simp at h
 | _ :: _ :: _,0,u,h=>by simp at h
 | [],_,u,h=>by simp at h
structure Shw (n:Nat) (sw:List (List Int)) (x:List Int) (R ss:List (List Int)):Prop where
 st:Stairs (n+1) (askR sw x) R
 ss:ss=List.filter (λ(t:List Int)=>decide (hd t<n)) R
 hl:∀ r∈sw,r.length=n
 hx:x.length=n
section
variable {n:Nat} {sw:List (List Int)} {x:List Int} {R ss:List (List Int)}
theorem Shw.low (h:Shw n sw x R ss):∀ t∈ss,t∈R∧hd t<n:=λt ht=>by
 rw [h.ss] at ht
 obtain ⟨h1,h2⟩:=List.mem_filter.mp ht
 exact ⟨h1,by simpa using h2⟩
theorem Shw.lv (h:Shw n sw x R ss):(lv (n+1) ss).length=n+1∧(∀ t∈ss,dv (lv (n+1) ss) (vec t)=0)∧vec (lv (n+1) ss) n=prh ss∧0<prh ss:=by
 have e:Ech (n+1) 0 ss:=by rw [h.ss];exact zfz (n:=n) h.st.ech
 obtain ⟨h1,h2,h3,h4,h5⟩:=zpu e λt ht=>(h.low t ht).2
 exact ⟨h1,h3,h4,h5⟩
theorem Shw.row (h:Shw n sw x R ss) {M:Int} (hM:∀ t∈R,M ∣ dv (Lat.lv (n+1) ss) (vec t)):(∀ s∈sw,M ∣ dv ((Lat.lv (n+1) ss).take n) (vec s))∧M ∣ dv ((Lat.lv (n+1) ss).take n) (vec x)-prh ss:=by
 obtain ⟨h1,h2,h3,h4⟩:=h.lv
 have hs:∀ r∈askR sw x,M ∣ dv (Lat.lv (n+1) ss) (vec r):=λr hr=>zpU (λa ⟨t,ht,e⟩=>by rw [e];exact hM t ht) (h.st.out r hr)
 refine ⟨λs hs'=>?_,?_⟩
 ·have:=hs (s++[(0:Int)]) (List.mem_append_left _ (List.mem_map.mpr ⟨s,hs',rfl⟩))
  rw [zhq,zhh h1,vec_out (l:=s) (by rw [h.hl s hs'];exact Nat.le_refl _)] at this
  simpa using this
 ·have:=hs _ (List.mem_append_right _ (List.mem_singleton.mpr rfl))
  rw [zhh h1,zfc h.hx,if_pos rfl,vec_out (l:=x) (by rw [h.hx];exact Nat.le_refl _),h3] at this
  have e:dv ((Lat.lv (n+1) ss).take n) (vec (x++[(-(1:Int))]))=dv ((Lat.lv (n+1) ss).take n) (vec x):=by
   have hl:((Lat.lv (n+1) ss).take n).length≤n:=by rw [List.length_take];omega
   have:∀ {w:List Int} {u v:Vc},(∀ i,i<w.length->u i=v i)->dv w u=dv w v:=by
    intro w
    induction w with
    | nil=>intro u v _;rfl
    | cons a w ih =>
     intro u v q
     show a*u 0+_=a*v 0+_
     rw [q 0 (by simp),ih λi hi=>q (i+1) (by simpa using hi)]
   exact this λi hi=>by rw [zfc h.hx,if_neg (by omega)];omega
  rw [e] at this
  have e2:dv ((Lat.lv (n+1) ss).take n) (vec x)+prh ss*(0-1)=dv ((Lat.lv (n+1) ss).take n) (vec x)-prh ss:=by omega
  rw [e2] at this
  exact this
theorem Shw.line (h:Shw n sw x R ss) (e:R=ss):(∀ s∈sw,dv ((Lat.lv (n+1) ss).take n) (vec s)=0)∧dv ((Lat.lv (n+1) ss).take n) (vec x)=prh ss∧∀ d:Int,SpL sw (λi=>d*vec x i)->d=0:=by
 obtain ⟨h1,h2,h3,h4⟩:=h.lv
 obtain ⟨r1,r2⟩:=h.row (M:=0) λt ht=>by rw [e] at ht;rw [h2 t ht];exact Int.dvd_refl _
 refine ⟨λs hs=>Int.zero_dvd.mp (r1 s hs),by have:=Int.zero_dvd.mp r2;omega,λd hd'=>Classical.byContradiction λhn=>?_⟩
 have hv:=zmP h.hx hd'
 have hv2:SpL R (λi=>if i=n then d else 0):=Sp.sub (A:=λu=>∃ r∈askR sw x,u=vec r) (λa ⟨r,hr,q⟩=>by rw [q];exact h.st.out r hr) hv
 obtain ⟨t,ht,q⟩:=zhz (h:=n) h.st.ech hv2 (λi hi=>if_neg (by omega)) (by rw [if_pos rfl];exact hn)
 rw [e] at ht
 have:=(h.low t ht).2
 omega
theorem Shw.rest (h:Shw n sw x R ss) {t:List Int} (ht:hd t=n) (e:R=ss++[t]):0<vec t n∧(∀ s∈sw,prh ss*vec t n ∣ dv ((Lat.lv (n+1) ss).take n) (vec s))∧(prh ss*vec t n ∣ dv ((Lat.lv (n+1) ss).take n) (vec x)-prh ss)∧SpL sw (λi=>vec t n*vec x i)∧∀ d:Int,SpL sw (λi=>d*vec x i)->vec t n ∣ d:=by
 obtain ⟨h1,h2,h3,h4⟩:=h.lv
 have hm:t∈R:=by rw [e];exact List.mem_append_right _ (List.mem_singleton.mpr rfl)
 obtain ⟨t1,t2,t3,t4⟩:=h.st.ech.mem t hm
 rw [ht] at t4
 have tz:∀ i,i≠n->vec t i=0:=λi hi=>by
  by_cases q:i<n
  ·exact zbw (by omega)
  ·exact vec_out (by omega)
 obtain ⟨r1,r2⟩:=h.row (M:=prh ss*vec t n) λs hs=>by
  rw [e] at hs
  rcases List.mem_append.mp hs with hs | hs
  ·rw [h2 s hs];exact Int.dvd_zero _
  ·rw [List.mem_singleton.mp hs,zhh h1,h3]
   have:dv ((Lat.lv (n+1) ss).take n) (vec t)=0:=by
    have hl:((Lat.lv (n+1) ss).take n).length≤n:=by rw [List.length_take];omega
    have:∀ {w:List Int} {u:Vc},(∀ i,i<w.length->u i=0)->dv w u=0:=by
     intro w
     induction w with
     | nil=>intro u _;rfl
     | cons a w ih =>
      intro u q
      show a*u 0+_=0
      rw [q 0 (by simp),ih λi hi=>q (i+1) (by simpa using hi)];omega
    exact this λi hi=>tz i (by omega)
   rw [this,Int.zero_add]
   exact Int.dvd_refl _
 refine ⟨t4,r1,r2,?_,λd hd'=>?_⟩
 ·refine (zp5 h.hl h.hx (h.st.inn t hm)).conv λi=>?_
  by_cases q:i=n
  ·subst q
   rw [if_pos rfl,vec_out (l:=x) (by rw [h.hx];exact Nat.le_refl _)];omega
  ·rw [if_neg q,tz i q,Int.sub_zero,Int.zero_add]
 ·have hv:=zmP h.hx hd'
  have hv2:SpL R (λi=>if i=n then d else 0):=Sp.sub (A:=λu=>∃ r∈askR sw x,u=vec r) (λa ⟨r,hr,q⟩=>by rw [q];exact h.st.out r hr) hv
  have:=zit h.st.ech hv2 hm (λi hi=>if_neg (by omega))
  rw [ht,if_pos rfl] at this
  exact this
end
end Lat
namespace L2
open PySem PySem.Spec PyProof.Rows
section
variable {Γ:Ctx} {m:Bool} {K:W.Frag} {ta:TE} {α:Type} {f:α->Ds} {cl:α->Addr} {fs:α->List (Str×Ds)}
end
end L2
namespace L2
open PySem PySem.Spec PyProof.Rows
structure CalleeM (P:Program) (w:World) (K:W.Frag) (mg:Str->Option Value) (base:Heap) (CX:CXT) (k:Nat) (C:Addr) (m:Str) (ps:List Str) (sp:Sp):Prop where
 ex:∃ f fd,FnOk P w K mg base CX k f fd ps sp∧Meth K C m f∧zeR K fd ps []
def zrg (t u:TE):TE:=λσ H Q=>t σ H Q∨u σ H Q
section
variable {X:Cx} {CX:CXT} {k:Nat} {C:Addr} {ps:List Str} {sp:Sp} {E:XK} {m:Str} {pos apos:Pos} {o e:Expr} {es:List Expr} {ta:TE} {t:TA}
theorem Ev.inl {Γ:Ctx} {t u:TE} {b:Bool} {d:Ds} (h:Ev Γ t b d):Ev Γ (zrg t u) b d:=λF0 Hb F H σ own Q a k=>.inl (h F0 Hb F H σ own Q a k)
theorem Ev.inr {Γ:Ctx} {t u:TE} {b:Bool} {d:Ds} (h:Ev Γ u b d):Ev Γ (zrg t u) b d:=λF0 Hb F H σ own Q a k=>.inr (h F0 Hb F H σ own Q a k)
end
section
variable {Γ:Ctx} {ta tb tc:TE} {m:Bool}
end
section
variable {E:XS} {Γ:Ctx} {m:Bool} {K:W.Frag} {te:TE} {u:TS} {α β:Type}
end
end L2
namespace L2
open PySem PySem.Spec PyProof.Rows
def orX (t u:TEX):TEX:=λσ H Q E=>t σ H Q E∨u σ H Q E
section
variable {X:Cx} {a b e o:Expr} {es:List Expr} {pos apos:Pos} {k:Nat} {C:Addr} {ps:List Str} {sp:Sp} {m:Str} {tb to:TE} {ta:TEX} {t:TA}
end
def EvX {α ε:Type} (xc:ε->Addr) (Γ:Ctx) (te:TEX) (m:Bool) (d:α->Ds) (r:Except ε α):Prop:=∀ (F0 Hb F H:Hp) (σ:St) (own:Nat->Option Addr) (Q:VK) (E:XK),At F0 Hb F H σ own Γ →
 (match r with | .ok v=>∀ v' F' H',Grow F H F' H'->(d v).pr (part m F' Hb) v'->Q v' H' | .error e=>∀ dct F' H',Grow F H F' H'->E (.ref (xc e)) dct H')->te σ H Q E
section
variable {α β ε:Type} {xc:ε->Addr} {Γ Γx:Ctx} {te:TEX} {tb:TE} {m m0:Bool} {d:α->Ds} {r:Except ε α} {ds:List Ds} {u:TS} {E:XS}
theorem EvX.inl {t u:TEX} (h:EvX xc Γ t m d r):EvX xc Γ (orX t u) m d r:=λF0 Hb F H σ own Q E a k=>.inl (h F0 Hb F H σ own Q E a k)
theorem EvX.inr {t u:TEX} (h:EvX xc Γ u m d r):EvX xc Γ (orX t u) m d r:=λF0 Hb F H σ own Q E a k=>.inr (h F0 Hb F H σ own Q E a k)
end
end L2
namespace L2
open PySem PySem.Spec PyProof.Rows
section
variable {P:Program} {w:World} {K:W.Frag} {mg:Str->Option Value} {base:Heap} {x qual:Str} {st:Stmt} {f:Addr} {fd:FuncData} {N ps:List Str} {k:Nat}
end
section
variable {X:Cx} {k:Nat} {f C:Addr} {fd:FuncData} {ps:List Str} {sp:Sp} {x:Str} {p pos:Pos} {e:Expr} {es:List Expr} {t:TA}
end
section
variable {E:XS} {Γ Γx:Ctx} {u t:TS} {o:Oc} {ds:List Ds} {tr:TA} {K:W.Frag} {m:Bool} {ta:TE}
end
end L2
set_option maxHeartbeats 4000000
set_option maxRecDepth 100000
set_option maxHeartbeats 4000000
namespace My
open PySem L2
def top (i:Nat):Stmt:=PySem.Challenge.pw_swapbook_k57_refused_baskets.main.body.getD i (.Pass ⟨0,0,0,0⟩)
abbrev zbl:Stmt:=top 23
abbrev zgn:Stmt:=top 24
abbrev zgD:Stmt:=top 25
abbrev zeL:Stmt:=top 26
abbrev zdo:Stmt:=top 27
abbrev zbb:Stmt:=zfw (top 31) 0
abbrev zdC:Stmt:=top 32
abbrev zaR:Stmt:=top 33
abbrev zaS:Stmt:=top 34
abbrev zjy:Stmt:=top 35
abbrev zdJ:Stmt:=top 37
abbrev zer:Stmt:=top 38
abbrev zdK:Stmt:=top 39
abbrev zdN:Stmt:=top 40
abbrev zev:Stmt:=top 41
abbrev zda:Stmt:=top 42
abbrev zdF:Stmt:=top 43
abbrev zdE:Stmt:=top 44
abbrev zeH:Stmt:=top 45
abbrev zeF:Stmt:=top 46
abbrev zeQ:Stmt:=top 47
abbrev zdL:Stmt:=top 48
abbrev za8:Stmt:=zfw (top 50) 0
abbrev zcJ:Stmt:=top 51
abbrev zgQ:Stmt:=top 53
abbrev zew:Stmt:=top 54
abbrev zgY:Stmt:=top 55
abbrev zes:Stmt:=top 57
abbrev zfG:Stmt:=top 58
abbrev zcc:Stmt:=top 59
abbrev zbX:Stmt:=zfw (top 61) 0
abbrev za9:Stmt:=zfw (top 63) 0
abbrev zdb:Stmt:=top 64
abbrev zdO:Stmt:=top 65
abbrev zca:Stmt:=top 66
abbrev zek:Stmt:=top 67
abbrev zdM:Stmt:=top 68
abbrev zdH:Stmt:=top 70
abbrev zdd:Stmt:=top 72
abbrev zbR:Stmt:=top 73
abbrev zcI:Stmt:=top 74
abbrev zaX:Stmt:=top 75
abbrev zbJ:Stmt:=top 77
abbrev zdc:Stmt:=top 78
abbrev zcF:Stmt:=top 79
abbrev zgv:Stmt:=top 80
abbrev zcS:Stmt:=zfw (top 61) 0
abbrev zcN:Stmt:=zfw (top 61) 0
abbrev lI:List Int->Ds:=λxs=>dL (List.map dI xs)
inductive Xn where
 | BadBasket
 | BadRoad
 deriving DecidableEq,Inhabited
structure Adr where
 no:Unit:=()
 Stairs:Addr
 Book:Addr
 Scale:Addr
 Line:Addr
 Rest:Addr
 xc:Xn->Addr
 k_BadBasket:Addr
 k_BadBaskets:Addr
 k_BadNames:Addr
 k_BadRest:Addr
 k_BadRoad:Addr
 k_BadScale:Addr
 k_BadSwap:Addr
 k_BadWares:Addr
 k_Endless:Addr
 k_NoBook:Addr
 k_NoLine:Addr
 k_NoName:Addr
 k_NoSwap:Addr
 k_NotAlike:Addr
 k_NotKept:Addr
 k_OtherBook:Addr
 k_OtherWares:Addr
 k_SwapError:Addr
 k_TooGreat:Addr
 k_TooMany:Addr
def zbf:Xn->Bool
 | .BadBasket=>true
 | .BadRoad=>false
def zbg:Xn->Bool
 | .BadBasket=>false
 | .BadRoad=>false
def zbN:Xn->Bool
 | .BadBasket=>false
 | .BadRoad=>false
def zb2:Xn->Bool
 | .BadBasket=>false
 | .BadRoad=>false
def zb8:Xn->Bool
 | .BadBasket=>false
 | .BadRoad=>true
def zbM:Xn->Bool
 | .BadBasket=>false
 | .BadRoad=>false
def zcb:Xn->Bool
 | .BadBasket=>false
 | .BadRoad=>false
def zcf:Xn->Bool
 | .BadBasket=>false
 | .BadRoad=>false
def zb6:Xn->Bool
 | .BadBasket=>false
 | .BadRoad=>false
def zcH:Xn->Bool
 | .BadBasket=>false
 | .BadRoad=>false
def zcA:Xn->Bool
 | .BadBasket=>false
 | .BadRoad=>false
def zcx:Xn->Bool
 | .BadBasket=>false
 | .BadRoad=>false
def zcz:Xn->Bool
 | .BadBasket=>false
 | .BadRoad=>false
def zce:Xn->Bool
 | .BadBasket=>false
 | .BadRoad=>false
def zb3:Xn->Bool
 | .BadBasket=>false
 | .BadRoad=>false
def zbu:Xn->Bool
 | .BadBasket=>false
 | .BadRoad=>false
def zbh:Xn->Bool
 | .BadBasket=>false
 | .BadRoad=>false
def zbL:Xn->Bool
 | .BadBasket=>false
 | .BadRoad=>false
def zcG:Xn->Bool
 | .BadBasket=>false
 | .BadRoad=>false
def zbF:Xn->Bool
 | .BadBasket=>true
 | .BadRoad=>true
structure StairsD where
 steps:(List (List Int))
 heads:(List Int)
 roads:(List (List Int))
 deriving Inhabited
def zfv (C:Addr) (b:StairsD):Ds:=dO C [("steps",dL (List.map lI b.steps)),("heads",dL (List.map dI b.heads)),("roads",dL (List.map lI b.roads))]
structure BookD where
 many:Int
 swaps:(List (List Int))
 deriving Inhabited
def zaK (C:Addr) (b:BookD):Ds:=dO C [("many",dI b.many),("swaps",dL (List.map lI b.swaps))]
structure ScaleD where
 weights:(List Int)
 deriving Inhabited
structure LineD where
 weights:(List Int)
 deriving Inhabited
def zqI (C:Addr) (b:LineD):Ds:=dO C [("weights",dL (List.map dI b.weights))]
structure RestD where
 weights:(List Int)
 rest:Int
 deriving Inhabited
def zrb (C:Addr) (b:RestD):Ds:=dO C [("weights",dL (List.map dI b.weights)),("rest",dI b.rest)]
instance:Inhabited (LineD ⊕ RestD):=⟨.inl default⟩
def dSc (A:Adr):LineD ⊕ RestD->Ds
 | .inl l=>zqI A.Line l
 | .inr r=>zrb A.Rest r
structure Txt (K:W.Frag) (mg:Str->Option Value) (A:Adr):Prop where
 ValueError:mg "ValueError"=none
 abs:mg "abs"=none
 any:mg "any"=none
 enumerate:mg "enumerate"=none
 isinstance:mg "isinstance"=none
 len:mg "len"=none
 list:mg "list"=none
 range:mg "range"=none
 reversed:mg "reversed"=none
 sum:mg "sum"=none
 zip:mg "zip"=none
 Stairs:mg "Stairs"=some (.ref A.Stairs)
 Stairs_cl:Cls K A.Stairs
 Stairs_steps:NoAttr K A.Stairs "steps"
 Stairs_heads:NoAttr K A.Stairs "heads"
 Stairs_roads:NoAttr K A.Stairs "roads"
 Book:mg "Book"=some (.ref A.Book)
 Book_cl:Cls K A.Book
 Book_many:NoAttr K A.Book "many"
 Book_swaps:NoAttr K A.Book "swaps"
 Scale:mg "Scale"=some (.ref A.Scale)
 Scale_cl:Cls K A.Scale
 Scale_weights:NoAttr K A.Scale "weights"
 Line:mg "Line"=some (.ref A.Line)
 Line_cl:Cls K A.Line
 Line_weights:NoAttr K A.Line "weights"
 Rest:mg "Rest"=some (.ref A.Rest)
 Rest_cl:Cls K A.Rest
 Rest_weights:NoAttr K A.Rest "weights"
 Rest_rest:NoAttr K A.Rest "rest"
 g_MOST_WARES:∃ t,mg "MOST_WARES"=some (.int 8 t)
 g_MOST_SWAPS:∃ t,mg "MOST_SWAPS"=some (.int 12 t)
 k_BadBasket:mg "BadBasket"=some (.ref A.k_BadBasket)
 k_BadBaskets:mg "BadBaskets"=some (.ref A.k_BadBaskets)
 k_BadNames:mg "BadNames"=some (.ref A.k_BadNames)
 k_BadRest:mg "BadRest"=some (.ref A.k_BadRest)
 k_BadRoad:mg "BadRoad"=some (.ref A.k_BadRoad)
 k_BadScale:mg "BadScale"=some (.ref A.k_BadScale)
 k_BadSwap:mg "BadSwap"=some (.ref A.k_BadSwap)
 k_BadWares:mg "BadWares"=some (.ref A.k_BadWares)
 k_Endless:mg "Endless"=some (.ref A.k_Endless)
 k_NoBook:mg "NoBook"=some (.ref A.k_NoBook)
 k_NoLine:mg "NoLine"=some (.ref A.k_NoLine)
 k_NoName:mg "NoName"=some (.ref A.k_NoName)
 k_NoSwap:mg "NoSwap"=some (.ref A.k_NoSwap)
 k_NotAlike:mg "NotAlike"=some (.ref A.k_NotAlike)
 k_NotKept:mg "NotKept"=some (.ref A.k_NotKept)
 k_OtherBook:mg "OtherBook"=some (.ref A.k_OtherBook)
 k_OtherWares:mg "OtherWares"=some (.ref A.k_OtherWares)
 k_SwapError:mg "SwapError"=some (.ref A.k_SwapError)
 k_TooGreat:mg "TooGreat"=some (.ref A.k_TooGreat)
 k_TooMany:mg "TooMany"=some (.ref A.k_TooMany)
 xm_BadBasket:mg "BadBasket"=some (.ref (A.xc .BadBasket))
 xi_BadBasket:W.excIn K (A.xc .BadBasket) [.type "ValueError",.type "Exception",.type "BaseException",.type "object"] "ValueError.__new__"=true
 xcl_BadBasket:XCls K (A.xc .BadBasket)
 exm_BadBasket:W.exmOne K (.ref (A.xc .BadBasket)) (.ref A.k_SwapError)=some true
 xm_BadRoad:mg "BadRoad"=some (.ref (A.xc .BadRoad))
 xi_BadRoad:W.excIn K (A.xc .BadRoad) [.type "ValueError",.type "Exception",.type "BaseException",.type "object"] "ValueError.__new__"=true
 xcl_BadRoad:XCls K (A.xc .BadRoad)
 exm_BadRoad:W.exmOne K (.ref (A.xc .BadRoad)) (.ref A.k_SwapError)=some true
 i0_BadBasket:W.kitOne K (.type "NoneType") (.ref A.k_BadBasket)=some false
 i_BadBasket_BadBasket:W.kitOne K (.ref (A.xc .BadBasket)) (.ref A.k_BadBasket)=some (zbf .BadBasket)
 i_BadRoad_BadBasket:W.kitOne K (.ref (A.xc .BadRoad)) (.ref A.k_BadBasket)=some (zbf .BadRoad)
 i0_BadBaskets:W.kitOne K (.type "NoneType") (.ref A.k_BadBaskets)=some false
 i_BadBasket_BadBaskets:W.kitOne K (.ref (A.xc .BadBasket)) (.ref A.k_BadBaskets)=some (zbg .BadBasket)
 i_BadRoad_BadBaskets:W.kitOne K (.ref (A.xc .BadRoad)) (.ref A.k_BadBaskets)=some (zbg .BadRoad)
 i0_BadNames:W.kitOne K (.type "NoneType") (.ref A.k_BadNames)=some false
 i_BadBasket_BadNames:W.kitOne K (.ref (A.xc .BadBasket)) (.ref A.k_BadNames)=some (zbN .BadBasket)
 i_BadRoad_BadNames:W.kitOne K (.ref (A.xc .BadRoad)) (.ref A.k_BadNames)=some (zbN .BadRoad)
 i0_BadRest:W.kitOne K (.type "NoneType") (.ref A.k_BadRest)=some false
 i_BadBasket_BadRest:W.kitOne K (.ref (A.xc .BadBasket)) (.ref A.k_BadRest)=some (zb2 .BadBasket)
 i_BadRoad_BadRest:W.kitOne K (.ref (A.xc .BadRoad)) (.ref A.k_BadRest)=some (zb2 .BadRoad)
 i0_BadRoad:W.kitOne K (.type "NoneType") (.ref A.k_BadRoad)=some false
 i_BadBasket_BadRoad:W.kitOne K (.ref (A.xc .BadBasket)) (.ref A.k_BadRoad)=some (zb8 .BadBasket)
 i_BadRoad_BadRoad:W.kitOne K (.ref (A.xc .BadRoad)) (.ref A.k_BadRoad)=some (zb8 .BadRoad)
 i0_BadScale:W.kitOne K (.type "NoneType") (.ref A.k_BadScale)=some false
 i_BadBasket_BadScale:W.kitOne K (.ref (A.xc .BadBasket)) (.ref A.k_BadScale)=some (zbM .BadBasket)
 i_BadRoad_BadScale:W.kitOne K (.ref (A.xc .BadRoad)) (.ref A.k_BadScale)=some (zbM .BadRoad)
 i0_BadSwap:W.kitOne K (.type "NoneType") (.ref A.k_BadSwap)=some false
 i_BadBasket_BadSwap:W.kitOne K (.ref (A.xc .BadBasket)) (.ref A.k_BadSwap)=some (zcb .BadBasket)
 i_BadRoad_BadSwap:W.kitOne K (.ref (A.xc .BadRoad)) (.ref A.k_BadSwap)=some (zcb .BadRoad)
 i0_BadWares:W.kitOne K (.type "NoneType") (.ref A.k_BadWares)=some false
 i_BadBasket_BadWares:W.kitOne K (.ref (A.xc .BadBasket)) (.ref A.k_BadWares)=some (zcf .BadBasket)
 i_BadRoad_BadWares:W.kitOne K (.ref (A.xc .BadRoad)) (.ref A.k_BadWares)=some (zcf .BadRoad)
 i0_Endless:W.kitOne K (.type "NoneType") (.ref A.k_Endless)=some false
 i_BadBasket_Endless:W.kitOne K (.ref (A.xc .BadBasket)) (.ref A.k_Endless)=some (zb6 .BadBasket)
 i_BadRoad_Endless:W.kitOne K (.ref (A.xc .BadRoad)) (.ref A.k_Endless)=some (zb6 .BadRoad)
 i0_NoBook:W.kitOne K (.type "NoneType") (.ref A.k_NoBook)=some false
 i_BadBasket_NoBook:W.kitOne K (.ref (A.xc .BadBasket)) (.ref A.k_NoBook)=some (zcH .BadBasket)
 i_BadRoad_NoBook:W.kitOne K (.ref (A.xc .BadRoad)) (.ref A.k_NoBook)=some (zcH .BadRoad)
 i0_NoLine:W.kitOne K (.type "NoneType") (.ref A.k_NoLine)=some false
 i_BadBasket_NoLine:W.kitOne K (.ref (A.xc .BadBasket)) (.ref A.k_NoLine)=some (zcA .BadBasket)
 i_BadRoad_NoLine:W.kitOne K (.ref (A.xc .BadRoad)) (.ref A.k_NoLine)=some (zcA .BadRoad)
 i0_NoName:W.kitOne K (.type "NoneType") (.ref A.k_NoName)=some false
 i_BadBasket_NoName:W.kitOne K (.ref (A.xc .BadBasket)) (.ref A.k_NoName)=some (zcx .BadBasket)
 i_BadRoad_NoName:W.kitOne K (.ref (A.xc .BadRoad)) (.ref A.k_NoName)=some (zcx .BadRoad)
 i0_NoSwap:W.kitOne K (.type "NoneType") (.ref A.k_NoSwap)=some false
 i_BadBasket_NoSwap:W.kitOne K (.ref (A.xc .BadBasket)) (.ref A.k_NoSwap)=some (zcz .BadBasket)
 i_BadRoad_NoSwap:W.kitOne K (.ref (A.xc .BadRoad)) (.ref A.k_NoSwap)=some (zcz .BadRoad)
 i0_NotAlike:W.kitOne K (.type "NoneType") (.ref A.k_NotAlike)=some false
 i_BadBasket_NotAlike:W.kitOne K (.ref (A.xc .BadBasket)) (.ref A.k_NotAlike)=some (zce .BadBasket)
 i_BadRoad_NotAlike:W.kitOne K (.ref (A.xc .BadRoad)) (.ref A.k_NotAlike)=some (zce .BadRoad)
 i0_NotKept:W.kitOne K (.type "NoneType") (.ref A.k_NotKept)=some false
 i_BadBasket_NotKept:W.kitOne K (.ref (A.xc .BadBasket)) (.ref A.k_NotKept)=some (zb3 .BadBasket)
 i_BadRoad_NotKept:W.kitOne K (.ref (A.xc .BadRoad)) (.ref A.k_NotKept)=some (zb3 .BadRoad)
 i0_OtherBook:W.kitOne K (.type "NoneType") (.ref A.k_OtherBook)=some false
 i_BadBasket_OtherBook:W.kitOne K (.ref (A.xc .BadBasket)) (.ref A.k_OtherBook)=some (zbu .BadBasket)
 i_BadRoad_OtherBook:W.kitOne K (.ref (A.xc .BadRoad)) (.ref A.k_OtherBook)=some (zbu .BadRoad)
 i0_OtherWares:W.kitOne K (.type "NoneType") (.ref A.k_OtherWares)=some false
 i_BadBasket_OtherWares:W.kitOne K (.ref (A.xc .BadBasket)) (.ref A.k_OtherWares)=some (zbh .BadBasket)
 i_BadRoad_OtherWares:W.kitOne K (.ref (A.xc .BadRoad)) (.ref A.k_OtherWares)=some (zbh .BadRoad)
 i0_TooGreat:W.kitOne K (.type "NoneType") (.ref A.k_TooGreat)=some false
 i_BadBasket_TooGreat:W.kitOne K (.ref (A.xc .BadBasket)) (.ref A.k_TooGreat)=some (zbL .BadBasket)
 i_BadRoad_TooGreat:W.kitOne K (.ref (A.xc .BadRoad)) (.ref A.k_TooGreat)=some (zbL .BadRoad)
 i0_TooMany:W.kitOne K (.type "NoneType") (.ref A.k_TooMany)=some false
 i_BadBasket_TooMany:W.kitOne K (.ref (A.xc .BadBasket)) (.ref A.k_TooMany)=some (zcG .BadBasket)
 i_BadRoad_TooMany:W.kitOne K (.ref (A.xc .BadRoad)) (.ref A.k_TooMany)=some (zcG .BadRoad)
 i0_ValueError:W.kitOne K (.type "NoneType") (.type "ValueError")=some false
 i_BadBasket_ValueError:W.kitOne K (.ref (A.xc .BadBasket)) (.type "ValueError")=some (zbF .BadBasket)
 i_BadRoad_ValueError:W.kitOne K (.ref (A.xc .BadRoad)) (.type "ValueError")=some (zbF .BadRoad)
theorem Txt.hx_BadBasket {K:W.Frag} {mg:Str->Option Value} {A:Adr} (T:Txt K mg A):∀ e,XCls K (A.xc e)∧W.kitOne K (.ref (A.xc e)) (.ref A.k_BadBasket)=some (zbf e)
 | .BadBasket=>⟨T.xcl_BadBasket,T.i_BadBasket_BadBasket⟩
 | .BadRoad=>⟨T.xcl_BadRoad,T.i_BadRoad_BadBasket⟩
theorem Txt.hx_BadBaskets {K:W.Frag} {mg:Str->Option Value} {A:Adr} (T:Txt K mg A):∀ e,XCls K (A.xc e)∧W.kitOne K (.ref (A.xc e)) (.ref A.k_BadBaskets)=some (zbg e)
 | .BadBasket=>⟨T.xcl_BadBasket,T.i_BadBasket_BadBaskets⟩
 | .BadRoad=>⟨T.xcl_BadRoad,T.i_BadRoad_BadBaskets⟩
theorem Txt.hx_BadNames {K:W.Frag} {mg:Str->Option Value} {A:Adr} (T:Txt K mg A):∀ e,XCls K (A.xc e)∧W.kitOne K (.ref (A.xc e)) (.ref A.k_BadNames)=some (zbN e)
 | .BadBasket=>⟨T.xcl_BadBasket,T.i_BadBasket_BadNames⟩
 | .BadRoad=>⟨T.xcl_BadRoad,T.i_BadRoad_BadNames⟩
theorem Txt.hx_BadRest {K:W.Frag} {mg:Str->Option Value} {A:Adr} (T:Txt K mg A):∀ e,XCls K (A.xc e)∧W.kitOne K (.ref (A.xc e)) (.ref A.k_BadRest)=some (zb2 e)
 | .BadBasket=>⟨T.xcl_BadBasket,T.i_BadBasket_BadRest⟩
 | .BadRoad=>⟨T.xcl_BadRoad,T.i_BadRoad_BadRest⟩
theorem Txt.hx_BadRoad {K:W.Frag} {mg:Str->Option Value} {A:Adr} (T:Txt K mg A):∀ e,XCls K (A.xc e)∧W.kitOne K (.ref (A.xc e)) (.ref A.k_BadRoad)=some (zb8 e)
 | .BadBasket=>⟨T.xcl_BadBasket,T.i_BadBasket_BadRoad⟩
 | .BadRoad=>⟨T.xcl_BadRoad,T.i_BadRoad_BadRoad⟩
theorem Txt.hx_BadScale {K:W.Frag} {mg:Str->Option Value} {A:Adr} (T:Txt K mg A):∀ e,XCls K (A.xc e)∧W.kitOne K (.ref (A.xc e)) (.ref A.k_BadScale)=some (zbM e)
 | .BadBasket=>⟨T.xcl_BadBasket,T.i_BadBasket_BadScale⟩
 | .BadRoad=>⟨T.xcl_BadRoad,T.i_BadRoad_BadScale⟩
theorem Txt.hx_BadSwap {K:W.Frag} {mg:Str->Option Value} {A:Adr} (T:Txt K mg A):∀ e,XCls K (A.xc e)∧W.kitOne K (.ref (A.xc e)) (.ref A.k_BadSwap)=some (zcb e)
 | .BadBasket=>⟨T.xcl_BadBasket,T.i_BadBasket_BadSwap⟩
 | .BadRoad=>⟨T.xcl_BadRoad,T.i_BadRoad_BadSwap⟩
theorem Txt.hx_BadWares {K:W.Frag} {mg:Str->Option Value} {A:Adr} (T:Txt K mg A):∀ e,XCls K (A.xc e)∧W.kitOne K (.ref (A.xc e)) (.ref A.k_BadWares)=some (zcf e)
 | .BadBasket=>⟨T.xcl_BadBasket,T.i_BadBasket_BadWares⟩
 | .BadRoad=>⟨T.xcl_BadRoad,T.i_BadRoad_BadWares⟩
theorem Txt.hx_Endless {K:W.Frag} {mg:Str->Option Value} {A:Adr} (T:Txt K mg A):∀ e,XCls K (A.xc e)∧W.kitOne K (.ref (A.xc e)) (.ref A.k_Endless)=some (zb6 e)
 | .BadBasket=>⟨T.xcl_BadBasket,T.i_BadBasket_Endless⟩
 | .BadRoad=>⟨T.xcl_BadRoad,T.i_BadRoad_Endless⟩
theorem Txt.hx_NoBook {K:W.Frag} {mg:Str->Option Value} {A:Adr} (T:Txt K mg A):∀ e,XCls K (A.xc e)∧W.kitOne K (.ref (A.xc e)) (.ref A.k_NoBook)=some (zcH e)
 | .BadBasket=>⟨T.xcl_BadBasket,T.i_BadBasket_NoBook⟩
 | .BadRoad=>⟨T.xcl_BadRoad,T.i_BadRoad_NoBook⟩
theorem Txt.hx_NoLine {K:W.Frag} {mg:Str->Option Value} {A:Adr} (T:Txt K mg A):∀ e,XCls K (A.xc e)∧W.kitOne K (.ref (A.xc e)) (.ref A.k_NoLine)=some (zcA e)
 | .BadBasket=>⟨T.xcl_BadBasket,T.i_BadBasket_NoLine⟩
 | .BadRoad=>⟨T.xcl_BadRoad,T.i_BadRoad_NoLine⟩
theorem Txt.hx_NoName {K:W.Frag} {mg:Str->Option Value} {A:Adr} (T:Txt K mg A):∀ e,XCls K (A.xc e)∧W.kitOne K (.ref (A.xc e)) (.ref A.k_NoName)=some (zcx e)
 | .BadBasket=>⟨T.xcl_BadBasket,T.i_BadBasket_NoName⟩
 | .BadRoad=>⟨T.xcl_BadRoad,T.i_BadRoad_NoName⟩
theorem Txt.hx_NoSwap {K:W.Frag} {mg:Str->Option Value} {A:Adr} (T:Txt K mg A):∀ e,XCls K (A.xc e)∧W.kitOne K (.ref (A.xc e)) (.ref A.k_NoSwap)=some (zcz e)
 | .BadBasket=>⟨T.xcl_BadBasket,T.i_BadBasket_NoSwap⟩
 | .BadRoad=>⟨T.xcl_BadRoad,T.i_BadRoad_NoSwap⟩
theorem Txt.hx_NotAlike {K:W.Frag} {mg:Str->Option Value} {A:Adr} (T:Txt K mg A):∀ e,XCls K (A.xc e)∧W.kitOne K (.ref (A.xc e)) (.ref A.k_NotAlike)=some (zce e)
 | .BadBasket=>⟨T.xcl_BadBasket,T.i_BadBasket_NotAlike⟩
 | .BadRoad=>⟨T.xcl_BadRoad,T.i_BadRoad_NotAlike⟩
theorem Txt.hx_NotKept {K:W.Frag} {mg:Str->Option Value} {A:Adr} (T:Txt K mg A):∀ e,XCls K (A.xc e)∧W.kitOne K (.ref (A.xc e)) (.ref A.k_NotKept)=some (zb3 e)
 | .BadBasket=>⟨T.xcl_BadBasket,T.i_BadBasket_NotKept⟩
 | .BadRoad=>⟨T.xcl_BadRoad,T.i_BadRoad_NotKept⟩
theorem Txt.hx_OtherBook {K:W.Frag} {mg:Str->Option Value} {A:Adr} (T:Txt K mg A):∀ e,XCls K (A.xc e)∧W.kitOne K (.ref (A.xc e)) (.ref A.k_OtherBook)=some (zbu e)
 | .BadBasket=>⟨T.xcl_BadBasket,T.i_BadBasket_OtherBook⟩
 | .BadRoad=>⟨T.xcl_BadRoad,T.i_BadRoad_OtherBook⟩
theorem Txt.hx_OtherWares {K:W.Frag} {mg:Str->Option Value} {A:Adr} (T:Txt K mg A):∀ e,XCls K (A.xc e)∧W.kitOne K (.ref (A.xc e)) (.ref A.k_OtherWares)=some (zbh e)
 | .BadBasket=>⟨T.xcl_BadBasket,T.i_BadBasket_OtherWares⟩
 | .BadRoad=>⟨T.xcl_BadRoad,T.i_BadRoad_OtherWares⟩
theorem Txt.hx_TooGreat {K:W.Frag} {mg:Str->Option Value} {A:Adr} (T:Txt K mg A):∀ e,XCls K (A.xc e)∧W.kitOne K (.ref (A.xc e)) (.ref A.k_TooGreat)=some (zbL e)
 | .BadBasket=>⟨T.xcl_BadBasket,T.i_BadBasket_TooGreat⟩
 | .BadRoad=>⟨T.xcl_BadRoad,T.i_BadRoad_TooGreat⟩
theorem Txt.hx_TooMany {K:W.Frag} {mg:Str->Option Value} {A:Adr} (T:Txt K mg A):∀ e,XCls K (A.xc e)∧W.kitOne K (.ref (A.xc e)) (.ref A.k_TooMany)=some (zcG e)
 | .BadBasket=>⟨T.xcl_BadBasket,T.i_BadBasket_TooMany⟩
 | .BadRoad=>⟨T.xcl_BadRoad,T.i_BadRoad_TooMany⟩
theorem Txt.hx_ValueError {K:W.Frag} {mg:Str->Option Value} {A:Adr} (T:Txt K mg A):∀ e,XCls K (A.xc e)∧W.kitOne K (.ref (A.xc e)) (.type "ValueError")=some (zbF e)
 | .BadBasket=>⟨T.xcl_BadBasket,T.i_BadBasket_ValueError⟩
 | .BadRoad=>⟨T.xcl_BadRoad,T.i_BadRoad_ValueError⟩
section
variable {P:Program} {w:World} {K:W.Frag} {mg:Str->Option Value} {base:Heap} {f:Addr} {fd:FuncData} {A:Adr}
def m_refuse_unlike (P0:(List Int)) (P1:(List Int)):Unit:=()
def za7 (P0:(List Int)) (P1:(List Int)):Prop:=P0.length=P1.length
def zbC (K:W.Frag) (A:Adr):Sp:=Spv (ι:=(List Int)×(List Int)) (λx=>[dQ K (List.map dI x.1),dQ K (List.map dI x.2)]) (λx=>za7 x.1 x.2) (λx=>.va true (dN))
theorem zfT:FnScope ["one","other"] ["one","other"] (zad zbl):=⟨rfl,rfl,rfl,by decide +kernel,rfl,by decide +kernel,by decide +kernel⟩
theorem zfS (F:Fun K "refuse_unlike" "refuse_unlike" zbl f fd) (T:Txt K mg A) :FnOk P w K mg base (CXE P w) 1 f fd ["one","other"] (zbC K A):=by
 refine F.okV zfT (λ_=>rfl) (λcdv Ar outer s H E x hr hp=>?_)
 obtain ⟨P0,P1⟩:=x
 have hu:=hr.units
 replace hp:za7 P0 P1:=hp
 unfold za7 at hp
 refine ⟨_,(zac (zbW (zat zg6 (pe_callB (zaA (K:=K) rfl) rfl T.len PySem.boot_len (pa_cons (pv 0) pa_nil)) (pe_callB (zaA (K:=K) rfl) rfl T.len PySem.boot_len (pa_cons (pv 1) pa_nil)) (zaD _))
 (zac zeD zaf)
 zaf)
 zaf),.inr ⟨_,([.va false (dQ K (List.map dI P0)),.va false (dQ K (List.map dI P1))]:L2.Ctx),rfl,?_⟩⟩
 show L2.Run _ ([.va false (dQ K (List.map dI P0)),.va false (dQ K (List.map dI P1))]:L2.Ctx) _ _
 exact (zbK (EvT.conv (zam (zeY (x:=((P0.length:Nat):Int)) (y:=((P1.length:Nat):Int)) (zbr (f:=dI) (xs:=P0) (zab (i:=0) rfl)) (zbr (f:=dI) (xs:=P1) (zab (i:=1) rfl)))) (by ((try simp only [decide_eq_true_eq,decide_eq_false_iff_not,Bool.not_eq_true',Bool.not_eq_false',Bool.and_eq_true,Bool.or_eq_false_iff,Bool.or_eq_true,Bool.and_eq_false_iff,Bool.cond_eq_ite] at *)<;>omega))) (zah
 (zal (Wk.refl _))))
def m_plus (P0:(List Int)) (P1:(List Int)):(List Int) :=
 (List.map (λ(x2:(Int×Int))=>(x2.1+x2.2)) (List.zip P0 P1))
def zey (P0:(List Int)) (P1:(List Int)):Prop:=P0.length=P1.length∧P0.length≤1000
def zg9 (K:W.Frag) (A:Adr):Sp:=Spv (ι:=(List Int)×(List Int)) (λx=>[dQ K (List.map dI x.1),dQ K (List.map dI x.2)]) (λx=>zey x.1 x.2) (λx=>.ow true (List.map dI (m_plus x.1 x.2)))
theorem zos:FnScope ["one","other"] ["one","other"] (zad zgn):=⟨rfl,rfl,rfl,by decide +kernel,rfl,by decide +kernel,by decide +kernel⟩
theorem znx (F:Fun K "plus" "plus" zgn f fd) (T:Txt K mg A) (G_refuse_unlike:Callee P w K mg base (CXE P w) 1 "refuse_unlike" ["one","other"] (zbC K A)):FnOk P w K mg base (CXE P w) 2 f fd ["one","other"] (zg9 K A):=by
 refine F.okV zos (λ_=>rfl) (λcdv Ar outer s H E x hr hp=>?_)
 obtain ⟨P0,P1⟩:=x
 have hu:=hr.units
 replace hp:zey P0 P1:=hp
 unfold zey at hp
 refine ⟨_,(zac (zcY (zaB G_refuse_unlike (hr.mono (by decide)) rfl zaz (pa_cons (pv 0) (pa_cons (pv 1) pa_nil))))
 (zac (zaG (zb9 rfl (.of (osc:=(zad zgn)) (N:=["one","other"]) (own:=["a","b"]) (fvn:=[]) (fv:=[]) rfl rfl (by decide +kernel)) (zeI (K:=K) rfl rfl T.zip (pa_cons (pv 0) (pa_cons (pv 1) pa_nil))) (λ_ _ _ _ _=>⟨(zcg (K:=K) (n:=2) rfl rfl (zaQ (pg_name (i:=0) (show (["a","b"]:List Str).Nodup by decide +kernel) rfl (Or.inl rfl) (Or.inr rfl)) (zaQ (pg_name (i:=1) (show (["a","b"]:List Str).Nodup by decide +kernel) rfl (Or.inl rfl) (Or.inr rfl)) zdn))),zbm,(zau zdh (pv 0) (pv 1))⟩)))
 zaf)),.inl ?_⟩
 show L2.Run _ ([.va false (dQ K (List.map dI P0)),.va false (dQ K (List.map dI P1))]:L2.Ctx) _ ((λr=>Oc.rl true (List.map dI r)) (m_plus P0 P1))
 unfold m_plus
 exact (zf1 (m:=true) (Ev.any (m:=true) (zao (x:=(P0,P1)) (zaa (zab (i:=0) rfl) (zaa (zab (i:=1) rfl) zae)) rfl (by show za7 P0 P1;exact hp.1) rfl))
 (zdG (zhd (EvO.conv (zcd (g:=(λ(x2:(Int×Int))=>dI (x2.1+x2.2))) (zgT (m:=false) dI dI (xs:=P0) (ys:=P1) (zab (i:=0) rfl) (zab (i:=1) rfl)) (by exact zaj (by rw [List.length_zip];omega)) ⟨by decide,by decide⟩ (λi3 x2 hx4=>have qhx4:=zcW hx4;(zaL (x:=x2.1) (y:=x2.2) (Ev.any (m:=false) (zab (i:=0) rfl)) (Ev.any (m:=false) (zab (i:=1) rfl))))) (by first | (rw [List.map_map];rfl) | (simp only [cond_true,cond_false];rw [List.map_map];rfl))))))
def m_less (P0:(List Int)) (P1:(List Int)):(List Int) :=
 (List.map (λ(x5:(Int×Int))=>(x5.1-x5.2)) (List.zip P0 P1))
def zci (P0:(List Int)) (P1:(List Int)):Prop:=P0.length=P1.length∧P0.length≤1000
def zeN (K:W.Frag) (A:Adr):Sp:=Spv (ι:=(List Int)×(List Int)) (λx=>[dQ K (List.map dI x.1),dQ K (List.map dI x.2)]) (λx=>zci x.1 x.2) (λx=>.ow true (List.map dI (m_less x.1 x.2)))
theorem zou:FnScope ["one","other"] ["one","other"] (zad zgD):=⟨rfl,rfl,rfl,by decide +kernel,rfl,by decide +kernel,by decide +kernel⟩
theorem znN (F:Fun K "less" "less" zgD f fd) (T:Txt K mg A) (G_refuse_unlike:Callee P w K mg base (CXE P w) 1 "refuse_unlike" ["one","other"] (zbC K A)):FnOk P w K mg base (CXE P w) 2 f fd ["one","other"] (zeN K A):=by
 refine F.okV zou (λ_=>rfl) (λcdv Ar outer s H E x hr hp=>?_)
 obtain ⟨P0,P1⟩:=x
 have hu:=hr.units
 replace hp:zci P0 P1:=hp
 unfold zci at hp
 refine ⟨_,(zac (zcY (zaB G_refuse_unlike (hr.mono (by decide)) rfl zaz (pa_cons (pv 0) (pa_cons (pv 1) pa_nil))))
 (zac (zaG (zb9 rfl (.of (osc:=(zad zgD)) (N:=["one","other"]) (own:=["a","b"]) (fvn:=[]) (fv:=[]) rfl rfl (by decide +kernel)) (zeI (K:=K) rfl rfl T.zip (pa_cons (pv 0) (pa_cons (pv 1) pa_nil))) (λ_ _ _ _ _=>⟨(zcg (K:=K) (n:=2) rfl rfl (zaQ (pg_name (i:=0) (show (["a","b"]:List Str).Nodup by decide +kernel) rfl (Or.inl rfl) (Or.inr rfl)) (zaQ (pg_name (i:=1) (show (["a","b"]:List Str).Nodup by decide +kernel) rfl (Or.inl rfl) (Or.inr rfl)) zdn))),zbm,(zau zfM (pv 0) (pv 1))⟩)))
 zaf)),.inl ?_⟩
 show L2.Run _ ([.va false (dQ K (List.map dI P0)),.va false (dQ K (List.map dI P1))]:L2.Ctx) _ ((λr=>Oc.rl true (List.map dI r)) (m_less P0 P1))
 unfold m_less
 exact (zf1 (m:=true) (Ev.any (m:=true) (zao (x:=(P0,P1)) (zaa (zab (i:=0) rfl) (zaa (zab (i:=1) rfl) zae)) rfl (by show za7 P0 P1;exact hp.1) rfl))
 (zdG (zhd (EvO.conv (zcd (g:=(λ(x5:(Int×Int))=>dI (x5.1-x5.2))) (zgT (m:=false) dI dI (xs:=P0) (ys:=P1) (zab (i:=0) rfl) (zab (i:=1) rfl)) (by exact zaj (by rw [List.length_zip];omega)) ⟨by decide,by decide⟩ (λi6 x5 hx7=>have qhx7:=zcW hx7;(zaL (x:=x5.1) (y:=x5.2) (Ev.any (m:=false) (zab (i:=0) rfl)) (Ev.any (m:=false) (zab (i:=1) rfl))))) (by first | (rw [List.map_map];rfl) | (simp only [cond_true,cond_false];rw [List.map_map];rfl))))))
def m_times (P0:(List Int)) (P1:Int):(List Int) :=
 (List.map (λ(x8:Int)=>(x8*P1)) P0)
def zaY (P0:(List Int)) (P1:Int):Prop:=P0.length≤1000∧∀ x∈P0,zcT x P1
def zc5 (K:W.Frag) (A:Adr):Sp:=Spv (ι:=(List Int)×Int) (λx=>[dQ K (List.map dI x.1),dI x.2]) (λx=>zaY x.1 x.2) (λx=>.ow true (List.map dI (m_times x.1 x.2)))
theorem zma:FnScope ["some","many"] ["some","many"] (zad zeL):=⟨rfl,rfl,rfl,by decide +kernel,rfl,by decide +kernel,by decide +kernel⟩
theorem zl2 (F:Fun K "times" "times" zeL f fd) (T:Txt K mg A) :FnOk P w K mg base (CXE P w) 1 f fd ["some","many"] (zc5 K A):=by
 refine F.okV zma (λ_=>rfl) (λcdv Ar outer s H E x hr hp=>?_)
 obtain ⟨P0,P1⟩:=x
 have hu:=hr.units
 replace hp:zaY P0 P1:=hp
 unfold zaY at hp
 refine ⟨_,(zac (zaG (zb9 rfl (.of (osc:=(zad zeL)) (N:=["some","many"]) (own:=["number"]) (fvn:=["many"]) (fv:=[1]) rfl rfl (by decide +kernel)) (zaN (K:=K) rfl (pv 0)) (λ_ _ _ _ _=>⟨(pg_name (i:=0) (show (["number","many"]:List Str).Nodup by decide +kernel) rfl (Or.inl rfl) (Or.inr rfl)),zbm,(zau zbG (pv 0) (pv 1))⟩)))
 zaf),.inl ?_⟩
 show L2.Run _ ([.va false (dQ K (List.map dI P0)),.va false (dI P1)]:L2.Ctx) _ ((λr=>Oc.rl true (List.map dI r)) (m_times P0 P1))
 unfold m_times
 exact (zdG (zhd (EvO.conv (zcd (g:=(λ(x8:Int)=>dI (x8*P1))) (zbx (m:=false) dI (xs:=P0) (zab (i:=0) rfl)) (by exact zaj (by omega)) ⟨by decide,by decide⟩ (λi9 x8 hx10=>have v10:=List.mem_of_getElem? hx10;(zax (x:=x8) (y:=P1) (Ev.any (m:=false) (zab (i:=0) rfl)) (Ev.any (m:=false) (zab (i:=1) rfl)) (by exact hp.2 _ (List.mem_of_getElem? (by assumption)))))) (by first | (rw [List.map_map];rfl) | (simp only [cond_true,cond_false];rw [List.map_map];rfl)))))
theorem zmv {α:Type} {xs:List α} {i:Nat} {p:Int×α} (h:(zc1 xs)[i]?=some p):p.2∈xs:=List.mem_of_getElem? (zcP h).2.2
def m_weighed (P0:(List Int)) (P1:(List Int)):Int :=
 (List.map (λ(x11:(Int×Int))=>(x11.1*x11.2)) (List.zip P0 P1)).sum
def zdj (P0:(List Int)) (P1:(List Int)):Prop:=P0.length=P1.length∧P0.length≤1000∧∀ p∈List.zip P0 P1,zcT p.1 p.2
def zfr (K:W.Frag) (A:Adr):Sp:=Spv (ι:=(List Int)×(List Int)) (λx=>[dQ K (List.map dI x.1),dQ K (List.map dI x.2)]) (λx=>zdj x.1 x.2) (λx=>.va true (dI (m_weighed x.1 x.2)))
theorem zjJ:FnScope ["one","other"] ["one","other"] (zad zdo):=⟨rfl,rfl,rfl,by decide +kernel,rfl,by decide +kernel,by decide +kernel⟩
theorem zjC (F:Fun K "weighed" "weighed" zdo f fd) (T:Txt K mg A) (G_refuse_unlike:Callee P w K mg base (CXE P w) 1 "refuse_unlike" ["one","other"] (zbC K A)):FnOk P w K mg base (CXE P w) 2 f fd ["one","other"] (zfr K A):=by
 refine F.okV zjJ (λ_=>rfl) (λcdv Ar outer s H E x hr hp=>?_)
 obtain ⟨P0,P1⟩:=x
 have hu:=hr.units
 replace hp:zdj P0 P1:=hp
 unfold zdj at hp
 refine ⟨_,(zac (zcY (zaB G_refuse_unlike (hr.mono (by decide)) rfl zaz (pa_cons (pv 0) (pa_cons (pv 1) pa_nil))))
 (zac (zaG (pe_callB (zjt (K:=K) rfl rfl) rfl T.sum PyProof.Rows.boot_sum (pa_cons (zb9 rfl (.of (osc:=(zad zdo)) (N:=["one","other"]) (own:=["a","b"]) (fvn:=[]) (fv:=[]) rfl rfl (by decide +kernel)) (zeI (K:=K) rfl rfl T.zip (pa_cons (pv 0) (pa_cons (pv 1) pa_nil))) (λ_ _ _ _ _=>⟨(zcg (K:=K) (n:=2) rfl rfl (zaQ (pg_name (i:=0) (show (["a","b"]:List Str).Nodup by decide +kernel) rfl (Or.inl rfl) (Or.inr rfl)) (zaQ (pg_name (i:=1) (show (["a","b"]:List Str).Nodup by decide +kernel) rfl (Or.inl rfl) (Or.inr rfl)) zdn))),zbm,(zau zbG (pv 0) (pv 1))⟩)) pa_nil)))
 zaf)),.inl ?_⟩
 show L2.Run _ ([.va false (dQ K (List.map dI P0)),.va false (dQ K (List.map dI P1))]:L2.Ctx) _ ((λ(r:Int)=>Oc.rt true (dI r)) (m_weighed P0 P1))
 unfold m_weighed
 exact (zf1 (m:=true) (Ev.any (m:=true) (zao (x:=(P0,P1)) (zaa (zab (i:=0) rfl) (zaa (zab (i:=1) rfl) zae)) rfl (by show za7 P0 P1;exact hp.1) rfl))
 (zai (zaw (zoR (xs:=(List.map (λ(x11:(Int×Int))=>(x11.1*x11.2)) (List.zip P0 P1))) (Ev.weak (K:=K) (EvO.ev (EvO.conv (zcd (g:=(λ(x11:(Int×Int))=>dI (x11.1*x11.2))) (zgT (m:=false) dI dI (xs:=P0) (ys:=P1) (zab (i:=0) rfl) (zab (i:=1) rfl)) (by exact zaj (by rw [List.length_zip];omega)) ⟨by decide,by decide⟩ (λi12 x11 hx13=>have v13:=zcW hx13;(zax (x:=x11.1) (y:=x11.2) (Ev.any (m:=false) (zab (i:=0) rfl)) (Ev.any (m:=false) (zab (i:=1) rfl)) (by exact hp.2.2 _ (List.mem_of_getElem? (by assumption)))))) (by first | (rw [List.map_map];rfl) | (simp only [cond_true,cond_false];rw [List.map_map];rfl)))))))))
theorem zgB {xs:List Int} {c:Int}:(m_times xs c).length=xs.length:=by simp [m_times]
theorem zjK {xs ys:List Int}:(m_plus xs ys).length=min xs.length ys.length:=by simp [m_plus]
theorem zlJ {sw:List (List Int)} {road:List Int} {n:Int} {i:Nat} {p:List Int×Int} (h1:∀ s∈sw,(s.length:Int)=n) (h2:n≤1000) (h3:∀ p∈List.zip sw road,∀ x∈p.1,zcT x p.2) (hx:(List.zip sw road)[i]?=some p):p.1.length≤1000∧∀ x∈p.1,zcT x p.2:=by
 have q:=h1 _ (List.mem_of_getElem? (zcW hx).1)
 exact ⟨by omega,h3 _ (List.mem_of_getElem? hx)⟩
theorem zlN {sw:List (List Int)} {road s:List Int} {n:Int} {i:Nat} {p:List Int×Int} (h1:∀ s∈sw,(s.length:Int)=n) (h2:n≤1000) (hx:(List.zip sw road)[i]?=some p) (hs:(s.length:Int)=n):s.length=(m_times p.1 p.2).length∧s.length≤1000:=by
 have q:=h1 _ (List.mem_of_getElem? (zcW hx).1)
 rw [zgB]
 omega
theorem zox {sw:List (List Int)} {road s:List Int} {n:Int} {i:Nat} {p:List Int×Int} (h1:∀ s∈sw,(s.length:Int)=n) (hx:(List.zip sw road)[i]?=some p) (hs:(s.length:Int)=n):((m_plus s (m_times p.1 p.2)).length:Int)=n:=by
 have q:=h1 _ (List.mem_of_getElem? (zcW hx).1)
 rw [zjK,zgB]
 omega
theorem zjN (w t:List Int):m_weighed w t=Lat.dv w (Lat.vec t):=Lat.zmG w t
def m_head_of (P0:(List Int)):Int :=
 (LetR (loopR (λ(s14:Unit) (x15:(Int×Int))=>(((bif (!decide (x15.2=(0:Int))) then (Sum.inr x15.1)
 else (Sum.inl ()))):(Unit) ⊕ Int)) () (zc1 P0)) (λ(r20:Unit) =>
 ((P0.length:Nat):Int)) (λb=>b))
def zaM (P0:(List Int)):Prop:=True
def zbE (K:W.Frag) (A:Adr):Sp:=Spv (ι:=(List Int)) (λx=>[dQ K (List.map dI x)]) (λx=>zaM x) (λx=>.va true (dI (m_head_of x)))
theorem zfF:FnScope ["row","place","number"] ["row"] (zad zdJ):=⟨rfl,rfl,rfl,by decide +kernel,rfl,by decide +kernel,by decide +kernel⟩
theorem zjA (F:Fun K "head_of" "head_of" zdJ f fd) (T:Txt K mg A) :FnOk P w K mg base (CXE P w) 1 f fd ["row"] (zbE K A):=by
 refine F.okV zfF (λ_=>rfl) (λcdv Ar outer s H E P0 hr hp=>?_)
 have hu:=hr.units
 replace hp:zaM P0:=hp
 unfold zaM at hp
 refine ⟨_,(zac (zd3 PassesOwn.never rfl (zgw rfl rfl T.enumerate (pa_cons (pv 0) pa_nil)) (zcg (K:=K) (n:=2) rfl rfl (zaQ (pg_name (i:=1) zfF.nd rfl (Or.inl rfl) (Or.inl rfl)) (zaQ (pg_name (i:=2) zfF.nd rfl (Or.inl rfl) (Or.inl rfl)) zdn)))
 (zac (zbW (zat zg6 (pv 2) zag (zaD _))
 (zac (zaG (pv 1))
 zaf)
 zaf)
 zaf))
 (zac (zaG (pe_callB (zaA (K:=K) rfl) rfl T.len PySem.boot_len (pa_cons (pv 0) pa_nil)))
 zaf)),.inl ?_⟩
 show L2.Run _ ([.va false (dQ K (List.map dI P0)),.no,.no]:L2.Ctx) _ ((λ(r:Int)=>Oc.rt true (dI r)) (m_head_of P0))
 unfold m_head_of
 exact (zhx (s0:=()) (λ(s14:Unit)=>([.va false (dQ K (List.map dI P0)),.no,.no]:L2.Ctx)) (λ(r:Int)=>Oc.rt true (dI r)) (λb=>b) (λ(s14:Unit) (x15:(Int×Int))=>(((bif (!decide (x15.2=(0:Int))) then (Sum.inr x15.1)
 else (Sum.inl ()))):(Unit) ⊕ Int)) (λ_ _=>True) (λb=>.inl ⟨_,_,rfl⟩) (zgA (m:=false) dI (xs:=P0) (zab (i:=0) rfl)) (.eq (.eq (.eq .nil))) trivial (λi16 x15 s14 hx17 hI18=>have v17:=zcP hx17;⟨(λ_ _=>trivial),
 (zaH (b:=(!decide (x15.2=(0:Int)))) (zfy (λ(s14:Unit)=>([.va false (dQ K (List.map dI P0)),.no,.no]:L2.Ctx)) (λ(r:Int)=>Oc.rt true (dI r))) (zam (zeY (x:=x15.2) (y:=(0:Int)) (Ev.any (m:=false) (zab (i:=2) rfl)) zay)) (λh19=>(zak (zai (zaw (Ev.any (m:=false) (zab (i:=1) rfl)))))) (λh19 =>
 (zah (zal (.eq (.no (.no .nil)))))))⟩) (λr20 hr20 hI =>
 (zai (zaw (zbr (f:=dI) (xs:=P0) (zab (i:=0) rfl))))))
theorem head_eq (r:List Int):m_head_of r=(Lat.hd r:Int):=Lat.zqV r
def m_common (P0:Int) (P1:Int):(T3 Int Int Int) :=
 (Let (whl (λ(s21:Int×Int×Int×Int)=>(!decide (s21.2.1=(0:Int)))) (λ(s21:Int×Int×Int×Int)=>(Let (s21.1/s21.2.1) (λ(v24:Int) =>
 (Let (s21.1-(v24*s21.2.1)) (λ(v25:Int) =>
 (Let s21.2.1 (λ(v26:Int) =>
 (Let (s21.2.2.1-(v24*s21.2.2.2)) (λ(v27:Int) =>
 (Let s21.2.2.2 (λ(v28:Int) =>
 (v26,v25,v28,v27)))))))))))) (P1.toNat) (P0,P1,(1:Int),(0:Int))) (λ(r29:Int×Int×Int×Int) =>
 (T3.mk r29.1 r29.2.2.1 ((r29.1-(r29.2.2.1*P0))/P1))))
def zet (P0:Int) (P1:Int):Prop:=Lat.ziC P0 P1
def zf9 (K:W.Frag) (A:Adr):Sp:=Spv (ι:=Int×Int) (λx=>[dI x.1,dI x.2]) (λx=>zet x.1 x.2) (λx=>.va true (dT [dI ((m_common x.1 x.2).a),dI ((m_common x.1 x.2).b),dI ((m_common x.1 x.2).c)]))
theorem zbD:FnScope ["one","other","great","small","taken","later","part","left"] ["one","other"] (zad zer):=⟨rfl,rfl,rfl,by decide +kernel,rfl,by decide +kernel,by decide +kernel⟩
theorem zkE (F:Fun K "common" "common" zer f fd) (T:Txt K mg A) :FnOk P w K mg base (CXE P w) 1 f fd ["one","other"] (zf9 K A):=by
 refine F.okV zbD (λ_=>rfl) (λcdv Ar outer s H E x hr hp=>?_)
 obtain ⟨P0,P1⟩:=x
 have hu:=hr.units
 replace hp:zet P0 P1:=hp
 unfold zet at hp
 refine ⟨_,(zac (zap (i:=2) zbD.nd rfl (Or.inl rfl) (pv 0))
 (zac (zap (i:=3) zbD.nd rfl (Or.inl rfl) (pv 1))
 (zac (zap (i:=4) zbD.nd rfl (Or.inl rfl) zag)
 (zac (zap (i:=5) zbD.nd rfl (Or.inl rfl) zag)
 (zac (ziX PassesOwn.never (zat zg6 (pv 3) zag (zaD _))
 (zac (zap (i:=6) zbD.nd rfl (Or.inl rfl) (zau zbc (pv 2) (pv 3)))
 (zac (zap (i:=7) zbD.nd rfl (Or.inl rfl) (zau zfM (pv 2) (zau zbG (pv 6) (pv 3))))
 (zac (zap (i:=2) zbD.nd rfl (Or.inl rfl) (pv 3))
 (zac (zap (i:=3) zbD.nd rfl (Or.inl rfl) (pv 7))
 (zac (zap (i:=7) zbD.nd rfl (Or.inl rfl) (zau zfM (pv 4) (zau zbG (pv 6) (pv 5))))
 (zac (zap (i:=4) zbD.nd rfl (Or.inl rfl) (pv 5))
 (zac (zap (i:=5) zbD.nd rfl (Or.inl rfl) (pv 7))
 zaf))))))))
 (zac (zaG (zgX (pa_cons (pv 2) (pa_cons (pv 4) (pa_cons (zau zbc (zau zfM (pv 2) (zau zbG (pv 4) (pv 0))) (pv 1)) pa_nil)))))
 zaf)))))),.inl ?_⟩
 show L2.Run _ ([.va false (dI P0),.va false (dI P1),.no,.no,.no,.no,.no,.no]:L2.Ctx) _ ((λ(r:(T3 Int Int Int))=>Oc.rt true (dT [dI r.a,dI r.b,dI r.c])) (m_common P0 P1))
 unfold m_common
 exact (za0 (m:=true) (Ev.any (m:=false) (zab (i:=0) rfl))
 (za0 (m:=true) (Ev.any (m:=false) (zab (i:=1) rfl))
 (za0 (m:=true) zay
 (za0 (m:=true) zay
 (zh5 (s0:=(P0,P1,(1:Int),(0:Int))) (λ(s21:Int×Int×Int×Int)=>([.va false (dI P0),.va false (dI P1),.va true (dI s21.1),.va true (dI s21.2.1),.va true (dI s21.2.2.1),.va true (dI s21.2.2.2),.no,.no]:L2.Ctx)) (λ(r:(T3 Int Int Int))=>Oc.rt true (dT [dI r.a,dI r.b,dI r.c])) (λ(s21:Int×Int×Int×Int)=>(!decide (s21.2.1=(0:Int)))) (λ(s21:Int×Int×Int×Int)=>(Let (s21.1/s21.2.1) (λ(v24:Int) =>
 (Let (s21.1-(v24*s21.2.1)) (λ(v25:Int) =>
 (Let s21.2.1 (λ(v26:Int) =>
 (Let (s21.2.2.1-(v24*s21.2.2.2)) (λ(v27:Int) =>
 (Let s21.2.2.2 (λ(v28:Int) =>
 (v26,v25,v28,v27)))))))))))) (λ(s21:Int×Int×Int×Int)=>Lat.GI P0 P1 s21) (λ(s21:Int×Int×Int×Int)=>(s21.2.1).toNat) (P1.toNat) (.eq (.eq (.eq (.eq (.eq (.eq (.eq (.eq .nil)))))))) (by exact Lat.GI.start hp.1 hp.2.1) (by exact Nat.le_refl _) (λs21 hI22=>⟨(zam (zeY (x:=s21.2.1) (y:=(0:Int)) (Ev.any (m:=true) (zab (i:=3) rfl)) zay)),λhc23=>⟨(by exact Lat.GI.step (by assumption) (by assumption)),
 (zas (m:=true) (x:=(s21.1/s21.2.1)) dI (λz=>Oc.nx ((λ(s21:Int×Int×Int×Int)=>([.va false (dI P0),.va false (dI P1),.va true (dI s21.1),.va true (dI s21.2.1),.va true (dI s21.2.2.1),.va true (dI s21.2.2.2),.no,.no]:L2.Ctx)) z)) (zax (x:=s21.1) (y:=s21.2.1) (Ev.any (m:=true) (zab (i:=2) rfl)) (Ev.any (m:=true) (zab (i:=3) rfl)) (by exact Lat.GI.div (by assumption) hp (by assumption))) (λv24 hv24 =>
 (zas (m:=true) (x:=(s21.1-(v24*s21.2.1))) dI (λz=>Oc.nx ((λ(s21:Int×Int×Int×Int)=>([.va false (dI P0),.va false (dI P1),.va true (dI s21.1),.va true (dI s21.2.1),.va true (dI s21.2.2.1),.va true (dI s21.2.2.2),.no,.no]:L2.Ctx)) z)) (zaL (x:=s21.1) (y:=(v24*s21.2.1)) (Ev.any (m:=true) (zab (i:=2) rfl)) (zax (x:=v24) (y:=s21.2.1) (Ev.any (m:=true) (zab (i:=6) rfl)) (Ev.any (m:=true) (zab (i:=3) rfl)) (by exact Lat.GI.mul1 (by assumption) hp (by assumption) (by assumption)))) (λv25 hv25 =>
 (zas (m:=true) (x:=s21.2.1) dI (λz=>Oc.nx ((λ(s21:Int×Int×Int×Int)=>([.va false (dI P0),.va false (dI P1),.va true (dI s21.1),.va true (dI s21.2.1),.va true (dI s21.2.2.1),.va true (dI s21.2.2.2),.no,.no]:L2.Ctx)) z)) (Ev.any (m:=true) (zab (i:=3) rfl)) (λv26 hv26 =>
 (za0 (m:=true) (Ev.any (m:=true) (zab (i:=7) rfl))
 (zas (m:=true) (x:=(s21.2.2.1-(v24*s21.2.2.2))) dI (λz=>Oc.nx ((λ(s21:Int×Int×Int×Int)=>([.va false (dI P0),.va false (dI P1),.va true (dI s21.1),.va true (dI s21.2.1),.va true (dI s21.2.2.1),.va true (dI s21.2.2.2),.no,.no]:L2.Ctx)) z)) (zaL (x:=s21.2.2.1) (y:=(v24*s21.2.2.2)) (Ev.any (m:=true) (zab (i:=4) rfl)) (zax (x:=v24) (y:=s21.2.2.2) (Ev.any (m:=true) (zab (i:=6) rfl)) (Ev.any (m:=true) (zab (i:=5) rfl)) (by exact Lat.GI.mul2 (by assumption) hp (by assumption) (by assumption)))) (λv27 hv27 =>
 (zas (m:=true) (x:=s21.2.2.2) dI (λz=>Oc.nx ((λ(s21:Int×Int×Int×Int)=>([.va false (dI P0),.va false (dI P1),.va true (dI s21.1),.va true (dI s21.2.1),.va true (dI s21.2.2.1),.va true (dI s21.2.2.2),.no,.no]:L2.Ctx)) z)) (Ev.any (m:=true) (zab (i:=5) rfl)) (λv28 hv28 =>
 (za0 (m:=true) (Ev.any (m:=true) (zab (i:=7) rfl))
 (zal (.eq (.eq (.eq (.eq (.eq (.eq (.no (.no .nil)))))))))))))))))))))⟩⟩) (λr29 hr29 hI hc =>
 (zai (zaw (zgV (zaa (Ev.any (m:=true) (zab (i:=2) rfl)) (zaa (Ev.any (m:=true) (zab (i:=4) rfl)) (zaa (zax (x:=(r29.1-(r29.2.2.1*P0))) (y:=P1) (zaL (x:=r29.1) (y:=(r29.2.2.1*P0)) (Ev.any (m:=true) (zab (i:=2) rfl)) (zax (x:=r29.2.2.1) (y:=P0) (Ev.any (m:=true) (zab (i:=4) rfl)) (Ev.any (m:=false) (zab (i:=0) rfl)) (by exact Lat.GI.mul3 (by assumption) hp))) (Ev.any (m:=false) (zab (i:=1) rfl)) (by exact Lat.ziC.div hp)) zae))) (by show 3≤sizeLine;decide))))))))))
theorem zkj (a b:Int):m_common a b=Lat.cmn a b:=rfl
def m_upright (P0:(List Int)):(List Int) :=
 (bif (decide ((ixD P0 (m_head_of P0))<(0:Int))) then (m_times P0 (-(1:Int))) else P0)
def zb5 (P0:(List Int)):Prop:=P0.length≤1000∧Lat.hd P0<P0.length
def zfD (K:W.Frag) (A:Adr):Sp:=Spv (ι:=(List Int)) (λx=>[dL (List.map dI x)]) (λx=>zb5 x) (λx=>.va false (dL (List.map dI (m_upright x))))
theorem zjM:FnScope ["row"] ["row"] (zad zdK):=⟨rfl,rfl,rfl,by decide +kernel,rfl,by decide +kernel,by decide +kernel⟩
theorem zjO (F:Fun K "upright" "upright" zdK f fd) (T:Txt K mg A) (G_head_of:Callee P w K mg base (CXE P w) 1 "head_of" ["row"] (zbE K A)) (G_times:Callee P w K mg base (CXE P w) 1 "times" ["some","many"] (zc5 K A)):FnOk P w K mg base (CXE P w) 2 f fd ["row"] (zfD K A):=by
 refine F.okV zjM (λ_=>rfl) (λcdv Ar outer s H E P0 hr hp=>?_)
 have hu:=hr.units
 replace hp:zb5 P0:=hp
 unfold zb5 at hp
 refine ⟨_,(zac (zaG (zhA (zat zgs (zbS (zaF (K:=K) rfl) (pv 0) (zaB G_head_of (hr.mono (by decide)) rfl zaz (pa_cons (pv 0) pa_nil)) (λ_ _=>rfl)) zag (zaD _)) (zaB G_times (hr.mono (by decide)) rfl zaz (pa_cons (pv 0) (pa_cons (zie zgz zag) pa_nil))) (pv 0)))
 zaf),.inl ?_⟩
 show L2.Run _ ([.va false (dL (List.map dI P0))]:L2.Ctx) _ ((λ(r:(List Int))=>Oc.rt false (dL (List.map dI r))) (m_upright P0))
 unfold m_upright
 exact (zai (zaw (zot lI (b:=(decide ((ixD P0 (m_head_of P0))<(0:Int)))) (x:=(m_times P0 (-(1:Int)))) (y:=P0) (zam (zaL (x:=(ixD P0 (m_head_of P0))) (y:=(0:Int)) (Ev.any (m:=false) (zbT (f:=dI) (xs:=P0) (Ev.weak (K:=K) (zab (i:=0) rfl)) (Ev.any (m:=true) (zao (x:=P0) (zaa (Ev.weak (K:=K) (zab (i:=0) rfl)) zae) rfl (by show zaM P0;exact trivial) rfl)) (by have:=hp.2;rw [head_eq];unfold InB;omega))) zay)) (λhb=>(EvO.ev (EvO.anyI (m:=true) (zaV (x:=(P0,(-(1:Int)))) (zaa (Ev.weak (K:=K) (zab (i:=0) rfl)) (zaa (ziP (x:=(1:Int)) zay) zae)) rfl (by show zaY P0 (-(1:Int));exact ⟨hp.1,λ_ _=>.inr (.inl ⟨by decide,by decide⟩)⟩) rfl)))) (λhb=>(zab (i:=0) rfl)))))
theorem zgN (l:List Int):m_upright l=Lat.upr l:=by unfold m_upright;rw [head_eq,Lat.zby];rfl
theorem zi1 (s x:List Int):Let (m_head_of x) (λ(h:Int)=>Let ((ixD s h)/(ixD x h)) (λ(q:Int)=>Let (bif (!decide (q=(0:Int))) then (m_less s (m_times x q)) else s) (λ(y:List Int)=>y)))=Lat.zih s x:=by
 unfold Let
 dsimp only
 rw [head_eq,Lat.zby,Lat.zby];rfl
section
variable {n s a b i:Nat} {l t:List Int} {h q:Int} {steps:List (List Int)}
theorem zqY (T:Lat.Sd n s t) (e:h=(Lat.hd t:Int)) (hl:l.length=n∧Lat.Bit b l):InB l.length h:=Lat.ziS T e hl.1
theorem zjc (T:Lat.Sd n s t) (e:h=(Lat.hd t:Int)):InB t.length h:=Lat.ziS T e T.len
theorem zoL (p1:n≤1000) (p6:a+steps.length*(s+1)+s≤50000000) (hx:steps[i]?=some t) (T:∀ t∈steps,Lat.Sd n s t) (hl:l.length=n∧Lat.Bit (a+i*(s+1)) l) (e:h=(Lat.hd t:Int)) (eq:q=ixD l h/ixD t h):zaY t q:=by
 have T1:=T t (List.mem_of_getElem? hx)
 exact ⟨by rw [T1.len];exact p1,Lat.zop T1 e hl.2 eq (Lat.zn8 p6 (List.getElem?_eq_some_iff.mp hx).1)⟩
theorem znv (p1:n≤1000) (T:Lat.Sd n s t) (hl:l.length=n∧Lat.Bit b l):zci l (m_times t q):=⟨by rw [hl.1,show (m_times t q).length=t.length from Lat.zaO,T.len],by omega⟩
theorem zqW {sh:T3 Int Int Int} (e:h=(Lat.hd t:Int)) (T:Lat.Sd n s t) (h0:0<Lat.vec l (Lat.hd t)) (h1:Lat.vec l (Lat.hd t)<Lat.vec t (Lat.hd t)) (hs:sh=m_common (ixD t h) (ixD l h)):0<sh.a∧sh.a.natAbs≤2^8981∧sh.b.natAbs≤2^8980∧sh.c.natAbs≤2^17962:=by
 subst hs
 exact Lat.zmE (Lat.zlw T e h0 h1)
theorem znL {x y:Int} (p1:n≤1000) (h1:t.length=n) (h2:l.length=n):zey (m_times t x) (m_times l y):=⟨by rw [show (m_times t x).length=t.length from Lat.zaO,show (m_times l y).length=l.length from Lat.zaO,h1,h2],by rw [show (m_times t x).length=t.length from Lat.zaO,h1];exact p1⟩
theorem zmt {x y:Int} (p1:n≤1000) (h1:t.length=n) (h2:l.length=n):zci (m_times l x) (m_times t y):=⟨by rw [show (m_times t y).length=t.length from Lat.zaO,show (m_times l x).length=l.length from Lat.zaO,h1,h2],by rw [show (m_times l x).length=l.length from Lat.zaO,h2];exact p1⟩
theorem zpd (e:h=(Lat.hd t:Int)) (T:Lat.Sd n s t):(ixD t h).natAbs≤2^8980:=by subst e;rw [Lat.zby];exact T.top
theorem znR (e:h=(Lat.hd t:Int)) (T:Lat.Sd n s t) (h0:0<Lat.vec l (Lat.hd t)) (h1:Lat.vec l (Lat.hd t)<Lat.vec t (Lat.hd t)):(ixD l h).natAbs≤2^8980:=by subst e;rw [Lat.zby];have:=T.top;omega
end
def m_lowered (P0:(List Int)) (P1:(List (List Int))):(List Int) :=
 (Let (List.foldl (λ(s30:(List Int)) (x31:(List Int))=>(Let (m_head_of x31) (λ(hv35:Int) =>
 (Let ((ixD s30 hv35)/(ixD x31 hv35)) (λ(v36:Int) =>
 (Let (bif (!decide (v36=(0:Int))) then (m_less s30 (m_times x31 v36)) else s30) (λ(v38:(List Int)) =>
 v38))))))) P0 P1) (λ(r39:(List Int)) =>
 r39))
def zbi (P0:(List Int)) (P1:(List (List Int))):Prop:=Lat.LowP P0 P1
def zcB (K:W.Frag) (A:Adr):Sp:=Spv (ι:=(List Int)×(List (List Int))) (λx=>[dQ K (List.map dI x.1),dQ K (List.map lI x.2)]) (λx=>zbi x.1 x.2) (λx=>.va true (dL (List.map dI (m_lowered x.1 x.2))))
theorem zc8:FnScope ["row","steps","left","step","head","many"] ["row","steps"] (zad zdN):=⟨rfl,rfl,rfl,by decide +kernel,rfl,by decide +kernel,by decide +kernel⟩
theorem zjw (F:Fun K "lowered" "lowered" zdN f fd) (T:Txt K mg A) (G_head_of:Callee P w K mg base (CXE P w) 1 "head_of" ["row"] (zbE K A)) (G_less:Callee P w K mg base (CXE P w) 2 "less" ["one","other"] (zeN K A)) (G_times:Callee P w K mg base (CXE P w) 1 "times" ["some","many"] (zc5 K A)):FnOk P w K mg base (CXE P w) 3 f fd ["row","steps"] (zcB K A):=by
 refine F.okV zc8 (λ_=>rfl) (λcdv Ar outer s H E x hr hp=>?_)
 obtain ⟨P0,P1⟩:=x
 have hu:=hr.units
 replace hp:zbi P0 P1:=hp
 unfold zbi at hp
 obtain ⟨N0,A0,S0,p1,p2,p3,p4,p5,p6⟩:=hp
 refine ⟨_,(zac (zap (i:=2) zc8.nd rfl (Or.inl rfl) (zcn (zbv (K:=K) rfl) rfl T.list PyProof.Rows.boot_list (pa_cons (pv 0) pa_nil)))
 (zac (zd3 PassesOwn.never rfl (zaN (K:=K) rfl (pv 1)) (pg_name (i:=3) zc8.nd rfl (Or.inl rfl) (Or.inl rfl))
 (zac (zap (i:=4) zc8.nd rfl (Or.inl rfl) (zaB G_head_of (hr.mono (by decide)) rfl zaz (pa_cons (pv 3) pa_nil)))
 (zac (zap (i:=5) zc8.nd rfl (Or.inl rfl) (zau zbc (zbS (zaF (K:=K) rfl) (pv 2) (pv 4) (λ_ _=>rfl)) (zbS (zaF (K:=K) rfl) (pv 3) (pv 4) (λ_ _=>rfl))))
 (zac (zbW (zat zg6 (pv 5) zag (zaD _))
 (zac (zap (i:=2) zc8.nd rfl (Or.inl rfl) (zaB G_less (hr.mono (by decide)) rfl zaz (pa_cons (pv 2) (pa_cons (zaB G_times (hr.mono (by decide)) rfl zaz (pa_cons (pv 3) (pa_cons (pv 5) pa_nil))) pa_nil))))
 zaf)
 zaf)
 zaf))))
 (zac (zaG (pv 2))
 zaf))),.inl ?_⟩
 show L2.Run _ ([.va false (dQ K (List.map dI P0)),.va false (dQ K (List.map lI P1)),.no,.no,.no,.no]:L2.Ctx) _ ((λ(r:(List Int))=>Oc.rt true (dL (List.map dI r))) (m_lowered P0 P1))
 unfold m_lowered
 exact (za0 (m:=true) (EvO.ev (EvO.anyI (m:=false) (zd0 (zab (i:=0) rfl))))
 (zc0 (s0:=P0) (λ(s30:(List Int))=>([.va false (dQ K (List.map dI P0)),.va false (dQ K (List.map lI P1)),.va true (dL (List.map dI s30)),.no,.no,.no]:L2.Ctx)) (λ(r:(List Int))=>Oc.rt true (dL (List.map dI r))) (λ(s30:(List Int)) (x31:(List Int))=>(Let (m_head_of x31) (λ(hv35:Int) =>
 (Let ((ixD s30 hv35)/(ixD x31 hv35)) (λ(v36:Int) =>
 (Let (bif (!decide (v36=(0:Int))) then (m_less s30 (m_times x31 v36)) else s30) (λ(v38:(List Int)) =>
 v38))))))) (λ(i:Nat) (s30:(List Int))=>s30.length=N0∧Lat.Bit (A0+i*(S0+1)) s30) (zbx (m:=false) lI (xs:=P1) (zab (i:=1) rfl)) (.eq (.eq (.eq (.eq (.eq (.eq .nil)))))) (by exact ⟨p2,by simpa using p4⟩) (λi32 x31 s30 hx33 hI34=>have v33:=List.mem_of_getElem? hx33;⟨(by exact Lat.znU (p5 _ (by assumption)) (by assumption) (zi1 _ _)),
 (zas (m:=true) (x:=(m_head_of x31)) dI (λz=>Oc.nx ((λ(s30:(List Int))=>([.va false (dQ K (List.map dI P0)),.va false (dQ K (List.map lI P1)),.va true (dL (List.map dI s30)),.no,.no,.no]:L2.Ctx)) z)) (Ev.any (m:=true) (zao (x:=x31) (zaa (Ev.weak (K:=K) (zab (i:=3) rfl)) zae) rfl (by show zaM x31;exact trivial) rfl)) (λhv35 hhead35 =>
 have hH:=(hhead35).trans (head_eq _);(zas (m:=true) (x:=((ixD s30 hv35)/(ixD x31 hv35))) dI (λz=>Oc.nx ((λ(s30:(List Int))=>([.va false (dQ K (List.map dI P0)),.va false (dQ K (List.map lI P1)),.va true (dL (List.map dI s30)),.no,.no,.no]:L2.Ctx)) z)) (zax (x:=(ixD s30 hv35)) (y:=(ixD x31 hv35)) (Ev.any (m:=true) (zbT (f:=dI) (xs:=s30) (Ev.weak (K:=K) (zab (i:=2) rfl)) (Ev.any (m:=true) (zab (i:=4) rfl)) (by exact zqY (p5 _ (by assumption)) hH (by assumption)))) (Ev.any (m:=false) (zbT (f:=dI) (xs:=x31) (Ev.weak (K:=K) (zab (i:=3) rfl)) (Ev.any (m:=true) (zab (i:=4) rfl)) (by exact zjc (p5 _ (by assumption)) hH))) (by exact Lat.znD (p5 _ (by assumption)) hH)) (λv36 hv36 =>
 (zbZ (b:=(!decide (v36=(0:Int)))) (λbb=>([.va false (dQ K (List.map dI P0)),.va false (dQ K (List.map lI P1)),.va true (dL (List.map dI (bif bb then (m_less s30 (m_times x31 v36)) else s30))),.va false (dL (List.map dI x31)),.va true (dI hv35),.va true (dI v36)]:L2.Ctx)) (zam (zeY (x:=v36) (y:=(0:Int)) (Ev.any (m:=true) (zab (i:=5) rfl)) zay)) (λh37=>(za0 (m:=true) (EvO.ev (EvO.anyI (m:=true) (zaV (x:=(s30,(m_times x31 v36))) (zaa (Ev.old (Ev.weak (K:=K) (zab (i:=2) rfl))) (zaa (Ev.weak (K:=K) (EvO.ev (EvO.anyI (m:=true) (zaV (x:=(x31,v36)) (zaa (Ev.weak (K:=K) (zab (i:=3) rfl)) (zaa (Ev.any (m:=true) (zab (i:=5) rfl)) zae)) rfl (by show zaY x31 v36;exact zoL p1 p6 (by assumption) p5 (by assumption) hH (by assumption)) rfl)))) zae)) rfl (by show zci s30 (m_times x31 v36);exact znv p1 (p5 _ (by assumption)) (by assumption)) rfl)))
 (zal (.eq (.eq (.eq (.eq (.eq (.eq .nil))))))))) (λh37=>(zal (.eq (.eq (.eq (.eq (.eq (.eq .nil))))))))
 (zct (x:=(bif (!decide (v36=(0:Int))) then (m_less s30 (m_times x31 v36)) else s30)) (λv38=>([.va false (dQ K (List.map dI P0)),.va false (dQ K (List.map lI P1)),.va true (dL (List.map dI v38)),.va false (dL (List.map dI x31)),.va true (dI hv35),.va true (dI v36)]:L2.Ctx)) (λz=>Oc.nx ((λ(s30:(List Int))=>([.va false (dQ K (List.map dI P0)),.va false (dQ K (List.map lI P1)),.va true (dL (List.map dI s30)),.no,.no,.no]:L2.Ctx)) z)) (λv38 hv38 =>
 (zal (.eq (.eq (.eq (.no (.no (.no .nil))))))))))))))⟩) (λr39 hr39 hI =>
 (zai (zaw (zab (i:=2) rfl))))))
theorem zc9 (l:List Int) (ss:List (List Int)):m_lowered l ss=Lat.low l ss:=by
 unfold m_lowered
 show List.foldl _ l ss=List.foldl Lat.zih l ss
 congr 1
 funext s x
 exact zi1 s x
def m_merged (P0:(List Int)) (P1:(List Int)):((List Int)×(List Int)) :=
 (Let (m_head_of P0) (λ(hv40:Int) =>
 (Let (m_common (ixD P0 hv40) (ixD P1 hv40)) (λ(v41:(T3 Int Int Int)) =>
 (Let (m_plus (m_times P0 v41.b) (m_times P1 v41.c)) (λ(v42:(List Int)) =>
 (Let (m_less (m_times P1 ((ixD P0 hv40)/v41.a)) (m_times P0 ((ixD P1 hv40)/v41.a))) (λ(v43:(List Int)) =>
 (v42,v43)))))))))
def zeG (P0:(List Int)) (P1:(List Int)):Prop:=Lat.MrgP P0 P1
def zgk (K:W.Frag) (A:Adr):Sp:=Spv (ι:=(List Int)×(List Int)) (λx=>[dQ K (List.map dI x.1),dQ K (List.map dI x.2)]) (λx=>zeG x.1 x.2) (λx=>.va true (dT [dL (List.map dI ((m_merged x.1 x.2).1)),dL (List.map dI ((m_merged x.1 x.2).2))]))
theorem zeg:FnScope ["step","row","head","shared","first","second"] ["step","row"] (zad zev):=⟨rfl,rfl,rfl,by decide +kernel,rfl,by decide +kernel,by decide +kernel⟩
theorem zlg (F:Fun K "merged" "merged" zev f fd) (T:Txt K mg A) (G_common:Callee P w K mg base (CXE P w) 1 "common" ["one","other"] (zf9 K A)) (G_head_of:Callee P w K mg base (CXE P w) 1 "head_of" ["row"] (zbE K A)) (G_less:Callee P w K mg base (CXE P w) 2 "less" ["one","other"] (zeN K A)) (G_plus:Callee P w K mg base (CXE P w) 2 "plus" ["one","other"] (zg9 K A)) (G_times:Callee P w K mg base (CXE P w) 1 "times" ["some","many"] (zc5 K A)):FnOk P w K mg base (CXE P w) 3 f fd ["step","row"] (zgk K A):=by
 refine F.okV zeg (λ_=>rfl) (λcdv Ar outer s H E x hr hp=>?_)
 obtain ⟨P0,P1⟩:=x
 have hu:=hr.units
 replace hp:zeG P0 P1:=hp
 unfold zeG at hp
 obtain ⟨N0,A0,S0,p1,p2,p3,p4,p5,p6,p7⟩:=hp
 refine ⟨_,(zac (zap (i:=2) zeg.nd rfl (Or.inl rfl) (zaB G_head_of (hr.mono (by decide)) rfl zaz (pa_cons (pv 0) pa_nil)))
 (zac (zap (i:=3) zeg.nd rfl (Or.inl rfl) (zaB G_common (hr.mono (by decide)) rfl zaz (pa_cons (zbS (zaF (K:=K) rfl) (pv 0) (pv 2) (λ_ _=>rfl)) (pa_cons (zbS (zaF (K:=K) rfl) (pv 1) (pv 2) (λ_ _=>rfl)) pa_nil))))
 (zac (zap (i:=4) zeg.nd rfl (Or.inl rfl) (zaB G_plus (hr.mono (by decide)) rfl zaz (pa_cons (zaB G_times (hr.mono (by decide)) rfl zaz (pa_cons (pv 0) (pa_cons (zbS (zcZ (K:=K) rfl) (pv 3) zag (λ_ _=>rfl)) pa_nil))) (pa_cons (zaB G_times (hr.mono (by decide)) rfl zaz (pa_cons (pv 1) (pa_cons (zbS (zcZ (K:=K) rfl) (pv 3) zag (λ_ _=>rfl)) pa_nil))) pa_nil))))
 (zac (zap (i:=5) zeg.nd rfl (Or.inl rfl) (zaB G_less (hr.mono (by decide)) rfl zaz (pa_cons (zaB G_times (hr.mono (by decide)) rfl zaz (pa_cons (pv 1) (pa_cons (zau zbc (zbS (zaF (K:=K) rfl) (pv 0) (pv 2) (λ_ _=>rfl)) (zbS (zcZ (K:=K) rfl) (pv 3) zag (λ_ _=>rfl))) pa_nil))) (pa_cons (zaB G_times (hr.mono (by decide)) rfl zaz (pa_cons (pv 0) (pa_cons (zau zbc (zbS (zaF (K:=K) rfl) (pv 1) (pv 2) (λ_ _=>rfl)) (zbS (zcZ (K:=K) rfl) (pv 3) zag (λ_ _=>rfl))) pa_nil))) pa_nil))))
 (zac (zaG (zgX (pa_cons (pv 4) (pa_cons (pv 5) pa_nil))))
 zaf))))),.inl ?_⟩
 show L2.Run _ ([.va false (dQ K (List.map dI P0)),.va false (dQ K (List.map dI P1)),.no,.no,.no,.no]:L2.Ctx) _ ((λ(r:((List Int)×(List Int)))=>Oc.rt true (dT [dL (List.map dI r.1),dL (List.map dI r.2)])) (m_merged P0 P1))
 unfold m_merged
 exact (zas (m:=true) (x:=(m_head_of P0)) dI (λ(r:((List Int)×(List Int)))=>Oc.rt true (dT [dL (List.map dI r.1),dL (List.map dI r.2)])) (Ev.any (m:=true) (zao (x:=P0) (zaa (zab (i:=0) rfl) zae) rfl (by show zaM P0;exact trivial) rfl)) (λhv40 hhead40 =>
 have hH:=(hhead40).trans (head_eq _);(zas (m:=true) (x:=(m_common (ixD P0 hv40) (ixD P1 hv40))) (λ(p:(T3 Int Int Int))=>dT [dI p.a,dI p.b,dI p.c]) (λ(r:((List Int)×(List Int)))=>Oc.rt true (dT [dL (List.map dI r.1),dL (List.map dI r.2)])) (zao (x:=((ixD P0 hv40),(ixD P1 hv40))) (zaa (Ev.any (m:=false) (zbT (f:=dI) (xs:=P0) (zab (i:=0) rfl) (Ev.any (m:=true) (zab (i:=2) rfl)) (by exact zjc p2 hH))) (zaa (Ev.any (m:=false) (zbT (f:=dI) (xs:=P1) (zab (i:=1) rfl) (Ev.any (m:=true) (zab (i:=2) rfl)) (by exact Lat.ziS p2 hH p3))) zae)) rfl (by show zet (ixD P0 hv40) (ixD P1 hv40);exact Lat.zlw p2 hH p5 p6) rfl) (λv41 hv41 =>
 have hC:=zqW hH p2 p5 p6 hv41;(zas (m:=true) (x:=(m_plus (m_times P0 v41.b) (m_times P1 v41.c))) lI (λ(r:((List Int)×(List Int)))=>Oc.rt true (dT [dL (List.map dI r.1),dL (List.map dI r.2)])) (EvO.ev (EvO.anyI (m:=true) (zaV (x:=((m_times P0 v41.b),(m_times P1 v41.c))) (zaa (Ev.weak (K:=K) (EvO.ev (EvO.anyI (m:=true) (zaV (x:=(P0,v41.b)) (zaa (zab (i:=0) rfl) (zaa (Ev.any (m:=true) (ze1 (zab (i:=3) rfl) zay rfl)) zae)) rfl (by show zaY P0 v41.b;exact ⟨by rw [p2.len];exact p1,Lat.zhs p2.bit hC.2.2.1 (by omega) (by decide)⟩) rfl)))) (zaa (Ev.weak (K:=K) (EvO.ev (EvO.anyI (m:=true) (zaV (x:=(P1,v41.c)) (zaa (zab (i:=1) rfl) (zaa (Ev.any (m:=true) (ze1 (zab (i:=3) rfl) zay rfl)) zae)) rfl (by show zaY P1 v41.c;exact ⟨by rw [p3];exact p1,Lat.zhs p4 hC.2.2.2 (by omega) (by decide)⟩) rfl)))) zae)) rfl (by show zey (m_times P0 v41.b) (m_times P1 v41.c);exact znL p1 p2.len p3) rfl))) (λv42 hv42 =>
 (zas (m:=true) (x:=(m_less (m_times P1 ((ixD P0 hv40)/v41.a)) (m_times P0 ((ixD P1 hv40)/v41.a)))) lI (λ(r:((List Int)×(List Int)))=>Oc.rt true (dT [dL (List.map dI r.1),dL (List.map dI r.2)])) (EvO.ev (EvO.anyI (m:=true) (zaV (x:=((m_times P1 ((ixD P0 hv40)/v41.a)),(m_times P0 ((ixD P1 hv40)/v41.a)))) (zaa (Ev.weak (K:=K) (EvO.ev (EvO.anyI (m:=true) (zaV (x:=(P1,((ixD P0 hv40)/v41.a))) (zaa (zab (i:=1) rfl) (zaa (zax (x:=(ixD P0 hv40)) (y:=v41.a) (Ev.any (m:=false) (zbT (f:=dI) (xs:=P0) (zab (i:=0) rfl) (Ev.any (m:=true) (zab (i:=2) rfl)) (by exact zjc p2 hH))) (Ev.any (m:=true) (ze1 (zab (i:=3) rfl) zay rfl)) (by exact Lat.zft.of hC.1 hC.2.1 (by decide))) zae)) rfl (by show zaY P1 ((ixD P0 hv40)/v41.a);exact ⟨by rw [p3];exact p1,Lat.zhs p4 (Lat.zfC hC.1 (zpd hH p2)) (by omega) (by decide)⟩) rfl)))) (zaa (Ev.weak (K:=K) (EvO.ev (EvO.anyI (m:=true) (zaV (x:=(P0,((ixD P1 hv40)/v41.a))) (zaa (zab (i:=0) rfl) (zaa (zax (x:=(ixD P1 hv40)) (y:=v41.a) (Ev.any (m:=false) (zbT (f:=dI) (xs:=P1) (zab (i:=1) rfl) (Ev.any (m:=true) (zab (i:=2) rfl)) (by exact Lat.ziS p2 hH p3))) (Ev.any (m:=true) (ze1 (zab (i:=3) rfl) zay rfl)) (by exact Lat.zft.of hC.1 hC.2.1 (by decide))) zae)) rfl (by show zaY P0 ((ixD P1 hv40)/v41.a);exact ⟨by rw [p2.len];exact p1,Lat.zhs p2.bit (Lat.zfC hC.1 (znR hH p2 p5 p6)) (by omega) (by decide)⟩) rfl)))) zae)) rfl (by show zci (m_times P1 ((ixD P0 hv40)/v41.a)) (m_times P0 ((ixD P1 hv40)/v41.a));exact zmt p1 p2.len p3) rfl))) (λv43 hv43 =>
 (zai (zaw (zgV (zaa (zab (i:=4) rfl) (zaa (zab (i:=5) rfl) zae)) (by show 2≤sizeLine;decide))))))))))))
theorem zgm (s l:List Int):m_merged s l=Lat.mrg s l:=by
 unfold m_merged Let
 dsimp only
 rw [head_eq,Lat.zby,Lat.zby,zkj];rfl
section
variable {n s a i:Nat} {l row:List Int} {steps:List (List Int)} {st:Lat.TS2} {x:Int×List Int}
theorem zpW (p1:n≤1000) (p2:Lat.Ech n 0 steps) (p3:∀ t∈steps,Lat.Sd n s t) (p4:row.length=n) (p5:Lat.Bit a row) (p6:steps.length≤100) (p7:a+(steps.length+2)*((steps.length+1)*(s+9000))+s≤40000000):Lat.LowP row steps:=by
 refine ⟨n,a,s,p1,p4,by omega,p5,p3,?_⟩
 have e2:steps.length*(s+1)≤(steps.length+1)*(s+9000):=Nat.mul_le_mul (by omega) (by omega)
 rw [Nat.add_mul steps.length 2] at p7
 omega
theorem zm2 (p1:n≤1000) (I:Lat.TI steps n a s i st) (T:Lat.Sd n s x.2) (h:decide (m_head_of st.2<m_head_of x.2)=true):zb5 st.2:=by
 rw [head_eq,head_eq] at h
 simp only [decide_eq_true_eq] at h
 have:=T.hd;have:=I.len
 exact ⟨by omega,by omega⟩
theorem zm3 (p1:n≤1000) (I:Lat.TI steps n a s i st) (h:decide (m_head_of st.2<((st.2.length:Nat):Int))=true):zb5 st.2:=by
 rw [head_eq] at h
 simp only [decide_eq_true_eq] at h
 have:=I.len
 exact ⟨by omega,by omega⟩
theorem zoW (h:decide (m_head_of st.2=m_head_of x.2)=true):Lat.hd st.2=Lat.hd x.2:=by
 rw [head_eq,head_eq] at h
 simp only [decide_eq_true_eq] at h
 omega
theorem zpm (I:Lat.TI steps n a s i st) (hx:i<steps.length∧x.1=(i:Int)∧steps[i]?=some x.2) (p6:steps.length≤100):st.1.length<PySem.sizeLine:=Nat.lt_of_le_of_lt (show _≤1000 by have:=I.g;omega) (by decide)
theorem zo6 (I:Lat.TI steps n a s (zc1 steps).length st) (p6:steps.length≤100):st.1.length<PySem.sizeLine:=Nat.lt_of_le_of_lt (show _≤1000 by have:=I.g;rw [zdI] at this;omega) (by decide)
theorem znV {y:List Int} (I:Lat.TI steps n a s i st) (hx:i<steps.length∧x.1=(i:Int)∧steps[i]?=some x.2) (p6:steps.length≤100):st.1.length+[y].length≤PySem.sizeLine:=by
 apply zaj
 have:=I.g
 simp;omega
theorem znA {lo hi:Option Int}:(zbH steps lo hi).length≤steps.length:=by
 unfold zbH;rw [List.length_take,List.length_drop];omega
theorem zoJ {y:List Int} {lo hi:Option Int} (I:Lat.TI steps n a s i st) (hx:i<steps.length∧x.1=(i:Int)∧steps[i]?=some x.2) (p6:steps.length≤100):(st.1++[y]).length+(zbH steps lo hi).length≤PySem.sizeLine:=by
 apply zaj
 have:=I.g
 have:=znA (steps:=steps) (lo:=lo) (hi:=hi)
 simp;omega
end
def m_taken_in (P0:(List (List Int))) (P1:(List Int)):(List (List Int)) :=
 (Let (m_lowered P1 P0) (λ(v44:(List Int)) =>
 (LetR (loopR (λ(s54:(List (List Int))×(List Int)) (x55:(Int×(List Int)))=>(((bif (decide ((m_head_of s54.2)<(m_head_of x55.2))) then (Sum.inr ((s54.1++[(m_upright s54.2)])++(zbH P0 (some x55.1) none)))
 else (Let (bif (decide ((m_head_of s54.2)=(m_head_of x55.2))) then (s54.1++[(m_merged x55.2 s54.2).1]) else (s54.1++[x55.2])) (λ(v61:(List (List Int))) =>
 (Let (bif (decide ((m_head_of s54.2)=(m_head_of x55.2))) then (m_lowered ((m_merged x55.2 s54.2).2) (zbH P0 (some (x55.1+(1:Int))) none)) else s54.2) (λ(v62:(List Int)) =>
 (Sum.inl (v61,v62)))))))):((List (List Int))×(List Int)) ⊕ (List (List Int)))) ([],v44) (zc1 P0)) (λ(r63:(List (List Int))×(List Int)) =>
 (Let (bif (decide ((m_head_of r63.2)<((r63.2.length:Nat):Int))) then (r63.1++[(m_upright r63.2)]) else r63.1) (λ(v65:(List (List Int))) =>
 v65))) (λb=>b))))
def zdq (P0:(List (List Int))) (P1:(List Int)):Prop:=Lat.TinP P0 P1
def zeS (K:W.Frag) (A:Adr):Sp:=Spv (ι:=(List (List Int))×(List Int)) (λx=>[dQ K (List.map lI x.1),dQ K (List.map dI x.2)]) (λx=>zdq x.1 x.2) (λx=>.va false (dL (List.map lI (m_taken_in x.1 x.2))))
theorem zb4:FnScope ["steps","row","loose","grown","place","step","pair"] ["steps","row"] (zad zda):=⟨rfl,rfl,rfl,by decide +kernel,rfl,by decide +kernel,by decide +kernel⟩
theorem ziJ (F:Fun K "taken_in" "taken_in" zda f fd) (T:Txt K mg A) (G_head_of:Callee P w K mg base (CXE P w) 1 "head_of" ["row"] (zbE K A)) (G_lowered:Callee P w K mg base (CXE P w) 3 "lowered" ["row","steps"] (zcB K A)) (G_merged:Callee P w K mg base (CXE P w) 3 "merged" ["step","row"] (zgk K A)) (G_upright:Callee P w K mg base (CXE P w) 2 "upright" ["row"] (zfD K A)):FnOk P w K mg base (CXE P w) 4 f fd ["steps","row"] (zeS K A):=by
 refine F.okV zb4 (λ_=>rfl) (λcdv Ar outer s H E x hr hp=>?_)
 obtain ⟨P0,P1⟩:=x
 have hu:=hr.units
 replace hp:zdq P0 P1:=hp
 unfold zdq at hp
 obtain ⟨N0,A0,S0,p1,p2,p3,p4,p5,p6,p7⟩:=hp
 refine ⟨_,(zac (zap (i:=2) zb4.nd rfl (Or.inl rfl) (zaB G_lowered (hr.mono (by decide)) rfl zaz (pa_cons (pv 1) (pa_cons (pv 0) pa_nil))))
 (zac (zap (i:=3) zb4.nd rfl (Or.inl rfl) (zaP pa_nil))
 (zac (zd3 PassesOwn.never rfl (zgw rfl rfl T.enumerate (pa_cons (pv 0) pa_nil)) (zcg (K:=K) (n:=2) rfl rfl (zaQ (pg_name (i:=4) zb4.nd rfl (Or.inl rfl) (Or.inl rfl)) (zaQ (pg_name (i:=5) zb4.nd rfl (Or.inl rfl) (Or.inl rfl)) zdn)))
 (zac (zbW (zat zgs (zaB G_head_of (hr.mono (by decide)) rfl zaz (pa_cons (pv 2) pa_nil)) (zaB G_head_of (hr.mono (by decide)) rfl zaz (pa_cons (pv 5) pa_nil)) (zaD _))
 (zac (zaG (zau zcm (zau zcm (pv 3) (zaP (pa_cons (zaB G_upright (hr.mono (by decide)) rfl zaz (pa_cons (pv 2) pa_nil)) pa_nil))) (zcj (zbI (K:=K) rfl) (pv 0) (zcV (pv 4)) zdB)))
 zaf)
 zaf)
 (zac (zbW (zat zeP (zaB G_head_of (hr.mono (by decide)) rfl zaz (pa_cons (pv 2) pa_nil)) (zaB G_head_of (hr.mono (by decide)) rfl zaz (pa_cons (pv 5) pa_nil)) (zaD _))
 (zac (zap (i:=6) zb4.nd rfl (Or.inl rfl) (zaB G_merged (hr.mono (by decide)) rfl zaz (pa_cons (pv 5) (pa_cons (pv 2) pa_nil))))
 (zac (zcY (zcw (K:=K) rfl (pv 3) (pa_cons (zbS (zcZ (K:=K) rfl) (pv 6) zag (λ_ _=>rfl)) pa_nil)))
 (zac (zap (i:=2) zb4.nd rfl (Or.inl rfl) (zaB G_lowered (hr.mono (by decide)) rfl zaz (pa_cons (zbS (zcZ (K:=K) rfl) (pv 6) zag (λ_ _=>rfl)) (pa_cons (zcj (zbI (K:=K) rfl) (pv 0) (zcV (zau zdh (pv 4) zag)) zdB) pa_nil))))
 zaf)))
 (zac (zcY (zcw (K:=K) rfl (pv 3) (pa_cons (pv 5) pa_nil)))
 zaf))
 zaf)))
 (zac (zbW (zat zgs (zaB G_head_of (hr.mono (by decide)) rfl zaz (pa_cons (pv 2) pa_nil)) (pe_callB (zaA (K:=K) rfl) rfl T.len PySem.boot_len (pa_cons (pv 2) pa_nil)) (zaD _))
 (zac (zcY (zcw (K:=K) rfl (pv 3) (pa_cons (zaB G_upright (hr.mono (by decide)) rfl zaz (pa_cons (pv 2) pa_nil)) pa_nil)))
 zaf)
 zaf)
 (zac (zaG (pv 3))
 zaf))))),.inl ?_⟩
 show L2.Run _ ([.va false (dQ K (List.map lI P0)),.va false (dQ K (List.map dI P1)),.no,.no,.no,.no,.no]:L2.Ctx) _ ((λ(r:(List (List Int)))=>Oc.rt false (dL (List.map lI r))) (m_taken_in P0 P1))
 unfold m_taken_in
 exact (zas (m:=true) (x:=(m_lowered P1 P0)) lI (λ(r:(List (List Int)))=>Oc.rt false (dL (List.map lI r))) (zao (x:=(P1,P0)) (zaa (zab (i:=1) rfl) (zaa (zab (i:=0) rfl) zae)) rfl (by show zbi P1 P0;exact zpW p1 p2 p3 p4 p5 p6 p7) rfl) (λv44 hv44 =>
 have hL:=(hv44).trans (zc9 _ _);(run_setO (m:=true) (ds:=List.map lI []) (zcR (m:=true) zae)
 (zhx (s0:=([],v44)) (λ(s54:(List (List Int))×(List Int))=>([.va false (dQ K (List.map lI P0)),.va false (dQ K (List.map dI P1)),.va true (dL (List.map dI s54.2)),.ow false (List.map lI s54.1),.no,.no,.no]:L2.Ctx)) (λ(r:(List (List Int)))=>Oc.rt false (dL (List.map lI r))) (λb=>b) (λ(s54:(List (List Int))×(List Int)) (x55:(Int×(List Int)))=>(((bif (decide ((m_head_of s54.2)<(m_head_of x55.2))) then (Sum.inr ((s54.1++[(m_upright s54.2)])++(zbH P0 (some x55.1) none)))
 else (Let (bif (decide ((m_head_of s54.2)=(m_head_of x55.2))) then (s54.1++[(m_merged x55.2 s54.2).1]) else (s54.1++[x55.2])) (λ(v61:(List (List Int))) =>
 (Let (bif (decide ((m_head_of s54.2)=(m_head_of x55.2))) then (m_lowered ((m_merged x55.2 s54.2).2) (zbH P0 (some (x55.1+(1:Int))) none)) else s54.2) (λ(v62:(List Int)) =>
 (Sum.inl (v61,v62)))))))):((List (List Int))×(List Int)) ⊕ (List (List Int)))) (λ(i:Nat) (s54:(List (List Int))×(List Int))=>Lat.TI P0 N0 A0 S0 i s54) (λb=>.inl ⟨_,_,rfl⟩) (zgA (m:=false) lI (xs:=P0) (zab (i:=0) rfl)) (.eq (.eq (.eq (.oldL (.eq (.eq (.eq .nil))))))) (by rw [hL];exact Lat.TI.start p2 p3 p4 p5) (λi56 x55 s54 hx57 hI58=>have v57:=zcP hx57;⟨(by intro z hz;simp only [head_eq,zgN,zgm,zc9] at hz;exact Lat.TI.step (by assumption) p2 p3 (by assumption) hz),
 (zaH (b:=(decide ((m_head_of s54.2)<(m_head_of x55.2)))) (zfy (λ(s54:(List (List Int))×(List Int))=>([.va false (dQ K (List.map lI P0)),.va false (dQ K (List.map dI P1)),.va true (dL (List.map dI s54.2)),.ow false (List.map lI s54.1),.no,.no,.no]:L2.Ctx)) (λ(r:(List (List Int)))=>Oc.rt false (dL (List.map lI r)))) (zam (zaL (x:=(m_head_of s54.2)) (y:=(m_head_of x55.2)) (Ev.any (m:=true) (zao (x:=s54.2) (zaa (Ev.old (Ev.weak (K:=K) (zab (i:=2) rfl))) zae) rfl (by show zaM s54.2;exact trivial) rfl)) (Ev.any (m:=true) (zao (x:=x55.2) (zaa (Ev.weak (K:=K) (zab (i:=5) rfl)) zae) rfl (by show zaM x55.2;exact trivial) rfl)))) (λh59=>(zak (zbk (i:=3) rfl (zai (zaw (EvO.ev (zbz (f:=lI) (xs:=(s54.1++[(m_upright s54.2)])) (ys:=(zbH P0 (some x55.1) none)) (EvO.ev (zbz (f:=lI) (xs:=s54.1) (ys:=[(m_upright s54.2)]) (zab (i:=3) rfl) (EvO.ev (za4 (zaa (zao (x:=s54.2) (zaa (Ev.old (zab (i:=2) rfl)) zae) rfl (by show zb5 s54.2;first | exact zm2 p1 (by assumption) (p3 _ (Lat.TI.mem (by assumption)).1) (by assumption) | exact zm3 p1 (by assumption) (by assumption)) rfl) zae) (by show 1≤sizeLine;decide))) (by exact znV (by assumption) (by assumption) p6))) (EvO.ev (zdi (f:=lI) (xs:=P0) (zab (i:=0) rfl) (zbY (Ev.any (m:=false) (zab (i:=4) rfl))) zcM)) (by exact zoJ (by assumption) (by assumption) p6)))))))) (λh59 =>
 (zah (zbZ (b:=(decide ((m_head_of s54.2)=(m_head_of x55.2)))) (λbb=>([.va false (dQ K (List.map lI P0)),.va false (dQ K (List.map dI P1)),.va true (dL (List.map dI (bif bb then (m_lowered ((m_merged x55.2 s54.2).2) (zbH P0 (some (x55.1+(1:Int))) none)) else s54.2))),.ow false (List.map lI (bif bb then (s54.1++[(m_merged x55.2 s54.2).1]) else (s54.1++[x55.2]))),.va false (dI x55.1),.va false (dL (List.map dI x55.2)),.no]:L2.Ctx)) (zam (zdm (x:=(m_head_of s54.2)) (y:=(m_head_of x55.2)) (Ev.any (m:=true) (zao (x:=s54.2) (zaa (Ev.old (Ev.weak (K:=K) (zab (i:=2) rfl))) zae) rfl (by show zaM s54.2;exact trivial) rfl)) (Ev.any (m:=true) (zao (x:=x55.2) (zaa (Ev.weak (K:=K) (zab (i:=5) rfl)) zae) rfl (by show zaM x55.2;exact trivial) rfl)))) (λh60=>(za0 (m:=true) (zao (x:=(x55.2,s54.2)) (zaa (Ev.weak (K:=K) (zab (i:=5) rfl)) (zaa (Ev.old (Ev.weak (K:=K) (zab (i:=2) rfl))) zae)) rfl (by show zeG x55.2 s54.2;exact Lat.TI.mrg (by assumption) p1 p3 (by assumption) (zoW (by assumption)) p7) rfl)
 (zcE (f:=lI) (xs:=s54.1) (x:=(m_merged x55.2 s54.2).1) rfl (Ev.old (ze1 (zab (i:=6) rfl) zay rfl)) (by exact zpm (by assumption) (by assumption) p6)
 (za0 (m:=true) (zao (x:=((m_merged x55.2 s54.2).2,(zbH P0 (some (x55.1+(1:Int))) none))) (zaa (Ev.old (Ev.weak (K:=K) (ze1 (zab (i:=6) rfl) zay rfl))) (zaa (Ev.weak (K:=K) (EvO.ev (zdi (f:=lI) (xs:=P0) (zab (i:=0) rfl) (zbY (zaL (x:=x55.1) (y:=(1:Int)) (Ev.any (m:=false) (zab (i:=4) rfl)) zay)) zcM))) zae)) rfl (by show zbi ((m_merged x55.2 s54.2).2) (zbH P0 (some (x55.1+(1:Int))) none);unfold zbi;rw [zgm];exact Lat.TI.low (by assumption) p1 p6 p3 (by assumption) (zoW (by assumption)) p7) rfl)
 (zal (.eq (.eq (.eq (.eq (.eq (.eq (.no .nil)))))))))))) (λh60=>(zcE (f:=lI) (xs:=s54.1) (x:=x55.2) rfl (zab (i:=5) rfl) (by exact zpm (by assumption) (by assumption) p6)
 (zal (.eq (.eq (.eq (.eq (.eq (.eq (.eq .nil))))))))))
 (zct (x:=(bif (decide ((m_head_of s54.2)=(m_head_of x55.2))) then (s54.1++[(m_merged x55.2 s54.2).1]) else (s54.1++[x55.2]))) (λv61=>([.va false (dQ K (List.map lI P0)),.va false (dQ K (List.map dI P1)),.va true (dL (List.map dI (bif (decide ((m_head_of s54.2)=(m_head_of x55.2))) then (m_lowered ((m_merged x55.2 s54.2).2) (zbH P0 (some (x55.1+(1:Int))) none)) else s54.2))),.ow false (List.map lI v61),.va false (dI x55.1),.va false (dL (List.map dI x55.2)),.no]:L2.Ctx)) (zfy (λ(s54:(List (List Int))×(List Int))=>([.va false (dQ K (List.map lI P0)),.va false (dQ K (List.map dI P1)),.va true (dL (List.map dI s54.2)),.ow false (List.map lI s54.1),.no,.no,.no]:L2.Ctx)) (λ(r:(List (List Int)))=>Oc.rt false (dL (List.map lI r)))) (λv61 hv61 =>
 (zct (x:=(bif (decide ((m_head_of s54.2)=(m_head_of x55.2))) then (m_lowered ((m_merged x55.2 s54.2).2) (zbH P0 (some (x55.1+(1:Int))) none)) else s54.2)) (λv62=>([.va false (dQ K (List.map lI P0)),.va false (dQ K (List.map dI P1)),.va true (dL (List.map dI v62)),.ow false (List.map lI v61),.va false (dI x55.1),.va false (dL (List.map dI x55.2)),.no]:L2.Ctx)) (zfy (λ(s54:(List (List Int))×(List Int))=>([.va false (dQ K (List.map lI P0)),.va false (dQ K (List.map dI P1)),.va true (dL (List.map dI s54.2)),.ow false (List.map lI s54.1),.no,.no,.no]:L2.Ctx)) (λ(r:(List (List Int)))=>Oc.rt false (dL (List.map lI r)))) (λv62 hv62 =>
 (zal (.eq (.eq (.eq (.eq (.no (.no (.eq .nil))))))))))))))))⟩) (λr63 hr63 hI =>
 (zbZ (b:=(decide ((m_head_of r63.2)<((r63.2.length:Nat):Int)))) (λbb=>([.va false (dQ K (List.map lI P0)),.va false (dQ K (List.map dI P1)),.va true (dL (List.map dI r63.2)),.ow false (List.map lI (bif bb then (r63.1++[(m_upright r63.2)]) else r63.1)),.no,.no,.no]:L2.Ctx)) (zam (zaL (x:=(m_head_of r63.2)) (y:=((r63.2.length:Nat):Int)) (Ev.any (m:=true) (zao (x:=r63.2) (zaa (Ev.old (Ev.weak (K:=K) (zab (i:=2) rfl))) zae) rfl (by show zaM r63.2;exact trivial) rfl)) (zbr (f:=dI) (xs:=r63.2) (Ev.old (Ev.weak (K:=K) (zab (i:=2) rfl)))))) (λh64=>(zcE (f:=lI) (xs:=r63.1) (x:=(m_upright r63.2)) rfl (zao (x:=r63.2) (zaa (Ev.old (zab (i:=2) rfl)) zae) rfl (by show zb5 r63.2;first | exact zm2 p1 (by assumption) (p3 _ (Lat.TI.mem (by assumption)).1) (by assumption) | exact zm3 p1 (by assumption) (by assumption)) rfl) (by exact zo6 (by assumption) p6)
 (zal (.eq (.eq (.eq (.eq (.eq (.eq (.eq .nil)))))))))) (λh64=>(zal (.eq (.eq (.eq (.eq (.eq (.eq (.eq .nil)))))))))
 (zct (x:=(bif (decide ((m_head_of r63.2)<((r63.2.length:Nat):Int))) then (r63.1++[(m_upright r63.2)]) else r63.1)) (λv65=>([.va false (dQ K (List.map lI P0)),.va false (dQ K (List.map dI P1)),.va true (dL (List.map dI r63.2)),.ow false (List.map lI v65),.no,.no,.no]:L2.Ctx)) (λ(r:(List (List Int)))=>Oc.rt false (dL (List.map lI r))) (λv65 hv65 =>
 (zbk (i:=3) rfl (zai (zaw (zab (i:=3) rfl))))))))))))
theorem zhp (ss:List (List Int)) (l:List Int):m_taken_in ss l=Lat.tin Lat.MG ss (Lat.low l ss):=by
 unfold m_taken_in
 simp only [head_eq,zgN,zgm,zc9]
 exact Lat.zrs ss _
theorem zn6 (x:List Int) (fl:List (List Int)):Let ([(m_lowered x fl)]++fl) (λ(y:List (List Int))=>y)=[Lat.low x fl]++fl:=by unfold Let;rw [zc9]
theorem zpF {steps fl:List (List Int)} {i:Nat} {x y:List Int} (h:Lat.zoM steps) (hx:steps.reverse[i]?=some x) (e:fl=Lat.stl (steps.drop (steps.length-i))):[y].length+fl.length≤PySem.sizeLine:=by
 obtain ⟨j,h1,_⟩:=Lat.ziq hx
 have:=Lat.zpw h (by omega) e
 apply zaj
 simp;omega
def m_settled (P0:(List (List Int))):(List (List Int)) :=
 (Let (List.foldl (λ(s66:(List (List Int))) (x67:(List Int))=>(Let ([(m_lowered x67 s66)]++s66) (λ(v71:(List (List Int))) =>
 v71))) [] (List.reverse P0)) (λ(r72:(List (List Int))) =>
 r72))
def zdg (P0:(List (List Int))):Prop:=Lat.zoM P0
def zfm (K:W.Frag) (A:Adr):Sp:=Spv (ι:=(List (List Int))) (λx=>[dQ K (List.map lI x)]) (λx=>zdg x) (λx=>.va true (dL (List.map lI (m_settled x))))
theorem zex:FnScope ["steps","flat","step"] ["steps"] (zad zdF):=⟨rfl,rfl,rfl,by decide +kernel,rfl,by decide +kernel,by decide +kernel⟩
theorem zjG (F:Fun K "settled" "settled" zdF f fd) (T:Txt K mg A) (G_lowered:Callee P w K mg base (CXE P w) 3 "lowered" ["row","steps"] (zcB K A)):FnOk P w K mg base (CXE P w) 4 f fd ["steps"] (zfm K A):=by
 refine F.okV zex (λ_=>rfl) (λcdv Ar outer s H E P0 hr hp=>?_)
 have hu:=hr.units
 replace hp:zdg P0:=hp
 unfold zdg at hp
 refine ⟨_,(zac (zap (i:=1) zex.nd rfl (Or.inl rfl) (zaP pa_nil))
 (zac (zd3 PassesOwn.never rfl (zmV rfl rfl T.reversed (pa_cons (pv 0) pa_nil)) (pg_name (i:=2) zex.nd rfl (Or.inl rfl) (Or.inl rfl))
 (zac (zap (i:=1) zex.nd rfl (Or.inl rfl) (zau zcm (zaP (pa_cons (zaB G_lowered (hr.mono (by decide)) rfl zaz (pa_cons (pv 2) (pa_cons (pv 1) pa_nil))) pa_nil)) (pv 1)))
 zaf))
 (zac (zaG (pv 1))
 zaf))),.inl ?_⟩
 show L2.Run _ ([.va false (dQ K (List.map lI P0)),.no,.no]:L2.Ctx) _ ((λ(r:(List (List Int)))=>Oc.rt true (dL (List.map lI r))) (m_settled P0))
 unfold m_settled
 exact (za0 (m:=true) (EvO.ev (zcR (m:=true) zae))
 (zc0 (s0:=[]) (λ(s66:(List (List Int)))=>([.va false (dQ K (List.map lI P0)),.va true (dL (List.map lI s66)),.no]:L2.Ctx)) (λ(r:(List (List Int)))=>Oc.rt true (dL (List.map lI r))) (λ(s66:(List (List Int))) (x67:(List Int))=>(Let ([(m_lowered x67 s66)]++s66) (λ(v71:(List (List Int))) =>
 v71))) (λ(i:Nat) (s66:(List (List Int)))=>s66=Lat.stl (P0.drop (P0.length-i))) (zmW (m:=false) lI (xs:=P0) (zab (i:=0) rfl)) (.eq (.eq (.eq .nil))) (by simp [Lat.stl]) (λi68 x67 s66 hx69 hI70=>have v69:=List.mem_of_getElem? hx69;⟨(by exact Lat.znS (by assumption) (by assumption) (zn6 _ _)),
 (zas (m:=true) (x:=([(m_lowered x67 s66)]++s66)) (λ(xs:(List (List Int)))=>dL (List.map lI xs)) (λz=>Oc.nx ((λ(s66:(List (List Int)))=>([.va false (dQ K (List.map lI P0)),.va true (dL (List.map lI s66)),.no]:L2.Ctx)) z)) (EvO.ev (zbz (f:=lI) (xs:=[(m_lowered x67 s66)]) (ys:=s66) (EvO.ev (za4 (zaa (zao (x:=(x67,s66)) (zaa (Ev.weak (K:=K) (zab (i:=2) rfl)) (zaa (Ev.old (Ev.weak (K:=K) (zab (i:=1) rfl))) zae)) rfl (by show zbi x67 s66;exact Lat.zni hp (by assumption) (by assumption)) rfl) zae) (by show 1≤sizeLine;decide))) (zab (i:=1) rfl) (by exact zpF hp (by assumption) (by assumption)))) (λv71 hv71 =>
 (zal (.eq (.eq (.no .nil))))))⟩) (λr72 hr72 hI =>
 (zai (zaw (zab (i:=1) rfl))))))
theorem zgM (ss:List (List Int)):m_settled ss=Lat.stl ss:=by
 unfold m_settled
 simp only [zc9]
 exact Lat.zrq ss
theorem zng {rows ss:List (List Int)} {r:List Int} {i:Nat} (hr:rows[i]?=some r) (e:ss=Lat.clm Lat.MG (rows.take i)):Let (m_settled (m_taken_in ss r)) (λ(y:List (List Int))=>y)=Lat.clm Lat.MG (rows.take (i+1)):=by
 unfold Let
 rw [zgM,zhp,Lat.zhk hr,e]
def m_climbed (P0:(List (List Int))):(List (List Int)) :=
 (Let (List.foldl (λ(s73:(List (List Int))) (x74:(List Int))=>(Let (m_settled (m_taken_in s73 x74)) (λ(v78:(List (List Int))) =>
 v78))) [] P0) (λ(r79:(List (List Int))) =>
 r79))
def zdf (P0:(List (List Int))):Prop:=Lat.zre P0
def zeA (K:W.Frag) (A:Adr):Sp:=Spv (ι:=(List (List Int))) (λx=>[dQ K (List.map lI x)]) (λx=>zdf x) (λx=>.va true (dL (List.map lI (m_climbed x))))
theorem zeB:FnScope ["rows","steps","row"] ["rows"] (zad zdE):=⟨rfl,rfl,rfl,by decide +kernel,rfl,by decide +kernel,by decide +kernel⟩
theorem zjv (F:Fun K "climbed" "climbed" zdE f fd) (T:Txt K mg A) (G_settled:Callee P w K mg base (CXE P w) 4 "settled" ["steps"] (zfm K A)) (G_taken_in:Callee P w K mg base (CXE P w) 4 "taken_in" ["steps","row"] (zeS K A)):FnOk P w K mg base (CXE P w) 5 f fd ["rows"] (zeA K A):=by
 refine F.okV zeB (λ_=>rfl) (λcdv Ar outer s H E P0 hr hp=>?_)
 have hu:=hr.units
 replace hp:zdf P0:=hp
 unfold zdf at hp
 obtain ⟨N0,B0,R0,p1,p2,p3⟩:=hp
 refine ⟨_,(zac (zap (i:=1) zeB.nd rfl (Or.inl rfl) (zaP pa_nil))
 (zac (zd3 PassesOwn.never rfl (zaN (K:=K) rfl (pv 0)) (pg_name (i:=2) zeB.nd rfl (Or.inl rfl) (Or.inl rfl))
 (zac (zap (i:=1) zeB.nd rfl (Or.inl rfl) (zaB G_settled (hr.mono (by decide)) rfl zaz (pa_cons (zaB G_taken_in (hr.mono (by decide)) rfl zaz (pa_cons (pv 1) (pa_cons (pv 2) pa_nil))) pa_nil)))
 zaf))
 (zac (zaG (pv 1))
 zaf))),.inl ?_⟩
 show L2.Run _ ([.va false (dQ K (List.map lI P0)),.no,.no]:L2.Ctx) _ ((λ(r:(List (List Int)))=>Oc.rt true (dL (List.map lI r))) (m_climbed P0))
 unfold m_climbed
 exact (za0 (m:=true) (EvO.ev (zcR (m:=true) zae))
 (zc0 (s0:=[]) (λ(s73:(List (List Int)))=>([.va false (dQ K (List.map lI P0)),.va true (dL (List.map lI s73)),.no]:L2.Ctx)) (λ(r:(List (List Int)))=>Oc.rt true (dL (List.map lI r))) (λ(s73:(List (List Int))) (x74:(List Int))=>(Let (m_settled (m_taken_in s73 x74)) (λ(v78:(List (List Int))) =>
 v78))) (λ(i:Nat) (s73:(List (List Int)))=>s73=Lat.clm Lat.MG (P0.take i)) (zbx (m:=false) lI (xs:=P0) (zab (i:=0) rfl)) (.eq (.eq (.eq .nil))) (by rfl) (λi75 x74 s73 hx76 hI77=>have v76:=List.mem_of_getElem? hx76;⟨(by exact zng (by assumption) (by assumption)),
 (zas (m:=true) (x:=(m_settled (m_taken_in s73 x74))) (λ(xs:(List (List Int)))=>dL (List.map lI xs)) (λz=>Oc.nx ((λ(s73:(List (List Int)))=>([.va false (dQ K (List.map lI P0)),.va true (dL (List.map lI s73)),.no]:L2.Ctx)) z)) (zao (x:=(m_taken_in s73 x74)) (zaa (Ev.weak (K:=K) (zao (x:=(s73,x74)) (zaa (Ev.old (Ev.weak (K:=K) (zab (i:=1) rfl))) (zaa (Ev.weak (K:=K) (zab (i:=2) rfl)) zae)) rfl (by show zdq s73 x74;exact (Lat.zle p1 p2 p3 (by assumption) (by assumption)).2.1) rfl)) zae) rfl (by show zdg (m_taken_in s73 x74);unfold zdg;rw [zhp];exact (Lat.zle p1 p2 p3 (by assumption) (by assumption)).2.2) rfl) (λv78 hv78 =>
 (zal (.eq (.eq (.no .nil))))))⟩) (λr79 hr79 hI =>
 (zai (zaw (zab (i:=1) rfl))))))
theorem zfl (rows:List (List Int)):m_climbed rows=Lat.clm Lat.MG rows:=by
 unfold m_climbed Lat.clm
 simp only [zgM,zhp]
 rfl
def TrP (rows:List (List Int)):Prop:=∃ n b R,Lat.Fit (n+rows.length) b R∧rows.length≤R∧∀ r∈rows,r.length=n∧Lat.Bit b r
theorem zpq {s:List (List Int)} {i:Nat} {y:List Int} (h:s.length≤i):(s++[y]).length≤i+1:=by simp;omega
theorem zqp {rows:List (List Int)} {i:Nat} {p:Int×List Int} {c:List Int} (q:i<rows.length∧p.1=(i:Int)∧rows[i]?=some p.2) (e:c=zdp ((rows.length:Nat):Int) [(0:Int)]):InB c.length p.1:=by
 rw [e,Lat.zdY];unfold InB;omega
theorem zq6 {n b R i:Nat} {rows:List (List Int)} {p:Int×List Int} {c c0:List Int} {y:Int} (p1:Lat.Fit (n+rows.length) b R) (p2:rows.length≤R) (p3:∀ r∈rows,r.length=n∧Lat.Bit b r) (q:i<rows.length∧p.1=(i:Int)∧rows[i]?=some p.2) (e0:c0=zdp ((rows.length:Nat):Int) [(0:Int)]) (e:c=setZ c0 p.1 y):p.2.length+c.length≤PySem.sizeLine:=by
 have h1:=(p3 _ (List.mem_of_getElem? q.2.2)).1
 have h2:=p1.1
 rw [e,setZ_len,e0,Lat.zdY,h1]
 exact zaj (by omega)
theorem zqU {n b R i:Nat} {rows s:List (List Int)} {p:Int×List Int} (p1:Lat.Fit (n+rows.length) b R) (p2:rows.length≤R) (h:s.length≤i) (q:i<rows.length∧p.1=(i:Int)∧rows[i]?=some p.2):s.length<PySem.sizeLine:=Nat.lt_of_le_of_lt (show _≤1000 by have:=p1.2.1;omega) (by decide)
theorem zoU {rows:List (List Int)}:List.foldl (λ(s:List (List Int)) (x:Int×List Int)=>Let (setZ (zdp ((rows.length:Nat):Int) [(0:Int)]) x.1 (1:Int)) (λ(c:List Int)=>s++[x.2++c])) [] (zc1 rows)=Lat.mark rows:=by
 show List.foldl (λ(s:List (List Int)) (x:Int×List Int)=>s++[x.2++Lat.zjV rows.length x.1]) [] (zc1 rows)=_
 rw [Lat.zht]
 rfl
theorem zoP {n b R:Nat} {rows ms:List (List Int)} (p1:Lat.Fit (n+rows.length) b R) (p2:rows.length≤R) (p3:∀ r∈rows,r.length=n∧Lat.Bit b r) (e:ms=List.foldl (λ(s:List (List Int)) (x:Int×List Int)=>Let (setZ (zdp ((rows.length:Nat):Int) [(0:Int)]) x.1 (1:Int)) (λ(c:List Int)=>s++[x.2++c])) [] (zc1 rows)):Lat.zre ms:=by
 rw [e,zoU]
 exact ⟨_,b,R,p1,by rw [Lat.zeW];exact p2,Lat.zgy p3⟩
def m_marked (P0:(List (List Int))):(List (List Int)) :=
 (Let (List.foldl (λ(s80:(List (List Int))) (x81:(Int×(List Int)))=>(Let (zdp ((P0.length:Nat):Int) [(0:Int)]) (λ(v85:(List Int)) =>
 (Let (setZ v85 x81.1 (1:Int)) (λ(v86:(List Int)) =>
 (s80++[(x81.2++v86)])))))) [] (zc1 P0)) (λ(r87:(List (List Int))) =>
 r87))
def zez (P0:(List (List Int))):Prop:=TrP P0
def zf3 (K:W.Frag) (A:Adr):Sp:=Spv (ι:=(List (List Int))) (λx=>[dQ K (List.map lI x)]) (λx=>zez x) (λx=>.va true (dL (List.map lI (m_marked x))))
theorem zea:FnScope ["rows","longer","place","row","counts"] ["rows"] (zad zeH):=⟨rfl,rfl,rfl,by decide +kernel,rfl,by decide +kernel,by decide +kernel⟩
theorem zkB (F:Fun K "marked" "marked" zeH f fd) (T:Txt K mg A) :FnOk P w K mg base (CXE P w) 1 f fd ["rows"] (zf3 K A):=by
 refine F.okV zea (λ_=>rfl) (λcdv Ar outer s H E P0 hr hp=>?_)
 have hu:=hr.units
 replace hp:zez P0:=hp
 unfold zez at hp
 obtain ⟨N0,B0,R0,p1,p2,p3⟩:=hp
 refine ⟨_,(zac (zap (i:=1) zea.nd rfl (Or.inl rfl) (zaP pa_nil))
 (zac (zd3 PassesOwn.never rfl (zgw rfl rfl T.enumerate (pa_cons (pv 0) pa_nil)) (zcg (K:=K) (n:=2) rfl rfl (zaQ (pg_name (i:=2) zea.nd rfl (Or.inl rfl) (Or.inl rfl)) (zaQ (pg_name (i:=3) zea.nd rfl (Or.inl rfl) (Or.inl rfl)) zdn)))
 (zac (zap (i:=4) zea.nd rfl (Or.inl rfl) (zau zlA (zaP (pa_cons zag pa_nil)) (pe_callB (zaA (K:=K) rfl) rfl T.len PySem.boot_len (pa_cons (pv 0) pa_nil))))
 (zac (zjg zag (ziU (pv 4) (pv 2) set_list))
 (zac (zcY (zcw (K:=K) rfl (pv 1) (pa_cons (zau zcm (pv 3) (pv 4)) pa_nil)))
 zaf))))
 (zac (zaG (pv 1))
 zaf))),.inl ?_⟩
 show L2.Run _ ([.va false (dQ K (List.map lI P0)),.no,.no,.no,.no]:L2.Ctx) _ ((λ(r:(List (List Int)))=>Oc.rt true (dL (List.map lI r))) (m_marked P0))
 unfold m_marked
 exact (run_setO (m:=true) (ds:=List.map lI []) (zcR (m:=true) zae)
 (zc0 (s0:=[]) (λ(s80:(List (List Int)))=>([.va false (dQ K (List.map lI P0)),.ow true (List.map lI s80),.no,.no,.no]:L2.Ctx)) (λ(r:(List (List Int)))=>Oc.rt true (dL (List.map lI r))) (λ(s80:(List (List Int))) (x81:(Int×(List Int)))=>(Let (zdp ((P0.length:Nat):Int) [(0:Int)]) (λ(v85:(List Int)) =>
 (Let (setZ v85 x81.1 (1:Int)) (λ(v86:(List Int)) =>
 (s80++[(x81.2++v86)])))))) (λ(i:Nat) (s80:(List (List Int)))=>s80.length≤i) (zgA (m:=false) lI (xs:=P0) (zab (i:=0) rfl)) (.eq (.eq (.eq (.eq (.eq .nil))))) (by exact Nat.le_refl 0) (λi82 x81 s80 hx83 hI84=>have v83:=zcP hx83;⟨(by exact zpq (by assumption)),
 (run_letO (m:=true) (x:=(zdp ((P0.length:Nat):Int) [(0:Int)])) (λz=>List.map dI z) (λz=>Oc.nx ((λ(s80:(List (List Int)))=>([.va false (dQ K (List.map lI P0)),.ow true (List.map lI s80),.no,.no,.no]:L2.Ctx)) z)) (ziB (f:=dI) (xs:=[(0:Int)]) (n:=((P0.length:Nat):Int)) (EvO.ev (za4 (zaa zay zae) (by show 1≤sizeLine;decide))) (zbr (f:=lI) (xs:=P0) (zab (i:=0) rfl)) (by have z:=p1.2.1;constructor<;>omega) (by show 1*_≤PySem.sizeLine;apply zaj;have z:=p1.2.1;omega)) (λv85 hv85 =>
 (zg0 (f:=dI) (xs:=v85) (x:=(1:Int)) (j:=x81.1) (λz=>Oc.nx ((λ(s80:(List (List Int)))=>([.va false (dQ K (List.map lI P0)),.ow true (List.map lI s80),.no,.no,.no]:L2.Ctx)) z)) rfl zay (Ev.any (m:=false) (zab (i:=2) rfl)) (by exact zqp (by assumption) (by assumption)) (λv86 hv86 =>
 (zbk (i:=4) rfl (zcE (f:=lI) (xs:=s80) (x:=(x81.2++v86)) rfl (EvO.ev (EvO.anyI (m:=false) (zbz (f:=dI) (xs:=x81.2) (ys:=v86) (zab (i:=3) rfl) (Ev.old (zab (i:=4) rfl)) (by exact zq6 p1 p2 p3 (by assumption) (by assumption) (by assumption))))) (by exact zqU p1 p2 (by assumption) (by assumption))
 (zal (.eq (.eq (.no (.no (.no .nil))))))))))))⟩) (λr87 hr87 hI =>
 (zbk (i:=1) rfl (zai (zaw (zab (i:=1) rfl)))))))
def m_traced (P0:(List (List Int))):(List (List Int)) :=
 (m_climbed (m_marked P0))
def zde (P0:(List (List Int))):Prop:=TrP P0
def zeo (K:W.Frag) (A:Adr):Sp:=Spv (ι:=(List (List Int))) (λx=>[dQ K (List.map lI x)]) (λx=>zde x) (λx=>.va true (dL (List.map lI (m_traced x))))
theorem zlv:FnScope ["rows"] ["rows"] (zad zeF):=⟨rfl,rfl,rfl,by decide +kernel,rfl,by decide +kernel,by decide +kernel⟩
theorem zk3 (F:Fun K "traced" "traced" zeF f fd) (T:Txt K mg A) (G_climbed:Callee P w K mg base (CXE P w) 5 "climbed" ["rows"] (zeA K A)) (G_marked:Callee P w K mg base (CXE P w) 1 "marked" ["rows"] (zf3 K A)):FnOk P w K mg base (CXE P w) 6 f fd ["rows"] (zeo K A):=by
 refine F.okV zlv (λ_=>rfl) (λcdv Ar outer s H E P0 hr hp=>?_)
 have hu:=hr.units
 replace hp:zde P0:=hp
 unfold zde at hp
 obtain ⟨N0,B0,R0,p1,p2,p3⟩:=hp
 refine ⟨_,(zac (zaG (zaB G_climbed (hr.mono (by decide)) rfl zaz (pa_cons (zaB G_marked (hr.mono (by decide)) rfl zaz (pa_cons (pv 0) pa_nil)) pa_nil)))
 zaf),.inl ?_⟩
 show L2.Run _ ([.va false (dQ K (List.map lI P0))]:L2.Ctx) _ ((λ(r:(List (List Int)))=>Oc.rt true (dL (List.map lI r))) (m_traced P0))
 unfold m_traced
 exact (zai (zaw (zao (x:=(m_marked P0)) (zaa (Ev.old (Ev.weak (K:=K) (zao (x:=P0) (zaa (zab (i:=0) rfl) zae) rfl (by show zez P0;exact ⟨N0,B0,R0,p1,p2,p3⟩) rfl))) zae) rfl (by show zdf (m_marked P0);exact zoP p1 p2 p3 rfl) rfl)))
theorem zdD (rows:List (List Int)):m_traced rows=Lat.clm Lat.MG (Lat.mark rows):=by
 unfold m_traced
 rw [zfl]
 exact congrArg _ zoU
theorem zin {rows:List (List Int)} (h:TrP rows):(m_traced rows).length≤31:=by
 obtain ⟨n,b,R,p1,p2,p3⟩:=h
 rw [zdD]
 have:=(Lat.zf8 p1 (rows:=Lat.mark rows) (by rw [Lat.zeW];exact p2) (Lat.zgy p3)).2.1
 have:=p1.2.1
 omega
theorem zqO {rows:List (List Int)} (h:TrP rows):(m_traced rows).length≤PySem.sizeLine:=zaj (by have:=zin h;omega)
theorem znX {rows ys:List (List Int)} {c:List Int->Bool} (h:TrP rows) (e:ys=List.map (λ(x:List Int)=>x) (List.filter c (m_traced rows))):ys.length≤31:=by
 rw [e,List.length_map]
 exact Nat.le_trans (List.length_filter_le _ _) (zin h)
def zqo (ss:List (List Int)) (x:List Int) (m:Int):Prop:=0≤m∧m≤24∧x.length≤24∧Lat.LowP (m_times x (-(1:Int))++zdp m [(0:Int)]) ss
theorem zns {ss:List (List Int)} {x:List Int} {m:Int} (h:zqo ss x m):(m_times x (-(1:Int))).length+(zdp m [(0:Int)]).length≤PySem.sizeLine:=by
 obtain ⟨h1,h2,h3,h4⟩:=h
 obtain ⟨k,rfl⟩:∃ k:Nat,m=(k:Int):=⟨m.toNat,by omega⟩
 exact zaj (by rw [Lat.zdY,show (m_times x (-(1:Int))).length=x.length from Lat.zaO];omega)
def m_tails (P0:(List (List Int))) (P1:Int):(List (List Int)) :=
 (List.map (λ(x88:(List Int))=>(zbH x88 (some P1) none)) (List.filter (λ(x88:(List Int))=>(decide (P1≤(m_head_of x88)))) P0))
def ze5 (P0:(List (List Int))) (P1:Int):Prop:=P0.length≤1000
def zhD (K:W.Frag) (A:Adr):Sp:=Spv (ι:=(List (List Int))×Int) (λx=>[dQ K (List.map lI x.1),dI x.2]) (λx=>ze5 x.1 x.2) (λx=>.va true (dL (List.map lI (m_tails x.1 x.2))))
theorem zl6:FnScope ["steps","many"] ["steps","many"] (zad zeQ):=⟨rfl,rfl,rfl,by decide +kernel,rfl,by decide +kernel,by decide +kernel⟩
theorem zmj (F:Fun K "tails" "tails" zeQ f fd) (T:Txt K mg A) (G_head_of:Callee P w K mg base (CXE P w) 1 "head_of" ["row"] (zbE K A)):FnOk P w K mg base (CXE P w) 2 f fd ["steps","many"] (zhD K A):=by
 refine F.okV zl6 (λ_=>rfl) (λcdv Ar outer s H E x hr hp=>?_)
 obtain ⟨P0,P1⟩:=x
 have hu:=hr.units
 replace hp:ze5 P0 P1:=hp
 unfold ze5 at hp
 refine ⟨_,(zac (zaG (zb9 rfl (.of (osc:=(zad zeQ)) (N:=["steps","many"]) (own:=["step"]) (fvn:=["many"]) (fv:=[1]) rfl rfl (by decide +kernel)) (zaN (K:=K) rfl (pv 0)) (λ_ _ _ _ _=>⟨(pg_name (i:=0) (show (["step","many"]:List Str).Nodup by decide +kernel) rfl (Or.inl rfl) (Or.inr rfl)),(zhr (zat zqP (zaB G_head_of (hr.mono (by decide)) rfl zaz (pa_cons (pv 0) pa_nil)) (pv 1) (zaD _))),(zcj (zbI (K:=K) rfl) (pv 0) (zcV (pv 1)) zdB)⟩)))
 zaf),.inl ?_⟩
 show L2.Run _ ([.va false (dQ K (List.map lI P0)),.va false (dI P1)]:L2.Ctx) _ ((λ(r:(List (List Int)))=>Oc.rt true (dL (List.map lI r))) (m_tails P0 P1))
 unfold m_tails
 exact (zai (zaw (EvO.ev (EvO.conv (zgE (c:=λ(x88:(List Int))=>(decide (P1≤(m_head_of x88)))) (g:=(λ(x88:(List Int))=>dL (List.map dI (zbH x88 (some P1) none)))) (zbx (m:=false) lI (xs:=P0) (zab (i:=0) rfl)) (by exact zaj (by omega)) ⟨by decide,by decide⟩ (λi89 x88 hx90=>have v90:=List.mem_of_getElem? hx90;(zam (zaL (x:=(m_head_of x88)) (y:=P1) (Ev.any (m:=true) (zao (x:=x88) (zaa (Ev.weak (K:=K) (zab (i:=0) rfl)) zae) rfl (by show zaM x88;exact trivial) rfl)) (Ev.any (m:=false) (zab (i:=1) rfl))))) (λi89 x88 hx90 hc=>have v90:=List.mem_of_getElem? hx90;(EvO.ev (EvO.anyI (m:=false) (zdi (f:=dI) (xs:=x88) (Ev.weak (K:=K) (zab (i:=0) rfl)) (zbY (Ev.any (m:=false) (zab (i:=1) rfl))) zcM))))) (by first | (rw [List.map_map];rfl) | (simp only [cond_true,cond_false];rw [List.map_map];rfl))))))
theorem zhG {l:List Int} {n:Nat}:zbH l none (some (n:Int))=l.take n:=by
 unfold zbH
 rw [HT.sIx_nat,HT.sIx_none]
 show (l.drop 0).take (min n l.length-0)=_
 rw [List.drop_zero,Nat.sub_zero]
 by_cases h:n≤l.length
 ·rw [Nat.min_eq_left h]
 ·rw [Nat.min_eq_right (by omega),List.take_of_length_le (by omega),List.take_of_length_le (by omega)]
theorem zlI {ss:List (List Int)} {n:Nat}:m_tails ss (n:Int)=Lat.zjL n ss:=by
 unfold m_tails Lat.zjL
 simp only [head_eq,Lat.zdv]
 have e:(λ(x:List Int)=>decide ((n:Int)≤(Lat.hd x:Int)))=λ(x:List Int)=>decide (n≤Lat.hd x):=funext λx=>by simp
 rw [e]
def m_counted (P0:(List (List Int))) (P1:(List Int)) (P2:Int):(Option (List Int)) :=
 (Let (m_lowered ((m_times P1 (-(1:Int)))++(zdp P2 [(0:Int)])) P0) (λ(v91:(List Int)) =>
 (bif ((zbH v91 none (some ((P1.length:Nat):Int))).any (· != 0)) then none
 else (some (zbH v91 (some ((P1.length:Nat):Int)) none)))))
def zdW (P0:(List (List Int))) (P1:(List Int)) (P2:Int):Prop:=zqo P0 P1 P2
def zfu (K:W.Frag) (A:Adr):Sp:=Spv (ι:=(List (List Int))×(List Int)×Int) (λx=>[dQ K (List.map lI x.1),dQ K (List.map dI x.2.1),dI x.2.2]) (λx=>zdW x.1 x.2.1 x.2.2) (λx=>.va true (dOpt lI (m_counted x.1 x.2.1 x.2.2)))
theorem zgO:FnScope ["steps","basket","many","left"] ["steps","basket","many"] (zad zdL):=⟨rfl,rfl,rfl,by decide +kernel,rfl,by decide +kernel,by decide +kernel⟩
theorem zjH (F:Fun K "counted" "counted" zdL f fd) (T:Txt K mg A) (G_lowered:Callee P w K mg base (CXE P w) 3 "lowered" ["row","steps"] (zcB K A)) (G_times:Callee P w K mg base (CXE P w) 1 "times" ["some","many"] (zc5 K A)):FnOk P w K mg base (CXE P w) 4 f fd ["steps","basket","many"] (zfu K A):=by
 refine F.okV zgO (λ_=>rfl) (λcdv Ar outer s H E x hr hp=>?_)
 obtain ⟨P0,P1,P2⟩:=x
 have hu:=hr.units
 replace hp:zdW P0 P1 P2:=hp
 unfold zdW at hp
 refine ⟨_,(zac (zap (i:=3) zgO.nd rfl (Or.inl rfl) (zaB G_lowered (hr.mono (by decide)) rfl zaz (pa_cons (zau zcm (zaB G_times (hr.mono (by decide)) rfl zaz (pa_cons (pv 1) (pa_cons (zie zgz zag) pa_nil))) (zau zlA (zaP (pa_cons zag pa_nil)) (pv 2))) (pa_cons (pv 0) pa_nil))))
 (zac (zbW (zlz (pe_callB (zkT (K:=K) rfl rfl) rfl T.any PyProof.Rows.boot_any (pa_cons (zcj (zbI (K:=K) rfl) (pv 3) zdB (zcV (pe_callB (zaA (K:=K) rfl) rfl T.len PySem.boot_len (pa_cons (pv 1) pa_nil)))) pa_nil)))
 (zac (zaG zgb)
 zaf)
 zaf)
 (zac (zaG (zcj (zbI (K:=K) rfl) (pv 3) (zcV (pe_callB (zaA (K:=K) rfl) rfl T.len PySem.boot_len (pa_cons (pv 1) pa_nil))) zdB))
 zaf))),.inl ?_⟩
 show L2.Run _ ([.va false (dQ K (List.map lI P0)),.va false (dQ K (List.map dI P1)),.va false (dI P2),.no]:L2.Ctx) _ ((λ(r:(Option (List Int)))=>Oc.rt true (dOpt lI r)) (m_counted P0 P1 P2))
 unfold m_counted
 exact (zas (m:=true) (x:=(m_lowered ((m_times P1 (-(1:Int)))++(zdp P2 [(0:Int)])) P0)) lI (λ(r:(Option (List Int)))=>Oc.rt true (dOpt lI r)) (zao (x:=(((m_times P1 (-(1:Int)))++(zdp P2 [(0:Int)])),P0)) (zaa (Ev.weak (K:=K) (EvO.ev (zbz (f:=dI) (xs:=(m_times P1 (-(1:Int)))) (ys:=(zdp P2 [(0:Int)])) (EvO.ev (EvO.anyI (m:=true) (zaV (x:=(P1,(-(1:Int)))) (zaa (zab (i:=1) rfl) (zaa (ziP (x:=(1:Int)) zay) zae)) rfl (by show zaY P1 (-(1:Int));exact ⟨by have z:=hp.2.2.1;omega,λ_ _=>.inr (.inl ⟨by decide,by decide⟩)⟩) rfl))) (EvO.ev (ziB (f:=dI) (xs:=[(0:Int)]) (n:=P2) (EvO.ev (za4 (zaa zay zae) (by show 1≤sizeLine;decide))) (Ev.any (m:=false) (zab (i:=2) rfl)) (by have z:=hp.1;have z2:=hp.2.1;constructor<;>omega) (by show 1*_≤PySem.sizeLine;apply zaj;have z:=hp.1;have z2:=hp.2.1;omega))) (by exact zns hp)))) (zaa (zab (i:=0) rfl) zae)) rfl (by show zbi ((m_times P1 (-(1:Int)))++(zdp P2 [(0:Int)])) P0;exact hp.2.2.2) rfl) (λv91 hv91 =>
 (zaH (b:=((zbH v91 none (some ((P1.length:Nat):Int))).any (· != 0))) (λ(r:(Option (List Int)))=>Oc.rt true (dOpt lI r)) (zig (zpG (xs:=(zbH v91 none (some ((P1.length:Nat):Int)))) (Ev.weak (K:=K) (EvO.ev (EvO.anyI (m:=true) (zdi (f:=dI) (xs:=v91) (Ev.weak (K:=K) (zab (i:=3) rfl)) zcM (zbY (zbr (f:=dI) (xs:=P1) (zab (i:=1) rfl))))))))) (λh92=>(zak (zai (zaw zay)))) (λh92 =>
 (zah (zai (zaw (EvO.ev (EvO.anyI (m:=true) (zdi (f:=dI) (xs:=v91) (Ev.weak (K:=K) (zab (i:=3) rfl)) (zbY (zbr (f:=dI) (xs:=P1) (zab (i:=1) rfl))) zcM))))))))))
def zff (P0:(List (List Int))) (P1:(List Int)) (P2:(List (List Int))):StairsD:=⟨P0,P1,P2⟩
def zbA (P0:(List (List Int))) (P1:(List Int)) (P2:(List (List Int))):Prop:=True
def zdx (K:W.Frag) (A:Adr):Sp:=zlT (ι:=(List (List Int))×(List Int)×(List (List Int))) A.Stairs (λx=>[dL (List.map lI x.1),dL (List.map dI x.2.1),dL (List.map lI x.2.2)]) (λx=>zbA x.1 x.2.1 x.2.2) false (λx=>[("steps",dL (List.map lI ((zff x.1 x.2.1 x.2.2).steps))),("heads",dL (List.map dI ((zff x.1 x.2.1 x.2.2).heads))),("roads",dL (List.map lI ((zff x.1 x.2.1 x.2.2).roads)))])
theorem ze9:FnScope ["self","steps","heads","roads"] ["self","steps","heads","roads"] (zad za8):=⟨rfl,rfl,rfl,by decide +kernel,rfl,by decide +kernel,by decide +kernel⟩
theorem zeV (F:Fun K "__init__" "Stairs.__init__" za8 f fd) (T:Txt K mg A) :FnOk P w K mg base (CXE P w) 1 f fd ["self","steps","heads","roads"] (zdx K A):=by
 refine F.okI ze9 (λ_=>rfl) (λcdv Ar outer s H E x hr hp=>?_)
 obtain ⟨P0,P1,P2⟩:=x
 have hu:=hr.units
 replace hp:zbA P0 P1 P2:=hp
 unfold zbA at hp
 refine ⟨_,(zac (zfH (pv 0) (pv 1) rfl)
 (zac (zfH (pv 0) (pv 2) rfl)
 (zac (zfH (pv 0) (pv 3) rfl)
 zaf))),λp dx=>⟨([.ob false A.Stairs p dx [("steps",dL (List.map lI P0)),("heads",dL (List.map dI P1)),("roads",dL (List.map lI P2))],.va false (dL (List.map lI P0)),.va false (dL (List.map dI P1)),.va false (dL (List.map lI P2))]:L2.Ctx),?_,rfl⟩⟩
 show L2.Run _ ([.ob false A.Stairs p dx [],.va false (dL (List.map lI P0)),.va false (dL (List.map dI P1)),.va false (dL (List.map lI P2))]:L2.Ctx) _ _
 exact (zdy (i:=0) rfl (zab (i:=1) rfl) T.Stairs_cl T.Stairs_steps [] rfl (by decide +kernel) (by decide)
 (zdy (i:=0) rfl (zab (i:=2) rfl) T.Stairs_cl T.Stairs_heads ["steps"] rfl (by decide +kernel) (by decide)
 (zdy (i:=0) rfl (zab (i:=3) rfl) T.Stairs_cl T.Stairs_roads ["steps","heads"] rfl (by decide +kernel) (by decide)
 (zal (Wk.refl _)))))
def m_stairs (P0:BookD):StairsD :=
 (Let (List.map (λ(x93:(List Int))=>x93) (List.filter (λ(x93:(List Int))=>(decide ((m_head_of x93)<P0.many))) (m_traced P0.swaps))) (λ(v96:(List (List Int))) =>
 (Let (List.map (λ(x97:(List Int))=>(zbH x97 none (some P0.many))) v96) (λ(v100:(List (List Int))) =>
 (Let (List.map (λ(x101:(List Int))=>(m_head_of x101)) v96) (λ(hv104:(List Int)) =>
 (Let (List.map (λ(x105:(List Int))=>(zbH x105 (some P0.many) none)) v96) (λ(v108:(List (List Int))) =>
 (zff v100 hv104 v108)))))))))
def zdS (P0:BookD):Prop:=TrP P0.swaps∧0≤P0.many∧P0.many≤100
def zgu (K:W.Frag) (A:Adr):Sp:=Spv (ι:=BookD) (λx=>[zaK A.Book x]) (λx=>zdS x) (λx=>.va true (zfv A.Stairs (m_stairs x)))
theorem zei:FnScope ["book","rows","steps","heads","roads"] ["book"] (zad zcJ):=⟨rfl,rfl,rfl,by decide +kernel,rfl,by decide +kernel,by decide +kernel⟩
theorem zkO (F:Fun K "stairs" "stairs" zcJ f fd) (T:Txt K mg A) (G_head_of:Callee P w K mg base (CXE P w) 1 "head_of" ["row"] (zbE K A)) (G_traced:Callee P w K mg base (CXE P w) 6 "traced" ["rows"] (zeo K A)) {f_Stairs:Addr} {fd_Stairs:FuncData} (M_Stairs:Mk K A.Stairs f_Stairs) (G_Stairs___init__:FnOk P w K mg base (CXE P w) 1 f_Stairs fd_Stairs ["self","steps","heads","roads"] (zdx K A)) (b_Stairs___init__:zeR K fd_Stairs ["self","steps","heads","roads"] []):FnOk P w K mg base (CXE P w) 7 f fd ["book"] (zgu K A):=by
 refine F.okV zei (λ_=>rfl) (λcdv Ar outer s H E P0 hr hp=>?_)
 have hu:=hr.units
 replace hp:zdS P0:=hp
 unfold zdS at hp
 refine ⟨_,(zac (zdV (i:=1) rfl zei.nd rfl rfl (.of (osc:=(zad zcJ)) (N:=["book","rows","steps","heads","roads"]) (own:=["row"]) (fvn:=["book"]) (fv:=[0]) rfl rfl (by decide +kernel)) (zaN (K:=K) rfl (zaB G_traced (hr.mono (by decide)) rfl zaz (pa_cons (za3 (K:=K) rfl (pv 0) rfl) pa_nil))) (λ_ _ _ _ _=>⟨(pg_name (i:=0) (show (["row","book"]:List Str).Nodup by decide +kernel) rfl (Or.inl rfl) (Or.inr rfl)),(zhr (zat zgs (zaB G_head_of (hr.mono (by decide)) rfl zaz (pa_cons (pv 0) pa_nil)) (za3 (K:=K) rfl (pv 1) rfl) (zaD _))),(pv 0)⟩))
 (zac (zdV (i:=2) rfl zei.nd rfl rfl (.of (osc:=(zad zcJ)) (N:=["book","rows","steps","heads","roads"]) (own:=["row"]) (fvn:=["book"]) (fv:=[0]) rfl rfl (by decide +kernel)) (zaN (K:=K) rfl (pv 1)) (λ_ _ _ _ _=>⟨(pg_name (i:=0) (show (["row","book"]:List Str).Nodup by decide +kernel) rfl (Or.inl rfl) (Or.inr rfl)),zbm,(zcj (zbI (K:=K) rfl) (pv 0) zdB (zcV (za3 (K:=K) rfl (pv 1) rfl)))⟩))
 (zac (zdV (i:=3) rfl zei.nd rfl rfl (.of (osc:=(zad zcJ)) (N:=["book","rows","steps","heads","roads"]) (own:=["row"]) (fvn:=[]) (fv:=[]) rfl rfl (by decide +kernel)) (zaN (K:=K) rfl (pv 1)) (λ_ _ _ _ _=>⟨(pg_name (i:=0) (show (["row"]:List Str).Nodup by decide +kernel) rfl (Or.inl rfl) (Or.inr rfl)),zbm,(zaB G_head_of (hr.mono (by decide)) rfl zaz (pa_cons (pv 0) pa_nil))⟩))
 (zac (zdV (i:=4) rfl zei.nd rfl rfl (.of (osc:=(zad zcJ)) (N:=["book","rows","steps","heads","roads"]) (own:=["row"]) (fvn:=["book"]) (fv:=[0]) rfl rfl (by decide +kernel)) (zaN (K:=K) rfl (pv 1)) (λ_ _ _ _ _=>⟨(pg_name (i:=0) (show (["row","book"]:List Str).Nodup by decide +kernel) rfl (Or.inl rfl) (Or.inr rfl)),zbm,(zcj (zbI (K:=K) rfl) (pv 0) (zcV (za3 (K:=K) rfl (pv 1) rfl)) zdB)⟩))
 (zac (zaG (zhC M_Stairs G_Stairs___init__ (hr.mono (by decide)) rfl T.Stairs b_Stairs___init__ .nil zaz (pa_cons (pv 2) (pa_cons (pv 3) (pa_cons (pv 4) pa_nil)))))
 zaf))))),.inl ?_⟩
 show L2.Run _ ([.va false (zaK A.Book P0),.no,.no,.no,.no]:L2.Ctx) _ ((λ(r:StairsD)=>Oc.rt true (zfv A.Stairs r)) (m_stairs P0))
 unfold m_stairs
 exact (zas (m:=true) (x:=(List.map (λ(x93:(List Int))=>x93) (List.filter (λ(x93:(List Int))=>(decide ((m_head_of x93)<P0.many))) (m_traced P0.swaps)))) (λ(xs:(List (List Int)))=>dL (List.map lI xs)) (λ(r:StairsD)=>Oc.rt true (zfv A.Stairs r)) (EvO.ev (EvO.conv (zgE (c:=λ(x93:(List Int))=>(decide ((m_head_of x93)<P0.many))) (g:=(λ(x93:(List Int))=>dL (List.map dI x93))) (zbx (m:=true) lI (xs:=(m_traced P0.swaps)) (Ev.weak (K:=K) (zao (x:=P0.swaps) (zaa (Ev.weak (K:=K) (zcr (zab (i:=0) rfl) T.Book_cl T.Book_swaps rfl)) zae) rfl (by show zde P0.swaps;exact hp.1) rfl))) (by exact zqO hp.1) ⟨by decide,by decide⟩ (λi94 x93 hx95=>have v95:=List.mem_of_getElem? hx95;(zam (zaL (x:=(m_head_of x93)) (y:=P0.many) (Ev.any (m:=true) (zao (x:=x93) (zaa (Ev.old (Ev.weak (K:=K) (zab (i:=0) rfl))) zae) rfl (by show zaM x93;exact trivial) rfl)) (Ev.any (m:=false) (zcr (zab (i:=1) rfl) T.Book_cl T.Book_many rfl))))) (λi94 x93 hx95 hc=>have v95:=List.mem_of_getElem? hx95;(zab (i:=0) rfl))) (by first | (rw [List.map_map];rfl) | (simp only [cond_true,cond_false];rw [List.map_map];rfl)))) (λv96 hv96 =>
 have hR:=znX hp.1 hv96;(zas (m:=true) (x:=(List.map (λ(x97:(List Int))=>(zbH x97 none (some P0.many))) v96)) (λ(xs:(List (List Int)))=>dL (List.map lI xs)) (λ(r:StairsD)=>Oc.rt true (zfv A.Stairs r)) (EvO.ev (EvO.conv (zcd (g:=(λ(x97:(List Int))=>dL (List.map dI (zbH x97 none (some P0.many))))) (zbx (m:=true) lI (xs:=v96) (Ev.weak (K:=K) (zab (i:=1) rfl))) (by exact zaj (by omega)) ⟨by decide,by decide⟩ (λi98 x97 hx99=>have v99:=List.mem_of_getElem? hx99;(EvO.ev (EvO.anyI (m:=true) (zdi (f:=dI) (xs:=x97) (Ev.weak (K:=K) (zab (i:=0) rfl)) zcM (zbY (Ev.any (m:=false) (zcr (zab (i:=1) rfl) T.Book_cl T.Book_many rfl)))))))) (by first | (rw [List.map_map];rfl) | (simp only [cond_true,cond_false];rw [List.map_map];rfl)))) (λv100 hv100 =>
 (zas (m:=true) (x:=(List.map (λ(x101:(List Int))=>(m_head_of x101)) v96)) lI (λ(r:StairsD)=>Oc.rt true (zfv A.Stairs r)) (EvO.ev (EvO.conv (zcd (g:=(λ(x101:(List Int))=>dI (m_head_of x101))) (zbx (m:=true) lI (xs:=v96) (Ev.weak (K:=K) (zab (i:=1) rfl))) (by exact zaj (by omega)) ⟨by decide,by decide⟩ (λi102 x101 hx103=>have v103:=List.mem_of_getElem? hx103;(Ev.any (m:=true) (zao (x:=x101) (zaa (Ev.old (Ev.weak (K:=K) (zab (i:=0) rfl))) zae) rfl (by show zaM x101;exact trivial) rfl)))) (by first | (rw [List.map_map];rfl) | (simp only [cond_true,cond_false];rw [List.map_map];rfl)))) (λhv104 hheads104 =>
 (zas (m:=true) (x:=(List.map (λ(x105:(List Int))=>(zbH x105 (some P0.many) none)) v96)) (λ(xs:(List (List Int)))=>dL (List.map lI xs)) (λ(r:StairsD)=>Oc.rt true (zfv A.Stairs r)) (EvO.ev (EvO.conv (zcd (g:=(λ(x105:(List Int))=>dL (List.map dI (zbH x105 (some P0.many) none)))) (zbx (m:=true) lI (xs:=v96) (Ev.weak (K:=K) (zab (i:=1) rfl))) (by exact zaj (by omega)) ⟨by decide,by decide⟩ (λi106 x105 hx107=>have v107:=List.mem_of_getElem? hx107;(EvO.ev (EvO.anyI (m:=true) (zdi (f:=dI) (xs:=x105) (Ev.weak (K:=K) (zab (i:=0) rfl)) (zbY (Ev.any (m:=false) (zcr (zab (i:=1) rfl) T.Book_cl T.Book_many rfl))) zcM))))) (by first | (rw [List.map_map];rfl) | (simp only [cond_true,cond_false];rw [List.map_map];rfl)))) (λv108 hv108 =>
 (zai (zaw (zmy (i:=(v100,hv104,v108)) (zaa (zab (i:=2) rfl) (zaa (zab (i:=3) rfl) (zaa (zab (i:=4) rfl) zae))) rfl (by show zbA v100 hv104 v108;exact trivial))))))))))))
def rowsOf (n:Nat) (sw:List (List Int)):List (List Int):=List.filter (λ(x:List Int)=>decide (Lat.hd x<n)) (Lat.clm Lat.MG (Lat.mark sw))
theorem zj1 {b:BookD} {n:Nat} (hn:b.many=(n:Int)):m_stairs b=⟨Lat.cutS n (Lat.clm Lat.MG (Lat.mark b.swaps)),List.map (λ(x:List Int)=>(Lat.hd x:Int)) (rowsOf n b.swaps),List.map (λ(x:List Int)=>x.drop n) (rowsOf n b.swaps)⟩:=by
 unfold m_stairs zff Let
 simp only [zdD,head_eq,hn,zhG,Lat.zdv]
 have e:(λ(x:List Int)=>decide ((Lat.hd x:Int)<(n:Int)))=λ(x:List Int)=>decide (Lat.hd x<n):=funext λx=>by simp
 rw [e,List.map_id']
 rfl
def ziZ (P0:Int) (P1:(List (List Int))):BookD:=⟨P0,(List.map (λ(x109:(List Int))=>x109) P1)⟩
def zbo (P0:Int) (P1:(List (List Int))):Prop:=P1.length≤1000
def zd2 (K:W.Frag) (A:Adr):Sp:=zlT (ι:=Int×(List (List Int))) A.Book (λx=>[dI x.1,dQ K (List.map lI x.2)]) (λx=>zbo x.1 x.2) true (λx=>[("many",dI ((ziZ x.1 x.2).many)),("swaps",dL (List.map lI ((ziZ x.1 x.2).swaps)))])
theorem zfR:FnScope ["self","many","swaps"] ["self","many","swaps"] (zad zbb):=⟨rfl,rfl,rfl,by decide +kernel,rfl,by decide +kernel,by decide +kernel⟩
theorem zfO (F:Fun K "__init__" "Book.__init__" zbb f fd) (T:Txt K mg A) :FnOk P w K mg base (CXE P w) 1 f fd ["self","many","swaps"] (zd2 K A):=by
 refine F.okI zfR (λ_=>rfl) (λcdv Ar outer s H E x hr hp=>?_)
 obtain ⟨P0,P1⟩:=x
 have hu:=hr.units
 replace hp:zbo P0 P1:=hp
 unfold zbo at hp
 refine ⟨_,(zac (zfH (pv 0) (pv 1) rfl)
 (zac (zfH (pv 0) (zb9 rfl (.of (osc:=(zad zbb)) (N:=["self","many","swaps"]) (own:=["swap"]) (fvn:=[]) (fv:=[]) rfl rfl (by decide +kernel)) (zaN (K:=K) rfl (pv 2)) (λ_ _ _ _ _=>⟨(pg_name (i:=0) (show (["swap"]:List Str).Nodup by decide +kernel) rfl (Or.inl rfl) (Or.inr rfl)),zbm,(zcn (zbv (K:=K) rfl) rfl T.list PyProof.Rows.boot_list (pa_cons (pv 0) pa_nil))⟩)) rfl)
 zaf)),λp dx=>⟨([.ob true A.Book p dx [("many",dI P0),("swaps",dL (List.map lI (List.map (λ(x109:(List Int))=>x109) P1)))],.va false (dI P0),.va false (dQ K (List.map lI P1))]:L2.Ctx),?_,rfl⟩⟩
 show L2.Run _ ([.ob true A.Book p dx [],.va false (dI P0),.va false (dQ K (List.map lI P1))]:L2.Ctx) _ _
 exact (zdy (i:=0) rfl (Ev.any (m:=false) (zab (i:=1) rfl)) T.Book_cl T.Book_many [] rfl (by decide +kernel) (by decide)
 (zdy (i:=0) rfl (EvO.ev (EvO.conv (zcd (g:=(λ(x109:(List Int))=>dL (List.map dI x109))) (zbx (m:=false) lI (xs:=P1) (zab (i:=2) rfl)) (by exact zaj (by omega)) ⟨by decide,by decide⟩ (λi110 x109 hx111=>have v111:=List.mem_of_getElem? hx111;(EvO.ev (EvO.anyI (m:=false) (zd0 (Ev.weak (K:=K) (zab (i:=0) rfl))))))) (by first | (rw [List.map_map];rfl) | (simp only [cond_true,cond_false];rw [List.map_map];rfl)))) T.Book_cl T.Book_swaps ["many"] rfl (by decide +kernel) (by decide)
 (zal (Wk.refl _))))
def m_book_of (P0:Int) (P1:(List (List Int))):BookD :=
 (Let (List.foldl (λ(s114:Unit) (x115:(Int×(List Int)))=>()) () (zc1 P1)) (λ(r120:Unit) =>
 (ziZ P0 P1)))
def zdk (P0:Int) (P1:(List (List Int))):Prop:=1≤P0∧P0≤8∧P1.length≤12∧∀ s∈P1,(s.length:Int)=P0
def zfp (K:W.Frag) (A:Adr):Sp:=Spv (ι:=Int×(List (List Int))) (λx=>[dI x.1,dQ K (List.map lI x.2)]) (λx=>zdk x.1 x.2) (λx=>.va true (zaK A.Book (m_book_of x.1 x.2)))
theorem zfx:FnScope ["many","swaps","place","swap"] ["many","swaps"] (zad zdC):=⟨rfl,rfl,rfl,by decide +kernel,rfl,by decide +kernel,by decide +kernel⟩
theorem zjU (F:Fun K "book_of" "book_of" zdC f fd) (T:Txt K mg A)  {f_Book:Addr} {fd_Book:FuncData} (M_Book:Mk K A.Book f_Book) (G_Book___init__:FnOk P w K mg base (CXE P w) 1 f_Book fd_Book ["self","many","swaps"] (zd2 K A)) (b_Book___init__:zeR K fd_Book ["self","many","swaps"] []):FnOk P w K mg base (CXE P w) 3 f fd ["many","swaps"] (zfp K A):=by
 refine F.okV zfx (λ_=>rfl) (λcdv Ar outer s H E x hr hp=>?_)
 obtain ⟨P0,P1⟩:=x
 have hu:=hr.units
 replace hp:zdk P0 P1:=hp
 unfold zdk at hp
 obtain ⟨t_MOST_SWAPS,c_MOST_SWAPS⟩:=T.g_MOST_SWAPS
 obtain ⟨t_MOST_WARES,c_MOST_WARES⟩:=T.g_MOST_WARES
 refine ⟨_,(zac (zbW (PW.pt (zpl (zat zgs (pv 0) zag (zaD _)) (zmQ (zat zgI (pv 0) (pe_glob (v:=.int 8) rfl c_MOST_WARES ⟨_,rfl⟩) (zaD _)))))
 (zac zeD zaf)
 zaf)
 (zac (zbW (zat zgI (pe_callB (zaA (K:=K) rfl) rfl T.len PySem.boot_len (pa_cons (pv 1) pa_nil)) (pe_glob (v:=.int 12) rfl c_MOST_SWAPS ⟨_,rfl⟩) (zaD _))
 (zac zeD zaf)
 zaf)
 (zac (zd3 PassesOwn.never rfl (zgw rfl rfl T.enumerate (pa_cons (pv 1) pa_nil)) (zcg (K:=K) (n:=2) rfl rfl (zaQ (pg_name (i:=2) zfx.nd rfl (Or.inl rfl) (Or.inl rfl)) (zaQ (pg_name (i:=3) zfx.nd rfl (Or.inl rfl) (Or.inl rfl)) zdn)))
 (zac (zbW (zat zg6 (pe_callB (zaA (K:=K) rfl) rfl T.len PySem.boot_len (pa_cons (pv 3) pa_nil)) (pv 0) (zaD _))
 (zac zeD zaf)
 zaf)
 zaf))
 (zac (zaG (zhC M_Book G_Book___init__ (hr.mono (by decide)) rfl T.Book b_Book___init__ .nil zaz (pa_cons (pv 0) (pa_cons (pv 1) pa_nil))))
 zaf)))),.inl ?_⟩
 show L2.Run _ ([.va false (dI P0),.va false (dQ K (List.map lI P1)),.no,.no]:L2.Ctx) _ ((λ(r:BookD)=>Oc.rt true (zaK A.Book r)) (m_book_of P0 P1))
 unfold m_book_of
 exact (zbK (EvT.conv (znb (b:=(decide (P0<(1:Int)))) (zam (zaL (x:=P0) (y:=(1:Int)) (Ev.any (m:=false) (zab (i:=0) rfl)) zay)) (λhb=>(zam (zaL (x:=P0) (y:=8) (Ev.any (m:=false) (zab (i:=0) rfl)) zay)))) (by simp only [Bool.or_eq_false_iff,decide_eq_false_iff_not];omega)) (zah
 (zbK (EvT.conv (zam (zaL (x:=((P1.length:Nat):Int)) (y:=12) (zbr (f:=lI) (xs:=P1) (zab (i:=1) rfl)) zay)) (by ((try simp only [decide_eq_true_eq,decide_eq_false_iff_not,Bool.not_eq_true',Bool.not_eq_false',Bool.and_eq_true,Bool.or_eq_false_iff,Bool.or_eq_true,Bool.and_eq_false_iff,Bool.cond_eq_ite] at *)<;>omega))) (zah
 (zc0 (s0:=()) (λ(s114:Unit)=>([.va false (dI P0),.va false (dQ K (List.map lI P1)),.no,.no]:L2.Ctx)) (λ(r:BookD)=>Oc.rt true (zaK A.Book r)) (λ(s114:Unit) (x115:(Int×(List Int)))=>()) (λ_ _=>True) (zgA (m:=false) lI (xs:=P1) (zab (i:=1) rfl)) (.eq (.eq (.eq (.eq .nil)))) trivial (λi116 x115 s114 hx117 hI118=>have v117:=zcP hx117;⟨trivial,
 (zbK (EvT.conv (zam (zeY (x:=((x115.2.length:Nat):Int)) (y:=P0) (zbr (f:=dI) (xs:=x115.2) (Ev.weak (K:=K) (zab (i:=3) rfl))) (Ev.any (m:=false) (zab (i:=0) rfl)))) (by have:=hp.2.2.2 _ (zmv (by assumption));simp only [Bool.not_eq_false',decide_eq_true_eq];exact this)) (zah
 (zal (.eq (.eq (.no (.no .nil)))))))⟩) (λr120 hr120 hI =>
 (zai (zaw (ziM (i:=(P0,P1)) (zaa (Ev.any (m:=false) (zab (i:=0) rfl)) (zaa (zab (i:=1) rfl) zae)) rfl (by show zbo P0 P1;unfold zbo;omega))))))))))
theorem znd {w:Int} {sw:List (List Int)}:m_book_of w sw=⟨w,sw⟩:=by
 unfold m_book_of ziZ Let
 simp
def zan (P0:BookD) (P1:(List Int)):Except Xn Unit :=
 (bif (!decide (((P1.length:Nat):Int)=P0.many)) then (Except.error Xn.BadBasket)
 else (Except.ok ()))
def zaq (P0:BookD) (P1:(List Int)):Prop:=True
def zaE (K:W.Frag) (A:Adr):Sp:=Spv (ι:=BookD×(List Int)) (λx=>[zaK A.Book x.1,dQ K (List.map dI x.2)]) (λx=>zaq x.1 x.2) (λx=>zhH A.xc true (λ_=>dN) (zan x.1 x.2))
theorem zeJ:FnScope ["book","basket"] ["book","basket"] (zad zaR):=⟨rfl,rfl,rfl,by decide +kernel,rfl,by decide +kernel,by decide +kernel⟩
theorem zem (F:Fun K "refuse_bad_basket" "refuse_bad_basket" zaR f fd) (T:Txt K mg A) :FnOk P w K mg base (CXE P w) 1 f fd ["book","basket"] (zaE K A):=by
 refine F.okVXN zeJ (λ_=>rfl) (λcdv Ar outer s H E x hr hp O=>?_)
 obtain ⟨P0,P1⟩:=x
 have hu:=hr.units
 replace hp:zaq P0 P1:=hp
 unfold zaq at hp
 refine ⟨_,([.va false (zaK A.Book P0),.va false (dQ K (List.map dI P1))]:L2.Ctx),(zaC (zir (zat zg6 (pe_callB (zaA (K:=K) rfl) rfl T.len PySem.boot_len (pa_cons (pv 1) pa_nil)) (za3 (K:=K) rfl (pv 0) rfl) (zaD _))
 (zaC (zi5 O rfl rfl T.xm_BadBasket T.xi_BadBasket PySem.F.excBase_ValueError (pa_cons zbp pa_nil))
 zbB)
 zbB)
 zbB),?_⟩
 show L2.Run _ ([.va false (zaK A.Book P0),.va false (dQ K (List.map dI P1))]:L2.Ctx) _ ((foX A.xc ([.no,.no]:L2.Ctx) (λ(_:Unit)=>Oc.nx ([.va false (zaK A.Book P0),.va false (dQ K (List.map dI P1))]:L2.Ctx))) (zan P0 P1))
 unfold zan
 exact (zaH (b:=(!decide (((P1.length:Nat):Int)=P0.many))) (foX A.xc ([.no,.no]:L2.Ctx) (λ(_:Unit)=>Oc.nx ([.va false (zaK A.Book P0),.va false (dQ K (List.map dI P1))]:L2.Ctx))) (zam (zeY (x:=((P1.length:Nat):Int)) (y:=P0.many) (zbr (f:=dI) (xs:=P1) (zab (i:=1) rfl)) (Ev.any (m:=false) (zcr (zab (i:=0) rfl) T.Book_cl T.Book_many rfl)))) (λh121=>(zak (zhP (m:=false) (zaa zay zae) (by show 1≤sizeLine;decide) (.no (.no .nil))))) (λh121 =>
 (zah (zal (Wk.refl _)))))
theorem zcl {b:BookD} {x:List Int} {v:Unit} (h:zan b x=.ok v):(x.length:Int)=b.many:=by
 unfold zan at h
 cases q:(!decide (((x.length:Nat):Int)=b.many)) with
 | true=>rw [q] at h;cases h
 | false=>simpa using q
def m_refuse_bad_road (P0:BookD) (P1:(List Int)):Unit:=()
def zbs (P0:BookD) (P1:(List Int)):Prop:=P1.length=P0.swaps.length
def zch (K:W.Frag) (A:Adr):Sp:=Spv (ι:=BookD×(List Int)) (λx=>[zaK A.Book x.1,dQ K (List.map dI x.2)]) (λx=>zbs x.1 x.2) (λx=>.va true (dN))
theorem zdz:FnScope ["book","road"] ["book","road"] (zad zaS):=⟨rfl,rfl,rfl,by decide +kernel,rfl,by decide +kernel,by decide +kernel⟩
theorem ze0 (F:Fun K "refuse_bad_road" "refuse_bad_road" zaS f fd) (T:Txt K mg A) :FnOk P w K mg base (CXE P w) 1 f fd ["book","road"] (zch K A):=by
 refine F.okV zdz (λ_=>rfl) (λcdv Ar outer s H E x hr hp=>?_)
 obtain ⟨P0,P1⟩:=x
 have hu:=hr.units
 replace hp:zbs P0 P1:=hp
 unfold zbs at hp
 refine ⟨_,(zac (zbW (zat zg6 (pe_callB (zaA (K:=K) rfl) rfl T.len PySem.boot_len (pa_cons (pv 1) pa_nil)) (pe_callB (zaA (K:=K) rfl) rfl T.len PySem.boot_len (pa_cons (za3 (K:=K) rfl (pv 0) rfl) pa_nil)) (zaD _))
 (zac zeD zaf)
 zaf)
 zaf),.inr ⟨_,([.va false (zaK A.Book P0),.va false (dQ K (List.map dI P1))]:L2.Ctx),rfl,?_⟩⟩
 show L2.Run _ ([.va false (zaK A.Book P0),.va false (dQ K (List.map dI P1))]:L2.Ctx) _ _
 exact (zbK (EvT.conv (zam (zeY (x:=((P1.length:Nat):Int)) (y:=((P0.swaps.length:Nat):Int)) (zbr (f:=dI) (xs:=P1) (zab (i:=1) rfl)) (zbr (f:=lI) (xs:=P0.swaps) (Ev.weak (K:=K) (zcr (zab (i:=0) rfl) T.Book_cl T.Book_swaps rfl))))) (by ((try simp only [decide_eq_true_eq,decide_eq_false_iff_not,Bool.not_eq_true',Bool.not_eq_false',Bool.and_eq_true,Bool.or_eq_false_iff,Bool.or_eq_true,Bool.and_eq_false_iff,Bool.cond_eq_ite] at *)<;>omega))) (zah
 (zal (Wk.refl _))))
def zmK (b:BookD) (x:List Int):Prop:=∃ n a:Nat,b.many=(n:Int)∧x.length=n∧Lat.Bit a x∧a≤1000000∧n+b.swaps.length≤24∧b.swaps.length≤13∧∀ r∈b.swaps,r.length=n∧Lat.Bit 200 r
theorem zpC {b:BookD} {x:List Int} (h:zmK b x):TrP b.swaps:=by
 obtain ⟨n,a,h1,h2,h3,h4,h5,h6,h7⟩:=h
 exact ⟨n,200,13,Lat.zd9 h5,h6,h7⟩
theorem znZ {b:BookD} {x:List Int} {n a:Nat} (h2:x.length=n) (h3:Lat.Bit a x):(m_times x (-(1:Int))++zdp ((b.swaps.length:Nat):Int) [(0:Int)]).length=n+b.swaps.length∧Lat.Bit a (m_times x (-(1:Int))++zdp ((b.swaps.length:Nat):Int) [(0:Int)]):=by
 refine ⟨by rw [List.length_append,Lat.zdY,show (m_times x (-(1:Int))).length=x.length from Lat.zaO,h2],λy hy=>?_⟩
 rcases List.mem_append.mp hy with hy | hy
 ·obtain ⟨z,hz,rfl⟩:=List.mem_map.mp hy
  have:=h3 z hz
  omega
 ·obtain ⟨j,_,rfl⟩:=Lat.zhg hy
  rw [Lat.zhu];exact Nat.zero_le _
theorem znc {b:BookD} {x:List Int} (h:zmK b x):∃ n:Nat,b.many=(n:Int)∧(∀ t∈m_traced b.swaps,Lat.Sd (n+b.swaps.length) (Lat.sB 200 13) t)∧(m_traced b.swaps).length≤13∧n+b.swaps.length≤24∧x.length=n:=by
 obtain ⟨n,a,h1,h2,h3,h4,h5,h6,h7⟩:=h
 obtain ⟨S,s2,s3⟩:=Lat.zf8 (Lat.zd9 h5) (rows:=Lat.mark b.swaps) (by rw [Lat.zeW];omega) (Lat.zgy h7)
 rw [zdD]
 exact ⟨n,h1,s3,by omega,h5,h2⟩
theorem znC {b:BookD} {x:List Int} (h:zmK b x):Lat.LowP (m_times x (-(1:Int))++zdp ((b.swaps.length:Nat):Int) [(0:Int)]) (m_traced b.swaps):=by
 obtain ⟨n',e1,e2,e3,e4,e5⟩:=znc h
 obtain ⟨n,a,h1,h2,h3,h4,h5,h6,h7⟩:=h
 have hn:n'=n:=by omega
 subst hn
 have hv:=znZ (b:=b) h2 h3
 refine ⟨n'+b.swaps.length,a,Lat.sB 200 13,by omega,hv.1,by omega,hv.2,e2,?_⟩
 rw [show Lat.sB 200 13=40670 from rfl]
 have:=Nat.mul_le_mul_right (40670+1) e3
 omega
theorem zoE {b:BookD} {x:List Int} (h:zmK b x):zqo (m_traced b.swaps) x ((b.swaps.length:Nat):Int):=by
 have h':=znC h
 obtain ⟨n,a,h1,h2,h3,h4,h5,h6,h7⟩:=h
 exact ⟨by omega,by omega,by omega,h'⟩
def BkP (b:BookD):Prop:=∃ n:Nat,b.many=(n:Int)∧n≤8∧b.swaps.length≤12∧∀ r∈b.swaps,r.length=n∧Lat.Bit 200 r
theorem zon {b:BookD} (h:BkP b):TrP b.swaps:=by
 obtain ⟨n,h1,h2,h3,h4⟩:=h
 exact ⟨n,200,13,Lat.zd9 (by omega),by omega,h4⟩
theorem zqH {b:BookD} (h:BkP b):(m_traced b.swaps).length≤1000:=by have:=zin (zon h);omega
def PlP (b:BookD) (r:List Int):Prop:=BkP b∧r.length=b.swaps.length∧∃ a,a≤1500000∧Lat.Bit a r
def PrP (b:BookD) (x y:List Int):Prop:=(x.length:Int)=b.many∧(y.length:Int)=b.many∧zci y x∧BkP b∧∃ a,a≤400000∧Lat.Bit a (m_less y x)
theorem zjp {x y:List Int} (h:x.length=y.length):(m_less y x).length=x.length:=by rw [show m_less y x=Lat.sub y x from rfl,Lat.zhn h.symm,h]
theorem zic {b:BookD} {x y:List Int} (h:PrP b x y):zmK b (m_less y x):=by
 obtain ⟨h1,h2,h3,⟨n,k1,k2,k3,k4⟩,a,ha,hb⟩:=h
 exact ⟨n,a,k1,by rw [zjp (by omega)];omega,hb,by omega,by omega,by omega,k4⟩
def za6 (P0:BookD) (P1:(List Int)):Except Xn Unit :=
 (bif (!decide (((P1.length:Nat):Int)=((P0.swaps.length:Nat):Int))) then (Except.error Xn.BadRoad)
 else (Except.ok ()))
def zbj (P0:BookD) (P1:(List Int)):Prop:=True
def zb7 (K:W.Frag) (A:Adr):Sp:=Spv (ι:=BookD×(List Int)) (λx=>[zaK A.Book x.1,dQ K (List.map dI x.2)]) (λx=>zbj x.1 x.2) (λx=>zhH A.xc true (λ_=>dN) (za6 x.1 x.2))
theorem zeK (F:Fun K "refuse_bad_road" "refuse_bad_road" zaS f fd) (T:Txt K mg A) :FnOk P w K mg base (CXE P w) 1 f fd ["book","road"] (zb7 K A):=by
 refine F.okVXN zdz (λ_=>rfl) (λcdv Ar outer s H E x hr hp O=>?_)
 obtain ⟨P0,P1⟩:=x
 have hu:=hr.units
 replace hp:zbj P0 P1:=hp
 unfold zbj at hp
 refine ⟨_,([.va false (zaK A.Book P0),.va false (dQ K (List.map dI P1))]:L2.Ctx),(zaC (zir (zat zg6 (pe_callB (zaA (K:=K) rfl) rfl T.len PySem.boot_len (pa_cons (pv 1) pa_nil)) (pe_callB (zaA (K:=K) rfl) rfl T.len PySem.boot_len (pa_cons (za3 (K:=K) rfl (pv 0) rfl) pa_nil)) (zaD _))
 (zaC (zi5 O rfl rfl T.xm_BadRoad T.xi_BadRoad PySem.F.excBase_ValueError (pa_cons zbp pa_nil))
 zbB)
 zbB)
 zbB),?_⟩
 show L2.Run _ ([.va false (zaK A.Book P0),.va false (dQ K (List.map dI P1))]:L2.Ctx) _ ((foX A.xc ([.no,.no]:L2.Ctx) (λ(_:Unit)=>Oc.nx ([.va false (zaK A.Book P0),.va false (dQ K (List.map dI P1))]:L2.Ctx))) (za6 P0 P1))
 unfold za6
 exact (zaH (b:=(!decide (((P1.length:Nat):Int)=((P0.swaps.length:Nat):Int)))) (foX A.xc ([.no,.no]:L2.Ctx) (λ(_:Unit)=>Oc.nx ([.va false (zaK A.Book P0),.va false (dQ K (List.map dI P1))]:L2.Ctx))) (zam (zeY (x:=((P1.length:Nat):Int)) (y:=((P0.swaps.length:Nat):Int)) (zbr (f:=dI) (xs:=P1) (zab (i:=1) rfl)) (zbr (f:=lI) (xs:=P0.swaps) (Ev.weak (K:=K) (zcr (zab (i:=0) rfl) T.Book_cl T.Book_swaps rfl))))) (λh123=>(zak (zhP (m:=false) (zaa zay zae) (by show 1≤sizeLine;decide) (.no (.no .nil))))) (λh123 =>
 (zah (zal (Wk.refl _)))))
def PxP (b:BookD) (x y:List Int):Prop:=BkP b∧∃ a,a≤399999∧Lat.Bit a x∧Lat.Bit a y
theorem zjn {b:BookD} {x y:List Int} (h:PxP b x y) (hx:(x.length:Int)=b.many) (hy:(y.length:Int)=b.many):PrP b x y:=by
 obtain ⟨hB,a,ha,b1,b2⟩:=h
 have hB':=hB
 obtain ⟨n,k1,k2,k3,k4⟩:=hB'
 refine ⟨hx,hy,⟨by omega,by omega⟩,hB,a+1,by omega,Lat.Bit.of λi=>?_⟩
 rw [show m_less y x=Lat.sub y x from rfl,Lat.zgd (by omega),Nat.pow_succ]
 have:=b1.vec i
 have:=b2.vec i
 omega
def F3 (w:Int) (rows:List (List Int)):Prop:=∃ n q:Nat,w=(n:Int)∧1≤n∧n≤8∧rows.length≤12∧(∀ r∈rows,r.length=n∧Lat.Bit (q+11) r)∧(q=6∨(q=30∧n≤4∧rows.length≤6)∨(q=187∧n≤3∧rows.length≤5))
def K7 (b:BookD) (x y:List Int):Prop:=F3 b.many b.swaps∧Lat.Bit 10 x∧Lat.Bit 10 y
theorem K7.bk {b:BookD} {x y:List Int} (h:K7 b x y):BkP b:=by
 obtain ⟨⟨n,q,h1,h2,h3,h4,h5,h6⟩,_⟩:=h
 exact ⟨n,h1,h3,h4,λr hr=>⟨(h5 r hr).1,((h5 r hr).2).mono (by omega)⟩⟩
theorem K7.st {b:BookD} {x y:List Int} (h:K7 b x y):zdS b:=by
 have:=zon h.bk
 obtain ⟨n,k1,k2,_⟩:=h.bk
 exact ⟨this,by omega,by omega⟩
theorem K7.low {b:BookD} {x y:List Int} (h:K7 b x y) (hx:(x.length:Int)=b.many):Lat.LowP x (m_stairs b).steps:=by
 obtain ⟨n,k1,k2,k3,k4⟩:=h.bk
 obtain ⟨S,s2,s3⟩:=Lat.zf8 (Lat.zd9 (n:=n+b.swaps.length) (by omega)) (rows:=Lat.mark b.swaps) (by rw [Lat.zeW];omega) (Lat.zgy k4)
 rw [zj1 k1]
 have hcl:(Lat.cutS n (Lat.clm Lat.MG (Lat.mark b.swaps))).length≤13:=by
  unfold Lat.cutS;rw [List.length_map];exact Nat.le_trans (List.length_filter_le _ _) (by omega)
 refine ⟨n,10,Lat.sB 200 13,by omega,by omega,by show (Lat.cutS n (Lat.clm Lat.MG (Lat.mark b.swaps))).length≤1000;omega,h.2.1,λs hs=>?_,?_⟩
 ·obtain ⟨t,ht,h1,rfl⟩:=Lat.zfX hs
  exact (s3 t ht).take h1 (by omega)
 ·rw [show Lat.sB 200 13=40670 from rfl]
  show 10+(Lat.cutS n (Lat.clm Lat.MG (Lat.mark b.swaps))).length*(40670+1)+40670≤50000000
  have:=Nat.mul_le_mul_right (40670+1) hcl
  omega
theorem K7.pr {b:BookD} {x y:List Int} (h:K7 b x y) (hx:(x.length:Int)=b.many) (hy:(y.length:Int)=b.many):PrP b x y:=zjn ⟨h.bk,10,by decide,h.2.1,h.2.2⟩ hx hy
def zhB (P0:BookD) (P1:(List Int)) (P2:(List Int)):Except Xn (List Int) :=
 (zgH (zan P0 P1) (λ_ =>
 (zgH (za6 P0 P2) (λ_ =>
 (Let (List.foldl (λ(s124:(List Int)) (x125:((List Int)×Int))=>(Let (m_plus s124 (m_times x125.1 x125.2)) (λ(v129:(List Int)) =>
 v129))) P1 (List.zip P0.swaps P2)) (λ(r130:(List Int)) =>
 (Except.ok r130)))))))
def zfg (P0:BookD) (P1:(List Int)) (P2:(List Int)):Prop:=P0.many≤1000∧(∀ s∈P0.swaps,(s.length:Int)=P0.many)∧∀ p∈List.zip P0.swaps P2,∀ x∈p.1,zcT x p.2
def zh9 (K:W.Frag) (A:Adr):Sp:=Spv (ι:=BookD×(List Int)×(List Int)) (λx=>[zaK A.Book x.1,dQ K (List.map dI x.2.1),dQ K (List.map dI x.2.2)]) (λx=>zfg x.1 x.2.1 x.2.2) (λx=>zhH A.xc true lI (zhB x.1 x.2.1 x.2.2))
theorem zh0:FnScope ["book","basket","road","reached","swap","many"] ["book","basket","road"] (zad zjy):=⟨rfl,rfl,rfl,by decide +kernel,rfl,by decide +kernel,by decide +kernel⟩
theorem znz (F:Fun K "led" "led" zjy f fd) (T:Txt K mg A) (G_plus:Callee P w K mg base (CXE P w) 2 "plus" ["one","other"] (zg9 K A)) (G_times:Callee P w K mg base (CXE P w) 1 "times" ["some","many"] (zc5 K A)) (GX_refuse_bad_basket:Callee P w K mg base (CXE P w) 1 "refuse_bad_basket" ["book","basket"] (zaE K A))  (GX_refuse_bad_road:Callee P w K mg base (CXE P w) 1 "refuse_bad_road" ["book","road"] (zb7 K A)):FnOk P w K mg base (CXE P w) 3 f fd ["book","basket","road"] (zh9 K A):=by
 refine F.okVX zh0 (λ_=>rfl) (λcdv Ar outer s H E x hr hp O=>?_)
 obtain ⟨P0,P1,P2⟩:=x
 have hu:=hr.units
 replace hp:zfg P0 P1 P2:=hp
 unfold zfg at hp
 refine ⟨_,(zaC (zbO (zep O GX_refuse_bad_basket (hr.mono (by decide)) rfl (pa_cons (pv 0) (pa_cons (pv 1) pa_nil))))
 (zaC (zbO (zep O GX_refuse_bad_road (hr.mono (by decide)) rfl (pa_cons (pv 0) (pa_cons (pv 2) pa_nil))))
 (zaC (zco (zap (i:=3) zh0.nd rfl (Or.inl rfl) (zcn (zbv (K:=K) rfl) rfl T.list PyProof.Rows.boot_list (pa_cons (pv 1) pa_nil))))
 (zaC (zco (zd3 PassesOwn.never rfl (zeI (K:=K) rfl rfl T.zip (pa_cons (za3 (K:=K) rfl (pv 0) rfl) (pa_cons (pv 2) pa_nil))) (zcg (K:=K) (n:=2) rfl rfl (zaQ (pg_name (i:=4) zh0.nd rfl (Or.inl rfl) (Or.inl rfl)) (zaQ (pg_name (i:=5) zh0.nd rfl (Or.inl rfl) (Or.inl rfl)) zdn)))
 (zac (zap (i:=3) zh0.nd rfl (Or.inl rfl) (zaB G_plus (hr.mono (by decide)) rfl zaz (pa_cons (pv 3) (pa_cons (zaB G_times (hr.mono (by decide)) rfl zaz (pa_cons (pv 4) (pa_cons (pv 5) pa_nil))) pa_nil))))
 zaf)))
 (zaC (zco (zaG (pv 3)))
 zbB))))),.inl ?_⟩
 show L2.Run _ ([.va false (zaK A.Book P0),.va false (dQ K (List.map dI P1)),.va false (dQ K (List.map dI P2)),.no,.no,.no]:L2.Ctx) _ (zlE 6 (zhH A.xc true lI (zhB P0 P1 P2)))
 rw [zdR]
 show L2.Run _ _ _ ((foX A.xc ([.no,.no,.no,.no,.no,.no]:L2.Ctx) (λ(r:(List Int))=>Oc.rt true (dL (List.map dI r)))) (zhB P0 P1 P2))
 unfold zhB
 exact (zaU (λ(r:(List Int))=>Oc.rt true (dL (List.map dI r))) (P0,P1) (zaa (zab (i:=0) rfl) (zaa (zab (i:=1) rfl) zae)) rfl (by show zaq P0 P1;exact trivial) rfl (.no (.no (.no (.eq (.eq (.eq .nil)))))) (λv132 hv132 =>
 (zaU (λ(r:(List Int))=>Oc.rt true (dL (List.map dI r))) (P0,P2) (zaa (zab (i:=0) rfl) (zaa (zab (i:=2) rfl) zae)) rfl (by show zbj P0 P2;exact trivial) rfl (.no (.no (.no (.eq (.eq (.eq .nil)))))) (λv131 hv131 =>
 (za0 (m:=true) (EvO.ev (EvO.anyI (m:=false) (zd0 (zab (i:=1) rfl))))
 (zc0 (s0:=P1) (λ(s124:(List Int))=>([.va false (zaK A.Book P0),.va false (dQ K (List.map dI P1)),.va false (dQ K (List.map dI P2)),.va true (dL (List.map dI s124)),.no,.no]:L2.Ctx)) (foX A.xc ([.no,.no,.no,.no,.no,.no]:L2.Ctx) (λ(r:(List Int))=>Oc.rt true (dL (List.map dI r)))) (λ(s124:(List Int)) (x125:((List Int)×Int))=>(Let (m_plus s124 (m_times x125.1 x125.2)) (λ(v129:(List Int)) =>
 v129))) (λ(i:Nat) (s124:(List Int))=>(s124.length:Int)=P0.many) (zgT (m:=false) lI dI (xs:=P0.swaps) (ys:=P2) (Ev.weak (K:=K) (zcr (zab (i:=0) rfl) T.Book_cl T.Book_swaps rfl)) (zab (i:=2) rfl)) (.eq (.eq (.eq (.eq (.eq (.eq .nil)))))) (by exact zcl (by assumption)) (λi126 x125 s124 hx127 hI128=>have v127:=zcW hx127;⟨(by exact zox hp.2.1 (by assumption) (by assumption)),
 (zas (m:=true) (x:=(m_plus s124 (m_times x125.1 x125.2))) lI (λz=>Oc.nx ((λ(s124:(List Int))=>([.va false (zaK A.Book P0),.va false (dQ K (List.map dI P1)),.va false (dQ K (List.map dI P2)),.va true (dL (List.map dI s124)),.no,.no]:L2.Ctx)) z)) (EvO.ev (EvO.anyI (m:=true) (zaV (x:=(s124,(m_times x125.1 x125.2))) (zaa (Ev.old (Ev.weak (K:=K) (zab (i:=3) rfl))) (zaa (Ev.weak (K:=K) (EvO.ev (EvO.anyI (m:=true) (zaV (x:=(x125.1,x125.2)) (zaa (Ev.weak (K:=K) (zab (i:=4) rfl)) (zaa (Ev.any (m:=false) (zab (i:=5) rfl)) zae)) rfl (by show zaY x125.1 x125.2;exact zlJ hp.2.1 hp.1 hp.2.2 (by assumption)) rfl)))) zae)) rfl (by show zey s124 (m_times x125.1 x125.2);exact zlN hp.2.1 hp.1 (by assumption) (by assumption)) rfl))) (λv129 hv129 =>
 (zal (.eq (.eq (.eq (.eq (.no (.no .nil)))))))))⟩) (λr130 hr130 hI =>
 (zai (zaw (zab (i:=3) rfl))))))))))
def zfK (P0:BookD) (P1:(List Int)):Except Xn (List Int) :=
 (zgH (zan P0 P1) (λ_ =>
 (Except.ok (m_lowered P1 ((m_stairs P0).steps)))))
def ze7 (P0:BookD) (P1:(List Int)):Prop:=K7 P0 P1 P1
def zhb (K:W.Frag) (A:Adr):Sp:=Spv (ι:=BookD×(List Int)) (λx=>[zaK A.Book x.1,dQ K (List.map dI x.2)]) (λx=>ze7 x.1 x.2) (λx=>zhH A.xc true lI (zfK x.1 x.2))
theorem zog:FnScope ["book","basket"] ["book","basket"] (zad zgQ):=⟨rfl,rfl,rfl,by decide +kernel,rfl,by decide +kernel,by decide +kernel⟩
theorem zmg (F:Fun K "home" "home" zgQ f fd) (T:Txt K mg A) (G_lowered:Callee P w K mg base (CXE P w) 3 "lowered" ["row","steps"] (zcB K A)) (G_stairs:Callee P w K mg base (CXE P w) 7 "stairs" ["book"] (zgu K A)) (GX_refuse_bad_basket:Callee P w K mg base (CXE P w) 1 "refuse_bad_basket" ["book","basket"] (zaE K A)):FnOk P w K mg base (CXE P w) 8 f fd ["book","basket"] (zhb K A):=by
 refine F.okVX zog (λ_=>rfl) (λcdv Ar outer s H E x hr hp O=>?_)
 obtain ⟨P0,P1⟩:=x
 have hu:=hr.units
 replace hp:ze7 P0 P1:=hp
 unfold ze7 at hp
 refine ⟨_,(zaC (zbO (zep O GX_refuse_bad_basket (hr.mono (by decide)) rfl (pa_cons (pv 0) (pa_cons (pv 1) pa_nil))))
 (zaC (zco (zaG (zaB G_lowered (hr.mono (by decide)) rfl zaz (pa_cons (pv 1) (pa_cons (za3 (K:=K) rfl (zaB G_stairs (hr.mono (by decide)) rfl zaz (pa_cons (pv 0) pa_nil)) rfl) pa_nil)))))
 zbB)),.inl ?_⟩
 show L2.Run _ ([.va false (zaK A.Book P0),.va false (dQ K (List.map dI P1))]:L2.Ctx) _ (zlE 2 (zhH A.xc true lI (zfK P0 P1)))
 rw [zdR]
 show L2.Run _ _ _ ((foX A.xc ([.no,.no]:L2.Ctx) (λ(r:(List Int))=>Oc.rt true (dL (List.map dI r)))) (zfK P0 P1))
 unfold zfK
 exact (zaU (λ(r:(List Int))=>Oc.rt true (dL (List.map dI r))) (P0,P1) (zaa (zab (i:=0) rfl) (zaa (zab (i:=1) rfl) zae)) rfl (by show zaq P0 P1;exact trivial) rfl (.no (.no .nil)) (λv133 hv133 =>
 (zai (zaw (zao (x:=(P1,(m_stairs P0).steps)) (zaa (zab (i:=1) rfl) (zaa (Ev.old (Ev.weak (K:=K) (zcr (zao (x:=P0) (zaa (zab (i:=0) rfl) zae) rfl (by show zdS P0;exact hp.st) rfl) T.Stairs_cl T.Stairs_steps rfl))) zae)) rfl (by show zbi P1 ((m_stairs P0).steps);exact hp.low (zcl (by assumption))) rfl)))))
def m_way_to (P0:BookD) (P1:(List Int)):(Option (List Int)) :=
 (m_counted (m_traced P0.swaps) P1 ((P0.swaps.length:Nat):Int))
def zc7 (P0:BookD) (P1:(List Int)):Prop:=zmK P0 P1
def zee (K:W.Frag) (A:Adr):Sp:=Spv (ι:=BookD×(List Int)) (λx=>[zaK A.Book x.1,dQ K (List.map dI x.2)]) (λx=>zc7 x.1 x.2) (λx=>.va true (dOpt lI (m_way_to x.1 x.2)))
theorem zkX:FnScope ["book","basket"] ["book","basket"] (zad zew):=⟨rfl,rfl,rfl,by decide +kernel,rfl,by decide +kernel,by decide +kernel⟩
theorem zlu (F:Fun K "way_to" "way_to" zew f fd) (T:Txt K mg A) (G_counted:Callee P w K mg base (CXE P w) 4 "counted" ["steps","basket","many"] (zfu K A)) (G_traced:Callee P w K mg base (CXE P w) 6 "traced" ["rows"] (zeo K A)):FnOk P w K mg base (CXE P w) 7 f fd ["book","basket"] (zee K A):=by
 refine F.okV zkX (λ_=>rfl) (λcdv Ar outer s H E x hr hp=>?_)
 obtain ⟨P0,P1⟩:=x
 have hu:=hr.units
 replace hp:zc7 P0 P1:=hp
 unfold zc7 at hp
 refine ⟨_,(zac (zaG (zaB G_counted (hr.mono (by decide)) rfl zaz (pa_cons (zaB G_traced (hr.mono (by decide)) rfl zaz (pa_cons (za3 (K:=K) rfl (pv 0) rfl) pa_nil)) (pa_cons (pv 1) (pa_cons (pe_callB (zaA (K:=K) rfl) rfl T.len PySem.boot_len (pa_cons (za3 (K:=K) rfl (pv 0) rfl) pa_nil)) pa_nil)))))
 zaf),.inl ?_⟩
 show L2.Run _ ([.va false (zaK A.Book P0),.va false (dQ K (List.map dI P1))]:L2.Ctx) _ ((λ(r:(Option (List Int)))=>Oc.rt true (dOpt lI r)) (m_way_to P0 P1))
 unfold m_way_to
 exact (zai (zaw (zao (x:=((m_traced P0.swaps),P1,((P0.swaps.length:Nat):Int))) (zaa (Ev.old (Ev.weak (K:=K) (zao (x:=P0.swaps) (zaa (Ev.weak (K:=K) (zcr (zab (i:=0) rfl) T.Book_cl T.Book_swaps rfl)) zae) rfl (by show zde P0.swaps;exact zpC hp) rfl))) (zaa (zab (i:=1) rfl) (zaa (zbr (f:=lI) (xs:=P0.swaps) (Ev.weak (K:=K) (zcr (zab (i:=0) rfl) T.Book_cl T.Book_swaps rfl))) zae))) rfl (by show zdW (m_traced P0.swaps) P1 ((P0.swaps.length:Nat):Int);exact zoE hp) rfl)))
theorem zpc {b:BookD} {x:List Int} {n:Nat} (hn:b.many=(n:Int)) (hx:x.length=n) (hr:∀ r∈b.swaps,r.length=n) :
  (m_way_to b x=none->¬ Lat.SpL b.swaps (Lat.vec x))∧∀ r,m_way_to b x=some r->r.length=b.swaps.length∧r=(Lat.low (m_times x (-(1:Int))++zdp ((b.swaps.length:Nat):Int) [(0:Int)]) (m_traced b.swaps)).drop n∧∀ j,j<n->Lat.comb r (b.swaps.map Lat.vec) j=Lat.vec x j:=by
 have T:=Lat.zkw hr
 have hv:=(znZ (b:=b) (a:=0+(List.map Int.natAbs x).sum) hx (λy hy=>by
  have:y.natAbs≤(List.map Int.natAbs x).sum:=by
   have:∀ (l:List Int),y∈l->y.natAbs≤(List.map Int.natAbs l).sum:=by
    intro l
    induction l with
    | nil=>intro h;simp at h
    | cons a l ih =>
     intro h
     rw [List.map_cons,List.sum_cons]
     rcases List.mem_cons.mp h with rfl | h
     ·omega
     ·have:=ih h;omega
   exact this x hy
  exact Nat.le_trans this (Nat.le_of_lt (by rw [Nat.zero_add];exact Nat.lt_two_pow_self)))).1
 have e:m_way_to b x=bif (zbH (Lat.low (m_times x (-(1:Int))++zdp ((b.swaps.length:Nat):Int) [(0:Int)]) (Lat.clm Lat.MG (Lat.mark b.swaps))) none (some (n:Int))).any (· != 0) then none else some ((Lat.low (m_times x (-(1:Int))++zdp ((b.swaps.length:Nat):Int) [(0:Int)]) (Lat.clm Lat.MG (Lat.mark b.swaps))).drop n):=by
  unfold m_way_to m_counted Let
  dsimp only
  rw [zc9,zdD,hx,Lat.zdv]
 rw [zdD]
 have vj:∀ j,j<n->Lat.vec (m_times x (-(1:Int))++zdp ((b.swaps.length:Nat):Int) [(0:Int)]) j=(-1)*Lat.vec x j:=λj hj=>by
  rw [Lat.zef,if_pos (by rw [show (m_times x (-(1:Int))).length=x.length from Lat.zaO,hx];exact hj),show m_times x (-(1:Int))=Lat.mul x (-(1:Int)) from rfl,Lat.zcU];omega
 have vz:∀ i,Lat.vec (m_times x (-(1:Int))++zdp ((b.swaps.length:Nat):Int) [(0:Int)]) (n+i)=0:=λi=>by
  rw [Lat.zef,if_neg (by rw [show (m_times x (-(1:Int))).length=x.length from Lat.zaO,hx];omega),Lat.zhu]
 generalize (m_times x (-(1:Int))++zdp ((b.swaps.length:Nat):Int) [(0:Int)])=v at *
 obtain ⟨a1,_⟩:=Lat.zcp T.st.ech hv
 have anyz:(zbH (Lat.low v (Lat.clm Lat.MG (Lat.mark b.swaps))) none (some (n:Int))).any (· != 0)=false ↔ ∀ j,j<n->Lat.vec (Lat.low v (Lat.clm Lat.MG (Lat.mark b.swaps))) j=0:=by
  rw [zhG,List.any_eq_false]
  constructor
  ·intro h j hj
   have hm:Lat.vec (Lat.low v (Lat.clm Lat.MG (Lat.mark b.swaps))) j∈(Lat.low v (Lat.clm Lat.MG (Lat.mark b.swaps))).take n:=by
    have hl:j<((Lat.low v (Lat.clm Lat.MG (Lat.mark b.swaps))).take n).length:=by rw [List.length_take,a1];omega
    have:=Lat.zh7 hl
    rwa [Lat.zb0,if_pos hj] at this
   simpa using h _ hm
  ·intro h y hy
   obtain ⟨j,hj,rfl⟩:=Lat.zhg hy
   rw [Lat.zb0]
   rw [List.length_take] at hj
   rw [if_pos (by omega),h j (by omega)]
   simp
 constructor
 ·intro h0 hsp
  have fr:=Lat.zkI hr T hv ((Lat.Sp.smul (-1) hsp).conv λi=>by
   unfold Lat.rst
   by_cases hi:i<n
   ·rw [if_pos hi,vj i hi]
   ·rw [if_neg hi,Lat.vec_out (by omega)];rfl)
  rw [e,anyz.mpr fr] at h0
  cases h0
 ·intro r h0
  rw [e] at h0
  cases q:(zbH (Lat.low v (Lat.clm Lat.MG (Lat.mark b.swaps))) none (some (n:Int))).any (· != 0) with
  | true=>rw [q] at h0;cases h0
  | false =>
   rw [q] at h0
   have h0:(Lat.low v (Lat.clm Lat.MG (Lat.mark b.swaps))).drop n=r:=Option.some.inj h0
   subst h0
   refine ⟨by rw [List.length_drop,a1];omega,rfl,λj hj=>?_⟩
   rw [Lat.zl4 T hv vz (anyz.mp q) j hj,vj j hj]
   omega
theorem zrc {r:Int} {ws:List Int} (h:2≤r∧ws.length≤1000):decide (r<(2:Int))=false:=decide_eq_false (by omega)
def zfN (P0:BookD) (P1:(List Int)) (P2:(List Int)):Except Xn (Option (List Int)) :=
 (zgH (zan P0 P1) (λ_ =>
 (zgH (zan P0 P2) (λ_ =>
 (Except.ok (m_way_to P0 (m_less P2 P1)))))))
def zfa (P0:BookD) (P1:(List Int)) (P2:(List Int)):Prop:=K7 P0 P1 P2
def zhf (K:W.Frag) (A:Adr):Sp:=Spv (ι:=BookD×(List Int)×(List Int)) (λx=>[zaK A.Book x.1,dQ K (List.map dI x.2.1),dQ K (List.map dI x.2.2)]) (λx=>zfa x.1 x.2.1 x.2.2) (λx=>zhH A.xc true (dOpt lI) (zfN x.1 x.2.1 x.2.2))
theorem zn0:FnScope ["book","one","other"] ["book","one","other"] (zad zgY):=⟨rfl,rfl,rfl,by decide +kernel,rfl,by decide +kernel,by decide +kernel⟩
theorem zlG (F:Fun K "road" "road" zgY f fd) (T:Txt K mg A) (G_less:Callee P w K mg base (CXE P w) 2 "less" ["one","other"] (zeN K A)) (G_way_to:Callee P w K mg base (CXE P w) 7 "way_to" ["book","basket"] (zee K A)) (GX_refuse_bad_basket:Callee P w K mg base (CXE P w) 1 "refuse_bad_basket" ["book","basket"] (zaE K A)):FnOk P w K mg base (CXE P w) 8 f fd ["book","one","other"] (zhf K A):=by
 refine F.okVX zn0 (λ_=>rfl) (λcdv Ar outer s H E x hr hp O=>?_)
 obtain ⟨P0,P1,P2⟩:=x
 have hu:=hr.units
 replace hp:zfa P0 P1 P2:=hp
 unfold zfa at hp
 refine ⟨_,(zaC (zbO (zep O GX_refuse_bad_basket (hr.mono (by decide)) rfl (pa_cons (pv 0) (pa_cons (pv 1) pa_nil))))
 (zaC (zbO (zep O GX_refuse_bad_basket (hr.mono (by decide)) rfl (pa_cons (pv 0) (pa_cons (pv 2) pa_nil))))
 (zaC (zco (zaG (zaB G_way_to (hr.mono (by decide)) rfl zaz (pa_cons (pv 0) (pa_cons (zaB G_less (hr.mono (by decide)) rfl zaz (pa_cons (pv 2) (pa_cons (pv 1) pa_nil))) pa_nil)))))
 zbB))),.inl ?_⟩
 show L2.Run _ ([.va false (zaK A.Book P0),.va false (dQ K (List.map dI P1)),.va false (dQ K (List.map dI P2))]:L2.Ctx) _ (zlE 3 (zhH A.xc true (dOpt lI) (zfN P0 P1 P2)))
 rw [zdR]
 show L2.Run _ _ _ ((foX A.xc ([.no,.no,.no]:L2.Ctx) (λ(r:(Option (List Int)))=>Oc.rt true (dOpt lI r))) (zfN P0 P1 P2))
 unfold zfN
 exact (zaU (λ(r:(Option (List Int)))=>Oc.rt true (dOpt lI r)) (P0,P1) (zaa (zab (i:=0) rfl) (zaa (zab (i:=1) rfl) zae)) rfl (by show zaq P0 P1;exact trivial) rfl (.no (.no (.no .nil))) (λv135 hv135 =>
 (zaU (λ(r:(Option (List Int)))=>Oc.rt true (dOpt lI r)) (P0,P2) (zaa (zab (i:=0) rfl) (zaa (zab (i:=2) rfl) zae)) rfl (by show zaq P0 P2;exact trivial) rfl (.no (.no (.no .nil))) (λv134 hv134 =>
 (zai (zaw (zao (x:=(P0,(m_less P2 P1))) (zaa (zab (i:=0) rfl) (zaa (Ev.weak (K:=K) (EvO.ev (EvO.anyI (m:=true) (zaV (x:=(P2,P1)) (zaa (zab (i:=2) rfl) (zaa (zab (i:=1) rfl) zae)) rfl (by show zci P2 P1;exact (hp.pr (zcl (by assumption)) (zcl (by assumption))).2.2.1) rfl)))) zae)) rfl (by show zc7 P0 (m_less P2 P1);exact zic (hp.pr (zcl (by assumption)) (zcl (by assumption)))) rfl)))))))
def m_rounds (P0:BookD):(List (List Int)) :=
 (m_tails (m_traced P0.swaps) P0.many)
def zeu (P0:BookD):Prop:=BkP P0
def zf6 (K:W.Frag) (A:Adr):Sp:=Spv (ι:=BookD) (λx=>[zaK A.Book x]) (λx=>zeu x) (λx=>.va true (dL (List.map lI (m_rounds x))))
theorem zkY:FnScope ["book"] ["book"] (zad zes):=⟨rfl,rfl,rfl,by decide +kernel,rfl,by decide +kernel,by decide +kernel⟩
theorem zlB (F:Fun K "rounds" "rounds" zes f fd) (T:Txt K mg A) (G_tails:Callee P w K mg base (CXE P w) 2 "tails" ["steps","many"] (zhD K A)) (G_traced:Callee P w K mg base (CXE P w) 6 "traced" ["rows"] (zeo K A)):FnOk P w K mg base (CXE P w) 7 f fd ["book"] (zf6 K A):=by
 refine F.okV zkY (λ_=>rfl) (λcdv Ar outer s H E P0 hr hp=>?_)
 have hu:=hr.units
 replace hp:zeu P0:=hp
 unfold zeu at hp
 refine ⟨_,(zac (zaG (zaB G_tails (hr.mono (by decide)) rfl zaz (pa_cons (zaB G_traced (hr.mono (by decide)) rfl zaz (pa_cons (za3 (K:=K) rfl (pv 0) rfl) pa_nil)) (pa_cons (za3 (K:=K) rfl (pv 0) rfl) pa_nil))))
 zaf),.inl ?_⟩
 show L2.Run _ ([.va false (zaK A.Book P0)]:L2.Ctx) _ ((λ(r:(List (List Int)))=>Oc.rt true (dL (List.map lI r))) (m_rounds P0))
 unfold m_rounds
 exact (zai (zaw (zao (x:=((m_traced P0.swaps),P0.many)) (zaa (Ev.old (Ev.weak (K:=K) (zao (x:=P0.swaps) (zaa (Ev.weak (K:=K) (zcr (zab (i:=0) rfl) T.Book_cl T.Book_swaps rfl)) zae) rfl (by show zde P0.swaps;exact zon hp) rfl))) (zaa (Ev.any (m:=false) (zcr (zab (i:=0) rfl) T.Book_cl T.Book_many rfl)) zae)) rfl (by show ze5 (m_traced P0.swaps) P0.many;exact zqH hp) rfl)))
theorem zlf {b:BookD} {n:Nat} (hn:b.many=(n:Int)):m_rounds b=Lat.zjL n (Lat.clm Lat.MG (Lat.mark b.swaps)):=by
 unfold m_rounds
 rw [zdD,hn,zlI]
theorem zqt {b:BookD} (h:BkP b):(∀ t∈m_rounds b,Lat.Sd b.swaps.length (Lat.sB 200 13) t)∧(m_rounds b).length≤13:=by
 obtain ⟨n,k1,k2,k3,k4⟩:=h
 obtain ⟨S,s2,s3⟩:=Lat.zf8 (Lat.zd9 (n:=n+b.swaps.length) (by omega)) (rows:=Lat.mark b.swaps) (by rw [Lat.zeW];omega) (Lat.zgy k4)
 rw [zlf k1]
 refine ⟨λt ht=>?_,?_⟩
 ·obtain ⟨s,hs,h1,rfl⟩:=Lat.zj7 ht
  exact (s3 s hs).drop h1
 ·unfold Lat.zjL
  rw [List.length_map]
  exact Nat.le_trans (List.length_filter_le _ _) (by omega)
theorem zp7 {b:BookD} {r:List Int} (h:PlP b r):Lat.LowP r (m_rounds b):=by
 obtain ⟨h1,h2,a,ha,hb⟩:=h
 obtain ⟨s1,s2⟩:=zqt h1
 obtain ⟨n,k1,k2,k3,k4⟩:=h1
 refine ⟨b.swaps.length,a,Lat.sB 200 13,by omega,h2,by omega,hb,s1,?_⟩
 rw [show Lat.sB 200 13=40670 from rfl]
 have:=Nat.mul_le_mul_right (40670+1) s2
 omega
def m_plain (P0:BookD) (P1:(List Int)):(List Int) :=
 (m_lowered P1 (m_rounds P0))
def ze4 (P0:BookD) (P1:(List Int)):Prop:=PlP P0 P1
def zg7 (K:W.Frag) (A:Adr):Sp:=Spv (ι:=BookD×(List Int)) (λx=>[zaK A.Book x.1,dQ K (List.map dI x.2)]) (λx=>ze4 x.1 x.2) (λx=>.va true (dL (List.map dI (m_plain x.1 x.2))))
theorem zmz:FnScope ["book","road"] ["book","road"] (zad zfG):=⟨rfl,rfl,rfl,by decide +kernel,rfl,by decide +kernel,by decide +kernel⟩
theorem zl5 (F:Fun K "plain" "plain" zfG f fd) (T:Txt K mg A) (G_lowered:Callee P w K mg base (CXE P w) 3 "lowered" ["row","steps"] (zcB K A)) (G_refuse_bad_road:Callee P w K mg base (CXE P w) 1 "refuse_bad_road" ["book","road"] (zch K A)) (G_rounds:Callee P w K mg base (CXE P w) 7 "rounds" ["book"] (zf6 K A)):FnOk P w K mg base (CXE P w) 8 f fd ["book","road"] (zg7 K A):=by
 refine F.okV zmz (λ_=>rfl) (λcdv Ar outer s H E x hr hp=>?_)
 obtain ⟨P0,P1⟩:=x
 have hu:=hr.units
 replace hp:ze4 P0 P1:=hp
 unfold ze4 at hp
 refine ⟨_,(zac (zcY (zaB G_refuse_bad_road (hr.mono (by decide)) rfl zaz (pa_cons (pv 0) (pa_cons (pv 1) pa_nil))))
 (zac (zaG (zaB G_lowered (hr.mono (by decide)) rfl zaz (pa_cons (pv 1) (pa_cons (zaB G_rounds (hr.mono (by decide)) rfl zaz (pa_cons (pv 0) pa_nil)) pa_nil))))
 zaf)),.inl ?_⟩
 show L2.Run _ ([.va false (zaK A.Book P0),.va false (dQ K (List.map dI P1))]:L2.Ctx) _ ((λ(r:(List Int))=>Oc.rt true (dL (List.map dI r))) (m_plain P0 P1))
 unfold m_plain
 exact (zf1 (m:=true) (Ev.any (m:=true) (zao (x:=(P0,P1)) (zaa (zab (i:=0) rfl) (zaa (zab (i:=1) rfl) zae)) rfl (by show zbs P0 P1;exact hp.2.1) rfl))
 (zai (zaw (zao (x:=(P1,(m_rounds P0))) (zaa (zab (i:=1) rfl) (zaa (Ev.old (Ev.weak (K:=K) (zao (x:=P0) (zaa (zab (i:=0) rfl) zae) rfl (by show zeu P0;exact hp.1) rfl))) zae)) rfl (by show zbi P1 (m_rounds P0);exact zp7 hp) rfl))))
theorem zn4 {b:BookD} {x r:List Int} {n a:Nat} (h:zmK b x) (hn:b.many=(n:Int)) (hx:x.length=n) (ha:Lat.Bit a x) (e:m_way_to b x=some r):r.length=b.swaps.length∧Lat.Bit (a+528723) r:=by
 obtain ⟨n',e1,e2,e3,e4,e5⟩:=znc h
 have hnn:n'=n:=by omega
 subst hnn
 obtain ⟨n0,a0,q1,q2,q3,q4,q5,q6,q7⟩:=h
 have h0:n0=n':=by omega
 obtain ⟨k1,k2,_⟩:=(zpc (x:=x) hn hx (λr hr=>by rw [(q7 r hr).1,h0])).2 r e
 refine ⟨k1,?_⟩
 have hv:=znZ (b:=b) hx ha
 rw [k2]
 have lb:=Lat.zfk e2 hv.1 hv.2
 rw [show Lat.sB 200 13=40670 from rfl] at lb
 have:=Nat.mul_le_mul_right (40670+1) e3
 exact λz hz=>(lb.mono (by omega)) z (List.mem_of_mem_drop hz)
theorem zpQ {b:BookD} {x y:List Int} {w:Option (List Int)} (h:PrP b x y) (hw:w=m_way_to b (m_less y x)) (hb:w.isNone=false):PlP b (gS w):=by
 have hW:=zic h
 obtain ⟨h1,h2,h3,hB,a,ha,hbit⟩:=h
 have hB':=hB
 obtain ⟨n,k1,k2,k3,k4⟩:=hB'
 cases w with
 | none=>cases hb
 | some r =>
  obtain ⟨w1,w2⟩:=zn4 hW k1 (by rw [zjp (by omega)];omega) hbit hw.symm
  exact ⟨hB,w1,_,by omega,w2⟩
theorem some_of {α:Type} {w:Option α} (h:w.isNone=false):w.isSome=true:=by cases w<;>first | rfl | cases h
def x_plain_road (P0:BookD) (P1:(List Int)) (P2:(List Int)):Except Xn (Option (List Int)) :=
 (zgH (zan P0 P1) (λ_ =>
 (zgH (zan P0 P2) (λ_ =>
 (Let (m_way_to P0 (m_less P2 P1)) (λ(v136:(Option (List Int))) =>
 (Except.ok (bif v136.isNone then none else (some (m_plain P0 (gS v136)))))))))))
def zcs (P0:BookD) (P1:(List Int)) (P2:(List Int)):Prop:=PxP P0 P1 P2
def zdA (K:W.Frag) (A:Adr):Sp:=Spv (ι:=BookD×(List Int)×(List Int)) (λx=>[zaK A.Book x.1,dQ K (List.map dI x.2.1),dQ K (List.map dI x.2.2)]) (λx=>zcs x.1 x.2.1 x.2.2) (λx=>zhH A.xc true (dOpt lI) (x_plain_road x.1 x.2.1 x.2.2))
theorem zfe:FnScope ["book","one","other","way"] ["book","one","other"] (zad zcc):=⟨rfl,rfl,rfl,by decide +kernel,rfl,by decide +kernel,by decide +kernel⟩
theorem zgJ (F:Fun K "plain_road" "plain_road" zcc f fd) (T:Txt K mg A) (G_less:Callee P w K mg base (CXE P w) 2 "less" ["one","other"] (zeN K A)) (G_plain:Callee P w K mg base (CXE P w) 8 "plain" ["book","road"] (zg7 K A)) (G_way_to:Callee P w K mg base (CXE P w) 7 "way_to" ["book","basket"] (zee K A)) (GX_refuse_bad_basket:Callee P w K mg base (CXE P w) 1 "refuse_bad_basket" ["book","basket"] (zaE K A)):FnOk P w K mg base (CXE P w) 9 f fd ["book","one","other"] (zdA K A):=by
 refine F.okVX zfe (λ_=>rfl) (λcdv Ar outer s H E x hr hp O=>?_)
 obtain ⟨P0,P1,P2⟩:=x
 have hu:=hr.units
 replace hp:zcs P0 P1 P2:=hp
 unfold zcs at hp
 refine ⟨_,(zaC (zbO (zep O GX_refuse_bad_basket (hr.mono (by decide)) rfl (pa_cons (pv 0) (pa_cons (pv 1) pa_nil))))
 (zaC (zbO (zep O GX_refuse_bad_basket (hr.mono (by decide)) rfl (pa_cons (pv 0) (pa_cons (pv 2) pa_nil))))
 (zaC (zco (zap (i:=3) zfe.nd rfl (Or.inl rfl) (zaB G_way_to (hr.mono (by decide)) rfl zaz (pa_cons (pv 0) (pa_cons (zaB G_less (hr.mono (by decide)) rfl zaz (pa_cons (pv 2) (pa_cons (pv 1) pa_nil))) pa_nil)))))
 (zaC (zco (zaG (zhA (zat zmN (pv 3) zgb (zaD _)) zgb (zaB G_plain (hr.mono (by decide)) rfl zaz (pa_cons (pv 0) (pa_cons (pv 3) pa_nil))))))
 zbB)))),.inl ?_⟩
 show L2.Run _ ([.va false (zaK A.Book P0),.va false (dQ K (List.map dI P1)),.va false (dQ K (List.map dI P2)),.no]:L2.Ctx) _ (zlE 4 (zhH A.xc true (dOpt lI) (x_plain_road P0 P1 P2)))
 rw [zdR]
 show L2.Run _ _ _ ((foX A.xc ([.no,.no,.no,.no]:L2.Ctx) (λ(r:(Option (List Int)))=>Oc.rt true (dOpt lI r))) (x_plain_road P0 P1 P2))
 unfold x_plain_road
 exact (zaU (λ(r:(Option (List Int)))=>Oc.rt true (dOpt lI r)) (P0,P1) (zaa (zab (i:=0) rfl) (zaa (zab (i:=1) rfl) zae)) rfl (by show zaq P0 P1;exact trivial) rfl (.no (.no (.no (.eq .nil)))) (λv138 hv138 =>
 (zaU (λ(r:(Option (List Int)))=>Oc.rt true (dOpt lI r)) (P0,P2) (zaa (zab (i:=0) rfl) (zaa (zab (i:=2) rfl) zae)) rfl (by show zaq P0 P2;exact trivial) rfl (.no (.no (.no (.eq .nil)))) (λv137 hv137 =>
 (zas (m:=true) (x:=(m_way_to P0 (m_less P2 P1))) (dOpt lI) (foX A.xc ([.no,.no,.no,.no]:L2.Ctx) (λ(r:(Option (List Int)))=>Oc.rt true (dOpt lI r))) (zao (x:=(P0,(m_less P2 P1))) (zaa (zab (i:=0) rfl) (zaa (Ev.weak (K:=K) (EvO.ev (EvO.anyI (m:=true) (zaV (x:=(P2,P1)) (zaa (zab (i:=2) rfl) (zaa (zab (i:=1) rfl) zae)) rfl (by show zci P2 P1;exact (zjn hp (zcl (by assumption)) (zcl (by assumption))).2.2.1) rfl)))) zae)) rfl (by show zc7 P0 (m_less P2 P1);exact zic (zjn hp (zcl (by assumption)) (zcl (by assumption)))) rfl) (λv136 hv136 =>
 have hW:=hv136;(zai (zaw (zot (dOpt lI) (b:=v136.isNone) (x:=none) (y:=(some (m_plain P0 (gS v136)))) (zam (zgi (x:=v136) (f:=lI) (Ev.old (zab (i:=3) rfl)) zay NN.lst)) (λhb=>zay) (λhb=>(zao (x:=(P0,(gS v136))) (zaa (zab (i:=0) rfl) (zaa (Ev.old (Ev.weak (K:=K) (ev_some (f:=lI) (x:=v136) (zab (i:=3) rfl) (by exact some_of hb)))) zae)) rfl (by show ze4 P0 (gS v136);exact zpQ (zjn hp (zcl (by assumption)) (zcl (by assumption))) hW hb) rfl)))))))))))
def zky (P0:(List Int)):LineD:=⟨P0⟩
def zaZ (P0:(List Int)):Prop:=True
def zcu (K:W.Frag) (A:Adr):Sp:=zlT (ι:=(List Int)) A.Line (λx=>[dQ K (List.map dI x)]) (λx=>zaZ x) true (λx=>[("weights",dL (List.map dI ((zky x).weights)))])
theorem zd8:FnScope ["self","weights"] ["self","weights"] (zad zcS):=⟨rfl,rfl,rfl,by decide +kernel,rfl,by decide +kernel,by decide +kernel⟩
theorem zd4 (F:Fun K "__init__" "Scale.__init__" zcS f fd) (T:Txt K mg A) :FnOk P w K mg base (CXE P w) 1 f fd ["self","weights"] (zcu K A):=by
 refine F.okI zd8 (λ_=>rfl) (λcdv Ar outer s H E P0 hr hp=>?_)
 have hu:=hr.units
 replace hp:zaZ P0:=hp
 unfold zaZ at hp
 refine ⟨_,(zac (zfH (pv 0) (zcn (zbv (K:=K) rfl) rfl T.list PyProof.Rows.boot_list (pa_cons (pv 1) pa_nil)) rfl)
 zaf),λp dx=>⟨([.ob true A.Line p dx [("weights",dL (List.map dI P0))],.va false (dQ K (List.map dI P0))]:L2.Ctx),?_,rfl⟩⟩
 show L2.Run _ ([.ob true A.Line p dx [],.va false (dQ K (List.map dI P0))]:L2.Ctx) _ _
 exact (zdy (i:=0) rfl (EvO.ev (EvO.anyI (m:=false) (zd0 (zab (i:=1) rfl)))) T.Line_cl T.Line_weights [] rfl (by decide +kernel) (by decide)
 (zal (Wk.refl _)))
def zaW (P0:(List Int)):(List Int):=P0
def za1 (P0:(List Int)):Prop:=True
def zcv (K:W.Frag) (A:Adr):Sp:=zlT (ι:=(List Int)) A.Rest (λx=>[dQ K (List.map dI x)]) (λx=>za1 x) true (λx=>[("weights",dL (List.map dI (zaW x)))])
theorem zd6:FnScope ["self","weights"] ["self","weights"] (zad zcN):=⟨rfl,rfl,rfl,by decide +kernel,rfl,by decide +kernel,by decide +kernel⟩
theorem zd5 (F:Fun K "__init__" "Scale.__init__" zcN f fd) (T:Txt K mg A) :FnOk P w K mg base (CXE P w) 1 f fd ["self","weights"] (zcv K A):=by
 refine F.okI zd6 (λ_=>rfl) (λcdv Ar outer s H E P0 hr hp=>?_)
 have hu:=hr.units
 replace hp:za1 P0:=hp
 unfold za1 at hp
 refine ⟨_,(zac (zfH (pv 0) (zcn (zbv (K:=K) rfl) rfl T.list PyProof.Rows.boot_list (pa_cons (pv 1) pa_nil)) rfl)
 zaf),λp dx=>⟨([.ob true A.Rest p dx [("weights",dL (List.map dI P0))],.va false (dQ K (List.map dI P0))]:L2.Ctx),?_,rfl⟩⟩
 show L2.Run _ ([.ob true A.Rest p dx [],.va false (dQ K (List.map dI P0))]:L2.Ctx) _ _
 exact (zdy (i:=0) rfl (EvO.ev (EvO.anyI (m:=false) (zd0 (zab (i:=1) rfl)))) T.Rest_cl T.Rest_weights [] rfl (by decide +kernel) (by decide)
 (zal (Wk.refl _)))
def zhR (P0:Int) (P1:(List Int)):RestD:=⟨(zaW (List.map (λ(x140:Int)=>(x140%P0)) P1)),P0⟩
def zbP (P0:Int) (P1:(List Int)):Prop:=2≤P0∧P1.length≤1000
def zd1 (K:W.Frag) (A:Adr):Sp:=zlT (ι:=Int×(List Int)) A.Rest (λx=>[dI x.1,dQ K (List.map dI x.2)]) (λx=>zbP x.1 x.2) true (λx=>[("weights",dL (List.map dI ((zhR x.1 x.2).weights))),("rest",dI ((zhR x.1 x.2).rest))])
theorem zfU:FnScope ["self","rest","weights"] ["self","rest","weights"] (zad za9):=⟨rfl,rfl,rfl,by decide +kernel,rfl,by decide +kernel,by decide +kernel⟩
theorem zfQ (F:Fun K "__init__" "Rest.__init__" za9 f fd) (T:Txt K mg A) {f_Scale___init___Rest:Addr} {fd_Scale___init___Rest:FuncData} (B_Scale___init___Rest:ByCls K A.Scale f_Scale___init___Rest "__init__") (G_Scale___init___Rest:FnOk P w K mg base (CXE P w) 1 f_Scale___init___Rest fd_Scale___init___Rest ["self","weights"] (zcv K A)) (b_Scale___init___Rest:zeR K fd_Scale___init___Rest ["self","weights"] []):FnOk P w K mg base (CXE P w) 2 f fd ["self","rest","weights"] (zd1 K A):=by
 refine F.okI zfU (λ_=>rfl) (λcdv Ar outer s H E x hr hp=>?_)
 obtain ⟨P0,P1⟩:=x
 have hu:=hr.units
 replace hp:zbP P0 P1:=hp
 unfold zbP at hp
 refine ⟨_,(zac (zbW (zat zgs (pv 1) zag (zaD _))
 (zac zeD zaf)
 zaf)
 (zac (zcY (zlU (pe_glob (v:=.ref A.Scale) rfl T.Scale rfl) B_Scale___init___Rest G_Scale___init___Rest (hr.mono (by decide)) b_Scale___init___Rest zaz (pa_cons (pv 0) (pa_cons (zb9 rfl (.of (osc:=(zad za9)) (N:=["self","rest","weights"]) (own:=["weight"]) (fvn:=["rest"]) (fv:=[1]) rfl rfl (by decide +kernel)) (zaN (K:=K) rfl (pv 2)) (λ_ _ _ _ _=>⟨(pg_name (i:=0) (show (["weight","rest"]:List Str).Nodup by decide +kernel) rfl (Or.inl rfl) (Or.inr rfl)),zbm,(zau zbV (pv 0) (pv 1))⟩)) pa_nil))))
 (zac (zfH (pv 0) (pv 1) rfl)
 zaf))),λp dx=>⟨([.ob true A.Rest p dx [("weights",dL (List.map dI (zaW (List.map (λ(x140:Int)=>(x140%P0)) P1)))),("rest",dI P0)],.va false (dI P0),.va false (dQ K (List.map dI P1))]:L2.Ctx),?_,rfl⟩⟩
 show L2.Run _ ([.ob true A.Rest p dx [],.va false (dI P0),.va false (dQ K (List.map dI P1))]:L2.Ctx) _ _
 exact (zbK (EvT.conv (zam (zaL (x:=P0) (y:=(2:Int)) (Ev.any (m:=false) (zab (i:=1) rfl)) zay)) (by exact zrc hp)) (zah
 (zjQ (m2:=false) (i:=0) (x:=(List.map (λ(x140:Int)=>(x140%P0)) P1)) rfl (zaa (Ev.weak (K:=K) (EvO.ev (EvO.conv (zcd (g:=(λ(x140:Int)=>dI (x140%P0))) (zbx (m:=false) dI (xs:=P1) (zab (i:=2) rfl)) (by exact zaj (by have z:=hp.2;omega)) ⟨by decide,by decide⟩ (λi141 x140 hx142=>have v142:=List.mem_of_getElem? hx142;(zax (x:=x140) (y:=P0) (Ev.any (m:=false) (zab (i:=0) rfl)) (Ev.any (m:=false) (zab (i:=1) rfl)) (by show (0:Int)<_;have z:=hp.1;omega)))) (by first | (rw [List.map_map];rfl) | (simp only [cond_true,cond_false];rw [List.map_map];rfl))))) zae) rfl (by show za1 (List.map (λ(x140:Int)=>(x140%P0)) P1);exact trivial)
 (zdy (i:=0) rfl (Ev.any (m:=false) (zab (i:=1) rfl)) T.Rest_cl T.Rest_rest ["weights"] rfl (by decide +kernel) (by decide)
 (zal (Wk.refl _))))))
def LvP (ss:List (List Int)) (l:Int):Prop:=∃ n s:Nat,l=(n:Int)+1∧n≤900∧ss.length≤100∧(∀ t∈ss,Lat.Sd (n+1) s t)∧1+(ss.length+1)*(s+9000)≤50000000
theorem zrt {n:Nat} {l:Int} {ss:List (List Int)} {w:List Int} (p1:l=(n:Int)+1) (e:w=zdp (l-(1:Int)) [(0:Int)]++[(1:Int)]):Lat.lvI (n+1) ss 0 w:=by
 have:w=Lat.lv (n+1) []:=by rw [e,p1];rfl
 rw [this];exact Lat.zqn
theorem zld (s x:List Int):Let (m_head_of x) (λ(head:Int)=>Let (m_weighed s x) (λ(weight:Int)=>Let (m_times s (ixD x head)) (λ(numbers:List Int)=>Let (setZ numbers head (-weight)) (λ(y:List Int)=>y))))=Lat.lv1 s x:=by
 unfold Let
 dsimp only
 rw [head_eq,Lat.zby,zjN]
 rfl
theorem zry {n i:Nat} {ss:List (List Int)} {s x:List Int} (hx:ss.reverse[i]?=some x) (I:Lat.lvI n ss i s):Lat.lvI n ss (i+1) (Let (m_head_of x) (λ(head:Int)=>Let (m_weighed s x) (λ(weight:Int)=>Let (m_times s (ixD x head)) (λ(numbers:List Int)=>Let (setZ numbers head (-weight)) (λ(y:List Int)=>y))))):=by
 rw [zld];exact Lat.zqJ hx I
theorem zq0 {n:Nat} {l:Int} (p1:l=(n:Int)+1) (p2:n≤900):[(0:Int)].length*(l-(1:Int)).toNat≤PySem.sizeLine:=zaj (by rw [List.length_singleton];omega)
theorem zq9 {n:Nat} {l:Int} (p1:l=(n:Int)+1) (p2:n≤900):(zdp (l-(1:Int)) [(0:Int)]).length+[(1:Int)].length≤PySem.sizeLine:=zaj (by rw [p1,show (n:Int)+1-1=(n:Int) by omega,Lat.zdY,List.length_singleton];omega)
theorem ziD {n s i:Nat} {ss:List (List Int)} {w x:List Int} (p2:n≤900) (p4:∀ t∈ss,Lat.Sd (n+1) s t) (I:Lat.lvI (n+1) ss i w):w.length=n+1∧Lat.Bit (1+ss.length*(s+9000)) w:=by
 unfold Lat.lvI at I
 obtain ⟨h1,h2⟩:=Lat.zk0 (ss:=ss.drop (ss.length-i)) (λt ht=>p4 t (List.mem_of_mem_drop ht)) p2
 rw [← I] at h1 h2
 refine ⟨h1,h2.mono ?_⟩
 have:=Nat.mul_le_mul_right (s+9000) (show (ss.drop (ss.length-i)).length≤ss.length by rw [List.length_drop];omega)
 omega
theorem zlZ {ss:List (List Int)} {x:List Int} {i:Nat} (hx:ss.reverse[i]?=some x):x∈ss:=List.mem_reverse.mp (List.mem_of_getElem? hx)
theorem zqu {n s i:Nat} {ss:List (List Int)} {w x:List Int} (p2:n≤900) (p3:ss.length≤100) (p4:∀ t∈ss,Lat.Sd (n+1) s t) (p5:1+(ss.length+1)*(s+9000)≤50000000) (hx:ss.reverse[i]?=some x) (I:Lat.lvI (n+1) ss i w):zdj w x:=by
 obtain ⟨h1,h2⟩:=ziD (x:=x) p2 p4 I
 have T:=p4 x (zlZ hx)
 rw [Nat.succ_mul] at p5
 refine ⟨by rw [h1,T.len],by omega,λp hp=>?_⟩
 have hm:=List.of_mem_zip (a:=p.1) (b:=p.2) hp
 exact Lat.zcT.of (h2 _ hm.1) (T.bit _ hm.2) (by omega) (by omega)
theorem zq7 {n s i:Nat} {ss:List (List Int)} {w x:List Int} {h:Int} (p2:n≤900) (p3:ss.length≤100) (p4:∀ t∈ss,Lat.Sd (n+1) s t) (p5:1+(ss.length+1)*(s+9000)≤50000000) (hx:ss.reverse[i]?=some x) (I:Lat.lvI (n+1) ss i w) (hH:h=(Lat.hd x:Int)):zaY w (ixD x h):=by
 obtain ⟨h1,h2⟩:=ziD (x:=x) p2 p4 I
 have T:=p4 x (zlZ hx)
 rw [Nat.succ_mul] at p5
 subst hH
 rw [Lat.zby]
 exact ⟨by omega,λy hy=>Lat.zcT.of (h2 _ hy) T.top (by omega) (by decide)⟩
theorem zqR {n s i:Nat} {ss:List (List Int)} {w x:List Int} {h c:Int} (p2:n≤900) (p4:∀ t∈ss,Lat.Sd (n+1) s t) (hx:ss.reverse[i]?=some x) (I:Lat.lvI (n+1) ss i w) (hH:h=(Lat.hd x:Int)) {y:List Int} (e:y=m_times w c):InB y.length h:=by
 obtain ⟨h1,h2⟩:=ziD (x:=x) p2 p4 I
 have T:=(p4 x (zlZ hx)).hd
 rw [e,show (m_times w c).length=w.length from Lat.zaO,h1]
 unfold InB;omega
def m_levelled (P0:(List (List Int))) (P1:Int):(List Int) :=
 (Let ((zdp (P1-(1:Int)) [(0:Int)])++[(1:Int)]) (λ(v143:(List Int)) =>
 (Let (List.foldl (λ(s144:(List Int)) (x145:(List Int))=>(Let (m_head_of x145) (λ(hv149:Int) =>
 (Let (m_weighed s144 x145) (λ(v150:Int) =>
 (Let (m_times s144 (ixD x145 hv149)) (λ(v151:(List Int)) =>
 (Let (setZ v151 hv149 (-v150)) (λ(v152:(List Int)) =>
 v152))))))))) v143 (List.reverse P0)) (λ(r153:(List Int)) =>
 r153))))
def zdr (P0:(List (List Int))) (P1:Int):Prop:=LvP P0 P1
def zeO (K:W.Frag) (A:Adr):Sp:=Spv (ι:=(List (List Int))×Int) (λx=>[dQ K (List.map lI x.1),dI x.2]) (λx=>zdr x.1 x.2) (λx=>.va true (dL (List.map dI (m_levelled x.1 x.2))))
theorem zcC:FnScope ["steps","length","numbers","step","head","weight"] ["steps","length"] (zad zdb):=⟨rfl,rfl,rfl,by decide +kernel,rfl,by decide +kernel,by decide +kernel⟩
theorem ziA (F:Fun K "levelled" "levelled" zdb f fd) (T:Txt K mg A) (G_head_of:Callee P w K mg base (CXE P w) 1 "head_of" ["row"] (zbE K A)) (G_times:Callee P w K mg base (CXE P w) 1 "times" ["some","many"] (zc5 K A)) (G_weighed:Callee P w K mg base (CXE P w) 2 "weighed" ["one","other"] (zfr K A)):FnOk P w K mg base (CXE P w) 3 f fd ["steps","length"] (zeO K A):=by
 refine F.okV zcC (λ_=>rfl) (λcdv Ar outer s H E x hr hp=>?_)
 obtain ⟨P0,P1⟩:=x
 have hu:=hr.units
 replace hp:zdr P0 P1:=hp
 unfold zdr at hp
 obtain ⟨N0,S0,p1,p2,p3,p4,p5⟩:=hp
 refine ⟨_,(zac (zap (i:=2) zcC.nd rfl (Or.inl rfl) (zau zcm (zau zlA (zaP (pa_cons zag pa_nil)) (zau zfM (pv 1) zag)) (zaP (pa_cons zag pa_nil))))
 (zac (zd3 PassesOwn.never rfl (zmV rfl rfl T.reversed (pa_cons (pv 0) pa_nil)) (pg_name (i:=3) zcC.nd rfl (Or.inl rfl) (Or.inl rfl))
 (zac (zap (i:=4) zcC.nd rfl (Or.inl rfl) (zaB G_head_of (hr.mono (by decide)) rfl zaz (pa_cons (pv 3) pa_nil)))
 (zac (zap (i:=5) zcC.nd rfl (Or.inl rfl) (zaB G_weighed (hr.mono (by decide)) rfl zaz (pa_cons (pv 2) (pa_cons (pv 3) pa_nil))))
 (zac (zap (i:=2) zcC.nd rfl (Or.inl rfl) (zaB G_times (hr.mono (by decide)) rfl zaz (pa_cons (pv 2) (pa_cons (zbS (zaF (K:=K) rfl) (pv 3) (pv 4) (λ_ _=>rfl)) pa_nil))))
 (zac (zjg (zie zgz (pv 5)) (ziU (pv 2) (pv 4) set_list))
 zaf)))))
 (zac (zaG (pv 2))
 zaf))),.inl ?_⟩
 show L2.Run _ ([.va false (dQ K (List.map lI P0)),.va false (dI P1),.no,.no,.no,.no]:L2.Ctx) _ ((λ(r:(List Int))=>Oc.rt true (dL (List.map dI r))) (m_levelled P0 P1))
 unfold m_levelled
 exact (run_letO (m:=true) (x:=((zdp (P1-(1:Int)) [(0:Int)])++[(1:Int)])) (λz=>List.map dI z) (λ(r:(List Int))=>Oc.rt true (dL (List.map dI r))) (zbz (f:=dI) (xs:=(zdp (P1-(1:Int)) [(0:Int)])) (ys:=[(1:Int)]) (EvO.ev (ziB (f:=dI) (xs:=[(0:Int)]) (n:=(P1-(1:Int))) (EvO.ev (za4 (zaa zay zae) (by show 1≤sizeLine;decide))) (zaL (x:=P1) (y:=(1:Int)) (Ev.any (m:=false) (zab (i:=1) rfl)) zay) (by constructor<;>omega) (by exact zq0 p1 p2))) (EvO.ev (za4 (zaa zay zae) (by show 1≤sizeLine;decide))) (by exact zq9 p1 p2)) (λv143 hv143 =>
 have h0_numbers143:=hv143;(zc0 (s0:=v143) (λ(s144:(List Int))=>([.va false (dQ K (List.map lI P0)),.va false (dI P1),.ow true (List.map dI s144),.no,.no,.no]:L2.Ctx)) (λ(r:(List Int))=>Oc.rt true (dL (List.map dI r))) (λ(s144:(List Int)) (x145:(List Int))=>(Let (m_head_of x145) (λ(hv149:Int) =>
 (Let (m_weighed s144 x145) (λ(v150:Int) =>
 (Let (m_times s144 (ixD x145 hv149)) (λ(v151:(List Int)) =>
 (Let (setZ v151 hv149 (-v150)) (λ(v152:(List Int)) =>
 v152))))))))) (λ(i:Nat) (s144:(List Int))=>Lat.lvI (N0+1) P0 i s144) (zmW (m:=false) lI (xs:=P0) (zab (i:=0) rfl)) (.eq (.eq (.eq (.eq (.eq (.eq .nil)))))) (by exact zrt p1 (by assumption)) (λi146 x145 s144 hx147 hI148=>have v147:=List.mem_of_getElem? hx147;⟨(by exact zry (by assumption) (by assumption)),
 (zas (m:=true) (x:=(m_head_of x145)) dI (λz=>Oc.nx ((λ(s144:(List Int))=>([.va false (dQ K (List.map lI P0)),.va false (dI P1),.ow true (List.map dI s144),.no,.no,.no]:L2.Ctx)) z)) (Ev.any (m:=true) (zao (x:=x145) (zaa (Ev.weak (K:=K) (zab (i:=3) rfl)) zae) rfl (by show zaM x145;exact trivial) rfl)) (λhv149 hhead149 =>
 have hH:=(hhead149).trans (head_eq _);(zbk (i:=2) rfl (zas (m:=true) (x:=(m_weighed s144 x145)) dI (λz=>Oc.nx ((λ(s144:(List Int))=>([.va false (dQ K (List.map lI P0)),.va false (dI P1),.ow true (List.map dI s144),.no,.no,.no]:L2.Ctx)) z)) (Ev.any (m:=true) (zao (x:=(s144,x145)) (zaa (Ev.old (Ev.weak (K:=K) (zab (i:=2) rfl))) (zaa (Ev.weak (K:=K) (zab (i:=3) rfl)) zae)) rfl (by show zdj s144 x145;exact zqu p2 p3 p4 p5 (by assumption) (by assumption)) rfl)) (λv150 hv150 =>
 (run_letO (m:=true) (x:=(m_times s144 (ixD x145 hv149))) (λz=>List.map dI z) (λz=>Oc.nx ((λ(s144:(List Int))=>([.va false (dQ K (List.map lI P0)),.va false (dI P1),.ow true (List.map dI s144),.no,.no,.no]:L2.Ctx)) z)) (EvO.anyI (m:=true) (zaV (x:=(s144,(ixD x145 hv149))) (zaa (Ev.old (Ev.weak (K:=K) (zab (i:=2) rfl))) (zaa (Ev.any (m:=false) (zbT (f:=dI) (xs:=x145) (Ev.weak (K:=K) (zab (i:=3) rfl)) (Ev.any (m:=true) (zab (i:=4) rfl)) (by exact zjc (p4 _ (zlZ (by assumption))) hH))) zae)) rfl (by show zaY s144 (ixD x145 hv149);exact zq7 p2 p3 p4 p5 (by assumption) (by assumption) hH) rfl)) (λv151 hv151 =>
 have h0_numbers151:=hv151;(zg0 (f:=dI) (xs:=v151) (x:=(-v150)) (j:=hv149) (λz=>Oc.nx ((λ(s144:(List Int))=>([.va false (dQ K (List.map lI P0)),.va false (dI P1),.ow true (List.map dI s144),.no,.no,.no]:L2.Ctx)) z)) rfl (ziP (x:=v150) (Ev.any (m:=true) (zab (i:=5) rfl))) (Ev.any (m:=true) (zab (i:=4) rfl)) (by exact zqR p2 p4 (by assumption) (by assumption) hH (by assumption)) (λv152 hv152 =>
 (zal (.eq (.eq (.eq (.no (.no (.no .nil))))))))))))))))⟩) (λr153 hr153 hI =>
 (zbk (i:=2) rfl (zai (zaw (zab (i:=2) rfl))))))))
theorem ziL (ss:List (List Int)) (n:Nat):m_levelled ss ((n:Int)+1)=Lat.lv (n+1) ss:=by
 show List.foldl (λ(s:List Int) (x:List Int)=>Let (m_head_of x) (λ(head:Int)=>Let (m_weighed s x) (λ(weight:Int)=>Let (m_times s (ixD x head)) (λ(numbers:List Int)=>Let (setZ numbers head (-weight)) (λ(y:List Int)=>y))))) (zdp ((n:Int)+1-(1:Int)) [(0:Int)]++[(1:Int)]) (List.reverse ss)=_
 have e:(λ(s:List Int) (x:List Int)=>Let (m_head_of x) (λ(head:Int)=>Let (m_weighed s x) (λ(weight:Int)=>Let (m_times s (ixD x head)) (λ(numbers:List Int)=>Let (setZ numbers head (-weight)) (λ(y:List Int)=>y)))))=Lat.lv1:=funext λs=>funext λx=>zld s x
 rw [e]
 exact Lat.zlc (n+1) ss
theorem zpi {g s:Int} {p:Int×Int} (I:Lat.GdI g s p) (h:(!decide (p.2=(0:Int)))=true):0<p.2:=by
 have:=I.b
 simp only [Bool.not_eq_true',decide_eq_false_iff_not] at h
 omega
theorem zkN {g s:Int} {p:Int×Int} (I:Lat.GdI g s p) (h:(!decide (p.2=(0:Int)))=true):Lat.GdI g s (Let (p.1%p.2) (λ(l:Int)=>Let p.2 (λ(g:Int)=>(g,l))))∧((Let (p.1%p.2) (λ(l:Int)=>Let p.2 (λ(g:Int)=>(g,l)))).2).toNat<(p.2).toNat:=by
 simp only [Bool.not_eq_true',decide_eq_false_iff_not] at h
 exact I.step h
theorem zqv {l:List Int} {i:Nat} {g s x:Int} (I:Lat.DvI l i g) (hA:s=((x.natAbs:Nat):Int)):Lat.GdI g s (g,s):=Lat.GdI.start I.1 (by omega)
theorem zka {l:List Int} {i:Nat} {g x:Int} (hx:l[i]?=some x) (I:Lat.DvI l i g):Lat.DvI l (i+1) (Let ((x.natAbs:Nat):Int) (λ(small:Int)=>Let (whl (λ(s:Int×Int)=>(!decide (s.2=(0:Int)))) (λ(s:Int×Int)=>Let (s.1%s.2) (λ(l:Int)=>Let s.2 (λ(g:Int)=>(g,l)))) ((small).toNat) (g,small)) (λ(r:Int×Int)=>r.1))):=by
 obtain ⟨h1,h2⟩:=zhm (c:=λ(s:Int×Int)=>(!decide (s.2=(0:Int)))) (f:=λ(s:Int×Int)=>Let (s.1%s.2) (λ(l:Int)=>Let s.2 (λ(g:Int)=>(g,l)))) (I:=Lat.GdI g ((x.natAbs:Nat):Int)) (μ:=λs=>s.2.toNat) (λs hs hc=>zkN hs hc) (n:=(((x.natAbs:Nat):Int)).toNat) (s:=(g,((x.natAbs:Nat):Int))) (Lat.GdI.start I.1 (by omega)) (Nat.le_refl _)
 simp only [Bool.not_eq_false',decide_eq_true_eq] at h2
 exact I.step hx (h1.done h2)
def m_divisor (P0:(List Int)):Int :=
 (Let (List.foldl (λ(s154:Int) (x155:Int)=>(Let ((x155.natAbs:Nat):Int) (λ(v159:Int) =>
 (Let (whl (λ(s160:Int×Int)=>(!decide (s160.2=(0:Int)))) (λ(s160:Int×Int)=>(Let (s160.1%s160.2) (λ(v163:Int) =>
 (Let s160.2 (λ(v164:Int) =>
 (v164,v163)))))) ((v159).toNat) (s154,v159)) (λ(r165:Int×Int) =>
 r165.1))))) (0:Int) P0) (λ(r166:Int) =>
 r166))
def zdU (P0:(List Int)):Prop:=True
def zfq (K:W.Frag) (A:Adr):Sp:=Spv (ι:=(List Int)) (λx=>[dQ K (List.map dI x)]) (λx=>zdU x) (λx=>.va true (dI (m_divisor x)))
theorem zcD:FnScope ["numbers","great","number","small","left"] ["numbers"] (zad zdO):=⟨rfl,rfl,rfl,by decide +kernel,rfl,by decide +kernel,by decide +kernel⟩
theorem zju (F:Fun K "divisor" "divisor" zdO f fd) (T:Txt K mg A) :FnOk P w K mg base (CXE P w) 1 f fd ["numbers"] (zfq K A):=by
 refine F.okV zcD (λ_=>rfl) (λcdv Ar outer s H E P0 hr hp=>?_)
 have hu:=hr.units
 replace hp:zdU P0:=hp
 unfold zdU at hp
 refine ⟨_,(zac (zap (i:=1) zcD.nd rfl (Or.inl rfl) zag)
 (zac (zd3 PassesOwn.never rfl (zaN (K:=K) rfl (pv 0)) (pg_name (i:=2) zcD.nd rfl (Or.inl rfl) (Or.inl rfl))
 (zac (zap (i:=3) zcD.nd rfl (Or.inl rfl) (pe_callB zlW rfl T.abs (by decide +kernel) (pa_cons (pv 2) pa_nil)))
 (zac (ziX PassesOwn.never (zat zg6 (pv 3) zag (zaD _))
 (zac (zap (i:=4) zcD.nd rfl (Or.inl rfl) (zau zbV (pv 1) (pv 3)))
 (zac (zap (i:=1) zcD.nd rfl (Or.inl rfl) (pv 3))
 (zac (zap (i:=3) zcD.nd rfl (Or.inl rfl) (pv 4))
 zaf))))
 zaf)))
 (zac (zaG (pv 1))
 zaf))),.inl ?_⟩
 show L2.Run _ ([.va false (dQ K (List.map dI P0)),.no,.no,.no,.no]:L2.Ctx) _ ((λ(r:Int)=>Oc.rt true (dI r)) (m_divisor P0))
 unfold m_divisor
 exact (za0 (m:=true) zay
 (zc0 (s0:=(0:Int)) (λ(s154:Int)=>([.va false (dQ K (List.map dI P0)),.va true (dI s154),.no,.no,.no]:L2.Ctx)) (λ(r:Int)=>Oc.rt true (dI r)) (λ(s154:Int) (x155:Int)=>(Let ((x155.natAbs:Nat):Int) (λ(v159:Int) =>
 (Let (whl (λ(s160:Int×Int)=>(!decide (s160.2=(0:Int)))) (λ(s160:Int×Int)=>(Let (s160.1%s160.2) (λ(v163:Int) =>
 (Let s160.2 (λ(v164:Int) =>
 (v164,v163)))))) ((v159).toNat) (s154,v159)) (λ(r165:Int×Int) =>
 r165.1))))) (λ(i:Nat) (s154:Int)=>Lat.DvI P0 i s154) (zbx (m:=false) dI (xs:=P0) (zab (i:=0) rfl)) (.eq (.eq (.eq (.eq (.eq .nil))))) (by exact Lat.DvI.start) (λi156 x155 s154 hx157 hI158=>have v157:=List.mem_of_getElem? hx157;⟨(by exact zka (by assumption) (by assumption)),
 (zas (m:=true) (x:=((x155.natAbs:Nat):Int)) dI (λz=>Oc.nx ((λ(s154:Int)=>([.va false (dQ K (List.map dI P0)),.va true (dI s154),.no,.no,.no]:L2.Ctx)) z)) (zpP (Ev.any (m:=false) (zab (i:=2) rfl))) (λv159 hv159 =>
 have hA:=hv159;(zh5 (s0:=(s154,v159)) (λ(s160:Int×Int)=>([.va false (dQ K (List.map dI P0)),.va true (dI s160.1),.va false (dI x155),.va true (dI s160.2),.no]:L2.Ctx)) (λz=>Oc.nx ((λ(s154:Int)=>([.va false (dQ K (List.map dI P0)),.va true (dI s154),.no,.no,.no]:L2.Ctx)) z)) (λ(s160:Int×Int)=>(!decide (s160.2=(0:Int)))) (λ(s160:Int×Int)=>(Let (s160.1%s160.2) (λ(v163:Int) =>
 (Let s160.2 (λ(v164:Int) =>
 (v164,v163)))))) (λ(s160:Int×Int)=>Lat.GdI (s154) (v159) s160) (λ(s160:Int×Int)=>(s160.2).toNat) ((v159).toNat) (.eq (.eq (.eq (.eq (.eq .nil))))) (by exact zqv (by assumption) hA) (by exact Nat.le_refl _) (λs160 hI161=>⟨(zam (zeY (x:=s160.2) (y:=(0:Int)) (Ev.any (m:=true) (zab (i:=3) rfl)) zay)),λhc162=>⟨(by exact zkN (by assumption) (by assumption)),
 (zas (m:=true) (x:=(s160.1%s160.2)) dI (λz=>Oc.nx ((λ(s160:Int×Int)=>([.va false (dQ K (List.map dI P0)),.va true (dI s160.1),.va false (dI x155),.va true (dI s160.2),.no]:L2.Ctx)) z)) (zax (x:=s160.1) (y:=s160.2) (Ev.any (m:=true) (zab (i:=1) rfl)) (Ev.any (m:=true) (zab (i:=3) rfl)) (by show (0:Int)<_;exact zpi (by assumption) (by assumption))) (λv163 hv163 =>
 (zas (m:=true) (x:=s160.2) dI (λz=>Oc.nx ((λ(s160:Int×Int)=>([.va false (dQ K (List.map dI P0)),.va true (dI s160.1),.va false (dI x155),.va true (dI s160.2),.no]:L2.Ctx)) z)) (Ev.any (m:=true) (zab (i:=3) rfl)) (λv164 hv164 =>
 (za0 (m:=true) (Ev.any (m:=true) (zab (i:=4) rfl))
 (zal (.eq (.eq (.eq (.eq (.no .nil)))))))))))⟩⟩) (λr165 hr165 hI hc =>
 (zal (.eq (.eq (.no (.no (.eq .nil))))))))))⟩) (λr166 hr166 hI =>
 (zai (zaw (Ev.any (m:=true) (zab (i:=1) rfl)))))))
theorem zfI (l:List Int):∀ k,k≤l.length->Lat.DvI l k (List.foldl (λ(s:Int) (x:Int)=>Let ((x.natAbs:Nat):Int) (λ(small:Int)=>Let (whl (λ(s:Int×Int)=>(!decide (s.2=(0:Int)))) (λ(s:Int×Int)=>Let (s.1%s.2) (λ(l:Int)=>Let s.2 (λ(g:Int)=>(g,l)))) ((small).toNat) (s,small)) (λ(r:Int×Int)=>r.1))) (0:Int) (l.take k))
 | 0,_=>Lat.DvI.start
 | k+1,h=>by
  have hk:l[k]?=some l[k]:=List.getElem?_eq_getElem h
  rw [List.take_succ_eq_append_getElem h,List.foldl_append]
  exact zka hk (zfI l k (by omega))
theorem zfA (l:List Int):0≤m_divisor l∧(∀ x∈l,m_divisor l ∣ x)∧((∃ x∈l,x≠0)->0<m_divisor l):=by
 have:=zfI l l.length (Nat.le_refl _)
 unfold Lat.DvI at this
 rw [List.take_length] at this
 exact this
def zny (l:List Int):Prop:=l.length≤1000∧0<m_divisor l∧(m_divisor l).natAbs≤2^8990
theorem zno {l:List Int} {g x:Int} (h:zny l) (e:g=m_divisor l):zft x g:=by
 subst e
 exact Lat.zft.of h.2.1 h.2.2 (by decide)
theorem zgU {g:Int}:∀ {l:List Int},(∀ x∈l,g ∣ x)->∀ u:Lat.Vc,Lat.dv (List.map (λ(x:Int)=>x/g) l) u*g=Lat.dv l u∧g ∣ Lat.dv l u
 | [],_,u=>⟨by show (0:Int)*g=0;omega,Int.dvd_zero _⟩
 | a :: l,h,u=>by
  obtain ⟨h1,h2⟩:=zgU (l:=l) (λx hx=>h x (List.mem_cons_of_mem _ hx)) λi=>u (i+1)
  have h3:=h a List.mem_cons_self
  refine ⟨?_,Int.dvd_add (Int.dvd_trans h3 (Int.dvd_mul_right _ _)) h2⟩
  show (a/g*u 0+Lat.dv (List.map (λ(x:Int)=>x/g) l) λi=>u (i+1))*g=a*u 0+Lat.dv l λi=>u (i+1)
  rw [Int.add_mul,h1,Int.mul_right_comm,Int.ediv_mul_cancel h3]
def m_shortened (P0:(List Int)):(List Int) :=
 (Let (m_divisor P0) (λ(v167:Int) =>
 (List.map (λ(x168:Int)=>(x168/v167)) P0)))
def zcq (P0:(List Int)):Prop:=zny P0
def zeq (K:W.Frag) (A:Adr):Sp:=Spv (ι:=(List Int)) (λx=>[dQ K (List.map dI x)]) (λx=>zcq x) (λx=>.va true (dL (List.map dI (m_shortened x))))
theorem zfJ:FnScope ["numbers","shared"] ["numbers"] (zad zca):=⟨rfl,rfl,rfl,by decide +kernel,rfl,by decide +kernel,by decide +kernel⟩
theorem zhY (F:Fun K "shortened" "shortened" zca f fd) (T:Txt K mg A) (G_divisor:Callee P w K mg base (CXE P w) 1 "divisor" ["numbers"] (zfq K A)):FnOk P w K mg base (CXE P w) 2 f fd ["numbers"] (zeq K A):=by
 refine F.okV zfJ (λ_=>rfl) (λcdv Ar outer s H E P0 hr hp=>?_)
 have hu:=hr.units
 replace hp:zcq P0:=hp
 unfold zcq at hp
 refine ⟨_,(zac (zap (i:=1) zfJ.nd rfl (Or.inr rfl) (zaB G_divisor (hr.mono (by decide)) rfl zaz (pa_cons (pv 0) pa_nil)))
 (zac (zaG (zb9 rfl (.of (osc:=(zad zca)) (N:=["numbers","shared"]) (own:=["number"]) (fvn:=["shared"]) (fv:=[1]) rfl rfl (by decide +kernel)) (zaN (K:=K) rfl (pv 0)) (λ_ _ _ _ _=>⟨(pg_name (i:=0) (show (["number","shared"]:List Str).Nodup by decide +kernel) rfl (Or.inl rfl) (Or.inr rfl)),zbm,(zau zbc (pv 0) (pv 1))⟩)))
 zaf)),.inl ?_⟩
 show L2.Run _ ([.va false (dQ K (List.map dI P0)),.no]:L2.Ctx) _ ((λ(r:(List Int))=>Oc.rt true (dL (List.map dI r))) (m_shortened P0))
 unfold m_shortened
 exact (zas (m:=true) (x:=(m_divisor P0)) dI (λ(r:(List Int))=>Oc.rt true (dL (List.map dI r))) (Ev.any (m:=true) (zao (x:=P0) (zaa (zab (i:=0) rfl) zae) rfl (by show zdU P0;exact trivial) rfl)) (λv167 hv167 =>
 have hS:=hv167;(zai (zaw (EvO.ev (EvO.conv (zcd (g:=(λ(x168:Int)=>dI (x168/v167))) (zbx (m:=false) dI (xs:=P0) (zab (i:=0) rfl)) (by exact zaj (by have z:=hp.1;omega)) ⟨by decide,by decide⟩ (λi169 x168 hx170=>have v170:=List.mem_of_getElem? hx170;(zax (x:=x168) (y:=v167) (Ev.any (m:=false) (zab (i:=0) rfl)) (Ev.any (m:=true) (zab (i:=1) rfl)) (by exact zno hp hS)))) (by first | (rw [List.map_map];rfl) | (simp only [cond_true,cond_false];rw [List.map_map];rfl))))))))
theorem short_is (l:List Int):m_shortened l=List.map (λ(x:Int)=>x/m_divisor l) l:=rfl
def SnP (b:BookD) (x:List Int):Prop:=∃ n R bt:Nat,b.many=(n:Int)∧1≤n∧n≤8∧x.length=n∧(∀ r∈b.swaps,r.length=n∧Lat.Bit bt r)∧Lat.Bit bt x∧b.swaps.length+1≤R∧R≤13∧bt≤400∧Lat.eB bt R*(n+1)≤8990
theorem zpr {n R bt:Nat} (h1:1≤n) (h2:n≤8) (h3:R≤13) (h4:bt≤400) (h5:Lat.eB bt R*(n+1)≤8990):Lat.Fit (n+1) bt R∧Lat.sB bt R≤63028∧Lat.eB bt R≤4495:=by
 have e1:Lat.eB bt R*2≤Lat.eB bt R*(n+1):=Nat.mul_le_mul_left _ (by omega)
 have e2:Lat.sB bt R≤4502*14:=Nat.mul_le_mul (by omega) (by omega)
 refine ⟨⟨by omega,by omega,by omega,?_⟩,by omega,by omega⟩
 have e3:min (n+1) R≤9:=by omega
 generalize Lat.sB bt R=s at *
 generalize min (n+1) R=k at *
 have e4:(k+2)*((k+1)*(s+9000))≤11*(10*(63028+9000)):=Nat.mul_le_mul (by omega) (Nat.mul_le_mul (by omega) (by omega))
 have e5:(k+1)*(s+1)≤10*63029:=Nat.mul_le_mul (by omega) (by omega)
 omega
def snR (b:BookD) (x:List Int):List (List Int):=Lat.clm Lat.MG (Lat.askR b.swaps x)
def snS (n:Nat) (b:BookD) (x:List Int):List (List Int):=List.filter (λ(t:List Int)=>decide (Lat.hd t<n)) (snR b x)
theorem SnP.all {b:BookD} {x:List Int} (h:SnP b x):∃ n s E:Nat,b.many=(n:Int)∧1≤n∧n≤8∧x.length=n∧b.swaps.length≤12∧Lat.Shw n b.swaps x (snR b x) (snS n b x)∧(∀ t∈snR b x,Lat.Sd (n+1) s t)∧(∀ t∈snR b x,(Lat.vec t (Lat.hd t)).natAbs≤2^E)∧E*(n+1)≤8990∧s≤63028∧(snR b x).length≤n+1:=by
 obtain ⟨n,R,bt,h1,h2,h3,h4,h5,h6,h7,h8,h9,h10⟩:=h
 obtain ⟨F,f2,f3⟩:=zpr h2 h3 h8 h9 h10
 have hl:=Lat.zki (λr hr=>(h5 r hr).1) h4
 have hb:=Lat.zkq (λr hr=>(h5 r hr).2) h6
 have hR:(Lat.askR b.swaps x).length≤R:=by unfold Lat.askR;rw [List.length_append,List.length_map];exact h7
 obtain ⟨S,s2,s3⟩:=Lat.zf8 F hR λr hr=>⟨hl r hr,hb r hr⟩
 exact ⟨n,Lat.sB bt R,Lat.eB bt R,h1,h2,h3,h4,by omega,⟨S,rfl,λr hr=>(h5 r hr).1,h4⟩,s3,λt ht=>(S.bits (by omega) hR hb t ht).1,h10,f2,by unfold snR;omega⟩
theorem zja {b:BookD} {x:List Int} (h:SnP b x):b.swaps.length≤PySem.sizeLine∧(∀ s∈b.swaps,s.length+[(0:Int)].length≤PySem.sizeLine)∧x.length+[(-(1:Int))].length≤PySem.sizeLine∧(List.map (λ(r:List Int)=>r++[(0:Int)]) b.swaps).length+[x++[(-(1:Int))]].length≤PySem.sizeLine:=by
 obtain ⟨n,R,bt,h1,h2,h3,h4,h5,h6,h7,h8,h9,h10⟩:=h
 refine ⟨zaj (by omega),λs hs=>zaj (by rw [(h5 s hs).1,List.length_singleton];omega),zaj (by rw [List.length_singleton];omega),zaj (by rw [List.length_map,List.length_singleton];omega)⟩
theorem zpY {b:BookD} {x:List Int} (h:SnP b x):Lat.zre (Lat.askR b.swaps x):=by
 obtain ⟨n,R,bt,h1,h2,h3,h4,h5,h6,h7,h8,h9,h10⟩:=h
 exact ⟨n+1,bt,R,(zpr h2 h3 h8 h9 h10).1,by unfold Lat.askR;rw [List.length_append,List.length_map];exact h7,λr hr=>⟨Lat.zki (λr hr=>(h5 r hr).1) h4 r hr,Lat.zkq (λr hr=>(h5 r hr).2) h6 r hr⟩⟩
section
variable {b:BookD} {x w short:List Int} {rows ss:List (List Int)} {num:List Int} {c:Int}
theorem zjX (hR:rows=m_climbed (Lat.askR b.swaps x)):rows=snR b x:=hR.trans (zfl _)
theorem zoA {n:Nat} (hn:b.many=(n:Int)) (hR:rows=snR b x) (hS:ss=List.map (λ(t:List Int)=>t) (List.filter (λ(t:List Int)=>decide (m_head_of t<b.many)) rows)):ss=snS n b x:=by
 rw [hS,List.map_id',hR,hn]
 unfold snS
 congr 1
 funext t
 rw [head_eq]
 simp
theorem zq4 (h:SnP b x) (hR:rows=m_climbed (Lat.askR b.swaps x)):rows.length≤PySem.sizeLine:=by
 obtain ⟨n,s,E,h1,h2,h3,h4,h5,h6,h7,h8,h9,h10,h11⟩:=h.all
 rw [zjX hR];exact zaj (by omega)
theorem zqy (h:SnP b x) (hR:rows=m_climbed (Lat.askR b.swaps x)) (hS:ss=List.map (λ(t:List Int)=>t) (List.filter (λ(t:List Int)=>decide (m_head_of t<b.many)) rows)):LvP ss (b.many+(1:Int)):=by
 obtain ⟨n,s,E,h1,h2,h3,h4,h5,h6,h7,h8,h9,h10,h11⟩:=h.all
 have hl:(snS n b x).length≤n+1:=Nat.le_trans (List.length_filter_le _ _) h11
 rw [zoA h1 (zjX hR) hS]
 have:=Nat.mul_le_mul (show (snS n b x).length+1≤10 by omega) (show s+9000≤72028 by omega)
 exact ⟨n,s,by omega,by omega,by omega,λt ht=>h7 t (h6.low t ht).1,by omega⟩
theorem zpN {n:Nat} (hn:b.many=(n:Int)) (hS:ss=snS n b x) (hN:num=m_levelled ss (b.many+(1:Int))):num=Lat.lv (n+1) (snS n b x):=by rw [hN,hS,hn,ziL]
theorem zqm {n:Nat} (hn:b.many=(n:Int)) (hN:num=Lat.lv (n+1) (snS n b x)) (hW:w=zbH num none (some b.many)):w=(Lat.lv (n+1) (snS n b x)).take n:=by rw [hW,hN,hn,zhG]
theorem zj9:∀ {l:List Int} {u:Lat.Vc},(∀ y∈l,y=0)->Lat.dv l u=0
 | [],_,_=>rfl
 | a :: l,u,h=>by
  show a*u 0+Lat.dv l _=0
  rw [h a List.mem_cons_self,zj9 λy hy=>h y (List.mem_cons_of_mem _ hy)];omega
theorem ziF {n E:Nat} {R:List (List Int)} (h8:∀ t∈R,(Lat.vec t (Lat.hd t)).natAbs≤2^E) (h9:E*(n+1)≤8990) (h11:R.length≤n+1):(Lat.prh R).natAbs≤2^8990 :=
 Nat.le_trans (Lat.zm8 h8) (Nat.pow_le_pow_right (by decide) (Nat.le_trans (Nat.mul_le_mul_left _ h11) h9))
theorem zkv {g P:Int} (hP:0<P) (h:g ∣ P) (hb:P.natAbs≤2^8990):g.natAbs≤2^8990:=Nat.le_trans (Nat.le_of_dvd (Int.natAbs_pos.mpr (by omega)) (Int.natAbs_dvd_natAbs.mpr h)) hb
theorem zo0 {n:Nat} (S:Lat.Shw n b.swaps x (snR b x) (snS n b x)) (q:(snS n b x).length=(snR b x).length):snR b x=snS n b x:=by
 rcases Lat.ech_cut S.st.ech with z | ⟨t,h1,h2⟩
 ·exact z
 ·have:(snR b x).length=(snS n b x).length+1:=by
   conv=>lhs;rw [h2]
   rw [List.length_append];rfl
  omega
theorem zoG {n:Nat} (S:Lat.Shw n b.swaps x (snR b x) (snS n b x)) (q:¬ (snS n b x).length=(snR b x).length):∃ t,Lat.hd t=n∧snR b x=snS n b x++[t]:=by
 rcases Lat.ech_cut S.st.ech with z | z
 ·exact absurd (congrArg List.length z).symm q
 ·exact z
theorem ziv {α:Type} [Inhabited α] {xs:List α} {t:α}:ixD (xs++[t]) (-(1:Int))=t:=by
 unfold ixD atI ixN
 rw [if_neg (by decide),if_pos (by rw [List.length_append,List.length_singleton];omega)]
 have:((-(1:Int))+(((xs++[t]).length:Nat):Int)).toNat=xs.length:=by rw [List.length_append,List.length_singleton];omega
 first
  | (show ((xs++[t])[_]?).getD _=t;rw [this];simp)
  | (simp [this])
theorem zla {n E:Nat} (S:Lat.Shw n b.swaps x (snR b x) (snS n b x)) (h8:∀ t∈snR b x,(Lat.vec t (Lat.hd t)).natAbs≤2^E) (h9:E*(n+1)≤8990) (h11:(snR b x).length≤n+1) (h3:n≤8) (q:(snS n b x).length=(snR b x).length):zny ((Lat.lv (n+1) (snS n b x)).take n):=by
 have e:=zo0 S q
 obtain ⟨l1,l2,l3⟩:=S.line e
 obtain ⟨v1,v2,v3,v4⟩:=S.lv
 obtain ⟨d1,d2,d3⟩:=zfA ((Lat.lv (n+1) (snS n b x)).take n)
 have hx:=(zgU d2 (Lat.vec x)).2
 rw [l2] at hx
 refine ⟨by rw [List.length_take];omega,d3 (Classical.byContradiction λz=>?_),zkv v4 hx (by rw [← e];exact ziF h8 h9 h11)⟩
 have:=zj9 (u:=Lat.vec x) λy hy=>Classical.byContradiction λw=>z ⟨y,hy,w⟩
 omega
theorem znT (h:SnP b x) (hR:rows=m_climbed (Lat.askR b.swaps x)) (hS:ss=List.map (λ(t:List Int)=>t) (List.filter (λ(t:List Int)=>decide (m_head_of t<b.many)) rows)) (hN:num=m_levelled ss (b.many+(1:Int))) (hW:w=zbH num none (some b.many)) (q:decide (((ss.length:Nat):Int)=((rows.length:Nat):Int))=true):zny w:=by
 obtain ⟨n,s,E,h1,h2,h3,h4,h5,h6,h7,h8,h9,h10,h11⟩:=h.all
 have eS:=zoA h1 (zjX hR) hS
 rw [eS,zjX hR] at q
 rw [zqm h1 (zpN h1 eS hN) hW]
 exact zla h6 h8 h9 h11 h3 (by have:=of_decide_eq_true q;omega)
theorem zpJ (h:SnP b x) (hR:rows=m_climbed (Lat.askR b.swaps x)) (hS:ss=List.map (λ(t:List Int)=>t) (List.filter (λ(t:List Int)=>decide (m_head_of t<b.many)) rows)) (q:decide (((ss.length:Nat):Int)=((rows.length:Nat):Int))=false):InB rows.length (-(1:Int))∧InB (ixD rows (-(1:Int))).length b.many:=by
 obtain ⟨n,s,E,h1,h2,h3,h4,h5,h6,h7,h8,h9,h10,h11⟩:=h.all
 have eS:=zoA h1 (zjX hR) hS
 rw [eS,zjX hR] at q
 obtain ⟨t,t1,t2⟩:=zoG h6 (by have:=of_decide_eq_false q;omega)
 have ht:t∈snR b x:=by rw [t2];exact List.mem_append_right _ (List.mem_singleton.mpr rfl)
 rw [zjX hR,t2,ziv,(h7 t ht).len,h1,List.length_append]
 unfold InB
 simp only [List.length_singleton]
 omega
theorem zq8 (h:SnP b x) (hR:rows=m_climbed (Lat.askR b.swaps x)) (hS:ss=List.map (λ(t:List Int)=>t) (List.filter (λ(t:List Int)=>decide (m_head_of t<b.many)) rows)) (hN:num=m_levelled ss (b.many+(1:Int))):InB num.length b.many:=by
 obtain ⟨n,s,E,h1,h2,h3,h4,h5,h6,h7,h8,h9,h10,h11⟩:=h.all
 rw [zpN h1 (zoA h1 (zjX hR) hS) hN,h6.lv.1,h1]
 unfold InB;omega
theorem zm7 (h:SnP b x) (hR:rows=m_climbed (Lat.askR b.swaps x)) (hS:ss=List.map (λ(t:List Int)=>t) (List.filter (λ(t:List Int)=>decide (m_head_of t<b.many)) rows)) (hN:num=m_levelled ss (b.many+(1:Int))) (q:decide (((ss.length:Nat):Int)=((rows.length:Nat):Int))=false) (hM:c=ixD (ixD rows (-(1:Int))) b.many):∃ (n:Nat) (t:List Int),b.many=(n:Int)∧n≤8∧Lat.hd t=n∧snR b x=snS n b x++[t]∧Lat.Shw n b.swaps x (snR b x) (snS n b x)∧c=Lat.vec t n∧ixD num b.many=Lat.prh (snS n b x)∧0<Lat.prh (snS n b x)∧num=Lat.lv (n+1) (snS n b x)∧(Lat.prh (snS n b x)*c).natAbs≤2^8990∧c.natAbs≤2^8980∧0<c:=by
 obtain ⟨n,s,E,h1,h2,h3,h4,h5,h6,h7,h8,h9,h10,h11⟩:=h.all
 have eS:=zoA h1 (zjX hR) hS
 have eN:=zpN h1 eS hN
 rw [eS,zjX hR] at q
 obtain ⟨t,t1,t2⟩:=zoG h6 (by have:=of_decide_eq_false q;omega)
 have ht:t∈snR b x:=by rw [t2];exact List.mem_append_right _ (List.mem_singleton.mpr rfl)
 rw [zjX hR,t2,ziv,h1,Lat.zby] at hM
 have hb:=ziF h8 h9 h11
 rw [t2,Lat.ziu,t1,← hM] at hb
 obtain ⟨v1,v2,v3,v4⟩:=h6.lv
 have T:=h7 t ht
 have T1:=T.top
 have T2:=T.pos
 rw [t1,← hM] at T1 T2
 exact ⟨n,t,h1,h3,t1,t2,h6,hM,by rw [eN,h1,Lat.zby,v3],v4,eN,hb,T1,T2⟩
theorem zpK (h:SnP b x) (hR:rows=m_climbed (Lat.askR b.swaps x)) (hS:ss=List.map (λ(t:List Int)=>t) (List.filter (λ(t:List Int)=>decide (m_head_of t<b.many)) rows)) (hN:num=m_levelled ss (b.many+(1:Int))) (q:decide (((ss.length:Nat):Int)=((rows.length:Nat):Int))=false) (hM:c=ixD (ixD rows (-(1:Int))) b.many):zcT (ixD num b.many) c:=by
 obtain ⟨n,t,t1,t2,t3,t4,t5,t6,t7,t8,t9,t10,t11,t12⟩:=zm7 h hR hS hN q hM
 rw [t7]
 refine Lat.zcT.of (a:=8990) (Nat.le_trans ?_ t10) t11 (by decide) (by decide)
 rw [Int.natAbs_mul]
 exact Nat.le_mul_of_pos_right _ (Int.natAbs_pos.mpr (by omega))
theorem zqs {y:Int} (h:SnP b x) (hR:rows=m_climbed (Lat.askR b.swaps x)) (hS:ss=List.map (λ(t:List Int)=>t) (List.filter (λ(t:List Int)=>decide (m_head_of t<b.many)) rows)) (hN:num=m_levelled ss (b.many+(1:Int))) (hW:w=zbH num none (some b.many)):[y].length+w.length≤PySem.sizeLine:=by
 obtain ⟨n,s,E,h1,h2,h3,h4,h5,h6,h7,h8,h9,h10,h11⟩:=h.all
 rw [zqm h1 (zpN h1 (zoA h1 (zjX hR) hS) hN) hW]
 exact zaj (by rw [List.length_take,List.length_singleton];omega)
structure RsO (n:Nat) (sw:List (List Int)) (x:List Int) (c:Int) (l:List Int) (r:Int) (v:List Int):Prop where
 sho:zny l
 er:ixD (m_shortened l) (0:Int)=r
 ev:zbH (m_shortened l) (some (1:Int)) none=v
 len:v.length=n
 two:c≠1->2≤r
 d:c ∣ r
 lev:∀ s∈sw,r ∣ Lat.dv v (Lat.vec s)
 xx:r ∣ Lat.dv v (Lat.vec x)-r/c
 q:0<r/c∧(c≠1->r/c<r)
 top:r.natAbs≤2^8990
theorem zpD {n:Nat} {sw R ss:List (List Int)} {x t:List Int} (S:Lat.Shw n sw x R ss) (ht:Lat.hd t=n) (e:R=ss++[t]) (hb:(Lat.prh ss*Lat.vec t n).natAbs≤2^8990) (hn:n≤8):∃ r v,RsO n sw x (Lat.vec t n) ([Lat.prh ss*Lat.vec t n]++(Lat.lv (n+1) ss).take n) r v:=by
 obtain ⟨r1,r2,r3,r4,r5⟩:=S.rest ht e
 obtain ⟨v1,v2,v3,v4⟩:=S.lv
 generalize hc:Lat.vec t n=c at *
 generalize hP:Lat.prh ss=P at *
 have hw:((Lat.lv (n+1) ss).take n).length=n:=by rw [List.length_take];omega
 generalize (Lat.lv (n+1) ss).take n=W at *
 obtain ⟨d1,d2,d3⟩:=zfA ([P*c]++W)
 have hM:0<P*c:=Int.mul_pos v4 r1
 have g0:=d3 ⟨P*c,List.mem_append_left _ (List.mem_singleton.mpr rfl),by omega⟩
 have gM:=d2 (P*c) (List.mem_append_left _ (List.mem_singleton.mpr rfl))
 have hs:m_shortened ([P*c]++W)=(P*c/m_divisor ([P*c]++W)) :: List.map (λ(y:Int)=>y/m_divisor ([P*c]++W)) W:=rfl
 have hsho:zny ([P*c]++W):=⟨by rw [List.length_append,hw,List.length_singleton];omega,g0,zkv hM gM hb⟩
 have gW:∀ y∈W,m_divisor ([P*c]++W) ∣ y:=λy hy=>d2 y (List.mem_append_right _ hy)
 generalize m_divisor ([P*c]++W)=g at *
 have gP:g ∣ P:=by
  have a1:=(zgU gW (Lat.vec x)).2
  have a2:=Int.dvd_trans gM r3
  have:=Int.dvd_sub a1 a2
  rwa [show Lat.dv W (Lat.vec x)-(Lat.dv W (Lat.vec x)-P)=P by omega] at this
 obtain ⟨P',hP'⟩:=gP
 have p0:0<P':=by
  refine Classical.byContradiction λz=>?_
  have:=Int.mul_nonpos_of_nonneg_of_nonpos (show 0≤g by omega) (show P'≤0 by omega)
  omega
 have er:P*c/g=P'*c:=by rw [hP',Int.mul_assoc];exact Int.mul_ediv_cancel_left _ (by omega)
 have ec:P'*c/c=P':=Int.mul_ediv_cancel _ (by omega)
 have key:∀ (u:Lat.Vc) (a:Int),P*c ∣ Lat.dv W u-g*a->P'*c ∣ Lat.dv (List.map (λ(y:Int)=>y/g) W) u-a:=λu a ⟨k,hk⟩=>by
  refine ⟨k,?_⟩
  have h1:=(zgU gW u).1
  refine Int.eq_of_mul_eq_mul_left (show g≠0 by omega) ?_
  rw [Int.mul_sub,Int.mul_comm g,h1,hk,hP']
  simp only [Int.mul_assoc]
 refine ⟨P'*c,List.map (λ(y:Int)=>y/g) W,hsho,by rw [hs,er];exact zkQ (n:=0) rfl,?_,by rw [List.length_map,hw],λh1=>?_,Int.dvd_mul_left _ _,λs hs'=>?_,?_,?_,zkv hM ⟨g,by rw [hP',Int.mul_comm g,Int.mul_right_comm]⟩ hb⟩
 ·rw [hs,show (some (1:Int))=some ((1:Nat):Int) from rfl,Lat.zdv];rfl
 ·have:=Int.mul_le_mul_of_nonneg_right (show (1:Int)≤P' by omega) (show 0≤c by omega)
  omega
 ·have:=key (Lat.vec s) 0 (by rw [Int.mul_zero,Int.sub_zero];exact r2 s hs')
  rwa [Int.sub_zero] at this
 ·rw [ec]
  exact key (Lat.vec x) P' (by rw [← hP'];exact r3)
 ·rw [ec]
  refine ⟨p0,λh1=>?_⟩
  have:=Int.mul_le_mul_of_nonneg_left (show (2:Int)≤c by omega) (show 0≤P' by omega)
  omega
theorem zm1 (h:SnP b x) (hR:rows=m_climbed (Lat.askR b.swaps x)) (hS:ss=List.map (λ(t:List Int)=>t) (List.filter (λ(t:List Int)=>decide (m_head_of t<b.many)) rows)) (hN:num=m_levelled ss (b.many+(1:Int))) (hW:w=zbH num none (some b.many)) (q:decide (((ss.length:Nat):Int)=((rows.length:Nat):Int))=false) (hM:c=ixD (ixD rows (-(1:Int))) b.many):∃ n r v,n≤8∧RsO n b.swaps x c ([ixD num b.many*c]++w) r v:=by
 obtain ⟨n,t,t1,t2,t3,t4,t5,t6,t7,t8,t9,t10,t11,t12⟩:=zm7 h hR hS hN q hM
 rw [t7,zqm t1 t9 hW,t6]
 rw [t6] at t10
 obtain ⟨r,v,z⟩:=zpD t5 t3 t4 t10 t2
 exact ⟨n,r,v,t2,z⟩
theorem zok (h:SnP b x) (hR:rows=m_climbed (Lat.askR b.swaps x)) (hS:ss=List.map (λ(t:List Int)=>t) (List.filter (λ(t:List Int)=>decide (m_head_of t<b.many)) rows)) (hN:num=m_levelled ss (b.many+(1:Int))) (hW:w=zbH num none (some b.many)) (q:decide (((ss.length:Nat):Int)=((rows.length:Nat):Int))=false) (hM:c=ixD (ixD rows (-(1:Int))) b.many):zny ([ixD num b.many*c]++w):=by
 obtain ⟨n,r,v,_,z⟩:=zm1 h hR hS hN hW q hM
 exact z.sho
theorem zqx {y:Int} (e:short=m_shortened ([y]++w)):InB short.length (0:Int):=by
 rw [e,short_is,List.length_map,List.length_append,List.length_singleton]
 unfold InB;omega
theorem zoF (h:SnP b x) (hR:rows=m_climbed (Lat.askR b.swaps x)) (hS:ss=List.map (λ(t:List Int)=>t) (List.filter (λ(t:List Int)=>decide (m_head_of t<b.many)) rows)) (hN:num=m_levelled ss (b.many+(1:Int))) (hW:w=zbH num none (some b.many)) (q:decide (((ss.length:Nat):Int)=((rows.length:Nat):Int))=false) (hM:c=ixD (ixD rows (-(1:Int))) b.many) (q1:decide (c=(1:Int))=false) (hQ:short=m_shortened ([ixD num b.many*c]++w)):2≤ixD short (0:Int)∧(zbH short (some (1:Int)) none).length≤1000:=by
 obtain ⟨n,r,v,hn,z⟩:=zm1 h hR hS hN hW q hM
 rw [hQ,z.er,z.ev,z.len]
 exact ⟨z.two (of_decide_eq_false q1),by omega⟩
end
def m_shown (P0:BookD) (P1:(List Int)):(Int×(Option (LineD ⊕ RestD))) :=
 (Let (m_climbed ((List.map (λ(x171:(List Int))=>(x171++[(0:Int)])) P0.swaps)++[(P1++[(-(1:Int))])])) (λ(v174:(List (List Int))) =>
 (Let (List.map (λ(x175:(List Int))=>x175) (List.filter (λ(x175:(List Int))=>(decide ((m_head_of x175)<P0.many))) v174)) (λ(v178:(List (List Int))) =>
 (Let (m_levelled v178 (P0.many+(1:Int))) (λ(v179:(List Int)) =>
 (Let (zbH v179 none (some P0.many)) (λ(v180:(List Int)) =>
 (bif (decide (((v178.length:Nat):Int)=((v174.length:Nat):Int))) then ((0:Int),(some (Sum.inl (zky (m_shortened v180)))))
 else (Let (ixD (ixD v174 (-(1:Int))) P0.many) (λ(v182:Int) =>
 (bif (decide (v182=(1:Int))) then ((1:Int),none)
 else (Let (m_shortened ([((ixD v179 P0.many)*v182)]++v180)) (λ(v184:(List Int)) =>
 (v182,(some (Sum.inr (zhR (ixD v184 (0:Int)) (zbH v184 (some (1:Int)) none)))))))))))))))))))
def zeb (P0:BookD) (P1:(List Int)):Prop:=SnP P0 P1
def zfY (K:W.Frag) (A:Adr):Sp:=Spv (ι:=BookD×(List Int)) (λx=>[zaK A.Book x.1,dL (List.map dI x.2)]) (λx=>zeb x.1 x.2) (λx=>.va true (dT [dI ((m_shown x.1 x.2).1),dOpt (dSc A) ((m_shown x.1 x.2).2)]))
theorem zdZ:FnScope ["book","basket","rows","steps","numbers","weights","many","short"] ["book","basket"] (zad zek):=⟨rfl,rfl,rfl,by decide +kernel,rfl,by decide +kernel,by decide +kernel⟩
theorem zlQ (F:Fun K "shown" "shown" zek f fd) (T:Txt K mg A) (G_climbed:Callee P w K mg base (CXE P w) 5 "climbed" ["rows"] (zeA K A)) (G_head_of:Callee P w K mg base (CXE P w) 1 "head_of" ["row"] (zbE K A)) (G_levelled:Callee P w K mg base (CXE P w) 3 "levelled" ["steps","length"] (zeO K A)) (G_shortened:Callee P w K mg base (CXE P w) 2 "shortened" ["numbers"] (zeq K A)) {f_Rest:Addr} {fd_Rest:FuncData} (M_Rest:Mk K A.Rest f_Rest) (G_Rest___init__:FnOk P w K mg base (CXE P w) 2 f_Rest fd_Rest ["self","rest","weights"] (zd1 K A)) (b_Rest___init__:zeR K fd_Rest ["self","rest","weights"] [])  {f_Line:Addr} {fd_Line:FuncData} (M_Line:Mk K A.Line f_Line) (G_Scale___init___Line:FnOk P w K mg base (CXE P w) 1 f_Line fd_Line ["self","weights"] (zcu K A)) (b_Scale___init___Line:zeR K fd_Line ["self","weights"] []):FnOk P w K mg base (CXE P w) 6 f fd ["book","basket"] (zfY K A):=by
 refine F.okV zdZ (λ_=>rfl) (λcdv Ar outer s H E x hr hp=>?_)
 obtain ⟨P0,P1⟩:=x
 have hu:=hr.units
 replace hp:zeb P0 P1:=hp
 unfold zeb at hp
 refine ⟨_,(zac (zap (i:=2) zdZ.nd rfl (Or.inl rfl) (zaB G_climbed (hr.mono (by decide)) rfl zaz (pa_cons (zau zcm (zb9 rfl (.of (osc:=(zad zek)) (N:=["book","basket","rows","steps","numbers","weights","many","short"]) (own:=["swap"]) (fvn:=[]) (fv:=[]) rfl rfl (by decide +kernel)) (zaN (K:=K) rfl (za3 (K:=K) rfl (pv 0) rfl)) (λ_ _ _ _ _=>⟨(pg_name (i:=0) (show (["swap"]:List Str).Nodup by decide +kernel) rfl (Or.inl rfl) (Or.inr rfl)),zbm,(zau zcm (pv 0) (zaP (pa_cons zag pa_nil)))⟩)) (zaP (pa_cons (zau zcm (pv 1) (zaP (pa_cons (zie zgz zag) pa_nil))) pa_nil))) pa_nil)))
 (zac (zdV (i:=3) rfl zdZ.nd rfl rfl (.of (osc:=(zad zek)) (N:=["book","basket","rows","steps","numbers","weights","many","short"]) (own:=["row"]) (fvn:=["book"]) (fv:=[0]) rfl rfl (by decide +kernel)) (zaN (K:=K) rfl (pv 2)) (λ_ _ _ _ _=>⟨(pg_name (i:=0) (show (["row","book"]:List Str).Nodup by decide +kernel) rfl (Or.inl rfl) (Or.inr rfl)),(zhr (zat zgs (zaB G_head_of (hr.mono (by decide)) rfl zaz (pa_cons (pv 0) pa_nil)) (za3 (K:=K) rfl (pv 1) rfl) (zaD _))),(pv 0)⟩))
 (zac (zap (i:=4) zdZ.nd rfl (Or.inl rfl) (zaB G_levelled (hr.mono (by decide)) rfl zaz (pa_cons (pv 3) (pa_cons (zau zdh (za3 (K:=K) rfl (pv 0) rfl) zag) pa_nil))))
 (zac (zap (i:=5) zdZ.nd rfl (Or.inl rfl) (zcj (zbI (K:=K) rfl) (pv 4) zdB (zcV (za3 (K:=K) rfl (pv 0) rfl))))
 (zac (zbW (zat zeP (pe_callB (zaA (K:=K) rfl) rfl T.len PySem.boot_len (pa_cons (pv 3) pa_nil)) (pe_callB (zaA (K:=K) rfl) rfl T.len PySem.boot_len (pa_cons (pv 2) pa_nil)) (zaD _))
 (zac (zaG (zgX (pa_cons zag (pa_cons (zhC M_Line G_Scale___init___Line (hr.mono (by decide)) rfl T.Line b_Scale___init___Line .nil zaz (pa_cons (zaB G_shortened (hr.mono (by decide)) rfl zaz (pa_cons (pv 5) pa_nil)) pa_nil)) pa_nil))))
 zaf)
 zaf)
 (zac (zap (i:=6) zdZ.nd rfl (Or.inl rfl) (zbS (zaF (K:=K) rfl) (zbS (zaF (K:=K) rfl) (pv 2) (zie zgz zag) (λ_ _=>rfl)) (za3 (K:=K) rfl (pv 0) rfl) (λ_ _=>rfl)))
 (zac (zbW (zat zeP (pv 6) zag (zaD _))
 (zac (zaG (zgX (pa_cons zag (pa_cons zgb pa_nil))))
 zaf)
 zaf)
 (zac (zap (i:=7) zdZ.nd rfl (Or.inl rfl) (zaB G_shortened (hr.mono (by decide)) rfl zaz (pa_cons (zau zcm (zaP (pa_cons (zau zbG (zbS (zaF (K:=K) rfl) (pv 4) (za3 (K:=K) rfl (pv 0) rfl) (λ_ _=>rfl)) (pv 6)) pa_nil)) (pv 5)) pa_nil)))
 (zac (zaG (zgX (pa_cons (pv 6) (pa_cons (zhC M_Rest G_Rest___init__ (hr.mono (by decide)) rfl T.Rest b_Rest___init__ .nil zaz (pa_cons (zbS (zaF (K:=K) rfl) (pv 7) zag (λ_ _=>rfl)) (pa_cons (zcj (zbI (K:=K) rfl) (pv 7) (zcV zag) zdB) pa_nil))) pa_nil))))
 zaf))))))))),.inl ?_⟩
 show L2.Run _ ([.va false (zaK A.Book P0),.va false (dL (List.map dI P1)),.no,.no,.no,.no,.no,.no]:L2.Ctx) _ ((λ(r:(Int×(Option (LineD ⊕ RestD))))=>Oc.rt true (dT [dI r.1,dOpt (dSc A) r.2])) (m_shown P0 P1))
 unfold m_shown
 exact (zas (m:=true) (x:=(m_climbed ((List.map (λ(x171:(List Int))=>(x171++[(0:Int)])) P0.swaps)++[(P1++[(-(1:Int))])]))) (λ(xs:(List (List Int)))=>dL (List.map lI xs)) (λ(r:(Int×(Option (LineD ⊕ RestD))))=>Oc.rt true (dT [dI r.1,dOpt (dSc A) r.2])) (zao (x:=((List.map (λ(x171:(List Int))=>(x171++[(0:Int)])) P0.swaps)++[(P1++[(-(1:Int))])])) (zaa (Ev.weak (K:=K) (EvO.ev (zbz (f:=lI) (xs:=(List.map (λ(x171:(List Int))=>(x171++[(0:Int)])) P0.swaps)) (ys:=[(P1++[(-(1:Int))])]) (EvO.ev (EvO.conv (zcd (g:=(λ(x171:(List Int))=>dL (List.map dI (x171++[(0:Int)])))) (zbx (m:=false) lI (xs:=P0.swaps) (Ev.weak (K:=K) (zcr (zab (i:=0) rfl) T.Book_cl T.Book_swaps rfl))) (by exact (zja hp).1) ⟨by decide,by decide⟩ (λi172 x171 hx173=>have v173:=List.mem_of_getElem? hx173;(EvO.ev (EvO.anyI (m:=false) (zbz (f:=dI) (xs:=x171) (ys:=[(0:Int)]) (zab (i:=0) rfl) (EvO.ev (za4 (zaa zay zae) (by show 1≤sizeLine;decide))) (by exact (zja hp).2.1 _ (by assumption))))))) (by first | (rw [List.map_map];rfl) | (simp only [cond_true,cond_false];rw [List.map_map];rfl)))) (EvO.ev (za4 (zaa (EvO.ev (EvO.anyI (m:=false) (zbz (f:=dI) (xs:=P1) (ys:=[(-(1:Int))]) (zab (i:=1) rfl) (EvO.ev (za4 (zaa (ziP (x:=(1:Int)) zay) zae) (by show 1≤sizeLine;decide))) (by exact (zja hp).2.2.1)))) zae) (by show 1≤sizeLine;decide))) (by exact (zja hp).2.2.2)))) zae) rfl (by show zdf ((List.map (λ(x171:(List Int))=>(x171++[(0:Int)])) P0.swaps)++[(P1++[(-(1:Int))])]);exact zpY hp) rfl) (λv174 hv174 =>
 have hR:=hv174;(zas (m:=true) (x:=(List.map (λ(x175:(List Int))=>x175) (List.filter (λ(x175:(List Int))=>(decide ((m_head_of x175)<P0.many))) v174))) (λ(xs:(List (List Int)))=>dL (List.map lI xs)) (λ(r:(Int×(Option (LineD ⊕ RestD))))=>Oc.rt true (dT [dI r.1,dOpt (dSc A) r.2])) (EvO.ev (EvO.conv (zgE (c:=λ(x175:(List Int))=>(decide ((m_head_of x175)<P0.many))) (g:=(λ(x175:(List Int))=>dL (List.map dI x175))) (zbx (m:=true) lI (xs:=v174) (Ev.weak (K:=K) (zab (i:=2) rfl))) (by exact zq4 hp hR) ⟨by decide,by decide⟩ (λi176 x175 hx177=>have v177:=List.mem_of_getElem? hx177;(zam (zaL (x:=(m_head_of x175)) (y:=P0.many) (Ev.any (m:=true) (zao (x:=x175) (zaa (Ev.old (Ev.weak (K:=K) (zab (i:=0) rfl))) zae) rfl (by show zaM x175;exact trivial) rfl)) (Ev.any (m:=false) (zcr (zab (i:=1) rfl) T.Book_cl T.Book_many rfl))))) (λi176 x175 hx177 hc=>have v177:=List.mem_of_getElem? hx177;(zab (i:=0) rfl))) (by first | (rw [List.map_map];rfl) | (simp only [cond_true,cond_false];rw [List.map_map];rfl)))) (λv178 hv178 =>
 have hS:=hv178;(zas (m:=true) (x:=(m_levelled v178 (P0.many+(1:Int)))) lI (λ(r:(Int×(Option (LineD ⊕ RestD))))=>Oc.rt true (dT [dI r.1,dOpt (dSc A) r.2])) (zao (x:=(v178,(P0.many+(1:Int)))) (zaa (Ev.old (Ev.weak (K:=K) (zab (i:=3) rfl))) (zaa (zaL (x:=P0.many) (y:=(1:Int)) (Ev.any (m:=false) (zcr (zab (i:=0) rfl) T.Book_cl T.Book_many rfl)) zay) zae)) rfl (by show zdr v178 (P0.many+(1:Int));exact zqy hp hR hS) rfl) (λv179 hv179 =>
 have hN:=hv179;(zas (m:=true) (x:=(zbH v179 none (some P0.many))) lI (λ(r:(Int×(Option (LineD ⊕ RestD))))=>Oc.rt true (dT [dI r.1,dOpt (dSc A) r.2])) (EvO.ev (EvO.anyI (m:=true) (zdi (f:=dI) (xs:=v179) (Ev.weak (K:=K) (zab (i:=4) rfl)) zcM (zbY (Ev.any (m:=false) (zcr (zab (i:=0) rfl) T.Book_cl T.Book_many rfl)))))) (λv180 hv180 =>
 have hW:=hv180;(zaH (b:=(decide (((v178.length:Nat):Int)=((v174.length:Nat):Int)))) (λ(r:(Int×(Option (LineD ⊕ RestD))))=>Oc.rt true (dT [dI r.1,dOpt (dSc A) r.2])) (zam (zdm (x:=((v178.length:Nat):Int)) (y:=((v174.length:Nat):Int)) (zbr (f:=lI) (xs:=v178) (Ev.old (Ev.weak (K:=K) (zab (i:=3) rfl)))) (zbr (f:=lI) (xs:=v174) (Ev.old (Ev.weak (K:=K) (zab (i:=2) rfl)))))) (λh181=>(zak (zai (zaw (zgV (zaa zay (zaa (ziM (i:=(m_shortened v180)) (zaa (Ev.old (Ev.weak (K:=K) (zao (x:=v180) (zaa (Ev.old (Ev.weak (K:=K) (zab (i:=5) rfl))) zae) rfl (by show zcq v180;exact znT hp hR hS hN hW (by assumption)) rfl))) zae) rfl (by show zaZ (m_shortened v180);exact trivial)) zae)) (by show 2≤sizeLine;decide)))))) (λh181 =>
 (zah (zas (m:=true) (x:=(ixD (ixD v174 (-(1:Int))) P0.many)) dI (λ(r:(Int×(Option (LineD ⊕ RestD))))=>Oc.rt true (dT [dI r.1,dOpt (dSc A) r.2])) (Ev.any (m:=true) (zbT (f:=dI) (xs:=(ixD v174 (-(1:Int)))) (Ev.weak (K:=K) (zbT (f:=lI) (xs:=v174) (Ev.weak (K:=K) (zab (i:=2) rfl)) (ziP (x:=(1:Int)) zay) (by exact (zpJ hp hR hS (by assumption)).1))) (Ev.any (m:=false) (zcr (zab (i:=0) rfl) T.Book_cl T.Book_many rfl)) (by exact (zpJ hp hR hS (by assumption)).2))) (λv182 hv182 =>
 have hM:=hv182;(zaH (b:=(decide (v182=(1:Int)))) (λ(r:(Int×(Option (LineD ⊕ RestD))))=>Oc.rt true (dT [dI r.1,dOpt (dSc A) r.2])) (zam (zdm (x:=v182) (y:=(1:Int)) (Ev.any (m:=true) (zab (i:=6) rfl)) zay)) (λh183=>(zak (zai (zaw (zgV (zaa zay (zaa zay zae)) (by show 2≤sizeLine;decide)))))) (λh183 =>
 (zah (zas (m:=true) (x:=(m_shortened ([((ixD v179 P0.many)*v182)]++v180))) lI (λ(r:(Int×(Option (LineD ⊕ RestD))))=>Oc.rt true (dT [dI r.1,dOpt (dSc A) r.2])) (zao (x:=([((ixD v179 P0.many)*v182)]++v180)) (zaa (Ev.weak (K:=K) (EvO.ev (EvO.anyI (m:=true) (zbz (f:=dI) (xs:=[((ixD v179 P0.many)*v182)]) (ys:=v180) (EvO.ev (za4 (zaa (zax (x:=(ixD v179 P0.many)) (y:=v182) (Ev.any (m:=true) (zbT (f:=dI) (xs:=v179) (Ev.weak (K:=K) (zab (i:=4) rfl)) (Ev.any (m:=false) (zcr (zab (i:=0) rfl) T.Book_cl T.Book_many rfl)) (by exact zq8 hp hR hS hN))) (Ev.any (m:=true) (zab (i:=6) rfl)) (by exact zpK hp hR hS hN (by assumption) hM)) zae) (by show 1≤sizeLine;decide))) (zab (i:=5) rfl) (by exact zqs hp hR hS hN hW))))) zae) rfl (by show zcq ([((ixD v179 P0.many)*v182)]++v180);exact zok hp hR hS hN hW (by assumption) hM) rfl) (λv184 hv184 =>
 have hQ:=hv184;(zai (zaw (zgV (zaa (Ev.any (m:=true) (zab (i:=6) rfl)) (zaa (ziM (i:=((ixD v184 (0:Int)),(zbH v184 (some (1:Int)) none))) (zaa (Ev.any (m:=true) (zbT (f:=dI) (xs:=v184) (Ev.weak (K:=K) (zab (i:=7) rfl)) zay (by exact zqx hQ))) (zaa (Ev.weak (K:=K) (EvO.ev (EvO.anyI (m:=true) (zdi (f:=dI) (xs:=v184) (Ev.weak (K:=K) (zab (i:=7) rfl)) (zbY zay) zcM)))) zae)) rfl (by show zbP (ixD v184 (0:Int)) (zbH v184 (some (1:Int)) none);exact zoF hp hR hS hN hW (by assumption) hM (by assumption) hQ)) zae)) (by show 2≤sizeLine;decide))))))))))))))))))))))
theorem zmw {b:BookD} {x:List Int} (h:SnP b x):∃ n:Nat,b.many=(n:Int) ∧
  ((∃ v,m_shown b x=(0,some (Sum.inl ⟨v⟩))∧Lat.Bit 700000 v∧v.length=n∧(∀ s∈b.swaps,Lat.dv v (Lat.vec s)=0)∧Lat.dv v (Lat.vec x)≠0∧∀ d:Int,Lat.SpL b.swaps (λi=>d*Lat.vec x i)->d=0) ∨
  (∃ c:Int,0<c∧c.natAbs≤2^8980∧Lat.SpL b.swaps (λi=>c*Lat.vec x i)∧(∀ d:Int,Lat.SpL b.swaps (λi=>d*Lat.vec x i)->c ∣ d) ∧
   ((c=1∧m_shown b x=(1,none))∨(2≤c∧∃ l r v,RsO n b.swaps x c l r v∧m_shown b x=(c,some (Sum.inr (zhR r v))))))):=by
 obtain ⟨n,s,E,h1,h2,h3,h4,h5,h6,h7,h8,h9,h10,h11⟩:=h.all
 refine ⟨n,h1,?_⟩
 have eR:m_climbed (Lat.askR b.swaps x)=snR b x:=zfl _
 have eS:=zoA (x:=x) (rows:=snR b x) h1 rfl rfl
 have eN:=zpN (b:=b) (x:=x) h1 rfl rfl
 have eW:=zqm (b:=b) (x:=x) h1 rfl rfl
 have hs:m_shown b x=bif decide ((((snS n b x).length:Nat):Int)=(((snR b x).length:Nat):Int)) then ((0:Int),some (Sum.inl (zky (m_shortened ((Lat.lv (n+1) (snS n b x)).take n))))) else (bif (decide (ixD (ixD (snR b x) (-(1:Int))) b.many=(1:Int))) then ((1:Int),none) else (ixD (ixD (snR b x) (-(1:Int))) b.many,some (Sum.inr (zhR (ixD (m_shortened ([ixD (Lat.lv (n+1) (snS n b x)) b.many*ixD (ixD (snR b x) (-(1:Int))) b.many]++(Lat.lv (n+1) (snS n b x)).take n)) (0:Int)) (zbH (m_shortened ([ixD (Lat.lv (n+1) (snS n b x)) b.many*ixD (ixD (snR b x) (-(1:Int))) b.many]++(Lat.lv (n+1) (snS n b x)).take n)) (some (1:Int)) none))))):=by
  unfold m_shown
  show Let (m_climbed (Lat.askR b.swaps x)) _=_
  rw [eR]
  unfold Let
  dsimp only
  rw [eS,eN,eW]
 rw [hs]
 by_cases q:(snS n b x).length=(snR b x).length
 ·left
  rw [decide_eq_true (show (((snS n b x).length:Nat):Int)=(((snR b x).length:Nat):Int) by omega)]
  have e:=zo0 h6 q
  obtain ⟨l1,l2,l3⟩:=h6.line e
  obtain ⟨v1,v2,v3,v4⟩:=h6.lv
  have sh:=zla h6 h8 h9 h11 h3 q
  obtain ⟨d1,d2,d3⟩:=zfA ((Lat.lv (n+1) (snS n b x)).take n)
  have g0:=sh.2.1
  have lb:=(Lat.zk0 (ss:=snS n b x) (λt ht=>h7 t (h6.low t ht).1) (by omega)).2
  have hsl:(snS n b x).length≤9:=by omega
  have hb9:=Nat.mul_le_mul hsl (show s+9000≤72028 by omega)
  refine ⟨m_shortened ((Lat.lv (n+1) (snS n b x)).take n),rfl,λy hy=>?_,by rw [short_is,List.length_map,List.length_take];omega,λs hs=>?_,?_,l3⟩
  ·rw [short_is] at hy
   obtain ⟨z,hz,rfl⟩:=List.mem_map.mp hy
   exact Nat.le_trans (Lat.zf2 g0) ((lb.mono (by omega)) z (List.mem_of_mem_take hz))
  ·have:=(zgU d2 (Lat.vec s)).1
   rw [l1 s hs] at this
   rw [short_is]
   rcases Int.mul_eq_zero.mp this with z | z
   ·exact z
   ·omega
  ·intro z
   rw [short_is] at z
   have:=(zgU d2 (Lat.vec x)).1
   rw [l2,z] at this
   omega
 ·right
  rw [decide_eq_false (show ¬ (((snS n b x).length:Nat):Int)=(((snR b x).length:Nat):Int) by omega)]
  obtain ⟨t,t1,t2⟩:=zoG h6 q
  have ht:t∈snR b x:=by rw [t2];exact List.mem_append_right _ (List.mem_singleton.mpr rfl)
  obtain ⟨r1,r2,r3,r4,r5⟩:=h6.rest t1 t2
  have T:=(h7 t ht).top
  rw [t1] at T
  have hb:=ziF h8 h9 h11
  rw [t2,Lat.ziu,t1] at hb
  obtain ⟨v1,v2,v3,v4⟩:=h6.lv
  have e1:ixD (ixD (snR b x) (-(1:Int))) b.many=Lat.vec t n:=by rw [t2,ziv,h1,Lat.zby]
  have e2:ixD (Lat.lv (n+1) (snS n b x)) b.many=Lat.prh (snS n b x):=by rw [h1,Lat.zby,v3]
  rw [e1,e2,cond_false]
  refine ⟨Lat.vec t n,r1,T,r4,r5,?_⟩
  by_cases q1:Lat.vec t n=1
  ·left
   rw [q1,decide_eq_true rfl]
   exact ⟨rfl,rfl⟩
  ·right
   rw [decide_eq_false q1,cond_false]
   obtain ⟨r,v,z⟩:=zpD h6 t1 t2 hb h3
   refine ⟨by omega,_,r,v,z,?_⟩
   rw [z.er,z.ev]
def TuP (b:BookD) (x:List Int):Prop:=(x.length:Int)=b.many∧SnP b x∧∀ r∈b.swaps,Lat.Bit 200 r
theorem zlx {b:BookD} {x:List Int} {p:Int×Option (LineD ⊕ RestD)} {c:Int} (h:TuP b x) (hT:p=m_shown b x) (hM:c=p.1):c.natAbs≤2^8980:=by
 obtain ⟨n,h1,h2⟩:=zmw h.2.1
 rw [hM,hT]
 rcases h2 with ⟨v,e,_⟩ | ⟨c',c1,c2,c3,c4,c5⟩
 ·rw [e];exact Nat.zero_le _
 ·rcases c5 with ⟨q,e⟩ | ⟨q,l,r,v,z,e⟩
  ·rw [e];exact Nat.one_le_two_pow
  ·rw [e];exact c2
theorem zmS {b:BookD} {x:List Int} (h:SnP b x):∃ n:Nat,b.many=(n:Int)∧n≤8∧x.length=n∧Lat.Bit 400 x∧b.swaps.length≤12∧∀ r∈b.swaps,r.length=n:=by
 obtain ⟨n,R,bt,h1,h2,h3,h4,h5,h6,h7,h8,h9,h10⟩:=h
 exact ⟨n,h1,h3,h4,h6.mono h9,by omega,λr hr=>(h5 r hr).1⟩
theorem zqG {b:BookD} {x:List Int} {p:Int×Option (LineD ⊕ RestD)} {c:Int} (h:TuP b x) (hT:p=m_shown b x) (hM:c=p.1):zaY x c:=by
 obtain ⟨n,h1,h2,h3,h4,h5,h6⟩:=zmS h.2.1
 exact ⟨by omega,λy hy=>Lat.zcT.of (h4 y hy) (zlx h hT hM) (by decide) (by decide)⟩
theorem zq2 {b:BookD} {x:List Int} {p:Int×Option (LineD ⊕ RestD)} {c:Int} (h:TuP b x) (hT:p=m_shown b x) (hM:c=p.1):zmK b (m_times x c):=by
 obtain ⟨n,h1,h2,h3,h4,h5,h6⟩:=zmS h.2.1
 refine ⟨n,400+8980,h1,by rw [show (m_times x c).length=x.length from Lat.zaO,h3],λy hy=>?_,by decide,by omega,by omega,λr hr=>⟨h6 r hr,h.2.2 r hr⟩⟩
 obtain ⟨z,hz,rfl⟩:=List.mem_map.mp hy
 show (z*c).natAbs≤_
 rw [Int.natAbs_mul]
 exact Lat.zdT (h4 z hz) (zlx h hT hM)
theorem zqe {b:BookD} {x:List Int} (h:F3 b.many b.swaps) (hx:(x.length:Int)=b.many) (hb:Lat.Bit 12 x):TuP b x:=by
 obtain ⟨n,q,h1,h2,h3,h4,h5,h6⟩:=h
 have hr:∀ r∈b.swaps,r.length=n∧Lat.Bit (q+30) r:=λr hr=>⟨(h5 r hr).1,((h5 r hr).2).mono (by omega)⟩
 have h8:Lat.Bit (q+30) x:=hb.mono (by omega)
 refine ⟨hx,?_,λr hr=>((h5 r hr).2).mono (by omega)⟩
 rcases h6 with z | ⟨z,z1,z2⟩ | ⟨z,z1,z2⟩<;>subst z
 ·exact ⟨n,13,36,h1,h2,h3,by omega,hr,h8,by omega,by decide,by decide,Nat.le_trans (Nat.mul_le_mul_left (Lat.eB 36 13) (show n+1≤9 by omega)) (by decide)⟩
 ·exact ⟨n,7,60,h1,h2,h3,by omega,hr,h8,by omega,by decide,by decide,Nat.le_trans (Nat.mul_le_mul_left (Lat.eB 60 7) (show n+1≤5 by omega)) (by decide)⟩
 ·exact ⟨n,6,217,h1,h2,h3,by omega,hr,h8,by omega,by decide,by decide,Nat.le_trans (Nat.mul_le_mul_left (Lat.eB 217 6) (show n+1≤4 by omega)) (by decide)⟩
theorem K7.tu {b:BookD} {x y:List Int} (h:K7 b x y) (hx:(x.length:Int)=b.many):TuP b x:=zqe h.1 hx (h.2.1.mono (by decide))
theorem K7.sn {b:BookD} {x y:List Int} (h:K7 b x y) (hx:(x.length:Int)=b.many) (hy:(y.length:Int)=b.many):SnP b (m_less y x):=by
 have e:m_less y x=Lat.sub y x:=rfl
 refine (zqe h.1 (by rw [e,Lat.zhn (by omega)];exact hy) (Lat.Bit.of λi=>?_)).2.1
 rw [e,Lat.zgd (by omega)]
 have h1:=h.2.1.vec i
 have h2:=h.2.2.vec i
 have h3:2^10+2^10≤2^12:=by decide
 omega
def zcO (P0:BookD) (P1:(List Int)) (P2:(List Int)):Except Xn (Option (LineD ⊕ RestD)) :=
 (zgH (zan P0 P1) (λ_ =>
 (zgH (zan P0 P2) (λ_ =>
 (Except.ok ((m_shown P0 (m_less P2 P1)).2))))))
def zds (P0:BookD) (P1:(List Int)) (P2:(List Int)):Prop:=K7 P0 P1 P2
def zeU (K:W.Frag) (A:Adr):Sp:=Spv (ι:=BookD×(List Int)×(List Int)) (λx=>[zaK A.Book x.1,dQ K (List.map dI x.2.1),dQ K (List.map dI x.2.2)]) (λx=>zds x.1 x.2.1 x.2.2) (λx=>zhH A.xc true (dOpt (dSc A)) (zcO x.1 x.2.1 x.2.2))
theorem zjP:FnScope ["book","one","other"] ["book","one","other"] (zad zdM):=⟨rfl,rfl,rfl,by decide +kernel,rfl,by decide +kernel,by decide +kernel⟩
theorem zix (F:Fun K "parting" "parting" zdM f fd) (T:Txt K mg A) (G_less:Callee P w K mg base (CXE P w) 2 "less" ["one","other"] (zeN K A)) (G_shown:Callee P w K mg base (CXE P w) 6 "shown" ["book","basket"] (zfY K A)) (GX_refuse_bad_basket:Callee P w K mg base (CXE P w) 1 "refuse_bad_basket" ["book","basket"] (zaE K A)):FnOk P w K mg base (CXE P w) 7 f fd ["book","one","other"] (zeU K A):=by
 refine F.okVX zjP (λ_=>rfl) (λcdv Ar outer s H E x hr hp O=>?_)
 obtain ⟨P0,P1,P2⟩:=x
 have hu:=hr.units
 replace hp:zds P0 P1 P2:=hp
 unfold zds at hp
 refine ⟨_,(zaC (zbO (zep O GX_refuse_bad_basket (hr.mono (by decide)) rfl (pa_cons (pv 0) (pa_cons (pv 1) pa_nil))))
 (zaC (zbO (zep O GX_refuse_bad_basket (hr.mono (by decide)) rfl (pa_cons (pv 0) (pa_cons (pv 2) pa_nil))))
 (zaC (zco (zaG (zbS (zcZ (K:=K) rfl) (zaB G_shown (hr.mono (by decide)) rfl zaz (pa_cons (pv 0) (pa_cons (zaB G_less (hr.mono (by decide)) rfl zaz (pa_cons (pv 2) (pa_cons (pv 1) pa_nil))) pa_nil))) zag (λ_ _=>rfl))))
 zbB))),.inl ?_⟩
 show L2.Run _ ([.va false (zaK A.Book P0),.va false (dQ K (List.map dI P1)),.va false (dQ K (List.map dI P2))]:L2.Ctx) _ (zlE 3 (zhH A.xc true (dOpt (dSc A)) (zcO P0 P1 P2)))
 rw [zdR]
 show L2.Run _ _ _ ((foX A.xc ([.no,.no,.no]:L2.Ctx) (λ(r:(Option (LineD ⊕ RestD)))=>Oc.rt true (dOpt (dSc A) r))) (zcO P0 P1 P2))
 unfold zcO
 exact (zaU (λ(r:(Option (LineD ⊕ RestD)))=>Oc.rt true (dOpt (dSc A) r)) (P0,P1) (zaa (zab (i:=0) rfl) (zaa (zab (i:=1) rfl) zae)) rfl (by show zaq P0 P1;exact trivial) rfl (.no (.no (.no .nil))) (λv186 hv186 =>
 (zaU (λ(r:(Option (LineD ⊕ RestD)))=>Oc.rt true (dOpt (dSc A) r)) (P0,P2) (zaa (zab (i:=0) rfl) (zaa (zab (i:=2) rfl) zae)) rfl (by show zaq P0 P2;exact trivial) rfl (.no (.no (.no .nil))) (λv185 hv185 =>
 (zai (zaw (ze1 (zao (x:=(P0,(m_less P2 P1))) (zaa (zab (i:=0) rfl) (zaa (EvO.ev (EvO.anyI (m:=true) (zaV (x:=(P2,P1)) (zaa (zab (i:=2) rfl) (zaa (zab (i:=1) rfl) zae)) rfl (by show zci P2 P1;exact (hp.pr (zcl (by assumption)) (zcl (by assumption))).2.2.1) rfl))) zae)) rfl (by show zeb P0 (m_less P2 P1);exact hp.sn (zcl (by assumption)) (zcl (by assumption))) rfl) zay rfl)))))))
def zcQ (P0:BookD) (P1:(List Int)):Except Xn (T3 Int (Option (List Int)) (Option (LineD ⊕ RestD))) :=
 (zgH (zan P0 P1) (λ_ =>
 (Let (m_shown P0 P1) (λ(v187:(Int×(Option (LineD ⊕ RestD)))) =>
 (Let v187.1 (λ(v188:Int) =>
 (Let (bif (decide (v188=(0:Int))) then none else (m_way_to P0 (m_times P1 v188))) (λ(v189:(Option (List Int))) =>
 (Except.ok (T3.mk v188 v189 v187.2))))))))))
def zdu (P0:BookD) (P1:(List Int)):Prop:=K7 P0 P1 P1
def zeT (K:W.Frag) (A:Adr):Sp:=Spv (ι:=BookD×(List Int)) (λx=>[zaK A.Book x.1,dL (List.map dI x.2)]) (λx=>zdu x.1 x.2) (λx=>zhH A.xc true (λ(p:(T3 Int (Option (List Int)) (Option (LineD ⊕ RestD))))=>dT [dI p.a,dOpt lI p.b,dOpt (dSc A) p.c]) (zcQ x.1 x.2))
theorem zeC:FnScope ["book","basket","told","many","way"] ["book","basket"] (zad zdH):=⟨rfl,rfl,rfl,by decide +kernel,rfl,by decide +kernel,by decide +kernel⟩
theorem ziy (F:Fun K "turn_of" "turn_of" zdH f fd) (T:Txt K mg A) (G_shown:Callee P w K mg base (CXE P w) 6 "shown" ["book","basket"] (zfY K A)) (G_times:Callee P w K mg base (CXE P w) 1 "times" ["some","many"] (zc5 K A)) (G_way_to:Callee P w K mg base (CXE P w) 7 "way_to" ["book","basket"] (zee K A)) (GX_refuse_bad_basket:Callee P w K mg base (CXE P w) 1 "refuse_bad_basket" ["book","basket"] (zaE K A)):FnOk P w K mg base (CXE P w) 8 f fd ["book","basket"] (zeT K A):=by
 refine F.okVX zeC (λ_=>rfl) (λcdv Ar outer s H E x hr hp O=>?_)
 obtain ⟨P0,P1⟩:=x
 have hu:=hr.units
 replace hp:zdu P0 P1:=hp
 unfold zdu at hp
 refine ⟨_,(zaC (zbO (zep O GX_refuse_bad_basket (hr.mono (by decide)) rfl (pa_cons (pv 0) (pa_cons (pv 1) pa_nil))))
 (zaC (zco (zap (i:=2) zeC.nd rfl (Or.inl rfl) (zaB G_shown (hr.mono (by decide)) rfl zaz (pa_cons (pv 0) (pa_cons (pv 1) pa_nil)))))
 (zaC (zco (zap (i:=3) zeC.nd rfl (Or.inl rfl) (zbS (zcZ (K:=K) rfl) (pv 2) zag (λ_ _=>rfl))))
 (zaC (zco (zap (i:=4) zeC.nd rfl (Or.inl rfl) (zhA (zat zeP (pv 3) zag (zaD _)) zgb (zaB G_way_to (hr.mono (by decide)) rfl zaz (pa_cons (pv 0) (pa_cons (zaB G_times (hr.mono (by decide)) rfl zaz (pa_cons (pv 1) (pa_cons (pv 3) pa_nil))) pa_nil))))))
 (zaC (zco (zaG (zgX (pa_cons (pv 3) (pa_cons (pv 4) (pa_cons (zbS (zcZ (K:=K) rfl) (pv 2) zag (λ_ _=>rfl)) pa_nil))))))
 zbB))))),.inl ?_⟩
 show L2.Run _ ([.va false (zaK A.Book P0),.va false (dL (List.map dI P1)),.no,.no,.no]:L2.Ctx) _ (zlE 5 (zhH A.xc true (λ(p:(T3 Int (Option (List Int)) (Option (LineD ⊕ RestD))))=>dT [dI p.a,dOpt lI p.b,dOpt (dSc A) p.c]) (zcQ P0 P1)))
 rw [zdR]
 show L2.Run _ _ _ ((foX A.xc ([.no,.no,.no,.no,.no]:L2.Ctx) (λ(r:(T3 Int (Option (List Int)) (Option (LineD ⊕ RestD))))=>Oc.rt true (dT [dI r.a,dOpt lI r.b,dOpt (dSc A) r.c]))) (zcQ P0 P1))
 unfold zcQ
 exact (zaU (λ(r:(T3 Int (Option (List Int)) (Option (LineD ⊕ RestD))))=>Oc.rt true (dT [dI r.a,dOpt lI r.b,dOpt (dSc A) r.c])) (P0,P1) (zaa (zab (i:=0) rfl) (zaa (Ev.weak (K:=K) (zab (i:=1) rfl)) zae)) rfl (by show zaq P0 P1;exact trivial) rfl (.no (.no (.eq (.eq (.eq .nil))))) (λv190 hv190 =>
 (zas (m:=true) (x:=(m_shown P0 P1)) (λ(p:(Int×(Option (LineD ⊕ RestD))))=>dT [dI p.1,dOpt (dSc A) p.2]) (foX A.xc ([.no,.no,.no,.no,.no]:L2.Ctx) (λ(r:(T3 Int (Option (List Int)) (Option (LineD ⊕ RestD))))=>Oc.rt true (dT [dI r.a,dOpt lI r.b,dOpt (dSc A) r.c]))) (zao (x:=(P0,P1)) (zaa (zab (i:=0) rfl) (zaa (zab (i:=1) rfl) zae)) rfl (by show zeb P0 P1;exact (hp.tu (zcl (by assumption))).2.1) rfl) (λv187 hv187 =>
 have hT:=hv187;(zas (m:=true) (x:=v187.1) dI (foX A.xc ([.no,.no,.no,.no,.no]:L2.Ctx) (λ(r:(T3 Int (Option (List Int)) (Option (LineD ⊕ RestD))))=>Oc.rt true (dT [dI r.a,dOpt lI r.b,dOpt (dSc A) r.c]))) (Ev.any (m:=true) (ze1 (zab (i:=2) rfl) zay rfl)) (λv188 hv188 =>
 have hM:=hv188;(zas (m:=true) (x:=(bif (decide (v188=(0:Int))) then none else (m_way_to P0 (m_times P1 v188)))) (dOpt lI) (foX A.xc ([.no,.no,.no,.no,.no]:L2.Ctx) (λ(r:(T3 Int (Option (List Int)) (Option (LineD ⊕ RestD))))=>Oc.rt true (dT [dI r.a,dOpt lI r.b,dOpt (dSc A) r.c]))) (zot (dOpt lI) (b:=(decide (v188=(0:Int)))) (x:=none) (y:=(m_way_to P0 (m_times P1 v188))) (zam (zdm (x:=v188) (y:=(0:Int)) (Ev.any (m:=true) (zab (i:=3) rfl)) zay)) (λhb=>zay) (λhb=>(zao (x:=(P0,(m_times P1 v188))) (zaa (zab (i:=0) rfl) (zaa (Ev.weak (K:=K) (EvO.ev (EvO.anyI (m:=true) (zaV (x:=(P1,v188)) (zaa (Ev.weak (K:=K) (zab (i:=1) rfl)) (zaa (Ev.any (m:=true) (zab (i:=3) rfl)) zae)) rfl (by show zaY P1 v188;exact zqG (hp.tu (zcl (by assumption))) hT hM) rfl)))) zae)) rfl (by show zc7 P0 (m_times P1 v188);exact zq2 (hp.tu (zcl (by assumption))) hT hM) rfl))) (λv189 hv189 =>
 (zai (zaw (zgV (zaa (Ev.any (m:=true) (zab (i:=3) rfl)) (zaa (zab (i:=4) rfl) (zaa (ze1 (zab (i:=2) rfl) zay rfl) zae))) (by show 3≤sizeLine;decide))))))))))))
def C7 (b:BookD) (x y w:List Int):Prop:=F3 b.many b.swaps∧Lat.Bit 10 x∧Lat.Bit 10 y∧Lat.Bit 10 w
section
variable {b:BookD} {x y w:List Int}
theorem C7.one (h:C7 b x y w):K7 b x x:=⟨h.1,h.2.1,h.2.1⟩
theorem C7.two (h:C7 b x y w):K7 b x y:=⟨h.1,h.2.1,h.2.2.1⟩
theorem C7.px (h:C7 b x y w):PxP b x y:=⟨h.two.bk,10,by decide,h.2.1,h.2.2.1⟩
theorem C7.ld (h:C7 b x y w):zfg b x w:=by
 obtain ⟨⟨n,q,h1,h2,h3,h4,h5,h6⟩,_,_,hw⟩:=h
 refine ⟨by omega,λs hs=>by rw [(h5 s hs).1,h1],λp hp z hz=>?_⟩
 have hm:=List.of_mem_zip (a:=p.1) (b:=p.2) hp
 have:=hw _ hm.2
 exact .inr (.inl ⟨by have:(2:Nat)^10=1024:=rfl;omega,by have:(2:Nat)^10=1024:=rfl;omega⟩)
theorem zg3 (b:BookD) (x:List Int):zan b x=if (x.length:Int)=b.many then .ok () else .error .BadBasket:=by
 unfold zan
 by_cases h:(x.length:Int)=b.many
 ·rw [if_pos h,decide_eq_true h];rfl
 ·rw [if_neg h,decide_eq_false h];rfl
theorem zmZ (b:BookD) (x:List Int):za6 b x=if x.length=b.swaps.length then .ok () else .error .BadRoad:=by
 unfold za6
 by_cases h:x.length=b.swaps.length
 ·rw [if_pos h,decide_eq_true (show ((x.length:Nat):Int)=((b.swaps.length:Nat):Int) by omega)];rfl
 ·rw [if_neg h,decide_eq_false (show ¬ ((x.length:Nat):Int)=((b.swaps.length:Nat):Int) by omega)];rfl
end
def m_law_cell (P0:(List Int)) (P1:Int):Int :=
 (bif (decide (P1<((P0.length:Nat):Int))) then ((ixD P0 P1)%(2147483647:Int))
 else (0:Int))
def zaI (P0:(List Int)) (P1:Int):Prop:=0≤P1
def zdl (K:W.Frag) (A:Adr):Sp:=Spv (ι:=(List Int)×Int) (λx=>[dQ K (List.map dI x.1),dI x.2]) (λx=>zaI x.1 x.2) (λx=>.va true (dI (m_law_cell x.1 x.2)))
theorem zio:FnScope ["_law_script","_law_k"] ["_law_script","_law_k"] (zad zdd):=⟨rfl,rfl,rfl,by decide +kernel,rfl,by decide +kernel,by decide +kernel⟩
theorem zia (F:Fun K "_law_cell" "_law_cell" zdd f fd) (T:Txt K mg A) :FnOk P w K mg base (CXE P w) 1 f fd ["_law_script","_law_k"] (zdl K A):=by
 refine F.okV zio (λ_=>rfl) (λcdv Ar outer s H E x hr hp=>?_)
 obtain ⟨P0,P1⟩:=x
 have hu:=hr.units
 replace hp:zaI P0 P1:=hp
 unfold zaI at hp
 refine ⟨_,(zac (zbW (zat zgs (pv 1) (pe_callB (zaA (K:=K) rfl) rfl T.len PySem.boot_len (pa_cons (pv 0) pa_nil)) (zaD _))
 (zac (zaG (zau zbV (zbS (zaF (K:=K) rfl) (pv 0) (pv 1) (λ_ _=>rfl)) zag))
 zaf)
 zaf)
 (zac (zaG zag)
 zaf)),.inl ?_⟩
 show L2.Run _ ([.va false (dQ K (List.map dI P0)),.va false (dI P1)]:L2.Ctx) _ ((λ(r:Int)=>Oc.rt true (dI r)) (m_law_cell P0 P1))
 unfold m_law_cell
 exact (zaH (b:=(decide (P1<((P0.length:Nat):Int)))) (λ(r:Int)=>Oc.rt true (dI r)) (zam (zaL (x:=P1) (y:=((P0.length:Nat):Int)) (Ev.any (m:=false) (zab (i:=1) rfl)) (zbr (f:=dI) (xs:=P0) (zab (i:=0) rfl)))) (λh191=>(zak (zai (zaw (zax (x:=(ixD P0 P1)) (y:=(2147483647:Int)) (Ev.any (m:=false) (zbT (f:=dI) (xs:=P0) (zab (i:=0) rfl) (Ev.any (m:=false) (zab (i:=1) rfl)) (by unfold InB;constructor<;>((try simp only [decide_eq_true_eq,decide_eq_false_iff_not,Bool.not_eq_true',Bool.not_eq_false',Bool.and_eq_true,Bool.or_eq_false_iff,Bool.or_eq_true,Bool.and_eq_false_iff,Bool.cond_eq_ite] at *)<;>omega)))) zay (by decide)))))) (λh191 =>
 (zah (zai (zaw zay)))))
theorem zn1 {s:List Int} {i:Nat} {y:Int} (h:s.length≤i):(s++[y]).length≤i+1:=by simp;omega
theorem zpt {s:List Int} {i n:Nat} {x lo:Int} (h:s.length≤i) (hx:i<n∧x=lo+(i:Int)) (hn:n≤400):s.length<PySem.sizeLine:=Nat.lt_of_le_of_lt (show _≤10000 by omega) (by decide)
def m_law_numbers (P0:(List Int)) (P1:Int) (P2:Int) (P3:Int):(List Int) :=
 (Let (List.foldl (λ(s192:(List Int)) (x193:Int)=>(Let ((x193*x193)+((3:Int)*x193)) (λ(v197:Int) =>
 (Let (bif (decide (x193<((P0.length:Nat):Int))) then (ixD P0 x193) else v197) (λ(v199:Int) =>
 (s192++[((v199%(((2:Int)*P3)+(1:Int)))-P3)])))))) [] (rngZ P1 ((P1+P2)-P1).toNat)) (λ(r200:(List Int)) =>
 r200))
def zba (P0:(List Int)) (P1:Int) (P2:Int) (P3:Int):Prop:=0≤P1∧P1≤200∧0≤P2∧P2≤400∧0≤P3
def zcK (K:W.Frag) (A:Adr):Sp:=Spv (ι:=(List Int)×Int×Int×Int) (λx=>[dQ K (List.map dI x.1),dI x.2.1,dI x.2.2.1,dI x.2.2.2]) (λx=>zba x.1 x.2.1 x.2.2.1 x.2.2.2) (λx=>.ow true (List.map dI (m_law_numbers x.1 x.2.1 x.2.2.1 x.2.2.2)))
theorem zbU:FnScope ["_law_script","_law_at","_law_many","_law_size","_law_found","_law_k","_law_number"] ["_law_script","_law_at","_law_many","_law_size"] (zad zbR):=⟨rfl,rfl,rfl,by decide +kernel,rfl,by decide +kernel,by decide +kernel⟩
theorem zgL (F:Fun K "_law_numbers" "_law_numbers" zbR f fd) (T:Txt K mg A) :FnOk P w K mg base (CXE P w) 1 f fd ["_law_script","_law_at","_law_many","_law_size"] (zcK K A):=by
 refine F.okV zbU (λ_=>rfl) (λcdv Ar outer s H E x hr hp=>?_)
 obtain ⟨P0,P1,P2,P3⟩:=x
 have hu:=hr.units
 replace hp:zba P0 P1 P2 P3:=hp
 unfold zba at hp
 refine ⟨_,(zac (zap (i:=4) zbU.nd rfl (Or.inl rfl) (zaP pa_nil))
 (zac (zd3 PassesOwn.never rfl (zkh rfl T.range (pa_cons (pv 1) (pa_cons (zau zdh (pv 1) (pv 2)) pa_nil))) (pg_name (i:=5) zbU.nd rfl (Or.inl rfl) (Or.inl rfl))
 (zac (zap (i:=6) zbU.nd rfl (Or.inl rfl) (zau zdh (zau zbG (pv 5) (pv 5)) (zau zbG zag (pv 5))))
 (zac (zbW (zat zgs (pv 5) (pe_callB (zaA (K:=K) rfl) rfl T.len PySem.boot_len (pa_cons (pv 0) pa_nil)) (zaD _))
 (zac (zap (i:=6) zbU.nd rfl (Or.inl rfl) (zbS (zaF (K:=K) rfl) (pv 0) (pv 5) (λ_ _=>rfl)))
 zaf)
 zaf)
 (zac (zcY (zcw (K:=K) rfl (pv 4) (pa_cons (zau zfM (zau zbV (pv 6) (zau zdh (zau zbG zag (pv 3)) zag)) (pv 3)) pa_nil)))
 zaf))))
 (zac (zaG (pv 4))
 zaf))),.inl ?_⟩
 show L2.Run _ ([.va false (dQ K (List.map dI P0)),.va false (dI P1),.va false (dI P2),.va false (dI P3),.no,.no,.no]:L2.Ctx) _ ((λr=>Oc.rl true (List.map dI r)) (m_law_numbers P0 P1 P2 P3))
 unfold m_law_numbers
 exact (run_setO (m:=true) (ds:=List.map dI []) (zcR (m:=true) zae)
 (zc0 (s0:=[]) (λ(s192:(List Int))=>([.va false (dQ K (List.map dI P0)),.va false (dI P1),.va false (dI P2),.va false (dI P3),.ow true (List.map dI s192),.no,.no]:L2.Ctx)) (λr=>Oc.rl true (List.map dI r)) (λ(s192:(List Int)) (x193:Int)=>(Let ((x193*x193)+((3:Int)*x193)) (λ(v197:Int) =>
 (Let (bif (decide (x193<((P0.length:Nat):Int))) then (ixD P0 x193) else v197) (λ(v199:Int) =>
 (s192++[((v199%(((2:Int)*P3)+(1:Int)))-P3)])))))) (λ(i:Nat) (s192:(List Int))=>s192.length≤i) (zn7 (m:=true) (lo:=P1) (hi:=(P1+P2)) (Ev.any (m:=false) (zab (i:=1) rfl)) (zaL (x:=P1) (y:=P2) (Ev.any (m:=false) (zab (i:=1) rfl)) (Ev.any (m:=false) (zab (i:=2) rfl))) (by refine ⟨?_,?_,?_,?_⟩<;>omega)) (.eq (.eq (.eq (.eq (.eq (.eq (.eq .nil))))))) (by exact Nat.le_refl 0) (λi194 x193 s192 hx195 hI196=>have v195:=zc2 hx195;⟨(by exact zn1 (by assumption)),
 (zas (m:=true) (x:=((x193*x193)+((3:Int)*x193))) dI (λz=>Oc.nx ((λ(s192:(List Int))=>([.va false (dQ K (List.map dI P0)),.va false (dI P1),.va false (dI P2),.va false (dI P3),.ow true (List.map dI s192),.no,.no]:L2.Ctx)) z)) (zaL (x:=(x193*x193)) (y:=((3:Int)*x193)) (zax (x:=x193) (y:=x193) (Ev.any (m:=true) (zab (i:=5) rfl)) (Ev.any (m:=true) (zab (i:=5) rfl)) (by exact .inl ⟨by omega,by omega⟩)) (zax (x:=(3:Int)) (y:=x193) zay (Ev.any (m:=true) (zab (i:=5) rfl)) (by exact .inl ⟨by omega,by omega⟩))) (λv197 hv197 =>
 (zbZ (b:=(decide (x193<((P0.length:Nat):Int)))) (λbb=>([.va false (dQ K (List.map dI P0)),.va false (dI P1),.va false (dI P2),.va false (dI P3),.ow true (List.map dI s192),.va true (dI x193),.va true (dI (bif bb then (ixD P0 x193) else v197))]:L2.Ctx)) (zam (zaL (x:=x193) (y:=((P0.length:Nat):Int)) (Ev.any (m:=true) (zab (i:=5) rfl)) (zbr (f:=dI) (xs:=P0) (zab (i:=0) rfl)))) (λh198=>(za0 (m:=true) (Ev.any (m:=false) (zbT (f:=dI) (xs:=P0) (zab (i:=0) rfl) (Ev.any (m:=true) (zab (i:=5) rfl)) (by unfold InB;constructor<;>((try simp only [decide_eq_true_eq,decide_eq_false_iff_not,Bool.not_eq_true',Bool.not_eq_false',Bool.and_eq_true,Bool.or_eq_false_iff,Bool.or_eq_true,Bool.and_eq_false_iff,Bool.cond_eq_ite] at *)<;>omega))))
 (zal (.eq (.eq (.eq (.eq (.eq (.eq (.eq .nil)))))))))) (λh198=>(zal (.eq (.eq (.eq (.eq (.eq (.eq (.eq .nil)))))))))
 (zct (x:=(bif (decide (x193<((P0.length:Nat):Int))) then (ixD P0 x193) else v197)) (λv199=>([.va false (dQ K (List.map dI P0)),.va false (dI P1),.va false (dI P2),.va false (dI P3),.ow true (List.map dI s192),.va true (dI x193),.va true (dI v199)]:L2.Ctx)) (λz=>Oc.nx ((λ(s192:(List Int))=>([.va false (dQ K (List.map dI P0)),.va false (dI P1),.va false (dI P2),.va false (dI P3),.ow true (List.map dI s192),.no,.no]:L2.Ctx)) z)) (λv199 hv199 =>
 (zcE (f:=dI) (xs:=s192) (x:=((v199%(((2:Int)*P3)+(1:Int)))-P3)) rfl (zaL (x:=(v199%(((2:Int)*P3)+(1:Int)))) (y:=P3) (zax (x:=v199) (y:=(((2:Int)*P3)+(1:Int))) (Ev.any (m:=true) (zab (i:=6) rfl)) (zaL (x:=((2:Int)*P3)) (y:=(1:Int)) (zax (x:=(2:Int)) (y:=P3) zay (Ev.any (m:=false) (zab (i:=3) rfl)) (by exact .inl ⟨by omega,by omega⟩)) zay) (by show (0:Int)<_;omega)) (Ev.any (m:=false) (zab (i:=3) rfl))) (by exact zpt (by assumption) (by assumption) (by omega))
 (zal (.eq (.eq (.eq (.eq (.eq (.no (.no .nil))))))))))))))⟩) (λr200 hr200 hI =>
 (zdG (zgR (i:=4) rfl)))))
def m_law_shape (P0:(List Int)):(List Int) :=
 (Let (m_law_cell P0 (0:Int)) (λ(v201:Int) =>
 (Let ((1:Int)+(v201%(4:Int))) (λ(v202:Int) =>
 (Let ((v201/(4:Int))%(6:Int)) (λ(v203:Int) =>
 (Let (bif (decide (((v201/(24:Int))%(16:Int))=(7:Int))) then ((5:Int)+((v201/(384:Int))%(4:Int))) else v202) (λ(v205:Int) =>
 (Let (bif (decide (((v201/(24:Int))%(16:Int))=(7:Int))) then ((6:Int)+((v201/(1536:Int))%(7:Int))) else v203) (λ(v206:Int) =>
 (Let (ixD [(9:Int),(2:Int),((10:Int)^(9:Int).toNat),(9:Int),(60:Int),((10:Int)^(56:Int).toNat),(9:Int),(3:Int)] ((m_law_cell P0 (1:Int))%(8:Int))) (λ(v207:Int) =>
 (Let (bif ((decide ((60:Int)<v207))&&(decide ((4:Int)<v205))) then (9:Int) else v207) (λ(v209:Int) =>
 (Let (bif ((decide (((10:Int)^(9:Int).toNat)<v209))&&((decide ((3:Int)<v205))||(decide ((4:Int)<v206)))) then ((10:Int)^(9:Int).toNat) else v209) (λ(v211:Int) =>
 [v205,v206,v211]))))))))))))))))
def zc6 (P0:(List Int)):Prop:=True
def zed (K:W.Frag) (A:Adr):Sp:=Spv (ι:=(List Int)) (λx=>[dQ K (List.map dI x)]) (λx=>zc6 x) (λx=>.va true (dL (List.map dI (m_law_shape x))))
theorem zbd:FnScope ["_law_script","_law_cell_here","_law_wide","_law_many","_law_size"] ["_law_script"] (zad zcI):=⟨rfl,rfl,rfl,by decide +kernel,rfl,by decide +kernel,by decide +kernel⟩
theorem zhW (F:Fun K "_law_shape" "_law_shape" zcI f fd) (T:Txt K mg A) (G_law_cell:Callee P w K mg base (CXE P w) 1 "_law_cell" ["_law_script","_law_k"] (zdl K A)):FnOk P w K mg base (CXE P w) 2 f fd ["_law_script"] (zed K A):=by
 refine F.okV zbd (λ_=>rfl) (λcdv Ar outer s H E P0 hr hp=>?_)
 have hu:=hr.units
 replace hp:zc6 P0:=hp
 unfold zc6 at hp
 refine ⟨_,(zac (zap (i:=1) zbd.nd rfl (Or.inl rfl) (zaB G_law_cell (hr.mono (by decide)) rfl zaz (pa_cons (pv 0) (pa_cons zag pa_nil))))
 (zac (zap (i:=2) zbd.nd rfl (Or.inl rfl) (zau zdh zag (zau zbV (pv 1) zag)))
 (zac (zap (i:=3) zbd.nd rfl (Or.inl rfl) (zau zbV (zau zbc (pv 1) zag) zag))
 (zac (zbW (zat zeP (zau zbV (zau zbc (pv 1) zag) zag) zag (zaD _))
 (zac (zap (i:=2) zbd.nd rfl (Or.inl rfl) (zau zdh zag (zau zbV (zau zbc (pv 1) zag) zag)))
 (zac (zap (i:=3) zbd.nd rfl (Or.inl rfl) (zau zdh zag (zau zbV (zau zbc (pv 1) zag) zag)))
 zaf))
 zaf)
 (zac (zap (i:=4) zbd.nd rfl (Or.inl rfl) (zbS (zaF (K:=K) rfl) (zaP (pa_cons zag (pa_cons zag (pa_cons (zau zi9 zag zag) (pa_cons zag (pa_cons zag (pa_cons (zau zi9 zag zag) (pa_cons zag (pa_cons zag pa_nil))))))))) (zau zbV (zaB G_law_cell (hr.mono (by decide)) rfl zaz (pa_cons (pv 0) (pa_cons zag pa_nil))) zag) (λ_ _=>rfl)))
 (zac (zbW (PW.pt (zg1 (zat zgI (pv 4) zag (zaD _)) (zfE (zat zgI (pv 2) zag (zaD _)))))
 (zac (zap (i:=4) zbd.nd rfl (Or.inl rfl) zag)
 zaf)
 zaf)
 (zac (zbW (PW.pt (zg1 (zat zgI (pv 4) (zau zi9 zag zag) (zaD _)) (zfE (PW.pt (zpl (zat zgI (pv 2) zag (zaD _)) (zmQ (zat zgI (pv 3) zag (zaD _))))))))
 (zac (zap (i:=4) zbd.nd rfl (Or.inl rfl) (zau zi9 zag zag))
 zaf)
 zaf)
 (zac (zaG (zaP (pa_cons (pv 2) (pa_cons (pv 3) (pa_cons (pv 4) pa_nil)))))
 zaf)))))))),.inl ?_⟩
 show L2.Run _ ([.va false (dQ K (List.map dI P0)),.no,.no,.no,.no]:L2.Ctx) _ ((λ(r:(List Int))=>Oc.rt true (dL (List.map dI r))) (m_law_shape P0))
 unfold m_law_shape
 exact (zas (m:=true) (x:=(m_law_cell P0 (0:Int))) dI (λ(r:(List Int))=>Oc.rt true (dL (List.map dI r))) (Ev.any (m:=true) (zao (x:=(P0,(0:Int))) (zaa (zab (i:=0) rfl) (zaa zay zae)) rfl (by show zaI P0 (0:Int);unfold zaI;decide) rfl)) (λv201 hv201 =>
 (zas (m:=true) (x:=((1:Int)+(v201%(4:Int)))) dI (λ(r:(List Int))=>Oc.rt true (dL (List.map dI r))) (zaL (x:=(1:Int)) (y:=(v201%(4:Int))) zay (zax (x:=v201) (y:=(4:Int)) (Ev.any (m:=true) (zab (i:=1) rfl)) zay (by decide))) (λv202 hv202 =>
 (zas (m:=true) (x:=((v201/(4:Int))%(6:Int))) dI (λ(r:(List Int))=>Oc.rt true (dL (List.map dI r))) (zax (x:=(v201/(4:Int))) (y:=(6:Int)) (zax (x:=v201) (y:=(4:Int)) (Ev.any (m:=true) (zab (i:=1) rfl)) zay (by exact ⟨by decide,by decide⟩)) zay (by decide)) (λv203 hv203 =>
 (zbZ (b:=(decide (((v201/(24:Int))%(16:Int))=(7:Int)))) (λbb=>([.va false (dQ K (List.map dI P0)),.va true (dI v201),.va true (dI (bif bb then ((5:Int)+((v201/(384:Int))%(4:Int))) else v202)),.va true (dI (bif bb then ((6:Int)+((v201/(1536:Int))%(7:Int))) else v203)),.no]:L2.Ctx)) (zam (zdm (x:=((v201/(24:Int))%(16:Int))) (y:=(7:Int)) (zax (x:=(v201/(24:Int))) (y:=(16:Int)) (zax (x:=v201) (y:=(24:Int)) (Ev.any (m:=true) (zab (i:=1) rfl)) zay (by exact ⟨by decide,by decide⟩)) zay (by decide)) zay)) (λh204=>(za0 (m:=true) (zaL (x:=(5:Int)) (y:=((v201/(384:Int))%(4:Int))) zay (zax (x:=(v201/(384:Int))) (y:=(4:Int)) (zax (x:=v201) (y:=(384:Int)) (Ev.any (m:=true) (zab (i:=1) rfl)) zay (by exact ⟨by decide,by decide⟩)) zay (by decide)))
 (za0 (m:=true) (zaL (x:=(6:Int)) (y:=((v201/(1536:Int))%(7:Int))) zay (zax (x:=(v201/(1536:Int))) (y:=(7:Int)) (zax (x:=v201) (y:=(1536:Int)) (Ev.any (m:=true) (zab (i:=1) rfl)) zay (by exact ⟨by decide,by decide⟩)) zay (by decide)))
 (zal (.eq (.eq (.eq (.eq (.eq .nil))))))))) (λh204=>(zal (.eq (.eq (.eq (.eq (.eq .nil)))))))
 (zct (x:=(bif (decide (((v201/(24:Int))%(16:Int))=(7:Int))) then ((5:Int)+((v201/(384:Int))%(4:Int))) else v202)) (λv205=>([.va false (dQ K (List.map dI P0)),.va true (dI v201),.va true (dI v205),.va true (dI (bif (decide (((v201/(24:Int))%(16:Int))=(7:Int))) then ((6:Int)+((v201/(1536:Int))%(7:Int))) else v203)),.no]:L2.Ctx)) (λ(r:(List Int))=>Oc.rt true (dL (List.map dI r))) (λv205 hv205 =>
 (zct (x:=(bif (decide (((v201/(24:Int))%(16:Int))=(7:Int))) then ((6:Int)+((v201/(1536:Int))%(7:Int))) else v203)) (λv206=>([.va false (dQ K (List.map dI P0)),.va true (dI v201),.va true (dI v205),.va true (dI v206),.no]:L2.Ctx)) (λ(r:(List Int))=>Oc.rt true (dL (List.map dI r))) (λv206 hv206 =>
 (zas (m:=true) (x:=(ixD [(9:Int),(2:Int),((10:Int)^(9:Int).toNat),(9:Int),(60:Int),((10:Int)^(56:Int).toNat),(9:Int),(3:Int)] ((m_law_cell P0 (1:Int))%(8:Int)))) dI (λ(r:(List Int))=>Oc.rt true (dL (List.map dI r))) (zbT (f:=dI) (xs:=[(9:Int),(2:Int),((10:Int)^(9:Int).toNat),(9:Int),(60:Int),((10:Int)^(56:Int).toNat),(9:Int),(3:Int)]) (Ev.weak (K:=K) (EvO.ev (za4 (zaa zay (zaa zay (zaa (zax (x:=(10:Int)) (y:=(9:Int)) zay zay (by exact ⟨by decide,by decide,by decide⟩)) (zaa zay (zaa zay (zaa (zax (x:=(10:Int)) (y:=(56:Int)) zay zay (by exact ⟨by decide,by decide,by decide⟩)) (zaa zay (zaa zay zae)))))))) (by show 8≤sizeLine;decide)))) (zax (x:=(m_law_cell P0 (1:Int))) (y:=(8:Int)) (Ev.any (m:=true) (zao (x:=(P0,(1:Int))) (zaa (zab (i:=0) rfl) (zaa zay zae)) rfl (by show zaI P0 (1:Int);unfold zaI;decide) rfl)) zay (by decide)) (by unfold InB;simp only [List.length_cons,List.length_nil];omega)) (λv207 hv207 =>
 (zbZ (b:=((decide ((60:Int)<v207))&&(decide ((4:Int)<v205)))) (λbb=>([.va false (dQ K (List.map dI P0)),.va true (dI v201),.va true (dI v205),.va true (dI v206),.va true (dI (bif bb then (9:Int) else v207))]:L2.Ctx)) (zfn (b:=(decide ((60:Int)<v207))) (zam (zaL (x:=v207) (y:=(60:Int)) (Ev.any (m:=true) (zab (i:=4) rfl)) zay)) (λhb=>(zam (zaL (x:=v205) (y:=(4:Int)) (Ev.any (m:=true) (zab (i:=2) rfl)) zay)))) (λh208=>(za0 (m:=true) zay
 (zal (.eq (.eq (.eq (.eq (.eq .nil)))))))) (λh208=>(zal (.eq (.eq (.eq (.eq (.eq .nil)))))))
 (zct (x:=(bif ((decide ((60:Int)<v207))&&(decide ((4:Int)<v205))) then (9:Int) else v207)) (λv209=>([.va false (dQ K (List.map dI P0)),.va true (dI v201),.va true (dI v205),.va true (dI v206),.va true (dI v209)]:L2.Ctx)) (λ(r:(List Int))=>Oc.rt true (dL (List.map dI r))) (λv209 hv209 =>
 (zbZ (b:=((decide (((10:Int)^(9:Int).toNat)<v209))&&((decide ((3:Int)<v205))||(decide ((4:Int)<v206))))) (λbb=>([.va false (dQ K (List.map dI P0)),.va true (dI v201),.va true (dI v205),.va true (dI v206),.va true (dI (bif bb then ((10:Int)^(9:Int).toNat) else v209))]:L2.Ctx)) (zfn (b:=(decide (((10:Int)^(9:Int).toNat)<v209))) (zam (zaL (x:=v209) (y:=((10:Int)^(9:Int).toNat)) (Ev.any (m:=true) (zab (i:=4) rfl)) (zax (x:=(10:Int)) (y:=(9:Int)) zay zay (by exact ⟨by decide,by decide,by decide⟩)))) (λhb=>(znb (b:=(decide ((3:Int)<v205))) (zam (zaL (x:=v205) (y:=(3:Int)) (Ev.any (m:=true) (zab (i:=2) rfl)) zay)) (λhb=>(zam (zaL (x:=v206) (y:=(4:Int)) (Ev.any (m:=true) (zab (i:=3) rfl)) zay)))))) (λh210=>(za0 (m:=true) (zax (x:=(10:Int)) (y:=(9:Int)) zay zay (by exact ⟨by decide,by decide,by decide⟩))
 (zal (.eq (.eq (.eq (.eq (.eq .nil)))))))) (λh210=>(zal (.eq (.eq (.eq (.eq (.eq .nil)))))))
 (zct (x:=(bif ((decide (((10:Int)^(9:Int).toNat)<v209))&&((decide ((3:Int)<v205))||(decide ((4:Int)<v206)))) then ((10:Int)^(9:Int).toNat) else v209)) (λv211=>([.va false (dQ K (List.map dI P0)),.va true (dI v201),.va true (dI v205),.va true (dI v206),.va true (dI v211)]:L2.Ctx)) (λ(r:(List Int))=>Oc.rt true (dL (List.map dI r))) (λv211 hv211 =>
 (zai (zaw (EvO.ev (za4 (zaa (Ev.any (m:=true) (zab (i:=2) rfl)) (zaa (Ev.any (m:=true) (zab (i:=3) rfl)) (zaa (Ev.any (m:=true) (zab (i:=4) rfl)) zae))) (by show 3≤sizeLine;decide))))))))))))))))))))))))
def zfi (sh:List Int):Prop:=sh.length=3∧1≤ixD sh (0:Int)∧ixD sh (0:Int)≤24∧0≤ixD sh (1:Int)∧ixD sh (1:Int)≤12∧0≤ixD sh (2:Int)∧ixD sh (2:Int)≤2^187
theorem zhi (xs:List Int):zfi (m_law_shape xs)∧ixD (m_law_shape xs) (0:Int)≤8:=by
 unfold m_law_shape Let
 dsimp only
 generalize m_law_cell xs 0=c
 have hsz:∀ k:Int,0≤ixD [(9:Int),(2:Int),((10:Int)^(9:Int).toNat),(9:Int),(60:Int),((10:Int)^(56:Int).toNat),(9:Int),(3:Int)] (k%(8:Int))∧ixD [(9:Int),(2:Int),((10:Int)^(9:Int).toNat),(9:Int),(60:Int),((10:Int)^(56:Int).toNat),(9:Int),(3:Int)] (k%(8:Int))≤2^187:=λk=>by
  have h:∀ x∈[(9:Int),(2:Int),((10:Int)^(9:Int).toNat),(9:Int),(60:Int),((10:Int)^(56:Int).toNat),(9:Int),(3:Int)],0≤x∧x≤2^187:=by decide +kernel
  exact h _ (zeh (by unfold InB;simp only [List.length_cons,List.length_nil];omega))
 generalize m_law_cell xs 1=d
 have h0:=hsz d
 generalize ixD [(9:Int),(2:Int),((10:Int)^(9:Int).toNat),(9:Int),(60:Int),((10:Int)^(56:Int).toNat),(9:Int),(3:Int)] (d%(8:Int))=z at *
 have h1:∀ b1:Bool,1≤(bif b1 then ((5:Int)+((c/(384:Int))%(4:Int))) else ((1:Int)+(c%(4:Int))))∧(bif b1 then ((5:Int)+((c/(384:Int))%(4:Int))) else ((1:Int)+(c%(4:Int))))≤8:=λb1=>by
  cases b1
  ·rw [cond_false];omega
  ·rw [cond_true];omega
 have h2:∀ b1:Bool,0≤(bif b1 then ((6:Int)+((c/(1536:Int))%(7:Int))) else ((c/(4:Int))%(6:Int)))∧(bif b1 then ((6:Int)+((c/(1536:Int))%(7:Int))) else ((c/(4:Int))%(6:Int)))≤12:=λb1=>by
  cases b1
  ·rw [cond_false];omega
  ·rw [cond_true];omega
 have h3:∀ (b1:Bool),0≤(bif b1 then (9:Int) else z)∧(bif b1 then (9:Int) else z)≤2^187:=λb1=>by
  cases b1
  ·exact h0
  ·rw [cond_true];exact ⟨by decide,by decide +kernel⟩
 have h4:∀ (b1:Bool) (z:Int),(0≤z∧z≤2^187)->0≤(bif b1 then ((10:Int)^(9:Int).toNat) else z)∧(bif b1 then ((10:Int)^(9:Int).toNat) else z)≤2^187:=λb1 z h=>by
  cases b1
  ·exact h
  ·rw [cond_true];exact ⟨by decide,by decide +kernel⟩
 refine ⟨⟨rfl,(h1 _).1,Int.le_trans (h1 _).2 (by decide),(h2 _).1,(h2 _).2,(h4 _ _ (h3 _)).1,(h4 _ _ (h3 _)).2⟩,(h1 _).2⟩
def znw (xs:List Int) (z x:Int):Int:=((bif (decide (x<((xs.length:Nat):Int))) then (ixD xs x) else ((x*x)+((3:Int)*x)))%(((2:Int)*z)+(1:Int)))-z
theorem zli (xs:List Int) (a m z:Int):m_law_numbers xs a m z=List.map (znw xs z) (rngZ a m.toNat):=by
 unfold m_law_numbers
 show List.foldl (λs x=>s++[znw xs z x]) [] (rngZ a ((a+m)-a).toNat)=_
 rw [Lat.zht,show a+m-a=m by omega]
 rfl
theorem znW {xs:List Int} {z x:Int} (h0:0≤z) (h1:z≤2^187):(znw xs z x).natAbs≤2^187:=by
 unfold znw
 generalize (bif (decide (x<((xs.length:Nat):Int))) then (ixD xs x) else ((x*x)+((3:Int)*x)))=y
 have e1:=Int.emod_nonneg y (show (2:Int)*z+1≠0 by omega)
 have e2:=Int.emod_lt_of_pos y (show 0<(2:Int)*z+1 by omega)
 have e3:((2:Nat)^187:Nat)=((2:Int)^187).natAbs:=by decide +kernel
 rw [e3]
 generalize (2:Int)^187=q at *
 omega
theorem zp3 {xs:List Int} {a m z:Int} (h0:0≤z) (h1:z≤2^187):(m_law_numbers xs a m z).length=m.toNat∧Lat.Bit 187 (m_law_numbers xs a m z):=by
 rw [zli]
 refine ⟨by rw [List.length_map,zb1],λy hy=>?_⟩
 obtain ⟨x,_,rfl⟩:=List.mem_map.mp hy
 exact znW h0 h1
theorem zqB {ns:List Int} {w m:Int} {rows:List (List Int)} (hw:1≤w) (hm:0≤m) (h:ns.length=(w*m).toNat∧Lat.Bit 187 ns) (e:rows=List.map (λ(x:Int)=>(zbH ns (some (x*w)) (some ((x*w)+w)))) (rngZ 0 m.toNat)):rows.length=m.toNat∧Lat.RB w.toNat 187 rows:=by
 subst e
 refine ⟨by rw [List.length_map,zb1],λr hr=>?_⟩
 obtain ⟨x,hx,rfl⟩:=List.mem_map.mp hr
 obtain ⟨i,hi⟩:=List.getElem?_of_mem hx
 obtain ⟨h1,h2⟩:=zc2 hi
 refine ⟨?_,Lat.zlm h.2⟩
 obtain ⟨wn,rfl⟩:∃ wn:Nat,w=(wn:Int):=⟨w.toNat,by omega⟩
 obtain ⟨mn,rfl⟩:∃ mn:Nat,m=(mn:Int):=⟨m.toNat,by omega⟩
 have e1:x*(wn:Int)=((i*wn:Nat):Int):=by rw [h2];simp
 have e2:((wn:Int)*(mn:Int)).toNat=wn*mn:=by rw [← Int.natCast_mul,Int.toNat_natCast]
 rw [e1,Int.toNat_natCast]
 refine Lat.zjs ?_
 rw [h.1,e2]
 simp only [Int.toNat_natCast] at h1
 have:=Nat.mul_le_mul_right wn (show i+1≤mn by omega)
 rw [Nat.add_mul,Nat.mul_comm mn] at this
 omega
theorem zro {rows ys:List (List Int)} {w:Nat} {b:Bool} {i c d:Int} (h:Lat.RB w 187 rows) (hb:b=true->2<rows.length) (hc:c.natAbs≤4) (hd:d.natAbs≤4)
  (e:ys=bif b then (setZ rows i (List.map (λ(x:(Int×Int))=>((c*x.1)+(d*x.2))) (List.zip (ixD rows (0:Int)) (ixD rows (-(1:Int)))))) else rows):ys.length=rows.length∧Lat.RB w 190 ys:=by
 subst e
 cases b
 ·exact ⟨rfl,h.mono (by decide)⟩
 ·have hb:=hb rfl
  rw [cond_true]
  have h1:=h _ (zeh (xs:=rows) (i:=(0:Int)) (by unfold InB;omega))
  have h2:=h _ (zeh (xs:=rows) (i:=(-(1:Int))) (by unfold InB;omega))
  refine ⟨setZ_len,(h.mono (by decide)).setZ ⟨by rw [List.length_map,List.length_zip,h1.1,h2.1];omega,Lat.zkc h1.2 h2.2 hc hd⟩⟩
theorem zrm {rows ys:List (List Int)} {w:Nat} {b:Bool} {c:Int} (h:Lat.RB w 194 rows) (hb:b=true->0<rows.length) (hc:c.natAbs≤16) (e:ys=bif b then (setZ rows (0:Int) (List.map (λ(x:Int)=>(x*c)) (ixD rows (0:Int)))) else rows):ys.length=rows.length∧Lat.RB w 198 ys:=by
 subst e
 cases b
 ·exact ⟨rfl,h.mono (by decide)⟩
 ·have hb:=hb rfl
  rw [cond_true]
  have h1:=h _ (zeh (xs:=rows) (i:=(0:Int)) (by unfold InB;omega))
  exact ⟨setZ_len,(h.mono (by decide)).setZ ⟨by rw [List.length_map,h1.1],Lat.ziN h1.2 hc⟩⟩
def RS (n:Nat) (rows:List (List Int)):Prop:=rows.length≤n∧∀ r∈rows,r.length≤24
def NL (ns:List Int):Prop:=ns.length≤400
theorem zpM {n:Nat} {x:Int} (h:0<n):InB n (x%(n:Int)):=by
 have h1:=Int.emod_nonneg x (show (n:Int)≠0 by omega)
 have h2:=Int.emod_lt_of_pos x (show 0<(n:Int) by omega)
 unfold InB;omega
theorem zhv {n:Nat} {rows:List (List Int)} {i:Int} (h:RS n rows):(ixD rows i).length≤24:=by
 by_cases q:InB rows.length i
 ·exact h.2 _ (zeh q)
 ·unfold ixD atI ixN
  unfold InB at q
  by_cases h0:0≤i
  ·rw [if_pos h0,if_neg (by omega)];exact Nat.zero_le _
  ·rw [if_neg h0,if_neg (by omega)];exact Nat.zero_le _
theorem zkd {sh:List Int} (h:zfi sh) {k:Int} (h0:0≤k) (h1:k≤2):InB sh.length k:=by
 have:=h.1
 unfold InB;omega
theorem zpk {sh:List Int} {w:Int} (h:zfi sh) (hw:w=ixD sh (0:Int)):0≤w*ixD sh (1:Int)∧w*ixD sh (1:Int)≤288:=by
 obtain ⟨_,h1,h2,h3,h4,_⟩:=h
 exact ⟨Int.mul_nonneg (by omega) h3,Int.mul_le_mul (a:=w) (c:=24) (b:=ixD sh (1:Int)) (d:=12) (by omega) (by omega) h3 (by decide)⟩
theorem zqc {sh:List Int} {w:Int} (h:zfi sh) (hw:w=ixD sh (0:Int)):zcT w (ixD sh (1:Int)):=by
 obtain ⟨_,h1,h2,h3,h4,_⟩:=h
 exact .inl ⟨by omega,by omega⟩
theorem zpV {xs sh:List Int} {a w:Int} (ha:a=3) (h:zfi sh) (hw:w=ixD sh (0:Int)):zba xs a (w*ixD sh (1:Int)) (ixD sh (2:Int)):=by
 have:=zpk h hw
 obtain ⟨_,h1,h2,h3,h4,h5,h6⟩:=h
 exact ⟨by omega,by omega,this.1,by omega,h5⟩
theorem zqb {xs sh ns:List Int} {a w:Int} (h:zfi sh) (hw:w=ixD sh (0:Int)) (e:ns=m_law_numbers xs a (w*ixD sh (1:Int)) (ixD sh (2:Int))):NL ns:=by
 have:=zpk h hw
 subst e
 unfold NL
 rw [(zp3 h.2.2.2.2.2.1 h.2.2.2.2.2.2).1]
 omega
theorem zoa {b:Bool} {ns ys zs:List Int} {f:Int×Int->Int} (h:NL ns) (e:ys=bif b then (List.map f (zc1 ns)) else ns):NL ys:=by
 subst e
 cases b
 ·exact h
 ·unfold NL at *;rw [cond_true,List.length_map,zdI];exact h
theorem zpz {ns:List Int} {i:Nat} {p:Int×Int} (h:NL ns) (q:i<ns.length∧p.1=(i:Int)∧ns[i]?=some p.2):zcT p.1 p.1:=by
 unfold NL at h
 exact .inl ⟨by omega,by omega⟩
theorem znk {sh ns:List Int} {w:Int} {rows:List (List Int)} (h:zfi sh) (hw:w=ixD sh (0:Int)) (e:rows=List.map (λ(x:Int)=>(zbH ns (some (x*w)) (some ((x*w)+w)))) (rngZ 0 (ixD sh (1:Int)).toNat)):RS 12 rows:=by
 obtain ⟨_,h1,h2,h3,h4,_⟩:=h
 subst e
 refine ⟨by rw [List.length_map,zb1];omega,λr hr=>?_⟩
 obtain ⟨x,hx,rfl⟩:=List.mem_map.mp hr
 obtain ⟨i,hi⟩:=List.getElem?_of_mem hx
 obtain ⟨_,h2'⟩:=zc2 hi
 obtain ⟨wn,hwn⟩:∃ wn:Nat,w=(wn:Int):=⟨w.toNat,by omega⟩
 have e1:x*w=((i*wn:Nat):Int):=by rw [h2',hwn];simp
 rw [e1,hwn,show (((i*wn:Nat):Int)+(wn:Int))=((i*wn+wn:Nat):Int) by omega]
 unfold zbH
 rw [HT.sIx_nat,HT.sIx_nat,List.length_take]
 omega
theorem rs1 {n:Nat} {b:Bool} {rows ys:List (List Int)} {i:Int} {f:Int×Int->Int} (h:RS n rows) (e:ys=bif b then (setZ rows i (List.map f (List.zip (ixD rows (0:Int)) (ixD rows (-(1:Int)))))) else rows):RS n ys:=by
 subst e
 cases b
 ·exact h
 ·rw [cond_true]
  refine ⟨by rw [setZ_len];exact h.1,λr hr=>?_⟩
  rcases Lat.setZ_mem hr with rfl | hr
  ·rw [List.length_map,List.length_zip];have:=zhv (i:=(0:Int)) h;omega
  ·exact h.2 r hr
theorem rs2 {n:Nat} {b:Bool} {rows ys:List (List Int)} {f:Int->Int} (h:RS n rows) (e:ys=bif b then (List.map (λ(x:(List Int))=>(List.map f x)) rows) else rows):RS n ys:=by
 subst e
 cases b
 ·exact h
 ·rw [cond_true]
  refine ⟨by rw [List.length_map];exact h.1,λr hr=>?_⟩
  obtain ⟨x,hx,rfl⟩:=List.mem_map.mp hr
  rw [List.length_map];exact h.2 x hx
theorem rs3 {n:Nat} {b:Bool} {rows ys:List (List Int)} {f:Int->Int} (h:RS n rows) (e:ys=bif b then (setZ rows (0:Int) (List.map f (ixD rows (0:Int)))) else rows):RS n ys:=by
 subst e
 cases b
 ·exact h
 ·rw [cond_true]
  refine ⟨by rw [setZ_len];exact h.1,λr hr=>?_⟩
  rcases Lat.setZ_mem hr with rfl | hr
  ·rw [List.length_map];exact zhv h
  ·exact h.2 r hr
theorem zo5 {n:Nat} {rows:List (List Int)} (h:RS n rows) (hn:n≤1000):rows.length≤PySem.sizeLine:=zaj (by have:=h.1;omega)
theorem zps {n:Nat} {rows:List (List Int)} {r:List Int} (h:RS n rows) (hr:r∈rows):r.length≤PySem.sizeLine:=zaj (by have:=h.2 r hr;omega)
theorem zrf {n:Nat} {rows:List (List Int)} {i:Int} (h:RS n rows):(ixD rows i).length≤PySem.sizeLine:=zaj (by have:=zhv (i:=i) h;omega)
theorem zpe {n:Nat} {rows:List (List Int)} {i j:Int} (h:RS n rows):(List.zip (ixD rows i) (ixD rows j)).length≤PySem.sizeLine:=zaj (by have:=zhv (i:=i) h;rw [List.length_zip];omega)
theorem zo8 {ns:List Int} (h:NL ns):(zc1 ns).length≤PySem.sizeLine:=zaj (by unfold NL at h;rw [zdI];omega)
theorem zoT {n:Nat} {x:Int}:0≤x%((n:Int)+(1:Int))∧x%((n:Int)+(1:Int))≤(n:Int):=by
 have h1:=Int.emod_nonneg x (show ((n:Int)+1)≠0 by omega)
 have h2:=Int.emod_lt_of_pos x (show 0<((n:Int)+1) by omega)
 omega
theorem zqg {sh:List Int} {w:Int} (h:zfi sh) (hw:w=ixD sh (0:Int)):1≤w∧w≤24:=by
 obtain ⟨_,h1,h2,_⟩:=h;omega
def m_law_swaps (P0:(List Int)) (P1:Int) (P2:(List Int)):(List (List Int)) :=
 (Let (ixD P2 (0:Int)) (λ(v212:Int) =>
 (Let (m_law_cell P0 (2:Int)) (λ(v213:Int) =>
 (Let (m_law_numbers P0 P1 (v212*(ixD P2 (1:Int))) (ixD P2 (2:Int))) (λ(v214:(List Int)) =>
 (Let (bif (decide ((((m_law_cell P0 (1:Int))/(8:Int))%(3:Int))=(1:Int))) then (List.map (λ(x216:(Int×Int))=>(x216.2*(((x216.2/(3:Int))+(x216.1*x216.1))%(2:Int)))) (zc1 v214)) else v214) (λ(v219:(List Int)) =>
 (Let (List.map (λ(x220:Int)=>(zbH v219 (some (x220*v212)) (some ((x220*v212)+v212)))) (rngZ 0 (ixD P2 (1:Int)).toNat)) (λ(v223:(List (List Int))) =>
 (Let (v213%(5:Int)) (λ(v224:Int) =>
 (Let (bif ((decide (v224=(1:Int)))&&(decide ((2:Int)<((v223.length:Nat):Int)))) then (setZ v223 ((v213/(245:Int))%((v223.length:Nat):Int)) (List.map (λ(x226:(Int×Int))=>(((((v213/(5:Int))%(7:Int))-(3:Int))*x226.1)+((((v213/(35:Int))%(7:Int))-(3:Int))*x226.2))) (List.zip (ixD v223 (0:Int)) (ixD v223 (-(1:Int)))))) else v223) (λ(v229:(List (List Int))) =>
 (Let (bif (decide (v224=(2:Int))) then (List.map (λ(x231:(List Int))=>(List.map (λ(x234:Int)=>(x234*((2:Int)+((v213/(5:Int))%(11:Int))))) x231)) v229) else v229) (λ(v237:(List (List Int))) =>
 (Let (bif ((decide (v224=(3:Int)))&&(decide ((0:Int)<((v237.length:Nat):Int)))) then (setZ v237 (0:Int) (List.map (λ(x239:Int)=>(x239*((2:Int)+((v213/(5:Int))%(11:Int))))) (ixD v237 (0:Int)))) else v237) (λ(v242:(List (List Int))) =>
 (Let (bif ((decide (v224=(4:Int)))&&(decide (((v242.length:Nat):Int)<(12:Int)))) then (insZ v242 ((v213/(5:Int))%(((v242.length:Nat):Int)+(1:Int))) (List.map (λ(x244:Int)=>(0:Int)) (rngZ 0 v212.toNat))) else v242) (λ(v247:(List (List Int))) =>
 v247))))))))))))))))))))
def zc4 (P0:(List Int)) (P1:Int) (P2:(List Int)):Prop:=P1=3∧zfi P2
def zec (K:W.Frag) (A:Adr):Sp:=Spv (ι:=(List Int)×Int×(List Int)) (λx=>[dQ K (List.map dI x.1),dI x.2.1,dQ K (List.map dI x.2.2)]) (λx=>zc4 x.1 x.2.1 x.2.2) (λx=>.ow true (List.map lI (m_law_swaps x.1 x.2.1 x.2.2)))
theorem za5:FnScope ["_law_script","_law_at","_law_shape_here","_law_wide","_law_cell_here","_law_numbers_here","_law_swaps_here","_law_way","_law_one","_law_two"] ["_law_script","_law_at","_law_shape_here"] (zad zaX):=⟨rfl,rfl,rfl,by decide +kernel,rfl,by decide +kernel,by decide +kernel⟩
theorem zhT (F:Fun K "_law_swaps" "_law_swaps" zaX f fd) (T:Txt K mg A) (G_law_cell:Callee P w K mg base (CXE P w) 1 "_law_cell" ["_law_script","_law_k"] (zdl K A)) (G_law_numbers:Callee P w K mg base (CXE P w) 1 "_law_numbers" ["_law_script","_law_at","_law_many","_law_size"] (zcK K A)):FnOk P w K mg base (CXE P w) 2 f fd ["_law_script","_law_at","_law_shape_here"] (zec K A):=by
 refine F.okV za5 (λ_=>rfl) (λcdv Ar outer s H E x hr hp=>?_)
 obtain ⟨P0,P1,P2⟩:=x
 have hu:=hr.units
 replace hp:zc4 P0 P1 P2:=hp
 unfold zc4 at hp
 refine ⟨_,(zac (zap (i:=3) za5.nd rfl (Or.inr rfl) (zbS (zaF (K:=K) rfl) (pv 2) zag (λ_ _=>rfl)))
 (zac (zap (i:=4) za5.nd rfl (Or.inr rfl) (zaB G_law_cell (hr.mono (by decide)) rfl zaz (pa_cons (pv 0) (pa_cons zag pa_nil))))
 (zac (zap (i:=5) za5.nd rfl (Or.inr rfl) (zaB G_law_numbers (hr.mono (by decide)) rfl zaz (pa_cons (pv 0) (pa_cons (pv 1) (pa_cons (zau zbG (pv 3) (zbS (zaF (K:=K) rfl) (pv 2) zag (λ_ _=>rfl))) (pa_cons (zbS (zaF (K:=K) rfl) (pv 2) zag (λ_ _=>rfl)) pa_nil))))))
 (zac (zbW (zat zeP (zau zbV (zau zbc (zaB G_law_cell (hr.mono (by decide)) rfl zaz (pa_cons (pv 0) (pa_cons zag pa_nil))) zag) zag) zag (zaD _))
 (zac (zap (i:=5) za5.nd rfl (Or.inr rfl) (zb9 rfl (.of (osc:=(zad zaX)) (N:=["_law_script","_law_at","_law_shape_here","_law_wide","_law_cell_here","_law_numbers_here","_law_swaps_here","_law_way","_law_one","_law_two"]) (own:=["_law_k","_law_number"]) (fvn:=[]) (fv:=[]) rfl rfl (by decide +kernel)) (zgw rfl rfl T.enumerate (pa_cons (pv 5) pa_nil)) (λ_ _ _ _ _=>⟨(zcg (K:=K) (n:=2) rfl rfl (zaQ (pg_name (i:=0) (show (["_law_k","_law_number"]:List Str).Nodup by decide +kernel) rfl (Or.inl rfl) (Or.inr rfl)) (zaQ (pg_name (i:=1) (show (["_law_k","_law_number"]:List Str).Nodup by decide +kernel) rfl (Or.inl rfl) (Or.inr rfl)) zdn))),zbm,(zau zbG (pv 1) (zau zbV (zau zdh (zau zbc (pv 1) zag) (zau zbG (pv 0) (pv 0))) zag))⟩)))
 zaf)
 zaf)
 (zac (zdV (i:=6) rfl za5.nd rfl rfl (.of (osc:=(zad zaX)) (N:=["_law_script","_law_at","_law_shape_here","_law_wide","_law_cell_here","_law_numbers_here","_law_swaps_here","_law_way","_law_one","_law_two"]) (own:=["_law_k"]) (fvn:=["_law_numbers_here","_law_wide"]) (fv:=[5,3]) rfl rfl (by decide +kernel)) (zgt rfl T.range (pa_cons (zbS (zaF (K:=K) rfl) (pv 2) zag (λ_ _=>rfl)) pa_nil)) (λ_ _ _ _ _=>⟨(pg_name (i:=0) (show (["_law_k","_law_numbers_here","_law_wide"]:List Str).Nodup by decide +kernel) rfl (Or.inl rfl) (Or.inr rfl)),zbm,(zcj (zbI (K:=K) rfl) (pv 1) (zcV (zau zbG (pv 0) (pv 2))) (zcV (zau zdh (zau zbG (pv 0) (pv 2)) (pv 2))))⟩))
 (zac (zap (i:=7) za5.nd rfl (Or.inl rfl) (zau zbV (pv 4) zag))
 (zac (zbW (PW.pt (zg1 (zat zeP (pv 7) zag (zaD _)) (zfE (zat zgI (pe_callB (zaA (K:=K) rfl) rfl T.len PySem.boot_len (pa_cons (pv 6) pa_nil)) zag (zaD _)))))
 (zac (zap (i:=8) za5.nd rfl (Or.inr rfl) (zau zfM (zau zbV (zau zbc (pv 4) zag) zag) zag))
 (zac (zap (i:=9) za5.nd rfl (Or.inr rfl) (zau zfM (zau zbV (zau zbc (pv 4) zag) zag) zag))
 (zac (zjg (zb9 rfl (.of (osc:=(zad zaX)) (N:=["_law_script","_law_at","_law_shape_here","_law_wide","_law_cell_here","_law_numbers_here","_law_swaps_here","_law_way","_law_one","_law_two"]) (own:=["_law_a","_law_b"]) (fvn:=["_law_one","_law_two"]) (fv:=[8,9]) rfl rfl (by decide +kernel)) (zeI (K:=K) rfl rfl T.zip (pa_cons (zbS (zaF (K:=K) rfl) (pv 6) zag (λ_ _=>rfl)) (pa_cons (zbS (zaF (K:=K) rfl) (pv 6) (zie zgz zag) (λ_ _=>rfl)) pa_nil))) (λ_ _ _ _ _=>⟨(zcg (K:=K) (n:=2) rfl rfl (zaQ (pg_name (i:=0) (show (["_law_a","_law_b","_law_one","_law_two"]:List Str).Nodup by decide +kernel) rfl (Or.inl rfl) (Or.inr rfl)) (zaQ (pg_name (i:=1) (show (["_law_a","_law_b","_law_one","_law_two"]:List Str).Nodup by decide +kernel) rfl (Or.inl rfl) (Or.inr rfl)) zdn))),zbm,(zau zdh (zau zbG (pv 2) (pv 0)) (zau zbG (pv 3) (pv 1)))⟩)) (ziU (pv 6) (zau zbV (zau zbc (pv 4) zag) (pe_callB (zaA (K:=K) rfl) rfl T.len PySem.boot_len (pa_cons (pv 6) pa_nil))) set_list))
 zaf)))
 zaf)
 (zac (zbW (zat zeP (pv 7) zag (zaD _))
 (zac (zdV (i:=6) rfl za5.nd rfl rfl (.of (osc:=(zad zaX)) (N:=["_law_script","_law_at","_law_shape_here","_law_wide","_law_cell_here","_law_numbers_here","_law_swaps_here","_law_way","_law_one","_law_two"]) (own:=["_law_swap"]) (fvn:=["_law_cell_here"]) (fv:=[4]) rfl rfl (by decide +kernel)) (zaN (K:=K) rfl (pv 6)) (λ_ _ _ _ _=>⟨(pg_name (i:=0) (show (["_law_swap","_law_cell_here"]:List Str).Nodup by decide +kernel) rfl (Or.inl rfl) (Or.inr rfl)),zbm,(zb9 rfl (.of (osc:=({ kind:=.function,names:=[(".0",.local),("_law_swap",.local),("_law_cell_here",.cell)],isGenerator:=false,isCoroutine:=false }:Scope)) (N:=["_law_swap","_law_cell_here"]) (own:=["_law_number"]) (fvn:=["_law_cell_here"]) (fv:=[1]) rfl rfl (by decide +kernel)) (zaN (K:=K) rfl (pv 0)) (λ_ _ _ _ _=>⟨(pg_name (i:=0) (show (["_law_number","_law_cell_here"]:List Str).Nodup by decide +kernel) rfl (Or.inl rfl) (Or.inr rfl)),zbm,(zau zbG (pv 0) (zau zdh zag (zau zbV (zau zbc (pv 1) zag) zag)))⟩))⟩))
 zaf)
 zaf)
 (zac (zbW (PW.pt (zg1 (zat zeP (pv 7) zag (zaD _)) (zfE (zat zgI (pe_callB (zaA (K:=K) rfl) rfl T.len PySem.boot_len (pa_cons (pv 6) pa_nil)) zag (zaD _)))))
 (zac (zjg (zb9 rfl (.of (osc:=(zad zaX)) (N:=["_law_script","_law_at","_law_shape_here","_law_wide","_law_cell_here","_law_numbers_here","_law_swaps_here","_law_way","_law_one","_law_two"]) (own:=["_law_number"]) (fvn:=["_law_cell_here"]) (fv:=[4]) rfl rfl (by decide +kernel)) (zaN (K:=K) rfl (zbS (zaF (K:=K) rfl) (pv 6) zag (λ_ _=>rfl))) (λ_ _ _ _ _=>⟨(pg_name (i:=0) (show (["_law_number","_law_cell_here"]:List Str).Nodup by decide +kernel) rfl (Or.inl rfl) (Or.inr rfl)),zbm,(zau zbG (pv 0) (zau zdh zag (zau zbV (zau zbc (pv 1) zag) zag)))⟩)) (ziU (pv 6) zag set_list))
 zaf)
 zaf)
 (zac (zbW (PW.pt (zg1 (zat zeP (pv 7) zag (zaD _)) (zfE (zat zgs (pe_callB (zaA (K:=K) rfl) rfl T.len PySem.boot_len (pa_cons (pv 6) pa_nil)) zag (zaD _)))))
 (zac (zcY (zij (K:=K) rfl (pv 6) (pa_cons (zau zbV (zau zbc (pv 4) zag) (zau zdh (pe_callB (zaA (K:=K) rfl) rfl T.len PySem.boot_len (pa_cons (pv 6) pa_nil)) zag)) (pa_cons (zb9 rfl (.of (osc:=(zad zaX)) (N:=["_law_script","_law_at","_law_shape_here","_law_wide","_law_cell_here","_law_numbers_here","_law_swaps_here","_law_way","_law_one","_law_two"]) (own:=["_law_ware"]) (fvn:=[]) (fv:=[]) rfl rfl (by decide +kernel)) (zgt rfl T.range (pa_cons (pv 3) pa_nil)) (λ_ _ _ _ _=>⟨(pg_name (i:=0) (show (["_law_ware"]:List Str).Nodup by decide +kernel) rfl (Or.inl rfl) (Or.inr rfl)),zbm,zag⟩)) pa_nil))))
 zaf)
 zaf)
 (zac (zaG (pv 6))
 zaf))))))))))),.inl ?_⟩
 show L2.Run _ ([.va false (dQ K (List.map dI P0)),.va false (dI P1),.va false (dQ K (List.map dI P2)),.no,.no,.no,.no,.no,.no,.no]:L2.Ctx) _ ((λr=>Oc.rl true (List.map lI r)) (m_law_swaps P0 P1 P2))
 unfold m_law_swaps
 exact (zas (m:=true) (x:=(ixD P2 (0:Int))) dI (λr=>Oc.rl true (List.map lI r)) (Ev.any (m:=false) (zbT (f:=dI) (xs:=P2) (zab (i:=2) rfl) zay (by exact zkd hp.2 (by decide) (by decide)))) (λv212 hv212 =>
 have hW:=hv212;(zas (m:=true) (x:=(m_law_cell P0 (2:Int))) dI (λr=>Oc.rl true (List.map lI r)) (Ev.any (m:=true) (zao (x:=(P0,(2:Int))) (zaa (zab (i:=0) rfl) (zaa zay zae)) rfl (by show zaI P0 (2:Int);unfold zaI;decide) rfl)) (λv213 hv213 =>
 (zas (m:=true) (x:=(m_law_numbers P0 P1 (v212*(ixD P2 (1:Int))) (ixD P2 (2:Int)))) lI (λr=>Oc.rl true (List.map lI r)) (EvO.ev (EvO.anyI (m:=true) (zaV (x:=(P0,P1,(v212*(ixD P2 (1:Int))),(ixD P2 (2:Int)))) (zaa (zab (i:=0) rfl) (zaa (Ev.any (m:=false) (zab (i:=1) rfl)) (zaa (zax (x:=v212) (y:=(ixD P2 (1:Int))) (Ev.any (m:=true) (zab (i:=3) rfl)) (Ev.any (m:=false) (zbT (f:=dI) (xs:=P2) (zab (i:=2) rfl) zay (by exact zkd hp.2 (by decide) (by decide)))) (by exact zqc hp.2 hW)) (zaa (Ev.any (m:=false) (zbT (f:=dI) (xs:=P2) (zab (i:=2) rfl) zay (by exact zkd hp.2 (by decide) (by decide)))) zae)))) rfl (by show zba P0 P1 (v212*(ixD P2 (1:Int))) (ixD P2 (2:Int));exact zpV hp.1 hp.2 hW) rfl))) (λv214 hv214 =>
 have hn_numbers214:=zqb hp.2 hW hv214;(zbZ (b:=(decide ((((m_law_cell P0 (1:Int))/(8:Int))%(3:Int))=(1:Int)))) (λbb=>([.va false (dQ K (List.map dI P0)),.va false (dI P1),.va false (dQ K (List.map dI P2)),.va true (dI v212),.va true (dI v213),.va true (dL (List.map dI (bif bb then (List.map (λ(x216:(Int×Int))=>(x216.2*(((x216.2/(3:Int))+(x216.1*x216.1))%(2:Int)))) (zc1 v214)) else v214))),.no,.no,.no,.no]:L2.Ctx)) (zam (zdm (x:=(((m_law_cell P0 (1:Int))/(8:Int))%(3:Int))) (y:=(1:Int)) (zax (x:=((m_law_cell P0 (1:Int))/(8:Int))) (y:=(3:Int)) (zax (x:=(m_law_cell P0 (1:Int))) (y:=(8:Int)) (Ev.any (m:=true) (zao (x:=(P0,(1:Int))) (zaa (zab (i:=0) rfl) (zaa zay zae)) rfl (by show zaI P0 (1:Int);unfold zaI;decide) rfl)) zay (by exact ⟨by decide,by decide⟩)) zay (by decide)) zay)) (λh215=>(za0 (m:=true) (EvO.ev (EvO.conv (zcd (g:=(λ(x216:(Int×Int))=>dI (x216.2*(((x216.2/(3:Int))+(x216.1*x216.1))%(2:Int))))) (zgA (m:=true) dI (xs:=v214) (Ev.weak (K:=K) (zab (i:=5) rfl))) (by exact zo8 (by assumption)) ⟨by decide,by decide⟩ (λi217 x216 hx218=>have v218:=zcP hx218;(zax (x:=x216.2) (y:=(((x216.2/(3:Int))+(x216.1*x216.1))%(2:Int))) (Ev.any (m:=true) (zab (i:=1) rfl)) (zax (x:=((x216.2/(3:Int))+(x216.1*x216.1))) (y:=(2:Int)) (zaL (x:=(x216.2/(3:Int))) (y:=(x216.1*x216.1)) (zax (x:=x216.2) (y:=(3:Int)) (Ev.any (m:=true) (zab (i:=1) rfl)) zay (by exact ⟨by decide,by decide⟩)) (zax (x:=x216.1) (y:=x216.1) (Ev.any (m:=true) (zab (i:=0) rfl)) (Ev.any (m:=true) (zab (i:=0) rfl)) (by exact zpz (by assumption) (by assumption)))) zay (by decide)) (by exact .inr (.inl ⟨by omega,by omega⟩))))) (by first | (rw [List.map_map];rfl) | (simp only [cond_true,cond_false];rw [List.map_map];rfl))))
 (zal (.eq (.eq (.eq (.eq (.eq (.eq (.eq (.eq (.eq (.eq .nil))))))))))))) (λh215=>(zal (.eq (.eq (.eq (.eq (.eq (.eq (.eq (.eq (.eq (.eq .nil))))))))))))
 (zct (x:=(bif (decide ((((m_law_cell P0 (1:Int))/(8:Int))%(3:Int))=(1:Int))) then (List.map (λ(x216:(Int×Int))=>(x216.2*(((x216.2/(3:Int))+(x216.1*x216.1))%(2:Int)))) (zc1 v214)) else v214)) (λv219=>([.va false (dQ K (List.map dI P0)),.va false (dI P1),.va false (dQ K (List.map dI P2)),.va true (dI v212),.va true (dI v213),.va true (dL (List.map dI v219)),.no,.no,.no,.no]:L2.Ctx)) (λr=>Oc.rl true (List.map lI r)) (λv219 hv219 =>
 have hn_numbers219:=zoa (zs:=[]) (by assumption) hv219;(run_letO (m:=true) (x:=(List.map (λ(x220:Int)=>(zbH v219 (some (x220*v212)) (some ((x220*v212)+v212)))) (rngZ 0 (ixD P2 (1:Int)).toNat))) (λz=>List.map lI z) (λr=>Oc.rl true (List.map lI r)) (EvO.conv (zcd (g:=(λ(x220:Int)=>dL (List.map dI (zbH v219 (some (x220*v212)) (some ((x220*v212)+v212)))))) (zis (m:=true) (n:=(ixD P2 (1:Int))) (Ev.any (m:=false) (zbT (f:=dI) (xs:=P2) (zab (i:=2) rfl) zay (by exact zkd hp.2 (by decide) (by decide)))) (by have z:=hp.2;unfold zfi at z;refine ⟨?_,?_⟩<;>omega)) (by have z:=hp.2;unfold zfi at z;apply zaj;rw [zb1];omega) ⟨by decide,by decide⟩ (λi221 x220 hx222=>have v222:=zc2 hx222;(EvO.ev (EvO.anyI (m:=true) (zdi (f:=dI) (xs:=v219) (Ev.weak (K:=K) (zab (i:=1) rfl)) (zbY (zax (x:=x220) (y:=v212) (Ev.any (m:=true) (zab (i:=0) rfl)) (Ev.any (m:=true) (zab (i:=2) rfl)) (by have z:=zqg hp.2 hW;exact .inr (.inl ⟨by omega,by omega⟩)))) (zbY (zaL (x:=(x220*v212)) (y:=v212) (zax (x:=x220) (y:=v212) (Ev.any (m:=true) (zab (i:=0) rfl)) (Ev.any (m:=true) (zab (i:=2) rfl)) (by have z:=zqg hp.2 hW;exact .inr (.inl ⟨by omega,by omega⟩))) (Ev.any (m:=true) (zab (i:=2) rfl))))))))) (by first | (rw [List.map_map];rfl) | (simp only [cond_true,cond_false];rw [List.map_map];rfl))) (λv223 hv223 =>
 have hs_swaps223:=znk hp.2 hW hv223;(zas (m:=true) (x:=(v213%(5:Int))) dI (λr=>Oc.rl true (List.map lI r)) (zax (x:=v213) (y:=(5:Int)) (Ev.any (m:=true) (zab (i:=4) rfl)) zay (by decide)) (λv224 hv224 =>
 (zbZ (b:=((decide (v224=(1:Int)))&&(decide ((2:Int)<((v223.length:Nat):Int))))) (λbb=>([.va false (dQ K (List.map dI P0)),.va false (dI P1),.va false (dQ K (List.map dI P2)),.va true (dI v212),.va true (dI v213),.va true (dL (List.map dI v219)),.ow true (List.map lI (bif bb then (setZ v223 ((v213/(245:Int))%((v223.length:Nat):Int)) (List.map (λ(x226:(Int×Int))=>(((((v213/(5:Int))%(7:Int))-(3:Int))*x226.1)+((((v213/(35:Int))%(7:Int))-(3:Int))*x226.2))) (List.zip (ixD v223 (0:Int)) (ixD v223 (-(1:Int)))))) else v223)),.va true (dI v224),.no,.no]:L2.Ctx)) (zfn (b:=(decide (v224=(1:Int)))) (zam (zdm (x:=v224) (y:=(1:Int)) (Ev.any (m:=true) (zab (i:=7) rfl)) zay)) (λhb=>(zam (zaL (x:=((v223.length:Nat):Int)) (y:=(2:Int)) (zdP (f:=lI) (xs:=v223) rfl) zay)))) (λh225=>(za0 (m:=true) (zaL (x:=((v213/(5:Int))%(7:Int))) (y:=(3:Int)) (zax (x:=(v213/(5:Int))) (y:=(7:Int)) (zax (x:=v213) (y:=(5:Int)) (Ev.any (m:=true) (zab (i:=4) rfl)) zay (by exact ⟨by decide,by decide⟩)) zay (by decide)) zay)
 (za0 (m:=true) (zaL (x:=((v213/(35:Int))%(7:Int))) (y:=(3:Int)) (zax (x:=(v213/(35:Int))) (y:=(7:Int)) (zax (x:=v213) (y:=(35:Int)) (Ev.any (m:=true) (zab (i:=4) rfl)) zay (by exact ⟨by decide,by decide⟩)) zay (by decide)) zay)
 (zfj (f:=lI) (xs:=v223) (x:=(List.map (λ(x226:(Int×Int))=>(((((v213/(5:Int))%(7:Int))-(3:Int))*x226.1)+((((v213/(35:Int))%(7:Int))-(3:Int))*x226.2))) (List.zip (ixD v223 (0:Int)) (ixD v223 (-(1:Int)))))) rfl (EvO.ev (EvO.conv (zcd (g:=(λ(x226:(Int×Int))=>dI (((((v213/(5:Int))%(7:Int))-(3:Int))*x226.1)+((((v213/(35:Int))%(7:Int))-(3:Int))*x226.2)))) (zgT (m:=true) dI dI (xs:=(ixD v223 (0:Int))) (ys:=(ixD v223 (-(1:Int)))) (Ev.weak (K:=K) (zgG (f:=lI) (xs:=v223) rfl zay (by unfold InB;constructor<;>((try simp only [decide_eq_true_eq,decide_eq_false_iff_not,Bool.not_eq_true',Bool.not_eq_false',Bool.and_eq_true,Bool.or_eq_false_iff,Bool.or_eq_true,Bool.and_eq_false_iff,Bool.cond_eq_ite] at *)<;>omega)))) (Ev.weak (K:=K) (zgG (f:=lI) (xs:=v223) rfl (ziP (x:=(1:Int)) zay) (by unfold InB;constructor<;>((try simp only [decide_eq_true_eq,decide_eq_false_iff_not,Bool.not_eq_true',Bool.not_eq_false',Bool.and_eq_true,Bool.or_eq_false_iff,Bool.or_eq_true,Bool.and_eq_false_iff,Bool.cond_eq_ite] at *)<;>omega))))) (by exact zpe (by assumption)) ⟨by decide,by decide⟩ (λi227 x226 hx228=>have v228:=zcW hx228;(zaL (x:=((((v213/(5:Int))%(7:Int))-(3:Int))*x226.1)) (y:=((((v213/(35:Int))%(7:Int))-(3:Int))*x226.2)) (zax (x:=(((v213/(5:Int))%(7:Int))-(3:Int))) (y:=x226.1) (Ev.any (m:=true) (zab (i:=2) rfl)) (Ev.any (m:=true) (zab (i:=0) rfl)) (by exact .inl ⟨by omega,by omega⟩)) (zax (x:=(((v213/(35:Int))%(7:Int))-(3:Int))) (y:=x226.2) (Ev.any (m:=true) (zab (i:=3) rfl)) (Ev.any (m:=true) (zab (i:=1) rfl)) (by exact .inl ⟨by omega,by omega⟩))))) (by first | (rw [List.map_map];rfl) | (simp only [cond_true,cond_false];rw [List.map_map];rfl)))) (zax (x:=(v213/(245:Int))) (y:=((v223.length:Nat):Int)) (zax (x:=v213) (y:=(245:Int)) (Ev.any (m:=true) (zab (i:=4) rfl)) zay (by exact ⟨by decide,by decide⟩)) (zdP (f:=lI) (xs:=v223) rfl) (by first | decide | (show (0:Int)<_;((try simp only [decide_eq_true_eq,decide_eq_false_iff_not,Bool.not_eq_true',Bool.not_eq_false',Bool.and_eq_true,Bool.or_eq_false_iff,Bool.or_eq_true,Bool.and_eq_false_iff,Bool.cond_eq_ite] at *)<;>omega)))) (by exact zpM (by (first | omega | ((try simp only [Bool.and_eq_true,Bool.or_eq_true,decide_eq_true_eq,Bool.not_eq_true',Bool.not_eq_false',decide_eq_false_iff_not] at *);omega))))
 (zal (.eq (.eq (.eq (.eq (.eq (.eq (.eq (.eq (.no (.no .nil))))))))))))))) (λh225=>(zal (.eq (.eq (.eq (.eq (.eq (.eq (.eq (.eq (.eq (.eq .nil))))))))))))
 (zct (x:=(bif ((decide (v224=(1:Int)))&&(decide ((2:Int)<((v223.length:Nat):Int)))) then (setZ v223 ((v213/(245:Int))%((v223.length:Nat):Int)) (List.map (λ(x226:(Int×Int))=>(((((v213/(5:Int))%(7:Int))-(3:Int))*x226.1)+((((v213/(35:Int))%(7:Int))-(3:Int))*x226.2))) (List.zip (ixD v223 (0:Int)) (ixD v223 (-(1:Int)))))) else v223)) (λv229=>([.va false (dQ K (List.map dI P0)),.va false (dI P1),.va false (dQ K (List.map dI P2)),.va true (dI v212),.va true (dI v213),.va true (dL (List.map dI v219)),.ow true (List.map lI v229),.va true (dI v224),.no,.no]:L2.Ctx)) (λr=>Oc.rl true (List.map lI r)) (λv229 hv229 =>
 have hs_swaps229:=rs1 (by assumption) hv229;(zbZ (b:=(decide (v224=(2:Int)))) (λbb=>([.va false (dQ K (List.map dI P0)),.va false (dI P1),.va false (dQ K (List.map dI P2)),.va true (dI v212),.va true (dI v213),.va true (dL (List.map dI v219)),.ow true (List.map lI (bif bb then (List.map (λ(x231:(List Int))=>(List.map (λ(x234:Int)=>(x234*((2:Int)+((v213/(5:Int))%(11:Int))))) x231)) v229) else v229)),.va true (dI v224),.no,.no]:L2.Ctx)) (zam (zdm (x:=v224) (y:=(2:Int)) (Ev.any (m:=true) (zab (i:=7) rfl)) zay)) (λh230=>(zbk (i:=6) rfl (run_setO (m:=true) (EvO.conv (zcd (g:=(λ(x231:(List Int))=>dL (List.map dI (List.map (λ(x234:Int)=>(x234*((2:Int)+((v213/(5:Int))%(11:Int))))) x231)))) (zbx (m:=true) lI (xs:=v229) (Ev.weak (K:=K) (zab (i:=6) rfl))) (by exact zo5 (by assumption) (by decide)) ⟨by decide,by decide⟩ (λi232 x231 hx233=>have v233:=List.mem_of_getElem? hx233;(EvO.ev (EvO.conv (zcd (g:=(λ(x234:Int)=>dI (x234*((2:Int)+((v213/(5:Int))%(11:Int)))))) (zbx (m:=true) dI (xs:=x231) (Ev.weak (K:=K) (zab (i:=0) rfl))) (by exact zps (by assumption) (by assumption)) ⟨by decide,by decide⟩ (λi235 x234 hx236=>have v236:=List.mem_of_getElem? hx236;(zax (x:=x234) (y:=((2:Int)+((v213/(5:Int))%(11:Int)))) (Ev.any (m:=true) (zab (i:=0) rfl)) (zaL (x:=(2:Int)) (y:=((v213/(5:Int))%(11:Int))) zay (zax (x:=(v213/(5:Int))) (y:=(11:Int)) (zax (x:=v213) (y:=(5:Int)) (Ev.any (m:=true) (zab (i:=1) rfl)) zay (by exact ⟨by decide,by decide⟩)) zay (by decide))) (by exact .inr (.inl ⟨by omega,by omega⟩))))) (by first | (rw [List.map_map];rfl) | (simp only [cond_true,cond_false];rw [List.map_map];rfl)))))) (by first | (rw [List.map_map];rfl) | (simp only [cond_true,cond_false];rw [List.map_map];rfl)))
 (zal (.eq (.eq (.eq (.eq (.eq (.eq (.eq (.eq (.eq (.eq .nil)))))))))))))) (λh230=>(zal (.eq (.eq (.eq (.eq (.eq (.eq (.eq (.eq (.eq (.eq .nil))))))))))))
 (zct (x:=(bif (decide (v224=(2:Int))) then (List.map (λ(x231:(List Int))=>(List.map (λ(x234:Int)=>(x234*((2:Int)+((v213/(5:Int))%(11:Int))))) x231)) v229) else v229)) (λv237=>([.va false (dQ K (List.map dI P0)),.va false (dI P1),.va false (dQ K (List.map dI P2)),.va true (dI v212),.va true (dI v213),.va true (dL (List.map dI v219)),.ow true (List.map lI v237),.va true (dI v224),.no,.no]:L2.Ctx)) (λr=>Oc.rl true (List.map lI r)) (λv237 hv237 =>
 have hs_swaps237:=rs2 (by assumption) hv237;(zbZ (b:=((decide (v224=(3:Int)))&&(decide ((0:Int)<((v237.length:Nat):Int))))) (λbb=>([.va false (dQ K (List.map dI P0)),.va false (dI P1),.va false (dQ K (List.map dI P2)),.va true (dI v212),.va true (dI v213),.va true (dL (List.map dI v219)),.ow true (List.map lI (bif bb then (setZ v237 (0:Int) (List.map (λ(x239:Int)=>(x239*((2:Int)+((v213/(5:Int))%(11:Int))))) (ixD v237 (0:Int)))) else v237)),.va true (dI v224),.no,.no]:L2.Ctx)) (zfn (b:=(decide (v224=(3:Int)))) (zam (zdm (x:=v224) (y:=(3:Int)) (Ev.any (m:=true) (zab (i:=7) rfl)) zay)) (λhb=>(zam (zaL (x:=((v237.length:Nat):Int)) (y:=(0:Int)) (zdP (f:=lI) (xs:=v237) rfl) zay)))) (λh238=>(zfj (f:=lI) (xs:=v237) (x:=(List.map (λ(x239:Int)=>(x239*((2:Int)+((v213/(5:Int))%(11:Int))))) (ixD v237 (0:Int)))) rfl (EvO.ev (EvO.conv (zcd (g:=(λ(x239:Int)=>dI (x239*((2:Int)+((v213/(5:Int))%(11:Int)))))) (zbx (m:=true) dI (xs:=(ixD v237 (0:Int))) (Ev.weak (K:=K) (zgG (f:=lI) (xs:=v237) rfl zay (by unfold InB;constructor<;>((try simp only [decide_eq_true_eq,decide_eq_false_iff_not,Bool.not_eq_true',Bool.not_eq_false',Bool.and_eq_true,Bool.or_eq_false_iff,Bool.or_eq_true,Bool.and_eq_false_iff,Bool.cond_eq_ite] at *)<;>omega))))) (by exact zrf (by assumption)) ⟨by decide,by decide⟩ (λi240 x239 hx241=>have v241:=List.mem_of_getElem? hx241;(zax (x:=x239) (y:=((2:Int)+((v213/(5:Int))%(11:Int)))) (Ev.any (m:=true) (zab (i:=0) rfl)) (zaL (x:=(2:Int)) (y:=((v213/(5:Int))%(11:Int))) zay (zax (x:=(v213/(5:Int))) (y:=(11:Int)) (zax (x:=v213) (y:=(5:Int)) (Ev.any (m:=true) (zab (i:=1) rfl)) zay (by exact ⟨by decide,by decide⟩)) zay (by decide))) (by exact .inr (.inl ⟨by omega,by omega⟩))))) (by first | (rw [List.map_map];rfl) | (simp only [cond_true,cond_false];rw [List.map_map];rfl)))) zay (by unfold InB;constructor<;>((try simp only [decide_eq_true_eq,decide_eq_false_iff_not,Bool.not_eq_true',Bool.not_eq_false',Bool.and_eq_true,Bool.or_eq_false_iff,Bool.or_eq_true,Bool.and_eq_false_iff,Bool.cond_eq_ite] at *)<;>omega))
 (zal (.eq (.eq (.eq (.eq (.eq (.eq (.eq (.eq (.eq (.eq .nil))))))))))))) (λh238=>(zal (.eq (.eq (.eq (.eq (.eq (.eq (.eq (.eq (.eq (.eq .nil))))))))))))
 (zct (x:=(bif ((decide (v224=(3:Int)))&&(decide ((0:Int)<((v237.length:Nat):Int)))) then (setZ v237 (0:Int) (List.map (λ(x239:Int)=>(x239*((2:Int)+((v213/(5:Int))%(11:Int))))) (ixD v237 (0:Int)))) else v237)) (λv242=>([.va false (dQ K (List.map dI P0)),.va false (dI P1),.va false (dQ K (List.map dI P2)),.va true (dI v212),.va true (dI v213),.va true (dL (List.map dI v219)),.ow true (List.map lI v242),.va true (dI v224),.no,.no]:L2.Ctx)) (λr=>Oc.rl true (List.map lI r)) (λv242 hv242 =>
 have hs_swaps242:=rs3 (by assumption) hv242;(zbZ (b:=((decide (v224=(4:Int)))&&(decide (((v242.length:Nat):Int)<(12:Int))))) (λbb=>([.va false (dQ K (List.map dI P0)),.va false (dI P1),.va false (dQ K (List.map dI P2)),.va true (dI v212),.va true (dI v213),.va true (dL (List.map dI v219)),.ow true (List.map lI (bif bb then (insZ v242 ((v213/(5:Int))%(((v242.length:Nat):Int)+(1:Int))) (List.map (λ(x244:Int)=>(0:Int)) (rngZ 0 v212.toNat))) else v242)),.va true (dI v224),.no,.no]:L2.Ctx)) (zfn (b:=(decide (v224=(4:Int)))) (zam (zdm (x:=v224) (y:=(4:Int)) (Ev.any (m:=true) (zab (i:=7) rfl)) zay)) (λhb=>(zam (zaL (x:=((v242.length:Nat):Int)) (y:=(12:Int)) (zdP (f:=lI) (xs:=v242) rfl) zay)))) (λh243=>(zid (f:=lI) (xs:=v242) (x:=(List.map (λ(x244:Int)=>(0:Int)) (rngZ 0 v212.toNat))) (k:=((v213/(5:Int))%(((v242.length:Nat):Int)+(1:Int)))) rfl (zax (x:=(v213/(5:Int))) (y:=(((v242.length:Nat):Int)+(1:Int))) (zax (x:=v213) (y:=(5:Int)) (Ev.any (m:=true) (zab (i:=4) rfl)) zay (by exact ⟨by decide,by decide⟩)) (zaL (x:=((v242.length:Nat):Int)) (y:=(1:Int)) (zdP (f:=lI) (xs:=v242) rfl) zay) (by show (0:Int)<_;omega)) (EvO.ev (EvO.conv (zcd (g:=(λ(x244:Int)=>dI (0:Int))) (zis (m:=true) (n:=v212) (Ev.any (m:=true) (zab (i:=3) rfl)) (by have z:=zqg hp.2 hW;refine ⟨?_,?_⟩<;>omega)) (by have z:=zqg hp.2 hW;apply zaj;rw [zb1];omega) ⟨by decide,by decide⟩ (λi245 x244 hx246=>have v246:=zc2 hx246;zay)) (by first | (rw [List.map_map];rfl) | (simp only [cond_true,cond_false];rw [List.map_map];rfl)))) (by exact zoT) (by exact Nat.lt_of_le_of_lt (show _≤1000 by have z:=(show RS 12 _ from (by assumption)).1;omega) (by decide))
 (zal (.eq (.eq (.eq (.eq (.eq (.eq (.eq (.eq (.eq (.eq .nil))))))))))))) (λh243=>(zal (.eq (.eq (.eq (.eq (.eq (.eq (.eq (.eq (.eq (.eq .nil))))))))))))
 (zct (x:=(bif ((decide (v224=(4:Int)))&&(decide (((v242.length:Nat):Int)<(12:Int)))) then (insZ v242 ((v213/(5:Int))%(((v242.length:Nat):Int)+(1:Int))) (List.map (λ(x244:Int)=>(0:Int)) (rngZ 0 v212.toNat))) else v242)) (λv247=>([.va false (dQ K (List.map dI P0)),.va false (dI P1),.va false (dQ K (List.map dI P2)),.va true (dI v212),.va true (dI v213),.va true (dL (List.map dI v219)),.ow true (List.map lI v247),.va true (dI v224),.no,.no]:L2.Ctx)) (λr=>Oc.rl true (List.map lI r)) (λv247 hv247 =>
 (zdG (zgR (i:=6) rfl)))))))))))))))))))))))))))
theorem zl8 {q:Nat} {xs:List Int} {z x:Int} (h0:0≤z) (h1:z≤2^q):(znw xs z x).natAbs≤2^q:=by
 unfold znw
 generalize (bif (decide (x<((xs.length:Nat):Int))) then (ixD xs x) else ((x*x)+((3:Int)*x)))=y
 have e1:=Int.emod_nonneg y (show (2:Int)*z+1≠0 by omega)
 have e2:=Int.emod_lt_of_pos y (show 0<(2:Int)*z+1 by omega)
 have e3:((2:Nat)^q:Nat)=((2:Int)^q).natAbs:=by rw [Int.natAbs_pow];rfl
 rw [e3]
 generalize (2:Int)^q=u at *
 omega
theorem zod {q:Nat} {xs:List Int} {a m z:Int} (h0:0≤z) (h1:z≤2^q):(m_law_numbers xs a m z).length=m.toNat∧Lat.Bit q (m_law_numbers xs a m z):=by
 rw [zli]
 refine ⟨by rw [List.length_map,zb1],λy hy=>?_⟩
 obtain ⟨x,_,rfl⟩:=List.mem_map.mp hy
 exact zl8 h0 h1
theorem zml {q:Nat} {b:Bool} {ns ys:List Int} {k:Nat} (h:ns.length=k∧Lat.Bit q ns) (e:ys=bif b then (List.map (λ(x:(Int×Int))=>(x.2*(((x.2/(3:Int))+(x.1*x.1))%(2:Int)))) (zc1 ns)) else ns):ys.length=k∧Lat.Bit q ys:=by
 subst e
 cases b
 ·exact h
 ·refine ⟨by rw [cond_true,List.length_map,zdI,h.1],λy hy=>?_⟩
  rw [cond_true] at hy
  obtain ⟨x,hx,rfl⟩:=List.mem_map.mp hy
  have hm:x.2∈ns:=by
   unfold zc1 at hx
   exact (List.of_mem_zip (a:=x.1) (b:=x.2) hx).2
  have h1:=h.2 _ hm
  have h2:(((x.2/(3:Int))+(x.1*x.1))%(2:Int)).natAbs≤1:=by omega
  rw [Int.natAbs_mul]
  exact Nat.le_trans (Nat.mul_le_mul_left _ h2) (by rw [Nat.mul_one];exact h1)
theorem zmk {q:Nat} {ns:List Int} {w m:Int} {rows:List (List Int)} (hw:1≤w) (hm:0≤m) (h:ns.length=(w*m).toNat∧Lat.Bit q ns) (e:rows=List.map (λ(x:Int)=>(zbH ns (some (x*w)) (some ((x*w)+w)))) (rngZ 0 m.toNat)):rows.length=m.toNat∧Lat.RB w.toNat q rows:=by
 subst e
 refine ⟨by rw [List.length_map,zb1],λr hr=>?_⟩
 obtain ⟨x,hx,rfl⟩:=List.mem_map.mp hr
 obtain ⟨i,hi⟩:=List.getElem?_of_mem hx
 obtain ⟨h1,h2⟩:=zc2 hi
 refine ⟨?_,Lat.zlm h.2⟩
 obtain ⟨wn,rfl⟩:∃ wn:Nat,w=(wn:Int):=⟨w.toNat,by omega⟩
 obtain ⟨mn,rfl⟩:∃ mn:Nat,m=(mn:Int):=⟨m.toNat,by omega⟩
 have e1:x*(wn:Int)=((i*wn:Nat):Int):=by rw [h2];simp
 have e2:((wn:Int)*(mn:Int)).toNat=wn*mn:=by rw [← Int.natCast_mul,Int.toNat_natCast]
 rw [e1,Int.toNat_natCast]
 refine Lat.zjs ?_
 rw [h.1,e2]
 simp only [Int.toNat_natCast] at h1
 have:=Nat.mul_le_mul_right wn (show i+1≤mn by omega)
 rw [Nat.add_mul,Nat.mul_comm mn] at this
 omega
theorem znY {q:Nat} {rows ys:List (List Int)} {w:Nat} {b:Bool} {i c d:Int} (h:Lat.RB w q rows) (hb:b=true->2<rows.length) (hc:c.natAbs≤4) (hd:d.natAbs≤4)
  (e:ys=bif b then (setZ rows i (List.map (λ(x:(Int×Int))=>((c*x.1)+(d*x.2))) (List.zip (ixD rows (0:Int)) (ixD rows (-(1:Int)))))) else rows):ys.length=rows.length∧Lat.RB w (q+3) ys:=by
 subst e
 cases b
 ·exact ⟨rfl,h.mono (by omega)⟩
 ·have hb:=hb rfl
  rw [cond_true]
  have h1:=h _ (zeh (xs:=rows) (i:=(0:Int)) (by unfold InB;omega))
  have h2:=h _ (zeh (xs:=rows) (i:=(-(1:Int))) (by unfold InB;omega))
  refine ⟨setZ_len,(h.mono (by omega)).setZ ⟨by rw [List.length_map,List.length_zip,h1.1,h2.1];omega,Lat.zkc h1.2 h2.2 hc hd⟩⟩
theorem znP {q:Nat} {rows ys:List (List Int)} {w:Nat} {b:Bool} {c:Int} (h:Lat.RB w (q+3) rows) (hc:c.natAbs≤16) (e:ys=bif b then (List.map (λ(x:(List Int))=>(List.map (λ(x:Int)=>(x*c)) x)) rows) else rows):ys.length=rows.length∧Lat.RB w (q+7) ys:=by
 subst e
 cases b
 ·exact ⟨rfl,h.mono (by omega)⟩
 ·rw [cond_true]
  refine ⟨by rw [List.length_map],λr hr=>?_⟩
  obtain ⟨x,hx,rfl⟩:=List.mem_map.mp hr
  exact ⟨by rw [List.length_map,(h x hx).1],Lat.ziN (h x hx).2 hc⟩
theorem znF {q:Nat} {rows ys:List (List Int)} {w:Nat} {b:Bool} {c:Int} (h:Lat.RB w (q+7) rows) (hb:b=true->0<rows.length) (hc:c.natAbs≤16) (e:ys=bif b then (setZ rows (0:Int) (List.map (λ(x:Int)=>(x*c)) (ixD rows (0:Int)))) else rows):ys.length=rows.length∧Lat.RB w (q+11) ys:=by
 subst e
 cases b
 ·exact ⟨rfl,h.mono (by omega)⟩
 ·have hb:=hb rfl
  rw [cond_true]
  have h1:=h _ (zeh (xs:=rows) (i:=(0:Int)) (by unfold InB;omega))
  exact ⟨setZ_len,(h.mono (by omega)).setZ ⟨by rw [List.length_map,h1.1],Lat.ziN h1.2 hc⟩⟩
theorem zoe {q:Nat} {rows ys:List (List Int)} {w i:Int} {b:Bool} (h:Lat.RB w.toNat (q+11) rows) (e:ys=bif b then (insZ rows i (List.map (λ(x:Int)=>(0:Int)) (rngZ 0 w.toNat))) else rows):ys.length≤rows.length+1∧Lat.RB w.toNat (q+11) ys:=by
 subst e
 cases b
 ·exact ⟨Nat.le_succ _,h⟩
 ·rw [cond_true]
  refine ⟨by rw [zjr];exact Nat.le_refl _,h.insZ ⟨by rw [List.length_map,zb1],λx hx=>?_⟩⟩
  obtain ⟨_,_,rfl⟩:=List.mem_map.mp hx
  exact Nat.zero_le _
theorem zke {q:Nat} {xs sh:List Int} (h:zfi sh) (hq:ixD sh (2:Int)≤2^q):(m_law_swaps xs (3:Int) sh).length≤(ixD sh (1:Int)).toNat+1∧Lat.RB (ixD sh (0:Int)).toNat (q+11) (m_law_swaps xs (3:Int) sh):=by
 obtain ⟨_,h1,h2,h3,h4,h5,h6⟩:=h
 unfold m_law_swaps Let
 dsimp only
 generalize m_law_cell xs 2=c
 have a1:=zod (xs:=xs) (a:=3) (m:=ixD sh (0:Int)*ixD sh (1:Int)) h5 hq
 generalize m_law_numbers _ _ _ _=n1 at *
 have a2:=zml (b:=decide (m_law_cell xs 1/8%3=1)) a1 rfl
 generalize (bif decide (m_law_cell xs 1/8%3=1) then _ else n1)=n2 at *
 have a3:=zmk h1 h3 a2 rfl
 generalize List.map _ (rngZ 0 (ixD sh (1:Int)).toNat)=r1 at *
 have a4:=znY (b:=(decide (c%5=1)&&decide ((2:Int)<(r1.length:Int)))) (i:=c/245%(r1.length:Int)) (c:=c/5%7-3) (d:=c/35%7-3) a3.2 (λz=>by simp at z;omega) (by omega) (by omega) rfl
 generalize (bif (decide (c%5=1)&&decide ((2:Int)<(r1.length:Int))) then _ else r1)=r2 at *
 have a5:=znP (b:=decide (c%5=2)) (c:=2+c/5%11) a4.2 (by omega) rfl
 generalize (bif decide (c%5=2) then _ else r2)=r3 at *
 have a6:=znF (b:=(decide (c%5=3)&&decide ((0:Int)<(r3.length:Int)))) (c:=2+c/5%11) a5.2 (λz=>by simp at z;omega) (by omega) rfl
 generalize (bif (decide (c%5=3)&&decide ((0:Int)<(r3.length:Int))) then _ else r3)=r4 at *
 have a7:=zoe (b:=(decide (c%5=4)&&decide ((r4.length:Int)<12))) (i:=c/5%((r4.length:Int)+1)) a6.2 rfl
 refine ⟨?_,a7.2⟩
 have e1:=a7.1
 have e2:=a6.1
 have e3:=a5.1
 have e4:=a4.1
 have e5:=a3.1
 omega
theorem shp_z {W M z:Int}:(4<W->(bif (decide ((1000000000:Int)<(bif (decide ((60:Int)<z)&&decide ((4:Int)<W)) then (9:Int) else z))&&(decide ((3:Int)<W)||decide ((4:Int)<M))) then (1000000000:Int) else (bif (decide ((60:Int)<z)&&decide ((4:Int)<W)) then (9:Int) else z))≤60)∧((bif (decide ((1000000000:Int)<(bif (decide ((60:Int)<z)&&decide ((4:Int)<W)) then (9:Int) else z))&&(decide ((3:Int)<W)||decide ((4:Int)<M))) then (1000000000:Int) else (bif (decide ((60:Int)<z)&&decide ((4:Int)<W)) then (9:Int) else z))≤1000000000∨(W≤3∧M≤4)):=by
 constructor
 ·intro h
  rw [decide_eq_true h]
  by_cases q:60<z
  ·rw [decide_eq_true q]
   show (bif (decide ((1000000000:Int)<9)&&_) then _ else (9:Int))≤60
   rw [decide_eq_false (show ¬ (1000000000:Int)<9 by omega)]
   show (9:Int)≤60
   omega
  ·rw [decide_eq_false q]
   show (bif (decide ((1000000000:Int)<z)&&_) then _ else z)≤60
   rw [decide_eq_false (show ¬ (1000000000:Int)<z by omega)]
   show z≤60
   omega
 ·generalize (bif (decide ((60:Int)<z)&&decide ((4:Int)<W)) then (9:Int) else z)=y
  by_cases q:1000000000<y
  ·by_cases r:3<W
   ·left;rw [decide_eq_true q,decide_eq_true r];exact Int.le_refl _
   ·by_cases r2:4<M
    ·left;rw [decide_eq_true q,decide_eq_false r,decide_eq_true r2];exact Int.le_refl _
    ·right;omega
  ·left
   rw [decide_eq_false q]
   show y≤_
   omega
theorem zoh (xs:List Int):ixD (m_law_shape xs) (2:Int)≤60∨(ixD (m_law_shape xs) (2:Int)≤1000000000∧ixD (m_law_shape xs) (0:Int)≤4∧ixD (m_law_shape xs) (1:Int)≤5)∨(ixD (m_law_shape xs) (0:Int)≤3∧ixD (m_law_shape xs) (1:Int)≤4):=by
 unfold m_law_shape Let
 dsimp only
 generalize m_law_cell xs 0=c
 generalize ixD [(9:Int),(2:Int),((10:Int)^(9:Int).toNat),(9:Int),(60:Int),((10:Int)^(56:Int).toNat),(9:Int),(3:Int)] (m_law_cell xs 1%(8:Int))=z
 rw [show (10:Int)^(9:Int).toNat=1000000000 by decide +kernel]
 have e0:∀ a b d:Int,ixD [a,b,d] (0:Int)=a:=λ_ _ _=>rfl
 have e1:∀ a b d:Int,ixD [a,b,d] (1:Int)=b:=λ_ _ _=>rfl
 have e2:∀ a b d:Int,ixD [a,b,d] (2:Int)=d:=λ_ _ _=>rfl
 rw [e0,e1,e2]
 cases decide (c/24%16=7) with
 | true =>
  left
  exact shp_z.1 (by rw [cond_true];omega)
 | false =>
  right
  rcases shp_z (W:=(bif false then ((5:Int)+((c/(384:Int))%(4:Int))) else ((1:Int)+(c%(4:Int))))) (M:=(bif false then ((6:Int)+((c/(1536:Int))%(7:Int))) else ((c/(4:Int))%(6:Int)))) (z:=z) |>.2 with h | h
  ·exact .inl ⟨h,by rw [cond_false];omega,by rw [cond_false];omega⟩
  ·exact .inr h
theorem zlH {xs sh:List Int} (h:zfi sh):(m_law_swaps xs (3:Int) sh).length≤12:=by
 obtain ⟨_,h1,h2,h3,h4,h5,h6⟩:=h
 unfold m_law_swaps Let
 dsimp only
 generalize m_law_cell xs 2=c
 generalize m_law_numbers _ _ _ _=n1
 generalize (bif decide (m_law_cell xs 1/8%3=1) then _ else n1)=n2
 have a3:(List.map (λ(x:Int)=>(zbH n2 (some (x*ixD sh (0:Int))) (some ((x*ixD sh (0:Int))+ixD sh (0:Int))))) (rngZ 0 (ixD sh (1:Int)).toNat)).length≤12:=by rw [List.length_map,zb1];omega
 generalize List.map _ (rngZ 0 (ixD sh (1:Int)).toNat)=r1 at *
 have a4:∀ (b:Bool) (i:Int) (r:List Int),(bif b then setZ r1 i r else r1).length≤12:=λb i r=>by
  cases b
  ·exact a3
  ·rw [cond_true,setZ_len];exact a3
 have a4:=a4 (decide (c%5=1)&&decide ((2:Int)<(r1.length:Int)))
 generalize hr2:(bif (decide (c%5=1)&&decide ((2:Int)<(r1.length:Int))) then _ else r1)=r2
 have a4:r2.length≤12:=by rw [← hr2];exact a4 _ _
 have a5:∀ (b:Bool) (f:List Int->List Int),(bif b then List.map f r2 else r2).length≤12:=λb f=>by
  cases b
  ·exact a4
  ·rw [cond_true,List.length_map];exact a4
 generalize hr3:(bif decide (c%5=2) then _ else r2)=r3
 have a5:r3.length≤12:=by rw [← hr3];exact a5 _ _
 have a6:∀ (b:Bool) (i:Int) (r:List Int),(bif b then setZ r3 i r else r3).length≤12:=λb i r=>by
  cases b
  ·exact a5
  ·rw [cond_true,setZ_len];exact a5
 generalize hr4:(bif (decide (c%5=3)&&decide ((0:Int)<(r3.length:Int))) then _ else r3)=r4
 have a6:r4.length≤12:=by rw [← hr4];exact a6 _ _ _
 cases q:(decide (c%5=4)&&decide ((r4.length:Int)<12)) with
 | false=>rw [cond_false];exact a6
 | true =>
  rw [cond_true,zjr]
  simp at q
  omega
theorem zhw (sw:List (List Int)):List.map (λ(x:List Int)=>x) sw=sw:=by simp
theorem zpZ {xs sh:List Int} (e:sh=m_law_shape xs):InB sh.length (0:Int):=by rw [e];exact zkd (zhi xs).1 (by decide) (by decide)
theorem zqT {xs sh:List Int} (e:sh=m_law_shape xs):(3:Int)=3∧zfi sh:=⟨rfl,by rw [e];exact (zhi xs).1⟩
theorem zpI {xs sh:List Int} {rows:List (List Int)} (e:sh=m_law_shape xs) (er:rows=m_law_swaps xs (3:Int) sh):F3 (ixD sh (0:Int)) rows:=by
 have ok:=zhi xs
 have s3:=zoh xs
 rw [← e] at ok s3
 have h12:=zlH (xs:=xs) ok.1
 rw [← er] at h12
 have b:=ok.1
 obtain ⟨_,b1,b2,b3,b4,b5,b6⟩:=b
 have key:∀ q:Nat,ixD sh (2:Int)≤2^q->rows.length≤(ixD sh (1:Int)).toNat+1∧∀ r∈rows,r.length=(ixD sh (0:Int)).toNat∧Lat.Bit (q+11) r:=λq hq=>by
  have:=zke (xs:=xs) ok.1 hq
  rw [← er] at this
  exact this
 rcases s3 with h | ⟨h,h1,h2⟩ | ⟨h1,h2⟩
 ·obtain ⟨k1,k2⟩:=key 6 (Int.le_trans h (by decide))
  exact ⟨_,6,by omega,by omega,by omega,h12,k2,.inl rfl⟩
 ·obtain ⟨k1,k2⟩:=key 30 (Int.le_trans h (by decide))
  exact ⟨_,30,by omega,by omega,by omega,h12,k2,.inr (.inl ⟨rfl,by omega,by omega⟩)⟩
 ·obtain ⟨k1,k2⟩:=key 187 b6
  exact ⟨_,187,by omega,by omega,by omega,h12,k2,.inr (.inr ⟨rfl,by omega,by omega⟩)⟩
section
variable {w:Int} {rows:List (List Int)} {xs:List Int} {a:Int}
theorem F3.wd (h:F3 w rows):1≤w∧w≤8∧rows.length≤12:=by
 obtain ⟨n,q,h1,h2,h3,h4,_⟩:=h
 omega
theorem F3.len (h:F3 w rows):rows.length≤PySem.sizeLine:=zaj (by have:=h.wd;omega)
theorem F3.bk (h:F3 w rows):zdk w (List.map (λ(x:List Int)=>x) rows):=by
 rw [zhw]
 obtain ⟨n,q,h1,h2,h3,h4,h5,_⟩:=h
 exact ⟨by omega,by omega,h4,λs hs=>by have:=(h5 s hs).1;omega⟩
theorem zrx {m z:Int} (h0:0≤z):(m_law_numbers xs a m z).length=m.toNat∧∀ y∈m_law_numbers xs a m z,y.natAbs≤z.natAbs:=by
 rw [zli]
 refine ⟨by rw [List.length_map,zb1],λy hy=>?_⟩
 obtain ⟨k,_,rfl⟩:=List.mem_map.mp hy
 unfold znw
 generalize (bif (decide (k<((xs.length:Nat):Int))) then (ixD xs k) else ((k*k)+((3:Int)*k)))=y
 have e1:=Int.emod_nonneg y (show (2:Int)*z+1≠0 by omega)
 have e2:=Int.emod_lt_of_pos y (show 0<(2:Int)*z+1 by omega)
 omega
end
def m_law_called (P0:(Option Xn)):(List Str) :=
 (Option.elim P0 [] (λ(v248:Xn) =>
 (Let [(zck zce (some v248)),(zck zcf (some v248)),(zck zcG (some v248))] (λ(v249:(List Bool)) =>
 (Let ((v249++[(zck zbf (some v248))])++[(zck zb8 (some v248)),(zck zb6 (some v248)),(zck zbL (some v248))]) (λ(v250:(List Bool)) =>
 (Let (v250++[(zck zb2 (some v248)),(zck zbM (some v248)),(zck zbh (some v248))]) (λ(v251:(List Bool)) =>
 (Let (v251++[(zck zbg (some v248)),(zck zbu (some v248)),(zck zcA (some v248))]) (λ(v252:(List Bool)) =>
 (Let (v252++[(zck zbN (some v248)),(zck zcH (some v248)),(zck zcx (some v248))]) (λ(v253:(List Bool)) =>
 (Let (v253++[(zck zcz (some v248)),(zck zcb (some v248)),(zck zb3 (some v248))]) (λ(v254:(List Bool)) =>
 (Let [("alike":Str),("wares":Str),("many":Str),("basket":Str),("road":Str),("endless":Str),("great":Str),("rest":Str),("scale":Str),("others":Str)] (λ(v255:(List Str)) =>
 (Let (v255++[("baskets":Str),("book":Str),("line":Str),("names":Str),("nobook":Str),("name":Str),("swap":Str),("badswap":Str),("kept":Str)]) (λ(v256:(List Str)) =>
 (Let (List.map (λ(x257:(Str×Bool))=>x257.1) (List.filter (λ(x257:(Str×Bool))=>x257.2) (List.zip v256 v254))) (λ(v260:(List Str)) =>
 (bif (zck zbF (some v248)) then v260
 else [("none":Str)])))))))))))))))))))))
def zcL (P0:(Option Xn)):Prop:=True
def zdX (K:W.Frag) (A:Adr):Sp:=Spv (ι:=(Option Xn)) (λx=>[dOpt (λe=>dE (A.xc e)) x]) (λx=>zcL x) (λx=>.va true (dL (List.map dS (m_law_called x))))
theorem zaT:FnScope ["_law_caught","_law_some","_law_names","_law_found"] ["_law_caught"] (zad zbJ):=⟨rfl,rfl,rfl,by decide +kernel,rfl,by decide +kernel,by decide +kernel⟩
section
seal L2.PS L2.PSs L2.PE L2.PA L2.PT
set_option maxHeartbeats 0 in
theorem zhj (F:Fun K "_law_called" "_law_called" zbJ f fd) (T:Txt K mg A) :FnOk P w K mg base (CXE P w) 1 f fd ["_law_caught"] (zdX K A):=by
 refine F.okV zaT (λ_=>rfl) (λcdv Ar outer s H E P0 hr hp=>?_)
 have hu:=hr.units
 replace hp:zcL P0:=hp
 unfold zcL at hp
 refine ⟨_,(zac (zbW (zat zmN (pv 0) zgb (zaD _))
 (zac (zaG (zaP pa_nil))
 zaf)
 zaf)
 (zac (zap (i:=1) zaT.nd rfl (Or.inl rfl) (zaP (pa_cons (pe_callB (call_isiB (K:=K) rfl) rfl T.isinstance PyProof.Rows.boot_isinstance (pa_cons (pv 0) (pa_cons (pe_glob (v:=.ref A.k_NotAlike) rfl T.k_NotAlike rfl) pa_nil))) (pa_cons (pe_callB (call_isiB (K:=K) rfl) rfl T.isinstance PyProof.Rows.boot_isinstance (pa_cons (pv 0) (pa_cons (pe_glob (v:=.ref A.k_BadWares) rfl T.k_BadWares rfl) pa_nil))) (pa_cons (pe_callB (call_isiB (K:=K) rfl) rfl T.isinstance PyProof.Rows.boot_isinstance (pa_cons (pv 0) (pa_cons (pe_glob (v:=.ref A.k_TooMany) rfl T.k_TooMany rfl) pa_nil))) pa_nil)))))
 (zac (zcY (zcw (K:=K) rfl (pv 1) (pa_cons (pe_callB (call_isiB (K:=K) rfl) rfl T.isinstance PyProof.Rows.boot_isinstance (pa_cons (pv 0) (pa_cons (pe_glob (v:=.ref A.k_BadBasket) rfl T.k_BadBasket rfl) pa_nil))) pa_nil)))
 (zac (zap (i:=1) zaT.nd rfl (Or.inl rfl) (zau zcm (pv 1) (zaP (pa_cons (pe_callB (call_isiB (K:=K) rfl) rfl T.isinstance PyProof.Rows.boot_isinstance (pa_cons (pv 0) (pa_cons (pe_glob (v:=.ref A.k_BadRoad) rfl T.k_BadRoad rfl) pa_nil))) (pa_cons (pe_callB (call_isiB (K:=K) rfl) rfl T.isinstance PyProof.Rows.boot_isinstance (pa_cons (pv 0) (pa_cons (pe_glob (v:=.ref A.k_Endless) rfl T.k_Endless rfl) pa_nil))) (pa_cons (pe_callB (call_isiB (K:=K) rfl) rfl T.isinstance PyProof.Rows.boot_isinstance (pa_cons (pv 0) (pa_cons (pe_glob (v:=.ref A.k_TooGreat) rfl T.k_TooGreat rfl) pa_nil))) pa_nil))))))
 (zac (zap (i:=1) zaT.nd rfl (Or.inl rfl) (zau zcm (pv 1) (zaP (pa_cons (pe_callB (call_isiB (K:=K) rfl) rfl T.isinstance PyProof.Rows.boot_isinstance (pa_cons (pv 0) (pa_cons (pe_glob (v:=.ref A.k_BadRest) rfl T.k_BadRest rfl) pa_nil))) (pa_cons (pe_callB (call_isiB (K:=K) rfl) rfl T.isinstance PyProof.Rows.boot_isinstance (pa_cons (pv 0) (pa_cons (pe_glob (v:=.ref A.k_BadScale) rfl T.k_BadScale rfl) pa_nil))) (pa_cons (pe_callB (call_isiB (K:=K) rfl) rfl T.isinstance PyProof.Rows.boot_isinstance (pa_cons (pv 0) (pa_cons (pe_glob (v:=.ref A.k_OtherWares) rfl T.k_OtherWares rfl) pa_nil))) pa_nil))))))
 (zac (zap (i:=1) zaT.nd rfl (Or.inl rfl) (zau zcm (pv 1) (zaP (pa_cons (pe_callB (call_isiB (K:=K) rfl) rfl T.isinstance PyProof.Rows.boot_isinstance (pa_cons (pv 0) (pa_cons (pe_glob (v:=.ref A.k_BadBaskets) rfl T.k_BadBaskets rfl) pa_nil))) (pa_cons (pe_callB (call_isiB (K:=K) rfl) rfl T.isinstance PyProof.Rows.boot_isinstance (pa_cons (pv 0) (pa_cons (pe_glob (v:=.ref A.k_OtherBook) rfl T.k_OtherBook rfl) pa_nil))) (pa_cons (pe_callB (call_isiB (K:=K) rfl) rfl T.isinstance PyProof.Rows.boot_isinstance (pa_cons (pv 0) (pa_cons (pe_glob (v:=.ref A.k_NoLine) rfl T.k_NoLine rfl) pa_nil))) pa_nil))))))
 (zac (zap (i:=1) zaT.nd rfl (Or.inl rfl) (zau zcm (pv 1) (zaP (pa_cons (pe_callB (call_isiB (K:=K) rfl) rfl T.isinstance PyProof.Rows.boot_isinstance (pa_cons (pv 0) (pa_cons (pe_glob (v:=.ref A.k_BadNames) rfl T.k_BadNames rfl) pa_nil))) (pa_cons (pe_callB (call_isiB (K:=K) rfl) rfl T.isinstance PyProof.Rows.boot_isinstance (pa_cons (pv 0) (pa_cons (pe_glob (v:=.ref A.k_NoBook) rfl T.k_NoBook rfl) pa_nil))) (pa_cons (pe_callB (call_isiB (K:=K) rfl) rfl T.isinstance PyProof.Rows.boot_isinstance (pa_cons (pv 0) (pa_cons (pe_glob (v:=.ref A.k_NoName) rfl T.k_NoName rfl) pa_nil))) pa_nil))))))
 (zac (zap (i:=1) zaT.nd rfl (Or.inl rfl) (zau zcm (pv 1) (zaP (pa_cons (pe_callB (call_isiB (K:=K) rfl) rfl T.isinstance PyProof.Rows.boot_isinstance (pa_cons (pv 0) (pa_cons (pe_glob (v:=.ref A.k_NoSwap) rfl T.k_NoSwap rfl) pa_nil))) (pa_cons (pe_callB (call_isiB (K:=K) rfl) rfl T.isinstance PyProof.Rows.boot_isinstance (pa_cons (pv 0) (pa_cons (pe_glob (v:=.ref A.k_BadSwap) rfl T.k_BadSwap rfl) pa_nil))) (pa_cons (pe_callB (call_isiB (K:=K) rfl) rfl T.isinstance PyProof.Rows.boot_isinstance (pa_cons (pv 0) (pa_cons (pe_glob (v:=.ref A.k_NotKept) rfl T.k_NotKept rfl) pa_nil))) pa_nil))))))
 (zac (zap (i:=2) zaT.nd rfl (Or.inl rfl) (zaP (pa_cons zbp (pa_cons zbp (pa_cons zbp (pa_cons zbp (pa_cons zbp (pa_cons zbp (pa_cons zbp (pa_cons zbp (pa_cons zbp (pa_cons zbp pa_nil))))))))))))
 (zac (zap (i:=2) zaT.nd rfl (Or.inl rfl) (zau zcm (pv 2) (zaP (pa_cons zbp (pa_cons zbp (pa_cons zbp (pa_cons zbp (pa_cons zbp (pa_cons zbp (pa_cons zbp (pa_cons zbp (pa_cons zbp pa_nil))))))))))))
 (zac (zdV (i:=3) rfl zaT.nd rfl rfl (.of (osc:=(zad zbJ)) (N:=["_law_caught","_law_some","_law_names","_law_found"]) (own:=["_law_name","_law_truth"]) (fvn:=[]) (fv:=[]) rfl rfl (by decide +kernel)) (zeI (K:=K) rfl rfl T.zip (pa_cons (pv 2) (pa_cons (pv 1) pa_nil))) (λ_ _ _ _ _=>⟨(zcg (K:=K) (n:=2) rfl rfl (zaQ (pg_name (i:=0) (show (["_law_name","_law_truth"]:List Str).Nodup by decide +kernel) rfl (Or.inl rfl) (Or.inr rfl)) (zaQ (pg_name (i:=1) (show (["_law_name","_law_truth"]:List Str).Nodup by decide +kernel) rfl (Or.inl rfl) (Or.inr rfl)) zdn))),(zhr (zlz (pv 1))),(pv 0)⟩))
 (zac (zbW (zlz (pe_callB (call_isiB (K:=K) rfl) rfl T.isinstance PyProof.Rows.boot_isinstance (pa_cons (pv 0) (pa_cons (pe_bltn rfl T.ValueError (v:=.ty "ValueError") (u:=.type "ValueError") (by decide +kernel) rfl) pa_nil))))
 (zac (zaG (pv 3))
 zaf)
 zaf)
 (zac (zaG (zaP (pa_cons zbp pa_nil)))
 zaf))))))))))))),.inl ?_⟩
 show L2.Run _ ([.va false (dOpt (λe=>dE (A.xc e)) P0),.no,.no,.no]:L2.Ctx) _ ((λ(r:(List Str))=>Oc.rt true (dL (List.map dS r))) (m_law_called P0))
 unfold m_law_called
 exact (ziw (i:=0) (x:=P0) (f:=(λe=>dE (A.xc e))) (λ(r:(List Str))=>Oc.rt true (dL (List.map dS r))) rfl NN.exc (λhv248=>(zak (zai (zaw (EvO.ev (zcR (m:=true) zae)))))) (λv248 hv248 =>
 (zah (run_letO (m:=true) (x:=[(zck zce (some v248)),(zck zcf (some v248)),(zck zcG (some v248))]) (λz=>List.map dB z) (λ(r:(List Str))=>Oc.rt true (dL (List.map dS r))) (za4 (zaa (zbt (xc:=A.xc) (x:=(some v248)) (f:=zce) (zab (i:=0) rfl) T.i0_NotAlike T.hx_NotAlike) (zaa (zbt (xc:=A.xc) (x:=(some v248)) (f:=zcf) (zab (i:=0) rfl) T.i0_BadWares T.hx_BadWares) (zaa (zbt (xc:=A.xc) (x:=(some v248)) (f:=zcG) (zab (i:=0) rfl) T.i0_TooMany T.hx_TooMany) zae))) (by show 3≤sizeLine;decide)) (λv249 hv249 =>
 (zcE (f:=dB) (xs:=v249) (x:=(zck zbf (some v248))) rfl (zbt (xc:=A.xc) (x:=(some v248)) (f:=zbf) (zab (i:=0) rfl) T.i0_BadBasket T.hx_BadBasket) (by subst_vars;exact Nat.lt_of_le_of_lt (show _≤1000 by simp) (by decide))
 (zbk (i:=1) rfl (run_letO (m:=true) (x:=((v249++[(zck zbf (some v248))])++[(zck zb8 (some v248)),(zck zb6 (some v248)),(zck zbL (some v248))])) (λz=>List.map dB z) (λ(r:(List Str))=>Oc.rt true (dL (List.map dS r))) (EvO.anyB (m:=true) (zbz (f:=dB) (xs:=(v249++[(zck zbf (some v248))])) (ys:=[(zck zb8 (some v248)),(zck zb6 (some v248)),(zck zbL (some v248))]) (zab (i:=1) rfl) (EvO.ev (za4 (zaa (zbt (xc:=A.xc) (x:=(some v248)) (f:=zb8) (zab (i:=0) rfl) T.i0_BadRoad T.hx_BadRoad) (zaa (zbt (xc:=A.xc) (x:=(some v248)) (f:=zb6) (zab (i:=0) rfl) T.i0_Endless T.hx_Endless) (zaa (zbt (xc:=A.xc) (x:=(some v248)) (f:=zbL) (zab (i:=0) rfl) T.i0_TooGreat T.hx_TooGreat) zae))) (by show 3≤sizeLine;decide))) (by subst_vars;first | exact zaj (by simp) | exact zaj (by rw [List.length_zip];exact Nat.le_trans (Nat.min_le_left _ _) (by simp))))) (λv250 hv250 =>
 (zbk (i:=1) rfl (run_letO (m:=true) (x:=(v250++[(zck zb2 (some v248)),(zck zbM (some v248)),(zck zbh (some v248))])) (λz=>List.map dB z) (λ(r:(List Str))=>Oc.rt true (dL (List.map dS r))) (EvO.anyB (m:=true) (zbz (f:=dB) (xs:=v250) (ys:=[(zck zb2 (some v248)),(zck zbM (some v248)),(zck zbh (some v248))]) (zab (i:=1) rfl) (EvO.ev (za4 (zaa (zbt (xc:=A.xc) (x:=(some v248)) (f:=zb2) (zab (i:=0) rfl) T.i0_BadRest T.hx_BadRest) (zaa (zbt (xc:=A.xc) (x:=(some v248)) (f:=zbM) (zab (i:=0) rfl) T.i0_BadScale T.hx_BadScale) (zaa (zbt (xc:=A.xc) (x:=(some v248)) (f:=zbh) (zab (i:=0) rfl) T.i0_OtherWares T.hx_OtherWares) zae))) (by show 3≤sizeLine;decide))) (by subst_vars;first | exact zaj (by simp) | exact zaj (by rw [List.length_zip];exact Nat.le_trans (Nat.min_le_left _ _) (by simp))))) (λv251 hv251 =>
 (zbk (i:=1) rfl (run_letO (m:=true) (x:=(v251++[(zck zbg (some v248)),(zck zbu (some v248)),(zck zcA (some v248))])) (λz=>List.map dB z) (λ(r:(List Str))=>Oc.rt true (dL (List.map dS r))) (EvO.anyB (m:=true) (zbz (f:=dB) (xs:=v251) (ys:=[(zck zbg (some v248)),(zck zbu (some v248)),(zck zcA (some v248))]) (zab (i:=1) rfl) (EvO.ev (za4 (zaa (zbt (xc:=A.xc) (x:=(some v248)) (f:=zbg) (zab (i:=0) rfl) T.i0_BadBaskets T.hx_BadBaskets) (zaa (zbt (xc:=A.xc) (x:=(some v248)) (f:=zbu) (zab (i:=0) rfl) T.i0_OtherBook T.hx_OtherBook) (zaa (zbt (xc:=A.xc) (x:=(some v248)) (f:=zcA) (zab (i:=0) rfl) T.i0_NoLine T.hx_NoLine) zae))) (by show 3≤sizeLine;decide))) (by subst_vars;first | exact zaj (by simp) | exact zaj (by rw [List.length_zip];exact Nat.le_trans (Nat.min_le_left _ _) (by simp))))) (λv252 hv252 =>
 (zbk (i:=1) rfl (run_letO (m:=true) (x:=(v252++[(zck zbN (some v248)),(zck zcH (some v248)),(zck zcx (some v248))])) (λz=>List.map dB z) (λ(r:(List Str))=>Oc.rt true (dL (List.map dS r))) (EvO.anyB (m:=true) (zbz (f:=dB) (xs:=v252) (ys:=[(zck zbN (some v248)),(zck zcH (some v248)),(zck zcx (some v248))]) (zab (i:=1) rfl) (EvO.ev (za4 (zaa (zbt (xc:=A.xc) (x:=(some v248)) (f:=zbN) (zab (i:=0) rfl) T.i0_BadNames T.hx_BadNames) (zaa (zbt (xc:=A.xc) (x:=(some v248)) (f:=zcH) (zab (i:=0) rfl) T.i0_NoBook T.hx_NoBook) (zaa (zbt (xc:=A.xc) (x:=(some v248)) (f:=zcx) (zab (i:=0) rfl) T.i0_NoName T.hx_NoName) zae))) (by show 3≤sizeLine;decide))) (by subst_vars;first | exact zaj (by simp) | exact zaj (by rw [List.length_zip];exact Nat.le_trans (Nat.min_le_left _ _) (by simp))))) (λv253 hv253 =>
 (zbk (i:=1) rfl (run_letO (m:=true) (x:=(v253++[(zck zcz (some v248)),(zck zcb (some v248)),(zck zb3 (some v248))])) (λz=>List.map dB z) (λ(r:(List Str))=>Oc.rt true (dL (List.map dS r))) (EvO.anyB (m:=true) (zbz (f:=dB) (xs:=v253) (ys:=[(zck zcz (some v248)),(zck zcb (some v248)),(zck zb3 (some v248))]) (zab (i:=1) rfl) (EvO.ev (za4 (zaa (zbt (xc:=A.xc) (x:=(some v248)) (f:=zcz) (zab (i:=0) rfl) T.i0_NoSwap T.hx_NoSwap) (zaa (zbt (xc:=A.xc) (x:=(some v248)) (f:=zcb) (zab (i:=0) rfl) T.i0_BadSwap T.hx_BadSwap) (zaa (zbt (xc:=A.xc) (x:=(some v248)) (f:=zb3) (zab (i:=0) rfl) T.i0_NotKept T.hx_NotKept) zae))) (by show 3≤sizeLine;decide))) (by subst_vars;first | exact zaj (by simp) | exact zaj (by rw [List.length_zip];exact Nat.le_trans (Nat.min_le_left _ _) (by simp))))) (λv254 hv254 =>
 (zas (m:=true) (x:=[("alike":Str),("wares":Str),("many":Str),("basket":Str),("road":Str),("endless":Str),("great":Str),("rest":Str),("scale":Str),("others":Str)]) (λ(xs:(List Str))=>dL (List.map dS xs)) (λ(r:(List Str))=>Oc.rt true (dL (List.map dS r))) (EvO.ev (za4 (zaa zay (zaa zay (zaa zay (zaa zay (zaa zay (zaa zay (zaa zay (zaa zay (zaa zay (zaa zay zae)))))))))) (by show 10≤sizeLine;decide))) (λv255 hv255 =>
 (zas (m:=true) (x:=(v255++[("baskets":Str),("book":Str),("line":Str),("names":Str),("nobook":Str),("name":Str),("swap":Str),("badswap":Str),("kept":Str)])) (λ(xs:(List Str))=>dL (List.map dS xs)) (λ(r:(List Str))=>Oc.rt true (dL (List.map dS r))) (EvO.ev (EvO.anyS (m:=true) (zbz (f:=dS) (xs:=v255) (ys:=[("baskets":Str),("book":Str),("line":Str),("names":Str),("nobook":Str),("name":Str),("swap":Str),("badswap":Str),("kept":Str)]) (zab (i:=2) rfl) (EvO.ev (za4 (zaa zay (zaa zay (zaa zay (zaa zay (zaa zay (zaa zay (zaa zay (zaa zay (zaa zay zae))))))))) (by show 9≤sizeLine;decide))) (by subst_vars;first | exact zaj (by simp) | exact zaj (by rw [List.length_zip];exact Nat.le_trans (Nat.min_le_left _ _) (by simp)))))) (λv256 hv256 =>
 (zbk (i:=1) rfl (zas (m:=true) (x:=(List.map (λ(x257:(Str×Bool))=>x257.1) (List.filter (λ(x257:(Str×Bool))=>x257.2) (List.zip v256 v254)))) (λ(xs:(List Str))=>dL (List.map dS xs)) (λ(r:(List Str))=>Oc.rt true (dL (List.map dS r))) (EvO.ev (EvO.conv (zgE (c:=λ(x257:(Str×Bool))=>x257.2) (g:=(λ(x257:(Str×Bool))=>dS x257.1)) (zgT (m:=true) dS dB (xs:=v256) (ys:=v254) (Ev.weak (K:=K) (zab (i:=2) rfl)) (Ev.weak (K:=K) (zab (i:=1) rfl))) (by subst_vars;first | exact zaj (by simp) | exact zaj (by rw [List.length_zip];exact Nat.le_trans (Nat.min_le_left _ _) (by simp))) ⟨by decide,by decide⟩ (λi258 x257 hx259=>have v259:=zcW hx259;(zig (Ev.any (m:=true) (zab (i:=1) rfl)))) (λi258 x257 hx259 hc=>have v259:=zcW hx259;(Ev.any (m:=true) (zab (i:=0) rfl)))) (by first | (rw [List.map_map];rfl) | (simp only [cond_true,cond_false];rw [List.map_map];rfl)))) (λv260 hv260 =>
 (zaH (b:=(zck zbF (some v248))) (λ(r:(List Str))=>Oc.rt true (dL (List.map dS r))) (zig (zmb (xc:=A.xc) (x:=(some v248)) (f:=zbF) (zab (i:=0) rfl) T.i0_ValueError T.hx_ValueError)) (λh261=>(zak (zai (zaw (zab (i:=3) rfl))))) (λh261 =>
 (zah (zai (zaw (EvO.ev (za4 (zaa zay zae) (by show 1≤sizeLine;decide))))))))))))))))))))))))))))))))))))
end
def x_law_call (P0:Int) (P1:BookD) (P2:(List Int)) (P3:(List Int)) (P4:(List Int)):Except Xn Unit :=
 (bif (decide (P0=(0:Int))) then (zgH (zfK P1 P2) (λ_ =>
 (Except.ok ())))
 else (bif (decide (P0=(1:Int))) then (zgH (zfN P1 P2 P3) (λ_ =>
 (Except.ok ())))
 else (bif (decide (P0=(2:Int))) then (zgH (zcO P1 P2 P3) (λ_ =>
 (Except.ok ())))
 else (bif (decide (P0=(3:Int))) then (zgH (x_plain_road P1 P2 P3) (λ_ =>
 (Except.ok ())))
 else (bif (decide (P0=(4:Int))) then (zgH (zcQ P1 P2) (λ_ =>
 (Except.ok ())))
 else (zgH (zhB P1 P2 P4) (λ_ =>
 (Except.ok ()))))))))
def zc3 (P0:Int) (P1:BookD) (P2:(List Int)) (P3:(List Int)) (P4:(List Int)):Prop:=C7 P1 P2 P3 P4
def zej (K:W.Frag) (A:Adr):Sp:=Spv (ι:=Int×BookD×(List Int)×(List Int)×(List Int)) (λx=>[dI x.1,zaK A.Book x.2.1,dL (List.map dI x.2.2.1),dL (List.map dI x.2.2.2.1),dL (List.map dI x.2.2.2.2)]) (λx=>zc3 x.1 x.2.1 x.2.2.1 x.2.2.2.1 x.2.2.2.2) (λx=>zhH A.xc true (λ_=>dN) (x_law_call x.1 x.2.1 x.2.2.1 x.2.2.2.1 x.2.2.2.2))
theorem zh8:FnScope ["_law_which","_law_book","_law_one","_law_other","_law_way"] ["_law_which","_law_book","_law_one","_law_other","_law_way"] (zad zdc):=⟨rfl,rfl,rfl,by decide +kernel,rfl,by decide +kernel,by decide +kernel⟩
theorem zhQ (F:Fun K "_law_call" "_law_call" zdc f fd) (T:Txt K mg A)  (GX_home:Callee P w K mg base (CXE P w) 8 "home" ["book","basket"] (zhb K A))  (GX_led:Callee P w K mg base (CXE P w) 3 "led" ["book","basket","road"] (zh9 K A))  (GX_parting:Callee P w K mg base (CXE P w) 7 "parting" ["book","one","other"] (zeU K A))  (GX_plain_road:Callee P w K mg base (CXE P w) 9 "plain_road" ["book","one","other"] (zdA K A))  (GX_road:Callee P w K mg base (CXE P w) 8 "road" ["book","one","other"] (zhf K A))  (GX_turn_of:Callee P w K mg base (CXE P w) 8 "turn_of" ["book","basket"] (zeT K A)):FnOk P w K mg base (CXE P w) 10 f fd ["_law_which","_law_book","_law_one","_law_other","_law_way"] (zej K A):=by
 refine F.okVXN zh8 (λ_=>rfl) (λcdv Ar outer s H E x hr hp O=>?_)
 obtain ⟨P0,P1,P2,P3,P4⟩:=x
 have hu:=hr.units
 replace hp:zc3 P0 P1 P2 P3 P4:=hp
 unfold zc3 at hp
 refine ⟨_,([.va false (dI P0),.va false (zaK A.Book P1),.va false (dL (List.map dI P2)),.va false (dL (List.map dI P3)),.va false (dL (List.map dI P4))]:L2.Ctx),(zaC (zir (zat zeP (pv 0) zag (zaD _))
 (zaC (zbO (zep O GX_home (hr.mono (by decide)) rfl (pa_cons (pv 1) (pa_cons (pv 2) pa_nil))))
 zbB)
 (zaC (zir (zat zeP (pv 0) zag (zaD _))
 (zaC (zbO (zep O GX_road (hr.mono (by decide)) rfl (pa_cons (pv 1) (pa_cons (pv 2) (pa_cons (pv 3) pa_nil)))))
 zbB)
 (zaC (zir (zat zeP (pv 0) zag (zaD _))
 (zaC (zbO (zep O GX_parting (hr.mono (by decide)) rfl (pa_cons (pv 1) (pa_cons (pv 2) (pa_cons (pv 3) pa_nil)))))
 zbB)
 (zaC (zir (zat zeP (pv 0) zag (zaD _))
 (zaC (zbO (zep O GX_plain_road (hr.mono (by decide)) rfl (pa_cons (pv 1) (pa_cons (pv 2) (pa_cons (pv 3) pa_nil)))))
 zbB)
 (zaC (zir (zat zeP (pv 0) zag (zaD _))
 (zaC (zbO (zep O GX_turn_of (hr.mono (by decide)) rfl (pa_cons (pv 1) (pa_cons (pv 2) pa_nil))))
 zbB)
 (zaC (zbO (zep O GX_led (hr.mono (by decide)) rfl (pa_cons (pv 1) (pa_cons (pv 2) (pa_cons (pv 4) pa_nil)))))
 zbB))
 zbB))
 zbB))
 zbB))
 zbB))
 zbB),?_⟩
 show L2.Run _ ([.va false (dI P0),.va false (zaK A.Book P1),.va false (dL (List.map dI P2)),.va false (dL (List.map dI P3)),.va false (dL (List.map dI P4))]:L2.Ctx) _ ((foX A.xc ([.no,.no,.no,.no,.no]:L2.Ctx) (λ(_:Unit)=>Oc.nx ([.va false (dI P0),.va false (zaK A.Book P1),.va false (dL (List.map dI P2)),.va false (dL (List.map dI P3)),.va false (dL (List.map dI P4))]:L2.Ctx))) (x_law_call P0 P1 P2 P3 P4))
 unfold x_law_call
 exact (zaH (b:=(decide (P0=(0:Int)))) (foX A.xc ([.no,.no,.no,.no,.no]:L2.Ctx) (λ(_:Unit)=>Oc.nx ([.va false (dI P0),.va false (zaK A.Book P1),.va false (dL (List.map dI P2)),.va false (dL (List.map dI P3)),.va false (dL (List.map dI P4))]:L2.Ctx))) (zam (zdm (x:=P0) (y:=(0:Int)) (Ev.any (m:=false) (zab (i:=0) rfl)) zay)) (λh262=>(zak (zaU (λ(_:Unit)=>Oc.nx ([.va false (dI P0),.va false (zaK A.Book P1),.va false (dL (List.map dI P2)),.va false (dL (List.map dI P3)),.va false (dL (List.map dI P4))]:L2.Ctx)) (P1,P2) (zaa (zab (i:=1) rfl) (zaa (Ev.weak (K:=K) (zab (i:=2) rfl)) zae)) rfl (by show ze7 P1 P2;exact hp.one) rfl (.no (.no (.no (.no (.no .nil))))) (λv263 hv263 =>
 (zah (zal (Wk.refl _))))))) (λh262 =>
 (zak (zaH (b:=(decide (P0=(1:Int)))) (foX A.xc ([.no,.no,.no,.no,.no]:L2.Ctx) (λ(_:Unit)=>Oc.nx ([.va false (dI P0),.va false (zaK A.Book P1),.va false (dL (List.map dI P2)),.va false (dL (List.map dI P3)),.va false (dL (List.map dI P4))]:L2.Ctx))) (zam (zdm (x:=P0) (y:=(1:Int)) (Ev.any (m:=false) (zab (i:=0) rfl)) zay)) (λh264=>(zak (zaU (λ(_:Unit)=>Oc.nx ([.va false (dI P0),.va false (zaK A.Book P1),.va false (dL (List.map dI P2)),.va false (dL (List.map dI P3)),.va false (dL (List.map dI P4))]:L2.Ctx)) (P1,P2,P3) (zaa (zab (i:=1) rfl) (zaa (Ev.weak (K:=K) (zab (i:=2) rfl)) (zaa (Ev.weak (K:=K) (zab (i:=3) rfl)) zae))) rfl (by show zfa P1 P2 P3;exact hp.two) rfl (.no (.no (.no (.no (.no .nil))))) (λv265 hv265 =>
 (zah (zah (zal (Wk.refl _)))))))) (λh264 =>
 (zak (zaH (b:=(decide (P0=(2:Int)))) (foX A.xc ([.no,.no,.no,.no,.no]:L2.Ctx) (λ(_:Unit)=>Oc.nx ([.va false (dI P0),.va false (zaK A.Book P1),.va false (dL (List.map dI P2)),.va false (dL (List.map dI P3)),.va false (dL (List.map dI P4))]:L2.Ctx))) (zam (zdm (x:=P0) (y:=(2:Int)) (Ev.any (m:=false) (zab (i:=0) rfl)) zay)) (λh266=>(zak (zaU (λ(_:Unit)=>Oc.nx ([.va false (dI P0),.va false (zaK A.Book P1),.va false (dL (List.map dI P2)),.va false (dL (List.map dI P3)),.va false (dL (List.map dI P4))]:L2.Ctx)) (P1,P2,P3) (zaa (zab (i:=1) rfl) (zaa (Ev.weak (K:=K) (zab (i:=2) rfl)) (zaa (Ev.weak (K:=K) (zab (i:=3) rfl)) zae))) rfl (by show zds P1 P2 P3;exact hp.two) rfl (.no (.no (.no (.no (.no .nil))))) (λv267 hv267 =>
 (zah (zah (zah (zal (Wk.refl _))))))))) (λh266 =>
 (zak (zaH (b:=(decide (P0=(3:Int)))) (foX A.xc ([.no,.no,.no,.no,.no]:L2.Ctx) (λ(_:Unit)=>Oc.nx ([.va false (dI P0),.va false (zaK A.Book P1),.va false (dL (List.map dI P2)),.va false (dL (List.map dI P3)),.va false (dL (List.map dI P4))]:L2.Ctx))) (zam (zdm (x:=P0) (y:=(3:Int)) (Ev.any (m:=false) (zab (i:=0) rfl)) zay)) (λh268=>(zak (zaU (λ(_:Unit)=>Oc.nx ([.va false (dI P0),.va false (zaK A.Book P1),.va false (dL (List.map dI P2)),.va false (dL (List.map dI P3)),.va false (dL (List.map dI P4))]:L2.Ctx)) (P1,P2,P3) (zaa (zab (i:=1) rfl) (zaa (Ev.weak (K:=K) (zab (i:=2) rfl)) (zaa (Ev.weak (K:=K) (zab (i:=3) rfl)) zae))) rfl (by show zcs P1 P2 P3;exact hp.px) rfl (.no (.no (.no (.no (.no .nil))))) (λv269 hv269 =>
 (zah (zah (zah (zah (zal (Wk.refl _)))))))))) (λh268 =>
 (zak (zaH (b:=(decide (P0=(4:Int)))) (foX A.xc ([.no,.no,.no,.no,.no]:L2.Ctx) (λ(_:Unit)=>Oc.nx ([.va false (dI P0),.va false (zaK A.Book P1),.va false (dL (List.map dI P2)),.va false (dL (List.map dI P3)),.va false (dL (List.map dI P4))]:L2.Ctx))) (zam (zdm (x:=P0) (y:=(4:Int)) (Ev.any (m:=false) (zab (i:=0) rfl)) zay)) (λh270=>(zak (zaU (λ(_:Unit)=>Oc.nx ([.va false (dI P0),.va false (zaK A.Book P1),.va false (dL (List.map dI P2)),.va false (dL (List.map dI P3)),.va false (dL (List.map dI P4))]:L2.Ctx)) (P1,P2) (zaa (zab (i:=1) rfl) (zaa (zab (i:=2) rfl) zae)) rfl (by show zdu P1 P2;exact hp.one) rfl (.no (.no (.no (.no (.no .nil))))) (λv271 hv271 =>
 (zah (zah (zah (zah (zah (zal (Wk.refl _))))))))))) (λh270 =>
 (zak (zaU (λ(_:Unit)=>Oc.nx ([.va false (dI P0),.va false (zaK A.Book P1),.va false (dL (List.map dI P2)),.va false (dL (List.map dI P3)),.va false (dL (List.map dI P4))]:L2.Ctx)) (P1,P2,P4) (zaa (zab (i:=1) rfl) (zaa (Ev.weak (K:=K) (zab (i:=2) rfl)) (zaa (Ev.weak (K:=K) (zab (i:=4) rfl)) zae))) rfl (by show zfg P1 P2 P4;exact hp.ld) rfl (.no (.no (.no (.no (.no .nil))))) (λv272 hv272 =>
 (zah (zah (zah (zah (zah (zal (Wk.refl _))))))))))))))))))))))))
section
variable {b:BookD} {x y w:List Int} {k:Int}
theorem ziR (hx:(x.length:Int)≠b.many):x_law_call k b x y w=.error .BadBasket:=by
 have e:=zg3 b x
 rw [if_neg hx] at e
 unfold x_law_call zfK zfN zcO x_plain_road zcQ zhB
 rw [e]
 simp only [zgH]
 cases decide (k=0)<;>cases decide (k=1)<;>cases decide (k=2)<;>cases decide (k=3)<;>cases decide (k=4)<;>rfl
theorem zmc (hx:(x.length:Int)=b.many) (hy:(y.length:Int)≠b.many) (h1:0<k) (h2:k<4):x_law_call k b x y w=.error .BadBasket:=by
 have e:=zg3 b x
 rw [if_pos hx] at e
 have e2:=zg3 b y
 rw [if_neg hy] at e2
 unfold x_law_call zfK zfN zcO x_plain_road zcQ zhB
 rw [e,e2,decide_eq_false (show ¬ k=0 by omega)]
 simp only [zgH,cond_false]
 by_cases q1:k=1
 ·rw [decide_eq_true q1];rfl
 ·rw [decide_eq_false q1]
  by_cases q2:k=2
  ·rw [decide_eq_true q2];rfl
  ·rw [decide_eq_false q2,decide_eq_true (show k=3 by omega)];rfl
theorem zoi {α β:Type} {v:α} {f:α->Except Xn β}:zgH (Except.ok v:Except Xn α) f=f v:=rfl
theorem zoH (hx:(x.length:Int)=b.many) (hy:(y.length:Int)=b.many) (hw:w.length=b.swaps.length):x_law_call k b x y w=.ok ():=by
 have e:=zg3 b x
 rw [if_pos hx] at e
 have e2:=zg3 b y
 rw [if_pos hy] at e2
 have e3:=zmZ b w
 rw [if_pos hw] at e3
 unfold x_law_call zfK zfN zcO x_plain_road zcQ zhB Let
 rw [e,e2,e3]
 simp only [zoi]
 cases decide (k=0)<;>cases decide (k=1)<;>cases decide (k=2)<;>cases decide (k=3)<;>cases decide (k=4)<;>rfl
theorem zj8 (hx:(x.length:Int)=b.many) (hw:w.length≠b.swaps.length):x_law_call 5 b x y w=.error .BadRoad:=by
 have e:=zg3 b x
 rw [if_pos hx] at e
 have e3:=zmZ b w
 rw [if_neg hw] at e3
 unfold x_law_call zhB
 rw [e,e3]
 rfl
end
def m_law_flags (P0:Int) (P1:BookD) (P2:(List Int)) (P3:(List Int)) (P4:(List Int)):(List Str) :=
 (Let () (λ(v273:Unit) =>
 (Let (zgH (x_law_call P0 P1 P2 P3 P4) (λ_ =>
 (Except.ok ()))) (λ(r276:Except Xn Unit) =>
 (m_law_called (zmY r276))))))
def za2 (P0:Int) (P1:BookD) (P2:(List Int)) (P3:(List Int)) (P4:(List Int)):Prop:=C7 P1 P2 P3 P4
def zen (K:W.Frag) (A:Adr):Sp:=Spv (ι:=Int×BookD×(List Int)×(List Int)×(List Int)) (λx=>[dI x.1,zaK A.Book x.2.1,dL (List.map dI x.2.2.1),dL (List.map dI x.2.2.2.1),dL (List.map dI x.2.2.2.2)]) (λx=>za2 x.1 x.2.1 x.2.2.1 x.2.2.2.1 x.2.2.2.2) (λx=>.va true (dL (List.map dS (m_law_flags x.1 x.2.1 x.2.2.1 x.2.2.2.1 x.2.2.2.2))))
theorem zel:FnScope ["_law_which","_law_book","_law_one","_law_other","_law_way","_law_caught","e"] ["_law_which","_law_book","_law_one","_law_other","_law_way"] (zad zcF):=⟨rfl,rfl,rfl,by decide +kernel,rfl,by decide +kernel,by decide +kernel⟩
theorem zhZ (F:Fun K "_law_flags" "_law_flags" zcF f fd) (T:Txt K mg A) (G_law_called:Callee P w K mg base (CXE P w) 1 "_law_called" ["_law_caught"] (zdX K A)) (GX_law_call:Callee P w K mg base (CXE P w) 10 "_law_call" ["_law_which","_law_book","_law_one","_law_other","_law_way"] (zej K A)):FnOk P w K mg base (CXE P w) 11 f fd ["_law_which","_law_book","_law_one","_law_other","_law_way"] (zen K A):=by
 refine F.okVX zel (λ_=>rfl) (λcdv Ar outer s H E x hr hp O=>?_)
 obtain ⟨P0,P1,P2,P3,P4⟩:=x
 have hu:=hr.units
 replace hp:za2 P0 P1 P2 P3 P4:=hp
 unfold za2 at hp
 refine ⟨_,(zaC (zco (zap (i:=5) zel.nd rfl (Or.inl rfl) zgb))
 (zaC (zo7 (K:=K) O rfl zel.nd (i:=6) (j:=5) rfl rfl rfl (Or.inl rfl) (Or.inr rfl) rfl T.k_SwapError (zaC (zbO (zep O GX_law_call (hr.mono (by decide)) rfl (pa_cons (pv 0) (pa_cons (pv 1) (pa_cons (pv 2) (pa_cons (pv 3) (pa_cons (pv 4) pa_nil)))))))
 zbB))
 (zaC (zco (zaG (zaB G_law_called (hr.mono (by decide)) rfl zaz (pa_cons (pv 5) pa_nil))))
 zbB))),.inl ?_⟩
 show L2.Run _ ([.va false (dI P0),.va false (zaK A.Book P1),.va false (dL (List.map dI P2)),.va false (dL (List.map dI P3)),.va false (dL (List.map dI P4)),.no,.no]:L2.Ctx) _ ((λ(r:(List Str))=>Oc.rt true (dL (List.map dS r))) (m_law_flags P0 P1 P2 P3 P4))
 unfold m_law_flags
 exact (zas (m:=true) (x:=()) (λ_=>dN) (λ(r:(List Str))=>Oc.rt true (dL (List.map dS r))) zay (λv273 hv273 =>
 (zl1 (xc:=A.xc) (λ(z274:Unit)=>([.va false (dI P0),.va false (zaK A.Book P1),.va false (dL (List.map dI P2)),.va false (dL (List.map dI P3)),.va false (dL (List.map dI P4)),.va true (dN),.no]:L2.Ctx)) ([.va false (dI P0),.va false (zaK A.Book P1),.va false (dL (List.map dI P2)),.va false (dL (List.map dI P3)),.va false (dL (List.map dI P4)),.va true (dN),.no]:L2.Ctx) (λ(r276:Except Xn Unit)=>([.va false (dI P0),.va false (zaK A.Book P1),.va false (dL (List.map dI P2)),.va false (dL (List.map dI P3)),.va false (dL (List.map dI P4)),.va true (dOpt (λe=>dE (A.xc e)) (zmY r276)),.no]:L2.Ctx)) (λ(r:(List Str))=>Oc.rt true (dL (List.map dS r))) (λE1=>(zaU (λv=>Oc.nx ((λ(z274:Unit)=>([.va false (dI P0),.va false (zaK A.Book P1),.va false (dL (List.map dI P2)),.va false (dL (List.map dI P3)),.va false (dL (List.map dI P4)),.va true (dN),.no]:L2.Ctx)) v)) (P0,P1,P2,P3,P4) (zaa (Ev.any (m:=false) (zab (i:=0) rfl)) (zaa (zab (i:=1) rfl) (zaa (zab (i:=2) rfl) (zaa (zab (i:=3) rfl) (zaa (zab (i:=4) rfl) zae))))) rfl (by show zc3 P0 P1 P2 P3 P4;exact hp) rfl (.eq (.eq (.eq (.eq (.eq (.eq (.eq .nil))))))) (λv275 hv275 =>
 (zal (.eq (.eq (.eq (.eq (.eq (.eq (.eq .nil))))))))))) (λz274=>(.eq (.eq (.eq (.eq (.eq (.eq (.eq .nil)))))))) (λe=>⟨match e with | .BadBasket=>T.exm_BadBasket | .BadRoad=>T.exm_BadRoad,(.eq (.eq (.eq (.eq (.eq (.eq (.eq .nil)))))))⟩) (λr276 hr276 =>
 (zai (zaw (zao (x:=(zmY r276)) (zaa (Ev.old (zab (i:=5) rfl)) zae) rfl (by show zcL (zmY r276);exact trivial) rfl)))))))
theorem zfh {k:Int} {b:BookD} {x y w:List Int}:m_law_flags k b x y w=m_law_called (zmY (x_law_call k b x y w)):=by
 unfold m_law_flags Let zgH
 dsimp only
 cases x_law_call k b x y w<;>rfl
theorem called_b:m_law_called (zmY (.error .BadBasket:Except Xn Unit))=[("basket":Str)]:=by rfl
theorem zlY:m_law_called (zmY (.error .BadRoad:Except Xn Unit))=[("road":Str)]:=by rfl
theorem zlO:m_law_called (zmY (.ok ():Except Xn Unit))=[]:=rfl
section
variable {w c:Int} {rows:List (List Int)} {b:BookD} {xs g bad way:List Int}
theorem zqw (hR:F3 w rows) (e:b=m_book_of w (List.map (λ(x:List Int)=>x) rows)):b=⟨w,rows⟩:=by rw [e,zhw,znd]
theorem zoY (hR:F3 w rows):zba xs 3 w 99:=by
 have:=hR.wd
 exact ⟨by omega,by omega,by omega,by omega,by decide⟩
theorem zp2 (hR:F3 w rows) (e:g=m_law_numbers xs 3 w 99):g.length=w.toNat∧Lat.Bit 10 g:=by
 obtain ⟨k1,k2⟩:=zrx (xs:=xs) (a:=3) (m:=w) (z:=99) (by decide)
 rw [← e] at k1 k2
 exact ⟨k1,λy hy=>Nat.le_trans (k2 y hy) (by decide)⟩
theorem zqd (hR:F3 w rows) (hG:g.length=w.toNat∧Lat.Bit 10 g):g.length+[c].length≤PySem.sizeLine:=zaj (by have:=hR.wd;rw [List.length_singleton];omega)
theorem zp0 {a d:List Int}:InB [a,d].length (c%(2:Int)):=by
 unfold InB
 simp only [List.length_cons,List.length_nil]
 omega
theorem zo2 (hR:F3 w rows) (hG:g.length=w.toNat∧Lat.Bit 10 g) (e:bad=ixD [g++[c%(5:Int)],zbH g none (some (-(1:Int)))] (c%(2:Int))):bad.length≠w.toNat∧Lat.Bit 10 bad:=by
 have hw:=hR.wd
 have h2:c%2=0∨c%2=1:=by omega
 rcases h2 with q | q
 ·rw [q] at e
  have e:bad=g++[c%(5:Int)]:=e
  rw [e]
  refine ⟨by rw [List.length_append,List.length_singleton];omega,λy hy=>?_⟩
  rcases List.mem_append.mp hy with hy | hy
  ·exact hG.2 y hy
  ·rw [List.mem_singleton.mp hy]
   exact Nat.le_trans (show (c%5).natAbs≤5 by omega) (by decide)
 ·rw [q] at e
  have e:bad=zbH g none (some (-(1:Int))):=e
  rw [e]
  refine ⟨?_,λy hy=>hG.2 y (Lat.zkS hy)⟩
  unfold zbH
  rw [List.length_take,List.length_drop]
  have:HT.sIx g.length g.length (some (-(1:Int)))=((-(1:Int))+(g.length:Int)).toNat:=by
   show (if (-(1:Int))<0 then ((-(1:Int))+((g.length:Nat):Int)).toNat else min (-(1:Int)).toNat g.length)=_
   rw [if_pos (by decide)]
  rw [this]
  omega
theorem zoZ (hR:F3 w rows) (e:way=List.map (λ(_:List Int)=>(0:Int)) rows):way.length=rows.length∧Lat.Bit 5 way:=by
 refine ⟨by rw [e,List.length_map],λy hy=>?_⟩
 rw [e] at hy
 obtain ⟨_,_,rfl⟩:=List.mem_map.mp hy
 exact Nat.zero_le _
theorem zmO (hR:F3 w rows) (hW:way.length=rows.length∧Lat.Bit 5 way):way.length+[c].length≤PySem.sizeLine:=zaj (by have:=hR.wd;rw [List.length_singleton];omega)
theorem zjE {one oth u:List Int} (hR:F3 w rows) (hK:b=⟨w,rows⟩) (h1:Lat.Bit 10 one) (h2:Lat.Bit 10 oth) (hW:way.length=rows.length∧Lat.Bit 5 way) (hu:u=way∨u=way++[(1:Int)]∨u=way++[(0:Int)]):C7 b one oth u:=by
 subst hK
 have hb:Lat.Bit 10 way:=hW.2.mono (by decide)
 refine ⟨hR,h1,h2,?_⟩
 rcases hu with rfl | rfl | rfl
 ·exact hb
 ·intro y hy
  rcases List.mem_append.mp hy with hy | hy
  ·exact hb y hy
  ·rw [List.mem_singleton.mp hy];decide
 ·intro y hy
  rcases List.mem_append.mp hy with hy | hy
  ·exact hb y hy
  ·rw [List.mem_singleton.mp hy];decide
end
theorem loop_thru {γ:Type} {xs:List γ} {f:Unit->γ->Unit ⊕ Bool} {k:Unit->Bool} (h:∀ x∈xs,f () x=.inl ()):LetR (loopR f () xs) k (λb=>b)=k ():=by
 obtain ⟨u,e,_⟩:=Lat.zje (xs:=xs) (s:=()) (n:=0) (I:=λ_ (_:Unit)=>True) (f:=f) trivial λi x s hx _=>⟨(),h x (List.mem_of_getElem? hx),trivial⟩
 rw [e];rfl
def m_law (P0:(List Int)):Bool :=
 (Let (m_law_shape P0) (λ(v277:(List Int)) =>
 (Let (m_law_swaps P0 (3:Int) v277) (λ(v278:(List (List Int))) =>
 (Let (m_book_of (ixD v277 (0:Int)) (List.map (λ(x279:(List Int))=>x279) v278)) (λ(v282:BookD) =>
 (Let (m_law_numbers P0 (3:Int) (ixD v277 (0:Int)) (99:Int)) (λ(v283:(List Int)) =>
 (Let (ixD [(v283++[((m_law_cell P0 (2:Int))%(5:Int))]),(zbH v283 none (some (-(1:Int))))] ((m_law_cell P0 (2:Int))%(2:Int))) (λ(v284:(List Int)) =>
 (Let (List.map (λ(x285:(List Int))=>(0:Int)) v278) (λ(v288:(List Int)) =>
 (Let [v283,v284,v288] (λ(v289:(List (List Int))) =>
 (LetR (loopR (λ(s290:Unit) (x291:Int)=>(((bif (!decide ((m_law_flags x291 v282 v284 v283 (v288++[(1:Int)]))=[("basket":Str)])) then (Sum.inr false)
 else (bif ((decide ((0:Int)<x291))&&(decide (x291<(4:Int)))) then (bif (!decide ((m_law_flags x291 v282 v283 v284 v288)=[("basket":Str)])) then (Sum.inr false)
 else (bif (!decide ((m_law_flags x291 v282 v284 v284 v288)=[("basket":Str)])) then (Sum.inr false)
 else (bif (!decide ((m_law_flags x291 v282 v283 v283 v288)=[])) then (Sum.inr false)
 else (Sum.inl ()))))
 else (bif (!decide ((m_law_flags x291 v282 v283 v283 v288)=[])) then (Sum.inr false)
 else (Sum.inl ()))))):(Unit) ⊕ Bool)) () (rngZ 0 (6:Int).toNat)) (λ(r301:Unit) =>
 (bif (!decide ((m_law_flags (5:Int) v282 v283 v283 (v288++[(0:Int)]))=[("road":Str)])) then false
 else (decide ([v283,v284,v288]=v289)))) (λb=>b))))))))))))))))
def zil (P0:(List Int)):Prop:=P0.length≤63
def zmH (K:W.Frag) (A:Adr):Sp:=Spv (ι:=(List Int)) (λx=>[dQ K (List.map dI x)]) (λx=>zil x) (λx=>.va true (dB (m_law x)))
theorem ze6:FnScope ["_law_script","_law_shape_here","_law_swaps_here","_law_book","_law_good","_law_bad","_law_way","_law_kept","_law_which"] ["_law_script"] (zad zgv):=⟨rfl,rfl,rfl,by decide +kernel,rfl,by decide +kernel,by decide +kernel⟩
theorem zpX (F:Fun K "law" "law" zgv f fd) (T:Txt K mg A) (G_law_cell:Callee P w K mg base (CXE P w) 1 "_law_cell" ["_law_script","_law_k"] (zdl K A)) (G_law_flags:Callee P w K mg base (CXE P w) 11 "_law_flags" ["_law_which","_law_book","_law_one","_law_other","_law_way"] (zen K A)) (G_law_numbers:Callee P w K mg base (CXE P w) 1 "_law_numbers" ["_law_script","_law_at","_law_many","_law_size"] (zcK K A)) (G_law_shape:Callee P w K mg base (CXE P w) 2 "_law_shape" ["_law_script"] (zed K A)) (G_law_swaps:Callee P w K mg base (CXE P w) 2 "_law_swaps" ["_law_script","_law_at","_law_shape_here"] (zec K A)) (G_book_of:Callee P w K mg base (CXE P w) 3 "book_of" ["many","swaps"] (zfp K A)):FnOk P w K mg base (CXE P w) 12 f fd ["_law_script"] (zmH K A):=by
 refine F.okV ze6 (λ_=>rfl) (λcdv Ar outer s H E P0 hr hp=>?_)
 have hu:=hr.units
 replace hp:zil P0:=hp
 unfold zil at hp
 refine ⟨_,(zac (zap (i:=1) ze6.nd rfl (Or.inl rfl) (zaB G_law_shape (hr.mono (by decide)) rfl zaz (pa_cons (pv 0) pa_nil)))
 (zac (zap (i:=2) ze6.nd rfl (Or.inl rfl) (zaB G_law_swaps (hr.mono (by decide)) rfl zaz (pa_cons (pv 0) (pa_cons zag (pa_cons (pv 1) pa_nil)))))
 (zac (zap (i:=3) ze6.nd rfl (Or.inl rfl) (zaB G_book_of (hr.mono (by decide)) rfl zaz (pa_cons (zbS (zaF (K:=K) rfl) (pv 1) zag (λ_ _=>rfl)) (pa_cons (zb9 rfl (.of (osc:=(zad zgv)) (N:=["_law_script","_law_shape_here","_law_swaps_here","_law_book","_law_good","_law_bad","_law_way","_law_kept","_law_which"]) (own:=["_law_swap"]) (fvn:=[]) (fv:=[]) rfl rfl (by decide +kernel)) (zaN (K:=K) rfl (pv 2)) (λ_ _ _ _ _=>⟨(pg_name (i:=0) (show (["_law_swap"]:List Str).Nodup by decide +kernel) rfl (Or.inl rfl) (Or.inr rfl)),zbm,(zcn (zbv (K:=K) rfl) rfl T.list PyProof.Rows.boot_list (pa_cons (pv 0) pa_nil))⟩)) pa_nil))))
 (zac (zap (i:=4) ze6.nd rfl (Or.inl rfl) (zaB G_law_numbers (hr.mono (by decide)) rfl zaz (pa_cons (pv 0) (pa_cons zag (pa_cons (zbS (zaF (K:=K) rfl) (pv 1) zag (λ_ _=>rfl)) (pa_cons zag pa_nil))))))
 (zac (zap (i:=5) ze6.nd rfl (Or.inl rfl) (zbS (zaF (K:=K) rfl) (zaP (pa_cons (zau zcm (pv 4) (zaP (pa_cons (zau zbV (zaB G_law_cell (hr.mono (by decide)) rfl zaz (pa_cons (pv 0) (pa_cons zag pa_nil))) zag) pa_nil))) (pa_cons (zcj (zbI (K:=K) rfl) (pv 4) zdB (zcV (zie zgz zag))) pa_nil))) (zau zbV (zaB G_law_cell (hr.mono (by decide)) rfl zaz (pa_cons (pv 0) (pa_cons zag pa_nil))) zag) (λ_ _=>rfl)))
 (zac (zdV (i:=6) rfl ze6.nd rfl rfl (.of (osc:=(zad zgv)) (N:=["_law_script","_law_shape_here","_law_swaps_here","_law_book","_law_good","_law_bad","_law_way","_law_kept","_law_which"]) (own:=["_law_swap"]) (fvn:=[]) (fv:=[]) rfl rfl (by decide +kernel)) (zaN (K:=K) rfl (pv 2)) (λ_ _ _ _ _=>⟨(pg_name (i:=0) (show (["_law_swap"]:List Str).Nodup by decide +kernel) rfl (Or.inl rfl) (Or.inr rfl)),zbm,zag⟩))
 (zac (zap (i:=7) ze6.nd rfl (Or.inl rfl) (zaP (pa_cons (zcn (zbv (K:=K) rfl) rfl T.list PyProof.Rows.boot_list (pa_cons (pv 4) pa_nil)) (pa_cons (zcn (zbv (K:=K) rfl) rfl T.list PyProof.Rows.boot_list (pa_cons (pv 5) pa_nil)) (pa_cons (zcn (zbv (K:=K) rfl) rfl T.list PyProof.Rows.boot_list (pa_cons (pv 6) pa_nil)) pa_nil)))))
 (zac (zd3 PassesOwn.never rfl (zgt rfl T.range (pa_cons zag pa_nil)) (pg_name (i:=8) ze6.nd rfl (Or.inl rfl) (Or.inl rfl))
 (zac (zbW (zat (zge (K:=K) rfl hu) (zaB G_law_flags (hr.mono (by decide)) rfl zaz (pa_cons (pv 8) (pa_cons (pv 3) (pa_cons (pv 5) (pa_cons (pv 4) (pa_cons (zau zcm (pv 6) (zaP (pa_cons zag pa_nil))) pa_nil)))))) (zaP (pa_cons zbp pa_nil)) (zaD _))
 (zac (zaG zj0)
 zaf)
 zaf)
 (zac (zbW (PW.pt (zg1 (zat zgI (pv 8) zag (zaD _)) (zfE (zat zgs (pv 8) zag (zaD _)))))
 (zac (zbW (zat (zge (K:=K) rfl hu) (zaB G_law_flags (hr.mono (by decide)) rfl zaz (pa_cons (pv 8) (pa_cons (pv 3) (pa_cons (pv 4) (pa_cons (pv 5) (pa_cons (pv 6) pa_nil)))))) (zaP (pa_cons zbp pa_nil)) (zaD _))
 (zac (zaG zj0)
 zaf)
 zaf)
 (zac (zbW (zat (zge (K:=K) rfl hu) (zaB G_law_flags (hr.mono (by decide)) rfl zaz (pa_cons (pv 8) (pa_cons (pv 3) (pa_cons (pv 5) (pa_cons (pv 5) (pa_cons (pv 6) pa_nil)))))) (zaP (pa_cons zbp pa_nil)) (zaD _))
 (zac (zaG zj0)
 zaf)
 zaf)
 zaf))
 zaf)
 (zac (zbW (zat (zge (K:=K) rfl hu) (zaB G_law_flags (hr.mono (by decide)) rfl zaz (pa_cons (pv 8) (pa_cons (pv 3) (pa_cons (pv 4) (pa_cons (pv 4) (pa_cons (pv 6) pa_nil)))))) (zaP pa_nil) (zaD _))
 (zac (zaG zj0)
 zaf)
 zaf)
 zaf))))
 (zac (zbW (zat (zge (K:=K) rfl hu) (zaB G_law_flags (hr.mono (by decide)) rfl zaz (pa_cons zag (pa_cons (pv 3) (pa_cons (pv 4) (pa_cons (pv 4) (pa_cons (zau zcm (pv 6) (zaP (pa_cons zag pa_nil))) pa_nil)))))) (zaP (pa_cons zbp pa_nil)) (zaD _))
 (zac (zaG zj0)
 zaf)
 zaf)
 (zac (zaG (zn9 (zor (K:=K) rfl hu) (zaP (pa_cons (pv 4) (pa_cons (pv 5) (pa_cons (pv 6) pa_nil)))) (pv 7) (zaD _)))
 zaf)))))))))),.inl ?_⟩
 show L2.Run _ ([.va false (dQ K (List.map dI P0)),.no,.no,.no,.no,.no,.no,.no,.no]:L2.Ctx) _ ((λ(r:Bool)=>Oc.rt true (dB r)) (m_law P0))
 unfold m_law
 exact (zas (m:=true) (x:=(m_law_shape P0)) lI (λ(r:Bool)=>Oc.rt true (dB r)) (zao (x:=P0) (zaa (zab (i:=0) rfl) zae) rfl (by show zc6 P0;exact trivial) rfl) (λv277 hv277 =>
 have hS:=hv277;(zas (m:=true) (x:=(m_law_swaps P0 (3:Int) v277)) (λ(xs:(List (List Int)))=>dL (List.map lI xs)) (λ(r:Bool)=>Oc.rt true (dB r)) (EvO.ev (zaV (x:=(P0,(3:Int),v277)) (zaa (zab (i:=0) rfl) (zaa zay (zaa (Ev.old (Ev.weak (K:=K) (zab (i:=1) rfl))) zae))) rfl (by show zc4 P0 (3:Int) v277;exact zqT hS) rfl)) (λv278 hv278 =>
 have hR:=zpI hS hv278;(zas (m:=true) (x:=(m_book_of (ixD v277 (0:Int)) (List.map (λ(x279:(List Int))=>x279) v278))) (zaK A.Book) (λ(r:Bool)=>Oc.rt true (dB r)) (zao (x:=((ixD v277 (0:Int)),(List.map (λ(x279:(List Int))=>x279) v278))) (zaa (Ev.any (m:=true) (zbT (f:=dI) (xs:=v277) (Ev.weak (K:=K) (zab (i:=1) rfl)) zay (by exact zpZ hS))) (zaa (Ev.weak (K:=K) (EvO.ev (EvO.conv (zcd (g:=(λ(x279:(List Int))=>dL (List.map dI x279))) (zbx (m:=true) lI (xs:=v278) (Ev.weak (K:=K) (zab (i:=2) rfl))) (by exact hR.len) ⟨by decide,by decide⟩ (λi280 x279 hx281=>have v281:=List.mem_of_getElem? hx281;(EvO.ev (EvO.anyI (m:=true) (zd0 (Ev.weak (K:=K) (zab (i:=0) rfl))))))) (by first | (rw [List.map_map];rfl) | (simp only [cond_true,cond_false];rw [List.map_map];rfl))))) zae)) rfl (by show zdk (ixD v277 (0:Int)) (List.map (λ(x279:(List Int))=>x279) v278);exact hR.bk) rfl) (λv282 hv282 =>
 have hK:=zqw hR hv282;(zas (m:=true) (x:=(m_law_numbers P0 (3:Int) (ixD v277 (0:Int)) (99:Int))) lI (λ(r:Bool)=>Oc.rt true (dB r)) (EvO.ev (EvO.anyI (m:=true) (zaV (x:=(P0,(3:Int),(ixD v277 (0:Int)),(99:Int))) (zaa (zab (i:=0) rfl) (zaa zay (zaa (Ev.any (m:=true) (zbT (f:=dI) (xs:=v277) (Ev.weak (K:=K) (zab (i:=1) rfl)) zay (by exact zpZ hS))) (zaa zay zae)))) rfl (by show zba P0 (3:Int) (ixD v277 (0:Int)) (99:Int);exact zoY hR) rfl))) (λv283 hv283 =>
 have hG:=zp2 hR hv283;(zas (m:=true) (x:=(ixD [(v283++[((m_law_cell P0 (2:Int))%(5:Int))]),(zbH v283 none (some (-(1:Int))))] ((m_law_cell P0 (2:Int))%(2:Int)))) lI (λ(r:Bool)=>Oc.rt true (dB r)) (zbT (f:=lI) (xs:=[(v283++[((m_law_cell P0 (2:Int))%(5:Int))]),(zbH v283 none (some (-(1:Int))))]) (Ev.weak (K:=K) (EvO.ev (za4 (zaa (EvO.ev (EvO.anyI (m:=true) (zbz (f:=dI) (xs:=v283) (ys:=[((m_law_cell P0 (2:Int))%(5:Int))]) (zab (i:=4) rfl) (EvO.ev (za4 (zaa (zax (x:=(m_law_cell P0 (2:Int))) (y:=(5:Int)) (Ev.any (m:=true) (zao (x:=(P0,(2:Int))) (zaa (zab (i:=0) rfl) (zaa zay zae)) rfl (by show zaI P0 (2:Int);unfold zaI;decide) rfl)) zay (by decide)) zae) (by show 1≤sizeLine;decide))) (by exact zqd hR hG)))) (zaa (EvO.ev (EvO.anyI (m:=true) (zdi (f:=dI) (xs:=v283) (Ev.weak (K:=K) (zab (i:=4) rfl)) zcM (zbY (ziP (x:=(1:Int)) zay))))) zae)) (by show 2≤sizeLine;decide)))) (zax (x:=(m_law_cell P0 (2:Int))) (y:=(2:Int)) (Ev.any (m:=true) (zao (x:=(P0,(2:Int))) (zaa (zab (i:=0) rfl) (zaa zay zae)) rfl (by show zaI P0 (2:Int);unfold zaI;decide) rfl)) zay (by decide)) (by exact zp0)) (λv284 hv284 =>
 have hB:=zo2 hR hG hv284;(zas (m:=true) (x:=(List.map (λ(x285:(List Int))=>(0:Int)) v278)) lI (λ(r:Bool)=>Oc.rt true (dB r)) (EvO.ev (EvO.conv (zcd (g:=(λ(x285:(List Int))=>dI (0:Int))) (zbx (m:=true) lI (xs:=v278) (Ev.weak (K:=K) (zab (i:=2) rfl))) (by exact hR.len) ⟨by decide,by decide⟩ (λi286 x285 hx287=>have v287:=List.mem_of_getElem? hx287;zay)) (by first | (rw [List.map_map];rfl) | (simp only [cond_true,cond_false];rw [List.map_map];rfl)))) (λv288 hv288 =>
 have hW:=zoZ hR hv288;(zas (m:=true) (x:=[v283,v284,v288]) (λ(xs:(List (List Int)))=>dL (List.map lI xs)) (λ(r:Bool)=>Oc.rt true (dB r)) (EvO.ev (za4 (zaa (EvO.ev (EvO.anyI (m:=true) (zd0 (Ev.weak (K:=K) (zab (i:=4) rfl))))) (zaa (EvO.ev (EvO.anyI (m:=true) (zd0 (Ev.weak (K:=K) (zab (i:=5) rfl))))) (zaa (EvO.ev (EvO.anyI (m:=true) (zd0 (Ev.weak (K:=K) (zab (i:=6) rfl))))) zae))) (by show 3≤sizeLine;decide))) (λv289 hv289 =>
 have hT:=hv289;(zhx (s0:=()) (λ(s290:Unit)=>([.va false (dQ K (List.map dI P0)),.va true (dL (List.map dI v277)),.va true (dL (List.map lI v278)),.va true (zaK A.Book v282),.va true (dL (List.map dI v283)),.va true (dL (List.map dI v284)),.va true (dL (List.map dI v288)),.va true (dL (List.map lI v289)),.no]:L2.Ctx)) (λ(r:Bool)=>Oc.rt true (dB r)) (λb=>b) (λ(s290:Unit) (x291:Int)=>(((bif (!decide ((m_law_flags x291 v282 v284 v283 (v288++[(1:Int)]))=[("basket":Str)])) then (Sum.inr false)
 else (bif ((decide ((0:Int)<x291))&&(decide (x291<(4:Int)))) then (bif (!decide ((m_law_flags x291 v282 v283 v284 v288)=[("basket":Str)])) then (Sum.inr false)
 else (bif (!decide ((m_law_flags x291 v282 v284 v284 v288)=[("basket":Str)])) then (Sum.inr false)
 else (bif (!decide ((m_law_flags x291 v282 v283 v283 v288)=[])) then (Sum.inr false)
 else (Sum.inl ()))))
 else (bif (!decide ((m_law_flags x291 v282 v283 v283 v288)=[])) then (Sum.inr false)
 else (Sum.inl ()))))):(Unit) ⊕ Bool)) (λ_ _=>True) (λb=>.inl ⟨_,_,rfl⟩) (zis (m:=true) (n:=(6:Int)) zay (by decide)) (.eq (.eq (.eq (.eq (.eq (.eq (.eq (.eq (.eq .nil))))))))) trivial (λi292 x291 s290 hx293 hI294=>have v293:=zc2 hx293;⟨(λ_ _=>trivial),
 (zaH (b:=(!decide ((m_law_flags x291 v282 v284 v283 (v288++[(1:Int)]))=[("basket":Str)]))) (zfy (λ(s290:Unit)=>([.va false (dQ K (List.map dI P0)),.va true (dL (List.map dI v277)),.va true (dL (List.map lI v278)),.va true (zaK A.Book v282),.va true (dL (List.map dI v283)),.va true (dL (List.map dI v284)),.va true (dL (List.map dI v288)),.va true (dL (List.map lI v289)),.no]:L2.Ctx)) (λ(r:Bool)=>Oc.rt true (dB r))) (zam (zgF (n:=0) (neg:=true) (xs:=(m_law_flags x291 v282 v284 v283 (v288++[(1:Int)]))) (ys:=[("basket":Str)]) EqD.str (Ev.old (Ev.weak (K:=K) (zao (x:=(x291,v282,v284,v283,(v288++[(1:Int)]))) (zaa (Ev.any (m:=true) (zab (i:=8) rfl)) (zaa (Ev.old (zab (i:=3) rfl)) (zaa (Ev.old (zab (i:=5) rfl)) (zaa (Ev.old (zab (i:=4) rfl)) (zaa (EvO.ev (EvO.anyI (m:=true) (zbz (f:=dI) (xs:=v288) (ys:=[(1:Int)]) (zab (i:=6) rfl) (EvO.ev (za4 (zaa zay zae) (by show 1≤sizeLine;decide))) (by exact zmO hR hW)))) zae))))) rfl (by show za2 x291 v282 v284 v283 (v288++[(1:Int)]);exact zjE hR hK (by first | exact hG.2 | exact hB.2) (by first | exact hG.2 | exact hB.2) hW (by first | exact .inl rfl | exact .inr (.inl rfl) | exact .inr (.inr rfl))) rfl))) (Ev.weak (K:=K) (EvO.ev (za4 (zaa zay zae) (by show 1≤sizeLine;decide)))))) (λh295=>(zak (zai (zaw zay)))) (λh295 =>
 (zah (zaH (b:=((decide ((0:Int)<x291))&&(decide (x291<(4:Int))))) (zfy (λ(s290:Unit)=>([.va false (dQ K (List.map dI P0)),.va true (dL (List.map dI v277)),.va true (dL (List.map lI v278)),.va true (zaK A.Book v282),.va true (dL (List.map dI v283)),.va true (dL (List.map dI v284)),.va true (dL (List.map dI v288)),.va true (dL (List.map lI v289)),.no]:L2.Ctx)) (λ(r:Bool)=>Oc.rt true (dB r))) (zfn (b:=(decide ((0:Int)<x291))) (zam (zaL (x:=x291) (y:=(0:Int)) (Ev.any (m:=true) (zab (i:=8) rfl)) zay)) (λhb=>(zam (zaL (x:=x291) (y:=(4:Int)) (Ev.any (m:=true) (zab (i:=8) rfl)) zay)))) (λh296=>(zak (zaH (b:=(!decide ((m_law_flags x291 v282 v283 v284 v288)=[("basket":Str)]))) (zfy (λ(s290:Unit)=>([.va false (dQ K (List.map dI P0)),.va true (dL (List.map dI v277)),.va true (dL (List.map lI v278)),.va true (zaK A.Book v282),.va true (dL (List.map dI v283)),.va true (dL (List.map dI v284)),.va true (dL (List.map dI v288)),.va true (dL (List.map lI v289)),.no]:L2.Ctx)) (λ(r:Bool)=>Oc.rt true (dB r))) (zam (zgF (n:=0) (neg:=true) (xs:=(m_law_flags x291 v282 v283 v284 v288)) (ys:=[("basket":Str)]) EqD.str (Ev.old (Ev.weak (K:=K) (zao (x:=(x291,v282,v283,v284,v288)) (zaa (Ev.any (m:=true) (zab (i:=8) rfl)) (zaa (Ev.old (zab (i:=3) rfl)) (zaa (Ev.old (zab (i:=4) rfl)) (zaa (Ev.old (zab (i:=5) rfl)) (zaa (Ev.old (zab (i:=6) rfl)) zae))))) rfl (by show za2 x291 v282 v283 v284 v288;exact zjE hR hK (by first | exact hG.2 | exact hB.2) (by first | exact hG.2 | exact hB.2) hW (by first | exact .inl rfl | exact .inr (.inl rfl) | exact .inr (.inr rfl))) rfl))) (Ev.weak (K:=K) (EvO.ev (za4 (zaa zay zae) (by show 1≤sizeLine;decide)))))) (λh297=>(zak (zai (zaw zay)))) (λh297 =>
 (zah (zak (zaH (b:=(!decide ((m_law_flags x291 v282 v284 v284 v288)=[("basket":Str)]))) (zfy (λ(s290:Unit)=>([.va false (dQ K (List.map dI P0)),.va true (dL (List.map dI v277)),.va true (dL (List.map lI v278)),.va true (zaK A.Book v282),.va true (dL (List.map dI v283)),.va true (dL (List.map dI v284)),.va true (dL (List.map dI v288)),.va true (dL (List.map lI v289)),.no]:L2.Ctx)) (λ(r:Bool)=>Oc.rt true (dB r))) (zam (zgF (n:=0) (neg:=true) (xs:=(m_law_flags x291 v282 v284 v284 v288)) (ys:=[("basket":Str)]) EqD.str (Ev.old (Ev.weak (K:=K) (zao (x:=(x291,v282,v284,v284,v288)) (zaa (Ev.any (m:=true) (zab (i:=8) rfl)) (zaa (Ev.old (zab (i:=3) rfl)) (zaa (Ev.old (zab (i:=5) rfl)) (zaa (Ev.old (zab (i:=5) rfl)) (zaa (Ev.old (zab (i:=6) rfl)) zae))))) rfl (by show za2 x291 v282 v284 v284 v288;exact zjE hR hK (by first | exact hG.2 | exact hB.2) (by first | exact hG.2 | exact hB.2) hW (by first | exact .inl rfl | exact .inr (.inl rfl) | exact .inr (.inr rfl))) rfl))) (Ev.weak (K:=K) (EvO.ev (za4 (zaa zay zae) (by show 1≤sizeLine;decide)))))) (λh298=>(zak (zai (zaw zay)))) (λh298 =>
 (zah (zah (zaH (b:=(!decide ((m_law_flags x291 v282 v283 v283 v288)=[]))) (zfy (λ(s290:Unit)=>([.va false (dQ K (List.map dI P0)),.va true (dL (List.map dI v277)),.va true (dL (List.map lI v278)),.va true (zaK A.Book v282),.va true (dL (List.map dI v283)),.va true (dL (List.map dI v284)),.va true (dL (List.map dI v288)),.va true (dL (List.map lI v289)),.no]:L2.Ctx)) (λ(r:Bool)=>Oc.rt true (dB r))) (zam (zgF (n:=0) (neg:=true) (xs:=(m_law_flags x291 v282 v283 v283 v288)) (ys:=[]) EqD.str (Ev.old (Ev.weak (K:=K) (zao (x:=(x291,v282,v283,v283,v288)) (zaa (Ev.any (m:=true) (zab (i:=8) rfl)) (zaa (Ev.old (zab (i:=3) rfl)) (zaa (Ev.old (zab (i:=4) rfl)) (zaa (Ev.old (zab (i:=4) rfl)) (zaa (Ev.old (zab (i:=6) rfl)) zae))))) rfl (by show za2 x291 v282 v283 v283 v288;exact zjE hR hK (by first | exact hG.2 | exact hB.2) (by first | exact hG.2 | exact hB.2) hW (by first | exact .inl rfl | exact .inr (.inl rfl) | exact .inr (.inr rfl))) rfl))) (Ev.old (Ev.weak (K:=K) (EvO.ev (zcR (m:=true) zae)))))) (λh299=>(zak (zai (zaw zay)))) (λh299 =>
 (zah (zal (.eq (.eq (.eq (.eq (.eq (.eq (.eq (.eq (.no .nil))))))))))))))))))))))) (λh296 =>
 (zah (zaH (b:=(!decide ((m_law_flags x291 v282 v283 v283 v288)=[]))) (zfy (λ(s290:Unit)=>([.va false (dQ K (List.map dI P0)),.va true (dL (List.map dI v277)),.va true (dL (List.map lI v278)),.va true (zaK A.Book v282),.va true (dL (List.map dI v283)),.va true (dL (List.map dI v284)),.va true (dL (List.map dI v288)),.va true (dL (List.map lI v289)),.no]:L2.Ctx)) (λ(r:Bool)=>Oc.rt true (dB r))) (zam (zgF (n:=0) (neg:=true) (xs:=(m_law_flags x291 v282 v283 v283 v288)) (ys:=[]) EqD.str (Ev.old (Ev.weak (K:=K) (zao (x:=(x291,v282,v283,v283,v288)) (zaa (Ev.any (m:=true) (zab (i:=8) rfl)) (zaa (Ev.old (zab (i:=3) rfl)) (zaa (Ev.old (zab (i:=4) rfl)) (zaa (Ev.old (zab (i:=4) rfl)) (zaa (Ev.old (zab (i:=6) rfl)) zae))))) rfl (by show za2 x291 v282 v283 v283 v288;exact zjE hR hK (by first | exact hG.2 | exact hB.2) (by first | exact hG.2 | exact hB.2) hW (by first | exact .inl rfl | exact .inr (.inl rfl) | exact .inr (.inr rfl))) rfl))) (Ev.old (Ev.weak (K:=K) (EvO.ev (zcR (m:=true) zae)))))) (λh300=>(zak (zai (zaw zay)))) (λh300 =>
 (zah (zal (.eq (.eq (.eq (.eq (.eq (.eq (.eq (.eq (.no .nil)))))))))))))))))))⟩) (λr301 hr301 hI =>
 (zaH (b:=(!decide ((m_law_flags (5:Int) v282 v283 v283 (v288++[(0:Int)]))=[("road":Str)]))) (λ(r:Bool)=>Oc.rt true (dB r)) (zam (zgF (n:=0) (neg:=true) (xs:=(m_law_flags (5:Int) v282 v283 v283 (v288++[(0:Int)]))) (ys:=[("road":Str)]) EqD.str (Ev.old (Ev.weak (K:=K) (zao (x:=((5:Int),v282,v283,v283,(v288++[(0:Int)]))) (zaa zay (zaa (Ev.old (zab (i:=3) rfl)) (zaa (Ev.old (zab (i:=4) rfl)) (zaa (Ev.old (zab (i:=4) rfl)) (zaa (EvO.ev (EvO.anyI (m:=true) (zbz (f:=dI) (xs:=v288) (ys:=[(0:Int)]) (zab (i:=6) rfl) (EvO.ev (za4 (zaa zay zae) (by show 1≤sizeLine;decide))) (by exact zmO hR hW)))) zae))))) rfl (by show za2 (5:Int) v282 v283 v283 (v288++[(0:Int)]);exact zjE hR hK (by first | exact hG.2 | exact hB.2) (by first | exact hG.2 | exact hB.2) hW (by first | exact .inl rfl | exact .inr (.inl rfl) | exact .inr (.inr rfl))) rfl))) (Ev.weak (K:=K) (EvO.ev (za4 (zaa zay zae) (by show 1≤sizeLine;decide)))))) (λh302=>(zak (zai (zaw zay)))) (λh302 =>
 (zah (zai (zaw (zgF (n:=1) (neg:=false) (xs:=[v283,v284,v288]) (ys:=v289) (EqD.list EqD.int) (Ev.old (Ev.weak (K:=K) (EvO.ev (za4 (zaa (zab (i:=4) rfl) (zaa (zab (i:=5) rfl) (zaa (zab (i:=6) rfl) zae))) (by show 3≤sizeLine;decide))))) (Ev.old (Ev.weak (K:=K) (zab (i:=7) rfl)))))))))))))))))))))))))
theorem zgp {α β:Type} (x:α) (f:α->β):Let x f=f x:=rfl
theorem zmp (xs:List Int) (hp:xs.length≤63):m_law xs=true:=by
 unfold m_law
 rw [zgp,zgp]
 have hR:=zpI (xs:=xs) (sh:=m_law_shape xs) rfl rfl
 generalize ixD (m_law_shape xs) (0:Int)=w at *
 generalize m_law_swaps xs 3 (m_law_shape xs)=rows at *
 rw [zgp,zhw,znd,zgp]
 have hG:=zp2 (xs:=xs) hR rfl
 generalize m_law_numbers xs 3 w 99=g at *
 rw [zgp]
 have hB:=zo2 (c:=m_law_cell xs 2) hR hG rfl
 generalize ixD [g++[m_law_cell xs 2%(5:Int)],zbH g none (some (-(1:Int)))] (m_law_cell xs 2%(2:Int))=bad at *
 rw [zgp]
 have hW:=zoZ hR rfl
 generalize List.map (λ(_:List Int)=>(0:Int)) rows=way at *
 rw [zgp]
 have hw:=hR.wd
 have g1:(g.length:Int)=(⟨w,rows⟩:BookD).many:=by show (g.length:Int)=w;omega
 have b1:(bad.length:Int)≠(⟨w,rows⟩:BookD).many:=by show (bad.length:Int)≠w;omega
 have w1:way.length=(⟨w,rows⟩:BookD).swaps.length:=hW.1
 rw [loop_thru λk hk=>?_]
 ·rw [zfh,zj8 g1 (by rw [List.length_append];show way.length+1≠rows.length;omega),zlY]
  simp
 ·rw [zfh,zfh,zfh,zfh,ziR b1,ziR b1,zoH g1 g1 w1,called_b,zlO]
  by_cases q:0<k∧k<4
  ·rw [zmc g1 b1 q.1 q.2,called_b]
   simp
  ·have e:(decide ((0:Int)<k)&&decide (k<(4:Int)))=false:=by
    by_cases z:0<k
    ·rw [decide_eq_false (show ¬ k<4 by omega),Bool.and_false]
    ·rw [decide_eq_false z,Bool.false_and]
   rw [e]
   simp
def zmu (K:W.Frag):Sp:=λvs H Q _=>∃ (a:Addr) (ns:List Int),vs=[.ref a]∧SqL K H a (ns.map V.int)∧ns.length≤63∧∀ H',Q (.bl true) H'
theorem zqa {K:W.Frag} {A:Adr} {vs:List V} {H:Hp} {Q:VK} {E:XK} (h:zmu K vs H Q E):zmH K A vs H Q E:=by
 obtain ⟨a,ns,rfl,hS,hl,q⟩:=h
 refine ⟨ns,H,Same.refl _,.cons ⟨a,_,rfl,hS,?_⟩ .nil,hl,λv F' H' _ hv=>?_⟩
 ·clear hS hl
  induction ns with
  | nil=>exact .nil
  | cons n ns ih=>exact .cons rfl ih
 ·have hv:v=.bl (m_law ns):=hv
  rw [hv,zmp ns hl]
  exact q _
theorem all_mk {l:W.OpenLaw} {w:World} {K:W.Frag} {h:Heap} {mg:Str->Option Value} {fa f0 f1 f2 f3 f4 f5 f6 f7 f8 f9 f10 f11 f12 f13 f14 f15 f16 f17 f18 f19 f20 f21 f22 f23 f24 f25 f26 f27 f28 f29 f30 f31 f32 f33 f34 f35 f36 f37 f38 f39 f40 f41 f42 f43 f44 f45 C_Stairs C_Book C_Scale C_Line C_Rest K_BadBasket K_BadBaskets K_BadNames K_BadRest K_BadRoad K_BadScale K_BadSwap K_BadWares K_Endless K_NoBook K_NoLine K_NoName K_NoSwap K_NotAlike K_NotKept K_OtherBook K_OtherWares K_SwapError K_TooGreat K_TooMany:Addr} (X:K.In h) (G:h.Ns mainGlobals mg) (hfa:mg "law"=some (.ref fa))
  {od0 an0 od1 an1 od2 an2 od3 an3 od4 an4 od5 an5 od6 an6 od7 an7 od8 an8 od9 an9 od10 an10 od11 an11 od12 an12 od13 an13 od14 an14 od15 an15 od16 an16 od17 an17 od18 an18 od19 an19 od20 an20 od21 an21 od22 an22 od23 an23 od24 an24 od25 an25 od26 an26 od27 an27 od28 an28 od29 an29 od30 an30 od31 an31 od32 an32 od33 an33 od34 an34 od35 an35 od36 an36 od37 an37 od38 an38 od39 an39 od40 an40 od41 an41 od42 an42 od43 an43 od44 an44 od45 an45:Option Addr} {sl0 sl1 sl2 sl3 sl4 sl5 sl6 sl7 sl8 sl9 sl10 sl11 sl12 sl13 sl14 sl15 sl16 sl17 sl18 sl19 sl20 sl21 sl22 sl23 sl24 sl25 sl26 sl27 sl28 sl29 sl30 sl31 sl32 sl33 sl34 sl35 sl36 sl37 sl38 sl39 sl40 sl41 sl42 sl43 sl44 sl45:Array (Option Value)} {oc0 kV0 dc0 pm0 cd0 ct0 oc1 kV1 dc1 pm1 cd1 ct1 oc2 kV2 dc2 pm2 cd2 ct2 oc3 kV3 dc3 pm3 cd3 ct3 oc4 kV4 dc4 pm4 cd4 ct4 oc5 kV5 dc5 pm5 cd5 ct5 oc6 kV6 dc6 pm6 cd6 ct6 oc7 kV7 dc7 pm7 cd7 ct7 oc8 kV8 dc8 pm8 cd8 ct8 oc9 kV9 dc9 pm9 cd9 ct9 oc10 kV10 dc10 pm10 cd10 ct10 oc11 kV11 dc11 pm11 cd11 ct11 oc12 kV12 dc12 pm12 cd12 ct12 oc13 kV13 dc13 pm13 cd13 ct13 oc14 kV14 dc14 pm14 cd14 ct14 oc15 kV15 dc15 pm15 cd15 ct15 oc16 kV16 dc16 pm16 cd16 ct16 oc17 kV17 dc17 pm17 cd17 ct17 oc18 kV18 dc18 pm18 cd18 ct18 oc19 kV19 dc19 pm19 cd19 ct19 oc20 kV20 dc20 pm20 cd20 ct20 oc21 kV21 dc21 pm21 cd21 ct21 oc22 kV22 dc22 pm22 cd22 ct22 oc23 kV23 dc23 pm23 cd23 ct23 oc24 kV24 dc24 pm24 cd24 ct24 oc25 kV25 dc25 pm25 cd25 ct25 oc26 kV26 dc26 pm26 cd26 ct26 oc27 kV27 dc27 pm27 cd27 ct27 oc28 kV28 dc28 pm28 cd28 ct28 oc29 kV29 dc29 pm29 cd29 ct29 oc30 kV30 dc30 pm30 cd30 ct30 oc31 kV31 dc31 pm31 cd31 ct31 oc32 kV32 dc32 pm32 cd32 ct32 oc33 kV33 dc33 pm33 cd33 ct33 oc34 kV34 dc34 pm34 cd34 ct34 oc35 kV35 dc35 pm35 cd35 ct35 oc36 kV36 dc36 pm36 cd36 ct36 oc37 kV37 dc37 pm37 cd37 ct37 oc38 kV38 dc38 pm38 cd38 ct38 oc39 kV39 dc39 pm39 cd39 ct39 oc40 kV40 dc40 pm40 cd40 ct40 oc41 kV41 dc41 pm41 cd41 ct41 oc42 kV42 dc42 pm42 cd42 ct42 oc43 kV43 dc43 pm43 cd43 ct43 oc44 kV44 dc44 pm44 cd44 ct44 oc45 kV45 dc45 pm45 cd45 ct45:Value} {t_MOST_WARES t_MOST_SWAPS:Tok}
  (aC_Stairs:W.nsIn K mainGlobals "Stairs"=some (some (.ref C_Stairs)))
  (aC_Book:W.nsIn K mainGlobals "Book"=some (some (.ref C_Book)))
  (aC_Scale:W.nsIn K mainGlobals "Scale"=some (some (.ref C_Scale)))
  (aC_Line:W.nsIn K mainGlobals "Line"=some (some (.ref C_Line)))
  (aC_Rest:W.nsIn K mainGlobals "Rest"=some (some (.ref C_Rest)))
  (a0:W.nsIn K mainGlobals "refuse_unlike"=some (some (.ref f0)))
  (l0:K.lookup f0=some ⟨oc0,od0,.func (W.fnOf "refuse_unlike" "refuse_unlike" (zav zbl) (zar zbl) (zad zbl) .none kV0 dc0 pm0 an0 cd0 ct0),sl0⟩)
  (c0:W.codeIn K cd0 "refuse_unlike"=true)
  (k0:W.keepIn K (.ref f0)=true)
  (a1:W.nsIn K mainGlobals "plus"=some (some (.ref f1)))
  (l1:K.lookup f1=some ⟨oc1,od1,.func (W.fnOf "plus" "plus" (zav zgn) (zar zgn) (zad zgn) .none kV1 dc1 pm1 an1 cd1 ct1),sl1⟩)
  (c1:W.codeIn K cd1 "plus"=true)
  (k1:W.keepIn K (.ref f1)=true)
  (a2:W.nsIn K mainGlobals "less"=some (some (.ref f2)))
  (l2:K.lookup f2=some ⟨oc2,od2,.func (W.fnOf "less" "less" (zav zgD) (zar zgD) (zad zgD) .none kV2 dc2 pm2 an2 cd2 ct2),sl2⟩)
  (c2:W.codeIn K cd2 "less"=true)
  (k2:W.keepIn K (.ref f2)=true)
  (a3:W.nsIn K mainGlobals "times"=some (some (.ref f3)))
  (l3:K.lookup f3=some ⟨oc3,od3,.func (W.fnOf "times" "times" (zav zeL) (zar zeL) (zad zeL) .none kV3 dc3 pm3 an3 cd3 ct3),sl3⟩)
  (c3:W.codeIn K cd3 "times"=true)
  (k3:W.keepIn K (.ref f3)=true)
  (a4:W.nsIn K mainGlobals "weighed"=some (some (.ref f4)))
  (l4:K.lookup f4=some ⟨oc4,od4,.func (W.fnOf "weighed" "weighed" (zav zdo) (zar zdo) (zad zdo) .none kV4 dc4 pm4 an4 cd4 ct4),sl4⟩)
  (c4:W.codeIn K cd4 "weighed"=true)
  (k4:W.keepIn K (.ref f4)=true)
  (a5:W.nsIn K mainGlobals "head_of"=some (some (.ref f5)))
  (l5:K.lookup f5=some ⟨oc5,od5,.func (W.fnOf "head_of" "head_of" (zav zdJ) (zar zdJ) (zad zdJ) .none kV5 dc5 pm5 an5 cd5 ct5),sl5⟩)
  (c5:W.codeIn K cd5 "head_of"=true)
  (k5:W.keepIn K (.ref f5)=true)
  (a6:W.nsIn K mainGlobals "common"=some (some (.ref f6)))
  (l6:K.lookup f6=some ⟨oc6,od6,.func (W.fnOf "common" "common" (zav zer) (zar zer) (zad zer) .none kV6 dc6 pm6 an6 cd6 ct6),sl6⟩)
  (c6:W.codeIn K cd6 "common"=true)
  (k6:W.keepIn K (.ref f6)=true)
  (a7:W.nsIn K mainGlobals "upright"=some (some (.ref f7)))
  (l7:K.lookup f7=some ⟨oc7,od7,.func (W.fnOf "upright" "upright" (zav zdK) (zar zdK) (zad zdK) .none kV7 dc7 pm7 an7 cd7 ct7),sl7⟩)
  (c7:W.codeIn K cd7 "upright"=true)
  (k7:W.keepIn K (.ref f7)=true)
  (a8:W.nsIn K mainGlobals "lowered"=some (some (.ref f8)))
  (l8:K.lookup f8=some ⟨oc8,od8,.func (W.fnOf "lowered" "lowered" (zav zdN) (zar zdN) (zad zdN) .none kV8 dc8 pm8 an8 cd8 ct8),sl8⟩)
  (c8:W.codeIn K cd8 "lowered"=true)
  (k8:W.keepIn K (.ref f8)=true)
  (a9:W.nsIn K mainGlobals "merged"=some (some (.ref f9)))
  (l9:K.lookup f9=some ⟨oc9,od9,.func (W.fnOf "merged" "merged" (zav zev) (zar zev) (zad zev) .none kV9 dc9 pm9 an9 cd9 ct9),sl9⟩)
  (c9:W.codeIn K cd9 "merged"=true)
  (k9:W.keepIn K (.ref f9)=true)
  (a10:W.nsIn K mainGlobals "taken_in"=some (some (.ref f10)))
  (l10:K.lookup f10=some ⟨oc10,od10,.func (W.fnOf "taken_in" "taken_in" (zav zda) (zar zda) (zad zda) .none kV10 dc10 pm10 an10 cd10 ct10),sl10⟩)
  (c10:W.codeIn K cd10 "taken_in"=true)
  (k10:W.keepIn K (.ref f10)=true)
  (a11:W.nsIn K mainGlobals "settled"=some (some (.ref f11)))
  (l11:K.lookup f11=some ⟨oc11,od11,.func (W.fnOf "settled" "settled" (zav zdF) (zar zdF) (zad zdF) .none kV11 dc11 pm11 an11 cd11 ct11),sl11⟩)
  (c11:W.codeIn K cd11 "settled"=true)
  (k11:W.keepIn K (.ref f11)=true)
  (a12:W.nsIn K mainGlobals "climbed"=some (some (.ref f12)))
  (l12:K.lookup f12=some ⟨oc12,od12,.func (W.fnOf "climbed" "climbed" (zav zdE) (zar zdE) (zad zdE) .none kV12 dc12 pm12 an12 cd12 ct12),sl12⟩)
  (c12:W.codeIn K cd12 "climbed"=true)
  (k12:W.keepIn K (.ref f12)=true)
  (a13:W.nsIn K mainGlobals "marked"=some (some (.ref f13)))
  (l13:K.lookup f13=some ⟨oc13,od13,.func (W.fnOf "marked" "marked" (zav zeH) (zar zeH) (zad zeH) .none kV13 dc13 pm13 an13 cd13 ct13),sl13⟩)
  (c13:W.codeIn K cd13 "marked"=true)
  (k13:W.keepIn K (.ref f13)=true)
  (a14:W.nsIn K mainGlobals "traced"=some (some (.ref f14)))
  (l14:K.lookup f14=some ⟨oc14,od14,.func (W.fnOf "traced" "traced" (zav zeF) (zar zeF) (zad zeF) .none kV14 dc14 pm14 an14 cd14 ct14),sl14⟩)
  (c14:W.codeIn K cd14 "traced"=true)
  (k14:W.keepIn K (.ref f14)=true)
  (a15:W.nsIn K mainGlobals "tails"=some (some (.ref f15)))
  (l15:K.lookup f15=some ⟨oc15,od15,.func (W.fnOf "tails" "tails" (zav zeQ) (zar zeQ) (zad zeQ) .none kV15 dc15 pm15 an15 cd15 ct15),sl15⟩)
  (c15:W.codeIn K cd15 "tails"=true)
  (k15:W.keepIn K (.ref f15)=true)
  (a16:W.nsIn K mainGlobals "counted"=some (some (.ref f16)))
  (l16:K.lookup f16=some ⟨oc16,od16,.func (W.fnOf "counted" "counted" (zav zdL) (zar zdL) (zad zdL) .none kV16 dc16 pm16 an16 cd16 ct16),sl16⟩)
  (c16:W.codeIn K cd16 "counted"=true)
  (k16:W.keepIn K (.ref f16)=true)
  (a17:W.nsIn K mainGlobals "stairs"=some (some (.ref f17)))
  (l17:K.lookup f17=some ⟨oc17,od17,.func (W.fnOf "stairs" "stairs" (zav zcJ) (zar zcJ) (zad zcJ) .none kV17 dc17 pm17 an17 cd17 ct17),sl17⟩)
  (c17:W.codeIn K cd17 "stairs"=true)
  (k17:W.keepIn K (.ref f17)=true)
  (a18:W.nsIn K mainGlobals "book_of"=some (some (.ref f18)))
  (l18:K.lookup f18=some ⟨oc18,od18,.func (W.fnOf "book_of" "book_of" (zav zdC) (zar zdC) (zad zdC) .none kV18 dc18 pm18 an18 cd18 ct18),sl18⟩)
  (c18:W.codeIn K cd18 "book_of"=true)
  (k18:W.keepIn K (.ref f18)=true)
  (a19:W.nsIn K mainGlobals "refuse_bad_basket"=some (some (.ref f19)))
  (l19:K.lookup f19=some ⟨oc19,od19,.func (W.fnOf "refuse_bad_basket" "refuse_bad_basket" (zav zaR) (zar zaR) (zad zaR) .none kV19 dc19 pm19 an19 cd19 ct19),sl19⟩)
  (c19:W.codeIn K cd19 "refuse_bad_basket"=true)
  (k19:W.keepIn K (.ref f19)=true)
  (a20:W.nsIn K mainGlobals "refuse_bad_road"=some (some (.ref f20)))
  (l20:K.lookup f20=some ⟨oc20,od20,.func (W.fnOf "refuse_bad_road" "refuse_bad_road" (zav zaS) (zar zaS) (zad zaS) .none kV20 dc20 pm20 an20 cd20 ct20),sl20⟩)
  (c20:W.codeIn K cd20 "refuse_bad_road"=true)
  (k20:W.keepIn K (.ref f20)=true)
  (a21:W.nsIn K mainGlobals "led"=some (some (.ref f21)))
  (l21:K.lookup f21=some ⟨oc21,od21,.func (W.fnOf "led" "led" (zav zjy) (zar zjy) (zad zjy) .none kV21 dc21 pm21 an21 cd21 ct21),sl21⟩)
  (c21:W.codeIn K cd21 "led"=true)
  (k21:W.keepIn K (.ref f21)=true)
  (a22:W.nsIn K mainGlobals "home"=some (some (.ref f22)))
  (l22:K.lookup f22=some ⟨oc22,od22,.func (W.fnOf "home" "home" (zav zgQ) (zar zgQ) (zad zgQ) .none kV22 dc22 pm22 an22 cd22 ct22),sl22⟩)
  (c22:W.codeIn K cd22 "home"=true)
  (k22:W.keepIn K (.ref f22)=true)
  (a23:W.nsIn K mainGlobals "way_to"=some (some (.ref f23)))
  (l23:K.lookup f23=some ⟨oc23,od23,.func (W.fnOf "way_to" "way_to" (zav zew) (zar zew) (zad zew) .none kV23 dc23 pm23 an23 cd23 ct23),sl23⟩)
  (c23:W.codeIn K cd23 "way_to"=true)
  (k23:W.keepIn K (.ref f23)=true)
  (a24:W.nsIn K mainGlobals "road"=some (some (.ref f24)))
  (l24:K.lookup f24=some ⟨oc24,od24,.func (W.fnOf "road" "road" (zav zgY) (zar zgY) (zad zgY) .none kV24 dc24 pm24 an24 cd24 ct24),sl24⟩)
  (c24:W.codeIn K cd24 "road"=true)
  (k24:W.keepIn K (.ref f24)=true)
  (a25:W.nsIn K mainGlobals "rounds"=some (some (.ref f25)))
  (l25:K.lookup f25=some ⟨oc25,od25,.func (W.fnOf "rounds" "rounds" (zav zes) (zar zes) (zad zes) .none kV25 dc25 pm25 an25 cd25 ct25),sl25⟩)
  (c25:W.codeIn K cd25 "rounds"=true)
  (k25:W.keepIn K (.ref f25)=true)
  (a26:W.nsIn K mainGlobals "plain"=some (some (.ref f26)))
  (l26:K.lookup f26=some ⟨oc26,od26,.func (W.fnOf "plain" "plain" (zav zfG) (zar zfG) (zad zfG) .none kV26 dc26 pm26 an26 cd26 ct26),sl26⟩)
  (c26:W.codeIn K cd26 "plain"=true)
  (k26:W.keepIn K (.ref f26)=true)
  (a27:W.nsIn K mainGlobals "plain_road"=some (some (.ref f27)))
  (l27:K.lookup f27=some ⟨oc27,od27,.func (W.fnOf "plain_road" "plain_road" (zav zcc) (zar zcc) (zad zcc) .none kV27 dc27 pm27 an27 cd27 ct27),sl27⟩)
  (c27:W.codeIn K cd27 "plain_road"=true)
  (k27:W.keepIn K (.ref f27)=true)
  (a28:W.nsIn K mainGlobals "levelled"=some (some (.ref f28)))
  (l28:K.lookup f28=some ⟨oc28,od28,.func (W.fnOf "levelled" "levelled" (zav zdb) (zar zdb) (zad zdb) .none kV28 dc28 pm28 an28 cd28 ct28),sl28⟩)
  (c28:W.codeIn K cd28 "levelled"=true)
  (k28:W.keepIn K (.ref f28)=true)
  (a29:W.nsIn K mainGlobals "divisor"=some (some (.ref f29)))
  (l29:K.lookup f29=some ⟨oc29,od29,.func (W.fnOf "divisor" "divisor" (zav zdO) (zar zdO) (zad zdO) .none kV29 dc29 pm29 an29 cd29 ct29),sl29⟩)
  (c29:W.codeIn K cd29 "divisor"=true)
  (k29:W.keepIn K (.ref f29)=true)
  (a30:W.nsIn K mainGlobals "shortened"=some (some (.ref f30)))
  (l30:K.lookup f30=some ⟨oc30,od30,.func (W.fnOf "shortened" "shortened" (zav zca) (zar zca) (zad zca) .none kV30 dc30 pm30 an30 cd30 ct30),sl30⟩)
  (c30:W.codeIn K cd30 "shortened"=true)
  (k30:W.keepIn K (.ref f30)=true)
  (a31:W.nsIn K mainGlobals "shown"=some (some (.ref f31)))
  (l31:K.lookup f31=some ⟨oc31,od31,.func (W.fnOf "shown" "shown" (zav zek) (zar zek) (zad zek) .none kV31 dc31 pm31 an31 cd31 ct31),sl31⟩)
  (c31:W.codeIn K cd31 "shown"=true)
  (k31:W.keepIn K (.ref f31)=true)
  (a32:W.nsIn K mainGlobals "parting"=some (some (.ref f32)))
  (l32:K.lookup f32=some ⟨oc32,od32,.func (W.fnOf "parting" "parting" (zav zdM) (zar zdM) (zad zdM) .none kV32 dc32 pm32 an32 cd32 ct32),sl32⟩)
  (c32:W.codeIn K cd32 "parting"=true)
  (k32:W.keepIn K (.ref f32)=true)
  (a33:W.nsIn K mainGlobals "turn_of"=some (some (.ref f33)))
  (l33:K.lookup f33=some ⟨oc33,od33,.func (W.fnOf "turn_of" "turn_of" (zav zdH) (zar zdH) (zad zdH) .none kV33 dc33 pm33 an33 cd33 ct33),sl33⟩)
  (c33:W.codeIn K cd33 "turn_of"=true)
  (k33:W.keepIn K (.ref f33)=true)
  (a34:W.nsIn K mainGlobals "_law_cell"=some (some (.ref f34)))
  (l34:K.lookup f34=some ⟨oc34,od34,.func (W.fnOf "_law_cell" "_law_cell" (zav zdd) (zar zdd) (zad zdd) .none kV34 dc34 pm34 an34 cd34 ct34),sl34⟩)
  (c34:W.codeIn K cd34 "_law_cell"=true)
  (k34:W.keepIn K (.ref f34)=true)
  (a35:W.nsIn K mainGlobals "_law_numbers"=some (some (.ref f35)))
  (l35:K.lookup f35=some ⟨oc35,od35,.func (W.fnOf "_law_numbers" "_law_numbers" (zav zbR) (zar zbR) (zad zbR) .none kV35 dc35 pm35 an35 cd35 ct35),sl35⟩)
  (c35:W.codeIn K cd35 "_law_numbers"=true)
  (k35:W.keepIn K (.ref f35)=true)
  (a36:W.nsIn K mainGlobals "_law_shape"=some (some (.ref f36)))
  (l36:K.lookup f36=some ⟨oc36,od36,.func (W.fnOf "_law_shape" "_law_shape" (zav zcI) (zar zcI) (zad zcI) .none kV36 dc36 pm36 an36 cd36 ct36),sl36⟩)
  (c36:W.codeIn K cd36 "_law_shape"=true)
  (k36:W.keepIn K (.ref f36)=true)
  (a37:W.nsIn K mainGlobals "_law_swaps"=some (some (.ref f37)))
  (l37:K.lookup f37=some ⟨oc37,od37,.func (W.fnOf "_law_swaps" "_law_swaps" (zav zaX) (zar zaX) (zad zaX) .none kV37 dc37 pm37 an37 cd37 ct37),sl37⟩)
  (c37:W.codeIn K cd37 "_law_swaps"=true)
  (k37:W.keepIn K (.ref f37)=true)
  (a38:W.nsIn K mainGlobals "_law_called"=some (some (.ref f38)))
  (l38:K.lookup f38=some ⟨oc38,od38,.func (W.fnOf "_law_called" "_law_called" (zav zbJ) (zar zbJ) (zad zbJ) .none kV38 dc38 pm38 an38 cd38 ct38),sl38⟩)
  (c38:W.codeIn K cd38 "_law_called"=true)
  (k38:W.keepIn K (.ref f38)=true)
  (a39:W.nsIn K mainGlobals "_law_call"=some (some (.ref f39)))
  (l39:K.lookup f39=some ⟨oc39,od39,.func (W.fnOf "_law_call" "_law_call" (zav zdc) (zar zdc) (zad zdc) .none kV39 dc39 pm39 an39 cd39 ct39),sl39⟩)
  (c39:W.codeIn K cd39 "_law_call"=true)
  (k39:W.keepIn K (.ref f39)=true)
  (a40:W.nsIn K mainGlobals "_law_flags"=some (some (.ref f40)))
  (l40:K.lookup f40=some ⟨oc40,od40,.func (W.fnOf "_law_flags" "_law_flags" (zav zcF) (zar zcF) (zad zcF) .none kV40 dc40 pm40 an40 cd40 ct40),sl40⟩)
  (c40:W.codeIn K cd40 "_law_flags"=true)
  (k40:W.keepIn K (.ref f40)=true)
  (a41:W.nsIn K mainGlobals "law"=some (some (.ref f41)))
  (l41:K.lookup f41=some ⟨oc41,od41,.func (W.fnOf "law" "law" (zav zgv) (zar zgv) (zad zgv) .none kV41 dc41 pm41 an41 cd41 ct41),sl41⟩)
  (c41:W.codeIn K cd41 "law"=true)
  (k41:W.keepIn K (.ref f41)=true)
  (a42:W.findIn K (.ref C_Stairs) "__init__"=some (some (.ref f42)))
  (i42:W.isFn K (.ref f42)=true)
  (l42:K.lookup f42=some ⟨oc42,od42,.func (W.fnOf "__init__" "Stairs.__init__" (zav za8) (zar za8) (zad za8) .none kV42 dc42 pm42 an42 cd42 ct42),sl42⟩)
  (c42:W.codeIn K cd42 "Stairs.__init__"=true)
  (k42:W.keepIn K (.ref f42)=true)
  (a43:W.findIn K (.ref C_Book) "__init__"=some (some (.ref f43)))
  (i43:W.isFn K (.ref f43)=true)
  (l43:K.lookup f43=some ⟨oc43,od43,.func (W.fnOf "__init__" "Book.__init__" (zav zbb) (zar zbb) (zad zbb) .none kV43 dc43 pm43 an43 cd43 ct43),sl43⟩)
  (c43:W.codeIn K cd43 "Book.__init__"=true)
  (k43:W.keepIn K (.ref f43)=true)
  (a44:W.findIn K (.ref C_Scale) "__init__"=some (some (.ref f44)))
  (i44:W.isFn K (.ref f44)=true)
  (a44_Line:W.findIn K (.ref C_Line) "__init__"=some (some (.ref f44)))
  (bg44:W.specialIn K (.ref C_Scale) "__getattribute__"=some (some (.builtin "type.__getattribute__")))
  (br44:W.readsIn K C_Scale (.type "type")=true)
  (bf44:W.findCls K (.ref C_Scale) (.type "type") "__init__"=some (.val (.ref f44)))
  (l44:K.lookup f44=some ⟨oc44,od44,.func (W.fnOf "__init__" "Scale.__init__" (zav zbX) (zar zbX) (zad zbX) .none kV44 dc44 pm44 an44 cd44 ct44),sl44⟩)
  (c44:W.codeIn K cd44 "Scale.__init__"=true)
  (k44:W.keepIn K (.ref f44)=true)
  (a45:W.findIn K (.ref C_Rest) "__init__"=some (some (.ref f45)))
  (i45:W.isFn K (.ref f45)=true)
  (l45:K.lookup f45=some ⟨oc45,od45,.func (W.fnOf "__init__" "Rest.__init__" (zav za9) (zar za9) (zad za9) .none kV45 dc45 pm45 an45 cd45 ct45),sl45⟩)
  (c45:W.codeIn K cd45 "Rest.__init__"=true)
  (k45:W.keepIn K (.ref f45)=true)
  (pg_Stairs:W.plainGet K C_Stairs Str.empty=true)
  (hd_Stairs:W.hasDictIn K C_Stairs=true)
  (po_Stairs:W.plainOver K C_Stairs=true)
  (sa_Stairs:W.findIn K (.ref C_Stairs) "__setattr__"=some (some (.builtin "object.__setattr__")))
  (mk_Stairs:W.makesIn K C_Stairs=true)
  (kc_Stairs:W.keepIn K (.ref C_Stairs)=true)
  (n_Stairs_steps:W.findIn K (.ref C_Stairs) "steps"=some none)
  (n_Stairs_heads:W.findIn K (.ref C_Stairs) "heads"=some none)
  (n_Stairs_roads:W.findIn K (.ref C_Stairs) "roads"=some none)
  (pg_Book:W.plainGet K C_Book Str.empty=true)
  (hd_Book:W.hasDictIn K C_Book=true)
  (po_Book:W.plainOver K C_Book=true)
  (sa_Book:W.findIn K (.ref C_Book) "__setattr__"=some (some (.builtin "object.__setattr__")))
  (mk_Book:W.makesIn K C_Book=true)
  (kc_Book:W.keepIn K (.ref C_Book)=true)
  (n_Book_many:W.findIn K (.ref C_Book) "many"=some none)
  (n_Book_swaps:W.findIn K (.ref C_Book) "swaps"=some none)
  (pg_Scale:W.plainGet K C_Scale Str.empty=true)
  (hd_Scale:W.hasDictIn K C_Scale=true)
  (po_Scale:W.plainOver K C_Scale=true)
  (sa_Scale:W.findIn K (.ref C_Scale) "__setattr__"=some (some (.builtin "object.__setattr__")))
  (mk_Scale:W.makesIn K C_Scale=true)
  (kc_Scale:W.keepIn K (.ref C_Scale)=true)
  (n_Scale_weights:W.findIn K (.ref C_Scale) "weights"=some none)
  (pg_Line:W.plainGet K C_Line Str.empty=true)
  (hd_Line:W.hasDictIn K C_Line=true)
  (po_Line:W.plainOver K C_Line=true)
  (sa_Line:W.findIn K (.ref C_Line) "__setattr__"=some (some (.builtin "object.__setattr__")))
  (mk_Line:W.makesIn K C_Line=true)
  (kc_Line:W.keepIn K (.ref C_Line)=true)
  (n_Line_weights:W.findIn K (.ref C_Line) "weights"=some none)
  (pg_Rest:W.plainGet K C_Rest Str.empty=true)
  (hd_Rest:W.hasDictIn K C_Rest=true)
  (po_Rest:W.plainOver K C_Rest=true)
  (sa_Rest:W.findIn K (.ref C_Rest) "__setattr__"=some (some (.builtin "object.__setattr__")))
  (mk_Rest:W.makesIn K C_Rest=true)
  (kc_Rest:W.keepIn K (.ref C_Rest)=true)
  (n_Rest_weights:W.findIn K (.ref C_Rest) "weights"=some none)
  (n_Rest_rest:W.findIn K (.ref C_Rest) "rest"=some none)
  (z_ValueError:W.nsIn K mainGlobals "ValueError"=some none)
  (z_abs:W.nsIn K mainGlobals "abs"=some none)
  (z_any:W.nsIn K mainGlobals "any"=some none)
  (z_enumerate:W.nsIn K mainGlobals "enumerate"=some none)
  (z_isinstance:W.nsIn K mainGlobals "isinstance"=some none)
  (z_len:W.nsIn K mainGlobals "len"=some none)
  (z_list:W.nsIn K mainGlobals "list"=some none)
  (z_range:W.nsIn K mainGlobals "range"=some none)
  (z_reversed:W.nsIn K mainGlobals "reversed"=some none)
  (z_sum:W.nsIn K mainGlobals "sum"=some none)
  (z_zip:W.nsIn K mainGlobals "zip"=some none)
  (g_MOST_WARES:W.nsIn K mainGlobals "MOST_WARES"=some (some (.int 8 t_MOST_WARES)))
  (g_MOST_SWAPS:W.nsIn K mainGlobals "MOST_SWAPS"=some (some (.int 12 t_MOST_SWAPS)))
  (aK_BadBasket:W.nsIn K mainGlobals "BadBasket"=some (some (.ref K_BadBasket)))
  (aK_BadBaskets:W.nsIn K mainGlobals "BadBaskets"=some (some (.ref K_BadBaskets)))
  (aK_BadNames:W.nsIn K mainGlobals "BadNames"=some (some (.ref K_BadNames)))
  (aK_BadRest:W.nsIn K mainGlobals "BadRest"=some (some (.ref K_BadRest)))
  (aK_BadRoad:W.nsIn K mainGlobals "BadRoad"=some (some (.ref K_BadRoad)))
  (aK_BadScale:W.nsIn K mainGlobals "BadScale"=some (some (.ref K_BadScale)))
  (aK_BadSwap:W.nsIn K mainGlobals "BadSwap"=some (some (.ref K_BadSwap)))
  (aK_BadWares:W.nsIn K mainGlobals "BadWares"=some (some (.ref K_BadWares)))
  (aK_Endless:W.nsIn K mainGlobals "Endless"=some (some (.ref K_Endless)))
  (aK_NoBook:W.nsIn K mainGlobals "NoBook"=some (some (.ref K_NoBook)))
  (aK_NoLine:W.nsIn K mainGlobals "NoLine"=some (some (.ref K_NoLine)))
  (aK_NoName:W.nsIn K mainGlobals "NoName"=some (some (.ref K_NoName)))
  (aK_NoSwap:W.nsIn K mainGlobals "NoSwap"=some (some (.ref K_NoSwap)))
  (aK_NotAlike:W.nsIn K mainGlobals "NotAlike"=some (some (.ref K_NotAlike)))
  (aK_NotKept:W.nsIn K mainGlobals "NotKept"=some (some (.ref K_NotKept)))
  (aK_OtherBook:W.nsIn K mainGlobals "OtherBook"=some (some (.ref K_OtherBook)))
  (aK_OtherWares:W.nsIn K mainGlobals "OtherWares"=some (some (.ref K_OtherWares)))
  (aK_SwapError:W.nsIn K mainGlobals "SwapError"=some (some (.ref K_SwapError)))
  (aK_TooGreat:W.nsIn K mainGlobals "TooGreat"=some (some (.ref K_TooGreat)))
  (aK_TooMany:W.nsIn K mainGlobals "TooMany"=some (some (.ref K_TooMany)))
  (x_gt:W.specialIn K (.builtin "object.__class__") "__get__"=some (some (.builtin "getset_descriptor.__get__")))
  (x_tk:W.takesIn K (.builtin "object.__class__")=some true)
  (xi_BadBasket:W.excIn K K_BadBasket [.type "ValueError",.type "Exception",.type "BaseException",.type "object"] "ValueError.__new__"=true)
  (xga_BadBasket:W.findIn K (.ref K_BadBasket) "__getattribute__"=some (some (.builtin "BaseException.__getattribute__")))
  (xgn_BadBasket:W.findIn K (.ref K_BadBasket) "__getattr__"=some none)
  (xc_BadBasket:W.findIn K (.ref K_BadBasket) "__class__"=some (some (.builtin "object.__class__")))
  (xo_BadBasket:W.mroIn K K_BadBasket (.type "object")=some true)
  (xb_BadBasket:W.mroIn K K_BadBasket (.type "BaseException")=some true)
  (es_BadBasket:W.subIn K (.ref K_BadBasket) (.ref K_SwapError)=some true)
  (xi_BadRoad:W.excIn K K_BadRoad [.type "ValueError",.type "Exception",.type "BaseException",.type "object"] "ValueError.__new__"=true)
  (xga_BadRoad:W.findIn K (.ref K_BadRoad) "__getattribute__"=some (some (.builtin "BaseException.__getattribute__")))
  (xgn_BadRoad:W.findIn K (.ref K_BadRoad) "__getattr__"=some none)
  (xc_BadRoad:W.findIn K (.ref K_BadRoad) "__class__"=some (some (.builtin "object.__class__")))
  (xo_BadRoad:W.mroIn K K_BadRoad (.type "object")=some true)
  (xb_BadRoad:W.mroIn K K_BadRoad (.type "BaseException")=some true)
  (es_BadRoad:W.subIn K (.ref K_BadRoad) (.ref K_SwapError)=some true)
  (eb:W.subIn K (.ref K_SwapError) (.type "BaseException")=some true)
  (eo:W.mroIn K K_SwapError (.type "object")=some true)
  (et:W.typeIn K (.ref K_SwapError)=some (.type "type"))
  (i0_BadBasket:W.kitOne K (.type "NoneType") (.ref K_BadBasket)=some false)
  (i_BadBasket_BadBasket:W.kitOne K (.ref K_BadBasket) (.ref K_BadBasket)=some true)
  (i_BadRoad_BadBasket:W.kitOne K (.ref K_BadRoad) (.ref K_BadBasket)=some false)
  (i0_BadBaskets:W.kitOne K (.type "NoneType") (.ref K_BadBaskets)=some false)
  (i_BadBasket_BadBaskets:W.kitOne K (.ref K_BadBasket) (.ref K_BadBaskets)=some false)
  (i_BadRoad_BadBaskets:W.kitOne K (.ref K_BadRoad) (.ref K_BadBaskets)=some false)
  (i0_BadNames:W.kitOne K (.type "NoneType") (.ref K_BadNames)=some false)
  (i_BadBasket_BadNames:W.kitOne K (.ref K_BadBasket) (.ref K_BadNames)=some false)
  (i_BadRoad_BadNames:W.kitOne K (.ref K_BadRoad) (.ref K_BadNames)=some false)
  (i0_BadRest:W.kitOne K (.type "NoneType") (.ref K_BadRest)=some false)
  (i_BadBasket_BadRest:W.kitOne K (.ref K_BadBasket) (.ref K_BadRest)=some false)
  (i_BadRoad_BadRest:W.kitOne K (.ref K_BadRoad) (.ref K_BadRest)=some false)
  (i0_BadRoad:W.kitOne K (.type "NoneType") (.ref K_BadRoad)=some false)
  (i_BadBasket_BadRoad:W.kitOne K (.ref K_BadBasket) (.ref K_BadRoad)=some false)
  (i_BadRoad_BadRoad:W.kitOne K (.ref K_BadRoad) (.ref K_BadRoad)=some true)
  (i0_BadScale:W.kitOne K (.type "NoneType") (.ref K_BadScale)=some false)
  (i_BadBasket_BadScale:W.kitOne K (.ref K_BadBasket) (.ref K_BadScale)=some false)
  (i_BadRoad_BadScale:W.kitOne K (.ref K_BadRoad) (.ref K_BadScale)=some false)
  (i0_BadSwap:W.kitOne K (.type "NoneType") (.ref K_BadSwap)=some false)
  (i_BadBasket_BadSwap:W.kitOne K (.ref K_BadBasket) (.ref K_BadSwap)=some false)
  (i_BadRoad_BadSwap:W.kitOne K (.ref K_BadRoad) (.ref K_BadSwap)=some false)
  (i0_BadWares:W.kitOne K (.type "NoneType") (.ref K_BadWares)=some false)
  (i_BadBasket_BadWares:W.kitOne K (.ref K_BadBasket) (.ref K_BadWares)=some false)
  (i_BadRoad_BadWares:W.kitOne K (.ref K_BadRoad) (.ref K_BadWares)=some false)
  (i0_Endless:W.kitOne K (.type "NoneType") (.ref K_Endless)=some false)
  (i_BadBasket_Endless:W.kitOne K (.ref K_BadBasket) (.ref K_Endless)=some false)
  (i_BadRoad_Endless:W.kitOne K (.ref K_BadRoad) (.ref K_Endless)=some false)
  (i0_NoBook:W.kitOne K (.type "NoneType") (.ref K_NoBook)=some false)
  (i_BadBasket_NoBook:W.kitOne K (.ref K_BadBasket) (.ref K_NoBook)=some false)
  (i_BadRoad_NoBook:W.kitOne K (.ref K_BadRoad) (.ref K_NoBook)=some false)
  (i0_NoLine:W.kitOne K (.type "NoneType") (.ref K_NoLine)=some false)
  (i_BadBasket_NoLine:W.kitOne K (.ref K_BadBasket) (.ref K_NoLine)=some false)
  (i_BadRoad_NoLine:W.kitOne K (.ref K_BadRoad) (.ref K_NoLine)=some false)
  (i0_NoName:W.kitOne K (.type "NoneType") (.ref K_NoName)=some false)
  (i_BadBasket_NoName:W.kitOne K (.ref K_BadBasket) (.ref K_NoName)=some false)
  (i_BadRoad_NoName:W.kitOne K (.ref K_BadRoad) (.ref K_NoName)=some false)
  (i0_NoSwap:W.kitOne K (.type "NoneType") (.ref K_NoSwap)=some false)
  (i_BadBasket_NoSwap:W.kitOne K (.ref K_BadBasket) (.ref K_NoSwap)=some false)
  (i_BadRoad_NoSwap:W.kitOne K (.ref K_BadRoad) (.ref K_NoSwap)=some false)
  (i0_NotAlike:W.kitOne K (.type "NoneType") (.ref K_NotAlike)=some false)
  (i_BadBasket_NotAlike:W.kitOne K (.ref K_BadBasket) (.ref K_NotAlike)=some false)
  (i_BadRoad_NotAlike:W.kitOne K (.ref K_BadRoad) (.ref K_NotAlike)=some false)
  (i0_NotKept:W.kitOne K (.type "NoneType") (.ref K_NotKept)=some false)
  (i_BadBasket_NotKept:W.kitOne K (.ref K_BadBasket) (.ref K_NotKept)=some false)
  (i_BadRoad_NotKept:W.kitOne K (.ref K_BadRoad) (.ref K_NotKept)=some false)
  (i0_OtherBook:W.kitOne K (.type "NoneType") (.ref K_OtherBook)=some false)
  (i_BadBasket_OtherBook:W.kitOne K (.ref K_BadBasket) (.ref K_OtherBook)=some false)
  (i_BadRoad_OtherBook:W.kitOne K (.ref K_BadRoad) (.ref K_OtherBook)=some false)
  (i0_OtherWares:W.kitOne K (.type "NoneType") (.ref K_OtherWares)=some false)
  (i_BadBasket_OtherWares:W.kitOne K (.ref K_BadBasket) (.ref K_OtherWares)=some false)
  (i_BadRoad_OtherWares:W.kitOne K (.ref K_BadRoad) (.ref K_OtherWares)=some false)
  (i0_TooGreat:W.kitOne K (.type "NoneType") (.ref K_TooGreat)=some false)
  (i_BadBasket_TooGreat:W.kitOne K (.ref K_BadBasket) (.ref K_TooGreat)=some false)
  (i_BadRoad_TooGreat:W.kitOne K (.ref K_BadRoad) (.ref K_TooGreat)=some false)
  (i0_TooMany:W.kitOne K (.type "NoneType") (.ref K_TooMany)=some false)
  (i_BadBasket_TooMany:W.kitOne K (.ref K_BadBasket) (.ref K_TooMany)=some false)
  (i_BadRoad_TooMany:W.kitOne K (.ref K_BadRoad) (.ref K_TooMany)=some false)
  (i0_ValueError:W.kitOne K (.type "NoneType") (.type "ValueError")=some false)
  (i_BadBasket_ValueError:W.kitOne K (.ref K_BadBasket) (.type "ValueError")=some true)
  (i_BadRoad_ValueError:W.kitOne K (.ref K_BadRoad) (.type "ValueError")=some true) :
  ∃ fd:FuncData,(∀ (s:Shared) (v:Value),BindsTo s fd ⟨[v],[]⟩ [("_law_script",v)])∧∀ base:Heap,K.In base->base.Ns mainGlobals mg->FnOk l.prog w K mg base (CXE l.prog w) 12 fa fd ["_law_script"] (zmu K):=by
 have e:=hfa.symm.trans (W.mg_of X G a41)
 cases e
 have F_refuse_unlike:=zaJ (st:=zbl) l0 c0 k0
 have b_refuse_unlike:=F_refuse_unlike.binds (ps:=["one","other"]) λ_ _ _ _ _ _ us hl=>match us,hl with | [_,_],_=>rfl
 have m_refuse_unlike:=W.mg_of X G a0
 have F_plus:=zaJ (st:=zgn) l1 c1 k1
 have b_plus:=F_plus.binds (ps:=["one","other"]) λ_ _ _ _ _ _ us hl=>match us,hl with | [_,_],_=>rfl
 have m_plus:=W.mg_of X G a1
 have F_less:=zaJ (st:=zgD) l2 c2 k2
 have b_less:=F_less.binds (ps:=["one","other"]) λ_ _ _ _ _ _ us hl=>match us,hl with | [_,_],_=>rfl
 have m_less:=W.mg_of X G a2
 have F_times:=zaJ (st:=zeL) l3 c3 k3
 have b_times:=F_times.binds (ps:=["some","many"]) λ_ _ _ _ _ _ us hl=>match us,hl with | [_,_],_=>rfl
 have m_times:=W.mg_of X G a3
 have F_weighed:=zaJ (st:=zdo) l4 c4 k4
 have b_weighed:=F_weighed.binds (ps:=["one","other"]) λ_ _ _ _ _ _ us hl=>match us,hl with | [_,_],_=>rfl
 have m_weighed:=W.mg_of X G a4
 have F_head_of:=zaJ (st:=zdJ) l5 c5 k5
 have b_head_of:=F_head_of.binds (ps:=["row"]) λ_ _ _ _ _ _ us hl=>match us,hl with | [_],_=>rfl
 have m_head_of:=W.mg_of X G a5
 have F_common:=zaJ (st:=zer) l6 c6 k6
 have b_common:=F_common.binds (ps:=["one","other"]) λ_ _ _ _ _ _ us hl=>match us,hl with | [_,_],_=>rfl
 have m_common:=W.mg_of X G a6
 have F_upright:=zaJ (st:=zdK) l7 c7 k7
 have b_upright:=F_upright.binds (ps:=["row"]) λ_ _ _ _ _ _ us hl=>match us,hl with | [_],_=>rfl
 have m_upright:=W.mg_of X G a7
 have F_lowered:=zaJ (st:=zdN) l8 c8 k8
 have b_lowered:=F_lowered.binds (ps:=["row","steps"]) λ_ _ _ _ _ _ us hl=>match us,hl with | [_,_],_=>rfl
 have m_lowered:=W.mg_of X G a8
 have F_merged:=zaJ (st:=zev) l9 c9 k9
 have b_merged:=F_merged.binds (ps:=["step","row"]) λ_ _ _ _ _ _ us hl=>match us,hl with | [_,_],_=>rfl
 have m_merged:=W.mg_of X G a9
 have F_taken_in:=zaJ (st:=zda) l10 c10 k10
 have b_taken_in:=F_taken_in.binds (ps:=["steps","row"]) λ_ _ _ _ _ _ us hl=>match us,hl with | [_,_],_=>rfl
 have m_taken_in:=W.mg_of X G a10
 have F_settled:=zaJ (st:=zdF) l11 c11 k11
 have b_settled:=F_settled.binds (ps:=["steps"]) λ_ _ _ _ _ _ us hl=>match us,hl with | [_],_=>rfl
 have m_settled:=W.mg_of X G a11
 have F_climbed:=zaJ (st:=zdE) l12 c12 k12
 have b_climbed:=F_climbed.binds (ps:=["rows"]) λ_ _ _ _ _ _ us hl=>match us,hl with | [_],_=>rfl
 have m_climbed:=W.mg_of X G a12
 have F_marked:=zaJ (st:=zeH) l13 c13 k13
 have b_marked:=F_marked.binds (ps:=["rows"]) λ_ _ _ _ _ _ us hl=>match us,hl with | [_],_=>rfl
 have m_marked:=W.mg_of X G a13
 have F_traced:=zaJ (st:=zeF) l14 c14 k14
 have b_traced:=F_traced.binds (ps:=["rows"]) λ_ _ _ _ _ _ us hl=>match us,hl with | [_],_=>rfl
 have m_traced:=W.mg_of X G a14
 have F_tails:=zaJ (st:=zeQ) l15 c15 k15
 have b_tails:=F_tails.binds (ps:=["steps","many"]) λ_ _ _ _ _ _ us hl=>match us,hl with | [_,_],_=>rfl
 have m_tails:=W.mg_of X G a15
 have F_counted:=zaJ (st:=zdL) l16 c16 k16
 have b_counted:=F_counted.binds (ps:=["steps","basket","many"]) λ_ _ _ _ _ _ us hl=>match us,hl with | [_,_,_],_=>rfl
 have m_counted:=W.mg_of X G a16
 have F_stairs:=zaJ (st:=zcJ) l17 c17 k17
 have b_stairs:=F_stairs.binds (ps:=["book"]) λ_ _ _ _ _ _ us hl=>match us,hl with | [_],_=>rfl
 have m_stairs:=W.mg_of X G a17
 have F_book_of:=zaJ (st:=zdC) l18 c18 k18
 have b_book_of:=F_book_of.binds (ps:=["many","swaps"]) λ_ _ _ _ _ _ us hl=>match us,hl with | [_,_],_=>rfl
 have m_book_of:=W.mg_of X G a18
 have F_refuse_bad_basket:=zaJ (st:=zaR) l19 c19 k19
 have b_refuse_bad_basket:=F_refuse_bad_basket.binds (ps:=["book","basket"]) λ_ _ _ _ _ _ us hl=>match us,hl with | [_,_],_=>rfl
 have m_refuse_bad_basket:=W.mg_of X G a19
 have F_refuse_bad_road:=zaJ (st:=zaS) l20 c20 k20
 have b_refuse_bad_road:=F_refuse_bad_road.binds (ps:=["book","road"]) λ_ _ _ _ _ _ us hl=>match us,hl with | [_,_],_=>rfl
 have m_refuse_bad_road:=W.mg_of X G a20
 have F_led:=zaJ (st:=zjy) l21 c21 k21
 have b_led:=F_led.binds (ps:=["book","basket","road"]) λ_ _ _ _ _ _ us hl=>match us,hl with | [_,_,_],_=>rfl
 have m_led:=W.mg_of X G a21
 have F_home:=zaJ (st:=zgQ) l22 c22 k22
 have b_home:=F_home.binds (ps:=["book","basket"]) λ_ _ _ _ _ _ us hl=>match us,hl with | [_,_],_=>rfl
 have m_home:=W.mg_of X G a22
 have F_way_to:=zaJ (st:=zew) l23 c23 k23
 have b_way_to:=F_way_to.binds (ps:=["book","basket"]) λ_ _ _ _ _ _ us hl=>match us,hl with | [_,_],_=>rfl
 have m_way_to:=W.mg_of X G a23
 have F_road:=zaJ (st:=zgY) l24 c24 k24
 have b_road:=F_road.binds (ps:=["book","one","other"]) λ_ _ _ _ _ _ us hl=>match us,hl with | [_,_,_],_=>rfl
 have m_road:=W.mg_of X G a24
 have F_rounds:=zaJ (st:=zes) l25 c25 k25
 have b_rounds:=F_rounds.binds (ps:=["book"]) λ_ _ _ _ _ _ us hl=>match us,hl with | [_],_=>rfl
 have m_rounds:=W.mg_of X G a25
 have F_plain:=zaJ (st:=zfG) l26 c26 k26
 have b_plain:=F_plain.binds (ps:=["book","road"]) λ_ _ _ _ _ _ us hl=>match us,hl with | [_,_],_=>rfl
 have m_plain:=W.mg_of X G a26
 have F_plain_road:=zaJ (st:=zcc) l27 c27 k27
 have b_plain_road:=F_plain_road.binds (ps:=["book","one","other"]) λ_ _ _ _ _ _ us hl=>match us,hl with | [_,_,_],_=>rfl
 have m_plain_road:=W.mg_of X G a27
 have F_levelled:=zaJ (st:=zdb) l28 c28 k28
 have b_levelled:=F_levelled.binds (ps:=["steps","length"]) λ_ _ _ _ _ _ us hl=>match us,hl with | [_,_],_=>rfl
 have m_levelled:=W.mg_of X G a28
 have F_divisor:=zaJ (st:=zdO) l29 c29 k29
 have b_divisor:=F_divisor.binds (ps:=["numbers"]) λ_ _ _ _ _ _ us hl=>match us,hl with | [_],_=>rfl
 have m_divisor:=W.mg_of X G a29
 have F_shortened:=zaJ (st:=zca) l30 c30 k30
 have b_shortened:=F_shortened.binds (ps:=["numbers"]) λ_ _ _ _ _ _ us hl=>match us,hl with | [_],_=>rfl
 have m_shortened:=W.mg_of X G a30
 have F_shown:=zaJ (st:=zek) l31 c31 k31
 have b_shown:=F_shown.binds (ps:=["book","basket"]) λ_ _ _ _ _ _ us hl=>match us,hl with | [_,_],_=>rfl
 have m_shown:=W.mg_of X G a31
 have F_parting:=zaJ (st:=zdM) l32 c32 k32
 have b_parting:=F_parting.binds (ps:=["book","one","other"]) λ_ _ _ _ _ _ us hl=>match us,hl with | [_,_,_],_=>rfl
 have m_parting:=W.mg_of X G a32
 have F_turn_of:=zaJ (st:=zdH) l33 c33 k33
 have b_turn_of:=F_turn_of.binds (ps:=["book","basket"]) λ_ _ _ _ _ _ us hl=>match us,hl with | [_,_],_=>rfl
 have m_turn_of:=W.mg_of X G a33
 have F_law_cell:=zaJ (st:=zdd) l34 c34 k34
 have b_law_cell:=F_law_cell.binds (ps:=["_law_script","_law_k"]) λ_ _ _ _ _ _ us hl=>match us,hl with | [_,_],_=>rfl
 have m_law_cell:=W.mg_of X G a34
 have F_law_numbers:=zaJ (st:=zbR) l35 c35 k35
 have b_law_numbers:=F_law_numbers.binds (ps:=["_law_script","_law_at","_law_many","_law_size"]) λ_ _ _ _ _ _ us hl=>match us,hl with | [_,_,_,_],_=>rfl
 have m_law_numbers:=W.mg_of X G a35
 have F_law_shape:=zaJ (st:=zcI) l36 c36 k36
 have b_law_shape:=F_law_shape.binds (ps:=["_law_script"]) λ_ _ _ _ _ _ us hl=>match us,hl with | [_],_=>rfl
 have m_law_shape:=W.mg_of X G a36
 have F_law_swaps:=zaJ (st:=zaX) l37 c37 k37
 have b_law_swaps:=F_law_swaps.binds (ps:=["_law_script","_law_at","_law_shape_here"]) λ_ _ _ _ _ _ us hl=>match us,hl with | [_,_,_],_=>rfl
 have m_law_swaps:=W.mg_of X G a37
 have F_law_called:=zaJ (st:=zbJ) l38 c38 k38
 have b_law_called:=F_law_called.binds (ps:=["_law_caught"]) λ_ _ _ _ _ _ us hl=>match us,hl with | [_],_=>rfl
 have m_law_called:=W.mg_of X G a38
 have F_law_call:=zaJ (st:=zdc) l39 c39 k39
 have b_law_call:=F_law_call.binds (ps:=["_law_which","_law_book","_law_one","_law_other","_law_way"]) λ_ _ _ _ _ _ us hl=>match us,hl with | [_,_,_,_,_],_=>rfl
 have m_law_call:=W.mg_of X G a39
 have F_law_flags:=zaJ (st:=zcF) l40 c40 k40
 have b_law_flags:=F_law_flags.binds (ps:=["_law_which","_law_book","_law_one","_law_other","_law_way"]) λ_ _ _ _ _ _ us hl=>match us,hl with | [_,_,_,_,_],_=>rfl
 have m_law_flags:=W.mg_of X G a40
 have F_law:=zaJ (st:=zgv) l41 c41 k41
 have b_law:=F_law.binds (ps:=["_law_script"]) λ_ _ _ _ _ _ us hl=>match us,hl with | [_],_=>rfl
 have m_law:=W.mg_of X G a41
 have F_Stairs___init__:=zaJ (st:=za8) l42 c42 k42
 have b_Stairs___init__:=F_Stairs___init__.binds (ps:=["self","steps","heads","roads"]) λ_ _ _ _ _ _ us hl=>match us,hl with | [_,_,_,_],_=>rfl
 have F_Book___init__:=zaJ (st:=zbb) l43 c43 k43
 have b_Book___init__:=F_Book___init__.binds (ps:=["self","many","swaps"]) λ_ _ _ _ _ _ us hl=>match us,hl with | [_,_,_],_=>rfl
 have F_Scale___init__:=zaJ (st:=zbX) l44 c44 k44
 have b_Scale___init__:=F_Scale___init__.binds (ps:=["self","weights"]) λ_ _ _ _ _ _ us hl=>match us,hl with | [_,_],_=>rfl
 have F_Rest___init__:=zaJ (st:=za9) l45 c45 k45
 have b_Rest___init__:=F_Rest___init__.binds (ps:=["self","rest","weights"]) λ_ _ _ _ _ _ us hl=>match us,hl with | [_,_,_],_=>rfl
 have T:Txt K mg ⟨(),C_Stairs,C_Book,C_Scale,C_Line,C_Rest,λe=>match e with | .BadBasket=>K_BadBasket | .BadRoad=>K_BadRoad,K_BadBasket,K_BadBaskets,K_BadNames,K_BadRest,K_BadRoad,K_BadScale,K_BadSwap,K_BadWares,K_Endless,K_NoBook,K_NoLine,K_NoName,K_NoSwap,K_NotAlike,K_NotKept,K_OtherBook,K_OtherWares,K_SwapError,K_TooGreat,K_TooMany⟩:=⟨W.mg_none_of X G z_ValueError,W.mg_none_of X G z_abs,W.mg_none_of X G z_any,W.mg_none_of X G z_enumerate,W.mg_none_of X G z_isinstance,W.mg_none_of X G z_len,W.mg_none_of X G z_list,W.mg_none_of X G z_range,W.mg_none_of X G z_reversed,W.mg_none_of X G z_sum,W.mg_none_of X G z_zip,W.mg_of X G aC_Stairs,⟨pg_Stairs,hd_Stairs,po_Stairs,sa_Stairs⟩,n_Stairs_steps,n_Stairs_heads,n_Stairs_roads,W.mg_of X G aC_Book,⟨pg_Book,hd_Book,po_Book,sa_Book⟩,n_Book_many,n_Book_swaps,W.mg_of X G aC_Scale,⟨pg_Scale,hd_Scale,po_Scale,sa_Scale⟩,n_Scale_weights,W.mg_of X G aC_Line,⟨pg_Line,hd_Line,po_Line,sa_Line⟩,n_Line_weights,W.mg_of X G aC_Rest,⟨pg_Rest,hd_Rest,po_Rest,sa_Rest⟩,n_Rest_weights,n_Rest_rest,⟨t_MOST_WARES,W.mg_of X G g_MOST_WARES⟩,⟨t_MOST_SWAPS,W.mg_of X G g_MOST_SWAPS⟩,W.mg_of X G aK_BadBasket,W.mg_of X G aK_BadBaskets,W.mg_of X G aK_BadNames,W.mg_of X G aK_BadRest,W.mg_of X G aK_BadRoad,W.mg_of X G aK_BadScale,W.mg_of X G aK_BadSwap,W.mg_of X G aK_BadWares,W.mg_of X G aK_Endless,W.mg_of X G aK_NoBook,W.mg_of X G aK_NoLine,W.mg_of X G aK_NoName,W.mg_of X G aK_NoSwap,W.mg_of X G aK_NotAlike,W.mg_of X G aK_NotKept,W.mg_of X G aK_OtherBook,W.mg_of X G aK_OtherWares,W.mg_of X G aK_SwapError,W.mg_of X G aK_TooGreat,W.mg_of X G aK_TooMany,W.mg_of X G aK_BadBasket,xi_BadBasket,⟨xga_BadBasket,xgn_BadBasket,xc_BadBasket,xo_BadBasket,xb_BadBasket,x_gt,x_tk⟩,exm_of eb eo et es_BadBasket,W.mg_of X G aK_BadRoad,xi_BadRoad,⟨xga_BadRoad,xgn_BadRoad,xc_BadRoad,xo_BadRoad,xb_BadRoad,x_gt,x_tk⟩,exm_of eb eo et es_BadRoad,i0_BadBasket,i_BadBasket_BadBasket,i_BadRoad_BadBasket,i0_BadBaskets,i_BadBasket_BadBaskets,i_BadRoad_BadBaskets,i0_BadNames,i_BadBasket_BadNames,i_BadRoad_BadNames,i0_BadRest,i_BadBasket_BadRest,i_BadRoad_BadRest,i0_BadRoad,i_BadBasket_BadRoad,i_BadRoad_BadRoad,i0_BadScale,i_BadBasket_BadScale,i_BadRoad_BadScale,i0_BadSwap,i_BadBasket_BadSwap,i_BadRoad_BadSwap,i0_BadWares,i_BadBasket_BadWares,i_BadRoad_BadWares,i0_Endless,i_BadBasket_Endless,i_BadRoad_Endless,i0_NoBook,i_BadBasket_NoBook,i_BadRoad_NoBook,i0_NoLine,i_BadBasket_NoLine,i_BadRoad_NoLine,i0_NoName,i_BadBasket_NoName,i_BadRoad_NoName,i0_NoSwap,i_BadBasket_NoSwap,i_BadRoad_NoSwap,i0_NotAlike,i_BadBasket_NotAlike,i_BadRoad_NotAlike,i0_NotKept,i_BadBasket_NotKept,i_BadRoad_NotKept,i0_OtherBook,i_BadBasket_OtherBook,i_BadRoad_OtherBook,i0_OtherWares,i_BadBasket_OtherWares,i_BadRoad_OtherWares,i0_TooGreat,i_BadBasket_TooGreat,i_BadRoad_TooGreat,i0_TooMany,i_BadBasket_TooMany,i_BadRoad_TooMany,i0_ValueError,i_BadBasket_ValueError,i_BadRoad_ValueError⟩
 refine ⟨W.fnOf "law" "law" (zav zgv) (zar zgv) (zad zgv) .none kV41 dc41 pm41 an41 cd41 ct41,λs v=>.of_eq rfl,λbase _ _=>?_⟩
 have M_Stairs:Mk K C_Stairs f42:=⟨mk_Stairs,a42,i42,kc_Stairs⟩
 have M_Book:Mk K C_Book f43:=⟨mk_Book,a43,i43,kc_Book⟩
 have M_Line:Mk K C_Line f44:=⟨mk_Line,a44_Line,i44,kc_Line⟩
 have B_Scale___init___Rest:ByCls K C_Scale f44 "__init__":=⟨bg44,br44,bf44,k44⟩
 have M_Rest:Mk K C_Rest f45:=⟨mk_Rest,a45,i45,kc_Rest⟩
 have G_refuse_unlike:Callee l.prog w K mg base (CXE l.prog w) 1 "refuse_unlike" ["one","other"] (zbC K _):=⟨_,_,zfS F_refuse_unlike T  ,m_refuse_unlike,k0,b_refuse_unlike⟩
 have G_plus:Callee l.prog w K mg base (CXE l.prog w) 2 "plus" ["one","other"] (zg9 K _):=⟨_,_,znx F_plus T G_refuse_unlike ,m_plus,k1,b_plus⟩
 have G_less:Callee l.prog w K mg base (CXE l.prog w) 2 "less" ["one","other"] (zeN K _):=⟨_,_,znN F_less T G_refuse_unlike ,m_less,k2,b_less⟩
 have G_times:Callee l.prog w K mg base (CXE l.prog w) 1 "times" ["some","many"] (zc5 K _):=⟨_,_,zl2 F_times T  ,m_times,k3,b_times⟩
 have G_weighed:Callee l.prog w K mg base (CXE l.prog w) 2 "weighed" ["one","other"] (zfr K _):=⟨_,_,zjC F_weighed T G_refuse_unlike ,m_weighed,k4,b_weighed⟩
 have G_head_of:Callee l.prog w K mg base (CXE l.prog w) 1 "head_of" ["row"] (zbE K _):=⟨_,_,zjA F_head_of T  ,m_head_of,k5,b_head_of⟩
 have G_common:Callee l.prog w K mg base (CXE l.prog w) 1 "common" ["one","other"] (zf9 K _):=⟨_,_,zkE F_common T  ,m_common,k6,b_common⟩
 have G_upright:Callee l.prog w K mg base (CXE l.prog w) 2 "upright" ["row"] (zfD K _):=⟨_,_,zjO F_upright T G_head_of G_times ,m_upright,k7,b_upright⟩
 have G_lowered:Callee l.prog w K mg base (CXE l.prog w) 3 "lowered" ["row","steps"] (zcB K _):=⟨_,_,zjw F_lowered T G_head_of G_less G_times ,m_lowered,k8,b_lowered⟩
 have G_merged:Callee l.prog w K mg base (CXE l.prog w) 3 "merged" ["step","row"] (zgk K _):=⟨_,_,zlg F_merged T G_common G_head_of G_less G_plus G_times ,m_merged,k9,b_merged⟩
 have G_taken_in:Callee l.prog w K mg base (CXE l.prog w) 4 "taken_in" ["steps","row"] (zeS K _):=⟨_,_,ziJ F_taken_in T G_head_of G_lowered G_merged G_upright ,m_taken_in,k10,b_taken_in⟩
 have G_settled:Callee l.prog w K mg base (CXE l.prog w) 4 "settled" ["steps"] (zfm K _):=⟨_,_,zjG F_settled T G_lowered ,m_settled,k11,b_settled⟩
 have G_climbed:Callee l.prog w K mg base (CXE l.prog w) 5 "climbed" ["rows"] (zeA K _):=⟨_,_,zjv F_climbed T G_settled G_taken_in ,m_climbed,k12,b_climbed⟩
 have G_marked:Callee l.prog w K mg base (CXE l.prog w) 1 "marked" ["rows"] (zf3 K _):=⟨_,_,zkB F_marked T  ,m_marked,k13,b_marked⟩
 have G_traced:Callee l.prog w K mg base (CXE l.prog w) 6 "traced" ["rows"] (zeo K _):=⟨_,_,zk3 F_traced T G_climbed G_marked ,m_traced,k14,b_traced⟩
 have G_tails:Callee l.prog w K mg base (CXE l.prog w) 2 "tails" ["steps","many"] (zhD K _):=⟨_,_,zmj F_tails T G_head_of ,m_tails,k15,b_tails⟩
 have G_counted:Callee l.prog w K mg base (CXE l.prog w) 4 "counted" ["steps","basket","many"] (zfu K _):=⟨_,_,zjH F_counted T G_lowered G_times ,m_counted,k16,b_counted⟩
 have G_Stairs___init__:=zeV (P:=l.prog) (w:=w) (base:=base) F_Stairs___init__ T
 have G_stairs:Callee l.prog w K mg base (CXE l.prog w) 7 "stairs" ["book"] (zgu K _):=⟨_,_,zkO F_stairs T G_head_of G_traced M_Stairs G_Stairs___init__ b_Stairs___init__ ,m_stairs,k17,b_stairs⟩
 have G_Book___init__:=zfO (P:=l.prog) (w:=w) (base:=base) F_Book___init__ T
 have G_book_of:Callee l.prog w K mg base (CXE l.prog w) 3 "book_of" ["many","swaps"] (zfp K _):=⟨_,_,zjU F_book_of T  M_Book G_Book___init__ b_Book___init__ ,m_book_of,k18,b_book_of⟩
 have GX_refuse_bad_basket:Callee l.prog w K mg base (CXE l.prog w) 1 "refuse_bad_basket" ["book","basket"] (zaE K _):=⟨_,_,zem F_refuse_bad_basket T  ,m_refuse_bad_basket,k19,b_refuse_bad_basket⟩
 have G_refuse_bad_road:Callee l.prog w K mg base (CXE l.prog w) 1 "refuse_bad_road" ["book","road"] (zch K _):=⟨_,_,ze0 F_refuse_bad_road T  ,m_refuse_bad_road,k20,b_refuse_bad_road⟩
 have GX_refuse_bad_road:Callee l.prog w K mg base (CXE l.prog w) 1 "refuse_bad_road" ["book","road"] (zb7 K _):=⟨_,_,zeK F_refuse_bad_road T  ,m_refuse_bad_road,k20,b_refuse_bad_road⟩
 have GX_led:Callee l.prog w K mg base (CXE l.prog w) 3 "led" ["book","basket","road"] (zh9 K _):=⟨_,_,znz F_led T G_plus G_times GX_refuse_bad_basket GX_refuse_bad_road,m_led,k21,b_led⟩
 have GX_home:Callee l.prog w K mg base (CXE l.prog w) 8 "home" ["book","basket"] (zhb K _):=⟨_,_,zmg F_home T G_lowered G_stairs GX_refuse_bad_basket,m_home,k22,b_home⟩
 have G_way_to:Callee l.prog w K mg base (CXE l.prog w) 7 "way_to" ["book","basket"] (zee K _):=⟨_,_,zlu F_way_to T G_counted G_traced ,m_way_to,k23,b_way_to⟩
 have GX_road:Callee l.prog w K mg base (CXE l.prog w) 8 "road" ["book","one","other"] (zhf K _):=⟨_,_,zlG F_road T G_less G_way_to GX_refuse_bad_basket,m_road,k24,b_road⟩
 have G_rounds:Callee l.prog w K mg base (CXE l.prog w) 7 "rounds" ["book"] (zf6 K _):=⟨_,_,zlB F_rounds T G_tails G_traced ,m_rounds,k25,b_rounds⟩
 have G_plain:Callee l.prog w K mg base (CXE l.prog w) 8 "plain" ["book","road"] (zg7 K _):=⟨_,_,zl5 F_plain T G_lowered G_refuse_bad_road G_rounds ,m_plain,k26,b_plain⟩
 have GX_plain_road:Callee l.prog w K mg base (CXE l.prog w) 9 "plain_road" ["book","one","other"] (zdA K _):=⟨_,_,zgJ F_plain_road T G_less G_plain G_way_to GX_refuse_bad_basket,m_plain_road,k27,b_plain_road⟩
 have G_Scale___init___Line:=zd4 (P:=l.prog) (w:=w) (base:=base) F_Scale___init__ T
 have G_Scale___init___Rest:=zd5 (P:=l.prog) (w:=w) (base:=base) F_Scale___init__ T
 have G_Rest___init__:=zfQ (P:=l.prog) (w:=w) (base:=base) F_Rest___init__ T  B_Scale___init___Rest G_Scale___init___Rest b_Scale___init__
 have G_levelled:Callee l.prog w K mg base (CXE l.prog w) 3 "levelled" ["steps","length"] (zeO K _):=⟨_,_,ziA F_levelled T G_head_of G_times G_weighed ,m_levelled,k28,b_levelled⟩
 have G_divisor:Callee l.prog w K mg base (CXE l.prog w) 1 "divisor" ["numbers"] (zfq K _):=⟨_,_,zju F_divisor T  ,m_divisor,k29,b_divisor⟩
 have G_shortened:Callee l.prog w K mg base (CXE l.prog w) 2 "shortened" ["numbers"] (zeq K _):=⟨_,_,zhY F_shortened T G_divisor ,m_shortened,k30,b_shortened⟩
 have G_shown:Callee l.prog w K mg base (CXE l.prog w) 6 "shown" ["book","basket"] (zfY K _):=⟨_,_,zlQ F_shown T G_climbed G_head_of G_levelled G_shortened M_Rest G_Rest___init__ b_Rest___init__ M_Line G_Scale___init___Line b_Scale___init__ ,m_shown,k31,b_shown⟩
 have GX_parting:Callee l.prog w K mg base (CXE l.prog w) 7 "parting" ["book","one","other"] (zeU K _):=⟨_,_,zix F_parting T G_less G_shown GX_refuse_bad_basket,m_parting,k32,b_parting⟩
 have GX_turn_of:Callee l.prog w K mg base (CXE l.prog w) 8 "turn_of" ["book","basket"] (zeT K _):=⟨_,_,ziy F_turn_of T G_shown G_times G_way_to GX_refuse_bad_basket,m_turn_of,k33,b_turn_of⟩
 have G_law_cell:Callee l.prog w K mg base (CXE l.prog w) 1 "_law_cell" ["_law_script","_law_k"] (zdl K _):=⟨_,_,zia F_law_cell T  ,m_law_cell,k34,b_law_cell⟩
 have G_law_numbers:Callee l.prog w K mg base (CXE l.prog w) 1 "_law_numbers" ["_law_script","_law_at","_law_many","_law_size"] (zcK K _):=⟨_,_,zgL F_law_numbers T  ,m_law_numbers,k35,b_law_numbers⟩
 have G_law_shape:Callee l.prog w K mg base (CXE l.prog w) 2 "_law_shape" ["_law_script"] (zed K _):=⟨_,_,zhW F_law_shape T G_law_cell ,m_law_shape,k36,b_law_shape⟩
 have G_law_swaps:Callee l.prog w K mg base (CXE l.prog w) 2 "_law_swaps" ["_law_script","_law_at","_law_shape_here"] (zec K _):=⟨_,_,zhT F_law_swaps T G_law_cell G_law_numbers ,m_law_swaps,k37,b_law_swaps⟩
 have G_law_called:Callee l.prog w K mg base (CXE l.prog w) 1 "_law_called" ["_law_caught"] (zdX K _):=⟨_,_,zhj F_law_called T  ,m_law_called,k38,b_law_called⟩
 have GX_law_call:Callee l.prog w K mg base (CXE l.prog w) 10 "_law_call" ["_law_which","_law_book","_law_one","_law_other","_law_way"] (zej K _):=⟨_,_,zhQ F_law_call T  GX_home GX_led GX_parting GX_plain_road GX_road GX_turn_of,m_law_call,k39,b_law_call⟩
 have G_law_flags:Callee l.prog w K mg base (CXE l.prog w) 11 "_law_flags" ["_law_which","_law_book","_law_one","_law_other","_law_way"] (zen K _):=⟨_,_,zhZ F_law_flags T G_law_called GX_law_call,m_law_flags,k40,b_law_flags⟩
 exact (zpX F_law T G_law_cell G_law_flags G_law_numbers G_law_shape G_law_swaps G_book_of ).imp λ_ _ _ _ q=>zqa q
theorem zru {l:W.OpenLaw} {q:Program} {loose:List Str} {XP:(Str->Option Value)->Heap->Prop} {YP:World->Heap->Prop} {d:DefRec} {K:Params->W.Frag} (hn:l.most=some 63) (hdf:d.params.defaults=[])
  (hY:∀ (w:World) (h:Heap),YP w h->(K w.params).In h)
  (F:∀ (w:World) (mg:Str->Option Value) (fa:Addr) (h:Heap),(K w.params).In h->h.Ns mainGlobals mg->mg d.name=some (.ref fa) →
   ∃ fd:FuncData,(∀ (s:Shared) (u:Value),BindsTo s fd ⟨[u],[]⟩ [("_law_script",u)])∧∀ base:Heap,(K w.params).In base->base.Ns mainGlobals mg->FnOk l.prog w (K w.params) mg base (CXE l.prog w) 12 fa fd ["_law_script"] (zmu (K w.params))) :
  W.WalkO q loose XP YP l.row.toRowW d [] (λf vs=>PySem.call f vs) :=
 L2.znK (n:=63) (k:=12) (x:="_law_script") (CX:=λw=>CXE l.prog w) (sp:=λw=>zmu (K w.params)) hn (by decide) hdf ⟨rfl,by decide,by decide⟩ hY F (λ_ _ a ns hl _ hS=>⟨a,ns,rfl,hS,hl,λ_=>rfl⟩) λ_ _ _ _ _ ⟨_,_,_,_,_,_,_,_,_,_,z⟩=>z
end
end My
section
open PySem PySem.W PyProof.Rows
set_option maxRecDepth 100000 in
set_option maxHeartbeats 0 in
theorem PySem.Challenge.cw_swapbook_k57_refused_baskets_holds : PySem.Challenge.rw_swapbook_k57_refused_baskets.Holds := by
 refine My.headT ?hc
 k_fill
 refine My.zru (l:=PySem.Challenge.rw_swapbook_k57_refused_baskets) rfl rfl (λw h Y=>W.kIn_of Y) ?F
 case F =>
  intro w mg fa h KX G hmg
  refine' My.all_mk KX G hmg ?aC_Stairs ?aC_Book ?aC_Scale ?aC_Line ?aC_Rest ?a0 ?l0 ?c0 ?k0 ?a1 ?l1 ?c1 ?k1 ?a2 ?l2 ?c2 ?k2 ?a3 ?l3 ?c3 ?k3 ?a4 ?l4 ?c4 ?k4 ?a5 ?l5 ?c5 ?k5 ?a6 ?l6 ?c6 ?k6 ?a7 ?l7 ?c7 ?k7 ?a8 ?l8 ?c8 ?k8 ?a9 ?l9 ?c9 ?k9 ?a10 ?l10 ?c10 ?k10 ?a11 ?l11 ?c11 ?k11 ?a12 ?l12 ?c12 ?k12 ?a13 ?l13 ?c13 ?k13 ?a14 ?l14 ?c14 ?k14 ?a15 ?l15 ?c15 ?k15 ?a16 ?l16 ?c16 ?k16 ?a17 ?l17 ?c17 ?k17 ?a18 ?l18 ?c18 ?k18 ?a19 ?l19 ?c19 ?k19 ?a20 ?l20 ?c20 ?k20 ?a21 ?l21 ?c21 ?k21 ?a22 ?l22 ?c22 ?k22 ?a23 ?l23 ?c23 ?k23 ?a24 ?l24 ?c24 ?k24 ?a25 ?l25 ?c25 ?k25 ?a26 ?l26 ?c26 ?k26 ?a27 ?l27 ?c27 ?k27 ?a28 ?l28 ?c28 ?k28 ?a29 ?l29 ?c29 ?k29 ?a30 ?l30 ?c30 ?k30 ?a31 ?l31 ?c31 ?k31 ?a32 ?l32 ?c32 ?k32 ?a33 ?l33 ?c33 ?k33 ?a34 ?l34 ?c34 ?k34 ?a35 ?l35 ?c35 ?k35 ?a36 ?l36 ?c36 ?k36 ?a37 ?l37 ?c37 ?k37 ?a38 ?l38 ?c38 ?k38 ?a39 ?l39 ?c39 ?k39 ?a40 ?l40 ?c40 ?k40 ?a41 ?l41 ?c41 ?k41 ?a42 ?i42 ?l42 ?c42 ?k42 ?a43 ?i43 ?l43 ?c43 ?k43 ?a44 ?i44 ?a44_Line ?bg44 ?br44 ?bf44 ?l44 ?c44 ?k44 ?a45 ?i45 ?l45 ?c45 ?k45 ?pg_Stairs ?hd_Stairs ?po_Stairs ?sa_Stairs ?mk_Stairs ?kc_Stairs ?n_Stairs_steps ?n_Stairs_heads ?n_Stairs_roads ?pg_Book ?hd_Book ?po_Book ?sa_Book ?mk_Book ?kc_Book ?n_Book_many ?n_Book_swaps ?pg_Scale ?hd_Scale ?po_Scale ?sa_Scale ?mk_Scale ?kc_Scale ?n_Scale_weights ?pg_Line ?hd_Line ?po_Line ?sa_Line ?mk_Line ?kc_Line ?n_Line_weights ?pg_Rest ?hd_Rest ?po_Rest ?sa_Rest ?mk_Rest ?kc_Rest ?n_Rest_weights ?n_Rest_rest ?z_ValueError ?z_abs ?z_any ?z_enumerate ?z_isinstance ?z_len ?z_list ?z_range ?z_reversed ?z_sum ?z_zip ?g_MOST_WARES ?g_MOST_SWAPS ?aK_BadBasket ?aK_BadBaskets ?aK_BadNames ?aK_BadRest ?aK_BadRoad ?aK_BadScale ?aK_BadSwap ?aK_BadWares ?aK_Endless ?aK_NoBook ?aK_NoLine ?aK_NoName ?aK_NoSwap ?aK_NotAlike ?aK_NotKept ?aK_OtherBook ?aK_OtherWares ?aK_SwapError ?aK_TooGreat ?aK_TooMany ?x_gt ?x_tk ?xi_BadBasket ?xga_BadBasket ?xgn_BadBasket ?xc_BadBasket ?xo_BadBasket ?xb_BadBasket ?es_BadBasket ?xi_BadRoad ?xga_BadRoad ?xgn_BadRoad ?xc_BadRoad ?xo_BadRoad ?xb_BadRoad ?es_BadRoad ?eb ?eo ?et ?i0_BadBasket ?i_BadBasket_BadBasket ?i_BadRoad_BadBasket ?i0_BadBaskets ?i_BadBasket_BadBaskets ?i_BadRoad_BadBaskets ?i0_BadNames ?i_BadBasket_BadNames ?i_BadRoad_BadNames ?i0_BadRest ?i_BadBasket_BadRest ?i_BadRoad_BadRest ?i0_BadRoad ?i_BadBasket_BadRoad ?i_BadRoad_BadRoad ?i0_BadScale ?i_BadBasket_BadScale ?i_BadRoad_BadScale ?i0_BadSwap ?i_BadBasket_BadSwap ?i_BadRoad_BadSwap ?i0_BadWares ?i_BadBasket_BadWares ?i_BadRoad_BadWares ?i0_Endless ?i_BadBasket_Endless ?i_BadRoad_Endless ?i0_NoBook ?i_BadBasket_NoBook ?i_BadRoad_NoBook ?i0_NoLine ?i_BadBasket_NoLine ?i_BadRoad_NoLine ?i0_NoName ?i_BadBasket_NoName ?i_BadRoad_NoName ?i0_NoSwap ?i_BadBasket_NoSwap ?i_BadRoad_NoSwap ?i0_NotAlike ?i_BadBasket_NotAlike ?i_BadRoad_NotAlike ?i0_NotKept ?i_BadBasket_NotKept ?i_BadRoad_NotKept ?i0_OtherBook ?i_BadBasket_OtherBook ?i_BadRoad_OtherBook ?i0_OtherWares ?i_BadBasket_OtherWares ?i_BadRoad_OtherWares ?i0_TooGreat ?i_BadBasket_TooGreat ?i_BadRoad_TooGreat ?i0_TooMany ?i_BadBasket_TooMany ?i_BadRoad_TooMany ?i0_ValueError ?i_BadBasket_ValueError ?i_BadRoad_ValueError
  (case aC_Stairs=>k_is)
  (case aC_Book=>k_is)
  (case aC_Scale=>k_is)
  (case aC_Line=>k_is)
  (case aC_Rest=>k_is)
  (case a0=>k_is)
  (case l0=>k_is)
  (case c0=>k_is)
  (case k0=>k_is)
  (case a1=>k_is)
  (case l1=>k_is)
  (case c1=>k_is)
  (case k1=>k_is)
  (case a2=>k_is)
  (case l2=>k_is)
  (case c2=>k_is)
  (case k2=>k_is)
  (case a3=>k_is)
  (case l3=>k_is)
  (case c3=>k_is)
  (case k3=>k_is)
  (case a4=>k_is)
  (case l4=>k_is)
  (case c4=>k_is)
  (case k4=>k_is)
  (case a5=>k_is)
  (case l5=>k_is)
  (case c5=>k_is)
  (case k5=>k_is)
  (case a6=>k_is)
  (case l6=>k_is)
  (case c6=>k_is)
  (case k6=>k_is)
  (case a7=>k_is)
  (case l7=>k_is)
  (case c7=>k_is)
  (case k7=>k_is)
  (case a8=>k_is)
  (case l8=>k_is)
  (case c8=>k_is)
  (case k8=>k_is)
  (case a9=>k_is)
  (case l9=>k_is)
  (case c9=>k_is)
  (case k9=>k_is)
  (case a10=>k_is)
  (case l10=>k_is)
  (case c10=>k_is)
  (case k10=>k_is)
  (case a11=>k_is)
  (case l11=>k_is)
  (case c11=>k_is)
  (case k11=>k_is)
  (case a12=>k_is)
  (case l12=>k_is)
  (case c12=>k_is)
  (case k12=>k_is)
  (case a13=>k_is)
  (case l13=>k_is)
  (case c13=>k_is)
  (case k13=>k_is)
  (case a14=>k_is)
  (case l14=>k_is)
  (case c14=>k_is)
  (case k14=>k_is)
  (case a15=>k_is)
  (case l15=>k_is)
  (case c15=>k_is)
  (case k15=>k_is)
  (case a16=>k_is)
  (case l16=>k_is)
  (case c16=>k_is)
  (case k16=>k_is)
  (case a17=>k_is)
  (case l17=>k_is)
  (case c17=>k_is)
  (case k17=>k_is)
  (case a18=>k_is)
  (case l18=>k_is)
  (case c18=>k_is)
  (case k18=>k_is)
  (case a19=>k_is)
  (case l19=>k_is)
  (case c19=>k_is)
  (case k19=>k_is)
  (case a20=>k_is)
  (case l20=>k_is)
  (case c20=>k_is)
  (case k20=>k_is)
  (case a21=>k_is)
  (case l21=>k_is)
  (case c21=>k_is)
  (case k21=>k_is)
  (case a22=>k_is)
  (case l22=>k_is)
  (case c22=>k_is)
  (case k22=>k_is)
  (case a23=>k_is)
  (case l23=>k_is)
  (case c23=>k_is)
  (case k23=>k_is)
  (case a24=>k_is)
  (case l24=>k_is)
  (case c24=>k_is)
  (case k24=>k_is)
  (case a25=>k_is)
  (case l25=>k_is)
  (case c25=>k_is)
  (case k25=>k_is)
  (case a26=>k_is)
  (case l26=>k_is)
  (case c26=>k_is)
  (case k26=>k_is)
  (case a27=>k_is)
  (case l27=>k_is)
  (case c27=>k_is)
  (case k27=>k_is)
  (case a28=>k_is)
  (case l28=>k_is)
  (case c28=>k_is)
  (case k28=>k_is)
  (case a29=>k_is)
  (case l29=>k_is)
  (case c29=>k_is)
  (case k29=>k_is)
  (case a30=>k_is)
  (case l30=>k_is)
  (case c30=>k_is)
  (case k30=>k_is)
  (case a31=>k_is)
  (case l31=>k_is)
  (case c31=>k_is)
  (case k31=>k_is)
  (case a32=>k_is)
  (case l32=>k_is)
  (case c32=>k_is)
  (case k32=>k_is)
  (case a33=>k_is)
  (case l33=>k_is)
  (case c33=>k_is)
  (case k33=>k_is)
  (case a34=>k_is)
  (case l34=>k_is)
  (case c34=>k_is)
  (case k34=>k_is)
  (case a35=>k_is)
  (case l35=>k_is)
  (case c35=>k_is)
  (case k35=>k_is)
  (case a36=>k_is)
  (case l36=>k_is)
  (case c36=>k_is)
  (case k36=>k_is)
  (case a37=>k_is)
  (case l37=>k_is)
  (case c37=>k_is)
  (case k37=>k_is)
  (case a38=>k_is)
  (case l38=>k_is)
  (case c38=>k_is)
  (case k38=>k_is)
  (case a39=>k_is)
  (case l39=>k_is)
  (case c39=>k_is)
  (case k39=>k_is)
  (case a40=>k_is)
  (case l40=>k_is)
  (case c40=>k_is)
  (case k40=>k_is)
  (case a41=>k_is)
  (case l41=>k_is)
  (case c41=>k_is)
  (case k41=>k_is)
  (case a42=>k_is)
  (case i42=>k_is)
  (case l42=>k_is)
  (case c42=>k_is)
  (case k42=>k_is)
  (case a43=>k_is)
  (case i43=>k_is)
  (case l43=>k_is)
  (case c43=>k_is)
  (case k43=>k_is)
  (case a44=>k_is)
  (case i44=>k_is)
  (case a44_Line=>k_is)
  (case bg44=>k_is)
  (case br44=>k_is)
  (case bf44=>k_is)
  (case l44=>k_is)
  (case c44=>k_is)
  (case k44=>k_is)
  (case a45=>k_is)
  (case i45=>k_is)
  (case l45=>k_is)
  (case c45=>k_is)
  (case k45=>k_is)
  (case pg_Stairs=>k_is)
  (case hd_Stairs=>k_is)
  (case po_Stairs=>k_is)
  (case sa_Stairs=>k_is)
  (case mk_Stairs=>k_is)
  (case kc_Stairs=>k_is)
  (case n_Stairs_steps=>k_is)
  (case n_Stairs_heads=>k_is)
  (case n_Stairs_roads=>k_is)
  (case pg_Book=>k_is)
  (case hd_Book=>k_is)
  (case po_Book=>k_is)
  (case sa_Book=>k_is)
  (case mk_Book=>k_is)
  (case kc_Book=>k_is)
  (case n_Book_many=>k_is)
  (case n_Book_swaps=>k_is)
  (case pg_Scale=>k_is)
  (case hd_Scale=>k_is)
  (case po_Scale=>k_is)
  (case sa_Scale=>k_is)
  (case mk_Scale=>k_is)
  (case kc_Scale=>k_is)
  (case n_Scale_weights=>k_is)
  (case pg_Line=>k_is)
  (case hd_Line=>k_is)
  (case po_Line=>k_is)
  (case sa_Line=>k_is)
  (case mk_Line=>k_is)
  (case kc_Line=>k_is)
  (case n_Line_weights=>k_is)
  (case pg_Rest=>k_is)
  (case hd_Rest=>k_is)
  (case po_Rest=>k_is)
  (case sa_Rest=>k_is)
  (case mk_Rest=>k_is)
  (case kc_Rest=>k_is)
  (case n_Rest_weights=>k_is)
  (case n_Rest_rest=>k_is)
  (case z_ValueError=>k_is)
  (case z_abs=>k_is)
  (case z_any=>k_is)
  (case z_enumerate=>k_is)
  (case z_isinstance=>k_is)
  (case z_len=>k_is)
  (case z_list=>k_is)
  (case z_range=>k_is)
  (case z_reversed=>k_is)
  (case z_sum=>k_is)
  (case z_zip=>k_is)
  (case g_MOST_WARES=>k_is)
  (case g_MOST_SWAPS=>k_is)
  (case aK_BadBasket=>k_is)
  (case aK_BadBaskets=>k_is)
  (case aK_BadNames=>k_is)
  (case aK_BadRest=>k_is)
  (case aK_BadRoad=>k_is)
  (case aK_BadScale=>k_is)
  (case aK_BadSwap=>k_is)
  (case aK_BadWares=>k_is)
  (case aK_Endless=>k_is)
  (case aK_NoBook=>k_is)
  (case aK_NoLine=>k_is)
  (case aK_NoName=>k_is)
  (case aK_NoSwap=>k_is)
  (case aK_NotAlike=>k_is)
  (case aK_NotKept=>k_is)
  (case aK_OtherBook=>k_is)
  (case aK_OtherWares=>k_is)
  (case aK_SwapError=>k_is)
  (case aK_TooGreat=>k_is)
  (case aK_TooMany=>k_is)
  (case x_gt=>k_is)
  (case x_tk=>k_is)
  (case xi_BadBasket=>k_exc)
  (case xga_BadBasket=>k_is)
  (case xgn_BadBasket=>k_is)
  (case xc_BadBasket=>k_is)
  (case xo_BadBasket=>k_is)
  (case xb_BadBasket=>k_is)
  (case es_BadBasket=>k_is)
  (case xi_BadRoad=>k_exc)
  (case xga_BadRoad=>k_is)
  (case xgn_BadRoad=>k_is)
  (case xc_BadRoad=>k_is)
  (case xo_BadRoad=>k_is)
  (case xb_BadRoad=>k_is)
  (case es_BadRoad=>k_is)
  (case eb=>k_is)
  (case eo=>k_is)
  (case et=>k_is)
  (case i0_BadBasket=>kit_is)
  (case i_BadBasket_BadBasket=>kit_is)
  (case i_BadRoad_BadBasket=>kit_is)
  (case i0_BadBaskets=>kit_is)
  (case i_BadBasket_BadBaskets=>kit_is)
  (case i_BadRoad_BadBaskets=>kit_is)
  (case i0_BadNames=>kit_is)
  (case i_BadBasket_BadNames=>kit_is)
  (case i_BadRoad_BadNames=>kit_is)
  (case i0_BadRest=>kit_is)
  (case i_BadBasket_BadRest=>kit_is)
  (case i_BadRoad_BadRest=>kit_is)
  (case i0_BadRoad=>kit_is)
  (case i_BadBasket_BadRoad=>kit_is)
  (case i_BadRoad_BadRoad=>kit_is)
  (case i0_BadScale=>kit_is)
  (case i_BadBasket_BadScale=>kit_is)
  (case i_BadRoad_BadScale=>kit_is)
  (case i0_BadSwap=>kit_is)
  (case i_BadBasket_BadSwap=>kit_is)
  (case i_BadRoad_BadSwap=>kit_is)
  (case i0_BadWares=>kit_is)
  (case i_BadBasket_BadWares=>kit_is)
  (case i_BadRoad_BadWares=>kit_is)
  (case i0_Endless=>kit_is)
  (case i_BadBasket_Endless=>kit_is)
  (case i_BadRoad_Endless=>kit_is)
  (case i0_NoBook=>kit_is)
  (case i_BadBasket_NoBook=>kit_is)
  (case i_BadRoad_NoBook=>kit_is)
  (case i0_NoLine=>kit_is)
  (case i_BadBasket_NoLine=>kit_is)
  (case i_BadRoad_NoLine=>kit_is)
  (case i0_NoName=>kit_is)
  (case i_BadBasket_NoName=>kit_is)
  (case i_BadRoad_NoName=>kit_is)
  (case i0_NoSwap=>kit_is)
  (case i_BadBasket_NoSwap=>kit_is)
  (case i_BadRoad_NoSwap=>kit_is)
  (case i0_NotAlike=>kit_is)
  (case i_BadBasket_NotAlike=>kit_is)
  (case i_BadRoad_NotAlike=>kit_is)
  (case i0_NotKept=>kit_is)
  (case i_BadBasket_NotKept=>kit_is)
  (case i_BadRoad_NotKept=>kit_is)
  (case i0_OtherBook=>kit_is)
  (case i_BadBasket_OtherBook=>kit_is)
  (case i_BadRoad_OtherBook=>kit_is)
  (case i0_OtherWares=>kit_is)
  (case i_BadBasket_OtherWares=>kit_is)
  (case i_BadRoad_OtherWares=>kit_is)
  (case i0_TooGreat=>kit_is)
  (case i_BadBasket_TooGreat=>kit_is)
  (case i_BadRoad_TooGreat=>kit_is)
  (case i0_TooMany=>kit_is)
  (case i_BadBasket_TooMany=>kit_is)
  (case i_BadRoad_TooMany=>kit_is)
  (case i0_ValueError=>kit_is)
  (case i_BadBasket_ValueError=>kit_is)
  (case i_BadRoad_ValueError=>kit_is)
end
