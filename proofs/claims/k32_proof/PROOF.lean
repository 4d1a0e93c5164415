import PyProof.Rows.All
import Wide.All
import OpenK.AllK
import Wide.FinOn
import Lean
import PyProof.EqAt
import PyProof.EqKinds
import PyProof.TupleCall
import PySem.Challenge.RW_swapbook_k32_fair_scales
set_option Elab.async false
set_option linter.all false
set_option maxRecDepth 100000
namespace Hd
open PySem PySem.W PyProof.Rows
def runT (p:Program) (w:World) (m:Nat) (a:Option Value):Nat->SharedT->Thread->Option SharedT
 | 0,_,_=>none
 | n+1,s,t=>match through t with
  | true=>some s
  | false=>match stepOk m a t with
   | true=>(match stepT (denote treeTable) p w s t with
    | some x=>runT p w m a n x.1 x.2
    | none=>none)
   | false=>none
theorem zjc {p:Program} {w:World} {m:Nat} {a:Option Value}:∀ {n:Nat} {s z:SharedT} {t:Thread},runT p w m a n s t=some z->topRun treeTable p w m a n s.abs t=some z.abs
 | 0,_,_,_,h=>by cases h
 | n+1,s,z,t,h=>by
  rw [runT] at h
  rw [topRun]
  cases h1:through t<;>rw [h1] at h
  ·cases h2:stepOk m a t<;>rw [h2] at h
   ·cases h
   ·cases h3:stepT (denote treeTable) p w s t with
    | none=>rw [h3] at h;cases h
    | some x=>rw [h3] at h;rw [stepT_spec (s':=x.1) (t':=x.2) h3];exact zjc h
  ·cases h;rfl
def tr:List Obj->Nat->BT->BT
 | [],_,t=>t
 | o :: r,n,t=>tr r (n+1) (t.ins n o)
noncomputable def boot (P:Params) (os:OsState):SharedT:=⟨tr (boot_heap P).objs.toList 0 .nil,11,(boot_heap P).life,Array.mk [],boot_drawn,boot_toks,os⟩
theorem ziz (P:Params) (os:OsState):(boot P os).abs=⟨boot_heap P,Array.mk [],boot_drawn,boot_toks,os⟩:=by kernel_rfl
theorem zjW (P:Params):((boot_heap P).isNs mainGlobals&&(Array.mk ([]:List GenState)).size == 0)=true:=by kernel_rfl
theorem zju (P:Params):(boot_heap P).objs.size=11:=by kernel_rfl
theorem zjy (P:Params):(boot_heap P).nsMap mainGlobals "__annotations__"=some (.ref 6):=by kernel_rfl
noncomputable def lk (p:Program) (w:World) (s:Shared):Bool:=staticsOk (importedModules p.main.body) (boot_heap w.params) s.heap&&namesBound p s.heap&&gensDone s&&laidKept (boot_heap w.params) s.heap
def getT (s:SharedT) (a:Nat):Option Obj:=match Nat.blt a s.n with
 | true=>alive ((s.tree.get a).getD default)
 | false=>none
theorem zjY (s:SharedT) (a:Nat):s.abs.heap.get? a=getT s a:=by
 show (absHeap s.tree s.n s.life).get? a=_
 unfold Heap.get? getT
 rw [absHeap_at]
 by_cases h:a<s.n
 ·have e:Nat.blt a s.n=true:=by simpa [Nat.blt_eq] using h
  rw [if_pos h,e]
  generalize (s.tree.get a).getD default=o
  obtain ⟨c,d,dt,sl⟩:=o
  cases dt<;>rfl
 ·have e:Nat.blt a s.n=false:=by
   cases q:Nat.blt a s.n with
   | false=>rfl
   | true=>exact absurd (by simpa [Nat.blt_eq] using q) h
  rw [if_neg h,e]
theorem y_is (as:List Addr) (s:SharedT):as.map s.abs.heap.get?=as.map (getT s):=by
 congr 1
 funext a
 exact zjY s a
theorem left_of {p q:Program} {loose:List Str} {Xt:Shared->Bool} {α:Type} {Yf:Shared->α} {Ya:World->α} {N:Nat} {g0:Bool} {YT:SharedT->α}
  (e:opening p=plainProg p.main.scope.names) (hN:Nat.ble 600 N=true) (f:∀ s,fenceModules? p s=some s) (hy:∀ s:SharedT,Yf s.abs=YT s)
  (h:∀ w os,(runT p w 11 (some (.ref 6)) N (boot w.params os) (topStub p)).map (λs=>(lk p w s.abs,openSeen q loose (importedModules p.main.body) Xt g0 s.abs,YT s))=some (true,openGood q loose,Ya w)):LeftO p q loose Xt Yf Ya N g0:=λw=>by
 obtain ⟨s,h1,h2⟩:=Option.map_eq_some_iff.mp (boot_open e hN f w)
 obtain ⟨hp,gs,dr,tk,os⟩:=s
 have h3:hp=boot_heap w.params∧gs=Array.mk []∧dr=boot_drawn∧tk=boot_toks:=by simpa using h2
 obtain ⟨rfl,rfl,rfl,rfl⟩:=h3
 obtain ⟨z,h4,h5⟩:=Option.map_eq_some_iff.mp (h w os)
 have h6:=zjc h4
 rw [ziz] at h6
 obtain ⟨l1,l2,l3⟩:_∧_∧_:=by simpa only [Prod.mk.injEq] using h5
 unfold openEnds
 rw [h1]
 show (topFrom treeTable p w N _).map _=_
 have h7:topFrom treeTable p w N ⟨boot_heap w.params,Array.mk [],boot_drawn,boot_toks,os⟩=some z.abs:=by
  unfold topFrom
  dsimp only
  rw [zjW,zju,zjy,h6]
  show (match lk p w z.abs with | true=>_ | false=>_)=_
  rw [l1]
 rw [h7]
 exact congrArg some (Prod.ext l2 ((hy z).trans l3))
end Hd
set_option maxRecDepth 100000
namespace My
open PySem PySem.W PyProof.Rows
noncomputable def hdF (q:Program) (as:List Addr) (N:Nat) (w:World) (os:OsState) :=
 (Hd.runT PySem.Challenge.rw_swapbook_k32_fair_scales.row.prog w 11 (some (.ref 6)) N (Hd.boot w.params os) (topStub PySem.Challenge.rw_swapbook_k32_fair_scales.row.prog)).map (λs=>(Hd.lk PySem.Challenge.rw_swapbook_k32_fair_scales.row.prog w s.abs,
  openSeen q [] (importedModules PySem.Challenge.rw_swapbook_k32_fair_scales.row.prog.main.body) (λs=>xlAt q [] s&&recOk (RowW.records PySem.Challenge.rw_swapbook_k32_fair_scales.row.toRowW) s) true s.abs,as.map (Hd.getT s)))
noncomputable def hdG (q:Program) (K:Params->Frag) (w:World):=some (true,openGood q [],(K w.params).map λp=>some p.2)
end My
set_option Elab.async false
lay_quick My.hdF My.hdG
namespace My
open PySem PySem.W PyProof.Rows
theorem hd_run {q:Program} {K:Params->Frag} {as:List Addr} {N:Nat} {e:∀ P,as=(K P).map (·.1)} (hN:Nat.ble 600 N=true)
  (h:∀ w os,W.Fast.tw6084617276858994590 q as N w os=W.Fast.tw7309032369996461460 q K w) :
  LeftO PySem.Challenge.rw_swapbook_k32_fair_scales.row.prog q [] (λs=>xlAt q [] s&&recOk (RowW.records PySem.Challenge.rw_swapbook_k32_fair_scales.row.toRowW) s) (kHook K as e).obs (kHook K as e).val N:=by
 rw [← W.Fast.te6084617276858994590,← W.Fast.te7309032369996461460] at h
 exact Hd.left_of (by kernel_rfl) hN (λs=>by kernel_rfl) (Hd.y_is as) h
end My
section
local macro_rules
 | `(tactic| refine $e:term)=>do
  if e.raw.isOfKind `Lean.Parser.Term.app&&e.raw[0].getId.eraseMacroScopes == `PySem.W.holds_open then
   let some _:=e.raw.find? (λs=>s.isOfKind `Lean.Parser.Term.syntheticHole&&s[1].getId.eraseMacroScopes == `hl) | Lean.Macro.throwUnsupported
   let h ← `(My.hd_run (by decide) (λw os=>by kernel_rfl))
   let e' ← e.raw.replaceM λs=>pure (if s.isOfKind `Lean.Parser.Term.syntheticHole&&s[1].getId.eraseMacroScopes == `hl then some h.raw else none)
   `(tactic| refine $(⟨e'⟩))
  else Lean.Macro.throwUnsupported
open PySem PySem.W PyProof.Rows
set_option maxRecDepth 100000 in
set_option maxHeartbeats 0 in
open_top My.headT for PySem.Challenge.rw_swapbook_k32_fair_scales
end
namespace L2
open PySem PySem.Spec PyProof.Rows
abbrev Key:=Sum Int Str
def zle:Key->Value->Bool
 | .inl k,v=>Value.isInt k v
 | .inr x,v=>Value.isStrOf x v
def zl9 (w:World):Key->Int
 | .inl k=>hashInt k
 | .inr x=>hashStr w x
theorem keyIs_shape:∀ {k:Key} {v:Value},zle k v=true->(∃ i t,k=Sum.inl i∧v=Value.int i t)∨(∃ x t,k=Sum.inr x∧v=Value.str x t)
 | .inl i,v,h=>by
  obtain ⟨t,e⟩:=Value.isInt_shape (k:=i) (v:=v) h
  exact .inl ⟨i,t,rfl,e⟩
 | .inr x,v,h=>by
  obtain ⟨t,e⟩:=Value.isStrOf_shape (x:=x) (v:=v) h
  exact .inr ⟨x,t,rfl,e⟩
theorem zj5 (a b:Int):decide ((Sum.inl a:Key)=Sum.inl b)=(a == b):=by
 by_cases e:a=b
 ·subst e;simp
 ·have h:¬ (Sum.inl a:Key)=Sum.inl b:=λq=>e (Sum.inl.inj q)
  rw [decide_eq_false h]
  exact (beq_eq_false_iff_ne.mpr e).symm
theorem zkx (a b:Str):decide ((Sum.inr a:Key)=Sum.inr b)=decide (a=b):=by
 by_cases e:a=b
 ·subst e;simp
 ·have h:¬ (Sum.inr a:Key)=Sum.inr b:=λq=>e (Sum.inr.inj q)
  rw [decide_eq_false h,decide_eq_false e]
theorem zlj (a:Int) (b:Str):decide ((Sum.inl a:Key)=Sum.inr b)=false:=decide_eq_false (λq=>nomatch q)
theorem zk9 (a:Str) (b:Int):decide ((Sum.inr a:Key)=Sum.inl b)=false:=decide_eq_false (λq=>nomatch q)
def zg4 (prog:Program) (w:World):PySem.KeyKind prog w Key where
 is:=zle
 hash:=zl9 w
 inj:=λv a b ha hb=>by
  rcases keyIs_shape ha with ⟨i,t,rfl,rfl⟩ | ⟨x,t,rfl,rfl⟩
  ·rcases keyIs_shape hb with ⟨j,u,rfl,e⟩ | ⟨y,u,rfl,e⟩
   ·injection e with e1 _;rw [e1]
   ·exact nomatch e
  ·rcases keyIs_shape hb with ⟨j,u,rfl,e⟩ | ⟨y,u,rfl,e⟩
   ·exact nomatch e
   ·injection e with e1 _;rw [e1]
 byValue:=λk v h=>by
  rcases keyIs_shape h with ⟨i,t,rfl,rfl⟩ | ⟨x,t,rfl,rfl⟩<;>rfl
 pyHash:=λhv h=>by
  rcases keyIs_shape hv with ⟨i,t,rfl,rfl⟩ | ⟨x,t,rfl,rfl⟩
  ·exact wpAny_pyHash_int h
  ·exact wpAny_pyHash_str h
 eqBool:=λhu hv h=>by
  rcases keyIs_shape hu with ⟨i,t,rfl,rfl⟩ | ⟨x,t,rfl,rfl⟩
  ·rcases keyIs_shape hv with ⟨j,u,rfl,rfl⟩ | ⟨y,u,rfl,rfl⟩
   ·rw [zj5] at h;exact wpAny_eqBool_int h
   ·rw [zlj] at h;exact SeqAt.EqAt.int_str i t y u _ _ _ _ h
  ·rcases keyIs_shape hv with ⟨j,u,rfl,rfl⟩ | ⟨y,u,rfl,rfl⟩
   ·rw [zk9] at h;exact SeqAt.EqAt.str_int x t j u _ _ _ _ h
   ·rw [zkx] at h;exact wpAny_eqBool_str h
 «strs»:=λk x t v h=>by
  rcases keyIs_shape h with ⟨i,u,rfl,e⟩ | ⟨y,u,rfl,e⟩
  ·exact nomatch e
  ·injection e with e1 _
   subst e1
   cases v<;>rfl
end L2
namespace L2
open PySem PySem.Spec PyProof.Rows
inductive V where
 | non | bl (b:Bool) | int (i:Int) | str (x:Str) | byt (b:Array UInt8) | flt (b:UInt64) | ref (a:Addr) | ty (n:String)
 deriving DecidableEq
def RelV:V->Value->Prop
 | .non,u=>u=Value.none
 | .bl b,u=>u=Value.bool b
 | .int i,u=>∃ t,u=Value.int i t
 | .str x,u=>∃ t,u=Value.str x t
 | .byt b,u=>∃ t,u=Value.bytes b t
 | .flt b,u=>∃ t,u=Value.float b t
 | .ref a,u=>u=Value.ref a
 | .ty n,u=>u=Value.type n
abbrev Vals:List V->List Value->Prop:=Paired RelV
theorem Vals.length {xs:List V} {us:List Value} (r:Vals xs us):xs.length=us.length:=Paired.length r
theorem Vals.get:∀ {xs:List V} {us:List Value} {i:Nat} {x:V},Vals xs us->xs[i]?=some x->∃ u,us[i]?=some u∧RelV x u
 | _,_,_,_,.nil,e=>by simp at e
 | _,_,0,_,.cons r _,e=>by simp at e;subst e;exact ⟨_,rfl,r⟩
 | _,_,i+1,x,.cons _ t,e=>by
  obtain ⟨u,h1,h2⟩:=Vals.get (i:=i) (x:=x) t (by simpa using e)
  exact ⟨u,by simpa using h1,h2⟩
theorem Vals.set {x:V} {u:Value} (r:RelV x u):∀ {xs:List V} {us:List Value} (i:Nat),Vals xs us->Vals (xs.set i x) (us.set i u)
 | _,_,_,.nil=>.nil
 | _,_,0,.cons _ t=>.cons r t
 | _,_,i+1,.cons q t=>.cons q (Vals.set r i t)
theorem Vals.append:∀ {xs ys:List V} {us ws:List Value},Vals xs us->Vals ys ws->Vals (xs++ys) (us++ws)
 | _,_,_,_,.nil,s=>s
 | _,_,_,_,.cons r t,s=>.cons r (Vals.append t s)
theorem Vals.take:∀ {xs:List V} {us:List Value} (n:Nat),Vals xs us->Vals (xs.take n) (us.take n)
 | _,_,0,_=>.nil
 | _,_,_+1,.nil=>.nil
 | _,_,n+1,.cons r t=>.cons r (Vals.take n t)
theorem Vals.drop:∀ {xs:List V} {us:List Value} (n:Nat),Vals xs us->Vals (xs.drop n) (us.drop n)
 | _,_,0,r=>r
 | _,_,_+1,.nil=>.nil
 | _,_,n+1,.cons _ t=>Vals.drop n t
def zh9:Option V->Option Value->Prop
 | some v,some u=>RelV v u
 | none,none=>True
 | _,_=>False
def KV {κ:Type}:List (κ×V)->List (κ×Value)->Prop:=Paired λ(p:κ×V) (q:κ×Value)=>p.1=q.1∧RelV p.2 q.2
def kV:Key->V
 | .inl i=>.int i
 | .inr x=>.str x
inductive HO where
 | lst (xs:List V)
 | tup (xs:List V)
 | dK (kvs:List (Key×V)) | dT (kvs:List (List Key×V))
 | set (S:Int->Bool) (n:Nat)
 | ins (C dx:Addr) (fs:List (Str×V))
 | own (x:Addr)
 | xd (fs:List (Str×V))
 | met (f x:Addr)
 | rng (lo hi:Int)
 | frz (o:Obj) (u:HO)
 | tbl (ps:Array Value)
 | ext (φ:Heap->Prop)
abbrev Hp:=Addr->Option HO
def upd (H:Hp) (a:Addr) (o:HO):Hp:=λb=>if b=a then some o else H b
theorem upd_same {H:Hp} {a:Addr} {o:HO}:upd H a o a=some o:=by unfold upd;rw [if_pos rfl]
theorem upd_ne {H:Hp} {a b:Addr} {o:HO} (h:b≠a):upd H a o b=H b:=by unfold upd;rw [if_neg h]
theorem ziT {H:Hp} {a b:Addr} {o u:HO} (h:H a=some o) (h':H b=some u) (d:o≠u):a≠b:=by
 intro e;subst e;rw [h] at h';exact d (Option.some.inj h')
theorem ne_of_none {H:Hp} {a b:Addr} {o:HO} (h:H a=some o) (h':H b=none):a≠b:=by
 intro e;subst e;rw [h] at h';cases h'
section
variable (P:Program) (w:World)
def zcf (H:Hp) (h:Heap) (a:Addr):HO->Prop
 | .lst xs=>xs.length≤sizeLine∧∃ (its:List Value) (n:Nat),Vals xs its∧h.get? a=some { cls:=.type "list",data:=.seq its.toArray n }
 | .tup xs=>xs.length≤sizeLine∧∃ its:List Value,Vals xs its∧IsTup h a its.toArray
 | .dK kvs=>kvs.length≤sizeLine∧(a == sysModules)=false∧∃ vs,KV kvs vs∧h.DictOf (zg4 P w) a vs
 | .dT kvs=>kvs.length≤sizeLine∧(a == sysModules)=false∧∃ xs:List (List Key×Addr×Value),
   Paired (λ(p:List Key×V) (q:List Key×Addr×Value)=>p.1=q.1∧H q.2.1=some (.tup (p.1.map kV))∧RelV p.2 q.2.2) kvs xs ∧
   ∃ o es ep,h.get? a=some o∧o.ExactDict∧o.data=.dict es ep∧es.toList=xs.map (entryOfKey (tupleKind (zg4 P w)))∧(xs.map (·.1)).Nodup
 | .set S n=>h.SetOf (intKind P w) a S n
 | .ins C dx fs=>H dx=some (.own a)∧fs.length≤1000∧dx≠a∧h.get? a=some (W.instObj C dx) ∧
   ∃ mA,h.Ns1 dx mA∧(∀ f,zh9 (fs.lookup f) (mA f))∧PySem.Within mA (fs.map (·.1))
 | .own _=>∃ o,h.get? a=some o
 | .xd fs=>∃ mA,h.Ns1 a mA∧∀ f,zh9 (fs.lookup f) (mA f)
 | .rng lo hi=>∃ t u v,h.get? a=some { cls:=.type "range",data:=.fields #[.int lo t,.int hi u,.int 1 v] }
 | .frz o u=>h.get? a=some o∧zcf H h a u
 | .tbl ps=>h.get? a=some { cls:=.none,data:=.fields ps }
 | .met f x=>h.get? a=some (W.methodObj (.ref f) (.ref x))
 | .ext φ=>φ h∧(∃ o,h.get? a=some o)∧∀ h1 h2:Heap,φ h1->(∀ o,h1.get? a=some o->h2.get? a=some o)->φ h2
def HOk (H:Hp) (h:Heap):Prop:=∀ a o,H a=some o->zcf P w H h a o
end
section
variable {P:Program} {w:World} {H H':Hp} {h h':Heap} {a:Addr} {o:HO}
theorem zcf.lt (x:zcf P w H h a o):a<h.objs.size:=by
 cases o with
 | lst xs=>obtain ⟨_,_,_,_,e⟩:=x;exact Heap.lt_size e
 | tup xs=>obtain ⟨_,_,_,p⟩:=x;exact p.lt
 | dK kvs=>obtain ⟨_,_,_,_,o,_,_,e,_⟩:=x;exact Heap.lt_size e
 | dT kvs=>obtain ⟨_,_,_,_,o,_,_,e,_⟩:=x;exact Heap.lt_size e
 | set S n=>obtain ⟨o,_,_,_,e,_⟩:=x;exact Heap.lt_size e
 | ins C dx fs=>obtain ⟨_,_,_,e,_⟩:=x;exact Heap.lt_size e
 | own y=>obtain ⟨_,e⟩:=x;exact Heap.lt_size e
 | xd fs=>obtain ⟨_,⟨_,_,_,e,_⟩,_⟩:=x;exact Heap.lt_size e
 | rng lo hi=>obtain ⟨_,_,_,e⟩:=x;exact Heap.lt_size e
 | frz ob u=>obtain ⟨e,_⟩:=x;exact Heap.lt_size e
 | tbl ps=>exact Heap.lt_size (show h.get? a=some _ from x)
 | met f y=>exact Heap.lt_size (show h.get? a=some _ from x)
 | ext φ=>obtain ⟨_,⟨_,e⟩,_⟩:=x;exact Heap.lt_size e
theorem Paired.mapP {α β:Type} {F G:α->β->Prop}:∀ {l₁:List α} {l₂:List β},Paired F l₁ l₂->(∀ a b,F a b->G a b)->Paired G l₁ l₂
 | _,_,.nil,_=>.nil
 | _,_,.cons r t,f=>.cons (f _ _ r) (Paired.mapP t f)
theorem zcf.stay (x:zcf P w H h a o) (k:∀ b u,(b=a∨H b=some (.own a))->h.get? b=some u->h'.get? b=some u)
  (ho:∀ b,H b=some (.own a)->H' b=some (.own a)) (ht:∀ b xs,H b=some (.tup xs)->H' b=some (.tup xs)):zcf P w H' h' a o:=by
 induction o with
 | lst xs=>obtain ⟨z,its,n,r,e⟩:=x;exact ⟨z,its,n,r,k _ _ (.inl rfl) e⟩
 | tup xs=>obtain ⟨z,its,r,ob,e,c⟩:=x;exact ⟨z,its,r,ob,k _ _ (.inl rfl) e,c⟩
 | dK kvs=>obtain ⟨z,y,vs,r,ob,es,ep,e,c⟩:=x;exact ⟨z,y,vs,r,ob,es,ep,k _ _ (.inl rfl) e,c⟩
 | dT kvs =>
  obtain ⟨z,y,xs,r,ob,es,ep,e,c⟩:=x
  exact ⟨z,y,xs,Paired.mapP r λp q z=>⟨z.1,ht _ _ z.2.1,z.2.2⟩,ob,es,ep,k _ _ (.inl rfl) e,c⟩
 | set S n=>obtain ⟨ob,es,ep,t,e,c⟩:=x;exact ⟨ob,es,ep,t,k _ _ (.inl rfl) e,c⟩
 | ins C dx fs =>
  obtain ⟨d,z,ne,e,mA,⟨od,es,ep,e2,c⟩,r⟩:=x
  exact ⟨ho _ d,z,ne,k _ _ (.inl rfl) e,mA,⟨od,es,ep,k _ _ (.inr d) e2,c⟩,r⟩
 | own y=>obtain ⟨ob,e⟩:=x;exact ⟨ob,k _ _ (.inl rfl) e⟩
 | xd fs=>obtain ⟨mA,⟨od,es,ep,e,c⟩,r⟩:=x;exact ⟨mA,⟨od,es,ep,k _ _ (.inl rfl) e,c⟩,r⟩
 | rng lo hi=>obtain ⟨t,u,v,e⟩:=x;exact ⟨t,u,v,k _ _ (.inl rfl) e⟩
 | frz ob u ih=>obtain ⟨e,q⟩:=x;exact ⟨k _ _ (.inl rfl) e,ih q⟩
 | tbl ps =>
  have e:h.get? a=some { cls:=.none,data:=.fields ps }:=x
  show h'.get? a=some { cls:=.none,data:=.fields ps }
  exact k a _ (.inl rfl) e
 | met f y =>
  have e:h.get? a=some (W.methodObj (.ref f) (.ref y)):=x
  show h'.get? a=some (W.methodObj (.ref f) (.ref y))
  exact k a _ (.inl rfl) e
 | ext φ=>obtain ⟨p,⟨o,e⟩,st⟩:=x;exact ⟨st _ _ p λo q=>k _ _ (.inl rfl) q,⟨o,k _ _ (.inl rfl) e⟩,st⟩
theorem HOk.lt (x:HOk P w H h) (e:H a=some o):a<h.objs.size:=(x a o e).lt
theorem HOk.fresh (x:HOk P w H h) (e:h.objs.size≤a):H a=none:=by
 cases q:H a with
 | none=>rfl
 | some u=>exact absurd (Nat.lt_of_lt_of_le (x.lt q) e) (Nat.lt_irrefl _)
theorem HOk.kept (x:HOk P w H h) (k:∀ b u,h.get? b=some u->h'.get? b=some u):HOk P w H h':=λa o e =>
 (x a o e).stay (λb u _ q=>k b u q) (λ_ q=>q) λ_ _ q=>q
theorem HOk.laid (x:HOk P w H h) (k:∀ b u,h.get? b=some u->h'.get? b=some u) (hp:h.objs.size≤a) (new:zcf P w (upd H a o) h' a o):HOk P w (upd H a o) h':=λb u e=>by
 have hn:=x.fresh hp
 by_cases hb:b=a
 ·subst hb;rw [upd_same] at e;cases e;exact new
 ·rw [upd_ne hb] at e
  exact (x b u e).stay (λc v _ q=>k c v q) (λc q=>by rw [upd_ne (ne_of_none q hn)];exact q) λc xs q=>by rw [upd_ne (ne_of_none q hn)];exact q
end
def Rd (H:Hp) (a:Addr) (u:HO):Prop:=H a=some u∨∃ o,H a=some (.frz o u)
theorem Rd.ok {P:Program} {w:World} {H:Hp} {h:Heap} {a:Addr} {u:HO} (r:Rd H a u) (x:HOk P w H h):zcf P w H h a u:=by
 rcases r with r | ⟨o,r⟩
 ·exact x a u r
 ·obtain ⟨_,q⟩:=x a _ r
  exact q
def Mut:Option HO->Prop
 | some (.lst _)=>True
 | some (.dK _)=>True
 | some (.dT _)=>True
 | some (.set _ _)=>True
 | some (.ins _ _ _)=>True
 | some (.ext _)=>True
 | _=>False
section
variable {P:Program} {w:World} {H:Hp} {h h':Heap} {x e:Addr} {o':HO}
theorem HOk.write (ok:HOk P w H h) (mu:Mut (H x)) (he:e=x∨H e=some (.own x)) (k:∀ b u,b≠e->h.get? b=some u->h'.get? b=some u) (heo:∃ u,h'.get? e=some u)
  (new:zcf P w (upd H x o') h' x o'):HOk P w (upd H x o') h':=λb u q=>by
 have nown:∀ c y,H c=some (.own y)->c≠x:=λc y r z=>by subst z;rw [r] at mu;exact mu
 have ntup:∀ c xs,H c=some (.tup xs)->c≠x:=λc xs r z=>by subst z;rw [r] at mu;exact mu
 by_cases hb:b=x
 ·subst hb;rw [upd_same] at q;cases q;exact new
 ·rw [upd_ne hb] at q
  by_cases hbe:b=e
  ·have q':H b=some (.own x):=by
    rcases he with z | z
    ·exact absurd (hbe.trans z) hb
    ·rw [hbe];exact z
   rw [q] at q';cases q'
   obtain ⟨v,hv⟩:=heo
   exact ⟨v,by rw [hbe];exact hv⟩
  ·refine (ok b u q).stay (λc v hc r=>k c v ?_ r) (λc r=>by rw [upd_ne (nown c b r)];exact r) λc xs r=>by rw [upd_ne (ntup c xs r)];exact r
   rcases hc with rfl | hc
   ·exact hbe
   ·rintro rfl
    rcases he with z | z
    ·exact nown c b hc z
    ·rw [hc] at z;cases z;exact hb rfl
end
structure Un (fs ex:List Addr) (H H':Hp) (h h':Heap):Prop where
 keep:∀ b o,h.get? b=some o->H b=none->b ∉ fs->b ∉ ex->h'.get? b=some o
 slot:∀ b o,h.get? b=some o->H b=none->b∈fs->b ∉ ex->∃ sl,h'.get? b=some { o with slots:=sl }
 free:∀ b o,h.get? b=some o->H b=none->b ∉ ex->H' b=none
 there:∀ b o,h.get? b=some o->b ∉ ex->∃ o',h'.get? b=some o'
 tups:∀ b xs,H b=some (.tup xs)->H' b=some (.tup xs)
 frzs:∀ b o u,H b=some (.frz o u)->H' b=some (.frz o u)
 tbls:∀ b ps,H b=some (.tbl ps)->∃ more,H' b=some (.tbl (ps++more))
section
variable {fs fs' ex ex':List Addr} {H H1 H2:Hp} {h h1 h2 h':Heap} {a x e:Addr} {o:HO}
theorem Un.any (u:Un fs ex H H1 h h1) {b:Addr} {ob:Obj} (q:h.get? b=some ob) (n:H b=none) (hx:b ∉ ex):∃ sl,h1.get? b=some { ob with slots:=sl }:=by
 by_cases hb:b∈fs
 ·exact u.slot b ob q n hb hx
 ·exact ⟨ob.slots,u.keep b ob q n hb hx⟩
theorem Un.kept (k:∀ b u,h.get? b=some u->h'.get? b=some u):Un fs ex H H h h' :=
 ⟨λb ob q _ _ _=>k b ob q,λb ob q _ _ _=>⟨ob.slots,k b ob q⟩,λ_ _ _ n _=>n,λb ob q _=>⟨ob,k b ob q⟩,λ_ _ q=>q,λ_ _ _ q=>q,λ_ ps q=>⟨#[],by rw [q];simp⟩⟩
theorem Un.refl:Un fs ex H H h h:=Un.kept λ_ _ q=>q
theorem Un.laid (k:∀ b u,h.get? b=some u->h'.get? b=some u) (hp:h.objs.size≤a) (hn:H a=none):Un fs ex H (upd H a o) h h' where
 keep:=λb u q _ _ _=>k b u q
 slot:=λb u q _ _ _=>⟨u.slots,k b u q⟩
 free:=λb u q n _=>by rw [upd_ne (Nat.ne_of_lt (Nat.lt_of_lt_of_le (Heap.lt_size q) hp))];exact n
 there:=λb u q _=>⟨u,k b u q⟩
 tups:=λb xs q=>by rw [upd_ne (ne_of_none q hn)];exact q
 frzs:=λb u xs q=>by rw [upd_ne (ne_of_none q hn)];exact q
 tbls:=λb ps q=>⟨#[],by rw [upd_ne (ne_of_none q hn),q];simp⟩
theorem Un.write (mu:Mut (H x)) (he:e=x∨H e=some (.own x)) (k:∀ b u,b≠e->h.get? b=some u->h'.get? b=some u) (heo:∃ u,h'.get? e=some u):Un fs ex H (upd H x o) h h':=by
 have hx:∀ b,H b=none->b≠x:=λb n z=>by subst z;rw [n] at mu;exact mu
 have hb:∀ b,H b=none->b≠e:=λb n z=>by
  subst z
  rcases he with r | r
  ·exact hx b n r
  ·rw [n] at r;cases r
 have hm:∀ b u,H b=some u->¬ Mut (some u)->b≠x:=λb u q nm z=>by subst z;rw [q] at mu;exact nm mu
 refine ⟨λb u q n _ _=>k b u (hb b n) q,λb u q n _ _=>⟨u.slots,k b u (hb b n) q⟩,λb u q n _=>by rw [upd_ne (hx b n)];exact n,λb u q _=>?_,
  λb xs q=>by rw [upd_ne (hm b _ q λz=>z)];exact q,λb u xs q=>by rw [upd_ne (hm b _ q λz=>z)];exact q,λb ps q=>⟨#[],by rw [upd_ne (hm b _ q λz=>z),q];simp⟩⟩
 by_cases hbe:b=e
 ·subst hbe;exact heo
 ·exact ⟨u,k b u hbe q⟩
end
def trk (h:Heap) (H:Hp):List Addr:=(List.range h.objs.size).filter λa=>(H a).isSome
def ziE (h:Heap) (H:Hp):Heap:=W.hideAll h (trk h H)
theorem zhQ (h:Heap) (H:Hp):(ziE h H).objs.size=h.objs.size:=W.hideAll_size _ _
theorem zib {h:Heap} {H:Hp} {b:Addr} {o:Obj} (e:h.get? b=some o) (n:H b=none):(ziE h H).get? b=some o :=
 W.hideAll_get _ e λhm=>by
  have q:(H b).isSome=true:=(List.mem_filter.mp hm).2
  rw [n] at q;simp at q
theorem zjQ {h:Heap} {H:Hp} {b:Addr} {o:Obj} (e:(ziE h H).get? b=some o):h.get? b=some o∧H b=none:=by
 have e':h.get? b=some o:=W.of_hideAll (trk h H) e
 refine ⟨e',?_⟩
 cases q:H b with
 | none=>rfl
 | some x =>
  have hm:b∈trk h H:=List.mem_filter.mpr ⟨List.mem_range.mpr (Heap.lt_size e'),by simp [q]⟩
  have z:(ziE h H).get? b=none:=W.hideAll_none (trk h H) hm
  rw [z] at e;cases e
def allNews (g h:Heap) (L:Addr):List (Addr×Obj):=(List.range h.objs.size).filterMap λa=>if a=L∨(g.get? a).isSome=true then none else (h.get? a).map λo=>(a,o)
def rest (g h:Heap) (L d:Addr):List (Addr×Obj):=(allNews g h L).filter λp=>decide (p.1≠d)
end L2
namespace L2
open PySem PySem.Spec PyProof.Rows
structure Mod (K:W.Frag) (mg:Str->Option Value) (base:Heap):Prop where
 kin:K.In base
 glob:base.Ns mainGlobals mg
 blt:∃ mb,base.Ns builtinsNs mb∧∀ x:Str,x≠"__name__"->mb x=bootBuiltins x
 nolimit:base.NoLimit
structure Cx where
 prog:Program
 w:World
 K:W.Frag
 mg:Str->Option Value
 base:Heap
 A:Around
 N:List Str
 s₀:Shared
 H₀:Hp
 env:Env
 outer:List Env
 stack:List Env
 ex:List Addr
 fn:Str->Bool
 calm:Bool
 pn:List (Addr×Obj)
 xe:Value->Shared->Prop
def frs (l:List Env):List Addr:=l.filterMap (·.frame)
abbrev Cx.fs (X:Cx):List Addr:=frs X.outer
def Vis (sc:Scope) (x:Str):Prop:=sc.names.lookup x=some .local∨sc.names.lookup x=some .cell∨sc.names.lookup x=some .free
def Loc (sc:Scope) (x:Str):Prop:=sc.names.lookup x=some .local∨sc.names.lookup x=some .cell
def zlW (env:Env) (h:Heap) (m:Str->Option Value) (x:Str) (u:Value):Prop :=
 (env.kindOf x=some .local∧m x=some u)∨((env.kindOf x=some .cell∨env.kindOf x=some .free)∧∃ c,env.cells.lookup x=some c∧h.IsCell c (some u))
structure Cx.Ok (X:Cx):Prop where
 mod:Mod X.K X.mg X.base
 kind:X.env.scope.kind=.function
 glob:X.env.globals=mainGlobals
 blt:X.env.builtins=builtinsNs
 above:X.s₀.heap.objs.size≤X.env.locals
 inj:∀ x y c,X.env.cells.lookup x=some c->X.env.cells.lookup y=some c->x=y
 has:∀ x,(X.env.kindOf x=some .cell∨X.env.kindOf x=some .free)->∃ c,X.env.cells.lookup x=some c
 cab:∀ x c,X.fn x=true->X.env.cells.lookup x=some c->X.s₀.heap.objs.size≤c
 hd:X.calm=true->X.A.handled=none
 frames:X.A.frames=some X.stack
 stk:X.stack=X.outer∨(X.stack=X.env :: X.outer∧X.env.frame=some X.env.locals)
 exf:∀ b∈X.ex,b≠X.env.locals∧∀ x c,X.env.cells.lookup x=some c->c≠b
 bs:∀ b o,X.base.get? b=some o->X.s₀.heap.get? b=some o∧X.H₀ b=none
 bsz:X.base.objs.size≤X.s₀.heap.objs.size
 noex:∀ b o,X.base.get? b=some o->b ∉ X.ex
 exfs:∀ b∈X.ex,b ∉ X.fs
 funs:X.s₀.heap.FunFrames X.base X.outer
 frf:∀ b∈X.fs,X.H₀ b=none
structure Inv (X:Cx) (pins:List (Addr×Obj)) (σ:List (Option V)) (H:Hp) (s:Shared):Prop where
 ok:X.Ok
 os:s.os=X.s₀.os
 bare:AllBare s.gens
 base:Un X.fs X.ex X.H₀ H X.s₀.heap s.heap
 loc:∃ m,s.heap.Ns X.env.locals m∧∀ (i:Nat) (x:Str) (v:V),X.N[i]?=some x->σ[i]?=some (some v)->Vis X.env.scope x->∃ u,RelV v u∧zlW X.env s.heap m x u
 cell:∀ x c,X.env.cells.lookup x=some c->∃ v,s.heap.IsCell c v
 free:H X.env.locals=none
 freeC:∀ x c,X.env.cells.lookup x=some c->H c=none
 pin:∀ p∈X.pn++pins,s.heap.get? p.1=some p.2∧H p.1=none∧p.1≠X.env.locals∧p.1 ∉ X.fs∧∀ v,p.2.data≠.cell v
 hok:HOk X.prog X.w H s.heap
 len:σ.length=X.N.length
section
variable {X:Cx} {pins:List (Addr×Obj)} {σ:List (Option V)} {H H':Hp} {s:Shared} {h':Heap}
theorem Cx.Ok.nofr (ok:X.Ok) {b:Addr} {o:Obj} (e:X.base.get? b=some o):b ∉ X.fs:=λhb=>by
 have:=(ok.funs.mem hb).1
 rw [e] at this;cases this
theorem Inv.bs (I:Inv X pins σ H s):∀ b o,X.base.get? b=some o->s.heap.get? b=some o∧H b=none:=λb o e =>
 ⟨I.base.keep b o (I.ok.bs b o e).1 (I.ok.bs b o e).2 (I.ok.nofr e) (I.ok.noex b o e),I.base.free b o (I.ok.bs b o e).1 (I.ok.bs b o e).2 (I.ok.noex b o e)⟩
theorem Inv.bk (I:Inv X pins σ H s):∀ b o,X.base.get? b=some o->s.heap.get? b=some o:=λb o e=>(I.bs b o e).1
theorem Inv.mod (I:Inv X pins σ H s):Mod X.K X.mg X.base:=I.ok.mod
theorem Inv.kIn (I:Inv X pins σ H s):X.K.In s.heap:=I.ok.mod.kin.keeps I.bk
theorem Inv.nolimit (I:Inv X pins σ H s):s.heap.NoLimit:=I.ok.mod.nolimit.keeps I.bk
theorem Inv.fr (I:Inv X pins σ H s):∃ m,Fr X.base X.env.locals s.heap m :=
 let ⟨m,hn,_⟩:=I.loc
 ⟨m,hn,I.bk,Nat.le_trans I.ok.bsz I.ok.above⟩
theorem Inv.lt (I:Inv X pins σ H s):X.env.locals<s.heap.objs.size:=let ⟨_,hn,_⟩:=I.loc;hn.lt
theorem Inv.sz (I:Inv X pins σ H s):X.s₀.heap.objs.size≤s.heap.objs.size:=Nat.le_trans I.ok.above (Nat.le_of_lt I.lt)
theorem Inv.nofs (I:Inv X pins σ H s) {a:Addr} (h:s.heap.objs.size≤a):a ∉ X.fs:=λhb=>by
 obtain ⟨_,o,ho,_⟩:=I.ok.funs.mem hb
 exact absurd (Nat.lt_of_lt_of_le (Heap.lt_size ho) (Nat.le_trans I.sz h)) (Nat.lt_irrefl _)
theorem Inv.cne (I:Inv X pins σ H s):∀ x c,X.env.cells.lookup x=some c->c≠X.env.locals:=λx c e z=>by
 obtain ⟨v,o,ho,hd⟩:=I.cell x c e
 obtain ⟨m,⟨o',es,ep,ho',hd',_⟩,_⟩:=I.loc
 rw [z,ho'] at ho;cases ho;rw [hd'] at hd;cases hd
theorem Inv.funs (I:Inv X pins σ H s):s.heap.FunFrames X.base X.outer:=by
 have all:∀ (l:List Env),(∀ b∈frs l,b∈X.fs)->X.s₀.heap.FunFrames X.base l->s.heap.FunFrames X.base l:=by
  intro l
  induction l with
  | nil=>intro _ _;trivial
  | cons env r ih =>
   intro hs hl
   obtain ⟨hk,⟨L,o,hf,hn,ho,hd⟩,hr⟩:=hl
   have hL:L∈X.fs:=hs L (by unfold frs;rw [List.filterMap_cons,hf];exact List.mem_cons_self)
   obtain ⟨sl,e⟩:=I.base.slot L o ho (I.ok.frf L hL) hL λz=>I.ok.exfs L z hL
   exact ⟨hk,⟨L,_,hf,hn,e,hd⟩,ih (λb hb=>hs b (by unfold frs;rw [List.filterMap_cons,hf];exact List.mem_cons_of_mem _ hb)) hr⟩
 exact all X.outer (λ_ hb=>hb) I.ok.funs
theorem Inv.stack (I:Inv X pins σ H s):s.heap.FunFrames X.base X.stack:=by
 rcases I.ok.stk with e | ⟨e,hf⟩
 ·rw [e];exact I.funs
 ·rw [e]
  obtain ⟨m,hn,_⟩:=I.loc
  refine .cons (by rw [I.ok.kind];decide) hf hn ?_ I.funs
  exact Heap.get?_none_of_le (Nat.le_trans I.ok.bsz I.ok.above)
theorem Inv.stkSub (I:Inv X pins σ H s):∀ b∈frs X.stack,b∈X.env.locals :: X.fs:=λb hb=>by
 rcases I.ok.stk with e | ⟨e,hf⟩
 ·rw [e] at hb;exact List.mem_cons_of_mem _ hb
 ·rw [e] at hb
  unfold frs at hb
  rw [List.filterMap_cons,hf] at hb
  exact hb
theorem Inv.stkFree (I:Inv X pins σ H s):∀ b∈frs X.stack,H b=none:=λb hb=>by
 rcases List.mem_cons.mp (I.stkSub b hb) with e | hb
 ·rw [e];exact I.free
 ·obtain ⟨_,o,ho,_⟩:=I.ok.funs.mem hb
  exact I.base.free b o ho (I.ok.frf b hb) λz=>I.ok.exfs b z hb
theorem Inv.step {g':Array GenState} {t':Nat} {d':Drawn} {ch:List Addr} (I:Inv X pins σ H s)
  (hch:∀ b∈ch,(b∈X.ex∨X.s₀.heap.objs.size≤b)∧b≠X.env.locals∧(∀ x c,X.env.cells.lookup x=some c->c≠b)∧∀ p∈X.pn++pins,p.1≠b)
  (keep:∀ b o,b≠X.env.locals->b ∉ X.fs->b ∉ ch->s.heap.get? b=some o->H b=none->h'.get? b=some o)
  (slot:∀ b o,b≠X.env.locals->b∈X.fs->b ∉ ch->s.heap.get? b=some o->H b=none->∃ sl,h'.get? b=some { o with slots:=sl }) (free:∀ b o,b ∉ ch->s.heap.get? b=some o->H b=none->H' b=none)
  (there:∀ b o,b ∉ ch->s.heap.get? b=some o->∃ o',h'.get? b=some o')
  (tups:∀ b xs,H b=some (.tup xs)->H' b=some (.tup xs)) (frzs:∀ b o u,H b=some (.frz o u)->H' b=some (.frz o u)) (tbls:∀ b ps,H b=some (.tbl ps)->∃ more,H' b=some (.tbl (ps++more)))
  (ns:∀ m,s.heap.Ns X.env.locals m->h'.Ns X.env.locals m) (hok:HOk X.prog X.w H' h') (hg:AllBare g') :
  Inv X pins σ H' { s with heap:=h',gens:=g',drawn:=d',toks:=t' }:=by
 have neL:∀ b o,X.s₀.heap.get? b=some o->b≠X.env.locals:=λb o e=>Nat.ne_of_lt (Nat.lt_of_lt_of_le (Heap.lt_size e) I.ok.above)
 have neC:∀ b o,X.s₀.heap.get? b=some o->b ∉ X.ex->b ∉ ch:=λb o e hx hb=>by
  rcases (hch b hb).1 with z | z
  ·exact hx z
  ·exact absurd (Nat.lt_of_lt_of_le (Heap.lt_size e) z) (Nat.lt_irrefl _)
 have cellK:∀ x c,X.env.cells.lookup x=some c->∀ v,s.heap.IsCell c v->h'.IsCell c v:=λx c e v ⟨o,ho,hd⟩=>by
  have nch:c ∉ ch:=λz=>(hch c z).2.2.1 x c e rfl
  by_cases hc:c∈X.fs
  ·obtain ⟨sl,q⟩:=slot c o (I.cne x c e) hc nch ho (I.freeC x c e)
   exact ⟨_,q,hd⟩
  ·exact ⟨o,keep c o (I.cne x c e) hc nch ho (I.freeC x c e),hd⟩
 refine ⟨I.ok,I.os,hg,⟨λb o e n hb hx=>?_,λb o e n hb hx=>?_,λb o e n hx=>?_,λb o e hx=>?_,λb xs e=>tups b xs (I.base.tups b xs e),λb o xs e=>frzs b o xs (I.base.frzs b o xs e),λb ps e=>?_⟩,?_,λx c e=>?_,?_,λx c e=>?_,λp hp=>?_,hok,I.len⟩
 ·exact keep b o (neL b o e) hb (neC b o e hx) (I.base.keep b o e n hb hx) (I.base.free b o e n hx)
 ·obtain ⟨sl,e1⟩:=I.base.slot b o e n hb hx
  obtain ⟨sl',e2⟩:=slot b _ (neL b o e) hb (neC b o e hx) e1 (I.base.free b o e n hx)
  exact ⟨sl',e2⟩
 ·obtain ⟨o',e1⟩:=I.base.there b o e hx
  exact free b o' (neC b o e hx) e1 (I.base.free b o e n hx)
 ·obtain ⟨o',e1⟩:=I.base.there b o e hx
  exact there b o' (neC b o e hx) e1
 ·obtain ⟨m1,e1⟩:=I.base.tbls b ps e
  obtain ⟨m2,e2⟩:=tbls b _ e1
  exact ⟨m1++m2,by rw [e2,Array.append_assoc]⟩
 ·obtain ⟨m,hn,hl⟩:=I.loc
  refine ⟨m,ns m hn,λi x v e1 e2 e3=>?_⟩
  obtain ⟨u,r,l⟩:=hl i x v e1 e2 e3
  refine ⟨u,r,?_⟩
  rcases l with l | ⟨k,c,e,z⟩
  ·exact .inl l
  ·exact .inr ⟨k,c,e,cellK x c e _ z⟩
 ·obtain ⟨v,z⟩:=I.cell x c e
  exact ⟨v,cellK x c e v z⟩
 ·obtain ⟨m,⟨o,_,_,ho,_⟩,_⟩:=I.loc
  exact free _ o (λz=>(hch _ z).2.1 rfl) ho I.free
 ·obtain ⟨v,o,ho,hd⟩:=I.cell x c e
  exact free c o (λz=>(hch c z).2.2.1 x c e rfl) ho (I.freeC x c e)
 ·obtain ⟨e,n,ne,nf,d⟩:=I.pin p hp
  have nch:p.1 ∉ ch:=λz=>(hch p.1 z).2.2.2 p hp rfl
  exact ⟨keep p.1 p.2 ne nf nch e n,free p.1 p.2 nch e n,ne,nf,d⟩
theorem Inv.un {t':Nat} (I:Inv X pins σ H s) (u:Un X.fs [] H H' s.heap h') (hok:HOk X.prog X.w H' h'):Inv X pins σ H' { s with heap:=h',toks:=t' }:=by
 obtain ⟨m,⟨o,es,ep,ho,r⟩,_⟩:=id I.loc
 obtain ⟨sl,hL⟩:=u.any ho I.free (by simp)
 exact I.step (g':=s.gens) (d':=s.drawn) (ch:=[]) (λ_ z=>nomatch z) (λb o _ hb _ e n=>u.keep b o e n hb (by simp)) (λb o _ hb _ e n=>u.slot b o e n hb (by simp)) (λb o _ e n=>u.free b o e n (by simp)) (λb o _ e=>u.there b o e (by simp)) u.tups u.frzs u.tbls (λm' hm=>by
  obtain ⟨o',es',ep',ho',r'⟩:=hm
  rw [ho] at ho';cases ho'
  exact ⟨_,es',ep',hL,r'⟩) hok I.bare
theorem Inv.call {g':Array GenState} {t':Nat} {d':Drawn} {ch:List Addr} (I:Inv X pins σ H s) (u:Un (frs X.stack) ch H H' s.heap h') (hok:HOk X.prog X.w H' h') (hg:AllBare g')
  (hch:∀ b∈ch,(b∈X.ex∨X.s₀.heap.objs.size≤b)∧b≠X.env.locals∧(∀ x c,X.env.cells.lookup x=some c->c≠b)∧∀ p∈X.pn++pins,p.1≠b) :
  Inv X pins σ H' { s with heap:=h',gens:=g',drawn:=d',toks:=t' }:=by
 obtain ⟨m,⟨o,es,ep,ho,r⟩,_⟩:=id I.loc
 obtain ⟨sl,hL⟩:=u.any ho I.free λz=>(hch _ z).2.1 rfl
 exact I.step (ch:=ch) hch (λb o hL hb hc e n=>u.keep b o e n (λz=>(List.mem_cons.mp (I.stkSub b z)).elim hL hb) hc) (λb o _ _ hc e n=>u.any e n hc) (λb o hc e n=>u.free b o e n hc) (λb o hc e=>u.there b o e hc) u.tups u.frzs u.tbls (λm' hm=>by
  obtain ⟨o',es',ep',ho',r'⟩:=hm
  rw [ho] at ho';cases ho'
  exact ⟨_,es',ep',hL,r'⟩) hok hg
theorem Inv.turned {t':Nat} {it:Addr} (I:Inv X pins σ H s) (k:∀ b o,b≠it->s.heap.get? b=some o->h'.get? b=some o) (hn:H it=none) (hL:it≠X.env.locals)
  (h1:it∈X.ex∨X.s₀.heap.objs.size≤it) (h2:∀ x c,X.env.cells.lookup x=some c->c≠it) (h3:∀ p∈X.pn++pins,p.1≠it):Inv X pins σ H { s with heap:=h',toks:=t' }:=by
 have nit:∀ b u,H b=some u->b≠it:=λb u e z=>by rw [z,hn] at e;cases e
 refine I.step (g':=s.gens) (d':=s.drawn) (ch:=[it]) (λb hb=>?_) (λb o _ _ hc e _=>k b o (λz=>hc (by simp [z])) e) (λb o _ _ hc e _=>⟨o.slots,k b o (λz=>hc (by simp [z])) e⟩) (λ_ _ _ _ n=>n)
  (λb o hc e=>⟨o,k b o (λz=>hc (by simp [z])) e⟩) (λ_ _ e=>e) (λ_ _ _ e=>e) (λb ps e=>⟨#[],by rw [e];simp⟩) (λm hm=>?_) (λb u e=>?_) I.bare
 ·have e:b=it:=by simpa using hb
  subst e
  exact ⟨h1,hL,h2,h3⟩
 ·obtain ⟨o,es,ep,ho,r⟩:=hm
  exact ⟨o,es,ep,k _ o (Ne.symm hL) ho,r⟩
 ·refine (I.hok b u e).stay (λc v hc q=>k c v ?_ q) (λ_ q=>q) λ_ _ q=>q
  rcases hc with z | z
  ·rw [z];exact nit b u e
  ·exact nit c _ z
theorem Inv.tok (I:Inv X pins σ H s) (t:Nat):Inv X pins σ H { s with toks:=t }:=I.un (h':=s.heap) (t':=t) Un.refl I.hok
theorem Inv.kept {t':Nat} (I:Inv X pins σ H s) (k:∀ b u,s.heap.get? b=some u->h'.get? b=some u):Inv X pins σ H { s with heap:=h',toks:=t' }:=I.un (Un.kept k) (I.hok.kept k)
theorem Inv.laid {a:Addr} {o:HO} {t':Nat} (I:Inv X pins σ H s) (k:∀ b u,s.heap.get? b=some u->h'.get? b=some u) (hp:s.heap.objs.size≤a) (new:zcf X.prog X.w (upd H a o) h' a o) :
  Inv X pins σ (upd H a o) { s with heap:=h',toks:=t' }:=I.un (Un.laid k hp (I.hok.fresh hp)) (I.hok.laid k hp new)
theorem Inv.write {x e:Addr} {o:HO} {t':Nat} (I:Inv X pins σ H s) (mu:Mut (H x)) (he:e=x∨H e=some (.own x)) (k:∀ b u,b≠e->s.heap.get? b=some u->h'.get? b=some u) (heo:∃ u,h'.get? e=some u)
  (new:zcf X.prog X.w (upd H x o) h' x o):Inv X pins σ (upd H x o) { s with heap:=h',toks:=t' }:=I.un (Un.write mu he k heo) (I.hok.write mu he k heo new)
theorem Inv.pins_of {pins':List (Addr×Obj)} (I:Inv X pins σ H s) (h:∀ p∈pins',s.heap.get? p.1=some p.2∧H p.1=none∧p.1≠X.env.locals∧p.1 ∉ X.fs∧∀ v,p.2.data≠.cell v):Inv X pins' σ H s :=
 ⟨I.ok,I.os,I.bare,I.base,I.loc,I.cell,I.free,I.freeC,λp hp=>(List.mem_append.mp hp).elim (λz=>I.pin p (List.mem_append_left _ z)) (h p),I.hok,I.len⟩
theorem nodup_ix {N:List Str} (hN:N.Nodup) {i j:Nat} {x:Str} (a:N[i]?=some x) (b:N[j]?=some x):i=j:=by
 obtain ⟨h1,e1⟩:=List.getElem?_eq_some_iff.mp a
 obtain ⟨h2,e2⟩:=List.getElem?_eq_some_iff.mp b
 exact (List.getElem_inj hN).mp (e1.trans e2.symm)
theorem zfK {M:Model} {A:Around} {E:Value->Shared->Prop} {i:Nat} {x:Str} {v:V} {u:Value} {Q:Unit->Shared->Prop} (I:Inv X pins σ H s) (hN:X.N.Nodup) (hi:X.N[i]?=some x) (hx:Loc X.env.scope x) (r:RelV v u)
  (h:∀ s',Inv X pins (σ.set i (some v)) H s'->(∃ a,Heap.SameBut a s.heap s'.heap∧(a=X.env.locals∨X.env.cells.lookup x=some a))->Q () s') (hf:X.fn x=true∨X.env.scope.names.lookup x=some .local:=by first | exact .inl rfl | exact .inr rfl | assumption):wpAny M A (storeName X.env x u) Q E s:=by
 obtain ⟨m,hn,hl⟩:=id I.loc
 have hcls:(X.env.scope.kind == .class||(X.env.scope.kind == .module&&X.env.locals != X.env.globals))=false:=by rw [I.ok.kind];rfl
 have hiσ:i<σ.length:=by rw [I.len];exact (List.getElem?_eq_some_iff.mp hi).1
 have cne:=I.cne
 have tracked:∀ {a:Addr} {h':Heap},(∃ o,s.heap.get? a=some o∧H a=none)->Heap.SameBut a s.heap h'->HOk X.prog X.w H h':=λ{a h'} ha hs b ob e=>by
  obtain ⟨_,_,hfree⟩:=ha
  refine (I.hok b ob e).stay (λc w' hc q=>(hs.2 c ?_).trans q) (λ_ q=>q) λ_ _ q=>q
  rintro rfl
  rcases hc with rfl | hc
  ·rw [hfree] at e;cases e
  ·rw [hfree] at hc;cases hc
 rcases hx with hk | hk
 ·refine wpAny_storeName_local hk hn (λh' hn' hs=>?_) hcls
  obtain ⟨oL,_,_,hoL,_⟩:=id hn
  refine h _ ⟨I.ok,I.os,I.bare,⟨λb o e n hb hx=>?_,λb o e n hb hx=>?_,I.base.free,λb o e hx=>?_,I.base.tups,I.base.frzs,I.base.tbls⟩,⟨_,hn',λj y v' e1 e2 e3=>?_⟩,λy c e=>?_,I.free,I.freeC,λp hp=>?_,tracked ⟨oL,hoL,I.free⟩ hs,by simpa using I.len⟩ ⟨_,hs,.inl rfl⟩
  ·exact (hs.2 b (Nat.ne_of_lt (Nat.lt_of_lt_of_le (Heap.lt_size e) I.ok.above))).trans (I.base.keep b o e n hb hx)
  ·obtain ⟨sl,e1⟩:=I.base.slot b o e n hb hx
   exact ⟨sl,(hs.2 b (Nat.ne_of_lt (Nat.lt_of_lt_of_le (Heap.lt_size e) I.ok.above))).trans e1⟩
  ·obtain ⟨o',e1⟩:=I.base.there b o e hx
   exact ⟨o',(hs.2 b (Nat.ne_of_lt (Nat.lt_of_lt_of_le (Heap.lt_size e) I.ok.above))).trans e1⟩
  ·by_cases hj:j=i
   ·subst hj
    rw [hi] at e1;cases e1
    rw [List.getElem?_set_self hiσ] at e2
    cases e2
    exact ⟨u,r,.inl ⟨hk,by simp⟩⟩
   ·rw [List.getElem?_set_ne (Ne.symm hj)] at e2
    obtain ⟨u',r',q⟩:=hl j y v' e1 e2 e3
    refine ⟨u',r',?_⟩
    rcases q with ⟨k,e⟩ | ⟨k,c,e,z⟩
    ·refine .inl ⟨k,?_⟩
     have:y≠x:=λe=>hj (nodup_ix hN e1 (e ▸ hi))
     simp [this,e]
    ·exact .inr ⟨k,c,e,z.sameBut hs (cne y c e)⟩
  ·obtain ⟨w',z⟩:=I.cell y c e
   exact ⟨w',z.sameBut hs (cne y c e)⟩
  ·obtain ⟨e,n,ne,nf,d⟩:=I.pin p hp
   exact ⟨(hs.2 p.1 ne).trans e,n,ne,nf,d⟩
 ·have hfn:X.fn x=true:=by
   rcases hf with z | z
   ·exact z
   ·rw [z] at hk;cases hk
  obtain ⟨c,hc⟩:=I.ok.has x (.inl hk)
  obtain ⟨w',z⟩:=I.cell x c hc
  refine wpAny_storeName_cell I.ok.kind hk hc z (λh' hc' hs=>?_)
  obtain ⟨oc,hoc,hocd⟩:=id z
  refine h { s with heap:=h' } ⟨I.ok,I.os,I.bare,⟨λb o e n hb hx=>?_,λb o e n hb hx=>?_,I.base.free,λb o e hx=>?_,I.base.tups,I.base.frzs,I.base.tbls⟩,⟨m,hn.sameBut hs (Ne.symm (cne x c hc)),λj y v' e1 e2 e3=>?_⟩,λy c' e=>?_,I.free,I.freeC,λp hp=>?_,tracked ⟨oc,hoc,I.freeC x c hc⟩ hs,by simpa using I.len⟩ ⟨c,hs,.inr hc⟩
  ·exact (hs.2 b (Nat.ne_of_lt (Nat.lt_of_lt_of_le (Heap.lt_size e) (I.ok.cab x c hfn hc)))).trans (I.base.keep b o e n hb hx)
  ·obtain ⟨sl,e1⟩:=I.base.slot b o e n hb hx
   exact ⟨sl,(hs.2 b (Nat.ne_of_lt (Nat.lt_of_lt_of_le (Heap.lt_size e) (I.ok.cab x c hfn hc)))).trans e1⟩
  ·obtain ⟨o',e1⟩:=I.base.there b o e hx
   exact ⟨o',(hs.2 b (Nat.ne_of_lt (Nat.lt_of_lt_of_le (Heap.lt_size e) (I.ok.cab x c hfn hc)))).trans e1⟩
  ·by_cases hj:j=i
   ·subst hj
    rw [hi] at e1;cases e1
    rw [List.getElem?_set_self hiσ] at e2
    cases e2
    exact ⟨u,r,.inr ⟨.inl hk,c,hc,hc'⟩⟩
   ·rw [List.getElem?_set_ne (Ne.symm hj)] at e2
    obtain ⟨u',r',q⟩:=hl j y v' e1 e2 e3
    refine ⟨u',r',?_⟩
    rcases q with q | ⟨k,c',e,z'⟩
    ·exact .inl q
    ·refine .inr ⟨k,c',e,z'.sameBut hs ?_⟩
     rintro rfl
     exact hj (nodup_ix hN e1 (I.ok.inj _ _ _ e hc ▸ hi))
  ·by_cases hcc:c'=c
   ·subst hcc;exact ⟨_,hc'⟩
   ·obtain ⟨w2,z2⟩:=I.cell y c' e
    exact ⟨w2,z2.sameBut hs hcc⟩
  ·obtain ⟨e,n,ne,nf,d⟩:=I.pin p hp
   refine ⟨(hs.2 p.1 ?_).trans e,n,ne,nf,d⟩
   intro q
   rw [q,hoc] at e
   have q':oc=p.2:=Option.some.inj e
   exact d w' (by rw [← q'];exact hocd)
theorem store_ok {M:Model} {A:Around} {E:Value->Shared->Prop} {i:Nat} {x:Str} {v:V} {u:Value} {Q:Unit->Shared->Prop} (I:Inv X pins σ H s) (hN:X.N.Nodup) (hi:X.N[i]?=some x) (hx:Loc X.env.scope x) (r:RelV v u)
  (h:∀ s',Inv X pins (σ.set i (some v)) H s'->Q () s') (hf:X.fn x=true∨X.env.scope.names.lookup x=some .local:=by first | exact .inl rfl | exact .inr rfl | assumption):wpAny M A (storeName X.env x u) Q E s :=
 zfK I hN hi hx r (λs' I' _=>h s' I') hf
theorem Inv.call' {s':Shared} {ch:List Addr} (I:Inv X pins σ H s) (ho:s'.os=s.os) (u:Un (frs X.stack) ch H H' s.heap s'.heap) (hok:HOk X.prog X.w H' s'.heap) (hg:AllBare s'.gens)
  (hch:∀ b∈ch,(b∈X.ex∨X.s₀.heap.objs.size≤b)∧b≠X.env.locals∧(∀ x c,X.env.cells.lookup x=some c->c≠b)∧∀ p∈X.pn++pins,p.1≠b):Inv X pins σ H' s':=by
 obtain ⟨h',g',d',t',o'⟩:=s'
 have e:o'=s.os:=ho
 subst e
 exact I.call (g':=g') (t':=t') (d':=d') u hok hg hch
end
abbrev XK:=Value->Option Addr->Hp->Prop
abbrev St:=List (Option V)
abbrev VK:=V->Hp->Prop
abbrev TE:=St->Hp->VK->Prop
abbrev TT:=St->Hp->(Bool->Hp->Prop)->Prop
abbrev TA:=St->Hp->(List V->Hp->Prop)->Prop
structure Ends where
 nx:St->Hp->Prop
 rt:VK
 bk:St->Hp->Prop:=λ_ _=>False
 ct:St->Hp->Prop:=λ_ _=>False
abbrev TS:=Ends->St->Hp->Prop
def EP (X:Cx) (pins:List (Addr×Obj)) (σ:St) (Q:VK) (u:Value) (s':Shared):Prop:=∃ v H',Inv X pins σ H' s'∧RelV v u∧Q v H'
def TP (X:Cx) (pins:List (Addr×Obj)) (σ:St) (Q:Bool->Hp->Prop) (b:Bool) (s':Shared):Prop:=∃ H',Inv X pins σ H' s'∧Q b H'
def AP (X:Cx) (pins:List (Addr×Obj)) (σ:St) (Q:List V->Hp->Prop) (us:List Value) (s':Shared):Prop:=∃ vs H',Inv X pins σ H' s'∧Vals vs us∧Q vs H'
def SP (X:Cx) (pins:List (Addr×Obj)) (D:Ends) (f:Flow) (s':Shared):Prop :=
 match f with
 | .next=>∃ σ' H',Inv X pins σ' H' s'∧D.nx σ' H'
 | .brk=>∃ σ' H',Inv X pins σ' H' s'∧D.bk σ' H'
 | .cont=>∃ σ' H',Inv X pins σ' H' s'∧D.ct σ' H'
 | .ret u=>∃ v σ' H',Inv X pins σ' H' s'∧RelV v u∧D.rt v H'
def PE (X:Cx) (e:Expr) (t:TE):Prop :=
 ∀ (pins:List (Addr×Obj)) (s:Shared) (σ:St) (H:Hp) (Q:VK),Inv X pins σ H s->t σ H Q->wpAny (model X.prog X.w) X.A (eval e X.env) (EP X pins σ Q) X.xe s
def PT (X:Cx) (e:Expr) (t:TT):Prop :=
 ∀ (pins:List (Addr×Obj)) (s:Shared) (σ:St) (H:Hp) (Q:Bool->Hp->Prop),Inv X pins σ H s->t σ H Q->wpAny (model X.prog X.w) X.A (isTrue e X.env (eval e X.env)) (TP X pins σ Q) X.xe s
def PW (X:Cx) (e:Expr) (t:TT):Prop :=
 ∀ (whole:Sem Value) (pins:List (Addr×Obj)) (s:Shared) (σ:St) (H:Hp) (Q:Bool->Hp->Prop),Inv X pins σ H s->t σ H Q->wpAny (model X.prog X.w) X.A (isTrue e X.env whole) (TP X pins σ Q) X.xe s
theorem PW.pt {X:Cx} {e:Expr} {t:TT} (h:PW X e t):PT X e t:=h _
def PA (X:Cx) (es:List Expr) (t:TA):Prop :=
 ∀ (pos:Pos) (pins:List (Addr×Obj)) (s:Shared) (σ:St) (H:Hp) (Q:List V->Hp->Prop),Inv X pins σ H s->t σ H Q->wpAny (model X.prog X.w) X.A (spliced (backTo pos (starEach es X.env))) (AP X pins σ Q) X.xe s
def PS (X:Cx) (st:Stmt) (t:TS):Prop :=
 ∀ (pins:List (Addr×Obj)) (s:Shared) (σ:St) (H:Hp) (D:Ends),Inv X pins σ H s->t D σ H->wpAny (model X.prog X.w) X.A (exec st X.env) (SP X pins D) X.xe s
def PSs (X:Cx) (st:List Stmt) (t:TS):Prop :=
 ∀ (pins:List (Addr×Obj)) (s:Shared) (σ:St) (H:Hp) (D:Ends),Inv X pins σ H s->t D σ H->wpAny (model X.prog X.w) X.A (execs st X.env) (SP X pins D) X.xe s
theorem thn {α:Type} {t:Sem α} {Q Q':α->Shared->Prop} {M:Model} {A:Around} {E:Value->Shared->Prop} {s:Shared} (h:wpAny M A t Q E s) (hQ:∀ a s,Q a s->Q' a s):wpAny M A t Q' E s:=wpAny_mono h hQ λ_ _ x=>x
end L2
namespace L2
open PySem PySem.Spec PyProof.Rows
section
variable {X:Cx}
theorem bin {a b:Expr} {ta tb:TE} (ha:PE X a ta) (hb:PE X b tb) {pins:List (Addr×Obj)} {s:Shared} {σ:St} {H:Hp} {R:V->V->Hp->Prop} (I:Inv X pins σ H s) (h:ta σ H λx H1=>tb σ H1 λy H2=>R x y H2)
  {α:Type} {Q:α->Shared->Prop} {f:Value->Value->Sem α}
  (hf:∀ v u s2 x y H2,Inv X pins σ H2 s2->RelV x v->RelV y u->R x y H2->wpAny (model X.prog X.w) X.A (f v u) Q X.xe s2) :
  wpAny (model X.prog X.w) X.A (eval a X.env) (λv s₁=>wpAny (model X.prog X.w) X.A (eval b X.env) (λu s₂=>wpAny (model X.prog X.w) X.A (f v u) Q X.xe s₂) X.xe s₁) X.xe s:=by
 refine thn (ha pins s σ H _ I h) λv s1 ⟨x,H1,I1,r1,q1⟩=>?_
 refine thn (hb pins s1 σ H1 _ I1 q1) λu s2 ⟨y,H2,I2,r2,q2⟩=>?_
 exact hf v u s2 x y H2 I2 r1 r2 q2
def tVar (i:Nat):TE:=λσ H Q=>∃ v,σ[i]?=some (some v)∧Q v H
def tC (v:V):TE:=λ_ H Q=>Q v H
theorem pe_var {i:Nat} {x:Str} {pos:Pos} (hN:X.N[i]?=some x) (hv:Vis X.env.scope x) (hd:(x == ("__debug__":Str))=false:=by decide) (hcd:(x == ("__classdict__":Str))=false:=by decide):PE X (.Name x pos) (tVar i):=by
 intro pins s σ H Q I h
 obtain ⟨v,e,h⟩:=h
 obtain ⟨m,hn,hl⟩:=I.loc
 obtain ⟨u,r,l⟩:=hl i x v hN e hv
 have fin:EP X pins σ Q u s:=⟨v,H,I,r,h⟩
 rcases l with ⟨hk,hm⟩ | ⟨hk,c,hc,hcell⟩
 ·exact wpAny_Name (wpAny_loadName_local I.ok.kind hk hn hm fin) hd
 ·rcases hk with hk | hk
  ·exact wpAny_Name (wpAny_loadName_cell I.ok.kind hk hc hcell fin) hd
  ·exact wpAny_Name (wpAny_loadName_free I.ok.kind hk hc hcell fin hcd) hd
theorem zae {i j pos}:PE X (.Constant (.int i) j pos) (tC (.int i)):=λ_ _ _ H _ I h=>wpAny_Constant_int ⟨.int i,H,I.tok _,⟨_,rfl⟩,h⟩
theorem zik {b j pos}:PE X (.Constant (.bool b) j pos) (tC (.bl b)):=λ_ _ _ H _ I h=>Constant_bool ⟨.bl b,H,I,rfl,h⟩
theorem zd3 {j pos}:PE X (.Constant .none j pos) (tC .non):=λ_ _ _ H _ I h=>Constant_none ⟨.non,H,I,rfl,h⟩
theorem zbl {x j pos}:PE X (.Constant (.str x) j pos) (tC (.str x)):=λ_ _ _ H _ I h=>Calls.Constant_str ⟨.str x,H,I.tok _,⟨_,rfl⟩,h⟩
def Gl (X:Cx) (x:Str):Prop:=X.env.kindOf x=some .globalImplicit
theorem ld_glob {E:Value->Shared->Prop} {pins:List (Addr×Obj)} {s:Shared} {σ:St} {H:Hp} {x:Str} {u:Value} {pos:Pos} {Q:Value->Shared->Prop} (I:Inv X pins σ H s) (hg:Gl X x) (hm:X.mg x=some u) (h:Q u s)
  (hd:(x == ("__debug__":Str))=false:=by decide):wpAny (model X.prog X.w) X.A (eval (.Name x pos) X.env) Q E s :=
 Calls.Name_function_global I.ok.kind hg (Calls.loadGlobal_global (by rw [I.ok.glob];exact I.mod.glob.keeps I.bk) hm h) hd
theorem ld_blt {E:Value->Shared->Prop} {pins:List (Addr×Obj)} {s:Shared} {σ:St} {H:Hp} {x:Str} {u:Value} {pos:Pos} {Q:Value->Shared->Prop} (I:Inv X pins σ H s) (hg:Gl X x) (hm:X.mg x=none) (hv:bootBuiltins x=some u) (h:Q u s)
  (hn:x≠"__name__":=by decide) (hd:(x == ("__debug__":Str))=false:=by decide):wpAny (model X.prog X.w) X.A (eval (.Name x pos) X.env) Q E s:=by
 obtain ⟨mb,h1,h2⟩:=I.mod.blt
 exact Calls.Name_function_global I.ok.kind hg (Calls.loadGlobal_builtin (by rw [I.ok.glob];exact I.mod.glob.keeps I.bk) hm (by rw [I.ok.blt];exact h1.keeps I.bk) ((h2 x hn).trans hv) h) hd
theorem pe_glob {x:Str} {v:V} {u:Value} {pos:Pos} (hg:Gl X x) (hm:X.mg x=some u) (r:RelV v u) (hd:(x == ("__debug__":Str))=false:=by decide):PE X (.Name x pos) (tC v) :=
 λ_ _ _ H _ I h=>ld_glob I hg hm ⟨v,H,I,r,h⟩ hd
theorem pe_bltn {x:Str} {v:V} {u:Value} {pos:Pos} (hg:Gl X x) (hm:X.mg x=none) (hv:bootBuiltins x=some u) (r:RelV v u) (hn:x≠"__name__":=by decide) (hd:(x == ("__debug__":Str))=false:=by decide):PE X (.Name x pos) (tC v) :=
 λ_ _ _ H _ I h=>ld_blt I hg hm hv ⟨v,H,I,r,h⟩ hn hd
variable {a b:Expr} {ta tb:TE} {pos:Pos}
def PC (X:Cx) (op:CmpOp) (a b:Expr) (t:TE):Prop :=
 ∀ (pins:List (Addr×Obj)) (s:Shared) (σ:St) (H:Hp) (Q:VK),Inv X pins σ H s->t σ H Q →
  wpAny (model X.prog X.w) X.A (eval a X.env) (λv s₁=>wpAny (model X.prog X.w) X.A (eval b X.env) (λu s₂=>wpAny (model X.prog X.w) X.A (compareOp op v u) (EP X pins σ Q) X.xe s₂) X.xe s₁) X.xe s
theorem ziq (b:Expr) {op:CmpOp} (h:op≠.In) (h2:op≠.NotIn):behindInMarks op b=false:=by
 have e1:(op == CmpOp.In)=false:=by cases op<;>first | rfl | exact absurd rfl h
 have e2:(op == CmpOp.NotIn)=false:=by cases op<;>first | rfl | exact absurd rfl h2
 cases b<;>simp [behindInMarks,e1,e2]
def tB (t:TE):TT:=λσ H Q=>t σ H λx H1=>∃ c,x=.bl c∧Q c H1
theorem zl0 {op:CmpOp} {t:TE} (h:PC X op a b t) (h1:behindInMarks op b=false:=by first | exact ziq _ (by decide) (by decide) | rfl):PT X (.Compare a [op] [b] pos) (tB t):=by
 intro pins s σ H Q I hw
 refine wpAny_isTrue_Compare1 (thn (h pins s σ H _ I hw) λv s1 h1=>thn h1 λu s2 h2=>thn h2 λc s3 ⟨x,H1,I1,r1,q1⟩=>?_) h1
 obtain ⟨d,rfl,q⟩:=q1
 cases r1
 exact wpAny_truthy_bool ⟨H1,I1,q⟩
theorem zgr {e:Expr} {t:TE} (h:PE X e t) (he:∀ whole,isTrue e X.env whole=(do let v ← whole;standAt e.pos;holding [v] (truthy v)):=by intro _;rfl):PT X e (tB t):=by
 intro pins s σ H Q I hw
 refine isTrue_plain (thn (h pins s σ H _ I hw) λv s1 ⟨x,H1,I1,r1,q1⟩=>?_) (he _)
 obtain ⟨d,rfl,q⟩:=q1
 cases r1
 exact wpAny_truthy_bool ⟨H1,I1,q⟩
variable {tA tB':TT} {rest:List Expr}
def zl3 (t u:TT):TT:=λσ H Q=>t σ H λc H1=>if c=true then u σ H1 Q else Q false H1
def tOr (t u:TT):TT:=λσ H Q=>t σ H λc H1=>if c=true then Q true H1 else u σ H1 Q
def zlX (t:TT):TT:=λσ H Q=>t σ H λc H1=>Q (!c) H1
theorem zeA (ha:PT X a tA):PW X (.BoolOp .And [a] pos) tA:=by
 intro wh pins s σ H Q I h
 refine isTrue_and (thn (ha pins s σ H Q I h) λc s1 e=>?_)
 cases c with
 | true=>exact isTrue_and_nil e
 | false=>exact e
theorem zg1 (ha:PT X a tA):PW X (.BoolOp .Or [a] pos) tA:=by
 intro wh pins s σ H Q I h
 refine isTrue_or (thn (ha pins s σ H Q I h) λc s1 e=>?_)
 cases c with
 | false=>exact isTrue_or_nil e
 | true=>exact e
theorem zfB (ha:PT X a tA) (hb:PW X (.BoolOp .And (b :: rest) pos) tB'):PW X (.BoolOp .And (a :: b :: rest) pos) (zl3 tA tB'):=by
 intro wh pins s σ H Q I h
 refine isTrue_and (thn (ha pins s σ H _ I h) λc s1 ⟨H1,I1,q1⟩=>?_)
 cases c with
 | true=>exact hb wh pins s1 σ H1 Q I1 q1
 | false=>exact ⟨H1,I1,q1⟩
theorem zjO (ha:PT X a tA) (hb:PW X (.BoolOp .Or (b :: rest) pos) tB'):PW X (.BoolOp .Or (a :: b :: rest) pos) (tOr tA tB'):=by
 intro wh pins s σ H Q I h
 refine isTrue_or (thn (ha pins s σ H _ I h) λc s1 ⟨H1,I1,q1⟩=>?_)
 cases c with
 | true=>exact ⟨H1,I1,q1⟩
 | false=>exact hb wh pins s1 σ H1 Q I1 q1
theorem zgj (ha:PT X a tA):PT X (.UnaryOp .Not a pos) (zlX tA):=by
 intro pins s σ H Q I h
 exact isTrue_not (ha pins s σ H (λc H1=>Q (!c) H1) I h)
def zkH (ta tb:TE):TE:=λσ H Q=>ta σ H λx H1=>∃ c,x=.bl c∧if c=true then tb σ H1 Q else Q (.bl false) H1
def zkX (ta:TE):TE:=λσ H Q=>ta σ H λx H1=>∃ c,x=.bl c∧Q (.bl (!c)) H1
theorem pe_one {op} {t:TE} (h:PE X a t):PE X (.BoolOp op [a] pos) t:=λpins s σ H Q I hw=>BoolOp_one (h pins s σ H Q I hw)
theorem zgX (ha:PE X a ta) (hb:PE X (.BoolOp .And (b :: rest) pos) tb):PE X (.BoolOp .And (a :: b :: rest) pos) (zkH ta tb):=by
 intro pins s σ H Q I h
 refine BoolOp_and (thn (ha pins s σ H _ I h) λv s1 ⟨x,H1,I1,r1,q1⟩=>?_)
 obtain ⟨c,rfl,q1⟩:=q1
 cases r1
 refine wpAny_truthy_bool ?_
 cases c with
 | true=>exact hb pins s1 σ H1 Q I1 q1
 | false=>exact ⟨.bl false,H1,I1,rfl,q1⟩
theorem pe_not (ha:PE X a ta):PE X (.UnaryOp .Not a pos) (zkX ta):=by
 intro pins s σ H Q I h
 refine UnaryOp_ (thn (ha pins s σ H _ I h) λv s1 ⟨x,H1,I1,r1,q1⟩=>?_)
 obtain ⟨c,rfl,q1⟩:=q1
 cases r1
 exact not_of (wpAny_truthy_bool ⟨.bl (!c),H1,I1,rfl,q1⟩)
end
end L2
namespace L2
open PySem PySem.Spec PyProof.Rows
def SqL (K:W.Frag) (H:Hp) (a:Addr) (xs:List V):Prop :=
 Rd H a (.lst xs) ∨
  ∃ (o:Obj) (its:Array Value) (n:Nat),K.lookup a=some o∧o.cls=.type "list"∧o.dict=none∧o.data=.seq its n∧its.size≤sizeLine∧Vals xs its.toList
def SqT (K:W.Frag) (H:Hp) (a:Addr) (xs:List V):Prop :=
 Rd H a (.tup xs) ∨
  ∃ (o:Obj) (its:Array Value) (n:Nat),K.lookup a=some o∧o.cls=.type "tuple"∧o.data=.seq its n∧its.size≤sizeLine∧Vals xs its.toList
def zmd:Value->Option V
 | .none=>some .non
 | .bool b=>some (.bl b)
 | .int i _=>some (.int i)
 | .str x _=>some (.str x)
 | .bytes b _=>some (.byt b)
 | .float b _=>some (.flt b)
 | .ref a=>some (.ref a)
 | .type n=>some (.ty n)
 | _=>none
theorem RelV.abs {x:V} {u:Value} (r:RelV x u):zmd u=some x:=by
 cases x with
 | non=>cases r;rfl
 | bl _=>cases r;rfl
 | int _=>obtain ⟨t,rfl⟩:=r;rfl
 | str _=>obtain ⟨t,rfl⟩:=r;rfl
 | byt _=>obtain ⟨t,rfl⟩:=r;rfl
 | flt _=>obtain ⟨t,rfl⟩:=r;rfl
 | ref _=>cases r;rfl
 | ty _=>cases r;rfl
theorem RelV.inj {x y:V} {u:Value} (r:RelV x u) (q:RelV y u):x=y:=Option.some.inj (r.abs.symm.trans q.abs)
theorem Vals.inj:∀ {xs ys:List V} {us:List Value},Vals xs us->Vals ys us->xs=ys
 | _,_,_,.nil,.nil=>rfl
 | _,_,_,.cons r t,.cons r' t'=>by rw [r.inj r',Vals.inj t t']
section
variable {X:Cx} {pins:List (Addr×Obj)} {σ:St} {H:Hp} {s:Shared} {a:Addr} {xs ys:List V}
theorem SqL.of {K:W.Frag} (h:H a=some (.lst xs)):SqL K H a xs:=.inl (.inl h)
theorem Inv.list (I:Inv X pins σ H s) (h:SqL X.K H a xs):∃ its:List Value,Vals xs its∧PlainL s.heap a its.toArray∧xs.length≤sizeLine:=by
 rcases h with h | ⟨o,its,n,hk,hc,hd,hs,hz,r⟩
 ·obtain ⟨z,its,n,r,e⟩:=h.ok I.hok
  exact ⟨its,r,⟨_,n,e,rfl,rfl,rfl⟩,z⟩
 ·refine ⟨its.toList,r,⟨o,n,I.kIn a o hk,hc,hd,by simpa using hs⟩,?_⟩
  have e:=r.length
  simp only [Array.length_toList] at e
  omega
theorem Inv.tuple (I:Inv X pins σ H s) (h:SqT X.K H a xs):∃ its:List Value,Vals xs its∧IsTup s.heap a its.toArray∧xs.length≤sizeLine:=by
 rcases h with h | ⟨o,its,n,hk,hc,hs,hz,r⟩
 ·obtain ⟨z,its,r,p⟩:=h.ok I.hok
  exact ⟨its,r,p,z⟩
 ·refine ⟨its.toList,r,⟨o,I.kIn a o hk,hc,n,by simpa using hs⟩,?_⟩
  have e:=r.length
  simp only [Array.length_toList] at e
  omega
theorem Inv.list_inj (I:Inv X pins σ H s) (h:SqL X.K H a xs) (h':SqL X.K H a ys):xs=ys:=by
 obtain ⟨its,r,⟨o,n,e,_,_,d⟩,_⟩:=I.list h
 obtain ⟨its',r',⟨o',n',e',_,_,d'⟩,_⟩:=I.list h'
 rw [e] at e';cases e'
 rw [d] at d'
 injection d' with d1 _
 have:its=its':=by simpa using congrArg Array.toList d1
 subst this
 exact r.inj r'
end
abbrev Cx.wish (X:Cx) (E:Value->Shared->Prop):Cx:={ X with xe:=E }
abbrev Cx.nox (X:Cx):Cx:=X.wish λ_ _=>False
theorem Cx.Ok.wish {X:Cx} (ok:X.Ok) (E:Value->Shared->Prop):(X.wish E).Ok :=
 ⟨ok.mod,ok.kind,ok.glob,ok.blt,ok.above,ok.inj,ok.has,ok.cab,ok.hd,ok.frames,ok.stk,ok.exf,ok.bs,ok.bsz,ok.noex,ok.exfs,ok.funs,ok.frf⟩
theorem Cx.Ok.unwish {X:Cx} {E:Value->Shared->Prop} (ok:(X.wish E).Ok):X.Ok :=
 ⟨ok.mod,ok.kind,ok.glob,ok.blt,ok.above,ok.inj,ok.has,ok.cab,ok.hd,ok.frames,ok.stk,ok.exf,ok.bs,ok.bsz,ok.noex,ok.exfs,ok.funs,ok.frf⟩
section
variable {X:Cx} {pins:List (Addr×Obj)} {σ:St} {H:Hp} {s:Shared} {E:Value->Shared->Prop}
theorem Inv.wish (I:Inv X pins σ H s) (E:Value->Shared->Prop):Inv (X.wish E) pins σ H s:=⟨I.ok.wish E,I.os,I.bare,I.base,I.loc,I.cell,I.free,I.freeC,I.pin,I.hok,I.len⟩
theorem Inv.unwish (I:Inv (X.wish E) pins σ H s):Inv X pins σ H s:=⟨I.ok.unwish,I.os,I.bare,I.base,I.loc,I.cell,I.free,I.freeC,I.pin,I.hok,I.len⟩
theorem SP.unwish {D:Ends} {f:Flow} {s':Shared} (h:SP (X.wish E) pins D f s'):SP X pins D f s':=by
 cases f with
 | next=>obtain ⟨σ',H',I,q⟩:=h;exact ⟨σ',H',I.unwish,q⟩
 | brk=>obtain ⟨σ',H',I,q⟩:=h;exact ⟨σ',H',I.unwish,q⟩
 | cont=>obtain ⟨σ',H',I,q⟩:=h;exact ⟨σ',H',I.unwish,q⟩
 | ret u=>obtain ⟨v,σ',H',I,r,q⟩:=h;exact ⟨v,σ',H',I.unwish,r,q⟩
end
section
variable {X:Cx} {st:Stmt} {rest:List Stmt} {t u:TS} {e:Expr} {te:TE} {pos:Pos}
def zh1:TS:=λD σ H=>D.nx σ H
def tSeq (t u:TS):TS:=λD σ H=>t { D with nx:=u D } σ H
theorem zad:PSs X [] zh1:=λ_ _ σ H _ I h=>wpAny_execs_nil ⟨σ,H,I,h⟩
theorem zac (h1:PS X st t) (h2:PSs X rest u):PSs X (st :: rest) (tSeq t u):=by
 intro pins s σ H D I h
 refine wpAny_execs_cons (thn (h1 pins s σ H { D with nx:=u D } I h) λf s1 q=>?_)
 cases f with
 | next =>
  obtain ⟨σ',H',I',q⟩:=q
  exact h2 pins s1 σ' H' D I' q
 | ret v=>exact q
 | brk=>exact q
 | cont=>exact q
theorem zjU (h1:PS X st t):PSs X [st] t:=by
 intro pins s σ H D I h
 refine wpAny_execs_cons (thn (h1 pins s σ H D I h) λf s1 q=>?_)
 cases f with
 | next=>exact wpAny_execs_nil q
 | ret v=>exact q
 | brk=>exact q
 | cont=>exact q
theorem Inv.quiet {pins:List (Addr×Obj)} {σ:St} {H:Hp} {s:Shared} (I:Inv X pins σ H s):interactive X.env=false:=by simp [interactive,I.ok.kind]
def tDrop (te:TE):TS:=λD σ H=>te σ H λ_ H1=>D.nx σ H1
theorem ze4 (he:PE X e te) (hs:swapsWith e none pos.line X.env=pure false:=by rfl):PS X (.Expr e pos) (tDrop te):=by
 intro pins s σ H D I h
 exact wpAny_Expr_any (thn (he pins s σ H _ I h) λv s1 ⟨x,H1,I1,r1,q1⟩=>⟨σ,H1,I1,q1⟩) I.quiet hs
def zia (te:TE):TS:=λD σ H=>te σ H D.rt
theorem zaE (he:PE X e te):PS X (.Return (some e) pos) (zia te):=by
 intro pins s σ H D I h
 exact wpAny_Return_some (thn (he pins s σ H _ I h) λv s1 ⟨x,H1,I1,r1,q1⟩=>⟨x,σ,H1,I1,r1,q1⟩)
def zkS (c:TT) (t u:TS):TS:=λD σ H=>c σ H λb H1=>if b=true then t D σ H1 else u D σ H1
theorem zbx {c:Expr} {a b:List Stmt} {tc:TT} (hc:PT X c tc) (ha:PSs X a t) (hb:PSs X b u):PS X (.If c a b pos) (zkS tc t u):=by
 intro pins s σ H D I h
 refine wpAny_If (thn (hc pins s σ H _ I h) λd s1 ⟨H1,I1,q1⟩=>?_)
 cases d with
 | true=>exact ha pins s1 σ H1 D I1 q1
 | false=>exact hb pins s1 σ H1 D I1 q1
def zkC:TS:=λ_ _ _=>False
theorem zdn:PS X st zkC:=λ_ _ _ _ _ _ h=>h.elim
end
abbrev TG:=V->St->Hp->(St->Hp->Prop)->Prop
abbrev TGs:=List V->St->Hp->(St->Hp->Prop)->Prop
def PG (X:Cx) (target:Expr) (t:TG):Prop :=
 ∀ (pins:List (Addr×Obj)) (s:Shared) (σ:St) (H:Hp) (v:V) (u:Value) (Q:St->Hp->Prop),Inv X pins σ H s->RelV v u->t v σ H Q →
  wpAny (model X.prog X.w) X.A (assign target X.env u) (λ_ s'=>∃ σ' H',Inv X pins σ' H' s'∧Q σ' H') X.xe s
def PGs (X:Cx) (ts:List Expr) (t:TGs):Prop :=
 ∀ (pins:List (Addr×Obj)) (s:Shared) (σ:St) (H:Hp) (vs:List V) (us:List Value) (Q:St->Hp->Prop),Inv X pins σ H s->Vals vs us->t vs σ H Q →
  wpAny (model X.prog X.w) X.A (assignInOrder ((assignEach ts X.env).map (·.2)) us) (λ_ s'=>∃ σ' H',Inv X pins σ' H' s'∧Q σ' H') X.xe s
abbrev zlH:=V->V->V->Hp->(Hp->Prop)->Prop
def zlY (X:Cx) (t:zlH):Prop :=
 ∀ (pins:List (Addr×Obj)) (s:Shared) (σ:St) (H:Hp) (o i v:V) (ov iv u:Value) (Q:Hp->Prop),Inv X pins σ H s->RelV o ov->RelV i iv->RelV v u->t o i v H Q →
  wpAny (model X.prog X.w) X.A (setItem ov iv u) (λ_ s'=>∃ H',Inv X pins σ H' s'∧Q H') X.xe s
section
variable {X:Cx} {pos:Pos}
def zbo (i:Nat):TG:=λv σ H Q=>Q (σ.set i (some v)) H
theorem pg_name {i:Nat} {x:Str} (hN:X.N.Nodup) (hi:X.N[i]?=some x) (hx:Loc X.env.scope x) (hf:X.fn x=true∨X.env.scope.names.lookup x=some .local:=by first | exact .inl rfl | exact .inr rfl | assumption):PG X (.Name x pos) (zbo i):=by
 intro pins s σ H v u Q I r h
 exact wpAny_assign_Name (store_ok I hN hi hx r (λs' I'=>⟨_,H,I',h⟩) hf)
def zjN:TGs:=λvs σ H Q=>vs=[]∧Q σ H
def zdg (t:TG) (u:TGs):TGs:=λvs σ H Q=>∃ v r,vs=v :: r∧t v σ H λσ' H'=>u r σ' H' Q
theorem zbL:PGs X [] zjN:=by
 intro pins s σ H vs us Q I r h
 obtain ⟨e,h⟩:=h
 subst e
 cases r
 exact assignInOrder_nil ⟨σ,H,I,h⟩
theorem zap {e:Expr} {es:List Expr} {t:TG} {u:TGs} (h1:PG X e t) (h2:PGs X es u)
  (hs:(assignEach (e :: es) X.env).map (·.2)=assign e X.env :: (assignEach es X.env).map (·.2):=by rfl):PGs X (e :: es) (zdg t u):=by
 intro pins s σ H vs us Q I r h
 obtain ⟨v,vr,e1,h⟩:=h
 subst e1
 cases r with
 | cons r rr =>
  rw [hs]
  refine assignInOrder_cons (thn (h1 pins s σ H _ _ _ I r h) λ_ s1 ⟨σ1,H1,I1,q1⟩=>?_)
  exact h2 pins s1 σ1 H1 _ _ Q I1 rr q1
def zi1 (K:W.Frag) (n:Nat) (t:TGs):TG:=λv σ H Q=>∃ a xs,v=.ref a∧SqT K H a xs∧xs.length=n∧t xs σ H Q
theorem zlb {es:List Expr} {k:Nat} {t:TGs} {n:Nat} (hc:X.calm=true) (h:PGs X es t)
  (hn:(assignEach es X.env).length=n:=by rfl) (hst:(assignEach es X.env).findIdx? (·.1)=none:=by rfl):PG X (.Tuple es k pos) (zi1 X.K n t):=by
 intro pins s σ H v u Q I r hw
 obtain ⟨a,xs,e1,hq,hl,hw⟩:=hw
 subst e1
 cases r
 obtain ⟨its,rv,ht,hz⟩:=I.tuple hq
 refine assign_Tuple_tuple (I.ok.hd hc) ht (by simp [hn,← hl,rv.length]) hst λh' hx=>?_
 have I1:Inv X pins σ H { s with heap:=h' }:=I.kept (t':=s.toks) λb o e=>hx b o (Nat.ne_of_lt (Heap.lt_size e)) e
 exact h pins _ σ H xs _ Q I1 (by simpa using rv) hw
def zll (to ti:TE) (t:zlH):TG:=λv σ H Q=>to σ H λo H1=>ti σ H1 λi H2=>t o i v H2 λH3=>Q σ H3
theorem zfD {o i:Expr} {to ti:TE} {t:zlH} (ho:PE X o to) (hi:PE X i ti) (hs:zlY X t)
  (ha:∀ v,assign (.Subscript o i pos) X.env v=(do
   let ov ← holding [v] (eval o X.env)
   let iv ← holding [v,ov] (eval i X.env)
   standAt pos
   holding [v,ov,iv] (setItem ov iv v)
   release [v,ov,iv] []):=by intro _;rfl):PG X (.Subscript o i pos) (zll to ti t):=by
 intro pins s σ H v u Q I r h
 rw [ha]
 refine wpAny_bind (wpAny_holding (thn (ho pins s σ H _ I h) λov s1 ⟨x,H1,I1,r1,q1⟩=>?_))
 refine wpAny_bind (wpAny_holding (thn (hi pins s1 σ H1 _ I1 q1) λiv s2 ⟨y,H2,I2,r2,q2⟩=>?_))
 refine wpAny_bind (wpAny_standAt (wpAny_bind (wpAny_holding (thn (hs pins s2 σ H2 x y v ov iv u _ I2 r1 r2 r q2) λ_ s3 ⟨H3,I3,q3⟩=>?_))))
 exact wpAny_release ⟨σ,H3,I3,q3⟩
def zfm (te:TE) (g:TG):TS:=λD σ H=>te σ H λx H1=>g x σ H1 D.nx
theorem zdv {tg e:Expr} {te:TE} {g:TG} (he:PE X e te) (hg:PG X tg g) (hs:swapsWithSole [tg] e pos.line X.env=pure false:=by rfl) (hw:swappedStores [tg] e X.env=pure none:=by rfl)
  (h1:(assignEach [tg] X.env).map (·.2)=[assign tg X.env]:=by rfl):PS X (.Assign [tg] e pos) (zfm te g):=by
 intro pins s σ H D I h
 refine wpAny_Assign_stores (thn (he pins s σ H _ I h) λv s1 ⟨x,H1,I1,r1,q1⟩=>?_) hs hw
 rw [h1]
 exact thn (hg pins s1 σ H1 x v _ I1 r1 q1) λ_ s2 q=>q
theorem zao {i:Nat} {x:Str} {e:Expr} {te:TE} {pos':Pos} (hN:X.N.Nodup) (hi:X.N[i]?=some x) (hx:Loc X.env.scope x) (he:PE X e te) (hs:swapsWith e (some (.Name x pos')) pos.line X.env=pure false:=by rfl) (hf:X.fn x=true∨X.env.scope.names.lookup x=some .local:=by first | exact .inl rfl | exact .inr rfl | assumption) :
  PS X (.Assign [.Name x pos'] e pos) (zfm te (zbo i)):=by
 intro pins s σ H D I h
 refine wpAny_Assign_Name (thn (he pins s σ H _ I h) λv s1 ⟨y,H1,I1,r1,q1⟩=>?_) hs
 exact store_ok I1 hN hi hx r1 (λs2 I2=>⟨_,H1,I2,q1⟩) hf
end
section
variable {X:Cx} {pos:Pos}
end
structure It where
 go:Nat->Hp->Prop
 yld:Nat->Hp->V->Hp->Prop
 stop:Nat->Hp->Prop
def FpOk (X:Cx) (pins:List (Addr×Obj)) (H:Hp) (b:Addr):Prop :=
 H b=none∧b≠X.env.locals∧b ∉ X.fs∧(b∈X.ex∨X.s₀.heap.objs.size≤b)∧(∀ x c,X.env.cells.lookup x=some c->c≠b)∧∀ p∈X.pn++pins,p.1≠b
theorem Inv.fpOk {X:Cx} {pins:List (Addr×Obj)} {σ:St} {H H':Hp} {s:Shared} {b:Addr} (I:Inv X pins σ H s) (hb:s.heap.objs.size≤b) (hn:H' b=none):FpOk X pins H' b:=by
 refine ⟨hn,Nat.ne_of_gt (Nat.lt_of_lt_of_le I.lt hb),I.nofs hb,.inr (Nat.le_trans I.sz hb),λx c e z=>?_,λp hp z=>?_⟩
 ·obtain ⟨v,q⟩:=I.cell x c e
  exact absurd (Nat.lt_of_lt_of_le q.lt (by rw [z];exact hb)) (Nat.lt_irrefl _)
 ·exact absurd (Nat.lt_of_lt_of_le (Heap.lt_size (I.pin p hp).1) (by rw [z];exact hb)) (Nat.lt_irrefl _)
structure Turn (P:Program) (w:World) (K:W.Frag) (tg:Expr) (J:It) (fp:List Addr) (it:Addr) (tn:Nat->Heap->Prop):Prop where
 mem:it∈fp
 obj:∀ i h,tn i h->∀ b∈fp,∃ o,h.get? b=some o∧∀ v,o.data≠.cell v
 keep:∀ i h h',tn i h->(∀ b∈fp,∀ o,h.get? b=some o->h'.get? b=some o)->tn i h'
 item:∀ (X:Cx),X.prog=P->X.w=w->X.K=K->X.calm=true->∀ (i:Nat) (pins:List (Addr×Obj)) (s:Shared) (σ:St) (H:Hp) (E:Value->Shared->Prop),Inv X pins σ H s->(∀ b∈fp,FpOk X pins H b)->tn i s.heap->J.go i H →
  wpAny (model P w) X.A (pyNext (.ref it)) (λr s1=>∃ u,r=some u ∧
   wpAny (model P w) X.A (letOwnedTupleGo tg (.ref it) u) (λ_ s2=>∃ x H',Inv X pins σ H' s2∧RelV x u∧J.yld i H x H'∧tn (i+1) s2.heap∧∀ b∈fp,H' b=none) E s1) E s
 done:∀ (X:Cx),X.prog=P->X.w=w->X.K=K->X.calm=true->∀ (i:Nat) (pins:List (Addr×Obj)) (s:Shared) (σ:St) (H:Hp) (E:Value->Shared->Prop),Inv X pins σ H s->(∀ b∈fp,FpOk X pins H b)->tn i s.heap->J.stop i H →
  wpAny (model P w) X.A (pyNext (.ref it)) (λr s1=>r=none∧Inv X pins σ H s1) E s
 self:∀ (A:Around) (i:Nat) (s:Shared) (Q:Value->Shared->Prop) (E:Value->Shared->Prop),tn i s.heap->Q (.ref it) s->wpAny (model P w) A (pyIter (.ref it)) Q E s
abbrev TI:=St->Hp->(It->Hp->Prop)->Prop
def PIE (X:Cx) (pins:List (Addr×Obj)) (σ:St) (tg:Expr) (R:It->Hp->Prop) (itv:Value) (s2:Shared):Prop :=
 ∃ (it:Addr) (fp:List Addr) (tn:Nat->Heap->Prop) (J:It) (H':Hp),itv=.ref it∧Inv X pins σ H' s2∧Turn X.prog X.w X.K tg J fp it tn∧tn 0 s2.heap∧(∀ b∈fp,FpOk X pins H' b)∧R J H'
def PI (X:Cx) (tg iter:Expr) (wi:TI):Prop :=
 ∀ (pins:List (Addr×Obj)) (s:Shared) (σ:St) (H:Hp) (R:It->Hp->Prop),Inv X pins σ H s->wi σ H R →
  wpAny (model X.prog X.w) X.A (eval iter X.env) (λv s1=>wpAny (model X.prog X.w) X.A (pyIter v) (PIE X pins σ tg R) X.xe s1) X.xe s
theorem zkB {M:Model} {A:Around} {E:Value->Shared->Prop} {s:Shared} {tg:Expr} {it:Addr} {u:Value} {o:Obj} {n:String} {vs:Array Value} {Q:Unit->Shared->Prop} (ho:s.heap.get? it=some o) (hc:o.cls=.type n) (hd:o.data=.fields vs)
  (hn:["enumerate","zip","dict_itemiterator","dict_reverseitemiterator","odict_iterator","itertools.zip_longest","itertools.pairwise"].contains n=false) (hQ:Q () s):wpAny M A (letOwnedTupleGo tg (.ref it) u) Q E s:=by
 unfold letOwnedTupleGo
 cases tg<;>first
  | exact wpAny_pure hQ
  | (cases u<;>first
    | exact wpAny_pure hQ
    | (refine wpAny_bind (wpAny_load ho ?_)
       rw [hc,hd]
       show wpAny M A (if (["enumerate","zip","dict_itemiterator","dict_reverseitemiterator","odict_iterator","itertools.zip_longest","itertools.pairwise"].contains n&&vs[0]? == some (rawInt _))=true then _ else _) Q E s
       rw [if_neg (by intro h;rw [hn,Bool.false_and] at h;cases h)]
       exact wpAny_pure hQ))
def Itl (K:W.Frag) (a:Addr):It :=
 ⟨λi H=>∃ xs x,SqL K H a xs∧xs[i]?=some x,λi H x H'=>H'=H∧∀ xs,SqL K H a xs->xs[i]?=some x,λi H=>∃ xs,SqL K H a xs∧xs.length≤i⟩
def Itr (lo:Int) (n:Nat):It:=⟨λi _=>i<n,λi H x H'=>H'=H∧x=.int (lo+i),λi _=>n≤i⟩
theorem zgU {P:Program} {w:World} {K:W.Frag} {tg:Expr} (a it:Addr):Turn P w K tg (Itl K a) [it] it (λi h=>h.IsListIter it a i) where
 mem:=by simp
 obj:=λi h st b hb=>by
  have e:b=it:=by simpa using hb
  subst e
  obtain ⟨o,e,c,d⟩:=st
  exact ⟨o,e,λv z=>by rw [d] at z;cases z⟩
 keep:=λi h h' st k=>st.at λo e=>k it (by simp) o e
 item:=by
  intro X hP hw hK hc i pins s σ H E I hf st hg
  subst hP hw hK
  obtain ⟨xs,x,hq,hx⟩:=hg
  obtain ⟨its,rv,p,hz⟩:=I.list hq
  obtain ⟨u,hu,ru⟩:=rv.get hx
  obtain ⟨f0,f1,f2,f3,f4,f5⟩:=hf it (by simp)
  refine wpAny_pyNext_list_item st p.isList (x:=u) (by simpa using hu) λh' st' sb=>?_
  have I1:Inv X pins σ H { s with heap:=h' }:=I.turned (t':=s.toks) (λb o hb e=>(sb.2 b hb).trans e) f0 f1 f3 f4 f5
  obtain ⟨o,e,c,d⟩:=id st'
  exact ⟨u,rfl,zkB (s:={ s with heap:=h' }) e c d (by decide) ⟨x,H,I1,ru,⟨rfl,λys hy=>by rw [I.list_inj hy hq];exact hx⟩,st',λb hb=>(hf b hb).1⟩⟩
 done:=by
  intro X hP hw hK hc i pins s σ H E I hf st hg
  subst hP hw hK
  obtain ⟨xs,hq,hx⟩:=hg
  obtain ⟨its,rv,p,hz⟩:=I.list hq
  obtain ⟨f0,f1,f2,f3,f4,f5⟩:=hf it (by simp)
  have hl:=rv.length
  exact wpAny_pyNext_list_end (I.ok.hd hc) st p.isList (by simp;omega) λh' eb=>⟨rfl,I.turned (t':=s.toks) (λb o hb e=>eb b o hb e) f0 f1 f3 f4 f5⟩
 self:=λ_ _ _ _ _ st h=>wpAny_pyIter_listiter st h
theorem zgK {P:Program} {w:World} {K:W.Frag} {tg:Expr} (it:Addr) (lo:Int) (n:Nat):Turn P w K tg (Itr lo n) [it] it (λi h=>IsRangeIter h it (lo+(i:Nat)*1) ((n:Int)-(i:Nat)) 1) where
 mem:=by simp
 obj:=λi h st b hb=>by
  have e:b=it:=by simpa using hb
  subst e
  exact ⟨_,st,λv z=>by
   have z':Data.fields _=Data.cell v:=z
   cases z'⟩
 keep:=λi h h' st k=>k it (by simp) _ st
 item:=by
  intro X hP hw hK hc i pins s σ H E I hf st hg
  subst hP hw hK
  obtain ⟨f0,f1,f2,f3,f4,f5⟩:=hf it (by simp)
  have W:=Walks.range (prog:=X.prog) (w:=X.w) (I.ok.hd hc) it lo 1 n
  refine W.item i s _ _ hg st λv h' tk hv st' kk=>?_
  obtain ⟨t,rfl⟩:=hv
  have I1:Inv X pins σ H { s with heap:=h',toks:=tk }:=I.turned (λb o hb e=>kk b o (by simpa using hb) e) f0 f1 f3 f4 f5
  refine ⟨_,rfl,zkB (s:={ s with heap:=h',toks:=tk }) (n:="range_iterator") st' rfl rfl (by decide) ⟨.int (lo+i),H,I1,⟨t,?_⟩,⟨rfl,rfl⟩,st',λb hb=>(hf b hb).1⟩⟩
  rw [Int.mul_one]
 done:=by
  intro X hP hw hK hc i pins s σ H E I hf st hg
  subst hP hw hK
  obtain ⟨f0,f1,f2,f3,f4,f5⟩:=hf it (by simp)
  exact wpAny_pyNext_range_end (I.ok.hd hc) st (by have:n≤i:=hg;omega) λh' eb=>⟨rfl,I.turned (t':=s.toks) (λb o hb e=>eb b o hb e) f0 f1 f3 f4 f5⟩
 self:=λ_ _ _ _ _ st h=>wpAny_pyIter_rangeiter st h
end L2
namespace L2
open PySem PySem.Spec PyProof.Rows
section
variable {X:Cx} {tg:Expr}
def zix (K:W.Frag) (tl:TE):TI:=λσ H R=>tl σ H λx H1=>∃ a,x=.ref a∧(∃ xs,SqL K H1 a xs)∧R (Itl K a) H1
theorem zjB {l:Expr} {tl:TE} (hl:PE X l tl):PI X tg l (zix X.K tl):=by
 intro pins s σ H R I h
 refine thn (hl pins s σ H _ I h) λv s1 ⟨x,H1,I1,r1,q1⟩=>?_
 obtain ⟨a,e,⟨xs,hq⟩,q⟩:=q1
 subst e
 cases r1
 obtain ⟨its,rv,p,hz⟩:=I1.list hq
 refine wpAny_pyIter_list p.isList ?_
 refine ⟨s1.heap.objs.size,[s1.heap.objs.size],_,_,H1,rfl,I1.kept (t':=s1.toks) λb o e=>Heap.get?_push_of_some _ e,zgU a _,⟨_,Heap.get?_push_size _ rfl,rfl,rfl⟩,λb hb=>?_,q⟩
 have e:b=s1.heap.objs.size:=by simpa using hb
 subst e
 exact I1.fpOk (Nat.le_refl _) (I1.hok.fresh (Nat.le_refl _))
theorem ziU {pins:List (Addr×Obj)} {σ:St} {H:Hp} {s:Shared} {R:It->Hp->Prop} {E:Value->Shared->Prop} {lo hi:Int} {t u v:Tok} {tk:Nat} (I:Inv X pins σ H s) (h1:-(2^62)≤lo) (h2:lo<2^62) (h3:-(2^62)≤hi) (h4:hi<2^62)
  (q:R (Itr lo (hi-lo).toNat) H):wpAny (model X.prog X.w) X.A (pyIter (.ref s.heap.objs.size)) (PIE X pins σ tg R) E { s with heap:=s.heap.push { cls:=.type "range",data:=.fields #[.int lo t,.int hi u,.int 1 v] },toks:=tk }:=by
 refine wpAny_pyIter_range (IsRange.new ..) (small_one h1 h2 h3 h4) ?_
 have I1:Inv X pins σ H { s with heap:=s.heap.push { cls:=.type "range",data:=.fields #[.int lo t,.int hi u,.int 1 v] },toks:=tk }:=I.kept λb o e=>Heap.get?_push_of_some _ e
 refine ⟨(s.heap.push { cls:=.type "range",data:=.fields #[.int lo t,.int hi u,.int 1 v] }).objs.size,[(s.heap.push { cls:=.type "range",data:=.fields #[.int lo t,.int hi u,.int 1 v] }).objs.size],_,_,H,rfl,
  I1.kept (t':=tk) λb o e=>Heap.get?_push_of_some _ e,zgK _ lo (hi-lo).toNat,?_,λb hb=>?_,q⟩
 ·have e1:lo+((0:Nat):Int)*1=lo:=by simp
  have e2:(((hi-lo).toNat:Nat):Int)-((0:Nat):Int)=Builtin.Range.rangeSize lo hi 1:=by rw [rangeSize_one];split<;>omega
  show IsRangeIter _ _ (lo+((0:Nat):Int)*1) ((((hi-lo).toNat:Nat):Int)-((0:Nat):Int)) 1
  rw [e1,e2]
  exact Heap.get?_push_size _ rfl
 ·have e:b=(s.heap.push { cls:=.type "range",data:=.fields #[.int lo t,.int hi u,.int 1 v] }).objs.size:=by simpa using hb
  subst e
  exact I1.fpOk (Nat.le_refl _) (I1.hok.fresh (Nat.le_refl _))
def zk8 (ta:TA):TI:=λσ H R=>ta σ H λvs H1=>∃ j:Int,vs=[.int j]∧-(2^62)≤j∧j<2^62∧R (Itr 0 j.toNat) H1
theorem zbA {a:Expr} {ta:TA} {p pos:Pos} (hg:Gl X "range") (hm:X.mg "range"=none) (ha:PA X [a] ta) (hs:starEach [a] X.env=[(false,eval a X.env)]:=by rfl):PI X tg (.Call (.Name "range" p) [a] [] pos) (zk8 ta):=by
 intro pins s σ H R I h
 refine Call_ (ld_blt I hg hm boot_range (PyProof.Rows.callWith_type1 (thn (ha pos pins s σ H _ I h) λus s1 ⟨vs,H1,I1,r1,q1⟩=>?_) hs rfl))
 obtain ⟨j,e,q1,q2,q⟩:=q1
 subst e
 cases r1 with
 | cons r rr =>
  cases rr
  obtain ⟨t,rfl⟩:=r
  exact call_range_1 (ziU I1 (by omega) (by omega) q1 q2 (by simpa using q))
def zlf (wi:TI) (g:TG) (tb:TS):TS:=λD σ H=>wi σ H λJ H1=>∃ W:Nat->Nat->St->Hp->Prop,(∃ m,W 0 m σ H1)∧∀ i m σ H,W i m σ H →
 (J.stop i H∧D.nx σ H)∨(J.go i H∧∃ N:St->Hp->Prop,(∀ σ' H',N σ' H'->∃ m',m'<m∧W (i+1) m' σ' H')∧∀ x H',J.yld i H x H'->g x σ H' λσ2 H2=>tb { D with nx:=N,ct:=N,bk:=D.nx } σ2 H2)
def zfj (fp:List Addr) (h:Heap):List (Addr×Obj):=fp.filterMap λb=>(h.get? b).map λo=>(b,o)
theorem zdo {fp:List Addr} {h:Heap} {b:Addr} {o:Obj} (hb:b∈fp) (e:h.get? b=some o):(b,o)∈zfj fp h:=List.mem_filterMap.mpr ⟨b,hb,by rw [e];rfl⟩
theorem zhF {fp:List Addr} {h:Heap} {p:Addr×Obj} (hp:p∈zfj fp h):p.1∈fp∧h.get? p.1=some p.2:=by
 obtain ⟨b,hb,e⟩:=List.mem_filterMap.mp hp
 cases q:h.get? b with
 | none=>rw [q] at e;cases e
 | some o =>
  rw [q] at e
  have e':(b,o)=p:=Option.some.inj e
  subst e'
  exact ⟨hb,q⟩
theorem Inv.pinned {pins:List (Addr×Obj)} {σ:St} {H:Hp} {s:Shared} {fp:List Addr} (I:Inv X pins σ H s) (hf:∀ b∈fp,FpOk X pins H b) (ho:∀ b∈fp,∃ o,s.heap.get? b=some o∧∀ v,o.data≠.cell v):Inv X (pins++zfj fp s.heap) σ H s :=
 I.pins_of λp hp=>(List.mem_append.mp hp).elim (λz=>I.pin p (List.mem_append_right _ z)) λz=>by
  obtain ⟨hb,e⟩:=zhF z
  obtain ⟨f0,f1,f2,_⟩:=hf p.1 hb
  obtain ⟨o,e',d⟩:=ho p.1 hb
  rw [e] at e';cases e'
  exact ⟨e,f0,f1,f2,d⟩
theorem Inv.unpinned {pins pl:List (Addr×Obj)} {σ:St} {H:Hp} {s:Shared} (I:Inv X (pins++pl) σ H s):Inv X pins σ H s:=I.pins_of λp hp=>I.pin p (List.mem_append_right _ (List.mem_append_left _ hp))
theorem zc2 {iter:Expr} {body:List Stmt} {wi:TI} {g:TG} {tb:TS} {pos:Pos} (hp:PassesOwn (model X.prog X.w) X.A X.env X.xe) (hc:X.calm=true) (hi:PI X tg iter wi) (hg:PG X tg g) (hb:PSs X body tb)
  (hs:∀ x,foldedSetIterable iter X.env x=pure x:=by intro _;rfl):PS X (.For tg iter body [] pos) (zlf wi g tb):=by
 intro pins s σ H D I h
 refine wpAny_For (thn (hi pins s σ H _ I h) λv s1 h1=>thn h1 λitv s2 h2=>?_) hs
 obtain ⟨it,fp,tn,J,H2,e,I2,T,st2,f2,W,⟨m0,w0⟩,turn⟩:=h2
 subst e
 have stat:∀ {H':Hp},(∀ b∈fp,H' b=none)->∀ b∈fp,FpOk X pins H' b:=λhn b hb=>⟨hn b hb,(f2 b hb).2⟩
 refine codeAny_forLoop_any (λn s'=>∃ i σ' H',Inv X pins σ' H' s'∧tn i s'.heap∧(∀ b∈fp,H' b=none)∧W i n σ' H') ?_ m0 ⟨0,σ,H2,I2,st2,λb hb=>(f2 b hb).1,w0⟩
 rintro n s3 ⟨i,σ3,H3,I3,st3,fr3,w3⟩
 rcases turn i n σ3 H3 w3 with ⟨stop,qn⟩ | ⟨go,N,hN,step⟩
 ·refine wpAny_passesOwn hp (thn (T.done X rfl rfl rfl hc i pins s3 σ3 H3 X.xe I3 (stat fr3) st3 stop) λr s4 ⟨hr,I4⟩=>?_)
  subst hr
  exact wpAny_execs_nil ⟨σ3,H3,I4,qn⟩
 ·refine wpAny_passesOwn hp (thn (T.item X rfl rfl rfl hc i pins s3 σ3 H3 X.xe I3 (stat fr3) st3 go) λr s4 ⟨u,hr,h4⟩=>?_)
  subst hr
  refine wpAny_passesOwn hp (thn h4 λ_ s5 ⟨x,H5,I5,r5,y5,st5,fr5⟩=>?_)
  have I5':=I5.pinned (stat fr5) (T.obj _ _ st5)
  refine wpAny_passesOwn hp (thn (hg _ s5 σ3 H5 x u _ I5' r5 (step x H5 y5)) λ_ s6 ⟨σ6,H6,I6,q6⟩=>?_)
  refine wpAny_passesOwn hp (thn (hb _ s6 σ6 H6 _ I6 q6) λf s7 q7=>?_)
  have again:∀ {σ7:St} {H7:Hp},Inv X (pins++zfj fp s5.heap) σ7 H7 s7->N σ7 H7->∃ m,m<n∧∃ i σ' H',Inv X pins σ' H' s7∧tn i s7.heap∧(∀ b∈fp,H' b=none)∧W i m σ' H':=λ{σ7 H7} I7 n7=>by
   obtain ⟨m',hm,w7⟩:=hN σ7 H7 n7
   refine ⟨m',hm,i+1,σ7,H7,I7.unpinned,T.keep _ _ _ st5 λb hb o e=>(I7.pin (b,o) (List.mem_append_right _ (List.mem_append_right _ (zdo hb e)))).1,λb hb=>?_,w7⟩
   obtain ⟨o,e,d⟩:=T.obj _ _ st5 b hb
   exact (I7.pin (b,o) (List.mem_append_right _ (List.mem_append_right _ (zdo hb e)))).2.1
  cases f with
  | next=>obtain ⟨σ7,H7,I7,n7⟩:=q7;exact again I7 n7
  | cont=>obtain ⟨σ7,H7,I7,n7⟩:=q7;exact again I7 n7
  | brk=>obtain ⟨σ7,H7,I7,q7⟩:=q7;exact ⟨σ7,H7,I7.unpinned,q7⟩
  | ret v=>obtain ⟨x7,σ7,H7,I7,r7,q7⟩:=q7;exact ⟨x7,σ7,H7,I7.unpinned,r7,q7⟩
end
end L2
namespace L2
open PySem PySem.Spec PyProof.Rows
abbrev R2:=V->V->Hp->VK->Prop
def OpR (X:Cx) (f:Value->Value->Sem Value) (r:R2):Prop :=
 ∀ (pins:List (Addr×Obj)) (s:Shared) (σ:St) (H:Hp) (x y:V) (v u:Value) (Q:VK),Inv X pins σ H s->RelV x v->RelV y u->r x y H Q →
  wpAny (model X.prog X.w) X.A (f v u) (EP X pins σ Q) X.xe s
def zdJ (X:Cx) (f:Value) (r:List V->Hp->VK->Prop):Prop :=
 ∀ (pins:List (Addr×Obj)) (s:Shared) (σ:St) (H:Hp) (xs:List V) (us:List Value) (Q:VK),Inv X pins σ H s->Vals xs us->r xs H Q →
  wpAny (model X.prog X.w) X.A (call f us) (EP X pins σ Q) X.xe s
def tOp (r:R2) (ta tb:TE):TE:=λσ H Q=>ta σ H λx H1=>tb σ H1 λy H2=>r x y H2 Q
def rI (C:Int->Int->Prop) (g:Int->Int->V):R2:=λx y H Q=>∃ i j,x=.int i∧y=.int j∧C i j∧Q (g i j) H
def rI0 (g:Int->Int->V):R2:=λx y H Q=>∃ i j,x=.int i∧y=.int j∧Q (g i j) H
section
variable {X:Cx} {a b c:Expr} {ta tb tc:TE} {pos:Pos}
theorem binT (ha:PE X a ta) (hb:PE X b tb) {pins:List (Addr×Obj)} {s:Shared} {σ:St} {H:Hp} {R:V->V->Hp->Prop} (I:Inv X pins σ H s)
  (h:ta σ H λx H1=>tb σ H1 λy H2=>R x y H2) {Q:Value->Shared->Prop} {f:Value->Value->Sem Value}
  (hf:∀ v u s2 x y H2,Inv X pins σ H2 s2->RelV x v->RelV y u->R x y H2->wpAny (model X.prog X.w) X.A (f v u) Q X.xe s2) :
  wpAny (model X.prog X.w) X.A (eval a X.env) (λv s₁=>wpAny (model X.prog X.w) X.A (eval b X.env) (λu s₂=>wpAny (model X.prog X.w) X.A (f v u) Q X.xe s₂) X.xe s₁) X.xe s:=by
 refine thn (ha pins s σ H _ I h) λv s1 ⟨x,H1,I1,r1,q1⟩=>?_
 refine thn (hb pins s1 σ H1 _ I1 q1) λu s2 ⟨y,H2,I2,r2,q2⟩=>?_
 exact hf v u s2 x y H2 I2 r1 r2 q2
theorem zam {op:Operator} {r:R2} (ho:OpR X (binaryOp op) r) (ha:PE X a ta) (hb:PE X b tb):PE X (.BinOp a op b pos) (tOp r ta tb):=by
 intro pins s σ H Q I h
 exact wpAny_BinOp (binT ha hb I h λv u s2 x y H2 I2 rx ry q=>ho pins s2 σ H2 x y v u Q I2 rx ry q)
theorem opI {f:Value->Value->Sem Value} {C:Int->Int->Prop} {g:Int->Int->Int}
  (rule:∀ (i j:Int) (t u:Tok) (s:Shared) (Q:Value->Shared->Prop) (E:Value->Shared->Prop),C i j->Q (.int (g i j) s.toks) { s with toks:=s.toks+1 }->wpAny (model X.prog X.w) X.A (f (.int i t) (.int j u)) Q E s) :
  OpR X f (rI C λi j=>.int (g i j)):=by
 intro pins s σ H x y v u Q I rx ry h
 obtain ⟨i,j,rfl,rfl,hc,q⟩:=h
 obtain ⟨t,rfl⟩:=rx
 obtain ⟨t',rfl⟩:=ry
 exact rule i j t t' s _ _ hc ⟨.int (g i j),H,I.tok _,⟨_,rfl⟩,q⟩
theorem zl6 {f:Value->Value->Sem Value} {g:Int->Int->Int}
  (rule:∀ (i j:Int) (t u:Tok) (s:Shared) (Q:Value->Shared->Prop) (E:Value->Shared->Prop),Q (.int (g i j) s.toks) { s with toks:=s.toks+1 }->wpAny (model X.prog X.w) X.A (f (.int i t) (.int j u)) Q E s) :
  OpR X f (rI0 λi j=>.int (g i j)):=by
 intro pins s σ H x y v u Q I rx ry h
 obtain ⟨i,j,rfl,rfl,q⟩:=h
 obtain ⟨t,rfl⟩:=rx
 obtain ⟨t',rfl⟩:=ry
 exact rule i j t t' s _ _ ⟨.int (g i j),H,I.tok _,⟨_,rfl⟩,q⟩
theorem zl1 {f:Value->Value->Sem Value} {g:Int->Int->Bool}
  (rule:∀ (i j:Int) (t u:Tok) (s:Shared) (Q:Value->Shared->Prop) (E:Value->Shared->Prop),Q (.bool (g i j)) s->wpAny (model X.prog X.w) X.A (f (.int i t) (.int j u)) Q E s) :
  OpR X f (rI0 λi j=>.bl (g i j)):=by
 intro pins s σ H x y v u Q I rx ry h
 obtain ⟨i,j,rfl,rfl,q⟩:=h
 obtain ⟨t,rfl⟩:=rx
 obtain ⟨t',rfl⟩:=ry
 exact rule i j t t' s _ _ ⟨.bl (g i j),H,I,rfl,q⟩
def zme (i j:Int):Prop:=0≤j∧j≤1000000∧i.natAbs<2^64
theorem zb8:OpR X (binaryOp .Add) (rI0 λi j=>.int (i+j)):=zl6 λ_ _ _ _ _ _ _ q=>add_int q
theorem zgd:OpR X (binaryOp .Sub) (rI0 λi j=>.int (i-j)):=zl6 λ_ _ _ _ _ _ _ q=>sub_int q
theorem zbi:OpR X (binaryOp .Mod) (rI (λ_ j=>0<j) λi j=>.int (i%j)):=opI λi j _ _ _ _ _ hc q=>by
 have h1:(0:Int)<j:=hc
 exact mod_int' (by omega) (by rw [Int.fmod_eq_emod_of_nonneg i (by omega)];exact q)
theorem zkm:OpR X (binaryOp .Pow) (rI zme λi j=>.int (i^j.toNat)):=opI λ_ _ _ _ _ _ _ hc q=>pow_int_small hc.1 hc.2.1 hc.2.2 q
end
def scal:V->V->Bool
 | .non,.non=>true | .non,.int _=>true | .int _,.non=>true | .non,.bl _=>true | .bl _,.non=>true | .non,.str _=>true | .str _,.non=>true
 | .int _,.int _=>true | .bl _,.bl _=>true | .str _,.str _=>true | .byt _,.byt _=>true
 | .int _,.str _=>true | .str _,.int _=>true | .bl _,.str _=>true | .str _,.bl _=>true
 | _,_=>false
def rEq:R2:=λx y H Q=>scal x y=true∧Q (.bl (decide (x=y))) H
def rNe:R2:=λx y H Q=>scal x y=true∧Q (.bl (!decide (x=y))) H
theorem zgS {i j:Int}:decide (V.int i=V.int j)=(i == j):=by
 rw [Bool.eq_iff_iff]
 simp
theorem dec_bl {i j:Bool}:decide (V.bl i=V.bl j)=(i == j):=by
 rw [Bool.eq_iff_iff]
 simp
theorem zhk {i j:Str}:decide (V.str i=V.str j)=(i == j):=by
 rw [Bool.eq_iff_iff]
 simp
theorem zhw {i j:Array UInt8}:decide (V.byt i=V.byt j)=(i.toList == j.toList):=by
 rw [Bool.eq_iff_iff]
 cases i
 cases j
 simp
section
variable {X:Cx} {a b c:Expr} {ta tb tc:TE} {pos:Pos}
theorem fin_bl {pins:List (Addr×Obj)} {σ:St} {H:Hp} {s:Shared} {Q:VK} {k k':Bool} (I:Inv X pins σ H s) (q:Q (.bl k) H) (e:k=k'):EP X pins σ Q (.bool k') s:=by
 subst e
 exact ⟨.bl k,H,I,rfl,q⟩
theorem op_eq:OpR X (compareOp .Eq) rEq:=by
 intro pins s σ H x y v u Q I rx ry h
 obtain ⟨hs,q⟩:=h
 cases x with
 | non =>
  cases rx
  cases y with
  | non=>cases ry;exact PySem.EqNone.eq_none_none (fin_bl I q (by simp))
  | bl j=>cases ry;exact PySem.EqNone.eq_none_bool (fin_bl I q (by simp))
  | int j=>obtain ⟨t',rfl⟩:=ry;exact PySem.EqNone.eq_none_int (fin_bl I q (by simp))
  | str j=>obtain ⟨t',rfl⟩:=ry;exact PySem.EqNone.eq_none_str (fin_bl I q (by simp))
  | _=>exact absurd (show false=true from hs) Bool.false_ne_true
 | bl i =>
  cases rx
  cases y with
  | non=>cases ry;exact PySem.EqNone.eq_bool_none (fin_bl I q (by simp))
  | bl j=>cases ry;exact eq_bool (fin_bl I q dec_bl)
  | str j=>obtain ⟨t',rfl⟩:=ry;exact PySem.EqMixed.eq_bool_str (fin_bl I q (by simp))
  | _=>exact absurd (show false=true from hs) Bool.false_ne_true
 | int i =>
  obtain ⟨t,rfl⟩:=rx
  cases y with
  | non=>cases ry;exact PySem.EqNone.eq_int_none (fin_bl I q (by simp))
  | int j=>obtain ⟨t',rfl⟩:=ry;exact eq_int (fin_bl I q zgS)
  | str j=>obtain ⟨t',rfl⟩:=ry;exact PySem.EqMixed.eq_int_str (fin_bl I q (by simp))
  | _=>exact absurd (show false=true from hs) Bool.false_ne_true
 | str i =>
  obtain ⟨t,rfl⟩:=rx
  cases y with
  | non=>cases ry;exact PySem.EqNone.eq_str_none (fin_bl I q (by simp))
  | bl j=>cases ry;exact PySem.EqMixed.eq_str_bool (fin_bl I q (by simp))
  | int j=>obtain ⟨t',rfl⟩:=ry;exact PySem.EqMixed.eq_str_int (fin_bl I q (by simp))
  | str j=>obtain ⟨t',rfl⟩:=ry;exact eq_str (fin_bl I q zhk)
  | _=>exact absurd (show false=true from hs) Bool.false_ne_true
 | byt i =>
  obtain ⟨t,rfl⟩:=rx
  cases y with
  | byt j=>obtain ⟨t',rfl⟩:=ry;exact W.eq_bytes (fin_bl I q zhw)
  | _=>exact absurd (show false=true from hs) Bool.false_ne_true
 | _=>cases y<;>exact absurd (show false=true from hs) Bool.false_ne_true
theorem ze7:OpR X (compareOp .NotEq) rNe:=by
 intro pins s σ H x y v u Q I rx ry h
 obtain ⟨hs,q⟩:=h
 cases x with
 | non =>
  cases rx
  cases y with
  | non=>cases ry;exact PySem.EqNone.ne_none_none (fin_bl I q (by simp))
  | bl j=>cases ry;exact PySem.EqNone.ne_none_bool (fin_bl I q (by simp))
  | int j=>obtain ⟨t',rfl⟩:=ry;exact PySem.EqNone.ne_none_int (fin_bl I q (by simp))
  | str j=>obtain ⟨t',rfl⟩:=ry;exact PySem.EqNone.ne_none_str (fin_bl I q (by simp))
  | _=>exact absurd (show false=true from hs) Bool.false_ne_true
 | bl i =>
  cases rx
  cases y with
  | non=>cases ry;exact PySem.EqNone.ne_bool_none (fin_bl I q (by simp))
  | bl j=>cases ry;exact ne_bool (fin_bl I q (congrArg not dec_bl))
  | str j=>obtain ⟨t',rfl⟩:=ry;exact PySem.EqMixed.ne_bool_str (fin_bl I q (by simp))
  | _=>exact absurd (show false=true from hs) Bool.false_ne_true
 | int i =>
  obtain ⟨t,rfl⟩:=rx
  cases y with
  | non=>cases ry;exact PySem.EqNone.ne_int_none (fin_bl I q (by simp))
  | int j=>obtain ⟨t',rfl⟩:=ry;exact ne_int (fin_bl I q (congrArg not zgS))
  | str j=>obtain ⟨t',rfl⟩:=ry;exact PySem.EqMixed.ne_int_str (fin_bl I q (by simp))
  | _=>exact absurd (show false=true from hs) Bool.false_ne_true
 | str i =>
  obtain ⟨t,rfl⟩:=rx
  cases y with
  | non=>cases ry;exact PySem.EqNone.ne_str_none (fin_bl I q (by simp))
  | bl j=>cases ry;exact PySem.EqMixed.ne_str_bool (fin_bl I q (by simp))
  | int j=>obtain ⟨t',rfl⟩:=ry;exact PySem.EqMixed.ne_str_int (fin_bl I q (by simp))
  | str j=>obtain ⟨t',rfl⟩:=ry;exact ne_str (fin_bl I q (congrArg not zhk))
  | _=>exact absurd (show false=true from hs) Bool.false_ne_true
 | byt i =>
  obtain ⟨t,rfl⟩:=rx
  cases y with
  | byt j=>obtain ⟨t',rfl⟩:=ry;exact W.ne_bytes (fin_bl I q (congrArg not zhw))
  | _=>exact absurd (show false=true from hs) Bool.false_ne_true
 | _=>cases y<;>exact absurd (show false=true from hs) Bool.false_ne_true
theorem zhr:OpR X (compareOp .Lt) (rI0 λi j=>.bl (decide (i<j))):=zl1 λ_ _ _ _ _ _ _ q=>lt_int q
theorem zfx:OpR X (compareOp .Gt) (rI0 λi j=>.bl (decide (j<i))):=zl1 λ_ _ _ _ _ _ _ q=>gt_int q
theorem zkM:OpR X (compareOp .Is) (λx y H Q=>y=.non∧Q (.bl (decide (x=.non))) H):=by
 intro pins s σ H x y v u Q I rx ry h
 obtain ⟨rfl,q⟩:=h
 cases ry
 refine is_none_gen (fin_bl I q ?_)
 cases x<;>first
  | (cases rx;rfl)
  | (obtain ⟨t,rfl⟩:=rx;rfl)
theorem zf4:OpR X (compareOp .IsNot) (λx y H Q=>y=.non∧Q (.bl (!decide (x=.non))) H):=by
 intro pins s σ H x y v u Q I rx ry h
 obtain ⟨rfl,q⟩:=h
 cases ry
 refine isnot_none_gen (fin_bl I q ?_)
 cases x<;>first
  | (cases rx;rfl)
  | (obtain ⟨t,rfl⟩:=rx;rfl)
theorem nomark (b:Expr) {op:CmpOp} (h:op≠.In:=by decide) (h2:op≠.NotIn:=by decide):behindInMarks op b=false:=by
 have e1:(op == CmpOp.In)=false:=by cases op<;>first | rfl | exact absurd rfl h
 have e2:(op == CmpOp.NotIn)=false:=by cases op<;>first | rfl | exact absurd rfl h2
 cases b<;>simp [behindInMarks,e1,e2]
theorem pe_cmpR {op:CmpOp} {r:R2} (ho:OpR X (compareOp op) r) (ha:PE X a ta) (hb:PE X b tb) (hm:behindInMarks op b=false):PE X (.Compare a [op] [b] pos) (tOp r ta tb):=by
 intro pins s σ H Q I h
 exact wpAny_Compare1 (binT ha hb I h λv u s2 x y H2 I2 rx ry q=>ho pins s2 σ H2 x y v u Q I2 rx ry q) hm
def zkk (t:TE):TT:=λσ H Q=>t σ H λx H'=>∃ k,x=.bl k∧Q k H'
theorem zau {op:CmpOp} {r:R2} (ho:OpR X (compareOp op) r) (ha:PE X a ta) (hb:PE X b tb) (hm:behindInMarks op b=false):PT X (.Compare a [op] [b] pos) (zkk (tOp r ta tb)):=by
 intro pins s σ H Q I h
 refine wpAny_isTrue_Compare1 (thn (ha pins s σ H _ I h) λv s1 ⟨x,H1,I1,r1,q1⟩=>thn (hb pins s1 σ H1 _ I1 q1) λu s2 ⟨y,H2,I2,r2,q2⟩ =>
  thn (ho pins s2 σ H2 x y v u _ I2 r1 r2 q2) λc s3 ⟨z,H3,I3,r3,k,e,q3⟩=>?_) hm
 subst e
 cases r3
 exact wpAny_truthy_bool ⟨H3,I3,q3⟩
theorem zhL:(sizeLine:Nat)<2^63:=by rw [sizeLine_eq];decide
theorem zhS {x:V} {us:List Value} (r:Vals [x] us):∃ u,us=[u]∧RelV x u:=by
 cases r with
 | cons r1 r2=>cases r2;exact ⟨_,rfl,r1⟩
theorem ziA {x y:V} {us:List Value} (r:Vals [x,y] us):∃ u w',us=[u,w']∧RelV x u∧RelV y w':=by
 cases r with
 | cons r1 r2 =>
  cases r2 with
  | cons r3 r4=>cases r4;exact ⟨_,_,rfl,r1,r3⟩
theorem zfk (hc:X.calm=true):zdJ X (.builtin "max") (λxs H Q=>∃ i j,xs=[.int i,.int j]∧Q (.int (if j > i then j else i)) H):=by
 intro pins s σ H xs us Q I r h
 obtain ⟨i,j,rfl,q⟩:=h
 obtain ⟨u,w',rfl,⟨t,rfl⟩,⟨t',rfl⟩⟩:=ziA r
 refine max_two_ints (I.ok.hd hc) λh' tk k=>⟨_,H,I.kept k,?_,q⟩
 by_cases hj:j > i
 ·rw [if_pos hj,if_pos hj];exact ⟨_,rfl⟩
 ·rw [if_neg hj,if_neg hj];exact ⟨_,rfl⟩
theorem zfy:zdJ X (.type "int") (λxs H Q=>(∃ i,xs=[.int i]∧Q (.int i) H)∨∃ k,xs=[.bl k]∧Q (.int (if k then 1 else 0)) H):=by
 intro pins s σ H xs us Q I r h
 rcases h with ⟨i,rfl,q⟩ | ⟨k,rfl,q⟩
 ·obtain ⟨u,rfl,t,rfl⟩:=zhS r
  exact call_int_int ⟨.int i,H,I,⟨_,rfl⟩,q⟩
 ·obtain ⟨u,rfl,r1⟩:=zhS r
  cases r1
  exact call_int_bool ⟨.int (if k then 1 else 0),H,I.tok _,⟨_,rfl⟩,q⟩
end
end L2
namespace L2
open PySem PySem.Spec PyProof.Rows
structure ObjM (h:Heap) (x dx C:Addr) (mA:Str->Option Value):Prop where
 obj:h.get? x=some (W.instObj C dx)
 ns:h.Ns1 dx mA
 ne:dx≠x
theorem zhG {h:Heap} {dx:Addr} {mA:Str->Option Value} (n:h.Ns1 dx mA):∃ od,h.get? dx=some od∧∀ name,W.lookIn name od=some (mA name):=by
 obtain ⟨o,es,ep,ho,hd,hk,_,hm⟩:=n
 refine ⟨o,ho,λname=>?_⟩
 have e:=hm name
 unfold nsFind findBy at e
 rw [← Array.find?_toList] at e
 unfold W.lookIn
 rw [hd]
 dsimp only
 split
 ·rename_i y q
  rw [q] at e
  exact congrArg some e
 ·rename_i q
  rw [q] at e
  have a:es.toList.any (·.refKey)=false:=by
   rw [List.any_eq_false]
   intro y hy
   obtain ⟨z,t,hkey⟩:=hk y (Array.mem_toList_iff.mp hy)
   simp [DictEntry.refKey,hkey]
  have a':¬ es.toList.any (·.refKey)=true:=by rw [a];exact Bool.false_ne_true
  rw [if_neg a']
  exact congrArg some e
theorem ObjM.look {h:Heap} {x dx C:Addr} {mA:Str->Option Value} (I:ObjM h x dx C mA):∃ od,W.InstAt h x (W.instObj C dx) C (some od)∧∀ name,W.lookIn name od=some (mA name) :=
 let ⟨od,ho,hl⟩:=zhG I.ns
 ⟨od,⟨I.obj,rfl,rfl,ho⟩,hl⟩
section
variable {prog:Program} {w:World} {A:Around} {E:Value->Shared->Prop} {s:Shared} {K:W.Frag} {x dx C f:Addr} {mA:Str->Option Value} {name:Str} {v:Value}
theorem zjV {expr:Bool} {Q:Value->Shared->Prop} (X:K.In s.heap) (I:ObjM s.heap x dx C mA) (hg:W.plainGet K C name=true) (hh:W.hasDictIn K C=true)
  (ha:W.findIn K (.ref C) name=some none) (hv:mA name=some v) (hv':W.handedIn v=true) (h:Q v { s with toks:=s.toks+1 }) :
  wpAny (model prog w) A (getAttr (.ref x) name expr) Q E s:=by
 obtain ⟨od,J,hl⟩:=I.look
 exact W.get_value X J (W.plainGet_of hg).1 (W.findObj_own hh ha rfl (by rw [hl,hv])) hv' h
theorem ziI {pl:Sem Bool} {Q:Value×List Value->Shared->Prop} (X:K.In s.heap) (I:ObjM s.heap x dx C mA) (hg:W.plainGet K C name=true)
  (hf:W.findIn K (.ref C) name=some (some (.ref f))) (ht:W.isFn K (.ref f)=true) (hv:mA name=none) (h:Q (.ref f,[.ref x]) s) :
  wpAny (model prog w) A (getMethod (.ref x) name pl) Q E s:=by
 obtain ⟨od,J,hl⟩:=I.look
 exact W.method_fn X J (W.plainGet_of hg).1 (W.plainGet_of hg).2 hf (beq_iff_eq.mp ht) (by show (W.lookIn name od).map (·.isSome)=some false;rw [hl,hv];rfl) h
theorem zjC {ns:List Str} {Q:Unit->Shared->Prop} (X:K.In s.heap) (I:ObjM s.heap x dx C mA)
  (hs:W.findIn K (.ref C) "__setattr__"=some (some (.builtin "object.__setattr__"))) (hp:W.plainOver K C=true) (ht:W.takerIn K C name=some none) (hh:W.hasDictIn K C=true)
  (hw:PySem.Within mA ns) (hsz:ns.length≤sizeLine)
  (h:∀ h',ObjM h' x dx C (λy=>if y=name then some v else mA y)->Heap.SameBut dx s.heap h'->Q () { s with heap:=h',toks:=s.toks+2 }) :
  wpAny (model prog w) A (setAttr (.ref x) name v) Q E s:=by
 obtain ⟨od,J,hl⟩:=I.look
 refine W.set_plain X J hs (W.osa_open (s:={ s with toks:=s.toks+1 }) (r:=none) X J hp ht λb=>?_)
 obtain ⟨cd,hc,hd'⟩:=W.any_some hh
 have hx:s.heap.get? x=some ⟨.ref C,some dx,.plain,#[]⟩:=I.obj
 refine wpAny_bind (wpAny_pure (wpAny_bind (wpAny_bind (wpAny_loadPart hx (wpAny_bind (W.Looks.here (s:={ s with toks:=s.toks+1 }) (W.looks_clsIn X hc) ?_))))))
 rw [hd']
 refine wpAny_pure (a:=some dx) (wpAny_bind (wpAny_pure (wpAny_bind ?_)))
 refine wpAny_nsSet1 (s:={ s with toks:=s.toks+1 }) I.ns λh' hn2 hs2=>?_
 obtain ⟨oD,esD,epD,hoD,hdD,hcD⟩:=hn2.count (PySem.Within.cons name v hw)
 refine wpAny_bind (wpAny_lookBehind hoD (by rw [hdD];exact pastItsLine_dict (Nat.le_trans hcD (by rw [List.length_cons];omega))) ?_)
 exact wpAny_pure (h _ ⟨(hs2.2 _ (Ne.symm I.ne)).trans I.obj,hn2,I.ne⟩ hs2)
theorem ziG {R:Result->Shared->Prop} {vs:List Value} {kw:List (Str×Value)} (X:K.In s.heap) (hm:W.makesIn K C=true)
  (hi:W.findIn K (.ref C) "__init__"=some (some (.ref f))) (hf:W.typeIn K (.ref f)=some (.type "function"))
  (h:codeAny (model prog w) (A.under (.builtin "type.__call__" ⟨.ref C :: vs,kw⟩)) (.call (.ref f) ⟨.ref (s.heap.objs.size+1) :: vs,kw⟩) (W.InitBack (s.heap.objs.size+1) R)
   { s with heap:=(s.heap.push W.emptyDict).push (W.instObj C s.heap.objs.size) }) :
  codeAny (model prog w) A (.call (.ref C) ⟨vs,kw⟩) R s:=by
 obtain ⟨hh,g,d,t,os⟩:=s
 exact W.make_core (W.makes_of X hm) (W.looks_findIn X hi) (λself=>W.bind_fn X self hf) (.inl rfl) h
end
def putF (f:Str) (v:V):List (Str×V)->List (Str×V)
 | []=>[(f,v)]
 | (g,x) :: r=>if g=f then (g,v) :: r else (g,x) :: putF f v r
theorem zey (f g:Str) (v:V):∀ fs:List (Str×V),(putF f v fs).lookup g=if g=f then some v else fs.lookup g
 | []=>by
  show List.lookup g [(f,v)]=_
  by_cases h:g=f
  ·have hb:(g == f)=true:=beq_iff_eq.mpr h
   simp only [List.lookup,hb,if_pos h]
  ·have hb:(g == f)=false:=beq_eq_false_iff_ne.mpr h
   simp only [List.lookup,hb,if_neg h]
 | (k,x) :: r=>by
  have ih:=zey f g v r
  rw [show putF f v ((k,x) :: r)=(if k=f then (k,v) :: r else (k,x) :: putF f v r) from rfl]
  by_cases hk:k=f
  ·rw [if_pos hk]
   by_cases h:g=k
   ·have hb:(g == k)=true:=beq_iff_eq.mpr h
    simp only [List.lookup,hb,if_pos (h.trans hk)]
   ·have hb:(g == k)=false:=beq_eq_false_iff_ne.mpr h
    simp only [List.lookup,hb,if_neg (λe:g=f=>h (e.trans hk.symm))]
  ·rw [if_neg hk]
   by_cases h:g=k
   ·have hb:(g == k)=true:=beq_iff_eq.mpr h
    simp only [List.lookup,hb,if_neg (λe:g=f=>hk (h.symm.trans e))]
   ·have hb:(g == k)=false:=beq_eq_false_iff_ne.mpr h
    simp only [List.lookup,hb]
    exact ih
theorem zen (f:Str) (v:V):∀ fs:List (Str×V),f∈(putF f v fs).map (·.1)∧∀ g,g∈fs.map (·.1)->g∈(putF f v fs).map (·.1)
 | []=>⟨by simp [putF],λg h=>by simp at h⟩
 | (k,x) :: r=>by
  obtain ⟨i1,i2⟩:=zen f v r
  rw [show putF f v ((k,x) :: r)=(if k=f then (k,v) :: r else (k,x) :: putF f v r) from rfl]
  by_cases hk:k=f
  ·rw [if_pos hk]
   subst hk
   exact ⟨by simp,λg h=>by simpa using h⟩
  ·rw [if_neg hk]
   refine ⟨?_,λg h=>?_⟩
   ·rw [List.map_cons]
    exact List.mem_cons_of_mem _ i1
   ·rw [List.map_cons] at h ⊢
    rcases List.mem_cons.mp h with e | e
    ·exact List.mem_cons.mpr (.inl e)
    ·exact List.mem_cons_of_mem _ (i2 g e)
theorem zew (f:Str) (v:V):∀ fs:List (Str×V),(putF f v fs).length≤fs.length+1
 | []=>by simp [putF]
 | (k,x) :: r=>by
  have ih:=zew f v r
  rw [show putF f v ((k,x) :: r)=(if k=f then (k,v) :: r else (k,x) :: putF f v r) from rfl]
  by_cases hk:k=f
  ·rw [if_pos hk,List.length_cons,List.length_cons];omega
  ·rw [if_neg hk,List.length_cons,List.length_cons];omega
theorem zh9.some_of {v:V} {o:Option Value} (r:zh9 (some v) o):∃ u,o=some u∧RelV v u:=by
 cases o with
 | none=>exact (show False from r).elim
 | some u=>exact ⟨u,rfl,r⟩
theorem zh9.none_of {o:Option Value} (r:zh9 none o):o=none:=by
 cases o with
 | none=>rfl
 | some u=>exact (show False from r).elim
theorem zgV {v:V} {u:Value} (r:RelV v u):W.handedIn u=true:=by
 cases v with
 | non=>cases (show u=Value.none from r);rfl
 | bl b=>cases (show u=Value.bool b from r);rfl
 | int i=>obtain ⟨t,e⟩:=(show ∃ t,u=Value.int i t from r);cases e;rfl
 | str x=>obtain ⟨t,e⟩:=(show ∃ t,u=Value.str x t from r);cases e;rfl
 | byt b=>obtain ⟨t,e⟩:=(show ∃ t,u=Value.bytes b t from r);cases e;rfl
 | flt b=>obtain ⟨t,e⟩:=(show ∃ t,u=Value.float b t from r);cases e;rfl
 | ref a=>cases (show u=Value.ref a from r);rfl
 | ty n=>cases (show u=Value.type n from r);rfl
section
variable {P:Program} {w:World} {H H':Hp} {h h':Heap} {a C dx:Addr} {fs fs':List (Str×V)}
theorem zeX (hok:HOk P w H h) (e:H a=some (.ins C dx fs)):∃ mA,ObjM h a dx C mA∧(∀ f,zh9 (fs.lookup f) (mA f))∧PySem.Within mA (fs.map (·.1))∧fs.length≤1000∧H dx=some (.own a):=by
 obtain ⟨d,z,ne,ob,mA,n,r,q⟩:=(show zcf P w H h a (.ins C dx fs) from hok a _ e)
 exact ⟨mA,⟨ob,n,ne⟩,r,q,z,d⟩
end
structure Cls (K:W.Frag) (C:Addr):Prop where
 pg:W.plainGet K C Str.empty=true
 hd:W.hasDictIn K C=true
 po:W.plainOver K C=true
 sa:W.findIn K (.ref C) "__setattr__"=some (some (.builtin "object.__setattr__"))
theorem Cls.get {K:W.Frag} {C:Addr} (c:Cls K C) (f:Str):W.plainGet K C f=true:=c.pg
def NoAttr (K:W.Frag) (C:Addr) (f:Str):Prop:=W.findIn K (.ref C) f=some none
theorem NoAttr.taker {K:W.Frag} {C:Addr} {f:Str} (n:NoAttr K C f):W.takerIn K C f=some none:=by
 unfold W.takerIn
 rw [show W.findIn K (.ref C) f=some none from n]
 rfl
structure Con (K:W.Frag) (C:Addr) (f:Str) (v:V) (u:Value):Prop where
 at_:W.findIn K (.ref C) f=some (some u)
 rel:RelV v u
 get:W.specialIn K u "__get__"=some none
 cp:W.copiedNames.contains f=false
structure Meth (K:W.Frag) (C:Addr) (m:Str) (f:Addr):Prop where
 at_:W.findIn K (.ref C) m=some (some (.ref f))
 fn:W.isFn K (.ref f)=true
 kp:W.keepIn K (.ref f)=true
section
variable {X:Cx} {pins:List (Addr×Obj)} {σ:St} {H:Hp} {s:Shared} {a C dx:Addr} {fs:List (Str×V)} {f:Str} {v:V} {A:Around} {E:Value->Shared->Prop}
theorem zgB {b:Bool} {Q:Value->Shared->Prop} (I:Inv X pins σ H s) (e:H a=some (.ins C dx fs)) (c:Cls X.K C) (n:NoAttr X.K C f) (l:fs.lookup f=some v)
  (h:∀ u s',Inv X pins σ H s'->RelV v u->Q u s'):wpAny (model X.prog X.w) A (getAttr (.ref a) f b) Q E s:=by
 obtain ⟨mA,O,r,_,_,_⟩:=zeX I.hok e
 obtain ⟨u,hu,ru⟩:=zh9.some_of (v:=v) (o:=mA f) (by rw [← l];exact r f)
 exact zjV I.kIn O (c.get f) c.hd n hu (zgV ru) (h u _ (I.tok _) ru)
theorem zeN {m:Str} {g:Addr} {pl:Sem Bool} {Q:Value×List Value->Shared->Prop} (I:Inv X pins σ H s) (e:H a=some (.ins C dx fs)) (c:Cls X.K C) (k:Meth X.K C m g) (l:fs.lookup m=none)
  (h:Q (.ref g,[.ref a]) s):wpAny (model X.prog X.w) A (getMethod (.ref a) m pl) Q E s:=by
 obtain ⟨mA,O,r,_,_,_⟩:=zeX I.hok e
 have hn:mA m=none:=zh9.none_of (by rw [← l];exact r m)
 exact ziI I.kIn O (c.get m) k.at_ k.fn hn h
theorem zgD {y:V} {u:Value} {Q:Unit->Shared->Prop} (I:Inv X pins σ H s) (e:H a=some (.ins C dx fs)) (c:Cls X.K C) (n:NoAttr X.K C f) (hl:fs.length<1000) (ry:RelV y u)
  (h:∀ s',Inv X pins σ (upd H a (.ins C dx (putF f y fs))) s'->Q () s'):wpAny (model X.prog X.w) A (setAttr (.ref a) f u) Q E s:=by
 obtain ⟨mA,O,r,wi,_,ho⟩:=zeX I.hok e
 have hz:(fs.map (·.1)).length≤sizeLine:=by rw [List.length_map,sizeLine_eq];omega
 refine zjC I.kIn O c.sa c.po n.taker c.hd wi hz λh' O' sb=>h _ ?_
 have hd:∃ o,h'.get? dx=some o:=let ⟨o,_,_,e',_⟩:=O'.ns;⟨o,e'⟩
 refine I.write (x:=a) (e:=dx) (by rw [e];exact True.intro) (.inr ho) (λb q hb z=>(sb.2 b hb).trans z) hd ?_
 refine ⟨by rw [upd_ne O.ne];exact ho,?_,O.ne,O'.obj,_,O'.ns,λg=>?_,λg hg=>?_⟩
 ·have:=zew f y fs;omega
 ·show zh9 ((putF f y fs).lookup g) (if g=f then some u else mA g)
  rw [zey]
  by_cases q:g=f
  ·rw [if_pos q,if_pos q];exact ry
  ·rw [if_neg q,if_neg q];exact r g
 ·by_cases q:g=f
  ·rw [q];exact (zen f y fs).1
  ·refine (zen f y fs).2 g (wi g λz=>hg ?_)
   show (if g=f then some u else mA g)=none
   rw [if_neg q];exact z
theorem Inv.made (I:Inv X pins σ H s):Inv X pins σ (upd (upd H s.heap.objs.size (.own (s.heap.objs.size+1))) (s.heap.objs.size+1) (.ins C s.heap.objs.size []))
  { s with heap:=(s.heap.push W.emptyDict).push (W.instObj C s.heap.objs.size) }:=by
 have e1:(s.heap.push W.emptyDict).get? s.heap.objs.size=some W.emptyDict:=Heap.get?_push_size s.heap rfl
 have e2:((s.heap.push W.emptyDict).push (W.instObj C s.heap.objs.size)).get? (s.heap.objs.size+1)=some (W.instObj C s.heap.objs.size):=by
  have:=Heap.get?_push_size (s.heap.push W.emptyDict) (o:=W.instObj C s.heap.objs.size) rfl
  rwa [Heap.size_push] at this
 have e3:(s.heap.push W.emptyDict).Ns s.heap.objs.size (λ_=>none):=⟨W.emptyDict,#[],_,e1,rfl,(λe he=>absurd he (by simp)),λ_=>rfl⟩
 have I1:=I.laid (a:=s.heap.objs.size) (o:=.own (s.heap.objs.size+1)) (h':=s.heap.push W.emptyDict) (t':=s.toks) (λb u q=>Heap.get?_push_of_some _ q) (Nat.le_refl _) ⟨_,e1⟩
 refine I1.laid (a:=s.heap.objs.size+1) (o:=.ins C s.heap.objs.size []) (t':=s.toks) (λb u q=>Heap.get?_push_of_some _ q) (Nat.le_of_eq (Heap.size_push _ _)) ?_
 have ne:s.heap.objs.size≠s.heap.objs.size+1:=Nat.ne_of_lt (Nat.lt_succ_self _)
 refine ⟨by rw [upd_ne ne,upd_same],Nat.zero_le _,ne,e2,λ_=>none,(Heap.Ns1.of_empty e3).at λo q=>Heap.get?_push_of_some _ q,λ_=>True.intro,λy hy=>absurd rfl hy⟩
theorem attr_of {prog:Program} {w:World} {env:Env} {e:Expr} {f:Str} {pos:Pos} {s:Shared} {Q:Value->Shared->Prop} (hb:attributeBase e f env (eval e env)=eval e env)
  (h:wpAny (model prog w) A (eval e env) (λo s₁=>wpAny (model prog w) A (getAttr o f true) Q E s₁) E s):wpAny (model prog w) A (eval (.Attribute e f pos) env) Q E s :=
 Attribute_any_ h (by rw [arm_eval_Attribute,hb])
end
def tFld (K:W.Frag) (ta:TE) (f:Str):TE:=λσ H Q=>ta σ H λx H1=>∃ a C dx fs v,x=.ref a∧H1 a=some (.ins C dx fs)∧Cls K C∧NoAttr K C f∧fs.lookup f=some v∧Q v H1
def zlz (K:W.Frag) (ta tv:TE) (f:Str):TS:=λD σ H=>tv σ H λy H1=>ta σ H1 λx H2=>∃ a C dx fs,x=.ref a∧H2 a=some (.ins C dx fs)∧Cls K C∧NoAttr K C f∧fs.length<1000 ∧
 D.nx σ (upd H2 a (.ins C dx (putF f y fs)))
section
variable {X:Cx} {o e value:Expr} {f:Str} {pos pos' tpos:Pos} {ta tv:TE}
theorem zkQ (he:PE X e ta) (hb:attributeBase e f X.env (eval e X.env)=eval e X.env):PE X (.Attribute e f pos) (tFld X.K ta f):=by
 intro pins s σ H Q I h
 refine attr_of hb (thn (he pins s σ H _ I h) λu s1 ⟨x,H1,I1,rx,a,C,dx,fs,v,ex,ea,c,n,l,q⟩=>?_)
 subst ex
 obtain rfl:u=Value.ref a:=rx
 exact zgB I1 ea c n l λu' s2 I2 ru=>⟨v,H1,I2,ru,q⟩
theorem zfM (ha:PE X o ta) (hv:PE X value tv) (hs:swapsWith value (some (.Attribute o f pos')) pos.line X.env=pure false):PS X (.Assign [.Attribute o f pos'] value pos) (zlz X.K ta tv f):=by
 intro pins s σ H D I h
 refine plainObj_wpAny_Assign_Attribute (thn (hv pins s σ H _ I h) λu s1 ⟨y,H1,I1,ry,q⟩=>thn (ha pins s1 σ H1 _ I1 q) λov s2 ⟨x,H2,I2,rx,a,C,dx,fs,ex,ea,c,n,l,q2⟩=>?_) hs
 subst ex
 obtain rfl:ov=Value.ref a:=rx
 exact zgD I2 ea c n l ry λs3 I3=>⟨σ,_,I3,q2⟩
theorem zjR {pl:Sem Bool} {m:Str} {apos:Pos} {args:List Expr} {pins:List (Addr×Obj)} {s:Shared} {σ:St} {H:Hp} {Q:Value->Shared->Prop} {te:TE} (he:PE X e te) (I:Inv X pins σ H s)
  (h:te σ H λx H1=>∃ a C dx fs g,x=.ref a∧H1 a=some (.ins C dx fs)∧Cls X.K C∧Meth X.K C m g∧fs.lookup m=none ∧
   ∀ s1,Inv X pins σ H1 s1->wpAny (model X.prog X.w) X.A (callWith pos (.ref g) [.ref a] (backTo pos (starEach args X.env)) (backToKw pos (keywordEach [] X.env))) Q X.xe s1)
  (ht:eval (.Call (.Attribute e m apos) args [] pos) X.env=(do
   let ov ← eval e X.env
   standAt apos.atName
   let (f,first) ← holding [ov] (getMethod ov m pl)
   callWith pos f first (backTo pos (starEach args X.env)) (backToKw pos (keywordEach [] X.env)))) :
  wpAny (model X.prog X.w) X.A (eval (.Call (.Attribute e m apos) args [] pos) X.env) Q X.xe s:=by
 refine W.methodCall_KW (pl:=pl) (thn (he pins s σ H _ I h) λu s1 ⟨x,H1,I1,rx,a,C,dx,fs,g,ex,ea,c,k,l,q⟩=>?_) ht
 subst ex
 obtain rfl:u=Value.ref a:=rx
 exact zeN I1 ea c k l (q s1 I1)
end
section
variable {X:Cx} {pins:List (Addr×Obj)} {σ:St} {H:Hp} {s:Shared} {A:Around} {E:Value->Shared->Prop} {Q:Value->Shared->Prop} {c:Value} {b:Bool}
inductive TyOf (K:W.Frag) (H:Hp):V->Value->Prop where
 | non:TyOf K H .non (.type "NoneType")
 | bl (x:Bool):TyOf K H (.bl x) (.type "bool")
 | int (i:Int):TyOf K H (.int i) (.type "int")
 | str (x:Str):TyOf K H (.str x) (.type "str")
 | flt (x:UInt64):TyOf K H (.flt x) (.type "float")
 | lst {a:Addr} {xs:List V} (e:H a=some (.lst xs)):TyOf K H (.ref a) (.type "list")
 | frz {a:Addr} {o:Obj} {xs:List V} (e:H a=some (.frz o (.lst xs))):TyOf K H (.ref a) (.type "list")
 | tup {a:Addr} {xs:List V} (e:H a=some (.tup xs)):TyOf K H (.ref a) (.type "tuple")
 | dK {a:Addr} {kvs:List (Key×V)} (e:H a=some (.dK kvs)):TyOf K H (.ref a) (.type "dict")
 | dT {a:Addr} {kvs:List (List Key×V)} (e:H a=some (.dT kvs)):TyOf K H (.ref a) (.type "dict")
 | ins {a C dx:Addr} {fs:List (Str×V)} (e:H a=some (.ins C dx fs)) (cl:Cls K C) (ha:W.findIn K (.ref C) "__class__"=some (some (.builtin "object.__class__")))
   (hn:W.specialIn K (.builtin "object.__class__") "__get__"=some (some (.builtin "getset_descriptor.__get__"))) (htk:W.takesIn K (.builtin "object.__class__")=some true)
   (hm:W.mroIn K C (.type "object")=some true):TyOf K H (.ref a) (.ref C)
theorem isinst_ok {x:V} {u t:Value} (I:Inv X pins σ H s) (rx:RelV x u) (ty:TyOf X.K H x t) (e:W.kitOne X.K t c=some b) (h:∀ tk,Q (.bool b) { s with toks:=tk }) :
  wpAny (model X.prog X.w) A (call (.builtin "isinstance") [u,c]) Q E s:=by
 cases ty with
 | non=>cases (show u=Value.none from rx);exact W.kia_one W.kitx_none I.kIn True.intro e (λz=>nomatch z) h
 | bl y=>cases (show u=Value.bool y from rx);exact W.kia_one W.kitx_bool I.kIn True.intro e (λz=>nomatch z) h
 | int i=>obtain ⟨t,q⟩:=(show ∃ t,u=Value.int i t from rx);cases q;exact W.kia_one W.kitx_int I.kIn True.intro e (λz=>nomatch z) h
 | str y=>obtain ⟨t,q⟩:=(show ∃ t,u=Value.str y t from rx);cases q;exact W.kia_one W.kitx_str I.kIn True.intro e (λz=>nomatch z) h
 | flt y=>obtain ⟨t,q⟩:=(show ∃ t,u=Value.float y t from rx);cases q;exact W.kia_one W.kitx_float I.kIn True.intro e (λz=>nomatch z) h
 | @lst a xs ea =>
  cases (show u=Value.ref a from rx)
  obtain ⟨_,_,n,_,h1⟩:=(show zcf X.prog X.w H s.heap a (.lst xs) from I.hok a _ ea)
  exact W.kia_one W.kitx_list I.kIn ⟨_,h1,rfl⟩ e (λz=>nomatch z) h
 | @frz a ob xs ea =>
  cases (show u=Value.ref a from rx)
  obtain ⟨_,_,_,n,_,h1⟩:=(show zcf X.prog X.w H s.heap a (.frz ob (.lst xs)) from I.hok a _ ea)
  exact W.kia_one W.kitx_list I.kIn ⟨_,h1,rfl⟩ e (λz=>nomatch z) h
 | @tup a xs ea =>
  cases (show u=Value.ref a from rx)
  obtain ⟨_,_,_,p⟩:=(show zcf X.prog X.w H s.heap a (.tup xs) from I.hok a _ ea)
  obtain ⟨o,h1,h2,_⟩:=p
  exact W.kia_one W.kitx_tuple I.kIn ⟨o,h1,h2⟩ e (λz=>nomatch z) h
 | @dK a kvs ea =>
  cases (show u=Value.ref a from rx)
  obtain ⟨_,_,vs,_,p⟩:=(show zcf X.prog X.w H s.heap a (.dK kvs) from I.hok a _ ea)
  obtain ⟨o,es,ep,h1,h2,_⟩:=p
  exact W.kia_one W.kitx_dict I.kIn ⟨o,h1,h2.1⟩ e (λz=>nomatch z) h
 | @dT a kvs ea =>
  cases (show u=Value.ref a from rx)
  obtain ⟨_,_,xs,_,o,es,ep,h1,h2,_⟩:=(show zcf X.prog X.w H s.heap a (.dT kvs) from I.hok a _ ea)
  exact W.kia_one W.kitx_dict I.kIn ⟨o,h1,h2.1⟩ e (λz=>nomatch z) h
 | @ins a C dx fs ea cl ha hn htk hm =>
  cases (show u=Value.ref a from rx)
  obtain ⟨mA,O,_⟩:=zeX I.hok ea
  obtain ⟨od,J,_⟩:=O.look
  exact W.kia_one (W.kitx_own (cl.get _) cl.hd ha hn htk hm) I.kIn J e (λz=>nomatch z) h
end
end L2
namespace L2
open PySem PySem.Spec PyProof.Rows
structure Room (k:Nat) (A:Around):Prop where
 hd:A.handled=none
 dp:A.depth+3*k+5<recursionLimit
 un:A.units+16*k+200<cLine
theorem Room.mono {j k:Nat} {A:Around} (r:Room k A) (h:j≤k):Room j A:=⟨r.hd,by have:=r.dp;omega,by have:=r.un;omega⟩
theorem Room.deeper {k:Nat} {A:Around} (r:Room (k+1) A) (env:Env):Room k (A.deeper env) :=
 ⟨r.hd,by have:=r.dp;show A.depth+1+3*k+5<_;omega,by have:=r.un;show A.units+3+16*k+200<_;omega⟩
theorem Room.in1 {k:Nat} {A:Around} (r:Room (k+1) A):Room k A.in1 :=
 ⟨r.hd,by have:=r.dp;show A.depth+3*k+5<_;omega,by have:=r.un;show A.units+1+16*k+200<_;omega⟩
theorem zgN {A:Around} {C:Addr} {us:List Value} {kw:List (Str×Value)}:(A.under (.builtin "type.__call__" ⟨.ref C :: us,kw⟩)).depth=A.depth+1:=by
 first | rfl | simp [Around.under,Code.weight,Code.isCreation,Code.isGuard,Code.isCaller,Code.frames,Code.isFrame,guardIds]
theorem zgz {A:Around} {C:Addr} {us:List Value} {kw:List (Str×Value)}:(A.under (.builtin "type.__call__" ⟨.ref C :: us,kw⟩)).units=A.units+1:=by
 first | rfl | simp [Around.under,Code.cUnits,Code.frames,Code.isFrame]
theorem Room.make {k:Nat} {A:Around} (r:Room (k+1) A) (C:Addr) (us:List Value) (kw:List (Str×Value)):Room k (A.under (.builtin "type.__call__" ⟨.ref C :: us,kw⟩)) :=
 ⟨r.hd,by have:=r.dp;rw [zgN];omega,by have:=r.un;rw [zgz];omega⟩
theorem Room.depth {k:Nat} {A:Around} (r:Room k A):A.depth<recursionLimit:=by have:=r.dp;omega
theorem Room.units {k:Nat} {A:Around} (r:Room k A):A.units+64<cLine:=by have:=r.un;omega
def tNil:TA:=λ_ H Q=>Q [] H
def tCons (ta:TE) (tr:TA):TA:=λσ H Q=>ta σ H λx H1=>tr σ H1 λxs H2=>Q (x :: xs) H2
section
variable {X:Cx} {e:Expr} {es:List Expr} {te:TE} {t:TA} {pos:Pos}
theorem pa_nil:PA X [] tNil:=λ_ _ _ _ H Q I h=>Calls.spliced_nil ⟨[],H,I,.nil,h⟩
theorem pa_cons (ha:PE X e te) (hr:PA X es t) (hs:starEach (e :: es) X.env=(false,eval e X.env) :: starEach es X.env:=by rfl):PA X (e :: es) (tCons te t):=by
 intro pos pins s σ H Q I h
 rw [hs]
 show wpAny _ _ (spliced ((false,eval e X.env) :: backTo pos (starEach es X.env))) _ _ s
 refine Calls.spliced_cons (thn (ha pins s σ H _ I h) λu s1 ⟨x,H1,I1,r1,q1⟩=>?_)
 exact thn (hr pos pins s1 σ H1 _ I1 q1) λus s2 ⟨xs,H2,I2,r2,q2⟩=>⟨x :: xs,H2,I2,.cons r1 r2,q2⟩
def zl5 (t:TA):TE:=λσ H Q=>t σ H λxs H1=>xs.length≤sizeLine∧∀ p,H1 p=none->Q (.ref p) (upd H1 p (.tup xs))
def zlJ (t:TA):TE:=λσ H Q=>t σ H λxs H1=>xs.length≤sizeLine∧∀ p,H1 p=none->Q (.ref p) (upd H1 p (.lst xs))
theorem zeL {x1} (h:PA X es t):PE X (.Tuple es x1 pos) (zl5 t):=by
 intro pins s σ H Q I hq
 refine wpAny_Tuple_spliced (thn (h pos pins s σ H _ I hq) λus s1 ⟨xs,H1,I1,r,z,q⟩=>⟨by rw [← r.length];exact z,?_⟩)
 have hf:H1 s1.heap.objs.size=none:=I1.hok.fresh (Nat.le_refl _)
 refine ⟨.ref s1.heap.objs.size,upd H1 s1.heap.objs.size (.tup xs),I1.laid (t':=s1.toks) (λb u e=>Heap.get?_push_of_some _ e) (Nat.le_refl _) ?_,rfl,q _ hf⟩
 exact ⟨z,us,r,⟨_,Heap.get?_push_size _ rfl,rfl,_,rfl⟩⟩
theorem zbH (h:PA X es t):PE X (.List es pos) (zlJ t):=by
 intro pins s σ H Q I hq
 refine wpAny_List_spliced (thn (h pos pins s σ H _ I hq) λus s1 ⟨xs,H1,I1,r,z,q⟩=>⟨by rw [← r.length];exact z,?_⟩)
 have hf:H1 s1.heap.objs.size=none:=I1.hok.fresh (Nat.le_refl _)
 refine ⟨.ref s1.heap.objs.size,upd H1 s1.heap.objs.size (.lst xs),I1.laid (t':=s1.toks) (λb u e=>Heap.get?_push_of_some _ e) (Nat.le_refl _) ?_,rfl,q _ hf⟩
 exact ⟨z,us,0,r,Heap.get?_push_size _ rfl⟩
end
abbrev Sp:=List V->Hp->VK->XK->Prop
abbrev CXT:=List Env->Hp->Shared->XK->Value->Shared->Prop
structure Env0 (P:Program) (w:World) (K:W.Frag) (mg:Str->Option Value) (base:Heap) (A:Around) (outer:List Env) (s:Shared) (H:Hp):Prop where
 frames:A.frames=some outer
 mod:Mod K mg base
 bs:∀ b o,base.get? b=some o->s.heap.get? b=some o∧H b=none
 bsz:base.objs.size≤s.heap.objs.size
 funs:s.heap.FunFrames base outer
 frf:∀ b∈frs outer,H b=none
 hok:HOk P w H s.heap
 bare:AllBare s.gens
def CE (outer:List Env) (P:Program) (w:World) (H:Hp) (s:Shared) (Q:VK) (u:Value) (s':Shared):Prop :=
 ∃ v H',s'.os=s.os∧AllBare s'.gens∧Un (frs outer) [] H H' s.heap s'.heap∧HOk P w H' s'.heap∧RelV v u∧Q v H'
def CR (CX:CXT) (outer:List Env) (P:Program) (w:World) (H:Hp) (s:Shared) (Q:VK) (E:XK) (r:Result) (s':Shared):Prop :=
 match r with
 | .ok (.ret u)=>CE outer P w H s Q u s'
 | .ok _=>False
 | .error e=>CX outer H s E e s'
structure FnOk (P:Program) (w:World) (K:W.Frag) (mg:Str->Option Value) (base:Heap) (CX:CXT) (k:Nat) (f:Addr) (fd:FuncData) (ps:List Str) (sp:Sp):Prop where
 len:∀ vs H Q E,sp vs H Q E->vs.length=ps.length
 run:∀ (A:Around) (outer:List Env) (s:Shared) (H:Hp) (args:Args) (us:List Value) (vs:List V) (Q:VK) (E:XK),Room k A->Env0 P w K mg base A outer s H->BindsTo s fd args (ps.zip us)->Vals vs us->sp vs H Q E →
  codeAny (model P w) A (.call (.ref f) args) (CR CX outer P w H s Q E) s
theorem FnOk.imp {P:Program} {w:World} {K:W.Frag} {mg:Str->Option Value} {base:Heap} {CX:CXT} {k:Nat} {f:Addr} {fd:FuncData} {ps:List Str} {sp sp':Sp} (F:FnOk P w K mg base CX k f fd ps sp)
  (h:∀ vs H Q E,sp' vs H Q E->sp vs H Q E):FnOk P w K mg base CX k f fd ps sp' :=
 ⟨λvs H Q E q=>F.len vs H Q E (h _ _ _ _ q),λA outer s H args us vs Q E hr he hb hv hs=>F.run A outer s H args us vs Q E hr he hb hv (h _ _ _ _ hs)⟩
theorem Env0.make {P:Program} {w:World} {K:W.Frag} {mg:Str->Option Value} {base:Heap} {A:Around} {outer:List Env} {s:Shared} {H:Hp} (e:Env0 P w K mg base A outer s H) (C:Addr) (us:List Value) (kw:List (Str×Value)) :
  Env0 P w K mg base (A.under (.builtin "type.__call__" ⟨.ref C :: us,kw⟩)) outer s H:=⟨by first | exact e.frames | (simpa [Around.under,Code.envs,Code.isFrame,pushEnvs] using e.frames),e.mod,e.bs,e.bsz,e.funs,e.frf,e.hok,e.bare⟩
theorem Env0.in1 {P:Program} {w:World} {K:W.Frag} {mg:Str->Option Value} {base:Heap} {A:Around} {outer:List Env} {s:Shared} {H:Hp} (e:Env0 P w K mg base A outer s H) :
  Env0 P w K mg base A.in1 outer s H:=⟨e.frames,e.mod,e.bs,e.bsz,e.funs,e.frf,e.hok,e.bare⟩
section
variable {X:Cx} {pins:List (Addr×Obj)} {σ:St} {H:Hp} {s s':Shared}
theorem Inv.env0 (I:Inv X pins σ H s):Env0 X.prog X.w X.K X.mg X.base X.A X.stack s H :=
 ⟨I.ok.frames,I.ok.mod,I.bs,Nat.le_trans I.ok.bsz I.sz,I.stack,I.stkFree,I.hok,I.bare⟩
theorem Inv.after {Q:VK} {u:Value} (I:Inv X pins σ H s) (h:CE X.stack X.prog X.w H s Q u s'):EP X pins σ Q u s':=by
 obtain ⟨v,H',os,bare,un,hok,r,q⟩:=h
 obtain ⟨hh,g,d,t,os'⟩:=s'
 obtain rfl:os'=s.os:=os
 exact ⟨v,H',I.call (h':=hh) (g':=g) (d':=d) (t':=t) (ch:=[]) un hok bare (λb z=>absurd z (by simp)),r,q⟩
end
def tCall (sp:Sp) (dvs:List V) (E:XK) (t:TA):TE:=λσ H Q=>t σ H λvs H1=>sp (vs++dvs) H1 Q E
def zhc (C:Addr) (m:Str) (sp:Sp) (dvs:List V) (E:XK) (ta:TE) (t:TA):TE:=λσ H Q=>ta σ H λx H1=>∃ a dx fs,x=.ref a∧H1 a=some (.ins C dx fs)∧fs.lookup m=none ∧
 t σ H1 λvs H2=>sp (x :: (vs++dvs)) H2 Q E
def zku (C:Addr) (sp:Sp) (dvs:List V) (E:XK) (t:TA):TE:=λσ H Q=>t σ H λvs H1=>∀ x dx,H1 x=none->H1 dx=none->dx≠x →
 sp (.ref x :: (vs++dvs)) (upd (upd H1 dx (.own x)) x (.ins C dx [])) (λv H2=>v=.non∧Q (.ref x) H2) E
def zdB (K:W.Frag) (fd:FuncData) (ps:List Str) (ds:List Value):Prop :=
 ∀ (s:Shared) (us:List Value),K.In s.heap->(us++ds).length=ps.length->BindsTo s fd ⟨us,[]⟩ (ps.zip (us++ds))
theorem zdB.all {K:W.Frag} {fd:FuncData} {ps:List Str} (h:∀ us:List Value,us.length=ps.length->bindArgs fd ⟨us,[]⟩=pure (ps.zip us)):zdB K fd ps []:=λs us _ hl=>by
 rw [List.append_nil] at hl ⊢
 exact .of_eq (h us hl)
def zdG (CX:CXT) (X:Cx) (E:XK):Prop:=∀ (pins:List (Addr×Obj)) (σ:St) (H:Hp) (s:Shared) (e:Value) (s':Shared),Inv X pins σ H s->CX X.stack H s E e s'->X.xe e s'
section
variable {X:Cx} {CX:CXT} {k:Nat} {f C:Addr} {fd:FuncData} {ps:List Str} {sp:Sp} {dvs:List V} {ds:List Value} {E:XK} {x m:Str} {p pos apos:Pos} {e o:Expr} {es:List Expr} {ta:TE} {t:TA}
theorem zhC {pins:List (Addr×Obj)} {σ:St} {H:Hp} {s:Shared} {Q:VK} {us:List Value} {vs:List V} (F:FnOk X.prog X.w X.K X.mg X.base CX k f fd ps sp) (hr:Room k X.A) (hb:zdB X.K fd ps ds) (hd:Vals dvs ds) (hx:zdG CX X E)
  (I:Inv X pins σ H s) (r:Vals vs us) (h:sp (vs++dvs) H Q E):wpAny (model X.prog X.w) X.A (call (.ref f) us) (EP X pins σ Q) X.xe s:=by
 have r2:Vals (vs++dvs) (us++ds):=r.append hd
 have hl:(us++ds).length=ps.length:=by rw [← r2.length];exact F.len _ _ _ _ h
 refine wpAny_call (codeAny_mono (F.run X.A X.stack s H ⟨us,[]⟩ (us++ds) (vs++dvs) Q E hr I.env0 (hb s us I.kIn hl) r2 h) λr s' hq=>?_)
 cases r with
 | error e=>exact hx pins σ H s e s' I hq
 | ok fl =>
  cases fl with
  | ret u=>exact I.after hq
  | next=>exact False.elim hq
  | brk=>exact False.elim hq
  | cont=>exact False.elim hq
theorem zjA (F:FnOk X.prog X.w X.K X.mg X.base CX k f fd ps sp) (hr:Room k X.A) (hg:Gl X x) (hm:X.mg x=some (.ref f)) (hk:W.keepIn X.K (.ref f)=true) (hb:zdB X.K fd ps ds) (hd:Vals dvs ds) (hx:zdG CX X E)
  (ha:PA X (e :: es) t) (hdb:(x == ("__debug__":Str))=false:=by decide) (he:starEach (e :: es) X.env=(false,eval e X.env) :: starEach es X.env:=by rfl) (hpl:(backTo pos (starEach es X.env)).any (·.1)=false:=by rfl) :
  PE X (.Call (.Name x p) (e :: es) [] pos) (tCall sp dvs E t):=by
 intro pins s σ H Q I h
 refine wpAny_Call_Name_kw (ld_glob I hg hm ?_ hdb)
 refine W.callWith_K (h₀:=X.base) I.ok.mod.kin hk (thn (ha pos pins s σ H _ I h) λus s1 ⟨vs,H1,I1,r,q⟩=>⟨I1.kIn,?_⟩) he hpl
 exact zhC F hr hb hd hx I1 r q
theorem zjg {pl:Sem Bool} (he:PE X o ta) (c:Cls X.K C) (hm:Meth X.K C m f) (F:FnOk X.prog X.w X.K X.mg X.base CX k f fd ps sp) (hr:Room k X.A) (hb:zdB X.K fd ps ds) (hd:Vals dvs ds) (hx:zdG CX X E) (ha:PA X (e :: es) t)
  (hst:starEach (e :: es) X.env=(false,eval e X.env) :: starEach es X.env:=by rfl) (hpl:(backTo pos (starEach es X.env)).any (·.1)=false:=by rfl)
  (ht:eval (.Call (.Attribute o m apos) (e :: es) [] pos) X.env=(do
   let ov ← eval o X.env
   standAt apos.atName
   let (f,first) ← holding [ov] (getMethod ov m pl)
   callWith pos f first (backTo pos (starEach (e :: es) X.env)) (backToKw pos (keywordEach [] X.env))):=by rfl) :
  PE X (.Call (.Attribute o m apos) (e :: es) [] pos) (zhc C m sp dvs E ta t):=by
 intro pins s σ H Q I h
 refine W.methodCall_KW (pl:=pl) (thn (he pins s σ H _ I h) λu s1 ⟨x,H1,I1,rx,a,dx,fs,ex,ea,l,q⟩=>?_) ht
 subst ex
 obtain rfl:u=Value.ref a:=rx
 refine zeN I1 ea c hm l ?_
 refine W.callWith_K (first:=[.ref a]) (h₀:=X.base) I.ok.mod.kin hm.kp (thn (ha pos pins s1 σ H1 _ I1 q) λus s2 ⟨vs,H2,I2,r,q2⟩=>⟨I2.kIn,?_⟩) hst hpl
 exact zhC (us:=.ref a :: us) (vs:=.ref a :: vs) F hr hb hd hx I2 (.cons rfl r) q2
structure Mk (K:W.Frag) (C f:Addr):Prop where
 makes:W.makesIn K C=true
 init:W.findIn K (.ref C) "__init__"=some (some (.ref f))
 fn:W.isFn K (.ref f)=true
 kp:W.keepIn K (.ref C)=true
theorem zih {pins:List (Addr×Obj)} {σ:St} {H:Hp} {s:Shared} {Q:VK} {us:List Value} {vs:List V} (M:Mk X.K C f) (F:FnOk X.prog X.w X.K X.mg X.base CX k f fd ps sp) (hr:Room (k+1) X.A) (hb:zdB X.K fd ps ds) (hd:Vals dvs ds)
  (hx:zdG CX X E) (I:Inv X pins σ H s) (r:Vals vs us)
  (h:∀ x dx,H x=none->H dx=none->dx≠x->sp (.ref x :: (vs++dvs)) (upd (upd H dx (.own x)) x (.ins C dx [])) (λv H2=>v=.non∧Q (.ref x) H2) E) :
  wpAny (model X.prog X.w) X.A (call (.ref C) us) (EP X pins σ Q) X.xe s:=by
 have hq:=h (s.heap.objs.size+1) s.heap.objs.size (I.hok.fresh (Nat.le_succ _)) (I.hok.fresh (Nat.le_refl _)) (Nat.ne_of_lt (Nat.lt_succ_self _))
 have I2:=Inv.made (C:=C) I
 have r2:Vals (V.ref (s.heap.objs.size+1) :: (vs++dvs)) (Value.ref (s.heap.objs.size+1) :: (us++ds)):=.cons rfl (r.append hd)
 have hl:(Value.ref (s.heap.objs.size+1) :: us++ds).length=ps.length:=by
  have e:=r2.length
  rw [F.len _ _ _ _ hq] at e
  exact e.symm
 refine wpAny_call (ziG (f:=f) I.kIn M.makes M.init (beq_iff_eq.mp M.fn) (codeAny_mono (F.run _ X.stack _ _ ⟨Value.ref (s.heap.objs.size+1) :: us,[]⟩ (Value.ref (s.heap.objs.size+1) :: (us++ds)) _ _ E (hr.make C us [])
  (I2.env0.make C us []) (hb _ (Value.ref (s.heap.objs.size+1) :: us) I2.kIn hl) r2 hq) λr s' hq'=>?_))
 cases r with
 | error e=>exact hx pins σ _ _ e s' I2 hq'
 | ok fl =>
  cases fl with
  | ret u =>
   obtain ⟨v,H',I3,rv,ev,q3⟩:=I2.after hq'
   subst ev
   exact ⟨rv,⟨V.ref (s.heap.objs.size+1),H',I3,rfl,q3⟩⟩
  | next=>exact False.elim hq'
  | brk=>exact False.elim hq'
  | cont=>exact False.elim hq'
theorem zfP (M:Mk X.K C f) (F:FnOk X.prog X.w X.K X.mg X.base CX k f fd ps sp) (hr:Room (k+1) X.A) (hg:Gl X x) (hm:X.mg x=some (.ref C)) (hb:zdB X.K fd ps ds) (hd:Vals dvs ds) (hx:zdG CX X E)
  (ha:PA X (e :: es) t) (hdb:(x == ("__debug__":Str))=false:=by decide) (he:starEach (e :: es) X.env=(false,eval e X.env) :: starEach es X.env:=by rfl) (hpl:(backTo pos (starEach es X.env)).any (·.1)=false:=by rfl) :
  PE X (.Call (.Name x p) (e :: es) [] pos) (zku C sp dvs E t):=by
 intro pins s σ H Q I h
 refine wpAny_Call_Name_kw (ld_glob I hg hm ?_ hdb)
 refine W.callWith_K (h₀:=X.base) I.ok.mod.kin M.kp (thn (ha pos pins s σ H _ I h) λus s1 ⟨vs,H1,I1,r,q⟩=>⟨I1.kIn,?_⟩) he hpl
 exact zih M F hr hb hd hx I1 r q
end
section
variable {X:Cx} {CX:CXT} {k:Nat} {f C:Addr} {fd:FuncData} {ps ks:List Str} {sp:Sp} {E:XK} {x m:Str} {p pos apos kpos:Pos} {e o:Expr} {es:List Expr} {kws:List Keyword} {te ta:TE} {t tk:TA} {nm:Option Str}
structure KBinds (K:W.Frag) (fd:FuncData) (ps ks:List Str) (g:List Value->List Value->List Value) (gV:List V->List V->List V):Prop where
 to:∀ (s:Shared) (us ws:List Value),K.In s.heap->(g us ws).length=ps.length->BindsTo s fd ⟨us,ks.zip ws⟩ (ps.zip (g us ws))
 rel:∀ {vs:List V} {us:List Value} {zs:List V} {ws:List Value},Vals vs us->Vals zs ws->Vals (gV vs zs) (g us ws)
variable {g:List Value->List Value->List Value} {gV:List V->List V->List V}
end
structure FnScope (N P:List Str) (sc:Scope):Prop where
 kind:sc.kind=.function
 co:sc.isCoroutine=false
 gen:sc.isGenerator=false
 nd:N.Nodup
 pre:N.take P.length=P
 par:∀ x∈P,sc.names.lookup x=some .local∨sc.names.lookup x=some .cell
 nofree:∀ y∈sc.names,y.2≠.free
theorem zfE {kindOf:Str->Option NameKind} {x:Str}:∀ {binds:List (Str×Value)} {m:Str->Option Value},(∀ v,(x,v) ∉ binds)->bindL kindOf binds m x=m x
 | [],_,_=>rfl
 | (n,v) :: r,m,h=>by
  unfold bindL
  rw [zfE λw hw=>h w (List.mem_cons_of_mem _ hw)]
  split
  ·have:x≠n:=by rintro rfl;exact h v List.mem_cons_self
   simp [this]
  ·rfl
theorem bindC_out {kindOf:Str->Option NameKind} {x:Str}:∀ {binds:List (Str×Value)} {m:Str->Option Value},(∀ v,(x,v) ∉ binds)->bindC kindOf binds m x=m x
 | [],_,_=>rfl
 | (n,v) :: r,m,h=>by
  unfold bindC
  rw [bindC_out λw hw=>h w (List.mem_cons_of_mem _ hw)]
  split
  ·rfl
  ·have:x≠n:=by rintro rfl;exact h v List.mem_cons_self
   simp [this]
theorem bindL_get {kindOf:Str->Option NameKind} {x:Str} {v:Value}:∀ {P:List Str} {vs:List Value} {i:Nat} {m:Str->Option Value},P.Nodup->P[i]?=some x->vs[i]?=some v->kindOf x=some .local →
  bindL kindOf (P.zip vs) m x=some v
 | [],_,_,_,_,h,_,_=>by simp at h
 | _ :: _,[],_,_,_,_,h,_=>by simp at h
 | p :: P,w :: vs,0,m,nd,h1,h2,hk=>by
  simp at h1 h2;subst h1;subst h2
  show bindL kindOf ((p,w) :: P.zip vs) m p=_
  unfold bindL
  rw [zfE λv hv=>(List.nodup_cons.mp nd).1 (List.of_mem_zip hv).1,if_pos hk]
  simp
 | p :: P,w :: vs,i+1,m,nd,h1,h2,hk=>by
  show bindL kindOf ((p,w) :: P.zip vs) m x=_
  unfold bindL
  exact bindL_get (i:=i) (List.nodup_cons.mp nd).2 (by simpa using h1) (by simpa using h2) hk
theorem zfb {kindOf:Str->Option NameKind} {x:Str} {v:Value}:∀ {P:List Str} {vs:List Value} {i:Nat} {m:Str->Option Value},P.Nodup->P[i]?=some x->vs[i]?=some v->kindOf x≠some .local →
  bindC kindOf (P.zip vs) m x=some v
 | [],_,_,_,_,h,_,_=>by simp at h
 | _ :: _,[],_,_,_,_,h,_=>by simp at h
 | p :: P,w :: vs,0,m,nd,h1,h2,hk=>by
  simp at h1 h2;subst h1;subst h2
  show bindC kindOf ((p,w) :: P.zip vs) m p=_
  unfold bindC
  rw [bindC_out λv hv=>(List.nodup_cons.mp nd).1 (List.of_mem_zip hv).1,if_neg hk]
  simp
 | p :: P,w :: vs,i+1,m,nd,h1,h2,hk=>by
  show bindC kindOf ((p,w) :: P.zip vs) m x=_
  unfold bindC
  exact zfb (i:=i) (List.nodup_cons.mp nd).2 (by simpa using h1) (by simpa using h2) hk
def start (N:List Str) (vs:List V):St:=vs.map some++List.replicate (N.length-vs.length) none
def zgA (CX:CXT) (P:Program) (w:World) (K:W.Frag) (mg:Str->Option Value) (base:Heap) (N:List Str) (qual:Str) (scope:Scope) (f:Addr) (cd:Value) (A:Around) (outer:List Env) (s:Shared) (H:Hp) (E:XK):Cx where
 prog:=P
 w:=w
 K:=K
 mg:=mg
 base:=base
 A:=A.deeper (envOfC qual scope s.heap.objs.size f cd)
 N:=N
 s₀:=s
 H₀:=H
 env:=envOfC qual scope s.heap.objs.size f cd
 outer:=outer
 stack:=envOfC qual scope s.heap.objs.size f cd :: outer
 ex:=[]
 calm:=true
 fn:=λ_=>true
 pn:=[]
 xe:=λe s'=>wpAny (model P w) (A.deeper (envOfC qual scope s.heap.objs.size f cd)) (leaving (envOfC qual scope s.heap.objs.size f cd) e) (λ_ s''=>CX outer H s E e s'') (λe' s''=>CX outer H s E e' s'') s'
theorem zgm {sc:Scope} {n:Nat} {x:Str} (h:sc.names.lookup x=some .cell):∃ c,(cellsFrom n sc.names []).lookup x=some c:=by
 have q:=W.cellsFrom_some sc.names n [] (.inl h)
 exact Option.isSome_iff_exists.mp q
theorem zhe {CX:CXT} {P:Program} {w:World} {K:W.Frag} {mg:Str->Option Value} {base:Heap} {N ps:List Str} {qual:Str} {scope:Scope} {f:Addr} {cd:Value} {A:Around} {outer:List Env} {s s1:Shared} {H:Hp} {E:XK} {us:List Value} {vs:List V}
  (S:FnScope N ps scope) (hd:A.handled=none) (e0:Env0 P w K mg base A outer s H) (hl:vs.length=ps.length) (r:Vals vs us)
  (x:InCallC s s.heap.objs.size (bindL (envOfC qual scope s.heap.objs.size f cd).kindOf (ps.zip us) λ_=>none) (cellsFrom (s.heap.objs.size+1) scope.names []) (bindC (envOfC qual scope s.heap.objs.size f cd).kindOf (ps.zip us) λ_=>none) s1) :
  Inv (zgA CX P w K mg base N qual scope f cd A outer s H E) [] (start N vs) H s1:=by
 have hpl:ps.length≤N.length:=by have:=congrArg List.length S.pre;rw [List.length_take] at this;omega
 obtain ⟨h1,tk,rfl,hk⟩:=x.done
 have noA:∀ b:Addr,b ∉ (zgA CX P w K mg base N qual scope f cd A outer s H E).ex:=λb z=>absurd (show b∈([]:List Addr) from z) (by simp)
 refine ⟨⟨e0.mod,S.kind,rfl,rfl,Nat.le_refl _,λy z c h1 h2=>?_,λy hy=>?_,λy c _ h=>?_,λ_=>hd,Around.frames_deeper e0.frames,.inr ⟨rfl,rfl⟩,λb z=>absurd z (noA b),e0.bs,e0.bsz,λb _ _=>noA b,λb z=>absurd z (noA b),e0.funs,e0.frf⟩,
  rfl,e0.bare,Un.kept hk,⟨_,x.toInCall.ns,λi y v h1 h2 h3=>?_⟩,λy c h=>⟨_,x.cell y c h⟩,e0.hok.fresh (Nat.le_refl _),λy c h=>?_,λp hp=>absurd (show p∈([]:List (Addr×Obj)) from hp) (by simp),e0.hok.kept hk,?_⟩
 ·exact name_of_addr x.apart (PySem.mem_of_lookup h1) (PySem.mem_of_lookup h2)
 ·have hy:scope.names.lookup y=some .cell∨scope.names.lookup y=some .free:=hy
  rcases hy with hy | hy
  ·exact zgm hy
  ·exact absurd rfl (S.nofree _ (PySem.mem_of_lookup hy))
 ·exact Nat.le_of_lt (x.above y c (PySem.mem_of_lookup h))
 ·have hi:i<vs.length:=by
   unfold start at h2
   by_cases hi:i<vs.length
   ·exact hi
   ·rw [List.getElem?_append_right (by simpa using hi)] at h2
    rw [List.getElem?_replicate] at h2
    split at h2<;>cases h2
  have ha:vs[i]?=some v:=by
   unfold start at h2
   rw [List.getElem?_append_left (by simpa using hi),List.getElem?_map] at h2
   cases e:vs[i]? with
   | none=>rw [e] at h2;cases h2
   | some a=>rw [e] at h2;cases h2;rfl
  obtain ⟨u,hu,rv⟩:=r.get ha
  have hp:ps[i]?=some y:=by
   rw [← S.pre,List.getElem?_take_of_lt (by omega)];exact h1
  have ndP:ps.Nodup:=by rw [← S.pre];exact S.nd.sublist (List.take_sublist _ _)
  refine ⟨u,rv,?_⟩
  rcases S.par y (List.mem_of_getElem? hp) with k | k
  ·exact .inl ⟨k,bindL_get ndP hp hu k⟩
  ·obtain ⟨c,e⟩:=zgm (n:=s.heap.objs.size+1) k
   refine .inr ⟨.inl k,c,e,?_⟩
   have q:=x.cell y c e
   rw [zfb ndP hp hu (by show scope.names.lookup y≠_;rw [k];decide)] at q
   exact q
 ·exact e0.hok.fresh (Nat.le_of_lt (x.above y c (PySem.mem_of_lookup h)))
 ·unfold start
  show _=N.length
  rw [List.length_append,List.length_map,List.length_replicate]
  omega
theorem zlN {CX:CXT} {P:Program} {w:World} {K:W.Frag} {mg:Str->Option Value} {base:Heap} {k:Nat} {f:Addr} {name qual:Str} {params:Arguments} {body:List Stmt} {scope:Scope} {dV kV doc pm cdv ct oc:Value} {an od:Option Addr}
  {osl:Array (Option Value)} {N ps:List Str} {sp:Sp} (lk:K.lookup f=some ⟨oc,od,.func (W.fnOf name qual params body scope dV kV doc pm an cdv ct),osl⟩) (hcd:W.codeIn K cdv qual=true) (S:FnScope N ps scope)
  (len:∀ vs H Q E,sp vs H Q E->vs.length=ps.length)
  (hbody:∀ (A:Around) (outer:List Env) (s:Shared) (H:Hp) (vs:List V) (Q:VK) (E:XK),Room k (A.deeper (envOfC qual scope s.heap.objs.size f cdv))->sp vs H Q E →
   ∃ t,PSs (zgA CX P w K mg base N qual scope f cdv A outer s H E) body t∧t { nx:=λ_ H'=>Q .non H',rt:=Q } (start N vs) H) :
  FnOk P w K mg base CX (k+1) f (W.fnOf name qual params body scope dV kV doc pm an cdv ct) ps sp:=by
 refine ⟨len,λA outer s H args us vs Q E hr e0 hb r hsp=>?_⟩
 have hl:=len _ _ _ _ hsp
 have KX:K.In s.heap:=e0.mod.kin.keeps λb o e=>(e0.bs b o e).1
 have lim:s.heap.NoLimit:=e0.mod.nolimit.keeps λb o e=>(e0.bs b o e).1
 have hkind:∀ y∈ps.zip us,scope.names.lookup y.1=some .local∨(scope.names.lookup y.1=some .cell∧((cellsFrom (s.heap.objs.size+1) scope.names []).lookup y.1).isSome=true):=λ⟨n,v⟩ hy=>by
  rcases S.par n (List.of_mem_zip hy).1 with q | q
  ·exact .inl q
  ·exact .inr ⟨q,W.cellsFrom_some _ _ _ (.inl q)⟩
 refine codeAny_call_function hr.depth (KX _ _ lk) rfl S.co S.gen rfl (W.codeRec_of KX hcd) (hb _ _ _ _ ?_)
 refine wpAny_newFunctionEnv_cells S.kind hkind λenv he s1 x=>?_
 subst he
 refine ⟨lim.keeps x.toInCall.keep,codeAny_func ?_⟩
 obtain ⟨t,ht,hq⟩:=hbody A outer s H vs Q E (hr.deeper _) hsp
 have I:Inv (zgA CX P w K mg base N qual scope f cdv A outer s H E) [] (start N vs) H s1:=zhe S hr.hd e0 hl r x
 refine wpAny_mono (ht [] s1 (start N vs) H _ I hq) (λfl s' hs=>?_) λe s' hs=>hs
 have fin:∀ {σ':St} {H':Hp} {v:V} {u:Value},Inv (zgA CX P w K mg base N qual scope f cdv A outer s H E) [] σ' H' s'->RelV v u->Q v H'->CE outer P w H s Q u s' :=
  λ{σ' H' v u} J rv q=>⟨v,H',J.os,J.bare,J.base,J.hok,rv,q⟩
 cases fl with
 | ret u =>
  obtain ⟨v,σ',H',J,rv,q⟩:=hs
  exact fin J rv q
 | next =>
  obtain ⟨σ',H',J,q⟩:=hs
  exact fin (v:=V.non) (u:=Value.none) J rfl q
 | brk =>
  obtain ⟨_,_,_,q⟩:=hs
  exact False.elim q
 | cont =>
  obtain ⟨_,_,_,q⟩:=hs
  exact False.elim q
end L2
namespace L2
open PySem PySem.Spec PyProof.Rows
section
variable {X:Cx} {x:Str} {p pos:Pos} {e:Expr} {es:List Expr} {t:TA} {id T:String} {r:List V->Hp->VK->Prop}
def tCB (r:List V->Hp->VK->Prop) (t:TA):TE:=λσ H Q=>t σ H λvs H1=>r vs H1 Q
theorem pe_callB (hc:zdJ X (.builtin id) r) (hg:Gl X x) (hm:X.mg x=none) (hv:bootBuiltins x=some (.builtin id)) (ha:PA X (e :: es) t) (hn:x≠"__name__":=by decide) (hdb:(x == ("__debug__":Str))=false:=by decide)
  (he:starEach (e :: es) X.env=(false,eval e X.env) :: starEach es X.env:=by rfl) (hpl:(backTo pos (starEach es X.env)).any (·.1)=false:=by rfl):PE X (.Call (.Name x p) (e :: es) [] pos) (tCB r t):=by
 intro pins s σ H Q I h
 refine wpAny_Call_Name_kw (ld_blt I hg hm hv ?_ hn hdb)
 exact PyProof.Rows.callWith_builtin1 (thn (ha pos pins s σ H _ I h) λus s1 ⟨vs,H1,I1,r1,q1⟩=>hc pins s1 σ H1 vs us Q I1 r1 q1) he hpl
theorem zb3 (hc:zdJ X (.type T) r) (hg:Gl X x) (hm:X.mg x=none) (hv:bootBuiltins x=some (.type T)) (ha:PA X (e :: es) t) (hn:x≠"__name__":=by decide) (hdb:(x == ("__debug__":Str))=false:=by decide)
  (he:starEach (e :: es) X.env=(false,eval e X.env) :: starEach es X.env:=by rfl) (hpl:(backTo pos (starEach es X.env)).any (·.1)=false:=by rfl):PE X (.Call (.Name x p) (e :: es) [] pos) (tCB r t):=by
 intro pins s σ H Q I h
 refine wpAny_Call_Name_kw (ld_blt I hg hm hv ?_ hn hdb)
 exact PyProof.Rows.callWith_type1 (thn (ha pos pins s σ H _ I h) λus s1 ⟨vs,H1,I1,r1,q1⟩=>hc pins s1 σ H1 vs us Q I1 r1 q1) he hpl
end
end L2
namespace HT
open PySem PyProof.Rows
section
open PySem.SeqAt
open PySem.AutoSeq1 (wpAny_loadPart')
open PySem.MeetsSeq PySem.MeetsSeq2 PySem.MeetsSeq3
end
section
variable {prog:Program} {w:World} {A:Around} {E:Value->Shared->Prop} {s:Shared}
def sIx (n d:Nat):Option Int->Nat
 | none=>d
 | some v=>if v<0 then (v+(n:Int)).toNat else min v.toNat n
theorem sIx_none (n d:Nat):sIx n d none=d:=rfl
theorem sIx_nat (n d k:Nat):sIx n d (some (k:Int))=min k n:=by
 show (if (k:Int)<0 then ((k:Int)+(n:Int)).toNat else min (k:Int).toNat n)=min k n
 rw [if_neg (by omega),Int.toNat_natCast]
end
end HT
namespace L2
open PySem PySem.Spec PyProof.Rows
abbrev TO:=St->Hp->(Option Int->Hp->Prop)->Prop
def PO (X:Cx) (e:Option Expr) (t:TO):Prop :=
 ∀ (pins:List (Addr×Obj)) (s:Shared) (σ:St) (H:Hp) (Q:Option Int->Hp->Prop),Inv X pins σ H s->t σ H Q →
  wpAny (model X.prog X.w) X.A (evalPart e X.env) (λu s'=>∃ o H',Inv X pins σ H' s'∧IsPart u o∧Q o H') X.xe s
def zh8:TO:=λ_ H Q=>Q none H
def zlc (t:TE):TO:=λσ H Q=>t σ H λx H1=>∃ i,x=.int i∧Q (some i) H1
section
variable {X:Cx} {e:Expr} {te:TE} {lo hi:Option Expr} {tl th:TO} {pos p2:Pos}
theorem zdw:PO X none zh8:=by
 intro pins s σ H Q I h
 rw [evalPart_none]
 exact wpAny_pure ⟨none,H,I,.none,h⟩
theorem zcv (h:PE X e te):PO X (some e) (zlc te):=by
 intro pins s σ H Q I hw
 rw [evalPart_some]
 refine thn (h pins s σ H _ I hw) λu s1 ⟨x,H1,I1,r1,q1⟩=>?_
 obtain ⟨i,rfl,q⟩:=q1
 obtain ⟨t,rfl⟩:=r1
 exact ⟨some i,H1,I1,.int i t,q⟩
def SlR (X:Cx) (r:V->Option Int->Option Int->Hp->VK->Prop):Prop :=
 ∀ (pins:List (Addr×Obj)) (s:Shared) (σ:St) (H:Hp) (x:V) (v vl vu:Value) (lo hi:Option Int) (sl:Addr) (Q:VK),Inv X pins σ H s->RelV x v->s.heap.IsSliceOf sl vl vu .none->IsPart vl lo->IsPart vu hi->r x lo hi H Q →
  ∃ T id,typeLookup (.type T) "__getitem__"=pure (some (.builtin id))∧s.TypeIs v T∧wpAny (model X.prog X.w) X.A (getItem v (.ref sl)) (EP X pins σ Q) X.xe s
def tSl (r:V->Option Int->Option Int->Hp->VK->Prop) (te:TE) (tl th:TO):TE:=λσ H Q=>te σ H λx H1=>tl σ H1 λl H2=>th σ H2 λu H3=>r x l u H3 Q
theorem zcm {r:V->Option Int->Option Int->Hp->VK->Prop} (hr:SlR X r) (he:PE X e te) (hl:PO X lo tl) (hu:PO X hi th):PE X (.Subscript e (.Slice lo hi none p2) pos) (tSl r te tl th):=by
 intro pins s σ H Q I h
 refine Subscript_ (thn (he pins s σ H _ I h) λv s1 ⟨x,H1,I1,r1,q1⟩=>?_)
 refine wpAny_Slice (thn (hl pins s1 σ H1 _ I1 q1) λvl s2 ⟨l,H2,I2,pl,q2⟩=>thn (hu pins s2 σ H2 _ I2 q2) λvu s3 ⟨u,H3,I3,pu,q3⟩=>?_)
 rw [evalPart_none]
 refine wpAny_pure ?_
 have I4:Inv X pins σ H3 { s3 with heap:=s3.heap.push { cls:=.type "slice",data:=.fields #[vl,vu,.none] } }:=I3.kept (t':=s3.toks) λb ob q=>Heap.get?_push_of_some _ q
 obtain ⟨T,id,hT,ht,hg⟩:=hr pins { s3 with heap:=s3.heap.push { cls:=.type "slice",data:=.fields #[vl,vu,.none] } } σ H3 x v vl vu l u s3.heap.objs.size Q I4 r1 (Heap.IsSliceOf.new ..) pl pu q3
 show wpAny (model X.prog X.w) X.A (subscriptTail e (.Slice lo hi none p2) v (.ref s3.heap.objs.size)) (EP X pins σ Q) X.xe { s3 with heap:=s3.heap.push { cls:=.type "slice",data:=.fields #[vl,vu,.none] } }
 exact tail_any (ops:=[.ref s3.heap.objs.size,v]) ht hT hg (by with_unfolding_all rfl)
def zkn (xs:List V) (lo hi:Option Int):List V:=(xs.drop (HT.sIx xs.length 0 lo)).take (HT.sIx xs.length xs.length hi-HT.sIx xs.length 0 lo)
theorem zf8 (xs:List V) (lo hi:Option Int):(zkn xs lo hi).length≤xs.length:=by
 unfold zkn
 rw [List.length_take,List.length_drop]
 omega
end
end L2
namespace L2
open PySem PySem.Spec PyProof.Rows
def ixN (n:Nat) (i:Int):Option Nat:=if 0≤i then (if i<n then some i.toNat else none) else if -(n:Int)≤i then some (i+n).toNat else none
def atI {α:Type} (xs:List α) (i:Int):Option α:=(ixN xs.length i).bind λj=>xs[j]?
theorem zhJ {n:Nat} {i:Int} {j:Nat} (h:ixN n i=some j):seqIndex? i n=some j∧j<n∧-(n:Int)≤i∧i<n:=by
 unfold ixN at h
 by_cases h0:0≤i
 ·rw [if_pos h0] at h
  by_cases h1:i<n
  ·rw [if_pos h1] at h
   have e:i.toNat=j:=Option.some.inj h
   exact ⟨by rw [seqIndex_of h0 h1,e],by omega,by omega,h1⟩
  ·rw [if_neg h1] at h;cases h
 ·rw [if_neg h0] at h
  by_cases h1:-(n:Int)≤i
  ·rw [if_pos h1] at h
   have e:(i+n).toNat=j:=Option.some.inj h
   exact ⟨by rw [seqIndex_neg (by omega) h1,e],by omega,h1,by omega⟩
  ·rw [if_neg h1] at h;cases h
theorem atI_get {α:Type} {xs:List α} {i:Int} {v:α} (h:atI xs i=some v):∃ j,seqIndex? i xs.length=some j∧xs[j]?=some v∧j<xs.length∧-(xs.length:Int)≤i∧i<xs.length:=by
 unfold atI at h
 cases e:ixN xs.length i with
 | none=>rw [e] at h;cases h
 | some j =>
  rw [e] at h
  obtain ⟨h1,h2,h3,h4⟩:=zhJ e
  exact ⟨j,h1,h,h2,h3,h4⟩
def zjM (b:Expr):Prop:=∀ o i,subscripted b false o i=operate [o,i] (getItem o i)
def IxR (X:Cx) (r:R2):Prop :=
 ∀ (value slice:Expr) (pins:List (Addr×Obj)) (s:Shared) (σ:St) (H:Hp) (x y:V) (v u:Value) (Q:VK),Inv X pins σ H s->RelV x v->RelV y u->r x y H Q →
  subscripted slice false v u=operate [v,u] (getItem v u)->wpAny (model X.prog X.w) X.A (subscriptTail value slice v u) (EP X pins σ Q) X.xe s
def MtR (X:Cx) (id:String) (r:V->List V->Hp->VK->Prop):Prop :=
 ∀ (pins:List (Addr×Obj)) (s:Shared) (σ:St) (H:Hp) (x:V) (xs:List V) (v:Value) (us:List Value) (Q:VK),Inv X pins σ H s->RelV x v->Vals xs us->r x xs H Q →
  wpAny (model X.prog X.w) X.A (call (.builtin id) (v :: us)) (EP X pins σ Q) X.xe s
section
variable {X:Cx} {a b:Expr} {ta tb:TE} {pos:Pos}
theorem zdr {r:R2} (hr:IxR X r) (ha:PE X a ta) (hb:PE X b tb) (hs:zjM b):PE X (.Subscript a b pos) (tOp r ta tb):=by
 intro pins s σ H Q I h
 exact Subscript_ (binT ha hb I h λv u s2 x y H2 I2 rx ry q=>hr a b pins s2 σ H2 x y v u Q I2 rx ry q (hs _ _))
def zj1 (K:W.Frag):R2:=λx y H Q=>∃ p xs i v,x=.ref p∧y=.int i∧SqL K H p xs∧atI xs i=some v∧Q v H
theorem zjx:IxR X (zj1 X.K):=by
 intro value slice pins s σ H x y v u Q I rx ry h hs
 obtain ⟨p,xs,i,z,rfl,rfl,hq,he,q⟩:=h
 cases rx
 obtain ⟨t,rfl⟩:=ry
 obtain ⟨its,r,pl,hz⟩:=I.list hq
 obtain ⟨j,h1,h2,h3,h4,h5⟩:=atI_get he
 obtain ⟨w,ew,rw'⟩:=r.get h2
 have hl:=r.length
 have hn:=zhL
 have fin:EP X pins σ Q w s:=⟨z,H,I,rw',q⟩
 by_cases h0:0≤i
 ·have hj:i.toNat=j:=by
   rw [seqIndex_of h0 h5] at h1
   exact Option.some.inj h1
  exact item_listR pl.isList h0 (by omega) (by rw [hj];simpa using ew) fin hs
 ·have hj:(i+(its.toArray.size:Int)).toNat=j:=by
   rw [seqIndex_neg (by omega) h4] at h1
   rw [List.size_toArray,← hl]
   exact Option.some.inj h1
  exact subscriptTail_builtinR (x:=w) pl.isList.typeIs slot_list_getitem.lookup
   (wpAny_getItem_list_neg (Q:=λr s'=>r=w∧EP X pins σ Q r s') pl.isList (by omega) (by rw [List.size_toArray]<;>omega) (by omega) (by rw [hj];simpa using ew) ⟨rfl,fin⟩) hs
theorem zgL (its:List Value) (n j:Nat) (u:Value):Obj.mapSeq (·.setIfInBounds j u) { cls:=.type "list",data:=.seq its.toArray n }={ cls:=.type "list",data:=.seq (its.set j u).toArray n }:=by
 simp [Obj.mapSeq]
theorem Inv.lst {pins:List (Addr×Obj)} {σ:St} {H:Hp} {s:Shared} {p:Addr} {xs:List V} (I:Inv X pins σ H s) (h:H p=some (.lst xs)) :
  ∃ (its:List Value) (n:Nat),Vals xs its∧s.heap.get? p=some { cls:=.type "list",data:=.seq its.toArray n }∧xs.length≤sizeLine:=by
 obtain ⟨z,its,n,r,e⟩:=I.hok p _ h
 exact ⟨its,n,r,e,z⟩
theorem Inv.lstUpd {pins:List (Addr×Obj)} {σ:St} {H:Hp} {s:Shared} {p:Addr} {xs ys:List V} {its its':List Value} {n n':Nat} {f:Obj->Obj} (I:Inv X pins σ H s) (h:H p=some (.lst xs))
  (ho:s.heap.get? p=some { cls:=.type "list",data:=.seq its.toArray n }) (hf:f { cls:=.type "list",data:=.seq its.toArray n }={ cls:=.type "list",data:=.seq its'.toArray n' }) (r:Vals ys its') (hz:ys.length≤sizeLine) (t:Nat) :
  Inv X pins σ (upd H p (.lst ys)) { s with heap:=s.heap.update p f,toks:=t }:=by
 have e:(s.heap.update p f).get? p=some { cls:=.type "list",data:=.seq its'.toArray n' }:=by
  rw [Heap.get?_update_self f ho (by rw [hf]<;>rfl),hf]
 refine I.write (x:=p) (e:=p) (by rw [h];trivial) (.inl rfl) (λb u hb q=>(Heap.get?_update_other _ _ (Ne.symm hb)).trans q) ⟨_,e⟩ ?_
 exact ⟨hz,its',n',r,e⟩
def zim:V->V->V->Hp->(Hp->Prop)->Prop:=λo i v H Q=>∃ p xs k j,o=.ref p∧i=.int k∧H p=some (.lst xs)∧ixN xs.length k=some j∧Q (upd H p (.lst (xs.set j v)))
theorem set_list:zlY X zim:=by
 intro pins s σ H o i v ov iv u Q I ro ri rv h
 obtain ⟨p,xs,k,j,rfl,rfl,hp,hj,q⟩:=h
 cases ro
 obtain ⟨t,rfl⟩:=ri
 obtain ⟨its,n,r,ho,hz⟩:=I.lst hp
 obtain ⟨h1,h2,h3,h4⟩:=zhJ hj
 have hl:=r.length
 have hn:=zhL
 have I':Inv X pins σ (upd H p (.lst (xs.set j v))) { s with heap:=s.heap.update p (Obj.mapSeq (·.setIfInBounds j u)) } :=
  I.lstUpd hp ho (zgL its n j u) (r.set rv j) (by rw [List.length_set];exact hz) s.toks
 by_cases h0:0≤k
 ·have hk:k.toNat=j:=by
   rw [seqIndex_of h0 h4] at h1
   exact Option.some.inj h1
  exact W.ki_setAt ho h0 (by omega) (by rw [List.size_toArray,← hl];exact h4) (by rw [hk];exact ⟨_,I',q⟩)
 ·have hk:(k+(its.toArray.size:Int)).toNat=j:=by
   rw [seqIndex_neg (by omega) h3] at h1
   rw [List.size_toArray,← hl]
   exact Option.some.inj h1
  exact W.ki_setBack ho (by omega) (by rw [List.size_toArray,← hl];exact h3) (by omega) (by rw [hk];exact ⟨_,I',q⟩)
theorem zfI (lo hi:Option Int) (n:Nat):(sliceBounds lo hi none n).1=((HT.sIx n 0 lo:Nat):Int)∧(sliceBounds lo hi none n).2.1=((HT.sIx n n hi:Nat):Int)∧(sliceBounds lo hi none n).2.2=1:=by
 refine ⟨?_,?_,rfl⟩
 ·cases lo with
  | none=>simp [sliceBounds,HT.sIx]
  | some i =>
   simp only [sliceBounds,HT.sIx,Option.getD_none,show (1:Int) > 0 by decide,if_true]
   by_cases h:i<0
   ·simp only [h,if_true]<;>omega
   ·simp only [h,if_false]<;>omega
 ·cases hi with
  | none=>simp [sliceBounds,HT.sIx]
  | some i =>
   simp only [sliceBounds,HT.sIx,Option.getD_none,show (1:Int) > 0 by decide,if_true]
   by_cases h:i<0
   ·simp only [h,if_true]<;>omega
   ·simp only [h,if_false]<;>omega
theorem zeW (its:List Value) (lo hi:Option Int):slicePick its.toArray lo hi none=((its.drop (HT.sIx its.length 0 lo)).take (HT.sIx its.length its.length hi-HT.sIx its.length 0 lo)).toArray:=by
 obtain ⟨h1,h2,h3⟩:=zfI lo hi its.toArray.size
 unfold slicePick
 rw [h1,h2,h3]
 simp only [sliceRange_one,pick_run,List.size_toArray]<;>rfl
def zlm (K:W.Frag):V->Option Int->Option Int->Hp->VK->Prop:=λx lo hi H Q=>∃ a xs,x=.ref a∧SqL K H a xs∧∀ p,H p=none->Q (.ref p) (upd H p (.lst (zkn xs lo hi)))
theorem zjI:SlR X (zlm X.K):=by
 intro pins s σ H x v vl vu lo hi sl Q I rx hs pl pu h
 obtain ⟨a,xs,rfl,hx,q⟩:=h
 cases rx
 obtain ⟨its,r,ht,hz⟩:=I.list hx
 have hlen:=r.length
 refine ⟨"list",_,slot_list_getitem.lookup,ht.isList.typeIs,?_⟩
 refine wpAny_getItem_list_slice ht.isList hs pl pu .none (by simp) ?_ (by rw [List.size_toArray]<;>omega)
 rw [zeW,← hlen]
 refine ⟨.ref s.heap.objs.size,_,I.laid (t':=s.toks) (o:=.lst (zkn xs lo hi)) (λb ob q=>Heap.get?_push_of_some _ q) (Nat.le_refl _) ?_,rfl,q _ (I.hok.fresh (Nat.le_refl _))⟩
 exact ⟨Nat.le_trans (zf8 xs lo hi) hz,_,0,(r.drop (HT.sIx xs.length 0 lo)).take (HT.sIx xs.length xs.length hi-HT.sIx xs.length 0 lo),Heap.get?_push_size _ rfl⟩
def ziV:V->Bool
 | .non=>true
 | .bl _=>true
 | .int _=>true
 | .str _=>true
 | _=>false
def eqV:V->V->Bool
 | .non,.non=>true
 | .bl a,.bl b=>a == b
 | .bl a,.int b=>(if a then 1 else 0) == b
 | .int a,.bl b=>a == (if b then 1 else 0)
 | .int a,.int b=>a == b
 | .str a,.str b=>a == b
 | _,_=>false
theorem eqAt_V {A:Around} {s:Shared} {y x:V} {u v:Value} (ry:RelV y u) (rx:RelV x v) (fy:ziV y=true) (fx:ziV x=true):SeqAt.EqAt A s u v (eqV y x):=by
 cases y with
 | non =>
  cases ry
  cases x with
  | non=>cases rx;exact SeqAt.EqAt.same _
  | bl b=>cases rx;exact SeqAt.EqAt.none_bool b
  | int b=>obtain ⟨t,rfl⟩:=rx;exact SeqAt.EqAt.none_int b t
  | str b=>obtain ⟨t,rfl⟩:=rx;exact SeqAt.EqAt.none_str b t
  | _=>exact absurd (show false=true from fx) Bool.false_ne_true
 | bl a =>
  cases ry
  cases x with
  | non=>cases rx;exact SeqAt.EqAt.bool_none a
  | bl b=>cases rx;exact SeqAt.EqAt.bool_bool a b
  | int b=>obtain ⟨t,rfl⟩:=rx;exact SeqAt.EqAt.bool_int a b t
  | str b=>obtain ⟨t,rfl⟩:=rx;exact SeqAt.EqAt.bool_str a b t
  | _=>exact absurd (show false=true from fx) Bool.false_ne_true
 | int a =>
  obtain ⟨t',rfl⟩:=ry
  cases x with
  | non=>cases rx;exact SeqAt.EqAt.int_none a t'
  | bl b=>cases rx;exact SeqAt.EqAt.int_bool a t' b
  | int b=>obtain ⟨t,rfl⟩:=rx;exact SeqAt.EqAt.int_int a t' b t
  | str b=>obtain ⟨t,rfl⟩:=rx;exact SeqAt.EqAt.int_str a t' b t
  | _=>exact absurd (show false=true from fx) Bool.false_ne_true
 | str a =>
  obtain ⟨t',rfl⟩:=ry
  cases x with
  | non=>cases rx;exact SeqAt.EqAt.str_none a t'
  | bl b=>cases rx;exact SeqAt.EqAt.str_bool a t' b
  | int b=>obtain ⟨t,rfl⟩:=rx;exact SeqAt.EqAt.str_int a t' b t
  | str b=>obtain ⟨t,rfl⟩:=rx;exact SeqAt.EqAt.str_str a t' b t
  | _=>exact absurd (show false=true from fx) Bool.false_ne_true
 | _=>exact absurd (show false=true from fy) Bool.false_ne_true
theorem zfz:zdJ X (.builtin "len") (λxs H Q=>∃ p ys,xs=[.ref p]∧(SqL X.K H p ys∨SqT X.K H p ys)∧Q (.int ys.length) H):=by
 intro pins s σ H xs us Q I r h
 obtain ⟨p,ys,rfl,hq,q⟩:=h
 obtain ⟨u,rfl,rx⟩:=zhS r
 cases rx
 have hn:=zhL
 rcases hq with hq | hq
 ·obtain ⟨its,r',pl,hz⟩:=I.list hq
  have hlen:=r'.length
  exact Calls.call_len_list pl.isList (by simp only [List.size_toArray]<;>omega) ⟨.int ys.length,H,I.tok _,⟨s.toks+1,by rw [List.size_toArray,hlen]⟩,q⟩
 ·obtain ⟨its,r',pl,hz⟩:=I.tuple hq
  have hlen:=r'.length
  exact len_tuple pl (by simp only [List.size_toArray]<;>omega) ⟨.int ys.length,H,I.tok _,⟨s.toks+1,by rw [List.size_toArray,hlen]⟩,q⟩
theorem zfu:zdJ X (.type "list") (λxs H Q=>∃ p ys,xs=[.ref p]∧(SqL X.K H p ys∨SqT X.K H p ys)∧∀ l,H l=none->Q (.ref l) (upd H l (.lst ys))):=by
 intro pins s σ H xs us Q I r h
 obtain ⟨p,ys,rfl,hq,q⟩:=h
 obtain ⟨u,rfl,rx⟩:=zhS r
 cases rx
 have fin:∀ (its:List Value),Vals ys its->ys.length≤sizeLine->∀ (h':Heap) (c':Nat),(∀ b o',s.heap.get? b=some o'->h'.get? b=some o') →
   h'.get? s.heap.objs.size=some { cls:=.type "list",dict:=none,data:=.seq its.toArray c',slots:=#[] }->EP X pins σ Q (.ref s.heap.objs.size) { s with heap:=h' }:=λits r' hz h' c' kp e =>
  ⟨.ref s.heap.objs.size,_,I.laid (t':=s.toks) kp (Nat.le_refl _) (show zcf X.prog X.w _ h' _ (.lst ys) from ⟨hz,its,c',r',e⟩),rfl,q _ (I.hok.fresh (Nat.le_refl _))⟩
 rcases hq with hq | hq
 ·obtain ⟨its,r',pl,hz⟩:=I.list hq
  have hlen:=r'.length
  obtain ⟨o,ho,hc,n,hd⟩:=pl.isList
  exact call_list_seq p (.inl rfl) ho hc hd (λh' c' kp e=>fin its r' hz h' c' kp e) (by simp only [List.size_toArray]<;>omega)
 ·obtain ⟨its,r',pl,hz⟩:=I.tuple hq
  have hlen:=r'.length
  obtain ⟨o,ho,hc,n,hd⟩:=pl
  exact call_list_seq p (.inr rfl) ho hc hd (λh' c' kp e=>fin its r' hz h' c' kp e) (by simp only [List.size_toArray]<;>omega)
def tyV (K:W.Frag) (T:String) (x:V) (H:Hp):Prop:=match x with
 | .str _=>T="str"
 | .int _=>T="int"
 | .ref p=>(T="list"∧∃ xs,SqL K H p xs)∨(T="tuple"∧∃ o,K.lookup p=some o∧o.cls=.type "tuple"∧o.dict=none) ∨
   (T="dict"∧((∃ kvs,H p=some (.dK kvs))∨∃ kvs,H p=some (.dT kvs)))∨(T="set"∧∃ S n,H p=some (.set S n))
 | _=>False
theorem zkL {pins:List (Addr×Obj)} {σ:St} {H:Hp} {s:Shared} {T:String} {x:V} {v:Value} (I:Inv X pins σ H s) (r:RelV x v) (ty:tyV X.K T x H) :
  s.TypeIs v T∧∀ a,v=.ref a->∃ ob,s.heap.get? a=some ob∧ob.dict=none:=by
 cases x with
 | str z =>
  obtain ⟨t,rfl⟩:=r
  cases (show T="str" from ty)
  exact ⟨typeIs_str s z t,λ_ e=>nomatch e⟩
 | int i =>
  obtain ⟨t,rfl⟩:=r
  cases (show T="int" from ty)
  exact ⟨typeIs_int s i t,λ_ e=>nomatch e⟩
 | ref p =>
  cases r
  rcases ty with ⟨rfl,xs,hq⟩ | ⟨rfl,o,hk,hc,hd⟩ | ⟨rfl,hk⟩ | ⟨rfl,S,n,hk⟩
  ·obtain ⟨its,_,pl,_⟩:=I.list hq
   refine ⟨pl.isList.typeIs,λa e=>?_⟩
   cases e
   obtain ⟨o,n,e,c,hd,_⟩:=pl
   exact ⟨o,e,hd⟩
  ·refine ⟨⟨o,I.kIn p o hk,hc⟩,λa e=>?_⟩
   cases e
   exact ⟨o,I.kIn _ o hk,hd⟩
  ·have z:∃ o,s.heap.get? p=some o∧o.ExactDict:=by
    rcases hk with ⟨kvs,hk⟩ | ⟨kvs,hk⟩
    ·obtain ⟨_,_,_,_,o,_,_,e,ex,_⟩:=I.hok p _ hk
     exact ⟨o,e,ex⟩
    ·obtain ⟨_,_,_,_,o,_,_,e,ex,_⟩:=I.hok p _ hk
     exact ⟨o,e,ex⟩
   obtain ⟨o,e,ex⟩:=z
   refine ⟨⟨o,e,ex.1⟩,λa e2=>?_⟩
   cases e2
   exact ⟨o,e,ex.2.1⟩
  ·obtain ⟨o,_,_,_,e,ex,_⟩:=I.hok p _ hk
   refine ⟨⟨o,e,ex.1⟩,λa e2=>?_⟩
   cases e2
   exact ⟨o,e,ex.2.1⟩
 | _=>exact False.elim ty
def tBM (K:W.Frag) (T:String) (r:V->List V->Hp->VK->Prop) (to:TE) (t:TA):TE:=λσ H Q=>to σ H λx H1=>tyV K T x H1∧t σ H1 λxs H2=>r x xs H2 Q
variable {o e:Expr} {es:List Expr} {to:TE} {t:TA} {name:Str} {apos cpos:Pos} {T id:String} {r:V->List V->Hp->VK->Prop}
theorem zlu (pa:PlainAttrs T) (slot:Slot T name id) (hty:typeOf (.builtin id)=pure (.type "method_descriptor")) (hm:MtR X id r) (ho:PE X o to) (ha:PA X (e :: es) t)
  (hbase:attributeBase o name X.env (eval o X.env)=eval o X.env:=by rfl)
  (hfew:((backTo cpos (starEach (e :: es) X.env)).all (λx=>!x.1)&&(backToKw cpos (keywordEach [] X.env)).all (λx=>x.1.isSome)
   &&decide ((e :: es).length+([]:List Keyword).length+(if ([]:List Keyword).isEmpty then 0 else 1)<30))=true:=by rfl)
  (hline:(apos.endLine == cpos.line)=true:=by rfl) (hs:starEach (e :: es) X.env=(false,eval e X.env) :: starEach es X.env:=by rfl) (hplain:(backTo cpos (starEach es X.env)).any (·.1)=false:=by rfl) :
  PE X (.Call (.Attribute o name apos) (e :: es) [] cpos) (tBM X.K T r to t):=by
 intro pins s σ H Q I h
 refine wpAny_Call_method_late hbase hfew hline rfl (thn (ho pins s σ H _ I h) λv s1 ⟨x,H1,I1,r1,ty,q1⟩=>?_)
 obtain ⟨h1,h2⟩:=zkL I1 r1 ty
 refine ⟨T,id,pa,slot,hty,h1,h2,?_⟩
 have hA:=ha cpos pins s1 σ H1 _ I1 q1
 rw [hs] at hA ⊢
 refine Calls.callWith_builtin (by show (false||(backTo cpos (starEach es X.env)).any (·.1))=false;rw [hplain]<;>rfl) (Calls.evalArgs_plain ?_)
 exact thn hA λus s2 ⟨vs,H2,I2,r2,q2⟩=>hm pins s2 σ H2 x vs v us Q I2 r1 r2 q2
end
end L2
namespace L2
open PySem PySem.Spec PyProof.Rows
def MtM (X:Cx) (id:String) (r:V->List V->Hp->VK->Prop):Prop :=
 ∀ (pins:List (Addr×Obj)) (s:Shared) (σ:St) (H:Hp) (x:V) (xs:List V) (v:Value) (us:List Value) (Q:VK),Inv X pins σ H s->RelV x v->Vals xs us->r x xs H Q →
  wpAny (model X.prog X.w) X.A (call (.builtin id) (v :: us)) (EP X pins σ Q) X.xe s
theorem Vals.one:∀ {x:V} {us:List Value},Vals [x] us->∃ u,us=[u]∧RelV x u
 | _,_,.cons r .nil=>⟨_,rfl,r⟩
theorem Vals.rep {xs:List V} {us:List Value} (h:Vals xs us):∀ k:Nat,Vals (List.replicate k xs).flatten (List.replicate k us).flatten
 | 0=>.nil
 | k+1=>by
  rw [List.replicate_succ,List.replicate_succ,List.flatten_cons,List.flatten_cons]
  exact Vals.append h (Vals.rep h k)
theorem zfe (its:List Value):∀ (k:Nat) (acc:List Value),
  List.foldl (λx1 x2=>x1++x2) acc.toArray (List.replicate k its.toArray)=(acc++(List.replicate k its).flatten).toArray
 | 0,acc=>by simp
 | k+1,acc=>by
  have e:acc.toArray++its.toArray=(acc++its).toArray:=by simp
  have e2:(acc++its)++(List.replicate k its).flatten=acc++(List.replicate (k+1) its).flatten:=by
   rw [List.replicate_succ,List.flatten_cons,List.append_assoc]
  rw [← e2,← zfe its k (acc++its),← e,List.replicate_succ,List.foldl_cons]
section
variable {X:Cx} {pins:List (Addr×Obj)} {σ:St} {H:Hp} {s:Shared} {l b:Addr} {xs ys zs:List V}
theorem Inv.lset {its its':List Value} {n:Nat} {f:Array Value->Array Value} {t':Nat} (I:Inv X pins σ H s) (hH:H l=some (.lst xs))
  (e:s.heap.get? l=some { cls:=.type "list",data:=.seq its.toArray n }) (hf:f its.toArray=its'.toArray) (hv:Vals ys its') (hz:ys.length≤sizeLine) :
  Inv X pins σ (upd H l (.lst ys)) { s with heap:=s.heap.update l (Obj.mapSeq f),toks:=t' }:=by
 have q:=PySem.IsL.update e f
 rw [hf] at q
 refine I.write (x:=l) (e:=l) (by rw [hH];exact trivial) (.inl rfl) (λb' u hb hu=>(Heap.get?_update_other s.heap (Obj.mapSeq f) (Ne.symm hb)).trans hu) ⟨_,q⟩ ?_
 exact ⟨hz,its',_,hv,q⟩
theorem Inv.lnew {its:List Value} {t':Nat} (I:Inv X pins σ H s) (hv:Vals ys its) (hz:ys.length≤sizeLine) :
  Inv X pins σ (upd H s.heap.objs.size (.lst ys)) { s with heap:=s.heap.push { cls:=.type "list",data:=.seq its.toArray },toks:=t' } :=
 I.laid (λ_ _ q=>Heap.get?_push_of_some _ q) (Nat.le_refl _) ⟨hz,its,0,hv,Heap.get?_push_size _ rfl⟩
theorem Inv.fresh (I:Inv X pins σ H s):H s.heap.objs.size=none:=I.hok.fresh (Nat.le_refl _)
theorem Inv.lstM (I:Inv X pins σ H s) (hH:H l=some (.lst xs)):xs.length≤sizeLine∧∃ (its:List Value) (n:Nat),Vals xs its∧xs.length=its.length∧s.heap.get? l=some { cls:=.type "list",data:=.seq its.toArray n }:=by
 obtain ⟨z,its,n,r,e⟩:=I.hok l _ hH
 exact ⟨z,its,n,r,r.length,e⟩
theorem zgb {n:Nat} (h:n≤sizeLine):Builtin.List.listTooLong n=false:=by
 unfold Builtin.List.listTooLong
 exact decide_eq_false (by omega)
end
section
variable {X:Cx}
def rAppend:V->List V->Hp->VK->Prop:=λx vs H Q=>∃ l xs y,x=.ref l∧vs=[y]∧H l=some (.lst xs)∧xs.length<sizeLine∧Q .non (upd H l (.lst (xs++[y])))
theorem mt_append:MtM X "list.append" rAppend:=by
 intro pins s σ H x vs v us Q I rx rv h
 obtain ⟨l,xs,y,rfl,rfl,hH,hz,q⟩:=h
 cases rx
 obtain ⟨u,rfl,ru⟩:=rv.one
 obtain ⟨z,its,n,r,hl,e⟩:=I.lstM hH
 refine call_meets F.slot_list_append ⟨_,e,rfl⟩ F.entry_list_append (F.args_list_append_2 _ _) (PySem.list_append l its.toArray n u (by rw [List.size_toArray];omega)) ⟨e,?_⟩
 refine ⟨.non,_,I.lset (its':=its++[u]) hH e (by simp) (r.append (.cons ru .nil)) ?_,rfl,q⟩
 rw [List.length_append,List.length_singleton]
 omega
def rExtend:V->List V->Hp->VK->Prop:=λx vs H Q=>∃ l b xs zs,x=.ref l∧vs=[.ref b]∧H l=some (.lst xs)∧H b=some (.lst zs)∧xs.length+zs.length≤sizeLine∧Q .non (upd H l (.lst (xs++zs)))
theorem zk3:MtM X "list.extend" rExtend:=by
 intro pins s σ H x vs v us Q I rx rv h
 obtain ⟨l,b,xs,zs,rfl,rfl,hH,hB,hz,q⟩:=h
 cases rx
 obtain ⟨u,rfl,ru⟩:=rv.one
 cases ru
 obtain ⟨z,its,n,r,hl,e⟩:=I.lstM hH
 obtain ⟨z2,its2,n2,r2,hl2,e2⟩:=I.lstM hB
 have hsz:its.toArray.size+its2.toArray.size≤sizeLine:=by rw [List.size_toArray,List.size_toArray];omega
 have hlong:¬ (!its.toArray.isEmpty&&Builtin.List.listTooLong (its.toArray.size+its2.toArray.size))=true:=by
  rw [zgb hsz,Bool.and_false]
  exact Bool.false_ne_true
 refine call_meets F.slot_list_extend ⟨_,e,rfl⟩ F.entry_list_extend (F.args_list_extend_2 _ _)
  (AutoSeq1.list_extend_list_list_0 l its.toArray n b its2.toArray n2 hlong (by rw [List.size_toArray];omega) (by omega)) ⟨e,e2,?_⟩
 refine ⟨.non,_,I.lset (its':=its++its2) hH e (by simp) (r.append r2) ?_,rfl,q⟩
 rw [List.length_append]
 omega
def zlR:R2:=λx y H Q=>∃ l b xs zs,x=.ref l∧y=.ref b∧H l=some (.lst xs)∧H b=some (.lst zs)∧xs.length+zs.length≤sizeLine∧∀ p,H p=none->Q (.ref p) (upd H p (.lst (xs++zs)))
theorem zcK:OpR X (binaryOp .Add) zlR:=by
 intro pins s σ H x y v u Q I rx ry h
 obtain ⟨l,b,xs,zs,rfl,rfl,hH,hB,hz,q⟩:=h
 cases rx
 cases ry
 obtain ⟨z,its,n,r,hl,e⟩:=I.lstM hH
 obtain ⟨z2,its2,n2,r2,hl2,e2⟩:=I.lstM hB
 refine PySem.P.add_list e e2 ?_ (by rw [List.size_toArray,List.size_toArray];omega)
 have ea:its.toArray++its2.toArray=(its++its2).toArray:=by simp
 rw [ea]
 exact ⟨.ref _,_,I.lnew (t':=s.toks) (r.append r2) (by rw [List.length_append];omega),rfl,q _ I.fresh⟩
def zlw:R2:=λx y H Q=>∃ l k xs,x=.ref l∧y=.int k∧H l=some (.lst xs)∧-(2^63)≤k∧k<2^63∧xs.length*k.toNat≤sizeLine ∧
 ∀ p,H p=none->Q (.ref p) (upd H p (.lst (List.replicate k.toNat xs).flatten))
theorem zjw {α:Type} (xs:List α) (k:Nat):(List.replicate k xs).flatten.length=k*xs.length:=by
 induction k with
 | zero=>simp
 | succ k ih=>rw [List.replicate_succ,List.flatten_cons,List.length_append,ih,Nat.succ_mul,Nat.add_comm]
theorem zki:OpR X (binaryOp .Mult) zlw:=by
 intro pins s σ H x y v u Q I rx ry h
 obtain ⟨l,k,xs,rfl,rfl,hH,h1,h2,hz,q⟩:=h
 cases rx
 obtain ⟨t,rfl⟩:=ry
 obtain ⟨z,its,n,r,hl,e⟩:=I.lstM hH
 have hlen:its.toArray.size*k.toNat≤sizeLine:=by rw [List.size_toArray,← hl];exact hz
 have hcap:¬ its.toArray.size*k.toNat > (2^63-1)/8:=by
  have:(sizeLine:Nat)≤(2^63-1)/8:=by decide
  omega
 have hfit:¬ (!Builtin.List.listFitsIndex k)=true:=by
  rw [fitsIndex_both h1 h2]
  exact Bool.false_ne_true
 have hlong:¬ Builtin.List.listTooLong (its.toArray.size*k.toNat)=true:=by
  rw [zgb hlen]
  exact Bool.false_ne_true
 have hnew:List.foldl (λx1 x2=>x1++x2) #[] (List.replicate (if its.toArray.isEmpty=true then 0 else k.toNat) its.toArray)=(List.replicate k.toNat its).flatten.toArray:=by
  have f0:∀ m:Nat,List.foldl (λx1 x2=>x1++x2) #[] (List.replicate m its.toArray)=(List.replicate m its).flatten.toArray:=λm=>by
   have:=zfe its m []
   rw [List.nil_append] at this
   exact this
  rw [f0]
  cases its with
  | nil=>simp
  | cons a r'=>rw [if_neg (by simp)]
 refine wpAny_binaryOp_repeat_ref (T:="list") (U:="int") (by decide) ⟨_,e,rfl⟩ (λs'=>typeIs_int s' k t) noFill_list_mul F.fills_int_mul F.slot_int_rmul repeat_list F.slot_int_index.lookup
  (call_meets F.slot_int_rmul (typeIs_int s k t) F.entry_int_rmul (F.args_int_rmul_2 _ _) (int___rmul___int_list k t l its.toArray n)
   ⟨e,rfl,⟨_,e,rfl⟩,call_meets F.slot_list_mul ⟨_,e,rfl⟩ F.entry_list_mul (F.args_list_mul_2 _ _) (AutoListH.list___mul___list_int_3 l its.toArray n k t hfit hcap hlong) ⟨e,?_⟩⟩)
 rw [hnew]
 exact ⟨.ref _,_,I.lnew (t':=s.toks) (r.rep k.toNat) (by rw [zjw,Nat.mul_comm];exact hz),rfl,q _ I.fresh⟩
end
section
variable {prog:Program} {w:World} {A:Around} {E:Value->Shared->Prop} {s:Shared}
end
section
variable {X:Cx}
end
end L2
namespace Att
open PySem PySem.W PySem.Calls PyProof.Rows
theorem zei {P:Params} {h:Heap}:∀ (ns:List Int) (vs:List Value),WellAll P h vs (ns.map WData.int)->IntsAre vs ns:=by
 intro ns
 induction ns with
 | nil =>
  intro vs w
  rw [List.map_nil] at w
  cases w
  exact .nil
 | cons n ns ih =>
  intro vs w
  rw [List.map_cons] at w
  cases w with
  | cons a b =>
   cases a
   exact .cons _ _ (ih _ b)
theorem script_of {l:OpenLaw} {n:Nat} (hn:l.most=some n) {P:Params} {h:Heap} {args:List WData} {vals:List Value}
  (hpre:l.row.toRowW.claim.pre args=true) (hwl:WellAll P h vals args) :
  ∃ a vs ns,vals=[Value.ref a]∧args=[WData.list (ns.map WData.int)]∧h.get? a=some { cls:=.type "list",data:=.seq vs.toArray }∧IntsAre vs ns∧ns.length≤n:=by
 have hsh:WShape.hasAll [] args [.list .int]=true:=(pre_splitW hpre).1
 have hc:l.pre.holds [] { args:=args }=true:=(pre_splitW hpre).2
 obtain ⟨d,r,rfl,h1,h2⟩:=hasAllW_cons hsh
 obtain rfl:=hasAllW_nil h2
 obtain ⟨xs,rfl,h3⟩:=hasW_list h1
 obtain ⟨ns,rfl⟩:=items_int h3
 have hlen:ns.length≤n:=by
  unfold OpenLaw.pre at hc
  have h4:(WTm.not (.lt (.lit (.int (n:Int))) (.len (.arg 0)))).holds [] { args:=[.list (ns.map .int)] }=true:=by
   have h4:=(holds_andW hc).1
   rw [hn] at h4
   exact h4
  have h5:=condW_of h4 (w_not (w_lt w_lit (w_len_list (w_arg rfl))))
  rw [List.length_map] at h5
  refine Nat.le_of_not_lt λq=>?_
  have q':(n:Int)<((ns.length:Nat):Int):=by omega
  first
   | (rw [decide_eq_true q'] at h5;exact absurd h5 (by decide))
   | (simp at h5;omega)
 cases hwl with
 | cons w1 w2 =>
  cases w2
  cases w1 with
  | list ho hall=>exact ⟨_,_,ns,rfl,rfl,ho,zei ns _ hall,hlen⟩
theorem zhO (l:OpenLaw) (args:List WData):l.row.toRowW.claim.post args (.bool true) args=true :=
 postW_of (r:=l.row.toRowW) (X:=(true == true))
  (show WShape.has [] (.bool true) .bool=true by first | rfl | decide | simp [WShape.has,WShape.arms,WShape.armsAll])
  (show (WTm.eq .res (.lit (.bool true))).value [] { args:=args,res:=some (.bool true),after:=args }=some (.bool (true == true)) from w_eq_bool (w_res rfl) w_lit) rfl
theorem attach_call {l:OpenLaw} {n:Nat} {q:Program} {loose:List Str} {XP:(Str->Option Value)->Heap->Prop} {YP:World->Heap->Prop} {d:DefRec}
  (hn:l.most=some n) (hdf:d.params.defaults=[])
  (call:∀ (w:World) (s₀ s₁:Shared) (mg mb:Str->Option Value) (fa:Addr) (o:Obj) (pm cd doc:Value) (a:Addr) (vs:List Value) (ns:List Int),
   Ground q loose [] XP w s₀ mg mb s₁.heap->YP w s₁.heap →
   s₁.heap.get? fa=some o->o.data=.func (docDef d.name d.params d.body d.scope pm cd doc)->s₁.heap.CodeRec cd d.name->mg d.name=some (.ref fa) →
   s₁.heap.get? a=some { cls:=.type "list",data:=.seq vs.toArray }->IntsAre vs ns->ns.length≤n->s₁.gens=#[] →
   codeAny (model l.prog w) callerA (.call (.ref fa) ⟨[.ref a],[]⟩) (λr s'=>r=.ok (.ret (.bool true))∧OldK s₁.heap s'.heap∧s'.os=s₁.os∧AllBare s'.gens) s₁) :
  WalkO q loose XP YP l.row.toRowW d [] (λf vs=>PySem.call f vs):=by
 intro w s₀ s₁ mg mb G Y fa o pm cd doc dV kV ho hd hcd hD hmg hg args vals as hpre hlay hrd hwl hlo
 obtain rfl:dV=.none:=Dflts.none hD hdf
 obtain rfl:kV=.none:=Dflts.noKw hD
 obtain ⟨a,vs,ns,rfl,rfl,hobj,hints,hlen⟩:=script_of hn hpre hwl
 refine enter_call (codeAny_mono (call w s₀ s₁ mg mb fa o pm cd doc a vs ns G Y ho (fd_plain hd) hcd hmg hobj hints hlen hg) λr s' hq=>?_)
 obtain ⟨rfl,h2,h3,h4⟩:=hq
 exact ⟨.inl ⟨.bool true,.bool true,[],rfl,λ_=>rfl,.bool true,zhO l _,λ_=>⟨List.Pairwise.nil,λ_ hm=>(nomatch hm)⟩⟩,h2,h3,h4⟩
section
variable {prog:Program} {w:World} {A:Around} {E:Value->Shared->Prop} {s:Shared} {K:Frag}
end
end Att
namespace L2
open PySem PySem.Spec PyProof.Rows
theorem zfg:∀ {vs:List Value} {ns:List Int},IntsAre vs ns->Vals (ns.map V.int) vs
 | _,_,.nil=>.nil
 | _,_,.cons n t h=>.cons ⟨t,rfl⟩ (zfg h)
def zlS (H:Hp):Prop:=∀ b,H b=none∨∃ o xs,H b=some (.frz o (.lst xs))
theorem ziC {P:Program} {w:World} {K:W.Frag} {mg mb:Str->Option Value} {CX:CXT} {k:Nat} {fa a:Addr} {fd:FuncData} {x:Str} {sp:Sp} {s₁:Shared} {vs:List Value} {ns:List Int}
  (KX:K.In s₁.heap) (hns:s₁.heap.Ns mainGlobals mg) (hb:s₁.heap.Ns builtinsNs mb) (hbb:∀ x:Str,x≠"__name__"->mb x=bootBuiltins x) (hlim:s₁.heap.NoLimit) (hg:s₁.gens=#[])
  (ha:s₁.heap.get? a=some { cls:=.type "list",data:=.seq vs.toArray }) (hi:IntsAre vs ns) (hl:ns.length≤sizeLine) (hr:Room k callerA)
  (F:∀ base:Heap,K.In base->base.Ns mainGlobals mg->FnOk P w K mg base CX k fa fd [x] sp) (hbind:∀ (s:Shared) (u:Value),BindsTo s fd ⟨[u],[]⟩ [(x,u)])
  (hsp:∀ H:Hp,zlS H->SqL K H a (ns.map V.int)->sp [.ref a] H (λv _=>v=.bl true) λ_ _ _=>False)
  (hCX:∀ H e s',CX [] H s₁ (λ_ _ _=>False) e s'->False) :
  codeAny (model P w) callerA (.call (.ref fa) ⟨[.ref a],[]⟩) (λr s'=>r=.ok (.ret (.bool true))∧OldK s₁.heap s'.heap∧s'.os=s₁.os∧AllBare s'.gens) s₁:=by
 have rv:=zfg hi
 have lenV:=hi.length
 have core:∀ H:Hp,zlS H->SqL K H a (ns.map V.int)->HOk P w H s₁.heap->(∀ b,H b≠none->b=a)->(H a≠none->K.lookup a=none) →
   codeAny (model P w) callerA (.call (.ref fa) ⟨[.ref a],[]⟩) (λr s'=>r=.ok (.ret (.bool true))∧OldK s₁.heap s'.heap∧s'.os=s₁.os∧AllBare s'.gens) s₁:=by
  intro H hO hS hok hA hK
  have base_of:∀ {b:Addr} {o:Obj},s₁.heap.get? b=some o->H b=none->(ziE s₁.heap H).get? b=some o:=λe n=>zib e n
  have noA:∀ {b:Addr} {o:Obj} {es:Array DictEntry} {ep:Nat},s₁.heap.get? b=some o->o.data=.dict es ep->H b=none:=λ{b o es ep} e d=>by
   cases q:H b with
   | none=>rfl
   | some u =>
    have e':b=a:=hA b (by rw [q];simp)
    subst e'
    rw [ha] at e;cases e
    have d':Data.seq vs.toArray _=Data.dict es ep:=d
    cases d'
  have nsK:∀ {b:Addr} {m:Str->Option Value},s₁.heap.Ns b m->(ziE s₁.heap H).Ns b m:=λ{b m} ⟨o,es,ep,e,d,r⟩=>⟨o,es,ep,base_of e (noA e d),d,r⟩
  have hKb:K.In (ziE s₁.heap H):=λb o e=>base_of (KX b o e) (by
   cases q:H b with
   | none=>rfl
   | some u =>
    have e':b=a:=hA b (by rw [q];simp)
    subst e'
    rw [hK (by rw [q];simp)] at e;cases e)
  have hM:Mod K mg (ziE s₁.heap H):=⟨hKb,nsK hns,⟨mb,nsK hb,hbb⟩,let ⟨mc,h1,h2⟩:=hlim;⟨mc,nsK h1,h2⟩⟩
  have e0:Env0 P w K mg (ziE s₁.heap H) callerA [] s₁ H:=⟨rfl,hM,λb o e=>zjQ e,Nat.le_of_eq (zhQ _ _),trivial,λb hb=>absurd (show b∈([]:List Addr) from hb) (by simp),hok,.of_eq hg⟩
  refine codeAny_mono ((F _ hKb (nsK hns)).run callerA [] s₁ H ⟨[.ref a],[]⟩ [.ref a] [.ref a] _ _ hr e0 (hbind s₁ (.ref a)) (.cons rfl .nil) (hsp H hO hS)) λr s' h=>?_
  cases r with
  | error e=>exact (hCX H e s' h).elim
  | ok fl =>
   cases fl with
   | next=>exact False.elim h
   | brk=>exact False.elim h
   | cont=>exact False.elim h
   | ret u =>
    obtain ⟨v,H',os,bare,un,hok',r',q⟩:=h
    have q':v=.bl true:=q
    subst q'
    obtain rfl:u=Value.bool true:=r'
    refine ⟨rfl,OldK.of_keep λb o e=>?_,os,bare⟩
    cases q:H b with
    | none=>exact un.keep b o e q (by intro z;exact absurd (show b∈([]:List Addr) from z) (by simp)) (by simp)
    | some u =>
     rcases hO b with z | ⟨ob,xs,z⟩
     ·rw [q] at z;cases z
     ·have z2:=un.frzs b ob _ z
      obtain ⟨e1,_⟩:=hok b _ z
      obtain ⟨e2,_⟩:=hok' b _ z2
      rw [e] at e1;cases e1
      exact e2
 cases hk:K.lookup a with
 | some o =>
  have e:=KX a o hk
  rw [ha] at e
  cases e
  refine core (λ_=>none) (λ_=>.inl rfl) (.inr ⟨_,vs.toArray,_,hk,rfl,rfl,rfl,by rw [List.size_toArray,lenV];exact hl,by simpa using rv⟩) (λb u z=>by have z':(none:Option HO)=some u:=z;cases z') (λb z=>absurd rfl z) λz=>absurd rfl z
 | none =>
  refine core (λb=>if b=a then some (.frz { cls:=.type "list",data:=.seq vs.toArray } (.lst (ns.map V.int))) else none) (λb=>?_) (.inl (.inr ⟨{ cls:=.type "list",data:=.seq vs.toArray },if_pos rfl⟩)) (λb u z=>?_) (λb z=>?_) λ_=>hk
  ·by_cases hb:b=a
   ·exact .inr ⟨_,_,if_pos hb⟩
   ·exact .inl (if_neg hb)
  ·by_cases hb:b=a
   ·have z':=(if_pos hb).symm.trans z
    cases z'
    subst hb
    exact ⟨ha,by rw [List.length_map];exact hl,vs,_,rv,ha⟩
   ·have z':=(if_neg hb).symm.trans z
    cases z'
  ·by_cases hb:b=a
   ·exact hb
   ·exact absurd (if_neg hb) z
end L2
namespace L2
open PySem PySem.Spec PyProof.Rows
theorem zjG {l:W.OpenLaw} {n k:Nat} {q:Program} {loose:List Str} {XP:(Str->Option Value)->Heap->Prop} {YP:World->Heap->Prop} {d:DefRec} {K:Params->W.Frag} {CX:World->CXT} {sp:World->Sp} {x:Str}
  (hn:l.most=some n) (hn2:n≤sizeLine) (hdf:d.params.defaults=[]) (hr:Room k callerA)
  (hY:∀ (w:World) (h:Heap),YP w h->(K w.params).In h)
  (F:∀ (w:World) (mg:Str->Option Value) (fa:Addr) (h:Heap),(K w.params).In h->h.Ns mainGlobals mg->mg d.name=some (.ref fa) →
   ∃ fd:FuncData,(∀ (s:Shared) (u:Value),BindsTo s fd ⟨[u],[]⟩ [(x,u)]) ∧
    ∀ base:Heap,(K w.params).In base->base.Ns mainGlobals mg->FnOk l.prog w (K w.params) mg base (CX w) k fa fd [x] (sp w))
  (hsp:∀ (w:World) (H:Hp) (a:Addr) (ns:List Int),ns.length≤n->zlS H->SqL (K w.params) H a (ns.map V.int)->sp w [.ref a] H (λv _=>v=.bl true) λ_ _ _=>False)
  (hCX:∀ (w:World) (H:Hp) (s:Shared) (e:Value) (s':Shared),CX w [] H s (λ_ _ _=>False) e s'->False) :
  W.WalkO q loose XP YP l.row.toRowW d [] (λf vs=>PySem.call f vs):=by
 refine Att.attach_call hn hdf λw s₀ s₁ mg mb fa o pm cd doc a vs ns G Y ho hd hcd hmg hobj hints hlen hg=>?_
 have KX:=hY w _ Y
 obtain ⟨fd,hb,hF⟩:=F w mg fa _ KX G.T.g hmg
 exact ziC KX G.T.g G.T.b G.T.builtins G.T.nolimit hg hobj hints (Nat.le_trans hlen hn2) hr hF hb (λH hO hS=>hsp w H a ns hlen hO hS) λH e s'=>hCX w H s₁ e s'
end L2
namespace L2
open PySem PySem.Spec PyProof.Rows
def zcy (s:Stmt) (j:Nat):Stmt:=match s with
 | .ClassDef _ _ _ body _ _ _ _ _ _ _=>body.getD j (.Pass ⟨0,0,0,0⟩)
 | _=>.Pass ⟨0,0,0,0⟩
def zay (s:Stmt):Arguments:=match s with
 | .FunctionDef _ a _ _ _ _ _ _ _ _=>a
 | _=>{ posonlyargs:=[],args:=[],vararg:=none,kwonlyargs:=[],kw_defaults:=[],kwarg:=none,defaults:=[] }
def zas (s:Stmt):List Stmt:=match s with
 | .FunctionDef _ _ b _ _ _ _ _ _ _=>b
 | _=>[]
def defScope (s:Stmt):Scope:=match s with
 | .FunctionDef _ _ _ _ _ _ sc _ _ _=>sc
 | _=>{ kind:=.function,names:=[],isGenerator:=false,isCoroutine:=false }
abbrev E0:XK:=λ_ _ _=>False
structure Fun (K:W.Frag) (x qual:Str) (st:Stmt) (f:Addr) (fd:FuncData):Prop where
 ex:∃ (oc:Value) (od:Option Addr) (kV doc pm:Value) (an:Option Addr) (cdv ct:Value) (osl:Array (Option Value)),
  fd=W.fnOf x qual (zay st) (zas st) (defScope st) .none kV doc pm an cdv ct∧K.lookup f=some ⟨oc,od,.func fd,osl⟩∧W.codeIn K cdv qual=true
 kp:W.keepIn K (.ref f)=true
section
variable {P:Program} {w:World} {K:W.Frag} {mg:Str->Option Value} {base:Heap}
theorem Fun.binds {x qual:Str} {st:Stmt} {f:Addr} {fd:FuncData} {ps:List Str} (F:Fun K x qual st f fd)
  (h:∀ (kV doc pm:Value) (an:Option Addr) (cdv ct:Value) (us:List Value),us.length=ps.length->bindArgs (W.fnOf x qual (zay st) (zas st) (defScope st) .none kV doc pm an cdv ct) ⟨us,[]⟩=pure (ps.zip us)):zdB K fd ps []:=by
 obtain ⟨oc,od,kV,doc,pm,an,cdv,ct,osl,rfl,lk,hcd⟩:=F.ex
 exact .all (h kV doc pm an cdv ct)
theorem zaY {x qual:Str} {st:Stmt} {f:Addr} {oc:Value} {od an:Option Addr} {osl:Array (Option Value)} {kV doc pm cdv ct:Value} (l:K.lookup f=some ⟨oc,od,.func (W.fnOf x qual (zay st) (zas st) (defScope st) .none kV doc pm an cdv ct),osl⟩)
  (c:W.codeIn K cdv qual=true) (k:W.keepIn K (.ref f)=true):Fun K x qual st f (W.fnOf x qual (zay st) (zas st) (defScope st) .none kV doc pm an cdv ct):=⟨⟨oc,od,kV,doc,pm,an,cdv,ct,osl,rfl,l,c⟩,k⟩
end
section
variable {X:Cx}
theorem pv (i:Nat) {x:Str} {pos:Pos} (hN:X.N[i]?=some x:=by rfl) (hv:Vis X.env.scope x:=by first | exact Or.inl rfl | exact Or.inr (Or.inl rfl) | exact Or.inr (Or.inr rfl)) (hd:(x == ("__debug__":Str))=false:=by decide)
  (hcd:(x == ("__classdict__":Str))=false:=by decide):PE X (.Name x pos) (tVar i):=pe_var hN hv hd hcd
end
def Same (H H':Hp):Prop:=∀ b o,H b=some o->H' b=some o
theorem Same.refl (H:Hp):Same H H:=λ_ _ h=>h
theorem Same.trans {H H1 H2:Hp} (a:Same H H1) (b:Same H1 H2):Same H H2:=λc o h=>b c o (a c o h)
theorem Same.free {H H':Hp} (e:Same H H') {l:Addr} (h:H' l=Option.none):H l=Option.none:=by
 cases q:H l with
 | none=>rfl
 | some o =>
  rw [e l o q] at h
  cases h
theorem Same.seq {K:W.Frag} {H H':Hp} {a:Addr} {xs:List V} (e:Same H H') (h:SqL K H a xs):SqL K H' a xs:=by
 rcases h with (h | ⟨o,h⟩) | h
 ·exact .inl (.inl (e _ _ h))
 ·exact .inl (.inr ⟨o,e _ _ h⟩)
 ·exact .inr h
end L2
namespace L2
open PySem PySem.Spec PyProof.Rows
theorem zdX {env:Env}:∀ (names:List (Str×NameKind)) (acc:List (Str×Addr)),(∀ x∈names,x.2=.free->∃ c,env.cells.lookup x.1=some c) →
  ∃ cl:List (Str×Addr),(forIn (m:=Sem) names acc λ(x:Str×NameKind) (cs:List (Str×Addr))=>if (x.2 == NameKind.free)=true then (do let a ← cellOf env x.1;pure (ForInStep.yield ((x.1,a) :: cs))) else pure (ForInStep.yield cs))=pure cl ∧
   (∀ x c,cl.lookup x=some c->acc.lookup x=some c∨env.cells.lookup x=some c)∧(∀ x,((x,NameKind.free)∈names∨∃ c,acc.lookup x=some c)->∃ c,cl.lookup x=some c)
 | [],acc,_=>⟨acc,rfl,λ_ _ h=>.inl h,λx h=>by
   rcases h with h | h
   ·cases h
   ·exact h⟩
 | (n,k) :: r,acc,h=>by
  have hr:∀ x∈r,x.2=.free->∃ c,env.cells.lookup x.1=some c:=λx hx=>h x (List.mem_cons_of_mem _ hx)
  by_cases hk:k=.free
  ·subst hk
   obtain ⟨c,hc⟩:=h (n,.free) List.mem_cons_self rfl
   obtain ⟨cl,e,h1,h2⟩:=zdX r ((n,c) :: acc) hr
   refine ⟨cl,?_,λx c' q=>?_,λx q=>?_⟩
   ·rw [List.forIn_cons]
    have e1:cellOf env n=pure c:=by unfold cellOf;rw [hc]
    simp only [beq_self_eq_true,if_true,e1]
    exact e
   ·rcases h1 x c' q with z | z
    ·rw [List.lookup_cons] at z
     cases hx:x == n with
     | true =>
      rw [hx] at z
      have z':some c=some c':=z
      cases z'
      have:x=n:=eq_of_beq hx
      subst this
      exact .inr hc
     | false=>rw [hx] at z;exact .inl z
    ·exact .inr z
   ·refine h2 x ?_
    by_cases hx:x=n
    ·subst hx
     exact .inr ⟨c,by rw [List.lookup_cons];simp⟩
    ·rcases q with q | ⟨c',q⟩
     ·rcases List.mem_cons.mp q with q | q
      ·exact absurd (congrArg Prod.fst q) hx
      ·exact .inl q
     ·refine .inr ⟨c',?_⟩
      have:(x == n)=false:=by simpa using hx
      rw [List.lookup_cons,this]
      exact q
  ·obtain ⟨cl,e,h1,h2⟩:=zdX r acc hr
   refine ⟨cl,?_,h1,λx q=>h2 x ?_⟩
   ·rw [List.forIn_cons]
    have e1:(k == NameKind.free)=false:=by simpa using hk
    simp only [e1,Bool.false_eq_true,if_false]
    exact e
   ·rcases q with q | q
    ·rcases List.mem_cons.mp q with q | q
     ·exact absurd (congrArg Prod.snd q).symm hk
     ·exact .inl q
    ·exact .inr q
theorem zgu {scope:Scope} {env:Env} (h:∀ x∈scope.names,x.2=.free->∃ c,env.cells.lookup x.1=some c) :
  ∃ cl,closureFor scope env=pure cl∧(∀ x c,cl.lookup x=some c->env.cells.lookup x=some c)∧∀ x,(x,NameKind.free)∈scope.names->∃ c,cl.lookup x=some c:=by
 obtain ⟨cl,e,h1,h2⟩:=zdX (env:=env) scope.names [] h
 refine ⟨cl,?_,λx c q=>(h1 x c q).elim (λz=>by cases z) id,λx q=>h2 x (.inl q)⟩
 have e2:closureFor scope env=(forIn (m:=Sem) scope.names [] λ(x:Str×NameKind) (cs:List (Str×Addr))=>if (x.2 == NameKind.free)=true then (do let a ← cellOf env x.1;pure (ForInStep.yield ((x.1,a) :: cs))) else pure (ForInStep.yield cs)) >>= λr=>pure r:=by
  unfold closureFor
  rfl
 rw [e2,e]
 rfl
theorem lookup_relabel {env:Env}:∀ {names:List (Str×NameKind)} {x:Str} {k:NameKind},
  (names.map λ(n,k)=>if (k == NameKind.free&&env.scope.kind == .function&&env.kindOf n == some .cell) then (n,NameKind.cell) else (n,k)).lookup x=some k →
   names.lookup x=some k∨(k=.cell∧names.lookup x=some .free)
 | [],_,_,h=>by simp at h
 | (n,k') :: r,x,k,h=>by
  have ih:=@lookup_relabel env r x k
  have h:List.lookup x ((if (k' == NameKind.free&&env.scope.kind == .function&&env.kindOf n == some .cell)=true then (n,NameKind.cell) else (n,k')) :: _)=some k:=h
  cases hx:x == n with
  | true =>
   by_cases hc:(k' == NameKind.free&&env.scope.kind == .function&&env.kindOf n == some .cell)=true
   ·rw [if_pos hc] at h
    simp only [List.lookup_cons,hx] at h
    cases h
    simp only [Bool.and_eq_true,beq_iff_eq] at hc
    refine .inr ⟨rfl,?_⟩
    simp [List.lookup_cons,hx,hc.1.1]
   ·rw [if_neg hc] at h
    simp only [List.lookup_cons,hx] at h
    cases h
    exact .inl (by simp [List.lookup_cons,hx])
  | false =>
   have h':(r.map λ(n,k)=>if (k == NameKind.free&&env.scope.kind == .function&&env.kindOf n == some .cell) then (n,NameKind.cell) else (n,k)).lookup x=some k:=by
    by_cases hc:(k' == NameKind.free&&env.scope.kind == .function&&env.kindOf n == some .cell)=true
    ·rw [if_pos hc] at h
     simpa only [List.lookup_cons,hx] using h
    ·rw [if_neg hc] at h
     simpa only [List.lookup_cons,hx] using h
   simpa only [List.lookup_cons,hx] using ih h'
theorem cells_look:∀ (names:List (Str×NameKind)) (a:Nat) (acc:List (Str×Addr)) (x:Str) (c:Addr),(cellsFrom a names acc).lookup x=some c->((x,NameKind.cell)∈names∧a≤c)∨((x,NameKind.cell) ∉ names∧acc.lookup x=some c)
 | [],_,_,_,_,h=>.inr ⟨by simp,h⟩
 | (n,k) :: r,a,acc,x,c,h=>by
  unfold cellsFrom at h
  by_cases hk:k=.cell
  ·subst hk
   rw [if_pos (by rfl)] at h
   rcases cells_look r (a+1) ((n,a) :: acc) x c h with ⟨h1,h2⟩ | ⟨h1,h2⟩
   ·exact .inl ⟨List.mem_cons_of_mem _ h1,Nat.le_of_succ_le h2⟩
   ·rw [List.lookup_cons] at h2
    cases hx:x == n with
    | true =>
     rw [hx] at h2
     have h2:some a=some c:=h2
     cases h2
     rw [eq_of_beq hx]
     exact .inl ⟨List.mem_cons_self,Nat.le_refl _⟩
    | false =>
     rw [hx] at h2
     refine .inr ⟨λz=>?_,h2⟩
     rcases List.mem_cons.mp z with z | z
     ·have:=congrArg Prod.fst z
      have:x=n:=this
      rw [this] at hx
      simp at hx
     ·exact h1 z
  ·have hk':(k == NameKind.cell)=false:=by simpa using hk
   rw [hk',if_neg (by simp)] at h
   rcases cells_look r a acc x c h with ⟨h1,h2⟩ | ⟨h1,h2⟩
   ·exact .inl ⟨List.mem_cons_of_mem _ h1,h2⟩
   ·refine .inr ⟨λz=>?_,h2⟩
    rcases List.mem_cons.mp z with z | z
    ·exact hk (congrArg Prod.snd z).symm
    ·exact h1 z
theorem zer:∀ (names:List (Str×NameKind)) (a:Nat) (acc:List (Str×Addr)) (x:Str),((x,NameKind.cell)∈names∨∃ c,acc.lookup x=some c)->∃ c,(cellsFrom a names acc).lookup x=some c
 | [],_,_,_,h=>by
  rcases h with h | h
  ·simp at h
  ·exact h
 | (n,k) :: r,a,acc,x,h=>by
  unfold cellsFrom
  by_cases hk:k=.cell
  ·subst hk
   rw [if_pos (by rfl)]
   refine zer r (a+1) ((n,a) :: acc) x ?_
   by_cases hx:x=n
   ·subst hx
    exact .inr ⟨a,by rw [List.lookup_cons];simp⟩
   ·rcases h with h | ⟨c,h⟩
    ·rcases List.mem_cons.mp h with h | h
     ·exact absurd (congrArg Prod.fst h) hx
     ·exact .inl h
    ·refine .inr ⟨c,?_⟩
     have:(x == n)=false:=by simpa using hx
     rw [List.lookup_cons,this]
     exact h
  ·have hk':(k == NameKind.cell)=false:=by simpa using hk
   rw [hk',if_neg (by simp)]
   refine zer r a acc x ?_
   rcases h with h | h
   ·rcases List.mem_cons.mp h with h | h
    ·exact absurd (congrArg Prod.snd h).symm hk
    ·exact .inl h
   ·exact .inr h
theorem zdI:∀ (names:List (Str×NameKind)) (a:Nat) (acc acc':List (Str×Addr)) (x:Str),((x,NameKind.cell)∈names∨acc.lookup x=acc'.lookup x)->(cellsFrom a names acc).lookup x=(cellsFrom a names acc').lookup x
 | [],_,_,_,_,h=>by
  rcases h with h | h
  ·simp at h
  ·exact h
 | (n,k) :: r,a,acc,acc',x,h=>by
  unfold cellsFrom
  by_cases hk:k=.cell
  ·subst hk
   rw [if_pos (by rfl),if_pos (by rfl)]
   refine zdI r (a+1) _ _ x ?_
   by_cases hx:x=n
   ·subst hx
    exact .inr (by rw [List.lookup_cons,List.lookup_cons];simp)
   ·have hx':(x == n)=false:=by simpa using hx
    rcases h with h | h
    ·rcases List.mem_cons.mp h with h | h
     ·exact absurd (congrArg Prod.fst h) hx
     ·exact .inl h
    ·exact .inr (by rw [List.lookup_cons,List.lookup_cons,hx'];exact h)
  ·have hk':(k == NameKind.cell)=false:=by simpa using hk
   rw [hk',if_neg (by simp),if_neg (by simp)]
   refine zdI r a _ _ x ?_
   rcases h with h | h
   ·rcases List.mem_cons.mp h with h | h
    ·exact absurd (congrArg Prod.snd h).symm hk
    ·exact .inl h
   ·exact .inr h
theorem zcO {M:Model} {A:Around} {E:Value->Shared->Prop} {s:Shared} {scope:Scope} {globals:Addr} {closure:List (Str×Addr)} {qual:Str} {func:Option Addr} {code:Value} {outer:Env} {builtins:Addr} {Q:Env->Shared->Prop}
  (hQ:∀ h',h'.Ns s.heap.objs.size (λ_=>none)->(∀ b o,s.heap.get? b=some o->h'.get? b=some o) →
   (∀ x c,(x,NameKind.cell)∈scope.names->(cellsFrom (s.heap.objs.size+1) scope.names closure).lookup x=some c->h'.IsCell c none) →
   Q (newEnv scope s.heap.objs.size globals (cellsFrom (s.heap.objs.size+1) scope.names closure) qual func code (some outer) builtins) { s with heap:=h' }) :
  wpAny M A (newFunctionEnv scope globals closure [] qual func code (some outer) builtins) Q E s:=by
 simp only [newFunctionEnv,Option.isSome_some,if_true]
 refine wpAny_bind (wpAny_alloc ?_)
 refine wpAny_bind (wpAny_layCells _ (λname kind cells=>by cases hkc:kind == NameKind.cell<;>simp [hkc]) _ _ _ _ ?_)
 have ok:=cellsFrom_ok scope.names (s.heap.push { cls:=.type "dict",data:=.dict #[] }) (s.heap.objs.size+1) [] ⟨λ_ _ hm=>(nomatch hm),List.Pairwise.nil⟩ (by rw [Heap.size_push];exact Nat.le_refl _)
 rw [Heap.size_push] at ok
 rw [show ({ s with heap:=s.heap.push { cls:=.type "dict",data:=.dict #[] } }:Shared).heap.objs.size=s.heap.objs.size+1 from Heap.size_push ..]
 simp only [List.forIn_nil]
 refine wpAny_bind (wpAny_pure (wpAny_pure (hQ _ ((Heap.Ns.new s.heap (.type "dict")).keeps (pushCells_keeps _ _)) (λb o e=>pushCells_keeps _ _ b o (Heap.get?_push_of_some _ e)) λx c hx hc=>?_)))
 rw [zdI _ _ closure [] x (.inl hx)] at hc
 exact (ok.empty x c (PySem.mem_of_lookup hc)).1
def za0 (X:Cx) (N':List Str) (scope:Scope) (cl:List (Str×Addr)) (C:Addr) (fp:List Addr) (s:Shared) (H:Hp):Cx where
 prog:=X.prog
 w:=X.w
 K:=X.K
 mg:=X.mg
 base:=X.base
 A:=X.A
 N:=N'
 s₀:=s
 H₀:=H
 env:=compEnvC scope cl C X.env
 outer:=X.stack
 stack:=X.stack
 ex:=fp
 fn:=λx=>scope.names.lookup x == some .cell
 calm:=true
 pn:=X.pn
 xe:=λ_ _=>False
def zep (own:Nat) (fv:List Nat) (σ:St):St:=List.replicate own none++fv.map λi=>(σ[i]?).join
structure BlkScope (X:Cx) (scope:Scope) (own fvn:List Str) (fv:List Nat):Prop where
 cell:∀ y∈scope.names,y.2=.cell->scope.names.lookup y.1=some .cell
 fre:∀ y∈scope.names,y.2=.free->scope.names.lookup y.1=some .free
 kind:scope.kind=.function
 names:∀ y∈scope.names,y.2=.local->scope.names.lookup y.1=some .local
 free:∀ y∈scope.names,y.2=.free->X.env.scope.names.lookup y.1=some .cell∨X.env.scope.names.lookup y.1=some .free
 map:fvn.map some=fv.map λi=>X.N[i]?
 vis:∀ x∈fvn,scope.names.lookup x=some .free
section
variable {X:Cx} {pins:List (Addr×Obj)} {σ:St} {H:Hp} {s:Shared}
def ziR (X:Cx) (scope:Scope) (cl:List (Str×Addr)) (C:Addr):Prop:=(∀ x c,cl.lookup x=some c->(X.env.cells.lookup x=some c∧scope.names.lookup x≠some .cell)∨(C<c∧scope.names.lookup x=some .cell)) ∧
 (∀ x y c,C<c->cl.lookup x=some c->cl.lookup y=some c->x=y)∧∀ x,((x,NameKind.free)∈scope.names∨(x,NameKind.cell)∈scope.names)->∃ c,cl.lookup x=some c
theorem zka {scope:Scope} {own fvn:List Str} {fv:List Nat} {cl:List (Str×Addr)} {C:Addr} (B:BlkScope X scope own fvn fv) (h1:∀ x c,cl.lookup x=some c->X.env.cells.lookup x=some c) (h2:∀ x,(x,NameKind.free)∈scope.names->∃ c,cl.lookup x=some c)
  (hlt:∀ x c,X.env.cells.lookup x=some c->c≤C):ziR X scope (cellsFrom (C+1) scope.names cl) C:=by
 refine ⟨λx c e=>?_,λx y c hc e1 e2=>?_,λx hx=>?_⟩
 ·rcases cells_look _ _ _ _ _ e with ⟨z1,z2⟩ | ⟨z1,z2⟩
  ·exact .inr ⟨z2,B.cell _ z1 rfl⟩
  ·exact .inl ⟨h1 x c z2,λq=>z1 (PySem.mem_of_lookup q)⟩
 ·have key:∀ x,(cellsFrom (C+1) scope.names cl).lookup x=some c->(x,c)∈cellsFrom (C+1) scope.names []:=λx e=>by
   rcases cells_look _ _ _ _ _ e with ⟨z1,z2⟩ | ⟨z1,z2⟩
   ·rw [zdI _ _ cl [] x (.inl z1)] at e
    exact PySem.mem_of_lookup e
   ·exact absurd (hlt x c (h1 x c z2)) (Nat.not_le.mpr hc)
  have ap:∀ (names:List (Str×NameKind)) (a:Nat) (acc:List (Str×Addr)),(∀ e∈acc,e.2<a)->(acc.Pairwise λx y=>x.2≠y.2)->(cellsFrom a names acc).Pairwise λx y=>x.2≠y.2:=by
   intro names
   induction names with
   | nil=>intro a acc _ h;exact h
   | cons nk r ih =>
    intro a acc h h'
    obtain ⟨n,k⟩:=nk
    unfold cellsFrom
    split
    ·refine ih (a+1) _ (λe he=>?_) (List.pairwise_cons.mpr ⟨λy hy=>Nat.ne_of_gt (h y hy),h'⟩)
     rcases List.mem_cons.mp he with rfl | he
     ·exact Nat.lt_succ_self _
     ·exact Nat.lt_succ_of_lt (h e he)
    ·exact ih a acc h h'
  exact PySem.name_of_addr (ap scope.names (C+1) [] (by simp) .nil) (key x e1) (key y e2)
 ·refine zer _ _ _ _ ?_
  rcases hx with hx | hx
  ·exact .inr (h2 x hx)
  ·exact .inl hx
theorem zic {scope:Scope} {own fvn:List Str} {fv:List Nat} {cl:List (Str×Addr)} {C:Addr} {fp:List Addr} (I:Inv X pins σ H s) (B:BlkScope X scope own fvn fv) (hc:X.calm=true)
  (hb:ziR X scope cl C)
  (hC:s.heap.objs.size≤C) (hf:∀ b∈fp,FpOk X pins H b) (hl:∀ b∈fp,b<s.heap.objs.size):(za0 X (own++fvn) scope cl C fp s H).Ok where
 mod:=I.ok.mod
 kind:=B.kind
 glob:=I.ok.glob
 blt:=I.ok.blt
 above:=hC
 inj:=λx y c e1 e2=>by
  have lt:∀ z,X.env.cells.lookup z=some c->c<s.heap.objs.size:=λz e=>by obtain ⟨v,q⟩:=I.cell z c e;exact q.lt
  rcases hb.1 x c e1 with ⟨z1,_⟩ | ⟨z1,_⟩
  ·rcases hb.1 y c e2 with ⟨z2,_⟩ | ⟨z2,_⟩
   ·exact I.ok.inj x y c z1 z2
   ·exact absurd (Nat.lt_of_lt_of_le (lt x z1) hC) (Nat.not_lt.mpr (Nat.le_of_lt z2))
  ·exact hb.2.1 x y c z1 e1 e2
 has:=λx hx=>by
  have hx:(scope.names.map λ(n,k)=>if (k == NameKind.free&&X.env.scope.kind == .function&&X.env.kindOf n == some .cell) then (n,NameKind.cell) else (n,k)).lookup x=some .cell ∨
   (scope.names.map λ(n,k)=>if (k == NameKind.free&&X.env.scope.kind == .function&&X.env.kindOf n == some .cell) then (n,NameKind.cell) else (n,k)).lookup x=some .free:=hx
  refine hb.2.2 x ?_
  rcases hx with hx | hx
  ·rcases lookup_relabel hx with z | ⟨_,z⟩
   ·exact .inr (PySem.mem_of_lookup z)
   ·exact .inl (PySem.mem_of_lookup z)
  ·rcases lookup_relabel hx with z | ⟨z,_⟩
   ·exact .inl (PySem.mem_of_lookup z)
   ·cases z
 cab:=λx c h e=>by
  have h:(scope.names.lookup x == some NameKind.cell)=true:=h
  rcases hb.1 x c e with ⟨_,z⟩ | ⟨z,_⟩
  ·exact absurd (eq_of_beq h) z
  ·exact Nat.le_trans hC (Nat.le_of_lt z)
 hd:=λ_=>I.ok.hd hc
 frames:=I.ok.frames
 stk:=.inl rfl
 exf:=λb hb'=>⟨Nat.ne_of_lt (Nat.lt_of_lt_of_le (hl b hb') hC),λx c e=>by
  rcases hb.1 x c e with ⟨z,_⟩ | ⟨z,_⟩
  ·exact (hf b hb').2.2.2.2.1 x c z
  ·exact Nat.ne_of_gt (Nat.lt_trans (Nat.lt_of_lt_of_le (hl b hb') hC) z)⟩
 bs:=I.bs
 bsz:=Nat.le_trans I.ok.bsz I.sz
 noex:=λb o e hb=>by
  rcases (hf b hb).2.2.2.1 with z | z
  ·exact I.ok.noex b o e z
  ·exact absurd (Nat.lt_of_lt_of_le (Heap.lt_size (I.ok.bs b o e).1) z) (Nat.lt_irrefl _)
 exfs:=λb hb z=>by
  rcases List.mem_cons.mp (I.stkSub b z) with q | q
  ·exact (hf b hb).2.1 q
  ·exact (hf b hb).2.2.1 q
 funs:=I.stack
 frf:=I.stkFree
theorem zjm {own:List Str} {fvn:List Str} {fv:List Nat} {i:Nat} {x:Str} {v:V} (hm:fvn.map some=fv.map λi=>X.N[i]?) (h1:(own++fvn)[i]?=some x) (h2:(zep own.length fv σ)[i]?=some (some v)) :
  x∈fvn∧∃ j:Nat,X.N[j]?=some x∧σ[j]?=some (some v):=by
 unfold zep at h2
 by_cases hi:i<own.length
 ·rw [List.getElem?_append_left (by simpa using hi),List.getElem?_replicate] at h2
  split at h2<;>cases h2
 ·rw [List.getElem?_append_right (by simpa using hi),List.length_replicate,List.getElem?_map] at h2
  rw [List.getElem?_append_right (by simpa using hi)] at h1
  have q:(fvn.map some)[i-own.length]?=(fv.map λi=>X.N[i]?)[i-own.length]?:=by rw [hm]
  rw [List.getElem?_map,List.getElem?_map,h1] at q
  cases e:fv[i-own.length]? with
  | none=>rw [e] at h2;cases h2
  | some j =>
   rw [e] at h2 q
   have q':X.N[j]?=some x:=(Option.some.inj q).symm
   have h2':(σ[j]?).join=some v:=Option.some.inj h2
   refine ⟨List.mem_of_getElem? h1,j,q',?_⟩
   cases e2:σ[j]? with
   | none=>rw [e2] at h2';cases h2'
   | some o =>
    rw [e2] at h2'
    have:o=some v:=h2'
    rw [this]
theorem zfW {scope:Scope} {own fvn:List Str} {fv:List Nat} {cl:List (Str×Addr)} {C D:Addr} {fp:List Addr} {h':Heap} {t':Nat} {m:Str->Option Value} (I:Inv X pins σ H s) (B:BlkScope X scope own fvn fv) (hc:X.calm=true)
  (hb:ziR X scope cl C) (hnew:∀ x c,C<c->cl.lookup x=some c->h'.IsCell c none)
  (hf:∀ b∈fp,FpOk X pins H b) (hl:∀ b∈fp,b<s.heap.objs.size) (hD:s.heap.objs.size≤D) (hC:s.heap.objs.size≤C) (hDC:D<C)
  (k:∀ b o,s.heap.get? b=some o->h'.get? b=some o) (hn:h'.Ns C m) (ho:h'.get? D=some { cls:=.type "list",data:=.seq #[] 0 }) :
  Inv (za0 X (own++fvn) scope cl C fp s H) pins (zep own.length fv σ) (upd H D (.lst [])) { s with heap:=h',toks:=t' }:=by
 have hDn:H D=none:=I.hok.fresh hD
 have hCn:H C=none:=I.hok.fresh hC
 have lt:∀ b o,s.heap.get? b=some o->b≠D:=λb o e=>Nat.ne_of_lt (Nat.lt_of_lt_of_le (Heap.lt_size e) hD)
 refine ⟨zic I B hc hb hC hf hl,rfl,I.bare,Un.laid k hD hDn,⟨m,hn,λi x v e1 e2 e3=>?_⟩,λx c e=>?_,?_,λx c e=>?_,λp hp=>?_,?_,?_⟩
 ·obtain ⟨hx,j,e4,e5⟩:=zjm B.map e1 e2
  have hfr:=B.vis x hx
  obtain ⟨c,hcl⟩:=hb.2.2 x (.inl (PySem.mem_of_lookup hfr))
  have h1x:X.env.cells.lookup x=some c:=by
   rcases hb.1 x c hcl with ⟨z,_⟩ | ⟨_,z⟩
   ·exact z
   ·rw [hfr] at z;cases z
  obtain ⟨m0,hn0,hl0⟩:=I.loc
  have ok:=B.free _ (PySem.mem_of_lookup hfr) rfl
  have hv:Vis X.env.scope x:=by
   rcases ok with z | z
   ·exact .inr (.inl z)
   ·exact .inr (.inr z)
  obtain ⟨u,r,l⟩:=hl0 j x v e4 e5 hv
  refine ⟨u,r,.inr ⟨?_,c,hcl,?_⟩⟩
  ·rcases e3 with z | z | z
   ·have z':(scope.names.map λ(n,k)=>if (k == NameKind.free&&X.env.scope.kind == .function&&X.env.kindOf n == some .cell) then (n,NameKind.cell) else (n,k)).lookup x=some .local:=z
    rcases lookup_relabel z' with y | ⟨y,_⟩
    ·rw [hfr] at y;cases y
    ·cases y
   ·exact .inl z
   ·exact .inr z
  ·rcases l with ⟨k0,_⟩ | ⟨_,c',e6,o,ho',hd⟩
   ·have k0':X.env.scope.names.lookup x=some .local:=k0
    rcases ok with z | z<;>(rw [k0'] at z;cases z)
   ·rw [h1x] at e6
    cases e6
    exact ⟨o,k _ _ ho',hd⟩
 ·rcases hb.1 x c e with ⟨z,_⟩ | ⟨z,_⟩
  ·obtain ⟨v,o,ho',hd⟩:=I.cell x c z
   exact ⟨v,o,k _ _ ho',hd⟩
  ·exact ⟨none,hnew x c z e⟩
 ·show upd H D (.lst []) C=none
  rw [upd_ne (Nat.ne_of_gt hDC)];exact hCn
 ·rcases hb.1 x c e with ⟨z,_⟩ | ⟨z,_⟩
  ·obtain ⟨v,o,ho',hd⟩:=I.cell x c z
   rw [upd_ne (lt _ _ ho')]
   exact I.freeC x c z
  ·rw [upd_ne (Nat.ne_of_gt (Nat.lt_trans hDC z))]
   exact I.hok.fresh (Nat.le_trans hC (Nat.le_of_lt z))
 ·obtain ⟨e,n,ne,nf,d⟩:=I.pin p hp
  refine ⟨k _ _ e,?_,Nat.ne_of_lt (Nat.lt_of_lt_of_le (Heap.lt_size e) hC),λz=>?_,d⟩
  ·rw [upd_ne (lt _ _ e)];exact n
  ·rcases List.mem_cons.mp (I.stkSub _ z) with q | q
   ·exact ne q
   ·exact nf q
 ·exact I.hok.laid k hD ⟨Nat.zero_le _,[],0,.nil,ho⟩
 ·have hm:=congrArg List.length B.map
  rw [List.length_map,List.length_map] at hm
  show (zep own.length fv σ).length=(own++fvn).length
  unfold zep
  rw [List.length_append,List.length_append,List.length_replicate,List.length_map,hm]
theorem zg0 {scope:Scope} {N':List Str} {cl:List (Str×Addr)} {C:Addr} {fp:List Addr} {σ':St} {H':Hp} {s':Shared} (I:Inv X pins σ H s) (hC:s.heap.objs.size≤C) (hf:∀ b∈fp,FpOk X pins H b)
  (J:Inv (za0 X N' scope cl C fp s H) pins σ' H' s'):Inv X pins σ H' s'∧FpOk X pins H' C:=by
 have I':Inv X pins σ H' s':=I.call' (ch:=fp) J.os J.base J.hok J.bare λb hb=>⟨(hf b hb).2.2.2.1,(hf b hb).2.1,(hf b hb).2.2.2.2.1,(hf b hb).2.2.2.2.2⟩
 refine ⟨I',J.free,Nat.ne_of_gt (Nat.lt_of_lt_of_le I.lt hC),I.nofs hC,.inr (Nat.le_trans I.sz hC),λx c e z=>?_,λp hp z=>?_⟩
 ·obtain ⟨v,q⟩:=I.cell x c e
  exact absurd (Nat.lt_of_lt_of_le q.lt (by rw [z];exact hC)) (Nat.lt_irrefl _)
 ·exact absurd (Nat.lt_of_lt_of_le (Heap.lt_size (I.pin p hp).1) (by rw [z];exact hC)) (Nat.lt_irrefl _)
end
section
variable {prog:Program} {w:World} {A:Around} {R:Result->Shared->Prop} {s:Shared}
theorem comp_loop {elt target iter:Expr} {ifs:List Expr} {scope:Scope} {pos:Pos} {it acc:Value} {env:Env} (I:Nat->Shared->Prop)
  (turn:∀ n s,I n s->wpAny (model prog w) A (pyNext it) (λr s₁=>match r with
   | none=>R (.ok .next) s₁
   | some v=>wpAny (model prog w) A (letOwnedTupleGo target it v) (λ_ s₁'=>wpAny (model prog w) A (assign target env v) (λ_ s₂ =>
     wpAny (model prog w) A (forIn ifs true λc r=>if r=true then do let ok ← isTrue c env (eval c env);pure (ForInStep.yield ok) else pure (ForInStep.yield r)) (λok s₃ =>
      if ok=true then wpAny (model prog w) A (eval elt env) (λx s₄ =>
       wpAny (model prog w) A (call (.builtin "list.append") [acc,x]) (λ_ s₅=>∃ m,m<n∧I m s₅) (λ_ _=>False) s₄) (λ_ _=>False) s₃
      else ∃ m,m<n∧I m s₃) (λ_ _=>False) s₂) (λ_ _=>False) s₁') (λ_ _=>False) s₁) (λ_ _=>False) s)
  (n:Nat) (h:I n s) :
  codeAny (model prog w) A (.compLoop (.ListComp elt [⟨target,iter,ifs,0⟩] scope pos) 0 it acc env) R s:=by
 refine codeAny_loop rfl I (λn s hI=>?_) n h
 show wpAny _ A ((compTurn (.ListComp elt [⟨target,iter,ifs,0⟩] scope pos) 0 it acc env).onRaise (λx=>do noteFrame x env;theTreesLotGoes x)) _ _ s
 refine wpAny_noted ?_
 rw [compTurn_list]
 refine wpAny_bind (wpAny_standAt (wpAny_bind (wpAny_mono (turn n s hI) (λr s₁ h₁=>?_) λ_ _ h'=>h'.elim)))
 cases r with
 | none=>exact wpAny_pure h₁
 | some v =>
  refine wpAny_bind (wpAny_mono h₁ (λ_ s₁' h₁'=>?_) λ_ _ h'=>h'.elim)
  refine wpAny_bind (wpAny_mono h₁' (λ_ s₂ h₂=>wpAny_bind (wpAny_mono h₂ (λok s₃ h₃=>?_) λ_ _ h'=>h'.elim)) λ_ _ h'=>h'.elim)
  cases ok with
  | false=>exact wpAny_pure ⟨rfl,h₃⟩
  | true =>
   exact wpAny_bind (wpAny_bind (wpAny_mono h₃ (λx s₄ h₄=>wpAny_bind (wpAny_mono h₄ (λ_ s₅ h₅=>wpAny_pure (wpAny_pure ⟨rfl,h₅⟩)) λ_ _ h'=>h'.elim)) λ_ _ h'=>h'.elim))
end
abbrev TTs:=St->Hp->(Bool->Hp->Prop)->Prop
def PTs (X:Cx) (ifs:List Expr) (t:TTs):Prop :=
 ∀ (pins:List (Addr×Obj)) (s:Shared) (σ:St) (H:Hp) (Q:Bool->Hp->Prop),Inv X pins σ H s->t σ H Q →
  wpAny (model X.prog X.w) X.A (forIn ifs true λc r=>if r=true then do let ok ← isTrue c X.env (eval c X.env);pure (ForInStep.yield ok) else pure (ForInStep.yield r)) (TP X pins σ Q) X.xe s
def tNoIf:TTs:=λ_ H Q=>Q true H
theorem pts_nil {X:Cx}:PTs X [] tNoIf:=λ_ _ _ H _ I h=>wpAny_tests_nil ⟨H,I,h⟩
def zh3 (own:Nat) (fv:List Nat) (wi:TI) (g:TG) (tt:TTs) (te:TE):TE:=λσ H Q=>wi σ H λJ H1=>∀ D,H1 D=none →
 ∃ W:Nat->Nat->List V->St->Hp->Prop,(∃ m,W 0 m [] (zep own fv σ) (upd H1 D (.lst [])))∧∀ i m ys σb H,W i m ys σb H->H D=some (.lst ys) ∧
  ((J.stop i H∧Q (.ref D) H)∨(J.go i H∧∀ x H',J.yld i H x H'->g x σb H' λσ2 H2=>tt σ2 H2 λok H3=>if ok=true then te σ2 H3 λy H4=>H4 D=some (.lst ys)∧ys.length<sizeLine∧∃ m',m'<m∧W (i+1) m' (ys++[y]) σ2 (upd H4 D (.lst (ys++[y])))
   else ∃ m',m'<m∧W (i+1) m' ys σ2 H3))
section
variable {X:Cx} {tg iter elt:Expr} {ifs:List Expr} {scope:Scope} {pos:Pos} {wi:TI} {g:TG} {tt:TTs} {te:TE} {own fvn:List Str} {fv:List Nat}
theorem zgg {pins:List (Addr×Obj)} {σ:St} {s:Shared} {Q:VK} {E:Value->Shared->Prop} {cl:List (Str×Addr)} {RR:Value->Addr->Result->Shared->Prop} {itv:Value}
  (hc:X.calm=true) (B:BlkScope X scope own fvn fv) (h1:∀ x c,cl.lookup x=some c->X.env.cells.lookup x=some c) (h2:∀ x,(x,NameKind.free)∈scope.names->∃ c,cl.lookup x=some c)
  (hb:∀ (cl:List (Str×Addr)) (C:Addr) (fp:List Addr) (s:Shared) (H:Hp),PG (za0 X (own++fvn) scope cl C fp s H) tg g∧PTs (za0 X (own++fvn) scope cl C fp s H) ifs tt∧PE (za0 X (own++fvn) scope cl C fp s H) elt te)
  (P:PIE X pins σ tg (λJ H1=>∀ D,H1 D=none →
   ∃ W:Nat->Nat->List V->St->Hp->Prop,(∃ m,W 0 m [] (zep own.length fv σ) (upd H1 D (.lst [])))∧∀ i m ys σb H,W i m ys σb H->H D=some (.lst ys) ∧
    ((J.stop i H∧Q (.ref D) H)∨(J.go i H∧∀ x H',J.yld i H x H'->g x σb H' λσ2 H2=>tt σ2 H2 λok H3=>if ok=true then te σ2 H3 λy H4=>H4 D=some (.lst ys)∧ys.length<sizeLine∧∃ m',m'<m∧W (i+1) m' (ys++[y]) σ2 (upd H4 D (.lst (ys++[y])))
     else ∃ m',m'<m∧W (i+1) m' ys σ2 H3))) itv s)
  (hRR:∀ D C s' H' m,Inv X pins σ H' s'->s'.heap.Ns C m->FpOk X pins H' C->Q (.ref D) H'->RR (.ref D) C (.ok .next) s') :
  wpAny (model X.prog X.w) X.A (newList []) (λacc s₃=>wpAny (model X.prog X.w) X.A (newFunctionEnv scope X.env.globals cl [] X.env.qual none .none (some X.env)) (λcenv s₄ =>
   codeAny (model X.prog X.w) X.A (.compStart (.ListComp elt [⟨tg,iter,ifs,0⟩] scope pos) 0 itv acc { cenv with scope:=relabel scope X.env }) (RR acc cenv.locals) s₄) E s₃) E s:=by
 obtain ⟨it,fp,tn,J,H2,rfl,I2,T,st2,f2,hW⟩:=P
 have hl:∀ b∈fp,b<s.heap.objs.size:=λb hb=>by
  obtain ⟨o,e,_⟩:=T.obj _ _ st2 b hb
  exact Heap.lt_size e
 refine wpAny_newObj_type (zcO (λh₁ hns₁ hsb₁ hcl₁=>?_))
 dsimp only at hns₁ hsb₁ hcl₁ ⊢
 generalize hH2:s.heap.push { cls:=.type "list",dict:=none,data:=.seq ([]:List Value).toArray }=G2 at hns₁ hsb₁ hcl₁ ⊢
 have hC:G2.objs.size=s.heap.objs.size+1:=by rw [← hH2,Heap.size_push]
 have hDC:s.heap.objs.size<G2.objs.size:=by rw [hC];exact Nat.lt_succ_self _
 have hCle:s.heap.objs.size≤G2.objs.size:=by rw [hC];exact Nat.le_succ _
 have old:∀ b o,s.heap.get? b=some o->h₁.get? b=some o:=λb o e=>hsb₁ b o (hH2 ▸ Heap.get?_push_of_some _ e)
 have hacc:h₁.get? s.heap.objs.size=some { cls:=.type "list",data:=.seq #[] 0 }:=hsb₁ _ _ (hH2 ▸ Heap.get?_push_size _ rfl)
 have hbc:ziR X scope (cellsFrom (G2.objs.size+1) scope.names cl) G2.objs.size:=zka B h1 h2 λx c e=>by
  obtain ⟨v,q⟩:=I2.cell x c e
  exact Nat.le_trans (Nat.le_of_lt q.lt) hCle
 have hnew:∀ x c,G2.objs.size<c->(cellsFrom (G2.objs.size+1) scope.names cl).lookup x=some c->h₁.IsCell c none:=λx c hc' e=>by
  rcases hbc.1 x c e with ⟨z,_⟩ | ⟨_,z⟩
  ·obtain ⟨v,q⟩:=I2.cell x c z
   exact absurd (Nat.lt_of_lt_of_le q.lt hCle) (Nat.not_lt.mpr (Nat.le_of_lt hc'))
  ·exact hcl₁ x c (PySem.mem_of_lookup z) e
 generalize cellsFrom (G2.objs.size+1) scope.names cl=cl' at hbc hnew ⊢
 clear h1 h2 hcl₁
 obtain ⟨W,⟨m0,w0⟩,turn⟩:=hW s.heap.objs.size (I2.hok.fresh (Nat.le_refl _))
 have J0:∀ t',Inv (za0 X (own++fvn) scope cl' G2.objs.size fp s H2) pins (zep own.length fv σ) (upd H2 s.heap.objs.size (.lst [])) { s with heap:=h₁,toks:=t' }:=λt' =>
  zfW I2 B hc hbc hnew f2 hl (Nat.le_refl _) hCle hDC old hns₁ hacc
 obtain ⟨hpg,hpt,hpe⟩:=hb cl' G2.objs.size fp s H2
 have stat:∀ {H':Hp},(∀ b∈fp,H' b=none)->∀ b∈fp,FpOk (za0 X (own++fvn) scope cl' G2.objs.size fp s H2) pins H' b:=λhn b hb =>
  ⟨hn b hb,Nat.ne_of_lt (Nat.lt_of_lt_of_le (hl b hb) hCle),λz=>by
   rcases List.mem_cons.mp (I2.stkSub b z) with q | q
   ·exact (f2 b hb).2.1 q
   ·exact (f2 b hb).2.2.1 q,.inl hb,λx c e=>(by
    rcases hbc.1 x c e with ⟨z,_⟩ | ⟨z,_⟩
    ·exact (f2 b hb).2.2.2.2.1 x c z
    ·exact Nat.ne_of_gt (Nat.lt_trans (Nat.lt_of_lt_of_le (hl b hb) hCle) z)),(f2 b hb).2.2.2.2.2⟩
 have st1:tn 0 h₁:=T.keep _ _ _ st2 λb hb o e=>old b o e
 have fr1:∀ b∈fp,upd H2 s.heap.objs.size (.lst []) b=none:=λb hb=>by
  rw [upd_ne (Nat.ne_of_lt (hl b hb))];exact (f2 b hb).1
 have loop:∀ s₃:Shared,s₃={ s with heap:=h₁ } →
   codeAny (model X.prog X.w) X.A (.compLoop (.ListComp elt [⟨tg,iter,ifs,0⟩] scope pos) 0 (.ref it) (.ref s.heap.objs.size) (compEnvC scope cl' G2.objs.size X.env)) (RR (.ref s.heap.objs.size) G2.objs.size) s₃:=by
  rintro s₃ rfl
  refine comp_loop (λn s'=>∃ i ys σ' H',Inv (za0 X (own++fvn) scope cl' G2.objs.size fp s H2) pins σ' H' s'∧tn i s'.heap∧(∀ b∈fp,H' b=none)∧W i n ys σ' H') ?_ m0 ⟨0,[],_,_,J0 s.toks,st1,fr1,w0⟩
  rintro n s3 ⟨i,ys,σ3,H3,I3,st3,fr3,w3⟩
  obtain ⟨hD,w3⟩:=turn i n ys σ3 H3 w3
  rcases w3 with ⟨stop,qn⟩ | ⟨go,step⟩
  ·refine thn (T.done (za0 X (own++fvn) scope cl' G2.objs.size fp s H2) rfl rfl rfl rfl i pins s3 σ3 H3 _ I3 (stat fr3) st3 stop) λr s4 ⟨hr,I4⟩=>?_
   subst hr
   obtain ⟨I5,fC⟩:=zg0 I2 hCle f2 I4
   obtain ⟨m,hn,_⟩:=I4.loc
   exact hRR _ _ s4 H3 m I5 hn fC qn
  ·refine thn (T.item (za0 X (own++fvn) scope cl' G2.objs.size fp s H2) rfl rfl rfl rfl i pins s3 σ3 H3 _ I3 (stat fr3) st3 go) λr s4 ⟨u,hr,h4⟩=>?_
   subst hr
   refine thn h4 λ_ s5 ⟨x,H5,I5,r5,y5,st5,fr5⟩=>?_
   have I5':=I5.pinned (stat fr5) (T.obj _ _ st5)
   refine thn (hpg _ s5 σ3 H5 x u _ I5' r5 (step x H5 y5)) λ_ s6 ⟨σ6,H6,I6,q6⟩=>?_
   refine thn (hpt _ s6 σ6 H6 _ I6 q6) λok s7 ⟨H7,I7,q7⟩=>?_
   have again:∀ {s8:Shared} {σ8:St} {H8:Hp} {ys':List V} {m':Nat},Inv (za0 X (own++fvn) scope cl' G2.objs.size fp s H2) (pins++zfj fp s5.heap) σ8 H8 s8->m'<n->W (i+1) m' ys' σ8 H8 →
     ∃ m,m<n∧∃ i ys σ' H',Inv (za0 X (own++fvn) scope cl' G2.objs.size fp s H2) pins σ' H' s8∧tn i s8.heap∧(∀ b∈fp,H' b=none)∧W i m ys σ' H':=λ{s8 σ8 H8 ys' m'} I8 hm w8=>by
    refine ⟨m',hm,i+1,ys',σ8,H8,I8.unpinned,T.keep _ _ _ st5 λb hb o e=>(I8.pin (b,o) (List.mem_append_right _ (List.mem_append_right _ (zdo hb e)))).1,λb hb=>?_,w8⟩
    obtain ⟨o,e,d⟩:=T.obj _ _ st5 b hb
    exact (I8.pin (b,o) (List.mem_append_right _ (List.mem_append_right _ (zdo hb e)))).2.1
   cases ok with
   | false =>
    rw [if_neg Bool.false_ne_true] at q7 ⊢
    obtain ⟨m',hm,w8⟩:=q7
    exact again I7 hm w8
   | true =>
    rw [if_pos rfl] at q7 ⊢
    refine thn (hpe _ s7 σ6 H7 _ I7 q7) λyv s8 ⟨y,H8,I8,r8,hD8,hz8,m',hm,w8⟩=>?_
    refine thn (mt_append _ s8 σ6 H8 (.ref s.heap.objs.size) [y] _ [yv] (λ_ H9=>H9=upd H8 s.heap.objs.size (.lst (ys++[y]))) I8 rfl (.cons r8 .nil) ⟨_,ys,y,rfl,rfl,hD8,hz8,rfl⟩) λ_ s9 ⟨_,H9,I9,_,e9⟩=>?_
    subst e9
    exact again I9 hm w8
 exact codeAny_compStart_list (loop _ rfl) (T.self _ 0 _ _ _ st1 (loop _ rfl))
theorem zeu (B:BlkScope X scope own fvn fv) (ok:X.Ok):∃ cl,closureFor scope X.env=pure cl∧(∀ x c,cl.lookup x=some c->X.env.cells.lookup x=some c)∧∀ x,(x,NameKind.free)∈scope.names->∃ c,cl.lookup x=some c :=
 zgu λx hx hk=>ok.has x.1 (B.free x hx hk)
theorem pe_comp (hc:X.calm=true) (B:BlkScope X scope own fvn fv) (hi:PI X tg iter wi)
  (hb:∀ (cl:List (Str×Addr)) (C:Addr) (fp:List Addr) (s:Shared) (H:Hp),PG (za0 X (own++fvn) scope cl C fp s H) tg g∧PTs (za0 X (own++fvn) scope cl C fp s H) ifs tt∧PE (za0 X (own++fvn) scope cl C fp s H) elt te)
  (hs:∀ x,foldedSetIterable iter X.env x=pure x:=by intro _;rfl):PE X (.ListComp elt [⟨tg,iter,ifs,0⟩] scope pos) (zh3 own.length fv wi g tt te):=by
 intro pins s σ H Q I h
 obtain ⟨cl,hcl,h1,h2⟩:=zeu B I.ok
 rw [eval_ListComp]
 refine wpAny_comprehension_free (use:=none) rfl hs hcl B.kind B.names (thn (hi pins s σ H _ I h) λv s1 q1=>thn q1 λitv s2 q2=>?_)
 refine zgg (RR:=λacc C=>compPost (model X.prog X.w) X.A X.xe none (EP X pins σ Q) acc C) hc B h1 h2 hb q2 λD C s' H' m I' hn fC q=>?_
 exact ⟨m,hn,λh' hs'=>⟨.ref D,H',I'.turned (t':=s'.toks) (λb o hb e=>(hs'.2 b hb).trans e) fC.1 fC.2.1 fC.2.2.2.1 fC.2.2.2.2.1 fC.2.2.2.2.2,rfl,q⟩⟩
theorem zeU {i:Nat} {x:Str} {pos' spos:Pos} (hc:X.calm=true) (hN:X.N.Nodup) (hix:X.N[i]?=some x) (hx:X.env.scope.names.lookup x=some .local) (B:BlkScope X scope own fvn fv) (hi:PI X tg iter wi)
  (hb:∀ (cl:List (Str×Addr)) (C:Addr) (fp:List Addr) (s:Shared) (H:Hp),PG (za0 X (own++fvn) scope cl C fp s H) tg g∧PTs (za0 X (own++fvn) scope cl C fp s H) ifs tt∧PE (za0 X (own++fvn) scope cl C fp s H) elt te)
  (hsw:swapsWith (.ListComp elt [⟨tg,iter,ifs,0⟩] scope pos) (some (.Name x pos')) spos.line X.env=pure true:=by rfl)
  (hs:∀ x,foldedSetIterable iter X.env x=pure x:=by intro _;rfl) :
  PS X (.Assign [.Name x pos'] (.ListComp elt [⟨tg,iter,ifs,0⟩] scope pos) spos) (zfm (zh3 own.length fv wi g tt te) (zbo i)):=by
 intro pins s σ H D I h
 obtain ⟨cl,hcl,h1,h2⟩:=zeu B I.ok
 rw [exec_Assign_Name_used _ _ _ _ hsw]
 refine wpAny_bind (wpAny_standAt (wpAny_bind ?_))
 show wpAny _ _ (do let _ ← comprehension (.ListComp elt [⟨tg,iter,ifs,0⟩] scope pos) scope X.env _ (newList []) false (eval iter X.env) (some (assign (.Name x pos') X.env))) _ _ s
 refine wpAny_bind (wpAny_mono (wpAny_comprehension_free (use:=some (assign (.Name x pos') X.env)) (Q:=λ_ s'=>SP X pins D .next s') rfl hs hcl B.kind B.names
  (thn (hi pins s σ H _ I h) λv s1 q1=>thn q1 λitv s2 q2=>?_)) (λ_ s' hq=>wpAny_pure (wpAny_pure hq)) λ_ _ e=>e)
 refine zgg (Q:=λv H1=>zbo i v σ H1 D.nx) (RR:=λacc C=>compPost (model X.prog X.w) X.A X.xe (some (assign (.Name x pos') X.env)) (λ_ s'=>SP X pins D .next s') acc C) hc B h1 h2 hb q2 λDa C s' H' m I' hn fC q=>?_
 show wpAny _ _ (assign (.Name x pos') X.env (.ref Da)) _ _ _
 refine wpAny_assign_Name (zfK I' hN hix (.inl hx) (v:=.ref Da) rfl (λs'' I'' ⟨a,hsb,ha⟩=>?_) (.inr hx))
 have hCa:C≠a:=by
  rcases ha with z | z
  ·rw [z];exact fC.2.1
  ·exact Ne.symm (fC.2.2.2.2.1 x a z)
 refine ⟨m,hn.sameBut hsb hCa,λh'' hs''=>⟨_,H',I''.turned (t':=s''.toks) (λb o hb e=>(hs''.2 b hb).trans e) fC.1 fC.2.1 fC.2.2.2.1 fC.2.2.2.2.1 fC.2.2.2.2.2,q⟩⟩
end
end L2
namespace L2
open PySem PySem.Spec PyProof.Rows
section
variable {X:Cx} {pins:List (Addr×Obj)} {σ:St} {H:Hp} {s:Shared} {h':Heap}
theorem Inv.turnedNew {t':Nat} {ch:List Addr} {T:Addr} {o:HO} (I:Inv X pins σ H s) (hf:∀ b∈ch,FpOk X pins H b) (k:∀ b u,b ∉ ch->s.heap.get? b=some u->h'.get? b=some u) (hT:s.heap.objs.size≤T)
  (new:zcf X.prog X.w (upd H T o) h' T o):Inv X pins σ (upd H T o) { s with heap:=h',toks:=t' }:=by
 have hn:H T=none:=I.hok.fresh hT
 have lt:∀ b u,s.heap.get? b=some u->b≠T:=λb u e=>Nat.ne_of_lt (Nat.lt_of_lt_of_le (Heap.lt_size e) hT)
 refine I.step (g':=s.gens) (d':=s.drawn) (ch:=ch) (λb hb=>⟨(hf b hb).2.2.2.1,(hf b hb).2.1,(hf b hb).2.2.2.2.1,(hf b hb).2.2.2.2.2⟩) (λb u _ _ hc e _=>k b u hc e) (λb u _ _ hc e _=>⟨u.slots,k b u hc e⟩)
  (λb u _ e n=>by rw [upd_ne (lt b u e)];exact n) (λb u hc e=>⟨u,k b u hc e⟩) (λb xs e=>by rw [upd_ne (ne_of_none e hn)];exact e) (λb u xs e=>by rw [upd_ne (ne_of_none e hn)];exact e)
  (λb ps e=>⟨#[],by rw [upd_ne (ne_of_none e hn),e];simp⟩) (λm hm=>?_) (λb u e=>?_) I.bare
 ·obtain ⟨o,es,ep,ho,r⟩:=hm
  exact ⟨o,es,ep,k _ o (λz=>(hf _ z).2.1 rfl) ho,r⟩
 ·by_cases hb:b=T
  ·subst hb;rw [upd_same] at e;cases e;exact new
  ·rw [upd_ne hb] at e
   refine (I.hok b u e).stay (λc v hc q=>k c v (λz=>?_) q) (λc q=>by rw [upd_ne (ne_of_none q hn)];exact q) λc xs q=>by rw [upd_ne (ne_of_none q hn)];exact q
   have z':=(hf c z).1
   rcases hc with hc | hc
   ·rw [hc,e] at z';cases z'
   ·rw [hc] at z';cases z'
theorem Inv.turnedL {t':Nat} {ch:List Addr} (I:Inv X pins σ H s) (hf:∀ b∈ch,FpOk X pins H b) (k:∀ b u,b ∉ ch->s.heap.get? b=some u->h'.get? b=some u):Inv X pins σ H { s with heap:=h',toks:=t' }:=by
 refine I.step (g':=s.gens) (d':=s.drawn) (ch:=ch) (λb hb=>⟨(hf b hb).2.2.2.1,(hf b hb).2.1,(hf b hb).2.2.2.2.1,(hf b hb).2.2.2.2.2⟩) (λb u _ _ hc e _=>k b u hc e) (λb u _ _ hc e _=>⟨u.slots,k b u hc e⟩)
  (λb u _ e n=>n) (λb u hc e=>⟨u,k b u hc e⟩) (λb xs e=>e) (λb u xs e=>e) (λb ps e=>⟨#[],by rw [e];simp⟩) (λm hm=>?_) (λb u e=>?_) I.bare
 ·obtain ⟨o,es,ep,ho,r⟩:=hm
  exact ⟨o,es,ep,k _ o (λz=>(hf _ z).2.1 rfl) ho,r⟩
 ·refine (I.hok b u e).stay (λc v hc q=>k c v (λz=>?_) q) (λc q=>q) λc xs q=>q
  have z':=(hf c z).1
  rcases hc with hc | hc
  ·rw [hc,e] at z';cases z'
  ·rw [hc] at z';cases z'
end
def Itz (K:W.Frag) (a b:Addr):It :=
 ⟨λi H=>∃ xs ys x y,SqL K H a xs∧SqL K H b ys∧xs[i]?=some x∧ys[i]?=some y,
  λi H v H'=>∃ p x y,v=.ref p∧H p=none∧H'=upd H p (.tup [x,y])∧∀ xs ys,SqL K H a xs->SqL K H b ys->xs[i]?=some x∧ys[i]?=some y,
  λi H=>∃ xs ys,SqL K H a xs∧SqL K H b ys∧(xs.length≤i∨ys.length≤i)⟩
theorem ziS {P:Program} {w:World} {K:W.Frag} {elts:List Expr} {x1:Nat} {tp:Pos} {a b z TI TO i1 i2:Addr} (D:ZipApart z TI TO i1 i2 a b) :
  Turn P w K (.Tuple elts x1 tp) (Itz K a b) [z,TI,TO,i1,i2] z
   (λi h=>IsZip h z TI TO .none∧IsPair h TI (.ref i1) (.ref i2)∧(∃ p q,IsPair h TO p q)∧h.IsListIter i1 a i∧h.IsListIter i2 b i) where
 mem:=by simp
 obj:=λi h st c hc=>by
  obtain ⟨hz,hTI,⟨p,q,hTO⟩,⟨o1,e1,_,d1⟩,⟨o2,e2,_,d2⟩⟩:=st
  simp only [List.mem_cons,List.not_mem_nil,or_false] at hc
  rcases hc with rfl | rfl | rfl | rfl | rfl
  ·exact ⟨_,hz,λv z=>by cases z⟩
  ·exact ⟨_,hTI,λv z=>by cases z⟩
  ·exact ⟨_,hTO,λv z=>by cases z⟩
  ·exact ⟨o1,e1,λv z=>by rw [d1] at z;cases z⟩
  ·exact ⟨o2,e2,λv z=>by rw [d2] at z;cases z⟩
 keep:=λi h h' st k=>by
  obtain ⟨hz,hTI,⟨p,q,hTO⟩,h1,h2⟩:=st
  exact ⟨k z (by simp) _ hz,k TI (by simp) _ hTI,⟨p,q,k TO (by simp) _ hTO⟩,h1.at λo e=>k i1 (by simp) o e,h2.at λo e=>k i2 (by simp) o e⟩
 item:=by
  intro X hP hw hK hc i pins s σ H E I hf st hg
  subst hP hw hK
  obtain ⟨xs,ys,x,y,hxs,hys,hx,hy⟩:=hg
  obtain ⟨itx,rx,px,hzx⟩:=I.list hxs
  obtain ⟨ity,ry,py,hzy⟩:=I.list hys
  obtain ⟨u,hu,ru⟩:=rx.get hx
  obtain ⟨v,hv,rv⟩:=ry.get hy
  obtain ⟨hz,hTI,⟨p,q,hTO⟩,h1,h2⟩:=st
  refine wpAny_pyNext_zip_item (x:=u) (y:=v) D hz hTI hTO h1 h2 px.isList py.isList (by simpa using hu) (by simpa using hv) λh' a1 a2 a3 a4 a5 a6 hk=>?_
  refine ⟨_,rfl,wpAny_letOwnedTupleGo_zip a1 λh'' b1 b2=>?_⟩
  have zlt:z<s.heap.objs.size:=Heap.lt_size hz
  have lt:∀ c∈[z,TI,TO,i1,i2],c<s.heap.objs.size:=λc hc=>by
   simp only [List.mem_cons,List.not_mem_nil,or_false] at hc
   rcases hc with rfl | rfl | rfl | rfl | rfl
   ·exact zlt
   ·exact Heap.lt_size hTI
   ·exact Heap.lt_size hTO
   ·obtain ⟨_,e,_⟩:=h1;exact Heap.lt_size e
   ·obtain ⟨_,e,_⟩:=h2;exact Heap.lt_size e
  have tup:IsPair h'' s.heap.objs.size u v:=b2.extBut _ _ (Nat.ne_of_gt zlt) a5
  have I1:Inv X pins σ (upd H s.heap.objs.size (.tup [x,y])) { s with heap:=h'' }:=by
   refine I.turnedNew (t':=s.toks) (ch:=[z,TO,i1,i2]) (λc hc=>hf c ?_) (λc ob hc e=>?_) (Nat.le_refl _) ?_
   ·simp only [List.mem_cons,List.not_mem_nil,or_false] at hc ⊢
    rcases hc with z | z | z | z<;>simp [z]
   ·simp only [List.mem_cons,List.not_mem_nil,or_false,not_or] at hc
    exact b2.extBut _ _ hc.1 (hk c ob hc.1 hc.2.1 hc.2.2.1 hc.2.2.2 e)
   ·exact ⟨by show 2≤sizeLine;decide,[u,v],.cons ru (.cons rv .nil),⟨_,tup,rfl,_,rfl⟩⟩
  refine ⟨.ref s.heap.objs.size,_,I1,rfl,⟨_,x,y,rfl,I.hok.fresh (Nat.le_refl _),rfl,λxs' ys' q1 q2=>?_⟩,⟨b1,?_,⟨_,_,b2.extBut _ _ D.TOz a2⟩,a3.extBut b2.extBut D.i1z,a4.extBut b2.extBut D.i2z⟩,λc hc=>?_⟩
  ·rw [I.list_inj q1 hxs,I.list_inj q2 hys];exact ⟨hx,hy⟩
  ·exact b2.extBut _ _ D.TIz (hk _ _ D.TIz D.TITO D.TIi1 D.TIi2 hTI)
  ·rw [upd_ne (Nat.ne_of_lt (lt c hc))];exact (hf c hc).1
 done:=by
  intro X hP hw hK hc i pins s σ H E I hf st hg
  subst hP hw hK
  obtain ⟨xs,ys,hxs,hys,hend⟩:=hg
  obtain ⟨itx,rx,px,hzx⟩:=I.list hxs
  obtain ⟨ity,ry,py,hzy⟩:=I.list hys
  obtain ⟨hz,hTI,⟨p,q,hTO⟩,h1,h2⟩:=st
  have lx:=rx.length
  have ly:=ry.length
  refine wpAny_pyNext_zip_end (I.ok.hd hc) D hz hTI hTO h1 h2 px.isList py.isList ?_ λh' hk=>⟨rfl,?_⟩
  ·rcases hend with e | e
   ·exact .inl (by simp;omega)
   ·exact .inr (by simp;omega)
  ·refine I.turnedL (t':=s.toks) (ch:=[z,TO,i1,i2]) (λc hc=>hf c ?_) (λc ob hc e=>?_)
   ·simp only [List.mem_cons,List.not_mem_nil,or_false] at hc ⊢
    rcases hc with z | z | z | z<;>simp [z]
   ·simp only [List.mem_cons,List.not_mem_nil,or_false,not_or] at hc
    exact hk c ob hc.1 hc.2.1 hc.2.2.1 hc.2.2.2 e
 self:=λ_ _ _ _ _ st h=>wpAny_pyIter_zip st.1 h
section
variable {X:Cx}
def zlV (K:W.Frag) (ta:TA):TI:=λσ H R=>ta σ H λvs H1=>∃ a b,vs=[.ref a,.ref b]∧(∃ xs,SqL K H1 a xs)∧(∃ ys,SqL K H1 b ys)∧R (Itz K a b) H1
theorem zko {a b:Expr} {ta:TA} {p pos tp:Pos} {elts:List Expr} {x1:Nat} (hg:Gl X "zip") (hm:X.mg "zip"=none) (ha:PA X [a,b] ta) (hs:starEach [a,b] X.env=[(false,eval a X.env),(false,eval b X.env)]:=by rfl) (hs2:starEach [b] X.env=[(false,eval b X.env)]:=by rfl) :
  PI X (.Tuple elts x1 tp) (.Call (.Name "zip" p) [a,b] [] pos) (zlV X.K ta):=by
 intro pins s σ H R I h
 refine Call_ (ld_blt I hg hm boot_zip (PyProof.Rows.callWith_type1 (thn (ha pos pins s σ H _ I h) λus s1 ⟨vs,H1,I1,r1,q1⟩=>?_) (by rw [hs,hs2]) (by rw [hs2];rfl)))
 obtain ⟨l1,l2,e,⟨xs,hx⟩,⟨ys,hy⟩,q⟩:=q1
 subst e
 cases r1 with
 | cons r rr =>
  cases rr with
  | cons r' rr =>
   cases rr
   cases r
   cases r'
   obtain ⟨itx,rx,px,hzx⟩:=I1.list hx
   obtain ⟨ity,ry,py,hzy⟩:=I1.list hy
   have lt1:@LT.lt Nat _ l1 s1.heap.objs.size:=by obtain ⟨o,e,_⟩:=px.isList;exact Heap.lt_size e
   have lt2:@LT.lt Nat _ l2 s1.heap.objs.size:=by obtain ⟨o,e,_⟩:=py.isList;exact Heap.lt_size e
   refine call_zip_2 px.isList py.isList λh' hz hTI hTO h1 h2 hsz hk=>?_
   refine wpAny_pyIter_zip hz ?_
   have D:ZipApart (s1.heap.objs.size+4) (s1.heap.objs.size+2) (s1.heap.objs.size+3) s1.heap.objs.size (s1.heap.objs.size+1) l1 l2:=by
    constructor<;>(show @Ne Nat _ _;omega)
   refine ⟨s1.heap.objs.size+4,[s1.heap.objs.size+4,s1.heap.objs.size+2,s1.heap.objs.size+3,s1.heap.objs.size,s1.heap.objs.size+1],_,Itz X.K l1 l2,H1,rfl,I1.kept (t':=s1.toks) hk,ziS D,⟨hz,hTI,⟨_,_,hTO⟩,h1,h2⟩,λc hc=>?_,q⟩
   have hle:@LE.le Nat _ s1.heap.objs.size c:=by
    simp only [List.mem_cons,List.not_mem_nil,or_false] at hc
    rcases hc with rfl | rfl | rfl | rfl | rfl<;>omega
   exact I1.fpOk hle (I1.hok.fresh hle)
end
theorem preSum_list:∀ (ns:List Int) (k:Nat),k≤ns.length->preSum (λi=>(ns[i]?).getD 0) k=(ns.take k).sum
 | _,0,_=>by simp [preSum]
 | ns,k+1,h=>by
  have ih:=preSum_list ns k (by omega)
  have hk:k<ns.length:=by omega
  have e1:preSum (λi=>(ns[i]?).getD 0) (k+1)=preSum (λi=>(ns[i]?).getD 0) k+(ns[k]?).getD 0:=rfl
  have e2:ns.take (k+1)=ns.take k++[ns[k]]:=by rw [List.take_add_one,List.getElem?_eq_getElem hk];rfl
  rw [e1,ih,e2,List.sum_append,List.getElem?_eq_getElem hk]
  simp
section
variable {X:Cx}
theorem zh2 (hc:X.calm=true):zdJ X (.builtin "sum") (λxs H Q=>∃ (a:Addr) (ns:List Int),xs=[.ref a]∧SqL X.K H a (ns.map V.int)∧Q (.int ns.sum) H):=by
 intro pins s σ H xs us Q I r h
 obtain ⟨a,ns,rfl,hq,q⟩:=h
 obtain ⟨u,rfl,rx⟩:=zhS r
 cases rx
 obtain ⟨its,rv,p,hz⟩:=I.list hq
 have hl:=rv.length
 rw [List.length_map] at hl
 have alt:a<s.heap.objs.size:=by obtain ⟨o,e,_⟩:=p.isList;exact Heap.lt_size e
 have hl1:(s.heap.push { cls:=.type "list_iterator",data:=.fields #[.ref a,.int 0 0] }).IsList a its.toArray:=Heap.IsList.push p.isList _
 refine call_sum_walkG (wpAny_pyIter_list p.isList ?_)
 refine ⟨s.heap.objs.size,[s.heap.objs.size,a],[s.heap.objs.size],its.toArray.size,_,_,λi=>(ns[i]?).getD 0,rfl,Walks.list (A:=X.A.in1) (I.ok.hd hc) s.heap.objs.size a (Nat.ne_of_lt alt) its.toArray,⟨⟨_,Heap.get?_push_size _ rfl,rfl,rfl⟩,hl1⟩,λb hb=>?_,λi v hv=>?_,λh' tk t' hk=>?_⟩
 ·show b<(s.heap.push _).objs.size
  rw [Heap.size_push]
  simp only [List.mem_cons,List.not_mem_nil,or_false] at hb
  rcases hb with rfl | rfl
  ·exact Nat.lt_succ_self _
  ·exact Nat.lt_succ_of_lt alt
 ·have hv':its[i]?=some v:=by simpa using hv
  have hi:i<its.length:=(List.getElem?_eq_some_iff.mp hv').1
  obtain ⟨u,hu,ru⟩:=rv.get (i:=i) (x:=.int (ns[i]'(by omega))) (by rw [List.getElem?_map,List.getElem?_eq_getElem (by omega)];rfl)
  rw [hv'] at hu
  cases hu
  obtain ⟨t,rfl⟩:=ru
  have e:(ns[i]?).getD 0=ns[i]'(by omega):=by rw [List.getElem?_eq_getElem (show i<ns.length by omega)];rfl
  exact ⟨t,congrArg (λz=>Value.int z t) e.symm⟩
 ·have e:preSum (λi=>(ns[i]?).getD 0) its.toArray.size=ns.sum:=by
   rw [List.size_toArray,← hl,preSum_list ns _ (Nat.le_refl _),List.take_length]
  rw [e]
  exact ⟨.int ns.sum,H,I.kept (h':=h') (t':=tk) λb o e=>hk b o (by simp only [List.mem_singleton];exact Nat.ne_of_lt (Heap.lt_size e)) (Heap.get?_push_of_some _ e),⟨t',rfl⟩,q⟩
def zlT (K:W.Frag):List V->Hp->VK->Prop:=λxs H Q=>∃ x t b,((∃ n,xs=[x,.ty n]∧W.kitOne K t (.type n)=some b)∨(∃ C,xs=[x,.ref C]∧W.kitOne K t (.ref C)=some b))∧TyOf K H x t∧Q (.bl b) H
theorem zit:zdJ X (.builtin "isinstance") (zlT X.K):=by
 intro pins s σ H xs us Q I r h
 obtain ⟨x,t,b,hx,ty,q⟩:=h
 rcases hx with ⟨n,rfl,e⟩ | ⟨C,rfl,e⟩
 ·obtain ⟨u,w',rfl,rx,ry⟩:=ziA r
  cases ry
  exact isinst_ok I rx ty e λtk=>⟨.bl b,H,I.tok _,rfl,q⟩
 ·obtain ⟨u,w',rfl,rx,ry⟩:=ziA r
  cases ry
  exact isinst_ok I rx ty e λtk=>⟨.bl b,H,I.tok _,rfl,q⟩
end
theorem kit_int_bool (K:W.Frag):W.kitOne K (.type "int") (.type "bool")=some false:=by with_unfolding_all rfl
inductive EqV (K:W.Frag) (H:Hp):Nat->V->V->Bool->Prop where
 | flat {n:Nat} {x y:V} (fx:ziV x=true) (fy:ziV y=true):EqV K H n x y (eqV x y)
 | same {n:Nat} {a:Addr}:EqV K H n (.ref a) (.ref a) true
 | lists {n:Nat} {a b:Addr} {xs ys:List V} {e:Nat->Bool} (ne:a≠b) (ha:SqL K H a xs) (hb:SqL K H b ys) (hl:xs.length=ys.length)
   (he:∀ (j:Nat) (x y:V),xs[j]?=some x->ys[j]?=some y->EqV K H n x y (e j)):EqV K H (n+1) (.ref a) (.ref b) ((List.range xs.length).all e)
 | lens {n:Nat} {a b:Addr} {xs ys:List V} (ne:a≠b) (ha:SqL K H a xs) (hb:SqL K H b ys) (hl:xs.length≠ys.length):EqV K H (n+1) (.ref a) (.ref b) false
theorem EqV.at {X:Cx} {pins:List (Addr×Obj)} {σ:St} {H:Hp} {s:Shared} (I:Inv X pins σ H s) {n:Nat} {x y:V} {k:Bool} (h:EqV X.K H n x y k) :
  ∀ {A:Around} {u v:Value},RelV x u->RelV y v->A.units+n<cLine->SeqAt.EqAt A s u v k:=by
 induction h with
 | flat fx fy=>intro A u v rx ry _;exact eqAt_V rx ry fx fy
 | same=>intro A u v rx ry _;cases rx;cases ry;exact SeqAt.EqAt.same _
 | @lists n a b xs ys e ne ha hb hl he ih =>
  intro A u v rx ry hu
  cases rx
  cases ry
  obtain ⟨ita,ra,pa,za⟩:=I.list ha
  obtain ⟨itb,rb,pb,zb⟩:=I.list hb
  have la:=ra.length
  have lb:=rb.length
  have q:=SeqAt.RcAt.lists (A:=A) (e:=e) pa.isList pb.isList (by simp;omega) (by omega) λj h1 h2=>?_
  ·rw [List.size_toArray,← la] at q
   exact SeqAt.EqAt.of_refs ne q
  ·have h1':j<ita.length:=by simpa using h1
   have h2':j<itb.length:=by simpa using h2
   obtain ⟨u',hu',ru⟩:=ra.get (i:=j) (x:=xs[j]'(by omega)) (List.getElem?_eq_getElem (by omega))
   obtain ⟨v',hv',rv⟩:=rb.get (i:=j) (x:=ys[j]'(by omega)) (List.getElem?_eq_getElem (by omega))
   have eu:ita.toArray[j]=u':=by
    rw [List.getElem?_eq_getElem h1'] at hu'
    simpa using hu'
   have ev:itb.toArray[j]=v':=by
    rw [List.getElem?_eq_getElem h2'] at hv'
    simpa using hv'
   rw [eu,ev]
   exact ih j _ _ (List.getElem?_eq_getElem (by omega)) (List.getElem?_eq_getElem (by omega)) ru rv (by show A.units+1+n<cLine;omega)
 | @lens n a b xs ys ne ha hb hl =>
  intro A u v rx ry hu
  cases rx
  cases ry
  obtain ⟨ita,ra,pa,za⟩:=I.list ha
  obtain ⟨itb,rb,pb,zb⟩:=I.list hb
  have la:=ra.length
  have lb:=rb.length
  exact SeqAt.EqAt.of_refs ne (SeqAt.RcAt.lists_lengths pa.isList pb.isList (by simp;omega) (by omega))
def rEqL (K:W.Frag) (neg:Bool):R2:=λx y H Q=>∃ a b n xs ys,x=.ref a∧y=.ref b∧SqL K H a xs∧SqL K H b ys∧n≤50 ∧
 ((xs.length≠ys.length∧Q (.bl neg) H)∨∃ e:Nat->Bool,xs.length=ys.length∧(∀ (j:Nat) (x y:V),xs[j]?=some x->ys[j]?=some y->EqV K H n x y (e j))∧Q (.bl (if neg then !(List.range xs.length).all e else (List.range xs.length).all e)) H)
section
variable {X:Cx}
theorem zhN {pins:List (Addr×Obj)} {σ:St} {H:Hp} {s:Shared} (I:Inv X pins σ H s) {n:Nat} {xs ys:List V} {ita itb:List Value} {e:Nat->Bool} (ra:Vals xs ita) (rb:Vals ys itb) (he:∀ (j:Nat) (x y:V),xs[j]?=some x->ys[j]?=some y->EqV X.K H n x y (e j))
  {A:Around} (hu:A.units+1+n<cLine):∀ j (h1:j<ita.toArray.size) (h2:j<itb.toArray.size),SeqAt.EqAt A.in1 s ita.toArray[j] itb.toArray[j] (e j):=λj h1 h2=>by
 have la:=ra.length
 have lb:=rb.length
 have h1':j<ita.length:=by simpa using h1
 have h2':j<itb.length:=by simpa using h2
 obtain ⟨u',hu',ru⟩:=ra.get (i:=j) (x:=xs[j]'(by omega)) (List.getElem?_eq_getElem (by omega))
 obtain ⟨v',hv',rv⟩:=rb.get (i:=j) (x:=ys[j]'(by omega)) (List.getElem?_eq_getElem (by omega))
 have eu:ita.toArray[j]=u':=by
  rw [List.getElem?_eq_getElem h1'] at hu'
  simpa using hu'
 have ev:itb.toArray[j]=v':=by
  rw [List.getElem?_eq_getElem h2'] at hv'
  simpa using hv'
 rw [eu,ev]
 exact (he j _ _ (List.getElem?_eq_getElem (by omega)) (List.getElem?_eq_getElem (by omega))).at I ru rv hu
theorem zli (hu:X.A.units+64<cLine):OpR X (compareOp .Eq) (rEqL X.K false):=by
 intro pins s σ H x y v u Q I rx ry h
 obtain ⟨a,b,n,xs,ys,rfl,rfl,ha,hb,hn,h⟩:=h
 cases rx
 cases ry
 obtain ⟨ita,ra,pa,za⟩:=I.list ha
 obtain ⟨itb,rb,pb,zb⟩:=I.list hb
 have la:=ra.length
 have lb:=rb.length
 rcases h with ⟨hl,q⟩ | ⟨e,hl,he,q⟩
 ·exact SeqAt.eq_list_lengthsAt pa.isList pb.isList (by simp;omega) (by omega) ⟨.bl false,H,I,rfl,q⟩
 ·refine SeqAt.eq_listAt (e:=e) pa.isList pb.isList (by simp;omega) (by omega) (zhN I ra rb he (by omega)) ?_
  rw [List.size_toArray,← la]
  exact ⟨.bl _,H,I,rfl,q⟩
end
theorem all_eq {α:Type} [DecidableEq α] {xs ys:List α} (h:xs.length=ys.length):(List.range xs.length).all (λj=>decide (xs[j]?=ys[j]?))=decide (xs=ys):=by
 rw [Bool.eq_iff_iff,List.all_eq_true,decide_eq_true_iff]
 constructor
 ·intro z
  refine List.ext_getElem? λi=>?_
  by_cases hi:i<xs.length
  ·exact of_decide_eq_true (z i (List.mem_range.mpr hi))
  ·rw [List.getElem?_eq_none (by omega),List.getElem?_eq_none (by omega)]
 ·rintro rfl i _
  exact decide_eq_true rfl
theorem rEqL.ints {K:W.Frag} {neg:Bool} {H:Hp} {Q:VK} {a b:Addr} {ns ms:List Int} (ha:SqL K H a (ns.map V.int)) (hb:SqL K H b (ms.map V.int)) (q:Q (.bl (if neg then !decide (ns=ms) else decide (ns=ms))) H) :
  rEqL K neg (.ref a) (.ref b) H Q:=by
 refine ⟨a,b,0,_,_,rfl,rfl,ha,hb,by omega,?_⟩
 by_cases hl:ns.length=ms.length
 ·refine .inr ⟨λj=>decide (ns[j]?=ms[j]?),by simp [hl],λj x y hx hy=>?_,?_⟩
  ·rw [List.getElem?_map] at hx hy
   cases e1:ns[j]? with
   | none=>rw [e1] at hx;cases hx
   | some i =>
    cases e2:ms[j]? with
    | none=>rw [e2] at hy;cases hy
    | some k =>
     rw [e1] at hx
     rw [e2] at hy
     cases hx
     cases hy
     have q:=EqV.flat (K:=K) (H:=H) (n:=0) (x:=.int i) (y:=.int k) rfl rfl
     have e:eqV (.int i) (.int k)=decide (some i=some k):=by
      show (i == k)=_
      rw [Bool.beq_eq_decide_eq]
      simp
     rw [e] at q
     show EqV K H 0 (V.int i) (V.int k) (decide (ns[j]?=ms[j]?))
     rw [e1,e2]
     exact q
  ·rw [List.length_map,all_eq hl]
   exact q
 ·refine .inl ⟨by simpa using hl,?_⟩
  have e:decide (ns=ms)=false:=decide_eq_false (λz=>hl (by rw [z]))
  rw [e] at q
  cases neg<;>exact q
def Rows (K:W.Frag) (H:Hp) (a:Addr) (xss:List (List Int)):Prop :=
 ∃ as:List Addr,SqL K H a (as.map V.ref)∧as.length=xss.length∧∀ (j:Nat) (p:Addr) (ns:List Int),as[j]?=some p->xss[j]?=some ns->H p=some (.lst (ns.map V.int))
theorem zfQ {ns ms:List Int} (h:ns.map V.int=ms.map V.int):ns=ms:=by
 induction ns generalizing ms with
 | nil=>cases ms with
  | nil=>rfl
  | cons _ _=>cases h
 | cons x r ih=>cases ms with
  | nil=>cases h
  | cons y s =>
   injection h with h1 h2
   injection h1 with h1
   rw [h1,ih h2]
theorem EqV.ints {K:W.Frag} {H:Hp} {n:Nat} {a b:Addr} {ns ms:List Int} (ha:H a=some (.lst (ns.map V.int))) (hb:H b=some (.lst (ms.map V.int))):EqV K H (n+1) (.ref a) (.ref b) (decide (ns=ms)):=by
 by_cases hab:a=b
 ·subst hab
  rw [ha] at hb
  have e:ns=ms:=zfQ (by injection hb with hb;injection hb)
  rw [decide_eq_true e]
  exact .same
 ·by_cases hl:ns.length=ms.length
  ·have q:=EqV.lists (K:=K) (H:=H) (n:=n) (e:=λj=>decide (ns[j]?=ms[j]?)) hab (SqL.of ha) (SqL.of hb) (by simp [hl]) λj x y hx hy=>?_
   ·rw [List.length_map,all_eq hl] at q
    exact q
   ·rw [List.getElem?_map] at hx hy
    cases e1:ns[j]? with
    | none=>rw [e1] at hx;cases hx
    | some i =>
     cases e2:ms[j]? with
     | none=>rw [e2] at hy;cases hy
     | some k =>
      rw [e1] at hx
      rw [e2] at hy
      cases hx
      cases hy
      have q:=EqV.flat (K:=K) (H:=H) (n:=n) (x:=.int i) (y:=.int k) rfl rfl
      have e:eqV (.int i) (.int k)=decide (some i=some k):=by
       show (i == k)=_
       rw [Bool.beq_eq_decide_eq]
       simp
      rw [e] at q
      exact q
  ·rw [decide_eq_false (λz=>hl (by rw [z]))]
   exact .lens hab (SqL.of ha) (SqL.of hb) (by simpa using hl)
theorem rEqL.rows {K:W.Frag} {neg:Bool} {H:Hp} {Q:VK} {a b:Addr} {xss yss:List (List Int)} (ha:Rows K H a xss) (hb:Rows K H b yss) (q:Q (.bl (if neg then !decide (xss=yss) else decide (xss=yss))) H) :
  rEqL K neg (.ref a) (.ref b) H Q:=by
 obtain ⟨as,hsa,hla,hra⟩:=ha
 obtain ⟨bs,hsb,hlb,hrb⟩:=hb
 refine ⟨a,b,1,_,_,rfl,rfl,hsa,hsb,by omega,?_⟩
 by_cases hl:xss.length=yss.length
 ·refine .inr ⟨λj=>decide (xss[j]?=yss[j]?),by simp;omega,λj x y hx hy=>?_,?_⟩
  ·rw [List.getElem?_map] at hx hy
   cases e1:as[j]? with
   | none=>rw [e1] at hx;cases hx
   | some p =>
    cases e2:bs[j]? with
    | none=>rw [e2] at hy;cases hy
    | some p2 =>
     rw [e1] at hx
     rw [e2] at hy
     cases hx
     cases hy
     have h1:j<xss.length:=by have:=(List.getElem?_eq_some_iff.mp e1).1;omega
     have h2:j<yss.length:=by omega
     have q:=EqV.ints (K:=K) (n:=0) (hra j p _ e1 (List.getElem?_eq_getElem h1)) (hrb j p2 _ e2 (List.getElem?_eq_getElem h2))
     show EqV K H 1 (V.ref p) (V.ref p2) (decide (xss[j]?=yss[j]?))
     rw [List.getElem?_eq_getElem h1,List.getElem?_eq_getElem h2]
     have e:decide (xss[j]=yss[j])=decide (some xss[j]=some yss[j]):=by simp
     rw [e] at q
     exact q
  ·rw [List.length_map,hla,all_eq hl]
   exact q
 ·refine .inl ⟨by simp;omega,?_⟩
  have e:decide (xss=yss)=false:=decide_eq_false (λz=>hl (by rw [z]))
  rw [e] at q
  cases neg<;>exact q
section
variable {X:Cx}
theorem zi9 {n k m:Nat} (h:n<2^k) (hk:k≤m) (hm:0<m):n.log2<m:=by
 by_cases hn:n=0
 ·subst hn
  exact Nat.lt_of_le_of_lt (by decide:Nat.log2 0≤0) hm
 ·exact Nat.lt_of_lt_of_le ((Nat.log2_lt hn).mpr h) hk
theorem zhq {i:Int} {k:Nat} (h:i.natAbs.log2<k):Builtin.Int.intBits i≤k:=by
 unfold Builtin.Int.intBits
 split
 ·exact Nat.zero_le _
 ·omega
def zlM (i j:Int):Prop:=0<j∧j.natAbs.log2<9000
theorem zcl:OpR X (binaryOp .FloorDiv) (rI zlM λi j=>.int (i/j)):=opI λi j _ _ _ _ _ hc q=>by
 have hj:j≠0:=by have:=hc.1;omega
 have e:i.fdiv j=i/j:=Int.fdiv_eq_ediv_of_nonneg _ (by have:=hc.1;omega)
 exact floordiv_int hj (by rw [e];exact q) (.inl (PyProof.noPylong_of_log2 hc.2))
end
end L2
namespace L2
open PySem PySem.Spec PyProof.Rows
def zi6 (scope osc:Scope) (N own fvn:List Str) (fv:List Nat):Bool :=
 (scope.names.all λy=>y.2 != .cell||scope.names.lookup y.1 == some .cell)&&(scope.names.all λy=>y.2 != .free||scope.names.lookup y.1 == some .free)&&(scope.kind == .function)&&(scope.names.all λy=>y.2 != .local||scope.names.lookup y.1 == some .local) &&
 (scope.names.all λy=>y.2 != .free||osc.names.lookup y.1 == some .cell||osc.names.lookup y.1 == some .free)&&(fvn.map some == fv.map λi=>N[i]?)&&(fvn.all λx=>scope.names.lookup x == some .free)
theorem BlkScope.of {X:Cx} {scope osc:Scope} {N own fvn:List Str} {fv:List Nat} (hX:X.env.scope=osc) (hN:X.N=N) (h:zi6 scope osc N own fvn fv=true):BlkScope X scope own fvn fv:=by
 subst hX hN
 unfold zi6 at h
 simp only [Bool.and_eq_true,List.all_eq_true,bne_iff_ne,beq_iff_eq,Bool.or_eq_true] at h
 obtain ⟨⟨⟨⟨⟨⟨h1,h1'⟩,h2⟩,h3⟩,h4⟩,h5⟩,h6⟩:=h
 refine ⟨λy hy e=>?_,λy hy e=>?_,h2,λy hy e=>?_,λy hy e=>?_,h5,h6⟩
 ·rcases h1 y hy with z | z
  ·exact absurd e z
  ·exact z
 ·rcases h1' y hy with z | z
  ·exact absurd e z
  ·exact z
 ·rcases h3 y hy with z | z
  ·exact absurd e z
  ·exact z
 ·rcases h4 y hy with (z | z) | z
  ·exact absurd e z
  ·exact .inl z
  ·exact .inr z
theorem Same.new {H:Hp} {p:Addr} (h:H p=none) (o:HO):Same H (upd H p o):=λb u q=>by rw [upd_ne (ne_of_none q h)];exact q
theorem Same.tup {K:W.Frag} {H H':Hp} {a:Addr} {xs:List V} (e:Same H H') (h:SqT K H a xs):SqT K H' a xs:=by
 rcases h with (h | ⟨o,h⟩) | h
 ·exact .inl (.inl (e _ _ h))
 ·exact .inl (.inr ⟨o,e _ _ h⟩)
 ·exact .inr h
theorem Same.rows {K:W.Frag} {H H':Hp} {a:Addr} {xss:List (List Int)} (e:Same H H') (h:Rows K H a xss):Rows K H' a xss:=by
 obtain ⟨as,h1,h2,h3⟩:=h
 exact ⟨as,e.seq h1,h2,λj p ns q1 q2=>e _ _ (h3 j p ns q1 q2)⟩
structure Callee (P:Program) (w:World) (K:W.Frag) (mg:Str->Option Value) (base:Heap) (CX:CXT) (k:Nat) (x:Str) (ps:List Str) (sp:Sp):Prop where
 ex:∃ f fd,FnOk P w K mg base CX k f fd ps sp∧mg x=some (.ref f)∧W.keepIn K (.ref f)=true∧zdB K fd ps []
section
variable {X:Cx} {CX:CXT} {k:Nat} {ps:List Str} {sp:Sp} {E:XK} {x:Str} {p pos:Pos} {e:Expr} {es:List Expr} {t:TA}
theorem pe_fn (F:Callee X.prog X.w X.K X.mg X.base CX k x ps sp) (hr:Room k X.A) (hg:Gl X x) (hx:zdG CX X E)
  (ha:PA X (e :: es) t) (hdb:(x == ("__debug__":Str))=false:=by decide) (he:starEach (e :: es) X.env=(false,eval e X.env) :: starEach es X.env:=by rfl) (hpl:(backTo pos (starEach es X.env)).any (·.1)=false:=by rfl) :
  PE X (.Call (.Name x p) (e :: es) [] pos) (tCall sp [] E t):=by
 obtain ⟨f,fd,G,hm,hk,hb⟩:=F.ex
 exact zjA G hr hg hm hk hb .nil hx ha hdb he hpl
end
section
variable {X:Cx} {K:W.Frag}
theorem zaq (hK:X.K=K):zdJ X (.builtin "len") (λxs H Q=>∃ p ys,xs=[.ref p]∧(SqL K H p ys∨SqT K H p ys)∧Q (.int ys.length) H):=by subst hK;exact zfz
theorem zbO (hK:X.K=K):zdJ X (.type "list") (λxs H Q=>∃ p ys,xs=[.ref p]∧(SqL K H p ys∨SqT K H p ys)∧∀ l,H l=none->Q (.ref l) (upd H l (.lst ys))):=by subst hK;exact zfu
theorem zgE (hK:X.K=K):zdJ X (.builtin "isinstance") (zlT K):=by subst hK;exact zit
theorem zgC (hK:X.K=K) (hc:X.calm=true):zdJ X (.builtin "sum") (λxs H Q=>∃ (a:Addr) (ns:List Int),xs=[.ref a]∧SqL K H a (ns.map V.int)∧Q (.int ns.sum) H):=by subst hK;exact zh2 hc
theorem zaH (hK:X.K=K):IxR X (zj1 K):=by subst hK;exact zjx
theorem zbD (hK:X.K=K):SlR X (zlm K):=by subst hK;exact zjI
theorem op_eq_K (hK:X.K=K) (hu:X.A.units+64<cLine):OpR X (compareOp .Eq) (rEqL K false):=by subst hK;exact zli hu
theorem zbw {e:Expr} {f:Str} {pos:Pos} {ta:TE} (hK:X.K=K) (he:PE X e ta) (hb:attributeBase e f X.env (eval e X.env)=eval e X.env):PE X (.Attribute e f pos) (tFld K ta f):=by subst hK;exact zkQ he hb
theorem pi_list_K {tg l:Expr} {tl:TE} (hK:X.K=K) (hl:PE X l tl):PI X tg l (zix K tl):=by subst hK;exact zjB hl
theorem zdp {a b:Expr} {ta:TA} {p pos tp:Pos} {elts:List Expr} {x1:Nat} (hK:X.K=K) (hg:Gl X "zip") (hm:X.mg "zip"=none) (ha:PA X [a,b] ta) (hs:starEach [a,b] X.env=[(false,eval a X.env),(false,eval b X.env)]:=by rfl) (hs2:starEach [b] X.env=[(false,eval b X.env)]:=by rfl) :
  PI X (.Tuple elts x1 tp) (.Call (.Name "zip" p) [a,b] [] pos) (zlV K ta):=by subst hK;exact zko hg hm ha hs hs2
theorem zbh {es:List Expr} {k:Nat} {t:TGs} {n:Nat} {pos:Pos} (hK:X.K=K) (hc:X.calm=true) (h:PGs X es t)
  (hn:(assignEach es X.env).length=n:=by rfl) (hst:(assignEach es X.env).findIdx? (·.1)=none:=by rfl):PG X (.Tuple es k pos) (zi1 K n t):=by subst hK;exact zlb hc h hn hst
theorem zef {o e:Expr} {to:TE} {t:TA} {apos cpos:Pos} (hK:X.K=K) (ho:PE X o to) (ha:PA X [e] t)
  (hbase:attributeBase o "append" X.env (eval o X.env)=eval o X.env:=by rfl)
  (hfew:((backTo cpos (starEach [e] X.env)).all (λx=>!x.1)&&(backToKw cpos (keywordEach [] X.env)).all (λx=>x.1.isSome)
   &&decide (([e]:List Expr).length+([]:List Keyword).length+(if ([]:List Keyword).isEmpty then 0 else 1)<30))=true:=by rfl)
  (hline:(apos.endLine == cpos.line)=true:=by rfl) (hs:starEach [e] X.env=(false,eval e X.env) :: starEach [] X.env:=by rfl) (hplain:(backTo cpos (starEach [] X.env)).any (·.1)=false:=by rfl) :
  PE X (.Call (.Attribute o "append" apos) [e] [] cpos) (tBM K "list" rAppend to t):=by
 subst hK
 exact zlu PySem.F.plainAttrs_list PySem.F.slot_list_append PySem.F.type_list_append mt_append ho ha hbase hfew hline hs hplain
end
end L2
namespace L2
open PySem PySem.Spec PyProof.Rows
theorem zak {n:Nat} (h:n≤10000):n≤sizeLine:=Nat.le_trans h (by decide)
end L2
namespace L2
open PySem PySem.Spec PyProof.Rows
theorem zeC (o:Obj) (f:Array Value->Array Value):(o.mapFields f).dict=o.dict:=by
 obtain ⟨c,d,dt,sl⟩:=o
 cases dt<;>rfl
section
variable {M:Model} {A:Around} {E:Value->Shared->Prop} {s:Shared}
theorem zgQ {base:Heap} {env:Env} {outer:List Env} {L e:Addr} {oe:Obj} {vs:Array Value} {head:Value} {hadNext:Bool} {Q:Unit->Shared->Prop}
  (hfr:A.frames=some (env :: outer)) (hl:s.heap.FunFrames base (env :: outer)) (hf:env.frame=some L) (he:s.heap.get? e=some oe) (hd:oe.data=.fields vs) (hsz:1<vs.size)
  (h:∀ (h':Heap) (T:Addr) (oT:Obj) (ts:Array Value),(∀ b o,b ∉ frs (env :: outer)->b≠e->s.heap.get? b=some o->h'.get? b=some o)->(∀ b o,b≠e->s.heap.get? b=some o->∃ sl,h'.get? b=some { o with slots:=sl }) →
   h'.get? e=some (oe.mapFields (·.setIfInBounds 1 (.ref T)))->s.heap.objs.size≤T->h'.get? T=some oT->oT.data=.fields ts->ts[3]?=some (rawInt L)->Q () { s with heap:=h' }) :
  wpAny M A (do let a ← frameOf env;let pl ← entryPlaceOf L hadNext;let b ← EntryCells.newEntry head a .none (rawInt L) .none pl;setField (.ref e) 1 b) Q E s:=by
 have hene:e ∉ (env :: outer).filterMap (·.frame):=λhm=>by
  obtain ⟨_,o,ho,hnf⟩:=hl.mem hm
  rw [he] at ho;injection ho with ho;subst ho;exact hnf vs hd
 refine wpAny_bind (wpAny_frameOf_fun hfr hl hf λh₁ hs₁=>?_)
 refine wpAny_bind (wpAny_entryPlaceOf λpl hpl=>?_)
 unfold EntryCells.newEntry newFields
 refine wpAny_bind (wpAny_newObj_type ?_ (hpl.sizeOk5 _ _ _ _ _))
 have he₁:h₁.get? e=some oe:=(hs₁.2.1 e hene).trans he
 have he₂:=Heap.get?_push_of_some (h:=h₁) { cls:=.type "traceback",dict:=none,data:=.fields ([head,.ref L,.none,rawInt L,.none]++(if pl.isEmpty then List.replicate 6 Value.none else pl)).toArray } he₁
 refine wpAny_setField he₂ hd hsz ?_
 have hTe:h₁.objs.size≠e:=Nat.ne_of_gt (Heap.lt_size he₁)
 have hd₃:=Obj.data_mapFields hd (·.setIfInBounds 1 (Value.ref h₁.objs.size))
 have he₃:=Heap.get?_update_self (Obj.mapFields (·.setIfInBounds 1 (Value.ref h₁.objs.size))) he₂ (Obj.isFreed_of_fields hd₃)
 have hT₃:=(Heap.get?_update_other (h₁.push { cls:=.type "traceback",dict:=none,data:=.fields ([head,.ref L,.none,rawInt L,.none]++(if pl.isEmpty then List.replicate 6 Value.none else pl)).toArray })
  (Obj.mapFields (·.setIfInBounds 1 (Value.ref h₁.objs.size))) (Ne.symm hTe)).trans (Heap.get?_push_size h₁ rfl)
 refine h _ h₁.objs.size _ _ (λb o hb hbe e1=>?_) (λb o hbe e1=>?_) he₃ (Nat.le_of_eq hs₁.1.symm) hT₃ rfl (by first | (simp;done) | (rcases hpl with rfl | ⟨_,_,_,_,_,_,_,rfl⟩<;>simp))
 ·rw [Heap.get?_update_other _ _ (Ne.symm hbe)]
  exact Heap.get?_push_of_some _ ((hs₁.2.1 b hb).trans e1)
 ·obtain ⟨sl,e2⟩:=hs₁.2.2 b o e1
  exact ⟨sl,by rw [Heap.get?_update_other _ _ (Ne.symm hbe)];exact Heap.get?_push_of_some _ e2⟩
end
def ExcAt (h:Heap) (H:Hp) (Fz:Addr->Prop) (L e:Addr) (cls:Value) (dct:Option Addr):Prop :=
 ∃ oe vs a0,h.get? e=some oe∧oe.cls=cls∧oe.dict=dct∧oe.data=.fields vs∧vs[0]?=some a0∧1<vs.size∧H e=none∧Fz e ∧
  (vs[1]?=some .none∨∃ T oT ts,vs[1]?=some (.ref T)∧T≠e∧h.get? T=some oT∧oT.data=.fields ts∧(ts[3]?=some .none∨ts[3]?=some (rawInt L))∧H T=none∧Fz T)
def ze8 (h:Heap) (H:Hp) (Fz:Addr->Prop) (fl:Value) (e:Addr) (cls:Value) (dct:Option Addr):Prop :=
 ∃ oe vs a0,h.get? e=some oe∧oe.cls=cls∧oe.dict=dct∧oe.data=.fields vs∧vs[0]?=some a0∧1<vs.size∧H e=none∧Fz e ∧
  ∃ T oT ts,vs[1]?=some (.ref T)∧T≠e∧h.get? T=some oT∧oT.data=.fields ts∧ts[3]?=some fl∧H T=none∧Fz T
theorem ze8.atN {h:Heap} {H:Hp} {Fz:Addr->Prop} {L e:Addr} {cls:Value} {dct:Option Addr} (x:ze8 h H Fz .none e cls dct):ExcAt h H Fz L e cls dct:=by
 obtain ⟨oe,vs,a0,h1,h2,h3,h4,h5,h6,h7,h8,T,oT,ts,t1,t2,t3,t4,t5,t6,t7⟩:=x
 exact ⟨oe,vs,a0,h1,h2,h3,h4,h5,h6,h7,h8,.inr ⟨T,oT,ts,t1,t2,t3,t4,.inl t5,t6,t7⟩⟩
theorem ze8.imp {h:Heap} {H:Hp} {Fz Fz':Addr->Prop} {e:Addr} {fl cls:Value} {dct:Option Addr} (x:ze8 h H Fz fl e cls dct) (k:∀ b,Fz b->Fz' b):ze8 h H Fz' fl e cls dct:=by
 obtain ⟨oe,vs,a0,h1,h2,h3,h4,h5,h6,h7,h8,T,oT,ts,t1,t2,t3,t4,t5,t6,t7⟩:=x
 exact ⟨oe,vs,a0,h1,h2,h3,h4,h5,h6,h7,k _ h8,T,oT,ts,t1,t2,t3,t4,t5,t6,k _ t7⟩
structure Own (X:Cx):Prop where
 stk:X.stack=X.env :: X.outer
 fr:X.env.frame=some X.env.locals
 ex:X.ex=[]
theorem zcf.there {P:Program} {w:World} {H:Hp} {h:Heap} {a:Addr} {o:HO} (x:zcf P w H h a o):∃ ob,h.get? a=some ob:=by
 cases o with
 | lst xs=>obtain ⟨_,_,_,_,e⟩:=x;exact ⟨_,e⟩
 | tup xs=>obtain ⟨_,_,_,o,e,_⟩:=x;exact ⟨_,e⟩
 | dK kvs=>obtain ⟨_,_,_,_,o,_,_,e,_⟩:=x;exact ⟨_,e⟩
 | dT kvs=>obtain ⟨_,_,_,_,o,_,_,e,_⟩:=x;exact ⟨_,e⟩
 | set S n=>obtain ⟨o,_,_,_,e,_⟩:=x;exact ⟨_,e⟩
 | ins C dx fs=>obtain ⟨_,_,_,e,_⟩:=x;exact ⟨_,e⟩
 | own y=>obtain ⟨_,e⟩:=x;exact ⟨_,e⟩
 | xd fs=>obtain ⟨_,⟨_,_,_,e,_⟩,_⟩:=x;exact ⟨_,e⟩
 | rng lo hi=>obtain ⟨_,_,_,e⟩:=x;exact ⟨_,e⟩
 | frz ob u=>obtain ⟨e,_⟩:=x;exact ⟨_,e⟩
 | tbl ps=>exact ⟨_,(show h.get? a=some _ from x)⟩
 | met f y=>exact ⟨_,(show h.get? a=some _ from x)⟩
 | ext φ=>obtain ⟨_,e,_⟩:=x;exact e
section
variable {X:Cx} {pins:List (Addr×Obj)} {σ:St} {H:Hp} {s:Shared} {h':Heap}
theorem Inv.recs {t':Nat} {ch:List Addr} (I:Inv X pins σ H s) (hch:∀ b∈ch,H b=none∧X.s₀.heap.get? b=none∧b≠X.env.locals∧(∀ x c,X.env.cells.lookup x=some c->c≠b)∧∀ p∈X.pn++pins,p.1≠b)
  (hex:X.ex=[]) (k:∀ b o,b ∉ frs X.stack->b ∉ ch->s.heap.get? b=some o->h'.get? b=some o) (ks:∀ b o,b ∉ ch->s.heap.get? b=some o->∃ sl,h'.get? b=some { o with slots:=sl }) :
  Inv X pins σ H { s with heap:=h',toks:=t' }:=by
 have sub:=I.stkSub
 have nfr:∀ b,b≠X.env.locals->b ∉ X.fs->b ∉ frs X.stack:=λb h1 h2 z=>by
  rcases List.mem_cons.mp (sub b z) with q | q
  ·exact h1 q
  ·exact h2 q
 have cl:∀ x c,X.env.cells.lookup x=some c->c≠X.env.locals:=I.cne
 refine ⟨I.ok,I.os,I.bare,⟨λb o e n hb hx=>?_,λb o e n hb hx=>?_,I.base.free,λb o e hx=>?_,I.base.tups,I.base.frzs,I.base.tbls⟩,?_,λx c e=>?_,I.free,I.freeC,λp hp=>?_,λb u e=>?_,I.len⟩
 ·have nc:b ∉ ch:=λz=>by rw [(hch b z).2.1] at e;cases e
  exact k b o (nfr b (Nat.ne_of_lt (Nat.lt_of_lt_of_le (Heap.lt_size e) I.ok.above)) hb) nc (I.base.keep b o e n hb hx)
 ·have nc:b ∉ ch:=λz=>by rw [(hch b z).2.1] at e;cases e
  obtain ⟨sl,e1⟩:=I.base.slot b o e n hb hx
  obtain ⟨sl',e2⟩:=ks b _ nc e1
  exact ⟨sl',e2⟩
 ·have nc:b ∉ ch:=λz=>by rw [(hch b z).2.1] at e;cases e
  obtain ⟨o',e1⟩:=I.base.there b o e hx
  obtain ⟨sl',e2⟩:=ks b _ nc e1
  exact ⟨_,e2⟩
 ·obtain ⟨m,⟨o,es,ep,ho,hd,r⟩,hl⟩:=I.loc
  have nc:X.env.locals ∉ ch:=λz=>(hch _ z).2.2.1 rfl
  obtain ⟨sl,e1⟩:=ks _ _ nc ho
  refine ⟨m,⟨_,es,ep,e1,hd,r⟩,λi x v e1 e2 e3=>?_⟩
  obtain ⟨u,ru,l⟩:=hl i x v e1 e2 e3
  refine ⟨u,ru,?_⟩
  rcases l with l | ⟨kk,c,e,oc,hoc,hcd⟩
  ·exact .inl l
  ·obtain ⟨sl',e4⟩:=ks c oc (λz=>(hch c z).2.2.2.1 x c e rfl) hoc
   exact .inr ⟨kk,c,e,_,e4,hcd⟩
 ·obtain ⟨v,oc,hoc,hcd⟩:=I.cell x c e
  obtain ⟨sl',e4⟩:=ks c oc (λz=>(hch c z).2.2.2.1 x c e rfl) hoc
  exact ⟨v,_,e4,hcd⟩
 ·obtain ⟨e,n,ne,nf,d⟩:=I.pin p hp
  exact ⟨k _ _ (nfr _ ne nf) (λz=>(hch _ z).2.2.2.2 p hp rfl) e,n,ne,nf,d⟩
 ·refine (I.hok b u e).stay (λc v hc q=>?_) (λ_ q=>q) λ_ _ q=>q
  have trk:∃ u',H c=some u':=by
   rcases hc with z | z
   ·rw [z];exact ⟨u,e⟩
   ·exact ⟨_,z⟩
  obtain ⟨u',hu'⟩:=trk
  refine k c v (λz=>?_) (λz=>?_) q
  ·rw [I.stkFree c z] at hu';cases hu'
  ·rw [(hch c z).1] at hu';cases hu'
def Fz (X:Cx) (pins:List (Addr×Obj)) (b:Addr):Prop:=X.s₀.heap.get? b=none∧∀ p∈X.pn++pins,p.1≠b
theorem Inv.fz (I:Inv X pins σ H s) (hex:X.ex=[]) {b:Addr} (h:s.heap.get? b=none):Fz X pins b:=by
 refine ⟨?_,λp hp z=>?_⟩
 ·cases q:X.s₀.heap.get? b with
  | none=>rfl
  | some o =>
   obtain ⟨o',e⟩:=I.base.there b o q (by rw [hex];simp)
   rw [h] at e;cases e
 ·rw [← z,(I.pin p hp).1] at h;cases h
theorem Inv.tfree (I:Inv X pins σ H s) {b:Addr} (h:s.heap.get? b=none):H b=none:=by
 cases q:H b with
 | none=>rfl
 | some u =>
  have:=(I.hok b u q).lt
  cases e:s.heap.get? b with
  | none =>
   obtain ⟨o,e'⟩:=zcf.there (I.hok b u q)
   rw [h] at e';cases e'
  | some o=>rw [h] at e;cases e
theorem exc_apart (I:Inv X pins σ H s) {b:Addr} {o:Obj} {vs:Array Value} (e:s.heap.get? b=some o) (hd:o.data=.fields vs) (hn:H b=none) (hF:Fz X pins b) :
  H b=none∧X.s₀.heap.get? b=none∧b≠X.env.locals∧(∀ x c,X.env.cells.lookup x=some c->c≠b)∧∀ p∈X.pn++pins,p.1≠b:=by
 refine ⟨hn,hF.1,λz=>?_,λx c ec z=>?_,hF.2⟩
 ·obtain ⟨m,⟨o',es,ep,ho',hd',_⟩,_⟩:=I.loc
  rw [← z,e] at ho';cases ho';rw [hd] at hd';cases hd'
 ·obtain ⟨v,oc,hoc,hcd⟩:=I.cell x c ec
  rw [z,e] at hoc;cases hoc;rw [hd] at hcd;cases hcd
theorem note_exc {M:Model} {E:Value->Shared->Prop} {e:Addr} {cls:Value} {dct:Option Addr} {Q:Unit->Shared->Prop} (O:Own X) (I:Inv X pins σ H s) (x:ExcAt s.heap H (Fz X pins) X.env.locals e cls dct)
  {A:Around} (hA:A.frames=X.A.frames) (hQ:∀ s',Inv X pins σ H s'->ze8 s'.heap H (Fz X pins) (rawInt X.env.locals) e cls dct->Q () s'):wpAny M A (noteFrame (.ref e) X.env) Q E s:=by
 obtain ⟨oe,vs,a0,h1,h2,h3,h4,h5,h6,h7,h8,h9⟩:=x
 have hfr:A.frames=some (X.env :: X.outer):=by rw [hA,I.ok.frames,O.stk]
 have hfun:s.heap.FunFrames X.base (X.env :: X.outer):=by have:=I.stack;rw [O.stk] at this;exact this
 have ae:=exc_apart I h1 h4 h7 h8
 have newE:∀ (s1:Shared) (head:Value) (hadNext:Bool),Inv X pins σ H s1->s1.heap.get? e=some oe->(∀ b,b∈X.env :: X.outer->True) →
   wpAny M A (do let a ← frameOf X.env;let pl ← entryPlaceOf X.env.locals hadNext;let b ← EntryCells.newEntry head a .none (rawInt X.env.locals) .none pl;setField (.ref e) 1 b) Q E s1:=λs1 head hadNext I1 e1 _=>by
  have hfun1:s1.heap.FunFrames X.base (X.env :: X.outer):=by have:=I1.stack;rw [O.stk] at this;exact this
  refine zgQ hfr hfun1 O.fr e1 h4 h6 λh' T oT ts k ks he hT hgT hdT ht3=>?_
  have hTn:s1.heap.get? T=none:=Heap.get?_none_of_le hT
  have I2:Inv X pins σ H { s1 with heap:=h' }:=by
   refine I1.recs (t':=s1.toks) (ch:=[e]) (λb hb=>?_) O.ex (λb o hb hc q=>?_) (λb o hc q=>?_)
   ·rw [List.mem_singleton.mp hb];exact ae
   ·rw [O.stk] at hb
    exact k b o hb (λz=>hc (by rw [z];exact List.mem_singleton.mpr rfl)) q
   ·exact ks b o (λz=>hc (by rw [z];exact List.mem_singleton.mpr rfl)) q
  refine hQ _ I2 ⟨_,_,a0,he,(Obj.cls_mapFields _ _).trans h2,(zeC _ _).trans h3,Obj.data_mapFields h4 _,?_,?_,h7,h8,T,oT,ts,?_,?_,hgT,hdT,ht3,I1.tfree hTn,I1.fz O.ex hTn⟩
  ·rw [Array.getElem?_setIfInBounds_ne (by decide)];exact h5
  ·rw [Array.size_setIfInBounds];exact h6
  ·rw [Array.getElem?_setIfInBounds_self_of_lt h6]
  ·intro z;rw [z,e1] at hTn;cases hTn
 unfold noteFrame
 simp only [O.fr]
 rcases h9 with h9 | ⟨T,oT,ts,t1,t2,t3,t4,t5,t6,t7⟩
 ·refine wpAny_bind (wpAny_field h1 h4 h9 ?_)
  rw [if_neg (by decide)]
  exact newE s _ _ I h1 (λ_ _=>trivial)
 ·refine wpAny_bind (wpAny_field h1 h4 t1 ?_)
  rw [if_pos (show (Value.ref T != Value.none)=true from by simp)]
  rcases t5 with t5 | t5
  ·refine wpAny_bind (wpAny_field t3 t4 t5 ?_)
   rw [if_neg (show ¬ ((Value.none == rawInt X.env.locals)=true) from by simp [rawInt])]
   refine wpAny_bind (wpAny_setField t3 t4 (Array.getElem?_eq_some_iff.mp t5).1 ?_)
   have aT:=exc_apart I t3 t4 t6 t7
   have other:∀ b,b≠T->(s.heap.update T (Obj.mapFields (·.setIfInBounds 3 Value.none))).get? b=s.heap.get? b:=λb hb=>Heap.get?_update_other _ _ (Ne.symm hb)
   have I1:Inv X pins σ H { s with heap:=s.heap.update T (Obj.mapFields (·.setIfInBounds 3 Value.none)) }:=by
    refine I.recs (t':=s.toks) (ch:=[T]) (λb hb=>?_) O.ex (λb o _ hc q=>?_) (λb o hc q=>⟨o.slots,?_⟩)
    ·rw [List.mem_singleton.mp hb];exact aT
    ·exact (other b (λz=>hc (by rw [z];exact List.mem_singleton.mpr rfl))).trans q
    ·exact (other b (λz=>hc (by rw [z];exact List.mem_singleton.mpr rfl))).trans q
   exact newE _ _ _ I1 ((other e (Ne.symm t2)).trans h1) (λ_ _=>trivial)
  ·refine wpAny_bind (wpAny_field t3 t4 t5 ?_)
   rw [if_pos (show (rawInt X.env.locals == rawInt X.env.locals)=true from by simp)]
   exact wpAny_pure (hQ s I ⟨oe,vs,a0,h1,h2,h3,h4,h5,h6,h7,h8,T,oT,ts,t1,t2,t3,t4,t5,t6,t7⟩)
theorem zdY {M:Model} {A:Around} {E:Value->Shared->Prop} {e:Addr} {fl cls:Value} {dct:Option Addr} {fr:Option Addr} {Q:Unit->Shared->Prop} (O:Own X) (I:Inv X pins σ H s) (x:ze8 s.heap H (Fz X pins) fl e cls dct)
  (hQ:∀ s',Inv X pins σ H s'->ze8 s'.heap H (Fz X pins) (fr.elim .none λf=>rawInt f) e cls dct->Q () s'):wpAny M A (setFlight (.ref e) fr) Q E s:=by
 obtain ⟨oe,vs,a0,h1,h2,h3,h4,h5,h6,h7,h8,T,oT,ts,t1,t2,t3,t4,t5,t6,t7⟩:=x
 have h3s:3<ts.size:=(Array.getElem?_eq_some_iff.mp t5).1
 have aT:=exc_apart I t3 t4 t6 t7
 have other:∀ b,b≠T->(s.heap.update T (Obj.mapFields (·.setIfInBounds 3 (fr.elim Value.none λf=>rawInt f)))).get? b=s.heap.get? b:=λb hb=>Heap.get?_update_other _ _ (Ne.symm hb)
 unfold setFlight
 refine wpAny_bind (wpAny_field h1 h4 t1 ?_)
 rw [if_pos (show (Value.ref T != Value.none)=true from by simp)]
 refine wpAny_setField t3 t4 h3s (hQ _ ?_ ?_)
 ·refine I.recs (t':=s.toks) (ch:=[T]) (λb hb=>?_) O.ex (λb o _ hc q=>?_) (λb o hc q=>⟨o.slots,?_⟩)
  ·rw [List.mem_singleton.mp hb];exact aT
  ·exact (other b (λz=>hc (by rw [z];exact List.mem_singleton.mpr rfl))).trans q
  ·exact (other b (λz=>hc (by rw [z];exact List.mem_singleton.mpr rfl))).trans q
 ·exact ⟨oe,vs,a0,(other e (Ne.symm t2)).trans h1,h2,h3,h4,h5,h6,h7,h8,T,_,_,t1,t2,Heap.get?_update_self _ t3 (Obj.isFreed_of_fields (Obj.data_mapFields t4 _)),Obj.data_mapFields t4 _,by rw [Array.getElem?_setIfInBounds_self_of_lt h3s],t6,t7⟩
end
theorem exc_obj {K:W.Frag} {h:Heap} {C:Addr} {bmB:List Value} {newId:String} (X:K.In h) (q:W.excIn K C bmB newId=true) :
  ∃ bm N nm qn bs hdct sn sub ab col dd k0 k1 k2 k3 k5 mN,h.get? C=some (excClassObj nm qn C N bs bm hdct sn sub ab col dd k0 k1 k2 k3 k5 newId)∧h.Ns N mN∧mN "__init__"=none∧OwnTail h bmB bm:=by
 unfold W.excIn at q
 split at q
 ·rename_i dd cd sl ho
  split at q
  ·rename_i C' bm k0 k1 k2 k3 n k5 hm hs
   simp only [Bool.and_eq_true,beq_iff_eq,Bool.not_eq_true'] at q
   obtain ⟨⟨⟨⟨⟨rfl,rfl⟩,hdel⟩,ht⟩,hok⟩,hni⟩:=q
   obtain ⟨nm,bs,mro,ns,qn,hd,sn,sub,ab,col,del⟩:=cd
   dsimp only at hm hdel hok hni
   subst hm hdel
   have hsl:sl=#[k0,k1,k2,k3,some (.builtin n),k5]:=by
    obtain ⟨l⟩:=sl
    simp only at hs
    rw [hs]
   subst hsl
   exact ⟨bm,ns,nm,qn,bs,hd,sn,sub,ab,col,dd,k0,k1,k2,k3,k5,_,X _ _ ho,.of_isNs (W.isNs_of_in X hok),W.nsMap_none_of_in X hok hni,W.tail_of_in X ht⟩
  ·cases q
 ·cases q
end L2
namespace L2
open PySem PySem.Spec PyProof.Rows
def XP (X:Cx) (pins:List (Addr×Obj)) (σ:St) (E:XK) (ev:Value) (s':Shared):Prop :=
 ∃ e cls dct H',ev=.ref e∧Inv X pins σ H' s'∧ExcAt s'.heap H' (Fz X pins) X.env.locals e cls dct∧E cls dct H'
abbrev XS:=St->XK
def XPs (X:Cx) (pins:List (Addr×Obj)) (E:XS) (ev:Value) (s':Shared):Prop:=∃ σ',XP X pins σ' (E σ') ev s'
def CXE (P:Program) (w:World):CXT:=λouter H s E ev s'=>∃ e cls dct H',ev=.ref e∧s'.os=s.os∧AllBare s'.gens∧Un (frs outer) [] H H' s.heap s'.heap∧HOk P w H' s'.heap ∧
 ze8 s'.heap H' (λb=>s.heap.get? b=none) .none e cls dct∧E cls dct H'
theorem passE {P:Program} {w:World} {X:Cx}:zdG (CXE P w) X E0:=λ_ _ _ _ _ _ _ h=>by
 obtain ⟨_,_,_,_,_,_,_,_,_,_,f⟩:=h
 exact False.elim f
abbrev TEX:=St->Hp->VK->XK->Prop
def PEX (X:Cx) (e:Expr) (t:TEX):Prop :=
 ∀ (pins:List (Addr×Obj)) (s:Shared) (σ:St) (H:Hp) (Q:VK) (E:XK),Inv X pins σ H s->t σ H Q E->wpAny (model X.prog X.w) X.A (eval e X.env) (EP X pins σ Q) (XP X pins σ E) s
abbrev TSX:=Ends->XS->St->Hp->Prop
def PSX (X:Cx) (st:Stmt) (t:TSX):Prop :=
 ∀ (pins:List (Addr×Obj)) (s:Shared) (σ:St) (H:Hp) (D:Ends) (E:XS),Inv X pins σ H s->t D E σ H->wpAny (model X.prog X.w) X.A (exec st X.env) (SP X pins D) (XPs X pins E) s
def zfY (X:Cx) (st:List Stmt) (t:TSX):Prop :=
 ∀ (pins:List (Addr×Obj)) (s:Shared) (σ:St) (H:Hp) (D:Ends) (E:XS),Inv X pins σ H s->t D E σ H->wpAny (model X.prog X.w) X.A (execs st X.env) (SP X pins D) (XPs X pins E) s
section
variable {X:Cx} {e:Expr} {st:Stmt} {rest:List Stmt} {pos:Pos}
theorem zir {t:TS} (h:PS X.nox st t):PSX X st (λD _ σ H=>t D σ H):=λpins s σ H D E I hw =>
 wpAny_mono (h pins s σ H D (I.wish _) hw) (λ_ _ q=>SP.unwish q) λ_ _ f=>f.elim
theorem zfo {sts:List Stmt} {t:TS} (h:PSs X.nox sts t):zfY X sts (λD _ σ H=>t D σ H):=λpins s σ H D E I hw =>
 wpAny_mono (h pins s σ H D (I.wish _) hw) (λ_ _ q=>SP.unwish q) λ_ _ f=>f.elim
theorem ziy:zfY X [] (λD _ σ H=>D.nx σ H):=λ_ _ σ H _ _ I h=>wpAny_execs_nil ⟨σ,H,I,h⟩
theorem zht {t u:TSX} (h1:PSX X st t) (h2:zfY X rest u):zfY X (st :: rest) (λD E σ H=>t { D with nx:=u D E } E σ H):=by
 intro pins s σ H D E I h
 refine wpAny_execs_cons (thn (h1 pins s σ H { D with nx:=u D E } E I h) λf s1 q=>?_)
 cases f with
 | next =>
  obtain ⟨σ',H',I',q⟩:=q
  exact h2 pins s1 σ' H' D E I' q
 | ret v=>exact q
 | brk=>exact q
 | cont=>exact q
theorem zkT {c:Expr} {a b:List Stmt} {tc:TT} {t u:TSX} (hc:PT X.nox c tc) (ha:zfY X a t) (hb:zfY X b u):PSX X (.If c a b pos) (λD E σ H=>tc σ H λk H1=>if k=true then t D E σ H1 else u D E σ H1):=by
 intro pins s σ H D E I h
 refine wpAny_If (wpAny_mono (hc pins s σ H _ (I.wish _) h) (λd s1 ⟨H1,I1,q1⟩=>?_) λ_ _ f=>f.elim)
 cases d with
 | true=>exact ha pins s1 σ H1 D E I1.unwish q1
 | false=>exact hb pins s1 σ H1 D E I1.unwish q1
theorem zjf {i:Nat} {x:Str} {te:TEX} {pos':Pos} (hN:X.N.Nodup) (hi:X.N[i]?=some x) (hx:Loc X.env.scope x) (he:PEX X e te) (hs:swapsWith e (some (.Name x pos')) pos.line X.env=pure false:=by rfl)
  (hf:X.fn x=true∨X.env.scope.names.lookup x=some .local:=by first | exact .inl rfl | exact .inr rfl | assumption) :
  PSX X (.Assign [.Name x pos'] e pos) (λD E σ H=>te σ H (λv H1=>D.nx (σ.set i (some v)) H1) (E σ)):=by
 intro pins s σ H D E I h
 refine wpAny_Assign_Name (wpAny_mono (he pins s σ H _ _ I h) (λv s1 ⟨y,H1,I1,r1,q1⟩=>?_) λ_ _ q=>⟨σ,q⟩) hs
 exact store_ok I1 hN hi hx r1 (λs2 I2=>⟨_,H1,I2,q1⟩) hf
end
section
variable {X:Cx} {k:Nat} {ps:List Str} {sp:Sp} {x:Str} {p pos:Pos} {e:Expr} {es:List Expr} {t:TA}
theorem zg9 {pins:List (Addr×Obj)} {σ:St} {H:Hp} {s s':Shared} {E:XK} {ev:Value} (O:Own X) (I:Inv X pins σ H s) (h:CXE X.prog X.w X.stack H s E ev s'):XP X pins σ E ev s':=by
 obtain ⟨a,cls,dct,H',rfl,ho,hb,u,hok,x,q⟩:=h
 have I':Inv X pins σ H' s':=I.call' (ch:=[]) ho u hok hb λb hb=>by cases hb
 exact ⟨a,cls,dct,H',rfl,I',(x.imp λb hb=>I.fz O.ex hb).atN,q⟩
theorem zlx (O:Own X) (F:Callee X.prog X.w X.K X.mg X.base (CXE X.prog X.w) k x ps sp) (hr:Room k X.A) (hg:Gl X x)
  (ha:PA X.nox (e :: es) t) (hdb:(x == ("__debug__":Str))=false:=by decide) (he:starEach (e :: es) X.env=(false,eval e X.env) :: starEach es X.env:=by rfl) (hpl:(backTo pos (starEach es X.env)).any (·.1)=false:=by rfl) :
  PEX X (.Call (.Name x p) (e :: es) [] pos) (λσ H Q E=>t σ H λvs H1=>sp (vs++[]) H1 Q E):=by
 obtain ⟨f,fd,G,hm,hk,hb⟩:=F.ex
 intro pins s σ H Q E I h
 refine wpAny_Call_Name_kw (ld_glob I hg hm ?_ hdb)
 refine W.callWith_K (h₀:=X.base) I.ok.mod.kin hk (wpAny_mono (ha pos pins s σ H _ (I.wish _) h) (λus s1 ⟨vs,H1,I1,r,q⟩=>⟨I1.unwish.kIn,?_⟩) λ_ _ f=>f.elim) he hpl
 have I2:=I1.unwish
 have r2:Vals (vs++[]) (us++[]):=r.append .nil
 have hl:(us++[]).length=ps.length:=by rw [← r2.length];exact G.len _ _ _ _ q
 refine wpAny_call (codeAny_mono (G.run X.A X.stack s1 H1 ⟨us,[]⟩ (us++[]) (vs++[]) Q E hr I2.env0 (hb s1 us I2.kIn hl) r2 q) λr s' hq=>?_)
 cases r with
 | error e=>exact zg9 O I2 hq
 | ok fl =>
  cases fl with
  | ret u=>exact I2.after hq
  | next=>exact False.elim hq
  | brk=>exact False.elim hq
  | cont=>exact False.elim hq
theorem zg3 {C:Addr} {B newId initId:String} {bmB:List Value} {np cpos:Pos} (O:Own X) (hc:X.calm=true) (hg:Gl X x) (hm:X.mg x=some (.ref C)) (hK:W.excIn X.K C bmB newId=true) (FB:ExcBaseFacts B newId initId bmB)
  (ha:PA X.nox (e :: es) t) (hdb:(x == ("__debug__":Str))=false:=by decide) (he:starEach (e :: es) X.env=(false,eval e X.env) :: starEach es X.env:=by rfl) (hpl:(backTo cpos (starEach es X.env)).any (·.1)=false:=by rfl) :
  PSX X (.Raise (some (.Call (.Name x np) (e :: es) [] cpos)) none pos) (λ_ E σ H=>t σ H λvs H1=>vs.length≤sizeLine∧E σ (.ref C) none H1):=by
 intro pins s σ H D E I h
 obtain ⟨tl,N,nm,q,bs,hdct,sn,sub,ab,col,dd,k0,k1,k2,k3,k5,mN,hC,hN,hni,T⟩:=exc_obj I.ok.mod.kin hK
 refine wpAny_Raise_call_subT (C:=C) (nm:=nm) (q:=q) (N:=N) (bs:=bs) (bm:=tl) (hdct:=hdct) (sn:=sn) (sub:=sub) (ab:=ab) (col:=col) (dd:=dd) (k0:=k0) (k1:=k1) (k2:=k2) (k3:=k3) (k5:=k5)
  FB (mN:=mN) (T.hasType FB.hasBase) (I.ok.hd hc) (by rw [he];show (false||(backTo cpos (starEach es X.env)).any (·.1))=false;rw [hpl];rfl) hni (ld_glob I hg hm ⟨rfl,?_⟩ hdb)
 have hA:=ha cpos pins s σ H _ (I.wish _) h
 rw [he] at hA ⊢
 refine Calls.evalArgs_plain (wpAny_mono hA (λus s1 ⟨vs,H1,I1,r,hz,qE⟩=>⟨rfl,?_,?_⟩) λ_ _ f=>f.elim)
 ·show us.length≤sizeLine
  rw [← r.length];exact hz
 ·have I2:=I1.unwish
  refine ⟨I2.bk _ _ hC,hN.keeps I2.bk,T.keeps I2.bk,λh' ea hx=>?_⟩
  obtain ⟨tp,hea,_,_⟩:=hx.there
  refine ⟨σ,ea,.ref C,none,H1,rfl,I2.kept (t':=s1.toks) hx.keeps,⟨_,_,_,hea,rfl,rfl,rfl,rfl,by show 1<6;decide,I2.tfree hx.new,I2.fz O.ex hx.new,.inl rfl⟩,qE⟩
end
section
variable {P:Program} {w:World} {K:W.Frag} {mg:Str->Option Value} {base:Heap}
theorem zhY {N:List Str} {qual:Str} {scope:Scope} {f:Addr} {cd:Value} {A:Around} {outer:List Env} {s:Shared} {H:Hp} {E:XK} {pins:List (Addr×Obj)} {ev:Value} {s':Shared}
  (h:XPs (zgA (CXE P w) P w K mg base N qual scope f cd A outer s H E) pins (λ_=>E) ev s'):(zgA (CXE P w) P w K mg base N qual scope f cd A outer s H E).xe ev s':=by
 obtain ⟨σ',e,cls,dct,H',rfl,I,x,q⟩:=h
 have O:Own (zgA (CXE P w) P w K mg base N qual scope f cd A outer s H E):=⟨rfl,rfl,rfl⟩
 show wpAny _ _ (leaving _ (.ref e)) _ _ s'
 unfold leaving
 refine wpAny_bind (note_exc O I x rfl λs1 I1 x1=>?_)
 refine zdY (fr:=none) O I1 x1 λs2 I2 x2=>?_
 exact ⟨e,cls,dct,H',rfl,I2.os,I2.bare,I2.base,I2.hok,x2.imp (λb hb=>hb.1),q⟩
theorem Fun.okX {x qual:Str} {st:Stmt} {f:Addr} {fd:FuncData} {N ps:List Str} {k:Nat} {sp:Sp} (F:Fun K x qual st f fd) (S:FnScope N ps (defScope st)) (len:∀ vs H Q E,sp vs H Q E->vs.length=ps.length)
  (hbody:∀ (cdv:Value) (A:Around) (outer:List Env) (s:Shared) (H:Hp) (vs:List V) (Q:VK) (E:XK),Room k (A.deeper (envOfC qual (defScope st) s.heap.objs.size f cdv))->sp vs H Q E →
   ∃ t,zfY (zgA (CXE P w) P w K mg base N qual (defScope st) f cdv A outer s H E) (zas st) t∧t { nx:=λ_ H'=>Q .non H',rt:=Q } (λ_=>E) (start N vs) H):FnOk P w K mg base (CXE P w) (k+1) f fd ps sp:=by
 obtain ⟨oc,od,kV,doc,pm,an,cdv,ct,osl,rfl,lk,hcd⟩:=F.ex
 refine zlN lk hcd S len λA outer s H vs Q E hr hsp=>?_
 obtain ⟨t,h,q⟩:=hbody cdv A outer s H vs Q E hr hsp
 exact ⟨λD σ H=>t D (λ_=>E) σ H,λpins s1 σ H1 D I hw=>wpAny_mono (h pins s1 σ H1 D _ I hw) (λ_ _ q=>q) λ_ _ q=>zhY q,q⟩
end
end L2
namespace L2
open PySem PySem.Spec PyProof.Rows
structure Ds where
 pr:Hp->V->Prop
 up:∀ {H H':Hp} {v:V},Same H H'->pr H v->pr H' v
theorem pr_up {ds:List Ds} {H H':Hp} (e:Same H H'):∀ {vs:List V} {ds:List Ds},Paired (λv (d:Ds)=>d.pr H v) vs ds->Paired (λv (d:Ds)=>d.pr H' v) vs ds
 | _,_,.nil=>.nil
 | _,_,.cons (b:=d) h t=>.cons (d.up e h) (pr_up (ds:=[]) e t)
theorem paired_imp {α β:Type} {R S:α->β->Prop} (h:∀ a b,R a b->S a b):∀ {xs:List α} {ys:List β},Paired R xs ys->Paired S xs ys
 | _,_,.nil=>.nil
 | _,_,.cons q t=>.cons (h _ _ q) (paired_imp h t)
theorem zaC {α β:Type} {R:α->β->Prop}:∀ {xs:List α} {ys:List β} {i:Nat} {y:β},Paired R xs ys->ys[i]?=some y->∃ x,xs[i]?=some x∧R x y
 | _,_,_,_,.nil,e=>by simp at e
 | _,_,0,_,.cons r _,e=>by simp at e;subst e;exact ⟨_,rfl,r⟩
 | _,_,i+1,y,.cons _ t,e=>by
  obtain ⟨u,h1,h2⟩:=zaC (i:=i) (y:=y) t (by simpa using e)
  exact ⟨u,by simpa using h1,h2⟩
theorem zbb {α β:Type} {R:α->β->Prop}:∀ {xs xs':List α} {ys ys':List β},Paired R xs ys->Paired R xs' ys'->Paired R (xs++xs') (ys++ys')
 | _,_,_,_,.nil,s=>s
 | _,_,_,_,.cons r t,s=>.cons r (zbb t s)
theorem zeI {α β:Type} {R:α->β->Prop} {x:α} {y:β} (r:R x y):∀ {xs:List α} {ys:List β} (i:Nat),Paired R xs ys->Paired R (xs.set i x) (ys.set i y)
 | _,_,_,.nil=>.nil
 | _,_,0,.cons _ t=>.cons r t
 | _,_,i+1,.cons q t=>.cons q (zeI r i t)
theorem paired_take {α β:Type} {R:α->β->Prop}:∀ {xs:List α} {ys:List β} (n:Nat),Paired R xs ys->Paired R (xs.take n) (ys.take n)
 | _,_,0,_=>.nil
 | _,_,_+1,.nil=>.nil
 | _,_,n+1,.cons r t=>.cons r (paired_take n t)
theorem zeq {α β:Type} {R:α->β->Prop}:∀ {xs:List α} {ys:List β} (n:Nat),Paired R xs ys->Paired R (xs.drop n) (ys.drop n)
 | _,_,0,r=>r
 | _,_,_+1,.nil=>.nil
 | _,_,n+1,.cons _ t=>zeq n t
theorem paired_rep {α β:Type} {R:α->β->Prop} {xs:List α} {ys:List β} (h:Paired R xs ys):∀ n:Nat,Paired R (List.replicate n xs).flatten (List.replicate n ys).flatten
 | 0=>.nil
 | n+1=>by
  rw [List.replicate_succ,List.replicate_succ,List.flatten_cons,List.flatten_cons]
  exact zbb h (paired_rep h n)
abbrev dV (v:V):Ds:=⟨λ_ u=>u=v,λ_ h=>h⟩
abbrev dI (n:Int):Ds:=dV (.int n)
abbrev dB (b:Bool):Ds:=dV (.bl b)
abbrev dN:Ds:=dV .non
abbrev dS (x:Str):Ds:=dV (.str x)
def dL (ds:List Ds):Ds:=⟨λH v=>∃ p vs,v=.ref p∧H p=some (.lst vs)∧Paired (λv (d:Ds)=>d.pr H v) vs ds,λe ⟨p,vs,h1,h2,h3⟩=>⟨p,vs,h1,e _ _ h2,pr_up (ds:=[]) e h3⟩⟩
def dQ (K:W.Frag) (ds:List Ds):Ds:=⟨λH v=>∃ p vs,v=.ref p∧SqL K H p vs∧Paired (λv (d:Ds)=>d.pr H v) vs ds,λe ⟨p,vs,h1,h2,h3⟩=>⟨p,vs,h1,e.seq h2,pr_up (ds:=[]) e h3⟩⟩
def dT (ds:List Ds):Ds:=⟨λH v=>∃ p vs,v=.ref p∧H p=some (.tup vs)∧Paired (λv (d:Ds)=>d.pr H v) vs ds,λe ⟨p,vs,h1,h2,h3⟩=>⟨p,vs,h1,e _ _ h2,pr_up (ds:=[]) e h3⟩⟩
def dO (C:Addr) (fs:List (Str×Ds)):Ds:=⟨λH v=>∃ p dx vs,v=.ref p∧H p=some (.ins C dx vs)∧H dx=some (.own p)∧Paired (λ(a:Str×V) (b:Str×Ds)=>a.1=b.1∧b.2.pr H a.2) vs fs,
 λe ⟨p,dx,vs,h1,h2,h3,h4⟩=>⟨p,dx,vs,h1,e _ _ h2,e _ _ h3,paired_imp (λ_ b q=>⟨q.1,b.2.up e q.2⟩) h4⟩⟩
class Enc (α:Type) where
 d:α->Ds
instance:Enc Int:=⟨dI⟩
instance:Enc Bool:=⟨dB⟩
instance:Enc Unit:=⟨λ_=>dN⟩
instance:Enc Str:=⟨dS⟩
instance {α:Type} [Enc α]:Enc (List α):=⟨λxs=>dL (xs.map Enc.d)⟩
instance {α β:Type} [Enc α] [Enc β]:Enc (α×β):=⟨λp=>dT [Enc.d p.1,Enc.d p.2]⟩
instance {α:Type} [Enc α]:Enc (Option α):=⟨λo=>match o with | none=>dN | some x=>Enc.d x⟩
structure T3 (α β γ:Type) where
 a:α
 b:β
 c:γ
instance {α β γ:Type} [Enc α] [Enc β] [Enc γ]:Enc (T3 α β γ):=⟨λp=>dT [Enc.d p.a,Enc.d p.b,Enc.d p.c]⟩
structure Grow (F H F' H':Hp):Prop where
 f:Same F F'
 fh:Same F' H'
 h:Same H H'
 no:∀ a,H a≠none->F a=none->F' a=none
theorem Grow.refl {F H:Hp} (e:Same F H):Grow F H F H:=⟨Same.refl _,e,Same.refl _,λ_ _ h=>h⟩
theorem Same.some {H H':Hp} (e:Same H H') {a:Addr} (h:H a≠none):H' a≠none:=by
 cases q:H a with
 | none=>exact absurd q h
 | some o=>rw [e _ _ q];simp
theorem Grow.trans {F H F' H' F'' H'':Hp} (g:Grow F H F' H') (k:Grow F' H' F'' H''):Grow F H F'' H'' :=
 ⟨g.f.trans k.f,k.fh,g.h.trans k.h,λa h1 h2=>k.no a (g.h.some h1) (g.no a h1 h2)⟩
theorem Grow.new {F H F' H':Hp} (g:Grow F H F' H') {p:Addr} {o:HO} (hp:H' p=none):Grow F H (upd F' p o) (upd H' p o):=by
 have hf:F' p=none:=by
  cases q:F' p with
  | none=>rfl
  | some u=>rw [g.fh _ _ q] at hp;cases hp
 refine ⟨g.f.trans (Same.new hf _),λa u q=>?_,g.h.trans (Same.new hp _),λa h1 h2=>?_⟩
 ·by_cases e:a=p
  ·subst e;rw [upd_same] at q ⊢;exact q
  ·rw [upd_ne e] at q ⊢;exact g.fh _ _ q
 ·have:a≠p:=λe=>by subst e;exact (g.h.some h1) hp
  rw [upd_ne this];exact g.no a h1 h2
theorem Grow.newH {F H F' H':Hp} (g:Grow F H F' H') {p:Addr} {o:HO} (hp:H' p=none):Grow F H F' (upd H' p o) :=
 ⟨g.f,g.fh.trans (Same.new hp _),g.h.trans (Same.new hp _),g.no⟩
theorem Grow.setH {F H F' H':Hp} (g:Grow F H F' H') {p:Addr} {o:HO} (hf:F' p=none) (hp:H p=none):Grow F H F' (upd H' p o) :=
 ⟨g.f,λa u q=>by rw [upd_ne (ne_of_none q hf)];exact g.fh _ _ q,λa u q=>by rw [upd_ne (ne_of_none q hp)];exact g.h _ _ q,g.no⟩
theorem Grow.take {F H F' H':Hp} (g:Grow F H F' H') {p:Addr} {o:HO} (hp:H p=none) (e:H' p=some o):Grow F H (upd F' p o) H':=by
 refine ⟨λa u q=>?_,λa u q=>?_,g.h,λa h1 h2=>?_⟩
 ·by_cases z:a=p
  ·subst z
   have:=g.fh _ _ (g.f _ _ q)
   rw [e] at this;cases this;exact upd_same
  ·rw [upd_ne z];exact g.f _ _ q
 ·by_cases z:a=p
  ·subst z;rw [upd_same] at q;cases q;exact e
  ·rw [upd_ne z] at q;exact g.fh _ _ q
 ·have:a≠p:=λz=>by subst z;exact h1 hp
  rw [upd_ne this];exact g.no a h1 h2
def off (F Hb:Hp):Hp:=λa=>match Hb a with | none=>F a | some _=>none
theorem off_some {F Hb:Hp} {a:Addr} {o:HO}:off F Hb a=some o ↔ Hb a=none∧F a=some o:=by
 unfold off
 cases q:Hb a with
 | none=>simp
 | some u=>simp
theorem off_up {F F' Hb:Hp} (e:Same F F'):Same (off F Hb) (off F' Hb):=λa o q=>by
 rw [off_some] at q ⊢;exact ⟨q.1,e _ _ q.2⟩
theorem zha {F Hb:Hp}:Same (off F Hb) F:=λa o q=>(off_some.mp q).2
theorem zhm {F Hb Hc:Hp} (e:Same Hb Hc):Same (off F Hc) (off F Hb):=λa o q=>by
 rw [off_some] at q ⊢
 refine ⟨?_,q.2⟩
 cases z:Hb a with
 | none=>rfl
 | some u=>rw [e _ _ z] at q;cases q.1
def part (m:Bool) (F Hb:Hp):Hp:=match m with | true=>off F Hb | false=>F
theorem part_up {m:Bool} {F F' Hb:Hp} (e:Same F F'):Same (part m F Hb) (part m F' Hb):=by
 cases m with
 | true=>exact off_up e
 | false=>exact e
theorem part_sub {m:Bool} {F Hb:Hp}:Same (part m F Hb) F:=by
 cases m with
 | true=>exact zha
 | false=>exact Same.refl _
theorem zdm {m:Bool} {F Hb:Hp} {p:Addr} {o:HO} (hb:Hb p=none) (hp:F p=some o):part m F Hb p=some o:=by
 cases m with
 | true=>exact off_some.mpr ⟨hb,hp⟩
 | false=>exact hp
inductive Slot where
 | no
 | va (m:Bool) (d:Ds)
 | ow (m:Bool) (ds:List Ds)
 | ob (m:Bool) (C p dx:Addr) (fs:List (Str×Ds))
 | tl (d:Ds)
 | ol (p:Addr) (ds:List Ds)
abbrev Ctx:=List Slot
def zdK (Hb F H:Hp) (own:Nat->Option Addr) (i:Nat) (v:Option V):Slot->Prop
 | .tl d=>∃ x R,v=some x∧Same R H∧(∀ a o,R a=some o->F a=none∧Hb a=none)∧(∀ j p,own j=some p->R p=none)∧d.pr R x
 | .no=>True
 | .va m d=>∃ x,v=some x∧d.pr (part m F Hb) x
 | .ow m ds=>∃ p vs,v=some (.ref p)∧own i=some p∧F p=none∧Hb p=none∧H p=some (.lst vs)∧Paired (λv (d:Ds)=>d.pr (part m F Hb) v) vs ds
 | .ol p ds=>∃ vs,v=some (.ref p)∧own i=some p∧F p=none∧Hb p=none∧H p=some (.lst vs)∧Paired (λv (d:Ds)=>d.pr F v) vs ds
 | .ob m C p dx fs=>∃ vs,v=some (.ref p)∧own i=some p∧(F p=none∧F dx=none)∧(Hb p=none∧Hb dx=none)∧(H p=some (.ins C dx vs)∧H dx=some (.own p))∧Paired (λ(a:Str×V) (b:Str×Ds)=>a.1=b.1∧b.2.pr (part m F Hb) a.2) vs fs
structure At (F0 Hb F H:Hp) (σ:St) (own:Nat->Option Addr) (Γ:Ctx):Prop where
 g:Grow F0 Hb F H
 inj:∀ i j p,own i=some p->own j=some p->i=j
 liv:∀ i p,own i=some p->H p≠none
 sl:∀ i s,Γ[i]?=some s->zdK Hb F H own i (σ[i]?).join s
 len:σ.length=Γ.length
theorem zdK.grow {Hb F H F' H':Hp} {own:Nat->Option Addr} {i:Nat} {v:Option V} {s:Slot} (h:zdK Hb F H own i v s) (g:Grow F H F' H'):zdK Hb F' H' own i v s:=by
 cases s with
 | no=>trivial
 | tl d =>
  obtain ⟨x,R,e,h1,h2,h3,h4⟩:=h
  exact ⟨x,R,e,h1.trans g.h,λa o q=>⟨g.no a (by rw [h1 _ _ q];simp) (h2 a o q).1,(h2 a o q).2⟩,h3,h4⟩
 | va m d=>obtain ⟨x,e,q⟩:=h;exact ⟨x,e,d.up (part_up g.f) q⟩
 | ow m ds =>
  obtain ⟨p,vs,e,ho,hf,hb,hp,q⟩:=h
  exact ⟨p,vs,e,ho,g.no p (by rw [hp];simp) hf,hb,g.h _ _ hp,pr_up (ds:=[]) (part_up g.f) q⟩
 | ol p ds =>
  obtain ⟨vs,e,ho,hf,hb,hp,q⟩:=h
  exact ⟨vs,e,ho,g.no p (by rw [hp];simp) hf,hb,g.h _ _ hp,pr_up (ds:=[]) g.f q⟩
 | ob m C p dx fs =>
  obtain ⟨vs,e,ho,hf,hb,hp,q⟩:=h
  exact ⟨vs,e,ho,⟨g.no p (by rw [hp.1];simp) hf.1,g.no dx (by rw [hp.2];simp) hf.2⟩,hb,⟨g.h _ _ hp.1,g.h _ _ hp.2⟩,paired_imp (λ_ b z=>⟨z.1,b.2.up (part_up g.f) z.2⟩) q⟩
theorem At.grow {F0 Hb F H F' H':Hp} {σ:St} {own:Nat->Option Addr} {Γ:Ctx} (a:At F0 Hb F H σ own Γ) (g:Grow F H F' H'):At F0 Hb F' H' σ own Γ :=
 ⟨a.g.trans g,a.inj,λi p e=>g.h.some (a.liv i p e),λi s e=>(a.sl i s e).grow g,a.len⟩
theorem At.fh {F0 Hb F H:Hp} {σ:St} {own:Nat->Option Addr} {Γ:Ctx} (a:At F0 Hb F H σ own Γ):Same F H:=a.g.fh
theorem join_set_self {σ:St} {i:Nat} {x:Option V} (h:i<σ.length):((σ.set i x)[i]?).join=x:=by
 rw [List.getElem?_set_self h];rfl
theorem zdz {σ:St} {i j:Nat} {x:Option V} (h:i≠j):((σ.set i x)[j]?).join=(σ[j]?).join:=by
 rw [List.getElem?_set_ne h]
theorem At.set {F0 Hb F H:Hp} {σ:St} {own:Nat->Option Addr} {Γ:Ctx} (a:At F0 Hb F H σ own Γ) (i:Nat) {m:Bool} {d:Ds} {v:V} (h:d.pr (part m F Hb) v) :
  At F0 Hb F H (σ.set i (some v)) own (Γ.set i (.va m d)):=by
 refine ⟨a.g,a.inj,a.liv,λj s e=>?_,by simp [a.len]⟩
 by_cases z:i=j
 ·subst z
  have hi:i<Γ.length:=by
   have:=(List.getElem?_eq_some_iff.mp e).1
   simpa using this
  rw [List.getElem?_set_self hi] at e
  cases e
  rw [join_set_self (by rw [a.len];exact hi)]
  exact ⟨v,rfl,h⟩
 ·rw [List.getElem?_set_ne z] at e
  rw [zdz z]
  exact a.sl j s e
theorem At.setOwn {F0 Hb F1 H1 F H:Hp} {σ:St} {own:Nat->Option Addr} {Γ:Ctx} (a1:At F0 Hb F1 H1 σ own Γ) (g:Grow F1 H1 F H) (i:Nat) {m:Bool} {ds:List Ds} {p:Addr} {vs:List V} (h1:H1 p=none) (hf:F p=none) (hp:H p=some (.lst vs))
  (h:Paired (λv (d:Ds)=>d.pr (part m F Hb) v) vs ds):At F0 Hb F H (σ.set i (some (.ref p))) (λj=>if j=i then some p else own j) (Γ.set i (.ow m ds)):=by
 have a:=a1.grow g
 have hb:Hb p=none:=a1.g.h.free h1
 have ho:∀ j,own j≠some p:=λj e=>a1.liv j p e h1
 refine ⟨a.g,λj k q e1 e2=>?_,λj q e=>?_,λj s e=>?_,by simp [a.len]⟩
 ·skip
  split at e1<;>split at e2
  ·omega
  ·cases e1;exact absurd e2 (ho k)
  ·cases e2;exact absurd e1 (ho j)
  ·exact a.inj j k q e1 e2
 ·skip
  split at e
  ·cases e;rw [hp];simp
  ·exact a.liv j q e
 ·by_cases z:i=j
  ·subst z
   have hi:i<Γ.length:=by
    have:=(List.getElem?_eq_some_iff.mp e).1
    simpa using this
   rw [List.getElem?_set_self hi] at e
   cases e
   rw [join_set_self (by rw [a.len];exact hi)]
   exact ⟨p,vs,rfl,by simp,hf,hb,hp,h⟩
  ·rw [List.getElem?_set_ne z] at e
   rw [zdz z]
   have z':¬ j=i:=Ne.symm z
   cases s with
   | tl d =>
    obtain ⟨x,R,q1,q2,q3,q4,q5⟩:=a1.sl j _ e
    refine ⟨x,R,q1,q2.trans g.h,λb o w=>⟨g.no b (by rw [q2 _ _ w];simp) (q3 b o w).1,(q3 b o w).2⟩,λk q w=>?_,q5⟩
    dsimp only at w
    split at w
    ·cases w;exact q2.free h1
    ·exact q4 k q w
   | no=>trivial
   | va m d=>exact a.sl j _ e
   | ow m ds =>
    obtain ⟨q,us,w1,w2,w3⟩:=a.sl j _ e
    exact ⟨q,us,w1,(if_neg z').trans w2,w3⟩
   | ol q ds =>
    obtain ⟨us,w1,w2,w3⟩:=a.sl j _ e
    exact ⟨us,w1,(if_neg z').trans w2,w3⟩
   | ob m C q dx fs =>
    obtain ⟨us,w1,w2,w3⟩:=a.sl j _ e
    exact ⟨us,w1,(if_neg z').trans w2,w3⟩
theorem At.turn {F0 Hb F H:Hp} {σ:St} {own:Nat->Option Addr} {Γ:Ctx} (a:At F0 Hb F H σ own Γ) {i:Nat} {m n:Bool} {ds es:List Ds} {p:Addr} {ws:List V} (e:Γ[i]?=some (.ow m ds)) (ep:σ[i]?=some (some (.ref p)))
  (h:Paired (λv (d:Ds)=>d.pr (part n F Hb) v) ws es):At F0 Hb F (upd H p (.lst ws)) σ own (Γ.set i (.ow n es)):=by
 obtain ⟨p',vs,e1,e2,hf,hb,hp,_⟩:=a.sl i _ e
 rw [ep] at e1
 have e1':p=p':=by
  have:some (V.ref p)=some (V.ref p'):=e1
  cases this;rfl
 subst e1'
 refine ⟨a.g.setH hf hb,a.inj,λj q ej=>?_,λj s es'=>?_,by simp [a.len]⟩
 ·by_cases z:q=p
  ·subst z;rw [upd_same];simp
  ·rw [upd_ne z];exact a.liv j q ej
 ·by_cases z:i=j
  ·subst z
   have hi:i<Γ.length:=(List.getElem?_eq_some_iff.mp e).1
   rw [List.getElem?_set_self hi] at es'
   cases es'
   exact ⟨p,ws,by rw [ep];rfl,e2,hf,hb,upd_same,h⟩
  ·rw [List.getElem?_set_ne z] at es'
   have:=a.sl j s es'
   cases s with
   | no=>trivial
   | tl d =>
    obtain ⟨x,R,q1,q2,q3,q4,q5⟩:=this
    exact ⟨x,R,q1,λb o w=>by rw [upd_ne (ne_of_none w (q4 i p e2))];exact q2 b o w,q3,q4,q5⟩
   | va m d=>exact this
   | ow m ds =>
    obtain ⟨q,us,h1,h2,h3,h4,h5,h6⟩:=this
    have:q≠p:=λw=>by subst w;exact z (a.inj i j q e2 h2)
    exact ⟨q,us,h1,h2,h3,h4,by rw [upd_ne this];exact h5,h6⟩
   | ol q ds =>
    obtain ⟨us,h1,h2,h3,h4,h5,h6⟩:=this
    have:q≠p:=λw=>by subst w;exact z (a.inj i j q e2 h2)
    exact ⟨us,h1,h2,h3,h4,by rw [upd_ne this];exact h5,h6⟩
   | ob m C q dx fs =>
    obtain ⟨us,h1,h2,h3,h4,h5,h6⟩:=this
    have n1:q≠p:=λw=>by subst w;exact z (a.inj i j q e2 h2)
    have n2:dx≠p:=ziT h5.2 hp (by intro z;cases z)
    exact ⟨us,h1,h2,h3,h4,⟨by rw [upd_ne n1];exact h5.1,by rw [upd_ne n2];exact h5.2⟩,h6⟩
theorem At.turnOb {F0 Hb F H:Hp} {σ:St} {own:Nat->Option Addr} {Γ:Ctx} (a:At F0 Hb F H σ own Γ) {i:Nat} {m n:Bool} {C p dx:Addr} {fs gs:List (Str×Ds)} {ws:List (Str×V)} (e:Γ[i]?=some (.ob m C p dx fs))
  (h:Paired (λ(a:Str×V) (b:Str×Ds)=>a.1=b.1∧b.2.pr (part n F Hb) a.2) ws gs):At F0 Hb F (upd H p (.ins C dx ws)) σ own (Γ.set i (.ob n C p dx gs)):=by
 obtain ⟨vs,e1,e2,hf,hb,hp,_⟩:=a.sl i _ e
 have ndp:dx≠p:=ziT hp.2 hp.1 (by intro z;cases z)
 refine ⟨a.g.setH hf.1 hb.1,a.inj,λj q ej=>?_,λj s es'=>?_,by simp [a.len]⟩
 ·by_cases z:q=p
  ·subst z;rw [upd_same];simp
  ·rw [upd_ne z];exact a.liv j q ej
 ·by_cases z:i=j
  ·subst z
   have hi:i<Γ.length:=(List.getElem?_eq_some_iff.mp e).1
   rw [List.getElem?_set_self hi] at es'
   cases es'
   exact ⟨ws,e1,e2,hf,hb,⟨upd_same,by rw [upd_ne ndp];exact hp.2⟩,h⟩
  ·rw [List.getElem?_set_ne z] at es'
   have:=a.sl j s es'
   cases s with
   | no=>trivial
   | tl d =>
    obtain ⟨x,R,q1,q2,q3,q4,q5⟩:=this
    exact ⟨x,R,q1,λb o w=>by rw [upd_ne (ne_of_none w (q4 i p e2))];exact q2 b o w,q3,q4,q5⟩
   | va m d=>exact this
   | ow m ds =>
    obtain ⟨q,us,h1,h2,h3,h4,h5,h6⟩:=this
    have:q≠p:=λw=>by subst w;exact z (a.inj i j q e2 h2)
    exact ⟨q,us,h1,h2,h3,h4,by rw [upd_ne this];exact h5,h6⟩
   | ol q ds =>
    obtain ⟨us,h1,h2,h3,h4,h5,h6⟩:=this
    have:q≠p:=λw=>by subst w;exact z (a.inj i j q e2 h2)
    exact ⟨us,h1,h2,h3,h4,by rw [upd_ne this];exact h5,h6⟩
   | ob m C q dy fs =>
    obtain ⟨us,h1,h2,h3,h4,h5,h6⟩:=this
    have n1:q≠p:=λw=>by subst w;exact z (a.inj i j q e2 h2)
    have n2:dy≠p:=ziT h5.2 hp.1 (by intro z;cases z)
    exact ⟨us,h1,h2,h3,h4,⟨by rw [upd_ne n1];exact h5.1,by rw [upd_ne n2];exact h5.2⟩,h6⟩
inductive Wk:Ctx->Ctx->Prop where
 | nil:Wk [] []
 | eq {s Γ Δ}:Wk Γ Δ->Wk (s :: Γ) (s :: Δ)
 | no {s Γ Δ}:Wk Γ Δ->Wk (s :: Γ) (.no :: Δ)
 | old {m d Γ Δ}:Wk Γ Δ->Wk (.va m d :: Γ) (.va false d :: Δ)
 | oldL {m d Γ Δ}:Wk Γ Δ->Wk (.ow m d :: Γ) (.ow false d :: Δ)
theorem Wk.refl:∀ Γ:Ctx,Wk Γ Γ
 | []=>.nil
 | _ :: Γ=>.eq (Wk.refl Γ)
theorem Wk.len {Γ Δ:Ctx} (h:Wk Γ Δ):Γ.length=Δ.length:=by
 induction h<;>simp_all
theorem Wk.slot {Γ Δ:Ctx} (h:Wk Γ Δ):∀ {i:Nat} {s:Slot},Δ[i]?=some s->∃ r,Γ[i]?=some r∧∀ {Hb F H:Hp} {own:Nat->Option Addr} {j:Nat} {v:Option V},zdK Hb F H own j v r->zdK Hb F H own j v s:=by
 induction h with
 | nil=>intro i s e;simp at e
 | eq _ ih =>
  intro i s e
  cases i with
  | zero=>simp at e;subst e;exact ⟨_,rfl,λh=>h⟩
  | succ i=>simpa using ih (i:=i) (s:=s) (by simpa using e)
 | no _ ih =>
  intro i s e
  cases i with
  | zero=>simp at e;subst e;exact ⟨_,rfl,λ_=>trivial⟩
  | succ i=>simpa using ih (i:=i) (s:=s) (by simpa using e)
 | old _ ih =>
  intro i s e
  cases i with
  | zero=>simp at e;subst e;exact ⟨_,rfl,λ⟨x,h1,h2⟩=>⟨x,h1,Ds.up _ part_sub h2⟩⟩
  | succ i=>simpa using ih (i:=i) (s:=s) (by simpa using e)
 | oldL _ ih =>
  intro i s e
  cases i with
  | zero=>simp at e;subst e;exact ⟨_,rfl,λ⟨p,vs,h1,h2,h3,h4,h5,h6⟩=>⟨p,vs,h1,h2,h3,h4,h5,pr_up (ds:=[]) part_sub h6⟩⟩
  | succ i=>simpa using ih (i:=i) (s:=s) (by simpa using e)
theorem At.wk {F0 Hb F H:Hp} {σ:St} {own:Nat->Option Addr} {Γ Δ:Ctx} (a:At F0 Hb F H σ own Γ) (w:Wk Γ Δ):At F0 Hb F H σ own Δ :=
 ⟨a.g,a.inj,a.liv,λi s e=>by
  obtain ⟨r,e1,h⟩:=w.slot e
  exact h (a.sl i r e1),by rw [a.len,w.len]⟩
theorem At.share {F0 Hb F H:Hp} {σ:St} {own:Nat->Option Addr} {Γ:Ctx} (a:At F0 Hb F H σ own Γ) {i:Nat} {m:Bool} {ds:List Ds} (e:Γ[i]?=some (.ow m ds)) :
  ∃ F' own',Grow F0 Hb F' H∧At F0 Hb F' H σ own' (Γ.set i (.va m (dL ds))):=by
 obtain ⟨p,vs,e1,e2,hf,hb,hp,hq⟩:=a.sl i _ e
 have g:=a.g.take hb hp
 have fs:Same F (upd F p (.lst vs)):=Same.new hf _
 refine ⟨upd F p (.lst vs),λj=>if j=i then none else own j,g,g,λj k q h1 h2=>?_,λj q h1=>?_,λj s es=>?_,by simp [a.len]⟩
 ·skip
  split at h1
  ·cases h1
  ·split at h2
   ·cases h2
   ·exact a.inj j k q h1 h2
 ·skip
  split at h1
  ·cases h1
  ·exact a.liv j q h1
 ·by_cases z:i=j
  ·subst z
   have hi:i<Γ.length:=(List.getElem?_eq_some_iff.mp e).1
   rw [List.getElem?_set_self hi] at es
   cases es
   exact ⟨.ref p,e1,p,vs,rfl,zdm hb upd_same,pr_up (ds:=[]) (part_up fs) hq⟩
  ·rw [List.getElem?_set_ne z] at es
   have z':¬ j=i:=Ne.symm z
   have:=a.sl j s es
   cases s with
   | no=>trivial
   | tl d =>
    obtain ⟨x,R,q1,q2,q3,q4,q5⟩:=this
    refine ⟨x,R,q1,q2,λb o w=>⟨by rw [upd_ne (ne_of_none w (q4 i p e2))];exact (q3 b o w).1,(q3 b o w).2⟩,λk q w=>?_,q5⟩
    dsimp only at w
    split at w
    ·cases w
    ·exact q4 k q w
   | va m d=>obtain ⟨x,h1,h2⟩:=this;exact ⟨x,h1,d.up (part_up fs) h2⟩
   | ow m ds =>
    obtain ⟨q,us,h1,h2,h3,h4,h5,h6⟩:=this
    have:q≠p:=λw=>by subst w;exact z (a.inj i j q e2 h2)
    exact ⟨q,us,h1,(if_neg z').trans h2,by rw [upd_ne this];exact h3,h4,h5,pr_up (ds:=[]) (part_up fs) h6⟩
   | ol q ds =>
    obtain ⟨us,h1,h2,h3,h4,h5,h6⟩:=this
    have:q≠p:=λw=>by subst w;exact z (a.inj i j q e2 h2)
    exact ⟨us,h1,(if_neg z').trans h2,by rw [upd_ne this];exact h3,h4,h5,pr_up (ds:=[]) fs h6⟩
   | ob m C q dx gs =>
    obtain ⟨us,h1,h2,h3,h4,h5,h6⟩:=this
    have n1:q≠p:=λw=>by subst w;exact z (a.inj i j q e2 h2)
    have n2:dx≠p:=ziT h5.2 hp (by intro z;cases z)
    exact ⟨us,h1,(if_neg z').trans h2,⟨by rw [upd_ne n1];exact h3.1,by rw [upd_ne n2];exact h3.2⟩,h4,h5,paired_imp (λ_ b z=>⟨z.1,b.2.up (part_up fs) z.2⟩) h6⟩
end L2
namespace L2
open PySem PySem.Spec PyProof.Rows
def Ev (Γ:Ctx) (t:TE) (m:Bool) (d:Ds):Prop:=∀ (F0 Hb F H:Hp) (σ:St) (own:Nat->Option Addr) (Q:VK),At F0 Hb F H σ own Γ →
 (∀ v F' H',Grow F H F' H'->d.pr (part m F' Hb) v->Q v H')->t σ H Q
def EvO (Γ:Ctx) (t:TE) (m:Bool) (ds:List Ds):Prop:=∀ (F0 Hb F H:Hp) (σ:St) (own:Nat->Option Addr) (Q:VK),At F0 Hb F H σ own Γ →
 (∀ p vs F' H',Grow F H F' H'->H p=none->F' p=none->H' p=some (.lst vs)->Paired (λv (d:Ds)=>d.pr (part m F' Hb) v) vs ds->Q (.ref p) H')->t σ H Q
def EvT (Γ:Ctx) (t:TT) (b:Bool):Prop:=∀ (F0 Hb F H:Hp) (σ:St) (own:Nat->Option Addr) (Q:Bool->Hp->Prop),At F0 Hb F H σ own Γ →
 (∀ F' H',Grow F H F' H'->Q b H')->t σ H Q
def EvA (Γ:Ctx) (t:TA) (m:Bool) (ds:List Ds):Prop:=∀ (F0 Hb F H:Hp) (σ:St) (own:Nat->Option Addr) (Q:List V->Hp->Prop),At F0 Hb F H σ own Γ →
 (∀ vs F' H',Grow F H F' H'->Paired (λv (d:Ds)=>d.pr (part m F' Hb) v) vs ds->Q vs H')->t σ H Q
def EvP (Γ:Ctx) (t:TO) (i:Option Int):Prop:=∀ (F0 Hb F H:Hp) (σ:St) (own:Nat->Option Addr) (Q:Option Int->Hp->Prop),At F0 Hb F H σ own Γ →
 (∀ F' H',Grow F H F' H'->Q i H')->t σ H Q
theorem At.free {F0 Hb F H:Hp} {σ:St} {own:Nat->Option Addr} {Γ:Ctx} (a:At F0 Hb F H σ own Γ) {F' H':Hp} (g:Grow F H F' H') {p:Addr} (h:H' p=none):H p=none∧F' p=none∧Hb p=none:=by
 have h1:=g.h.free h
 exact ⟨h1,g.fh.free h,a.g.h.free h1⟩
section
variable {Γ:Ctx} {t ta tb:TE} {m n:Bool} {d e:Ds} {ds es:List Ds} {K:W.Frag}
theorem Ev.old (h:Ev Γ t m d):Ev Γ t false d:=λF0 Hb F H σ own Q a k=>h F0 Hb F H σ own Q a λv F' H' g q=>k v F' H' g (d.up part_sub q)
theorem Ev.conv (h:Ev Γ t m d) (e':d=e):Ev Γ t m e:=e' ▸ h
theorem EvO.conv (h:EvO Γ t m ds) (e':ds=es):EvO Γ t m es:=e' ▸ h
theorem EvT.conv {t:TT} {b c:Bool} (h:EvT Γ t b) (e':b=c):EvT Γ t c:=e' ▸ h
theorem EvO.ev (h:EvO Γ t m ds):Ev Γ t m (dL ds):=λF0 Hb F H σ own Q a k=>h F0 Hb F H σ own Q a λp vs F' H' g h1 h2 h3 q=>by
 have fs:Same F' (upd F' p (.lst vs)):=Same.new h2 _
 exact k (.ref p) (upd F' p (.lst vs)) H' (g.take h1 h3) ⟨p,vs,rfl,zdm (a.g.h.free h1) upd_same,pr_up (ds:=[]) (part_up fs) q⟩
theorem Ev.weak (h:Ev Γ t m (dL ds)):Ev Γ t m (dQ K ds):=λF0 Hb F H σ own Q a k=>h F0 Hb F H σ own Q a λv F' H' g ⟨p,vs,h1,h2,h3⟩=>k v F' H' g ⟨p,vs,h1,SqL.of h2,h3⟩
theorem zaa {i:Nat} (h:Γ[i]?=some (.va m d)):Ev Γ (tVar i) m d:=λF0 Hb F H σ own Q a k=>by
 obtain ⟨x,e,q⟩:=a.sl i _ h
 have hi:i<σ.length:=by rw [a.len];exact (List.getElem?_eq_some_iff.mp h).1
 rw [List.getElem?_eq_getElem hi] at e
 have e':σ[i]=some x:=e
 exact ⟨x,by rw [List.getElem?_eq_getElem hi,e'],k x F H (Grow.refl a.fh) q⟩
theorem zaw {v:V}:Ev Γ (tC v) m (dV v):=λF0 Hb F H σ own Q a k=>k v F H (Grow.refl a.fh) rfl
theorem zaF {g:Int->Int->V} {x y:Int} (h1:Ev Γ ta false (dI x)) (h2:Ev Γ tb false (dI y)):Ev Γ (tOp (rI0 g) ta tb) m (dV (g x y)):=λF0 Hb F H σ own Q a k =>
 h1 F0 Hb F H σ own _ a λu F1 H1 g1 q1=>h2 F0 Hb F1 H1 σ own _ (a.grow g1) λv F2 H2 g2 q2=>⟨x,y,q1,q2,k _ F2 H2 (g1.trans g2) rfl⟩
theorem zav {C:Int->Int->Prop} {g:Int->Int->V} {x y:Int} (h1:Ev Γ ta false (dI x)) (h2:Ev Γ tb false (dI y)) (c:C x y):Ev Γ (tOp (rI C g) ta tb) m (dV (g x y)):=λF0 Hb F H σ own Q a k =>
 h1 F0 Hb F H σ own _ a λu F1 H1 g1 q1=>h2 F0 Hb F1 H1 σ own _ (a.grow g1) λv F2 H2 g2 q2=>⟨x,y,q1,q2,c,k _ F2 H2 (g1.trans g2) rfl⟩
theorem zkY {v w:V} (h1:Ev Γ ta false (dV v)) (h2:Ev Γ tb false (dV w)) (hs:scal v w=true):Ev Γ (tOp rEq ta tb) m (dB (decide (v=w))):=λF0 Hb F H σ own Q a k =>
 h1 F0 Hb F H σ own _ a λu F1 H1 g1 q1=>h2 F0 Hb F1 H1 σ own _ (a.grow g1) λv F2 H2 g2 q2=>by
  cases q1;cases q2;exact ⟨hs,k _ F2 H2 (g1.trans g2) rfl⟩
theorem zly {v w:V} (h1:Ev Γ ta false (dV v)) (h2:Ev Γ tb false (dV w)) (hs:scal v w=true):Ev Γ (tOp rNe ta tb) m (dB (!decide (v=w))):=λF0 Hb F H σ own Q a k =>
 h1 F0 Hb F H σ own _ a λu F1 H1 g1 q1=>h2 F0 Hb F1 H1 σ own _ (a.grow g1) λv F2 H2 g2 q2=>by
  cases q1;cases q2;exact ⟨hs,k _ F2 H2 (g1.trans g2) rfl⟩
theorem zhE (x y:Int):decide (V.int x=V.int y)=decide (x=y):=by simp
theorem zc3 {x y:Int} (h1:Ev Γ ta false (dI x)) (h2:Ev Γ tb false (dI y)):Ev Γ (tOp rEq ta tb) m (dB (decide (x=y))):=(zkY h1 h2 rfl).conv (by rw [zhE])
theorem zdM {x y:Int} (h1:Ev Γ ta false (dI x)) (h2:Ev Γ tb false (dI y)):Ev Γ (tOp rNe ta tb) m (dB (!decide (x=y))):=(zly h1 h2 rfl).conv (by rw [zhE])
theorem zjL (x y:Str):decide (V.str x=V.str y)=decide (x=y):=by simp
theorem zj6 {x y:Str} (h1:Ev Γ ta false (dS x)) (h2:Ev Γ tb false (dS y)):Ev Γ (tOp rEq ta tb) m (dB (decide (x=y))):=(zkY h1 h2 rfl).conv (by rw [zjL])
theorem zal {b:Bool} (h:Ev Γ t false (dB b)):EvT Γ (zkk t) b:=λF0 Hb F H σ own Q a k=>h F0 Hb F H σ own _ a λv F' H' g q=>⟨b,q,k F' H' g⟩
theorem zeV {b:Bool} (h:Ev Γ t false (dB b)):EvT Γ (tB t) b:=λF0 Hb F H σ own Q a k=>h F0 Hb F H σ own _ a λv F' H' g q=>⟨b,q,k F' H' g⟩
theorem ze1 {t:TT} {b:Bool} (h:EvT Γ t b):EvT Γ (zlX t) (!b):=λF0 Hb F H σ own Q a k=>h F0 Hb F H σ own _ a λF' H' g=>k F' H' g
theorem zet {t u:TT} {b c:Bool} (h:EvT Γ t b) (h2:b=true->EvT Γ u c):EvT Γ (zl3 t u) (b&&c):=λF0 Hb F H σ own Q a k=>h F0 Hb F H σ own _ a λF' H' g=>by
 cases b with
 | true=>exact h2 rfl F0 Hb F' H' σ own Q (a.grow g) λF2 H2 g2=>k F2 H2 (g.trans g2)
 | false=>exact k F' H' g
theorem zhM {t u:TT} {b c:Bool} (h:EvT Γ t b) (h2:b=false->EvT Γ u c):EvT Γ (tOr t u) (b||c):=λF0 Hb F H σ own Q a k=>h F0 Hb F H σ own _ a λF' H' g=>by
 cases b with
 | false=>exact h2 rfl F0 Hb F' H' σ own Q (a.grow g) λF2 H2 g2=>k F2 H2 (g.trans g2)
 | true=>exact k F' H' g
theorem zhR {b c:Bool} (h:Ev Γ ta false (dB b)) (h2:b=true->Ev Γ tb false (dB c)):Ev Γ (zkH ta tb) m (dB (b&&c)):=λF0 Hb F H σ own Q a k=>h F0 Hb F H σ own _ a λv F' H' g q=>⟨b,q,by
 cases b with
 | true=>exact h2 rfl F0 Hb F' H' σ own Q (a.grow g) λv F2 H2 g2 q2=>k v F2 H2 (g.trans g2) q2
 | false=>exact k _ F' H' g rfl⟩
theorem zk5 {b:Bool} (h:Ev Γ ta false (dB b)):Ev Γ (zkX ta) m (dB (!b)):=λF0 Hb F H σ own Q a k=>h F0 Hb F H σ own _ a λv F' H' g q=>⟨b,q,k _ F' H' g rfl⟩
theorem zaf:EvA Γ tNil m []:=λF0 Hb F H σ own Q a k=>k [] F H (Grow.refl a.fh) .nil
theorem zab {tr:TA} (h:Ev Γ ta m d) (h2:EvA Γ tr m ds):EvA Γ (tCons ta tr) m (d :: ds):=λF0 Hb F H σ own Q a k =>
 h F0 Hb F H σ own _ a λv F1 H1 g1 q1=>h2 F0 Hb F1 H1 σ own _ (a.grow g1) λvs F2 H2 g2 q2=>k _ F2 H2 (g1.trans g2) (.cons (d.up (part_up g2.f) q1) q2)
theorem zch {tr:TA} (h:EvA Γ tr m ds) (hz:ds.length≤sizeLine):EvO Γ (zlJ tr) m ds:=λF0 Hb F H σ own Q a k =>
 h F0 Hb F H σ own _ a λvs F1 H1 g1 q1=>⟨by rw [Paired.length q1];exact hz,λp hp=>by
  obtain ⟨h1,h2,h3⟩:=a.free g1 hp
  exact k p vs F1 _ (g1.newH hp) h1 h2 upd_same q1⟩
theorem zeF {tr:TA} (h:EvA Γ tr m ds) (hz:ds.length≤sizeLine):Ev Γ (zl5 tr) m (dT ds):=λF0 Hb F H σ own Q a k =>
 h F0 Hb F H σ own _ a λvs F1 H1 g1 q1=>⟨by rw [Paired.length q1];exact hz,λp hp=>by
  obtain ⟨h1,h2,h3⟩:=a.free g1 hp
  exact k (.ref p) _ _ (g1.new hp) ⟨p,vs,rfl,zdm h3 upd_same,pr_up (ds:=[]) (part_up (Same.new h2 _)) q1⟩⟩
theorem zej {tr:TA} (h:EvA Γ tr m []):EvO Γ (zlJ tr) m []:=zch h (Nat.zero_le _)
theorem zeT {R:V->Ds->Prop} {vs:List V} {ds:List Ds} {i:Int} {d:Ds} (h:Paired R vs ds) (e:atI ds i=some d):∃ v,atI vs i=some v∧R v d:=by
 unfold atI at e ⊢
 rw [Paired.length h]
 cases q:ixN ds.length i with
 | none=>rw [q] at e;cases e
 | some j =>
  rw [q] at e
  obtain ⟨v,e1,r⟩:=zaC h (show ds[j]?=some d from e)
  exact ⟨v,e1,r⟩
theorem zhv {α β:Type} {f:α->β} {xs:List α} {i:Int} {x:α} (e:atI xs i=some x):atI (xs.map f) i=some (f x):=by
 unfold atI at e ⊢
 rw [List.length_map]
 cases q:ixN xs.length i with
 | none=>rw [q] at e;cases e
 | some j =>
  rw [q] at e
  have e':xs[j]?=some x:=e
  show (xs.map f)[j]?=_
  rw [List.getElem?_map,e']
  rfl
theorem zlv {i:Int} (h1:Ev Γ ta m (dQ K ds)) (h2:Ev Γ tb false (dI i)) (e:atI ds i=some d):Ev Γ (tOp (zj1 K) ta tb) m d:=λF0 Hb F H σ own Q a k =>
 h1 F0 Hb F H σ own _ a λu F1 H1 g1 ⟨p,vs,e1,e2,e3⟩=>h2 F0 Hb F1 H1 σ own _ (a.grow g1) λv F2 H2 g2 q2=>by
  obtain ⟨x,ex,rx⟩:=zeT e3 e
  exact ⟨p,vs,i,x,e1,q2,(part_sub.trans (g2.f.trans g2.fh)).seq e2,ex,k x F2 H2 (g1.trans g2) (d.up (part_up g2.f) rx)⟩
theorem zlh {t:TE} (h1:Ev Γ t false (dQ K ds)):Ev Γ (tCB (λxs H Q=>∃ p ys,xs=[.ref p]∧(SqL K H p ys∨SqT K H p ys)∧Q (.int ys.length) H) (tCons t tNil)) m (dI ds.length):=λF0 Hb F H σ own Q a k =>
 h1 F0 Hb F H σ own _ a λu F1 H1 g1 ⟨p,vs,e1,e2,e3⟩=>⟨p,vs,by rw [e1],.inl (g1.fh.seq e2),k _ F1 H1 g1 (by show V.int _=_;rw [Paired.length e3])⟩
theorem zdW {t:TE} (h1:Ev Γ t m (dQ K ds)):EvO Γ (tCB (λxs H Q=>∃ p ys,xs=[.ref p]∧(SqL K H p ys∨SqT K H p ys)∧∀ l,H l=none->Q (.ref l) (upd H l (.lst ys))) (tCons t tNil)) m ds:=λF0 Hb F H σ own Q a k =>
 h1 F0 Hb F H σ own _ a λu F1 H1 g1 ⟨p,vs,e1,e2,e3⟩=>⟨p,vs,by rw [e1],.inl ((part_sub.trans g1.fh).seq e2),λl hl=>by
  obtain ⟨h1,h2,h3⟩:=a.free g1 hl
  exact k l vs F1 _ (g1.newH hl) h1 h2 upd_same e3⟩
theorem zcX:EvP Γ zh8 none:=λF0 Hb F H σ own Q a k=>k F H (Grow.refl a.fh)
theorem zbB {i:Int} (h:Ev Γ t false (dI i)):EvP Γ (zlc t) (some i):=λF0 Hb F H σ own Q a k=>h F0 Hb F H σ own _ a λv F' H' g q=>⟨i,q,k F' H' g⟩
def cutD {α:Type} (xs:List α) (lo hi:Option Int):List α:=(xs.drop (HT.sIx xs.length 0 lo)).take (HT.sIx xs.length xs.length hi-HT.sIx xs.length 0 lo)
theorem ziK {α β:Type} {f:α->β} {xs:List α} {lo hi:Option Int}:(cutD xs lo hi).map f=cutD (xs.map f) lo hi:=by
 unfold cutD;rw [List.map_take,List.map_drop,List.length_map]
theorem zky {tl th:TO} {lo hi:Option Int} (h1:Ev Γ t m (dQ K ds)) (h2:EvP Γ tl lo) (h3:EvP Γ th hi):EvO Γ (tSl (zlm K) t tl th) m (cutD ds lo hi):=λF0 Hb F H σ own Q a k =>
 h1 F0 Hb F H σ own _ a λu F1 H1 g1 ⟨p,vs,e1,e2,e3⟩=>h2 F0 Hb F1 H1 σ own _ (a.grow g1) λF2 H2 g2=>h3 F0 Hb F2 H2 σ own _ ((a.grow g1).grow g2) λF3 H3 g3 =>
  ⟨p,vs,e1,(part_sub.trans (g1.fh.trans (g2.h.trans g3.h))).seq e2,λl hl=>by
   have g:=g1.trans (g2.trans g3)
   obtain ⟨h1,h2,h3⟩:=a.free g hl
   refine k l _ F3 _ (g.newH hl) h1 h2 upd_same ?_
   unfold zkn cutD
   rw [Paired.length e3]
   exact paired_take _ (zeq _ (pr_up (ds:=[]) (part_up (g2.f.trans g3.f)) e3))⟩
theorem zkd {es:List Ds} (h1:Ev Γ ta m (dL ds)) (h2:Ev Γ tb m (dL es)) (hz:ds.length+es.length≤sizeLine):EvO Γ (tOp zlR ta tb) m (ds++es):=λF0 Hb F H σ own Q a k =>
 h1 F0 Hb F H σ own _ a λu F1 H1 g1 ⟨p,vs,e1,e2,e3⟩=>h2 F0 Hb F1 H1 σ own _ (a.grow g1) λv F2 H2 g2 ⟨q,ws,f1,f2,f3⟩ =>
  ⟨p,q,vs,ws,e1,f1,(part_sub.trans (g2.f.trans g2.fh)) _ _ e2,(part_sub.trans g2.fh) _ _ f2,by rw [Paired.length e3,Paired.length f3];exact hz,λl hl=>by
   have g:=g1.trans g2
   obtain ⟨h1,h2,h3⟩:=a.free g hl
   exact k l _ F2 _ (g.newH hl) h1 h2 upd_same (zbb (pr_up (ds:=[]) (part_up g2.f) e3) f3)⟩
theorem zkz {n:Int} (h1:Ev Γ ta m (dL ds)) (h2:Ev Γ tb false (dI n)) (hn:-(2^63)≤n∧n<2^63) (hz:ds.length*n.toNat≤sizeLine):EvO Γ (tOp zlw ta tb) m (List.replicate n.toNat ds).flatten:=λF0 Hb F H σ own Q a k =>
 h1 F0 Hb F H σ own _ a λu F1 H1 g1 ⟨p,vs,e1,e2,e3⟩=>h2 F0 Hb F1 H1 σ own _ (a.grow g1) λv F2 H2 g2 q2 =>
  ⟨p,n,vs,e1,q2,(part_sub.trans (g2.f.trans g2.fh)) _ _ e2,hn.1,hn.2,by rw [Paired.length e3];exact hz,λl hl=>by
   have g:=g1.trans g2
   obtain ⟨h1,h2,h3⟩:=a.free g hl
   exact k l _ F2 _ (g.newH hl) h1 h2 upd_same (paired_rep (pr_up (ds:=[]) (part_up g2.f) e3) _)⟩
theorem zk0 {d:Ds} {b:Bool} (h1:Ev Γ ta false d) (h2:Ev Γ tb false dN) (hb:∀ H v,d.pr H v->decide (v=V.non)=b):Ev Γ (tOp (λx y H Q=>y=.non∧Q (.bl (decide (x=.non))) H) ta tb) m (dB b):=λF0 Hb F H σ own Q a k =>
 h1 F0 Hb F H σ own _ a λu F1 H1 g1 q1=>h2 F0 Hb F1 H1 σ own _ (a.grow g1) λv F2 H2 g2 q2=>⟨q2,k _ F2 H2 (g1.trans g2) (by show V.bl _=_;rw [hb _ _ q1])⟩
theorem zjS {d:Ds} {b:Bool} (h1:Ev Γ ta false d) (h2:Ev Γ tb false dN) (hb:∀ H v,d.pr H v->decide (v=V.non)=b):Ev Γ (tOp (λx y H Q=>y=.non∧Q (.bl (!decide (x=.non))) H) ta tb) m (dB (!b)):=λF0 Hb F H σ own Q a k =>
 h1 F0 Hb F H σ own _ a λu F1 H1 g1 q1=>h2 F0 Hb F1 H1 σ own _ (a.grow g1) λv F2 H2 g2 q2=>⟨q2,k _ F2 H2 (g1.trans g2) (by show V.bl _=_;rw [hb _ _ q1])⟩
theorem zi4 {x y:Int} {tr:TA} (h:EvA Γ tr false [dI x,dI y]):Ev Γ (tCB (λxs H Q=>∃ i j,xs=[.int i,.int j]∧Q (.int (if j > i then j else i)) H) tr) m (dI (max x y)):=λF0 Hb F H σ own Q a k =>
 h F0 Hb F H σ own _ a λvs F1 H1 g1 q=>by
  cases q with | cons q1 q=>cases q with | cons q2 q=>cases q;cases q1;cases q2;exact ⟨x,y,rfl,k _ F1 H1 g1 (by show V.int _=V.int _;congr 1;omega)⟩
theorem zhH {b:Bool} {tr:TA} (h:EvA Γ tr false [dB b]):Ev Γ (tCB (λxs H Q=>(∃ i,xs=[.int i]∧Q (.int i) H)∨∃ k,xs=[.bl k]∧Q (.int (if k then 1 else 0)) H) tr) m (dI (if b then 1 else 0)):=λF0 Hb F H σ own Q a k =>
 h F0 Hb F H σ own _ a λvs F1 H1 g1 q=>by
  cases q with | cons q1 q=>cases q;cases q1;exact .inr ⟨b,rfl,k _ F1 H1 g1 rfl⟩
theorem zek {f:α->V} {R:Hp} {xs:List α}:∀ {vs:List V},Paired (λv (d:Ds)=>d.pr R v) vs (xs.map λx=>dV (f x))->vs=xs.map f:=by
 induction xs with
 | nil=>intro vs h;cases h;rfl
 | cons x xs ih=>intro vs h;cases h with | cons h1 h2=>rw [ih h2,h1];rfl
theorem zkI {xs:List Int} {t:TE} (h1:Ev Γ t false (dQ K (xs.map dI))):Ev Γ (tCB (λxs H Q=>∃ (a:Addr) (ns:List Int),xs=[.ref a]∧SqL K H a (ns.map V.int)∧Q (.int ns.sum) H) (tCons t tNil)) m (dI xs.sum):=λF0 Hb F H σ own Q a k =>
 h1 F0 Hb F H σ own _ a λu F1 H1 g1 ⟨p,vs,e1,e2,e3⟩=>⟨p,xs,by rw [e1],by rw [← zek e3];exact g1.fh.seq e2,k _ F1 H1 g1 rfl⟩
theorem zdH {H:Hp} {f:Str} {d:Ds}:∀ {vs:List (Str×V)} {fs:List (Str×Ds)},Paired (λ(a:Str×V) (b:Str×Ds)=>a.1=b.1∧b.2.pr H a.2) vs fs->fs.lookup f=some d->∃ v,vs.lookup f=some v∧d.pr H v
 | _,_,.nil,e=>by cases e
 | _,_,.cons (a:=(x,v)) (b:=(y,d')) ⟨h1,h2⟩ t,e=>by
  have h1:x=y:=h1
  subst h1
  simp only [List.lookup_cons] at e ⊢
  cases q:f == x with
  | true=>rw [q] at e;cases e;exact ⟨v,rfl,h2⟩
  | false=>rw [q] at e;exact zdH t e
theorem zdQ {C:Addr} {fs:List (Str×Ds)} {f:Str} (h1:Ev Γ ta m (dO C fs)) (c:Cls K C) (nf:NoAttr K C f) (e:fs.lookup f=some d):Ev Γ (tFld K ta f) m d:=λF0 Hb F H σ own Q a k =>
 h1 F0 Hb F H σ own _ a λu F1 H1 g1 ⟨p,dx,vs,e1,e2,e3,e4⟩=>by
  obtain ⟨v,ev,qv⟩:=zdH e4 e
  exact ⟨p,C,dx,vs,v,e1,(part_sub.trans g1.fh) _ _ e2,c,nf,ev,k v F1 H1 g1 qv⟩
inductive Rs where
 | va (m:Bool) (d:Ds)
 | ow (m:Bool) (ds:List Ds)
 | ex (C:Addr)
def Spv {ι:Type} (args:ι->List Ds) (pre:ι->Prop) (res:ι->Rs):Sp:=λvs H Q E=>∃ (x:ι) (F:Hp),Same F H∧Paired (λv (d:Ds)=>d.pr F v) vs (args x)∧pre x∧match res x with
 | .ex C=>∀ dct F' H',Grow F H F' H'->E (.ref C) dct H'
 | .va m d=>∀ v F' H',Grow F H F' H'->d.pr (part m F' H) v->Q v H'
 | .ow m ds=>∀ p ws F' H',Grow F H F' H'->H p=none->F' p=none->H' p=some (.lst ws)->Paired (λv (d:Ds)=>d.pr (part m F' H) v) ws ds->Q (.ref p) H'
theorem part_old {m:Bool} {F Hb H:Hp} (e:Same Hb H):Same (part m F H) (part m F Hb):=by
 cases m with
 | true=>exact zhm e
 | false=>exact Same.refl _
theorem zaA {ι:Type} {args:ι->List Ds} {pre:ι->Prop} {res:ι->Rs} {tr:TA} {E:XK} (x:ι) (h:EvA Γ tr false ds) (ha:ds=args x) (hp:pre x) (hr:res x=.va m d):Ev Γ (tCall (Spv args pre res) [] E tr) m d:=λF0 Hb F H σ own Q a k=>by
 subst ha
 refine h F0 Hb F H σ own _ a λvs F1 H1 g1 q1=>⟨x,F1,g1.fh,by rw [List.append_nil];exact q1,hp,?_⟩
 rw [hr]
 exact λv F' H' g q=>k v F' H' (g1.trans g) (d.up (part_old (a.g.h.trans g1.h)) q)
theorem zgo {ι:Type} {args:ι->List Ds} {pre:ι->Prop} {res:ι->Rs} {tr:TA} {E:XK} (x:ι) (h:EvA Γ tr false es) (ha:es=args x) (hp:pre x) (hr:res x=.ow m ds):EvO Γ (tCall (Spv args pre res) [] E tr) m ds:=λF0 Hb F H σ own Q a k=>by
 subst ha
 refine h F0 Hb F H σ own _ a λvs F1 H1 g1 q1=>⟨x,F1,g1.fh,by rw [List.append_nil];exact q1,hp,?_⟩
 rw [hr]
 exact λp ws F' H' g h1 h2 h3 q=>k p ws F' H' (g1.trans g) (g1.h.free h1) h2 h3 (pr_up (ds:=[]) (part_old (a.g.h.trans g1.h)) q)
end
end L2
namespace L2
open PySem PySem.Spec PyProof.Rows
def zlO:List Nat->List V->St->St
 | j :: js,v :: vs,σ=>zlO js vs (σ.set j (some v))
 | _,_,σ=>σ
def zgY:List Nat->List Ds->Bool->Ctx->Ctx
 | j :: js,d :: ds,m,Γ=>zgY js ds m (Γ.set j (.va m d))
 | _,_,_,Γ=>Γ
theorem At.setMany {F0 Hb F H:Hp} {own:Nat->Option Addr} {m:Bool}:∀ {js:List Nat} {vs:List V} {ds:List Ds} {σ:St} {Γ:Ctx},At F0 Hb F H σ own Γ->Paired (λv (d:Ds)=>d.pr (part m F Hb) v) vs ds →
  At F0 Hb F H (zlO js vs σ) own (zgY js ds m Γ)
 | [],_,_,_,_,a,.nil=>a
 | [],_,_,_,_,a,.cons _ _=>a
 | _ :: _,_,_,_,_,a,.nil=>a
 | j :: js,_,_,_,_,a,.cons h t=>At.setMany (js:=js) (a.set j h) t
theorem At.unset {F0 Hb F H:Hp} {own:Nat->Option Addr} {σ:St} {Γ:Ctx} {j:Nat} {s:Slot} (a:At F0 Hb F H σ own (Γ.set j s)) (h:Γ[j]?=some .no):At F0 Hb F H σ own Γ :=
 ⟨a.g,a.inj,a.liv,λi r e=>by
  by_cases z:j=i
  ·subst z;rw [h] at e;cases e;trivial
  ·exact a.sl i r (by rw [List.getElem?_set_ne z];exact e),by rw [a.len];simp⟩
theorem At.unsetMany {F0 Hb F H:Hp} {own:Nat->Option Addr} {σ:St} {m:Bool}:∀ {js:List Nat} {ds:List Ds} {Γ:Ctx},At F0 Hb F H σ own (zgY js ds m Γ)->(∀ j∈js,Γ[j]?=some .no)->js.Nodup->At F0 Hb F H σ own Γ
 | [],[],_,a,_,_=>a
 | [],_ :: _,_,a,_,_=>a
 | _ :: _,[],_,a,_,_=>a
 | j :: js,d :: ds,Γ,a,h,hn=>by
  have hn:=List.nodup_cons.mp hn
  refine At.unset (At.unsetMany (js:=js) (ds:=ds) (Γ:=Γ.set j (.va m d)) a (λi hi=>?_) hn.2) (h j List.mem_cons_self)
  rw [List.getElem?_set_ne (λ(z:j=i)=>hn.1 (by rw [z];exact hi))]
  exact h i (List.mem_cons_of_mem _ hi)
def zlg {γ:Type} (Hb F:Hp) (J:It) (g:TG) (js:List Nat) (xs:List γ) (bds:γ->List Ds) (m:Bool):Prop:=∀ H,Same F H->J.stop xs.length H∧∀ i x,xs[i]?=some x->J.go i H ∧
 ∀ v H',J.yld i H v H'->Grow F H F H'∧∀ (σ:St) (Q:St->Hp->Prop),(∀ vs,Paired (λv (d:Ds)=>d.pr (part m F Hb) v) vs (bds x)->Q (zlO js vs σ) H')->g v σ H' Q
def Iv {γ:Type} (Γ:Ctx) (wi:TI) (g:TG) (js:List Nat) (xs:List γ) (bds:γ->List Ds) (m:Bool):Prop:=∀ (F0 Hb F H:Hp) (σ:St) (own:Nat->Option Addr) (R:It->Hp->Prop),At F0 Hb F H σ own Γ →
 (∀ J F' H',Grow F H F' H'->zlg Hb F' J g js xs bds m->R J H')->wi σ H R
section
variable {Γ:Ctx} {m:Bool} {K:W.Frag} {γ δ:Type}
theorem zlg.up {Hb F F':Hp} {J:It} {g:TG} {js:List Nat} {xs:List γ} {bds:γ->List Ds} (h:zlg Hb F J g js xs bds m) (e:Same F F'):zlg Hb F' J g js xs bds m:=λH hs=>by
 obtain ⟨h1,h2⟩:=h H (e.trans hs)
 refine ⟨h1,λi x ex=>?_⟩
 obtain ⟨h3,h4⟩:=h2 i x ex
 refine ⟨h3,λv H' y=>?_⟩
 obtain ⟨h5,h6⟩:=h4 v H' y
 exact ⟨⟨Same.refl _,hs.trans h5.h,h5.h,λ_ _ z=>z⟩,λσ Q k=>h6 σ Q λvs q=>k vs (pr_up (ds:=[]) (part_up e) q)⟩
theorem zcB {tl:TE} {j:Nat} {xs:List γ} (f:γ->Ds) (h:Ev Γ tl m (dQ K (xs.map f))):Iv Γ (zix K tl) (zbo j) [j] xs (λx=>[f x]) m:=λF0 Hb F H σ own R a k =>
 h F0 Hb F H σ own _ a λu F1 H1 g1 ⟨p,vs,e1,e2,e3⟩=>by
  have e2':SqL K F1 p vs:=part_sub.seq e2
  refine ⟨p,e1,⟨vs,g1.fh.seq e2'⟩,k _ F1 H1 g1 λH hs=>⟨⟨vs,hs.seq e2',by rw [Paired.length e3,List.length_map];exact Nat.le_refl _⟩,λi x ex=>?_⟩⟩
  obtain ⟨v,ev,qv⟩:=zaC e3 (show (xs.map f)[i]?=some (f x) by rw [List.getElem?_map,ex];rfl)
  refine ⟨⟨vs,v,hs.seq e2',ev⟩,λw H' y=>?_⟩
  obtain ⟨rfl,y⟩:=y
  have:=y vs (hs.seq e2')
  rw [ev] at this
  cases this
  exact ⟨Grow.refl hs,λσ Q k=>k [v] (.cons qv .nil)⟩
def zb2 (lo:Int) (n:Nat):List Int:=(List.range n).map λ(i:Nat)=>lo+(i:Int)
theorem zaD {lo:Int} {n:Nat}:(zb2 lo n).length=n:=by simp [zb2]
theorem zbm {lo:Int} {n i:Nat} {x:Int} (h:(zb2 lo n)[i]?=some x):i<n∧x=lo+i:=by
 unfold zb2 at h
 rw [List.getElem?_map] at h
 by_cases z:i<n
 ·rw [List.getElem?_range z] at h
  exact ⟨z,(Option.some.inj h).symm⟩
 ·rw [List.getElem?_eq_none (by simp;omega)] at h;cases h
theorem mem_rngZ {lo:Int} {n:Nat} {x:Int}:x∈zb2 lo n ↔ lo≤x∧x<lo+n:=by
 unfold zb2
 rw [List.mem_map]
 constructor
 ·rintro ⟨i,hi,rfl⟩;have:=List.mem_range.mp hi;omega
 ·intro h;exact ⟨(x-lo).toNat,List.mem_range.mpr (by omega),by omega⟩
theorem zkV {Hb F:Hp} {lo:Int} {n j:Nat}:zlg Hb F (Itr lo n) (zbo j) [j] (zb2 lo n) (λx=>[dI x]) m:=λH hs =>
 ⟨by show n≤_;rw [zaD];exact Nat.le_refl _,λi x ex=>by
  obtain ⟨hi,rfl⟩:=zbm ex
  refine ⟨hi,λv H' y=>?_⟩
  obtain ⟨rfl,rfl⟩:=y
  exact ⟨Grow.refl hs,λσ Q k=>k [_] (.cons rfl .nil)⟩⟩
theorem zcZ {t:TE} {j:Nat} {n:Int} (h:Ev Γ t false (dI n)) (hn:-(2^62)≤n∧n<2^62):Iv Γ (zk8 (tCons t tNil)) (zbo j) [j] (zb2 0 n.toNat) (λx=>[dI x]) m:=λF0 Hb F H σ own R a k =>
 h F0 Hb F H σ own _ a λu F1 H1 g1 q1=>⟨n,by rw [q1],hn.1,hn.2,k _ F1 H1 g1 zkV⟩
theorem zdh {α β:Type} {xs:List α} {ys:List β} {i:Nat} {p:α×β} (h:(xs.zip ys)[i]?=some p):xs[i]?=some p.1∧ys[i]?=some p.2:=by
 rw [List.getElem?_zip_eq_some] at h;exact h
theorem zeH {ta tb:TE} {j1 j2:Nat} {xs:List γ} {ys:List δ} (f1:γ->Ds) (f2:δ->Ds) (h1:Ev Γ ta m (dQ K (xs.map f1))) (h2:Ev Γ tb m (dQ K (ys.map f2))) :
  Iv Γ (zlV K (tCons ta (tCons tb tNil))) (zi1 K 2 (zdg (zbo j1) (zdg (zbo j2) zjN))) [j1,j2] (xs.zip ys) (λx=>[f1 x.1,f2 x.2]) m:=λF0 Hb F H σ own R a k =>
 h1 F0 Hb F H σ own _ a λu F1 H1 g1 ⟨p,vs,e1,e2,e3⟩=>h2 F0 Hb F1 H1 σ own _ (a.grow g1) λu' F2 H2 g2 ⟨q,ws,d1,d2,d3⟩=>by
  have e2':SqL K F2 p vs:=g2.f.seq (part_sub.seq e2)
  have d2':SqL K F2 q ws:=part_sub.seq d2
  have e3':=pr_up (ds:=[]) (part_up (m:=m) (Hb:=Hb) g2.f) e3
  have le:=Paired.length e3
  have ld:=Paired.length d3
  rw [List.length_map] at le ld
  refine ⟨p,q,by rw [e1,d1],⟨vs,g2.fh.seq e2'⟩,⟨ws,g2.fh.seq d2'⟩,k _ F2 H2 (g1.trans g2) λH hs=>⟨⟨vs,ws,hs.seq e2',hs.seq d2',by rw [le,ld,List.length_zip];omega⟩,λi x ex=>?_⟩⟩
  obtain ⟨x1,x2⟩:=zdh ex
  obtain ⟨v,ev,qv⟩:=zaC e3' (show (xs.map f1)[i]?=some (f1 x.1) by rw [List.getElem?_map,x1];rfl)
  obtain ⟨w,ew,qw⟩:=zaC d3 (show (ys.map f2)[i]?=some (f2 x.2) by rw [List.getElem?_map,x2];rfl)
  refine ⟨⟨vs,ws,v,w,hs.seq e2',hs.seq d2',ev,ew⟩,λz H' y=>?_⟩
  obtain ⟨r,x',y',rfl,hr,rfl,hxy⟩:=y
  obtain ⟨hx,hy⟩:=hxy vs ws (hs.seq e2') (hs.seq d2')
  rw [ev] at hx;rw [ew] at hy
  cases hx;cases hy
  exact ⟨(Grow.refl hs).newH hr,λσ Q k=>⟨r,_,rfl,.inl (.inl upd_same),rfl,_,_,rfl,_,_,rfl,rfl,k [v,w] (.cons qv (.cons qw .nil))⟩⟩
def zlo:Option Slot->Slot
 | some (.va m d)=>.va m d
 | _=>.no
def zfO (own:Nat) (fv:List Nat) (Γ:Ctx):Ctx:=List.replicate own .no++fv.map λi=>zlo Γ[i]?
theorem At.block {F0 Hb F H:Hp} {own:Nat->Option Addr} {σ:St} (a:At F0 Hb F H σ own Γ) (k:Nat) (fv:List Nat):At F0 Hb F H (zep k fv σ) (λ_=>none) (zfO k fv Γ):=by
 refine ⟨a.g,λ_ _ _ h=>(by cases h),λ_ _ h=>(by cases h),λi s e=>?_,?_⟩
 ·unfold zfO at e
  unfold zep
  by_cases hi:i<k
  ·rw [List.getElem?_append_left (by simpa using hi),List.getElem?_replicate,if_pos hi] at e
   cases e;trivial
  ·rw [List.getElem?_append_right (by simpa using hi),List.length_replicate,List.getElem?_map] at e
   rw [List.getElem?_append_right (by simpa using hi),List.length_replicate,List.getElem?_map]
   cases q:fv[i-k]? with
   | none=>rw [q] at e;cases e
   | some j =>
    rw [q] at e
    have e':zlo Γ[j]?=s:=Option.some.inj e
    subst e'
    show zdK Hb F H (λ_=>none) _ ((σ[j]?).join) (zlo Γ[j]?)
    cases z:Γ[j]? with
    | none=>trivial
    | some r =>
     cases r with
     | no=>trivial
     | va m d=>exact (show zdK Hb F H own j _ (.va m d) from a.sl j _ z)
     | ow m ds=>trivial
     | ob m C p dx fs=>trivial
     | ol p ds=>trivial
     | tl d=>trivial
 ·unfold zep zfO;simp
theorem zhy {k:Nat} {fv:List Nat} {j:Nat} {d:Ds} (e:(zfO k fv Γ)[j]?=some (.tl d)):False:=by
 unfold zfO at e
 have:=List.mem_of_getElem? e
 rcases List.mem_append.mp this with q | q
 ·cases (List.mem_replicate.mp q).2
 ·obtain ⟨l,_,q⟩:=List.mem_map.mp q
  unfold zlo at q
  split at q<;>cases q
theorem evt_noif:EvT Γ tNoIf true:=λF0 Hb F H σ own Q a k=>k F H (Grow.refl a.fh)
theorem zff {xs:List γ} {i:Nat} {x:γ} (h:xs[i]?=some x):xs.take (i+1)=xs.take i++[x]:=by
 rw [List.take_succ,h];rfl
theorem zji {own:Nat} {fv:List Nat} {wi:TI} {tg:TG} {tt:TTs} {te:TE} {js:List Nat} {xs:List γ} {bds:γ->List Ds} {mi:Bool} {c:γ->Bool} {g:γ->Ds} (it:Iv Γ wi tg js xs bds mi) (hz:xs.length≤sizeLine) (hj:(∀ j∈js,j<own)∧js.Nodup)
  (ht:∀ (i:Nat) (x:γ),xs[i]?=some x->EvT (zgY js (bds x) mi (zfO own fv Γ)) tt (c x)) (he:∀ (i:Nat) (x:γ),xs[i]?=some x->c x=true->Ev (zgY js (bds x) mi (zfO own fv Γ)) te m (g x)):EvO Γ (zh3 own fv wi tg tt te) m ((xs.filter c).map g):=λF0 Hb F H σ ow Q a k =>
 it F0 Hb F H σ ow _ a λJ F1 H1 g1 ok D hD=>by
  have hno:∀ j∈js,(zfO own fv Γ)[j]?=some .no:=λj hj'=>by
   have:=hj.1 j hj'
   unfold zfO
   rw [List.getElem?_append_left (by simpa using this),List.getElem?_replicate,if_pos this]
  obtain ⟨hD0,hDF,hDb⟩:=a.free g1 hD
  refine ⟨λi mm ys σb H2=>mm=xs.length-i∧i≤xs.length∧ys.length≤i∧∃ F2,Grow F1 H1 F2 H2∧F2 D=none∧H2 D=some (.lst ys)∧Paired (λv (d:Ds)=>d.pr (part m F2 Hb) v) ys (((xs.take i).filter c).map g)∧At F0 Hb F2 H2 σb (λ_=>none) (zfO own fv Γ),
   ⟨_,rfl,Nat.zero_le _,Nat.zero_le _,F1,(Grow.refl g1.fh).newH hD,hDF,upd_same,by simpa using Paired.nil,((a.grow g1).block own fv).grow ((Grow.refl g1.fh).newH hD)⟩,?_⟩
  rintro i mm ys σb H2 ⟨rfl,hi,hy,F2,g2,hF2,hH2,hP,a2⟩
  refine ⟨hH2,?_⟩
  obtain ⟨hstop,hitem⟩:=ok.up g2.f H2 g2.fh
  by_cases hlt:i<xs.length
  ·obtain ⟨go,yl⟩:=hitem i xs[i] (List.getElem?_eq_getElem hlt)
   refine .inr ⟨go,λx H' y=>?_⟩
   obtain ⟨g3,bind⟩:=yl x H' y
   refine bind σb _ λvs hvs=>?_
   have a3:=(a2.grow g3).setMany (js:=js) hvs
   have hx:xs[i]?=some xs[i]:=List.getElem?_eq_getElem hlt
   refine ht i _ hx F0 Hb F2 H' _ _ _ a3 λF4 H4 g4=>?_
   have tk:=zff hx
   have gD:∀ {F5 H5:Hp},Grow F2 H2 F5 H5->F5 D=none∧H5 D=some (.lst ys):=λg=>⟨g.no D (by rw [hH2];simp) hF2,g.h _ _ hH2⟩
   cases hc:c xs[i] with
   | true =>
    rw [if_pos rfl]
    refine he i _ hx hc F0 Hb F4 H4 _ _ _ (a3.grow g4) λv F5 H5 g5 q5=>?_
    have g25:=g3.trans (g4.trans g5)
    obtain ⟨n1,n2⟩:=gD g25
    have sD:Same H5 H5:=Same.refl _
    have n3:H1 D=none:=hD
    refine ⟨n2,by omega,xs.length-(i+1),by omega,rfl,hlt,by simp;omega,F5,?_,n1,upd_same,?_,?_⟩
    ·exact (g2.trans g25).setH n1 n3
    ·rw [tk,List.filter_append,List.map_append]
     refine zbb (pr_up (ds:=[]) (part_up g25.f) hP) ?_
     rw [List.filter_cons,hc]
     exact .cons q5 .nil
    ·have a5:=((a3.grow g4).grow g5).unsetMany hno hj.2
     refine ⟨a5.g.setH n1 hDb,a5.inj,λ_ _ h=>(nomatch h),λj s es=>?_,a5.len⟩
     ·have:=a5.sl j s es
      cases s with
      | no=>trivial
      | va m d=>exact this
      | ow m ds=>obtain ⟨_,_,_,h,_⟩:=this;exact (nomatch h)
      | ob m C p dx fs=>obtain ⟨_,_,h,_⟩:=this;exact (nomatch h)
      | ol p ds=>obtain ⟨_,_,h,_⟩:=this;exact (nomatch h)
      | tl d=>exact (zhy es).elim
   | false =>
    rw [if_neg Bool.false_ne_true]
    have g25:=g3.trans g4
    obtain ⟨n1,n2⟩:=gD g25
    refine ⟨xs.length-(i+1),by omega,rfl,hlt,by omega,F4,g2.trans g25,n1,n2,?_,(a3.grow g4).unsetMany hno hj.2⟩
    rw [tk,List.filter_append,List.map_append,List.filter_cons,hc]
    simpa using pr_up (ds:=[]) (part_up g25.f) hP
  ·have e:i=xs.length:=by omega
   subst e
   rw [List.take_length] at hP
   exact .inl ⟨hstop,k D ys F2 H2 (g1.trans g2) hD0 hF2 hH2 hP⟩
theorem zcg {own:Nat} {fv:List Nat} {wi:TI} {tg:TG} {te:TE} {js:List Nat} {xs:List γ} {bds:γ->List Ds} {mi:Bool} {g:γ->Ds} (it:Iv Γ wi tg js xs bds mi) (hz:xs.length≤sizeLine) (hj:(∀ j∈js,j<own)∧js.Nodup)
  (he:∀ (i:Nat) (x:γ),xs[i]?=some x->Ev (zgY js (bds x) mi (zfO own fv Γ)) te m (g x)):EvO Γ (zh3 own fv wi tg tNoIf te) m (xs.map g):=by
 have:=zji (c:=λ_=>true) it hz hj (λ_ _ _=>evt_noif) (λi x hx _=>he i x hx)
 rwa [show xs.filter (λ_=>true)=xs from List.filter_eq_self.mpr λ_ _=>rfl] at this
end
inductive Oc where
 | nx (Γ:Ctx)
 | rt (m:Bool) (d:Ds)
 | rl (m:Bool) (ds:List Ds)
 | bk (Γ:Ctx)
 | ct (Γ:Ctx)
 | ex (C:Addr) (Γ:Ctx)
 | rw (Γ:Ctx) (d:Ds)
def zd8 (E:XS) (F0 Hb:Hp) (D:Ends):Oc->Prop
 | .ex C Γ=>∀ dct F H σ own,At F0 Hb F H σ own Γ->E σ (.ref C) dct H
 | .rw Γ d=>∀ v F H σ own,At F0 Hb F H σ own Γ->d.pr F v->D.rt v H
 | .nx Γ=>∀ F H σ own,At F0 Hb F H σ own Γ->D.nx σ H
 | .bk Γ=>∀ F H σ own,At F0 Hb F H σ own Γ->D.bk σ H
 | .ct Γ=>∀ F H σ own,At F0 Hb F H σ own Γ->D.ct σ H
 | .rt m d=>∀ v F H,Grow F0 Hb F H->d.pr (part m F Hb) v->D.rt v H
 | .rl m ds=>∀ p vs F H,Grow F0 Hb F H->Hb p=none->F p=none->H p=some (.lst vs)->Paired (λv (d:Ds)=>d.pr (part m F Hb) v) vs ds->D.rt (.ref p) H
def Run (E:XS) (Γ:Ctx) (t:TS) (o:Oc):Prop:=∀ (F0 Hb F H:Hp) (σ:St) (own:Nat->Option Addr) (D:Ends),At F0 Hb F H σ own Γ->zd8 E F0 Hb D o->t D σ H
def Let {α:Type} {β:Type} (a:α) (k:α->β):β:=k a
def loopR {σ:Type} {γ:Type} {β:Type} (f:σ->γ->σ ⊕ β):σ->List γ->σ ⊕ β
 | s,[]=>.inl s
 | s,x :: xs=>match f s x with | .inl s'=>loopR f s' xs | .inr b=>.inr b
section
variable {E:XS} {Γ Δ:Ctx} {m:Bool} {K:W.Frag} {γ β:Type} {te:TE} {t u:TS} {d:Ds} {ds:List Ds} {o:Oc} {i:Nat}
theorem zah (w:Wk Γ Δ):Run E Γ zh1 (.nx Δ):=λF0 Hb F H σ own D a k=>k F H σ own (a.wk w)
theorem zax (h:Ev Γ te m d):Run E Γ (zia te) (.rt m d):=λF0 Hb F H σ own D a k=>h F0 Hb F H σ own _ a λv F' H' g q=>k v F' H' (a.g.trans g) q
theorem ziM (h:EvO Γ te m ds):Run E Γ (zia te) (.rl m ds):=λF0 Hb F H σ own D a k=>h F0 Hb F H σ own _ a λp vs F' H' g h1 h2 h3 q=>k p vs F' H' (a.g.trans g) (a.g.h.free h1) h2 h3 q
theorem zgM (e:Γ[i]?=some (.ow m ds)):Run E Γ (zia (tVar i)) (.rl m ds):=λF0 Hb F H σ own D a k=>by
 obtain ⟨p,vs,e1,e2,e3,e4,e5,e6⟩:=a.sl i _ e
 have hi:i<σ.length:=by rw [a.len];exact (List.getElem?_eq_some_iff.mp e).1
 rw [List.getElem?_eq_getElem hi] at e1
 have e':σ[i]=some (.ref p):=e1
 exact ⟨_,by rw [List.getElem?_eq_getElem hi,e'],k p vs F H a.g e4 e3 e5 e6⟩
theorem zex (h:Run E Γ (zia te) o) (ho:∀ F0 Hb D D',D.rt=D'.rt->zd8 E F0 Hb D o->zd8 E F0 Hb D' o):Run E Γ (tSeq (zia te) u) o:=λF0 Hb F H σ own D a k=>h F0 Hb F H σ own _ a (ho F0 Hb D { D with nx:=u D } rfl k)
theorem zag (h:Run E Γ (zia te) (.rt m d)):Run E Γ (tSeq (zia te) u) (.rt m d):=zex h λ_ _ _ _ e q v F H g p=>e ▸ q v F H g p
theorem zeM (h:Run E Γ (zia te) (.rl m ds)):Run E Γ (tSeq (zia te) u) (.rl m ds):=zex h λ_ _ _ _ e q p vs F H g h1 h2 h3 h4=>e ▸ q p vs F H g h1 h2 h3 h4
theorem zdE (h:Ev Γ te m d) (k:Run E (Γ.set i (.va m d)) u o):Run E Γ (tSeq (zfm te (zbo i)) u) o:=λF0 Hb F H σ own D a q =>
 h F0 Hb F H σ own _ a λv F' H' g p=>k F0 Hb F' H' _ own D ((a.grow g).set i p) q
theorem run_setO (h:EvO Γ te m ds) (k:Run E (Γ.set i (.ow m ds)) u o):Run E Γ (tSeq (zfm te (zbo i)) u) o:=λF0 Hb F H σ own D a q =>
 h F0 Hb F H σ own _ a λp vs F' H' g h1 h2 h3 h4=>k F0 Hb F' H' _ _ D (a.setOwn g i h1 h2 h3 h4) q
theorem zan {α:Type} {x:α} (f:α->Ds) (fo:β->Oc) {kk:α->β} (h:Ev Γ te m (f x)) (k:∀ y,y=x->Run E (Γ.set i (.va m (f y))) u (fo (kk y))):Run E Γ (tSeq (zfm te (zbo i)) u) (fo (Let x kk)):=zdE h (k x rfl)
theorem run_letO {α:Type} {x:α} (f:α->List Ds) (fo:β->Oc) {kk:α->β} (h:EvO Γ te m (f x)) (k:∀ y,y=x->Run E (Γ.set i (.ow m (f y))) u (fo (kk y))):Run E Γ (tSeq (zfm te (zbo i)) u) (fo (Let x kk)):=run_setO h (k x rfl)
theorem zio (h:Ev Γ te m d) (k:Run E Γ u o):Run E Γ (tSeq (tDrop te) u) o:=λF0 Hb F H σ own D a q =>
 h F0 Hb F H σ own _ a λv F' H' g p=>k F0 Hb F' H' σ own D (a.grow g) q
theorem zcc (e:Γ[i]?=some (.ow m ds)) (k:Run E (Γ.set i (.va m (dL ds))) t o):Run E Γ t o:=λF0 Hb F H σ own D a q=>by
 obtain ⟨F',own',_,a'⟩:=a.share e
 exact k F0 Hb F' H σ own' D a' q
theorem zaL {α:Type} {tc:TT} {b:Bool} {x y:α} {r:TS} (fo:α->Oc) (h:EvT Γ tc b) (h1:b=true->Run E Γ (tSeq t r) (fo x)) (h2:b=false->Run E Γ (tSeq u r) (fo y)):Run E Γ (tSeq (zkS tc t u) r) (fo (bif b then x else y)):=λF0 Hb F H σ own D a q =>
 h F0 Hb F H σ own _ a λF' H' g=>by
  cases b with
  | true=>rw [if_pos rfl];exact h1 rfl F0 Hb F' H' σ own D (a.grow g) q
  | false=>rw [if_neg Bool.false_ne_true];exact h2 rfl F0 Hb F' H' σ own D (a.grow g) q
theorem zbr {tc:TT} {r:TS} (h:EvT Γ tc false) (h1:Run E Γ (tSeq u r) o):Run E Γ (tSeq (zkS tc t u) r) o:=λF0 Hb F H σ own D a q=>h F0 Hb F H σ own _ a λF' H' g=>by
 rw [if_neg Bool.false_ne_true];exact h1 F0 Hb F' H' σ own D (a.grow g) q
theorem zbC {tc:TT} {b:Bool} {r:TS} (G:Bool->Ctx) (h:EvT Γ tc b) (h1:b=true->Run E Γ t (.nx (G true))) (h2:b=false->Run E Γ u (.nx (G false))) (k:Run E (G b) r o):Run E Γ (tSeq (zkS tc t u) r) o:=λF0 Hb F H σ own D a q =>
 h F0 Hb F H σ own _ a λF' H' g=>by
  cases b with
  | true=>rw [if_pos rfl];exact h1 rfl F0 Hb F' H' σ own _ (a.grow g) λF H σ own a'=>k F0 Hb F H σ own D a' q
  | false=>rw [if_neg Bool.false_ne_true];exact h2 rfl F0 Hb F' H' σ own _ (a.grow g) λF H σ own a'=>k F0 Hb F H σ own D a' q
theorem zaj (k:Run E Γ u o):Run E Γ (tSeq zh1 u) o:=λF0 Hb F H σ own D a q=>k F0 Hb F H σ own D a q
theorem zhl {Δ:Ctx} (h:Run E Γ t (.nx Δ)) (k:Run E Δ u o):Run E Γ (tSeq t u) o:=λF0 Hb F H σ own D a q=>h F0 Hb F H σ own _ a λF H σ own a'=>k F0 Hb F H σ own D a' q
theorem zai {r:TS} (h:Run E Γ (tSeq t (tSeq u r)) o):Run E Γ (tSeq (tSeq t u) r) o:=λF0 Hb F H σ own D a q=>h F0 Hb F H σ own D a q
theorem zeJ {F0 Hb F H:Hp} {σ:St} {own:Nat->Option Addr} (a:At F0 Hb F H σ own Γ) (e:Γ[i]?=some (.ow m ds)) :
  ∃ p vs,σ[i]?=some (some (.ref p))∧own i=some p∧F p=none∧Hb p=none∧H p=some (.lst vs)∧Paired (λv (d:Ds)=>d.pr (part m F Hb) v) vs ds:=by
 obtain ⟨p,vs,e1,e2,e3,e4,e5,e6⟩:=a.sl i _ e
 have hi:i<σ.length:=by rw [a.len];exact (List.getElem?_eq_some_iff.mp e).1
 rw [List.getElem?_eq_getElem hi] at e1
 have e':σ[i]=some (.ref p):=e1
 exact ⟨p,vs,by rw [List.getElem?_eq_getElem hi,e'],e2,e3,e4,e5,e6⟩
theorem zgH {te:TE} (e:Γ[i]?=some (.ow m ds)) (h:Ev Γ te m d) (hz:ds.length<sizeLine) (k:Run E (Γ.set i (.ow m (ds++[d]))) u o):Run E Γ (tSeq (tDrop (tBM K "list" rAppend (tVar i) (tCons te tNil))) u) o:=λF0 Hb F H σ own D a q=>by
 obtain ⟨p,vs,e1,e2,e3,e4,e5,e6⟩:=zeJ a e
 refine ⟨_,e1,.inl ⟨rfl,_,SqL.of e5⟩,?_⟩
 refine h F0 Hb F H σ own _ a λv F' H' g qv=>?_
 obtain ⟨p',vs',f1,f2,f3,f4,f5,f6⟩:=zeJ (a.grow g) e
 rw [e1] at f1
 cases f1
 exact ⟨p,vs',v,rfl,rfl,f5,by rw [Paired.length f6];exact hz,k F0 Hb F' _ σ own D ((a.grow g).turn e e1 (zbb f6 (.cons qv .nil))) q⟩
theorem ziQ {tb:TE} {n:Bool} {j:Int} (e:Γ[i]?=some (.ow m ds)) (h2:Ev Γ tb false (dI j)) (ej:atI ds j=some d):Ev Γ (tOp (zj1 K) (tVar i) tb) m d:=λF0 Hb F H σ own Q a k=>by
 obtain ⟨p,vs,e1,e2,e3,e4,e5,e6⟩:=zeJ a e
 refine ⟨_,e1,h2 F0 Hb F H σ own _ a λv F' H' g qv=>?_⟩
 obtain ⟨x,ex,rx⟩:=zeT e6 ej
 exact ⟨p,vs,j,x,rfl,qv,SqL.of (g.h _ _ e5),ex,k x F' H' g (d.up (part_up g.f) rx)⟩
theorem zg7 {n:Bool} (e:Γ[i]?=some (.ow m ds)):Ev Γ (tCB (λxs H Q=>∃ p ys,xs=[.ref p]∧(SqL K H p ys∨SqT K H p ys)∧Q (.int ys.length) H) (tCons (tVar i) tNil)) n (dI ds.length):=λF0 Hb F H σ own Q a k=>by
 obtain ⟨p,vs,e1,e2,e3,e4,e5,e6⟩:=zeJ a e
 exact ⟨_,e1,p,vs,rfl,.inl (SqL.of e5),k _ F H (Grow.refl a.fh) (by show V.int _=_;rw [Paired.length e6])⟩
theorem zgZ {te tj:TE} {j:Int} {n:Nat} (e:Γ[i]?=some (.ow m ds)) (h:Ev Γ te m d) (hj:Ev Γ tj false (dI j)) (ej:ixN ds.length j=some n) (k:Run E (Γ.set i (.ow m (ds.set n d))) u o):Run E Γ (tSeq (zfm te (zll (tVar i) tj zim)) u) o:=λF0 Hb F H σ own D a q=>by
 refine h F0 Hb F H σ own _ a λv F' H' g qv=>?_
 obtain ⟨p,vs,e1,e2,e3,e4,e5,e6⟩:=zeJ (a.grow g) e
 refine ⟨_,e1,hj F0 Hb F' H' σ own _ (a.grow g) λw F2 H2 g2 qw=>?_⟩
 obtain ⟨p',vs',f1,f2,f3,f4,f5,f6⟩:=zeJ ((a.grow g).grow g2) e
 rw [e1] at f1
 cases f1
 exact ⟨p,vs',j,n,rfl,qw,f5,by rw [Paired.length f6];exact ej,k F0 Hb F2 _ σ own D (((a.grow g).grow g2).turn e e1 (zeI (R:=λv (d:Ds)=>d.pr (part m F2 Hb) v) (d.up (part_up g2.f) qv) n f6)) q⟩
theorem zeS {S:Type} (f:S->γ->S ⊕ β):∀ (xs:List γ) (s:S) (i:Nat) (s':S),loopR f s (xs.take i)=.inl s'->∀ x,xs[i]?=some x->loopR f s (xs.take (i+1))=f s' x
 | [],_,_,_,_,_,h=>by simp at h
 | y :: ys,s,0,s',e,x,h=>by
  simp at h;subst h
  have e':s=s':=by simpa [loopR] using e
  subst e'
  show loopR f s [y]=_
  simp only [loopR]
  cases f s y<;>rfl
 | y :: ys,s,i+1,s',e,x,h=>by
  simp only [List.take_succ_cons,loopR] at e ⊢
  cases q:f s y with
  | inl s1=>rw [q] at e;exact zeS f ys s1 i s' e x (by simpa using h)
  | inr b=>rw [q] at e;cases e
theorem loopR_more {S:Type} (f:S->γ->S ⊕ β):∀ (xs:List γ) (s:S) (i:Nat) (b:β),loopR f s (xs.take i)=.inr b->loopR f s xs=.inr b
 | [],s,i,b,e=>by simpa using e
 | y :: ys,s,0,b,e=>by simp [loopR] at e
 | y :: ys,s,i+1,b,e=>by
  simp only [List.take_succ_cons,loopR] at e ⊢
  cases q:f s y with
  | inl s1=>rw [q] at e;exact loopR_more f ys s1 i b e
  | inr b'=>rw [q] at e;exact e
def zdR {S:Type} (G:S->Ctx) (res:β->Oc):S ⊕ β->Oc
 | .inl s=>.nx (G s)
 | .inr b=>res b
theorem Grow.rebase {F0 Hb F1 H1 F H:Hp} (g1:Grow F0 Hb F1 H1) (g:Grow F0 Hb F H) (e:Same F1 F):Grow F1 Hb F H :=
 ⟨e,g.fh,g.h,λa h1 h2=>g.no a h1 (g1.f.free h2)⟩
theorem Grow.unbase {F0 Hb F1 H1 F H:Hp} (g1:Grow F0 Hb F1 H1) (g:Grow F1 Hb F H):Grow F0 Hb F H :=
 ⟨g1.f.trans g.f,g.fh,g.h,λa h1 h2=>g.no a h1 (g1.no a h1 h2)⟩
theorem At.rebase {F0 Hb F1 H1 F H:Hp} {σ:St} {own:Nat->Option Addr} (g1:Grow F0 Hb F1 H1) (a:At F0 Hb F H σ own Γ) (e:Same F1 F):At F1 Hb F H σ own Γ:=⟨g1.rebase a.g e,a.inj,a.liv,a.sl,a.len⟩
theorem At.unbase {F0 Hb F1 H1 F H:Hp} {σ:St} {own:Nat->Option Addr} (g1:Grow F0 Hb F1 H1) (a:At F1 Hb F H σ own Γ):At F0 Hb F H σ own Γ:=⟨g1.unbase a.g,a.inj,a.liv,a.sl,a.len⟩
theorem zd8.rebase {F0 Hb F1 H1:Hp} {D:Ends} (g1:Grow F0 Hb F1 H1) (h:zd8 E F0 Hb D o):zd8 E F1 Hb D o:=by
 cases o with
 | nx Γ=>exact λF H σ own a=>h F H σ own (a.unbase g1)
 | bk Γ=>exact λF H σ own a=>h F H σ own (a.unbase g1)
 | ct Γ=>exact λF H σ own a=>h F H σ own (a.unbase g1)
 | rt m d=>exact λv F H g q=>h v F H (g1.unbase g) q
 | rl m ds=>exact λp vs F H g h1 h2 h3 q=>h p vs F H (g1.unbase g) h1 h2 h3 q
 | ex C Γ=>exact λdct F H σ own a=>h dct F H σ own (a.unbase g1)
 | rw Γ d=>exact λv F H σ own a q=>h v F H σ own (a.unbase g1) q
theorem zh6 {S:Type} {wi:TI} {g:TG} {tb:TS} {js:List Nat} {xs:List γ} {bds:γ->List Ds} {mi:Bool} {s0:S} (G:S->Ctx) (res:β->Oc) (f:S->γ->S ⊕ β) (I:Nat->S->Prop) (it:Iv Γ wi g js xs bds mi) (w:Wk Γ (G s0)) (h0:I 0 s0)
  (hres:∀ (b:β) (F0 Hb:Hp) (D D':Ends),D.rt=D'.rt->zd8 E F0 Hb D (res b)->zd8 E F0 Hb D' (res b))
  (body:∀ (i:Nat) (x:γ) (s:S),xs[i]?=some x->I i s->(∀ s',f s x=.inl s'->I (i+1) s')∧Run E (zgY js (bds x) mi (G s)) tb (zdR G res (f s x))):Run E Γ (zlf wi g tb) (zdR G res (loopR f s0 xs)):=λF0 Hb F H σ own D a q =>
 it F0 Hb F H σ own _ a λJ F1 H1 g1 ok=>by
  have gb:Grow F0 Hb F1 H1:=a.g.trans g1
  refine ⟨λi mm σ H2=>mm=xs.length-i∧i≤xs.length∧∃ s F2 own2,loopR f s0 (xs.take i)=.inl s∧I i s∧At F1 Hb F2 H2 σ own2 (G s),⟨_,rfl,Nat.zero_le _,s0,F1,own,by simp [loopR],h0,((a.grow g1).wk w).rebase gb (Same.refl _)⟩,?_⟩
  rintro i mm σ2 H2 ⟨rfl,hi,s,F2,own2,es,hI,a2⟩
  obtain ⟨hstop,hitem⟩:=ok.up a2.g.f H2 a2.fh
  by_cases hlt:i<xs.length
  ·have hx:xs[i]?=some xs[i]:=List.getElem?_eq_getElem hlt
   obtain ⟨go,yl⟩:=hitem i xs[i] hx
   obtain ⟨hI',hb⟩:=body i _ s hx hI
   have tk:=zeS f xs s0 i s es _ hx
   refine .inr ⟨go,λσ' H'=>∃ s' F3 own3,f s xs[i]=.inl s'∧At F1 Hb F3 H' σ' own3 (G s'),λσ' H' ⟨s',F3,own3,e3,a3⟩=>⟨xs.length-(i+1),by omega,rfl,hlt,s',F3,own3,by rw [tk,e3],hI' s' e3,a3⟩,λx H' y=>?_⟩
   obtain ⟨g3,bind⟩:=yl x H' y
   refine bind σ2 _ λvs hvs=>?_
   have a3:=(a2.grow g3).setMany (js:=js) hvs
   refine hb F1 Hb F2 H' _ own2 _ a3 ?_
   cases e3:f s xs[i] with
   | inl s'=>exact λF3 H3 σ3 own3 a4=>⟨s',F3,own3,rfl,a4⟩
   | inr b =>
    have:=loopR_more f xs s0 (i+1) b (by rw [tk,e3])
    rw [this] at q
    exact hres b F1 Hb D _ rfl (zd8.rebase (o:=res b) gb q)
  ·have e:i=xs.length:=by omega
   subst e
   rw [List.take_length] at es
   rw [es] at q
   exact .inl ⟨hstop,q F2 H2 σ2 own2 (a2.unbase gb)⟩
end
end L2
namespace L2
open PySem PySem.Spec PyProof.Rows
structure EqD {α:Type} [DecidableEq α] (K:W.Frag) (f:α->Ds) (n:Nat):Prop where
 eq:∀ H x y v w,(f x).pr H v->(f y).pr H w->EqV K H n v w (decide (x=y))
 inj:∀ H x y v,(f x).pr H v->(f y).pr H v->x=y
theorem EqD.int {K:W.Frag} {n:Nat}:EqD K dI n:=⟨λH x y v w h1 h2=>by
 cases h1;cases h2
 have:decide (x=y)=eqV (.int x) (.int y):=Bool.eq_iff_iff.mpr (by unfold eqV;simp)
 rw [this];exact .flat rfl rfl,λH x y v h1 h2=>by cases h1;cases h2;rfl⟩
theorem EqD.bool {K:W.Frag} {n:Nat}:EqD K dB n:=⟨λH x y v w h1 h2=>by
 cases h1;cases h2
 have:decide (x=y)=eqV (.bl x) (.bl y):=by cases x<;>cases y<;>rfl
 rw [this];exact .flat rfl rfl,λH x y v h1 h2=>by cases h1;cases h2;rfl⟩
theorem EqD.str {K:W.Frag} {n:Nat}:EqD K dS n:=⟨λH x y v w h1 h2=>by
 cases h1;cases h2
 have:decide (x=y)=eqV (.str x) (.str y):=Bool.eq_iff_iff.mpr (by unfold eqV;simp)
 rw [this];exact .flat rfl rfl,λH x y v h1 h2=>by cases h1;cases h2;rfl⟩
theorem paired_inj {α:Type} {f:α->Ds} {H:Hp} (h:∀ x y v,(f x).pr H v->(f y).pr H v->x=y):∀ {xs ys:List α} {vs:List V},Paired (λv (d:Ds)=>d.pr H v) vs (xs.map f)->Paired (λv (d:Ds)=>d.pr H v) vs (ys.map f)->xs=ys
 | [],[],_,_,_=>rfl
 | [],_ :: _,_,.nil,h2=>by cases h2
 | _ :: _,[],_,h1,.nil=>by cases h1
 | x :: xs,y :: ys,_,.cons a s,.cons b t=>by rw [h x y _ a b,paired_inj h s t]
theorem zhf {α:Type} [DecidableEq α] {xs ys:List α} (h:xs.length=ys.length):((List.range xs.length).all λj=>decide (xs[j]?=ys[j]?))=decide (xs=ys):=by
 by_cases e:xs=ys
 ·subst e;simp
 ·rw [decide_eq_false e]
  by_cases z:((List.range xs.length).all λj=>decide (xs[j]?=ys[j]?))=true
  ·exfalso
   apply e
   rw [List.all_eq_true] at z
   refine List.ext_getElem? λj=>?_
   by_cases hj:j<xs.length
   ·simpa using z j (List.mem_range.mpr hj)
   ·rw [List.getElem?_eq_none (by omega),List.getElem?_eq_none (by omega)]
  ·simpa using z
theorem zgq {α:Type} [DecidableEq α] {K:W.Frag} {f:α->Ds} {n:Nat} (E:EqD K f n) {H:Hp} {xs ys:List α} {vs ws:List V} (h1:Paired (λv (d:Ds)=>d.pr H v) vs (xs.map f)) (h2:Paired (λv (d:Ds)=>d.pr H v) ws (ys.map f)) (hl:xs.length=ys.length) :
  ∀ (j:Nat) (x y:V),vs[j]?=some x->ws[j]?=some y->EqV K H n x y (decide (xs[j]?=ys[j]?)):=λj x y e1 e2=>by
 have l1:=Paired.length h1
 have l2:=Paired.length h2
 rw [List.length_map] at l1 l2
 have hj:j<vs.length:=(List.getElem?_eq_some_iff.mp e1).1
 have q1:xs[j]?=some (xs[j]'(by omega)):=List.getElem?_eq_getElem (by omega)
 have q2:ys[j]?=some (ys[j]'(by omega)):=List.getElem?_eq_getElem (by omega)
 obtain ⟨v,ev,rv⟩:=zaC h1 (show (xs.map f)[j]?=some (f (xs[j]'(by omega))) by rw [List.getElem?_map,q1];rfl)
 obtain ⟨w,ew,rw'⟩:=zaC h2 (show (ys.map f)[j]?=some (f (ys[j]'(by omega))) by rw [List.getElem?_map,q2];rfl)
 rw [e1] at ev;rw [e2] at ew
 cases ev;cases ew
 have:=E.eq H _ _ _ _ rv rw'
 rw [q1,q2]
 simpa using this
theorem EqD.list {α:Type} [DecidableEq α] {K:W.Frag} {f:α->Ds} {n:Nat} (E:EqD K f n):EqD K (λxs:List α=>dL (xs.map f)) (n+1):=⟨λH xs ys v w h1 h2=>by
 obtain ⟨p,vs,rfl,hp,qp⟩:=h1
 obtain ⟨q,ws,rfl,hq,qq⟩:=h2
 by_cases e:p=q
 ·subst e
  rw [hp] at hq
  cases hq
  rw [paired_inj (E.inj H) qp qq,decide_eq_true rfl]
  exact .same
 ·have l1:=Paired.length qp
  have l2:=Paired.length qq
  rw [List.length_map] at l1 l2
  by_cases hl:xs.length=ys.length
  ·rw [← zhf hl,← l1]
   exact .lists e (SqL.of hp) (SqL.of hq) (by omega) (zgq E qp qq hl)
  ·have:decide (xs=ys)=false:=decide_eq_false λz=>hl (by rw [z])
   rw [this]
   exact .lens e (SqL.of hp) (SqL.of hq) (by omega),λH xs ys v h1 h2=>by
 obtain ⟨p,vs,rfl,hp,qp⟩:=h1
 obtain ⟨q,ws,e,hq,qq⟩:=h2
 cases e
 rw [hp] at hq
 cases hq
 exact paired_inj (E.inj H) qp qq⟩
theorem zfH {α:Type} [DecidableEq α] {K:W.Frag} {f:α->Ds} {n:Nat} (E:EqD K f n) {Γ:Ctx} {ta tb:TE} {m neg:Bool} {xs ys:List α} (h1:Ev Γ ta false (dQ K (xs.map f))) (h2:Ev Γ tb false (dQ K (ys.map f))) (hn:n≤50:=by decide) :
  Ev Γ (tOp (rEqL K neg) ta tb) m (dB (bif neg then !decide (xs=ys) else decide (xs=ys))):=λF0 Hb F H σ own Q a k =>
 h1 F0 Hb F H σ own _ a λu F1 H1 g1 ⟨p,vs,e1,e2,e3⟩=>h2 F0 Hb F1 H1 σ own _ (a.grow g1) λu' F2 H2 g2 ⟨q,ws,d1,d2,d3⟩=>by
  have e2':SqL K H2 p vs:=(g1.fh.trans g2.h).seq e2
  have d2':SqL K H2 q ws:=g2.fh.seq d2
  have e3':=pr_up (ds:=[]) (g1.fh.trans g2.h) e3
  have d3':=pr_up (ds:=[]) g2.fh d3
  have l1:=Paired.length e3'
  have l2:=Paired.length d3'
  rw [List.length_map] at l1 l2
  refine ⟨p,q,n,vs,ws,e1,d1,e2',d2',hn,?_⟩
  by_cases hl:xs.length=ys.length
  ·refine .inr ⟨_,by omega,zgq E e3' d3' hl,k _ F2 H2 (g1.trans g2) ?_⟩
   rw [l1,zhf hl]
   cases neg<;>rfl
  ·refine .inl ⟨by omega,k _ F2 H2 (g1.trans g2) ?_⟩
   rw [show decide (xs=ys)=false from decide_eq_false λz=>hl (by rw [z])]
   cases neg<;>rfl
def startC (N:List Str) (ds:List Ds):Ctx:=ds.map (.va false)++List.replicate (N.length-ds.length) .no
def zla (n:Nat):Rs->Oc
 | .va m d=>.rt m d
 | .ow m ds=>.rl m ds
 | .ex C=>.ex C (List.replicate n .no)
theorem zgn {F H:Hp} {N:List Str} {vs:List V} {ds:List Ds} (hF:Same F H) (hv:Paired (λv (d:Ds)=>d.pr F v) vs ds):At F H F H (start N vs) (λ_=>none) (startC N ds):=by
 have hl:=Paired.length hv
 refine ⟨Grow.refl hF,λ_ _ _ h=>(nomatch h),λ_ _ h=>(nomatch h),λi s e=>?_,by unfold start startC;simp [hl]⟩
 unfold startC at e
 unfold start
 by_cases hi:i<ds.length
 ·rw [List.getElem?_append_left (by simpa using hi),List.getElem?_map] at e
  rw [List.getElem?_append_left (by simpa [hl] using hi),List.getElem?_map]
  obtain ⟨v,ev,rv⟩:=zaC hv (List.getElem?_eq_getElem hi)
  rw [List.getElem?_eq_getElem hi] at e
  have e':Slot.va false ds[i]=s:=Option.some.inj e
  subst e'
  exact ⟨v,by rw [ev];rfl,rv⟩
 ·rw [List.getElem?_append_right (by simpa using hi),List.getElem?_replicate] at e
  split at e
  ·cases e;trivial
  ·cases e
def ResOk (H F:Hp) (Q:VK) (E:XK):Rs->Prop
 | .ex C=>∀ dct F' H',Grow F H F' H'->E (.ref C) dct H'
 | .va m d=>∀ v F' H',Grow F H F' H'->d.pr (part m F' H) v->Q v H'
 | .ow m ds=>∀ p ws F' H',Grow F H F' H'->H p=none->F' p=none->H' p=some (.lst ws)->Paired (λv (d:Ds)=>d.pr (part m F' H) v) ws ds->Q (.ref p) H'
theorem zhj {E:XK} {F H:Hp} {N:List Str} {vs:List V} {ds:List Ds} {Q:VK} {t:TS} {r:Rs} (hF:Same F H) (hv:Paired (λv (d:Ds)=>d.pr F v) vs ds) (hq:ResOk H F Q E r) (h:Run (λ_=>E) (startC N ds) t (zla N.length r)):t { nx:=λ_ H'=>Q .non H',rt:=Q } (start N vs) H:=by
 refine h F H F H _ _ _ (zgn hF hv) ?_
 cases r with
 | va m d=>exact λv F' H' g q=>hq v F' H' g q
 | ow m ds=>exact λp ws F' H' g h1 h2 h3 q=>hq p ws F' H' g h1 h2 h3 q
 | ex C=>exact λdct F' H' σ own a=>hq dct F' H' a.g
theorem zge {E:XK} {F H:Hp} {N:List Str} {vs:List V} {ds:List Ds} {Q:VK} {t:TS} {m:Bool} {Δ:Ctx} (hF:Same F H) (hv:Paired (λv (d:Ds)=>d.pr F v) vs ds) (hq:ResOk H F Q E (.va m dN)) (h:Run (λ_=>E) (startC N ds) t (.nx Δ)):t { nx:=λ_ H'=>Q .non H',rt:=Q } (start N vs) H :=
 h F H F H _ _ _ (zgn hF hv) λF' H' σ own a=>hq _ F' H' a.g rfl
section
variable {P:Program} {w:World} {K:W.Frag} {mg:Str->Option Value} {base:Heap} {x qual:Str} {st:Stmt} {f:Addr} {fd:FuncData} {N ps:List Str} {k:Nat}
theorem Fun.okV {ι:Type} {args:ι->List Ds} {pre:ι->Prop} {res:ι->Rs} (F:Fun K x qual st f fd) (S:FnScope N ps (defScope st)) (hl:∀ i,(args i).length=ps.length)
  (hbody:∀ (cdv:Value) (A:Around) (outer:List Env) (s:Shared) (H:Hp) (E:XK) (i:ι),Room k (A.deeper (envOfC qual (defScope st) s.heap.objs.size f cdv))->pre i →
   ∃ t,PSs (zgA (CXE P w) P w K mg base N qual (defScope st) f cdv A outer s H E).nox (zas st) t∧(Run (λ_=>E) (startC N (args i)) t (zla N.length (res i))∨∃ m Δ,res i=.va m dN∧Run (λ_=>E) (startC N (args i)) t (.nx Δ))):FnOk P w K mg base (CXE P w) (k+1) f fd ps (Spv args pre res):=by
 refine F.okX S (λvs H Q E ⟨i,F',_,hv,_⟩=>by rw [Paired.length hv];exact hl i) λcdv A outer s H vs Q E hr ⟨i,F',hF,hv,hp,hq⟩=>?_
 obtain ⟨t,h1,h2⟩:=hbody cdv A outer s H E i hr hp
 have hq':ResOk H F' Q E (res i):=by
  cases e:res i with
  | va m d=>rw [e] at hq;exact hq
  | ow m ds=>rw [e] at hq;exact hq
  | ex C=>rw [e] at hq;exact hq
 refine ⟨_,zfo h1,?_⟩
 rcases h2 with h2 | ⟨m,Δ,e,h2⟩
 ·exact zhj hF hv hq' h2
 ·rw [e] at hq'
  exact zge hF hv hq' h2
end
def putD (f:Str) (d:Ds):List (Str×Ds)->List (Str×Ds)
 | []=>[(f,d)]
 | (g,x) :: r=>if g=f then (g,d) :: r else (g,x) :: putD f d r
theorem zeK {R:V->Ds->Prop} {f:Str} {v:V} {d:Ds} (h:R v d):∀ {vs:List (Str×V)} {fs:List (Str×Ds)},Paired (λ(a:Str×V) (b:Str×Ds)=>a.1=b.1∧R a.2 b.2) vs fs->Paired (λ(a:Str×V) (b:Str×Ds)=>a.1=b.1∧R a.2 b.2) (putF f v vs) (putD f d fs)
 | _,_,.nil=>.cons ⟨rfl,h⟩ .nil
 | _,_,.cons (a:=(x,u)) (b:=(y,e)) ⟨h1,h2⟩ t=>by
  have h1:x=y:=h1
  subst h1
  unfold putF putD
  split
  ·exact .cons ⟨rfl,h⟩ t
  ·exact .cons ⟨rfl,h2⟩ (zeK h t)
theorem zjn {Γ:Ctx} {i:Nat} {m:Bool} {C p dx:Addr} {fs:List (Str×Ds)} {K:W.Frag} {tv:TE} {d:Ds} {f:Str} {u:TS} {o:Oc} {E:XS} (e:Γ[i]?=some (.ob m C p dx fs)) (h:Ev Γ tv m d) (c:Cls K C) (nf:NoAttr K C f) (hz:fs.length<1000) (k:Run E (Γ.set i (.ob m C p dx (putD f d fs))) u o):Run E Γ (tSeq (zlz K (tVar i) tv f) u) o:=λF0 Hb F H σ own D a q=>by
 refine h F0 Hb F H σ own _ a λv F' H' g qv=>?_
 have a':=a.grow g
 obtain ⟨vs,e1,e2,e3,e4,e5,e6⟩:=a'.sl i _ e
 have hi:i<σ.length:=by rw [a.len];exact (List.getElem?_eq_some_iff.mp e).1
 rw [List.getElem?_eq_getElem hi] at e1
 have e':σ[i]=some (.ref p):=e1
 have ei:σ[i]?=some (some (.ref p)):=by rw [List.getElem?_eq_getElem hi,e']
 exact ⟨_,ei,p,C,dx,vs,rfl,e5.1,c,nf,by rw [Paired.length e6];exact hz,k F0 Hb F' _ σ own D (a'.turnOb e (zeK (R:=λv (d:Ds)=>d.pr (part m F' Hb) v) qv e6)) q⟩
def zje {ι:Type} (C:Addr) (args:ι->List Ds) (pre:ι->Prop) (m:Bool) (fs:ι->List (Str×Ds)):Sp:=λvs H Q _=>∃ (i:ι) (p dx:Addr) (ws:List V) (H1 F:Hp),vs=.ref p :: ws∧H1 p=none∧H1 dx=none∧dx≠p∧H=upd (upd H1 dx (.own p)) p (.ins C dx [])∧Same F H1 ∧
 Paired (λv (d:Ds)=>d.pr F v) ws (args i)∧pre i∧∀ us F' H',Grow F H1 F' H'->F' p=none->F' dx=none->H' p=some (.ins C dx us)->H' dx=some (.own p)->Paired (λ(a:Str×V) (b:Str×Ds)=>a.1=b.1∧b.2.pr (part m F' H1) a.2) us (fs i)->Q .non H'
def startI (m:Bool) (C p dx:Addr) (N:List Str) (ds:List Ds):Ctx:=.ob m C p dx [] :: (ds.map (.va false)++List.replicate (N.length-(ds.length+1)) .no)
section
variable {P:Program} {w:World} {K:W.Frag} {mg:Str->Option Value} {base:Heap} {x qual:Str} {st:Stmt} {f:Addr} {fd:FuncData} {N ps:List Str} {k:Nat}
theorem zhz {m:Bool} {F H1:Hp} {C p dx:Addr} {N:List Str} {ws:List V} {ds:List Ds} (hF:Same F H1) (hv:Paired (λv (d:Ds)=>d.pr F v) ws ds) (h1:H1 p=none) (h2:H1 dx=none) (h3:dx≠p) :
  At F H1 F (upd (upd H1 dx (.own p)) p (.ins C dx [])) (start N (.ref p :: ws)) (λi=>if i=0 then some p else none) (startI m C p dx N ds):=by
 have hl:=Paired.length hv
 have n1:upd H1 dx (.own p) p=none:=by rw [upd_ne (Ne.symm h3)];exact h1
 have g:Grow F H1 F (upd (upd H1 dx (.own p)) p (.ins C dx [])):=((Grow.refl hF).newH h2).newH n1
 refine ⟨g,λi j q e1 e2=>?_,λi q e=>?_,λi s e=>?_,?_⟩
 ·split at e1
  ·split at e2
   ·omega
   ·cases e2
  ·cases e1
 ·split at e
  ·cases e;rw [upd_same];simp
  ·cases e
 ·cases i with
  | zero =>
   have e':Slot.ob m C p dx []=s:=Option.some.inj e
   subst e'
   exact ⟨[],rfl,rfl,⟨hF.free h1,hF.free h2⟩,⟨h1,h2⟩,⟨upd_same,by rw [upd_ne h3];exact upd_same⟩,.nil⟩
  | succ i =>
   have e:(ds.map (Slot.va false)++List.replicate (N.length-(ds.length+1)) Slot.no)[i]?=some s:=e
   show zdK H1 F _ _ _ ((ws.map some++List.replicate (N.length-(ws.length+1)) none)[i]?).join s
   by_cases hi:i<ds.length
   ·rw [List.getElem?_append_left (by simpa using hi),List.getElem?_map] at e
    rw [List.getElem?_append_left (by simpa [hl] using hi),List.getElem?_map]
    obtain ⟨v,ev,rv⟩:=zaC hv (List.getElem?_eq_getElem hi)
    rw [List.getElem?_eq_getElem hi] at e
    have e':Slot.va false ds[i]=s:=Option.some.inj e
    subst e'
    exact ⟨v,by rw [ev];rfl,rv⟩
   ·rw [List.getElem?_append_right (by simpa using hi),List.getElem?_replicate] at e
    split at e
    ·cases e;trivial
    ·cases e
 ·unfold start startI;simp [hl]
theorem Fun.okI {ι:Type} {C:Addr} {args:ι->List Ds} {pre:ι->Prop} {m:Bool} {fs:ι->List (Str×Ds)} (F:Fun K x qual st f fd) (S:FnScope N ps (defScope st)) (hl:∀ i,(args i).length+1=ps.length)
  (hbody:∀ (cdv:Value) (A:Around) (outer:List Env) (s:Shared) (H:Hp) (E:XK) (i:ι),Room k (A.deeper (envOfC qual (defScope st) s.heap.objs.size f cdv))->pre i →
   ∃ t,PSs (zgA (CXE P w) P w K mg base N qual (defScope st) f cdv A outer s H E).nox (zas st) t∧∀ p dx,∃ Δ,Run (λ_=>E) (startI m C p dx N (args i)) t (.nx Δ)∧Δ[0]?=some (.ob m C p dx (fs i))):FnOk P w K mg base (CXE P w) (k+1) f fd ps (zje C args pre m fs):=by
 refine F.okX S (λvs H Q E ⟨i,p,dx,ws,H1,F',e,_,_,_,_,_,hv,_⟩=>by rw [e,List.length_cons,Paired.length hv];exact hl i) λcdv A outer s H vs Q E hr ⟨i,p,dx,ws,H1,F',e,h1,h2,h3,h4,hF,hv,hp,hq⟩=>?_
 subst e h4
 obtain ⟨t,t1,t2⟩:=hbody cdv A outer s _ E i hr hp
 obtain ⟨Δ,t2,t3⟩:=t2 p dx
 refine ⟨_,zfo t1,?_⟩
 refine t2 F' H1 F' _ _ _ _ (zhz hF hv h1 h2 h3) λF2 H2 σ2 own2 a2=>?_
 obtain ⟨us,e1,e2,e3,e4,e5,e6⟩:=a2.sl 0 _ t3
 exact hq us F2 H2 a2.g e3.1 e3.2 e5.1 e5.2 e6
end
section
variable {Γ:Ctx} {K:W.Frag} {ds:List Ds} {tr:TA} {E:XK}
theorem zf9 {ι:Type} {C:Addr} {args:ι->List Ds} {pre:ι->Prop} {m:Bool} {fs:ι->List (Str×Ds)} (i:ι) (h:EvA Γ tr false ds) (ha:ds=args i) (hp:pre i):Ev Γ (zku C (zje C args pre m fs) [] E tr) m (dO C (fs i)):=λF0 Hb F H σ own Q a k=>by
 subst ha
 refine h F0 Hb F H σ own _ a λvs F1 H1 g1 q1 p dx h1 h2 h3=>⟨i,p,dx,vs,H1,F1,by rw [List.append_nil],h1,h2,h3,rfl,g1.fh,q1,hp,λus F' H' g n1 n2 e1 e2 e3=>⟨rfl,?_⟩⟩
 have g2:=g1.trans g
 obtain ⟨p0,_,pb⟩:=a.free g1 h1
 obtain ⟨d0,_,db⟩:=a.free g1 h2
 have g3:=(g2.take p0 e1).take d0 e2
 have s1:Same F' (upd F' p (.ins C dx us)):=Same.new n1 _
 have n3:upd F' p (.ins C dx us) dx=none:=by rw [upd_ne h3];exact n2
 have s2:Same F' (upd (upd F' p (.ins C dx us)) dx (.own p)):=s1.trans (Same.new n3 _)
 refine k _ _ _ g3 ⟨p,dx,us,rfl,zdm pb (by rw [upd_ne (Ne.symm h3)];exact upd_same),zdm db upd_same,?_⟩
 exact paired_imp (λ_ b q=>⟨q.1,b.2.up ((part_old (a.g.h.trans g1.h)).trans (part_up s2)) q.2⟩) e3
end
end L2
namespace L2
open PySem PySem.Spec PyProof.Rows
def Ite (K:W.Frag) (a:Addr):It :=
 ⟨λi H=>∃ xs x,SqL K H a xs∧xs[i]?=some x,
  λi H v H'=>∃ p x,v=.ref p∧H p=none∧H'=upd H p (.tup [.int (i:Int),x])∧∀ xs,SqL K H a xs->xs[i]?=some x,
  λi H=>∃ xs,SqL K H a xs∧xs.length≤i⟩
theorem zhx {P:Program} {w:World} {K:W.Frag} {elts:List Expr} {x1:Nat} {tp:Pos} {a e it:Addr} (hne:e≠it) :
  Turn P w K (.Tuple elts x1 tp) (Ite K a) [e,it] e (λi h=>(∃ old,IsEnum h e it (i:Int) old)∧h.IsListIter it a i) where
 mem:=by simp
 obj:=λi h st c hc=>by
  obtain ⟨⟨old,he⟩,⟨o1,e1,_,d1⟩⟩:=st
  simp only [List.mem_cons,List.not_mem_nil,or_false] at hc
  rcases hc with rfl | rfl
  ·exact ⟨_,he,λv z=>by cases z⟩
  ·exact ⟨o1,e1,λv z=>by rw [d1] at z;cases z⟩
 keep:=λi h h' st k=>by
  obtain ⟨⟨old,he⟩,h1⟩:=st
  exact ⟨⟨old,k e (by simp) _ he⟩,h1.at λo q=>k it (by simp) o q⟩
 item:=by
  intro X hP hw hK hc i pins s σ H E I hf st hg
  subst hP hw hK
  obtain ⟨xs,x,hxs,hx⟩:=hg
  obtain ⟨itx,rx,px,hzx⟩:=I.list hxs
  obtain ⟨u,hu,ru⟩:=rx.get hx
  obtain ⟨⟨old,he⟩,h1⟩:=st
  refine wpAny_pyNext_enum_item (x:=u) he h1 px.isList (by simpa using hu) hne λh' a1 a2 a3 a4 hk=>?_
  refine ⟨_,rfl,wpAny_letOwnedTupleGo_enum a1 λh'' b1 b2=>?_⟩
  have elt:e<s.heap.objs.size:=Heap.lt_size he
  have itl:it<s.heap.objs.size:=by obtain ⟨_,q,_⟩:=h1;exact Heap.lt_size q
  have tup:h''.get? s.heap.objs.size=some { cls:=.type "tuple",data:=.seq #[.int i s.toks,u] }:=b2.extBut _ _ (Nat.ne_of_gt elt) a3
  have I1:Inv X pins σ (upd H s.heap.objs.size (.tup [.int (i:Int),x])) { s with heap:=h'',toks:=s.toks+1 }:=by
   refine I.turnedNew (t':=s.toks+1) (ch:=[e,it]) (λc hc=>hf c hc) (λc ob hc q=>?_) (Nat.le_refl _) ?_
   ·simp only [List.mem_cons,List.not_mem_nil,or_false,not_or] at hc
    exact b2.extBut _ _ hc.1 (hk c ob hc.1 hc.2 q)
   ·exact ⟨by show 2≤sizeLine;decide,[.int i s.toks,u],.cons ⟨_,rfl⟩ (.cons ru .nil),⟨_,tup,rfl,_,rfl⟩⟩
  refine ⟨.ref s.heap.objs.size,_,I1,rfl,⟨_,x,rfl,I.hok.fresh (Nat.le_refl _),rfl,λxs' q1=>?_⟩,⟨⟨u,?_⟩,a2.extBut b2.extBut (Ne.symm hne)⟩,λc hc=>?_⟩
  ·rw [I.list_inj q1 hxs];exact hx
  ·exact b1
  ·have:c≠s.heap.objs.size:=by
    simp only [List.mem_cons,List.not_mem_nil,or_false] at hc
    rcases hc with rfl | rfl
    ·exact Nat.ne_of_lt elt
    ·exact Nat.ne_of_lt itl
   rw [upd_ne this];exact (hf c hc).1
 done:=by
  intro X hP hw hK hc i pins s σ H E I hf st hg
  subst hP hw hK
  obtain ⟨xs,hxs,hend⟩:=hg
  obtain ⟨itx,rx,px,hzx⟩:=I.list hxs
  obtain ⟨⟨old,he⟩,h1⟩:=st
  have lx:=rx.length
  refine wpAny_pyNext_enum_end (I.ok.hd hc) he h1 px.isList (by simp;omega) λh' hk=>⟨rfl,?_⟩
  refine I.turnedL (t':=s.toks) (ch:=[e,it]) (λc hc=>hf c hc) (λc ob hc q=>?_)
  simp only [List.mem_cons,List.not_mem_nil,or_false,not_or] at hc
  exact hk c ob hc.2 q
 self:=λ_ _ _ _ _ st h=>by obtain ⟨⟨old,he⟩,_⟩:=st;exact wpAny_pyIter_enum he h
section
variable {X:Cx} {K:W.Frag}
def zkF (K:W.Frag) (ta:TA):TI:=λσ H R=>ta σ H λvs H1=>∃ a,vs=[.ref a]∧(∃ xs,SqL K H1 a xs)∧R (Ite K a) H1
theorem zhi {a:Expr} {ta:TA} {p pos tp:Pos} {elts:List Expr} {x1:Nat} (hK:X.K=K) (hg:Gl X "enumerate") (hm:X.mg "enumerate"=none) (ha:PA X [a] ta) (hs:starEach [a] X.env=[(false,eval a X.env)]:=by rfl) :
  PI X (.Tuple elts x1 tp) (.Call (.Name "enumerate" p) [a] [] pos) (zkF K ta):=by
 subst hK
 intro pins s σ H R I h
 refine Call_ (ld_blt I hg hm boot_enumerate (PyProof.Rows.callWith_type1 (thn (ha pos pins s σ H _ I h) λus s1 ⟨vs,H1,I1,r1,q1⟩=>?_) (by rw [hs];rfl) rfl))
 obtain ⟨l,e,⟨xs,hx⟩,q⟩:=q1
 subst e
 cases r1 with
 | cons r rr =>
  cases rr
  cases r
  obtain ⟨itx,rx,px,hzx⟩:=I1.list hx
  refine call_enumerate_list px.isList λh' he h1 hsz hk=>wpAny_pyIter_enum he ?_
  have hne:(s1.heap.objs.size+1:Nat)≠s1.heap.objs.size:=by omega
  refine ⟨s1.heap.objs.size+1,[s1.heap.objs.size+1,s1.heap.objs.size],_,Ite X.K l,H1,rfl,I1.kept (t':=s1.toks) hk,zhx hne,⟨⟨_,he⟩,h1⟩,λc hc=>?_,q⟩
  have hle:@LE.le Nat _ s1.heap.objs.size c:=by
   simp only [List.mem_cons,List.not_mem_nil,or_false] at hc
   rcases hc with rfl | rfl<;>omega
  exact I1.fpOk hle (I1.hok.fresh hle)
end
section
variable {X:Cx} {K:W.Frag}
end
section
variable {Γ:Ctx} {m:Bool} {K:W.Frag} {γ:Type}
def zdT {α:Type} (xs:List α):List (Int×α):=(zb2 0 xs.length).zip xs
theorem zhW {α:Type} {xs:List α}:(zdT xs).length=xs.length:=by simp [zdT,List.length_zip,zaD]
theorem zda {α:Type} {xs:List α} {i:Nat} {p:Int×α} (h:(zdT xs)[i]?=some p):i<xs.length∧p.1=i∧xs[i]?=some p.2:=by
 obtain ⟨h1,h2⟩:=zdh h
 obtain ⟨h3,h4⟩:=zbm h1
 exact ⟨h3,by rw [h4];omega,h2⟩
theorem zhg {tl:TE} {j1 j2:Nat} {xs:List γ} (f:γ->Ds) (h:Ev Γ tl m (dQ K (xs.map f))) :
  Iv Γ (zkF K (tCons tl tNil)) (zi1 K 2 (zdg (zbo j1) (zdg (zbo j2) zjN))) [j1,j2] (zdT xs) (λx=>[dI x.1,f x.2]) m:=λF0 Hb F H σ own R a k =>
 h F0 Hb F H σ own _ a λu F1 H1 g1 ⟨p,vs,e1,e2,e3⟩=>by
  have e2':SqL K F1 p vs:=part_sub.seq e2
  have le:=Paired.length e3
  rw [List.length_map] at le
  refine ⟨p,by rw [e1],⟨vs,g1.fh.seq e2'⟩,k _ F1 H1 g1 λH hs=>⟨⟨vs,hs.seq e2',by rw [le,zhW];exact Nat.le_refl _⟩,λi x ex=>?_⟩⟩
  obtain ⟨hi,x1,x2⟩:=zda ex
  obtain ⟨v,ev,qv⟩:=zaC e3 (show (xs.map f)[i]?=some (f x.2) by rw [List.getElem?_map,x2];rfl)
  refine ⟨⟨vs,v,hs.seq e2',ev⟩,λz H' y=>?_⟩
  obtain ⟨r,x',rfl,hr,rfl,hxy⟩:=y
  have hx:=hxy vs (hs.seq e2')
  rw [ev] at hx
  cases hx
  exact ⟨(Grow.refl hs).newH hr,λσ Q k=>⟨r,_,rfl,.inl (.inl upd_same),rfl,_,_,rfl,_,_,rfl,rfl,k [.int i,v] (.cons (by show V.int _=V.int _;rw [x1]) (.cons qv .nil))⟩⟩
end
end L2
namespace L2
open PySem PySem.Spec PyProof.Rows
theorem Ev.any {Γ:Ctx} {t:TE} {m n:Bool} {v:V} (h:Ev Γ t m (dV v)):Ev Γ t n (dV v):=λF0 Hb F H σ own Q a k=>h F0 Hb F H σ own Q a λu F' H' g q=>k u F' H' g q
theorem zhA {α:Type} {R R':Hp} {g:α->V} {vs:List V} {xs:List α} (h:Paired (λv (d:Ds)=>d.pr R v) vs (xs.map λx=>dV (g x))):Paired (λv (d:Ds)=>d.pr R' v) vs (xs.map λx=>dV (g x)):=by
 rw [zek h]
 clear h
 induction xs with
 | nil=>exact .nil
 | cons x xs ih=>exact .cons rfl ih
theorem EvO.anyV {Γ:Ctx} {t:TE} {m n:Bool} {α:Type} {g:α->V} {xs:List α} (h:EvO Γ t m (xs.map λx=>dV (g x))):EvO Γ t n (xs.map λx=>dV (g x)):=λF0 Hb F H σ own Q a k=>h F0 Hb F H σ own Q a λp vs F' H' g h1 h2 h3 q=>k p vs F' H' g h1 h2 h3 (zhA q)
theorem EvO.anyI {Γ:Ctx} {t:TE} {m n:Bool} {xs:List Int} (h:EvO Γ t m (xs.map dI)):EvO Γ t n (xs.map dI):=EvO.anyV h
theorem EvO.anyB {Γ:Ctx} {t:TE} {m n:Bool} {xs:List Bool} (h:EvO Γ t m (xs.map dB)):EvO Γ t n (xs.map dB):=EvO.anyV h
theorem EvO.anyS {Γ:Ctx} {t:TE} {m n:Bool} {xs:List Str} (h:EvO Γ t m (xs.map dS)):EvO Γ t n (xs.map dS):=EvO.anyV h
section
variable {X:Cx}
def zel (i j:Int):Prop:=(-(2^64)<i∧i<2^64)∨(-(2^64)<j∧j<2^64)∨(i.natAbs.log2<60000000∧j.natAbs.log2<60000000)
theorem zh7 {a b:Int} (ha:Builtin.Int.intBits a≤60000000) (hb:Builtin.Int.intBits b≤60000000):IntMulOk a b:=by
 have h:Builtin.Int.intTooBig (Builtin.Int.intBits a+Builtin.Int.intBits b)=false:=by
  unfold Builtin.Int.intTooBig bitsLine
  exact decide_eq_false (by omega)
 unfold IntMulOk
 rw [h]
 simp
theorem zbK:OpR X (binaryOp .Mult) (rI zel λi j=>.int (i*j)):=opI λ_ _ _ _ _ _ _ hc q=>mul_int q (by
 rcases hc with h | h | h
 ·exact .of_left (intBits_le_64 h.1 h.2)
 ·exact .of_right (intBits_le_64 h.1 h.2)
 ·exact zh7 (zhq h.1) (zhq h.2))
end
def ixD {α:Type} [Inhabited α] (xs:List α) (i:Int):α:=(atI xs i).getD default
def InB (n:Nat) (i:Int):Prop:=-(n:Int)≤i∧i<n
theorem zfN {n:Nat} {i:Int} (h:InB n i):∃ j,ixN n i=some j∧j<n∧(0≤i->j=i.toNat):=by
 unfold InB at h
 unfold ixN
 by_cases h0:0≤i
 ·rw [if_pos h0,if_pos h.2];exact ⟨_,rfl,by omega,λ_=>rfl⟩
 ·rw [if_neg h0,if_pos h.1];exact ⟨_,rfl,by omega,λz=>absurd z h0⟩
theorem zhU {α:Type} [Inhabited α] {xs:List α} {i:Int} (h:InB xs.length i):atI xs i=some (ixD xs i):=by
 obtain ⟨j,e,hj,_⟩:=zfN h
 unfold ixD atI
 rw [e]
 show xs[j]?=some (xs[j]?.getD default)
 rw [List.getElem?_eq_getElem hj];rfl
theorem ze0 {α:Type} [Inhabited α] {xs:List α} {n:Nat} {x:α} (h:xs[n]?=some x):ixD xs (n:Int)=x:=by
 have hn:n<xs.length:=(List.getElem?_eq_some_iff.mp h).1
 unfold ixD atI ixN
 rw [if_pos (by omega),if_pos (by omega)]
 show (xs[(n:Int).toNat]?).getD default=x
 rw [Int.toNat_natCast,h];rfl
theorem zcR {α:Type} [Inhabited α] {xs:List α} {i:Int} (h:InB xs.length i):ixD xs i∈xs:=by
 have:=zhU h
 unfold atI at this
 obtain ⟨j,e,hj,_⟩:=zfN h
 rw [e] at this
 exact List.mem_of_getElem? this
def setZ {α:Type} (xs:List α) (i:Int) (x:α):List α:=match ixN xs.length i with
 | some n=>xs.set n x
 | none=>xs
theorem zdL {α:Type} {xs:List α} {i:Int} {x:α}:(setZ xs i x).length=xs.length:=by
 unfold setZ;split<;>simp
def zfc {α:Type} (n:Int) (xs:List α):List α:=(List.replicate n.toNat xs).flatten
def dOpt {α:Type} (f:α->Ds):Option α->Ds
 | none=>dN
 | some x=>f x
def NN {α:Type} (f:α->Ds):Prop:=∀ x H v,(f x).pr H v->v≠.non
theorem NN.tup {α:Type} {f:α->List Ds}:NN (λx=>dT (f x)):=λ_ _ _ ⟨_,_,e,_⟩=>by rw [e];simp
theorem NN.obj {α:Type} {C:Addr} {f:α->List (Str×Ds)}:NN (λx=>dO C (f x)):=λ_ _ _ ⟨_,_,_,e,_⟩=>by rw [e];simp
theorem NN.int:NN dI:=λ_ _ _ e=>by rw [show _=_ from e];simp
section
variable {E:XS} {Γ:Ctx} {m:Bool} {K:W.Frag} {α β γ:Type} {f:α->Ds} {t ta tb te:TE} {u r:TS} {o:Oc} {xs ys:List α} {i:Nat}
theorem zdP [Inhabited α] {j:Int} (h1:Ev Γ ta m (dQ K (xs.map f))) (h2:Ev Γ tb false (dI j)) (h:InB xs.length j):Ev Γ (tOp (zj1 K) ta tb) m (f (ixD xs j)):=zlv h1 h2 (zhv (zhU h))
theorem zbj {n:Bool} (h1:Ev Γ t false (dQ K (xs.map f))):Ev Γ (tCB (λxs H Q=>∃ p ys,xs=[.ref p]∧(SqL K H p ys∨SqT K H p ys)∧Q (.int ys.length) H) (tCons t tNil)) n (dI (xs.length:Nat)):=(zlh h1).conv (by rw [List.length_map])
theorem zcS {tl th:TO} {lo hi:Option Int} (h1:Ev Γ t m (dQ K (xs.map f))) (h2:EvP Γ tl lo) (h3:EvP Γ th hi):EvO Γ (tSl (zlm K) t tl th) m ((cutD xs lo hi).map f):=(zky h1 h2 h3).conv ziK.symm
theorem zbV (h1:Ev Γ ta m (dL (xs.map f))) (h2:Ev Γ tb m (dL (ys.map f))) (hz:xs.length+ys.length≤sizeLine):EvO Γ (tOp zlR ta tb) m ((xs++ys).map f):=(zkd h1 h2 (by rw [List.length_map,List.length_map];exact hz)).conv (List.map_append ..).symm
theorem zes {n:Nat}:(List.replicate n (xs.map f)).flatten=((List.replicate n xs).flatten).map f:=by
 induction n with
 | zero=>rfl
 | succ n ih=>rw [List.replicate_succ,List.replicate_succ,List.flatten_cons,List.flatten_cons,List.map_append,ih]
theorem zjT {n:Int} (h1:Ev Γ ta m (dL (xs.map f))) (h2:Ev Γ tb false (dI n)) (hn:-(2^63)≤n∧n<2^63) (hz:xs.length*n.toNat≤sizeLine):EvO Γ (tOp zlw ta tb) m ((zfc n xs).map f):=(zkz h1 h2 hn (by rw [List.length_map];exact hz)).conv zes
theorem zhT {x:Option α} {n:Bool} (h1:Ev Γ ta false (dOpt f x)) (h2:Ev Γ tb false dN) (hf:NN f):Ev Γ (tOp (λx y H Q=>y=.non∧Q (.bl (decide (x=.non))) H) ta tb) n (dB x.isNone):=zk0 h1 h2 λH v q=>by
 cases x with
 | none=>rw [show v=V.non from q];rfl
 | some x=>exact decide_eq_false (hf x H v q)
theorem zdc {x:Option α} {n:Bool} (h1:Ev Γ ta false (dOpt f x)) (h2:Ev Γ tb false dN) (hf:NN f):Ev Γ (tOp (λx y H Q=>y=.non∧Q (.bl (!decide (x=.non))) H) ta tb) n (dB x.isSome):=(zjS (b:=x.isNone) h1 h2 λH v q=>by
 cases x with
 | none=>rw [show v=V.non from q];rfl
 | some x=>exact decide_eq_false (hf x H v q)).conv (by cases x<;>rfl)
theorem ev_ownIxM [Inhabited α] {j:Int} (e:Γ[i]?=some (.ow m (xs.map f))) (h2:Ev Γ tb false (dI j)) (h:InB xs.length j):Ev Γ (tOp (zj1 K) (tVar i) tb) m (f (ixD xs j)):=ziQ (n:=m) e h2 (zhv (zhU h))
theorem zcQ {n:Bool} (e:Γ[i]?=some (.ow m (xs.map f))):Ev Γ (tCB (λxs H Q=>∃ p ys,xs=[.ref p]∧(SqL K H p ys∨SqT K H p ys)∧Q (.int ys.length) H) (tCons (tVar i) tNil)) n (dI (xs.length:Nat)):=(zg7 (n:=n) e).conv (by rw [List.length_map])
theorem zeh {x:α} (e:Γ[i]?=some (.ow m (xs.map f))) (h:Ev Γ te m (f x)) (hz:xs.length<sizeLine) (k:Run E (Γ.set i (.ow m ((xs++[x]).map f))) u o):Run E Γ (tSeq (tDrop (tBM K "list" rAppend (tVar i) (tCons te tNil))) u) o :=
 zgH e h (by rw [List.length_map];exact hz) (by rw [List.map_append] at k;exact k)
theorem zdl {tj:TE} {x:α} {j:Int} (e:Γ[i]?=some (.ow m (xs.map f))) (h:Ev Γ te m (f x)) (hj:Ev Γ tj false (dI j)) (hb:InB xs.length j) (k:Run E (Γ.set i (.ow m ((setZ xs j x).map f))) u o):Run E Γ (tSeq (zfm te (zll (tVar i) tj zim)) u) o:=by
 obtain ⟨n,en,hn,_⟩:=zfN hb
 refine zgZ (n:=n) e h hj (by rw [List.length_map];exact en) ?_
 unfold setZ at k
 rw [en] at k
 rw [← List.map_set]
 exact k
theorem zf2 {d1 d2:Ds} {i j:Nat} (h:Ev Γ te m (dT [d1,d2])) (k:Run E ((Γ.set i (.va m d1)).set j (.va m d2)) u o):Run E Γ (tSeq (zfm te (zi1 K 2 (zdg (zbo i) (zdg (zbo j) zjN)))) u) o:=λF0 Hb F H σ own D a q =>
 h F0 Hb F H σ own _ a λv F' H' g ⟨p,vs,e1,e2,e3⟩=>by
  cases e3 with | cons q1 t=>cases t with | cons q2 t=>cases t;exact ⟨p,_,e1,.inl (.inl ((part_sub.trans g.fh) _ _ e2)),rfl,_,_,rfl,_,_,rfl,rfl,k F0 Hb F' H' _ own D (((a.grow g).set i q1).set j q2) q⟩
theorem zbZ {x:α} (G:α->Ctx) (fo:β->Oc) {kk:α->β} (k:∀ y,y=x->Run E (G y) u (fo (kk y))):Run E (G x) u (fo (Let x kk)):=k x rfl
def zjZ (o:Oc):Prop:=(∃ m d,o=.rt m d)∨(∃ m ds,o=.rl m ds)∨∃ C Γ,o=.ex C Γ
theorem zjZ.meets (h:zjZ o) {F0 Hb:Hp} {D D':Ends} (e:D.rt=D'.rt) (q:zd8 E F0 Hb D o):zd8 E F0 Hb D' o:=by
 rcases h with ⟨m,d,rfl⟩ | ⟨m,ds,rfl⟩ | ⟨C,Γ',rfl⟩
 ·exact λv F H g p=>e ▸ q v F H g p
 ·exact λp vs F H g h1 h2 h3 h4=>e ▸ q p vs F H g h1 h2 h3 h4
 ·exact q
def zjt {S:Type} (x:S ⊕ β) (k:S->α) (w:β->α):α:=match x with
 | .inl s=>k s
 | .inr b=>w b
theorem zgl {f:Str} {d:Ds}:∀ {fs:List (Str×Ds)} {ns:List Str},fs.map Prod.fst=ns->ns.contains f=false->putD f d fs=fs++[(f,d)]
 | [],_,_,_=>rfl
 | (g,e) :: r,_,rfl,h=>by
  have h':f≠g∧f ∉ r.map Prod.fst:=by simpa using h
  unfold putD
  rw [if_neg (Ne.symm h'.1),zgl rfl (by simpa using h'.2)]
  rfl
theorem zdN {C p dx:Addr} {fs:List (Str×Ds)} {tv:TE} {d:Ds} {f:Str} (e:Γ[i]?=some (.ob m C p dx fs)) (h:Ev Γ tv m d) (c:Cls K C) (nf:NoAttr K C f) (ns:List Str) (hns:fs.map Prod.fst=ns) (hn:ns.contains f=false) (hz:ns.length<1000) (k:Run E (Γ.set i (.ob m C p dx (fs++[(f,d)]))) u o) :
  Run E Γ (tSeq (zlz K (tVar i) tv f) u) o:=zjn e h c nf (by rw [← List.length_map (f:=Prod.fst),hns];exact hz) (by rw [zgl hns hn];exact k)
theorem zeG {S:Type} (f:S->γ->S):∀ (xs:List γ) (s:S),loopR (β:=Empty) (λs x=>.inl (f s x)) s xs=.inl (xs.foldl f s)
 | [],_=>rfl
 | x :: xs,s=>zeG f xs (f s x)
theorem zfq {S:Type} {f:S->γ->S} {I:Nat->S->Prop}:∀ {xs:List γ} {s:S} {n:Nat},I n s->(∀ (i:Nat) (x:γ) (s:S),xs[i]?=some x->I (n+i) s->I (n+i+1) (f s x))->I (n+xs.length) (xs.foldl f s)
 | [],s,n,h,_=>h
 | x :: xs,s,n,h,k=>by
  have h1:=k 0 x s rfl h
  have:=zfq (xs:=xs) (s:=f s x) (n:=n+1) h1 λi y s' e q=>by
   have:=k (i+1) y s' (by simpa using e) (by rw [show n+(i+1)=n+1+i by omega];exact q)
   rw [show n+1+i+1=n+(i+1)+1 by omega];exact this
  rw [List.length_cons,show n+(xs.length+1)=n+1+xs.length by omega]
  exact this
theorem zcU {S:Type} {wi:TI} {g:TG} {tb:TS} {js:List Nat} {xs:List γ} {bds:γ->List Ds} {mi:Bool} {s0:S} (G:S->Ctx) (fo:β->Oc) {kk:S->β} (f:S->γ->S) (I:Nat->S->Prop) (it:Iv Γ wi g js xs bds mi) (w:Wk Γ (G s0)) (h0:I 0 s0)
  (body:∀ (i:Nat) (x:γ) (s:S),xs[i]?=some x->I i s->I (i+1) (f s x)∧Run E (zgY js (bds x) mi (G s)) tb (.nx (G (f s x)))) (k:∀ s,s=xs.foldl f s0->I xs.length s->Run E (G s) u (fo (kk s))):Run E Γ (tSeq (zlf wi g tb) u) (fo (Let (xs.foldl f s0) kk)):=by
 refine zhl (Δ:=G (xs.foldl f s0)) ?_ (k _ rfl (by simpa using zfq (n:=0) (I:=I) h0 λi x s e q=>by rw [Nat.zero_add] at q ⊢;exact (body i x s e q).1))
 have:=zh6 (β:=Empty) G (λz=>z.elim) (λs x=>.inl (f s x)) I it w h0 (λb=>b.elim) λi x s e q=>⟨λs' z=>by cases z;exact (body i x s e q).1,(body i x s e q).2⟩
 rw [zeG] at this
 exact this
theorem zfn {S:Type} {f:S->γ->S ⊕ β} {I:Nat->S->Prop}:∀ {xs:List γ} {s s':S} {n:Nat},I n s->(∀ (i:Nat) (x:γ) (s:S),xs[i]?=some x->I (n+i) s->∀ s',f s x=.inl s'->I (n+i+1) s')->loopR f s xs=.inl s'->I (n+xs.length) s'
 | [],s,s',n,h,_,e=>by cases e;exact h
 | x :: xs,s,s',n,h,k,e=>by
  unfold loopR at e
  cases q:f s x with
  | inr b=>rw [q] at e;cases e
  | inl s1 =>
   rw [q] at e
   have h1:=k 0 x s rfl h s1 q
   have:=zfn (xs:=xs) (s:=s1) (n:=n+1) h1 (λi y s' e q=>by
    have:=k (i+1) y s' (by simpa using e) (by rw [show n+(i+1)=n+1+i by omega];exact q)
    rw [show n+1+i+1=n+(i+1)+1 by omega];exact this) e
   rw [List.length_cons,show n+(xs.length+1)=n+1+xs.length by omega]
   exact this
theorem zee {S:Type} {wi:TI} {g:TG} {tb:TS} {js:List Nat} {xs:List γ} {bds:γ->List Ds} {mi:Bool} {s0:S} (G:S->Ctx) (fo:α->Oc) (wr:β->α) {kk:S->α} (f:S->γ->S ⊕ β) (I:Nat->S->Prop) (hres:∀ b,zjZ (fo (wr b))) (it:Iv Γ wi g js xs bds mi) (w:Wk Γ (G s0)) (h0:I 0 s0)
  (body:∀ (i:Nat) (x:γ) (s:S),xs[i]?=some x->I i s->(∀ s',f s x=.inl s'->I (i+1) s')∧Run E (zgY js (bds x) mi (G s)) tb (zdR G (λb=>fo (wr b)) (f s x))) (k:∀ s,loopR f s0 xs=.inl s->I xs.length s->Run E (G s) u (fo (kk s))):Run E Γ (tSeq (zlf wi g tb) u) (fo (zjt (loopR f s0 xs) kk wr)):=by
 have h:=zh6 G (λb=>fo (wr b)) f I it w h0 (λb F0 Hb D D' e q=>(hres b).meets e q) body
 cases e:loopR f s0 xs with
 | inl s =>
  rw [e] at h
  exact zhl h (k s e (by simpa using zfn (n:=0) h0 (λi x s e q=>by rw [Nat.zero_add] at q ⊢;exact (body i x s e q).1) e))
 | inr b =>
  rw [e] at h
  exact λF0 Hb F H σ own D a q=>h F0 Hb F H σ own _ a ((hres b).meets (D:=D) rfl (show zd8 E F0 Hb D (fo (wr b)) from q))
end
end L2
namespace L2
open PySem PySem.Spec PyProof.Rows PySem.Builtin PySem.Builtin.Getset_descriptor
structure XCls (K:W.Frag) (C:Addr):Prop where
 ga:W.findIn K (.ref C) "__getattribute__"=some (some (.builtin "BaseException.__getattribute__"))
 gn:W.findIn K (.ref C) "__getattr__"=some none
 cl:W.findIn K (.ref C) "__class__"=some (some (.builtin "object.__class__"))
 ob:W.mroIn K C (.type "object")=some true
 be:W.mroIn K C (.type "BaseException")=some true
 gt:W.specialIn K (.builtin "object.__class__") "__get__"=some (some (.builtin "getset_descriptor.__get__"))
 tk:W.takesIn K (.builtin "object.__class__")=some true
def XAt (h:Heap) (a C:Addr):Prop:=∃ o vs,h.get? a=some o∧o.cls=.ref C∧o.data=.fields vs
section
variable {prog:Program} {w:World} {A:Around} {E:Value->Shared->Prop} {K:W.Frag} {C a:Addr} {h:Heap} {g:Array GenState} {d:Drawn} {t:Nat} {os:OsState}
theorem XAt.ty {M:Model} (x:XAt h a C):W.Looks M h (typeOf (.ref a)) (.ref C):=by
 obtain ⟨o,vs,hx,hc,hd⟩:=x
 exact hc ▸ (W.Looks.ld hx).andThen .now
theorem zf7 {tp:Value} {R:Result->Shared->Prop} (X:K.In h) (c:XCls K C) (x:XAt h a C) (hr:R (.ok (.ret (.ref C))) ⟨h,g,d,t,os⟩) :
  codeAny (model prog w) A (.call (.builtin "getset_descriptor.__get__") ⟨[.builtin "object.__class__",.ref a,tp],[]⟩) R ⟨h,g,d,t,os⟩:=by
 have L0:=x.ty (M:=model prog w)
 have L1:=W.looks_mroIn (M:=model prog w) X c.ob
 refine codeAny_call_builtin W.KF.slot_gs.plain W.KF.entry_gs (W.KF.slot_gs.check _ _ _ _ _ _ _ _ W.KF.type_class (W.KF.args_gs _ _ _) ?_)
 unfold Builtin.«getset_descriptor.__get__»
 unfold descrGet
 rw [W.dga_obj]
 refine wpAny_bind (wpAny_pure ?_)
 unfold descrGetter
 unfold descrCheckInstance descrNameAndClass
 unfold isInstance
 simp only [W.KF.owner_class]
 repeat (any_goals (first | assumption | with_reducible refine wpAny_bind (L0.at ?_) | with_reducible refine wpAny_bind (L1.at ?_) | with_reducible refine L0.at ?_ | with_reducible refine L1.at ?_ | wp_step))
 refine ⟨Code.quiet_builtin _ (by decide +kernel),codeAny_builtin (W.KF.entry_class) ?_⟩
 unfold Builtin.«object.__class__»
 unfold shownTypeOf
 repeat (any_goals (first | assumption | with_reducible refine wpAny_bind (L0.at ?_) | with_reducible refine L0.at ?_ | wp_step))
theorem zhD {tk:Tok} {Q:Fin->Shared->Prop} (X:K.In h) (c:XCls K C) (x:XAt h a C) (hq:Q (.done (.ret (.ref C))) ⟨h,g,d,t,os⟩) :
  wpAny (model prog w) A (Builtin.«object.__getattribute__» ⟨[.ref a,.str "__class__" tk],[]⟩) Q E ⟨h,g,d,t,os⟩:=by
 have L0:=x.ty (M:=model prog w)
 have L1:=W.looks_findIn (M:=model prog w) X c.cl
 have L2:=W.looks_specialIn (M:=model prog w) X c.gt
 have L3:=W.looks_takesIn (M:=model prog w) X c.tk
 unfold Builtin.«object.__getattribute__»
 repeat (any_goals (first | assumption | with_reducible refine wpAny_bind (L0.at ?_) | with_reducible refine wpAny_bind (L1.at ?_) | with_reducible refine wpAny_bind (L2.at ?_) | with_reducible refine wpAny_bind (L3.at ?_) | wp_step))
 refine zf7 X c x ?_
 repeat (any_goals (first | assumption | wp_step))
theorem zhd {nameV:Value} {Q:Unit->Shared->Prop} (X:K.In h) (c:XCls K C) (x:XAt h a C) (hq:Q () ⟨h,g,d,t,os⟩):wpAny (model prog w) A (checkBuiltinCall "BaseException.__getattribute__" ⟨[.ref a,nameV],[]⟩) Q E ⟨h,g,d,t,os⟩:=by
 have hk:builtinKind "BaseException.__getattribute__"=some .slot:=by decide +kernel
 have hsplit:splitId "BaseException.__getattribute__"=some ("BaseException","__getattribute__"):=by decide +kernel
 have L0:=x.ty (M:=model prog w)
 have L1:=W.looks_mroIn (M:=model prog w) X c.be
 have LI:W.Looks (model prog w) h (isInstance (.ref a) (.type "BaseException")) true:=L0.andThen L1
 have ha:=F.args_bexc_ga (.ref a) nameV
 simp only [checkBuiltinCall,hk,hsplit]
 refine wpAny_bind (LI.at ?_)
 repeat (any_goals (first | assumption | wp_step))
 all_goals (try exact hq)
theorem zkw {tk:Tok} {fill expr:Bool} {Q:Value->Shared->Prop} (X:K.In h) (c:XCls K C) (x:XAt h a C) (hq:Q (.ref C) ⟨h,g,d,t,os⟩) :
  wpAny (model prog w) A (getAttrBy (.ref a) (.str "__class__" tk) fill expr) Q E ⟨h,g,d,t,os⟩:=by
 have L0:=x.ty (M:=model prog w)
 have L1:=W.looks_findIn (M:=model prog w) X c.ga
 have L2:=W.looks_findIn (M:=model prog w) X c.gn
 have f3:=(PySem.F.attr_ValueError.ga).bind (.ref a)
 have hx0:(expr&&onTheHeap (Value.builtin "BaseException.__getattribute__"))=false:=by cases expr<;>rfl
 have hx2:(Value.builtin "BaseException.__getattribute__" == Value.builtin "object.__getattribute__")=false:=by decide +kernel
 have hx1:(onTheHeap (Value.ref C)&&Value.builtin "BaseException.__getattribute__" == Value.builtin "object.__getattribute__")=false:=by rw [hx2];rfl
 unfold getAttrBy
 repeat (any_goals (first | assumption | with_reducible refine wpAny_bind (L0.at ?_) | with_reducible refine wpAny_bind (L1.at ?_) | with_reducible refine wpAny_bind (L2.at ?_) | wp_step))
 refine codeAny_call_builtin PySem.F.attr_ValueError.ga.plain F.entry_bexc_ga (zhd X c x (zhD X c x ?_))
 repeat (any_goals (first | assumption | wp_step))
theorem ziv {Q:Option Value->Shared->Prop} (X:K.In h) (c:XCls K C) (x:XAt h a C) (hq:Q (some (.ref C)) ⟨h,g,d,t+1,os⟩) :
  wpAny (model prog w) A (getAttr? (.ref a) "__class__") Q E ⟨h,g,d,t,os⟩:=by
 unfold getAttr? getAttrBy?
 repeat (any_goals (first | assumption | with_reducible apply zkw X c x | wp_step))
end
theorem cls_at {K:W.Frag} {C:Addr} {T:Value} {r:Bool} (e:W.mroIn K C T=some r):∃ c d cd sl,K.lookup C=some ⟨c,d,.cls cd,sl⟩:=by
 obtain ⟨cd,hc,_⟩:=Option.bind_eq_some_iff.mp e
 unfold W.clsIn at hc
 split at hc
 ·exact ⟨_,_,_,_,by assumption⟩
 ·cases hc
theorem kitx_exc {K:W.Frag} {a C:Addr} (c:XCls K C):W.KitX K (.ref a) (.ref C) (λh=>XAt h a C) where
 ty:=λ_ _ _ x=>x.ty
 it:=λM h X _=>by
  obtain ⟨c',d',cd',sl',ho⟩:=cls_at c.ob
  intro A' Q' E' s' k q
  unfold isType loadHead
  exact wpAny_bind (wpAny_loadPart (k _ _ (X _ _ ho)) (wpAny_pure q))
 ne:=λh tp dd its n sl X htp=>by
  obtain ⟨c',d',cd',sl',ho⟩:=cls_at c.ob
  refine Bool.eq_false_iff.mpr λq=>?_
  have e:C=tp:=Value.ref.inj (beq_iff_eq.mp q)
  subst e
  have z:=(X _ _ ho).symm.trans htp
  cases z
 ca:=λ{prog w A E Q s} X x k=>by
  obtain ⟨h,g,d,t,os⟩:=s
  exact ziv X c x k
def excO (a C:Addr) (fs:List (Str×V)):HO:=.ext λh=>∃ o vs,h.get? a=some o∧o.cls=.ref C∧o.data=.fields vs∧fs=[]
theorem excO_ok {P:Program} {w:World} {H:Hp} {h:Heap} {a C:Addr} (x:XAt h a C):zcf P w H h a (excO a C []):=by
 obtain ⟨o,vs,hx,hc,hd⟩:=x
 refine ⟨⟨o,vs,hx,hc,hd,rfl⟩,⟨o,hx⟩,λh1 h2 ⟨o',vs',q1,q2,q3,q4⟩ k=>⟨o',vs',k _ q1,q2,q3,q4⟩⟩
section
variable {X:Cx} {K:W.Frag}
theorem zhB (hK:X.K=K):zdJ X (.builtin "isinstance") (λxs H Q=>∃ a C c b,(xs=[.ref a,c])∧H a=some (excO a C [])∧XCls K C∧(∃ u,RelV c u∧(∀ u',RelV c u'->u'=u)∧W.kitOne K (.ref C) u=some b)∧Q (.bl b) H):=by
 subst hK
 intro pins s σ H xs us Q I r h
 obtain ⟨a,C,c,b,rfl,ha,hc,⟨u,hu,hu2,hk⟩,q⟩:=h
 obtain ⟨v,w',rfl,rx,ry⟩:=ziA r
 cases rx
 rw [hu2 w' ry]
 obtain ⟨⟨o,vs,h1,h2,h3,_⟩,_⟩:=(show zcf X.prog X.w H s.heap a (excO a C []) from I.hok a _ ha)
 exact W.kia_one (kitx_exc hc) I.kIn ⟨o,vs,h1,h2,h3⟩ hk (λz=>nomatch z) λtk=>⟨.bl b,H,I.tok _,rfl,q⟩
end
end L2
namespace L2
open PySem PySem.Spec PyProof.Rows
section
variable {X:Cx} {pins:List (Addr×Obj)} {σ:St} {H:Hp} {s:Shared}
theorem Inv.locals {h':Heap} {t':Nat} {m':Str->Option Value} {σ':St} (I:Inv X pins σ H s) (hs:Heap.SameBut X.env.locals s.heap h') (hn':h'.Ns X.env.locals m')
  (hl:∀ (j:Nat) (y:Str) (v:V),X.N[j]?=some y->σ'[j]?=some (some v)->Vis X.env.scope y->∃ u,RelV v u∧zlW X.env h' m' y u) (len:σ'.length=X.N.length):Inv X pins σ' H { s with heap:=h',toks:=t' }:=by
 have lt:∀ b o,X.s₀.heap.get? b=some o->b≠X.env.locals:=λb o e=>Nat.ne_of_lt (Nat.lt_of_lt_of_le (Heap.lt_size e) I.ok.above)
 refine ⟨I.ok,I.os,I.bare,⟨λb o e n hb hx=>(hs.2 b (lt b o e)).trans (I.base.keep b o e n hb hx),λb o e n hb hx=>?_,I.base.free,λb o e hx=>?_,I.base.tups,I.base.frzs,I.base.tbls⟩,⟨m',hn',hl⟩,λy c e=>?_,I.free,I.freeC,λp hp=>?_,λb u e=>?_,len⟩
 ·obtain ⟨sl,q⟩:=I.base.slot b o e n hb hx
  exact ⟨sl,(hs.2 b (lt b o e)).trans q⟩
 ·obtain ⟨o',q⟩:=I.base.there b o e hx
  exact ⟨o',(hs.2 b (lt b o e)).trans q⟩
 ·obtain ⟨w',z⟩:=I.cell y c e
  exact ⟨w',z.sameBut hs (I.cne y c e)⟩
 ·obtain ⟨e,n,ne,nf,d⟩:=I.pin p hp
  exact ⟨(hs.2 p.1 ne).trans e,n,ne,nf,d⟩
 ·refine (I.hok b u e).stay (λc v hc q=>(hs.2 c ?_).trans q) (λ_ q=>q) λ_ _ q=>q
  intro z
  have z':=I.free
  rw [← z] at z'
  rcases hc with hc | hc
  ·rw [hc,e] at z';cases z'
  ·rw [hc] at z';cases z'
theorem goes_ok {M:Model} {A:Around} {E:Value->Shared->Prop} {i:Nat} {n:Str} {pos:Pos} {Q:Unit->Shared->Prop} (I:Inv X pins σ H s) (hN:X.N.Nodup) (hi:X.N[i]?=some n) (hloc:X.env.scope.names.lookup n=some .local)
  (h:∀ s',Inv X pins (σ.set i none) H s'->Q () s'):wpAny M A (do bindName X.env n .none;unbindBehindTheSuite X.env n pos) Q E s:=by
 have hcls:(X.env.scope.kind == .class||(X.env.scope.kind == .module&&X.env.locals != X.env.globals))=false:=by rw [I.ok.kind];rfl
 have hk:X.env.kindOf n=some .local:=hloc
 have hiσ:i<σ.length:=by rw [I.len];exact (List.getElem?_eq_some_iff.mp hi).1
 refine wpAny_bind (wpAny_bindName (store_ok I hN hi (.inl hloc) (v:=.non) (u:=.none) rfl (λs1 I1=>?_) (.inr hloc)))
 obtain ⟨m,hn,hl⟩:=id I1.loc
 have hm:m n=some .none:=by
  obtain ⟨u,r,q⟩:=hl i n .non hi (List.getElem?_set_self hiσ) (.inl hloc)
  have r:u=Value.none:=r
  subst r
  rcases q with ⟨_,e⟩ | ⟨k,_⟩
  ·exact e
  ·rw [hk] at k;rcases k with k | k<;>cases k
 unfold unbindBehindTheSuite
 refine wpAny_onRaise ?_
 unfold unbindName
 refine wpAny_bind (wpAny_point (wpAny_bind ?_))
 unfold deleteName
 simp only [hk,hcls]
 rw [if_neg (by decide)]
 refine wpAny_bind (wpAny_nsDel_keeps hn λh2 v hn2 hs2=>?_)
 rw [hm]
 simp only [Option.isSome_some,Bool.not_true,Bool.false_eq_true,if_false]
 refine wpAny_pure (wpAny_point (h { s1 with heap:=h2 } (I1.locals (t':=s1.toks) hs2 hn2 (λj y v' e1 e2 e3=>?_) (by simp [I.len]))))
 by_cases hj:i=j
 ·subst hj
  rw [List.getElem?_set_self hiσ] at e2;cases e2
 ·rw [List.getElem?_set_ne hj] at e2
  obtain ⟨u',r',q⟩:=hl j y v' e1 (by rw [List.getElem?_set_ne hj];exact e2) e3
  have hy:y≠n:=λe=>hj (nodup_ix hN hi (e ▸ e1))
  refine ⟨u',r',?_⟩
  rcases q with ⟨k,e⟩ | ⟨k,c,e,z⟩
  ·exact .inl ⟨k,by simp [hy,e]⟩
  ·exact .inr ⟨k,c,e,z.sameBut hs2 (I.cne y c e)⟩
theorem Inv.track {e C:Addr} (I:Inv X pins σ H s) (x:XAt s.heap e C) (hn:H e=none) (hF:Fz X pins e):Inv X pins σ (upd H e (excO e C [])) s:=by
 obtain ⟨o,vs,hx,hc,hd⟩:=id x
 obtain ⟨_,a2,a3,a4,a5⟩:=exc_apart I hx hd hn hF
 refine ⟨I.ok,I.os,I.bare,⟨I.base.keep,I.base.slot,λb o' q n hx=>?_,I.base.there,λb xs q=>?_,λb o' u q=>?_,λb ps q=>?_⟩,I.loc,I.cell,?_,λy c q=>?_,λp hp=>?_,λb u q=>?_,I.len⟩
 ·have hb:b≠e:=λz=>by rw [z,a2] at q;cases q
  rw [upd_ne hb];exact I.base.free b o' q n hx
 ·have q1:=I.base.tups b xs q
  rw [upd_ne (ne_of_none q1 hn)];exact q1
 ·have q1:=I.base.frzs b o' u q
  rw [upd_ne (ne_of_none q1 hn)];exact q1
 ·obtain ⟨more,q1⟩:=I.base.tbls b ps q
  exact ⟨more,by rw [upd_ne (ne_of_none q1 hn)];exact q1⟩
 ·rw [upd_ne (Ne.symm a3)];exact I.free
 ·rw [upd_ne (a4 y c q)];exact I.freeC y c q
 ·obtain ⟨q1,q2,q3,q4,q5⟩:=I.pin p hp
  exact ⟨q1,by rw [upd_ne (a5 p hp)];exact q2,q3,q4,q5⟩
 ·by_cases hb:b=e
  ·subst hb;rw [upd_same] at q;cases q;exact excO_ok x
  ·rw [upd_ne hb] at q
   exact (I.hok b u q).stay (λ_ _ _ z=>z) (λc z=>by rw [upd_ne (ne_of_none z hn)];exact z) λc xs z=>by rw [upd_ne (ne_of_none z hn)];exact z
abbrev Cx.marked (X:Cx) (e:Addr):Cx:={ X with A:=X.A.mark (some (.ref e)),calm:=false,xe:=λ_ _=>False }
theorem Inv.marked {e:Addr} (I:Inv X pins σ H s):Inv (X.marked e) pins σ H s :=
 ⟨⟨I.ok.mod,I.ok.kind,I.ok.glob,I.ok.blt,I.ok.above,I.ok.inj,I.ok.has,I.ok.cab,(λz=>(nomatch z)),I.ok.frames,I.ok.stk,I.ok.exf,I.ok.bs,I.ok.bsz,I.ok.noex,I.ok.exfs,I.ok.funs,I.ok.frf⟩,I.os,I.bare,I.base,I.loc,I.cell,I.free,I.freeC,I.pin,I.hok,I.len⟩
theorem Inv.unmarked {e:Addr} (I:Inv (X.marked e) pins σ H s) (ok:X.Ok):Inv X pins σ H s :=
 ⟨ok,I.os,I.bare,I.base,I.loc,I.cell,I.free,I.freeC,I.pin,I.hok,I.len⟩
end
section
variable {X:Cx} {K:W.Frag}
theorem zjl {body:List Stmt} {tb:TSX} {cn n x:Str} {CS:Addr} {i j:Nat} {p1 p2 p3 p4 p5 pos:Pos} (O:Own X) (hK:X.K=K) (hN:X.N.Nodup) (hn:X.N[i]?=some n) (hln:X.env.scope.names.lookup n=some .local) (hx:X.N[j]?=some x) (hlx:Loc X.env.scope x)
  (hfx:X.fn x=true∨X.env.scope.names.lookup x=some .local) (hg:Gl X cn) (hm:X.mg cn=some (.ref CS)) (hb:zfY X body tb) (hd:(n == ("__debug__":Str))=false:=by decide) (hcd:(n == ("__classdict__":Str))=false:=by decide)
  (hdb:(cn == ("__debug__":Str))=false:=by decide) (hsw:swapsWith (.Name n p3) (some (.Name x p2)) p4.line X.env=pure false:=by rfl) :
  PSX X (.Try body [.ExceptHandler (some (.Name cn p1)) (some n) [.Assign [.Name x p2] (.Name n p3) p4] p5] [] [] pos)
   (λD _ σ H=>tb D (λσ' cls _ H'=>∃ C,cls=.ref C∧W.exmOne K (.ref C) (.ref CS)=some true∧∀ a,H' a=none->D.nx ((σ'.set j (some (.ref a))).set i none) (upd H' a (excO a C []))) σ H):=by
 subst hK
 intro pins s σ H D E I h
 refine wpAny_Try_except (wpAny_mono (hb pins s σ H D _ I h) (λf s1 q=>?_) λev s1 q=>?_)
 ·cases f with
  | next=>exact wpAny_execs_nil q
  | ret v=>exact q
  | brk=>exact q
  | cont=>exact q
 ·obtain ⟨σ',e,cls,dct,H',rfl,I1,x1,C,rfl,hC,q⟩:=q
  refine note_exc O I1 x1 rfl λs2 I2 x2=>?_
  refine zdY (fr:=none) O I2 x2 λs3 I3 x3=>?_
  obtain ⟨oe,vs,a0,y1,y2,y3,y4,y5,y6,y7,y8,_⟩:=id x3
  have xa:XAt s3.heap e C:=⟨oe,vs,y1,y2,y4⟩
  refine wpAny_handleBy_cons (codeAny_handlers_test ?_) (by intro z;cases z)
  refine ld_glob (X:=X.marked e) I3.marked hg hm ?_ hdb
  refine (W.exm_one I3.kIn xa.ty hC).at ?_
  refine codeAny_handlers_suite_as ?_
  refine zdY (fr:=none) O I3 x3 λs4 I4 x4=>?_
  obtain ⟨oe,vs,a0,y1,y2,y3,y4,y5,y6,y7,y8,_⟩:=id x4
  have I5:=I4.track ⟨oe,vs,y1,y2,y4⟩ y7 y8
  refine store_ok I5 hN hn (.inl hln) (v:=.ref e) rfl (λs6 I6=>?_) (.inr hln)
  have hset:PS (X.marked e) (.Assign [.Name x p2] (.Name n p3) p4) (zfm (tVar i) (zbo j)):=zao hN hx hlx (pe_var hn (.inl hln) hd hcd) hsw hfx
  have hiσ:i<σ'.length:=by rw [I1.len];exact (List.getElem?_eq_some_iff.mp hn).1
  refine wpAny_mono ((zjU hset) pins s6 _ _ { nx:=λσ'' H''=>σ''=(σ'.set i (some (.ref e))).set j (some (.ref e))∧H''=upd H' e (excO e C []),rt:=λ_ _=>False } I6.marked ⟨.ref e,List.getElem?_set_self hiσ,rfl,rfl⟩) (λf s7 q7=>?_) λ_ _ z=>z.elim
  cases f with
  | ret v=>obtain ⟨_,_,_,_,_,z⟩:=q7;exact z.elim
  | brk=>obtain ⟨_,_,_,z⟩:=q7;exact z.elim
  | cont=>obtain ⟨_,_,_,z⟩:=q7;exact z.elim
  | next =>
   obtain ⟨σ7,H7,I7,rfl,rfl⟩:=q7
   show wpAny _ _ _ _ _ s7
   refine goes_ok (I7.unmarked I.ok) hN hn hln λs8 I8=>?_
   have eσ:((σ'.set i (some (V.ref e))).set j (some (.ref e))).set i none=(σ'.set j (some (.ref e))).set i none:=by
    by_cases hij:i=j
    ·subst hij;simp
    ·refine List.ext_getElem? λk=>?_
     by_cases h1:i=k
     ·subst h1
      rw [List.getElem?_set_self (by simpa using hiσ),List.getElem?_set_self (by simpa using hiσ)]
     ·rw [List.getElem?_set_ne h1,List.getElem?_set_ne h1]
      by_cases h2:j=k
      ·subst h2
       by_cases h3:j<σ'.length
       ·rw [List.getElem?_set_self (by simpa using h3),List.getElem?_set_self h3]
       ·rw [List.getElem?_eq_none (by simp;omega),List.getElem?_eq_none (by simp;omega)]
      ·rw [List.getElem?_set_ne h2,List.getElem?_set_ne h2,List.getElem?_set_ne h1]
   rw [eσ] at I8
   exact ⟨_,_,I8,q e y7⟩
end
end L2
namespace L2
open PySem PySem.Spec PyProof.Rows
abbrev atE (E:XS) (t:TSX):TS:=λD σ H=>t D E σ H
abbrev zkb (t:TS):TSX:=λD _ σ H=>t D σ H
abbrev zmb (t u:TSX):TSX:=λD E σ H=>tSeq (atE E t) (atE E u) D σ H
abbrev ifX (c:TT) (t u:TSX):TSX:=λD E σ H=>zkS c (atE E t) (atE E u) D σ H
def zi0 (ta:TA) (C:Addr) (E:XS):TS:=λ_ σ H=>ta σ H λvs H1=>vs.length≤sizeLine∧E σ (.ref C) none H1
def zkf (te:TEX) (i:Nat) (E:XS):TS:=λD σ H=>te σ H (λv H1=>D.nx (σ.set i (some v)) H1) (E σ)
def callX (sp:Sp) (t:TA):TEX:=λσ H Q E=>t σ H λvs H1=>sp (vs++[]) H1 Q E
def zlK (K:W.Frag) (CS:Addr) (i j:Nat) (tb:TSX):TS:=λD σ H=>tb D (λσ' cls _ H'=>∃ C,cls=.ref C∧W.exmOne K (.ref C) (.ref CS)=some true∧∀ a,H' a=none->D.nx ((σ'.set j (some (.ref a))).set i none) (upd H' a (excO a C []))) σ H
section
variable {X:Cx} {K:W.Frag} {e:Expr} {st:Stmt} {rest:List Stmt} {pos:Pos}
theorem zfC:zfY X [] (zkb zh1):=ziy
theorem zcT {t u:TSX} (h1:PSX X st t) (h2:zfY X rest u):zfY X (st :: rest) (zmb t u):=zht (t:=t) (u:=u) h1 h2
theorem zeo {t:TS} (h:PS X.nox st t):PSX X st (zkb t):=zir h
theorem zlG {c:Expr} {a b:List Stmt} {tc:TT} {t u:TSX} (hc:PT X.nox c tc) (ha:zfY X a t) (hb:zfY X b u):PSX X (.If c a b pos) (ifX tc t u):=zkT (t:=t) (u:=u) hc ha hb
theorem zkg {i:Nat} {x:Str} {te:TEX} {pos':Pos} (hN:X.N.Nodup) (hi:X.N[i]?=some x) (hx:Loc X.env.scope x) (he:PEX X e te) (hs:swapsWith e (some (.Name x pos')) pos.line X.env=pure false:=by rfl)
  (hf:X.fn x=true∨X.env.scope.names.lookup x=some .local:=by first | exact .inl rfl | exact .inr rfl | assumption):PSX X (.Assign [.Name x pos'] e pos) (λD E σ H=>zkf te i E D σ H):=zjf hN hi hx he hs hf
theorem xe_fn {k:Nat} {ps:List Str} {sp:Sp} {x:Str} {p:Pos} {es:List Expr} {t:TA} (O:Own X) (F:Callee X.prog X.w X.K X.mg X.base (CXE X.prog X.w) k x ps sp) (hr:Room k X.A) (hg:Gl X x)
  (ha:PA X.nox (e :: es) t) (hdb:(x == ("__debug__":Str))=false:=by decide) (he:starEach (e :: es) X.env=(false,eval e X.env) :: starEach es X.env:=by rfl) (hpl:(backTo pos (starEach es X.env)).any (·.1)=false:=by rfl) :
  PEX X (.Call (.Name x p) (e :: es) [] pos) (callX sp t):=zlx O F hr hg ha hdb he hpl
theorem ziO {C:Addr} {B newId initId:String} {bmB:List Value} {x:Str} {es:List Expr} {t:TA} {np cpos:Pos} (O:Own X) (hc:X.calm=true) (hg:Gl X x) (hm:X.mg x=some (.ref C)) (hK:W.excIn X.K C bmB newId=true) (FB:ExcBaseFacts B newId initId bmB)
  (ha:PA X.nox (e :: es) t) (hdb:(x == ("__debug__":Str))=false:=by decide) (he:starEach (e :: es) X.env=(false,eval e X.env) :: starEach es X.env:=by rfl) (hpl:(backTo cpos (starEach es X.env)).any (·.1)=false:=by rfl) :
  PSX X (.Raise (some (.Call (.Name x np) (e :: es) [] cpos)) none pos) (λD E σ H=>zi0 t C E D σ H):=zg3 O hc hg hm hK FB ha hdb he hpl
theorem zk6 {body:List Stmt} {tb:TSX} {cn n x:Str} {CS:Addr} {i j:Nat} {p1 p2 p3 p4 p5:Pos} (O:Own X) (hK:X.K=K) (hN:X.N.Nodup) (hn:X.N[i]?=some n) (hln:X.env.scope.names.lookup n=some .local) (hx:X.N[j]?=some x) (hlx:Loc X.env.scope x)
  (hfx:X.fn x=true∨X.env.scope.names.lookup x=some .local) (hg:Gl X cn) (hm:X.mg cn=some (.ref CS)) (hb:zfY X body tb) (hd:(n == ("__debug__":Str))=false:=by decide) (hcd:(n == ("__classdict__":Str))=false:=by decide)
  (hdb:(cn == ("__debug__":Str))=false:=by decide) (hsw:swapsWith (.Name n p3) (some (.Name x p2)) p4.line X.env=pure false:=by rfl) :
  PSX X (.Try body [.ExceptHandler (some (.Name cn p1)) (some n) [.Assign [.Name x p2] (.Name n p3) p4] p5] [] [] pos) (λD _ σ H=>zlK K CS i j tb D σ H):=zjl O hK hN hn hln hx hlx hfx hg hm hb hd hcd hdb hsw
end
def dE (C:Addr):Ds:=⟨λH v=>∃ a,v=.ref a∧H a=some (excO a C []),λe ⟨a,h1,h2⟩=>⟨a,h1,e _ _ h2⟩⟩
theorem NN.exc {ε:Type} {xc:ε->Addr}:NN (λe=>dE (xc e)):=λ_ _ _ ⟨_,h,_⟩=>by rw [h];simp
def zbE {ε:Type} (f:ε->Bool) (x:Option ε):Bool:=match x with
 | none=>false
 | some e=>f e
def ziw (K:W.Frag):List V->Hp->VK->Prop:=λxs H Q=>zlT K xs H Q∨∃ a C c b,(xs=[.ref a,c])∧H a=some (excO a C [])∧XCls K C∧(∃ u,RelV c u∧(∀ u',RelV c u'->u'=u)∧W.kitOne K (.ref C) u=some b)∧Q (.bl b) H
theorem call_isiB {X:Cx} {K:W.Frag} (hK:X.K=K):zdJ X (.builtin "isinstance") (ziw K):=λpins s σ H xs us Q I r h=>by
 rcases h with h | h
 ·exact zgE hK pins s σ H xs us Q I r h
 ·exact zhB hK pins s σ H xs us Q I r h
section
variable {E:XS} {Γ Δ Γx:Ctx} {m:Bool} {K:W.Frag} {α β ε:Type} {u:TS} {o:Oc} {ds:List Ds}
theorem za1 {xc:ε->Addr} {x:Option ε} {ta:TE} {C:Addr} {f:ε->Bool} (h:Ev Γ ta false (dOpt (λe=>dE (xc e)) x)) (h0:W.kitOne K (.type "NoneType") (.ref C)=some false) (h1:∀ e,XCls K (xc e)∧W.kitOne K (.ref (xc e)) (.ref C)=some (f e)) :
  Ev Γ (tCB (ziw K) (tCons ta (tCons (tC (.ref C)) tNil))) m (dB (zbE f x)):=λF0 Hb F H σ own Q a k =>
 h F0 Hb F H σ own _ a λv F1 H1 g1 q1=>by
  cases x with
  | none =>
   have q1:v=.non:=q1
   subst q1
   exact .inl ⟨.non,.type "NoneType",false,.inr ⟨C,rfl,h0⟩,.non,k _ F1 H1 g1 rfl⟩
  | some e =>
   obtain ⟨p,rfl,hp⟩:=q1
   exact .inr ⟨p,xc e,.ref C,f e,rfl,(part_sub.trans g1.fh) _ _ hp,(h1 e).1,⟨.ref C,rfl,λu' z=>z,(h1 e).2⟩,k _ F1 H1 g1 rfl⟩
theorem ziJ {xc:ε->Addr} {x:Option ε} {ta:TE} {T:String} {f:ε->Bool} (h:Ev Γ ta false (dOpt (λe=>dE (xc e)) x)) (h0:W.kitOne K (.type "NoneType") (.type T)=some false) (h1:∀ e,XCls K (xc e)∧W.kitOne K (.ref (xc e)) (.type T)=some (f e)) :
  Ev Γ (tCB (ziw K) (tCons ta (tCons (tC (.ty T)) tNil))) m (dB (zbE f x)):=λF0 Hb F H σ own Q a k =>
 h F0 Hb F H σ own _ a λv F1 H1 g1 q1=>by
  cases x with
  | none =>
   have q1:v=.non:=q1
   subst q1
   exact .inl ⟨.non,.type "NoneType",false,.inl ⟨T,rfl,h0⟩,.non,k _ F1 H1 g1 rfl⟩
  | some e =>
   obtain ⟨p,rfl,hp⟩:=q1
   exact .inr ⟨p,xc e,.ty T,f e,rfl,(part_sub.trans g1.fh) _ _ hp,(h1 e).1,⟨.type T,rfl,λu' z=>z,(h1 e).2⟩,k _ F1 H1 g1 rfl⟩
theorem zhZ {v:V} {t:Value} {ta:TE} {T:String} {b:Bool} (ty:∀ H,TyOf K H v t) (h:Ev Γ ta false (dV v)) (hk:W.kitOne K t (.type T)=some b):Ev Γ (tCB (ziw K) (tCons ta (tCons (tC (.ty T)) tNil))) m (dB b):=λF0 Hb F H σ own Q a k =>
 h F0 Hb F H σ own _ a λv' F1 H1 g1 q1=>by
  cases q1
  exact .inl ⟨v,t,b,.inl ⟨T,rfl,hk⟩,ty H1,k _ F1 H1 g1 rfl⟩
def foX (xc:ε->Addr) (Γx:Ctx) (fo:β->Oc):Except ε β->Oc
 | .ok v=>fo v
 | .error e=>.ex (xc e) Γx
def zlD (r:Except ε α) (k:α->Except ε β):Except ε β:=match r with
 | .ok v=>k v
 | .error e=>.error e
theorem zh5 {C:Addr} {ta:TA} (h:EvA Γ ta m ds) (hz:ds.length≤sizeLine) (w:Wk Γ Γx):Run E Γ (tSeq (zi0 ta C E) u) (.ex C Γx):=λF0 Hb F H σ own D a q =>
 h F0 Hb F H σ own _ a λvs F1 H1 g1 q1=>⟨by rw [Paired.length q1];exact hz,q none F1 H1 σ own ((a.grow g1).wk w)⟩
def zln (xc:ε->Addr) (m:Bool) (d:α->Ds):Except ε α->Rs
 | .ok v=>.va m (d v)
 | .error e=>.ex (xc e)
theorem zij {ι:Type} {args:ι->List Ds} {pre:ι->Prop} {res:ι->Rs} {tr:TA} {xc:ε->Addr} {d:α->Ds} {r:Except ε α} {kk:α->Except ε β} {i:Nat} (fo:β->Oc) (x:ι) (h:EvA Γ tr false ds) (ha:ds=args x) (hp:pre x) (hr:res x=zln xc m d r) (w:Wk Γ Γx)
  (k:∀ v,r=.ok v->Run E (Γ.set i (.va m (d v))) u (foX xc Γx fo (kk v))):Run E Γ (tSeq (zkf (callX (Spv args pre res) tr) i E) u) (foX xc Γx fo (zlD r kk)):=λF0 Hb F H σ own D a q=>by
 subst ha
 refine h F0 Hb F H σ own _ a λvs F1 H1 g1 q1=>⟨x,F1,g1.fh,by rw [List.append_nil];exact q1,hp,?_⟩
 rw [hr]
 cases r with
 | ok v=>exact λv' F' H' g qv=>k v rfl F0 Hb F' H' _ own D ((a.grow (g1.trans g)).set i ((d v).up (part_old (a.g.h.trans g1.h)) qv)) q
 | error e=>exact λdct F' H' g=>q dct F' H' σ own ((a.grow (g1.trans g)).wk w)
theorem zjq {CS:Addr} {i j:Nat} {tb:TSX} {xc:ε->Addr} {r:Except ε α} (Gok:α->Ctx) (Gerr:Ctx) (Gj:Except ε α->Ctx) (hb:∀ E',Run E' Γ (atE E' tb) (foX xc Gerr (λv=>.nx (Gok v)) r))
  (w1:∀ v,r=.ok v->Wk (Gok v) (Gj r)) (w2:∀ e,r=.error e->W.exmOne K (.ref (xc e)) (.ref CS)=some true∧Wk ((Gerr.set j (.va true (dE (xc e)))).set i .no) (Gj r)) (k:Run E (Gj r) u o) :
  Run E Γ (tSeq (zlK K CS i j tb) u) o:=λF0 Hb F H σ own D a q=>by
 refine hb _ F0 Hb F H σ own { D with nx:=u D } a ?_
 cases r with
 | ok v=>exact λF1 H1 σ1 own1 a1=>k F0 Hb F1 H1 σ1 own1 D (a1.wk (w1 v rfl)) q
 | error e =>
  refine λdct F1 H1 σ1 own1 a1=>⟨xc e,rfl,(w2 e rfl).1,λx hx=>?_⟩
  obtain ⟨h1,h2,h3⟩:=a1.free (Grow.refl a1.fh) hx
  have g2:Grow F1 H1 (upd F1 x (excO x (xc e) [])) (upd H1 x (excO x (xc e) [])):=(Grow.refl a1.fh).new hx
  have a2:=(a1.grow g2).set j (m:=true) (d:=dE (xc e)) (v:=.ref x) ⟨x,rfl,zdm h3 upd_same⟩
  refine k F0 Hb (upd F1 x (excO x (xc e) [])) _ _ own1 D (At.wk ?_ (w2 e rfl).2) q
  exact ⟨a2.g,a2.inj,a2.liv,λl s es=>by
   by_cases z:i=l
   ·subst z
    have hi:i<(Gerr.set j (.va true (dE (xc e)))).length:=by simpa using (List.getElem?_eq_some_iff.mp es).1
    rw [List.getElem?_set_self hi] at es
    cases es;trivial
   ·rw [List.getElem?_set_ne z] at es
    have:=a2.sl l s es
    rw [List.getElem?_set_ne z]
    exact this,by simp [a1.len]⟩
end
section
variable {E:XS} {Γ:Ctx} {K:W.Frag} {α β ε:Type} {u:TS}
def zlL (r:Except ε α):Option ε:=match r with
 | .ok _=>none
 | .error e=>some e
theorem ziL {CS:Addr} {i j:Nat} {tb:TSX} {xc:ε->Addr} {r:Except ε α} (Gok:α->Ctx) (Gerr:Ctx) (Gj:Except ε α->Ctx) (fo:β->Oc) {kk:Except ε α->β} (hb:∀ E',Run E' Γ (atE E' tb) (foX xc Gerr (λv=>.nx (Gok v)) r))
  (w1:∀ v,Wk (Gok v) (Gj (.ok v))) (w2:∀ e,W.exmOne K (.ref (xc e)) (.ref CS)=some true∧Wk ((Gerr.set j (.va true (dE (xc e)))).set i .no) (Gj (.error e))) (k:∀ y,y=r->Run E (Gj y) u (fo (kk y))) :
  Run E Γ (tSeq (zlK K CS i j tb) u) (fo (Let r kk)) :=
 zjq Gok Gerr Gj hb (λv e=>by rw [e];exact w1 v) (λe' e=>by rw [e];exact w2 e') (k r rfl)
theorem zgR {xc:ε->Addr} {m:Bool} {d:α->Ds} {n:Nat} {r:Except ε α}:zla n (zln xc m d r)=foX xc (List.replicate n .no) (λv=>.rt m (d v)) r:=by cases r<;>rfl
end
theorem exm_of {K:W.Frag} {C CS:Addr} (h1:W.subIn K (.ref CS) (.type "BaseException")=some true) (h2:W.mroIn K CS (.type "object")=some true) (h3:W.typeIn K (.ref CS)=some (.type "type")) (h4:W.subIn K (.ref C) (.ref CS)=some true):W.exmOne K (.ref C) (.ref CS)=some true:=by
 unfold W.exmOne
 rw [h1,if_pos (by simp)]
 unfold W.kitCls
 obtain ⟨cd,hc,_⟩:=Option.bind_eq_some_iff.mp h2
 dsimp only
 rw [hc,h3,if_pos (by simp),h4]
section
variable {P:Program} {w:World} {K:W.Frag} {mg:Str->Option Value} {base:Heap} {x qual:Str} {st:Stmt} {f:Addr} {fd:FuncData} {N ps:List Str} {k:Nat}
theorem Fun.okVX {ι:Type} {args:ι->List Ds} {pre:ι->Prop} {res:ι->Rs} (F:Fun K x qual st f fd) (S:FnScope N ps (defScope st)) (hl:∀ i,(args i).length=ps.length)
  (hbody:∀ (cdv:Value) (A:Around) (outer:List Env) (s:Shared) (H:Hp) (E:XK) (i:ι),Room k (A.deeper (envOfC qual (defScope st) s.heap.objs.size f cdv))->pre i->Own (zgA (CXE P w) P w K mg base N qual (defScope st) f cdv A outer s H E) →
   ∃ t,zfY (zgA (CXE P w) P w K mg base N qual (defScope st) f cdv A outer s H E) (zas st) t∧(Run (λ_=>E) (startC N (args i)) (atE (λ_=>E) t) (zla N.length (res i))∨∃ m Δ,(∀ C,res i≠.ex C)∧res i=.va m dN∧Run (λ_=>E) (startC N (args i)) (atE (λ_=>E) t) (.nx Δ))) :
  FnOk P w K mg base (CXE P w) (k+1) f fd ps (Spv args pre res):=by
 refine F.okX S (λvs H Q E ⟨i,F',_,hv,_⟩=>by rw [Paired.length hv];exact hl i) λcdv A outer s H vs Q E hr ⟨i,F',hF,hv,hp,hq⟩=>?_
 obtain ⟨t,h1,h2⟩:=hbody cdv A outer s H E i hr hp ⟨rfl,rfl,rfl⟩
 have hq':ResOk H F' Q E (res i):=by
  cases e:res i with
  | va m d=>rw [e] at hq;exact hq
  | ow m ds=>rw [e] at hq;exact hq
  | ex C=>rw [e] at hq;exact hq
 refine ⟨t,h1,?_⟩
 rcases h2 with h2 | ⟨m,Δ,_,e,h2⟩
 ·exact zhj (t:=atE (λ_=>E) t) hF hv hq' h2
 ·rw [e] at hq'
  exact zge (t:=atE (λ_=>E) t) hF hv hq' h2
end
end L2
namespace L2
open PySem PySem.Spec PyProof.Rows
def EvN (Γ:Ctx) (t:TE) (d:Ds):Prop:=∀ (F0 Hb F H:Hp) (σ:St) (own:Nat->Option Addr) (Q:VK),At F0 Hb F H σ own Γ->(∀ v F' H',Grow F H F' H'->d.pr (off F' H) v->Q v H')->t σ H Q
def zl2:Slot->Slot
 | .va _ d=>.va false d
 | _=>.no
def zkr (Γ:Ctx):Ctx:=Γ.map zl2
theorem At.now {F0 Hb F H:Hp} {σ:St} {own:Nat->Option Addr} {Γ:Ctx} (a:At F0 Hb F H σ own Γ):At F H F H σ (λ_=>none) (zkr Γ):=by
 refine ⟨Grow.refl a.fh,λ_ _ _ h=>(nomatch h),λ_ _ h=>(nomatch h),λi s e=>?_,by unfold zkr;rw [List.length_map];exact a.len⟩
 unfold zkr at e
 rw [List.getElem?_map] at e
 cases q:Γ[i]? with
 | none=>rw [q] at e;cases e
 | some r =>
  rw [q] at e
  have e':zl2 r=s:=Option.some.inj e
  subst e'
  have h:=a.sl i r q
  cases r with
  | va m d =>
   obtain ⟨x,h1,h2⟩:=h
   exact ⟨x,h1,d.up part_sub h2⟩
  | no=>trivial
  | ow m ds=>trivial
  | ob m C p dx fs=>trivial
  | ol p ds=>trivial
  | tl d=>trivial
theorem zkR {Γ:Ctx} {t:TE} {d:Ds} (h:Ev (zkr Γ) t true d):EvN Γ t d:=λF0 Hb F H σ own Q a k=>h F H F H σ _ Q a.now λv F' H' g q=>k v F' H' g q
theorem At.setTl {F0 Hb F H F' H':Hp} {σ:St} {own:Nat->Option Addr} {Γ:Ctx} (a:At F0 Hb F H σ own Γ) (g:Grow F H F' H') (i:Nat) {d:Ds} {v:V} (h:d.pr (off F' H) v):At F0 Hb F H' (σ.set i (some v)) own (Γ.set i (.tl d)):=by
 have gF:Grow F H F H':=⟨Same.refl _,a.fh.trans g.h,g.h,λ_ _ z=>z⟩
 have a':=a.grow gF
 refine ⟨a'.g,a'.inj,a'.liv,λj s e=>?_,by simp [a.len]⟩
 by_cases z:i=j
 ·subst z
  have hi:i<Γ.length:=by simpa using (List.getElem?_eq_some_iff.mp e).1
  rw [List.getElem?_set_self hi] at e
  cases e
  rw [join_set_self (by rw [a.len];exact hi)]
  refine ⟨v,off F' H,rfl,zha.trans g.fh,λb o q=>?_,λj p q=>?_,h⟩
  ·have hb:=(off_some.mp q).1
   exact ⟨a.fh.free hb,a.g.h.free hb⟩
  ·have:=a.liv j p q
   cases w:off F' H p with
   | none=>rfl
   | some o=>exact absurd (off_some.mp w).1 this
 ·rw [List.getElem?_set_ne z] at e
  rw [zdz z]
  exact a'.sl j s e
section
variable {E:XS} {Γ:Ctx} {te:TE} {u:TS} {o:Oc} {d d1 d2:Ds} {K:W.Frag} {i j:Nat}
theorem ziB (h:EvN Γ te d) (k:Run E (Γ.set i (.tl d)) u o):Run E Γ (tSeq (zfm te (zbo i)) u) o:=λF0 Hb F H σ own D a q =>
 h F0 Hb F H σ own _ a λv F' H' g p=>k F0 Hb F H' _ own D (a.setTl g i p) q
theorem ziW {α β:Type} {x:α} (f:α->Ds) (fo:β->Oc) {kk:α->β} (h:EvN Γ te (f x)) (k:∀ y,y=x->Run E (Γ.set i (.tl (f y))) u (fo (kk y))):Run E Γ (tSeq (zfm te (zbo i)) u) (fo (Let x kk)):=ziB h (k x rfl)
end
def shS:Slot->Slot
 | .tl d=>.va true d
 | s=>s
def shC (Γ:Ctx):Ctx:=Γ.map shS
def zis (Γ:Ctx):Bool:=Γ.all λs=>match s with | .ob _ _ _ _ _=>false | _=>true
open Classical in
noncomputable def wide (F Hb H:Hp) (own:Nat->Option Addr):Hp:=λa=>match F a with
 | some o=>some o
 | none=>if Hb a=none∧∀ j,own j≠some a then H a else none
theorem wide_f {F Hb H:Hp} {own:Nat->Option Addr}:Same F (wide F Hb H own):=λa o q=>by unfold wide;rw [q]
theorem zj4 {F Hb H:Hp} {own:Nat->Option Addr} (e:Same F H):Same (wide F Hb H own) H:=λa o q=>by
 unfold wide at q
 cases z:F a with
 | some o'=>rw [z] at q;cases q;exact e _ _ z
 | none =>
  rw [z] at q
  dsimp only at q
  split at q
  ·exact q
  ·cases q
theorem At.wide {F0 Hb F H:Hp} {σ:St} {own:Nat->Option Addr} {Γ:Ctx} (a:At F0 Hb F H σ own Γ) (hno:zis Γ=true):At F0 Hb (wide F Hb H own) H σ own (shC Γ):=by
 refine ⟨⟨a.g.f.trans wide_f,zj4 a.fh,a.g.h,λb h1 h2=>?_⟩,a.inj,a.liv,λi s e=>?_,by unfold shC;rw [List.length_map];exact a.len⟩
 ·unfold L2.wide
  rw [a.g.no b h1 h2]
  dsimp only
  rw [if_neg (λz=>h1 z.1)]
 ·unfold shC at e
  rw [List.getElem?_map] at e
  cases q:Γ[i]? with
  | none=>rw [q] at e;cases e
  | some r =>
   rw [q] at e
   have e':shS r=s:=Option.some.inj e
   subst e'
   have h:=a.sl i r q
   cases r with
   | va m d =>
    obtain ⟨x,h1,h2⟩:=h
    exact ⟨x,h1,d.up (part_up wide_f) h2⟩
   | no=>trivial
   | ow m ds =>
    obtain ⟨p,vs,h1,h2,h3,h4,h5,h6⟩:=h
    refine ⟨p,vs,h1,h2,?_,h4,h5,pr_up (ds:=[]) (part_up wide_f) h6⟩
    unfold L2.wide
    rw [h3]
    dsimp only
    rw [if_neg (λz=>z.2 i h2)]
   | ol p ds =>
    obtain ⟨vs,h1,h2,h3,h4,h5,h6⟩:=h
    refine ⟨vs,h1,h2,?_,h4,h5,pr_up (ds:=[]) wide_f h6⟩
    unfold L2.wide
    rw [h3]
    dsimp only
    rw [if_neg (λz=>z.2 i h2)]
   | ob m C p dx fs =>
    have:=List.all_eq_true.mp hno _ (List.mem_of_getElem? q)
    cases this
   | tl d =>
    obtain ⟨x,R,h1,h2,h3,h4,h5⟩:=h
    refine ⟨x,h1,d.up (λb o w=>?_) h5⟩
    refine off_some.mpr ⟨(h3 b o w).2,?_⟩
    unfold L2.wide
    rw [(h3 b o w).1]
    dsimp only
    rw [if_pos ⟨(h3 b o w).2,λj z=>by rw [h4 j b z] at w;cases w⟩]
    exact h2 b o w
section
variable {E:XS} {Γ:Ctx} {t:TE} {d:Ds} {m n:Bool} {u:TS} {o:Oc}
theorem Grow.only {F H H':Hp} (e:Same F H) (g:Same H H'):Grow F H F H':=⟨Same.refl _,e.trans g,g,λ_ _ z=>z⟩
theorem Ev.borrow {v:V} (hno:zis Γ=true) (h:Ev (shC Γ) t m (dV v)):Ev Γ t n (dV v):=λF0 Hb F H σ own Q a k =>
 h F0 Hb _ H σ own Q (a.wide hno) λx F' H' g q=>k x F H' (Grow.only a.fh g.h) q
theorem zgF {t:TS} (hno:zis Γ=true) (k:Run E (shC Γ) t o):Run E Γ t o:=λF0 Hb F H σ own D a q=>k F0 Hb _ H σ own D (a.wide hno) q
def unS:Slot->Slot
 | .tl _=>.no
 | s=>s
def unC (Γ:Ctx):Ctx:=Γ.map unS
theorem At.spoil {F0 Hb F H:Hp} {σ:St} {own:Nat->Option Addr} (a:At F0 Hb F H σ own Γ) (hno:zis Γ=true) {p:Addr} (w:HO) (h1:F p=none) (h2:Hb p=none) (h3:∀ j,own j≠some p):At F0 Hb F (upd H p w) σ own (unC Γ):=by
 refine ⟨a.g.setH h1 h2,a.inj,λj q e=>?_,λi s e=>?_,by unfold unC;rw [List.length_map];exact a.len⟩
 ·have:q≠p:=λz=>h3 j (z ▸ e)
  rw [upd_ne this];exact a.liv j q e
 ·unfold unC at e
  rw [List.getElem?_map] at e
  cases q:Γ[i]? with
  | none=>rw [q] at e;cases e
  | some r =>
   rw [q] at e
   have e':unS r=s:=Option.some.inj e
   subst e'
   have h:=a.sl i r q
   cases r with
   | va m d=>exact h
   | no=>trivial
   | ow m ds =>
    obtain ⟨x,vs,q1,q2,q3,q4,q5,q6⟩:=h
    have:x≠p:=λz=>h3 i (z ▸ q2)
    exact ⟨x,vs,q1,q2,q3,q4,by rw [upd_ne this];exact q5,q6⟩
   | ol x ds =>
    obtain ⟨vs,q1,q2,q3,q4,q5,q6⟩:=h
    have:x≠p:=λz=>h3 i (z ▸ q2)
    exact ⟨vs,q1,q2,q3,q4,by rw [upd_ne this];exact q5,q6⟩
   | ob m C p dx fs =>
    have:=List.all_eq_true.mp hno _ (List.mem_of_getElem? q)
    cases this
   | tl d=>trivial
end
theorem ev_some {Γ:Ctx} {t:TE} {m:Bool} {α:Type} [Inhabited α] {f:α->Ds} {x:Option α} (h:Ev Γ t m (dOpt f x)) (hs:x.isSome=true):Ev Γ t m (f (x.getD default)):=by
 cases x with
 | none=>cases hs
 | some v=>exact h
def gS {α:Type} [Inhabited α] (x:Option α):α:=x.getD default
section
variable {E:XS} {Γ:Ctx} {te:TE} {u:TS} {K:W.Frag} {i j:Nat} {α β:Type} {f:α->Ds}
end
section
variable {X:Cx} {K:W.Frag}
end
end L2
namespace Lat
abbrev Vc:=Nat->Int
section
variable {A B:Vc->Prop} {u v a:Vc}
end
def comb:List Int->List Vc->Vc
 | x :: xs,a :: as=>λi=>x*a i+comb xs as i
 | _,_=>λ_=>0
end Lat
namespace L2
open PySem PySem.Spec PyProof.Rows
section
variable {E:XS} {Γ:Ctx} {β:Type} {u:TS}
end
end L2
namespace Lat
def vec (l:List Int):Vc:=λi=>l.getD i 0
theorem zev {x:Int} {xs:List Int} {i:Nat}:vec (x :: xs) (i+1)=vec xs i:=by simp [vec]
theorem zjX {l:List Int} {i:Nat} (h:l.length≤i):vec l i=0:=by simp [vec,List.getD_eq_getElem?_getD,List.getElem?_eq_none h]
theorem zjD {l:List Int} {i:Nat} (h:i<l.length):vec l i∈l:=by
 simp only [vec,List.getD_eq_getElem?_getD,List.getElem?_eq_getElem h,Option.getD_some];exact List.getElem_mem h
theorem zjJ {l:List Int} {x:Int} (h:x∈l):∃ i,i<l.length∧vec l i=x:=by
 obtain ⟨i,hi,e⟩:=List.getElem_of_mem h
 exact ⟨i,hi,by simp [vec,List.getD_eq_getElem?_getD,List.getElem?_eq_getElem hi,e]⟩
end Lat
namespace Lat
end Lat
namespace Lat
def Bit (a:Nat) (l:List Int):Prop:=∀ x∈l,x.natAbs≤2^a
theorem Bit.mono {a b:Nat} {l:List Int} (h:Bit a l) (k:a≤b):Bit b l:=λx hx=>Nat.le_trans (h x hx) (Nat.pow_le_pow_right (by decide) k)
end Lat
namespace Lat
open L2
theorem zel.of {x y:Int} {a b:Nat} (h1:x.natAbs≤2^a) (h2:y.natAbs≤2^b) (ha:a≤50000000) (hb:b≤50000000):zel x y :=
 .inr (.inr ⟨zi9 (k:=a+1) (by have:2^a<2^(a+1):=Nat.pow_lt_pow_right (by decide) (Nat.lt_succ_self a);omega) (by omega) (by omega),zi9 (k:=b+1) (by have:2^b<2^(b+1):=Nat.pow_lt_pow_right (by decide) (Nat.lt_succ_self b);omega) (by omega) (by omega)⟩)
section
variable {one other:Int} {s:G4}
end
section
variable {n s a i:Nat} {l t:List Int} {h q:Int}
end
section
variable {n s a:Nat} {l t:List Int} {h:Int}
end
section
variable {n s a i:Nat} {steps:List (List Int)} {st:TS2} {x:Int×List Int}
end
section
variable {steps fl:List (List Int)} {i:Nat} {x:List Int}
end
section
variable {n b R i:Nat} {rows ss:List (List Int)} {r:List Int}
end
end Lat
namespace L2
open PySem PySem.Spec PyProof.Rows
section
variable {X:Cx} {K:W.Frag}
end
section
variable {E:XS} {Γ:Ctx} {te tj:TE} {u:TS} {o:Oc} {m:Bool} {K:W.Frag} {i j:Nat} {α β:Type} {f:α->Ds}
end
section
variable {E:XS} {Γ:Ctx} {u:TS} {o:Oc} {K:W.Frag} {i j:Nat}
theorem zho {k:Nat} {s:Slot} (h:(unC Γ)[k]?=some s):∃ r,Γ[k]?=some r∧unS r=s:=by
 unfold unC at h
 rw [List.getElem?_map] at h
 cases q:Γ[k]? with
 | none=>rw [q] at h;cases h
 | some r=>rw [q] at h;exact ⟨r,rfl,Option.some.inj h⟩
theorem zkc:unC (unC Γ)=unC Γ:=by
 unfold unC
 rw [List.map_map]
 refine List.map_congr_left λs _=>?_
 cases s<;>rfl
theorem noOb_un (h:zis Γ=true):zis (unC Γ)=true:=by
 unfold zis unC at *
 rw [List.all_map]
 refine List.all_eq_true.mpr λs hs=>?_
 have:=List.all_eq_true.mp h s hs
 cases s<;>first | rfl | exact this
theorem paired_ints {R:Hp}:∀ {vs:List V} {ns:List Int},Paired (λv (d:Ds)=>d.pr R v) vs (ns.map dI)->vs=ns.map V.int
 | [],[],_=>rfl
 | _ :: _,_ :: _,.cons h t=>by
  have h:_=V.int _:=h
  rw [h,paired_ints t];rfl
end
end L2
namespace L2
open PySem PySem.Spec PyProof.Rows
end L2
namespace Lat
open L2
def RB (w b:Nat) (rows:List (List Int)):Prop:=∀ r∈rows,r.length=w∧Bit b r
theorem setZ_mem {α:Type} {xs:List α} {i:Int} {x y:α} (h:y∈setZ xs i x):y=x∨y∈xs:=by
 unfold setZ at h
 split at h
 ·rcases List.mem_or_eq_of_mem_set h with h | h
  ·exact .inr h
  ·exact .inl h
 ·exact .inr h
theorem zjH {α:Type} {xs:List α} {lo hi:Option Int} {x:α} (h:x∈cutD xs lo hi):x∈xs:=List.mem_of_mem_drop (List.mem_of_mem_take h)
theorem zgi {α β:Type} (g:α->β):∀ (xs:List α) (acc:List β),List.foldl (λs x=>s++[g x]) acc xs=acc++xs.map g
 | [],acc=>by simp
 | x :: xs,acc=>by rw [List.foldl_cons,zgi g xs];simp
end Lat
namespace Lat
end Lat
namespace L2
open PySem PySem.Spec PyProof.Rows
end L2
namespace Lat
open L2
theorem zhX {k:Nat}:(zfc (k:Int) [(0:Int)]).length=k:=by unfold zfc;simp
theorem zg5 {k j:Nat}:vec (zfc (k:Int) [(0:Int)]) j=0:=by
 by_cases h:j<(zfc (k:Int) [(0:Int)]).length
 ·have:=zjD h
  unfold zfc at this
  obtain ⟨l,h1,h2⟩:=List.mem_flatten.mp this
  rw [(List.mem_replicate.mp h1).2] at h2
  exact List.mem_singleton.mp h2
 ·exact zjX (by omega)
end Lat
namespace Lat
theorem zgT:∀ {l t:List Int} {q:Int} {i:Nat},l.length=t.length->vec (List.map (λ(x:Int×Int)=>x.1+(q*x.2)) (List.zip l t)) i=vec l i+q*vec t i
 | [],[],q,i,_=>by simp [vec]
 | a :: l,b :: t,q,0,_=>rfl
 | a :: l,b :: t,q,i+1,h=>by
  rw [zev,zev,← zgT (l:=l) (t:=t) (by simpa using h)]
  exact zev
end Lat
namespace Lat
end Lat
namespace L2
open PySem PySem.Spec PyProof.Rows
section
variable {X:Cx} {K:W.Frag} {pos:Pos}
end
section
variable {E:XS} {Γ:Ctx} {te ta tb:TE} {u:TS} {o:Oc} {m:Bool} {K:W.Frag} {i j l:Nat} {α β:Type} {f:α->Ds}
end
end L2
namespace Lat
open L2
end Lat
namespace L2
open PySem PySem.Spec PyProof.Rows
section
variable {X:Cx}
end
end L2
namespace L2
open PySem PySem.Spec PyProof.Rows
section
variable {E:XS} {Γ Γx:Ctx} {m:Bool} {α β ε S:Type} {u:TS} {ds:List Ds}
end
end L2
namespace L2
open PySem PySem.Spec PyProof.Rows
def zem (R:Hp) (v:V) (ns:List Int):Prop:=∃ r,v=.ref r∧R r=some (.lst (List.map V.int ns))
def dRI (nss:List (List Int)):Ds:=⟨λR v=>∃ p vs,v=.ref p∧R p=some (.lst vs)∧vs.Nodup∧V.ref p ∉ vs∧Paired (zem R) vs nss,λe ⟨p,vs,h1,h2,h3,h4,h5⟩=>⟨p,vs,h1,e _ _ h2,h3,h4,paired_imp (λ_ _ ⟨r,q1,q2⟩=>⟨r,q1,e _ _ q2⟩) h5⟩⟩
theorem zfS {R:Hp}:∀ {ns:List Int},Paired (λv (d:Ds)=>d.pr R v) (ns.map V.int) (ns.map dI)
 | []=>.nil
 | _ :: _=>.cons rfl zfS
theorem zkq {R:Hp} {v:V} {nss:List (List Int)} (h:(dRI nss).pr R v):(dL (nss.map λl=>dL (l.map dI))).pr R v:=by
 obtain ⟨p,vs,rfl,h2,h3,h4,h5⟩:=h
 refine ⟨p,vs,rfl,h2,?_⟩
 clear h2 h3 h4
 induction h5 with
 | nil=>exact .nil
 | cons q _ ih =>
  obtain ⟨r,rfl,q2⟩:=q
  exact .cons ⟨r,_,rfl,q2,zfS⟩ ih
section
variable {Γ:Ctx} {m:Bool} {K:W.Frag} {γ:Type} {te tj:TE} {i:Nat} {nss:List (List Int)}
theorem zls {t:TE} (h:Ev Γ t m (dRI nss)):Ev Γ t m (dL (nss.map λl=>dL (l.map dI))):=λF0 Hb F H σ own Q a k=>h F0 Hb F H σ own Q a λv F' H' g q=>k v F' H' g (zkq q)
theorem zig {own:Nat} {fv:List Nat} {wi:TI} {tg:TG} {js:List Nat} {xs:List γ} {bds:γ->List Ds} {mi:Bool} {ns:γ->List Int} (it:Iv Γ wi tg js xs bds mi) (hz:xs.length≤sizeLine) (hj:(∀ j∈js,j<own)∧js.Nodup)
  (he:∀ (i:Nat) (x:γ),xs[i]?=some x->EvO (zgY js (bds x) mi (zfO own fv Γ)) te true ((ns x).map dI)):Ev Γ (zh3 own fv wi tg tNoIf te) true (dRI (xs.map ns)):=λF0 Hb F H σ ow Q a k =>
 it F0 Hb F H σ ow _ a λJ F1 H1 g1 ok D hD=>by
  have hno:∀ j∈js,(zfO own fv Γ)[j]?=some .no:=λj hj'=>by
   have:=hj.1 j hj'
   unfold zfO
   rw [List.getElem?_append_left (by simpa using this),List.getElem?_replicate,if_pos this]
  obtain ⟨hD0,hDF,hDb⟩:=a.free g1 hD
  refine ⟨λi mm ys σb H2=>mm=xs.length-i∧i≤xs.length∧ys.length≤i∧∃ F2,Grow F1 H1 F2 H2∧F2 D=none∧H2 D=some (.lst ys)∧(ys.Nodup∧V.ref D ∉ ys∧Paired (zem (off F2 Hb)) ys ((xs.take i).map ns))∧At F0 Hb F2 H2 σb (λ_=>none) (zfO own fv Γ),
   ⟨_,rfl,Nat.zero_le _,Nat.zero_le _,F1,(Grow.refl g1.fh).newH hD,hDF,upd_same,⟨.nil,by simp,by simpa using Paired.nil⟩,((a.grow g1).block own fv).grow ((Grow.refl g1.fh).newH hD)⟩,?_⟩
  rintro i mm ys σb H2 ⟨rfl,hi,hy,F2,g2,hF2,hH2,⟨hN,hDy,hP⟩,a2⟩
  refine ⟨hH2,?_⟩
  obtain ⟨hstop,hitem⟩:=ok.up g2.f H2 g2.fh
  by_cases hlt:i<xs.length
  ·obtain ⟨go,yl⟩:=hitem i xs[i] (List.getElem?_eq_getElem hlt)
   refine .inr ⟨go,λx H' y=>?_⟩
   obtain ⟨g3,bind⟩:=yl x H' y
   refine bind σb _ λvs hvs=>?_
   have a3:=(a2.grow g3).setMany (js:=js) hvs
   have hx:xs[i]?=some xs[i]:=List.getElem?_eq_getElem hlt
   refine evt_noif (Γ:=zgY js (bds xs[i]) mi (zfO own fv Γ)) F0 Hb F2 H' _ _ _ a3 λF4 H4 g4=>?_
   have tk:=zff hx
   rw [if_pos rfl]
   refine he i _ hx F0 Hb F4 H4 _ _ _ (a3.grow g4) λp ws F5 H5 g5 p1 p2 p3 q5=>?_
   have ew:=paired_ints q5
   subst ew
   have g24:=g3.trans g4
   have g6:=g5.take p1 p3
   have g26:=g24.trans g6
   have n2:H5 D=some (.lst ys):=g26.h _ _ hH2
   have hpD:D≠p:=λz=>by rw [← z] at p1;rw [g24.h _ _ hH2] at p1;cases p1
   have n1:upd F5 p (.lst (List.map V.int (ns xs[i]))) D=none:=g26.no D (by rw [hH2];simp) hF2
   have hbp:Hb p=none:=(a2.g.h.trans g24.h).free p1
   have n3:H1 D=none:=hD
   refine ⟨n2,by omega,xs.length-(i+1),by omega,rfl,hlt,by simp;omega,upd F5 p (.lst (List.map V.int (ns xs[i]))),?_,n1,upd_same,⟨?_,?_,?_⟩,?_⟩
   ·exact (g2.trans g26).setH n1 n3
   ·
    refine List.nodup_append.mpr ⟨hN,by simp,λv hv w hw z=>?_⟩
    rw [List.mem_singleton.mp hw] at z
    subst z
    obtain ⟨n,hn⟩:=List.getElem?_of_mem hv
    have hl:=Paired.length hP
    obtain ⟨v',e',⟨r,er,hr⟩⟩:=zaC hP (List.getElem?_eq_getElem (l:=(xs.take i).map ns) (i:=n) (by have:=(List.getElem?_eq_some_iff.mp hn).1;omega))
    rw [hn] at e'
    cases e'
    cases er
    have:=(off_some.mp hr).2
    have:=g24.h _ _ (g2.fh _ _ this)
    rw [p1] at this;cases this
   ·intro z
    rcases List.mem_append.mp z with z | z
    ·exact hDy z
    ·have:=List.mem_singleton.mp z
     cases this
     exact hpD rfl
   ·rw [tk,List.map_append]
    refine zbb (paired_imp (λ_ _ ⟨r,q1,q2⟩=>⟨r,q1,off_up g26.f _ _ q2⟩) hP) (.cons ⟨p,rfl,off_some.mpr ⟨hbp,upd_same⟩⟩ .nil)
   ·have a5:=((a3.grow g4).grow g6).unsetMany hno hj.2
    refine ⟨a5.g.setH n1 hDb,a5.inj,λ_ _ h=>(nomatch h),λj s es=>?_,a5.len⟩
    have:=a5.sl j s es
    cases s with
    | no=>trivial
    | va m d=>exact this
    | ow m ds=>obtain ⟨_,_,_,h,_⟩:=this;exact (nomatch h)
    | ob m C p dx fs=>obtain ⟨_,_,h,_⟩:=this;exact (nomatch h)
    | ol p ds=>obtain ⟨_,_,h,_⟩:=this;exact (nomatch h)
    | tl d=>exact (zhy es).elim
  ·have e:i=xs.length:=by omega
   subst e
   rw [List.take_length] at hP
   refine .inl ⟨hstop,k (.ref D) (upd F2 D (.lst ys)) H2 ((g1.trans g2).take hD0 hH2) ⟨D,ys,rfl,off_some.mpr ⟨hDb,upd_same⟩,hN,hDy,?_⟩⟩
   exact paired_imp (λ_ _ ⟨r,q1,q2⟩=>⟨r,q1,off_up (Same.new hF2 _) _ _ q2⟩) hP
end
section
variable {E:XS} {Γ:Ctx} {m:Bool} {K:W.Frag} {te tj:TE} {u:TS} {o:Oc} {i:Nat} {nss:List (List Int)}
theorem ze9 {R:Hp} {r:Addr} {new:List Int}:∀ {vs:List V} {nss:List (List Int)} {j:Nat},Paired (zem R) vs nss->vs.Nodup->vs[j]?=some (.ref r)->Paired (zem (upd R r (.lst (new.map V.int)))) vs (nss.set j new)
 | _,_,_,.nil,_,h=>by simp at h
 | v :: vs,ns :: nss,0,.cons q t,hN,h=>by
  have h:v=.ref r:=by simpa using h
  subst h
  refine .cons ⟨r,rfl,upd_same⟩ ?_
  have hn1:=(List.nodup_cons.mp hN).1
  clear q h hN
  induction t with
  | nil=>exact .nil
  | @cons a b as bs q t ih =>
   obtain ⟨r',rfl,q2⟩:=q
   have hne:r'≠r:=λz=>hn1 (by rw [z];exact List.mem_cons_self)
   exact .cons ⟨r',rfl,by rw [upd_ne hne];exact q2⟩ (ih λz=>hn1 (List.mem_cons_of_mem _ z))
 | v :: vs,ns :: nss,j+1,.cons q t,hN,h=>by
  have hN:=List.nodup_cons.mp hN
  have h:vs[j]?=some (.ref r):=by simpa using h
  obtain ⟨r',rfl,q2⟩:=q
  have hne:r'≠r:=λz=>hN.1 (by rw [z];exact List.mem_of_getElem? h)
  exact .cons ⟨r',rfl,by rw [upd_ne hne];exact q2⟩ (ze9 t hN.2 h)
theorem At.row {F0 Hb F H:Hp} {σ:St} {own:Nat->Option Addr} (a:At F0 Hb F H σ own Γ) (e:Γ[i]?=some (.tl (dRI nss))) (hno:zis Γ=true) {k:Int} (hk:InB nss.length k) :
  ∃ p vs r,σ[i]?=some (some (.ref p))∧H p=some (.lst vs)∧atI vs k=some (.ref r)∧H r=some (.lst ((ixD nss k).map V.int))∧∀ (H':Hp) (new:List Int),Same H H'->At F0 Hb F (upd H' r (.lst (new.map V.int))) σ own ((unC Γ).set i (.tl (dRI (setZ nss k new)))):=by
 obtain ⟨x,R,h1,h2,h3,h4,p,vs,rfl,h6,h7,h8,h9⟩:=a.sl i _ e
 have hi:i<σ.length:=by rw [a.len];exact (List.getElem?_eq_some_iff.mp e).1
 have e':σ[i]?=some (some (.ref p)):=by
  rw [List.getElem?_eq_getElem hi] at h1 ⊢
  exact congrArg some h1
 have hl:=Paired.length h9
 obtain ⟨j,ej,hj,_⟩:=zfN hk
 obtain ⟨v,ev,⟨r,rfl,hr⟩⟩:=zaC h9 (List.getElem?_eq_getElem (l:=nss) (i:=j) hj)
 have ex:ixD nss k=nss[j]:=by
  unfold ixD atI
  rw [ej]
  show (nss[j]?).getD default=_
  rw [List.getElem?_eq_getElem hj];rfl
 have es:∀ new,setZ nss k new=nss.set j new:=λnew=>by unfold setZ;rw [ej]
 have rF:=h3 r _ hr
 have rO:∀ l,own l≠some r:=λl z=>by rw [h4 l r z] at hr;cases hr
 have rp:p≠r:=λz=>h8 (by rw [z];exact List.mem_of_getElem? ev)
 refine ⟨p,vs,r,e',h2 _ _ h6,?_,by rw [ex];exact h2 _ _ hr,λH' new hs=>?_⟩
 ·unfold atI
  rw [hl,ej]
  exact ev
 ·have a1:=(a.grow (Grow.only a.fh hs)).spoil hno (.lst (new.map V.int)) rF.1 rF.2 rO
  refine ⟨a1.g,a1.inj,a1.liv,λl s es'=>?_,by rw [List.length_set];exact a1.len⟩
  by_cases z:i=l
  ·subst z
   rw [List.getElem?_set_self (by rw [← a1.len];exact hi)] at es'
   cases es'
   rw [e']
   refine ⟨.ref p,upd R r (.lst (new.map V.int)),rfl,λb w q=>?_,λb w q=>?_,λl' b q=>?_,p,vs,rfl,by rw [upd_ne rp];exact h6,h7,h8,by rw [es];exact ze9 h9 h7 ev⟩
   ·by_cases y:b=r
    ·subst y;rw [upd_same] at q ⊢;exact q
    ·rw [upd_ne y] at q ⊢;exact hs _ _ (h2 _ _ q)
   ·by_cases y:b=r
    ·subst y;exact rF
    ·rw [upd_ne y] at q;exact h3 b w q
   ·have y:b≠r:=λy=>rO l' (y ▸ q)
    rw [upd_ne y];exact h4 l' b q
  ·rw [List.getElem?_set_ne z] at es'
   exact a1.sl l s es'
end
end L2
namespace L2
open PySem PySem.Spec PyProof.Rows
section
variable {E:XS} {Γ Δ:Ctx} {m:Bool} {K:W.Frag} {te ta tb:TE} {t u:TS} {d:Ds} {ds es:List Ds} {o:Oc} {i j:Nat}
end
section
variable {P:Program} {w:World} {K:W.Frag} {mg:Str->Option Value} {base:Heap} {x qual:Str} {st:Stmt} {f:Addr} {fd:FuncData} {N ps:List Str} {k:Nat}
end
section
variable {E:XS} {Γ Δ:Ctx} {m:Bool} {K:W.Frag} {te ta tb tj:TE} {t u:TS} {d:Ds} {ds es:List Ds} {o:Oc} {i j:Nat} {p:Addr} {α β:Type} {f:α->Ds} {xs:List α}
end
end L2
namespace L2
open PySem PySem.Spec PyProof.Rows
structure T5 (α β γ δ ε:Type) where
 a:α
 b:β
 c:γ
 d:δ
 e:ε
section
variable {E:XS} {Γ:Ctx} {m:Bool} {K:W.Frag} {te tj:TE} {u:TS} {o:Oc} {i j:Nat} {nss:List (List Int)} {α β:Type}
def zjd (Γ:Ctx) (t:TE) (ds:List Ds):Prop:=∀ (F0 Hb F H:Hp) (σ:St) (own:Nat->Option Addr) (Q:VK),At F0 Hb F H σ own Γ →
 (∀ p vs F' H',Grow F H F' H'->H p=none->F' p=none->H' p=some (.lst vs)->Paired (λv (d:Ds)=>d.pr (off F' H) v) vs ds->Q (.ref p) H')->t σ H Q
theorem zjv {ds:List Ds} (h:EvO (zkr Γ) te true ds):zjd Γ te ds:=λF0 Hb F H σ own Q a k=>h F H F H σ _ Q a.now λp vs F' H' g h1 h2 h3 q=>k p vs F' H' g h1 h2 h3 q
theorem zjd.evo {ds:List Ds} (h:zjd Γ te ds):EvO Γ te true ds:=λF0 Hb F H σ own Q a k=>h F0 Hb F H σ own Q a λp vs F' H' g h1 h2 h3 q=>k p vs F' H' g h1 h2 h3 (pr_up (ds:=[]) (zhm a.g.h) q)
theorem zjd.borrowO {ds es:List Ds} (e:Γ[i]?=some (.ow m es)) (h:zjd (Γ.set i (.va m (dL es))) te ds):zjd Γ te ds:=λF0 Hb F H σ own Q a k=>by
 obtain ⟨F1,own1,_,a1⟩:=a.share e
 refine h F0 Hb F1 H σ own1 Q a1 λp vs F' H' g h1 h2 h3 q=>?_
 have e:∀ b o,off F' H b=some o->H b=none∧F' b=some o:=λb o z=>off_some.mp z
 refine k p vs (λb=>match H b with | some _=>F b | none=>F' b) H' ⟨λb o z=>?_,λb o z=>?_,g.h,λb z1 z2=>?_⟩ h1 (by rw [h1];exact h2) h3 (pr_up (ds:=[]) (λb o z=>?_) q)
 ·show (match H b with | some _=>F b | none=>F' b)=some o
  rw [a.fh _ _ z];exact z
 ·have z:(match H b with | some _=>F b | none=>F' b)=some o:=z
  cases w:H b with
  | some o'=>rw [w] at z;exact g.h _ _ (a.fh _ _ z)
  | none=>rw [w] at z;exact g.fh _ _ z
 ·show (match H b with | some _=>F b | none=>F' b)=none
  cases w:H b with
  | some o'=>exact z2
  | none=>exact absurd w z1
 ·obtain ⟨h1,h2⟩:=e b o z
  refine off_some.mpr ⟨h1,?_⟩
  show (match H b with | some _=>F b | none=>F' b)=some o
  rw [h1];exact h2
theorem zdj {x:α} {i j:Nat} (d1 d2:α->Ds) (fo:β->Oc) {kk:α->β} (h:Ev Γ te m (dT [d1 x,d2 x])) (k:∀ y,y=x->Run E ((Γ.set i (.va m (d1 y))).set j (.va m (d2 y))) u (fo (kk y))):Run E Γ (tSeq (zfm te (zi1 K 2 (zdg (zbo i) (zdg (zbo j) zjN)))) u) (fo (Let x kk)):=zf2 h (k x rfl)
theorem zfG {x:α} {i1 i2 i3 i4 i5:Nat} (d1 d2 d3 d4 d5:α->Ds) (fo:β->Oc) {kk:α->β} (h:Ev Γ te m (dT [d1 x,d2 x,d3 x,d4 x,d5 x])) (k:∀ y,y=x->Run E (((((Γ.set i1 (.va m (d1 y))).set i2 (.va m (d2 y))).set i3 (.va m (d3 y))).set i4 (.va m (d4 y))).set i5 (.va m (d5 y))) u (fo (kk y))) :
  Run E Γ (tSeq (zfm te (zi1 K 5 (zdg (zbo i1) (zdg (zbo i2) (zdg (zbo i3) (zdg (zbo i4) (zdg (zbo i5) zjN))))))) u) (fo (Let x kk)):=λF0 Hb F H σ own D a q =>
 h F0 Hb F H σ own _ a λv F' H' g ⟨p,vs,e1,e2,e3⟩=>by
  cases e3 with | cons q1 t=>cases t with | cons q2 t=>cases t with | cons q3 t=>cases t with | cons q4 t=>cases t with | cons q5 t =>
   cases t
   exact ⟨p,_,e1,.inl (.inl ((part_sub.trans g.fh) _ _ e2)),rfl,_,_,rfl,_,_,rfl,_,_,rfl,_,_,rfl,_,_,rfl,rfl,k x rfl F0 Hb F' H' _ own D ((((((a.grow g).set i1 q1).set i2 q2).set i3 q3).set i4 q4).set i5 q5) q⟩
theorem paired_rows_up {R R':Hp} (e:Same R R') {vs:List V} (h:Paired (zem R) vs nss):Paired (zem R') vs nss:=paired_imp (λ_ _ ⟨r,q1,q2⟩=>⟨r,q1,e _ _ q2⟩) h
open Classical in
theorem zfU {v:List Int->Int} {k:Int} {P:List Int->Prop} (e:Γ[i]?=some (.tl (dRI nss))) (ej:Γ[j]?=some .no) (hno:zis Γ=true) (hP:∀ ns∈nss,P ns) (hk:∀ ns,P ns->InB ns.length k)
  (h:∀ ns,P ns->Ev ((unC Γ).set j (.tl (dL (ns.map dI)))) te false (dI (v ns))) (hj:∀ ns,P ns->Ev ((unC Γ).set j (.tl (dL (ns.map dI)))) tj false (dI k))
  (kk:Run E ((unC Γ).set i (.tl (dRI (nss.map λns=>setZ ns k (v ns))))) u o):Run E Γ (tSeq (zlf (zix K (tVar i)) (zbo j) (tSeq (zfm te (zll (tVar j) tj zim)) zh1)) u) o:=λF0 Hb F H σ own D a q=>by
 obtain ⟨x,R,h1,h2,h3,h4,p,vs,rfl,h6,h7,h8,h9⟩:=a.sl i _ e
 have hi:i<σ.length:=by rw [a.len];exact (List.getElem?_eq_some_iff.mp e).1
 have e':σ[i]?=some (some (.ref p)):=by
  rw [List.getElem?_eq_getElem hi] at h1 ⊢
  exact congrArg some h1
 have hij:i≠j:=λz=>by rw [z,ej] at e;cases e
 have hl:=Paired.length h9
 have st:∀ v'∈vs,∃ r,v'=.ref r∧F r=none∧Hb r=none∧(∀ l,own l≠some r)∧r≠p:=λv' hv=>by
  obtain ⟨n,hn⟩:=List.getElem?_of_mem hv
  have hn':=(List.getElem?_eq_some_iff.mp hn).1
  obtain ⟨v2,ev,⟨r,er,hr⟩⟩:=zaC h9 (List.getElem?_eq_getElem (l:=nss) (i:=n) (by omega))
  rw [hn] at ev
  cases ev
  refine ⟨r,er,(h3 r _ hr).1,(h3 r _ hr).2,(λl z=>by rw [h4 l r z] at hr;cases hr),λz=>h8 ?_⟩
  subst z;rw [← er];exact hv
 have hp:H p=some (.lst vs):=h2 _ _ h6
 have pF:=h3 p _ h6
 have pO:∀ l,own l≠some p:=λl z=>by rw [h4 l p z] at h6;cases h6
 have a0:At F0 Hb F H σ own (unC Γ):=⟨a.g,a.inj,a.liv,λk s es=>by
  obtain ⟨r,e1,rfl⟩:=zho es
  have:=a.sl k r e1
  cases r with
  | tl d=>trivial
  | no=>trivial
  | va m d=>exact this
  | ow m ds=>exact this
  | ol p ds=>exact this
  | ob m C p dx fs=>exact this,by unfold unC;rw [List.length_map];exact a.len⟩
 have gst:∀ n ns,nss[n]?=some ns->((nss.take n).map (λns=>setZ ns k (v ns))++nss.drop n).set n (setZ ns k (v ns))=(nss.take (n+1)).map (λns=>setZ ns k (v ns))++nss.drop (n+1):=λn ns hn=>by
  have hlt:=(List.getElem?_eq_some_iff.mp hn).1
  have en:nss[n]=ns:=by rw [List.getElem?_eq_getElem hlt] at hn;exact Option.some.inj hn
  rw [List.set_append_right _ _ (by rw [List.length_map,List.length_take];omega),List.length_map,List.length_take,Nat.min_eq_left (by omega),Nat.sub_self,List.drop_eq_getElem_cons hlt,List.set_cons_zero,List.take_succ_eq_append_getElem hlt,List.map_append,List.append_assoc,en]
  rfl
 refine ⟨_,e',p,rfl,⟨vs,SqL.of hp⟩,λn m σ' H'=>m=vs.length-n∧n≤vs.length∧At F0 Hb F H' σ' own (unC Γ)∧σ'[i]?=some (some (.ref p))∧H' p=some (.lst vs)∧Paired (zem H') vs ((nss.take n).map (λns=>setZ ns k (v ns))++nss.drop n),⟨_,rfl,Nat.zero_le _,a0,e',hp,by simpa using paired_rows_up h2 h9⟩,?_⟩
 rintro n m σ1 H1 ⟨rfl,hn,a1,s1,p1,rows1⟩
 by_cases hlt:n<vs.length
 ·refine .inr ⟨⟨vs,vs[n],SqL.of p1,List.getElem?_eq_getElem hlt⟩,λσ' H'=>At F0 Hb F H' σ' own (unC Γ)∧σ'[i]?=some (some (.ref p))∧H' p=some (.lst vs)∧Paired (zem H') vs ((nss.take (n+1)).map (λns=>setZ ns k (v ns))++nss.drop (n+1)),λσ' H' z=>⟨_,by omega,rfl,by omega,z⟩,λv' H' y=>?_⟩
  obtain ⟨rfl,y⟩:=y
  have hv:=y vs (SqL.of p1)
  obtain ⟨ns,hns⟩:∃ ns,nss[n]?=some ns:=⟨_,List.getElem?_eq_getElem (by omega)⟩
  have hrow:((nss.take n).map (λns=>setZ ns k (v ns))++nss.drop n)[n]?=some ns:=by
   rw [List.getElem?_append_right (by rw [List.length_map,List.length_take];omega),List.length_map,List.length_take,Nat.min_eq_left (by omega),Nat.sub_self,List.getElem?_drop]
   exact hns
  obtain ⟨v2,ev,⟨r,er,hr⟩⟩:=zaC rows1 hrow
  rw [hv] at ev
  cases ev
  subst er
  obtain ⟨r',er',rF,rB,rO,rp⟩:=st _ (List.mem_of_getElem? hv)
  cases er'
  have Pn:P ns:=hP ns (List.mem_of_getElem? hns)
  have hjl:j<σ1.length:=by rw [a1.len];unfold unC;rw [List.length_map];exact (List.getElem?_eq_some_iff.mp ej).1
  have sj:(σ1.set j (some (.ref r)))[j]?=some (some (.ref r)):=List.getElem?_set_self hjl
  have a2:At F0 Hb F H' (σ1.set j (some (.ref r))) own (unC Γ):=⟨a1.g,a1.inj,a1.liv,λk s es=>by
   by_cases z:j=k
   ·subst z
    obtain ⟨r',e1,rfl⟩:=zho es
    rw [ej] at e1
    cases e1
    trivial
   ·rw [List.getElem?_set_ne z]
    exact a1.sl k s es,by simp [a1.len]⟩
  have a3:At F0 Hb F H' (σ1.set j (some (.ref r))) own ((unC Γ).set j (.tl (dL (ns.map dI)))):=⟨a2.g,a2.inj,a2.liv,λk s es=>by
   by_cases z:j=k
   ·subst z
    rw [List.getElem?_set_self (by rw [← a1.len];exact hjl)] at es
    cases es
    rw [sj]
    refine ⟨.ref r,λb=>if b=r then some (.lst (ns.map V.int)) else none,rfl,λb o z=>?_,λb o z=>?_,λl b z=>?_,r,ns.map V.int,rfl,if_pos rfl,zfS⟩
    ·dsimp only at z
     split at z
     ·cases z;rename_i w;rw [w];exact hr
     ·cases z
    ·dsimp only at z
     split at z
     ·rename_i w;rw [w];exact ⟨rF,rB⟩
     ·cases z
    ·dsimp only
     rw [if_neg (λw=>rO l (by rw [← w];exact z))]
   ·rw [List.getElem?_set_ne z] at es
    exact a2.sl k s es,by simpa using a2.len⟩
  obtain ⟨nn,en,hnn,_⟩:=zfN (hk ns Pn)
  refine h ns Pn F0 Hb F H' _ own _ a3 λw F2 H2 g2 qw=>?_
  have qw:w=.int (v ns):=qw
  subst qw
  have a4:=a3.grow (Grow.only a3.fh g2.h)
  refine ⟨_,sj,hj ns Pn F0 Hb F H2 _ own _ a4 λw F3 H3 g3 qk=>?_⟩
  have qk:w=.int k:=qk
  subst qk
  have s13:Same H' H3:=g2.h.trans g3.h
  refine ⟨r,ns.map V.int,k,nn,rfl,rfl,s13 _ _ hr,by rw [List.length_map];exact en,?_⟩
  have enew:(ns.map V.int).set nn (.int (v ns))=(setZ ns k (v ns)).map V.int:=by
   unfold setZ
   rw [en]
   show _=(ns.set nn (v ns)).map V.int
   rw [List.map_set]
  rw [enew]
  refine ⟨?_,?_,?_,?_⟩
  ·have:=(a2.grow (Grow.only a2.fh s13)).spoil (noOb_un hno) (.lst ((setZ ns k (v ns)).map V.int)) rF rB rO
   rwa [zkc] at this
  ·rw [List.getElem?_set_ne (Ne.symm hij)];exact s1
  ·rw [upd_ne (Ne.symm rp)];exact s13 _ _ p1
  ·rw [← gst n ns hns]
   exact ze9 (paired_rows_up s13 rows1) h7 hv
 ·have en:n=nss.length:=by omega
  subst en
  refine .inl ⟨⟨vs,SqL.of p1,by omega⟩,kk F0 Hb F H1 σ1 own D ?_ q⟩
  refine ⟨a1.g,a1.inj,a1.liv,λl s es=>?_,by rw [List.length_set];exact a1.len⟩
  by_cases z:i=l
  ·subst z
   rw [List.getElem?_set_self (by rw [← a1.len];exact (List.getElem?_eq_some_iff.mp s1).1)] at es
   cases es
   rw [s1]
   have rows2:Paired (zem H1) vs (nss.map λns=>setZ ns k (v ns)):=by simpa using rows1
   refine ⟨.ref p,λb=>if b=p then some (.lst vs) else if V.ref b∈vs then H1 b else none,rfl,λb o z=>?_,λb o z=>?_,λl b z=>?_,p,vs,rfl,if_pos rfl,h7,h8,?_⟩
   ·dsimp only at z
    split at z
    ·cases z;rename_i w;rw [w];exact p1
    ·split at z
     ·exact z
     ·cases z
   ·dsimp only at z
    split at z
    ·rename_i w;rw [w];exact pF
    ·split at z
     ·rename_i w
      obtain ⟨r,er,t1,t2,_⟩:=st _ w
      cases er
      exact ⟨t1,t2⟩
     ·cases z
   ·dsimp only
    rw [if_neg (λw=>pO l (by rw [← w];exact z)),if_neg]
    intro w
    obtain ⟨r,er,_,_,t3,_⟩:=st _ w
    cases er
    exact t3 l z
   ·clear q rows1 h9 hp h6 h kk
    have key:∀ {ws:List V} {mss:List (List Int)},(∀ w∈ws,w∈vs)->Paired (zem H1) ws mss->Paired (zem λb=>if b=p then some (.lst vs) else if V.ref b∈vs then H1 b else none) ws mss:=by
     intro ws mss hw hq
     induction hq with
     | nil=>exact .nil
     | cons q1 _ ih =>
      obtain ⟨r,rfl,q2⟩:=q1
      have hm:=hw _ List.mem_cons_self
      refine .cons ⟨r,rfl,?_⟩ (ih λw hw'=>hw w (List.mem_cons_of_mem _ hw'))
      dsimp only
      rw [if_neg (λz=>h8 (by rw [← z];exact hm)),if_pos hm]
      exact q2
    exact key (λ_ hw=>hw) rows2
  ·rw [List.getElem?_set_ne z] at es
   exact a1.sl l s es
end
end L2
namespace Lat
open L2
theorem zfF {j:Nat}:∀ {xs:List Int} {as:List Vc} {i:Nat} {x x0:Int} {a:Vc},xs[i]?=some x0->as[i]?=some a->comb (xs.set i x) as j=comb xs as j+(x-x0)*a j
 | [],_,_,_,_,_,h,_=>by simp at h
 | _ :: _,[],_,_,_,_,_,h=>by simp at h
 | y :: xs,b :: as,0,x,x0,a,h,k=>by
  have h:y=x0:=by simpa using h
  have k:b=a:=by simpa using k
  subst h k
  simp only [List.set_cons_zero,comb]
  grind
 | y :: xs,b :: as,i+1,x,x0,a,h,k=>by
  have:=zfF (j:=j) (xs:=xs) (as:=as) (i:=i) (x:=x) (x0:=x0) (a:=a) (by simpa using h) (by simpa using k)
  simp only [List.set_cons_succ,comb,this]
  omega
theorem zfi {j:Nat}:∀ {xs:List Int} {as:List Vc} {i:Nat} {x:Int} {a a0:Vc},xs[i]?=some x->as[i]?=some a0->comb xs (as.set i a) j=comb xs as j+x*(a j-a0 j)
 | [],_,_,_,_,_,h,_=>by simp at h
 | _ :: _,[],_,_,_,_,_,h=>by simp at h
 | y :: xs,b :: as,0,x,a,a0,h,k=>by
  have h:y=x:=by simpa using h
  have k:b=a0:=by simpa using k
  subst h k
  simp only [List.set_cons_zero,comb]
  grind
 | y :: xs,b :: as,i+1,x,a,a0,h,k=>by
  have:=zfi (j:=j) (xs:=xs) (as:=as) (i:=i) (x:=x) (a:=a) (a0:=a0) (by simpa using h) (by simpa using k)
  simp only [List.set_cons_succ,comb,this]
  omega
theorem zft {j:Nat}:∀ {xs:List Int} {as:List Vc},(∀ (i:Nat) (x:Int) (a:Vc),xs[i]?=some x->as[i]?=some a->x*a j=0)->comb xs as j=0
 | [],_,_=>rfl
 | _ :: _,[],_=>rfl
 | x :: xs,a :: as,h=>by
  have h0:=h 0 x a rfl rfl
  have:=zft (j:=j) (xs:=xs) (as:=as) λi y b h1 h2=>h (i+1) y b (by simpa using h1) (by simpa using h2)
  simp only [comb,h0,this]
  rfl
theorem zeZ {j:Nat}:∀ {xs ys:List Int} {as bs:List Vc},xs.length=as.length->comb (xs++ys) (as++bs) j=comb xs as j+comb ys bs j
 | [],ys,[],bs,_=>by simp [comb]
 | x :: xs,ys,a :: as,bs,h=>by
  have:=zeZ (j:=j) (xs:=xs) (ys:=ys) (as:=as) (bs:=bs) (by simpa using h)
  simp only [List.cons_append,comb,this]
  omega
theorem zhs {j t:Nat} {xs:List Int} {as:List Vc} (h:xs.length=as.length):comb (xs.drop t++xs.take t) (as.drop t++as.take t) j=comb xs as j:=by
 rw [zeZ (by rw [List.length_drop,List.length_drop,h])]
 have:=zeZ (j:=j) (xs:=xs.take t) (ys:=xs.drop t) (as:=as.take t) (bs:=as.drop t) (by rw [List.length_take,List.length_take,h])
 rw [List.take_append_drop,List.take_append_drop] at this
 omega
theorem zhp {j x y:Nat} {q:Int} {t:List Int} {as:List Vc} {t1 t2:Int} {a1 a2:Vc} (hxy:x≠y) (h1:t[x]?=some t1) (h2:t[y]?=some t2) (k1:as[x]?=some a1) (k2:as[y]?=some a2) {b:Vc} (hb:b j=a2 j+q*a1 j) :
  comb (t.set x (t1-q*t2)) (as.set y b) j=comb t as j:=by
 rw [zfF h1 (by rw [List.getElem?_set_ne (Ne.symm hxy)];exact k1),zfi h2 k2,hb]
 grind
end Lat
namespace L2
open PySem PySem.Spec PyProof.Rows
section
variable {X:Cx} {K:W.Frag}
end
section
variable {Γ:Ctx} {m:Bool} {K:W.Frag}
end
end L2
namespace L2
open PySem PySem.Spec PyProof.Rows
section
variable {E:XS} {Γ:Ctx} {u:TS} {o:Oc} {K:W.Frag} {i j:Nat}
end
end L2
namespace Lat
open L2
end Lat
namespace L2
open PySem PySem.Spec PyProof.Rows
section
open PySem.SeqAt PySem.MeetsSeq PySem.MeetsSeq2 PySem.MeetsSeq3
open PySem.AutoSeq1 (wpAny_loadPart')
end
section
variable {X:Cx} {K:W.Frag}
end
section
variable {X:Cx} {K:W.Frag}
end
section
variable {E:XS} {Γ:Ctx} {te tj:TE} {t u:TS} {o:Oc} {m:Bool} {K:W.Frag} {i j:Nat} {α β:Type}
end
end L2
namespace L2
open PySem PySem.Spec PyProof.Rows
section
variable {X:Cx} {CX:CXT} {k:Nat} {f C:Addr} {fd:FuncData} {ps:List Str} {sp:Sp} {E:XK} {m:Str} {pos apos:Pos} {o e:Expr} {es:List Expr} {t:TA}
structure ByCls (K:W.Frag) (C f:Addr) (m:Str):Prop where
 ga:W.specialIn K (.ref C) "__getattribute__"=some (some (.builtin "type.__getattribute__"))
 rd:W.readsIn K C (.type "type")=true
 fn:W.findCls K (.ref C) (.type "type") m=some (.val (.ref f))
 kp:W.keepIn K (.ref f)=true
theorem ziH {pl:Sem Bool} (he:PE X o (tC (.ref C))) (B:ByCls X.K C f m) (F:FnOk X.prog X.w X.K X.mg X.base CX k f fd ps sp) (hr:Room k X.A) (hb:zdB X.K fd ps []) (hx:zdG CX X E) (ha:PA X (e :: es) t)
  (hst:starEach (e :: es) X.env=(false,eval e X.env) :: starEach es X.env:=by rfl) (hpl:(backTo pos (starEach es X.env)).any (·.1)=false:=by rfl)
  (ht:eval (.Call (.Attribute o m apos) (e :: es) [] pos) X.env=(do
   let ov ← eval o X.env
   standAt apos.atName
   let (f,first) ← holding [ov] (getMethod ov m pl)
   callWith pos f first (backTo pos (starEach (e :: es) X.env)) (backToKw pos (keywordEach [] X.env))):=by rfl) :
  PE X (.Call (.Attribute o m apos) (e :: es) [] pos) (tCall sp [] E t):=by
 intro pins s σ H Q I h
 refine W.methodCall_KW (pl:=pl) (thn (he pins s σ H (λv H1=>v=.ref C∧t σ H1 λvs H2=>sp (vs++[]) H2 Q E) I ⟨rfl,h⟩) λu s1 ⟨x,H1,I1,rx,ex,q⟩=>?_) ht
 subst ex
 obtain rfl:u=Value.ref C:=rx
 refine W.method_cls I1.kIn B.ga (W.cls_value I1.kIn B.rd B.fn rfl ?_)
 refine W.callWith_K (first:=[]) (h₀:=X.base) I.ok.mod.kin B.kp (thn (ha pos pins _ σ H1 _ (I1.tok _) q) λus s2 ⟨vs,H2,I2,r,q2⟩=>⟨I2.kIn,?_⟩) hst hpl
 exact zhC F hr hb .nil hx I2 r q2
end
section
variable {E:XS} {Γ:Ctx} {u:TS} {o:Oc} {m m2:Bool} {K:W.Frag} {i:Nat} {ds:List Ds} {tr:TA}
theorem zgx {ι:Type} {C p dx:Addr} {args:ι->List Ds} {pre:ι->Prop} {fs:ι->List (Str×Ds)} {E1:XK} (x:ι) (e:Γ[i]?=some (.ob m C p dx [])) (h:EvA Γ tr m2 ds) (ha:ds=args x) (hp:pre x) (k:Run E (Γ.set i (.ob m C p dx (fs x))) u o) :
  Run E Γ (tSeq (tDrop (tCall (zje C args pre m fs) [] E1 (tCons (tVar i) tr))) u) o:=λF0 Hb F H σ own D a q=>by
 subst ha
 have hi:i<σ.length:=by rw [a.len];exact (List.getElem?_eq_some_iff.mp e).1
 obtain ⟨vs0,z1,_⟩:=a.sl i _ e
 have e':σ[i]?=some (some (.ref p)):=by
  rw [List.getElem?_eq_getElem hi] at z1 ⊢
  exact congrArg some z1
 refine ⟨_,e',h F0 Hb F H σ own _ a λvs F1 H1 g1 q1=>?_⟩
 have a1:=a.grow g1
 obtain ⟨vs1,w1,w2,w3,w4,w5,w6⟩:=a1.sl i _ e
 cases w6
 have ne:dx≠p:=λz=>by
  have h1:=w5.1;have h2:=w5.2
  rw [z] at h2
  rw [h1] at h2;cases h2
 have hE:∀ b,b≠p->b≠dx->(if b=p∨b=dx then none else H1 b)=H1 b:=λb n1 n2=>by
  rw [if_neg (by simp [n1,n2])]
 have hEp:(λb=>if b=p∨b=dx then none else H1 b) p=none:=if_pos (.inl rfl)
 have hEd:(λb=>if b=p∨b=dx then none else H1 b) dx=none:=if_pos (.inr rfl)
 have sE:∀ {R:Hp},Same R H1->R p=none->R dx=none->Same R (λb=>if b=p∨b=dx then none else H1 b):=λhR n1 n2 b w z=>by
  have b1:b≠p:=λy=>by rw [y,n1] at z;cases z
  have b2:b≠dx:=λy=>by rw [y,n2] at z;cases z
  show (if b=p∨b=dx then none else H1 b)=some w
  rw [hE b b1 b2];exact hR b w z
 refine ⟨x,p,dx,vs,λb=>if b=p∨b=dx then none else H1 b,F1,by rw [List.append_nil],hEp,hEd,ne,?_,sE a1.fh w3.1 w3.2,?_,hp,λus F' H' g n1 n2 h1 h2 h3=>?_⟩
 ·funext b
  by_cases b1:b=p
  ·rw [b1,upd_same,w5.1]
  ·rw [upd_ne b1]
   by_cases b2:b=dx
   ·rw [b2,upd_same,w5.2]
   ·rw [upd_ne b2,hE b b1 b2]
 ·exact pr_up (ds:=[]) part_sub q1
 ·have gg:Grow F1 H1 F' (upd H' p (.ins C dx [])):=by
   refine ⟨g.f,λb w z=>?_,λb w z=>?_,λb z1 z2=>?_⟩
   ·rw [upd_ne (λy=>by rw [y,n1] at z;cases z)];exact g.fh b w z
   ·by_cases b1:b=p
    ·rw [b1,upd_same];rw [b1,w5.1] at z;exact z
    ·rw [upd_ne b1]
     by_cases b2:b=dx
     ·rw [b2,h2];rw [b2,w5.2] at z;exact z
     ·exact g.h b w (by show (if b=p∨b=dx then none else H1 b)=some w;rw [hE b b1 b2];exact z)
   ·by_cases b1:b=p
    ·rw [b1];exact n1
    ·by_cases b2:b=dx
     ·rw [b2];exact n2
     ·exact g.no b (by show (if b=p∨b=dx then none else H1 b)≠none;rw [hE b b1 b2];exact z1) z2
  have a2:=(a1.grow gg).turnOb (n:=m) (ws:=us) (gs:=fs x) e (paired_imp (λ_ b z=>⟨z.1,b.2.up (part_old (sE a1.g.h w4.1 w4.2)) z.2⟩) h3)
  have eq:upd (upd H' p (.ins C dx [])) p (.ins C dx us)=H':=by
   funext b
   by_cases b1:b=p
   ·rw [b1,upd_same,h1]
   ·rw [upd_ne b1,upd_ne b1]
  rw [eq] at a2
  exact k F0 Hb F' H' σ own D a2 q
end
section
variable {Γ:Ctx} {m:Bool}
end
section
variable {X:Cx} {CX:CXT} {k k2:Nat} {f f2 C C2:Addr} {fd fd2:FuncData} {ps ps2:List Str} {sp sp2:Sp} {E:XK} {m:Str} {pos apos:Pos} {o e:Expr} {es:List Expr} {ta:TE} {t:TA}
theorem ze2 {Γ:Ctx} {b:Bool} {ι:Type} {args:ι->List Ds} {pre:ι->Prop} {res:ι->Rs} {ds:List Ds} {d:Ds} {fs:List (Str×Ds)} (x:ι) (h1:Ev Γ ta false (dO C fs)) (h:EvA Γ t false ds) (ha:dO C fs :: ds=args x) (hp:pre x) (hr:res x=.va b d) (hn:(fs.map Prod.fst).contains m=false) :
  Ev Γ (zhc C m (Spv args pre res) [] E ta t) b d:=λF0 Hb F H σ own Q a kk=>by
 refine h1 F0 Hb F H σ own _ a λu F1 H1 g1 ⟨p,dx,vs,e1,e2,e3,e4⟩=>⟨p,dx,vs,e1,g1.fh _ _ e2,?_,?_⟩
 ·have:∀ {vs:List (Str×V)} {fs:List (Str×Ds)} {R:Str×V->Str×Ds->Prop},Paired (λa b=>a.1=b.1∧R a b) vs fs->(fs.map Prod.fst).contains m=false->vs.lookup m=none:=by
   intro vs fs R hq
   induction hq with
   | nil=>intro _;rfl
   | @cons a b _ _ w _ ih =>
    intro z
    rw [List.map_cons,List.contains_cons,Bool.or_eq_false_iff] at z
    obtain ⟨a1,a2⟩:=a
    rw [List.lookup_cons]
    have:(m == a1)=false:=by rw [show a1=b.1 from w.1];exact z.1
    rw [this]
    exact ih z.2
  exact this e4 hn
 ·refine h F0 Hb F1 H1 σ own _ (a.grow g1) λws F2 H2 g2 q2=>⟨x,F2,g2.fh,?_,hp,?_⟩
  ·rw [← ha,List.append_nil]
   refine .cons ((dO C fs).up (show Same F1 F2 from g2.f) ⟨p,dx,vs,e1,e2,e3,e4⟩) q2
  ·rw [hr]
   exact λv F' H' g q=>kk v F' H' ((g1.trans g2).trans g) (d.up (part_old ((a.grow g1).g.h.trans g2.h)) q)
end
section
variable {Γ:Ctx} {i:Nat} {m n:Bool} {ds:List Ds}
theorem EvT.borrowO {t:TT} {b:Bool} (e:Γ[i]?=some (.ow m ds)) (h:EvT (Γ.set i (.va m (dL ds))) t b):EvT Γ t b:=λF0 Hb F H σ own Q a k=>by
 obtain ⟨F1,own1,_,a1⟩:=a.share e
 exact h F0 Hb F1 H σ own1 Q a1 λF' H' g=>k F H' (Grow.only a.fh g.h)
end
end L2
namespace Lat
open L2
def dv:List Int->Vc->Int
 | [],_=>0
 | a :: w,u=>a*u 0+dv w λi=>u (i+1)
theorem ziX:∀ (w t:List Int),(List.map (λ(x:Int×Int)=>x.1*x.2) (List.zip w t)).sum=dv w (vec t)
 | [],_=>rfl
 | a :: w,[]=>by
  have:∀ (w:List Int),dv w (λ_=>0)=0:=by
   intro w
   induction w with
   | nil=>rfl
   | cons a w ih=>show a*0+dv w (λ_=>0)=0;rw [ih];omega
  exact (this (a :: w)).symm
 | a :: w,b :: t=>by
  show a*b+(List.map (λ(x:Int×Int)=>x.1*x.2) (List.zip w t)).sum=a*b+dv w λi=>vec (b :: t) (i+1)
  rw [ziX w t]
  congr 2
section
variable {n:Nat} {sw:List (List Int)} {x:List Int} {R ss:List (List Int)}
end
end Lat
namespace L2
open PySem PySem.Spec PyProof.Rows
section
variable {Γ:Ctx} {m:Bool} {K:W.Frag} {ta:TE} {α:Type} {f:α->Ds} {cl:α->Addr} {fs:α->List (Str×Ds)}
theorem zf3 {x:α} {fl:Str} {d:α->Ds} (hf:∀ x,f x=dO (cl x) (fs x)) (h:Ev Γ ta m (f x)) (c:∀ x,Cls K (cl x)∧NoAttr K (cl x) fl) (e:∀ x,(fs x).lookup fl=some (d x)):Ev Γ (tFld K ta fl) m (d x):=by
 rw [hf x] at h
 exact zdQ h (c x).1 (c x).2 (e x)
end
end L2
namespace L2
open PySem PySem.Spec PyProof.Rows
structure CalleeM (P:Program) (w:World) (K:W.Frag) (mg:Str->Option Value) (base:Heap) (CX:CXT) (k:Nat) (C:Addr) (m:Str) (ps:List Str) (sp:Sp):Prop where
 ex:∃ f fd,FnOk P w K mg base CX k f fd ps sp∧Meth K C m f∧zdB K fd ps []
def zlk (t u:TE):TE:=λσ H Q=>t σ H Q∨u σ H Q
section
variable {X:Cx} {CX:CXT} {k:Nat} {C:Addr} {ps:List Str} {sp:Sp} {E:XK} {m:Str} {pos apos:Pos} {o e:Expr} {es:List Expr} {ta:TE} {t:TA}
theorem zgp {pl:Sem Bool} (he:PE X o ta) (c:Cls X.K C) (F:CalleeM X.prog X.w X.K X.mg X.base CX k C m ps sp) (hr:Room k X.A) (hx:zdG CX X E) (ha:PA X (e :: es) t)
  (hst:starEach (e :: es) X.env=(false,eval e X.env) :: starEach es X.env:=by rfl) (hpl:(backTo pos (starEach es X.env)).any (·.1)=false:=by rfl)
  (ht:eval (.Call (.Attribute o m apos) (e :: es) [] pos) X.env=(do
   let ov ← eval o X.env
   standAt apos.atName
   let (f,first) ← holding [ov] (getMethod ov m pl)
   callWith pos f first (backTo pos (starEach (e :: es) X.env)) (backToKw pos (keywordEach [] X.env))):=by rfl) :
  PE X (.Call (.Attribute o m apos) (e :: es) [] pos) (zhc C m sp [] E ta t):=by
 obtain ⟨f,fd,G,hm,hb⟩:=F.ex
 exact zjg he c hm G hr hb .nil hx ha hst hpl ht
theorem zkp {t u:TE} (h1:PE X e t) (h2:PE X e u):PE X e (zlk t u):=λpins s σ H Q I h=>h.elim (h1 pins s σ H Q I) (h2 pins s σ H Q I)
theorem Ev.inl {Γ:Ctx} {t u:TE} {b:Bool} {d:Ds} (h:Ev Γ t b d):Ev Γ (zlk t u) b d:=λF0 Hb F H σ own Q a k=>.inl (h F0 Hb F H σ own Q a k)
theorem Ev.inr {Γ:Ctx} {t u:TE} {b:Bool} {d:Ds} (h:Ev Γ u b d):Ev Γ (zlk t u) b d:=λF0 Hb F H σ own Q a k=>.inr (h F0 Hb F H σ own Q a k)
end
section
variable {Γ:Ctx} {ta tb tc:TE} {m:Bool}
end
section
variable {E:XS} {Γ:Ctx} {m:Bool} {K:W.Frag} {te:TE} {u:TS} {α β:Type}
theorem zeY {x:α} {i1 i2 i3:Nat} (d1 d2 d3:α->Ds) (fo:β->Oc) {kk:α->β} (h:Ev Γ te m (dT [d1 x,d2 x,d3 x])) (k:∀ y,y=x->Run E (((Γ.set i1 (.va m (d1 y))).set i2 (.va m (d2 y))).set i3 (.va m (d3 y))) u (fo (kk y))) :
  Run E Γ (tSeq (zfm te (zi1 K 3 (zdg (zbo i1) (zdg (zbo i2) (zdg (zbo i3) zjN))))) u) (fo (Let x kk)):=λF0 Hb F H σ own D a q =>
 h F0 Hb F H σ own _ a λv F' H' g ⟨p,vs,e1,e2,e3⟩=>by
  cases e3 with | cons q1 t=>cases t with | cons q2 t=>cases t with | cons q3 t =>
   cases t
   exact ⟨p,_,e1,.inl (.inl ((part_sub.trans g.fh) _ _ e2)),rfl,_,_,rfl,_,_,rfl,_,_,rfl,rfl,k x rfl F0 Hb F' H' _ own D ((((a.grow g).set i1 q1).set i2 q2).set i3 q3) q⟩
end
end L2
set_option maxHeartbeats 4000000
set_option maxRecDepth 100000
set_option maxHeartbeats 4000000
namespace My
open PySem L2
def top (i:Nat):Stmt:=PySem.Challenge.pw_swapbook_k32_fair_scales.main.body.getD i (.Pass ⟨0,0,0,0⟩)
abbrev zaX:Stmt:=top 22
abbrev zcC:Stmt:=top 23
abbrev zaN:Stmt:=zcy (top 27) 0
abbrev zcP:Stmt:=top 28
abbrev zd0:Stmt:=top 30
abbrev zbn:Stmt:=zcy (top 31) 0
abbrev zck:Stmt:=zcy (top 31) 1
abbrev zb1:Stmt:=zcy (top 31) 2
abbrev zaM:Stmt:=zcy (top 33) 0
abbrev zbv:Stmt:=zcy (top 33) 1
abbrev zeO:Stmt:=top 34
abbrev zbI:Stmt:=top 36
abbrev zbM:Stmt:=top 37
abbrev s_law_only:Stmt:=top 38
abbrev zcr:Stmt:=top 39
abbrev zcL:Stmt:=top 40
abbrev zbQ:Stmt:=top 41
abbrev zaS:Stmt:=top 42
abbrev zbd:Stmt:=top 43
abbrev zaB:Stmt:=top 44
abbrev zbU:Stmt:=top 45
abbrev zbP:Stmt:=top 46
abbrev zcM:Stmt:=top 47
abbrev zbS:Stmt:=top 48
abbrev zbR:Stmt:=top 49
abbrev zeE:Stmt:=top 50
abbrev zb5:Stmt:=zcy (top 31) 0
abbrev zcb:Stmt:=zcy (top 31) 0
abbrev zcG:Stmt:=zcy (top 31) 1
abbrev zcD:Stmt:=zcy (top 31) 2
abbrev zcx:Stmt:=zcy (top 31) 2
abbrev lI:List Int->Ds:=λxs=>dL (List.map dI xs)
inductive Xn where
 | BadScale
 deriving DecidableEq,Inhabited
structure Adr where
 no:Unit:=()
 Book:Addr
 Scale:Addr
 Line:Addr
 Rest:Addr
 xc:Xn->Addr
 k_BadBasket:Addr
 k_BadBaskets:Addr
 k_BadNames:Addr
 k_BadRest:Addr
 k_BadRoad:Addr
 k_BadScale:Addr
 k_BadSwap:Addr
 k_BadWares:Addr
 k_Endless:Addr
 k_NoBook:Addr
 k_NoLine:Addr
 k_NoName:Addr
 k_NoSwap:Addr
 k_NotAlike:Addr
 k_NotKept:Addr
 k_OtherBook:Addr
 k_OtherWares:Addr
 k_SwapError:Addr
 k_TooGreat:Addr
 k_TooMany:Addr
def zbf:Xn->Bool
 | .BadScale=>false
def za5:Xn->Bool
 | .BadScale=>false
def zbs:Xn->Bool
 | .BadScale=>false
def zbN:Xn->Bool
 | .BadScale=>false
def zbW:Xn->Bool
 | .BadScale=>false
def zbt:Xn->Bool
 | .BadScale=>true
def zbX:Xn->Bool
 | .BadScale=>false
def zb9:Xn->Bool
 | .BadScale=>false
def zbT:Xn->Bool
 | .BadScale=>false
def zcs:Xn->Bool
 | .BadScale=>false
def zct:Xn->Bool
 | .BadScale=>false
def zcu:Xn->Bool
 | .BadScale=>false
def zcN:Xn->Bool
 | .BadScale=>false
def zca:Xn->Bool
 | .BadScale=>false
def zbY:Xn->Bool
 | .BadScale=>false
def zbe:Xn->Bool
 | .BadScale=>false
def za3:Xn->Bool
 | .BadScale=>false
def zbq:Xn->Bool
 | .BadScale=>false
def zcA:Xn->Bool
 | .BadScale=>false
def zbk:Xn->Bool
 | .BadScale=>true
structure BookD where
 many:Int
 swaps:(List (List Int))
 deriving Inhabited
def zcd (C:Addr) (b:BookD):Ds:=dO C [("many",dI b.many),("swaps",dL (List.map lI b.swaps))]
structure ScaleD where
 weights:(List Int)
 deriving Inhabited
structure LineD where
 weights:(List Int)
 deriving Inhabited
def zhV (C:Addr) (b:LineD):Ds:=dO C [("weights",dL (List.map dI b.weights))]
structure RestD where
 weights:(List Int)
 rest:Int
 deriving Inhabited
def zgw (C:Addr) (b:RestD):Ds:=dO C [("weights",dL (List.map dI b.weights)),("rest",dI b.rest)]
instance:Inhabited (LineD ⊕ RestD):=⟨.inl default⟩
def dSc (A:Adr):LineD ⊕ RestD->Ds
 | .inl l=>zhV A.Line l
 | .inr r=>zgw A.Rest r
def scC (A:Adr):LineD ⊕ RestD->Addr
 | .inl _=>A.Line
 | .inr _=>A.Rest
def scF:LineD ⊕ RestD->List (Str×Ds)
 | .inl b=>[("weights",dL (List.map dI b.weights))]
 | .inr b=>[("weights",dL (List.map dI b.weights)),("rest",dI b.rest)]
theorem zhu {A:Adr} (x:LineD ⊕ RestD):dSc A x=dO (scC A x) (scF x):=by cases x<;>rfl
def scW:LineD ⊕ RestD->List Int
 | .inl l=>l.weights
 | .inr r=>r.weights
def gR:LineD ⊕ RestD->RestD
 | .inl _=>default
 | .inr r=>r
theorem zke {A:Adr} {Γ:L2.Ctx} {t:TE} {m:Bool} {x:LineD ⊕ RestD} (h:Ev Γ t m (dSc A x)) (hr:x.isRight=true):Ev Γ t m (zgw A.Rest (gR x)):=by
 cases x with
 | inl _=>cases hr
 | inr _=>exact h
structure Txt (K:W.Frag) (mg:Str->Option Value) (A:Adr):Prop where
 ValueError:mg "ValueError"=none
 bool:mg "bool"=none
 enumerate:mg "enumerate"=none
 int:mg "int"=none
 isinstance:mg "isinstance"=none
 len:mg "len"=none
 list:mg "list"=none
 max:mg "max"=none
 range:mg "range"=none
 sum:mg "sum"=none
 zip:mg "zip"=none
 Book:mg "Book"=some (.ref A.Book)
 Book_cl:Cls K A.Book
 Book_many:NoAttr K A.Book "many"
 Book_swaps:NoAttr K A.Book "swaps"
 Scale:mg "Scale"=some (.ref A.Scale)
 Scale_cl:Cls K A.Scale
 Scale_weights:NoAttr K A.Scale "weights"
 Line:mg "Line"=some (.ref A.Line)
 Line_cl:Cls K A.Line
 Line_weights:NoAttr K A.Line "weights"
 Rest:mg "Rest"=some (.ref A.Rest)
 Rest_cl:Cls K A.Rest
 Rest_weights:NoAttr K A.Rest "weights"
 Rest_rest:NoAttr K A.Rest "rest"
 g_MOST_WARES:∃ t,mg "MOST_WARES"=some (.int 8 t)
 g_MOST_SWAPS:∃ t,mg "MOST_SWAPS"=some (.int 12 t)
 k_BadBasket:mg "BadBasket"=some (.ref A.k_BadBasket)
 k_BadBaskets:mg "BadBaskets"=some (.ref A.k_BadBaskets)
 k_BadNames:mg "BadNames"=some (.ref A.k_BadNames)
 k_BadRest:mg "BadRest"=some (.ref A.k_BadRest)
 k_BadRoad:mg "BadRoad"=some (.ref A.k_BadRoad)
 k_BadScale:mg "BadScale"=some (.ref A.k_BadScale)
 k_BadSwap:mg "BadSwap"=some (.ref A.k_BadSwap)
 k_BadWares:mg "BadWares"=some (.ref A.k_BadWares)
 k_Endless:mg "Endless"=some (.ref A.k_Endless)
 k_NoBook:mg "NoBook"=some (.ref A.k_NoBook)
 k_NoLine:mg "NoLine"=some (.ref A.k_NoLine)
 k_NoName:mg "NoName"=some (.ref A.k_NoName)
 k_NoSwap:mg "NoSwap"=some (.ref A.k_NoSwap)
 k_NotAlike:mg "NotAlike"=some (.ref A.k_NotAlike)
 k_NotKept:mg "NotKept"=some (.ref A.k_NotKept)
 k_OtherBook:mg "OtherBook"=some (.ref A.k_OtherBook)
 k_OtherWares:mg "OtherWares"=some (.ref A.k_OtherWares)
 k_SwapError:mg "SwapError"=some (.ref A.k_SwapError)
 k_TooGreat:mg "TooGreat"=some (.ref A.k_TooGreat)
 k_TooMany:mg "TooMany"=some (.ref A.k_TooMany)
 xm_BadScale:mg "BadScale"=some (.ref (A.xc .BadScale))
 xi_BadScale:W.excIn K (A.xc .BadScale) [.type "ValueError",.type "Exception",.type "BaseException",.type "object"] "ValueError.__new__"=true
 xcl_BadScale:XCls K (A.xc .BadScale)
 exm_BadScale:W.exmOne K (.ref (A.xc .BadScale)) (.ref A.k_SwapError)=some true
 i0_BadBasket:W.kitOne K (.type "NoneType") (.ref A.k_BadBasket)=some false
 i_BadScale_BadBasket:W.kitOne K (.ref (A.xc .BadScale)) (.ref A.k_BadBasket)=some (zbf .BadScale)
 i0_BadBaskets:W.kitOne K (.type "NoneType") (.ref A.k_BadBaskets)=some false
 i_BadScale_BadBaskets:W.kitOne K (.ref (A.xc .BadScale)) (.ref A.k_BadBaskets)=some (za5 .BadScale)
 i0_BadNames:W.kitOne K (.type "NoneType") (.ref A.k_BadNames)=some false
 i_BadScale_BadNames:W.kitOne K (.ref (A.xc .BadScale)) (.ref A.k_BadNames)=some (zbs .BadScale)
 i0_BadRest:W.kitOne K (.type "NoneType") (.ref A.k_BadRest)=some false
 i_BadScale_BadRest:W.kitOne K (.ref (A.xc .BadScale)) (.ref A.k_BadRest)=some (zbN .BadScale)
 i0_BadRoad:W.kitOne K (.type "NoneType") (.ref A.k_BadRoad)=some false
 i_BadScale_BadRoad:W.kitOne K (.ref (A.xc .BadScale)) (.ref A.k_BadRoad)=some (zbW .BadScale)
 i0_BadScale:W.kitOne K (.type "NoneType") (.ref A.k_BadScale)=some false
 i_BadScale_BadScale:W.kitOne K (.ref (A.xc .BadScale)) (.ref A.k_BadScale)=some (zbt .BadScale)
 i0_BadSwap:W.kitOne K (.type "NoneType") (.ref A.k_BadSwap)=some false
 i_BadScale_BadSwap:W.kitOne K (.ref (A.xc .BadScale)) (.ref A.k_BadSwap)=some (zbX .BadScale)
 i0_BadWares:W.kitOne K (.type "NoneType") (.ref A.k_BadWares)=some false
 i_BadScale_BadWares:W.kitOne K (.ref (A.xc .BadScale)) (.ref A.k_BadWares)=some (zb9 .BadScale)
 i0_Endless:W.kitOne K (.type "NoneType") (.ref A.k_Endless)=some false
 i_BadScale_Endless:W.kitOne K (.ref (A.xc .BadScale)) (.ref A.k_Endless)=some (zbT .BadScale)
 i0_NoBook:W.kitOne K (.type "NoneType") (.ref A.k_NoBook)=some false
 i_BadScale_NoBook:W.kitOne K (.ref (A.xc .BadScale)) (.ref A.k_NoBook)=some (zcs .BadScale)
 i0_NoLine:W.kitOne K (.type "NoneType") (.ref A.k_NoLine)=some false
 i_BadScale_NoLine:W.kitOne K (.ref (A.xc .BadScale)) (.ref A.k_NoLine)=some (zct .BadScale)
 i0_NoName:W.kitOne K (.type "NoneType") (.ref A.k_NoName)=some false
 i_BadScale_NoName:W.kitOne K (.ref (A.xc .BadScale)) (.ref A.k_NoName)=some (zcu .BadScale)
 i0_NoSwap:W.kitOne K (.type "NoneType") (.ref A.k_NoSwap)=some false
 i_BadScale_NoSwap:W.kitOne K (.ref (A.xc .BadScale)) (.ref A.k_NoSwap)=some (zcN .BadScale)
 i0_NotAlike:W.kitOne K (.type "NoneType") (.ref A.k_NotAlike)=some false
 i_BadScale_NotAlike:W.kitOne K (.ref (A.xc .BadScale)) (.ref A.k_NotAlike)=some (zca .BadScale)
 i0_NotKept:W.kitOne K (.type "NoneType") (.ref A.k_NotKept)=some false
 i_BadScale_NotKept:W.kitOne K (.ref (A.xc .BadScale)) (.ref A.k_NotKept)=some (zbY .BadScale)
 i0_OtherBook:W.kitOne K (.type "NoneType") (.ref A.k_OtherBook)=some false
 i_BadScale_OtherBook:W.kitOne K (.ref (A.xc .BadScale)) (.ref A.k_OtherBook)=some (zbe .BadScale)
 i0_OtherWares:W.kitOne K (.type "NoneType") (.ref A.k_OtherWares)=some false
 i_BadScale_OtherWares:W.kitOne K (.ref (A.xc .BadScale)) (.ref A.k_OtherWares)=some (za3 .BadScale)
 i0_TooGreat:W.kitOne K (.type "NoneType") (.ref A.k_TooGreat)=some false
 i_BadScale_TooGreat:W.kitOne K (.ref (A.xc .BadScale)) (.ref A.k_TooGreat)=some (zbq .BadScale)
 i0_TooMany:W.kitOne K (.type "NoneType") (.ref A.k_TooMany)=some false
 i_BadScale_TooMany:W.kitOne K (.ref (A.xc .BadScale)) (.ref A.k_TooMany)=some (zcA .BadScale)
 i0_ValueError:W.kitOne K (.type "NoneType") (.type "ValueError")=some false
 i_BadScale_ValueError:W.kitOne K (.ref (A.xc .BadScale)) (.type "ValueError")=some (zbk .BadScale)
 kit_int_bool:W.kitOne K (.type "int") (.type "bool")=some false
 kit_int_int:W.kitOne K (.type "int") (.type "int")=some true
theorem Txt.hx_BadBasket {K:W.Frag} {mg:Str->Option Value} {A:Adr} (T:Txt K mg A):∀ e,XCls K (A.xc e)∧W.kitOne K (.ref (A.xc e)) (.ref A.k_BadBasket)=some (zbf e)
 | .BadScale=>⟨T.xcl_BadScale,T.i_BadScale_BadBasket⟩
theorem Txt.hx_BadBaskets {K:W.Frag} {mg:Str->Option Value} {A:Adr} (T:Txt K mg A):∀ e,XCls K (A.xc e)∧W.kitOne K (.ref (A.xc e)) (.ref A.k_BadBaskets)=some (za5 e)
 | .BadScale=>⟨T.xcl_BadScale,T.i_BadScale_BadBaskets⟩
theorem Txt.hx_BadNames {K:W.Frag} {mg:Str->Option Value} {A:Adr} (T:Txt K mg A):∀ e,XCls K (A.xc e)∧W.kitOne K (.ref (A.xc e)) (.ref A.k_BadNames)=some (zbs e)
 | .BadScale=>⟨T.xcl_BadScale,T.i_BadScale_BadNames⟩
theorem Txt.hx_BadRest {K:W.Frag} {mg:Str->Option Value} {A:Adr} (T:Txt K mg A):∀ e,XCls K (A.xc e)∧W.kitOne K (.ref (A.xc e)) (.ref A.k_BadRest)=some (zbN e)
 | .BadScale=>⟨T.xcl_BadScale,T.i_BadScale_BadRest⟩
theorem Txt.hx_BadRoad {K:W.Frag} {mg:Str->Option Value} {A:Adr} (T:Txt K mg A):∀ e,XCls K (A.xc e)∧W.kitOne K (.ref (A.xc e)) (.ref A.k_BadRoad)=some (zbW e)
 | .BadScale=>⟨T.xcl_BadScale,T.i_BadScale_BadRoad⟩
theorem Txt.hx_BadScale {K:W.Frag} {mg:Str->Option Value} {A:Adr} (T:Txt K mg A):∀ e,XCls K (A.xc e)∧W.kitOne K (.ref (A.xc e)) (.ref A.k_BadScale)=some (zbt e)
 | .BadScale=>⟨T.xcl_BadScale,T.i_BadScale_BadScale⟩
theorem Txt.hx_BadSwap {K:W.Frag} {mg:Str->Option Value} {A:Adr} (T:Txt K mg A):∀ e,XCls K (A.xc e)∧W.kitOne K (.ref (A.xc e)) (.ref A.k_BadSwap)=some (zbX e)
 | .BadScale=>⟨T.xcl_BadScale,T.i_BadScale_BadSwap⟩
theorem Txt.hx_BadWares {K:W.Frag} {mg:Str->Option Value} {A:Adr} (T:Txt K mg A):∀ e,XCls K (A.xc e)∧W.kitOne K (.ref (A.xc e)) (.ref A.k_BadWares)=some (zb9 e)
 | .BadScale=>⟨T.xcl_BadScale,T.i_BadScale_BadWares⟩
theorem Txt.hx_Endless {K:W.Frag} {mg:Str->Option Value} {A:Adr} (T:Txt K mg A):∀ e,XCls K (A.xc e)∧W.kitOne K (.ref (A.xc e)) (.ref A.k_Endless)=some (zbT e)
 | .BadScale=>⟨T.xcl_BadScale,T.i_BadScale_Endless⟩
theorem Txt.hx_NoBook {K:W.Frag} {mg:Str->Option Value} {A:Adr} (T:Txt K mg A):∀ e,XCls K (A.xc e)∧W.kitOne K (.ref (A.xc e)) (.ref A.k_NoBook)=some (zcs e)
 | .BadScale=>⟨T.xcl_BadScale,T.i_BadScale_NoBook⟩
theorem Txt.hx_NoLine {K:W.Frag} {mg:Str->Option Value} {A:Adr} (T:Txt K mg A):∀ e,XCls K (A.xc e)∧W.kitOne K (.ref (A.xc e)) (.ref A.k_NoLine)=some (zct e)
 | .BadScale=>⟨T.xcl_BadScale,T.i_BadScale_NoLine⟩
theorem Txt.hx_NoName {K:W.Frag} {mg:Str->Option Value} {A:Adr} (T:Txt K mg A):∀ e,XCls K (A.xc e)∧W.kitOne K (.ref (A.xc e)) (.ref A.k_NoName)=some (zcu e)
 | .BadScale=>⟨T.xcl_BadScale,T.i_BadScale_NoName⟩
theorem Txt.hx_NoSwap {K:W.Frag} {mg:Str->Option Value} {A:Adr} (T:Txt K mg A):∀ e,XCls K (A.xc e)∧W.kitOne K (.ref (A.xc e)) (.ref A.k_NoSwap)=some (zcN e)
 | .BadScale=>⟨T.xcl_BadScale,T.i_BadScale_NoSwap⟩
theorem Txt.hx_NotAlike {K:W.Frag} {mg:Str->Option Value} {A:Adr} (T:Txt K mg A):∀ e,XCls K (A.xc e)∧W.kitOne K (.ref (A.xc e)) (.ref A.k_NotAlike)=some (zca e)
 | .BadScale=>⟨T.xcl_BadScale,T.i_BadScale_NotAlike⟩
theorem Txt.hx_NotKept {K:W.Frag} {mg:Str->Option Value} {A:Adr} (T:Txt K mg A):∀ e,XCls K (A.xc e)∧W.kitOne K (.ref (A.xc e)) (.ref A.k_NotKept)=some (zbY e)
 | .BadScale=>⟨T.xcl_BadScale,T.i_BadScale_NotKept⟩
theorem Txt.hx_OtherBook {K:W.Frag} {mg:Str->Option Value} {A:Adr} (T:Txt K mg A):∀ e,XCls K (A.xc e)∧W.kitOne K (.ref (A.xc e)) (.ref A.k_OtherBook)=some (zbe e)
 | .BadScale=>⟨T.xcl_BadScale,T.i_BadScale_OtherBook⟩
theorem Txt.hx_OtherWares {K:W.Frag} {mg:Str->Option Value} {A:Adr} (T:Txt K mg A):∀ e,XCls K (A.xc e)∧W.kitOne K (.ref (A.xc e)) (.ref A.k_OtherWares)=some (za3 e)
 | .BadScale=>⟨T.xcl_BadScale,T.i_BadScale_OtherWares⟩
theorem Txt.hx_TooGreat {K:W.Frag} {mg:Str->Option Value} {A:Adr} (T:Txt K mg A):∀ e,XCls K (A.xc e)∧W.kitOne K (.ref (A.xc e)) (.ref A.k_TooGreat)=some (zbq e)
 | .BadScale=>⟨T.xcl_BadScale,T.i_BadScale_TooGreat⟩
theorem Txt.hx_TooMany {K:W.Frag} {mg:Str->Option Value} {A:Adr} (T:Txt K mg A):∀ e,XCls K (A.xc e)∧W.kitOne K (.ref (A.xc e)) (.ref A.k_TooMany)=some (zcA e)
 | .BadScale=>⟨T.xcl_BadScale,T.i_BadScale_TooMany⟩
theorem Txt.hx_ValueError {K:W.Frag} {mg:Str->Option Value} {A:Adr} (T:Txt K mg A):∀ e,XCls K (A.xc e)∧W.kitOne K (.ref (A.xc e)) (.type "ValueError")=some (zbk e)
 | .BadScale=>⟨T.xcl_BadScale,T.i_BadScale_ValueError⟩
section
variable {P:Program} {w:World} {K:W.Frag} {mg:Str->Option Value} {base:Heap} {f:Addr} {fd:FuncData} {A:Adr}
def m_refuse_unlike (P0:(List Int)) (P1:(List Int)):Unit:=()
def zbg (P0:(List Int)) (P1:(List Int)):Prop:=P0.length=P1.length
def zce (K:W.Frag) (A:Adr):Sp:=Spv (ι:=(List Int)×(List Int)) (λx=>[dQ K (List.map dI x.1),dQ K (List.map dI x.2)]) (λx=>zbg x.1 x.2) (λx=>.va true (dN))
theorem zd4:FnScope ["one","other"] ["one","other"] (defScope zaX):=⟨rfl,rfl,rfl,by decide +kernel,rfl,by decide +kernel,by decide +kernel⟩
theorem zeb (F:Fun K "refuse_unlike" "refuse_unlike" zaX f fd) (T:Txt K mg A) :FnOk P w K mg base (CXE P w) 1 f fd ["one","other"] (zce K A):=by
 refine F.okV zd4 (λ_=>rfl) (λcdv Ar outer s H E x hr hp=>?_)
 obtain ⟨P0,P1⟩:=x
 have hu:=hr.units
 replace hp:zbg P0 P1:=hp
 unfold zbg at hp
 refine ⟨_,(zac (zbx (zau ze7 (pe_callB (zaq (K:=K) rfl) rfl T.len PySem.boot_len (pa_cons (pv 0) pa_nil)) (pe_callB (zaq (K:=K) rfl) rfl T.len PySem.boot_len (pa_cons (pv 1) pa_nil)) (nomark _))
 (zac zdn zad)
 zad)
 zad),.inr ⟨_,([.va false (dQ K (List.map dI P0)),.va false (dQ K (List.map dI P1))]:L2.Ctx),rfl,?_⟩⟩
 show L2.Run _ ([.va false (dQ K (List.map dI P0)),.va false (dQ K (List.map dI P1))]:L2.Ctx) _ _
 exact (zbr (EvT.conv (zal (zdM (x:=((P0.length:Nat):Int)) (y:=((P1.length:Nat):Int)) (zbj (f:=dI) (xs:=P0) (zaa (i:=0) rfl)) (zbj (f:=dI) (xs:=P1) (zaa (i:=1) rfl)))) (by ((try simp only [decide_eq_true_eq,decide_eq_false_iff_not,Bool.not_eq_true',Bool.not_eq_false',Bool.and_eq_true,Bool.or_eq_false_iff,Bool.or_eq_true,Bool.and_eq_false_iff,Bool.cond_eq_ite] at *)<;>omega))) (zaj
 (zah (Wk.refl _))))
def m_weighed (P0:(List Int)) (P1:(List Int)):Int :=
 (List.map (λ(x2:(Int×Int))=>(x2.1*x2.2)) (List.zip P0 P1)).sum
def zaR (P0:(List Int)) (P1:(List Int)):Prop:=P0.length=P1.length∧P0.length≤1000∧∀ p∈List.zip P0 P1,zel p.1 p.2
def zdS (K:W.Frag) (A:Adr):Sp:=Spv (ι:=(List Int)×(List Int)) (λx=>[dQ K (List.map dI x.1),dQ K (List.map dI x.2)]) (λx=>zaR x.1 x.2) (λx=>.va true (dI (m_weighed x.1 x.2)))
theorem zgG:FnScope ["one","other"] ["one","other"] (defScope zcC):=⟨rfl,rfl,rfl,by decide +kernel,rfl,by decide +kernel,by decide +kernel⟩
theorem zgI (F:Fun K "weighed" "weighed" zcC f fd) (T:Txt K mg A) (G_refuse_unlike:Callee P w K mg base (CXE P w) 1 "refuse_unlike" ["one","other"] (zce K A)):FnOk P w K mg base (CXE P w) 2 f fd ["one","other"] (zdS K A):=by
 refine F.okV zgG (λ_=>rfl) (λcdv Ar outer s H E x hr hp=>?_)
 obtain ⟨P0,P1⟩:=x
 have hu:=hr.units
 replace hp:zaR P0 P1:=hp
 unfold zaR at hp
 refine ⟨_,(zac (ze4 (pe_fn G_refuse_unlike (hr.mono (by decide)) rfl passE (pa_cons (pv 0) (pa_cons (pv 1) pa_nil))))
 (zac (zaE (pe_callB (zgC (K:=K) rfl rfl) rfl T.sum PyProof.Rows.boot_sum (pa_cons (pe_comp rfl (.of (osc:=(defScope zcC)) (N:=["one","other"]) (own:=["a","b"]) (fvn:=[]) (fv:=[]) rfl rfl (by decide +kernel)) (zdp (K:=K) rfl rfl T.zip (pa_cons (pv 0) (pa_cons (pv 1) pa_nil))) (λ_ _ _ _ _=>⟨(zbh (K:=K) (n:=2) rfl rfl (zap (pg_name (i:=0) (show (["a","b"]:List Str).Nodup by decide +kernel) rfl (Or.inl rfl) (Or.inr rfl)) (zap (pg_name (i:=1) (show (["a","b"]:List Str).Nodup by decide +kernel) rfl (Or.inl rfl) (Or.inr rfl)) zbL))),pts_nil,(zam zbK (pv 0) (pv 1))⟩)) pa_nil)))
 zad)),.inl ?_⟩
 show L2.Run _ ([.va false (dQ K (List.map dI P0)),.va false (dQ K (List.map dI P1))]:L2.Ctx) _ ((λ(r:Int)=>Oc.rt true (dI r)) (m_weighed P0 P1))
 unfold m_weighed
 exact (zio (m:=true) (Ev.any (m:=true) (zaA (x:=(P0,P1)) (zab (zaa (i:=0) rfl) (zab (zaa (i:=1) rfl) zaf)) rfl (by show zbg P0 P1;exact hp.1) rfl))
 (zag (zax (zkI (xs:=(List.map (λ(x2:(Int×Int))=>(x2.1*x2.2)) (List.zip P0 P1))) (Ev.weak (K:=K) (EvO.ev (EvO.conv (zcg (g:=(λ(x2:(Int×Int))=>dI (x2.1*x2.2))) (zeH (m:=false) dI dI (xs:=P0) (ys:=P1) (zaa (i:=0) rfl) (zaa (i:=1) rfl)) (by exact zak (by rw [List.length_zip];omega)) ⟨by decide,by decide⟩ (λi3 x2 hx4=>have qhx4:=zdh hx4;(zav (x:=x2.1) (y:=x2.2) (Ev.any (m:=false) (zaa (i:=0) rfl)) (Ev.any (m:=false) (zaa (i:=1) rfl)) (by exact hp.2.2 _ (List.mem_of_getElem? (by assumption)))))) (by first | (rw [List.map_map];rfl) | (simp only [cond_true,cond_false];rw [List.map_map];rfl)))))))))
theorem zeR (w t:List Int):m_weighed w t=Lat.dv w (Lat.vec t):=Lat.ziX w t
theorem zie {α:Type} {xs:List α} {i:Nat} {p:Int×α} (h:(zdT xs)[i]?=some p):p.2∈xs:=List.mem_of_getElem? (zda h).2.2
def zgf (P0:Int) (P1:(List (List Int))):BookD:=⟨P0,(List.map (λ(x5:(List Int))=>x5) P1)⟩
def zaW (P0:Int) (P1:(List (List Int))):Prop:=P1.length≤1000
def zc4 (K:W.Frag) (A:Adr):Sp:=zje (ι:=Int×(List (List Int))) A.Book (λx=>[dI x.1,dQ K (List.map lI x.2)]) (λx=>zaW x.1 x.2) true (λx=>[("many",dI ((zgf x.1 x.2).many)),("swaps",dL (List.map lI ((zgf x.1 x.2).swaps)))])
theorem zd9:FnScope ["self","many","swaps"] ["self","many","swaps"] (defScope zaN):=⟨rfl,rfl,rfl,by decide +kernel,rfl,by decide +kernel,by decide +kernel⟩
theorem zea (F:Fun K "__init__" "Book.__init__" zaN f fd) (T:Txt K mg A) :FnOk P w K mg base (CXE P w) 1 f fd ["self","many","swaps"] (zc4 K A):=by
 refine F.okI zd9 (λ_=>rfl) (λcdv Ar outer s H E x hr hp=>?_)
 obtain ⟨P0,P1⟩:=x
 have hu:=hr.units
 replace hp:zaW P0 P1:=hp
 unfold zaW at hp
 refine ⟨_,(zac (zfM (pv 0) (pv 1) rfl)
 (zac (zfM (pv 0) (pe_comp rfl (.of (osc:=(defScope zaN)) (N:=["self","many","swaps"]) (own:=["swap"]) (fvn:=[]) (fv:=[]) rfl rfl (by decide +kernel)) (pi_list_K (K:=K) rfl (pv 2)) (λ_ _ _ _ _=>⟨(pg_name (i:=0) (show (["swap"]:List Str).Nodup by decide +kernel) rfl (Or.inl rfl) (Or.inr rfl)),pts_nil,(zb3 (zbO (K:=K) rfl) rfl T.list PyProof.Rows.boot_list (pa_cons (pv 0) pa_nil))⟩)) rfl)
 zad)),λp dx=>⟨([.ob true A.Book p dx [("many",dI P0),("swaps",dL (List.map lI (List.map (λ(x5:(List Int))=>x5) P1)))],.va false (dI P0),.va false (dQ K (List.map lI P1))]:L2.Ctx),?_,rfl⟩⟩
 show L2.Run _ ([.ob true A.Book p dx [],.va false (dI P0),.va false (dQ K (List.map lI P1))]:L2.Ctx) _ _
 exact (zdN (i:=0) rfl (Ev.any (m:=false) (zaa (i:=1) rfl)) T.Book_cl T.Book_many [] rfl (by decide +kernel) (by decide)
 (zdN (i:=0) rfl (EvO.ev (EvO.conv (zcg (g:=(λ(x5:(List Int))=>dL (List.map dI x5))) (zcB (m:=false) lI (xs:=P1) (zaa (i:=2) rfl)) (by exact zak (by omega)) ⟨by decide,by decide⟩ (λi6 x5 hx7=>have qhx7:=List.mem_of_getElem? hx7;(EvO.ev (EvO.anyI (m:=false) (zdW (Ev.weak (K:=K) (zaa (i:=0) rfl))))))) (by first | (rw [List.map_map];rfl) | (simp only [cond_true,cond_false];rw [List.map_map];rfl)))) T.Book_cl T.Book_swaps ["many"] rfl (by decide +kernel) (by decide)
 (zah (Wk.refl _))))
def m_book_of (P0:Int) (P1:(List (List Int))):BookD :=
 (Let (List.foldl (λ(s10:Unit) (x11:(Int×(List Int)))=>()) () (zdT P1)) (λ(r16:Unit) =>
 (zgf P0 P1)))
def zcw (P0:Int) (P1:(List (List Int))):Prop:=1≤P0∧P0≤8∧P1.length≤12∧∀ s∈P1,(s.length:Int)=P0
def zd1 (K:W.Frag) (A:Adr):Sp:=Spv (ι:=Int×(List (List Int))) (λx=>[dI x.1,dQ K (List.map lI x.2)]) (λx=>zcw x.1 x.2) (λx=>.va true (zcd A.Book (m_book_of x.1 x.2)))
theorem zdV:FnScope ["many","swaps","place","swap"] ["many","swaps"] (defScope zcP):=⟨rfl,rfl,rfl,by decide +kernel,rfl,by decide +kernel,by decide +kernel⟩
theorem zgv (F:Fun K "book_of" "book_of" zcP f fd) (T:Txt K mg A)  {f_Book:Addr} {fd_Book:FuncData} (M_Book:Mk K A.Book f_Book) (G_Book___init__:FnOk P w K mg base (CXE P w) 1 f_Book fd_Book ["self","many","swaps"] (zc4 K A)) (b_Book___init__:zdB K fd_Book ["self","many","swaps"] []):FnOk P w K mg base (CXE P w) 3 f fd ["many","swaps"] (zd1 K A):=by
 refine F.okV zdV (λ_=>rfl) (λcdv Ar outer s H E x hr hp=>?_)
 obtain ⟨P0,P1⟩:=x
 have hu:=hr.units
 replace hp:zcw P0 P1:=hp
 unfold zcw at hp
 obtain ⟨t_MOST_SWAPS,c_MOST_SWAPS⟩:=T.g_MOST_SWAPS
 obtain ⟨t_MOST_WARES,c_MOST_WARES⟩:=T.g_MOST_WARES
 refine ⟨_,(zac (zbx (PW.pt (zjO (zau zhr (pv 0) zae (nomark _)) (zg1 (zau zfx (pv 0) (pe_glob (v:=.int 8) rfl c_MOST_WARES ⟨_,rfl⟩) (nomark _)))))
 (zac zdn zad)
 zad)
 (zac (zbx (zau zfx (pe_callB (zaq (K:=K) rfl) rfl T.len PySem.boot_len (pa_cons (pv 1) pa_nil)) (pe_glob (v:=.int 12) rfl c_MOST_SWAPS ⟨_,rfl⟩) (nomark _))
 (zac zdn zad)
 zad)
 (zac (zc2 PassesOwn.never rfl (zhi rfl rfl T.enumerate (pa_cons (pv 1) pa_nil)) (zbh (K:=K) (n:=2) rfl rfl (zap (pg_name (i:=2) zdV.nd rfl (Or.inl rfl) (Or.inl rfl)) (zap (pg_name (i:=3) zdV.nd rfl (Or.inl rfl) (Or.inl rfl)) zbL)))
 (zac (zbx (zau ze7 (pe_callB (zaq (K:=K) rfl) rfl T.len PySem.boot_len (pa_cons (pv 3) pa_nil)) (pv 0) (nomark _))
 (zac zdn zad)
 zad)
 zad))
 (zac (zaE (zfP M_Book G_Book___init__ (hr.mono (by decide)) rfl T.Book b_Book___init__ .nil passE (pa_cons (pv 0) (pa_cons (pv 1) pa_nil))))
 zad)))),.inl ?_⟩
 show L2.Run _ ([.va false (dI P0),.va false (dQ K (List.map lI P1)),.no,.no]:L2.Ctx) _ ((λ(r:BookD)=>Oc.rt true (zcd A.Book r)) (m_book_of P0 P1))
 unfold m_book_of
 exact (zbr (EvT.conv (zhM (b:=(decide (P0<(1:Int)))) (zal (zaF (x:=P0) (y:=(1:Int)) (Ev.any (m:=false) (zaa (i:=0) rfl)) zaw)) (λhb=>(zal (zaF (x:=P0) (y:=8) (Ev.any (m:=false) (zaa (i:=0) rfl)) zaw)))) (by simp only [Bool.or_eq_false_iff,decide_eq_false_iff_not];omega)) (zaj
 (zbr (EvT.conv (zal (zaF (x:=((P1.length:Nat):Int)) (y:=12) (zbj (f:=lI) (xs:=P1) (zaa (i:=1) rfl)) zaw)) (by ((try simp only [decide_eq_true_eq,decide_eq_false_iff_not,Bool.not_eq_true',Bool.not_eq_false',Bool.and_eq_true,Bool.or_eq_false_iff,Bool.or_eq_true,Bool.and_eq_false_iff,Bool.cond_eq_ite] at *)<;>omega))) (zaj
 (zcU (s0:=()) (λ(s10:Unit)=>([.va false (dI P0),.va false (dQ K (List.map lI P1)),.no,.no]:L2.Ctx)) (λ(r:BookD)=>Oc.rt true (zcd A.Book r)) (λ(s10:Unit) (x11:(Int×(List Int)))=>()) (λ_ _=>True) (zhg (m:=false) lI (xs:=P1) (zaa (i:=1) rfl)) (.eq (.eq (.eq (.eq .nil)))) trivial (λi12 x11 s10 hx13 hI14=>have v13:=zda hx13;⟨trivial,
 (zbr (EvT.conv (zal (zdM (x:=((x11.2.length:Nat):Int)) (y:=P0) (zbj (f:=dI) (xs:=x11.2) (Ev.weak (K:=K) (zaa (i:=3) rfl))) (Ev.any (m:=false) (zaa (i:=0) rfl)))) (by have:=hp.2.2.2 _ (zie (by assumption));simp only [Bool.not_eq_false',decide_eq_true_eq];exact this)) (zaj
 (zah (.eq (.eq (.no (.no .nil)))))))⟩) (λr16 hr16 hI =>
 (zag (zax (zf9 (i:=(P0,P1)) (zab (Ev.any (m:=false) (zaa (i:=0) rfl)) (zab (zaa (i:=1) rfl) zaf)) rfl (by show zaW P0 P1;unfold zaW;omega))))))))))
theorem zkv {w:Int} {sw:List (List Int)}:m_book_of w sw=⟨w,sw⟩:=by
 unfold m_book_of zgf Let
 simp
theorem zgh (sw:List (List Int)):List.map (λ(x:List Int)=>x) sw=sw:=by simp
def zi2 (P0:(List Int)):LineD:=⟨P0⟩
def zaI (P0:(List Int)):Prop:=True
def zbG (K:W.Frag) (A:Adr):Sp:=zje (ι:=(List Int)) A.Line (λx=>[dQ K (List.map dI x)]) (λx=>zaI x) true (λx=>[("weights",dL (List.map dI ((zi2 x).weights)))])
theorem zc6:FnScope ["self","weights"] ["self","weights"] (defScope zb5):=⟨rfl,rfl,rfl,by decide +kernel,rfl,by decide +kernel,by decide +kernel⟩
theorem zc8 (F:Fun K "__init__" "Scale.__init__" zb5 f fd) (T:Txt K mg A) :FnOk P w K mg base (CXE P w) 1 f fd ["self","weights"] (zbG K A):=by
 refine F.okI zc6 (λ_=>rfl) (λcdv Ar outer s H E P0 hr hp=>?_)
 have hu:=hr.units
 replace hp:zaI P0:=hp
 unfold zaI at hp
 refine ⟨_,(zac (zfM (pv 0) (zb3 (zbO (K:=K) rfl) rfl T.list PyProof.Rows.boot_list (pa_cons (pv 1) pa_nil)) rfl)
 zad),λp dx=>⟨([.ob true A.Line p dx [("weights",dL (List.map dI P0))],.va false (dQ K (List.map dI P0))]:L2.Ctx),?_,rfl⟩⟩
 show L2.Run _ ([.ob true A.Line p dx [],.va false (dQ K (List.map dI P0))]:L2.Ctx) _ _
 exact (zdN (i:=0) rfl (EvO.ev (EvO.anyI (m:=false) (zdW (zaa (i:=1) rfl)))) T.Line_cl T.Line_weights [] rfl (by decide +kernel) (by decide)
 (zah (Wk.refl _)))
def zaG (P0:(List Int)):(List Int):=P0
def zaJ (P0:(List Int)):Prop:=True
def zbF (K:W.Frag) (A:Adr):Sp:=zje (ι:=(List Int)) A.Rest (λx=>[dQ K (List.map dI x)]) (λx=>zaJ x) true (λx=>[("weights",dL (List.map dI (zaG x)))])
theorem zc5:FnScope ["self","weights"] ["self","weights"] (defScope zcb):=⟨rfl,rfl,rfl,by decide +kernel,rfl,by decide +kernel,by decide +kernel⟩
theorem zc7 (F:Fun K "__init__" "Scale.__init__" zcb f fd) (T:Txt K mg A) :FnOk P w K mg base (CXE P w) 1 f fd ["self","weights"] (zbF K A):=by
 refine F.okI zc5 (λ_=>rfl) (λcdv Ar outer s H E P0 hr hp=>?_)
 have hu:=hr.units
 replace hp:zaJ P0:=hp
 unfold zaJ at hp
 refine ⟨_,(zac (zfM (pv 0) (zb3 (zbO (K:=K) rfl) rfl T.list PyProof.Rows.boot_list (pa_cons (pv 1) pa_nil)) rfl)
 zad),λp dx=>⟨([.ob true A.Rest p dx [("weights",dL (List.map dI P0))],.va false (dQ K (List.map dI P0))]:L2.Ctx),?_,rfl⟩⟩
 show L2.Run _ ([.ob true A.Rest p dx [],.va false (dQ K (List.map dI P0))]:L2.Ctx) _ _
 exact (zdN (i:=0) rfl (EvO.ev (EvO.anyI (m:=false) (zdW (zaa (i:=1) rfl)))) T.Rest_cl T.Rest_weights [] rfl (by decide +kernel) (by decide)
 (zah (Wk.refl _)))
theorem zlF {r:Int} {ws:List Int} (h:2≤r∧ws.length≤1000):decide (r<(2:Int))=false:=decide_eq_false (by omega)
def zgs (P0:Int) (P1:(List Int)):RestD:=⟨(zaG (List.map (λ(x18:Int)=>(x18%P0)) P1)),P0⟩
def zbc (P0:Int) (P1:(List Int)):Prop:=2≤P0∧P1.length≤1000
def zc1 (K:W.Frag) (A:Adr):Sp:=zje (ι:=Int×(List Int)) A.Rest (λx=>[dI x.1,dQ K (List.map dI x.2)]) (λx=>zbc x.1 x.2) true (λx=>[("weights",dL (List.map dI ((zgs x.1 x.2).weights))),("rest",dI ((zgs x.1 x.2).rest))])
theorem zd5:FnScope ["self","rest","weights"] ["self","rest","weights"] (defScope zaM):=⟨rfl,rfl,rfl,by decide +kernel,rfl,by decide +kernel,by decide +kernel⟩
theorem zd7 (F:Fun K "__init__" "Rest.__init__" zaM f fd) (T:Txt K mg A) {f_Scale___init___Rest:Addr} {fd_Scale___init___Rest:FuncData} (B_Scale___init___Rest:ByCls K A.Scale f_Scale___init___Rest "__init__") (G_Scale___init___Rest:FnOk P w K mg base (CXE P w) 1 f_Scale___init___Rest fd_Scale___init___Rest ["self","weights"] (zbF K A)) (b_Scale___init___Rest:zdB K fd_Scale___init___Rest ["self","weights"] []):FnOk P w K mg base (CXE P w) 2 f fd ["self","rest","weights"] (zc1 K A):=by
 refine F.okI zd5 (λ_=>rfl) (λcdv Ar outer s H E x hr hp=>?_)
 obtain ⟨P0,P1⟩:=x
 have hu:=hr.units
 replace hp:zbc P0 P1:=hp
 unfold zbc at hp
 refine ⟨_,(zac (zbx (zau zhr (pv 1) zae (nomark _))
 (zac zdn zad)
 zad)
 (zac (ze4 (ziH (pe_glob (v:=.ref A.Scale) rfl T.Scale rfl) B_Scale___init___Rest G_Scale___init___Rest (hr.mono (by decide)) b_Scale___init___Rest passE (pa_cons (pv 0) (pa_cons (pe_comp rfl (.of (osc:=(defScope zaM)) (N:=["self","rest","weights"]) (own:=["weight"]) (fvn:=["rest"]) (fv:=[1]) rfl rfl (by decide +kernel)) (pi_list_K (K:=K) rfl (pv 2)) (λ_ _ _ _ _=>⟨(pg_name (i:=0) (show (["weight","rest"]:List Str).Nodup by decide +kernel) rfl (Or.inl rfl) (Or.inr rfl)),pts_nil,(zam zbi (pv 0) (pv 1))⟩)) pa_nil))))
 (zac (zfM (pv 0) (pv 1) rfl)
 zad))),λp dx=>⟨([.ob true A.Rest p dx [("weights",dL (List.map dI (zaG (List.map (λ(x18:Int)=>(x18%P0)) P1)))),("rest",dI P0)],.va false (dI P0),.va false (dQ K (List.map dI P1))]:L2.Ctx),?_,rfl⟩⟩
 show L2.Run _ ([.ob true A.Rest p dx [],.va false (dI P0),.va false (dQ K (List.map dI P1))]:L2.Ctx) _ _
 exact (zbr (EvT.conv (zal (zaF (x:=P0) (y:=(2:Int)) (Ev.any (m:=false) (zaa (i:=1) rfl)) zaw)) (by exact zlF hp)) (zaj
 (zgx (m2:=false) (i:=0) (x:=(List.map (λ(x18:Int)=>(x18%P0)) P1)) rfl (zab (Ev.weak (K:=K) (EvO.ev (EvO.conv (zcg (g:=(λ(x18:Int)=>dI (x18%P0))) (zcB (m:=false) dI (xs:=P1) (zaa (i:=2) rfl)) (by exact zak (by have z:=hp.2;omega)) ⟨by decide,by decide⟩ (λi19 x18 hx20=>have v20:=List.mem_of_getElem? hx20;(zav (x:=x18) (y:=P0) (Ev.any (m:=false) (zaa (i:=0) rfl)) (Ev.any (m:=false) (zaa (i:=1) rfl)) (by show (0:Int)<_;have z:=hp.1;omega)))) (by first | (rw [List.map_map];rfl) | (simp only [cond_true,cond_false];rw [List.map_map];rfl))))) zaf) rfl (by show zaJ (List.map (λ(x18:Int)=>(x18%P0)) P1);exact trivial)
 (zdN (i:=0) rfl (Ev.any (m:=false) (zaa (i:=1) rfl)) T.Rest_cl T.Rest_rest ["weights"] rfl (by decide +kernel) (by decide)
 (zah (Wk.refl _))))))
theorem zlU {w x:List Int} (h:zaR w x):(!decide (((x.length:Nat):Int)=((w.length:Nat):Int)))=false:=by
 rw [decide_eq_true (by have:=h.1;omega)];rfl
def m_drawn (P0:(List Int)) (P1:(List Int)):Int :=
 (m_weighed P0 P1)
def zdi (P0:(List Int)) (P1:(List Int)):Prop:=zaR P0 P1
def zec (K:W.Frag) (A:Adr):Sp:=Spv (ι:=(List Int)×(List Int)) (λx=>[dQ K (List.map dI x.1),dQ K (List.map dI x.2)]) (λx=>zdi x.1 x.2) (λx=>.va true (dI (m_drawn x.1 x.2)))
theorem zil:FnScope ["weights","basket"] ["weights","basket"] (defScope zd0):=⟨rfl,rfl,rfl,by decide +kernel,rfl,by decide +kernel,by decide +kernel⟩
theorem zid (F:Fun K "drawn" "drawn" zd0 f fd) (T:Txt K mg A) (G_weighed:Callee P w K mg base (CXE P w) 2 "weighed" ["one","other"] (zdS K A)):FnOk P w K mg base (CXE P w) 3 f fd ["weights","basket"] (zec K A):=by
 refine F.okV zil (λ_=>rfl) (λcdv Ar outer s H E x hr hp=>?_)
 obtain ⟨P0,P1⟩:=x
 have hu:=hr.units
 replace hp:zdi P0 P1:=hp
 unfold zdi at hp
 refine ⟨_,(zac (zbx (zau ze7 (pe_callB (zaq (K:=K) rfl) rfl T.len PySem.boot_len (pa_cons (pv 1) pa_nil)) (pe_callB (zaq (K:=K) rfl) rfl T.len PySem.boot_len (pa_cons (pv 0) pa_nil)) (nomark _))
 (zac zdn zad)
 zad)
 (zac (zaE (pe_fn G_weighed (hr.mono (by decide)) rfl passE (pa_cons (pv 0) (pa_cons (pv 1) pa_nil))))
 zad)),.inl ?_⟩
 show L2.Run _ ([.va false (dQ K (List.map dI P0)),.va false (dQ K (List.map dI P1))]:L2.Ctx) _ ((λ(r:Int)=>Oc.rt true (dI r)) (m_drawn P0 P1))
 unfold m_drawn
 exact (zbr (EvT.conv (zal (zdM (x:=((P1.length:Nat):Int)) (y:=((P0.length:Nat):Int)) (zbj (f:=dI) (xs:=P1) (zaa (i:=1) rfl)) (zbj (f:=dI) (xs:=P0) (zaa (i:=0) rfl)))) (by exact zlU hp)) (zaj
 (zag (zax (Ev.any (m:=true) (zaA (x:=(P0,P1)) (zab (zaa (i:=0) rfl) (zab (zaa (i:=1) rfl) zaf)) rfl (by show zaR P0 P1;exact hp) rfl))))))
def zaQ (P0:LineD) (P1:(List Int)):Int :=
 (m_drawn P0.weights P1)
def zaT (P0:LineD) (P1:(List Int)):Prop:=zaR P0.weights P1
def zbp (K:W.Frag) (A:Adr):Sp:=Spv (ι:=LineD×(List Int)) (λx=>[zhV A.Line x.1,dQ K (List.map dI x.2)]) (λx=>zaT x.1 x.2) (λx=>.va true (dI (zaQ x.1 x.2)))
theorem zdx:FnScope ["self","basket"] ["self","basket"] (defScope zcG):=⟨rfl,rfl,rfl,by decide +kernel,rfl,by decide +kernel,by decide +kernel⟩
theorem zdA (F:Fun K "weigh" "Scale.weigh" zcG f fd) (T:Txt K mg A) (G_drawn:Callee P w K mg base (CXE P w) 3 "drawn" ["weights","basket"] (zec K A)):FnOk P w K mg base (CXE P w) 4 f fd ["self","basket"] (zbp K A):=by
 refine F.okV zdx (λ_=>rfl) (λcdv Ar outer s H E x hr hp=>?_)
 obtain ⟨P0,P1⟩:=x
 have hu:=hr.units
 replace hp:zaT P0 P1:=hp
 unfold zaT at hp
 refine ⟨_,(zac (zaE (pe_fn G_drawn (hr.mono (by decide)) rfl passE (pa_cons (zbw (K:=K) rfl (pv 0) rfl) (pa_cons (pv 1) pa_nil))))
 zad),.inl ?_⟩
 show L2.Run _ ([.va false (zhV A.Line P0),.va false (dQ K (List.map dI P1))]:L2.Ctx) _ ((λ(r:Int)=>Oc.rt true (dI r)) (zaQ P0 P1))
 unfold zaQ
 exact (zag (zax (Ev.any (m:=true) (zaA (x:=(P0.weights,P1)) (zab (Ev.weak (K:=K) (zdQ (zaa (i:=0) rfl) T.Line_cl T.Line_weights rfl)) (zab (zaa (i:=1) rfl) zaf)) rfl (by show zdi P0.weights P1;exact hp) rfl))))
def zb4 (P0:RestD) (P1:(List Int)):Int :=
 ((m_drawn P0.weights P1)%P0.rest)
def zb0 (P0:RestD) (P1:(List Int)):Prop:=zaR P0.weights P1∧0<P0.rest
def zcY (K:W.Frag) (A:Adr):Sp:=Spv (ι:=RestD×(List Int)) (λx=>[zgw A.Rest x.1,dQ K (List.map dI x.2)]) (λx=>zb0 x.1 x.2) (λx=>.va true (dI (zb4 x.1 x.2)))
theorem ze5:FnScope ["self","basket"] ["self","basket"] (defScope zbv):=⟨rfl,rfl,rfl,by decide +kernel,rfl,by decide +kernel,by decide +kernel⟩
theorem ze3 (F:Fun K "weigh" "Rest.weigh" zbv f fd) (T:Txt K mg A) (G_drawn:Callee P w K mg base (CXE P w) 3 "drawn" ["weights","basket"] (zec K A)):FnOk P w K mg base (CXE P w) 4 f fd ["self","basket"] (zcY K A):=by
 refine F.okV ze5 (λ_=>rfl) (λcdv Ar outer s H E x hr hp=>?_)
 obtain ⟨P0,P1⟩:=x
 have hu:=hr.units
 replace hp:zb0 P0 P1:=hp
 unfold zb0 at hp
 refine ⟨_,(zac (zaE (zam zbi (pe_fn G_drawn (hr.mono (by decide)) rfl passE (pa_cons (zbw (K:=K) rfl (pv 0) rfl) (pa_cons (pv 1) pa_nil))) (zbw (K:=K) rfl (pv 0) rfl)))
 zad),.inl ?_⟩
 show L2.Run _ ([.va false (zgw A.Rest P0),.va false (dQ K (List.map dI P1))]:L2.Ctx) _ ((λ(r:Int)=>Oc.rt true (dI r)) (zb4 P0 P1))
 unfold zb4
 exact (zag (zax (zav (x:=(m_drawn P0.weights P1)) (y:=P0.rest) (Ev.any (m:=true) (zaA (x:=(P0.weights,P1)) (zab (Ev.weak (K:=K) (zdQ (zaa (i:=0) rfl) T.Rest_cl T.Rest_weights rfl)) (zab (zaa (i:=1) rfl) zaf)) rfl (by show zdi P0.weights P1;exact hp.1) rfl)) (Ev.any (m:=false) (zdQ (zaa (i:=0) rfl) T.Rest_cl T.Rest_rest rfl)) (by show (0:Int)<_;exact hp.2))))
def za2 (P0:LineD) (P1:(List Int)):Bool :=
 (decide ((zaQ P0 P1)=(0:Int)))
def zaO (P0:LineD) (P1:(List Int)):Prop:=zaR P0.weights P1
def zaV (K:W.Frag) (A:Adr):Sp:=Spv (ι:=LineD×(List Int)) (λx=>[zhV A.Line x.1,dQ K (List.map dI x.2)]) (λx=>zaO x.1 x.2) (λx=>.va true (dB (za2 x.1 x.2)))
theorem zdu:FnScope ["self","basket"] ["self","basket"] (defScope zcD):=⟨rfl,rfl,rfl,by decide +kernel,rfl,by decide +kernel,by decide +kernel⟩
theorem zdt (F:Fun K "levels" "Scale.levels" zcD f fd) (T:Txt K mg A) (G_Scale_weigh_Line:CalleeM P w K mg base (CXE P w) 4 A.Line "weigh" ["self","basket"] (zbp K A)):FnOk P w K mg base (CXE P w) 5 f fd ["self","basket"] (zaV K A):=by
 refine F.okV zdu (λ_=>rfl) (λcdv Ar outer s H E x hr hp=>?_)
 obtain ⟨P0,P1⟩:=x
 have hu:=hr.units
 replace hp:zaO P0 P1:=hp
 unfold zaO at hp
 refine ⟨_,(zac (zaE (pe_cmpR op_eq (zgp (pv 0) T.Line_cl G_Scale_weigh_Line (hr.mono (by decide)) passE (pa_cons (pv 1) pa_nil)) zae (nomark _)))
 zad),.inl ?_⟩
 show L2.Run _ ([.va false (zhV A.Line P0),.va false (dQ K (List.map dI P1))]:L2.Ctx) _ ((λ(r:Bool)=>Oc.rt true (dB r)) (za2 P0 P1))
 unfold za2
 exact (zag (zax (zc3 (x:=(zaQ P0 P1)) (y:=(0:Int)) (Ev.any (m:=true) (ze2 (x:=(P0,P1)) (zaa (i:=0) rfl) (zab (zaa (i:=1) rfl) zaf) rfl (by show zaT P0 P1;exact hp) rfl rfl)) zaw)))
def zaZ (P0:RestD) (P1:(List Int)):Bool :=
 (decide ((zb4 P0 P1)=(0:Int)))
def zaP (P0:RestD) (P1:(List Int)):Prop:=zaR P0.weights P1∧0<P0.rest
def zaU (K:W.Frag) (A:Adr):Sp:=Spv (ι:=RestD×(List Int)) (λx=>[zgw A.Rest x.1,dQ K (List.map dI x.2)]) (λx=>zaP x.1 x.2) (λx=>.va true (dB (zaZ x.1 x.2)))
theorem zdq:FnScope ["self","basket"] ["self","basket"] (defScope zcx):=⟨rfl,rfl,rfl,by decide +kernel,rfl,by decide +kernel,by decide +kernel⟩
theorem zds (F:Fun K "levels" "Scale.levels" zcx f fd) (T:Txt K mg A) (G_Rest_weigh:CalleeM P w K mg base (CXE P w) 4 A.Rest "weigh" ["self","basket"] (zcY K A)):FnOk P w K mg base (CXE P w) 5 f fd ["self","basket"] (zaU K A):=by
 refine F.okV zdq (λ_=>rfl) (λcdv Ar outer s H E x hr hp=>?_)
 obtain ⟨P0,P1⟩:=x
 have hu:=hr.units
 replace hp:zaP P0 P1:=hp
 unfold zaP at hp
 refine ⟨_,(zac (zaE (pe_cmpR op_eq (zgp (pv 0) T.Rest_cl G_Rest_weigh (hr.mono (by decide)) passE (pa_cons (pv 1) pa_nil)) zae (nomark _)))
 zad),.inl ?_⟩
 show L2.Run _ ([.va false (zgw A.Rest P0),.va false (dQ K (List.map dI P1))]:L2.Ctx) _ ((λ(r:Bool)=>Oc.rt true (dB r)) (zaZ P0 P1))
 unfold zaZ
 exact (zag (zax (zc3 (x:=(zb4 P0 P1)) (y:=(0:Int)) (Ev.any (m:=true) (ze2 (x:=(P0,P1)) (zaa (i:=0) rfl) (zab (zaa (i:=1) rfl) zaf) rfl (by show zb0 P0 P1;exact hp) rfl rfl)) zaw)))
def za6 (x:LineD ⊕ RestD) (b0:(List Int)):Bool:=match x with | .inl l=>za2 l b0 | .inr r=>zaZ r b0
def zcV (x:LineD ⊕ RestD) (b0:(List Int)):Prop:=match x with | .inl l=>zaO l b0 | .inr r=>zaP r b0
theorem zfw {Γ:L2.Ctx} {E E1:XK} {ta:TE} {t:TA} {x:LineD ⊕ RestD} {b0:(List Int)} (h1:Ev Γ ta false (dSc A x)) (h:EvA Γ t false [dQ K (List.map dI b0)]) (hp:zcV x b0):Ev Γ (zlk (zhc A.Line "levels" (zaV K A) [] E ta t) (zhc A.Rest "levels" (zaU K A) [] E1 ta t)) true (dB (za6 x b0)):=by
 cases x with
 | inl l=>exact Ev.inl (ze2 (x:=(l,b0)) h1 h rfl hp rfl rfl)
 | inr r=>exact Ev.inr (ze2 (x:=(r,b0)) h1 h rfl hp rfl rfl)
def FxP (b:BookD) (s:LineD ⊕ RestD):Prop:=(scW s).length≤1000∧(s.isRight=true->0<(gR s).rest)∧∀ t∈b.swaps,(t.length:Int)=b.many∧∀ p∈List.zip (scW s) t,zel p.1 p.2
theorem zl7 {b:BookD} {s:LineD ⊕ RestD} {i:Nat} {p:Int×List Int} (hp:FxP b s) (h:(!decide ((((scW s).length:Nat):Int)=b.many))=false) (q:i<b.swaps.length∧p.1=(i:Int)∧b.swaps[i]?=some p.2):zcV s p.2:=by
 have hl:(((scW s).length:Nat):Int)=b.many:=by simpa using h
 obtain ⟨h1,h2,h3⟩:=hp
 obtain ⟨k1,k2⟩:=h3 _ (List.mem_of_getElem? q.2.2)
 cases s with
 | inl l=>exact ⟨show l.weights.length=p.2.length by have:((l.weights.length:Nat):Int)=b.many:=hl;omega,h1,k2⟩
 | inr r=>exact ⟨⟨show r.weights.length=p.2.length by have:((r.weights.length:Nat):Int)=b.many:=hl;omega,h1,k2⟩,h2 rfl⟩
def x_fair (P0:BookD) (P1:(LineD ⊕ RestD)):Except Xn (Option Int) :=
 (bif (!decide ((((scW P1).length:Nat):Int)=P0.many)) then (Except.error Xn.BadScale)
 else (zjt (loopR (λ(s23:Unit) (x24:(Int×(List Int)))=>(((bif (!(za6 P1 x24.2)) then (Sum.inr (some x24.1))
 else (Sum.inl ()))):(Unit) ⊕ (Option Int))) () (zdT P0.swaps)) (λ(r29:Unit) =>
 (Except.ok none)) (λb=>Except.ok b)))
def zdO (P0:BookD) (P1:(LineD ⊕ RestD)):Prop:=FxP P0 P1
def ze6 (K:W.Frag) (A:Adr):Sp:=Spv (ι:=BookD×(LineD ⊕ RestD)) (λx=>[zcd A.Book x.1,dSc A x.2]) (λx=>zdO x.1 x.2) (λx=>zln A.xc true (dOpt dI) (x_fair x.1 x.2))
theorem zfV:FnScope ["book","scale","place","swap"] ["book","scale"] (defScope zeO):=⟨rfl,rfl,rfl,by decide +kernel,rfl,by decide +kernel,by decide +kernel⟩
theorem zif (F:Fun K "fair" "fair" zeO f fd) (T:Txt K mg A) (G_Scale_levels_Line:CalleeM P w K mg base (CXE P w) 5 A.Line "levels" ["self","basket"] (zaV K A)) (G_Scale_levels_Rest:CalleeM P w K mg base (CXE P w) 5 A.Rest "levels" ["self","basket"] (zaU K A)):FnOk P w K mg base (CXE P w) 6 f fd ["book","scale"] (ze6 K A):=by
 refine F.okVX zfV (λ_=>rfl) (λcdv Ar outer s H E x hr hp O=>?_)
 obtain ⟨P0,P1⟩:=x
 have hu:=hr.units
 replace hp:zdO P0 P1:=hp
 unfold zdO at hp
 refine ⟨_,(zcT (zlG (zau ze7 (pe_callB (zaq (K:=K) rfl) rfl T.len PySem.boot_len (pa_cons (zbw (K:=K) rfl (pv 1) rfl) pa_nil)) (zbw (K:=K) rfl (pv 0) rfl) (nomark _))
 (zcT (ziO O rfl rfl T.xm_BadScale T.xi_BadScale PySem.F.excBase_ValueError (pa_cons zbl pa_nil))
 zfC)
 zfC)
 (zcT (zeo (zc2 PassesOwn.never rfl (zhi rfl rfl T.enumerate (pa_cons (zbw (K:=K) rfl (pv 0) rfl) pa_nil)) (zbh (K:=K) (n:=2) rfl rfl (zap (pg_name (i:=2) zfV.nd rfl (Or.inl rfl) (Or.inl rfl)) (zap (pg_name (i:=3) zfV.nd rfl (Or.inl rfl) (Or.inl rfl)) zbL)))
 (zac (zbx (zgj (zgr (zkp (zgp (pv 1) T.Line_cl G_Scale_levels_Line (hr.mono (by decide)) passE (pa_cons (pv 3) pa_nil)) (zgp (pv 1) T.Rest_cl G_Scale_levels_Rest (hr.mono (by decide)) passE (pa_cons (pv 3) pa_nil)))))
 (zac (zaE (pv 2))
 zad)
 zad)
 zad)))
 (zcT (zeo (zaE zd3))
 zfC))),.inl ?_⟩
 show L2.Run _ ([.va false (zcd A.Book P0),.va false (dSc A P1),.no,.no]:L2.Ctx) _ (zla 4 (zln A.xc true (dOpt dI) (x_fair P0 P1)))
 rw [zgR]
 show L2.Run _ _ _ ((foX A.xc ([.no,.no,.no,.no]:L2.Ctx) (λ(r:(Option Int))=>Oc.rt true (dOpt dI r))) (x_fair P0 P1))
 unfold x_fair
 exact (zaL (b:=(!decide ((((scW P1).length:Nat):Int)=P0.many))) (foX A.xc ([.no,.no,.no,.no]:L2.Ctx) (λ(r:(Option Int))=>Oc.rt true (dOpt dI r))) (zal (zdM (x:=(((scW P1).length:Nat):Int)) (y:=P0.many) (zbj (f:=dI) (xs:=(scW P1)) (Ev.weak (K:=K) (zf3 (cl:=scC A) (fs:=scF) (d:=λx=>dL (List.map dI (scW x))) zhu (zaa (i:=1) rfl) (λx=>match x with | .inl _=>⟨T.Line_cl,T.Line_weights⟩ | .inr _=>⟨T.Rest_cl,T.Rest_weights⟩) (λx=>match x with | .inl _=>rfl | .inr _=>rfl)))) (Ev.any (m:=false) (zdQ (zaa (i:=0) rfl) T.Book_cl T.Book_many rfl)))) (λh22=>(zai (zh5 (m:=false) (zab zaw zaf) (by show 1≤sizeLine;decide) (.no (.no (.eq (.eq .nil))))))) (λh22 =>
 (zaj (zee (s0:=()) (λ(s23:Unit)=>([.va false (zcd A.Book P0),.va false (dSc A P1),.no,.no]:L2.Ctx)) (foX A.xc ([.no,.no,.no,.no]:L2.Ctx) (λ(r:(Option Int))=>Oc.rt true (dOpt dI r))) (λb=>Except.ok b) (λ(s23:Unit) (x24:(Int×(List Int)))=>(((bif (!(za6 P1 x24.2)) then (Sum.inr (some x24.1))
 else (Sum.inl ()))):(Unit) ⊕ (Option Int))) (λ_ _=>True) (λb=>.inl ⟨_,_,rfl⟩) (zhg (m:=false) lI (xs:=P0.swaps) (Ev.weak (K:=K) (zdQ (zaa (i:=0) rfl) T.Book_cl T.Book_swaps rfl))) (.eq (.eq (.eq (.eq .nil)))) trivial (λi25 x24 s23 hx26 hI27=>have v26:=zda hx26;⟨(λ_ _=>trivial),
 (zaL (b:=(!(za6 P1 x24.2))) (zdR (λ(s23:Unit)=>([.va false (zcd A.Book P0),.va false (dSc A P1),.no,.no]:L2.Ctx)) (λb=>(foX A.xc ([.no,.no,.no,.no]:L2.Ctx) (λ(r:(Option Int))=>Oc.rt true (dOpt dI r))) (Except.ok b))) (ze1 (zeV (Ev.any (m:=true) (zfw (zaa (i:=1) rfl) (zab (Ev.weak (K:=K) (zaa (i:=3) rfl)) zaf) (by show zcV P1 x24.2;exact zl7 hp (by assumption) (by assumption)))))) (λh28=>(zai (zag (zax (Ev.any (m:=false) (zaa (i:=2) rfl)))))) (λh28 =>
 (zaj (zah (.eq (.eq (.no (.no .nil))))))))⟩) (λr29 hr29 hI =>
 (zag (zax zaw)))))))
def okJ {ε α:Type}:Except ε (Option α)->Option α
 | .ok v=>v
 | .error _=>none
theorem zgc {γ δ β:Type} {f:Unit->δ->Unit ⊕ β} {h:γ->δ}:∀ (l:List γ),loopR f () (l.map h)=loopR (λs x=>f s (h x)) () l
 | []=>rfl
 | x :: l=>by
  rw [List.map_cons]
  unfold loopR
  cases f () (h x) with
  | inl u=>exact zgc l
  | inr b=>rfl
theorem zfp {γ β:Type} {f g:Unit->γ->Unit ⊕ β}:∀ {l:List γ},(∀ x∈l,f () x=g () x)->loopR f () l=loopR g () l
 | [],_=>rfl
 | x :: l,h=>by
  unfold loopR
  rw [h x List.mem_cons_self]
  cases g () x with
  | inl u=>exact zfp λy hy=>h y (List.mem_cons_of_mem _ hy)
  | inr b=>rfl
theorem ziN {α:Type} {xs:List α}:(zdT xs).map Prod.fst=zb2 0 xs.length:=by
 unfold zdT
 exact List.map_fst_zip (by rw [zaD];exact Nat.le_refl _)
def m_law_whole (P0:Int):Bool :=
 (true&&(!false))
def zco (P0:Int):Prop:=True
def zdf (K:W.Frag) (A:Adr):Sp:=Spv (ι:=Int) (λx=>[dI x]) (λx=>zco x) (λx=>.va true (dB (m_law_whole x)))
theorem zfJ:FnScope ["_law_found"] ["_law_found"] (defScope zbI):=⟨rfl,rfl,rfl,by decide +kernel,rfl,by decide +kernel,by decide +kernel⟩
theorem zfh (F:Fun K "_law_whole" "_law_whole" zbI f fd) (T:Txt K mg A) :FnOk P w K mg base (CXE P w) 1 f fd ["_law_found"] (zdf K A):=by
 refine F.okV zfJ (λ_=>rfl) (λcdv Ar outer s H E P0 hr hp=>?_)
 have hu:=hr.units
 replace hp:zco P0:=hp
 unfold zco at hp
 refine ⟨_,(zac (zaE (zgX (pe_callB (call_isiB (K:=K) rfl) rfl T.isinstance PyProof.Rows.boot_isinstance (pa_cons (pv 0) (pa_cons (pe_bltn rfl T.int (v:=.ty "int") (u:=.type "int") (by decide +kernel) rfl) pa_nil))) (pe_one (pe_not (pe_callB (call_isiB (K:=K) rfl) rfl T.isinstance PyProof.Rows.boot_isinstance (pa_cons (pv 0) (pa_cons (pe_bltn rfl T.bool (v:=.ty "bool") (u:=.type "bool") (by decide +kernel) rfl) pa_nil)))))))
 zad),.inl ?_⟩
 show L2.Run _ ([.va false (dI P0)]:L2.Ctx) _ ((λ(r:Bool)=>Oc.rt true (dB r)) (m_law_whole P0))
 unfold m_law_whole
 exact (zag (zax (zhR (b:=true) (zhZ (λ_=>TyOf.int _) (Ev.any (m:=false) (zaa (i:=0) rfl)) T.kit_int_int) (λhb=>(zk5 (zhZ (λ_=>TyOf.int _) (Ev.any (m:=false) (zaa (i:=0) rfl)) T.kit_int_bool))))))
def m_law_flags (P0:(Option Xn)):(List Bool) :=
 (Let [(zbE zca P0),(zbE zb9 P0),(zbE zcA P0)] (λ(v30:(List Bool)) =>
 (Let (v30++[(zbE zbX P0),(zbE zbf P0),(zbE zbW P0)]) (λ(v31:(List Bool)) =>
 (Let (v31++[(zbE zbT P0),(zbE zbq P0),(zbE zbN P0)]) (λ(v32:(List Bool)) =>
 (Let (v32++[(zbE zbt P0),(zbE za3 P0),(zbE za5 P0)]) (λ(v33:(List Bool)) =>
 (Let (v33++[(zbE zbY P0),(zbE zbe P0),(zbE zct P0)]) (λ(v34:(List Bool)) =>
 (Let (v34++[(zbE zbs P0),(zbE zcs P0),(zbE zcu P0)]) (λ(v35:(List Bool)) =>
 (v35++[(zbE zcN P0)])))))))))))))
def zcq (P0:(Option Xn)):Prop:=True
def zdb (K:W.Frag) (A:Adr):Sp:=Spv (ι:=(Option Xn)) (λx=>[dOpt (λe=>dE (A.xc e)) x]) (λx=>zcq x) (λx=>.ow true (List.map dB (m_law_flags x)))
theorem za7:FnScope ["_law_caught","_law_flags_here"] ["_law_caught"] (defScope zbM):=⟨rfl,rfl,rfl,by decide +kernel,rfl,by decide +kernel,by decide +kernel⟩
theorem zfL (F:Fun K "_law_flags" "_law_flags" zbM f fd) (T:Txt K mg A) :FnOk P w K mg base (CXE P w) 1 f fd ["_law_caught"] (zdb K A):=by
 refine F.okV za7 (λ_=>rfl) (λcdv Ar outer s H E P0 hr hp=>?_)
 have hu:=hr.units
 replace hp:zcq P0:=hp
 unfold zcq at hp
 refine ⟨_,(zac (zao (i:=1) za7.nd rfl (Or.inl rfl) (zbH (pa_cons (pe_callB (call_isiB (K:=K) rfl) rfl T.isinstance PyProof.Rows.boot_isinstance (pa_cons (pv 0) (pa_cons (pe_glob (v:=.ref A.k_NotAlike) rfl T.k_NotAlike rfl) pa_nil))) (pa_cons (pe_callB (call_isiB (K:=K) rfl) rfl T.isinstance PyProof.Rows.boot_isinstance (pa_cons (pv 0) (pa_cons (pe_glob (v:=.ref A.k_BadWares) rfl T.k_BadWares rfl) pa_nil))) (pa_cons (pe_callB (call_isiB (K:=K) rfl) rfl T.isinstance PyProof.Rows.boot_isinstance (pa_cons (pv 0) (pa_cons (pe_glob (v:=.ref A.k_TooMany) rfl T.k_TooMany rfl) pa_nil))) pa_nil)))))
 (zac (zao (i:=1) za7.nd rfl (Or.inl rfl) (zam zcK (pv 1) (zbH (pa_cons (pe_callB (call_isiB (K:=K) rfl) rfl T.isinstance PyProof.Rows.boot_isinstance (pa_cons (pv 0) (pa_cons (pe_glob (v:=.ref A.k_BadSwap) rfl T.k_BadSwap rfl) pa_nil))) (pa_cons (pe_callB (call_isiB (K:=K) rfl) rfl T.isinstance PyProof.Rows.boot_isinstance (pa_cons (pv 0) (pa_cons (pe_glob (v:=.ref A.k_BadBasket) rfl T.k_BadBasket rfl) pa_nil))) (pa_cons (pe_callB (call_isiB (K:=K) rfl) rfl T.isinstance PyProof.Rows.boot_isinstance (pa_cons (pv 0) (pa_cons (pe_glob (v:=.ref A.k_BadRoad) rfl T.k_BadRoad rfl) pa_nil))) pa_nil))))))
 (zac (zao (i:=1) za7.nd rfl (Or.inl rfl) (zam zcK (pv 1) (zbH (pa_cons (pe_callB (call_isiB (K:=K) rfl) rfl T.isinstance PyProof.Rows.boot_isinstance (pa_cons (pv 0) (pa_cons (pe_glob (v:=.ref A.k_Endless) rfl T.k_Endless rfl) pa_nil))) (pa_cons (pe_callB (call_isiB (K:=K) rfl) rfl T.isinstance PyProof.Rows.boot_isinstance (pa_cons (pv 0) (pa_cons (pe_glob (v:=.ref A.k_TooGreat) rfl T.k_TooGreat rfl) pa_nil))) (pa_cons (pe_callB (call_isiB (K:=K) rfl) rfl T.isinstance PyProof.Rows.boot_isinstance (pa_cons (pv 0) (pa_cons (pe_glob (v:=.ref A.k_BadRest) rfl T.k_BadRest rfl) pa_nil))) pa_nil))))))
 (zac (zao (i:=1) za7.nd rfl (Or.inl rfl) (zam zcK (pv 1) (zbH (pa_cons (pe_callB (call_isiB (K:=K) rfl) rfl T.isinstance PyProof.Rows.boot_isinstance (pa_cons (pv 0) (pa_cons (pe_glob (v:=.ref A.k_BadScale) rfl T.k_BadScale rfl) pa_nil))) (pa_cons (pe_callB (call_isiB (K:=K) rfl) rfl T.isinstance PyProof.Rows.boot_isinstance (pa_cons (pv 0) (pa_cons (pe_glob (v:=.ref A.k_OtherWares) rfl T.k_OtherWares rfl) pa_nil))) (pa_cons (pe_callB (call_isiB (K:=K) rfl) rfl T.isinstance PyProof.Rows.boot_isinstance (pa_cons (pv 0) (pa_cons (pe_glob (v:=.ref A.k_BadBaskets) rfl T.k_BadBaskets rfl) pa_nil))) pa_nil))))))
 (zac (zao (i:=1) za7.nd rfl (Or.inl rfl) (zam zcK (pv 1) (zbH (pa_cons (pe_callB (call_isiB (K:=K) rfl) rfl T.isinstance PyProof.Rows.boot_isinstance (pa_cons (pv 0) (pa_cons (pe_glob (v:=.ref A.k_NotKept) rfl T.k_NotKept rfl) pa_nil))) (pa_cons (pe_callB (call_isiB (K:=K) rfl) rfl T.isinstance PyProof.Rows.boot_isinstance (pa_cons (pv 0) (pa_cons (pe_glob (v:=.ref A.k_OtherBook) rfl T.k_OtherBook rfl) pa_nil))) (pa_cons (pe_callB (call_isiB (K:=K) rfl) rfl T.isinstance PyProof.Rows.boot_isinstance (pa_cons (pv 0) (pa_cons (pe_glob (v:=.ref A.k_NoLine) rfl T.k_NoLine rfl) pa_nil))) pa_nil))))))
 (zac (zao (i:=1) za7.nd rfl (Or.inl rfl) (zam zcK (pv 1) (zbH (pa_cons (pe_callB (call_isiB (K:=K) rfl) rfl T.isinstance PyProof.Rows.boot_isinstance (pa_cons (pv 0) (pa_cons (pe_glob (v:=.ref A.k_BadNames) rfl T.k_BadNames rfl) pa_nil))) (pa_cons (pe_callB (call_isiB (K:=K) rfl) rfl T.isinstance PyProof.Rows.boot_isinstance (pa_cons (pv 0) (pa_cons (pe_glob (v:=.ref A.k_NoBook) rfl T.k_NoBook rfl) pa_nil))) (pa_cons (pe_callB (call_isiB (K:=K) rfl) rfl T.isinstance PyProof.Rows.boot_isinstance (pa_cons (pv 0) (pa_cons (pe_glob (v:=.ref A.k_NoName) rfl T.k_NoName rfl) pa_nil))) pa_nil))))))
 (zac (zaE (zam zcK (pv 1) (zbH (pa_cons (pe_callB (call_isiB (K:=K) rfl) rfl T.isinstance PyProof.Rows.boot_isinstance (pa_cons (pv 0) (pa_cons (pe_glob (v:=.ref A.k_NoSwap) rfl T.k_NoSwap rfl) pa_nil))) pa_nil))))
 zad))))))),.inl ?_⟩
 show L2.Run _ ([.va false (dOpt (λe=>dE (A.xc e)) P0),.no]:L2.Ctx) _ ((λr=>Oc.rl true (List.map dB r)) (m_law_flags P0))
 unfold m_law_flags
 exact (zan (m:=true) (x:=[(zbE zca P0),(zbE zb9 P0),(zbE zcA P0)]) (λ(xs:(List Bool))=>dL (List.map dB xs)) (λr=>Oc.rl true (List.map dB r)) (EvO.ev (zch (zab (za1 (xc:=A.xc) (x:=P0) (f:=zca) (zaa (i:=0) rfl) T.i0_NotAlike T.hx_NotAlike) (zab (za1 (xc:=A.xc) (x:=P0) (f:=zb9) (zaa (i:=0) rfl) T.i0_BadWares T.hx_BadWares) (zab (za1 (xc:=A.xc) (x:=P0) (f:=zcA) (zaa (i:=0) rfl) T.i0_TooMany T.hx_TooMany) zaf))) (by show 3≤sizeLine;decide))) (λv30 hv30 =>
 (zan (m:=true) (x:=(v30++[(zbE zbX P0),(zbE zbf P0),(zbE zbW P0)])) (λ(xs:(List Bool))=>dL (List.map dB xs)) (λr=>Oc.rl true (List.map dB r)) (EvO.ev (EvO.anyB (m:=true) (zbV (f:=dB) (xs:=v30) (ys:=[(zbE zbX P0),(zbE zbf P0),(zbE zbW P0)]) (zaa (i:=1) rfl) (EvO.ev (zch (zab (za1 (xc:=A.xc) (x:=P0) (f:=zbX) (zaa (i:=0) rfl) T.i0_BadSwap T.hx_BadSwap) (zab (za1 (xc:=A.xc) (x:=P0) (f:=zbf) (zaa (i:=0) rfl) T.i0_BadBasket T.hx_BadBasket) (zab (za1 (xc:=A.xc) (x:=P0) (f:=zbW) (zaa (i:=0) rfl) T.i0_BadRoad T.hx_BadRoad) zaf))) (by show 3≤sizeLine;decide))) (by apply zak;subst_vars;simp only [List.length_append,List.length_cons,List.length_nil,List.length_map];omega)))) (λv31 hv31 =>
 (zan (m:=true) (x:=(v31++[(zbE zbT P0),(zbE zbq P0),(zbE zbN P0)])) (λ(xs:(List Bool))=>dL (List.map dB xs)) (λr=>Oc.rl true (List.map dB r)) (EvO.ev (EvO.anyB (m:=true) (zbV (f:=dB) (xs:=v31) (ys:=[(zbE zbT P0),(zbE zbq P0),(zbE zbN P0)]) (zaa (i:=1) rfl) (EvO.ev (zch (zab (za1 (xc:=A.xc) (x:=P0) (f:=zbT) (zaa (i:=0) rfl) T.i0_Endless T.hx_Endless) (zab (za1 (xc:=A.xc) (x:=P0) (f:=zbq) (zaa (i:=0) rfl) T.i0_TooGreat T.hx_TooGreat) (zab (za1 (xc:=A.xc) (x:=P0) (f:=zbN) (zaa (i:=0) rfl) T.i0_BadRest T.hx_BadRest) zaf))) (by show 3≤sizeLine;decide))) (by apply zak;subst_vars;simp only [List.length_append,List.length_cons,List.length_nil,List.length_map];omega)))) (λv32 hv32 =>
 (zan (m:=true) (x:=(v32++[(zbE zbt P0),(zbE za3 P0),(zbE za5 P0)])) (λ(xs:(List Bool))=>dL (List.map dB xs)) (λr=>Oc.rl true (List.map dB r)) (EvO.ev (EvO.anyB (m:=true) (zbV (f:=dB) (xs:=v32) (ys:=[(zbE zbt P0),(zbE za3 P0),(zbE za5 P0)]) (zaa (i:=1) rfl) (EvO.ev (zch (zab (za1 (xc:=A.xc) (x:=P0) (f:=zbt) (zaa (i:=0) rfl) T.i0_BadScale T.hx_BadScale) (zab (za1 (xc:=A.xc) (x:=P0) (f:=za3) (zaa (i:=0) rfl) T.i0_OtherWares T.hx_OtherWares) (zab (za1 (xc:=A.xc) (x:=P0) (f:=za5) (zaa (i:=0) rfl) T.i0_BadBaskets T.hx_BadBaskets) zaf))) (by show 3≤sizeLine;decide))) (by apply zak;subst_vars;simp only [List.length_append,List.length_cons,List.length_nil,List.length_map];omega)))) (λv33 hv33 =>
 (zan (m:=true) (x:=(v33++[(zbE zbY P0),(zbE zbe P0),(zbE zct P0)])) (λ(xs:(List Bool))=>dL (List.map dB xs)) (λr=>Oc.rl true (List.map dB r)) (EvO.ev (EvO.anyB (m:=true) (zbV (f:=dB) (xs:=v33) (ys:=[(zbE zbY P0),(zbE zbe P0),(zbE zct P0)]) (zaa (i:=1) rfl) (EvO.ev (zch (zab (za1 (xc:=A.xc) (x:=P0) (f:=zbY) (zaa (i:=0) rfl) T.i0_NotKept T.hx_NotKept) (zab (za1 (xc:=A.xc) (x:=P0) (f:=zbe) (zaa (i:=0) rfl) T.i0_OtherBook T.hx_OtherBook) (zab (za1 (xc:=A.xc) (x:=P0) (f:=zct) (zaa (i:=0) rfl) T.i0_NoLine T.hx_NoLine) zaf))) (by show 3≤sizeLine;decide))) (by apply zak;subst_vars;simp only [List.length_append,List.length_cons,List.length_nil,List.length_map];omega)))) (λv34 hv34 =>
 (zan (m:=true) (x:=(v34++[(zbE zbs P0),(zbE zcs P0),(zbE zcu P0)])) (λ(xs:(List Bool))=>dL (List.map dB xs)) (λr=>Oc.rl true (List.map dB r)) (EvO.ev (EvO.anyB (m:=true) (zbV (f:=dB) (xs:=v34) (ys:=[(zbE zbs P0),(zbE zcs P0),(zbE zcu P0)]) (zaa (i:=1) rfl) (EvO.ev (zch (zab (za1 (xc:=A.xc) (x:=P0) (f:=zbs) (zaa (i:=0) rfl) T.i0_BadNames T.hx_BadNames) (zab (za1 (xc:=A.xc) (x:=P0) (f:=zcs) (zaa (i:=0) rfl) T.i0_NoBook T.hx_NoBook) (zab (za1 (xc:=A.xc) (x:=P0) (f:=zcu) (zaa (i:=0) rfl) T.i0_NoName T.hx_NoName) zaf))) (by show 3≤sizeLine;decide))) (by apply zak;subst_vars;simp only [List.length_append,List.length_cons,List.length_nil,List.length_map];omega)))) (λv35 hv35 =>
 (zeM (ziM (EvO.anyB (m:=true) (zbV (f:=dB) (xs:=v35) (ys:=[(zbE zcN P0)]) (zaa (i:=1) rfl) (EvO.ev (zch (zab (za1 (xc:=A.xc) (x:=P0) (f:=zcN) (zaa (i:=0) rfl) T.i0_NoSwap T.hx_NoSwap) zaf) (by show 1≤sizeLine;decide))) (by apply zak;subst_vars;simp only [List.length_append,List.length_cons,List.length_nil,List.length_map];omega)))))))))))))))))
def m_law_only (P0:(Option Xn)) (P1:Str):Bool :=
 (Let [("NotAlike":Str),("BadWares":Str),("TooMany":Str),("BadSwap":Str),("BadBasket":Str),("BadRoad":Str),("Endless":Str),("TooGreat":Str)] (λ(v36:(List Str)) =>
 (Let (v36++[("BadRest":Str),("BadScale":Str),("OtherWares":Str),("BadBaskets":Str),("NotKept":Str),("OtherBook":Str),("NoLine":Str)]) (λ(v37:(List Str)) =>
 (Let (v37++[("BadNames":Str),("NoBook":Str),("NoName":Str),("NoSwap":Str)]) (λ(v38:(List Str)) =>
 ((zbE zbk P0)&&(decide ((m_law_flags P0)=(List.map (λ(x39:Str)=>(decide (x39=P1))) v38))))))))))
def zcE (P0:(Option Xn)) (P1:Str):Prop:=True
def zdy (K:W.Frag) (A:Adr):Sp:=Spv (ι:=(Option Xn)×Str) (λx=>[dOpt (λe=>dE (A.xc e)) x.1,dS x.2]) (λx=>zcE x.1 x.2) (λx=>.va true (dB (m_law_only x.1 x.2)))
theorem zc0:FnScope ["_law_caught","_law_name","_law_names"] ["_law_caught","_law_name"] (defScope s_law_only):=⟨rfl,rfl,rfl,by decide +kernel,rfl,by decide +kernel,by decide +kernel⟩
theorem zfZ (F:Fun K "_law_only" "_law_only" s_law_only f fd) (T:Txt K mg A) (G_law_flags:Callee P w K mg base (CXE P w) 1 "_law_flags" ["_law_caught"] (zdb K A)):FnOk P w K mg base (CXE P w) 2 f fd ["_law_caught","_law_name"] (zdy K A):=by
 refine F.okV zc0 (λ_=>rfl) (λcdv Ar outer s H E x hr hp=>?_)
 obtain ⟨P0,P1⟩:=x
 have hu:=hr.units
 replace hp:zcE P0 P1:=hp
 unfold zcE at hp
 refine ⟨_,(zac (zao (i:=2) zc0.nd rfl (Or.inl rfl) (zbH (pa_cons zbl (pa_cons zbl (pa_cons zbl (pa_cons zbl (pa_cons zbl (pa_cons zbl (pa_cons zbl (pa_cons zbl pa_nil))))))))))
 (zac (zao (i:=2) zc0.nd rfl (Or.inl rfl) (zam zcK (pv 2) (zbH (pa_cons zbl (pa_cons zbl (pa_cons zbl (pa_cons zbl (pa_cons zbl (pa_cons zbl (pa_cons zbl pa_nil))))))))))
 (zac (zao (i:=2) zc0.nd rfl (Or.inl rfl) (zam zcK (pv 2) (zbH (pa_cons zbl (pa_cons zbl (pa_cons zbl (pa_cons zbl pa_nil)))))))
 (zac (zaE (zgX (pe_callB (call_isiB (K:=K) rfl) rfl T.isinstance PyProof.Rows.boot_isinstance (pa_cons (pv 0) (pa_cons (pe_bltn rfl T.ValueError (v:=.ty "ValueError") (u:=.type "ValueError") (by decide +kernel) rfl) pa_nil))) (pe_one (pe_cmpR (op_eq_K (K:=K) rfl hu) (pe_fn G_law_flags (hr.mono (by decide)) rfl passE (pa_cons (pv 0) pa_nil)) (pe_comp rfl (.of (osc:=(defScope s_law_only)) (N:=["_law_caught","_law_name","_law_names"]) (own:=["_law_other"]) (fvn:=["_law_name"]) (fv:=[1]) rfl rfl (by decide +kernel)) (pi_list_K (K:=K) rfl (pv 2)) (λ_ _ _ _ _=>⟨(pg_name (i:=0) (show (["_law_other","_law_name"]:List Str).Nodup by decide +kernel) rfl (Or.inl rfl) (Or.inr rfl)),pts_nil,(pe_cmpR op_eq (pv 0) (pv 1) (nomark _))⟩)) (nomark _)))))
 zad)))),.inl ?_⟩
 show L2.Run _ ([.va false (dOpt (λe=>dE (A.xc e)) P0),.va false (dS P1),.no]:L2.Ctx) _ ((λ(r:Bool)=>Oc.rt true (dB r)) (m_law_only P0 P1))
 unfold m_law_only
 exact (zan (m:=true) (x:=[("NotAlike":Str),("BadWares":Str),("TooMany":Str),("BadSwap":Str),("BadBasket":Str),("BadRoad":Str),("Endless":Str),("TooGreat":Str)]) (λ(xs:(List Str))=>dL (List.map dS xs)) (λ(r:Bool)=>Oc.rt true (dB r)) (EvO.ev (zch (zab zaw (zab zaw (zab zaw (zab zaw (zab zaw (zab zaw (zab zaw (zab zaw zaf)))))))) (by show 8≤sizeLine;decide))) (λv36 hv36 =>
 (zan (m:=true) (x:=(v36++[("BadRest":Str),("BadScale":Str),("OtherWares":Str),("BadBaskets":Str),("NotKept":Str),("OtherBook":Str),("NoLine":Str)])) (λ(xs:(List Str))=>dL (List.map dS xs)) (λ(r:Bool)=>Oc.rt true (dB r)) (EvO.ev (EvO.anyS (m:=true) (zbV (f:=dS) (xs:=v36) (ys:=[("BadRest":Str),("BadScale":Str),("OtherWares":Str),("BadBaskets":Str),("NotKept":Str),("OtherBook":Str),("NoLine":Str)]) (zaa (i:=2) rfl) (EvO.ev (zch (zab zaw (zab zaw (zab zaw (zab zaw (zab zaw (zab zaw (zab zaw zaf))))))) (by show 7≤sizeLine;decide))) (by apply zak;subst_vars;simp only [List.length_append,List.length_cons,List.length_nil,List.length_map];omega)))) (λv37 hv37 =>
 (zan (m:=true) (x:=(v37++[("BadNames":Str),("NoBook":Str),("NoName":Str),("NoSwap":Str)])) (λ(xs:(List Str))=>dL (List.map dS xs)) (λ(r:Bool)=>Oc.rt true (dB r)) (EvO.ev (EvO.anyS (m:=true) (zbV (f:=dS) (xs:=v37) (ys:=[("BadNames":Str),("NoBook":Str),("NoName":Str),("NoSwap":Str)]) (zaa (i:=2) rfl) (EvO.ev (zch (zab zaw (zab zaw (zab zaw (zab zaw zaf)))) (by show 4≤sizeLine;decide))) (by apply zak;subst_vars;simp only [List.length_append,List.length_cons,List.length_nil,List.length_map];omega)))) (λv38 hv38 =>
 (zag (zax (zhR (b:=(zbE zbk P0)) (ziJ (xc:=A.xc) (x:=P0) (f:=zbk) (zaa (i:=0) rfl) T.i0_ValueError T.hx_ValueError) (λhb=>(zfH (n:=0) (neg:=false) (xs:=(m_law_flags P0)) (ys:=(List.map (λ(x39:Str)=>(decide (x39=P1))) v38)) EqD.bool (Ev.weak (K:=K) (EvO.ev (EvO.anyB (m:=true) (zgo (x:=P0) (zab (zaa (i:=0) rfl) zaf) rfl (by show zcq P0;exact trivial) rfl)))) (Ev.weak (K:=K) (EvO.ev (EvO.conv (zcg (g:=(λ(x39:Str)=>dB (decide (x39=P1)))) (zcB (m:=true) dS (xs:=v38) (Ev.weak (K:=K) (zaa (i:=2) rfl))) (by apply zak;subst_vars;simp only [List.length_append,List.length_cons,List.length_nil,List.length_map];omega) ⟨by decide,by decide⟩ (λi40 x39 hx41=>have v41:=List.mem_of_getElem? hx41;(zj6 (x:=x39) (y:=P1) (Ev.any (m:=true) (zaa (i:=0) rfl)) (Ev.any (m:=false) (zaa (i:=1) rfl))))) (by first | (rw [List.map_map];rfl) | (simp only [cond_true,cond_false];rw [List.map_map];rfl))))))))))))))))
def m_law_cell (P0:(List Int)) (P1:Int):Int :=
 (bif (decide (P1<((P0.length:Nat):Int))) then ((ixD P0 P1)%(2147483647:Int))
 else (0:Int))
def zb7 (P0:(List Int)) (P1:Int):Prop:=0≤P1
def zdC (K:W.Frag) (A:Adr):Sp:=Spv (ι:=(List Int)×Int) (λx=>[dQ K (List.map dI x.1),dI x.2]) (λx=>zb7 x.1 x.2) (λx=>.va true (dI (m_law_cell x.1 x.2)))
theorem zf0:FnScope ["_law_script","_law_k"] ["_law_script","_law_k"] (defScope zcr):=⟨rfl,rfl,rfl,by decide +kernel,rfl,by decide +kernel,by decide +kernel⟩
theorem zf1 (F:Fun K "_law_cell" "_law_cell" zcr f fd) (T:Txt K mg A) :FnOk P w K mg base (CXE P w) 1 f fd ["_law_script","_law_k"] (zdC K A):=by
 refine F.okV zf0 (λ_=>rfl) (λcdv Ar outer s H E x hr hp=>?_)
 obtain ⟨P0,P1⟩:=x
 have hu:=hr.units
 replace hp:zb7 P0 P1:=hp
 unfold zb7 at hp
 refine ⟨_,(zac (zbx (zau zhr (pv 1) (pe_callB (zaq (K:=K) rfl) rfl T.len PySem.boot_len (pa_cons (pv 0) pa_nil)) (nomark _))
 (zac (zaE (zam zbi (zdr (zaH (K:=K) rfl) (pv 0) (pv 1) (λ_ _=>rfl)) zae))
 zad)
 zad)
 (zac (zaE zae)
 zad)),.inl ?_⟩
 show L2.Run _ ([.va false (dQ K (List.map dI P0)),.va false (dI P1)]:L2.Ctx) _ ((λ(r:Int)=>Oc.rt true (dI r)) (m_law_cell P0 P1))
 unfold m_law_cell
 exact (zaL (b:=(decide (P1<((P0.length:Nat):Int)))) (λ(r:Int)=>Oc.rt true (dI r)) (zal (zaF (x:=P1) (y:=((P0.length:Nat):Int)) (Ev.any (m:=false) (zaa (i:=1) rfl)) (zbj (f:=dI) (xs:=P0) (zaa (i:=0) rfl)))) (λh42=>(zai (zag (zax (zav (x:=(ixD P0 P1)) (y:=(2147483647:Int)) (Ev.any (m:=false) (zdP (f:=dI) (xs:=P0) (zaa (i:=0) rfl) (Ev.any (m:=false) (zaa (i:=1) rfl)) (by unfold InB;constructor<;>((try simp only [decide_eq_true_eq,decide_eq_false_iff_not,Bool.not_eq_true',Bool.not_eq_false',Bool.and_eq_true,Bool.or_eq_false_iff,Bool.or_eq_true,Bool.and_eq_false_iff,Bool.cond_eq_ite] at *)<;>omega)))) zaw (by decide)))))) (λh42 =>
 (zaj (zag (zax zaw)))))
theorem zjP {s:List Int} {i:Nat} {y:Int} (h:s.length≤i):(s++[y]).length≤i+1:=by simp;omega
theorem zj2 {s:List Int} {i n:Nat} {x lo:Int} (h:s.length≤i) (hx:i<n∧x=lo+(i:Int)) (hn:n≤400):s.length<PySem.sizeLine:=Nat.lt_of_le_of_lt (show _≤10000 by omega) (by decide)
def m_law_raw (P0:(List Int)) (P1:Int):Int :=
 (bif (decide (P1<((P0.length:Nat):Int))) then (ixD P0 P1)
 else (0:Int))
def zcz (P0:(List Int)) (P1:Int):Prop:=0≤P1
def zdZ (K:W.Frag) (A:Adr):Sp:=Spv (ι:=(List Int)×Int) (λx=>[dQ K (List.map dI x.1),dI x.2]) (λx=>zcz x.1 x.2) (λx=>.va true (dI (m_law_raw x.1 x.2)))
theorem zgJ:FnScope ["_law_script","_law_k"] ["_law_script","_law_k"] (defScope zcL):=⟨rfl,rfl,rfl,by decide +kernel,rfl,by decide +kernel,by decide +kernel⟩
theorem zgy (F:Fun K "_law_raw" "_law_raw" zcL f fd) (T:Txt K mg A) :FnOk P w K mg base (CXE P w) 1 f fd ["_law_script","_law_k"] (zdZ K A):=by
 refine F.okV zgJ (λ_=>rfl) (λcdv Ar outer s H E x hr hp=>?_)
 obtain ⟨P0,P1⟩:=x
 have hu:=hr.units
 replace hp:zcz P0 P1:=hp
 unfold zcz at hp
 refine ⟨_,(zac (zbx (zau zhr (pv 1) (pe_callB (zaq (K:=K) rfl) rfl T.len PySem.boot_len (pa_cons (pv 0) pa_nil)) (nomark _))
 (zac (zaE (zdr (zaH (K:=K) rfl) (pv 0) (pv 1) (λ_ _=>rfl)))
 zad)
 zad)
 (zac (zaE zae)
 zad)),.inl ?_⟩
 show L2.Run _ ([.va false (dQ K (List.map dI P0)),.va false (dI P1)]:L2.Ctx) _ ((λ(r:Int)=>Oc.rt true (dI r)) (m_law_raw P0 P1))
 unfold m_law_raw
 exact (zaL (b:=(decide (P1<((P0.length:Nat):Int)))) (λ(r:Int)=>Oc.rt true (dI r)) (zal (zaF (x:=P1) (y:=((P0.length:Nat):Int)) (Ev.any (m:=false) (zaa (i:=1) rfl)) (zbj (f:=dI) (xs:=P0) (zaa (i:=0) rfl)))) (λh43=>(zai (zag (zax (Ev.any (m:=false) (zdP (f:=dI) (xs:=P0) (zaa (i:=0) rfl) (Ev.any (m:=false) (zaa (i:=1) rfl)) (by unfold InB;simp only [decide_eq_true_eq] at *;omega))))))) (λh43 =>
 (zaj (zag (zax zaw)))))
def m_law_thing (P0:Int) (P1:Int) (P2:Int):Int :=
 (Let (P0/(2147483647:Int)) (λ(v44:Int) =>
 (bif (decide ((v44%(2:Int))=(1:Int))) then (Let (v44/(2:Int)) (λ(v46:Int) =>
 (Let (List.foldl (λ(s47:Int) (x48:Int)=>(Let (s47/(60:Int)) (λ(v52:Int) =>
 v52))) v46 (zb2 0 P1.toNat)) (λ(r53:Int) =>
 ((r53%(60:Int))%P2)))))
 else (Let (((((P0%(2147483647:Int))*(48271:Int))+(((69621:Int)*P1)*P1))+((7:Int)*P1))%(2147483629:Int)) (λ(v54:Int) =>
 (Let ((v54*v54)%(2147483587:Int)) (λ(v55:Int) =>
 (((v55*(v55+(48271:Int)))%(2147483563:Int))%P2))))))))
def zar (P0:Int) (P1:Int) (P2:Int):Prop:=0≤P1∧P1≤1000∧0<P2
def zbu (K:W.Frag) (A:Adr):Sp:=Spv (ι:=Int×Int×Int) (λx=>[dI x.1,dI x.2.1,dI x.2.2]) (λx=>zar x.1 x.2.1 x.2.2) (λx=>.va true (dI (m_law_thing x.1 x.2.1 x.2.2)))
theorem za9:FnScope ["_law_cell_here","_law_k","_law_many","_law_free","_law_step","_law_number"] ["_law_cell_here","_law_k","_law_many"] (defScope zbQ):=⟨rfl,rfl,rfl,by decide +kernel,rfl,by decide +kernel,by decide +kernel⟩
theorem zfd (F:Fun K "_law_thing" "_law_thing" zbQ f fd) (T:Txt K mg A) :FnOk P w K mg base (CXE P w) 1 f fd ["_law_cell_here","_law_k","_law_many"] (zbu K A):=by
 refine F.okV za9 (λ_=>rfl) (λcdv Ar outer s H E x hr hp=>?_)
 obtain ⟨P0,P1,P2⟩:=x
 have hu:=hr.units
 replace hp:zar P0 P1 P2:=hp
 unfold zar at hp
 refine ⟨_,(zac (zao (i:=3) za9.nd rfl (Or.inl rfl) (zam zcl (pv 0) zae))
 (zac (zbx (zau op_eq (zam zbi (pv 3) zae) zae (nomark _))
 (zac (zao (i:=3) za9.nd rfl (Or.inl rfl) (zam zcl (pv 3) zae))
 (zac (zc2 PassesOwn.never rfl (zbA rfl T.range (pa_cons (pv 1) pa_nil)) (pg_name (i:=4) za9.nd rfl (Or.inl rfl) (Or.inl rfl))
 (zac (zao (i:=3) za9.nd rfl (Or.inl rfl) (zam zcl (pv 3) zae))
 zad))
 (zac (zaE (zam zbi (zam zbi (pv 3) zae) (pv 2)))
 zad)))
 zad)
 (zac (zao (i:=5) za9.nd rfl (Or.inl rfl) (zam zbi (zam zb8 (zam zb8 (zam zbK (zam zbi (pv 0) zae) zae) (zam zbK (zam zbK zae (pv 1)) (pv 1))) (zam zbK zae (pv 1))) zae))
 (zac (zao (i:=5) za9.nd rfl (Or.inl rfl) (zam zbi (zam zbK (pv 5) (pv 5)) zae))
 (zac (zaE (zam zbi (zam zbi (zam zbK (pv 5) (zam zb8 (pv 5) zae)) zae) (pv 2)))
 zad))))),.inl ?_⟩
 show L2.Run _ ([.va false (dI P0),.va false (dI P1),.va false (dI P2),.no,.no,.no]:L2.Ctx) _ ((λ(r:Int)=>Oc.rt true (dI r)) (m_law_thing P0 P1 P2))
 unfold m_law_thing
 exact (zan (m:=true) (x:=(P0/(2147483647:Int))) dI (λ(r:Int)=>Oc.rt true (dI r)) (zav (x:=P0) (y:=(2147483647:Int)) (Ev.any (m:=false) (zaa (i:=0) rfl)) zaw (by exact ⟨by decide,by decide⟩)) (λv44 hv44 =>
 (zaL (b:=(decide ((v44%(2:Int))=(1:Int)))) (λ(r:Int)=>Oc.rt true (dI r)) (zal (zc3 (x:=(v44%(2:Int))) (y:=(1:Int)) (zav (x:=v44) (y:=(2:Int)) (Ev.any (m:=true) (zaa (i:=3) rfl)) zaw (by decide)) zaw)) (λh45=>(zai (zan (m:=true) (x:=(v44/(2:Int))) dI (λ(r:Int)=>Oc.rt true (dI r)) (zav (x:=v44) (y:=(2:Int)) (Ev.any (m:=true) (zaa (i:=3) rfl)) zaw (by exact ⟨by decide,by decide⟩)) (λv46 hv46 =>
 (zai (zcU (s0:=v46) (λ(s47:Int)=>([.va false (dI P0),.va false (dI P1),.va false (dI P2),.va true (dI s47),.no,.no]:L2.Ctx)) (λ(r:Int)=>Oc.rt true (dI r)) (λ(s47:Int) (x48:Int)=>(Let (s47/(60:Int)) (λ(v52:Int) =>
 v52))) (λ_ _=>True) (zcZ (m:=true) (n:=P1) (Ev.any (m:=false) (zaa (i:=1) rfl)) (by refine ⟨?_,?_⟩<;>omega)) (.eq (.eq (.eq (.eq (.eq (.eq .nil)))))) trivial (λi49 x48 s47 hx50 hI51=>have v50:=zbm hx50;⟨trivial,
 (zan (m:=true) (x:=(s47/(60:Int))) dI (λz=>Oc.nx ((λ(s47:Int)=>([.va false (dI P0),.va false (dI P1),.va false (dI P2),.va true (dI s47),.no,.no]:L2.Ctx)) z)) (zav (x:=s47) (y:=(60:Int)) (Ev.any (m:=true) (zaa (i:=3) rfl)) zaw (by exact ⟨by decide,by decide⟩)) (λv52 hv52 =>
 (zah (.eq (.eq (.eq (.eq (.no (.eq .nil)))))))))⟩) (λr53 hr53 hI =>
 (zai (zag (zax (zav (x:=(r53%(60:Int))) (y:=P2) (zav (x:=r53) (y:=(60:Int)) (Ev.any (m:=true) (zaa (i:=3) rfl)) zaw (by decide)) (Ev.any (m:=false) (zaa (i:=2) rfl)) (by exact hp.2.2)))))))))))) (λh45 =>
 (zaj (zan (m:=true) (x:=(((((P0%(2147483647:Int))*(48271:Int))+(((69621:Int)*P1)*P1))+((7:Int)*P1))%(2147483629:Int))) dI (λ(r:Int)=>Oc.rt true (dI r)) (zav (x:=((((P0%(2147483647:Int))*(48271:Int))+(((69621:Int)*P1)*P1))+((7:Int)*P1))) (y:=(2147483629:Int)) (zaF (x:=(((P0%(2147483647:Int))*(48271:Int))+(((69621:Int)*P1)*P1))) (y:=((7:Int)*P1)) (zaF (x:=((P0%(2147483647:Int))*(48271:Int))) (y:=(((69621:Int)*P1)*P1)) (zav (x:=(P0%(2147483647:Int))) (y:=(48271:Int)) (zav (x:=P0) (y:=(2147483647:Int)) (Ev.any (m:=false) (zaa (i:=0) rfl)) zaw (by decide)) zaw (by exact .inl ⟨by omega,by omega⟩)) (zav (x:=((69621:Int)*P1)) (y:=P1) (zav (x:=(69621:Int)) (y:=P1) zaw (Ev.any (m:=false) (zaa (i:=1) rfl)) (by exact .inl ⟨by omega,by omega⟩)) (Ev.any (m:=false) (zaa (i:=1) rfl)) (by exact .inl ⟨by omega,by omega⟩))) (zav (x:=(7:Int)) (y:=P1) zaw (Ev.any (m:=false) (zaa (i:=1) rfl)) (by exact .inl ⟨by omega,by omega⟩))) zaw (by decide)) (λv54 hv54 =>
 have hNnumber54:=hv54;(zan (m:=true) (x:=((v54*v54)%(2147483587:Int))) dI (λ(r:Int)=>Oc.rt true (dI r)) (zav (x:=(v54*v54)) (y:=(2147483587:Int)) (zav (x:=v54) (y:=v54) (Ev.any (m:=true) (zaa (i:=5) rfl)) (Ev.any (m:=true) (zaa (i:=5) rfl)) (by exact .inl ⟨by omega,by omega⟩)) zaw (by decide)) (λv55 hv55 =>
 have hNnumber55:=hv55;(zag (zax (zav (x:=((v55*(v55+(48271:Int)))%(2147483563:Int))) (y:=P2) (zav (x:=(v55*(v55+(48271:Int)))) (y:=(2147483563:Int)) (zav (x:=v55) (y:=(v55+(48271:Int))) (Ev.any (m:=true) (zaa (i:=5) rfl)) (zaF (x:=v55) (y:=(48271:Int)) (Ev.any (m:=true) (zaa (i:=5) rfl)) zaw) (by exact .inl ⟨by omega,by omega⟩)) zaw (by decide)) (Ev.any (m:=false) (zaa (i:=2) rfl)) (by exact hp.2.2)))))))))))))
theorem zcj {c k m:Int} (hm:0<m):0≤m_law_thing c k m∧m_law_thing c k m<m:=by
 unfold m_law_thing Let
 dsimp only
 have key:∀ b:Bool,∀ x y:Int,0≤(bif b then x%m else y%m)∧(bif b then x%m else y%m)<m:=λb x y=>by
  cases b
  ·exact ⟨Int.emod_nonneg y (by omega),Int.emod_lt_of_pos y hm⟩
  ·exact ⟨Int.emod_nonneg x (by omega),Int.emod_lt_of_pos x hm⟩
 exact key _ _ _
def Sq (w:Nat) (n:Nat) (rows:List (List Int)):Prop:=rows.length=n∧∀ r∈rows,r.length=w
def FrI (w:Nat) (s:List (List Int)×List (List Int)):Prop:=Sq w w s.1∧Sq w w s.2
theorem zhb {w n:Nat} {rows:List (List Int)} {i:Int} {y:List Int} (h:Sq w n rows) (hy:y.length=w):Sq w n (setZ rows i y):=⟨by rw [zdL];exact h.1,λr hr=>by
 rcases Lat.setZ_mem hr with rfl | hr
 ·exact hy
 ·exact h.2 r hr⟩
theorem zg2 {w n:Nat} {b:Bool} {rows ys:List (List Int)} (h:Sq w n rows) (k:Sq w n ys):Sq w n (bif b then ys else rows):=by cases b<;>assumption
theorem sq_ix {w n:Nat} {rows:List (List Int)} {x:Int} (h:Sq w n rows) (h0:0≤x) (h1:x<(n:Int)):InB rows.length x:=by rw [h.1];unfold InB;omega
theorem zhK {w n:Nat} {rows:List (List Int)} {x:Int} (h:Sq w n rows) (h0:0≤x) (h1:x<(n:Int)):(ixD rows x).length=w:=h.2 _ (zcR (sq_ix h h0 h1))
theorem zkU {α:Type} {w n:Nat} {xs:List α} {f:α->List Int} (h:xs.length=n) (k:∀ x,(f x).length=w):Sq w n (List.map f xs):=⟨by rw [List.length_map];exact h,λr hr=>by obtain ⟨x,_,rfl⟩:=List.mem_map.mp hr;exact k x⟩
theorem sq_zip {w n m:Nat} {rows ys:List (List Int)} {x y:Int} {f:Int×Int->Int} (h:Sq w n rows) (k:Sq w m ys) (h0:0≤x∧x<(n:Int)) (h1:0≤y∧y<(m:Int)):(List.map f (List.zip (ixD rows x) (ixD ys y))).length=w:=by
 rw [List.length_map,List.length_zip,zhK h h0.1 h0.2,zhK k h1.1 h1.2];omega
theorem zg6 {w n m:Nat} {rows ys:List (List Int)} {x y:Int} (h:Sq w n rows) (h0:0≤x∧x<(n:Int)) (hw:w≤1000):(List.zip (ixD rows x) (ixD ys y)).length≤PySem.sizeLine:=zak (by rw [List.length_zip,zhK h h0.1 h0.2];omega)
theorem zjh {W:Nat} {s:List (List Int)×List (List Int)} {x y:Int} (h:FrI W s) (hx:0≤x∧x<(W:Int)) (hw:W≤8):(List.zip (ixD s.1 x) (ixD s.1 y)).length≤PySem.sizeLine:=zg6 (ys:=s.1) (m:=0) h.1 hx (by omega)
theorem zjE {W:Nat} {s:List (List Int)×List (List Int)} {x y:Int} (h:FrI W s) (hx:0≤x∧x<(W:Int)) (hw:W≤8):(List.zip (ixD s.2 x) (ixD s.2 y)).length≤PySem.sizeLine:=zg6 (ys:=s.2) (m:=0) h.2 hx (by omega)
theorem ziP {w:Int} {W:Nat} {a b:List (List Int)} (hw:w=(W:Int)) (ha:a=List.map (λ(x:Int)=>List.map (λ(y:Int)=>(if (decide (y=x)) then (1:Int) else 0)) (zb2 0 w.toNat)) (zb2 0 w.toNat)) (hb:b=List.map (λ(x:List Int)=>x) a):FrI W (a,b):=by
 have h1:Sq W W a:=by
  subst ha
  exact zkU (by rw [zaD];omega) λx=>by rw [List.length_map,zaD];omega
 exact ⟨h1,by subst hb;rw [List.map_id'];exact h1⟩
theorem zjF {W:Nat} {s:List (List Int)×List (List Int)} {b:Bool} {x y q:Int} (h:FrI W s) (hx:0≤x∧x<(W:Int)) (hy:0≤y∧y<(W:Int)):FrI W (bif b then (setZ s.1 y (List.map (λ(z:Int×Int)=>(z.1+(q*z.2))) (List.zip (ixD s.1 y) (ixD s.1 x)))) else s.1,bif b then (setZ s.2 x (List.map (λ(z:Int×Int)=>(z.1-(q*z.2))) (List.zip (ixD s.2 x) (ixD s.2 y)))) else s.2) :=
 ⟨zg2 h.1 (zhb h.1 (sq_zip h.1 h.1 hy hx)),zg2 h.2 (zhb h.2 (sq_zip h.2 h.2 hx hy))⟩
theorem zdk {c k w x:Int} {W:Nat} (hw:w=(W:Int)) (h1:1≤w) (e:x=m_law_thing c k w):0≤x∧x<(W:Int):=by
 subst e;have:=zcj (c:=c) (k:=k) (m:=w) (by omega);omega
theorem zgk {c k x:Int} (e:x=m_law_thing c k (5:Int)-(2:Int)):-2≤x∧x≤2:=by
 subst e;have:=zcj (c:=c) (k:=k) (m:=5) (by decide);omega
theorem zjs {c k x:Int} (e:x=m_law_thing c k (7:Int)):InB 7 x:=by
 subst e;have:=zcj (c:=c) (k:=k) (m:=7) (by decide);unfold InB;omega
def m_law_frame (P0:Int) (P1:(List Int)):((List (List Int))×(List (List Int))) :=
 (Let (List.map (λ(x56:Int)=>(List.map (λ(x59:Int)=>(if (decide (x59=x56)) then 1 else 0)) (zb2 0 P0.toNat))) (zb2 0 P0.toNat)) (λ(v62:(List (List Int))) =>
 (Let (List.map (λ(x63:(List Int))=>x63) v62) (λ(v66:(List (List Int))) =>
 (Let (List.foldl (λ(s67:(List (List Int))×(List (List Int))) (x68:Int)=>(Let (m_law_thing x68 (1:Int) P0) (λ(v72:Int) =>
 (Let (m_law_thing x68 (2:Int) P0) (λ(v73:Int) =>
 (Let ((m_law_thing x68 (3:Int) (5:Int))-(2:Int)) (λ(v74:Int) =>
 (Let (bif (!decide (v72=v73)) then (setZ s67.1 v73 (List.map (λ(x76:(Int×Int))=>(x76.1+(v74*x76.2))) (List.zip (ixD s67.1 v73) (ixD s67.1 v72)))) else s67.1) (λ(v82:(List (List Int))) =>
 (Let (bif (!decide (v72=v73)) then (setZ s67.2 v72 (List.map (λ(x79:(Int×Int))=>(x79.1-(v74*x79.2))) (List.zip (ixD s67.2 v72) (ixD s67.2 v73)))) else s67.2) (λ(v83:(List (List Int))) =>
 (v82,v83)))))))))))) (v62,v66) P1) (λ(r84:(List (List Int))×(List (List Int))) =>
 (r84.1,r84.2)))))))
def zci (P0:Int) (P1:(List Int)):Prop:=1≤P0∧P0≤8
def zdd (K:W.Frag) (A:Adr):Sp:=Spv (ι:=Int×(List Int)) (λx=>[dI x.1,dQ K (List.map dI x.2)]) (λx=>zci x.1 x.2) (λx=>.va true (dT [dL (List.map lI ((m_law_frame x.1 x.2).1)),dL (List.map lI ((m_law_frame x.1 x.2).2))]))
theorem zba:FnScope ["_law_wide","_law_cells","_law_rows","_law_duals","_law_cell_here","_law_one","_law_two","_law_many"] ["_law_wide","_law_cells"] (defScope zaS):=⟨rfl,rfl,rfl,by decide +kernel,rfl,by decide +kernel,by decide +kernel⟩
theorem zfA (F:Fun K "_law_frame" "_law_frame" zaS f fd) (T:Txt K mg A) (G_law_thing:Callee P w K mg base (CXE P w) 1 "_law_thing" ["_law_cell_here","_law_k","_law_many"] (zbu K A)):FnOk P w K mg base (CXE P w) 2 f fd ["_law_wide","_law_cells"] (zdd K A):=by
 refine F.okV zba (λ_=>rfl) (λcdv Ar outer s H E x hr hp=>?_)
 obtain ⟨P0,P1⟩:=x
 have hu:=hr.units
 replace hp:zci P0 P1:=hp
 unfold zci at hp
 obtain ⟨W,hW⟩:∃ W:Nat,P0=(W:Int):=⟨P0.toNat,by omega⟩
 refine ⟨_,(zac (zeU (i:=2) rfl zba.nd rfl rfl (.of (osc:=(defScope zaS)) (N:=["_law_wide","_law_cells","_law_rows","_law_duals","_law_cell_here","_law_one","_law_two","_law_many"]) (own:=["_law_k"]) (fvn:=["_law_wide"]) (fv:=[0]) rfl rfl (by decide +kernel)) (zbA rfl T.range (pa_cons (pv 0) pa_nil)) (λ_ _ _ _ _=>⟨(pg_name (i:=0) (show (["_law_k","_law_wide"]:List Str).Nodup by decide +kernel) rfl (Or.inr rfl) (Or.inl rfl)),pts_nil,(pe_comp rfl (.of (osc:=({ kind:=.function,names:=[(".0",.local),("_law_k",.cell),("range",.globalImplicit),("_law_wide",.cell)],isGenerator:=false,isCoroutine:=false }:Scope)) (N:=["_law_k","_law_wide"]) (own:=["_law_j"]) (fvn:=["_law_k"]) (fv:=[0]) rfl rfl (by decide +kernel)) (zbA rfl T.range (pa_cons (pv 1) pa_nil)) (λ_ _ _ _ _=>⟨(pg_name (i:=0) (show (["_law_j","_law_k"]:List Str).Nodup by decide +kernel) rfl (Or.inl rfl) (Or.inr rfl)),pts_nil,(zb3 zfy rfl T.int (by decide +kernel) (pa_cons (pe_cmpR op_eq (pv 0) (pv 1) (nomark _)) pa_nil))⟩))⟩))
 (zac (zeU (i:=3) rfl zba.nd rfl rfl (.of (osc:=(defScope zaS)) (N:=["_law_wide","_law_cells","_law_rows","_law_duals","_law_cell_here","_law_one","_law_two","_law_many"]) (own:=["_law_row"]) (fvn:=[]) (fv:=[]) rfl rfl (by decide +kernel)) (pi_list_K (K:=K) rfl (pv 2)) (λ_ _ _ _ _=>⟨(pg_name (i:=0) (show (["_law_row"]:List Str).Nodup by decide +kernel) rfl (Or.inl rfl) (Or.inr rfl)),pts_nil,(zb3 (zbO (K:=K) rfl) rfl T.list PyProof.Rows.boot_list (pa_cons (pv 0) pa_nil))⟩))
 (zac (zc2 PassesOwn.never rfl (pi_list_K (K:=K) rfl (pv 1)) (pg_name (i:=4) zba.nd rfl (Or.inl rfl) (Or.inl rfl))
 (zac (zao (i:=5) zba.nd rfl (Or.inl rfl) (pe_fn G_law_thing (hr.mono (by decide)) rfl passE (pa_cons (pv 4) (pa_cons zae (pa_cons (pv 0) pa_nil)))))
 (zac (zao (i:=6) zba.nd rfl (Or.inl rfl) (pe_fn G_law_thing (hr.mono (by decide)) rfl passE (pa_cons (pv 4) (pa_cons zae (pa_cons (pv 0) pa_nil)))))
 (zac (zao (i:=7) zba.nd rfl (Or.inr rfl) (zam zgd (pe_fn G_law_thing (hr.mono (by decide)) rfl passE (pa_cons (pv 4) (pa_cons zae (pa_cons zae pa_nil)))) zae))
 (zac (zbx (zau ze7 (pv 5) (pv 6) (nomark _))
 (zac (zdv (pe_comp rfl (.of (osc:=(defScope zaS)) (N:=["_law_wide","_law_cells","_law_rows","_law_duals","_law_cell_here","_law_one","_law_two","_law_many"]) (own:=["_law_a","_law_b"]) (fvn:=["_law_many"]) (fv:=[7]) rfl rfl (by decide +kernel)) (zdp (K:=K) rfl rfl T.zip (pa_cons (zdr (zaH (K:=K) rfl) (pv 2) (pv 6) (λ_ _=>rfl)) (pa_cons (zdr (zaH (K:=K) rfl) (pv 2) (pv 5) (λ_ _=>rfl)) pa_nil))) (λ_ _ _ _ _=>⟨(zbh (K:=K) (n:=2) rfl rfl (zap (pg_name (i:=0) (show (["_law_a","_law_b","_law_many"]:List Str).Nodup by decide +kernel) rfl (Or.inl rfl) (Or.inr rfl)) (zap (pg_name (i:=1) (show (["_law_a","_law_b","_law_many"]:List Str).Nodup by decide +kernel) rfl (Or.inl rfl) (Or.inr rfl)) zbL))),pts_nil,(zam zb8 (pv 0) (zam zbK (pv 2) (pv 1)))⟩)) (zfD (pv 2) (pv 6) set_list))
 (zac (zdv (pe_comp rfl (.of (osc:=(defScope zaS)) (N:=["_law_wide","_law_cells","_law_rows","_law_duals","_law_cell_here","_law_one","_law_two","_law_many"]) (own:=["_law_a","_law_b"]) (fvn:=["_law_many"]) (fv:=[7]) rfl rfl (by decide +kernel)) (zdp (K:=K) rfl rfl T.zip (pa_cons (zdr (zaH (K:=K) rfl) (pv 3) (pv 5) (λ_ _=>rfl)) (pa_cons (zdr (zaH (K:=K) rfl) (pv 3) (pv 6) (λ_ _=>rfl)) pa_nil))) (λ_ _ _ _ _=>⟨(zbh (K:=K) (n:=2) rfl rfl (zap (pg_name (i:=0) (show (["_law_a","_law_b","_law_many"]:List Str).Nodup by decide +kernel) rfl (Or.inl rfl) (Or.inr rfl)) (zap (pg_name (i:=1) (show (["_law_a","_law_b","_law_many"]:List Str).Nodup by decide +kernel) rfl (Or.inl rfl) (Or.inr rfl)) zbL))),pts_nil,(zam zgd (pv 0) (zam zbK (pv 2) (pv 1)))⟩)) (zfD (pv 3) (pv 5) set_list))
 zad))
 zad)
 zad)))))
 (zac (zaE (zeL (pa_cons (pv 2) (pa_cons (pv 3) pa_nil))))
 zad)))),.inl ?_⟩
 show L2.Run _ ([.va false (dI P0),.va false (dQ K (List.map dI P1)),.no,.no,.no,.no,.no,.no]:L2.Ctx) _ ((λ(r:((List (List Int))×(List (List Int))))=>Oc.rt true (dT [dL (List.map lI r.1),dL (List.map lI r.2)])) (m_law_frame P0 P1))
 unfold m_law_frame
 exact (run_letO (m:=true) (x:=(List.map (λ(x56:Int)=>(List.map (λ(x59:Int)=>(if (decide (x59=x56)) then 1 else 0)) (zb2 0 P0.toNat))) (zb2 0 P0.toNat))) (λz=>List.map lI z) (λ(r:((List (List Int))×(List (List Int))))=>Oc.rt true (dT [dL (List.map lI r.1),dL (List.map lI r.2)])) (EvO.conv (zcg (g:=(λ(x56:Int)=>dL (List.map dI (List.map (λ(x59:Int)=>(if (decide (x59=x56)) then 1 else 0)) (zb2 0 P0.toNat))))) (zcZ (m:=true) (n:=P0) (Ev.any (m:=false) (zaa (i:=0) rfl)) (by refine ⟨?_,?_⟩<;>omega)) (by exact zak (by rw [zaD];omega)) ⟨by decide,by decide⟩ (λi57 x56 hx58=>have v58:=zbm hx58;(EvO.ev (EvO.conv (zcg (g:=(λ(x59:Int)=>dI (if (decide (x59=x56)) then 1 else 0))) (zcZ (m:=true) (n:=P0) (Ev.any (m:=false) (zaa (i:=1) rfl)) (by refine ⟨?_,?_⟩<;>omega)) (by exact zak (by rw [zaD];omega)) ⟨by decide,by decide⟩ (λi60 x59 hx61=>have v61:=zbm hx61;(zhH (b:=(decide (x59=x56))) (zab (zc3 (x:=x59) (y:=x56) (Ev.any (m:=true) (zaa (i:=0) rfl)) (Ev.any (m:=true) (zaa (i:=1) rfl))) zaf)))) (by first | (rw [List.map_map];rfl) | (simp only [cond_true,cond_false];rw [List.map_map];rfl)))))) (by first | (rw [List.map_map];rfl) | (simp only [cond_true,cond_false];rw [List.map_map];rfl))) (λv62 hv62 =>
 have hA:=hv62;(run_letO (m:=true) (x:=(List.map (λ(x63:(List Int))=>x63) v62)) (λz=>List.map lI z) (λ(r:((List (List Int))×(List (List Int))))=>Oc.rt true (dT [dL (List.map lI r.1),dL (List.map lI r.2)])) (zjd.evo (zjd.borrowO (i:=2) rfl (zjv (EvO.conv (zcg (g:=(λ(x63:(List Int))=>dL (List.map dI x63))) (zcB (m:=false) lI (xs:=v62) (Ev.weak (K:=K) (zaa (i:=2) rfl))) (by exact zak (by rw [hA,List.length_map,zaD];omega)) ⟨by decide,by decide⟩ (λi64 x63 hx65=>have v65:=List.mem_of_getElem? hx65;(EvO.ev (EvO.anyI (m:=false) (zdW (Ev.weak (K:=K) (zaa (i:=0) rfl))))))) (by first | (rw [List.map_map];rfl) | (simp only [cond_true,cond_false];rw [List.map_map];rfl)))))) (λv66 hv66 =>
 have hF:=ziP hW hA hv66;(zcU (s0:=(v62,v66)) (λ(s67:(List (List Int))×(List (List Int)))=>([.va false (dI P0),.va false (dQ K (List.map dI P1)),.ow true (List.map lI s67.1),.ow true (List.map lI s67.2),.no,.no,.no,.no]:L2.Ctx)) (λ(r:((List (List Int))×(List (List Int))))=>Oc.rt true (dT [dL (List.map lI r.1),dL (List.map lI r.2)])) (λ(s67:(List (List Int))×(List (List Int))) (x68:Int)=>(Let (m_law_thing x68 (1:Int) P0) (λ(v72:Int) =>
 (Let (m_law_thing x68 (2:Int) P0) (λ(v73:Int) =>
 (Let ((m_law_thing x68 (3:Int) (5:Int))-(2:Int)) (λ(v74:Int) =>
 (Let (bif (!decide (v72=v73)) then (setZ s67.1 v73 (List.map (λ(x76:(Int×Int))=>(x76.1+(v74*x76.2))) (List.zip (ixD s67.1 v73) (ixD s67.1 v72)))) else s67.1) (λ(v82:(List (List Int))) =>
 (Let (bif (!decide (v72=v73)) then (setZ s67.2 v72 (List.map (λ(x79:(Int×Int))=>(x79.1-(v74*x79.2))) (List.zip (ixD s67.2 v72) (ixD s67.2 v73)))) else s67.2) (λ(v83:(List (List Int))) =>
 (v82,v83)))))))))))) (λ(i:Nat) (s67:(List (List Int))×(List (List Int)))=>FrI W s67) (zcB (m:=false) dI (xs:=P1) (zaa (i:=1) rfl)) (.eq (.eq (.eq (.eq (.eq (.eq (.eq (.eq .nil)))))))) (by exact hF) (λi69 x68 s67 hx70 hI71=>have v70:=List.mem_of_getElem? hx70;⟨(by exact zjF (by assumption) (zdk hW hp.1 rfl) (zdk hW hp.1 rfl)),
 (zan (m:=true) (x:=(m_law_thing x68 (1:Int) P0)) dI (λz=>Oc.nx ((λ(s67:(List (List Int))×(List (List Int)))=>([.va false (dI P0),.va false (dQ K (List.map dI P1)),.ow true (List.map lI s67.1),.ow true (List.map lI s67.2),.no,.no,.no,.no]:L2.Ctx)) z)) (Ev.any (m:=true) (zaA (x:=(x68,(1:Int),P0)) (zab (Ev.any (m:=false) (zaa (i:=4) rfl)) (zab zaw (zab (Ev.any (m:=false) (zaa (i:=0) rfl)) zaf))) rfl (by show zar x68 (1:Int) P0;refine ⟨by omega,by omega,by omega⟩) rfl)) (λv72 hv72 =>
 have hO:=zdk hW hp.1 hv72;(zan (m:=true) (x:=(m_law_thing x68 (2:Int) P0)) dI (λz=>Oc.nx ((λ(s67:(List (List Int))×(List (List Int)))=>([.va false (dI P0),.va false (dQ K (List.map dI P1)),.ow true (List.map lI s67.1),.ow true (List.map lI s67.2),.no,.no,.no,.no]:L2.Ctx)) z)) (Ev.any (m:=true) (zaA (x:=(x68,(2:Int),P0)) (zab (Ev.any (m:=false) (zaa (i:=4) rfl)) (zab zaw (zab (Ev.any (m:=false) (zaa (i:=0) rfl)) zaf))) rfl (by show zar x68 (2:Int) P0;refine ⟨by omega,by omega,by omega⟩) rfl)) (λv73 hv73 =>
 have hT:=zdk hW hp.1 hv73;(zan (m:=true) (x:=((m_law_thing x68 (3:Int) (5:Int))-(2:Int))) dI (λz=>Oc.nx ((λ(s67:(List (List Int))×(List (List Int)))=>([.va false (dI P0),.va false (dQ K (List.map dI P1)),.ow true (List.map lI s67.1),.ow true (List.map lI s67.2),.no,.no,.no,.no]:L2.Ctx)) z)) (zaF (x:=(m_law_thing x68 (3:Int) (5:Int))) (y:=(2:Int)) (Ev.any (m:=true) (zaA (x:=(x68,(3:Int),(5:Int))) (zab (Ev.any (m:=false) (zaa (i:=4) rfl)) (zab zaw (zab zaw zaf))) rfl (by show zar x68 (3:Int) (5:Int);refine ⟨by omega,by omega,by omega⟩) rfl)) zaw) (λv74 hv74 =>
 have hM:=zgk hv74;(zbC (b:=(!decide (v72=v73))) (λbb=>([.va false (dI P0),.va false (dQ K (List.map dI P1)),.ow true (List.map lI (bif bb then (setZ s67.1 v73 (List.map (λ(x76:(Int×Int))=>(x76.1+(v74*x76.2))) (List.zip (ixD s67.1 v73) (ixD s67.1 v72)))) else s67.1)),.ow true (List.map lI (bif bb then (setZ s67.2 v72 (List.map (λ(x79:(Int×Int))=>(x79.1-(v74*x79.2))) (List.zip (ixD s67.2 v72) (ixD s67.2 v73)))) else s67.2)),.va false (dI x68),.va true (dI v72),.va true (dI v73),.va true (dI v74)]:L2.Ctx)) (zal (zdM (x:=v72) (y:=v73) (Ev.any (m:=true) (zaa (i:=5) rfl)) (Ev.any (m:=true) (zaa (i:=6) rfl)))) (λh75=>(zdl (f:=lI) (xs:=s67.1) (x:=(List.map (λ(x76:(Int×Int))=>(x76.1+(v74*x76.2))) (List.zip (ixD s67.1 v73) (ixD s67.1 v72)))) rfl (EvO.ev (EvO.conv (zcg (g:=(λ(x76:(Int×Int))=>dI (x76.1+(v74*x76.2)))) (zeH (m:=true) dI dI (xs:=(ixD s67.1 v73)) (ys:=(ixD s67.1 v72)) (Ev.weak (K:=K) (ev_ownIxM (f:=lI) (xs:=s67.1) rfl (Ev.any (m:=true) (zaa (i:=6) rfl)) (by exact sq_ix ((by assumption):FrI W _).1 hT.1 hT.2))) (Ev.weak (K:=K) (ev_ownIxM (f:=lI) (xs:=s67.1) rfl (Ev.any (m:=true) (zaa (i:=5) rfl)) (by exact sq_ix ((by assumption):FrI W _).1 hO.1 hO.2)))) (by exact zjh (by assumption) hT (by omega)) ⟨by decide,by decide⟩ (λi77 x76 hx78=>have v78:=zdh hx78;(zaF (x:=x76.1) (y:=(v74*x76.2)) (Ev.any (m:=true) (zaa (i:=0) rfl)) (zav (x:=v74) (y:=x76.2) (Ev.any (m:=true) (zaa (i:=2) rfl)) (Ev.any (m:=true) (zaa (i:=1) rfl)) (by exact .inl ⟨by omega,by omega⟩))))) (by first | (rw [List.map_map];rfl) | (simp only [cond_true,cond_false];rw [List.map_map];rfl)))) (Ev.any (m:=true) (zaa (i:=6) rfl)) (by exact sq_ix ((by assumption):FrI W _).1 hT.1 hT.2)
 (zdl (f:=lI) (xs:=s67.2) (x:=(List.map (λ(x79:(Int×Int))=>(x79.1-(v74*x79.2))) (List.zip (ixD s67.2 v72) (ixD s67.2 v73)))) rfl (EvO.ev (EvO.conv (zcg (g:=(λ(x79:(Int×Int))=>dI (x79.1-(v74*x79.2)))) (zeH (m:=true) dI dI (xs:=(ixD s67.2 v72)) (ys:=(ixD s67.2 v73)) (Ev.weak (K:=K) (ev_ownIxM (f:=lI) (xs:=s67.2) rfl (Ev.any (m:=true) (zaa (i:=5) rfl)) (by exact sq_ix ((by assumption):FrI W _).2 hO.1 hO.2))) (Ev.weak (K:=K) (ev_ownIxM (f:=lI) (xs:=s67.2) rfl (Ev.any (m:=true) (zaa (i:=6) rfl)) (by exact sq_ix ((by assumption):FrI W _).2 hT.1 hT.2)))) (by exact zjE (by assumption) hO (by omega)) ⟨by decide,by decide⟩ (λi80 x79 hx81=>have v81:=zdh hx81;(zaF (x:=x79.1) (y:=(v74*x79.2)) (Ev.any (m:=true) (zaa (i:=0) rfl)) (zav (x:=v74) (y:=x79.2) (Ev.any (m:=true) (zaa (i:=2) rfl)) (Ev.any (m:=true) (zaa (i:=1) rfl)) (by exact .inl ⟨by omega,by omega⟩))))) (by first | (rw [List.map_map];rfl) | (simp only [cond_true,cond_false];rw [List.map_map];rfl)))) (Ev.any (m:=true) (zaa (i:=5) rfl)) (by exact sq_ix ((by assumption):FrI W _).2 hO.1 hO.2)
 (zah (.eq (.eq (.eq (.eq (.eq (.eq (.eq (.eq .nil)))))))))))) (λh75=>(zah (.eq (.eq (.eq (.eq (.eq (.eq (.eq (.eq .nil))))))))))
 (zbZ (x:=(bif (!decide (v72=v73)) then (setZ s67.1 v73 (List.map (λ(x76:(Int×Int))=>(x76.1+(v74*x76.2))) (List.zip (ixD s67.1 v73) (ixD s67.1 v72)))) else s67.1)) (λv82=>([.va false (dI P0),.va false (dQ K (List.map dI P1)),.ow true (List.map lI v82),.ow true (List.map lI (bif (!decide (v72=v73)) then (setZ s67.2 v72 (List.map (λ(x79:(Int×Int))=>(x79.1-(v74*x79.2))) (List.zip (ixD s67.2 v72) (ixD s67.2 v73)))) else s67.2)),.va false (dI x68),.va true (dI v72),.va true (dI v73),.va true (dI v74)]:L2.Ctx)) (λz=>Oc.nx ((λ(s67:(List (List Int))×(List (List Int)))=>([.va false (dI P0),.va false (dQ K (List.map dI P1)),.ow true (List.map lI s67.1),.ow true (List.map lI s67.2),.no,.no,.no,.no]:L2.Ctx)) z)) (λv82 hv82 =>
 have hR1:=hv82;(zbZ (x:=(bif (!decide (v72=v73)) then (setZ s67.2 v72 (List.map (λ(x79:(Int×Int))=>(x79.1-(v74*x79.2))) (List.zip (ixD s67.2 v72) (ixD s67.2 v73)))) else s67.2)) (λv83=>([.va false (dI P0),.va false (dQ K (List.map dI P1)),.ow true (List.map lI v82),.ow true (List.map lI v83),.va false (dI x68),.va true (dI v72),.va true (dI v73),.va true (dI v74)]:L2.Ctx)) (λz=>Oc.nx ((λ(s67:(List (List Int))×(List (List Int)))=>([.va false (dI P0),.va false (dQ K (List.map dI P1)),.ow true (List.map lI s67.1),.ow true (List.map lI s67.2),.no,.no,.no,.no]:L2.Ctx)) z)) (λv83 hv83 =>
 (zah (.eq (.eq (.eq (.eq (.no (.no (.no (.no .nil))))))))))))))))))))⟩) (λr84 hr84 hI =>
 (zcc (i:=2) rfl (zcc (i:=3) rfl (zag (zax (zeF (zab (zaa (i:=2) rfl) (zab (zaa (i:=3) rfl) zaf)) (by show 2≤sizeLine;decide))))))))))))
def m_law_bottoms (P0:Int) (P1:Int) (P2:Int):(List Int) :=
 (Let (List.foldl (λ(s85:(List Int)) (x86:Int)=>(Let (m_law_thing P1 (P2+x86) (7:Int)) (λ(v90:Int) =>
 (Let (ixD [(0:Int),(1:Int),(2:Int),(3:Int),(6:Int),(0:Int),(4:Int)] v90) (λ(v91:Int) =>
 (Let (bif ((decide (v90=(6:Int)))&&(decide ((P1%(2:Int))=(1:Int)))) then ((2:Int)+(m_law_thing P1 ((P2+(20:Int))+x86) ((10:Int)^(9:Int).toNat))) else v91) (λ(v93:Int) =>
 (s85++[v93])))))))) [] (zb2 0 P0.toNat)) (λ(r94:(List Int)) =>
 r94))
def zby (P0:Int) (P1:Int) (P2:Int):Prop:=0≤P0∧P0≤8∧0≤P2∧P2≤100
def zcI (K:W.Frag) (A:Adr):Sp:=Spv (ι:=Int×Int×Int) (λx=>[dI x.1,dI x.2.1,dI x.2.2]) (λx=>zby x.1 x.2.1 x.2.2) (λx=>.ow true (List.map dI (m_law_bottoms x.1 x.2.1 x.2.2)))
theorem za4:FnScope ["_law_wide","_law_cell_here","_law_far","_law_found","_law_k","_law_way","_law_number"] ["_law_wide","_law_cell_here","_law_far"] (defScope zbd):=⟨rfl,rfl,rfl,by decide +kernel,rfl,by decide +kernel,by decide +kernel⟩
theorem zeD (F:Fun K "_law_bottoms" "_law_bottoms" zbd f fd) (T:Txt K mg A) (G_law_thing:Callee P w K mg base (CXE P w) 1 "_law_thing" ["_law_cell_here","_law_k","_law_many"] (zbu K A)):FnOk P w K mg base (CXE P w) 2 f fd ["_law_wide","_law_cell_here","_law_far"] (zcI K A):=by
 refine F.okV za4 (λ_=>rfl) (λcdv Ar outer s H E x hr hp=>?_)
 obtain ⟨P0,P1,P2⟩:=x
 have hu:=hr.units
 replace hp:zby P0 P1 P2:=hp
 unfold zby at hp
 refine ⟨_,(zac (zao (i:=3) za4.nd rfl (Or.inl rfl) (zbH pa_nil))
 (zac (zc2 PassesOwn.never rfl (zbA rfl T.range (pa_cons (pv 0) pa_nil)) (pg_name (i:=4) za4.nd rfl (Or.inl rfl) (Or.inl rfl))
 (zac (zao (i:=5) za4.nd rfl (Or.inl rfl) (pe_fn G_law_thing (hr.mono (by decide)) rfl passE (pa_cons (pv 1) (pa_cons (zam zb8 (pv 2) (pv 4)) (pa_cons zae pa_nil)))))
 (zac (zao (i:=6) za4.nd rfl (Or.inl rfl) (zdr (zaH (K:=K) rfl) (zbH (pa_cons zae (pa_cons zae (pa_cons zae (pa_cons zae (pa_cons zae (pa_cons zae (pa_cons zae pa_nil)))))))) (pv 5) (λ_ _=>rfl)))
 (zac (zbx (PW.pt (zfB (zau op_eq (pv 5) zae (nomark _)) (zeA (zau op_eq (zam zbi (pv 1) zae) zae (nomark _)))))
 (zac (zao (i:=6) za4.nd rfl (Or.inl rfl) (zam zb8 zae (pe_fn G_law_thing (hr.mono (by decide)) rfl passE (pa_cons (pv 1) (pa_cons (zam zb8 (zam zb8 (pv 2) zae) (pv 4)) (pa_cons (zam zkm zae zae) pa_nil))))))
 zad)
 zad)
 (zac (ze4 (zef (K:=K) rfl (pv 3) (pa_cons (pv 6) pa_nil)))
 zad)))))
 (zac (zaE (pv 3))
 zad))),.inl ?_⟩
 show L2.Run _ ([.va false (dI P0),.va false (dI P1),.va false (dI P2),.no,.no,.no,.no]:L2.Ctx) _ ((λr=>Oc.rl true (List.map dI r)) (m_law_bottoms P0 P1 P2))
 unfold m_law_bottoms
 exact (run_setO (m:=true) (ds:=List.map dI []) (zej (m:=true) zaf)
 (zcU (s0:=[]) (λ(s85:(List Int))=>([.va false (dI P0),.va false (dI P1),.va false (dI P2),.ow true (List.map dI s85),.no,.no,.no]:L2.Ctx)) (λr=>Oc.rl true (List.map dI r)) (λ(s85:(List Int)) (x86:Int)=>(Let (m_law_thing P1 (P2+x86) (7:Int)) (λ(v90:Int) =>
 (Let (ixD [(0:Int),(1:Int),(2:Int),(3:Int),(6:Int),(0:Int),(4:Int)] v90) (λ(v91:Int) =>
 (Let (bif ((decide (v90=(6:Int)))&&(decide ((P1%(2:Int))=(1:Int)))) then ((2:Int)+(m_law_thing P1 ((P2+(20:Int))+x86) ((10:Int)^(9:Int).toNat))) else v91) (λ(v93:Int) =>
 (s85++[v93])))))))) (λ(i:Nat) (s85:(List Int))=>s85.length≤i) (zcZ (m:=true) (n:=P0) (Ev.any (m:=false) (zaa (i:=0) rfl)) (by refine ⟨?_,?_⟩<;>omega)) (.eq (.eq (.eq (.eq (.eq (.eq (.eq .nil))))))) (by exact Nat.le_refl 0) (λi87 x86 s85 hx88 hI89=>have v88:=zbm hx88;⟨(by exact zjP (by assumption)),
 (zan (m:=true) (x:=(m_law_thing P1 (P2+x86) (7:Int))) dI (λz=>Oc.nx ((λ(s85:(List Int))=>([.va false (dI P0),.va false (dI P1),.va false (dI P2),.ow true (List.map dI s85),.no,.no,.no]:L2.Ctx)) z)) (Ev.any (m:=true) (zaA (x:=(P1,(P2+x86),(7:Int))) (zab (Ev.any (m:=false) (zaa (i:=1) rfl)) (zab (zaF (x:=P2) (y:=x86) (Ev.any (m:=false) (zaa (i:=2) rfl)) (Ev.any (m:=true) (zaa (i:=4) rfl))) (zab zaw zaf))) rfl (by show zar P1 (P2+x86) (7:Int);refine ⟨by omega,by omega,by first | decide | omega⟩) rfl)) (λv90 hv90 =>
 have hY:=zjs hv90;(zan (m:=true) (x:=(ixD [(0:Int),(1:Int),(2:Int),(3:Int),(6:Int),(0:Int),(4:Int)] v90)) dI (λz=>Oc.nx ((λ(s85:(List Int))=>([.va false (dI P0),.va false (dI P1),.va false (dI P2),.ow true (List.map dI s85),.no,.no,.no]:L2.Ctx)) z)) (zdP (f:=dI) (xs:=[(0:Int),(1:Int),(2:Int),(3:Int),(6:Int),(0:Int),(4:Int)]) (Ev.weak (K:=K) (EvO.ev (zch (zab zaw (zab zaw (zab zaw (zab zaw (zab zaw (zab zaw (zab zaw zaf))))))) (by show 7≤sizeLine;decide)))) (Ev.any (m:=true) (zaa (i:=5) rfl)) (by exact hY)) (λv91 hv91 =>
 (zbC (b:=((decide (v90=(6:Int)))&&(decide ((P1%(2:Int))=(1:Int))))) (λbb=>([.va false (dI P0),.va false (dI P1),.va false (dI P2),.ow true (List.map dI s85),.va true (dI x86),.va true (dI v90),.va true (dI (bif bb then ((2:Int)+(m_law_thing P1 ((P2+(20:Int))+x86) ((10:Int)^(9:Int).toNat))) else v91))]:L2.Ctx)) (zet (b:=(decide (v90=(6:Int)))) (zal (zc3 (x:=v90) (y:=(6:Int)) (Ev.any (m:=true) (zaa (i:=5) rfl)) zaw)) (λhb=>(zal (zc3 (x:=(P1%(2:Int))) (y:=(1:Int)) (zav (x:=P1) (y:=(2:Int)) (Ev.any (m:=false) (zaa (i:=1) rfl)) zaw (by decide)) zaw)))) (λh92=>(zdE (m:=true) (zaF (x:=(2:Int)) (y:=(m_law_thing P1 ((P2+(20:Int))+x86) ((10:Int)^(9:Int).toNat))) zaw (Ev.any (m:=true) (zaA (x:=(P1,((P2+(20:Int))+x86),((10:Int)^(9:Int).toNat))) (zab (Ev.any (m:=false) (zaa (i:=1) rfl)) (zab (zaF (x:=(P2+(20:Int))) (y:=x86) (zaF (x:=P2) (y:=(20:Int)) (Ev.any (m:=false) (zaa (i:=2) rfl)) zaw) (Ev.any (m:=true) (zaa (i:=4) rfl))) (zab (zav (x:=(10:Int)) (y:=(9:Int)) zaw zaw (by exact ⟨by decide,by decide,by decide⟩)) zaf))) rfl (by show zar P1 ((P2+(20:Int))+x86) ((10:Int)^(9:Int).toNat);refine ⟨by omega,by omega,by first | decide | omega⟩) rfl)))
 (zah (.eq (.eq (.eq (.eq (.eq (.eq (.eq .nil)))))))))) (λh92=>(zah (.eq (.eq (.eq (.eq (.eq (.eq (.eq .nil)))))))))
 (zbZ (x:=(bif ((decide (v90=(6:Int)))&&(decide ((P1%(2:Int))=(1:Int)))) then ((2:Int)+(m_law_thing P1 ((P2+(20:Int))+x86) ((10:Int)^(9:Int).toNat))) else v91)) (λv93=>([.va false (dI P0),.va false (dI P1),.va false (dI P2),.ow true (List.map dI s85),.va true (dI x86),.va true (dI v90),.va true (dI v93)]:L2.Ctx)) (λz=>Oc.nx ((λ(s85:(List Int))=>([.va false (dI P0),.va false (dI P1),.va false (dI P2),.ow true (List.map dI s85),.no,.no,.no]:L2.Ctx)) z)) (λv93 hv93 =>
 (zeh (f:=dI) (xs:=s85) (x:=v93) rfl (Ev.any (m:=true) (zaa (i:=6) rfl)) (by exact zj2 (by assumption) (by assumption) (by omega))
 (zah (.eq (.eq (.eq (.eq (.no (.no (.no .nil))))))))))))))))⟩) (λr94 hr94 hI =>
 (zeM (zgM (i:=3) rfl)))))
theorem zhP {w c f:Int} (hw:0≤w):(m_law_bottoms w c f).length=w.toNat∧∀ b∈m_law_bottoms w c f,0≤b∧b≤1000000001:=by
 unfold m_law_bottoms Let
 dsimp only
 rw [Lat.zgi,List.nil_append]
 refine ⟨by rw [List.length_map,zaD],λb hb=>?_⟩
 obtain ⟨x,_,rfl⟩:=List.mem_map.mp hb
 have h7:=zcj (c:=c) (k:=f+x) (m:=7) (by decide)
 generalize m_law_thing c (f+x) 7=y at *
 have e10:(10:Int)^(9:Int).toNat=1000000000:=by decide +kernel
 rw [e10]
 have h9:=zcj (c:=c) (k:=f+20+x) (m:=1000000000) (by decide)
 have key:0≤ixD [(0:Int),(1:Int),(2:Int),(3:Int),(6:Int),(0:Int),(4:Int)] y∧ixD [(0:Int),(1:Int),(2:Int),(3:Int),(6:Int),(0:Int),(4:Int)] y≤6:=by
  have hm:=zcR (xs:=[(0:Int),(1:Int),(2:Int),(3:Int),(6:Int),(0:Int),(4:Int)]) (i:=y) (by show InB 7 y;unfold InB;omega)
  generalize ixD [(0:Int),(1:Int),(2:Int),(3:Int),(6:Int),(0:Int),(4:Int)] y=z at *
  simp at hm
  omega
 cases (decide (y=(6:Int))&&decide (c%(2:Int)=(1:Int)))
 ·rw [cond_false];omega
 ·rw [cond_true];omega
theorem zkP {s:List (List Int)} {i w:Nat} {b:Bool} {y:List Int} (h:s.length≤i∧∀ r∈s,r.length=w) (hy:y.length=w):(bif b then (s++[y]) else s).length≤i+1∧∀ r∈(bif b then (s++[y]) else s),r.length=w:=by
 cases b
 ·exact ⟨by show s.length≤_;omega,h.2⟩
 ·refine ⟨by show (s++[y]).length≤_;rw [List.length_append,List.length_singleton];omega,λr hr=>?_⟩
  rcases List.mem_append.mp hr with hr | hr
  ·exact h.2 r hr
  ·rw [List.mem_singleton.mp hr];exact hy
def StP (rows:List (List Int)) (bs:List Int) (idle:Int):Prop:=∃ W:Nat,1≤W∧W≤8∧Sq W W rows∧bs.length=W∧(∀ b∈bs,0≤b∧b≤1000000001)∧0≤idle∧idle≤3
theorem zmf {s rows:List (List Int)} {bs:List Int} {W:Nat} (hI:s.length≤(List.zip rows bs).length∧∀ r∈s,r.length=W) (hq:Sq W W rows) (w8:W≤8):s.length≤8∧∀ r∈s,r.length=W:=by
 refine ⟨?_,hI.2⟩
 have:=hI.1
 rw [List.length_zip] at this
 have:=hq.1
 omega
theorem zkG {w:Nat} {rows a ys:List (List Int)} {k idle:Int} (hw:rows.length=w) (h0:0≤idle) (h:a.length≤8∧∀ r∈a,r.length=w) (hk:k=((a.length:Nat):Int)) (e:ys=a++List.map (λ(_:Int)=>zfc ((rows.length:Nat):Int) [(0:Int)]) (zb2 0 idle.toNat)):Sq w (k+idle).toNat ys:=by
 subst e
 refine ⟨by rw [List.length_append,List.length_map,zaD];omega,λr hr=>?_⟩
 rcases List.mem_append.mp hr with hr | hr
 ·exact h.2 r hr
 ·obtain ⟨x,_,rfl⟩:=List.mem_map.mp hr
  rw [Lat.zhX];exact hw
theorem zjK {k idle:Int} {ts:List (List Int)} (e:ts=List.map (λ(x:Int)=>List.map (λ(y:Int)=>(if (decide (y=(k+x))) then (1:Int) else 0)) (zb2 0 (k+idle).toNat)) (zb2 0 idle.toNat)):∀ t∈ts,t.length=(k+idle).toNat:=λt ht=>by
 subst e
 obtain ⟨x,_,rfl⟩:=List.mem_map.mp ht
 rw [List.length_map,zaD]
def StI (w n:Nat) (s:List (List Int)×List (List Int)):Prop:=Sq w n s.1∧∀ t∈s.2,t.length=n
theorem zeQ {n:Nat} {w:Nat} {s:List (List Int)} {c k x:Int} (h:Sq w n s) (e:x=m_law_thing c k (max (1:Int) ((s.length:Nat):Int))):0≤x∧(x<(n:Int)∨x=0):=by
 subst e;have:=zcj (c:=c) (k:=k) (m:=max (1:Int) ((s.length:Nat):Int)) (by omega);rw [h.1] at this ⊢;omega
theorem zd6 {n:Nat} {x y:Int} (hx:0≤x∧(x<(n:Int)∨x=0)) (hy:0≤y∧(y<(n:Int)∨y=0)) (h:(!decide (x=y))=true):(0≤x∧x<(n:Int))∧0≤y∧y<(n:Int):=by
 have:x≠y:=by simpa using h
 omega
theorem zjr {n:Nat} {ns:List Int} {x:Int} (h:ns.length=n) (hx:0≤x∧x<(n:Int)):InB ns.length x:=by unfold InB;omega
theorem zjo {w n:Nat} {s:List (List Int)×List (List Int)} {x y q:Int} (h:StI w n s) (hx:0≤x∧(x<(n:Int)∨x=0)) (hy:0≤y∧(y<(n:Int)∨y=0)) :
  StI w n (bif (!decide (x=y)) then (setZ s.1 y (List.map (λ(z:Int×Int)=>(z.1+(q*z.2))) (List.zip (ixD s.1 y) (ixD s.1 x)))) else s.1,bif (!decide (x=y)) then (List.map (λ(ns:List Int)=>setZ ns x (ixD ns x-(q*ixD ns y))) s.2) else s.2):=by
 by_cases e:x=y
 ·rw [decide_eq_true e];exact h
 ·rw [decide_eq_false e]
  have hl:=zd6 hx hy (by simp [e])
  refine ⟨zhb h.1 (sq_zip h.1 h.1 hl.2 hl.1),λt ht=>?_⟩
  obtain ⟨z,hz,rfl⟩:=List.mem_map.mp ht
  rw [zdL];exact h.2 z hz
theorem zlA {w n:Nat} {s:List (List Int)} {x y:Int} (h:Sq w n s) (hx:0≤x∧x<(n:Int)) (hw:w≤8):(List.zip (ixD s x) (ixD s y)).length≤PySem.sizeLine:=zg6 (ys:=s) (m:=0) h hx (by omega)
theorem zk4 {W:Nat} {rows:List (List Int)} {r:List Int} (h:Sq W W rows) (hm:r∈rows) (hw:W≤8):r.length≤PySem.sizeLine:=zak (by have:=h.2 r hm;omega)
theorem zlP {W:Nat} {rows:List (List Int)} {bs:List Int} {i:Nat} {p:List Int×Int} (h:Sq W W rows) (hx:rows[i]?=some p.1∧bs[i]?=some p.2):i<W:=by have:=(List.getElem?_eq_some_iff.mp hx.1).1;rw [h.1] at this;exact this
def m_law_stirred (P0:(List (List Int))) (P1:(List Int)) (P2:Int) (P3:(List Int)):((List (List Int))×(List (List Int))) :=
 (Let (List.foldl (λ(s95:(List (List Int))) (x96:((List Int)×Int))=>(Let (bif (decide ((0:Int)<x96.2)) then (s95++[(List.map (λ(x101:Int)=>(x96.2*x101)) x96.1)]) else s95) (λ(v104:(List (List Int))) =>
 v104))) [] (List.zip P0 P1)) (λ(r105:(List (List Int))) =>
 (Let ((r105.length:Nat):Int) (λ(v106:Int) =>
 (Let (r105++(List.map (λ(x107:Int)=>(zfc ((P0.length:Nat):Int) [(0:Int)])) (zb2 0 P2.toNat))) (λ(v110:(List (List Int))) =>
 (Let (List.map (λ(x111:Int)=>(List.map (λ(x114:Int)=>(if (decide (x114=(v106+x111))) then 1 else 0)) (zb2 0 (v106+P2).toNat))) (zb2 0 P2.toNat)) (λ(v117:(List (List Int))) =>
 (Let (List.foldl (λ(s118:(List (List Int))×(List (List Int))) (x119:Int)=>(Let (m_law_thing x119 (4:Int) (max (1:Int) ((s118.1.length:Nat):Int))) (λ(v123:Int) =>
 (Let (m_law_thing x119 (5:Int) (max (1:Int) ((s118.1.length:Nat):Int))) (λ(v124:Int) =>
 (Let ((m_law_thing x119 (6:Int) (5:Int))-(2:Int)) (λ(v125:Int) =>
 (Let (bif (!decide (v123=v124)) then (setZ s118.1 v124 (List.map (λ(x127:(Int×Int))=>(x127.1+(v125*x127.2))) (List.zip (ixD s118.1 v124) (ixD s118.1 v123)))) else s118.1) (λ(v131:(List (List Int))) =>
 (Let (bif (!decide (v123=v124)) then (List.map (λ(ns130:List Int)=>setZ ns130 v123 ((ixD ns130 v123)-(v125*(ixD ns130 v124)))) s118.2) else s118.2) (λ(v132:(List (List Int))) =>
 (v131,v132)))))))))))) (v110,v117) P3) (λ(r133:(List (List Int))×(List (List Int))) =>
 (r133.1,r133.2)))))))))))
def zbz (P0:(List (List Int))) (P1:(List Int)) (P2:Int) (P3:(List Int)):Prop:=StP P0 P1 P2
def zcJ (K:W.Frag) (A:Adr):Sp:=Spv (ι:=(List (List Int))×(List Int)×Int×(List Int)) (λx=>[dQ K (List.map lI x.1),dQ K (List.map dI x.2.1),dI x.2.2.1,dQ K (List.map dI x.2.2.2)]) (λx=>zbz x.1 x.2.1 x.2.2.1 x.2.2.2) (λx=>.va true (dT [dL (List.map lI ((m_law_stirred x.1 x.2.1 x.2.2.1 x.2.2.2).1)),dL (List.map lI ((m_law_stirred x.1 x.2.1 x.2.2.1 x.2.2.2).2))]))
theorem zat:FnScope ["_law_rows","_law_bottoms_here","_law_idle","_law_cells","_law_swaps","_law_row","_law_number","_law_kept","_law_trips","_law_cell_here","_law_one","_law_two","_law_many","_law_trip"] ["_law_rows","_law_bottoms_here","_law_idle","_law_cells"] (defScope zaB):=⟨rfl,rfl,rfl,by decide +kernel,rfl,by decide +kernel,by decide +kernel⟩
theorem zeB (F:Fun K "_law_stirred" "_law_stirred" zaB f fd) (T:Txt K mg A) (G_law_thing:Callee P w K mg base (CXE P w) 1 "_law_thing" ["_law_cell_here","_law_k","_law_many"] (zbu K A)):FnOk P w K mg base (CXE P w) 2 f fd ["_law_rows","_law_bottoms_here","_law_idle","_law_cells"] (zcJ K A):=by
 refine F.okV zat (λ_=>rfl) (λcdv Ar outer s H E x hr hp=>?_)
 obtain ⟨P0,P1,P2,P3⟩:=x
 have hu:=hr.units
 replace hp:zbz P0 P1 P2 P3:=hp
 unfold zbz at hp
 obtain ⟨W,w1,w8,hq,hb,hbb,hi0,hi3⟩:=hp
 refine ⟨_,(zac (zao (i:=4) zat.nd rfl (Or.inl rfl) (zbH pa_nil))
 (zac (zc2 PassesOwn.never rfl (zdp (K:=K) rfl rfl T.zip (pa_cons (pv 0) (pa_cons (pv 1) pa_nil))) (zbh (K:=K) (n:=2) rfl rfl (zap (pg_name (i:=5) zat.nd rfl (Or.inl rfl) (Or.inl rfl)) (zap (pg_name (i:=6) zat.nd rfl (Or.inr rfl) (Or.inl rfl)) zbL)))
 (zac (zbx (zau zfx (pv 6) zae (nomark _))
 (zac (ze4 (zef (K:=K) rfl (pv 4) (pa_cons (pe_comp rfl (.of (osc:=(defScope zaB)) (N:=["_law_rows","_law_bottoms_here","_law_idle","_law_cells","_law_swaps","_law_row","_law_number","_law_kept","_law_trips","_law_cell_here","_law_one","_law_two","_law_many","_law_trip"]) (own:=["_law_entry"]) (fvn:=["_law_number"]) (fv:=[6]) rfl rfl (by decide +kernel)) (pi_list_K (K:=K) rfl (pv 5)) (λ_ _ _ _ _=>⟨(pg_name (i:=0) (show (["_law_entry","_law_number"]:List Str).Nodup by decide +kernel) rfl (Or.inl rfl) (Or.inr rfl)),pts_nil,(zam zbK (pv 1) (pv 0))⟩)) pa_nil)))
 zad)
 zad)
 zad))
 (zac (zao (i:=7) zat.nd rfl (Or.inr rfl) (pe_callB (zaq (K:=K) rfl) rfl T.len PySem.boot_len (pa_cons (pv 4) pa_nil)))
 (zac (zao (i:=4) zat.nd rfl (Or.inl rfl) (zam zcK (pv 4) (pe_comp rfl (.of (osc:=(defScope zaB)) (N:=["_law_rows","_law_bottoms_here","_law_idle","_law_cells","_law_swaps","_law_row","_law_number","_law_kept","_law_trips","_law_cell_here","_law_one","_law_two","_law_many","_law_trip"]) (own:=["_law_k"]) (fvn:=["_law_rows"]) (fv:=[0]) rfl rfl (by decide +kernel)) (zbA rfl T.range (pa_cons (pv 2) pa_nil)) (λ_ _ _ _ _=>⟨(pg_name (i:=0) (show (["_law_k","_law_rows"]:List Str).Nodup by decide +kernel) rfl (Or.inl rfl) (Or.inr rfl)),pts_nil,(zam zki (zbH (pa_cons zae pa_nil)) (pe_callB (zaq (K:=K) rfl) rfl T.len PySem.boot_len (pa_cons (pv 1) pa_nil)))⟩))))
 (zac (zeU (i:=8) rfl zat.nd rfl rfl (.of (osc:=(defScope zaB)) (N:=["_law_rows","_law_bottoms_here","_law_idle","_law_cells","_law_swaps","_law_row","_law_number","_law_kept","_law_trips","_law_cell_here","_law_one","_law_two","_law_many","_law_trip"]) (own:=["_law_k"]) (fvn:=["_law_kept","_law_idle"]) (fv:=[7,2]) rfl rfl (by decide +kernel)) (zbA rfl T.range (pa_cons (pv 2) pa_nil)) (λ_ _ _ _ _=>⟨(pg_name (i:=0) (show (["_law_k","_law_kept","_law_idle"]:List Str).Nodup by decide +kernel) rfl (Or.inr rfl) (Or.inl rfl)),pts_nil,(pe_comp rfl (.of (osc:=({ kind:=.function,names:=[(".0",.local),("_law_k",.cell),("range",.globalImplicit),("_law_idle",.cell),("_law_kept",.cell)],isGenerator:=false,isCoroutine:=false }:Scope)) (N:=["_law_k","_law_kept","_law_idle"]) (own:=["_law_j"]) (fvn:=["_law_kept","_law_k"]) (fv:=[1,0]) rfl rfl (by decide +kernel)) (zbA rfl T.range (pa_cons (zam zb8 (pv 1) (pv 2)) pa_nil)) (λ_ _ _ _ _=>⟨(pg_name (i:=0) (show (["_law_j","_law_kept","_law_k"]:List Str).Nodup by decide +kernel) rfl (Or.inl rfl) (Or.inr rfl)),pts_nil,(zb3 zfy rfl T.int (by decide +kernel) (pa_cons (pe_cmpR op_eq (pv 0) (zam zb8 (pv 1) (pv 2)) (nomark _)) pa_nil))⟩))⟩))
 (zac (zc2 PassesOwn.never rfl (pi_list_K (K:=K) rfl (pv 3)) (pg_name (i:=9) zat.nd rfl (Or.inl rfl) (Or.inl rfl))
 (zac (zao (i:=10) zat.nd rfl (Or.inl rfl) (pe_fn G_law_thing (hr.mono (by decide)) rfl passE (pa_cons (pv 9) (pa_cons zae (pa_cons (pe_callB (zfk rfl) rfl T.max PyProof.Rows.boot_max (pa_cons zae (pa_cons (pe_callB (zaq (K:=K) rfl) rfl T.len PySem.boot_len (pa_cons (pv 4) pa_nil)) pa_nil))) pa_nil)))))
 (zac (zao (i:=11) zat.nd rfl (Or.inl rfl) (pe_fn G_law_thing (hr.mono (by decide)) rfl passE (pa_cons (pv 9) (pa_cons zae (pa_cons (pe_callB (zfk rfl) rfl T.max PyProof.Rows.boot_max (pa_cons zae (pa_cons (pe_callB (zaq (K:=K) rfl) rfl T.len PySem.boot_len (pa_cons (pv 4) pa_nil)) pa_nil))) pa_nil)))))
 (zac (zao (i:=12) zat.nd rfl (Or.inr rfl) (zam zgd (pe_fn G_law_thing (hr.mono (by decide)) rfl passE (pa_cons (pv 9) (pa_cons zae (pa_cons zae pa_nil)))) zae))
 (zac (zbx (zau ze7 (pv 10) (pv 11) (nomark _))
 (zac (zdv (pe_comp rfl (.of (osc:=(defScope zaB)) (N:=["_law_rows","_law_bottoms_here","_law_idle","_law_cells","_law_swaps","_law_row","_law_number","_law_kept","_law_trips","_law_cell_here","_law_one","_law_two","_law_many","_law_trip"]) (own:=["_law_a","_law_b"]) (fvn:=["_law_many"]) (fv:=[12]) rfl rfl (by decide +kernel)) (zdp (K:=K) rfl rfl T.zip (pa_cons (zdr (zaH (K:=K) rfl) (pv 4) (pv 11) (λ_ _=>rfl)) (pa_cons (zdr (zaH (K:=K) rfl) (pv 4) (pv 10) (λ_ _=>rfl)) pa_nil))) (λ_ _ _ _ _=>⟨(zbh (K:=K) (n:=2) rfl rfl (zap (pg_name (i:=0) (show (["_law_a","_law_b","_law_many"]:List Str).Nodup by decide +kernel) rfl (Or.inl rfl) (Or.inr rfl)) (zap (pg_name (i:=1) (show (["_law_a","_law_b","_law_many"]:List Str).Nodup by decide +kernel) rfl (Or.inl rfl) (Or.inr rfl)) zbL))),pts_nil,(zam zb8 (pv 0) (zam zbK (pv 2) (pv 1)))⟩)) (zfD (pv 4) (pv 11) set_list))
 (zac (zc2 PassesOwn.never rfl (pi_list_K (K:=K) rfl (pv 8)) (pg_name (i:=13) zat.nd rfl (Or.inl rfl) (Or.inl rfl))
 (zac (zdv (zam zgd (zdr (zaH (K:=K) rfl) (pv 13) (pv 10) (λ_ _=>rfl)) (zam zbK (pv 12) (zdr (zaH (K:=K) rfl) (pv 13) (pv 11) (λ_ _=>rfl)))) (zfD (pv 13) (pv 10) set_list)) zad))
 zad))
 zad)
 zad)))))
 (zac (zaE (zeL (pa_cons (pv 4) (pa_cons (pv 8) pa_nil))))
 zad))))))),.inl ?_⟩
 show L2.Run _ ([.va false (dQ K (List.map lI P0)),.va false (dQ K (List.map dI P1)),.va false (dI P2),.va false (dQ K (List.map dI P3)),.no,.no,.no,.no,.no,.no,.no,.no,.no,.no]:L2.Ctx) _ ((λ(r:((List (List Int))×(List (List Int))))=>Oc.rt true (dT [dL (List.map lI r.1),dL (List.map lI r.2)])) (m_law_stirred P0 P1 P2 P3))
 unfold m_law_stirred
 exact (run_setO (m:=true) (ds:=List.map lI []) (zej (m:=true) zaf)
 (zcU (s0:=[]) (λ(s95:(List (List Int)))=>([.va false (dQ K (List.map lI P0)),.va false (dQ K (List.map dI P1)),.va false (dI P2),.va false (dQ K (List.map dI P3)),.ow true (List.map lI s95),.no,.no,.no,.no,.no,.no,.no,.no,.no]:L2.Ctx)) (λ(r:((List (List Int))×(List (List Int))))=>Oc.rt true (dT [dL (List.map lI r.1),dL (List.map lI r.2)])) (λ(s95:(List (List Int))) (x96:((List Int)×Int))=>(Let (bif (decide ((0:Int)<x96.2)) then (s95++[(List.map (λ(x101:Int)=>(x96.2*x101)) x96.1)]) else s95) (λ(v104:(List (List Int))) =>
 v104))) (λ(i:Nat) (s95:(List (List Int)))=>s95.length≤i∧∀ r∈s95,r.length=W) (zeH (m:=false) lI dI (xs:=P0) (ys:=P1) (zaa (i:=0) rfl) (zaa (i:=1) rfl)) (.eq (.eq (.eq (.eq (.eq (.eq (.eq (.eq (.eq (.eq (.eq (.eq (.eq (.eq .nil)))))))))))))) (by exact ⟨Nat.le_refl 0,λr hr=>by simp at hr⟩) (λi97 x96 s95 hx98 hI99=>have v98:=zdh hx98;⟨(by exact zkP (by assumption) (by rw [List.length_map];exact hq.2 _ (List.mem_of_getElem? ((by assumption):_∧_).1))),
 (zbC (b:=(decide ((0:Int)<x96.2))) (λbb=>([.va false (dQ K (List.map lI P0)),.va false (dQ K (List.map dI P1)),.va false (dI P2),.va false (dQ K (List.map dI P3)),.ow true (List.map lI (bif bb then (s95++[(List.map (λ(x101:Int)=>(x96.2*x101)) x96.1)]) else s95)),.va false (dL (List.map dI x96.1)),.va false (dI x96.2),.no,.no,.no,.no,.no,.no,.no]:L2.Ctx)) (zal (zaF (x:=x96.2) (y:=(0:Int)) (Ev.any (m:=false) (zaa (i:=6) rfl)) zaw)) (λh100=>(zeh (f:=lI) (xs:=s95) (x:=(List.map (λ(x101:Int)=>(x96.2*x101)) x96.1)) rfl (EvO.ev (EvO.conv (zcg (g:=(λ(x101:Int)=>dI (x96.2*x101))) (zcB (m:=false) dI (xs:=x96.1) (Ev.weak (K:=K) (zaa (i:=5) rfl))) (by exact zk4 hq (List.mem_of_getElem? ((by assumption):_∧_).1) w8) ⟨by decide,by decide⟩ (λi102 x101 hx103=>have v103:=List.mem_of_getElem? hx103;(zav (x:=x96.2) (y:=x101) (Ev.any (m:=false) (zaa (i:=1) rfl)) (Ev.any (m:=false) (zaa (i:=0) rfl)) (by have z:=hbb _ (List.mem_of_getElem? ((by assumption):_∧_).2);exact .inl ⟨by omega,by omega⟩)))) (by first | (rw [List.map_map];rfl) | (simp only [cond_true,cond_false];rw [List.map_map];rfl)))) (by have z:=zlP hq (by assumption);exact Nat.lt_of_le_of_lt (show _≤1000 by omega) (by decide))
 (zah (.eq (.eq (.eq (.eq (.eq (.eq (.eq (.eq (.eq (.eq (.eq (.eq (.eq (.eq .nil))))))))))))))))) (λh100=>(zah (.eq (.eq (.eq (.eq (.eq (.eq (.eq (.eq (.eq (.eq (.eq (.eq (.eq (.eq .nil))))))))))))))))
 (zbZ (x:=(bif (decide ((0:Int)<x96.2)) then (s95++[(List.map (λ(x101:Int)=>(x96.2*x101)) x96.1)]) else s95)) (λv104=>([.va false (dQ K (List.map lI P0)),.va false (dQ K (List.map dI P1)),.va false (dI P2),.va false (dQ K (List.map dI P3)),.ow true (List.map lI v104),.va false (dL (List.map dI x96.1)),.va false (dI x96.2),.no,.no,.no,.no,.no,.no,.no]:L2.Ctx)) (λz=>Oc.nx ((λ(s95:(List (List Int)))=>([.va false (dQ K (List.map lI P0)),.va false (dQ K (List.map dI P1)),.va false (dI P2),.va false (dQ K (List.map dI P3)),.ow true (List.map lI s95),.no,.no,.no,.no,.no,.no,.no,.no,.no]:L2.Ctx)) z)) (λv104 hv104 =>
 (zah (.eq (.eq (.eq (.eq (.eq (.no (.no (.eq (.eq (.eq (.eq (.eq (.eq (.eq .nil))))))))))))))))))⟩) (λr105 hr105 hI =>
 (zan (m:=true) (x:=((r105.length:Nat):Int)) dI (λ(r:((List (List Int))×(List (List Int))))=>Oc.rt true (dT [dL (List.map lI r.1),dL (List.map lI r.2)])) (zcQ (f:=lI) (xs:=r105) rfl) (λv106 hv106 =>
 have hL:=zmf hI hq w8;have hK:=hv106;(zcc (i:=4) rfl (run_letO (m:=true) (x:=(r105++(List.map (λ(x107:Int)=>(zfc ((P0.length:Nat):Int) [(0:Int)])) (zb2 0 P2.toNat)))) (λz=>List.map lI z) (λ(r:((List (List Int))×(List (List Int))))=>Oc.rt true (dT [dL (List.map lI r.1),dL (List.map lI r.2)])) (zbV (f:=lI) (xs:=r105) (ys:=(List.map (λ(x107:Int)=>(zfc ((P0.length:Nat):Int) [(0:Int)])) (zb2 0 P2.toNat))) (zaa (i:=4) rfl) (EvO.ev (EvO.conv (zcg (g:=(λ(x107:Int)=>dL (List.map dI (zfc ((P0.length:Nat):Int) [(0:Int)])))) (zcZ (m:=true) (n:=P2) (Ev.any (m:=false) (zaa (i:=2) rfl)) (by refine ⟨?_,?_⟩<;>omega)) (by exact zak (by rw [zaD];omega)) ⟨by decide,by decide⟩ (λi108 x107 hx109=>have v109:=zbm hx109;(EvO.ev (zjT (f:=dI) (xs:=[(0:Int)]) (n:=((P0.length:Nat):Int)) (EvO.ev (zch (zab zaw zaf) (by show 1≤sizeLine;decide))) (zbj (f:=lI) (xs:=P0) (zaa (i:=1) rfl)) (by have z:=hq.1;constructor<;>omega) (by show 1*_≤PySem.sizeLine;have z:=hq.1;exact zak (by omega)))))) (by first | (rw [List.map_map];rfl) | (simp only [cond_true,cond_false];rw [List.map_map];rfl)))) (by exact zak (by rw [List.length_map,zaD];omega))) (λv110 hv110 =>
 have hS:=zkG hq.1 hi0 hL hK hv110;(ziW (x:=(List.map (λ(x111:Int)=>(List.map (λ(x114:Int)=>(if (decide (x114=(v106+x111))) then 1 else 0)) (zb2 0 (v106+P2).toNat))) (zb2 0 P2.toNat))) dRI (λ(r:((List (List Int))×(List (List Int))))=>Oc.rt true (dT [dL (List.map lI r.1),dL (List.map lI r.2)])) (zkR (zig (ns:=λ(x111:Int)=>(List.map (λ(x114:Int)=>(if (decide (x114=(v106+x111))) then 1 else 0)) (zb2 0 (v106+P2).toNat))) (zcZ (m:=true) (n:=P2) (Ev.any (m:=false) (zaa (i:=2) rfl)) (by refine ⟨?_,?_⟩<;>omega)) (by exact zak (by rw [zaD];omega)) ⟨by decide,by decide⟩ (λi112 x111 hx113=>have v113:=zbm hx113;(EvO.conv (zcg (g:=(λ(x114:Int)=>dI (if (decide (x114=(v106+x111))) then 1 else 0))) (zcZ (m:=true) (n:=(v106+P2)) (zaF (x:=v106) (y:=P2) (Ev.any (m:=false) (zaa (i:=1) rfl)) (Ev.any (m:=false) (zaa (i:=2) rfl))) (by refine ⟨?_,?_⟩<;>omega)) (by exact zak (by rw [zaD];omega)) ⟨by decide,by decide⟩ (λi115 x114 hx116=>have v116:=zbm hx116;(zhH (b:=(decide (x114=(v106+x111)))) (zab (zc3 (x:=x114) (y:=(v106+x111)) (Ev.any (m:=true) (zaa (i:=0) rfl)) (zaF (x:=v106) (y:=x111) (Ev.any (m:=false) (zaa (i:=1) rfl)) (Ev.any (m:=true) (zaa (i:=2) rfl)))) zaf)))) (by first | (rw [List.map_map];rfl) | (simp only [cond_true,cond_false];rw [List.map_map];rfl)))))) (λv117 hv117 =>
 have hTr:=zjK hv117;(zcU (s0:=(v110,v117)) (λ(s118:(List (List Int))×(List (List Int)))=>([.va false (dQ K (List.map lI P0)),.va false (dQ K (List.map dI P1)),.va false (dI P2),.va false (dQ K (List.map dI P3)),.ow true (List.map lI s118.1),.no,.no,.va true (dI v106),.tl (dRI s118.2),.no,.no,.no,.no,.no]:L2.Ctx)) (λ(r:((List (List Int))×(List (List Int))))=>Oc.rt true (dT [dL (List.map lI r.1),dL (List.map lI r.2)])) (λ(s118:(List (List Int))×(List (List Int))) (x119:Int)=>(Let (m_law_thing x119 (4:Int) (max (1:Int) ((s118.1.length:Nat):Int))) (λ(v123:Int) =>
 (Let (m_law_thing x119 (5:Int) (max (1:Int) ((s118.1.length:Nat):Int))) (λ(v124:Int) =>
 (Let ((m_law_thing x119 (6:Int) (5:Int))-(2:Int)) (λ(v125:Int) =>
 (Let (bif (!decide (v123=v124)) then (setZ s118.1 v124 (List.map (λ(x127:(Int×Int))=>(x127.1+(v125*x127.2))) (List.zip (ixD s118.1 v124) (ixD s118.1 v123)))) else s118.1) (λ(v131:(List (List Int))) =>
 (Let (bif (!decide (v123=v124)) then (List.map (λ(ns130:List Int)=>setZ ns130 v123 ((ixD ns130 v123)-(v125*(ixD ns130 v124)))) s118.2) else s118.2) (λ(v132:(List (List Int))) =>
 (v131,v132)))))))))))) (λ(i:Nat) (s118:(List (List Int))×(List (List Int)))=>StI W (v106+P2).toNat s118) (zcB (m:=false) dI (xs:=P3) (zaa (i:=3) rfl)) (.eq (.eq (.eq (.eq (.eq (.eq (.eq (.eq (.eq (.eq (.eq (.eq (.eq (.eq .nil)))))))))))))) (by exact ⟨hS,hTr⟩) (λi120 x119 s118 hx121 hI122=>have v121:=List.mem_of_getElem? hx121;⟨(by exact zjo (by assumption) (zeQ ((by assumption):StI W _ _).1 rfl) (zeQ ((by assumption):StI W _ _).1 rfl)),
 (zan (m:=true) (x:=(m_law_thing x119 (4:Int) (max (1:Int) ((s118.1.length:Nat):Int)))) dI (λz=>Oc.nx ((λ(s118:(List (List Int))×(List (List Int)))=>([.va false (dQ K (List.map lI P0)),.va false (dQ K (List.map dI P1)),.va false (dI P2),.va false (dQ K (List.map dI P3)),.ow true (List.map lI s118.1),.no,.no,.va true (dI v106),.tl (dRI s118.2),.no,.no,.no,.no,.no]:L2.Ctx)) z)) (Ev.any (m:=true) (zaA (x:=(x119,(4:Int),(max (1:Int) ((s118.1.length:Nat):Int)))) (zab (Ev.any (m:=false) (zaa (i:=9) rfl)) (zab zaw (zab (zi4 (x:=(1:Int)) (y:=((s118.1.length:Nat):Int)) (zab zaw (zab (zcQ (f:=lI) (xs:=s118.1) rfl) zaf))) zaf))) rfl (by show zar x119 (4:Int) (max (1:Int) ((s118.1.length:Nat):Int));refine ⟨by decide,by decide,by omega⟩) rfl)) (λv123 hv123 =>
 have hO:=zeQ ((by assumption):StI W _ _).1 hv123;(zan (m:=true) (x:=(m_law_thing x119 (5:Int) (max (1:Int) ((s118.1.length:Nat):Int)))) dI (λz=>Oc.nx ((λ(s118:(List (List Int))×(List (List Int)))=>([.va false (dQ K (List.map lI P0)),.va false (dQ K (List.map dI P1)),.va false (dI P2),.va false (dQ K (List.map dI P3)),.ow true (List.map lI s118.1),.no,.no,.va true (dI v106),.tl (dRI s118.2),.no,.no,.no,.no,.no]:L2.Ctx)) z)) (Ev.any (m:=true) (zaA (x:=(x119,(5:Int),(max (1:Int) ((s118.1.length:Nat):Int)))) (zab (Ev.any (m:=false) (zaa (i:=9) rfl)) (zab zaw (zab (zi4 (x:=(1:Int)) (y:=((s118.1.length:Nat):Int)) (zab zaw (zab (zcQ (f:=lI) (xs:=s118.1) rfl) zaf))) zaf))) rfl (by show zar x119 (5:Int) (max (1:Int) ((s118.1.length:Nat):Int));refine ⟨by decide,by decide,by omega⟩) rfl)) (λv124 hv124 =>
 have hT:=zeQ ((by assumption):StI W _ _).1 hv124;(zan (m:=true) (x:=((m_law_thing x119 (6:Int) (5:Int))-(2:Int))) dI (λz=>Oc.nx ((λ(s118:(List (List Int))×(List (List Int)))=>([.va false (dQ K (List.map lI P0)),.va false (dQ K (List.map dI P1)),.va false (dI P2),.va false (dQ K (List.map dI P3)),.ow true (List.map lI s118.1),.no,.no,.va true (dI v106),.tl (dRI s118.2),.no,.no,.no,.no,.no]:L2.Ctx)) z)) (zaF (x:=(m_law_thing x119 (6:Int) (5:Int))) (y:=(2:Int)) (Ev.any (m:=true) (zaA (x:=(x119,(6:Int),(5:Int))) (zab (Ev.any (m:=false) (zaa (i:=9) rfl)) (zab zaw (zab zaw zaf))) rfl (by show zar x119 (6:Int) (5:Int);refine ⟨by decide,by decide,by omega⟩) rfl)) zaw) (λv125 hv125 =>
 have hM:=zgk hv125;(zbC (b:=(!decide (v123=v124))) (λbb=>([.va false (dQ K (List.map lI P0)),.va false (dQ K (List.map dI P1)),.va false (dI P2),.va false (dQ K (List.map dI P3)),.ow true (List.map lI (bif bb then (setZ s118.1 v124 (List.map (λ(x127:(Int×Int))=>(x127.1+(v125*x127.2))) (List.zip (ixD s118.1 v124) (ixD s118.1 v123)))) else s118.1)),.no,.no,.va true (dI v106),.tl (dRI (bif bb then (List.map (λ(ns130:List Int)=>setZ ns130 v123 ((ixD ns130 v123)-(v125*(ixD ns130 v124)))) s118.2) else s118.2)),.va false (dI x119),.va true (dI v123),.va true (dI v124),.va true (dI v125),.no]:L2.Ctx)) (zal (zdM (x:=v123) (y:=v124) (Ev.any (m:=true) (zaa (i:=10) rfl)) (Ev.any (m:=true) (zaa (i:=11) rfl)))) (λh126=>(zdl (f:=lI) (xs:=s118.1) (x:=(List.map (λ(x127:(Int×Int))=>(x127.1+(v125*x127.2))) (List.zip (ixD s118.1 v124) (ixD s118.1 v123)))) rfl (EvO.ev (EvO.conv (zcg (g:=(λ(x127:(Int×Int))=>dI (x127.1+(v125*x127.2)))) (zeH (m:=true) dI dI (xs:=(ixD s118.1 v124)) (ys:=(ixD s118.1 v123)) (Ev.weak (K:=K) (ev_ownIxM (f:=lI) (xs:=s118.1) rfl (Ev.any (m:=true) (zaa (i:=11) rfl)) (by exact sq_ix ((by assumption):StI W _ _).1 (zd6 hO hT (by assumption)).2.1 (zd6 hO hT (by assumption)).2.2))) (Ev.weak (K:=K) (ev_ownIxM (f:=lI) (xs:=s118.1) rfl (Ev.any (m:=true) (zaa (i:=10) rfl)) (by exact sq_ix ((by assumption):StI W _ _).1 (zd6 hO hT (by assumption)).1.1 (zd6 hO hT (by assumption)).1.2)))) (by exact zlA ((by assumption):StI W _ _).1 (zd6 hO hT (by assumption)).2 w8) ⟨by decide,by decide⟩ (λi128 x127 hx129=>have v129:=zdh hx129;(zaF (x:=x127.1) (y:=(v125*x127.2)) (Ev.any (m:=true) (zaa (i:=0) rfl)) (zav (x:=v125) (y:=x127.2) (Ev.any (m:=true) (zaa (i:=2) rfl)) (Ev.any (m:=true) (zaa (i:=1) rfl)) (by exact .inl ⟨by omega,by omega⟩))))) (by first | (rw [List.map_map];rfl) | (simp only [cond_true,cond_false];rw [List.map_map];rfl)))) (Ev.any (m:=true) (zaa (i:=11) rfl)) (by exact sq_ix ((by assumption):StI W _ _).1 (zd6 hO hT (by assumption)).2.1 (zd6 hO hT (by assumption)).2.2)
 (zfU (nss:=s118.2) (i:=8) (j:=13) (v:=λ(ns130:List Int)=>((ixD ns130 v123)-(v125*(ixD ns130 v124)))) (k:=v123) (P:=λ(ns130:List Int)=>ns130.length=(v106+P2).toNat) rfl rfl rfl (by exact ((by assumption):StI W _ _).2) (λns130 hns=>(by exact zjr hns (zd6 hO hT (by assumption)).1)) (λns130 hns=>Ev.borrow (m:=false) rfl (zaF (x:=(ixD ns130 v123)) (y:=(v125*(ixD ns130 v124))) (Ev.any (m:=true) (zdP (f:=dI) (xs:=ns130) (Ev.weak (K:=K) (zaa (i:=13) rfl)) (Ev.any (m:=true) (zaa (i:=10) rfl)) (by exact zjr hns (zd6 hO hT (by assumption)).1))) (zav (x:=v125) (y:=(ixD ns130 v124)) (Ev.any (m:=true) (zaa (i:=12) rfl)) (Ev.any (m:=true) (zdP (f:=dI) (xs:=ns130) (Ev.weak (K:=K) (zaa (i:=13) rfl)) (Ev.any (m:=true) (zaa (i:=11) rfl)) (by exact zjr hns (zd6 hO hT (by assumption)).2))) (by exact .inl ⟨by omega,by omega⟩)))) (λns130 hns=>Ev.borrow (m:=false) rfl (Ev.any (m:=true) (zaa (i:=10) rfl)))
 (zah (.eq (.eq (.eq (.eq (.eq (.eq (.eq (.eq (.eq (.eq (.eq (.eq (.eq (.eq .nil)))))))))))))))))) (λh126=>(zah (.eq (.eq (.eq (.eq (.eq (.eq (.eq (.eq (.eq (.eq (.eq (.eq (.eq (.eq .nil))))))))))))))))
 (zbZ (x:=(bif (!decide (v123=v124)) then (setZ s118.1 v124 (List.map (λ(x127:(Int×Int))=>(x127.1+(v125*x127.2))) (List.zip (ixD s118.1 v124) (ixD s118.1 v123)))) else s118.1)) (λv131=>([.va false (dQ K (List.map lI P0)),.va false (dQ K (List.map dI P1)),.va false (dI P2),.va false (dQ K (List.map dI P3)),.ow true (List.map lI v131),.no,.no,.va true (dI v106),.tl (dRI (bif (!decide (v123=v124)) then (List.map (λ(ns130:List Int)=>setZ ns130 v123 ((ixD ns130 v123)-(v125*(ixD ns130 v124)))) s118.2) else s118.2)),.va false (dI x119),.va true (dI v123),.va true (dI v124),.va true (dI v125),.no]:L2.Ctx)) (λz=>Oc.nx ((λ(s118:(List (List Int))×(List (List Int)))=>([.va false (dQ K (List.map lI P0)),.va false (dQ K (List.map dI P1)),.va false (dI P2),.va false (dQ K (List.map dI P3)),.ow true (List.map lI s118.1),.no,.no,.va true (dI v106),.tl (dRI s118.2),.no,.no,.no,.no,.no]:L2.Ctx)) z)) (λv131 hv131 =>
 (zbZ (x:=(bif (!decide (v123=v124)) then (List.map (λ(ns130:List Int)=>setZ ns130 v123 ((ixD ns130 v123)-(v125*(ixD ns130 v124)))) s118.2) else s118.2)) (λv132=>([.va false (dQ K (List.map lI P0)),.va false (dQ K (List.map dI P1)),.va false (dI P2),.va false (dQ K (List.map dI P3)),.ow true (List.map lI v131),.no,.no,.va true (dI v106),.tl (dRI v132),.va false (dI x119),.va true (dI v123),.va true (dI v124),.va true (dI v125),.no]:L2.Ctx)) (λz=>Oc.nx ((λ(s118:(List (List Int))×(List (List Int)))=>([.va false (dQ K (List.map lI P0)),.va false (dQ K (List.map dI P1)),.va false (dI P2),.va false (dQ K (List.map dI P3)),.ow true (List.map lI s118.1),.no,.no,.va true (dI v106),.tl (dRI s118.2),.no,.no,.no,.no,.no]:L2.Ctx)) z)) (λv132 hv132 =>
 (zah (.eq (.eq (.eq (.eq (.eq (.eq (.eq (.eq (.eq (.no (.no (.no (.no (.eq .nil))))))))))))))))))))))))))⟩) (λr133 hr133 hI =>
 (zgF rfl (zcc (i:=4) rfl (zag (zax (zeF (zab (zaa (i:=4) rfl) (zab (zls (zaa (i:=8) rfl)) zaf)) (by show 2≤sizeLine;decide))))))))))))))))))
theorem zhn {b:Nat} {l t:List Int} {q:Int} (h:Lat.Bit b l) (k:Lat.Bit b t) (hq:-2≤q∧q≤2):Lat.Bit (b+2) (List.map (λ(x:Int×Int)=>x.1+(q*x.2)) (List.zip l t))∧Lat.Bit (b+2) (List.map (λ(x:Int×Int)=>x.1-(q*x.2)) (List.zip l t)):=by
 have a4:(2:Nat)^(b+2)=4*2^b:=by rw [Nat.pow_add];omega
 have key:∀ x:Int×Int,x∈List.zip l t->x.1.natAbs≤2^b∧(q*x.2).natAbs≤2*2^b:=λx hx=>by
  obtain ⟨h1,h2⟩:=List.of_mem_zip (a:=x.1) (b:=x.2) hx
  exact ⟨h _ h1,by rw [Int.natAbs_mul];exact Nat.mul_le_mul (by omega) (k _ h2)⟩
 refine ⟨λy hy=>?_,λy hy=>?_⟩ <;>
 ·obtain ⟨x,hx,rfl⟩:=List.mem_map.mp hy
  have:=key x hx
  rw [a4]
  omega
def FrJ (W b:Nat) (s:List (List Int)×List (List Int)):Prop:=(s.1.length=W∧Lat.RB W b s.1)∧s.2.length=W∧Lat.RB W b s.2
theorem ziY {W b:Nat} {rows:List (List Int)} {i:Int} {y:List Int} (h:rows.length=W∧Lat.RB W b rows) (hy:y.length=W∧Lat.Bit (b+2) y):(setZ rows i y).length=W∧Lat.RB W (b+2) (setZ rows i y):=by
 refine ⟨by rw [zdL];exact h.1,λr hr=>?_⟩
 rcases Lat.setZ_mem hr with rfl | hr
 ·exact hy
 ·exact ⟨(h.2 r hr).1,((h.2 r hr).2).mono (by omega)⟩
theorem zkt {W b:Nat} {rows:List (List Int)} (h:rows.length=W∧Lat.RB W b rows):rows.length=W∧Lat.RB W (b+2) rows:=⟨h.1,λr hr=>⟨(h.2 r hr).1,((h.2 r hr).2).mono (by omega)⟩⟩
theorem zgW {W b n:Nat} {rows:List (List Int)} (h:rows.length=n∧Lat.RB W b rows):Sq W n rows:=⟨h.1,λr hr=>(h.2 r hr).1⟩
def frF (w:Int):List (List Int)×List (List Int)->Int->List (List Int)×List (List Int):=λs x=>Let (m_law_thing x (1:Int) w) (λ(one:Int)=>Let (m_law_thing x (2:Int) w) (λ(two:Int)=>Let ((m_law_thing x (3:Int) (5:Int))-(2:Int)) (λ(many:Int) =>
 Let (bif (!decide (one=two)) then (setZ s.1 two (List.map (λ(x35:(Int×Int))=>(x35.1+(many*x35.2))) (List.zip (ixD s.1 two) (ixD s.1 one)))) else s.1) (λ(rows41:(List (List Int))) =>
 Let (bif (!decide (one=two)) then (setZ s.2 one (List.map (λ(x38:(Int×Int))=>(x38.1-(many*x38.2))) (List.zip (ixD s.2 one) (ixD s.2 two)))) else s.2) (λ(v42:(List (List Int)))=>(rows41,v42))))))
theorem zh0 {w:Int} {W:Nat} (hw:w=(W:Int)) (h1:1≤w):∀ (cs:List Int) (b:Nat) (s:List (List Int)×List (List Int)),FrJ W b s->FrJ W (b+2*cs.length) (List.foldl (frF w) s cs)
 | [],b,s,h=>h
 | c :: cs,b,s,h=>by
  rw [List.foldl_cons,List.length_cons,show b+2*(cs.length+1)=b+2+2*cs.length by omega]
  refine zh0 hw h1 cs (b+2) _ ?_
  have hO:=zdk (c:=c) (k:=1) hw h1 rfl
  have hT:=zdk (c:=c) (k:=2) hw h1 rfl
  have hM:=zgk (c:=c) (k:=3) rfl
  unfold frF Let
  dsimp only
  generalize m_law_thing c 1 w=one at *
  generalize m_law_thing c 2 w=two at *
  generalize m_law_thing c 3 5-2=many at *
  have q1:=zgW h.1
  have q2:=zgW h.2
  have m:∀ {rows:List (List Int)} {x:Int},rows.length=W∧Lat.RB W b rows->0≤x∧x<(W:Int)->Lat.Bit b (ixD rows x):=λh hx=>(h.2 _ (zcR (sq_ix (zgW h) hx.1 hx.2))).2
  cases (!decide (one=two))
  ·exact ⟨zkt h.1,zkt h.2⟩
  ·exact ⟨ziY h.1 ⟨sq_zip q1 q1 hT hO,(zhn (m h.1 hT) (m h.1 hO) hM).1⟩,ziY h.2 ⟨sq_zip q2 q2 hO hT,(zhn (m h.2 hO) (m h.2 hT) hM).2⟩⟩
theorem zed {w:Int} {W:Nat} {cs:List Int} (hw:w=(W:Int)) (h1:1≤w):FrJ W (2*cs.length) (m_law_frame w cs):=by
 have h:=zh0 hw h1 cs 0 (List.map (λ(x:Int)=>List.map (λ(y:Int)=>(if (decide (y=x)) then (1:Int) else 0)) (zb2 0 w.toNat)) (zb2 0 w.toNat),List.map (λ(x:List Int)=>x) (List.map (λ(x:Int)=>List.map (λ(y:Int)=>(if (decide (y=x)) then (1:Int) else 0)) (zb2 0 w.toNat)) (zb2 0 w.toNat))) (by
  have h0:∀ x:Int,Lat.Bit 0 (List.map (λ(y:Int)=>(if (decide (y=x)) then (1:Int) else 0)) (zb2 0 w.toNat)):=λx y hy=>by
   obtain ⟨z,_,rfl⟩:=List.mem_map.mp hy
   cases decide (z=x)<;>decide
  have hA:((List.map (λ(x:Int)=>List.map (λ(y:Int)=>(if (decide (y=x)) then (1:Int) else 0)) (zb2 0 w.toNat)) (zb2 0 w.toNat)).length=W)∧Lat.RB W 0 (List.map (λ(x:Int)=>List.map (λ(y:Int)=>(if (decide (y=x)) then (1:Int) else 0)) (zb2 0 w.toNat)) (zb2 0 w.toNat)):=by
   refine ⟨by rw [List.length_map,zaD];omega,λr hr=>?_⟩
   obtain ⟨x,_,rfl⟩:=List.mem_map.mp hr
   exact ⟨by rw [List.length_map,zaD];omega,h0 x⟩
  exact ⟨hA,by rw [List.map_id'];exact hA⟩)
 rw [Nat.zero_add] at h
 exact h
def zlq (n:Nat) (swaps trips:List (List Int)):Prop:=∀ t∈trips,∀ j,j<n->Lat.comb t (swaps.map Lat.vec) j=0
def StJ (n k b c:Nat) (s:List (List Int)×List (List Int)):Prop:=(s.1.length=k∧Lat.RB n b s.1)∧(∀ t∈s.2,t.length=k∧Lat.Bit c t)∧zlq n s.1 s.2
theorem zin {rows:List (List Int)} {k:Nat} {y:List Int}:(rows.set k y).map Lat.vec=(rows.map Lat.vec).set k (Lat.vec y):=List.map_set
theorem setZ_nt {α:Type} {xs:List α} {k:Nat} {x:α} (h:k<xs.length):setZ xs (k:Int) x=xs.set k x:=by
 unfold setZ ixN
 rw [if_pos (by omega),if_pos (by omega)]
 show xs.set (k:Int).toNat x=_
 rw [Int.toNat_natCast]
def stF:List (List Int)×List (List Int)->Int->List (List Int)×List (List Int):=λs x=>Let (m_law_thing x (4:Int) (max (1:Int) ((s.1.length:Nat):Int))) (λ(one:Int)=>Let (m_law_thing x (5:Int) (max (1:Int) ((s.1.length:Nat):Int))) (λ(two:Int)=>Let ((m_law_thing x (6:Int) (5:Int))-(2:Int)) (λ(many:Int) =>
 Let (bif (!decide (one=two)) then (setZ s.1 two (List.map (λ(z:(Int×Int))=>(z.1+(many*z.2))) (List.zip (ixD s.1 two) (ixD s.1 one)))) else s.1) (λ(swaps:(List (List Int))) =>
 Let (bif (!decide (one=two)) then (List.map (λ(ns:List Int)=>setZ ns one ((ixD ns one)-(many*(ixD ns two)))) s.2) else s.2) (λ(trips:(List (List Int)))=>(swaps,trips))))))
theorem zg8 {n k:Nat}:∀ (cs:List Int) (b c:Nat) (s:List (List Int)×List (List Int)),StJ n k b c s->StJ n k (b+2*cs.length) (c+2*cs.length) (List.foldl stF s cs)
 | [],b,c,s,h=>h
 | x :: cs,b,c,s,h=>by
  rw [List.foldl_cons,List.length_cons,show b+2*(cs.length+1)=b+2+2*cs.length by omega,show c+2*(cs.length+1)=c+2+2*cs.length by omega]
  refine zg8 cs (b+2) (c+2) _ ?_
  obtain ⟨h1,h2,h3⟩:=h
  have hq:=zgW h1
  have hO:=zeQ (c:=x) (k:=4) hq rfl
  have hT:=zeQ (c:=x) (k:=5) hq rfl
  have hM:=zgk (c:=x) (k:=6) rfl
  unfold stF Let
  dsimp only
  generalize m_law_thing x 4 (max (1:Int) ((s.1.length:Nat):Int))=one at *
  generalize m_law_thing x 5 (max (1:Int) ((s.1.length:Nat):Int))=two at *
  generalize m_law_thing x 6 5-2=many at *
  by_cases e:one=two
  ·rw [decide_eq_true e]
   exact ⟨⟨h1.1,λr hr=>⟨(h1.2 r hr).1,((h1.2 r hr).2).mono (by omega)⟩⟩,λt ht=>⟨(h2 t ht).1,((h2 t ht).2).mono (by omega)⟩,h3⟩
  ·rw [decide_eq_false e]
   have hl:=zd6 hO hT (by simp [e])
   obtain ⟨o,rfl⟩:∃ o:Nat,one=(o:Int):=⟨one.toNat,by omega⟩
   obtain ⟨w,rfl⟩:∃ w:Nat,two=(w:Int):=⟨two.toNat,by omega⟩
   have how:o≠w:=λz=>e (by rw [z])
   have ho:o<s.1.length:=by rw [h1.1];omega
   have hw:w<s.1.length:=by rw [h1.1];omega
   have ge:∀ {i:Nat} (hi:i<s.1.length),ixD s.1 (i:Int)=s.1[i]:=λhi=>ze0 (List.getElem?_eq_getElem hi)
   show StJ n k (b+2) (c+2) (setZ s.1 (w:Int) _,List.map _ s.2)
   rw [ge ho,ge hw,setZ_nt hw]
   have ro:=h1.2 _ (List.getElem_mem ho)
   have rw':=h1.2 _ (List.getElem_mem hw)
   refine ⟨⟨by rw [List.length_set];exact h1.1,λr hr=>?_⟩,λt ht=>?_,λt ht j hj=>?_⟩
   ·rcases List.mem_or_eq_of_mem_set hr with h' | rfl
    ·exact ⟨(h1.2 r h').1,((h1.2 r h').2).mono (by omega)⟩
    ·exact ⟨by rw [List.length_map,List.length_zip,ro.1,rw'.1];omega,(zhn rw'.2 ro.2 hM).1⟩
   ·obtain ⟨ns,hns,rfl⟩:=List.mem_map.mp ht
    have hn:=h2 ns hns
    refine ⟨by rw [zdL];exact hn.1,λy hy=>?_⟩
    have a4:(2:Nat)^(c+2)=4*2^c:=by rw [Nat.pow_add];omega
    rcases Lat.setZ_mem hy with rfl | hy
    ·have b1:=hn.2 _ (zcR (xs:=ns) (i:=(o:Int)) (by unfold InB;omega))
     have b2:=hn.2 _ (zcR (xs:=ns) (i:=(w:Int)) (by unfold InB;omega))
     have b3:(many*ixD ns (w:Int)).natAbs≤2*2^c:=by rw [Int.natAbs_mul];exact Nat.mul_le_mul (by omega) b2
     rw [a4];omega
    ·have:=hn.2 y hy
     rw [a4];omega
   ·obtain ⟨ns,hns,rfl⟩:=List.mem_map.mp ht
    have hn:=h2 ns hns
    have no:o<ns.length:=by omega
    have nw:w<ns.length:=by omega
    have e1:ixD ns (o:Int)=ns[o]:=ze0 (List.getElem?_eq_getElem no)
    have e2:ixD ns (w:Int)=ns[w]:=ze0 (List.getElem?_eq_getElem nw)
    rw [setZ_nt no,e1,e2,zin]
    rw [Lat.zhp (t1:=ns[o]) (t2:=ns[w]) (a1:=Lat.vec s.1[o]) (a2:=Lat.vec s.1[w]) how (List.getElem?_eq_getElem no) (List.getElem?_eq_getElem nw) (by rw [List.getElem?_map,List.getElem?_eq_getElem ho];rfl) (by rw [List.getElem?_map,List.getElem?_eq_getElem hw];rfl) (Lat.zgT (by rw [ro.1,rw'.1]))]
    exact h3 ns hns j hj
theorem zhh {W b:Nat}:∀ (l:List (List Int×Int)) (acc:List (List Int)),(∀ p∈l,p.1.length=W∧Lat.Bit b p.1∧0≤p.2∧p.2≤1000000001)->Lat.RB W (b+30) acc->(List.foldl (λ(s:List (List Int)) (x:List Int×Int)=>Let (bif (decide ((0:Int)<x.2)) then (s++[List.map (λ(y:Int)=>(x.2*y)) x.1]) else s) (λ(z:List (List Int))=>z)) acc l).length≤acc.length+l.length∧Lat.RB W (b+30) (List.foldl (λ(s:List (List Int)) (x:List Int×Int)=>Let (bif (decide ((0:Int)<x.2)) then (s++[List.map (λ(y:Int)=>(x.2*y)) x.1]) else s) (λ(z:List (List Int))=>z)) acc l)
 | [],acc,_,h=>⟨Nat.le_refl _,h⟩
 | p :: l,acc,hl,h=>by
  have hp:=hl p List.mem_cons_self
  rw [List.foldl_cons]
  have hn:(bif (decide ((0:Int)<p.2)) then (acc++[List.map (λ(y:Int)=>(p.2*y)) p.1]) else acc).length≤acc.length+1∧Lat.RB W (b+30) (bif (decide ((0:Int)<p.2)) then (acc++[List.map (λ(y:Int)=>(p.2*y)) p.1]) else acc):=by
   cases decide ((0:Int)<p.2)
   ·exact ⟨Nat.le_succ _,h⟩
   ·refine ⟨by rw [cond_true,List.length_append,List.length_singleton];exact Nat.le_refl _,λr hr=>?_⟩
    rcases List.mem_append.mp hr with hr | hr
    ·exact h r hr
    ·rw [List.mem_singleton.mp hr]
     refine ⟨by rw [List.length_map];exact hp.1,λy hy=>?_⟩
     obtain ⟨z,hz,rfl⟩:=List.mem_map.mp hy
     rw [Int.natAbs_mul,Nat.pow_add,Nat.mul_comm]
     exact Nat.mul_le_mul (hp.2.1 z hz) (Nat.le_trans (show p.2.natAbs≤1000000001 by omega) (by decide))
  have:=zhh l _ (λq hq=>hl q (List.mem_cons_of_mem _ hq)) hn.2
  refine ⟨Nat.le_trans this.1 ?_,this.2⟩
  rw [List.length_cons]
  have:=hn.1
  omega
theorem zj3 {W k:Nat} {a:List (List Int)} {idle:Int} (h0:0≤idle) {w:Int}:zlq W (a++List.map (λ(_:Int)=>zfc w [(0:Int)]) (zb2 0 idle.toNat)) (List.map (λ(x:Int)=>List.map (λ(y:Int)=>(if (decide (y=(((a.length:Nat):Int)+x))) then (1:Int) else 0)) (zb2 0 (((a.length:Nat):Int)+idle).toNat)) (zb2 0 idle.toNat)):=λt ht j _=>by
 obtain ⟨x,hx,rfl⟩:=List.mem_map.mp ht
 have hx0:=(mem_rngZ.mp hx).1
 refine Lat.zft λi y v h1 h2=>?_
 rw [List.getElem?_map] at h1 h2
 cases q:(zb2 0 (((a.length:Nat):Int)+idle).toNat)[i]? with
 | none=>rw [q] at h1;cases h1
 | some z =>
  rw [q] at h1
  obtain ⟨g1,g2⟩:=zbm q
  have h1:(if (decide (z=(((a.length:Nat):Int)+x))) then (1:Int) else 0)=y:=Option.some.inj h1
  by_cases e:i<a.length
  ·rw [decide_eq_false (by omega)] at h1
   rw [← h1];simp
  ·rw [List.getElem?_append_right (by omega),List.getElem?_map] at h2
   cases q2:(zb2 0 idle.toNat)[i-a.length]? with
   | none=>rw [q2] at h2;cases h2
   | some z2 =>
    rw [q2] at h2
    have h2:Lat.vec (zfc w [(0:Int)])=v:=Option.some.inj h2
    rw [← h2]
    have:Lat.vec (zfc w [(0:Int)]) j=0:=by
     by_cases hw:0≤w
     ·obtain ⟨n,rfl⟩:∃ n:Nat,w=(n:Int):=⟨w.toNat,by omega⟩
      exact Lat.zg5
     ·unfold zfc
      rw [show w.toNat=0 by omega]
      simp [Lat.vec]
    rw [this];simp
theorem zgP {W b:Nat} {rows:List (List Int)} {bs cs:List Int} {idle:Int} (hr:rows.length=W∧Lat.RB W b rows) (hw:W≤8) (hb:∀ x∈bs,0≤x∧x≤1000000001) (hi:0≤idle∧idle≤3) :
  ∃ k,k≤11∧StJ W k (b+30+2*cs.length) (2*cs.length) (m_law_stirred rows bs idle cs):=by
 have h0:=zhh (W:=W) (b:=b) (List.zip rows bs) [] (λp hp=>by
  have:=List.of_mem_zip (a:=p.1) (b:=p.2) hp
  exact ⟨(hr.2 _ this.1).1,(hr.2 _ this.1).2,hb _ this.2⟩) (λr hr=>by simp at hr)
 rw [List.length_zip,List.length_nil,Nat.zero_add] at h0
 unfold m_law_stirred
 generalize ha:(List.foldl (λ(s:List (List Int)) (x:List Int×Int)=>Let (bif (decide ((0:Int)<x.2)) then (s++[List.map (λ(y:Int)=>(x.2*y)) x.1]) else s) (λ(z:List (List Int))=>z)) [] (List.zip rows bs))=a at h0
 show ∃ k,k≤11∧StJ W k _ _ (List.foldl stF (a++List.map (λ(_:Int)=>zfc ((rows.length:Nat):Int) [(0:Int)]) (zb2 0 idle.toNat),List.map (λ(x:Int)=>List.map (λ(y:Int)=>(if (decide (y=(((a.length:Nat):Int)+x))) then (1:Int) else 0)) (zb2 0 (((a.length:Nat):Int)+idle).toNat)) (zb2 0 idle.toNat)) cs)
 have hl:=hr.1
 refine ⟨a.length+idle.toNat,by have:=h0.1;omega,?_⟩
 have:=zg8 (n:=W) (k:=a.length+idle.toNat) cs (b+30) 0 (a++List.map (λ(_:Int)=>zfc ((rows.length:Nat):Int) [(0:Int)]) (zb2 0 idle.toNat),List.map (λ(x:Int)=>List.map (λ(y:Int)=>(if (decide (y=(((a.length:Nat):Int)+x))) then (1:Int) else 0)) (zb2 0 (((a.length:Nat):Int)+idle).toNat)) (zb2 0 idle.toNat)) ⟨⟨by rw [List.length_append,List.length_map,zaD],λr hr'=>?_⟩,λt ht=>?_,zj3 (k:=0) (a:=a) (w:=((rows.length:Nat):Int)) hi.1⟩
 ·rw [Nat.zero_add] at this
  exact this
 ·rcases List.mem_append.mp hr' with hr' | hr'
  ·exact h0.2 r hr'
  ·obtain ⟨x,_,rfl⟩:=List.mem_map.mp hr'
   refine ⟨by rw [Lat.zhX];exact hl,λy hy=>?_⟩
   obtain ⟨j,_,rfl⟩:=Lat.zjJ hy
   rw [Lat.zg5];exact Nat.zero_le _
 ·obtain ⟨x,_,rfl⟩:=List.mem_map.mp ht
  refine ⟨by rw [List.length_map,zaD];omega,λy hy=>?_⟩
  obtain ⟨z,_,rfl⟩:=List.mem_map.mp hy
  cases decide (z=(((a.length:Nat):Int)+x))<;>decide
theorem zlp {b:Bool} {c w0 w:Int} (e0:w0=((1:Int)+(c%(4:Int)))) (e:w=bif b then ((5:Int)+((c/(64:Int))%(4:Int))) else w0):1≤w∧w≤8:=by
 subst e0 e;cases b
 ·rw [cond_false];omega
 ·rw [cond_true];omega
theorem md_stp {w c:Int} {cs bs:List Int} {p:List (List Int)×List (List Int)} {x k:Int} (hw:1≤w∧w≤8) (e:p=m_law_frame w cs) (eb:bs=m_law_bottoms w x k):StP p.1 bs ((c/(64:Int))%(4:Int)):=by
 obtain ⟨W,hW⟩:∃ W:Nat,w=(W:Int):=⟨w.toNat,by omega⟩
 have h:=zed (cs:=cs) hW hw.1
 subst e eb
 have hb:=zhP (w:=w) (c:=x) (f:=k) (by omega)
 exact ⟨W,by omega,by omega,zgW h.1,by rw [hb.1];omega,hb.2,by omega,by omega⟩
def MdP (w:Int) (s:List (List Int)×List (List Int)):Prop:=∃ k,k≤11∧StJ w.toNat k 160 66 s
theorem zj7 {w c:Int} {cs ds bs:List Int} {p q:List (List Int)×List (List Int)} {x k:Int} (hw:1≤w∧w≤8) (e:p=m_law_frame w cs) (eb:bs=m_law_bottoms w x k) (h1:cs.length≤31) (h2:ds.length≤33) (eq:q=m_law_stirred p.1 bs ((c/(64:Int))%(4:Int)) ds):MdP w q:=by
 obtain ⟨W,hW⟩:∃ W:Nat,w=(W:Int):=⟨w.toNat,by omega⟩
 have h:=zed (cs:=cs) hW hw.1
 subst e eb eq
 have hb:=zhP (w:=w) (c:=x) (f:=k) (by omega)
 obtain ⟨k',h3,h4⟩:=zgP (cs:=ds) (idle:=(c/(64:Int))%(4:Int)) h.1 (by omega) hb.2 (by omega)
 refine ⟨k',h3,?_⟩
 rw [show w.toNat=W by omega]
 obtain ⟨a,b,d⟩:=h4
 exact ⟨⟨a.1,λr hr=>⟨(a.2 r hr).1,((a.2 r hr).2).mono (by omega)⟩⟩,λt ht=>⟨(b t ht).1,((b t ht).2).mono (by omega)⟩,d⟩
theorem zeP {α:Type} {xs:List α} {a b:Option Int}:(cutD xs a b).length≤xs.length:=by
 unfold cutD
 rw [List.length_take,List.length_drop]
 omega
theorem zfa {xs:List Int} {h:Int} (e:h=((xs.length:Nat):Int)/(2:Int)) (hx:xs.length≤60):(cutD xs none (some h)).length≤31∧(cutD xs (some h) none).length≤33:=by
 obtain ⟨k,rfl⟩:∃ k:Nat,h=(k:Int):=⟨h.toNat,by omega⟩
 unfold cutD
 simp only [HT.sIx_nat,HT.sIx_none,List.length_take,List.length_drop]
 omega
theorem zez {xs ys:List Int} (h:xs.length≤63) (e:ys=cutD xs (some (2:Int)) (some (62:Int))):ys.length≤60:=by
 subst e
 unfold cutD
 rw [show (some (2:Int))=some ((2:Nat):Int) from rfl,show (some (62:Int))=some ((62:Nat):Int) from rfl,HT.sIx_nat,HT.sIx_nat,List.length_take,List.length_drop]
 omega
theorem zeg {α:Type} {xs:List α} {t:Int} (h0:0≤t):cutD xs (some t) none++cutD xs none (some t)=xs.drop t.toNat++xs.take t.toNat:=by
 obtain ⟨k,rfl⟩:∃ k:Nat,t=(k:Int):=⟨t.toNat,by omega⟩
 rw [Int.toNat_natCast]
 unfold cutD
 simp only [HT.sIx_nat,HT.sIx_none]
 by_cases h:k≤xs.length
 ·rw [Nat.min_eq_left h,List.drop_zero,Nat.sub_zero,List.take_of_length_le (by rw [List.length_drop];omega)]
 ·have e1:xs.drop k=[]:=List.drop_eq_nil_of_le (by omega)
  have e2:xs.take k=xs:=List.take_of_length_le (by omega)
  rw [Nat.min_eq_right (by omega),e1,e2]
  simp
theorem zkW {w:Int} {s:List (List Int)×List (List Int)} {t:Int} (h:MdP w s):(cutD s.1 (some t) none).length+(cutD s.1 none (some t)).length≤PySem.sizeLine:=by
 obtain ⟨k,hk,h1,h2,h3⟩:=h
 exact zak (by have:=zeP (xs:=s.1) (a:=some t) (b:=none);have:=zeP (xs:=s.1) (a:=none) (b:=some t);have:=h1.1;omega)
theorem zlB {w:Int} {s:List (List Int)×List (List Int)} {t:Int} {r:List Int} (h:MdP w s) (hr:r∈s.2):(cutD r (some t) none).length+(cutD r none (some t)).length≤PySem.sizeLine:=by
 obtain ⟨k,hk,h1,h2,h3⟩:=h
 exact zak (by have:=zeP (xs:=r) (a:=some t) (b:=none);have:=zeP (xs:=r) (a:=none) (b:=some t);have:=(h2 r hr).1;omega)
theorem zlE {s:List (List Int)×List (List Int)} (h:s.2.length≤3):s.2.length≤PySem.sizeLine:=zak (by omega)
theorem zgt:∀ (cs:List Int) (s:List (List Int)×List (List Int)),(List.foldl stF s cs).2.length=s.2.length
 | [],_=>rfl
 | c :: cs,s=>by
  rw [List.foldl_cons,zgt cs]
  unfold stF Let
  dsimp only
  cases (!decide (m_law_thing c (4:Int) (max (1:Int) ((s.1.length:Nat):Int))=m_law_thing c (5:Int) (max (1:Int) ((s.1.length:Nat):Int))))
  ·rfl
  ·rw [cond_true,List.length_map]
theorem zjb {rows:List (List Int)} {bs cs:List Int} {c:Int} {q:List (List Int)×List (List Int)} (e:q=m_law_stirred rows bs ((c/(64:Int))%(4:Int)) cs):q.2.length=((c/(64:Int))%(4:Int)).toNat:=by
 subst e
 unfold m_law_stirred
 refine (zgt cs _).trans ?_
 show (List.map _ (zb2 0 ((c/(64:Int))%(4:Int)).toNat)).length=_
 rw [List.length_map,zaD]
def m_law_made (P0:(List Int)):(T5 (List (List Int)) (List (List Int)) (List Int) (List (List Int)) (List (List Int))) :=
 (Let (m_law_cell P0 (0:Int)) (λ(v134:Int) =>
 (Let ((1:Int)+(v134%(4:Int))) (λ(v135:Int) =>
 (Let (bif (decide (((v134/(4:Int))%(16:Int))=(7:Int))) then ((5:Int)+((v134/(64:Int))%(4:Int))) else v135) (λ(v137:Int) =>
 (Let (cutD P0 (some (2:Int)) (some (62:Int))) (λ(v138:(List Int)) =>
 (Let (((v138.length:Nat):Int)/(2:Int)) (λ(hv139:Int) =>
 (Let (m_law_frame v137 (cutD v138 none (some hv139))) (λ(p140:((List (List Int))×(List (List Int)))) =>
 (Let (m_law_bottoms v137 (m_law_raw P0 (1:Int)) (7:Int)) (λ(v141:(List Int)) =>
 (Let (m_law_stirred p140.1 v141 ((v134/(64:Int))%(4:Int)) (cutD v138 (some hv139) none)) (λ(p142:((List (List Int))×(List (List Int)))) =>
 (Let ((v134/(256:Int))%(((p142.1.length:Nat):Int)+(1:Int))) (λ(v143:Int) =>
 (Let ((cutD p142.1 (some v143) none)++(cutD p142.1 none (some v143))) (λ(v144:(List (List Int))) =>
 (Let (List.map (λ(x145:(List Int))=>((cutD x145 (some v143) none)++(cutD x145 none (some v143)))) p142.2) (λ(v148:(List (List Int))) =>
 (T5.mk p140.1 p140.2 v141 v144 v148)))))))))))))))))))))))
def zcH (P0:(List Int)):Prop:=P0.length≤63
def zdD (K:W.Frag) (A:Adr):Sp:=Spv (ι:=(List Int)) (λx=>[dQ K (List.map dI x)]) (λx=>zcH x) (λx=>.va true (dT [dL (List.map lI ((m_law_made x).a)),dL (List.map lI ((m_law_made x).b)),dL (List.map dI ((m_law_made x).c)),dL (List.map lI ((m_law_made x).d)),dL (List.map lI ((m_law_made x).e))]))
theorem zaz:FnScope ["_law_script","_law_cell_here","_law_wide","_law_cells","_law_half","_law_rows","_law_duals","_law_bottoms_here","_law_swaps","_law_trips","_law_turn"] ["_law_script"] (defScope zbU):=⟨rfl,rfl,rfl,by decide +kernel,rfl,by decide +kernel,by decide +kernel⟩
theorem zfT (F:Fun K "_law_made" "_law_made" zbU f fd) (T:Txt K mg A) (G_law_bottoms:Callee P w K mg base (CXE P w) 2 "_law_bottoms" ["_law_wide","_law_cell_here","_law_far"] (zcI K A)) (G_law_cell:Callee P w K mg base (CXE P w) 1 "_law_cell" ["_law_script","_law_k"] (zdC K A)) (G_law_frame:Callee P w K mg base (CXE P w) 2 "_law_frame" ["_law_wide","_law_cells"] (zdd K A)) (G_law_raw:Callee P w K mg base (CXE P w) 1 "_law_raw" ["_law_script","_law_k"] (zdZ K A)) (G_law_stirred:Callee P w K mg base (CXE P w) 2 "_law_stirred" ["_law_rows","_law_bottoms_here","_law_idle","_law_cells"] (zcJ K A)):FnOk P w K mg base (CXE P w) 3 f fd ["_law_script"] (zdD K A):=by
 refine F.okV zaz (λ_=>rfl) (λcdv Ar outer s H E P0 hr hp=>?_)
 have hu:=hr.units
 replace hp:zcH P0:=hp
 unfold zcH at hp
 refine ⟨_,(zac (zao (i:=1) zaz.nd rfl (Or.inl rfl) (pe_fn G_law_cell (hr.mono (by decide)) rfl passE (pa_cons (pv 0) (pa_cons zae pa_nil))))
 (zac (zao (i:=2) zaz.nd rfl (Or.inl rfl) (zam zb8 zae (zam zbi (pv 1) zae)))
 (zac (zbx (zau op_eq (zam zbi (zam zcl (pv 1) zae) zae) zae (nomark _))
 (zac (zao (i:=2) zaz.nd rfl (Or.inl rfl) (zam zb8 zae (zam zbi (zam zcl (pv 1) zae) zae)))
 zad)
 zad)
 (zac (zao (i:=3) zaz.nd rfl (Or.inl rfl) (zcm (zbD (K:=K) rfl) (pv 0) (zcv zae) (zcv zae)))
 (zac (zao (i:=4) zaz.nd rfl (Or.inl rfl) (zam zcl (pe_callB (zaq (K:=K) rfl) rfl T.len PySem.boot_len (pa_cons (pv 3) pa_nil)) zae))
 (zac (zdv (pe_fn G_law_frame (hr.mono (by decide)) rfl passE (pa_cons (pv 2) (pa_cons (zcm (zbD (K:=K) rfl) (pv 3) zdw (zcv (pv 4))) pa_nil))) (zbh (K:=K) (n:=2) rfl rfl (zap (pg_name (i:=5) zaz.nd rfl (Or.inl rfl) (Or.inl rfl)) (zap (pg_name (i:=6) zaz.nd rfl (Or.inl rfl) (Or.inl rfl)) zbL))))
 (zac (zao (i:=7) zaz.nd rfl (Or.inl rfl) (pe_fn G_law_bottoms (hr.mono (by decide)) rfl passE (pa_cons (pv 2) (pa_cons (pe_fn G_law_raw (hr.mono (by decide)) rfl passE (pa_cons (pv 0) (pa_cons zae pa_nil))) (pa_cons zae pa_nil)))))
 (zac (zdv (pe_fn G_law_stirred (hr.mono (by decide)) rfl passE (pa_cons (pv 5) (pa_cons (pv 7) (pa_cons (zam zbi (zam zcl (pv 1) zae) zae) (pa_cons (zcm (zbD (K:=K) rfl) (pv 3) (zcv (pv 4)) zdw) pa_nil))))) (zbh (K:=K) (n:=2) rfl rfl (zap (pg_name (i:=8) zaz.nd rfl (Or.inl rfl) (Or.inl rfl)) (zap (pg_name (i:=9) zaz.nd rfl (Or.inl rfl) (Or.inl rfl)) zbL))))
 (zac (zao (i:=10) zaz.nd rfl (Or.inr rfl) (zam zbi (zam zcl (pv 1) zae) (zam zb8 (pe_callB (zaq (K:=K) rfl) rfl T.len PySem.boot_len (pa_cons (pv 8) pa_nil)) zae)))
 (zac (zao (i:=8) zaz.nd rfl (Or.inl rfl) (zam zcK (zcm (zbD (K:=K) rfl) (pv 8) (zcv (pv 10)) zdw) (zcm (zbD (K:=K) rfl) (pv 8) zdw (zcv (pv 10)))))
 (zac (zeU (i:=9) rfl zaz.nd rfl rfl (.of (osc:=(defScope zbU)) (N:=["_law_script","_law_cell_here","_law_wide","_law_cells","_law_half","_law_rows","_law_duals","_law_bottoms_here","_law_swaps","_law_trips","_law_turn"]) (own:=["_law_trip"]) (fvn:=["_law_turn"]) (fv:=[10]) rfl rfl (by decide +kernel)) (pi_list_K (K:=K) rfl (pv 9)) (λ_ _ _ _ _=>⟨(pg_name (i:=0) (show (["_law_trip","_law_turn"]:List Str).Nodup by decide +kernel) rfl (Or.inl rfl) (Or.inr rfl)),pts_nil,(zam zcK (zcm (zbD (K:=K) rfl) (pv 0) (zcv (pv 1)) zdw) (zcm (zbD (K:=K) rfl) (pv 0) zdw (zcv (pv 1))))⟩))
 (zac (zaE (zeL (pa_cons (pv 5) (pa_cons (pv 6) (pa_cons (pv 7) (pa_cons (pv 8) (pa_cons (pv 9) pa_nil)))))))
 zad)))))))))))),.inl ?_⟩
 show L2.Run _ ([.va false (dQ K (List.map dI P0)),.no,.no,.no,.no,.no,.no,.no,.no,.no,.no]:L2.Ctx) _ ((λ(r:(T5 (List (List Int)) (List (List Int)) (List Int) (List (List Int)) (List (List Int))))=>Oc.rt true (dT [dL (List.map lI r.a),dL (List.map lI r.b),dL (List.map dI r.c),dL (List.map lI r.d),dL (List.map lI r.e)])) (m_law_made P0))
 unfold m_law_made
 exact (zan (m:=true) (x:=(m_law_cell P0 (0:Int))) dI (λ(r:(T5 (List (List Int)) (List (List Int)) (List Int) (List (List Int)) (List (List Int))))=>Oc.rt true (dT [dL (List.map lI r.a),dL (List.map lI r.b),dL (List.map dI r.c),dL (List.map lI r.d),dL (List.map lI r.e)])) (Ev.any (m:=true) (zaA (x:=(P0,(0:Int))) (zab (zaa (i:=0) rfl) (zab zaw zaf)) rfl (by show zb7 P0 (0:Int);unfold zb7;decide) rfl)) (λv134 hv134 =>
 (zan (m:=true) (x:=((1:Int)+(v134%(4:Int)))) dI (λ(r:(T5 (List (List Int)) (List (List Int)) (List Int) (List (List Int)) (List (List Int))))=>Oc.rt true (dT [dL (List.map lI r.a),dL (List.map lI r.b),dL (List.map dI r.c),dL (List.map lI r.d),dL (List.map lI r.e)])) (zaF (x:=(1:Int)) (y:=(v134%(4:Int))) zaw (zav (x:=v134) (y:=(4:Int)) (Ev.any (m:=true) (zaa (i:=1) rfl)) zaw (by decide))) (λv135 hv135 =>
 have hW0:=hv135;(zbC (b:=(decide (((v134/(4:Int))%(16:Int))=(7:Int)))) (λbb=>([.va false (dQ K (List.map dI P0)),.va true (dI v134),.va true (dI (bif bb then ((5:Int)+((v134/(64:Int))%(4:Int))) else v135)),.no,.no,.no,.no,.no,.no,.no,.no]:L2.Ctx)) (zal (zc3 (x:=((v134/(4:Int))%(16:Int))) (y:=(7:Int)) (zav (x:=(v134/(4:Int))) (y:=(16:Int)) (zav (x:=v134) (y:=(4:Int)) (Ev.any (m:=true) (zaa (i:=1) rfl)) zaw (by exact ⟨by decide,by decide⟩)) zaw (by decide)) zaw)) (λh136=>(zdE (m:=true) (zaF (x:=(5:Int)) (y:=((v134/(64:Int))%(4:Int))) zaw (zav (x:=(v134/(64:Int))) (y:=(4:Int)) (zav (x:=v134) (y:=(64:Int)) (Ev.any (m:=true) (zaa (i:=1) rfl)) zaw (by exact ⟨by decide,by decide⟩)) zaw (by decide)))
 (zah (.eq (.eq (.eq (.eq (.eq (.eq (.eq (.eq (.eq (.eq (.eq .nil)))))))))))))) (λh136=>(zah (.eq (.eq (.eq (.eq (.eq (.eq (.eq (.eq (.eq (.eq (.eq .nil)))))))))))))
 (zbZ (x:=(bif (decide (((v134/(4:Int))%(16:Int))=(7:Int))) then ((5:Int)+((v134/(64:Int))%(4:Int))) else v135)) (λv137=>([.va false (dQ K (List.map dI P0)),.va true (dI v134),.va true (dI v137),.no,.no,.no,.no,.no,.no,.no,.no]:L2.Ctx)) (λ(r:(T5 (List (List Int)) (List (List Int)) (List Int) (List (List Int)) (List (List Int))))=>Oc.rt true (dT [dL (List.map lI r.a),dL (List.map lI r.b),dL (List.map dI r.c),dL (List.map lI r.d),dL (List.map lI r.e)])) (λv137 hv137 =>
 have hW:=zlp hW0 hv137;(zan (m:=true) (x:=(cutD P0 (some (2:Int)) (some (62:Int)))) lI (λ(r:(T5 (List (List Int)) (List (List Int)) (List Int) (List (List Int)) (List (List Int))))=>Oc.rt true (dT [dL (List.map lI r.a),dL (List.map lI r.b),dL (List.map dI r.c),dL (List.map lI r.d),dL (List.map lI r.e)])) (EvO.ev (EvO.anyI (m:=false) (zcS (f:=dI) (xs:=P0) (zaa (i:=0) rfl) (zbB zaw) (zbB zaw)))) (λv138 hv138 =>
 have hC:=zez hp hv138;(zan (m:=true) (x:=(((v138.length:Nat):Int)/(2:Int))) dI (λ(r:(T5 (List (List Int)) (List (List Int)) (List Int) (List (List Int)) (List (List Int))))=>Oc.rt true (dT [dL (List.map lI r.a),dL (List.map lI r.b),dL (List.map dI r.c),dL (List.map lI r.d),dL (List.map lI r.e)])) (zav (x:=((v138.length:Nat):Int)) (y:=(2:Int)) (zbj (f:=dI) (xs:=v138) (Ev.old (Ev.weak (K:=K) (zaa (i:=3) rfl)))) zaw (by exact ⟨by decide,by decide⟩)) (λhv139 hhalf139 =>
 have hH:=zfa hhalf139 hC;(zdj (m:=true) (x:=(m_law_frame v137 (cutD v138 none (some hv139)))) (λ(p140:((List (List Int))×(List (List Int))))=>dL (List.map lI p140.1)) (λ(p140:((List (List Int))×(List (List Int))))=>dL (List.map lI p140.2)) (λ(r:(T5 (List (List Int)) (List (List Int)) (List Int) (List (List Int)) (List (List Int))))=>Oc.rt true (dT [dL (List.map lI r.a),dL (List.map lI r.b),dL (List.map dI r.c),dL (List.map lI r.d),dL (List.map lI r.e)])) (zaA (x:=(v137,(cutD v138 none (some hv139)))) (zab (Ev.any (m:=true) (zaa (i:=2) rfl)) (zab (Ev.weak (K:=K) (EvO.ev (EvO.anyI (m:=true) (zcS (f:=dI) (xs:=v138) (Ev.weak (K:=K) (zaa (i:=3) rfl)) zcX (zbB (Ev.any (m:=true) (zaa (i:=4) rfl))))))) zaf)) rfl (by show zci v137 (cutD v138 none (some hv139));exact hW) rfl) (λp140 hp140 =>
 have hF:=hp140;(zan (m:=true) (x:=(m_law_bottoms v137 (m_law_raw P0 (1:Int)) (7:Int))) lI (λ(r:(T5 (List (List Int)) (List (List Int)) (List Int) (List (List Int)) (List (List Int))))=>Oc.rt true (dT [dL (List.map lI r.a),dL (List.map lI r.b),dL (List.map dI r.c),dL (List.map lI r.d),dL (List.map lI r.e)])) (EvO.ev (EvO.anyI (m:=true) (zgo (x:=(v137,(m_law_raw P0 (1:Int)),(7:Int))) (zab (Ev.any (m:=true) (zaa (i:=2) rfl)) (zab (Ev.any (m:=true) (zaA (x:=(P0,(1:Int))) (zab (zaa (i:=0) rfl) (zab zaw zaf)) rfl (by show zcz P0 (1:Int);unfold zcz;decide) rfl)) (zab zaw zaf))) rfl (by show zby v137 (m_law_raw P0 (1:Int)) (7:Int);exact ⟨by omega,by omega,by decide,by decide⟩) rfl))) (λv141 hv141 =>
 have hB:=hv141;(zdj (m:=true) (x:=(m_law_stirred p140.1 v141 ((v134/(64:Int))%(4:Int)) (cutD v138 (some hv139) none))) (λ(p142:((List (List Int))×(List (List Int))))=>dL (List.map lI p142.1)) (λ(p142:((List (List Int))×(List (List Int))))=>dL (List.map lI p142.2)) (λ(r:(T5 (List (List Int)) (List (List Int)) (List Int) (List (List Int)) (List (List Int))))=>Oc.rt true (dT [dL (List.map lI r.a),dL (List.map lI r.b),dL (List.map dI r.c),dL (List.map lI r.d),dL (List.map lI r.e)])) (zaA (x:=(p140.1,v141,((v134/(64:Int))%(4:Int)),(cutD v138 (some hv139) none))) (zab (Ev.old (Ev.weak (K:=K) (zaa (i:=5) rfl))) (zab (Ev.old (Ev.weak (K:=K) (zaa (i:=7) rfl))) (zab (zav (x:=(v134/(64:Int))) (y:=(4:Int)) (zav (x:=v134) (y:=(64:Int)) (Ev.any (m:=true) (zaa (i:=1) rfl)) zaw (by exact ⟨by decide,by decide⟩)) zaw (by decide)) (zab (Ev.weak (K:=K) (EvO.ev (EvO.anyI (m:=true) (zcS (f:=dI) (xs:=v138) (Ev.weak (K:=K) (zaa (i:=3) rfl)) (zbB (Ev.any (m:=true) (zaa (i:=4) rfl))) zcX)))) zaf)))) rfl (by show zbz p140.1 v141 ((v134/(64:Int))%(4:Int)) (cutD v138 (some hv139) none);exact md_stp hW hF hB) rfl) (λp142 hp142 =>
 have hQ:=zj7 hW hF hB hH.1 hH.2 hp142;have h3:=zjb hp142;(zan (m:=true) (x:=((v134/(256:Int))%(((p142.1.length:Nat):Int)+(1:Int)))) dI (λ(r:(T5 (List (List Int)) (List (List Int)) (List Int) (List (List Int)) (List (List Int))))=>Oc.rt true (dT [dL (List.map lI r.a),dL (List.map lI r.b),dL (List.map dI r.c),dL (List.map lI r.d),dL (List.map lI r.e)])) (zav (x:=(v134/(256:Int))) (y:=(((p142.1.length:Nat):Int)+(1:Int))) (zav (x:=v134) (y:=(256:Int)) (Ev.any (m:=true) (zaa (i:=1) rfl)) zaw (by exact ⟨by decide,by decide⟩)) (zaF (x:=((p142.1.length:Nat):Int)) (y:=(1:Int)) (zbj (f:=lI) (xs:=p142.1) (Ev.old (Ev.weak (K:=K) (zaa (i:=8) rfl)))) zaw) (by show (0:Int)<_;omega)) (λv143 hv143 =>
 (zan (m:=true) (x:=((cutD p142.1 (some v143) none)++(cutD p142.1 none (some v143)))) (λ(xs:(List (List Int)))=>dL (List.map lI xs)) (λ(r:(T5 (List (List Int)) (List (List Int)) (List Int) (List (List Int)) (List (List Int))))=>Oc.rt true (dT [dL (List.map lI r.a),dL (List.map lI r.b),dL (List.map dI r.c),dL (List.map lI r.d),dL (List.map lI r.e)])) (EvO.ev (zbV (f:=lI) (xs:=(cutD p142.1 (some v143) none)) (ys:=(cutD p142.1 none (some v143))) (EvO.ev (zcS (f:=lI) (xs:=p142.1) (Ev.weak (K:=K) (zaa (i:=8) rfl)) (zbB (Ev.any (m:=true) (zaa (i:=10) rfl))) zcX)) (EvO.ev (zcS (f:=lI) (xs:=p142.1) (Ev.weak (K:=K) (zaa (i:=8) rfl)) zcX (zbB (Ev.any (m:=true) (zaa (i:=10) rfl))))) (by exact zkW hQ))) (λv144 hv144 =>
 (zan (m:=true) (x:=(List.map (λ(x145:(List Int))=>((cutD x145 (some v143) none)++(cutD x145 none (some v143)))) p142.2)) (λ(xs:(List (List Int)))=>dL (List.map lI xs)) (λ(r:(T5 (List (List Int)) (List (List Int)) (List Int) (List (List Int)) (List (List Int))))=>Oc.rt true (dT [dL (List.map lI r.a),dL (List.map lI r.b),dL (List.map dI r.c),dL (List.map lI r.d),dL (List.map lI r.e)])) (EvO.ev (EvO.conv (zcg (g:=(λ(x145:(List Int))=>dL (List.map dI ((cutD x145 (some v143) none)++(cutD x145 none (some v143)))))) (zcB (m:=true) lI (xs:=p142.2) (Ev.weak (K:=K) (zaa (i:=9) rfl))) (by exact zlE (by rw [h3];omega)) ⟨by decide,by decide⟩ (λi146 x145 hx147=>have v147:=List.mem_of_getElem? hx147;(EvO.ev (zbV (f:=dI) (xs:=(cutD x145 (some v143) none)) (ys:=(cutD x145 none (some v143))) (EvO.ev (EvO.anyI (m:=true) (zcS (f:=dI) (xs:=x145) (Ev.weak (K:=K) (zaa (i:=0) rfl)) (zbB (Ev.any (m:=true) (zaa (i:=1) rfl))) zcX))) (EvO.ev (EvO.anyI (m:=true) (zcS (f:=dI) (xs:=x145) (Ev.weak (K:=K) (zaa (i:=0) rfl)) zcX (zbB (Ev.any (m:=true) (zaa (i:=1) rfl)))))) (by exact zlB hQ (by assumption)))))) (by first | (rw [List.map_map];rfl) | (simp only [cond_true,cond_false];rw [List.map_map];rfl)))) (λv148 hv148 =>
 (zag (zax (zeF (zab (zaa (i:=5) rfl) (zab (zaa (i:=6) rfl) (zab (zaa (i:=7) rfl) (zab (zaa (i:=8) rfl) (zab (zaa (i:=9) rfl) zaf))))) (by show 5≤sizeLine;decide)))))))))))))))))))))))))))
def zf5 (y:T5 (List (List Int)) (List (List Int)) (List Int) (List (List Int)) (List (List Int))):Prop:=∃ n k:Nat,y.a.length=n∧1≤n∧n≤8∧k≤11∧y.d.length=k∧Lat.RB n 160 y.d∧y.e.length≤3∧(∀ t∈y.e,t.length=k∧Lat.Bit 66 t)∧zlq n y.d y.e
theorem zjp {xs:List Int} (hx:xs.length≤63):zf5 (m_law_made xs):=by
 unfold m_law_made Let
 dsimp only
 have hW:=zlp (b:=decide ((m_law_cell xs (0:Int)/(4:Int))%(16:Int)=(7:Int))) (c:=m_law_cell xs (0:Int)) rfl rfl
 generalize hw:(bif _ then _ else (1:Int)+m_law_cell xs (0:Int)%(4:Int))=w at *
 have hc:=zez hx rfl
 generalize cutD xs (some (2:Int)) (some (62:Int))=cs at *
 have hh:=zfa (h:=((cs.length:Nat):Int)/(2:Int)) rfl hc
 have hM:=zj7 (c:=m_law_cell xs (0:Int)) (x:=m_law_raw xs (1:Int)) (k:=(7:Int)) hW (rfl:m_law_frame w (cutD cs none (some (((cs.length:Nat):Int)/(2:Int))))=_) rfl hh.1 hh.2 rfl
 have h3:=zjb (c:=m_law_cell xs (0:Int)) (rows:=(m_law_frame w (cutD cs none (some (((cs.length:Nat):Int)/(2:Int))))).1) (bs:=m_law_bottoms w (m_law_raw xs (1:Int)) (7:Int)) (cs:=cutD cs (some (((cs.length:Nat):Int)/(2:Int))) none) rfl
 obtain ⟨W,hWW⟩:∃ W:Nat,w=(W:Int):=⟨w.toNat,by omega⟩
 have hF:=zed (cs:=cutD cs none (some (((cs.length:Nat):Int)/(2:Int)))) hWW hW.1
 generalize m_law_frame w (cutD cs none (some (((cs.length:Nat):Int)/(2:Int))))=p at *
 generalize m_law_stirred p.1 _ _ _=q at *
 obtain ⟨k,hk,h1,h2,h4⟩:=hM
 have ht:0≤(m_law_cell xs (0:Int)/(256:Int))%(((q.1.length:Nat):Int)+(1:Int)):=Int.emod_nonneg _ (by omega)
 generalize (m_law_cell xs (0:Int)/(256:Int))%(((q.1.length:Nat):Int)+(1:Int))=t at *
 have hn:w.toNat=W:=by omega
 rw [hn] at h1 h4
 refine ⟨W,k,hF.1.1,by omega,by omega,hk,?_,λr hr=>?_,?_,λr hr=>?_,λr hr j hj=>?_⟩
 ·show (cutD q.1 (some t) none++cutD q.1 none (some t)).length=k
  rw [zeg ht,List.length_append,List.length_drop,List.length_take]
  have:=h1.1
  omega
 ·have hr:r∈cutD q.1 (some t) none++cutD q.1 none (some t):=hr
  rw [zeg ht] at hr
  rcases List.mem_append.mp hr with hr | hr
  ·exact h1.2 r (List.mem_of_mem_drop hr)
  ·exact h1.2 r (List.mem_of_mem_take hr)
 ·show (List.map _ q.2).length≤3
  rw [List.length_map,h3]
  omega
 ·have hr:r∈List.map (λ(x:List Int)=>cutD x (some t) none++cutD x none (some t)) q.2:=hr
  obtain ⟨x,hx',rfl⟩:=List.mem_map.mp hr
  have hx2:=h2 x hx'
  rw [zeg ht]
  refine ⟨by rw [List.length_append,List.length_drop,List.length_take];omega,λy hy=>?_⟩
  rcases List.mem_append.mp hy with hy | hy
  ·exact hx2.2 y (List.mem_of_mem_drop hy)
  ·exact hx2.2 y (List.mem_of_mem_take hy)
 ·have hr:r∈List.map (λ(x:List Int)=>cutD x (some t) none++cutD x none (some t)) q.2:=hr
  obtain ⟨x,hx',rfl⟩:=List.mem_map.mp hr
  show Lat.comb (cutD x (some t) none++cutD x none (some t)) ((cutD q.1 (some t) none++cutD q.1 none (some t)).map Lat.vec) j=0
  rw [zeg ht,zeg ht,List.map_append,List.map_drop,List.map_take,Lat.zhs (by rw [List.length_map,(h2 x hx').1,h1.1])]
  exact h4 x hx' j hj
def zf6 (y:T5 (List (List Int)) (List (List Int)) (List Int) (List (List Int)) (List (List Int))):Prop:=∃ n:Nat,y.a.length=n∧1≤n∧n≤8∧(y.b.length=n∧Lat.RB n 66 y.b)∧y.c.length=n∧∀ b∈y.c,0≤b∧b≤1000000001
theorem zj9 {xs:List Int} (hx:xs.length≤63):zf6 (m_law_made xs):=by
 unfold m_law_made Let
 dsimp only
 have hW:=zlp (b:=decide ((m_law_cell xs (0:Int)/(4:Int))%(16:Int)=(7:Int))) (c:=m_law_cell xs (0:Int)) rfl rfl
 generalize hw:(bif _ then _ else (1:Int)+m_law_cell xs (0:Int)%(4:Int))=w at *
 have hc:=zez hx rfl
 generalize cutD xs (some (2:Int)) (some (62:Int))=cs at *
 have hh:=zfa (h:=((cs.length:Nat):Int)/(2:Int)) rfl hc
 obtain ⟨W,hWW⟩:∃ W:Nat,w=(W:Int):=⟨w.toNat,by omega⟩
 have hF:=zed (cs:=cutD cs none (some (((cs.length:Nat):Int)/(2:Int)))) hWW hW.1
 have hb:=zhP (w:=w) (c:=m_law_raw xs (1:Int)) (f:=7) (by omega)
 refine ⟨W,hF.1.1,by omega,by omega,⟨hF.2.1,λr hr=>⟨(hF.2.2 r hr).1,((hF.2.2 r hr).2).mono (by have:=hh.1;omega)⟩⟩,by show (m_law_bottoms w _ _).length=W;rw [hb.1];omega,hb.2⟩
def ScP (ds:List (List Int)) (bs:List Int):Prop:=∃ n:Nat,1≤n∧n≤8∧ds.length=n∧bs.length=n∧Lat.RB n 66 ds∧∀ b∈bs,0≤b∧b≤1000000001
section
variable {ds:List (List Int)} {bs w w1 w2 w3 w4:List Int} {a c v r r1:Int} {g:Bool}
theorem zja (h:ScP ds bs):(0:Int)<((ds.length:Nat):Int):=by
 obtain ⟨n,h1,h2,h3,_⟩:=h
 omega
theorem zld (h:ScP ds bs) (e:a=m_law_thing c 51 ((ds.length:Nat):Int)):InB ds.length a∧InB bs.length a:=by
 have:=zcj (c:=c) (k:=51) (zja h)
 rw [← e] at this
 obtain ⟨n,h1,h2,h3,h4,_⟩:=h
 unfold InB
 omega
theorem zl4 (h:ScP ds bs) (hA:InB ds.length a∧InB bs.length a) (e:w=ixD ds a):1≤w.length∧w.length≤8∧Lat.Bit 66 w:=by
 obtain ⟨n,h1,h2,h3,h4,h5,h6⟩:=h
 have:=h5 _ (zcR hA.1)
 rw [e]
 exact ⟨by omega,by omega,this.2⟩
theorem zks (h:1≤w.length∧w.length≤8∧Lat.Bit 66 w) (e:w1=bif decide (v=(1:Int)) then cutD w (some (1:Int)) none else w):(v≠1->1≤w1.length)∧w1.length≤8∧Lat.Bit 66 w1:=by
 obtain ⟨h1,h2,h3⟩:=h
 by_cases q:v=1
 ·rw [decide_eq_true q,cond_true] at e
  rw [e]
  exact ⟨λz=>absurd q z,Nat.le_trans zeP h2,λy hy=>h3 y (Lat.zjH hy)⟩
 ·rw [decide_eq_false q,cond_false] at e
  rw [e]
  exact ⟨λ_=>h1,h2,h3⟩
theorem zlI {n:Nat} (h:(v≠1->1≤w1.length)∧w1.length≤8∧Lat.Bit n w1):w1.length+[(1:Int)].length≤PySem.sizeLine:=zak (by rw [List.length_singleton];have:=h.2.1;omega)
theorem zkZ (h:(v≠1->1≤w1.length)∧w1.length≤8∧Lat.Bit 66 w1) (e:w2=bif (g&&decide (((w1.length:Nat):Int)<(8:Int))) then w1++[(1:Int)] else w1):(v≠1->1≤w2.length)∧w2.length≤8∧Lat.Bit 66 w2:=by
 obtain ⟨h1,h2,h3⟩:=h
 cases q:(g&&decide (((w1.length:Nat):Int)<(8:Int))) with
 | false =>
  rw [q,cond_false] at e
  rw [e];exact ⟨h1,h2,h3⟩
 | true =>
  rw [q,cond_true] at e
  have:=of_decide_eq_true (Bool.and_eq_true_iff.mp q).2
  rw [e]
  refine ⟨λ_=>by rw [List.length_append,List.length_singleton];omega,by rw [List.length_append,List.length_singleton];omega,λy hy=>?_⟩
  rcases List.mem_append.mp hy with hy | hy
  ·exact h3 y hy
  ·rw [List.mem_singleton.mp hy];exact Nat.one_le_two_pow
theorem zh4 (h:(v≠1->1≤w2.length)∧w2.length≤8∧Lat.Bit 66 w2) (q:decide ((5:Int)<v)=true):(0:Int)<((w2.length:Nat):Int):=by
 have:=h.1 (by have:=of_decide_eq_true q;omega)
 omega
theorem zjj (h:(v≠1->1≤w2.length)∧w2.length≤8∧Lat.Bit 66 w2) (q:decide ((5:Int)<v)=true):InB w2.length (m_law_thing c 52 ((w2.length:Nat):Int)):=by
 have:=zcj (c:=c) (k:=52) (zh4 h q)
 unfold InB;omega
theorem zkK (h:(v≠1->1≤w2.length)∧w2.length≤8∧Lat.Bit 66 w2) (e:w3=bif decide ((5:Int)<v) then setZ w2 (m_law_thing c (52:Int) ((w2.length:Nat):Int)) (ixD w2 (m_law_thing c (52:Int) ((w2.length:Nat):Int))+(1:Int)) else w2):w3.length≤8∧Lat.Bit 67 w3:=by
 obtain ⟨h1,h2,h3⟩:=h
 cases q:decide ((5:Int)<v) with
 | false =>
  rw [q,cond_false] at e
  rw [e];exact ⟨h2,h3.mono (by decide)⟩
 | true =>
  rw [q,cond_true] at e
  have hi:=zjj (c:=c) ⟨h1,h2,h3⟩ q
  rw [e]
  refine ⟨by rw [zdL];exact h2,λy hy=>?_⟩
  rcases Lat.setZ_mem hy with rfl | hy
  ·have:=h3 _ (zcR hi)
   generalize ixD w2 (m_law_thing c 52 ((w2.length:Nat):Int))=u at *
   rw [show (2:Nat)^67=2^66*2 from rfl]
   have:(2:Nat)^66 ≥ 1:=Nat.one_le_two_pow
   omega
  ·exact (h3.mono (by decide)) y hy
theorem zkJ (h:w3.length≤8∧Lat.Bit 67 w3) (e:w4=bif decide (w3=[]) then [(1:Int),(1:Int)] else w3):w4.length≤8∧Lat.Bit 67 w4:=by
 cases q:decide (w3=[]) with
 | false=>rw [q,cond_false] at e;rw [e];exact h
 | true =>
  rw [q,cond_true] at e
  rw [e]
  refine ⟨by show 2≤8;omega,λy hy=>?_⟩
  have:y=1:=by simpa using hy
  rw [this];exact Nat.one_le_two_pow
theorem zlZ (h:ScP ds bs) (hA:InB ds.length a∧InB bs.length a) (hR:r=(2:Int)+m_law_thing c (53:Int) (39:Int)) (e:r1=bif (g&&decide ((1:Int)<ixD bs a)) then ixD bs a else r):2≤r1∧r1≤1000000001:=by
 obtain ⟨n,h1,h2,h3,h4,h5,h6⟩:=h
 cases q:(g&&decide ((1:Int)<ixD bs a)) with
 | false =>
  rw [q,cond_false] at e
  have:=zcj (c:=c) (k:=53) (m:=39) (by decide)
  omega
 | true =>
  rw [q,cond_true] at e
  have:=of_decide_eq_true (Bool.and_eq_true_iff.mp q).2
  have:=h6 _ (zcR hA.2)
  omega
theorem zlC (hR:2≤r∧r≤1000000001) (hw:w.length≤8∧Lat.Bit 67 w):2≤r∧w.length≤1000:=⟨hR.1,by omega⟩
end
def m_law_scale (P0:(List (List Int))) (P1:(List Int)) (P2:Int):(T3 (LineD ⊕ RestD) (List Int) Int) :=
 (Let (m_law_thing P2 (51:Int) ((P0.length:Nat):Int)) (λ(at149:Int) =>
 (Let (ixD P0 at149) (λ(v150:(List Int)) =>
 (Let ((P2/(4:Int))%(8:Int)) (λ(v151:Int) =>
 (Let (bif (decide (v151=(1:Int))) then (cutD v150 (some (1:Int)) none) else v150) (λ(v153:(List Int)) =>
 (Let (bif ((decide (v151=(2:Int)))&&(decide (((v153.length:Nat):Int)<(8:Int)))) then (v153++[(1:Int)]) else v153) (λ(v155:(List Int)) =>
 (Let (bif (decide ((5:Int)<v151)) then (setZ v155 (m_law_thing P2 (52:Int) ((v155.length:Nat):Int)) ((ixD v155 (m_law_thing P2 (52:Int) ((v155.length:Nat):Int)))+(1:Int))) else v155) (λ(v157:(List Int)) =>
 (Let (bif (decide (v157=[])) then [(1:Int),(1:Int)] else v157) (λ(v159:(List Int)) =>
 (bif (decide ((P2%(4:Int))=(0:Int))) then (T3.mk (Sum.inl (zi2 v159)) v159 (0:Int))
 else (Let ((2:Int)+(m_law_thing P2 (53:Int) (39:Int))) (λ(v161:Int) =>
 (Let (bif ((decide ((1:Int)<(P2%(4:Int))))&&(decide ((1:Int)<(ixD P1 at149)))) then (ixD P1 at149) else v161) (λ(v163:Int) =>
 (T3.mk (Sum.inr (zgs v163 v159)) v159 v163))))))))))))))))))))
def zcp (P0:(List (List Int))) (P1:(List Int)) (P2:Int):Prop:=ScP P0 P1
def zc9 (K:W.Frag) (A:Adr):Sp:=Spv (ι:=(List (List Int))×(List Int)×Int) (λx=>[dQ K (List.map lI x.1),dQ K (List.map dI x.2.1),dI x.2.2]) (λx=>zcp x.1 x.2.1 x.2.2) (λx=>.va true (dT [dSc A ((m_law_scale x.1 x.2.1 x.2.2).a),dL (List.map dI ((m_law_scale x.1 x.2.1 x.2.2).b)),dI ((m_law_scale x.1 x.2.1 x.2.2).c)]))
theorem zaK:FnScope ["_law_duals","_law_bottoms_here","_law_cell_here","_law_at","_law_weights","_law_way","_law_far","_law_rest"] ["_law_duals","_law_bottoms_here","_law_cell_here"] (defScope zbP):=⟨rfl,rfl,rfl,by decide +kernel,rfl,by decide +kernel,by decide +kernel⟩
theorem zfl (F:Fun K "_law_scale" "_law_scale" zbP f fd) (T:Txt K mg A) (G_law_thing:Callee P w K mg base (CXE P w) 1 "_law_thing" ["_law_cell_here","_law_k","_law_many"] (zbu K A)) {f_Rest:Addr} {fd_Rest:FuncData} (M_Rest:Mk K A.Rest f_Rest) (G_Rest___init__:FnOk P w K mg base (CXE P w) 2 f_Rest fd_Rest ["self","rest","weights"] (zc1 K A)) (b_Rest___init__:zdB K fd_Rest ["self","rest","weights"] [])  {f_Line:Addr} {fd_Line:FuncData} (M_Line:Mk K A.Line f_Line) (G_Scale___init___Line:FnOk P w K mg base (CXE P w) 1 f_Line fd_Line ["self","weights"] (zbG K A)) (b_Scale___init___Line:zdB K fd_Line ["self","weights"] []):FnOk P w K mg base (CXE P w) 4 f fd ["_law_duals","_law_bottoms_here","_law_cell_here"] (zc9 K A):=by
 refine F.okV zaK (λ_=>rfl) (λcdv Ar outer s H E x hr hp=>?_)
 obtain ⟨P0,P1,P2⟩:=x
 have hu:=hr.units
 replace hp:zcp P0 P1 P2:=hp
 unfold zcp at hp
 refine ⟨_,(zac (zao (i:=3) zaK.nd rfl (Or.inl rfl) (pe_fn G_law_thing (hr.mono (by decide)) rfl passE (pa_cons (pv 2) (pa_cons zae (pa_cons (pe_callB (zaq (K:=K) rfl) rfl T.len PySem.boot_len (pa_cons (pv 0) pa_nil)) pa_nil)))))
 (zac (zao (i:=4) zaK.nd rfl (Or.inl rfl) (zb3 (zbO (K:=K) rfl) rfl T.list PyProof.Rows.boot_list (pa_cons (zdr (zaH (K:=K) rfl) (pv 0) (pv 3) (λ_ _=>rfl)) pa_nil)))
 (zac (zao (i:=5) zaK.nd rfl (Or.inl rfl) (zam zbi (zam zcl (pv 2) zae) zae))
 (zac (zbx (zau op_eq (pv 5) zae (nomark _))
 (zac (zao (i:=4) zaK.nd rfl (Or.inl rfl) (zcm (zbD (K:=K) rfl) (pv 4) (zcv zae) zdw))
 zad)
 zad)
 (zac (zbx (PW.pt (zfB (zau op_eq (pv 5) zae (nomark _)) (zeA (zau zhr (pe_callB (zaq (K:=K) rfl) rfl T.len PySem.boot_len (pa_cons (pv 4) pa_nil)) zae (nomark _)))))
 (zac (zao (i:=4) zaK.nd rfl (Or.inl rfl) (zam zcK (pv 4) (zbH (pa_cons zae pa_nil))))
 zad)
 zad)
 (zac (zbx (zau zfx (pv 5) zae (nomark _))
 (zac (zao (i:=6) zaK.nd rfl (Or.inl rfl) (pe_fn G_law_thing (hr.mono (by decide)) rfl passE (pa_cons (pv 2) (pa_cons zae (pa_cons (pe_callB (zaq (K:=K) rfl) rfl T.len PySem.boot_len (pa_cons (pv 4) pa_nil)) pa_nil)))))
 (zac (zdv (zam zb8 (zdr (zaH (K:=K) rfl) (pv 4) (pv 6) (λ_ _=>rfl)) zae) (zfD (pv 4) (pv 6) set_list))
 zad))
 zad)
 (zac (zbx (zau (op_eq_K (K:=K) rfl hu) (pv 4) (zbH pa_nil) (nomark _))
 (zac (zao (i:=4) zaK.nd rfl (Or.inl rfl) (zbH (pa_cons zae (pa_cons zae pa_nil))))
 zad)
 zad)
 (zac (zbx (zau op_eq (zam zbi (pv 2) zae) zae (nomark _))
 (zac (zaE (zeL (pa_cons (zfP M_Line G_Scale___init___Line (hr.mono (by decide)) rfl T.Line b_Scale___init___Line .nil passE (pa_cons (pv 4) pa_nil)) (pa_cons (pv 4) (pa_cons zae pa_nil)))))
 zad)
 zad)
 (zac (zao (i:=7) zaK.nd rfl (Or.inl rfl) (zam zb8 zae (pe_fn G_law_thing (hr.mono (by decide)) rfl passE (pa_cons (pv 2) (pa_cons zae (pa_cons zae pa_nil))))))
 (zac (zbx (PW.pt (zfB (zau zfx (zam zbi (pv 2) zae) zae (nomark _)) (zeA (zau zfx (zdr (zaH (K:=K) rfl) (pv 1) (pv 3) (λ_ _=>rfl)) zae (nomark _)))))
 (zac (zao (i:=7) zaK.nd rfl (Or.inl rfl) (zdr (zaH (K:=K) rfl) (pv 1) (pv 3) (λ_ _=>rfl)))
 zad)
 zad)
 (zac (zaE (zeL (pa_cons (zfP M_Rest G_Rest___init__ (hr.mono (by decide)) rfl T.Rest b_Rest___init__ .nil passE (pa_cons (pv 7) (pa_cons (pv 4) pa_nil))) (pa_cons (pv 4) (pa_cons (pv 7) pa_nil)))))
 zad))))))))))),.inl ?_⟩
 show L2.Run _ ([.va false (dQ K (List.map lI P0)),.va false (dQ K (List.map dI P1)),.va false (dI P2),.no,.no,.no,.no,.no]:L2.Ctx) _ ((λ(r:(T3 (LineD ⊕ RestD) (List Int) Int))=>Oc.rt true (dT [dSc A r.a,dL (List.map dI r.b),dI r.c])) (m_law_scale P0 P1 P2))
 unfold m_law_scale
 exact (zan (m:=true) (x:=(m_law_thing P2 (51:Int) ((P0.length:Nat):Int))) dI (λ(r:(T3 (LineD ⊕ RestD) (List Int) Int))=>Oc.rt true (dT [dSc A r.a,dL (List.map dI r.b),dI r.c])) (Ev.any (m:=true) (zaA (x:=(P2,(51:Int),((P0.length:Nat):Int))) (zab (Ev.any (m:=false) (zaa (i:=2) rfl)) (zab zaw (zab (zbj (f:=lI) (xs:=P0) (zaa (i:=0) rfl)) zaf))) rfl (by show zar P2 (51:Int) ((P0.length:Nat):Int);exact ⟨by decide,by decide,zja hp⟩) rfl)) (λat149 v149 =>
 have hA:=zld hp v149;(run_letO (m:=true) (x:=(ixD P0 at149)) (λz=>List.map dI z) (λ(r:(T3 (LineD ⊕ RestD) (List Int) Int))=>Oc.rt true (dT [dSc A r.a,dL (List.map dI r.b),dI r.c])) (EvO.anyI (m:=false) (zdW (Ev.weak (K:=K) (zdP (f:=lI) (xs:=P0) (zaa (i:=0) rfl) (Ev.any (m:=true) (zaa (i:=3) rfl)) (by exact hA.1))))) (λv150 hv150 =>
 have hV:=zl4 hp hA hv150;(zan (m:=true) (x:=((P2/(4:Int))%(8:Int))) dI (λ(r:(T3 (LineD ⊕ RestD) (List Int) Int))=>Oc.rt true (dT [dSc A r.a,dL (List.map dI r.b),dI r.c])) (zav (x:=(P2/(4:Int))) (y:=(8:Int)) (zav (x:=P2) (y:=(4:Int)) (Ev.any (m:=false) (zaa (i:=2) rfl)) zaw (by exact ⟨by decide,by decide⟩)) zaw (by decide)) (λv151 hv151 =>
 (zbC (b:=(decide (v151=(1:Int)))) (λbb=>([.va false (dQ K (List.map lI P0)),.va false (dQ K (List.map dI P1)),.va false (dI P2),.va true (dI at149),.ow true (List.map dI (bif bb then (cutD v150 (some (1:Int)) none) else v150)),.va true (dI v151),.no,.no]:L2.Ctx)) (zal (zc3 (x:=v151) (y:=(1:Int)) (Ev.any (m:=true) (zaa (i:=5) rfl)) zaw)) (λh152=>(zcc (i:=4) rfl (run_setO (m:=true) (EvO.anyI (m:=true) (zcS (f:=dI) (xs:=v150) (Ev.weak (K:=K) (zaa (i:=4) rfl)) (zbB zaw) zcX))
 (zah (.eq (.eq (.eq (.eq (.eq (.eq (.eq (.eq .nil)))))))))))) (λh152=>(zah (.eq (.eq (.eq (.eq (.eq (.eq (.eq (.eq .nil))))))))))
 (zbZ (x:=(bif (decide (v151=(1:Int))) then (cutD v150 (some (1:Int)) none) else v150)) (λv153=>([.va false (dQ K (List.map lI P0)),.va false (dQ K (List.map dI P1)),.va false (dI P2),.va true (dI at149),.ow true (List.map dI v153),.va true (dI v151),.no,.no]:L2.Ctx)) (λ(r:(T3 (LineD ⊕ RestD) (List Int) Int))=>Oc.rt true (dT [dSc A r.a,dL (List.map dI r.b),dI r.c])) (λv153 hv153 =>
 have hV1:=zks hV hv153;(zbC (b:=((decide (v151=(2:Int)))&&(decide (((v153.length:Nat):Int)<(8:Int))))) (λbb=>([.va false (dQ K (List.map lI P0)),.va false (dQ K (List.map dI P1)),.va false (dI P2),.va true (dI at149),.ow true (List.map dI (bif bb then (v153++[(1:Int)]) else v153)),.va true (dI v151),.no,.no]:L2.Ctx)) (zet (b:=(decide (v151=(2:Int)))) (zal (zc3 (x:=v151) (y:=(2:Int)) (Ev.any (m:=true) (zaa (i:=5) rfl)) zaw)) (λhb=>(zal (zaF (x:=((v153.length:Nat):Int)) (y:=(8:Int)) (zcQ (f:=dI) (xs:=v153) rfl) zaw)))) (λh154=>(zcc (i:=4) rfl (run_setO (m:=true) (EvO.anyI (m:=true) (zbV (f:=dI) (xs:=v153) (ys:=[(1:Int)]) (zaa (i:=4) rfl) (EvO.ev (zch (zab zaw zaf) (by show 1≤sizeLine;decide))) (by exact zlI hV1)))
 (zah (.eq (.eq (.eq (.eq (.eq (.eq (.eq (.eq .nil)))))))))))) (λh154=>(zah (.eq (.eq (.eq (.eq (.eq (.eq (.eq (.eq .nil))))))))))
 (zbZ (x:=(bif ((decide (v151=(2:Int)))&&(decide (((v153.length:Nat):Int)<(8:Int)))) then (v153++[(1:Int)]) else v153)) (λv155=>([.va false (dQ K (List.map lI P0)),.va false (dQ K (List.map dI P1)),.va false (dI P2),.va true (dI at149),.ow true (List.map dI v155),.va true (dI v151),.no,.no]:L2.Ctx)) (λ(r:(T3 (LineD ⊕ RestD) (List Int) Int))=>Oc.rt true (dT [dSc A r.a,dL (List.map dI r.b),dI r.c])) (λv155 hv155 =>
 have hV2:=zkZ hV1 hv155;(zbC (b:=(decide ((5:Int)<v151))) (λbb=>([.va false (dQ K (List.map lI P0)),.va false (dQ K (List.map dI P1)),.va false (dI P2),.va true (dI at149),.ow true (List.map dI (bif bb then (setZ v155 (m_law_thing P2 (52:Int) ((v155.length:Nat):Int)) ((ixD v155 (m_law_thing P2 (52:Int) ((v155.length:Nat):Int)))+(1:Int))) else v155)),.va true (dI v151),.no,.no]:L2.Ctx)) (zal (zaF (x:=v151) (y:=(5:Int)) (Ev.any (m:=true) (zaa (i:=5) rfl)) zaw)) (λh156=>(zdE (m:=true) (Ev.any (m:=true) (zaA (x:=(P2,(52:Int),((v155.length:Nat):Int))) (zab (Ev.any (m:=false) (zaa (i:=2) rfl)) (zab zaw (zab (zcQ (f:=dI) (xs:=v155) rfl) zaf))) rfl (by show zar P2 (52:Int) ((v155.length:Nat):Int);exact ⟨by decide,by decide,zh4 hV2 (by assumption)⟩) rfl))
 (zdl (f:=dI) (xs:=v155) (x:=((ixD v155 (m_law_thing P2 (52:Int) ((v155.length:Nat):Int)))+(1:Int))) rfl (zaF (x:=(ixD v155 (m_law_thing P2 (52:Int) ((v155.length:Nat):Int)))) (y:=(1:Int)) (Ev.any (m:=true) (ev_ownIxM (f:=dI) (xs:=v155) rfl (Ev.any (m:=true) (zaa (i:=6) rfl)) (by exact zjj hV2 (by assumption)))) zaw) (Ev.any (m:=true) (zaa (i:=6) rfl)) (by exact zjj hV2 (by assumption))
 (zah (.eq (.eq (.eq (.eq (.eq (.eq (.no (.eq .nil)))))))))))) (λh156=>(zah (.eq (.eq (.eq (.eq (.eq (.eq (.eq (.eq .nil))))))))))
 (zbZ (x:=(bif (decide ((5:Int)<v151)) then (setZ v155 (m_law_thing P2 (52:Int) ((v155.length:Nat):Int)) ((ixD v155 (m_law_thing P2 (52:Int) ((v155.length:Nat):Int)))+(1:Int))) else v155)) (λv157=>([.va false (dQ K (List.map lI P0)),.va false (dQ K (List.map dI P1)),.va false (dI P2),.va true (dI at149),.ow true (List.map dI v157),.va true (dI v151),.no,.no]:L2.Ctx)) (λ(r:(T3 (LineD ⊕ RestD) (List Int) Int))=>Oc.rt true (dT [dSc A r.a,dL (List.map dI r.b),dI r.c])) (λv157 hv157 =>
 have hV3:=zkK hV2 hv157;(zbC (b:=(decide (v157=[]))) (λbb=>([.va false (dQ K (List.map lI P0)),.va false (dQ K (List.map dI P1)),.va false (dI P2),.va true (dI at149),.ow true (List.map dI (bif bb then [(1:Int),(1:Int)] else v157)),.va true (dI v151),.no,.no]:L2.Ctx)) (EvT.borrowO (i:=4) rfl (zal (zfH (n:=0) (neg:=false) (xs:=v157) (ys:=[]) EqD.int (Ev.old (Ev.weak (K:=K) (zaa (i:=4) rfl))) (Ev.old (Ev.weak (K:=K) (EvO.ev (zej (m:=true) zaf))))))) (λh158=>(run_setO (m:=true) (zch (zab zaw (zab zaw zaf)) (by show 2≤sizeLine;decide))
 (zah (.eq (.eq (.eq (.eq (.eq (.eq (.eq (.eq .nil))))))))))) (λh158=>(zah (.eq (.eq (.eq (.eq (.eq (.eq (.eq (.eq .nil))))))))))
 (zbZ (x:=(bif (decide (v157=[])) then [(1:Int),(1:Int)] else v157)) (λv159=>([.va false (dQ K (List.map lI P0)),.va false (dQ K (List.map dI P1)),.va false (dI P2),.va true (dI at149),.ow true (List.map dI v159),.va true (dI v151),.no,.no]:L2.Ctx)) (λ(r:(T3 (LineD ⊕ RestD) (List Int) Int))=>Oc.rt true (dT [dSc A r.a,dL (List.map dI r.b),dI r.c])) (λv159 hv159 =>
 have hV4:=zkJ hV3 hv159;(zaL (b:=(decide ((P2%(4:Int))=(0:Int)))) (λ(r:(T3 (LineD ⊕ RestD) (List Int) Int))=>Oc.rt true (dT [dSc A r.a,dL (List.map dI r.b),dI r.c])) (zal (zc3 (x:=(P2%(4:Int))) (y:=(0:Int)) (zav (x:=P2) (y:=(4:Int)) (Ev.any (m:=false) (zaa (i:=2) rfl)) zaw (by decide)) zaw)) (λh160=>(zai (zcc (i:=4) rfl (zag (zax (zeF (zab (zf9 (i:=v159) (zab (Ev.old (Ev.weak (K:=K) (zaa (i:=4) rfl))) zaf) rfl (by show zaI v159;exact trivial)) (zab (zaa (i:=4) rfl) (zab zaw zaf))) (by show 3≤sizeLine;decide))))))) (λh160 =>
 (zaj (zan (m:=true) (x:=((2:Int)+(m_law_thing P2 (53:Int) (39:Int)))) dI (λ(r:(T3 (LineD ⊕ RestD) (List Int) Int))=>Oc.rt true (dT [dSc A r.a,dL (List.map dI r.b),dI r.c])) (zaF (x:=(2:Int)) (y:=(m_law_thing P2 (53:Int) (39:Int))) zaw (Ev.any (m:=true) (zaA (x:=(P2,(53:Int),(39:Int))) (zab (Ev.any (m:=false) (zaa (i:=2) rfl)) (zab zaw (zab zaw zaf))) rfl (by show zar P2 (53:Int) (39:Int);exact ⟨by decide,by decide,by decide⟩) rfl))) (λv161 hv161 =>
 have hR:=hv161;(zbC (b:=((decide ((1:Int)<(P2%(4:Int))))&&(decide ((1:Int)<(ixD P1 at149))))) (λbb=>([.va false (dQ K (List.map lI P0)),.va false (dQ K (List.map dI P1)),.va false (dI P2),.va true (dI at149),.ow true (List.map dI v159),.va true (dI v151),.no,.va true (dI (bif bb then (ixD P1 at149) else v161))]:L2.Ctx)) (zet (b:=(decide ((1:Int)<(P2%(4:Int))))) (zal (zaF (x:=(P2%(4:Int))) (y:=(1:Int)) (zav (x:=P2) (y:=(4:Int)) (Ev.any (m:=false) (zaa (i:=2) rfl)) zaw (by decide)) zaw)) (λhb=>(zal (zaF (x:=(ixD P1 at149)) (y:=(1:Int)) (Ev.any (m:=false) (zdP (f:=dI) (xs:=P1) (zaa (i:=1) rfl) (Ev.any (m:=true) (zaa (i:=3) rfl)) (by exact hA.2))) zaw)))) (λh162=>(zdE (m:=true) (Ev.any (m:=false) (zdP (f:=dI) (xs:=P1) (zaa (i:=1) rfl) (Ev.any (m:=true) (zaa (i:=3) rfl)) (by exact hA.2)))
 (zah (.eq (.eq (.eq (.eq (.eq (.eq (.eq (.eq .nil))))))))))) (λh162=>(zah (.eq (.eq (.eq (.eq (.eq (.eq (.eq (.eq .nil))))))))))
 (zbZ (x:=(bif ((decide ((1:Int)<(P2%(4:Int))))&&(decide ((1:Int)<(ixD P1 at149)))) then (ixD P1 at149) else v161)) (λv163=>([.va false (dQ K (List.map lI P0)),.va false (dQ K (List.map dI P1)),.va false (dI P2),.va true (dI at149),.ow true (List.map dI v159),.va true (dI v151),.no,.va true (dI v163)]:L2.Ctx)) (λ(r:(T3 (LineD ⊕ RestD) (List Int) Int))=>Oc.rt true (dT [dSc A r.a,dL (List.map dI r.b),dI r.c])) (λv163 hv163 =>
 have hR1:=zlZ hp hA hR hv163;(zcc (i:=4) rfl (zag (zax (zeF (zab (zf9 (i:=(v163,v159)) (zab (Ev.any (m:=true) (zaa (i:=7) rfl)) (zab (Ev.old (Ev.weak (K:=K) (zaa (i:=4) rfl))) zaf)) rfl (by show zbc v163 v159;exact zlC hR1 hV4)) (zab (zaa (i:=4) rfl) (zab (Ev.any (m:=true) (zaa (i:=7) rfl)) zaf))) (by show 3≤sizeLine;decide)))))))))))))))))))))))))))))))
def GoU (t:T3 (LineD ⊕ RestD) (List Int) Int):Prop:=∃ (ws:List Int) (r:Int),ws.length≤8∧Lat.Bit 67 ws∧((t=⟨Sum.inl ⟨ws⟩,ws,0⟩)∨(2≤r∧r≤1000000001∧t=⟨Sum.inr (zgs r ws),ws,r⟩))
theorem ziu {ds:List (List Int)} {bs:List Int} {c:Int} (h:ScP ds bs):GoU (m_law_scale ds bs c):=by
 unfold m_law_scale Let
 dsimp only
 have hA:=zld (c:=c) h rfl
 generalize m_law_thing c 51 ((ds.length:Nat):Int)=a at *
 have hV:=zl4 h hA rfl
 generalize ixD ds a=w at *
 have hV1:=zks (v:=c/4%8) hV rfl
 generalize (bif decide (c/4%8=1) then _ else w)=w1 at *
 have hV2:=zkZ (g:=decide (c/4%8=2)) hV1 rfl
 generalize (bif (decide (c/4%8=2)&&_) then _ else w1)=w2 at *
 have hV3:=zkK (c:=c) hV2 rfl
 generalize (bif decide (5<c/4%8) then _ else w2)=w3 at *
 have hV4:=zkJ hV3 rfl
 generalize (bif decide (w3=[]) then _ else w3)=w4 at *
 cases decide (c%4=0) with
 | true=>exact ⟨w4,0,hV4.1,hV4.2,.inl rfl⟩
 | false =>
  have hR:=zlZ (c:=c) (g:=decide (1<c%4)) h hA rfl rfl
  generalize (bif (decide (1<c%4)&&_) then _ else _)=r at *
  exact ⟨w4,r,hV4.1,hV4.2,.inr ⟨hR.1,hR.2,rfl⟩⟩
theorem zk2 {sw:List (List Int)} {i:Nat} {x:Int} (q:i<((sw.length:Nat):Int).toNat∧x=0+(i:Int)):InB sw.length x:=by unfold InB;omega
theorem zkl {sw:List (List Int)} {w:List Int} {i j:Nat} {x:Int} {p:Int×Int} (hp:sw.length≤1000∧∀ s∈sw,∀ p∈List.zip s w,zel p.1 p.2) (q:i<((sw.length:Nat):Int).toNat∧x=0+(i:Int)) (hx:(List.zip (ixD sw x) w)[j]?=some p):zel p.1 p.2:=hp.2 _ (zcR (zk2 q)) _ (List.mem_of_getElem? hx)
def m_law_due (P0:(List (List Int))) (P1:(List Int)) (P2:Int):(Option Int) :=
 (zjt (loopR (λ(s164:Unit) (x165:Int)=>(((Let (List.foldl (λ(s169:Int) (x170:(Int×Int))=>(Let (s169+(x170.1*x170.2)) (λ(v174:Int) =>
 v174))) (0:Int) (List.zip (ixD P0 x165) P1)) (λ(r175:Int) =>
 (Let (bif (decide ((0:Int)<P2)) then (r175%P2) else r175) (λ(v177:Int) =>
 (bif (!decide (v177=(0:Int))) then (Sum.inr (some x165))
 else (Sum.inl ()))))))):(Unit) ⊕ (Option Int))) () (zb2 0 ((P0.length:Nat):Int).toNat)) (λ(r179:Unit) =>
 none) (λb=>b))
def zcW (P0:(List (List Int))) (P1:(List Int)) (P2:Int):Prop:=P0.length≤1000∧∀ s∈P0,∀ p∈List.zip s P1,zel p.1 p.2
def zdU (K:W.Frag) (A:Adr):Sp:=Spv (ι:=(List (List Int))×(List Int)×Int) (λx=>[dQ K (List.map lI x.1),dQ K (List.map dI x.2.1),dI x.2.2]) (λx=>zcW x.1 x.2.1 x.2.2) (λx=>.va true (dOpt dI (m_law_due x.1 x.2.1 x.2.2)))
theorem zbJ:FnScope ["_law_swaps","_law_weights","_law_rest","_law_k","_law_total","_law_one","_law_other"] ["_law_swaps","_law_weights","_law_rest"] (defScope zcM):=⟨rfl,rfl,rfl,by decide +kernel,rfl,by decide +kernel,by decide +kernel⟩
theorem zgO (F:Fun K "_law_due" "_law_due" zcM f fd) (T:Txt K mg A) :FnOk P w K mg base (CXE P w) 1 f fd ["_law_swaps","_law_weights","_law_rest"] (zdU K A):=by
 refine F.okV zbJ (λ_=>rfl) (λcdv Ar outer s H E x hr hp=>?_)
 obtain ⟨P0,P1,P2⟩:=x
 have hu:=hr.units
 replace hp:zcW P0 P1 P2:=hp
 unfold zcW at hp
 refine ⟨_,(zac (zc2 PassesOwn.never rfl (zbA rfl T.range (pa_cons (pe_callB (zaq (K:=K) rfl) rfl T.len PySem.boot_len (pa_cons (pv 0) pa_nil)) pa_nil)) (pg_name (i:=3) zbJ.nd rfl (Or.inl rfl) (Or.inl rfl))
 (zac (zao (i:=4) zbJ.nd rfl (Or.inl rfl) zae)
 (zac (zc2 PassesOwn.never rfl (zdp (K:=K) rfl rfl T.zip (pa_cons (zdr (zaH (K:=K) rfl) (pv 0) (pv 3) (λ_ _=>rfl)) (pa_cons (pv 1) pa_nil))) (zbh (K:=K) (n:=2) rfl rfl (zap (pg_name (i:=5) zbJ.nd rfl (Or.inl rfl) (Or.inl rfl)) (zap (pg_name (i:=6) zbJ.nd rfl (Or.inl rfl) (Or.inl rfl)) zbL)))
 (zac (zao (i:=4) zbJ.nd rfl (Or.inl rfl) (zam zb8 (pv 4) (zam zbK (pv 5) (pv 6))))
 zad))
 (zac (zbx (zau zfx (pv 2) zae (nomark _))
 (zac (zao (i:=4) zbJ.nd rfl (Or.inl rfl) (zam zbi (pv 4) (pv 2)))
 zad)
 zad)
 (zac (zbx (zau ze7 (pv 4) zae (nomark _))
 (zac (zaE (pv 3))
 zad)
 zad)
 zad)))))
 (zac (zaE zd3)
 zad)),.inl ?_⟩
 show L2.Run _ ([.va false (dQ K (List.map lI P0)),.va false (dQ K (List.map dI P1)),.va false (dI P2),.no,.no,.no,.no]:L2.Ctx) _ ((λ(r:(Option Int))=>Oc.rt true (dOpt dI r)) (m_law_due P0 P1 P2))
 unfold m_law_due
 exact (zee (s0:=()) (λ(s164:Unit)=>([.va false (dQ K (List.map lI P0)),.va false (dQ K (List.map dI P1)),.va false (dI P2),.no,.no,.no,.no]:L2.Ctx)) (λ(r:(Option Int))=>Oc.rt true (dOpt dI r)) (λb=>b) (λ(s164:Unit) (x165:Int)=>(((Let (List.foldl (λ(s169:Int) (x170:(Int×Int))=>(Let (s169+(x170.1*x170.2)) (λ(v174:Int) =>
 v174))) (0:Int) (List.zip (ixD P0 x165) P1)) (λ(r175:Int) =>
 (Let (bif (decide ((0:Int)<P2)) then (r175%P2) else r175) (λ(v177:Int) =>
 (bif (!decide (v177=(0:Int))) then (Sum.inr (some x165))
 else (Sum.inl ()))))))):(Unit) ⊕ (Option Int))) (λ_ _=>True) (λb=>.inl ⟨_,_,rfl⟩) (zcZ (m:=true) (n:=((P0.length:Nat):Int)) (zbj (f:=lI) (xs:=P0) (zaa (i:=0) rfl)) (by have z:=hp.1;refine ⟨?_,?_⟩<;>omega)) (.eq (.eq (.eq (.eq (.eq (.eq (.eq .nil))))))) trivial (λi166 x165 s164 hx167 hI168=>have v167:=zbm hx167;⟨(λ_ _=>trivial),
 (zdE (m:=true) zaw
 (zcU (s0:=(0:Int)) (λ(s169:Int)=>([.va false (dQ K (List.map lI P0)),.va false (dQ K (List.map dI P1)),.va false (dI P2),.va true (dI x165),.va true (dI s169),.no,.no]:L2.Ctx)) (zdR (λ(s164:Unit)=>([.va false (dQ K (List.map lI P0)),.va false (dQ K (List.map dI P1)),.va false (dI P2),.no,.no,.no,.no]:L2.Ctx)) (λ(r:(Option Int))=>Oc.rt true (dOpt dI r))) (λ(s169:Int) (x170:(Int×Int))=>(Let (s169+(x170.1*x170.2)) (λ(v174:Int) =>
 v174))) (λ_ _=>True) (zeH (m:=false) dI dI (xs:=(ixD P0 x165)) (ys:=P1) (Ev.weak (K:=K) (zdP (f:=lI) (xs:=P0) (zaa (i:=0) rfl) (Ev.any (m:=true) (zaa (i:=3) rfl)) (by exact zk2 (by assumption)))) (zaa (i:=1) rfl)) (.eq (.eq (.eq (.eq (.eq (.eq (.eq .nil))))))) trivial (λi171 x170 s169 hx172 hI173=>have v172:=zdh hx172;⟨trivial,
 (zan (m:=true) (x:=(s169+(x170.1*x170.2))) dI (λz=>Oc.nx ((λ(s169:Int)=>([.va false (dQ K (List.map lI P0)),.va false (dQ K (List.map dI P1)),.va false (dI P2),.va true (dI x165),.va true (dI s169),.no,.no]:L2.Ctx)) z)) (zaF (x:=s169) (y:=(x170.1*x170.2)) (Ev.any (m:=true) (zaa (i:=4) rfl)) (zav (x:=x170.1) (y:=x170.2) (Ev.any (m:=false) (zaa (i:=5) rfl)) (Ev.any (m:=false) (zaa (i:=6) rfl)) (by exact zkl hp (by assumption) (by assumption)))) (λv174 hv174 =>
 (zah (.eq (.eq (.eq (.eq (.eq (.no (.no .nil))))))))))⟩) (λr175 hr175 hI =>
 (zbC (b:=(decide ((0:Int)<P2))) (λbb=>([.va false (dQ K (List.map lI P0)),.va false (dQ K (List.map dI P1)),.va false (dI P2),.va true (dI x165),.va true (dI (bif bb then (r175%P2) else r175)),.no,.no]:L2.Ctx)) (zal (zaF (x:=P2) (y:=(0:Int)) (Ev.any (m:=false) (zaa (i:=2) rfl)) zaw)) (λh176=>(zdE (m:=true) (zav (x:=r175) (y:=P2) (Ev.any (m:=true) (zaa (i:=4) rfl)) (Ev.any (m:=false) (zaa (i:=2) rfl)) (by show (0:Int)<_;exact of_decide_eq_true (by assumption)))
 (zah (.eq (.eq (.eq (.eq (.eq (.eq (.eq .nil)))))))))) (λh176=>(zah (.eq (.eq (.eq (.eq (.eq (.eq (.eq .nil)))))))))
 (zbZ (x:=(bif (decide ((0:Int)<P2)) then (r175%P2) else r175)) (λv177=>([.va false (dQ K (List.map lI P0)),.va false (dQ K (List.map dI P1)),.va false (dI P2),.va true (dI x165),.va true (dI v177),.no,.no]:L2.Ctx)) (zdR (λ(s164:Unit)=>([.va false (dQ K (List.map lI P0)),.va false (dQ K (List.map dI P1)),.va false (dI P2),.no,.no,.no,.no]:L2.Ctx)) (λ(r:(Option Int))=>Oc.rt true (dOpt dI r))) (λv177 hv177 =>
 (zaL (b:=(!decide (v177=(0:Int)))) (zdR (λ(s164:Unit)=>([.va false (dQ K (List.map lI P0)),.va false (dQ K (List.map dI P1)),.va false (dI P2),.no,.no,.no,.no]:L2.Ctx)) (λ(r:(Option Int))=>Oc.rt true (dOpt dI r))) (zal (zdM (x:=v177) (y:=(0:Int)) (Ev.any (m:=true) (zaa (i:=4) rfl)) zaw)) (λh178=>(zai (zag (zax (Ev.any (m:=true) (zaa (i:=3) rfl)))))) (λh178 =>
 (zaj (zah (.eq (.eq (.eq (.no (.no (.eq (.eq .nil)))))))))))))))))⟩) (λr179 hr179 hI =>
 (zag (zax zaw))))
def m_law_asked (P0:BookD) (P1:(LineD ⊕ RestD)):((Option Int)×(Option Xn)) :=
 (Let () (λ(v180:Unit) =>
 (Let () (λ(v181:Unit) =>
 (Let (zlD (x_fair P0 P1) (λ(v183:(Option Int)) =>
 (Except.ok v183))) (λ(r184:Except Xn (Option Int)) =>
 ((okJ r184),(zlL r184))))))))
def zcn (P0:BookD) (P1:(LineD ⊕ RestD)):Prop:=FxP P0 P1
def zde (K:W.Frag) (A:Adr):Sp:=Spv (ι:=BookD×(LineD ⊕ RestD)) (λx=>[zcd A.Book x.1,dSc A x.2]) (λx=>zcn x.1 x.2) (λx=>.va true (dT [dOpt dI ((m_law_asked x.1 x.2).1),dOpt (λe=>dE (A.xc e)) ((m_law_asked x.1 x.2).2)]))
theorem zb6:FnScope ["_law_book","_law_scale_here","_law_found","_law_caught","e"] ["_law_book","_law_scale_here"] (defScope zbS):=⟨rfl,rfl,rfl,by decide +kernel,rfl,by decide +kernel,by decide +kernel⟩
theorem zfv (F:Fun K "_law_asked" "_law_asked" zbS f fd) (T:Txt K mg A)  (GX_fair:Callee P w K mg base (CXE P w) 6 "fair" ["book","scale"] (ze6 K A)):FnOk P w K mg base (CXE P w) 7 f fd ["_law_book","_law_scale_here"] (zde K A):=by
 refine F.okVX zb6 (λ_=>rfl) (λcdv Ar outer s H E x hr hp O=>?_)
 obtain ⟨P0,P1⟩:=x
 have hu:=hr.units
 replace hp:zcn P0 P1:=hp
 unfold zcn at hp
 refine ⟨_,(zcT (zeo (zao (i:=2) zb6.nd rfl (Or.inl rfl) zd3))
 (zcT (zeo (zao (i:=3) zb6.nd rfl (Or.inl rfl) zd3))
 (zcT (zk6 (K:=K) O rfl zb6.nd (i:=4) (j:=3) rfl rfl rfl (Or.inl rfl) (Or.inr rfl) rfl T.k_SwapError (zcT (zkg (i:=2) zb6.nd rfl (Or.inl rfl) (xe_fn O GX_fair (hr.mono (by decide)) rfl (pa_cons (pv 0) (pa_cons (pv 1) pa_nil))))
 zfC))
 (zcT (zeo (zaE (zeL (pa_cons (pv 2) (pa_cons (pv 3) pa_nil)))))
 zfC)))),.inl ?_⟩
 show L2.Run _ ([.va false (zcd A.Book P0),.va false (dSc A P1),.no,.no,.no]:L2.Ctx) _ ((λ(r:((Option Int)×(Option Xn)))=>Oc.rt true (dT [dOpt dI r.1,dOpt (λe=>dE (A.xc e)) r.2])) (m_law_asked P0 P1))
 unfold m_law_asked
 exact (zan (m:=true) (x:=()) (λ_=>dN) (λ(r:((Option Int)×(Option Xn)))=>Oc.rt true (dT [dOpt dI r.1,dOpt (λe=>dE (A.xc e)) r.2])) zaw (λv180 hv180 =>
 (zan (m:=true) (x:=()) (λ_=>dN) (λ(r:((Option Int)×(Option Xn)))=>Oc.rt true (dT [dOpt dI r.1,dOpt (λe=>dE (A.xc e)) r.2])) zaw (λv181 hv181 =>
 (ziL (xc:=A.xc) (λ(z182:(Option Int))=>([.va false (zcd A.Book P0),.va false (dSc A P1),.va true (dOpt dI z182),.va true (dN),.no]:L2.Ctx)) ([.va false (zcd A.Book P0),.va false (dSc A P1),.va true (dN),.va true (dN),.no]:L2.Ctx) (λ(r184:Except Xn (Option Int))=>([.va false (zcd A.Book P0),.va false (dSc A P1),.va true (dOpt dI (okJ r184)),.va true (dOpt (λe=>dE (A.xc e)) (zlL r184)),.no]:L2.Ctx)) (λ(r:((Option Int)×(Option Xn)))=>Oc.rt true (dT [dOpt dI r.1,dOpt (λe=>dE (A.xc e)) r.2])) (λE1=>(zij (λv=>Oc.nx ((λ(z182:(Option Int))=>([.va false (zcd A.Book P0),.va false (dSc A P1),.va true (dOpt dI z182),.va true (dN),.no]:L2.Ctx)) v)) (P0,P1) (zab (zaa (i:=0) rfl) (zab (zaa (i:=1) rfl) zaf)) rfl (by show zdO P0 P1;exact hp) rfl (.eq (.eq (.eq (.eq (.eq .nil))))) (λv183 hv183 =>
 (zah (.eq (.eq (.eq (.eq (.eq .nil))))))))) (λz182=>(.eq (.eq (.eq (.eq (.eq .nil)))))) (λe=>⟨match e with | .BadScale=>T.exm_BadScale,(.eq (.eq (.eq (.eq (.eq .nil)))))⟩) (λr184 hr184 =>
 (zag (zax (zeF (zab (zaa (i:=2) rfl) (zab (zaa (i:=3) rfl) zaf)) (by show 2≤sizeLine;decide))))))))))
theorem zga (b:BookD) (s:LineD ⊕ RestD):m_law_asked b s=(okJ (x_fair b s),zlL (x_fair b s)):=by
 unfold m_law_asked Let zlD
 cases x_fair b s<;>rfl
def GoP (b:BookD) (t:T3 (LineD ⊕ RestD) (List Int) Int) (sw:List (List Int)):Prop:=GoU t∧b.swaps=sw∧sw.length≤1000∧∀ s∈sw,(s.length:Int)=b.many∧Lat.Bit 160 s
theorem zi5:∀ (w t:List Int) (a:Int),List.foldl (λ(s:Int) (x:Int×Int)=>Let (s+(x.1*x.2)) (λ(y:Int)=>y)) a (List.zip w t)=a+(List.map (λ(x:Int×Int)=>x.1*x.2) (List.zip t w)).sum
 | [],t,a=>by cases t<;>(show a=a+0;omega)
 | _ :: _,[],a=>by show a=a+0;omega
 | x :: w,y :: t,a=>by
  show List.foldl _ (a+x*y) (List.zip w t)=a+(y*x+(List.map (λ(x:Int×Int)=>x.1*x.2) (List.zip t w)).sum)
  rw [zi5 w t,Int.mul_comm y x];omega
theorem ziF (s ws:List Int):List.foldl (λ(s:Int) (x:Int×Int)=>Let (s+(x.1*x.2)) (λ(y:Int)=>y)) (0:Int) (List.zip s ws)=m_weighed ws s:=by
 rw [zi5,Int.zero_add];rfl
theorem zi8 {r:Int}:∀ (v:List Int) (u:Lat.Vc),r ∣ Lat.dv (List.map (λ(y:Int)=>y%r) v) u-Lat.dv v u
 | [],u=>by show r ∣ 0-0;exact Int.dvd_zero _
 | a :: v,u=>by
  obtain ⟨k,hk⟩:=zi8 v λi=>u (i+1)
  refine ⟨k-a/r*u 0,?_⟩
  show (a%r*u 0+Lat.dv (List.map (λ(y:Int)=>y%r) v) λi=>u (i+1))-(a*u 0+Lat.dv v λi=>u (i+1))=r*(k-a/r*u 0)
  have e:=Int.emod_add_mul_ediv a r
  have e2:a*u 0=a%r*u 0+r*(a/r*u 0):=by
   conv=>lhs;rw [← e]
   rw [Int.add_mul,Int.mul_assoc]
  rw [Int.mul_sub,← hk]
  omega
section
variable {b:BookD} {t p:T3 (LineD ⊕ RestD) (List Int) Int} {sw:List (List Int)}
theorem GoU.wt (h:GoU t):(scW t.a).length=t.b.length∧t.b.length≤8∧Lat.Bit 67 t.b∧Lat.Bit 67 (scW t.a)∧(t.a.isRight=true->0<(gR t.a).rest)∧(0<t.c->t.a.isRight=true):=by
 obtain ⟨ws,r,h1,h2,rfl | ⟨h3,h4,rfl⟩⟩:=h
 ·exact ⟨rfl,h1,h2,h2,(λz=>by cases z),(λz=>by have:(0:Int)<0:=z;omega)⟩
 ·refine ⟨List.length_map _,h1,h2,λy hy=>?_,λ_=>by show 0<r;omega,λ_=>rfl⟩
  have hy:y∈List.map (λ(y:Int)=>y%r) ws:=hy
  obtain ⟨u,_,rfl⟩:=List.mem_map.mp hy
  have m0:=Int.emod_nonneg u (show r≠0 by omega)
  have m1:=Int.emod_lt_of_pos u (show 0<r by omega)
  exact Nat.le_trans (show (u%r).natAbs≤1000000001 by omega) (by decide)
theorem zmc (h:GoP b t sw) (e:p=t):GoP b p sw:=by rw [e];exact h
theorem zlr (h:GoP b t sw):FxP b t.a:=by
 obtain ⟨h1,h2,h3,h4⟩:=h
 obtain ⟨w1,w2,w3,w4,w5,w6⟩:=h1.wt
 refine ⟨by omega,w5,λs hs=>?_⟩
 rw [h2] at hs
 refine ⟨(h4 s hs).1,λp hp=>?_⟩
 have hm:=List.of_mem_zip (a:=p.1) (b:=p.2) hp
 exact Lat.zel.of (w4 _ hm.1) ((h4 s hs).2 _ hm.2) (by decide) (by decide)
theorem zlQ (h:GoP b t sw):sw.length≤1000∧∀ s∈sw,∀ p∈List.zip s t.b,zel p.1 p.2:=by
 obtain ⟨h1,h2,h3,h4⟩:=h
 obtain ⟨w1,w2,w3,w4,w5,w6⟩:=h1.wt
 refine ⟨h3,λs hs p hp=>?_⟩
 have hm:=List.of_mem_zip (a:=p.1) (b:=p.2) hp
 exact Lat.zel.of ((h4 s hs).2 _ hm.1) (w3 _ hm.2) (by decide) (by decide)
theorem zk7 (h:GoP b t sw):t.b.length≤PySem.sizeLine:=zak (by have:=h.1.wt.2.1;omega)
theorem zma (h:GoP b t sw) (q:decide ((0:Int)<t.c)=true):t.a.isRight=true:=h.1.wt.2.2.2.2.2 (of_decide_eq_true q)
theorem zkh (h:GoU t) (s:List Int):(!decide ((bif decide ((0:Int)<t.c) then m_weighed t.b s%t.c else m_weighed t.b s)=(0:Int)))=(!(za6 t.a s)):=by
 obtain ⟨ws,r,h1,h2,rfl | ⟨h3,h4,rfl⟩⟩:=h
 ·rfl
 ·show (!decide ((bif decide ((0:Int)<r) then m_weighed ws s%r else m_weighed ws s)=(0:Int)))=(!decide (m_weighed (List.map (λ(y:Int)=>y%r) ws) s%r=(0:Int)))
  rw [decide_eq_true (show (0:Int)<r by omega),cond_true,zeR,zeR]
  have hd:=Int.emod_eq_emod_iff_emod_sub_eq_zero.mpr (Int.emod_eq_zero_of_dvd (zi8 (r:=r) ws (Lat.vec s)))
  rw [hd]
theorem zhI (h:GoP b t sw) (hl:((t.b.length:Nat):Int)=b.many):x_fair b t.a=.ok (m_law_due sw t.b t.c):=by
 obtain ⟨h1,h2,h3,h4⟩:=h
 unfold x_fair m_law_due
 rw [h1.wt.1,decide_eq_true hl,h2,Int.toNat_natCast]
 rw [show ∀ f:Unit->Int->Unit ⊕ Option Int,loopR f () (zb2 0 sw.length)=loopR (λs x=>f s (Prod.fst x)) () (zdT sw) from λf=>by rw [← ziN,zgc]]
 have e2:loopR (λ(_:Unit) (x:Int×List Int)=>((Let (List.foldl (λ(s:Int) (x:Int×Int)=>(Let (s+(x.1*x.2)) (λ(y:Int)=>y))) (0:Int) (List.zip (ixD sw (Prod.fst x)) t.b)) (λ(r:Int)=>(Let (bif (decide ((0:Int)<t.c)) then (r%t.c) else r) (λ(z:Int)=>(bif (!decide (z=(0:Int))) then (Sum.inr (some (Prod.fst x))) else (Sum.inl ()))))) ):Unit ⊕ Option Int)) () (zdT sw)=loopR (λ(_:Unit) (x:Int×List Int)=>((bif (!(za6 t.a x.2)) then (Sum.inr (some x.1)) else (Sum.inl ())):Unit ⊕ Option Int)) () (zdT sw):=zfp λq hq=>by
  obtain ⟨i,hi⟩:=List.getElem?_of_mem hq
  obtain ⟨k1,k2,k3⟩:=zda hi
  have e:ixD sw q.1=q.2:=by rw [k2];exact ze0 k3
  show (bif (!decide ((bif (decide ((0:Int)<t.c)) then (List.foldl (λ(s:Int) (x:Int×Int)=>(Let (s+(x.1*x.2)) (λ(y:Int)=>y))) (0:Int) (List.zip (ixD sw q.1) t.b)%t.c) else List.foldl (λ(s:Int) (x:Int×Int)=>(Let (s+(x.1*x.2)) (λ(y:Int)=>y))) (0:Int) (List.zip (ixD sw q.1) t.b))=(0:Int))) then (Sum.inr (some q.1)) else (Sum.inl ()))=(bif (!(za6 t.a q.2)) then (Sum.inr (some q.1)) else (Sum.inl ()))
  rw [e,ziF,zkh h1]
 rw [e2]
 show zjt _ _ _=_
 cases loopR (λ(_:Unit) (x:Int×List Int)=>((bif (!(za6 t.a x.2)) then (Sum.inr (some x.1)) else (Sum.inl ())):Unit ⊕ Option Int)) () (zdT sw)<;>rfl
theorem zjz (h:GoU t) (hl:¬ ((t.b.length:Nat):Int)=b.many):x_fair b t.a=.error .BadScale:=by
 unfold x_fair
 rw [h.wt.1,decide_eq_false hl]
 rfl
theorem zj0 {pr:Option Int×Option Xn} {d:Option Int} (h:GoP b t sw) (hF:pr=m_law_asked b t.a) (hD:d=m_law_due sw t.b t.c) (hl:(!decide (((t.b.length:Nat):Int)=b.many))=false) (hs:d.isSome=true):pr.1.isSome=true:=by
 rw [hF,zga,zhI h (by simpa using hl),← hD]
 exact hs
end
def m_law_good (P0:BookD) (P1:(T3 (LineD ⊕ RestD) (List Int) Int)) (P2:(List (List Int))):Bool :=
 (Let P1 (λ(p185:(T3 (LineD ⊕ RestD) (List Int) Int)) =>
 (zjt (loopR (λ(s186:Unit) (x187:Int)=>(((Let (m_law_asked P0 p185.a) (λ(p191:((Option Int)×(Option Xn))) =>
 (bif (!decide (((p185.b.length:Nat):Int)=P0.many)) then (bif (!(m_law_only p191.2 ("BadScale":Str))) then (Sum.inr false)
 else (Sum.inl ()))
 else (Let (m_law_due P2 p185.b p185.c) (λ(v194:(Option Int)) =>
 (bif (p191.2.isSome||(v194.isNone&&p191.1.isSome)) then (Sum.inr false)
 else (bif (v194.isSome&&((!(m_law_whole (gS p191.1)))||(!decide ((gS p191.1)=(gS v194))))) then (Sum.inr false)
 else (Sum.inl ()))))))))):(Unit) ⊕ Bool)) () (zb2 0 (2:Int).toNat)) (λ(r197:Unit) =>
 (bif (decide ((0:Int)<p185.c)) then ((decide ((gR p185.a).rest=p185.c))&&(decide ((scW p185.a)=(List.map (λ(x199:Int)=>(x199%p185.c)) p185.b))))
 else (decide ((scW p185.a)=p185.b)))) (λb=>b))))
def zcF (P0:BookD) (P1:(T3 (LineD ⊕ RestD) (List Int) Int)) (P2:(List (List Int))):Prop:=GoP P0 P1 P2
def zdF (K:W.Frag) (A:Adr):Sp:=Spv (ι:=BookD×(T3 (LineD ⊕ RestD) (List Int) Int)×(List (List Int))) (λx=>[zcd A.Book x.1,dT [dSc A x.2.1.a,dL (List.map dI x.2.1.b),dI x.2.1.c],dQ K (List.map lI x.2.2)]) (λx=>zcF x.1 x.2.1 x.2.2) (λx=>.va true (dB (m_law_good x.1 x.2.1 x.2.2)))
theorem za8:FnScope ["_law_book","_law_made_here","_law_swaps","_law_scale_here","_law_weights","_law_rest","_law_k","_law_found","_law_caught","_law_due_here"] ["_law_book","_law_made_here","_law_swaps"] (defScope zbR):=⟨rfl,rfl,rfl,by decide +kernel,rfl,by decide +kernel,by decide +kernel⟩
theorem zfR (F:Fun K "_law_good" "_law_good" zbR f fd) (T:Txt K mg A) (G_law_asked:Callee P w K mg base (CXE P w) 7 "_law_asked" ["_law_book","_law_scale_here"] (zde K A)) (G_law_due:Callee P w K mg base (CXE P w) 1 "_law_due" ["_law_swaps","_law_weights","_law_rest"] (zdU K A)) (G_law_only:Callee P w K mg base (CXE P w) 2 "_law_only" ["_law_caught","_law_name"] (zdy K A)) (G_law_whole:Callee P w K mg base (CXE P w) 1 "_law_whole" ["_law_found"] (zdf K A)):FnOk P w K mg base (CXE P w) 8 f fd ["_law_book","_law_made_here","_law_swaps"] (zdF K A):=by
 refine F.okV za8 (λ_=>rfl) (λcdv Ar outer s H E x hr hp=>?_)
 obtain ⟨P0,P1,P2⟩:=x
 have hu:=hr.units
 replace hp:zcF P0 P1 P2:=hp
 unfold zcF at hp
 refine ⟨_,(zac (zdv (pv 1) (zbh (K:=K) (n:=3) rfl rfl (zap (pg_name (i:=3) za8.nd rfl (Or.inl rfl) (Or.inl rfl)) (zap (pg_name (i:=4) za8.nd rfl (Or.inl rfl) (Or.inl rfl)) (zap (pg_name (i:=5) za8.nd rfl (Or.inr rfl) (Or.inl rfl)) zbL)))))
 (zac (zc2 PassesOwn.never rfl (zbA rfl T.range (pa_cons zae pa_nil)) (pg_name (i:=6) za8.nd rfl (Or.inl rfl) (Or.inl rfl))
 (zac (zdv (pe_fn G_law_asked (hr.mono (by decide)) rfl passE (pa_cons (pv 0) (pa_cons (pv 3) pa_nil))) (zbh (K:=K) (n:=2) rfl rfl (zap (pg_name (i:=7) za8.nd rfl (Or.inl rfl) (Or.inl rfl)) (zap (pg_name (i:=8) za8.nd rfl (Or.inl rfl) (Or.inl rfl)) zbL))))
 (zac (zbx (zau ze7 (pe_callB (zaq (K:=K) rfl) rfl T.len PySem.boot_len (pa_cons (pv 4) pa_nil)) (zbw (K:=K) rfl (pv 0) rfl) (nomark _))
 (zac (zbx (zgj (zgr (pe_fn G_law_only (hr.mono (by decide)) rfl passE (pa_cons (pv 8) (pa_cons zbl pa_nil)))))
 (zac (zaE zik)
 zad)
 zad)
 zad)
 (zac (zao (i:=9) za8.nd rfl (Or.inl rfl) (pe_fn G_law_due (hr.mono (by decide)) rfl passE (pa_cons (pv 2) (pa_cons (pv 4) (pa_cons (pv 5) pa_nil)))))
 (zac (zbx (PW.pt (zjO (zau zf4 (pv 8) zd3 (nomark _)) (zg1 (PW.pt (zfB (zau zkM (pv 9) zd3 (nomark _)) (zeA (zau zf4 (pv 7) zd3 (nomark _))))))))
 (zac (zaE zik)
 zad)
 zad)
 (zac (zbx (PW.pt (zfB (zau zf4 (pv 9) zd3 (nomark _)) (zeA (PW.pt (zjO (zgj (zgr (pe_fn G_law_whole (hr.mono (by decide)) rfl passE (pa_cons (pv 7) pa_nil)))) (zg1 (zau ze7 (pv 7) (pv 9) (nomark _))))))))
 (zac (zaE zik)
 zad)
 zad)
 zad))))
 zad)))
 (zac (zbx (zau zfx (pv 5) zae (nomark _))
 (zac (zaE (zgX (pe_cmpR op_eq (zbw (K:=K) rfl (pv 3) rfl) (pv 5) (nomark _)) (pe_one (pe_cmpR (op_eq_K (K:=K) rfl hu) (zbw (K:=K) rfl (pv 3) rfl) (pe_comp rfl (.of (osc:=(defScope zbR)) (N:=["_law_book","_law_made_here","_law_swaps","_law_scale_here","_law_weights","_law_rest","_law_k","_law_found","_law_caught","_law_due_here"]) (own:=["_law_weight"]) (fvn:=["_law_rest"]) (fv:=[5]) rfl rfl (by decide +kernel)) (pi_list_K (K:=K) rfl (pv 4)) (λ_ _ _ _ _=>⟨(pg_name (i:=0) (show (["_law_weight","_law_rest"]:List Str).Nodup by decide +kernel) rfl (Or.inl rfl) (Or.inr rfl)),pts_nil,(zam zbi (pv 0) (pv 1))⟩)) (nomark _)))))
 zad)
 zad)
 (zac (zaE (pe_cmpR (op_eq_K (K:=K) rfl hu) (zbw (K:=K) rfl (pv 3) rfl) (pv 4) (nomark _)))
 zad)))),.inl ?_⟩
 show L2.Run _ ([.va false (zcd A.Book P0),.va false (dT [dSc A P1.a,dL (List.map dI P1.b),dI P1.c]),.va false (dQ K (List.map lI P2)),.no,.no,.no,.no,.no,.no,.no]:L2.Ctx) _ ((λ(r:Bool)=>Oc.rt true (dB r)) (m_law_good P0 P1 P2))
 unfold m_law_good
 exact (zeY (m:=false) (x:=P1) (λ(p185:(T3 (LineD ⊕ RestD) (List Int) Int))=>dSc A p185.a) (λ(p185:(T3 (LineD ⊕ RestD) (List Int) Int))=>dL (List.map dI p185.b)) (λ(p185:(T3 (LineD ⊕ RestD) (List Int) Int))=>dI p185.c) (λ(r:Bool)=>Oc.rt true (dB r)) (zaa (i:=1) rfl) (λp185 hp185 =>
 have hU:=zmc hp hp185;(zee (s0:=()) (λ(s186:Unit)=>([.va false (zcd A.Book P0),.va false (dT [dSc A P1.a,dL (List.map dI P1.b),dI P1.c]),.va false (dQ K (List.map lI P2)),.va false (dSc A p185.a),.va false (dL (List.map dI p185.b)),.va false (dI p185.c),.no,.no,.no,.no]:L2.Ctx)) (λ(r:Bool)=>Oc.rt true (dB r)) (λb=>b) (λ(s186:Unit) (x187:Int)=>(((Let (m_law_asked P0 p185.a) (λ(p191:((Option Int)×(Option Xn))) =>
 (bif (!decide (((p185.b.length:Nat):Int)=P0.many)) then (bif (!(m_law_only p191.2 ("BadScale":Str))) then (Sum.inr false)
 else (Sum.inl ()))
 else (Let (m_law_due P2 p185.b p185.c) (λ(v194:(Option Int)) =>
 (bif (p191.2.isSome||(v194.isNone&&p191.1.isSome)) then (Sum.inr false)
 else (bif (v194.isSome&&((!(m_law_whole (gS p191.1)))||(!decide ((gS p191.1)=(gS v194))))) then (Sum.inr false)
 else (Sum.inl ()))))))))):(Unit) ⊕ Bool)) (λ_ _=>True) (λb=>.inl ⟨_,_,rfl⟩) (zcZ (m:=true) (n:=(2:Int)) zaw (by decide)) (.eq (.eq (.eq (.eq (.eq (.eq (.eq (.eq (.eq (.eq .nil)))))))))) trivial (λi188 x187 s186 hx189 hI190=>have v189:=zbm hx189;⟨(λ_ _=>trivial),
 (zdj (m:=true) (x:=(m_law_asked P0 p185.a)) (λ(p191:((Option Int)×(Option Xn)))=>dOpt dI p191.1) (λ(p191:((Option Int)×(Option Xn)))=>dOpt (λe=>dE (A.xc e)) p191.2) (zdR (λ(s186:Unit)=>([.va false (zcd A.Book P0),.va false (dT [dSc A P1.a,dL (List.map dI P1.b),dI P1.c]),.va false (dQ K (List.map lI P2)),.va false (dSc A p185.a),.va false (dL (List.map dI p185.b)),.va false (dI p185.c),.no,.no,.no,.no]:L2.Ctx)) (λ(r:Bool)=>Oc.rt true (dB r))) (zaA (x:=(P0,p185.a)) (zab (zaa (i:=0) rfl) (zab (zaa (i:=3) rfl) zaf)) rfl (by show zcn P0 p185.a;exact zlr hU) rfl) (λp191 hp191 =>
 have hF:=hp191;(zaL (b:=(!decide (((p185.b.length:Nat):Int)=P0.many))) (zdR (λ(s186:Unit)=>([.va false (zcd A.Book P0),.va false (dT [dSc A P1.a,dL (List.map dI P1.b),dI P1.c]),.va false (dQ K (List.map lI P2)),.va false (dSc A p185.a),.va false (dL (List.map dI p185.b)),.va false (dI p185.c),.no,.no,.no,.no]:L2.Ctx)) (λ(r:Bool)=>Oc.rt true (dB r))) (zal (zdM (x:=((p185.b.length:Nat):Int)) (y:=P0.many) (zbj (f:=dI) (xs:=p185.b) (Ev.weak (K:=K) (zaa (i:=4) rfl))) (Ev.any (m:=false) (zdQ (zaa (i:=0) rfl) T.Book_cl T.Book_many rfl)))) (λh192=>(zai (zaL (b:=(!(m_law_only p191.2 ("BadScale":Str)))) (zdR (λ(s186:Unit)=>([.va false (zcd A.Book P0),.va false (dT [dSc A P1.a,dL (List.map dI P1.b),dI P1.c]),.va false (dQ K (List.map lI P2)),.va false (dSc A p185.a),.va false (dL (List.map dI p185.b)),.va false (dI p185.c),.no,.no,.no,.no]:L2.Ctx)) (λ(r:Bool)=>Oc.rt true (dB r))) (ze1 (zeV (Ev.any (m:=true) (zaA (x:=(p191.2,("BadScale":Str))) (zab (Ev.old (zaa (i:=8) rfl)) (zab zaw zaf)) rfl (by show zcE p191.2 ("BadScale":Str);exact trivial) rfl)))) (λh193=>(zai (zag (zax zaw)))) (λh193 =>
 (zaj (zaj (zah (.eq (.eq (.eq (.eq (.eq (.eq (.no (.no (.no (.eq .nil))))))))))))))))) (λh192 =>
 (zai (zan (m:=true) (x:=(m_law_due P2 p185.b p185.c)) (dOpt dI) (zdR (λ(s186:Unit)=>([.va false (zcd A.Book P0),.va false (dT [dSc A P1.a,dL (List.map dI P1.b),dI P1.c]),.va false (dQ K (List.map lI P2)),.va false (dSc A p185.a),.va false (dL (List.map dI p185.b)),.va false (dI p185.c),.no,.no,.no,.no]:L2.Ctx)) (λ(r:Bool)=>Oc.rt true (dB r))) (zaA (x:=(P2,p185.b,p185.c)) (zab (zaa (i:=2) rfl) (zab (Ev.weak (K:=K) (zaa (i:=4) rfl)) (zab (Ev.any (m:=false) (zaa (i:=5) rfl)) zaf))) rfl (by show zcW P2 p185.b p185.c;exact zlQ hU) rfl) (λv194 hv194 =>
 have hD:=hv194;(zai (zaL (b:=(p191.2.isSome||(v194.isNone&&p191.1.isSome))) (zdR (λ(s186:Unit)=>([.va false (zcd A.Book P0),.va false (dT [dSc A P1.a,dL (List.map dI P1.b),dI P1.c]),.va false (dQ K (List.map lI P2)),.va false (dSc A p185.a),.va false (dL (List.map dI p185.b)),.va false (dI p185.c),.no,.no,.no,.no]:L2.Ctx)) (λ(r:Bool)=>Oc.rt true (dB r))) (zhM (b:=p191.2.isSome) (zal (zdc (x:=p191.2) (f:=(λe=>dE (A.xc e))) (Ev.old (zaa (i:=8) rfl)) zaw NN.exc)) (λhb=>(zet (b:=v194.isNone) (zal (zhT (x:=v194) (f:=dI) (Ev.old (zaa (i:=9) rfl)) zaw NN.int)) (λhb=>(zal (zdc (x:=p191.1) (f:=dI) (Ev.old (zaa (i:=7) rfl)) zaw NN.int)))))) (λh195=>(zai (zag (zax zaw)))) (λh195 =>
 (zaj (zai (zaL (b:=(v194.isSome&&((!(m_law_whole (gS p191.1)))||(!decide ((gS p191.1)=(gS v194)))))) (zdR (λ(s186:Unit)=>([.va false (zcd A.Book P0),.va false (dT [dSc A P1.a,dL (List.map dI P1.b),dI P1.c]),.va false (dQ K (List.map lI P2)),.va false (dSc A p185.a),.va false (dL (List.map dI p185.b)),.va false (dI p185.c),.no,.no,.no,.no]:L2.Ctx)) (λ(r:Bool)=>Oc.rt true (dB r))) (zet (b:=v194.isSome) (zal (zdc (x:=v194) (f:=dI) (Ev.old (zaa (i:=9) rfl)) zaw NN.int)) (λhb=>(zhM (b:=(!(m_law_whole (gS p191.1)))) (ze1 (zeV (Ev.any (m:=true) (zaA (x:=(gS p191.1)) (zab (Ev.old (ev_some (f:=dI) (x:=p191.1) (zaa (i:=7) rfl) (by first | assumption | exact zj0 hU hF hD (by assumption) (by assumption)))) zaf) rfl (by show zco (gS p191.1);exact trivial) rfl)))) (λhb=>(zal (zdM (x:=(gS p191.1)) (y:=(gS v194)) (Ev.old (ev_some (f:=dI) (x:=p191.1) (zaa (i:=7) rfl) (by first | assumption | exact zj0 hU hF hD (by assumption) (by assumption)))) (Ev.old (ev_some (f:=dI) (x:=v194) (zaa (i:=9) rfl) (by first | assumption | exact zj0 hU hF hD (by assumption) (by assumption)))))))))) (λh196=>(zai (zag (zax zaw)))) (λh196 =>
 (zaj (zaj (zah (.eq (.eq (.eq (.eq (.eq (.eq (.no (.no (.no (.no .nil)))))))))))))))))))))))))))⟩) (λr197 hr197 hI =>
 (zaL (b:=(decide ((0:Int)<p185.c))) (λ(r:Bool)=>Oc.rt true (dB r)) (zal (zaF (x:=p185.c) (y:=(0:Int)) (Ev.any (m:=false) (zaa (i:=5) rfl)) zaw)) (λh198=>(zai (zag (zax (zhR (b:=(decide ((gR p185.a).rest=p185.c))) (zc3 (x:=(gR p185.a).rest) (y:=p185.c) (Ev.any (m:=false) (zdQ (zke (zaa (i:=3) rfl) (by exact zma hU (by assumption))) T.Rest_cl T.Rest_rest rfl)) (Ev.any (m:=false) (zaa (i:=5) rfl))) (λhb=>(zfH (n:=0) (neg:=false) (xs:=(scW p185.a)) (ys:=(List.map (λ(x199:Int)=>(x199%p185.c)) p185.b)) EqD.int (Ev.weak (K:=K) (zf3 (cl:=scC A) (fs:=scF) (d:=λx=>dL (List.map dI (scW x))) zhu (zaa (i:=3) rfl) (λx=>match x with | .inl _=>⟨T.Line_cl,T.Line_weights⟩ | .inr _=>⟨T.Rest_cl,T.Rest_weights⟩) (λx=>match x with | .inl _=>rfl | .inr _=>rfl))) (Ev.weak (K:=K) (EvO.ev (EvO.conv (zcg (g:=(λ(x199:Int)=>dI (x199%p185.c))) (zcB (m:=false) dI (xs:=p185.b) (Ev.weak (K:=K) (zaa (i:=4) rfl))) (by exact zk7 hU) ⟨by decide,by decide⟩ (λi200 x199 hx201=>have v201:=List.mem_of_getElem? hx201;(zav (x:=x199) (y:=p185.c) (Ev.any (m:=false) (zaa (i:=0) rfl)) (Ev.any (m:=false) (zaa (i:=1) rfl)) (by show (0:Int)<_;exact of_decide_eq_true (by assumption))))) (by first | (rw [List.map_map];rfl) | (simp only [cond_true,cond_false];rw [List.map_map];rfl)))))))))))) (λh198 =>
 (zaj (zag (zax (zfH (n:=0) (neg:=false) (xs:=(scW p185.a)) (ys:=p185.b) EqD.int (Ev.weak (K:=K) (zf3 (cl:=scC A) (fs:=scF) (d:=λx=>dL (List.map dI (scW x))) zhu (zaa (i:=3) rfl) (λx=>match x with | .inl _=>⟨T.Line_cl,T.Line_weights⟩ | .inr _=>⟨T.Rest_cl,T.Rest_weights⟩) (λx=>match x with | .inl _=>rfl | .inr _=>rfl))) (Ev.weak (K:=K) (zaa (i:=4) rfl))))))))))))
theorem zfr {α β:Type} (x:α) (f:α->β):Let x f=f x:=rfl
theorem zfs {γ:Type} {xs:List γ} {f:Unit->γ->Unit ⊕ Bool} {k:Unit->Bool} (h:∀ x∈xs,f () x=.inl ()):zjt (loopR f () xs) k (λb=>b)=k ():=by
 have:∀ (l:List γ),(∀ x∈l,f () x=.inl ())->loopR f () l=.inl ():=by
  intro l
  induction l with
  | nil=>intro _;rfl
  | cons x l ih =>
   intro h
   unfold loopR
   rw [h x List.mem_cons_self]
   exact ih λy hy=>h y (List.mem_cons_of_mem _ hy)
 rw [this xs h];rfl
theorem zj8:m_law_only (some Xn.BadScale) ("BadScale":Str)=true:=by rfl
theorem zkE {b:BookD} {t:T3 (LineD ⊕ RestD) (List Int) Int} {sw:List (List Int)} (h:GoP b t sw):m_law_good b t sw=true:=by
 unfold m_law_good
 rw [zfr]
 refine (zfs λk _=>?_).trans ?_
 ·rw [zfr,zga]
  by_cases hl:((t.b.length:Nat):Int)=b.many
  ·rw [decide_eq_true hl,zhI h hl]
   generalize m_law_due sw t.b t.c=d
   rw [show (!true)=false from rfl,cond_false,zfr]
   cases d with
   | none=>rfl
   | some k =>
    show (bif (true&&((!true)||(!decide (k=k)))) then _ else _)=_
    rw [decide_eq_true rfl];rfl
  ·rw [decide_eq_false hl,zjz h.1 hl]
   show (bif (!(m_law_only (some Xn.BadScale) ("BadScale":Str))) then (Sum.inr false) else (Sum.inl ()))=(Sum.inl ():Unit ⊕ Bool)
   rw [zj8];rfl
 ·obtain ⟨ws,r,h1,h2,rfl | ⟨h3,h4,rfl⟩⟩:=h.1
  ·show decide (ws=ws)=true
   exact decide_eq_true rfl
  ·show (bif decide ((0:Int)<r) then ((decide (r=r))&&(decide (List.map (λ(y:Int)=>y%r) ws=List.map (λ(x:Int)=>x%r) ws))) else _)=true
   rw [decide_eq_true (show (0:Int)<r by omega)]
   simp
section
variable {xs:List Int} {y:T5 (List (List Int)) (List (List Int)) (List Int) (List (List Int)) (List (List Int))} {b:BookD} {c:Int}
theorem zk1 (hp:xs.length≤63) (e:y=m_law_made xs):zf5 y∧zf6 y:=by rw [e];exact ⟨zjp hp,zj9 hp⟩
theorem zkj (hM:zf5 y∧zf6 y) (e:b=m_book_of ((y.a.length:Nat):Int) (List.map (λ(x:List Int)=>x) y.d)):b=⟨((y.a.length:Nat):Int),y.d⟩:=by rw [e,zgh,zkv]
theorem zkD (hM:zf5 y∧zf6 y):zcw ((y.a.length:Nat):Int) (List.map (λ(x:List Int)=>x) y.d):=by
 rw [zgh]
 obtain ⟨n,k,h1,h2,h3,h4,h5,h6,_⟩:=hM.1
 exact ⟨by omega,by omega,by omega,λs hs=>by rw [(h6 s hs).1,h1]⟩
theorem zkN (hM:zf5 y∧zf6 y):y.d.length≤PySem.sizeLine:=by
 obtain ⟨n,k,h1,h2,h3,h4,h5,h6,_⟩:=hM.1
 exact zak (by omega)
theorem zjk (h:xs.length≤63) {a b:Option Int}:(cutD xs a b).length+[(0:Int),(2:Int)].length≤PySem.sizeLine:=zak (by have:=zeP (xs:=xs) (a:=a) (b:=b);simp;omega)
theorem zi7 (hM:zf5 y∧zf6 y):ScP y.b y.c:=by
 obtain ⟨n,h1,h2,h3,h4,h5,h6⟩:=hM.2
 exact ⟨n,h2,h3,h4.1,h5,h4.2,h6⟩
theorem zi3 {t:T3 (LineD ⊕ RestD) (List Int) Int} (hM:zf5 y∧zf6 y) (hB:b=⟨((y.a.length:Nat):Int),y.d⟩) (e:t=m_law_scale y.b y.c c):GoP b t y.d:=by
 rw [e,hB]
 obtain ⟨n,k,h1,h2,h3,h4,h5,h6,_⟩:=hM.1
 exact ⟨ziu (zi7 hM),rfl,by omega,λs hs=>⟨by show (s.length:Int)=((y.a.length:Nat):Int);rw [(h6 s hs).1,h1],(h6 s hs).2⟩⟩
end
def m_law (P0:(List Int)):Bool :=
 (Let (m_law_made P0) (λ(p202:(T5 (List (List Int)) (List (List Int)) (List Int) (List (List Int)) (List (List Int)))) =>
 (Let (m_book_of ((p202.a.length:Nat):Int) (List.map (λ(x203:(List Int))=>x203) p202.d)) (λ(v206:BookD) =>
 (zjt (loopR (λ(s207:Unit) (x208:Int)=>(((bif (!(m_law_good v206 (m_law_scale p202.b p202.c x208) p202.d)) then (Sum.inr false)
 else (Sum.inl ()))):(Unit) ⊕ Bool)) () ((cutD P0 (some (2:Int)) (some (62:Int)))++[(0:Int),(2:Int)])) (λ(r213:Unit) =>
 (decide (v206.swaps=p202.d))) (λb=>b))))))
def zfX (P0:(List Int)):Prop:=P0.length≤63
def ziZ (K:W.Frag) (A:Adr):Sp:=Spv (ι:=(List Int)) (λx=>[dQ K (List.map dI x)]) (λx=>zfX x) (λx=>.va true (dB (m_law x)))
theorem zd2:FnScope ["_law_script","_law_rows","_law_duals","_law_bottoms_here","_law_swaps","_law_trips","_law_book","_law_cell_here"] ["_law_script"] (defScope zeE):=⟨rfl,rfl,rfl,by decide +kernel,rfl,by decide +kernel,by decide +kernel⟩
theorem zkA (F:Fun K "law" "law" zeE f fd) (T:Txt K mg A) (G_law_good:Callee P w K mg base (CXE P w) 8 "_law_good" ["_law_book","_law_made_here","_law_swaps"] (zdF K A)) (G_law_made:Callee P w K mg base (CXE P w) 3 "_law_made" ["_law_script"] (zdD K A)) (G_law_scale:Callee P w K mg base (CXE P w) 4 "_law_scale" ["_law_duals","_law_bottoms_here","_law_cell_here"] (zc9 K A)) (G_book_of:Callee P w K mg base (CXE P w) 3 "book_of" ["many","swaps"] (zd1 K A)):FnOk P w K mg base (CXE P w) 9 f fd ["_law_script"] (ziZ K A):=by
 refine F.okV zd2 (λ_=>rfl) (λcdv Ar outer s H E P0 hr hp=>?_)
 have hu:=hr.units
 replace hp:zfX P0:=hp
 unfold zfX at hp
 refine ⟨_,(zac (zdv (pe_fn G_law_made (hr.mono (by decide)) rfl passE (pa_cons (pv 0) pa_nil)) (zbh (K:=K) (n:=5) rfl rfl (zap (pg_name (i:=1) zd2.nd rfl (Or.inl rfl) (Or.inl rfl)) (zap (pg_name (i:=2) zd2.nd rfl (Or.inl rfl) (Or.inl rfl)) (zap (pg_name (i:=3) zd2.nd rfl (Or.inl rfl) (Or.inl rfl)) (zap (pg_name (i:=4) zd2.nd rfl (Or.inl rfl) (Or.inl rfl)) (zap (pg_name (i:=5) zd2.nd rfl (Or.inl rfl) (Or.inl rfl)) zbL)))))))
 (zac (zao (i:=6) zd2.nd rfl (Or.inl rfl) (pe_fn G_book_of (hr.mono (by decide)) rfl passE (pa_cons (pe_callB (zaq (K:=K) rfl) rfl T.len PySem.boot_len (pa_cons (pv 1) pa_nil)) (pa_cons (pe_comp rfl (.of (osc:=(defScope zeE)) (N:=["_law_script","_law_rows","_law_duals","_law_bottoms_here","_law_swaps","_law_trips","_law_book","_law_cell_here"]) (own:=["_law_swap"]) (fvn:=[]) (fv:=[]) rfl rfl (by decide +kernel)) (pi_list_K (K:=K) rfl (pv 4)) (λ_ _ _ _ _=>⟨(pg_name (i:=0) (show (["_law_swap"]:List Str).Nodup by decide +kernel) rfl (Or.inl rfl) (Or.inr rfl)),pts_nil,(zb3 (zbO (K:=K) rfl) rfl T.list PyProof.Rows.boot_list (pa_cons (pv 0) pa_nil))⟩)) pa_nil))))
 (zac (zc2 PassesOwn.never rfl (pi_list_K (K:=K) rfl (zam zcK (zcm (zbD (K:=K) rfl) (pv 0) (zcv zae) (zcv zae)) (zbH (pa_cons zae (pa_cons zae pa_nil))))) (pg_name (i:=7) zd2.nd rfl (Or.inl rfl) (Or.inl rfl))
 (zac (zbx (zgj (zgr (pe_fn G_law_good (hr.mono (by decide)) rfl passE (pa_cons (pv 6) (pa_cons (pe_fn G_law_scale (hr.mono (by decide)) rfl passE (pa_cons (pv 2) (pa_cons (pv 3) (pa_cons (pv 7) pa_nil)))) (pa_cons (pv 4) pa_nil))))))
 (zac (zaE zik)
 zad)
 zad)
 zad))
 (zac (zaE (pe_cmpR (op_eq_K (K:=K) rfl hu) (zbw (K:=K) rfl (pv 6) rfl) (pv 4) (nomark _)))
 zad)))),.inl ?_⟩
 show L2.Run _ ([.va false (dQ K (List.map dI P0)),.no,.no,.no,.no,.no,.no,.no]:L2.Ctx) _ ((λ(r:Bool)=>Oc.rt true (dB r)) (m_law P0))
 unfold m_law
 exact (zfG (m:=true) (x:=(m_law_made P0)) (λ(p202:(T5 (List (List Int)) (List (List Int)) (List Int) (List (List Int)) (List (List Int))))=>dL (List.map lI p202.a)) (λ(p202:(T5 (List (List Int)) (List (List Int)) (List Int) (List (List Int)) (List (List Int))))=>dL (List.map lI p202.b)) (λ(p202:(T5 (List (List Int)) (List (List Int)) (List Int) (List (List Int)) (List (List Int))))=>dL (List.map dI p202.c)) (λ(p202:(T5 (List (List Int)) (List (List Int)) (List Int) (List (List Int)) (List (List Int))))=>dL (List.map lI p202.d)) (λ(p202:(T5 (List (List Int)) (List (List Int)) (List Int) (List (List Int)) (List (List Int))))=>dL (List.map lI p202.e)) (λ(r:Bool)=>Oc.rt true (dB r)) (zaA (x:=P0) (zab (zaa (i:=0) rfl) zaf) rfl (by show zcH P0;exact hp) rfl) (λp202 hp202 =>
 have hM:=zk1 hp hp202;(zan (m:=true) (x:=(m_book_of ((p202.a.length:Nat):Int) (List.map (λ(x203:(List Int))=>x203) p202.d))) (zcd A.Book) (λ(r:Bool)=>Oc.rt true (dB r)) (zaA (x:=(((p202.a.length:Nat):Int),(List.map (λ(x203:(List Int))=>x203) p202.d))) (zab (zbj (f:=lI) (xs:=p202.a) (Ev.old (Ev.weak (K:=K) (zaa (i:=1) rfl)))) (zab (Ev.weak (K:=K) (EvO.ev (EvO.conv (zcg (g:=(λ(x203:(List Int))=>dL (List.map dI x203))) (zcB (m:=true) lI (xs:=p202.d) (Ev.weak (K:=K) (zaa (i:=4) rfl))) (by exact zkN hM) ⟨by decide,by decide⟩ (λi204 x203 hx205=>have v205:=List.mem_of_getElem? hx205;(EvO.ev (EvO.anyI (m:=true) (zdW (Ev.weak (K:=K) (zaa (i:=0) rfl))))))) (by first | (rw [List.map_map];rfl) | (simp only [cond_true,cond_false];rw [List.map_map];rfl))))) zaf)) rfl (by show zcw ((p202.a.length:Nat):Int) (List.map (λ(x203:(List Int))=>x203) p202.d);exact zkD hM) rfl) (λv206 hv206 =>
 have hB:=zkj hM hv206;(zee (s0:=()) (λ(s207:Unit)=>([.va false (dQ K (List.map dI P0)),.va true (dL (List.map lI p202.a)),.va true (dL (List.map lI p202.b)),.va true (dL (List.map dI p202.c)),.va true (dL (List.map lI p202.d)),.va true (dL (List.map lI p202.e)),.va true (zcd A.Book v206),.no]:L2.Ctx)) (λ(r:Bool)=>Oc.rt true (dB r)) (λb=>b) (λ(s207:Unit) (x208:Int)=>(((bif (!(m_law_good v206 (m_law_scale p202.b p202.c x208) p202.d)) then (Sum.inr false)
 else (Sum.inl ()))):(Unit) ⊕ Bool)) (λ_ _=>True) (λb=>.inl ⟨_,_,rfl⟩) (zcB (m:=true) dI (xs:=((cutD P0 (some (2:Int)) (some (62:Int)))++[(0:Int),(2:Int)])) (Ev.weak (K:=K) (EvO.ev (zbV (f:=dI) (xs:=(cutD P0 (some (2:Int)) (some (62:Int)))) (ys:=[(0:Int),(2:Int)]) (EvO.ev (EvO.anyI (m:=false) (zcS (f:=dI) (xs:=P0) (zaa (i:=0) rfl) (zbB zaw) (zbB zaw)))) (EvO.ev (zch (zab zaw (zab zaw zaf)) (by show 2≤sizeLine;decide))) (by exact zjk hp))))) (.eq (.eq (.eq (.eq (.eq (.eq (.eq (.eq .nil)))))))) trivial (λi209 x208 s207 hx210 hI211=>have v210:=List.mem_of_getElem? hx210;⟨(λ_ _=>trivial),
 (zaL (b:=(!(m_law_good v206 (m_law_scale p202.b p202.c x208) p202.d))) (zdR (λ(s207:Unit)=>([.va false (dQ K (List.map dI P0)),.va true (dL (List.map lI p202.a)),.va true (dL (List.map lI p202.b)),.va true (dL (List.map dI p202.c)),.va true (dL (List.map lI p202.d)),.va true (dL (List.map lI p202.e)),.va true (zcd A.Book v206),.no]:L2.Ctx)) (λ(r:Bool)=>Oc.rt true (dB r))) (ze1 (zeV (Ev.any (m:=true) (zaA (x:=(v206,(m_law_scale p202.b p202.c x208),p202.d)) (zab (Ev.old (zaa (i:=6) rfl)) (zab (Ev.old (zaA (x:=(p202.b,p202.c,x208)) (zab (Ev.old (Ev.weak (K:=K) (zaa (i:=2) rfl))) (zab (Ev.old (Ev.weak (K:=K) (zaa (i:=3) rfl))) (zab (Ev.any (m:=true) (zaa (i:=7) rfl)) zaf))) rfl (by show zcp p202.b p202.c x208;exact zi7 hM) rfl)) (zab (Ev.old (Ev.weak (K:=K) (zaa (i:=4) rfl))) zaf))) rfl (by show zcF v206 (m_law_scale p202.b p202.c x208) p202.d;exact zi3 hM hB rfl) rfl)))) (λh212=>(zai (zag (zax zaw)))) (λh212 =>
 (zaj (zah (.eq (.eq (.eq (.eq (.eq (.eq (.eq (.no .nil))))))))))))⟩) (λr213 hr213 hI =>
 (zag (zax (zfH (n:=1) (neg:=false) (xs:=v206.swaps) (ys:=p202.d) (EqD.list EqD.int) (Ev.old (Ev.weak (K:=K) (zdQ (zaa (i:=6) rfl) T.Book_cl T.Book_swaps rfl))) (Ev.old (Ev.weak (K:=K) (zaa (i:=4) rfl))))))))))))
theorem ziD (xs:List Int) (hp:xs.length≤63):m_law xs=true:=by
 unfold m_law
 rw [zfr,zfr]
 have hM:=zk1 hp rfl
 generalize m_law_made xs=y at *
 have hB:=zkj hM rfl
 generalize m_book_of ((y.a.length:Nat):Int) (List.map (λ(x:List Int)=>x) y.d)=b at *
 refine (zfs λc _=>?_).trans ?_
 ·rw [zkE (zi3 (c:=c) hM hB rfl)];rfl
 ·rw [hB];simp
def zii (K:W.Frag):Sp:=λvs H Q _=>∃ (a:Addr) (ns:List Int),vs=[.ref a]∧SqL K H a (ns.map V.int)∧ns.length≤63∧∀ H',Q (.bl true) H'
theorem zkO {K:W.Frag} {A:Adr} {vs:List V} {H:Hp} {Q:VK} {E:XK} (h:zii K vs H Q E):ziZ K A vs H Q E:=by
 obtain ⟨a,ns,rfl,hS,hl,q⟩:=h
 refine ⟨ns,H,Same.refl _,.cons ⟨a,_,rfl,hS,?_⟩ .nil,hl,λv F' H' _ hv=>?_⟩
 ·clear hS hl
  induction ns with
  | nil=>exact .nil
  | cons n ns ih=>exact .cons rfl ih
 ·have hv:v=.bl (m_law ns):=hv
  rw [hv,ziD ns hl]
  exact q _
theorem all_mk {l:W.OpenLaw} {w:World} {K:W.Frag} {h:Heap} {mg:Str->Option Value} {fa f0 f1 f2 f3 f4 f5 f6 f7 f8 f9 f10 f11 f12 f13 f14 f15 f16 f17 f18 f19 f20 f21 f22 f23 f24 f25 C_Book C_Scale C_Line C_Rest K_BadBasket K_BadBaskets K_BadNames K_BadRest K_BadRoad K_BadScale K_BadSwap K_BadWares K_Endless K_NoBook K_NoLine K_NoName K_NoSwap K_NotAlike K_NotKept K_OtherBook K_OtherWares K_SwapError K_TooGreat K_TooMany:Addr} (X:K.In h) (G:h.Ns mainGlobals mg) (hfa:mg "law"=some (.ref fa))
  {od0 an0 od1 an1 od2 an2 od3 an3 od4 an4 od5 an5 od6 an6 od7 an7 od8 an8 od9 an9 od10 an10 od11 an11 od12 an12 od13 an13 od14 an14 od15 an15 od16 an16 od17 an17 od18 an18 od19 an19 od20 an20 od21 an21 od22 an22 od23 an23 od24 an24 od25 an25:Option Addr} {sl0 sl1 sl2 sl3 sl4 sl5 sl6 sl7 sl8 sl9 sl10 sl11 sl12 sl13 sl14 sl15 sl16 sl17 sl18 sl19 sl20 sl21 sl22 sl23 sl24 sl25:Array (Option Value)} {oc0 kV0 dc0 pm0 cd0 ct0 oc1 kV1 dc1 pm1 cd1 ct1 oc2 kV2 dc2 pm2 cd2 ct2 oc3 kV3 dc3 pm3 cd3 ct3 oc4 kV4 dc4 pm4 cd4 ct4 oc5 kV5 dc5 pm5 cd5 ct5 oc6 kV6 dc6 pm6 cd6 ct6 oc7 kV7 dc7 pm7 cd7 ct7 oc8 kV8 dc8 pm8 cd8 ct8 oc9 kV9 dc9 pm9 cd9 ct9 oc10 kV10 dc10 pm10 cd10 ct10 oc11 kV11 dc11 pm11 cd11 ct11 oc12 kV12 dc12 pm12 cd12 ct12 oc13 kV13 dc13 pm13 cd13 ct13 oc14 kV14 dc14 pm14 cd14 ct14 oc15 kV15 dc15 pm15 cd15 ct15 oc16 kV16 dc16 pm16 cd16 ct16 oc17 kV17 dc17 pm17 cd17 ct17 oc18 kV18 dc18 pm18 cd18 ct18 oc19 kV19 dc19 pm19 cd19 ct19 oc20 kV20 dc20 pm20 cd20 ct20 oc21 kV21 dc21 pm21 cd21 ct21 oc22 kV22 dc22 pm22 cd22 ct22 oc23 kV23 dc23 pm23 cd23 ct23 oc24 kV24 dc24 pm24 cd24 ct24 oc25 kV25 dc25 pm25 cd25 ct25:Value} {t_MOST_WARES t_MOST_SWAPS:Tok}
  (aC_Book:W.nsIn K mainGlobals "Book"=some (some (.ref C_Book)))
  (aC_Scale:W.nsIn K mainGlobals "Scale"=some (some (.ref C_Scale)))
  (aC_Line:W.nsIn K mainGlobals "Line"=some (some (.ref C_Line)))
  (aC_Rest:W.nsIn K mainGlobals "Rest"=some (some (.ref C_Rest)))
  (a0:W.nsIn K mainGlobals "refuse_unlike"=some (some (.ref f0)))
  (l0:K.lookup f0=some ⟨oc0,od0,.func (W.fnOf "refuse_unlike" "refuse_unlike" (zay zaX) (zas zaX) (defScope zaX) .none kV0 dc0 pm0 an0 cd0 ct0),sl0⟩)
  (c0:W.codeIn K cd0 "refuse_unlike"=true)
  (k0:W.keepIn K (.ref f0)=true)
  (a1:W.nsIn K mainGlobals "weighed"=some (some (.ref f1)))
  (l1:K.lookup f1=some ⟨oc1,od1,.func (W.fnOf "weighed" "weighed" (zay zcC) (zas zcC) (defScope zcC) .none kV1 dc1 pm1 an1 cd1 ct1),sl1⟩)
  (c1:W.codeIn K cd1 "weighed"=true)
  (k1:W.keepIn K (.ref f1)=true)
  (a2:W.nsIn K mainGlobals "book_of"=some (some (.ref f2)))
  (l2:K.lookup f2=some ⟨oc2,od2,.func (W.fnOf "book_of" "book_of" (zay zcP) (zas zcP) (defScope zcP) .none kV2 dc2 pm2 an2 cd2 ct2),sl2⟩)
  (c2:W.codeIn K cd2 "book_of"=true)
  (k2:W.keepIn K (.ref f2)=true)
  (a3:W.nsIn K mainGlobals "drawn"=some (some (.ref f3)))
  (l3:K.lookup f3=some ⟨oc3,od3,.func (W.fnOf "drawn" "drawn" (zay zd0) (zas zd0) (defScope zd0) .none kV3 dc3 pm3 an3 cd3 ct3),sl3⟩)
  (c3:W.codeIn K cd3 "drawn"=true)
  (k3:W.keepIn K (.ref f3)=true)
  (a4:W.nsIn K mainGlobals "fair"=some (some (.ref f4)))
  (l4:K.lookup f4=some ⟨oc4,od4,.func (W.fnOf "fair" "fair" (zay zeO) (zas zeO) (defScope zeO) .none kV4 dc4 pm4 an4 cd4 ct4),sl4⟩)
  (c4:W.codeIn K cd4 "fair"=true)
  (k4:W.keepIn K (.ref f4)=true)
  (a5:W.nsIn K mainGlobals "_law_whole"=some (some (.ref f5)))
  (l5:K.lookup f5=some ⟨oc5,od5,.func (W.fnOf "_law_whole" "_law_whole" (zay zbI) (zas zbI) (defScope zbI) .none kV5 dc5 pm5 an5 cd5 ct5),sl5⟩)
  (c5:W.codeIn K cd5 "_law_whole"=true)
  (k5:W.keepIn K (.ref f5)=true)
  (a6:W.nsIn K mainGlobals "_law_flags"=some (some (.ref f6)))
  (l6:K.lookup f6=some ⟨oc6,od6,.func (W.fnOf "_law_flags" "_law_flags" (zay zbM) (zas zbM) (defScope zbM) .none kV6 dc6 pm6 an6 cd6 ct6),sl6⟩)
  (c6:W.codeIn K cd6 "_law_flags"=true)
  (k6:W.keepIn K (.ref f6)=true)
  (a7:W.nsIn K mainGlobals "_law_only"=some (some (.ref f7)))
  (l7:K.lookup f7=some ⟨oc7,od7,.func (W.fnOf "_law_only" "_law_only" (zay s_law_only) (zas s_law_only) (defScope s_law_only) .none kV7 dc7 pm7 an7 cd7 ct7),sl7⟩)
  (c7:W.codeIn K cd7 "_law_only"=true)
  (k7:W.keepIn K (.ref f7)=true)
  (a8:W.nsIn K mainGlobals "_law_cell"=some (some (.ref f8)))
  (l8:K.lookup f8=some ⟨oc8,od8,.func (W.fnOf "_law_cell" "_law_cell" (zay zcr) (zas zcr) (defScope zcr) .none kV8 dc8 pm8 an8 cd8 ct8),sl8⟩)
  (c8:W.codeIn K cd8 "_law_cell"=true)
  (k8:W.keepIn K (.ref f8)=true)
  (a9:W.nsIn K mainGlobals "_law_raw"=some (some (.ref f9)))
  (l9:K.lookup f9=some ⟨oc9,od9,.func (W.fnOf "_law_raw" "_law_raw" (zay zcL) (zas zcL) (defScope zcL) .none kV9 dc9 pm9 an9 cd9 ct9),sl9⟩)
  (c9:W.codeIn K cd9 "_law_raw"=true)
  (k9:W.keepIn K (.ref f9)=true)
  (a10:W.nsIn K mainGlobals "_law_thing"=some (some (.ref f10)))
  (l10:K.lookup f10=some ⟨oc10,od10,.func (W.fnOf "_law_thing" "_law_thing" (zay zbQ) (zas zbQ) (defScope zbQ) .none kV10 dc10 pm10 an10 cd10 ct10),sl10⟩)
  (c10:W.codeIn K cd10 "_law_thing"=true)
  (k10:W.keepIn K (.ref f10)=true)
  (a11:W.nsIn K mainGlobals "_law_frame"=some (some (.ref f11)))
  (l11:K.lookup f11=some ⟨oc11,od11,.func (W.fnOf "_law_frame" "_law_frame" (zay zaS) (zas zaS) (defScope zaS) .none kV11 dc11 pm11 an11 cd11 ct11),sl11⟩)
  (c11:W.codeIn K cd11 "_law_frame"=true)
  (k11:W.keepIn K (.ref f11)=true)
  (a12:W.nsIn K mainGlobals "_law_bottoms"=some (some (.ref f12)))
  (l12:K.lookup f12=some ⟨oc12,od12,.func (W.fnOf "_law_bottoms" "_law_bottoms" (zay zbd) (zas zbd) (defScope zbd) .none kV12 dc12 pm12 an12 cd12 ct12),sl12⟩)
  (c12:W.codeIn K cd12 "_law_bottoms"=true)
  (k12:W.keepIn K (.ref f12)=true)
  (a13:W.nsIn K mainGlobals "_law_stirred"=some (some (.ref f13)))
  (l13:K.lookup f13=some ⟨oc13,od13,.func (W.fnOf "_law_stirred" "_law_stirred" (zay zaB) (zas zaB) (defScope zaB) .none kV13 dc13 pm13 an13 cd13 ct13),sl13⟩)
  (c13:W.codeIn K cd13 "_law_stirred"=true)
  (k13:W.keepIn K (.ref f13)=true)
  (a14:W.nsIn K mainGlobals "_law_made"=some (some (.ref f14)))
  (l14:K.lookup f14=some ⟨oc14,od14,.func (W.fnOf "_law_made" "_law_made" (zay zbU) (zas zbU) (defScope zbU) .none kV14 dc14 pm14 an14 cd14 ct14),sl14⟩)
  (c14:W.codeIn K cd14 "_law_made"=true)
  (k14:W.keepIn K (.ref f14)=true)
  (a15:W.nsIn K mainGlobals "_law_scale"=some (some (.ref f15)))
  (l15:K.lookup f15=some ⟨oc15,od15,.func (W.fnOf "_law_scale" "_law_scale" (zay zbP) (zas zbP) (defScope zbP) .none kV15 dc15 pm15 an15 cd15 ct15),sl15⟩)
  (c15:W.codeIn K cd15 "_law_scale"=true)
  (k15:W.keepIn K (.ref f15)=true)
  (a16:W.nsIn K mainGlobals "_law_due"=some (some (.ref f16)))
  (l16:K.lookup f16=some ⟨oc16,od16,.func (W.fnOf "_law_due" "_law_due" (zay zcM) (zas zcM) (defScope zcM) .none kV16 dc16 pm16 an16 cd16 ct16),sl16⟩)
  (c16:W.codeIn K cd16 "_law_due"=true)
  (k16:W.keepIn K (.ref f16)=true)
  (a17:W.nsIn K mainGlobals "_law_asked"=some (some (.ref f17)))
  (l17:K.lookup f17=some ⟨oc17,od17,.func (W.fnOf "_law_asked" "_law_asked" (zay zbS) (zas zbS) (defScope zbS) .none kV17 dc17 pm17 an17 cd17 ct17),sl17⟩)
  (c17:W.codeIn K cd17 "_law_asked"=true)
  (k17:W.keepIn K (.ref f17)=true)
  (a18:W.nsIn K mainGlobals "_law_good"=some (some (.ref f18)))
  (l18:K.lookup f18=some ⟨oc18,od18,.func (W.fnOf "_law_good" "_law_good" (zay zbR) (zas zbR) (defScope zbR) .none kV18 dc18 pm18 an18 cd18 ct18),sl18⟩)
  (c18:W.codeIn K cd18 "_law_good"=true)
  (k18:W.keepIn K (.ref f18)=true)
  (a19:W.nsIn K mainGlobals "law"=some (some (.ref f19)))
  (l19:K.lookup f19=some ⟨oc19,od19,.func (W.fnOf "law" "law" (zay zeE) (zas zeE) (defScope zeE) .none kV19 dc19 pm19 an19 cd19 ct19),sl19⟩)
  (c19:W.codeIn K cd19 "law"=true)
  (k19:W.keepIn K (.ref f19)=true)
  (a20_Line:W.findIn K (.ref C_Line) "weigh"=some (some (.ref f20)))
  (i20:W.isFn K (.ref f20)=true)
  (l20:K.lookup f20=some ⟨oc20,od20,.func (W.fnOf "weigh" "Scale.weigh" (zay zck) (zas zck) (defScope zck) .none kV20 dc20 pm20 an20 cd20 ct20),sl20⟩)
  (c20:W.codeIn K cd20 "Scale.weigh"=true)
  (k20:W.keepIn K (.ref f20)=true)
  (a21_Rest:W.findIn K (.ref C_Rest) "weigh"=some (some (.ref f21)))
  (i21:W.isFn K (.ref f21)=true)
  (l21:K.lookup f21=some ⟨oc21,od21,.func (W.fnOf "weigh" "Rest.weigh" (zay zbv) (zas zbv) (defScope zbv) .none kV21 dc21 pm21 an21 cd21 ct21),sl21⟩)
  (c21:W.codeIn K cd21 "Rest.weigh"=true)
  (k21:W.keepIn K (.ref f21)=true)
  (a22_Line:W.findIn K (.ref C_Line) "levels"=some (some (.ref f22)))
  (a22_Rest:W.findIn K (.ref C_Rest) "levels"=some (some (.ref f22)))
  (i22:W.isFn K (.ref f22)=true)
  (l22:K.lookup f22=some ⟨oc22,od22,.func (W.fnOf "levels" "Scale.levels" (zay zb1) (zas zb1) (defScope zb1) .none kV22 dc22 pm22 an22 cd22 ct22),sl22⟩)
  (c22:W.codeIn K cd22 "Scale.levels"=true)
  (k22:W.keepIn K (.ref f22)=true)
  (a23:W.findIn K (.ref C_Book) "__init__"=some (some (.ref f23)))
  (i23:W.isFn K (.ref f23)=true)
  (l23:K.lookup f23=some ⟨oc23,od23,.func (W.fnOf "__init__" "Book.__init__" (zay zaN) (zas zaN) (defScope zaN) .none kV23 dc23 pm23 an23 cd23 ct23),sl23⟩)
  (c23:W.codeIn K cd23 "Book.__init__"=true)
  (k23:W.keepIn K (.ref f23)=true)
  (a24:W.findIn K (.ref C_Scale) "__init__"=some (some (.ref f24)))
  (i24:W.isFn K (.ref f24)=true)
  (a24_Line:W.findIn K (.ref C_Line) "__init__"=some (some (.ref f24)))
  (bg24:W.specialIn K (.ref C_Scale) "__getattribute__"=some (some (.builtin "type.__getattribute__")))
  (br24:W.readsIn K C_Scale (.type "type")=true)
  (bf24:W.findCls K (.ref C_Scale) (.type "type") "__init__"=some (.val (.ref f24)))
  (l24:K.lookup f24=some ⟨oc24,od24,.func (W.fnOf "__init__" "Scale.__init__" (zay zbn) (zas zbn) (defScope zbn) .none kV24 dc24 pm24 an24 cd24 ct24),sl24⟩)
  (c24:W.codeIn K cd24 "Scale.__init__"=true)
  (k24:W.keepIn K (.ref f24)=true)
  (a25:W.findIn K (.ref C_Rest) "__init__"=some (some (.ref f25)))
  (i25:W.isFn K (.ref f25)=true)
  (l25:K.lookup f25=some ⟨oc25,od25,.func (W.fnOf "__init__" "Rest.__init__" (zay zaM) (zas zaM) (defScope zaM) .none kV25 dc25 pm25 an25 cd25 ct25),sl25⟩)
  (c25:W.codeIn K cd25 "Rest.__init__"=true)
  (k25:W.keepIn K (.ref f25)=true)
  (pg_Book:W.plainGet K C_Book Str.empty=true)
  (hd_Book:W.hasDictIn K C_Book=true)
  (po_Book:W.plainOver K C_Book=true)
  (sa_Book:W.findIn K (.ref C_Book) "__setattr__"=some (some (.builtin "object.__setattr__")))
  (mk_Book:W.makesIn K C_Book=true)
  (kc_Book:W.keepIn K (.ref C_Book)=true)
  (n_Book_many:W.findIn K (.ref C_Book) "many"=some none)
  (n_Book_swaps:W.findIn K (.ref C_Book) "swaps"=some none)
  (pg_Scale:W.plainGet K C_Scale Str.empty=true)
  (hd_Scale:W.hasDictIn K C_Scale=true)
  (po_Scale:W.plainOver K C_Scale=true)
  (sa_Scale:W.findIn K (.ref C_Scale) "__setattr__"=some (some (.builtin "object.__setattr__")))
  (mk_Scale:W.makesIn K C_Scale=true)
  (kc_Scale:W.keepIn K (.ref C_Scale)=true)
  (n_Scale_weights:W.findIn K (.ref C_Scale) "weights"=some none)
  (pg_Line:W.plainGet K C_Line Str.empty=true)
  (hd_Line:W.hasDictIn K C_Line=true)
  (po_Line:W.plainOver K C_Line=true)
  (sa_Line:W.findIn K (.ref C_Line) "__setattr__"=some (some (.builtin "object.__setattr__")))
  (mk_Line:W.makesIn K C_Line=true)
  (kc_Line:W.keepIn K (.ref C_Line)=true)
  (n_Line_weights:W.findIn K (.ref C_Line) "weights"=some none)
  (pg_Rest:W.plainGet K C_Rest Str.empty=true)
  (hd_Rest:W.hasDictIn K C_Rest=true)
  (po_Rest:W.plainOver K C_Rest=true)
  (sa_Rest:W.findIn K (.ref C_Rest) "__setattr__"=some (some (.builtin "object.__setattr__")))
  (mk_Rest:W.makesIn K C_Rest=true)
  (kc_Rest:W.keepIn K (.ref C_Rest)=true)
  (n_Rest_weights:W.findIn K (.ref C_Rest) "weights"=some none)
  (n_Rest_rest:W.findIn K (.ref C_Rest) "rest"=some none)
  (z_ValueError:W.nsIn K mainGlobals "ValueError"=some none)
  (z_bool:W.nsIn K mainGlobals "bool"=some none)
  (z_enumerate:W.nsIn K mainGlobals "enumerate"=some none)
  (z_int:W.nsIn K mainGlobals "int"=some none)
  (z_isinstance:W.nsIn K mainGlobals "isinstance"=some none)
  (z_len:W.nsIn K mainGlobals "len"=some none)
  (z_list:W.nsIn K mainGlobals "list"=some none)
  (z_max:W.nsIn K mainGlobals "max"=some none)
  (z_range:W.nsIn K mainGlobals "range"=some none)
  (z_sum:W.nsIn K mainGlobals "sum"=some none)
  (z_zip:W.nsIn K mainGlobals "zip"=some none)
  (g_MOST_WARES:W.nsIn K mainGlobals "MOST_WARES"=some (some (.int 8 t_MOST_WARES)))
  (g_MOST_SWAPS:W.nsIn K mainGlobals "MOST_SWAPS"=some (some (.int 12 t_MOST_SWAPS)))
  (aK_BadBasket:W.nsIn K mainGlobals "BadBasket"=some (some (.ref K_BadBasket)))
  (aK_BadBaskets:W.nsIn K mainGlobals "BadBaskets"=some (some (.ref K_BadBaskets)))
  (aK_BadNames:W.nsIn K mainGlobals "BadNames"=some (some (.ref K_BadNames)))
  (aK_BadRest:W.nsIn K mainGlobals "BadRest"=some (some (.ref K_BadRest)))
  (aK_BadRoad:W.nsIn K mainGlobals "BadRoad"=some (some (.ref K_BadRoad)))
  (aK_BadScale:W.nsIn K mainGlobals "BadScale"=some (some (.ref K_BadScale)))
  (aK_BadSwap:W.nsIn K mainGlobals "BadSwap"=some (some (.ref K_BadSwap)))
  (aK_BadWares:W.nsIn K mainGlobals "BadWares"=some (some (.ref K_BadWares)))
  (aK_Endless:W.nsIn K mainGlobals "Endless"=some (some (.ref K_Endless)))
  (aK_NoBook:W.nsIn K mainGlobals "NoBook"=some (some (.ref K_NoBook)))
  (aK_NoLine:W.nsIn K mainGlobals "NoLine"=some (some (.ref K_NoLine)))
  (aK_NoName:W.nsIn K mainGlobals "NoName"=some (some (.ref K_NoName)))
  (aK_NoSwap:W.nsIn K mainGlobals "NoSwap"=some (some (.ref K_NoSwap)))
  (aK_NotAlike:W.nsIn K mainGlobals "NotAlike"=some (some (.ref K_NotAlike)))
  (aK_NotKept:W.nsIn K mainGlobals "NotKept"=some (some (.ref K_NotKept)))
  (aK_OtherBook:W.nsIn K mainGlobals "OtherBook"=some (some (.ref K_OtherBook)))
  (aK_OtherWares:W.nsIn K mainGlobals "OtherWares"=some (some (.ref K_OtherWares)))
  (aK_SwapError:W.nsIn K mainGlobals "SwapError"=some (some (.ref K_SwapError)))
  (aK_TooGreat:W.nsIn K mainGlobals "TooGreat"=some (some (.ref K_TooGreat)))
  (aK_TooMany:W.nsIn K mainGlobals "TooMany"=some (some (.ref K_TooMany)))
  (x_gt:W.specialIn K (.builtin "object.__class__") "__get__"=some (some (.builtin "getset_descriptor.__get__")))
  (x_tk:W.takesIn K (.builtin "object.__class__")=some true)
  (xi_BadScale:W.excIn K K_BadScale [.type "ValueError",.type "Exception",.type "BaseException",.type "object"] "ValueError.__new__"=true)
  (xga_BadScale:W.findIn K (.ref K_BadScale) "__getattribute__"=some (some (.builtin "BaseException.__getattribute__")))
  (xgn_BadScale:W.findIn K (.ref K_BadScale) "__getattr__"=some none)
  (xc_BadScale:W.findIn K (.ref K_BadScale) "__class__"=some (some (.builtin "object.__class__")))
  (xo_BadScale:W.mroIn K K_BadScale (.type "object")=some true)
  (xb_BadScale:W.mroIn K K_BadScale (.type "BaseException")=some true)
  (es_BadScale:W.subIn K (.ref K_BadScale) (.ref K_SwapError)=some true)
  (eb:W.subIn K (.ref K_SwapError) (.type "BaseException")=some true)
  (eo:W.mroIn K K_SwapError (.type "object")=some true)
  (et:W.typeIn K (.ref K_SwapError)=some (.type "type"))
  (i0_BadBasket:W.kitOne K (.type "NoneType") (.ref K_BadBasket)=some false)
  (i_BadScale_BadBasket:W.kitOne K (.ref K_BadScale) (.ref K_BadBasket)=some false)
  (i0_BadBaskets:W.kitOne K (.type "NoneType") (.ref K_BadBaskets)=some false)
  (i_BadScale_BadBaskets:W.kitOne K (.ref K_BadScale) (.ref K_BadBaskets)=some false)
  (i0_BadNames:W.kitOne K (.type "NoneType") (.ref K_BadNames)=some false)
  (i_BadScale_BadNames:W.kitOne K (.ref K_BadScale) (.ref K_BadNames)=some false)
  (i0_BadRest:W.kitOne K (.type "NoneType") (.ref K_BadRest)=some false)
  (i_BadScale_BadRest:W.kitOne K (.ref K_BadScale) (.ref K_BadRest)=some false)
  (i0_BadRoad:W.kitOne K (.type "NoneType") (.ref K_BadRoad)=some false)
  (i_BadScale_BadRoad:W.kitOne K (.ref K_BadScale) (.ref K_BadRoad)=some false)
  (i0_BadScale:W.kitOne K (.type "NoneType") (.ref K_BadScale)=some false)
  (i_BadScale_BadScale:W.kitOne K (.ref K_BadScale) (.ref K_BadScale)=some true)
  (i0_BadSwap:W.kitOne K (.type "NoneType") (.ref K_BadSwap)=some false)
  (i_BadScale_BadSwap:W.kitOne K (.ref K_BadScale) (.ref K_BadSwap)=some false)
  (i0_BadWares:W.kitOne K (.type "NoneType") (.ref K_BadWares)=some false)
  (i_BadScale_BadWares:W.kitOne K (.ref K_BadScale) (.ref K_BadWares)=some false)
  (i0_Endless:W.kitOne K (.type "NoneType") (.ref K_Endless)=some false)
  (i_BadScale_Endless:W.kitOne K (.ref K_BadScale) (.ref K_Endless)=some false)
  (i0_NoBook:W.kitOne K (.type "NoneType") (.ref K_NoBook)=some false)
  (i_BadScale_NoBook:W.kitOne K (.ref K_BadScale) (.ref K_NoBook)=some false)
  (i0_NoLine:W.kitOne K (.type "NoneType") (.ref K_NoLine)=some false)
  (i_BadScale_NoLine:W.kitOne K (.ref K_BadScale) (.ref K_NoLine)=some false)
  (i0_NoName:W.kitOne K (.type "NoneType") (.ref K_NoName)=some false)
  (i_BadScale_NoName:W.kitOne K (.ref K_BadScale) (.ref K_NoName)=some false)
  (i0_NoSwap:W.kitOne K (.type "NoneType") (.ref K_NoSwap)=some false)
  (i_BadScale_NoSwap:W.kitOne K (.ref K_BadScale) (.ref K_NoSwap)=some false)
  (i0_NotAlike:W.kitOne K (.type "NoneType") (.ref K_NotAlike)=some false)
  (i_BadScale_NotAlike:W.kitOne K (.ref K_BadScale) (.ref K_NotAlike)=some false)
  (i0_NotKept:W.kitOne K (.type "NoneType") (.ref K_NotKept)=some false)
  (i_BadScale_NotKept:W.kitOne K (.ref K_BadScale) (.ref K_NotKept)=some false)
  (i0_OtherBook:W.kitOne K (.type "NoneType") (.ref K_OtherBook)=some false)
  (i_BadScale_OtherBook:W.kitOne K (.ref K_BadScale) (.ref K_OtherBook)=some false)
  (i0_OtherWares:W.kitOne K (.type "NoneType") (.ref K_OtherWares)=some false)
  (i_BadScale_OtherWares:W.kitOne K (.ref K_BadScale) (.ref K_OtherWares)=some false)
  (i0_TooGreat:W.kitOne K (.type "NoneType") (.ref K_TooGreat)=some false)
  (i_BadScale_TooGreat:W.kitOne K (.ref K_BadScale) (.ref K_TooGreat)=some false)
  (i0_TooMany:W.kitOne K (.type "NoneType") (.ref K_TooMany)=some false)
  (i_BadScale_TooMany:W.kitOne K (.ref K_BadScale) (.ref K_TooMany)=some false)
  (i0_ValueError:W.kitOne K (.type "NoneType") (.type "ValueError")=some false)
  (i_BadScale_ValueError:W.kitOne K (.ref K_BadScale) (.type "ValueError")=some true)
  (kit_int_bool:W.kitOne K (.type "int") (.type "bool")=some false)
  (kit_int_int:W.kitOne K (.type "int") (.type "int")=some true) :
  ∃ fd:FuncData,(∀ (s:Shared) (v:Value),BindsTo s fd ⟨[v],[]⟩ [("_law_script",v)])∧∀ base:Heap,K.In base->base.Ns mainGlobals mg->FnOk l.prog w K mg base (CXE l.prog w) 9 fa fd ["_law_script"] (zii K):=by
 have e:=hfa.symm.trans (W.mg_of X G a19)
 cases e
 have F_refuse_unlike:=zaY (st:=zaX) l0 c0 k0
 have b_refuse_unlike:=F_refuse_unlike.binds (ps:=["one","other"]) λ_ _ _ _ _ _ us hl=>match us,hl with | [_,_],_=>rfl
 have m_refuse_unlike:=W.mg_of X G a0
 have F_weighed:=zaY (st:=zcC) l1 c1 k1
 have b_weighed:=F_weighed.binds (ps:=["one","other"]) λ_ _ _ _ _ _ us hl=>match us,hl with | [_,_],_=>rfl
 have m_weighed:=W.mg_of X G a1
 have F_book_of:=zaY (st:=zcP) l2 c2 k2
 have b_book_of:=F_book_of.binds (ps:=["many","swaps"]) λ_ _ _ _ _ _ us hl=>match us,hl with | [_,_],_=>rfl
 have m_book_of:=W.mg_of X G a2
 have F_drawn:=zaY (st:=zd0) l3 c3 k3
 have b_drawn:=F_drawn.binds (ps:=["weights","basket"]) λ_ _ _ _ _ _ us hl=>match us,hl with | [_,_],_=>rfl
 have m_drawn:=W.mg_of X G a3
 have F_fair:=zaY (st:=zeO) l4 c4 k4
 have b_fair:=F_fair.binds (ps:=["book","scale"]) λ_ _ _ _ _ _ us hl=>match us,hl with | [_,_],_=>rfl
 have m_fair:=W.mg_of X G a4
 have F_law_whole:=zaY (st:=zbI) l5 c5 k5
 have b_law_whole:=F_law_whole.binds (ps:=["_law_found"]) λ_ _ _ _ _ _ us hl=>match us,hl with | [_],_=>rfl
 have m_law_whole:=W.mg_of X G a5
 have F_law_flags:=zaY (st:=zbM) l6 c6 k6
 have b_law_flags:=F_law_flags.binds (ps:=["_law_caught"]) λ_ _ _ _ _ _ us hl=>match us,hl with | [_],_=>rfl
 have m_law_flags:=W.mg_of X G a6
 have F_law_only:=zaY (st:=s_law_only) l7 c7 k7
 have b_law_only:=F_law_only.binds (ps:=["_law_caught","_law_name"]) λ_ _ _ _ _ _ us hl=>match us,hl with | [_,_],_=>rfl
 have m_law_only:=W.mg_of X G a7
 have F_law_cell:=zaY (st:=zcr) l8 c8 k8
 have b_law_cell:=F_law_cell.binds (ps:=["_law_script","_law_k"]) λ_ _ _ _ _ _ us hl=>match us,hl with | [_,_],_=>rfl
 have m_law_cell:=W.mg_of X G a8
 have F_law_raw:=zaY (st:=zcL) l9 c9 k9
 have b_law_raw:=F_law_raw.binds (ps:=["_law_script","_law_k"]) λ_ _ _ _ _ _ us hl=>match us,hl with | [_,_],_=>rfl
 have m_law_raw:=W.mg_of X G a9
 have F_law_thing:=zaY (st:=zbQ) l10 c10 k10
 have b_law_thing:=F_law_thing.binds (ps:=["_law_cell_here","_law_k","_law_many"]) λ_ _ _ _ _ _ us hl=>match us,hl with | [_,_,_],_=>rfl
 have m_law_thing:=W.mg_of X G a10
 have F_law_frame:=zaY (st:=zaS) l11 c11 k11
 have b_law_frame:=F_law_frame.binds (ps:=["_law_wide","_law_cells"]) λ_ _ _ _ _ _ us hl=>match us,hl with | [_,_],_=>rfl
 have m_law_frame:=W.mg_of X G a11
 have F_law_bottoms:=zaY (st:=zbd) l12 c12 k12
 have b_law_bottoms:=F_law_bottoms.binds (ps:=["_law_wide","_law_cell_here","_law_far"]) λ_ _ _ _ _ _ us hl=>match us,hl with | [_,_,_],_=>rfl
 have m_law_bottoms:=W.mg_of X G a12
 have F_law_stirred:=zaY (st:=zaB) l13 c13 k13
 have b_law_stirred:=F_law_stirred.binds (ps:=["_law_rows","_law_bottoms_here","_law_idle","_law_cells"]) λ_ _ _ _ _ _ us hl=>match us,hl with | [_,_,_,_],_=>rfl
 have m_law_stirred:=W.mg_of X G a13
 have F_law_made:=zaY (st:=zbU) l14 c14 k14
 have b_law_made:=F_law_made.binds (ps:=["_law_script"]) λ_ _ _ _ _ _ us hl=>match us,hl with | [_],_=>rfl
 have m_law_made:=W.mg_of X G a14
 have F_law_scale:=zaY (st:=zbP) l15 c15 k15
 have b_law_scale:=F_law_scale.binds (ps:=["_law_duals","_law_bottoms_here","_law_cell_here"]) λ_ _ _ _ _ _ us hl=>match us,hl with | [_,_,_],_=>rfl
 have m_law_scale:=W.mg_of X G a15
 have F_law_due:=zaY (st:=zcM) l16 c16 k16
 have b_law_due:=F_law_due.binds (ps:=["_law_swaps","_law_weights","_law_rest"]) λ_ _ _ _ _ _ us hl=>match us,hl with | [_,_,_],_=>rfl
 have m_law_due:=W.mg_of X G a16
 have F_law_asked:=zaY (st:=zbS) l17 c17 k17
 have b_law_asked:=F_law_asked.binds (ps:=["_law_book","_law_scale_here"]) λ_ _ _ _ _ _ us hl=>match us,hl with | [_,_],_=>rfl
 have m_law_asked:=W.mg_of X G a17
 have F_law_good:=zaY (st:=zbR) l18 c18 k18
 have b_law_good:=F_law_good.binds (ps:=["_law_book","_law_made_here","_law_swaps"]) λ_ _ _ _ _ _ us hl=>match us,hl with | [_,_,_],_=>rfl
 have m_law_good:=W.mg_of X G a18
 have F_law:=zaY (st:=zeE) l19 c19 k19
 have b_law:=F_law.binds (ps:=["_law_script"]) λ_ _ _ _ _ _ us hl=>match us,hl with | [_],_=>rfl
 have m_law:=W.mg_of X G a19
 have F_Scale_weigh:=zaY (st:=zck) l20 c20 k20
 have b_Scale_weigh:=F_Scale_weigh.binds (ps:=["self","basket"]) λ_ _ _ _ _ _ us hl=>match us,hl with | [_,_],_=>rfl
 have F_Rest_weigh:=zaY (st:=zbv) l21 c21 k21
 have b_Rest_weigh:=F_Rest_weigh.binds (ps:=["self","basket"]) λ_ _ _ _ _ _ us hl=>match us,hl with | [_,_],_=>rfl
 have F_Scale_levels:=zaY (st:=zb1) l22 c22 k22
 have b_Scale_levels:=F_Scale_levels.binds (ps:=["self","basket"]) λ_ _ _ _ _ _ us hl=>match us,hl with | [_,_],_=>rfl
 have F_Book___init__:=zaY (st:=zaN) l23 c23 k23
 have b_Book___init__:=F_Book___init__.binds (ps:=["self","many","swaps"]) λ_ _ _ _ _ _ us hl=>match us,hl with | [_,_,_],_=>rfl
 have F_Scale___init__:=zaY (st:=zbn) l24 c24 k24
 have b_Scale___init__:=F_Scale___init__.binds (ps:=["self","weights"]) λ_ _ _ _ _ _ us hl=>match us,hl with | [_,_],_=>rfl
 have F_Rest___init__:=zaY (st:=zaM) l25 c25 k25
 have b_Rest___init__:=F_Rest___init__.binds (ps:=["self","rest","weights"]) λ_ _ _ _ _ _ us hl=>match us,hl with | [_,_,_],_=>rfl
 have T:Txt K mg ⟨(),C_Book,C_Scale,C_Line,C_Rest,λe=>match e with | .BadScale=>K_BadScale,K_BadBasket,K_BadBaskets,K_BadNames,K_BadRest,K_BadRoad,K_BadScale,K_BadSwap,K_BadWares,K_Endless,K_NoBook,K_NoLine,K_NoName,K_NoSwap,K_NotAlike,K_NotKept,K_OtherBook,K_OtherWares,K_SwapError,K_TooGreat,K_TooMany⟩:=⟨W.mg_none_of X G z_ValueError,W.mg_none_of X G z_bool,W.mg_none_of X G z_enumerate,W.mg_none_of X G z_int,W.mg_none_of X G z_isinstance,W.mg_none_of X G z_len,W.mg_none_of X G z_list,W.mg_none_of X G z_max,W.mg_none_of X G z_range,W.mg_none_of X G z_sum,W.mg_none_of X G z_zip,W.mg_of X G aC_Book,⟨pg_Book,hd_Book,po_Book,sa_Book⟩,n_Book_many,n_Book_swaps,W.mg_of X G aC_Scale,⟨pg_Scale,hd_Scale,po_Scale,sa_Scale⟩,n_Scale_weights,W.mg_of X G aC_Line,⟨pg_Line,hd_Line,po_Line,sa_Line⟩,n_Line_weights,W.mg_of X G aC_Rest,⟨pg_Rest,hd_Rest,po_Rest,sa_Rest⟩,n_Rest_weights,n_Rest_rest,⟨t_MOST_WARES,W.mg_of X G g_MOST_WARES⟩,⟨t_MOST_SWAPS,W.mg_of X G g_MOST_SWAPS⟩,W.mg_of X G aK_BadBasket,W.mg_of X G aK_BadBaskets,W.mg_of X G aK_BadNames,W.mg_of X G aK_BadRest,W.mg_of X G aK_BadRoad,W.mg_of X G aK_BadScale,W.mg_of X G aK_BadSwap,W.mg_of X G aK_BadWares,W.mg_of X G aK_Endless,W.mg_of X G aK_NoBook,W.mg_of X G aK_NoLine,W.mg_of X G aK_NoName,W.mg_of X G aK_NoSwap,W.mg_of X G aK_NotAlike,W.mg_of X G aK_NotKept,W.mg_of X G aK_OtherBook,W.mg_of X G aK_OtherWares,W.mg_of X G aK_SwapError,W.mg_of X G aK_TooGreat,W.mg_of X G aK_TooMany,W.mg_of X G aK_BadScale,xi_BadScale,⟨xga_BadScale,xgn_BadScale,xc_BadScale,xo_BadScale,xb_BadScale,x_gt,x_tk⟩,exm_of eb eo et es_BadScale,i0_BadBasket,i_BadScale_BadBasket,i0_BadBaskets,i_BadScale_BadBaskets,i0_BadNames,i_BadScale_BadNames,i0_BadRest,i_BadScale_BadRest,i0_BadRoad,i_BadScale_BadRoad,i0_BadScale,i_BadScale_BadScale,i0_BadSwap,i_BadScale_BadSwap,i0_BadWares,i_BadScale_BadWares,i0_Endless,i_BadScale_Endless,i0_NoBook,i_BadScale_NoBook,i0_NoLine,i_BadScale_NoLine,i0_NoName,i_BadScale_NoName,i0_NoSwap,i_BadScale_NoSwap,i0_NotAlike,i_BadScale_NotAlike,i0_NotKept,i_BadScale_NotKept,i0_OtherBook,i_BadScale_OtherBook,i0_OtherWares,i_BadScale_OtherWares,i0_TooGreat,i_BadScale_TooGreat,i0_TooMany,i_BadScale_TooMany,i0_ValueError,i_BadScale_ValueError,kit_int_bool,kit_int_int⟩
 refine ⟨W.fnOf "law" "law" (zay zeE) (zas zeE) (defScope zeE) .none kV19 dc19 pm19 an19 cd19 ct19,λs v=>.of_eq rfl,λbase _ _=>?_⟩
 have M_Book:Mk K C_Book f23:=⟨mk_Book,a23,i23,kc_Book⟩
 have M_Line:Mk K C_Line f24:=⟨mk_Line,a24_Line,i24,kc_Line⟩
 have B_Scale___init___Rest:ByCls K C_Scale f24 "__init__":=⟨bg24,br24,bf24,k24⟩
 have M_Rest:Mk K C_Rest f25:=⟨mk_Rest,a25,i25,kc_Rest⟩
 have G_refuse_unlike:Callee l.prog w K mg base (CXE l.prog w) 1 "refuse_unlike" ["one","other"] (zce K _):=⟨_,_,zeb F_refuse_unlike T  ,m_refuse_unlike,k0,b_refuse_unlike⟩
 have G_weighed:Callee l.prog w K mg base (CXE l.prog w) 2 "weighed" ["one","other"] (zdS K _):=⟨_,_,zgI F_weighed T G_refuse_unlike ,m_weighed,k1,b_weighed⟩
 have G_Book___init__:=zea (P:=l.prog) (w:=w) (base:=base) F_Book___init__ T
 have G_book_of:Callee l.prog w K mg base (CXE l.prog w) 3 "book_of" ["many","swaps"] (zd1 K _):=⟨_,_,zgv F_book_of T  M_Book G_Book___init__ b_Book___init__ ,m_book_of,k2,b_book_of⟩
 have G_Scale___init___Line:=zc8 (P:=l.prog) (w:=w) (base:=base) F_Scale___init__ T
 have G_Scale___init___Rest:=zc7 (P:=l.prog) (w:=w) (base:=base) F_Scale___init__ T
 have G_Rest___init__:=zd7 (P:=l.prog) (w:=w) (base:=base) F_Rest___init__ T  B_Scale___init___Rest G_Scale___init___Rest b_Scale___init__
 have G_drawn:Callee l.prog w K mg base (CXE l.prog w) 3 "drawn" ["weights","basket"] (zec K _):=⟨_,_,zid F_drawn T G_weighed ,m_drawn,k3,b_drawn⟩
 have G_Scale_weigh_Line:CalleeM l.prog w K mg base (CXE l.prog w) 4 C_Line "weigh" ["self","basket"] (zbp K _):=⟨_,_,zdA F_Scale_weigh T G_drawn ,⟨a20_Line,i20,k20⟩,b_Scale_weigh⟩
 have G_Rest_weigh:CalleeM l.prog w K mg base (CXE l.prog w) 4 C_Rest "weigh" ["self","basket"] (zcY K _):=⟨_,_,ze3 F_Rest_weigh T G_drawn ,⟨a21_Rest,i21,k21⟩,b_Rest_weigh⟩
 have G_Scale_levels_Line:CalleeM l.prog w K mg base (CXE l.prog w) 5 C_Line "levels" ["self","basket"] (zaV K _):=⟨_,_,zdt F_Scale_levels T G_Scale_weigh_Line ,⟨a22_Line,i22,k22⟩,b_Scale_levels⟩
 have G_Scale_levels_Rest:CalleeM l.prog w K mg base (CXE l.prog w) 5 C_Rest "levels" ["self","basket"] (zaU K _):=⟨_,_,zds F_Scale_levels T G_Rest_weigh ,⟨a22_Rest,i22,k22⟩,b_Scale_levels⟩
 have GX_fair:Callee l.prog w K mg base (CXE l.prog w) 6 "fair" ["book","scale"] (ze6 K _):=⟨_,_,zif F_fair T G_Scale_levels_Line G_Scale_levels_Rest ,m_fair,k4,b_fair⟩
 have G_law_whole:Callee l.prog w K mg base (CXE l.prog w) 1 "_law_whole" ["_law_found"] (zdf K _):=⟨_,_,zfh F_law_whole T  ,m_law_whole,k5,b_law_whole⟩
 have G_law_flags:Callee l.prog w K mg base (CXE l.prog w) 1 "_law_flags" ["_law_caught"] (zdb K _):=⟨_,_,zfL F_law_flags T  ,m_law_flags,k6,b_law_flags⟩
 have G_law_only:Callee l.prog w K mg base (CXE l.prog w) 2 "_law_only" ["_law_caught","_law_name"] (zdy K _):=⟨_,_,zfZ F_law_only T G_law_flags ,m_law_only,k7,b_law_only⟩
 have G_law_cell:Callee l.prog w K mg base (CXE l.prog w) 1 "_law_cell" ["_law_script","_law_k"] (zdC K _):=⟨_,_,zf1 F_law_cell T  ,m_law_cell,k8,b_law_cell⟩
 have G_law_raw:Callee l.prog w K mg base (CXE l.prog w) 1 "_law_raw" ["_law_script","_law_k"] (zdZ K _):=⟨_,_,zgy F_law_raw T  ,m_law_raw,k9,b_law_raw⟩
 have G_law_thing:Callee l.prog w K mg base (CXE l.prog w) 1 "_law_thing" ["_law_cell_here","_law_k","_law_many"] (zbu K _):=⟨_,_,zfd F_law_thing T  ,m_law_thing,k10,b_law_thing⟩
 have G_law_frame:Callee l.prog w K mg base (CXE l.prog w) 2 "_law_frame" ["_law_wide","_law_cells"] (zdd K _):=⟨_,_,zfA F_law_frame T G_law_thing ,m_law_frame,k11,b_law_frame⟩
 have G_law_bottoms:Callee l.prog w K mg base (CXE l.prog w) 2 "_law_bottoms" ["_law_wide","_law_cell_here","_law_far"] (zcI K _):=⟨_,_,zeD F_law_bottoms T G_law_thing ,m_law_bottoms,k12,b_law_bottoms⟩
 have G_law_stirred:Callee l.prog w K mg base (CXE l.prog w) 2 "_law_stirred" ["_law_rows","_law_bottoms_here","_law_idle","_law_cells"] (zcJ K _):=⟨_,_,zeB F_law_stirred T G_law_thing ,m_law_stirred,k13,b_law_stirred⟩
 have G_law_made:Callee l.prog w K mg base (CXE l.prog w) 3 "_law_made" ["_law_script"] (zdD K _):=⟨_,_,zfT F_law_made T G_law_bottoms G_law_cell G_law_frame G_law_raw G_law_stirred ,m_law_made,k14,b_law_made⟩
 have G_law_scale:Callee l.prog w K mg base (CXE l.prog w) 4 "_law_scale" ["_law_duals","_law_bottoms_here","_law_cell_here"] (zc9 K _):=⟨_,_,zfl F_law_scale T G_law_thing M_Rest G_Rest___init__ b_Rest___init__ M_Line G_Scale___init___Line b_Scale___init__ ,m_law_scale,k15,b_law_scale⟩
 have G_law_due:Callee l.prog w K mg base (CXE l.prog w) 1 "_law_due" ["_law_swaps","_law_weights","_law_rest"] (zdU K _):=⟨_,_,zgO F_law_due T  ,m_law_due,k16,b_law_due⟩
 have G_law_asked:Callee l.prog w K mg base (CXE l.prog w) 7 "_law_asked" ["_law_book","_law_scale_here"] (zde K _):=⟨_,_,zfv F_law_asked T  GX_fair,m_law_asked,k17,b_law_asked⟩
 have G_law_good:Callee l.prog w K mg base (CXE l.prog w) 8 "_law_good" ["_law_book","_law_made_here","_law_swaps"] (zdF K _):=⟨_,_,zfR F_law_good T G_law_asked G_law_due G_law_only G_law_whole ,m_law_good,k18,b_law_good⟩
 exact (zkA F_law T G_law_good G_law_made G_law_scale G_book_of ).imp λ_ _ _ _ q=>zkO q
theorem zl8 {l:W.OpenLaw} {q:Program} {loose:List Str} {XP:(Str->Option Value)->Heap->Prop} {YP:World->Heap->Prop} {d:DefRec} {K:Params->W.Frag} (hn:l.most=some 63) (hdf:d.params.defaults=[])
  (hY:∀ (w:World) (h:Heap),YP w h->(K w.params).In h)
  (F:∀ (w:World) (mg:Str->Option Value) (fa:Addr) (h:Heap),(K w.params).In h->h.Ns mainGlobals mg->mg d.name=some (.ref fa) →
   ∃ fd:FuncData,(∀ (s:Shared) (u:Value),BindsTo s fd ⟨[u],[]⟩ [("_law_script",u)])∧∀ base:Heap,(K w.params).In base->base.Ns mainGlobals mg->FnOk l.prog w (K w.params) mg base (CXE l.prog w) 9 fa fd ["_law_script"] (zii (K w.params))) :
  W.WalkO q loose XP YP l.row.toRowW d [] (λf vs=>PySem.call f vs) :=
 L2.zjG (n:=63) (k:=9) (x:="_law_script") (CX:=λw=>CXE l.prog w) (sp:=λw=>zii (K w.params)) hn (by decide) hdf ⟨rfl,by decide,by decide⟩ hY F (λ_ _ a ns hl _ hS=>⟨a,ns,rfl,hS,hl,λ_=>rfl⟩) λ_ _ _ _ _ ⟨_,_,_,_,_,_,_,_,_,_,z⟩=>z
end
end My
section
open PySem PySem.W PyProof.Rows
set_option maxRecDepth 100000 in
set_option maxHeartbeats 0 in
theorem PySem.Challenge.cw_swapbook_k32_fair_scales_holds : PySem.Challenge.rw_swapbook_k32_fair_scales.Holds := by
 refine My.headT ?hc
 k_fill
 refine My.zl8 (l:=PySem.Challenge.rw_swapbook_k32_fair_scales) rfl rfl (λw h Y=>W.kIn_of Y) ?F
 case F =>
  intro w mg fa h KX G hmg
  refine' My.all_mk KX G hmg ?aC_Book ?aC_Scale ?aC_Line ?aC_Rest ?a0 ?l0 ?c0 ?k0 ?a1 ?l1 ?c1 ?k1 ?a2 ?l2 ?c2 ?k2 ?a3 ?l3 ?c3 ?k3 ?a4 ?l4 ?c4 ?k4 ?a5 ?l5 ?c5 ?k5 ?a6 ?l6 ?c6 ?k6 ?a7 ?l7 ?c7 ?k7 ?a8 ?l8 ?c8 ?k8 ?a9 ?l9 ?c9 ?k9 ?a10 ?l10 ?c10 ?k10 ?a11 ?l11 ?c11 ?k11 ?a12 ?l12 ?c12 ?k12 ?a13 ?l13 ?c13 ?k13 ?a14 ?l14 ?c14 ?k14 ?a15 ?l15 ?c15 ?k15 ?a16 ?l16 ?c16 ?k16 ?a17 ?l17 ?c17 ?k17 ?a18 ?l18 ?c18 ?k18 ?a19 ?l19 ?c19 ?k19 ?a20_Line ?i20 ?l20 ?c20 ?k20 ?a21_Rest ?i21 ?l21 ?c21 ?k21 ?a22_Line ?a22_Rest ?i22 ?l22 ?c22 ?k22 ?a23 ?i23 ?l23 ?c23 ?k23 ?a24 ?i24 ?a24_Line ?bg24 ?br24 ?bf24 ?l24 ?c24 ?k24 ?a25 ?i25 ?l25 ?c25 ?k25 ?pg_Book ?hd_Book ?po_Book ?sa_Book ?mk_Book ?kc_Book ?n_Book_many ?n_Book_swaps ?pg_Scale ?hd_Scale ?po_Scale ?sa_Scale ?mk_Scale ?kc_Scale ?n_Scale_weights ?pg_Line ?hd_Line ?po_Line ?sa_Line ?mk_Line ?kc_Line ?n_Line_weights ?pg_Rest ?hd_Rest ?po_Rest ?sa_Rest ?mk_Rest ?kc_Rest ?n_Rest_weights ?n_Rest_rest ?z_ValueError ?z_bool ?z_enumerate ?z_int ?z_isinstance ?z_len ?z_list ?z_max ?z_range ?z_sum ?z_zip ?g_MOST_WARES ?g_MOST_SWAPS ?aK_BadBasket ?aK_BadBaskets ?aK_BadNames ?aK_BadRest ?aK_BadRoad ?aK_BadScale ?aK_BadSwap ?aK_BadWares ?aK_Endless ?aK_NoBook ?aK_NoLine ?aK_NoName ?aK_NoSwap ?aK_NotAlike ?aK_NotKept ?aK_OtherBook ?aK_OtherWares ?aK_SwapError ?aK_TooGreat ?aK_TooMany ?x_gt ?x_tk ?xi_BadScale ?xga_BadScale ?xgn_BadScale ?xc_BadScale ?xo_BadScale ?xb_BadScale ?es_BadScale ?eb ?eo ?et ?i0_BadBasket ?i_BadScale_BadBasket ?i0_BadBaskets ?i_BadScale_BadBaskets ?i0_BadNames ?i_BadScale_BadNames ?i0_BadRest ?i_BadScale_BadRest ?i0_BadRoad ?i_BadScale_BadRoad ?i0_BadScale ?i_BadScale_BadScale ?i0_BadSwap ?i_BadScale_BadSwap ?i0_BadWares ?i_BadScale_BadWares ?i0_Endless ?i_BadScale_Endless ?i0_NoBook ?i_BadScale_NoBook ?i0_NoLine ?i_BadScale_NoLine ?i0_NoName ?i_BadScale_NoName ?i0_NoSwap ?i_BadScale_NoSwap ?i0_NotAlike ?i_BadScale_NotAlike ?i0_NotKept ?i_BadScale_NotKept ?i0_OtherBook ?i_BadScale_OtherBook ?i0_OtherWares ?i_BadScale_OtherWares ?i0_TooGreat ?i_BadScale_TooGreat ?i0_TooMany ?i_BadScale_TooMany ?i0_ValueError ?i_BadScale_ValueError ?kit_int_bool ?kit_int_int
  (case aC_Book=>k_is)
  (case aC_Scale=>k_is)
  (case aC_Line=>k_is)
  (case aC_Rest=>k_is)
  (case a0=>k_is)
  (case l0=>k_is)
  (case c0=>k_is)
  (case k0=>k_is)
  (case a1=>k_is)
  (case l1=>k_is)
  (case c1=>k_is)
  (case k1=>k_is)
  (case a2=>k_is)
  (case l2=>k_is)
  (case c2=>k_is)
  (case k2=>k_is)
  (case a3=>k_is)
  (case l3=>k_is)
  (case c3=>k_is)
  (case k3=>k_is)
  (case a4=>k_is)
  (case l4=>k_is)
  (case c4=>k_is)
  (case k4=>k_is)
  (case a5=>k_is)
  (case l5=>k_is)
  (case c5=>k_is)
  (case k5=>k_is)
  (case a6=>k_is)
  (case l6=>k_is)
  (case c6=>k_is)
  (case k6=>k_is)
  (case a7=>k_is)
  (case l7=>k_is)
  (case c7=>k_is)
  (case k7=>k_is)
  (case a8=>k_is)
  (case l8=>k_is)
  (case c8=>k_is)
  (case k8=>k_is)
  (case a9=>k_is)
  (case l9=>k_is)
  (case c9=>k_is)
  (case k9=>k_is)
  (case a10=>k_is)
  (case l10=>k_is)
  (case c10=>k_is)
  (case k10=>k_is)
  (case a11=>k_is)
  (case l11=>k_is)
  (case c11=>k_is)
  (case k11=>k_is)
  (case a12=>k_is)
  (case l12=>k_is)
  (case c12=>k_is)
  (case k12=>k_is)
  (case a13=>k_is)
  (case l13=>k_is)
  (case c13=>k_is)
  (case k13=>k_is)
  (case a14=>k_is)
  (case l14=>k_is)
  (case c14=>k_is)
  (case k14=>k_is)
  (case a15=>k_is)
  (case l15=>k_is)
  (case c15=>k_is)
  (case k15=>k_is)
  (case a16=>k_is)
  (case l16=>k_is)
  (case c16=>k_is)
  (case k16=>k_is)
  (case a17=>k_is)
  (case l17=>k_is)
  (case c17=>k_is)
  (case k17=>k_is)
  (case a18=>k_is)
  (case l18=>k_is)
  (case c18=>k_is)
  (case k18=>k_is)
  (case a19=>k_is)
  (case l19=>k_is)
  (case c19=>k_is)
  (case k19=>k_is)
  (case a20_Line=>k_is)
  (case i20=>k_is)
  (case l20=>k_is)
  (case c20=>k_is)
  (case k20=>k_is)
  (case a21_Rest=>k_is)
  (case i21=>k_is)
  (case l21=>k_is)
  (case c21=>k_is)
  (case k21=>k_is)
  (case a22_Line=>k_is)
  (case a22_Rest=>k_is)
  (case i22=>k_is)
  (case l22=>k_is)
  (case c22=>k_is)
  (case k22=>k_is)
  (case a23=>k_is)
  (case i23=>k_is)
  (case l23=>k_is)
  (case c23=>k_is)
  (case k23=>k_is)
  (case a24=>k_is)
  (case i24=>k_is)
  (case a24_Line=>k_is)
  (case bg24=>k_is)
  (case br24=>k_is)
  (case bf24=>k_is)
  (case l24=>k_is)
  (case c24=>k_is)
  (case k24=>k_is)
  (case a25=>k_is)
  (case i25=>k_is)
  (case l25=>k_is)
  (case c25=>k_is)
  (case k25=>k_is)
  (case pg_Book=>k_is)
  (case hd_Book=>k_is)
  (case po_Book=>k_is)
  (case sa_Book=>k_is)
  (case mk_Book=>k_is)
  (case kc_Book=>k_is)
  (case n_Book_many=>k_is)
  (case n_Book_swaps=>k_is)
  (case pg_Scale=>k_is)
  (case hd_Scale=>k_is)
  (case po_Scale=>k_is)
  (case sa_Scale=>k_is)
  (case mk_Scale=>k_is)
  (case kc_Scale=>k_is)
  (case n_Scale_weights=>k_is)
  (case pg_Line=>k_is)
  (case hd_Line=>k_is)
  (case po_Line=>k_is)
  (case sa_Line=>k_is)
  (case mk_Line=>k_is)
  (case kc_Line=>k_is)
  (case n_Line_weights=>k_is)
  (case pg_Rest=>k_is)
  (case hd_Rest=>k_is)
  (case po_Rest=>k_is)
  (case sa_Rest=>k_is)
  (case mk_Rest=>k_is)
  (case kc_Rest=>k_is)
  (case n_Rest_weights=>k_is)
  (case n_Rest_rest=>k_is)
  (case z_ValueError=>k_is)
  (case z_bool=>k_is)
  (case z_enumerate=>k_is)
  (case z_int=>k_is)
  (case z_isinstance=>k_is)
  (case z_len=>k_is)
  (case z_list=>k_is)
  (case z_max=>k_is)
  (case z_range=>k_is)
  (case z_sum=>k_is)
  (case z_zip=>k_is)
  (case g_MOST_WARES=>k_is)
  (case g_MOST_SWAPS=>k_is)
  (case aK_BadBasket=>k_is)
  (case aK_BadBaskets=>k_is)
  (case aK_BadNames=>k_is)
  (case aK_BadRest=>k_is)
  (case aK_BadRoad=>k_is)
  (case aK_BadScale=>k_is)
  (case aK_BadSwap=>k_is)
  (case aK_BadWares=>k_is)
  (case aK_Endless=>k_is)
  (case aK_NoBook=>k_is)
  (case aK_NoLine=>k_is)
  (case aK_NoName=>k_is)
  (case aK_NoSwap=>k_is)
  (case aK_NotAlike=>k_is)
  (case aK_NotKept=>k_is)
  (case aK_OtherBook=>k_is)
  (case aK_OtherWares=>k_is)
  (case aK_SwapError=>k_is)
  (case aK_TooGreat=>k_is)
  (case aK_TooMany=>k_is)
  (case x_gt=>k_is)
  (case x_tk=>k_is)
  (case xi_BadScale=>k_exc)
  (case xga_BadScale=>k_is)
  (case xgn_BadScale=>k_is)
  (case xc_BadScale=>k_is)
  (case xo_BadScale=>k_is)
  (case xb_BadScale=>k_is)
  (case es_BadScale=>k_is)
  (case eb=>k_is)
  (case eo=>k_is)
  (case et=>k_is)
  (case i0_BadBasket=>kit_is)
  (case i_BadScale_BadBasket=>kit_is)
  (case i0_BadBaskets=>kit_is)
  (case i_BadScale_BadBaskets=>kit_is)
  (case i0_BadNames=>kit_is)
  (case i_BadScale_BadNames=>kit_is)
  (case i0_BadRest=>kit_is)
  (case i_BadScale_BadRest=>kit_is)
  (case i0_BadRoad=>kit_is)
  (case i_BadScale_BadRoad=>kit_is)
  (case i0_BadScale=>kit_is)
  (case i_BadScale_BadScale=>kit_is)
  (case i0_BadSwap=>kit_is)
  (case i_BadScale_BadSwap=>kit_is)
  (case i0_BadWares=>kit_is)
  (case i_BadScale_BadWares=>kit_is)
  (case i0_Endless=>kit_is)
  (case i_BadScale_Endless=>kit_is)
  (case i0_NoBook=>kit_is)
  (case i_BadScale_NoBook=>kit_is)
  (case i0_NoLine=>kit_is)
  (case i_BadScale_NoLine=>kit_is)
  (case i0_NoName=>kit_is)
  (case i_BadScale_NoName=>kit_is)
  (case i0_NoSwap=>kit_is)
  (case i_BadScale_NoSwap=>kit_is)
  (case i0_NotAlike=>kit_is)
  (case i_BadScale_NotAlike=>kit_is)
  (case i0_NotKept=>kit_is)
  (case i_BadScale_NotKept=>kit_is)
  (case i0_OtherBook=>kit_is)
  (case i_BadScale_OtherBook=>kit_is)
  (case i0_OtherWares=>kit_is)
  (case i_BadScale_OtherWares=>kit_is)
  (case i0_TooGreat=>kit_is)
  (case i_BadScale_TooGreat=>kit_is)
  (case i0_TooMany=>kit_is)
  (case i_BadScale_TooMany=>kit_is)
  (case i0_ValueError=>kit_is)
  (case i_BadScale_ValueError=>kit_is)
  (case kit_int_bool=>kit_is)
  (case kit_int_int=>kit_is)
end
