import PyProof.Rows.All
import Wide.All
import OpenK.AllK
import Wide.FinOn
import Lean
import PyProof.EqAt
import PyProof.EqKinds
import PyProof.TupleCall
import PySem.Challenge.RW_swapbook_k31_scales
set_option Elab.async false
set_option linter.all false
set_option maxRecDepth 100000
namespace Hd
open PySem PySem.W PyProof.Rows
def runT (p:Program) (w:World) (m:Nat) (a:Option Value):Nat->SharedT->Thread->Option SharedT
 | 0,_,_=>none
 | n+1,s,t=>match through t with
  | true=>some s
  | false=>match stepOk m a t with
   | true=>(match stepT (denote treeTable) p w s t with
    | some x=>runT p w m a n x.1 x.2
    | none=>none)
   | false=>none
theorem zhx {p:Program} {w:World} {m:Nat} {a:Option Value}:∀ {n:Nat} {s z:SharedT} {t:Thread},runT p w m a n s t=some z->topRun treeTable p w m a n s.abs t=some z.abs
 | 0,_,_,_,h=>by cases h
 | n+1,s,z,t,h=>by
  rw [runT] at h
  rw [topRun]
  cases h1:through t<;>rw [h1] at h
  ·cases h2:stepOk m a t<;>rw [h2] at h
   ·cases h
   ·cases h3:stepT (denote treeTable) p w s t with
    | none=>rw [h3] at h;cases h
    | some x=>rw [h3] at h;rw [stepT_spec (s':=x.1) (t':=x.2) h3];exact zhx h
  ·cases h;rfl
def tr:List Obj->Nat->BT->BT
 | [],_,t=>t
 | o :: r,n,t=>tr r (n+1) (t.ins n o)
noncomputable def boot (P:Params) (os:OsState):SharedT:=⟨tr (boot_heap P).objs.toList 0 .nil,11,(boot_heap P).life,Array.mk [],boot_drawn,boot_toks,os⟩
theorem zhq (P:Params) (os:OsState):(boot P os).abs=⟨boot_heap P,Array.mk [],boot_drawn,boot_toks,os⟩:=by kernel_rfl
theorem zit (P:Params):((boot_heap P).isNs mainGlobals&&(Array.mk ([]:List GenState)).size == 0)=true:=by kernel_rfl
theorem zik (P:Params):(boot_heap P).objs.size=11:=by kernel_rfl
theorem zij (P:Params):(boot_heap P).nsMap mainGlobals "__annotations__"=some (.ref 6):=by kernel_rfl
noncomputable def lk (p:Program) (w:World) (s:Shared):Bool:=staticsOk (importedModules p.main.body) (boot_heap w.params) s.heap&&namesBound p s.heap&&gensDone s&&laidKept (boot_heap w.params) s.heap
def getT (s:SharedT) (a:Nat):Option Obj:=match Nat.blt a s.n with
 | true=>alive ((s.tree.get a).getD default)
 | false=>none
theorem zih (s:SharedT) (a:Nat):s.abs.heap.get? a=getT s a:=by
 show (absHeap s.tree s.n s.life).get? a=_
 unfold Heap.get? getT
 rw [absHeap_at]
 by_cases h:a<s.n
 ·have e:Nat.blt a s.n=true:=by simpa [Nat.blt_eq] using h
  rw [if_pos h,e]
  generalize (s.tree.get a).getD default=o
  obtain ⟨c,d,dt,sl⟩:=o
  cases dt<;>rfl
 ·have e:Nat.blt a s.n=false:=by
   cases q:Nat.blt a s.n with
   | false=>rfl
   | true=>exact absurd (by simpa [Nat.blt_eq] using q) h
  rw [if_neg h,e]
theorem y_is (as:List Addr) (s:SharedT):as.map s.abs.heap.get?=as.map (getT s):=by
 congr 1
 funext a
 exact zih s a
theorem left_of {p q:Program} {loose:List Str} {Xt:Shared->Bool} {α:Type} {Yf:Shared->α} {Ya:World->α} {N:Nat} {g0:Bool} {YT:SharedT->α}
  (e:opening p=plainProg p.main.scope.names) (hN:Nat.ble 600 N=true) (f:∀ s,fenceModules? p s=some s) (hy:∀ s:SharedT,Yf s.abs=YT s)
  (h:∀ w os,(runT p w 11 (some (.ref 6)) N (boot w.params os) (topStub p)).map (λs=>(lk p w s.abs,openSeen q loose (importedModules p.main.body) Xt g0 s.abs,YT s))=some (true,openGood q loose,Ya w)):LeftO p q loose Xt Yf Ya N g0:=λw=>by
 obtain ⟨s,h1,h2⟩:=Option.map_eq_some_iff.mp (boot_open e hN f w)
 obtain ⟨hp,gs,dr,tk,os⟩:=s
 have h3:hp=boot_heap w.params∧gs=Array.mk []∧dr=boot_drawn∧tk=boot_toks:=by simpa using h2
 obtain ⟨rfl,rfl,rfl,rfl⟩:=h3
 obtain ⟨z,h4,h5⟩:=Option.map_eq_some_iff.mp (h w os)
 have h6:=zhx h4
 rw [zhq] at h6
 obtain ⟨l1,l2,l3⟩:_∧_∧_:=by simpa only [Prod.mk.injEq] using h5
 unfold openEnds
 rw [h1]
 show (topFrom treeTable p w N _).map _=_
 have h7:topFrom treeTable p w N ⟨boot_heap w.params,Array.mk [],boot_drawn,boot_toks,os⟩=some z.abs:=by
  unfold topFrom
  dsimp only
  rw [zit,zik,zij,h6]
  show (match lk p w z.abs with | true=>_ | false=>_)=_
  rw [l1]
 rw [h7]
 exact congrArg some (Prod.ext l2 ((hy z).trans l3))
end Hd
set_option maxRecDepth 100000
namespace My
open PySem PySem.W PyProof.Rows
noncomputable def hdF (q:Program) (as:List Addr) (N:Nat) (w:World) (os:OsState) :=
 (Hd.runT PySem.Challenge.rw_swapbook_k31_scales.row.prog w 11 (some (.ref 6)) N (Hd.boot w.params os) (topStub PySem.Challenge.rw_swapbook_k31_scales.row.prog)).map (λs=>(Hd.lk PySem.Challenge.rw_swapbook_k31_scales.row.prog w s.abs,
  openSeen q [] (importedModules PySem.Challenge.rw_swapbook_k31_scales.row.prog.main.body) (λs=>xlAt q [] s&&recOk (RowW.records PySem.Challenge.rw_swapbook_k31_scales.row.toRowW) s) true s.abs,as.map (Hd.getT s)))
noncomputable def hdG (q:Program) (K:Params->Frag) (w:World):=some (true,openGood q [],(K w.params).map λp=>some p.2)
end My
set_option Elab.async false
lay_quick My.hdF My.hdG
namespace My
open PySem PySem.W PyProof.Rows
theorem hd_run {q:Program} {K:Params->Frag} {as:List Addr} {N:Nat} {e:∀ P,as=(K P).map (·.1)} (hN:Nat.ble 600 N=true)
  (h:∀ w os,W.Fast.tw6084617276858994590 q as N w os=W.Fast.tw7309032369996461460 q K w) :
  LeftO PySem.Challenge.rw_swapbook_k31_scales.row.prog q [] (λs=>xlAt q [] s&&recOk (RowW.records PySem.Challenge.rw_swapbook_k31_scales.row.toRowW) s) (kHook K as e).obs (kHook K as e).val N:=by
 rw [← W.Fast.te6084617276858994590,← W.Fast.te7309032369996461460] at h
 exact Hd.left_of (by kernel_rfl) hN (λs=>by kernel_rfl) (Hd.y_is as) h
end My
section
local macro_rules
 | `(tactic| refine $e:term)=>do
  if e.raw.isOfKind `Lean.Parser.Term.app&&e.raw[0].getId.eraseMacroScopes == `PySem.W.holds_open then
   let some _:=e.raw.find? (λs=>s.isOfKind `Lean.Parser.Term.syntheticHole&&s[1].getId.eraseMacroScopes == `hl) | Lean.Macro.throwUnsupported
   let h ← `(My.hd_run (by decide) (λw os=>by kernel_rfl))
   let e' ← e.raw.replaceM λs=>pure (if s.isOfKind `Lean.Parser.Term.syntheticHole&&s[1].getId.eraseMacroScopes == `hl then some h.raw else none)
   `(tactic| refine $(⟨e'⟩))
  else Lean.Macro.throwUnsupported
open PySem PySem.W PyProof.Rows
set_option maxRecDepth 100000 in
set_option maxHeartbeats 0 in
open_top My.headT for PySem.Challenge.rw_swapbook_k31_scales
end
namespace L2
open PySem PySem.Spec PyProof.Rows
abbrev Key:=Sum Int Str
def zjg:Key->Value->Bool
 | .inl k,v=>Value.isInt k v
 | .inr x,v=>Value.isStrOf x v
def zkl (w:World):Key->Int
 | .inl k=>hashInt k
 | .inr x=>hashStr w x
theorem keyIs_shape:∀ {k:Key} {v:Value},zjg k v=true->(∃ i t,k=Sum.inl i∧v=Value.int i t)∨(∃ x t,k=Sum.inr x∧v=Value.str x t)
 | .inl i,v,h=>by
  obtain ⟨t,e⟩:=Value.isInt_shape (k:=i) (v:=v) h
  exact .inl ⟨i,t,rfl,e⟩
 | .inr x,v,h=>by
  obtain ⟨t,e⟩:=Value.isStrOf_shape (x:=x) (v:=v) h
  exact .inr ⟨x,t,rfl,e⟩
theorem ziI (a b:Int):decide ((Sum.inl a:Key)=Sum.inl b)=(a == b):=by
 by_cases e:a=b
 ·subst e;simp
 ·have h:¬ (Sum.inl a:Key)=Sum.inl b:=λq=>e (Sum.inl.inj q)
  rw [decide_eq_false h]
  exact (beq_eq_false_iff_ne.mpr e).symm
theorem zje (a b:Str):decide ((Sum.inr a:Key)=Sum.inr b)=decide (a=b):=by
 by_cases e:a=b
 ·subst e;simp
 ·have h:¬ (Sum.inr a:Key)=Sum.inr b:=λq=>e (Sum.inr.inj q)
  rw [decide_eq_false h,decide_eq_false e]
theorem zju (a:Int) (b:Str):decide ((Sum.inl a:Key)=Sum.inr b)=false:=decide_eq_false (λq=>nomatch q)
theorem ziF (a:Str) (b:Int):decide ((Sum.inr a:Key)=Sum.inl b)=false:=decide_eq_false (λq=>nomatch q)
def zgD (prog:Program) (w:World):PySem.KeyKind prog w Key where
 is:=zjg
 hash:=zkl w
 inj:=λv a b ha hb=>by
  rcases keyIs_shape ha with ⟨i,t,rfl,rfl⟩ | ⟨x,t,rfl,rfl⟩
  ·rcases keyIs_shape hb with ⟨j,u,rfl,e⟩ | ⟨y,u,rfl,e⟩
   ·injection e with e1 _;rw [e1]
   ·exact nomatch e
  ·rcases keyIs_shape hb with ⟨j,u,rfl,e⟩ | ⟨y,u,rfl,e⟩
   ·exact nomatch e
   ·injection e with e1 _;rw [e1]
 byValue:=λk v h=>by
  rcases keyIs_shape h with ⟨i,t,rfl,rfl⟩ | ⟨x,t,rfl,rfl⟩<;>rfl
 pyHash:=λhv h=>by
  rcases keyIs_shape hv with ⟨i,t,rfl,rfl⟩ | ⟨x,t,rfl,rfl⟩
  ·exact wpAny_pyHash_int h
  ·exact wpAny_pyHash_str h
 eqBool:=λhu hv h=>by
  rcases keyIs_shape hu with ⟨i,t,rfl,rfl⟩ | ⟨x,t,rfl,rfl⟩
  ·rcases keyIs_shape hv with ⟨j,u,rfl,rfl⟩ | ⟨y,u,rfl,rfl⟩
   ·rw [ziI] at h;exact wpAny_eqBool_int h
   ·rw [zju] at h;exact SeqAt.EqAt.int_str i t y u _ _ _ _ h
  ·rcases keyIs_shape hv with ⟨j,u,rfl,rfl⟩ | ⟨y,u,rfl,rfl⟩
   ·rw [ziF] at h;exact SeqAt.EqAt.str_int x t j u _ _ _ _ h
   ·rw [zje] at h;exact wpAny_eqBool_str h
 «strs»:=λk x t v h=>by
  rcases keyIs_shape h with ⟨i,u,rfl,e⟩ | ⟨y,u,rfl,e⟩
  ·exact nomatch e
  ·injection e with e1 _
   subst e1
   cases v<;>rfl
end L2
namespace L2
open PySem PySem.Spec PyProof.Rows
inductive V where
 | non | bl (b:Bool) | int (i:Int) | str (x:Str) | byt (b:Array UInt8) | flt (b:UInt64) | ref (a:Addr) | ty (n:String)
 deriving DecidableEq
def RelV:V->Value->Prop
 | .non,u=>u=Value.none
 | .bl b,u=>u=Value.bool b
 | .int i,u=>∃ t,u=Value.int i t
 | .str x,u=>∃ t,u=Value.str x t
 | .byt b,u=>∃ t,u=Value.bytes b t
 | .flt b,u=>∃ t,u=Value.float b t
 | .ref a,u=>u=Value.ref a
 | .ty n,u=>u=Value.type n
abbrev Vals:List V->List Value->Prop:=Paired RelV
theorem Vals.length {xs:List V} {us:List Value} (r:Vals xs us):xs.length=us.length:=Paired.length r
theorem Vals.get:∀ {xs:List V} {us:List Value} {i:Nat} {x:V},Vals xs us->xs[i]?=some x->∃ u,us[i]?=some u∧RelV x u
 | _,_,_,_,.nil,e=>by simp at e
 | _,_,0,_,.cons r _,e=>by simp at e;subst e;exact ⟨_,rfl,r⟩
 | _,_,i+1,x,.cons _ t,e=>by
  obtain ⟨u,h1,h2⟩:=Vals.get (i:=i) (x:=x) t (by simpa using e)
  exact ⟨u,by simpa using h1,h2⟩
theorem Vals.append:∀ {xs ys:List V} {us ws:List Value},Vals xs us->Vals ys ws->Vals (xs++ys) (us++ws)
 | _,_,_,_,.nil,s=>s
 | _,_,_,_,.cons r t,s=>.cons r (Vals.append t s)
theorem Vals.take:∀ {xs:List V} {us:List Value} (n:Nat),Vals xs us->Vals (xs.take n) (us.take n)
 | _,_,0,_=>.nil
 | _,_,_+1,.nil=>.nil
 | _,_,n+1,.cons r t=>.cons r (Vals.take n t)
theorem Vals.drop:∀ {xs:List V} {us:List Value} (n:Nat),Vals xs us->Vals (xs.drop n) (us.drop n)
 | _,_,0,r=>r
 | _,_,_+1,.nil=>.nil
 | _,_,n+1,.cons _ t=>Vals.drop n t
def zgQ:Option V->Option Value->Prop
 | some v,some u=>RelV v u
 | none,none=>True
 | _,_=>False
def KV {κ:Type}:List (κ×V)->List (κ×Value)->Prop:=Paired λ(p:κ×V) (q:κ×Value)=>p.1=q.1∧RelV p.2 q.2
def kV:Key->V
 | .inl i=>.int i
 | .inr x=>.str x
inductive HO where
 | lst (xs:List V)
 | tup (xs:List V)
 | dK (kvs:List (Key×V)) | dT (kvs:List (List Key×V))
 | set (S:Int->Bool) (n:Nat)
 | ins (C dx:Addr) (fs:List (Str×V))
 | own (x:Addr)
 | xd (fs:List (Str×V))
 | met (f x:Addr)
 | rng (lo hi:Int)
 | frz (o:Obj) (u:HO)
 | tbl (ps:Array Value)
 | ext (φ:Heap->Prop)
abbrev Hp:=Addr->Option HO
def upd (H:Hp) (a:Addr) (o:HO):Hp:=λb=>if b=a then some o else H b
theorem upd_same {H:Hp} {a:Addr} {o:HO}:upd H a o a=some o:=by unfold upd;rw [if_pos rfl]
theorem upd_ne {H:Hp} {a b:Addr} {o:HO} (h:b≠a):upd H a o b=H b:=by unfold upd;rw [if_neg h]
theorem zgT {H:Hp} {a b:Addr} {o u:HO} (h:H a=some o) (h':H b=some u) (d:o≠u):a≠b:=by
 intro e;subst e;rw [h] at h';exact d (Option.some.inj h')
theorem ne_of_none {H:Hp} {a b:Addr} {o:HO} (h:H a=some o) (h':H b=none):a≠b:=by
 intro e;subst e;rw [h] at h';cases h'
section
variable (P:Program) (w:World)
def zbX (H:Hp) (h:Heap) (a:Addr):HO->Prop
 | .lst xs=>xs.length≤sizeLine∧∃ (its:List Value) (n:Nat),Vals xs its∧h.get? a=some { cls:=.type "list",data:=.seq its.toArray n }
 | .tup xs=>xs.length≤sizeLine∧∃ its:List Value,Vals xs its∧IsTup h a its.toArray
 | .dK kvs=>kvs.length≤sizeLine∧(a == sysModules)=false∧∃ vs,KV kvs vs∧h.DictOf (zgD P w) a vs
 | .dT kvs=>kvs.length≤sizeLine∧(a == sysModules)=false∧∃ xs:List (List Key×Addr×Value),
   Paired (λ(p:List Key×V) (q:List Key×Addr×Value)=>p.1=q.1∧H q.2.1=some (.tup (p.1.map kV))∧RelV p.2 q.2.2) kvs xs ∧
   ∃ o es ep,h.get? a=some o∧o.ExactDict∧o.data=.dict es ep∧es.toList=xs.map (entryOfKey (tupleKind (zgD P w)))∧(xs.map (·.1)).Nodup
 | .set S n=>h.SetOf (intKind P w) a S n
 | .ins C dx fs=>H dx=some (.own a)∧fs.length≤1000∧dx≠a∧h.get? a=some (W.instObj C dx) ∧
   ∃ mA,h.Ns1 dx mA∧(∀ f,zgQ (fs.lookup f) (mA f))∧PySem.Within mA (fs.map (·.1))
 | .own _=>∃ o,h.get? a=some o
 | .xd fs=>∃ mA,h.Ns1 a mA∧∀ f,zgQ (fs.lookup f) (mA f)
 | .rng lo hi=>∃ t u v,h.get? a=some { cls:=.type "range",data:=.fields #[.int lo t,.int hi u,.int 1 v] }
 | .frz o u=>h.get? a=some o∧zbX H h a u
 | .tbl ps=>h.get? a=some { cls:=.none,data:=.fields ps }
 | .met f x=>h.get? a=some (W.methodObj (.ref f) (.ref x))
 | .ext φ=>φ h∧(∃ o,h.get? a=some o)∧∀ h1 h2:Heap,φ h1->(∀ o,h1.get? a=some o->h2.get? a=some o)->φ h2
def HOk (H:Hp) (h:Heap):Prop:=∀ a o,H a=some o->zbX P w H h a o
end
section
variable {P:Program} {w:World} {H H':Hp} {h h':Heap} {a:Addr} {o:HO}
theorem zbX.lt (x:zbX P w H h a o):a<h.objs.size:=by
 cases o with
 | lst xs=>obtain ⟨_,_,_,_,e⟩:=x;exact Heap.lt_size e
 | tup xs=>obtain ⟨_,_,_,p⟩:=x;exact p.lt
 | dK kvs=>obtain ⟨_,_,_,_,o,_,_,e,_⟩:=x;exact Heap.lt_size e
 | dT kvs=>obtain ⟨_,_,_,_,o,_,_,e,_⟩:=x;exact Heap.lt_size e
 | set S n=>obtain ⟨o,_,_,_,e,_⟩:=x;exact Heap.lt_size e
 | ins C dx fs=>obtain ⟨_,_,_,e,_⟩:=x;exact Heap.lt_size e
 | own y=>obtain ⟨_,e⟩:=x;exact Heap.lt_size e
 | xd fs=>obtain ⟨_,⟨_,_,_,e,_⟩,_⟩:=x;exact Heap.lt_size e
 | rng lo hi=>obtain ⟨_,_,_,e⟩:=x;exact Heap.lt_size e
 | frz ob u=>obtain ⟨e,_⟩:=x;exact Heap.lt_size e
 | tbl ps=>exact Heap.lt_size (show h.get? a=some _ from x)
 | met f y=>exact Heap.lt_size (show h.get? a=some _ from x)
 | ext φ=>obtain ⟨_,⟨_,e⟩,_⟩:=x;exact Heap.lt_size e
theorem Paired.mapP {α β:Type} {F G:α->β->Prop}:∀ {l₁:List α} {l₂:List β},Paired F l₁ l₂->(∀ a b,F a b->G a b)->Paired G l₁ l₂
 | _,_,.nil,_=>.nil
 | _,_,.cons r t,f=>.cons (f _ _ r) (Paired.mapP t f)
theorem zbX.stay (x:zbX P w H h a o) (k:∀ b u,(b=a∨H b=some (.own a))->h.get? b=some u->h'.get? b=some u)
  (ho:∀ b,H b=some (.own a)->H' b=some (.own a)) (ht:∀ b xs,H b=some (.tup xs)->H' b=some (.tup xs)):zbX P w H' h' a o:=by
 induction o with
 | lst xs=>obtain ⟨z,its,n,r,e⟩:=x;exact ⟨z,its,n,r,k _ _ (.inl rfl) e⟩
 | tup xs=>obtain ⟨z,its,r,ob,e,c⟩:=x;exact ⟨z,its,r,ob,k _ _ (.inl rfl) e,c⟩
 | dK kvs=>obtain ⟨z,y,vs,r,ob,es,ep,e,c⟩:=x;exact ⟨z,y,vs,r,ob,es,ep,k _ _ (.inl rfl) e,c⟩
 | dT kvs =>
  obtain ⟨z,y,xs,r,ob,es,ep,e,c⟩:=x
  exact ⟨z,y,xs,Paired.mapP r λp q z=>⟨z.1,ht _ _ z.2.1,z.2.2⟩,ob,es,ep,k _ _ (.inl rfl) e,c⟩
 | set S n=>obtain ⟨ob,es,ep,t,e,c⟩:=x;exact ⟨ob,es,ep,t,k _ _ (.inl rfl) e,c⟩
 | ins C dx fs =>
  obtain ⟨d,z,ne,e,mA,⟨od,es,ep,e2,c⟩,r⟩:=x
  exact ⟨ho _ d,z,ne,k _ _ (.inl rfl) e,mA,⟨od,es,ep,k _ _ (.inr d) e2,c⟩,r⟩
 | own y=>obtain ⟨ob,e⟩:=x;exact ⟨ob,k _ _ (.inl rfl) e⟩
 | xd fs=>obtain ⟨mA,⟨od,es,ep,e,c⟩,r⟩:=x;exact ⟨mA,⟨od,es,ep,k _ _ (.inl rfl) e,c⟩,r⟩
 | rng lo hi=>obtain ⟨t,u,v,e⟩:=x;exact ⟨t,u,v,k _ _ (.inl rfl) e⟩
 | frz ob u ih=>obtain ⟨e,q⟩:=x;exact ⟨k _ _ (.inl rfl) e,ih q⟩
 | tbl ps =>
  have e:h.get? a=some { cls:=.none,data:=.fields ps }:=x
  show h'.get? a=some { cls:=.none,data:=.fields ps }
  exact k a _ (.inl rfl) e
 | met f y =>
  have e:h.get? a=some (W.methodObj (.ref f) (.ref y)):=x
  show h'.get? a=some (W.methodObj (.ref f) (.ref y))
  exact k a _ (.inl rfl) e
 | ext φ=>obtain ⟨p,⟨o,e⟩,st⟩:=x;exact ⟨st _ _ p λo q=>k _ _ (.inl rfl) q,⟨o,k _ _ (.inl rfl) e⟩,st⟩
theorem HOk.lt (x:HOk P w H h) (e:H a=some o):a<h.objs.size:=(x a o e).lt
theorem HOk.fresh (x:HOk P w H h) (e:h.objs.size≤a):H a=none:=by
 cases q:H a with
 | none=>rfl
 | some u=>exact absurd (Nat.lt_of_lt_of_le (x.lt q) e) (Nat.lt_irrefl _)
theorem HOk.kept (x:HOk P w H h) (k:∀ b u,h.get? b=some u->h'.get? b=some u):HOk P w H h':=λa o e =>
 (x a o e).stay (λb u _ q=>k b u q) (λ_ q=>q) λ_ _ q=>q
theorem HOk.laid (x:HOk P w H h) (k:∀ b u,h.get? b=some u->h'.get? b=some u) (hp:h.objs.size≤a) (new:zbX P w (upd H a o) h' a o):HOk P w (upd H a o) h':=λb u e=>by
 have hn:=x.fresh hp
 by_cases hb:b=a
 ·subst hb;rw [upd_same] at e;cases e;exact new
 ·rw [upd_ne hb] at e
  exact (x b u e).stay (λc v _ q=>k c v q) (λc q=>by rw [upd_ne (ne_of_none q hn)];exact q) λc xs q=>by rw [upd_ne (ne_of_none q hn)];exact q
end
def Rd (H:Hp) (a:Addr) (u:HO):Prop:=H a=some u∨∃ o,H a=some (.frz o u)
theorem Rd.ok {P:Program} {w:World} {H:Hp} {h:Heap} {a:Addr} {u:HO} (r:Rd H a u) (x:HOk P w H h):zbX P w H h a u:=by
 rcases r with r | ⟨o,r⟩
 ·exact x a u r
 ·obtain ⟨_,q⟩:=x a _ r
  exact q
def Mut:Option HO->Prop
 | some (.lst _)=>True
 | some (.dK _)=>True
 | some (.dT _)=>True
 | some (.set _ _)=>True
 | some (.ins _ _ _)=>True
 | some (.ext _)=>True
 | _=>False
section
variable {P:Program} {w:World} {H:Hp} {h h':Heap} {x e:Addr} {o':HO}
theorem HOk.write (ok:HOk P w H h) (mu:Mut (H x)) (he:e=x∨H e=some (.own x)) (k:∀ b u,b≠e->h.get? b=some u->h'.get? b=some u) (heo:∃ u,h'.get? e=some u)
  (new:zbX P w (upd H x o') h' x o'):HOk P w (upd H x o') h':=λb u q=>by
 have nown:∀ c y,H c=some (.own y)->c≠x:=λc y r z=>by subst z;rw [r] at mu;exact mu
 have ntup:∀ c xs,H c=some (.tup xs)->c≠x:=λc xs r z=>by subst z;rw [r] at mu;exact mu
 by_cases hb:b=x
 ·subst hb;rw [upd_same] at q;cases q;exact new
 ·rw [upd_ne hb] at q
  by_cases hbe:b=e
  ·have q':H b=some (.own x):=by
    rcases he with z | z
    ·exact absurd (hbe.trans z) hb
    ·rw [hbe];exact z
   rw [q] at q';cases q'
   obtain ⟨v,hv⟩:=heo
   exact ⟨v,by rw [hbe];exact hv⟩
  ·refine (ok b u q).stay (λc v hc r=>k c v ?_ r) (λc r=>by rw [upd_ne (nown c b r)];exact r) λc xs r=>by rw [upd_ne (ntup c xs r)];exact r
   rcases hc with rfl | hc
   ·exact hbe
   ·rintro rfl
    rcases he with z | z
    ·exact nown c b hc z
    ·rw [hc] at z;cases z;exact hb rfl
end
structure Un (fs ex:List Addr) (H H':Hp) (h h':Heap):Prop where
 keep:∀ b o,h.get? b=some o->H b=none->b ∉ fs->b ∉ ex->h'.get? b=some o
 slot:∀ b o,h.get? b=some o->H b=none->b∈fs->b ∉ ex->∃ sl,h'.get? b=some { o with slots:=sl }
 free:∀ b o,h.get? b=some o->H b=none->b ∉ ex->H' b=none
 there:∀ b o,h.get? b=some o->b ∉ ex->∃ o',h'.get? b=some o'
 tups:∀ b xs,H b=some (.tup xs)->H' b=some (.tup xs)
 frzs:∀ b o u,H b=some (.frz o u)->H' b=some (.frz o u)
 tbls:∀ b ps,H b=some (.tbl ps)->∃ more,H' b=some (.tbl (ps++more))
section
variable {fs fs' ex ex':List Addr} {H H1 H2:Hp} {h h1 h2 h':Heap} {a x e:Addr} {o:HO}
theorem Un.any (u:Un fs ex H H1 h h1) {b:Addr} {ob:Obj} (q:h.get? b=some ob) (n:H b=none) (hx:b ∉ ex):∃ sl,h1.get? b=some { ob with slots:=sl }:=by
 by_cases hb:b∈fs
 ·exact u.slot b ob q n hb hx
 ·exact ⟨ob.slots,u.keep b ob q n hb hx⟩
theorem Un.kept (k:∀ b u,h.get? b=some u->h'.get? b=some u):Un fs ex H H h h' :=
 ⟨λb ob q _ _ _=>k b ob q,λb ob q _ _ _=>⟨ob.slots,k b ob q⟩,λ_ _ _ n _=>n,λb ob q _=>⟨ob,k b ob q⟩,λ_ _ q=>q,λ_ _ _ q=>q,λ_ ps q=>⟨#[],by rw [q];simp⟩⟩
theorem Un.refl:Un fs ex H H h h:=Un.kept λ_ _ q=>q
theorem Un.laid (k:∀ b u,h.get? b=some u->h'.get? b=some u) (hp:h.objs.size≤a) (hn:H a=none):Un fs ex H (upd H a o) h h' where
 keep:=λb u q _ _ _=>k b u q
 slot:=λb u q _ _ _=>⟨u.slots,k b u q⟩
 free:=λb u q n _=>by rw [upd_ne (Nat.ne_of_lt (Nat.lt_of_lt_of_le (Heap.lt_size q) hp))];exact n
 there:=λb u q _=>⟨u,k b u q⟩
 tups:=λb xs q=>by rw [upd_ne (ne_of_none q hn)];exact q
 frzs:=λb u xs q=>by rw [upd_ne (ne_of_none q hn)];exact q
 tbls:=λb ps q=>⟨#[],by rw [upd_ne (ne_of_none q hn),q];simp⟩
theorem Un.write (mu:Mut (H x)) (he:e=x∨H e=some (.own x)) (k:∀ b u,b≠e->h.get? b=some u->h'.get? b=some u) (heo:∃ u,h'.get? e=some u):Un fs ex H (upd H x o) h h':=by
 have hx:∀ b,H b=none->b≠x:=λb n z=>by subst z;rw [n] at mu;exact mu
 have hb:∀ b,H b=none->b≠e:=λb n z=>by
  subst z
  rcases he with r | r
  ·exact hx b n r
  ·rw [n] at r;cases r
 have hm:∀ b u,H b=some u->¬ Mut (some u)->b≠x:=λb u q nm z=>by subst z;rw [q] at mu;exact nm mu
 refine ⟨λb u q n _ _=>k b u (hb b n) q,λb u q n _ _=>⟨u.slots,k b u (hb b n) q⟩,λb u q n _=>by rw [upd_ne (hx b n)];exact n,λb u q _=>?_,
  λb xs q=>by rw [upd_ne (hm b _ q λz=>z)];exact q,λb u xs q=>by rw [upd_ne (hm b _ q λz=>z)];exact q,λb ps q=>⟨#[],by rw [upd_ne (hm b _ q λz=>z),q];simp⟩⟩
 by_cases hbe:b=e
 ·subst hbe;exact heo
 ·exact ⟨u,k b u hbe q⟩
end
def trk (h:Heap) (H:Hp):List Addr:=(List.range h.objs.size).filter λa=>(H a).isSome
def zg7 (h:Heap) (H:Hp):Heap:=W.hideAll h (trk h H)
theorem zgm (h:Heap) (H:Hp):(zg7 h H).objs.size=h.objs.size:=W.hideAll_size _ _
theorem zha {h:Heap} {H:Hp} {b:Addr} {o:Obj} (e:h.get? b=some o) (n:H b=none):(zg7 h H).get? b=some o :=
 W.hideAll_get _ e λhm=>by
  have q:(H b).isSome=true:=(List.mem_filter.mp hm).2
  rw [n] at q;simp at q
theorem ziq {h:Heap} {H:Hp} {b:Addr} {o:Obj} (e:(zg7 h H).get? b=some o):h.get? b=some o∧H b=none:=by
 have e':h.get? b=some o:=W.of_hideAll (trk h H) e
 refine ⟨e',?_⟩
 cases q:H b with
 | none=>rfl
 | some x =>
  have hm:b∈trk h H:=List.mem_filter.mpr ⟨List.mem_range.mpr (Heap.lt_size e'),by simp [q]⟩
  have z:(zg7 h H).get? b=none:=W.hideAll_none (trk h H) hm
  rw [z] at e;cases e
def allNews (g h:Heap) (L:Addr):List (Addr×Obj):=(List.range h.objs.size).filterMap λa=>if a=L∨(g.get? a).isSome=true then none else (h.get? a).map λo=>(a,o)
def rest (g h:Heap) (L d:Addr):List (Addr×Obj):=(allNews g h L).filter λp=>decide (p.1≠d)
end L2
namespace L2
open PySem PySem.Spec PyProof.Rows
structure Mod (K:W.Frag) (mg:Str->Option Value) (base:Heap):Prop where
 kin:K.In base
 glob:base.Ns mainGlobals mg
 blt:∃ mb,base.Ns builtinsNs mb∧∀ x:Str,x≠"__name__"->mb x=bootBuiltins x
 nolimit:base.NoLimit
structure Cx where
 prog:Program
 w:World
 K:W.Frag
 mg:Str->Option Value
 base:Heap
 A:Around
 N:List Str
 s₀:Shared
 H₀:Hp
 env:Env
 outer:List Env
 stack:List Env
 ex:List Addr
 fn:Str->Bool
 calm:Bool
 pn:List (Addr×Obj)
 xe:Value->Shared->Prop
def frs (l:List Env):List Addr:=l.filterMap (·.frame)
abbrev Cx.fs (X:Cx):List Addr:=frs X.outer
def Vis (sc:Scope) (x:Str):Prop:=sc.names.lookup x=some .local∨sc.names.lookup x=some .cell∨sc.names.lookup x=some .free
def Loc (sc:Scope) (x:Str):Prop:=sc.names.lookup x=some .local∨sc.names.lookup x=some .cell
def zj5 (env:Env) (h:Heap) (m:Str->Option Value) (x:Str) (u:Value):Prop :=
 (env.kindOf x=some .local∧m x=some u)∨((env.kindOf x=some .cell∨env.kindOf x=some .free)∧∃ c,env.cells.lookup x=some c∧h.IsCell c (some u))
structure Cx.Ok (X:Cx):Prop where
 mod:Mod X.K X.mg X.base
 kind:X.env.scope.kind=.function
 glob:X.env.globals=mainGlobals
 blt:X.env.builtins=builtinsNs
 above:X.s₀.heap.objs.size≤X.env.locals
 inj:∀ x y c,X.env.cells.lookup x=some c->X.env.cells.lookup y=some c->x=y
 has:∀ x,(X.env.kindOf x=some .cell∨X.env.kindOf x=some .free)->∃ c,X.env.cells.lookup x=some c
 cab:∀ x c,X.fn x=true->X.env.cells.lookup x=some c->X.s₀.heap.objs.size≤c
 hd:X.calm=true->X.A.handled=none
 frames:X.A.frames=some X.stack
 stk:X.stack=X.outer∨(X.stack=X.env :: X.outer∧X.env.frame=some X.env.locals)
 exf:∀ b∈X.ex,b≠X.env.locals∧∀ x c,X.env.cells.lookup x=some c->c≠b
 bs:∀ b o,X.base.get? b=some o->X.s₀.heap.get? b=some o∧X.H₀ b=none
 bsz:X.base.objs.size≤X.s₀.heap.objs.size
 noex:∀ b o,X.base.get? b=some o->b ∉ X.ex
 exfs:∀ b∈X.ex,b ∉ X.fs
 funs:X.s₀.heap.FunFrames X.base X.outer
 frf:∀ b∈X.fs,X.H₀ b=none
structure Inv (X:Cx) (pins:List (Addr×Obj)) (σ:List (Option V)) (H:Hp) (s:Shared):Prop where
 ok:X.Ok
 os:s.os=X.s₀.os
 bare:AllBare s.gens
 base:Un X.fs X.ex X.H₀ H X.s₀.heap s.heap
 loc:∃ m,s.heap.Ns X.env.locals m∧∀ (i:Nat) (x:Str) (v:V),X.N[i]?=some x->σ[i]?=some (some v)->Vis X.env.scope x->∃ u,RelV v u∧zj5 X.env s.heap m x u
 cell:∀ x c,X.env.cells.lookup x=some c->∃ v,s.heap.IsCell c v
 free:H X.env.locals=none
 freeC:∀ x c,X.env.cells.lookup x=some c->H c=none
 pin:∀ p∈X.pn++pins,s.heap.get? p.1=some p.2∧H p.1=none∧p.1≠X.env.locals∧p.1 ∉ X.fs∧∀ v,p.2.data≠.cell v
 hok:HOk X.prog X.w H s.heap
 len:σ.length=X.N.length
section
variable {X:Cx} {pins:List (Addr×Obj)} {σ:List (Option V)} {H H':Hp} {s:Shared} {h':Heap}
theorem Cx.Ok.nofr (ok:X.Ok) {b:Addr} {o:Obj} (e:X.base.get? b=some o):b ∉ X.fs:=λhb=>by
 have:=(ok.funs.mem hb).1
 rw [e] at this;cases this
theorem Inv.bs (I:Inv X pins σ H s):∀ b o,X.base.get? b=some o->s.heap.get? b=some o∧H b=none:=λb o e =>
 ⟨I.base.keep b o (I.ok.bs b o e).1 (I.ok.bs b o e).2 (I.ok.nofr e) (I.ok.noex b o e),I.base.free b o (I.ok.bs b o e).1 (I.ok.bs b o e).2 (I.ok.noex b o e)⟩
theorem Inv.bk (I:Inv X pins σ H s):∀ b o,X.base.get? b=some o->s.heap.get? b=some o:=λb o e=>(I.bs b o e).1
theorem Inv.mod (I:Inv X pins σ H s):Mod X.K X.mg X.base:=I.ok.mod
theorem Inv.kIn (I:Inv X pins σ H s):X.K.In s.heap:=I.ok.mod.kin.keeps I.bk
theorem Inv.nolimit (I:Inv X pins σ H s):s.heap.NoLimit:=I.ok.mod.nolimit.keeps I.bk
theorem Inv.fr (I:Inv X pins σ H s):∃ m,Fr X.base X.env.locals s.heap m :=
 let ⟨m,hn,_⟩:=I.loc
 ⟨m,hn,I.bk,Nat.le_trans I.ok.bsz I.ok.above⟩
theorem Inv.lt (I:Inv X pins σ H s):X.env.locals<s.heap.objs.size:=let ⟨_,hn,_⟩:=I.loc;hn.lt
theorem Inv.sz (I:Inv X pins σ H s):X.s₀.heap.objs.size≤s.heap.objs.size:=Nat.le_trans I.ok.above (Nat.le_of_lt I.lt)
theorem Inv.nofs (I:Inv X pins σ H s) {a:Addr} (h:s.heap.objs.size≤a):a ∉ X.fs:=λhb=>by
 obtain ⟨_,o,ho,_⟩:=I.ok.funs.mem hb
 exact absurd (Nat.lt_of_lt_of_le (Heap.lt_size ho) (Nat.le_trans I.sz h)) (Nat.lt_irrefl _)
theorem Inv.cne (I:Inv X pins σ H s):∀ x c,X.env.cells.lookup x=some c->c≠X.env.locals:=λx c e z=>by
 obtain ⟨v,o,ho,hd⟩:=I.cell x c e
 obtain ⟨m,⟨o',es,ep,ho',hd',_⟩,_⟩:=I.loc
 rw [z,ho'] at ho;cases ho;rw [hd'] at hd;cases hd
theorem Inv.funs (I:Inv X pins σ H s):s.heap.FunFrames X.base X.outer:=by
 have all:∀ (l:List Env),(∀ b∈frs l,b∈X.fs)->X.s₀.heap.FunFrames X.base l->s.heap.FunFrames X.base l:=by
  intro l
  induction l with
  | nil=>intro _ _;trivial
  | cons env r ih =>
   intro hs hl
   obtain ⟨hk,⟨L,o,hf,hn,ho,hd⟩,hr⟩:=hl
   have hL:L∈X.fs:=hs L (by unfold frs;rw [List.filterMap_cons,hf];exact List.mem_cons_self)
   obtain ⟨sl,e⟩:=I.base.slot L o ho (I.ok.frf L hL) hL λz=>I.ok.exfs L z hL
   exact ⟨hk,⟨L,_,hf,hn,e,hd⟩,ih (λb hb=>hs b (by unfold frs;rw [List.filterMap_cons,hf];exact List.mem_cons_of_mem _ hb)) hr⟩
 exact all X.outer (λ_ hb=>hb) I.ok.funs
theorem Inv.stack (I:Inv X pins σ H s):s.heap.FunFrames X.base X.stack:=by
 rcases I.ok.stk with e | ⟨e,hf⟩
 ·rw [e];exact I.funs
 ·rw [e]
  obtain ⟨m,hn,_⟩:=I.loc
  refine .cons (by rw [I.ok.kind];decide) hf hn ?_ I.funs
  exact Heap.get?_none_of_le (Nat.le_trans I.ok.bsz I.ok.above)
theorem Inv.stkSub (I:Inv X pins σ H s):∀ b∈frs X.stack,b∈X.env.locals :: X.fs:=λb hb=>by
 rcases I.ok.stk with e | ⟨e,hf⟩
 ·rw [e] at hb;exact List.mem_cons_of_mem _ hb
 ·rw [e] at hb
  unfold frs at hb
  rw [List.filterMap_cons,hf] at hb
  exact hb
theorem Inv.stkFree (I:Inv X pins σ H s):∀ b∈frs X.stack,H b=none:=λb hb=>by
 rcases List.mem_cons.mp (I.stkSub b hb) with e | hb
 ·rw [e];exact I.free
 ·obtain ⟨_,o,ho,_⟩:=I.ok.funs.mem hb
  exact I.base.free b o ho (I.ok.frf b hb) λz=>I.ok.exfs b z hb
theorem Inv.step {g':Array GenState} {t':Nat} {d':Drawn} {ch:List Addr} (I:Inv X pins σ H s)
  (hch:∀ b∈ch,(b∈X.ex∨X.s₀.heap.objs.size≤b)∧b≠X.env.locals∧(∀ x c,X.env.cells.lookup x=some c->c≠b)∧∀ p∈X.pn++pins,p.1≠b)
  (keep:∀ b o,b≠X.env.locals->b ∉ X.fs->b ∉ ch->s.heap.get? b=some o->H b=none->h'.get? b=some o)
  (slot:∀ b o,b≠X.env.locals->b∈X.fs->b ∉ ch->s.heap.get? b=some o->H b=none->∃ sl,h'.get? b=some { o with slots:=sl }) (free:∀ b o,b ∉ ch->s.heap.get? b=some o->H b=none->H' b=none)
  (there:∀ b o,b ∉ ch->s.heap.get? b=some o->∃ o',h'.get? b=some o')
  (tups:∀ b xs,H b=some (.tup xs)->H' b=some (.tup xs)) (frzs:∀ b o u,H b=some (.frz o u)->H' b=some (.frz o u)) (tbls:∀ b ps,H b=some (.tbl ps)->∃ more,H' b=some (.tbl (ps++more)))
  (ns:∀ m,s.heap.Ns X.env.locals m->h'.Ns X.env.locals m) (hok:HOk X.prog X.w H' h') (hg:AllBare g') :
  Inv X pins σ H' { s with heap:=h',gens:=g',drawn:=d',toks:=t' }:=by
 have neL:∀ b o,X.s₀.heap.get? b=some o->b≠X.env.locals:=λb o e=>Nat.ne_of_lt (Nat.lt_of_lt_of_le (Heap.lt_size e) I.ok.above)
 have neC:∀ b o,X.s₀.heap.get? b=some o->b ∉ X.ex->b ∉ ch:=λb o e hx hb=>by
  rcases (hch b hb).1 with z | z
  ·exact hx z
  ·exact absurd (Nat.lt_of_lt_of_le (Heap.lt_size e) z) (Nat.lt_irrefl _)
 have cellK:∀ x c,X.env.cells.lookup x=some c->∀ v,s.heap.IsCell c v->h'.IsCell c v:=λx c e v ⟨o,ho,hd⟩=>by
  have nch:c ∉ ch:=λz=>(hch c z).2.2.1 x c e rfl
  by_cases hc:c∈X.fs
  ·obtain ⟨sl,q⟩:=slot c o (I.cne x c e) hc nch ho (I.freeC x c e)
   exact ⟨_,q,hd⟩
  ·exact ⟨o,keep c o (I.cne x c e) hc nch ho (I.freeC x c e),hd⟩
 refine ⟨I.ok,I.os,hg,⟨λb o e n hb hx=>?_,λb o e n hb hx=>?_,λb o e n hx=>?_,λb o e hx=>?_,λb xs e=>tups b xs (I.base.tups b xs e),λb o xs e=>frzs b o xs (I.base.frzs b o xs e),λb ps e=>?_⟩,?_,λx c e=>?_,?_,λx c e=>?_,λp hp=>?_,hok,I.len⟩
 ·exact keep b o (neL b o e) hb (neC b o e hx) (I.base.keep b o e n hb hx) (I.base.free b o e n hx)
 ·obtain ⟨sl,e1⟩:=I.base.slot b o e n hb hx
  obtain ⟨sl',e2⟩:=slot b _ (neL b o e) hb (neC b o e hx) e1 (I.base.free b o e n hx)
  exact ⟨sl',e2⟩
 ·obtain ⟨o',e1⟩:=I.base.there b o e hx
  exact free b o' (neC b o e hx) e1 (I.base.free b o e n hx)
 ·obtain ⟨o',e1⟩:=I.base.there b o e hx
  exact there b o' (neC b o e hx) e1
 ·obtain ⟨m1,e1⟩:=I.base.tbls b ps e
  obtain ⟨m2,e2⟩:=tbls b _ e1
  exact ⟨m1++m2,by rw [e2,Array.append_assoc]⟩
 ·obtain ⟨m,hn,hl⟩:=I.loc
  refine ⟨m,ns m hn,λi x v e1 e2 e3=>?_⟩
  obtain ⟨u,r,l⟩:=hl i x v e1 e2 e3
  refine ⟨u,r,?_⟩
  rcases l with l | ⟨k,c,e,z⟩
  ·exact .inl l
  ·exact .inr ⟨k,c,e,cellK x c e _ z⟩
 ·obtain ⟨v,z⟩:=I.cell x c e
  exact ⟨v,cellK x c e v z⟩
 ·obtain ⟨m,⟨o,_,_,ho,_⟩,_⟩:=I.loc
  exact free _ o (λz=>(hch _ z).2.1 rfl) ho I.free
 ·obtain ⟨v,o,ho,hd⟩:=I.cell x c e
  exact free c o (λz=>(hch c z).2.2.1 x c e rfl) ho (I.freeC x c e)
 ·obtain ⟨e,n,ne,nf,d⟩:=I.pin p hp
  have nch:p.1 ∉ ch:=λz=>(hch p.1 z).2.2.2 p hp rfl
  exact ⟨keep p.1 p.2 ne nf nch e n,free p.1 p.2 nch e n,ne,nf,d⟩
theorem Inv.un {t':Nat} (I:Inv X pins σ H s) (u:Un X.fs [] H H' s.heap h') (hok:HOk X.prog X.w H' h'):Inv X pins σ H' { s with heap:=h',toks:=t' }:=by
 obtain ⟨m,⟨o,es,ep,ho,r⟩,_⟩:=id I.loc
 obtain ⟨sl,hL⟩:=u.any ho I.free (by simp)
 exact I.step (g':=s.gens) (d':=s.drawn) (ch:=[]) (λ_ z=>nomatch z) (λb o _ hb _ e n=>u.keep b o e n hb (by simp)) (λb o _ hb _ e n=>u.slot b o e n hb (by simp)) (λb o _ e n=>u.free b o e n (by simp)) (λb o _ e=>u.there b o e (by simp)) u.tups u.frzs u.tbls (λm' hm=>by
  obtain ⟨o',es',ep',ho',r'⟩:=hm
  rw [ho] at ho';cases ho'
  exact ⟨_,es',ep',hL,r'⟩) hok I.bare
theorem Inv.call {g':Array GenState} {t':Nat} {d':Drawn} {ch:List Addr} (I:Inv X pins σ H s) (u:Un (frs X.stack) ch H H' s.heap h') (hok:HOk X.prog X.w H' h') (hg:AllBare g')
  (hch:∀ b∈ch,(b∈X.ex∨X.s₀.heap.objs.size≤b)∧b≠X.env.locals∧(∀ x c,X.env.cells.lookup x=some c->c≠b)∧∀ p∈X.pn++pins,p.1≠b) :
  Inv X pins σ H' { s with heap:=h',gens:=g',drawn:=d',toks:=t' }:=by
 obtain ⟨m,⟨o,es,ep,ho,r⟩,_⟩:=id I.loc
 obtain ⟨sl,hL⟩:=u.any ho I.free λz=>(hch _ z).2.1 rfl
 exact I.step (ch:=ch) hch (λb o hL hb hc e n=>u.keep b o e n (λz=>(List.mem_cons.mp (I.stkSub b z)).elim hL hb) hc) (λb o _ _ hc e n=>u.any e n hc) (λb o hc e n=>u.free b o e n hc) (λb o hc e=>u.there b o e hc) u.tups u.frzs u.tbls (λm' hm=>by
  obtain ⟨o',es',ep',ho',r'⟩:=hm
  rw [ho] at ho';cases ho'
  exact ⟨_,es',ep',hL,r'⟩) hok hg
theorem Inv.turned {t':Nat} {it:Addr} (I:Inv X pins σ H s) (k:∀ b o,b≠it->s.heap.get? b=some o->h'.get? b=some o) (hn:H it=none) (hL:it≠X.env.locals)
  (h1:it∈X.ex∨X.s₀.heap.objs.size≤it) (h2:∀ x c,X.env.cells.lookup x=some c->c≠it) (h3:∀ p∈X.pn++pins,p.1≠it):Inv X pins σ H { s with heap:=h',toks:=t' }:=by
 have nit:∀ b u,H b=some u->b≠it:=λb u e z=>by rw [z,hn] at e;cases e
 refine I.step (g':=s.gens) (d':=s.drawn) (ch:=[it]) (λb hb=>?_) (λb o _ _ hc e _=>k b o (λz=>hc (by simp [z])) e) (λb o _ _ hc e _=>⟨o.slots,k b o (λz=>hc (by simp [z])) e⟩) (λ_ _ _ _ n=>n)
  (λb o hc e=>⟨o,k b o (λz=>hc (by simp [z])) e⟩) (λ_ _ e=>e) (λ_ _ _ e=>e) (λb ps e=>⟨#[],by rw [e];simp⟩) (λm hm=>?_) (λb u e=>?_) I.bare
 ·have e:b=it:=by simpa using hb
  subst e
  exact ⟨h1,hL,h2,h3⟩
 ·obtain ⟨o,es,ep,ho,r⟩:=hm
  exact ⟨o,es,ep,k _ o (Ne.symm hL) ho,r⟩
 ·refine (I.hok b u e).stay (λc v hc q=>k c v ?_ q) (λ_ q=>q) λ_ _ q=>q
  rcases hc with z | z
  ·rw [z];exact nit b u e
  ·exact nit c _ z
theorem Inv.tok (I:Inv X pins σ H s) (t:Nat):Inv X pins σ H { s with toks:=t }:=I.un (h':=s.heap) (t':=t) Un.refl I.hok
theorem Inv.kept {t':Nat} (I:Inv X pins σ H s) (k:∀ b u,s.heap.get? b=some u->h'.get? b=some u):Inv X pins σ H { s with heap:=h',toks:=t' }:=I.un (Un.kept k) (I.hok.kept k)
theorem Inv.laid {a:Addr} {o:HO} {t':Nat} (I:Inv X pins σ H s) (k:∀ b u,s.heap.get? b=some u->h'.get? b=some u) (hp:s.heap.objs.size≤a) (new:zbX X.prog X.w (upd H a o) h' a o) :
  Inv X pins σ (upd H a o) { s with heap:=h',toks:=t' }:=I.un (Un.laid k hp (I.hok.fresh hp)) (I.hok.laid k hp new)
theorem Inv.write {x e:Addr} {o:HO} {t':Nat} (I:Inv X pins σ H s) (mu:Mut (H x)) (he:e=x∨H e=some (.own x)) (k:∀ b u,b≠e->s.heap.get? b=some u->h'.get? b=some u) (heo:∃ u,h'.get? e=some u)
  (new:zbX X.prog X.w (upd H x o) h' x o):Inv X pins σ (upd H x o) { s with heap:=h',toks:=t' }:=I.un (Un.write mu he k heo) (I.hok.write mu he k heo new)
theorem Inv.pins_of {pins':List (Addr×Obj)} (I:Inv X pins σ H s) (h:∀ p∈pins',s.heap.get? p.1=some p.2∧H p.1=none∧p.1≠X.env.locals∧p.1 ∉ X.fs∧∀ v,p.2.data≠.cell v):Inv X pins' σ H s :=
 ⟨I.ok,I.os,I.bare,I.base,I.loc,I.cell,I.free,I.freeC,λp hp=>(List.mem_append.mp hp).elim (λz=>I.pin p (List.mem_append_left _ z)) (h p),I.hok,I.len⟩
theorem nodup_ix {N:List Str} (hN:N.Nodup) {i j:Nat} {x:Str} (a:N[i]?=some x) (b:N[j]?=some x):i=j:=by
 obtain ⟨h1,e1⟩:=List.getElem?_eq_some_iff.mp a
 obtain ⟨h2,e2⟩:=List.getElem?_eq_some_iff.mp b
 exact (List.getElem_inj hN).mp (e1.trans e2.symm)
theorem zep {M:Model} {A:Around} {E:Value->Shared->Prop} {i:Nat} {x:Str} {v:V} {u:Value} {Q:Unit->Shared->Prop} (I:Inv X pins σ H s) (hN:X.N.Nodup) (hi:X.N[i]?=some x) (hx:Loc X.env.scope x) (r:RelV v u)
  (h:∀ s',Inv X pins (σ.set i (some v)) H s'->(∃ a,Heap.SameBut a s.heap s'.heap∧(a=X.env.locals∨X.env.cells.lookup x=some a))->Q () s') (hf:X.fn x=true∨X.env.scope.names.lookup x=some .local:=by first | exact .inl rfl | exact .inr rfl | assumption):wpAny M A (storeName X.env x u) Q E s:=by
 obtain ⟨m,hn,hl⟩:=id I.loc
 have hcls:(X.env.scope.kind == .class||(X.env.scope.kind == .module&&X.env.locals != X.env.globals))=false:=by rw [I.ok.kind];rfl
 have hiσ:i<σ.length:=by rw [I.len];exact (List.getElem?_eq_some_iff.mp hi).1
 have cne:=I.cne
 have tracked:∀ {a:Addr} {h':Heap},(∃ o,s.heap.get? a=some o∧H a=none)->Heap.SameBut a s.heap h'->HOk X.prog X.w H h':=λ{a h'} ha hs b ob e=>by
  obtain ⟨_,_,hfree⟩:=ha
  refine (I.hok b ob e).stay (λc w' hc q=>(hs.2 c ?_).trans q) (λ_ q=>q) λ_ _ q=>q
  rintro rfl
  rcases hc with rfl | hc
  ·rw [hfree] at e;cases e
  ·rw [hfree] at hc;cases hc
 rcases hx with hk | hk
 ·refine wpAny_storeName_local hk hn (λh' hn' hs=>?_) hcls
  obtain ⟨oL,_,_,hoL,_⟩:=id hn
  refine h _ ⟨I.ok,I.os,I.bare,⟨λb o e n hb hx=>?_,λb o e n hb hx=>?_,I.base.free,λb o e hx=>?_,I.base.tups,I.base.frzs,I.base.tbls⟩,⟨_,hn',λj y v' e1 e2 e3=>?_⟩,λy c e=>?_,I.free,I.freeC,λp hp=>?_,tracked ⟨oL,hoL,I.free⟩ hs,by simpa using I.len⟩ ⟨_,hs,.inl rfl⟩
  ·exact (hs.2 b (Nat.ne_of_lt (Nat.lt_of_lt_of_le (Heap.lt_size e) I.ok.above))).trans (I.base.keep b o e n hb hx)
  ·obtain ⟨sl,e1⟩:=I.base.slot b o e n hb hx
   exact ⟨sl,(hs.2 b (Nat.ne_of_lt (Nat.lt_of_lt_of_le (Heap.lt_size e) I.ok.above))).trans e1⟩
  ·obtain ⟨o',e1⟩:=I.base.there b o e hx
   exact ⟨o',(hs.2 b (Nat.ne_of_lt (Nat.lt_of_lt_of_le (Heap.lt_size e) I.ok.above))).trans e1⟩
  ·by_cases hj:j=i
   ·subst hj
    rw [hi] at e1;cases e1
    rw [List.getElem?_set_self hiσ] at e2
    cases e2
    exact ⟨u,r,.inl ⟨hk,by simp⟩⟩
   ·rw [List.getElem?_set_ne (Ne.symm hj)] at e2
    obtain ⟨u',r',q⟩:=hl j y v' e1 e2 e3
    refine ⟨u',r',?_⟩
    rcases q with ⟨k,e⟩ | ⟨k,c,e,z⟩
    ·refine .inl ⟨k,?_⟩
     have:y≠x:=λe=>hj (nodup_ix hN e1 (e ▸ hi))
     simp [this,e]
    ·exact .inr ⟨k,c,e,z.sameBut hs (cne y c e)⟩
  ·obtain ⟨w',z⟩:=I.cell y c e
   exact ⟨w',z.sameBut hs (cne y c e)⟩
  ·obtain ⟨e,n,ne,nf,d⟩:=I.pin p hp
   exact ⟨(hs.2 p.1 ne).trans e,n,ne,nf,d⟩
 ·have hfn:X.fn x=true:=by
   rcases hf with z | z
   ·exact z
   ·rw [z] at hk;cases hk
  obtain ⟨c,hc⟩:=I.ok.has x (.inl hk)
  obtain ⟨w',z⟩:=I.cell x c hc
  refine wpAny_storeName_cell I.ok.kind hk hc z (λh' hc' hs=>?_)
  obtain ⟨oc,hoc,hocd⟩:=id z
  refine h { s with heap:=h' } ⟨I.ok,I.os,I.bare,⟨λb o e n hb hx=>?_,λb o e n hb hx=>?_,I.base.free,λb o e hx=>?_,I.base.tups,I.base.frzs,I.base.tbls⟩,⟨m,hn.sameBut hs (Ne.symm (cne x c hc)),λj y v' e1 e2 e3=>?_⟩,λy c' e=>?_,I.free,I.freeC,λp hp=>?_,tracked ⟨oc,hoc,I.freeC x c hc⟩ hs,by simpa using I.len⟩ ⟨c,hs,.inr hc⟩
  ·exact (hs.2 b (Nat.ne_of_lt (Nat.lt_of_lt_of_le (Heap.lt_size e) (I.ok.cab x c hfn hc)))).trans (I.base.keep b o e n hb hx)
  ·obtain ⟨sl,e1⟩:=I.base.slot b o e n hb hx
   exact ⟨sl,(hs.2 b (Nat.ne_of_lt (Nat.lt_of_lt_of_le (Heap.lt_size e) (I.ok.cab x c hfn hc)))).trans e1⟩
  ·obtain ⟨o',e1⟩:=I.base.there b o e hx
   exact ⟨o',(hs.2 b (Nat.ne_of_lt (Nat.lt_of_lt_of_le (Heap.lt_size e) (I.ok.cab x c hfn hc)))).trans e1⟩
  ·by_cases hj:j=i
   ·subst hj
    rw [hi] at e1;cases e1
    rw [List.getElem?_set_self hiσ] at e2
    cases e2
    exact ⟨u,r,.inr ⟨.inl hk,c,hc,hc'⟩⟩
   ·rw [List.getElem?_set_ne (Ne.symm hj)] at e2
    obtain ⟨u',r',q⟩:=hl j y v' e1 e2 e3
    refine ⟨u',r',?_⟩
    rcases q with q | ⟨k,c',e,z'⟩
    ·exact .inl q
    ·refine .inr ⟨k,c',e,z'.sameBut hs ?_⟩
     rintro rfl
     exact hj (nodup_ix hN e1 (I.ok.inj _ _ _ e hc ▸ hi))
  ·by_cases hcc:c'=c
   ·subst hcc;exact ⟨_,hc'⟩
   ·obtain ⟨w2,z2⟩:=I.cell y c' e
    exact ⟨w2,z2.sameBut hs hcc⟩
  ·obtain ⟨e,n,ne,nf,d⟩:=I.pin p hp
   refine ⟨(hs.2 p.1 ?_).trans e,n,ne,nf,d⟩
   intro q
   rw [q,hoc] at e
   have q':oc=p.2:=Option.some.inj e
   exact d w' (by rw [← q'];exact hocd)
theorem store_ok {M:Model} {A:Around} {E:Value->Shared->Prop} {i:Nat} {x:Str} {v:V} {u:Value} {Q:Unit->Shared->Prop} (I:Inv X pins σ H s) (hN:X.N.Nodup) (hi:X.N[i]?=some x) (hx:Loc X.env.scope x) (r:RelV v u)
  (h:∀ s',Inv X pins (σ.set i (some v)) H s'->Q () s') (hf:X.fn x=true∨X.env.scope.names.lookup x=some .local:=by first | exact .inl rfl | exact .inr rfl | assumption):wpAny M A (storeName X.env x u) Q E s :=
 zep I hN hi hx r (λs' I' _=>h s' I') hf
theorem Inv.call' {s':Shared} {ch:List Addr} (I:Inv X pins σ H s) (ho:s'.os=s.os) (u:Un (frs X.stack) ch H H' s.heap s'.heap) (hok:HOk X.prog X.w H' s'.heap) (hg:AllBare s'.gens)
  (hch:∀ b∈ch,(b∈X.ex∨X.s₀.heap.objs.size≤b)∧b≠X.env.locals∧(∀ x c,X.env.cells.lookup x=some c->c≠b)∧∀ p∈X.pn++pins,p.1≠b):Inv X pins σ H' s':=by
 obtain ⟨h',g',d',t',o'⟩:=s'
 have e:o'=s.os:=ho
 subst e
 exact I.call (g':=g') (t':=t') (d':=d') u hok hg hch
end
abbrev XK:=Value->Option Addr->Hp->Prop
abbrev St:=List (Option V)
abbrev VK:=V->Hp->Prop
abbrev TE:=St->Hp->VK->Prop
abbrev TT:=St->Hp->(Bool->Hp->Prop)->Prop
abbrev TA:=St->Hp->(List V->Hp->Prop)->Prop
structure Ends where
 nx:St->Hp->Prop
 rt:VK
 bk:St->Hp->Prop:=λ_ _=>False
 ct:St->Hp->Prop:=λ_ _=>False
abbrev TS:=Ends->St->Hp->Prop
def EP (X:Cx) (pins:List (Addr×Obj)) (σ:St) (Q:VK) (u:Value) (s':Shared):Prop:=∃ v H',Inv X pins σ H' s'∧RelV v u∧Q v H'
def TP (X:Cx) (pins:List (Addr×Obj)) (σ:St) (Q:Bool->Hp->Prop) (b:Bool) (s':Shared):Prop:=∃ H',Inv X pins σ H' s'∧Q b H'
def AP (X:Cx) (pins:List (Addr×Obj)) (σ:St) (Q:List V->Hp->Prop) (us:List Value) (s':Shared):Prop:=∃ vs H',Inv X pins σ H' s'∧Vals vs us∧Q vs H'
def SP (X:Cx) (pins:List (Addr×Obj)) (D:Ends) (f:Flow) (s':Shared):Prop :=
 match f with
 | .next=>∃ σ' H',Inv X pins σ' H' s'∧D.nx σ' H'
 | .brk=>∃ σ' H',Inv X pins σ' H' s'∧D.bk σ' H'
 | .cont=>∃ σ' H',Inv X pins σ' H' s'∧D.ct σ' H'
 | .ret u=>∃ v σ' H',Inv X pins σ' H' s'∧RelV v u∧D.rt v H'
def PE (X:Cx) (e:Expr) (t:TE):Prop :=
 ∀ (pins:List (Addr×Obj)) (s:Shared) (σ:St) (H:Hp) (Q:VK),Inv X pins σ H s->t σ H Q->wpAny (model X.prog X.w) X.A (eval e X.env) (EP X pins σ Q) X.xe s
def PT (X:Cx) (e:Expr) (t:TT):Prop :=
 ∀ (pins:List (Addr×Obj)) (s:Shared) (σ:St) (H:Hp) (Q:Bool->Hp->Prop),Inv X pins σ H s->t σ H Q->wpAny (model X.prog X.w) X.A (isTrue e X.env (eval e X.env)) (TP X pins σ Q) X.xe s
def PW (X:Cx) (e:Expr) (t:TT):Prop :=
 ∀ (whole:Sem Value) (pins:List (Addr×Obj)) (s:Shared) (σ:St) (H:Hp) (Q:Bool->Hp->Prop),Inv X pins σ H s->t σ H Q->wpAny (model X.prog X.w) X.A (isTrue e X.env whole) (TP X pins σ Q) X.xe s
theorem PW.pt {X:Cx} {e:Expr} {t:TT} (h:PW X e t):PT X e t:=h _
def PA (X:Cx) (es:List Expr) (t:TA):Prop :=
 ∀ (pos:Pos) (pins:List (Addr×Obj)) (s:Shared) (σ:St) (H:Hp) (Q:List V->Hp->Prop),Inv X pins σ H s->t σ H Q->wpAny (model X.prog X.w) X.A (spliced (backTo pos (starEach es X.env))) (AP X pins σ Q) X.xe s
def PS (X:Cx) (st:Stmt) (t:TS):Prop :=
 ∀ (pins:List (Addr×Obj)) (s:Shared) (σ:St) (H:Hp) (D:Ends),Inv X pins σ H s->t D σ H->wpAny (model X.prog X.w) X.A (exec st X.env) (SP X pins D) X.xe s
def PSs (X:Cx) (st:List Stmt) (t:TS):Prop :=
 ∀ (pins:List (Addr×Obj)) (s:Shared) (σ:St) (H:Hp) (D:Ends),Inv X pins σ H s->t D σ H->wpAny (model X.prog X.w) X.A (execs st X.env) (SP X pins D) X.xe s
theorem thn {α:Type} {t:Sem α} {Q Q':α->Shared->Prop} {M:Model} {A:Around} {E:Value->Shared->Prop} {s:Shared} (h:wpAny M A t Q E s) (hQ:∀ a s,Q a s->Q' a s):wpAny M A t Q' E s:=wpAny_mono h hQ λ_ _ x=>x
end L2
namespace L2
open PySem PySem.Spec PyProof.Rows
section
variable {X:Cx}
theorem bin {a b:Expr} {ta tb:TE} (ha:PE X a ta) (hb:PE X b tb) {pins:List (Addr×Obj)} {s:Shared} {σ:St} {H:Hp} {R:V->V->Hp->Prop} (I:Inv X pins σ H s) (h:ta σ H λx H1=>tb σ H1 λy H2=>R x y H2)
  {α:Type} {Q:α->Shared->Prop} {f:Value->Value->Sem α}
  (hf:∀ v u s2 x y H2,Inv X pins σ H2 s2->RelV x v->RelV y u->R x y H2->wpAny (model X.prog X.w) X.A (f v u) Q X.xe s2) :
  wpAny (model X.prog X.w) X.A (eval a X.env) (λv s₁=>wpAny (model X.prog X.w) X.A (eval b X.env) (λu s₂=>wpAny (model X.prog X.w) X.A (f v u) Q X.xe s₂) X.xe s₁) X.xe s:=by
 refine thn (ha pins s σ H _ I h) λv s1 ⟨x,H1,I1,r1,q1⟩=>?_
 refine thn (hb pins s1 σ H1 _ I1 q1) λu s2 ⟨y,H2,I2,r2,q2⟩=>?_
 exact hf v u s2 x y H2 I2 r1 r2 q2
def tVar (i:Nat):TE:=λσ H Q=>∃ v,σ[i]?=some (some v)∧Q v H
def tC (v:V):TE:=λ_ H Q=>Q v H
theorem pe_var {i:Nat} {x:Str} {pos:Pos} (hN:X.N[i]?=some x) (hv:Vis X.env.scope x) (hd:(x == ("__debug__":Str))=false:=by decide) (hcd:(x == ("__classdict__":Str))=false:=by decide):PE X (.Name x pos) (tVar i):=by
 intro pins s σ H Q I h
 obtain ⟨v,e,h⟩:=h
 obtain ⟨m,hn,hl⟩:=I.loc
 obtain ⟨u,r,l⟩:=hl i x v hN e hv
 have fin:EP X pins σ Q u s:=⟨v,H,I,r,h⟩
 rcases l with ⟨hk,hm⟩ | ⟨hk,c,hc,hcell⟩
 ·exact wpAny_Name (wpAny_loadName_local I.ok.kind hk hn hm fin) hd
 ·rcases hk with hk | hk
  ·exact wpAny_Name (wpAny_loadName_cell I.ok.kind hk hc hcell fin) hd
  ·exact wpAny_Name (wpAny_loadName_free I.ok.kind hk hc hcell fin hcd) hd
theorem pe_int {i j pos}:PE X (.Constant (.int i) j pos) (tC (.int i)):=λ_ _ _ H _ I h=>wpAny_Constant_int ⟨.int i,H,I.tok _,⟨_,rfl⟩,h⟩
theorem zds {b j pos}:PE X (.Constant (.bool b) j pos) (tC (.bl b)):=λ_ _ _ H _ I h=>Constant_bool ⟨.bl b,H,I,rfl,h⟩
theorem zf8 {j pos}:PE X (.Constant .none j pos) (tC .non):=λ_ _ _ H _ I h=>Constant_none ⟨.non,H,I,rfl,h⟩
theorem za9 {x j pos}:PE X (.Constant (.str x) j pos) (tC (.str x)):=λ_ _ _ H _ I h=>Calls.Constant_str ⟨.str x,H,I.tok _,⟨_,rfl⟩,h⟩
def Gl (X:Cx) (x:Str):Prop:=X.env.kindOf x=some .globalImplicit
theorem ld_glob {E:Value->Shared->Prop} {pins:List (Addr×Obj)} {s:Shared} {σ:St} {H:Hp} {x:Str} {u:Value} {pos:Pos} {Q:Value->Shared->Prop} (I:Inv X pins σ H s) (hg:Gl X x) (hm:X.mg x=some u) (h:Q u s)
  (hd:(x == ("__debug__":Str))=false:=by decide):wpAny (model X.prog X.w) X.A (eval (.Name x pos) X.env) Q E s :=
 Calls.Name_function_global I.ok.kind hg (Calls.loadGlobal_global (by rw [I.ok.glob];exact I.mod.glob.keeps I.bk) hm h) hd
theorem ld_blt {E:Value->Shared->Prop} {pins:List (Addr×Obj)} {s:Shared} {σ:St} {H:Hp} {x:Str} {u:Value} {pos:Pos} {Q:Value->Shared->Prop} (I:Inv X pins σ H s) (hg:Gl X x) (hm:X.mg x=none) (hv:bootBuiltins x=some u) (h:Q u s)
  (hn:x≠"__name__":=by decide) (hd:(x == ("__debug__":Str))=false:=by decide):wpAny (model X.prog X.w) X.A (eval (.Name x pos) X.env) Q E s:=by
 obtain ⟨mb,h1,h2⟩:=I.mod.blt
 exact Calls.Name_function_global I.ok.kind hg (Calls.loadGlobal_builtin (by rw [I.ok.glob];exact I.mod.glob.keeps I.bk) hm (by rw [I.ok.blt];exact h1.keeps I.bk) ((h2 x hn).trans hv) h) hd
theorem pe_glob {x:Str} {v:V} {u:Value} {pos:Pos} (hg:Gl X x) (hm:X.mg x=some u) (r:RelV v u) (hd:(x == ("__debug__":Str))=false:=by decide):PE X (.Name x pos) (tC v) :=
 λ_ _ _ H _ I h=>ld_glob I hg hm ⟨v,H,I,r,h⟩ hd
theorem pe_bltn {x:Str} {v:V} {u:Value} {pos:Pos} (hg:Gl X x) (hm:X.mg x=none) (hv:bootBuiltins x=some u) (r:RelV v u) (hn:x≠"__name__":=by decide) (hd:(x == ("__debug__":Str))=false:=by decide):PE X (.Name x pos) (tC v) :=
 λ_ _ _ H _ I h=>ld_blt I hg hm hv ⟨v,H,I,r,h⟩ hn hd
variable {a b:Expr} {ta tb:TE} {pos:Pos}
def PC (X:Cx) (op:CmpOp) (a b:Expr) (t:TE):Prop :=
 ∀ (pins:List (Addr×Obj)) (s:Shared) (σ:St) (H:Hp) (Q:VK),Inv X pins σ H s->t σ H Q →
  wpAny (model X.prog X.w) X.A (eval a X.env) (λv s₁=>wpAny (model X.prog X.w) X.A (eval b X.env) (λu s₂=>wpAny (model X.prog X.w) X.A (compareOp op v u) (EP X pins σ Q) X.xe s₂) X.xe s₁) X.xe s
theorem zg9 (b:Expr) {op:CmpOp} (h:op≠.In) (h2:op≠.NotIn):behindInMarks op b=false:=by
 have e1:(op == CmpOp.In)=false:=by cases op<;>first | rfl | exact absurd rfl h
 have e2:(op == CmpOp.NotIn)=false:=by cases op<;>first | rfl | exact absurd rfl h2
 cases b<;>simp [behindInMarks,e1,e2]
def tB (t:TE):TT:=λσ H Q=>t σ H λx H1=>∃ c,x=.bl c∧Q c H1
theorem zkc {op:CmpOp} {t:TE} (h:PC X op a b t) (h1:behindInMarks op b=false:=by first | exact zg9 _ (by decide) (by decide) | rfl):PT X (.Compare a [op] [b] pos) (tB t):=by
 intro pins s σ H Q I hw
 refine wpAny_isTrue_Compare1 (thn (h pins s σ H _ I hw) λv s1 h1=>thn h1 λu s2 h2=>thn h2 λc s3 ⟨x,H1,I1,r1,q1⟩=>?_) h1
 obtain ⟨d,rfl,q⟩:=q1
 cases r1
 exact wpAny_truthy_bool ⟨H1,I1,q⟩
theorem pt_val {e:Expr} {t:TE} (h:PE X e t) (he:∀ whole,isTrue e X.env whole=(do let v ← whole;standAt e.pos;holding [v] (truthy v)):=by intro _;rfl):PT X e (tB t):=by
 intro pins s σ H Q I hw
 refine isTrue_plain (thn (h pins s σ H _ I hw) λv s1 ⟨x,H1,I1,r1,q1⟩=>?_) (he _)
 obtain ⟨d,rfl,q⟩:=q1
 cases r1
 exact wpAny_truthy_bool ⟨H1,I1,q⟩
variable {tA tB':TT} {rest:List Expr}
def zj6 (t u:TT):TT:=λσ H Q=>t σ H λc H1=>if c=true then u σ H1 Q else Q false H1
def tOr (t u:TT):TT:=λσ H Q=>t σ H λc H1=>if c=true then Q true H1 else u σ H1 Q
def zkf (t:TT):TT:=λσ H Q=>t σ H λc H1=>Q (!c) H1
theorem ze4 (ha:PT X a tA):PW X (.BoolOp .And [a] pos) tA:=by
 intro wh pins s σ H Q I h
 refine isTrue_and (thn (ha pins s σ H Q I h) λc s1 e=>?_)
 cases c with
 | true=>exact isTrue_and_nil e
 | false=>exact e
theorem pw_or1 (ha:PT X a tA):PW X (.BoolOp .Or [a] pos) tA:=by
 intro wh pins s σ H Q I h
 refine isTrue_or (thn (ha pins s σ H Q I h) λc s1 e=>?_)
 cases c with
 | false=>exact isTrue_or_nil e
 | true=>exact e
theorem zf6 (ha:PT X a tA) (hb:PW X (.BoolOp .And (b :: rest) pos) tB'):PW X (.BoolOp .And (a :: b :: rest) pos) (zj6 tA tB'):=by
 intro wh pins s σ H Q I h
 refine isTrue_and (thn (ha pins s σ H _ I h) λc s1 ⟨H1,I1,q1⟩=>?_)
 cases c with
 | true=>exact hb wh pins s1 σ H1 Q I1 q1
 | false=>exact ⟨H1,I1,q1⟩
theorem zfJ (ha:PT X a tA) (hb:PW X (.BoolOp .Or (b :: rest) pos) tB'):PW X (.BoolOp .Or (a :: b :: rest) pos) (tOr tA tB'):=by
 intro wh pins s σ H Q I h
 refine isTrue_or (thn (ha pins s σ H _ I h) λc s1 ⟨H1,I1,q1⟩=>?_)
 cases c with
 | true=>exact ⟨H1,I1,q1⟩
 | false=>exact hb wh pins s1 σ H1 Q I1 q1
theorem pt_not (ha:PT X a tA):PT X (.UnaryOp .Not a pos) (zkf tA):=by
 intro pins s σ H Q I h
 exact isTrue_not (ha pins s σ H (λc H1=>Q (!c) H1) I h)
def zjk (ta tb:TE):TE:=λσ H Q=>ta σ H λx H1=>∃ c,x=.bl c∧if c=true then tb σ H1 Q else Q (.bl false) H1
def zi3 (ta:TE):TE:=λσ H Q=>ta σ H λx H1=>∃ c,x=.bl c∧Q (.bl (!c)) H1
theorem pe_one {op} {t:TE} (h:PE X a t):PE X (.BoolOp op [a] pos) t:=λpins s σ H Q I hw=>BoolOp_one (h pins s σ H Q I hw)
theorem zfp (ha:PE X a ta) (hb:PE X (.BoolOp .And (b :: rest) pos) tb):PE X (.BoolOp .And (a :: b :: rest) pos) (zjk ta tb):=by
 intro pins s σ H Q I h
 refine BoolOp_and (thn (ha pins s σ H _ I h) λv s1 ⟨x,H1,I1,r1,q1⟩=>?_)
 obtain ⟨c,rfl,q1⟩:=q1
 cases r1
 refine wpAny_truthy_bool ?_
 cases c with
 | true=>exact hb pins s1 σ H1 Q I1 q1
 | false=>exact ⟨.bl false,H1,I1,rfl,q1⟩
theorem pe_not (ha:PE X a ta):PE X (.UnaryOp .Not a pos) (zi3 ta):=by
 intro pins s σ H Q I h
 refine UnaryOp_ (thn (ha pins s σ H _ I h) λv s1 ⟨x,H1,I1,r1,q1⟩=>?_)
 obtain ⟨c,rfl,q1⟩:=q1
 cases r1
 exact not_of (wpAny_truthy_bool ⟨.bl (!c),H1,I1,rfl,q1⟩)
end
end L2
namespace L2
open PySem PySem.Spec PyProof.Rows
def SqL (K:W.Frag) (H:Hp) (a:Addr) (xs:List V):Prop :=
 Rd H a (.lst xs) ∨
  ∃ (o:Obj) (its:Array Value) (n:Nat),K.lookup a=some o∧o.cls=.type "list"∧o.dict=none∧o.data=.seq its n∧its.size≤sizeLine∧Vals xs its.toList
def SqT (K:W.Frag) (H:Hp) (a:Addr) (xs:List V):Prop :=
 Rd H a (.tup xs) ∨
  ∃ (o:Obj) (its:Array Value) (n:Nat),K.lookup a=some o∧o.cls=.type "tuple"∧o.data=.seq its n∧its.size≤sizeLine∧Vals xs its.toList
def zkp:Value->Option V
 | .none=>some .non
 | .bool b=>some (.bl b)
 | .int i _=>some (.int i)
 | .str x _=>some (.str x)
 | .bytes b _=>some (.byt b)
 | .float b _=>some (.flt b)
 | .ref a=>some (.ref a)
 | .type n=>some (.ty n)
 | _=>none
theorem RelV.abs {x:V} {u:Value} (r:RelV x u):zkp u=some x:=by
 cases x with
 | non=>cases r;rfl
 | bl _=>cases r;rfl
 | int _=>obtain ⟨t,rfl⟩:=r;rfl
 | str _=>obtain ⟨t,rfl⟩:=r;rfl
 | byt _=>obtain ⟨t,rfl⟩:=r;rfl
 | flt _=>obtain ⟨t,rfl⟩:=r;rfl
 | ref _=>cases r;rfl
 | ty _=>cases r;rfl
theorem RelV.inj {x y:V} {u:Value} (r:RelV x u) (q:RelV y u):x=y:=Option.some.inj (r.abs.symm.trans q.abs)
theorem Vals.inj:∀ {xs ys:List V} {us:List Value},Vals xs us->Vals ys us->xs=ys
 | _,_,_,.nil,.nil=>rfl
 | _,_,_,.cons r t,.cons r' t'=>by rw [r.inj r',Vals.inj t t']
section
variable {X:Cx} {pins:List (Addr×Obj)} {σ:St} {H:Hp} {s:Shared} {a:Addr} {xs ys:List V}
theorem SqL.of {K:W.Frag} (h:H a=some (.lst xs)):SqL K H a xs:=.inl (.inl h)
theorem Inv.list (I:Inv X pins σ H s) (h:SqL X.K H a xs):∃ its:List Value,Vals xs its∧PlainL s.heap a its.toArray∧xs.length≤sizeLine:=by
 rcases h with h | ⟨o,its,n,hk,hc,hd,hs,hz,r⟩
 ·obtain ⟨z,its,n,r,e⟩:=h.ok I.hok
  exact ⟨its,r,⟨_,n,e,rfl,rfl,rfl⟩,z⟩
 ·refine ⟨its.toList,r,⟨o,n,I.kIn a o hk,hc,hd,by simpa using hs⟩,?_⟩
  have e:=r.length
  simp only [Array.length_toList] at e
  omega
theorem Inv.tuple (I:Inv X pins σ H s) (h:SqT X.K H a xs):∃ its:List Value,Vals xs its∧IsTup s.heap a its.toArray∧xs.length≤sizeLine:=by
 rcases h with h | ⟨o,its,n,hk,hc,hs,hz,r⟩
 ·obtain ⟨z,its,r,p⟩:=h.ok I.hok
  exact ⟨its,r,p,z⟩
 ·refine ⟨its.toList,r,⟨o,I.kIn a o hk,hc,n,by simpa using hs⟩,?_⟩
  have e:=r.length
  simp only [Array.length_toList] at e
  omega
theorem Inv.list_inj (I:Inv X pins σ H s) (h:SqL X.K H a xs) (h':SqL X.K H a ys):xs=ys:=by
 obtain ⟨its,r,⟨o,n,e,_,_,d⟩,_⟩:=I.list h
 obtain ⟨its',r',⟨o',n',e',_,_,d'⟩,_⟩:=I.list h'
 rw [e] at e';cases e'
 rw [d] at d'
 injection d' with d1 _
 have:its=its':=by simpa using congrArg Array.toList d1
 subst this
 exact r.inj r'
end
abbrev Cx.wish (X:Cx) (E:Value->Shared->Prop):Cx:={ X with xe:=E }
abbrev Cx.nox (X:Cx):Cx:=X.wish λ_ _=>False
theorem Cx.Ok.wish {X:Cx} (ok:X.Ok) (E:Value->Shared->Prop):(X.wish E).Ok :=
 ⟨ok.mod,ok.kind,ok.glob,ok.blt,ok.above,ok.inj,ok.has,ok.cab,ok.hd,ok.frames,ok.stk,ok.exf,ok.bs,ok.bsz,ok.noex,ok.exfs,ok.funs,ok.frf⟩
theorem Cx.Ok.unwish {X:Cx} {E:Value->Shared->Prop} (ok:(X.wish E).Ok):X.Ok :=
 ⟨ok.mod,ok.kind,ok.glob,ok.blt,ok.above,ok.inj,ok.has,ok.cab,ok.hd,ok.frames,ok.stk,ok.exf,ok.bs,ok.bsz,ok.noex,ok.exfs,ok.funs,ok.frf⟩
section
variable {X:Cx} {pins:List (Addr×Obj)} {σ:St} {H:Hp} {s:Shared} {E:Value->Shared->Prop}
theorem Inv.wish (I:Inv X pins σ H s) (E:Value->Shared->Prop):Inv (X.wish E) pins σ H s:=⟨I.ok.wish E,I.os,I.bare,I.base,I.loc,I.cell,I.free,I.freeC,I.pin,I.hok,I.len⟩
theorem Inv.unwish (I:Inv (X.wish E) pins σ H s):Inv X pins σ H s:=⟨I.ok.unwish,I.os,I.bare,I.base,I.loc,I.cell,I.free,I.freeC,I.pin,I.hok,I.len⟩
theorem SP.unwish {D:Ends} {f:Flow} {s':Shared} (h:SP (X.wish E) pins D f s'):SP X pins D f s':=by
 cases f with
 | next=>obtain ⟨σ',H',I,q⟩:=h;exact ⟨σ',H',I.unwish,q⟩
 | brk=>obtain ⟨σ',H',I,q⟩:=h;exact ⟨σ',H',I.unwish,q⟩
 | cont=>obtain ⟨σ',H',I,q⟩:=h;exact ⟨σ',H',I.unwish,q⟩
 | ret u=>obtain ⟨v,σ',H',I,r,q⟩:=h;exact ⟨v,σ',H',I.unwish,r,q⟩
end
section
variable {X:Cx} {st:Stmt} {rest:List Stmt} {t u:TS} {e:Expr} {te:TE} {pos:Pos}
def zhh:TS:=λD σ H=>D.nx σ H
def tSeq (t u:TS):TS:=λD σ H=>t { D with nx:=u D } σ H
theorem zag:PSs X [] zhh:=λ_ _ σ H _ I h=>wpAny_execs_nil ⟨σ,H,I,h⟩
theorem zac (h1:PS X st t) (h2:PSs X rest u):PSs X (st :: rest) (tSeq t u):=by
 intro pins s σ H D I h
 refine wpAny_execs_cons (thn (h1 pins s σ H { D with nx:=u D } I h) λf s1 q=>?_)
 cases f with
 | next =>
  obtain ⟨σ',H',I',q⟩:=q
  exact h2 pins s1 σ' H' D I' q
 | ret v=>exact q
 | brk=>exact q
 | cont=>exact q
theorem zhX (h1:PS X st t):PSs X [st] t:=by
 intro pins s σ H D I h
 refine wpAny_execs_cons (thn (h1 pins s σ H D I h) λf s1 q=>?_)
 cases f with
 | next=>exact wpAny_execs_nil q
 | ret v=>exact q
 | brk=>exact q
 | cont=>exact q
theorem Inv.quiet {pins:List (Addr×Obj)} {σ:St} {H:Hp} {s:Shared} (I:Inv X pins σ H s):interactive X.env=false:=by simp [interactive,I.ok.kind]
def tDrop (te:TE):TS:=λD σ H=>te σ H λ_ H1=>D.nx σ H1
theorem zeh (he:PE X e te) (hs:swapsWith e none pos.line X.env=pure false:=by rfl):PS X (.Expr e pos) (tDrop te):=by
 intro pins s σ H D I h
 exact wpAny_Expr_any (thn (he pins s σ H _ I h) λv s1 ⟨x,H1,I1,r1,q1⟩=>⟨σ,H1,I1,q1⟩) I.quiet hs
def zgY (te:TE):TS:=λD σ H=>te σ H D.rt
theorem zau (he:PE X e te):PS X (.Return (some e) pos) (zgY te):=by
 intro pins s σ H D I h
 exact wpAny_Return_some (thn (he pins s σ H _ I h) λv s1 ⟨x,H1,I1,r1,q1⟩=>⟨x,σ,H1,I1,r1,q1⟩)
def ziz (c:TT) (t u:TS):TS:=λD σ H=>c σ H λb H1=>if b=true then t D σ H1 else u D σ H1
theorem zbI {c:Expr} {a b:List Stmt} {tc:TT} (hc:PT X c tc) (ha:PSs X a t) (hb:PSs X b u):PS X (.If c a b pos) (ziz tc t u):=by
 intro pins s σ H D I h
 refine wpAny_If (thn (hc pins s σ H _ I h) λd s1 ⟨H1,I1,q1⟩=>?_)
 cases d with
 | true=>exact ha pins s1 σ H1 D I1 q1
 | false=>exact hb pins s1 σ H1 D I1 q1
def zi2:TS:=λ_ _ _=>False
theorem zfG:PS X st zi2:=λ_ _ _ _ _ _ h=>h.elim
end
abbrev TG:=V->St->Hp->(St->Hp->Prop)->Prop
abbrev TGs:=List V->St->Hp->(St->Hp->Prop)->Prop
def PG (X:Cx) (target:Expr) (t:TG):Prop :=
 ∀ (pins:List (Addr×Obj)) (s:Shared) (σ:St) (H:Hp) (v:V) (u:Value) (Q:St->Hp->Prop),Inv X pins σ H s->RelV v u->t v σ H Q →
  wpAny (model X.prog X.w) X.A (assign target X.env u) (λ_ s'=>∃ σ' H',Inv X pins σ' H' s'∧Q σ' H') X.xe s
def PGs (X:Cx) (ts:List Expr) (t:TGs):Prop :=
 ∀ (pins:List (Addr×Obj)) (s:Shared) (σ:St) (H:Hp) (vs:List V) (us:List Value) (Q:St->Hp->Prop),Inv X pins σ H s->Vals vs us->t vs σ H Q →
  wpAny (model X.prog X.w) X.A (assignInOrder ((assignEach ts X.env).map (·.2)) us) (λ_ s'=>∃ σ' H',Inv X pins σ' H' s'∧Q σ' H') X.xe s
section
variable {X:Cx} {pos:Pos}
def zcM (i:Nat):TG:=λv σ H Q=>Q (σ.set i (some v)) H
theorem pg_name {i:Nat} {x:Str} (hN:X.N.Nodup) (hi:X.N[i]?=some x) (hx:Loc X.env.scope x) (hf:X.fn x=true∨X.env.scope.names.lookup x=some .local:=by first | exact .inl rfl | exact .inr rfl | assumption):PG X (.Name x pos) (zcM i):=by
 intro pins s σ H v u Q I r h
 exact wpAny_assign_Name (store_ok I hN hi hx r (λs' I'=>⟨_,H,I',h⟩) hf)
def zjC:TGs:=λvs σ H Q=>vs=[]∧Q σ H
def ze1 (t:TG) (u:TGs):TGs:=λvs σ H Q=>∃ v r,vs=v :: r∧t v σ H λσ' H'=>u r σ' H' Q
theorem ze3:PGs X [] zjC:=by
 intro pins s σ H vs us Q I r h
 obtain ⟨e,h⟩:=h
 subst e
 cases r
 exact assignInOrder_nil ⟨σ,H,I,h⟩
theorem zcT {e:Expr} {es:List Expr} {t:TG} {u:TGs} (h1:PG X e t) (h2:PGs X es u)
  (hs:(assignEach (e :: es) X.env).map (·.2)=assign e X.env :: (assignEach es X.env).map (·.2):=by rfl):PGs X (e :: es) (ze1 t u):=by
 intro pins s σ H vs us Q I r h
 obtain ⟨v,vr,e1,h⟩:=h
 subst e1
 cases r with
 | cons r rr =>
  rw [hs]
  refine assignInOrder_cons (thn (h1 pins s σ H _ _ _ I r h) λ_ s1 ⟨σ1,H1,I1,q1⟩=>?_)
  exact h2 pins s1 σ1 H1 _ _ Q I1 rr q1
def ziS (K:W.Frag) (n:Nat) (t:TGs):TG:=λv σ H Q=>∃ a xs,v=.ref a∧SqT K H a xs∧xs.length=n∧t xs σ H Q
theorem zjm {es:List Expr} {k:Nat} {t:TGs} {n:Nat} (hc:X.calm=true) (h:PGs X es t)
  (hn:(assignEach es X.env).length=n:=by rfl) (hst:(assignEach es X.env).findIdx? (·.1)=none:=by rfl):PG X (.Tuple es k pos) (ziS X.K n t):=by
 intro pins s σ H v u Q I r hw
 obtain ⟨a,xs,e1,hq,hl,hw⟩:=hw
 subst e1
 cases r
 obtain ⟨its,rv,ht,hz⟩:=I.tuple hq
 refine assign_Tuple_tuple (I.ok.hd hc) ht (by simp [hn,← hl,rv.length]) hst λh' hx=>?_
 have I1:Inv X pins σ H { s with heap:=h' }:=I.kept (t':=s.toks) λb o e=>hx b o (Nat.ne_of_lt (Heap.lt_size e)) e
 exact h pins _ σ H xs _ Q I1 (by simpa using rv) hw
def zhj (te:TE) (g:TG):TS:=λD σ H=>te σ H λx H1=>g x σ H1 D.nx
theorem zjd {tg e:Expr} {te:TE} {g:TG} (he:PE X e te) (hg:PG X tg g) (hs:swapsWithSole [tg] e pos.line X.env=pure false:=by rfl) (hw:swappedStores [tg] e X.env=pure none:=by rfl)
  (h1:(assignEach [tg] X.env).map (·.2)=[assign tg X.env]:=by rfl):PS X (.Assign [tg] e pos) (zhj te g):=by
 intro pins s σ H D I h
 refine wpAny_Assign_stores (thn (he pins s σ H _ I h) λv s1 ⟨x,H1,I1,r1,q1⟩=>?_) hs hw
 rw [h1]
 exact thn (hg pins s1 σ H1 x v _ I1 r1 q1) λ_ s2 q=>q
theorem zaB {i:Nat} {x:Str} {e:Expr} {te:TE} {pos':Pos} (hN:X.N.Nodup) (hi:X.N[i]?=some x) (hx:Loc X.env.scope x) (he:PE X e te) (hs:swapsWith e (some (.Name x pos')) pos.line X.env=pure false:=by rfl) (hf:X.fn x=true∨X.env.scope.names.lookup x=some .local:=by first | exact .inl rfl | exact .inr rfl | assumption) :
  PS X (.Assign [.Name x pos'] e pos) (zhj te (zcM i)):=by
 intro pins s σ H D I h
 refine wpAny_Assign_Name (thn (he pins s σ H _ I h) λv s1 ⟨y,H1,I1,r1,q1⟩=>?_) hs
 exact store_ok I1 hN hi hx r1 (λs2 I2=>⟨_,H1,I2,q1⟩) hf
end
section
variable {X:Cx} {pos:Pos}
end
structure It where
 go:Nat->Hp->Prop
 yld:Nat->Hp->V->Hp->Prop
 stop:Nat->Hp->Prop
def FpOk (X:Cx) (pins:List (Addr×Obj)) (H:Hp) (b:Addr):Prop :=
 H b=none∧b≠X.env.locals∧b ∉ X.fs∧(b∈X.ex∨X.s₀.heap.objs.size≤b)∧(∀ x c,X.env.cells.lookup x=some c->c≠b)∧∀ p∈X.pn++pins,p.1≠b
theorem Inv.fpOk {X:Cx} {pins:List (Addr×Obj)} {σ:St} {H H':Hp} {s:Shared} {b:Addr} (I:Inv X pins σ H s) (hb:s.heap.objs.size≤b) (hn:H' b=none):FpOk X pins H' b:=by
 refine ⟨hn,Nat.ne_of_gt (Nat.lt_of_lt_of_le I.lt hb),I.nofs hb,.inr (Nat.le_trans I.sz hb),λx c e z=>?_,λp hp z=>?_⟩
 ·obtain ⟨v,q⟩:=I.cell x c e
  exact absurd (Nat.lt_of_lt_of_le q.lt (by rw [z];exact hb)) (Nat.lt_irrefl _)
 ·exact absurd (Nat.lt_of_lt_of_le (Heap.lt_size (I.pin p hp).1) (by rw [z];exact hb)) (Nat.lt_irrefl _)
structure Turn (P:Program) (w:World) (K:W.Frag) (tg:Expr) (J:It) (fp:List Addr) (it:Addr) (tn:Nat->Heap->Prop):Prop where
 mem:it∈fp
 obj:∀ i h,tn i h->∀ b∈fp,∃ o,h.get? b=some o∧∀ v,o.data≠.cell v
 keep:∀ i h h',tn i h->(∀ b∈fp,∀ o,h.get? b=some o->h'.get? b=some o)->tn i h'
 item:∀ (X:Cx),X.prog=P->X.w=w->X.K=K->X.calm=true->∀ (i:Nat) (pins:List (Addr×Obj)) (s:Shared) (σ:St) (H:Hp) (E:Value->Shared->Prop),Inv X pins σ H s->(∀ b∈fp,FpOk X pins H b)->tn i s.heap->J.go i H →
  wpAny (model P w) X.A (pyNext (.ref it)) (λr s1=>∃ u,r=some u ∧
   wpAny (model P w) X.A (letOwnedTupleGo tg (.ref it) u) (λ_ s2=>∃ x H',Inv X pins σ H' s2∧RelV x u∧J.yld i H x H'∧tn (i+1) s2.heap∧∀ b∈fp,H' b=none) E s1) E s
 done:∀ (X:Cx),X.prog=P->X.w=w->X.K=K->X.calm=true->∀ (i:Nat) (pins:List (Addr×Obj)) (s:Shared) (σ:St) (H:Hp) (E:Value->Shared->Prop),Inv X pins σ H s->(∀ b∈fp,FpOk X pins H b)->tn i s.heap->J.stop i H →
  wpAny (model P w) X.A (pyNext (.ref it)) (λr s1=>r=none∧Inv X pins σ H s1) E s
 self:∀ (A:Around) (i:Nat) (s:Shared) (Q:Value->Shared->Prop) (E:Value->Shared->Prop),tn i s.heap->Q (.ref it) s->wpAny (model P w) A (pyIter (.ref it)) Q E s
abbrev TI:=St->Hp->(It->Hp->Prop)->Prop
def PIE (X:Cx) (pins:List (Addr×Obj)) (σ:St) (tg:Expr) (R:It->Hp->Prop) (itv:Value) (s2:Shared):Prop :=
 ∃ (it:Addr) (fp:List Addr) (tn:Nat->Heap->Prop) (J:It) (H':Hp),itv=.ref it∧Inv X pins σ H' s2∧Turn X.prog X.w X.K tg J fp it tn∧tn 0 s2.heap∧(∀ b∈fp,FpOk X pins H' b)∧R J H'
def PI (X:Cx) (tg iter:Expr) (wi:TI):Prop :=
 ∀ (pins:List (Addr×Obj)) (s:Shared) (σ:St) (H:Hp) (R:It->Hp->Prop),Inv X pins σ H s->wi σ H R →
  wpAny (model X.prog X.w) X.A (eval iter X.env) (λv s1=>wpAny (model X.prog X.w) X.A (pyIter v) (PIE X pins σ tg R) X.xe s1) X.xe s
theorem ziN {M:Model} {A:Around} {E:Value->Shared->Prop} {s:Shared} {tg:Expr} {it:Addr} {u:Value} {o:Obj} {n:String} {vs:Array Value} {Q:Unit->Shared->Prop} (ho:s.heap.get? it=some o) (hc:o.cls=.type n) (hd:o.data=.fields vs)
  (hn:["enumerate","zip","dict_itemiterator","dict_reverseitemiterator","odict_iterator","itertools.zip_longest","itertools.pairwise"].contains n=false) (hQ:Q () s):wpAny M A (letOwnedTupleGo tg (.ref it) u) Q E s:=by
 unfold letOwnedTupleGo
 cases tg<;>first
  | exact wpAny_pure hQ
  | (cases u<;>first
    | exact wpAny_pure hQ
    | (refine wpAny_bind (wpAny_load ho ?_)
       rw [hc,hd]
       show wpAny M A (if (["enumerate","zip","dict_itemiterator","dict_reverseitemiterator","odict_iterator","itertools.zip_longest","itertools.pairwise"].contains n&&vs[0]? == some (rawInt _))=true then _ else _) Q E s
       rw [if_neg (by intro h;rw [hn,Bool.false_and] at h;cases h)]
       exact wpAny_pure hQ))
def Itl (K:W.Frag) (a:Addr):It :=
 ⟨λi H=>∃ xs x,SqL K H a xs∧xs[i]?=some x,λi H x H'=>H'=H∧∀ xs,SqL K H a xs->xs[i]?=some x,λi H=>∃ xs,SqL K H a xs∧xs.length≤i⟩
def Itr (lo:Int) (n:Nat):It:=⟨λi _=>i<n,λi H x H'=>H'=H∧x=.int (lo+i),λi _=>n≤i⟩
theorem zgu {P:Program} {w:World} {K:W.Frag} {tg:Expr} (a it:Addr):Turn P w K tg (Itl K a) [it] it (λi h=>h.IsListIter it a i) where
 mem:=by simp
 obj:=λi h st b hb=>by
  have e:b=it:=by simpa using hb
  subst e
  obtain ⟨o,e,c,d⟩:=st
  exact ⟨o,e,λv z=>by rw [d] at z;cases z⟩
 keep:=λi h h' st k=>st.at λo e=>k it (by simp) o e
 item:=by
  intro X hP hw hK hc i pins s σ H E I hf st hg
  subst hP hw hK
  obtain ⟨xs,x,hq,hx⟩:=hg
  obtain ⟨its,rv,p,hz⟩:=I.list hq
  obtain ⟨u,hu,ru⟩:=rv.get hx
  obtain ⟨f0,f1,f2,f3,f4,f5⟩:=hf it (by simp)
  refine wpAny_pyNext_list_item st p.isList (x:=u) (by simpa using hu) λh' st' sb=>?_
  have I1:Inv X pins σ H { s with heap:=h' }:=I.turned (t':=s.toks) (λb o hb e=>(sb.2 b hb).trans e) f0 f1 f3 f4 f5
  obtain ⟨o,e,c,d⟩:=id st'
  exact ⟨u,rfl,ziN (s:={ s with heap:=h' }) e c d (by decide) ⟨x,H,I1,ru,⟨rfl,λys hy=>by rw [I.list_inj hy hq];exact hx⟩,st',λb hb=>(hf b hb).1⟩⟩
 done:=by
  intro X hP hw hK hc i pins s σ H E I hf st hg
  subst hP hw hK
  obtain ⟨xs,hq,hx⟩:=hg
  obtain ⟨its,rv,p,hz⟩:=I.list hq
  obtain ⟨f0,f1,f2,f3,f4,f5⟩:=hf it (by simp)
  have hl:=rv.length
  exact wpAny_pyNext_list_end (I.ok.hd hc) st p.isList (by simp;omega) λh' eb=>⟨rfl,I.turned (t':=s.toks) (λb o hb e=>eb b o hb e) f0 f1 f3 f4 f5⟩
 self:=λ_ _ _ _ _ st h=>wpAny_pyIter_listiter st h
theorem zfT {P:Program} {w:World} {K:W.Frag} {tg:Expr} (it:Addr) (lo:Int) (n:Nat):Turn P w K tg (Itr lo n) [it] it (λi h=>IsRangeIter h it (lo+(i:Nat)*1) ((n:Int)-(i:Nat)) 1) where
 mem:=by simp
 obj:=λi h st b hb=>by
  have e:b=it:=by simpa using hb
  subst e
  exact ⟨_,st,λv z=>by
   have z':Data.fields _=Data.cell v:=z
   cases z'⟩
 keep:=λi h h' st k=>k it (by simp) _ st
 item:=by
  intro X hP hw hK hc i pins s σ H E I hf st hg
  subst hP hw hK
  obtain ⟨f0,f1,f2,f3,f4,f5⟩:=hf it (by simp)
  have W:=Walks.range (prog:=X.prog) (w:=X.w) (I.ok.hd hc) it lo 1 n
  refine W.item i s _ _ hg st λv h' tk hv st' kk=>?_
  obtain ⟨t,rfl⟩:=hv
  have I1:Inv X pins σ H { s with heap:=h',toks:=tk }:=I.turned (λb o hb e=>kk b o (by simpa using hb) e) f0 f1 f3 f4 f5
  refine ⟨_,rfl,ziN (s:={ s with heap:=h',toks:=tk }) (n:="range_iterator") st' rfl rfl (by decide) ⟨.int (lo+i),H,I1,⟨t,?_⟩,⟨rfl,rfl⟩,st',λb hb=>(hf b hb).1⟩⟩
  rw [Int.mul_one]
 done:=by
  intro X hP hw hK hc i pins s σ H E I hf st hg
  subst hP hw hK
  obtain ⟨f0,f1,f2,f3,f4,f5⟩:=hf it (by simp)
  exact wpAny_pyNext_range_end (I.ok.hd hc) st (by have:n≤i:=hg;omega) λh' eb=>⟨rfl,I.turned (t':=s.toks) (λb o hb e=>eb b o hb e) f0 f1 f3 f4 f5⟩
 self:=λ_ _ _ _ _ st h=>wpAny_pyIter_rangeiter st h
end L2
namespace L2
open PySem PySem.Spec PyProof.Rows
section
variable {X:Cx} {tg:Expr}
def zii (K:W.Frag) (tl:TE):TI:=λσ H R=>tl σ H λx H1=>∃ a,x=.ref a∧(∃ xs,SqL K H1 a xs)∧R (Itl K a) H1
theorem zid {l:Expr} {tl:TE} (hl:PE X l tl):PI X tg l (zii X.K tl):=by
 intro pins s σ H R I h
 refine thn (hl pins s σ H _ I h) λv s1 ⟨x,H1,I1,r1,q1⟩=>?_
 obtain ⟨a,e,⟨xs,hq⟩,q⟩:=q1
 subst e
 cases r1
 obtain ⟨its,rv,p,hz⟩:=I1.list hq
 refine wpAny_pyIter_list p.isList ?_
 refine ⟨s1.heap.objs.size,[s1.heap.objs.size],_,_,H1,rfl,I1.kept (t':=s1.toks) λb o e=>Heap.get?_push_of_some _ e,zgu a _,⟨_,Heap.get?_push_size _ rfl,rfl,rfl⟩,λb hb=>?_,q⟩
 have e:b=s1.heap.objs.size:=by simpa using hb
 subst e
 exact I1.fpOk (Nat.le_refl _) (I1.hok.fresh (Nat.le_refl _))
theorem zhd {pins:List (Addr×Obj)} {σ:St} {H:Hp} {s:Shared} {R:It->Hp->Prop} {E:Value->Shared->Prop} {lo hi:Int} {t u v:Tok} {tk:Nat} (I:Inv X pins σ H s) (h1:-(2^62)≤lo) (h2:lo<2^62) (h3:-(2^62)≤hi) (h4:hi<2^62)
  (q:R (Itr lo (hi-lo).toNat) H):wpAny (model X.prog X.w) X.A (pyIter (.ref s.heap.objs.size)) (PIE X pins σ tg R) E { s with heap:=s.heap.push { cls:=.type "range",data:=.fields #[.int lo t,.int hi u,.int 1 v] },toks:=tk }:=by
 refine wpAny_pyIter_range (IsRange.new ..) (small_one h1 h2 h3 h4) ?_
 have I1:Inv X pins σ H { s with heap:=s.heap.push { cls:=.type "range",data:=.fields #[.int lo t,.int hi u,.int 1 v] },toks:=tk }:=I.kept λb o e=>Heap.get?_push_of_some _ e
 refine ⟨(s.heap.push { cls:=.type "range",data:=.fields #[.int lo t,.int hi u,.int 1 v] }).objs.size,[(s.heap.push { cls:=.type "range",data:=.fields #[.int lo t,.int hi u,.int 1 v] }).objs.size],_,_,H,rfl,
  I1.kept (t':=tk) λb o e=>Heap.get?_push_of_some _ e,zfT _ lo (hi-lo).toNat,?_,λb hb=>?_,q⟩
 ·have e1:lo+((0:Nat):Int)*1=lo:=by simp
  have e2:(((hi-lo).toNat:Nat):Int)-((0:Nat):Int)=Builtin.Range.rangeSize lo hi 1:=by rw [rangeSize_one];split<;>omega
  show IsRangeIter _ _ (lo+((0:Nat):Int)*1) ((((hi-lo).toNat:Nat):Int)-((0:Nat):Int)) 1
  rw [e1,e2]
  exact Heap.get?_push_size _ rfl
 ·have e:b=(s.heap.push { cls:=.type "range",data:=.fields #[.int lo t,.int hi u,.int 1 v] }).objs.size:=by simpa using hb
  subst e
  exact I1.fpOk (Nat.le_refl _) (I1.hok.fresh (Nat.le_refl _))
def zjj (ta:TA):TI:=λσ H R=>ta σ H λvs H1=>∃ j:Int,vs=[.int j]∧-(2^62)≤j∧j<2^62∧R (Itr 0 j.toNat) H1
theorem zdi {a:Expr} {ta:TA} {p pos:Pos} (hg:Gl X "range") (hm:X.mg "range"=none) (ha:PA X [a] ta) (hs:starEach [a] X.env=[(false,eval a X.env)]:=by rfl):PI X tg (.Call (.Name "range" p) [a] [] pos) (zjj ta):=by
 intro pins s σ H R I h
 refine Call_ (ld_blt I hg hm boot_range (PyProof.Rows.callWith_type1 (thn (ha pos pins s σ H _ I h) λus s1 ⟨vs,H1,I1,r1,q1⟩=>?_) hs rfl))
 obtain ⟨j,e,q1,q2,q⟩:=q1
 subst e
 cases r1 with
 | cons r rr =>
  cases rr
  obtain ⟨t,rfl⟩:=r
  exact call_range_1 (zhd I1 (by omega) (by omega) q1 q2 (by simpa using q))
def zjI (wi:TI) (g:TG) (tb:TS):TS:=λD σ H=>wi σ H λJ H1=>∃ W:Nat->Nat->St->Hp->Prop,(∃ m,W 0 m σ H1)∧∀ i m σ H,W i m σ H →
 (J.stop i H∧D.nx σ H)∨(J.go i H∧∃ N:St->Hp->Prop,(∀ σ' H',N σ' H'->∃ m',m'<m∧W (i+1) m' σ' H')∧∀ x H',J.yld i H x H'->g x σ H' λσ2 H2=>tb { D with nx:=N,ct:=N,bk:=D.nx } σ2 H2)
def zey (fp:List Addr) (h:Heap):List (Addr×Obj):=fp.filterMap λb=>(h.get? b).map λo=>(b,o)
theorem zcS {fp:List Addr} {h:Heap} {b:Addr} {o:Obj} (hb:b∈fp) (e:h.get? b=some o):(b,o)∈zey fp h:=List.mem_filterMap.mpr ⟨b,hb,by rw [e];rfl⟩
theorem zgd {fp:List Addr} {h:Heap} {p:Addr×Obj} (hp:p∈zey fp h):p.1∈fp∧h.get? p.1=some p.2:=by
 obtain ⟨b,hb,e⟩:=List.mem_filterMap.mp hp
 cases q:h.get? b with
 | none=>rw [q] at e;cases e
 | some o =>
  rw [q] at e
  have e':(b,o)=p:=Option.some.inj e
  subst e'
  exact ⟨hb,q⟩
theorem Inv.pinned {pins:List (Addr×Obj)} {σ:St} {H:Hp} {s:Shared} {fp:List Addr} (I:Inv X pins σ H s) (hf:∀ b∈fp,FpOk X pins H b) (ho:∀ b∈fp,∃ o,s.heap.get? b=some o∧∀ v,o.data≠.cell v):Inv X (pins++zey fp s.heap) σ H s :=
 I.pins_of λp hp=>(List.mem_append.mp hp).elim (λz=>I.pin p (List.mem_append_right _ z)) λz=>by
  obtain ⟨hb,e⟩:=zgd z
  obtain ⟨f0,f1,f2,_⟩:=hf p.1 hb
  obtain ⟨o,e',d⟩:=ho p.1 hb
  rw [e] at e';cases e'
  exact ⟨e,f0,f1,f2,d⟩
theorem Inv.unpinned {pins pl:List (Addr×Obj)} {σ:St} {H:Hp} {s:Shared} (I:Inv X (pins++pl) σ H s):Inv X pins σ H s:=I.pins_of λp hp=>I.pin p (List.mem_append_right _ (List.mem_append_left _ hp))
theorem zfx {iter:Expr} {body:List Stmt} {wi:TI} {g:TG} {tb:TS} {pos:Pos} (hp:PassesOwn (model X.prog X.w) X.A X.env X.xe) (hc:X.calm=true) (hi:PI X tg iter wi) (hg:PG X tg g) (hb:PSs X body tb)
  (hs:∀ x,foldedSetIterable iter X.env x=pure x:=by intro _;rfl):PS X (.For tg iter body [] pos) (zjI wi g tb):=by
 intro pins s σ H D I h
 refine wpAny_For (thn (hi pins s σ H _ I h) λv s1 h1=>thn h1 λitv s2 h2=>?_) hs
 obtain ⟨it,fp,tn,J,H2,e,I2,T,st2,f2,W,⟨m0,w0⟩,turn⟩:=h2
 subst e
 have stat:∀ {H':Hp},(∀ b∈fp,H' b=none)->∀ b∈fp,FpOk X pins H' b:=λhn b hb=>⟨hn b hb,(f2 b hb).2⟩
 refine codeAny_forLoop_any (λn s'=>∃ i σ' H',Inv X pins σ' H' s'∧tn i s'.heap∧(∀ b∈fp,H' b=none)∧W i n σ' H') ?_ m0 ⟨0,σ,H2,I2,st2,λb hb=>(f2 b hb).1,w0⟩
 rintro n s3 ⟨i,σ3,H3,I3,st3,fr3,w3⟩
 rcases turn i n σ3 H3 w3 with ⟨stop,qn⟩ | ⟨go,N,hN,step⟩
 ·refine wpAny_passesOwn hp (thn (T.done X rfl rfl rfl hc i pins s3 σ3 H3 X.xe I3 (stat fr3) st3 stop) λr s4 ⟨hr,I4⟩=>?_)
  subst hr
  exact wpAny_execs_nil ⟨σ3,H3,I4,qn⟩
 ·refine wpAny_passesOwn hp (thn (T.item X rfl rfl rfl hc i pins s3 σ3 H3 X.xe I3 (stat fr3) st3 go) λr s4 ⟨u,hr,h4⟩=>?_)
  subst hr
  refine wpAny_passesOwn hp (thn h4 λ_ s5 ⟨x,H5,I5,r5,y5,st5,fr5⟩=>?_)
  have I5':=I5.pinned (stat fr5) (T.obj _ _ st5)
  refine wpAny_passesOwn hp (thn (hg _ s5 σ3 H5 x u _ I5' r5 (step x H5 y5)) λ_ s6 ⟨σ6,H6,I6,q6⟩=>?_)
  refine wpAny_passesOwn hp (thn (hb _ s6 σ6 H6 _ I6 q6) λf s7 q7=>?_)
  have again:∀ {σ7:St} {H7:Hp},Inv X (pins++zey fp s5.heap) σ7 H7 s7->N σ7 H7->∃ m,m<n∧∃ i σ' H',Inv X pins σ' H' s7∧tn i s7.heap∧(∀ b∈fp,H' b=none)∧W i m σ' H':=λ{σ7 H7} I7 n7=>by
   obtain ⟨m',hm,w7⟩:=hN σ7 H7 n7
   refine ⟨m',hm,i+1,σ7,H7,I7.unpinned,T.keep _ _ _ st5 λb hb o e=>(I7.pin (b,o) (List.mem_append_right _ (List.mem_append_right _ (zcS hb e)))).1,λb hb=>?_,w7⟩
   obtain ⟨o,e,d⟩:=T.obj _ _ st5 b hb
   exact (I7.pin (b,o) (List.mem_append_right _ (List.mem_append_right _ (zcS hb e)))).2.1
  cases f with
  | next=>obtain ⟨σ7,H7,I7,n7⟩:=q7;exact again I7 n7
  | cont=>obtain ⟨σ7,H7,I7,n7⟩:=q7;exact again I7 n7
  | brk=>obtain ⟨σ7,H7,I7,q7⟩:=q7;exact ⟨σ7,H7,I7.unpinned,q7⟩
  | ret v=>obtain ⟨x7,σ7,H7,I7,r7,q7⟩:=q7;exact ⟨x7,σ7,H7,I7.unpinned,r7,q7⟩
end
end L2
namespace L2
open PySem PySem.Spec PyProof.Rows
abbrev R2:=V->V->Hp->VK->Prop
def OpR (X:Cx) (f:Value->Value->Sem Value) (r:R2):Prop :=
 ∀ (pins:List (Addr×Obj)) (s:Shared) (σ:St) (H:Hp) (x y:V) (v u:Value) (Q:VK),Inv X pins σ H s->RelV x v->RelV y u->r x y H Q →
  wpAny (model X.prog X.w) X.A (f v u) (EP X pins σ Q) X.xe s
def zc6 (X:Cx) (f:Value) (r:List V->Hp->VK->Prop):Prop :=
 ∀ (pins:List (Addr×Obj)) (s:Shared) (σ:St) (H:Hp) (xs:List V) (us:List Value) (Q:VK),Inv X pins σ H s->Vals xs us->r xs H Q →
  wpAny (model X.prog X.w) X.A (call f us) (EP X pins σ Q) X.xe s
def tOp (r:R2) (ta tb:TE):TE:=λσ H Q=>ta σ H λx H1=>tb σ H1 λy H2=>r x y H2 Q
def rI (C:Int->Int->Prop) (g:Int->Int->V):R2:=λx y H Q=>∃ i j,x=.int i∧y=.int j∧C i j∧Q (g i j) H
def rI0 (g:Int->Int->V):R2:=λx y H Q=>∃ i j,x=.int i∧y=.int j∧Q (g i j) H
section
variable {X:Cx} {a b c:Expr} {ta tb tc:TE} {pos:Pos}
theorem binT (ha:PE X a ta) (hb:PE X b tb) {pins:List (Addr×Obj)} {s:Shared} {σ:St} {H:Hp} {R:V->V->Hp->Prop} (I:Inv X pins σ H s)
  (h:ta σ H λx H1=>tb σ H1 λy H2=>R x y H2) {Q:Value->Shared->Prop} {f:Value->Value->Sem Value}
  (hf:∀ v u s2 x y H2,Inv X pins σ H2 s2->RelV x v->RelV y u->R x y H2->wpAny (model X.prog X.w) X.A (f v u) Q X.xe s2) :
  wpAny (model X.prog X.w) X.A (eval a X.env) (λv s₁=>wpAny (model X.prog X.w) X.A (eval b X.env) (λu s₂=>wpAny (model X.prog X.w) X.A (f v u) Q X.xe s₂) X.xe s₁) X.xe s:=by
 refine thn (ha pins s σ H _ I h) λv s1 ⟨x,H1,I1,r1,q1⟩=>?_
 refine thn (hb pins s1 σ H1 _ I1 q1) λu s2 ⟨y,H2,I2,r2,q2⟩=>?_
 exact hf v u s2 x y H2 I2 r1 r2 q2
theorem zal {op:Operator} {r:R2} (ho:OpR X (binaryOp op) r) (ha:PE X a ta) (hb:PE X b tb):PE X (.BinOp a op b pos) (tOp r ta tb):=by
 intro pins s σ H Q I h
 exact wpAny_BinOp (binT ha hb I h λv u s2 x y H2 I2 rx ry q=>ho pins s2 σ H2 x y v u Q I2 rx ry q)
theorem opI {f:Value->Value->Sem Value} {C:Int->Int->Prop} {g:Int->Int->Int}
  (rule:∀ (i j:Int) (t u:Tok) (s:Shared) (Q:Value->Shared->Prop) (E:Value->Shared->Prop),C i j->Q (.int (g i j) s.toks) { s with toks:=s.toks+1 }->wpAny (model X.prog X.w) X.A (f (.int i t) (.int j u)) Q E s) :
  OpR X f (rI C λi j=>.int (g i j)):=by
 intro pins s σ H x y v u Q I rx ry h
 obtain ⟨i,j,rfl,rfl,hc,q⟩:=h
 obtain ⟨t,rfl⟩:=rx
 obtain ⟨t',rfl⟩:=ry
 exact rule i j t t' s _ _ hc ⟨.int (g i j),H,I.tok _,⟨_,rfl⟩,q⟩
theorem zj4 {f:Value->Value->Sem Value} {g:Int->Int->Int}
  (rule:∀ (i j:Int) (t u:Tok) (s:Shared) (Q:Value->Shared->Prop) (E:Value->Shared->Prop),Q (.int (g i j) s.toks) { s with toks:=s.toks+1 }->wpAny (model X.prog X.w) X.A (f (.int i t) (.int j u)) Q E s) :
  OpR X f (rI0 λi j=>.int (g i j)):=by
 intro pins s σ H x y v u Q I rx ry h
 obtain ⟨i,j,rfl,rfl,q⟩:=h
 obtain ⟨t,rfl⟩:=rx
 obtain ⟨t',rfl⟩:=ry
 exact rule i j t t' s _ _ ⟨.int (g i j),H,I.tok _,⟨_,rfl⟩,q⟩
theorem zke {f:Value->Value->Sem Value} {g:Int->Int->Bool}
  (rule:∀ (i j:Int) (t u:Tok) (s:Shared) (Q:Value->Shared->Prop) (E:Value->Shared->Prop),Q (.bool (g i j)) s->wpAny (model X.prog X.w) X.A (f (.int i t) (.int j u)) Q E s) :
  OpR X f (rI0 λi j=>.bl (g i j)):=by
 intro pins s σ H x y v u Q I rx ry h
 obtain ⟨i,j,rfl,rfl,q⟩:=h
 obtain ⟨t,rfl⟩:=rx
 obtain ⟨t',rfl⟩:=ry
 exact rule i j t t' s _ _ ⟨.bl (g i j),H,I,rfl,q⟩
def zkn (i j:Int):Prop:=0≤j∧j≤1000000∧i.natAbs<2^64
theorem zcC:OpR X (binaryOp .Add) (rI0 λi j=>.int (i+j)):=zj4 λ_ _ _ _ _ _ _ q=>add_int q
theorem zdv:OpR X (binaryOp .Sub) (rI0 λi j=>.int (i-j)):=zj4 λ_ _ _ _ _ _ _ q=>sub_int q
theorem za5:OpR X (binaryOp .Mod) (rI (λ_ j=>0<j) λi j=>.int (i%j)):=opI λi j _ _ _ _ _ hc q=>by
 have h1:(0:Int)<j:=hc
 exact mod_int' (by omega) (by rw [Int.fmod_eq_emod_of_nonneg i (by omega)];exact q)
theorem zfF:OpR X (binaryOp .Pow) (rI zkn λi j=>.int (i^j.toNat)):=opI λ_ _ _ _ _ _ _ hc q=>pow_int_small hc.1 hc.2.1 hc.2.2 q
end
def scal:V->V->Bool
 | .non,.non=>true | .non,.int _=>true | .int _,.non=>true | .non,.bl _=>true | .bl _,.non=>true | .non,.str _=>true | .str _,.non=>true
 | .int _,.int _=>true | .bl _,.bl _=>true | .str _,.str _=>true | .byt _,.byt _=>true
 | .int _,.str _=>true | .str _,.int _=>true | .bl _,.str _=>true | .str _,.bl _=>true
 | _,_=>false
def rEq:R2:=λx y H Q=>scal x y=true∧Q (.bl (decide (x=y))) H
def rNe:R2:=λx y H Q=>scal x y=true∧Q (.bl (!decide (x=y))) H
theorem zgI {i j:Int}:decide (V.int i=V.int j)=(i == j):=by
 rw [Bool.eq_iff_iff]
 simp
theorem dec_bl {i j:Bool}:decide (V.bl i=V.bl j)=(i == j):=by
 rw [Bool.eq_iff_iff]
 simp
theorem zgf {i j:Str}:decide (V.str i=V.str j)=(i == j):=by
 rw [Bool.eq_iff_iff]
 simp
theorem zf7 {i j:Array UInt8}:decide (V.byt i=V.byt j)=(i.toList == j.toList):=by
 rw [Bool.eq_iff_iff]
 cases i
 cases j
 simp
section
variable {X:Cx} {a b c:Expr} {ta tb tc:TE} {pos:Pos}
theorem fin_bl {pins:List (Addr×Obj)} {σ:St} {H:Hp} {s:Shared} {Q:VK} {k k':Bool} (I:Inv X pins σ H s) (q:Q (.bl k) H) (e:k=k'):EP X pins σ Q (.bool k') s:=by
 subst e
 exact ⟨.bl k,H,I,rfl,q⟩
theorem op_eq:OpR X (compareOp .Eq) rEq:=by
 intro pins s σ H x y v u Q I rx ry h
 obtain ⟨hs,q⟩:=h
 cases x with
 | non =>
  cases rx
  cases y with
  | non=>cases ry;exact PySem.EqNone.eq_none_none (fin_bl I q (by simp))
  | bl j=>cases ry;exact PySem.EqNone.eq_none_bool (fin_bl I q (by simp))
  | int j=>obtain ⟨t',rfl⟩:=ry;exact PySem.EqNone.eq_none_int (fin_bl I q (by simp))
  | str j=>obtain ⟨t',rfl⟩:=ry;exact PySem.EqNone.eq_none_str (fin_bl I q (by simp))
  | _=>exact absurd (show false=true from hs) Bool.false_ne_true
 | bl i =>
  cases rx
  cases y with
  | non=>cases ry;exact PySem.EqNone.eq_bool_none (fin_bl I q (by simp))
  | bl j=>cases ry;exact eq_bool (fin_bl I q dec_bl)
  | str j=>obtain ⟨t',rfl⟩:=ry;exact PySem.EqMixed.eq_bool_str (fin_bl I q (by simp))
  | _=>exact absurd (show false=true from hs) Bool.false_ne_true
 | int i =>
  obtain ⟨t,rfl⟩:=rx
  cases y with
  | non=>cases ry;exact PySem.EqNone.eq_int_none (fin_bl I q (by simp))
  | int j=>obtain ⟨t',rfl⟩:=ry;exact eq_int (fin_bl I q zgI)
  | str j=>obtain ⟨t',rfl⟩:=ry;exact PySem.EqMixed.eq_int_str (fin_bl I q (by simp))
  | _=>exact absurd (show false=true from hs) Bool.false_ne_true
 | str i =>
  obtain ⟨t,rfl⟩:=rx
  cases y with
  | non=>cases ry;exact PySem.EqNone.eq_str_none (fin_bl I q (by simp))
  | bl j=>cases ry;exact PySem.EqMixed.eq_str_bool (fin_bl I q (by simp))
  | int j=>obtain ⟨t',rfl⟩:=ry;exact PySem.EqMixed.eq_str_int (fin_bl I q (by simp))
  | str j=>obtain ⟨t',rfl⟩:=ry;exact eq_str (fin_bl I q zgf)
  | _=>exact absurd (show false=true from hs) Bool.false_ne_true
 | byt i =>
  obtain ⟨t,rfl⟩:=rx
  cases y with
  | byt j=>obtain ⟨t',rfl⟩:=ry;exact W.eq_bytes (fin_bl I q zf7)
  | _=>exact absurd (show false=true from hs) Bool.false_ne_true
 | _=>cases y<;>exact absurd (show false=true from hs) Bool.false_ne_true
theorem op_ne:OpR X (compareOp .NotEq) rNe:=by
 intro pins s σ H x y v u Q I rx ry h
 obtain ⟨hs,q⟩:=h
 cases x with
 | non =>
  cases rx
  cases y with
  | non=>cases ry;exact PySem.EqNone.ne_none_none (fin_bl I q (by simp))
  | bl j=>cases ry;exact PySem.EqNone.ne_none_bool (fin_bl I q (by simp))
  | int j=>obtain ⟨t',rfl⟩:=ry;exact PySem.EqNone.ne_none_int (fin_bl I q (by simp))
  | str j=>obtain ⟨t',rfl⟩:=ry;exact PySem.EqNone.ne_none_str (fin_bl I q (by simp))
  | _=>exact absurd (show false=true from hs) Bool.false_ne_true
 | bl i =>
  cases rx
  cases y with
  | non=>cases ry;exact PySem.EqNone.ne_bool_none (fin_bl I q (by simp))
  | bl j=>cases ry;exact ne_bool (fin_bl I q (congrArg not dec_bl))
  | str j=>obtain ⟨t',rfl⟩:=ry;exact PySem.EqMixed.ne_bool_str (fin_bl I q (by simp))
  | _=>exact absurd (show false=true from hs) Bool.false_ne_true
 | int i =>
  obtain ⟨t,rfl⟩:=rx
  cases y with
  | non=>cases ry;exact PySem.EqNone.ne_int_none (fin_bl I q (by simp))
  | int j=>obtain ⟨t',rfl⟩:=ry;exact ne_int (fin_bl I q (congrArg not zgI))
  | str j=>obtain ⟨t',rfl⟩:=ry;exact PySem.EqMixed.ne_int_str (fin_bl I q (by simp))
  | _=>exact absurd (show false=true from hs) Bool.false_ne_true
 | str i =>
  obtain ⟨t,rfl⟩:=rx
  cases y with
  | non=>cases ry;exact PySem.EqNone.ne_str_none (fin_bl I q (by simp))
  | bl j=>cases ry;exact PySem.EqMixed.ne_str_bool (fin_bl I q (by simp))
  | int j=>obtain ⟨t',rfl⟩:=ry;exact PySem.EqMixed.ne_str_int (fin_bl I q (by simp))
  | str j=>obtain ⟨t',rfl⟩:=ry;exact ne_str (fin_bl I q (congrArg not zgf))
  | _=>exact absurd (show false=true from hs) Bool.false_ne_true
 | byt i =>
  obtain ⟨t,rfl⟩:=rx
  cases y with
  | byt j=>obtain ⟨t',rfl⟩:=ry;exact W.ne_bytes (fin_bl I q (congrArg not zf7))
  | _=>exact absurd (show false=true from hs) Bool.false_ne_true
 | _=>cases y<;>exact absurd (show false=true from hs) Bool.false_ne_true
theorem zhk:OpR X (compareOp .Lt) (rI0 λi j=>.bl (decide (i<j))):=zke λ_ _ _ _ _ _ _ q=>lt_int q
theorem zjM:OpR X (compareOp .Gt) (rI0 λi j=>.bl (decide (j<i))):=zke λ_ _ _ _ _ _ _ q=>gt_int q
theorem nomark (b:Expr) {op:CmpOp} (h:op≠.In:=by decide) (h2:op≠.NotIn:=by decide):behindInMarks op b=false:=by
 have e1:(op == CmpOp.In)=false:=by cases op<;>first | rfl | exact absurd rfl h
 have e2:(op == CmpOp.NotIn)=false:=by cases op<;>first | rfl | exact absurd rfl h2
 cases b<;>simp [behindInMarks,e1,e2]
theorem pe_cmpR {op:CmpOp} {r:R2} (ho:OpR X (compareOp op) r) (ha:PE X a ta) (hb:PE X b tb) (hm:behindInMarks op b=false):PE X (.Compare a [op] [b] pos) (tOp r ta tb):=by
 intro pins s σ H Q I h
 exact wpAny_Compare1 (binT ha hb I h λv u s2 x y H2 I2 rx ry q=>ho pins s2 σ H2 x y v u Q I2 rx ry q) hm
def zi0 (t:TE):TT:=λσ H Q=>t σ H λx H'=>∃ k,x=.bl k∧Q k H'
theorem pt_cmpR {op:CmpOp} {r:R2} (ho:OpR X (compareOp op) r) (ha:PE X a ta) (hb:PE X b tb) (hm:behindInMarks op b=false):PT X (.Compare a [op] [b] pos) (zi0 (tOp r ta tb)):=by
 intro pins s σ H Q I h
 refine wpAny_isTrue_Compare1 (thn (ha pins s σ H _ I h) λv s1 ⟨x,H1,I1,r1,q1⟩=>thn (hb pins s1 σ H1 _ I1 q1) λu s2 ⟨y,H2,I2,r2,q2⟩ =>
  thn (ho pins s2 σ H2 x y v u _ I2 r1 r2 q2) λc s3 ⟨z,H3,I3,r3,k,e,q3⟩=>?_) hm
 subst e
 cases r3
 exact wpAny_truthy_bool ⟨H3,I3,q3⟩
theorem zhF:(sizeLine:Nat)<2^63:=by rw [sizeLine_eq];decide
theorem zg8 {x:V} {us:List Value} (r:Vals [x] us):∃ u,us=[u]∧RelV x u:=by
 cases r with
 | cons r1 r2=>cases r2;exact ⟨_,rfl,r1⟩
theorem zhr {x y:V} {us:List Value} (r:Vals [x,y] us):∃ u w',us=[u,w']∧RelV x u∧RelV y w':=by
 cases r with
 | cons r1 r2 =>
  cases r2 with
  | cons r3 r4=>cases r4;exact ⟨_,_,rfl,r1,r3⟩
theorem zgH (hc:X.calm=true):zc6 X (.builtin "min") (λxs H Q=>∃ i j,xs=[.int i,.int j]∧Q (.int (if j<i then j else i)) H):=by
 intro pins s σ H xs us Q I r h
 obtain ⟨i,j,rfl,q⟩:=h
 obtain ⟨u,w',rfl,⟨t,rfl⟩,⟨t',rfl⟩⟩:=zhr r
 refine min_two_ints (I.ok.hd hc) λh' tk k=>⟨_,H,I.kept k,?_,q⟩
 by_cases hj:j<i
 ·rw [if_pos hj,if_pos hj];exact ⟨_,rfl⟩
 ·rw [if_neg hj,if_neg hj];exact ⟨_,rfl⟩
end
end L2
namespace L2
open PySem PySem.Spec PyProof.Rows
structure ObjM (h:Heap) (x dx C:Addr) (mA:Str->Option Value):Prop where
 obj:h.get? x=some (W.instObj C dx)
 ns:h.Ns1 dx mA
 ne:dx≠x
theorem zgN {h:Heap} {dx:Addr} {mA:Str->Option Value} (n:h.Ns1 dx mA):∃ od,h.get? dx=some od∧∀ name,W.lookIn name od=some (mA name):=by
 obtain ⟨o,es,ep,ho,hd,hk,_,hm⟩:=n
 refine ⟨o,ho,λname=>?_⟩
 have e:=hm name
 unfold nsFind findBy at e
 rw [← Array.find?_toList] at e
 unfold W.lookIn
 rw [hd]
 dsimp only
 split
 ·rename_i y q
  rw [q] at e
  exact congrArg some e
 ·rename_i q
  rw [q] at e
  have a:es.toList.any (·.refKey)=false:=by
   rw [List.any_eq_false]
   intro y hy
   obtain ⟨z,t,hkey⟩:=hk y (Array.mem_toList_iff.mp hy)
   simp [DictEntry.refKey,hkey]
  have a':¬ es.toList.any (·.refKey)=true:=by rw [a];exact Bool.false_ne_true
  rw [if_neg a']
  exact congrArg some e
theorem ObjM.look {h:Heap} {x dx C:Addr} {mA:Str->Option Value} (I:ObjM h x dx C mA):∃ od,W.InstAt h x (W.instObj C dx) C (some od)∧∀ name,W.lookIn name od=some (mA name) :=
 let ⟨od,ho,hl⟩:=zgN I.ns
 ⟨od,⟨I.obj,rfl,rfl,ho⟩,hl⟩
section
variable {prog:Program} {w:World} {A:Around} {E:Value->Shared->Prop} {s:Shared} {K:W.Frag} {x dx C f:Addr} {mA:Str->Option Value} {name:Str} {v:Value}
theorem zie {expr:Bool} {Q:Value->Shared->Prop} (X:K.In s.heap) (I:ObjM s.heap x dx C mA) (hg:W.plainGet K C name=true) (hh:W.hasDictIn K C=true)
  (ha:W.findIn K (.ref C) name=some none) (hv:mA name=some v) (hv':W.handedIn v=true) (h:Q v { s with toks:=s.toks+1 }) :
  wpAny (model prog w) A (getAttr (.ref x) name expr) Q E s:=by
 obtain ⟨od,J,hl⟩:=I.look
 exact W.get_value X J (W.plainGet_of hg).1 (W.findObj_own hh ha rfl (by rw [hl,hv])) hv' h
theorem zg4 {pl:Sem Bool} {Q:Value×List Value->Shared->Prop} (X:K.In s.heap) (I:ObjM s.heap x dx C mA) (hg:W.plainGet K C name=true)
  (hf:W.findIn K (.ref C) name=some (some (.ref f))) (ht:W.isFn K (.ref f)=true) (hv:mA name=none) (h:Q (.ref f,[.ref x]) s) :
  wpAny (model prog w) A (getMethod (.ref x) name pl) Q E s:=by
 obtain ⟨od,J,hl⟩:=I.look
 exact W.method_fn X J (W.plainGet_of hg).1 (W.plainGet_of hg).2 hf (beq_iff_eq.mp ht) (by show (W.lookIn name od).map (·.isSome)=some false;rw [hl,hv];rfl) h
theorem zhU {ns:List Str} {Q:Unit->Shared->Prop} (X:K.In s.heap) (I:ObjM s.heap x dx C mA)
  (hs:W.findIn K (.ref C) "__setattr__"=some (some (.builtin "object.__setattr__"))) (hp:W.plainOver K C=true) (ht:W.takerIn K C name=some none) (hh:W.hasDictIn K C=true)
  (hw:PySem.Within mA ns) (hsz:ns.length≤sizeLine)
  (h:∀ h',ObjM h' x dx C (λy=>if y=name then some v else mA y)->Heap.SameBut dx s.heap h'->Q () { s with heap:=h',toks:=s.toks+2 }) :
  wpAny (model prog w) A (setAttr (.ref x) name v) Q E s:=by
 obtain ⟨od,J,hl⟩:=I.look
 refine W.set_plain X J hs (W.osa_open (s:={ s with toks:=s.toks+1 }) (r:=none) X J hp ht λb=>?_)
 obtain ⟨cd,hc,hd'⟩:=W.any_some hh
 have hx:s.heap.get? x=some ⟨.ref C,some dx,.plain,#[]⟩:=I.obj
 refine wpAny_bind (wpAny_pure (wpAny_bind (wpAny_bind (wpAny_loadPart hx (wpAny_bind (W.Looks.here (s:={ s with toks:=s.toks+1 }) (W.looks_clsIn X hc) ?_))))))
 rw [hd']
 refine wpAny_pure (a:=some dx) (wpAny_bind (wpAny_pure (wpAny_bind ?_)))
 refine wpAny_nsSet1 (s:={ s with toks:=s.toks+1 }) I.ns λh' hn2 hs2=>?_
 obtain ⟨oD,esD,epD,hoD,hdD,hcD⟩:=hn2.count (PySem.Within.cons name v hw)
 refine wpAny_bind (wpAny_lookBehind hoD (by rw [hdD];exact pastItsLine_dict (Nat.le_trans hcD (by rw [List.length_cons];omega))) ?_)
 exact wpAny_pure (h _ ⟨(hs2.2 _ (Ne.symm I.ne)).trans I.obj,hn2,I.ne⟩ hs2)
theorem zfo {R:Result->Shared->Prop} {vs:List Value} {kw:List (Str×Value)} (X:K.In s.heap) (hm:W.makesIn K C=true)
  (hi:W.findIn K (.ref C) "__init__"=some (some (.ref f))) (hf:W.typeIn K (.ref f)=some (.type "function"))
  (h:codeAny (model prog w) (A.under (.builtin "type.__call__" ⟨.ref C :: vs,kw⟩)) (.call (.ref f) ⟨.ref (s.heap.objs.size+1) :: vs,kw⟩) (W.InitBack (s.heap.objs.size+1) R)
   { s with heap:=(s.heap.push W.emptyDict).push (W.instObj C s.heap.objs.size) }) :
  codeAny (model prog w) A (.call (.ref C) ⟨vs,kw⟩) R s:=by
 obtain ⟨hh,g,d,t,os⟩:=s
 exact W.make_core (W.makes_of X hm) (W.looks_findIn X hi) (λself=>W.bind_fn X self hf) (.inl rfl) h
end
def putF (f:Str) (v:V):List (Str×V)->List (Str×V)
 | []=>[(f,v)]
 | (g,x) :: r=>if g=f then (g,v) :: r else (g,x) :: putF f v r
theorem zdF (f g:Str) (v:V):∀ fs:List (Str×V),(putF f v fs).lookup g=if g=f then some v else fs.lookup g
 | []=>by
  show List.lookup g [(f,v)]=_
  by_cases h:g=f
  ·have hb:(g == f)=true:=beq_iff_eq.mpr h
   simp only [List.lookup,hb,if_pos h]
  ·have hb:(g == f)=false:=beq_eq_false_iff_ne.mpr h
   simp only [List.lookup,hb,if_neg h]
 | (k,x) :: r=>by
  have ih:=zdF f g v r
  rw [show putF f v ((k,x) :: r)=(if k=f then (k,v) :: r else (k,x) :: putF f v r) from rfl]
  by_cases hk:k=f
  ·rw [if_pos hk]
   by_cases h:g=k
   ·have hb:(g == k)=true:=beq_iff_eq.mpr h
    simp only [List.lookup,hb,if_pos (h.trans hk)]
   ·have hb:(g == k)=false:=beq_eq_false_iff_ne.mpr h
    simp only [List.lookup,hb,if_neg (λe:g=f=>h (e.trans hk.symm))]
  ·rw [if_neg hk]
   by_cases h:g=k
   ·have hb:(g == k)=true:=beq_iff_eq.mpr h
    simp only [List.lookup,hb,if_neg (λe:g=f=>hk (h.symm.trans e))]
   ·have hb:(g == k)=false:=beq_eq_false_iff_ne.mpr h
    simp only [List.lookup,hb]
    exact ih
theorem zdW (f:Str) (v:V):∀ fs:List (Str×V),f∈(putF f v fs).map (·.1)∧∀ g,g∈fs.map (·.1)->g∈(putF f v fs).map (·.1)
 | []=>⟨by simp [putF],λg h=>by simp at h⟩
 | (k,x) :: r=>by
  obtain ⟨i1,i2⟩:=zdW f v r
  rw [show putF f v ((k,x) :: r)=(if k=f then (k,v) :: r else (k,x) :: putF f v r) from rfl]
  by_cases hk:k=f
  ·rw [if_pos hk]
   subst hk
   exact ⟨by simp,λg h=>by simpa using h⟩
  ·rw [if_neg hk]
   refine ⟨?_,λg h=>?_⟩
   ·rw [List.map_cons]
    exact List.mem_cons_of_mem _ i1
   ·rw [List.map_cons] at h ⊢
    rcases List.mem_cons.mp h with e | e
    ·exact List.mem_cons.mpr (.inl e)
    ·exact List.mem_cons_of_mem _ (i2 g e)
theorem zdL (f:Str) (v:V):∀ fs:List (Str×V),(putF f v fs).length≤fs.length+1
 | []=>by simp [putF]
 | (k,x) :: r=>by
  have ih:=zdL f v r
  rw [show putF f v ((k,x) :: r)=(if k=f then (k,v) :: r else (k,x) :: putF f v r) from rfl]
  by_cases hk:k=f
  ·rw [if_pos hk,List.length_cons,List.length_cons];omega
  ·rw [if_neg hk,List.length_cons,List.length_cons];omega
theorem zgQ.some_of {v:V} {o:Option Value} (r:zgQ (some v) o):∃ u,o=some u∧RelV v u:=by
 cases o with
 | none=>exact (show False from r).elim
 | some u=>exact ⟨u,rfl,r⟩
theorem zgQ.none_of {o:Option Value} (r:zgQ none o):o=none:=by
 cases o with
 | none=>rfl
 | some u=>exact (show False from r).elim
theorem zgt {v:V} {u:Value} (r:RelV v u):W.handedIn u=true:=by
 cases v with
 | non=>cases (show u=Value.none from r);rfl
 | bl b=>cases (show u=Value.bool b from r);rfl
 | int i=>obtain ⟨t,e⟩:=(show ∃ t,u=Value.int i t from r);cases e;rfl
 | str x=>obtain ⟨t,e⟩:=(show ∃ t,u=Value.str x t from r);cases e;rfl
 | byt b=>obtain ⟨t,e⟩:=(show ∃ t,u=Value.bytes b t from r);cases e;rfl
 | flt b=>obtain ⟨t,e⟩:=(show ∃ t,u=Value.float b t from r);cases e;rfl
 | ref a=>cases (show u=Value.ref a from r);rfl
 | ty n=>cases (show u=Value.type n from r);rfl
section
variable {P:Program} {w:World} {H H':Hp} {h h':Heap} {a C dx:Addr} {fs fs':List (Str×V)}
theorem zen (hok:HOk P w H h) (e:H a=some (.ins C dx fs)):∃ mA,ObjM h a dx C mA∧(∀ f,zgQ (fs.lookup f) (mA f))∧PySem.Within mA (fs.map (·.1))∧fs.length≤1000∧H dx=some (.own a):=by
 obtain ⟨d,z,ne,ob,mA,n,r,q⟩:=(show zbX P w H h a (.ins C dx fs) from hok a _ e)
 exact ⟨mA,⟨ob,n,ne⟩,r,q,z,d⟩
end
structure Cls (K:W.Frag) (C:Addr):Prop where
 pg:W.plainGet K C Str.empty=true
 hd:W.hasDictIn K C=true
 po:W.plainOver K C=true
 sa:W.findIn K (.ref C) "__setattr__"=some (some (.builtin "object.__setattr__"))
theorem Cls.get {K:W.Frag} {C:Addr} (c:Cls K C) (f:Str):W.plainGet K C f=true:=c.pg
def NoAttr (K:W.Frag) (C:Addr) (f:Str):Prop:=W.findIn K (.ref C) f=some none
theorem NoAttr.taker {K:W.Frag} {C:Addr} {f:Str} (n:NoAttr K C f):W.takerIn K C f=some none:=by
 unfold W.takerIn
 rw [show W.findIn K (.ref C) f=some none from n]
 rfl
structure Con (K:W.Frag) (C:Addr) (f:Str) (v:V) (u:Value):Prop where
 at_:W.findIn K (.ref C) f=some (some u)
 rel:RelV v u
 get:W.specialIn K u "__get__"=some none
 cp:W.copiedNames.contains f=false
structure Meth (K:W.Frag) (C:Addr) (m:Str) (f:Addr):Prop where
 at_:W.findIn K (.ref C) m=some (some (.ref f))
 fn:W.isFn K (.ref f)=true
 kp:W.keepIn K (.ref f)=true
section
variable {X:Cx} {pins:List (Addr×Obj)} {σ:St} {H:Hp} {s:Shared} {a C dx:Addr} {fs:List (Str×V)} {f:Str} {v:V} {A:Around} {E:Value->Shared->Prop}
theorem zf4 {b:Bool} {Q:Value->Shared->Prop} (I:Inv X pins σ H s) (e:H a=some (.ins C dx fs)) (c:Cls X.K C) (n:NoAttr X.K C f) (l:fs.lookup f=some v)
  (h:∀ u s',Inv X pins σ H s'->RelV v u->Q u s'):wpAny (model X.prog X.w) A (getAttr (.ref a) f b) Q E s:=by
 obtain ⟨mA,O,r,_,_,_⟩:=zen I.hok e
 obtain ⟨u,hu,ru⟩:=zgQ.some_of (v:=v) (o:=mA f) (by rw [← l];exact r f)
 exact zie I.kIn O (c.get f) c.hd n hu (zgt ru) (h u _ (I.tok _) ru)
theorem zfM {m:Str} {g:Addr} {pl:Sem Bool} {Q:Value×List Value->Shared->Prop} (I:Inv X pins σ H s) (e:H a=some (.ins C dx fs)) (c:Cls X.K C) (k:Meth X.K C m g) (l:fs.lookup m=none)
  (h:Q (.ref g,[.ref a]) s):wpAny (model X.prog X.w) A (getMethod (.ref a) m pl) Q E s:=by
 obtain ⟨mA,O,r,_,_,_⟩:=zen I.hok e
 have hn:mA m=none:=zgQ.none_of (by rw [← l];exact r m)
 exact zg4 I.kIn O (c.get m) k.at_ k.fn hn h
theorem zfZ {y:V} {u:Value} {Q:Unit->Shared->Prop} (I:Inv X pins σ H s) (e:H a=some (.ins C dx fs)) (c:Cls X.K C) (n:NoAttr X.K C f) (hl:fs.length<1000) (ry:RelV y u)
  (h:∀ s',Inv X pins σ (upd H a (.ins C dx (putF f y fs))) s'->Q () s'):wpAny (model X.prog X.w) A (setAttr (.ref a) f u) Q E s:=by
 obtain ⟨mA,O,r,wi,_,ho⟩:=zen I.hok e
 have hz:(fs.map (·.1)).length≤sizeLine:=by rw [List.length_map,sizeLine_eq];omega
 refine zhU I.kIn O c.sa c.po n.taker c.hd wi hz λh' O' sb=>h _ ?_
 have hd:∃ o,h'.get? dx=some o:=let ⟨o,_,_,e',_⟩:=O'.ns;⟨o,e'⟩
 refine I.write (x:=a) (e:=dx) (by rw [e];exact True.intro) (.inr ho) (λb q hb z=>(sb.2 b hb).trans z) hd ?_
 refine ⟨by rw [upd_ne O.ne];exact ho,?_,O.ne,O'.obj,_,O'.ns,λg=>?_,λg hg=>?_⟩
 ·have:=zdL f y fs;omega
 ·show zgQ ((putF f y fs).lookup g) (if g=f then some u else mA g)
  rw [zdF]
  by_cases q:g=f
  ·rw [if_pos q,if_pos q];exact ry
  ·rw [if_neg q,if_neg q];exact r g
 ·by_cases q:g=f
  ·rw [q];exact (zdW f y fs).1
  ·refine (zdW f y fs).2 g (wi g λz=>hg ?_)
   show (if g=f then some u else mA g)=none
   rw [if_neg q];exact z
theorem Inv.made (I:Inv X pins σ H s):Inv X pins σ (upd (upd H s.heap.objs.size (.own (s.heap.objs.size+1))) (s.heap.objs.size+1) (.ins C s.heap.objs.size []))
  { s with heap:=(s.heap.push W.emptyDict).push (W.instObj C s.heap.objs.size) }:=by
 have e1:(s.heap.push W.emptyDict).get? s.heap.objs.size=some W.emptyDict:=Heap.get?_push_size s.heap rfl
 have e2:((s.heap.push W.emptyDict).push (W.instObj C s.heap.objs.size)).get? (s.heap.objs.size+1)=some (W.instObj C s.heap.objs.size):=by
  have:=Heap.get?_push_size (s.heap.push W.emptyDict) (o:=W.instObj C s.heap.objs.size) rfl
  rwa [Heap.size_push] at this
 have e3:(s.heap.push W.emptyDict).Ns s.heap.objs.size (λ_=>none):=⟨W.emptyDict,#[],_,e1,rfl,(λe he=>absurd he (by simp)),λ_=>rfl⟩
 have I1:=I.laid (a:=s.heap.objs.size) (o:=.own (s.heap.objs.size+1)) (h':=s.heap.push W.emptyDict) (t':=s.toks) (λb u q=>Heap.get?_push_of_some _ q) (Nat.le_refl _) ⟨_,e1⟩
 refine I1.laid (a:=s.heap.objs.size+1) (o:=.ins C s.heap.objs.size []) (t':=s.toks) (λb u q=>Heap.get?_push_of_some _ q) (Nat.le_of_eq (Heap.size_push _ _)) ?_
 have ne:s.heap.objs.size≠s.heap.objs.size+1:=Nat.ne_of_lt (Nat.lt_succ_self _)
 refine ⟨by rw [upd_ne ne,upd_same],Nat.zero_le _,ne,e2,λ_=>none,(Heap.Ns1.of_empty e3).at λo q=>Heap.get?_push_of_some _ q,λ_=>True.intro,λy hy=>absurd rfl hy⟩
theorem attr_of {prog:Program} {w:World} {env:Env} {e:Expr} {f:Str} {pos:Pos} {s:Shared} {Q:Value->Shared->Prop} (hb:attributeBase e f env (eval e env)=eval e env)
  (h:wpAny (model prog w) A (eval e env) (λo s₁=>wpAny (model prog w) A (getAttr o f true) Q E s₁) E s):wpAny (model prog w) A (eval (.Attribute e f pos) env) Q E s :=
 Attribute_any_ h (by rw [arm_eval_Attribute,hb])
end
def tFld (K:W.Frag) (ta:TE) (f:Str):TE:=λσ H Q=>ta σ H λx H1=>∃ a C dx fs v,x=.ref a∧H1 a=some (.ins C dx fs)∧Cls K C∧NoAttr K C f∧fs.lookup f=some v∧Q v H1
def zjQ (K:W.Frag) (ta tv:TE) (f:Str):TS:=λD σ H=>tv σ H λy H1=>ta σ H1 λx H2=>∃ a C dx fs,x=.ref a∧H2 a=some (.ins C dx fs)∧Cls K C∧NoAttr K C f∧fs.length<1000 ∧
 D.nx σ (upd H2 a (.ins C dx (putF f y fs)))
section
variable {X:Cx} {o e value:Expr} {f:Str} {pos pos' tpos:Pos} {ta tv:TE}
theorem zjl (he:PE X e ta) (hb:attributeBase e f X.env (eval e X.env)=eval e X.env):PE X (.Attribute e f pos) (tFld X.K ta f):=by
 intro pins s σ H Q I h
 refine attr_of hb (thn (he pins s σ H _ I h) λu s1 ⟨x,H1,I1,rx,a,C,dx,fs,v,ex,ea,c,n,l,q⟩=>?_)
 subst ex
 obtain rfl:u=Value.ref a:=rx
 exact zf4 I1 ea c n l λu' s2 I2 ru=>⟨v,H1,I2,ru,q⟩
theorem zfn (ha:PE X o ta) (hv:PE X value tv) (hs:swapsWith value (some (.Attribute o f pos')) pos.line X.env=pure false):PS X (.Assign [.Attribute o f pos'] value pos) (zjQ X.K ta tv f):=by
 intro pins s σ H D I h
 refine plainObj_wpAny_Assign_Attribute (thn (hv pins s σ H _ I h) λu s1 ⟨y,H1,I1,ry,q⟩=>thn (ha pins s1 σ H1 _ I1 q) λov s2 ⟨x,H2,I2,rx,a,C,dx,fs,ex,ea,c,n,l,q2⟩=>?_) hs
 subst ex
 obtain rfl:ov=Value.ref a:=rx
 exact zfZ I2 ea c n l ry λs3 I3=>⟨σ,_,I3,q2⟩
end
section
variable {X:Cx} {pins:List (Addr×Obj)} {σ:St} {H:Hp} {s:Shared} {A:Around} {E:Value->Shared->Prop} {Q:Value->Shared->Prop} {c:Value} {b:Bool}
inductive TyOf (K:W.Frag) (H:Hp):V->Value->Prop where
 | non:TyOf K H .non (.type "NoneType")
 | bl (x:Bool):TyOf K H (.bl x) (.type "bool")
 | int (i:Int):TyOf K H (.int i) (.type "int")
 | str (x:Str):TyOf K H (.str x) (.type "str")
 | flt (x:UInt64):TyOf K H (.flt x) (.type "float")
 | lst {a:Addr} {xs:List V} (e:H a=some (.lst xs)):TyOf K H (.ref a) (.type "list")
 | frz {a:Addr} {o:Obj} {xs:List V} (e:H a=some (.frz o (.lst xs))):TyOf K H (.ref a) (.type "list")
 | tup {a:Addr} {xs:List V} (e:H a=some (.tup xs)):TyOf K H (.ref a) (.type "tuple")
 | dK {a:Addr} {kvs:List (Key×V)} (e:H a=some (.dK kvs)):TyOf K H (.ref a) (.type "dict")
 | dT {a:Addr} {kvs:List (List Key×V)} (e:H a=some (.dT kvs)):TyOf K H (.ref a) (.type "dict")
 | ins {a C dx:Addr} {fs:List (Str×V)} (e:H a=some (.ins C dx fs)) (cl:Cls K C) (ha:W.findIn K (.ref C) "__class__"=some (some (.builtin "object.__class__")))
   (hn:W.specialIn K (.builtin "object.__class__") "__get__"=some (some (.builtin "getset_descriptor.__get__"))) (htk:W.takesIn K (.builtin "object.__class__")=some true)
   (hm:W.mroIn K C (.type "object")=some true):TyOf K H (.ref a) (.ref C)
theorem isinst_ok {x:V} {u t:Value} (I:Inv X pins σ H s) (rx:RelV x u) (ty:TyOf X.K H x t) (e:W.kitOne X.K t c=some b) (h:∀ tk,Q (.bool b) { s with toks:=tk }) :
  wpAny (model X.prog X.w) A (call (.builtin "isinstance") [u,c]) Q E s:=by
 cases ty with
 | non=>cases (show u=Value.none from rx);exact W.kia_one W.kitx_none I.kIn True.intro e (λz=>nomatch z) h
 | bl y=>cases (show u=Value.bool y from rx);exact W.kia_one W.kitx_bool I.kIn True.intro e (λz=>nomatch z) h
 | int i=>obtain ⟨t,q⟩:=(show ∃ t,u=Value.int i t from rx);cases q;exact W.kia_one W.kitx_int I.kIn True.intro e (λz=>nomatch z) h
 | str y=>obtain ⟨t,q⟩:=(show ∃ t,u=Value.str y t from rx);cases q;exact W.kia_one W.kitx_str I.kIn True.intro e (λz=>nomatch z) h
 | flt y=>obtain ⟨t,q⟩:=(show ∃ t,u=Value.float y t from rx);cases q;exact W.kia_one W.kitx_float I.kIn True.intro e (λz=>nomatch z) h
 | @lst a xs ea =>
  cases (show u=Value.ref a from rx)
  obtain ⟨_,_,n,_,h1⟩:=(show zbX X.prog X.w H s.heap a (.lst xs) from I.hok a _ ea)
  exact W.kia_one W.kitx_list I.kIn ⟨_,h1,rfl⟩ e (λz=>nomatch z) h
 | @frz a ob xs ea =>
  cases (show u=Value.ref a from rx)
  obtain ⟨_,_,_,n,_,h1⟩:=(show zbX X.prog X.w H s.heap a (.frz ob (.lst xs)) from I.hok a _ ea)
  exact W.kia_one W.kitx_list I.kIn ⟨_,h1,rfl⟩ e (λz=>nomatch z) h
 | @tup a xs ea =>
  cases (show u=Value.ref a from rx)
  obtain ⟨_,_,_,p⟩:=(show zbX X.prog X.w H s.heap a (.tup xs) from I.hok a _ ea)
  obtain ⟨o,h1,h2,_⟩:=p
  exact W.kia_one W.kitx_tuple I.kIn ⟨o,h1,h2⟩ e (λz=>nomatch z) h
 | @dK a kvs ea =>
  cases (show u=Value.ref a from rx)
  obtain ⟨_,_,vs,_,p⟩:=(show zbX X.prog X.w H s.heap a (.dK kvs) from I.hok a _ ea)
  obtain ⟨o,es,ep,h1,h2,_⟩:=p
  exact W.kia_one W.kitx_dict I.kIn ⟨o,h1,h2.1⟩ e (λz=>nomatch z) h
 | @dT a kvs ea =>
  cases (show u=Value.ref a from rx)
  obtain ⟨_,_,xs,_,o,es,ep,h1,h2,_⟩:=(show zbX X.prog X.w H s.heap a (.dT kvs) from I.hok a _ ea)
  exact W.kia_one W.kitx_dict I.kIn ⟨o,h1,h2.1⟩ e (λz=>nomatch z) h
 | @ins a C dx fs ea cl ha hn htk hm =>
  cases (show u=Value.ref a from rx)
  obtain ⟨mA,O,_⟩:=zen I.hok ea
  obtain ⟨od,J,_⟩:=O.look
  exact W.kia_one (W.kitx_own (cl.get _) cl.hd ha hn htk hm) I.kIn J e (λz=>nomatch z) h
end
end L2
namespace L2
open PySem PySem.Spec PyProof.Rows
structure Room (k:Nat) (A:Around):Prop where
 hd:A.handled=none
 dp:A.depth+3*k+5<recursionLimit
 un:A.units+16*k+200<cLine
theorem Room.mono {j k:Nat} {A:Around} (r:Room k A) (h:j≤k):Room j A:=⟨r.hd,by have:=r.dp;omega,by have:=r.un;omega⟩
theorem Room.deeper {k:Nat} {A:Around} (r:Room (k+1) A) (env:Env):Room k (A.deeper env) :=
 ⟨r.hd,by have:=r.dp;show A.depth+1+3*k+5<_;omega,by have:=r.un;show A.units+3+16*k+200<_;omega⟩
theorem Room.in1 {k:Nat} {A:Around} (r:Room (k+1) A):Room k A.in1 :=
 ⟨r.hd,by have:=r.dp;show A.depth+3*k+5<_;omega,by have:=r.un;show A.units+1+16*k+200<_;omega⟩
theorem zfP {A:Around} {C:Addr} {us:List Value} {kw:List (Str×Value)}:(A.under (.builtin "type.__call__" ⟨.ref C :: us,kw⟩)).depth=A.depth+1:=by
 first | rfl | simp [Around.under,Code.weight,Code.isCreation,Code.isGuard,Code.isCaller,Code.frames,Code.isFrame,guardIds]
theorem zfU {A:Around} {C:Addr} {us:List Value} {kw:List (Str×Value)}:(A.under (.builtin "type.__call__" ⟨.ref C :: us,kw⟩)).units=A.units+1:=by
 first | rfl | simp [Around.under,Code.cUnits,Code.frames,Code.isFrame]
theorem Room.make {k:Nat} {A:Around} (r:Room (k+1) A) (C:Addr) (us:List Value) (kw:List (Str×Value)):Room k (A.under (.builtin "type.__call__" ⟨.ref C :: us,kw⟩)) :=
 ⟨r.hd,by have:=r.dp;rw [zfP];omega,by have:=r.un;rw [zfU];omega⟩
theorem Room.depth {k:Nat} {A:Around} (r:Room k A):A.depth<recursionLimit:=by have:=r.dp;omega
theorem Room.units {k:Nat} {A:Around} (r:Room k A):A.units+64<cLine:=by have:=r.un;omega
def tNil:TA:=λ_ H Q=>Q [] H
def tCons (ta:TE) (tr:TA):TA:=λσ H Q=>ta σ H λx H1=>tr σ H1 λxs H2=>Q (x :: xs) H2
section
variable {X:Cx} {e:Expr} {es:List Expr} {te:TE} {t:TA} {pos:Pos}
theorem pa_nil:PA X [] tNil:=λ_ _ _ _ H Q I h=>Calls.spliced_nil ⟨[],H,I,.nil,h⟩
theorem pa_cons (ha:PE X e te) (hr:PA X es t) (hs:starEach (e :: es) X.env=(false,eval e X.env) :: starEach es X.env:=by rfl):PA X (e :: es) (tCons te t):=by
 intro pos pins s σ H Q I h
 rw [hs]
 show wpAny _ _ (spliced ((false,eval e X.env) :: backTo pos (starEach es X.env))) _ _ s
 refine Calls.spliced_cons (thn (ha pins s σ H _ I h) λu s1 ⟨x,H1,I1,r1,q1⟩=>?_)
 exact thn (hr pos pins s1 σ H1 _ I1 q1) λus s2 ⟨xs,H2,I2,r2,q2⟩=>⟨x :: xs,H2,I2,.cons r1 r2,q2⟩
def zj3 (t:TA):TE:=λσ H Q=>t σ H λxs H1=>xs.length≤sizeLine∧∀ p,H1 p=none->Q (.ref p) (upd H1 p (.tup xs))
def zkd (t:TA):TE:=λσ H Q=>t σ H λxs H1=>xs.length≤sizeLine∧∀ p,H1 p=none->Q (.ref p) (upd H1 p (.lst xs))
theorem zjv {x1} (h:PA X es t):PE X (.Tuple es x1 pos) (zj3 t):=by
 intro pins s σ H Q I hq
 refine wpAny_Tuple_spliced (thn (h pos pins s σ H _ I hq) λus s1 ⟨xs,H1,I1,r,z,q⟩=>⟨by rw [← r.length];exact z,?_⟩)
 have hf:H1 s1.heap.objs.size=none:=I1.hok.fresh (Nat.le_refl _)
 refine ⟨.ref s1.heap.objs.size,upd H1 s1.heap.objs.size (.tup xs),I1.laid (t':=s1.toks) (λb u e=>Heap.get?_push_of_some _ e) (Nat.le_refl _) ?_,rfl,q _ hf⟩
 exact ⟨z,us,r,⟨_,Heap.get?_push_size _ rfl,rfl,_,rfl⟩⟩
theorem zcc (h:PA X es t):PE X (.List es pos) (zkd t):=by
 intro pins s σ H Q I hq
 refine wpAny_List_spliced (thn (h pos pins s σ H _ I hq) λus s1 ⟨xs,H1,I1,r,z,q⟩=>⟨by rw [← r.length];exact z,?_⟩)
 have hf:H1 s1.heap.objs.size=none:=I1.hok.fresh (Nat.le_refl _)
 refine ⟨.ref s1.heap.objs.size,upd H1 s1.heap.objs.size (.lst xs),I1.laid (t':=s1.toks) (λb u e=>Heap.get?_push_of_some _ e) (Nat.le_refl _) ?_,rfl,q _ hf⟩
 exact ⟨z,us,0,r,Heap.get?_push_size _ rfl⟩
end
abbrev Sp:=List V->Hp->VK->XK->Prop
abbrev CXT:=List Env->Hp->Shared->XK->Value->Shared->Prop
structure Env0 (P:Program) (w:World) (K:W.Frag) (mg:Str->Option Value) (base:Heap) (A:Around) (outer:List Env) (s:Shared) (H:Hp):Prop where
 frames:A.frames=some outer
 mod:Mod K mg base
 bs:∀ b o,base.get? b=some o->s.heap.get? b=some o∧H b=none
 bsz:base.objs.size≤s.heap.objs.size
 funs:s.heap.FunFrames base outer
 frf:∀ b∈frs outer,H b=none
 hok:HOk P w H s.heap
 bare:AllBare s.gens
def CE (outer:List Env) (P:Program) (w:World) (H:Hp) (s:Shared) (Q:VK) (u:Value) (s':Shared):Prop :=
 ∃ v H',s'.os=s.os∧AllBare s'.gens∧Un (frs outer) [] H H' s.heap s'.heap∧HOk P w H' s'.heap∧RelV v u∧Q v H'
def CR (CX:CXT) (outer:List Env) (P:Program) (w:World) (H:Hp) (s:Shared) (Q:VK) (E:XK) (r:Result) (s':Shared):Prop :=
 match r with
 | .ok (.ret u)=>CE outer P w H s Q u s'
 | .ok _=>False
 | .error e=>CX outer H s E e s'
structure FnOk (P:Program) (w:World) (K:W.Frag) (mg:Str->Option Value) (base:Heap) (CX:CXT) (k:Nat) (f:Addr) (fd:FuncData) (ps:List Str) (sp:Sp):Prop where
 len:∀ vs H Q E,sp vs H Q E->vs.length=ps.length
 run:∀ (A:Around) (outer:List Env) (s:Shared) (H:Hp) (args:Args) (us:List Value) (vs:List V) (Q:VK) (E:XK),Room k A->Env0 P w K mg base A outer s H->BindsTo s fd args (ps.zip us)->Vals vs us->sp vs H Q E →
  codeAny (model P w) A (.call (.ref f) args) (CR CX outer P w H s Q E) s
theorem FnOk.imp {P:Program} {w:World} {K:W.Frag} {mg:Str->Option Value} {base:Heap} {CX:CXT} {k:Nat} {f:Addr} {fd:FuncData} {ps:List Str} {sp sp':Sp} (F:FnOk P w K mg base CX k f fd ps sp)
  (h:∀ vs H Q E,sp' vs H Q E->sp vs H Q E):FnOk P w K mg base CX k f fd ps sp' :=
 ⟨λvs H Q E q=>F.len vs H Q E (h _ _ _ _ q),λA outer s H args us vs Q E hr he hb hv hs=>F.run A outer s H args us vs Q E hr he hb hv (h _ _ _ _ hs)⟩
theorem Env0.make {P:Program} {w:World} {K:W.Frag} {mg:Str->Option Value} {base:Heap} {A:Around} {outer:List Env} {s:Shared} {H:Hp} (e:Env0 P w K mg base A outer s H) (C:Addr) (us:List Value) (kw:List (Str×Value)) :
  Env0 P w K mg base (A.under (.builtin "type.__call__" ⟨.ref C :: us,kw⟩)) outer s H:=⟨by first | exact e.frames | (simpa [Around.under,Code.envs,Code.isFrame,pushEnvs] using e.frames),e.mod,e.bs,e.bsz,e.funs,e.frf,e.hok,e.bare⟩
theorem Env0.in1 {P:Program} {w:World} {K:W.Frag} {mg:Str->Option Value} {base:Heap} {A:Around} {outer:List Env} {s:Shared} {H:Hp} (e:Env0 P w K mg base A outer s H) :
  Env0 P w K mg base A.in1 outer s H:=⟨e.frames,e.mod,e.bs,e.bsz,e.funs,e.frf,e.hok,e.bare⟩
section
variable {X:Cx} {pins:List (Addr×Obj)} {σ:St} {H:Hp} {s s':Shared}
theorem Inv.env0 (I:Inv X pins σ H s):Env0 X.prog X.w X.K X.mg X.base X.A X.stack s H :=
 ⟨I.ok.frames,I.ok.mod,I.bs,Nat.le_trans I.ok.bsz I.sz,I.stack,I.stkFree,I.hok,I.bare⟩
theorem Inv.after {Q:VK} {u:Value} (I:Inv X pins σ H s) (h:CE X.stack X.prog X.w H s Q u s'):EP X pins σ Q u s':=by
 obtain ⟨v,H',os,bare,un,hok,r,q⟩:=h
 obtain ⟨hh,g,d,t,os'⟩:=s'
 obtain rfl:os'=s.os:=os
 exact ⟨v,H',I.call (h':=hh) (g':=g) (d':=d) (t':=t) (ch:=[]) un hok bare (λb z=>absurd z (by simp)),r,q⟩
end
def tCall (sp:Sp) (dvs:List V) (E:XK) (t:TA):TE:=λσ H Q=>t σ H λvs H1=>sp (vs++dvs) H1 Q E
def zjq (C:Addr) (sp:Sp) (dvs:List V) (E:XK) (t:TA):TE:=λσ H Q=>t σ H λvs H1=>∀ x dx,H1 x=none->H1 dx=none->dx≠x →
 sp (.ref x :: (vs++dvs)) (upd (upd H1 dx (.own x)) x (.ins C dx [])) (λv H2=>v=.non∧Q (.ref x) H2) E
def zcY (K:W.Frag) (fd:FuncData) (ps:List Str) (ds:List Value):Prop :=
 ∀ (s:Shared) (us:List Value),K.In s.heap->(us++ds).length=ps.length->BindsTo s fd ⟨us,[]⟩ (ps.zip (us++ds))
theorem zcY.all {K:W.Frag} {fd:FuncData} {ps:List Str} (h:∀ us:List Value,us.length=ps.length->bindArgs fd ⟨us,[]⟩=pure (ps.zip us)):zcY K fd ps []:=λs us _ hl=>by
 rw [List.append_nil] at hl ⊢
 exact .of_eq (h us hl)
def zdH (CX:CXT) (X:Cx) (E:XK):Prop:=∀ (pins:List (Addr×Obj)) (σ:St) (H:Hp) (s:Shared) (e:Value) (s':Shared),Inv X pins σ H s->CX X.stack H s E e s'->X.xe e s'
section
variable {X:Cx} {CX:CXT} {k:Nat} {f C:Addr} {fd:FuncData} {ps:List Str} {sp:Sp} {dvs:List V} {ds:List Value} {E:XK} {x m:Str} {p pos apos:Pos} {e o:Expr} {es:List Expr} {ta:TE} {t:TA}
theorem zhu {pins:List (Addr×Obj)} {σ:St} {H:Hp} {s:Shared} {Q:VK} {us:List Value} {vs:List V} (F:FnOk X.prog X.w X.K X.mg X.base CX k f fd ps sp) (hr:Room k X.A) (hb:zcY X.K fd ps ds) (hd:Vals dvs ds) (hx:zdH CX X E)
  (I:Inv X pins σ H s) (r:Vals vs us) (h:sp (vs++dvs) H Q E):wpAny (model X.prog X.w) X.A (call (.ref f) us) (EP X pins σ Q) X.xe s:=by
 have r2:Vals (vs++dvs) (us++ds):=r.append hd
 have hl:(us++ds).length=ps.length:=by rw [← r2.length];exact F.len _ _ _ _ h
 refine wpAny_call (codeAny_mono (F.run X.A X.stack s H ⟨us,[]⟩ (us++ds) (vs++dvs) Q E hr I.env0 (hb s us I.kIn hl) r2 h) λr s' hq=>?_)
 cases r with
 | error e=>exact hx pins σ H s e s' I hq
 | ok fl =>
  cases fl with
  | ret u=>exact I.after hq
  | next=>exact False.elim hq
  | brk=>exact False.elim hq
  | cont=>exact False.elim hq
theorem zim (F:FnOk X.prog X.w X.K X.mg X.base CX k f fd ps sp) (hr:Room k X.A) (hg:Gl X x) (hm:X.mg x=some (.ref f)) (hk:W.keepIn X.K (.ref f)=true) (hb:zcY X.K fd ps ds) (hd:Vals dvs ds) (hx:zdH CX X E)
  (ha:PA X (e :: es) t) (hdb:(x == ("__debug__":Str))=false:=by decide) (he:starEach (e :: es) X.env=(false,eval e X.env) :: starEach es X.env:=by rfl) (hpl:(backTo pos (starEach es X.env)).any (·.1)=false:=by rfl) :
  PE X (.Call (.Name x p) (e :: es) [] pos) (tCall sp dvs E t):=by
 intro pins s σ H Q I h
 refine wpAny_Call_Name_kw (ld_glob I hg hm ?_ hdb)
 refine W.callWith_K (h₀:=X.base) I.ok.mod.kin hk (thn (ha pos pins s σ H _ I h) λus s1 ⟨vs,H1,I1,r,q⟩=>⟨I1.kIn,?_⟩) he hpl
 exact zhu F hr hb hd hx I1 r q
structure Mk (K:W.Frag) (C f:Addr):Prop where
 makes:W.makesIn K C=true
 init:W.findIn K (.ref C) "__init__"=some (some (.ref f))
 fn:W.isFn K (.ref f)=true
 kp:W.keepIn K (.ref C)=true
theorem zgW {pins:List (Addr×Obj)} {σ:St} {H:Hp} {s:Shared} {Q:VK} {us:List Value} {vs:List V} (M:Mk X.K C f) (F:FnOk X.prog X.w X.K X.mg X.base CX k f fd ps sp) (hr:Room (k+1) X.A) (hb:zcY X.K fd ps ds) (hd:Vals dvs ds)
  (hx:zdH CX X E) (I:Inv X pins σ H s) (r:Vals vs us)
  (h:∀ x dx,H x=none->H dx=none->dx≠x->sp (.ref x :: (vs++dvs)) (upd (upd H dx (.own x)) x (.ins C dx [])) (λv H2=>v=.non∧Q (.ref x) H2) E) :
  wpAny (model X.prog X.w) X.A (call (.ref C) us) (EP X pins σ Q) X.xe s:=by
 have hq:=h (s.heap.objs.size+1) s.heap.objs.size (I.hok.fresh (Nat.le_succ _)) (I.hok.fresh (Nat.le_refl _)) (Nat.ne_of_lt (Nat.lt_succ_self _))
 have I2:=Inv.made (C:=C) I
 have r2:Vals (V.ref (s.heap.objs.size+1) :: (vs++dvs)) (Value.ref (s.heap.objs.size+1) :: (us++ds)):=.cons rfl (r.append hd)
 have hl:(Value.ref (s.heap.objs.size+1) :: us++ds).length=ps.length:=by
  have e:=r2.length
  rw [F.len _ _ _ _ hq] at e
  exact e.symm
 refine wpAny_call (zfo (f:=f) I.kIn M.makes M.init (beq_iff_eq.mp M.fn) (codeAny_mono (F.run _ X.stack _ _ ⟨Value.ref (s.heap.objs.size+1) :: us,[]⟩ (Value.ref (s.heap.objs.size+1) :: (us++ds)) _ _ E (hr.make C us [])
  (I2.env0.make C us []) (hb _ (Value.ref (s.heap.objs.size+1) :: us) I2.kIn hl) r2 hq) λr s' hq'=>?_))
 cases r with
 | error e=>exact hx pins σ _ _ e s' I2 hq'
 | ok fl =>
  cases fl with
  | ret u =>
   obtain ⟨v,H',I3,rv,ev,q3⟩:=I2.after hq'
   subst ev
   exact ⟨rv,⟨V.ref (s.heap.objs.size+1),H',I3,rfl,q3⟩⟩
  | next=>exact False.elim hq'
  | brk=>exact False.elim hq'
  | cont=>exact False.elim hq'
theorem zgx (M:Mk X.K C f) (F:FnOk X.prog X.w X.K X.mg X.base CX k f fd ps sp) (hr:Room (k+1) X.A) (hg:Gl X x) (hm:X.mg x=some (.ref C)) (hb:zcY X.K fd ps ds) (hd:Vals dvs ds) (hx:zdH CX X E)
  (ha:PA X (e :: es) t) (hdb:(x == ("__debug__":Str))=false:=by decide) (he:starEach (e :: es) X.env=(false,eval e X.env) :: starEach es X.env:=by rfl) (hpl:(backTo pos (starEach es X.env)).any (·.1)=false:=by rfl) :
  PE X (.Call (.Name x p) (e :: es) [] pos) (zjq C sp dvs E t):=by
 intro pins s σ H Q I h
 refine wpAny_Call_Name_kw (ld_glob I hg hm ?_ hdb)
 refine W.callWith_K (h₀:=X.base) I.ok.mod.kin M.kp (thn (ha pos pins s σ H _ I h) λus s1 ⟨vs,H1,I1,r,q⟩=>⟨I1.kIn,?_⟩) he hpl
 exact zgW M F hr hb hd hx I1 r q
end
section
variable {X:Cx} {CX:CXT} {k:Nat} {f C:Addr} {fd:FuncData} {ps ks:List Str} {sp:Sp} {E:XK} {x m:Str} {p pos apos kpos:Pos} {e o:Expr} {es:List Expr} {kws:List Keyword} {te ta:TE} {t tk:TA} {nm:Option Str}
structure KBinds (K:W.Frag) (fd:FuncData) (ps ks:List Str) (g:List Value->List Value->List Value) (gV:List V->List V->List V):Prop where
 to:∀ (s:Shared) (us ws:List Value),K.In s.heap->(g us ws).length=ps.length->BindsTo s fd ⟨us,ks.zip ws⟩ (ps.zip (g us ws))
 rel:∀ {vs:List V} {us:List Value} {zs:List V} {ws:List Value},Vals vs us->Vals zs ws->Vals (gV vs zs) (g us ws)
variable {g:List Value->List Value->List Value} {gV:List V->List V->List V}
end
structure FnScope (N P:List Str) (sc:Scope):Prop where
 kind:sc.kind=.function
 co:sc.isCoroutine=false
 gen:sc.isGenerator=false
 nd:N.Nodup
 pre:N.take P.length=P
 par:∀ x∈P,sc.names.lookup x=some .local∨sc.names.lookup x=some .cell
 nofree:∀ y∈sc.names,y.2≠.free
theorem zeD {kindOf:Str->Option NameKind} {x:Str}:∀ {binds:List (Str×Value)} {m:Str->Option Value},(∀ v,(x,v) ∉ binds)->bindL kindOf binds m x=m x
 | [],_,_=>rfl
 | (n,v) :: r,m,h=>by
  unfold bindL
  rw [zeD λw hw=>h w (List.mem_cons_of_mem _ hw)]
  split
  ·have:x≠n:=by rintro rfl;exact h v List.mem_cons_self
   simp [this]
  ·rfl
theorem bindC_out {kindOf:Str->Option NameKind} {x:Str}:∀ {binds:List (Str×Value)} {m:Str->Option Value},(∀ v,(x,v) ∉ binds)->bindC kindOf binds m x=m x
 | [],_,_=>rfl
 | (n,v) :: r,m,h=>by
  unfold bindC
  rw [bindC_out λw hw=>h w (List.mem_cons_of_mem _ hw)]
  split
  ·rfl
  ·have:x≠n:=by rintro rfl;exact h v List.mem_cons_self
   simp [this]
theorem bindL_get {kindOf:Str->Option NameKind} {x:Str} {v:Value}:∀ {P:List Str} {vs:List Value} {i:Nat} {m:Str->Option Value},P.Nodup->P[i]?=some x->vs[i]?=some v->kindOf x=some .local →
  bindL kindOf (P.zip vs) m x=some v
 | [],_,_,_,_,h,_,_=>by simp at h
 | _ :: _,[],_,_,_,_,h,_=>by simp at h
 | p :: P,w :: vs,0,m,nd,h1,h2,hk=>by
  simp at h1 h2;subst h1;subst h2
  show bindL kindOf ((p,w) :: P.zip vs) m p=_
  unfold bindL
  rw [zeD λv hv=>(List.nodup_cons.mp nd).1 (List.of_mem_zip hv).1,if_pos hk]
  simp
 | p :: P,w :: vs,i+1,m,nd,h1,h2,hk=>by
  show bindL kindOf ((p,w) :: P.zip vs) m x=_
  unfold bindL
  exact bindL_get (i:=i) (List.nodup_cons.mp nd).2 (by simpa using h1) (by simpa using h2) hk
theorem zeB {kindOf:Str->Option NameKind} {x:Str} {v:Value}:∀ {P:List Str} {vs:List Value} {i:Nat} {m:Str->Option Value},P.Nodup->P[i]?=some x->vs[i]?=some v->kindOf x≠some .local →
  bindC kindOf (P.zip vs) m x=some v
 | [],_,_,_,_,h,_,_=>by simp at h
 | _ :: _,[],_,_,_,_,h,_=>by simp at h
 | p :: P,w :: vs,0,m,nd,h1,h2,hk=>by
  simp at h1 h2;subst h1;subst h2
  show bindC kindOf ((p,w) :: P.zip vs) m p=_
  unfold bindC
  rw [bindC_out λv hv=>(List.nodup_cons.mp nd).1 (List.of_mem_zip hv).1,if_neg hk]
  simp
 | p :: P,w :: vs,i+1,m,nd,h1,h2,hk=>by
  show bindC kindOf ((p,w) :: P.zip vs) m x=_
  unfold bindC
  exact zeB (i:=i) (List.nodup_cons.mp nd).2 (by simpa using h1) (by simpa using h2) hk
def start (N:List Str) (vs:List V):St:=vs.map some++List.replicate (N.length-vs.length) none
def ze2 (CX:CXT) (P:Program) (w:World) (K:W.Frag) (mg:Str->Option Value) (base:Heap) (N:List Str) (qual:Str) (scope:Scope) (f:Addr) (cd:Value) (A:Around) (outer:List Env) (s:Shared) (H:Hp) (E:XK):Cx where
 prog:=P
 w:=w
 K:=K
 mg:=mg
 base:=base
 A:=A.deeper (envOfC qual scope s.heap.objs.size f cd)
 N:=N
 s₀:=s
 H₀:=H
 env:=envOfC qual scope s.heap.objs.size f cd
 outer:=outer
 stack:=envOfC qual scope s.heap.objs.size f cd :: outer
 ex:=[]
 calm:=true
 fn:=λ_=>true
 pn:=[]
 xe:=λe s'=>wpAny (model P w) (A.deeper (envOfC qual scope s.heap.objs.size f cd)) (leaving (envOfC qual scope s.heap.objs.size f cd) e) (λ_ s''=>CX outer H s E e s'') (λe' s''=>CX outer H s E e' s'') s'
theorem zfI {sc:Scope} {n:Nat} {x:Str} (h:sc.names.lookup x=some .cell):∃ c,(cellsFrom n sc.names []).lookup x=some c:=by
 have q:=W.cellsFrom_some sc.names n [] (.inl h)
 exact Option.isSome_iff_exists.mp q
theorem zgA {CX:CXT} {P:Program} {w:World} {K:W.Frag} {mg:Str->Option Value} {base:Heap} {N ps:List Str} {qual:Str} {scope:Scope} {f:Addr} {cd:Value} {A:Around} {outer:List Env} {s s1:Shared} {H:Hp} {E:XK} {us:List Value} {vs:List V}
  (S:FnScope N ps scope) (hd:A.handled=none) (e0:Env0 P w K mg base A outer s H) (hl:vs.length=ps.length) (r:Vals vs us)
  (x:InCallC s s.heap.objs.size (bindL (envOfC qual scope s.heap.objs.size f cd).kindOf (ps.zip us) λ_=>none) (cellsFrom (s.heap.objs.size+1) scope.names []) (bindC (envOfC qual scope s.heap.objs.size f cd).kindOf (ps.zip us) λ_=>none) s1) :
  Inv (ze2 CX P w K mg base N qual scope f cd A outer s H E) [] (start N vs) H s1:=by
 have hpl:ps.length≤N.length:=by have:=congrArg List.length S.pre;rw [List.length_take] at this;omega
 obtain ⟨h1,tk,rfl,hk⟩:=x.done
 have noA:∀ b:Addr,b ∉ (ze2 CX P w K mg base N qual scope f cd A outer s H E).ex:=λb z=>absurd (show b∈([]:List Addr) from z) (by simp)
 refine ⟨⟨e0.mod,S.kind,rfl,rfl,Nat.le_refl _,λy z c h1 h2=>?_,λy hy=>?_,λy c _ h=>?_,λ_=>hd,Around.frames_deeper e0.frames,.inr ⟨rfl,rfl⟩,λb z=>absurd z (noA b),e0.bs,e0.bsz,λb _ _=>noA b,λb z=>absurd z (noA b),e0.funs,e0.frf⟩,
  rfl,e0.bare,Un.kept hk,⟨_,x.toInCall.ns,λi y v h1 h2 h3=>?_⟩,λy c h=>⟨_,x.cell y c h⟩,e0.hok.fresh (Nat.le_refl _),λy c h=>?_,λp hp=>absurd (show p∈([]:List (Addr×Obj)) from hp) (by simp),e0.hok.kept hk,?_⟩
 ·exact name_of_addr x.apart (PySem.mem_of_lookup h1) (PySem.mem_of_lookup h2)
 ·have hy:scope.names.lookup y=some .cell∨scope.names.lookup y=some .free:=hy
  rcases hy with hy | hy
  ·exact zfI hy
  ·exact absurd rfl (S.nofree _ (PySem.mem_of_lookup hy))
 ·exact Nat.le_of_lt (x.above y c (PySem.mem_of_lookup h))
 ·have hi:i<vs.length:=by
   unfold start at h2
   by_cases hi:i<vs.length
   ·exact hi
   ·rw [List.getElem?_append_right (by simpa using hi)] at h2
    rw [List.getElem?_replicate] at h2
    split at h2<;>cases h2
  have ha:vs[i]?=some v:=by
   unfold start at h2
   rw [List.getElem?_append_left (by simpa using hi),List.getElem?_map] at h2
   cases e:vs[i]? with
   | none=>rw [e] at h2;cases h2
   | some a=>rw [e] at h2;cases h2;rfl
  obtain ⟨u,hu,rv⟩:=r.get ha
  have hp:ps[i]?=some y:=by
   rw [← S.pre,List.getElem?_take_of_lt (by omega)];exact h1
  have ndP:ps.Nodup:=by rw [← S.pre];exact S.nd.sublist (List.take_sublist _ _)
  refine ⟨u,rv,?_⟩
  rcases S.par y (List.mem_of_getElem? hp) with k | k
  ·exact .inl ⟨k,bindL_get ndP hp hu k⟩
  ·obtain ⟨c,e⟩:=zfI (n:=s.heap.objs.size+1) k
   refine .inr ⟨.inl k,c,e,?_⟩
   have q:=x.cell y c e
   rw [zeB ndP hp hu (by show scope.names.lookup y≠_;rw [k];decide)] at q
   exact q
 ·exact e0.hok.fresh (Nat.le_of_lt (x.above y c (PySem.mem_of_lookup h)))
 ·unfold start
  show _=N.length
  rw [List.length_append,List.length_map,List.length_replicate]
  omega
theorem zjX {CX:CXT} {P:Program} {w:World} {K:W.Frag} {mg:Str->Option Value} {base:Heap} {k:Nat} {f:Addr} {name qual:Str} {params:Arguments} {body:List Stmt} {scope:Scope} {dV kV doc pm cdv ct oc:Value} {an od:Option Addr}
  {osl:Array (Option Value)} {N ps:List Str} {sp:Sp} (lk:K.lookup f=some ⟨oc,od,.func (W.fnOf name qual params body scope dV kV doc pm an cdv ct),osl⟩) (hcd:W.codeIn K cdv qual=true) (S:FnScope N ps scope)
  (len:∀ vs H Q E,sp vs H Q E->vs.length=ps.length)
  (hbody:∀ (A:Around) (outer:List Env) (s:Shared) (H:Hp) (vs:List V) (Q:VK) (E:XK),Room k (A.deeper (envOfC qual scope s.heap.objs.size f cdv))->sp vs H Q E →
   ∃ t,PSs (ze2 CX P w K mg base N qual scope f cdv A outer s H E) body t∧t { nx:=λ_ H'=>Q .non H',rt:=Q } (start N vs) H) :
  FnOk P w K mg base CX (k+1) f (W.fnOf name qual params body scope dV kV doc pm an cdv ct) ps sp:=by
 refine ⟨len,λA outer s H args us vs Q E hr e0 hb r hsp=>?_⟩
 have hl:=len _ _ _ _ hsp
 have KX:K.In s.heap:=e0.mod.kin.keeps λb o e=>(e0.bs b o e).1
 have lim:s.heap.NoLimit:=e0.mod.nolimit.keeps λb o e=>(e0.bs b o e).1
 have hkind:∀ y∈ps.zip us,scope.names.lookup y.1=some .local∨(scope.names.lookup y.1=some .cell∧((cellsFrom (s.heap.objs.size+1) scope.names []).lookup y.1).isSome=true):=λ⟨n,v⟩ hy=>by
  rcases S.par n (List.of_mem_zip hy).1 with q | q
  ·exact .inl q
  ·exact .inr ⟨q,W.cellsFrom_some _ _ _ (.inl q)⟩
 refine codeAny_call_function hr.depth (KX _ _ lk) rfl S.co S.gen rfl (W.codeRec_of KX hcd) (hb _ _ _ _ ?_)
 refine wpAny_newFunctionEnv_cells S.kind hkind λenv he s1 x=>?_
 subst he
 refine ⟨lim.keeps x.toInCall.keep,codeAny_func ?_⟩
 obtain ⟨t,ht,hq⟩:=hbody A outer s H vs Q E (hr.deeper _) hsp
 have I:Inv (ze2 CX P w K mg base N qual scope f cdv A outer s H E) [] (start N vs) H s1:=zgA S hr.hd e0 hl r x
 refine wpAny_mono (ht [] s1 (start N vs) H _ I hq) (λfl s' hs=>?_) λe s' hs=>hs
 have fin:∀ {σ':St} {H':Hp} {v:V} {u:Value},Inv (ze2 CX P w K mg base N qual scope f cdv A outer s H E) [] σ' H' s'->RelV v u->Q v H'->CE outer P w H s Q u s' :=
  λ{σ' H' v u} J rv q=>⟨v,H',J.os,J.bare,J.base,J.hok,rv,q⟩
 cases fl with
 | ret u =>
  obtain ⟨v,σ',H',J,rv,q⟩:=hs
  exact fin J rv q
 | next =>
  obtain ⟨σ',H',J,q⟩:=hs
  exact fin (v:=V.non) (u:=Value.none) J rfl q
 | brk =>
  obtain ⟨_,_,_,q⟩:=hs
  exact False.elim q
 | cont =>
  obtain ⟨_,_,_,q⟩:=hs
  exact False.elim q
end L2
namespace L2
open PySem PySem.Spec PyProof.Rows
section
variable {X:Cx} {x:Str} {p pos:Pos} {e:Expr} {es:List Expr} {t:TA} {id T:String} {r:List V->Hp->VK->Prop}
def tCB (r:List V->Hp->VK->Prop) (t:TA):TE:=λσ H Q=>t σ H λvs H1=>r vs H1 Q
theorem pe_callB (hc:zc6 X (.builtin id) r) (hg:Gl X x) (hm:X.mg x=none) (hv:bootBuiltins x=some (.builtin id)) (ha:PA X (e :: es) t) (hn:x≠"__name__":=by decide) (hdb:(x == ("__debug__":Str))=false:=by decide)
  (he:starEach (e :: es) X.env=(false,eval e X.env) :: starEach es X.env:=by rfl) (hpl:(backTo pos (starEach es X.env)).any (·.1)=false:=by rfl):PE X (.Call (.Name x p) (e :: es) [] pos) (tCB r t):=by
 intro pins s σ H Q I h
 refine wpAny_Call_Name_kw (ld_blt I hg hm hv ?_ hn hdb)
 exact PyProof.Rows.callWith_builtin1 (thn (ha pos pins s σ H _ I h) λus s1 ⟨vs,H1,I1,r1,q1⟩=>hc pins s1 σ H1 vs us Q I1 r1 q1) he hpl
theorem zdb (hc:zc6 X (.type T) r) (hg:Gl X x) (hm:X.mg x=none) (hv:bootBuiltins x=some (.type T)) (ha:PA X (e :: es) t) (hn:x≠"__name__":=by decide) (hdb:(x == ("__debug__":Str))=false:=by decide)
  (he:starEach (e :: es) X.env=(false,eval e X.env) :: starEach es X.env:=by rfl) (hpl:(backTo pos (starEach es X.env)).any (·.1)=false:=by rfl):PE X (.Call (.Name x p) (e :: es) [] pos) (tCB r t):=by
 intro pins s σ H Q I h
 refine wpAny_Call_Name_kw (ld_blt I hg hm hv ?_ hn hdb)
 exact PyProof.Rows.callWith_type1 (thn (ha pos pins s σ H _ I h) λus s1 ⟨vs,H1,I1,r1,q1⟩=>hc pins s1 σ H1 vs us Q I1 r1 q1) he hpl
end
end L2
namespace HT
open PySem PyProof.Rows
section
open PySem.SeqAt
open PySem.AutoSeq1 (wpAny_loadPart')
open PySem.MeetsSeq PySem.MeetsSeq2 PySem.MeetsSeq3
end
section
variable {prog:Program} {w:World} {A:Around} {E:Value->Shared->Prop} {s:Shared}
def sIx (n d:Nat):Option Int->Nat
 | none=>d
 | some v=>if v<0 then (v+(n:Int)).toNat else min v.toNat n
theorem sIx_nat (n d k:Nat):sIx n d (some (k:Int))=min k n:=by
 show (if (k:Int)<0 then ((k:Int)+(n:Int)).toNat else min (k:Int).toNat n)=min k n
 rw [if_neg (by omega),Int.toNat_natCast]
end
end HT
namespace L2
open PySem PySem.Spec PyProof.Rows
abbrev TO:=St->Hp->(Option Int->Hp->Prop)->Prop
def PO (X:Cx) (e:Option Expr) (t:TO):Prop :=
 ∀ (pins:List (Addr×Obj)) (s:Shared) (σ:St) (H:Hp) (Q:Option Int->Hp->Prop),Inv X pins σ H s->t σ H Q →
  wpAny (model X.prog X.w) X.A (evalPart e X.env) (λu s'=>∃ o H',Inv X pins σ H' s'∧IsPart u o∧Q o H') X.xe s
def zgO:TO:=λ_ H Q=>Q none H
def zjf (t:TE):TO:=λσ H Q=>t σ H λx H1=>∃ i,x=.int i∧Q (some i) H1
section
variable {X:Cx} {e:Expr} {te:TE} {lo hi:Option Expr} {tl th:TO} {pos p2:Pos}
theorem zfi:PO X none zgO:=by
 intro pins s σ H Q I h
 rw [evalPart_none]
 exact wpAny_pure ⟨none,H,I,.none,h⟩
theorem zdI (h:PE X e te):PO X (some e) (zjf te):=by
 intro pins s σ H Q I hw
 rw [evalPart_some]
 refine thn (h pins s σ H _ I hw) λu s1 ⟨x,H1,I1,r1,q1⟩=>?_
 obtain ⟨i,rfl,q⟩:=q1
 obtain ⟨t,rfl⟩:=r1
 exact ⟨some i,H1,I1,.int i t,q⟩
def SlR (X:Cx) (r:V->Option Int->Option Int->Hp->VK->Prop):Prop :=
 ∀ (pins:List (Addr×Obj)) (s:Shared) (σ:St) (H:Hp) (x:V) (v vl vu:Value) (lo hi:Option Int) (sl:Addr) (Q:VK),Inv X pins σ H s->RelV x v->s.heap.IsSliceOf sl vl vu .none->IsPart vl lo->IsPart vu hi->r x lo hi H Q →
  ∃ T id,typeLookup (.type T) "__getitem__"=pure (some (.builtin id))∧s.TypeIs v T∧wpAny (model X.prog X.w) X.A (getItem v (.ref sl)) (EP X pins σ Q) X.xe s
def tSl (r:V->Option Int->Option Int->Hp->VK->Prop) (te:TE) (tl th:TO):TE:=λσ H Q=>te σ H λx H1=>tl σ H1 λl H2=>th σ H2 λu H3=>r x l u H3 Q
theorem zdE {r:V->Option Int->Option Int->Hp->VK->Prop} (hr:SlR X r) (he:PE X e te) (hl:PO X lo tl) (hu:PO X hi th):PE X (.Subscript e (.Slice lo hi none p2) pos) (tSl r te tl th):=by
 intro pins s σ H Q I h
 refine Subscript_ (thn (he pins s σ H _ I h) λv s1 ⟨x,H1,I1,r1,q1⟩=>?_)
 refine wpAny_Slice (thn (hl pins s1 σ H1 _ I1 q1) λvl s2 ⟨l,H2,I2,pl,q2⟩=>thn (hu pins s2 σ H2 _ I2 q2) λvu s3 ⟨u,H3,I3,pu,q3⟩=>?_)
 rw [evalPart_none]
 refine wpAny_pure ?_
 have I4:Inv X pins σ H3 { s3 with heap:=s3.heap.push { cls:=.type "slice",data:=.fields #[vl,vu,.none] } }:=I3.kept (t':=s3.toks) λb ob q=>Heap.get?_push_of_some _ q
 obtain ⟨T,id,hT,ht,hg⟩:=hr pins { s3 with heap:=s3.heap.push { cls:=.type "slice",data:=.fields #[vl,vu,.none] } } σ H3 x v vl vu l u s3.heap.objs.size Q I4 r1 (Heap.IsSliceOf.new ..) pl pu q3
 show wpAny (model X.prog X.w) X.A (subscriptTail e (.Slice lo hi none p2) v (.ref s3.heap.objs.size)) (EP X pins σ Q) X.xe { s3 with heap:=s3.heap.push { cls:=.type "slice",data:=.fields #[vl,vu,.none] } }
 exact tail_any (ops:=[.ref s3.heap.objs.size,v]) ht hT hg (by with_unfolding_all rfl)
def zjx (xs:List V) (lo hi:Option Int):List V:=(xs.drop (HT.sIx xs.length 0 lo)).take (HT.sIx xs.length xs.length hi-HT.sIx xs.length 0 lo)
theorem zfj (xs:List V) (lo hi:Option Int):(zjx xs lo hi).length≤xs.length:=by
 unfold zjx
 rw [List.length_take,List.length_drop]
 omega
end
end L2
namespace L2
open PySem PySem.Spec PyProof.Rows
def ixN (n:Nat) (i:Int):Option Nat:=if 0≤i then (if i<n then some i.toNat else none) else if -(n:Int)≤i then some (i+n).toNat else none
def atI {α:Type} (xs:List α) (i:Int):Option α:=(ixN xs.length i).bind λj=>xs[j]?
theorem zhV {n:Nat} {i:Int} {j:Nat} (h:ixN n i=some j):seqIndex? i n=some j∧j<n∧-(n:Int)≤i∧i<n:=by
 unfold ixN at h
 by_cases h0:0≤i
 ·rw [if_pos h0] at h
  by_cases h1:i<n
  ·rw [if_pos h1] at h
   have e:i.toNat=j:=Option.some.inj h
   exact ⟨by rw [seqIndex_of h0 h1,e],by omega,by omega,h1⟩
  ·rw [if_neg h1] at h;cases h
 ·rw [if_neg h0] at h
  by_cases h1:-(n:Int)≤i
  ·rw [if_pos h1] at h
   have e:(i+n).toNat=j:=Option.some.inj h
   exact ⟨by rw [seqIndex_neg (by omega) h1,e],by omega,h1,by omega⟩
  ·rw [if_neg h1] at h;cases h
theorem atI_get {α:Type} {xs:List α} {i:Int} {v:α} (h:atI xs i=some v):∃ j,seqIndex? i xs.length=some j∧xs[j]?=some v∧j<xs.length∧-(xs.length:Int)≤i∧i<xs.length:=by
 unfold atI at h
 cases e:ixN xs.length i with
 | none=>rw [e] at h;cases h
 | some j =>
  rw [e] at h
  obtain ⟨h1,h2,h3,h4⟩:=zhV e
  exact ⟨j,h1,h,h2,h3,h4⟩
def zh6 (b:Expr):Prop:=∀ o i,subscripted b false o i=operate [o,i] (getItem o i)
def IxR (X:Cx) (r:R2):Prop :=
 ∀ (value slice:Expr) (pins:List (Addr×Obj)) (s:Shared) (σ:St) (H:Hp) (x y:V) (v u:Value) (Q:VK),Inv X pins σ H s->RelV x v->RelV y u->r x y H Q →
  subscripted slice false v u=operate [v,u] (getItem v u)->wpAny (model X.prog X.w) X.A (subscriptTail value slice v u) (EP X pins σ Q) X.xe s
def MtR (X:Cx) (id:String) (r:V->List V->Hp->VK->Prop):Prop :=
 ∀ (pins:List (Addr×Obj)) (s:Shared) (σ:St) (H:Hp) (x:V) (xs:List V) (v:Value) (us:List Value) (Q:VK),Inv X pins σ H s->RelV x v->Vals xs us->r x xs H Q →
  wpAny (model X.prog X.w) X.A (call (.builtin id) (v :: us)) (EP X pins σ Q) X.xe s
section
variable {X:Cx} {a b:Expr} {ta tb:TE} {pos:Pos}
theorem pe_ix {r:R2} (hr:IxR X r) (ha:PE X a ta) (hb:PE X b tb) (hs:zh6 b):PE X (.Subscript a b pos) (tOp r ta tb):=by
 intro pins s σ H Q I h
 exact Subscript_ (binT ha hb I h λv u s2 x y H2 I2 rx ry q=>hr a b pins s2 σ H2 x y v u Q I2 rx ry q (hs _ _))
def zjF (K:W.Frag):R2:=λx y H Q=>∃ p xs i v,x=.ref p∧y=.int i∧SqL K H p xs∧atI xs i=some v∧Q v H
theorem zif:IxR X (zjF X.K):=by
 intro value slice pins s σ H x y v u Q I rx ry h hs
 obtain ⟨p,xs,i,z,rfl,rfl,hq,he,q⟩:=h
 cases rx
 obtain ⟨t,rfl⟩:=ry
 obtain ⟨its,r,pl,hz⟩:=I.list hq
 obtain ⟨j,h1,h2,h3,h4,h5⟩:=atI_get he
 obtain ⟨w,ew,rw'⟩:=r.get h2
 have hl:=r.length
 have hn:=zhF
 have fin:EP X pins σ Q w s:=⟨z,H,I,rw',q⟩
 by_cases h0:0≤i
 ·have hj:i.toNat=j:=by
   rw [seqIndex_of h0 h5] at h1
   exact Option.some.inj h1
  exact item_listR pl.isList h0 (by omega) (by rw [hj];simpa using ew) fin hs
 ·have hj:(i+(its.toArray.size:Int)).toNat=j:=by
   rw [seqIndex_neg (by omega) h4] at h1
   rw [List.size_toArray,← hl]
   exact Option.some.inj h1
  exact subscriptTail_builtinR (x:=w) pl.isList.typeIs slot_list_getitem.lookup
   (wpAny_getItem_list_neg (Q:=λr s'=>r=w∧EP X pins σ Q r s') pl.isList (by omega) (by rw [List.size_toArray]<;>omega) (by omega) (by rw [hj];simpa using ew) ⟨rfl,fin⟩) hs
theorem Inv.lst {pins:List (Addr×Obj)} {σ:St} {H:Hp} {s:Shared} {p:Addr} {xs:List V} (I:Inv X pins σ H s) (h:H p=some (.lst xs)) :
  ∃ (its:List Value) (n:Nat),Vals xs its∧s.heap.get? p=some { cls:=.type "list",data:=.seq its.toArray n }∧xs.length≤sizeLine:=by
 obtain ⟨z,its,n,r,e⟩:=I.hok p _ h
 exact ⟨its,n,r,e,z⟩
theorem zeu (lo hi:Option Int) (n:Nat):(sliceBounds lo hi none n).1=((HT.sIx n 0 lo:Nat):Int)∧(sliceBounds lo hi none n).2.1=((HT.sIx n n hi:Nat):Int)∧(sliceBounds lo hi none n).2.2=1:=by
 refine ⟨?_,?_,rfl⟩
 ·cases lo with
  | none=>simp [sliceBounds,HT.sIx]
  | some i =>
   simp only [sliceBounds,HT.sIx,Option.getD_none,show (1:Int) > 0 by decide,if_true]
   by_cases h:i<0
   ·simp only [h,if_true]<;>omega
   ·simp only [h,if_false]<;>omega
 ·cases hi with
  | none=>simp [sliceBounds,HT.sIx]
  | some i =>
   simp only [sliceBounds,HT.sIx,Option.getD_none,show (1:Int) > 0 by decide,if_true]
   by_cases h:i<0
   ·simp only [h,if_true]<;>omega
   ·simp only [h,if_false]<;>omega
theorem zef (its:List Value) (lo hi:Option Int):slicePick its.toArray lo hi none=((its.drop (HT.sIx its.length 0 lo)).take (HT.sIx its.length its.length hi-HT.sIx its.length 0 lo)).toArray:=by
 obtain ⟨h1,h2,h3⟩:=zeu lo hi its.toArray.size
 unfold slicePick
 rw [h1,h2,h3]
 simp only [sliceRange_one,pick_run,List.size_toArray]<;>rfl
def zjA (K:W.Frag):V->Option Int->Option Int->Hp->VK->Prop:=λx lo hi H Q=>∃ a xs,x=.ref a∧SqL K H a xs∧∀ p,H p=none->Q (.ref p) (upd H p (.lst (zjx xs lo hi)))
theorem zh3:SlR X (zjA X.K):=by
 intro pins s σ H x v vl vu lo hi sl Q I rx hs pl pu h
 obtain ⟨a,xs,rfl,hx,q⟩:=h
 cases rx
 obtain ⟨its,r,ht,hz⟩:=I.list hx
 have hlen:=r.length
 refine ⟨"list",_,slot_list_getitem.lookup,ht.isList.typeIs,?_⟩
 refine wpAny_getItem_list_slice ht.isList hs pl pu .none (by simp) ?_ (by rw [List.size_toArray]<;>omega)
 rw [zef,← hlen]
 refine ⟨.ref s.heap.objs.size,_,I.laid (t':=s.toks) (o:=.lst (zjx xs lo hi)) (λb ob q=>Heap.get?_push_of_some _ q) (Nat.le_refl _) ?_,rfl,q _ (I.hok.fresh (Nat.le_refl _))⟩
 exact ⟨Nat.le_trans (zfj xs lo hi) hz,_,0,(r.drop (HT.sIx xs.length 0 lo)).take (HT.sIx xs.length xs.length hi-HT.sIx xs.length 0 lo),Heap.get?_push_size _ rfl⟩
def zgX:V->Bool
 | .non=>true
 | .bl _=>true
 | .int _=>true
 | .str _=>true
 | _=>false
def eqV:V->V->Bool
 | .non,.non=>true
 | .bl a,.bl b=>a == b
 | .bl a,.int b=>(if a then 1 else 0) == b
 | .int a,.bl b=>a == (if b then 1 else 0)
 | .int a,.int b=>a == b
 | .str a,.str b=>a == b
 | _,_=>false
theorem eqAt_V {A:Around} {s:Shared} {y x:V} {u v:Value} (ry:RelV y u) (rx:RelV x v) (fy:zgX y=true) (fx:zgX x=true):SeqAt.EqAt A s u v (eqV y x):=by
 cases y with
 | non =>
  cases ry
  cases x with
  | non=>cases rx;exact SeqAt.EqAt.same _
  | bl b=>cases rx;exact SeqAt.EqAt.none_bool b
  | int b=>obtain ⟨t,rfl⟩:=rx;exact SeqAt.EqAt.none_int b t
  | str b=>obtain ⟨t,rfl⟩:=rx;exact SeqAt.EqAt.none_str b t
  | _=>exact absurd (show false=true from fx) Bool.false_ne_true
 | bl a =>
  cases ry
  cases x with
  | non=>cases rx;exact SeqAt.EqAt.bool_none a
  | bl b=>cases rx;exact SeqAt.EqAt.bool_bool a b
  | int b=>obtain ⟨t,rfl⟩:=rx;exact SeqAt.EqAt.bool_int a b t
  | str b=>obtain ⟨t,rfl⟩:=rx;exact SeqAt.EqAt.bool_str a b t
  | _=>exact absurd (show false=true from fx) Bool.false_ne_true
 | int a =>
  obtain ⟨t',rfl⟩:=ry
  cases x with
  | non=>cases rx;exact SeqAt.EqAt.int_none a t'
  | bl b=>cases rx;exact SeqAt.EqAt.int_bool a t' b
  | int b=>obtain ⟨t,rfl⟩:=rx;exact SeqAt.EqAt.int_int a t' b t
  | str b=>obtain ⟨t,rfl⟩:=rx;exact SeqAt.EqAt.int_str a t' b t
  | _=>exact absurd (show false=true from fx) Bool.false_ne_true
 | str a =>
  obtain ⟨t',rfl⟩:=ry
  cases x with
  | non=>cases rx;exact SeqAt.EqAt.str_none a t'
  | bl b=>cases rx;exact SeqAt.EqAt.str_bool a t' b
  | int b=>obtain ⟨t,rfl⟩:=rx;exact SeqAt.EqAt.str_int a t' b t
  | str b=>obtain ⟨t,rfl⟩:=rx;exact SeqAt.EqAt.str_str a t' b t
  | _=>exact absurd (show false=true from fx) Bool.false_ne_true
 | _=>exact absurd (show false=true from fy) Bool.false_ne_true
theorem zer:zc6 X (.builtin "len") (λxs H Q=>∃ p ys,xs=[.ref p]∧(SqL X.K H p ys∨SqT X.K H p ys)∧Q (.int ys.length) H):=by
 intro pins s σ H xs us Q I r h
 obtain ⟨p,ys,rfl,hq,q⟩:=h
 obtain ⟨u,rfl,rx⟩:=zg8 r
 cases rx
 have hn:=zhF
 rcases hq with hq | hq
 ·obtain ⟨its,r',pl,hz⟩:=I.list hq
  have hlen:=r'.length
  exact Calls.call_len_list pl.isList (by simp only [List.size_toArray]<;>omega) ⟨.int ys.length,H,I.tok _,⟨s.toks+1,by rw [List.size_toArray,hlen]⟩,q⟩
 ·obtain ⟨its,r',pl,hz⟩:=I.tuple hq
  have hlen:=r'.length
  exact len_tuple pl (by simp only [List.size_toArray]<;>omega) ⟨.int ys.length,H,I.tok _,⟨s.toks+1,by rw [List.size_toArray,hlen]⟩,q⟩
theorem zeF:zc6 X (.type "list") (λxs H Q=>∃ p ys,xs=[.ref p]∧(SqL X.K H p ys∨SqT X.K H p ys)∧∀ l,H l=none->Q (.ref l) (upd H l (.lst ys))):=by
 intro pins s σ H xs us Q I r h
 obtain ⟨p,ys,rfl,hq,q⟩:=h
 obtain ⟨u,rfl,rx⟩:=zg8 r
 cases rx
 have fin:∀ (its:List Value),Vals ys its->ys.length≤sizeLine->∀ (h':Heap) (c':Nat),(∀ b o',s.heap.get? b=some o'->h'.get? b=some o') →
   h'.get? s.heap.objs.size=some { cls:=.type "list",dict:=none,data:=.seq its.toArray c',slots:=#[] }->EP X pins σ Q (.ref s.heap.objs.size) { s with heap:=h' }:=λits r' hz h' c' kp e =>
  ⟨.ref s.heap.objs.size,_,I.laid (t':=s.toks) kp (Nat.le_refl _) (show zbX X.prog X.w _ h' _ (.lst ys) from ⟨hz,its,c',r',e⟩),rfl,q _ (I.hok.fresh (Nat.le_refl _))⟩
 rcases hq with hq | hq
 ·obtain ⟨its,r',pl,hz⟩:=I.list hq
  have hlen:=r'.length
  obtain ⟨o,ho,hc,n,hd⟩:=pl.isList
  exact call_list_seq p (.inl rfl) ho hc hd (λh' c' kp e=>fin its r' hz h' c' kp e) (by simp only [List.size_toArray]<;>omega)
 ·obtain ⟨its,r',pl,hz⟩:=I.tuple hq
  have hlen:=r'.length
  obtain ⟨o,ho,hc,n,hd⟩:=pl
  exact call_list_seq p (.inr rfl) ho hc hd (λh' c' kp e=>fin its r' hz h' c' kp e) (by simp only [List.size_toArray]<;>omega)
def tyV (K:W.Frag) (T:String) (x:V) (H:Hp):Prop:=match x with
 | .str _=>T="str"
 | .int _=>T="int"
 | .ref p=>(T="list"∧∃ xs,SqL K H p xs)∨(T="tuple"∧∃ o,K.lookup p=some o∧o.cls=.type "tuple"∧o.dict=none) ∨
   (T="dict"∧((∃ kvs,H p=some (.dK kvs))∨∃ kvs,H p=some (.dT kvs)))∨(T="set"∧∃ S n,H p=some (.set S n))
 | _=>False
theorem zja {pins:List (Addr×Obj)} {σ:St} {H:Hp} {s:Shared} {T:String} {x:V} {v:Value} (I:Inv X pins σ H s) (r:RelV x v) (ty:tyV X.K T x H) :
  s.TypeIs v T∧∀ a,v=.ref a->∃ ob,s.heap.get? a=some ob∧ob.dict=none:=by
 cases x with
 | str z =>
  obtain ⟨t,rfl⟩:=r
  cases (show T="str" from ty)
  exact ⟨typeIs_str s z t,λ_ e=>nomatch e⟩
 | int i =>
  obtain ⟨t,rfl⟩:=r
  cases (show T="int" from ty)
  exact ⟨typeIs_int s i t,λ_ e=>nomatch e⟩
 | ref p =>
  cases r
  rcases ty with ⟨rfl,xs,hq⟩ | ⟨rfl,o,hk,hc,hd⟩ | ⟨rfl,hk⟩ | ⟨rfl,S,n,hk⟩
  ·obtain ⟨its,_,pl,_⟩:=I.list hq
   refine ⟨pl.isList.typeIs,λa e=>?_⟩
   cases e
   obtain ⟨o,n,e,c,hd,_⟩:=pl
   exact ⟨o,e,hd⟩
  ·refine ⟨⟨o,I.kIn p o hk,hc⟩,λa e=>?_⟩
   cases e
   exact ⟨o,I.kIn _ o hk,hd⟩
  ·have z:∃ o,s.heap.get? p=some o∧o.ExactDict:=by
    rcases hk with ⟨kvs,hk⟩ | ⟨kvs,hk⟩
    ·obtain ⟨_,_,_,_,o,_,_,e,ex,_⟩:=I.hok p _ hk
     exact ⟨o,e,ex⟩
    ·obtain ⟨_,_,_,_,o,_,_,e,ex,_⟩:=I.hok p _ hk
     exact ⟨o,e,ex⟩
   obtain ⟨o,e,ex⟩:=z
   refine ⟨⟨o,e,ex.1⟩,λa e2=>?_⟩
   cases e2
   exact ⟨o,e,ex.2.1⟩
  ·obtain ⟨o,_,_,_,e,ex,_⟩:=I.hok p _ hk
   refine ⟨⟨o,e,ex.1⟩,λa e2=>?_⟩
   cases e2
   exact ⟨o,e,ex.2.1⟩
 | _=>exact False.elim ty
def tBM (K:W.Frag) (T:String) (r:V->List V->Hp->VK->Prop) (to:TE) (t:TA):TE:=λσ H Q=>to σ H λx H1=>tyV K T x H1∧t σ H1 λxs H2=>r x xs H2 Q
variable {o e:Expr} {es:List Expr} {to:TE} {t:TA} {name:Str} {apos cpos:Pos} {T id:String} {r:V->List V->Hp->VK->Prop}
theorem zjN (pa:PlainAttrs T) (slot:Slot T name id) (hty:typeOf (.builtin id)=pure (.type "method_descriptor")) (hm:MtR X id r) (ho:PE X o to) (ha:PA X (e :: es) t)
  (hbase:attributeBase o name X.env (eval o X.env)=eval o X.env:=by rfl)
  (hfew:((backTo cpos (starEach (e :: es) X.env)).all (λx=>!x.1)&&(backToKw cpos (keywordEach [] X.env)).all (λx=>x.1.isSome)
   &&decide ((e :: es).length+([]:List Keyword).length+(if ([]:List Keyword).isEmpty then 0 else 1)<30))=true:=by rfl)
  (hline:(apos.endLine == cpos.line)=true:=by rfl) (hs:starEach (e :: es) X.env=(false,eval e X.env) :: starEach es X.env:=by rfl) (hplain:(backTo cpos (starEach es X.env)).any (·.1)=false:=by rfl) :
  PE X (.Call (.Attribute o name apos) (e :: es) [] cpos) (tBM X.K T r to t):=by
 intro pins s σ H Q I h
 refine wpAny_Call_method_late hbase hfew hline rfl (thn (ho pins s σ H _ I h) λv s1 ⟨x,H1,I1,r1,ty,q1⟩=>?_)
 obtain ⟨h1,h2⟩:=zja I1 r1 ty
 refine ⟨T,id,pa,slot,hty,h1,h2,?_⟩
 have hA:=ha cpos pins s1 σ H1 _ I1 q1
 rw [hs] at hA ⊢
 refine Calls.callWith_builtin (by show (false||(backTo cpos (starEach es X.env)).any (·.1))=false;rw [hplain]<;>rfl) (Calls.evalArgs_plain ?_)
 exact thn hA λus s2 ⟨vs,H2,I2,r2,q2⟩=>hm pins s2 σ H2 x vs v us Q I2 r1 r2 q2
end
end L2
namespace L2
open PySem PySem.Spec PyProof.Rows
def MtM (X:Cx) (id:String) (r:V->List V->Hp->VK->Prop):Prop :=
 ∀ (pins:List (Addr×Obj)) (s:Shared) (σ:St) (H:Hp) (x:V) (xs:List V) (v:Value) (us:List Value) (Q:VK),Inv X pins σ H s->RelV x v->Vals xs us->r x xs H Q →
  wpAny (model X.prog X.w) X.A (call (.builtin id) (v :: us)) (EP X pins σ Q) X.xe s
theorem Vals.one:∀ {x:V} {us:List Value},Vals [x] us->∃ u,us=[u]∧RelV x u
 | _,_,.cons r .nil=>⟨_,rfl,r⟩
theorem Vals.rep {xs:List V} {us:List Value} (h:Vals xs us):∀ k:Nat,Vals (List.replicate k xs).flatten (List.replicate k us).flatten
 | 0=>.nil
 | k+1=>by
  rw [List.replicate_succ,List.replicate_succ,List.flatten_cons,List.flatten_cons]
  exact Vals.append h (Vals.rep h k)
theorem zeT (its:List Value):∀ (k:Nat) (acc:List Value),
  List.foldl (λx1 x2=>x1++x2) acc.toArray (List.replicate k its.toArray)=(acc++(List.replicate k its).flatten).toArray
 | 0,acc=>by simp
 | k+1,acc=>by
  have e:acc.toArray++its.toArray=(acc++its).toArray:=by simp
  have e2:(acc++its)++(List.replicate k its).flatten=acc++(List.replicate (k+1) its).flatten:=by
   rw [List.replicate_succ,List.flatten_cons,List.append_assoc]
  rw [← e2,← zeT its k (acc++its),← e,List.replicate_succ,List.foldl_cons]
section
variable {X:Cx} {pins:List (Addr×Obj)} {σ:St} {H:Hp} {s:Shared} {l b:Addr} {xs ys zs:List V}
theorem Inv.lset {its its':List Value} {n:Nat} {f:Array Value->Array Value} {t':Nat} (I:Inv X pins σ H s) (hH:H l=some (.lst xs))
  (e:s.heap.get? l=some { cls:=.type "list",data:=.seq its.toArray n }) (hf:f its.toArray=its'.toArray) (hv:Vals ys its') (hz:ys.length≤sizeLine) :
  Inv X pins σ (upd H l (.lst ys)) { s with heap:=s.heap.update l (Obj.mapSeq f),toks:=t' }:=by
 have q:=PySem.IsL.update e f
 rw [hf] at q
 refine I.write (x:=l) (e:=l) (by rw [hH];exact trivial) (.inl rfl) (λb' u hb hu=>(Heap.get?_update_other s.heap (Obj.mapSeq f) (Ne.symm hb)).trans hu) ⟨_,q⟩ ?_
 exact ⟨hz,its',_,hv,q⟩
theorem Inv.lnew {its:List Value} {t':Nat} (I:Inv X pins σ H s) (hv:Vals ys its) (hz:ys.length≤sizeLine) :
  Inv X pins σ (upd H s.heap.objs.size (.lst ys)) { s with heap:=s.heap.push { cls:=.type "list",data:=.seq its.toArray },toks:=t' } :=
 I.laid (λ_ _ q=>Heap.get?_push_of_some _ q) (Nat.le_refl _) ⟨hz,its,0,hv,Heap.get?_push_size _ rfl⟩
theorem Inv.fresh (I:Inv X pins σ H s):H s.heap.objs.size=none:=I.hok.fresh (Nat.le_refl _)
theorem Inv.lstM (I:Inv X pins σ H s) (hH:H l=some (.lst xs)):xs.length≤sizeLine∧∃ (its:List Value) (n:Nat),Vals xs its∧xs.length=its.length∧s.heap.get? l=some { cls:=.type "list",data:=.seq its.toArray n }:=by
 obtain ⟨z,its,n,r,e⟩:=I.hok l _ hH
 exact ⟨z,its,n,r,r.length,e⟩
theorem zfs {n:Nat} (h:n≤sizeLine):Builtin.List.listTooLong n=false:=by
 unfold Builtin.List.listTooLong
 exact decide_eq_false (by omega)
end
section
variable {X:Cx}
def rAppend:V->List V->Hp->VK->Prop:=λx vs H Q=>∃ l xs y,x=.ref l∧vs=[y]∧H l=some (.lst xs)∧xs.length<sizeLine∧Q .non (upd H l (.lst (xs++[y])))
theorem mt_append:MtM X "list.append" rAppend:=by
 intro pins s σ H x vs v us Q I rx rv h
 obtain ⟨l,xs,y,rfl,rfl,hH,hz,q⟩:=h
 cases rx
 obtain ⟨u,rfl,ru⟩:=rv.one
 obtain ⟨z,its,n,r,hl,e⟩:=I.lstM hH
 refine call_meets F.slot_list_append ⟨_,e,rfl⟩ F.entry_list_append (F.args_list_append_2 _ _) (PySem.list_append l its.toArray n u (by rw [List.size_toArray];omega)) ⟨e,?_⟩
 refine ⟨.non,_,I.lset (its':=its++[u]) hH e (by simp) (r.append (.cons ru .nil)) ?_,rfl,q⟩
 rw [List.length_append,List.length_singleton]
 omega
def rExtend:V->List V->Hp->VK->Prop:=λx vs H Q=>∃ l b xs zs,x=.ref l∧vs=[.ref b]∧H l=some (.lst xs)∧H b=some (.lst zs)∧xs.length+zs.length≤sizeLine∧Q .non (upd H l (.lst (xs++zs)))
theorem ziT:MtM X "list.extend" rExtend:=by
 intro pins s σ H x vs v us Q I rx rv h
 obtain ⟨l,b,xs,zs,rfl,rfl,hH,hB,hz,q⟩:=h
 cases rx
 obtain ⟨u,rfl,ru⟩:=rv.one
 cases ru
 obtain ⟨z,its,n,r,hl,e⟩:=I.lstM hH
 obtain ⟨z2,its2,n2,r2,hl2,e2⟩:=I.lstM hB
 have hsz:its.toArray.size+its2.toArray.size≤sizeLine:=by rw [List.size_toArray,List.size_toArray];omega
 have hlong:¬ (!its.toArray.isEmpty&&Builtin.List.listTooLong (its.toArray.size+its2.toArray.size))=true:=by
  rw [zfs hsz,Bool.and_false]
  exact Bool.false_ne_true
 refine call_meets F.slot_list_extend ⟨_,e,rfl⟩ F.entry_list_extend (F.args_list_extend_2 _ _)
  (AutoSeq1.list_extend_list_list_0 l its.toArray n b its2.toArray n2 hlong (by rw [List.size_toArray];omega) (by omega)) ⟨e,e2,?_⟩
 refine ⟨.non,_,I.lset (its':=its++its2) hH e (by simp) (r.append r2) ?_,rfl,q⟩
 rw [List.length_append]
 omega
def zjP:R2:=λx y H Q=>∃ l b xs zs,x=.ref l∧y=.ref b∧H l=some (.lst xs)∧H b=some (.lst zs)∧xs.length+zs.length≤sizeLine∧∀ p,H p=none->Q (.ref p) (upd H p (.lst (xs++zs)))
theorem zc2:OpR X (binaryOp .Add) zjP:=by
 intro pins s σ H x y v u Q I rx ry h
 obtain ⟨l,b,xs,zs,rfl,rfl,hH,hB,hz,q⟩:=h
 cases rx
 cases ry
 obtain ⟨z,its,n,r,hl,e⟩:=I.lstM hH
 obtain ⟨z2,its2,n2,r2,hl2,e2⟩:=I.lstM hB
 refine PySem.P.add_list e e2 ?_ (by rw [List.size_toArray,List.size_toArray];omega)
 have ea:its.toArray++its2.toArray=(its++its2).toArray:=by simp
 rw [ea]
 exact ⟨.ref _,_,I.lnew (t':=s.toks) (r.append r2) (by rw [List.length_append];omega),rfl,q _ I.fresh⟩
def zjU:R2:=λx y H Q=>∃ l k xs,x=.ref l∧y=.int k∧H l=some (.lst xs)∧-(2^63)≤k∧k<2^63∧xs.length*k.toNat≤sizeLine ∧
 ∀ p,H p=none->Q (.ref p) (upd H p (.lst (List.replicate k.toNat xs).flatten))
theorem zin {α:Type} (xs:List α) (k:Nat):(List.replicate k xs).flatten.length=k*xs.length:=by
 induction k with
 | zero=>simp
 | succ k ih=>rw [List.replicate_succ,List.flatten_cons,List.length_append,ih,Nat.succ_mul,Nat.add_comm]
theorem ziE:OpR X (binaryOp .Mult) zjU:=by
 intro pins s σ H x y v u Q I rx ry h
 obtain ⟨l,k,xs,rfl,rfl,hH,h1,h2,hz,q⟩:=h
 cases rx
 obtain ⟨t,rfl⟩:=ry
 obtain ⟨z,its,n,r,hl,e⟩:=I.lstM hH
 have hlen:its.toArray.size*k.toNat≤sizeLine:=by rw [List.size_toArray,← hl];exact hz
 have hcap:¬ its.toArray.size*k.toNat > (2^63-1)/8:=by
  have:(sizeLine:Nat)≤(2^63-1)/8:=by decide
  omega
 have hfit:¬ (!Builtin.List.listFitsIndex k)=true:=by
  rw [fitsIndex_both h1 h2]
  exact Bool.false_ne_true
 have hlong:¬ Builtin.List.listTooLong (its.toArray.size*k.toNat)=true:=by
  rw [zfs hlen]
  exact Bool.false_ne_true
 have hnew:List.foldl (λx1 x2=>x1++x2) #[] (List.replicate (if its.toArray.isEmpty=true then 0 else k.toNat) its.toArray)=(List.replicate k.toNat its).flatten.toArray:=by
  have f0:∀ m:Nat,List.foldl (λx1 x2=>x1++x2) #[] (List.replicate m its.toArray)=(List.replicate m its).flatten.toArray:=λm=>by
   have:=zeT its m []
   rw [List.nil_append] at this
   exact this
  rw [f0]
  cases its with
  | nil=>simp
  | cons a r'=>rw [if_neg (by simp)]
 refine wpAny_binaryOp_repeat_ref (T:="list") (U:="int") (by decide) ⟨_,e,rfl⟩ (λs'=>typeIs_int s' k t) noFill_list_mul F.fills_int_mul F.slot_int_rmul repeat_list F.slot_int_index.lookup
  (call_meets F.slot_int_rmul (typeIs_int s k t) F.entry_int_rmul (F.args_int_rmul_2 _ _) (int___rmul___int_list k t l its.toArray n)
   ⟨e,rfl,⟨_,e,rfl⟩,call_meets F.slot_list_mul ⟨_,e,rfl⟩ F.entry_list_mul (F.args_list_mul_2 _ _) (AutoListH.list___mul___list_int_3 l its.toArray n k t hfit hcap hlong) ⟨e,?_⟩⟩)
 rw [hnew]
 exact ⟨.ref _,_,I.lnew (t':=s.toks) (r.rep k.toNat) (by rw [zin,Nat.mul_comm];exact hz),rfl,q _ I.fresh⟩
end
section
variable {prog:Program} {w:World} {A:Around} {E:Value->Shared->Prop} {s:Shared}
end
section
variable {X:Cx}
end
end L2
namespace Att
open PySem PySem.W PySem.Calls PyProof.Rows
theorem zdJ {P:Params} {h:Heap}:∀ (ns:List Int) (vs:List Value),WellAll P h vs (ns.map WData.int)->IntsAre vs ns:=by
 intro ns
 induction ns with
 | nil =>
  intro vs w
  rw [List.map_nil] at w
  cases w
  exact .nil
 | cons n ns ih =>
  intro vs w
  rw [List.map_cons] at w
  cases w with
  | cons a b =>
   cases a
   exact .cons _ _ (ih _ b)
theorem script_of {l:OpenLaw} {n:Nat} (hn:l.most=some n) {P:Params} {h:Heap} {args:List WData} {vals:List Value}
  (hpre:l.row.toRowW.claim.pre args=true) (hwl:WellAll P h vals args) :
  ∃ a vs ns,vals=[Value.ref a]∧args=[WData.list (ns.map WData.int)]∧h.get? a=some { cls:=.type "list",data:=.seq vs.toArray }∧IntsAre vs ns∧ns.length≤n:=by
 have hsh:WShape.hasAll [] args [.list .int]=true:=(pre_splitW hpre).1
 have hc:l.pre.holds [] { args:=args }=true:=(pre_splitW hpre).2
 obtain ⟨d,r,rfl,h1,h2⟩:=hasAllW_cons hsh
 obtain rfl:=hasAllW_nil h2
 obtain ⟨xs,rfl,h3⟩:=hasW_list h1
 obtain ⟨ns,rfl⟩:=items_int h3
 have hlen:ns.length≤n:=by
  unfold OpenLaw.pre at hc
  have h4:(WTm.not (.lt (.lit (.int (n:Int))) (.len (.arg 0)))).holds [] { args:=[.list (ns.map .int)] }=true:=by
   have h4:=(holds_andW hc).1
   rw [hn] at h4
   exact h4
  have h5:=condW_of h4 (w_not (w_lt w_lit (w_len_list (w_arg rfl))))
  rw [List.length_map] at h5
  refine Nat.le_of_not_lt λq=>?_
  have q':(n:Int)<((ns.length:Nat):Int):=by omega
  first
   | (rw [decide_eq_true q'] at h5;exact absurd h5 (by decide))
   | (simp at h5;omega)
 cases hwl with
 | cons w1 w2 =>
  cases w2
  cases w1 with
  | list ho hall=>exact ⟨_,_,ns,rfl,rfl,ho,zdJ ns _ hall,hlen⟩
theorem zgo (l:OpenLaw) (args:List WData):l.row.toRowW.claim.post args (.bool true) args=true :=
 postW_of (r:=l.row.toRowW) (X:=(true == true))
  (show WShape.has [] (.bool true) .bool=true by first | rfl | decide | simp [WShape.has,WShape.arms,WShape.armsAll])
  (show (WTm.eq .res (.lit (.bool true))).value [] { args:=args,res:=some (.bool true),after:=args }=some (.bool (true == true)) from w_eq_bool (w_res rfl) w_lit) rfl
theorem attach_call {l:OpenLaw} {n:Nat} {q:Program} {loose:List Str} {XP:(Str->Option Value)->Heap->Prop} {YP:World->Heap->Prop} {d:DefRec}
  (hn:l.most=some n) (hdf:d.params.defaults=[])
  (call:∀ (w:World) (s₀ s₁:Shared) (mg mb:Str->Option Value) (fa:Addr) (o:Obj) (pm cd doc:Value) (a:Addr) (vs:List Value) (ns:List Int),
   Ground q loose [] XP w s₀ mg mb s₁.heap->YP w s₁.heap →
   s₁.heap.get? fa=some o->o.data=.func (docDef d.name d.params d.body d.scope pm cd doc)->s₁.heap.CodeRec cd d.name->mg d.name=some (.ref fa) →
   s₁.heap.get? a=some { cls:=.type "list",data:=.seq vs.toArray }->IntsAre vs ns->ns.length≤n->s₁.gens=#[] →
   codeAny (model l.prog w) callerA (.call (.ref fa) ⟨[.ref a],[]⟩) (λr s'=>r=.ok (.ret (.bool true))∧OldK s₁.heap s'.heap∧s'.os=s₁.os∧AllBare s'.gens) s₁) :
  WalkO q loose XP YP l.row.toRowW d [] (λf vs=>PySem.call f vs):=by
 intro w s₀ s₁ mg mb G Y fa o pm cd doc dV kV ho hd hcd hD hmg hg args vals as hpre hlay hrd hwl hlo
 obtain rfl:dV=.none:=Dflts.none hD hdf
 obtain rfl:kV=.none:=Dflts.noKw hD
 obtain ⟨a,vs,ns,rfl,rfl,hobj,hints,hlen⟩:=script_of hn hpre hwl
 refine enter_call (codeAny_mono (call w s₀ s₁ mg mb fa o pm cd doc a vs ns G Y ho (fd_plain hd) hcd hmg hobj hints hlen hg) λr s' hq=>?_)
 obtain ⟨rfl,h2,h3,h4⟩:=hq
 exact ⟨.inl ⟨.bool true,.bool true,[],rfl,λ_=>rfl,.bool true,zgo l _,λ_=>⟨List.Pairwise.nil,λ_ hm=>(nomatch hm)⟩⟩,h2,h3,h4⟩
section
variable {prog:Program} {w:World} {A:Around} {E:Value->Shared->Prop} {s:Shared} {K:Frag}
end
end Att
namespace L2
open PySem PySem.Spec PyProof.Rows
theorem zeH:∀ {vs:List Value} {ns:List Int},IntsAre vs ns->Vals (ns.map V.int) vs
 | _,_,.nil=>.nil
 | _,_,.cons n t h=>.cons ⟨t,rfl⟩ (zeH h)
def zjW (H:Hp):Prop:=∀ b,H b=none∨∃ o xs,H b=some (.frz o (.lst xs))
theorem zgV {P:Program} {w:World} {K:W.Frag} {mg mb:Str->Option Value} {CX:CXT} {k:Nat} {fa a:Addr} {fd:FuncData} {x:Str} {sp:Sp} {s₁:Shared} {vs:List Value} {ns:List Int}
  (KX:K.In s₁.heap) (hns:s₁.heap.Ns mainGlobals mg) (hb:s₁.heap.Ns builtinsNs mb) (hbb:∀ x:Str,x≠"__name__"->mb x=bootBuiltins x) (hlim:s₁.heap.NoLimit) (hg:s₁.gens=#[])
  (ha:s₁.heap.get? a=some { cls:=.type "list",data:=.seq vs.toArray }) (hi:IntsAre vs ns) (hl:ns.length≤sizeLine) (hr:Room k callerA)
  (F:∀ base:Heap,K.In base->base.Ns mainGlobals mg->FnOk P w K mg base CX k fa fd [x] sp) (hbind:∀ (s:Shared) (u:Value),BindsTo s fd ⟨[u],[]⟩ [(x,u)])
  (hsp:∀ H:Hp,zjW H->SqL K H a (ns.map V.int)->sp [.ref a] H (λv _=>v=.bl true) λ_ _ _=>False)
  (hCX:∀ H e s',CX [] H s₁ (λ_ _ _=>False) e s'->False) :
  codeAny (model P w) callerA (.call (.ref fa) ⟨[.ref a],[]⟩) (λr s'=>r=.ok (.ret (.bool true))∧OldK s₁.heap s'.heap∧s'.os=s₁.os∧AllBare s'.gens) s₁:=by
 have rv:=zeH hi
 have lenV:=hi.length
 have core:∀ H:Hp,zjW H->SqL K H a (ns.map V.int)->HOk P w H s₁.heap->(∀ b,H b≠none->b=a)->(H a≠none->K.lookup a=none) →
   codeAny (model P w) callerA (.call (.ref fa) ⟨[.ref a],[]⟩) (λr s'=>r=.ok (.ret (.bool true))∧OldK s₁.heap s'.heap∧s'.os=s₁.os∧AllBare s'.gens) s₁:=by
  intro H hO hS hok hA hK
  have base_of:∀ {b:Addr} {o:Obj},s₁.heap.get? b=some o->H b=none->(zg7 s₁.heap H).get? b=some o:=λe n=>zha e n
  have noA:∀ {b:Addr} {o:Obj} {es:Array DictEntry} {ep:Nat},s₁.heap.get? b=some o->o.data=.dict es ep->H b=none:=λ{b o es ep} e d=>by
   cases q:H b with
   | none=>rfl
   | some u =>
    have e':b=a:=hA b (by rw [q];simp)
    subst e'
    rw [ha] at e;cases e
    have d':Data.seq vs.toArray _=Data.dict es ep:=d
    cases d'
  have nsK:∀ {b:Addr} {m:Str->Option Value},s₁.heap.Ns b m->(zg7 s₁.heap H).Ns b m:=λ{b m} ⟨o,es,ep,e,d,r⟩=>⟨o,es,ep,base_of e (noA e d),d,r⟩
  have hKb:K.In (zg7 s₁.heap H):=λb o e=>base_of (KX b o e) (by
   cases q:H b with
   | none=>rfl
   | some u =>
    have e':b=a:=hA b (by rw [q];simp)
    subst e'
    rw [hK (by rw [q];simp)] at e;cases e)
  have hM:Mod K mg (zg7 s₁.heap H):=⟨hKb,nsK hns,⟨mb,nsK hb,hbb⟩,let ⟨mc,h1,h2⟩:=hlim;⟨mc,nsK h1,h2⟩⟩
  have e0:Env0 P w K mg (zg7 s₁.heap H) callerA [] s₁ H:=⟨rfl,hM,λb o e=>ziq e,Nat.le_of_eq (zgm _ _),trivial,λb hb=>absurd (show b∈([]:List Addr) from hb) (by simp),hok,.of_eq hg⟩
  refine codeAny_mono ((F _ hKb (nsK hns)).run callerA [] s₁ H ⟨[.ref a],[]⟩ [.ref a] [.ref a] _ _ hr e0 (hbind s₁ (.ref a)) (.cons rfl .nil) (hsp H hO hS)) λr s' h=>?_
  cases r with
  | error e=>exact (hCX H e s' h).elim
  | ok fl =>
   cases fl with
   | next=>exact False.elim h
   | brk=>exact False.elim h
   | cont=>exact False.elim h
   | ret u =>
    obtain ⟨v,H',os,bare,un,hok',r',q⟩:=h
    have q':v=.bl true:=q
    subst q'
    obtain rfl:u=Value.bool true:=r'
    refine ⟨rfl,OldK.of_keep λb o e=>?_,os,bare⟩
    cases q:H b with
    | none=>exact un.keep b o e q (by intro z;exact absurd (show b∈([]:List Addr) from z) (by simp)) (by simp)
    | some u =>
     rcases hO b with z | ⟨ob,xs,z⟩
     ·rw [q] at z;cases z
     ·have z2:=un.frzs b ob _ z
      obtain ⟨e1,_⟩:=hok b _ z
      obtain ⟨e2,_⟩:=hok' b _ z2
      rw [e] at e1;cases e1
      exact e2
 cases hk:K.lookup a with
 | some o =>
  have e:=KX a o hk
  rw [ha] at e
  cases e
  refine core (λ_=>none) (λ_=>.inl rfl) (.inr ⟨_,vs.toArray,_,hk,rfl,rfl,rfl,by rw [List.size_toArray,lenV];exact hl,by simpa using rv⟩) (λb u z=>by have z':(none:Option HO)=some u:=z;cases z') (λb z=>absurd rfl z) λz=>absurd rfl z
 | none =>
  refine core (λb=>if b=a then some (.frz { cls:=.type "list",data:=.seq vs.toArray } (.lst (ns.map V.int))) else none) (λb=>?_) (.inl (.inr ⟨{ cls:=.type "list",data:=.seq vs.toArray },if_pos rfl⟩)) (λb u z=>?_) (λb z=>?_) λ_=>hk
  ·by_cases hb:b=a
   ·exact .inr ⟨_,_,if_pos hb⟩
   ·exact .inl (if_neg hb)
  ·by_cases hb:b=a
   ·have z':=(if_pos hb).symm.trans z
    cases z'
    subst hb
    exact ⟨ha,by rw [List.length_map];exact hl,vs,_,rv,ha⟩
   ·have z':=(if_neg hb).symm.trans z
    cases z'
  ·by_cases hb:b=a
   ·exact hb
   ·exact absurd (if_neg hb) z
end L2
namespace L2
open PySem PySem.Spec PyProof.Rows
theorem zia {l:W.OpenLaw} {n k:Nat} {q:Program} {loose:List Str} {XP:(Str->Option Value)->Heap->Prop} {YP:World->Heap->Prop} {d:DefRec} {K:Params->W.Frag} {CX:World->CXT} {sp:World->Sp} {x:Str}
  (hn:l.most=some n) (hn2:n≤sizeLine) (hdf:d.params.defaults=[]) (hr:Room k callerA)
  (hY:∀ (w:World) (h:Heap),YP w h->(K w.params).In h)
  (F:∀ (w:World) (mg:Str->Option Value) (fa:Addr) (h:Heap),(K w.params).In h->h.Ns mainGlobals mg->mg d.name=some (.ref fa) →
   ∃ fd:FuncData,(∀ (s:Shared) (u:Value),BindsTo s fd ⟨[u],[]⟩ [(x,u)]) ∧
    ∀ base:Heap,(K w.params).In base->base.Ns mainGlobals mg->FnOk l.prog w (K w.params) mg base (CX w) k fa fd [x] (sp w))
  (hsp:∀ (w:World) (H:Hp) (a:Addr) (ns:List Int),ns.length≤n->zjW H->SqL (K w.params) H a (ns.map V.int)->sp w [.ref a] H (λv _=>v=.bl true) λ_ _ _=>False)
  (hCX:∀ (w:World) (H:Hp) (s:Shared) (e:Value) (s':Shared),CX w [] H s (λ_ _ _=>False) e s'->False) :
  W.WalkO q loose XP YP l.row.toRowW d [] (λf vs=>PySem.call f vs):=by
 refine Att.attach_call hn hdf λw s₀ s₁ mg mb fa o pm cd doc a vs ns G Y ho hd hcd hmg hobj hints hlen hg=>?_
 have KX:=hY w _ Y
 obtain ⟨fd,hb,hF⟩:=F w mg fa _ KX G.T.g hmg
 exact zgV KX G.T.g G.T.b G.T.builtins G.T.nolimit hg hobj hints (Nat.le_trans hlen hn2) hr hF hb (λH hO hS=>hsp w H a ns hlen hO hS) λH e s'=>hCX w H s₁ e s'
end L2
namespace L2
open PySem PySem.Spec PyProof.Rows
def zcj (s:Stmt) (j:Nat):Stmt:=match s with
 | .ClassDef _ _ _ body _ _ _ _ _ _ _=>body.getD j (.Pass ⟨0,0,0,0⟩)
 | _=>.Pass ⟨0,0,0,0⟩
def zav (s:Stmt):Arguments:=match s with
 | .FunctionDef _ a _ _ _ _ _ _ _ _=>a
 | _=>{ posonlyargs:=[],args:=[],vararg:=none,kwonlyargs:=[],kw_defaults:=[],kwarg:=none,defaults:=[] }
def zap (s:Stmt):List Stmt:=match s with
 | .FunctionDef _ _ b _ _ _ _ _ _ _=>b
 | _=>[]
def defScope (s:Stmt):Scope:=match s with
 | .FunctionDef _ _ _ _ _ _ sc _ _ _=>sc
 | _=>{ kind:=.function,names:=[],isGenerator:=false,isCoroutine:=false }
abbrev E0:XK:=λ_ _ _=>False
structure Fun (K:W.Frag) (x qual:Str) (st:Stmt) (f:Addr) (fd:FuncData):Prop where
 ex:∃ (oc:Value) (od:Option Addr) (kV doc pm:Value) (an:Option Addr) (cdv ct:Value) (osl:Array (Option Value)),
  fd=W.fnOf x qual (zav st) (zap st) (defScope st) .none kV doc pm an cdv ct∧K.lookup f=some ⟨oc,od,.func fd,osl⟩∧W.codeIn K cdv qual=true
 kp:W.keepIn K (.ref f)=true
section
variable {P:Program} {w:World} {K:W.Frag} {mg:Str->Option Value} {base:Heap}
theorem Fun.binds {x qual:Str} {st:Stmt} {f:Addr} {fd:FuncData} {ps:List Str} (F:Fun K x qual st f fd)
  (h:∀ (kV doc pm:Value) (an:Option Addr) (cdv ct:Value) (us:List Value),us.length=ps.length->bindArgs (W.fnOf x qual (zav st) (zap st) (defScope st) .none kV doc pm an cdv ct) ⟨us,[]⟩=pure (ps.zip us)):zcY K fd ps []:=by
 obtain ⟨oc,od,kV,doc,pm,an,cdv,ct,osl,rfl,lk,hcd⟩:=F.ex
 exact .all (h kV doc pm an cdv ct)
theorem zbg {x qual:Str} {st:Stmt} {f:Addr} {oc:Value} {od an:Option Addr} {osl:Array (Option Value)} {kV doc pm cdv ct:Value} (l:K.lookup f=some ⟨oc,od,.func (W.fnOf x qual (zav st) (zap st) (defScope st) .none kV doc pm an cdv ct),osl⟩)
  (c:W.codeIn K cdv qual=true) (k:W.keepIn K (.ref f)=true):Fun K x qual st f (W.fnOf x qual (zav st) (zap st) (defScope st) .none kV doc pm an cdv ct):=⟨⟨oc,od,kV,doc,pm,an,cdv,ct,osl,rfl,l,c⟩,k⟩
end
section
variable {X:Cx}
theorem pv (i:Nat) {x:Str} {pos:Pos} (hN:X.N[i]?=some x:=by rfl) (hv:Vis X.env.scope x:=by first | exact Or.inl rfl | exact Or.inr (Or.inl rfl) | exact Or.inr (Or.inr rfl)) (hd:(x == ("__debug__":Str))=false:=by decide)
  (hcd:(x == ("__classdict__":Str))=false:=by decide):PE X (.Name x pos) (tVar i):=pe_var hN hv hd hcd
end
def Same (H H':Hp):Prop:=∀ b o,H b=some o->H' b=some o
theorem Same.refl (H:Hp):Same H H:=λ_ _ h=>h
theorem Same.trans {H H1 H2:Hp} (a:Same H H1) (b:Same H1 H2):Same H H2:=λc o h=>b c o (a c o h)
theorem Same.free {H H':Hp} (e:Same H H') {l:Addr} (h:H' l=Option.none):H l=Option.none:=by
 cases q:H l with
 | none=>rfl
 | some o =>
  rw [e l o q] at h
  cases h
theorem Same.seq {K:W.Frag} {H H':Hp} {a:Addr} {xs:List V} (e:Same H H') (h:SqL K H a xs):SqL K H' a xs:=by
 rcases h with (h | ⟨o,h⟩) | h
 ·exact .inl (.inl (e _ _ h))
 ·exact .inl (.inr ⟨o,e _ _ h⟩)
 ·exact .inr h
end L2
namespace L2
open PySem PySem.Spec PyProof.Rows
theorem zdn {env:Env}:∀ (names:List (Str×NameKind)) (acc:List (Str×Addr)),(∀ x∈names,x.2=.free->∃ c,env.cells.lookup x.1=some c) →
  ∃ cl:List (Str×Addr),(forIn (m:=Sem) names acc λ(x:Str×NameKind) (cs:List (Str×Addr))=>if (x.2 == NameKind.free)=true then (do let a ← cellOf env x.1;pure (ForInStep.yield ((x.1,a) :: cs))) else pure (ForInStep.yield cs))=pure cl ∧
   (∀ x c,cl.lookup x=some c->acc.lookup x=some c∨env.cells.lookup x=some c)∧(∀ x,((x,NameKind.free)∈names∨∃ c,acc.lookup x=some c)->∃ c,cl.lookup x=some c)
 | [],acc,_=>⟨acc,rfl,λ_ _ h=>.inl h,λx h=>by
   rcases h with h | h
   ·cases h
   ·exact h⟩
 | (n,k) :: r,acc,h=>by
  have hr:∀ x∈r,x.2=.free->∃ c,env.cells.lookup x.1=some c:=λx hx=>h x (List.mem_cons_of_mem _ hx)
  by_cases hk:k=.free
  ·subst hk
   obtain ⟨c,hc⟩:=h (n,.free) List.mem_cons_self rfl
   obtain ⟨cl,e,h1,h2⟩:=zdn r ((n,c) :: acc) hr
   refine ⟨cl,?_,λx c' q=>?_,λx q=>?_⟩
   ·rw [List.forIn_cons]
    have e1:cellOf env n=pure c:=by unfold cellOf;rw [hc]
    simp only [beq_self_eq_true,if_true,e1]
    exact e
   ·rcases h1 x c' q with z | z
    ·rw [List.lookup_cons] at z
     cases hx:x == n with
     | true =>
      rw [hx] at z
      have z':some c=some c':=z
      cases z'
      have:x=n:=eq_of_beq hx
      subst this
      exact .inr hc
     | false=>rw [hx] at z;exact .inl z
    ·exact .inr z
   ·refine h2 x ?_
    by_cases hx:x=n
    ·subst hx
     exact .inr ⟨c,by rw [List.lookup_cons];simp⟩
    ·rcases q with q | ⟨c',q⟩
     ·rcases List.mem_cons.mp q with q | q
      ·exact absurd (congrArg Prod.fst q) hx
      ·exact .inl q
     ·refine .inr ⟨c',?_⟩
      have:(x == n)=false:=by simpa using hx
      rw [List.lookup_cons,this]
      exact q
  ·obtain ⟨cl,e,h1,h2⟩:=zdn r acc hr
   refine ⟨cl,?_,h1,λx q=>h2 x ?_⟩
   ·rw [List.forIn_cons]
    have e1:(k == NameKind.free)=false:=by simpa using hk
    simp only [e1,Bool.false_eq_true,if_false]
    exact e
   ·rcases q with q | q
    ·rcases List.mem_cons.mp q with q | q
     ·exact absurd (congrArg Prod.snd q).symm hk
     ·exact .inl q
    ·exact .inr q
theorem zfL {scope:Scope} {env:Env} (h:∀ x∈scope.names,x.2=.free->∃ c,env.cells.lookup x.1=some c) :
  ∃ cl,closureFor scope env=pure cl∧(∀ x c,cl.lookup x=some c->env.cells.lookup x=some c)∧∀ x,(x,NameKind.free)∈scope.names->∃ c,cl.lookup x=some c:=by
 obtain ⟨cl,e,h1,h2⟩:=zdn (env:=env) scope.names [] h
 refine ⟨cl,?_,λx c q=>(h1 x c q).elim (λz=>by cases z) id,λx q=>h2 x (.inl q)⟩
 have e2:closureFor scope env=(forIn (m:=Sem) scope.names [] λ(x:Str×NameKind) (cs:List (Str×Addr))=>if (x.2 == NameKind.free)=true then (do let a ← cellOf env x.1;pure (ForInStep.yield ((x.1,a) :: cs))) else pure (ForInStep.yield cs)) >>= λr=>pure r:=by
  unfold closureFor
  rfl
 rw [e2,e]
 rfl
theorem lookup_relabel {env:Env}:∀ {names:List (Str×NameKind)} {x:Str} {k:NameKind},
  (names.map λ(n,k)=>if (k == NameKind.free&&env.scope.kind == .function&&env.kindOf n == some .cell) then (n,NameKind.cell) else (n,k)).lookup x=some k →
   names.lookup x=some k∨(k=.cell∧names.lookup x=some .free)
 | [],_,_,h=>by simp at h
 | (n,k') :: r,x,k,h=>by
  have ih:=@lookup_relabel env r x k
  have h:List.lookup x ((if (k' == NameKind.free&&env.scope.kind == .function&&env.kindOf n == some .cell)=true then (n,NameKind.cell) else (n,k')) :: _)=some k:=h
  cases hx:x == n with
  | true =>
   by_cases hc:(k' == NameKind.free&&env.scope.kind == .function&&env.kindOf n == some .cell)=true
   ·rw [if_pos hc] at h
    simp only [List.lookup_cons,hx] at h
    cases h
    simp only [Bool.and_eq_true,beq_iff_eq] at hc
    refine .inr ⟨rfl,?_⟩
    simp [List.lookup_cons,hx,hc.1.1]
   ·rw [if_neg hc] at h
    simp only [List.lookup_cons,hx] at h
    cases h
    exact .inl (by simp [List.lookup_cons,hx])
  | false =>
   have h':(r.map λ(n,k)=>if (k == NameKind.free&&env.scope.kind == .function&&env.kindOf n == some .cell) then (n,NameKind.cell) else (n,k)).lookup x=some k:=by
    by_cases hc:(k' == NameKind.free&&env.scope.kind == .function&&env.kindOf n == some .cell)=true
    ·rw [if_pos hc] at h
     simpa only [List.lookup_cons,hx] using h
    ·rw [if_neg hc] at h
     simpa only [List.lookup_cons,hx] using h
   simpa only [List.lookup_cons,hx] using ih h'
theorem cells_look:∀ (names:List (Str×NameKind)) (a:Nat) (acc:List (Str×Addr)) (x:Str) (c:Addr),(cellsFrom a names acc).lookup x=some c->((x,NameKind.cell)∈names∧a≤c)∨((x,NameKind.cell) ∉ names∧acc.lookup x=some c)
 | [],_,_,_,_,h=>.inr ⟨by simp,h⟩
 | (n,k) :: r,a,acc,x,c,h=>by
  unfold cellsFrom at h
  by_cases hk:k=.cell
  ·subst hk
   rw [if_pos (by rfl)] at h
   rcases cells_look r (a+1) ((n,a) :: acc) x c h with ⟨h1,h2⟩ | ⟨h1,h2⟩
   ·exact .inl ⟨List.mem_cons_of_mem _ h1,Nat.le_of_succ_le h2⟩
   ·rw [List.lookup_cons] at h2
    cases hx:x == n with
    | true =>
     rw [hx] at h2
     have h2:some a=some c:=h2
     cases h2
     rw [eq_of_beq hx]
     exact .inl ⟨List.mem_cons_self,Nat.le_refl _⟩
    | false =>
     rw [hx] at h2
     refine .inr ⟨λz=>?_,h2⟩
     rcases List.mem_cons.mp z with z | z
     ·have:=congrArg Prod.fst z
      have:x=n:=this
      rw [this] at hx
      simp at hx
     ·exact h1 z
  ·have hk':(k == NameKind.cell)=false:=by simpa using hk
   rw [hk',if_neg (by simp)] at h
   rcases cells_look r a acc x c h with ⟨h1,h2⟩ | ⟨h1,h2⟩
   ·exact .inl ⟨List.mem_cons_of_mem _ h1,h2⟩
   ·refine .inr ⟨λz=>?_,h2⟩
    rcases List.mem_cons.mp z with z | z
    ·exact hk (congrArg Prod.snd z).symm
    ·exact h1 z
theorem zdS:∀ (names:List (Str×NameKind)) (a:Nat) (acc:List (Str×Addr)) (x:Str),((x,NameKind.cell)∈names∨∃ c,acc.lookup x=some c)->∃ c,(cellsFrom a names acc).lookup x=some c
 | [],_,_,_,h=>by
  rcases h with h | h
  ·simp at h
  ·exact h
 | (n,k) :: r,a,acc,x,h=>by
  unfold cellsFrom
  by_cases hk:k=.cell
  ·subst hk
   rw [if_pos (by rfl)]
   refine zdS r (a+1) ((n,a) :: acc) x ?_
   by_cases hx:x=n
   ·subst hx
    exact .inr ⟨a,by rw [List.lookup_cons];simp⟩
   ·rcases h with h | ⟨c,h⟩
    ·rcases List.mem_cons.mp h with h | h
     ·exact absurd (congrArg Prod.fst h) hx
     ·exact .inl h
    ·refine .inr ⟨c,?_⟩
     have:(x == n)=false:=by simpa using hx
     rw [List.lookup_cons,this]
     exact h
  ·have hk':(k == NameKind.cell)=false:=by simpa using hk
   rw [hk',if_neg (by simp)]
   refine zdS r a acc x ?_
   rcases h with h | h
   ·rcases List.mem_cons.mp h with h | h
    ·exact absurd (congrArg Prod.snd h).symm hk
    ·exact .inl h
   ·exact .inr h
theorem zdj:∀ (names:List (Str×NameKind)) (a:Nat) (acc acc':List (Str×Addr)) (x:Str),((x,NameKind.cell)∈names∨acc.lookup x=acc'.lookup x)->(cellsFrom a names acc).lookup x=(cellsFrom a names acc').lookup x
 | [],_,_,_,_,h=>by
  rcases h with h | h
  ·simp at h
  ·exact h
 | (n,k) :: r,a,acc,acc',x,h=>by
  unfold cellsFrom
  by_cases hk:k=.cell
  ·subst hk
   rw [if_pos (by rfl),if_pos (by rfl)]
   refine zdj r (a+1) _ _ x ?_
   by_cases hx:x=n
   ·subst hx
    exact .inr (by rw [List.lookup_cons,List.lookup_cons];simp)
   ·have hx':(x == n)=false:=by simpa using hx
    rcases h with h | h
    ·rcases List.mem_cons.mp h with h | h
     ·exact absurd (congrArg Prod.fst h) hx
     ·exact .inl h
    ·exact .inr (by rw [List.lookup_cons,List.lookup_cons,hx'];exact h)
  ·have hk':(k == NameKind.cell)=false:=by simpa using hk
   rw [hk',if_neg (by simp),if_neg (by simp)]
   refine zdj r a _ _ x ?_
   rcases h with h | h
   ·rcases List.mem_cons.mp h with h | h
    ·exact absurd (congrArg Prod.snd h).symm hk
    ·exact .inl h
   ·exact .inr h
theorem zcn {M:Model} {A:Around} {E:Value->Shared->Prop} {s:Shared} {scope:Scope} {globals:Addr} {closure:List (Str×Addr)} {qual:Str} {func:Option Addr} {code:Value} {outer:Env} {builtins:Addr} {Q:Env->Shared->Prop}
  (hQ:∀ h',h'.Ns s.heap.objs.size (λ_=>none)->(∀ b o,s.heap.get? b=some o->h'.get? b=some o) →
   (∀ x c,(x,NameKind.cell)∈scope.names->(cellsFrom (s.heap.objs.size+1) scope.names closure).lookup x=some c->h'.IsCell c none) →
   Q (newEnv scope s.heap.objs.size globals (cellsFrom (s.heap.objs.size+1) scope.names closure) qual func code (some outer) builtins) { s with heap:=h' }) :
  wpAny M A (newFunctionEnv scope globals closure [] qual func code (some outer) builtins) Q E s:=by
 simp only [newFunctionEnv,Option.isSome_some,if_true]
 refine wpAny_bind (wpAny_alloc ?_)
 refine wpAny_bind (wpAny_layCells _ (λname kind cells=>by cases hkc:kind == NameKind.cell<;>simp [hkc]) _ _ _ _ ?_)
 have ok:=cellsFrom_ok scope.names (s.heap.push { cls:=.type "dict",data:=.dict #[] }) (s.heap.objs.size+1) [] ⟨λ_ _ hm=>(nomatch hm),List.Pairwise.nil⟩ (by rw [Heap.size_push];exact Nat.le_refl _)
 rw [Heap.size_push] at ok
 rw [show ({ s with heap:=s.heap.push { cls:=.type "dict",data:=.dict #[] } }:Shared).heap.objs.size=s.heap.objs.size+1 from Heap.size_push ..]
 simp only [List.forIn_nil]
 refine wpAny_bind (wpAny_pure (wpAny_pure (hQ _ ((Heap.Ns.new s.heap (.type "dict")).keeps (pushCells_keeps _ _)) (λb o e=>pushCells_keeps _ _ b o (Heap.get?_push_of_some _ e)) λx c hx hc=>?_)))
 rw [zdj _ _ closure [] x (.inl hx)] at hc
 exact (ok.empty x c (PySem.mem_of_lookup hc)).1
def zaU (X:Cx) (N':List Str) (scope:Scope) (cl:List (Str×Addr)) (C:Addr) (fp:List Addr) (s:Shared) (H:Hp):Cx where
 prog:=X.prog
 w:=X.w
 K:=X.K
 mg:=X.mg
 base:=X.base
 A:=X.A
 N:=N'
 s₀:=s
 H₀:=H
 env:=compEnvC scope cl C X.env
 outer:=X.stack
 stack:=X.stack
 ex:=fp
 fn:=λx=>scope.names.lookup x == some .cell
 calm:=true
 pn:=X.pn
 xe:=λ_ _=>False
def zdN (own:Nat) (fv:List Nat) (σ:St):St:=List.replicate own none++fv.map λi=>(σ[i]?).join
structure BlkScope (X:Cx) (scope:Scope) (own fvn:List Str) (fv:List Nat):Prop where
 cell:∀ y∈scope.names,y.2=.cell->scope.names.lookup y.1=some .cell
 fre:∀ y∈scope.names,y.2=.free->scope.names.lookup y.1=some .free
 kind:scope.kind=.function
 names:∀ y∈scope.names,y.2=.local->scope.names.lookup y.1=some .local
 free:∀ y∈scope.names,y.2=.free->X.env.scope.names.lookup y.1=some .cell∨X.env.scope.names.lookup y.1=some .free
 map:fvn.map some=fv.map λi=>X.N[i]?
 vis:∀ x∈fvn,scope.names.lookup x=some .free
section
variable {X:Cx} {pins:List (Addr×Obj)} {σ:St} {H:Hp} {s:Shared}
def zg0 (X:Cx) (scope:Scope) (cl:List (Str×Addr)) (C:Addr):Prop:=(∀ x c,cl.lookup x=some c->(X.env.cells.lookup x=some c∧scope.names.lookup x≠some .cell)∨(C<c∧scope.names.lookup x=some .cell)) ∧
 (∀ x y c,C<c->cl.lookup x=some c->cl.lookup y=some c->x=y)∧∀ x,((x,NameKind.free)∈scope.names∨(x,NameKind.cell)∈scope.names)->∃ c,cl.lookup x=some c
theorem ziU {scope:Scope} {own fvn:List Str} {fv:List Nat} {cl:List (Str×Addr)} {C:Addr} (B:BlkScope X scope own fvn fv) (h1:∀ x c,cl.lookup x=some c->X.env.cells.lookup x=some c) (h2:∀ x,(x,NameKind.free)∈scope.names->∃ c,cl.lookup x=some c)
  (hlt:∀ x c,X.env.cells.lookup x=some c->c≤C):zg0 X scope (cellsFrom (C+1) scope.names cl) C:=by
 refine ⟨λx c e=>?_,λx y c hc e1 e2=>?_,λx hx=>?_⟩
 ·rcases cells_look _ _ _ _ _ e with ⟨z1,z2⟩ | ⟨z1,z2⟩
  ·exact .inr ⟨z2,B.cell _ z1 rfl⟩
  ·exact .inl ⟨h1 x c z2,λq=>z1 (PySem.mem_of_lookup q)⟩
 ·have key:∀ x,(cellsFrom (C+1) scope.names cl).lookup x=some c->(x,c)∈cellsFrom (C+1) scope.names []:=λx e=>by
   rcases cells_look _ _ _ _ _ e with ⟨z1,z2⟩ | ⟨z1,z2⟩
   ·rw [zdj _ _ cl [] x (.inl z1)] at e
    exact PySem.mem_of_lookup e
   ·exact absurd (hlt x c (h1 x c z2)) (Nat.not_le.mpr hc)
  have ap:∀ (names:List (Str×NameKind)) (a:Nat) (acc:List (Str×Addr)),(∀ e∈acc,e.2<a)->(acc.Pairwise λx y=>x.2≠y.2)->(cellsFrom a names acc).Pairwise λx y=>x.2≠y.2:=by
   intro names
   induction names with
   | nil=>intro a acc _ h;exact h
   | cons nk r ih =>
    intro a acc h h'
    obtain ⟨n,k⟩:=nk
    unfold cellsFrom
    split
    ·refine ih (a+1) _ (λe he=>?_) (List.pairwise_cons.mpr ⟨λy hy=>Nat.ne_of_gt (h y hy),h'⟩)
     rcases List.mem_cons.mp he with rfl | he
     ·exact Nat.lt_succ_self _
     ·exact Nat.lt_succ_of_lt (h e he)
    ·exact ih a acc h h'
  exact PySem.name_of_addr (ap scope.names (C+1) [] (by simp) .nil) (key x e1) (key y e2)
 ·refine zdS _ _ _ _ ?_
  rcases hx with hx | hx
  ·exact .inr (h2 x hx)
  ·exact .inl hx
theorem zhb {scope:Scope} {own fvn:List Str} {fv:List Nat} {cl:List (Str×Addr)} {C:Addr} {fp:List Addr} (I:Inv X pins σ H s) (B:BlkScope X scope own fvn fv) (hc:X.calm=true)
  (hb:zg0 X scope cl C)
  (hC:s.heap.objs.size≤C) (hf:∀ b∈fp,FpOk X pins H b) (hl:∀ b∈fp,b<s.heap.objs.size):(zaU X (own++fvn) scope cl C fp s H).Ok where
 mod:=I.ok.mod
 kind:=B.kind
 glob:=I.ok.glob
 blt:=I.ok.blt
 above:=hC
 inj:=λx y c e1 e2=>by
  have lt:∀ z,X.env.cells.lookup z=some c->c<s.heap.objs.size:=λz e=>by obtain ⟨v,q⟩:=I.cell z c e;exact q.lt
  rcases hb.1 x c e1 with ⟨z1,_⟩ | ⟨z1,_⟩
  ·rcases hb.1 y c e2 with ⟨z2,_⟩ | ⟨z2,_⟩
   ·exact I.ok.inj x y c z1 z2
   ·exact absurd (Nat.lt_of_lt_of_le (lt x z1) hC) (Nat.not_lt.mpr (Nat.le_of_lt z2))
  ·exact hb.2.1 x y c z1 e1 e2
 has:=λx hx=>by
  have hx:(scope.names.map λ(n,k)=>if (k == NameKind.free&&X.env.scope.kind == .function&&X.env.kindOf n == some .cell) then (n,NameKind.cell) else (n,k)).lookup x=some .cell ∨
   (scope.names.map λ(n,k)=>if (k == NameKind.free&&X.env.scope.kind == .function&&X.env.kindOf n == some .cell) then (n,NameKind.cell) else (n,k)).lookup x=some .free:=hx
  refine hb.2.2 x ?_
  rcases hx with hx | hx
  ·rcases lookup_relabel hx with z | ⟨_,z⟩
   ·exact .inr (PySem.mem_of_lookup z)
   ·exact .inl (PySem.mem_of_lookup z)
  ·rcases lookup_relabel hx with z | ⟨z,_⟩
   ·exact .inl (PySem.mem_of_lookup z)
   ·cases z
 cab:=λx c h e=>by
  have h:(scope.names.lookup x == some NameKind.cell)=true:=h
  rcases hb.1 x c e with ⟨_,z⟩ | ⟨z,_⟩
  ·exact absurd (eq_of_beq h) z
  ·exact Nat.le_trans hC (Nat.le_of_lt z)
 hd:=λ_=>I.ok.hd hc
 frames:=I.ok.frames
 stk:=.inl rfl
 exf:=λb hb'=>⟨Nat.ne_of_lt (Nat.lt_of_lt_of_le (hl b hb') hC),λx c e=>by
  rcases hb.1 x c e with ⟨z,_⟩ | ⟨z,_⟩
  ·exact (hf b hb').2.2.2.2.1 x c z
  ·exact Nat.ne_of_gt (Nat.lt_trans (Nat.lt_of_lt_of_le (hl b hb') hC) z)⟩
 bs:=I.bs
 bsz:=Nat.le_trans I.ok.bsz I.sz
 noex:=λb o e hb=>by
  rcases (hf b hb).2.2.2.1 with z | z
  ·exact I.ok.noex b o e z
  ·exact absurd (Nat.lt_of_lt_of_le (Heap.lt_size (I.ok.bs b o e).1) z) (Nat.lt_irrefl _)
 exfs:=λb hb z=>by
  rcases List.mem_cons.mp (I.stkSub b z) with q | q
  ·exact (hf b hb).2.1 q
  ·exact (hf b hb).2.2.1 q
 funs:=I.stack
 frf:=I.stkFree
theorem zhW {own:List Str} {fvn:List Str} {fv:List Nat} {i:Nat} {x:Str} {v:V} (hm:fvn.map some=fv.map λi=>X.N[i]?) (h1:(own++fvn)[i]?=some x) (h2:(zdN own.length fv σ)[i]?=some (some v)) :
  x∈fvn∧∃ j:Nat,X.N[j]?=some x∧σ[j]?=some (some v):=by
 unfold zdN at h2
 by_cases hi:i<own.length
 ·rw [List.getElem?_append_left (by simpa using hi),List.getElem?_replicate] at h2
  split at h2<;>cases h2
 ·rw [List.getElem?_append_right (by simpa using hi),List.length_replicate,List.getElem?_map] at h2
  rw [List.getElem?_append_right (by simpa using hi)] at h1
  have q:(fvn.map some)[i-own.length]?=(fv.map λi=>X.N[i]?)[i-own.length]?:=by rw [hm]
  rw [List.getElem?_map,List.getElem?_map,h1] at q
  cases e:fv[i-own.length]? with
  | none=>rw [e] at h2;cases h2
  | some j =>
   rw [e] at h2 q
   have q':X.N[j]?=some x:=(Option.some.inj q).symm
   have h2':(σ[j]?).join=some v:=Option.some.inj h2
   refine ⟨List.mem_of_getElem? h1,j,q',?_⟩
   cases e2:σ[j]? with
   | none=>rw [e2] at h2';cases h2'
   | some o =>
    rw [e2] at h2'
    have:o=some v:=h2'
    rw [this]
theorem zfa {scope:Scope} {own fvn:List Str} {fv:List Nat} {cl:List (Str×Addr)} {C D:Addr} {fp:List Addr} {h':Heap} {t':Nat} {m:Str->Option Value} (I:Inv X pins σ H s) (B:BlkScope X scope own fvn fv) (hc:X.calm=true)
  (hb:zg0 X scope cl C) (hnew:∀ x c,C<c->cl.lookup x=some c->h'.IsCell c none)
  (hf:∀ b∈fp,FpOk X pins H b) (hl:∀ b∈fp,b<s.heap.objs.size) (hD:s.heap.objs.size≤D) (hC:s.heap.objs.size≤C) (hDC:D<C)
  (k:∀ b o,s.heap.get? b=some o->h'.get? b=some o) (hn:h'.Ns C m) (ho:h'.get? D=some { cls:=.type "list",data:=.seq #[] 0 }) :
  Inv (zaU X (own++fvn) scope cl C fp s H) pins (zdN own.length fv σ) (upd H D (.lst [])) { s with heap:=h',toks:=t' }:=by
 have hDn:H D=none:=I.hok.fresh hD
 have hCn:H C=none:=I.hok.fresh hC
 have lt:∀ b o,s.heap.get? b=some o->b≠D:=λb o e=>Nat.ne_of_lt (Nat.lt_of_lt_of_le (Heap.lt_size e) hD)
 refine ⟨zhb I B hc hb hC hf hl,rfl,I.bare,Un.laid k hD hDn,⟨m,hn,λi x v e1 e2 e3=>?_⟩,λx c e=>?_,?_,λx c e=>?_,λp hp=>?_,?_,?_⟩
 ·obtain ⟨hx,j,e4,e5⟩:=zhW B.map e1 e2
  have hfr:=B.vis x hx
  obtain ⟨c,hcl⟩:=hb.2.2 x (.inl (PySem.mem_of_lookup hfr))
  have h1x:X.env.cells.lookup x=some c:=by
   rcases hb.1 x c hcl with ⟨z,_⟩ | ⟨_,z⟩
   ·exact z
   ·rw [hfr] at z;cases z
  obtain ⟨m0,hn0,hl0⟩:=I.loc
  have ok:=B.free _ (PySem.mem_of_lookup hfr) rfl
  have hv:Vis X.env.scope x:=by
   rcases ok with z | z
   ·exact .inr (.inl z)
   ·exact .inr (.inr z)
  obtain ⟨u,r,l⟩:=hl0 j x v e4 e5 hv
  refine ⟨u,r,.inr ⟨?_,c,hcl,?_⟩⟩
  ·rcases e3 with z | z | z
   ·have z':(scope.names.map λ(n,k)=>if (k == NameKind.free&&X.env.scope.kind == .function&&X.env.kindOf n == some .cell) then (n,NameKind.cell) else (n,k)).lookup x=some .local:=z
    rcases lookup_relabel z' with y | ⟨y,_⟩
    ·rw [hfr] at y;cases y
    ·cases y
   ·exact .inl z
   ·exact .inr z
  ·rcases l with ⟨k0,_⟩ | ⟨_,c',e6,o,ho',hd⟩
   ·have k0':X.env.scope.names.lookup x=some .local:=k0
    rcases ok with z | z<;>(rw [k0'] at z;cases z)
   ·rw [h1x] at e6
    cases e6
    exact ⟨o,k _ _ ho',hd⟩
 ·rcases hb.1 x c e with ⟨z,_⟩ | ⟨z,_⟩
  ·obtain ⟨v,o,ho',hd⟩:=I.cell x c z
   exact ⟨v,o,k _ _ ho',hd⟩
  ·exact ⟨none,hnew x c z e⟩
 ·show upd H D (.lst []) C=none
  rw [upd_ne (Nat.ne_of_gt hDC)];exact hCn
 ·rcases hb.1 x c e with ⟨z,_⟩ | ⟨z,_⟩
  ·obtain ⟨v,o,ho',hd⟩:=I.cell x c z
   rw [upd_ne (lt _ _ ho')]
   exact I.freeC x c z
  ·rw [upd_ne (Nat.ne_of_gt (Nat.lt_trans hDC z))]
   exact I.hok.fresh (Nat.le_trans hC (Nat.le_of_lt z))
 ·obtain ⟨e,n,ne,nf,d⟩:=I.pin p hp
  refine ⟨k _ _ e,?_,Nat.ne_of_lt (Nat.lt_of_lt_of_le (Heap.lt_size e) hC),λz=>?_,d⟩
  ·rw [upd_ne (lt _ _ e)];exact n
  ·rcases List.mem_cons.mp (I.stkSub _ z) with q | q
   ·exact ne q
   ·exact nf q
 ·exact I.hok.laid k hD ⟨Nat.zero_le _,[],0,.nil,ho⟩
 ·have hm:=congrArg List.length B.map
  rw [List.length_map,List.length_map] at hm
  show (zdN own.length fv σ).length=(own++fvn).length
  unfold zdN
  rw [List.length_append,List.length_append,List.length_replicate,List.length_map,hm]
theorem zgh {scope:Scope} {N':List Str} {cl:List (Str×Addr)} {C:Addr} {fp:List Addr} {σ':St} {H':Hp} {s':Shared} (I:Inv X pins σ H s) (hC:s.heap.objs.size≤C) (hf:∀ b∈fp,FpOk X pins H b)
  (J:Inv (zaU X N' scope cl C fp s H) pins σ' H' s'):Inv X pins σ H' s'∧FpOk X pins H' C:=by
 have I':Inv X pins σ H' s':=I.call' (ch:=fp) J.os J.base J.hok J.bare λb hb=>⟨(hf b hb).2.2.2.1,(hf b hb).2.1,(hf b hb).2.2.2.2.1,(hf b hb).2.2.2.2.2⟩
 refine ⟨I',J.free,Nat.ne_of_gt (Nat.lt_of_lt_of_le I.lt hC),I.nofs hC,.inr (Nat.le_trans I.sz hC),λx c e z=>?_,λp hp z=>?_⟩
 ·obtain ⟨v,q⟩:=I.cell x c e
  exact absurd (Nat.lt_of_lt_of_le q.lt (by rw [z];exact hC)) (Nat.lt_irrefl _)
 ·exact absurd (Nat.lt_of_lt_of_le (Heap.lt_size (I.pin p hp).1) (by rw [z];exact hC)) (Nat.lt_irrefl _)
end
section
variable {prog:Program} {w:World} {A:Around} {R:Result->Shared->Prop} {s:Shared}
theorem comp_loop {elt target iter:Expr} {ifs:List Expr} {scope:Scope} {pos:Pos} {it acc:Value} {env:Env} (I:Nat->Shared->Prop)
  (turn:∀ n s,I n s->wpAny (model prog w) A (pyNext it) (λr s₁=>match r with
   | none=>R (.ok .next) s₁
   | some v=>wpAny (model prog w) A (letOwnedTupleGo target it v) (λ_ s₁'=>wpAny (model prog w) A (assign target env v) (λ_ s₂ =>
     wpAny (model prog w) A (forIn ifs true λc r=>if r=true then do let ok ← isTrue c env (eval c env);pure (ForInStep.yield ok) else pure (ForInStep.yield r)) (λok s₃ =>
      if ok=true then wpAny (model prog w) A (eval elt env) (λx s₄ =>
       wpAny (model prog w) A (call (.builtin "list.append") [acc,x]) (λ_ s₅=>∃ m,m<n∧I m s₅) (λ_ _=>False) s₄) (λ_ _=>False) s₃
      else ∃ m,m<n∧I m s₃) (λ_ _=>False) s₂) (λ_ _=>False) s₁') (λ_ _=>False) s₁) (λ_ _=>False) s)
  (n:Nat) (h:I n s) :
  codeAny (model prog w) A (.compLoop (.ListComp elt [⟨target,iter,ifs,0⟩] scope pos) 0 it acc env) R s:=by
 refine codeAny_loop rfl I (λn s hI=>?_) n h
 show wpAny _ A ((compTurn (.ListComp elt [⟨target,iter,ifs,0⟩] scope pos) 0 it acc env).onRaise (λx=>do noteFrame x env;theTreesLotGoes x)) _ _ s
 refine wpAny_noted ?_
 rw [compTurn_list]
 refine wpAny_bind (wpAny_standAt (wpAny_bind (wpAny_mono (turn n s hI) (λr s₁ h₁=>?_) λ_ _ h'=>h'.elim)))
 cases r with
 | none=>exact wpAny_pure h₁
 | some v =>
  refine wpAny_bind (wpAny_mono h₁ (λ_ s₁' h₁'=>?_) λ_ _ h'=>h'.elim)
  refine wpAny_bind (wpAny_mono h₁' (λ_ s₂ h₂=>wpAny_bind (wpAny_mono h₂ (λok s₃ h₃=>?_) λ_ _ h'=>h'.elim)) λ_ _ h'=>h'.elim)
  cases ok with
  | false=>exact wpAny_pure ⟨rfl,h₃⟩
  | true =>
   exact wpAny_bind (wpAny_bind (wpAny_mono h₃ (λx s₄ h₄=>wpAny_bind (wpAny_mono h₄ (λ_ s₅ h₅=>wpAny_pure (wpAny_pure ⟨rfl,h₅⟩)) λ_ _ h'=>h'.elim)) λ_ _ h'=>h'.elim))
end
abbrev TTs:=St->Hp->(Bool->Hp->Prop)->Prop
def PTs (X:Cx) (ifs:List Expr) (t:TTs):Prop :=
 ∀ (pins:List (Addr×Obj)) (s:Shared) (σ:St) (H:Hp) (Q:Bool->Hp->Prop),Inv X pins σ H s->t σ H Q →
  wpAny (model X.prog X.w) X.A (forIn ifs true λc r=>if r=true then do let ok ← isTrue c X.env (eval c X.env);pure (ForInStep.yield ok) else pure (ForInStep.yield r)) (TP X pins σ Q) X.xe s
def tNoIf:TTs:=λ_ H Q=>Q true H
theorem pts_nil {X:Cx}:PTs X [] tNoIf:=λ_ _ _ H _ I h=>wpAny_tests_nil ⟨H,I,h⟩
def zg3 (own:Nat) (fv:List Nat) (wi:TI) (g:TG) (tt:TTs) (te:TE):TE:=λσ H Q=>wi σ H λJ H1=>∀ D,H1 D=none →
 ∃ W:Nat->Nat->List V->St->Hp->Prop,(∃ m,W 0 m [] (zdN own fv σ) (upd H1 D (.lst [])))∧∀ i m ys σb H,W i m ys σb H->H D=some (.lst ys) ∧
  ((J.stop i H∧Q (.ref D) H)∨(J.go i H∧∀ x H',J.yld i H x H'->g x σb H' λσ2 H2=>tt σ2 H2 λok H3=>if ok=true then te σ2 H3 λy H4=>H4 D=some (.lst ys)∧ys.length<sizeLine∧∃ m',m'<m∧W (i+1) m' (ys++[y]) σ2 (upd H4 D (.lst (ys++[y])))
   else ∃ m',m'<m∧W (i+1) m' ys σ2 H3))
section
variable {X:Cx} {tg iter elt:Expr} {ifs:List Expr} {scope:Scope} {pos:Pos} {wi:TI} {g:TG} {tt:TTs} {te:TE} {own fvn:List Str} {fv:List Nat}
theorem zfD {pins:List (Addr×Obj)} {σ:St} {s:Shared} {Q:VK} {E:Value->Shared->Prop} {cl:List (Str×Addr)} {RR:Value->Addr->Result->Shared->Prop} {itv:Value}
  (hc:X.calm=true) (B:BlkScope X scope own fvn fv) (h1:∀ x c,cl.lookup x=some c->X.env.cells.lookup x=some c) (h2:∀ x,(x,NameKind.free)∈scope.names->∃ c,cl.lookup x=some c)
  (hb:∀ (cl:List (Str×Addr)) (C:Addr) (fp:List Addr) (s:Shared) (H:Hp),PG (zaU X (own++fvn) scope cl C fp s H) tg g∧PTs (zaU X (own++fvn) scope cl C fp s H) ifs tt∧PE (zaU X (own++fvn) scope cl C fp s H) elt te)
  (P:PIE X pins σ tg (λJ H1=>∀ D,H1 D=none →
   ∃ W:Nat->Nat->List V->St->Hp->Prop,(∃ m,W 0 m [] (zdN own.length fv σ) (upd H1 D (.lst [])))∧∀ i m ys σb H,W i m ys σb H->H D=some (.lst ys) ∧
    ((J.stop i H∧Q (.ref D) H)∨(J.go i H∧∀ x H',J.yld i H x H'->g x σb H' λσ2 H2=>tt σ2 H2 λok H3=>if ok=true then te σ2 H3 λy H4=>H4 D=some (.lst ys)∧ys.length<sizeLine∧∃ m',m'<m∧W (i+1) m' (ys++[y]) σ2 (upd H4 D (.lst (ys++[y])))
     else ∃ m',m'<m∧W (i+1) m' ys σ2 H3))) itv s)
  (hRR:∀ D C s' H' m,Inv X pins σ H' s'->s'.heap.Ns C m->FpOk X pins H' C->Q (.ref D) H'->RR (.ref D) C (.ok .next) s') :
  wpAny (model X.prog X.w) X.A (newList []) (λacc s₃=>wpAny (model X.prog X.w) X.A (newFunctionEnv scope X.env.globals cl [] X.env.qual none .none (some X.env)) (λcenv s₄ =>
   codeAny (model X.prog X.w) X.A (.compStart (.ListComp elt [⟨tg,iter,ifs,0⟩] scope pos) 0 itv acc { cenv with scope:=relabel scope X.env }) (RR acc cenv.locals) s₄) E s₃) E s:=by
 obtain ⟨it,fp,tn,J,H2,rfl,I2,T,st2,f2,hW⟩:=P
 have hl:∀ b∈fp,b<s.heap.objs.size:=λb hb=>by
  obtain ⟨o,e,_⟩:=T.obj _ _ st2 b hb
  exact Heap.lt_size e
 refine wpAny_newObj_type (zcn (λh₁ hns₁ hsb₁ hcl₁=>?_))
 dsimp only at hns₁ hsb₁ hcl₁ ⊢
 generalize hH2:s.heap.push { cls:=.type "list",dict:=none,data:=.seq ([]:List Value).toArray }=G2 at hns₁ hsb₁ hcl₁ ⊢
 have hC:G2.objs.size=s.heap.objs.size+1:=by rw [← hH2,Heap.size_push]
 have hDC:s.heap.objs.size<G2.objs.size:=by rw [hC];exact Nat.lt_succ_self _
 have hCle:s.heap.objs.size≤G2.objs.size:=by rw [hC];exact Nat.le_succ _
 have old:∀ b o,s.heap.get? b=some o->h₁.get? b=some o:=λb o e=>hsb₁ b o (hH2 ▸ Heap.get?_push_of_some _ e)
 have hacc:h₁.get? s.heap.objs.size=some { cls:=.type "list",data:=.seq #[] 0 }:=hsb₁ _ _ (hH2 ▸ Heap.get?_push_size _ rfl)
 have hbc:zg0 X scope (cellsFrom (G2.objs.size+1) scope.names cl) G2.objs.size:=ziU B h1 h2 λx c e=>by
  obtain ⟨v,q⟩:=I2.cell x c e
  exact Nat.le_trans (Nat.le_of_lt q.lt) hCle
 have hnew:∀ x c,G2.objs.size<c->(cellsFrom (G2.objs.size+1) scope.names cl).lookup x=some c->h₁.IsCell c none:=λx c hc' e=>by
  rcases hbc.1 x c e with ⟨z,_⟩ | ⟨_,z⟩
  ·obtain ⟨v,q⟩:=I2.cell x c z
   exact absurd (Nat.lt_of_lt_of_le q.lt hCle) (Nat.not_lt.mpr (Nat.le_of_lt hc'))
  ·exact hcl₁ x c (PySem.mem_of_lookup z) e
 generalize cellsFrom (G2.objs.size+1) scope.names cl=cl' at hbc hnew ⊢
 clear h1 h2 hcl₁
 obtain ⟨W,⟨m0,w0⟩,turn⟩:=hW s.heap.objs.size (I2.hok.fresh (Nat.le_refl _))
 have J0:∀ t',Inv (zaU X (own++fvn) scope cl' G2.objs.size fp s H2) pins (zdN own.length fv σ) (upd H2 s.heap.objs.size (.lst [])) { s with heap:=h₁,toks:=t' }:=λt' =>
  zfa I2 B hc hbc hnew f2 hl (Nat.le_refl _) hCle hDC old hns₁ hacc
 obtain ⟨hpg,hpt,hpe⟩:=hb cl' G2.objs.size fp s H2
 have stat:∀ {H':Hp},(∀ b∈fp,H' b=none)->∀ b∈fp,FpOk (zaU X (own++fvn) scope cl' G2.objs.size fp s H2) pins H' b:=λhn b hb =>
  ⟨hn b hb,Nat.ne_of_lt (Nat.lt_of_lt_of_le (hl b hb) hCle),λz=>by
   rcases List.mem_cons.mp (I2.stkSub b z) with q | q
   ·exact (f2 b hb).2.1 q
   ·exact (f2 b hb).2.2.1 q,.inl hb,λx c e=>(by
    rcases hbc.1 x c e with ⟨z,_⟩ | ⟨z,_⟩
    ·exact (f2 b hb).2.2.2.2.1 x c z
    ·exact Nat.ne_of_gt (Nat.lt_trans (Nat.lt_of_lt_of_le (hl b hb) hCle) z)),(f2 b hb).2.2.2.2.2⟩
 have st1:tn 0 h₁:=T.keep _ _ _ st2 λb hb o e=>old b o e
 have fr1:∀ b∈fp,upd H2 s.heap.objs.size (.lst []) b=none:=λb hb=>by
  rw [upd_ne (Nat.ne_of_lt (hl b hb))];exact (f2 b hb).1
 have loop:∀ s₃:Shared,s₃={ s with heap:=h₁ } →
   codeAny (model X.prog X.w) X.A (.compLoop (.ListComp elt [⟨tg,iter,ifs,0⟩] scope pos) 0 (.ref it) (.ref s.heap.objs.size) (compEnvC scope cl' G2.objs.size X.env)) (RR (.ref s.heap.objs.size) G2.objs.size) s₃:=by
  rintro s₃ rfl
  refine comp_loop (λn s'=>∃ i ys σ' H',Inv (zaU X (own++fvn) scope cl' G2.objs.size fp s H2) pins σ' H' s'∧tn i s'.heap∧(∀ b∈fp,H' b=none)∧W i n ys σ' H') ?_ m0 ⟨0,[],_,_,J0 s.toks,st1,fr1,w0⟩
  rintro n s3 ⟨i,ys,σ3,H3,I3,st3,fr3,w3⟩
  obtain ⟨hD,w3⟩:=turn i n ys σ3 H3 w3
  rcases w3 with ⟨stop,qn⟩ | ⟨go,step⟩
  ·refine thn (T.done (zaU X (own++fvn) scope cl' G2.objs.size fp s H2) rfl rfl rfl rfl i pins s3 σ3 H3 _ I3 (stat fr3) st3 stop) λr s4 ⟨hr,I4⟩=>?_
   subst hr
   obtain ⟨I5,fC⟩:=zgh I2 hCle f2 I4
   obtain ⟨m,hn,_⟩:=I4.loc
   exact hRR _ _ s4 H3 m I5 hn fC qn
  ·refine thn (T.item (zaU X (own++fvn) scope cl' G2.objs.size fp s H2) rfl rfl rfl rfl i pins s3 σ3 H3 _ I3 (stat fr3) st3 go) λr s4 ⟨u,hr,h4⟩=>?_
   subst hr
   refine thn h4 λ_ s5 ⟨x,H5,I5,r5,y5,st5,fr5⟩=>?_
   have I5':=I5.pinned (stat fr5) (T.obj _ _ st5)
   refine thn (hpg _ s5 σ3 H5 x u _ I5' r5 (step x H5 y5)) λ_ s6 ⟨σ6,H6,I6,q6⟩=>?_
   refine thn (hpt _ s6 σ6 H6 _ I6 q6) λok s7 ⟨H7,I7,q7⟩=>?_
   have again:∀ {s8:Shared} {σ8:St} {H8:Hp} {ys':List V} {m':Nat},Inv (zaU X (own++fvn) scope cl' G2.objs.size fp s H2) (pins++zey fp s5.heap) σ8 H8 s8->m'<n->W (i+1) m' ys' σ8 H8 →
     ∃ m,m<n∧∃ i ys σ' H',Inv (zaU X (own++fvn) scope cl' G2.objs.size fp s H2) pins σ' H' s8∧tn i s8.heap∧(∀ b∈fp,H' b=none)∧W i m ys σ' H':=λ{s8 σ8 H8 ys' m'} I8 hm w8=>by
    refine ⟨m',hm,i+1,ys',σ8,H8,I8.unpinned,T.keep _ _ _ st5 λb hb o e=>(I8.pin (b,o) (List.mem_append_right _ (List.mem_append_right _ (zcS hb e)))).1,λb hb=>?_,w8⟩
    obtain ⟨o,e,d⟩:=T.obj _ _ st5 b hb
    exact (I8.pin (b,o) (List.mem_append_right _ (List.mem_append_right _ (zcS hb e)))).2.1
   cases ok with
   | false =>
    rw [if_neg Bool.false_ne_true] at q7 ⊢
    obtain ⟨m',hm,w8⟩:=q7
    exact again I7 hm w8
   | true =>
    rw [if_pos rfl] at q7 ⊢
    refine thn (hpe _ s7 σ6 H7 _ I7 q7) λyv s8 ⟨y,H8,I8,r8,hD8,hz8,m',hm,w8⟩=>?_
    refine thn (mt_append _ s8 σ6 H8 (.ref s.heap.objs.size) [y] _ [yv] (λ_ H9=>H9=upd H8 s.heap.objs.size (.lst (ys++[y]))) I8 rfl (.cons r8 .nil) ⟨_,ys,y,rfl,rfl,hD8,hz8,rfl⟩) λ_ s9 ⟨_,H9,I9,_,e9⟩=>?_
    subst e9
    exact again I9 hm w8
 exact codeAny_compStart_list (loop _ rfl) (T.self _ 0 _ _ _ st1 (loop _ rfl))
theorem zdO (B:BlkScope X scope own fvn fv) (ok:X.Ok):∃ cl,closureFor scope X.env=pure cl∧(∀ x c,cl.lookup x=some c->X.env.cells.lookup x=some c)∧∀ x,(x,NameKind.free)∈scope.names->∃ c,cl.lookup x=some c :=
 zfL λx hx hk=>ok.has x.1 (B.free x hx hk)
theorem pe_comp (hc:X.calm=true) (B:BlkScope X scope own fvn fv) (hi:PI X tg iter wi)
  (hb:∀ (cl:List (Str×Addr)) (C:Addr) (fp:List Addr) (s:Shared) (H:Hp),PG (zaU X (own++fvn) scope cl C fp s H) tg g∧PTs (zaU X (own++fvn) scope cl C fp s H) ifs tt∧PE (zaU X (own++fvn) scope cl C fp s H) elt te)
  (hs:∀ x,foldedSetIterable iter X.env x=pure x:=by intro _;rfl):PE X (.ListComp elt [⟨tg,iter,ifs,0⟩] scope pos) (zg3 own.length fv wi g tt te):=by
 intro pins s σ H Q I h
 obtain ⟨cl,hcl,h1,h2⟩:=zdO B I.ok
 rw [eval_ListComp]
 refine wpAny_comprehension_free (use:=none) rfl hs hcl B.kind B.names (thn (hi pins s σ H _ I h) λv s1 q1=>thn q1 λitv s2 q2=>?_)
 refine zfD (RR:=λacc C=>compPost (model X.prog X.w) X.A X.xe none (EP X pins σ Q) acc C) hc B h1 h2 hb q2 λD C s' H' m I' hn fC q=>?_
 exact ⟨m,hn,λh' hs'=>⟨.ref D,H',I'.turned (t':=s'.toks) (λb o hb e=>(hs'.2 b hb).trans e) fC.1 fC.2.1 fC.2.2.2.1 fC.2.2.2.2.1 fC.2.2.2.2.2,rfl,q⟩⟩
theorem zeZ {i:Nat} {x:Str} {pos' spos:Pos} (hc:X.calm=true) (hN:X.N.Nodup) (hix:X.N[i]?=some x) (hx:X.env.scope.names.lookup x=some .local) (B:BlkScope X scope own fvn fv) (hi:PI X tg iter wi)
  (hb:∀ (cl:List (Str×Addr)) (C:Addr) (fp:List Addr) (s:Shared) (H:Hp),PG (zaU X (own++fvn) scope cl C fp s H) tg g∧PTs (zaU X (own++fvn) scope cl C fp s H) ifs tt∧PE (zaU X (own++fvn) scope cl C fp s H) elt te)
  (hsw:swapsWith (.ListComp elt [⟨tg,iter,ifs,0⟩] scope pos) (some (.Name x pos')) spos.line X.env=pure true:=by rfl)
  (hs:∀ x,foldedSetIterable iter X.env x=pure x:=by intro _;rfl) :
  PS X (.Assign [.Name x pos'] (.ListComp elt [⟨tg,iter,ifs,0⟩] scope pos) spos) (zhj (zg3 own.length fv wi g tt te) (zcM i)):=by
 intro pins s σ H D I h
 obtain ⟨cl,hcl,h1,h2⟩:=zdO B I.ok
 rw [exec_Assign_Name_used _ _ _ _ hsw]
 refine wpAny_bind (wpAny_standAt (wpAny_bind ?_))
 show wpAny _ _ (do let _ ← comprehension (.ListComp elt [⟨tg,iter,ifs,0⟩] scope pos) scope X.env _ (newList []) false (eval iter X.env) (some (assign (.Name x pos') X.env))) _ _ s
 refine wpAny_bind (wpAny_mono (wpAny_comprehension_free (use:=some (assign (.Name x pos') X.env)) (Q:=λ_ s'=>SP X pins D .next s') rfl hs hcl B.kind B.names
  (thn (hi pins s σ H _ I h) λv s1 q1=>thn q1 λitv s2 q2=>?_)) (λ_ s' hq=>wpAny_pure (wpAny_pure hq)) λ_ _ e=>e)
 refine zfD (Q:=λv H1=>zcM i v σ H1 D.nx) (RR:=λacc C=>compPost (model X.prog X.w) X.A X.xe (some (assign (.Name x pos') X.env)) (λ_ s'=>SP X pins D .next s') acc C) hc B h1 h2 hb q2 λDa C s' H' m I' hn fC q=>?_
 show wpAny _ _ (assign (.Name x pos') X.env (.ref Da)) _ _ _
 refine wpAny_assign_Name (zep I' hN hix (.inl hx) (v:=.ref Da) rfl (λs'' I'' ⟨a,hsb,ha⟩=>?_) (.inr hx))
 have hCa:C≠a:=by
  rcases ha with z | z
  ·rw [z];exact fC.2.1
  ·exact Ne.symm (fC.2.2.2.2.1 x a z)
 refine ⟨m,hn.sameBut hsb hCa,λh'' hs''=>⟨_,H',I''.turned (t':=s''.toks) (λb o hb e=>(hs''.2 b hb).trans e) fC.1 fC.2.1 fC.2.2.2.1 fC.2.2.2.2.1 fC.2.2.2.2.2,q⟩⟩
end
end L2
namespace L2
open PySem PySem.Spec PyProof.Rows
section
variable {X:Cx} {pins:List (Addr×Obj)} {σ:St} {H:Hp} {s:Shared} {h':Heap}
theorem Inv.turnedNew {t':Nat} {ch:List Addr} {T:Addr} {o:HO} (I:Inv X pins σ H s) (hf:∀ b∈ch,FpOk X pins H b) (k:∀ b u,b ∉ ch->s.heap.get? b=some u->h'.get? b=some u) (hT:s.heap.objs.size≤T)
  (new:zbX X.prog X.w (upd H T o) h' T o):Inv X pins σ (upd H T o) { s with heap:=h',toks:=t' }:=by
 have hn:H T=none:=I.hok.fresh hT
 have lt:∀ b u,s.heap.get? b=some u->b≠T:=λb u e=>Nat.ne_of_lt (Nat.lt_of_lt_of_le (Heap.lt_size e) hT)
 refine I.step (g':=s.gens) (d':=s.drawn) (ch:=ch) (λb hb=>⟨(hf b hb).2.2.2.1,(hf b hb).2.1,(hf b hb).2.2.2.2.1,(hf b hb).2.2.2.2.2⟩) (λb u _ _ hc e _=>k b u hc e) (λb u _ _ hc e _=>⟨u.slots,k b u hc e⟩)
  (λb u _ e n=>by rw [upd_ne (lt b u e)];exact n) (λb u hc e=>⟨u,k b u hc e⟩) (λb xs e=>by rw [upd_ne (ne_of_none e hn)];exact e) (λb u xs e=>by rw [upd_ne (ne_of_none e hn)];exact e)
  (λb ps e=>⟨#[],by rw [upd_ne (ne_of_none e hn),e];simp⟩) (λm hm=>?_) (λb u e=>?_) I.bare
 ·obtain ⟨o,es,ep,ho,r⟩:=hm
  exact ⟨o,es,ep,k _ o (λz=>(hf _ z).2.1 rfl) ho,r⟩
 ·by_cases hb:b=T
  ·subst hb;rw [upd_same] at e;cases e;exact new
  ·rw [upd_ne hb] at e
   refine (I.hok b u e).stay (λc v hc q=>k c v (λz=>?_) q) (λc q=>by rw [upd_ne (ne_of_none q hn)];exact q) λc xs q=>by rw [upd_ne (ne_of_none q hn)];exact q
   have z':=(hf c z).1
   rcases hc with hc | hc
   ·rw [hc,e] at z';cases z'
   ·rw [hc] at z';cases z'
theorem Inv.turnedL {t':Nat} {ch:List Addr} (I:Inv X pins σ H s) (hf:∀ b∈ch,FpOk X pins H b) (k:∀ b u,b ∉ ch->s.heap.get? b=some u->h'.get? b=some u):Inv X pins σ H { s with heap:=h',toks:=t' }:=by
 refine I.step (g':=s.gens) (d':=s.drawn) (ch:=ch) (λb hb=>⟨(hf b hb).2.2.2.1,(hf b hb).2.1,(hf b hb).2.2.2.2.1,(hf b hb).2.2.2.2.2⟩) (λb u _ _ hc e _=>k b u hc e) (λb u _ _ hc e _=>⟨u.slots,k b u hc e⟩)
  (λb u _ e n=>n) (λb u hc e=>⟨u,k b u hc e⟩) (λb xs e=>e) (λb u xs e=>e) (λb ps e=>⟨#[],by rw [e];simp⟩) (λm hm=>?_) (λb u e=>?_) I.bare
 ·obtain ⟨o,es,ep,ho,r⟩:=hm
  exact ⟨o,es,ep,k _ o (λz=>(hf _ z).2.1 rfl) ho,r⟩
 ·refine (I.hok b u e).stay (λc v hc q=>k c v (λz=>?_) q) (λc q=>q) λc xs q=>q
  have z':=(hf c z).1
  rcases hc with hc | hc
  ·rw [hc,e] at z';cases z'
  ·rw [hc] at z';cases z'
end
def Itz (K:W.Frag) (a b:Addr):It :=
 ⟨λi H=>∃ xs ys x y,SqL K H a xs∧SqL K H b ys∧xs[i]?=some x∧ys[i]?=some y,
  λi H v H'=>∃ p x y,v=.ref p∧H p=none∧H'=upd H p (.tup [x,y])∧∀ xs ys,SqL K H a xs->SqL K H b ys->xs[i]?=some x∧ys[i]?=some y,
  λi H=>∃ xs ys,SqL K H a xs∧SqL K H b ys∧(xs.length≤i∨ys.length≤i)⟩
theorem zho {P:Program} {w:World} {K:W.Frag} {elts:List Expr} {x1:Nat} {tp:Pos} {a b z TI TO i1 i2:Addr} (D:ZipApart z TI TO i1 i2 a b) :
  Turn P w K (.Tuple elts x1 tp) (Itz K a b) [z,TI,TO,i1,i2] z
   (λi h=>IsZip h z TI TO .none∧IsPair h TI (.ref i1) (.ref i2)∧(∃ p q,IsPair h TO p q)∧h.IsListIter i1 a i∧h.IsListIter i2 b i) where
 mem:=by simp
 obj:=λi h st c hc=>by
  obtain ⟨hz,hTI,⟨p,q,hTO⟩,⟨o1,e1,_,d1⟩,⟨o2,e2,_,d2⟩⟩:=st
  simp only [List.mem_cons,List.not_mem_nil,or_false] at hc
  rcases hc with rfl | rfl | rfl | rfl | rfl
  ·exact ⟨_,hz,λv z=>by cases z⟩
  ·exact ⟨_,hTI,λv z=>by cases z⟩
  ·exact ⟨_,hTO,λv z=>by cases z⟩
  ·exact ⟨o1,e1,λv z=>by rw [d1] at z;cases z⟩
  ·exact ⟨o2,e2,λv z=>by rw [d2] at z;cases z⟩
 keep:=λi h h' st k=>by
  obtain ⟨hz,hTI,⟨p,q,hTO⟩,h1,h2⟩:=st
  exact ⟨k z (by simp) _ hz,k TI (by simp) _ hTI,⟨p,q,k TO (by simp) _ hTO⟩,h1.at λo e=>k i1 (by simp) o e,h2.at λo e=>k i2 (by simp) o e⟩
 item:=by
  intro X hP hw hK hc i pins s σ H E I hf st hg
  subst hP hw hK
  obtain ⟨xs,ys,x,y,hxs,hys,hx,hy⟩:=hg
  obtain ⟨itx,rx,px,hzx⟩:=I.list hxs
  obtain ⟨ity,ry,py,hzy⟩:=I.list hys
  obtain ⟨u,hu,ru⟩:=rx.get hx
  obtain ⟨v,hv,rv⟩:=ry.get hy
  obtain ⟨hz,hTI,⟨p,q,hTO⟩,h1,h2⟩:=st
  refine wpAny_pyNext_zip_item (x:=u) (y:=v) D hz hTI hTO h1 h2 px.isList py.isList (by simpa using hu) (by simpa using hv) λh' a1 a2 a3 a4 a5 a6 hk=>?_
  refine ⟨_,rfl,wpAny_letOwnedTupleGo_zip a1 λh'' b1 b2=>?_⟩
  have zlt:z<s.heap.objs.size:=Heap.lt_size hz
  have lt:∀ c∈[z,TI,TO,i1,i2],c<s.heap.objs.size:=λc hc=>by
   simp only [List.mem_cons,List.not_mem_nil,or_false] at hc
   rcases hc with rfl | rfl | rfl | rfl | rfl
   ·exact zlt
   ·exact Heap.lt_size hTI
   ·exact Heap.lt_size hTO
   ·obtain ⟨_,e,_⟩:=h1;exact Heap.lt_size e
   ·obtain ⟨_,e,_⟩:=h2;exact Heap.lt_size e
  have tup:IsPair h'' s.heap.objs.size u v:=b2.extBut _ _ (Nat.ne_of_gt zlt) a5
  have I1:Inv X pins σ (upd H s.heap.objs.size (.tup [x,y])) { s with heap:=h'' }:=by
   refine I.turnedNew (t':=s.toks) (ch:=[z,TO,i1,i2]) (λc hc=>hf c ?_) (λc ob hc e=>?_) (Nat.le_refl _) ?_
   ·simp only [List.mem_cons,List.not_mem_nil,or_false] at hc ⊢
    rcases hc with z | z | z | z<;>simp [z]
   ·simp only [List.mem_cons,List.not_mem_nil,or_false,not_or] at hc
    exact b2.extBut _ _ hc.1 (hk c ob hc.1 hc.2.1 hc.2.2.1 hc.2.2.2 e)
   ·exact ⟨by show 2≤sizeLine;decide,[u,v],.cons ru (.cons rv .nil),⟨_,tup,rfl,_,rfl⟩⟩
  refine ⟨.ref s.heap.objs.size,_,I1,rfl,⟨_,x,y,rfl,I.hok.fresh (Nat.le_refl _),rfl,λxs' ys' q1 q2=>?_⟩,⟨b1,?_,⟨_,_,b2.extBut _ _ D.TOz a2⟩,a3.extBut b2.extBut D.i1z,a4.extBut b2.extBut D.i2z⟩,λc hc=>?_⟩
  ·rw [I.list_inj q1 hxs,I.list_inj q2 hys];exact ⟨hx,hy⟩
  ·exact b2.extBut _ _ D.TIz (hk _ _ D.TIz D.TITO D.TIi1 D.TIi2 hTI)
  ·rw [upd_ne (Nat.ne_of_lt (lt c hc))];exact (hf c hc).1
 done:=by
  intro X hP hw hK hc i pins s σ H E I hf st hg
  subst hP hw hK
  obtain ⟨xs,ys,hxs,hys,hend⟩:=hg
  obtain ⟨itx,rx,px,hzx⟩:=I.list hxs
  obtain ⟨ity,ry,py,hzy⟩:=I.list hys
  obtain ⟨hz,hTI,⟨p,q,hTO⟩,h1,h2⟩:=st
  have lx:=rx.length
  have ly:=ry.length
  refine wpAny_pyNext_zip_end (I.ok.hd hc) D hz hTI hTO h1 h2 px.isList py.isList ?_ λh' hk=>⟨rfl,?_⟩
  ·rcases hend with e | e
   ·exact .inl (by simp;omega)
   ·exact .inr (by simp;omega)
  ·refine I.turnedL (t':=s.toks) (ch:=[z,TO,i1,i2]) (λc hc=>hf c ?_) (λc ob hc e=>?_)
   ·simp only [List.mem_cons,List.not_mem_nil,or_false] at hc ⊢
    rcases hc with z | z | z | z<;>simp [z]
   ·simp only [List.mem_cons,List.not_mem_nil,or_false,not_or] at hc
    exact hk c ob hc.1 hc.2.1 hc.2.2.1 hc.2.2.2 e
 self:=λ_ _ _ _ _ st h=>wpAny_pyIter_zip st.1 h
section
variable {X:Cx}
def zjT (K:W.Frag) (ta:TA):TI:=λσ H R=>ta σ H λvs H1=>∃ a b,vs=[.ref a,.ref b]∧(∃ xs,SqL K H1 a xs)∧(∃ ys,SqL K H1 b ys)∧R (Itz K a b) H1
theorem ziH {a b:Expr} {ta:TA} {p pos tp:Pos} {elts:List Expr} {x1:Nat} (hg:Gl X "zip") (hm:X.mg "zip"=none) (ha:PA X [a,b] ta) (hs:starEach [a,b] X.env=[(false,eval a X.env),(false,eval b X.env)]:=by rfl) (hs2:starEach [b] X.env=[(false,eval b X.env)]:=by rfl) :
  PI X (.Tuple elts x1 tp) (.Call (.Name "zip" p) [a,b] [] pos) (zjT X.K ta):=by
 intro pins s σ H R I h
 refine Call_ (ld_blt I hg hm boot_zip (PyProof.Rows.callWith_type1 (thn (ha pos pins s σ H _ I h) λus s1 ⟨vs,H1,I1,r1,q1⟩=>?_) (by rw [hs,hs2]) (by rw [hs2];rfl)))
 obtain ⟨l1,l2,e,⟨xs,hx⟩,⟨ys,hy⟩,q⟩:=q1
 subst e
 cases r1 with
 | cons r rr =>
  cases rr with
  | cons r' rr =>
   cases rr
   cases r
   cases r'
   obtain ⟨itx,rx,px,hzx⟩:=I1.list hx
   obtain ⟨ity,ry,py,hzy⟩:=I1.list hy
   have lt1:@LT.lt Nat _ l1 s1.heap.objs.size:=by obtain ⟨o,e,_⟩:=px.isList;exact Heap.lt_size e
   have lt2:@LT.lt Nat _ l2 s1.heap.objs.size:=by obtain ⟨o,e,_⟩:=py.isList;exact Heap.lt_size e
   refine call_zip_2 px.isList py.isList λh' hz hTI hTO h1 h2 hsz hk=>?_
   refine wpAny_pyIter_zip hz ?_
   have D:ZipApart (s1.heap.objs.size+4) (s1.heap.objs.size+2) (s1.heap.objs.size+3) s1.heap.objs.size (s1.heap.objs.size+1) l1 l2:=by
    constructor<;>(show @Ne Nat _ _;omega)
   refine ⟨s1.heap.objs.size+4,[s1.heap.objs.size+4,s1.heap.objs.size+2,s1.heap.objs.size+3,s1.heap.objs.size,s1.heap.objs.size+1],_,Itz X.K l1 l2,H1,rfl,I1.kept (t':=s1.toks) hk,zho D,⟨hz,hTI,⟨_,_,hTO⟩,h1,h2⟩,λc hc=>?_,q⟩
   have hle:@LE.le Nat _ s1.heap.objs.size c:=by
    simp only [List.mem_cons,List.not_mem_nil,or_false] at hc
    rcases hc with rfl | rfl | rfl | rfl | rfl<;>omega
   exact I1.fpOk hle (I1.hok.fresh hle)
end
theorem preSum_list:∀ (ns:List Int) (k:Nat),k≤ns.length->preSum (λi=>(ns[i]?).getD 0) k=(ns.take k).sum
 | _,0,_=>by simp [preSum]
 | ns,k+1,h=>by
  have ih:=preSum_list ns k (by omega)
  have hk:k<ns.length:=by omega
  have e1:preSum (λi=>(ns[i]?).getD 0) (k+1)=preSum (λi=>(ns[i]?).getD 0) k+(ns[k]?).getD 0:=rfl
  have e2:ns.take (k+1)=ns.take k++[ns[k]]:=by rw [List.take_add_one,List.getElem?_eq_getElem hk];rfl
  rw [e1,ih,e2,List.sum_append,List.getElem?_eq_getElem hk]
  simp
section
variable {X:Cx}
theorem zgE (hc:X.calm=true):zc6 X (.builtin "sum") (λxs H Q=>∃ (a:Addr) (ns:List Int),xs=[.ref a]∧SqL X.K H a (ns.map V.int)∧Q (.int ns.sum) H):=by
 intro pins s σ H xs us Q I r h
 obtain ⟨a,ns,rfl,hq,q⟩:=h
 obtain ⟨u,rfl,rx⟩:=zg8 r
 cases rx
 obtain ⟨its,rv,p,hz⟩:=I.list hq
 have hl:=rv.length
 rw [List.length_map] at hl
 have alt:a<s.heap.objs.size:=by obtain ⟨o,e,_⟩:=p.isList;exact Heap.lt_size e
 have hl1:(s.heap.push { cls:=.type "list_iterator",data:=.fields #[.ref a,.int 0 0] }).IsList a its.toArray:=Heap.IsList.push p.isList _
 refine call_sum_walkG (wpAny_pyIter_list p.isList ?_)
 refine ⟨s.heap.objs.size,[s.heap.objs.size,a],[s.heap.objs.size],its.toArray.size,_,_,λi=>(ns[i]?).getD 0,rfl,Walks.list (A:=X.A.in1) (I.ok.hd hc) s.heap.objs.size a (Nat.ne_of_lt alt) its.toArray,⟨⟨_,Heap.get?_push_size _ rfl,rfl,rfl⟩,hl1⟩,λb hb=>?_,λi v hv=>?_,λh' tk t' hk=>?_⟩
 ·show b<(s.heap.push _).objs.size
  rw [Heap.size_push]
  simp only [List.mem_cons,List.not_mem_nil,or_false] at hb
  rcases hb with rfl | rfl
  ·exact Nat.lt_succ_self _
  ·exact Nat.lt_succ_of_lt alt
 ·have hv':its[i]?=some v:=by simpa using hv
  have hi:i<its.length:=(List.getElem?_eq_some_iff.mp hv').1
  obtain ⟨u,hu,ru⟩:=rv.get (i:=i) (x:=.int (ns[i]'(by omega))) (by rw [List.getElem?_map,List.getElem?_eq_getElem (by omega)];rfl)
  rw [hv'] at hu
  cases hu
  obtain ⟨t,rfl⟩:=ru
  have e:(ns[i]?).getD 0=ns[i]'(by omega):=by rw [List.getElem?_eq_getElem (show i<ns.length by omega)];rfl
  exact ⟨t,congrArg (λz=>Value.int z t) e.symm⟩
 ·have e:preSum (λi=>(ns[i]?).getD 0) its.toArray.size=ns.sum:=by
   rw [List.size_toArray,← hl,preSum_list ns _ (Nat.le_refl _),List.take_length]
  rw [e]
  exact ⟨.int ns.sum,H,I.kept (h':=h') (t':=tk) λb o e=>hk b o (by simp only [List.mem_singleton];exact Nat.ne_of_lt (Heap.lt_size e)) (Heap.get?_push_of_some _ e),⟨t',rfl⟩,q⟩
theorem zgp (hc:X.calm=true):zc6 X (.builtin "all") (λxs H Q=>∃ (a:Addr) (bs:List Bool),xs=[.ref a]∧SqL X.K H a (bs.map V.bl)∧Q (.bl (bs.all id)) H):=by
 intro pins s σ H xs us Q I r h
 obtain ⟨a,bs,rfl,hq,q⟩:=h
 obtain ⟨u,rfl,rx⟩:=zg8 r
 cases rx
 obtain ⟨its,rv,p,hz⟩:=I.list hq
 have hl:=rv.length
 rw [List.length_map] at hl
 have alt:a<s.heap.objs.size:=by obtain ⟨o,e,_⟩:=p.isList;exact Heap.lt_size e
 have hl1:(s.heap.push { cls:=.type "list_iterator",data:=.fields #[.ref a,.int 0 0] }).IsList a its.toArray:=Heap.IsList.push p.isList _
 refine call_all_walk (wpAny_pyIter_list p.isList ?_)
 refine ⟨s.heap.objs.size,[s.heap.objs.size,a],[s.heap.objs.size],its.toArray.size,_,_,λi=>(bs[i]?).getD true,rfl,Walks.list (A:=X.A.in1) (I.ok.hd hc) s.heap.objs.size a (Nat.ne_of_lt alt) its.toArray,⟨⟨_,Heap.get?_push_size _ rfl,rfl,rfl⟩,hl1⟩,λi v s' Q' E' hv hQ'=>?_,λh' tk hk=>?_⟩
 ·have hv':its[i]?=some v:=by simpa using hv
  have hi:i<its.length:=(List.getElem?_eq_some_iff.mp hv').1
  obtain ⟨u,hu,ru⟩:=rv.get (i:=i) (x:=.bl (bs[i]'(by omega))) (by rw [List.getElem?_map,List.getElem?_eq_getElem (by omega)];rfl)
  rw [hv'] at hu
  cases hu
  cases ru
  have e:(bs[i]?).getD true=bs[i]'(by omega):=by rw [List.getElem?_eq_getElem (show i<bs.length by omega)];rfl
  have hQ2:Q' ((bs[i]?).getD true) s':=hQ'
  rw [e] at hQ2
  exact wpAny_truthy_bool hQ2
 ·have e:(List.range its.toArray.size).all (λi=>(bs[i]?).getD true)=bs.all id:=by
   rw [List.size_toArray,← hl,Bool.eq_iff_iff,List.all_eq_true,List.all_eq_true]
   constructor
   ·intro z x hx
    obtain ⟨i,hi,rfl⟩:=List.getElem_of_mem hx
    have:=z i (List.mem_range.mpr hi)
    rw [List.getElem?_eq_getElem hi] at this
    exact this
   ·intro z i hi
    have hi':=List.mem_range.mp hi
    rw [List.getElem?_eq_getElem hi']
    exact z _ (List.getElem_mem hi')
  rw [e]
  exact ⟨.bl (bs.all id),H,I.kept (h':=h') (t':=tk) λb o e=>hk b o (by simp only [List.mem_singleton];exact Nat.ne_of_lt (Heap.lt_size e)) (Heap.get?_push_of_some _ e),rfl,q⟩
def zjY (K:W.Frag):List V->Hp->VK->Prop:=λxs H Q=>∃ x t b,((∃ n,xs=[x,.ty n]∧W.kitOne K t (.type n)=some b)∨(∃ C,xs=[x,.ref C]∧W.kitOne K t (.ref C)=some b))∧TyOf K H x t∧Q (.bl b) H
theorem zhl:zc6 X (.builtin "isinstance") (zjY X.K):=by
 intro pins s σ H xs us Q I r h
 obtain ⟨x,t,b,hx,ty,q⟩:=h
 rcases hx with ⟨n,rfl,e⟩ | ⟨C,rfl,e⟩
 ·obtain ⟨u,w',rfl,rx,ry⟩:=zhr r
  cases ry
  exact isinst_ok I rx ty e λtk=>⟨.bl b,H,I.tok _,rfl,q⟩
 ·obtain ⟨u,w',rfl,rx,ry⟩:=zhr r
  cases ry
  exact isinst_ok I rx ty e λtk=>⟨.bl b,H,I.tok _,rfl,q⟩
end
theorem kit_int_bool (K:W.Frag):W.kitOne K (.type "int") (.type "bool")=some false:=by with_unfolding_all rfl
inductive EqV (K:W.Frag) (H:Hp):Nat->V->V->Bool->Prop where
 | flat {n:Nat} {x y:V} (fx:zgX x=true) (fy:zgX y=true):EqV K H n x y (eqV x y)
 | same {n:Nat} {a:Addr}:EqV K H n (.ref a) (.ref a) true
 | lists {n:Nat} {a b:Addr} {xs ys:List V} {e:Nat->Bool} (ne:a≠b) (ha:SqL K H a xs) (hb:SqL K H b ys) (hl:xs.length=ys.length)
   (he:∀ (j:Nat) (x y:V),xs[j]?=some x->ys[j]?=some y->EqV K H n x y (e j)):EqV K H (n+1) (.ref a) (.ref b) ((List.range xs.length).all e)
 | lens {n:Nat} {a b:Addr} {xs ys:List V} (ne:a≠b) (ha:SqL K H a xs) (hb:SqL K H b ys) (hl:xs.length≠ys.length):EqV K H (n+1) (.ref a) (.ref b) false
theorem EqV.at {X:Cx} {pins:List (Addr×Obj)} {σ:St} {H:Hp} {s:Shared} (I:Inv X pins σ H s) {n:Nat} {x y:V} {k:Bool} (h:EqV X.K H n x y k) :
  ∀ {A:Around} {u v:Value},RelV x u->RelV y v->A.units+n<cLine->SeqAt.EqAt A s u v k:=by
 induction h with
 | flat fx fy=>intro A u v rx ry _;exact eqAt_V rx ry fx fy
 | same=>intro A u v rx ry _;cases rx;cases ry;exact SeqAt.EqAt.same _
 | @lists n a b xs ys e ne ha hb hl he ih =>
  intro A u v rx ry hu
  cases rx
  cases ry
  obtain ⟨ita,ra,pa,za⟩:=I.list ha
  obtain ⟨itb,rb,pb,zb⟩:=I.list hb
  have la:=ra.length
  have lb:=rb.length
  have q:=SeqAt.RcAt.lists (A:=A) (e:=e) pa.isList pb.isList (by simp;omega) (by omega) λj h1 h2=>?_
  ·rw [List.size_toArray,← la] at q
   exact SeqAt.EqAt.of_refs ne q
  ·have h1':j<ita.length:=by simpa using h1
   have h2':j<itb.length:=by simpa using h2
   obtain ⟨u',hu',ru⟩:=ra.get (i:=j) (x:=xs[j]'(by omega)) (List.getElem?_eq_getElem (by omega))
   obtain ⟨v',hv',rv⟩:=rb.get (i:=j) (x:=ys[j]'(by omega)) (List.getElem?_eq_getElem (by omega))
   have eu:ita.toArray[j]=u':=by
    rw [List.getElem?_eq_getElem h1'] at hu'
    simpa using hu'
   have ev:itb.toArray[j]=v':=by
    rw [List.getElem?_eq_getElem h2'] at hv'
    simpa using hv'
   rw [eu,ev]
   exact ih j _ _ (List.getElem?_eq_getElem (by omega)) (List.getElem?_eq_getElem (by omega)) ru rv (by show A.units+1+n<cLine;omega)
 | @lens n a b xs ys ne ha hb hl =>
  intro A u v rx ry hu
  cases rx
  cases ry
  obtain ⟨ita,ra,pa,za⟩:=I.list ha
  obtain ⟨itb,rb,pb,zb⟩:=I.list hb
  have la:=ra.length
  have lb:=rb.length
  exact SeqAt.EqAt.of_refs ne (SeqAt.RcAt.lists_lengths pa.isList pb.isList (by simp;omega) (by omega))
def rEqL (K:W.Frag) (neg:Bool):R2:=λx y H Q=>∃ a b n xs ys,x=.ref a∧y=.ref b∧SqL K H a xs∧SqL K H b ys∧n≤50 ∧
 ((xs.length≠ys.length∧Q (.bl neg) H)∨∃ e:Nat->Bool,xs.length=ys.length∧(∀ (j:Nat) (x y:V),xs[j]?=some x->ys[j]?=some y->EqV K H n x y (e j))∧Q (.bl (if neg then !(List.range xs.length).all e else (List.range xs.length).all e)) H)
section
variable {X:Cx}
theorem zeQ {pins:List (Addr×Obj)} {σ:St} {H:Hp} {s:Shared} (I:Inv X pins σ H s) {n:Nat} {xs ys:List V} {ita itb:List Value} {e:Nat->Bool} (ra:Vals xs ita) (rb:Vals ys itb) (he:∀ (j:Nat) (x y:V),xs[j]?=some x->ys[j]?=some y->EqV X.K H n x y (e j))
  {A:Around} (hu:A.units+1+n<cLine):∀ j (h1:j<ita.toArray.size) (h2:j<itb.toArray.size),SeqAt.EqAt A.in1 s ita.toArray[j] itb.toArray[j] (e j):=λj h1 h2=>by
 have la:=ra.length
 have lb:=rb.length
 have h1':j<ita.length:=by simpa using h1
 have h2':j<itb.length:=by simpa using h2
 obtain ⟨u',hu',ru⟩:=ra.get (i:=j) (x:=xs[j]'(by omega)) (List.getElem?_eq_getElem (by omega))
 obtain ⟨v',hv',rv⟩:=rb.get (i:=j) (x:=ys[j]'(by omega)) (List.getElem?_eq_getElem (by omega))
 have eu:ita.toArray[j]=u':=by
  rw [List.getElem?_eq_getElem h1'] at hu'
  simpa using hu'
 have ev:itb.toArray[j]=v':=by
  rw [List.getElem?_eq_getElem h2'] at hv'
  simpa using hv'
 rw [eu,ev]
 exact (he j _ _ (List.getElem?_eq_getElem (by omega)) (List.getElem?_eq_getElem (by omega))).at I ru rv hu
theorem zjb (hu:X.A.units+64<cLine):OpR X (compareOp .Eq) (rEqL X.K false):=by
 intro pins s σ H x y v u Q I rx ry h
 obtain ⟨a,b,n,xs,ys,rfl,rfl,ha,hb,hn,h⟩:=h
 cases rx
 cases ry
 obtain ⟨ita,ra,pa,za⟩:=I.list ha
 obtain ⟨itb,rb,pb,zb⟩:=I.list hb
 have la:=ra.length
 have lb:=rb.length
 rcases h with ⟨hl,q⟩ | ⟨e,hl,he,q⟩
 ·exact SeqAt.eq_list_lengthsAt pa.isList pb.isList (by simp;omega) (by omega) ⟨.bl false,H,I,rfl,q⟩
 ·refine SeqAt.eq_listAt (e:=e) pa.isList pb.isList (by simp;omega) (by omega) (zeQ I ra rb he (by omega)) ?_
  rw [List.size_toArray,← la]
  exact ⟨.bl _,H,I,rfl,q⟩
theorem zjw (hu:X.A.units+64<cLine):OpR X (compareOp .NotEq) (rEqL X.K true):=by
 intro pins s σ H x y v u Q I rx ry h
 obtain ⟨a,b,n,xs,ys,rfl,rfl,ha,hb,hn,h⟩:=h
 cases rx
 cases ry
 obtain ⟨ita,ra,pa,za⟩:=I.list ha
 obtain ⟨itb,rb,pb,zb⟩:=I.list hb
 have la:=ra.length
 have lb:=rb.length
 rcases h with ⟨hl,q⟩ | ⟨e,hl,he,q⟩
 ·exact SeqAt.RcNeAt.lists_lengths pa.isList pb.isList (by simp;omega) (by omega) _ _ _ _ ⟨.bl true,H,I,rfl,q⟩
 ·refine SeqAt.RcNeAt.lists (e:=e) pa.isList pb.isList (by simp;omega) (by omega) (zeQ I ra rb he (by omega)) _ _ _ _ ?_
  rw [List.size_toArray,← la]
  exact ⟨.bl _,H,I,rfl,q⟩
end
theorem all_eq {α:Type} [DecidableEq α] {xs ys:List α} (h:xs.length=ys.length):(List.range xs.length).all (λj=>decide (xs[j]?=ys[j]?))=decide (xs=ys):=by
 rw [Bool.eq_iff_iff,List.all_eq_true,decide_eq_true_iff]
 constructor
 ·intro z
  refine List.ext_getElem? λi=>?_
  by_cases hi:i<xs.length
  ·exact of_decide_eq_true (z i (List.mem_range.mpr hi))
  ·rw [List.getElem?_eq_none (by omega),List.getElem?_eq_none (by omega)]
 ·rintro rfl i _
  exact decide_eq_true rfl
theorem rEqL.ints {K:W.Frag} {neg:Bool} {H:Hp} {Q:VK} {a b:Addr} {ns ms:List Int} (ha:SqL K H a (ns.map V.int)) (hb:SqL K H b (ms.map V.int)) (q:Q (.bl (if neg then !decide (ns=ms) else decide (ns=ms))) H) :
  rEqL K neg (.ref a) (.ref b) H Q:=by
 refine ⟨a,b,0,_,_,rfl,rfl,ha,hb,by omega,?_⟩
 by_cases hl:ns.length=ms.length
 ·refine .inr ⟨λj=>decide (ns[j]?=ms[j]?),by simp [hl],λj x y hx hy=>?_,?_⟩
  ·rw [List.getElem?_map] at hx hy
   cases e1:ns[j]? with
   | none=>rw [e1] at hx;cases hx
   | some i =>
    cases e2:ms[j]? with
    | none=>rw [e2] at hy;cases hy
    | some k =>
     rw [e1] at hx
     rw [e2] at hy
     cases hx
     cases hy
     have q:=EqV.flat (K:=K) (H:=H) (n:=0) (x:=.int i) (y:=.int k) rfl rfl
     have e:eqV (.int i) (.int k)=decide (some i=some k):=by
      show (i == k)=_
      rw [Bool.beq_eq_decide_eq]
      simp
     rw [e] at q
     show EqV K H 0 (V.int i) (V.int k) (decide (ns[j]?=ms[j]?))
     rw [e1,e2]
     exact q
  ·rw [List.length_map,all_eq hl]
   exact q
 ·refine .inl ⟨by simpa using hl,?_⟩
  have e:decide (ns=ms)=false:=decide_eq_false (λz=>hl (by rw [z]))
  rw [e] at q
  cases neg<;>exact q
def Rows (K:W.Frag) (H:Hp) (a:Addr) (xss:List (List Int)):Prop :=
 ∃ as:List Addr,SqL K H a (as.map V.ref)∧as.length=xss.length∧∀ (j:Nat) (p:Addr) (ns:List Int),as[j]?=some p->xss[j]?=some ns->H p=some (.lst (ns.map V.int))
theorem ze5 {ns ms:List Int} (h:ns.map V.int=ms.map V.int):ns=ms:=by
 induction ns generalizing ms with
 | nil=>cases ms with
  | nil=>rfl
  | cons _ _=>cases h
 | cons x r ih=>cases ms with
  | nil=>cases h
  | cons y s =>
   injection h with h1 h2
   injection h1 with h1
   rw [h1,ih h2]
theorem EqV.ints {K:W.Frag} {H:Hp} {n:Nat} {a b:Addr} {ns ms:List Int} (ha:H a=some (.lst (ns.map V.int))) (hb:H b=some (.lst (ms.map V.int))):EqV K H (n+1) (.ref a) (.ref b) (decide (ns=ms)):=by
 by_cases hab:a=b
 ·subst hab
  rw [ha] at hb
  have e:ns=ms:=ze5 (by injection hb with hb;injection hb)
  rw [decide_eq_true e]
  exact .same
 ·by_cases hl:ns.length=ms.length
  ·have q:=EqV.lists (K:=K) (H:=H) (n:=n) (e:=λj=>decide (ns[j]?=ms[j]?)) hab (SqL.of ha) (SqL.of hb) (by simp [hl]) λj x y hx hy=>?_
   ·rw [List.length_map,all_eq hl] at q
    exact q
   ·rw [List.getElem?_map] at hx hy
    cases e1:ns[j]? with
    | none=>rw [e1] at hx;cases hx
    | some i =>
     cases e2:ms[j]? with
     | none=>rw [e2] at hy;cases hy
     | some k =>
      rw [e1] at hx
      rw [e2] at hy
      cases hx
      cases hy
      have q:=EqV.flat (K:=K) (H:=H) (n:=n) (x:=.int i) (y:=.int k) rfl rfl
      have e:eqV (.int i) (.int k)=decide (some i=some k):=by
       show (i == k)=_
       rw [Bool.beq_eq_decide_eq]
       simp
      rw [e] at q
      exact q
  ·rw [decide_eq_false (λz=>hl (by rw [z]))]
   exact .lens hab (SqL.of ha) (SqL.of hb) (by simpa using hl)
theorem rEqL.rows {K:W.Frag} {neg:Bool} {H:Hp} {Q:VK} {a b:Addr} {xss yss:List (List Int)} (ha:Rows K H a xss) (hb:Rows K H b yss) (q:Q (.bl (if neg then !decide (xss=yss) else decide (xss=yss))) H) :
  rEqL K neg (.ref a) (.ref b) H Q:=by
 obtain ⟨as,hsa,hla,hra⟩:=ha
 obtain ⟨bs,hsb,hlb,hrb⟩:=hb
 refine ⟨a,b,1,_,_,rfl,rfl,hsa,hsb,by omega,?_⟩
 by_cases hl:xss.length=yss.length
 ·refine .inr ⟨λj=>decide (xss[j]?=yss[j]?),by simp;omega,λj x y hx hy=>?_,?_⟩
  ·rw [List.getElem?_map] at hx hy
   cases e1:as[j]? with
   | none=>rw [e1] at hx;cases hx
   | some p =>
    cases e2:bs[j]? with
    | none=>rw [e2] at hy;cases hy
    | some p2 =>
     rw [e1] at hx
     rw [e2] at hy
     cases hx
     cases hy
     have h1:j<xss.length:=by have:=(List.getElem?_eq_some_iff.mp e1).1;omega
     have h2:j<yss.length:=by omega
     have q:=EqV.ints (K:=K) (n:=0) (hra j p _ e1 (List.getElem?_eq_getElem h1)) (hrb j p2 _ e2 (List.getElem?_eq_getElem h2))
     show EqV K H 1 (V.ref p) (V.ref p2) (decide (xss[j]?=yss[j]?))
     rw [List.getElem?_eq_getElem h1,List.getElem?_eq_getElem h2]
     have e:decide (xss[j]=yss[j])=decide (some xss[j]=some yss[j]):=by simp
     rw [e] at q
     exact q
  ·rw [List.length_map,hla,all_eq hl]
   exact q
 ·refine .inl ⟨by simp;omega,?_⟩
  have e:decide (xss=yss)=false:=decide_eq_false (λz=>hl (by rw [z]))
  rw [e] at q
  cases neg<;>exact q
section
variable {X:Cx}
theorem zft {n k m:Nat} (h:n<2^k) (hk:k≤m) (hm:0<m):n.log2<m:=by
 by_cases hn:n=0
 ·subst hn
  exact Nat.lt_of_le_of_lt (by decide:Nat.log2 0≤0) hm
 ·exact Nat.lt_of_lt_of_le ((Nat.log2_lt hn).mpr h) hk
theorem zgC {i:Int} {k:Nat} (h:i.natAbs.log2<k):Builtin.Int.intBits i≤k:=by
 unfold Builtin.Int.intBits
 split
 ·exact Nat.zero_le _
 ·omega
def ziP (i j:Int):Prop:=0<j∧j.natAbs.log2<9000
theorem zb2:OpR X (binaryOp .FloorDiv) (rI ziP λi j=>.int (i/j)):=opI λi j _ _ _ _ _ hc q=>by
 have hj:j≠0:=by have:=hc.1;omega
 have e:i.fdiv j=i/j:=Int.fdiv_eq_ediv_of_nonneg _ (by have:=hc.1;omega)
 exact floordiv_int hj (by rw [e];exact q) (.inl (PyProof.noPylong_of_log2 hc.2))
end
end L2
namespace L2
open PySem PySem.Spec PyProof.Rows
def zhJ (scope osc:Scope) (N own fvn:List Str) (fv:List Nat):Bool :=
 (scope.names.all λy=>y.2 != .cell||scope.names.lookup y.1 == some .cell)&&(scope.names.all λy=>y.2 != .free||scope.names.lookup y.1 == some .free)&&(scope.kind == .function)&&(scope.names.all λy=>y.2 != .local||scope.names.lookup y.1 == some .local) &&
 (scope.names.all λy=>y.2 != .free||osc.names.lookup y.1 == some .cell||osc.names.lookup y.1 == some .free)&&(fvn.map some == fv.map λi=>N[i]?)&&(fvn.all λx=>scope.names.lookup x == some .free)
theorem BlkScope.of {X:Cx} {scope osc:Scope} {N own fvn:List Str} {fv:List Nat} (hX:X.env.scope=osc) (hN:X.N=N) (h:zhJ scope osc N own fvn fv=true):BlkScope X scope own fvn fv:=by
 subst hX hN
 unfold zhJ at h
 simp only [Bool.and_eq_true,List.all_eq_true,bne_iff_ne,beq_iff_eq,Bool.or_eq_true] at h
 obtain ⟨⟨⟨⟨⟨⟨h1,h1'⟩,h2⟩,h3⟩,h4⟩,h5⟩,h6⟩:=h
 refine ⟨λy hy e=>?_,λy hy e=>?_,h2,λy hy e=>?_,λy hy e=>?_,h5,h6⟩
 ·rcases h1 y hy with z | z
  ·exact absurd e z
  ·exact z
 ·rcases h1' y hy with z | z
  ·exact absurd e z
  ·exact z
 ·rcases h3 y hy with z | z
  ·exact absurd e z
  ·exact z
 ·rcases h4 y hy with (z | z) | z
  ·exact absurd e z
  ·exact .inl z
  ·exact .inr z
theorem Same.new {H:Hp} {p:Addr} (h:H p=none) (o:HO):Same H (upd H p o):=λb u q=>by rw [upd_ne (ne_of_none q h)];exact q
theorem Same.tup {K:W.Frag} {H H':Hp} {a:Addr} {xs:List V} (e:Same H H') (h:SqT K H a xs):SqT K H' a xs:=by
 rcases h with (h | ⟨o,h⟩) | h
 ·exact .inl (.inl (e _ _ h))
 ·exact .inl (.inr ⟨o,e _ _ h⟩)
 ·exact .inr h
theorem Same.rows {K:W.Frag} {H H':Hp} {a:Addr} {xss:List (List Int)} (e:Same H H') (h:Rows K H a xss):Rows K H' a xss:=by
 obtain ⟨as,h1,h2,h3⟩:=h
 exact ⟨as,e.seq h1,h2,λj p ns q1 q2=>e _ _ (h3 j p ns q1 q2)⟩
structure Callee (P:Program) (w:World) (K:W.Frag) (mg:Str->Option Value) (base:Heap) (CX:CXT) (k:Nat) (x:Str) (ps:List Str) (sp:Sp):Prop where
 ex:∃ f fd,FnOk P w K mg base CX k f fd ps sp∧mg x=some (.ref f)∧W.keepIn K (.ref f)=true∧zcY K fd ps []
section
variable {X:Cx} {CX:CXT} {k:Nat} {ps:List Str} {sp:Sp} {E:XK} {x:Str} {p pos:Pos} {e:Expr} {es:List Expr} {t:TA}
theorem pe_fn (F:Callee X.prog X.w X.K X.mg X.base CX k x ps sp) (hr:Room k X.A) (hg:Gl X x) (hx:zdH CX X E)
  (ha:PA X (e :: es) t) (hdb:(x == ("__debug__":Str))=false:=by decide) (he:starEach (e :: es) X.env=(false,eval e X.env) :: starEach es X.env:=by rfl) (hpl:(backTo pos (starEach es X.env)).any (·.1)=false:=by rfl) :
  PE X (.Call (.Name x p) (e :: es) [] pos) (tCall sp [] E t):=by
 obtain ⟨f,fd,G,hm,hk,hb⟩:=F.ex
 exact zim G hr hg hm hk hb .nil hx ha hdb he hpl
end
section
variable {X:Cx} {K:W.Frag}
theorem call_len_K (hK:X.K=K):zc6 X (.builtin "len") (λxs H Q=>∃ p ys,xs=[.ref p]∧(SqL K H p ys∨SqT K H p ys)∧Q (.int ys.length) H):=by subst hK;exact zer
theorem zcq (hK:X.K=K):zc6 X (.type "list") (λxs H Q=>∃ p ys,xs=[.ref p]∧(SqL K H p ys∨SqT K H p ys)∧∀ l,H l=none->Q (.ref l) (upd H l (.lst ys))):=by subst hK;exact zeF
theorem zf3 (hK:X.K=K):zc6 X (.builtin "isinstance") (zjY K):=by subst hK;exact zhl
theorem zf2 (hK:X.K=K) (hc:X.calm=true):zc6 X (.builtin "sum") (λxs H Q=>∃ (a:Addr) (ns:List Int),xs=[.ref a]∧SqL K H a (ns.map V.int)∧Q (.int ns.sum) H):=by subst hK;exact zgE hc
theorem zf0 (hK:X.K=K) (hc:X.calm=true):zc6 X (.builtin "all") (λxs H Q=>∃ (a:Addr) (bs:List Bool),xs=[.ref a]∧SqL K H a (bs.map V.bl)∧Q (.bl (bs.all id)) H):=by subst hK;exact zgp hc
theorem ix_list_K (hK:X.K=K):IxR X (zjF K):=by subst hK;exact zif
theorem zdg (hK:X.K=K):SlR X (zjA K):=by subst hK;exact zh3
theorem op_eq_K (hK:X.K=K) (hu:X.A.units+64<cLine):OpR X (compareOp .Eq) (rEqL K false):=by subst hK;exact zjb hu
theorem zgs (hK:X.K=K) (hu:X.A.units+64<cLine):OpR X (compareOp .NotEq) (rEqL K true):=by subst hK;exact zjw hu
theorem zcu {e:Expr} {f:Str} {pos:Pos} {ta:TE} (hK:X.K=K) (he:PE X e ta) (hb:attributeBase e f X.env (eval e X.env)=eval e X.env):PE X (.Attribute e f pos) (tFld K ta f):=by subst hK;exact zjl he hb
theorem pi_list_K {tg l:Expr} {tl:TE} (hK:X.K=K) (hl:PE X l tl):PI X tg l (zii K tl):=by subst hK;exact zid hl
theorem zfr {a b:Expr} {ta:TA} {p pos tp:Pos} {elts:List Expr} {x1:Nat} (hK:X.K=K) (hg:Gl X "zip") (hm:X.mg "zip"=none) (ha:PA X [a,b] ta) (hs:starEach [a,b] X.env=[(false,eval a X.env),(false,eval b X.env)]:=by rfl) (hs2:starEach [b] X.env=[(false,eval b X.env)]:=by rfl) :
  PI X (.Tuple elts x1 tp) (.Call (.Name "zip" p) [a,b] [] pos) (zjT K ta):=by subst hK;exact ziH hg hm ha hs hs2
theorem zek {es:List Expr} {k:Nat} {t:TGs} {n:Nat} {pos:Pos} (hK:X.K=K) (hc:X.calm=true) (h:PGs X es t)
  (hn:(assignEach es X.env).length=n:=by rfl) (hst:(assignEach es X.env).findIdx? (·.1)=none:=by rfl):PG X (.Tuple es k pos) (ziS K n t):=by subst hK;exact zjm hc h hn hst
theorem zeX {o e:Expr} {to:TE} {t:TA} {apos cpos:Pos} (hK:X.K=K) (ho:PE X o to) (ha:PA X [e] t)
  (hbase:attributeBase o "append" X.env (eval o X.env)=eval o X.env:=by rfl)
  (hfew:((backTo cpos (starEach [e] X.env)).all (λx=>!x.1)&&(backToKw cpos (keywordEach [] X.env)).all (λx=>x.1.isSome)
   &&decide (([e]:List Expr).length+([]:List Keyword).length+(if ([]:List Keyword).isEmpty then 0 else 1)<30))=true:=by rfl)
  (hline:(apos.endLine == cpos.line)=true:=by rfl) (hs:starEach [e] X.env=(false,eval e X.env) :: starEach [] X.env:=by rfl) (hplain:(backTo cpos (starEach [] X.env)).any (·.1)=false:=by rfl) :
  PE X (.Call (.Attribute o "append" apos) [e] [] cpos) (tBM K "list" rAppend to t):=by
 subst hK
 exact zjN PySem.F.plainAttrs_list PySem.F.slot_list_append PySem.F.type_list_append mt_append ho ha hbase hfew hline hs hplain
end
end L2
namespace L2
open PySem PySem.Spec PyProof.Rows
theorem zaq {n:Nat} (h:n≤10000):n≤sizeLine:=Nat.le_trans h (by decide)
end L2
namespace L2
open PySem PySem.Spec PyProof.Rows
theorem zd1 (o:Obj) (f:Array Value->Array Value):(o.mapFields f).dict=o.dict:=by
 obtain ⟨c,d,dt,sl⟩:=o
 cases dt<;>rfl
section
variable {M:Model} {A:Around} {E:Value->Shared->Prop} {s:Shared}
theorem zgL {base:Heap} {env:Env} {outer:List Env} {L e:Addr} {oe:Obj} {vs:Array Value} {head:Value} {hadNext:Bool} {Q:Unit->Shared->Prop}
  (hfr:A.frames=some (env :: outer)) (hl:s.heap.FunFrames base (env :: outer)) (hf:env.frame=some L) (he:s.heap.get? e=some oe) (hd:oe.data=.fields vs) (hsz:1<vs.size)
  (h:∀ (h':Heap) (T:Addr) (oT:Obj) (ts:Array Value),(∀ b o,b ∉ frs (env :: outer)->b≠e->s.heap.get? b=some o->h'.get? b=some o)->(∀ b o,b≠e->s.heap.get? b=some o->∃ sl,h'.get? b=some { o with slots:=sl }) →
   h'.get? e=some (oe.mapFields (·.setIfInBounds 1 (.ref T)))->s.heap.objs.size≤T->h'.get? T=some oT->oT.data=.fields ts->ts[3]?=some (rawInt L)->Q () { s with heap:=h' }) :
  wpAny M A (do let a ← frameOf env;let pl ← entryPlaceOf L hadNext;let b ← EntryCells.newEntry head a .none (rawInt L) .none pl;setField (.ref e) 1 b) Q E s:=by
 have hene:e ∉ (env :: outer).filterMap (·.frame):=λhm=>by
  obtain ⟨_,o,ho,hnf⟩:=hl.mem hm
  rw [he] at ho;injection ho with ho;subst ho;exact hnf vs hd
 refine wpAny_bind (wpAny_frameOf_fun hfr hl hf λh₁ hs₁=>?_)
 refine wpAny_bind (wpAny_entryPlaceOf λpl hpl=>?_)
 unfold EntryCells.newEntry newFields
 refine wpAny_bind (wpAny_newObj_type ?_ (hpl.sizeOk5 _ _ _ _ _))
 have he₁:h₁.get? e=some oe:=(hs₁.2.1 e hene).trans he
 have he₂:=Heap.get?_push_of_some (h:=h₁) { cls:=.type "traceback",dict:=none,data:=.fields ([head,.ref L,.none,rawInt L,.none]++(if pl.isEmpty then List.replicate 6 Value.none else pl)).toArray } he₁
 refine wpAny_setField he₂ hd hsz ?_
 have hTe:h₁.objs.size≠e:=Nat.ne_of_gt (Heap.lt_size he₁)
 have hd₃:=Obj.data_mapFields hd (·.setIfInBounds 1 (Value.ref h₁.objs.size))
 have he₃:=Heap.get?_update_self (Obj.mapFields (·.setIfInBounds 1 (Value.ref h₁.objs.size))) he₂ (Obj.isFreed_of_fields hd₃)
 have hT₃:=(Heap.get?_update_other (h₁.push { cls:=.type "traceback",dict:=none,data:=.fields ([head,.ref L,.none,rawInt L,.none]++(if pl.isEmpty then List.replicate 6 Value.none else pl)).toArray })
  (Obj.mapFields (·.setIfInBounds 1 (Value.ref h₁.objs.size))) (Ne.symm hTe)).trans (Heap.get?_push_size h₁ rfl)
 refine h _ h₁.objs.size _ _ (λb o hb hbe e1=>?_) (λb o hbe e1=>?_) he₃ (Nat.le_of_eq hs₁.1.symm) hT₃ rfl (by first | (simp;done) | (rcases hpl with rfl | ⟨_,_,_,_,_,_,_,rfl⟩<;>simp))
 ·rw [Heap.get?_update_other _ _ (Ne.symm hbe)]
  exact Heap.get?_push_of_some _ ((hs₁.2.1 b hb).trans e1)
 ·obtain ⟨sl,e2⟩:=hs₁.2.2 b o e1
  exact ⟨sl,by rw [Heap.get?_update_other _ _ (Ne.symm hbe)];exact Heap.get?_push_of_some _ e2⟩
end
def ExcAt (h:Heap) (H:Hp) (Fz:Addr->Prop) (L e:Addr) (cls:Value) (dct:Option Addr):Prop :=
 ∃ oe vs a0,h.get? e=some oe∧oe.cls=cls∧oe.dict=dct∧oe.data=.fields vs∧vs[0]?=some a0∧1<vs.size∧H e=none∧Fz e ∧
  (vs[1]?=some .none∨∃ T oT ts,vs[1]?=some (.ref T)∧T≠e∧h.get? T=some oT∧oT.data=.fields ts∧(ts[3]?=some .none∨ts[3]?=some (rawInt L))∧H T=none∧Fz T)
def zed (h:Heap) (H:Hp) (Fz:Addr->Prop) (fl:Value) (e:Addr) (cls:Value) (dct:Option Addr):Prop :=
 ∃ oe vs a0,h.get? e=some oe∧oe.cls=cls∧oe.dict=dct∧oe.data=.fields vs∧vs[0]?=some a0∧1<vs.size∧H e=none∧Fz e ∧
  ∃ T oT ts,vs[1]?=some (.ref T)∧T≠e∧h.get? T=some oT∧oT.data=.fields ts∧ts[3]?=some fl∧H T=none∧Fz T
theorem zed.atN {h:Heap} {H:Hp} {Fz:Addr->Prop} {L e:Addr} {cls:Value} {dct:Option Addr} (x:zed h H Fz .none e cls dct):ExcAt h H Fz L e cls dct:=by
 obtain ⟨oe,vs,a0,h1,h2,h3,h4,h5,h6,h7,h8,T,oT,ts,t1,t2,t3,t4,t5,t6,t7⟩:=x
 exact ⟨oe,vs,a0,h1,h2,h3,h4,h5,h6,h7,h8,.inr ⟨T,oT,ts,t1,t2,t3,t4,.inl t5,t6,t7⟩⟩
theorem zed.imp {h:Heap} {H:Hp} {Fz Fz':Addr->Prop} {e:Addr} {fl cls:Value} {dct:Option Addr} (x:zed h H Fz fl e cls dct) (k:∀ b,Fz b->Fz' b):zed h H Fz' fl e cls dct:=by
 obtain ⟨oe,vs,a0,h1,h2,h3,h4,h5,h6,h7,h8,T,oT,ts,t1,t2,t3,t4,t5,t6,t7⟩:=x
 exact ⟨oe,vs,a0,h1,h2,h3,h4,h5,h6,h7,k _ h8,T,oT,ts,t1,t2,t3,t4,t5,t6,k _ t7⟩
structure Own (X:Cx):Prop where
 stk:X.stack=X.env :: X.outer
 fr:X.env.frame=some X.env.locals
 ex:X.ex=[]
theorem zbX.there {P:Program} {w:World} {H:Hp} {h:Heap} {a:Addr} {o:HO} (x:zbX P w H h a o):∃ ob,h.get? a=some ob:=by
 cases o with
 | lst xs=>obtain ⟨_,_,_,_,e⟩:=x;exact ⟨_,e⟩
 | tup xs=>obtain ⟨_,_,_,o,e,_⟩:=x;exact ⟨_,e⟩
 | dK kvs=>obtain ⟨_,_,_,_,o,_,_,e,_⟩:=x;exact ⟨_,e⟩
 | dT kvs=>obtain ⟨_,_,_,_,o,_,_,e,_⟩:=x;exact ⟨_,e⟩
 | set S n=>obtain ⟨o,_,_,_,e,_⟩:=x;exact ⟨_,e⟩
 | ins C dx fs=>obtain ⟨_,_,_,e,_⟩:=x;exact ⟨_,e⟩
 | own y=>obtain ⟨_,e⟩:=x;exact ⟨_,e⟩
 | xd fs=>obtain ⟨_,⟨_,_,_,e,_⟩,_⟩:=x;exact ⟨_,e⟩
 | rng lo hi=>obtain ⟨_,_,_,e⟩:=x;exact ⟨_,e⟩
 | frz ob u=>obtain ⟨e,_⟩:=x;exact ⟨_,e⟩
 | tbl ps=>exact ⟨_,(show h.get? a=some _ from x)⟩
 | met f y=>exact ⟨_,(show h.get? a=some _ from x)⟩
 | ext φ=>obtain ⟨_,e,_⟩:=x;exact e
section
variable {X:Cx} {pins:List (Addr×Obj)} {σ:St} {H:Hp} {s:Shared} {h':Heap}
theorem Inv.recs {t':Nat} {ch:List Addr} (I:Inv X pins σ H s) (hch:∀ b∈ch,H b=none∧X.s₀.heap.get? b=none∧b≠X.env.locals∧(∀ x c,X.env.cells.lookup x=some c->c≠b)∧∀ p∈X.pn++pins,p.1≠b)
  (hex:X.ex=[]) (k:∀ b o,b ∉ frs X.stack->b ∉ ch->s.heap.get? b=some o->h'.get? b=some o) (ks:∀ b o,b ∉ ch->s.heap.get? b=some o->∃ sl,h'.get? b=some { o with slots:=sl }) :
  Inv X pins σ H { s with heap:=h',toks:=t' }:=by
 have sub:=I.stkSub
 have nfr:∀ b,b≠X.env.locals->b ∉ X.fs->b ∉ frs X.stack:=λb h1 h2 z=>by
  rcases List.mem_cons.mp (sub b z) with q | q
  ·exact h1 q
  ·exact h2 q
 have cl:∀ x c,X.env.cells.lookup x=some c->c≠X.env.locals:=I.cne
 refine ⟨I.ok,I.os,I.bare,⟨λb o e n hb hx=>?_,λb o e n hb hx=>?_,I.base.free,λb o e hx=>?_,I.base.tups,I.base.frzs,I.base.tbls⟩,?_,λx c e=>?_,I.free,I.freeC,λp hp=>?_,λb u e=>?_,I.len⟩
 ·have nc:b ∉ ch:=λz=>by rw [(hch b z).2.1] at e;cases e
  exact k b o (nfr b (Nat.ne_of_lt (Nat.lt_of_lt_of_le (Heap.lt_size e) I.ok.above)) hb) nc (I.base.keep b o e n hb hx)
 ·have nc:b ∉ ch:=λz=>by rw [(hch b z).2.1] at e;cases e
  obtain ⟨sl,e1⟩:=I.base.slot b o e n hb hx
  obtain ⟨sl',e2⟩:=ks b _ nc e1
  exact ⟨sl',e2⟩
 ·have nc:b ∉ ch:=λz=>by rw [(hch b z).2.1] at e;cases e
  obtain ⟨o',e1⟩:=I.base.there b o e hx
  obtain ⟨sl',e2⟩:=ks b _ nc e1
  exact ⟨_,e2⟩
 ·obtain ⟨m,⟨o,es,ep,ho,hd,r⟩,hl⟩:=I.loc
  have nc:X.env.locals ∉ ch:=λz=>(hch _ z).2.2.1 rfl
  obtain ⟨sl,e1⟩:=ks _ _ nc ho
  refine ⟨m,⟨_,es,ep,e1,hd,r⟩,λi x v e1 e2 e3=>?_⟩
  obtain ⟨u,ru,l⟩:=hl i x v e1 e2 e3
  refine ⟨u,ru,?_⟩
  rcases l with l | ⟨kk,c,e,oc,hoc,hcd⟩
  ·exact .inl l
  ·obtain ⟨sl',e4⟩:=ks c oc (λz=>(hch c z).2.2.2.1 x c e rfl) hoc
   exact .inr ⟨kk,c,e,_,e4,hcd⟩
 ·obtain ⟨v,oc,hoc,hcd⟩:=I.cell x c e
  obtain ⟨sl',e4⟩:=ks c oc (λz=>(hch c z).2.2.2.1 x c e rfl) hoc
  exact ⟨v,_,e4,hcd⟩
 ·obtain ⟨e,n,ne,nf,d⟩:=I.pin p hp
  exact ⟨k _ _ (nfr _ ne nf) (λz=>(hch _ z).2.2.2.2 p hp rfl) e,n,ne,nf,d⟩
 ·refine (I.hok b u e).stay (λc v hc q=>?_) (λ_ q=>q) λ_ _ q=>q
  have trk:∃ u',H c=some u':=by
   rcases hc with z | z
   ·rw [z];exact ⟨u,e⟩
   ·exact ⟨_,z⟩
  obtain ⟨u',hu'⟩:=trk
  refine k c v (λz=>?_) (λz=>?_) q
  ·rw [I.stkFree c z] at hu';cases hu'
  ·rw [(hch c z).1] at hu';cases hu'
def Fz (X:Cx) (pins:List (Addr×Obj)) (b:Addr):Prop:=X.s₀.heap.get? b=none∧∀ p∈X.pn++pins,p.1≠b
theorem Inv.fz (I:Inv X pins σ H s) (hex:X.ex=[]) {b:Addr} (h:s.heap.get? b=none):Fz X pins b:=by
 refine ⟨?_,λp hp z=>?_⟩
 ·cases q:X.s₀.heap.get? b with
  | none=>rfl
  | some o =>
   obtain ⟨o',e⟩:=I.base.there b o q (by rw [hex];simp)
   rw [h] at e;cases e
 ·rw [← z,(I.pin p hp).1] at h;cases h
theorem Inv.tfree (I:Inv X pins σ H s) {b:Addr} (h:s.heap.get? b=none):H b=none:=by
 cases q:H b with
 | none=>rfl
 | some u =>
  have:=(I.hok b u q).lt
  cases e:s.heap.get? b with
  | none =>
   obtain ⟨o,e'⟩:=zbX.there (I.hok b u q)
   rw [h] at e';cases e'
  | some o=>rw [h] at e;cases e
theorem exc_apart (I:Inv X pins σ H s) {b:Addr} {o:Obj} {vs:Array Value} (e:s.heap.get? b=some o) (hd:o.data=.fields vs) (hn:H b=none) (hF:Fz X pins b) :
  H b=none∧X.s₀.heap.get? b=none∧b≠X.env.locals∧(∀ x c,X.env.cells.lookup x=some c->c≠b)∧∀ p∈X.pn++pins,p.1≠b:=by
 refine ⟨hn,hF.1,λz=>?_,λx c ec z=>?_,hF.2⟩
 ·obtain ⟨m,⟨o',es,ep,ho',hd',_⟩,_⟩:=I.loc
  rw [← z,e] at ho';cases ho';rw [hd] at hd';cases hd'
 ·obtain ⟨v,oc,hoc,hcd⟩:=I.cell x c ec
  rw [z,e] at hoc;cases hoc;rw [hd] at hcd;cases hcd
theorem note_exc {M:Model} {E:Value->Shared->Prop} {e:Addr} {cls:Value} {dct:Option Addr} {Q:Unit->Shared->Prop} (O:Own X) (I:Inv X pins σ H s) (x:ExcAt s.heap H (Fz X pins) X.env.locals e cls dct)
  {A:Around} (hA:A.frames=X.A.frames) (hQ:∀ s',Inv X pins σ H s'->zed s'.heap H (Fz X pins) (rawInt X.env.locals) e cls dct->Q () s'):wpAny M A (noteFrame (.ref e) X.env) Q E s:=by
 obtain ⟨oe,vs,a0,h1,h2,h3,h4,h5,h6,h7,h8,h9⟩:=x
 have hfr:A.frames=some (X.env :: X.outer):=by rw [hA,I.ok.frames,O.stk]
 have hfun:s.heap.FunFrames X.base (X.env :: X.outer):=by have:=I.stack;rw [O.stk] at this;exact this
 have ae:=exc_apart I h1 h4 h7 h8
 have newE:∀ (s1:Shared) (head:Value) (hadNext:Bool),Inv X pins σ H s1->s1.heap.get? e=some oe->(∀ b,b∈X.env :: X.outer->True) →
   wpAny M A (do let a ← frameOf X.env;let pl ← entryPlaceOf X.env.locals hadNext;let b ← EntryCells.newEntry head a .none (rawInt X.env.locals) .none pl;setField (.ref e) 1 b) Q E s1:=λs1 head hadNext I1 e1 _=>by
  have hfun1:s1.heap.FunFrames X.base (X.env :: X.outer):=by have:=I1.stack;rw [O.stk] at this;exact this
  refine zgL hfr hfun1 O.fr e1 h4 h6 λh' T oT ts k ks he hT hgT hdT ht3=>?_
  have hTn:s1.heap.get? T=none:=Heap.get?_none_of_le hT
  have I2:Inv X pins σ H { s1 with heap:=h' }:=by
   refine I1.recs (t':=s1.toks) (ch:=[e]) (λb hb=>?_) O.ex (λb o hb hc q=>?_) (λb o hc q=>?_)
   ·rw [List.mem_singleton.mp hb];exact ae
   ·rw [O.stk] at hb
    exact k b o hb (λz=>hc (by rw [z];exact List.mem_singleton.mpr rfl)) q
   ·exact ks b o (λz=>hc (by rw [z];exact List.mem_singleton.mpr rfl)) q
  refine hQ _ I2 ⟨_,_,a0,he,(Obj.cls_mapFields _ _).trans h2,(zd1 _ _).trans h3,Obj.data_mapFields h4 _,?_,?_,h7,h8,T,oT,ts,?_,?_,hgT,hdT,ht3,I1.tfree hTn,I1.fz O.ex hTn⟩
  ·rw [Array.getElem?_setIfInBounds_ne (by decide)];exact h5
  ·rw [Array.size_setIfInBounds];exact h6
  ·rw [Array.getElem?_setIfInBounds_self_of_lt h6]
  ·intro z;rw [z,e1] at hTn;cases hTn
 unfold noteFrame
 simp only [O.fr]
 rcases h9 with h9 | ⟨T,oT,ts,t1,t2,t3,t4,t5,t6,t7⟩
 ·refine wpAny_bind (wpAny_field h1 h4 h9 ?_)
  rw [if_neg (by decide)]
  exact newE s _ _ I h1 (λ_ _=>trivial)
 ·refine wpAny_bind (wpAny_field h1 h4 t1 ?_)
  rw [if_pos (show (Value.ref T != Value.none)=true from by simp)]
  rcases t5 with t5 | t5
  ·refine wpAny_bind (wpAny_field t3 t4 t5 ?_)
   rw [if_neg (show ¬ ((Value.none == rawInt X.env.locals)=true) from by simp [rawInt])]
   refine wpAny_bind (wpAny_setField t3 t4 (Array.getElem?_eq_some_iff.mp t5).1 ?_)
   have aT:=exc_apart I t3 t4 t6 t7
   have other:∀ b,b≠T->(s.heap.update T (Obj.mapFields (·.setIfInBounds 3 Value.none))).get? b=s.heap.get? b:=λb hb=>Heap.get?_update_other _ _ (Ne.symm hb)
   have I1:Inv X pins σ H { s with heap:=s.heap.update T (Obj.mapFields (·.setIfInBounds 3 Value.none)) }:=by
    refine I.recs (t':=s.toks) (ch:=[T]) (λb hb=>?_) O.ex (λb o _ hc q=>?_) (λb o hc q=>⟨o.slots,?_⟩)
    ·rw [List.mem_singleton.mp hb];exact aT
    ·exact (other b (λz=>hc (by rw [z];exact List.mem_singleton.mpr rfl))).trans q
    ·exact (other b (λz=>hc (by rw [z];exact List.mem_singleton.mpr rfl))).trans q
   exact newE _ _ _ I1 ((other e (Ne.symm t2)).trans h1) (λ_ _=>trivial)
  ·refine wpAny_bind (wpAny_field t3 t4 t5 ?_)
   rw [if_pos (show (rawInt X.env.locals == rawInt X.env.locals)=true from by simp)]
   exact wpAny_pure (hQ s I ⟨oe,vs,a0,h1,h2,h3,h4,h5,h6,h7,h8,T,oT,ts,t1,t2,t3,t4,t5,t6,t7⟩)
theorem zdq {M:Model} {A:Around} {E:Value->Shared->Prop} {e:Addr} {fl cls:Value} {dct:Option Addr} {fr:Option Addr} {Q:Unit->Shared->Prop} (O:Own X) (I:Inv X pins σ H s) (x:zed s.heap H (Fz X pins) fl e cls dct)
  (hQ:∀ s',Inv X pins σ H s'->zed s'.heap H (Fz X pins) (fr.elim .none λf=>rawInt f) e cls dct->Q () s'):wpAny M A (setFlight (.ref e) fr) Q E s:=by
 obtain ⟨oe,vs,a0,h1,h2,h3,h4,h5,h6,h7,h8,T,oT,ts,t1,t2,t3,t4,t5,t6,t7⟩:=x
 have h3s:3<ts.size:=(Array.getElem?_eq_some_iff.mp t5).1
 have aT:=exc_apart I t3 t4 t6 t7
 have other:∀ b,b≠T->(s.heap.update T (Obj.mapFields (·.setIfInBounds 3 (fr.elim Value.none λf=>rawInt f)))).get? b=s.heap.get? b:=λb hb=>Heap.get?_update_other _ _ (Ne.symm hb)
 unfold setFlight
 refine wpAny_bind (wpAny_field h1 h4 t1 ?_)
 rw [if_pos (show (Value.ref T != Value.none)=true from by simp)]
 refine wpAny_setField t3 t4 h3s (hQ _ ?_ ?_)
 ·refine I.recs (t':=s.toks) (ch:=[T]) (λb hb=>?_) O.ex (λb o _ hc q=>?_) (λb o hc q=>⟨o.slots,?_⟩)
  ·rw [List.mem_singleton.mp hb];exact aT
  ·exact (other b (λz=>hc (by rw [z];exact List.mem_singleton.mpr rfl))).trans q
  ·exact (other b (λz=>hc (by rw [z];exact List.mem_singleton.mpr rfl))).trans q
 ·exact ⟨oe,vs,a0,(other e (Ne.symm t2)).trans h1,h2,h3,h4,h5,h6,h7,h8,T,_,_,t1,t2,Heap.get?_update_self _ t3 (Obj.isFreed_of_fields (Obj.data_mapFields t4 _)),Obj.data_mapFields t4 _,by rw [Array.getElem?_setIfInBounds_self_of_lt h3s],t6,t7⟩
end
theorem exc_obj {K:W.Frag} {h:Heap} {C:Addr} {bmB:List Value} {newId:String} (X:K.In h) (q:W.excIn K C bmB newId=true) :
  ∃ bm N nm qn bs hdct sn sub ab col dd k0 k1 k2 k3 k5 mN,h.get? C=some (excClassObj nm qn C N bs bm hdct sn sub ab col dd k0 k1 k2 k3 k5 newId)∧h.Ns N mN∧mN "__init__"=none∧OwnTail h bmB bm:=by
 unfold W.excIn at q
 split at q
 ·rename_i dd cd sl ho
  split at q
  ·rename_i C' bm k0 k1 k2 k3 n k5 hm hs
   simp only [Bool.and_eq_true,beq_iff_eq,Bool.not_eq_true'] at q
   obtain ⟨⟨⟨⟨⟨rfl,rfl⟩,hdel⟩,ht⟩,hok⟩,hni⟩:=q
   obtain ⟨nm,bs,mro,ns,qn,hd,sn,sub,ab,col,del⟩:=cd
   dsimp only at hm hdel hok hni
   subst hm hdel
   have hsl:sl=#[k0,k1,k2,k3,some (.builtin n),k5]:=by
    obtain ⟨l⟩:=sl
    simp only at hs
    rw [hs]
   subst hsl
   exact ⟨bm,ns,nm,qn,bs,hd,sn,sub,ab,col,dd,k0,k1,k2,k3,k5,_,X _ _ ho,.of_isNs (W.isNs_of_in X hok),W.nsMap_none_of_in X hok hni,W.tail_of_in X ht⟩
  ·cases q
 ·cases q
end L2
namespace L2
open PySem PySem.Spec PyProof.Rows
def XP (X:Cx) (pins:List (Addr×Obj)) (σ:St) (E:XK) (ev:Value) (s':Shared):Prop :=
 ∃ e cls dct H',ev=.ref e∧Inv X pins σ H' s'∧ExcAt s'.heap H' (Fz X pins) X.env.locals e cls dct∧E cls dct H'
abbrev XS:=St->XK
def XPs (X:Cx) (pins:List (Addr×Obj)) (E:XS) (ev:Value) (s':Shared):Prop:=∃ σ',XP X pins σ' (E σ') ev s'
def CXE (P:Program) (w:World):CXT:=λouter H s E ev s'=>∃ e cls dct H',ev=.ref e∧s'.os=s.os∧AllBare s'.gens∧Un (frs outer) [] H H' s.heap s'.heap∧HOk P w H' s'.heap ∧
 zed s'.heap H' (λb=>s.heap.get? b=none) .none e cls dct∧E cls dct H'
theorem passE {P:Program} {w:World} {X:Cx}:zdH (CXE P w) X E0:=λ_ _ _ _ _ _ _ h=>by
 obtain ⟨_,_,_,_,_,_,_,_,_,_,f⟩:=h
 exact False.elim f
abbrev TEX:=St->Hp->VK->XK->Prop
def PEX (X:Cx) (e:Expr) (t:TEX):Prop :=
 ∀ (pins:List (Addr×Obj)) (s:Shared) (σ:St) (H:Hp) (Q:VK) (E:XK),Inv X pins σ H s->t σ H Q E->wpAny (model X.prog X.w) X.A (eval e X.env) (EP X pins σ Q) (XP X pins σ E) s
abbrev TSX:=Ends->XS->St->Hp->Prop
def PSX (X:Cx) (st:Stmt) (t:TSX):Prop :=
 ∀ (pins:List (Addr×Obj)) (s:Shared) (σ:St) (H:Hp) (D:Ends) (E:XS),Inv X pins σ H s->t D E σ H->wpAny (model X.prog X.w) X.A (exec st X.env) (SP X pins D) (XPs X pins E) s
def zeU (X:Cx) (st:List Stmt) (t:TSX):Prop :=
 ∀ (pins:List (Addr×Obj)) (s:Shared) (σ:St) (H:Hp) (D:Ends) (E:XS),Inv X pins σ H s->t D E σ H->wpAny (model X.prog X.w) X.A (execs st X.env) (SP X pins D) (XPs X pins E) s
section
variable {X:Cx} {e:Expr} {st:Stmt} {rest:List Stmt} {pos:Pos}
theorem zev {pins:List (Addr×Obj)} {σ:St} {Q:VK} {E:Value->Shared->Prop} {u:Value} {s':Shared} (h:EP (X.wish E) pins σ Q u s'):EP X pins σ Q u s':=by
 obtain ⟨v,H',I,r,q⟩:=h
 exact ⟨v,H',I.unwish,r,q⟩
theorem zg2 {t:TS} (h:PS X.nox st t):PSX X st (λD _ σ H=>t D σ H):=λpins s σ H D E I hw =>
 wpAny_mono (h pins s σ H D (I.wish _) hw) (λ_ _ q=>SP.unwish q) λ_ _ f=>f.elim
theorem zeO {sts:List Stmt} {t:TS} (h:PSs X.nox sts t):zeU X sts (λD _ σ H=>t D σ H):=λpins s σ H D E I hw =>
 wpAny_mono (h pins s σ H D (I.wish _) hw) (λ_ _ q=>SP.unwish q) λ_ _ f=>f.elim
theorem zhi:zeU X [] (λD _ σ H=>D.nx σ H):=λ_ _ σ H _ _ I h=>wpAny_execs_nil ⟨σ,H,I,h⟩
theorem zgb {t u:TSX} (h1:PSX X st t) (h2:zeU X rest u):zeU X (st :: rest) (λD E σ H=>t { D with nx:=u D E } E σ H):=by
 intro pins s σ H D E I h
 refine wpAny_execs_cons (thn (h1 pins s σ H { D with nx:=u D E } E I h) λf s1 q=>?_)
 cases f with
 | next =>
  obtain ⟨σ',H',I',q⟩:=q
  exact h2 pins s1 σ' H' D E I' q
 | ret v=>exact q
 | brk=>exact q
 | cont=>exact q
theorem ziR {c:Expr} {a b:List Stmt} {tc:TT} {t u:TSX} (hc:PT X.nox c tc) (ha:zeU X a t) (hb:zeU X b u):PSX X (.If c a b pos) (λD E σ H=>tc σ H λk H1=>if k=true then t D E σ H1 else u D E σ H1):=by
 intro pins s σ H D E I h
 refine wpAny_If (wpAny_mono (hc pins s σ H _ (I.wish _) h) (λd s1 ⟨H1,I1,q1⟩=>?_) λ_ _ f=>f.elim)
 cases d with
 | true=>exact ha pins s1 σ H1 D E I1.unwish q1
 | false=>exact hb pins s1 σ H1 D E I1.unwish q1
theorem zhg {te:TEX} (he:PEX X e te) (hs:swapsWith e none pos.line X.env=pure false:=by rfl):PSX X (.Expr e pos) (λD E σ H=>te σ H (λ_ H1=>D.nx σ H1) (E σ)):=by
 intro pins s σ H D E I h
 exact wpAny_Expr_any (wpAny_mono (he pins s σ H _ _ I h) (λv s1 ⟨x,H1,I1,r1,q1⟩=>⟨σ,H1,I1,q1⟩) λ_ _ q=>⟨σ,q⟩) I.quiet hs
theorem zh5 {te:TEX} (he:PEX X e te):PSX X (.Return (some e) pos) (λD E σ H=>te σ H D.rt (E σ)):=by
 intro pins s σ H D E I h
 exact wpAny_Return_some (wpAny_mono (he pins s σ H _ _ I h) (λv s1 ⟨x,H1,I1,r1,q1⟩=>⟨x,σ,H1,I1,r1,q1⟩) λ_ _ q=>⟨σ,q⟩)
theorem zh4 {i:Nat} {x:Str} {te:TEX} {pos':Pos} (hN:X.N.Nodup) (hi:X.N[i]?=some x) (hx:Loc X.env.scope x) (he:PEX X e te) (hs:swapsWith e (some (.Name x pos')) pos.line X.env=pure false:=by rfl)
  (hf:X.fn x=true∨X.env.scope.names.lookup x=some .local:=by first | exact .inl rfl | exact .inr rfl | assumption) :
  PSX X (.Assign [.Name x pos'] e pos) (λD E σ H=>te σ H (λv H1=>D.nx (σ.set i (some v)) H1) (E σ)):=by
 intro pins s σ H D E I h
 refine wpAny_Assign_Name (wpAny_mono (he pins s σ H _ _ I h) (λv s1 ⟨y,H1,I1,r1,q1⟩=>?_) λ_ _ q=>⟨σ,q⟩) hs
 exact store_ok I1 hN hi hx r1 (λs2 I2=>⟨_,H1,I2,q1⟩) hf
end
section
variable {X:Cx} {k:Nat} {ps:List Str} {sp:Sp} {x:Str} {p pos:Pos} {e:Expr} {es:List Expr} {t:TA}
theorem zdR {pins:List (Addr×Obj)} {σ:St} {H:Hp} {s s':Shared} {E:XK} {ev:Value} (O:Own X) (I:Inv X pins σ H s) (h:CXE X.prog X.w X.stack H s E ev s'):XP X pins σ E ev s':=by
 obtain ⟨a,cls,dct,H',rfl,ho,hb,u,hok,x,q⟩:=h
 have I':Inv X pins σ H' s':=I.call' (ch:=[]) ho u hok hb λb hb=>by cases hb
 exact ⟨a,cls,dct,H',rfl,I',(x.imp λb hb=>I.fz O.ex hb).atN,q⟩
theorem zjS (O:Own X) (F:Callee X.prog X.w X.K X.mg X.base (CXE X.prog X.w) k x ps sp) (hr:Room k X.A) (hg:Gl X x)
  (ha:PA X.nox (e :: es) t) (hdb:(x == ("__debug__":Str))=false:=by decide) (he:starEach (e :: es) X.env=(false,eval e X.env) :: starEach es X.env:=by rfl) (hpl:(backTo pos (starEach es X.env)).any (·.1)=false:=by rfl) :
  PEX X (.Call (.Name x p) (e :: es) [] pos) (λσ H Q E=>t σ H λvs H1=>sp (vs++[]) H1 Q E):=by
 obtain ⟨f,fd,G,hm,hk,hb⟩:=F.ex
 intro pins s σ H Q E I h
 refine wpAny_Call_Name_kw (ld_glob I hg hm ?_ hdb)
 refine W.callWith_K (h₀:=X.base) I.ok.mod.kin hk (wpAny_mono (ha pos pins s σ H _ (I.wish _) h) (λus s1 ⟨vs,H1,I1,r,q⟩=>⟨I1.unwish.kIn,?_⟩) λ_ _ f=>f.elim) he hpl
 have I2:=I1.unwish
 have r2:Vals (vs++[]) (us++[]):=r.append .nil
 have hl:(us++[]).length=ps.length:=by rw [← r2.length];exact G.len _ _ _ _ q
 refine wpAny_call (codeAny_mono (G.run X.A X.stack s1 H1 ⟨us,[]⟩ (us++[]) (vs++[]) Q E hr I2.env0 (hb s1 us I2.kIn hl) r2 q) λr s' hq=>?_)
 cases r with
 | error e=>exact zdR O I2 hq
 | ok fl =>
  cases fl with
  | ret u=>exact I2.after hq
  | next=>exact False.elim hq
  | brk=>exact False.elim hq
  | cont=>exact False.elim hq
theorem zga {C:Addr} {B newId initId:String} {bmB:List Value} {np cpos:Pos} (O:Own X) (hc:X.calm=true) (hg:Gl X x) (hm:X.mg x=some (.ref C)) (hK:W.excIn X.K C bmB newId=true) (FB:ExcBaseFacts B newId initId bmB)
  (ha:PA X.nox (e :: es) t) (hdb:(x == ("__debug__":Str))=false:=by decide) (he:starEach (e :: es) X.env=(false,eval e X.env) :: starEach es X.env:=by rfl) (hpl:(backTo cpos (starEach es X.env)).any (·.1)=false:=by rfl) :
  PSX X (.Raise (some (.Call (.Name x np) (e :: es) [] cpos)) none pos) (λ_ E σ H=>t σ H λvs H1=>vs.length≤sizeLine∧E σ (.ref C) none H1):=by
 intro pins s σ H D E I h
 obtain ⟨tl,N,nm,q,bs,hdct,sn,sub,ab,col,dd,k0,k1,k2,k3,k5,mN,hC,hN,hni,T⟩:=exc_obj I.ok.mod.kin hK
 refine wpAny_Raise_call_subT (C:=C) (nm:=nm) (q:=q) (N:=N) (bs:=bs) (bm:=tl) (hdct:=hdct) (sn:=sn) (sub:=sub) (ab:=ab) (col:=col) (dd:=dd) (k0:=k0) (k1:=k1) (k2:=k2) (k3:=k3) (k5:=k5)
  FB (mN:=mN) (T.hasType FB.hasBase) (I.ok.hd hc) (by rw [he];show (false||(backTo cpos (starEach es X.env)).any (·.1))=false;rw [hpl];rfl) hni (ld_glob I hg hm ⟨rfl,?_⟩ hdb)
 have hA:=ha cpos pins s σ H _ (I.wish _) h
 rw [he] at hA ⊢
 refine Calls.evalArgs_plain (wpAny_mono hA (λus s1 ⟨vs,H1,I1,r,hz,qE⟩=>⟨rfl,?_,?_⟩) λ_ _ f=>f.elim)
 ·show us.length≤sizeLine
  rw [← r.length];exact hz
 ·have I2:=I1.unwish
  refine ⟨I2.bk _ _ hC,hN.keeps I2.bk,T.keeps I2.bk,λh' ea hx=>?_⟩
  obtain ⟨tp,hea,_,_⟩:=hx.there
  refine ⟨σ,ea,.ref C,none,H1,rfl,I2.kept (t':=s1.toks) hx.keeps,⟨_,_,_,hea,rfl,rfl,rfl,rfl,by show 1<6;decide,I2.tfree hx.new,I2.fz O.ex hx.new,.inl rfl⟩,qE⟩
end
section
variable {P:Program} {w:World} {K:W.Frag} {mg:Str->Option Value} {base:Heap}
theorem zgn {N:List Str} {qual:Str} {scope:Scope} {f:Addr} {cd:Value} {A:Around} {outer:List Env} {s:Shared} {H:Hp} {E:XK} {pins:List (Addr×Obj)} {ev:Value} {s':Shared}
  (h:XPs (ze2 (CXE P w) P w K mg base N qual scope f cd A outer s H E) pins (λ_=>E) ev s'):(ze2 (CXE P w) P w K mg base N qual scope f cd A outer s H E).xe ev s':=by
 obtain ⟨σ',e,cls,dct,H',rfl,I,x,q⟩:=h
 have O:Own (ze2 (CXE P w) P w K mg base N qual scope f cd A outer s H E):=⟨rfl,rfl,rfl⟩
 show wpAny _ _ (leaving _ (.ref e)) _ _ s'
 unfold leaving
 refine wpAny_bind (note_exc O I x rfl λs1 I1 x1=>?_)
 refine zdq (fr:=none) O I1 x1 λs2 I2 x2=>?_
 exact ⟨e,cls,dct,H',rfl,I2.os,I2.bare,I2.base,I2.hok,x2.imp (λb hb=>hb.1),q⟩
theorem Fun.okX {x qual:Str} {st:Stmt} {f:Addr} {fd:FuncData} {N ps:List Str} {k:Nat} {sp:Sp} (F:Fun K x qual st f fd) (S:FnScope N ps (defScope st)) (len:∀ vs H Q E,sp vs H Q E->vs.length=ps.length)
  (hbody:∀ (cdv:Value) (A:Around) (outer:List Env) (s:Shared) (H:Hp) (vs:List V) (Q:VK) (E:XK),Room k (A.deeper (envOfC qual (defScope st) s.heap.objs.size f cdv))->sp vs H Q E →
   ∃ t,zeU (ze2 (CXE P w) P w K mg base N qual (defScope st) f cdv A outer s H E) (zap st) t∧t { nx:=λ_ H'=>Q .non H',rt:=Q } (λ_=>E) (start N vs) H):FnOk P w K mg base (CXE P w) (k+1) f fd ps sp:=by
 obtain ⟨oc,od,kV,doc,pm,an,cdv,ct,osl,rfl,lk,hcd⟩:=F.ex
 refine zjX lk hcd S len λA outer s H vs Q E hr hsp=>?_
 obtain ⟨t,h,q⟩:=hbody cdv A outer s H vs Q E hr hsp
 exact ⟨λD σ H=>t D (λ_=>E) σ H,λpins s1 σ H1 D I hw=>wpAny_mono (h pins s1 σ H1 D _ I hw) (λ_ _ q=>q) λ_ _ q=>zgn q,q⟩
end
end L2
namespace L2
open PySem PySem.Spec PyProof.Rows
structure Ds where
 pr:Hp->V->Prop
 up:∀ {H H':Hp} {v:V},Same H H'->pr H v->pr H' v
theorem pr_up {ds:List Ds} {H H':Hp} (e:Same H H'):∀ {vs:List V} {ds:List Ds},Paired (λv (d:Ds)=>d.pr H v) vs ds->Paired (λv (d:Ds)=>d.pr H' v) vs ds
 | _,_,.nil=>.nil
 | _,_,.cons (b:=d) h t=>.cons (d.up e h) (pr_up (ds:=[]) e t)
theorem zbM {α β:Type} {R S:α->β->Prop} (h:∀ a b,R a b->S a b):∀ {xs:List α} {ys:List β},Paired R xs ys->Paired S xs ys
 | _,_,.nil=>.nil
 | _,_,.cons q t=>.cons (h _ _ q) (zbM h t)
theorem za1 {α β:Type} {R:α->β->Prop}:∀ {xs:List α} {ys:List β} {i:Nat} {y:β},Paired R xs ys->ys[i]?=some y->∃ x,xs[i]?=some x∧R x y
 | _,_,_,_,.nil,e=>by simp at e
 | _,_,0,_,.cons r _,e=>by simp at e;subst e;exact ⟨_,rfl,r⟩
 | _,_,i+1,y,.cons _ t,e=>by
  obtain ⟨u,h1,h2⟩:=za1 (i:=i) (y:=y) t (by simpa using e)
  exact ⟨u,by simpa using h1,h2⟩
theorem zbx {α β:Type} {R:α->β->Prop}:∀ {xs xs':List α} {ys ys':List β},Paired R xs ys->Paired R xs' ys'->Paired R (xs++xs') (ys++ys')
 | _,_,_,_,.nil,s=>s
 | _,_,_,_,.cons r t,s=>.cons r (zbx t s)
theorem zdZ {α β:Type} {R:α->β->Prop}:∀ {xs:List α} {ys:List β} (n:Nat),Paired R xs ys->Paired R (xs.take n) (ys.take n)
 | _,_,0,_=>.nil
 | _,_,_+1,.nil=>.nil
 | _,_,n+1,.cons r t=>.cons r (zdZ n t)
theorem zdP {α β:Type} {R:α->β->Prop}:∀ {xs:List α} {ys:List β} (n:Nat),Paired R xs ys->Paired R (xs.drop n) (ys.drop n)
 | _,_,0,r=>r
 | _,_,_+1,.nil=>.nil
 | _,_,n+1,.cons _ t=>zdP n t
theorem paired_rep {α β:Type} {R:α->β->Prop} {xs:List α} {ys:List β} (h:Paired R xs ys):∀ n:Nat,Paired R (List.replicate n xs).flatten (List.replicate n ys).flatten
 | 0=>.nil
 | n+1=>by
  rw [List.replicate_succ,List.replicate_succ,List.flatten_cons,List.flatten_cons]
  exact zbx h (paired_rep h n)
abbrev dV (v:V):Ds:=⟨λ_ u=>u=v,λ_ h=>h⟩
abbrev dI (n:Int):Ds:=dV (.int n)
abbrev dB (b:Bool):Ds:=dV (.bl b)
abbrev dN:Ds:=dV .non
abbrev dS (x:Str):Ds:=dV (.str x)
def dL (ds:List Ds):Ds:=⟨λH v=>∃ p vs,v=.ref p∧H p=some (.lst vs)∧Paired (λv (d:Ds)=>d.pr H v) vs ds,λe ⟨p,vs,h1,h2,h3⟩=>⟨p,vs,h1,e _ _ h2,pr_up (ds:=[]) e h3⟩⟩
def dQ (K:W.Frag) (ds:List Ds):Ds:=⟨λH v=>∃ p vs,v=.ref p∧SqL K H p vs∧Paired (λv (d:Ds)=>d.pr H v) vs ds,λe ⟨p,vs,h1,h2,h3⟩=>⟨p,vs,h1,e.seq h2,pr_up (ds:=[]) e h3⟩⟩
def dT (ds:List Ds):Ds:=⟨λH v=>∃ p vs,v=.ref p∧H p=some (.tup vs)∧Paired (λv (d:Ds)=>d.pr H v) vs ds,λe ⟨p,vs,h1,h2,h3⟩=>⟨p,vs,h1,e _ _ h2,pr_up (ds:=[]) e h3⟩⟩
def dO (C:Addr) (fs:List (Str×Ds)):Ds:=⟨λH v=>∃ p dx vs,v=.ref p∧H p=some (.ins C dx vs)∧H dx=some (.own p)∧Paired (λ(a:Str×V) (b:Str×Ds)=>a.1=b.1∧b.2.pr H a.2) vs fs,
 λe ⟨p,dx,vs,h1,h2,h3,h4⟩=>⟨p,dx,vs,h1,e _ _ h2,e _ _ h3,zbM (λ_ b q=>⟨q.1,b.2.up e q.2⟩) h4⟩⟩
class Enc (α:Type) where
 d:α->Ds
instance:Enc Int:=⟨dI⟩
instance:Enc Bool:=⟨dB⟩
instance:Enc Unit:=⟨λ_=>dN⟩
instance:Enc Str:=⟨dS⟩
instance {α:Type} [Enc α]:Enc (List α):=⟨λxs=>dL (xs.map Enc.d)⟩
instance {α β:Type} [Enc α] [Enc β]:Enc (α×β):=⟨λp=>dT [Enc.d p.1,Enc.d p.2]⟩
instance {α:Type} [Enc α]:Enc (Option α):=⟨λo=>match o with | none=>dN | some x=>Enc.d x⟩
structure T3 (α β γ:Type) where
 a:α
 b:β
 c:γ
instance {α β γ:Type} [Enc α] [Enc β] [Enc γ]:Enc (T3 α β γ):=⟨λp=>dT [Enc.d p.a,Enc.d p.b,Enc.d p.c]⟩
structure Grow (F H F' H':Hp):Prop where
 f:Same F F'
 fh:Same F' H'
 h:Same H H'
 no:∀ a,H a≠none->F a=none->F' a=none
theorem Grow.refl {F H:Hp} (e:Same F H):Grow F H F H:=⟨Same.refl _,e,Same.refl _,λ_ _ h=>h⟩
theorem Same.some {H H':Hp} (e:Same H H') {a:Addr} (h:H a≠none):H' a≠none:=by
 cases q:H a with
 | none=>exact absurd q h
 | some o=>rw [e _ _ q];simp
theorem Grow.trans {F H F' H' F'' H'':Hp} (g:Grow F H F' H') (k:Grow F' H' F'' H''):Grow F H F'' H'' :=
 ⟨g.f.trans k.f,k.fh,g.h.trans k.h,λa h1 h2=>k.no a (g.h.some h1) (g.no a h1 h2)⟩
theorem Grow.new {F H F' H':Hp} (g:Grow F H F' H') {p:Addr} {o:HO} (hp:H' p=none):Grow F H (upd F' p o) (upd H' p o):=by
 have hf:F' p=none:=by
  cases q:F' p with
  | none=>rfl
  | some u=>rw [g.fh _ _ q] at hp;cases hp
 refine ⟨g.f.trans (Same.new hf _),λa u q=>?_,g.h.trans (Same.new hp _),λa h1 h2=>?_⟩
 ·by_cases e:a=p
  ·subst e;rw [upd_same] at q ⊢;exact q
  ·rw [upd_ne e] at q ⊢;exact g.fh _ _ q
 ·have:a≠p:=λe=>by subst e;exact (g.h.some h1) hp
  rw [upd_ne this];exact g.no a h1 h2
theorem Grow.newH {F H F' H':Hp} (g:Grow F H F' H') {p:Addr} {o:HO} (hp:H' p=none):Grow F H F' (upd H' p o) :=
 ⟨g.f,g.fh.trans (Same.new hp _),g.h.trans (Same.new hp _),g.no⟩
theorem Grow.setH {F H F' H':Hp} (g:Grow F H F' H') {p:Addr} {o:HO} (hf:F' p=none) (hp:H p=none):Grow F H F' (upd H' p o) :=
 ⟨g.f,λa u q=>by rw [upd_ne (ne_of_none q hf)];exact g.fh _ _ q,λa u q=>by rw [upd_ne (ne_of_none q hp)];exact g.h _ _ q,g.no⟩
theorem Grow.take {F H F' H':Hp} (g:Grow F H F' H') {p:Addr} {o:HO} (hp:H p=none) (e:H' p=some o):Grow F H (upd F' p o) H':=by
 refine ⟨λa u q=>?_,λa u q=>?_,g.h,λa h1 h2=>?_⟩
 ·by_cases z:a=p
  ·subst z
   have:=g.fh _ _ (g.f _ _ q)
   rw [e] at this;cases this;exact upd_same
  ·rw [upd_ne z];exact g.f _ _ q
 ·by_cases z:a=p
  ·subst z;rw [upd_same] at q;cases q;exact e
  ·rw [upd_ne z] at q;exact g.fh _ _ q
 ·have:a≠p:=λz=>by subst z;exact h1 hp
  rw [upd_ne this];exact g.no a h1 h2
def off (F Hb:Hp):Hp:=λa=>match Hb a with | none=>F a | some _=>none
theorem zcV {F Hb:Hp} {a:Addr} {o:HO}:off F Hb a=some o ↔ Hb a=none∧F a=some o:=by
 unfold off
 cases q:Hb a with
 | none=>simp
 | some u=>simp
theorem zjy {F F' Hb:Hp} (e:Same F F'):Same (off F Hb) (off F' Hb):=λa o q=>by
 rw [zcV] at q ⊢;exact ⟨q.1,e _ _ q.2⟩
theorem zhP {F Hb:Hp}:Same (off F Hb) F:=λa o q=>(zcV.mp q).2
theorem zgz {F Hb Hc:Hp} (e:Same Hb Hc):Same (off F Hc) (off F Hb):=λa o q=>by
 rw [zcV] at q ⊢
 refine ⟨?_,q.2⟩
 cases z:Hb a with
 | none=>rfl
 | some u=>rw [e _ _ z] at q;cases q.1
def part (m:Bool) (F Hb:Hp):Hp:=match m with | true=>off F Hb | false=>F
theorem part_up {m:Bool} {F F' Hb:Hp} (e:Same F F'):Same (part m F Hb) (part m F' Hb):=by
 cases m with
 | true=>exact zjy e
 | false=>exact e
theorem part_sub {m:Bool} {F Hb:Hp}:Same (part m F Hb) F:=by
 cases m with
 | true=>exact zhP
 | false=>exact Same.refl _
theorem zcU {m:Bool} {F Hb:Hp} {p:Addr} {o:HO} (hb:Hb p=none) (hp:F p=some o):part m F Hb p=some o:=by
 cases m with
 | true=>exact zcV.mpr ⟨hb,hp⟩
 | false=>exact hp
inductive Slot where
 | no
 | va (m:Bool) (d:Ds)
 | ow (m:Bool) (ds:List Ds)
 | ob (m:Bool) (C p dx:Addr) (fs:List (Str×Ds))
 | tl (d:Ds)
 | ol (p:Addr) (ds:List Ds)
abbrev Ctx:=List Slot
def zde (Hb F H:Hp) (own:Nat->Option Addr) (i:Nat) (v:Option V):Slot->Prop
 | .tl d=>∃ x R,v=some x∧Same R H∧(∀ a o,R a=some o->F a=none∧Hb a=none)∧(∀ j p,own j=some p->R p=none)∧d.pr R x
 | .no=>True
 | .va m d=>∃ x,v=some x∧d.pr (part m F Hb) x
 | .ow m ds=>∃ p vs,v=some (.ref p)∧own i=some p∧F p=none∧Hb p=none∧H p=some (.lst vs)∧Paired (λv (d:Ds)=>d.pr (part m F Hb) v) vs ds
 | .ol p ds=>∃ vs,v=some (.ref p)∧own i=some p∧F p=none∧Hb p=none∧H p=some (.lst vs)∧Paired (λv (d:Ds)=>d.pr F v) vs ds
 | .ob m C p dx fs=>∃ vs,v=some (.ref p)∧own i=some p∧(F p=none∧F dx=none)∧(Hb p=none∧Hb dx=none)∧(H p=some (.ins C dx vs)∧H dx=some (.own p))∧Paired (λ(a:Str×V) (b:Str×Ds)=>a.1=b.1∧b.2.pr (part m F Hb) a.2) vs fs
structure At (F0 Hb F H:Hp) (σ:St) (own:Nat->Option Addr) (Γ:Ctx):Prop where
 g:Grow F0 Hb F H
 inj:∀ i j p,own i=some p->own j=some p->i=j
 liv:∀ i p,own i=some p->H p≠none
 sl:∀ i s,Γ[i]?=some s->zde Hb F H own i (σ[i]?).join s
 len:σ.length=Γ.length
theorem zde.grow {Hb F H F' H':Hp} {own:Nat->Option Addr} {i:Nat} {v:Option V} {s:Slot} (h:zde Hb F H own i v s) (g:Grow F H F' H'):zde Hb F' H' own i v s:=by
 cases s with
 | no=>trivial
 | tl d =>
  obtain ⟨x,R,e,h1,h2,h3,h4⟩:=h
  exact ⟨x,R,e,h1.trans g.h,λa o q=>⟨g.no a (by rw [h1 _ _ q];simp) (h2 a o q).1,(h2 a o q).2⟩,h3,h4⟩
 | va m d=>obtain ⟨x,e,q⟩:=h;exact ⟨x,e,d.up (part_up g.f) q⟩
 | ow m ds =>
  obtain ⟨p,vs,e,ho,hf,hb,hp,q⟩:=h
  exact ⟨p,vs,e,ho,g.no p (by rw [hp];simp) hf,hb,g.h _ _ hp,pr_up (ds:=[]) (part_up g.f) q⟩
 | ol p ds =>
  obtain ⟨vs,e,ho,hf,hb,hp,q⟩:=h
  exact ⟨vs,e,ho,g.no p (by rw [hp];simp) hf,hb,g.h _ _ hp,pr_up (ds:=[]) g.f q⟩
 | ob m C p dx fs =>
  obtain ⟨vs,e,ho,hf,hb,hp,q⟩:=h
  exact ⟨vs,e,ho,⟨g.no p (by rw [hp.1];simp) hf.1,g.no dx (by rw [hp.2];simp) hf.2⟩,hb,⟨g.h _ _ hp.1,g.h _ _ hp.2⟩,zbM (λ_ b z=>⟨z.1,b.2.up (part_up g.f) z.2⟩) q⟩
theorem At.grow {F0 Hb F H F' H':Hp} {σ:St} {own:Nat->Option Addr} {Γ:Ctx} (a:At F0 Hb F H σ own Γ) (g:Grow F H F' H'):At F0 Hb F' H' σ own Γ :=
 ⟨a.g.trans g,a.inj,λi p e=>g.h.some (a.liv i p e),λi s e=>(a.sl i s e).grow g,a.len⟩
theorem At.fh {F0 Hb F H:Hp} {σ:St} {own:Nat->Option Addr} {Γ:Ctx} (a:At F0 Hb F H σ own Γ):Same F H:=a.g.fh
theorem join_set_self {σ:St} {i:Nat} {x:Option V} (h:i<σ.length):((σ.set i x)[i]?).join=x:=by
 rw [List.getElem?_set_self h];rfl
theorem zdT {σ:St} {i j:Nat} {x:Option V} (h:i≠j):((σ.set i x)[j]?).join=(σ[j]?).join:=by
 rw [List.getElem?_set_ne h]
theorem At.set {F0 Hb F H:Hp} {σ:St} {own:Nat->Option Addr} {Γ:Ctx} (a:At F0 Hb F H σ own Γ) (i:Nat) {m:Bool} {d:Ds} {v:V} (h:d.pr (part m F Hb) v) :
  At F0 Hb F H (σ.set i (some v)) own (Γ.set i (.va m d)):=by
 refine ⟨a.g,a.inj,a.liv,λj s e=>?_,by simp [a.len]⟩
 by_cases z:i=j
 ·subst z
  have hi:i<Γ.length:=by
   have:=(List.getElem?_eq_some_iff.mp e).1
   simpa using this
  rw [List.getElem?_set_self hi] at e
  cases e
  rw [join_set_self (by rw [a.len];exact hi)]
  exact ⟨v,rfl,h⟩
 ·rw [List.getElem?_set_ne z] at e
  rw [zdT z]
  exact a.sl j s e
theorem At.setOwn {F0 Hb F1 H1 F H:Hp} {σ:St} {own:Nat->Option Addr} {Γ:Ctx} (a1:At F0 Hb F1 H1 σ own Γ) (g:Grow F1 H1 F H) (i:Nat) {m:Bool} {ds:List Ds} {p:Addr} {vs:List V} (h1:H1 p=none) (hf:F p=none) (hp:H p=some (.lst vs))
  (h:Paired (λv (d:Ds)=>d.pr (part m F Hb) v) vs ds):At F0 Hb F H (σ.set i (some (.ref p))) (λj=>if j=i then some p else own j) (Γ.set i (.ow m ds)):=by
 have a:=a1.grow g
 have hb:Hb p=none:=a1.g.h.free h1
 have ho:∀ j,own j≠some p:=λj e=>a1.liv j p e h1
 refine ⟨a.g,λj k q e1 e2=>?_,λj q e=>?_,λj s e=>?_,by simp [a.len]⟩
 ·skip
  split at e1<;>split at e2
  ·omega
  ·cases e1;exact absurd e2 (ho k)
  ·cases e2;exact absurd e1 (ho j)
  ·exact a.inj j k q e1 e2
 ·skip
  split at e
  ·cases e;rw [hp];simp
  ·exact a.liv j q e
 ·by_cases z:i=j
  ·subst z
   have hi:i<Γ.length:=by
    have:=(List.getElem?_eq_some_iff.mp e).1
    simpa using this
   rw [List.getElem?_set_self hi] at e
   cases e
   rw [join_set_self (by rw [a.len];exact hi)]
   exact ⟨p,vs,rfl,by simp,hf,hb,hp,h⟩
  ·rw [List.getElem?_set_ne z] at e
   rw [zdT z]
   have z':¬ j=i:=Ne.symm z
   cases s with
   | tl d =>
    obtain ⟨x,R,q1,q2,q3,q4,q5⟩:=a1.sl j _ e
    refine ⟨x,R,q1,q2.trans g.h,λb o w=>⟨g.no b (by rw [q2 _ _ w];simp) (q3 b o w).1,(q3 b o w).2⟩,λk q w=>?_,q5⟩
    dsimp only at w
    split at w
    ·cases w;exact q2.free h1
    ·exact q4 k q w
   | no=>trivial
   | va m d=>exact a.sl j _ e
   | ow m ds =>
    obtain ⟨q,us,w1,w2,w3⟩:=a.sl j _ e
    exact ⟨q,us,w1,(if_neg z').trans w2,w3⟩
   | ol q ds =>
    obtain ⟨us,w1,w2,w3⟩:=a.sl j _ e
    exact ⟨us,w1,(if_neg z').trans w2,w3⟩
   | ob m C q dx fs =>
    obtain ⟨us,w1,w2,w3⟩:=a.sl j _ e
    exact ⟨us,w1,(if_neg z').trans w2,w3⟩
theorem At.turn {F0 Hb F H:Hp} {σ:St} {own:Nat->Option Addr} {Γ:Ctx} (a:At F0 Hb F H σ own Γ) {i:Nat} {m n:Bool} {ds es:List Ds} {p:Addr} {ws:List V} (e:Γ[i]?=some (.ow m ds)) (ep:σ[i]?=some (some (.ref p)))
  (h:Paired (λv (d:Ds)=>d.pr (part n F Hb) v) ws es):At F0 Hb F (upd H p (.lst ws)) σ own (Γ.set i (.ow n es)):=by
 obtain ⟨p',vs,e1,e2,hf,hb,hp,_⟩:=a.sl i _ e
 rw [ep] at e1
 have e1':p=p':=by
  have:some (V.ref p)=some (V.ref p'):=e1
  cases this;rfl
 subst e1'
 refine ⟨a.g.setH hf hb,a.inj,λj q ej=>?_,λj s es'=>?_,by simp [a.len]⟩
 ·by_cases z:q=p
  ·subst z;rw [upd_same];simp
  ·rw [upd_ne z];exact a.liv j q ej
 ·by_cases z:i=j
  ·subst z
   have hi:i<Γ.length:=(List.getElem?_eq_some_iff.mp e).1
   rw [List.getElem?_set_self hi] at es'
   cases es'
   exact ⟨p,ws,by rw [ep];rfl,e2,hf,hb,upd_same,h⟩
  ·rw [List.getElem?_set_ne z] at es'
   have:=a.sl j s es'
   cases s with
   | no=>trivial
   | tl d =>
    obtain ⟨x,R,q1,q2,q3,q4,q5⟩:=this
    exact ⟨x,R,q1,λb o w=>by rw [upd_ne (ne_of_none w (q4 i p e2))];exact q2 b o w,q3,q4,q5⟩
   | va m d=>exact this
   | ow m ds =>
    obtain ⟨q,us,h1,h2,h3,h4,h5,h6⟩:=this
    have:q≠p:=λw=>by subst w;exact z (a.inj i j q e2 h2)
    exact ⟨q,us,h1,h2,h3,h4,by rw [upd_ne this];exact h5,h6⟩
   | ol q ds =>
    obtain ⟨us,h1,h2,h3,h4,h5,h6⟩:=this
    have:q≠p:=λw=>by subst w;exact z (a.inj i j q e2 h2)
    exact ⟨us,h1,h2,h3,h4,by rw [upd_ne this];exact h5,h6⟩
   | ob m C q dx fs =>
    obtain ⟨us,h1,h2,h3,h4,h5,h6⟩:=this
    have n1:q≠p:=λw=>by subst w;exact z (a.inj i j q e2 h2)
    have n2:dx≠p:=zgT h5.2 hp (by intro z;cases z)
    exact ⟨us,h1,h2,h3,h4,⟨by rw [upd_ne n1];exact h5.1,by rw [upd_ne n2];exact h5.2⟩,h6⟩
theorem At.turnOb {F0 Hb F H:Hp} {σ:St} {own:Nat->Option Addr} {Γ:Ctx} (a:At F0 Hb F H σ own Γ) {i:Nat} {m n:Bool} {C p dx:Addr} {fs gs:List (Str×Ds)} {ws:List (Str×V)} (e:Γ[i]?=some (.ob m C p dx fs))
  (h:Paired (λ(a:Str×V) (b:Str×Ds)=>a.1=b.1∧b.2.pr (part n F Hb) a.2) ws gs):At F0 Hb F (upd H p (.ins C dx ws)) σ own (Γ.set i (.ob n C p dx gs)):=by
 obtain ⟨vs,e1,e2,hf,hb,hp,_⟩:=a.sl i _ e
 have ndp:dx≠p:=zgT hp.2 hp.1 (by intro z;cases z)
 refine ⟨a.g.setH hf.1 hb.1,a.inj,λj q ej=>?_,λj s es'=>?_,by simp [a.len]⟩
 ·by_cases z:q=p
  ·subst z;rw [upd_same];simp
  ·rw [upd_ne z];exact a.liv j q ej
 ·by_cases z:i=j
  ·subst z
   have hi:i<Γ.length:=(List.getElem?_eq_some_iff.mp e).1
   rw [List.getElem?_set_self hi] at es'
   cases es'
   exact ⟨ws,e1,e2,hf,hb,⟨upd_same,by rw [upd_ne ndp];exact hp.2⟩,h⟩
  ·rw [List.getElem?_set_ne z] at es'
   have:=a.sl j s es'
   cases s with
   | no=>trivial
   | tl d =>
    obtain ⟨x,R,q1,q2,q3,q4,q5⟩:=this
    exact ⟨x,R,q1,λb o w=>by rw [upd_ne (ne_of_none w (q4 i p e2))];exact q2 b o w,q3,q4,q5⟩
   | va m d=>exact this
   | ow m ds =>
    obtain ⟨q,us,h1,h2,h3,h4,h5,h6⟩:=this
    have:q≠p:=λw=>by subst w;exact z (a.inj i j q e2 h2)
    exact ⟨q,us,h1,h2,h3,h4,by rw [upd_ne this];exact h5,h6⟩
   | ol q ds =>
    obtain ⟨us,h1,h2,h3,h4,h5,h6⟩:=this
    have:q≠p:=λw=>by subst w;exact z (a.inj i j q e2 h2)
    exact ⟨us,h1,h2,h3,h4,by rw [upd_ne this];exact h5,h6⟩
   | ob m C q dy fs =>
    obtain ⟨us,h1,h2,h3,h4,h5,h6⟩:=this
    have n1:q≠p:=λw=>by subst w;exact z (a.inj i j q e2 h2)
    have n2:dy≠p:=zgT h5.2 hp.1 (by intro z;cases z)
    exact ⟨us,h1,h2,h3,h4,⟨by rw [upd_ne n1];exact h5.1,by rw [upd_ne n2];exact h5.2⟩,h6⟩
inductive Wk:Ctx->Ctx->Prop where
 | nil:Wk [] []
 | eq {s Γ Δ}:Wk Γ Δ->Wk (s :: Γ) (s :: Δ)
 | no {s Γ Δ}:Wk Γ Δ->Wk (s :: Γ) (.no :: Δ)
 | old {m d Γ Δ}:Wk Γ Δ->Wk (.va m d :: Γ) (.va false d :: Δ)
 | oldL {m d Γ Δ}:Wk Γ Δ->Wk (.ow m d :: Γ) (.ow false d :: Δ)
theorem Wk.refl:∀ Γ:Ctx,Wk Γ Γ
 | []=>.nil
 | _ :: Γ=>.eq (Wk.refl Γ)
theorem Wk.len {Γ Δ:Ctx} (h:Wk Γ Δ):Γ.length=Δ.length:=by
 induction h<;>simp_all
theorem Wk.slot {Γ Δ:Ctx} (h:Wk Γ Δ):∀ {i:Nat} {s:Slot},Δ[i]?=some s->∃ r,Γ[i]?=some r∧∀ {Hb F H:Hp} {own:Nat->Option Addr} {j:Nat} {v:Option V},zde Hb F H own j v r->zde Hb F H own j v s:=by
 induction h with
 | nil=>intro i s e;simp at e
 | eq _ ih =>
  intro i s e
  cases i with
  | zero=>simp at e;subst e;exact ⟨_,rfl,λh=>h⟩
  | succ i=>simpa using ih (i:=i) (s:=s) (by simpa using e)
 | no _ ih =>
  intro i s e
  cases i with
  | zero=>simp at e;subst e;exact ⟨_,rfl,λ_=>trivial⟩
  | succ i=>simpa using ih (i:=i) (s:=s) (by simpa using e)
 | old _ ih =>
  intro i s e
  cases i with
  | zero=>simp at e;subst e;exact ⟨_,rfl,λ⟨x,h1,h2⟩=>⟨x,h1,Ds.up _ part_sub h2⟩⟩
  | succ i=>simpa using ih (i:=i) (s:=s) (by simpa using e)
 | oldL _ ih =>
  intro i s e
  cases i with
  | zero=>simp at e;subst e;exact ⟨_,rfl,λ⟨p,vs,h1,h2,h3,h4,h5,h6⟩=>⟨p,vs,h1,h2,h3,h4,h5,pr_up (ds:=[]) part_sub h6⟩⟩
  | succ i=>simpa using ih (i:=i) (s:=s) (by simpa using e)
theorem At.wk {F0 Hb F H:Hp} {σ:St} {own:Nat->Option Addr} {Γ Δ:Ctx} (a:At F0 Hb F H σ own Γ) (w:Wk Γ Δ):At F0 Hb F H σ own Δ :=
 ⟨a.g,a.inj,a.liv,λi s e=>by
  obtain ⟨r,e1,h⟩:=w.slot e
  exact h (a.sl i r e1),by rw [a.len,w.len]⟩
theorem At.share {F0 Hb F H:Hp} {σ:St} {own:Nat->Option Addr} {Γ:Ctx} (a:At F0 Hb F H σ own Γ) {i:Nat} {m:Bool} {ds:List Ds} (e:Γ[i]?=some (.ow m ds)) :
  ∃ F' own',Grow F0 Hb F' H∧At F0 Hb F' H σ own' (Γ.set i (.va m (dL ds))):=by
 obtain ⟨p,vs,e1,e2,hf,hb,hp,hq⟩:=a.sl i _ e
 have g:=a.g.take hb hp
 have fs:Same F (upd F p (.lst vs)):=Same.new hf _
 refine ⟨upd F p (.lst vs),λj=>if j=i then none else own j,g,g,λj k q h1 h2=>?_,λj q h1=>?_,λj s es=>?_,by simp [a.len]⟩
 ·skip
  split at h1
  ·cases h1
  ·split at h2
   ·cases h2
   ·exact a.inj j k q h1 h2
 ·skip
  split at h1
  ·cases h1
  ·exact a.liv j q h1
 ·by_cases z:i=j
  ·subst z
   have hi:i<Γ.length:=(List.getElem?_eq_some_iff.mp e).1
   rw [List.getElem?_set_self hi] at es
   cases es
   exact ⟨.ref p,e1,p,vs,rfl,zcU hb upd_same,pr_up (ds:=[]) (part_up fs) hq⟩
  ·rw [List.getElem?_set_ne z] at es
   have z':¬ j=i:=Ne.symm z
   have:=a.sl j s es
   cases s with
   | no=>trivial
   | tl d =>
    obtain ⟨x,R,q1,q2,q3,q4,q5⟩:=this
    refine ⟨x,R,q1,q2,λb o w=>⟨by rw [upd_ne (ne_of_none w (q4 i p e2))];exact (q3 b o w).1,(q3 b o w).2⟩,λk q w=>?_,q5⟩
    dsimp only at w
    split at w
    ·cases w
    ·exact q4 k q w
   | va m d=>obtain ⟨x,h1,h2⟩:=this;exact ⟨x,h1,d.up (part_up fs) h2⟩
   | ow m ds =>
    obtain ⟨q,us,h1,h2,h3,h4,h5,h6⟩:=this
    have:q≠p:=λw=>by subst w;exact z (a.inj i j q e2 h2)
    exact ⟨q,us,h1,(if_neg z').trans h2,by rw [upd_ne this];exact h3,h4,h5,pr_up (ds:=[]) (part_up fs) h6⟩
   | ol q ds =>
    obtain ⟨us,h1,h2,h3,h4,h5,h6⟩:=this
    have:q≠p:=λw=>by subst w;exact z (a.inj i j q e2 h2)
    exact ⟨us,h1,(if_neg z').trans h2,by rw [upd_ne this];exact h3,h4,h5,pr_up (ds:=[]) fs h6⟩
   | ob m C q dx gs =>
    obtain ⟨us,h1,h2,h3,h4,h5,h6⟩:=this
    have n1:q≠p:=λw=>by subst w;exact z (a.inj i j q e2 h2)
    have n2:dx≠p:=zgT h5.2 hp (by intro z;cases z)
    exact ⟨us,h1,(if_neg z').trans h2,⟨by rw [upd_ne n1];exact h3.1,by rw [upd_ne n2];exact h3.2⟩,h4,h5,zbM (λ_ b z=>⟨z.1,b.2.up (part_up fs) z.2⟩) h6⟩
end L2
namespace L2
open PySem PySem.Spec PyProof.Rows
def Ev (Γ:Ctx) (t:TE) (m:Bool) (d:Ds):Prop:=∀ (F0 Hb F H:Hp) (σ:St) (own:Nat->Option Addr) (Q:VK),At F0 Hb F H σ own Γ →
 (∀ v F' H',Grow F H F' H'->d.pr (part m F' Hb) v->Q v H')->t σ H Q
def EvO (Γ:Ctx) (t:TE) (m:Bool) (ds:List Ds):Prop:=∀ (F0 Hb F H:Hp) (σ:St) (own:Nat->Option Addr) (Q:VK),At F0 Hb F H σ own Γ →
 (∀ p vs F' H',Grow F H F' H'->H p=none->F' p=none->H' p=some (.lst vs)->Paired (λv (d:Ds)=>d.pr (part m F' Hb) v) vs ds->Q (.ref p) H')->t σ H Q
def EvT (Γ:Ctx) (t:TT) (b:Bool):Prop:=∀ (F0 Hb F H:Hp) (σ:St) (own:Nat->Option Addr) (Q:Bool->Hp->Prop),At F0 Hb F H σ own Γ →
 (∀ F' H',Grow F H F' H'->Q b H')->t σ H Q
def EvA (Γ:Ctx) (t:TA) (m:Bool) (ds:List Ds):Prop:=∀ (F0 Hb F H:Hp) (σ:St) (own:Nat->Option Addr) (Q:List V->Hp->Prop),At F0 Hb F H σ own Γ →
 (∀ vs F' H',Grow F H F' H'->Paired (λv (d:Ds)=>d.pr (part m F' Hb) v) vs ds->Q vs H')->t σ H Q
def EvP (Γ:Ctx) (t:TO) (i:Option Int):Prop:=∀ (F0 Hb F H:Hp) (σ:St) (own:Nat->Option Addr) (Q:Option Int->Hp->Prop),At F0 Hb F H σ own Γ →
 (∀ F' H',Grow F H F' H'->Q i H')->t σ H Q
theorem At.free {F0 Hb F H:Hp} {σ:St} {own:Nat->Option Addr} {Γ:Ctx} (a:At F0 Hb F H σ own Γ) {F' H':Hp} (g:Grow F H F' H') {p:Addr} (h:H' p=none):H p=none∧F' p=none∧Hb p=none:=by
 have h1:=g.h.free h
 exact ⟨h1,g.fh.free h,a.g.h.free h1⟩
section
variable {Γ:Ctx} {t ta tb:TE} {m n:Bool} {d e:Ds} {ds es:List Ds} {K:W.Frag}
theorem Ev.old (h:Ev Γ t m d):Ev Γ t false d:=λF0 Hb F H σ own Q a k=>h F0 Hb F H σ own Q a λv F' H' g q=>k v F' H' g (d.up part_sub q)
theorem Ev.conv (h:Ev Γ t m d) (e':d=e):Ev Γ t m e:=e' ▸ h
theorem EvO.conv (h:EvO Γ t m ds) (e':ds=es):EvO Γ t m es:=e' ▸ h
theorem EvT.conv {t:TT} {b c:Bool} (h:EvT Γ t b) (e':b=c):EvT Γ t c:=e' ▸ h
theorem EvO.ev (h:EvO Γ t m ds):Ev Γ t m (dL ds):=λF0 Hb F H σ own Q a k=>h F0 Hb F H σ own Q a λp vs F' H' g h1 h2 h3 q=>by
 have fs:Same F' (upd F' p (.lst vs)):=Same.new h2 _
 exact k (.ref p) (upd F' p (.lst vs)) H' (g.take h1 h3) ⟨p,vs,rfl,zcU (a.g.h.free h1) upd_same,pr_up (ds:=[]) (part_up fs) q⟩
theorem Ev.weak (h:Ev Γ t m (dL ds)):Ev Γ t m (dQ K ds):=λF0 Hb F H σ own Q a k=>h F0 Hb F H σ own Q a λv F' H' g ⟨p,vs,h1,h2,h3⟩=>k v F' H' g ⟨p,vs,h1,SqL.of h2,h3⟩
theorem zaa {i:Nat} (h:Γ[i]?=some (.va m d)):Ev Γ (tVar i) m d:=λF0 Hb F H σ own Q a k=>by
 obtain ⟨x,e,q⟩:=a.sl i _ h
 have hi:i<σ.length:=by rw [a.len];exact (List.getElem?_eq_some_iff.mp h).1
 rw [List.getElem?_eq_getElem hi] at e
 have e':σ[i]=some x:=e
 exact ⟨x,by rw [List.getElem?_eq_getElem hi,e'],k x F H (Grow.refl a.fh) q⟩
theorem zak {v:V}:Ev Γ (tC v) m (dV v):=λF0 Hb F H σ own Q a k=>k v F H (Grow.refl a.fh) rfl
theorem zaS {g:Int->Int->V} {x y:Int} (h1:Ev Γ ta false (dI x)) (h2:Ev Γ tb false (dI y)):Ev Γ (tOp (rI0 g) ta tb) m (dV (g x y)):=λF0 Hb F H σ own Q a k =>
 h1 F0 Hb F H σ own _ a λu F1 H1 g1 q1=>h2 F0 Hb F1 H1 σ own _ (a.grow g1) λv F2 H2 g2 q2=>⟨x,y,q1,q2,k _ F2 H2 (g1.trans g2) rfl⟩
theorem zam {C:Int->Int->Prop} {g:Int->Int->V} {x y:Int} (h1:Ev Γ ta false (dI x)) (h2:Ev Γ tb false (dI y)) (c:C x y):Ev Γ (tOp (rI C g) ta tb) m (dV (g x y)):=λF0 Hb F H σ own Q a k =>
 h1 F0 Hb F H σ own _ a λu F1 H1 g1 q1=>h2 F0 Hb F1 H1 σ own _ (a.grow g1) λv F2 H2 g2 q2=>⟨x,y,q1,q2,c,k _ F2 H2 (g1.trans g2) rfl⟩
theorem zjz {v w:V} (h1:Ev Γ ta false (dV v)) (h2:Ev Γ tb false (dV w)) (hs:scal v w=true):Ev Γ (tOp rEq ta tb) m (dB (decide (v=w))):=λF0 Hb F H σ own Q a k =>
 h1 F0 Hb F H σ own _ a λu F1 H1 g1 q1=>h2 F0 Hb F1 H1 σ own _ (a.grow g1) λv F2 H2 g2 q2=>by
  cases q1;cases q2;exact ⟨hs,k _ F2 H2 (g1.trans g2) rfl⟩
theorem ziV {v w:V} (h1:Ev Γ ta false (dV v)) (h2:Ev Γ tb false (dV w)) (hs:scal v w=true):Ev Γ (tOp rNe ta tb) m (dB (!decide (v=w))):=λF0 Hb F H σ own Q a k =>
 h1 F0 Hb F H σ own _ a λu F1 H1 g1 q1=>h2 F0 Hb F1 H1 σ own _ (a.grow g1) λv F2 H2 g2 q2=>by
  cases q1;cases q2;exact ⟨hs,k _ F2 H2 (g1.trans g2) rfl⟩
theorem zfc (x y:Int):decide (V.int x=V.int y)=decide (x=y):=by simp
theorem zbZ {x y:Int} (h1:Ev Γ ta false (dI x)) (h2:Ev Γ tb false (dI y)):Ev Γ (tOp rEq ta tb) m (dB (decide (x=y))):=(zjz h1 h2 rfl).conv (by rw [zfc])
theorem zeE {x y:Int} (h1:Ev Γ ta false (dI x)) (h2:Ev Γ tb false (dI y)):Ev Γ (tOp rNe ta tb) m (dB (!decide (x=y))):=(ziV h1 h2 rfl).conv (by rw [zfc])
theorem zh9 (x y:Str):decide (V.str x=V.str y)=decide (x=y):=by simp
theorem zjr {x y:Str} (h1:Ev Γ ta false (dS x)) (h2:Ev Γ tb false (dS y)):Ev Γ (tOp rEq ta tb) m (dB (decide (x=y))):=(zjz h1 h2 rfl).conv (by rw [zh9])
theorem zan {b:Bool} (h:Ev Γ t false (dB b)):EvT Γ (zi0 t) b:=λF0 Hb F H σ own Q a k=>h F0 Hb F H σ own _ a λv F' H' g q=>⟨b,q,k F' H' g⟩
theorem zaL {b:Bool} (h:Ev Γ t false (dB b)):EvT Γ (tB t) b:=λF0 Hb F H σ own Q a k=>h F0 Hb F H σ own _ a λv F' H' g q=>⟨b,q,k F' H' g⟩
theorem zaK {t:TT} {b:Bool} (h:EvT Γ t b):EvT Γ (zkf t) (!b):=λF0 Hb F H σ own Q a k=>h F0 Hb F H σ own _ a λF' H' g=>k F' H' g
theorem ze9 {t u:TT} {b c:Bool} (h:EvT Γ t b) (h2:b=true->EvT Γ u c):EvT Γ (zj6 t u) (b&&c):=λF0 Hb F H σ own Q a k=>h F0 Hb F H σ own _ a λF' H' g=>by
 cases b with
 | true=>exact h2 rfl F0 Hb F' H' σ own Q (a.grow g) λF2 H2 g2=>k F2 H2 (g.trans g2)
 | false=>exact k F' H' g
theorem zdf {t u:TT} {b c:Bool} (h:EvT Γ t b) (h2:b=false->EvT Γ u c):EvT Γ (tOr t u) (b||c):=λF0 Hb F H σ own Q a k=>h F0 Hb F H σ own _ a λF' H' g=>by
 cases b with
 | false=>exact h2 rfl F0 Hb F' H' σ own Q (a.grow g) λF2 H2 g2=>k F2 H2 (g.trans g2)
 | true=>exact k F' H' g
theorem zeM {b c:Bool} (h:Ev Γ ta false (dB b)) (h2:b=true->Ev Γ tb false (dB c)):Ev Γ (zjk ta tb) m (dB (b&&c)):=λF0 Hb F H σ own Q a k=>h F0 Hb F H σ own _ a λv F' H' g q=>⟨b,q,by
 cases b with
 | true=>exact h2 rfl F0 Hb F' H' σ own Q (a.grow g) λv F2 H2 g2 q2=>k v F2 H2 (g.trans g2) q2
 | false=>exact k _ F' H' g rfl⟩
theorem ziB {b:Bool} (h:Ev Γ ta false (dB b)):Ev Γ (zi3 ta) m (dB (!b)):=λF0 Hb F H σ own Q a k=>h F0 Hb F H σ own _ a λv F' H' g q=>⟨b,q,k _ F' H' g rfl⟩
theorem zah:EvA Γ tNil m []:=λF0 Hb F H σ own Q a k=>k [] F H (Grow.refl a.fh) .nil
theorem zab {tr:TA} (h:Ev Γ ta m d) (h2:EvA Γ tr m ds):EvA Γ (tCons ta tr) m (d :: ds):=λF0 Hb F H σ own Q a k =>
 h F0 Hb F H σ own _ a λv F1 H1 g1 q1=>h2 F0 Hb F1 H1 σ own _ (a.grow g1) λvs F2 H2 g2 q2=>k _ F2 H2 (g1.trans g2) (.cons (d.up (part_up g2.f) q1) q2)
theorem zbY {tr:TA} (h:EvA Γ tr m ds) (hz:ds.length≤sizeLine):EvO Γ (zkd tr) m ds:=λF0 Hb F H σ own Q a k =>
 h F0 Hb F H σ own _ a λvs F1 H1 g1 q1=>⟨by rw [Paired.length q1];exact hz,λp hp=>by
  obtain ⟨h1,h2,h3⟩:=a.free g1 hp
  exact k p vs F1 _ (g1.newH hp) h1 h2 upd_same q1⟩
theorem zjt {tr:TA} (h:EvA Γ tr m ds) (hz:ds.length≤sizeLine):Ev Γ (zj3 tr) m (dT ds):=λF0 Hb F H σ own Q a k =>
 h F0 Hb F H σ own _ a λvs F1 H1 g1 q1=>⟨by rw [Paired.length q1];exact hz,λp hp=>by
  obtain ⟨h1,h2,h3⟩:=a.free g1 hp
  exact k (.ref p) _ _ (g1.new hp) ⟨p,vs,rfl,zcU h3 upd_same,pr_up (ds:=[]) (part_up (Same.new h2 _)) q1⟩⟩
theorem zfS {R:V->Ds->Prop} {vs:List V} {ds:List Ds} {i:Int} {d:Ds} (h:Paired R vs ds) (e:atI ds i=some d):∃ v,atI vs i=some v∧R v d:=by
 unfold atI at e ⊢
 rw [Paired.length h]
 cases q:ixN ds.length i with
 | none=>rw [q] at e;cases e
 | some j =>
  rw [q] at e
  obtain ⟨v,e1,r⟩:=za1 h (show ds[j]?=some d from e)
  exact ⟨v,e1,r⟩
theorem zhQ {α β:Type} {f:α->β} {xs:List α} {i:Int} {x:α} (e:atI xs i=some x):atI (xs.map f) i=some (f x):=by
 unfold atI at e ⊢
 rw [List.length_map]
 cases q:ixN xs.length i with
 | none=>rw [q] at e;cases e
 | some j =>
  rw [q] at e
  have e':xs[j]?=some x:=e
  show (xs.map f)[j]?=_
  rw [List.getElem?_map,e']
  rfl
theorem zjV {i:Int} (h1:Ev Γ ta m (dQ K ds)) (h2:Ev Γ tb false (dI i)) (e:atI ds i=some d):Ev Γ (tOp (zjF K) ta tb) m d:=λF0 Hb F H σ own Q a k =>
 h1 F0 Hb F H σ own _ a λu F1 H1 g1 ⟨p,vs,e1,e2,e3⟩=>h2 F0 Hb F1 H1 σ own _ (a.grow g1) λv F2 H2 g2 q2=>by
  obtain ⟨x,ex,rx⟩:=zfS e3 e
  exact ⟨p,vs,i,x,e1,q2,(part_sub.trans (g2.f.trans g2.fh)).seq e2,ex,k x F2 H2 (g1.trans g2) (d.up (part_up g2.f) rx)⟩
theorem zjc {t:TE} (h1:Ev Γ t false (dQ K ds)):Ev Γ (tCB (λxs H Q=>∃ p ys,xs=[.ref p]∧(SqL K H p ys∨SqT K H p ys)∧Q (.int ys.length) H) (tCons t tNil)) m (dI ds.length):=λF0 Hb F H σ own Q a k =>
 h1 F0 Hb F H σ own _ a λu F1 H1 g1 ⟨p,vs,e1,e2,e3⟩=>⟨p,vs,by rw [e1],.inl (g1.fh.seq e2),k _ F1 H1 g1 (by show V.int _=_;rw [Paired.length e3])⟩
theorem zd9 {t:TE} (h1:Ev Γ t m (dQ K ds)):EvO Γ (tCB (λxs H Q=>∃ p ys,xs=[.ref p]∧(SqL K H p ys∨SqT K H p ys)∧∀ l,H l=none->Q (.ref l) (upd H l (.lst ys))) (tCons t tNil)) m ds:=λF0 Hb F H σ own Q a k =>
 h1 F0 Hb F H σ own _ a λu F1 H1 g1 ⟨p,vs,e1,e2,e3⟩=>⟨p,vs,by rw [e1],.inl ((part_sub.trans g1.fh).seq e2),λl hl=>by
  obtain ⟨h1,h2,h3⟩:=a.free g1 hl
  exact k l vs F1 _ (g1.newH hl) h1 h2 upd_same e3⟩
theorem zej:EvP Γ zgO none:=λF0 Hb F H σ own Q a k=>k F H (Grow.refl a.fh)
theorem zcv {i:Int} (h:Ev Γ t false (dI i)):EvP Γ (zjf t) (some i):=λF0 Hb F H σ own Q a k=>h F0 Hb F H σ own _ a λv F' H' g q=>⟨i,q,k F' H' g⟩
def zcB {α:Type} (xs:List α) (lo hi:Option Int):List α:=(xs.drop (HT.sIx xs.length 0 lo)).take (HT.sIx xs.length xs.length hi-HT.sIx xs.length 0 lo)
theorem zgZ {α β:Type} {f:α->β} {xs:List α} {lo hi:Option Int}:(zcB xs lo hi).map f=zcB (xs.map f) lo hi:=by
 unfold zcB;rw [List.map_take,List.map_drop,List.length_map]
theorem zjh {tl th:TO} {lo hi:Option Int} (h1:Ev Γ t m (dQ K ds)) (h2:EvP Γ tl lo) (h3:EvP Γ th hi):EvO Γ (tSl (zjA K) t tl th) m (zcB ds lo hi):=λF0 Hb F H σ own Q a k =>
 h1 F0 Hb F H σ own _ a λu F1 H1 g1 ⟨p,vs,e1,e2,e3⟩=>h2 F0 Hb F1 H1 σ own _ (a.grow g1) λF2 H2 g2=>h3 F0 Hb F2 H2 σ own _ ((a.grow g1).grow g2) λF3 H3 g3 =>
  ⟨p,vs,e1,(part_sub.trans (g1.fh.trans (g2.h.trans g3.h))).seq e2,λl hl=>by
   have g:=g1.trans (g2.trans g3)
   obtain ⟨h1,h2,h3⟩:=a.free g hl
   refine k l _ F3 _ (g.newH hl) h1 h2 upd_same ?_
   unfold zjx zcB
   rw [Paired.length e3]
   exact zdZ _ (zdP _ (pr_up (ds:=[]) (part_up (g2.f.trans g3.f)) e3))⟩
theorem zi6 {es:List Ds} (h1:Ev Γ ta m (dL ds)) (h2:Ev Γ tb m (dL es)) (hz:ds.length+es.length≤sizeLine):EvO Γ (tOp zjP ta tb) m (ds++es):=λF0 Hb F H σ own Q a k =>
 h1 F0 Hb F H σ own _ a λu F1 H1 g1 ⟨p,vs,e1,e2,e3⟩=>h2 F0 Hb F1 H1 σ own _ (a.grow g1) λv F2 H2 g2 ⟨q,ws,f1,f2,f3⟩ =>
  ⟨p,q,vs,ws,e1,f1,(part_sub.trans (g2.f.trans g2.fh)) _ _ e2,(part_sub.trans g2.fh) _ _ f2,by rw [Paired.length e3,Paired.length f3];exact hz,λl hl=>by
   have g:=g1.trans g2
   obtain ⟨h1,h2,h3⟩:=a.free g hl
   exact k l _ F2 _ (g.newH hl) h1 h2 upd_same (zbx (pr_up (ds:=[]) (part_up g2.f) e3) f3)⟩
theorem ziX {n:Int} (h1:Ev Γ ta m (dL ds)) (h2:Ev Γ tb false (dI n)) (hn:-(2^63)≤n∧n<2^63) (hz:ds.length*n.toNat≤sizeLine):EvO Γ (tOp zjU ta tb) m (List.replicate n.toNat ds).flatten:=λF0 Hb F H σ own Q a k =>
 h1 F0 Hb F H σ own _ a λu F1 H1 g1 ⟨p,vs,e1,e2,e3⟩=>h2 F0 Hb F1 H1 σ own _ (a.grow g1) λv F2 H2 g2 q2 =>
  ⟨p,n,vs,e1,q2,(part_sub.trans (g2.f.trans g2.fh)) _ _ e2,hn.1,hn.2,by rw [Paired.length e3];exact hz,λl hl=>by
   have g:=g1.trans g2
   obtain ⟨h1,h2,h3⟩:=a.free g hl
   exact k l _ F2 _ (g.newH hl) h1 h2 upd_same (paired_rep (pr_up (ds:=[]) (part_up g2.f) e3) _)⟩
theorem zjn {x y:Int} {tr:TA} (h:EvA Γ tr false [dI x,dI y]):Ev Γ (tCB (λxs H Q=>∃ i j,xs=[.int i,.int j]∧Q (.int (if j<i then j else i)) H) tr) m (dI (min x y)):=λF0 Hb F H σ own Q a k =>
 h F0 Hb F H σ own _ a λvs F1 H1 g1 q=>by
  cases q with | cons q1 q=>cases q with | cons q2 q=>cases q;cases q1;cases q2;exact ⟨x,y,rfl,k _ F1 H1 g1 (by show V.int _=V.int _;congr 1;omega)⟩
theorem zc5 {f:α->V} {R:Hp} {xs:List α}:∀ {vs:List V},Paired (λv (d:Ds)=>d.pr R v) vs (xs.map λx=>dV (f x))->vs=xs.map f:=by
 induction xs with
 | nil=>intro vs h;cases h;rfl
 | cons x xs ih=>intro vs h;cases h with | cons h1 h2=>rw [ih h2,h1];rfl
theorem zi4 {xs:List Int} {t:TE} (h1:Ev Γ t false (dQ K (xs.map dI))):Ev Γ (tCB (λxs H Q=>∃ (a:Addr) (ns:List Int),xs=[.ref a]∧SqL K H a (ns.map V.int)∧Q (.int ns.sum) H) (tCons t tNil)) m (dI xs.sum):=λF0 Hb F H σ own Q a k =>
 h1 F0 Hb F H σ own _ a λu F1 H1 g1 ⟨p,vs,e1,e2,e3⟩=>⟨p,xs,by rw [e1],by rw [← zc5 e3];exact g1.fh.seq e2,k _ F1 H1 g1 rfl⟩
theorem ziZ {xs:List Bool} {t:TE} (h1:Ev Γ t false (dQ K (xs.map dB))):Ev Γ (tCB (λxs H Q=>∃ (a:Addr) (bs:List Bool),xs=[.ref a]∧SqL K H a (bs.map V.bl)∧Q (.bl (bs.all id)) H) (tCons t tNil)) m (dB (xs.all id)):=λF0 Hb F H σ own Q a k =>
 h1 F0 Hb F H σ own _ a λu F1 H1 g1 ⟨p,vs,e1,e2,e3⟩=>⟨p,xs,by rw [e1],by rw [← zc5 e3];exact g1.fh.seq e2,k _ F1 H1 g1 rfl⟩
theorem zc9 {H:Hp} {f:Str} {d:Ds}:∀ {vs:List (Str×V)} {fs:List (Str×Ds)},Paired (λ(a:Str×V) (b:Str×Ds)=>a.1=b.1∧b.2.pr H a.2) vs fs->fs.lookup f=some d->∃ v,vs.lookup f=some v∧d.pr H v
 | _,_,.nil,e=>by cases e
 | _,_,.cons (a:=(x,v)) (b:=(y,d')) ⟨h1,h2⟩ t,e=>by
  have h1:x=y:=h1
  subst h1
  simp only [List.lookup_cons] at e ⊢
  cases q:f == x with
  | true=>rw [q] at e;cases e;exact ⟨v,rfl,h2⟩
  | false=>rw [q] at e;exact zc9 t e
theorem zdt {C:Addr} {fs:List (Str×Ds)} {f:Str} (h1:Ev Γ ta m (dO C fs)) (c:Cls K C) (nf:NoAttr K C f) (e:fs.lookup f=some d):Ev Γ (tFld K ta f) m d:=λF0 Hb F H σ own Q a k =>
 h1 F0 Hb F H σ own _ a λu F1 H1 g1 ⟨p,dx,vs,e1,e2,e3,e4⟩=>by
  obtain ⟨v,ev,qv⟩:=zc9 e4 e
  exact ⟨p,C,dx,vs,v,e1,(part_sub.trans g1.fh) _ _ e2,c,nf,ev,k v F1 H1 g1 qv⟩
inductive Rs where
 | va (m:Bool) (d:Ds)
 | ow (m:Bool) (ds:List Ds)
 | ex (C:Addr)
def Spv {ι:Type} (args:ι->List Ds) (pre:ι->Prop) (res:ι->Rs):Sp:=λvs H Q E=>∃ (x:ι) (F:Hp),Same F H∧Paired (λv (d:Ds)=>d.pr F v) vs (args x)∧pre x∧match res x with
 | .ex C=>∀ dct F' H',Grow F H F' H'->E (.ref C) dct H'
 | .va m d=>∀ v F' H',Grow F H F' H'->d.pr (part m F' H) v->Q v H'
 | .ow m ds=>∀ p ws F' H',Grow F H F' H'->H p=none->F' p=none->H' p=some (.lst ws)->Paired (λv (d:Ds)=>d.pr (part m F' H) v) ws ds->Q (.ref p) H'
theorem zcW {m:Bool} {F Hb H:Hp} (e:Same Hb H):Same (part m F H) (part m F Hb):=by
 cases m with
 | true=>exact zgz e
 | false=>exact Same.refl _
theorem zat {ι:Type} {args:ι->List Ds} {pre:ι->Prop} {res:ι->Rs} {tr:TA} {E:XK} (x:ι) (h:EvA Γ tr false ds) (ha:ds=args x) (hp:pre x) (hr:res x=.va m d):Ev Γ (tCall (Spv args pre res) [] E tr) m d:=λF0 Hb F H σ own Q a k=>by
 subst ha
 refine h F0 Hb F H σ own _ a λvs F1 H1 g1 q1=>⟨x,F1,g1.fh,by rw [List.append_nil];exact q1,hp,?_⟩
 rw [hr]
 exact λv F' H' g q=>k v F' H' (g1.trans g) (d.up (zcW (a.g.h.trans g1.h)) q)
theorem zg6 {ι:Type} {args:ι->List Ds} {pre:ι->Prop} {res:ι->Rs} {tr:TA} {E:XK} (x:ι) (h:EvA Γ tr false es) (ha:es=args x) (hp:pre x) (hr:res x=.ow m ds):EvO Γ (tCall (Spv args pre res) [] E tr) m ds:=λF0 Hb F H σ own Q a k=>by
 subst ha
 refine h F0 Hb F H σ own _ a λvs F1 H1 g1 q1=>⟨x,F1,g1.fh,by rw [List.append_nil];exact q1,hp,?_⟩
 rw [hr]
 exact λp ws F' H' g h1 h2 h3 q=>k p ws F' H' (g1.trans g) (g1.h.free h1) h2 h3 (pr_up (ds:=[]) (zcW (a.g.h.trans g1.h)) q)
end
end L2
namespace L2
open PySem PySem.Spec PyProof.Rows
def zjR:List Nat->List V->St->St
 | j :: js,v :: vs,σ=>zjR js vs (σ.set j (some v))
 | _,_,σ=>σ
def zhc:List Nat->List Ds->Bool->Ctx->Ctx
 | j :: js,d :: ds,m,Γ=>zhc js ds m (Γ.set j (.va m d))
 | _,_,_,Γ=>Γ
theorem At.setMany {F0 Hb F H:Hp} {own:Nat->Option Addr} {m:Bool}:∀ {js:List Nat} {vs:List V} {ds:List Ds} {σ:St} {Γ:Ctx},At F0 Hb F H σ own Γ->Paired (λv (d:Ds)=>d.pr (part m F Hb) v) vs ds →
  At F0 Hb F H (zjR js vs σ) own (zhc js ds m Γ)
 | [],_,_,_,_,a,.nil=>a
 | [],_,_,_,_,a,.cons _ _=>a
 | _ :: _,_,_,_,_,a,.nil=>a
 | j :: js,_,_,_,_,a,.cons h t=>At.setMany (js:=js) (a.set j h) t
theorem At.unset {F0 Hb F H:Hp} {own:Nat->Option Addr} {σ:St} {Γ:Ctx} {j:Nat} {s:Slot} (a:At F0 Hb F H σ own (Γ.set j s)) (h:Γ[j]?=some .no):At F0 Hb F H σ own Γ :=
 ⟨a.g,a.inj,a.liv,λi r e=>by
  by_cases z:j=i
  ·subst z;rw [h] at e;cases e;trivial
  ·exact a.sl i r (by rw [List.getElem?_set_ne z];exact e),by rw [a.len];simp⟩
theorem At.unsetMany {F0 Hb F H:Hp} {own:Nat->Option Addr} {σ:St} {m:Bool}:∀ {js:List Nat} {ds:List Ds} {Γ:Ctx},At F0 Hb F H σ own (zhc js ds m Γ)->(∀ j∈js,Γ[j]?=some .no)->js.Nodup->At F0 Hb F H σ own Γ
 | [],[],_,a,_,_=>a
 | [],_ :: _,_,a,_,_=>a
 | _ :: _,[],_,a,_,_=>a
 | j :: js,d :: ds,Γ,a,h,hn=>by
  have hn:=List.nodup_cons.mp hn
  refine At.unset (At.unsetMany (js:=js) (ds:=ds) (Γ:=Γ.set j (.va m d)) a (λi hi=>?_) hn.2) (h j List.mem_cons_self)
  rw [List.getElem?_set_ne (λ(z:j=i)=>hn.1 (by rw [z];exact hi))]
  exact h i (List.mem_cons_of_mem _ hi)
def ziY {γ:Type} (Hb F:Hp) (J:It) (g:TG) (js:List Nat) (xs:List γ) (bds:γ->List Ds) (m:Bool):Prop:=∀ H,Same F H->J.stop xs.length H∧∀ i x,xs[i]?=some x->J.go i H ∧
 ∀ v H',J.yld i H v H'->Grow F H F H'∧∀ (σ:St) (Q:St->Hp->Prop),(∀ vs,Paired (λv (d:Ds)=>d.pr (part m F Hb) v) vs (bds x)->Q (zjR js vs σ) H')->g v σ H' Q
def Iv {γ:Type} (Γ:Ctx) (wi:TI) (g:TG) (js:List Nat) (xs:List γ) (bds:γ->List Ds) (m:Bool):Prop:=∀ (F0 Hb F H:Hp) (σ:St) (own:Nat->Option Addr) (R:It->Hp->Prop),At F0 Hb F H σ own Γ →
 (∀ J F' H',Grow F H F' H'->ziY Hb F' J g js xs bds m->R J H')->wi σ H R
section
variable {Γ:Ctx} {m:Bool} {K:W.Frag} {γ δ:Type}
theorem ziY.up {Hb F F':Hp} {J:It} {g:TG} {js:List Nat} {xs:List γ} {bds:γ->List Ds} (h:ziY Hb F J g js xs bds m) (e:Same F F'):ziY Hb F' J g js xs bds m:=λH hs=>by
 obtain ⟨h1,h2⟩:=h H (e.trans hs)
 refine ⟨h1,λi x ex=>?_⟩
 obtain ⟨h3,h4⟩:=h2 i x ex
 refine ⟨h3,λv H' y=>?_⟩
 obtain ⟨h5,h6⟩:=h4 v H' y
 exact ⟨⟨Same.refl _,hs.trans h5.h,h5.h,λ_ _ z=>z⟩,λσ Q k=>h6 σ Q λvs q=>k vs (pr_up (ds:=[]) (part_up e) q)⟩
theorem zdk {tl:TE} {j:Nat} {xs:List γ} (f:γ->Ds) (h:Ev Γ tl m (dQ K (xs.map f))):Iv Γ (zii K tl) (zcM j) [j] xs (λx=>[f x]) m:=λF0 Hb F H σ own R a k =>
 h F0 Hb F H σ own _ a λu F1 H1 g1 ⟨p,vs,e1,e2,e3⟩=>by
  have e2':SqL K F1 p vs:=part_sub.seq e2
  refine ⟨p,e1,⟨vs,g1.fh.seq e2'⟩,k _ F1 H1 g1 λH hs=>⟨⟨vs,hs.seq e2',by rw [Paired.length e3,List.length_map];exact Nat.le_refl _⟩,λi x ex=>?_⟩⟩
  obtain ⟨v,ev,qv⟩:=za1 e3 (show (xs.map f)[i]?=some (f x) by rw [List.getElem?_map,ex];rfl)
  refine ⟨⟨vs,v,hs.seq e2',ev⟩,λw H' y=>?_⟩
  obtain ⟨rfl,y⟩:=y
  have:=y vs (hs.seq e2')
  rw [ev] at this
  cases this
  exact ⟨Grow.refl hs,λσ Q k=>k [v] (.cons qv .nil)⟩
def rngZ (lo:Int) (n:Nat):List Int:=(List.range n).map λ(i:Nat)=>lo+(i:Int)
theorem zdc {lo:Int} {n:Nat}:(rngZ lo n).length=n:=by simp [rngZ]
theorem zcR {lo:Int} {n i:Nat} {x:Int} (h:(rngZ lo n)[i]?=some x):i<n∧x=lo+i:=by
 unfold rngZ at h
 rw [List.getElem?_map] at h
 by_cases z:i<n
 ·rw [List.getElem?_range z] at h
  exact ⟨z,(Option.some.inj h).symm⟩
 ·rw [List.getElem?_eq_none (by simp;omega)] at h;cases h
theorem it_rng {Hb F:Hp} {lo:Int} {n j:Nat}:ziY Hb F (Itr lo n) (zcM j) [j] (rngZ lo n) (λx=>[dI x]) m:=λH hs =>
 ⟨by show n≤_;rw [zdc];exact Nat.le_refl _,λi x ex=>by
  obtain ⟨hi,rfl⟩:=zcR ex
  refine ⟨hi,λv H' y=>?_⟩
  obtain ⟨rfl,rfl⟩:=y
  exact ⟨Grow.refl hs,λσ Q k=>k [_] (.cons rfl .nil)⟩⟩
theorem zdM {t:TE} {j:Nat} {n:Int} (h:Ev Γ t false (dI n)) (hn:-(2^62)≤n∧n<2^62):Iv Γ (zjj (tCons t tNil)) (zcM j) [j] (rngZ 0 n.toNat) (λx=>[dI x]) m:=λF0 Hb F H σ own R a k =>
 h F0 Hb F H σ own _ a λu F1 H1 g1 q1=>⟨n,by rw [q1],hn.1,hn.2,k _ F1 H1 g1 it_rng⟩
theorem zeY {α β:Type} {xs:List α} {ys:List β} {i:Nat} {p:α×β} (h:(xs.zip ys)[i]?=some p):xs[i]?=some p.1∧ys[i]?=some p.2:=by
 rw [List.getElem?_zip_eq_some] at h;exact h
theorem zhG {ta tb:TE} {j1 j2:Nat} {xs:List γ} {ys:List δ} (f1:γ->Ds) (f2:δ->Ds) (h1:Ev Γ ta m (dQ K (xs.map f1))) (h2:Ev Γ tb m (dQ K (ys.map f2))) :
  Iv Γ (zjT K (tCons ta (tCons tb tNil))) (ziS K 2 (ze1 (zcM j1) (ze1 (zcM j2) zjC))) [j1,j2] (xs.zip ys) (λx=>[f1 x.1,f2 x.2]) m:=λF0 Hb F H σ own R a k =>
 h1 F0 Hb F H σ own _ a λu F1 H1 g1 ⟨p,vs,e1,e2,e3⟩=>h2 F0 Hb F1 H1 σ own _ (a.grow g1) λu' F2 H2 g2 ⟨q,ws,d1,d2,d3⟩=>by
  have e2':SqL K F2 p vs:=g2.f.seq (part_sub.seq e2)
  have d2':SqL K F2 q ws:=part_sub.seq d2
  have e3':=pr_up (ds:=[]) (part_up (m:=m) (Hb:=Hb) g2.f) e3
  have le:=Paired.length e3
  have ld:=Paired.length d3
  rw [List.length_map] at le ld
  refine ⟨p,q,by rw [e1,d1],⟨vs,g2.fh.seq e2'⟩,⟨ws,g2.fh.seq d2'⟩,k _ F2 H2 (g1.trans g2) λH hs=>⟨⟨vs,ws,hs.seq e2',hs.seq d2',by rw [le,ld,List.length_zip];omega⟩,λi x ex=>?_⟩⟩
  obtain ⟨x1,x2⟩:=zeY ex
  obtain ⟨v,ev,qv⟩:=za1 e3' (show (xs.map f1)[i]?=some (f1 x.1) by rw [List.getElem?_map,x1];rfl)
  obtain ⟨w,ew,qw⟩:=za1 d3 (show (ys.map f2)[i]?=some (f2 x.2) by rw [List.getElem?_map,x2];rfl)
  refine ⟨⟨vs,ws,v,w,hs.seq e2',hs.seq d2',ev,ew⟩,λz H' y=>?_⟩
  obtain ⟨r,x',y',rfl,hr,rfl,hxy⟩:=y
  obtain ⟨hx,hy⟩:=hxy vs ws (hs.seq e2') (hs.seq d2')
  rw [ev] at hx;rw [ew] at hy
  cases hx;cases hy
  exact ⟨(Grow.refl hs).newH hr,λσ Q k=>⟨r,_,rfl,.inl (.inl upd_same),rfl,_,_,rfl,_,_,rfl,rfl,k [v,w] (.cons qv (.cons qw .nil))⟩⟩
def zjD:Option Slot->Slot
 | some (.va m d)=>.va m d
 | _=>.no
def zgg (own:Nat) (fv:List Nat) (Γ:Ctx):Ctx:=List.replicate own .no++fv.map λi=>zjD Γ[i]?
theorem At.block {F0 Hb F H:Hp} {own:Nat->Option Addr} {σ:St} (a:At F0 Hb F H σ own Γ) (k:Nat) (fv:List Nat):At F0 Hb F H (zdN k fv σ) (λ_=>none) (zgg k fv Γ):=by
 refine ⟨a.g,λ_ _ _ h=>(by cases h),λ_ _ h=>(by cases h),λi s e=>?_,?_⟩
 ·unfold zgg at e
  unfold zdN
  by_cases hi:i<k
  ·rw [List.getElem?_append_left (by simpa using hi),List.getElem?_replicate,if_pos hi] at e
   cases e;trivial
  ·rw [List.getElem?_append_right (by simpa using hi),List.length_replicate,List.getElem?_map] at e
   rw [List.getElem?_append_right (by simpa using hi),List.length_replicate,List.getElem?_map]
   cases q:fv[i-k]? with
   | none=>rw [q] at e;cases e
   | some j =>
    rw [q] at e
    have e':zjD Γ[j]?=s:=Option.some.inj e
    subst e'
    show zde Hb F H (λ_=>none) _ ((σ[j]?).join) (zjD Γ[j]?)
    cases z:Γ[j]? with
    | none=>trivial
    | some r =>
     cases r with
     | no=>trivial
     | va m d=>exact (show zde Hb F H own j _ (.va m d) from a.sl j _ z)
     | ow m ds=>trivial
     | ob m C p dx fs=>trivial
     | ol p ds=>trivial
     | tl d=>trivial
 ·unfold zdN zgg;simp
theorem zh0 {k:Nat} {fv:List Nat} {j:Nat} {d:Ds} (e:(zgg k fv Γ)[j]?=some (.tl d)):False:=by
 unfold zgg at e
 have:=List.mem_of_getElem? e
 rcases List.mem_append.mp this with q | q
 ·cases (List.mem_replicate.mp q).2
 ·obtain ⟨l,_,q⟩:=List.mem_map.mp q
  unfold zjD at q
  split at q<;>cases q
theorem evt_noif:EvT Γ tNoIf true:=λF0 Hb F H σ own Q a k=>k F H (Grow.refl a.fh)
theorem zgJ {xs:List γ} {i:Nat} {x:γ} (h:xs[i]?=some x):xs.take (i+1)=xs.take i++[x]:=by
 rw [List.take_succ,h];rfl
theorem ziu {own:Nat} {fv:List Nat} {wi:TI} {tg:TG} {tt:TTs} {te:TE} {js:List Nat} {xs:List γ} {bds:γ->List Ds} {mi:Bool} {c:γ->Bool} {g:γ->Ds} (it:Iv Γ wi tg js xs bds mi) (hz:xs.length≤sizeLine) (hj:(∀ j∈js,j<own)∧js.Nodup)
  (ht:∀ (i:Nat) (x:γ),xs[i]?=some x->EvT (zhc js (bds x) mi (zgg own fv Γ)) tt (c x)) (he:∀ (i:Nat) (x:γ),xs[i]?=some x->c x=true->Ev (zhc js (bds x) mi (zgg own fv Γ)) te m (g x)):EvO Γ (zg3 own fv wi tg tt te) m ((xs.filter c).map g):=λF0 Hb F H σ ow Q a k =>
 it F0 Hb F H σ ow _ a λJ F1 H1 g1 ok D hD=>by
  have hno:∀ j∈js,(zgg own fv Γ)[j]?=some .no:=λj hj'=>by
   have:=hj.1 j hj'
   unfold zgg
   rw [List.getElem?_append_left (by simpa using this),List.getElem?_replicate,if_pos this]
  obtain ⟨hD0,hDF,hDb⟩:=a.free g1 hD
  refine ⟨λi mm ys σb H2=>mm=xs.length-i∧i≤xs.length∧ys.length≤i∧∃ F2,Grow F1 H1 F2 H2∧F2 D=none∧H2 D=some (.lst ys)∧Paired (λv (d:Ds)=>d.pr (part m F2 Hb) v) ys (((xs.take i).filter c).map g)∧At F0 Hb F2 H2 σb (λ_=>none) (zgg own fv Γ),
   ⟨_,rfl,Nat.zero_le _,Nat.zero_le _,F1,(Grow.refl g1.fh).newH hD,hDF,upd_same,by simpa using Paired.nil,((a.grow g1).block own fv).grow ((Grow.refl g1.fh).newH hD)⟩,?_⟩
  rintro i mm ys σb H2 ⟨rfl,hi,hy,F2,g2,hF2,hH2,hP,a2⟩
  refine ⟨hH2,?_⟩
  obtain ⟨hstop,hitem⟩:=ok.up g2.f H2 g2.fh
  by_cases hlt:i<xs.length
  ·obtain ⟨go,yl⟩:=hitem i xs[i] (List.getElem?_eq_getElem hlt)
   refine .inr ⟨go,λx H' y=>?_⟩
   obtain ⟨g3,bind⟩:=yl x H' y
   refine bind σb _ λvs hvs=>?_
   have a3:=(a2.grow g3).setMany (js:=js) hvs
   have hx:xs[i]?=some xs[i]:=List.getElem?_eq_getElem hlt
   refine ht i _ hx F0 Hb F2 H' _ _ _ a3 λF4 H4 g4=>?_
   have tk:=zgJ hx
   have gD:∀ {F5 H5:Hp},Grow F2 H2 F5 H5->F5 D=none∧H5 D=some (.lst ys):=λg=>⟨g.no D (by rw [hH2];simp) hF2,g.h _ _ hH2⟩
   cases hc:c xs[i] with
   | true =>
    rw [if_pos rfl]
    refine he i _ hx hc F0 Hb F4 H4 _ _ _ (a3.grow g4) λv F5 H5 g5 q5=>?_
    have g25:=g3.trans (g4.trans g5)
    obtain ⟨n1,n2⟩:=gD g25
    have sD:Same H5 H5:=Same.refl _
    have n3:H1 D=none:=hD
    refine ⟨n2,by omega,xs.length-(i+1),by omega,rfl,hlt,by simp;omega,F5,?_,n1,upd_same,?_,?_⟩
    ·exact (g2.trans g25).setH n1 n3
    ·rw [tk,List.filter_append,List.map_append]
     refine zbx (pr_up (ds:=[]) (part_up g25.f) hP) ?_
     rw [List.filter_cons,hc]
     exact .cons q5 .nil
    ·have a5:=((a3.grow g4).grow g5).unsetMany hno hj.2
     refine ⟨a5.g.setH n1 hDb,a5.inj,λ_ _ h=>(nomatch h),λj s es=>?_,a5.len⟩
     ·have:=a5.sl j s es
      cases s with
      | no=>trivial
      | va m d=>exact this
      | ow m ds=>obtain ⟨_,_,_,h,_⟩:=this;exact (nomatch h)
      | ob m C p dx fs=>obtain ⟨_,_,h,_⟩:=this;exact (nomatch h)
      | ol p ds=>obtain ⟨_,_,h,_⟩:=this;exact (nomatch h)
      | tl d=>exact (zh0 es).elim
   | false =>
    rw [if_neg Bool.false_ne_true]
    have g25:=g3.trans g4
    obtain ⟨n1,n2⟩:=gD g25
    refine ⟨xs.length-(i+1),by omega,rfl,hlt,by omega,F4,g2.trans g25,n1,n2,?_,(a3.grow g4).unsetMany hno hj.2⟩
    rw [tk,List.filter_append,List.map_append,List.filter_cons,hc]
    simpa using pr_up (ds:=[]) (part_up g25.f) hP
  ·have e:i=xs.length:=by omega
   subst e
   rw [List.take_length] at hP
   exact .inl ⟨hstop,k D ys F2 H2 (g1.trans g2) hD0 hF2 hH2 hP⟩
theorem zdw {own:Nat} {fv:List Nat} {wi:TI} {tg:TG} {te:TE} {js:List Nat} {xs:List γ} {bds:γ->List Ds} {mi:Bool} {g:γ->Ds} (it:Iv Γ wi tg js xs bds mi) (hz:xs.length≤sizeLine) (hj:(∀ j∈js,j<own)∧js.Nodup)
  (he:∀ (i:Nat) (x:γ),xs[i]?=some x->Ev (zhc js (bds x) mi (zgg own fv Γ)) te m (g x)):EvO Γ (zg3 own fv wi tg tNoIf te) m (xs.map g):=by
 have:=ziu (c:=λ_=>true) it hz hj (λ_ _ _=>evt_noif) (λi x hx _=>he i x hx)
 rwa [show xs.filter (λ_=>true)=xs from List.filter_eq_self.mpr λ_ _=>rfl] at this
end
inductive Oc where
 | nx (Γ:Ctx)
 | rt (m:Bool) (d:Ds)
 | rl (m:Bool) (ds:List Ds)
 | bk (Γ:Ctx)
 | ct (Γ:Ctx)
 | ex (C:Addr) (Γ:Ctx)
 | rw (Γ:Ctx) (d:Ds)
def zdz (E:XS) (F0 Hb:Hp) (D:Ends):Oc->Prop
 | .ex C Γ=>∀ dct F H σ own,At F0 Hb F H σ own Γ->E σ (.ref C) dct H
 | .rw Γ d=>∀ v F H σ own,At F0 Hb F H σ own Γ->d.pr F v->D.rt v H
 | .nx Γ=>∀ F H σ own,At F0 Hb F H σ own Γ->D.nx σ H
 | .bk Γ=>∀ F H σ own,At F0 Hb F H σ own Γ->D.bk σ H
 | .ct Γ=>∀ F H σ own,At F0 Hb F H σ own Γ->D.ct σ H
 | .rt m d=>∀ v F H,Grow F0 Hb F H->d.pr (part m F Hb) v->D.rt v H
 | .rl m ds=>∀ p vs F H,Grow F0 Hb F H->Hb p=none->F p=none->H p=some (.lst vs)->Paired (λv (d:Ds)=>d.pr (part m F Hb) v) vs ds->D.rt (.ref p) H
def Run (E:XS) (Γ:Ctx) (t:TS) (o:Oc):Prop:=∀ (F0 Hb F H:Hp) (σ:St) (own:Nat->Option Addr) (D:Ends),At F0 Hb F H σ own Γ->zdz E F0 Hb D o->t D σ H
def Let {α:Type} {β:Type} (a:α) (k:α->β):β:=k a
def loopR {σ:Type} {γ:Type} {β:Type} (f:σ->γ->σ ⊕ β):σ->List γ->σ ⊕ β
 | s,[]=>.inl s
 | s,x :: xs=>match f s x with | .inl s'=>loopR f s' xs | .inr b=>.inr b
section
variable {E:XS} {Γ Δ:Ctx} {m:Bool} {K:W.Frag} {γ β:Type} {te:TE} {t u:TS} {d:Ds} {ds:List Ds} {o:Oc} {i:Nat}
theorem zaO (w:Wk Γ Δ):Run E Γ zhh (.nx Δ):=λF0 Hb F H σ own D a k=>k F H σ own (a.wk w)
theorem zaj (h:Ev Γ te m d):Run E Γ (zgY te) (.rt m d):=λF0 Hb F H σ own D a k=>h F0 Hb F H σ own _ a λv F' H' g q=>k v F' H' (a.g.trans g) q
theorem zhp (h:EvO Γ te m ds):Run E Γ (zgY te) (.rl m ds):=λF0 Hb F H σ own D a k=>h F0 Hb F H σ own _ a λp vs F' H' g h1 h2 h3 q=>k p vs F' H' (a.g.trans g) (a.g.h.free h1) h2 h3 q
theorem zdU (h:Run E Γ (zgY te) o) (ho:∀ F0 Hb D D',D.rt=D'.rt->zdz E F0 Hb D o->zdz E F0 Hb D' o):Run E Γ (tSeq (zgY te) u) o:=λF0 Hb F H σ own D a k=>h F0 Hb F H σ own _ a (ho F0 Hb D { D with nx:=u D } rfl k)
theorem zaf (h:Run E Γ (zgY te) (.rt m d)):Run E Γ (tSeq (zgY te) u) (.rt m d):=zdU h λ_ _ _ _ e q v F H g p=>e ▸ q v F H g p
theorem zfO (h:Run E Γ (zgY te) (.rl m ds)):Run E Γ (tSeq (zgY te) u) (.rl m ds):=zdU h λ_ _ _ _ e q p vs F H g h1 h2 h3 h4=>e ▸ q p vs F H g h1 h2 h3 h4
theorem zdp (h:Ev Γ te m d) (k:Run E (Γ.set i (.va m d)) u o):Run E Γ (tSeq (zhj te (zcM i)) u) o:=λF0 Hb F H σ own D a q =>
 h F0 Hb F H σ own _ a λv F' H' g p=>k F0 Hb F' H' _ own D ((a.grow g).set i p) q
theorem run_setO (h:EvO Γ te m ds) (k:Run E (Γ.set i (.ow m ds)) u o):Run E Γ (tSeq (zhj te (zcM i)) u) o:=λF0 Hb F H σ own D a q =>
 h F0 Hb F H σ own _ a λp vs F' H' g h1 h2 h3 h4=>k F0 Hb F' H' _ _ D (a.setOwn g i h1 h2 h3 h4) q
theorem zao {α:Type} {x:α} (f:α->Ds) (fo:β->Oc) {kk:α->β} (h:Ev Γ te m (f x)) (k:∀ y,y=x->Run E (Γ.set i (.va m (f y))) u (fo (kk y))):Run E Γ (tSeq (zhj te (zcM i)) u) (fo (Let x kk)):=zdp h (k x rfl)
theorem run_drop (h:Ev Γ te m d) (k:Run E Γ u o):Run E Γ (tSeq (tDrop te) u) o:=λF0 Hb F H σ own D a q =>
 h F0 Hb F H σ own _ a λv F' H' g p=>k F0 Hb F' H' σ own D (a.grow g) q
theorem zai {α:Type} {tc:TT} {b:Bool} {x y:α} {r:TS} (fo:α->Oc) (h:EvT Γ tc b) (h1:b=true->Run E Γ (tSeq t r) (fo x)) (h2:b=false->Run E Γ (tSeq u r) (fo y)):Run E Γ (tSeq (ziz tc t u) r) (fo (bif b then x else y)):=λF0 Hb F H σ own D a q =>
 h F0 Hb F H σ own _ a λF' H' g=>by
  cases b with
  | true=>rw [if_pos rfl];exact h1 rfl F0 Hb F' H' σ own D (a.grow g) q
  | false=>rw [if_neg Bool.false_ne_true];exact h2 rfl F0 Hb F' H' σ own D (a.grow g) q
theorem zdu {tc:TT} {r:TS} (h:EvT Γ tc false) (h1:Run E Γ (tSeq u r) o):Run E Γ (tSeq (ziz tc t u) r) o:=λF0 Hb F H σ own D a q=>h F0 Hb F H σ own _ a λF' H' g=>by
 rw [if_neg Bool.false_ne_true];exact h1 F0 Hb F' H' σ own D (a.grow g) q
theorem zfH {tc:TT} {b:Bool} {r:TS} (G:Bool->Ctx) (h:EvT Γ tc b) (h1:b=true->Run E Γ t (.nx (G true))) (h2:b=false->Run E Γ u (.nx (G false))) (k:Run E (G b) r o):Run E Γ (tSeq (ziz tc t u) r) o:=λF0 Hb F H σ own D a q =>
 h F0 Hb F H σ own _ a λF' H' g=>by
  cases b with
  | true=>rw [if_pos rfl];exact h1 rfl F0 Hb F' H' σ own _ (a.grow g) λF H σ own a'=>k F0 Hb F H σ own D a' q
  | false=>rw [if_neg Bool.false_ne_true];exact h2 rfl F0 Hb F' H' σ own _ (a.grow g) λF H σ own a'=>k F0 Hb F H σ own D a' q
theorem zae (k:Run E Γ u o):Run E Γ (tSeq zhh u) o:=λF0 Hb F H σ own D a q=>k F0 Hb F H σ own D a q
theorem zgF {Δ:Ctx} (h:Run E Γ t (.nx Δ)) (k:Run E Δ u o):Run E Γ (tSeq t u) o:=λF0 Hb F H σ own D a q=>h F0 Hb F H σ own _ a λF H σ own a'=>k F0 Hb F H σ own D a' q
theorem zad {r:TS} (h:Run E Γ (tSeq t (tSeq u r)) o):Run E Γ (tSeq (tSeq t u) r) o:=λF0 Hb F H σ own D a q=>h F0 Hb F H σ own D a q
theorem zhC {F0 Hb F H:Hp} {σ:St} {own:Nat->Option Addr} (a:At F0 Hb F H σ own Γ) (e:Γ[i]?=some (.ow m ds)) :
  ∃ p vs,σ[i]?=some (some (.ref p))∧own i=some p∧F p=none∧Hb p=none∧H p=some (.lst vs)∧Paired (λv (d:Ds)=>d.pr (part m F Hb) v) vs ds:=by
 obtain ⟨p,vs,e1,e2,e3,e4,e5,e6⟩:=a.sl i _ e
 have hi:i<σ.length:=by rw [a.len];exact (List.getElem?_eq_some_iff.mp e).1
 rw [List.getElem?_eq_getElem hi] at e1
 have e':σ[i]=some (.ref p):=e1
 exact ⟨p,vs,by rw [List.getElem?_eq_getElem hi,e'],e2,e3,e4,e5,e6⟩
theorem zfV {te:TE} (e:Γ[i]?=some (.ow m ds)) (h:Ev Γ te m d) (hz:ds.length<sizeLine) (k:Run E (Γ.set i (.ow m (ds++[d]))) u o):Run E Γ (tSeq (tDrop (tBM K "list" rAppend (tVar i) (tCons te tNil))) u) o:=λF0 Hb F H σ own D a q=>by
 obtain ⟨p,vs,e1,e2,e3,e4,e5,e6⟩:=zhC a e
 refine ⟨_,e1,.inl ⟨rfl,_,SqL.of e5⟩,?_⟩
 refine h F0 Hb F H σ own _ a λv F' H' g qv=>?_
 obtain ⟨p',vs',f1,f2,f3,f4,f5,f6⟩:=zhC (a.grow g) e
 rw [e1] at f1
 cases f1
 exact ⟨p,vs',v,rfl,rfl,f5,by rw [Paired.length f6];exact hz,k F0 Hb F' _ σ own D ((a.grow g).turn e e1 (zbx f6 (.cons qv .nil))) q⟩
theorem zd3 {S:Type} (f:S->γ->S ⊕ β):∀ (xs:List γ) (s:S) (i:Nat) (s':S),loopR f s (xs.take i)=.inl s'->∀ x,xs[i]?=some x->loopR f s (xs.take (i+1))=f s' x
 | [],_,_,_,_,_,h=>by simp at h
 | y :: ys,s,0,s',e,x,h=>by
  simp at h;subst h
  have e':s=s':=by simpa [loopR] using e
  subst e'
  show loopR f s [y]=_
  simp only [loopR]
  cases f s y<;>rfl
 | y :: ys,s,i+1,s',e,x,h=>by
  simp only [List.take_succ_cons,loopR] at e ⊢
  cases q:f s y with
  | inl s1=>rw [q] at e;exact zd3 f ys s1 i s' e x (by simpa using h)
  | inr b=>rw [q] at e;cases e
theorem loopR_more {S:Type} (f:S->γ->S ⊕ β):∀ (xs:List γ) (s:S) (i:Nat) (b:β),loopR f s (xs.take i)=.inr b->loopR f s xs=.inr b
 | [],s,i,b,e=>by simpa using e
 | y :: ys,s,0,b,e=>by simp [loopR] at e
 | y :: ys,s,i+1,b,e=>by
  simp only [List.take_succ_cons,loopR] at e ⊢
  cases q:f s y with
  | inl s1=>rw [q] at e;exact loopR_more f ys s1 i b e
  | inr b'=>rw [q] at e;exact e
def zcw {S:Type} (G:S->Ctx) (res:β->Oc):S ⊕ β->Oc
 | .inl s=>.nx (G s)
 | .inr b=>res b
theorem Grow.rebase {F0 Hb F1 H1 F H:Hp} (g1:Grow F0 Hb F1 H1) (g:Grow F0 Hb F H) (e:Same F1 F):Grow F1 Hb F H :=
 ⟨e,g.fh,g.h,λa h1 h2=>g.no a h1 (g1.f.free h2)⟩
theorem Grow.unbase {F0 Hb F1 H1 F H:Hp} (g1:Grow F0 Hb F1 H1) (g:Grow F1 Hb F H):Grow F0 Hb F H :=
 ⟨g1.f.trans g.f,g.fh,g.h,λa h1 h2=>g.no a h1 (g1.no a h1 h2)⟩
theorem At.rebase {F0 Hb F1 H1 F H:Hp} {σ:St} {own:Nat->Option Addr} (g1:Grow F0 Hb F1 H1) (a:At F0 Hb F H σ own Γ) (e:Same F1 F):At F1 Hb F H σ own Γ:=⟨g1.rebase a.g e,a.inj,a.liv,a.sl,a.len⟩
theorem At.unbase {F0 Hb F1 H1 F H:Hp} {σ:St} {own:Nat->Option Addr} (g1:Grow F0 Hb F1 H1) (a:At F1 Hb F H σ own Γ):At F0 Hb F H σ own Γ:=⟨g1.unbase a.g,a.inj,a.liv,a.sl,a.len⟩
theorem zdz.rebase {F0 Hb F1 H1:Hp} {D:Ends} (g1:Grow F0 Hb F1 H1) (h:zdz E F0 Hb D o):zdz E F1 Hb D o:=by
 cases o with
 | nx Γ=>exact λF H σ own a=>h F H σ own (a.unbase g1)
 | bk Γ=>exact λF H σ own a=>h F H σ own (a.unbase g1)
 | ct Γ=>exact λF H σ own a=>h F H σ own (a.unbase g1)
 | rt m d=>exact λv F H g q=>h v F H (g1.unbase g) q
 | rl m ds=>exact λp vs F H g h1 h2 h3 q=>h p vs F H (g1.unbase g) h1 h2 h3 q
 | ex C Γ=>exact λdct F H σ own a=>h dct F H σ own (a.unbase g1)
 | rw Γ d=>exact λv F H σ own a q=>h v F H σ own (a.unbase g1) q
theorem zgk {S:Type} {wi:TI} {g:TG} {tb:TS} {js:List Nat} {xs:List γ} {bds:γ->List Ds} {mi:Bool} {s0:S} (G:S->Ctx) (res:β->Oc) (f:S->γ->S ⊕ β) (I:Nat->S->Prop) (it:Iv Γ wi g js xs bds mi) (w:Wk Γ (G s0)) (h0:I 0 s0)
  (hres:∀ (b:β) (F0 Hb:Hp) (D D':Ends),D.rt=D'.rt->zdz E F0 Hb D (res b)->zdz E F0 Hb D' (res b))
  (body:∀ (i:Nat) (x:γ) (s:S),xs[i]?=some x->I i s->(∀ s',f s x=.inl s'->I (i+1) s')∧Run E (zhc js (bds x) mi (G s)) tb (zcw G res (f s x))):Run E Γ (zjI wi g tb) (zcw G res (loopR f s0 xs)):=λF0 Hb F H σ own D a q =>
 it F0 Hb F H σ own _ a λJ F1 H1 g1 ok=>by
  have gb:Grow F0 Hb F1 H1:=a.g.trans g1
  refine ⟨λi mm σ H2=>mm=xs.length-i∧i≤xs.length∧∃ s F2 own2,loopR f s0 (xs.take i)=.inl s∧I i s∧At F1 Hb F2 H2 σ own2 (G s),⟨_,rfl,Nat.zero_le _,s0,F1,own,by simp [loopR],h0,((a.grow g1).wk w).rebase gb (Same.refl _)⟩,?_⟩
  rintro i mm σ2 H2 ⟨rfl,hi,s,F2,own2,es,hI,a2⟩
  obtain ⟨hstop,hitem⟩:=ok.up a2.g.f H2 a2.fh
  by_cases hlt:i<xs.length
  ·have hx:xs[i]?=some xs[i]:=List.getElem?_eq_getElem hlt
   obtain ⟨go,yl⟩:=hitem i xs[i] hx
   obtain ⟨hI',hb⟩:=body i _ s hx hI
   have tk:=zd3 f xs s0 i s es _ hx
   refine .inr ⟨go,λσ' H'=>∃ s' F3 own3,f s xs[i]=.inl s'∧At F1 Hb F3 H' σ' own3 (G s'),λσ' H' ⟨s',F3,own3,e3,a3⟩=>⟨xs.length-(i+1),by omega,rfl,hlt,s',F3,own3,by rw [tk,e3],hI' s' e3,a3⟩,λx H' y=>?_⟩
   obtain ⟨g3,bind⟩:=yl x H' y
   refine bind σ2 _ λvs hvs=>?_
   have a3:=(a2.grow g3).setMany (js:=js) hvs
   refine hb F1 Hb F2 H' _ own2 _ a3 ?_
   cases e3:f s xs[i] with
   | inl s'=>exact λF3 H3 σ3 own3 a4=>⟨s',F3,own3,rfl,a4⟩
   | inr b =>
    have:=loopR_more f xs s0 (i+1) b (by rw [tk,e3])
    rw [this] at q
    exact hres b F1 Hb D _ rfl (zdz.rebase (o:=res b) gb q)
  ·have e:i=xs.length:=by omega
   subst e
   rw [List.take_length] at es
   rw [es] at q
   exact .inl ⟨hstop,q F2 H2 σ2 own2 (a2.unbase gb)⟩
end
end L2
namespace L2
open PySem PySem.Spec PyProof.Rows
structure EqD {α:Type} [DecidableEq α] (K:W.Frag) (f:α->Ds) (n:Nat):Prop where
 eq:∀ H x y v w,(f x).pr H v->(f y).pr H w->EqV K H n v w (decide (x=y))
 inj:∀ H x y v,(f x).pr H v->(f y).pr H v->x=y
theorem EqD.int {K:W.Frag} {n:Nat}:EqD K dI n:=⟨λH x y v w h1 h2=>by
 cases h1;cases h2
 have:decide (x=y)=eqV (.int x) (.int y):=Bool.eq_iff_iff.mpr (by unfold eqV;simp)
 rw [this];exact .flat rfl rfl,λH x y v h1 h2=>by cases h1;cases h2;rfl⟩
theorem EqD.bool {K:W.Frag} {n:Nat}:EqD K dB n:=⟨λH x y v w h1 h2=>by
 cases h1;cases h2
 have:decide (x=y)=eqV (.bl x) (.bl y):=by cases x<;>cases y<;>rfl
 rw [this];exact .flat rfl rfl,λH x y v h1 h2=>by cases h1;cases h2;rfl⟩
theorem EqD.str {K:W.Frag} {n:Nat}:EqD K dS n:=⟨λH x y v w h1 h2=>by
 cases h1;cases h2
 have:decide (x=y)=eqV (.str x) (.str y):=Bool.eq_iff_iff.mpr (by unfold eqV;simp)
 rw [this];exact .flat rfl rfl,λH x y v h1 h2=>by cases h1;cases h2;rfl⟩
theorem zir {α:Type} [DecidableEq α] {xs ys:List α} (h:xs.length=ys.length):((List.range xs.length).all λj=>decide (xs[j]?=ys[j]?))=decide (xs=ys):=by
 by_cases e:xs=ys
 ·subst e;simp
 ·rw [decide_eq_false e]
  by_cases z:((List.range xs.length).all λj=>decide (xs[j]?=ys[j]?))=true
  ·exfalso
   apply e
   rw [List.all_eq_true] at z
   refine List.ext_getElem? λj=>?_
   by_cases hj:j<xs.length
   ·simpa using z j (List.mem_range.mpr hj)
   ·rw [List.getElem?_eq_none (by omega),List.getElem?_eq_none (by omega)]
  ·simpa using z
theorem zhf {α:Type} [DecidableEq α] {K:W.Frag} {f:α->Ds} {n:Nat} (E:EqD K f n) {H:Hp} {xs ys:List α} {vs ws:List V} (h1:Paired (λv (d:Ds)=>d.pr H v) vs (xs.map f)) (h2:Paired (λv (d:Ds)=>d.pr H v) ws (ys.map f)) (hl:xs.length=ys.length) :
  ∀ (j:Nat) (x y:V),vs[j]?=some x->ws[j]?=some y->EqV K H n x y (decide (xs[j]?=ys[j]?)):=λj x y e1 e2=>by
 have l1:=Paired.length h1
 have l2:=Paired.length h2
 rw [List.length_map] at l1 l2
 have hj:j<vs.length:=(List.getElem?_eq_some_iff.mp e1).1
 have q1:xs[j]?=some (xs[j]'(by omega)):=List.getElem?_eq_getElem (by omega)
 have q2:ys[j]?=some (ys[j]'(by omega)):=List.getElem?_eq_getElem (by omega)
 obtain ⟨v,ev,rv⟩:=za1 h1 (show (xs.map f)[j]?=some (f (xs[j]'(by omega))) by rw [List.getElem?_map,q1];rfl)
 obtain ⟨w,ew,rw'⟩:=za1 h2 (show (ys.map f)[j]?=some (f (ys[j]'(by omega))) by rw [List.getElem?_map,q2];rfl)
 rw [e1] at ev;rw [e2] at ew
 cases ev;cases ew
 have:=E.eq H _ _ _ _ rv rw'
 rw [q1,q2]
 simpa using this
theorem zeq {α:Type} [DecidableEq α] {K:W.Frag} {f:α->Ds} {n:Nat} (E:EqD K f n) {Γ:Ctx} {ta tb:TE} {m neg:Bool} {xs ys:List α} (h1:Ev Γ ta false (dQ K (xs.map f))) (h2:Ev Γ tb false (dQ K (ys.map f))) (hn:n≤50:=by decide) :
  Ev Γ (tOp (rEqL K neg) ta tb) m (dB (bif neg then !decide (xs=ys) else decide (xs=ys))):=λF0 Hb F H σ own Q a k =>
 h1 F0 Hb F H σ own _ a λu F1 H1 g1 ⟨p,vs,e1,e2,e3⟩=>h2 F0 Hb F1 H1 σ own _ (a.grow g1) λu' F2 H2 g2 ⟨q,ws,d1,d2,d3⟩=>by
  have e2':SqL K H2 p vs:=(g1.fh.trans g2.h).seq e2
  have d2':SqL K H2 q ws:=g2.fh.seq d2
  have e3':=pr_up (ds:=[]) (g1.fh.trans g2.h) e3
  have d3':=pr_up (ds:=[]) g2.fh d3
  have l1:=Paired.length e3'
  have l2:=Paired.length d3'
  rw [List.length_map] at l1 l2
  refine ⟨p,q,n,vs,ws,e1,d1,e2',d2',hn,?_⟩
  by_cases hl:xs.length=ys.length
  ·refine .inr ⟨_,by omega,zhf E e3' d3' hl,k _ F2 H2 (g1.trans g2) ?_⟩
   rw [l1,zir hl]
   cases neg<;>rfl
  ·refine .inl ⟨by omega,k _ F2 H2 (g1.trans g2) ?_⟩
   rw [show decide (xs=ys)=false from decide_eq_false λz=>hl (by rw [z])]
   cases neg<;>rfl
def startC (N:List Str) (ds:List Ds):Ctx:=ds.map (.va false)++List.replicate (N.length-ds.length) .no
def zg5 (n:Nat):Rs->Oc
 | .va m d=>.rt m d
 | .ow m ds=>.rl m ds
 | .ex C=>.ex C (List.replicate n .no)
theorem zfl {F H:Hp} {N:List Str} {vs:List V} {ds:List Ds} (hF:Same F H) (hv:Paired (λv (d:Ds)=>d.pr F v) vs ds):At F H F H (start N vs) (λ_=>none) (startC N ds):=by
 have hl:=Paired.length hv
 refine ⟨Grow.refl hF,λ_ _ _ h=>(nomatch h),λ_ _ h=>(nomatch h),λi s e=>?_,by unfold start startC;simp [hl]⟩
 unfold startC at e
 unfold start
 by_cases hi:i<ds.length
 ·rw [List.getElem?_append_left (by simpa using hi),List.getElem?_map] at e
  rw [List.getElem?_append_left (by simpa [hl] using hi),List.getElem?_map]
  obtain ⟨v,ev,rv⟩:=za1 hv (List.getElem?_eq_getElem hi)
  rw [List.getElem?_eq_getElem hi] at e
  have e':Slot.va false ds[i]=s:=Option.some.inj e
  subst e'
  exact ⟨v,by rw [ev];rfl,rv⟩
 ·rw [List.getElem?_append_right (by simpa using hi),List.getElem?_replicate] at e
  split at e
  ·cases e;trivial
  ·cases e
def ResOk (H F:Hp) (Q:VK) (E:XK):Rs->Prop
 | .ex C=>∀ dct F' H',Grow F H F' H'->E (.ref C) dct H'
 | .va m d=>∀ v F' H',Grow F H F' H'->d.pr (part m F' H) v->Q v H'
 | .ow m ds=>∀ p ws F' H',Grow F H F' H'->H p=none->F' p=none->H' p=some (.lst ws)->Paired (λv (d:Ds)=>d.pr (part m F' H) v) ws ds->Q (.ref p) H'
theorem zge {E:XK} {F H:Hp} {N:List Str} {vs:List V} {ds:List Ds} {Q:VK} {t:TS} {r:Rs} (hF:Same F H) (hv:Paired (λv (d:Ds)=>d.pr F v) vs ds) (hq:ResOk H F Q E r) (h:Run (λ_=>E) (startC N ds) t (zg5 N.length r)):t { nx:=λ_ H'=>Q .non H',rt:=Q } (start N vs) H:=by
 refine h F H F H _ _ _ (zfl hF hv) ?_
 cases r with
 | va m d=>exact λv F' H' g q=>hq v F' H' g q
 | ow m ds=>exact λp ws F' H' g h1 h2 h3 q=>hq p ws F' H' g h1 h2 h3 q
 | ex C=>exact λdct F' H' σ own a=>hq dct F' H' a.g
theorem zfq {E:XK} {F H:Hp} {N:List Str} {vs:List V} {ds:List Ds} {Q:VK} {t:TS} {m:Bool} {Δ:Ctx} (hF:Same F H) (hv:Paired (λv (d:Ds)=>d.pr F v) vs ds) (hq:ResOk H F Q E (.va m dN)) (h:Run (λ_=>E) (startC N ds) t (.nx Δ)):t { nx:=λ_ H'=>Q .non H',rt:=Q } (start N vs) H :=
 h F H F H _ _ _ (zfl hF hv) λF' H' σ own a=>hq _ F' H' a.g rfl
section
variable {P:Program} {w:World} {K:W.Frag} {mg:Str->Option Value} {base:Heap} {x qual:Str} {st:Stmt} {f:Addr} {fd:FuncData} {N ps:List Str} {k:Nat}
theorem Fun.okV {ι:Type} {args:ι->List Ds} {pre:ι->Prop} {res:ι->Rs} (F:Fun K x qual st f fd) (S:FnScope N ps (defScope st)) (hl:∀ i,(args i).length=ps.length)
  (hbody:∀ (cdv:Value) (A:Around) (outer:List Env) (s:Shared) (H:Hp) (E:XK) (i:ι),Room k (A.deeper (envOfC qual (defScope st) s.heap.objs.size f cdv))->pre i →
   ∃ t,PSs (ze2 (CXE P w) P w K mg base N qual (defScope st) f cdv A outer s H E).nox (zap st) t∧(Run (λ_=>E) (startC N (args i)) t (zg5 N.length (res i))∨∃ m Δ,res i=.va m dN∧Run (λ_=>E) (startC N (args i)) t (.nx Δ))):FnOk P w K mg base (CXE P w) (k+1) f fd ps (Spv args pre res):=by
 refine F.okX S (λvs H Q E ⟨i,F',_,hv,_⟩=>by rw [Paired.length hv];exact hl i) λcdv A outer s H vs Q E hr ⟨i,F',hF,hv,hp,hq⟩=>?_
 obtain ⟨t,h1,h2⟩:=hbody cdv A outer s H E i hr hp
 have hq':ResOk H F' Q E (res i):=by
  cases e:res i with
  | va m d=>rw [e] at hq;exact hq
  | ow m ds=>rw [e] at hq;exact hq
  | ex C=>rw [e] at hq;exact hq
 refine ⟨_,zeO h1,?_⟩
 rcases h2 with h2 | ⟨m,Δ,e,h2⟩
 ·exact zge hF hv hq' h2
 ·rw [e] at hq'
  exact zfq hF hv hq' h2
end
def putD (f:Str) (d:Ds):List (Str×Ds)->List (Str×Ds)
 | []=>[(f,d)]
 | (g,x) :: r=>if g=f then (g,d) :: r else (g,x) :: putD f d r
theorem zd6 {R:V->Ds->Prop} {f:Str} {v:V} {d:Ds} (h:R v d):∀ {vs:List (Str×V)} {fs:List (Str×Ds)},Paired (λ(a:Str×V) (b:Str×Ds)=>a.1=b.1∧R a.2 b.2) vs fs->Paired (λ(a:Str×V) (b:Str×Ds)=>a.1=b.1∧R a.2 b.2) (putF f v vs) (putD f d fs)
 | _,_,.nil=>.cons ⟨rfl,h⟩ .nil
 | _,_,.cons (a:=(x,u)) (b:=(y,e)) ⟨h1,h2⟩ t=>by
  have h1:x=y:=h1
  subst h1
  unfold putF putD
  split
  ·exact .cons ⟨rfl,h⟩ t
  ·exact .cons ⟨rfl,h2⟩ (zd6 h t)
theorem zic {Γ:Ctx} {i:Nat} {m:Bool} {C p dx:Addr} {fs:List (Str×Ds)} {K:W.Frag} {tv:TE} {d:Ds} {f:Str} {u:TS} {o:Oc} {E:XS} (e:Γ[i]?=some (.ob m C p dx fs)) (h:Ev Γ tv m d) (c:Cls K C) (nf:NoAttr K C f) (hz:fs.length<1000) (k:Run E (Γ.set i (.ob m C p dx (putD f d fs))) u o):Run E Γ (tSeq (zjQ K (tVar i) tv f) u) o:=λF0 Hb F H σ own D a q=>by
 refine h F0 Hb F H σ own _ a λv F' H' g qv=>?_
 have a':=a.grow g
 obtain ⟨vs,e1,e2,e3,e4,e5,e6⟩:=a'.sl i _ e
 have hi:i<σ.length:=by rw [a.len];exact (List.getElem?_eq_some_iff.mp e).1
 rw [List.getElem?_eq_getElem hi] at e1
 have e':σ[i]=some (.ref p):=e1
 have ei:σ[i]?=some (some (.ref p)):=by rw [List.getElem?_eq_getElem hi,e']
 exact ⟨_,ei,p,C,dx,vs,rfl,e5.1,c,nf,by rw [Paired.length e6];exact hz,k F0 Hb F' _ σ own D (a'.turnOb e (zd6 (R:=λv (d:Ds)=>d.pr (part m F' Hb) v) qv e6)) q⟩
def ziA {ι:Type} (C:Addr) (args:ι->List Ds) (pre:ι->Prop) (m:Bool) (fs:ι->List (Str×Ds)):Sp:=λvs H Q _=>∃ (i:ι) (p dx:Addr) (ws:List V) (H1 F:Hp),vs=.ref p :: ws∧H1 p=none∧H1 dx=none∧dx≠p∧H=upd (upd H1 dx (.own p)) p (.ins C dx [])∧Same F H1 ∧
 Paired (λv (d:Ds)=>d.pr F v) ws (args i)∧pre i∧∀ us F' H',Grow F H1 F' H'->F' p=none->F' dx=none->H' p=some (.ins C dx us)->H' dx=some (.own p)->Paired (λ(a:Str×V) (b:Str×Ds)=>a.1=b.1∧b.2.pr (part m F' H1) a.2) us (fs i)->Q .non H'
def startI (m:Bool) (C p dx:Addr) (N:List Str) (ds:List Ds):Ctx:=.ob m C p dx [] :: (ds.map (.va false)++List.replicate (N.length-(ds.length+1)) .no)
section
variable {P:Program} {w:World} {K:W.Frag} {mg:Str->Option Value} {base:Heap} {x qual:Str} {st:Stmt} {f:Addr} {fd:FuncData} {N ps:List Str} {k:Nat}
theorem zeS {m:Bool} {F H1:Hp} {C p dx:Addr} {N:List Str} {ws:List V} {ds:List Ds} (hF:Same F H1) (hv:Paired (λv (d:Ds)=>d.pr F v) ws ds) (h1:H1 p=none) (h2:H1 dx=none) (h3:dx≠p) :
  At F H1 F (upd (upd H1 dx (.own p)) p (.ins C dx [])) (start N (.ref p :: ws)) (λi=>if i=0 then some p else none) (startI m C p dx N ds):=by
 have hl:=Paired.length hv
 have n1:upd H1 dx (.own p) p=none:=by rw [upd_ne (Ne.symm h3)];exact h1
 have g:Grow F H1 F (upd (upd H1 dx (.own p)) p (.ins C dx [])):=((Grow.refl hF).newH h2).newH n1
 refine ⟨g,λi j q e1 e2=>?_,λi q e=>?_,λi s e=>?_,?_⟩
 ·split at e1
  ·split at e2
   ·omega
   ·cases e2
  ·cases e1
 ·split at e
  ·cases e;rw [upd_same];simp
  ·cases e
 ·cases i with
  | zero =>
   have e':Slot.ob m C p dx []=s:=Option.some.inj e
   subst e'
   exact ⟨[],rfl,rfl,⟨hF.free h1,hF.free h2⟩,⟨h1,h2⟩,⟨upd_same,by rw [upd_ne h3];exact upd_same⟩,.nil⟩
  | succ i =>
   have e:(ds.map (Slot.va false)++List.replicate (N.length-(ds.length+1)) Slot.no)[i]?=some s:=e
   show zde H1 F _ _ _ ((ws.map some++List.replicate (N.length-(ws.length+1)) none)[i]?).join s
   by_cases hi:i<ds.length
   ·rw [List.getElem?_append_left (by simpa using hi),List.getElem?_map] at e
    rw [List.getElem?_append_left (by simpa [hl] using hi),List.getElem?_map]
    obtain ⟨v,ev,rv⟩:=za1 hv (List.getElem?_eq_getElem hi)
    rw [List.getElem?_eq_getElem hi] at e
    have e':Slot.va false ds[i]=s:=Option.some.inj e
    subst e'
    exact ⟨v,by rw [ev];rfl,rv⟩
   ·rw [List.getElem?_append_right (by simpa using hi),List.getElem?_replicate] at e
    split at e
    ·cases e;trivial
    ·cases e
 ·unfold start startI;simp [hl]
theorem Fun.okI {ι:Type} {C:Addr} {args:ι->List Ds} {pre:ι->Prop} {m:Bool} {fs:ι->List (Str×Ds)} (F:Fun K x qual st f fd) (S:FnScope N ps (defScope st)) (hl:∀ i,(args i).length+1=ps.length)
  (hbody:∀ (cdv:Value) (A:Around) (outer:List Env) (s:Shared) (H:Hp) (E:XK) (i:ι),Room k (A.deeper (envOfC qual (defScope st) s.heap.objs.size f cdv))->pre i →
   ∃ t,PSs (ze2 (CXE P w) P w K mg base N qual (defScope st) f cdv A outer s H E).nox (zap st) t∧∀ p dx,∃ Δ,Run (λ_=>E) (startI m C p dx N (args i)) t (.nx Δ)∧Δ[0]?=some (.ob m C p dx (fs i))):FnOk P w K mg base (CXE P w) (k+1) f fd ps (ziA C args pre m fs):=by
 refine F.okX S (λvs H Q E ⟨i,p,dx,ws,H1,F',e,_,_,_,_,_,hv,_⟩=>by rw [e,List.length_cons,Paired.length hv];exact hl i) λcdv A outer s H vs Q E hr ⟨i,p,dx,ws,H1,F',e,h1,h2,h3,h4,hF,hv,hp,hq⟩=>?_
 subst e h4
 obtain ⟨t,t1,t2⟩:=hbody cdv A outer s _ E i hr hp
 obtain ⟨Δ,t2,t3⟩:=t2 p dx
 refine ⟨_,zeO t1,?_⟩
 refine t2 F' H1 F' _ _ _ _ (zeS hF hv h1 h2 h3) λF2 H2 σ2 own2 a2=>?_
 obtain ⟨us,e1,e2,e3,e4,e5,e6⟩:=a2.sl 0 _ t3
 exact hq us F2 H2 a2.g e3.1 e3.2 e5.1 e5.2 e6
end
section
variable {Γ:Ctx} {K:W.Frag} {ds:List Ds} {tr:TA} {E:XK}
theorem zec {ι:Type} {C:Addr} {args:ι->List Ds} {pre:ι->Prop} {m:Bool} {fs:ι->List (Str×Ds)} (i:ι) (h:EvA Γ tr false ds) (ha:ds=args i) (hp:pre i):Ev Γ (zjq C (ziA C args pre m fs) [] E tr) m (dO C (fs i)):=λF0 Hb F H σ own Q a k=>by
 subst ha
 refine h F0 Hb F H σ own _ a λvs F1 H1 g1 q1 p dx h1 h2 h3=>⟨i,p,dx,vs,H1,F1,by rw [List.append_nil],h1,h2,h3,rfl,g1.fh,q1,hp,λus F' H' g n1 n2 e1 e2 e3=>⟨rfl,?_⟩⟩
 have g2:=g1.trans g
 obtain ⟨p0,_,pb⟩:=a.free g1 h1
 obtain ⟨d0,_,db⟩:=a.free g1 h2
 have g3:=(g2.take p0 e1).take d0 e2
 have s1:Same F' (upd F' p (.ins C dx us)):=Same.new n1 _
 have n3:upd F' p (.ins C dx us) dx=none:=by rw [upd_ne h3];exact n2
 have s2:Same F' (upd (upd F' p (.ins C dx us)) dx (.own p)):=s1.trans (Same.new n3 _)
 refine k _ _ _ g3 ⟨p,dx,us,rfl,zcU pb (by rw [upd_ne (Ne.symm h3)];exact upd_same),zcU db upd_same,?_⟩
 exact zbM (λ_ b q=>⟨q.1,b.2.up ((zcW (a.g.h.trans g1.h)).trans (part_up s2)) q.2⟩) e3
end
end L2
namespace L2
open PySem PySem.Spec PyProof.Rows
section
variable {X:Cx} {K:W.Frag}
end
section
variable {X:Cx} {K:W.Frag}
end
section
variable {Γ:Ctx} {m:Bool} {K:W.Frag} {γ:Type}
end
end L2
namespace L2
open PySem PySem.Spec PyProof.Rows
theorem Ev.any {Γ:Ctx} {t:TE} {m n:Bool} {v:V} (h:Ev Γ t m (dV v)):Ev Γ t n (dV v):=λF0 Hb F H σ own Q a k=>h F0 Hb F H σ own Q a λu F' H' g q=>k u F' H' g q
theorem zgB {α:Type} {R R':Hp} {g:α->V} {vs:List V} {xs:List α} (h:Paired (λv (d:Ds)=>d.pr R v) vs (xs.map λx=>dV (g x))):Paired (λv (d:Ds)=>d.pr R' v) vs (xs.map λx=>dV (g x)):=by
 rw [zc5 h]
 clear h
 induction xs with
 | nil=>exact .nil
 | cons x xs ih=>exact .cons rfl ih
theorem EvO.anyV {Γ:Ctx} {t:TE} {m n:Bool} {α:Type} {g:α->V} {xs:List α} (h:EvO Γ t m (xs.map λx=>dV (g x))):EvO Γ t n (xs.map λx=>dV (g x)):=λF0 Hb F H σ own Q a k=>h F0 Hb F H σ own Q a λp vs F' H' g h1 h2 h3 q=>k p vs F' H' g h1 h2 h3 (zgB q)
theorem EvO.anyI {Γ:Ctx} {t:TE} {m n:Bool} {xs:List Int} (h:EvO Γ t m (xs.map dI)):EvO Γ t n (xs.map dI):=EvO.anyV h
theorem EvO.anyB {Γ:Ctx} {t:TE} {m n:Bool} {xs:List Bool} (h:EvO Γ t m (xs.map dB)):EvO Γ t n (xs.map dB):=EvO.anyV h
theorem EvO.anyS {Γ:Ctx} {t:TE} {m n:Bool} {xs:List Str} (h:EvO Γ t m (xs.map dS)):EvO Γ t n (xs.map dS):=EvO.anyV h
section
variable {X:Cx}
def zei (i j:Int):Prop:=(-(2^64)<i∧i<2^64)∨(-(2^64)<j∧j<2^64)∨(i.natAbs.log2<60000000∧j.natAbs.log2<60000000)
theorem zgc {a b:Int} (ha:Builtin.Int.intBits a≤60000000) (hb:Builtin.Int.intBits b≤60000000):IntMulOk a b:=by
 have h:Builtin.Int.intTooBig (Builtin.Int.intBits a+Builtin.Int.intBits b)=false:=by
  unfold Builtin.Int.intTooBig bitsLine
  exact decide_eq_false (by omega)
 unfold IntMulOk
 rw [h]
 simp
theorem zcQ:OpR X (binaryOp .Mult) (rI zei λi j=>.int (i*j)):=opI λ_ _ _ _ _ _ _ hc q=>mul_int q (by
 rcases hc with h | h | h
 ·exact .of_left (intBits_le_64 h.1 h.2)
 ·exact .of_right (intBits_le_64 h.1 h.2)
 ·exact zgc (zgC h.1) (zgC h.2))
end
def ixD {α:Type} [Inhabited α] (xs:List α) (i:Int):α:=(atI xs i).getD default
def InB (n:Nat) (i:Int):Prop:=-(n:Int)≤i∧i<n
theorem zgi {n:Nat} {i:Int} (h:InB n i):∃ j,ixN n i=some j∧j<n∧(0≤i->j=i.toNat):=by
 unfold InB at h
 unfold ixN
 by_cases h0:0≤i
 ·rw [if_pos h0,if_pos h.2];exact ⟨_,rfl,by omega,λ_=>rfl⟩
 ·rw [if_neg h0,if_pos h.1];exact ⟨_,rfl,by omega,λz=>absurd z h0⟩
theorem zhH {α:Type} [Inhabited α] {xs:List α} {i:Int} (h:InB xs.length i):atI xs i=some (ixD xs i):=by
 obtain ⟨j,e,hj,_⟩:=zgi h
 unfold ixD atI
 rw [e]
 show xs[j]?=some (xs[j]?.getD default)
 rw [List.getElem?_eq_getElem hj];rfl
theorem zhM {α:Type} [Inhabited α] {xs:List α} {i:Int} (h:InB xs.length i):ixD xs i∈xs:=by
 have:=zhH h
 unfold atI at this
 obtain ⟨j,e,hj,_⟩:=zgi h
 rw [e] at this
 exact List.mem_of_getElem? this
def setZ {α:Type} (xs:List α) (i:Int) (x:α):List α:=match ixN xs.length i with
 | some n=>xs.set n x
 | none=>xs
def zh1 {α:Type} (n:Int) (xs:List α):List α:=(List.replicate n.toNat xs).flatten
def zdh {α:Type} (f:α->Ds):Option α->Ds
 | none=>dN
 | some x=>f x
def NN {α:Type} (f:α->Ds):Prop:=∀ x H v,(f x).pr H v->v≠.non
theorem NN.lst {α:Type} {f:α->Ds}:NN (λxs:List α=>dL (xs.map f)):=λ_ _ _ ⟨_,_,e,_⟩=>by rw [e];simp
theorem NN.tup {α:Type} {f:α->List Ds}:NN (λx=>dT (f x)):=λ_ _ _ ⟨_,_,e,_⟩=>by rw [e];simp
theorem NN.obj {α:Type} {C:Addr} {f:α->List (Str×Ds)}:NN (λx=>dO C (f x)):=λ_ _ _ ⟨_,_,_,e,_⟩=>by rw [e];simp
section
variable {E:XS} {Γ:Ctx} {m:Bool} {K:W.Frag} {α β γ:Type} {f:α->Ds} {t ta tb te:TE} {u r:TS} {o:Oc} {xs ys:List α} {i:Nat}
theorem zaQ [Inhabited α] {j:Int} (h1:Ev Γ ta m (dQ K (xs.map f))) (h2:Ev Γ tb false (dI j)) (h:InB xs.length j):Ev Γ (tOp (zjF K) ta tb) m (f (ixD xs j)):=zjV h1 h2 (zhQ (zhH h))
theorem zbz {n:Bool} (h1:Ev Γ t false (dQ K (xs.map f))):Ev Γ (tCB (λxs H Q=>∃ p ys,xs=[.ref p]∧(SqL K H p ys∨SqT K H p ys)∧Q (.int ys.length) H) (tCons t tNil)) n (dI (xs.length:Nat)):=(zjc h1).conv (by rw [List.length_map])
theorem zdX {tl th:TO} {lo hi:Option Int} (h1:Ev Γ t m (dQ K (xs.map f))) (h2:EvP Γ tl lo) (h3:EvP Γ th hi):EvO Γ (tSl (zjA K) t tl th) m ((zcB xs lo hi).map f):=(zjh h1 h2 h3).conv zgZ.symm
theorem zck (h1:Ev Γ ta m (dL (xs.map f))) (h2:Ev Γ tb m (dL (ys.map f))) (hz:xs.length+ys.length≤sizeLine):EvO Γ (tOp zjP ta tb) m ((xs++ys).map f):=(zi6 h1 h2 (by rw [List.length_map,List.length_map];exact hz)).conv (List.map_append ..).symm
theorem zdQ {n:Nat}:(List.replicate n (xs.map f)).flatten=((List.replicate n xs).flatten).map f:=by
 induction n with
 | zero=>rfl
 | succ n ih=>rw [List.replicate_succ,List.replicate_succ,List.flatten_cons,List.flatten_cons,List.map_append,ih]
theorem zig {n:Int} (h1:Ev Γ ta m (dL (xs.map f))) (h2:Ev Γ tb false (dI n)) (hn:-(2^63)≤n∧n<2^63) (hz:xs.length*n.toNat≤sizeLine):EvO Γ (tOp zjU ta tb) m ((zh1 n xs).map f):=(ziX h1 h2 hn (by rw [List.length_map];exact hz)).conv zdQ
theorem zdK {x:α} (e:Γ[i]?=some (.ow m (xs.map f))) (h:Ev Γ te m (f x)) (hz:xs.length<sizeLine) (k:Run E (Γ.set i (.ow m ((xs++[x]).map f))) u o):Run E Γ (tSeq (tDrop (tBM K "list" rAppend (tVar i) (tCons te tNil))) u) o :=
 zfV e h (by rw [List.length_map];exact hz) (by rw [List.map_append] at k;exact k)
theorem ze7 {d1 d2:Ds} {i j:Nat} (h:Ev Γ te m (dT [d1,d2])) (k:Run E ((Γ.set i (.va m d1)).set j (.va m d2)) u o):Run E Γ (tSeq (zhj te (ziS K 2 (ze1 (zcM i) (ze1 (zcM j) zjC)))) u) o:=λF0 Hb F H σ own D a q =>
 h F0 Hb F H σ own _ a λv F' H' g ⟨p,vs,e1,e2,e3⟩=>by
  cases e3 with | cons q1 t=>cases t with | cons q2 t=>cases t;exact ⟨p,_,e1,.inl (.inl ((part_sub.trans g.fh) _ _ e2)),rfl,_,_,rfl,_,_,rfl,rfl,k F0 Hb F' H' _ own D (((a.grow g).set i q1).set j q2) q⟩
theorem zgy {x:α} (G:α->Ctx) (fo:β->Oc) {kk:α->β} (k:∀ y,y=x->Run E (G y) u (fo (kk y))):Run E (G x) u (fo (Let x kk)):=k x rfl
def zh2 (o:Oc):Prop:=(∃ m d,o=.rt m d)∨(∃ m ds,o=.rl m ds)∨∃ C Γ,o=.ex C Γ
theorem zh2.meets (h:zh2 o) {F0 Hb:Hp} {D D':Ends} (e:D.rt=D'.rt) (q:zdz E F0 Hb D o):zdz E F0 Hb D' o:=by
 rcases h with ⟨m,d,rfl⟩ | ⟨m,ds,rfl⟩ | ⟨C,Γ',rfl⟩
 ·exact λv F H g p=>e ▸ q v F H g p
 ·exact λp vs F H g h1 h2 h3 h4=>e ▸ q p vs F H g h1 h2 h3 h4
 ·exact q
def ziy {S:Type} (x:S ⊕ β) (k:S->α) (w:β->α):α:=match x with
 | .inl s=>k s
 | .inr b=>w b
theorem zfk {f:Str} {d:Ds}:∀ {fs:List (Str×Ds)} {ns:List Str},fs.map Prod.fst=ns->ns.contains f=false->putD f d fs=fs++[(f,d)]
 | [],_,_,_=>rfl
 | (g,e) :: r,_,rfl,h=>by
  have h':f≠g∧f ∉ r.map Prod.fst:=by simpa using h
  unfold putD
  rw [if_neg (Ne.symm h'.1),zfk rfl (by simpa using h'.2)]
  rfl
theorem zel {C p dx:Addr} {fs:List (Str×Ds)} {tv:TE} {d:Ds} {f:Str} (e:Γ[i]?=some (.ob m C p dx fs)) (h:Ev Γ tv m d) (c:Cls K C) (nf:NoAttr K C f) (ns:List Str) (hns:fs.map Prod.fst=ns) (hn:ns.contains f=false) (hz:ns.length<1000) (k:Run E (Γ.set i (.ob m C p dx (fs++[(f,d)]))) u o) :
  Run E Γ (tSeq (zjQ K (tVar i) tv f) u) o:=zic e h c nf (by rw [← List.length_map (f:=Prod.fst),hns];exact hz) (by rw [zfk hns hn];exact k)
theorem zd2 {S:Type} (f:S->γ->S):∀ (xs:List γ) (s:S),loopR (β:=Empty) (λs x=>.inl (f s x)) s xs=.inl (xs.foldl f s)
 | [],_=>rfl
 | x :: xs,s=>zd2 f xs (f s x)
theorem zez {S:Type} {f:S->γ->S} {I:Nat->S->Prop}:∀ {xs:List γ} {s:S} {n:Nat},I n s->(∀ (i:Nat) (x:γ) (s:S),xs[i]?=some x->I (n+i) s->I (n+i+1) (f s x))->I (n+xs.length) (xs.foldl f s)
 | [],s,n,h,_=>h
 | x :: xs,s,n,h,k=>by
  have h1:=k 0 x s rfl h
  have:=zez (xs:=xs) (s:=f s x) (n:=n+1) h1 λi y s' e q=>by
   have:=k (i+1) y s' (by simpa using e) (by rw [show n+(i+1)=n+1+i by omega];exact q)
   rw [show n+1+i+1=n+(i+1)+1 by omega];exact this
  rw [List.length_cons,show n+(xs.length+1)=n+1+xs.length by omega]
  exact this
theorem zfw {S:Type} {wi:TI} {g:TG} {tb:TS} {js:List Nat} {xs:List γ} {bds:γ->List Ds} {mi:Bool} {s0:S} (G:S->Ctx) (fo:β->Oc) {kk:S->β} (f:S->γ->S) (I:Nat->S->Prop) (it:Iv Γ wi g js xs bds mi) (w:Wk Γ (G s0)) (h0:I 0 s0)
  (body:∀ (i:Nat) (x:γ) (s:S),xs[i]?=some x->I i s->I (i+1) (f s x)∧Run E (zhc js (bds x) mi (G s)) tb (.nx (G (f s x)))) (k:∀ s,s=xs.foldl f s0->I xs.length s->Run E (G s) u (fo (kk s))):Run E Γ (tSeq (zjI wi g tb) u) (fo (Let (xs.foldl f s0) kk)):=by
 refine zgF (Δ:=G (xs.foldl f s0)) ?_ (k _ rfl (by simpa using zez (n:=0) (I:=I) h0 λi x s e q=>by rw [Nat.zero_add] at q ⊢;exact (body i x s e q).1))
 have:=zgk (β:=Empty) G (λz=>z.elim) (λs x=>.inl (f s x)) I it w h0 (λb=>b.elim) λi x s e q=>⟨λs' z=>by cases z;exact (body i x s e q).1,(body i x s e q).2⟩
 rw [zd2] at this
 exact this
theorem zes {S:Type} {f:S->γ->S ⊕ β} {I:Nat->S->Prop}:∀ {xs:List γ} {s s':S} {n:Nat},I n s->(∀ (i:Nat) (x:γ) (s:S),xs[i]?=some x->I (n+i) s->∀ s',f s x=.inl s'->I (n+i+1) s')->loopR f s xs=.inl s'->I (n+xs.length) s'
 | [],s,s',n,h,_,e=>by cases e;exact h
 | x :: xs,s,s',n,h,k,e=>by
  unfold loopR at e
  cases q:f s x with
  | inr b=>rw [q] at e;cases e
  | inl s1 =>
   rw [q] at e
   have h1:=k 0 x s rfl h s1 q
   have:=zes (xs:=xs) (s:=s1) (n:=n+1) h1 (λi y s' e q=>by
    have:=k (i+1) y s' (by simpa using e) (by rw [show n+(i+1)=n+1+i by omega];exact q)
    rw [show n+1+i+1=n+(i+1)+1 by omega];exact this) e
   rw [List.length_cons,show n+(xs.length+1)=n+1+xs.length by omega]
   exact this
theorem zeg {S:Type} {wi:TI} {g:TG} {tb:TS} {js:List Nat} {xs:List γ} {bds:γ->List Ds} {mi:Bool} {s0:S} (G:S->Ctx) (fo:α->Oc) (wr:β->α) {kk:S->α} (f:S->γ->S ⊕ β) (I:Nat->S->Prop) (hres:∀ b,zh2 (fo (wr b))) (it:Iv Γ wi g js xs bds mi) (w:Wk Γ (G s0)) (h0:I 0 s0)
  (body:∀ (i:Nat) (x:γ) (s:S),xs[i]?=some x->I i s->(∀ s',f s x=.inl s'->I (i+1) s')∧Run E (zhc js (bds x) mi (G s)) tb (zcw G (λb=>fo (wr b)) (f s x))) (k:∀ s,loopR f s0 xs=.inl s->I xs.length s->Run E (G s) u (fo (kk s))):Run E Γ (tSeq (zjI wi g tb) u) (fo (ziy (loopR f s0 xs) kk wr)):=by
 have h:=zgk G (λb=>fo (wr b)) f I it w h0 (λb F0 Hb D D' e q=>(hres b).meets e q) body
 cases e:loopR f s0 xs with
 | inl s =>
  rw [e] at h
  exact zgF h (k s e (by simpa using zes (n:=0) h0 (λi x s e q=>by rw [Nat.zero_add] at q ⊢;exact (body i x s e q).1) e))
 | inr b =>
  rw [e] at h
  exact λF0 Hb F H σ own D a q=>h F0 Hb F H σ own _ a ((hres b).meets (D:=D) rfl (show zdz E F0 Hb D (fo (wr b)) from q))
end
end L2
namespace L2
open PySem PySem.Spec PyProof.Rows PySem.Builtin PySem.Builtin.Getset_descriptor
structure XCls (K:W.Frag) (C:Addr):Prop where
 ga:W.findIn K (.ref C) "__getattribute__"=some (some (.builtin "BaseException.__getattribute__"))
 gn:W.findIn K (.ref C) "__getattr__"=some none
 cl:W.findIn K (.ref C) "__class__"=some (some (.builtin "object.__class__"))
 ob:W.mroIn K C (.type "object")=some true
 be:W.mroIn K C (.type "BaseException")=some true
 gt:W.specialIn K (.builtin "object.__class__") "__get__"=some (some (.builtin "getset_descriptor.__get__"))
 tk:W.takesIn K (.builtin "object.__class__")=some true
def XAt (h:Heap) (a C:Addr):Prop:=∃ o vs,h.get? a=some o∧o.cls=.ref C∧o.data=.fields vs
section
variable {prog:Program} {w:World} {A:Around} {E:Value->Shared->Prop} {K:W.Frag} {C a:Addr} {h:Heap} {g:Array GenState} {d:Drawn} {t:Nat} {os:OsState}
theorem XAt.ty {M:Model} (x:XAt h a C):W.Looks M h (typeOf (.ref a)) (.ref C):=by
 obtain ⟨o,vs,hx,hc,hd⟩:=x
 exact hc ▸ (W.Looks.ld hx).andThen .now
theorem zfd {tp:Value} {R:Result->Shared->Prop} (X:K.In h) (c:XCls K C) (x:XAt h a C) (hr:R (.ok (.ret (.ref C))) ⟨h,g,d,t,os⟩) :
  codeAny (model prog w) A (.call (.builtin "getset_descriptor.__get__") ⟨[.builtin "object.__class__",.ref a,tp],[]⟩) R ⟨h,g,d,t,os⟩:=by
 have L0:=x.ty (M:=model prog w)
 have L1:=W.looks_mroIn (M:=model prog w) X c.ob
 refine codeAny_call_builtin W.KF.slot_gs.plain W.KF.entry_gs (W.KF.slot_gs.check _ _ _ _ _ _ _ _ W.KF.type_class (W.KF.args_gs _ _ _) ?_)
 unfold Builtin.«getset_descriptor.__get__»
 unfold descrGet
 rw [W.dga_obj]
 refine wpAny_bind (wpAny_pure ?_)
 unfold descrGetter
 unfold descrCheckInstance descrNameAndClass
 unfold isInstance
 simp only [W.KF.owner_class]
 repeat (any_goals (first | assumption | with_reducible refine wpAny_bind (L0.at ?_) | with_reducible refine wpAny_bind (L1.at ?_) | with_reducible refine L0.at ?_ | with_reducible refine L1.at ?_ | wp_step))
 refine ⟨Code.quiet_builtin _ (by decide +kernel),codeAny_builtin (W.KF.entry_class) ?_⟩
 unfold Builtin.«object.__class__»
 unfold shownTypeOf
 repeat (any_goals (first | assumption | with_reducible refine wpAny_bind (L0.at ?_) | with_reducible refine L0.at ?_ | wp_step))
theorem zgv {tk:Tok} {Q:Fin->Shared->Prop} (X:K.In h) (c:XCls K C) (x:XAt h a C) (hq:Q (.done (.ret (.ref C))) ⟨h,g,d,t,os⟩) :
  wpAny (model prog w) A (Builtin.«object.__getattribute__» ⟨[.ref a,.str "__class__" tk],[]⟩) Q E ⟨h,g,d,t,os⟩:=by
 have L0:=x.ty (M:=model prog w)
 have L1:=W.looks_findIn (M:=model prog w) X c.cl
 have L2:=W.looks_specialIn (M:=model prog w) X c.gt
 have L3:=W.looks_takesIn (M:=model prog w) X c.tk
 unfold Builtin.«object.__getattribute__»
 repeat (any_goals (first | assumption | with_reducible refine wpAny_bind (L0.at ?_) | with_reducible refine wpAny_bind (L1.at ?_) | with_reducible refine wpAny_bind (L2.at ?_) | with_reducible refine wpAny_bind (L3.at ?_) | wp_step))
 refine zfd X c x ?_
 repeat (any_goals (first | assumption | wp_step))
theorem zgq {nameV:Value} {Q:Unit->Shared->Prop} (X:K.In h) (c:XCls K C) (x:XAt h a C) (hq:Q () ⟨h,g,d,t,os⟩):wpAny (model prog w) A (checkBuiltinCall "BaseException.__getattribute__" ⟨[.ref a,nameV],[]⟩) Q E ⟨h,g,d,t,os⟩:=by
 have hk:builtinKind "BaseException.__getattribute__"=some .slot:=by decide +kernel
 have hsplit:splitId "BaseException.__getattribute__"=some ("BaseException","__getattribute__"):=by decide +kernel
 have L0:=x.ty (M:=model prog w)
 have L1:=W.looks_mroIn (M:=model prog w) X c.be
 have LI:W.Looks (model prog w) h (isInstance (.ref a) (.type "BaseException")) true:=L0.andThen L1
 have ha:=F.args_bexc_ga (.ref a) nameV
 simp only [checkBuiltinCall,hk,hsplit]
 refine wpAny_bind (LI.at ?_)
 repeat (any_goals (first | assumption | wp_step))
 all_goals (try exact hq)
theorem zi9 {tk:Tok} {fill expr:Bool} {Q:Value->Shared->Prop} (X:K.In h) (c:XCls K C) (x:XAt h a C) (hq:Q (.ref C) ⟨h,g,d,t,os⟩) :
  wpAny (model prog w) A (getAttrBy (.ref a) (.str "__class__" tk) fill expr) Q E ⟨h,g,d,t,os⟩:=by
 have L0:=x.ty (M:=model prog w)
 have L1:=W.looks_findIn (M:=model prog w) X c.ga
 have L2:=W.looks_findIn (M:=model prog w) X c.gn
 have f3:=(PySem.F.attr_ValueError.ga).bind (.ref a)
 have hx0:(expr&&onTheHeap (Value.builtin "BaseException.__getattribute__"))=false:=by cases expr<;>rfl
 have hx2:(Value.builtin "BaseException.__getattribute__" == Value.builtin "object.__getattribute__")=false:=by decide +kernel
 have hx1:(onTheHeap (Value.ref C)&&Value.builtin "BaseException.__getattribute__" == Value.builtin "object.__getattribute__")=false:=by rw [hx2];rfl
 unfold getAttrBy
 repeat (any_goals (first | assumption | with_reducible refine wpAny_bind (L0.at ?_) | with_reducible refine wpAny_bind (L1.at ?_) | with_reducible refine wpAny_bind (L2.at ?_) | wp_step))
 refine codeAny_call_builtin PySem.F.attr_ValueError.ga.plain F.entry_bexc_ga (zgq X c x (zgv X c x ?_))
 repeat (any_goals (first | assumption | wp_step))
theorem zg1 {Q:Option Value->Shared->Prop} (X:K.In h) (c:XCls K C) (x:XAt h a C) (hq:Q (some (.ref C)) ⟨h,g,d,t+1,os⟩) :
  wpAny (model prog w) A (getAttr? (.ref a) "__class__") Q E ⟨h,g,d,t,os⟩:=by
 unfold getAttr? getAttrBy?
 repeat (any_goals (first | assumption | with_reducible apply zi9 X c x | wp_step))
end
theorem cls_at {K:W.Frag} {C:Addr} {T:Value} {r:Bool} (e:W.mroIn K C T=some r):∃ c d cd sl,K.lookup C=some ⟨c,d,.cls cd,sl⟩:=by
 obtain ⟨cd,hc,_⟩:=Option.bind_eq_some_iff.mp e
 unfold W.clsIn at hc
 split at hc
 ·exact ⟨_,_,_,_,by assumption⟩
 ·cases hc
theorem kitx_exc {K:W.Frag} {a C:Addr} (c:XCls K C):W.KitX K (.ref a) (.ref C) (λh=>XAt h a C) where
 ty:=λ_ _ _ x=>x.ty
 it:=λM h X _=>by
  obtain ⟨c',d',cd',sl',ho⟩:=cls_at c.ob
  intro A' Q' E' s' k q
  unfold isType loadHead
  exact wpAny_bind (wpAny_loadPart (k _ _ (X _ _ ho)) (wpAny_pure q))
 ne:=λh tp dd its n sl X htp=>by
  obtain ⟨c',d',cd',sl',ho⟩:=cls_at c.ob
  refine Bool.eq_false_iff.mpr λq=>?_
  have e:C=tp:=Value.ref.inj (beq_iff_eq.mp q)
  subst e
  have z:=(X _ _ ho).symm.trans htp
  cases z
 ca:=λ{prog w A E Q s} X x k=>by
  obtain ⟨h,g,d,t,os⟩:=s
  exact zg1 X c x k
def excO (a C:Addr) (fs:List (Str×V)):HO:=.ext λh=>∃ o vs,h.get? a=some o∧o.cls=.ref C∧o.data=.fields vs∧fs=[]
theorem excO_ok {P:Program} {w:World} {H:Hp} {h:Heap} {a C:Addr} (x:XAt h a C):zbX P w H h a (excO a C []):=by
 obtain ⟨o,vs,hx,hc,hd⟩:=x
 refine ⟨⟨o,vs,hx,hc,hd,rfl⟩,⟨o,hx⟩,λh1 h2 ⟨o',vs',q1,q2,q3,q4⟩ k=>⟨o',vs',k _ q1,q2,q3,q4⟩⟩
section
variable {X:Cx} {K:W.Frag}
theorem zgG (hK:X.K=K):zc6 X (.builtin "isinstance") (λxs H Q=>∃ a C c b,(xs=[.ref a,c])∧H a=some (excO a C [])∧XCls K C∧(∃ u,RelV c u∧(∀ u',RelV c u'->u'=u)∧W.kitOne K (.ref C) u=some b)∧Q (.bl b) H):=by
 subst hK
 intro pins s σ H xs us Q I r h
 obtain ⟨a,C,c,b,rfl,ha,hc,⟨u,hu,hu2,hk⟩,q⟩:=h
 obtain ⟨v,w',rfl,rx,ry⟩:=zhr r
 cases rx
 rw [hu2 w' ry]
 obtain ⟨⟨o,vs,h1,h2,h3,_⟩,_⟩:=(show zbX X.prog X.w H s.heap a (excO a C []) from I.hok a _ ha)
 exact W.kia_one (kitx_exc hc) I.kIn ⟨o,vs,h1,h2,h3⟩ hk (λz=>nomatch z) λtk=>⟨.bl b,H,I.tok _,rfl,q⟩
end
end L2
namespace L2
open PySem PySem.Spec PyProof.Rows
section
variable {X:Cx} {pins:List (Addr×Obj)} {σ:St} {H:Hp} {s:Shared}
theorem Inv.locals {h':Heap} {t':Nat} {m':Str->Option Value} {σ':St} (I:Inv X pins σ H s) (hs:Heap.SameBut X.env.locals s.heap h') (hn':h'.Ns X.env.locals m')
  (hl:∀ (j:Nat) (y:Str) (v:V),X.N[j]?=some y->σ'[j]?=some (some v)->Vis X.env.scope y->∃ u,RelV v u∧zj5 X.env h' m' y u) (len:σ'.length=X.N.length):Inv X pins σ' H { s with heap:=h',toks:=t' }:=by
 have lt:∀ b o,X.s₀.heap.get? b=some o->b≠X.env.locals:=λb o e=>Nat.ne_of_lt (Nat.lt_of_lt_of_le (Heap.lt_size e) I.ok.above)
 refine ⟨I.ok,I.os,I.bare,⟨λb o e n hb hx=>(hs.2 b (lt b o e)).trans (I.base.keep b o e n hb hx),λb o e n hb hx=>?_,I.base.free,λb o e hx=>?_,I.base.tups,I.base.frzs,I.base.tbls⟩,⟨m',hn',hl⟩,λy c e=>?_,I.free,I.freeC,λp hp=>?_,λb u e=>?_,len⟩
 ·obtain ⟨sl,q⟩:=I.base.slot b o e n hb hx
  exact ⟨sl,(hs.2 b (lt b o e)).trans q⟩
 ·obtain ⟨o',q⟩:=I.base.there b o e hx
  exact ⟨o',(hs.2 b (lt b o e)).trans q⟩
 ·obtain ⟨w',z⟩:=I.cell y c e
  exact ⟨w',z.sameBut hs (I.cne y c e)⟩
 ·obtain ⟨e,n,ne,nf,d⟩:=I.pin p hp
  exact ⟨(hs.2 p.1 ne).trans e,n,ne,nf,d⟩
 ·refine (I.hok b u e).stay (λc v hc q=>(hs.2 c ?_).trans q) (λ_ q=>q) λ_ _ q=>q
  intro z
  have z':=I.free
  rw [← z] at z'
  rcases hc with hc | hc
  ·rw [hc,e] at z';cases z'
  ·rw [hc] at z';cases z'
theorem goes_ok {M:Model} {A:Around} {E:Value->Shared->Prop} {i:Nat} {n:Str} {pos:Pos} {Q:Unit->Shared->Prop} (I:Inv X pins σ H s) (hN:X.N.Nodup) (hi:X.N[i]?=some n) (hloc:X.env.scope.names.lookup n=some .local)
  (h:∀ s',Inv X pins (σ.set i none) H s'->Q () s'):wpAny M A (do bindName X.env n .none;unbindBehindTheSuite X.env n pos) Q E s:=by
 have hcls:(X.env.scope.kind == .class||(X.env.scope.kind == .module&&X.env.locals != X.env.globals))=false:=by rw [I.ok.kind];rfl
 have hk:X.env.kindOf n=some .local:=hloc
 have hiσ:i<σ.length:=by rw [I.len];exact (List.getElem?_eq_some_iff.mp hi).1
 refine wpAny_bind (wpAny_bindName (store_ok I hN hi (.inl hloc) (v:=.non) (u:=.none) rfl (λs1 I1=>?_) (.inr hloc)))
 obtain ⟨m,hn,hl⟩:=id I1.loc
 have hm:m n=some .none:=by
  obtain ⟨u,r,q⟩:=hl i n .non hi (List.getElem?_set_self hiσ) (.inl hloc)
  have r:u=Value.none:=r
  subst r
  rcases q with ⟨_,e⟩ | ⟨k,_⟩
  ·exact e
  ·rw [hk] at k;rcases k with k | k<;>cases k
 unfold unbindBehindTheSuite
 refine wpAny_onRaise ?_
 unfold unbindName
 refine wpAny_bind (wpAny_point (wpAny_bind ?_))
 unfold deleteName
 simp only [hk,hcls]
 rw [if_neg (by decide)]
 refine wpAny_bind (wpAny_nsDel_keeps hn λh2 v hn2 hs2=>?_)
 rw [hm]
 simp only [Option.isSome_some,Bool.not_true,Bool.false_eq_true,if_false]
 refine wpAny_pure (wpAny_point (h { s1 with heap:=h2 } (I1.locals (t':=s1.toks) hs2 hn2 (λj y v' e1 e2 e3=>?_) (by simp [I.len]))))
 by_cases hj:i=j
 ·subst hj
  rw [List.getElem?_set_self hiσ] at e2;cases e2
 ·rw [List.getElem?_set_ne hj] at e2
  obtain ⟨u',r',q⟩:=hl j y v' e1 (by rw [List.getElem?_set_ne hj];exact e2) e3
  have hy:y≠n:=λe=>hj (nodup_ix hN hi (e ▸ e1))
  refine ⟨u',r',?_⟩
  rcases q with ⟨k,e⟩ | ⟨k,c,e,z⟩
  ·exact .inl ⟨k,by simp [hy,e]⟩
  ·exact .inr ⟨k,c,e,z.sameBut hs2 (I.cne y c e)⟩
theorem Inv.track {e C:Addr} (I:Inv X pins σ H s) (x:XAt s.heap e C) (hn:H e=none) (hF:Fz X pins e):Inv X pins σ (upd H e (excO e C [])) s:=by
 obtain ⟨o,vs,hx,hc,hd⟩:=id x
 obtain ⟨_,a2,a3,a4,a5⟩:=exc_apart I hx hd hn hF
 refine ⟨I.ok,I.os,I.bare,⟨I.base.keep,I.base.slot,λb o' q n hx=>?_,I.base.there,λb xs q=>?_,λb o' u q=>?_,λb ps q=>?_⟩,I.loc,I.cell,?_,λy c q=>?_,λp hp=>?_,λb u q=>?_,I.len⟩
 ·have hb:b≠e:=λz=>by rw [z,a2] at q;cases q
  rw [upd_ne hb];exact I.base.free b o' q n hx
 ·have q1:=I.base.tups b xs q
  rw [upd_ne (ne_of_none q1 hn)];exact q1
 ·have q1:=I.base.frzs b o' u q
  rw [upd_ne (ne_of_none q1 hn)];exact q1
 ·obtain ⟨more,q1⟩:=I.base.tbls b ps q
  exact ⟨more,by rw [upd_ne (ne_of_none q1 hn)];exact q1⟩
 ·rw [upd_ne (Ne.symm a3)];exact I.free
 ·rw [upd_ne (a4 y c q)];exact I.freeC y c q
 ·obtain ⟨q1,q2,q3,q4,q5⟩:=I.pin p hp
  exact ⟨q1,by rw [upd_ne (a5 p hp)];exact q2,q3,q4,q5⟩
 ·by_cases hb:b=e
  ·subst hb;rw [upd_same] at q;cases q;exact excO_ok x
  ·rw [upd_ne hb] at q
   exact (I.hok b u q).stay (λ_ _ _ z=>z) (λc z=>by rw [upd_ne (ne_of_none z hn)];exact z) λc xs z=>by rw [upd_ne (ne_of_none z hn)];exact z
abbrev Cx.marked (X:Cx) (e:Addr):Cx:={ X with A:=X.A.mark (some (.ref e)),calm:=false,xe:=λ_ _=>False }
theorem Inv.marked {e:Addr} (I:Inv X pins σ H s):Inv (X.marked e) pins σ H s :=
 ⟨⟨I.ok.mod,I.ok.kind,I.ok.glob,I.ok.blt,I.ok.above,I.ok.inj,I.ok.has,I.ok.cab,(λz=>(nomatch z)),I.ok.frames,I.ok.stk,I.ok.exf,I.ok.bs,I.ok.bsz,I.ok.noex,I.ok.exfs,I.ok.funs,I.ok.frf⟩,I.os,I.bare,I.base,I.loc,I.cell,I.free,I.freeC,I.pin,I.hok,I.len⟩
theorem Inv.unmarked {e:Addr} (I:Inv (X.marked e) pins σ H s) (ok:X.Ok):Inv X pins σ H s :=
 ⟨ok,I.os,I.bare,I.base,I.loc,I.cell,I.free,I.freeC,I.pin,I.hok,I.len⟩
end
section
variable {X:Cx} {K:W.Frag}
theorem zil {body:List Stmt} {tb:TSX} {cn n x:Str} {CS:Addr} {i j:Nat} {p1 p2 p3 p4 p5 pos:Pos} (O:Own X) (hK:X.K=K) (hN:X.N.Nodup) (hn:X.N[i]?=some n) (hln:X.env.scope.names.lookup n=some .local) (hx:X.N[j]?=some x) (hlx:Loc X.env.scope x)
  (hfx:X.fn x=true∨X.env.scope.names.lookup x=some .local) (hg:Gl X cn) (hm:X.mg cn=some (.ref CS)) (hb:zeU X body tb) (hd:(n == ("__debug__":Str))=false:=by decide) (hcd:(n == ("__classdict__":Str))=false:=by decide)
  (hdb:(cn == ("__debug__":Str))=false:=by decide) (hsw:swapsWith (.Name n p3) (some (.Name x p2)) p4.line X.env=pure false:=by rfl) :
  PSX X (.Try body [.ExceptHandler (some (.Name cn p1)) (some n) [.Assign [.Name x p2] (.Name n p3) p4] p5] [] [] pos)
   (λD _ σ H=>tb D (λσ' cls _ H'=>∃ C,cls=.ref C∧W.exmOne K (.ref C) (.ref CS)=some true∧∀ a,H' a=none->D.nx ((σ'.set j (some (.ref a))).set i none) (upd H' a (excO a C []))) σ H):=by
 subst hK
 intro pins s σ H D E I h
 refine wpAny_Try_except (wpAny_mono (hb pins s σ H D _ I h) (λf s1 q=>?_) λev s1 q=>?_)
 ·cases f with
  | next=>exact wpAny_execs_nil q
  | ret v=>exact q
  | brk=>exact q
  | cont=>exact q
 ·obtain ⟨σ',e,cls,dct,H',rfl,I1,x1,C,rfl,hC,q⟩:=q
  refine note_exc O I1 x1 rfl λs2 I2 x2=>?_
  refine zdq (fr:=none) O I2 x2 λs3 I3 x3=>?_
  obtain ⟨oe,vs,a0,y1,y2,y3,y4,y5,y6,y7,y8,_⟩:=id x3
  have xa:XAt s3.heap e C:=⟨oe,vs,y1,y2,y4⟩
  refine wpAny_handleBy_cons (codeAny_handlers_test ?_) (by intro z;cases z)
  refine ld_glob (X:=X.marked e) I3.marked hg hm ?_ hdb
  refine (W.exm_one I3.kIn xa.ty hC).at ?_
  refine codeAny_handlers_suite_as ?_
  refine zdq (fr:=none) O I3 x3 λs4 I4 x4=>?_
  obtain ⟨oe,vs,a0,y1,y2,y3,y4,y5,y6,y7,y8,_⟩:=id x4
  have I5:=I4.track ⟨oe,vs,y1,y2,y4⟩ y7 y8
  refine store_ok I5 hN hn (.inl hln) (v:=.ref e) rfl (λs6 I6=>?_) (.inr hln)
  have hset:PS (X.marked e) (.Assign [.Name x p2] (.Name n p3) p4) (zhj (tVar i) (zcM j)):=zaB hN hx hlx (pe_var hn (.inl hln) hd hcd) hsw hfx
  have hiσ:i<σ'.length:=by rw [I1.len];exact (List.getElem?_eq_some_iff.mp hn).1
  refine wpAny_mono ((zhX hset) pins s6 _ _ { nx:=λσ'' H''=>σ''=(σ'.set i (some (.ref e))).set j (some (.ref e))∧H''=upd H' e (excO e C []),rt:=λ_ _=>False } I6.marked ⟨.ref e,List.getElem?_set_self hiσ,rfl,rfl⟩) (λf s7 q7=>?_) λ_ _ z=>z.elim
  cases f with
  | ret v=>obtain ⟨_,_,_,_,_,z⟩:=q7;exact z.elim
  | brk=>obtain ⟨_,_,_,z⟩:=q7;exact z.elim
  | cont=>obtain ⟨_,_,_,z⟩:=q7;exact z.elim
  | next =>
   obtain ⟨σ7,H7,I7,rfl,rfl⟩:=q7
   show wpAny _ _ _ _ _ s7
   refine goes_ok (I7.unmarked I.ok) hN hn hln λs8 I8=>?_
   have eσ:((σ'.set i (some (V.ref e))).set j (some (.ref e))).set i none=(σ'.set j (some (.ref e))).set i none:=by
    by_cases hij:i=j
    ·subst hij;simp
    ·refine List.ext_getElem? λk=>?_
     by_cases h1:i=k
     ·subst h1
      rw [List.getElem?_set_self (by simpa using hiσ),List.getElem?_set_self (by simpa using hiσ)]
     ·rw [List.getElem?_set_ne h1,List.getElem?_set_ne h1]
      by_cases h2:j=k
      ·subst h2
       by_cases h3:j<σ'.length
       ·rw [List.getElem?_set_self (by simpa using h3),List.getElem?_set_self h3]
       ·rw [List.getElem?_eq_none (by simp;omega),List.getElem?_eq_none (by simp;omega)]
      ·rw [List.getElem?_set_ne h2,List.getElem?_set_ne h2,List.getElem?_set_ne h1]
   rw [eσ] at I8
   exact ⟨_,_,I8,q e y7⟩
end
end L2
namespace L2
open PySem PySem.Spec PyProof.Rows
abbrev atE (E:XS) (t:TSX):TS:=λD σ H=>t D E σ H
abbrev zi1 (t:TS):TSX:=λD _ σ H=>t D σ H
abbrev zkj (t u:TSX):TSX:=λD E σ H=>tSeq (atE E t) (atE E u) D σ H
abbrev ifX (c:TT) (t u:TSX):TSX:=λD E σ H=>ziz c (atE E t) (atE E u) D σ H
def zhD (ta:TA) (C:Addr) (E:XS):TS:=λ_ σ H=>ta σ H λvs H1=>vs.length≤sizeLine∧E σ (.ref C) none H1
def zhv (te:TEX) (E:XS):TS:=λD σ H=>te σ H (λ_ H1=>D.nx σ H1) (E σ)
def zi7 (te:TEX) (E:XS):TS:=λD σ H=>te σ H D.rt (E σ)
def ziG (te:TEX) (i:Nat) (E:XS):TS:=λD σ H=>te σ H (λv H1=>D.nx (σ.set i (some v)) H1) (E σ)
def callX (sp:Sp) (t:TA):TEX:=λσ H Q E=>t σ H λvs H1=>sp (vs++[]) H1 Q E
def zj2 (K:W.Frag) (CS:Addr) (i j:Nat) (tb:TSX):TS:=λD σ H=>tb D (λσ' cls _ H'=>∃ C,cls=.ref C∧W.exmOne K (.ref C) (.ref CS)=some true∧∀ a,H' a=none->D.nx ((σ'.set j (some (.ref a))).set i none) (upd H' a (excO a C []))) σ H
section
variable {X:Cx} {K:W.Frag} {e:Expr} {st:Stmt} {rest:List Stmt} {pos:Pos}
theorem zb0:zeU X [] (zi1 zhh):=zhi
theorem zaG {t u:TSX} (h1:PSX X st t) (h2:zeU X rest u):zeU X (st :: rest) (zkj t u):=zgb (t:=t) (u:=u) h1 h2
theorem zcN {t:TS} (h:PS X.nox st t):PSX X st (zi1 t):=zg2 h
theorem zhS {c:Expr} {a b:List Stmt} {tc:TT} {t u:TSX} (hc:PT X.nox c tc) (ha:zeU X a t) (hb:zeU X b u):PSX X (.If c a b pos) (ifX tc t u):=ziR (t:=t) (u:=u) hc ha hb
theorem zib {te:TEX} (he:PEX X e te) (hs:swapsWith e none pos.line X.env=pure false:=by rfl):PSX X (.Expr e pos) (λD E σ H=>zhv te E D σ H):=zhg he hs
theorem zfm {te:TEX} (he:PEX X e te):PSX X (.Return (some e) pos) (λD E σ H=>zi7 te E D σ H):=zh5 he
theorem zhB {i:Nat} {x:Str} {te:TEX} {pos':Pos} (hN:X.N.Nodup) (hi:X.N[i]?=some x) (hx:Loc X.env.scope x) (he:PEX X e te) (hs:swapsWith e (some (.Name x pos')) pos.line X.env=pure false:=by rfl)
  (hf:X.fn x=true∨X.env.scope.names.lookup x=some .local:=by first | exact .inl rfl | exact .inr rfl | assumption):PSX X (.Assign [.Name x pos'] e pos) (λD E σ H=>ziG te i E D σ H):=zh4 hN hi hx he hs hf
theorem xe_fn {k:Nat} {ps:List Str} {sp:Sp} {x:Str} {p:Pos} {es:List Expr} {t:TA} (O:Own X) (F:Callee X.prog X.w X.K X.mg X.base (CXE X.prog X.w) k x ps sp) (hr:Room k X.A) (hg:Gl X x)
  (ha:PA X.nox (e :: es) t) (hdb:(x == ("__debug__":Str))=false:=by decide) (he:starEach (e :: es) X.env=(false,eval e X.env) :: starEach es X.env:=by rfl) (hpl:(backTo pos (starEach es X.env)).any (·.1)=false:=by rfl) :
  PEX X (.Call (.Name x p) (e :: es) [] pos) (callX sp t):=zjS O F hr hg ha hdb he hpl
theorem zfy {C:Addr} {B newId initId:String} {bmB:List Value} {x:Str} {es:List Expr} {t:TA} {np cpos:Pos} (O:Own X) (hc:X.calm=true) (hg:Gl X x) (hm:X.mg x=some (.ref C)) (hK:W.excIn X.K C bmB newId=true) (FB:ExcBaseFacts B newId initId bmB)
  (ha:PA X.nox (e :: es) t) (hdb:(x == ("__debug__":Str))=false:=by decide) (he:starEach (e :: es) X.env=(false,eval e X.env) :: starEach es X.env:=by rfl) (hpl:(backTo cpos (starEach es X.env)).any (·.1)=false:=by rfl) :
  PSX X (.Raise (some (.Call (.Name x np) (e :: es) [] cpos)) none pos) (λD E σ H=>zhD t C E D σ H):=zga O hc hg hm hK FB ha hdb he hpl
theorem zhL {body:List Stmt} {tb:TSX} {cn n x:Str} {CS:Addr} {i j:Nat} {p1 p2 p3 p4 p5:Pos} (O:Own X) (hK:X.K=K) (hN:X.N.Nodup) (hn:X.N[i]?=some n) (hln:X.env.scope.names.lookup n=some .local) (hx:X.N[j]?=some x) (hlx:Loc X.env.scope x)
  (hfx:X.fn x=true∨X.env.scope.names.lookup x=some .local) (hg:Gl X cn) (hm:X.mg cn=some (.ref CS)) (hb:zeU X body tb) (hd:(n == ("__debug__":Str))=false:=by decide) (hcd:(n == ("__classdict__":Str))=false:=by decide)
  (hdb:(cn == ("__debug__":Str))=false:=by decide) (hsw:swapsWith (.Name n p3) (some (.Name x p2)) p4.line X.env=pure false:=by rfl) :
  PSX X (.Try body [.ExceptHandler (some (.Name cn p1)) (some n) [.Assign [.Name x p2] (.Name n p3) p4] p5] [] [] pos) (λD _ σ H=>zj2 K CS i j tb D σ H):=zil O hK hN hn hln hx hlx hfx hg hm hb hd hcd hdb hsw
end
def dE (C:Addr):Ds:=⟨λH v=>∃ a,v=.ref a∧H a=some (excO a C []),λe ⟨a,h1,h2⟩=>⟨a,h1,e _ _ h2⟩⟩
def za0 {ε:Type} (f:ε->Bool) (x:Option ε):Bool:=match x with
 | none=>false
 | some e=>f e
def zeK (K:W.Frag):List V->Hp->VK->Prop:=λxs H Q=>zjY K xs H Q∨∃ a C c b,(xs=[.ref a,c])∧H a=some (excO a C [])∧XCls K C∧(∃ u,RelV c u∧(∀ u',RelV c u'->u'=u)∧W.kitOne K (.ref C) u=some b)∧Q (.bl b) H
theorem call_isiB {X:Cx} {K:W.Frag} (hK:X.K=K):zc6 X (.builtin "isinstance") (zeK K):=λpins s σ H xs us Q I r h=>by
 rcases h with h | h
 ·exact zf3 hK pins s σ H xs us Q I r h
 ·exact zgG hK pins s σ H xs us Q I r h
section
variable {E:XS} {Γ Δ Γx:Ctx} {m:Bool} {K:W.Frag} {α β ε:Type} {u:TS} {o:Oc} {ds:List Ds}
theorem zaY {xc:ε->Addr} {x:Option ε} {ta:TE} {C:Addr} {f:ε->Bool} (h:Ev Γ ta false (zdh (λe=>dE (xc e)) x)) (h0:W.kitOne K (.type "NoneType") (.ref C)=some false) (h1:∀ e,XCls K (xc e)∧W.kitOne K (.ref (xc e)) (.ref C)=some (f e)) :
  Ev Γ (tCB (zeK K) (tCons ta (tCons (tC (.ref C)) tNil))) m (dB (za0 f x)):=λF0 Hb F H σ own Q a k =>
 h F0 Hb F H σ own _ a λv F1 H1 g1 q1=>by
  cases x with
  | none =>
   have q1:v=.non:=q1
   subst q1
   exact .inl ⟨.non,.type "NoneType",false,.inr ⟨C,rfl,h0⟩,.non,k _ F1 H1 g1 rfl⟩
  | some e =>
   obtain ⟨p,rfl,hp⟩:=q1
   exact .inr ⟨p,xc e,.ref C,f e,rfl,(part_sub.trans g1.fh) _ _ hp,(h1 e).1,⟨.ref C,rfl,λu' z=>z,(h1 e).2⟩,k _ F1 H1 g1 rfl⟩
theorem zgR {xc:ε->Addr} {x:Option ε} {ta:TE} {T:String} {f:ε->Bool} (h:Ev Γ ta false (zdh (λe=>dE (xc e)) x)) (h0:W.kitOne K (.type "NoneType") (.type T)=some false) (h1:∀ e,XCls K (xc e)∧W.kitOne K (.ref (xc e)) (.type T)=some (f e)) :
  Ev Γ (tCB (zeK K) (tCons ta (tCons (tC (.ty T)) tNil))) m (dB (za0 f x)):=λF0 Hb F H σ own Q a k =>
 h F0 Hb F H σ own _ a λv F1 H1 g1 q1=>by
  cases x with
  | none =>
   have q1:v=.non:=q1
   subst q1
   exact .inl ⟨.non,.type "NoneType",false,.inl ⟨T,rfl,h0⟩,.non,k _ F1 H1 g1 rfl⟩
  | some e =>
   obtain ⟨p,rfl,hp⟩:=q1
   exact .inr ⟨p,xc e,.ty T,f e,rfl,(part_sub.trans g1.fh) _ _ hp,(h1 e).1,⟨.type T,rfl,λu' z=>z,(h1 e).2⟩,k _ F1 H1 g1 rfl⟩
theorem zhT {ta:TE} {T:String} {b:Bool} (h:Ev Γ ta false (dL ds)) (hk:W.kitOne K (.type "list") (.type T)=some b):Ev Γ (tCB (zeK K) (tCons ta (tCons (tC (.ty T)) tNil))) m (dB b):=λF0 Hb F H σ own Q a k =>
 h F0 Hb F H σ own _ a λv' F1 H1 g1 ⟨p,vs,e1,e2,e3⟩=>by
  subst e1
  exact .inl ⟨.ref p,_,b,.inl ⟨T,rfl,hk⟩,.lst (g1.fh _ _ e2),k _ F1 H1 g1 rfl⟩
def foX (xc:ε->Addr) (Γx:Ctx) (fo:β->Oc):Except ε β->Oc
 | .ok v=>fo v
 | .error e=>.ex (xc e) Γx
def zf5 (r:Except ε α) (k:α->Except ε β):Except ε β:=match r with
 | .ok v=>k v
 | .error e=>.error e
theorem zeG {C:Addr} {ta:TA} (h:EvA Γ ta m ds) (hz:ds.length≤sizeLine) (w:Wk Γ Γx):Run E Γ (tSeq (zhD ta C E) u) (.ex C Γx):=λF0 Hb F H σ own D a q =>
 h F0 Hb F H σ own _ a λvs F1 H1 g1 q1=>⟨by rw [Paired.length q1];exact hz,q none F1 H1 σ own ((a.grow g1).wk w)⟩
def zfN (xc:ε->Addr) (m:Bool) (d:α->Ds):Except ε α->Rs
 | .ok v=>.va m (d v)
 | .error e=>.ex (xc e)
theorem zis {CS:Addr} {i j:Nat} {tb:TSX} {xc:ε->Addr} {r:Except ε α} (Gok:α->Ctx) (Gerr:Ctx) (Gj:Except ε α->Ctx) (hb:∀ E',Run E' Γ (atE E' tb) (foX xc Gerr (λv=>.nx (Gok v)) r))
  (w1:∀ v,r=.ok v->Wk (Gok v) (Gj r)) (w2:∀ e,r=.error e->W.exmOne K (.ref (xc e)) (.ref CS)=some true∧Wk ((Gerr.set j (.va true (dE (xc e)))).set i .no) (Gj r)) (k:Run E (Gj r) u o) :
  Run E Γ (tSeq (zj2 K CS i j tb) u) o:=λF0 Hb F H σ own D a q=>by
 refine hb _ F0 Hb F H σ own { D with nx:=u D } a ?_
 cases r with
 | ok v=>exact λF1 H1 σ1 own1 a1=>k F0 Hb F1 H1 σ1 own1 D (a1.wk (w1 v rfl)) q
 | error e =>
  refine λdct F1 H1 σ1 own1 a1=>⟨xc e,rfl,(w2 e rfl).1,λx hx=>?_⟩
  obtain ⟨h1,h2,h3⟩:=a1.free (Grow.refl a1.fh) hx
  have g2:Grow F1 H1 (upd F1 x (excO x (xc e) [])) (upd H1 x (excO x (xc e) [])):=(Grow.refl a1.fh).new hx
  have a2:=(a1.grow g2).set j (m:=true) (d:=dE (xc e)) (v:=.ref x) ⟨x,rfl,zcU h3 upd_same⟩
  refine k F0 Hb (upd F1 x (excO x (xc e) [])) _ _ own1 D (At.wk ?_ (w2 e rfl).2) q
  exact ⟨a2.g,a2.inj,a2.liv,λl s es=>by
   by_cases z:i=l
   ·subst z
    have hi:i<(Gerr.set j (.va true (dE (xc e)))).length:=by simpa using (List.getElem?_eq_some_iff.mp es).1
    rw [List.getElem?_set_self hi] at es
    cases es;trivial
   ·rw [List.getElem?_set_ne z] at es
    have:=a2.sl l s es
    rw [List.getElem?_set_ne z]
    exact this,by simp [a1.len]⟩
end
section
variable {E:XS} {Γ:Ctx} {K:W.Frag} {α β ε:Type} {u:TS}
def okO (r:Except ε α):Option α:=match r with
 | .ok v=>some v
 | .error _=>none
def ziw (r:Except ε α):Option ε:=match r with
 | .ok _=>none
 | .error e=>some e
theorem zfE {CS:Addr} {i j:Nat} {tb:TSX} {xc:ε->Addr} {r:Except ε α} (Gok:α->Ctx) (Gerr:Ctx) (Gj:Except ε α->Ctx) (fo:β->Oc) {kk:Except ε α->β} (hb:∀ E',Run E' Γ (atE E' tb) (foX xc Gerr (λv=>.nx (Gok v)) r))
  (w1:∀ v,Wk (Gok v) (Gj (.ok v))) (w2:∀ e,W.exmOne K (.ref (xc e)) (.ref CS)=some true∧Wk ((Gerr.set j (.va true (dE (xc e)))).set i .no) (Gj (.error e))) (k:∀ y,y=r->Run E (Gj y) u (fo (kk y))) :
  Run E Γ (tSeq (zj2 K CS i j tb) u) (fo (Let r kk)) :=
 zis Gok Gerr Gj hb (λv e=>by rw [e];exact w1 v) (λe' e=>by rw [e];exact w2 e') (k r rfl)
theorem zcL {xc:ε->Addr} {m:Bool} {d:α->Ds} {n:Nat} {r:Except ε α}:zg5 n (zfN xc m d r)=foX xc (List.replicate n .no) (λv=>.rt m (d v)) r:=by cases r<;>rfl
end
theorem exm_of {K:W.Frag} {C CS:Addr} (h1:W.subIn K (.ref CS) (.type "BaseException")=some true) (h2:W.mroIn K CS (.type "object")=some true) (h3:W.typeIn K (.ref CS)=some (.type "type")) (h4:W.subIn K (.ref C) (.ref CS)=some true):W.exmOne K (.ref C) (.ref CS)=some true:=by
 unfold W.exmOne
 rw [h1,if_pos (by simp)]
 unfold W.kitCls
 obtain ⟨cd,hc,_⟩:=Option.bind_eq_some_iff.mp h2
 dsimp only
 rw [hc,h3,if_pos (by simp),h4]
section
variable {P:Program} {w:World} {K:W.Frag} {mg:Str->Option Value} {base:Heap} {x qual:Str} {st:Stmt} {f:Addr} {fd:FuncData} {N ps:List Str} {k:Nat}
theorem Fun.okVX {ι:Type} {args:ι->List Ds} {pre:ι->Prop} {res:ι->Rs} (F:Fun K x qual st f fd) (S:FnScope N ps (defScope st)) (hl:∀ i,(args i).length=ps.length)
  (hbody:∀ (cdv:Value) (A:Around) (outer:List Env) (s:Shared) (H:Hp) (E:XK) (i:ι),Room k (A.deeper (envOfC qual (defScope st) s.heap.objs.size f cdv))->pre i->Own (ze2 (CXE P w) P w K mg base N qual (defScope st) f cdv A outer s H E) →
   ∃ t,zeU (ze2 (CXE P w) P w K mg base N qual (defScope st) f cdv A outer s H E) (zap st) t∧(Run (λ_=>E) (startC N (args i)) (atE (λ_=>E) t) (zg5 N.length (res i))∨∃ m Δ,(∀ C,res i≠.ex C)∧res i=.va m dN∧Run (λ_=>E) (startC N (args i)) (atE (λ_=>E) t) (.nx Δ))) :
  FnOk P w K mg base (CXE P w) (k+1) f fd ps (Spv args pre res):=by
 refine F.okX S (λvs H Q E ⟨i,F',_,hv,_⟩=>by rw [Paired.length hv];exact hl i) λcdv A outer s H vs Q E hr ⟨i,F',hF,hv,hp,hq⟩=>?_
 obtain ⟨t,h1,h2⟩:=hbody cdv A outer s H E i hr hp ⟨rfl,rfl,rfl⟩
 have hq':ResOk H F' Q E (res i):=by
  cases e:res i with
  | va m d=>rw [e] at hq;exact hq
  | ow m ds=>rw [e] at hq;exact hq
  | ex C=>rw [e] at hq;exact hq
 refine ⟨t,h1,?_⟩
 rcases h2 with h2 | ⟨m,Δ,_,e,h2⟩
 ·exact zge (t:=atE (λ_=>E) t) hF hv hq' h2
 ·rw [e] at hq'
  exact zfq (t:=atE (λ_=>E) t) hF hv hq' h2
end
end L2
namespace L2
open PySem PySem.Spec PyProof.Rows
def EvN (Γ:Ctx) (t:TE) (d:Ds):Prop:=∀ (F0 Hb F H:Hp) (σ:St) (own:Nat->Option Addr) (Q:VK),At F0 Hb F H σ own Γ->(∀ v F' H',Grow F H F' H'->d.pr (off F' H) v->Q v H')->t σ H Q
def zkg:Slot->Slot
 | .va _ d=>.va false d
 | _=>.no
def zjB (Γ:Ctx):Ctx:=Γ.map zkg
theorem At.now {F0 Hb F H:Hp} {σ:St} {own:Nat->Option Addr} {Γ:Ctx} (a:At F0 Hb F H σ own Γ):At F H F H σ (λ_=>none) (zjB Γ):=by
 refine ⟨Grow.refl a.fh,λ_ _ _ h=>(nomatch h),λ_ _ h=>(nomatch h),λi s e=>?_,by unfold zjB;rw [List.length_map];exact a.len⟩
 unfold zjB at e
 rw [List.getElem?_map] at e
 cases q:Γ[i]? with
 | none=>rw [q] at e;cases e
 | some r =>
  rw [q] at e
  have e':zkg r=s:=Option.some.inj e
  subst e'
  have h:=a.sl i r q
  cases r with
  | va m d =>
   obtain ⟨x,h1,h2⟩:=h
   exact ⟨x,h1,d.up part_sub h2⟩
  | no=>trivial
  | ow m ds=>trivial
  | ob m C p dx fs=>trivial
  | ol p ds=>trivial
  | tl d=>trivial
theorem zhI {Γ:Ctx} {t:TE} {d:Ds} (h:Ev (zjB Γ) t true d):EvN Γ t d:=λF0 Hb F H σ own Q a k=>h F H F H σ _ Q a.now λv F' H' g q=>k v F' H' g q
section
variable {E:XS} {Γ:Ctx} {te:TE} {u:TS} {o:Oc} {d d1 d2:Ds} {K:W.Frag} {i j:Nat}
end
def noOb (Γ:Ctx):Bool:=Γ.all λs=>match s with | .ob _ _ _ _ _=>false | _=>true
section
variable {E:XS} {Γ:Ctx} {t:TE} {d:Ds} {m n:Bool} {u:TS} {o:Oc}
theorem Grow.only {F H H':Hp} (e:Same F H) (g:Same H H'):Grow F H F H':=⟨Same.refl _,e.trans g,g,λ_ _ z=>z⟩
theorem EvN.ev (h:EvN Γ t d):Ev Γ t true d:=λF0 Hb F H σ own Q a k=>h F0 Hb F H σ own Q a λv F' H' g q=>k v F' H' g (d.up (zgz a.g.h) q)
def unS:Slot->Slot
 | .tl _=>.no
 | s=>s
def unC (Γ:Ctx):Ctx:=Γ.map unS
theorem At.spoil {F0 Hb F H:Hp} {σ:St} {own:Nat->Option Addr} (a:At F0 Hb F H σ own Γ) (hno:noOb Γ=true) {p:Addr} (w:HO) (h1:F p=none) (h2:Hb p=none) (h3:∀ j,own j≠some p):At F0 Hb F (upd H p w) σ own (unC Γ):=by
 refine ⟨a.g.setH h1 h2,a.inj,λj q e=>?_,λi s e=>?_,by unfold unC;rw [List.length_map];exact a.len⟩
 ·have:q≠p:=λz=>h3 j (z ▸ e)
  rw [upd_ne this];exact a.liv j q e
 ·unfold unC at e
  rw [List.getElem?_map] at e
  cases q:Γ[i]? with
  | none=>rw [q] at e;cases e
  | some r =>
   rw [q] at e
   have e':unS r=s:=Option.some.inj e
   subst e'
   have h:=a.sl i r q
   cases r with
   | va m d=>exact h
   | no=>trivial
   | ow m ds =>
    obtain ⟨x,vs,q1,q2,q3,q4,q5,q6⟩:=h
    have:x≠p:=λz=>h3 i (z ▸ q2)
    exact ⟨x,vs,q1,q2,q3,q4,by rw [upd_ne this];exact q5,q6⟩
   | ol x ds =>
    obtain ⟨vs,q1,q2,q3,q4,q5,q6⟩:=h
    have:x≠p:=λz=>h3 i (z ▸ q2)
    exact ⟨vs,q1,q2,q3,q4,by rw [upd_ne this];exact q5,q6⟩
   | ob m C p dx fs =>
    have:=List.all_eq_true.mp hno _ (List.mem_of_getElem? q)
    cases this
   | tl d=>trivial
end
section
variable {E:XS} {Γ:Ctx} {te:TE} {u:TS} {K:W.Frag} {i j:Nat} {α β:Type} {f:α->Ds}
end
section
variable {X:Cx} {K:W.Frag}
end
end L2
namespace Lat
abbrev Vc:=Nat->Int
section
variable {A B:Vc->Prop} {u v a:Vc}
end
end Lat
namespace L2
open PySem PySem.Spec PyProof.Rows
section
variable {E:XS} {Γ:Ctx} {β:Type} {u:TS}
end
end L2
namespace Lat
def vec (l:List Int):Vc:=λi=>l.getD i 0
end Lat
namespace Lat
end Lat
namespace Lat
def Bit (a:Nat) (l:List Int):Prop:=∀ x∈l,x.natAbs≤2^a
end Lat
namespace Lat
open L2
theorem zei.of {x y:Int} {a b:Nat} (h1:x.natAbs≤2^a) (h2:y.natAbs≤2^b) (ha:a≤50000000) (hb:b≤50000000):zei x y :=
 .inr (.inr ⟨zft (k:=a+1) (by have:2^a<2^(a+1):=Nat.pow_lt_pow_right (by decide) (Nat.lt_succ_self a);omega) (by omega) (by omega),zft (k:=b+1) (by have:2^b<2^(b+1):=Nat.pow_lt_pow_right (by decide) (Nat.lt_succ_self b);omega) (by omega) (by omega)⟩)
section
variable {one other:Int} {s:G4}
end
section
variable {n s a i:Nat} {l t:List Int} {h q:Int}
end
section
variable {n s a:Nat} {l t:List Int} {h:Int}
end
section
variable {n s a i:Nat} {steps:List (List Int)} {st:TS2} {x:Int×List Int}
end
section
variable {steps fl:List (List Int)} {i:Nat} {x:List Int}
end
section
variable {n b R i:Nat} {rows ss:List (List Int)} {r:List Int}
end
end Lat
namespace L2
open PySem PySem.Spec PyProof.Rows
section
variable {X:Cx} {K:W.Frag}
end
section
variable {E:XS} {Γ:Ctx} {te tj:TE} {u:TS} {o:Oc} {m:Bool} {K:W.Frag} {i j:Nat} {α β:Type} {f:α->Ds}
end
section
variable {E:XS} {Γ:Ctx} {u:TS} {o:Oc} {K:W.Frag} {i j:Nat}
end
end L2
namespace L2
open PySem PySem.Spec PyProof.Rows
end L2
namespace Lat
open L2
theorem zhR {α:Type} {xs:List α} {lo hi:Option Int} {x:α} (h:x∈zcB xs lo hi):x∈xs:=List.mem_of_mem_drop (List.mem_of_mem_take h)
end Lat
namespace Lat
end Lat
namespace L2
open PySem PySem.Spec PyProof.Rows
end L2
namespace Lat
open L2
theorem zhO {k:Nat}:(zh1 (k:Int) [(0:Int)]).length=k:=by unfold zh1;simp
end Lat
namespace Lat
end Lat
namespace Lat
end Lat
namespace L2
open PySem PySem.Spec PyProof.Rows
section
variable {X:Cx} {K:W.Frag} {pos:Pos}
end
section
variable {E:XS} {Γ:Ctx} {te ta tb:TE} {u:TS} {o:Oc} {m:Bool} {K:W.Frag} {i j l:Nat} {α β:Type} {f:α->Ds}
theorem zji {x y:Bool}:decide (V.bl x=V.bl y)=decide (x=y):=by cases x<;>cases y<;>rfl
theorem ev_neB {x y:Bool} (h1:Ev Γ ta false (dB x)) (h2:Ev Γ tb false (dB y)):Ev Γ (tOp rNe ta tb) m (dB (!decide (x=y))):=(ziV h1 h2 rfl).conv (by rw [zji])
end
end L2
namespace Lat
open L2
end Lat
namespace L2
open PySem PySem.Spec PyProof.Rows
section
variable {X:Cx}
end
end L2
namespace L2
open PySem PySem.Spec PyProof.Rows
section
variable {E:XS} {Γ Γx:Ctx} {m:Bool} {α β ε S:Type} {u:TS} {ds:List Ds}
end
end L2
namespace L2
open PySem PySem.Spec PyProof.Rows
def zhZ (R:Hp) (v:V) (ns:List Int):Prop:=∃ r,v=.ref r∧R r=some (.lst (List.map V.int ns))
def dRI (nss:List (List Int)):Ds:=⟨λR v=>∃ p vs,v=.ref p∧R p=some (.lst vs)∧vs.Nodup∧V.ref p ∉ vs∧Paired (zhZ R) vs nss,λe ⟨p,vs,h1,h2,h3,h4,h5⟩=>⟨p,vs,h1,e _ _ h2,h3,h4,zbM (λ_ _ ⟨r,q1,q2⟩=>⟨r,q1,e _ _ q2⟩) h5⟩⟩
section
variable {Γ:Ctx} {m:Bool} {K:W.Frag} {γ:Type} {te tj:TE} {i:Nat} {nss:List (List Int)}
end
section
variable {E:XS} {Γ:Ctx} {m:Bool} {K:W.Frag} {te tj:TE} {u:TS} {o:Oc} {i:Nat} {nss:List (List Int)}
theorem zfA {R:Hp} {r:Addr} {new:List Int}:∀ {vs:List V} {nss:List (List Int)} {j:Nat},Paired (zhZ R) vs nss->vs.Nodup->vs[j]?=some (.ref r)->Paired (zhZ (upd R r (.lst (new.map V.int)))) vs (nss.set j new)
 | _,_,_,.nil,_,h=>by simp at h
 | v :: vs,ns :: nss,0,.cons q t,hN,h=>by
  have h:v=.ref r:=by simpa using h
  subst h
  refine .cons ⟨r,rfl,upd_same⟩ ?_
  have hn1:=(List.nodup_cons.mp hN).1
  clear q h hN
  induction t with
  | nil=>exact .nil
  | @cons a b as bs q t ih =>
   obtain ⟨r',rfl,q2⟩:=q
   have hne:r'≠r:=λz=>hn1 (by rw [z];exact List.mem_cons_self)
   exact .cons ⟨r',rfl,by rw [upd_ne hne];exact q2⟩ (ih λz=>hn1 (List.mem_cons_of_mem _ z))
 | v :: vs,ns :: nss,j+1,.cons q t,hN,h=>by
  have hN:=List.nodup_cons.mp hN
  have h:vs[j]?=some (.ref r):=by simpa using h
  obtain ⟨r',rfl,q2⟩:=q
  have hne:r'≠r:=λz=>hN.1 (by rw [z];exact List.mem_of_getElem? h)
  exact .cons ⟨r',rfl,by rw [upd_ne hne];exact q2⟩ (zfA t hN.2 h)
theorem At.row {F0 Hb F H:Hp} {σ:St} {own:Nat->Option Addr} (a:At F0 Hb F H σ own Γ) (e:Γ[i]?=some (.tl (dRI nss))) (hno:noOb Γ=true) {k:Int} (hk:InB nss.length k) :
  ∃ p vs r,σ[i]?=some (some (.ref p))∧H p=some (.lst vs)∧atI vs k=some (.ref r)∧H r=some (.lst ((ixD nss k).map V.int))∧∀ (H':Hp) (new:List Int),Same H H'->At F0 Hb F (upd H' r (.lst (new.map V.int))) σ own ((unC Γ).set i (.tl (dRI (setZ nss k new)))):=by
 obtain ⟨x,R,h1,h2,h3,h4,p,vs,rfl,h6,h7,h8,h9⟩:=a.sl i _ e
 have hi:i<σ.length:=by rw [a.len];exact (List.getElem?_eq_some_iff.mp e).1
 have e':σ[i]?=some (some (.ref p)):=by
  rw [List.getElem?_eq_getElem hi] at h1 ⊢
  exact congrArg some h1
 have hl:=Paired.length h9
 obtain ⟨j,ej,hj,_⟩:=zgi hk
 obtain ⟨v,ev,⟨r,rfl,hr⟩⟩:=za1 h9 (List.getElem?_eq_getElem (l:=nss) (i:=j) hj)
 have ex:ixD nss k=nss[j]:=by
  unfold ixD atI
  rw [ej]
  show (nss[j]?).getD default=_
  rw [List.getElem?_eq_getElem hj];rfl
 have es:∀ new,setZ nss k new=nss.set j new:=λnew=>by unfold setZ;rw [ej]
 have rF:=h3 r _ hr
 have rO:∀ l,own l≠some r:=λl z=>by rw [h4 l r z] at hr;cases hr
 have rp:p≠r:=λz=>h8 (by rw [z];exact List.mem_of_getElem? ev)
 refine ⟨p,vs,r,e',h2 _ _ h6,?_,by rw [ex];exact h2 _ _ hr,λH' new hs=>?_⟩
 ·unfold atI
  rw [hl,ej]
  exact ev
 ·have a1:=(a.grow (Grow.only a.fh hs)).spoil hno (.lst (new.map V.int)) rF.1 rF.2 rO
  refine ⟨a1.g,a1.inj,a1.liv,λl s es'=>?_,by rw [List.length_set];exact a1.len⟩
  by_cases z:i=l
  ·subst z
   rw [List.getElem?_set_self (by rw [← a1.len];exact hi)] at es'
   cases es'
   rw [e']
   refine ⟨.ref p,upd R r (.lst (new.map V.int)),rfl,λb w q=>?_,λb w q=>?_,λl' b q=>?_,p,vs,rfl,by rw [upd_ne rp];exact h6,h7,h8,by rw [es];exact zfA h9 h7 ev⟩
   ·by_cases y:b=r
    ·subst y;rw [upd_same] at q ⊢;exact q
    ·rw [upd_ne y] at q ⊢;exact hs _ _ (h2 _ _ q)
   ·by_cases y:b=r
    ·subst y;exact rF
    ·rw [upd_ne y] at q;exact h3 b w q
   ·have y:b≠r:=λy=>rO l' (y ▸ q)
    rw [upd_ne y];exact h4 l' b q
  ·rw [List.getElem?_set_ne z] at es'
   exact a1.sl l s es'
end
end L2
namespace L2
open PySem PySem.Spec PyProof.Rows
section
variable {E:XS} {Γ Δ:Ctx} {m:Bool} {K:W.Frag} {te ta tb:TE} {t u:TS} {d:Ds} {ds es:List Ds} {o:Oc} {i j:Nat}
end
section
variable {P:Program} {w:World} {K:W.Frag} {mg:Str->Option Value} {base:Heap} {x qual:Str} {st:Stmt} {f:Addr} {fd:FuncData} {N ps:List Str} {k:Nat}
end
section
variable {E:XS} {Γ Δ:Ctx} {m:Bool} {K:W.Frag} {te ta tb tj:TE} {t u:TS} {d:Ds} {ds es:List Ds} {o:Oc} {i j:Nat} {p:Addr} {α β:Type} {f:α->Ds} {xs:List α}
theorem EvN.borrowO (e:Γ[i]?=some (.ow m ds)) (h:EvN (Γ.set i (.va m (dL ds))) te d):EvN Γ te d:=λF0 Hb F H σ own Q a k=>by
 obtain ⟨F1,own1,_,a1⟩:=a.share e
 refine h F0 Hb F1 H σ own1 Q a1 λx F' H' g q=>?_
 have e:∀ b o,off F' H b=some o->H b=none∧F' b=some o:=λb o z=>zcV.mp z
 refine k x (λb=>match H b with | some _=>F b | none=>F' b) H' ⟨λb o z=>?_,λb o z=>?_,g.h,λb z1 z2=>?_⟩ (d.up (λb o z=>?_) q)
 ·show (match H b with | some _=>F b | none=>F' b)=some o
  rw [a.fh _ _ z];exact z
 ·have z:(match H b with | some _=>F b | none=>F' b)=some o:=z
  cases w:H b with
  | some o'=>rw [w] at z;exact g.h _ _ (a.fh _ _ z)
  | none=>rw [w] at z;exact g.fh _ _ z
 ·show (match H b with | some _=>F b | none=>F' b)=none
  cases w:H b with
  | some o'=>exact z2
  | none=>exact absurd w z1
 ·obtain ⟨h1,h2⟩:=e b o z
  refine zcV.mpr ⟨h1,?_⟩
  show (match H b with | some _=>F b | none=>F' b)=some o
  rw [h1];exact h2
end
end L2
namespace L2
open PySem PySem.Spec PyProof.Rows
structure T5 (α β γ δ ε:Type) where
 a:α
 b:β
 c:γ
 d:δ
 e:ε
section
variable {E:XS} {Γ:Ctx} {m:Bool} {K:W.Frag} {te tj:TE} {u:TS} {o:Oc} {i j:Nat} {nss:List (List Int)} {α β:Type}
theorem zew {x:α} {i j:Nat} (d1 d2:α->Ds) (fo:β->Oc) {kk:α->β} (h:Ev Γ te m (dT [d1 x,d2 x])) (k:∀ y,y=x->Run E ((Γ.set i (.va m (d1 y))).set j (.va m (d2 y))) u (fo (kk y))):Run E Γ (tSeq (zhj te (ziS K 2 (ze1 (zcM i) (ze1 (zcM j) zjC)))) u) (fo (Let x kk)):=ze7 h (k x rfl)
end
end L2
namespace Lat
open L2
end Lat
namespace L2
open PySem PySem.Spec PyProof.Rows
section
variable {X:Cx} {K:W.Frag}
end
section
variable {Γ:Ctx} {m:Bool} {K:W.Frag}
end
end L2
namespace L2
open PySem PySem.Spec PyProof.Rows
section
variable {E:XS} {Γ:Ctx} {u:TS} {o:Oc} {K:W.Frag} {i j:Nat}
end
end L2
namespace Lat
open L2
end Lat
namespace L2
open PySem PySem.Spec PyProof.Rows
section
open PySem.SeqAt PySem.MeetsSeq PySem.MeetsSeq2 PySem.MeetsSeq3
open PySem.AutoSeq1 (wpAny_loadPart')
end
section
variable {X:Cx} {K:W.Frag}
end
section
variable {X:Cx} {K:W.Frag}
end
section
variable {E:XS} {Γ:Ctx} {te tj:TE} {t u:TS} {o:Oc} {m:Bool} {K:W.Frag} {i j:Nat} {α β:Type}
end
end L2
namespace L2
open PySem PySem.Spec PyProof.Rows
section
variable {X:Cx} {CX:CXT} {k:Nat} {f C:Addr} {fd:FuncData} {ps:List Str} {sp:Sp} {E:XK} {m:Str} {pos apos:Pos} {o e:Expr} {es:List Expr} {t:TA}
structure ByCls (K:W.Frag) (C f:Addr) (m:Str):Prop where
 ga:W.specialIn K (.ref C) "__getattribute__"=some (some (.builtin "type.__getattribute__"))
 rd:W.readsIn K C (.type "type")=true
 fn:W.findCls K (.ref C) (.type "type") m=some (.val (.ref f))
 kp:W.keepIn K (.ref f)=true
theorem zfu {pl:Sem Bool} (he:PE X o (tC (.ref C))) (B:ByCls X.K C f m) (F:FnOk X.prog X.w X.K X.mg X.base CX k f fd ps sp) (hr:Room k X.A) (hb:zcY X.K fd ps []) (hx:zdH CX X E) (ha:PA X (e :: es) t)
  (hst:starEach (e :: es) X.env=(false,eval e X.env) :: starEach es X.env:=by rfl) (hpl:(backTo pos (starEach es X.env)).any (·.1)=false:=by rfl)
  (ht:eval (.Call (.Attribute o m apos) (e :: es) [] pos) X.env=(do
   let ov ← eval o X.env
   standAt apos.atName
   let (f,first) ← holding [ov] (getMethod ov m pl)
   callWith pos f first (backTo pos (starEach (e :: es) X.env)) (backToKw pos (keywordEach [] X.env))):=by rfl) :
  PE X (.Call (.Attribute o m apos) (e :: es) [] pos) (tCall sp [] E t):=by
 intro pins s σ H Q I h
 refine W.methodCall_KW (pl:=pl) (thn (he pins s σ H (λv H1=>v=.ref C∧t σ H1 λvs H2=>sp (vs++[]) H2 Q E) I ⟨rfl,h⟩) λu s1 ⟨x,H1,I1,rx,ex,q⟩=>?_) ht
 subst ex
 obtain rfl:u=Value.ref C:=rx
 refine W.method_cls I1.kIn B.ga (W.cls_value I1.kIn B.rd B.fn rfl ?_)
 refine W.callWith_K (first:=[]) (h₀:=X.base) I.ok.mod.kin B.kp (thn (ha pos pins _ σ H1 _ (I1.tok _) q) λus s2 ⟨vs,H2,I2,r,q2⟩=>⟨I2.kIn,?_⟩) hst hpl
 exact zhu F hr hb .nil hx I2 r q2
end
section
variable {E:XS} {Γ:Ctx} {u:TS} {o:Oc} {m m2:Bool} {K:W.Frag} {i:Nat} {ds:List Ds} {tr:TA}
theorem zfW {ι:Type} {C p dx:Addr} {args:ι->List Ds} {pre:ι->Prop} {fs:ι->List (Str×Ds)} {E1:XK} (x:ι) (e:Γ[i]?=some (.ob m C p dx [])) (h:EvA Γ tr m2 ds) (ha:ds=args x) (hp:pre x) (k:Run E (Γ.set i (.ob m C p dx (fs x))) u o) :
  Run E Γ (tSeq (tDrop (tCall (ziA C args pre m fs) [] E1 (tCons (tVar i) tr))) u) o:=λF0 Hb F H σ own D a q=>by
 subst ha
 have hi:i<σ.length:=by rw [a.len];exact (List.getElem?_eq_some_iff.mp e).1
 obtain ⟨vs0,z1,_⟩:=a.sl i _ e
 have e':σ[i]?=some (some (.ref p)):=by
  rw [List.getElem?_eq_getElem hi] at z1 ⊢
  exact congrArg some z1
 refine ⟨_,e',h F0 Hb F H σ own _ a λvs F1 H1 g1 q1=>?_⟩
 have a1:=a.grow g1
 obtain ⟨vs1,w1,w2,w3,w4,w5,w6⟩:=a1.sl i _ e
 cases w6
 have ne:dx≠p:=λz=>by
  have h1:=w5.1;have h2:=w5.2
  rw [z] at h2
  rw [h1] at h2;cases h2
 have hE:∀ b,b≠p->b≠dx->(if b=p∨b=dx then none else H1 b)=H1 b:=λb n1 n2=>by
  rw [if_neg (by simp [n1,n2])]
 have hEp:(λb=>if b=p∨b=dx then none else H1 b) p=none:=if_pos (.inl rfl)
 have hEd:(λb=>if b=p∨b=dx then none else H1 b) dx=none:=if_pos (.inr rfl)
 have sE:∀ {R:Hp},Same R H1->R p=none->R dx=none->Same R (λb=>if b=p∨b=dx then none else H1 b):=λhR n1 n2 b w z=>by
  have b1:b≠p:=λy=>by rw [y,n1] at z;cases z
  have b2:b≠dx:=λy=>by rw [y,n2] at z;cases z
  show (if b=p∨b=dx then none else H1 b)=some w
  rw [hE b b1 b2];exact hR b w z
 refine ⟨x,p,dx,vs,λb=>if b=p∨b=dx then none else H1 b,F1,by rw [List.append_nil],hEp,hEd,ne,?_,sE a1.fh w3.1 w3.2,?_,hp,λus F' H' g n1 n2 h1 h2 h3=>?_⟩
 ·funext b
  by_cases b1:b=p
  ·rw [b1,upd_same,w5.1]
  ·rw [upd_ne b1]
   by_cases b2:b=dx
   ·rw [b2,upd_same,w5.2]
   ·rw [upd_ne b2,hE b b1 b2]
 ·exact pr_up (ds:=[]) part_sub q1
 ·have gg:Grow F1 H1 F' (upd H' p (.ins C dx [])):=by
   refine ⟨g.f,λb w z=>?_,λb w z=>?_,λb z1 z2=>?_⟩
   ·rw [upd_ne (λy=>by rw [y,n1] at z;cases z)];exact g.fh b w z
   ·by_cases b1:b=p
    ·rw [b1,upd_same];rw [b1,w5.1] at z;exact z
    ·rw [upd_ne b1]
     by_cases b2:b=dx
     ·rw [b2,h2];rw [b2,w5.2] at z;exact z
     ·exact g.h b w (by show (if b=p∨b=dx then none else H1 b)=some w;rw [hE b b1 b2];exact z)
   ·by_cases b1:b=p
    ·rw [b1];exact n1
    ·by_cases b2:b=dx
     ·rw [b2];exact n2
     ·exact g.no b (by show (if b=p∨b=dx then none else H1 b)≠none;rw [hE b b1 b2];exact z1) z2
  have a2:=(a1.grow gg).turnOb (n:=m) (ws:=us) (gs:=fs x) e (zbM (λ_ b z=>⟨z.1,b.2.up (zcW (sE a1.g.h w4.1 w4.2)) z.2⟩) h3)
  have eq:upd (upd H' p (.ins C dx [])) p (.ins C dx us)=H':=by
   funext b
   by_cases b1:b=p
   ·rw [b1,upd_same,h1]
   ·rw [upd_ne b1,upd_ne b1]
  rw [eq] at a2
  exact k F0 Hb F' H' σ own D a2 q
end
section
variable {Γ:Ctx} {m:Bool}
end
section
variable {X:Cx} {CX:CXT} {k k2:Nat} {f f2 C C2:Addr} {fd fd2:FuncData} {ps ps2:List Str} {sp sp2:Sp} {E:XK} {m:Str} {pos apos:Pos} {o e:Expr} {es:List Expr} {ta:TE} {t:TA}
end
section
variable {Γ:Ctx} {i:Nat} {m n:Bool} {ds:List Ds}
theorem EvT.borrowO {t:TT} {b:Bool} (e:Γ[i]?=some (.ow m ds)) (h:EvT (Γ.set i (.va m (dL ds))) t b):EvT Γ t b:=λF0 Hb F H σ own Q a k=>by
 obtain ⟨F1,own1,_,a1⟩:=a.share e
 exact h F0 Hb F1 H σ own1 Q a1 λF' H' g=>k F H' (Grow.only a.fh g.h)
end
end L2
namespace Lat
open L2
def dv:List Int->Vc->Int
 | [],_=>0
 | a :: w,u=>a*u 0+dv w λi=>u (i+1)
theorem zhE:∀ (w t:List Int),(List.map (λ(x:Int×Int)=>x.1*x.2) (List.zip w t)).sum=dv w (vec t)
 | [],_=>rfl
 | a :: w,[]=>by
  have:∀ (w:List Int),dv w (λ_=>0)=0:=by
   intro w
   induction w with
   | nil=>rfl
   | cons a w ih=>show a*0+dv w (λ_=>0)=0;rw [ih];omega
  exact (this (a :: w)).symm
 | a :: w,b :: t=>by
  show a*b+(List.map (λ(x:Int×Int)=>x.1*x.2) (List.zip w t)).sum=a*b+dv w λi=>vec (b :: t) (i+1)
  rw [zhE w t]
  congr 2
section
variable {n:Nat} {sw:List (List Int)} {x:List Int} {R ss:List (List Int)}
end
end Lat
namespace L2
open PySem PySem.Spec PyProof.Rows
section
variable {Γ:Ctx} {m:Bool} {K:W.Frag} {ta:TE} {α:Type} {f:α->Ds} {cl:α->Addr} {fs:α->List (Str×Ds)}
def zjH (K:W.Frag) (C D:Addr) (b:Bool):Prop:=Cls K C∧W.findIn K (.ref C) "__class__"=some (some (.builtin "object.__class__"))∧W.specialIn K (.builtin "object.__class__") "__get__"=some (some (.builtin "getset_descriptor.__get__")) ∧
  W.takesIn K (.builtin "object.__class__")=some true∧W.mroIn K C (.type "object")=some true∧W.kitOne K (.ref C) (.ref D)=some b
theorem zcP {x:Option α} {g:α->Bool} {C:Addr} (hf:∀ x,f x=dO (cl x) (fs x)) (h:Ev Γ ta false (zdh f x)) (h0:W.kitOne K (.type "NoneType") (.ref C)=some false) (h1:∀ x,zjH K (cl x) C (g x)) :
  Ev Γ (tCB (zeK K) (tCons ta (tCons (tC (.ref C)) tNil))) m (dB (za0 g x)):=λF0 Hb F H σ own Q a k =>
 h F0 Hb F H σ own _ a λv F1 H1 g1 q1=>by
  cases x with
  | none =>
   have q1:v=.non:=q1
   subst q1
   exact .inl ⟨.non,.type "NoneType",false,.inr ⟨C,rfl,h0⟩,.non,k _ F1 H1 g1 rfl⟩
  | some e =>
   have q1:(f e).pr (part false F1 Hb) v:=q1
   rw [hf e] at q1
   obtain ⟨p,dx,vs,e1,e2,e3,e4⟩:=q1
   subst e1
   have hk:=h1 e
   exact .inl ⟨.ref p,_,g e,.inr ⟨C,rfl,hk.2.2.2.2.2⟩,.ins (g1.fh _ _ e2) hk.1 hk.2.1 hk.2.2.1 hk.2.2.2.1 hk.2.2.2.2.1,k _ F1 H1 g1 rfl⟩
theorem zea {x:α} {fl:Str} {d:α->Ds} (hf:∀ x,f x=dO (cl x) (fs x)) (h:Ev Γ ta m (f x)) (c:∀ x,Cls K (cl x)∧NoAttr K (cl x) fl) (e:∀ x,(fs x).lookup fl=some (d x)):Ev Γ (tFld K ta fl) m (d x):=by
 rw [hf x] at h
 exact zdt h (c x).1 (c x).2 (e x)
end
end L2
namespace L2
open PySem PySem.Spec PyProof.Rows
structure CalleeM (P:Program) (w:World) (K:W.Frag) (mg:Str->Option Value) (base:Heap) (CX:CXT) (k:Nat) (C:Addr) (m:Str) (ps:List Str) (sp:Sp):Prop where
 ex:∃ f fd,FnOk P w K mg base CX k f fd ps sp∧Meth K C m f∧zcY K fd ps []
section
variable {X:Cx} {CX:CXT} {k:Nat} {C:Addr} {ps:List Str} {sp:Sp} {E:XK} {m:Str} {pos apos:Pos} {o e:Expr} {es:List Expr} {ta:TE} {t:TA}
end
section
variable {Γ:Ctx} {ta tb tc:TE} {m:Bool}
end
section
variable {E:XS} {Γ:Ctx} {m:Bool} {K:W.Frag} {te:TE} {u:TS} {α β:Type}
end
end L2
namespace L2
open PySem PySem.Spec PyProof.Rows
def opX (r:R2) (ta:TEX) (tb:TE):TEX:=λσ H Q E=>ta σ H (λx H1=>tb σ H1 λy H2=>r x y H2 Q) E
def zix (C:Addr) (m:Str) (sp:Sp) (ta:TE) (t:TA):TEX:=λσ H Q E=>ta σ H λx H1=>∃ a dx fs,x=.ref a∧H1 a=some (.ins C dx fs)∧fs.lookup m=none∧t σ H1 λvs H2=>sp (x :: (vs++[])) H2 Q E
def orX (t u:TEX):TEX:=λσ H Q E=>t σ H Q E∨u σ H Q E
section
variable {X:Cx} {a b e o:Expr} {es:List Expr} {pos apos:Pos} {k:Nat} {C:Addr} {ps:List Str} {sp:Sp} {m:Str} {tb to:TE} {ta:TEX} {t:TA}
theorem zj0 {op:Operator} {r:R2} (ho:OpR X.nox (binaryOp op) r) (ha:PEX X a ta) (hb:PE X.nox b tb):PEX X (.BinOp a op b pos) (opX r ta tb):=λpins s σ H Q E I h =>
 wpAny_BinOp (thn (ha pins s σ H _ E I h) λv s1 ⟨x,H1,I1,r1,q1⟩=>wpAny_mono (hb pins s1 σ H1 _ (I1.wish _) q1) (λu s2 ⟨y,H2,I2,r2,q2⟩=>wpAny_mono (ho pins s2 σ H2 x y v u Q I2 r1 r2 q2) (λ_ _ q=>zev q) λ_ _ f=>f.elim) λ_ _ f=>f.elim)
theorem zhK {op:CmpOp} {r:R2} (ho:OpR X.nox (compareOp op) r) (ha:PEX X a ta) (hb:PE X.nox b tb) (hm:behindInMarks op b=false):PEX X (.Compare a [op] [b] pos) (opX r ta tb):=λpins s σ H Q E I h =>
 wpAny_Compare1 (thn (ha pins s σ H _ E I h) λv s1 ⟨x,H1,I1,r1,q1⟩=>wpAny_mono (hb pins s1 σ H1 _ (I1.wish _) q1) (λu s2 ⟨y,H2,I2,r2,q2⟩=>wpAny_mono (ho pins s2 σ H2 x y v u Q I2 r1 r2 q2) (λ_ _ q=>zev q) λ_ _ f=>f.elim) λ_ _ f=>f.elim) hm
theorem ziC {t u:TEX} (h1:PEX X e t) (h2:PEX X e u):PEX X e (orX t u):=λpins s σ H Q E I h=>h.elim (h1 pins s σ H Q E I) (h2 pins s σ H Q E I)
theorem zd4 {pl:Sem Bool} (O:Own X) (he:PE X.nox o to) (c:Cls X.K C) (F:CalleeM X.prog X.w X.K X.mg X.base (CXE X.prog X.w) k C m ps sp) (hr:Room k X.A) (ha:PA X.nox (e :: es) t)
  (hst:starEach (e :: es) X.env=(false,eval e X.env) :: starEach es X.env:=by rfl) (hpl:(backTo pos (starEach es X.env)).any (·.1)=false:=by rfl)
  (ht:eval (.Call (.Attribute o m apos) (e :: es) [] pos) X.env=(do
   let ov ← eval o X.env
   standAt apos.atName
   let (f,first) ← holding [ov] (getMethod ov m pl)
   callWith pos f first (backTo pos (starEach (e :: es) X.env)) (backToKw pos (keywordEach [] X.env))):=by rfl) :
  PEX X (.Call (.Attribute o m apos) (e :: es) [] pos) (zix C m sp to t):=by
 obtain ⟨f,fd,G,hm,hb⟩:=F.ex
 intro pins s σ H Q E I h
 refine W.methodCall_KW (pl:=pl) (wpAny_mono (he pins s σ H _ (I.wish _) h) (λu s1 ⟨x,H1,I1,rx,a,dx,fs,ex,ea,l,q⟩=>?_) λ_ _ f=>f.elim) ht
 subst ex
 obtain rfl:u=Value.ref a:=rx
 refine zfM I1.unwish ea c hm l ?_
 refine W.callWith_K (first:=[.ref a]) (h₀:=X.base) I.ok.mod.kin hm.kp (wpAny_mono (ha pos pins s1 σ H1 _ I1 q) (λus s2 ⟨vs,H2,I2,r,q2⟩=>⟨I2.unwish.kIn,?_⟩) λ_ _ f=>f.elim) hst hpl
 have I3:=I2.unwish
 have r2:Vals (V.ref a :: (vs++[])) (Value.ref a :: (us++[])):=.cons rfl (r.append .nil)
 have hl:(Value.ref a :: us++[]).length=ps.length:=by
  have e:=r2.length
  rw [G.len _ _ _ _ q2] at e
  exact e.symm
 refine wpAny_call (codeAny_mono (G.run X.A X.stack s2 H2 ⟨Value.ref a :: us,[]⟩ (Value.ref a :: (us++[])) _ Q E hr I3.env0 (show BindsTo s2 fd ⟨Value.ref a :: us,[]⟩ (ps.zip (Value.ref a :: (us++[]))) from hb s2 (Value.ref a :: us) I3.kIn hl) r2 q2) λr s' hq=>?_)
 cases r with
 | error e=>exact zdR O I3 hq
 | ok fl =>
  cases fl with
  | ret u=>exact I3.after hq
  | next=>exact False.elim hq
  | brk=>exact False.elim hq
  | cont=>exact False.elim hq
end
def EvX {α ε:Type} (xc:ε->Addr) (Γ:Ctx) (te:TEX) (m:Bool) (d:α->Ds) (r:Except ε α):Prop:=∀ (F0 Hb F H:Hp) (σ:St) (own:Nat->Option Addr) (Q:VK) (E:XK),At F0 Hb F H σ own Γ →
 (match r with | .ok v=>∀ v' F' H',Grow F H F' H'->(d v).pr (part m F' Hb) v'->Q v' H' | .error e=>∀ dct F' H',Grow F H F' H'->E (.ref (xc e)) dct H')->te σ H Q E
section
variable {α β ε:Type} {xc:ε->Addr} {Γ Γx:Ctx} {te:TEX} {tb:TE} {m m0:Bool} {d:α->Ds} {r:Except ε α} {ds:List Ds} {u:TS} {E:XS}
theorem zfC {ι:Type} {args:ι->List Ds} {pre:ι->Prop} {res:ι->Rs} {tr:TA} (x:ι) (h:EvA Γ tr false ds) (ha:ds=args x) (hp:pre x) (hr:res x=zfN xc m d r):EvX xc Γ (callX (Spv args pre res) tr) m d r:=λF0 Hb F H σ own Q E a k=>by
 subst ha
 refine h F0 Hb F H σ own _ a λvs F1 H1 g1 q1=>⟨x,F1,g1.fh,by rw [List.append_nil];exact q1,hp,?_⟩
 rw [hr]
 cases r with
 | ok v=>exact λv' F' H' g qv=>k v' F' H' (g1.trans g) ((d v).up (zcW (a.g.h.trans g1.h)) qv)
 | error e=>exact λdct F' H' g=>k dct F' H' (g1.trans g)
theorem zdm {ι:Type} {C:Addr} {mt:Str} {args:ι->List Ds} {pre:ι->Prop} {res:ι->Rs} {t:TA} {fs:List (Str×Ds)} (x:ι) (h1:Ev Γ tb false (dO C fs)) (h:EvA Γ t false ds) (ha:dO C fs :: ds=args x) (hp:pre x) (hr:res x=zfN xc m d r) (hn:(fs.map Prod.fst).contains mt=false) :
  EvX xc Γ (zix C mt (Spv args pre res) tb t) m d r:=λF0 Hb F H σ own Q E a k=>by
 refine h1 F0 Hb F H σ own _ a λu F1 H1 g1 ⟨p,dx,vs,e1,e2,e3,e4⟩=>⟨p,dx,vs,e1,g1.fh _ _ e2,?_,?_⟩
 ·have:∀ {vs:List (Str×V)} {fs:List (Str×Ds)} {R:Str×V->Str×Ds->Prop},Paired (λa b=>a.1=b.1∧R a b) vs fs->(fs.map Prod.fst).contains mt=false->vs.lookup mt=none:=by
   intro vs fs R hq
   induction hq with
   | nil=>intro _;rfl
   | @cons a b _ _ w _ ih =>
    intro z
    rw [List.map_cons,List.contains_cons,Bool.or_eq_false_iff] at z
    obtain ⟨a1,a2⟩:=a
    rw [List.lookup_cons]
    have:(mt == a1)=false:=by rw [show a1=b.1 from w.1];exact z.1
    rw [this]
    exact ih z.2
  exact this e4 hn
 ·refine h F0 Hb F1 H1 σ own _ (a.grow g1) λws F2 H2 g2 q2=>⟨x,F2,g2.fh,?_,hp,?_⟩
  ·rw [← ha,List.append_nil]
   refine .cons ((dO C fs).up (show Same F1 F2 from g2.f) ⟨p,dx,vs,e1,e2,e3,e4⟩) q2
  ·rw [hr]
   cases r with
   | ok v=>exact λv' F' H' g q=>k v' F' H' ((g1.trans g2).trans g) ((d v).up (zcW ((a.grow g1).g.h.trans g2.h)) q)
   | error e=>exact λdct F' H' g=>k dct F' H' ((g1.trans g2).trans g)
theorem EvX.inl {t u:TEX} (h:EvX xc Γ t m d r):EvX xc Γ (orX t u) m d r:=λF0 Hb F H σ own Q E a k=>.inl (h F0 Hb F H σ own Q E a k)
theorem EvX.inr {t u:TEX} (h:EvX xc Γ u m d r):EvX xc Γ (orX t u) m d r:=λF0 Hb F H σ own Q E a k=>.inr (h F0 Hb F H σ own Q E a k)
theorem zh8 {C:Int->Int->Prop} {g:Int->Int->Int} {x:Except ε Int} {y:Int} (h1:EvX xc Γ te m0 dI x) (h2:Ev Γ tb false (dI y)) (c:∀ z,C z y):EvX xc Γ (opX (rI C λi j=>.int (g i j)) te tb) m dI (zf5 x λz=>.ok (g z y)):=λF0 Hb F H σ own Q E a k =>
 h1 F0 Hb F H σ own _ E a (by
  cases x with
  | ok v=>exact λv' F1 H1 g1 q1=>h2 F0 Hb F1 H1 σ own _ (a.grow g1) λw F2 H2 g2 q2=>⟨v,y,q1,q2,c v,k _ F2 H2 (g1.trans g2) rfl⟩
  | error e=>exact k)
theorem zgr {x:Except ε Int} {y:Int} (h1:EvX xc Γ te m0 dI x) (h2:Ev Γ tb false (dI y)):EvX xc Γ (opX rEq te tb) m dB (zf5 x λz=>.ok (decide (z=y))):=λF0 Hb F H σ own Q E a k =>
 h1 F0 Hb F H σ own _ E a (by
  cases x with
  | ok v =>
   intro v' F1 H1 g1 q1
   refine h2 F0 Hb F1 H1 σ own _ (a.grow g1) λw F2 H2 g2 q2=>?_
   cases q1;cases q2
   refine ⟨rfl,k _ F2 H2 (g1.trans g2) ?_⟩
   show V.bl _=V.bl _
   rw [zfc]
  | error e=>exact k)
theorem zdB (h:EvX xc Γ te m d r) (w:Wk Γ Γx):Run E Γ (tSeq (zi7 te E) u) (foX xc Γx (λv=>.rt m (d v)) r):=λF0 Hb F H σ own D a q =>
 h F0 Hb F H σ own _ (E σ) a (by
  cases r with
  | ok v=>exact λv' F' H' g qv=>q v' F' H' (a.g.trans g) qv
  | error e=>exact λdct F' H' g=>q dct F' H' σ own ((a.grow g).wk w))
theorem zet {kk:α->Except ε β} {i:Nat} (fo:β->Oc) (h:EvX xc Γ te m d r) (w:Wk Γ Γx) (k:∀ v,r=.ok v->Run E (Γ.set i (.va m (d v))) u (foX xc Γx fo (kk v))):Run E Γ (tSeq (ziG te i E) u) (foX xc Γx fo (zf5 r kk)):=λF0 Hb F H σ own D a q =>
 h F0 Hb F H σ own _ (E σ) a (by
  cases r with
  | ok v=>exact λv' F' H' g qv=>k v rfl F0 Hb F' H' _ own D ((a.grow g).set i qv) q
  | error e=>exact λdct F' H' g=>q dct F' H' σ own ((a.grow g).wk w))
end
end L2
namespace L2
open PySem PySem.Spec PyProof.Rows
def zjO {ι:Type} (C:Addr) (args:ι->List Ds) (pre:ι->Prop) (XA:Addr):Sp:=λvs H _ E=>∃ (i:ι) (p dx:Addr) (ws:List V) (H1 F:Hp),vs=.ref p :: ws∧H1 p=none∧H1 dx=none∧dx≠p∧H=upd (upd H1 dx (.own p)) p (.ins C dx [])∧Same F H1 ∧
 Paired (λv (d:Ds)=>d.pr F v) ws (args i)∧pre i∧∀ dct F' H',Grow F H1 F' H'->E (.ref XA) dct H'
def mkX (C:Addr) (sp:Sp) (t:TA):TEX:=λσ H Q E=>t σ H λvs H1=>∀ x dx,H1 x=none->H1 dx=none->dx≠x->sp (.ref x :: (vs++[])) (upd (upd H1 dx (.own x)) x (.ins C dx [])) (λv H2=>v=.non∧Q (.ref x) H2) E
section
variable {P:Program} {w:World} {K:W.Frag} {mg:Str->Option Value} {base:Heap} {x qual:Str} {st:Stmt} {f:Addr} {fd:FuncData} {N ps:List Str} {k:Nat}
theorem Fun.okIR {ι:Type} {C XA:Addr} {args:ι->List Ds} {pre:ι->Prop} {m:Bool} (F:Fun K x qual st f fd) (S:FnScope N ps (defScope st)) (hl:∀ i,(args i).length+1=ps.length)
  (hbody:∀ (cdv:Value) (A:Around) (outer:List Env) (s:Shared) (H:Hp) (E:XK) (i:ι),Room k (A.deeper (envOfC qual (defScope st) s.heap.objs.size f cdv))->pre i->Own (ze2 (CXE P w) P w K mg base N qual (defScope st) f cdv A outer s H E) →
   ∃ t Γx,zeU (ze2 (CXE P w) P w K mg base N qual (defScope st) f cdv A outer s H E) (zap st) t∧∀ p dx,Run (λ_=>E) (startI m C p dx N (args i)) (atE (λ_=>E) t) (.ex XA Γx)):FnOk P w K mg base (CXE P w) (k+1) f fd ps (zjO C args pre XA):=by
 refine F.okX S (λvs H Q E ⟨i,p,dx,ws,H1,F',e,_,_,_,_,_,hv,_⟩=>by rw [e,List.length_cons,Paired.length hv];exact hl i) λcdv A outer s H vs Q E hr ⟨i,p,dx,ws,H1,F',e,h1,h2,h3,h4,hF,hv,hp,hq⟩=>?_
 subst e h4
 obtain ⟨t,Γx,t1,t2⟩:=hbody cdv A outer s _ E i hr hp ⟨rfl,rfl,rfl⟩
 refine ⟨t,t1,?_⟩
 exact t2 p dx F' H1 F' _ _ _ { nx:=λ_ H'=>Q .non H',rt:=Q } (zeS hF hv h1 h2 h3) λdct F2 H2 σ2 own2 a2=>hq dct F2 H2 a2.g
end
section
variable {X:Cx} {k:Nat} {f C:Addr} {fd:FuncData} {ps:List Str} {sp:Sp} {x:Str} {p pos:Pos} {e:Expr} {es:List Expr} {t:TA}
theorem zio (O:Own X) (M:Mk X.K C f) (F:FnOk X.prog X.w X.K X.mg X.base (CXE X.prog X.w) k f fd ps sp) (hr:Room (k+1) X.A) (hg:Gl X x) (hm:X.mg x=some (.ref C)) (hb:zcY X.K fd ps [])
  (ha:PA X.nox (e :: es) t) (hdb:(x == ("__debug__":Str))=false:=by decide) (he:starEach (e :: es) X.env=(false,eval e X.env) :: starEach es X.env:=by rfl) (hpl:(backTo pos (starEach es X.env)).any (·.1)=false:=by rfl) :
  PEX X (.Call (.Name x p) (e :: es) [] pos) (mkX C sp t):=by
 intro pins s σ H Q E I h
 refine wpAny_Call_Name_kw (ld_glob I hg hm ?_ hdb)
 refine W.callWith_K (h₀:=X.base) I.ok.mod.kin M.kp (wpAny_mono (ha pos pins s σ H _ (I.wish _) h) (λus s1 ⟨vs,H1,I1,r,q⟩=>⟨I1.unwish.kIn,?_⟩) λ_ _ f=>f.elim) he hpl
 have I0:=I1.unwish
 have hq:=q (s1.heap.objs.size+1) s1.heap.objs.size (I0.hok.fresh (Nat.le_succ _)) (I0.hok.fresh (Nat.le_refl _)) (Nat.ne_of_lt (Nat.lt_succ_self _))
 have I2:=Inv.made (C:=C) I0
 have r2:Vals (V.ref (s1.heap.objs.size+1) :: (vs++[])) (Value.ref (s1.heap.objs.size+1) :: (us++[])):=.cons rfl (r.append .nil)
 have hl:(Value.ref (s1.heap.objs.size+1) :: us++[]).length=ps.length:=by
  have e:=r2.length
  rw [F.len _ _ _ _ hq] at e
  exact e.symm
 refine wpAny_call (zfo (f:=f) I0.kIn M.makes M.init (beq_iff_eq.mp M.fn) (codeAny_mono (F.run _ X.stack _ _ ⟨Value.ref (s1.heap.objs.size+1) :: us,[]⟩ (Value.ref (s1.heap.objs.size+1) :: (us++[])) _ _ E (hr.make C us [])
  (I2.env0.make C us []) (show BindsTo _ fd ⟨Value.ref (s1.heap.objs.size+1) :: us,[]⟩ (ps.zip (Value.ref (s1.heap.objs.size+1) :: (us++[]))) from hb _ (Value.ref (s1.heap.objs.size+1) :: us) I2.kIn hl) r2 hq) λr s' hq'=>?_))
 cases r with
 | error e=>exact zdR O I2 hq'
 | ok fl =>
  cases fl with
  | ret u =>
   obtain ⟨v,H',I3,rv,ev,q3⟩:=I2.after hq'
   subst ev
   exact ⟨rv,⟨V.ref (s1.heap.objs.size+1),H',I3,rfl,q3⟩⟩
  | next=>exact False.elim hq'
  | brk=>exact False.elim hq'
  | cont=>exact False.elim hq'
end
section
variable {E:XS} {Γ Γx:Ctx} {u t:TS} {o:Oc} {ds:List Ds} {tr:TA} {K:W.Frag} {m:Bool} {ta:TE}
theorem ze0 {ι:Type} {C XA:Addr} {args:ι->List Ds} {pre:ι->Prop} (x:ι) (h:EvA Γ tr false ds) (ha:ds=args x) (hp:pre x) (w:Wk Γ Γx):Run E Γ (tSeq (zhv (mkX C (zjO C args pre XA) tr) E) u) (.ex XA Γx):=λF0 Hb F H σ own D a q=>by
 subst ha
 exact h F0 Hb F H σ own _ a λvs F1 H1 g1 q1 p dx h1 h2 h3=>⟨x,p,dx,vs,H1,F1,by rw [List.append_nil],h1,h2,h3,rfl,g1.fh,q1,hp,λdct F' H' g=>q dct F' H' σ own ((a.grow (g1.trans g)).wk w)⟩
theorem zeJ {tc:TT} {r:TS} (h:EvT Γ tc true) (h1:Run E Γ (tSeq t r) o):Run E Γ (tSeq (ziz tc t u) r) o:=λF0 Hb F H σ own D a q=>h F0 Hb F H σ own _ a λF' H' g=>by
 rw [if_pos rfl];exact h1 F0 Hb F' H' σ own D (a.grow g) q
def dIB:Int ⊕ Bool->Ds
 | .inl n=>dI n
 | .inr b=>dB b
def ibI:Option (Int ⊕ Bool)->Bool
 | some _=>true
 | none=>false
def ibB:Option (Int ⊕ Bool)->Bool
 | some (.inr _)=>true
 | _=>false
def ibN:Option (Int ⊕ Bool)->Bool
 | some (.inl _)=>true
 | _=>false
def gI:Option (Int ⊕ Bool)->Int
 | some (.inl n)=>n
 | _=>0
def gB:Option (Int ⊕ Bool)->Bool
 | some (.inr b)=>b
 | _=>false
theorem ziM {x:Option (Int ⊕ Bool)} (h:Ev Γ ta m (zdh dIB x)) (q:ibN x=true):Ev Γ ta m (dI (gI x)):=by
 match x,h,q with
 | some (.inl n),h,_=>exact h
theorem zi8 {x:Option (Int ⊕ Bool)} (h:Ev Γ ta m (zdh dIB x)) (q:ibB x=true):Ev Γ ta m (dB (gB x)):=by
 match x,h,q with
 | some (.inr n),h,_=>exact h
theorem zfB {T:String} {b1 b2:Bool} {x:Option (Int ⊕ Bool)} {g:Option (Int ⊕ Bool)->Bool} (h:Ev Γ ta false (zdh dIB x)) (h0:W.kitOne K (.type "NoneType") (.type T)=some false) (h1:W.kitOne K (.type "int") (.type T)=some b1) (h2:W.kitOne K (.type "bool") (.type T)=some b2)
  (g0:g none=false) (g1:∀ n,g (some (.inl n))=b1) (g2:∀ b,g (some (.inr b))=b2):Ev Γ (tCB (zeK K) (tCons ta (tCons (tC (.ty T)) tNil))) m (dB (g x)):=λF0 Hb F H σ own Q a k =>
 h F0 Hb F H σ own _ a λv F1 H1 gr q1=>by
  match x,q1 with
  | none,q1 =>
   have q1:v=.non:=q1
   subst q1
   exact .inl ⟨.non,.type "NoneType",false,.inl ⟨T,rfl,h0⟩,.non,k _ F1 H1 gr (show V.bl false=V.bl (g none) by rw [g0])⟩
  | some (.inl n),q1 =>
   have q1:v=.int n:=q1
   subst q1
   exact .inl ⟨.int n,_,b1,.inl ⟨T,rfl,h1⟩,.int _,k _ F1 H1 gr (show V.bl b1=V.bl (g (some (.inl n))) by rw [g1])⟩
  | some (.inr b),q1 =>
   have q1:v=.bl b:=q1
   subst q1
   exact .inl ⟨.bl b,_,b2,.inl ⟨T,rfl,h2⟩,.bl _,k _ F1 H1 gr (show V.bl b2=V.bl (g (some (.inr b))) by rw [g2])⟩
theorem zgM {x:Option (Int ⊕ Bool)} (h:Ev Γ ta false (zdh dIB x)) (h0:W.kitOne K (.type "NoneType") (.type "int")=some false) (h1:W.kitOne K (.type "int") (.type "int")=some true) (h2:W.kitOne K (.type "bool") (.type "int")=some true) :
  Ev Γ (tCB (zeK K) (tCons ta (tCons (tC (.ty "int")) tNil))) m (dB (ibI x)):=zfB h h0 h1 h2 rfl (λ_=>rfl) λ_=>rfl
theorem zeL {x:Option (Int ⊕ Bool)} (h:Ev Γ ta false (zdh dIB x)) (h0:W.kitOne K (.type "NoneType") (.type "bool")=some false) (h1:W.kitOne K (.type "int") (.type "bool")=some false) (h2:W.kitOne K (.type "bool") (.type "bool")=some true) :
  Ev Γ (tCB (zeK K) (tCons ta (tCons (tC (.ty "bool")) tNil))) m (dB (ibB x)):=zfB h h0 h1 h2 rfl (λ_=>rfl) λ_=>rfl
end
end L2
set_option maxHeartbeats 4000000
set_option maxRecDepth 100000
set_option maxHeartbeats 4000000
namespace My
open PySem L2
def top (i:Nat):Stmt:=PySem.Challenge.pw_swapbook_k31_scales.main.body.getD i (.Pass ⟨0,0,0,0⟩)
abbrev zaP:Stmt:=top 22
abbrev zca:Stmt:=top 23
abbrev zdl:Stmt:=top 25
abbrev zbk:Stmt:=zcj (top 26) 0
abbrev zb1:Stmt:=zcj (top 26) 1
abbrev zbQ:Stmt:=zcj (top 26) 2
abbrev zas:Stmt:=zcj (top 28) 0
abbrev zbq:Stmt:=zcj (top 28) 1
abbrev zbP:Stmt:=top 30
abbrev zbO:Stmt:=top 31
abbrev zbL:Stmt:=top 32
abbrev s_law_only:Stmt:=top 33
abbrev zcX:Stmt:=top 34
abbrev zbG:Stmt:=top 35
abbrev zb6:Stmt:=top 36
abbrev zbb:Stmt:=top 37
abbrev zbN:Stmt:=top 38
abbrev zb8:Stmt:=top 39
abbrev zbs:Stmt:=top 40
abbrev zaH:Stmt:=top 41
abbrev zdG:Stmt:=top 42
abbrev zbT:Stmt:=zcj (top 26) 0
abbrev zbU:Stmt:=zcj (top 26) 0
abbrev zcg:Stmt:=zcj (top 26) 1
abbrev zce:Stmt:=zcj (top 26) 2
abbrev zcf:Stmt:=zcj (top 26) 2
inductive Xn where
 | BadBasket
 | BadRest
 deriving DecidableEq,Inhabited
structure Adr where
 no:Unit:=()
 Scale:Addr
 Line:Addr
 Rest:Addr
 xc:Xn->Addr
 k_BadBasket:Addr
 k_BadBaskets:Addr
 k_BadNames:Addr
 k_BadRest:Addr
 k_BadRoad:Addr
 k_BadScale:Addr
 k_BadSwap:Addr
 k_BadWares:Addr
 k_Endless:Addr
 k_NoBook:Addr
 k_NoLine:Addr
 k_NoName:Addr
 k_NoSwap:Addr
 k_NotAlike:Addr
 k_NotKept:Addr
 k_OtherBook:Addr
 k_OtherWares:Addr
 k_SwapError:Addr
 k_TooGreat:Addr
 k_TooMany:Addr
def zaW:Xn->Bool
 | .BadBasket=>true
 | .BadRest=>false
def zaM:Xn->Bool
 | .BadBasket=>false
 | .BadRest=>false
def za6:Xn->Bool
 | .BadBasket=>false
 | .BadRest=>false
def zbn:Xn->Bool
 | .BadBasket=>false
 | .BadRest=>true
def zbp:Xn->Bool
 | .BadBasket=>false
 | .BadRest=>false
def zbd:Xn->Bool
 | .BadBasket=>false
 | .BadRest=>false
def zbm:Xn->Bool
 | .BadBasket=>false
 | .BadRest=>false
def zbw:Xn->Bool
 | .BadBasket=>false
 | .BadRest=>false
def zbl:Xn->Bool
 | .BadBasket=>false
 | .BadRest=>false
def zbJ:Xn->Bool
 | .BadBasket=>false
 | .BadRest=>false
def zbK:Xn->Bool
 | .BadBasket=>false
 | .BadRest=>false
def zbD:Xn->Bool
 | .BadBasket=>false
 | .BadRest=>false
def zb7:Xn->Bool
 | .BadBasket=>false
 | .BadRest=>false
def zbr:Xn->Bool
 | .BadBasket=>false
 | .BadRest=>false
def zbo:Xn->Bool
 | .BadBasket=>false
 | .BadRest=>false
def zaX:Xn->Bool
 | .BadBasket=>false
 | .BadRest=>false
def zaN:Xn->Bool
 | .BadBasket=>false
 | .BadRest=>false
def za8:Xn->Bool
 | .BadBasket=>false
 | .BadRest=>false
def zbF:Xn->Bool
 | .BadBasket=>false
 | .BadRest=>false
def za2:Xn->Bool
 | .BadBasket=>true
 | .BadRest=>true
structure ScaleD where
 weights:(List Int)
 deriving Inhabited
structure LineD where
 weights:(List Int)
 deriving Inhabited
def zf9 (C:Addr) (b:LineD):Ds:=dO C [("weights",dL (List.map dI b.weights))]
structure RestD where
 weights:(List Int)
 rest:Int
 deriving Inhabited
def zf1 (C:Addr) (b:RestD):Ds:=dO C [("weights",dL (List.map dI b.weights)),("rest",dI b.rest)]
instance:Inhabited (LineD ⊕ RestD):=⟨.inl default⟩
def dSc (A:Adr):LineD ⊕ RestD->Ds
 | .inl l=>zf9 A.Line l
 | .inr r=>zf1 A.Rest r
def scC (A:Adr):LineD ⊕ RestD->Addr
 | .inl _=>A.Line
 | .inr _=>A.Rest
def scF:LineD ⊕ RestD->List (Str×Ds)
 | .inl b=>[("weights",dL (List.map dI b.weights))]
 | .inr b=>[("weights",dL (List.map dI b.weights)),("rest",dI b.rest)]
theorem zcy {A:Adr} (x:LineD ⊕ RestD):dSc A x=dO (scC A x) (scF x):=by cases x<;>rfl
def scW:LineD ⊕ RestD->List Int
 | .inl l=>l.weights
 | .inr r=>r.weights
def gR:LineD ⊕ RestD->RestD
 | .inl _=>default
 | .inr r=>r
theorem zfv {A:Adr} {Γ:L2.Ctx} {t:TE} {m:Bool} {x:LineD ⊕ RestD} (h:Ev Γ t m (dSc A x)) (hr:x.isRight=true):Ev Γ t m (zf1 A.Rest (gR x)):=by
 cases x with
 | inl _=>cases hr
 | inr _=>exact h
structure Txt (K:W.Frag) (mg:Str->Option Value) (A:Adr):Prop where
 ValueError:mg "ValueError"=none
 all:mg "all"=none
 bool:mg "bool"=none
 int:mg "int"=none
 isinstance:mg "isinstance"=none
 len:mg "len"=none
 list:mg "list"=none
 min:mg "min"=none
 range:mg "range"=none
 sum:mg "sum"=none
 zip:mg "zip"=none
 Scale:mg "Scale"=some (.ref A.Scale)
 Scale_cl:Cls K A.Scale
 Scale_weights:NoAttr K A.Scale "weights"
 Line:mg "Line"=some (.ref A.Line)
 Line_cl:Cls K A.Line
 Line_weights:NoAttr K A.Line "weights"
 Rest:mg "Rest"=some (.ref A.Rest)
 Rest_cl:Cls K A.Rest
 Rest_weights:NoAttr K A.Rest "weights"
 Rest_rest:NoAttr K A.Rest "rest"
 k_BadBasket:mg "BadBasket"=some (.ref A.k_BadBasket)
 k_BadBaskets:mg "BadBaskets"=some (.ref A.k_BadBaskets)
 k_BadNames:mg "BadNames"=some (.ref A.k_BadNames)
 k_BadRest:mg "BadRest"=some (.ref A.k_BadRest)
 k_BadRoad:mg "BadRoad"=some (.ref A.k_BadRoad)
 k_BadScale:mg "BadScale"=some (.ref A.k_BadScale)
 k_BadSwap:mg "BadSwap"=some (.ref A.k_BadSwap)
 k_BadWares:mg "BadWares"=some (.ref A.k_BadWares)
 k_Endless:mg "Endless"=some (.ref A.k_Endless)
 k_NoBook:mg "NoBook"=some (.ref A.k_NoBook)
 k_NoLine:mg "NoLine"=some (.ref A.k_NoLine)
 k_NoName:mg "NoName"=some (.ref A.k_NoName)
 k_NoSwap:mg "NoSwap"=some (.ref A.k_NoSwap)
 k_NotAlike:mg "NotAlike"=some (.ref A.k_NotAlike)
 k_NotKept:mg "NotKept"=some (.ref A.k_NotKept)
 k_OtherBook:mg "OtherBook"=some (.ref A.k_OtherBook)
 k_OtherWares:mg "OtherWares"=some (.ref A.k_OtherWares)
 k_SwapError:mg "SwapError"=some (.ref A.k_SwapError)
 k_TooGreat:mg "TooGreat"=some (.ref A.k_TooGreat)
 k_TooMany:mg "TooMany"=some (.ref A.k_TooMany)
 xm_BadBasket:mg "BadBasket"=some (.ref (A.xc .BadBasket))
 xi_BadBasket:W.excIn K (A.xc .BadBasket) [.type "ValueError",.type "Exception",.type "BaseException",.type "object"] "ValueError.__new__"=true
 xcl_BadBasket:XCls K (A.xc .BadBasket)
 exm_BadBasket:W.exmOne K (.ref (A.xc .BadBasket)) (.ref A.k_SwapError)=some true
 xm_BadRest:mg "BadRest"=some (.ref (A.xc .BadRest))
 xi_BadRest:W.excIn K (A.xc .BadRest) [.type "ValueError",.type "Exception",.type "BaseException",.type "object"] "ValueError.__new__"=true
 xcl_BadRest:XCls K (A.xc .BadRest)
 exm_BadRest:W.exmOne K (.ref (A.xc .BadRest)) (.ref A.k_SwapError)=some true
 i0_BadBasket:W.kitOne K (.type "NoneType") (.ref A.k_BadBasket)=some false
 i_BadBasket_BadBasket:W.kitOne K (.ref (A.xc .BadBasket)) (.ref A.k_BadBasket)=some (zaW .BadBasket)
 i_BadRest_BadBasket:W.kitOne K (.ref (A.xc .BadRest)) (.ref A.k_BadBasket)=some (zaW .BadRest)
 i0_BadBaskets:W.kitOne K (.type "NoneType") (.ref A.k_BadBaskets)=some false
 i_BadBasket_BadBaskets:W.kitOne K (.ref (A.xc .BadBasket)) (.ref A.k_BadBaskets)=some (zaM .BadBasket)
 i_BadRest_BadBaskets:W.kitOne K (.ref (A.xc .BadRest)) (.ref A.k_BadBaskets)=some (zaM .BadRest)
 i0_BadNames:W.kitOne K (.type "NoneType") (.ref A.k_BadNames)=some false
 i_BadBasket_BadNames:W.kitOne K (.ref (A.xc .BadBasket)) (.ref A.k_BadNames)=some (za6 .BadBasket)
 i_BadRest_BadNames:W.kitOne K (.ref (A.xc .BadRest)) (.ref A.k_BadNames)=some (za6 .BadRest)
 i0_BadRest:W.kitOne K (.type "NoneType") (.ref A.k_BadRest)=some false
 i_BadBasket_BadRest:W.kitOne K (.ref (A.xc .BadBasket)) (.ref A.k_BadRest)=some (zbn .BadBasket)
 i_BadRest_BadRest:W.kitOne K (.ref (A.xc .BadRest)) (.ref A.k_BadRest)=some (zbn .BadRest)
 i0_BadRoad:W.kitOne K (.type "NoneType") (.ref A.k_BadRoad)=some false
 i_BadBasket_BadRoad:W.kitOne K (.ref (A.xc .BadBasket)) (.ref A.k_BadRoad)=some (zbp .BadBasket)
 i_BadRest_BadRoad:W.kitOne K (.ref (A.xc .BadRest)) (.ref A.k_BadRoad)=some (zbp .BadRest)
 i0_BadScale:W.kitOne K (.type "NoneType") (.ref A.k_BadScale)=some false
 i_BadBasket_BadScale:W.kitOne K (.ref (A.xc .BadBasket)) (.ref A.k_BadScale)=some (zbd .BadBasket)
 i_BadRest_BadScale:W.kitOne K (.ref (A.xc .BadRest)) (.ref A.k_BadScale)=some (zbd .BadRest)
 i0_BadSwap:W.kitOne K (.type "NoneType") (.ref A.k_BadSwap)=some false
 i_BadBasket_BadSwap:W.kitOne K (.ref (A.xc .BadBasket)) (.ref A.k_BadSwap)=some (zbm .BadBasket)
 i_BadRest_BadSwap:W.kitOne K (.ref (A.xc .BadRest)) (.ref A.k_BadSwap)=some (zbm .BadRest)
 i0_BadWares:W.kitOne K (.type "NoneType") (.ref A.k_BadWares)=some false
 i_BadBasket_BadWares:W.kitOne K (.ref (A.xc .BadBasket)) (.ref A.k_BadWares)=some (zbw .BadBasket)
 i_BadRest_BadWares:W.kitOne K (.ref (A.xc .BadRest)) (.ref A.k_BadWares)=some (zbw .BadRest)
 i0_Endless:W.kitOne K (.type "NoneType") (.ref A.k_Endless)=some false
 i_BadBasket_Endless:W.kitOne K (.ref (A.xc .BadBasket)) (.ref A.k_Endless)=some (zbl .BadBasket)
 i_BadRest_Endless:W.kitOne K (.ref (A.xc .BadRest)) (.ref A.k_Endless)=some (zbl .BadRest)
 i0_NoBook:W.kitOne K (.type "NoneType") (.ref A.k_NoBook)=some false
 i_BadBasket_NoBook:W.kitOne K (.ref (A.xc .BadBasket)) (.ref A.k_NoBook)=some (zbJ .BadBasket)
 i_BadRest_NoBook:W.kitOne K (.ref (A.xc .BadRest)) (.ref A.k_NoBook)=some (zbJ .BadRest)
 i0_NoLine:W.kitOne K (.type "NoneType") (.ref A.k_NoLine)=some false
 i_BadBasket_NoLine:W.kitOne K (.ref (A.xc .BadBasket)) (.ref A.k_NoLine)=some (zbK .BadBasket)
 i_BadRest_NoLine:W.kitOne K (.ref (A.xc .BadRest)) (.ref A.k_NoLine)=some (zbK .BadRest)
 i0_NoName:W.kitOne K (.type "NoneType") (.ref A.k_NoName)=some false
 i_BadBasket_NoName:W.kitOne K (.ref (A.xc .BadBasket)) (.ref A.k_NoName)=some (zbD .BadBasket)
 i_BadRest_NoName:W.kitOne K (.ref (A.xc .BadRest)) (.ref A.k_NoName)=some (zbD .BadRest)
 i0_NoSwap:W.kitOne K (.type "NoneType") (.ref A.k_NoSwap)=some false
 i_BadBasket_NoSwap:W.kitOne K (.ref (A.xc .BadBasket)) (.ref A.k_NoSwap)=some (zb7 .BadBasket)
 i_BadRest_NoSwap:W.kitOne K (.ref (A.xc .BadRest)) (.ref A.k_NoSwap)=some (zb7 .BadRest)
 i0_NotAlike:W.kitOne K (.type "NoneType") (.ref A.k_NotAlike)=some false
 i_BadBasket_NotAlike:W.kitOne K (.ref (A.xc .BadBasket)) (.ref A.k_NotAlike)=some (zbr .BadBasket)
 i_BadRest_NotAlike:W.kitOne K (.ref (A.xc .BadRest)) (.ref A.k_NotAlike)=some (zbr .BadRest)
 i0_NotKept:W.kitOne K (.type "NoneType") (.ref A.k_NotKept)=some false
 i_BadBasket_NotKept:W.kitOne K (.ref (A.xc .BadBasket)) (.ref A.k_NotKept)=some (zbo .BadBasket)
 i_BadRest_NotKept:W.kitOne K (.ref (A.xc .BadRest)) (.ref A.k_NotKept)=some (zbo .BadRest)
 i0_OtherBook:W.kitOne K (.type "NoneType") (.ref A.k_OtherBook)=some false
 i_BadBasket_OtherBook:W.kitOne K (.ref (A.xc .BadBasket)) (.ref A.k_OtherBook)=some (zaX .BadBasket)
 i_BadRest_OtherBook:W.kitOne K (.ref (A.xc .BadRest)) (.ref A.k_OtherBook)=some (zaX .BadRest)
 i0_OtherWares:W.kitOne K (.type "NoneType") (.ref A.k_OtherWares)=some false
 i_BadBasket_OtherWares:W.kitOne K (.ref (A.xc .BadBasket)) (.ref A.k_OtherWares)=some (zaN .BadBasket)
 i_BadRest_OtherWares:W.kitOne K (.ref (A.xc .BadRest)) (.ref A.k_OtherWares)=some (zaN .BadRest)
 i0_TooGreat:W.kitOne K (.type "NoneType") (.ref A.k_TooGreat)=some false
 i_BadBasket_TooGreat:W.kitOne K (.ref (A.xc .BadBasket)) (.ref A.k_TooGreat)=some (za8 .BadBasket)
 i_BadRest_TooGreat:W.kitOne K (.ref (A.xc .BadRest)) (.ref A.k_TooGreat)=some (za8 .BadRest)
 i0_TooMany:W.kitOne K (.type "NoneType") (.ref A.k_TooMany)=some false
 i_BadBasket_TooMany:W.kitOne K (.ref (A.xc .BadBasket)) (.ref A.k_TooMany)=some (zbF .BadBasket)
 i_BadRest_TooMany:W.kitOne K (.ref (A.xc .BadRest)) (.ref A.k_TooMany)=some (zbF .BadRest)
 i0_ValueError:W.kitOne K (.type "NoneType") (.type "ValueError")=some false
 i_BadBasket_ValueError:W.kitOne K (.ref (A.xc .BadBasket)) (.type "ValueError")=some (za2 .BadBasket)
 i_BadRest_ValueError:W.kitOne K (.ref (A.xc .BadRest)) (.type "ValueError")=some (za2 .BadRest)
 kit_NoneType_bool:W.kitOne K (.type "NoneType") (.type "bool")=some false
 kit_NoneType_int:W.kitOne K (.type "NoneType") (.type "int")=some false
 kit_bool_bool:W.kitOne K (.type "bool") (.type "bool")=some true
 kit_bool_int:W.kitOne K (.type "bool") (.type "int")=some true
 kit_int_bool:W.kitOne K (.type "int") (.type "bool")=some false
 kit_int_int:W.kitOne K (.type "int") (.type "int")=some true
 kit_list_list:W.kitOne K (.type "list") (.type "list")=some true
 sn_Line:W.kitOne K (.type "NoneType") (.ref A.Line)=some false
 sk_Line:∀ x:LineD ⊕ RestD,zjH K (scC A x) A.Line (Sum.isLeft x)
 sn_Rest:W.kitOne K (.type "NoneType") (.ref A.Rest)=some false
 sk_Rest:∀ x:LineD ⊕ RestD,zjH K (scC A x) A.Rest (Sum.isRight x)
 sn_Scale:W.kitOne K (.type "NoneType") (.ref A.Scale)=some false
 sk_Scale:∀ x:LineD ⊕ RestD,zjH K (scC A x) A.Scale ((λ_=>true) x)
theorem Txt.hx_BadBasket {K:W.Frag} {mg:Str->Option Value} {A:Adr} (T:Txt K mg A):∀ e,XCls K (A.xc e)∧W.kitOne K (.ref (A.xc e)) (.ref A.k_BadBasket)=some (zaW e)
 | .BadBasket=>⟨T.xcl_BadBasket,T.i_BadBasket_BadBasket⟩
 | .BadRest=>⟨T.xcl_BadRest,T.i_BadRest_BadBasket⟩
theorem Txt.hx_BadBaskets {K:W.Frag} {mg:Str->Option Value} {A:Adr} (T:Txt K mg A):∀ e,XCls K (A.xc e)∧W.kitOne K (.ref (A.xc e)) (.ref A.k_BadBaskets)=some (zaM e)
 | .BadBasket=>⟨T.xcl_BadBasket,T.i_BadBasket_BadBaskets⟩
 | .BadRest=>⟨T.xcl_BadRest,T.i_BadRest_BadBaskets⟩
theorem Txt.hx_BadNames {K:W.Frag} {mg:Str->Option Value} {A:Adr} (T:Txt K mg A):∀ e,XCls K (A.xc e)∧W.kitOne K (.ref (A.xc e)) (.ref A.k_BadNames)=some (za6 e)
 | .BadBasket=>⟨T.xcl_BadBasket,T.i_BadBasket_BadNames⟩
 | .BadRest=>⟨T.xcl_BadRest,T.i_BadRest_BadNames⟩
theorem Txt.hx_BadRest {K:W.Frag} {mg:Str->Option Value} {A:Adr} (T:Txt K mg A):∀ e,XCls K (A.xc e)∧W.kitOne K (.ref (A.xc e)) (.ref A.k_BadRest)=some (zbn e)
 | .BadBasket=>⟨T.xcl_BadBasket,T.i_BadBasket_BadRest⟩
 | .BadRest=>⟨T.xcl_BadRest,T.i_BadRest_BadRest⟩
theorem Txt.hx_BadRoad {K:W.Frag} {mg:Str->Option Value} {A:Adr} (T:Txt K mg A):∀ e,XCls K (A.xc e)∧W.kitOne K (.ref (A.xc e)) (.ref A.k_BadRoad)=some (zbp e)
 | .BadBasket=>⟨T.xcl_BadBasket,T.i_BadBasket_BadRoad⟩
 | .BadRest=>⟨T.xcl_BadRest,T.i_BadRest_BadRoad⟩
theorem Txt.hx_BadScale {K:W.Frag} {mg:Str->Option Value} {A:Adr} (T:Txt K mg A):∀ e,XCls K (A.xc e)∧W.kitOne K (.ref (A.xc e)) (.ref A.k_BadScale)=some (zbd e)
 | .BadBasket=>⟨T.xcl_BadBasket,T.i_BadBasket_BadScale⟩
 | .BadRest=>⟨T.xcl_BadRest,T.i_BadRest_BadScale⟩
theorem Txt.hx_BadSwap {K:W.Frag} {mg:Str->Option Value} {A:Adr} (T:Txt K mg A):∀ e,XCls K (A.xc e)∧W.kitOne K (.ref (A.xc e)) (.ref A.k_BadSwap)=some (zbm e)
 | .BadBasket=>⟨T.xcl_BadBasket,T.i_BadBasket_BadSwap⟩
 | .BadRest=>⟨T.xcl_BadRest,T.i_BadRest_BadSwap⟩
theorem Txt.hx_BadWares {K:W.Frag} {mg:Str->Option Value} {A:Adr} (T:Txt K mg A):∀ e,XCls K (A.xc e)∧W.kitOne K (.ref (A.xc e)) (.ref A.k_BadWares)=some (zbw e)
 | .BadBasket=>⟨T.xcl_BadBasket,T.i_BadBasket_BadWares⟩
 | .BadRest=>⟨T.xcl_BadRest,T.i_BadRest_BadWares⟩
theorem Txt.hx_Endless {K:W.Frag} {mg:Str->Option Value} {A:Adr} (T:Txt K mg A):∀ e,XCls K (A.xc e)∧W.kitOne K (.ref (A.xc e)) (.ref A.k_Endless)=some (zbl e)
 | .BadBasket=>⟨T.xcl_BadBasket,T.i_BadBasket_Endless⟩
 | .BadRest=>⟨T.xcl_BadRest,T.i_BadRest_Endless⟩
theorem Txt.hx_NoBook {K:W.Frag} {mg:Str->Option Value} {A:Adr} (T:Txt K mg A):∀ e,XCls K (A.xc e)∧W.kitOne K (.ref (A.xc e)) (.ref A.k_NoBook)=some (zbJ e)
 | .BadBasket=>⟨T.xcl_BadBasket,T.i_BadBasket_NoBook⟩
 | .BadRest=>⟨T.xcl_BadRest,T.i_BadRest_NoBook⟩
theorem Txt.hx_NoLine {K:W.Frag} {mg:Str->Option Value} {A:Adr} (T:Txt K mg A):∀ e,XCls K (A.xc e)∧W.kitOne K (.ref (A.xc e)) (.ref A.k_NoLine)=some (zbK e)
 | .BadBasket=>⟨T.xcl_BadBasket,T.i_BadBasket_NoLine⟩
 | .BadRest=>⟨T.xcl_BadRest,T.i_BadRest_NoLine⟩
theorem Txt.hx_NoName {K:W.Frag} {mg:Str->Option Value} {A:Adr} (T:Txt K mg A):∀ e,XCls K (A.xc e)∧W.kitOne K (.ref (A.xc e)) (.ref A.k_NoName)=some (zbD e)
 | .BadBasket=>⟨T.xcl_BadBasket,T.i_BadBasket_NoName⟩
 | .BadRest=>⟨T.xcl_BadRest,T.i_BadRest_NoName⟩
theorem Txt.hx_NoSwap {K:W.Frag} {mg:Str->Option Value} {A:Adr} (T:Txt K mg A):∀ e,XCls K (A.xc e)∧W.kitOne K (.ref (A.xc e)) (.ref A.k_NoSwap)=some (zb7 e)
 | .BadBasket=>⟨T.xcl_BadBasket,T.i_BadBasket_NoSwap⟩
 | .BadRest=>⟨T.xcl_BadRest,T.i_BadRest_NoSwap⟩
theorem Txt.hx_NotAlike {K:W.Frag} {mg:Str->Option Value} {A:Adr} (T:Txt K mg A):∀ e,XCls K (A.xc e)∧W.kitOne K (.ref (A.xc e)) (.ref A.k_NotAlike)=some (zbr e)
 | .BadBasket=>⟨T.xcl_BadBasket,T.i_BadBasket_NotAlike⟩
 | .BadRest=>⟨T.xcl_BadRest,T.i_BadRest_NotAlike⟩
theorem Txt.hx_NotKept {K:W.Frag} {mg:Str->Option Value} {A:Adr} (T:Txt K mg A):∀ e,XCls K (A.xc e)∧W.kitOne K (.ref (A.xc e)) (.ref A.k_NotKept)=some (zbo e)
 | .BadBasket=>⟨T.xcl_BadBasket,T.i_BadBasket_NotKept⟩
 | .BadRest=>⟨T.xcl_BadRest,T.i_BadRest_NotKept⟩
theorem Txt.hx_OtherBook {K:W.Frag} {mg:Str->Option Value} {A:Adr} (T:Txt K mg A):∀ e,XCls K (A.xc e)∧W.kitOne K (.ref (A.xc e)) (.ref A.k_OtherBook)=some (zaX e)
 | .BadBasket=>⟨T.xcl_BadBasket,T.i_BadBasket_OtherBook⟩
 | .BadRest=>⟨T.xcl_BadRest,T.i_BadRest_OtherBook⟩
theorem Txt.hx_OtherWares {K:W.Frag} {mg:Str->Option Value} {A:Adr} (T:Txt K mg A):∀ e,XCls K (A.xc e)∧W.kitOne K (.ref (A.xc e)) (.ref A.k_OtherWares)=some (zaN e)
 | .BadBasket=>⟨T.xcl_BadBasket,T.i_BadBasket_OtherWares⟩
 | .BadRest=>⟨T.xcl_BadRest,T.i_BadRest_OtherWares⟩
theorem Txt.hx_TooGreat {K:W.Frag} {mg:Str->Option Value} {A:Adr} (T:Txt K mg A):∀ e,XCls K (A.xc e)∧W.kitOne K (.ref (A.xc e)) (.ref A.k_TooGreat)=some (za8 e)
 | .BadBasket=>⟨T.xcl_BadBasket,T.i_BadBasket_TooGreat⟩
 | .BadRest=>⟨T.xcl_BadRest,T.i_BadRest_TooGreat⟩
theorem Txt.hx_TooMany {K:W.Frag} {mg:Str->Option Value} {A:Adr} (T:Txt K mg A):∀ e,XCls K (A.xc e)∧W.kitOne K (.ref (A.xc e)) (.ref A.k_TooMany)=some (zbF e)
 | .BadBasket=>⟨T.xcl_BadBasket,T.i_BadBasket_TooMany⟩
 | .BadRest=>⟨T.xcl_BadRest,T.i_BadRest_TooMany⟩
theorem Txt.hx_ValueError {K:W.Frag} {mg:Str->Option Value} {A:Adr} (T:Txt K mg A):∀ e,XCls K (A.xc e)∧W.kitOne K (.ref (A.xc e)) (.type "ValueError")=some (za2 e)
 | .BadBasket=>⟨T.xcl_BadBasket,T.i_BadBasket_ValueError⟩
 | .BadRest=>⟨T.xcl_BadRest,T.i_BadRest_ValueError⟩
section
variable {P:Program} {w:World} {K:W.Frag} {mg:Str->Option Value} {base:Heap} {f:Addr} {fd:FuncData} {A:Adr}
def m_refuse_unlike (P0:(List Int)) (P1:(List Int)):Unit:=()
def zbf (P0:(List Int)) (P1:(List Int)):Prop:=P0.length=P1.length
def zbW (K:W.Frag) (A:Adr):Sp:=Spv (ι:=(List Int)×(List Int)) (λx=>[dQ K (List.map dI x.1),dQ K (List.map dI x.2)]) (λx=>zbf x.1 x.2) (λx=>.va true (dN))
theorem zdy:FnScope ["one","other"] ["one","other"] (defScope zaP):=⟨rfl,rfl,rfl,by decide +kernel,rfl,by decide +kernel,by decide +kernel⟩
theorem zdx (F:Fun K "refuse_unlike" "refuse_unlike" zaP f fd) (T:Txt K mg A) :FnOk P w K mg base (CXE P w) 1 f fd ["one","other"] (zbW K A):=by
 refine F.okV zdy (λ_=>rfl) (λcdv Ar outer s H E x hr hp=>?_)
 obtain ⟨P0,P1⟩:=x
 have hu:=hr.units
 replace hp:zbf P0 P1:=hp
 unfold zbf at hp
 refine ⟨_,(zac (zbI (pt_cmpR op_ne (pe_callB (call_len_K (K:=K) rfl) rfl T.len PySem.boot_len (pa_cons (pv 0) pa_nil)) (pe_callB (call_len_K (K:=K) rfl) rfl T.len PySem.boot_len (pa_cons (pv 1) pa_nil)) (nomark _))
 (zac zfG zag)
 zag)
 zag),.inr ⟨_,([.va false (dQ K (List.map dI P0)),.va false (dQ K (List.map dI P1))]:L2.Ctx),rfl,?_⟩⟩
 show L2.Run _ ([.va false (dQ K (List.map dI P0)),.va false (dQ K (List.map dI P1))]:L2.Ctx) _ _
 exact (zdu (EvT.conv (zan (zeE (x:=((P0.length:Nat):Int)) (y:=((P1.length:Nat):Int)) (zbz (f:=dI) (xs:=P0) (zaa (i:=0) rfl)) (zbz (f:=dI) (xs:=P1) (zaa (i:=1) rfl)))) (by ((try simp only [decide_eq_true_eq,decide_eq_false_iff_not,Bool.not_eq_true',Bool.not_eq_false',Bool.and_eq_true,Bool.or_eq_false_iff,Bool.or_eq_true,Bool.and_eq_false_iff,Bool.cond_eq_ite] at *)<;>omega))) (zae
 (zaO (Wk.refl _))))
def m_weighed (P0:(List Int)) (P1:(List Int)):Int :=
 (List.map (λ(x2:(Int×Int))=>(x2.1*x2.2)) (List.zip P0 P1)).sum
def zcd (P0:(List Int)) (P1:(List Int)):Prop:=P0.length=P1.length∧P0.length≤1000∧∀ p∈List.zip P0 P1,zei p.1 p.2
def zdr (K:W.Frag) (A:Adr):Sp:=Spv (ι:=(List Int)×(List Int)) (λx=>[dQ K (List.map dI x.1),dQ K (List.map dI x.2)]) (λx=>zcd x.1 x.2) (λx=>.va true (dI (m_weighed x.1 x.2)))
theorem zfK:FnScope ["one","other"] ["one","other"] (defScope zca):=⟨rfl,rfl,rfl,by decide +kernel,rfl,by decide +kernel,by decide +kernel⟩
theorem zfR (F:Fun K "weighed" "weighed" zca f fd) (T:Txt K mg A) (G_refuse_unlike:Callee P w K mg base (CXE P w) 1 "refuse_unlike" ["one","other"] (zbW K A)):FnOk P w K mg base (CXE P w) 2 f fd ["one","other"] (zdr K A):=by
 refine F.okV zfK (λ_=>rfl) (λcdv Ar outer s H E x hr hp=>?_)
 obtain ⟨P0,P1⟩:=x
 have hu:=hr.units
 replace hp:zcd P0 P1:=hp
 unfold zcd at hp
 refine ⟨_,(zac (zeh (pe_fn G_refuse_unlike (hr.mono (by decide)) rfl passE (pa_cons (pv 0) (pa_cons (pv 1) pa_nil))))
 (zac (zau (pe_callB (zf2 (K:=K) rfl rfl) rfl T.sum PyProof.Rows.boot_sum (pa_cons (pe_comp rfl (.of (osc:=(defScope zca)) (N:=["one","other"]) (own:=["a","b"]) (fvn:=[]) (fv:=[]) rfl rfl (by decide +kernel)) (zfr (K:=K) rfl rfl T.zip (pa_cons (pv 0) (pa_cons (pv 1) pa_nil))) (λ_ _ _ _ _=>⟨(zek (K:=K) (n:=2) rfl rfl (zcT (pg_name (i:=0) (show (["a","b"]:List Str).Nodup by decide +kernel) rfl (Or.inl rfl) (Or.inr rfl)) (zcT (pg_name (i:=1) (show (["a","b"]:List Str).Nodup by decide +kernel) rfl (Or.inl rfl) (Or.inr rfl)) ze3))),pts_nil,(zal zcQ (pv 0) (pv 1))⟩)) pa_nil)))
 zag)),.inl ?_⟩
 show L2.Run _ ([.va false (dQ K (List.map dI P0)),.va false (dQ K (List.map dI P1))]:L2.Ctx) _ ((λ(r:Int)=>Oc.rt true (dI r)) (m_weighed P0 P1))
 unfold m_weighed
 exact (run_drop (m:=true) (Ev.any (m:=true) (zat (x:=(P0,P1)) (zab (zaa (i:=0) rfl) (zab (zaa (i:=1) rfl) zah)) rfl (by show zbf P0 P1;exact hp.1) rfl))
 (zaf (zaj (zi4 (xs:=(List.map (λ(x2:(Int×Int))=>(x2.1*x2.2)) (List.zip P0 P1))) (Ev.weak (K:=K) (EvO.ev (EvO.conv (zdw (g:=(λ(x2:(Int×Int))=>dI (x2.1*x2.2))) (zhG (m:=false) dI dI (xs:=P0) (ys:=P1) (zaa (i:=0) rfl) (zaa (i:=1) rfl)) (by exact zaq (by rw [List.length_zip];omega)) ⟨by decide,by decide⟩ (λi3 x2 hx4=>have qhx4:=zeY hx4;(zam (x:=x2.1) (y:=x2.2) (Ev.any (m:=false) (zaa (i:=0) rfl)) (Ev.any (m:=false) (zaa (i:=1) rfl)) (by exact hp.2.2 _ (List.mem_of_getElem? (by assumption)))))) (by first | (rw [List.map_map];rfl) | (simp only [cond_true,cond_false];rw [List.map_map];rfl)))))))))
theorem zd5 (w t:List Int):m_weighed w t=Lat.dv w (Lat.vec t):=Lat.zhE w t
def DrP (w b:List Int):Prop:=w.length≤1000∧∀ p∈List.zip w b,zei p.1 p.2
theorem zki {w b:List Int} (h:DrP w b) (q:(!decide (((b.length:Nat):Int)=((w.length:Nat):Int)))=false):zcd w b:=by
 have q:((b.length:Nat):Int)=((w.length:Nat):Int):=by simpa using q
 exact ⟨by omega,h.1,h.2⟩
def zbV (P0:(List Int)) (P1:(List Int)):Except Xn Int :=
 (bif (!decide (((P1.length:Nat):Int)=((P0.length:Nat):Int))) then (Except.error Xn.BadBasket)
 else (Except.ok (m_weighed P0 P1)))
def zco (P0:(List Int)) (P1:(List Int)):Prop:=DrP P0 P1
def zdd (K:W.Frag) (A:Adr):Sp:=Spv (ι:=(List Int)×(List Int)) (λx=>[dQ K (List.map dI x.1),dQ K (List.map dI x.2)]) (λx=>zco x.1 x.2) (λx=>zfN A.xc true dI (zbV x.1 x.2))
theorem zgS:FnScope ["weights","basket"] ["weights","basket"] (defScope zdl):=⟨rfl,rfl,rfl,by decide +kernel,rfl,by decide +kernel,by decide +kernel⟩
theorem zgw (F:Fun K "drawn" "drawn" zdl f fd) (T:Txt K mg A) (G_weighed:Callee P w K mg base (CXE P w) 2 "weighed" ["one","other"] (zdr K A)):FnOk P w K mg base (CXE P w) 3 f fd ["weights","basket"] (zdd K A):=by
 refine F.okVX zgS (λ_=>rfl) (λcdv Ar outer s H E x hr hp O=>?_)
 obtain ⟨P0,P1⟩:=x
 have hu:=hr.units
 replace hp:zco P0 P1:=hp
 unfold zco at hp
 refine ⟨_,(zaG (zhS (pt_cmpR op_ne (pe_callB (call_len_K (K:=K) rfl) rfl T.len PySem.boot_len (pa_cons (pv 1) pa_nil)) (pe_callB (call_len_K (K:=K) rfl) rfl T.len PySem.boot_len (pa_cons (pv 0) pa_nil)) (nomark _))
 (zaG (zfy O rfl rfl T.xm_BadBasket T.xi_BadBasket PySem.F.excBase_ValueError (pa_cons za9 pa_nil))
 zb0)
 zb0)
 (zaG (zcN (zau (pe_fn G_weighed (hr.mono (by decide)) rfl passE (pa_cons (pv 0) (pa_cons (pv 1) pa_nil)))))
 zb0)),.inl ?_⟩
 show L2.Run _ ([.va false (dQ K (List.map dI P0)),.va false (dQ K (List.map dI P1))]:L2.Ctx) _ (zg5 2 (zfN A.xc true dI (zbV P0 P1)))
 rw [zcL]
 show L2.Run _ _ _ ((foX A.xc ([.no,.no]:L2.Ctx) (λ(r:Int)=>Oc.rt true (dI r))) (zbV P0 P1))
 unfold zbV
 exact (zai (b:=(!decide (((P1.length:Nat):Int)=((P0.length:Nat):Int)))) (foX A.xc ([.no,.no]:L2.Ctx) (λ(r:Int)=>Oc.rt true (dI r))) (zan (zeE (x:=((P1.length:Nat):Int)) (y:=((P0.length:Nat):Int)) (zbz (f:=dI) (xs:=P1) (zaa (i:=1) rfl)) (zbz (f:=dI) (xs:=P0) (zaa (i:=0) rfl)))) (λh5=>(zad (zeG (m:=false) (zab zak zah) (by show 1≤sizeLine;decide) (.no (.no .nil))))) (λh5 =>
 (zae (zaf (zaj (Ev.any (m:=true) (zat (x:=(P0,P1)) (zab (zaa (i:=0) rfl) (zab (zaa (i:=1) rfl) zah)) rfl (by show zcd P0 P1;exact zki hp (by assumption)) rfl)))))))
def zbB (P0:(List Int)):LineD:=⟨P0⟩
def zar (P0:(List Int)):Prop:=True
def zbA (K:W.Frag) (A:Adr):Sp:=ziA (ι:=(List Int)) A.Line (λx=>[dQ K (List.map dI x)]) (λx=>zar x) true (λx=>[("weights",dL (List.map dI ((zbB x).weights)))])
theorem zcE:FnScope ["self","weights"] ["self","weights"] (defScope zbT):=⟨rfl,rfl,rfl,by decide +kernel,rfl,by decide +kernel,by decide +kernel⟩
theorem zcG (F:Fun K "__init__" "Scale.__init__" zbT f fd) (T:Txt K mg A) :FnOk P w K mg base (CXE P w) 1 f fd ["self","weights"] (zbA K A):=by
 refine F.okI zcE (λ_=>rfl) (λcdv Ar outer s H E P0 hr hp=>?_)
 have hu:=hr.units
 replace hp:zar P0:=hp
 unfold zar at hp
 refine ⟨_,(zac (zfn (pv 0) (zdb (zcq (K:=K) rfl) rfl T.list PyProof.Rows.boot_list (pa_cons (pv 1) pa_nil)) rfl)
 zag),λp dx=>⟨([.ob true A.Line p dx [("weights",dL (List.map dI P0))],.va false (dQ K (List.map dI P0))]:L2.Ctx),?_,rfl⟩⟩
 show L2.Run _ ([.ob true A.Line p dx [],.va false (dQ K (List.map dI P0))]:L2.Ctx) _ _
 exact (zel (i:=0) rfl (EvO.ev (EvO.anyI (m:=false) (zd9 (zaa (i:=1) rfl)))) T.Line_cl T.Line_weights [] rfl (by decide +kernel) (by decide)
 (zaO (Wk.refl _)))
def zay (P0:(List Int)):(List Int):=P0
def zaA (P0:(List Int)):Prop:=True
def za3 (K:W.Frag) (A:Adr):Sp:=ziA (ι:=(List Int)) A.Rest (λx=>[dQ K (List.map dI x)]) (λx=>zaA x) true (λx=>[("weights",dL (List.map dI (zay x)))])
theorem zcH:FnScope ["self","weights"] ["self","weights"] (defScope zbU):=⟨rfl,rfl,rfl,by decide +kernel,rfl,by decide +kernel,by decide +kernel⟩
theorem zcF (F:Fun K "__init__" "Scale.__init__" zbU f fd) (T:Txt K mg A) :FnOk P w K mg base (CXE P w) 1 f fd ["self","weights"] (za3 K A):=by
 refine F.okI zcH (λ_=>rfl) (λcdv Ar outer s H E P0 hr hp=>?_)
 have hu:=hr.units
 replace hp:zaA P0:=hp
 unfold zaA at hp
 refine ⟨_,(zac (zfn (pv 0) (zdb (zcq (K:=K) rfl) rfl T.list PyProof.Rows.boot_list (pa_cons (pv 1) pa_nil)) rfl)
 zag),λp dx=>⟨([.ob true A.Rest p dx [("weights",dL (List.map dI P0))],.va false (dQ K (List.map dI P0))]:L2.Ctx),?_,rfl⟩⟩
 show L2.Run _ ([.ob true A.Rest p dx [],.va false (dQ K (List.map dI P0))]:L2.Ctx) _ _
 exact (zel (i:=0) rfl (EvO.ev (EvO.anyI (m:=false) (zd9 (zaa (i:=1) rfl)))) T.Rest_cl T.Rest_weights [] rfl (by decide +kernel) (by decide)
 (zaO (Wk.refl _)))
theorem zjJ {r:Int} {ws:List Int} (h:2≤r∧ws.length≤1000):decide (r<(2:Int))=false:=decide_eq_false (by omega)
def zbv (P0:Int) (P1:(List Int)):RestD:=⟨(zay (List.map (λ(x7:Int)=>(x7%P0)) P1)),P0⟩
def zaR (P0:Int) (P1:(List Int)):Prop:=2≤P0∧P1.length≤1000
def zcD (K:W.Frag) (A:Adr):Sp:=ziA (ι:=Int×(List Int)) A.Rest (λx=>[dI x.1,dQ K (List.map dI x.2)]) (λx=>zaR x.1 x.2) true (λx=>[("weights",dL (List.map dI ((zbv x.1 x.2).weights))),("rest",dI ((zbv x.1 x.2).rest))])
theorem zcz:FnScope ["self","rest","weights"] ["self","rest","weights"] (defScope zas):=⟨rfl,rfl,rfl,by decide +kernel,rfl,by decide +kernel,by decide +kernel⟩
theorem zdA (F:Fun K "__init__" "Rest.__init__" zas f fd) (T:Txt K mg A) {f_Scale___init___Rest:Addr} {fd_Scale___init___Rest:FuncData} (B_Scale___init___Rest:ByCls K A.Scale f_Scale___init___Rest "__init__") (G_Scale___init___Rest:FnOk P w K mg base (CXE P w) 1 f_Scale___init___Rest fd_Scale___init___Rest ["self","weights"] (za3 K A)) (b_Scale___init___Rest:zcY K fd_Scale___init___Rest ["self","weights"] []):FnOk P w K mg base (CXE P w) 2 f fd ["self","rest","weights"] (zcD K A):=by
 refine F.okI zcz (λ_=>rfl) (λcdv Ar outer s H E x hr hp=>?_)
 obtain ⟨P0,P1⟩:=x
 have hu:=hr.units
 replace hp:zaR P0 P1:=hp
 unfold zaR at hp
 refine ⟨_,(zac (zbI (pt_cmpR zhk (pv 1) pe_int (nomark _))
 (zac zfG zag)
 zag)
 (zac (zeh (zfu (pe_glob (v:=.ref A.Scale) rfl T.Scale rfl) B_Scale___init___Rest G_Scale___init___Rest (hr.mono (by decide)) b_Scale___init___Rest passE (pa_cons (pv 0) (pa_cons (pe_comp rfl (.of (osc:=(defScope zas)) (N:=["self","rest","weights"]) (own:=["weight"]) (fvn:=["rest"]) (fv:=[1]) rfl rfl (by decide +kernel)) (pi_list_K (K:=K) rfl (pv 2)) (λ_ _ _ _ _=>⟨(pg_name (i:=0) (show (["weight","rest"]:List Str).Nodup by decide +kernel) rfl (Or.inl rfl) (Or.inr rfl)),pts_nil,(zal za5 (pv 0) (pv 1))⟩)) pa_nil))))
 (zac (zfn (pv 0) (pv 1) rfl)
 zag))),λp dx=>⟨([.ob true A.Rest p dx [("weights",dL (List.map dI (zay (List.map (λ(x7:Int)=>(x7%P0)) P1)))),("rest",dI P0)],.va false (dI P0),.va false (dQ K (List.map dI P1))]:L2.Ctx),?_,rfl⟩⟩
 show L2.Run _ ([.ob true A.Rest p dx [],.va false (dI P0),.va false (dQ K (List.map dI P1))]:L2.Ctx) _ _
 exact (zdu (EvT.conv (zan (zaS (x:=P0) (y:=(2:Int)) (Ev.any (m:=false) (zaa (i:=1) rfl)) zak)) (by exact zjJ hp)) (zae
 (zfW (m2:=false) (i:=0) (x:=(List.map (λ(x7:Int)=>(x7%P0)) P1)) rfl (zab (Ev.weak (K:=K) (EvO.ev (EvO.conv (zdw (g:=(λ(x7:Int)=>dI (x7%P0))) (zdk (m:=false) dI (xs:=P1) (zaa (i:=2) rfl)) (by exact zaq (by have z:=hp.2;omega)) ⟨by decide,by decide⟩ (λi8 x7 hx9=>have qhx9:=List.mem_of_getElem? hx9;(zam (x:=x7) (y:=P0) (Ev.any (m:=false) (zaa (i:=0) rfl)) (Ev.any (m:=false) (zaa (i:=1) rfl)) (by show (0:Int)<_;have z:=hp.1;omega)))) (by first | (rw [List.map_map];rfl) | (simp only [cond_true,cond_false];rw [List.map_map];rfl))))) zah) rfl (by show zaA (List.map (λ(x7:Int)=>(x7%P0)) P1);exact trivial)
 (zel (i:=0) rfl (Ev.any (m:=false) (zaa (i:=1) rfl)) T.Rest_cl T.Rest_rest ["weights"] rfl (by decide +kernel) (by decide)
 (zaO (Wk.refl _))))))
def zdD (P0:Int) (P1:(List Int)):Prop:=P0<2
def zfz (K:W.Frag) (A:Adr):Sp:=zjO (ι:=Int×(List Int)) A.Rest (λx=>[dI x.1,dQ K (List.map dI x.2)]) (λx=>zdD x.1 x.2) (A.xc .BadRest)
theorem zhn (F:Fun K "__init__" "Rest.__init__" zas f fd) (T:Txt K mg A) {f_Scale___init___Rest:Addr} {fd_Scale___init___Rest:FuncData} (B_Scale___init___Rest:ByCls K A.Scale f_Scale___init___Rest "__init__") (G_Scale___init___Rest:FnOk P w K mg base (CXE P w) 1 f_Scale___init___Rest fd_Scale___init___Rest ["self","weights"] (za3 K A)) (b_Scale___init___Rest:zcY K fd_Scale___init___Rest ["self","weights"] []):FnOk P w K mg base (CXE P w) 2 f fd ["self","rest","weights"] (zfz K A):=by
 refine F.okIR (m:=true) zcz (λ_=>rfl) (λcdv Ar outer s H E x hr hp O=>?_)
 obtain ⟨P0,P1⟩:=x
 have hu:=hr.units
 replace hp:zdD P0 P1:=hp
 unfold zdD at hp
 refine ⟨_,([.no,.no,.no]:L2.Ctx),(zaG (zhS (pt_cmpR zhk (pv 1) pe_int (nomark _)) (zaG (zfy O rfl rfl T.xm_BadRest T.xi_BadRest PySem.F.excBase_ValueError (pa_cons za9 pa_nil)) zb0) zb0) (zaG (zcN (zeh (zfu (pe_glob (v:=.ref A.Scale) rfl T.Scale rfl) B_Scale___init___Rest G_Scale___init___Rest (hr.mono (by decide)) b_Scale___init___Rest passE (pa_cons (pv 0) (pa_cons (pe_comp rfl (.of (osc:=(defScope zas)) (N:=["self","rest","weights"]) (own:=["weight"]) (fvn:=["rest"]) (fv:=[1]) rfl rfl (by decide +kernel)) (pi_list_K (K:=K) rfl (pv 2)) (λ_ _ _ _ _=>⟨(pg_name (i:=0) (show (["weight","rest"]:List Str).Nodup by decide +kernel) rfl (Or.inl rfl) (Or.inr rfl)),pts_nil,(zal za5 (pv 0) (pv 1))⟩)) pa_nil))))) (zaG (zcN (zfn (pv 0) (pv 1) rfl)) zb0))),λp dx=>?_⟩
 show L2.Run _ ([.ob true A.Rest p dx [],.va false (dI P0),.va false (dQ K (List.map dI P1))]:L2.Ctx) _ _
 exact (zeJ (EvT.conv (zan (zaS (x:=P0) (y:=(2:Int)) (Ev.any (m:=false) (zaa (i:=1) rfl)) zak)) (by exact decide_eq_true hp)) (zad (zeG (m:=false) (zab zak zah) (by show 1≤sizeLine;decide) (.no (.no (.no .nil))))))
def zax (P0:LineD) (P1:(List Int)):Except Xn Int :=
 (zbV P0.weights P1)
def zaw (P0:LineD) (P1:(List Int)):Prop:=DrP P0.weights P1
def zaz (K:W.Frag) (A:Adr):Sp:=Spv (ι:=LineD×(List Int)) (λx=>[zf9 A.Line x.1,dQ K (List.map dI x.2)]) (λx=>zaw x.1 x.2) (λx=>zfN A.xc true dI (zax x.1 x.2))
theorem zc3:FnScope ["self","basket"] ["self","basket"] (defScope zcg):=⟨rfl,rfl,rfl,by decide +kernel,rfl,by decide +kernel,by decide +kernel⟩
theorem zcZ (F:Fun K "weigh" "Scale.weigh" zcg f fd) (T:Txt K mg A)  (GX_drawn:Callee P w K mg base (CXE P w) 3 "drawn" ["weights","basket"] (zdd K A)):FnOk P w K mg base (CXE P w) 4 f fd ["self","basket"] (zaz K A):=by
 refine F.okVX zc3 (λ_=>rfl) (λcdv Ar outer s H E x hr hp O=>?_)
 obtain ⟨P0,P1⟩:=x
 have hu:=hr.units
 replace hp:zaw P0 P1:=hp
 unfold zaw at hp
 refine ⟨_,(zaG (zfm (xe_fn O GX_drawn (hr.mono (by decide)) rfl (pa_cons (zcu (K:=K) rfl (pv 0) rfl) (pa_cons (pv 1) pa_nil))))
 zb0),.inl ?_⟩
 show L2.Run _ ([.va false (zf9 A.Line P0),.va false (dQ K (List.map dI P1))]:L2.Ctx) _ (zg5 2 (zfN A.xc true dI (zax P0 P1)))
 rw [zcL]
 show L2.Run _ _ _ ((foX A.xc ([.no,.no]:L2.Ctx) (λ(r:Int)=>Oc.rt true (dI r))) (zax P0 P1))
 unfold zax
 exact (zdB (zfC (x:=(P0.weights,P1)) (zab (Ev.weak (K:=K) (zdt (zaa (i:=0) rfl) T.Line_cl T.Line_weights rfl)) (zab (zaa (i:=1) rfl) zah)) rfl (by show zco P0.weights P1;exact hp) rfl) (.no (.no .nil)))
def zbt (P0:RestD) (P1:(List Int)):Except Xn Int :=
 (zf5 (zbV P0.weights P1) (λ(z10:Int)=>Except.ok (z10%P0.rest)))
def zba (P0:RestD) (P1:(List Int)):Prop:=DrP P0.weights P1∧0<P0.rest
def zbi (K:W.Frag) (A:Adr):Sp:=Spv (ι:=RestD×(List Int)) (λx=>[zf1 A.Rest x.1,dQ K (List.map dI x.2)]) (λx=>zba x.1 x.2) (λx=>zfN A.xc true dI (zbt x.1 x.2))
theorem zeb:FnScope ["self","basket"] ["self","basket"] (defScope zbq):=⟨rfl,rfl,rfl,by decide +kernel,rfl,by decide +kernel,by decide +kernel⟩
theorem zd0 (F:Fun K "weigh" "Rest.weigh" zbq f fd) (T:Txt K mg A)  (GX_drawn:Callee P w K mg base (CXE P w) 3 "drawn" ["weights","basket"] (zdd K A)):FnOk P w K mg base (CXE P w) 4 f fd ["self","basket"] (zbi K A):=by
 refine F.okVX zeb (λ_=>rfl) (λcdv Ar outer s H E x hr hp O=>?_)
 obtain ⟨P0,P1⟩:=x
 have hu:=hr.units
 replace hp:zba P0 P1:=hp
 unfold zba at hp
 refine ⟨_,(zaG (zfm (zj0 za5 (xe_fn O GX_drawn (hr.mono (by decide)) rfl (pa_cons (zcu (K:=K) rfl (pv 0) rfl) (pa_cons (pv 1) pa_nil))) (zcu (K:=K) rfl (pv 0) rfl)))
 zb0),.inl ?_⟩
 show L2.Run _ ([.va false (zf1 A.Rest P0),.va false (dQ K (List.map dI P1))]:L2.Ctx) _ (zg5 2 (zfN A.xc true dI (zbt P0 P1)))
 rw [zcL]
 show L2.Run _ _ _ ((foX A.xc ([.no,.no]:L2.Ctx) (λ(r:Int)=>Oc.rt true (dI r))) (zbt P0 P1))
 unfold zbt
 exact (zdB (zh8 (m:=true) (g:=λi j=>i%j) (y:=P0.rest) (zfC (x:=(P0.weights,P1)) (zab (Ev.weak (K:=K) (zdt (zaa (i:=0) rfl) T.Rest_cl T.Rest_weights rfl)) (zab (zaa (i:=1) rfl) zah)) rfl (by show zco P0.weights P1;exact hp.1) rfl) (Ev.any (m:=false) (zdt (zaa (i:=0) rfl) T.Rest_cl T.Rest_rest rfl)) (λ_=>(by show (0:Int)<_;exact hp.2))) (.no (.no .nil)))
def zaD (P0:LineD) (P1:(List Int)):Except Xn Bool :=
 (zf5 (zax P0 P1) (λ(z11:Int)=>Except.ok (decide (z11=(0:Int)))))
def zaF (P0:LineD) (P1:(List Int)):Prop:=DrP P0.weights P1
def zaI (K:W.Frag) (A:Adr):Sp:=Spv (ι:=LineD×(List Int)) (λx=>[zf9 A.Line x.1,dQ K (List.map dI x.2)]) (λx=>zaF x.1 x.2) (λx=>zfN A.xc true dB (zaD x.1 x.2))
theorem zc0:FnScope ["self","basket"] ["self","basket"] (defScope zce):=⟨rfl,rfl,rfl,by decide +kernel,rfl,by decide +kernel,by decide +kernel⟩
theorem zcJ (F:Fun K "levels" "Scale.levels" zce f fd) (T:Txt K mg A)  (GX_Scale_weigh_Line:CalleeM P w K mg base (CXE P w) 4 A.Line "weigh" ["self","basket"] (zaz K A)):FnOk P w K mg base (CXE P w) 5 f fd ["self","basket"] (zaI K A):=by
 refine F.okVX zc0 (λ_=>rfl) (λcdv Ar outer s H E x hr hp O=>?_)
 obtain ⟨P0,P1⟩:=x
 have hu:=hr.units
 replace hp:zaF P0 P1:=hp
 unfold zaF at hp
 refine ⟨_,(zaG (zfm (zhK op_eq (zd4 O (pv 0) T.Line_cl GX_Scale_weigh_Line (hr.mono (by decide)) (pa_cons (pv 1) pa_nil)) pe_int (nomark _)))
 zb0),.inl ?_⟩
 show L2.Run _ ([.va false (zf9 A.Line P0),.va false (dQ K (List.map dI P1))]:L2.Ctx) _ (zg5 2 (zfN A.xc true dB (zaD P0 P1)))
 rw [zcL]
 show L2.Run _ _ _ ((foX A.xc ([.no,.no]:L2.Ctx) (λ(r:Bool)=>Oc.rt true (dB r))) (zaD P0 P1))
 unfold zaD
 exact (zdB (zgr (m:=true) (y:=(0:Int)) (zdm (x:=(P0,P1)) (zaa (i:=0) rfl) (zab (zaa (i:=1) rfl) zah) rfl (by show zaw P0 P1;exact hp) rfl rfl) zak) (.no (.no .nil)))
def zaC (P0:RestD) (P1:(List Int)):Except Xn Bool :=
 (zf5 (zbt P0 P1) (λ(z12:Int)=>Except.ok (decide (z12=(0:Int)))))
def zaE (P0:RestD) (P1:(List Int)):Prop:=DrP P0.weights P1∧0<P0.rest
def zaJ (K:W.Frag) (A:Adr):Sp:=Spv (ι:=RestD×(List Int)) (λx=>[zf1 A.Rest x.1,dQ K (List.map dI x.2)]) (λx=>zaE x.1 x.2) (λx=>zfN A.xc true dB (zaC x.1 x.2))
theorem zc1:FnScope ["self","basket"] ["self","basket"] (defScope zcf):=⟨rfl,rfl,rfl,by decide +kernel,rfl,by decide +kernel,by decide +kernel⟩
theorem zcK (F:Fun K "levels" "Scale.levels" zcf f fd) (T:Txt K mg A)  (GX_Rest_weigh:CalleeM P w K mg base (CXE P w) 4 A.Rest "weigh" ["self","basket"] (zbi K A)):FnOk P w K mg base (CXE P w) 5 f fd ["self","basket"] (zaJ K A):=by
 refine F.okVX zc1 (λ_=>rfl) (λcdv Ar outer s H E x hr hp O=>?_)
 obtain ⟨P0,P1⟩:=x
 have hu:=hr.units
 replace hp:zaE P0 P1:=hp
 unfold zaE at hp
 refine ⟨_,(zaG (zfm (zhK op_eq (zd4 O (pv 0) T.Rest_cl GX_Rest_weigh (hr.mono (by decide)) (pa_cons (pv 1) pa_nil)) pe_int (nomark _)))
 zb0),.inl ?_⟩
 show L2.Run _ ([.va false (zf1 A.Rest P0),.va false (dQ K (List.map dI P1))]:L2.Ctx) _ (zg5 2 (zfN A.xc true dB (zaC P0 P1)))
 rw [zcL]
 show L2.Run _ _ _ ((foX A.xc ([.no,.no]:L2.Ctx) (λ(r:Bool)=>Oc.rt true (dB r))) (zaC P0 P1))
 unfold zaC
 exact (zdB (zgr (m:=true) (y:=(0:Int)) (zdm (x:=(P0,P1)) (zaa (i:=0) rfl) (zab (zaa (i:=1) rfl) zah) rfl (by show zba P0 P1;exact hp) rfl rfl) zak) (.no (.no .nil)))
def zcm (x:LineD ⊕ RestD) (b0:(List Int)):Except Xn Int:=match x with | .inl l=>zax l b0 | .inr r=>zbt r b0
def zcs (x:LineD ⊕ RestD) (b0:(List Int)):Prop:=match x with | .inl l=>zaw l b0 | .inr r=>zba r b0
theorem zeA {Γ:L2.Ctx} {ta:TE} {t:TA} {x:LineD ⊕ RestD} {b0:(List Int)} (h1:Ev Γ ta false (dSc A x)) (h:EvA Γ t false [dQ K (List.map dI b0)]) (hp:zcs x b0):EvX A.xc Γ (orX (zix A.Line "weigh" (zaz K A) ta t) (zix A.Rest "weigh" (zbi K A) ta t)) true dI (zcm x b0):=by
 cases x with
 | inl l=>exact EvX.inl (zdm (x:=(l,b0)) h1 h rfl hp rfl rfl)
 | inr r=>exact EvX.inr (zdm (x:=(r,b0)) h1 h rfl hp rfl rfl)
def zb9 (x:LineD ⊕ RestD) (b0:(List Int)):Except Xn Bool:=match x with | .inl l=>zaD l b0 | .inr r=>zaC r b0
def zcl (x:LineD ⊕ RestD) (b0:(List Int)):Prop:=match x with | .inl l=>zaF l b0 | .inr r=>zaE r b0
theorem zee {Γ:L2.Ctx} {ta:TE} {t:TA} {x:LineD ⊕ RestD} {b0:(List Int)} (h1:Ev Γ ta false (dSc A x)) (h:EvA Γ t false [dQ K (List.map dI b0)]) (hp:zcl x b0):EvX A.xc Γ (orX (zix A.Line "levels" (zaI K A) ta t) (zix A.Rest "levels" (zaJ K A) ta t)) true dB (zb9 x b0):=by
 cases x with
 | inl l=>exact EvX.inl (zdm (x:=(l,b0)) h1 h rfl hp rfl rfl)
 | inr r=>exact EvX.inr (zdm (x:=(r,b0)) h1 h rfl hp rfl rfl)
def m_law_whole (P0:(Option (Int ⊕ Bool))):Bool :=
 ((ibI P0)&&(!(ibB P0)))
def zaV (P0:(Option (Int ⊕ Bool))):Prop:=True
def zbS (K:W.Frag) (A:Adr):Sp:=Spv (ι:=(Option (Int ⊕ Bool))) (λx=>[zdh dIB x]) (λx=>zaV x) (λx=>.va true (dB (m_law_whole x)))
theorem zex:FnScope ["_law_found"] ["_law_found"] (defScope zbP):=⟨rfl,rfl,rfl,by decide +kernel,rfl,by decide +kernel,by decide +kernel⟩
theorem zeo (F:Fun K "_law_whole" "_law_whole" zbP f fd) (T:Txt K mg A) :FnOk P w K mg base (CXE P w) 1 f fd ["_law_found"] (zbS K A):=by
 refine F.okV zex (λ_=>rfl) (λcdv Ar outer s H E P0 hr hp=>?_)
 have hu:=hr.units
 replace hp:zaV P0:=hp
 unfold zaV at hp
 refine ⟨_,(zac (zau (zfp (pe_callB (call_isiB (K:=K) rfl) rfl T.isinstance PyProof.Rows.boot_isinstance (pa_cons (pv 0) (pa_cons (pe_bltn rfl T.int (v:=.ty "int") (u:=.type "int") (by decide +kernel) rfl) pa_nil))) (pe_one (pe_not (pe_callB (call_isiB (K:=K) rfl) rfl T.isinstance PyProof.Rows.boot_isinstance (pa_cons (pv 0) (pa_cons (pe_bltn rfl T.bool (v:=.ty "bool") (u:=.type "bool") (by decide +kernel) rfl) pa_nil)))))))
 zag),.inl ?_⟩
 show L2.Run _ ([.va false (zdh dIB P0)]:L2.Ctx) _ ((λ(r:Bool)=>Oc.rt true (dB r)) (m_law_whole P0))
 unfold m_law_whole
 exact (zaf (zaj (zeM (b:=(ibI P0)) (zgM (x:=P0) (zaa (i:=0) rfl) T.kit_NoneType_int T.kit_int_int T.kit_bool_int) (λhb=>(ziB (zeL (x:=P0) (zaa (i:=0) rfl) T.kit_NoneType_bool T.kit_int_bool T.kit_bool_bool))))))
def m_law_same (P0:(List Int)) (P1:(List Int)):Bool :=
 (bif ((!true)||(!decide (((P0.length:Nat):Int)=((P1.length:Nat):Int)))) then false
 else (((List.map (λ(x14:Int)=>(m_law_whole (some (Sum.inl x14)))) P0).all id)&&(decide (P0=P1))))
def za7 (P0:(List Int)) (P1:(List Int)):Prop:=P0.length≤1000
def zc7 (K:W.Frag) (A:Adr):Sp:=Spv (ι:=(List Int)×(List Int)) (λx=>[dL (List.map dI x.1),dQ K (List.map dI x.2)]) (λx=>za7 x.1 x.2) (λx=>.va true (dB (m_law_same x.1 x.2)))
theorem zfg:FnScope ["_law_found","_law_due"] ["_law_found","_law_due"] (defScope zbO):=⟨rfl,rfl,rfl,by decide +kernel,rfl,by decide +kernel,by decide +kernel⟩
theorem zeV (F:Fun K "_law_same" "_law_same" zbO f fd) (T:Txt K mg A) (G_law_whole:Callee P w K mg base (CXE P w) 1 "_law_whole" ["_law_found"] (zbS K A)):FnOk P w K mg base (CXE P w) 2 f fd ["_law_found","_law_due"] (zc7 K A):=by
 refine F.okV zfg (λ_=>rfl) (λcdv Ar outer s H E x hr hp=>?_)
 obtain ⟨P0,P1⟩:=x
 have hu:=hr.units
 replace hp:za7 P0 P1:=hp
 unfold za7 at hp
 refine ⟨_,(zac (zbI (PW.pt (zfJ (pt_not (pt_val (pe_callB (call_isiB (K:=K) rfl) rfl T.isinstance PyProof.Rows.boot_isinstance (pa_cons (pv 0) (pa_cons (pe_bltn rfl T.list (v:=.ty "list") (u:=.type "list") (by decide +kernel) rfl) pa_nil))))) (pw_or1 (pt_cmpR op_ne (pe_callB (call_len_K (K:=K) rfl) rfl T.len PySem.boot_len (pa_cons (pv 0) pa_nil)) (pe_callB (call_len_K (K:=K) rfl) rfl T.len PySem.boot_len (pa_cons (pv 1) pa_nil)) (nomark _)))))
 (zac (zau zds)
 zag)
 zag)
 (zac (zau (zfp (pe_callB (zf0 (K:=K) rfl rfl) rfl T.all PyProof.Rows.boot_all (pa_cons (pe_comp rfl (.of (osc:=(defScope zbO)) (N:=["_law_found","_law_due"]) (own:=["_law_one"]) (fvn:=[]) (fv:=[]) rfl rfl (by decide +kernel)) (pi_list_K (K:=K) rfl (pv 0)) (λ_ _ _ _ _=>⟨(pg_name (i:=0) (show (["_law_one"]:List Str).Nodup by decide +kernel) rfl (Or.inl rfl) (Or.inr rfl)),pts_nil,(pe_fn G_law_whole (hr.mono (by decide)) rfl passE (pa_cons (pv 0) pa_nil))⟩)) pa_nil)) (pe_one (pe_cmpR (op_eq_K (K:=K) rfl hu) (pv 0) (pv 1) (nomark _)))))
 zag)),.inl ?_⟩
 show L2.Run _ ([.va false (dL (List.map dI P0)),.va false (dQ K (List.map dI P1))]:L2.Ctx) _ ((λ(r:Bool)=>Oc.rt true (dB r)) (m_law_same P0 P1))
 unfold m_law_same
 exact (zai (b:=((!true)||(!decide (((P0.length:Nat):Int)=((P1.length:Nat):Int))))) (λ(r:Bool)=>Oc.rt true (dB r)) (zdf (b:=(!true)) (zaK (zaL (zhT (zaa (i:=0) rfl) T.kit_list_list))) (λhb=>(zan (zeE (x:=((P0.length:Nat):Int)) (y:=((P1.length:Nat):Int)) (zbz (f:=dI) (xs:=P0) (Ev.weak (K:=K) (zaa (i:=0) rfl))) (zbz (f:=dI) (xs:=P1) (zaa (i:=1) rfl)))))) (λh13=>(zad (zaf (zaj zak)))) (λh13 =>
 (zae (zaf (zaj (zeM (b:=((List.map (λ(x14:Int)=>(m_law_whole (some (Sum.inl x14)))) P0).all id)) (ziZ (xs:=(List.map (λ(x14:Int)=>(m_law_whole (some (Sum.inl x14)))) P0)) (Ev.weak (K:=K) (EvO.ev (EvO.conv (zdw (g:=(λ(x14:Int)=>dB (m_law_whole (some (Sum.inl x14))))) (zdk (m:=false) dI (xs:=P0) (Ev.weak (K:=K) (zaa (i:=0) rfl))) (by exact zaq (by omega)) ⟨by decide,by decide⟩ (λi15 x14 hx16=>have v16:=List.mem_of_getElem? hx16;(Ev.any (m:=true) (zat (x:=(some (Sum.inl x14))) (zab (Ev.any (m:=false) (zaa (i:=0) rfl)) zah) rfl (by show zaV (some (Sum.inl x14));exact trivial) rfl)))) (by first | (rw [List.map_map];rfl) | (simp only [cond_true,cond_false];rw [List.map_map];rfl)))))) (λhb=>(zeq (n:=0) (neg:=false) (xs:=P0) (ys:=P1) EqD.int (Ev.weak (K:=K) (zaa (i:=0) rfl)) (zaa (i:=1) rfl)))))))))
def m_law_flags (P0:(Option Xn)):(List Bool) :=
 (Let [(za0 zbr P0),(za0 zbw P0),(za0 zbF P0)] (λ(v17:(List Bool)) =>
 (Let (v17++[(za0 zbm P0),(za0 zaW P0),(za0 zbp P0)]) (λ(v18:(List Bool)) =>
 (Let (v18++[(za0 zbl P0),(za0 za8 P0),(za0 zbn P0)]) (λ(v19:(List Bool)) =>
 (Let (v19++[(za0 zbd P0),(za0 zaN P0),(za0 zaM P0)]) (λ(v20:(List Bool)) =>
 (Let (v20++[(za0 zbo P0),(za0 zaX P0),(za0 zbK P0)]) (λ(v21:(List Bool)) =>
 (Let (v21++[(za0 za6 P0),(za0 zbJ P0),(za0 zbD P0)]) (λ(v22:(List Bool)) =>
 (v22++[(za0 zb7 P0)])))))))))))))
def zb3 (P0:(Option Xn)):Prop:=True
def zcI (K:W.Frag) (A:Adr):Sp:=Spv (ι:=(Option Xn)) (λx=>[zdh (λe=>dE (A.xc e)) x]) (λx=>zb3 x) (λx=>.ow true (List.map dB (m_law_flags x)))
theorem zbc:FnScope ["_law_caught","_law_flags_here"] ["_law_caught"] (defScope zbL):=⟨rfl,rfl,rfl,by decide +kernel,rfl,by decide +kernel,by decide +kernel⟩
theorem zeC (F:Fun K "_law_flags" "_law_flags" zbL f fd) (T:Txt K mg A) :FnOk P w K mg base (CXE P w) 1 f fd ["_law_caught"] (zcI K A):=by
 refine F.okV zbc (λ_=>rfl) (λcdv Ar outer s H E P0 hr hp=>?_)
 have hu:=hr.units
 replace hp:zb3 P0:=hp
 unfold zb3 at hp
 refine ⟨_,(zac (zaB (i:=1) zbc.nd rfl (Or.inl rfl) (zcc (pa_cons (pe_callB (call_isiB (K:=K) rfl) rfl T.isinstance PyProof.Rows.boot_isinstance (pa_cons (pv 0) (pa_cons (pe_glob (v:=.ref A.k_NotAlike) rfl T.k_NotAlike rfl) pa_nil))) (pa_cons (pe_callB (call_isiB (K:=K) rfl) rfl T.isinstance PyProof.Rows.boot_isinstance (pa_cons (pv 0) (pa_cons (pe_glob (v:=.ref A.k_BadWares) rfl T.k_BadWares rfl) pa_nil))) (pa_cons (pe_callB (call_isiB (K:=K) rfl) rfl T.isinstance PyProof.Rows.boot_isinstance (pa_cons (pv 0) (pa_cons (pe_glob (v:=.ref A.k_TooMany) rfl T.k_TooMany rfl) pa_nil))) pa_nil)))))
 (zac (zaB (i:=1) zbc.nd rfl (Or.inl rfl) (zal zc2 (pv 1) (zcc (pa_cons (pe_callB (call_isiB (K:=K) rfl) rfl T.isinstance PyProof.Rows.boot_isinstance (pa_cons (pv 0) (pa_cons (pe_glob (v:=.ref A.k_BadSwap) rfl T.k_BadSwap rfl) pa_nil))) (pa_cons (pe_callB (call_isiB (K:=K) rfl) rfl T.isinstance PyProof.Rows.boot_isinstance (pa_cons (pv 0) (pa_cons (pe_glob (v:=.ref A.k_BadBasket) rfl T.k_BadBasket rfl) pa_nil))) (pa_cons (pe_callB (call_isiB (K:=K) rfl) rfl T.isinstance PyProof.Rows.boot_isinstance (pa_cons (pv 0) (pa_cons (pe_glob (v:=.ref A.k_BadRoad) rfl T.k_BadRoad rfl) pa_nil))) pa_nil))))))
 (zac (zaB (i:=1) zbc.nd rfl (Or.inl rfl) (zal zc2 (pv 1) (zcc (pa_cons (pe_callB (call_isiB (K:=K) rfl) rfl T.isinstance PyProof.Rows.boot_isinstance (pa_cons (pv 0) (pa_cons (pe_glob (v:=.ref A.k_Endless) rfl T.k_Endless rfl) pa_nil))) (pa_cons (pe_callB (call_isiB (K:=K) rfl) rfl T.isinstance PyProof.Rows.boot_isinstance (pa_cons (pv 0) (pa_cons (pe_glob (v:=.ref A.k_TooGreat) rfl T.k_TooGreat rfl) pa_nil))) (pa_cons (pe_callB (call_isiB (K:=K) rfl) rfl T.isinstance PyProof.Rows.boot_isinstance (pa_cons (pv 0) (pa_cons (pe_glob (v:=.ref A.k_BadRest) rfl T.k_BadRest rfl) pa_nil))) pa_nil))))))
 (zac (zaB (i:=1) zbc.nd rfl (Or.inl rfl) (zal zc2 (pv 1) (zcc (pa_cons (pe_callB (call_isiB (K:=K) rfl) rfl T.isinstance PyProof.Rows.boot_isinstance (pa_cons (pv 0) (pa_cons (pe_glob (v:=.ref A.k_BadScale) rfl T.k_BadScale rfl) pa_nil))) (pa_cons (pe_callB (call_isiB (K:=K) rfl) rfl T.isinstance PyProof.Rows.boot_isinstance (pa_cons (pv 0) (pa_cons (pe_glob (v:=.ref A.k_OtherWares) rfl T.k_OtherWares rfl) pa_nil))) (pa_cons (pe_callB (call_isiB (K:=K) rfl) rfl T.isinstance PyProof.Rows.boot_isinstance (pa_cons (pv 0) (pa_cons (pe_glob (v:=.ref A.k_BadBaskets) rfl T.k_BadBaskets rfl) pa_nil))) pa_nil))))))
 (zac (zaB (i:=1) zbc.nd rfl (Or.inl rfl) (zal zc2 (pv 1) (zcc (pa_cons (pe_callB (call_isiB (K:=K) rfl) rfl T.isinstance PyProof.Rows.boot_isinstance (pa_cons (pv 0) (pa_cons (pe_glob (v:=.ref A.k_NotKept) rfl T.k_NotKept rfl) pa_nil))) (pa_cons (pe_callB (call_isiB (K:=K) rfl) rfl T.isinstance PyProof.Rows.boot_isinstance (pa_cons (pv 0) (pa_cons (pe_glob (v:=.ref A.k_OtherBook) rfl T.k_OtherBook rfl) pa_nil))) (pa_cons (pe_callB (call_isiB (K:=K) rfl) rfl T.isinstance PyProof.Rows.boot_isinstance (pa_cons (pv 0) (pa_cons (pe_glob (v:=.ref A.k_NoLine) rfl T.k_NoLine rfl) pa_nil))) pa_nil))))))
 (zac (zaB (i:=1) zbc.nd rfl (Or.inl rfl) (zal zc2 (pv 1) (zcc (pa_cons (pe_callB (call_isiB (K:=K) rfl) rfl T.isinstance PyProof.Rows.boot_isinstance (pa_cons (pv 0) (pa_cons (pe_glob (v:=.ref A.k_BadNames) rfl T.k_BadNames rfl) pa_nil))) (pa_cons (pe_callB (call_isiB (K:=K) rfl) rfl T.isinstance PyProof.Rows.boot_isinstance (pa_cons (pv 0) (pa_cons (pe_glob (v:=.ref A.k_NoBook) rfl T.k_NoBook rfl) pa_nil))) (pa_cons (pe_callB (call_isiB (K:=K) rfl) rfl T.isinstance PyProof.Rows.boot_isinstance (pa_cons (pv 0) (pa_cons (pe_glob (v:=.ref A.k_NoName) rfl T.k_NoName rfl) pa_nil))) pa_nil))))))
 (zac (zau (zal zc2 (pv 1) (zcc (pa_cons (pe_callB (call_isiB (K:=K) rfl) rfl T.isinstance PyProof.Rows.boot_isinstance (pa_cons (pv 0) (pa_cons (pe_glob (v:=.ref A.k_NoSwap) rfl T.k_NoSwap rfl) pa_nil))) pa_nil))))
 zag))))))),.inl ?_⟩
 show L2.Run _ ([.va false (zdh (λe=>dE (A.xc e)) P0),.no]:L2.Ctx) _ ((λr=>Oc.rl true (List.map dB r)) (m_law_flags P0))
 unfold m_law_flags
 exact (zao (m:=true) (x:=[(za0 zbr P0),(za0 zbw P0),(za0 zbF P0)]) (λ(xs:(List Bool))=>dL (List.map dB xs)) (λr=>Oc.rl true (List.map dB r)) (EvO.ev (zbY (zab (zaY (xc:=A.xc) (x:=P0) (f:=zbr) (zaa (i:=0) rfl) T.i0_NotAlike T.hx_NotAlike) (zab (zaY (xc:=A.xc) (x:=P0) (f:=zbw) (zaa (i:=0) rfl) T.i0_BadWares T.hx_BadWares) (zab (zaY (xc:=A.xc) (x:=P0) (f:=zbF) (zaa (i:=0) rfl) T.i0_TooMany T.hx_TooMany) zah))) (by show 3≤sizeLine;decide))) (λv17 hv17 =>
 (zao (m:=true) (x:=(v17++[(za0 zbm P0),(za0 zaW P0),(za0 zbp P0)])) (λ(xs:(List Bool))=>dL (List.map dB xs)) (λr=>Oc.rl true (List.map dB r)) (EvO.ev (EvO.anyB (m:=true) (zck (f:=dB) (xs:=v17) (ys:=[(za0 zbm P0),(za0 zaW P0),(za0 zbp P0)]) (zaa (i:=1) rfl) (EvO.ev (zbY (zab (zaY (xc:=A.xc) (x:=P0) (f:=zbm) (zaa (i:=0) rfl) T.i0_BadSwap T.hx_BadSwap) (zab (zaY (xc:=A.xc) (x:=P0) (f:=zaW) (zaa (i:=0) rfl) T.i0_BadBasket T.hx_BadBasket) (zab (zaY (xc:=A.xc) (x:=P0) (f:=zbp) (zaa (i:=0) rfl) T.i0_BadRoad T.hx_BadRoad) zah))) (by show 3≤sizeLine;decide))) (by apply zaq;subst_vars;simp only [List.length_append,List.length_cons,List.length_nil,List.length_map];omega)))) (λv18 hv18 =>
 (zao (m:=true) (x:=(v18++[(za0 zbl P0),(za0 za8 P0),(za0 zbn P0)])) (λ(xs:(List Bool))=>dL (List.map dB xs)) (λr=>Oc.rl true (List.map dB r)) (EvO.ev (EvO.anyB (m:=true) (zck (f:=dB) (xs:=v18) (ys:=[(za0 zbl P0),(za0 za8 P0),(za0 zbn P0)]) (zaa (i:=1) rfl) (EvO.ev (zbY (zab (zaY (xc:=A.xc) (x:=P0) (f:=zbl) (zaa (i:=0) rfl) T.i0_Endless T.hx_Endless) (zab (zaY (xc:=A.xc) (x:=P0) (f:=za8) (zaa (i:=0) rfl) T.i0_TooGreat T.hx_TooGreat) (zab (zaY (xc:=A.xc) (x:=P0) (f:=zbn) (zaa (i:=0) rfl) T.i0_BadRest T.hx_BadRest) zah))) (by show 3≤sizeLine;decide))) (by apply zaq;subst_vars;simp only [List.length_append,List.length_cons,List.length_nil,List.length_map];omega)))) (λv19 hv19 =>
 (zao (m:=true) (x:=(v19++[(za0 zbd P0),(za0 zaN P0),(za0 zaM P0)])) (λ(xs:(List Bool))=>dL (List.map dB xs)) (λr=>Oc.rl true (List.map dB r)) (EvO.ev (EvO.anyB (m:=true) (zck (f:=dB) (xs:=v19) (ys:=[(za0 zbd P0),(za0 zaN P0),(za0 zaM P0)]) (zaa (i:=1) rfl) (EvO.ev (zbY (zab (zaY (xc:=A.xc) (x:=P0) (f:=zbd) (zaa (i:=0) rfl) T.i0_BadScale T.hx_BadScale) (zab (zaY (xc:=A.xc) (x:=P0) (f:=zaN) (zaa (i:=0) rfl) T.i0_OtherWares T.hx_OtherWares) (zab (zaY (xc:=A.xc) (x:=P0) (f:=zaM) (zaa (i:=0) rfl) T.i0_BadBaskets T.hx_BadBaskets) zah))) (by show 3≤sizeLine;decide))) (by apply zaq;subst_vars;simp only [List.length_append,List.length_cons,List.length_nil,List.length_map];omega)))) (λv20 hv20 =>
 (zao (m:=true) (x:=(v20++[(za0 zbo P0),(za0 zaX P0),(za0 zbK P0)])) (λ(xs:(List Bool))=>dL (List.map dB xs)) (λr=>Oc.rl true (List.map dB r)) (EvO.ev (EvO.anyB (m:=true) (zck (f:=dB) (xs:=v20) (ys:=[(za0 zbo P0),(za0 zaX P0),(za0 zbK P0)]) (zaa (i:=1) rfl) (EvO.ev (zbY (zab (zaY (xc:=A.xc) (x:=P0) (f:=zbo) (zaa (i:=0) rfl) T.i0_NotKept T.hx_NotKept) (zab (zaY (xc:=A.xc) (x:=P0) (f:=zaX) (zaa (i:=0) rfl) T.i0_OtherBook T.hx_OtherBook) (zab (zaY (xc:=A.xc) (x:=P0) (f:=zbK) (zaa (i:=0) rfl) T.i0_NoLine T.hx_NoLine) zah))) (by show 3≤sizeLine;decide))) (by apply zaq;subst_vars;simp only [List.length_append,List.length_cons,List.length_nil,List.length_map];omega)))) (λv21 hv21 =>
 (zao (m:=true) (x:=(v21++[(za0 za6 P0),(za0 zbJ P0),(za0 zbD P0)])) (λ(xs:(List Bool))=>dL (List.map dB xs)) (λr=>Oc.rl true (List.map dB r)) (EvO.ev (EvO.anyB (m:=true) (zck (f:=dB) (xs:=v21) (ys:=[(za0 za6 P0),(za0 zbJ P0),(za0 zbD P0)]) (zaa (i:=1) rfl) (EvO.ev (zbY (zab (zaY (xc:=A.xc) (x:=P0) (f:=za6) (zaa (i:=0) rfl) T.i0_BadNames T.hx_BadNames) (zab (zaY (xc:=A.xc) (x:=P0) (f:=zbJ) (zaa (i:=0) rfl) T.i0_NoBook T.hx_NoBook) (zab (zaY (xc:=A.xc) (x:=P0) (f:=zbD) (zaa (i:=0) rfl) T.i0_NoName T.hx_NoName) zah))) (by show 3≤sizeLine;decide))) (by apply zaq;subst_vars;simp only [List.length_append,List.length_cons,List.length_nil,List.length_map];omega)))) (λv22 hv22 =>
 (zfO (zhp (EvO.anyB (m:=true) (zck (f:=dB) (xs:=v22) (ys:=[(za0 zb7 P0)]) (zaa (i:=1) rfl) (EvO.ev (zbY (zab (zaY (xc:=A.xc) (x:=P0) (f:=zb7) (zaa (i:=0) rfl) T.i0_NoSwap T.hx_NoSwap) zah) (by show 1≤sizeLine;decide))) (by apply zaq;subst_vars;simp only [List.length_append,List.length_cons,List.length_nil,List.length_map];omega)))))))))))))))))
def m_law_only (P0:(Option Xn)) (P1:Str):Bool :=
 (Let [("NotAlike":Str),("BadWares":Str),("TooMany":Str),("BadSwap":Str),("BadBasket":Str),("BadRoad":Str),("Endless":Str),("TooGreat":Str)] (λ(v23:(List Str)) =>
 (Let (v23++[("BadRest":Str),("BadScale":Str),("OtherWares":Str),("BadBaskets":Str),("NotKept":Str),("OtherBook":Str),("NoLine":Str)]) (λ(v24:(List Str)) =>
 (Let (v24++[("BadNames":Str),("NoBook":Str),("NoName":Str),("NoSwap":Str)]) (λ(v25:(List Str)) =>
 ((za0 za2 P0)&&(decide ((m_law_flags P0)=(List.map (λ(x26:Str)=>(decide (x26=P1))) v25))))))))))
def zbR (P0:(Option Xn)) (P1:Str):Prop:=True
def zcr (K:W.Frag) (A:Adr):Sp:=Spv (ι:=(Option Xn)×Str) (λx=>[zdh (λe=>dE (A.xc e)) x.1,dS x.2]) (λx=>zbR x.1 x.2) (λx=>.va true (dB (m_law_only x.1 x.2)))
theorem zcx:FnScope ["_law_caught","_law_name","_law_names"] ["_law_caught","_law_name"] (defScope s_law_only):=⟨rfl,rfl,rfl,by decide +kernel,rfl,by decide +kernel,by decide +kernel⟩
theorem ze6 (F:Fun K "_law_only" "_law_only" s_law_only f fd) (T:Txt K mg A) (G_law_flags:Callee P w K mg base (CXE P w) 1 "_law_flags" ["_law_caught"] (zcI K A)):FnOk P w K mg base (CXE P w) 2 f fd ["_law_caught","_law_name"] (zcr K A):=by
 refine F.okV zcx (λ_=>rfl) (λcdv Ar outer s H E x hr hp=>?_)
 obtain ⟨P0,P1⟩:=x
 have hu:=hr.units
 replace hp:zbR P0 P1:=hp
 unfold zbR at hp
 refine ⟨_,(zac (zaB (i:=2) zcx.nd rfl (Or.inl rfl) (zcc (pa_cons za9 (pa_cons za9 (pa_cons za9 (pa_cons za9 (pa_cons za9 (pa_cons za9 (pa_cons za9 (pa_cons za9 pa_nil))))))))))
 (zac (zaB (i:=2) zcx.nd rfl (Or.inl rfl) (zal zc2 (pv 2) (zcc (pa_cons za9 (pa_cons za9 (pa_cons za9 (pa_cons za9 (pa_cons za9 (pa_cons za9 (pa_cons za9 pa_nil))))))))))
 (zac (zaB (i:=2) zcx.nd rfl (Or.inl rfl) (zal zc2 (pv 2) (zcc (pa_cons za9 (pa_cons za9 (pa_cons za9 (pa_cons za9 pa_nil)))))))
 (zac (zau (zfp (pe_callB (call_isiB (K:=K) rfl) rfl T.isinstance PyProof.Rows.boot_isinstance (pa_cons (pv 0) (pa_cons (pe_bltn rfl T.ValueError (v:=.ty "ValueError") (u:=.type "ValueError") (by decide +kernel) rfl) pa_nil))) (pe_one (pe_cmpR (op_eq_K (K:=K) rfl hu) (pe_fn G_law_flags (hr.mono (by decide)) rfl passE (pa_cons (pv 0) pa_nil)) (pe_comp rfl (.of (osc:=(defScope s_law_only)) (N:=["_law_caught","_law_name","_law_names"]) (own:=["_law_other"]) (fvn:=["_law_name"]) (fv:=[1]) rfl rfl (by decide +kernel)) (pi_list_K (K:=K) rfl (pv 2)) (λ_ _ _ _ _=>⟨(pg_name (i:=0) (show (["_law_other","_law_name"]:List Str).Nodup by decide +kernel) rfl (Or.inl rfl) (Or.inr rfl)),pts_nil,(pe_cmpR op_eq (pv 0) (pv 1) (nomark _))⟩)) (nomark _)))))
 zag)))),.inl ?_⟩
 show L2.Run _ ([.va false (zdh (λe=>dE (A.xc e)) P0),.va false (dS P1),.no]:L2.Ctx) _ ((λ(r:Bool)=>Oc.rt true (dB r)) (m_law_only P0 P1))
 unfold m_law_only
 exact (zao (m:=true) (x:=[("NotAlike":Str),("BadWares":Str),("TooMany":Str),("BadSwap":Str),("BadBasket":Str),("BadRoad":Str),("Endless":Str),("TooGreat":Str)]) (λ(xs:(List Str))=>dL (List.map dS xs)) (λ(r:Bool)=>Oc.rt true (dB r)) (EvO.ev (zbY (zab zak (zab zak (zab zak (zab zak (zab zak (zab zak (zab zak (zab zak zah)))))))) (by show 8≤sizeLine;decide))) (λv23 hv23 =>
 (zao (m:=true) (x:=(v23++[("BadRest":Str),("BadScale":Str),("OtherWares":Str),("BadBaskets":Str),("NotKept":Str),("OtherBook":Str),("NoLine":Str)])) (λ(xs:(List Str))=>dL (List.map dS xs)) (λ(r:Bool)=>Oc.rt true (dB r)) (EvO.ev (EvO.anyS (m:=true) (zck (f:=dS) (xs:=v23) (ys:=[("BadRest":Str),("BadScale":Str),("OtherWares":Str),("BadBaskets":Str),("NotKept":Str),("OtherBook":Str),("NoLine":Str)]) (zaa (i:=2) rfl) (EvO.ev (zbY (zab zak (zab zak (zab zak (zab zak (zab zak (zab zak (zab zak zah))))))) (by show 7≤sizeLine;decide))) (by apply zaq;subst_vars;simp only [List.length_append,List.length_cons,List.length_nil,List.length_map];omega)))) (λv24 hv24 =>
 (zao (m:=true) (x:=(v24++[("BadNames":Str),("NoBook":Str),("NoName":Str),("NoSwap":Str)])) (λ(xs:(List Str))=>dL (List.map dS xs)) (λ(r:Bool)=>Oc.rt true (dB r)) (EvO.ev (EvO.anyS (m:=true) (zck (f:=dS) (xs:=v24) (ys:=[("BadNames":Str),("NoBook":Str),("NoName":Str),("NoSwap":Str)]) (zaa (i:=2) rfl) (EvO.ev (zbY (zab zak (zab zak (zab zak (zab zak zah)))) (by show 4≤sizeLine;decide))) (by apply zaq;subst_vars;simp only [List.length_append,List.length_cons,List.length_nil,List.length_map];omega)))) (λv25 hv25 =>
 (zaf (zaj (zeM (b:=(za0 za2 P0)) (zgR (xc:=A.xc) (x:=P0) (f:=za2) (zaa (i:=0) rfl) T.i0_ValueError T.hx_ValueError) (λhb=>(zeq (n:=0) (neg:=false) (xs:=(m_law_flags P0)) (ys:=(List.map (λ(x26:Str)=>(decide (x26=P1))) v25)) EqD.bool (Ev.weak (K:=K) (EvO.ev (EvO.anyB (m:=true) (zg6 (x:=P0) (zab (zaa (i:=0) rfl) zah) rfl (by show zb3 P0;exact trivial) rfl)))) (Ev.weak (K:=K) (EvO.ev (EvO.conv (zdw (g:=(λ(x26:Str)=>dB (decide (x26=P1)))) (zdk (m:=true) dS (xs:=v25) (Ev.weak (K:=K) (zaa (i:=2) rfl))) (by apply zaq;subst_vars;simp only [List.length_append,List.length_cons,List.length_nil,List.length_map];omega) ⟨by decide,by decide⟩ (λi27 x26 hx28=>have v28:=List.mem_of_getElem? hx28;(zjr (x:=x26) (y:=P1) (Ev.any (m:=true) (zaa (i:=0) rfl)) (Ev.any (m:=false) (zaa (i:=1) rfl))))) (by first | (rw [List.map_map];rfl) | (simp only [cond_true,cond_false];rw [List.map_map];rfl))))))))))))))))
def m_law_at (P0:(List Int)) (P1:Int):Int :=
 (bif (decide (P1<((P0.length:Nat):Int))) then (ixD P0 P1)
 else (0:Int))
def zbC (P0:(List Int)) (P1:Int):Prop:=0≤P1
def zdY (K:W.Frag) (A:Adr):Sp:=Spv (ι:=(List Int)×Int) (λx=>[dQ K (List.map dI x.1),dI x.2]) (λx=>zbC x.1 x.2) (λx=>.va true (dI (m_law_at x.1 x.2)))
theorem zgj:FnScope ["_law_script","_law_k"] ["_law_script","_law_k"] (defScope zcX):=⟨rfl,rfl,rfl,by decide +kernel,rfl,by decide +kernel,by decide +kernel⟩
theorem zgP (F:Fun K "_law_at" "_law_at" zcX f fd) (T:Txt K mg A) :FnOk P w K mg base (CXE P w) 1 f fd ["_law_script","_law_k"] (zdY K A):=by
 refine F.okV zgj (λ_=>rfl) (λcdv Ar outer s H E x hr hp=>?_)
 obtain ⟨P0,P1⟩:=x
 have hu:=hr.units
 replace hp:zbC P0 P1:=hp
 unfold zbC at hp
 refine ⟨_,(zac (zbI (pt_cmpR zhk (pv 1) (pe_callB (call_len_K (K:=K) rfl) rfl T.len PySem.boot_len (pa_cons (pv 0) pa_nil)) (nomark _))
 (zac (zau (pe_ix (ix_list_K (K:=K) rfl) (pv 0) (pv 1) (λ_ _=>rfl)))
 zag)
 zag)
 (zac (zau pe_int)
 zag)),.inl ?_⟩
 show L2.Run _ ([.va false (dQ K (List.map dI P0)),.va false (dI P1)]:L2.Ctx) _ ((λ(r:Int)=>Oc.rt true (dI r)) (m_law_at P0 P1))
 unfold m_law_at
 exact (zai (b:=(decide (P1<((P0.length:Nat):Int)))) (λ(r:Int)=>Oc.rt true (dI r)) (zan (zaS (x:=P1) (y:=((P0.length:Nat):Int)) (Ev.any (m:=false) (zaa (i:=1) rfl)) (zbz (f:=dI) (xs:=P0) (zaa (i:=0) rfl)))) (λh29=>(zad (zaf (zaj (Ev.any (m:=false) (zaQ (f:=dI) (xs:=P0) (zaa (i:=0) rfl) (Ev.any (m:=false) (zaa (i:=1) rfl)) (by unfold InB;constructor<;>((try simp only [decide_eq_true_eq,decide_eq_false_iff_not,Bool.not_eq_true',Bool.not_eq_false',Bool.and_eq_true,Bool.or_eq_false_iff,Bool.or_eq_true,Bool.and_eq_false_iff,Bool.cond_eq_ite] at *)<;>omega)))))))) (λh29 =>
 (zae (zaf (zaj zak)))))
theorem zff {xs:List Int} (h:(decide (((xs.length:Nat):Int)=(0:Int)))=false):(0:Int)<(xs.length:Int):=by
 simp only [decide_eq_false_iff_not] at h;omega
theorem zjs {xs:List Int} {k:Int} (h:(decide (((xs.length:Nat):Int)=(0:Int)))=false):InB xs.length (k%((xs.length:Nat):Int)):=by
 have h0:=zff h
 have h1:=Int.emod_nonneg k (show (xs.length:Int)≠0 by omega)
 have h2:=Int.emod_lt_of_pos k h0
 unfold InB;omega
theorem zhN {x m:Int} (h1:2≤m) (h2:m.natAbs<2^1000):ziP x ((2:Int)*m-(1:Int)):=by
 refine ⟨by omega,zft (k:=1001) ?_ (by decide) (by decide)⟩
 have e:2^1001=2*2^1000:=by rw [Nat.pow_succ,Nat.mul_comm]
 rw [e]
 generalize (2:Nat)^1000=z at h2
 omega
theorem ziW {k:Int} (h1:0≤k) (h2:k<1000000):-(2^64)<(1:Int)+k*k∧(1:Int)+k*k<2^64:=by
 have a:0≤k*k:=Int.mul_nonneg h1 h1
 have b:k*k≤1000000*1000000:=Int.mul_le_mul (by omega) (by omega) h1 (by decide)
 omega
def m_law_entry (P0:(List Int)) (P1:Int) (P2:Int):Int :=
 (bif (decide (((P0.length:Nat):Int)=(0:Int))) then (0:Int)
 else (Let (ixD P0 (P1%((P0.length:Nat):Int))) (λ(v31:Int) =>
 (Let (v31/(2:Int)) (λ(v32:Int) =>
 (bif (decide ((v31%(2:Int))=(1:Int))) then (Let (List.foldl (λ(s34:Int) (x35:Int)=>(Let (s34/(((2:Int)*P2)-(1:Int))) (λ(v39:Int) =>
 v39))) v32 (rngZ 0 (min (59:Int) (P1/((P0.length:Nat):Int))).toNat)) (λ(r40:Int) =>
 (((r40%(((2:Int)*P2)-(1:Int)))-P2)+(1:Int))))
 else (Let ((v32*((1:Int)+(P1*P1)))%P2) (λ(v41:Int) =>
 (Let (bif (decide (((v32+P1)%(3:Int))=(1:Int))) then (v41%(7:Int)) else v41) (λ(v43:Int) =>
 (Let (bif (decide (((v32+P1)%(7:Int))=(2:Int))) then (0:Int) else v43) (λ(v45:Int) =>
 (bif (decide (((v32/(2:Int))%(2:Int))=(1:Int))) then ((0:Int)-v45)
 else v45)))))))))))))
def zaZ (P0:(List Int)) (P1:Int) (P2:Int):Prop:=0≤P1∧P1<1000000∧2≤P2∧P2.natAbs<2^1000∧P0.length≤1000
def zch (K:W.Frag) (A:Adr):Sp:=Spv (ι:=(List Int)×Int×Int) (λx=>[dQ K (List.map dI x.1),dI x.2.1,dI x.2.2]) (λx=>zaZ x.1 x.2.1 x.2.2) (λx=>.va true (dI (m_law_entry x.1 x.2.1 x.2.2)))
theorem zaT:FnScope ["_law_script","_law_k","_law_most","_law_cell","_law_number","_law_step","_law_mixed"] ["_law_script","_law_k","_law_most"] (defScope zbG):=⟨rfl,rfl,rfl,by decide +kernel,rfl,by decide +kernel,by decide +kernel⟩
theorem zeN (F:Fun K "_law_entry" "_law_entry" zbG f fd) (T:Txt K mg A) :FnOk P w K mg base (CXE P w) 1 f fd ["_law_script","_law_k","_law_most"] (zch K A):=by
 refine F.okV zaT (λ_=>rfl) (λcdv Ar outer s H E x hr hp=>?_)
 obtain ⟨P0,P1,P2⟩:=x
 have hu:=hr.units
 replace hp:zaZ P0 P1 P2:=hp
 unfold zaZ at hp
 refine ⟨_,(zac (zbI (pt_cmpR op_eq (pe_callB (call_len_K (K:=K) rfl) rfl T.len PySem.boot_len (pa_cons (pv 0) pa_nil)) pe_int (nomark _))
 (zac (zau pe_int)
 zag)
 zag)
 (zac (zaB (i:=3) zaT.nd rfl (Or.inl rfl) (pe_ix (ix_list_K (K:=K) rfl) (pv 0) (zal za5 (pv 1) (pe_callB (call_len_K (K:=K) rfl) rfl T.len PySem.boot_len (pa_cons (pv 0) pa_nil))) (λ_ _=>rfl)))
 (zac (zaB (i:=4) zaT.nd rfl (Or.inl rfl) (zal zb2 (pv 3) pe_int))
 (zac (zbI (pt_cmpR op_eq (zal za5 (pv 3) pe_int) pe_int (nomark _))
 (zac (zfx PassesOwn.never rfl (zdi rfl T.range (pa_cons (pe_callB (zgH rfl) rfl T.min PyProof.Rows.boot_min (pa_cons pe_int (pa_cons (zal zb2 (pv 1) (pe_callB (call_len_K (K:=K) rfl) rfl T.len PySem.boot_len (pa_cons (pv 0) pa_nil))) pa_nil))) pa_nil)) (pg_name (i:=5) zaT.nd rfl (Or.inl rfl) (Or.inl rfl))
 (zac (zaB (i:=4) zaT.nd rfl (Or.inl rfl) (zal zb2 (pv 4) (zal zdv (zal zcQ pe_int (pv 2)) pe_int)))
 zag))
 (zac (zau (zal zcC (zal zdv (zal za5 (pv 4) (zal zdv (zal zcQ pe_int (pv 2)) pe_int)) (pv 2)) pe_int))
 zag))
 zag)
 (zac (zaB (i:=6) zaT.nd rfl (Or.inl rfl) (zal za5 (zal zcQ (pv 4) (zal zcC pe_int (zal zcQ (pv 1) (pv 1)))) (pv 2)))
 (zac (zbI (pt_cmpR op_eq (zal za5 (zal zcC (pv 4) (pv 1)) pe_int) pe_int (nomark _))
 (zac (zaB (i:=6) zaT.nd rfl (Or.inl rfl) (zal za5 (pv 6) pe_int))
 zag)
 zag)
 (zac (zbI (pt_cmpR op_eq (zal za5 (zal zcC (pv 4) (pv 1)) pe_int) pe_int (nomark _))
 (zac (zaB (i:=6) zaT.nd rfl (Or.inl rfl) pe_int)
 zag)
 zag)
 (zac (zbI (pt_cmpR op_eq (zal za5 (zal zb2 (pv 4) pe_int) pe_int) pe_int (nomark _))
 (zac (zau (zal zdv pe_int (pv 6)))
 zag)
 zag)
 (zac (zau (pv 6))
 zag))))))))),.inl ?_⟩
 show L2.Run _ ([.va false (dQ K (List.map dI P0)),.va false (dI P1),.va false (dI P2),.no,.no,.no,.no]:L2.Ctx) _ ((λ(r:Int)=>Oc.rt true (dI r)) (m_law_entry P0 P1 P2))
 unfold m_law_entry
 exact (zai (b:=(decide (((P0.length:Nat):Int)=(0:Int)))) (λ(r:Int)=>Oc.rt true (dI r)) (zan (zbZ (x:=((P0.length:Nat):Int)) (y:=(0:Int)) (zbz (f:=dI) (xs:=P0) (zaa (i:=0) rfl)) zak)) (λh30=>(zad (zaf (zaj zak)))) (λh30 =>
 (zae (zao (m:=true) (x:=(ixD P0 (P1%((P0.length:Nat):Int)))) dI (λ(r:Int)=>Oc.rt true (dI r)) (Ev.any (m:=false) (zaQ (f:=dI) (xs:=P0) (zaa (i:=0) rfl) (zam (x:=P1) (y:=((P0.length:Nat):Int)) (Ev.any (m:=false) (zaa (i:=1) rfl)) (zbz (f:=dI) (xs:=P0) (zaa (i:=0) rfl)) (by exact zff (by assumption))) (by exact zjs (by assumption)))) (λv31 hv31 =>
 (zao (m:=true) (x:=(v31/(2:Int))) dI (λ(r:Int)=>Oc.rt true (dI r)) (zam (x:=v31) (y:=(2:Int)) (Ev.any (m:=true) (zaa (i:=3) rfl)) zak (by exact ⟨by decide,by decide⟩)) (λv32 hv32 =>
 (zai (b:=(decide ((v31%(2:Int))=(1:Int)))) (λ(r:Int)=>Oc.rt true (dI r)) (zan (zbZ (x:=(v31%(2:Int))) (y:=(1:Int)) (zam (x:=v31) (y:=(2:Int)) (Ev.any (m:=true) (zaa (i:=3) rfl)) zak (by decide)) zak)) (λh33=>(zad (zfw (s0:=v32) (λ(s34:Int)=>([.va false (dQ K (List.map dI P0)),.va false (dI P1),.va false (dI P2),.va true (dI v31),.va true (dI s34),.no,.no]:L2.Ctx)) (λ(r:Int)=>Oc.rt true (dI r)) (λ(s34:Int) (x35:Int)=>(Let (s34/(((2:Int)*P2)-(1:Int))) (λ(v39:Int) =>
 v39))) (λ_ _=>True) (zdM (m:=true) (n:=(min (59:Int) (P1/((P0.length:Nat):Int)))) (zjn (x:=(59:Int)) (y:=(P1/((P0.length:Nat):Int))) (zab zak (zab (zam (x:=P1) (y:=((P0.length:Nat):Int)) (Ev.any (m:=false) (zaa (i:=1) rfl)) (zbz (f:=dI) (xs:=P0) (zaa (i:=0) rfl)) (by exact ⟨zff (by assumption),zft (k:=10) (by omega) (by decide) (by decide)⟩)) zah))) (by have:=Int.ediv_nonneg (a:=P1) (b:=(P0.length:Int)) hp.1 (by omega);constructor<;>omega)) (.eq (.eq (.eq (.eq (.eq (.eq (.eq .nil))))))) trivial (λi36 x35 s34 hx37 hI38=>have v37:=zcR hx37;⟨trivial,
 (zao (m:=true) (x:=(s34/(((2:Int)*P2)-(1:Int)))) dI (λz=>Oc.nx ((λ(s34:Int)=>([.va false (dQ K (List.map dI P0)),.va false (dI P1),.va false (dI P2),.va true (dI v31),.va true (dI s34),.no,.no]:L2.Ctx)) z)) (zam (x:=s34) (y:=(((2:Int)*P2)-(1:Int))) (Ev.any (m:=true) (zaa (i:=4) rfl)) (zaS (x:=((2:Int)*P2)) (y:=(1:Int)) (zam (x:=(2:Int)) (y:=P2) zak (Ev.any (m:=false) (zaa (i:=2) rfl)) (by first | exact .inl ⟨by ((try simp only [decide_eq_true_eq,decide_eq_false_iff_not,Bool.not_eq_true',Bool.not_eq_false',Bool.and_eq_true,Bool.or_eq_false_iff,Bool.or_eq_true,Bool.and_eq_false_iff,Bool.cond_eq_ite] at *)<;>omega),by ((try simp only [decide_eq_true_eq,decide_eq_false_iff_not,Bool.not_eq_true',Bool.not_eq_false',Bool.and_eq_true,Bool.or_eq_false_iff,Bool.or_eq_true,Bool.and_eq_false_iff,Bool.cond_eq_ite] at *)<;>omega)⟩ | exact .inr (.inl ⟨by ((try simp only [decide_eq_true_eq,decide_eq_false_iff_not,Bool.not_eq_true',Bool.not_eq_false',Bool.and_eq_true,Bool.or_eq_false_iff,Bool.or_eq_true,Bool.and_eq_false_iff,Bool.cond_eq_ite] at *)<;>omega),by ((try simp only [decide_eq_true_eq,decide_eq_false_iff_not,Bool.not_eq_true',Bool.not_eq_false',Bool.and_eq_true,Bool.or_eq_false_iff,Bool.or_eq_true,Bool.and_eq_false_iff,Bool.cond_eq_ite] at *)<;>omega)⟩))) zak) (by exact zhN hp.2.2.1 hp.2.2.2.1)) (λv39 hv39 =>
 (zaO (.eq (.eq (.eq (.eq (.eq (.no (.eq .nil))))))))))⟩) (λr40 hr40 hI =>
 (zad (zaf (zaj (zaS (x:=((r40%(((2:Int)*P2)-(1:Int)))-P2)) (y:=(1:Int)) (zaS (x:=(r40%(((2:Int)*P2)-(1:Int)))) (y:=P2) (zam (x:=r40) (y:=(((2:Int)*P2)-(1:Int))) (Ev.any (m:=true) (zaa (i:=4) rfl)) (zaS (x:=((2:Int)*P2)) (y:=(1:Int)) (zam (x:=(2:Int)) (y:=P2) zak (Ev.any (m:=false) (zaa (i:=2) rfl)) (by first | exact .inl ⟨by ((try simp only [decide_eq_true_eq,decide_eq_false_iff_not,Bool.not_eq_true',Bool.not_eq_false',Bool.and_eq_true,Bool.or_eq_false_iff,Bool.or_eq_true,Bool.and_eq_false_iff,Bool.cond_eq_ite] at *)<;>omega),by ((try simp only [decide_eq_true_eq,decide_eq_false_iff_not,Bool.not_eq_true',Bool.not_eq_false',Bool.and_eq_true,Bool.or_eq_false_iff,Bool.or_eq_true,Bool.and_eq_false_iff,Bool.cond_eq_ite] at *)<;>omega)⟩ | exact .inr (.inl ⟨by ((try simp only [decide_eq_true_eq,decide_eq_false_iff_not,Bool.not_eq_true',Bool.not_eq_false',Bool.and_eq_true,Bool.or_eq_false_iff,Bool.or_eq_true,Bool.and_eq_false_iff,Bool.cond_eq_ite] at *)<;>omega),by ((try simp only [decide_eq_true_eq,decide_eq_false_iff_not,Bool.not_eq_true',Bool.not_eq_false',Bool.and_eq_true,Bool.or_eq_false_iff,Bool.or_eq_true,Bool.and_eq_false_iff,Bool.cond_eq_ite] at *)<;>omega)⟩))) zak) (by show (0:Int)<_;omega)) (Ev.any (m:=false) (zaa (i:=2) rfl))) zak)))))))) (λh33 =>
 (zae (zao (m:=true) (x:=((v32*((1:Int)+(P1*P1)))%P2)) dI (λ(r:Int)=>Oc.rt true (dI r)) (zam (x:=(v32*((1:Int)+(P1*P1)))) (y:=P2) (zam (x:=v32) (y:=((1:Int)+(P1*P1))) (Ev.any (m:=true) (zaa (i:=4) rfl)) (zaS (x:=(1:Int)) (y:=(P1*P1)) zak (zam (x:=P1) (y:=P1) (Ev.any (m:=false) (zaa (i:=1) rfl)) (Ev.any (m:=false) (zaa (i:=1) rfl)) (by first | exact .inl ⟨by ((try simp only [decide_eq_true_eq,decide_eq_false_iff_not,Bool.not_eq_true',Bool.not_eq_false',Bool.and_eq_true,Bool.or_eq_false_iff,Bool.or_eq_true,Bool.and_eq_false_iff,Bool.cond_eq_ite] at *)<;>omega),by ((try simp only [decide_eq_true_eq,decide_eq_false_iff_not,Bool.not_eq_true',Bool.not_eq_false',Bool.and_eq_true,Bool.or_eq_false_iff,Bool.or_eq_true,Bool.and_eq_false_iff,Bool.cond_eq_ite] at *)<;>omega)⟩ | exact .inr (.inl ⟨by ((try simp only [decide_eq_true_eq,decide_eq_false_iff_not,Bool.not_eq_true',Bool.not_eq_false',Bool.and_eq_true,Bool.or_eq_false_iff,Bool.or_eq_true,Bool.and_eq_false_iff,Bool.cond_eq_ite] at *)<;>omega),by ((try simp only [decide_eq_true_eq,decide_eq_false_iff_not,Bool.not_eq_true',Bool.not_eq_false',Bool.and_eq_true,Bool.or_eq_false_iff,Bool.or_eq_true,Bool.and_eq_false_iff,Bool.cond_eq_ite] at *)<;>omega)⟩)))) (by exact .inr (.inl (ziW hp.1 hp.2.1)))) (Ev.any (m:=false) (zaa (i:=2) rfl)) (by show (0:Int)<_;omega)) (λv41 hv41 =>
 (zfH (b:=(decide (((v32+P1)%(3:Int))=(1:Int)))) (λbb=>([.va false (dQ K (List.map dI P0)),.va false (dI P1),.va false (dI P2),.va true (dI v31),.va true (dI v32),.no,.va true (dI (bif bb then (v41%(7:Int)) else v41))]:L2.Ctx)) (zan (zbZ (x:=((v32+P1)%(3:Int))) (y:=(1:Int)) (zam (x:=(v32+P1)) (y:=(3:Int)) (zaS (x:=v32) (y:=P1) (Ev.any (m:=true) (zaa (i:=4) rfl)) (Ev.any (m:=false) (zaa (i:=1) rfl))) zak (by decide)) zak)) (λh42=>(zdp (m:=true) (zam (x:=v41) (y:=(7:Int)) (Ev.any (m:=true) (zaa (i:=6) rfl)) zak (by decide))
 (zaO (.eq (.eq (.eq (.eq (.eq (.eq (.eq .nil)))))))))) (λh42=>(zaO (.eq (.eq (.eq (.eq (.eq (.eq (.eq .nil)))))))))
 (zgy (x:=(bif (decide (((v32+P1)%(3:Int))=(1:Int))) then (v41%(7:Int)) else v41)) (λv43=>([.va false (dQ K (List.map dI P0)),.va false (dI P1),.va false (dI P2),.va true (dI v31),.va true (dI v32),.no,.va true (dI v43)]:L2.Ctx)) (λ(r:Int)=>Oc.rt true (dI r)) (λv43 hv43 =>
 (zfH (b:=(decide (((v32+P1)%(7:Int))=(2:Int)))) (λbb=>([.va false (dQ K (List.map dI P0)),.va false (dI P1),.va false (dI P2),.va true (dI v31),.va true (dI v32),.no,.va true (dI (bif bb then (0:Int) else v43))]:L2.Ctx)) (zan (zbZ (x:=((v32+P1)%(7:Int))) (y:=(2:Int)) (zam (x:=(v32+P1)) (y:=(7:Int)) (zaS (x:=v32) (y:=P1) (Ev.any (m:=true) (zaa (i:=4) rfl)) (Ev.any (m:=false) (zaa (i:=1) rfl))) zak (by decide)) zak)) (λh44=>(zdp (m:=true) zak
 (zaO (.eq (.eq (.eq (.eq (.eq (.eq (.eq .nil)))))))))) (λh44=>(zaO (.eq (.eq (.eq (.eq (.eq (.eq (.eq .nil)))))))))
 (zgy (x:=(bif (decide (((v32+P1)%(7:Int))=(2:Int))) then (0:Int) else v43)) (λv45=>([.va false (dQ K (List.map dI P0)),.va false (dI P1),.va false (dI P2),.va true (dI v31),.va true (dI v32),.no,.va true (dI v45)]:L2.Ctx)) (λ(r:Int)=>Oc.rt true (dI r)) (λv45 hv45 =>
 (zai (b:=(decide (((v32/(2:Int))%(2:Int))=(1:Int)))) (λ(r:Int)=>Oc.rt true (dI r)) (zan (zbZ (x:=((v32/(2:Int))%(2:Int))) (y:=(1:Int)) (zam (x:=(v32/(2:Int))) (y:=(2:Int)) (zam (x:=v32) (y:=(2:Int)) (Ev.any (m:=true) (zaa (i:=4) rfl)) zak (by exact ⟨by decide,by decide⟩)) zak (by decide)) zak)) (λh46=>(zad (zaf (zaj (zaS (x:=(0:Int)) (y:=v45) zak (Ev.any (m:=true) (zaa (i:=6) rfl))))))) (λh46 =>
 (zae (zaf (zaj (Ev.any (m:=true) (zaa (i:=6) rfl)))))))))))))))))))))))))
theorem ziK (xs:List Int) (k m:Int) (h:2≤m):-m<m_law_entry xs k m∧m_law_entry xs k m<m:=by
 unfold m_law_entry Let
 simp only [Bool.cond_eq_ite]
 generalize List.foldl _ _ _=z
 generalize ixD xs _=c
 have h1:=Int.emod_nonneg z (show 2*m-1≠0 by omega)
 have h2:=Int.emod_lt_of_pos z (show 0<2*m-1 by omega)
 have h3:=Int.emod_nonneg (c/2*(1+k*k)) (show m≠0 by omega)
 have h4:=Int.emod_lt_of_pos (c/2*(1+k*k)) (show 0<m by omega)
 generalize z%(2*m-1)=z1 at *
 generalize c/2*(1+k*k)%m=z2 at *
 have h5:0≤z2%7∧z2%7≤z2:=by omega
 generalize z2%7=z3 at *
 repeat' split
 all_goals omega
theorem zfX:(2:Int)≤((10:Int)^(60:Int).toNat)∧((10:Int)^(60:Int).toNat).natAbs<2^1000:=⟨by decide,by decide +kernel⟩
theorem zhs (xs:List Int) (k:Int):(m_law_entry xs k ((10:Int)^(60:Int).toNat)).natAbs<2^1000:=by
 have h:=ziK xs k _ zfX.1
 have h2:=zfX.2
 generalize ((10:Int)^(60:Int).toNat)=m at *
 generalize (2:Nat)^1000=z at *
 omega
theorem p59:(0:Int)<(10:Int)^(59:Int).toNat:=by decide +kernel
theorem zdC {α:Type} {xs:List α} {lo hi:Option Int}:(zcB xs lo hi).length≤xs.length:=by
 unfold zcB;rw [List.length_take,List.length_drop];omega
def BaP (xs ws:List Int) (k:Int):Prop:=xs.length≤63∧1≤ws.length∧ws.length≤8∧0≤k∧2+k<(xs.length:Int)
section
variable {xs ws b:List Int} {k z x:Int} {i:Nat} {g:Bool}
theorem zfe (h:BaP xs ws k) (hZ:z=((ws.length:Nat):Int)):1≤z∧z≤8:=by
 obtain ⟨_,h1,h2,_⟩:=h
 omega
theorem zko (h:BaP xs ws k) (hZ:z=((ws.length:Nat):Int)):(rngZ 0 z.toNat).length≤PySem.sizeLine:=zaq (by rw [zdc];have:=zfe h hZ;omega)
theorem zkr (h:BaP xs ws k) (hZ:z=((ws.length:Nat):Int)) (q:i<z.toNat∧x=0+(i:Int)):zaZ (zcB xs (some (3:Int)) none) ((((41:Int)*k)+x)+(11:Int)) ((10:Int)^(60:Int).toNat):=by
 have:=zfe h hZ
 obtain ⟨h1,h2,h3,h4,h5⟩:=h
 exact ⟨by omega,by omega,zfX.1,zfX.2,by have:=zdC (xs:=xs) (lo:=some 3) (hi:=none);omega⟩
theorem zh7 (h:BaP xs ws k):InB xs.length ((2:Int)+k):=by
 obtain ⟨h1,h2,h3,h4,h5⟩:=h
 unfold InB;omega
theorem zj1 {f:Int->Int} (h:BaP xs ws k) (hZ:z=((ws.length:Nat):Int)) (hB:b=List.map f (rngZ 0 z.toNat)):b.length+[(0:Int)].length≤PySem.sizeLine:=zaq (by rw [hB,List.length_map,zdc,List.length_singleton];have:=zfe h hZ;omega)
theorem zj8 (hZ:z=((ws.length:Nat):Int)) (q:(g&&decide ((1:Int)<z))=true):InB ws.length (1:Int)∧InB ws.length (0:Int):=by
 have:=of_decide_eq_true (Bool.and_eq_true_iff.mp q).2
 unfold InB;omega
theorem zjK (h:BaP xs ws k) (hZ:z=((ws.length:Nat):Int)):[(0:Int)].length*(z-(2:Int)).toNat≤PySem.sizeLine:=zaq (by rw [List.length_singleton];have:=zfe h hZ;omega)
theorem zjL {a c:Int} (h:BaP xs ws k) (hZ:z=((ws.length:Nat):Int)) (q:(g&&decide ((1:Int)<z))=true):[a,c].length+(zh1 (z-(2:Int)) [(0:Int)]).length≤PySem.sizeLine:=by
 have:=of_decide_eq_true (Bool.and_eq_true_iff.mp q).2
 have:=zfe h hZ
 obtain ⟨n,hn⟩:∃ n:Nat,z-2=(n:Int):=⟨(z-2).toNat,by omega⟩
 rw [hn,Lat.zhO]
 exact zaq (by show 2+n≤10000;omega)
end
def m_law_rest (P0:Int):Int :=
 (bif (decide ((P0%(4:Int))=(0:Int))) then ((1:Int)-(((P0/(4:Int))%(3:Int))*((P0/(12:Int))%((10:Int)^(59:Int).toNat))))
 else (bif (decide ((P0%(4:Int))=(1:Int))) then ((2:Int)+((P0/(4:Int))%(2:Int)))
 else ((2:Int)+((P0/(4:Int))%((10:Int)^(59:Int).toNat)))))
def zci (P0:Int):Prop:=True
def zc4 (K:W.Frag) (A:Adr):Sp:=Spv (ι:=Int) (λx=>[dI x]) (λx=>zci x) (λx=>.va true (dI (m_law_rest x)))
theorem zeW:FnScope ["_law_cell"] ["_law_cell"] (defScope zb6):=⟨rfl,rfl,rfl,by decide +kernel,rfl,by decide +kernel,by decide +kernel⟩
theorem ze8 (F:Fun K "_law_rest" "_law_rest" zb6 f fd) (T:Txt K mg A) :FnOk P w K mg base (CXE P w) 1 f fd ["_law_cell"] (zc4 K A):=by
 refine F.okV zeW (λ_=>rfl) (λcdv Ar outer s H E P0 hr hp=>?_)
 have hu:=hr.units
 replace hp:zci P0:=hp
 unfold zci at hp
 refine ⟨_,(zac (zbI (pt_cmpR op_eq (zal za5 (pv 0) pe_int) pe_int (nomark _))
 (zac (zau (zal zdv pe_int (zal zcQ (zal za5 (zal zb2 (pv 0) pe_int) pe_int) (zal za5 (zal zb2 (pv 0) pe_int) (zal zfF pe_int pe_int)))))
 zag)
 zag)
 (zac (zbI (pt_cmpR op_eq (zal za5 (pv 0) pe_int) pe_int (nomark _))
 (zac (zau (zal zcC pe_int (zal za5 (zal zb2 (pv 0) pe_int) pe_int)))
 zag)
 zag)
 (zac (zau (zal zcC pe_int (zal za5 (zal zb2 (pv 0) pe_int) (zal zfF pe_int pe_int))))
 zag))),.inl ?_⟩
 show L2.Run _ ([.va false (dI P0)]:L2.Ctx) _ ((λ(r:Int)=>Oc.rt true (dI r)) (m_law_rest P0))
 unfold m_law_rest
 exact (zai (b:=(decide ((P0%(4:Int))=(0:Int)))) (λ(r:Int)=>Oc.rt true (dI r)) (zan (zbZ (x:=(P0%(4:Int))) (y:=(0:Int)) (zam (x:=P0) (y:=(4:Int)) (Ev.any (m:=false) (zaa (i:=0) rfl)) zak (by decide)) zak)) (λh47=>(zad (zaf (zaj (zaS (x:=(1:Int)) (y:=(((P0/(4:Int))%(3:Int))*((P0/(12:Int))%((10:Int)^(59:Int).toNat)))) zak (zam (x:=((P0/(4:Int))%(3:Int))) (y:=((P0/(12:Int))%((10:Int)^(59:Int).toNat))) (zam (x:=(P0/(4:Int))) (y:=(3:Int)) (zam (x:=P0) (y:=(4:Int)) (Ev.any (m:=false) (zaa (i:=0) rfl)) zak (by exact ⟨by decide,by decide⟩)) zak (by decide)) (zam (x:=(P0/(12:Int))) (y:=((10:Int)^(59:Int).toNat)) (zam (x:=P0) (y:=(12:Int)) (Ev.any (m:=false) (zaa (i:=0) rfl)) zak (by exact ⟨by decide,by decide⟩)) (zam (x:=(10:Int)) (y:=(59:Int)) zak zak (by exact ⟨by decide,by decide,by decide⟩)) (by show (0:Int)<_;exact p59)) (by exact .inl ⟨by omega,by omega⟩))))))) (λh47 =>
 (zae (zai (b:=(decide ((P0%(4:Int))=(1:Int)))) (λ(r:Int)=>Oc.rt true (dI r)) (zan (zbZ (x:=(P0%(4:Int))) (y:=(1:Int)) (zam (x:=P0) (y:=(4:Int)) (Ev.any (m:=false) (zaa (i:=0) rfl)) zak (by decide)) zak)) (λh48=>(zad (zaf (zaj (zaS (x:=(2:Int)) (y:=((P0/(4:Int))%(2:Int))) zak (zam (x:=(P0/(4:Int))) (y:=(2:Int)) (zam (x:=P0) (y:=(4:Int)) (Ev.any (m:=false) (zaa (i:=0) rfl)) zak (by exact ⟨by decide,by decide⟩)) zak (by decide))))))) (λh48 =>
 (zae (zaf (zaj (zaS (x:=(2:Int)) (y:=((P0/(4:Int))%((10:Int)^(59:Int).toNat))) zak (zam (x:=(P0/(4:Int))) (y:=((10:Int)^(59:Int).toNat)) (zam (x:=P0) (y:=(4:Int)) (Ev.any (m:=false) (zaa (i:=0) rfl)) zak (by exact ⟨by decide,by decide⟩)) (zam (x:=(10:Int)) (y:=(59:Int)) zak zak (by exact ⟨by decide,by decide,by decide⟩)) (by show (0:Int)<_;exact p59)))))))))))
def m_law_basket (P0:(List Int)) (P1:(List Int)) (P2:Int):(List Int) :=
 (Let ((P1.length:Nat):Int) (λ(v49:Int) =>
 (Let (List.map (λ(x50:Int)=>(m_law_entry (zcB P0 (some (3:Int)) none) ((((41:Int)*P2)+x50)+(11:Int)) ((10:Int)^(60:Int).toNat))) (rngZ 0 v49.toNat)) (λ(v53:(List Int)) =>
 (Let (ixD P0 ((2:Int)+P2)) (λ(v54:Int) =>
 (bif (decide ((v54%(8:Int))=(1:Int))) then (zcB v53 (some (1:Int)) none)
 else (bif (decide ((v54%(8:Int))=(2:Int))) then (v53++[(0:Int)])
 else (bif ((decide ((v54%(4:Int))=(3:Int)))&&(decide ((1:Int)<v49))) then ([(ixD P1 (1:Int)),((0:Int)-(ixD P1 (0:Int)))]++(zh1 (v49-(2:Int)) [(0:Int)]))
 else v53)))))))))
def zbh (P0:(List Int)) (P1:(List Int)) (P2:Int):Prop:=BaP P0 P1 P2
def zcp (K:W.Frag) (A:Adr):Sp:=Spv (ι:=(List Int)×(List Int)×Int) (λx=>[dQ K (List.map dI x.1),dQ K (List.map dI x.2.1),dI x.2.2]) (λx=>zbh x.1 x.2.1 x.2.2) (λx=>.va true (dL (List.map dI (m_law_basket x.1 x.2.1 x.2.2))))
theorem zb5:FnScope ["_law_script","_law_weights","_law_k","_law_size","_law_basket_here","_law_cell"] ["_law_script","_law_weights","_law_k"] (defScope zbb):=⟨rfl,rfl,rfl,by decide +kernel,rfl,by decide +kernel,by decide +kernel⟩
theorem zd8 (F:Fun K "_law_basket" "_law_basket" zbb f fd) (T:Txt K mg A) (G_law_entry:Callee P w K mg base (CXE P w) 1 "_law_entry" ["_law_script","_law_k","_law_most"] (zch K A)):FnOk P w K mg base (CXE P w) 2 f fd ["_law_script","_law_weights","_law_k"] (zcp K A):=by
 refine F.okV zb5 (λ_=>rfl) (λcdv Ar outer s H E x hr hp=>?_)
 obtain ⟨P0,P1,P2⟩:=x
 have hu:=hr.units
 replace hp:zbh P0 P1 P2:=hp
 unfold zbh at hp
 refine ⟨_,(zac (zaB (i:=3) zb5.nd rfl (Or.inl rfl) (pe_callB (call_len_K (K:=K) rfl) rfl T.len PySem.boot_len (pa_cons (pv 1) pa_nil)))
 (zac (zeZ (i:=4) rfl zb5.nd rfl rfl (.of (osc:=(defScope zbb)) (N:=["_law_script","_law_weights","_law_k","_law_size","_law_basket_here","_law_cell"]) (own:=["_law_j"]) (fvn:=["_law_script","_law_k"]) (fv:=[0,2]) rfl rfl (by decide +kernel)) (zdi rfl T.range (pa_cons (pv 3) pa_nil)) (λ_ _ _ _ _=>⟨(pg_name (i:=0) (show (["_law_j","_law_script","_law_k"]:List Str).Nodup by decide +kernel) rfl (Or.inl rfl) (Or.inr rfl)),pts_nil,(pe_fn G_law_entry (hr.mono (by decide)) rfl passE (pa_cons (zdE (zdg (K:=K) rfl) (pv 1) (zdI pe_int) zfi) (pa_cons (zal zcC (zal zcC (zal zcQ pe_int (pv 2)) (pv 0)) pe_int) (pa_cons (zal zfF pe_int pe_int) pa_nil))))⟩))
 (zac (zaB (i:=5) zb5.nd rfl (Or.inl rfl) (pe_ix (ix_list_K (K:=K) rfl) (pv 0) (zal zcC pe_int (pv 2)) (λ_ _=>rfl)))
 (zac (zbI (pt_cmpR op_eq (zal za5 (pv 5) pe_int) pe_int (nomark _))
 (zac (zau (zdE (zdg (K:=K) rfl) (pv 4) (zdI pe_int) zfi))
 zag)
 zag)
 (zac (zbI (pt_cmpR op_eq (zal za5 (pv 5) pe_int) pe_int (nomark _))
 (zac (zau (zal zc2 (pv 4) (zcc (pa_cons pe_int pa_nil))))
 zag)
 zag)
 (zac (zbI (PW.pt (zf6 (pt_cmpR op_eq (zal za5 (pv 5) pe_int) pe_int (nomark _)) (ze4 (pt_cmpR zjM (pv 3) pe_int (nomark _)))))
 (zac (zau (zal zc2 (zcc (pa_cons (pe_ix (ix_list_K (K:=K) rfl) (pv 1) pe_int (λ_ _=>rfl)) (pa_cons (zal zdv pe_int (pe_ix (ix_list_K (K:=K) rfl) (pv 1) pe_int (λ_ _=>rfl))) pa_nil))) (zal ziE (zcc (pa_cons pe_int pa_nil)) (zal zdv (pv 3) pe_int))))
 zag)
 zag)
 (zac (zau (pv 4))
 zag))))))),.inl ?_⟩
 show L2.Run _ ([.va false (dQ K (List.map dI P0)),.va false (dQ K (List.map dI P1)),.va false (dI P2),.no,.no,.no]:L2.Ctx) _ ((λ(r:(List Int))=>Oc.rt true (dL (List.map dI r))) (m_law_basket P0 P1 P2))
 unfold m_law_basket
 exact (zao (m:=true) (x:=((P1.length:Nat):Int)) dI (λ(r:(List Int))=>Oc.rt true (dL (List.map dI r))) (zbz (f:=dI) (xs:=P1) (zaa (i:=1) rfl)) (λv49 hv49 =>
 have hZ:=hv49;(zao (m:=true) (x:=(List.map (λ(x50:Int)=>(m_law_entry (zcB P0 (some (3:Int)) none) ((((41:Int)*P2)+x50)+(11:Int)) ((10:Int)^(60:Int).toNat))) (rngZ 0 v49.toNat))) (λ(xs:(List Int))=>dL (List.map dI xs)) (λ(r:(List Int))=>Oc.rt true (dL (List.map dI r))) (EvO.ev (EvO.conv (zdw (g:=(λ(x50:Int)=>dI (m_law_entry (zcB P0 (some (3:Int)) none) ((((41:Int)*P2)+x50)+(11:Int)) ((10:Int)^(60:Int).toNat)))) (zdM (m:=true) (n:=v49) (Ev.any (m:=true) (zaa (i:=3) rfl)) (by have z:=zfe hp hZ;refine ⟨?_,?_⟩<;>omega)) (by exact zko hp hZ) ⟨by decide,by decide⟩ (λi51 x50 hx52=>have v52:=zcR hx52;(Ev.any (m:=true) (zat (x:=((zcB P0 (some (3:Int)) none),((((41:Int)*P2)+x50)+(11:Int)),((10:Int)^(60:Int).toNat))) (zab (Ev.weak (K:=K) (EvO.ev (EvO.anyI (m:=false) (zdX (f:=dI) (xs:=P0) (zaa (i:=1) rfl) (zcv zak) zej)))) (zab (zaS (x:=(((41:Int)*P2)+x50)) (y:=(11:Int)) (zaS (x:=((41:Int)*P2)) (y:=x50) (zam (x:=(41:Int)) (y:=P2) zak (Ev.any (m:=false) (zaa (i:=2) rfl)) (by exact .inl ⟨by decide,by decide⟩)) (Ev.any (m:=true) (zaa (i:=0) rfl))) zak) (zab (zam (x:=(10:Int)) (y:=(60:Int)) zak zak (by exact ⟨by decide,by decide,by decide⟩)) zah))) rfl (by show zaZ (zcB P0 (some (3:Int)) none) ((((41:Int)*P2)+x50)+(11:Int)) ((10:Int)^(60:Int).toNat);exact zkr hp hZ (by assumption)) rfl)))) (by first | (rw [List.map_map];rfl) | (simp only [cond_true,cond_false];rw [List.map_map];rfl)))) (λv53 hv53 =>
 have hB:=hv53;(zao (m:=true) (x:=(ixD P0 ((2:Int)+P2))) dI (λ(r:(List Int))=>Oc.rt true (dL (List.map dI r))) (Ev.any (m:=false) (zaQ (f:=dI) (xs:=P0) (zaa (i:=0) rfl) (zaS (x:=(2:Int)) (y:=P2) zak (Ev.any (m:=false) (zaa (i:=2) rfl))) (by exact zh7 hp))) (λv54 hv54 =>
 (zai (b:=(decide ((v54%(8:Int))=(1:Int)))) (λ(r:(List Int))=>Oc.rt true (dL (List.map dI r))) (zan (zbZ (x:=(v54%(8:Int))) (y:=(1:Int)) (zam (x:=v54) (y:=(8:Int)) (Ev.any (m:=true) (zaa (i:=5) rfl)) zak (by decide)) zak)) (λh55=>(zad (zaf (zaj (EvO.ev (EvO.anyI (m:=true) (zdX (f:=dI) (xs:=v53) (Ev.weak (K:=K) (zaa (i:=4) rfl)) (zcv zak) zej))))))) (λh55 =>
 (zae (zai (b:=(decide ((v54%(8:Int))=(2:Int)))) (λ(r:(List Int))=>Oc.rt true (dL (List.map dI r))) (zan (zbZ (x:=(v54%(8:Int))) (y:=(2:Int)) (zam (x:=v54) (y:=(8:Int)) (Ev.any (m:=true) (zaa (i:=5) rfl)) zak (by decide)) zak)) (λh56=>(zad (zaf (zaj (EvO.ev (EvO.anyI (m:=true) (zck (f:=dI) (xs:=v53) (ys:=[(0:Int)]) (zaa (i:=4) rfl) (EvO.ev (zbY (zab zak zah) (by show 1≤sizeLine;decide))) (by exact zj1 hp hZ hB)))))))) (λh56 =>
 (zae (zai (b:=((decide ((v54%(4:Int))=(3:Int)))&&(decide ((1:Int)<v49)))) (λ(r:(List Int))=>Oc.rt true (dL (List.map dI r))) (ze9 (b:=(decide ((v54%(4:Int))=(3:Int)))) (zan (zbZ (x:=(v54%(4:Int))) (y:=(3:Int)) (zam (x:=v54) (y:=(4:Int)) (Ev.any (m:=true) (zaa (i:=5) rfl)) zak (by decide)) zak)) (λhb=>(zan (zaS (x:=v49) (y:=(1:Int)) (Ev.any (m:=true) (zaa (i:=3) rfl)) zak)))) (λh57=>(zad (zaf (zaj (EvO.ev (zck (f:=dI) (xs:=[(ixD P1 (1:Int)),((0:Int)-(ixD P1 (0:Int)))]) (ys:=(zh1 (v49-(2:Int)) [(0:Int)])) (EvO.ev (zbY (zab (Ev.any (m:=false) (zaQ (f:=dI) (xs:=P1) (zaa (i:=1) rfl) zak (by exact (zj8 hZ (by assumption)).1))) (zab (zaS (x:=(0:Int)) (y:=(ixD P1 (0:Int))) zak (Ev.any (m:=false) (zaQ (f:=dI) (xs:=P1) (zaa (i:=1) rfl) zak (by exact (zj8 hZ (by assumption)).2)))) zah)) (by show 2≤sizeLine;decide))) (EvO.ev (zig (f:=dI) (xs:=[(0:Int)]) (n:=(v49-(2:Int))) (EvO.ev (zbY (zab zak zah) (by show 1≤sizeLine;decide))) (zaS (x:=v49) (y:=(2:Int)) (Ev.any (m:=true) (zaa (i:=3) rfl)) zak) (by have z:=zfe hp hZ;constructor<;>omega) (by exact zjK hp hZ))) (by exact zjL hp hZ (by assumption)))))))) (λh57 =>
 (zae (zaf (zaj (zaa (i:=4) rfl))))))))))))))))))
theorem zhz {xs ws:List Int} {k:Int} (h:BaP xs ws k) (hw:Lat.Bit 1000 ws):Lat.Bit 1001 (m_law_basket xs ws k):=by
 unfold m_law_basket Let
 dsimp only
 have hb:Lat.Bit 1001 (List.map (λ(x:Int)=>m_law_entry (zcB xs (some (3:Int)) none) ((((41:Int)*k)+x)+(11:Int)) ((10:Int)^(60:Int).toNat)) (rngZ 0 (((ws.length:Nat):Int)).toNat)):=λy hy=>by
  obtain ⟨x,_,rfl⟩:=List.mem_map.mp hy
  exact Nat.le_trans (Nat.le_of_lt (zhs _ _)) (Nat.pow_le_pow_right (by decide) (by decide))
 generalize List.map _ (rngZ 0 (((ws.length:Nat):Int)).toNat)=b at *
 have wx:∀ i:Int,(ixD ws i).natAbs≤2^1000:=λi=>by
  by_cases q:InB ws.length i
  ·exact hw _ (zhM q)
  ·have:ixD ws i=0:=by
    unfold ixD atI ixN
    unfold InB at q
    by_cases h0:0≤i
    ·rw [if_pos h0,if_neg (by omega)];rfl
    ·rw [if_neg h0,if_neg (by omega)];rfl
   rw [this];exact Nat.zero_le _
 cases decide (ixD xs (2+k)%8=1) with
 | true=>rw [cond_true];exact λy hy=>hb y (Lat.zhR hy)
 | false =>
  rw [cond_false]
  cases decide (ixD xs (2+k)%8=2) with
  | true =>
   rw [cond_true]
   intro y hy
   rcases List.mem_append.mp hy with hy | hy
   ·exact hb y hy
   ·rw [List.mem_singleton.mp hy];exact Nat.zero_le _
  | false =>
   rw [cond_false]
   cases (decide (ixD xs (2+k)%4=3)&&decide ((1:Int)<((ws.length:Nat):Int))) with
   | false=>rw [cond_false];exact hb
   | true =>
    rw [cond_true]
    intro y hy
    rcases List.mem_append.mp hy with hy | hy
    ·have h1:=wx 1;have h0:=wx 0
     have e:(2:Nat)^1000≤2^1001:=Nat.pow_le_pow_right (by decide) (by decide)
     have:y=ixD ws 1∨y=0-ixD ws 0:=by simpa using hy
     generalize (2:Nat)^1000=z1 at *
     generalize (2:Nat)^1001=z2 at *
     rcases this with q | q<;>rw [q]<;>omega
    ·have:y=0:=by
      unfold zh1 at hy
      obtain ⟨l,hl,hy⟩:=List.mem_flatten.mp hy
      have:=List.eq_of_mem_replicate hl
      rw [this] at hy
      exact List.mem_singleton.mp hy
     rw [this];exact Nat.zero_le _
def AsP (s:LineD ⊕ RestD) (b:List Int):Prop:=DrP (scW s) b∧(s.isRight=true->0<(gR s).rest)
theorem zka {s:LineD ⊕ RestD} {b:List Int} (h:AsP s b):zcs s b:=by
 cases s with
 | inl l=>exact h.1
 | inr r=>exact ⟨h.1,h.2 rfl⟩
theorem zj7 {s:LineD ⊕ RestD} {b:List Int} (h:AsP s b):zcl s b:=by
 cases s with
 | inl l=>exact h.1
 | inr r=>exact ⟨h.1,h.2 rfl⟩
def wv:LineD ⊕ RestD->List Int->Int
 | .inl l,b=>m_weighed l.weights b
 | .inr r,b=>m_weighed r.weights b%r.rest
theorem zi5 (w b:List Int):zbV w b=if b.length=w.length then .ok (m_weighed w b) else .error .BadBasket:=by
 unfold zbV
 by_cases q:b.length=w.length
 ·rw [if_pos q,decide_eq_true (by omega)];rfl
 ·rw [if_neg q,decide_eq_false (by omega)];rfl
theorem zhm (s:LineD ⊕ RestD) (b:List Int):(zcm s b=if b.length=(scW s).length then .ok (wv s b) else .error .BadBasket)∧(zb9 s b=if b.length=(scW s).length then .ok (decide (wv s b=0)) else .error .BadBasket):=by
 cases s with
 | inl l =>
  have e:zcm (.inl l) b=zbV l.weights b:=rfl
  have e2:zb9 (.inl l) b=zf5 (zbV l.weights b) (λz=>.ok (decide (z=(0:Int)))):=rfl
  rw [e,e2,zi5]
  show (_=if b.length=l.weights.length then _ else _)∧(_=if b.length=l.weights.length then _ else _)
  by_cases q:b.length=l.weights.length
  ·rw [if_pos q,if_pos q,if_pos q];exact ⟨rfl,rfl⟩
  ·rw [if_neg q,if_neg q,if_neg q];exact ⟨rfl,rfl⟩
 | inr r =>
  have e:zcm (.inr r) b=zf5 (zbV r.weights b) (λz=>.ok (z%r.rest)):=rfl
  have e2:zb9 (.inr r) b=zf5 (zf5 (zbV r.weights b) (λz=>.ok (z%r.rest))) (λz=>.ok (decide (z=(0:Int)))):=rfl
  rw [e,e2,zi5]
  show (_=if b.length=r.weights.length then _ else _)∧(_=if b.length=r.weights.length then _ else _)
  by_cases q:b.length=r.weights.length
  ·rw [if_pos q,if_pos q,if_pos q];exact ⟨rfl,rfl⟩
  ·rw [if_neg q,if_neg q,if_neg q];exact ⟨rfl,rfl⟩
def m_law_asked (P0:(LineD ⊕ RestD)) (P1:(List Int)) (P2:Int):((Option (Int ⊕ Bool))×(Option Xn)) :=
 (Let () (λ(v58:Unit) =>
 (Let () (λ(v59:Unit) =>
 (Let (bif (decide (P2=(0:Int))) then (zf5 (zcm P0 P1) (λ(v62:Int) =>
 (Except.ok (Sum.inl v62))))
 else (zf5 (zb9 P0 P1) (λ(v63:Bool) =>
 (Except.ok (Sum.inr v63))))) (λ(r64:Except Xn (Int ⊕ Bool)) =>
 ((okO r64),(ziw r64))))))))
def zb4 (P0:(LineD ⊕ RestD)) (P1:(List Int)) (P2:Int):Prop:=AsP P0 P1
def zcO (K:W.Frag) (A:Adr):Sp:=Spv (ι:=(LineD ⊕ RestD)×(List Int)×Int) (λx=>[dSc A x.1,dL (List.map dI x.2.1),dI x.2.2]) (λx=>zb4 x.1 x.2.1 x.2.2) (λx=>.va true (dT [zdh dIB ((m_law_asked x.1 x.2.1 x.2.2).1),zdh (λe=>dE (A.xc e)) ((m_law_asked x.1 x.2.1 x.2.2).2)]))
theorem zbu:FnScope ["_law_scale","_law_basket_here","_law_way","_law_found","_law_caught","e"] ["_law_scale","_law_basket_here","_law_way"] (defScope zbN):=⟨rfl,rfl,rfl,by decide +kernel,rfl,by decide +kernel,by decide +kernel⟩
theorem zeI (F:Fun K "_law_asked" "_law_asked" zbN f fd) (T:Txt K mg A)  (GX_Rest_weigh:CalleeM P w K mg base (CXE P w) 4 A.Rest "weigh" ["self","basket"] (zbi K A))  (GX_Scale_levels_Line:CalleeM P w K mg base (CXE P w) 5 A.Line "levels" ["self","basket"] (zaI K A))  (GX_Scale_levels_Rest:CalleeM P w K mg base (CXE P w) 5 A.Rest "levels" ["self","basket"] (zaJ K A))  (GX_Scale_weigh_Line:CalleeM P w K mg base (CXE P w) 4 A.Line "weigh" ["self","basket"] (zaz K A)):FnOk P w K mg base (CXE P w) 6 f fd ["_law_scale","_law_basket_here","_law_way"] (zcO K A):=by
 refine F.okVX zbu (λ_=>rfl) (λcdv Ar outer s H E x hr hp O=>?_)
 obtain ⟨P0,P1,P2⟩:=x
 have hu:=hr.units
 replace hp:zb4 P0 P1 P2:=hp
 unfold zb4 at hp
 refine ⟨_,(zaG (zcN (zaB (i:=3) zbu.nd rfl (Or.inl rfl) zf8))
 (zaG (zcN (zaB (i:=4) zbu.nd rfl (Or.inl rfl) zf8))
 (zaG (zhL (K:=K) O rfl zbu.nd (i:=5) (j:=4) rfl rfl rfl (Or.inl rfl) (Or.inr rfl) rfl T.k_SwapError (zaG (zhS (pt_cmpR op_eq (pv 2) pe_int (nomark _))
 (zaG (zhB (i:=3) zbu.nd rfl (Or.inl rfl) (ziC (zd4 O (pv 0) T.Line_cl GX_Scale_weigh_Line (hr.mono (by decide)) (pa_cons (pv 1) pa_nil)) (zd4 O (pv 0) T.Rest_cl GX_Rest_weigh (hr.mono (by decide)) (pa_cons (pv 1) pa_nil))))
 zb0)
 (zaG (zhB (i:=3) zbu.nd rfl (Or.inl rfl) (ziC (zd4 O (pv 0) T.Line_cl GX_Scale_levels_Line (hr.mono (by decide)) (pa_cons (pv 1) pa_nil)) (zd4 O (pv 0) T.Rest_cl GX_Scale_levels_Rest (hr.mono (by decide)) (pa_cons (pv 1) pa_nil))))
 zb0))
 zb0))
 (zaG (zcN (zau (zjv (pa_cons (pv 3) (pa_cons (pv 4) pa_nil)))))
 zb0)))),.inl ?_⟩
 show L2.Run _ ([.va false (dSc A P0),.va false (dL (List.map dI P1)),.va false (dI P2),.no,.no,.no]:L2.Ctx) _ ((λ(r:((Option (Int ⊕ Bool))×(Option Xn)))=>Oc.rt true (dT [zdh dIB r.1,zdh (λe=>dE (A.xc e)) r.2])) (m_law_asked P0 P1 P2))
 unfold m_law_asked
 exact (zao (m:=true) (x:=()) (λ_=>dN) (λ(r:((Option (Int ⊕ Bool))×(Option Xn)))=>Oc.rt true (dT [zdh dIB r.1,zdh (λe=>dE (A.xc e)) r.2])) zak (λv58 hv58 =>
 (zao (m:=true) (x:=()) (λ_=>dN) (λ(r:((Option (Int ⊕ Bool))×(Option Xn)))=>Oc.rt true (dT [zdh dIB r.1,zdh (λe=>dE (A.xc e)) r.2])) zak (λv59 hv59 =>
 (zfE (xc:=A.xc) (λ(z60:(Int ⊕ Bool))=>([.va false (dSc A P0),.va false (dL (List.map dI P1)),.va false (dI P2),.va true (dIB z60),.va true (dN),.no]:L2.Ctx)) ([.va false (dSc A P0),.va false (dL (List.map dI P1)),.va false (dI P2),.va true (dN),.va true (dN),.no]:L2.Ctx) (λ(r64:Except Xn (Int ⊕ Bool))=>([.va false (dSc A P0),.va false (dL (List.map dI P1)),.va false (dI P2),.va true (zdh dIB (okO r64)),.va true (zdh (λe=>dE (A.xc e)) (ziw r64)),.no]:L2.Ctx)) (λ(r:((Option (Int ⊕ Bool))×(Option Xn)))=>Oc.rt true (dT [zdh dIB r.1,zdh (λe=>dE (A.xc e)) r.2])) (λE1=>(zai (b:=(decide (P2=(0:Int)))) (foX A.xc ([.va false (dSc A P0),.va false (dL (List.map dI P1)),.va false (dI P2),.va true (dN),.va true (dN),.no]:L2.Ctx) (λv=>Oc.nx ((λ(z60:(Int ⊕ Bool))=>([.va false (dSc A P0),.va false (dL (List.map dI P1)),.va false (dI P2),.va true (dIB z60),.va true (dN),.no]:L2.Ctx)) v))) (zan (zbZ (x:=P2) (y:=(0:Int)) (Ev.any (m:=false) (zaa (i:=2) rfl)) zak)) (λh61=>(zad (zet (λv=>Oc.nx ((λ(z60:(Int ⊕ Bool))=>([.va false (dSc A P0),.va false (dL (List.map dI P1)),.va false (dI P2),.va true (dIB z60),.va true (dN),.no]:L2.Ctx)) v)) (zeA (zaa (i:=0) rfl) (zab (Ev.weak (K:=K) (zaa (i:=1) rfl)) zah) (by show zcs P0 P1;first | exact zka hp | exact zj7 hp)) (.eq (.eq (.eq (.eq (.eq (.eq .nil)))))) (λv62 hv62 =>
 (zae (zaO (.eq (.eq (.eq (.eq (.eq (.eq .nil)))))))))))) (λh61 =>
 (zad (zet (λv=>Oc.nx ((λ(z60:(Int ⊕ Bool))=>([.va false (dSc A P0),.va false (dL (List.map dI P1)),.va false (dI P2),.va true (dIB z60),.va true (dN),.no]:L2.Ctx)) v)) (zee (zaa (i:=0) rfl) (zab (Ev.weak (K:=K) (zaa (i:=1) rfl)) zah) (by show zcl P0 P1;first | exact zka hp | exact zj7 hp)) (.eq (.eq (.eq (.eq (.eq (.eq .nil)))))) (λv63 hv63 =>
 (zae (zaO (.eq (.eq (.eq (.eq (.eq (.eq .nil)))))))))))))) (λz60=>(.eq (.eq (.eq (.eq (.eq (.eq .nil))))))) (λe=>⟨match e with | .BadBasket=>T.exm_BadBasket | .BadRest=>T.exm_BadRest,(.eq (.eq (.eq (.eq (.eq (.eq .nil))))))⟩) (λr64 hr64 =>
 (zaf (zaj (zjt (zab (zaa (i:=3) rfl) (zab (zaa (i:=4) rfl) zah)) (by show 2≤sizeLine;decide))))))))))
section
variable {s:LineD ⊕ RestD} {b:List Int} {w z:Int} {p:Option (Int ⊕ Bool)×Option Xn}
theorem zgl (hl:b.length=(scW s).length):m_law_asked s b w=(some (bif decide (w=(0:Int)) then Sum.inl (wv s b) else Sum.inr (decide (wv s b=0))),none):=by
 unfold m_law_asked Let
 dsimp only
 rw [(zhm s b).1,(zhm s b).2,if_pos hl,if_pos hl]
 cases decide (w=(0:Int))<;>rfl
theorem ziO (hl:¬ b.length=(scW s).length):m_law_asked s b w=(none,some .BadBasket):=by
 unfold m_law_asked Let
 dsimp only
 rw [(zhm s b).1,(zhm s b).2,if_neg hl,if_neg hl]
 cases decide (w=(0:Int))<;>rfl
theorem zht (h:AsP s b∧z=(((scW s).length:Nat):Int)) (q:(!decide (((b.length:Nat):Int)=z))=false):b.length=(scW s).length:=by
 have q:((b.length:Nat):Int)=z:=by simpa using q
 have:=h.2
 omega
theorem zkm (h:AsP s b∧z=(((scW s).length:Nat):Int)) (hF:p=m_law_asked s b w) (q:(!decide (((b.length:Nat):Int)=z))=false) (q2:decide (w=(0:Int))=true):ibN p.1=true:=by
 rw [hF,zgl (zht h q),q2];rfl
theorem zkh (h:AsP s b∧z=(((scW s).length:Nat):Int)) (hF:p=m_law_asked s b w) (q:(!decide (((b.length:Nat):Int)=z))=false) (q2:decide (w=(1:Int))=true):ibB p.1=true:=by
 have:decide (w=(0:Int))=false:=decide_eq_false (by have:=of_decide_eq_true q2;omega)
 rw [hF,zgl (zht h q),this];rfl
end
def m_law_good (P0:(LineD ⊕ RestD)) (P1:(List Int)) (P2:Int) (P3:Int) (P4:Int):Bool :=
 (ziy (loopR (λ(s65:Unit) (x66:Int)=>(((Let (m_law_asked P0 P1 x66) (λ(p70:((Option (Int ⊕ Bool))×(Option Xn))) =>
 (bif (!decide (P1=P1)) then (Sum.inr false)
 else (bif (!decide (((P1.length:Nat):Int)=P2)) then (bif (!(m_law_only p70.2 ("BadBasket":Str))) then (Sum.inr false)
 else (Sum.inl ()))
 else (bif ((decide (x66=(0:Int)))&&((!(m_law_whole p70.1))||(!decide ((gI p70.1)=P3)))) then (Sum.inr false)
 else (bif ((decide (x66=(1:Int)))&&((!(ibB p70.1))||(!decide ((gB p70.1)=(decide (P3=(0:Int))))))) then (Sum.inr false)
 else (Sum.inl ())))))))):(Unit) ⊕ Bool)) () [P4,((1:Int)-P4)]) (λ(r76:Unit) =>
 true) (λb=>b))
def zbe (P0:(LineD ⊕ RestD)) (P1:(List Int)) (P2:Int) (P3:Int) (P4:Int):Prop:=AsP P0 P1∧P2=(((scW P0).length:Nat):Int)
def zc8 (K:W.Frag) (A:Adr):Sp:=Spv (ι:=(LineD ⊕ RestD)×(List Int)×Int×Int×Int) (λx=>[dSc A x.1,dL (List.map dI x.2.1),dI x.2.2.1,dI x.2.2.2.1,dI x.2.2.2.2]) (λx=>zbe x.1 x.2.1 x.2.2.1 x.2.2.2.1 x.2.2.2.2) (λx=>.va true (dB (m_law_good x.1 x.2.1 x.2.2.1 x.2.2.2.1 x.2.2.2.2)))
theorem zcb:FnScope ["_law_scale","_law_basket_here","_law_size","_law_due","_law_ahead","_law_handed","_law_way","_law_found","_law_caught"] ["_law_scale","_law_basket_here","_law_size","_law_due","_law_ahead"] (defScope zb8):=⟨rfl,rfl,rfl,by decide +kernel,rfl,by decide +kernel,by decide +kernel⟩
theorem zfb (F:Fun K "_law_good" "_law_good" zb8 f fd) (T:Txt K mg A) (G_law_asked:Callee P w K mg base (CXE P w) 6 "_law_asked" ["_law_scale","_law_basket_here","_law_way"] (zcO K A)) (G_law_only:Callee P w K mg base (CXE P w) 2 "_law_only" ["_law_caught","_law_name"] (zcr K A)) (G_law_whole:Callee P w K mg base (CXE P w) 1 "_law_whole" ["_law_found"] (zbS K A)):FnOk P w K mg base (CXE P w) 7 f fd ["_law_scale","_law_basket_here","_law_size","_law_due","_law_ahead"] (zc8 K A):=by
 refine F.okV zcb (λ_=>rfl) (λcdv Ar outer s H E x hr hp=>?_)
 obtain ⟨P0,P1,P2,P3,P4⟩:=x
 have hu:=hr.units
 replace hp:zbe P0 P1 P2 P3 P4:=hp
 unfold zbe at hp
 refine ⟨_,(zac (zaB (i:=5) zcb.nd rfl (Or.inl rfl) (zdb (zcq (K:=K) rfl) rfl T.list PyProof.Rows.boot_list (pa_cons (pv 1) pa_nil)))
 (zac (zfx PassesOwn.never rfl (pi_list_K (K:=K) rfl (zcc (pa_cons (pv 4) (pa_cons (zal zdv pe_int (pv 4)) pa_nil)))) (pg_name (i:=6) zcb.nd rfl (Or.inl rfl) (Or.inl rfl))
 (zac (zjd (pe_fn G_law_asked (hr.mono (by decide)) rfl passE (pa_cons (pv 0) (pa_cons (pv 5) (pa_cons (pv 6) pa_nil)))) (zek (K:=K) (n:=2) rfl rfl (zcT (pg_name (i:=7) zcb.nd rfl (Or.inl rfl) (Or.inl rfl)) (zcT (pg_name (i:=8) zcb.nd rfl (Or.inl rfl) (Or.inl rfl)) ze3))))
 (zac (zbI (pt_cmpR (zgs (K:=K) rfl hu) (pv 5) (pv 1) (nomark _))
 (zac (zau zds)
 zag)
 zag)
 (zac (zbI (pt_cmpR op_ne (pe_callB (call_len_K (K:=K) rfl) rfl T.len PySem.boot_len (pa_cons (pv 1) pa_nil)) (pv 2) (nomark _))
 (zac (zbI (pt_not (pt_val (pe_fn G_law_only (hr.mono (by decide)) rfl passE (pa_cons (pv 8) (pa_cons za9 pa_nil)))))
 (zac (zau zds)
 zag)
 zag)
 zag)
 (zac (zbI (PW.pt (zf6 (pt_cmpR op_eq (pv 6) pe_int (nomark _)) (ze4 (PW.pt (zfJ (pt_not (pt_val (pe_fn G_law_whole (hr.mono (by decide)) rfl passE (pa_cons (pv 7) pa_nil)))) (pw_or1 (pt_cmpR op_ne (pv 7) (pv 3) (nomark _))))))))
 (zac (zau zds)
 zag)
 (zac (zbI (PW.pt (zf6 (pt_cmpR op_eq (pv 6) pe_int (nomark _)) (ze4 (PW.pt (zfJ (pt_not (pt_val (pe_callB (call_isiB (K:=K) rfl) rfl T.isinstance PyProof.Rows.boot_isinstance (pa_cons (pv 7) (pa_cons (pe_bltn rfl T.bool (v:=.ty "bool") (u:=.type "bool") (by decide +kernel) rfl) pa_nil))))) (pw_or1 (pt_cmpR op_ne (pv 7) (pe_cmpR op_eq (pv 3) pe_int (nomark _)) (nomark _))))))))
 (zac (zau zds)
 zag)
 zag)
 zag))
 zag))
 zag))))
 (zac (zau zds)
 zag))),.inl ?_⟩
 show L2.Run _ ([.va false (dSc A P0),.va false (dL (List.map dI P1)),.va false (dI P2),.va false (dI P3),.va false (dI P4),.no,.no,.no,.no]:L2.Ctx) _ ((λ(r:Bool)=>Oc.rt true (dB r)) (m_law_good P0 P1 P2 P3 P4))
 unfold m_law_good
 exact (zdp (m:=true) (EvO.ev (EvO.anyI (m:=false) (zd9 (Ev.weak (K:=K) (zaa (i:=1) rfl)))))
 (zeg (s0:=()) (λ(s65:Unit)=>([.va false (dSc A P0),.va false (dL (List.map dI P1)),.va false (dI P2),.va false (dI P3),.va false (dI P4),.va true (dL (List.map dI P1)),.no,.no,.no]:L2.Ctx)) (λ(r:Bool)=>Oc.rt true (dB r)) (λb=>b) (λ(s65:Unit) (x66:Int)=>(((Let (m_law_asked P0 P1 x66) (λ(p70:((Option (Int ⊕ Bool))×(Option Xn))) =>
 (bif (!decide (P1=P1)) then (Sum.inr false)
 else (bif (!decide (((P1.length:Nat):Int)=P2)) then (bif (!(m_law_only p70.2 ("BadBasket":Str))) then (Sum.inr false)
 else (Sum.inl ()))
 else (bif ((decide (x66=(0:Int)))&&((!(m_law_whole p70.1))||(!decide ((gI p70.1)=P3)))) then (Sum.inr false)
 else (bif ((decide (x66=(1:Int)))&&((!(ibB p70.1))||(!decide ((gB p70.1)=(decide (P3=(0:Int))))))) then (Sum.inr false)
 else (Sum.inl ())))))))):(Unit) ⊕ Bool)) (λ_ _=>True) (λb=>.inl ⟨_,_,rfl⟩) (zdk (m:=true) dI (xs:=[P4,((1:Int)-P4)]) (Ev.weak (K:=K) (EvO.ev (zbY (zab (Ev.any (m:=false) (zaa (i:=4) rfl)) (zab (zaS (x:=(1:Int)) (y:=P4) zak (Ev.any (m:=false) (zaa (i:=4) rfl))) zah)) (by show 2≤sizeLine;decide))))) (.eq (.eq (.eq (.eq (.eq (.eq (.eq (.eq (.eq .nil))))))))) trivial (λi67 x66 s65 hx68 hI69=>have v68:=List.mem_of_getElem? hx68;⟨(λ_ _=>trivial),
 (zew (m:=true) (x:=(m_law_asked P0 P1 x66)) (λ(p70:((Option (Int ⊕ Bool))×(Option Xn)))=>zdh dIB p70.1) (λ(p70:((Option (Int ⊕ Bool))×(Option Xn)))=>zdh (λe=>dE (A.xc e)) p70.2) (zcw (λ(s65:Unit)=>([.va false (dSc A P0),.va false (dL (List.map dI P1)),.va false (dI P2),.va false (dI P3),.va false (dI P4),.va true (dL (List.map dI P1)),.no,.no,.no]:L2.Ctx)) (λ(r:Bool)=>Oc.rt true (dB r))) (zat (x:=(P0,P1,x66)) (zab (zaa (i:=0) rfl) (zab (Ev.old (zaa (i:=5) rfl)) (zab (Ev.any (m:=true) (zaa (i:=6) rfl)) zah))) rfl (by show zb4 P0 P1 x66;exact hp.1) rfl) (λp70 hp70 =>
 have hF:=hp70;(zai (b:=(!decide (P1=P1))) (zcw (λ(s65:Unit)=>([.va false (dSc A P0),.va false (dL (List.map dI P1)),.va false (dI P2),.va false (dI P3),.va false (dI P4),.va true (dL (List.map dI P1)),.no,.no,.no]:L2.Ctx)) (λ(r:Bool)=>Oc.rt true (dB r))) (zan (zeq (n:=0) (neg:=true) (xs:=P1) (ys:=P1) EqD.int (Ev.old (Ev.weak (K:=K) (zaa (i:=5) rfl))) (Ev.weak (K:=K) (zaa (i:=1) rfl)))) (λh71=>(zad (zaf (zaj zak)))) (λh71 =>
 (zae (zai (b:=(!decide (((P1.length:Nat):Int)=P2))) (zcw (λ(s65:Unit)=>([.va false (dSc A P0),.va false (dL (List.map dI P1)),.va false (dI P2),.va false (dI P3),.va false (dI P4),.va true (dL (List.map dI P1)),.no,.no,.no]:L2.Ctx)) (λ(r:Bool)=>Oc.rt true (dB r))) (zan (zeE (x:=((P1.length:Nat):Int)) (y:=P2) (zbz (f:=dI) (xs:=P1) (Ev.weak (K:=K) (zaa (i:=1) rfl))) (Ev.any (m:=false) (zaa (i:=2) rfl)))) (λh72=>(zad (zai (b:=(!(m_law_only p70.2 ("BadBasket":Str)))) (zcw (λ(s65:Unit)=>([.va false (dSc A P0),.va false (dL (List.map dI P1)),.va false (dI P2),.va false (dI P3),.va false (dI P4),.va true (dL (List.map dI P1)),.no,.no,.no]:L2.Ctx)) (λ(r:Bool)=>Oc.rt true (dB r))) (zaK (zaL (Ev.any (m:=true) (zat (x:=(p70.2,("BadBasket":Str))) (zab (Ev.old (zaa (i:=8) rfl)) (zab zak zah)) rfl (by show zbR p70.2 ("BadBasket":Str);exact trivial) rfl)))) (λh73=>(zad (zaf (zaj zak)))) (λh73 =>
 (zae (zae (zaO (.eq (.eq (.eq (.eq (.eq (.eq (.no (.no (.no .nil)))))))))))))))) (λh72 =>
 (zad (zai (b:=((decide (x66=(0:Int)))&&((!(m_law_whole p70.1))||(!decide ((gI p70.1)=P3))))) (zcw (λ(s65:Unit)=>([.va false (dSc A P0),.va false (dL (List.map dI P1)),.va false (dI P2),.va false (dI P3),.va false (dI P4),.va true (dL (List.map dI P1)),.no,.no,.no]:L2.Ctx)) (λ(r:Bool)=>Oc.rt true (dB r))) (ze9 (b:=(decide (x66=(0:Int)))) (zan (zbZ (x:=x66) (y:=(0:Int)) (Ev.any (m:=true) (zaa (i:=6) rfl)) zak)) (λhb=>(zdf (b:=(!(m_law_whole p70.1))) (zaK (zaL (Ev.any (m:=true) (zat (x:=p70.1) (zab (Ev.old (zaa (i:=7) rfl)) zah) rfl (by show zaV p70.1;exact trivial) rfl)))) (λhb=>(zan (zeE (x:=(gI p70.1)) (y:=P3) (Ev.old (ziM (zaa (i:=7) rfl) (by exact zkm hp hF (by assumption) (by assumption)))) (Ev.any (m:=false) (zaa (i:=3) rfl)))))))) (λh74=>(zad (zaf (zaj zak)))) (λh74 =>
 (zad (zai (b:=((decide (x66=(1:Int)))&&((!(ibB p70.1))||(!decide ((gB p70.1)=(decide (P3=(0:Int)))))))) (zcw (λ(s65:Unit)=>([.va false (dSc A P0),.va false (dL (List.map dI P1)),.va false (dI P2),.va false (dI P3),.va false (dI P4),.va true (dL (List.map dI P1)),.no,.no,.no]:L2.Ctx)) (λ(r:Bool)=>Oc.rt true (dB r))) (ze9 (b:=(decide (x66=(1:Int)))) (zan (zbZ (x:=x66) (y:=(1:Int)) (Ev.any (m:=true) (zaa (i:=6) rfl)) zak)) (λhb=>(zdf (b:=(!(ibB p70.1))) (zaK (zaL (zeL (x:=p70.1) (Ev.old (zaa (i:=7) rfl)) T.kit_NoneType_bool T.kit_int_bool T.kit_bool_bool))) (λhb=>(zan (ev_neB (x:=(gB p70.1)) (y:=(decide (P3=(0:Int)))) (Ev.old (zi8 (zaa (i:=7) rfl) (by exact zkh hp hF (by assumption) (by assumption)))) (zbZ (x:=P3) (y:=(0:Int)) (Ev.any (m:=false) (zaa (i:=3) rfl)) zak))))))) (λh75=>(zad (zaf (zaj zak)))) (λh75 =>
 (zae (zae (zae (zaO (.eq (.eq (.eq (.eq (.eq (.eq (.no (.no (.no .nil))))))))))))))))))))))))))⟩) (λr76 hr76 hI =>
 (zaf (zaj zak)))))
def m_law_weight (P0:(List Int)) (P1:(List Int)):Int :=
 (Let (List.foldl (λ(s77:Int) (x78:(Int×Int))=>(Let (s77+(x78.1*x78.2)) (λ(v82:Int) =>
 v82))) (0:Int) (List.zip P0 P1)) (λ(r83:Int) =>
 r83))
def zbj (P0:(List Int)) (P1:(List Int)):Prop:=∀ p∈List.zip P0 P1,zei p.1 p.2
def zct (K:W.Frag) (A:Adr):Sp:=Spv (ι:=(List Int)×(List Int)) (λx=>[dQ K (List.map dI x.1),dQ K (List.map dI x.2)]) (λx=>zbj x.1 x.2) (λx=>.va true (dI (m_law_weight x.1 x.2)))
theorem zby:FnScope ["_law_weights","_law_basket_here","_law_total","_law_one","_law_other"] ["_law_weights","_law_basket_here"] (defScope zbs):=⟨rfl,rfl,rfl,by decide +kernel,rfl,by decide +kernel,by decide +kernel⟩
theorem zem (F:Fun K "_law_weight" "_law_weight" zbs f fd) (T:Txt K mg A) :FnOk P w K mg base (CXE P w) 1 f fd ["_law_weights","_law_basket_here"] (zct K A):=by
 refine F.okV zby (λ_=>rfl) (λcdv Ar outer s H E x hr hp=>?_)
 obtain ⟨P0,P1⟩:=x
 have hu:=hr.units
 replace hp:zbj P0 P1:=hp
 unfold zbj at hp
 refine ⟨_,(zac (zaB (i:=2) zby.nd rfl (Or.inl rfl) pe_int)
 (zac (zfx PassesOwn.never rfl (zfr (K:=K) rfl rfl T.zip (pa_cons (pv 0) (pa_cons (pv 1) pa_nil))) (zek (K:=K) (n:=2) rfl rfl (zcT (pg_name (i:=3) zby.nd rfl (Or.inl rfl) (Or.inl rfl)) (zcT (pg_name (i:=4) zby.nd rfl (Or.inl rfl) (Or.inl rfl)) ze3)))
 (zac (zaB (i:=2) zby.nd rfl (Or.inl rfl) (zal zcC (pv 2) (zal zcQ (pv 3) (pv 4))))
 zag))
 (zac (zau (pv 2))
 zag))),.inl ?_⟩
 show L2.Run _ ([.va false (dQ K (List.map dI P0)),.va false (dQ K (List.map dI P1)),.no,.no,.no]:L2.Ctx) _ ((λ(r:Int)=>Oc.rt true (dI r)) (m_law_weight P0 P1))
 unfold m_law_weight
 exact (zdp (m:=true) zak
 (zfw (s0:=(0:Int)) (λ(s77:Int)=>([.va false (dQ K (List.map dI P0)),.va false (dQ K (List.map dI P1)),.va true (dI s77),.no,.no]:L2.Ctx)) (λ(r:Int)=>Oc.rt true (dI r)) (λ(s77:Int) (x78:(Int×Int))=>(Let (s77+(x78.1*x78.2)) (λ(v82:Int) =>
 v82))) (λ_ _=>True) (zhG (m:=false) dI dI (xs:=P0) (ys:=P1) (zaa (i:=0) rfl) (zaa (i:=1) rfl)) (.eq (.eq (.eq (.eq (.eq .nil))))) trivial (λi79 x78 s77 hx80 hI81=>have v80:=zeY hx80;⟨trivial,
 (zao (m:=true) (x:=(s77+(x78.1*x78.2))) dI (λz=>Oc.nx ((λ(s77:Int)=>([.va false (dQ K (List.map dI P0)),.va false (dQ K (List.map dI P1)),.va true (dI s77),.no,.no]:L2.Ctx)) z)) (zaS (x:=s77) (y:=(x78.1*x78.2)) (Ev.any (m:=true) (zaa (i:=2) rfl)) (zam (x:=x78.1) (y:=x78.2) (Ev.any (m:=false) (zaa (i:=3) rfl)) (Ev.any (m:=false) (zaa (i:=4) rfl)) (by exact hp _ (List.mem_of_getElem? (by assumption))))) (λv82 hv82 =>
 (zaO (.eq (.eq (.eq (.no (.no .nil))))))))⟩) (λr83 hr83 hI =>
 (zaf (zaj (Ev.any (m:=true) (zaa (i:=2) rfl)))))))
def m_law_too_little (P0:Int) (P1:(List Int)):Bool :=
 (Let () (λ(v84:Unit) =>
 (Let (Except.error Xn.BadRest) (λ(r86:Except Xn Unit) =>
 (m_law_only (ziw r86) ("BadRest":Str))))))
def za4 (P0:Int) (P1:(List Int)):Prop:=P0<2
def zbH (K:W.Frag) (A:Adr):Sp:=Spv (ι:=Int×(List Int)) (λx=>[dI x.1,dQ K (List.map dI x.2)]) (λx=>za4 x.1 x.2) (λx=>.va true (dB (m_law_too_little x.1 x.2)))
theorem zbE:FnScope ["_law_rest_here","_law_weights","_law_caught","e"] ["_law_rest_here","_law_weights"] (defScope zaH):=⟨rfl,rfl,rfl,by decide +kernel,rfl,by decide +kernel,by decide +kernel⟩
theorem zdo (F:Fun K "_law_too_little" "_law_too_little" zaH f fd) (T:Txt K mg A) (G_law_only:Callee P w K mg base (CXE P w) 2 "_law_only" ["_law_caught","_law_name"] (zcr K A)) {f_Rest:Addr} {fd_Rest:FuncData} (M_Rest:Mk K A.Rest f_Rest) (GR_Rest:FnOk P w K mg base (CXE P w) 2 f_Rest fd_Rest ["self","rest","weights"] (zfz K A)) (b_Rest:zcY K fd_Rest ["self","rest","weights"] []):FnOk P w K mg base (CXE P w) 4 f fd ["_law_rest_here","_law_weights"] (zbH K A):=by
 refine F.okVX zbE (λ_=>rfl) (λcdv Ar outer s H E x hr hp O=>?_)
 obtain ⟨P0,P1⟩:=x
 have hu:=hr.units
 replace hp:za4 P0 P1:=hp
 unfold za4 at hp
 refine ⟨_,(zaG (zcN (zaB (i:=2) zbE.nd rfl (Or.inl rfl) zf8))
 (zaG (zhL (K:=K) O rfl zbE.nd (i:=3) (j:=2) rfl rfl rfl (Or.inl rfl) (Or.inr rfl) rfl T.k_SwapError (zaG (zib (zio O M_Rest GR_Rest (hr.mono (by decide)) rfl T.Rest b_Rest (pa_cons (pv 0) (pa_cons (pv 1) pa_nil))))
 zb0))
 (zaG (zcN (zau (pe_fn G_law_only (hr.mono (by decide)) rfl passE (pa_cons (pv 2) (pa_cons za9 pa_nil)))))
 zb0))),.inl ?_⟩
 show L2.Run _ ([.va false (dI P0),.va false (dQ K (List.map dI P1)),.no,.no]:L2.Ctx) _ ((λ(r:Bool)=>Oc.rt true (dB r)) (m_law_too_little P0 P1))
 unfold m_law_too_little
 exact (zao (m:=true) (x:=()) (λ_=>dN) (λ(r:Bool)=>Oc.rt true (dB r)) zak (λv84 hv84 =>
 (zfE (xc:=A.xc) (λ(z85:Unit)=>([.va false (dI P0),.va false (dQ K (List.map dI P1)),.va true (dN),.no]:L2.Ctx)) ([.va false (dI P0),.va false (dQ K (List.map dI P1)),.va true (dN),.no]:L2.Ctx) (λ(r86:Except Xn Unit)=>([.va false (dI P0),.va false (dQ K (List.map dI P1)),.va true (zdh (λe=>dE (A.xc e)) (ziw r86)),.no]:L2.Ctx)) (λ(r:Bool)=>Oc.rt true (dB r)) (λE1=>(ze0 (x:=(P0,P1)) (zab (Ev.any (m:=false) (zaa (i:=0) rfl)) (zab (zaa (i:=1) rfl) zah)) rfl (by show zdD P0 P1;exact hp) (.eq (.eq (.eq (.eq .nil)))))) (λz85=>(.eq (.eq (.eq (.eq .nil))))) (λe=>⟨match e with | .BadBasket=>T.exm_BadBasket | .BadRest=>T.exm_BadRest,(.eq (.eq (.eq (.eq .nil))))⟩) (λr86 hr86 =>
 (zaf (zaj (Ev.any (m:=true) (zat (x:=((ziw r86),("BadRest":Str))) (zab (Ev.old (zaa (i:=2) rfl)) (zab zak zah)) rfl (by show zbR (ziw r86) ("BadRest":Str);exact trivial) rfl))))))))
theorem zda {α β:Type} (x:α) (f:α->β):Let x f=f x:=rfl
theorem zeR {γ:Type} {xs:List γ} {f:Unit->γ->Unit ⊕ Bool} {k:Unit->Bool} (h:∀ x∈xs,f () x=.inl ()):ziy (loopR f () xs) k (λb=>b)=k ():=by
 have:∀ (l:List γ),(∀ x∈l,f () x=.inl ())->loopR f () l=.inl ():=by
  intro l
  induction l with
  | nil=>intro _;rfl
  | cons x l ih =>
   intro h
   unfold loopR
   rw [h x List.mem_cons_self]
   exact ih λy hy=>h y (List.mem_cons_of_mem _ hy)
 rw [this xs h];rfl
theorem zjp:m_law_only (some Xn.BadBasket) ("BadBasket":Str)=true:=by rfl
theorem zjo:m_law_only (some Xn.BadRest) ("BadRest":Str)=true:=by rfl
theorem zhy {s:LineD ⊕ RestD} {b:List Int} {z d a:Int} (hz:z=(((scW s).length:Nat):Int)) (hd:b.length=(scW s).length->d=wv s b):m_law_good s b z d a=true:=by
 unfold m_law_good
 refine zeR λw _=>?_
 rw [zda,decide_eq_true rfl]
 by_cases hl:b.length=(scW s).length
 ·rw [zgl hl,hd hl,decide_eq_true (show ((b.length:Nat):Int)=z by omega)]
  by_cases q:w=0
  ·rw [decide_eq_true q,decide_eq_false (show ¬ w=1 by omega)]
   show (bif (true&&((!true)||(!decide (wv s b=wv s b)))) then _ else (bif (false&&_) then _ else _))=_
   rw [decide_eq_true rfl];rfl
  ·rw [decide_eq_false q]
   show (bif (decide (w=1)&&((!true)||(!decide (decide (wv s b=0)=decide (wv s b=0))))) then (Sum.inr false) else (Sum.inl ()))=(Sum.inl ():Unit ⊕ Bool)
   rw [decide_eq_true (rfl:decide (wv s b=0)=decide (wv s b=0))]
   cases decide (w=1)<;>rfl
 ·rw [ziO hl,decide_eq_false (show ¬ ((b.length:Nat):Int)=z by omega)]
  show (bif (!(m_law_only (some Xn.BadBasket) ("BadBasket":Str))) then (Sum.inr false) else (Sum.inl ()))=(Sum.inl ():Unit ⊕ Bool)
  rw [zjp];rfl
theorem zgK:∀ (w t:List Int) (a:Int),List.foldl (λ(s:Int) (x:Int×Int)=>Let (s+(x.1*x.2)) (λ(y:Int)=>y)) a (List.zip w t)=a+(List.map (λ(x:Int×Int)=>x.1*x.2) (List.zip w t)).sum
 | [],_,a=>by show a=a+0;omega
 | _ :: _,[],a=>by show a=a+0;omega
 | x :: w,y :: t,a=>by
  show List.foldl _ (a+x*y) (List.zip w t)=a+(x*y+(List.map (λ(x:Int×Int)=>x.1*x.2) (List.zip w t)).sum)
  rw [zgK w t];omega
theorem zeP (w t:List Int):m_law_weight w t=m_weighed w t:=by
 show List.foldl (λ(s:Int) (x:Int×Int)=>Let (s+(x.1*x.2)) (λ(y:Int)=>y)) 0 (List.zip w t)=_
 rw [zgK,Int.zero_add];rfl
theorem zhw {r:Int}:∀ (v:List Int) (u:Lat.Vc),r ∣ Lat.dv (List.map (λ(y:Int)=>y%r) v) u-Lat.dv v u
 | [],u=>by show r ∣ 0-0;exact Int.dvd_zero _
 | a :: v,u=>by
  obtain ⟨k,hk⟩:=zhw v λi=>u (i+1)
  refine ⟨k-a/r*u 0,?_⟩
  show (a%r*u 0+Lat.dv (List.map (λ(y:Int)=>y%r) v) λi=>u (i+1))-(a*u 0+Lat.dv v λi=>u (i+1))=r*(k-a/r*u 0)
  have e:=Int.emod_add_mul_ediv a r
  have e2:a*u 0=a%r*u 0+r*(a/r*u 0):=by
   conv=>lhs;rw [← e]
   rw [Int.add_mul,Int.mul_assoc]
  rw [Int.mul_sub,← hk]
  omega
theorem zhY (r:Int) (ws b:List Int):m_law_weight ws b%r=wv (.inr (zbv r ws)) b:=by
 show _=m_weighed (List.map (λ(y:Int)=>y%r) ws) b%r
 rw [zeP,zd5,zd5]
 exact (Int.emod_eq_emod_iff_emod_sub_eq_zero.mpr (Int.emod_eq_zero_of_dvd (zhw (r:=r) ws (Lat.vec b)))).symm
theorem zdV (l:List Int):m_law_same l l=true:=by
 unfold m_law_same
 rw [show (List.map (λ(x:Int)=>m_law_whole (some (Sum.inl x))) l).all id=true by
  rw [List.all_eq_true]
  intro y hy
  obtain ⟨x,_,rfl⟩:=List.mem_map.mp hy
  rfl]
 simp
section
variable {xs ws b:List Int} {z r x a:Int} {i:Nat} {sc:List (LineD ⊕ RestD)} {f:Int->Int}
def WsP (z:Int) (ws:List Int):Prop:=1≤z∧z≤8∧((ws.length:Nat):Int)=z∧Lat.Bit 1000 ws
theorem l_z (hZ:z=(1:Int)+(a%(8:Int))):1≤z∧z≤8:=by omega
theorem l_w (hZ:z=(1:Int)+(a%(8:Int))) (hW:ws=List.map (λ(x:Int)=>m_law_entry (zcB xs (some (3:Int)) none) x ((10:Int)^(60:Int).toNat)) (rngZ 0 z.toNat)):WsP z ws:=by
 refine ⟨by omega,by omega,by rw [hW,List.length_map,zdc];omega,λy hy=>?_⟩
 rw [hW] at hy
 obtain ⟨x,_,rfl⟩:=List.mem_map.mp hy
 exact Nat.le_of_lt (zhs _ _)
theorem l_e (hp:xs.length≤63) (hZ:z=(1:Int)+(a%(8:Int))) (q:i<z.toNat∧x=0+(i:Int)):zaZ (zcB xs (some (3:Int)) none) x ((10:Int)^(60:Int).toNat) :=
 ⟨by omega,by omega,zfX.1,zfX.2,by have:=zdC (xs:=xs) (lo:=some 3) (hi:=none);omega⟩
theorem ziv (hp:xs.length≤63) (h:WsP z ws) (q:i<(((zcB xs (some (2:Int)) (some (62:Int))).length:Nat):Int).toNat∧x=0+(i:Int)):BaP xs ws x:=by
 obtain ⟨h1,h2,h3,h4⟩:=h
 have:(zcB xs (some (2:Int)) (some (62:Int))).length≤xs.length-2:=by
  unfold zcB
  rw [show (some (2:Int))=some ((2:Nat):Int) from rfl,show (some (62:Int))=some ((62:Nat):Int) from rfl,HT.sIx_nat,HT.sIx_nat,List.length_take,List.length_drop]
  omega
 exact ⟨hp,by omega,by omega,by omega,by omega⟩
theorem ziL {p:Int×Int} {ys:List Int} (hw:Lat.Bit 1000 ys) (hb:Lat.Bit 1001 b) (hm:p∈List.zip ys b):zei p.1 p.2:=by
 have hm:=List.of_mem_zip (a:=p.1) (b:=p.2) hm
 exact Lat.zei.of (hw _ hm.1) (hb _ hm.2) (by decide) (by decide)
theorem zjZ (hp:xs.length≤63) (h:WsP z ws) (q:i<(((zcB xs (some (2:Int)) (some (62:Int))).length:Nat):Int).toNat∧x=0+(i:Int)) (hB:b=m_law_basket xs ws x):∀ p∈List.zip ws b,zei p.1 p.2:=λp hm=>by
 rw [hB] at hm
 exact ziL h.2.2.2 (zhz (ziv hp h q) h.2.2.2) hm
theorem zkb (hp:xs.length≤63) (h:WsP z ws) (q:i<(((zcB xs (some (2:Int)) (some (62:Int))).length:Nat):Int).toNat∧x=0+(i:Int)) (hB:b=m_law_basket xs ws x) (hS:sc=[Sum.inl (zbB ws),Sum.inr (zbv r ws)]):AsP (ixD sc (0:Int)) b∧z=(((scW (ixD sc (0:Int))).length:Nat):Int):=by
 rw [hS]
 refine ⟨⟨⟨by show ws.length≤1000;obtain ⟨_,_,_,_⟩:=h;omega,zjZ hp h q hB⟩,λq=>by cases q⟩,h.2.2.1.symm⟩
theorem zjG (hr:2≤r) (hrb:r.natAbs≤2^1000) (hp:xs.length≤63) (h:WsP z ws) (q:i<(((zcB xs (some (2:Int)) (some (62:Int))).length:Nat):Int).toNat∧x=0+(i:Int)) (hB:b=m_law_basket xs ws x) (hS:sc=[Sum.inl (zbB ws),Sum.inr (zbv r ws)]):AsP (ixD sc (1:Int)) b∧z=(((scW (ixD sc (1:Int))).length:Nat):Int):=by
 rw [hS]
 have hm:Lat.Bit 1000 (List.map (λ(y:Int)=>y%r) ws):=λu hu=>by
  obtain ⟨t,_,rfl⟩:=List.mem_map.mp hu
  have m0:=Int.emod_nonneg t (show r≠0 by omega)
  have m1:=Int.emod_lt_of_pos t (show 0<r by omega)
  generalize (2:Nat)^1000=big at *
  omega
 refine ⟨⟨⟨by show (List.map (λ(y:Int)=>y%r) ws).length≤1000;rw [List.length_map];obtain ⟨_,_,_,_⟩:=h;omega,λp hz=>?_⟩,λ_=>by show 0<r;omega⟩,by show z=(((List.map (λ(y:Int)=>y%r) ws).length:Nat):Int);rw [List.length_map];exact h.2.2.1.symm⟩
 rw [hB] at hz
 exact ziL hm (zhz (ziv hp h q) h.2.2.2) hz
theorem zj9 (hR:r=m_law_rest x):r.natAbs≤2^1000:=by
 have e:((10:Int)^(59:Int).toNat).natAbs*4<2^1000:=by decide +kernel
 have p:=p59
 rw [hR]
 unfold m_law_rest
 generalize (10:Int)^(59:Int).toNat=t at *
 generalize (2:Nat)^1000=big at *
 have a1:=Int.emod_nonneg (x/12) (show t≠0 by omega)
 have a2:=Int.emod_lt_of_pos (x/12) p
 have a3:=Int.emod_nonneg (x/4) (show t≠0 by omega)
 have a4:=Int.emod_lt_of_pos (x/4) p
 have a5:(x/4%3*(x/12%t)).natAbs≤2*t.natAbs:=by
  rw [Int.natAbs_mul]
  exact Nat.mul_le_mul (by omega) (by omega)
 generalize x/4%3*(x/12%t)=y at *
 cases decide (x%4=0) with
 | true=>rw [cond_true];omega
 | false =>
  rw [cond_false]
  cases decide (x%4=1) with
  | true=>rw [cond_true];omega
  | false=>rw [cond_false];omega
theorem zd7 (hS:sc=[Sum.inl (zbB ws),Sum.inr (zbv r ws)]):InB sc.length (0:Int)∧InB sc.length (1:Int):=by
 rw [hS]
 refine ⟨?_,?_⟩<;>(unfold InB;simp)
theorem zkk (q:decide (r<(2:Int))=true):r<2:=of_decide_eq_true q
theorem zjE (q:decide (r<(2:Int))=false):0<r:=by have:=of_decide_eq_false q;omega
theorem zfY (hS:sc=[Sum.inl (zbB ws),Sum.inr (zbv r ws)]) (h:WsP z ws):(scW (ixD sc (0:Int))).length≤1000:=by
 rw [hS];show ws.length≤1000;obtain ⟨_,_,_,_⟩:=h;omega
theorem zfQ (hS:sc=[Sum.inl (zbB ws),Sum.inr (zbv r ws)]) (h:WsP z ws):(scW (ixD sc (1:Int))).length≤1000:=by
 rw [hS];show (List.map (λ(y:Int)=>y%r) ws).length≤1000;rw [List.length_map];obtain ⟨_,_,_,_⟩:=h;omega
theorem l_wl (h:WsP z ws):ws.length≤8:=by
 obtain ⟨h1,h2,h3,h4⟩:=h
 omega
end
def m_law (P0:(List Int)):Bool :=
 (Let ((1:Int)+((m_law_at P0 (0:Int))%(8:Int))) (λ(v87:Int) =>
 (Let (List.map (λ(x88:Int)=>(m_law_entry (zcB P0 (some (3:Int)) none) x88 ((10:Int)^(60:Int).toNat))) (rngZ 0 v87.toNat)) (λ(v91:(List Int)) =>
 (Let (m_law_rest (m_law_at P0 (1:Int))) (λ(v92:Int) =>
 (bif (decide (v92<(2:Int))) then (bif (!(m_law_too_little v92 v91)) then false
 else (Let [(Sum.inl (zbB v91)),(Sum.inr (zbv (2:Int) v91))] (λ(v95:(List (LineD ⊕ RestD))) =>
 (bif (!decide (v91=v91)) then false
 else (ziy (loopR (λ(s97:Unit) (x98:Int)=>(((Let (m_law_basket P0 v91 x98) (λ(v102:(List Int)) =>
 (Let (m_law_weight v91 v102) (λ(v103:Int) =>
 (Let (((ixD P0 ((2:Int)+x98))/(8:Int))%(2:Int)) (λ(v104:Int) =>
 (bif (!(m_law_good (ixD v95 (0:Int)) v102 v87 v103 v104)) then (Sum.inr false)
 else (bif (!(m_law_good (ixD v95 (1:Int)) v102 v87 (v103%(2:Int)) v104)) then (Sum.inr false)
 else (Sum.inl ())))))))))):(Unit) ⊕ Bool)) () (rngZ 0 (((zcB P0 (some (2:Int)) (some (62:Int))).length:Nat):Int).toNat)) (λ(r107:Unit) =>
 (bif ((!(za0 (λ_=>true) (some (ixD v95 (0:Int)))))||(!(za0 (λ_=>true) (some (ixD v95 (1:Int)))))) then false
 else (bif ((!(za0 Sum.isLeft (some (ixD v95 (0:Int)))))||(!(za0 Sum.isRight (some (ixD v95 (1:Int)))))) then false
 else (bif ((!(m_law_same (scW (ixD v95 (0:Int))) v91))||(!(m_law_whole (some (Sum.inl ((gR (ixD v95 (1:Int))).rest)))))) then false
 else (Let (List.map (λ(x111:Int)=>(x111%(2:Int))) v91) (λ(v114:(List Int)) =>
 ((decide ((gR (ixD v95 (1:Int))).rest=(2:Int)))&&(m_law_same (scW (ixD v95 (1:Int))) v114)))))))) (λb=>b))))))
 else (Let [(Sum.inl (zbB v91)),(Sum.inr (zbv v92 v91))] (λ(v115:(List (LineD ⊕ RestD))) =>
 (bif (!decide (v91=v91)) then false
 else (ziy (loopR (λ(s117:Unit) (x118:Int)=>(((Let (m_law_basket P0 v91 x118) (λ(v122:(List Int)) =>
 (Let (m_law_weight v91 v122) (λ(v123:Int) =>
 (Let (((ixD P0 ((2:Int)+x118))/(8:Int))%(2:Int)) (λ(v124:Int) =>
 (bif (!(m_law_good (ixD v115 (0:Int)) v122 v87 v123 v124)) then (Sum.inr false)
 else (bif (!(m_law_good (ixD v115 (1:Int)) v122 v87 (v123%v92) v124)) then (Sum.inr false)
 else (Sum.inl ())))))))))):(Unit) ⊕ Bool)) () (rngZ 0 (((zcB P0 (some (2:Int)) (some (62:Int))).length:Nat):Int).toNat)) (λ(r127:Unit) =>
 (bif ((!(za0 (λ_=>true) (some (ixD v115 (0:Int)))))||(!(za0 (λ_=>true) (some (ixD v115 (1:Int)))))) then false
 else (bif ((!(za0 Sum.isLeft (some (ixD v115 (0:Int)))))||(!(za0 Sum.isRight (some (ixD v115 (1:Int)))))) then false
 else (bif ((!(m_law_same (scW (ixD v115 (0:Int))) v91))||(!(m_law_whole (some (Sum.inl ((gR (ixD v115 (1:Int))).rest)))))) then false
 else (Let (List.map (λ(x131:Int)=>(x131%v92)) v91) (λ(v134:(List Int)) =>
 ((decide ((gR (ixD v115 (1:Int))).rest=v92))&&(m_law_same (scW (ixD v115 (1:Int))) v134)))))))) (λb=>b))))))))))))
def zfh (P0:(List Int)):Prop:=P0.length≤63
def zhA (K:W.Frag) (A:Adr):Sp:=Spv (ι:=(List Int)) (λx=>[dQ K (List.map dI x)]) (λx=>zfh x) (λx=>.va true (dB (m_law x)))
theorem zcA:FnScope ["_law_script","_law_size","_law_weights","_law_rest_here","_law_handed","_law_scales","_law_k","_law_basket_here","_law_total","_law_ahead","_law_due"] ["_law_script"] (defScope zdG):=⟨rfl,rfl,rfl,by decide +kernel,rfl,by decide +kernel,by decide +kernel⟩
theorem ziQ (F:Fun K "law" "law" zdG f fd) (T:Txt K mg A) (G_law_at:Callee P w K mg base (CXE P w) 1 "_law_at" ["_law_script","_law_k"] (zdY K A)) (G_law_basket:Callee P w K mg base (CXE P w) 2 "_law_basket" ["_law_script","_law_weights","_law_k"] (zcp K A)) (G_law_entry:Callee P w K mg base (CXE P w) 1 "_law_entry" ["_law_script","_law_k","_law_most"] (zch K A)) (G_law_good:Callee P w K mg base (CXE P w) 7 "_law_good" ["_law_scale","_law_basket_here","_law_size","_law_due","_law_ahead"] (zc8 K A)) (G_law_rest:Callee P w K mg base (CXE P w) 1 "_law_rest" ["_law_cell"] (zc4 K A)) (G_law_same:Callee P w K mg base (CXE P w) 2 "_law_same" ["_law_found","_law_due"] (zc7 K A)) (G_law_too_little:Callee P w K mg base (CXE P w) 4 "_law_too_little" ["_law_rest_here","_law_weights"] (zbH K A)) (G_law_weight:Callee P w K mg base (CXE P w) 1 "_law_weight" ["_law_weights","_law_basket_here"] (zct K A)) (G_law_whole:Callee P w K mg base (CXE P w) 1 "_law_whole" ["_law_found"] (zbS K A)) {f_Rest:Addr} {fd_Rest:FuncData} (M_Rest:Mk K A.Rest f_Rest) (G_Rest___init__:FnOk P w K mg base (CXE P w) 2 f_Rest fd_Rest ["self","rest","weights"] (zcD K A)) (b_Rest___init__:zcY K fd_Rest ["self","rest","weights"] [])  {f_Line:Addr} {fd_Line:FuncData} (M_Line:Mk K A.Line f_Line) (G_Scale___init___Line:FnOk P w K mg base (CXE P w) 1 f_Line fd_Line ["self","weights"] (zbA K A)) (b_Scale___init___Line:zcY K fd_Line ["self","weights"] []):FnOk P w K mg base (CXE P w) 8 f fd ["_law_script"] (zhA K A):=by
 refine F.okV zcA (λ_=>rfl) (λcdv Ar outer s H E P0 hr hp=>?_)
 have hu:=hr.units
 replace hp:zfh P0:=hp
 unfold zfh at hp
 refine ⟨_,(zac (zaB (i:=1) zcA.nd rfl (Or.inl rfl) (zal zcC pe_int (zal za5 (pe_fn G_law_at (hr.mono (by decide)) rfl passE (pa_cons (pv 0) (pa_cons pe_int pa_nil))) pe_int)))
 (zac (zeZ (i:=2) rfl zcA.nd rfl rfl (.of (osc:=(defScope zdG)) (N:=["_law_script","_law_size","_law_weights","_law_rest_here","_law_handed","_law_scales","_law_k","_law_basket_here","_law_total","_law_ahead","_law_due"]) (own:=["_law_k"]) (fvn:=["_law_script"]) (fv:=[0]) rfl rfl (by decide +kernel)) (zdi rfl T.range (pa_cons (pv 1) pa_nil)) (λ_ _ _ _ _=>⟨(pg_name (i:=0) (show (["_law_k","_law_script"]:List Str).Nodup by decide +kernel) rfl (Or.inl rfl) (Or.inr rfl)),pts_nil,(pe_fn G_law_entry (hr.mono (by decide)) rfl passE (pa_cons (zdE (zdg (K:=K) rfl) (pv 1) (zdI pe_int) zfi) (pa_cons (pv 0) (pa_cons (zal zfF pe_int pe_int) pa_nil))))⟩))
 (zac (zaB (i:=3) zcA.nd rfl (Or.inr rfl) (pe_fn G_law_rest (hr.mono (by decide)) rfl passE (pa_cons (pe_fn G_law_at (hr.mono (by decide)) rfl passE (pa_cons (pv 0) (pa_cons pe_int pa_nil))) pa_nil)))
 (zac (zaB (i:=4) zcA.nd rfl (Or.inl rfl) (zdb (zcq (K:=K) rfl) rfl T.list PyProof.Rows.boot_list (pa_cons (pv 2) pa_nil)))
 (zac (zbI (pt_cmpR zhk (pv 3) pe_int (nomark _))
 (zac (zbI (pt_not (pt_val (pe_fn G_law_too_little (hr.mono (by decide)) rfl passE (pa_cons (pv 3) (pa_cons (pv 4) pa_nil)))))
 (zac (zau zds)
 zag)
 zag)
 (zac (zaB (i:=3) zcA.nd rfl (Or.inr rfl) pe_int)
 zag))
 zag)
 (zac (zaB (i:=5) zcA.nd rfl (Or.inl rfl) (zcc (pa_cons (zgx M_Line G_Scale___init___Line (hr.mono (by decide)) rfl T.Line b_Scale___init___Line .nil passE (pa_cons (pv 4) pa_nil)) (pa_cons (zgx M_Rest G_Rest___init__ (hr.mono (by decide)) rfl T.Rest b_Rest___init__ .nil passE (pa_cons (pv 3) (pa_cons (pv 4) pa_nil))) pa_nil))))
 (zac (zbI (pt_cmpR (zgs (K:=K) rfl hu) (pv 4) (pv 2) (nomark _))
 (zac (zau zds)
 zag)
 zag)
 (zac (zeh (zeX (K:=K) rfl (pv 4) (pa_cons pe_int pa_nil)))
 (zac (zfx PassesOwn.never rfl (zdi rfl T.range (pa_cons (pe_callB (call_len_K (K:=K) rfl) rfl T.len PySem.boot_len (pa_cons (zdE (zdg (K:=K) rfl) (pv 0) (zdI pe_int) (zdI pe_int)) pa_nil)) pa_nil)) (pg_name (i:=6) zcA.nd rfl (Or.inl rfl) (Or.inl rfl))
 (zac (zaB (i:=7) zcA.nd rfl (Or.inl rfl) (pe_fn G_law_basket (hr.mono (by decide)) rfl passE (pa_cons (pv 0) (pa_cons (pv 2) (pa_cons (pv 6) pa_nil)))))
 (zac (zaB (i:=8) zcA.nd rfl (Or.inl rfl) (pe_fn G_law_weight (hr.mono (by decide)) rfl passE (pa_cons (pv 2) (pa_cons (pv 7) pa_nil))))
 (zac (zaB (i:=9) zcA.nd rfl (Or.inl rfl) (zal za5 (zal zb2 (pe_ix (ix_list_K (K:=K) rfl) (pv 0) (zal zcC pe_int (pv 6)) (λ_ _=>rfl)) pe_int) pe_int))
 (zac (zbI (pt_not (pt_val (pe_fn G_law_good (hr.mono (by decide)) rfl passE (pa_cons (pe_ix (ix_list_K (K:=K) rfl) (pv 5) pe_int (λ_ _=>rfl)) (pa_cons (pv 7) (pa_cons (pv 1) (pa_cons (pv 8) (pa_cons (pv 9) pa_nil))))))))
 (zac (zau zds)
 zag)
 zag)
 (zac (zbI (pt_not (pt_val (pe_fn G_law_good (hr.mono (by decide)) rfl passE (pa_cons (pe_ix (ix_list_K (K:=K) rfl) (pv 5) pe_int (λ_ _=>rfl)) (pa_cons (pv 7) (pa_cons (pv 1) (pa_cons (zal za5 (pv 8) (pv 3)) (pa_cons (pv 9) pa_nil))))))))
 (zac (zau zds)
 zag)
 zag)
 zag))))))
 (zac (zbI (PW.pt (zfJ (pt_not (pt_val (pe_callB (call_isiB (K:=K) rfl) rfl T.isinstance PyProof.Rows.boot_isinstance (pa_cons (pe_ix (ix_list_K (K:=K) rfl) (pv 5) pe_int (λ_ _=>rfl)) (pa_cons (pe_glob (v:=.ref A.Scale) rfl T.Scale rfl) pa_nil))))) (pw_or1 (pt_not (pt_val (pe_callB (call_isiB (K:=K) rfl) rfl T.isinstance PyProof.Rows.boot_isinstance (pa_cons (pe_ix (ix_list_K (K:=K) rfl) (pv 5) pe_int (λ_ _=>rfl)) (pa_cons (pe_glob (v:=.ref A.Scale) rfl T.Scale rfl) pa_nil))))))))
 (zac (zau zds)
 zag)
 zag)
 (zac (zbI (PW.pt (zfJ (pt_not (pt_val (pe_callB (call_isiB (K:=K) rfl) rfl T.isinstance PyProof.Rows.boot_isinstance (pa_cons (pe_ix (ix_list_K (K:=K) rfl) (pv 5) pe_int (λ_ _=>rfl)) (pa_cons (pe_glob (v:=.ref A.Line) rfl T.Line rfl) pa_nil))))) (pw_or1 (pt_not (pt_val (pe_callB (call_isiB (K:=K) rfl) rfl T.isinstance PyProof.Rows.boot_isinstance (pa_cons (pe_ix (ix_list_K (K:=K) rfl) (pv 5) pe_int (λ_ _=>rfl)) (pa_cons (pe_glob (v:=.ref A.Rest) rfl T.Rest rfl) pa_nil))))))))
 (zac (zau zds)
 zag)
 zag)
 (zac (zbI (PW.pt (zfJ (pt_not (pt_val (pe_fn G_law_same (hr.mono (by decide)) rfl passE (pa_cons (zcu (K:=K) rfl (pe_ix (ix_list_K (K:=K) rfl) (pv 5) pe_int (λ_ _=>rfl)) rfl) (pa_cons (pv 2) pa_nil))))) (pw_or1 (pt_not (pt_val (pe_fn G_law_whole (hr.mono (by decide)) rfl passE (pa_cons (zcu (K:=K) rfl (pe_ix (ix_list_K (K:=K) rfl) (pv 5) pe_int (λ_ _=>rfl)) rfl) pa_nil)))))))
 (zac (zau zds)
 zag)
 zag)
 (zac (zeZ (i:=10) rfl zcA.nd rfl rfl (.of (osc:=(defScope zdG)) (N:=["_law_script","_law_size","_law_weights","_law_rest_here","_law_handed","_law_scales","_law_k","_law_basket_here","_law_total","_law_ahead","_law_due"]) (own:=["_law_weight_here"]) (fvn:=["_law_rest_here"]) (fv:=[3]) rfl rfl (by decide +kernel)) (pi_list_K (K:=K) rfl (pv 2)) (λ_ _ _ _ _=>⟨(pg_name (i:=0) (show (["_law_weight_here","_law_rest_here"]:List Str).Nodup by decide +kernel) rfl (Or.inl rfl) (Or.inr rfl)),pts_nil,(zal za5 (pv 0) (pv 1))⟩))
 (zac (zau (zfp (pe_cmpR op_eq (zcu (K:=K) rfl (pe_ix (ix_list_K (K:=K) rfl) (pv 5) pe_int (λ_ _=>rfl)) rfl) (pv 3) (nomark _)) (pe_one (pe_fn G_law_same (hr.mono (by decide)) rfl passE (pa_cons (zcu (K:=K) rfl (pe_ix (ix_list_K (K:=K) rfl) (pv 5) pe_int (λ_ _=>rfl)) rfl) (pa_cons (pv 10) pa_nil))))))
 zag)))))))))))))),.inl ?_⟩
 show L2.Run _ ([.va false (dQ K (List.map dI P0)),.no,.no,.no,.no,.no,.no,.no,.no,.no,.no]:L2.Ctx) _ ((λ(r:Bool)=>Oc.rt true (dB r)) (m_law P0))
 unfold m_law
 exact (zao (m:=true) (x:=((1:Int)+((m_law_at P0 (0:Int))%(8:Int)))) dI (λ(r:Bool)=>Oc.rt true (dB r)) (zaS (x:=(1:Int)) (y:=((m_law_at P0 (0:Int))%(8:Int))) zak (zam (x:=(m_law_at P0 (0:Int))) (y:=(8:Int)) (Ev.any (m:=true) (zat (x:=(P0,(0:Int))) (zab (zaa (i:=0) rfl) (zab zak zah)) rfl (by show zbC P0 (0:Int);unfold zbC;decide) rfl)) zak (by decide))) (λv87 hv87 =>
 have hZ:=hv87;(zao (m:=true) (x:=(List.map (λ(x88:Int)=>(m_law_entry (zcB P0 (some (3:Int)) none) x88 ((10:Int)^(60:Int).toNat))) (rngZ 0 v87.toNat))) (λ(xs:(List Int))=>dL (List.map dI xs)) (λ(r:Bool)=>Oc.rt true (dB r)) (EvO.ev (EvO.conv (zdw (g:=(λ(x88:Int)=>dI (m_law_entry (zcB P0 (some (3:Int)) none) x88 ((10:Int)^(60:Int).toNat)))) (zdM (m:=true) (n:=v87) (Ev.any (m:=true) (zaa (i:=1) rfl)) (by have z:=l_z hZ;refine ⟨?_,?_⟩<;>omega)) (by have z:=l_z hZ;exact zaq (by rw [zdc];omega)) ⟨by decide,by decide⟩ (λi89 x88 hx90=>have v90:=zcR hx90;(Ev.any (m:=true) (zat (x:=((zcB P0 (some (3:Int)) none),x88,((10:Int)^(60:Int).toNat))) (zab (Ev.weak (K:=K) (EvO.ev (EvO.anyI (m:=false) (zdX (f:=dI) (xs:=P0) (zaa (i:=1) rfl) (zcv zak) zej)))) (zab (Ev.any (m:=true) (zaa (i:=0) rfl)) (zab (zam (x:=(10:Int)) (y:=(60:Int)) zak zak (by exact ⟨by decide,by decide,by decide⟩)) zah))) rfl (by show zaZ (zcB P0 (some (3:Int)) none) x88 ((10:Int)^(60:Int).toNat);exact l_e hp hZ (by assumption)) rfl)))) (by first | (rw [List.map_map];rfl) | (simp only [cond_true,cond_false];rw [List.map_map];rfl)))) (λv91 hv91 =>
 have hW:=l_w hZ hv91;(zao (m:=true) (x:=(m_law_rest (m_law_at P0 (1:Int)))) dI (λ(r:Bool)=>Oc.rt true (dB r)) (Ev.any (m:=true) (zat (x:=(m_law_at P0 (1:Int))) (zab (Ev.any (m:=true) (zat (x:=(P0,(1:Int))) (zab (zaa (i:=0) rfl) (zab zak zah)) rfl (by show zbC P0 (1:Int);unfold zbC;decide) rfl)) zah) rfl (by show zci (m_law_at P0 (1:Int));exact trivial) rfl)) (λv92 hv92 =>
 have hR:=hv92;(run_setO (m:=true) (EvO.anyI (m:=true) (zd9 (Ev.weak (K:=K) (zaa (i:=2) rfl))))
 (zai (b:=(decide (v92<(2:Int)))) (λ(r:Bool)=>Oc.rt true (dB r)) (zan (zaS (x:=v92) (y:=(2:Int)) (Ev.any (m:=true) (zaa (i:=3) rfl)) zak)) (λh93=>(zad (zai (b:=(!(m_law_too_little v92 v91))) (λ(r:Bool)=>Oc.rt true (dB r)) (EvT.borrowO (i:=4) rfl (zaK (zaL (Ev.any (m:=true) (zat (x:=(v92,v91)) (zab (Ev.any (m:=true) (zaa (i:=3) rfl)) (zab (Ev.old (Ev.weak (K:=K) (zaa (i:=4) rfl))) zah)) rfl (by show za4 v92 v91;exact zkk (by assumption)) rfl))))) (λh94=>(zad (zaf (zaj zak)))) (λh94 =>
 (zae (zad (zdp (m:=true) zak
 (zae (zao (m:=true) (x:=[(Sum.inl (zbB v91)),(Sum.inr (zbv (2:Int) v91))]) (λ(xs:(List (LineD ⊕ RestD)))=>dL (List.map (dSc A) xs)) (λ(r:Bool)=>Oc.rt true (dB r)) (EvN.ev (EvN.borrowO (i:=4) rfl (zhI (EvO.ev (zbY (zab (zec (i:=v91) (zab (Ev.weak (K:=K) (zaa (i:=4) rfl)) zah) rfl (by show zar v91;exact trivial)) (zab (zec (i:=((2:Int),v91)) (zab (Ev.any (m:=false) (zaa (i:=3) rfl)) (zab (Ev.weak (K:=K) (zaa (i:=4) rfl)) zah)) rfl (by show zaR (2:Int) v91;first | exact ⟨Int.le_refl 2,by have z:=l_wl hW;omega⟩ | exact ⟨Int.not_lt.mp (of_decide_eq_false (by assumption)),by have z:=l_wl hW;omega⟩)) zah)) (by show 2≤sizeLine;decide)))))) (λv95 hv95 =>
 have hS:=hv95;(zai (b:=(!decide (v91=v91))) (λ(r:Bool)=>Oc.rt true (dB r)) (EvT.borrowO (i:=4) rfl (zan (zeq (n:=0) (neg:=true) (xs:=v91) (ys:=v91) EqD.int (Ev.old (Ev.weak (K:=K) (zaa (i:=4) rfl))) (Ev.old (Ev.weak (K:=K) (zaa (i:=2) rfl)))))) (λh96=>(zad (zaf (zaj zak)))) (λh96 =>
 (zae (zdK (f:=dI) (xs:=v91) (x:=(1:Int)) rfl zak (by exact Nat.lt_of_le_of_lt (show _≤1000 by have z:=l_wl hW;omega) (by decide))
 (zeg (s0:=()) (λ(s97:Unit)=>([.va false (dQ K (List.map dI P0)),.va true (dI v87),.va true (dL (List.map dI v91)),.va true (dI (2:Int)),.ow true (List.map dI (v91++[(1:Int)])),.va true (dL (List.map (dSc A) v95)),.no,.no,.no,.no,.no]:L2.Ctx)) (λ(r:Bool)=>Oc.rt true (dB r)) (λb=>b) (λ(s97:Unit) (x98:Int)=>(((Let (m_law_basket P0 v91 x98) (λ(v102:(List Int)) =>
 (Let (m_law_weight v91 v102) (λ(v103:Int) =>
 (Let (((ixD P0 ((2:Int)+x98))/(8:Int))%(2:Int)) (λ(v104:Int) =>
 (bif (!(m_law_good (ixD v95 (0:Int)) v102 v87 v103 v104)) then (Sum.inr false)
 else (bif (!(m_law_good (ixD v95 (1:Int)) v102 v87 (v103%(2:Int)) v104)) then (Sum.inr false)
 else (Sum.inl ())))))))))):(Unit) ⊕ Bool)) (λ_ _=>True) (λb=>.inl ⟨_,_,rfl⟩) (zdM (m:=true) (n:=(((zcB P0 (some (2:Int)) (some (62:Int))).length:Nat):Int)) (zbz (f:=dI) (xs:=(zcB P0 (some (2:Int)) (some (62:Int)))) (Ev.weak (K:=K) (EvO.ev (EvO.anyI (m:=false) (zdX (f:=dI) (xs:=P0) (zaa (i:=0) rfl) (zcv zak) (zcv zak)))))) (by have z:=zdC (xs:=P0) (lo:=some 2) (hi:=some 62);refine ⟨?_,?_⟩<;>omega)) (.eq (.eq (.eq (.eq (.eq (.eq (.eq (.eq (.eq (.eq (.eq .nil))))))))))) trivial (λi99 x98 s97 hx100 hI101=>have v100:=zcR hx100;⟨(λ_ _=>trivial),
 (zao (m:=true) (x:=(m_law_basket P0 v91 x98)) (λ(xs:(List Int))=>dL (List.map dI xs)) (zcw (λ(s97:Unit)=>([.va false (dQ K (List.map dI P0)),.va true (dI v87),.va true (dL (List.map dI v91)),.va true (dI (2:Int)),.ow true (List.map dI (v91++[(1:Int)])),.va true (dL (List.map (dSc A) v95)),.no,.no,.no,.no,.no]:L2.Ctx)) (λ(r:Bool)=>Oc.rt true (dB r))) (zat (x:=(P0,v91,x98)) (zab (zaa (i:=0) rfl) (zab (Ev.old (Ev.weak (K:=K) (zaa (i:=2) rfl))) (zab (Ev.any (m:=true) (zaa (i:=6) rfl)) zah))) rfl (by show zbh P0 v91 x98;exact ziv hp hW (by assumption)) rfl) (λv102 hv102 =>
 have hB:=hv102;(zao (m:=true) (x:=(m_law_weight v91 v102)) dI (zcw (λ(s97:Unit)=>([.va false (dQ K (List.map dI P0)),.va true (dI v87),.va true (dL (List.map dI v91)),.va true (dI (2:Int)),.ow true (List.map dI (v91++[(1:Int)])),.va true (dL (List.map (dSc A) v95)),.no,.no,.no,.no,.no]:L2.Ctx)) (λ(r:Bool)=>Oc.rt true (dB r))) (Ev.any (m:=true) (zat (x:=(v91,v102)) (zab (Ev.old (Ev.weak (K:=K) (zaa (i:=2) rfl))) (zab (Ev.old (Ev.weak (K:=K) (zaa (i:=7) rfl))) zah)) rfl (by show zbj v91 v102;exact zjZ hp hW (by assumption) hB) rfl)) (λv103 hv103 =>
 have hT:=hv103;(zao (m:=true) (x:=(((ixD P0 ((2:Int)+x98))/(8:Int))%(2:Int))) dI (zcw (λ(s97:Unit)=>([.va false (dQ K (List.map dI P0)),.va true (dI v87),.va true (dL (List.map dI v91)),.va true (dI (2:Int)),.ow true (List.map dI (v91++[(1:Int)])),.va true (dL (List.map (dSc A) v95)),.no,.no,.no,.no,.no]:L2.Ctx)) (λ(r:Bool)=>Oc.rt true (dB r))) (zam (x:=((ixD P0 ((2:Int)+x98))/(8:Int))) (y:=(2:Int)) (zam (x:=(ixD P0 ((2:Int)+x98))) (y:=(8:Int)) (Ev.any (m:=false) (zaQ (f:=dI) (xs:=P0) (zaa (i:=0) rfl) (zaS (x:=(2:Int)) (y:=x98) zak (Ev.any (m:=true) (zaa (i:=6) rfl))) (by exact zh7 (ziv hp hW (by assumption))))) zak (by exact ⟨by decide,by decide⟩)) zak (by decide)) (λv104 hv104 =>
 (zai (b:=(!(m_law_good (ixD v95 (0:Int)) v102 v87 v103 v104))) (zcw (λ(s97:Unit)=>([.va false (dQ K (List.map dI P0)),.va true (dI v87),.va true (dL (List.map dI v91)),.va true (dI (2:Int)),.ow true (List.map dI (v91++[(1:Int)])),.va true (dL (List.map (dSc A) v95)),.no,.no,.no,.no,.no]:L2.Ctx)) (λ(r:Bool)=>Oc.rt true (dB r))) (zaK (zaL (Ev.any (m:=true) (zat (x:=((ixD v95 (0:Int)),v102,v87,v103,v104)) (zab (Ev.old (zaQ (f:=(dSc A)) (xs:=v95) (Ev.weak (K:=K) (zaa (i:=5) rfl)) zak (by exact (zd7 hS).1))) (zab (Ev.old (zaa (i:=7) rfl)) (zab (Ev.any (m:=true) (zaa (i:=1) rfl)) (zab (Ev.any (m:=true) (zaa (i:=8) rfl)) (zab (Ev.any (m:=true) (zaa (i:=9) rfl)) zah))))) rfl (by show zbe (ixD v95 (0:Int)) v102 v87 v103 v104;exact zkb hp hW (by assumption) hB hS) rfl)))) (λh105=>(zad (zaf (zaj zak)))) (λh105 =>
 (zae (zai (b:=(!(m_law_good (ixD v95 (1:Int)) v102 v87 (v103%(2:Int)) v104))) (zcw (λ(s97:Unit)=>([.va false (dQ K (List.map dI P0)),.va true (dI v87),.va true (dL (List.map dI v91)),.va true (dI (2:Int)),.ow true (List.map dI (v91++[(1:Int)])),.va true (dL (List.map (dSc A) v95)),.no,.no,.no,.no,.no]:L2.Ctx)) (λ(r:Bool)=>Oc.rt true (dB r))) (zaK (zaL (Ev.any (m:=true) (zat (x:=((ixD v95 (1:Int)),v102,v87,(v103%(2:Int)),v104)) (zab (Ev.old (zaQ (f:=(dSc A)) (xs:=v95) (Ev.weak (K:=K) (zaa (i:=5) rfl)) zak (by exact (zd7 hS).2))) (zab (Ev.old (zaa (i:=7) rfl)) (zab (Ev.any (m:=true) (zaa (i:=1) rfl)) (zab (zam (x:=v103) (y:=(2:Int)) (Ev.any (m:=true) (zaa (i:=8) rfl)) (Ev.any (m:=true) (zaa (i:=3) rfl)) (by show (0:Int)<_;first | exact zjE (by assumption) | decide)) (zab (Ev.any (m:=true) (zaa (i:=9) rfl)) zah))))) rfl (by show zbe (ixD v95 (1:Int)) v102 v87 (v103%(2:Int)) v104;first | exact zjG (by decide) (by decide +kernel) hp hW (by assumption) hB hS | exact zjG (Int.not_lt.mp (of_decide_eq_false (by assumption))) (zj9 hR) hp hW (by assumption) hB hS) rfl)))) (λh106=>(zad (zaf (zaj zak)))) (λh106 =>
 (zae (zaO (.eq (.eq (.eq (.eq (.eq (.eq (.no (.no (.no (.no (.eq .nil))))))))))))))))))))))))⟩) (λr107 hr107 hI =>
 (zai (b:=((!(za0 (λ_=>true) (some (ixD v95 (0:Int)))))||(!(za0 (λ_=>true) (some (ixD v95 (1:Int))))))) (λ(r:Bool)=>Oc.rt true (dB r)) (zdf (b:=(!(za0 (λ_=>true) (some (ixD v95 (0:Int)))))) (zaK (zaL (zcP (cl:=scC A) (fs:=scF) (x:=(some (ixD v95 (0:Int)))) (g:=(λ_=>true)) zcy (Ev.old (zaQ (f:=(dSc A)) (xs:=v95) (Ev.weak (K:=K) (zaa (i:=5) rfl)) zak (by exact (zd7 hS).1))) T.sn_Scale T.sk_Scale))) (λhb=>(zaK (zaL (zcP (cl:=scC A) (fs:=scF) (x:=(some (ixD v95 (1:Int)))) (g:=(λ_=>true)) zcy (Ev.old (zaQ (f:=(dSc A)) (xs:=v95) (Ev.weak (K:=K) (zaa (i:=5) rfl)) zak (by exact (zd7 hS).2))) T.sn_Scale T.sk_Scale))))) (λh108=>(zad (zaf (zaj zak)))) (λh108 =>
 (zae (zai (b:=((!(za0 Sum.isLeft (some (ixD v95 (0:Int)))))||(!(za0 Sum.isRight (some (ixD v95 (1:Int))))))) (λ(r:Bool)=>Oc.rt true (dB r)) (zdf (b:=(!(za0 Sum.isLeft (some (ixD v95 (0:Int)))))) (zaK (zaL (zcP (cl:=scC A) (fs:=scF) (x:=(some (ixD v95 (0:Int)))) (g:=Sum.isLeft) zcy (Ev.old (zaQ (f:=(dSc A)) (xs:=v95) (Ev.weak (K:=K) (zaa (i:=5) rfl)) zak (by exact (zd7 hS).1))) T.sn_Line T.sk_Line))) (λhb=>(zaK (zaL (zcP (cl:=scC A) (fs:=scF) (x:=(some (ixD v95 (1:Int)))) (g:=Sum.isRight) zcy (Ev.old (zaQ (f:=(dSc A)) (xs:=v95) (Ev.weak (K:=K) (zaa (i:=5) rfl)) zak (by exact (zd7 hS).2))) T.sn_Rest T.sk_Rest))))) (λh109=>(zad (zaf (zaj zak)))) (λh109 =>
 (zae (zai (b:=((!(m_law_same (scW (ixD v95 (0:Int))) v91))||(!(m_law_whole (some (Sum.inl ((gR (ixD v95 (1:Int))).rest))))))) (λ(r:Bool)=>Oc.rt true (dB r)) (zdf (b:=(!(m_law_same (scW (ixD v95 (0:Int))) v91))) (zaK (zaL (Ev.any (m:=true) (zat (x:=((scW (ixD v95 (0:Int))),v91)) (zab (Ev.old (zea (cl:=scC A) (fs:=scF) (d:=λx=>dL (List.map dI (scW x))) zcy (zaQ (f:=(dSc A)) (xs:=v95) (Ev.weak (K:=K) (zaa (i:=5) rfl)) zak (by exact (zd7 hS).1)) (λx=>match x with | .inl _=>⟨T.Line_cl,T.Line_weights⟩ | .inr _=>⟨T.Rest_cl,T.Rest_weights⟩) (λx=>match x with | .inl _=>rfl | .inr _=>rfl))) (zab (Ev.old (Ev.weak (K:=K) (zaa (i:=2) rfl))) zah)) rfl (by show za7 (scW (ixD v95 (0:Int))) v91;first | exact trivial | exact zfY hS hW | exact zfQ hS hW) rfl)))) (λhb=>(zaK (zaL (Ev.any (m:=true) (zat (x:=(some (Sum.inl ((gR (ixD v95 (1:Int))).rest)))) (zab (Ev.any (m:=true) (zdt (zfv (zaQ (f:=(dSc A)) (xs:=v95) (Ev.weak (K:=K) (zaa (i:=5) rfl)) zak (by exact (zd7 hS).2)) (by rw [hS];rfl)) T.Rest_cl T.Rest_rest rfl)) zah) rfl (by show zaV (some (Sum.inl ((gR (ixD v95 (1:Int))).rest)));first | exact trivial | exact zfY hS hW | exact zfQ hS hW) rfl)))))) (λh110=>(zad (zaf (zaj zak)))) (λh110 =>
 (zae (zao (m:=true) (x:=(List.map (λ(x111:Int)=>(x111%(2:Int))) v91)) (λ(xs:(List Int))=>dL (List.map dI xs)) (λ(r:Bool)=>Oc.rt true (dB r)) (EvO.ev (EvO.conv (zdw (g:=(λ(x111:Int)=>dI (x111%(2:Int)))) (zdk (m:=true) dI (xs:=v91) (Ev.weak (K:=K) (zaa (i:=2) rfl))) (by exact zaq (by have z:=l_wl hW;omega)) ⟨by decide,by decide⟩ (λi112 x111 hx113=>have v113:=List.mem_of_getElem? hx113;(zam (x:=x111) (y:=(2:Int)) (Ev.any (m:=true) (zaa (i:=0) rfl)) (Ev.any (m:=true) (zaa (i:=1) rfl)) (by show (0:Int)<_;first | exact zjE (by assumption) | decide)))) (by first | (rw [List.map_map];rfl) | (simp only [cond_true,cond_false];rw [List.map_map];rfl)))) (λv114 hv114 =>
 (zaf (zaj (zeM (b:=(decide ((gR (ixD v95 (1:Int))).rest=(2:Int)))) (zbZ (x:=(gR (ixD v95 (1:Int))).rest) (y:=(2:Int)) (Ev.any (m:=true) (zdt (zfv (zaQ (f:=(dSc A)) (xs:=v95) (Ev.weak (K:=K) (zaa (i:=5) rfl)) zak (by exact (zd7 hS).2)) (by rw [hS];rfl)) T.Rest_cl T.Rest_rest rfl)) (Ev.any (m:=true) (zaa (i:=3) rfl))) (λhb=>(Ev.any (m:=true) (zat (x:=((scW (ixD v95 (1:Int))),v114)) (zab (Ev.old (zea (cl:=scC A) (fs:=scF) (d:=λx=>dL (List.map dI (scW x))) zcy (zaQ (f:=(dSc A)) (xs:=v95) (Ev.weak (K:=K) (zaa (i:=5) rfl)) zak (by exact (zd7 hS).2)) (λx=>match x with | .inl _=>⟨T.Line_cl,T.Line_weights⟩ | .inr _=>⟨T.Rest_cl,T.Rest_weights⟩) (λx=>match x with | .inl _=>rfl | .inr _=>rfl))) (zab (Ev.old (Ev.weak (K:=K) (zaa (i:=10) rfl))) zah)) rfl (by show za7 (scW (ixD v95 (1:Int))) v114;first | exact trivial | exact zfY hS hW | exact zfQ hS hW) rfl))))))))))))))))))))))))))))))))) (λh93 =>
 (zae (zao (m:=true) (x:=[(Sum.inl (zbB v91)),(Sum.inr (zbv v92 v91))]) (λ(xs:(List (LineD ⊕ RestD)))=>dL (List.map (dSc A) xs)) (λ(r:Bool)=>Oc.rt true (dB r)) (EvN.ev (EvN.borrowO (i:=4) rfl (zhI (EvO.ev (zbY (zab (zec (i:=v91) (zab (Ev.weak (K:=K) (zaa (i:=4) rfl)) zah) rfl (by show zar v91;exact trivial)) (zab (zec (i:=(v92,v91)) (zab (Ev.any (m:=false) (zaa (i:=3) rfl)) (zab (Ev.weak (K:=K) (zaa (i:=4) rfl)) zah)) rfl (by show zaR v92 v91;first | exact ⟨Int.le_refl 2,by have z:=l_wl hW;omega⟩ | exact ⟨Int.not_lt.mp (of_decide_eq_false (by assumption)),by have z:=l_wl hW;omega⟩)) zah)) (by show 2≤sizeLine;decide)))))) (λv115 hv115 =>
 have hS:=hv115;(zai (b:=(!decide (v91=v91))) (λ(r:Bool)=>Oc.rt true (dB r)) (EvT.borrowO (i:=4) rfl (zan (zeq (n:=0) (neg:=true) (xs:=v91) (ys:=v91) EqD.int (Ev.old (Ev.weak (K:=K) (zaa (i:=4) rfl))) (Ev.old (Ev.weak (K:=K) (zaa (i:=2) rfl)))))) (λh116=>(zad (zaf (zaj zak)))) (λh116 =>
 (zae (zdK (f:=dI) (xs:=v91) (x:=(1:Int)) rfl zak (by exact Nat.lt_of_le_of_lt (show _≤1000 by have z:=l_wl hW;omega) (by decide))
 (zeg (s0:=()) (λ(s117:Unit)=>([.va false (dQ K (List.map dI P0)),.va true (dI v87),.va true (dL (List.map dI v91)),.va true (dI v92),.ow true (List.map dI (v91++[(1:Int)])),.va true (dL (List.map (dSc A) v115)),.no,.no,.no,.no,.no]:L2.Ctx)) (λ(r:Bool)=>Oc.rt true (dB r)) (λb=>b) (λ(s117:Unit) (x118:Int)=>(((Let (m_law_basket P0 v91 x118) (λ(v122:(List Int)) =>
 (Let (m_law_weight v91 v122) (λ(v123:Int) =>
 (Let (((ixD P0 ((2:Int)+x118))/(8:Int))%(2:Int)) (λ(v124:Int) =>
 (bif (!(m_law_good (ixD v115 (0:Int)) v122 v87 v123 v124)) then (Sum.inr false)
 else (bif (!(m_law_good (ixD v115 (1:Int)) v122 v87 (v123%v92) v124)) then (Sum.inr false)
 else (Sum.inl ())))))))))):(Unit) ⊕ Bool)) (λ_ _=>True) (λb=>.inl ⟨_,_,rfl⟩) (zdM (m:=true) (n:=(((zcB P0 (some (2:Int)) (some (62:Int))).length:Nat):Int)) (zbz (f:=dI) (xs:=(zcB P0 (some (2:Int)) (some (62:Int)))) (Ev.weak (K:=K) (EvO.ev (EvO.anyI (m:=false) (zdX (f:=dI) (xs:=P0) (zaa (i:=0) rfl) (zcv zak) (zcv zak)))))) (by have z:=zdC (xs:=P0) (lo:=some 2) (hi:=some 62);refine ⟨?_,?_⟩<;>omega)) (.eq (.eq (.eq (.eq (.eq (.eq (.eq (.eq (.eq (.eq (.eq .nil))))))))))) trivial (λi119 x118 s117 hx120 hI121=>have v120:=zcR hx120;⟨(λ_ _=>trivial),
 (zao (m:=true) (x:=(m_law_basket P0 v91 x118)) (λ(xs:(List Int))=>dL (List.map dI xs)) (zcw (λ(s117:Unit)=>([.va false (dQ K (List.map dI P0)),.va true (dI v87),.va true (dL (List.map dI v91)),.va true (dI v92),.ow true (List.map dI (v91++[(1:Int)])),.va true (dL (List.map (dSc A) v115)),.no,.no,.no,.no,.no]:L2.Ctx)) (λ(r:Bool)=>Oc.rt true (dB r))) (zat (x:=(P0,v91,x118)) (zab (zaa (i:=0) rfl) (zab (Ev.old (Ev.weak (K:=K) (zaa (i:=2) rfl))) (zab (Ev.any (m:=true) (zaa (i:=6) rfl)) zah))) rfl (by show zbh P0 v91 x118;exact ziv hp hW (by assumption)) rfl) (λv122 hv122 =>
 have hB:=hv122;(zao (m:=true) (x:=(m_law_weight v91 v122)) dI (zcw (λ(s117:Unit)=>([.va false (dQ K (List.map dI P0)),.va true (dI v87),.va true (dL (List.map dI v91)),.va true (dI v92),.ow true (List.map dI (v91++[(1:Int)])),.va true (dL (List.map (dSc A) v115)),.no,.no,.no,.no,.no]:L2.Ctx)) (λ(r:Bool)=>Oc.rt true (dB r))) (Ev.any (m:=true) (zat (x:=(v91,v122)) (zab (Ev.old (Ev.weak (K:=K) (zaa (i:=2) rfl))) (zab (Ev.old (Ev.weak (K:=K) (zaa (i:=7) rfl))) zah)) rfl (by show zbj v91 v122;exact zjZ hp hW (by assumption) hB) rfl)) (λv123 hv123 =>
 have hT:=hv123;(zao (m:=true) (x:=(((ixD P0 ((2:Int)+x118))/(8:Int))%(2:Int))) dI (zcw (λ(s117:Unit)=>([.va false (dQ K (List.map dI P0)),.va true (dI v87),.va true (dL (List.map dI v91)),.va true (dI v92),.ow true (List.map dI (v91++[(1:Int)])),.va true (dL (List.map (dSc A) v115)),.no,.no,.no,.no,.no]:L2.Ctx)) (λ(r:Bool)=>Oc.rt true (dB r))) (zam (x:=((ixD P0 ((2:Int)+x118))/(8:Int))) (y:=(2:Int)) (zam (x:=(ixD P0 ((2:Int)+x118))) (y:=(8:Int)) (Ev.any (m:=false) (zaQ (f:=dI) (xs:=P0) (zaa (i:=0) rfl) (zaS (x:=(2:Int)) (y:=x118) zak (Ev.any (m:=true) (zaa (i:=6) rfl))) (by exact zh7 (ziv hp hW (by assumption))))) zak (by exact ⟨by decide,by decide⟩)) zak (by decide)) (λv124 hv124 =>
 (zai (b:=(!(m_law_good (ixD v115 (0:Int)) v122 v87 v123 v124))) (zcw (λ(s117:Unit)=>([.va false (dQ K (List.map dI P0)),.va true (dI v87),.va true (dL (List.map dI v91)),.va true (dI v92),.ow true (List.map dI (v91++[(1:Int)])),.va true (dL (List.map (dSc A) v115)),.no,.no,.no,.no,.no]:L2.Ctx)) (λ(r:Bool)=>Oc.rt true (dB r))) (zaK (zaL (Ev.any (m:=true) (zat (x:=((ixD v115 (0:Int)),v122,v87,v123,v124)) (zab (Ev.old (zaQ (f:=(dSc A)) (xs:=v115) (Ev.weak (K:=K) (zaa (i:=5) rfl)) zak (by exact (zd7 hS).1))) (zab (Ev.old (zaa (i:=7) rfl)) (zab (Ev.any (m:=true) (zaa (i:=1) rfl)) (zab (Ev.any (m:=true) (zaa (i:=8) rfl)) (zab (Ev.any (m:=true) (zaa (i:=9) rfl)) zah))))) rfl (by show zbe (ixD v115 (0:Int)) v122 v87 v123 v124;exact zkb hp hW (by assumption) hB hS) rfl)))) (λh125=>(zad (zaf (zaj zak)))) (λh125 =>
 (zae (zai (b:=(!(m_law_good (ixD v115 (1:Int)) v122 v87 (v123%v92) v124))) (zcw (λ(s117:Unit)=>([.va false (dQ K (List.map dI P0)),.va true (dI v87),.va true (dL (List.map dI v91)),.va true (dI v92),.ow true (List.map dI (v91++[(1:Int)])),.va true (dL (List.map (dSc A) v115)),.no,.no,.no,.no,.no]:L2.Ctx)) (λ(r:Bool)=>Oc.rt true (dB r))) (zaK (zaL (Ev.any (m:=true) (zat (x:=((ixD v115 (1:Int)),v122,v87,(v123%v92),v124)) (zab (Ev.old (zaQ (f:=(dSc A)) (xs:=v115) (Ev.weak (K:=K) (zaa (i:=5) rfl)) zak (by exact (zd7 hS).2))) (zab (Ev.old (zaa (i:=7) rfl)) (zab (Ev.any (m:=true) (zaa (i:=1) rfl)) (zab (zam (x:=v123) (y:=v92) (Ev.any (m:=true) (zaa (i:=8) rfl)) (Ev.any (m:=true) (zaa (i:=3) rfl)) (by show (0:Int)<_;first | exact zjE (by assumption) | decide)) (zab (Ev.any (m:=true) (zaa (i:=9) rfl)) zah))))) rfl (by show zbe (ixD v115 (1:Int)) v122 v87 (v123%v92) v124;first | exact zjG (by decide) (by decide +kernel) hp hW (by assumption) hB hS | exact zjG (Int.not_lt.mp (of_decide_eq_false (by assumption))) (zj9 hR) hp hW (by assumption) hB hS) rfl)))) (λh126=>(zad (zaf (zaj zak)))) (λh126 =>
 (zae (zaO (.eq (.eq (.eq (.eq (.eq (.eq (.no (.no (.no (.no (.eq .nil))))))))))))))))))))))))⟩) (λr127 hr127 hI =>
 (zai (b:=((!(za0 (λ_=>true) (some (ixD v115 (0:Int)))))||(!(za0 (λ_=>true) (some (ixD v115 (1:Int))))))) (λ(r:Bool)=>Oc.rt true (dB r)) (zdf (b:=(!(za0 (λ_=>true) (some (ixD v115 (0:Int)))))) (zaK (zaL (zcP (cl:=scC A) (fs:=scF) (x:=(some (ixD v115 (0:Int)))) (g:=(λ_=>true)) zcy (Ev.old (zaQ (f:=(dSc A)) (xs:=v115) (Ev.weak (K:=K) (zaa (i:=5) rfl)) zak (by exact (zd7 hS).1))) T.sn_Scale T.sk_Scale))) (λhb=>(zaK (zaL (zcP (cl:=scC A) (fs:=scF) (x:=(some (ixD v115 (1:Int)))) (g:=(λ_=>true)) zcy (Ev.old (zaQ (f:=(dSc A)) (xs:=v115) (Ev.weak (K:=K) (zaa (i:=5) rfl)) zak (by exact (zd7 hS).2))) T.sn_Scale T.sk_Scale))))) (λh128=>(zad (zaf (zaj zak)))) (λh128 =>
 (zae (zai (b:=((!(za0 Sum.isLeft (some (ixD v115 (0:Int)))))||(!(za0 Sum.isRight (some (ixD v115 (1:Int))))))) (λ(r:Bool)=>Oc.rt true (dB r)) (zdf (b:=(!(za0 Sum.isLeft (some (ixD v115 (0:Int)))))) (zaK (zaL (zcP (cl:=scC A) (fs:=scF) (x:=(some (ixD v115 (0:Int)))) (g:=Sum.isLeft) zcy (Ev.old (zaQ (f:=(dSc A)) (xs:=v115) (Ev.weak (K:=K) (zaa (i:=5) rfl)) zak (by exact (zd7 hS).1))) T.sn_Line T.sk_Line))) (λhb=>(zaK (zaL (zcP (cl:=scC A) (fs:=scF) (x:=(some (ixD v115 (1:Int)))) (g:=Sum.isRight) zcy (Ev.old (zaQ (f:=(dSc A)) (xs:=v115) (Ev.weak (K:=K) (zaa (i:=5) rfl)) zak (by exact (zd7 hS).2))) T.sn_Rest T.sk_Rest))))) (λh129=>(zad (zaf (zaj zak)))) (λh129 =>
 (zae (zai (b:=((!(m_law_same (scW (ixD v115 (0:Int))) v91))||(!(m_law_whole (some (Sum.inl ((gR (ixD v115 (1:Int))).rest))))))) (λ(r:Bool)=>Oc.rt true (dB r)) (zdf (b:=(!(m_law_same (scW (ixD v115 (0:Int))) v91))) (zaK (zaL (Ev.any (m:=true) (zat (x:=((scW (ixD v115 (0:Int))),v91)) (zab (Ev.old (zea (cl:=scC A) (fs:=scF) (d:=λx=>dL (List.map dI (scW x))) zcy (zaQ (f:=(dSc A)) (xs:=v115) (Ev.weak (K:=K) (zaa (i:=5) rfl)) zak (by exact (zd7 hS).1)) (λx=>match x with | .inl _=>⟨T.Line_cl,T.Line_weights⟩ | .inr _=>⟨T.Rest_cl,T.Rest_weights⟩) (λx=>match x with | .inl _=>rfl | .inr _=>rfl))) (zab (Ev.old (Ev.weak (K:=K) (zaa (i:=2) rfl))) zah)) rfl (by show za7 (scW (ixD v115 (0:Int))) v91;first | exact trivial | exact zfY hS hW | exact zfQ hS hW) rfl)))) (λhb=>(zaK (zaL (Ev.any (m:=true) (zat (x:=(some (Sum.inl ((gR (ixD v115 (1:Int))).rest)))) (zab (Ev.any (m:=true) (zdt (zfv (zaQ (f:=(dSc A)) (xs:=v115) (Ev.weak (K:=K) (zaa (i:=5) rfl)) zak (by exact (zd7 hS).2)) (by rw [hS];rfl)) T.Rest_cl T.Rest_rest rfl)) zah) rfl (by show zaV (some (Sum.inl ((gR (ixD v115 (1:Int))).rest)));first | exact trivial | exact zfY hS hW | exact zfQ hS hW) rfl)))))) (λh130=>(zad (zaf (zaj zak)))) (λh130 =>
 (zae (zao (m:=true) (x:=(List.map (λ(x131:Int)=>(x131%v92)) v91)) (λ(xs:(List Int))=>dL (List.map dI xs)) (λ(r:Bool)=>Oc.rt true (dB r)) (EvO.ev (EvO.conv (zdw (g:=(λ(x131:Int)=>dI (x131%v92))) (zdk (m:=true) dI (xs:=v91) (Ev.weak (K:=K) (zaa (i:=2) rfl))) (by exact zaq (by have z:=l_wl hW;omega)) ⟨by decide,by decide⟩ (λi132 x131 hx133=>have v133:=List.mem_of_getElem? hx133;(zam (x:=x131) (y:=v92) (Ev.any (m:=true) (zaa (i:=0) rfl)) (Ev.any (m:=true) (zaa (i:=1) rfl)) (by show (0:Int)<_;first | exact zjE (by assumption) | decide)))) (by first | (rw [List.map_map];rfl) | (simp only [cond_true,cond_false];rw [List.map_map];rfl)))) (λv134 hv134 =>
 (zaf (zaj (zeM (b:=(decide ((gR (ixD v115 (1:Int))).rest=v92))) (zbZ (x:=(gR (ixD v115 (1:Int))).rest) (y:=v92) (Ev.any (m:=true) (zdt (zfv (zaQ (f:=(dSc A)) (xs:=v115) (Ev.weak (K:=K) (zaa (i:=5) rfl)) zak (by exact (zd7 hS).2)) (by rw [hS];rfl)) T.Rest_cl T.Rest_rest rfl)) (Ev.any (m:=true) (zaa (i:=3) rfl))) (λhb=>(Ev.any (m:=true) (zat (x:=((scW (ixD v115 (1:Int))),v134)) (zab (Ev.old (zea (cl:=scC A) (fs:=scF) (d:=λx=>dL (List.map dI (scW x))) zcy (zaQ (f:=(dSc A)) (xs:=v115) (Ev.weak (K:=K) (zaa (i:=5) rfl)) zak (by exact (zd7 hS).2)) (λx=>match x with | .inl _=>⟨T.Line_cl,T.Line_weights⟩ | .inr _=>⟨T.Rest_cl,T.Rest_weights⟩) (λx=>match x with | .inl _=>rfl | .inr _=>rfl))) (zab (Ev.old (Ev.weak (K:=K) (zaa (i:=10) rfl))) zah)) rfl (by show za7 (scW (ixD v115 (1:Int))) v134;first | exact trivial | exact zfY hS hW | exact zfQ hS hW) rfl)))))))))))))))))))))))))))))))))))
theorem ziD {xs ws:List Int} {z r:Int} (hp:xs.length≤63) (h:WsP z ws) (hr:2≤r):ziy (loopR (λ(_:Unit) (x:Int)=>(((Let (m_law_basket xs ws x) (λ(b:(List Int))=>(Let (m_law_weight ws b) (λ(t:Int)=>(Let (((ixD xs ((2:Int)+x))/(8:Int))%(2:Int)) (λ(a:Int)=>(bif (!(m_law_good (ixD [(Sum.inl (zbB ws):LineD ⊕ RestD),Sum.inr (zbv r ws)] (0:Int)) b z t a)) then (Sum.inr false) else (bif (!(m_law_good (ixD [(Sum.inl (zbB ws):LineD ⊕ RestD),Sum.inr (zbv r ws)] (1:Int)) b z (t%r) a)) then (Sum.inr false) else (Sum.inl ())))))))))):(Unit) ⊕ Bool)) () (rngZ 0 (((zcB xs (some (2:Int)) (some (62:Int))).length:Nat):Int).toNat)) (λ(_:Unit)=>((decide (r=r))&&(m_law_same (List.map (λ(y:Int)=>y%r) ws) (List.map (λ(x:Int)=>(x%r)) ws)))) (λb=>b)=true:=by
 refine (zeR λx _=>?_).trans ?_
 ·rw [zda,zda,zda]
  have e0:ixD [(Sum.inl (zbB ws):LineD ⊕ RestD),Sum.inr (zbv r ws)] (0:Int)=Sum.inl (zbB ws):=rfl
  have e1:ixD [(Sum.inl (zbB ws):LineD ⊕ RestD),Sum.inr (zbv r ws)] (1:Int)=Sum.inr (zbv r ws):=rfl
  rw [e0,e1,zhy (s:=Sum.inl (zbB ws)) (d:=m_law_weight ws (m_law_basket xs ws x)) h.2.2.1.symm (λ_=>zeP _ _),zhy (s:=Sum.inr (zbv r ws)) (by show z=(((List.map (λ(y:Int)=>y%r) ws).length:Nat):Int);rw [List.length_map];exact h.2.2.1.symm) (λ_=>zhY r ws _)]
  rfl
 ·rw [zdV,decide_eq_true rfl];rfl
theorem zhe (xs:List Int) (hp:xs.length≤63):m_law xs=true:=by
 unfold m_law
 rw [zda,zda]
 have h:=l_w (xs:=xs) (a:=m_law_at xs (0:Int)) rfl rfl
 generalize (1:Int)+m_law_at xs (0:Int)%(8:Int)=z at *
 generalize List.map (λ(x:Int)=>m_law_entry (zcB xs (some (3:Int)) none) x ((10:Int)^(60:Int).toNat)) (rngZ 0 z.toNat)=ws at *
 rw [zda]
 generalize m_law_rest (m_law_at xs (1:Int))=r
 by_cases q:r<2
 ·rw [decide_eq_true q,cond_true,show m_law_too_little r ws=true from zjo]
  rw [show (!true)=false from rfl,cond_false,zda,decide_eq_true rfl,show (!true)=false from rfl,cond_false]
  have k:=ziD (r:=2) hp h (by decide)
  have s0:m_law_same (scW (ixD [(Sum.inl (zbB ws):LineD ⊕ RestD),Sum.inr (zbv (2:Int) ws)] (0:Int))) ws=true:=zdV ws
  rw [s0]
  exact k
 ·rw [decide_eq_false q,cond_false,zda,decide_eq_true rfl,show (!true)=false from rfl,cond_false]
  have k:=ziD (r:=r) hp h (by omega)
  have s0:m_law_same (scW (ixD [(Sum.inl (zbB ws):LineD ⊕ RestD),Sum.inr (zbv r ws)] (0:Int))) ws=true:=zdV ws
  rw [s0]
  exact k
def zgU (K:W.Frag):Sp:=λvs H Q _=>∃ (a:Addr) (ns:List Int),vs=[.ref a]∧SqL K H a (ns.map V.int)∧ns.length≤63∧∀ H',Q (.bl true) H'
theorem ziJ {K:W.Frag} {A:Adr} {vs:List V} {H:Hp} {Q:VK} {E:XK} (h:zgU K vs H Q E):zhA K A vs H Q E:=by
 obtain ⟨a,ns,rfl,hS,hl,q⟩:=h
 refine ⟨ns,H,Same.refl _,.cons ⟨a,_,rfl,hS,?_⟩ .nil,hl,λv F' H' _ hv=>?_⟩
 ·clear hS hl
  induction ns with
  | nil=>exact .nil
  | cons n ns ih=>exact .cons rfl ih
 ·have hv:v=.bl (m_law ns):=hv
  rw [hv,zhe ns hl]
  exact q _
theorem all_mk {l:W.OpenLaw} {w:World} {K:W.Frag} {h:Heap} {mg:Str->Option Value} {fa f0 f1 f2 f3 f4 f5 f6 f7 f8 f9 f10 f11 f12 f13 f14 f15 f16 f17 f18 f19 f20 C_Scale C_Line C_Rest K_BadBasket K_BadBaskets K_BadNames K_BadRest K_BadRoad K_BadScale K_BadSwap K_BadWares K_Endless K_NoBook K_NoLine K_NoName K_NoSwap K_NotAlike K_NotKept K_OtherBook K_OtherWares K_SwapError K_TooGreat K_TooMany:Addr} (X:K.In h) (G:h.Ns mainGlobals mg) (hfa:mg "law"=some (.ref fa))
  {od0 an0 od1 an1 od2 an2 od3 an3 od4 an4 od5 an5 od6 an6 od7 an7 od8 an8 od9 an9 od10 an10 od11 an11 od12 an12 od13 an13 od14 an14 od15 an15 od16 an16 od17 an17 od18 an18 od19 an19 od20 an20:Option Addr} {sl0 sl1 sl2 sl3 sl4 sl5 sl6 sl7 sl8 sl9 sl10 sl11 sl12 sl13 sl14 sl15 sl16 sl17 sl18 sl19 sl20:Array (Option Value)} {oc0 kV0 dc0 pm0 cd0 ct0 oc1 kV1 dc1 pm1 cd1 ct1 oc2 kV2 dc2 pm2 cd2 ct2 oc3 kV3 dc3 pm3 cd3 ct3 oc4 kV4 dc4 pm4 cd4 ct4 oc5 kV5 dc5 pm5 cd5 ct5 oc6 kV6 dc6 pm6 cd6 ct6 oc7 kV7 dc7 pm7 cd7 ct7 oc8 kV8 dc8 pm8 cd8 ct8 oc9 kV9 dc9 pm9 cd9 ct9 oc10 kV10 dc10 pm10 cd10 ct10 oc11 kV11 dc11 pm11 cd11 ct11 oc12 kV12 dc12 pm12 cd12 ct12 oc13 kV13 dc13 pm13 cd13 ct13 oc14 kV14 dc14 pm14 cd14 ct14 oc15 kV15 dc15 pm15 cd15 ct15 oc16 kV16 dc16 pm16 cd16 ct16 oc17 kV17 dc17 pm17 cd17 ct17 oc18 kV18 dc18 pm18 cd18 ct18 oc19 kV19 dc19 pm19 cd19 ct19 oc20 kV20 dc20 pm20 cd20 ct20:Value}
  (aC_Scale:W.nsIn K mainGlobals "Scale"=some (some (.ref C_Scale)))
  (aC_Line:W.nsIn K mainGlobals "Line"=some (some (.ref C_Line)))
  (aC_Rest:W.nsIn K mainGlobals "Rest"=some (some (.ref C_Rest)))
  (a0:W.nsIn K mainGlobals "refuse_unlike"=some (some (.ref f0)))
  (l0:K.lookup f0=some ⟨oc0,od0,.func (W.fnOf "refuse_unlike" "refuse_unlike" (zav zaP) (zap zaP) (defScope zaP) .none kV0 dc0 pm0 an0 cd0 ct0),sl0⟩)
  (c0:W.codeIn K cd0 "refuse_unlike"=true)
  (k0:W.keepIn K (.ref f0)=true)
  (a1:W.nsIn K mainGlobals "weighed"=some (some (.ref f1)))
  (l1:K.lookup f1=some ⟨oc1,od1,.func (W.fnOf "weighed" "weighed" (zav zca) (zap zca) (defScope zca) .none kV1 dc1 pm1 an1 cd1 ct1),sl1⟩)
  (c1:W.codeIn K cd1 "weighed"=true)
  (k1:W.keepIn K (.ref f1)=true)
  (a2:W.nsIn K mainGlobals "drawn"=some (some (.ref f2)))
  (l2:K.lookup f2=some ⟨oc2,od2,.func (W.fnOf "drawn" "drawn" (zav zdl) (zap zdl) (defScope zdl) .none kV2 dc2 pm2 an2 cd2 ct2),sl2⟩)
  (c2:W.codeIn K cd2 "drawn"=true)
  (k2:W.keepIn K (.ref f2)=true)
  (a3:W.nsIn K mainGlobals "_law_whole"=some (some (.ref f3)))
  (l3:K.lookup f3=some ⟨oc3,od3,.func (W.fnOf "_law_whole" "_law_whole" (zav zbP) (zap zbP) (defScope zbP) .none kV3 dc3 pm3 an3 cd3 ct3),sl3⟩)
  (c3:W.codeIn K cd3 "_law_whole"=true)
  (k3:W.keepIn K (.ref f3)=true)
  (a4:W.nsIn K mainGlobals "_law_same"=some (some (.ref f4)))
  (l4:K.lookup f4=some ⟨oc4,od4,.func (W.fnOf "_law_same" "_law_same" (zav zbO) (zap zbO) (defScope zbO) .none kV4 dc4 pm4 an4 cd4 ct4),sl4⟩)
  (c4:W.codeIn K cd4 "_law_same"=true)
  (k4:W.keepIn K (.ref f4)=true)
  (a5:W.nsIn K mainGlobals "_law_flags"=some (some (.ref f5)))
  (l5:K.lookup f5=some ⟨oc5,od5,.func (W.fnOf "_law_flags" "_law_flags" (zav zbL) (zap zbL) (defScope zbL) .none kV5 dc5 pm5 an5 cd5 ct5),sl5⟩)
  (c5:W.codeIn K cd5 "_law_flags"=true)
  (k5:W.keepIn K (.ref f5)=true)
  (a6:W.nsIn K mainGlobals "_law_only"=some (some (.ref f6)))
  (l6:K.lookup f6=some ⟨oc6,od6,.func (W.fnOf "_law_only" "_law_only" (zav s_law_only) (zap s_law_only) (defScope s_law_only) .none kV6 dc6 pm6 an6 cd6 ct6),sl6⟩)
  (c6:W.codeIn K cd6 "_law_only"=true)
  (k6:W.keepIn K (.ref f6)=true)
  (a7:W.nsIn K mainGlobals "_law_at"=some (some (.ref f7)))
  (l7:K.lookup f7=some ⟨oc7,od7,.func (W.fnOf "_law_at" "_law_at" (zav zcX) (zap zcX) (defScope zcX) .none kV7 dc7 pm7 an7 cd7 ct7),sl7⟩)
  (c7:W.codeIn K cd7 "_law_at"=true)
  (k7:W.keepIn K (.ref f7)=true)
  (a8:W.nsIn K mainGlobals "_law_entry"=some (some (.ref f8)))
  (l8:K.lookup f8=some ⟨oc8,od8,.func (W.fnOf "_law_entry" "_law_entry" (zav zbG) (zap zbG) (defScope zbG) .none kV8 dc8 pm8 an8 cd8 ct8),sl8⟩)
  (c8:W.codeIn K cd8 "_law_entry"=true)
  (k8:W.keepIn K (.ref f8)=true)
  (a9:W.nsIn K mainGlobals "_law_rest"=some (some (.ref f9)))
  (l9:K.lookup f9=some ⟨oc9,od9,.func (W.fnOf "_law_rest" "_law_rest" (zav zb6) (zap zb6) (defScope zb6) .none kV9 dc9 pm9 an9 cd9 ct9),sl9⟩)
  (c9:W.codeIn K cd9 "_law_rest"=true)
  (k9:W.keepIn K (.ref f9)=true)
  (a10:W.nsIn K mainGlobals "_law_basket"=some (some (.ref f10)))
  (l10:K.lookup f10=some ⟨oc10,od10,.func (W.fnOf "_law_basket" "_law_basket" (zav zbb) (zap zbb) (defScope zbb) .none kV10 dc10 pm10 an10 cd10 ct10),sl10⟩)
  (c10:W.codeIn K cd10 "_law_basket"=true)
  (k10:W.keepIn K (.ref f10)=true)
  (a11:W.nsIn K mainGlobals "_law_asked"=some (some (.ref f11)))
  (l11:K.lookup f11=some ⟨oc11,od11,.func (W.fnOf "_law_asked" "_law_asked" (zav zbN) (zap zbN) (defScope zbN) .none kV11 dc11 pm11 an11 cd11 ct11),sl11⟩)
  (c11:W.codeIn K cd11 "_law_asked"=true)
  (k11:W.keepIn K (.ref f11)=true)
  (a12:W.nsIn K mainGlobals "_law_good"=some (some (.ref f12)))
  (l12:K.lookup f12=some ⟨oc12,od12,.func (W.fnOf "_law_good" "_law_good" (zav zb8) (zap zb8) (defScope zb8) .none kV12 dc12 pm12 an12 cd12 ct12),sl12⟩)
  (c12:W.codeIn K cd12 "_law_good"=true)
  (k12:W.keepIn K (.ref f12)=true)
  (a13:W.nsIn K mainGlobals "_law_weight"=some (some (.ref f13)))
  (l13:K.lookup f13=some ⟨oc13,od13,.func (W.fnOf "_law_weight" "_law_weight" (zav zbs) (zap zbs) (defScope zbs) .none kV13 dc13 pm13 an13 cd13 ct13),sl13⟩)
  (c13:W.codeIn K cd13 "_law_weight"=true)
  (k13:W.keepIn K (.ref f13)=true)
  (a14:W.nsIn K mainGlobals "_law_too_little"=some (some (.ref f14)))
  (l14:K.lookup f14=some ⟨oc14,od14,.func (W.fnOf "_law_too_little" "_law_too_little" (zav zaH) (zap zaH) (defScope zaH) .none kV14 dc14 pm14 an14 cd14 ct14),sl14⟩)
  (c14:W.codeIn K cd14 "_law_too_little"=true)
  (k14:W.keepIn K (.ref f14)=true)
  (a15:W.nsIn K mainGlobals "law"=some (some (.ref f15)))
  (l15:K.lookup f15=some ⟨oc15,od15,.func (W.fnOf "law" "law" (zav zdG) (zap zdG) (defScope zdG) .none kV15 dc15 pm15 an15 cd15 ct15),sl15⟩)
  (c15:W.codeIn K cd15 "law"=true)
  (k15:W.keepIn K (.ref f15)=true)
  (a16_Line:W.findIn K (.ref C_Line) "weigh"=some (some (.ref f16)))
  (i16:W.isFn K (.ref f16)=true)
  (l16:K.lookup f16=some ⟨oc16,od16,.func (W.fnOf "weigh" "Scale.weigh" (zav zb1) (zap zb1) (defScope zb1) .none kV16 dc16 pm16 an16 cd16 ct16),sl16⟩)
  (c16:W.codeIn K cd16 "Scale.weigh"=true)
  (k16:W.keepIn K (.ref f16)=true)
  (a17_Rest:W.findIn K (.ref C_Rest) "weigh"=some (some (.ref f17)))
  (i17:W.isFn K (.ref f17)=true)
  (l17:K.lookup f17=some ⟨oc17,od17,.func (W.fnOf "weigh" "Rest.weigh" (zav zbq) (zap zbq) (defScope zbq) .none kV17 dc17 pm17 an17 cd17 ct17),sl17⟩)
  (c17:W.codeIn K cd17 "Rest.weigh"=true)
  (k17:W.keepIn K (.ref f17)=true)
  (a18_Line:W.findIn K (.ref C_Line) "levels"=some (some (.ref f18)))
  (a18_Rest:W.findIn K (.ref C_Rest) "levels"=some (some (.ref f18)))
  (i18:W.isFn K (.ref f18)=true)
  (l18:K.lookup f18=some ⟨oc18,od18,.func (W.fnOf "levels" "Scale.levels" (zav zbQ) (zap zbQ) (defScope zbQ) .none kV18 dc18 pm18 an18 cd18 ct18),sl18⟩)
  (c18:W.codeIn K cd18 "Scale.levels"=true)
  (k18:W.keepIn K (.ref f18)=true)
  (a19:W.findIn K (.ref C_Scale) "__init__"=some (some (.ref f19)))
  (i19:W.isFn K (.ref f19)=true)
  (a19_Line:W.findIn K (.ref C_Line) "__init__"=some (some (.ref f19)))
  (bg19:W.specialIn K (.ref C_Scale) "__getattribute__"=some (some (.builtin "type.__getattribute__")))
  (br19:W.readsIn K C_Scale (.type "type")=true)
  (bf19:W.findCls K (.ref C_Scale) (.type "type") "__init__"=some (.val (.ref f19)))
  (l19:K.lookup f19=some ⟨oc19,od19,.func (W.fnOf "__init__" "Scale.__init__" (zav zbk) (zap zbk) (defScope zbk) .none kV19 dc19 pm19 an19 cd19 ct19),sl19⟩)
  (c19:W.codeIn K cd19 "Scale.__init__"=true)
  (k19:W.keepIn K (.ref f19)=true)
  (a20:W.findIn K (.ref C_Rest) "__init__"=some (some (.ref f20)))
  (i20:W.isFn K (.ref f20)=true)
  (l20:K.lookup f20=some ⟨oc20,od20,.func (W.fnOf "__init__" "Rest.__init__" (zav zas) (zap zas) (defScope zas) .none kV20 dc20 pm20 an20 cd20 ct20),sl20⟩)
  (c20:W.codeIn K cd20 "Rest.__init__"=true)
  (k20:W.keepIn K (.ref f20)=true)
  (pg_Scale:W.plainGet K C_Scale Str.empty=true)
  (hd_Scale:W.hasDictIn K C_Scale=true)
  (po_Scale:W.plainOver K C_Scale=true)
  (sa_Scale:W.findIn K (.ref C_Scale) "__setattr__"=some (some (.builtin "object.__setattr__")))
  (mk_Scale:W.makesIn K C_Scale=true)
  (kc_Scale:W.keepIn K (.ref C_Scale)=true)
  (n_Scale_weights:W.findIn K (.ref C_Scale) "weights"=some none)
  (pg_Line:W.plainGet K C_Line Str.empty=true)
  (hd_Line:W.hasDictIn K C_Line=true)
  (po_Line:W.plainOver K C_Line=true)
  (sa_Line:W.findIn K (.ref C_Line) "__setattr__"=some (some (.builtin "object.__setattr__")))
  (mk_Line:W.makesIn K C_Line=true)
  (kc_Line:W.keepIn K (.ref C_Line)=true)
  (n_Line_weights:W.findIn K (.ref C_Line) "weights"=some none)
  (pg_Rest:W.plainGet K C_Rest Str.empty=true)
  (hd_Rest:W.hasDictIn K C_Rest=true)
  (po_Rest:W.plainOver K C_Rest=true)
  (sa_Rest:W.findIn K (.ref C_Rest) "__setattr__"=some (some (.builtin "object.__setattr__")))
  (mk_Rest:W.makesIn K C_Rest=true)
  (kc_Rest:W.keepIn K (.ref C_Rest)=true)
  (n_Rest_weights:W.findIn K (.ref C_Rest) "weights"=some none)
  (n_Rest_rest:W.findIn K (.ref C_Rest) "rest"=some none)
  (z_ValueError:W.nsIn K mainGlobals "ValueError"=some none)
  (z_all:W.nsIn K mainGlobals "all"=some none)
  (z_bool:W.nsIn K mainGlobals "bool"=some none)
  (z_int:W.nsIn K mainGlobals "int"=some none)
  (z_isinstance:W.nsIn K mainGlobals "isinstance"=some none)
  (z_len:W.nsIn K mainGlobals "len"=some none)
  (z_list:W.nsIn K mainGlobals "list"=some none)
  (z_min:W.nsIn K mainGlobals "min"=some none)
  (z_range:W.nsIn K mainGlobals "range"=some none)
  (z_sum:W.nsIn K mainGlobals "sum"=some none)
  (z_zip:W.nsIn K mainGlobals "zip"=some none)
  (aK_BadBasket:W.nsIn K mainGlobals "BadBasket"=some (some (.ref K_BadBasket)))
  (aK_BadBaskets:W.nsIn K mainGlobals "BadBaskets"=some (some (.ref K_BadBaskets)))
  (aK_BadNames:W.nsIn K mainGlobals "BadNames"=some (some (.ref K_BadNames)))
  (aK_BadRest:W.nsIn K mainGlobals "BadRest"=some (some (.ref K_BadRest)))
  (aK_BadRoad:W.nsIn K mainGlobals "BadRoad"=some (some (.ref K_BadRoad)))
  (aK_BadScale:W.nsIn K mainGlobals "BadScale"=some (some (.ref K_BadScale)))
  (aK_BadSwap:W.nsIn K mainGlobals "BadSwap"=some (some (.ref K_BadSwap)))
  (aK_BadWares:W.nsIn K mainGlobals "BadWares"=some (some (.ref K_BadWares)))
  (aK_Endless:W.nsIn K mainGlobals "Endless"=some (some (.ref K_Endless)))
  (aK_NoBook:W.nsIn K mainGlobals "NoBook"=some (some (.ref K_NoBook)))
  (aK_NoLine:W.nsIn K mainGlobals "NoLine"=some (some (.ref K_NoLine)))
  (aK_NoName:W.nsIn K mainGlobals "NoName"=some (some (.ref K_NoName)))
  (aK_NoSwap:W.nsIn K mainGlobals "NoSwap"=some (some (.ref K_NoSwap)))
  (aK_NotAlike:W.nsIn K mainGlobals "NotAlike"=some (some (.ref K_NotAlike)))
  (aK_NotKept:W.nsIn K mainGlobals "NotKept"=some (some (.ref K_NotKept)))
  (aK_OtherBook:W.nsIn K mainGlobals "OtherBook"=some (some (.ref K_OtherBook)))
  (aK_OtherWares:W.nsIn K mainGlobals "OtherWares"=some (some (.ref K_OtherWares)))
  (aK_SwapError:W.nsIn K mainGlobals "SwapError"=some (some (.ref K_SwapError)))
  (aK_TooGreat:W.nsIn K mainGlobals "TooGreat"=some (some (.ref K_TooGreat)))
  (aK_TooMany:W.nsIn K mainGlobals "TooMany"=some (some (.ref K_TooMany)))
  (x_gt:W.specialIn K (.builtin "object.__class__") "__get__"=some (some (.builtin "getset_descriptor.__get__")))
  (x_tk:W.takesIn K (.builtin "object.__class__")=some true)
  (xi_BadBasket:W.excIn K K_BadBasket [.type "ValueError",.type "Exception",.type "BaseException",.type "object"] "ValueError.__new__"=true)
  (xga_BadBasket:W.findIn K (.ref K_BadBasket) "__getattribute__"=some (some (.builtin "BaseException.__getattribute__")))
  (xgn_BadBasket:W.findIn K (.ref K_BadBasket) "__getattr__"=some none)
  (xc_BadBasket:W.findIn K (.ref K_BadBasket) "__class__"=some (some (.builtin "object.__class__")))
  (xo_BadBasket:W.mroIn K K_BadBasket (.type "object")=some true)
  (xb_BadBasket:W.mroIn K K_BadBasket (.type "BaseException")=some true)
  (es_BadBasket:W.subIn K (.ref K_BadBasket) (.ref K_SwapError)=some true)
  (xi_BadRest:W.excIn K K_BadRest [.type "ValueError",.type "Exception",.type "BaseException",.type "object"] "ValueError.__new__"=true)
  (xga_BadRest:W.findIn K (.ref K_BadRest) "__getattribute__"=some (some (.builtin "BaseException.__getattribute__")))
  (xgn_BadRest:W.findIn K (.ref K_BadRest) "__getattr__"=some none)
  (xc_BadRest:W.findIn K (.ref K_BadRest) "__class__"=some (some (.builtin "object.__class__")))
  (xo_BadRest:W.mroIn K K_BadRest (.type "object")=some true)
  (xb_BadRest:W.mroIn K K_BadRest (.type "BaseException")=some true)
  (es_BadRest:W.subIn K (.ref K_BadRest) (.ref K_SwapError)=some true)
  (eb:W.subIn K (.ref K_SwapError) (.type "BaseException")=some true)
  (eo:W.mroIn K K_SwapError (.type "object")=some true)
  (et:W.typeIn K (.ref K_SwapError)=some (.type "type"))
  (i0_BadBasket:W.kitOne K (.type "NoneType") (.ref K_BadBasket)=some false)
  (i_BadBasket_BadBasket:W.kitOne K (.ref K_BadBasket) (.ref K_BadBasket)=some true)
  (i_BadRest_BadBasket:W.kitOne K (.ref K_BadRest) (.ref K_BadBasket)=some false)
  (i0_BadBaskets:W.kitOne K (.type "NoneType") (.ref K_BadBaskets)=some false)
  (i_BadBasket_BadBaskets:W.kitOne K (.ref K_BadBasket) (.ref K_BadBaskets)=some false)
  (i_BadRest_BadBaskets:W.kitOne K (.ref K_BadRest) (.ref K_BadBaskets)=some false)
  (i0_BadNames:W.kitOne K (.type "NoneType") (.ref K_BadNames)=some false)
  (i_BadBasket_BadNames:W.kitOne K (.ref K_BadBasket) (.ref K_BadNames)=some false)
  (i_BadRest_BadNames:W.kitOne K (.ref K_BadRest) (.ref K_BadNames)=some false)
  (i0_BadRest:W.kitOne K (.type "NoneType") (.ref K_BadRest)=some false)
  (i_BadBasket_BadRest:W.kitOne K (.ref K_BadBasket) (.ref K_BadRest)=some false)
  (i_BadRest_BadRest:W.kitOne K (.ref K_BadRest) (.ref K_BadRest)=some true)
  (i0_BadRoad:W.kitOne K (.type "NoneType") (.ref K_BadRoad)=some false)
  (i_BadBasket_BadRoad:W.kitOne K (.ref K_BadBasket) (.ref K_BadRoad)=some false)
  (i_BadRest_BadRoad:W.kitOne K (.ref K_BadRest) (.ref K_BadRoad)=some false)
  (i0_BadScale:W.kitOne K (.type "NoneType") (.ref K_BadScale)=some false)
  (i_BadBasket_BadScale:W.kitOne K (.ref K_BadBasket) (.ref K_BadScale)=some false)
  (i_BadRest_BadScale:W.kitOne K (.ref K_BadRest) (.ref K_BadScale)=some false)
  (i0_BadSwap:W.kitOne K (.type "NoneType") (.ref K_BadSwap)=some false)
  (i_BadBasket_BadSwap:W.kitOne K (.ref K_BadBasket) (.ref K_BadSwap)=some false)
  (i_BadRest_BadSwap:W.kitOne K (.ref K_BadRest) (.ref K_BadSwap)=some false)
  (i0_BadWares:W.kitOne K (.type "NoneType") (.ref K_BadWares)=some false)
  (i_BadBasket_BadWares:W.kitOne K (.ref K_BadBasket) (.ref K_BadWares)=some false)
  (i_BadRest_BadWares:W.kitOne K (.ref K_BadRest) (.ref K_BadWares)=some false)
  (i0_Endless:W.kitOne K (.type "NoneType") (.ref K_Endless)=some false)
  (i_BadBasket_Endless:W.kitOne K (.ref K_BadBasket) (.ref K_Endless)=some false)
  (i_BadRest_Endless:W.kitOne K (.ref K_BadRest) (.ref K_Endless)=some false)
  (i0_NoBook:W.kitOne K (.type "NoneType") (.ref K_NoBook)=some false)
  (i_BadBasket_NoBook:W.kitOne K (.ref K_BadBasket) (.ref K_NoBook)=some false)
  (i_BadRest_NoBook:W.kitOne K (.ref K_BadRest) (.ref K_NoBook)=some false)
  (i0_NoLine:W.kitOne K (.type "NoneType") (.ref K_NoLine)=some false)
  (i_BadBasket_NoLine:W.kitOne K (.ref K_BadBasket) (.ref K_NoLine)=some false)
  (i_BadRest_NoLine:W.kitOne K (.ref K_BadRest) (.ref K_NoLine)=some false)
  (i0_NoName:W.kitOne K (.type "NoneType") (.ref K_NoName)=some false)
  (i_BadBasket_NoName:W.kitOne K (.ref K_BadBasket) (.ref K_NoName)=some false)
  (i_BadRest_NoName:W.kitOne K (.ref K_BadRest) (.ref K_NoName)=some false)
  (i0_NoSwap:W.kitOne K (.type "NoneType") (.ref K_NoSwap)=some false)
  (i_BadBasket_NoSwap:W.kitOne K (.ref K_BadBasket) (.ref K_NoSwap)=some false)
  (i_BadRest_NoSwap:W.kitOne K (.ref K_BadRest) (.ref K_NoSwap)=some false)
  (i0_NotAlike:W.kitOne K (.type "NoneType") (.ref K_NotAlike)=some false)
  (i_BadBasket_NotAlike:W.kitOne K (.ref K_BadBasket) (.ref K_NotAlike)=some false)
  (i_BadRest_NotAlike:W.kitOne K (.ref K_BadRest) (.ref K_NotAlike)=some false)
  (i0_NotKept:W.kitOne K (.type "NoneType") (.ref K_NotKept)=some false)
  (i_BadBasket_NotKept:W.kitOne K (.ref K_BadBasket) (.ref K_NotKept)=some false)
  (i_BadRest_NotKept:W.kitOne K (.ref K_BadRest) (.ref K_NotKept)=some false)
  (i0_OtherBook:W.kitOne K (.type "NoneType") (.ref K_OtherBook)=some false)
  (i_BadBasket_OtherBook:W.kitOne K (.ref K_BadBasket) (.ref K_OtherBook)=some false)
  (i_BadRest_OtherBook:W.kitOne K (.ref K_BadRest) (.ref K_OtherBook)=some false)
  (i0_OtherWares:W.kitOne K (.type "NoneType") (.ref K_OtherWares)=some false)
  (i_BadBasket_OtherWares:W.kitOne K (.ref K_BadBasket) (.ref K_OtherWares)=some false)
  (i_BadRest_OtherWares:W.kitOne K (.ref K_BadRest) (.ref K_OtherWares)=some false)
  (i0_TooGreat:W.kitOne K (.type "NoneType") (.ref K_TooGreat)=some false)
  (i_BadBasket_TooGreat:W.kitOne K (.ref K_BadBasket) (.ref K_TooGreat)=some false)
  (i_BadRest_TooGreat:W.kitOne K (.ref K_BadRest) (.ref K_TooGreat)=some false)
  (i0_TooMany:W.kitOne K (.type "NoneType") (.ref K_TooMany)=some false)
  (i_BadBasket_TooMany:W.kitOne K (.ref K_BadBasket) (.ref K_TooMany)=some false)
  (i_BadRest_TooMany:W.kitOne K (.ref K_BadRest) (.ref K_TooMany)=some false)
  (i0_ValueError:W.kitOne K (.type "NoneType") (.type "ValueError")=some false)
  (i_BadBasket_ValueError:W.kitOne K (.ref K_BadBasket) (.type "ValueError")=some true)
  (i_BadRest_ValueError:W.kitOne K (.ref K_BadRest) (.type "ValueError")=some true)
  (kit_NoneType_bool:W.kitOne K (.type "NoneType") (.type "bool")=some false)
  (kit_NoneType_int:W.kitOne K (.type "NoneType") (.type "int")=some false)
  (kit_bool_bool:W.kitOne K (.type "bool") (.type "bool")=some true)
  (kit_bool_int:W.kitOne K (.type "bool") (.type "int")=some true)
  (kit_int_bool:W.kitOne K (.type "int") (.type "bool")=some false)
  (kit_int_int:W.kitOne K (.type "int") (.type "int")=some true)
  (kit_list_list:W.kitOne K (.type "list") (.type "list")=some true)
  (oc_Line:W.findIn K (.ref C_Line) "__class__"=some (some (.builtin "object.__class__")))
  (oo_Line:W.mroIn K C_Line (.type "object")=some true)
  (oc_Rest:W.findIn K (.ref C_Rest) "__class__"=some (some (.builtin "object.__class__")))
  (oo_Rest:W.mroIn K C_Rest (.type "object")=some true)
  (sn_Line:W.kitOne K (.type "NoneType") (.ref C_Line)=some false)
  (skL_Line:W.kitOne K (.ref C_Line) (.ref C_Line)=some true)
  (skR_Line:W.kitOne K (.ref C_Rest) (.ref C_Line)=some false)
  (sn_Rest:W.kitOne K (.type "NoneType") (.ref C_Rest)=some false)
  (skL_Rest:W.kitOne K (.ref C_Line) (.ref C_Rest)=some false)
  (skR_Rest:W.kitOne K (.ref C_Rest) (.ref C_Rest)=some true)
  (sn_Scale:W.kitOne K (.type "NoneType") (.ref C_Scale)=some false)
  (skL_Scale:W.kitOne K (.ref C_Line) (.ref C_Scale)=some true)
  (skR_Scale:W.kitOne K (.ref C_Rest) (.ref C_Scale)=some true) :
  ∃ fd:FuncData,(∀ (s:Shared) (v:Value),BindsTo s fd ⟨[v],[]⟩ [("_law_script",v)])∧∀ base:Heap,K.In base->base.Ns mainGlobals mg->FnOk l.prog w K mg base (CXE l.prog w) 8 fa fd ["_law_script"] (zgU K):=by
 have e:=hfa.symm.trans (W.mg_of X G a15)
 cases e
 have F_refuse_unlike:=zbg (st:=zaP) l0 c0 k0
 have b_refuse_unlike:=F_refuse_unlike.binds (ps:=["one","other"]) λ_ _ _ _ _ _ us hl=>match us,hl with | [_,_],_=>rfl
 have m_refuse_unlike:=W.mg_of X G a0
 have F_weighed:=zbg (st:=zca) l1 c1 k1
 have b_weighed:=F_weighed.binds (ps:=["one","other"]) λ_ _ _ _ _ _ us hl=>match us,hl with | [_,_],_=>rfl
 have m_weighed:=W.mg_of X G a1
 have F_drawn:=zbg (st:=zdl) l2 c2 k2
 have b_drawn:=F_drawn.binds (ps:=["weights","basket"]) λ_ _ _ _ _ _ us hl=>match us,hl with | [_,_],_=>rfl
 have m_drawn:=W.mg_of X G a2
 have F_law_whole:=zbg (st:=zbP) l3 c3 k3
 have b_law_whole:=F_law_whole.binds (ps:=["_law_found"]) λ_ _ _ _ _ _ us hl=>match us,hl with | [_],_=>rfl
 have m_law_whole:=W.mg_of X G a3
 have F_law_same:=zbg (st:=zbO) l4 c4 k4
 have b_law_same:=F_law_same.binds (ps:=["_law_found","_law_due"]) λ_ _ _ _ _ _ us hl=>match us,hl with | [_,_],_=>rfl
 have m_law_same:=W.mg_of X G a4
 have F_law_flags:=zbg (st:=zbL) l5 c5 k5
 have b_law_flags:=F_law_flags.binds (ps:=["_law_caught"]) λ_ _ _ _ _ _ us hl=>match us,hl with | [_],_=>rfl
 have m_law_flags:=W.mg_of X G a5
 have F_law_only:=zbg (st:=s_law_only) l6 c6 k6
 have b_law_only:=F_law_only.binds (ps:=["_law_caught","_law_name"]) λ_ _ _ _ _ _ us hl=>match us,hl with | [_,_],_=>rfl
 have m_law_only:=W.mg_of X G a6
 have F_law_at:=zbg (st:=zcX) l7 c7 k7
 have b_law_at:=F_law_at.binds (ps:=["_law_script","_law_k"]) λ_ _ _ _ _ _ us hl=>match us,hl with | [_,_],_=>rfl
 have m_law_at:=W.mg_of X G a7
 have F_law_entry:=zbg (st:=zbG) l8 c8 k8
 have b_law_entry:=F_law_entry.binds (ps:=["_law_script","_law_k","_law_most"]) λ_ _ _ _ _ _ us hl=>match us,hl with | [_,_,_],_=>rfl
 have m_law_entry:=W.mg_of X G a8
 have F_law_rest:=zbg (st:=zb6) l9 c9 k9
 have b_law_rest:=F_law_rest.binds (ps:=["_law_cell"]) λ_ _ _ _ _ _ us hl=>match us,hl with | [_],_=>rfl
 have m_law_rest:=W.mg_of X G a9
 have F_law_basket:=zbg (st:=zbb) l10 c10 k10
 have b_law_basket:=F_law_basket.binds (ps:=["_law_script","_law_weights","_law_k"]) λ_ _ _ _ _ _ us hl=>match us,hl with | [_,_,_],_=>rfl
 have m_law_basket:=W.mg_of X G a10
 have F_law_asked:=zbg (st:=zbN) l11 c11 k11
 have b_law_asked:=F_law_asked.binds (ps:=["_law_scale","_law_basket_here","_law_way"]) λ_ _ _ _ _ _ us hl=>match us,hl with | [_,_,_],_=>rfl
 have m_law_asked:=W.mg_of X G a11
 have F_law_good:=zbg (st:=zb8) l12 c12 k12
 have b_law_good:=F_law_good.binds (ps:=["_law_scale","_law_basket_here","_law_size","_law_due","_law_ahead"]) λ_ _ _ _ _ _ us hl=>match us,hl with | [_,_,_,_,_],_=>rfl
 have m_law_good:=W.mg_of X G a12
 have F_law_weight:=zbg (st:=zbs) l13 c13 k13
 have b_law_weight:=F_law_weight.binds (ps:=["_law_weights","_law_basket_here"]) λ_ _ _ _ _ _ us hl=>match us,hl with | [_,_],_=>rfl
 have m_law_weight:=W.mg_of X G a13
 have F_law_too_little:=zbg (st:=zaH) l14 c14 k14
 have b_law_too_little:=F_law_too_little.binds (ps:=["_law_rest_here","_law_weights"]) λ_ _ _ _ _ _ us hl=>match us,hl with | [_,_],_=>rfl
 have m_law_too_little:=W.mg_of X G a14
 have F_law:=zbg (st:=zdG) l15 c15 k15
 have b_law:=F_law.binds (ps:=["_law_script"]) λ_ _ _ _ _ _ us hl=>match us,hl with | [_],_=>rfl
 have m_law:=W.mg_of X G a15
 have F_Scale_weigh:=zbg (st:=zb1) l16 c16 k16
 have b_Scale_weigh:=F_Scale_weigh.binds (ps:=["self","basket"]) λ_ _ _ _ _ _ us hl=>match us,hl with | [_,_],_=>rfl
 have F_Rest_weigh:=zbg (st:=zbq) l17 c17 k17
 have b_Rest_weigh:=F_Rest_weigh.binds (ps:=["self","basket"]) λ_ _ _ _ _ _ us hl=>match us,hl with | [_,_],_=>rfl
 have F_Scale_levels:=zbg (st:=zbQ) l18 c18 k18
 have b_Scale_levels:=F_Scale_levels.binds (ps:=["self","basket"]) λ_ _ _ _ _ _ us hl=>match us,hl with | [_,_],_=>rfl
 have F_Scale___init__:=zbg (st:=zbk) l19 c19 k19
 have b_Scale___init__:=F_Scale___init__.binds (ps:=["self","weights"]) λ_ _ _ _ _ _ us hl=>match us,hl with | [_,_],_=>rfl
 have F_Rest___init__:=zbg (st:=zas) l20 c20 k20
 have b_Rest___init__:=F_Rest___init__.binds (ps:=["self","rest","weights"]) λ_ _ _ _ _ _ us hl=>match us,hl with | [_,_,_],_=>rfl
 have T:Txt K mg ⟨(),C_Scale,C_Line,C_Rest,λe=>match e with | .BadBasket=>K_BadBasket | .BadRest=>K_BadRest,K_BadBasket,K_BadBaskets,K_BadNames,K_BadRest,K_BadRoad,K_BadScale,K_BadSwap,K_BadWares,K_Endless,K_NoBook,K_NoLine,K_NoName,K_NoSwap,K_NotAlike,K_NotKept,K_OtherBook,K_OtherWares,K_SwapError,K_TooGreat,K_TooMany⟩:=⟨W.mg_none_of X G z_ValueError,W.mg_none_of X G z_all,W.mg_none_of X G z_bool,W.mg_none_of X G z_int,W.mg_none_of X G z_isinstance,W.mg_none_of X G z_len,W.mg_none_of X G z_list,W.mg_none_of X G z_min,W.mg_none_of X G z_range,W.mg_none_of X G z_sum,W.mg_none_of X G z_zip,W.mg_of X G aC_Scale,⟨pg_Scale,hd_Scale,po_Scale,sa_Scale⟩,n_Scale_weights,W.mg_of X G aC_Line,⟨pg_Line,hd_Line,po_Line,sa_Line⟩,n_Line_weights,W.mg_of X G aC_Rest,⟨pg_Rest,hd_Rest,po_Rest,sa_Rest⟩,n_Rest_weights,n_Rest_rest,W.mg_of X G aK_BadBasket,W.mg_of X G aK_BadBaskets,W.mg_of X G aK_BadNames,W.mg_of X G aK_BadRest,W.mg_of X G aK_BadRoad,W.mg_of X G aK_BadScale,W.mg_of X G aK_BadSwap,W.mg_of X G aK_BadWares,W.mg_of X G aK_Endless,W.mg_of X G aK_NoBook,W.mg_of X G aK_NoLine,W.mg_of X G aK_NoName,W.mg_of X G aK_NoSwap,W.mg_of X G aK_NotAlike,W.mg_of X G aK_NotKept,W.mg_of X G aK_OtherBook,W.mg_of X G aK_OtherWares,W.mg_of X G aK_SwapError,W.mg_of X G aK_TooGreat,W.mg_of X G aK_TooMany,W.mg_of X G aK_BadBasket,xi_BadBasket,⟨xga_BadBasket,xgn_BadBasket,xc_BadBasket,xo_BadBasket,xb_BadBasket,x_gt,x_tk⟩,exm_of eb eo et es_BadBasket,W.mg_of X G aK_BadRest,xi_BadRest,⟨xga_BadRest,xgn_BadRest,xc_BadRest,xo_BadRest,xb_BadRest,x_gt,x_tk⟩,exm_of eb eo et es_BadRest,i0_BadBasket,i_BadBasket_BadBasket,i_BadRest_BadBasket,i0_BadBaskets,i_BadBasket_BadBaskets,i_BadRest_BadBaskets,i0_BadNames,i_BadBasket_BadNames,i_BadRest_BadNames,i0_BadRest,i_BadBasket_BadRest,i_BadRest_BadRest,i0_BadRoad,i_BadBasket_BadRoad,i_BadRest_BadRoad,i0_BadScale,i_BadBasket_BadScale,i_BadRest_BadScale,i0_BadSwap,i_BadBasket_BadSwap,i_BadRest_BadSwap,i0_BadWares,i_BadBasket_BadWares,i_BadRest_BadWares,i0_Endless,i_BadBasket_Endless,i_BadRest_Endless,i0_NoBook,i_BadBasket_NoBook,i_BadRest_NoBook,i0_NoLine,i_BadBasket_NoLine,i_BadRest_NoLine,i0_NoName,i_BadBasket_NoName,i_BadRest_NoName,i0_NoSwap,i_BadBasket_NoSwap,i_BadRest_NoSwap,i0_NotAlike,i_BadBasket_NotAlike,i_BadRest_NotAlike,i0_NotKept,i_BadBasket_NotKept,i_BadRest_NotKept,i0_OtherBook,i_BadBasket_OtherBook,i_BadRest_OtherBook,i0_OtherWares,i_BadBasket_OtherWares,i_BadRest_OtherWares,i0_TooGreat,i_BadBasket_TooGreat,i_BadRest_TooGreat,i0_TooMany,i_BadBasket_TooMany,i_BadRest_TooMany,i0_ValueError,i_BadBasket_ValueError,i_BadRest_ValueError,kit_NoneType_bool,kit_NoneType_int,kit_bool_bool,kit_bool_int,kit_int_bool,kit_int_int,kit_list_list,sn_Line,λx=>match x with | .inl _=>⟨⟨pg_Line,hd_Line,po_Line,sa_Line⟩,oc_Line,x_gt,x_tk,oo_Line,skL_Line⟩ | .inr _=>⟨⟨pg_Rest,hd_Rest,po_Rest,sa_Rest⟩,oc_Rest,x_gt,x_tk,oo_Rest,skR_Line⟩,sn_Rest,λx=>match x with | .inl _=>⟨⟨pg_Line,hd_Line,po_Line,sa_Line⟩,oc_Line,x_gt,x_tk,oo_Line,skL_Rest⟩ | .inr _=>⟨⟨pg_Rest,hd_Rest,po_Rest,sa_Rest⟩,oc_Rest,x_gt,x_tk,oo_Rest,skR_Rest⟩,sn_Scale,λx=>match x with | .inl _=>⟨⟨pg_Line,hd_Line,po_Line,sa_Line⟩,oc_Line,x_gt,x_tk,oo_Line,skL_Scale⟩ | .inr _=>⟨⟨pg_Rest,hd_Rest,po_Rest,sa_Rest⟩,oc_Rest,x_gt,x_tk,oo_Rest,skR_Scale⟩⟩
 refine ⟨W.fnOf "law" "law" (zav zdG) (zap zdG) (defScope zdG) .none kV15 dc15 pm15 an15 cd15 ct15,λs v=>.of_eq rfl,λbase _ _=>?_⟩
 have M_Line:Mk K C_Line f19:=⟨mk_Line,a19_Line,i19,kc_Line⟩
 have B_Scale___init___Rest:ByCls K C_Scale f19 "__init__":=⟨bg19,br19,bf19,k19⟩
 have M_Rest:Mk K C_Rest f20:=⟨mk_Rest,a20,i20,kc_Rest⟩
 have G_refuse_unlike:Callee l.prog w K mg base (CXE l.prog w) 1 "refuse_unlike" ["one","other"] (zbW K _):=⟨_,_,zdx F_refuse_unlike T  ,m_refuse_unlike,k0,b_refuse_unlike⟩
 have G_weighed:Callee l.prog w K mg base (CXE l.prog w) 2 "weighed" ["one","other"] (zdr K _):=⟨_,_,zfR F_weighed T G_refuse_unlike ,m_weighed,k1,b_weighed⟩
 have GX_drawn:Callee l.prog w K mg base (CXE l.prog w) 3 "drawn" ["weights","basket"] (zdd K _):=⟨_,_,zgw F_drawn T G_weighed ,m_drawn,k2,b_drawn⟩
 have G_Scale___init___Line:=zcG (P:=l.prog) (w:=w) (base:=base) F_Scale___init__ T
 have G_Scale___init___Rest:=zcF (P:=l.prog) (w:=w) (base:=base) F_Scale___init__ T
 have G_Rest___init__:=zdA (P:=l.prog) (w:=w) (base:=base) F_Rest___init__ T  B_Scale___init___Rest G_Scale___init___Rest b_Scale___init__
 have GR_Rest:=zhn (P:=l.prog) (w:=w) (base:=base) F_Rest___init__ T  B_Scale___init___Rest G_Scale___init___Rest b_Scale___init__
 have GX_Scale_weigh_Line:CalleeM l.prog w K mg base (CXE l.prog w) 4 C_Line "weigh" ["self","basket"] (zaz K _):=⟨_,_,zcZ F_Scale_weigh T  GX_drawn,⟨a16_Line,i16,k16⟩,b_Scale_weigh⟩
 have GX_Rest_weigh:CalleeM l.prog w K mg base (CXE l.prog w) 4 C_Rest "weigh" ["self","basket"] (zbi K _):=⟨_,_,zd0 F_Rest_weigh T  GX_drawn,⟨a17_Rest,i17,k17⟩,b_Rest_weigh⟩
 have GX_Scale_levels_Line:CalleeM l.prog w K mg base (CXE l.prog w) 5 C_Line "levels" ["self","basket"] (zaI K _):=⟨_,_,zcJ F_Scale_levels T  GX_Scale_weigh_Line,⟨a18_Line,i18,k18⟩,b_Scale_levels⟩
 have GX_Scale_levels_Rest:CalleeM l.prog w K mg base (CXE l.prog w) 5 C_Rest "levels" ["self","basket"] (zaJ K _):=⟨_,_,zcK F_Scale_levels T  GX_Rest_weigh,⟨a18_Rest,i18,k18⟩,b_Scale_levels⟩
 have G_law_whole:Callee l.prog w K mg base (CXE l.prog w) 1 "_law_whole" ["_law_found"] (zbS K _):=⟨_,_,zeo F_law_whole T  ,m_law_whole,k3,b_law_whole⟩
 have G_law_same:Callee l.prog w K mg base (CXE l.prog w) 2 "_law_same" ["_law_found","_law_due"] (zc7 K _):=⟨_,_,zeV F_law_same T G_law_whole ,m_law_same,k4,b_law_same⟩
 have G_law_flags:Callee l.prog w K mg base (CXE l.prog w) 1 "_law_flags" ["_law_caught"] (zcI K _):=⟨_,_,zeC F_law_flags T  ,m_law_flags,k5,b_law_flags⟩
 have G_law_only:Callee l.prog w K mg base (CXE l.prog w) 2 "_law_only" ["_law_caught","_law_name"] (zcr K _):=⟨_,_,ze6 F_law_only T G_law_flags ,m_law_only,k6,b_law_only⟩
 have G_law_at:Callee l.prog w K mg base (CXE l.prog w) 1 "_law_at" ["_law_script","_law_k"] (zdY K _):=⟨_,_,zgP F_law_at T  ,m_law_at,k7,b_law_at⟩
 have G_law_entry:Callee l.prog w K mg base (CXE l.prog w) 1 "_law_entry" ["_law_script","_law_k","_law_most"] (zch K _):=⟨_,_,zeN F_law_entry T  ,m_law_entry,k8,b_law_entry⟩
 have G_law_rest:Callee l.prog w K mg base (CXE l.prog w) 1 "_law_rest" ["_law_cell"] (zc4 K _):=⟨_,_,ze8 F_law_rest T  ,m_law_rest,k9,b_law_rest⟩
 have G_law_basket:Callee l.prog w K mg base (CXE l.prog w) 2 "_law_basket" ["_law_script","_law_weights","_law_k"] (zcp K _):=⟨_,_,zd8 F_law_basket T G_law_entry ,m_law_basket,k10,b_law_basket⟩
 have G_law_asked:Callee l.prog w K mg base (CXE l.prog w) 6 "_law_asked" ["_law_scale","_law_basket_here","_law_way"] (zcO K _):=⟨_,_,zeI F_law_asked T  GX_Rest_weigh GX_Scale_levels_Line GX_Scale_levels_Rest GX_Scale_weigh_Line,m_law_asked,k11,b_law_asked⟩
 have G_law_good:Callee l.prog w K mg base (CXE l.prog w) 7 "_law_good" ["_law_scale","_law_basket_here","_law_size","_law_due","_law_ahead"] (zc8 K _):=⟨_,_,zfb F_law_good T G_law_asked G_law_only G_law_whole ,m_law_good,k12,b_law_good⟩
 have G_law_weight:Callee l.prog w K mg base (CXE l.prog w) 1 "_law_weight" ["_law_weights","_law_basket_here"] (zct K _):=⟨_,_,zem F_law_weight T  ,m_law_weight,k13,b_law_weight⟩
 have G_law_too_little:Callee l.prog w K mg base (CXE l.prog w) 4 "_law_too_little" ["_law_rest_here","_law_weights"] (zbH K _):=⟨_,_,zdo F_law_too_little T G_law_only  M_Rest GR_Rest b_Rest___init__,m_law_too_little,k14,b_law_too_little⟩
 exact (ziQ F_law T G_law_at G_law_basket G_law_entry G_law_good G_law_rest G_law_same G_law_too_little G_law_weight G_law_whole M_Rest G_Rest___init__ b_Rest___init__ M_Line G_Scale___init___Line b_Scale___init__ ).imp λ_ _ _ _ q=>ziJ q
theorem zkq {l:W.OpenLaw} {q:Program} {loose:List Str} {XP:(Str->Option Value)->Heap->Prop} {YP:World->Heap->Prop} {d:DefRec} {K:Params->W.Frag} (hn:l.most=some 63) (hdf:d.params.defaults=[])
  (hY:∀ (w:World) (h:Heap),YP w h->(K w.params).In h)
  (F:∀ (w:World) (mg:Str->Option Value) (fa:Addr) (h:Heap),(K w.params).In h->h.Ns mainGlobals mg->mg d.name=some (.ref fa) →
   ∃ fd:FuncData,(∀ (s:Shared) (u:Value),BindsTo s fd ⟨[u],[]⟩ [("_law_script",u)])∧∀ base:Heap,(K w.params).In base->base.Ns mainGlobals mg->FnOk l.prog w (K w.params) mg base (CXE l.prog w) 8 fa fd ["_law_script"] (zgU (K w.params))) :
  W.WalkO q loose XP YP l.row.toRowW d [] (λf vs=>PySem.call f vs) :=
 L2.zia (n:=63) (k:=8) (x:="_law_script") (CX:=λw=>CXE l.prog w) (sp:=λw=>zgU (K w.params)) hn (by decide) hdf ⟨rfl,by decide,by decide⟩ hY F (λ_ _ a ns hl _ hS=>⟨a,ns,rfl,hS,hl,λ_=>rfl⟩) λ_ _ _ _ _ ⟨_,_,_,_,_,_,_,_,_,_,z⟩=>z
end
end My
section
open PySem PySem.W PyProof.Rows
set_option maxRecDepth 100000 in
set_option maxHeartbeats 0 in
theorem PySem.Challenge.cw_swapbook_k31_scales_holds : PySem.Challenge.rw_swapbook_k31_scales.Holds := by
 refine My.headT ?hc
 k_fill
 refine My.zkq (l:=PySem.Challenge.rw_swapbook_k31_scales) rfl rfl (λw h Y=>W.kIn_of Y) ?F
 case F =>
  intro w mg fa h KX G hmg
  refine' My.all_mk KX G hmg ?aC_Scale ?aC_Line ?aC_Rest ?a0 ?l0 ?c0 ?k0 ?a1 ?l1 ?c1 ?k1 ?a2 ?l2 ?c2 ?k2 ?a3 ?l3 ?c3 ?k3 ?a4 ?l4 ?c4 ?k4 ?a5 ?l5 ?c5 ?k5 ?a6 ?l6 ?c6 ?k6 ?a7 ?l7 ?c7 ?k7 ?a8 ?l8 ?c8 ?k8 ?a9 ?l9 ?c9 ?k9 ?a10 ?l10 ?c10 ?k10 ?a11 ?l11 ?c11 ?k11 ?a12 ?l12 ?c12 ?k12 ?a13 ?l13 ?c13 ?k13 ?a14 ?l14 ?c14 ?k14 ?a15 ?l15 ?c15 ?k15 ?a16_Line ?i16 ?l16 ?c16 ?k16 ?a17_Rest ?i17 ?l17 ?c17 ?k17 ?a18_Line ?a18_Rest ?i18 ?l18 ?c18 ?k18 ?a19 ?i19 ?a19_Line ?bg19 ?br19 ?bf19 ?l19 ?c19 ?k19 ?a20 ?i20 ?l20 ?c20 ?k20 ?pg_Scale ?hd_Scale ?po_Scale ?sa_Scale ?mk_Scale ?kc_Scale ?n_Scale_weights ?pg_Line ?hd_Line ?po_Line ?sa_Line ?mk_Line ?kc_Line ?n_Line_weights ?pg_Rest ?hd_Rest ?po_Rest ?sa_Rest ?mk_Rest ?kc_Rest ?n_Rest_weights ?n_Rest_rest ?z_ValueError ?z_all ?z_bool ?z_int ?z_isinstance ?z_len ?z_list ?z_min ?z_range ?z_sum ?z_zip ?aK_BadBasket ?aK_BadBaskets ?aK_BadNames ?aK_BadRest ?aK_BadRoad ?aK_BadScale ?aK_BadSwap ?aK_BadWares ?aK_Endless ?aK_NoBook ?aK_NoLine ?aK_NoName ?aK_NoSwap ?aK_NotAlike ?aK_NotKept ?aK_OtherBook ?aK_OtherWares ?aK_SwapError ?aK_TooGreat ?aK_TooMany ?x_gt ?x_tk ?xi_BadBasket ?xga_BadBasket ?xgn_BadBasket ?xc_BadBasket ?xo_BadBasket ?xb_BadBasket ?es_BadBasket ?xi_BadRest ?xga_BadRest ?xgn_BadRest ?xc_BadRest ?xo_BadRest ?xb_BadRest ?es_BadRest ?eb ?eo ?et ?i0_BadBasket ?i_BadBasket_BadBasket ?i_BadRest_BadBasket ?i0_BadBaskets ?i_BadBasket_BadBaskets ?i_BadRest_BadBaskets ?i0_BadNames ?i_BadBasket_BadNames ?i_BadRest_BadNames ?i0_BadRest ?i_BadBasket_BadRest ?i_BadRest_BadRest ?i0_BadRoad ?i_BadBasket_BadRoad ?i_BadRest_BadRoad ?i0_BadScale ?i_BadBasket_BadScale ?i_BadRest_BadScale ?i0_BadSwap ?i_BadBasket_BadSwap ?i_BadRest_BadSwap ?i0_BadWares ?i_BadBasket_BadWares ?i_BadRest_BadWares ?i0_Endless ?i_BadBasket_Endless ?i_BadRest_Endless ?i0_NoBook ?i_BadBasket_NoBook ?i_BadRest_NoBook ?i0_NoLine ?i_BadBasket_NoLine ?i_BadRest_NoLine ?i0_NoName ?i_BadBasket_NoName ?i_BadRest_NoName ?i0_NoSwap ?i_BadBasket_NoSwap ?i_BadRest_NoSwap ?i0_NotAlike ?i_BadBasket_NotAlike ?i_BadRest_NotAlike ?i0_NotKept ?i_BadBasket_NotKept ?i_BadRest_NotKept ?i0_OtherBook ?i_BadBasket_OtherBook ?i_BadRest_OtherBook ?i0_OtherWares ?i_BadBasket_OtherWares ?i_BadRest_OtherWares ?i0_TooGreat ?i_BadBasket_TooGreat ?i_BadRest_TooGreat ?i0_TooMany ?i_BadBasket_TooMany ?i_BadRest_TooMany ?i0_ValueError ?i_BadBasket_ValueError ?i_BadRest_ValueError ?kit_NoneType_bool ?kit_NoneType_int ?kit_bool_bool ?kit_bool_int ?kit_int_bool ?kit_int_int ?kit_list_list ?oc_Line ?oo_Line ?oc_Rest ?oo_Rest ?sn_Line ?skL_Line ?skR_Line ?sn_Rest ?skL_Rest ?skR_Rest ?sn_Scale ?skL_Scale ?skR_Scale
  (case aC_Scale=>k_is)
  (case aC_Line=>k_is)
  (case aC_Rest=>k_is)
  (case a0=>k_is)
  (case l0=>k_is)
  (case c0=>k_is)
  (case k0=>k_is)
  (case a1=>k_is)
  (case l1=>k_is)
  (case c1=>k_is)
  (case k1=>k_is)
  (case a2=>k_is)
  (case l2=>k_is)
  (case c2=>k_is)
  (case k2=>k_is)
  (case a3=>k_is)
  (case l3=>k_is)
  (case c3=>k_is)
  (case k3=>k_is)
  (case a4=>k_is)
  (case l4=>k_is)
  (case c4=>k_is)
  (case k4=>k_is)
  (case a5=>k_is)
  (case l5=>k_is)
  (case c5=>k_is)
  (case k5=>k_is)
  (case a6=>k_is)
  (case l6=>k_is)
  (case c6=>k_is)
  (case k6=>k_is)
  (case a7=>k_is)
  (case l7=>k_is)
  (case c7=>k_is)
  (case k7=>k_is)
  (case a8=>k_is)
  (case l8=>k_is)
  (case c8=>k_is)
  (case k8=>k_is)
  (case a9=>k_is)
  (case l9=>k_is)
  (case c9=>k_is)
  (case k9=>k_is)
  (case a10=>k_is)
  (case l10=>k_is)
  (case c10=>k_is)
  (case k10=>k_is)
  (case a11=>k_is)
  (case l11=>k_is)
  (case c11=>k_is)
  (case k11=>k_is)
  (case a12=>k_is)
  (case l12=>k_is)
  (case c12=>k_is)
  (case k12=>k_is)
  (case a13=>k_is)
  (case l13=>k_is)
  (case c13=>k_is)
  (case k13=>k_is)
  (case a14=>k_is)
  (case l14=>k_is)
  (case c14=>k_is)
  (case k14=>k_is)
  (case a15=>k_is)
  (case l15=>k_is)
  (case c15=>k_is)
  (case k15=>k_is)
  (case a16_Line=>k_is)
  (case i16=>k_is)
  (case l16=>k_is)
  (case c16=>k_is)
  (case k16=>k_is)
  (case a17_Rest=>k_is)
  (case i17=>k_is)
  (case l17=>k_is)
  (case c17=>k_is)
  (case k17=>k_is)
  (case a18_Line=>k_is)
  (case a18_Rest=>k_is)
  (case i18=>k_is)
  (case l18=>k_is)
  (case c18=>k_is)
  (case k18=>k_is)
  (case a19=>k_is)
  (case i19=>k_is)
  (case a19_Line=>k_is)
  (case bg19=>k_is)
  (case br19=>k_is)
  (case bf19=>k_is)
  (case l19=>k_is)
  (case c19=>k_is)
  (case k19=>k_is)
  (case a20=>k_is)
  (case i20=>k_is)
  (case l20=>k_is)
  (case c20=>k_is)
  (case k20=>k_is)
  (case pg_Scale=>k_is)
  (case hd_Scale=>k_is)
  (case po_Scale=>k_is)
  (case sa_Scale=>k_is)
  (case mk_Scale=>k_is)
  (case kc_Scale=>k_is)
  (case n_Scale_weights=>k_is)
  (case pg_Line=>k_is)
  (case hd_Line=>k_is)
  (case po_Line=>k_is)
  (case sa_Line=>k_is)
  (case mk_Line=>k_is)
  (case kc_Line=>k_is)
  (case n_Line_weights=>k_is)
  (case pg_Rest=>k_is)
  (case hd_Rest=>k_is)
  (case po_Rest=>k_is)
  (case sa_Rest=>k_is)
  (case mk_Rest=>k_is)
  (case kc_Rest=>k_is)
  (case n_Rest_weights=>k_is)
  (case n_Rest_rest=>k_is)
  (case z_ValueError=>k_is)
  (case z_all=>k_is)
  (case z_bool=>k_is)
  (case z_int=>k_is)
  (case z_isinstance=>k_is)
  (case z_len=>k_is)
  (case z_list=>k_is)
  (case z_min=>k_is)
  (case z_range=>k_is)
  (case z_sum=>k_is)
  (case z_zip=>k_is)
  (case aK_BadBasket=>k_is)
  (case aK_BadBaskets=>k_is)
  (case aK_BadNames=>k_is)
  (case aK_BadRest=>k_is)
  (case aK_BadRoad=>k_is)
  (case aK_BadScale=>k_is)
  (case aK_BadSwap=>k_is)
  (case aK_BadWares=>k_is)
  (case aK_Endless=>k_is)
  (case aK_NoBook=>k_is)
  (case aK_NoLine=>k_is)
  (case aK_NoName=>k_is)
  (case aK_NoSwap=>k_is)
  (case aK_NotAlike=>k_is)
  (case aK_NotKept=>k_is)
  (case aK_OtherBook=>k_is)
  (case aK_OtherWares=>k_is)
  (case aK_SwapError=>k_is)
  (case aK_TooGreat=>k_is)
  (case aK_TooMany=>k_is)
  (case x_gt=>k_is)
  (case x_tk=>k_is)
  (case xi_BadBasket=>k_exc)
  (case xga_BadBasket=>k_is)
  (case xgn_BadBasket=>k_is)
  (case xc_BadBasket=>k_is)
  (case xo_BadBasket=>k_is)
  (case xb_BadBasket=>k_is)
  (case es_BadBasket=>k_is)
  (case xi_BadRest=>k_exc)
  (case xga_BadRest=>k_is)
  (case xgn_BadRest=>k_is)
  (case xc_BadRest=>k_is)
  (case xo_BadRest=>k_is)
  (case xb_BadRest=>k_is)
  (case es_BadRest=>k_is)
  (case eb=>k_is)
  (case eo=>k_is)
  (case et=>k_is)
  (case i0_BadBasket=>kit_is)
  (case i_BadBasket_BadBasket=>kit_is)
  (case i_BadRest_BadBasket=>kit_is)
  (case i0_BadBaskets=>kit_is)
  (case i_BadBasket_BadBaskets=>kit_is)
  (case i_BadRest_BadBaskets=>kit_is)
  (case i0_BadNames=>kit_is)
  (case i_BadBasket_BadNames=>kit_is)
  (case i_BadRest_BadNames=>kit_is)
  (case i0_BadRest=>kit_is)
  (case i_BadBasket_BadRest=>kit_is)
  (case i_BadRest_BadRest=>kit_is)
  (case i0_BadRoad=>kit_is)
  (case i_BadBasket_BadRoad=>kit_is)
  (case i_BadRest_BadRoad=>kit_is)
  (case i0_BadScale=>kit_is)
  (case i_BadBasket_BadScale=>kit_is)
  (case i_BadRest_BadScale=>kit_is)
  (case i0_BadSwap=>kit_is)
  (case i_BadBasket_BadSwap=>kit_is)
  (case i_BadRest_BadSwap=>kit_is)
  (case i0_BadWares=>kit_is)
  (case i_BadBasket_BadWares=>kit_is)
  (case i_BadRest_BadWares=>kit_is)
  (case i0_Endless=>kit_is)
  (case i_BadBasket_Endless=>kit_is)
  (case i_BadRest_Endless=>kit_is)
  (case i0_NoBook=>kit_is)
  (case i_BadBasket_NoBook=>kit_is)
  (case i_BadRest_NoBook=>kit_is)
  (case i0_NoLine=>kit_is)
  (case i_BadBasket_NoLine=>kit_is)
  (case i_BadRest_NoLine=>kit_is)
  (case i0_NoName=>kit_is)
  (case i_BadBasket_NoName=>kit_is)
  (case i_BadRest_NoName=>kit_is)
  (case i0_NoSwap=>kit_is)
  (case i_BadBasket_NoSwap=>kit_is)
  (case i_BadRest_NoSwap=>kit_is)
  (case i0_NotAlike=>kit_is)
  (case i_BadBasket_NotAlike=>kit_is)
  (case i_BadRest_NotAlike=>kit_is)
  (case i0_NotKept=>kit_is)
  (case i_BadBasket_NotKept=>kit_is)
  (case i_BadRest_NotKept=>kit_is)
  (case i0_OtherBook=>kit_is)
  (case i_BadBasket_OtherBook=>kit_is)
  (case i_BadRest_OtherBook=>kit_is)
  (case i0_OtherWares=>kit_is)
  (case i_BadBasket_OtherWares=>kit_is)
  (case i_BadRest_OtherWares=>kit_is)
  (case i0_TooGreat=>kit_is)
  (case i_BadBasket_TooGreat=>kit_is)
  (case i_BadRest_TooGreat=>kit_is)
  (case i0_TooMany=>kit_is)
  (case i_BadBasket_TooMany=>kit_is)
  (case i_BadRest_TooMany=>kit_is)
  (case i0_ValueError=>kit_is)
  (case i_BadBasket_ValueError=>kit_is)
  (case i_BadRest_ValueError=>kit_is)
  (case kit_NoneType_bool=>kit_is)
  (case kit_NoneType_int=>kit_is)
  (case kit_bool_bool=>kit_is)
  (case kit_bool_int=>kit_is)
  (case kit_int_bool=>kit_is)
  (case kit_int_int=>kit_is)
  (case kit_list_list=>kit_is)
  (case oc_Line=>k_is)
  (case oo_Line=>k_is)
  (case oc_Rest=>k_is)
  (case oo_Rest=>k_is)
  (case sn_Line=>kit_is)
  (case skL_Line=>kit_is)
  (case skR_Line=>kit_is)
  (case sn_Rest=>kit_is)
  (case skL_Rest=>kit_is)
  (case skR_Rest=>kit_is)
  (case sn_Scale=>kit_is)
  (case skL_Scale=>kit_is)
  (case skR_Scale=>kit_is)
end
