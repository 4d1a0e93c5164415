import PyProof.Rows.All
import Wide.All
import OpenK.AllK
import Wide.FinOn
import Lean
import PyProof.EqAt
import PyProof.EqKinds
import PyProof.TupleCall
import PySem.Challenge.RW_swapbook_k62_met_books
set_option Elab.async false
set_option linter.all false
set_option maxRecDepth 100000
namespace Hd
open PySem PySem.W PyProof.Rows
def runT (p:Program) (w:World) (m:Nat) (a:Option Value):Nat->SharedT->Thread->Option SharedT
 | 0,_,_=>none
 | n+1,s,t=>match through t with
  | true=>some s
  | false=>match stepOk m a t with
   | true=>(match stepT (denote treeTable) p w s t with
    | some x=>runT p w m a n x.1 x.2
    | none=>none)
   | false=>none
theorem zk3 {p:Program} {w:World} {m:Nat} {a:Option Value}:∀ {n:Nat} {s z:SharedT} {t:Thread},runT p w m a n s t=some z->topRun treeTable p w m a n s.abs t=some z.abs
 | 0,_,_,_,h=>by cases h
 | n+1,s,z,t,h=>by
  rw [runT] at h
  rw [topRun]
  cases h1:through t<;>rw [h1] at h
  ·cases h2:stepOk m a t<;>rw [h2] at h
   ·cases h
   ·cases h3:stepT (denote treeTable) p w s t with
    | none=>rw [h3] at h;cases h
    | some x=>rw [h3] at h;rw [stepT_spec (s':=x.1) (t':=x.2) h3];exact zk3 h
  ·cases h;rfl
def tr:List Obj->Nat->BT->BT
 | [],_,t=>t
 | o :: r,n,t=>tr r (n+1) (t.ins n o)
noncomputable def boot (P:Params) (os:OsState):SharedT:=⟨tr (boot_heap P).objs.toList 0 .nil,11,(boot_heap P).life,Array.mk [],boot_drawn,boot_toks,os⟩
theorem zkD (P:Params) (os:OsState):(boot P os).abs=⟨boot_heap P,Array.mk [],boot_drawn,boot_toks,os⟩:=by kernel_rfl
theorem zl3 (P:Params):((boot_heap P).isNs mainGlobals&&(Array.mk ([]:List GenState)).size == 0)=true:=by kernel_rfl
theorem zlA (P:Params):(boot_heap P).objs.size=11:=by kernel_rfl
theorem zmz (P:Params):(boot_heap P).nsMap mainGlobals "__annotations__"=some (.ref 6):=by kernel_rfl
noncomputable def lk (p:Program) (w:World) (s:Shared):Bool:=staticsOk (importedModules p.main.body) (boot_heap w.params) s.heap&&namesBound p s.heap&&gensDone s&&laidKept (boot_heap w.params) s.heap
def getT (s:SharedT) (a:Nat):Option Obj:=match Nat.blt a s.n with
 | true=>alive ((s.tree.get a).getD default)
 | false=>none
theorem zlN (s:SharedT) (a:Nat):s.abs.heap.get? a=getT s a:=by
 show (absHeap s.tree s.n s.life).get? a=_
 unfold Heap.get? getT
 rw [absHeap_at]
 by_cases h:a<s.n
 ·have e:Nat.blt a s.n=true:=by simpa [Nat.blt_eq] using h
  rw [if_pos h,e]
  generalize (s.tree.get a).getD default=o
  obtain ⟨c,d,dt,sl⟩:=o
  cases dt<;>rfl
 ·have e:Nat.blt a s.n=false:=by
   cases q:Nat.blt a s.n with
   | false=>rfl
   | true=>exact absurd (by simpa [Nat.blt_eq] using q) h
  rw [if_neg h,e]
theorem y_is (as:List Addr) (s:SharedT):as.map s.abs.heap.get?=as.map (getT s):=by
 congr 1
 funext a
 exact zlN s a
theorem left_of {p q:Program} {loose:List Str} {Xt:Shared->Bool} {α:Type} {Yf:Shared->α} {Ya:World->α} {N:Nat} {g0:Bool} {YT:SharedT->α}
  (e:opening p=plainProg p.main.scope.names) (hN:Nat.ble 600 N=true) (f:∀ s,fenceModules? p s=some s) (hy:∀ s:SharedT,Yf s.abs=YT s)
  (h:∀ w os,(runT p w 11 (some (.ref 6)) N (boot w.params os) (topStub p)).map (λs=>(lk p w s.abs,openSeen q loose (importedModules p.main.body) Xt g0 s.abs,YT s))=some (true,openGood q loose,Ya w)):LeftO p q loose Xt Yf Ya N g0:=λw=>by
 obtain ⟨s,h1,h2⟩:=Option.map_eq_some_iff.mp (boot_open e hN f w)
 obtain ⟨hp,gs,dr,tk,os⟩:=s
 have h3:hp=boot_heap w.params∧gs=Array.mk []∧dr=boot_drawn∧tk=boot_toks:=by simpa using h2
 obtain ⟨rfl,rfl,rfl,rfl⟩:=h3
 obtain ⟨z,h4,h5⟩:=Option.map_eq_some_iff.mp (h w os)
 have h6:=zk3 h4
 rw [zkD] at h6
 obtain ⟨l1,l2,l3⟩:_∧_∧_:=by simpa only [Prod.mk.injEq] using h5
 unfold openEnds
 rw [h1]
 show (topFrom treeTable p w N _).map _=_
 have h7:topFrom treeTable p w N ⟨boot_heap w.params,Array.mk [],boot_drawn,boot_toks,os⟩=some z.abs:=by
  unfold topFrom
  dsimp only
  rw [zl3,zlA,zmz,h6]
  show (match lk p w z.abs with | true=>_ | false=>_)=_
  rw [l1]
 rw [h7]
 exact congrArg some (Prod.ext l2 ((hy z).trans l3))
end Hd
set_option maxRecDepth 100000
namespace My
open PySem PySem.W PyProof.Rows
noncomputable def hdF (q:Program) (as:List Addr) (N:Nat) (w:World) (os:OsState) :=
 (Hd.runT PySem.Challenge.rw_swapbook_k62_met_books.row.prog w 11 (some (.ref 6)) N (Hd.boot w.params os) (topStub PySem.Challenge.rw_swapbook_k62_met_books.row.prog)).map (λs=>(Hd.lk PySem.Challenge.rw_swapbook_k62_met_books.row.prog w s.abs,
  openSeen q [] (importedModules PySem.Challenge.rw_swapbook_k62_met_books.row.prog.main.body) (λs=>xlAt q [] s&&recOk (RowW.records PySem.Challenge.rw_swapbook_k62_met_books.row.toRowW) s) true s.abs,as.map (Hd.getT s)))
noncomputable def hdG (q:Program) (K:Params->Frag) (w:World):=some (true,openGood q [],(K w.params).map λp=>some p.2)
end My
set_option Elab.async false
lay_quick My.hdF My.hdG
namespace My
open PySem PySem.W PyProof.Rows
theorem hd_run {q:Program} {K:Params->Frag} {as:List Addr} {N:Nat} {e:∀ P,as=(K P).map (·.1)} (hN:Nat.ble 600 N=true)
  (h:∀ w os,W.Fast.tw6084617276858994590 q as N w os=W.Fast.tw7309032369996461460 q K w) :
  LeftO PySem.Challenge.rw_swapbook_k62_met_books.row.prog q [] (λs=>xlAt q [] s&&recOk (RowW.records PySem.Challenge.rw_swapbook_k62_met_books.row.toRowW) s) (kHook K as e).obs (kHook K as e).val N:=by
 rw [← W.Fast.te6084617276858994590,← W.Fast.te7309032369996461460] at h
 exact Hd.left_of (by kernel_rfl) hN (λs=>by kernel_rfl) (Hd.y_is as) h
end My
section
local macro_rules
 | `(tactic| refine $e:term)=>do
  if e.raw.isOfKind `Lean.Parser.Term.app&&e.raw[0].getId.eraseMacroScopes == `PySem.W.holds_open then
   let some _:=e.raw.find? (λs=>s.isOfKind `Lean.Parser.Term.syntheticHole&&s[1].getId.eraseMacroScopes == `hl) | Lean.Macro.throwUnsupported
   let h ← `(My.hd_run (by decide) (λw os=>by kernel_rfl))
   let e' ← e.raw.replaceM λs=>pure (if s.isOfKind `Lean.Parser.Term.syntheticHole&&s[1].getId.eraseMacroScopes == `hl then some h.raw else none)
   `(tactic| refine $(⟨e'⟩))
  else Lean.Macro.throwUnsupported
open PySem PySem.W PyProof.Rows
set_option maxRecDepth 100000 in
set_option maxHeartbeats 0 in
open_top My.headT for PySem.Challenge.rw_swapbook_k62_met_books
end
namespace L2
open PySem PySem.Spec PyProof.Rows
abbrev Key:=Sum Int Str
def znV:Key->Value->Bool
 | .inl k,v=>Value.isInt k v
 | .inr x,v=>Value.isStrOf x v
def zpx (w:World):Key->Int
 | .inl k=>hashInt k
 | .inr x=>hashStr w x
theorem keyIs_shape:∀ {k:Key} {v:Value},znV k v=true->(∃ i t,k=Sum.inl i∧v=Value.int i t)∨(∃ x t,k=Sum.inr x∧v=Value.str x t)
 | .inl i,v,h=>by
  obtain ⟨t,e⟩:=Value.isInt_shape (k:=i) (v:=v) h
  exact .inl ⟨i,t,rfl,e⟩
 | .inr x,v,h=>by
  obtain ⟨t,e⟩:=Value.isStrOf_shape (x:=x) (v:=v) h
  exact .inr ⟨x,t,rfl,e⟩
theorem zmE (a b:Int):decide ((Sum.inl a:Key)=Sum.inl b)=(a == b):=by
 by_cases e:a=b
 ·subst e;simp
 ·have h:¬ (Sum.inl a:Key)=Sum.inl b:=λq=>e (Sum.inl.inj q)
  rw [decide_eq_false h]
  exact (beq_eq_false_iff_ne.mpr e).symm
theorem znn (a b:Str):decide ((Sum.inr a:Key)=Sum.inr b)=decide (a=b):=by
 by_cases e:a=b
 ·subst e;simp
 ·have h:¬ (Sum.inr a:Key)=Sum.inr b:=λq=>e (Sum.inr.inj q)
  rw [decide_eq_false h,decide_eq_false e]
theorem znt (a:Int) (b:Str):decide ((Sum.inl a:Key)=Sum.inr b)=false:=decide_eq_false (λq=>nomatch q)
theorem zmU (a:Str) (b:Int):decide ((Sum.inr a:Key)=Sum.inl b)=false:=decide_eq_false (λq=>nomatch q)
def zi9 (prog:Program) (w:World):PySem.KeyKind prog w Key where
 is:=znV
 hash:=zpx w
 inj:=λv a b ha hb=>by
  rcases keyIs_shape ha with ⟨i,t,rfl,rfl⟩ | ⟨x,t,rfl,rfl⟩
  ·rcases keyIs_shape hb with ⟨j,u,rfl,e⟩ | ⟨y,u,rfl,e⟩
   ·injection e with e1 _;rw [e1]
   ·exact nomatch e
  ·rcases keyIs_shape hb with ⟨j,u,rfl,e⟩ | ⟨y,u,rfl,e⟩
   ·exact nomatch e
   ·injection e with e1 _;rw [e1]
 byValue:=λk v h=>by
  rcases keyIs_shape h with ⟨i,t,rfl,rfl⟩ | ⟨x,t,rfl,rfl⟩<;>rfl
 pyHash:=λhv h=>by
  rcases keyIs_shape hv with ⟨i,t,rfl,rfl⟩ | ⟨x,t,rfl,rfl⟩
  ·exact wpAny_pyHash_int h
  ·exact wpAny_pyHash_str h
 eqBool:=λhu hv h=>by
  rcases keyIs_shape hu with ⟨i,t,rfl,rfl⟩ | ⟨x,t,rfl,rfl⟩
  ·rcases keyIs_shape hv with ⟨j,u,rfl,rfl⟩ | ⟨y,u,rfl,rfl⟩
   ·rw [zmE] at h;exact wpAny_eqBool_int h
   ·rw [znt] at h;exact SeqAt.EqAt.int_str i t y u _ _ _ _ h
  ·rcases keyIs_shape hv with ⟨j,u,rfl,rfl⟩ | ⟨y,u,rfl,rfl⟩
   ·rw [zmU] at h;exact SeqAt.EqAt.str_int x t j u _ _ _ _ h
   ·rw [znn] at h;exact wpAny_eqBool_str h
 «strs»:=λk x t v h=>by
  rcases keyIs_shape h with ⟨i,u,rfl,e⟩ | ⟨y,u,rfl,e⟩
  ·exact nomatch e
  ·injection e with e1 _
   subst e1
   cases v<;>rfl
end L2
namespace L2
open PySem PySem.Spec PyProof.Rows
inductive V where
 | non | bl (b:Bool) | int (i:Int) | str (x:Str) | byt (b:Array UInt8) | flt (b:UInt64) | ref (a:Addr) | ty (n:String)
 deriving DecidableEq
def RelV:V->Value->Prop
 | .non,u=>u=Value.none
 | .bl b,u=>u=Value.bool b
 | .int i,u=>∃ t,u=Value.int i t
 | .str x,u=>∃ t,u=Value.str x t
 | .byt b,u=>∃ t,u=Value.bytes b t
 | .flt b,u=>∃ t,u=Value.float b t
 | .ref a,u=>u=Value.ref a
 | .ty n,u=>u=Value.type n
abbrev Vals:List V->List Value->Prop:=Paired RelV
theorem Vals.length {xs:List V} {us:List Value} (r:Vals xs us):xs.length=us.length:=Paired.length r
theorem Vals.get:∀ {xs:List V} {us:List Value} {i:Nat} {x:V},Vals xs us->xs[i]?=some x->∃ u,us[i]?=some u∧RelV x u
 | _,_,_,_,.nil,e=>by simp at e
 | _,_,0,_,.cons r _,e=>by simp at e;subst e;exact ⟨_,rfl,r⟩
 | _,_,i+1,x,.cons _ t,e=>by
  obtain ⟨u,h1,h2⟩:=Vals.get (i:=i) (x:=x) t (by simpa using e)
  exact ⟨u,by simpa using h1,h2⟩
theorem Vals.set {x:V} {u:Value} (r:RelV x u):∀ {xs:List V} {us:List Value} (i:Nat),Vals xs us->Vals (xs.set i x) (us.set i u)
 | _,_,_,.nil=>.nil
 | _,_,0,.cons _ t=>.cons r t
 | _,_,i+1,.cons q t=>.cons q (Vals.set r i t)
theorem Vals.append:∀ {xs ys:List V} {us ws:List Value},Vals xs us->Vals ys ws->Vals (xs++ys) (us++ws)
 | _,_,_,_,.nil,s=>s
 | _,_,_,_,.cons r t,s=>.cons r (Vals.append t s)
theorem Vals.take:∀ {xs:List V} {us:List Value} (n:Nat),Vals xs us->Vals (xs.take n) (us.take n)
 | _,_,0,_=>.nil
 | _,_,_+1,.nil=>.nil
 | _,_,n+1,.cons r t=>.cons r (Vals.take n t)
theorem Vals.drop:∀ {xs:List V} {us:List Value} (n:Nat),Vals xs us->Vals (xs.drop n) (us.drop n)
 | _,_,0,r=>r
 | _,_,_+1,.nil=>.nil
 | _,_,n+1,.cons _ t=>Vals.drop n t
def zmg:Option V->Option Value->Prop
 | some v,some u=>RelV v u
 | none,none=>True
 | _,_=>False
def KV {κ:Type}:List (κ×V)->List (κ×Value)->Prop:=Paired λ(p:κ×V) (q:κ×Value)=>p.1=q.1∧RelV p.2 q.2
def kV:Key->V
 | .inl i=>.int i
 | .inr x=>.str x
inductive HO where
 | lst (xs:List V)
 | tup (xs:List V)
 | dK (kvs:List (Key×V)) | dT (kvs:List (List Key×V))
 | set (S:Int->Bool) (n:Nat)
 | ins (C dx:Addr) (fs:List (Str×V))
 | own (x:Addr)
 | xd (fs:List (Str×V))
 | met (f x:Addr)
 | rng (lo hi:Int)
 | frz (o:Obj) (u:HO)
 | tbl (ps:Array Value)
 | ext (φ:Heap->Prop)
abbrev Hp:=Addr->Option HO
def upd (H:Hp) (a:Addr) (o:HO):Hp:=λb=>if b=a then some o else H b
theorem upd_same {H:Hp} {a:Addr} {o:HO}:upd H a o a=some o:=by unfold upd;rw [if_pos rfl]
theorem upd_ne {H:Hp} {a b:Addr} {o:HO} (h:b≠a):upd H a o b=H b:=by unfold upd;rw [if_neg h]
theorem zkd {H:Hp} {a b:Addr} {o u:HO} (h:H a=some o) (h':H b=some u) (d:o≠u):a≠b:=by
 intro e;subst e;rw [h] at h';exact d (Option.some.inj h')
theorem ne_of_none {H:Hp} {a b:Addr} {o:HO} (h:H a=some o) (h':H b=none):a≠b:=by
 intro e;subst e;rw [h] at h';cases h'
section
variable (P:Program) (w:World)
def zcG (H:Hp) (h:Heap) (a:Addr):HO->Prop
 | .lst xs=>xs.length≤sizeLine∧∃ (its:List Value) (n:Nat),Vals xs its∧h.get? a=some { cls:=.type "list",data:=.seq its.toArray n }
 | .tup xs=>xs.length≤sizeLine∧∃ its:List Value,Vals xs its∧IsTup h a its.toArray
 | .dK kvs=>kvs.length≤sizeLine∧(a == sysModules)=false∧∃ vs,KV kvs vs∧h.DictOf (zi9 P w) a vs
 | .dT kvs=>kvs.length≤sizeLine∧(a == sysModules)=false∧∃ xs:List (List Key×Addr×Value),
   Paired (λ(p:List Key×V) (q:List Key×Addr×Value)=>p.1=q.1∧H q.2.1=some (.tup (p.1.map kV))∧RelV p.2 q.2.2) kvs xs ∧
   ∃ o es ep,h.get? a=some o∧o.ExactDict∧o.data=.dict es ep∧es.toList=xs.map (entryOfKey (tupleKind (zi9 P w)))∧(xs.map (·.1)).Nodup
 | .set S n=>h.SetOf (intKind P w) a S n
 | .ins C dx fs=>H dx=some (.own a)∧fs.length≤1000∧dx≠a∧h.get? a=some (W.instObj C dx) ∧
   ∃ mA,h.Ns1 dx mA∧(∀ f,zmg (fs.lookup f) (mA f))∧PySem.Within mA (fs.map (·.1))
 | .own _=>∃ o,h.get? a=some o
 | .xd fs=>∃ mA,h.Ns1 a mA∧∀ f,zmg (fs.lookup f) (mA f)
 | .rng lo hi=>∃ t u v,h.get? a=some { cls:=.type "range",data:=.fields #[.int lo t,.int hi u,.int 1 v] }
 | .frz o u=>h.get? a=some o∧zcG H h a u
 | .tbl ps=>h.get? a=some { cls:=.none,data:=.fields ps }
 | .met f x=>h.get? a=some (W.methodObj (.ref f) (.ref x))
 | .ext φ=>φ h∧(∃ o,h.get? a=some o)∧∀ h1 h2:Heap,φ h1->(∀ o,h1.get? a=some o->h2.get? a=some o)->φ h2
def HOk (H:Hp) (h:Heap):Prop:=∀ a o,H a=some o->zcG P w H h a o
end
section
variable {P:Program} {w:World} {H H':Hp} {h h':Heap} {a:Addr} {o:HO}
theorem zcG.lt (x:zcG P w H h a o):a<h.objs.size:=by
 cases o with
 | lst xs=>obtain ⟨_,_,_,_,e⟩:=x;exact Heap.lt_size e
 | tup xs=>obtain ⟨_,_,_,p⟩:=x;exact p.lt
 | dK kvs=>obtain ⟨_,_,_,_,o,_,_,e,_⟩:=x;exact Heap.lt_size e
 | dT kvs=>obtain ⟨_,_,_,_,o,_,_,e,_⟩:=x;exact Heap.lt_size e
 | set S n=>obtain ⟨o,_,_,_,e,_⟩:=x;exact Heap.lt_size e
 | ins C dx fs=>obtain ⟨_,_,_,e,_⟩:=x;exact Heap.lt_size e
 | own y=>obtain ⟨_,e⟩:=x;exact Heap.lt_size e
 | xd fs=>obtain ⟨_,⟨_,_,_,e,_⟩,_⟩:=x;exact Heap.lt_size e
 | rng lo hi=>obtain ⟨_,_,_,e⟩:=x;exact Heap.lt_size e
 | frz ob u=>obtain ⟨e,_⟩:=x;exact Heap.lt_size e
 | tbl ps=>exact Heap.lt_size (show h.get? a=some _ from x)
 | met f y=>exact Heap.lt_size (show h.get? a=some _ from x)
 | ext φ=>obtain ⟨_,⟨_,e⟩,_⟩:=x;exact Heap.lt_size e
theorem Paired.mapP {α β:Type} {F G:α->β->Prop}:∀ {l₁:List α} {l₂:List β},Paired F l₁ l₂->(∀ a b,F a b->G a b)->Paired G l₁ l₂
 | _,_,.nil,_=>.nil
 | _,_,.cons r t,f=>.cons (f _ _ r) (Paired.mapP t f)
theorem zcG.stay (x:zcG P w H h a o) (k:∀ b u,(b=a∨H b=some (.own a))->h.get? b=some u->h'.get? b=some u)
  (ho:∀ b,H b=some (.own a)->H' b=some (.own a)) (ht:∀ b xs,H b=some (.tup xs)->H' b=some (.tup xs)):zcG P w H' h' a o:=by
 induction o with
 | lst xs=>obtain ⟨z,its,n,r,e⟩:=x;exact ⟨z,its,n,r,k _ _ (.inl rfl) e⟩
 | tup xs=>obtain ⟨z,its,r,ob,e,c⟩:=x;exact ⟨z,its,r,ob,k _ _ (.inl rfl) e,c⟩
 | dK kvs=>obtain ⟨z,y,vs,r,ob,es,ep,e,c⟩:=x;exact ⟨z,y,vs,r,ob,es,ep,k _ _ (.inl rfl) e,c⟩
 | dT kvs =>
  obtain ⟨z,y,xs,r,ob,es,ep,e,c⟩:=x
  exact ⟨z,y,xs,Paired.mapP r λp q z=>⟨z.1,ht _ _ z.2.1,z.2.2⟩,ob,es,ep,k _ _ (.inl rfl) e,c⟩
 | set S n=>obtain ⟨ob,es,ep,t,e,c⟩:=x;exact ⟨ob,es,ep,t,k _ _ (.inl rfl) e,c⟩
 | ins C dx fs =>
  obtain ⟨d,z,ne,e,mA,⟨od,es,ep,e2,c⟩,r⟩:=x
  exact ⟨ho _ d,z,ne,k _ _ (.inl rfl) e,mA,⟨od,es,ep,k _ _ (.inr d) e2,c⟩,r⟩
 | own y=>obtain ⟨ob,e⟩:=x;exact ⟨ob,k _ _ (.inl rfl) e⟩
 | xd fs=>obtain ⟨mA,⟨od,es,ep,e,c⟩,r⟩:=x;exact ⟨mA,⟨od,es,ep,k _ _ (.inl rfl) e,c⟩,r⟩
 | rng lo hi=>obtain ⟨t,u,v,e⟩:=x;exact ⟨t,u,v,k _ _ (.inl rfl) e⟩
 | frz ob u ih=>obtain ⟨e,q⟩:=x;exact ⟨k _ _ (.inl rfl) e,ih q⟩
 | tbl ps =>
  have e:h.get? a=some { cls:=.none,data:=.fields ps }:=x
  show h'.get? a=some { cls:=.none,data:=.fields ps }
  exact k a _ (.inl rfl) e
 | met f y =>
  have e:h.get? a=some (W.methodObj (.ref f) (.ref y)):=x
  show h'.get? a=some (W.methodObj (.ref f) (.ref y))
  exact k a _ (.inl rfl) e
 | ext φ=>obtain ⟨p,⟨o,e⟩,st⟩:=x;exact ⟨st _ _ p λo q=>k _ _ (.inl rfl) q,⟨o,k _ _ (.inl rfl) e⟩,st⟩
theorem HOk.lt (x:HOk P w H h) (e:H a=some o):a<h.objs.size:=(x a o e).lt
theorem HOk.fresh (x:HOk P w H h) (e:h.objs.size≤a):H a=none:=by
 cases q:H a with
 | none=>rfl
 | some u=>exact absurd (Nat.lt_of_lt_of_le (x.lt q) e) (Nat.lt_irrefl _)
theorem HOk.kept (x:HOk P w H h) (k:∀ b u,h.get? b=some u->h'.get? b=some u):HOk P w H h':=λa o e =>
 (x a o e).stay (λb u _ q=>k b u q) (λ_ q=>q) λ_ _ q=>q
theorem HOk.laid (x:HOk P w H h) (k:∀ b u,h.get? b=some u->h'.get? b=some u) (hp:h.objs.size≤a) (new:zcG P w (upd H a o) h' a o):HOk P w (upd H a o) h':=λb u e=>by
 have hn:=x.fresh hp
 by_cases hb:b=a
 ·subst hb;rw [upd_same] at e;cases e;exact new
 ·rw [upd_ne hb] at e
  exact (x b u e).stay (λc v _ q=>k c v q) (λc q=>by rw [upd_ne (ne_of_none q hn)];exact q) λc xs q=>by rw [upd_ne (ne_of_none q hn)];exact q
end
def Rd (H:Hp) (a:Addr) (u:HO):Prop:=H a=some u∨∃ o,H a=some (.frz o u)
theorem Rd.ok {P:Program} {w:World} {H:Hp} {h:Heap} {a:Addr} {u:HO} (r:Rd H a u) (x:HOk P w H h):zcG P w H h a u:=by
 rcases r with r | ⟨o,r⟩
 ·exact x a u r
 ·obtain ⟨_,q⟩:=x a _ r
  exact q
def Mut:Option HO->Prop
 | some (.lst _)=>True
 | some (.dK _)=>True
 | some (.dT _)=>True
 | some (.set _ _)=>True
 | some (.ins _ _ _)=>True
 | some (.ext _)=>True
 | _=>False
section
variable {P:Program} {w:World} {H:Hp} {h h':Heap} {x e:Addr} {o':HO}
theorem HOk.write (ok:HOk P w H h) (mu:Mut (H x)) (he:e=x∨H e=some (.own x)) (k:∀ b u,b≠e->h.get? b=some u->h'.get? b=some u) (heo:∃ u,h'.get? e=some u)
  (new:zcG P w (upd H x o') h' x o'):HOk P w (upd H x o') h':=λb u q=>by
 have nown:∀ c y,H c=some (.own y)->c≠x:=λc y r z=>by subst z;rw [r] at mu;exact mu
 have ntup:∀ c xs,H c=some (.tup xs)->c≠x:=λc xs r z=>by subst z;rw [r] at mu;exact mu
 by_cases hb:b=x
 ·subst hb;rw [upd_same] at q;cases q;exact new
 ·rw [upd_ne hb] at q
  by_cases hbe:b=e
  ·have q':H b=some (.own x):=by
    rcases he with z | z
    ·exact absurd (hbe.trans z) hb
    ·rw [hbe];exact z
   rw [q] at q';cases q'
   obtain ⟨v,hv⟩:=heo
   exact ⟨v,by rw [hbe];exact hv⟩
  ·refine (ok b u q).stay (λc v hc r=>k c v ?_ r) (λc r=>by rw [upd_ne (nown c b r)];exact r) λc xs r=>by rw [upd_ne (ntup c xs r)];exact r
   rcases hc with rfl | hc
   ·exact hbe
   ·rintro rfl
    rcases he with z | z
    ·exact nown c b hc z
    ·rw [hc] at z;cases z;exact hb rfl
end
structure Un (fs ex:List Addr) (H H':Hp) (h h':Heap):Prop where
 keep:∀ b o,h.get? b=some o->H b=none->b ∉ fs->b ∉ ex->h'.get? b=some o
 slot:∀ b o,h.get? b=some o->H b=none->b∈fs->b ∉ ex->∃ sl,h'.get? b=some { o with slots:=sl }
 free:∀ b o,h.get? b=some o->H b=none->b ∉ ex->H' b=none
 there:∀ b o,h.get? b=some o->b ∉ ex->∃ o',h'.get? b=some o'
 tups:∀ b xs,H b=some (.tup xs)->H' b=some (.tup xs)
 frzs:∀ b o u,H b=some (.frz o u)->H' b=some (.frz o u)
 tbls:∀ b ps,H b=some (.tbl ps)->∃ more,H' b=some (.tbl (ps++more))
section
variable {fs fs' ex ex':List Addr} {H H1 H2:Hp} {h h1 h2 h':Heap} {a x e:Addr} {o:HO}
theorem Un.any (u:Un fs ex H H1 h h1) {b:Addr} {ob:Obj} (q:h.get? b=some ob) (n:H b=none) (hx:b ∉ ex):∃ sl,h1.get? b=some { ob with slots:=sl }:=by
 by_cases hb:b∈fs
 ·exact u.slot b ob q n hb hx
 ·exact ⟨ob.slots,u.keep b ob q n hb hx⟩
theorem Un.kept (k:∀ b u,h.get? b=some u->h'.get? b=some u):Un fs ex H H h h' :=
 ⟨λb ob q _ _ _=>k b ob q,λb ob q _ _ _=>⟨ob.slots,k b ob q⟩,λ_ _ _ n _=>n,λb ob q _=>⟨ob,k b ob q⟩,λ_ _ q=>q,λ_ _ _ q=>q,λ_ ps q=>⟨#[],by rw [q];simp⟩⟩
theorem Un.refl:Un fs ex H H h h:=Un.kept λ_ _ q=>q
theorem Un.laid (k:∀ b u,h.get? b=some u->h'.get? b=some u) (hp:h.objs.size≤a) (hn:H a=none):Un fs ex H (upd H a o) h h' where
 keep:=λb u q _ _ _=>k b u q
 slot:=λb u q _ _ _=>⟨u.slots,k b u q⟩
 free:=λb u q n _=>by rw [upd_ne (Nat.ne_of_lt (Nat.lt_of_lt_of_le (Heap.lt_size q) hp))];exact n
 there:=λb u q _=>⟨u,k b u q⟩
 tups:=λb xs q=>by rw [upd_ne (ne_of_none q hn)];exact q
 frzs:=λb u xs q=>by rw [upd_ne (ne_of_none q hn)];exact q
 tbls:=λb ps q=>⟨#[],by rw [upd_ne (ne_of_none q hn),q];simp⟩
theorem Un.write (mu:Mut (H x)) (he:e=x∨H e=some (.own x)) (k:∀ b u,b≠e->h.get? b=some u->h'.get? b=some u) (heo:∃ u,h'.get? e=some u):Un fs ex H (upd H x o) h h':=by
 have hx:∀ b,H b=none->b≠x:=λb n z=>by subst z;rw [n] at mu;exact mu
 have hb:∀ b,H b=none->b≠e:=λb n z=>by
  subst z
  rcases he with r | r
  ·exact hx b n r
  ·rw [n] at r;cases r
 have hm:∀ b u,H b=some u->¬ Mut (some u)->b≠x:=λb u q nm z=>by subst z;rw [q] at mu;exact nm mu
 refine ⟨λb u q n _ _=>k b u (hb b n) q,λb u q n _ _=>⟨u.slots,k b u (hb b n) q⟩,λb u q n _=>by rw [upd_ne (hx b n)];exact n,λb u q _=>?_,
  λb xs q=>by rw [upd_ne (hm b _ q λz=>z)];exact q,λb u xs q=>by rw [upd_ne (hm b _ q λz=>z)];exact q,λb ps q=>⟨#[],by rw [upd_ne (hm b _ q λz=>z),q];simp⟩⟩
 by_cases hbe:b=e
 ·subst hbe;exact heo
 ·exact ⟨u,k b u hbe q⟩
end
def trk (h:Heap) (H:Hp):List Addr:=(List.range h.objs.size).filter λa=>(H a).isSome
def zkH (h:Heap) (H:Hp):Heap:=W.hideAll h (trk h H)
theorem ziN (h:Heap) (H:Hp):(zkH h H).objs.size=h.objs.size:=W.hideAll_size _ _
theorem zkA {h:Heap} {H:Hp} {b:Addr} {o:Obj} (e:h.get? b=some o) (n:H b=none):(zkH h H).get? b=some o :=
 W.hideAll_get _ e λhm=>by
  have q:(H b).isSome=true:=(List.mem_filter.mp hm).2
  rw [n] at q;simp at q
theorem zl0 {h:Heap} {H:Hp} {b:Addr} {o:Obj} (e:(zkH h H).get? b=some o):h.get? b=some o∧H b=none:=by
 have e':h.get? b=some o:=W.of_hideAll (trk h H) e
 refine ⟨e',?_⟩
 cases q:H b with
 | none=>rfl
 | some x =>
  have hm:b∈trk h H:=List.mem_filter.mpr ⟨List.mem_range.mpr (Heap.lt_size e'),by simp [q]⟩
  have z:(zkH h H).get? b=none:=W.hideAll_none (trk h H) hm
  rw [z] at e;cases e
def allNews (g h:Heap) (L:Addr):List (Addr×Obj):=(List.range h.objs.size).filterMap λa=>if a=L∨(g.get? a).isSome=true then none else (h.get? a).map λo=>(a,o)
def rest (g h:Heap) (L d:Addr):List (Addr×Obj):=(allNews g h L).filter λp=>decide (p.1≠d)
end L2
namespace L2
open PySem PySem.Spec PyProof.Rows
structure Mod (K:W.Frag) (mg:Str->Option Value) (base:Heap):Prop where
 kin:K.In base
 glob:base.Ns mainGlobals mg
 blt:∃ mb,base.Ns builtinsNs mb∧∀ x:Str,x≠"__name__"->mb x=bootBuiltins x
 nolimit:base.NoLimit
structure Cx where
 prog:Program
 w:World
 K:W.Frag
 mg:Str->Option Value
 base:Heap
 A:Around
 N:List Str
 s₀:Shared
 H₀:Hp
 env:Env
 outer:List Env
 stack:List Env
 ex:List Addr
 fn:Str->Bool
 calm:Bool
 pn:List (Addr×Obj)
 xe:Value->Shared->Prop
def frs (l:List Env):List Addr:=l.filterMap (·.frame)
abbrev Cx.fs (X:Cx):List Addr:=frs X.outer
def Vis (sc:Scope) (x:Str):Prop:=sc.names.lookup x=some .local∨sc.names.lookup x=some .cell∨sc.names.lookup x=some .free
def Loc (sc:Scope) (x:Str):Prop:=sc.names.lookup x=some .local∨sc.names.lookup x=some .cell
def zpn (env:Env) (h:Heap) (m:Str->Option Value) (x:Str) (u:Value):Prop :=
 (env.kindOf x=some .local∧m x=some u)∨((env.kindOf x=some .cell∨env.kindOf x=some .free)∧∃ c,env.cells.lookup x=some c∧h.IsCell c (some u))
structure Cx.Ok (X:Cx):Prop where
 mod:Mod X.K X.mg X.base
 kind:X.env.scope.kind=.function
 glob:X.env.globals=mainGlobals
 blt:X.env.builtins=builtinsNs
 above:X.s₀.heap.objs.size≤X.env.locals
 inj:∀ x y c,X.env.cells.lookup x=some c->X.env.cells.lookup y=some c->x=y
 has:∀ x,(X.env.kindOf x=some .cell∨X.env.kindOf x=some .free)->∃ c,X.env.cells.lookup x=some c
 cab:∀ x c,X.fn x=true->X.env.cells.lookup x=some c->X.s₀.heap.objs.size≤c
 hd:X.calm=true->X.A.handled=none
 frames:X.A.frames=some X.stack
 stk:X.stack=X.outer∨(X.stack=X.env :: X.outer∧X.env.frame=some X.env.locals)
 exf:∀ b∈X.ex,b≠X.env.locals∧∀ x c,X.env.cells.lookup x=some c->c≠b
 bs:∀ b o,X.base.get? b=some o->X.s₀.heap.get? b=some o∧X.H₀ b=none
 bsz:X.base.objs.size≤X.s₀.heap.objs.size
 noex:∀ b o,X.base.get? b=some o->b ∉ X.ex
 exfs:∀ b∈X.ex,b ∉ X.fs
 funs:X.s₀.heap.FunFrames X.base X.outer
 frf:∀ b∈X.fs,X.H₀ b=none
structure Inv (X:Cx) (pins:List (Addr×Obj)) (σ:List (Option V)) (H:Hp) (s:Shared):Prop where
 ok:X.Ok
 os:s.os=X.s₀.os
 bare:AllBare s.gens
 base:Un X.fs X.ex X.H₀ H X.s₀.heap s.heap
 loc:∃ m,s.heap.Ns X.env.locals m∧∀ (i:Nat) (x:Str) (v:V),X.N[i]?=some x->σ[i]?=some (some v)->Vis X.env.scope x->∃ u,RelV v u∧zpn X.env s.heap m x u
 cell:∀ x c,X.env.cells.lookup x=some c->∃ v,s.heap.IsCell c v
 free:H X.env.locals=none
 freeC:∀ x c,X.env.cells.lookup x=some c->H c=none
 pin:∀ p∈X.pn++pins,s.heap.get? p.1=some p.2∧H p.1=none∧p.1≠X.env.locals∧p.1 ∉ X.fs∧∀ v,p.2.data≠.cell v
 hok:HOk X.prog X.w H s.heap
 len:σ.length=X.N.length
section
variable {X:Cx} {pins:List (Addr×Obj)} {σ:List (Option V)} {H H':Hp} {s:Shared} {h':Heap}
theorem Cx.Ok.nofr (ok:X.Ok) {b:Addr} {o:Obj} (e:X.base.get? b=some o):b ∉ X.fs:=λhb=>by
 have:=(ok.funs.mem hb).1
 rw [e] at this;cases this
theorem Inv.bs (I:Inv X pins σ H s):∀ b o,X.base.get? b=some o->s.heap.get? b=some o∧H b=none:=λb o e =>
 ⟨I.base.keep b o (I.ok.bs b o e).1 (I.ok.bs b o e).2 (I.ok.nofr e) (I.ok.noex b o e),I.base.free b o (I.ok.bs b o e).1 (I.ok.bs b o e).2 (I.ok.noex b o e)⟩
theorem Inv.bk (I:Inv X pins σ H s):∀ b o,X.base.get? b=some o->s.heap.get? b=some o:=λb o e=>(I.bs b o e).1
theorem Inv.mod (I:Inv X pins σ H s):Mod X.K X.mg X.base:=I.ok.mod
theorem Inv.kIn (I:Inv X pins σ H s):X.K.In s.heap:=I.ok.mod.kin.keeps I.bk
theorem Inv.nolimit (I:Inv X pins σ H s):s.heap.NoLimit:=I.ok.mod.nolimit.keeps I.bk
theorem Inv.fr (I:Inv X pins σ H s):∃ m,Fr X.base X.env.locals s.heap m :=
 let ⟨m,hn,_⟩:=I.loc
 ⟨m,hn,I.bk,Nat.le_trans I.ok.bsz I.ok.above⟩
theorem Inv.lt (I:Inv X pins σ H s):X.env.locals<s.heap.objs.size:=let ⟨_,hn,_⟩:=I.loc;hn.lt
theorem Inv.sz (I:Inv X pins σ H s):X.s₀.heap.objs.size≤s.heap.objs.size:=Nat.le_trans I.ok.above (Nat.le_of_lt I.lt)
theorem Inv.nofs (I:Inv X pins σ H s) {a:Addr} (h:s.heap.objs.size≤a):a ∉ X.fs:=λhb=>by
 obtain ⟨_,o,ho,_⟩:=I.ok.funs.mem hb
 exact absurd (Nat.lt_of_lt_of_le (Heap.lt_size ho) (Nat.le_trans I.sz h)) (Nat.lt_irrefl _)
theorem Inv.cne (I:Inv X pins σ H s):∀ x c,X.env.cells.lookup x=some c->c≠X.env.locals:=λx c e z=>by
 obtain ⟨v,o,ho,hd⟩:=I.cell x c e
 obtain ⟨m,⟨o',es,ep,ho',hd',_⟩,_⟩:=I.loc
 rw [z,ho'] at ho;cases ho;rw [hd'] at hd;cases hd
theorem Inv.funs (I:Inv X pins σ H s):s.heap.FunFrames X.base X.outer:=by
 have all:∀ (l:List Env),(∀ b∈frs l,b∈X.fs)->X.s₀.heap.FunFrames X.base l->s.heap.FunFrames X.base l:=by
  intro l
  induction l with
  | nil=>intro _ _;trivial
  | cons env r ih =>
   intro hs hl
   obtain ⟨hk,⟨L,o,hf,hn,ho,hd⟩,hr⟩:=hl
   have hL:L∈X.fs:=hs L (by unfold frs;rw [List.filterMap_cons,hf];exact List.mem_cons_self)
   obtain ⟨sl,e⟩:=I.base.slot L o ho (I.ok.frf L hL) hL λz=>I.ok.exfs L z hL
   exact ⟨hk,⟨L,_,hf,hn,e,hd⟩,ih (λb hb=>hs b (by unfold frs;rw [List.filterMap_cons,hf];exact List.mem_cons_of_mem _ hb)) hr⟩
 exact all X.outer (λ_ hb=>hb) I.ok.funs
theorem Inv.stack (I:Inv X pins σ H s):s.heap.FunFrames X.base X.stack:=by
 rcases I.ok.stk with e | ⟨e,hf⟩
 ·rw [e];exact I.funs
 ·rw [e]
  obtain ⟨m,hn,_⟩:=I.loc
  refine .cons (by rw [I.ok.kind];decide) hf hn ?_ I.funs
  exact Heap.get?_none_of_le (Nat.le_trans I.ok.bsz I.ok.above)
theorem Inv.stkSub (I:Inv X pins σ H s):∀ b∈frs X.stack,b∈X.env.locals :: X.fs:=λb hb=>by
 rcases I.ok.stk with e | ⟨e,hf⟩
 ·rw [e] at hb;exact List.mem_cons_of_mem _ hb
 ·rw [e] at hb
  unfold frs at hb
  rw [List.filterMap_cons,hf] at hb
  exact hb
theorem Inv.stkFree (I:Inv X pins σ H s):∀ b∈frs X.stack,H b=none:=λb hb=>by
 rcases List.mem_cons.mp (I.stkSub b hb) with e | hb
 ·rw [e];exact I.free
 ·obtain ⟨_,o,ho,_⟩:=I.ok.funs.mem hb
  exact I.base.free b o ho (I.ok.frf b hb) λz=>I.ok.exfs b z hb
theorem Inv.step {g':Array GenState} {t':Nat} {d':Drawn} {ch:List Addr} (I:Inv X pins σ H s)
  (hch:∀ b∈ch,(b∈X.ex∨X.s₀.heap.objs.size≤b)∧b≠X.env.locals∧(∀ x c,X.env.cells.lookup x=some c->c≠b)∧∀ p∈X.pn++pins,p.1≠b)
  (keep:∀ b o,b≠X.env.locals->b ∉ X.fs->b ∉ ch->s.heap.get? b=some o->H b=none->h'.get? b=some o)
  (slot:∀ b o,b≠X.env.locals->b∈X.fs->b ∉ ch->s.heap.get? b=some o->H b=none->∃ sl,h'.get? b=some { o with slots:=sl }) (free:∀ b o,b ∉ ch->s.heap.get? b=some o->H b=none->H' b=none)
  (there:∀ b o,b ∉ ch->s.heap.get? b=some o->∃ o',h'.get? b=some o')
  (tups:∀ b xs,H b=some (.tup xs)->H' b=some (.tup xs)) (frzs:∀ b o u,H b=some (.frz o u)->H' b=some (.frz o u)) (tbls:∀ b ps,H b=some (.tbl ps)->∃ more,H' b=some (.tbl (ps++more)))
  (ns:∀ m,s.heap.Ns X.env.locals m->h'.Ns X.env.locals m) (hok:HOk X.prog X.w H' h') (hg:AllBare g') :
  Inv X pins σ H' { s with heap:=h',gens:=g',drawn:=d',toks:=t' }:=by
 have neL:∀ b o,X.s₀.heap.get? b=some o->b≠X.env.locals:=λb o e=>Nat.ne_of_lt (Nat.lt_of_lt_of_le (Heap.lt_size e) I.ok.above)
 have neC:∀ b o,X.s₀.heap.get? b=some o->b ∉ X.ex->b ∉ ch:=λb o e hx hb=>by
  rcases (hch b hb).1 with z | z
  ·exact hx z
  ·exact absurd (Nat.lt_of_lt_of_le (Heap.lt_size e) z) (Nat.lt_irrefl _)
 have cellK:∀ x c,X.env.cells.lookup x=some c->∀ v,s.heap.IsCell c v->h'.IsCell c v:=λx c e v ⟨o,ho,hd⟩=>by
  have nch:c ∉ ch:=λz=>(hch c z).2.2.1 x c e rfl
  by_cases hc:c∈X.fs
  ·obtain ⟨sl,q⟩:=slot c o (I.cne x c e) hc nch ho (I.freeC x c e)
   exact ⟨_,q,hd⟩
  ·exact ⟨o,keep c o (I.cne x c e) hc nch ho (I.freeC x c e),hd⟩
 refine ⟨I.ok,I.os,hg,⟨λb o e n hb hx=>?_,λb o e n hb hx=>?_,λb o e n hx=>?_,λb o e hx=>?_,λb xs e=>tups b xs (I.base.tups b xs e),λb o xs e=>frzs b o xs (I.base.frzs b o xs e),λb ps e=>?_⟩,?_,λx c e=>?_,?_,λx c e=>?_,λp hp=>?_,hok,I.len⟩
 ·exact keep b o (neL b o e) hb (neC b o e hx) (I.base.keep b o e n hb hx) (I.base.free b o e n hx)
 ·obtain ⟨sl,e1⟩:=I.base.slot b o e n hb hx
  obtain ⟨sl',e2⟩:=slot b _ (neL b o e) hb (neC b o e hx) e1 (I.base.free b o e n hx)
  exact ⟨sl',e2⟩
 ·obtain ⟨o',e1⟩:=I.base.there b o e hx
  exact free b o' (neC b o e hx) e1 (I.base.free b o e n hx)
 ·obtain ⟨o',e1⟩:=I.base.there b o e hx
  exact there b o' (neC b o e hx) e1
 ·obtain ⟨m1,e1⟩:=I.base.tbls b ps e
  obtain ⟨m2,e2⟩:=tbls b _ e1
  exact ⟨m1++m2,by rw [e2,Array.append_assoc]⟩
 ·obtain ⟨m,hn,hl⟩:=I.loc
  refine ⟨m,ns m hn,λi x v e1 e2 e3=>?_⟩
  obtain ⟨u,r,l⟩:=hl i x v e1 e2 e3
  refine ⟨u,r,?_⟩
  rcases l with l | ⟨k,c,e,z⟩
  ·exact .inl l
  ·exact .inr ⟨k,c,e,cellK x c e _ z⟩
 ·obtain ⟨v,z⟩:=I.cell x c e
  exact ⟨v,cellK x c e v z⟩
 ·obtain ⟨m,⟨o,_,_,ho,_⟩,_⟩:=I.loc
  exact free _ o (λz=>(hch _ z).2.1 rfl) ho I.free
 ·obtain ⟨v,o,ho,hd⟩:=I.cell x c e
  exact free c o (λz=>(hch c z).2.2.1 x c e rfl) ho (I.freeC x c e)
 ·obtain ⟨e,n,ne,nf,d⟩:=I.pin p hp
  have nch:p.1 ∉ ch:=λz=>(hch p.1 z).2.2.2 p hp rfl
  exact ⟨keep p.1 p.2 ne nf nch e n,free p.1 p.2 nch e n,ne,nf,d⟩
theorem Inv.un {t':Nat} (I:Inv X pins σ H s) (u:Un X.fs [] H H' s.heap h') (hok:HOk X.prog X.w H' h'):Inv X pins σ H' { s with heap:=h',toks:=t' }:=by
 obtain ⟨m,⟨o,es,ep,ho,r⟩,_⟩:=id I.loc
 obtain ⟨sl,hL⟩:=u.any ho I.free (by simp)
 exact I.step (g':=s.gens) (d':=s.drawn) (ch:=[]) (λ_ z=>nomatch z) (λb o _ hb _ e n=>u.keep b o e n hb (by simp)) (λb o _ hb _ e n=>u.slot b o e n hb (by simp)) (λb o _ e n=>u.free b o e n (by simp)) (λb o _ e=>u.there b o e (by simp)) u.tups u.frzs u.tbls (λm' hm=>by
  obtain ⟨o',es',ep',ho',r'⟩:=hm
  rw [ho] at ho';cases ho'
  exact ⟨_,es',ep',hL,r'⟩) hok I.bare
theorem Inv.call {g':Array GenState} {t':Nat} {d':Drawn} {ch:List Addr} (I:Inv X pins σ H s) (u:Un (frs X.stack) ch H H' s.heap h') (hok:HOk X.prog X.w H' h') (hg:AllBare g')
  (hch:∀ b∈ch,(b∈X.ex∨X.s₀.heap.objs.size≤b)∧b≠X.env.locals∧(∀ x c,X.env.cells.lookup x=some c->c≠b)∧∀ p∈X.pn++pins,p.1≠b) :
  Inv X pins σ H' { s with heap:=h',gens:=g',drawn:=d',toks:=t' }:=by
 obtain ⟨m,⟨o,es,ep,ho,r⟩,_⟩:=id I.loc
 obtain ⟨sl,hL⟩:=u.any ho I.free λz=>(hch _ z).2.1 rfl
 exact I.step (ch:=ch) hch (λb o hL hb hc e n=>u.keep b o e n (λz=>(List.mem_cons.mp (I.stkSub b z)).elim hL hb) hc) (λb o _ _ hc e n=>u.any e n hc) (λb o hc e n=>u.free b o e n hc) (λb o hc e=>u.there b o e hc) u.tups u.frzs u.tbls (λm' hm=>by
  obtain ⟨o',es',ep',ho',r'⟩:=hm
  rw [ho] at ho';cases ho'
  exact ⟨_,es',ep',hL,r'⟩) hok hg
theorem Inv.turned {t':Nat} {it:Addr} (I:Inv X pins σ H s) (k:∀ b o,b≠it->s.heap.get? b=some o->h'.get? b=some o) (hn:H it=none) (hL:it≠X.env.locals)
  (h1:it∈X.ex∨X.s₀.heap.objs.size≤it) (h2:∀ x c,X.env.cells.lookup x=some c->c≠it) (h3:∀ p∈X.pn++pins,p.1≠it):Inv X pins σ H { s with heap:=h',toks:=t' }:=by
 have nit:∀ b u,H b=some u->b≠it:=λb u e z=>by rw [z,hn] at e;cases e
 refine I.step (g':=s.gens) (d':=s.drawn) (ch:=[it]) (λb hb=>?_) (λb o _ _ hc e _=>k b o (λz=>hc (by simp [z])) e) (λb o _ _ hc e _=>⟨o.slots,k b o (λz=>hc (by simp [z])) e⟩) (λ_ _ _ _ n=>n)
  (λb o hc e=>⟨o,k b o (λz=>hc (by simp [z])) e⟩) (λ_ _ e=>e) (λ_ _ _ e=>e) (λb ps e=>⟨#[],by rw [e];simp⟩) (λm hm=>?_) (λb u e=>?_) I.bare
 ·have e:b=it:=by simpa using hb
  subst e
  exact ⟨h1,hL,h2,h3⟩
 ·obtain ⟨o,es,ep,ho,r⟩:=hm
  exact ⟨o,es,ep,k _ o (Ne.symm hL) ho,r⟩
 ·refine (I.hok b u e).stay (λc v hc q=>k c v ?_ q) (λ_ q=>q) λ_ _ q=>q
  rcases hc with z | z
  ·rw [z];exact nit b u e
  ·exact nit c _ z
theorem Inv.tok (I:Inv X pins σ H s) (t:Nat):Inv X pins σ H { s with toks:=t }:=I.un (h':=s.heap) (t':=t) Un.refl I.hok
theorem Inv.kept {t':Nat} (I:Inv X pins σ H s) (k:∀ b u,s.heap.get? b=some u->h'.get? b=some u):Inv X pins σ H { s with heap:=h',toks:=t' }:=I.un (Un.kept k) (I.hok.kept k)
theorem Inv.laid {a:Addr} {o:HO} {t':Nat} (I:Inv X pins σ H s) (k:∀ b u,s.heap.get? b=some u->h'.get? b=some u) (hp:s.heap.objs.size≤a) (new:zcG X.prog X.w (upd H a o) h' a o) :
  Inv X pins σ (upd H a o) { s with heap:=h',toks:=t' }:=I.un (Un.laid k hp (I.hok.fresh hp)) (I.hok.laid k hp new)
theorem Inv.write {x e:Addr} {o:HO} {t':Nat} (I:Inv X pins σ H s) (mu:Mut (H x)) (he:e=x∨H e=some (.own x)) (k:∀ b u,b≠e->s.heap.get? b=some u->h'.get? b=some u) (heo:∃ u,h'.get? e=some u)
  (new:zcG X.prog X.w (upd H x o) h' x o):Inv X pins σ (upd H x o) { s with heap:=h',toks:=t' }:=I.un (Un.write mu he k heo) (I.hok.write mu he k heo new)
theorem Inv.pins_of {pins':List (Addr×Obj)} (I:Inv X pins σ H s) (h:∀ p∈pins',s.heap.get? p.1=some p.2∧H p.1=none∧p.1≠X.env.locals∧p.1 ∉ X.fs∧∀ v,p.2.data≠.cell v):Inv X pins' σ H s :=
 ⟨I.ok,I.os,I.bare,I.base,I.loc,I.cell,I.free,I.freeC,λp hp=>(List.mem_append.mp hp).elim (λz=>I.pin p (List.mem_append_left _ z)) (h p),I.hok,I.len⟩
theorem nodup_ix {N:List Str} (hN:N.Nodup) {i j:Nat} {x:Str} (a:N[i]?=some x) (b:N[j]?=some x):i=j:=by
 obtain ⟨h1,e1⟩:=List.getElem?_eq_some_iff.mp a
 obtain ⟨h2,e2⟩:=List.getElem?_eq_some_iff.mp b
 exact (List.getElem_inj hN).mp (e1.trans e2.symm)
theorem zgq {M:Model} {A:Around} {E:Value->Shared->Prop} {i:Nat} {x:Str} {v:V} {u:Value} {Q:Unit->Shared->Prop} (I:Inv X pins σ H s) (hN:X.N.Nodup) (hi:X.N[i]?=some x) (hx:Loc X.env.scope x) (r:RelV v u)
  (h:∀ s',Inv X pins (σ.set i (some v)) H s'->(∃ a,Heap.SameBut a s.heap s'.heap∧(a=X.env.locals∨X.env.cells.lookup x=some a))->Q () s') (hf:X.fn x=true∨X.env.scope.names.lookup x=some .local:=by first | exact .inl rfl | exact .inr rfl | assumption):wpAny M A (storeName X.env x u) Q E s:=by
 obtain ⟨m,hn,hl⟩:=id I.loc
 have hcls:(X.env.scope.kind == .class||(X.env.scope.kind == .module&&X.env.locals != X.env.globals))=false:=by rw [I.ok.kind];rfl
 have hiσ:i<σ.length:=by rw [I.len];exact (List.getElem?_eq_some_iff.mp hi).1
 have cne:=I.cne
 have tracked:∀ {a:Addr} {h':Heap},(∃ o,s.heap.get? a=some o∧H a=none)->Heap.SameBut a s.heap h'->HOk X.prog X.w H h':=λ{a h'} ha hs b ob e=>by
  obtain ⟨_,_,hfree⟩:=ha
  refine (I.hok b ob e).stay (λc w' hc q=>(hs.2 c ?_).trans q) (λ_ q=>q) λ_ _ q=>q
  rintro rfl
  rcases hc with rfl | hc
  ·rw [hfree] at e;cases e
  ·rw [hfree] at hc;cases hc
 rcases hx with hk | hk
 ·refine wpAny_storeName_local hk hn (λh' hn' hs=>?_) hcls
  obtain ⟨oL,_,_,hoL,_⟩:=id hn
  refine h _ ⟨I.ok,I.os,I.bare,⟨λb o e n hb hx=>?_,λb o e n hb hx=>?_,I.base.free,λb o e hx=>?_,I.base.tups,I.base.frzs,I.base.tbls⟩,⟨_,hn',λj y v' e1 e2 e3=>?_⟩,λy c e=>?_,I.free,I.freeC,λp hp=>?_,tracked ⟨oL,hoL,I.free⟩ hs,by simpa using I.len⟩ ⟨_,hs,.inl rfl⟩
  ·exact (hs.2 b (Nat.ne_of_lt (Nat.lt_of_lt_of_le (Heap.lt_size e) I.ok.above))).trans (I.base.keep b o e n hb hx)
  ·obtain ⟨sl,e1⟩:=I.base.slot b o e n hb hx
   exact ⟨sl,(hs.2 b (Nat.ne_of_lt (Nat.lt_of_lt_of_le (Heap.lt_size e) I.ok.above))).trans e1⟩
  ·obtain ⟨o',e1⟩:=I.base.there b o e hx
   exact ⟨o',(hs.2 b (Nat.ne_of_lt (Nat.lt_of_lt_of_le (Heap.lt_size e) I.ok.above))).trans e1⟩
  ·by_cases hj:j=i
   ·subst hj
    rw [hi] at e1;cases e1
    rw [List.getElem?_set_self hiσ] at e2
    cases e2
    exact ⟨u,r,.inl ⟨hk,by simp⟩⟩
   ·rw [List.getElem?_set_ne (Ne.symm hj)] at e2
    obtain ⟨u',r',q⟩:=hl j y v' e1 e2 e3
    refine ⟨u',r',?_⟩
    rcases q with ⟨k,e⟩ | ⟨k,c,e,z⟩
    ·refine .inl ⟨k,?_⟩
     have:y≠x:=λe=>hj (nodup_ix hN e1 (e ▸ hi))
     simp [this,e]
    ·exact .inr ⟨k,c,e,z.sameBut hs (cne y c e)⟩
  ·obtain ⟨w',z⟩:=I.cell y c e
   exact ⟨w',z.sameBut hs (cne y c e)⟩
  ·obtain ⟨e,n,ne,nf,d⟩:=I.pin p hp
   exact ⟨(hs.2 p.1 ne).trans e,n,ne,nf,d⟩
 ·have hfn:X.fn x=true:=by
   rcases hf with z | z
   ·exact z
   ·rw [z] at hk;cases hk
  obtain ⟨c,hc⟩:=I.ok.has x (.inl hk)
  obtain ⟨w',z⟩:=I.cell x c hc
  refine wpAny_storeName_cell I.ok.kind hk hc z (λh' hc' hs=>?_)
  obtain ⟨oc,hoc,hocd⟩:=id z
  refine h { s with heap:=h' } ⟨I.ok,I.os,I.bare,⟨λb o e n hb hx=>?_,λb o e n hb hx=>?_,I.base.free,λb o e hx=>?_,I.base.tups,I.base.frzs,I.base.tbls⟩,⟨m,hn.sameBut hs (Ne.symm (cne x c hc)),λj y v' e1 e2 e3=>?_⟩,λy c' e=>?_,I.free,I.freeC,λp hp=>?_,tracked ⟨oc,hoc,I.freeC x c hc⟩ hs,by simpa using I.len⟩ ⟨c,hs,.inr hc⟩
  ·exact (hs.2 b (Nat.ne_of_lt (Nat.lt_of_lt_of_le (Heap.lt_size e) (I.ok.cab x c hfn hc)))).trans (I.base.keep b o e n hb hx)
  ·obtain ⟨sl,e1⟩:=I.base.slot b o e n hb hx
   exact ⟨sl,(hs.2 b (Nat.ne_of_lt (Nat.lt_of_lt_of_le (Heap.lt_size e) (I.ok.cab x c hfn hc)))).trans e1⟩
  ·obtain ⟨o',e1⟩:=I.base.there b o e hx
   exact ⟨o',(hs.2 b (Nat.ne_of_lt (Nat.lt_of_lt_of_le (Heap.lt_size e) (I.ok.cab x c hfn hc)))).trans e1⟩
  ·by_cases hj:j=i
   ·subst hj
    rw [hi] at e1;cases e1
    rw [List.getElem?_set_self hiσ] at e2
    cases e2
    exact ⟨u,r,.inr ⟨.inl hk,c,hc,hc'⟩⟩
   ·rw [List.getElem?_set_ne (Ne.symm hj)] at e2
    obtain ⟨u',r',q⟩:=hl j y v' e1 e2 e3
    refine ⟨u',r',?_⟩
    rcases q with q | ⟨k,c',e,z'⟩
    ·exact .inl q
    ·refine .inr ⟨k,c',e,z'.sameBut hs ?_⟩
     rintro rfl
     exact hj (nodup_ix hN e1 (I.ok.inj _ _ _ e hc ▸ hi))
  ·by_cases hcc:c'=c
   ·subst hcc;exact ⟨_,hc'⟩
   ·obtain ⟨w2,z2⟩:=I.cell y c' e
    exact ⟨w2,z2.sameBut hs hcc⟩
  ·obtain ⟨e,n,ne,nf,d⟩:=I.pin p hp
   refine ⟨(hs.2 p.1 ?_).trans e,n,ne,nf,d⟩
   intro q
   rw [q,hoc] at e
   have q':oc=p.2:=Option.some.inj e
   exact d w' (by rw [← q'];exact hocd)
theorem store_ok {M:Model} {A:Around} {E:Value->Shared->Prop} {i:Nat} {x:Str} {v:V} {u:Value} {Q:Unit->Shared->Prop} (I:Inv X pins σ H s) (hN:X.N.Nodup) (hi:X.N[i]?=some x) (hx:Loc X.env.scope x) (r:RelV v u)
  (h:∀ s',Inv X pins (σ.set i (some v)) H s'->Q () s') (hf:X.fn x=true∨X.env.scope.names.lookup x=some .local:=by first | exact .inl rfl | exact .inr rfl | assumption):wpAny M A (storeName X.env x u) Q E s :=
 zgq I hN hi hx r (λs' I' _=>h s' I') hf
theorem Inv.call' {s':Shared} {ch:List Addr} (I:Inv X pins σ H s) (ho:s'.os=s.os) (u:Un (frs X.stack) ch H H' s.heap s'.heap) (hok:HOk X.prog X.w H' s'.heap) (hg:AllBare s'.gens)
  (hch:∀ b∈ch,(b∈X.ex∨X.s₀.heap.objs.size≤b)∧b≠X.env.locals∧(∀ x c,X.env.cells.lookup x=some c->c≠b)∧∀ p∈X.pn++pins,p.1≠b):Inv X pins σ H' s':=by
 obtain ⟨h',g',d',t',o'⟩:=s'
 have e:o'=s.os:=ho
 subst e
 exact I.call (g':=g') (t':=t') (d':=d') u hok hg hch
end
abbrev XK:=Value->Option Addr->Hp->Prop
abbrev St:=List (Option V)
abbrev VK:=V->Hp->Prop
abbrev TE:=St->Hp->VK->Prop
abbrev TT:=St->Hp->(Bool->Hp->Prop)->Prop
abbrev TA:=St->Hp->(List V->Hp->Prop)->Prop
structure Ends where
 nx:St->Hp->Prop
 rt:VK
 bk:St->Hp->Prop:=λ_ _=>False
 ct:St->Hp->Prop:=λ_ _=>False
abbrev TS:=Ends->St->Hp->Prop
def EP (X:Cx) (pins:List (Addr×Obj)) (σ:St) (Q:VK) (u:Value) (s':Shared):Prop:=∃ v H',Inv X pins σ H' s'∧RelV v u∧Q v H'
def TP (X:Cx) (pins:List (Addr×Obj)) (σ:St) (Q:Bool->Hp->Prop) (b:Bool) (s':Shared):Prop:=∃ H',Inv X pins σ H' s'∧Q b H'
def AP (X:Cx) (pins:List (Addr×Obj)) (σ:St) (Q:List V->Hp->Prop) (us:List Value) (s':Shared):Prop:=∃ vs H',Inv X pins σ H' s'∧Vals vs us∧Q vs H'
def SP (X:Cx) (pins:List (Addr×Obj)) (D:Ends) (f:Flow) (s':Shared):Prop :=
 match f with
 | .next=>∃ σ' H',Inv X pins σ' H' s'∧D.nx σ' H'
 | .brk=>∃ σ' H',Inv X pins σ' H' s'∧D.bk σ' H'
 | .cont=>∃ σ' H',Inv X pins σ' H' s'∧D.ct σ' H'
 | .ret u=>∃ v σ' H',Inv X pins σ' H' s'∧RelV v u∧D.rt v H'
def PE (X:Cx) (e:Expr) (t:TE):Prop :=
 ∀ (pins:List (Addr×Obj)) (s:Shared) (σ:St) (H:Hp) (Q:VK),Inv X pins σ H s->t σ H Q->wpAny (model X.prog X.w) X.A (eval e X.env) (EP X pins σ Q) X.xe s
def PT (X:Cx) (e:Expr) (t:TT):Prop :=
 ∀ (pins:List (Addr×Obj)) (s:Shared) (σ:St) (H:Hp) (Q:Bool->Hp->Prop),Inv X pins σ H s->t σ H Q->wpAny (model X.prog X.w) X.A (isTrue e X.env (eval e X.env)) (TP X pins σ Q) X.xe s
def PW (X:Cx) (e:Expr) (t:TT):Prop :=
 ∀ (whole:Sem Value) (pins:List (Addr×Obj)) (s:Shared) (σ:St) (H:Hp) (Q:Bool->Hp->Prop),Inv X pins σ H s->t σ H Q->wpAny (model X.prog X.w) X.A (isTrue e X.env whole) (TP X pins σ Q) X.xe s
theorem PW.pt {X:Cx} {e:Expr} {t:TT} (h:PW X e t):PT X e t:=h _
def PA (X:Cx) (es:List Expr) (t:TA):Prop :=
 ∀ (pos:Pos) (pins:List (Addr×Obj)) (s:Shared) (σ:St) (H:Hp) (Q:List V->Hp->Prop),Inv X pins σ H s->t σ H Q->wpAny (model X.prog X.w) X.A (spliced (backTo pos (starEach es X.env))) (AP X pins σ Q) X.xe s
def PS (X:Cx) (st:Stmt) (t:TS):Prop :=
 ∀ (pins:List (Addr×Obj)) (s:Shared) (σ:St) (H:Hp) (D:Ends),Inv X pins σ H s->t D σ H->wpAny (model X.prog X.w) X.A (exec st X.env) (SP X pins D) X.xe s
def PSs (X:Cx) (st:List Stmt) (t:TS):Prop :=
 ∀ (pins:List (Addr×Obj)) (s:Shared) (σ:St) (H:Hp) (D:Ends),Inv X pins σ H s->t D σ H->wpAny (model X.prog X.w) X.A (execs st X.env) (SP X pins D) X.xe s
theorem thn {α:Type} {t:Sem α} {Q Q':α->Shared->Prop} {M:Model} {A:Around} {E:Value->Shared->Prop} {s:Shared} (h:wpAny M A t Q E s) (hQ:∀ a s,Q a s->Q' a s):wpAny M A t Q' E s:=wpAny_mono h hQ λ_ _ x=>x
end L2
namespace L2
open PySem PySem.Spec PyProof.Rows
section
variable {X:Cx}
theorem bin {a b:Expr} {ta tb:TE} (ha:PE X a ta) (hb:PE X b tb) {pins:List (Addr×Obj)} {s:Shared} {σ:St} {H:Hp} {R:V->V->Hp->Prop} (I:Inv X pins σ H s) (h:ta σ H λx H1=>tb σ H1 λy H2=>R x y H2)
  {α:Type} {Q:α->Shared->Prop} {f:Value->Value->Sem α}
  (hf:∀ v u s2 x y H2,Inv X pins σ H2 s2->RelV x v->RelV y u->R x y H2->wpAny (model X.prog X.w) X.A (f v u) Q X.xe s2) :
  wpAny (model X.prog X.w) X.A (eval a X.env) (λv s₁=>wpAny (model X.prog X.w) X.A (eval b X.env) (λu s₂=>wpAny (model X.prog X.w) X.A (f v u) Q X.xe s₂) X.xe s₁) X.xe s:=by
 refine thn (ha pins s σ H _ I h) λv s1 ⟨x,H1,I1,r1,q1⟩=>?_
 refine thn (hb pins s1 σ H1 _ I1 q1) λu s2 ⟨y,H2,I2,r2,q2⟩=>?_
 exact hf v u s2 x y H2 I2 r1 r2 q2
def tVar (i:Nat):TE:=λσ H Q=>∃ v,σ[i]?=some (some v)∧Q v H
def tC (v:V):TE:=λ_ H Q=>Q v H
theorem znW {i:Nat} {x:Str} {pos:Pos} (hN:X.N[i]?=some x) (hv:Vis X.env.scope x) (hd:(x == ("__debug__":Str))=false:=by decide) (hcd:(x == ("__classdict__":Str))=false:=by decide):PE X (.Name x pos) (tVar i):=by
 intro pins s σ H Q I h
 obtain ⟨v,e,h⟩:=h
 obtain ⟨m,hn,hl⟩:=I.loc
 obtain ⟨u,r,l⟩:=hl i x v hN e hv
 have fin:EP X pins σ Q u s:=⟨v,H,I,r,h⟩
 rcases l with ⟨hk,hm⟩ | ⟨hk,c,hc,hcell⟩
 ·exact wpAny_Name (wpAny_loadName_local I.ok.kind hk hn hm fin) hd
 ·rcases hk with hk | hk
  ·exact wpAny_Name (wpAny_loadName_cell I.ok.kind hk hc hcell fin) hd
  ·exact wpAny_Name (wpAny_loadName_free I.ok.kind hk hc hcell fin hcd) hd
theorem zag {i j pos}:PE X (.Constant (.int i) j pos) (tC (.int i)):=λ_ _ _ H _ I h=>wpAny_Constant_int ⟨.int i,H,I.tok _,⟨_,rfl⟩,h⟩
theorem zc8 {b j pos}:PE X (.Constant (.bool b) j pos) (tC (.bl b)):=λ_ _ _ H _ I h=>Constant_bool ⟨.bl b,H,I,rfl,h⟩
def Gl (X:Cx) (x:Str):Prop:=X.env.kindOf x=some .globalImplicit
theorem ld_glob {E:Value->Shared->Prop} {pins:List (Addr×Obj)} {s:Shared} {σ:St} {H:Hp} {x:Str} {u:Value} {pos:Pos} {Q:Value->Shared->Prop} (I:Inv X pins σ H s) (hg:Gl X x) (hm:X.mg x=some u) (h:Q u s)
  (hd:(x == ("__debug__":Str))=false:=by decide):wpAny (model X.prog X.w) X.A (eval (.Name x pos) X.env) Q E s :=
 Calls.Name_function_global I.ok.kind hg (Calls.loadGlobal_global (by rw [I.ok.glob];exact I.mod.glob.keeps I.bk) hm h) hd
theorem ld_blt {E:Value->Shared->Prop} {pins:List (Addr×Obj)} {s:Shared} {σ:St} {H:Hp} {x:Str} {u:Value} {pos:Pos} {Q:Value->Shared->Prop} (I:Inv X pins σ H s) (hg:Gl X x) (hm:X.mg x=none) (hv:bootBuiltins x=some u) (h:Q u s)
  (hn:x≠"__name__":=by decide) (hd:(x == ("__debug__":Str))=false:=by decide):wpAny (model X.prog X.w) X.A (eval (.Name x pos) X.env) Q E s:=by
 obtain ⟨mb,h1,h2⟩:=I.mod.blt
 exact Calls.Name_function_global I.ok.kind hg (Calls.loadGlobal_builtin (by rw [I.ok.glob];exact I.mod.glob.keeps I.bk) hm (by rw [I.ok.blt];exact h1.keeps I.bk) ((h2 x hn).trans hv) h) hd
theorem zjK {x:Str} {v:V} {u:Value} {pos:Pos} (hg:Gl X x) (hm:X.mg x=some u) (r:RelV v u) (hd:(x == ("__debug__":Str))=false:=by decide):PE X (.Name x pos) (tC v) :=
 λ_ _ _ H _ I h=>ld_glob I hg hm ⟨v,H,I,r,h⟩ hd
theorem pe_bltn {x:Str} {v:V} {u:Value} {pos:Pos} (hg:Gl X x) (hm:X.mg x=none) (hv:bootBuiltins x=some u) (r:RelV v u) (hn:x≠"__name__":=by decide) (hd:(x == ("__debug__":Str))=false:=by decide):PE X (.Name x pos) (tC v) :=
 λ_ _ _ H _ I h=>ld_blt I hg hm hv ⟨v,H,I,r,h⟩ hn hd
variable {a b:Expr} {ta tb:TE} {pos:Pos}
def PC (X:Cx) (op:CmpOp) (a b:Expr) (t:TE):Prop :=
 ∀ (pins:List (Addr×Obj)) (s:Shared) (σ:St) (H:Hp) (Q:VK),Inv X pins σ H s->t σ H Q →
  wpAny (model X.prog X.w) X.A (eval a X.env) (λv s₁=>wpAny (model X.prog X.w) X.A (eval b X.env) (λu s₂=>wpAny (model X.prog X.w) X.A (compareOp op v u) (EP X pins σ Q) X.xe s₂) X.xe s₁) X.xe s
theorem zki (b:Expr) {op:CmpOp} (h:op≠.In) (h2:op≠.NotIn):behindInMarks op b=false:=by
 have e1:(op == CmpOp.In)=false:=by cases op<;>first | rfl | exact absurd rfl h
 have e2:(op == CmpOp.NotIn)=false:=by cases op<;>first | rfl | exact absurd rfl h2
 cases b<;>simp [behindInMarks,e1,e2]
def tB (t:TE):TT:=λσ H Q=>t σ H λx H1=>∃ c,x=.bl c∧Q c H1
theorem zpi {op:CmpOp} {t:TE} (h:PC X op a b t) (h1:behindInMarks op b=false:=by first | exact zki _ (by decide) (by decide) | rfl):PT X (.Compare a [op] [b] pos) (tB t):=by
 intro pins s σ H Q I hw
 refine wpAny_isTrue_Compare1 (thn (h pins s σ H _ I hw) λv s1 h1=>thn h1 λu s2 h2=>thn h2 λc s3 ⟨x,H1,I1,r1,q1⟩=>?_) h1
 obtain ⟨d,rfl,q⟩:=q1
 cases r1
 exact wpAny_truthy_bool ⟨H1,I1,q⟩
theorem pt_val {e:Expr} {t:TE} (h:PE X e t) (he:∀ whole,isTrue e X.env whole=(do let v ← whole;standAt e.pos;holding [v] (truthy v)):=by intro _;rfl):PT X e (tB t):=by
 intro pins s σ H Q I hw
 refine isTrue_plain (thn (h pins s σ H _ I hw) λv s1 ⟨x,H1,I1,r1,q1⟩=>?_) (he _)
 obtain ⟨d,rfl,q⟩:=q1
 cases r1
 exact wpAny_truthy_bool ⟨H1,I1,q⟩
variable {tA tB':TT} {rest:List Expr}
def zpe (t u:TT):TT:=λσ H Q=>t σ H λc H1=>if c=true then u σ H1 Q else Q false H1
def tOr (t u:TT):TT:=λσ H Q=>t σ H λc H1=>if c=true then Q true H1 else u σ H1 Q
def zo3 (t:TT):TT:=λσ H Q=>t σ H λc H1=>Q (!c) H1
theorem zeN (ha:PT X a tA):PW X (.BoolOp .And [a] pos) tA:=by
 intro wh pins s σ H Q I h
 refine isTrue_and (thn (ha pins s σ H Q I h) λc s1 e=>?_)
 cases c with
 | true=>exact isTrue_and_nil e
 | false=>exact e
theorem pw_or1 (ha:PT X a tA):PW X (.BoolOp .Or [a] pos) tA:=by
 intro wh pins s σ H Q I h
 refine isTrue_or (thn (ha pins s σ H Q I h) λc s1 e=>?_)
 cases c with
 | false=>exact isTrue_or_nil e
 | true=>exact e
theorem zgJ (ha:PT X a tA) (hb:PW X (.BoolOp .And (b :: rest) pos) tB'):PW X (.BoolOp .And (a :: b :: rest) pos) (zpe tA tB'):=by
 intro wh pins s σ H Q I h
 refine isTrue_and (thn (ha pins s σ H _ I h) λc s1 ⟨H1,I1,q1⟩=>?_)
 cases c with
 | true=>exact hb wh pins s1 σ H1 Q I1 q1
 | false=>exact ⟨H1,I1,q1⟩
theorem zf6 (ha:PT X a tA) (hb:PW X (.BoolOp .Or (b :: rest) pos) tB'):PW X (.BoolOp .Or (a :: b :: rest) pos) (tOr tA tB'):=by
 intro wh pins s σ H Q I h
 refine isTrue_or (thn (ha pins s σ H _ I h) λc s1 ⟨H1,I1,q1⟩=>?_)
 cases c with
 | true=>exact ⟨H1,I1,q1⟩
 | false=>exact hb wh pins s1 σ H1 Q I1 q1
theorem zdH (ha:PT X a tA):PT X (.UnaryOp .Not a pos) (zo3 tA):=by
 intro pins s σ H Q I h
 exact isTrue_not (ha pins s σ H (λc H1=>Q (!c) H1) I h)
def tIf (t:TT) (ta tb:TE):TE:=λσ H Q=>t σ H λc H1=>if c=true then ta σ H1 Q else tb σ H1 Q
theorem zkp {c:Expr} (hc:PT X c tA) (ha:PE X a ta) (hb:PE X b tb):PE X (.IfExp c a b pos) (tIf tA ta tb):=by
 intro pins s σ H Q I h
 refine wpAny_IfExp (thn (hc pins s σ H _ I h) λd s1 ⟨H1,I1,q1⟩=>?_)
 cases d with
 | true=>exact ha pins s1 σ H1 Q I1 q1
 | false=>exact hb pins s1 σ H1 Q I1 q1
end
end L2
namespace L2
open PySem PySem.Spec PyProof.Rows
def SqL (K:W.Frag) (H:Hp) (a:Addr) (xs:List V):Prop :=
 Rd H a (.lst xs) ∨
  ∃ (o:Obj) (its:Array Value) (n:Nat),K.lookup a=some o∧o.cls=.type "list"∧o.dict=none∧o.data=.seq its n∧its.size≤sizeLine∧Vals xs its.toList
def SqT (K:W.Frag) (H:Hp) (a:Addr) (xs:List V):Prop :=
 Rd H a (.tup xs) ∨
  ∃ (o:Obj) (its:Array Value) (n:Nat),K.lookup a=some o∧o.cls=.type "tuple"∧o.data=.seq its n∧its.size≤sizeLine∧Vals xs its.toList
def zpu:Value->Option V
 | .none=>some .non
 | .bool b=>some (.bl b)
 | .int i _=>some (.int i)
 | .str x _=>some (.str x)
 | .bytes b _=>some (.byt b)
 | .float b _=>some (.flt b)
 | .ref a=>some (.ref a)
 | .type n=>some (.ty n)
 | _=>none
theorem RelV.abs {x:V} {u:Value} (r:RelV x u):zpu u=some x:=by
 cases x with
 | non=>cases r;rfl
 | bl _=>cases r;rfl
 | int _=>obtain ⟨t,rfl⟩:=r;rfl
 | str _=>obtain ⟨t,rfl⟩:=r;rfl
 | byt _=>obtain ⟨t,rfl⟩:=r;rfl
 | flt _=>obtain ⟨t,rfl⟩:=r;rfl
 | ref _=>cases r;rfl
 | ty _=>cases r;rfl
theorem RelV.inj {x y:V} {u:Value} (r:RelV x u) (q:RelV y u):x=y:=Option.some.inj (r.abs.symm.trans q.abs)
theorem Vals.inj:∀ {xs ys:List V} {us:List Value},Vals xs us->Vals ys us->xs=ys
 | _,_,_,.nil,.nil=>rfl
 | _,_,_,.cons r t,.cons r' t'=>by rw [r.inj r',Vals.inj t t']
section
variable {X:Cx} {pins:List (Addr×Obj)} {σ:St} {H:Hp} {s:Shared} {a:Addr} {xs ys:List V}
theorem SqL.of {K:W.Frag} (h:H a=some (.lst xs)):SqL K H a xs:=.inl (.inl h)
theorem Inv.list (I:Inv X pins σ H s) (h:SqL X.K H a xs):∃ its:List Value,Vals xs its∧PlainL s.heap a its.toArray∧xs.length≤sizeLine:=by
 rcases h with h | ⟨o,its,n,hk,hc,hd,hs,hz,r⟩
 ·obtain ⟨z,its,n,r,e⟩:=h.ok I.hok
  exact ⟨its,r,⟨_,n,e,rfl,rfl,rfl⟩,z⟩
 ·refine ⟨its.toList,r,⟨o,n,I.kIn a o hk,hc,hd,by simpa using hs⟩,?_⟩
  have e:=r.length
  simp only [Array.length_toList] at e
  omega
theorem Inv.tuple (I:Inv X pins σ H s) (h:SqT X.K H a xs):∃ its:List Value,Vals xs its∧IsTup s.heap a its.toArray∧xs.length≤sizeLine:=by
 rcases h with h | ⟨o,its,n,hk,hc,hs,hz,r⟩
 ·obtain ⟨z,its,r,p⟩:=h.ok I.hok
  exact ⟨its,r,p,z⟩
 ·refine ⟨its.toList,r,⟨o,I.kIn a o hk,hc,n,by simpa using hs⟩,?_⟩
  have e:=r.length
  simp only [Array.length_toList] at e
  omega
theorem Inv.list_inj (I:Inv X pins σ H s) (h:SqL X.K H a xs) (h':SqL X.K H a ys):xs=ys:=by
 obtain ⟨its,r,⟨o,n,e,_,_,d⟩,_⟩:=I.list h
 obtain ⟨its',r',⟨o',n',e',_,_,d'⟩,_⟩:=I.list h'
 rw [e] at e';cases e'
 rw [d] at d'
 injection d' with d1 _
 have:its=its':=by simpa using congrArg Array.toList d1
 subst this
 exact r.inj r'
end
abbrev Cx.wish (X:Cx) (E:Value->Shared->Prop):Cx:={ X with xe:=E }
abbrev Cx.nox (X:Cx):Cx:=X.wish λ_ _=>False
theorem Cx.Ok.wish {X:Cx} (ok:X.Ok) (E:Value->Shared->Prop):(X.wish E).Ok :=
 ⟨ok.mod,ok.kind,ok.glob,ok.blt,ok.above,ok.inj,ok.has,ok.cab,ok.hd,ok.frames,ok.stk,ok.exf,ok.bs,ok.bsz,ok.noex,ok.exfs,ok.funs,ok.frf⟩
theorem Cx.Ok.unwish {X:Cx} {E:Value->Shared->Prop} (ok:(X.wish E).Ok):X.Ok :=
 ⟨ok.mod,ok.kind,ok.glob,ok.blt,ok.above,ok.inj,ok.has,ok.cab,ok.hd,ok.frames,ok.stk,ok.exf,ok.bs,ok.bsz,ok.noex,ok.exfs,ok.funs,ok.frf⟩
section
variable {X:Cx} {pins:List (Addr×Obj)} {σ:St} {H:Hp} {s:Shared} {E:Value->Shared->Prop}
theorem Inv.wish (I:Inv X pins σ H s) (E:Value->Shared->Prop):Inv (X.wish E) pins σ H s:=⟨I.ok.wish E,I.os,I.bare,I.base,I.loc,I.cell,I.free,I.freeC,I.pin,I.hok,I.len⟩
theorem Inv.unwish (I:Inv (X.wish E) pins σ H s):Inv X pins σ H s:=⟨I.ok.unwish,I.os,I.bare,I.base,I.loc,I.cell,I.free,I.freeC,I.pin,I.hok,I.len⟩
theorem SP.unwish {D:Ends} {f:Flow} {s':Shared} (h:SP (X.wish E) pins D f s'):SP X pins D f s':=by
 cases f with
 | next=>obtain ⟨σ',H',I,q⟩:=h;exact ⟨σ',H',I.unwish,q⟩
 | brk=>obtain ⟨σ',H',I,q⟩:=h;exact ⟨σ',H',I.unwish,q⟩
 | cont=>obtain ⟨σ',H',I,q⟩:=h;exact ⟨σ',H',I.unwish,q⟩
 | ret u=>obtain ⟨v,σ',H',I,r,q⟩:=h;exact ⟨v,σ',H',I.unwish,r,q⟩
end
section
variable {X:Cx} {st:Stmt} {rest:List Stmt} {t u:TS} {e:Expr} {te:TE} {pos:Pos}
def zkO:TS:=λD σ H=>D.nx σ H
def tSeq (t u:TS):TS:=λD σ H=>t { D with nx:=u D } σ H
theorem zad:PSs X [] zkO:=λ_ _ σ H _ I h=>wpAny_execs_nil ⟨σ,H,I,h⟩
theorem zab (h1:PS X st t) (h2:PSs X rest u):PSs X (st :: rest) (tSeq t u):=by
 intro pins s σ H D I h
 refine wpAny_execs_cons (thn (h1 pins s σ H { D with nx:=u D } I h) λf s1 q=>?_)
 cases f with
 | next =>
  obtain ⟨σ',H',I',q⟩:=q
  exact h2 pins s1 σ' H' D I' q
 | ret v=>exact q
 | brk=>exact q
 | cont=>exact q
theorem Inv.quiet {pins:List (Addr×Obj)} {σ:St} {H:Hp} {s:Shared} (I:Inv X pins σ H s):interactive X.env=false:=by simp [interactive,I.ok.kind]
def tDrop (te:TE):TS:=λD σ H=>te σ H λ_ H1=>D.nx σ H1
theorem zcT (he:PE X e te) (hs:swapsWith e none pos.line X.env=pure false:=by rfl):PS X (.Expr e pos) (tDrop te):=by
 intro pins s σ H D I h
 exact wpAny_Expr_any (thn (he pins s σ H _ I h) λv s1 ⟨x,H1,I1,r1,q1⟩=>⟨σ,H1,I1,q1⟩) I.quiet hs
def zkb (te:TE):TS:=λD σ H=>te σ H D.rt
theorem zaw (he:PE X e te):PS X (.Return (some e) pos) (zkb te):=by
 intro pins s σ H D I h
 exact wpAny_Return_some (thn (he pins s σ H _ I h) λv s1 ⟨x,H1,I1,r1,q1⟩=>⟨x,σ,H1,I1,r1,q1⟩)
def zog (c:TT) (t u:TS):TS:=λD σ H=>c σ H λb H1=>if b=true then t D σ H1 else u D σ H1
theorem zbd {c:Expr} {a b:List Stmt} {tc:TT} (hc:PT X c tc) (ha:PSs X a t) (hb:PSs X b u):PS X (.If c a b pos) (zog tc t u):=by
 intro pins s σ H D I h
 refine wpAny_If (thn (hc pins s σ H _ I h) λd s1 ⟨H1,I1,q1⟩=>?_)
 cases d with
 | true=>exact ha pins s1 σ H1 D I1 q1
 | false=>exact hb pins s1 σ H1 D I1 q1
def zni:TS:=λ_ _ _=>False
theorem zeb:PS X st zni:=λ_ _ _ _ _ _ h=>h.elim
end
abbrev TG:=V->St->Hp->(St->Hp->Prop)->Prop
abbrev TGs:=List V->St->Hp->(St->Hp->Prop)->Prop
def PG (X:Cx) (target:Expr) (t:TG):Prop :=
 ∀ (pins:List (Addr×Obj)) (s:Shared) (σ:St) (H:Hp) (v:V) (u:Value) (Q:St->Hp->Prop),Inv X pins σ H s->RelV v u->t v σ H Q →
  wpAny (model X.prog X.w) X.A (assign target X.env u) (λ_ s'=>∃ σ' H',Inv X pins σ' H' s'∧Q σ' H') X.xe s
def PGs (X:Cx) (ts:List Expr) (t:TGs):Prop :=
 ∀ (pins:List (Addr×Obj)) (s:Shared) (σ:St) (H:Hp) (vs:List V) (us:List Value) (Q:St->Hp->Prop),Inv X pins σ H s->Vals vs us->t vs σ H Q →
  wpAny (model X.prog X.w) X.A (assignInOrder ((assignEach ts X.env).map (·.2)) us) (λ_ s'=>∃ σ' H',Inv X pins σ' H' s'∧Q σ' H') X.xe s
abbrev zoJ:=V->V->V->Hp->(Hp->Prop)->Prop
def zpr (X:Cx) (t:zoJ):Prop :=
 ∀ (pins:List (Addr×Obj)) (s:Shared) (σ:St) (H:Hp) (o i v:V) (ov iv u:Value) (Q:Hp->Prop),Inv X pins σ H s->RelV o ov->RelV i iv->RelV v u->t o i v H Q →
  wpAny (model X.prog X.w) X.A (setItem ov iv u) (λ_ s'=>∃ H',Inv X pins σ H' s'∧Q H') X.xe s
section
variable {X:Cx} {pos:Pos}
def zcb (i:Nat):TG:=λv σ H Q=>Q (σ.set i (some v)) H
theorem pg_name {i:Nat} {x:Str} (hN:X.N.Nodup) (hi:X.N[i]?=some x) (hx:Loc X.env.scope x) (hf:X.fn x=true∨X.env.scope.names.lookup x=some .local:=by first | exact .inl rfl | exact .inr rfl | assumption):PG X (.Name x pos) (zcb i):=by
 intro pins s σ H v u Q I r h
 exact wpAny_assign_Name (store_ok I hN hi hx r (λs' I'=>⟨_,H,I',h⟩) hf)
def znI:TGs:=λvs σ H Q=>vs=[]∧Q σ H
def zd9 (t:TG) (u:TGs):TGs:=λvs σ H Q=>∃ v r,vs=v :: r∧t v σ H λσ' H'=>u r σ' H' Q
theorem zb1:PGs X [] znI:=by
 intro pins s σ H vs us Q I r h
 obtain ⟨e,h⟩:=h
 subst e
 cases r
 exact assignInOrder_nil ⟨σ,H,I,h⟩
theorem zav {e:Expr} {es:List Expr} {t:TG} {u:TGs} (h1:PG X e t) (h2:PGs X es u)
  (hs:(assignEach (e :: es) X.env).map (·.2)=assign e X.env :: (assignEach es X.env).map (·.2):=by rfl):PGs X (e :: es) (zd9 t u):=by
 intro pins s σ H vs us Q I r h
 obtain ⟨v,vr,e1,h⟩:=h
 subst e1
 cases r with
 | cons r rr =>
  rw [hs]
  refine assignInOrder_cons (thn (h1 pins s σ H _ _ _ I r h) λ_ s1 ⟨σ1,H1,I1,q1⟩=>?_)
  exact h2 pins s1 σ1 H1 _ _ Q I1 rr q1
def zmC (K:W.Frag) (n:Nat) (t:TGs):TG:=λv σ H Q=>∃ a xs,v=.ref a∧SqT K H a xs∧xs.length=n∧t xs σ H Q
theorem zn4 {es:List Expr} {k:Nat} {t:TGs} {n:Nat} (hc:X.calm=true) (h:PGs X es t)
  (hn:(assignEach es X.env).length=n:=by rfl) (hst:(assignEach es X.env).findIdx? (·.1)=none:=by rfl):PG X (.Tuple es k pos) (zmC X.K n t):=by
 intro pins s σ H v u Q I r hw
 obtain ⟨a,xs,e1,hq,hl,hw⟩:=hw
 subst e1
 cases r
 obtain ⟨its,rv,ht,hz⟩:=I.tuple hq
 refine assign_Tuple_tuple (I.ok.hd hc) ht (by simp [hn,← hl,rv.length]) hst λh' hx=>?_
 have I1:Inv X pins σ H { s with heap:=h' }:=I.kept (t':=s.toks) λb o e=>hx b o (Nat.ne_of_lt (Heap.lt_size e)) e
 exact h pins _ σ H xs _ Q I1 (by simpa using rv) hw
def zof (to ti:TE) (t:zoJ):TG:=λv σ H Q=>to σ H λo H1=>ti σ H1 λi H2=>t o i v H2 λH3=>Q σ H3
theorem zht {o i:Expr} {to ti:TE} {t:zoJ} (ho:PE X o to) (hi:PE X i ti) (hs:zpr X t)
  (ha:∀ v,assign (.Subscript o i pos) X.env v=(do
   let ov ← holding [v] (eval o X.env)
   let iv ← holding [v,ov] (eval i X.env)
   standAt pos
   holding [v,ov,iv] (setItem ov iv v)
   release [v,ov,iv] []):=by intro _;rfl):PG X (.Subscript o i pos) (zof to ti t):=by
 intro pins s σ H v u Q I r h
 rw [ha]
 refine wpAny_bind (wpAny_holding (thn (ho pins s σ H _ I h) λov s1 ⟨x,H1,I1,r1,q1⟩=>?_))
 refine wpAny_bind (wpAny_holding (thn (hi pins s1 σ H1 _ I1 q1) λiv s2 ⟨y,H2,I2,r2,q2⟩=>?_))
 refine wpAny_bind (wpAny_standAt (wpAny_bind (wpAny_holding (thn (hs pins s2 σ H2 x y v ov iv u _ I2 r1 r2 r q2) λ_ s3 ⟨H3,I3,q3⟩=>?_))))
 exact wpAny_release ⟨σ,H3,I3,q3⟩
def zih (te:TE) (g:TG):TS:=λD σ H=>te σ H λx H1=>g x σ H1 D.nx
theorem zgp {tg e:Expr} {te:TE} {g:TG} (he:PE X e te) (hg:PG X tg g) (hs:swapsWithSole [tg] e pos.line X.env=pure false:=by rfl) (hw:swappedStores [tg] e X.env=pure none:=by rfl)
  (h1:(assignEach [tg] X.env).map (·.2)=[assign tg X.env]:=by rfl):PS X (.Assign [tg] e pos) (zih te g):=by
 intro pins s σ H D I h
 refine wpAny_Assign_stores (thn (he pins s σ H _ I h) λv s1 ⟨x,H1,I1,r1,q1⟩=>?_) hs hw
 rw [h1]
 exact thn (hg pins s1 σ H1 x v _ I1 r1 q1) λ_ s2 q=>q
theorem zam {i:Nat} {x:Str} {e:Expr} {te:TE} {pos':Pos} (hN:X.N.Nodup) (hi:X.N[i]?=some x) (hx:Loc X.env.scope x) (he:PE X e te) (hs:swapsWith e (some (.Name x pos')) pos.line X.env=pure false:=by rfl) (hf:X.fn x=true∨X.env.scope.names.lookup x=some .local:=by first | exact .inl rfl | exact .inr rfl | assumption) :
  PS X (.Assign [.Name x pos'] e pos) (zih te (zcb i)):=by
 intro pins s σ H D I h
 refine wpAny_Assign_Name (thn (he pins s σ H _ I h) λv s1 ⟨y,H1,I1,r1,q1⟩=>?_) hs
 exact store_ok I1 hN hi hx r1 (λs2 I2=>⟨_,H1,I2,q1⟩) hf
def zpp (i j:Nat) (ta:TA):TS:=λD σ H=>ta σ H λvs H1=>∃ v w,vs=[v,w]∧D.nx ((σ.set i (some v)).set j (some w)) H1
theorem ps_par {i j:Nat} {x y:Str} {a b:Expr} {ta:TA} {px py pt:Pos} {kt k2 pt2} (hc:X.calm=true) (hN:X.N.Nodup) (hi:X.N[i]?=some x) (hj:X.N[j]?=some y) (hij:i≠j)
  (hx:X.env.scope.names.lookup x=some .local) (hy:X.env.scope.names.lookup y=some .local) (ha:PA X [a,b] ta)
  (hw:swappedStores [.Tuple [.Name x px,.Name y py] kt pt] (.Tuple [a,b] k2 pt2) X.env=pure (some [x,y]))
  (hs:swapsWithSole [.Tuple [.Name x px,.Name y py] kt pt] (.Tuple [a,b] k2 pt2) pos.line X.env=pure false:=by rfl) :
  PS X (.Assign [.Tuple [.Name x px,.Name y py] kt pt] (.Tuple [a,b] k2 pt2) pos) (zpp i j ta):=by
 intro pins s σ H D I h
 rw [exec_Assign_arm]
 refine wpAny_bind (wpAny_standAt ?_)
 rw [hs]
 refine wpAny_bind (wpAny_pure ?_)
 rw [if_neg (by decide)]
 refine wpAny_bind (Tuple_ (thn (ha _ pins s σ H _ I h) λus s1 ⟨vs,H1,I1,r1,q1⟩=>?_))
 obtain ⟨v,w,e1,q1⟩:=q1
 subst e1
 obtain ⟨u1,u2,rfl,rv,rw'⟩:∃ u1 u2,us=[u1,u2]∧RelV v u1∧RelV w u2:=by
  cases r1 with
  | cons p q =>
   cases q with
   | cons p' q' =>
    cases q'
    exact ⟨_,_,rfl,p,p'⟩
 refine wpAny_newObj_type ?_ (by show 2≤sizeLine;decide)
 have I2:Inv X pins σ H1 { s1 with heap:=s1.heap.push { cls:=.type "tuple",data:=.seq [u1,u2].toArray } }:=I1.kept (t':=s1.toks) λb o e=>Heap.get?_push_of_some _ e
 rw [hw]
 refine wpAny_bind (wpAny_pure ?_)
 show wpAny (model X.prog X.w) X.A (do rule "assign.swapped-stores";let items ← unpackItems (.ref s1.heap.objs.size) 2 none;assignInOrder [λv=>bindName X.env y v,λv=>bindName X.env x v] items.reverse;pure Flow.next) _ _ _
 refine wpAny_bind (wpAny_rule (wpAny_bind (unpackItems_tuple (items:=#[u1,u2]) (I.ok.hd hc) (IsTup.new s1.heap _) λh' hx'=>?_)))
 have I3:=I2.kept (h':=h') (t':=s1.toks) λb o e=>hx' b o (Nat.ne_of_lt (Heap.lt_size e)) e
 show wpAny _ _ (assignInOrder [λv=>bindName X.env y v,λv=>bindName X.env x v] [u2,u1] >>= λ_=>pure Flow.next) _ _ _
 refine wpAny_bind (assignInOrder_cons (wpAny_bindName (store_ok I3 hN hj (.inl hy) rw' (λs2 I4=>?_) (.inr hy))))
 refine assignInOrder_cons (wpAny_bindName (store_ok I4 hN hi (.inl hx) rv (λs3 I5=>assignInOrder_nil (wpAny_pure ?_)) (.inr hx)))
 rw [List.set_comm _ _ (Ne.symm hij)] at I5
 exact ⟨_,H1,I5,q1⟩
end
section
variable {X:Cx} {pos:Pos}
def zlp (c:TT) (tb:TS):TS:=λD σ H=>∃ W:Nat->St->Hp->Prop,(∃ m,W m σ H)∧∀ m σ H,W m σ H →
 c σ H λb H1=>if b=true then ∃ N:St->Hp->Prop,(∀ σ' H',N σ' H'->∃ m',m'<m∧W m' σ' H')∧tb { D with nx:=N,ct:=N,bk:=D.nx } σ H1 else D.nx σ H1
theorem zhX {c:Expr} {body:List Stmt} {tc:TT} {tb:TS} (hp:PassesOwn (model X.prog X.w) X.A X.env X.xe) (hc:PT X c tc) (hb:PSs X body tb):PS X (.While c body [] pos) (zlp tc tb):=by
 intro pins s σ H D I h
 obtain ⟨W,⟨m0,w0⟩,turn⟩:=h
 refine wpAny_While (codeAny_whileLoop (λn s'=>∃ σ' H',Inv X pins σ' H' s'∧W n σ' H') ?_ m0 ⟨σ,H,I,w0⟩)
 rintro n s1 ⟨σ1,H1,I1,w1⟩
 refine wpAny_passesOwn hp (thn (hc pins s1 σ1 H1 _ I1 (turn n σ1 H1 w1)) λb s2 ⟨H2,I2,q2⟩=>?_)
 cases b with
 | true =>
  obtain ⟨N,hN,q2⟩:=q2
  rw [if_pos rfl]
  refine wpAny_passesOwn hp (thn (hb pins s2 σ1 H2 _ I2 q2) λf s3 q3=>?_)
  cases f with
  | next =>
   obtain ⟨σ3,H3,I3,n3⟩:=q3
   obtain ⟨m',hm,w3⟩:=hN σ3 H3 n3
   exact ⟨m',hm,σ3,H3,I3,w3⟩
  | cont =>
   obtain ⟨σ3,H3,I3,n3⟩:=q3
   obtain ⟨m',hm,w3⟩:=hN σ3 H3 n3
   exact ⟨m',hm,σ3,H3,I3,w3⟩
  | brk=>exact q3
  | ret v=>exact q3
 | false =>
  rw [if_neg Bool.false_ne_true]
  exact wpAny_execs_nil ⟨σ1,H2,I2,q2⟩
end
structure It where
 go:Nat->Hp->Prop
 yld:Nat->Hp->V->Hp->Prop
 stop:Nat->Hp->Prop
def FpOk (X:Cx) (pins:List (Addr×Obj)) (H:Hp) (b:Addr):Prop :=
 H b=none∧b≠X.env.locals∧b ∉ X.fs∧(b∈X.ex∨X.s₀.heap.objs.size≤b)∧(∀ x c,X.env.cells.lookup x=some c->c≠b)∧∀ p∈X.pn++pins,p.1≠b
theorem Inv.fpOk {X:Cx} {pins:List (Addr×Obj)} {σ:St} {H H':Hp} {s:Shared} {b:Addr} (I:Inv X pins σ H s) (hb:s.heap.objs.size≤b) (hn:H' b=none):FpOk X pins H' b:=by
 refine ⟨hn,Nat.ne_of_gt (Nat.lt_of_lt_of_le I.lt hb),I.nofs hb,.inr (Nat.le_trans I.sz hb),λx c e z=>?_,λp hp z=>?_⟩
 ·obtain ⟨v,q⟩:=I.cell x c e
  exact absurd (Nat.lt_of_lt_of_le q.lt (by rw [z];exact hb)) (Nat.lt_irrefl _)
 ·exact absurd (Nat.lt_of_lt_of_le (Heap.lt_size (I.pin p hp).1) (by rw [z];exact hb)) (Nat.lt_irrefl _)
structure Turn (P:Program) (w:World) (K:W.Frag) (tg:Expr) (J:It) (fp:List Addr) (it:Addr) (tn:Nat->Heap->Prop):Prop where
 mem:it∈fp
 obj:∀ i h,tn i h->∀ b∈fp,∃ o,h.get? b=some o∧∀ v,o.data≠.cell v
 keep:∀ i h h',tn i h->(∀ b∈fp,∀ o,h.get? b=some o->h'.get? b=some o)->tn i h'
 item:∀ (X:Cx),X.prog=P->X.w=w->X.K=K->X.calm=true->∀ (i:Nat) (pins:List (Addr×Obj)) (s:Shared) (σ:St) (H:Hp) (E:Value->Shared->Prop),Inv X pins σ H s->(∀ b∈fp,FpOk X pins H b)->tn i s.heap->J.go i H →
  wpAny (model P w) X.A (pyNext (.ref it)) (λr s1=>∃ u,r=some u ∧
   wpAny (model P w) X.A (letOwnedTupleGo tg (.ref it) u) (λ_ s2=>∃ x H',Inv X pins σ H' s2∧RelV x u∧J.yld i H x H'∧tn (i+1) s2.heap∧∀ b∈fp,H' b=none) E s1) E s
 done:∀ (X:Cx),X.prog=P->X.w=w->X.K=K->X.calm=true->∀ (i:Nat) (pins:List (Addr×Obj)) (s:Shared) (σ:St) (H:Hp) (E:Value->Shared->Prop),Inv X pins σ H s->(∀ b∈fp,FpOk X pins H b)->tn i s.heap->J.stop i H →
  wpAny (model P w) X.A (pyNext (.ref it)) (λr s1=>r=none∧Inv X pins σ H s1) E s
 self:∀ (A:Around) (i:Nat) (s:Shared) (Q:Value->Shared->Prop) (E:Value->Shared->Prop),tn i s.heap->Q (.ref it) s->wpAny (model P w) A (pyIter (.ref it)) Q E s
abbrev TI:=St->Hp->(It->Hp->Prop)->Prop
def PIE (X:Cx) (pins:List (Addr×Obj)) (σ:St) (tg:Expr) (R:It->Hp->Prop) (itv:Value) (s2:Shared):Prop :=
 ∃ (it:Addr) (fp:List Addr) (tn:Nat->Heap->Prop) (J:It) (H':Hp),itv=.ref it∧Inv X pins σ H' s2∧Turn X.prog X.w X.K tg J fp it tn∧tn 0 s2.heap∧(∀ b∈fp,FpOk X pins H' b)∧R J H'
def PI (X:Cx) (tg iter:Expr) (wi:TI):Prop :=
 ∀ (pins:List (Addr×Obj)) (s:Shared) (σ:St) (H:Hp) (R:It->Hp->Prop),Inv X pins σ H s->wi σ H R →
  wpAny (model X.prog X.w) X.A (eval iter X.env) (λv s1=>wpAny (model X.prog X.w) X.A (pyIter v) (PIE X pins σ tg R) X.xe s1) X.xe s
theorem zlW {M:Model} {A:Around} {E:Value->Shared->Prop} {s:Shared} {tg:Expr} {it:Addr} {u:Value} {o:Obj} {n:String} {vs:Array Value} {Q:Unit->Shared->Prop} (ho:s.heap.get? it=some o) (hc:o.cls=.type n) (hd:o.data=.fields vs)
  (hn:["enumerate","zip","dict_itemiterator","dict_reverseitemiterator","odict_iterator","itertools.zip_longest","itertools.pairwise"].contains n=false) (hQ:Q () s):wpAny M A (letOwnedTupleGo tg (.ref it) u) Q E s:=by
 unfold letOwnedTupleGo
 cases tg<;>first
  | exact wpAny_pure hQ
  | (cases u<;>first
    | exact wpAny_pure hQ
    | (refine wpAny_bind (wpAny_load ho ?_)
       rw [hc,hd]
       show wpAny M A (if (["enumerate","zip","dict_itemiterator","dict_reverseitemiterator","odict_iterator","itertools.zip_longest","itertools.pairwise"].contains n&&vs[0]? == some (rawInt _))=true then _ else _) Q E s
       rw [if_neg (by intro h;rw [hn,Bool.false_and] at h;cases h)]
       exact wpAny_pure hQ))
def Itl (K:W.Frag) (a:Addr):It :=
 ⟨λi H=>∃ xs x,SqL K H a xs∧xs[i]?=some x,λi H x H'=>H'=H∧∀ xs,SqL K H a xs->xs[i]?=some x,λi H=>∃ xs,SqL K H a xs∧xs.length≤i⟩
def Itr (lo:Int) (n:Nat):It:=⟨λi _=>i<n,λi H x H'=>H'=H∧x=.int (lo+i),λi _=>n≤i⟩
theorem zjH {P:Program} {w:World} {K:W.Frag} {tg:Expr} (a it:Addr):Turn P w K tg (Itl K a) [it] it (λi h=>h.IsListIter it a i) where
 mem:=by simp
 obj:=λi h st b hb=>by
  have e:b=it:=by simpa using hb
  subst e
  obtain ⟨o,e,c,d⟩:=st
  exact ⟨o,e,λv z=>by rw [d] at z;cases z⟩
 keep:=λi h h' st k=>st.at λo e=>k it (by simp) o e
 item:=by
  intro X hP hw hK hc i pins s σ H E I hf st hg
  subst hP hw hK
  obtain ⟨xs,x,hq,hx⟩:=hg
  obtain ⟨its,rv,p,hz⟩:=I.list hq
  obtain ⟨u,hu,ru⟩:=rv.get hx
  obtain ⟨f0,f1,f2,f3,f4,f5⟩:=hf it (by simp)
  refine wpAny_pyNext_list_item st p.isList (x:=u) (by simpa using hu) λh' st' sb=>?_
  have I1:Inv X pins σ H { s with heap:=h' }:=I.turned (t':=s.toks) (λb o hb e=>(sb.2 b hb).trans e) f0 f1 f3 f4 f5
  obtain ⟨o,e,c,d⟩:=id st'
  exact ⟨u,rfl,zlW (s:={ s with heap:=h' }) e c d (by decide) ⟨x,H,I1,ru,⟨rfl,λys hy=>by rw [I.list_inj hy hq];exact hx⟩,st',λb hb=>(hf b hb).1⟩⟩
 done:=by
  intro X hP hw hK hc i pins s σ H E I hf st hg
  subst hP hw hK
  obtain ⟨xs,hq,hx⟩:=hg
  obtain ⟨its,rv,p,hz⟩:=I.list hq
  obtain ⟨f0,f1,f2,f3,f4,f5⟩:=hf it (by simp)
  have hl:=rv.length
  exact wpAny_pyNext_list_end (I.ok.hd hc) st p.isList (by simp;omega) λh' eb=>⟨rfl,I.turned (t':=s.toks) (λb o hb e=>eb b o hb e) f0 f1 f3 f4 f5⟩
 self:=λ_ _ _ _ _ st h=>wpAny_pyIter_listiter st h
theorem zh6 {P:Program} {w:World} {K:W.Frag} {tg:Expr} (it:Addr) (lo:Int) (n:Nat):Turn P w K tg (Itr lo n) [it] it (λi h=>IsRangeIter h it (lo+(i:Nat)*1) ((n:Int)-(i:Nat)) 1) where
 mem:=by simp
 obj:=λi h st b hb=>by
  have e:b=it:=by simpa using hb
  subst e
  exact ⟨_,st,λv z=>by
   have z':Data.fields _=Data.cell v:=z
   cases z'⟩
 keep:=λi h h' st k=>k it (by simp) _ st
 item:=by
  intro X hP hw hK hc i pins s σ H E I hf st hg
  subst hP hw hK
  obtain ⟨f0,f1,f2,f3,f4,f5⟩:=hf it (by simp)
  have W:=Walks.range (prog:=X.prog) (w:=X.w) (I.ok.hd hc) it lo 1 n
  refine W.item i s _ _ hg st λv h' tk hv st' kk=>?_
  obtain ⟨t,rfl⟩:=hv
  have I1:Inv X pins σ H { s with heap:=h',toks:=tk }:=I.turned (λb o hb e=>kk b o (by simpa using hb) e) f0 f1 f3 f4 f5
  refine ⟨_,rfl,zlW (s:={ s with heap:=h',toks:=tk }) (n:="range_iterator") st' rfl rfl (by decide) ⟨.int (lo+i),H,I1,⟨t,?_⟩,⟨rfl,rfl⟩,st',λb hb=>(hf b hb).1⟩⟩
  rw [Int.mul_one]
 done:=by
  intro X hP hw hK hc i pins s σ H E I hf st hg
  subst hP hw hK
  obtain ⟨f0,f1,f2,f3,f4,f5⟩:=hf it (by simp)
  exact wpAny_pyNext_range_end (I.ok.hd hc) st (by have:n≤i:=hg;omega) λh' eb=>⟨rfl,I.turned (t':=s.toks) (λb o hb e=>eb b o hb e) f0 f1 f3 f4 f5⟩
 self:=λ_ _ _ _ _ st h=>wpAny_pyIter_rangeiter st h
end L2
namespace L2
open PySem PySem.Spec PyProof.Rows
section
variable {X:Cx} {tg:Expr}
def zkP (K:W.Frag) (tl:TE):TI:=λσ H R=>tl σ H λx H1=>∃ a,x=.ref a∧(∃ xs,SqL K H1 a xs)∧R (Itl K a) H1
theorem zmi {l:Expr} {tl:TE} (hl:PE X l tl):PI X tg l (zkP X.K tl):=by
 intro pins s σ H R I h
 refine thn (hl pins s σ H _ I h) λv s1 ⟨x,H1,I1,r1,q1⟩=>?_
 obtain ⟨a,e,⟨xs,hq⟩,q⟩:=q1
 subst e
 cases r1
 obtain ⟨its,rv,p,hz⟩:=I1.list hq
 refine wpAny_pyIter_list p.isList ?_
 refine ⟨s1.heap.objs.size,[s1.heap.objs.size],_,_,H1,rfl,I1.kept (t':=s1.toks) λb o e=>Heap.get?_push_of_some _ e,zjH a _,⟨_,Heap.get?_push_size _ rfl,rfl,rfl⟩,λb hb=>?_,q⟩
 have e:b=s1.heap.objs.size:=by simpa using hb
 subst e
 exact I1.fpOk (Nat.le_refl _) (I1.hok.fresh (Nat.le_refl _))
theorem zkK {pins:List (Addr×Obj)} {σ:St} {H:Hp} {s:Shared} {R:It->Hp->Prop} {E:Value->Shared->Prop} {lo hi:Int} {t u v:Tok} {tk:Nat} (I:Inv X pins σ H s) (h1:-(2^62)≤lo) (h2:lo<2^62) (h3:-(2^62)≤hi) (h4:hi<2^62)
  (q:R (Itr lo (hi-lo).toNat) H):wpAny (model X.prog X.w) X.A (pyIter (.ref s.heap.objs.size)) (PIE X pins σ tg R) E { s with heap:=s.heap.push { cls:=.type "range",data:=.fields #[.int lo t,.int hi u,.int 1 v] },toks:=tk }:=by
 refine wpAny_pyIter_range (IsRange.new ..) (small_one h1 h2 h3 h4) ?_
 have I1:Inv X pins σ H { s with heap:=s.heap.push { cls:=.type "range",data:=.fields #[.int lo t,.int hi u,.int 1 v] },toks:=tk }:=I.kept λb o e=>Heap.get?_push_of_some _ e
 refine ⟨(s.heap.push { cls:=.type "range",data:=.fields #[.int lo t,.int hi u,.int 1 v] }).objs.size,[(s.heap.push { cls:=.type "range",data:=.fields #[.int lo t,.int hi u,.int 1 v] }).objs.size],_,_,H,rfl,
  I1.kept (t':=tk) λb o e=>Heap.get?_push_of_some _ e,zh6 _ lo (hi-lo).toNat,?_,λb hb=>?_,q⟩
 ·have e1:lo+((0:Nat):Int)*1=lo:=by simp
  have e2:(((hi-lo).toNat:Nat):Int)-((0:Nat):Int)=Builtin.Range.rangeSize lo hi 1:=by rw [rangeSize_one];split<;>omega
  show IsRangeIter _ _ (lo+((0:Nat):Int)*1) ((((hi-lo).toNat:Nat):Int)-((0:Nat):Int)) 1
  rw [e1,e2]
  exact Heap.get?_push_size _ rfl
 ·have e:b=(s.heap.push { cls:=.type "range",data:=.fields #[.int lo t,.int hi u,.int 1 v] }).objs.size:=by simpa using hb
  subst e
  exact I1.fpOk (Nat.le_refl _) (I1.hok.fresh (Nat.le_refl _))
def znA (ta:TA):TI:=λσ H R=>ta σ H λvs H1=>∃ j:Int,vs=[.int j]∧-(2^62)≤j∧j<2^62∧R (Itr 0 j.toNat) H1
theorem zb8 {a:Expr} {ta:TA} {p pos:Pos} (hg:Gl X "range") (hm:X.mg "range"=none) (ha:PA X [a] ta) (hs:starEach [a] X.env=[(false,eval a X.env)]:=by rfl):PI X tg (.Call (.Name "range" p) [a] [] pos) (znA ta):=by
 intro pins s σ H R I h
 refine Call_ (ld_blt I hg hm boot_range (PyProof.Rows.callWith_type1 (thn (ha pos pins s σ H _ I h) λus s1 ⟨vs,H1,I1,r1,q1⟩=>?_) hs rfl))
 obtain ⟨j,e,q1,q2,q⟩:=q1
 subst e
 cases r1 with
 | cons r rr =>
  cases rr
  obtain ⟨t,rfl⟩:=r
  exact call_range_1 (zkK I1 (by omega) (by omega) q1 q2 (by simpa using q))
def zn7 (wi:TI) (g:TG) (tb:TS):TS:=λD σ H=>wi σ H λJ H1=>∃ W:Nat->Nat->St->Hp->Prop,(∃ m,W 0 m σ H1)∧∀ i m σ H,W i m σ H →
 (J.stop i H∧D.nx σ H)∨(J.go i H∧∃ N:St->Hp->Prop,(∀ σ' H',N σ' H'->∃ m',m'<m∧W (i+1) m' σ' H')∧∀ x H',J.yld i H x H'->g x σ H' λσ2 H2=>tb { D with nx:=N,ct:=N,bk:=D.nx } σ2 H2)
def zgB (fp:List Addr) (h:Heap):List (Addr×Obj):=fp.filterMap λb=>(h.get? b).map λo=>(b,o)
theorem zdB {fp:List Addr} {h:Heap} {b:Addr} {o:Obj} (hb:b∈fp) (e:h.get? b=some o):(b,o)∈zgB fp h:=List.mem_filterMap.mpr ⟨b,hb,by rw [e];rfl⟩
theorem zju {fp:List Addr} {h:Heap} {p:Addr×Obj} (hp:p∈zgB fp h):p.1∈fp∧h.get? p.1=some p.2:=by
 obtain ⟨b,hb,e⟩:=List.mem_filterMap.mp hp
 cases q:h.get? b with
 | none=>rw [q] at e;cases e
 | some o =>
  rw [q] at e
  have e':(b,o)=p:=Option.some.inj e
  subst e'
  exact ⟨hb,q⟩
theorem Inv.pinned {pins:List (Addr×Obj)} {σ:St} {H:Hp} {s:Shared} {fp:List Addr} (I:Inv X pins σ H s) (hf:∀ b∈fp,FpOk X pins H b) (ho:∀ b∈fp,∃ o,s.heap.get? b=some o∧∀ v,o.data≠.cell v):Inv X (pins++zgB fp s.heap) σ H s :=
 I.pins_of λp hp=>(List.mem_append.mp hp).elim (λz=>I.pin p (List.mem_append_right _ z)) λz=>by
  obtain ⟨hb,e⟩:=zju z
  obtain ⟨f0,f1,f2,_⟩:=hf p.1 hb
  obtain ⟨o,e',d⟩:=ho p.1 hb
  rw [e] at e';cases e'
  exact ⟨e,f0,f1,f2,d⟩
theorem Inv.unpinned {pins pl:List (Addr×Obj)} {σ:St} {H:Hp} {s:Shared} (I:Inv X (pins++pl) σ H s):Inv X pins σ H s:=I.pins_of λp hp=>I.pin p (List.mem_append_right _ (List.mem_append_left _ hp))
theorem zbo {iter:Expr} {body:List Stmt} {wi:TI} {g:TG} {tb:TS} {pos:Pos} (hp:PassesOwn (model X.prog X.w) X.A X.env X.xe) (hc:X.calm=true) (hi:PI X tg iter wi) (hg:PG X tg g) (hb:PSs X body tb)
  (hs:∀ x,foldedSetIterable iter X.env x=pure x:=by intro _;rfl):PS X (.For tg iter body [] pos) (zn7 wi g tb):=by
 intro pins s σ H D I h
 refine wpAny_For (thn (hi pins s σ H _ I h) λv s1 h1=>thn h1 λitv s2 h2=>?_) hs
 obtain ⟨it,fp,tn,J,H2,e,I2,T,st2,f2,W,⟨m0,w0⟩,turn⟩:=h2
 subst e
 have stat:∀ {H':Hp},(∀ b∈fp,H' b=none)->∀ b∈fp,FpOk X pins H' b:=λhn b hb=>⟨hn b hb,(f2 b hb).2⟩
 refine codeAny_forLoop_any (λn s'=>∃ i σ' H',Inv X pins σ' H' s'∧tn i s'.heap∧(∀ b∈fp,H' b=none)∧W i n σ' H') ?_ m0 ⟨0,σ,H2,I2,st2,λb hb=>(f2 b hb).1,w0⟩
 rintro n s3 ⟨i,σ3,H3,I3,st3,fr3,w3⟩
 rcases turn i n σ3 H3 w3 with ⟨stop,qn⟩ | ⟨go,N,hN,step⟩
 ·refine wpAny_passesOwn hp (thn (T.done X rfl rfl rfl hc i pins s3 σ3 H3 X.xe I3 (stat fr3) st3 stop) λr s4 ⟨hr,I4⟩=>?_)
  subst hr
  exact wpAny_execs_nil ⟨σ3,H3,I4,qn⟩
 ·refine wpAny_passesOwn hp (thn (T.item X rfl rfl rfl hc i pins s3 σ3 H3 X.xe I3 (stat fr3) st3 go) λr s4 ⟨u,hr,h4⟩=>?_)
  subst hr
  refine wpAny_passesOwn hp (thn h4 λ_ s5 ⟨x,H5,I5,r5,y5,st5,fr5⟩=>?_)
  have I5':=I5.pinned (stat fr5) (T.obj _ _ st5)
  refine wpAny_passesOwn hp (thn (hg _ s5 σ3 H5 x u _ I5' r5 (step x H5 y5)) λ_ s6 ⟨σ6,H6,I6,q6⟩=>?_)
  refine wpAny_passesOwn hp (thn (hb _ s6 σ6 H6 _ I6 q6) λf s7 q7=>?_)
  have again:∀ {σ7:St} {H7:Hp},Inv X (pins++zgB fp s5.heap) σ7 H7 s7->N σ7 H7->∃ m,m<n∧∃ i σ' H',Inv X pins σ' H' s7∧tn i s7.heap∧(∀ b∈fp,H' b=none)∧W i m σ' H':=λ{σ7 H7} I7 n7=>by
   obtain ⟨m',hm,w7⟩:=hN σ7 H7 n7
   refine ⟨m',hm,i+1,σ7,H7,I7.unpinned,T.keep _ _ _ st5 λb hb o e=>(I7.pin (b,o) (List.mem_append_right _ (List.mem_append_right _ (zdB hb e)))).1,λb hb=>?_,w7⟩
   obtain ⟨o,e,d⟩:=T.obj _ _ st5 b hb
   exact (I7.pin (b,o) (List.mem_append_right _ (List.mem_append_right _ (zdB hb e)))).2.1
  cases f with
  | next=>obtain ⟨σ7,H7,I7,n7⟩:=q7;exact again I7 n7
  | cont=>obtain ⟨σ7,H7,I7,n7⟩:=q7;exact again I7 n7
  | brk=>obtain ⟨σ7,H7,I7,q7⟩:=q7;exact ⟨σ7,H7,I7.unpinned,q7⟩
  | ret v=>obtain ⟨x7,σ7,H7,I7,r7,q7⟩:=q7;exact ⟨x7,σ7,H7,I7.unpinned,r7,q7⟩
end
end L2
namespace L2
open PySem PySem.Spec PyProof.Rows
abbrev R2:=V->V->Hp->VK->Prop
def OpR (X:Cx) (f:Value->Value->Sem Value) (r:R2):Prop :=
 ∀ (pins:List (Addr×Obj)) (s:Shared) (σ:St) (H:Hp) (x y:V) (v u:Value) (Q:VK),Inv X pins σ H s->RelV x v->RelV y u->r x y H Q →
  wpAny (model X.prog X.w) X.A (f v u) (EP X pins σ Q) X.xe s
def UnR (X:Cx) (f:Value->Sem Value) (r:V->Hp->VK->Prop):Prop :=
 ∀ (pins:List (Addr×Obj)) (s:Shared) (σ:St) (H:Hp) (x:V) (v:Value) (Q:VK),Inv X pins σ H s->RelV x v->r x H Q →
  wpAny (model X.prog X.w) X.A (f v) (EP X pins σ Q) X.xe s
def zdZ (X:Cx) (f:Value) (r:List V->Hp->VK->Prop):Prop :=
 ∀ (pins:List (Addr×Obj)) (s:Shared) (σ:St) (H:Hp) (xs:List V) (us:List Value) (Q:VK),Inv X pins σ H s->Vals xs us->r xs H Q →
  wpAny (model X.prog X.w) X.A (call f us) (EP X pins σ Q) X.xe s
def tOp (r:R2) (ta tb:TE):TE:=λσ H Q=>ta σ H λx H1=>tb σ H1 λy H2=>r x y H2 Q
def tUn (r:V->Hp->VK->Prop) (ta:TE):TE:=λσ H Q=>ta σ H λx H1=>r x H1 Q
def rI (C:Int->Int->Prop) (g:Int->Int->V):R2:=λx y H Q=>∃ i j,x=.int i∧y=.int j∧C i j∧Q (g i j) H
def rI0 (g:Int->Int->V):R2:=λx y H Q=>∃ i j,x=.int i∧y=.int j∧Q (g i j) H
def rU (g:Int->V):V->Hp->VK->Prop:=λx H Q=>∃ i,x=.int i∧Q (g i) H
section
variable {X:Cx} {a b c:Expr} {ta tb tc:TE} {pos:Pos}
theorem binT (ha:PE X a ta) (hb:PE X b tb) {pins:List (Addr×Obj)} {s:Shared} {σ:St} {H:Hp} {R:V->V->Hp->Prop} (I:Inv X pins σ H s)
  (h:ta σ H λx H1=>tb σ H1 λy H2=>R x y H2) {Q:Value->Shared->Prop} {f:Value->Value->Sem Value}
  (hf:∀ v u s2 x y H2,Inv X pins σ H2 s2->RelV x v->RelV y u->R x y H2->wpAny (model X.prog X.w) X.A (f v u) Q X.xe s2) :
  wpAny (model X.prog X.w) X.A (eval a X.env) (λv s₁=>wpAny (model X.prog X.w) X.A (eval b X.env) (λu s₂=>wpAny (model X.prog X.w) X.A (f v u) Q X.xe s₂) X.xe s₁) X.xe s:=by
 refine thn (ha pins s σ H _ I h) λv s1 ⟨x,H1,I1,r1,q1⟩=>?_
 refine thn (hb pins s1 σ H1 _ I1 q1) λu s2 ⟨y,H2,I2,r2,q2⟩=>?_
 exact hf v u s2 x y H2 I2 r1 r2 q2
theorem zar {op:Operator} {r:R2} (ho:OpR X (binaryOp op) r) (ha:PE X a ta) (hb:PE X b tb):PE X (.BinOp a op b pos) (tOp r ta tb):=by
 intro pins s σ H Q I h
 exact wpAny_BinOp (binT ha hb I h λv u s2 x y H2 I2 rx ry q=>ho pins s2 σ H2 x y v u Q I2 rx ry q)
theorem znk {op:UnaryOp} {r:V->Hp->VK->Prop} (ho:UnR X (unaryOp op) r) (ha:PE X a ta):PE X (.UnaryOp op a pos) (tUn r ta):=by
 intro pins s σ H Q I h
 exact UnaryOp_ (thn (ha pins s σ H _ I h) λv s1 ⟨x,H1,I1,r1,q1⟩=>ho pins s1 σ H1 x v Q I1 r1 q1)
theorem opI {f:Value->Value->Sem Value} {C:Int->Int->Prop} {g:Int->Int->Int}
  (rule:∀ (i j:Int) (t u:Tok) (s:Shared) (Q:Value->Shared->Prop) (E:Value->Shared->Prop),C i j->Q (.int (g i j) s.toks) { s with toks:=s.toks+1 }->wpAny (model X.prog X.w) X.A (f (.int i t) (.int j u)) Q E s) :
  OpR X f (rI C λi j=>.int (g i j)):=by
 intro pins s σ H x y v u Q I rx ry h
 obtain ⟨i,j,rfl,rfl,hc,q⟩:=h
 obtain ⟨t,rfl⟩:=rx
 obtain ⟨t',rfl⟩:=ry
 exact rule i j t t' s _ _ hc ⟨.int (g i j),H,I.tok _,⟨_,rfl⟩,q⟩
theorem zpq {f:Value->Value->Sem Value} {g:Int->Int->Int}
  (rule:∀ (i j:Int) (t u:Tok) (s:Shared) (Q:Value->Shared->Prop) (E:Value->Shared->Prop),Q (.int (g i j) s.toks) { s with toks:=s.toks+1 }->wpAny (model X.prog X.w) X.A (f (.int i t) (.int j u)) Q E s) :
  OpR X f (rI0 λi j=>.int (g i j)):=by
 intro pins s σ H x y v u Q I rx ry h
 obtain ⟨i,j,rfl,rfl,q⟩:=h
 obtain ⟨t,rfl⟩:=rx
 obtain ⟨t',rfl⟩:=ry
 exact rule i j t t' s _ _ ⟨.int (g i j),H,I.tok _,⟨_,rfl⟩,q⟩
theorem zoh {f:Value->Value->Sem Value} {g:Int->Int->Bool}
  (rule:∀ (i j:Int) (t u:Tok) (s:Shared) (Q:Value->Shared->Prop) (E:Value->Shared->Prop),Q (.bool (g i j)) s->wpAny (model X.prog X.w) X.A (f (.int i t) (.int j u)) Q E s) :
  OpR X f (rI0 λi j=>.bl (g i j)):=by
 intro pins s σ H x y v u Q I rx ry h
 obtain ⟨i,j,rfl,rfl,q⟩:=h
 obtain ⟨t,rfl⟩:=rx
 obtain ⟨t',rfl⟩:=ry
 exact rule i j t t' s _ _ ⟨.bl (g i j),H,I,rfl,q⟩
def zpw (i j:Int):Prop:=0≤j∧j≤1000000∧i.natAbs<2^64
theorem zca:OpR X (binaryOp .Add) (rI0 λi j=>.int (i+j)):=zpq λ_ _ _ _ _ _ _ q=>add_int q
theorem zdJ:OpR X (binaryOp .Sub) (rI0 λi j=>.int (i-j)):=zpq λ_ _ _ _ _ _ _ q=>sub_int q
theorem zbN:OpR X (binaryOp .Mod) (rI (λ_ j=>0<j) λi j=>.int (i%j)):=opI λi j _ _ _ _ _ hc q=>by
 have h1:(0:Int)<j:=hc
 exact mod_int' (by omega) (by rw [Int.fmod_eq_emod_of_nonneg i (by omega)];exact q)
theorem zmH:OpR X (binaryOp .Pow) (rI zpw λi j=>.int (i^j.toNat)):=opI λ_ _ _ _ _ _ _ hc q=>pow_int_small hc.1 hc.2.1 hc.2.2 q
theorem unI {f:Value->Sem Value} {g:Int->Int}
  (rule:∀ (i:Int) (t:Tok) (s:Shared) (Q:Value->Shared->Prop) (E:Value->Shared->Prop),Q (.int (g i) s.toks) { s with toks:=s.toks+1 }->wpAny (model X.prog X.w) X.A (f (.int i t)) Q E s) :
  UnR X f (rU λi=>.int (g i)):=by
 intro pins s σ H x v Q I rx h
 obtain ⟨i,rfl,q⟩:=h
 obtain ⟨t,rfl⟩:=rx
 exact rule i t s _ _ ⟨.int (g i),H,I.tok _,⟨_,rfl⟩,q⟩
theorem zlg:UnR X (unaryOp .USub) (rU λi=>.int (-i)):=unI λ_ _ _ _ _ q=>neg_int q
end
def scal:V->V->Bool
 | .non,.non=>true | .non,.int _=>true | .int _,.non=>true | .non,.bl _=>true | .bl _,.non=>true | .non,.str _=>true | .str _,.non=>true
 | .int _,.int _=>true | .bl _,.bl _=>true | .str _,.str _=>true | .byt _,.byt _=>true
 | .int _,.str _=>true | .str _,.int _=>true | .bl _,.str _=>true | .str _,.bl _=>true
 | _,_=>false
def rEq:R2:=λx y H Q=>scal x y=true∧Q (.bl (decide (x=y))) H
def rNe:R2:=λx y H Q=>scal x y=true∧Q (.bl (!decide (x=y))) H
theorem zjU {i j:Int}:decide (V.int i=V.int j)=(i == j):=by
 rw [Bool.eq_iff_iff]
 simp
theorem dec_bl {i j:Bool}:decide (V.bl i=V.bl j)=(i == j):=by
 rw [Bool.eq_iff_iff]
 simp
theorem zi6 {i j:Str}:decide (V.str i=V.str j)=(i == j):=by
 rw [Bool.eq_iff_iff]
 simp
theorem ziu {i j:Array UInt8}:decide (V.byt i=V.byt j)=(i.toList == j.toList):=by
 rw [Bool.eq_iff_iff]
 cases i
 cases j
 simp
section
variable {X:Cx} {a b c:Expr} {ta tb tc:TE} {pos:Pos}
theorem fin_bl {pins:List (Addr×Obj)} {σ:St} {H:Hp} {s:Shared} {Q:VK} {k k':Bool} (I:Inv X pins σ H s) (q:Q (.bl k) H) (e:k=k'):EP X pins σ Q (.bool k') s:=by
 subst e
 exact ⟨.bl k,H,I,rfl,q⟩
theorem zd8:OpR X (compareOp .Eq) rEq:=by
 intro pins s σ H x y v u Q I rx ry h
 obtain ⟨hs,q⟩:=h
 cases x with
 | non =>
  cases rx
  cases y with
  | non=>cases ry;exact PySem.EqNone.eq_none_none (fin_bl I q (by simp))
  | bl j=>cases ry;exact PySem.EqNone.eq_none_bool (fin_bl I q (by simp))
  | int j=>obtain ⟨t',rfl⟩:=ry;exact PySem.EqNone.eq_none_int (fin_bl I q (by simp))
  | str j=>obtain ⟨t',rfl⟩:=ry;exact PySem.EqNone.eq_none_str (fin_bl I q (by simp))
  | _=>exact absurd (show false=true from hs) Bool.false_ne_true
 | bl i =>
  cases rx
  cases y with
  | non=>cases ry;exact PySem.EqNone.eq_bool_none (fin_bl I q (by simp))
  | bl j=>cases ry;exact eq_bool (fin_bl I q dec_bl)
  | str j=>obtain ⟨t',rfl⟩:=ry;exact PySem.EqMixed.eq_bool_str (fin_bl I q (by simp))
  | _=>exact absurd (show false=true from hs) Bool.false_ne_true
 | int i =>
  obtain ⟨t,rfl⟩:=rx
  cases y with
  | non=>cases ry;exact PySem.EqNone.eq_int_none (fin_bl I q (by simp))
  | int j=>obtain ⟨t',rfl⟩:=ry;exact eq_int (fin_bl I q zjU)
  | str j=>obtain ⟨t',rfl⟩:=ry;exact PySem.EqMixed.eq_int_str (fin_bl I q (by simp))
  | _=>exact absurd (show false=true from hs) Bool.false_ne_true
 | str i =>
  obtain ⟨t,rfl⟩:=rx
  cases y with
  | non=>cases ry;exact PySem.EqNone.eq_str_none (fin_bl I q (by simp))
  | bl j=>cases ry;exact PySem.EqMixed.eq_str_bool (fin_bl I q (by simp))
  | int j=>obtain ⟨t',rfl⟩:=ry;exact PySem.EqMixed.eq_str_int (fin_bl I q (by simp))
  | str j=>obtain ⟨t',rfl⟩:=ry;exact eq_str (fin_bl I q zi6)
  | _=>exact absurd (show false=true from hs) Bool.false_ne_true
 | byt i =>
  obtain ⟨t,rfl⟩:=rx
  cases y with
  | byt j=>obtain ⟨t',rfl⟩:=ry;exact W.eq_bytes (fin_bl I q ziu)
  | _=>exact absurd (show false=true from hs) Bool.false_ne_true
 | _=>cases y<;>exact absurd (show false=true from hs) Bool.false_ne_true
theorem op_ne:OpR X (compareOp .NotEq) rNe:=by
 intro pins s σ H x y v u Q I rx ry h
 obtain ⟨hs,q⟩:=h
 cases x with
 | non =>
  cases rx
  cases y with
  | non=>cases ry;exact PySem.EqNone.ne_none_none (fin_bl I q (by simp))
  | bl j=>cases ry;exact PySem.EqNone.ne_none_bool (fin_bl I q (by simp))
  | int j=>obtain ⟨t',rfl⟩:=ry;exact PySem.EqNone.ne_none_int (fin_bl I q (by simp))
  | str j=>obtain ⟨t',rfl⟩:=ry;exact PySem.EqNone.ne_none_str (fin_bl I q (by simp))
  | _=>exact absurd (show false=true from hs) Bool.false_ne_true
 | bl i =>
  cases rx
  cases y with
  | non=>cases ry;exact PySem.EqNone.ne_bool_none (fin_bl I q (by simp))
  | bl j=>cases ry;exact ne_bool (fin_bl I q (congrArg not dec_bl))
  | str j=>obtain ⟨t',rfl⟩:=ry;exact PySem.EqMixed.ne_bool_str (fin_bl I q (by simp))
  | _=>exact absurd (show false=true from hs) Bool.false_ne_true
 | int i =>
  obtain ⟨t,rfl⟩:=rx
  cases y with
  | non=>cases ry;exact PySem.EqNone.ne_int_none (fin_bl I q (by simp))
  | int j=>obtain ⟨t',rfl⟩:=ry;exact ne_int (fin_bl I q (congrArg not zjU))
  | str j=>obtain ⟨t',rfl⟩:=ry;exact PySem.EqMixed.ne_int_str (fin_bl I q (by simp))
  | _=>exact absurd (show false=true from hs) Bool.false_ne_true
 | str i =>
  obtain ⟨t,rfl⟩:=rx
  cases y with
  | non=>cases ry;exact PySem.EqNone.ne_str_none (fin_bl I q (by simp))
  | bl j=>cases ry;exact PySem.EqMixed.ne_str_bool (fin_bl I q (by simp))
  | int j=>obtain ⟨t',rfl⟩:=ry;exact PySem.EqMixed.ne_str_int (fin_bl I q (by simp))
  | str j=>obtain ⟨t',rfl⟩:=ry;exact ne_str (fin_bl I q (congrArg not zi6))
  | _=>exact absurd (show false=true from hs) Bool.false_ne_true
 | byt i =>
  obtain ⟨t,rfl⟩:=rx
  cases y with
  | byt j=>obtain ⟨t',rfl⟩:=ry;exact W.ne_bytes (fin_bl I q (congrArg not ziu))
  | _=>exact absurd (show false=true from hs) Bool.false_ne_true
 | _=>cases y<;>exact absurd (show false=true from hs) Bool.false_ne_true
theorem zg2:OpR X (compareOp .Lt) (rI0 λi j=>.bl (decide (i<j))):=zoh λ_ _ _ _ _ _ _ q=>lt_int q
theorem zm9:OpR X (compareOp .LtE) (rI0 λi j=>.bl (decide (i≤j))):=zoh λ_ _ _ _ _ _ _ q=>le_int q
theorem zgn:OpR X (compareOp .Gt) (rI0 λi j=>.bl (decide (j<i))):=zoh λ_ _ _ _ _ _ _ q=>gt_int q
theorem znJ:OpR X (compareOp .GtE) (rI0 λi j=>.bl (decide (j≤i))):=zoh λ_ _ _ _ _ _ _ q=>ge_int q
theorem nomark (b:Expr) {op:CmpOp} (h:op≠.In:=by decide) (h2:op≠.NotIn:=by decide):behindInMarks op b=false:=by
 have e1:(op == CmpOp.In)=false:=by cases op<;>first | rfl | exact absurd rfl h
 have e2:(op == CmpOp.NotIn)=false:=by cases op<;>first | rfl | exact absurd rfl h2
 cases b<;>simp [behindInMarks,e1,e2]
theorem zfZ {op:CmpOp} {r:R2} (ho:OpR X (compareOp op) r) (ha:PE X a ta) (hb:PE X b tb) (hm:behindInMarks op b=false):PE X (.Compare a [op] [b] pos) (tOp r ta tb):=by
 intro pins s σ H Q I h
 exact wpAny_Compare1 (binT ha hb I h λv u s2 x y H2 I2 rx ry q=>ho pins s2 σ H2 x y v u Q I2 rx ry q) hm
def zob (t:TE):TT:=λσ H Q=>t σ H λx H'=>∃ k,x=.bl k∧Q k H'
theorem pt_cmpR {op:CmpOp} {r:R2} (ho:OpR X (compareOp op) r) (ha:PE X a ta) (hb:PE X b tb) (hm:behindInMarks op b=false):PT X (.Compare a [op] [b] pos) (zob (tOp r ta tb)):=by
 intro pins s σ H Q I h
 refine wpAny_isTrue_Compare1 (thn (ha pins s σ H _ I h) λv s1 ⟨x,H1,I1,r1,q1⟩=>thn (hb pins s1 σ H1 _ I1 q1) λu s2 ⟨y,H2,I2,r2,q2⟩ =>
  thn (ho pins s2 σ H2 x y v u _ I2 r1 r2 q2) λc s3 ⟨z,H3,I3,r3,k,e,q3⟩=>?_) hm
 subst e
 cases r3
 exact wpAny_truthy_bool ⟨H3,I3,q3⟩
theorem zhI:(sizeLine:Nat)<2^63:=by rw [sizeLine_eq];decide
theorem zjX {x:V} {us:List Value} (r:Vals [x] us):∃ u,us=[u]∧RelV x u:=by
 cases r with
 | cons r1 r2=>cases r2;exact ⟨_,rfl,r1⟩
theorem ziF {x y:V} {us:List Value} (r:Vals [x,y] us):∃ u w',us=[u,w']∧RelV x u∧RelV y w':=by
 cases r with
 | cons r1 r2 =>
  cases r2 with
  | cons r3 r4=>cases r4;exact ⟨_,_,rfl,r1,r3⟩
theorem zeX (hc:X.calm=true):zdZ X (.builtin "max") (λxs H Q=>∃ i j,xs=[.int i,.int j]∧Q (.int (if j > i then j else i)) H):=by
 intro pins s σ H xs us Q I r h
 obtain ⟨i,j,rfl,q⟩:=h
 obtain ⟨u,w',rfl,⟨t,rfl⟩,⟨t',rfl⟩⟩:=ziF r
 refine max_two_ints (I.ok.hd hc) λh' tk k=>⟨_,H,I.kept k,?_,q⟩
 by_cases hj:j > i
 ·rw [if_pos hj,if_pos hj];exact ⟨_,rfl⟩
 ·rw [if_neg hj,if_neg hj];exact ⟨_,rfl⟩
theorem zja (hc:X.calm=true):zdZ X (.builtin "min") (λxs H Q=>∃ i j,xs=[.int i,.int j]∧Q (.int (if j<i then j else i)) H):=by
 intro pins s σ H xs us Q I r h
 obtain ⟨i,j,rfl,q⟩:=h
 obtain ⟨u,w',rfl,⟨t,rfl⟩,⟨t',rfl⟩⟩:=ziF r
 refine min_two_ints (I.ok.hd hc) λh' tk k=>⟨_,H,I.kept k,?_,q⟩
 by_cases hj:j<i
 ·rw [if_pos hj,if_pos hj];exact ⟨_,rfl⟩
 ·rw [if_neg hj,if_neg hj];exact ⟨_,rfl⟩
theorem zgC:zdZ X (.type "int") (λxs H Q=>(∃ i,xs=[.int i]∧Q (.int i) H)∨∃ k,xs=[.bl k]∧Q (.int (if k then 1 else 0)) H):=by
 intro pins s σ H xs us Q I r h
 rcases h with ⟨i,rfl,q⟩ | ⟨k,rfl,q⟩
 ·obtain ⟨u,rfl,t,rfl⟩:=zjX r
  exact call_int_int ⟨.int i,H,I,⟨_,rfl⟩,q⟩
 ·obtain ⟨u,rfl,r1⟩:=zjX r
  cases r1
  exact call_int_bool ⟨.int (if k then 1 else 0),H,I.tok _,⟨_,rfl⟩,q⟩
end
end L2
namespace L2
open PySem PySem.Spec PyProof.Rows
structure ObjM (h:Heap) (x dx C:Addr) (mA:Str->Option Value):Prop where
 obj:h.get? x=some (W.instObj C dx)
 ns:h.Ns1 dx mA
 ne:dx≠x
theorem zi4 {h:Heap} {dx:Addr} {mA:Str->Option Value} (n:h.Ns1 dx mA):∃ od,h.get? dx=some od∧∀ name,W.lookIn name od=some (mA name):=by
 obtain ⟨o,es,ep,ho,hd,hk,_,hm⟩:=n
 refine ⟨o,ho,λname=>?_⟩
 have e:=hm name
 unfold nsFind findBy at e
 rw [← Array.find?_toList] at e
 unfold W.lookIn
 rw [hd]
 dsimp only
 split
 ·rename_i y q
  rw [q] at e
  exact congrArg some e
 ·rename_i q
  rw [q] at e
  have a:es.toList.any (·.refKey)=false:=by
   rw [List.any_eq_false]
   intro y hy
   obtain ⟨z,t,hkey⟩:=hk y (Array.mem_toList_iff.mp hy)
   simp [DictEntry.refKey,hkey]
  have a':¬ es.toList.any (·.refKey)=true:=by rw [a];exact Bool.false_ne_true
  rw [if_neg a']
  exact congrArg some e
theorem ObjM.look {h:Heap} {x dx C:Addr} {mA:Str->Option Value} (I:ObjM h x dx C mA):∃ od,W.InstAt h x (W.instObj C dx) C (some od)∧∀ name,W.lookIn name od=some (mA name) :=
 let ⟨od,ho,hl⟩:=zi4 I.ns
 ⟨od,⟨I.obj,rfl,rfl,ho⟩,hl⟩
section
variable {prog:Program} {w:World} {A:Around} {E:Value->Shared->Prop} {s:Shared} {K:W.Frag} {x dx C f:Addr} {mA:Str->Option Value} {name:Str} {v:Value}
theorem zlJ {expr:Bool} {Q:Value->Shared->Prop} (X:K.In s.heap) (I:ObjM s.heap x dx C mA) (hg:W.plainGet K C name=true) (hh:W.hasDictIn K C=true)
  (ha:W.findIn K (.ref C) name=some none) (hv:mA name=some v) (hv':W.handedIn v=true) (h:Q v { s with toks:=s.toks+1 }) :
  wpAny (model prog w) A (getAttr (.ref x) name expr) Q E s:=by
 obtain ⟨od,J,hl⟩:=I.look
 exact W.get_value X J (W.plainGet_of hg).1 (W.findObj_own hh ha rfl (by rw [hl,hv])) hv' h
theorem zlT {ns:List Str} {Q:Unit->Shared->Prop} (X:K.In s.heap) (I:ObjM s.heap x dx C mA)
  (hs:W.findIn K (.ref C) "__setattr__"=some (some (.builtin "object.__setattr__"))) (hp:W.plainOver K C=true) (ht:W.takerIn K C name=some none) (hh:W.hasDictIn K C=true)
  (hw:PySem.Within mA ns) (hsz:ns.length≤sizeLine)
  (h:∀ h',ObjM h' x dx C (λy=>if y=name then some v else mA y)->Heap.SameBut dx s.heap h'->Q () { s with heap:=h',toks:=s.toks+2 }) :
  wpAny (model prog w) A (setAttr (.ref x) name v) Q E s:=by
 obtain ⟨od,J,hl⟩:=I.look
 refine W.set_plain X J hs (W.osa_open (s:={ s with toks:=s.toks+1 }) (r:=none) X J hp ht λb=>?_)
 obtain ⟨cd,hc,hd'⟩:=W.any_some hh
 have hx:s.heap.get? x=some ⟨.ref C,some dx,.plain,#[]⟩:=I.obj
 refine wpAny_bind (wpAny_pure (wpAny_bind (wpAny_bind (wpAny_loadPart hx (wpAny_bind (W.Looks.here (s:={ s with toks:=s.toks+1 }) (W.looks_clsIn X hc) ?_))))))
 rw [hd']
 refine wpAny_pure (a:=some dx) (wpAny_bind (wpAny_pure (wpAny_bind ?_)))
 refine wpAny_nsSet1 (s:={ s with toks:=s.toks+1 }) I.ns λh' hn2 hs2=>?_
 obtain ⟨oD,esD,epD,hoD,hdD,hcD⟩:=hn2.count (PySem.Within.cons name v hw)
 refine wpAny_bind (wpAny_lookBehind hoD (by rw [hdD];exact pastItsLine_dict (Nat.le_trans hcD (by rw [List.length_cons];omega))) ?_)
 exact wpAny_pure (h _ ⟨(hs2.2 _ (Ne.symm I.ne)).trans I.obj,hn2,I.ne⟩ hs2)
theorem zkT {R:Result->Shared->Prop} {vs:List Value} {kw:List (Str×Value)} (X:K.In s.heap) (hm:W.makesIn K C=true)
  (hi:W.findIn K (.ref C) "__init__"=some (some (.ref f))) (hf:W.typeIn K (.ref f)=some (.type "function"))
  (h:codeAny (model prog w) (A.under (.builtin "type.__call__" ⟨.ref C :: vs,kw⟩)) (.call (.ref f) ⟨.ref (s.heap.objs.size+1) :: vs,kw⟩) (W.InitBack (s.heap.objs.size+1) R)
   { s with heap:=(s.heap.push W.emptyDict).push (W.instObj C s.heap.objs.size) }) :
  codeAny (model prog w) A (.call (.ref C) ⟨vs,kw⟩) R s:=by
 obtain ⟨hh,g,d,t,os⟩:=s
 exact W.make_core (W.makes_of X hm) (W.looks_findIn X hi) (λself=>W.bind_fn X self hf) (.inl rfl) h
end
def putF (f:Str) (v:V):List (Str×V)->List (Str×V)
 | []=>[(f,v)]
 | (g,x) :: r=>if g=f then (g,v) :: r else (g,x) :: putF f v r
theorem ze6 (f g:Str) (v:V):∀ fs:List (Str×V),(putF f v fs).lookup g=if g=f then some v else fs.lookup g
 | []=>by
  show List.lookup g [(f,v)]=_
  by_cases h:g=f
  ·have hb:(g == f)=true:=beq_iff_eq.mpr h
   simp only [List.lookup,hb,if_pos h]
  ·have hb:(g == f)=false:=beq_eq_false_iff_ne.mpr h
   simp only [List.lookup,hb,if_neg h]
 | (k,x) :: r=>by
  have ih:=ze6 f g v r
  rw [show putF f v ((k,x) :: r)=(if k=f then (k,v) :: r else (k,x) :: putF f v r) from rfl]
  by_cases hk:k=f
  ·rw [if_pos hk]
   by_cases h:g=k
   ·have hb:(g == k)=true:=beq_iff_eq.mpr h
    simp only [List.lookup,hb,if_pos (h.trans hk)]
   ·have hb:(g == k)=false:=beq_eq_false_iff_ne.mpr h
    simp only [List.lookup,hb,if_neg (λe:g=f=>h (e.trans hk.symm))]
  ·rw [if_neg hk]
   by_cases h:g=k
   ·have hb:(g == k)=true:=beq_iff_eq.mpr h
    simp only [List.lookup,hb,if_neg (λe:g=f=>hk (h.symm.trans e))]
   ·have hb:(g == k)=false:=beq_eq_false_iff_ne.mpr h
    simp only [List.lookup,hb]
    exact ih
theorem ze8 (f:Str) (v:V):∀ fs:List (Str×V),f∈(putF f v fs).map (·.1)∧∀ g,g∈fs.map (·.1)->g∈(putF f v fs).map (·.1)
 | []=>⟨by simp [putF],λg h=>by simp at h⟩
 | (k,x) :: r=>by
  obtain ⟨i1,i2⟩:=ze8 f v r
  rw [show putF f v ((k,x) :: r)=(if k=f then (k,v) :: r else (k,x) :: putF f v r) from rfl]
  by_cases hk:k=f
  ·rw [if_pos hk]
   subst hk
   exact ⟨by simp,λg h=>by simpa using h⟩
  ·rw [if_neg hk]
   refine ⟨?_,λg h=>?_⟩
   ·rw [List.map_cons]
    exact List.mem_cons_of_mem _ i1
   ·rw [List.map_cons] at h ⊢
    rcases List.mem_cons.mp h with e | e
    ·exact List.mem_cons.mpr (.inl e)
    ·exact List.mem_cons_of_mem _ (i2 g e)
theorem zfe (f:Str) (v:V):∀ fs:List (Str×V),(putF f v fs).length≤fs.length+1
 | []=>by simp [putF]
 | (k,x) :: r=>by
  have ih:=zfe f v r
  rw [show putF f v ((k,x) :: r)=(if k=f then (k,v) :: r else (k,x) :: putF f v r) from rfl]
  by_cases hk:k=f
  ·rw [if_pos hk,List.length_cons,List.length_cons];omega
  ·rw [if_neg hk,List.length_cons,List.length_cons];omega
theorem zmg.some_of {v:V} {o:Option Value} (r:zmg (some v) o):∃ u,o=some u∧RelV v u:=by
 cases o with
 | none=>exact (show False from r).elim
 | some u=>exact ⟨u,rfl,r⟩
theorem ziY {v:V} {u:Value} (r:RelV v u):W.handedIn u=true:=by
 cases v with
 | non=>cases (show u=Value.none from r);rfl
 | bl b=>cases (show u=Value.bool b from r);rfl
 | int i=>obtain ⟨t,e⟩:=(show ∃ t,u=Value.int i t from r);cases e;rfl
 | str x=>obtain ⟨t,e⟩:=(show ∃ t,u=Value.str x t from r);cases e;rfl
 | byt b=>obtain ⟨t,e⟩:=(show ∃ t,u=Value.bytes b t from r);cases e;rfl
 | flt b=>obtain ⟨t,e⟩:=(show ∃ t,u=Value.float b t from r);cases e;rfl
 | ref a=>cases (show u=Value.ref a from r);rfl
 | ty n=>cases (show u=Value.type n from r);rfl
section
variable {P:Program} {w:World} {H H':Hp} {h h':Heap} {a C dx:Addr} {fs fs':List (Str×V)}
theorem zhp (hok:HOk P w H h) (e:H a=some (.ins C dx fs)):∃ mA,ObjM h a dx C mA∧(∀ f,zmg (fs.lookup f) (mA f))∧PySem.Within mA (fs.map (·.1))∧fs.length≤1000∧H dx=some (.own a):=by
 obtain ⟨d,z,ne,ob,mA,n,r,q⟩:=(show zcG P w H h a (.ins C dx fs) from hok a _ e)
 exact ⟨mA,⟨ob,n,ne⟩,r,q,z,d⟩
end
structure Cls (K:W.Frag) (C:Addr):Prop where
 pg:W.plainGet K C Str.empty=true
 hd:W.hasDictIn K C=true
 po:W.plainOver K C=true
 sa:W.findIn K (.ref C) "__setattr__"=some (some (.builtin "object.__setattr__"))
theorem Cls.get {K:W.Frag} {C:Addr} (c:Cls K C) (f:Str):W.plainGet K C f=true:=c.pg
def NoAttr (K:W.Frag) (C:Addr) (f:Str):Prop:=W.findIn K (.ref C) f=some none
theorem NoAttr.taker {K:W.Frag} {C:Addr} {f:Str} (n:NoAttr K C f):W.takerIn K C f=some none:=by
 unfold W.takerIn
 rw [show W.findIn K (.ref C) f=some none from n]
 rfl
structure Con (K:W.Frag) (C:Addr) (f:Str) (v:V) (u:Value):Prop where
 at_:W.findIn K (.ref C) f=some (some u)
 rel:RelV v u
 get:W.specialIn K u "__get__"=some none
 cp:W.copiedNames.contains f=false
structure Meth (K:W.Frag) (C:Addr) (m:Str) (f:Addr):Prop where
 at_:W.findIn K (.ref C) m=some (some (.ref f))
 fn:W.isFn K (.ref f)=true
 kp:W.keepIn K (.ref f)=true
section
variable {X:Cx} {pins:List (Addr×Obj)} {σ:St} {H:Hp} {s:Shared} {a C dx:Addr} {fs:List (Str×V)} {f:Str} {v:V} {A:Around} {E:Value->Shared->Prop}
theorem zij {b:Bool} {Q:Value->Shared->Prop} (I:Inv X pins σ H s) (e:H a=some (.ins C dx fs)) (c:Cls X.K C) (n:NoAttr X.K C f) (l:fs.lookup f=some v)
  (h:∀ u s',Inv X pins σ H s'->RelV v u->Q u s'):wpAny (model X.prog X.w) A (getAttr (.ref a) f b) Q E s:=by
 obtain ⟨mA,O,r,_,_,_⟩:=zhp I.hok e
 obtain ⟨u,hu,ru⟩:=zmg.some_of (v:=v) (o:=mA f) (by rw [← l];exact r f)
 exact zlJ I.kIn O (c.get f) c.hd n hu (ziY ru) (h u _ (I.tok _) ru)
theorem zh4 {y:V} {u:Value} {Q:Unit->Shared->Prop} (I:Inv X pins σ H s) (e:H a=some (.ins C dx fs)) (c:Cls X.K C) (n:NoAttr X.K C f) (hl:fs.length<1000) (ry:RelV y u)
  (h:∀ s',Inv X pins σ (upd H a (.ins C dx (putF f y fs))) s'->Q () s'):wpAny (model X.prog X.w) A (setAttr (.ref a) f u) Q E s:=by
 obtain ⟨mA,O,r,wi,_,ho⟩:=zhp I.hok e
 have hz:(fs.map (·.1)).length≤sizeLine:=by rw [List.length_map,sizeLine_eq];omega
 refine zlT I.kIn O c.sa c.po n.taker c.hd wi hz λh' O' sb=>h _ ?_
 have hd:∃ o,h'.get? dx=some o:=let ⟨o,_,_,e',_⟩:=O'.ns;⟨o,e'⟩
 refine I.write (x:=a) (e:=dx) (by rw [e];exact True.intro) (.inr ho) (λb q hb z=>(sb.2 b hb).trans z) hd ?_
 refine ⟨by rw [upd_ne O.ne];exact ho,?_,O.ne,O'.obj,_,O'.ns,λg=>?_,λg hg=>?_⟩
 ·have:=zfe f y fs;omega
 ·show zmg ((putF f y fs).lookup g) (if g=f then some u else mA g)
  rw [ze6]
  by_cases q:g=f
  ·rw [if_pos q,if_pos q];exact ry
  ·rw [if_neg q,if_neg q];exact r g
 ·by_cases q:g=f
  ·rw [q];exact (ze8 f y fs).1
  ·refine (ze8 f y fs).2 g (wi g λz=>hg ?_)
   show (if g=f then some u else mA g)=none
   rw [if_neg q];exact z
theorem Inv.made (I:Inv X pins σ H s):Inv X pins σ (upd (upd H s.heap.objs.size (.own (s.heap.objs.size+1))) (s.heap.objs.size+1) (.ins C s.heap.objs.size []))
  { s with heap:=(s.heap.push W.emptyDict).push (W.instObj C s.heap.objs.size) }:=by
 have e1:(s.heap.push W.emptyDict).get? s.heap.objs.size=some W.emptyDict:=Heap.get?_push_size s.heap rfl
 have e2:((s.heap.push W.emptyDict).push (W.instObj C s.heap.objs.size)).get? (s.heap.objs.size+1)=some (W.instObj C s.heap.objs.size):=by
  have:=Heap.get?_push_size (s.heap.push W.emptyDict) (o:=W.instObj C s.heap.objs.size) rfl
  rwa [Heap.size_push] at this
 have e3:(s.heap.push W.emptyDict).Ns s.heap.objs.size (λ_=>none):=⟨W.emptyDict,#[],_,e1,rfl,(λe he=>absurd he (by simp)),λ_=>rfl⟩
 have I1:=I.laid (a:=s.heap.objs.size) (o:=.own (s.heap.objs.size+1)) (h':=s.heap.push W.emptyDict) (t':=s.toks) (λb u q=>Heap.get?_push_of_some _ q) (Nat.le_refl _) ⟨_,e1⟩
 refine I1.laid (a:=s.heap.objs.size+1) (o:=.ins C s.heap.objs.size []) (t':=s.toks) (λb u q=>Heap.get?_push_of_some _ q) (Nat.le_of_eq (Heap.size_push _ _)) ?_
 have ne:s.heap.objs.size≠s.heap.objs.size+1:=Nat.ne_of_lt (Nat.lt_succ_self _)
 refine ⟨by rw [upd_ne ne,upd_same],Nat.zero_le _,ne,e2,λ_=>none,(Heap.Ns1.of_empty e3).at λo q=>Heap.get?_push_of_some _ q,λ_=>True.intro,λy hy=>absurd rfl hy⟩
theorem attr_of {prog:Program} {w:World} {env:Env} {e:Expr} {f:Str} {pos:Pos} {s:Shared} {Q:Value->Shared->Prop} (hb:attributeBase e f env (eval e env)=eval e env)
  (h:wpAny (model prog w) A (eval e env) (λo s₁=>wpAny (model prog w) A (getAttr o f true) Q E s₁) E s):wpAny (model prog w) A (eval (.Attribute e f pos) env) Q E s :=
 Attribute_any_ h (by rw [arm_eval_Attribute,hb])
end
def tFld (K:W.Frag) (ta:TE) (f:Str):TE:=λσ H Q=>ta σ H λx H1=>∃ a C dx fs v,x=.ref a∧H1 a=some (.ins C dx fs)∧Cls K C∧NoAttr K C f∧fs.lookup f=some v∧Q v H1
def zoA (K:W.Frag) (ta tv:TE) (f:Str):TS:=λD σ H=>tv σ H λy H1=>ta σ H1 λx H2=>∃ a C dx fs,x=.ref a∧H2 a=some (.ins C dx fs)∧Cls K C∧NoAttr K C f∧fs.length<1000 ∧
 D.nx σ (upd H2 a (.ins C dx (putF f y fs)))
section
variable {X:Cx} {o e value:Expr} {f:Str} {pos pos' tpos:Pos} {ta tv:TE}
theorem znh (he:PE X e ta) (hb:attributeBase e f X.env (eval e X.env)=eval e X.env):PE X (.Attribute e f pos) (tFld X.K ta f):=by
 intro pins s σ H Q I h
 refine attr_of hb (thn (he pins s σ H _ I h) λu s1 ⟨x,H1,I1,rx,a,C,dx,fs,v,ex,ea,c,n,l,q⟩=>?_)
 subst ex
 obtain rfl:u=Value.ref a:=rx
 exact zij I1 ea c n l λu' s2 I2 ru=>⟨v,H1,I2,ru,q⟩
theorem zk9 (ha:PE X o ta) (hv:PE X value tv) (hs:swapsWith value (some (.Attribute o f pos')) pos.line X.env=pure false):PS X (.Assign [.Attribute o f pos'] value pos) (zoA X.K ta tv f):=by
 intro pins s σ H D I h
 refine plainObj_wpAny_Assign_Attribute (thn (hv pins s σ H _ I h) λu s1 ⟨y,H1,I1,ry,q⟩=>thn (ha pins s1 σ H1 _ I1 q) λov s2 ⟨x,H2,I2,rx,a,C,dx,fs,ex,ea,c,n,l,q2⟩=>?_) hs
 subst ex
 obtain rfl:ov=Value.ref a:=rx
 exact zh4 I2 ea c n l ry λs3 I3=>⟨σ,_,I3,q2⟩
end
section
variable {X:Cx} {pins:List (Addr×Obj)} {σ:St} {H:Hp} {s:Shared} {A:Around} {E:Value->Shared->Prop} {Q:Value->Shared->Prop} {c:Value} {b:Bool}
inductive TyOf (K:W.Frag) (H:Hp):V->Value->Prop where
 | non:TyOf K H .non (.type "NoneType")
 | bl (x:Bool):TyOf K H (.bl x) (.type "bool")
 | int (i:Int):TyOf K H (.int i) (.type "int")
 | str (x:Str):TyOf K H (.str x) (.type "str")
 | flt (x:UInt64):TyOf K H (.flt x) (.type "float")
 | lst {a:Addr} {xs:List V} (e:H a=some (.lst xs)):TyOf K H (.ref a) (.type "list")
 | frz {a:Addr} {o:Obj} {xs:List V} (e:H a=some (.frz o (.lst xs))):TyOf K H (.ref a) (.type "list")
 | tup {a:Addr} {xs:List V} (e:H a=some (.tup xs)):TyOf K H (.ref a) (.type "tuple")
 | dK {a:Addr} {kvs:List (Key×V)} (e:H a=some (.dK kvs)):TyOf K H (.ref a) (.type "dict")
 | dT {a:Addr} {kvs:List (List Key×V)} (e:H a=some (.dT kvs)):TyOf K H (.ref a) (.type "dict")
 | ins {a C dx:Addr} {fs:List (Str×V)} (e:H a=some (.ins C dx fs)) (cl:Cls K C) (ha:W.findIn K (.ref C) "__class__"=some (some (.builtin "object.__class__")))
   (hn:W.specialIn K (.builtin "object.__class__") "__get__"=some (some (.builtin "getset_descriptor.__get__"))) (htk:W.takesIn K (.builtin "object.__class__")=some true)
   (hm:W.mroIn K C (.type "object")=some true):TyOf K H (.ref a) (.ref C)
theorem isinst_ok {x:V} {u t:Value} (I:Inv X pins σ H s) (rx:RelV x u) (ty:TyOf X.K H x t) (e:W.kitOne X.K t c=some b) (h:∀ tk,Q (.bool b) { s with toks:=tk }) :
  wpAny (model X.prog X.w) A (call (.builtin "isinstance") [u,c]) Q E s:=by
 cases ty with
 | non=>cases (show u=Value.none from rx);exact W.kia_one W.kitx_none I.kIn True.intro e (λz=>nomatch z) h
 | bl y=>cases (show u=Value.bool y from rx);exact W.kia_one W.kitx_bool I.kIn True.intro e (λz=>nomatch z) h
 | int i=>obtain ⟨t,q⟩:=(show ∃ t,u=Value.int i t from rx);cases q;exact W.kia_one W.kitx_int I.kIn True.intro e (λz=>nomatch z) h
 | str y=>obtain ⟨t,q⟩:=(show ∃ t,u=Value.str y t from rx);cases q;exact W.kia_one W.kitx_str I.kIn True.intro e (λz=>nomatch z) h
 | flt y=>obtain ⟨t,q⟩:=(show ∃ t,u=Value.float y t from rx);cases q;exact W.kia_one W.kitx_float I.kIn True.intro e (λz=>nomatch z) h
 | @lst a xs ea =>
  cases (show u=Value.ref a from rx)
  obtain ⟨_,_,n,_,h1⟩:=(show zcG X.prog X.w H s.heap a (.lst xs) from I.hok a _ ea)
  exact W.kia_one W.kitx_list I.kIn ⟨_,h1,rfl⟩ e (λz=>nomatch z) h
 | @frz a ob xs ea =>
  cases (show u=Value.ref a from rx)
  obtain ⟨_,_,_,n,_,h1⟩:=(show zcG X.prog X.w H s.heap a (.frz ob (.lst xs)) from I.hok a _ ea)
  exact W.kia_one W.kitx_list I.kIn ⟨_,h1,rfl⟩ e (λz=>nomatch z) h
 | @tup a xs ea =>
  cases (show u=Value.ref a from rx)
  obtain ⟨_,_,_,p⟩:=(show zcG X.prog X.w H s.heap a (.tup xs) from I.hok a _ ea)
  obtain ⟨o,h1,h2,_⟩:=p
  exact W.kia_one W.kitx_tuple I.kIn ⟨o,h1,h2⟩ e (λz=>nomatch z) h
 | @dK a kvs ea =>
  cases (show u=Value.ref a from rx)
  obtain ⟨_,_,vs,_,p⟩:=(show zcG X.prog X.w H s.heap a (.dK kvs) from I.hok a _ ea)
  obtain ⟨o,es,ep,h1,h2,_⟩:=p
  exact W.kia_one W.kitx_dict I.kIn ⟨o,h1,h2.1⟩ e (λz=>nomatch z) h
 | @dT a kvs ea =>
  cases (show u=Value.ref a from rx)
  obtain ⟨_,_,xs,_,o,es,ep,h1,h2,_⟩:=(show zcG X.prog X.w H s.heap a (.dT kvs) from I.hok a _ ea)
  exact W.kia_one W.kitx_dict I.kIn ⟨o,h1,h2.1⟩ e (λz=>nomatch z) h
 | @ins a C dx fs ea cl ha hn htk hm =>
  cases (show u=Value.ref a from rx)
  obtain ⟨mA,O,_⟩:=zhp I.hok ea
  obtain ⟨od,J,_⟩:=O.look
  exact W.kia_one (W.kitx_own (cl.get _) cl.hd ha hn htk hm) I.kIn J e (λz=>nomatch z) h
end
end L2
namespace L2
open PySem PySem.Spec PyProof.Rows
structure Room (k:Nat) (A:Around):Prop where
 hd:A.handled=none
 dp:A.depth+3*k+5<recursionLimit
 un:A.units+16*k+200<cLine
theorem Room.mono {j k:Nat} {A:Around} (r:Room k A) (h:j≤k):Room j A:=⟨r.hd,by have:=r.dp;omega,by have:=r.un;omega⟩
theorem Room.deeper {k:Nat} {A:Around} (r:Room (k+1) A) (env:Env):Room k (A.deeper env) :=
 ⟨r.hd,by have:=r.dp;show A.depth+1+3*k+5<_;omega,by have:=r.un;show A.units+3+16*k+200<_;omega⟩
theorem Room.in1 {k:Nat} {A:Around} (r:Room (k+1) A):Room k A.in1 :=
 ⟨r.hd,by have:=r.dp;show A.depth+3*k+5<_;omega,by have:=r.un;show A.units+1+16*k+200<_;omega⟩
theorem zig {A:Around} {C:Addr} {us:List Value} {kw:List (Str×Value)}:(A.under (.builtin "type.__call__" ⟨.ref C :: us,kw⟩)).depth=A.depth+1:=by
 first | rfl | simp [Around.under,Code.weight,Code.isCreation,Code.isGuard,Code.isCaller,Code.frames,Code.isFrame,guardIds]
theorem zik {A:Around} {C:Addr} {us:List Value} {kw:List (Str×Value)}:(A.under (.builtin "type.__call__" ⟨.ref C :: us,kw⟩)).units=A.units+1:=by
 first | rfl | simp [Around.under,Code.cUnits,Code.frames,Code.isFrame]
theorem Room.make {k:Nat} {A:Around} (r:Room (k+1) A) (C:Addr) (us:List Value) (kw:List (Str×Value)):Room k (A.under (.builtin "type.__call__" ⟨.ref C :: us,kw⟩)) :=
 ⟨r.hd,by have:=r.dp;rw [zig];omega,by have:=r.un;rw [zik];omega⟩
theorem Room.depth {k:Nat} {A:Around} (r:Room k A):A.depth<recursionLimit:=by have:=r.dp;omega
theorem Room.units {k:Nat} {A:Around} (r:Room k A):A.units+64<cLine:=by have:=r.un;omega
def tNil:TA:=λ_ H Q=>Q [] H
def tCons (ta:TE) (tr:TA):TA:=λσ H Q=>ta σ H λx H1=>tr σ H1 λxs H2=>Q (x :: xs) H2
section
variable {X:Cx} {e:Expr} {es:List Expr} {te:TE} {t:TA} {pos:Pos}
theorem pa_nil:PA X [] tNil:=λ_ _ _ _ H Q I h=>Calls.spliced_nil ⟨[],H,I,.nil,h⟩
theorem pa_cons (ha:PE X e te) (hr:PA X es t) (hs:starEach (e :: es) X.env=(false,eval e X.env) :: starEach es X.env:=by rfl):PA X (e :: es) (tCons te t):=by
 intro pos pins s σ H Q I h
 rw [hs]
 show wpAny _ _ (spliced ((false,eval e X.env) :: backTo pos (starEach es X.env))) _ _ s
 refine Calls.spliced_cons (thn (ha pins s σ H _ I h) λu s1 ⟨x,H1,I1,r1,q1⟩=>?_)
 exact thn (hr pos pins s1 σ H1 _ I1 q1) λus s2 ⟨xs,H2,I2,r2,q2⟩=>⟨x :: xs,H2,I2,.cons r1 r2,q2⟩
def zpo (t:TA):TE:=λσ H Q=>t σ H λxs H1=>xs.length≤sizeLine∧∀ p,H1 p=none->Q (.ref p) (upd H1 p (.tup xs))
def zoj (t:TA):TE:=λσ H Q=>t σ H λxs H1=>xs.length≤sizeLine∧∀ p,H1 p=none->Q (.ref p) (upd H1 p (.lst xs))
theorem zgR {x1} (h:PA X es t):PE X (.Tuple es x1 pos) (zpo t):=by
 intro pins s σ H Q I hq
 refine wpAny_Tuple_spliced (thn (h pos pins s σ H _ I hq) λus s1 ⟨xs,H1,I1,r,z,q⟩=>⟨by rw [← r.length];exact z,?_⟩)
 have hf:H1 s1.heap.objs.size=none:=I1.hok.fresh (Nat.le_refl _)
 refine ⟨.ref s1.heap.objs.size,upd H1 s1.heap.objs.size (.tup xs),I1.laid (t':=s1.toks) (λb u e=>Heap.get?_push_of_some _ e) (Nat.le_refl _) ?_,rfl,q _ hf⟩
 exact ⟨z,us,r,⟨_,Heap.get?_push_size _ rfl,rfl,_,rfl⟩⟩
theorem zcP (h:PA X es t):PE X (.List es pos) (zoj t):=by
 intro pins s σ H Q I hq
 refine wpAny_List_spliced (thn (h pos pins s σ H _ I hq) λus s1 ⟨xs,H1,I1,r,z,q⟩=>⟨by rw [← r.length];exact z,?_⟩)
 have hf:H1 s1.heap.objs.size=none:=I1.hok.fresh (Nat.le_refl _)
 refine ⟨.ref s1.heap.objs.size,upd H1 s1.heap.objs.size (.lst xs),I1.laid (t':=s1.toks) (λb u e=>Heap.get?_push_of_some _ e) (Nat.le_refl _) ?_,rfl,q _ hf⟩
 exact ⟨z,us,0,r,Heap.get?_push_size _ rfl⟩
end
abbrev Sp:=List V->Hp->VK->XK->Prop
abbrev CXT:=List Env->Hp->Shared->XK->Value->Shared->Prop
structure Env0 (P:Program) (w:World) (K:W.Frag) (mg:Str->Option Value) (base:Heap) (A:Around) (outer:List Env) (s:Shared) (H:Hp):Prop where
 frames:A.frames=some outer
 mod:Mod K mg base
 bs:∀ b o,base.get? b=some o->s.heap.get? b=some o∧H b=none
 bsz:base.objs.size≤s.heap.objs.size
 funs:s.heap.FunFrames base outer
 frf:∀ b∈frs outer,H b=none
 hok:HOk P w H s.heap
 bare:AllBare s.gens
def CE (outer:List Env) (P:Program) (w:World) (H:Hp) (s:Shared) (Q:VK) (u:Value) (s':Shared):Prop :=
 ∃ v H',s'.os=s.os∧AllBare s'.gens∧Un (frs outer) [] H H' s.heap s'.heap∧HOk P w H' s'.heap∧RelV v u∧Q v H'
def CR (CX:CXT) (outer:List Env) (P:Program) (w:World) (H:Hp) (s:Shared) (Q:VK) (E:XK) (r:Result) (s':Shared):Prop :=
 match r with
 | .ok (.ret u)=>CE outer P w H s Q u s'
 | .ok _=>False
 | .error e=>CX outer H s E e s'
structure FnOk (P:Program) (w:World) (K:W.Frag) (mg:Str->Option Value) (base:Heap) (CX:CXT) (k:Nat) (f:Addr) (fd:FuncData) (ps:List Str) (sp:Sp):Prop where
 len:∀ vs H Q E,sp vs H Q E->vs.length=ps.length
 run:∀ (A:Around) (outer:List Env) (s:Shared) (H:Hp) (args:Args) (us:List Value) (vs:List V) (Q:VK) (E:XK),Room k A->Env0 P w K mg base A outer s H->BindsTo s fd args (ps.zip us)->Vals vs us->sp vs H Q E →
  codeAny (model P w) A (.call (.ref f) args) (CR CX outer P w H s Q E) s
theorem FnOk.imp {P:Program} {w:World} {K:W.Frag} {mg:Str->Option Value} {base:Heap} {CX:CXT} {k:Nat} {f:Addr} {fd:FuncData} {ps:List Str} {sp sp':Sp} (F:FnOk P w K mg base CX k f fd ps sp)
  (h:∀ vs H Q E,sp' vs H Q E->sp vs H Q E):FnOk P w K mg base CX k f fd ps sp' :=
 ⟨λvs H Q E q=>F.len vs H Q E (h _ _ _ _ q),λA outer s H args us vs Q E hr he hb hv hs=>F.run A outer s H args us vs Q E hr he hb hv (h _ _ _ _ hs)⟩
theorem Env0.make {P:Program} {w:World} {K:W.Frag} {mg:Str->Option Value} {base:Heap} {A:Around} {outer:List Env} {s:Shared} {H:Hp} (e:Env0 P w K mg base A outer s H) (C:Addr) (us:List Value) (kw:List (Str×Value)) :
  Env0 P w K mg base (A.under (.builtin "type.__call__" ⟨.ref C :: us,kw⟩)) outer s H:=⟨by first | exact e.frames | (simpa [Around.under,Code.envs,Code.isFrame,pushEnvs] using e.frames),e.mod,e.bs,e.bsz,e.funs,e.frf,e.hok,e.bare⟩
theorem Env0.in1 {P:Program} {w:World} {K:W.Frag} {mg:Str->Option Value} {base:Heap} {A:Around} {outer:List Env} {s:Shared} {H:Hp} (e:Env0 P w K mg base A outer s H) :
  Env0 P w K mg base A.in1 outer s H:=⟨e.frames,e.mod,e.bs,e.bsz,e.funs,e.frf,e.hok,e.bare⟩
section
variable {X:Cx} {pins:List (Addr×Obj)} {σ:St} {H:Hp} {s s':Shared}
theorem Inv.env0 (I:Inv X pins σ H s):Env0 X.prog X.w X.K X.mg X.base X.A X.stack s H :=
 ⟨I.ok.frames,I.ok.mod,I.bs,Nat.le_trans I.ok.bsz I.sz,I.stack,I.stkFree,I.hok,I.bare⟩
theorem Inv.after {Q:VK} {u:Value} (I:Inv X pins σ H s) (h:CE X.stack X.prog X.w H s Q u s'):EP X pins σ Q u s':=by
 obtain ⟨v,H',os,bare,un,hok,r,q⟩:=h
 obtain ⟨hh,g,d,t,os'⟩:=s'
 obtain rfl:os'=s.os:=os
 exact ⟨v,H',I.call (h':=hh) (g':=g) (d':=d) (t':=t) (ch:=[]) un hok bare (λb z=>absurd z (by simp)),r,q⟩
end
def tCall (sp:Sp) (dvs:List V) (E:XK) (t:TA):TE:=λσ H Q=>t σ H λvs H1=>sp (vs++dvs) H1 Q E
def zmT (C:Addr) (sp:Sp) (dvs:List V) (E:XK) (t:TA):TE:=λσ H Q=>t σ H λvs H1=>∀ x dx,H1 x=none->H1 dx=none->dx≠x →
 sp (.ref x :: (vs++dvs)) (upd (upd H1 dx (.own x)) x (.ins C dx [])) (λv H2=>v=.non∧Q (.ref x) H2) E
def ze2 (K:W.Frag) (fd:FuncData) (ps:List Str) (ds:List Value):Prop :=
 ∀ (s:Shared) (us:List Value),K.In s.heap->(us++ds).length=ps.length->BindsTo s fd ⟨us,[]⟩ (ps.zip (us++ds))
theorem ze2.all {K:W.Frag} {fd:FuncData} {ps:List Str} (h:∀ us:List Value,us.length=ps.length->bindArgs fd ⟨us,[]⟩=pure (ps.zip us)):ze2 K fd ps []:=λs us _ hl=>by
 rw [List.append_nil] at hl ⊢
 exact .of_eq (h us hl)
def zfy (CX:CXT) (X:Cx) (E:XK):Prop:=∀ (pins:List (Addr×Obj)) (σ:St) (H:Hp) (s:Shared) (e:Value) (s':Shared),Inv X pins σ H s->CX X.stack H s E e s'->X.xe e s'
section
variable {X:Cx} {CX:CXT} {k:Nat} {f C:Addr} {fd:FuncData} {ps:List Str} {sp:Sp} {dvs:List V} {ds:List Value} {E:XK} {x m:Str} {p pos apos:Pos} {e o:Expr} {es:List Expr} {ta:TE} {t:TA}
theorem znB {pins:List (Addr×Obj)} {σ:St} {H:Hp} {s:Shared} {Q:VK} {us:List Value} {vs:List V} (F:FnOk X.prog X.w X.K X.mg X.base CX k f fd ps sp) (hr:Room k X.A) (hb:ze2 X.K fd ps ds) (hd:Vals dvs ds) (hx:zfy CX X E)
  (I:Inv X pins σ H s) (r:Vals vs us) (h:sp (vs++dvs) H Q E):wpAny (model X.prog X.w) X.A (call (.ref f) us) (EP X pins σ Q) X.xe s:=by
 have r2:Vals (vs++dvs) (us++ds):=r.append hd
 have hl:(us++ds).length=ps.length:=by rw [← r2.length];exact F.len _ _ _ _ h
 refine wpAny_call (codeAny_mono (F.run X.A X.stack s H ⟨us,[]⟩ (us++ds) (vs++dvs) Q E hr I.env0 (hb s us I.kIn hl) r2 h) λr s' hq=>?_)
 cases r with
 | error e=>exact hx pins σ H s e s' I hq
 | ok fl =>
  cases fl with
  | ret u=>exact I.after hq
  | next=>exact False.elim hq
  | brk=>exact False.elim hq
  | cont=>exact False.elim hq
theorem zl9 (F:FnOk X.prog X.w X.K X.mg X.base CX k f fd ps sp) (hr:Room k X.A) (hg:Gl X x) (hm:X.mg x=some (.ref f)) (hk:W.keepIn X.K (.ref f)=true) (hb:ze2 X.K fd ps ds) (hd:Vals dvs ds) (hx:zfy CX X E)
  (ha:PA X (e :: es) t) (hdb:(x == ("__debug__":Str))=false:=by decide) (he:starEach (e :: es) X.env=(false,eval e X.env) :: starEach es X.env:=by rfl) (hpl:(backTo pos (starEach es X.env)).any (·.1)=false:=by rfl) :
  PE X (.Call (.Name x p) (e :: es) [] pos) (tCall sp dvs E t):=by
 intro pins s σ H Q I h
 refine wpAny_Call_Name_kw (ld_glob I hg hm ?_ hdb)
 refine W.callWith_K (h₀:=X.base) I.ok.mod.kin hk (thn (ha pos pins s σ H _ I h) λus s1 ⟨vs,H1,I1,r,q⟩=>⟨I1.kIn,?_⟩) he hpl
 exact znB F hr hb hd hx I1 r q
structure Mk (K:W.Frag) (C f:Addr):Prop where
 makes:W.makesIn K C=true
 init:W.findIn K (.ref C) "__init__"=some (some (.ref f))
 fn:W.isFn K (.ref f)=true
 kp:W.keepIn K (.ref C)=true
theorem zkV {pins:List (Addr×Obj)} {σ:St} {H:Hp} {s:Shared} {Q:VK} {us:List Value} {vs:List V} (M:Mk X.K C f) (F:FnOk X.prog X.w X.K X.mg X.base CX k f fd ps sp) (hr:Room (k+1) X.A) (hb:ze2 X.K fd ps ds) (hd:Vals dvs ds)
  (hx:zfy CX X E) (I:Inv X pins σ H s) (r:Vals vs us)
  (h:∀ x dx,H x=none->H dx=none->dx≠x->sp (.ref x :: (vs++dvs)) (upd (upd H dx (.own x)) x (.ins C dx [])) (λv H2=>v=.non∧Q (.ref x) H2) E) :
  wpAny (model X.prog X.w) X.A (call (.ref C) us) (EP X pins σ Q) X.xe s:=by
 have hq:=h (s.heap.objs.size+1) s.heap.objs.size (I.hok.fresh (Nat.le_succ _)) (I.hok.fresh (Nat.le_refl _)) (Nat.ne_of_lt (Nat.lt_succ_self _))
 have I2:=Inv.made (C:=C) I
 have r2:Vals (V.ref (s.heap.objs.size+1) :: (vs++dvs)) (Value.ref (s.heap.objs.size+1) :: (us++ds)):=.cons rfl (r.append hd)
 have hl:(Value.ref (s.heap.objs.size+1) :: us++ds).length=ps.length:=by
  have e:=r2.length
  rw [F.len _ _ _ _ hq] at e
  exact e.symm
 refine wpAny_call (zkT (f:=f) I.kIn M.makes M.init (beq_iff_eq.mp M.fn) (codeAny_mono (F.run _ X.stack _ _ ⟨Value.ref (s.heap.objs.size+1) :: us,[]⟩ (Value.ref (s.heap.objs.size+1) :: (us++ds)) _ _ E (hr.make C us [])
  (I2.env0.make C us []) (hb _ (Value.ref (s.heap.objs.size+1) :: us) I2.kIn hl) r2 hq) λr s' hq'=>?_))
 cases r with
 | error e=>exact hx pins σ _ _ e s' I2 hq'
 | ok fl =>
  cases fl with
  | ret u =>
   obtain ⟨v,H',I3,rv,ev,q3⟩:=I2.after hq'
   subst ev
   exact ⟨rv,⟨V.ref (s.heap.objs.size+1),H',I3,rfl,q3⟩⟩
  | next=>exact False.elim hq'
  | brk=>exact False.elim hq'
  | cont=>exact False.elim hq'
theorem zji (M:Mk X.K C f) (F:FnOk X.prog X.w X.K X.mg X.base CX k f fd ps sp) (hr:Room (k+1) X.A) (hg:Gl X x) (hm:X.mg x=some (.ref C)) (hb:ze2 X.K fd ps ds) (hd:Vals dvs ds) (hx:zfy CX X E)
  (ha:PA X (e :: es) t) (hdb:(x == ("__debug__":Str))=false:=by decide) (he:starEach (e :: es) X.env=(false,eval e X.env) :: starEach es X.env:=by rfl) (hpl:(backTo pos (starEach es X.env)).any (·.1)=false:=by rfl) :
  PE X (.Call (.Name x p) (e :: es) [] pos) (zmT C sp dvs E t):=by
 intro pins s σ H Q I h
 refine wpAny_Call_Name_kw (ld_glob I hg hm ?_ hdb)
 refine W.callWith_K (h₀:=X.base) I.ok.mod.kin M.kp (thn (ha pos pins s σ H _ I h) λus s1 ⟨vs,H1,I1,r,q⟩=>⟨I1.kIn,?_⟩) he hpl
 exact zkV M F hr hb hd hx I1 r q
end
section
variable {X:Cx} {CX:CXT} {k:Nat} {f C:Addr} {fd:FuncData} {ps ks:List Str} {sp:Sp} {E:XK} {x m:Str} {p pos apos kpos:Pos} {e o:Expr} {es:List Expr} {kws:List Keyword} {te ta:TE} {t tk:TA} {nm:Option Str}
structure KBinds (K:W.Frag) (fd:FuncData) (ps ks:List Str) (g:List Value->List Value->List Value) (gV:List V->List V->List V):Prop where
 to:∀ (s:Shared) (us ws:List Value),K.In s.heap->(g us ws).length=ps.length->BindsTo s fd ⟨us,ks.zip ws⟩ (ps.zip (g us ws))
 rel:∀ {vs:List V} {us:List Value} {zs:List V} {ws:List Value},Vals vs us->Vals zs ws->Vals (gV vs zs) (g us ws)
variable {g:List Value->List Value->List Value} {gV:List V->List V->List V}
end
structure FnScope (N P:List Str) (sc:Scope):Prop where
 kind:sc.kind=.function
 co:sc.isCoroutine=false
 gen:sc.isGenerator=false
 nd:N.Nodup
 pre:N.take P.length=P
 par:∀ x∈P,sc.names.lookup x=some .local∨sc.names.lookup x=some .cell
 nofree:∀ y∈sc.names,y.2≠.free
theorem zgx {kindOf:Str->Option NameKind} {x:Str}:∀ {binds:List (Str×Value)} {m:Str->Option Value},(∀ v,(x,v) ∉ binds)->bindL kindOf binds m x=m x
 | [],_,_=>rfl
 | (n,v) :: r,m,h=>by
  unfold bindL
  rw [zgx λw hw=>h w (List.mem_cons_of_mem _ hw)]
  split
  ·have:x≠n:=by rintro rfl;exact h v List.mem_cons_self
   simp [this]
  ·rfl
theorem bindC_out {kindOf:Str->Option NameKind} {x:Str}:∀ {binds:List (Str×Value)} {m:Str->Option Value},(∀ v,(x,v) ∉ binds)->bindC kindOf binds m x=m x
 | [],_,_=>rfl
 | (n,v) :: r,m,h=>by
  unfold bindC
  rw [bindC_out λw hw=>h w (List.mem_cons_of_mem _ hw)]
  split
  ·rfl
  ·have:x≠n:=by rintro rfl;exact h v List.mem_cons_self
   simp [this]
theorem bindL_get {kindOf:Str->Option NameKind} {x:Str} {v:Value}:∀ {P:List Str} {vs:List Value} {i:Nat} {m:Str->Option Value},P.Nodup->P[i]?=some x->vs[i]?=some v->kindOf x=some .local →
  bindL kindOf (P.zip vs) m x=some v
 | [],_,_,_,_,h,_,_=>by simp at h
 | _ :: _,[],_,_,_,_,h,_=>by simp at h
 | p :: P,w :: vs,0,m,nd,h1,h2,hk=>by
  simp at h1 h2;subst h1;subst h2
  show bindL kindOf ((p,w) :: P.zip vs) m p=_
  unfold bindL
  rw [zgx λv hv=>(List.nodup_cons.mp nd).1 (List.of_mem_zip hv).1,if_pos hk]
  simp
 | p :: P,w :: vs,i+1,m,nd,h1,h2,hk=>by
  show bindL kindOf ((p,w) :: P.zip vs) m x=_
  unfold bindL
  exact bindL_get (i:=i) (List.nodup_cons.mp nd).2 (by simpa using h1) (by simpa using h2) hk
theorem zgz {kindOf:Str->Option NameKind} {x:Str} {v:Value}:∀ {P:List Str} {vs:List Value} {i:Nat} {m:Str->Option Value},P.Nodup->P[i]?=some x->vs[i]?=some v->kindOf x≠some .local →
  bindC kindOf (P.zip vs) m x=some v
 | [],_,_,_,_,h,_,_=>by simp at h
 | _ :: _,[],_,_,_,_,h,_=>by simp at h
 | p :: P,w :: vs,0,m,nd,h1,h2,hk=>by
  simp at h1 h2;subst h1;subst h2
  show bindC kindOf ((p,w) :: P.zip vs) m p=_
  unfold bindC
  rw [bindC_out λv hv=>(List.nodup_cons.mp nd).1 (List.of_mem_zip hv).1,if_neg hk]
  simp
 | p :: P,w :: vs,i+1,m,nd,h1,h2,hk=>by
  show bindC kindOf ((p,w) :: P.zip vs) m x=_
  unfold bindC
  exact zgz (i:=i) (List.nodup_cons.mp nd).2 (by simpa using h1) (by simpa using h2) hk
def start (N:List Str) (vs:List V):St:=vs.map some++List.replicate (N.length-vs.length) none
def ziz (CX:CXT) (P:Program) (w:World) (K:W.Frag) (mg:Str->Option Value) (base:Heap) (N:List Str) (qual:Str) (scope:Scope) (f:Addr) (cd:Value) (A:Around) (outer:List Env) (s:Shared) (H:Hp) (E:XK):Cx where
 prog:=P
 w:=w
 K:=K
 mg:=mg
 base:=base
 A:=A.deeper (envOfC qual scope s.heap.objs.size f cd)
 N:=N
 s₀:=s
 H₀:=H
 env:=envOfC qual scope s.heap.objs.size f cd
 outer:=outer
 stack:=envOfC qual scope s.heap.objs.size f cd :: outer
 ex:=[]
 calm:=true
 fn:=λ_=>true
 pn:=[]
 xe:=λe s'=>wpAny (model P w) (A.deeper (envOfC qual scope s.heap.objs.size f cd)) (leaving (envOfC qual scope s.heap.objs.size f cd) e) (λ_ s''=>CX outer H s E e s'') (λe' s''=>CX outer H s E e' s'') s'
theorem zhJ {sc:Scope} {n:Nat} {x:Str} (h:sc.names.lookup x=some .cell):∃ c,(cellsFrom n sc.names []).lookup x=some c:=by
 have q:=W.cellsFrom_some sc.names n [] (.inl h)
 exact Option.isSome_iff_exists.mp q
theorem ziA {CX:CXT} {P:Program} {w:World} {K:W.Frag} {mg:Str->Option Value} {base:Heap} {N ps:List Str} {qual:Str} {scope:Scope} {f:Addr} {cd:Value} {A:Around} {outer:List Env} {s s1:Shared} {H:Hp} {E:XK} {us:List Value} {vs:List V}
  (S:FnScope N ps scope) (hd:A.handled=none) (e0:Env0 P w K mg base A outer s H) (hl:vs.length=ps.length) (r:Vals vs us)
  (x:InCallC s s.heap.objs.size (bindL (envOfC qual scope s.heap.objs.size f cd).kindOf (ps.zip us) λ_=>none) (cellsFrom (s.heap.objs.size+1) scope.names []) (bindC (envOfC qual scope s.heap.objs.size f cd).kindOf (ps.zip us) λ_=>none) s1) :
  Inv (ziz CX P w K mg base N qual scope f cd A outer s H E) [] (start N vs) H s1:=by
 have hpl:ps.length≤N.length:=by have:=congrArg List.length S.pre;rw [List.length_take] at this;omega
 obtain ⟨h1,tk,rfl,hk⟩:=x.done
 have noA:∀ b:Addr,b ∉ (ziz CX P w K mg base N qual scope f cd A outer s H E).ex:=λb z=>absurd (show b∈([]:List Addr) from z) (by simp)
 refine ⟨⟨e0.mod,S.kind,rfl,rfl,Nat.le_refl _,λy z c h1 h2=>?_,λy hy=>?_,λy c _ h=>?_,λ_=>hd,Around.frames_deeper e0.frames,.inr ⟨rfl,rfl⟩,λb z=>absurd z (noA b),e0.bs,e0.bsz,λb _ _=>noA b,λb z=>absurd z (noA b),e0.funs,e0.frf⟩,
  rfl,e0.bare,Un.kept hk,⟨_,x.toInCall.ns,λi y v h1 h2 h3=>?_⟩,λy c h=>⟨_,x.cell y c h⟩,e0.hok.fresh (Nat.le_refl _),λy c h=>?_,λp hp=>absurd (show p∈([]:List (Addr×Obj)) from hp) (by simp),e0.hok.kept hk,?_⟩
 ·exact name_of_addr x.apart (PySem.mem_of_lookup h1) (PySem.mem_of_lookup h2)
 ·have hy:scope.names.lookup y=some .cell∨scope.names.lookup y=some .free:=hy
  rcases hy with hy | hy
  ·exact zhJ hy
  ·exact absurd rfl (S.nofree _ (PySem.mem_of_lookup hy))
 ·exact Nat.le_of_lt (x.above y c (PySem.mem_of_lookup h))
 ·have hi:i<vs.length:=by
   unfold start at h2
   by_cases hi:i<vs.length
   ·exact hi
   ·rw [List.getElem?_append_right (by simpa using hi)] at h2
    rw [List.getElem?_replicate] at h2
    split at h2<;>cases h2
  have ha:vs[i]?=some v:=by
   unfold start at h2
   rw [List.getElem?_append_left (by simpa using hi),List.getElem?_map] at h2
   cases e:vs[i]? with
   | none=>rw [e] at h2;cases h2
   | some a=>rw [e] at h2;cases h2;rfl
  obtain ⟨u,hu,rv⟩:=r.get ha
  have hp:ps[i]?=some y:=by
   rw [← S.pre,List.getElem?_take_of_lt (by omega)];exact h1
  have ndP:ps.Nodup:=by rw [← S.pre];exact S.nd.sublist (List.take_sublist _ _)
  refine ⟨u,rv,?_⟩
  rcases S.par y (List.mem_of_getElem? hp) with k | k
  ·exact .inl ⟨k,bindL_get ndP hp hu k⟩
  ·obtain ⟨c,e⟩:=zhJ (n:=s.heap.objs.size+1) k
   refine .inr ⟨.inl k,c,e,?_⟩
   have q:=x.cell y c e
   rw [zgz ndP hp hu (by show scope.names.lookup y≠_;rw [k];decide)] at q
   exact q
 ·exact e0.hok.fresh (Nat.le_of_lt (x.above y c (PySem.mem_of_lookup h)))
 ·unfold start
  show _=N.length
  rw [List.length_append,List.length_map,List.length_replicate]
  omega
theorem zoQ {CX:CXT} {P:Program} {w:World} {K:W.Frag} {mg:Str->Option Value} {base:Heap} {k:Nat} {f:Addr} {name qual:Str} {params:Arguments} {body:List Stmt} {scope:Scope} {dV kV doc pm cdv ct oc:Value} {an od:Option Addr}
  {osl:Array (Option Value)} {N ps:List Str} {sp:Sp} (lk:K.lookup f=some ⟨oc,od,.func (W.fnOf name qual params body scope dV kV doc pm an cdv ct),osl⟩) (hcd:W.codeIn K cdv qual=true) (S:FnScope N ps scope)
  (len:∀ vs H Q E,sp vs H Q E->vs.length=ps.length)
  (hbody:∀ (A:Around) (outer:List Env) (s:Shared) (H:Hp) (vs:List V) (Q:VK) (E:XK),Room k (A.deeper (envOfC qual scope s.heap.objs.size f cdv))->sp vs H Q E →
   ∃ t,PSs (ziz CX P w K mg base N qual scope f cdv A outer s H E) body t∧t { nx:=λ_ H'=>Q .non H',rt:=Q } (start N vs) H) :
  FnOk P w K mg base CX (k+1) f (W.fnOf name qual params body scope dV kV doc pm an cdv ct) ps sp:=by
 refine ⟨len,λA outer s H args us vs Q E hr e0 hb r hsp=>?_⟩
 have hl:=len _ _ _ _ hsp
 have KX:K.In s.heap:=e0.mod.kin.keeps λb o e=>(e0.bs b o e).1
 have lim:s.heap.NoLimit:=e0.mod.nolimit.keeps λb o e=>(e0.bs b o e).1
 have hkind:∀ y∈ps.zip us,scope.names.lookup y.1=some .local∨(scope.names.lookup y.1=some .cell∧((cellsFrom (s.heap.objs.size+1) scope.names []).lookup y.1).isSome=true):=λ⟨n,v⟩ hy=>by
  rcases S.par n (List.of_mem_zip hy).1 with q | q
  ·exact .inl q
  ·exact .inr ⟨q,W.cellsFrom_some _ _ _ (.inl q)⟩
 refine codeAny_call_function hr.depth (KX _ _ lk) rfl S.co S.gen rfl (W.codeRec_of KX hcd) (hb _ _ _ _ ?_)
 refine wpAny_newFunctionEnv_cells S.kind hkind λenv he s1 x=>?_
 subst he
 refine ⟨lim.keeps x.toInCall.keep,codeAny_func ?_⟩
 obtain ⟨t,ht,hq⟩:=hbody A outer s H vs Q E (hr.deeper _) hsp
 have I:Inv (ziz CX P w K mg base N qual scope f cdv A outer s H E) [] (start N vs) H s1:=ziA S hr.hd e0 hl r x
 refine wpAny_mono (ht [] s1 (start N vs) H _ I hq) (λfl s' hs=>?_) λe s' hs=>hs
 have fin:∀ {σ':St} {H':Hp} {v:V} {u:Value},Inv (ziz CX P w K mg base N qual scope f cdv A outer s H E) [] σ' H' s'->RelV v u->Q v H'->CE outer P w H s Q u s' :=
  λ{σ' H' v u} J rv q=>⟨v,H',J.os,J.bare,J.base,J.hok,rv,q⟩
 cases fl with
 | ret u =>
  obtain ⟨v,σ',H',J,rv,q⟩:=hs
  exact fin J rv q
 | next =>
  obtain ⟨σ',H',J,q⟩:=hs
  exact fin (v:=V.non) (u:=Value.none) J rfl q
 | brk =>
  obtain ⟨_,_,_,q⟩:=hs
  exact False.elim q
 | cont =>
  obtain ⟨_,_,_,q⟩:=hs
  exact False.elim q
end L2
namespace L2
open PySem PySem.Spec PyProof.Rows
section
variable {X:Cx} {x:Str} {p pos:Pos} {e:Expr} {es:List Expr} {t:TA} {id T:String} {r:List V->Hp->VK->Prop}
def tCB (r:List V->Hp->VK->Prop) (t:TA):TE:=λσ H Q=>t σ H λvs H1=>r vs H1 Q
theorem pe_callB (hc:zdZ X (.builtin id) r) (hg:Gl X x) (hm:X.mg x=none) (hv:bootBuiltins x=some (.builtin id)) (ha:PA X (e :: es) t) (hn:x≠"__name__":=by decide) (hdb:(x == ("__debug__":Str))=false:=by decide)
  (he:starEach (e :: es) X.env=(false,eval e X.env) :: starEach es X.env:=by rfl) (hpl:(backTo pos (starEach es X.env)).any (·.1)=false:=by rfl):PE X (.Call (.Name x p) (e :: es) [] pos) (tCB r t):=by
 intro pins s σ H Q I h
 refine wpAny_Call_Name_kw (ld_blt I hg hm hv ?_ hn hdb)
 exact PyProof.Rows.callWith_builtin1 (thn (ha pos pins s σ H _ I h) λus s1 ⟨vs,H1,I1,r1,q1⟩=>hc pins s1 σ H1 vs us Q I1 r1 q1) he hpl
theorem zcu (hc:zdZ X (.type T) r) (hg:Gl X x) (hm:X.mg x=none) (hv:bootBuiltins x=some (.type T)) (ha:PA X (e :: es) t) (hn:x≠"__name__":=by decide) (hdb:(x == ("__debug__":Str))=false:=by decide)
  (he:starEach (e :: es) X.env=(false,eval e X.env) :: starEach es X.env:=by rfl) (hpl:(backTo pos (starEach es X.env)).any (·.1)=false:=by rfl):PE X (.Call (.Name x p) (e :: es) [] pos) (tCB r t):=by
 intro pins s σ H Q I h
 refine wpAny_Call_Name_kw (ld_blt I hg hm hv ?_ hn hdb)
 exact PyProof.Rows.callWith_type1 (thn (ha pos pins s σ H _ I h) λus s1 ⟨vs,H1,I1,r1,q1⟩=>hc pins s1 σ H1 vs us Q I1 r1 q1) he hpl
end
end L2
namespace HT
open PySem PyProof.Rows
section
open PySem.SeqAt
open PySem.AutoSeq1 (wpAny_loadPart')
open PySem.MeetsSeq PySem.MeetsSeq2 PySem.MeetsSeq3
end
section
variable {prog:Program} {w:World} {A:Around} {E:Value->Shared->Prop} {s:Shared}
def sIx (n d:Nat):Option Int->Nat
 | none=>d
 | some v=>if v<0 then (v+(n:Int)).toNat else min v.toNat n
theorem sIx_none (n d:Nat):sIx n d none=d:=rfl
theorem sIx_nat (n d k:Nat):sIx n d (some (k:Int))=min k n:=by
 show (if (k:Int)<0 then ((k:Int)+(n:Int)).toNat else min (k:Int).toNat n)=min k n
 rw [if_neg (by omega),Int.toNat_natCast]
end
end HT
namespace L2
open PySem PySem.Spec PyProof.Rows
abbrev TO:=St->Hp->(Option Int->Hp->Prop)->Prop
def PO (X:Cx) (e:Option Expr) (t:TO):Prop :=
 ∀ (pins:List (Addr×Obj)) (s:Shared) (σ:St) (H:Hp) (Q:Option Int->Hp->Prop),Inv X pins σ H s->t σ H Q →
  wpAny (model X.prog X.w) X.A (evalPart e X.env) (λu s'=>∃ o H',Inv X pins σ H' s'∧IsPart u o∧Q o H') X.xe s
def zjf:TO:=λ_ H Q=>Q none H
def znu (t:TE):TO:=λσ H Q=>t σ H λx H1=>∃ i,x=.int i∧Q (some i) H1
section
variable {X:Cx} {e:Expr} {te:TE} {lo hi:Option Expr} {tl th:TO} {pos p2:Pos}
theorem zdQ:PO X none zjf:=by
 intro pins s σ H Q I h
 rw [evalPart_none]
 exact wpAny_pure ⟨none,H,I,.none,h⟩
theorem zcc (h:PE X e te):PO X (some e) (znu te):=by
 intro pins s σ H Q I hw
 rw [evalPart_some]
 refine thn (h pins s σ H _ I hw) λu s1 ⟨x,H1,I1,r1,q1⟩=>?_
 obtain ⟨i,rfl,q⟩:=q1
 obtain ⟨t,rfl⟩:=r1
 exact ⟨some i,H1,I1,.int i t,q⟩
def SlR (X:Cx) (r:V->Option Int->Option Int->Hp->VK->Prop):Prop :=
 ∀ (pins:List (Addr×Obj)) (s:Shared) (σ:St) (H:Hp) (x:V) (v vl vu:Value) (lo hi:Option Int) (sl:Addr) (Q:VK),Inv X pins σ H s->RelV x v->s.heap.IsSliceOf sl vl vu .none->IsPart vl lo->IsPart vu hi->r x lo hi H Q →
  ∃ T id,typeLookup (.type T) "__getitem__"=pure (some (.builtin id))∧s.TypeIs v T∧wpAny (model X.prog X.w) X.A (getItem v (.ref sl)) (EP X pins σ Q) X.xe s
def tSl (r:V->Option Int->Option Int->Hp->VK->Prop) (te:TE) (tl th:TO):TE:=λσ H Q=>te σ H λx H1=>tl σ H1 λl H2=>th σ H2 λu H3=>r x l u H3 Q
theorem zcn {r:V->Option Int->Option Int->Hp->VK->Prop} (hr:SlR X r) (he:PE X e te) (hl:PO X lo tl) (hu:PO X hi th):PE X (.Subscript e (.Slice lo hi none p2) pos) (tSl r te tl th):=by
 intro pins s σ H Q I h
 refine Subscript_ (thn (he pins s σ H _ I h) λv s1 ⟨x,H1,I1,r1,q1⟩=>?_)
 refine wpAny_Slice (thn (hl pins s1 σ H1 _ I1 q1) λvl s2 ⟨l,H2,I2,pl,q2⟩=>thn (hu pins s2 σ H2 _ I2 q2) λvu s3 ⟨u,H3,I3,pu,q3⟩=>?_)
 rw [evalPart_none]
 refine wpAny_pure ?_
 have I4:Inv X pins σ H3 { s3 with heap:=s3.heap.push { cls:=.type "slice",data:=.fields #[vl,vu,.none] } }:=I3.kept (t':=s3.toks) λb ob q=>Heap.get?_push_of_some _ q
 obtain ⟨T,id,hT,ht,hg⟩:=hr pins { s3 with heap:=s3.heap.push { cls:=.type "slice",data:=.fields #[vl,vu,.none] } } σ H3 x v vl vu l u s3.heap.objs.size Q I4 r1 (Heap.IsSliceOf.new ..) pl pu q3
 show wpAny (model X.prog X.w) X.A (subscriptTail e (.Slice lo hi none p2) v (.ref s3.heap.objs.size)) (EP X pins σ Q) X.xe { s3 with heap:=s3.heap.push { cls:=.type "slice",data:=.fields #[vl,vu,.none] } }
 exact tail_any (ops:=[.ref s3.heap.objs.size,v]) ht hT hg (by with_unfolding_all rfl)
def zmD (xs:List V) (lo hi:Option Int):List V:=(xs.drop (HT.sIx xs.length 0 lo)).take (HT.sIx xs.length xs.length hi-HT.sIx xs.length 0 lo)
theorem zhc (xs:List V) (lo hi:Option Int):(zmD xs lo hi).length≤xs.length:=by
 unfold zmD
 rw [List.length_take,List.length_drop]
 omega
end
end L2
namespace L2
open PySem PySem.Spec PyProof.Rows
def ixN (n:Nat) (i:Int):Option Nat:=if 0≤i then (if i<n then some i.toNat else none) else if -(n:Int)≤i then some (i+n).toNat else none
def atI {α:Type} (xs:List α) (i:Int):Option α:=(ixN xs.length i).bind λj=>xs[j]?
theorem ziT {n:Nat} {i:Int} {j:Nat} (h:ixN n i=some j):seqIndex? i n=some j∧j<n∧-(n:Int)≤i∧i<n:=by
 unfold ixN at h
 by_cases h0:0≤i
 ·rw [if_pos h0] at h
  by_cases h1:i<n
  ·rw [if_pos h1] at h
   have e:i.toNat=j:=Option.some.inj h
   exact ⟨by rw [seqIndex_of h0 h1,e],by omega,by omega,h1⟩
  ·rw [if_neg h1] at h;cases h
 ·rw [if_neg h0] at h
  by_cases h1:-(n:Int)≤i
  ·rw [if_pos h1] at h
   have e:(i+n).toNat=j:=Option.some.inj h
   exact ⟨by rw [seqIndex_neg (by omega) h1,e],by omega,h1,by omega⟩
  ·rw [if_neg h1] at h;cases h
theorem atI_get {α:Type} {xs:List α} {i:Int} {v:α} (h:atI xs i=some v):∃ j,seqIndex? i xs.length=some j∧xs[j]?=some v∧j<xs.length∧-(xs.length:Int)≤i∧i<xs.length:=by
 unfold atI at h
 cases e:ixN xs.length i with
 | none=>rw [e] at h;cases h
 | some j =>
  rw [e] at h
  obtain ⟨h1,h2,h3,h4⟩:=ziT e
  exact ⟨j,h1,h,h2,h3,h4⟩
def zly (b:Expr):Prop:=∀ o i,subscripted b false o i=operate [o,i] (getItem o i)
def IxR (X:Cx) (r:R2):Prop :=
 ∀ (value slice:Expr) (pins:List (Addr×Obj)) (s:Shared) (σ:St) (H:Hp) (x y:V) (v u:Value) (Q:VK),Inv X pins σ H s->RelV x v->RelV y u->r x y H Q →
  subscripted slice false v u=operate [v,u] (getItem v u)->wpAny (model X.prog X.w) X.A (subscriptTail value slice v u) (EP X pins σ Q) X.xe s
def MtR (X:Cx) (id:String) (r:V->List V->Hp->VK->Prop):Prop :=
 ∀ (pins:List (Addr×Obj)) (s:Shared) (σ:St) (H:Hp) (x:V) (xs:List V) (v:Value) (us:List Value) (Q:VK),Inv X pins σ H s->RelV x v->Vals xs us->r x xs H Q →
  wpAny (model X.prog X.w) X.A (call (.builtin id) (v :: us)) (EP X pins σ Q) X.xe s
section
variable {X:Cx} {a b:Expr} {ta tb:TE} {pos:Pos}
theorem zaR {r:R2} (hr:IxR X r) (ha:PE X a ta) (hb:PE X b tb) (hs:zly b):PE X (.Subscript a b pos) (tOp r ta tb):=by
 intro pins s σ H Q I h
 exact Subscript_ (binT ha hb I h λv u s2 x y H2 I2 rx ry q=>hr a b pins s2 σ H2 x y v u Q I2 rx ry q (hs _ _))
def zmB (K:W.Frag):R2:=λx y H Q=>∃ p xs i v,x=.ref p∧y=.int i∧SqL K H p xs∧atI xs i=some v∧Q v H
def zow (K:W.Frag):R2:=λx y H Q=>∃ p xs i v,x=.ref p∧y=.int i∧SqT K H p xs∧atI xs i=some v∧Q v H
theorem zmw:IxR X (zmB X.K):=by
 intro value slice pins s σ H x y v u Q I rx ry h hs
 obtain ⟨p,xs,i,z,rfl,rfl,hq,he,q⟩:=h
 cases rx
 obtain ⟨t,rfl⟩:=ry
 obtain ⟨its,r,pl,hz⟩:=I.list hq
 obtain ⟨j,h1,h2,h3,h4,h5⟩:=atI_get he
 obtain ⟨w,ew,rw'⟩:=r.get h2
 have hl:=r.length
 have hn:=zhI
 have fin:EP X pins σ Q w s:=⟨z,H,I,rw',q⟩
 by_cases h0:0≤i
 ·have hj:i.toNat=j:=by
   rw [seqIndex_of h0 h5] at h1
   exact Option.some.inj h1
  exact item_listR pl.isList h0 (by omega) (by rw [hj];simpa using ew) fin hs
 ·have hj:(i+(its.toArray.size:Int)).toNat=j:=by
   rw [seqIndex_neg (by omega) h4] at h1
   rw [List.size_toArray,← hl]
   exact Option.some.inj h1
  exact subscriptTail_builtinR (x:=w) pl.isList.typeIs slot_list_getitem.lookup
   (wpAny_getItem_list_neg (Q:=λr s'=>r=w∧EP X pins σ Q r s') pl.isList (by omega) (by rw [List.size_toArray]<;>omega) (by omega) (by rw [hj];simpa using ew) ⟨rfl,fin⟩) hs
theorem zmQ:IxR X (zow X.K):=by
 intro value slice pins s σ H x y v u Q I rx ry h hs
 obtain ⟨p,xs,i,z,rfl,rfl,hq,he,q⟩:=h
 cases rx
 obtain ⟨t,rfl⟩:=ry
 obtain ⟨its,r,pl,hz⟩:=I.tuple hq
 obtain ⟨j,h1,h2,h3,h4,h5⟩:=atI_get he
 obtain ⟨w,ew,rw'⟩:=r.get h2
 have hl:=r.length
 have hn:=zhI
 have fin:EP X pins σ Q w s:=⟨z,H,I,rw',q⟩
 exact subscriptTail_builtinR (x:=w) pl.typeIs slot_tuple_getitem.lookup
  (getItem_tuple (j:=j) (Q:=λr s'=>r=w∧EP X pins σ Q r s') pl (by omega) (by omega) (by rw [List.size_toArray,← hl];exact h1) (by simpa using ew) ⟨rfl,fin⟩) hs
theorem zh5 (its:List Value) (n j:Nat) (u:Value):Obj.mapSeq (·.setIfInBounds j u) { cls:=.type "list",data:=.seq its.toArray n }={ cls:=.type "list",data:=.seq (its.set j u).toArray n }:=by
 simp [Obj.mapSeq]
theorem Inv.lst {pins:List (Addr×Obj)} {σ:St} {H:Hp} {s:Shared} {p:Addr} {xs:List V} (I:Inv X pins σ H s) (h:H p=some (.lst xs)) :
  ∃ (its:List Value) (n:Nat),Vals xs its∧s.heap.get? p=some { cls:=.type "list",data:=.seq its.toArray n }∧xs.length≤sizeLine:=by
 obtain ⟨z,its,n,r,e⟩:=I.hok p _ h
 exact ⟨its,n,r,e,z⟩
theorem Inv.lstUpd {pins:List (Addr×Obj)} {σ:St} {H:Hp} {s:Shared} {p:Addr} {xs ys:List V} {its its':List Value} {n n':Nat} {f:Obj->Obj} (I:Inv X pins σ H s) (h:H p=some (.lst xs))
  (ho:s.heap.get? p=some { cls:=.type "list",data:=.seq its.toArray n }) (hf:f { cls:=.type "list",data:=.seq its.toArray n }={ cls:=.type "list",data:=.seq its'.toArray n' }) (r:Vals ys its') (hz:ys.length≤sizeLine) (t:Nat) :
  Inv X pins σ (upd H p (.lst ys)) { s with heap:=s.heap.update p f,toks:=t }:=by
 have e:(s.heap.update p f).get? p=some { cls:=.type "list",data:=.seq its'.toArray n' }:=by
  rw [Heap.get?_update_self f ho (by rw [hf]<;>rfl),hf]
 refine I.write (x:=p) (e:=p) (by rw [h];trivial) (.inl rfl) (λb u hb q=>(Heap.get?_update_other _ _ (Ne.symm hb)).trans q) ⟨_,e⟩ ?_
 exact ⟨hz,its',n',r,e⟩
def zkZ:V->V->V->Hp->(Hp->Prop)->Prop:=λo i v H Q=>∃ p xs k j,o=.ref p∧i=.int k∧H p=some (.lst xs)∧ixN xs.length k=some j∧Q (upd H p (.lst (xs.set j v)))
theorem set_list:zpr X zkZ:=by
 intro pins s σ H o i v ov iv u Q I ro ri rv h
 obtain ⟨p,xs,k,j,rfl,rfl,hp,hj,q⟩:=h
 cases ro
 obtain ⟨t,rfl⟩:=ri
 obtain ⟨its,n,r,ho,hz⟩:=I.lst hp
 obtain ⟨h1,h2,h3,h4⟩:=ziT hj
 have hl:=r.length
 have hn:=zhI
 have I':Inv X pins σ (upd H p (.lst (xs.set j v))) { s with heap:=s.heap.update p (Obj.mapSeq (·.setIfInBounds j u)) } :=
  I.lstUpd hp ho (zh5 its n j u) (r.set rv j) (by rw [List.length_set];exact hz) s.toks
 by_cases h0:0≤k
 ·have hk:k.toNat=j:=by
   rw [seqIndex_of h0 h4] at h1
   exact Option.some.inj h1
  exact W.ki_setAt ho h0 (by omega) (by rw [List.size_toArray,← hl];exact h4) (by rw [hk];exact ⟨_,I',q⟩)
 ·have hk:(k+(its.toArray.size:Int)).toNat=j:=by
   rw [seqIndex_neg (by omega) h3] at h1
   rw [List.size_toArray,← hl]
   exact Option.some.inj h1
  exact W.ki_setBack ho (by omega) (by rw [List.size_toArray,← hl];exact h3) (by omega) (by rw [hk];exact ⟨_,I',q⟩)
theorem zgE (lo hi:Option Int) (n:Nat):(sliceBounds lo hi none n).1=((HT.sIx n 0 lo:Nat):Int)∧(sliceBounds lo hi none n).2.1=((HT.sIx n n hi:Nat):Int)∧(sliceBounds lo hi none n).2.2=1:=by
 refine ⟨?_,?_,rfl⟩
 ·cases lo with
  | none=>simp [sliceBounds,HT.sIx]
  | some i =>
   simp only [sliceBounds,HT.sIx,Option.getD_none,show (1:Int) > 0 by decide,if_true]
   by_cases h:i<0
   ·simp only [h,if_true]<;>omega
   ·simp only [h,if_false]<;>omega
 ·cases hi with
  | none=>simp [sliceBounds,HT.sIx]
  | some i =>
   simp only [sliceBounds,HT.sIx,Option.getD_none,show (1:Int) > 0 by decide,if_true]
   by_cases h:i<0
   ·simp only [h,if_true]<;>omega
   ·simp only [h,if_false]<;>omega
theorem zfY (its:List Value) (lo hi:Option Int):slicePick its.toArray lo hi none=((its.drop (HT.sIx its.length 0 lo)).take (HT.sIx its.length its.length hi-HT.sIx its.length 0 lo)).toArray:=by
 obtain ⟨h1,h2,h3⟩:=zgE lo hi its.toArray.size
 unfold slicePick
 rw [h1,h2,h3]
 simp only [sliceRange_one,pick_run,List.size_toArray]<;>rfl
def zoc (K:W.Frag):V->Option Int->Option Int->Hp->VK->Prop:=λx lo hi H Q=>∃ a xs,x=.ref a∧SqL K H a xs∧∀ p,H p=none->Q (.ref p) (upd H p (.lst (zmD xs lo hi)))
theorem zl7:SlR X (zoc X.K):=by
 intro pins s σ H x v vl vu lo hi sl Q I rx hs pl pu h
 obtain ⟨a,xs,rfl,hx,q⟩:=h
 cases rx
 obtain ⟨its,r,ht,hz⟩:=I.list hx
 have hlen:=r.length
 refine ⟨"list",_,slot_list_getitem.lookup,ht.isList.typeIs,?_⟩
 refine wpAny_getItem_list_slice ht.isList hs pl pu .none (by simp) ?_ (by rw [List.size_toArray]<;>omega)
 rw [zfY,← hlen]
 refine ⟨.ref s.heap.objs.size,_,I.laid (t':=s.toks) (o:=.lst (zmD xs lo hi)) (λb ob q=>Heap.get?_push_of_some _ q) (Nat.le_refl _) ?_,rfl,q _ (I.hok.fresh (Nat.le_refl _))⟩
 exact ⟨Nat.le_trans (zhc xs lo hi) hz,_,0,(r.drop (HT.sIx xs.length 0 lo)).take (HT.sIx xs.length xs.length hi-HT.sIx xs.length 0 lo),Heap.get?_push_size _ rfl⟩
def zkw:V->Bool
 | .non=>true
 | .bl _=>true
 | .int _=>true
 | .str _=>true
 | _=>false
def eqV:V->V->Bool
 | .non,.non=>true
 | .bl a,.bl b=>a == b
 | .bl a,.int b=>(if a then 1 else 0) == b
 | .int a,.bl b=>a == (if b then 1 else 0)
 | .int a,.int b=>a == b
 | .str a,.str b=>a == b
 | _,_=>false
theorem eqAt_V {A:Around} {s:Shared} {y x:V} {u v:Value} (ry:RelV y u) (rx:RelV x v) (fy:zkw y=true) (fx:zkw x=true):SeqAt.EqAt A s u v (eqV y x):=by
 cases y with
 | non =>
  cases ry
  cases x with
  | non=>cases rx;exact SeqAt.EqAt.same _
  | bl b=>cases rx;exact SeqAt.EqAt.none_bool b
  | int b=>obtain ⟨t,rfl⟩:=rx;exact SeqAt.EqAt.none_int b t
  | str b=>obtain ⟨t,rfl⟩:=rx;exact SeqAt.EqAt.none_str b t
  | _=>exact absurd (show false=true from fx) Bool.false_ne_true
 | bl a =>
  cases ry
  cases x with
  | non=>cases rx;exact SeqAt.EqAt.bool_none a
  | bl b=>cases rx;exact SeqAt.EqAt.bool_bool a b
  | int b=>obtain ⟨t,rfl⟩:=rx;exact SeqAt.EqAt.bool_int a b t
  | str b=>obtain ⟨t,rfl⟩:=rx;exact SeqAt.EqAt.bool_str a b t
  | _=>exact absurd (show false=true from fx) Bool.false_ne_true
 | int a =>
  obtain ⟨t',rfl⟩:=ry
  cases x with
  | non=>cases rx;exact SeqAt.EqAt.int_none a t'
  | bl b=>cases rx;exact SeqAt.EqAt.int_bool a t' b
  | int b=>obtain ⟨t,rfl⟩:=rx;exact SeqAt.EqAt.int_int a t' b t
  | str b=>obtain ⟨t,rfl⟩:=rx;exact SeqAt.EqAt.int_str a t' b t
  | _=>exact absurd (show false=true from fx) Bool.false_ne_true
 | str a =>
  obtain ⟨t',rfl⟩:=ry
  cases x with
  | non=>cases rx;exact SeqAt.EqAt.str_none a t'
  | bl b=>cases rx;exact SeqAt.EqAt.str_bool a t' b
  | int b=>obtain ⟨t,rfl⟩:=rx;exact SeqAt.EqAt.str_int a t' b t
  | str b=>obtain ⟨t,rfl⟩:=rx;exact SeqAt.EqAt.str_str a t' b t
  | _=>exact absurd (show false=true from fx) Bool.false_ne_true
 | _=>exact absurd (show false=true from fy) Bool.false_ne_true
theorem zgO:zdZ X (.builtin "len") (λxs H Q=>∃ p ys,xs=[.ref p]∧(SqL X.K H p ys∨SqT X.K H p ys)∧Q (.int ys.length) H):=by
 intro pins s σ H xs us Q I r h
 obtain ⟨p,ys,rfl,hq,q⟩:=h
 obtain ⟨u,rfl,rx⟩:=zjX r
 cases rx
 have hn:=zhI
 rcases hq with hq | hq
 ·obtain ⟨its,r',pl,hz⟩:=I.list hq
  have hlen:=r'.length
  exact Calls.call_len_list pl.isList (by simp only [List.size_toArray]<;>omega) ⟨.int ys.length,H,I.tok _,⟨s.toks+1,by rw [List.size_toArray,hlen]⟩,q⟩
 ·obtain ⟨its,r',pl,hz⟩:=I.tuple hq
  have hlen:=r'.length
  exact len_tuple pl (by simp only [List.size_toArray]<;>omega) ⟨.int ys.length,H,I.tok _,⟨s.toks+1,by rw [List.size_toArray,hlen]⟩,q⟩
theorem zgw:zdZ X (.type "list") (λxs H Q=>∃ p ys,xs=[.ref p]∧(SqL X.K H p ys∨SqT X.K H p ys)∧∀ l,H l=none->Q (.ref l) (upd H l (.lst ys))):=by
 intro pins s σ H xs us Q I r h
 obtain ⟨p,ys,rfl,hq,q⟩:=h
 obtain ⟨u,rfl,rx⟩:=zjX r
 cases rx
 have fin:∀ (its:List Value),Vals ys its->ys.length≤sizeLine->∀ (h':Heap) (c':Nat),(∀ b o',s.heap.get? b=some o'->h'.get? b=some o') →
   h'.get? s.heap.objs.size=some { cls:=.type "list",dict:=none,data:=.seq its.toArray c',slots:=#[] }->EP X pins σ Q (.ref s.heap.objs.size) { s with heap:=h' }:=λits r' hz h' c' kp e =>
  ⟨.ref s.heap.objs.size,_,I.laid (t':=s.toks) kp (Nat.le_refl _) (show zcG X.prog X.w _ h' _ (.lst ys) from ⟨hz,its,c',r',e⟩),rfl,q _ (I.hok.fresh (Nat.le_refl _))⟩
 rcases hq with hq | hq
 ·obtain ⟨its,r',pl,hz⟩:=I.list hq
  have hlen:=r'.length
  obtain ⟨o,ho,hc,n,hd⟩:=pl.isList
  exact call_list_seq p (.inl rfl) ho hc hd (λh' c' kp e=>fin its r' hz h' c' kp e) (by simp only [List.size_toArray]<;>omega)
 ·obtain ⟨its,r',pl,hz⟩:=I.tuple hq
  have hlen:=r'.length
  obtain ⟨o,ho,hc,n,hd⟩:=pl
  exact call_list_seq p (.inr rfl) ho hc hd (λh' c' kp e=>fin its r' hz h' c' kp e) (by simp only [List.size_toArray]<;>omega)
def tyV (K:W.Frag) (T:String) (x:V) (H:Hp):Prop:=match x with
 | .str _=>T="str"
 | .int _=>T="int"
 | .ref p=>(T="list"∧∃ xs,SqL K H p xs)∨(T="tuple"∧∃ o,K.lookup p=some o∧o.cls=.type "tuple"∧o.dict=none) ∨
   (T="dict"∧((∃ kvs,H p=some (.dK kvs))∨∃ kvs,H p=some (.dT kvs)))∨(T="set"∧∃ S n,H p=some (.set S n))
 | _=>False
theorem znO {pins:List (Addr×Obj)} {σ:St} {H:Hp} {s:Shared} {T:String} {x:V} {v:Value} (I:Inv X pins σ H s) (r:RelV x v) (ty:tyV X.K T x H) :
  s.TypeIs v T∧∀ a,v=.ref a->∃ ob,s.heap.get? a=some ob∧ob.dict=none:=by
 cases x with
 | str z =>
  obtain ⟨t,rfl⟩:=r
  cases (show T="str" from ty)
  exact ⟨typeIs_str s z t,λ_ e=>nomatch e⟩
 | int i =>
  obtain ⟨t,rfl⟩:=r
  cases (show T="int" from ty)
  exact ⟨typeIs_int s i t,λ_ e=>nomatch e⟩
 | ref p =>
  cases r
  rcases ty with ⟨rfl,xs,hq⟩ | ⟨rfl,o,hk,hc,hd⟩ | ⟨rfl,hk⟩ | ⟨rfl,S,n,hk⟩
  ·obtain ⟨its,_,pl,_⟩:=I.list hq
   refine ⟨pl.isList.typeIs,λa e=>?_⟩
   cases e
   obtain ⟨o,n,e,c,hd,_⟩:=pl
   exact ⟨o,e,hd⟩
  ·refine ⟨⟨o,I.kIn p o hk,hc⟩,λa e=>?_⟩
   cases e
   exact ⟨o,I.kIn _ o hk,hd⟩
  ·have z:∃ o,s.heap.get? p=some o∧o.ExactDict:=by
    rcases hk with ⟨kvs,hk⟩ | ⟨kvs,hk⟩
    ·obtain ⟨_,_,_,_,o,_,_,e,ex,_⟩:=I.hok p _ hk
     exact ⟨o,e,ex⟩
    ·obtain ⟨_,_,_,_,o,_,_,e,ex,_⟩:=I.hok p _ hk
     exact ⟨o,e,ex⟩
   obtain ⟨o,e,ex⟩:=z
   refine ⟨⟨o,e,ex.1⟩,λa e2=>?_⟩
   cases e2
   exact ⟨o,e,ex.2.1⟩
  ·obtain ⟨o,_,_,_,e,ex,_⟩:=I.hok p _ hk
   refine ⟨⟨o,e,ex.1⟩,λa e2=>?_⟩
   cases e2
   exact ⟨o,e,ex.2.1⟩
 | _=>exact False.elim ty
def tBM (K:W.Frag) (T:String) (r:V->List V->Hp->VK->Prop) (to:TE) (t:TA):TE:=λσ H Q=>to σ H λx H1=>tyV K T x H1∧t σ H1 λxs H2=>r x xs H2 Q
variable {o e:Expr} {es:List Expr} {to:TE} {t:TA} {name:Str} {apos cpos:Pos} {T id:String} {r:V->List V->Hp->VK->Prop}
theorem zoC (pa:PlainAttrs T) (slot:Slot T name id) (hty:typeOf (.builtin id)=pure (.type "method_descriptor")) (hm:MtR X id r) (ho:PE X o to) (ha:PA X (e :: es) t)
  (hbase:attributeBase o name X.env (eval o X.env)=eval o X.env:=by rfl)
  (hfew:((backTo cpos (starEach (e :: es) X.env)).all (λx=>!x.1)&&(backToKw cpos (keywordEach [] X.env)).all (λx=>x.1.isSome)
   &&decide ((e :: es).length+([]:List Keyword).length+(if ([]:List Keyword).isEmpty then 0 else 1)<30))=true:=by rfl)
  (hline:(apos.endLine == cpos.line)=true:=by rfl) (hs:starEach (e :: es) X.env=(false,eval e X.env) :: starEach es X.env:=by rfl) (hplain:(backTo cpos (starEach es X.env)).any (·.1)=false:=by rfl) :
  PE X (.Call (.Attribute o name apos) (e :: es) [] cpos) (tBM X.K T r to t):=by
 intro pins s σ H Q I h
 refine wpAny_Call_method_late hbase hfew hline rfl (thn (ho pins s σ H _ I h) λv s1 ⟨x,H1,I1,r1,ty,q1⟩=>?_)
 obtain ⟨h1,h2⟩:=znO I1 r1 ty
 refine ⟨T,id,pa,slot,hty,h1,h2,?_⟩
 have hA:=ha cpos pins s1 σ H1 _ I1 q1
 rw [hs] at hA ⊢
 refine Calls.callWith_builtin (by show (false||(backTo cpos (starEach es X.env)).any (·.1))=false;rw [hplain]<;>rfl) (Calls.evalArgs_plain ?_)
 exact thn hA λus s2 ⟨vs,H2,I2,r2,q2⟩=>hm pins s2 σ H2 x vs v us Q I2 r1 r2 q2
end
end L2
namespace L2
open PySem PySem.Spec PyProof.Rows
def MtM (X:Cx) (id:String) (r:V->List V->Hp->VK->Prop):Prop :=
 ∀ (pins:List (Addr×Obj)) (s:Shared) (σ:St) (H:Hp) (x:V) (xs:List V) (v:Value) (us:List Value) (Q:VK),Inv X pins σ H s->RelV x v->Vals xs us->r x xs H Q →
  wpAny (model X.prog X.w) X.A (call (.builtin id) (v :: us)) (EP X pins σ Q) X.xe s
theorem Vals.one:∀ {x:V} {us:List Value},Vals [x] us->∃ u,us=[u]∧RelV x u
 | _,_,.cons r .nil=>⟨_,rfl,r⟩
theorem Vals.two:∀ {x y:V} {us:List Value},Vals [x,y] us->∃ u v,us=[u,v]∧RelV x u∧RelV y v
 | _,_,_,.cons r (.cons q .nil)=>⟨_,_,rfl,r,q⟩
theorem Vals.zero:∀ {us:List Value},Vals [] us->us=[]
 | _,.nil=>rfl
theorem Vals.dropLast {xs:List V} {us:List Value} (h:Vals xs us):Vals xs.dropLast us.dropLast:=by
 induction h with
 | nil=>exact .nil
 | cons r t ih =>
  cases t with
  | nil=>exact .nil
  | cons q t'=>exact .cons r ih
theorem Vals.reverse {xs:List V} {us:List Value} (h:Vals xs us):Vals xs.reverse us.reverse:=by
 induction h with
 | nil=>exact .nil
 | cons r t ih=>rw [List.reverse_cons,List.reverse_cons];exact Vals.append ih (.cons r .nil)
theorem Vals.rep {xs:List V} {us:List Value} (h:Vals xs us):∀ k:Nat,Vals (List.replicate k xs).flatten (List.replicate k us).flatten
 | 0=>.nil
 | k+1=>by
  rw [List.replicate_succ,List.replicate_succ,List.flatten_cons,List.flatten_cons]
  exact Vals.append h (Vals.rep h k)
theorem zgy (its:List Value):∀ (k:Nat) (acc:List Value),
  List.foldl (λx1 x2=>x1++x2) acc.toArray (List.replicate k its.toArray)=(acc++(List.replicate k its).flatten).toArray
 | 0,acc=>by simp
 | k+1,acc=>by
  have e:acc.toArray++its.toArray=(acc++its).toArray:=by simp
  have e2:(acc++its)++(List.replicate k its).flatten=acc++(List.replicate (k+1) its).flatten:=by
   rw [List.replicate_succ,List.flatten_cons,List.append_assoc]
  rw [← e2,← zgy its k (acc++its),← e,List.replicate_succ,List.foldl_cons]
section
variable {X:Cx} {pins:List (Addr×Obj)} {σ:St} {H:Hp} {s:Shared} {l b:Addr} {xs ys zs:List V}
theorem Inv.lset {its its':List Value} {n:Nat} {f:Array Value->Array Value} {t':Nat} (I:Inv X pins σ H s) (hH:H l=some (.lst xs))
  (e:s.heap.get? l=some { cls:=.type "list",data:=.seq its.toArray n }) (hf:f its.toArray=its'.toArray) (hv:Vals ys its') (hz:ys.length≤sizeLine) :
  Inv X pins σ (upd H l (.lst ys)) { s with heap:=s.heap.update l (Obj.mapSeq f),toks:=t' }:=by
 have q:=PySem.IsL.update e f
 rw [hf] at q
 refine I.write (x:=l) (e:=l) (by rw [hH];exact trivial) (.inl rfl) (λb' u hb hu=>(Heap.get?_update_other s.heap (Obj.mapSeq f) (Ne.symm hb)).trans hu) ⟨_,q⟩ ?_
 exact ⟨hz,its',_,hv,q⟩
theorem Inv.lnew {its:List Value} {t':Nat} (I:Inv X pins σ H s) (hv:Vals ys its) (hz:ys.length≤sizeLine) :
  Inv X pins σ (upd H s.heap.objs.size (.lst ys)) { s with heap:=s.heap.push { cls:=.type "list",data:=.seq its.toArray },toks:=t' } :=
 I.laid (λ_ _ q=>Heap.get?_push_of_some _ q) (Nat.le_refl _) ⟨hz,its,0,hv,Heap.get?_push_size _ rfl⟩
theorem Inv.fresh (I:Inv X pins σ H s):H s.heap.objs.size=none:=I.hok.fresh (Nat.le_refl _)
theorem Inv.lstM (I:Inv X pins σ H s) (hH:H l=some (.lst xs)):xs.length≤sizeLine∧∃ (its:List Value) (n:Nat),Vals xs its∧xs.length=its.length∧s.heap.get? l=some { cls:=.type "list",data:=.seq its.toArray n }:=by
 obtain ⟨z,its,n,r,e⟩:=I.hok l _ hH
 exact ⟨z,its,n,r,r.length,e⟩
theorem zhM {n:Nat} (h:n≤sizeLine):Builtin.List.listTooLong n=false:=by
 unfold Builtin.List.listTooLong
 exact decide_eq_false (by omega)
end
section
variable {X:Cx}
def rAppend:V->List V->Hp->VK->Prop:=λx vs H Q=>∃ l xs y,x=.ref l∧vs=[y]∧H l=some (.lst xs)∧xs.length<sizeLine∧Q .non (upd H l (.lst (xs++[y])))
theorem mt_append:MtM X "list.append" rAppend:=by
 intro pins s σ H x vs v us Q I rx rv h
 obtain ⟨l,xs,y,rfl,rfl,hH,hz,q⟩:=h
 cases rx
 obtain ⟨u,rfl,ru⟩:=rv.one
 obtain ⟨z,its,n,r,hl,e⟩:=I.lstM hH
 refine call_meets F.slot_list_append ⟨_,e,rfl⟩ F.entry_list_append (F.args_list_append_2 _ _) (PySem.list_append l its.toArray n u (by rw [List.size_toArray];omega)) ⟨e,?_⟩
 refine ⟨.non,_,I.lset (its':=its++[u]) hH e (by simp) (r.append (.cons ru .nil)) ?_,rfl,q⟩
 rw [List.length_append,List.length_singleton]
 omega
def rExtend:V->List V->Hp->VK->Prop:=λx vs H Q=>∃ l b xs zs,x=.ref l∧vs=[.ref b]∧H l=some (.lst xs)∧H b=some (.lst zs)∧xs.length+zs.length≤sizeLine∧Q .non (upd H l (.lst (xs++zs)))
theorem zmZ:MtM X "list.extend" rExtend:=by
 intro pins s σ H x vs v us Q I rx rv h
 obtain ⟨l,b,xs,zs,rfl,rfl,hH,hB,hz,q⟩:=h
 cases rx
 obtain ⟨u,rfl,ru⟩:=rv.one
 cases ru
 obtain ⟨z,its,n,r,hl,e⟩:=I.lstM hH
 obtain ⟨z2,its2,n2,r2,hl2,e2⟩:=I.lstM hB
 have hsz:its.toArray.size+its2.toArray.size≤sizeLine:=by rw [List.size_toArray,List.size_toArray];omega
 have hlong:¬ (!its.toArray.isEmpty&&Builtin.List.listTooLong (its.toArray.size+its2.toArray.size))=true:=by
  rw [zhM hsz,Bool.and_false]
  exact Bool.false_ne_true
 refine call_meets F.slot_list_extend ⟨_,e,rfl⟩ F.entry_list_extend (F.args_list_extend_2 _ _)
  (AutoSeq1.list_extend_list_list_0 l its.toArray n b its2.toArray n2 hlong (by rw [List.size_toArray];omega) (by omega)) ⟨e,e2,?_⟩
 refine ⟨.non,_,I.lset (its':=its++its2) hH e (by simp) (r.append r2) ?_,rfl,q⟩
 rw [List.length_append]
 omega
def zo2:R2:=λx y H Q=>∃ l b xs zs,x=.ref l∧y=.ref b∧H l=some (.lst xs)∧H b=some (.lst zs)∧xs.length+zs.length≤sizeLine∧∀ p,H p=none->Q (.ref p) (upd H p (.lst (xs++zs)))
theorem zfg:OpR X (binaryOp .Add) zo2:=by
 intro pins s σ H x y v u Q I rx ry h
 obtain ⟨l,b,xs,zs,rfl,rfl,hH,hB,hz,q⟩:=h
 cases rx
 cases ry
 obtain ⟨z,its,n,r,hl,e⟩:=I.lstM hH
 obtain ⟨z2,its2,n2,r2,hl2,e2⟩:=I.lstM hB
 refine PySem.P.add_list e e2 ?_ (by rw [List.size_toArray,List.size_toArray];omega)
 have ea:its.toArray++its2.toArray=(its++its2).toArray:=by simp
 rw [ea]
 exact ⟨.ref _,_,I.lnew (t':=s.toks) (r.append r2) (by rw [List.length_append];omega),rfl,q _ I.fresh⟩
def zor:R2:=λx y H Q=>∃ l k xs,x=.ref l∧y=.int k∧H l=some (.lst xs)∧-(2^63)≤k∧k<2^63∧xs.length*k.toNat≤sizeLine ∧
 ∀ p,H p=none->Q (.ref p) (upd H p (.lst (List.replicate k.toNat xs).flatten))
theorem zmp {α:Type} (xs:List α) (k:Nat):(List.replicate k xs).flatten.length=k*xs.length:=by
 induction k with
 | zero=>simp
 | succ k ih=>rw [List.replicate_succ,List.flatten_cons,List.length_append,ih,Nat.succ_mul,Nat.add_comm]
theorem zk2:OpR X (binaryOp .Mult) zor:=by
 intro pins s σ H x y v u Q I rx ry h
 obtain ⟨l,k,xs,rfl,rfl,hH,h1,h2,hz,q⟩:=h
 cases rx
 obtain ⟨t,rfl⟩:=ry
 obtain ⟨z,its,n,r,hl,e⟩:=I.lstM hH
 have hlen:its.toArray.size*k.toNat≤sizeLine:=by rw [List.size_toArray,← hl];exact hz
 have hcap:¬ its.toArray.size*k.toNat > (2^63-1)/8:=by
  have:(sizeLine:Nat)≤(2^63-1)/8:=by decide
  omega
 have hfit:¬ (!Builtin.List.listFitsIndex k)=true:=by
  rw [fitsIndex_both h1 h2]
  exact Bool.false_ne_true
 have hlong:¬ Builtin.List.listTooLong (its.toArray.size*k.toNat)=true:=by
  rw [zhM hlen]
  exact Bool.false_ne_true
 have hnew:List.foldl (λx1 x2=>x1++x2) #[] (List.replicate (if its.toArray.isEmpty=true then 0 else k.toNat) its.toArray)=(List.replicate k.toNat its).flatten.toArray:=by
  have f0:∀ m:Nat,List.foldl (λx1 x2=>x1++x2) #[] (List.replicate m its.toArray)=(List.replicate m its).flatten.toArray:=λm=>by
   have:=zgy its m []
   rw [List.nil_append] at this
   exact this
  rw [f0]
  cases its with
  | nil=>simp
  | cons a r'=>rw [if_neg (by simp)]
 refine wpAny_binaryOp_repeat_ref (T:="list") (U:="int") (by decide) ⟨_,e,rfl⟩ (λs'=>typeIs_int s' k t) noFill_list_mul F.fills_int_mul F.slot_int_rmul repeat_list F.slot_int_index.lookup
  (call_meets F.slot_int_rmul (typeIs_int s k t) F.entry_int_rmul (F.args_int_rmul_2 _ _) (int___rmul___int_list k t l its.toArray n)
   ⟨e,rfl,⟨_,e,rfl⟩,call_meets F.slot_list_mul ⟨_,e,rfl⟩ F.entry_list_mul (F.args_list_mul_2 _ _) (AutoListH.list___mul___list_int_3 l its.toArray n k t hfit hcap hlong) ⟨e,?_⟩⟩)
 rw [hnew]
 exact ⟨.ref _,_,I.lnew (t':=s.toks) (r.rep k.toNat) (by rw [zmp,Nat.mul_comm];exact hz),rfl,q _ I.fresh⟩
end
section
variable {prog:Program} {w:World} {A:Around} {E:Value->Shared->Prop} {s:Shared}
end
section
variable {X:Cx}
end
end L2
namespace Att
open PySem PySem.W PySem.Calls PyProof.Rows
theorem zeO {P:Params} {h:Heap}:∀ (ns:List Int) (vs:List Value),WellAll P h vs (ns.map WData.int)->IntsAre vs ns:=by
 intro ns
 induction ns with
 | nil =>
  intro vs w
  rw [List.map_nil] at w
  cases w
  exact .nil
 | cons n ns ih =>
  intro vs w
  rw [List.map_cons] at w
  cases w with
  | cons a b =>
   cases a
   exact .cons _ _ (ih _ b)
theorem script_of {l:OpenLaw} {n:Nat} (hn:l.most=some n) {P:Params} {h:Heap} {args:List WData} {vals:List Value}
  (hpre:l.row.toRowW.claim.pre args=true) (hwl:WellAll P h vals args) :
  ∃ a vs ns,vals=[Value.ref a]∧args=[WData.list (ns.map WData.int)]∧h.get? a=some { cls:=.type "list",data:=.seq vs.toArray }∧IntsAre vs ns∧ns.length≤n:=by
 have hsh:WShape.hasAll [] args [.list .int]=true:=(pre_splitW hpre).1
 have hc:l.pre.holds [] { args:=args }=true:=(pre_splitW hpre).2
 obtain ⟨d,r,rfl,h1,h2⟩:=hasAllW_cons hsh
 obtain rfl:=hasAllW_nil h2
 obtain ⟨xs,rfl,h3⟩:=hasW_list h1
 obtain ⟨ns,rfl⟩:=items_int h3
 have hlen:ns.length≤n:=by
  unfold OpenLaw.pre at hc
  have h4:(WTm.not (.lt (.lit (.int (n:Int))) (.len (.arg 0)))).holds [] { args:=[.list (ns.map .int)] }=true:=by
   have h4:=(holds_andW hc).1
   rw [hn] at h4
   exact h4
  have h5:=condW_of h4 (w_not (w_lt w_lit (w_len_list (w_arg rfl))))
  rw [List.length_map] at h5
  refine Nat.le_of_not_lt λq=>?_
  have q':(n:Int)<((ns.length:Nat):Int):=by omega
  first
   | (rw [decide_eq_true q'] at h5;exact absurd h5 (by decide))
   | (simp at h5;omega)
 cases hwl with
 | cons w1 w2 =>
  cases w2
  cases w1 with
  | list ho hall=>exact ⟨_,_,ns,rfl,rfl,ho,zeO ns _ hall,hlen⟩
theorem zjD (l:OpenLaw) (args:List WData):l.row.toRowW.claim.post args (.bool true) args=true :=
 postW_of (r:=l.row.toRowW) (X:=(true == true))
  (show WShape.has [] (.bool true) .bool=true by first | rfl | decide | simp [WShape.has,WShape.arms,WShape.armsAll])
  (show (WTm.eq .res (.lit (.bool true))).value [] { args:=args,res:=some (.bool true),after:=args }=some (.bool (true == true)) from w_eq_bool (w_res rfl) w_lit) rfl
theorem attach_call {l:OpenLaw} {n:Nat} {q:Program} {loose:List Str} {XP:(Str->Option Value)->Heap->Prop} {YP:World->Heap->Prop} {d:DefRec}
  (hn:l.most=some n) (hdf:d.params.defaults=[])
  (call:∀ (w:World) (s₀ s₁:Shared) (mg mb:Str->Option Value) (fa:Addr) (o:Obj) (pm cd doc:Value) (a:Addr) (vs:List Value) (ns:List Int),
   Ground q loose [] XP w s₀ mg mb s₁.heap->YP w s₁.heap →
   s₁.heap.get? fa=some o->o.data=.func (docDef d.name d.params d.body d.scope pm cd doc)->s₁.heap.CodeRec cd d.name->mg d.name=some (.ref fa) →
   s₁.heap.get? a=some { cls:=.type "list",data:=.seq vs.toArray }->IntsAre vs ns->ns.length≤n->s₁.gens=#[] →
   codeAny (model l.prog w) callerA (.call (.ref fa) ⟨[.ref a],[]⟩) (λr s'=>r=.ok (.ret (.bool true))∧OldK s₁.heap s'.heap∧s'.os=s₁.os∧AllBare s'.gens) s₁) :
  WalkO q loose XP YP l.row.toRowW d [] (λf vs=>PySem.call f vs):=by
 intro w s₀ s₁ mg mb G Y fa o pm cd doc dV kV ho hd hcd hD hmg hg args vals as hpre hlay hrd hwl hlo
 obtain rfl:dV=.none:=Dflts.none hD hdf
 obtain rfl:kV=.none:=Dflts.noKw hD
 obtain ⟨a,vs,ns,rfl,rfl,hobj,hints,hlen⟩:=script_of hn hpre hwl
 refine enter_call (codeAny_mono (call w s₀ s₁ mg mb fa o pm cd doc a vs ns G Y ho (fd_plain hd) hcd hmg hobj hints hlen hg) λr s' hq=>?_)
 obtain ⟨rfl,h2,h3,h4⟩:=hq
 exact ⟨.inl ⟨.bool true,.bool true,[],rfl,λ_=>rfl,.bool true,zjD l _,λ_=>⟨List.Pairwise.nil,λ_ hm=>(nomatch hm)⟩⟩,h2,h3,h4⟩
section
variable {prog:Program} {w:World} {A:Around} {E:Value->Shared->Prop} {s:Shared} {K:Frag}
end
end Att
namespace L2
open PySem PySem.Spec PyProof.Rows
theorem zgP:∀ {vs:List Value} {ns:List Int},IntsAre vs ns->Vals (ns.map V.int) vs
 | _,_,.nil=>.nil
 | _,_,.cons n t h=>.cons ⟨t,rfl⟩ (zgP h)
def zov (H:Hp):Prop:=∀ b,H b=none∨∃ o xs,H b=some (.frz o (.lst xs))
theorem zkm {P:Program} {w:World} {K:W.Frag} {mg mb:Str->Option Value} {CX:CXT} {k:Nat} {fa a:Addr} {fd:FuncData} {x:Str} {sp:Sp} {s₁:Shared} {vs:List Value} {ns:List Int}
  (KX:K.In s₁.heap) (hns:s₁.heap.Ns mainGlobals mg) (hb:s₁.heap.Ns builtinsNs mb) (hbb:∀ x:Str,x≠"__name__"->mb x=bootBuiltins x) (hlim:s₁.heap.NoLimit) (hg:s₁.gens=#[])
  (ha:s₁.heap.get? a=some { cls:=.type "list",data:=.seq vs.toArray }) (hi:IntsAre vs ns) (hl:ns.length≤sizeLine) (hr:Room k callerA)
  (F:∀ base:Heap,K.In base->base.Ns mainGlobals mg->FnOk P w K mg base CX k fa fd [x] sp) (hbind:∀ (s:Shared) (u:Value),BindsTo s fd ⟨[u],[]⟩ [(x,u)])
  (hsp:∀ H:Hp,zov H->SqL K H a (ns.map V.int)->sp [.ref a] H (λv _=>v=.bl true) λ_ _ _=>False)
  (hCX:∀ H e s',CX [] H s₁ (λ_ _ _=>False) e s'->False) :
  codeAny (model P w) callerA (.call (.ref fa) ⟨[.ref a],[]⟩) (λr s'=>r=.ok (.ret (.bool true))∧OldK s₁.heap s'.heap∧s'.os=s₁.os∧AllBare s'.gens) s₁:=by
 have rv:=zgP hi
 have lenV:=hi.length
 have core:∀ H:Hp,zov H->SqL K H a (ns.map V.int)->HOk P w H s₁.heap->(∀ b,H b≠none->b=a)->(H a≠none->K.lookup a=none) →
   codeAny (model P w) callerA (.call (.ref fa) ⟨[.ref a],[]⟩) (λr s'=>r=.ok (.ret (.bool true))∧OldK s₁.heap s'.heap∧s'.os=s₁.os∧AllBare s'.gens) s₁:=by
  intro H hO hS hok hA hK
  have base_of:∀ {b:Addr} {o:Obj},s₁.heap.get? b=some o->H b=none->(zkH s₁.heap H).get? b=some o:=λe n=>zkA e n
  have noA:∀ {b:Addr} {o:Obj} {es:Array DictEntry} {ep:Nat},s₁.heap.get? b=some o->o.data=.dict es ep->H b=none:=λ{b o es ep} e d=>by
   cases q:H b with
   | none=>rfl
   | some u =>
    have e':b=a:=hA b (by rw [q];simp)
    subst e'
    rw [ha] at e;cases e
    have d':Data.seq vs.toArray _=Data.dict es ep:=d
    cases d'
  have nsK:∀ {b:Addr} {m:Str->Option Value},s₁.heap.Ns b m->(zkH s₁.heap H).Ns b m:=λ{b m} ⟨o,es,ep,e,d,r⟩=>⟨o,es,ep,base_of e (noA e d),d,r⟩
  have hKb:K.In (zkH s₁.heap H):=λb o e=>base_of (KX b o e) (by
   cases q:H b with
   | none=>rfl
   | some u =>
    have e':b=a:=hA b (by rw [q];simp)
    subst e'
    rw [hK (by rw [q];simp)] at e;cases e)
  have hM:Mod K mg (zkH s₁.heap H):=⟨hKb,nsK hns,⟨mb,nsK hb,hbb⟩,let ⟨mc,h1,h2⟩:=hlim;⟨mc,nsK h1,h2⟩⟩
  have e0:Env0 P w K mg (zkH s₁.heap H) callerA [] s₁ H:=⟨rfl,hM,λb o e=>zl0 e,Nat.le_of_eq (ziN _ _),trivial,λb hb=>absurd (show b∈([]:List Addr) from hb) (by simp),hok,.of_eq hg⟩
  refine codeAny_mono ((F _ hKb (nsK hns)).run callerA [] s₁ H ⟨[.ref a],[]⟩ [.ref a] [.ref a] _ _ hr e0 (hbind s₁ (.ref a)) (.cons rfl .nil) (hsp H hO hS)) λr s' h=>?_
  cases r with
  | error e=>exact (hCX H e s' h).elim
  | ok fl =>
   cases fl with
   | next=>exact False.elim h
   | brk=>exact False.elim h
   | cont=>exact False.elim h
   | ret u =>
    obtain ⟨v,H',os,bare,un,hok',r',q⟩:=h
    have q':v=.bl true:=q
    subst q'
    obtain rfl:u=Value.bool true:=r'
    refine ⟨rfl,OldK.of_keep λb o e=>?_,os,bare⟩
    cases q:H b with
    | none=>exact un.keep b o e q (by intro z;exact absurd (show b∈([]:List Addr) from z) (by simp)) (by simp)
    | some u =>
     rcases hO b with z | ⟨ob,xs,z⟩
     ·rw [q] at z;cases z
     ·have z2:=un.frzs b ob _ z
      obtain ⟨e1,_⟩:=hok b _ z
      obtain ⟨e2,_⟩:=hok' b _ z2
      rw [e] at e1;cases e1
      exact e2
 cases hk:K.lookup a with
 | some o =>
  have e:=KX a o hk
  rw [ha] at e
  cases e
  refine core (λ_=>none) (λ_=>.inl rfl) (.inr ⟨_,vs.toArray,_,hk,rfl,rfl,rfl,by rw [List.size_toArray,lenV];exact hl,by simpa using rv⟩) (λb u z=>by have z':(none:Option HO)=some u:=z;cases z') (λb z=>absurd rfl z) λz=>absurd rfl z
 | none =>
  refine core (λb=>if b=a then some (.frz { cls:=.type "list",data:=.seq vs.toArray } (.lst (ns.map V.int))) else none) (λb=>?_) (.inl (.inr ⟨{ cls:=.type "list",data:=.seq vs.toArray },if_pos rfl⟩)) (λb u z=>?_) (λb z=>?_) λ_=>hk
  ·by_cases hb:b=a
   ·exact .inr ⟨_,_,if_pos hb⟩
   ·exact .inl (if_neg hb)
  ·by_cases hb:b=a
   ·have z':=(if_pos hb).symm.trans z
    cases z'
    subst hb
    exact ⟨ha,by rw [List.length_map];exact hl,vs,_,rv,ha⟩
   ·have z':=(if_neg hb).symm.trans z
    cases z'
  ·by_cases hb:b=a
   ·exact hb
   ·exact absurd (if_neg hb) z
end L2
namespace L2
open PySem PySem.Spec PyProof.Rows
theorem zmf {l:W.OpenLaw} {n k:Nat} {q:Program} {loose:List Str} {XP:(Str->Option Value)->Heap->Prop} {YP:World->Heap->Prop} {d:DefRec} {K:Params->W.Frag} {CX:World->CXT} {sp:World->Sp} {x:Str}
  (hn:l.most=some n) (hn2:n≤sizeLine) (hdf:d.params.defaults=[]) (hr:Room k callerA)
  (hY:∀ (w:World) (h:Heap),YP w h->(K w.params).In h)
  (F:∀ (w:World) (mg:Str->Option Value) (fa:Addr) (h:Heap),(K w.params).In h->h.Ns mainGlobals mg->mg d.name=some (.ref fa) →
   ∃ fd:FuncData,(∀ (s:Shared) (u:Value),BindsTo s fd ⟨[u],[]⟩ [(x,u)]) ∧
    ∀ base:Heap,(K w.params).In base->base.Ns mainGlobals mg->FnOk l.prog w (K w.params) mg base (CX w) k fa fd [x] (sp w))
  (hsp:∀ (w:World) (H:Hp) (a:Addr) (ns:List Int),ns.length≤n->zov H->SqL (K w.params) H a (ns.map V.int)->sp w [.ref a] H (λv _=>v=.bl true) λ_ _ _=>False)
  (hCX:∀ (w:World) (H:Hp) (s:Shared) (e:Value) (s':Shared),CX w [] H s (λ_ _ _=>False) e s'->False) :
  W.WalkO q loose XP YP l.row.toRowW d [] (λf vs=>PySem.call f vs):=by
 refine Att.attach_call hn hdf λw s₀ s₁ mg mb fa o pm cd doc a vs ns G Y ho hd hcd hmg hobj hints hlen hg=>?_
 have KX:=hY w _ Y
 obtain ⟨fd,hb,hF⟩:=F w mg fa _ KX G.T.g hmg
 exact zkm KX G.T.g G.T.b G.T.builtins G.T.nolimit hg hobj hints (Nat.le_trans hlen hn2) hr hF hb (λH hO hS=>hsp w H a ns hlen hO hS) λH e s'=>hCX w H s₁ e s'
end L2
namespace L2
open PySem PySem.Spec PyProof.Rows
def zmq (s:Stmt) (j:Nat):Stmt:=match s with
 | .ClassDef _ _ _ body _ _ _ _ _ _ _=>body.getD j (.Pass ⟨0,0,0,0⟩)
 | _=>.Pass ⟨0,0,0,0⟩
def zay (s:Stmt):Arguments:=match s with
 | .FunctionDef _ a _ _ _ _ _ _ _ _=>a
 | _=>{ posonlyargs:=[],args:=[],vararg:=none,kwonlyargs:=[],kw_defaults:=[],kwarg:=none,defaults:=[] }
def zau (s:Stmt):List Stmt:=match s with
 | .FunctionDef _ _ b _ _ _ _ _ _ _=>b
 | _=>[]
def zae (s:Stmt):Scope:=match s with
 | .FunctionDef _ _ _ _ _ _ sc _ _ _=>sc
 | _=>{ kind:=.function,names:=[],isGenerator:=false,isCoroutine:=false }
abbrev E0:XK:=λ_ _ _=>False
structure Fun (K:W.Frag) (x qual:Str) (st:Stmt) (f:Addr) (fd:FuncData):Prop where
 ex:∃ (oc:Value) (od:Option Addr) (kV doc pm:Value) (an:Option Addr) (cdv ct:Value) (osl:Array (Option Value)),
  fd=W.fnOf x qual (zay st) (zau st) (zae st) .none kV doc pm an cdv ct∧K.lookup f=some ⟨oc,od,.func fd,osl⟩∧W.codeIn K cdv qual=true
 kp:W.keepIn K (.ref f)=true
section
variable {P:Program} {w:World} {K:W.Frag} {mg:Str->Option Value} {base:Heap}
theorem Fun.binds {x qual:Str} {st:Stmt} {f:Addr} {fd:FuncData} {ps:List Str} (F:Fun K x qual st f fd)
  (h:∀ (kV doc pm:Value) (an:Option Addr) (cdv ct:Value) (us:List Value),us.length=ps.length->bindArgs (W.fnOf x qual (zay st) (zau st) (zae st) .none kV doc pm an cdv ct) ⟨us,[]⟩=pure (ps.zip us)):ze2 K fd ps []:=by
 obtain ⟨oc,od,kV,doc,pm,an,cdv,ct,osl,rfl,lk,hcd⟩:=F.ex
 exact .all (h kV doc pm an cdv ct)
theorem zaL {x qual:Str} {st:Stmt} {f:Addr} {oc:Value} {od an:Option Addr} {osl:Array (Option Value)} {kV doc pm cdv ct:Value} (l:K.lookup f=some ⟨oc,od,.func (W.fnOf x qual (zay st) (zau st) (zae st) .none kV doc pm an cdv ct),osl⟩)
  (c:W.codeIn K cdv qual=true) (k:W.keepIn K (.ref f)=true):Fun K x qual st f (W.fnOf x qual (zay st) (zau st) (zae st) .none kV doc pm an cdv ct):=⟨⟨oc,od,kV,doc,pm,an,cdv,ct,osl,rfl,l,c⟩,k⟩
end
section
variable {X:Cx}
theorem pv (i:Nat) {x:Str} {pos:Pos} (hN:X.N[i]?=some x:=by rfl) (hv:Vis X.env.scope x:=by first | exact Or.inl rfl | exact Or.inr (Or.inl rfl) | exact Or.inr (Or.inr rfl)) (hd:(x == ("__debug__":Str))=false:=by decide)
  (hcd:(x == ("__classdict__":Str))=false:=by decide):PE X (.Name x pos) (tVar i):=znW hN hv hd hcd
end
def Same (H H':Hp):Prop:=∀ b o,H b=some o->H' b=some o
theorem Same.refl (H:Hp):Same H H:=λ_ _ h=>h
theorem Same.trans {H H1 H2:Hp} (a:Same H H1) (b:Same H1 H2):Same H H2:=λc o h=>b c o (a c o h)
theorem Same.free {H H':Hp} (e:Same H H') {l:Addr} (h:H' l=Option.none):H l=Option.none:=by
 cases q:H l with
 | none=>rfl
 | some o =>
  rw [e l o q] at h
  cases h
theorem Same.seq {K:W.Frag} {H H':Hp} {a:Addr} {xs:List V} (e:Same H H') (h:SqL K H a xs):SqL K H' a xs:=by
 rcases h with (h | ⟨o,h⟩) | h
 ·exact .inl (.inl (e _ _ h))
 ·exact .inl (.inr ⟨o,e _ _ h⟩)
 ·exact .inr h
end L2
namespace L2
open PySem PySem.Spec PyProof.Rows
theorem zek {env:Env}:∀ (names:List (Str×NameKind)) (acc:List (Str×Addr)),(∀ x∈names,x.2=.free->∃ c,env.cells.lookup x.1=some c) →
  ∃ cl:List (Str×Addr),(forIn (m:=Sem) names acc λ(x:Str×NameKind) (cs:List (Str×Addr))=>if (x.2 == NameKind.free)=true then (do let a ← cellOf env x.1;pure (ForInStep.yield ((x.1,a) :: cs))) else pure (ForInStep.yield cs))=pure cl ∧
   (∀ x c,cl.lookup x=some c->acc.lookup x=some c∨env.cells.lookup x=some c)∧(∀ x,((x,NameKind.free)∈names∨∃ c,acc.lookup x=some c)->∃ c,cl.lookup x=some c)
 | [],acc,_=>⟨acc,rfl,λ_ _ h=>.inl h,λx h=>by
   rcases h with h | h
   ·cases h
   ·exact h⟩
 | (n,k) :: r,acc,h=>by
  have hr:∀ x∈r,x.2=.free->∃ c,env.cells.lookup x.1=some c:=λx hx=>h x (List.mem_cons_of_mem _ hx)
  by_cases hk:k=.free
  ·subst hk
   obtain ⟨c,hc⟩:=h (n,.free) List.mem_cons_self rfl
   obtain ⟨cl,e,h1,h2⟩:=zek r ((n,c) :: acc) hr
   refine ⟨cl,?_,λx c' q=>?_,λx q=>?_⟩
   ·rw [List.forIn_cons]
    have e1:cellOf env n=pure c:=by unfold cellOf;rw [hc]
    simp only [beq_self_eq_true,if_true,e1]
    exact e
   ·rcases h1 x c' q with z | z
    ·rw [List.lookup_cons] at z
     cases hx:x == n with
     | true =>
      rw [hx] at z
      have z':some c=some c':=z
      cases z'
      have:x=n:=eq_of_beq hx
      subst this
      exact .inr hc
     | false=>rw [hx] at z;exact .inl z
    ·exact .inr z
   ·refine h2 x ?_
    by_cases hx:x=n
    ·subst hx
     exact .inr ⟨c,by rw [List.lookup_cons];simp⟩
    ·rcases q with q | ⟨c',q⟩
     ·rcases List.mem_cons.mp q with q | q
      ·exact absurd (congrArg Prod.fst q) hx
      ·exact .inl q
     ·refine .inr ⟨c',?_⟩
      have:(x == n)=false:=by simpa using hx
      rw [List.lookup_cons,this]
      exact q
  ·obtain ⟨cl,e,h1,h2⟩:=zek r acc hr
   refine ⟨cl,?_,h1,λx q=>h2 x ?_⟩
   ·rw [List.forIn_cons]
    have e1:(k == NameKind.free)=false:=by simpa using hk
    simp only [e1,Bool.false_eq_true,if_false]
    exact e
   ·rcases q with q | q
    ·rcases List.mem_cons.mp q with q | q
     ·exact absurd (congrArg Prod.snd q).symm hk
     ·exact .inl q
    ·exact .inr q
theorem zia {scope:Scope} {env:Env} (h:∀ x∈scope.names,x.2=.free->∃ c,env.cells.lookup x.1=some c) :
  ∃ cl,closureFor scope env=pure cl∧(∀ x c,cl.lookup x=some c->env.cells.lookup x=some c)∧∀ x,(x,NameKind.free)∈scope.names->∃ c,cl.lookup x=some c:=by
 obtain ⟨cl,e,h1,h2⟩:=zek (env:=env) scope.names [] h
 refine ⟨cl,?_,λx c q=>(h1 x c q).elim (λz=>by cases z) id,λx q=>h2 x (.inl q)⟩
 have e2:closureFor scope env=(forIn (m:=Sem) scope.names [] λ(x:Str×NameKind) (cs:List (Str×Addr))=>if (x.2 == NameKind.free)=true then (do let a ← cellOf env x.1;pure (ForInStep.yield ((x.1,a) :: cs))) else pure (ForInStep.yield cs)) >>= λr=>pure r:=by
  unfold closureFor
  rfl
 rw [e2,e]
 rfl
theorem lookup_relabel {env:Env}:∀ {names:List (Str×NameKind)} {x:Str} {k:NameKind},
  (names.map λ(n,k)=>if (k == NameKind.free&&env.scope.kind == .function&&env.kindOf n == some .cell) then (n,NameKind.cell) else (n,k)).lookup x=some k →
   names.lookup x=some k∨(k=.cell∧names.lookup x=some .free)
 | [],_,_,h=>by simp at h
 | (n,k') :: r,x,k,h=>by
  have ih:=@lookup_relabel env r x k
  have h:List.lookup x ((if (k' == NameKind.free&&env.scope.kind == .function&&env.kindOf n == some .cell)=true then (n,NameKind.cell) else (n,k')) :: _)=some k:=h
  cases hx:x == n with
  | true =>
   by_cases hc:(k' == NameKind.free&&env.scope.kind == .function&&env.kindOf n == some .cell)=true
   ·rw [if_pos hc] at h
    simp only [List.lookup_cons,hx] at h
    cases h
    simp only [Bool.and_eq_true,beq_iff_eq] at hc
    refine .inr ⟨rfl,?_⟩
    simp [List.lookup_cons,hx,hc.1.1]
   ·rw [if_neg hc] at h
    simp only [List.lookup_cons,hx] at h
    cases h
    exact .inl (by simp [List.lookup_cons,hx])
  | false =>
   have h':(r.map λ(n,k)=>if (k == NameKind.free&&env.scope.kind == .function&&env.kindOf n == some .cell) then (n,NameKind.cell) else (n,k)).lookup x=some k:=by
    by_cases hc:(k' == NameKind.free&&env.scope.kind == .function&&env.kindOf n == some .cell)=true
    ·rw [if_pos hc] at h
     simpa only [List.lookup_cons,hx] using h
    ·rw [if_neg hc] at h
     simpa only [List.lookup_cons,hx] using h
   simpa only [List.lookup_cons,hx] using ih h'
theorem cells_look:∀ (names:List (Str×NameKind)) (a:Nat) (acc:List (Str×Addr)) (x:Str) (c:Addr),(cellsFrom a names acc).lookup x=some c->((x,NameKind.cell)∈names∧a≤c)∨((x,NameKind.cell) ∉ names∧acc.lookup x=some c)
 | [],_,_,_,_,h=>.inr ⟨by simp,h⟩
 | (n,k) :: r,a,acc,x,c,h=>by
  unfold cellsFrom at h
  by_cases hk:k=.cell
  ·subst hk
   rw [if_pos (by rfl)] at h
   rcases cells_look r (a+1) ((n,a) :: acc) x c h with ⟨h1,h2⟩ | ⟨h1,h2⟩
   ·exact .inl ⟨List.mem_cons_of_mem _ h1,Nat.le_of_succ_le h2⟩
   ·rw [List.lookup_cons] at h2
    cases hx:x == n with
    | true =>
     rw [hx] at h2
     have h2:some a=some c:=h2
     cases h2
     rw [eq_of_beq hx]
     exact .inl ⟨List.mem_cons_self,Nat.le_refl _⟩
    | false =>
     rw [hx] at h2
     refine .inr ⟨λz=>?_,h2⟩
     rcases List.mem_cons.mp z with z | z
     ·have:=congrArg Prod.fst z
      have:x=n:=this
      rw [this] at hx
      simp at hx
     ·exact h1 z
  ·have hk':(k == NameKind.cell)=false:=by simpa using hk
   rw [hk',if_neg (by simp)] at h
   rcases cells_look r a acc x c h with ⟨h1,h2⟩ | ⟨h1,h2⟩
   ·exact .inl ⟨List.mem_cons_of_mem _ h1,h2⟩
   ·refine .inr ⟨λz=>?_,h2⟩
    rcases List.mem_cons.mp z with z | z
    ·exact hk (congrArg Prod.snd z).symm
    ·exact h1 z
theorem zff:∀ (names:List (Str×NameKind)) (a:Nat) (acc:List (Str×Addr)) (x:Str),((x,NameKind.cell)∈names∨∃ c,acc.lookup x=some c)->∃ c,(cellsFrom a names acc).lookup x=some c
 | [],_,_,_,h=>by
  rcases h with h | h
  ·simp at h
  ·exact h
 | (n,k) :: r,a,acc,x,h=>by
  unfold cellsFrom
  by_cases hk:k=.cell
  ·subst hk
   rw [if_pos (by rfl)]
   refine zff r (a+1) ((n,a) :: acc) x ?_
   by_cases hx:x=n
   ·subst hx
    exact .inr ⟨a,by rw [List.lookup_cons];simp⟩
   ·rcases h with h | ⟨c,h⟩
    ·rcases List.mem_cons.mp h with h | h
     ·exact absurd (congrArg Prod.fst h) hx
     ·exact .inl h
    ·refine .inr ⟨c,?_⟩
     have:(x == n)=false:=by simpa using hx
     rw [List.lookup_cons,this]
     exact h
  ·have hk':(k == NameKind.cell)=false:=by simpa using hk
   rw [hk',if_neg (by simp)]
   refine zff r a acc x ?_
   rcases h with h | h
   ·rcases List.mem_cons.mp h with h | h
    ·exact absurd (congrArg Prod.snd h).symm hk
    ·exact .inl h
   ·exact .inr h
theorem zd4:∀ (names:List (Str×NameKind)) (a:Nat) (acc acc':List (Str×Addr)) (x:Str),((x,NameKind.cell)∈names∨acc.lookup x=acc'.lookup x)->(cellsFrom a names acc).lookup x=(cellsFrom a names acc').lookup x
 | [],_,_,_,_,h=>by
  rcases h with h | h
  ·simp at h
  ·exact h
 | (n,k) :: r,a,acc,acc',x,h=>by
  unfold cellsFrom
  by_cases hk:k=.cell
  ·subst hk
   rw [if_pos (by rfl),if_pos (by rfl)]
   refine zd4 r (a+1) _ _ x ?_
   by_cases hx:x=n
   ·subst hx
    exact .inr (by rw [List.lookup_cons,List.lookup_cons];simp)
   ·have hx':(x == n)=false:=by simpa using hx
    rcases h with h | h
    ·rcases List.mem_cons.mp h with h | h
     ·exact absurd (congrArg Prod.fst h) hx
     ·exact .inl h
    ·exact .inr (by rw [List.lookup_cons,List.lookup_cons,hx'];exact h)
  ·have hk':(k == NameKind.cell)=false:=by simpa using hk
   rw [hk',if_neg (by simp),if_neg (by simp)]
   refine zd4 r a _ _ x ?_
   rcases h with h | h
   ·rcases List.mem_cons.mp h with h | h
    ·exact absurd (congrArg Prod.snd h).symm hk
    ·exact .inl h
   ·exact .inr h
theorem zc4 {M:Model} {A:Around} {E:Value->Shared->Prop} {s:Shared} {scope:Scope} {globals:Addr} {closure:List (Str×Addr)} {qual:Str} {func:Option Addr} {code:Value} {outer:Env} {builtins:Addr} {Q:Env->Shared->Prop}
  (hQ:∀ h',h'.Ns s.heap.objs.size (λ_=>none)->(∀ b o,s.heap.get? b=some o->h'.get? b=some o) →
   (∀ x c,(x,NameKind.cell)∈scope.names->(cellsFrom (s.heap.objs.size+1) scope.names closure).lookup x=some c->h'.IsCell c none) →
   Q (newEnv scope s.heap.objs.size globals (cellsFrom (s.heap.objs.size+1) scope.names closure) qual func code (some outer) builtins) { s with heap:=h' }) :
  wpAny M A (newFunctionEnv scope globals closure [] qual func code (some outer) builtins) Q E s:=by
 simp only [newFunctionEnv,Option.isSome_some,if_true]
 refine wpAny_bind (wpAny_alloc ?_)
 refine wpAny_bind (wpAny_layCells _ (λname kind cells=>by cases hkc:kind == NameKind.cell<;>simp [hkc]) _ _ _ _ ?_)
 have ok:=cellsFrom_ok scope.names (s.heap.push { cls:=.type "dict",data:=.dict #[] }) (s.heap.objs.size+1) [] ⟨λ_ _ hm=>(nomatch hm),List.Pairwise.nil⟩ (by rw [Heap.size_push];exact Nat.le_refl _)
 rw [Heap.size_push] at ok
 rw [show ({ s with heap:=s.heap.push { cls:=.type "dict",data:=.dict #[] } }:Shared).heap.objs.size=s.heap.objs.size+1 from Heap.size_push ..]
 simp only [List.forIn_nil]
 refine wpAny_bind (wpAny_pure (wpAny_pure (hQ _ ((Heap.Ns.new s.heap (.type "dict")).keeps (pushCells_keeps _ _)) (λb o e=>pushCells_keeps _ _ b o (Heap.get?_push_of_some _ e)) λx c hx hc=>?_)))
 rw [zd4 _ _ closure [] x (.inl hx)] at hc
 exact (ok.empty x c (PySem.mem_of_lookup hc)).1
def zbe (X:Cx) (N':List Str) (scope:Scope) (cl:List (Str×Addr)) (C:Addr) (fp:List Addr) (s:Shared) (H:Hp):Cx where
 prog:=X.prog
 w:=X.w
 K:=X.K
 mg:=X.mg
 base:=X.base
 A:=X.A
 N:=N'
 s₀:=s
 H₀:=H
 env:=compEnvC scope cl C X.env
 outer:=X.stack
 stack:=X.stack
 ex:=fp
 fn:=λx=>scope.names.lookup x == some .cell
 calm:=true
 pn:=X.pn
 xe:=λ_ _=>False
def zeK (own:Nat) (fv:List Nat) (σ:St):St:=List.replicate own none++fv.map λi=>(σ[i]?).join
structure BlkScope (X:Cx) (scope:Scope) (own fvn:List Str) (fv:List Nat):Prop where
 cell:∀ y∈scope.names,y.2=.cell->scope.names.lookup y.1=some .cell
 fre:∀ y∈scope.names,y.2=.free->scope.names.lookup y.1=some .free
 kind:scope.kind=.function
 names:∀ y∈scope.names,y.2=.local->scope.names.lookup y.1=some .local
 free:∀ y∈scope.names,y.2=.free->X.env.scope.names.lookup y.1=some .cell∨X.env.scope.names.lookup y.1=some .free
 map:fvn.map some=fv.map λi=>X.N[i]?
 vis:∀ x∈fvn,scope.names.lookup x=some .free
section
variable {X:Cx} {pins:List (Addr×Obj)} {σ:St} {H:Hp} {s:Shared}
def zkI (X:Cx) (scope:Scope) (cl:List (Str×Addr)) (C:Addr):Prop:=(∀ x c,cl.lookup x=some c->(X.env.cells.lookup x=some c∧scope.names.lookup x≠some .cell)∨(C<c∧scope.names.lookup x=some .cell)) ∧
 (∀ x y c,C<c->cl.lookup x=some c->cl.lookup y=some c->x=y)∧∀ x,((x,NameKind.free)∈scope.names∨(x,NameKind.cell)∈scope.names)->∃ c,cl.lookup x=some c
theorem zm4 {scope:Scope} {own fvn:List Str} {fv:List Nat} {cl:List (Str×Addr)} {C:Addr} (B:BlkScope X scope own fvn fv) (h1:∀ x c,cl.lookup x=some c->X.env.cells.lookup x=some c) (h2:∀ x,(x,NameKind.free)∈scope.names->∃ c,cl.lookup x=some c)
  (hlt:∀ x c,X.env.cells.lookup x=some c->c≤C):zkI X scope (cellsFrom (C+1) scope.names cl) C:=by
 refine ⟨λx c e=>?_,λx y c hc e1 e2=>?_,λx hx=>?_⟩
 ·rcases cells_look _ _ _ _ _ e with ⟨z1,z2⟩ | ⟨z1,z2⟩
  ·exact .inr ⟨z2,B.cell _ z1 rfl⟩
  ·exact .inl ⟨h1 x c z2,λq=>z1 (PySem.mem_of_lookup q)⟩
 ·have key:∀ x,(cellsFrom (C+1) scope.names cl).lookup x=some c->(x,c)∈cellsFrom (C+1) scope.names []:=λx e=>by
   rcases cells_look _ _ _ _ _ e with ⟨z1,z2⟩ | ⟨z1,z2⟩
   ·rw [zd4 _ _ cl [] x (.inl z1)] at e
    exact PySem.mem_of_lookup e
   ·exact absurd (hlt x c (h1 x c z2)) (Nat.not_le.mpr hc)
  have ap:∀ (names:List (Str×NameKind)) (a:Nat) (acc:List (Str×Addr)),(∀ e∈acc,e.2<a)->(acc.Pairwise λx y=>x.2≠y.2)->(cellsFrom a names acc).Pairwise λx y=>x.2≠y.2:=by
   intro names
   induction names with
   | nil=>intro a acc _ h;exact h
   | cons nk r ih =>
    intro a acc h h'
    obtain ⟨n,k⟩:=nk
    unfold cellsFrom
    split
    ·refine ih (a+1) _ (λe he=>?_) (List.pairwise_cons.mpr ⟨λy hy=>Nat.ne_of_gt (h y hy),h'⟩)
     rcases List.mem_cons.mp he with rfl | he
     ·exact Nat.lt_succ_self _
     ·exact Nat.lt_succ_of_lt (h e he)
    ·exact ih a acc h h'
  exact PySem.name_of_addr (ap scope.names (C+1) [] (by simp) .nil) (key x e1) (key y e2)
 ·refine zff _ _ _ _ ?_
  rcases hx with hx | hx
  ·exact .inr (h2 x hx)
  ·exact .inl hx
theorem zkQ {scope:Scope} {own fvn:List Str} {fv:List Nat} {cl:List (Str×Addr)} {C:Addr} {fp:List Addr} (I:Inv X pins σ H s) (B:BlkScope X scope own fvn fv) (hc:X.calm=true)
  (hb:zkI X scope cl C)
  (hC:s.heap.objs.size≤C) (hf:∀ b∈fp,FpOk X pins H b) (hl:∀ b∈fp,b<s.heap.objs.size):(zbe X (own++fvn) scope cl C fp s H).Ok where
 mod:=I.ok.mod
 kind:=B.kind
 glob:=I.ok.glob
 blt:=I.ok.blt
 above:=hC
 inj:=λx y c e1 e2=>by
  have lt:∀ z,X.env.cells.lookup z=some c->c<s.heap.objs.size:=λz e=>by obtain ⟨v,q⟩:=I.cell z c e;exact q.lt
  rcases hb.1 x c e1 with ⟨z1,_⟩ | ⟨z1,_⟩
  ·rcases hb.1 y c e2 with ⟨z2,_⟩ | ⟨z2,_⟩
   ·exact I.ok.inj x y c z1 z2
   ·exact absurd (Nat.lt_of_lt_of_le (lt x z1) hC) (Nat.not_lt.mpr (Nat.le_of_lt z2))
  ·exact hb.2.1 x y c z1 e1 e2
 has:=λx hx=>by
  have hx:(scope.names.map λ(n,k)=>if (k == NameKind.free&&X.env.scope.kind == .function&&X.env.kindOf n == some .cell) then (n,NameKind.cell) else (n,k)).lookup x=some .cell ∨
   (scope.names.map λ(n,k)=>if (k == NameKind.free&&X.env.scope.kind == .function&&X.env.kindOf n == some .cell) then (n,NameKind.cell) else (n,k)).lookup x=some .free:=hx
  refine hb.2.2 x ?_
  rcases hx with hx | hx
  ·rcases lookup_relabel hx with z | ⟨_,z⟩
   ·exact .inr (PySem.mem_of_lookup z)
   ·exact .inl (PySem.mem_of_lookup z)
  ·rcases lookup_relabel hx with z | ⟨z,_⟩
   ·exact .inl (PySem.mem_of_lookup z)
   ·cases z
 cab:=λx c h e=>by
  have h:(scope.names.lookup x == some NameKind.cell)=true:=h
  rcases hb.1 x c e with ⟨_,z⟩ | ⟨z,_⟩
  ·exact absurd (eq_of_beq h) z
  ·exact Nat.le_trans hC (Nat.le_of_lt z)
 hd:=λ_=>I.ok.hd hc
 frames:=I.ok.frames
 stk:=.inl rfl
 exf:=λb hb'=>⟨Nat.ne_of_lt (Nat.lt_of_lt_of_le (hl b hb') hC),λx c e=>by
  rcases hb.1 x c e with ⟨z,_⟩ | ⟨z,_⟩
  ·exact (hf b hb').2.2.2.2.1 x c z
  ·exact Nat.ne_of_gt (Nat.lt_trans (Nat.lt_of_lt_of_le (hl b hb') hC) z)⟩
 bs:=I.bs
 bsz:=Nat.le_trans I.ok.bsz I.sz
 noex:=λb o e hb=>by
  rcases (hf b hb).2.2.2.1 with z | z
  ·exact I.ok.noex b o e z
  ·exact absurd (Nat.lt_of_lt_of_le (Heap.lt_size (I.ok.bs b o e).1) z) (Nat.lt_irrefl _)
 exfs:=λb hb z=>by
  rcases List.mem_cons.mp (I.stkSub b z) with q | q
  ·exact (hf b hb).2.1 q
  ·exact (hf b hb).2.2.1 q
 funs:=I.stack
 frf:=I.stkFree
theorem zmn {own:List Str} {fvn:List Str} {fv:List Nat} {i:Nat} {x:Str} {v:V} (hm:fvn.map some=fv.map λi=>X.N[i]?) (h1:(own++fvn)[i]?=some x) (h2:(zeK own.length fv σ)[i]?=some (some v)) :
  x∈fvn∧∃ j:Nat,X.N[j]?=some x∧σ[j]?=some (some v):=by
 unfold zeK at h2
 by_cases hi:i<own.length
 ·rw [List.getElem?_append_left (by simpa using hi),List.getElem?_replicate] at h2
  split at h2<;>cases h2
 ·rw [List.getElem?_append_right (by simpa using hi),List.length_replicate,List.getElem?_map] at h2
  rw [List.getElem?_append_right (by simpa using hi)] at h1
  have q:(fvn.map some)[i-own.length]?=(fv.map λi=>X.N[i]?)[i-own.length]?:=by rw [hm]
  rw [List.getElem?_map,List.getElem?_map,h1] at q
  cases e:fv[i-own.length]? with
  | none=>rw [e] at h2;cases h2
  | some j =>
   rw [e] at h2 q
   have q':X.N[j]?=some x:=(Option.some.inj q).symm
   have h2':(σ[j]?).join=some v:=Option.some.inj h2
   refine ⟨List.mem_of_getElem? h1,j,q',?_⟩
   cases e2:σ[j]? with
   | none=>rw [e2] at h2';cases h2'
   | some o =>
    rw [e2] at h2'
    have:o=some v:=h2'
    rw [this]
theorem zg9 {scope:Scope} {own fvn:List Str} {fv:List Nat} {cl:List (Str×Addr)} {C D:Addr} {fp:List Addr} {h':Heap} {t':Nat} {m:Str->Option Value} (I:Inv X pins σ H s) (B:BlkScope X scope own fvn fv) (hc:X.calm=true)
  (hb:zkI X scope cl C) (hnew:∀ x c,C<c->cl.lookup x=some c->h'.IsCell c none)
  (hf:∀ b∈fp,FpOk X pins H b) (hl:∀ b∈fp,b<s.heap.objs.size) (hD:s.heap.objs.size≤D) (hC:s.heap.objs.size≤C) (hDC:D<C)
  (k:∀ b o,s.heap.get? b=some o->h'.get? b=some o) (hn:h'.Ns C m) (ho:h'.get? D=some { cls:=.type "list",data:=.seq #[] 0 }) :
  Inv (zbe X (own++fvn) scope cl C fp s H) pins (zeK own.length fv σ) (upd H D (.lst [])) { s with heap:=h',toks:=t' }:=by
 have hDn:H D=none:=I.hok.fresh hD
 have hCn:H C=none:=I.hok.fresh hC
 have lt:∀ b o,s.heap.get? b=some o->b≠D:=λb o e=>Nat.ne_of_lt (Nat.lt_of_lt_of_le (Heap.lt_size e) hD)
 refine ⟨zkQ I B hc hb hC hf hl,rfl,I.bare,Un.laid k hD hDn,⟨m,hn,λi x v e1 e2 e3=>?_⟩,λx c e=>?_,?_,λx c e=>?_,λp hp=>?_,?_,?_⟩
 ·obtain ⟨hx,j,e4,e5⟩:=zmn B.map e1 e2
  have hfr:=B.vis x hx
  obtain ⟨c,hcl⟩:=hb.2.2 x (.inl (PySem.mem_of_lookup hfr))
  have h1x:X.env.cells.lookup x=some c:=by
   rcases hb.1 x c hcl with ⟨z,_⟩ | ⟨_,z⟩
   ·exact z
   ·rw [hfr] at z;cases z
  obtain ⟨m0,hn0,hl0⟩:=I.loc
  have ok:=B.free _ (PySem.mem_of_lookup hfr) rfl
  have hv:Vis X.env.scope x:=by
   rcases ok with z | z
   ·exact .inr (.inl z)
   ·exact .inr (.inr z)
  obtain ⟨u,r,l⟩:=hl0 j x v e4 e5 hv
  refine ⟨u,r,.inr ⟨?_,c,hcl,?_⟩⟩
  ·rcases e3 with z | z | z
   ·have z':(scope.names.map λ(n,k)=>if (k == NameKind.free&&X.env.scope.kind == .function&&X.env.kindOf n == some .cell) then (n,NameKind.cell) else (n,k)).lookup x=some .local:=z
    rcases lookup_relabel z' with y | ⟨y,_⟩
    ·rw [hfr] at y;cases y
    ·cases y
   ·exact .inl z
   ·exact .inr z
  ·rcases l with ⟨k0,_⟩ | ⟨_,c',e6,o,ho',hd⟩
   ·have k0':X.env.scope.names.lookup x=some .local:=k0
    rcases ok with z | z<;>(rw [k0'] at z;cases z)
   ·rw [h1x] at e6
    cases e6
    exact ⟨o,k _ _ ho',hd⟩
 ·rcases hb.1 x c e with ⟨z,_⟩ | ⟨z,_⟩
  ·obtain ⟨v,o,ho',hd⟩:=I.cell x c z
   exact ⟨v,o,k _ _ ho',hd⟩
  ·exact ⟨none,hnew x c z e⟩
 ·show upd H D (.lst []) C=none
  rw [upd_ne (Nat.ne_of_gt hDC)];exact hCn
 ·rcases hb.1 x c e with ⟨z,_⟩ | ⟨z,_⟩
  ·obtain ⟨v,o,ho',hd⟩:=I.cell x c z
   rw [upd_ne (lt _ _ ho')]
   exact I.freeC x c z
  ·rw [upd_ne (Nat.ne_of_gt (Nat.lt_trans hDC z))]
   exact I.hok.fresh (Nat.le_trans hC (Nat.le_of_lt z))
 ·obtain ⟨e,n,ne,nf,d⟩:=I.pin p hp
  refine ⟨k _ _ e,?_,Nat.ne_of_lt (Nat.lt_of_lt_of_le (Heap.lt_size e) hC),λz=>?_,d⟩
  ·rw [upd_ne (lt _ _ e)];exact n
  ·rcases List.mem_cons.mp (I.stkSub _ z) with q | q
   ·exact ne q
   ·exact nf q
 ·exact I.hok.laid k hD ⟨Nat.zero_le _,[],0,.nil,ho⟩
 ·have hm:=congrArg List.length B.map
  rw [List.length_map,List.length_map] at hm
  show (zeK own.length fv σ).length=(own++fvn).length
  unfold zeK
  rw [List.length_append,List.length_append,List.length_replicate,List.length_map,hm]
theorem ziv {scope:Scope} {N':List Str} {cl:List (Str×Addr)} {C:Addr} {fp:List Addr} {σ':St} {H':Hp} {s':Shared} (I:Inv X pins σ H s) (hC:s.heap.objs.size≤C) (hf:∀ b∈fp,FpOk X pins H b)
  (J:Inv (zbe X N' scope cl C fp s H) pins σ' H' s'):Inv X pins σ H' s'∧FpOk X pins H' C:=by
 have I':Inv X pins σ H' s':=I.call' (ch:=fp) J.os J.base J.hok J.bare λb hb=>⟨(hf b hb).2.2.2.1,(hf b hb).2.1,(hf b hb).2.2.2.2.1,(hf b hb).2.2.2.2.2⟩
 refine ⟨I',J.free,Nat.ne_of_gt (Nat.lt_of_lt_of_le I.lt hC),I.nofs hC,.inr (Nat.le_trans I.sz hC),λx c e z=>?_,λp hp z=>?_⟩
 ·obtain ⟨v,q⟩:=I.cell x c e
  exact absurd (Nat.lt_of_lt_of_le q.lt (by rw [z];exact hC)) (Nat.lt_irrefl _)
 ·exact absurd (Nat.lt_of_lt_of_le (Heap.lt_size (I.pin p hp).1) (by rw [z];exact hC)) (Nat.lt_irrefl _)
end
section
variable {prog:Program} {w:World} {A:Around} {R:Result->Shared->Prop} {s:Shared}
theorem comp_loop {elt target iter:Expr} {ifs:List Expr} {scope:Scope} {pos:Pos} {it acc:Value} {env:Env} (I:Nat->Shared->Prop)
  (turn:∀ n s,I n s->wpAny (model prog w) A (pyNext it) (λr s₁=>match r with
   | none=>R (.ok .next) s₁
   | some v=>wpAny (model prog w) A (letOwnedTupleGo target it v) (λ_ s₁'=>wpAny (model prog w) A (assign target env v) (λ_ s₂ =>
     wpAny (model prog w) A (forIn ifs true λc r=>if r=true then do let ok ← isTrue c env (eval c env);pure (ForInStep.yield ok) else pure (ForInStep.yield r)) (λok s₃ =>
      if ok=true then wpAny (model prog w) A (eval elt env) (λx s₄ =>
       wpAny (model prog w) A (call (.builtin "list.append") [acc,x]) (λ_ s₅=>∃ m,m<n∧I m s₅) (λ_ _=>False) s₄) (λ_ _=>False) s₃
      else ∃ m,m<n∧I m s₃) (λ_ _=>False) s₂) (λ_ _=>False) s₁') (λ_ _=>False) s₁) (λ_ _=>False) s)
  (n:Nat) (h:I n s) :
  codeAny (model prog w) A (.compLoop (.ListComp elt [⟨target,iter,ifs,0⟩] scope pos) 0 it acc env) R s:=by
 refine codeAny_loop rfl I (λn s hI=>?_) n h
 show wpAny _ A ((compTurn (.ListComp elt [⟨target,iter,ifs,0⟩] scope pos) 0 it acc env).onRaise (λx=>do noteFrame x env;theTreesLotGoes x)) _ _ s
 refine wpAny_noted ?_
 rw [compTurn_list]
 refine wpAny_bind (wpAny_standAt (wpAny_bind (wpAny_mono (turn n s hI) (λr s₁ h₁=>?_) λ_ _ h'=>h'.elim)))
 cases r with
 | none=>exact wpAny_pure h₁
 | some v =>
  refine wpAny_bind (wpAny_mono h₁ (λ_ s₁' h₁'=>?_) λ_ _ h'=>h'.elim)
  refine wpAny_bind (wpAny_mono h₁' (λ_ s₂ h₂=>wpAny_bind (wpAny_mono h₂ (λok s₃ h₃=>?_) λ_ _ h'=>h'.elim)) λ_ _ h'=>h'.elim)
  cases ok with
  | false=>exact wpAny_pure ⟨rfl,h₃⟩
  | true =>
   exact wpAny_bind (wpAny_bind (wpAny_mono h₃ (λx s₄ h₄=>wpAny_bind (wpAny_mono h₄ (λ_ s₅ h₅=>wpAny_pure (wpAny_pure ⟨rfl,h₅⟩)) λ_ _ h'=>h'.elim)) λ_ _ h'=>h'.elim))
end
abbrev TTs:=St->Hp->(Bool->Hp->Prop)->Prop
def PTs (X:Cx) (ifs:List Expr) (t:TTs):Prop :=
 ∀ (pins:List (Addr×Obj)) (s:Shared) (σ:St) (H:Hp) (Q:Bool->Hp->Prop),Inv X pins σ H s->t σ H Q →
  wpAny (model X.prog X.w) X.A (forIn ifs true λc r=>if r=true then do let ok ← isTrue c X.env (eval c X.env);pure (ForInStep.yield ok) else pure (ForInStep.yield r)) (TP X pins σ Q) X.xe s
def tNoIf:TTs:=λ_ H Q=>Q true H
theorem zaZ {X:Cx}:PTs X [] tNoIf:=λ_ _ _ H _ I h=>wpAny_tests_nil ⟨H,I,h⟩
theorem zlz {X:Cx} {c:Expr} {t:TT} (h:PT X c t):PTs X [c] t:=λpins s σ H Q I hw=>wpAny_tests_one (h pins s σ H Q I hw)
def ziJ (own:Nat) (fv:List Nat) (wi:TI) (g:TG) (tt:TTs) (te:TE):TE:=λσ H Q=>wi σ H λJ H1=>∀ D,H1 D=none →
 ∃ W:Nat->Nat->List V->St->Hp->Prop,(∃ m,W 0 m [] (zeK own fv σ) (upd H1 D (.lst [])))∧∀ i m ys σb H,W i m ys σb H->H D=some (.lst ys) ∧
  ((J.stop i H∧Q (.ref D) H)∨(J.go i H∧∀ x H',J.yld i H x H'->g x σb H' λσ2 H2=>tt σ2 H2 λok H3=>if ok=true then te σ2 H3 λy H4=>H4 D=some (.lst ys)∧ys.length<sizeLine∧∃ m',m'<m∧W (i+1) m' (ys++[y]) σ2 (upd H4 D (.lst (ys++[y])))
   else ∃ m',m'<m∧W (i+1) m' ys σ2 H3))
section
variable {X:Cx} {tg iter elt:Expr} {ifs:List Expr} {scope:Scope} {pos:Pos} {wi:TI} {g:TG} {tt:TTs} {te:TE} {own fvn:List Str} {fv:List Nat}
theorem zhF {pins:List (Addr×Obj)} {σ:St} {s:Shared} {Q:VK} {E:Value->Shared->Prop} {cl:List (Str×Addr)} {RR:Value->Addr->Result->Shared->Prop} {itv:Value}
  (hc:X.calm=true) (B:BlkScope X scope own fvn fv) (h1:∀ x c,cl.lookup x=some c->X.env.cells.lookup x=some c) (h2:∀ x,(x,NameKind.free)∈scope.names->∃ c,cl.lookup x=some c)
  (hb:∀ (cl:List (Str×Addr)) (C:Addr) (fp:List Addr) (s:Shared) (H:Hp),PG (zbe X (own++fvn) scope cl C fp s H) tg g∧PTs (zbe X (own++fvn) scope cl C fp s H) ifs tt∧PE (zbe X (own++fvn) scope cl C fp s H) elt te)
  (P:PIE X pins σ tg (λJ H1=>∀ D,H1 D=none →
   ∃ W:Nat->Nat->List V->St->Hp->Prop,(∃ m,W 0 m [] (zeK own.length fv σ) (upd H1 D (.lst [])))∧∀ i m ys σb H,W i m ys σb H->H D=some (.lst ys) ∧
    ((J.stop i H∧Q (.ref D) H)∨(J.go i H∧∀ x H',J.yld i H x H'->g x σb H' λσ2 H2=>tt σ2 H2 λok H3=>if ok=true then te σ2 H3 λy H4=>H4 D=some (.lst ys)∧ys.length<sizeLine∧∃ m',m'<m∧W (i+1) m' (ys++[y]) σ2 (upd H4 D (.lst (ys++[y])))
     else ∃ m',m'<m∧W (i+1) m' ys σ2 H3))) itv s)
  (hRR:∀ D C s' H' m,Inv X pins σ H' s'->s'.heap.Ns C m->FpOk X pins H' C->Q (.ref D) H'->RR (.ref D) C (.ok .next) s') :
  wpAny (model X.prog X.w) X.A (newList []) (λacc s₃=>wpAny (model X.prog X.w) X.A (newFunctionEnv scope X.env.globals cl [] X.env.qual none .none (some X.env)) (λcenv s₄ =>
   codeAny (model X.prog X.w) X.A (.compStart (.ListComp elt [⟨tg,iter,ifs,0⟩] scope pos) 0 itv acc { cenv with scope:=relabel scope X.env }) (RR acc cenv.locals) s₄) E s₃) E s:=by
 obtain ⟨it,fp,tn,J,H2,rfl,I2,T,st2,f2,hW⟩:=P
 have hl:∀ b∈fp,b<s.heap.objs.size:=λb hb=>by
  obtain ⟨o,e,_⟩:=T.obj _ _ st2 b hb
  exact Heap.lt_size e
 refine wpAny_newObj_type (zc4 (λh₁ hns₁ hsb₁ hcl₁=>?_))
 dsimp only at hns₁ hsb₁ hcl₁ ⊢
 generalize hH2:s.heap.push { cls:=.type "list",dict:=none,data:=.seq ([]:List Value).toArray }=G2 at hns₁ hsb₁ hcl₁ ⊢
 have hC:G2.objs.size=s.heap.objs.size+1:=by rw [← hH2,Heap.size_push]
 have hDC:s.heap.objs.size<G2.objs.size:=by rw [hC];exact Nat.lt_succ_self _
 have hCle:s.heap.objs.size≤G2.objs.size:=by rw [hC];exact Nat.le_succ _
 have old:∀ b o,s.heap.get? b=some o->h₁.get? b=some o:=λb o e=>hsb₁ b o (hH2 ▸ Heap.get?_push_of_some _ e)
 have hacc:h₁.get? s.heap.objs.size=some { cls:=.type "list",data:=.seq #[] 0 }:=hsb₁ _ _ (hH2 ▸ Heap.get?_push_size _ rfl)
 have hbc:zkI X scope (cellsFrom (G2.objs.size+1) scope.names cl) G2.objs.size:=zm4 B h1 h2 λx c e=>by
  obtain ⟨v,q⟩:=I2.cell x c e
  exact Nat.le_trans (Nat.le_of_lt q.lt) hCle
 have hnew:∀ x c,G2.objs.size<c->(cellsFrom (G2.objs.size+1) scope.names cl).lookup x=some c->h₁.IsCell c none:=λx c hc' e=>by
  rcases hbc.1 x c e with ⟨z,_⟩ | ⟨_,z⟩
  ·obtain ⟨v,q⟩:=I2.cell x c z
   exact absurd (Nat.lt_of_lt_of_le q.lt hCle) (Nat.not_lt.mpr (Nat.le_of_lt hc'))
  ·exact hcl₁ x c (PySem.mem_of_lookup z) e
 generalize cellsFrom (G2.objs.size+1) scope.names cl=cl' at hbc hnew ⊢
 clear h1 h2 hcl₁
 obtain ⟨W,⟨m0,w0⟩,turn⟩:=hW s.heap.objs.size (I2.hok.fresh (Nat.le_refl _))
 have J0:∀ t',Inv (zbe X (own++fvn) scope cl' G2.objs.size fp s H2) pins (zeK own.length fv σ) (upd H2 s.heap.objs.size (.lst [])) { s with heap:=h₁,toks:=t' }:=λt' =>
  zg9 I2 B hc hbc hnew f2 hl (Nat.le_refl _) hCle hDC old hns₁ hacc
 obtain ⟨hpg,hpt,hpe⟩:=hb cl' G2.objs.size fp s H2
 have stat:∀ {H':Hp},(∀ b∈fp,H' b=none)->∀ b∈fp,FpOk (zbe X (own++fvn) scope cl' G2.objs.size fp s H2) pins H' b:=λhn b hb =>
  ⟨hn b hb,Nat.ne_of_lt (Nat.lt_of_lt_of_le (hl b hb) hCle),λz=>by
   rcases List.mem_cons.mp (I2.stkSub b z) with q | q
   ·exact (f2 b hb).2.1 q
   ·exact (f2 b hb).2.2.1 q,.inl hb,λx c e=>(by
    rcases hbc.1 x c e with ⟨z,_⟩ | ⟨z,_⟩
    ·exact (f2 b hb).2.2.2.2.1 x c z
    ·exact Nat.ne_of_gt (Nat.lt_trans (Nat.lt_of_lt_of_le (hl b hb) hCle) z)),(f2 b hb).2.2.2.2.2⟩
 have st1:tn 0 h₁:=T.keep _ _ _ st2 λb hb o e=>old b o e
 have fr1:∀ b∈fp,upd H2 s.heap.objs.size (.lst []) b=none:=λb hb=>by
  rw [upd_ne (Nat.ne_of_lt (hl b hb))];exact (f2 b hb).1
 have loop:∀ s₃:Shared,s₃={ s with heap:=h₁ } →
   codeAny (model X.prog X.w) X.A (.compLoop (.ListComp elt [⟨tg,iter,ifs,0⟩] scope pos) 0 (.ref it) (.ref s.heap.objs.size) (compEnvC scope cl' G2.objs.size X.env)) (RR (.ref s.heap.objs.size) G2.objs.size) s₃:=by
  rintro s₃ rfl
  refine comp_loop (λn s'=>∃ i ys σ' H',Inv (zbe X (own++fvn) scope cl' G2.objs.size fp s H2) pins σ' H' s'∧tn i s'.heap∧(∀ b∈fp,H' b=none)∧W i n ys σ' H') ?_ m0 ⟨0,[],_,_,J0 s.toks,st1,fr1,w0⟩
  rintro n s3 ⟨i,ys,σ3,H3,I3,st3,fr3,w3⟩
  obtain ⟨hD,w3⟩:=turn i n ys σ3 H3 w3
  rcases w3 with ⟨stop,qn⟩ | ⟨go,step⟩
  ·refine thn (T.done (zbe X (own++fvn) scope cl' G2.objs.size fp s H2) rfl rfl rfl rfl i pins s3 σ3 H3 _ I3 (stat fr3) st3 stop) λr s4 ⟨hr,I4⟩=>?_
   subst hr
   obtain ⟨I5,fC⟩:=ziv I2 hCle f2 I4
   obtain ⟨m,hn,_⟩:=I4.loc
   exact hRR _ _ s4 H3 m I5 hn fC qn
  ·refine thn (T.item (zbe X (own++fvn) scope cl' G2.objs.size fp s H2) rfl rfl rfl rfl i pins s3 σ3 H3 _ I3 (stat fr3) st3 go) λr s4 ⟨u,hr,h4⟩=>?_
   subst hr
   refine thn h4 λ_ s5 ⟨x,H5,I5,r5,y5,st5,fr5⟩=>?_
   have I5':=I5.pinned (stat fr5) (T.obj _ _ st5)
   refine thn (hpg _ s5 σ3 H5 x u _ I5' r5 (step x H5 y5)) λ_ s6 ⟨σ6,H6,I6,q6⟩=>?_
   refine thn (hpt _ s6 σ6 H6 _ I6 q6) λok s7 ⟨H7,I7,q7⟩=>?_
   have again:∀ {s8:Shared} {σ8:St} {H8:Hp} {ys':List V} {m':Nat},Inv (zbe X (own++fvn) scope cl' G2.objs.size fp s H2) (pins++zgB fp s5.heap) σ8 H8 s8->m'<n->W (i+1) m' ys' σ8 H8 →
     ∃ m,m<n∧∃ i ys σ' H',Inv (zbe X (own++fvn) scope cl' G2.objs.size fp s H2) pins σ' H' s8∧tn i s8.heap∧(∀ b∈fp,H' b=none)∧W i m ys σ' H':=λ{s8 σ8 H8 ys' m'} I8 hm w8=>by
    refine ⟨m',hm,i+1,ys',σ8,H8,I8.unpinned,T.keep _ _ _ st5 λb hb o e=>(I8.pin (b,o) (List.mem_append_right _ (List.mem_append_right _ (zdB hb e)))).1,λb hb=>?_,w8⟩
    obtain ⟨o,e,d⟩:=T.obj _ _ st5 b hb
    exact (I8.pin (b,o) (List.mem_append_right _ (List.mem_append_right _ (zdB hb e)))).2.1
   cases ok with
   | false =>
    rw [if_neg Bool.false_ne_true] at q7 ⊢
    obtain ⟨m',hm,w8⟩:=q7
    exact again I7 hm w8
   | true =>
    rw [if_pos rfl] at q7 ⊢
    refine thn (hpe _ s7 σ6 H7 _ I7 q7) λyv s8 ⟨y,H8,I8,r8,hD8,hz8,m',hm,w8⟩=>?_
    refine thn (mt_append _ s8 σ6 H8 (.ref s.heap.objs.size) [y] _ [yv] (λ_ H9=>H9=upd H8 s.heap.objs.size (.lst (ys++[y]))) I8 rfl (.cons r8 .nil) ⟨_,ys,y,rfl,rfl,hD8,hz8,rfl⟩) λ_ s9 ⟨_,H9,I9,_,e9⟩=>?_
    subst e9
    exact again I9 hm w8
 exact codeAny_compStart_list (loop _ rfl) (T.self _ 0 _ _ _ st1 (loop _ rfl))
theorem zeJ (B:BlkScope X scope own fvn fv) (ok:X.Ok):∃ cl,closureFor scope X.env=pure cl∧(∀ x c,cl.lookup x=some c->X.env.cells.lookup x=some c)∧∀ x,(x,NameKind.free)∈scope.names->∃ c,cl.lookup x=some c :=
 zia λx hx hk=>ok.has x.1 (B.free x hx hk)
theorem zbC (hc:X.calm=true) (B:BlkScope X scope own fvn fv) (hi:PI X tg iter wi)
  (hb:∀ (cl:List (Str×Addr)) (C:Addr) (fp:List Addr) (s:Shared) (H:Hp),PG (zbe X (own++fvn) scope cl C fp s H) tg g∧PTs (zbe X (own++fvn) scope cl C fp s H) ifs tt∧PE (zbe X (own++fvn) scope cl C fp s H) elt te)
  (hs:∀ x,foldedSetIterable iter X.env x=pure x:=by intro _;rfl):PE X (.ListComp elt [⟨tg,iter,ifs,0⟩] scope pos) (ziJ own.length fv wi g tt te):=by
 intro pins s σ H Q I h
 obtain ⟨cl,hcl,h1,h2⟩:=zeJ B I.ok
 rw [eval_ListComp]
 refine wpAny_comprehension_free (use:=none) rfl hs hcl B.kind B.names (thn (hi pins s σ H _ I h) λv s1 q1=>thn q1 λitv s2 q2=>?_)
 refine zhF (RR:=λacc C=>compPost (model X.prog X.w) X.A X.xe none (EP X pins σ Q) acc C) hc B h1 h2 hb q2 λD C s' H' m I' hn fC q=>?_
 exact ⟨m,hn,λh' hs'=>⟨.ref D,H',I'.turned (t':=s'.toks) (λb o hb e=>(hs'.2 b hb).trans e) fC.1 fC.2.1 fC.2.2.2.1 fC.2.2.2.2.1 fC.2.2.2.2.2,rfl,q⟩⟩
theorem zdR {i:Nat} {x:Str} {pos' spos:Pos} (hc:X.calm=true) (hN:X.N.Nodup) (hix:X.N[i]?=some x) (hx:X.env.scope.names.lookup x=some .local) (B:BlkScope X scope own fvn fv) (hi:PI X tg iter wi)
  (hb:∀ (cl:List (Str×Addr)) (C:Addr) (fp:List Addr) (s:Shared) (H:Hp),PG (zbe X (own++fvn) scope cl C fp s H) tg g∧PTs (zbe X (own++fvn) scope cl C fp s H) ifs tt∧PE (zbe X (own++fvn) scope cl C fp s H) elt te)
  (hsw:swapsWith (.ListComp elt [⟨tg,iter,ifs,0⟩] scope pos) (some (.Name x pos')) spos.line X.env=pure true:=by rfl)
  (hs:∀ x,foldedSetIterable iter X.env x=pure x:=by intro _;rfl) :
  PS X (.Assign [.Name x pos'] (.ListComp elt [⟨tg,iter,ifs,0⟩] scope pos) spos) (zih (ziJ own.length fv wi g tt te) (zcb i)):=by
 intro pins s σ H D I h
 obtain ⟨cl,hcl,h1,h2⟩:=zeJ B I.ok
 rw [exec_Assign_Name_used _ _ _ _ hsw]
 refine wpAny_bind (wpAny_standAt (wpAny_bind ?_))
 show wpAny _ _ (do let _ ← comprehension (.ListComp elt [⟨tg,iter,ifs,0⟩] scope pos) scope X.env _ (newList []) false (eval iter X.env) (some (assign (.Name x pos') X.env))) _ _ s
 refine wpAny_bind (wpAny_mono (wpAny_comprehension_free (use:=some (assign (.Name x pos') X.env)) (Q:=λ_ s'=>SP X pins D .next s') rfl hs hcl B.kind B.names
  (thn (hi pins s σ H _ I h) λv s1 q1=>thn q1 λitv s2 q2=>?_)) (λ_ s' hq=>wpAny_pure (wpAny_pure hq)) λ_ _ e=>e)
 refine zhF (Q:=λv H1=>zcb i v σ H1 D.nx) (RR:=λacc C=>compPost (model X.prog X.w) X.A X.xe (some (assign (.Name x pos') X.env)) (λ_ s'=>SP X pins D .next s') acc C) hc B h1 h2 hb q2 λDa C s' H' m I' hn fC q=>?_
 show wpAny _ _ (assign (.Name x pos') X.env (.ref Da)) _ _ _
 refine wpAny_assign_Name (zgq I' hN hix (.inl hx) (v:=.ref Da) rfl (λs'' I'' ⟨a,hsb,ha⟩=>?_) (.inr hx))
 have hCa:C≠a:=by
  rcases ha with z | z
  ·rw [z];exact fC.2.1
  ·exact Ne.symm (fC.2.2.2.2.1 x a z)
 refine ⟨m,hn.sameBut hsb hCa,λh'' hs''=>⟨_,H',I''.turned (t':=s''.toks) (λb o hb e=>(hs''.2 b hb).trans e) fC.1 fC.2.1 fC.2.2.2.1 fC.2.2.2.2.1 fC.2.2.2.2.2,q⟩⟩
end
end L2
namespace L2
open PySem PySem.Spec PyProof.Rows
section
variable {X:Cx} {pins:List (Addr×Obj)} {σ:St} {H:Hp} {s:Shared} {h':Heap}
theorem Inv.turnedNew {t':Nat} {ch:List Addr} {T:Addr} {o:HO} (I:Inv X pins σ H s) (hf:∀ b∈ch,FpOk X pins H b) (k:∀ b u,b ∉ ch->s.heap.get? b=some u->h'.get? b=some u) (hT:s.heap.objs.size≤T)
  (new:zcG X.prog X.w (upd H T o) h' T o):Inv X pins σ (upd H T o) { s with heap:=h',toks:=t' }:=by
 have hn:H T=none:=I.hok.fresh hT
 have lt:∀ b u,s.heap.get? b=some u->b≠T:=λb u e=>Nat.ne_of_lt (Nat.lt_of_lt_of_le (Heap.lt_size e) hT)
 refine I.step (g':=s.gens) (d':=s.drawn) (ch:=ch) (λb hb=>⟨(hf b hb).2.2.2.1,(hf b hb).2.1,(hf b hb).2.2.2.2.1,(hf b hb).2.2.2.2.2⟩) (λb u _ _ hc e _=>k b u hc e) (λb u _ _ hc e _=>⟨u.slots,k b u hc e⟩)
  (λb u _ e n=>by rw [upd_ne (lt b u e)];exact n) (λb u hc e=>⟨u,k b u hc e⟩) (λb xs e=>by rw [upd_ne (ne_of_none e hn)];exact e) (λb u xs e=>by rw [upd_ne (ne_of_none e hn)];exact e)
  (λb ps e=>⟨#[],by rw [upd_ne (ne_of_none e hn),e];simp⟩) (λm hm=>?_) (λb u e=>?_) I.bare
 ·obtain ⟨o,es,ep,ho,r⟩:=hm
  exact ⟨o,es,ep,k _ o (λz=>(hf _ z).2.1 rfl) ho,r⟩
 ·by_cases hb:b=T
  ·subst hb;rw [upd_same] at e;cases e;exact new
  ·rw [upd_ne hb] at e
   refine (I.hok b u e).stay (λc v hc q=>k c v (λz=>?_) q) (λc q=>by rw [upd_ne (ne_of_none q hn)];exact q) λc xs q=>by rw [upd_ne (ne_of_none q hn)];exact q
   have z':=(hf c z).1
   rcases hc with hc | hc
   ·rw [hc,e] at z';cases z'
   ·rw [hc] at z';cases z'
theorem Inv.turnedL {t':Nat} {ch:List Addr} (I:Inv X pins σ H s) (hf:∀ b∈ch,FpOk X pins H b) (k:∀ b u,b ∉ ch->s.heap.get? b=some u->h'.get? b=some u):Inv X pins σ H { s with heap:=h',toks:=t' }:=by
 refine I.step (g':=s.gens) (d':=s.drawn) (ch:=ch) (λb hb=>⟨(hf b hb).2.2.2.1,(hf b hb).2.1,(hf b hb).2.2.2.2.1,(hf b hb).2.2.2.2.2⟩) (λb u _ _ hc e _=>k b u hc e) (λb u _ _ hc e _=>⟨u.slots,k b u hc e⟩)
  (λb u _ e n=>n) (λb u hc e=>⟨u,k b u hc e⟩) (λb xs e=>e) (λb u xs e=>e) (λb ps e=>⟨#[],by rw [e];simp⟩) (λm hm=>?_) (λb u e=>?_) I.bare
 ·obtain ⟨o,es,ep,ho,r⟩:=hm
  exact ⟨o,es,ep,k _ o (λz=>(hf _ z).2.1 rfl) ho,r⟩
 ·refine (I.hok b u e).stay (λc v hc q=>k c v (λz=>?_) q) (λc q=>q) λc xs q=>q
  have z':=(hf c z).1
  rcases hc with hc | hc
  ·rw [hc,e] at z';cases z'
  ·rw [hc] at z';cases z'
end
def Itz (K:W.Frag) (a b:Addr):It :=
 ⟨λi H=>∃ xs ys x y,SqL K H a xs∧SqL K H b ys∧xs[i]?=some x∧ys[i]?=some y,
  λi H v H'=>∃ p x y,v=.ref p∧H p=none∧H'=upd H p (.tup [x,y])∧∀ xs ys,SqL K H a xs->SqL K H b ys->xs[i]?=some x∧ys[i]?=some y,
  λi H=>∃ xs ys,SqL K H a xs∧SqL K H b ys∧(xs.length≤i∨ys.length≤i)⟩
theorem zkY {P:Program} {w:World} {K:W.Frag} {elts:List Expr} {x1:Nat} {tp:Pos} {a b z TI TO i1 i2:Addr} (D:ZipApart z TI TO i1 i2 a b) :
  Turn P w K (.Tuple elts x1 tp) (Itz K a b) [z,TI,TO,i1,i2] z
   (λi h=>IsZip h z TI TO .none∧IsPair h TI (.ref i1) (.ref i2)∧(∃ p q,IsPair h TO p q)∧h.IsListIter i1 a i∧h.IsListIter i2 b i) where
 mem:=by simp
 obj:=λi h st c hc=>by
  obtain ⟨hz,hTI,⟨p,q,hTO⟩,⟨o1,e1,_,d1⟩,⟨o2,e2,_,d2⟩⟩:=st
  simp only [List.mem_cons,List.not_mem_nil,or_false] at hc
  rcases hc with rfl | rfl | rfl | rfl | rfl
  ·exact ⟨_,hz,λv z=>by cases z⟩
  ·exact ⟨_,hTI,λv z=>by cases z⟩
  ·exact ⟨_,hTO,λv z=>by cases z⟩
  ·exact ⟨o1,e1,λv z=>by rw [d1] at z;cases z⟩
  ·exact ⟨o2,e2,λv z=>by rw [d2] at z;cases z⟩
 keep:=λi h h' st k=>by
  obtain ⟨hz,hTI,⟨p,q,hTO⟩,h1,h2⟩:=st
  exact ⟨k z (by simp) _ hz,k TI (by simp) _ hTI,⟨p,q,k TO (by simp) _ hTO⟩,h1.at λo e=>k i1 (by simp) o e,h2.at λo e=>k i2 (by simp) o e⟩
 item:=by
  intro X hP hw hK hc i pins s σ H E I hf st hg
  subst hP hw hK
  obtain ⟨xs,ys,x,y,hxs,hys,hx,hy⟩:=hg
  obtain ⟨itx,rx,px,hzx⟩:=I.list hxs
  obtain ⟨ity,ry,py,hzy⟩:=I.list hys
  obtain ⟨u,hu,ru⟩:=rx.get hx
  obtain ⟨v,hv,rv⟩:=ry.get hy
  obtain ⟨hz,hTI,⟨p,q,hTO⟩,h1,h2⟩:=st
  refine wpAny_pyNext_zip_item (x:=u) (y:=v) D hz hTI hTO h1 h2 px.isList py.isList (by simpa using hu) (by simpa using hv) λh' a1 a2 a3 a4 a5 a6 hk=>?_
  refine ⟨_,rfl,wpAny_letOwnedTupleGo_zip a1 λh'' b1 b2=>?_⟩
  have zlt:z<s.heap.objs.size:=Heap.lt_size hz
  have lt:∀ c∈[z,TI,TO,i1,i2],c<s.heap.objs.size:=λc hc=>by
   simp only [List.mem_cons,List.not_mem_nil,or_false] at hc
   rcases hc with rfl | rfl | rfl | rfl | rfl
   ·exact zlt
   ·exact Heap.lt_size hTI
   ·exact Heap.lt_size hTO
   ·obtain ⟨_,e,_⟩:=h1;exact Heap.lt_size e
   ·obtain ⟨_,e,_⟩:=h2;exact Heap.lt_size e
  have tup:IsPair h'' s.heap.objs.size u v:=b2.extBut _ _ (Nat.ne_of_gt zlt) a5
  have I1:Inv X pins σ (upd H s.heap.objs.size (.tup [x,y])) { s with heap:=h'' }:=by
   refine I.turnedNew (t':=s.toks) (ch:=[z,TO,i1,i2]) (λc hc=>hf c ?_) (λc ob hc e=>?_) (Nat.le_refl _) ?_
   ·simp only [List.mem_cons,List.not_mem_nil,or_false] at hc ⊢
    rcases hc with z | z | z | z<;>simp [z]
   ·simp only [List.mem_cons,List.not_mem_nil,or_false,not_or] at hc
    exact b2.extBut _ _ hc.1 (hk c ob hc.1 hc.2.1 hc.2.2.1 hc.2.2.2 e)
   ·exact ⟨by show 2≤sizeLine;decide,[u,v],.cons ru (.cons rv .nil),⟨_,tup,rfl,_,rfl⟩⟩
  refine ⟨.ref s.heap.objs.size,_,I1,rfl,⟨_,x,y,rfl,I.hok.fresh (Nat.le_refl _),rfl,λxs' ys' q1 q2=>?_⟩,⟨b1,?_,⟨_,_,b2.extBut _ _ D.TOz a2⟩,a3.extBut b2.extBut D.i1z,a4.extBut b2.extBut D.i2z⟩,λc hc=>?_⟩
  ·rw [I.list_inj q1 hxs,I.list_inj q2 hys];exact ⟨hx,hy⟩
  ·exact b2.extBut _ _ D.TIz (hk _ _ D.TIz D.TITO D.TIi1 D.TIi2 hTI)
  ·rw [upd_ne (Nat.ne_of_lt (lt c hc))];exact (hf c hc).1
 done:=by
  intro X hP hw hK hc i pins s σ H E I hf st hg
  subst hP hw hK
  obtain ⟨xs,ys,hxs,hys,hend⟩:=hg
  obtain ⟨itx,rx,px,hzx⟩:=I.list hxs
  obtain ⟨ity,ry,py,hzy⟩:=I.list hys
  obtain ⟨hz,hTI,⟨p,q,hTO⟩,h1,h2⟩:=st
  have lx:=rx.length
  have ly:=ry.length
  refine wpAny_pyNext_zip_end (I.ok.hd hc) D hz hTI hTO h1 h2 px.isList py.isList ?_ λh' hk=>⟨rfl,?_⟩
  ·rcases hend with e | e
   ·exact .inl (by simp;omega)
   ·exact .inr (by simp;omega)
  ·refine I.turnedL (t':=s.toks) (ch:=[z,TO,i1,i2]) (λc hc=>hf c ?_) (λc ob hc e=>?_)
   ·simp only [List.mem_cons,List.not_mem_nil,or_false] at hc ⊢
    rcases hc with z | z | z | z<;>simp [z]
   ·simp only [List.mem_cons,List.not_mem_nil,or_false,not_or] at hc
    exact hk c ob hc.1 hc.2.1 hc.2.2.1 hc.2.2.2 e
 self:=λ_ _ _ _ _ st h=>wpAny_pyIter_zip st.1 h
section
variable {X:Cx}
def zoN (K:W.Frag) (ta:TA):TI:=λσ H R=>ta σ H λvs H1=>∃ a b,vs=[.ref a,.ref b]∧(∃ xs,SqL K H1 a xs)∧(∃ ys,SqL K H1 b ys)∧R (Itz K a b) H1
theorem znc {a b:Expr} {ta:TA} {p pos tp:Pos} {elts:List Expr} {x1:Nat} (hg:Gl X "zip") (hm:X.mg "zip"=none) (ha:PA X [a,b] ta) (hs:starEach [a,b] X.env=[(false,eval a X.env),(false,eval b X.env)]:=by rfl) (hs2:starEach [b] X.env=[(false,eval b X.env)]:=by rfl) :
  PI X (.Tuple elts x1 tp) (.Call (.Name "zip" p) [a,b] [] pos) (zoN X.K ta):=by
 intro pins s σ H R I h
 refine Call_ (ld_blt I hg hm boot_zip (PyProof.Rows.callWith_type1 (thn (ha pos pins s σ H _ I h) λus s1 ⟨vs,H1,I1,r1,q1⟩=>?_) (by rw [hs,hs2]) (by rw [hs2];rfl)))
 obtain ⟨l1,l2,e,⟨xs,hx⟩,⟨ys,hy⟩,q⟩:=q1
 subst e
 cases r1 with
 | cons r rr =>
  cases rr with
  | cons r' rr =>
   cases rr
   cases r
   cases r'
   obtain ⟨itx,rx,px,hzx⟩:=I1.list hx
   obtain ⟨ity,ry,py,hzy⟩:=I1.list hy
   have lt1:@LT.lt Nat _ l1 s1.heap.objs.size:=by obtain ⟨o,e,_⟩:=px.isList;exact Heap.lt_size e
   have lt2:@LT.lt Nat _ l2 s1.heap.objs.size:=by obtain ⟨o,e,_⟩:=py.isList;exact Heap.lt_size e
   refine call_zip_2 px.isList py.isList λh' hz hTI hTO h1 h2 hsz hk=>?_
   refine wpAny_pyIter_zip hz ?_
   have D:ZipApart (s1.heap.objs.size+4) (s1.heap.objs.size+2) (s1.heap.objs.size+3) s1.heap.objs.size (s1.heap.objs.size+1) l1 l2:=by
    constructor<;>(show @Ne Nat _ _;omega)
   refine ⟨s1.heap.objs.size+4,[s1.heap.objs.size+4,s1.heap.objs.size+2,s1.heap.objs.size+3,s1.heap.objs.size,s1.heap.objs.size+1],_,Itz X.K l1 l2,H1,rfl,I1.kept (t':=s1.toks) hk,zkY D,⟨hz,hTI,⟨_,_,hTO⟩,h1,h2⟩,λc hc=>?_,q⟩
   have hle:@LE.le Nat _ s1.heap.objs.size c:=by
    simp only [List.mem_cons,List.not_mem_nil,or_false] at hc
    rcases hc with rfl | rfl | rfl | rfl | rfl<;>omega
   exact I1.fpOk hle (I1.hok.fresh hle)
end
section
variable {X:Cx}
def rIsi (K:W.Frag):List V->Hp->VK->Prop:=λxs H Q=>∃ x t b,((∃ n,xs=[x,.ty n]∧W.kitOne K t (.type n)=some b)∨(∃ C,xs=[x,.ref C]∧W.kitOne K t (.ref C)=some b))∧TyOf K H x t∧Q (.bl b) H
theorem zkz:zdZ X (.builtin "isinstance") (rIsi X.K):=by
 intro pins s σ H xs us Q I r h
 obtain ⟨x,t,b,hx,ty,q⟩:=h
 rcases hx with ⟨n,rfl,e⟩ | ⟨C,rfl,e⟩
 ·obtain ⟨u,w',rfl,rx,ry⟩:=ziF r
  cases ry
  exact isinst_ok I rx ty e λtk=>⟨.bl b,H,I.tok _,rfl,q⟩
 ·obtain ⟨u,w',rfl,rx,ry⟩:=ziF r
  cases ry
  exact isinst_ok I rx ty e λtk=>⟨.bl b,H,I.tok _,rfl,q⟩
end
theorem kit_int_bool (K:W.Frag):W.kitOne K (.type "int") (.type "bool")=some false:=by with_unfolding_all rfl
inductive EqV (K:W.Frag) (H:Hp):Nat->V->V->Bool->Prop where
 | flat {n:Nat} {x y:V} (fx:zkw x=true) (fy:zkw y=true):EqV K H n x y (eqV x y)
 | same {n:Nat} {a:Addr}:EqV K H n (.ref a) (.ref a) true
 | lists {n:Nat} {a b:Addr} {xs ys:List V} {e:Nat->Bool} (ne:a≠b) (ha:SqL K H a xs) (hb:SqL K H b ys) (hl:xs.length=ys.length)
   (he:∀ (j:Nat) (x y:V),xs[j]?=some x->ys[j]?=some y->EqV K H n x y (e j)):EqV K H (n+1) (.ref a) (.ref b) ((List.range xs.length).all e)
 | lens {n:Nat} {a b:Addr} {xs ys:List V} (ne:a≠b) (ha:SqL K H a xs) (hb:SqL K H b ys) (hl:xs.length≠ys.length):EqV K H (n+1) (.ref a) (.ref b) false
theorem EqV.at {X:Cx} {pins:List (Addr×Obj)} {σ:St} {H:Hp} {s:Shared} (I:Inv X pins σ H s) {n:Nat} {x y:V} {k:Bool} (h:EqV X.K H n x y k) :
  ∀ {A:Around} {u v:Value},RelV x u->RelV y v->A.units+n<cLine->SeqAt.EqAt A s u v k:=by
 induction h with
 | flat fx fy=>intro A u v rx ry _;exact eqAt_V rx ry fx fy
 | same=>intro A u v rx ry _;cases rx;cases ry;exact SeqAt.EqAt.same _
 | @lists n a b xs ys e ne ha hb hl he ih =>
  intro A u v rx ry hu
  cases rx
  cases ry
  obtain ⟨ita,ra,pa,za⟩:=I.list ha
  obtain ⟨itb,rb,pb,zb⟩:=I.list hb
  have la:=ra.length
  have lb:=rb.length
  have q:=SeqAt.RcAt.lists (A:=A) (e:=e) pa.isList pb.isList (by simp;omega) (by omega) λj h1 h2=>?_
  ·rw [List.size_toArray,← la] at q
   exact SeqAt.EqAt.of_refs ne q
  ·have h1':j<ita.length:=by simpa using h1
   have h2':j<itb.length:=by simpa using h2
   obtain ⟨u',hu',ru⟩:=ra.get (i:=j) (x:=xs[j]'(by omega)) (List.getElem?_eq_getElem (by omega))
   obtain ⟨v',hv',rv⟩:=rb.get (i:=j) (x:=ys[j]'(by omega)) (List.getElem?_eq_getElem (by omega))
   have eu:ita.toArray[j]=u':=by
    rw [List.getElem?_eq_getElem h1'] at hu'
    simpa using hu'
   have ev:itb.toArray[j]=v':=by
    rw [List.getElem?_eq_getElem h2'] at hv'
    simpa using hv'
   rw [eu,ev]
   exact ih j _ _ (List.getElem?_eq_getElem (by omega)) (List.getElem?_eq_getElem (by omega)) ru rv (by show A.units+1+n<cLine;omega)
 | @lens n a b xs ys ne ha hb hl =>
  intro A u v rx ry hu
  cases rx
  cases ry
  obtain ⟨ita,ra,pa,za⟩:=I.list ha
  obtain ⟨itb,rb,pb,zb⟩:=I.list hb
  have la:=ra.length
  have lb:=rb.length
  exact SeqAt.EqAt.of_refs ne (SeqAt.RcAt.lists_lengths pa.isList pb.isList (by simp;omega) (by omega))
def rEqL (K:W.Frag) (neg:Bool):R2:=λx y H Q=>∃ a b n xs ys,x=.ref a∧y=.ref b∧SqL K H a xs∧SqL K H b ys∧n≤50 ∧
 ((xs.length≠ys.length∧Q (.bl neg) H)∨∃ e:Nat->Bool,xs.length=ys.length∧(∀ (j:Nat) (x y:V),xs[j]?=some x->ys[j]?=some y->EqV K H n x y (e j))∧Q (.bl (if neg then !(List.range xs.length).all e else (List.range xs.length).all e)) H)
section
variable {X:Cx}
theorem zfh {pins:List (Addr×Obj)} {σ:St} {H:Hp} {s:Shared} (I:Inv X pins σ H s) {n:Nat} {xs ys:List V} {ita itb:List Value} {e:Nat->Bool} (ra:Vals xs ita) (rb:Vals ys itb) (he:∀ (j:Nat) (x y:V),xs[j]?=some x->ys[j]?=some y->EqV X.K H n x y (e j))
  {A:Around} (hu:A.units+1+n<cLine):∀ j (h1:j<ita.toArray.size) (h2:j<itb.toArray.size),SeqAt.EqAt A.in1 s ita.toArray[j] itb.toArray[j] (e j):=λj h1 h2=>by
 have la:=ra.length
 have lb:=rb.length
 have h1':j<ita.length:=by simpa using h1
 have h2':j<itb.length:=by simpa using h2
 obtain ⟨u',hu',ru⟩:=ra.get (i:=j) (x:=xs[j]'(by omega)) (List.getElem?_eq_getElem (by omega))
 obtain ⟨v',hv',rv⟩:=rb.get (i:=j) (x:=ys[j]'(by omega)) (List.getElem?_eq_getElem (by omega))
 have eu:ita.toArray[j]=u':=by
  rw [List.getElem?_eq_getElem h1'] at hu'
  simpa using hu'
 have ev:itb.toArray[j]=v':=by
  rw [List.getElem?_eq_getElem h2'] at hv'
  simpa using hv'
 rw [eu,ev]
 exact (he j _ _ (List.getElem?_eq_getElem (by omega)) (List.getElem?_eq_getElem (by omega))).at I ru rv hu
theorem znl (hu:X.A.units+64<cLine):OpR X (compareOp .Eq) (rEqL X.K false):=by
 intro pins s σ H x y v u Q I rx ry h
 obtain ⟨a,b,n,xs,ys,rfl,rfl,ha,hb,hn,h⟩:=h
 cases rx
 cases ry
 obtain ⟨ita,ra,pa,za⟩:=I.list ha
 obtain ⟨itb,rb,pb,zb⟩:=I.list hb
 have la:=ra.length
 have lb:=rb.length
 rcases h with ⟨hl,q⟩ | ⟨e,hl,he,q⟩
 ·exact SeqAt.eq_list_lengthsAt pa.isList pb.isList (by simp;omega) (by omega) ⟨.bl false,H,I,rfl,q⟩
 ·refine SeqAt.eq_listAt (e:=e) pa.isList pb.isList (by simp;omega) (by omega) (zfh I ra rb he (by omega)) ?_
  rw [List.size_toArray,← la]
  exact ⟨.bl _,H,I,rfl,q⟩
theorem zn1 (hu:X.A.units+64<cLine):OpR X (compareOp .NotEq) (rEqL X.K true):=by
 intro pins s σ H x y v u Q I rx ry h
 obtain ⟨a,b,n,xs,ys,rfl,rfl,ha,hb,hn,h⟩:=h
 cases rx
 cases ry
 obtain ⟨ita,ra,pa,za⟩:=I.list ha
 obtain ⟨itb,rb,pb,zb⟩:=I.list hb
 have la:=ra.length
 have lb:=rb.length
 rcases h with ⟨hl,q⟩ | ⟨e,hl,he,q⟩
 ·exact SeqAt.RcNeAt.lists_lengths pa.isList pb.isList (by simp;omega) (by omega) _ _ _ _ ⟨.bl true,H,I,rfl,q⟩
 ·refine SeqAt.RcNeAt.lists (e:=e) pa.isList pb.isList (by simp;omega) (by omega) (zfh I ra rb he (by omega)) _ _ _ _ ?_
  rw [List.size_toArray,← la]
  exact ⟨.bl _,H,I,rfl,q⟩
end
theorem all_eq {α:Type} [DecidableEq α] {xs ys:List α} (h:xs.length=ys.length):(List.range xs.length).all (λj=>decide (xs[j]?=ys[j]?))=decide (xs=ys):=by
 rw [Bool.eq_iff_iff,List.all_eq_true,decide_eq_true_iff]
 constructor
 ·intro z
  refine List.ext_getElem? λi=>?_
  by_cases hi:i<xs.length
  ·exact of_decide_eq_true (z i (List.mem_range.mpr hi))
  ·rw [List.getElem?_eq_none (by omega),List.getElem?_eq_none (by omega)]
 ·rintro rfl i _
  exact decide_eq_true rfl
theorem rEqL.ints {K:W.Frag} {neg:Bool} {H:Hp} {Q:VK} {a b:Addr} {ns ms:List Int} (ha:SqL K H a (ns.map V.int)) (hb:SqL K H b (ms.map V.int)) (q:Q (.bl (if neg then !decide (ns=ms) else decide (ns=ms))) H) :
  rEqL K neg (.ref a) (.ref b) H Q:=by
 refine ⟨a,b,0,_,_,rfl,rfl,ha,hb,by omega,?_⟩
 by_cases hl:ns.length=ms.length
 ·refine .inr ⟨λj=>decide (ns[j]?=ms[j]?),by simp [hl],λj x y hx hy=>?_,?_⟩
  ·rw [List.getElem?_map] at hx hy
   cases e1:ns[j]? with
   | none=>rw [e1] at hx;cases hx
   | some i =>
    cases e2:ms[j]? with
    | none=>rw [e2] at hy;cases hy
    | some k =>
     rw [e1] at hx
     rw [e2] at hy
     cases hx
     cases hy
     have q:=EqV.flat (K:=K) (H:=H) (n:=0) (x:=.int i) (y:=.int k) rfl rfl
     have e:eqV (.int i) (.int k)=decide (some i=some k):=by
      show (i == k)=_
      rw [Bool.beq_eq_decide_eq]
      simp
     rw [e] at q
     show EqV K H 0 (V.int i) (V.int k) (decide (ns[j]?=ms[j]?))
     rw [e1,e2]
     exact q
  ·rw [List.length_map,all_eq hl]
   exact q
 ·refine .inl ⟨by simpa using hl,?_⟩
  have e:decide (ns=ms)=false:=decide_eq_false (λz=>hl (by rw [z]))
  rw [e] at q
  cases neg<;>exact q
def Rows (K:W.Frag) (H:Hp) (a:Addr) (xss:List (List Int)):Prop :=
 ∃ as:List Addr,SqL K H a (as.map V.ref)∧as.length=xss.length∧∀ (j:Nat) (p:Addr) (ns:List Int),as[j]?=some p->xss[j]?=some ns->H p=some (.lst (ns.map V.int))
theorem zgV {ns ms:List Int} (h:ns.map V.int=ms.map V.int):ns=ms:=by
 induction ns generalizing ms with
 | nil=>cases ms with
  | nil=>rfl
  | cons _ _=>cases h
 | cons x r ih=>cases ms with
  | nil=>cases h
  | cons y s =>
   injection h with h1 h2
   injection h1 with h1
   rw [h1,ih h2]
theorem EqV.ints {K:W.Frag} {H:Hp} {n:Nat} {a b:Addr} {ns ms:List Int} (ha:H a=some (.lst (ns.map V.int))) (hb:H b=some (.lst (ms.map V.int))):EqV K H (n+1) (.ref a) (.ref b) (decide (ns=ms)):=by
 by_cases hab:a=b
 ·subst hab
  rw [ha] at hb
  have e:ns=ms:=zgV (by injection hb with hb;injection hb)
  rw [decide_eq_true e]
  exact .same
 ·by_cases hl:ns.length=ms.length
  ·have q:=EqV.lists (K:=K) (H:=H) (n:=n) (e:=λj=>decide (ns[j]?=ms[j]?)) hab (SqL.of ha) (SqL.of hb) (by simp [hl]) λj x y hx hy=>?_
   ·rw [List.length_map,all_eq hl] at q
    exact q
   ·rw [List.getElem?_map] at hx hy
    cases e1:ns[j]? with
    | none=>rw [e1] at hx;cases hx
    | some i =>
     cases e2:ms[j]? with
     | none=>rw [e2] at hy;cases hy
     | some k =>
      rw [e1] at hx
      rw [e2] at hy
      cases hx
      cases hy
      have q:=EqV.flat (K:=K) (H:=H) (n:=n) (x:=.int i) (y:=.int k) rfl rfl
      have e:eqV (.int i) (.int k)=decide (some i=some k):=by
       show (i == k)=_
       rw [Bool.beq_eq_decide_eq]
       simp
      rw [e] at q
      exact q
  ·rw [decide_eq_false (λz=>hl (by rw [z]))]
   exact .lens hab (SqL.of ha) (SqL.of hb) (by simpa using hl)
theorem rEqL.rows {K:W.Frag} {neg:Bool} {H:Hp} {Q:VK} {a b:Addr} {xss yss:List (List Int)} (ha:Rows K H a xss) (hb:Rows K H b yss) (q:Q (.bl (if neg then !decide (xss=yss) else decide (xss=yss))) H) :
  rEqL K neg (.ref a) (.ref b) H Q:=by
 obtain ⟨as,hsa,hla,hra⟩:=ha
 obtain ⟨bs,hsb,hlb,hrb⟩:=hb
 refine ⟨a,b,1,_,_,rfl,rfl,hsa,hsb,by omega,?_⟩
 by_cases hl:xss.length=yss.length
 ·refine .inr ⟨λj=>decide (xss[j]?=yss[j]?),by simp;omega,λj x y hx hy=>?_,?_⟩
  ·rw [List.getElem?_map] at hx hy
   cases e1:as[j]? with
   | none=>rw [e1] at hx;cases hx
   | some p =>
    cases e2:bs[j]? with
    | none=>rw [e2] at hy;cases hy
    | some p2 =>
     rw [e1] at hx
     rw [e2] at hy
     cases hx
     cases hy
     have h1:j<xss.length:=by have:=(List.getElem?_eq_some_iff.mp e1).1;omega
     have h2:j<yss.length:=by omega
     have q:=EqV.ints (K:=K) (n:=0) (hra j p _ e1 (List.getElem?_eq_getElem h1)) (hrb j p2 _ e2 (List.getElem?_eq_getElem h2))
     show EqV K H 1 (V.ref p) (V.ref p2) (decide (xss[j]?=yss[j]?))
     rw [List.getElem?_eq_getElem h1,List.getElem?_eq_getElem h2]
     have e:decide (xss[j]=yss[j])=decide (some xss[j]=some yss[j]):=by simp
     rw [e] at q
     exact q
  ·rw [List.length_map,hla,all_eq hl]
   exact q
 ·refine .inl ⟨by simp;omega,?_⟩
  have e:decide (xss=yss)=false:=decide_eq_false (λz=>hl (by rw [z]))
  rw [e] at q
  cases neg<;>exact q
section
variable {X:Cx}
theorem ziB {n k m:Nat} (h:n<2^k) (hk:k≤m) (hm:0<m):n.log2<m:=by
 by_cases hn:n=0
 ·subst hn
  exact Nat.lt_of_le_of_lt (by decide:Nat.log2 0≤0) hm
 ·exact Nat.lt_of_lt_of_le ((Nat.log2_lt hn).mpr h) hk
theorem zjn {i:Int} {k:Nat} (h:i.natAbs.log2<k):Builtin.Int.intBits i≤k:=by
 unfold Builtin.Int.intBits
 split
 ·exact Nat.zero_le _
 ·omega
def zdP (i j:Int):Prop:=0<j∧j.natAbs.log2<9000
theorem za9:OpR X (binaryOp .FloorDiv) (rI zdP λi j=>.int (i/j)):=opI λi j _ _ _ _ _ hc q=>by
 have hj:j≠0:=by have:=hc.1;omega
 have e:i.fdiv j=i/j:=Int.fdiv_eq_ediv_of_nonneg _ (by have:=hc.1;omega)
 exact floordiv_int hj (by rw [e];exact q) (.inl (PyProof.noPylong_of_log2 hc.2))
end
end L2
namespace L2
open PySem PySem.Spec PyProof.Rows
def zld (scope osc:Scope) (N own fvn:List Str) (fv:List Nat):Bool :=
 (scope.names.all λy=>y.2 != .cell||scope.names.lookup y.1 == some .cell)&&(scope.names.all λy=>y.2 != .free||scope.names.lookup y.1 == some .free)&&(scope.kind == .function)&&(scope.names.all λy=>y.2 != .local||scope.names.lookup y.1 == some .local) &&
 (scope.names.all λy=>y.2 != .free||osc.names.lookup y.1 == some .cell||osc.names.lookup y.1 == some .free)&&(fvn.map some == fv.map λi=>N[i]?)&&(fvn.all λx=>scope.names.lookup x == some .free)
theorem BlkScope.of {X:Cx} {scope osc:Scope} {N own fvn:List Str} {fv:List Nat} (hX:X.env.scope=osc) (hN:X.N=N) (h:zld scope osc N own fvn fv=true):BlkScope X scope own fvn fv:=by
 subst hX hN
 unfold zld at h
 simp only [Bool.and_eq_true,List.all_eq_true,bne_iff_ne,beq_iff_eq,Bool.or_eq_true] at h
 obtain ⟨⟨⟨⟨⟨⟨h1,h1'⟩,h2⟩,h3⟩,h4⟩,h5⟩,h6⟩:=h
 refine ⟨λy hy e=>?_,λy hy e=>?_,h2,λy hy e=>?_,λy hy e=>?_,h5,h6⟩
 ·rcases h1 y hy with z | z
  ·exact absurd e z
  ·exact z
 ·rcases h1' y hy with z | z
  ·exact absurd e z
  ·exact z
 ·rcases h3 y hy with z | z
  ·exact absurd e z
  ·exact z
 ·rcases h4 y hy with (z | z) | z
  ·exact absurd e z
  ·exact .inl z
  ·exact .inr z
theorem Same.new {H:Hp} {p:Addr} (h:H p=none) (o:HO):Same H (upd H p o):=λb u q=>by rw [upd_ne (ne_of_none q h)];exact q
theorem Same.tup {K:W.Frag} {H H':Hp} {a:Addr} {xs:List V} (e:Same H H') (h:SqT K H a xs):SqT K H' a xs:=by
 rcases h with (h | ⟨o,h⟩) | h
 ·exact .inl (.inl (e _ _ h))
 ·exact .inl (.inr ⟨o,e _ _ h⟩)
 ·exact .inr h
theorem Same.rows {K:W.Frag} {H H':Hp} {a:Addr} {xss:List (List Int)} (e:Same H H') (h:Rows K H a xss):Rows K H' a xss:=by
 obtain ⟨as,h1,h2,h3⟩:=h
 exact ⟨as,e.seq h1,h2,λj p ns q1 q2=>e _ _ (h3 j p ns q1 q2)⟩
structure Callee (P:Program) (w:World) (K:W.Frag) (mg:Str->Option Value) (base:Heap) (CX:CXT) (k:Nat) (x:Str) (ps:List Str) (sp:Sp):Prop where
 ex:∃ f fd,FnOk P w K mg base CX k f fd ps sp∧mg x=some (.ref f)∧W.keepIn K (.ref f)=true∧ze2 K fd ps []
section
variable {X:Cx} {CX:CXT} {k:Nat} {ps:List Str} {sp:Sp} {E:XK} {x:Str} {p pos:Pos} {e:Expr} {es:List Expr} {t:TA}
theorem zaC (F:Callee X.prog X.w X.K X.mg X.base CX k x ps sp) (hr:Room k X.A) (hg:Gl X x) (hx:zfy CX X E)
  (ha:PA X (e :: es) t) (hdb:(x == ("__debug__":Str))=false:=by decide) (he:starEach (e :: es) X.env=(false,eval e X.env) :: starEach es X.env:=by rfl) (hpl:(backTo pos (starEach es X.env)).any (·.1)=false:=by rfl) :
  PE X (.Call (.Name x p) (e :: es) [] pos) (tCall sp [] E t):=by
 obtain ⟨f,fd,G,hm,hk,hb⟩:=F.ex
 exact zl9 G hr hg hm hk hb .nil hx ha hdb he hpl
end
section
variable {X:Cx} {K:W.Frag}
theorem call_len_K (hK:X.K=K):zdZ X (.builtin "len") (λxs H Q=>∃ p ys,xs=[.ref p]∧(SqL K H p ys∨SqT K H p ys)∧Q (.int ys.length) H):=by subst hK;exact zgO
theorem zck (hK:X.K=K):zdZ X (.type "list") (λxs H Q=>∃ p ys,xs=[.ref p]∧(SqL K H p ys∨SqT K H p ys)∧∀ l,H l=none->Q (.ref l) (upd H l (.lst ys))):=by subst hK;exact zgw
theorem zid (hK:X.K=K):zdZ X (.builtin "isinstance") (rIsi K):=by subst hK;exact zkz
theorem zao (hK:X.K=K):IxR X (zmB K):=by subst hK;exact zmw
theorem za8 (hK:X.K=K):IxR X (zow K):=by subst hK;exact zmQ
theorem zbO (hK:X.K=K):SlR X (zoc K):=by subst hK;exact zl7
theorem zmr (hK:X.K=K) (hu:X.A.units+64<cLine):OpR X (compareOp .Eq) (rEqL K false):=by subst hK;exact znl hu
theorem zlE (hK:X.K=K) (hu:X.A.units+64<cLine):OpR X (compareOp .NotEq) (rEqL K true):=by subst hK;exact zn1 hu
theorem zbU {e:Expr} {f:Str} {pos:Pos} {ta:TE} (hK:X.K=K) (he:PE X e ta) (hb:attributeBase e f X.env (eval e X.env)=eval e X.env):PE X (.Attribute e f pos) (tFld K ta f):=by subst hK;exact znh he hb
theorem zaB {tg l:Expr} {tl:TE} (hK:X.K=K) (hl:PE X l tl):PI X tg l (zkP K tl):=by subst hK;exact zmi hl
theorem zcm {a b:Expr} {ta:TA} {p pos tp:Pos} {elts:List Expr} {x1:Nat} (hK:X.K=K) (hg:Gl X "zip") (hm:X.mg "zip"=none) (ha:PA X [a,b] ta) (hs:starEach [a,b] X.env=[(false,eval a X.env),(false,eval b X.env)]:=by rfl) (hs2:starEach [b] X.env=[(false,eval b X.env)]:=by rfl) :
  PI X (.Tuple elts x1 tp) (.Call (.Name "zip" p) [a,b] [] pos) (zoN K ta):=by subst hK;exact znc hg hm ha hs hs2
theorem zbg {es:List Expr} {k:Nat} {t:TGs} {n:Nat} {pos:Pos} (hK:X.K=K) (hc:X.calm=true) (h:PGs X es t)
  (hn:(assignEach es X.env).length=n:=by rfl) (hst:(assignEach es X.env).findIdx? (·.1)=none:=by rfl):PG X (.Tuple es k pos) (zmC K n t):=by subst hK;exact zn4 hc h hn hst
theorem zbY {o e:Expr} {to:TE} {t:TA} {apos cpos:Pos} (hK:X.K=K) (ho:PE X o to) (ha:PA X [e] t)
  (hbase:attributeBase o "append" X.env (eval o X.env)=eval o X.env:=by rfl)
  (hfew:((backTo cpos (starEach [e] X.env)).all (λx=>!x.1)&&(backToKw cpos (keywordEach [] X.env)).all (λx=>x.1.isSome)
   &&decide (([e]:List Expr).length+([]:List Keyword).length+(if ([]:List Keyword).isEmpty then 0 else 1)<30))=true:=by rfl)
  (hline:(apos.endLine == cpos.line)=true:=by rfl) (hs:starEach [e] X.env=(false,eval e X.env) :: starEach [] X.env:=by rfl) (hplain:(backTo cpos (starEach [] X.env)).any (·.1)=false:=by rfl) :
  PE X (.Call (.Attribute o "append" apos) [e] [] cpos) (tBM K "list" rAppend to t):=by
 subst hK
 exact zoC PySem.F.plainAttrs_list PySem.F.slot_list_append PySem.F.type_list_append mt_append ho ha hbase hfew hline hs hplain
end
end L2
namespace L2
open PySem PySem.Spec PyProof.Rows
theorem zat {n:Nat} (h:n≤10000):n≤sizeLine:=Nat.le_trans h (by decide)
end L2
namespace L2
open PySem PySem.Spec PyProof.Rows
theorem zfs (o:Obj) (f:Array Value->Array Value):(o.mapFields f).dict=o.dict:=by
 obtain ⟨c,d,dt,sl⟩:=o
 cases dt<;>rfl
section
variable {M:Model} {A:Around} {E:Value->Shared->Prop} {s:Shared}
theorem zj6 {base:Heap} {env:Env} {outer:List Env} {L e:Addr} {oe:Obj} {vs:Array Value} {head:Value} {hadNext:Bool} {Q:Unit->Shared->Prop}
  (hfr:A.frames=some (env :: outer)) (hl:s.heap.FunFrames base (env :: outer)) (hf:env.frame=some L) (he:s.heap.get? e=some oe) (hd:oe.data=.fields vs) (hsz:1<vs.size)
  (h:∀ (h':Heap) (T:Addr) (oT:Obj) (ts:Array Value),(∀ b o,b ∉ frs (env :: outer)->b≠e->s.heap.get? b=some o->h'.get? b=some o)->(∀ b o,b≠e->s.heap.get? b=some o->∃ sl,h'.get? b=some { o with slots:=sl }) →
   h'.get? e=some (oe.mapFields (·.setIfInBounds 1 (.ref T)))->s.heap.objs.size≤T->h'.get? T=some oT->oT.data=.fields ts->ts[3]?=some (rawInt L)->Q () { s with heap:=h' }) :
  wpAny M A (do let a ← frameOf env;let pl ← entryPlaceOf L hadNext;let b ← EntryCells.newEntry head a .none (rawInt L) .none pl;setField (.ref e) 1 b) Q E s:=by
 have hene:e ∉ (env :: outer).filterMap (·.frame):=λhm=>by
  obtain ⟨_,o,ho,hnf⟩:=hl.mem hm
  rw [he] at ho;injection ho with ho;subst ho;exact hnf vs hd
 refine wpAny_bind (wpAny_frameOf_fun hfr hl hf λh₁ hs₁=>?_)
 refine wpAny_bind (wpAny_entryPlaceOf λpl hpl=>?_)
 unfold EntryCells.newEntry newFields
 refine wpAny_bind (wpAny_newObj_type ?_ (hpl.sizeOk5 _ _ _ _ _))
 have he₁:h₁.get? e=some oe:=(hs₁.2.1 e hene).trans he
 have he₂:=Heap.get?_push_of_some (h:=h₁) { cls:=.type "traceback",dict:=none,data:=.fields ([head,.ref L,.none,rawInt L,.none]++(if pl.isEmpty then List.replicate 6 Value.none else pl)).toArray } he₁
 refine wpAny_setField he₂ hd hsz ?_
 have hTe:h₁.objs.size≠e:=Nat.ne_of_gt (Heap.lt_size he₁)
 have hd₃:=Obj.data_mapFields hd (·.setIfInBounds 1 (Value.ref h₁.objs.size))
 have he₃:=Heap.get?_update_self (Obj.mapFields (·.setIfInBounds 1 (Value.ref h₁.objs.size))) he₂ (Obj.isFreed_of_fields hd₃)
 have hT₃:=(Heap.get?_update_other (h₁.push { cls:=.type "traceback",dict:=none,data:=.fields ([head,.ref L,.none,rawInt L,.none]++(if pl.isEmpty then List.replicate 6 Value.none else pl)).toArray })
  (Obj.mapFields (·.setIfInBounds 1 (Value.ref h₁.objs.size))) (Ne.symm hTe)).trans (Heap.get?_push_size h₁ rfl)
 refine h _ h₁.objs.size _ _ (λb o hb hbe e1=>?_) (λb o hbe e1=>?_) he₃ (Nat.le_of_eq hs₁.1.symm) hT₃ rfl (by first | (simp;done) | (rcases hpl with rfl | ⟨_,_,_,_,_,_,_,rfl⟩<;>simp))
 ·rw [Heap.get?_update_other _ _ (Ne.symm hbe)]
  exact Heap.get?_push_of_some _ ((hs₁.2.1 b hb).trans e1)
 ·obtain ⟨sl,e2⟩:=hs₁.2.2 b o e1
  exact ⟨sl,by rw [Heap.get?_update_other _ _ (Ne.symm hbe)];exact Heap.get?_push_of_some _ e2⟩
end
def ExcAt (h:Heap) (H:Hp) (Fz:Addr->Prop) (L e:Addr) (cls:Value) (dct:Option Addr):Prop :=
 ∃ oe vs a0,h.get? e=some oe∧oe.cls=cls∧oe.dict=dct∧oe.data=.fields vs∧vs[0]?=some a0∧1<vs.size∧H e=none∧Fz e ∧
  (vs[1]?=some .none∨∃ T oT ts,vs[1]?=some (.ref T)∧T≠e∧h.get? T=some oT∧oT.data=.fields ts∧(ts[3]?=some .none∨ts[3]?=some (rawInt L))∧H T=none∧Fz T)
def zhn (h:Heap) (H:Hp) (Fz:Addr->Prop) (fl:Value) (e:Addr) (cls:Value) (dct:Option Addr):Prop :=
 ∃ oe vs a0,h.get? e=some oe∧oe.cls=cls∧oe.dict=dct∧oe.data=.fields vs∧vs[0]?=some a0∧1<vs.size∧H e=none∧Fz e ∧
  ∃ T oT ts,vs[1]?=some (.ref T)∧T≠e∧h.get? T=some oT∧oT.data=.fields ts∧ts[3]?=some fl∧H T=none∧Fz T
theorem zhn.imp {h:Heap} {H:Hp} {Fz Fz':Addr->Prop} {e:Addr} {fl cls:Value} {dct:Option Addr} (x:zhn h H Fz fl e cls dct) (k:∀ b,Fz b->Fz' b):zhn h H Fz' fl e cls dct:=by
 obtain ⟨oe,vs,a0,h1,h2,h3,h4,h5,h6,h7,h8,T,oT,ts,t1,t2,t3,t4,t5,t6,t7⟩:=x
 exact ⟨oe,vs,a0,h1,h2,h3,h4,h5,h6,h7,k _ h8,T,oT,ts,t1,t2,t3,t4,t5,t6,k _ t7⟩
structure Own (X:Cx):Prop where
 stk:X.stack=X.env :: X.outer
 fr:X.env.frame=some X.env.locals
 ex:X.ex=[]
theorem zcG.there {P:Program} {w:World} {H:Hp} {h:Heap} {a:Addr} {o:HO} (x:zcG P w H h a o):∃ ob,h.get? a=some ob:=by
 cases o with
 | lst xs=>obtain ⟨_,_,_,_,e⟩:=x;exact ⟨_,e⟩
 | tup xs=>obtain ⟨_,_,_,o,e,_⟩:=x;exact ⟨_,e⟩
 | dK kvs=>obtain ⟨_,_,_,_,o,_,_,e,_⟩:=x;exact ⟨_,e⟩
 | dT kvs=>obtain ⟨_,_,_,_,o,_,_,e,_⟩:=x;exact ⟨_,e⟩
 | set S n=>obtain ⟨o,_,_,_,e,_⟩:=x;exact ⟨_,e⟩
 | ins C dx fs=>obtain ⟨_,_,_,e,_⟩:=x;exact ⟨_,e⟩
 | own y=>obtain ⟨_,e⟩:=x;exact ⟨_,e⟩
 | xd fs=>obtain ⟨_,⟨_,_,_,e,_⟩,_⟩:=x;exact ⟨_,e⟩
 | rng lo hi=>obtain ⟨_,_,_,e⟩:=x;exact ⟨_,e⟩
 | frz ob u=>obtain ⟨e,_⟩:=x;exact ⟨_,e⟩
 | tbl ps=>exact ⟨_,(show h.get? a=some _ from x)⟩
 | met f y=>exact ⟨_,(show h.get? a=some _ from x)⟩
 | ext φ=>obtain ⟨_,e,_⟩:=x;exact e
section
variable {X:Cx} {pins:List (Addr×Obj)} {σ:St} {H:Hp} {s:Shared} {h':Heap}
theorem Inv.recs {t':Nat} {ch:List Addr} (I:Inv X pins σ H s) (hch:∀ b∈ch,H b=none∧X.s₀.heap.get? b=none∧b≠X.env.locals∧(∀ x c,X.env.cells.lookup x=some c->c≠b)∧∀ p∈X.pn++pins,p.1≠b)
  (hex:X.ex=[]) (k:∀ b o,b ∉ frs X.stack->b ∉ ch->s.heap.get? b=some o->h'.get? b=some o) (ks:∀ b o,b ∉ ch->s.heap.get? b=some o->∃ sl,h'.get? b=some { o with slots:=sl }) :
  Inv X pins σ H { s with heap:=h',toks:=t' }:=by
 have sub:=I.stkSub
 have nfr:∀ b,b≠X.env.locals->b ∉ X.fs->b ∉ frs X.stack:=λb h1 h2 z=>by
  rcases List.mem_cons.mp (sub b z) with q | q
  ·exact h1 q
  ·exact h2 q
 have cl:∀ x c,X.env.cells.lookup x=some c->c≠X.env.locals:=I.cne
 refine ⟨I.ok,I.os,I.bare,⟨λb o e n hb hx=>?_,λb o e n hb hx=>?_,I.base.free,λb o e hx=>?_,I.base.tups,I.base.frzs,I.base.tbls⟩,?_,λx c e=>?_,I.free,I.freeC,λp hp=>?_,λb u e=>?_,I.len⟩
 ·have nc:b ∉ ch:=λz=>by rw [(hch b z).2.1] at e;cases e
  exact k b o (nfr b (Nat.ne_of_lt (Nat.lt_of_lt_of_le (Heap.lt_size e) I.ok.above)) hb) nc (I.base.keep b o e n hb hx)
 ·have nc:b ∉ ch:=λz=>by rw [(hch b z).2.1] at e;cases e
  obtain ⟨sl,e1⟩:=I.base.slot b o e n hb hx
  obtain ⟨sl',e2⟩:=ks b _ nc e1
  exact ⟨sl',e2⟩
 ·have nc:b ∉ ch:=λz=>by rw [(hch b z).2.1] at e;cases e
  obtain ⟨o',e1⟩:=I.base.there b o e hx
  obtain ⟨sl',e2⟩:=ks b _ nc e1
  exact ⟨_,e2⟩
 ·obtain ⟨m,⟨o,es,ep,ho,hd,r⟩,hl⟩:=I.loc
  have nc:X.env.locals ∉ ch:=λz=>(hch _ z).2.2.1 rfl
  obtain ⟨sl,e1⟩:=ks _ _ nc ho
  refine ⟨m,⟨_,es,ep,e1,hd,r⟩,λi x v e1 e2 e3=>?_⟩
  obtain ⟨u,ru,l⟩:=hl i x v e1 e2 e3
  refine ⟨u,ru,?_⟩
  rcases l with l | ⟨kk,c,e,oc,hoc,hcd⟩
  ·exact .inl l
  ·obtain ⟨sl',e4⟩:=ks c oc (λz=>(hch c z).2.2.2.1 x c e rfl) hoc
   exact .inr ⟨kk,c,e,_,e4,hcd⟩
 ·obtain ⟨v,oc,hoc,hcd⟩:=I.cell x c e
  obtain ⟨sl',e4⟩:=ks c oc (λz=>(hch c z).2.2.2.1 x c e rfl) hoc
  exact ⟨v,_,e4,hcd⟩
 ·obtain ⟨e,n,ne,nf,d⟩:=I.pin p hp
  exact ⟨k _ _ (nfr _ ne nf) (λz=>(hch _ z).2.2.2.2 p hp rfl) e,n,ne,nf,d⟩
 ·refine (I.hok b u e).stay (λc v hc q=>?_) (λ_ q=>q) λ_ _ q=>q
  have trk:∃ u',H c=some u':=by
   rcases hc with z | z
   ·rw [z];exact ⟨u,e⟩
   ·exact ⟨_,z⟩
  obtain ⟨u',hu'⟩:=trk
  refine k c v (λz=>?_) (λz=>?_) q
  ·rw [I.stkFree c z] at hu';cases hu'
  ·rw [(hch c z).1] at hu';cases hu'
def Fz (X:Cx) (pins:List (Addr×Obj)) (b:Addr):Prop:=X.s₀.heap.get? b=none∧∀ p∈X.pn++pins,p.1≠b
theorem Inv.fz (I:Inv X pins σ H s) (hex:X.ex=[]) {b:Addr} (h:s.heap.get? b=none):Fz X pins b:=by
 refine ⟨?_,λp hp z=>?_⟩
 ·cases q:X.s₀.heap.get? b with
  | none=>rfl
  | some o =>
   obtain ⟨o',e⟩:=I.base.there b o q (by rw [hex];simp)
   rw [h] at e;cases e
 ·rw [← z,(I.pin p hp).1] at h;cases h
theorem Inv.tfree (I:Inv X pins σ H s) {b:Addr} (h:s.heap.get? b=none):H b=none:=by
 cases q:H b with
 | none=>rfl
 | some u =>
  have:=(I.hok b u q).lt
  cases e:s.heap.get? b with
  | none =>
   obtain ⟨o,e'⟩:=zcG.there (I.hok b u q)
   rw [h] at e';cases e'
  | some o=>rw [h] at e;cases e
theorem exc_apart (I:Inv X pins σ H s) {b:Addr} {o:Obj} {vs:Array Value} (e:s.heap.get? b=some o) (hd:o.data=.fields vs) (hn:H b=none) (hF:Fz X pins b) :
  H b=none∧X.s₀.heap.get? b=none∧b≠X.env.locals∧(∀ x c,X.env.cells.lookup x=some c->c≠b)∧∀ p∈X.pn++pins,p.1≠b:=by
 refine ⟨hn,hF.1,λz=>?_,λx c ec z=>?_,hF.2⟩
 ·obtain ⟨m,⟨o',es,ep,ho',hd',_⟩,_⟩:=I.loc
  rw [← z,e] at ho';cases ho';rw [hd] at hd';cases hd'
 ·obtain ⟨v,oc,hoc,hcd⟩:=I.cell x c ec
  rw [z,e] at hoc;cases hoc;rw [hd] at hcd;cases hcd
theorem note_exc {M:Model} {E:Value->Shared->Prop} {e:Addr} {cls:Value} {dct:Option Addr} {Q:Unit->Shared->Prop} (O:Own X) (I:Inv X pins σ H s) (x:ExcAt s.heap H (Fz X pins) X.env.locals e cls dct)
  {A:Around} (hA:A.frames=X.A.frames) (hQ:∀ s',Inv X pins σ H s'->zhn s'.heap H (Fz X pins) (rawInt X.env.locals) e cls dct->Q () s'):wpAny M A (noteFrame (.ref e) X.env) Q E s:=by
 obtain ⟨oe,vs,a0,h1,h2,h3,h4,h5,h6,h7,h8,h9⟩:=x
 have hfr:A.frames=some (X.env :: X.outer):=by rw [hA,I.ok.frames,O.stk]
 have hfun:s.heap.FunFrames X.base (X.env :: X.outer):=by have:=I.stack;rw [O.stk] at this;exact this
 have ae:=exc_apart I h1 h4 h7 h8
 have newE:∀ (s1:Shared) (head:Value) (hadNext:Bool),Inv X pins σ H s1->s1.heap.get? e=some oe->(∀ b,b∈X.env :: X.outer->True) →
   wpAny M A (do let a ← frameOf X.env;let pl ← entryPlaceOf X.env.locals hadNext;let b ← EntryCells.newEntry head a .none (rawInt X.env.locals) .none pl;setField (.ref e) 1 b) Q E s1:=λs1 head hadNext I1 e1 _=>by
  have hfun1:s1.heap.FunFrames X.base (X.env :: X.outer):=by have:=I1.stack;rw [O.stk] at this;exact this
  refine zj6 hfr hfun1 O.fr e1 h4 h6 λh' T oT ts k ks he hT hgT hdT ht3=>?_
  have hTn:s1.heap.get? T=none:=Heap.get?_none_of_le hT
  have I2:Inv X pins σ H { s1 with heap:=h' }:=by
   refine I1.recs (t':=s1.toks) (ch:=[e]) (λb hb=>?_) O.ex (λb o hb hc q=>?_) (λb o hc q=>?_)
   ·rw [List.mem_singleton.mp hb];exact ae
   ·rw [O.stk] at hb
    exact k b o hb (λz=>hc (by rw [z];exact List.mem_singleton.mpr rfl)) q
   ·exact ks b o (λz=>hc (by rw [z];exact List.mem_singleton.mpr rfl)) q
  refine hQ _ I2 ⟨_,_,a0,he,(Obj.cls_mapFields _ _).trans h2,(zfs _ _).trans h3,Obj.data_mapFields h4 _,?_,?_,h7,h8,T,oT,ts,?_,?_,hgT,hdT,ht3,I1.tfree hTn,I1.fz O.ex hTn⟩
  ·rw [Array.getElem?_setIfInBounds_ne (by decide)];exact h5
  ·rw [Array.size_setIfInBounds];exact h6
  ·rw [Array.getElem?_setIfInBounds_self_of_lt h6]
  ·intro z;rw [z,e1] at hTn;cases hTn
 unfold noteFrame
 simp only [O.fr]
 rcases h9 with h9 | ⟨T,oT,ts,t1,t2,t3,t4,t5,t6,t7⟩
 ·refine wpAny_bind (wpAny_field h1 h4 h9 ?_)
  rw [if_neg (by decide)]
  exact newE s _ _ I h1 (λ_ _=>trivial)
 ·refine wpAny_bind (wpAny_field h1 h4 t1 ?_)
  rw [if_pos (show (Value.ref T != Value.none)=true from by simp)]
  rcases t5 with t5 | t5
  ·refine wpAny_bind (wpAny_field t3 t4 t5 ?_)
   rw [if_neg (show ¬ ((Value.none == rawInt X.env.locals)=true) from by simp [rawInt])]
   refine wpAny_bind (wpAny_setField t3 t4 (Array.getElem?_eq_some_iff.mp t5).1 ?_)
   have aT:=exc_apart I t3 t4 t6 t7
   have other:∀ b,b≠T->(s.heap.update T (Obj.mapFields (·.setIfInBounds 3 Value.none))).get? b=s.heap.get? b:=λb hb=>Heap.get?_update_other _ _ (Ne.symm hb)
   have I1:Inv X pins σ H { s with heap:=s.heap.update T (Obj.mapFields (·.setIfInBounds 3 Value.none)) }:=by
    refine I.recs (t':=s.toks) (ch:=[T]) (λb hb=>?_) O.ex (λb o _ hc q=>?_) (λb o hc q=>⟨o.slots,?_⟩)
    ·rw [List.mem_singleton.mp hb];exact aT
    ·exact (other b (λz=>hc (by rw [z];exact List.mem_singleton.mpr rfl))).trans q
    ·exact (other b (λz=>hc (by rw [z];exact List.mem_singleton.mpr rfl))).trans q
   exact newE _ _ _ I1 ((other e (Ne.symm t2)).trans h1) (λ_ _=>trivial)
  ·refine wpAny_bind (wpAny_field t3 t4 t5 ?_)
   rw [if_pos (show (rawInt X.env.locals == rawInt X.env.locals)=true from by simp)]
   exact wpAny_pure (hQ s I ⟨oe,vs,a0,h1,h2,h3,h4,h5,h6,h7,h8,T,oT,ts,t1,t2,t3,t4,t5,t6,t7⟩)
theorem zil {M:Model} {A:Around} {E:Value->Shared->Prop} {e:Addr} {fl cls:Value} {dct:Option Addr} {fr:Option Addr} {Q:Unit->Shared->Prop} (O:Own X) (I:Inv X pins σ H s) (x:zhn s.heap H (Fz X pins) fl e cls dct)
  (hQ:∀ s',Inv X pins σ H s'->zhn s'.heap H (Fz X pins) (fr.elim .none λf=>rawInt f) e cls dct->Q () s'):wpAny M A (setFlight (.ref e) fr) Q E s:=by
 obtain ⟨oe,vs,a0,h1,h2,h3,h4,h5,h6,h7,h8,T,oT,ts,t1,t2,t3,t4,t5,t6,t7⟩:=x
 have h3s:3<ts.size:=(Array.getElem?_eq_some_iff.mp t5).1
 have aT:=exc_apart I t3 t4 t6 t7
 have other:∀ b,b≠T->(s.heap.update T (Obj.mapFields (·.setIfInBounds 3 (fr.elim Value.none λf=>rawInt f)))).get? b=s.heap.get? b:=λb hb=>Heap.get?_update_other _ _ (Ne.symm hb)
 unfold setFlight
 refine wpAny_bind (wpAny_field h1 h4 t1 ?_)
 rw [if_pos (show (Value.ref T != Value.none)=true from by simp)]
 refine wpAny_setField t3 t4 h3s (hQ _ ?_ ?_)
 ·refine I.recs (t':=s.toks) (ch:=[T]) (λb hb=>?_) O.ex (λb o _ hc q=>?_) (λb o hc q=>⟨o.slots,?_⟩)
  ·rw [List.mem_singleton.mp hb];exact aT
  ·exact (other b (λz=>hc (by rw [z];exact List.mem_singleton.mpr rfl))).trans q
  ·exact (other b (λz=>hc (by rw [z];exact List.mem_singleton.mpr rfl))).trans q
 ·exact ⟨oe,vs,a0,(other e (Ne.symm t2)).trans h1,h2,h3,h4,h5,h6,h7,h8,T,_,_,t1,t2,Heap.get?_update_self _ t3 (Obj.isFreed_of_fields (Obj.data_mapFields t4 _)),Obj.data_mapFields t4 _,by rw [Array.getElem?_setIfInBounds_self_of_lt h3s],t6,t7⟩
end
end L2
namespace L2
open PySem PySem.Spec PyProof.Rows
def XP (X:Cx) (pins:List (Addr×Obj)) (σ:St) (E:XK) (ev:Value) (s':Shared):Prop :=
 ∃ e cls dct H',ev=.ref e∧Inv X pins σ H' s'∧ExcAt s'.heap H' (Fz X pins) X.env.locals e cls dct∧E cls dct H'
abbrev XS:=St->XK
def XPs (X:Cx) (pins:List (Addr×Obj)) (E:XS) (ev:Value) (s':Shared):Prop:=∃ σ',XP X pins σ' (E σ') ev s'
def CXE (P:Program) (w:World):CXT:=λouter H s E ev s'=>∃ e cls dct H',ev=.ref e∧s'.os=s.os∧AllBare s'.gens∧Un (frs outer) [] H H' s.heap s'.heap∧HOk P w H' s'.heap ∧
 zhn s'.heap H' (λb=>s.heap.get? b=none) .none e cls dct∧E cls dct H'
theorem zaA {P:Program} {w:World} {X:Cx}:zfy (CXE P w) X E0:=λ_ _ _ _ _ _ _ h=>by
 obtain ⟨_,_,_,_,_,_,_,_,_,_,f⟩:=h
 exact False.elim f
abbrev TEX:=St->Hp->VK->XK->Prop
abbrev TSX:=Ends->XS->St->Hp->Prop
def zph (X:Cx) (st:List Stmt) (t:TSX):Prop :=
 ∀ (pins:List (Addr×Obj)) (s:Shared) (σ:St) (H:Hp) (D:Ends) (E:XS),Inv X pins σ H s->t D E σ H->wpAny (model X.prog X.w) X.A (execs st X.env) (SP X pins D) (XPs X pins E) s
section
variable {X:Cx} {e:Expr} {st:Stmt} {rest:List Stmt} {pos:Pos}
theorem zgu {sts:List Stmt} {t:TS} (h:PSs X.nox sts t):zph X sts (λD _ σ H=>t D σ H):=λpins s σ H D E I hw =>
 wpAny_mono (h pins s σ H D (I.wish _) hw) (λ_ _ q=>SP.unwish q) λ_ _ f=>f.elim
end
section
variable {X:Cx} {k:Nat} {ps:List Str} {sp:Sp} {x:Str} {p pos:Pos} {e:Expr} {es:List Expr} {t:TA}
end
section
variable {P:Program} {w:World} {K:W.Frag} {mg:Str->Option Value} {base:Heap}
theorem zjG {N:List Str} {qual:Str} {scope:Scope} {f:Addr} {cd:Value} {A:Around} {outer:List Env} {s:Shared} {H:Hp} {E:XK} {pins:List (Addr×Obj)} {ev:Value} {s':Shared}
  (h:XPs (ziz (CXE P w) P w K mg base N qual scope f cd A outer s H E) pins (λ_=>E) ev s'):(ziz (CXE P w) P w K mg base N qual scope f cd A outer s H E).xe ev s':=by
 obtain ⟨σ',e,cls,dct,H',rfl,I,x,q⟩:=h
 have O:Own (ziz (CXE P w) P w K mg base N qual scope f cd A outer s H E):=⟨rfl,rfl,rfl⟩
 show wpAny _ _ (leaving _ (.ref e)) _ _ s'
 unfold leaving
 refine wpAny_bind (note_exc O I x rfl λs1 I1 x1=>?_)
 refine zil (fr:=none) O I1 x1 λs2 I2 x2=>?_
 exact ⟨e,cls,dct,H',rfl,I2.os,I2.bare,I2.base,I2.hok,x2.imp (λb hb=>hb.1),q⟩
theorem Fun.okX {x qual:Str} {st:Stmt} {f:Addr} {fd:FuncData} {N ps:List Str} {k:Nat} {sp:Sp} (F:Fun K x qual st f fd) (S:FnScope N ps (zae st)) (len:∀ vs H Q E,sp vs H Q E->vs.length=ps.length)
  (hbody:∀ (cdv:Value) (A:Around) (outer:List Env) (s:Shared) (H:Hp) (vs:List V) (Q:VK) (E:XK),Room k (A.deeper (envOfC qual (zae st) s.heap.objs.size f cdv))->sp vs H Q E →
   ∃ t,zph (ziz (CXE P w) P w K mg base N qual (zae st) f cdv A outer s H E) (zau st) t∧t { nx:=λ_ H'=>Q .non H',rt:=Q } (λ_=>E) (start N vs) H):FnOk P w K mg base (CXE P w) (k+1) f fd ps sp:=by
 obtain ⟨oc,od,kV,doc,pm,an,cdv,ct,osl,rfl,lk,hcd⟩:=F.ex
 refine zoQ lk hcd S len λA outer s H vs Q E hr hsp=>?_
 obtain ⟨t,h,q⟩:=hbody cdv A outer s H vs Q E hr hsp
 exact ⟨λD σ H=>t D (λ_=>E) σ H,λpins s1 σ H1 D I hw=>wpAny_mono (h pins s1 σ H1 D _ I hw) (λ_ _ q=>q) λ_ _ q=>zjG q,q⟩
end
end L2
namespace L2
open PySem PySem.Spec PyProof.Rows
structure Ds where
 pr:Hp->V->Prop
 up:∀ {H H':Hp} {v:V},Same H H'->pr H v->pr H' v
theorem pr_up {ds:List Ds} {H H':Hp} (e:Same H H'):∀ {vs:List V} {ds:List Ds},Paired (λv (d:Ds)=>d.pr H v) vs ds->Paired (λv (d:Ds)=>d.pr H' v) vs ds
 | _,_,.nil=>.nil
 | _,_,.cons (b:=d) h t=>.cons (d.up e h) (pr_up (ds:=[]) e t)
theorem paired_imp {α β:Type} {R S:α->β->Prop} (h:∀ a b,R a b->S a b):∀ {xs:List α} {ys:List β},Paired R xs ys->Paired S xs ys
 | _,_,.nil=>.nil
 | _,_,.cons q t=>.cons (h _ _ q) (paired_imp h t)
theorem zaF {α β:Type} {R:α->β->Prop}:∀ {xs:List α} {ys:List β} {i:Nat} {y:β},Paired R xs ys->ys[i]?=some y->∃ x,xs[i]?=some x∧R x y
 | _,_,_,_,.nil,e=>by simp at e
 | _,_,0,_,.cons r _,e=>by simp at e;subst e;exact ⟨_,rfl,r⟩
 | _,_,i+1,y,.cons _ t,e=>by
  obtain ⟨u,h1,h2⟩:=zaF (i:=i) (y:=y) t (by simpa using e)
  exact ⟨u,by simpa using h1,h2⟩
theorem zbF {α β:Type} {R:α->β->Prop}:∀ {xs xs':List α} {ys ys':List β},Paired R xs ys->Paired R xs' ys'->Paired R (xs++xs') (ys++ys')
 | _,_,_,_,.nil,s=>s
 | _,_,_,_,.cons r t,s=>.cons r (zbF t s)
theorem zfI {α β:Type} {R:α->β->Prop} {x:α} {y:β} (r:R x y):∀ {xs:List α} {ys:List β} (i:Nat),Paired R xs ys->Paired R (xs.set i x) (ys.set i y)
 | _,_,_,.nil=>.nil
 | _,_,0,.cons _ t=>.cons r t
 | _,_,i+1,.cons q t=>.cons q (zfI r i t)
theorem paired_take {α β:Type} {R:α->β->Prop}:∀ {xs:List α} {ys:List β} (n:Nat),Paired R xs ys->Paired R (xs.take n) (ys.take n)
 | _,_,0,_=>.nil
 | _,_,_+1,.nil=>.nil
 | _,_,n+1,.cons r t=>.cons r (paired_take n t)
theorem zeY {α β:Type} {R:α->β->Prop}:∀ {xs:List α} {ys:List β} (n:Nat),Paired R xs ys->Paired R (xs.drop n) (ys.drop n)
 | _,_,0,r=>r
 | _,_,_+1,.nil=>.nil
 | _,_,n+1,.cons _ t=>zeY n t
theorem paired_rep {α β:Type} {R:α->β->Prop} {xs:List α} {ys:List β} (h:Paired R xs ys):∀ n:Nat,Paired R (List.replicate n xs).flatten (List.replicate n ys).flatten
 | 0=>.nil
 | n+1=>by
  rw [List.replicate_succ,List.replicate_succ,List.flatten_cons,List.flatten_cons]
  exact zbF h (paired_rep h n)
abbrev dV (v:V):Ds:=⟨λ_ u=>u=v,λ_ h=>h⟩
abbrev dI (n:Int):Ds:=dV (.int n)
abbrev dB (b:Bool):Ds:=dV (.bl b)
abbrev dN:Ds:=dV .non
abbrev dS (x:Str):Ds:=dV (.str x)
def dL (ds:List Ds):Ds:=⟨λH v=>∃ p vs,v=.ref p∧H p=some (.lst vs)∧Paired (λv (d:Ds)=>d.pr H v) vs ds,λe ⟨p,vs,h1,h2,h3⟩=>⟨p,vs,h1,e _ _ h2,pr_up (ds:=[]) e h3⟩⟩
def dQ (K:W.Frag) (ds:List Ds):Ds:=⟨λH v=>∃ p vs,v=.ref p∧SqL K H p vs∧Paired (λv (d:Ds)=>d.pr H v) vs ds,λe ⟨p,vs,h1,h2,h3⟩=>⟨p,vs,h1,e.seq h2,pr_up (ds:=[]) e h3⟩⟩
def dT (ds:List Ds):Ds:=⟨λH v=>∃ p vs,v=.ref p∧H p=some (.tup vs)∧Paired (λv (d:Ds)=>d.pr H v) vs ds,λe ⟨p,vs,h1,h2,h3⟩=>⟨p,vs,h1,e _ _ h2,pr_up (ds:=[]) e h3⟩⟩
def dO (C:Addr) (fs:List (Str×Ds)):Ds:=⟨λH v=>∃ p dx vs,v=.ref p∧H p=some (.ins C dx vs)∧H dx=some (.own p)∧Paired (λ(a:Str×V) (b:Str×Ds)=>a.1=b.1∧b.2.pr H a.2) vs fs,
 λe ⟨p,dx,vs,h1,h2,h3,h4⟩=>⟨p,dx,vs,h1,e _ _ h2,e _ _ h3,paired_imp (λ_ b q=>⟨q.1,b.2.up e q.2⟩) h4⟩⟩
class Enc (α:Type) where
 d:α->Ds
instance:Enc Int:=⟨dI⟩
instance:Enc Bool:=⟨dB⟩
instance:Enc Unit:=⟨λ_=>dN⟩
instance:Enc Str:=⟨dS⟩
instance {α:Type} [Enc α]:Enc (List α):=⟨λxs=>dL (xs.map Enc.d)⟩
instance {α β:Type} [Enc α] [Enc β]:Enc (α×β):=⟨λp=>dT [Enc.d p.1,Enc.d p.2]⟩
instance {α:Type} [Enc α]:Enc (Option α):=⟨λo=>match o with | none=>dN | some x=>Enc.d x⟩
structure T3 (α β γ:Type) where
 a:α
 b:β
 c:γ
instance {α β γ:Type} [Enc α] [Enc β] [Enc γ]:Enc (T3 α β γ):=⟨λp=>dT [Enc.d p.a,Enc.d p.b,Enc.d p.c]⟩
structure Grow (F H F' H':Hp):Prop where
 f:Same F F'
 fh:Same F' H'
 h:Same H H'
 no:∀ a,H a≠none->F a=none->F' a=none
theorem Grow.refl {F H:Hp} (e:Same F H):Grow F H F H:=⟨Same.refl _,e,Same.refl _,λ_ _ h=>h⟩
theorem Same.some {H H':Hp} (e:Same H H') {a:Addr} (h:H a≠none):H' a≠none:=by
 cases q:H a with
 | none=>exact absurd q h
 | some o=>rw [e _ _ q];simp
theorem Grow.trans {F H F' H' F'' H'':Hp} (g:Grow F H F' H') (k:Grow F' H' F'' H''):Grow F H F'' H'' :=
 ⟨g.f.trans k.f,k.fh,g.h.trans k.h,λa h1 h2=>k.no a (g.h.some h1) (g.no a h1 h2)⟩
theorem Grow.new {F H F' H':Hp} (g:Grow F H F' H') {p:Addr} {o:HO} (hp:H' p=none):Grow F H (upd F' p o) (upd H' p o):=by
 have hf:F' p=none:=by
  cases q:F' p with
  | none=>rfl
  | some u=>rw [g.fh _ _ q] at hp;cases hp
 refine ⟨g.f.trans (Same.new hf _),λa u q=>?_,g.h.trans (Same.new hp _),λa h1 h2=>?_⟩
 ·by_cases e:a=p
  ·subst e;rw [upd_same] at q ⊢;exact q
  ·rw [upd_ne e] at q ⊢;exact g.fh _ _ q
 ·have:a≠p:=λe=>by subst e;exact (g.h.some h1) hp
  rw [upd_ne this];exact g.no a h1 h2
theorem Grow.newH {F H F' H':Hp} (g:Grow F H F' H') {p:Addr} {o:HO} (hp:H' p=none):Grow F H F' (upd H' p o) :=
 ⟨g.f,g.fh.trans (Same.new hp _),g.h.trans (Same.new hp _),g.no⟩
theorem Grow.setH {F H F' H':Hp} (g:Grow F H F' H') {p:Addr} {o:HO} (hf:F' p=none) (hp:H p=none):Grow F H F' (upd H' p o) :=
 ⟨g.f,λa u q=>by rw [upd_ne (ne_of_none q hf)];exact g.fh _ _ q,λa u q=>by rw [upd_ne (ne_of_none q hp)];exact g.h _ _ q,g.no⟩
theorem Grow.take {F H F' H':Hp} (g:Grow F H F' H') {p:Addr} {o:HO} (hp:H p=none) (e:H' p=some o):Grow F H (upd F' p o) H':=by
 refine ⟨λa u q=>?_,λa u q=>?_,g.h,λa h1 h2=>?_⟩
 ·by_cases z:a=p
  ·subst z
   have:=g.fh _ _ (g.f _ _ q)
   rw [e] at this;cases this;exact upd_same
  ·rw [upd_ne z];exact g.f _ _ q
 ·by_cases z:a=p
  ·subst z;rw [upd_same] at q;cases q;exact e
  ·rw [upd_ne z] at q;exact g.fh _ _ q
 ·have:a≠p:=λz=>by subst z;exact h1 hp
  rw [upd_ne this];exact g.no a h1 h2
def off (F Hb:Hp):Hp:=λa=>match Hb a with | none=>F a | some _=>none
theorem off_some {F Hb:Hp} {a:Addr} {o:HO}:off F Hb a=some o ↔ Hb a=none∧F a=some o:=by
 unfold off
 cases q:Hb a with
 | none=>simp
 | some u=>simp
theorem off_up {F F' Hb:Hp} (e:Same F F'):Same (off F Hb) (off F' Hb):=λa o q=>by
 rw [off_some] at q ⊢;exact ⟨q.1,e _ _ q.2⟩
theorem zjr {F Hb:Hp}:Same (off F Hb) F:=λa o q=>(off_some.mp q).2
theorem ziW {F Hb Hc:Hp} (e:Same Hb Hc):Same (off F Hc) (off F Hb):=λa o q=>by
 rw [off_some] at q ⊢
 refine ⟨?_,q.2⟩
 cases z:Hb a with
 | none=>rfl
 | some u=>rw [e _ _ z] at q;cases q.1
def part (m:Bool) (F Hb:Hp):Hp:=match m with | true=>off F Hb | false=>F
theorem part_up {m:Bool} {F F' Hb:Hp} (e:Same F F'):Same (part m F Hb) (part m F' Hb):=by
 cases m with
 | true=>exact off_up e
 | false=>exact e
theorem part_sub {m:Bool} {F Hb:Hp}:Same (part m F Hb) F:=by
 cases m with
 | true=>exact zjr
 | false=>exact Same.refl _
theorem zdV {m:Bool} {F Hb:Hp} {p:Addr} {o:HO} (hb:Hb p=none) (hp:F p=some o):part m F Hb p=some o:=by
 cases m with
 | true=>exact off_some.mpr ⟨hb,hp⟩
 | false=>exact hp
inductive Slot where
 | no
 | va (m:Bool) (d:Ds)
 | ow (m:Bool) (ds:List Ds)
 | ob (m:Bool) (C p dx:Addr) (fs:List (Str×Ds))
 | tl (d:Ds)
 | ol (p:Addr) (ds:List Ds)
abbrev Ctx:=List Slot
def zdY (Hb F H:Hp) (own:Nat->Option Addr) (i:Nat) (v:Option V):Slot->Prop
 | .tl d=>∃ x R,v=some x∧Same R H∧(∀ a o,R a=some o->F a=none∧Hb a=none)∧(∀ j p,own j=some p->R p=none)∧d.pr R x
 | .no=>True
 | .va m d=>∃ x,v=some x∧d.pr (part m F Hb) x
 | .ow m ds=>∃ p vs,v=some (.ref p)∧own i=some p∧F p=none∧Hb p=none∧H p=some (.lst vs)∧Paired (λv (d:Ds)=>d.pr (part m F Hb) v) vs ds
 | .ol p ds=>∃ vs,v=some (.ref p)∧own i=some p∧F p=none∧Hb p=none∧H p=some (.lst vs)∧Paired (λv (d:Ds)=>d.pr F v) vs ds
 | .ob m C p dx fs=>∃ vs,v=some (.ref p)∧own i=some p∧(F p=none∧F dx=none)∧(Hb p=none∧Hb dx=none)∧(H p=some (.ins C dx vs)∧H dx=some (.own p))∧Paired (λ(a:Str×V) (b:Str×Ds)=>a.1=b.1∧b.2.pr (part m F Hb) a.2) vs fs
structure At (F0 Hb F H:Hp) (σ:St) (own:Nat->Option Addr) (Γ:Ctx):Prop where
 g:Grow F0 Hb F H
 inj:∀ i j p,own i=some p->own j=some p->i=j
 liv:∀ i p,own i=some p->H p≠none
 sl:∀ i s,Γ[i]?=some s->zdY Hb F H own i (σ[i]?).join s
 len:σ.length=Γ.length
theorem zdY.grow {Hb F H F' H':Hp} {own:Nat->Option Addr} {i:Nat} {v:Option V} {s:Slot} (h:zdY Hb F H own i v s) (g:Grow F H F' H'):zdY Hb F' H' own i v s:=by
 cases s with
 | no=>trivial
 | tl d =>
  obtain ⟨x,R,e,h1,h2,h3,h4⟩:=h
  exact ⟨x,R,e,h1.trans g.h,λa o q=>⟨g.no a (by rw [h1 _ _ q];simp) (h2 a o q).1,(h2 a o q).2⟩,h3,h4⟩
 | va m d=>obtain ⟨x,e,q⟩:=h;exact ⟨x,e,d.up (part_up g.f) q⟩
 | ow m ds =>
  obtain ⟨p,vs,e,ho,hf,hb,hp,q⟩:=h
  exact ⟨p,vs,e,ho,g.no p (by rw [hp];simp) hf,hb,g.h _ _ hp,pr_up (ds:=[]) (part_up g.f) q⟩
 | ol p ds =>
  obtain ⟨vs,e,ho,hf,hb,hp,q⟩:=h
  exact ⟨vs,e,ho,g.no p (by rw [hp];simp) hf,hb,g.h _ _ hp,pr_up (ds:=[]) g.f q⟩
 | ob m C p dx fs =>
  obtain ⟨vs,e,ho,hf,hb,hp,q⟩:=h
  exact ⟨vs,e,ho,⟨g.no p (by rw [hp.1];simp) hf.1,g.no dx (by rw [hp.2];simp) hf.2⟩,hb,⟨g.h _ _ hp.1,g.h _ _ hp.2⟩,paired_imp (λ_ b z=>⟨z.1,b.2.up (part_up g.f) z.2⟩) q⟩
theorem At.grow {F0 Hb F H F' H':Hp} {σ:St} {own:Nat->Option Addr} {Γ:Ctx} (a:At F0 Hb F H σ own Γ) (g:Grow F H F' H'):At F0 Hb F' H' σ own Γ :=
 ⟨a.g.trans g,a.inj,λi p e=>g.h.some (a.liv i p e),λi s e=>(a.sl i s e).grow g,a.len⟩
theorem At.fh {F0 Hb F H:Hp} {σ:St} {own:Nat->Option Addr} {Γ:Ctx} (a:At F0 Hb F H σ own Γ):Same F H:=a.g.fh
theorem join_set_self {σ:St} {i:Nat} {x:Option V} (h:i<σ.length):((σ.set i x)[i]?).join=x:=by
 rw [List.getElem?_set_self h];rfl
theorem zdK {σ:St} {i j:Nat} {x:Option V} (h:i≠j):((σ.set i x)[j]?).join=(σ[j]?).join:=by
 rw [List.getElem?_set_ne h]
theorem At.set {F0 Hb F H:Hp} {σ:St} {own:Nat->Option Addr} {Γ:Ctx} (a:At F0 Hb F H σ own Γ) (i:Nat) {m:Bool} {d:Ds} {v:V} (h:d.pr (part m F Hb) v) :
  At F0 Hb F H (σ.set i (some v)) own (Γ.set i (.va m d)):=by
 refine ⟨a.g,a.inj,a.liv,λj s e=>?_,by simp [a.len]⟩
 by_cases z:i=j
 ·subst z
  have hi:i<Γ.length:=by
   have:=(List.getElem?_eq_some_iff.mp e).1
   simpa using this
  rw [List.getElem?_set_self hi] at e
  cases e
  rw [join_set_self (by rw [a.len];exact hi)]
  exact ⟨v,rfl,h⟩
 ·rw [List.getElem?_set_ne z] at e
  rw [zdK z]
  exact a.sl j s e
theorem At.setOwn {F0 Hb F1 H1 F H:Hp} {σ:St} {own:Nat->Option Addr} {Γ:Ctx} (a1:At F0 Hb F1 H1 σ own Γ) (g:Grow F1 H1 F H) (i:Nat) {m:Bool} {ds:List Ds} {p:Addr} {vs:List V} (h1:H1 p=none) (hf:F p=none) (hp:H p=some (.lst vs))
  (h:Paired (λv (d:Ds)=>d.pr (part m F Hb) v) vs ds):At F0 Hb F H (σ.set i (some (.ref p))) (λj=>if j=i then some p else own j) (Γ.set i (.ow m ds)):=by
 have a:=a1.grow g
 have hb:Hb p=none:=a1.g.h.free h1
 have ho:∀ j,own j≠some p:=λj e=>a1.liv j p e h1
 refine ⟨a.g,λj k q e1 e2=>?_,λj q e=>?_,λj s e=>?_,by simp [a.len]⟩
 ·skip
  split at e1<;>split at e2
  ·omega
  ·cases e1;exact absurd e2 (ho k)
  ·cases e2;exact absurd e1 (ho j)
  ·exact a.inj j k q e1 e2
 ·skip
  split at e
  ·cases e;rw [hp];simp
  ·exact a.liv j q e
 ·by_cases z:i=j
  ·subst z
   have hi:i<Γ.length:=by
    have:=(List.getElem?_eq_some_iff.mp e).1
    simpa using this
   rw [List.getElem?_set_self hi] at e
   cases e
   rw [join_set_self (by rw [a.len];exact hi)]
   exact ⟨p,vs,rfl,by simp,hf,hb,hp,h⟩
  ·rw [List.getElem?_set_ne z] at e
   rw [zdK z]
   have z':¬ j=i:=Ne.symm z
   cases s with
   | tl d =>
    obtain ⟨x,R,q1,q2,q3,q4,q5⟩:=a1.sl j _ e
    refine ⟨x,R,q1,q2.trans g.h,λb o w=>⟨g.no b (by rw [q2 _ _ w];simp) (q3 b o w).1,(q3 b o w).2⟩,λk q w=>?_,q5⟩
    dsimp only at w
    split at w
    ·cases w;exact q2.free h1
    ·exact q4 k q w
   | no=>trivial
   | va m d=>exact a.sl j _ e
   | ow m ds =>
    obtain ⟨q,us,w1,w2,w3⟩:=a.sl j _ e
    exact ⟨q,us,w1,(if_neg z').trans w2,w3⟩
   | ol q ds =>
    obtain ⟨us,w1,w2,w3⟩:=a.sl j _ e
    exact ⟨us,w1,(if_neg z').trans w2,w3⟩
   | ob m C q dx fs =>
    obtain ⟨us,w1,w2,w3⟩:=a.sl j _ e
    exact ⟨us,w1,(if_neg z').trans w2,w3⟩
theorem At.turn {F0 Hb F H:Hp} {σ:St} {own:Nat->Option Addr} {Γ:Ctx} (a:At F0 Hb F H σ own Γ) {i:Nat} {m n:Bool} {ds es:List Ds} {p:Addr} {ws:List V} (e:Γ[i]?=some (.ow m ds)) (ep:σ[i]?=some (some (.ref p)))
  (h:Paired (λv (d:Ds)=>d.pr (part n F Hb) v) ws es):At F0 Hb F (upd H p (.lst ws)) σ own (Γ.set i (.ow n es)):=by
 obtain ⟨p',vs,e1,e2,hf,hb,hp,_⟩:=a.sl i _ e
 rw [ep] at e1
 have e1':p=p':=by
  have:some (V.ref p)=some (V.ref p'):=e1
  cases this;rfl
 subst e1'
 refine ⟨a.g.setH hf hb,a.inj,λj q ej=>?_,λj s es'=>?_,by simp [a.len]⟩
 ·by_cases z:q=p
  ·subst z;rw [upd_same];simp
  ·rw [upd_ne z];exact a.liv j q ej
 ·by_cases z:i=j
  ·subst z
   have hi:i<Γ.length:=(List.getElem?_eq_some_iff.mp e).1
   rw [List.getElem?_set_self hi] at es'
   cases es'
   exact ⟨p,ws,by rw [ep];rfl,e2,hf,hb,upd_same,h⟩
  ·rw [List.getElem?_set_ne z] at es'
   have:=a.sl j s es'
   cases s with
   | no=>trivial
   | tl d =>
    obtain ⟨x,R,q1,q2,q3,q4,q5⟩:=this
    exact ⟨x,R,q1,λb o w=>by rw [upd_ne (ne_of_none w (q4 i p e2))];exact q2 b o w,q3,q4,q5⟩
   | va m d=>exact this
   | ow m ds =>
    obtain ⟨q,us,h1,h2,h3,h4,h5,h6⟩:=this
    have:q≠p:=λw=>by subst w;exact z (a.inj i j q e2 h2)
    exact ⟨q,us,h1,h2,h3,h4,by rw [upd_ne this];exact h5,h6⟩
   | ol q ds =>
    obtain ⟨us,h1,h2,h3,h4,h5,h6⟩:=this
    have:q≠p:=λw=>by subst w;exact z (a.inj i j q e2 h2)
    exact ⟨us,h1,h2,h3,h4,by rw [upd_ne this];exact h5,h6⟩
   | ob m C q dx fs =>
    obtain ⟨us,h1,h2,h3,h4,h5,h6⟩:=this
    have n1:q≠p:=λw=>by subst w;exact z (a.inj i j q e2 h2)
    have n2:dx≠p:=zkd h5.2 hp (by intro z;cases z)
    exact ⟨us,h1,h2,h3,h4,⟨by rw [upd_ne n1];exact h5.1,by rw [upd_ne n2];exact h5.2⟩,h6⟩
theorem At.turnOb {F0 Hb F H:Hp} {σ:St} {own:Nat->Option Addr} {Γ:Ctx} (a:At F0 Hb F H σ own Γ) {i:Nat} {m n:Bool} {C p dx:Addr} {fs gs:List (Str×Ds)} {ws:List (Str×V)} (e:Γ[i]?=some (.ob m C p dx fs))
  (h:Paired (λ(a:Str×V) (b:Str×Ds)=>a.1=b.1∧b.2.pr (part n F Hb) a.2) ws gs):At F0 Hb F (upd H p (.ins C dx ws)) σ own (Γ.set i (.ob n C p dx gs)):=by
 obtain ⟨vs,e1,e2,hf,hb,hp,_⟩:=a.sl i _ e
 have ndp:dx≠p:=zkd hp.2 hp.1 (by intro z;cases z)
 refine ⟨a.g.setH hf.1 hb.1,a.inj,λj q ej=>?_,λj s es'=>?_,by simp [a.len]⟩
 ·by_cases z:q=p
  ·subst z;rw [upd_same];simp
  ·rw [upd_ne z];exact a.liv j q ej
 ·by_cases z:i=j
  ·subst z
   have hi:i<Γ.length:=(List.getElem?_eq_some_iff.mp e).1
   rw [List.getElem?_set_self hi] at es'
   cases es'
   exact ⟨ws,e1,e2,hf,hb,⟨upd_same,by rw [upd_ne ndp];exact hp.2⟩,h⟩
  ·rw [List.getElem?_set_ne z] at es'
   have:=a.sl j s es'
   cases s with
   | no=>trivial
   | tl d =>
    obtain ⟨x,R,q1,q2,q3,q4,q5⟩:=this
    exact ⟨x,R,q1,λb o w=>by rw [upd_ne (ne_of_none w (q4 i p e2))];exact q2 b o w,q3,q4,q5⟩
   | va m d=>exact this
   | ow m ds =>
    obtain ⟨q,us,h1,h2,h3,h4,h5,h6⟩:=this
    have:q≠p:=λw=>by subst w;exact z (a.inj i j q e2 h2)
    exact ⟨q,us,h1,h2,h3,h4,by rw [upd_ne this];exact h5,h6⟩
   | ol q ds =>
    obtain ⟨us,h1,h2,h3,h4,h5,h6⟩:=this
    have:q≠p:=λw=>by subst w;exact z (a.inj i j q e2 h2)
    exact ⟨us,h1,h2,h3,h4,by rw [upd_ne this];exact h5,h6⟩
   | ob m C q dy fs =>
    obtain ⟨us,h1,h2,h3,h4,h5,h6⟩:=this
    have n1:q≠p:=λw=>by subst w;exact z (a.inj i j q e2 h2)
    have n2:dy≠p:=zkd h5.2 hp.1 (by intro z;cases z)
    exact ⟨us,h1,h2,h3,h4,⟨by rw [upd_ne n1];exact h5.1,by rw [upd_ne n2];exact h5.2⟩,h6⟩
inductive Wk:Ctx->Ctx->Prop where
 | nil:Wk [] []
 | eq {s Γ Δ}:Wk Γ Δ->Wk (s :: Γ) (s :: Δ)
 | no {s Γ Δ}:Wk Γ Δ->Wk (s :: Γ) (.no :: Δ)
 | old {m d Γ Δ}:Wk Γ Δ->Wk (.va m d :: Γ) (.va false d :: Δ)
 | oldL {m d Γ Δ}:Wk Γ Δ->Wk (.ow m d :: Γ) (.ow false d :: Δ)
theorem Wk.refl:∀ Γ:Ctx,Wk Γ Γ
 | []=>.nil
 | _ :: Γ=>.eq (Wk.refl Γ)
theorem Wk.len {Γ Δ:Ctx} (h:Wk Γ Δ):Γ.length=Δ.length:=by
 induction h<;>simp_all
theorem Wk.slot {Γ Δ:Ctx} (h:Wk Γ Δ):∀ {i:Nat} {s:Slot},Δ[i]?=some s->∃ r,Γ[i]?=some r∧∀ {Hb F H:Hp} {own:Nat->Option Addr} {j:Nat} {v:Option V},zdY Hb F H own j v r->zdY Hb F H own j v s:=by
 induction h with
 | nil=>intro i s e;simp at e
 | eq _ ih =>
  intro i s e
  cases i with
  | zero=>simp at e;subst e;exact ⟨_,rfl,λh=>h⟩
  | succ i=>simpa using ih (i:=i) (s:=s) (by simpa using e)
 | no _ ih =>
  intro i s e
  cases i with
  | zero=>simp at e;subst e;exact ⟨_,rfl,λ_=>trivial⟩
  | succ i=>simpa using ih (i:=i) (s:=s) (by simpa using e)
 | old _ ih =>
  intro i s e
  cases i with
  | zero=>simp at e;subst e;exact ⟨_,rfl,λ⟨x,h1,h2⟩=>⟨x,h1,Ds.up _ part_sub h2⟩⟩
  | succ i=>simpa using ih (i:=i) (s:=s) (by simpa using e)
 | oldL _ ih =>
  intro i s e
  cases i with
  | zero=>simp at e;subst e;exact ⟨_,rfl,λ⟨p,vs,h1,h2,h3,h4,h5,h6⟩=>⟨p,vs,h1,h2,h3,h4,h5,pr_up (ds:=[]) part_sub h6⟩⟩
  | succ i=>simpa using ih (i:=i) (s:=s) (by simpa using e)
theorem At.wk {F0 Hb F H:Hp} {σ:St} {own:Nat->Option Addr} {Γ Δ:Ctx} (a:At F0 Hb F H σ own Γ) (w:Wk Γ Δ):At F0 Hb F H σ own Δ :=
 ⟨a.g,a.inj,a.liv,λi s e=>by
  obtain ⟨r,e1,h⟩:=w.slot e
  exact h (a.sl i r e1),by rw [a.len,w.len]⟩
theorem At.share {F0 Hb F H:Hp} {σ:St} {own:Nat->Option Addr} {Γ:Ctx} (a:At F0 Hb F H σ own Γ) {i:Nat} {m:Bool} {ds:List Ds} (e:Γ[i]?=some (.ow m ds)) :
  ∃ F' own',Grow F0 Hb F' H∧At F0 Hb F' H σ own' (Γ.set i (.va m (dL ds))):=by
 obtain ⟨p,vs,e1,e2,hf,hb,hp,hq⟩:=a.sl i _ e
 have g:=a.g.take hb hp
 have fs:Same F (upd F p (.lst vs)):=Same.new hf _
 refine ⟨upd F p (.lst vs),λj=>if j=i then none else own j,g,g,λj k q h1 h2=>?_,λj q h1=>?_,λj s es=>?_,by simp [a.len]⟩
 ·skip
  split at h1
  ·cases h1
  ·split at h2
   ·cases h2
   ·exact a.inj j k q h1 h2
 ·skip
  split at h1
  ·cases h1
  ·exact a.liv j q h1
 ·by_cases z:i=j
  ·subst z
   have hi:i<Γ.length:=(List.getElem?_eq_some_iff.mp e).1
   rw [List.getElem?_set_self hi] at es
   cases es
   exact ⟨.ref p,e1,p,vs,rfl,zdV hb upd_same,pr_up (ds:=[]) (part_up fs) hq⟩
  ·rw [List.getElem?_set_ne z] at es
   have z':¬ j=i:=Ne.symm z
   have:=a.sl j s es
   cases s with
   | no=>trivial
   | tl d =>
    obtain ⟨x,R,q1,q2,q3,q4,q5⟩:=this
    refine ⟨x,R,q1,q2,λb o w=>⟨by rw [upd_ne (ne_of_none w (q4 i p e2))];exact (q3 b o w).1,(q3 b o w).2⟩,λk q w=>?_,q5⟩
    dsimp only at w
    split at w
    ·cases w
    ·exact q4 k q w
   | va m d=>obtain ⟨x,h1,h2⟩:=this;exact ⟨x,h1,d.up (part_up fs) h2⟩
   | ow m ds =>
    obtain ⟨q,us,h1,h2,h3,h4,h5,h6⟩:=this
    have:q≠p:=λw=>by subst w;exact z (a.inj i j q e2 h2)
    exact ⟨q,us,h1,(if_neg z').trans h2,by rw [upd_ne this];exact h3,h4,h5,pr_up (ds:=[]) (part_up fs) h6⟩
   | ol q ds =>
    obtain ⟨us,h1,h2,h3,h4,h5,h6⟩:=this
    have:q≠p:=λw=>by subst w;exact z (a.inj i j q e2 h2)
    exact ⟨us,h1,(if_neg z').trans h2,by rw [upd_ne this];exact h3,h4,h5,pr_up (ds:=[]) fs h6⟩
   | ob m C q dx gs =>
    obtain ⟨us,h1,h2,h3,h4,h5,h6⟩:=this
    have n1:q≠p:=λw=>by subst w;exact z (a.inj i j q e2 h2)
    have n2:dx≠p:=zkd h5.2 hp (by intro z;cases z)
    exact ⟨us,h1,(if_neg z').trans h2,⟨by rw [upd_ne n1];exact h3.1,by rw [upd_ne n2];exact h3.2⟩,h4,h5,paired_imp (λ_ b z=>⟨z.1,b.2.up (part_up fs) z.2⟩) h6⟩
end L2
namespace L2
open PySem PySem.Spec PyProof.Rows
def Ev (Γ:Ctx) (t:TE) (m:Bool) (d:Ds):Prop:=∀ (F0 Hb F H:Hp) (σ:St) (own:Nat->Option Addr) (Q:VK),At F0 Hb F H σ own Γ →
 (∀ v F' H',Grow F H F' H'->d.pr (part m F' Hb) v->Q v H')->t σ H Q
def EvO (Γ:Ctx) (t:TE) (m:Bool) (ds:List Ds):Prop:=∀ (F0 Hb F H:Hp) (σ:St) (own:Nat->Option Addr) (Q:VK),At F0 Hb F H σ own Γ →
 (∀ p vs F' H',Grow F H F' H'->H p=none->F' p=none->H' p=some (.lst vs)->Paired (λv (d:Ds)=>d.pr (part m F' Hb) v) vs ds->Q (.ref p) H')->t σ H Q
def EvT (Γ:Ctx) (t:TT) (b:Bool):Prop:=∀ (F0 Hb F H:Hp) (σ:St) (own:Nat->Option Addr) (Q:Bool->Hp->Prop),At F0 Hb F H σ own Γ →
 (∀ F' H',Grow F H F' H'->Q b H')->t σ H Q
def EvA (Γ:Ctx) (t:TA) (m:Bool) (ds:List Ds):Prop:=∀ (F0 Hb F H:Hp) (σ:St) (own:Nat->Option Addr) (Q:List V->Hp->Prop),At F0 Hb F H σ own Γ →
 (∀ vs F' H',Grow F H F' H'->Paired (λv (d:Ds)=>d.pr (part m F' Hb) v) vs ds->Q vs H')->t σ H Q
def EvP (Γ:Ctx) (t:TO) (i:Option Int):Prop:=∀ (F0 Hb F H:Hp) (σ:St) (own:Nat->Option Addr) (Q:Option Int->Hp->Prop),At F0 Hb F H σ own Γ →
 (∀ F' H',Grow F H F' H'->Q i H')->t σ H Q
theorem At.free {F0 Hb F H:Hp} {σ:St} {own:Nat->Option Addr} {Γ:Ctx} (a:At F0 Hb F H σ own Γ) {F' H':Hp} (g:Grow F H F' H') {p:Addr} (h:H' p=none):H p=none∧F' p=none∧Hb p=none:=by
 have h1:=g.h.free h
 exact ⟨h1,g.fh.free h,a.g.h.free h1⟩
section
variable {Γ:Ctx} {t ta tb:TE} {m n:Bool} {d e:Ds} {ds es:List Ds} {K:W.Frag}
theorem Ev.old (h:Ev Γ t m d):Ev Γ t false d:=λF0 Hb F H σ own Q a k=>h F0 Hb F H σ own Q a λv F' H' g q=>k v F' H' g (d.up part_sub q)
theorem Ev.conv (h:Ev Γ t m d) (e':d=e):Ev Γ t m e:=e' ▸ h
theorem EvO.conv (h:EvO Γ t m ds) (e':ds=es):EvO Γ t m es:=e' ▸ h
theorem EvT.conv {t:TT} {b c:Bool} (h:EvT Γ t b) (e':b=c):EvT Γ t c:=e' ▸ h
theorem EvO.ev (h:EvO Γ t m ds):Ev Γ t m (dL ds):=λF0 Hb F H σ own Q a k=>h F0 Hb F H σ own Q a λp vs F' H' g h1 h2 h3 q=>by
 have fs:Same F' (upd F' p (.lst vs)):=Same.new h2 _
 exact k (.ref p) (upd F' p (.lst vs)) H' (g.take h1 h3) ⟨p,vs,rfl,zdV (a.g.h.free h1) upd_same,pr_up (ds:=[]) (part_up fs) q⟩
theorem Ev.weak (h:Ev Γ t m (dL ds)):Ev Γ t m (dQ K ds):=λF0 Hb F H σ own Q a k=>h F0 Hb F H σ own Q a λv F' H' g ⟨p,vs,h1,h2,h3⟩=>k v F' H' g ⟨p,vs,h1,SqL.of h2,h3⟩
theorem zaa {i:Nat} (h:Γ[i]?=some (.va m d)):Ev Γ (tVar i) m d:=λF0 Hb F H σ own Q a k=>by
 obtain ⟨x,e,q⟩:=a.sl i _ h
 have hi:i<σ.length:=by rw [a.len];exact (List.getElem?_eq_some_iff.mp h).1
 rw [List.getElem?_eq_getElem hi] at e
 have e':σ[i]=some x:=e
 exact ⟨x,by rw [List.getElem?_eq_getElem hi,e'],k x F H (Grow.refl a.fh) q⟩
theorem zaz {v:V}:Ev Γ (tC v) m (dV v):=λF0 Hb F H σ own Q a k=>k v F H (Grow.refl a.fh) rfl
theorem zaD {g:Int->Int->V} {x y:Int} (h1:Ev Γ ta false (dI x)) (h2:Ev Γ tb false (dI y)):Ev Γ (tOp (rI0 g) ta tb) m (dV (g x y)):=λF0 Hb F H σ own Q a k =>
 h1 F0 Hb F H σ own _ a λu F1 H1 g1 q1=>h2 F0 Hb F1 H1 σ own _ (a.grow g1) λv F2 H2 g2 q2=>⟨x,y,q1,q2,k _ F2 H2 (g1.trans g2) rfl⟩
theorem zas {C:Int->Int->Prop} {g:Int->Int->V} {x y:Int} (h1:Ev Γ ta false (dI x)) (h2:Ev Γ tb false (dI y)) (c:C x y):Ev Γ (tOp (rI C g) ta tb) m (dV (g x y)):=λF0 Hb F H σ own Q a k =>
 h1 F0 Hb F H σ own _ a λu F1 H1 g1 q1=>h2 F0 Hb F1 H1 σ own _ (a.grow g1) λv F2 H2 g2 q2=>⟨x,y,q1,q2,c,k _ F2 H2 (g1.trans g2) rfl⟩
theorem znD {g:Int->V} {x:Int} (h1:Ev Γ ta false (dI x)):Ev Γ (tUn (rU g) ta) m (dV (g x)):=λF0 Hb F H σ own Q a k =>
 h1 F0 Hb F H σ own _ a λu F1 H1 g1 q1=>⟨x,q1,k _ F1 H1 g1 rfl⟩
theorem zou {v w:V} (h1:Ev Γ ta false (dV v)) (h2:Ev Γ tb false (dV w)) (hs:scal v w=true):Ev Γ (tOp rEq ta tb) m (dB (decide (v=w))):=λF0 Hb F H σ own Q a k =>
 h1 F0 Hb F H σ own _ a λu F1 H1 g1 q1=>h2 F0 Hb F1 H1 σ own _ (a.grow g1) λv F2 H2 g2 q2=>by
  cases q1;cases q2;exact ⟨hs,k _ F2 H2 (g1.trans g2) rfl⟩
theorem zoB {v w:V} (h1:Ev Γ ta false (dV v)) (h2:Ev Γ tb false (dV w)) (hs:scal v w=true):Ev Γ (tOp rNe ta tb) m (dB (!decide (v=w))):=λF0 Hb F H σ own Q a k =>
 h1 F0 Hb F H σ own _ a λu F1 H1 g1 q1=>h2 F0 Hb F1 H1 σ own _ (a.grow g1) λv F2 H2 g2 q2=>by
  cases q1;cases q2;exact ⟨hs,k _ F2 H2 (g1.trans g2) rfl⟩
theorem zj3 (x y:Int):decide (V.int x=V.int y)=decide (x=y):=by simp
theorem zcN {x y:Int} (h1:Ev Γ ta false (dI x)) (h2:Ev Γ tb false (dI y)):Ev Γ (tOp rEq ta tb) m (dB (decide (x=y))):=(zou h1 h2 rfl).conv (by rw [zj3])
theorem zcO {x y:Int} (h1:Ev Γ ta false (dI x)) (h2:Ev Γ tb false (dI y)):Ev Γ (tOp rNe ta tb) m (dB (!decide (x=y))):=(zoB h1 h2 rfl).conv (by rw [zj3])
theorem zan {b:Bool} (h:Ev Γ t false (dB b)):EvT Γ (zob t) b:=λF0 Hb F H σ own Q a k=>h F0 Hb F H σ own _ a λv F' H' g q=>⟨b,q,k F' H' g⟩
theorem zci {b:Bool} (h:Ev Γ t false (dB b)):EvT Γ (tB t) b:=λF0 Hb F H σ own Q a k=>h F0 Hb F H σ own _ a λv F' H' g q=>⟨b,q,k F' H' g⟩
theorem zcV {t:TT} {b:Bool} (h:EvT Γ t b):EvT Γ (zo3 t) (!b):=λF0 Hb F H σ own Q a k=>h F0 Hb F H σ own _ a λF' H' g=>k F' H' g
theorem zfd {t u:TT} {b c:Bool} (h:EvT Γ t b) (h2:b=true->EvT Γ u c):EvT Γ (zpe t u) (b&&c):=λF0 Hb F H σ own Q a k=>h F0 Hb F H σ own _ a λF' H' g=>by
 cases b with
 | true=>exact h2 rfl F0 Hb F' H' σ own Q (a.grow g) λF2 H2 g2=>k F2 H2 (g.trans g2)
 | false=>exact k F' H' g
theorem zd1 {t u:TT} {b c:Bool} (h:EvT Γ t b) (h2:b=false->EvT Γ u c):EvT Γ (tOr t u) (b||c):=λF0 Hb F H σ own Q a k=>h F0 Hb F H σ own _ a λF' H' g=>by
 cases b with
 | false=>exact h2 rfl F0 Hb F' H' σ own Q (a.grow g) λF2 H2 g2=>k F2 H2 (g.trans g2)
 | true=>exact k F' H' g
theorem zoR {tc:TT} {α:Type} {b:Bool} {x y:α} (f:α->Ds) (h:EvT Γ tc b) (h1:b=true->Ev Γ ta m (f x)) (h2:b=false->Ev Γ tb m (f y)):Ev Γ (tIf tc ta tb) m (f (bif b then x else y)):=λF0 Hb F H σ own Q a k=>h F0 Hb F H σ own _ a λF' H' g=>by
 cases b with
 | true=>exact h1 rfl F0 Hb F' H' σ own Q (a.grow g) λv F2 H2 g2 q2=>k v F2 H2 (g.trans g2) q2
 | false=>exact h2 rfl F0 Hb F' H' σ own Q (a.grow g) λv F2 H2 g2 q2=>k v F2 H2 (g.trans g2) q2
theorem zaf:EvA Γ tNil m []:=λF0 Hb F H σ own Q a k=>k [] F H (Grow.refl a.fh) .nil
theorem zac {tr:TA} (h:Ev Γ ta m d) (h2:EvA Γ tr m ds):EvA Γ (tCons ta tr) m (d :: ds):=λF0 Hb F H σ own Q a k =>
 h F0 Hb F H σ own _ a λv F1 H1 g1 q1=>h2 F0 Hb F1 H1 σ own _ (a.grow g1) λvs F2 H2 g2 q2=>k _ F2 H2 (g1.trans g2) (.cons (d.up (part_up g2.f) q1) q2)
theorem zdX {tr:TA} (h:EvA Γ tr m ds) (hz:ds.length≤sizeLine):EvO Γ (zoj tr) m ds:=λF0 Hb F H σ own Q a k =>
 h F0 Hb F H σ own _ a λvs F1 H1 g1 q1=>⟨by rw [Paired.length q1];exact hz,λp hp=>by
  obtain ⟨h1,h2,h3⟩:=a.free g1 hp
  exact k p vs F1 _ (g1.newH hp) h1 h2 upd_same q1⟩
theorem zgT {tr:TA} (h:EvA Γ tr m ds) (hz:ds.length≤sizeLine):Ev Γ (zpo tr) m (dT ds):=λF0 Hb F H σ own Q a k =>
 h F0 Hb F H σ own _ a λvs F1 H1 g1 q1=>⟨by rw [Paired.length q1];exact hz,λp hp=>by
  obtain ⟨h1,h2,h3⟩:=a.free g1 hp
  exact k (.ref p) _ _ (g1.new hp) ⟨p,vs,rfl,zdV h3 upd_same,pr_up (ds:=[]) (part_up (Same.new h2 _)) q1⟩⟩
theorem zc2 {tr:TA} (h:EvA Γ tr m []):EvO Γ (zoj tr) m []:=zdX h (Nat.zero_le _)
theorem zey {R:V->Ds->Prop} {vs:List V} {ds:List Ds} {i:Int} {d:Ds} (h:Paired R vs ds) (e:atI ds i=some d):∃ v,atI vs i=some v∧R v d:=by
 unfold atI at e ⊢
 rw [Paired.length h]
 cases q:ixN ds.length i with
 | none=>rw [q] at e;cases e
 | some j =>
  rw [q] at e
  obtain ⟨v,e1,r⟩:=zaF h (show ds[j]?=some d from e)
  exact ⟨v,e1,r⟩
theorem zjm {α β:Type} {f:α->β} {xs:List α} {i:Int} {x:α} (e:atI xs i=some x):atI (xs.map f) i=some (f x):=by
 unfold atI at e ⊢
 rw [List.length_map]
 cases q:ixN xs.length i with
 | none=>rw [q] at e;cases e
 | some j =>
  rw [q] at e
  have e':xs[j]?=some x:=e
  show (xs.map f)[j]?=_
  rw [List.getElem?_map,e']
  rfl
theorem zoX {i:Int} (h1:Ev Γ ta m (dQ K ds)) (h2:Ev Γ tb false (dI i)) (e:atI ds i=some d):Ev Γ (tOp (zmB K) ta tb) m d:=λF0 Hb F H σ own Q a k =>
 h1 F0 Hb F H σ own _ a λu F1 H1 g1 ⟨p,vs,e1,e2,e3⟩=>h2 F0 Hb F1 H1 σ own _ (a.grow g1) λv F2 H2 g2 q2=>by
  obtain ⟨x,ex,rx⟩:=zey e3 e
  exact ⟨p,vs,i,x,e1,q2,(part_sub.trans (g2.f.trans g2.fh)).seq e2,ex,k x F2 H2 (g1.trans g2) (d.up (part_up g2.f) rx)⟩
theorem zcz {i:Int} (h1:Ev Γ ta m (dT ds)) (h2:Ev Γ tb false (dI i)) (e:atI ds i=some d):Ev Γ (tOp (zow K) ta tb) m d:=λF0 Hb F H σ own Q a k =>
 h1 F0 Hb F H σ own _ a λu F1 H1 g1 ⟨p,vs,e1,e2,e3⟩=>h2 F0 Hb F1 H1 σ own _ (a.grow g1) λv F2 H2 g2 q2=>by
  obtain ⟨x,ex,rx⟩:=zey e3 e
  exact ⟨p,vs,i,x,e1,q2,.inl (.inl ((part_sub.trans (g2.f.trans g2.fh)) _ _ e2)),ex,k x F2 H2 (g1.trans g2) (d.up (part_up g2.f) rx)⟩
theorem zm5 {t:TE} (h1:Ev Γ t false (dQ K ds)):Ev Γ (tCB (λxs H Q=>∃ p ys,xs=[.ref p]∧(SqL K H p ys∨SqT K H p ys)∧Q (.int ys.length) H) (tCons t tNil)) m (dI ds.length):=λF0 Hb F H σ own Q a k =>
 h1 F0 Hb F H σ own _ a λu F1 H1 g1 ⟨p,vs,e1,e2,e3⟩=>⟨p,vs,by rw [e1],.inl (g1.fh.seq e2),k _ F1 H1 g1 (by show V.int _=_;rw [Paired.length e3])⟩
theorem zer {t:TE} (h1:Ev Γ t m (dQ K ds)):EvO Γ (tCB (λxs H Q=>∃ p ys,xs=[.ref p]∧(SqL K H p ys∨SqT K H p ys)∧∀ l,H l=none->Q (.ref l) (upd H l (.lst ys))) (tCons t tNil)) m ds:=λF0 Hb F H σ own Q a k =>
 h1 F0 Hb F H σ own _ a λu F1 H1 g1 ⟨p,vs,e1,e2,e3⟩=>⟨p,vs,by rw [e1],.inl ((part_sub.trans g1.fh).seq e2),λl hl=>by
  obtain ⟨h1,h2,h3⟩:=a.free g1 hl
  exact k l vs F1 _ (g1.newH hl) h1 h2 upd_same e3⟩
theorem zdh:EvP Γ zjf none:=λF0 Hb F H σ own Q a k=>k F H (Grow.refl a.fh)
theorem zbE {i:Int} (h:Ev Γ t false (dI i)):EvP Γ (znu t) (some i):=λF0 Hb F H σ own Q a k=>h F0 Hb F H σ own _ a λv F' H' g q=>⟨i,q,k F' H' g⟩
def cutD {α:Type} (xs:List α) (lo hi:Option Int):List α:=(xs.drop (HT.sIx xs.length 0 lo)).take (HT.sIx xs.length xs.length hi-HT.sIx xs.length 0 lo)
theorem zkx {α β:Type} {f:α->β} {xs:List α} {lo hi:Option Int}:(cutD xs lo hi).map f=cutD (xs.map f) lo hi:=by
 unfold cutD;rw [List.map_take,List.map_drop,List.length_map]
theorem znH {tl th:TO} {lo hi:Option Int} (h1:Ev Γ t m (dQ K ds)) (h2:EvP Γ tl lo) (h3:EvP Γ th hi):EvO Γ (tSl (zoc K) t tl th) m (cutD ds lo hi):=λF0 Hb F H σ own Q a k =>
 h1 F0 Hb F H σ own _ a λu F1 H1 g1 ⟨p,vs,e1,e2,e3⟩=>h2 F0 Hb F1 H1 σ own _ (a.grow g1) λF2 H2 g2=>h3 F0 Hb F2 H2 σ own _ ((a.grow g1).grow g2) λF3 H3 g3 =>
  ⟨p,vs,e1,(part_sub.trans (g1.fh.trans (g2.h.trans g3.h))).seq e2,λl hl=>by
   have g:=g1.trans (g2.trans g3)
   obtain ⟨h1,h2,h3⟩:=a.free g hl
   refine k l _ F3 _ (g.newH hl) h1 h2 upd_same ?_
   unfold zmD cutD
   rw [Paired.length e3]
   exact paired_take _ (zeY _ (pr_up (ds:=[]) (part_up (g2.f.trans g3.f)) e3))⟩
theorem zmL {es:List Ds} (h1:Ev Γ ta m (dL ds)) (h2:Ev Γ tb m (dL es)) (hz:ds.length+es.length≤sizeLine):EvO Γ (tOp zo2 ta tb) m (ds++es):=λF0 Hb F H σ own Q a k =>
 h1 F0 Hb F H σ own _ a λu F1 H1 g1 ⟨p,vs,e1,e2,e3⟩=>h2 F0 Hb F1 H1 σ own _ (a.grow g1) λv F2 H2 g2 ⟨q,ws,f1,f2,f3⟩ =>
  ⟨p,q,vs,ws,e1,f1,(part_sub.trans (g2.f.trans g2.fh)) _ _ e2,(part_sub.trans g2.fh) _ _ f2,by rw [Paired.length e3,Paired.length f3];exact hz,λl hl=>by
   have g:=g1.trans g2
   obtain ⟨h1,h2,h3⟩:=a.free g hl
   exact k l _ F2 _ (g.newH hl) h1 h2 upd_same (zbF (pr_up (ds:=[]) (part_up g2.f) e3) f3)⟩
theorem znw {n:Int} (h1:Ev Γ ta m (dL ds)) (h2:Ev Γ tb false (dI n)) (hn:-(2^63)≤n∧n<2^63) (hz:ds.length*n.toNat≤sizeLine):EvO Γ (tOp zor ta tb) m (List.replicate n.toNat ds).flatten:=λF0 Hb F H σ own Q a k =>
 h1 F0 Hb F H σ own _ a λu F1 H1 g1 ⟨p,vs,e1,e2,e3⟩=>h2 F0 Hb F1 H1 σ own _ (a.grow g1) λv F2 H2 g2 q2 =>
  ⟨p,n,vs,e1,q2,(part_sub.trans (g2.f.trans g2.fh)) _ _ e2,hn.1,hn.2,by rw [Paired.length e3];exact hz,λl hl=>by
   have g:=g1.trans g2
   obtain ⟨h1,h2,h3⟩:=a.free g hl
   exact k l _ F2 _ (g.newH hl) h1 h2 upd_same (paired_rep (pr_up (ds:=[]) (part_up g2.f) e3) _)⟩
theorem znK {x y:Int} {tr:TA} (h:EvA Γ tr false [dI x,dI y]):Ev Γ (tCB (λxs H Q=>∃ i j,xs=[.int i,.int j]∧Q (.int (if j<i then j else i)) H) tr) m (dI (min x y)):=λF0 Hb F H σ own Q a k =>
 h F0 Hb F H σ own _ a λvs F1 H1 g1 q=>by
  cases q with | cons q1 q=>cases q with | cons q2 q=>cases q;cases q1;cases q2;exact ⟨x,y,rfl,k _ F1 H1 g1 (by show V.int _=V.int _;congr 1;omega)⟩
theorem ziQ {x y:Int} {tr:TA} (h:EvA Γ tr false [dI x,dI y]):Ev Γ (tCB (λxs H Q=>∃ i j,xs=[.int i,.int j]∧Q (.int (if j > i then j else i)) H) tr) m (dI (max x y)):=λF0 Hb F H σ own Q a k =>
 h F0 Hb F H σ own _ a λvs F1 H1 g1 q=>by
  cases q with | cons q1 q=>cases q with | cons q2 q=>cases q;cases q1;cases q2;exact ⟨x,y,rfl,k _ F1 H1 g1 (by show V.int _=V.int _;congr 1;omega)⟩
theorem ziO {b:Bool} {tr:TA} (h:EvA Γ tr false [dB b]):Ev Γ (tCB (λxs H Q=>(∃ i,xs=[.int i]∧Q (.int i) H)∨∃ k,xs=[.bl k]∧Q (.int (if k then 1 else 0)) H) tr) m (dI (if b then 1 else 0)):=λF0 Hb F H σ own Q a k =>
 h F0 Hb F H σ own _ a λvs F1 H1 g1 q=>by
  cases q with | cons q1 q=>cases q;cases q1;exact .inr ⟨b,rfl,k _ F1 H1 g1 rfl⟩
theorem zfk {f:α->V} {R:Hp} {xs:List α}:∀ {vs:List V},Paired (λv (d:Ds)=>d.pr R v) vs (xs.map λx=>dV (f x))->vs=xs.map f:=by
 induction xs with
 | nil=>intro vs h;cases h;rfl
 | cons x xs ih=>intro vs h;cases h with | cons h1 h2=>rw [ih h2,h1];rfl
theorem zdU {H:Hp} {f:Str} {d:Ds}:∀ {vs:List (Str×V)} {fs:List (Str×Ds)},Paired (λ(a:Str×V) (b:Str×Ds)=>a.1=b.1∧b.2.pr H a.2) vs fs->fs.lookup f=some d->∃ v,vs.lookup f=some v∧d.pr H v
 | _,_,.nil,e=>by cases e
 | _,_,.cons (a:=(x,v)) (b:=(y,d')) ⟨h1,h2⟩ t,e=>by
  have h1:x=y:=h1
  subst h1
  simp only [List.lookup_cons] at e ⊢
  cases q:f == x with
  | true=>rw [q] at e;cases e;exact ⟨v,rfl,h2⟩
  | false=>rw [q] at e;exact zdU t e
theorem zdo {C:Addr} {fs:List (Str×Ds)} {f:Str} (h1:Ev Γ ta m (dO C fs)) (c:Cls K C) (nf:NoAttr K C f) (e:fs.lookup f=some d):Ev Γ (tFld K ta f) m d:=λF0 Hb F H σ own Q a k =>
 h1 F0 Hb F H σ own _ a λu F1 H1 g1 ⟨p,dx,vs,e1,e2,e3,e4⟩=>by
  obtain ⟨v,ev,qv⟩:=zdU e4 e
  exact ⟨p,C,dx,vs,v,e1,(part_sub.trans g1.fh) _ _ e2,c,nf,ev,k v F1 H1 g1 qv⟩
inductive Rs where
 | va (m:Bool) (d:Ds)
 | ow (m:Bool) (ds:List Ds)
 | ex (C:Addr)
def Spv {ι:Type} (args:ι->List Ds) (pre:ι->Prop) (res:ι->Rs):Sp:=λvs H Q E=>∃ (x:ι) (F:Hp),Same F H∧Paired (λv (d:Ds)=>d.pr F v) vs (args x)∧pre x∧match res x with
 | .ex C=>∀ dct F' H',Grow F H F' H'->E (.ref C) dct H'
 | .va m d=>∀ v F' H',Grow F H F' H'->d.pr (part m F' H) v->Q v H'
 | .ow m ds=>∀ p ws F' H',Grow F H F' H'->H p=none->F' p=none->H' p=some (.lst ws)->Paired (λv (d:Ds)=>d.pr (part m F' H) v) ws ds->Q (.ref p) H'
theorem zfU {m:Bool} {F Hb H:Hp} (e:Same Hb H):Same (part m F H) (part m F Hb):=by
 cases m with
 | true=>exact ziW e
 | false=>exact Same.refl _
theorem zal {ι:Type} {args:ι->List Ds} {pre:ι->Prop} {res:ι->Rs} {tr:TA} {E:XK} (x:ι) (h:EvA Γ tr false ds) (ha:ds=args x) (hp:pre x) (hr:res x=.va m d):Ev Γ (tCall (Spv args pre res) [] E tr) m d:=λF0 Hb F H σ own Q a k=>by
 subst ha
 refine h F0 Hb F H σ own _ a λvs F1 H1 g1 q1=>⟨x,F1,g1.fh,by rw [List.append_nil];exact q1,hp,?_⟩
 rw [hr]
 exact λv F' H' g q=>k v F' H' (g1.trans g) (d.up (zfU (a.g.h.trans g1.h)) q)
theorem zbH {ι:Type} {args:ι->List Ds} {pre:ι->Prop} {res:ι->Rs} {tr:TA} {E:XK} (x:ι) (h:EvA Γ tr false es) (ha:es=args x) (hp:pre x) (hr:res x=.ow m ds):EvO Γ (tCall (Spv args pre res) [] E tr) m ds:=λF0 Hb F H σ own Q a k=>by
 subst ha
 refine h F0 Hb F H σ own _ a λvs F1 H1 g1 q1=>⟨x,F1,g1.fh,by rw [List.append_nil];exact q1,hp,?_⟩
 rw [hr]
 exact λp ws F' H' g h1 h2 h3 q=>k p ws F' H' (g1.trans g) (g1.h.free h1) h2 h3 (pr_up (ds:=[]) (zfU (a.g.h.trans g1.h)) q)
end
end L2
namespace L2
open PySem PySem.Spec PyProof.Rows
def zom:List Nat->List V->St->St
 | j :: js,v :: vs,σ=>zom js vs (σ.set j (some v))
 | _,_,σ=>σ
def zjA:List Nat->List Ds->Bool->Ctx->Ctx
 | j :: js,d :: ds,m,Γ=>zjA js ds m (Γ.set j (.va m d))
 | _,_,_,Γ=>Γ
theorem At.setMany {F0 Hb F H:Hp} {own:Nat->Option Addr} {m:Bool}:∀ {js:List Nat} {vs:List V} {ds:List Ds} {σ:St} {Γ:Ctx},At F0 Hb F H σ own Γ->Paired (λv (d:Ds)=>d.pr (part m F Hb) v) vs ds →
  At F0 Hb F H (zom js vs σ) own (zjA js ds m Γ)
 | [],_,_,_,_,a,.nil=>a
 | [],_,_,_,_,a,.cons _ _=>a
 | _ :: _,_,_,_,_,a,.nil=>a
 | j :: js,_,_,_,_,a,.cons h t=>At.setMany (js:=js) (a.set j h) t
theorem At.unset {F0 Hb F H:Hp} {own:Nat->Option Addr} {σ:St} {Γ:Ctx} {j:Nat} {s:Slot} (a:At F0 Hb F H σ own (Γ.set j s)) (h:Γ[j]?=some .no):At F0 Hb F H σ own Γ :=
 ⟨a.g,a.inj,a.liv,λi r e=>by
  by_cases z:j=i
  ·subst z;rw [h] at e;cases e;trivial
  ·exact a.sl i r (by rw [List.getElem?_set_ne z];exact e),by rw [a.len];simp⟩
theorem At.unsetMany {F0 Hb F H:Hp} {own:Nat->Option Addr} {σ:St} {m:Bool}:∀ {js:List Nat} {ds:List Ds} {Γ:Ctx},At F0 Hb F H σ own (zjA js ds m Γ)->(∀ j∈js,Γ[j]?=some .no)->js.Nodup->At F0 Hb F H σ own Γ
 | [],[],_,a,_,_=>a
 | [],_ :: _,_,a,_,_=>a
 | _ :: _,[],_,a,_,_=>a
 | j :: js,d :: ds,Γ,a,h,hn=>by
  have hn:=List.nodup_cons.mp hn
  refine At.unset (At.unsetMany (js:=js) (ds:=ds) (Γ:=Γ.set j (.va m d)) a (λi hi=>?_) hn.2) (h j List.mem_cons_self)
  rw [List.getElem?_set_ne (λ(z:j=i)=>hn.1 (by rw [z];exact hi))]
  exact h i (List.mem_cons_of_mem _ hi)
def zmX {γ:Type} (Hb F:Hp) (J:It) (g:TG) (js:List Nat) (xs:List γ) (bds:γ->List Ds) (m:Bool):Prop:=∀ H,Same F H->J.stop xs.length H∧∀ i x,xs[i]?=some x->J.go i H ∧
 ∀ v H',J.yld i H v H'->Grow F H F H'∧∀ (σ:St) (Q:St->Hp->Prop),(∀ vs,Paired (λv (d:Ds)=>d.pr (part m F Hb) v) vs (bds x)->Q (zom js vs σ) H')->g v σ H' Q
def Iv {γ:Type} (Γ:Ctx) (wi:TI) (g:TG) (js:List Nat) (xs:List γ) (bds:γ->List Ds) (m:Bool):Prop:=∀ (F0 Hb F H:Hp) (σ:St) (own:Nat->Option Addr) (R:It->Hp->Prop),At F0 Hb F H σ own Γ →
 (∀ J F' H',Grow F H F' H'->zmX Hb F' J g js xs bds m->R J H')->wi σ H R
section
variable {Γ:Ctx} {m:Bool} {K:W.Frag} {γ δ:Type}
theorem zmX.up {Hb F F':Hp} {J:It} {g:TG} {js:List Nat} {xs:List γ} {bds:γ->List Ds} (h:zmX Hb F J g js xs bds m) (e:Same F F'):zmX Hb F' J g js xs bds m:=λH hs=>by
 obtain ⟨h1,h2⟩:=h H (e.trans hs)
 refine ⟨h1,λi x ex=>?_⟩
 obtain ⟨h3,h4⟩:=h2 i x ex
 refine ⟨h3,λv H' y=>?_⟩
 obtain ⟨h5,h6⟩:=h4 v H' y
 exact ⟨⟨Same.refl _,hs.trans h5.h,h5.h,λ_ _ z=>z⟩,λσ Q k=>h6 σ Q λvs q=>k vs (pr_up (ds:=[]) (part_up e) q)⟩
theorem zaX {tl:TE} {j:Nat} {xs:List γ} (f:γ->Ds) (h:Ev Γ tl m (dQ K (xs.map f))):Iv Γ (zkP K tl) (zcb j) [j] xs (λx=>[f x]) m:=λF0 Hb F H σ own R a k =>
 h F0 Hb F H σ own _ a λu F1 H1 g1 ⟨p,vs,e1,e2,e3⟩=>by
  have e2':SqL K F1 p vs:=part_sub.seq e2
  refine ⟨p,e1,⟨vs,g1.fh.seq e2'⟩,k _ F1 H1 g1 λH hs=>⟨⟨vs,hs.seq e2',by rw [Paired.length e3,List.length_map];exact Nat.le_refl _⟩,λi x ex=>?_⟩⟩
  obtain ⟨v,ev,qv⟩:=zaF e3 (show (xs.map f)[i]?=some (f x) by rw [List.getElem?_map,ex];rfl)
  refine ⟨⟨vs,v,hs.seq e2',ev⟩,λw H' y=>?_⟩
  obtain ⟨rfl,y⟩:=y
  have:=y vs (hs.seq e2')
  rw [ev] at this
  cases this
  exact ⟨Grow.refl hs,λσ Q k=>k [v] (.cons qv .nil)⟩
def za5 (lo:Int) (n:Nat):List Int:=(List.range n).map λ(i:Nat)=>lo+(i:Int)
theorem zaH {lo:Int} {n:Nat}:(za5 lo n).length=n:=by simp [za5]
theorem zbq {lo:Int} {n i:Nat} {x:Int} (h:(za5 lo n)[i]?=some x):i<n∧x=lo+i:=by
 unfold za5 at h
 rw [List.getElem?_map] at h
 by_cases z:i<n
 ·rw [List.getElem?_range z] at h
  exact ⟨z,(Option.some.inj h).symm⟩
 ·rw [List.getElem?_eq_none (by simp;omega)] at h;cases h
theorem mem_rngZ {lo:Int} {n:Nat} {x:Int}:x∈za5 lo n ↔ lo≤x∧x<lo+n:=by
 unfold za5
 rw [List.mem_map]
 constructor
 ·rintro ⟨i,hi,rfl⟩;have:=List.mem_range.mp hi;omega
 ·intro h;exact ⟨(x-lo).toNat,List.mem_range.mpr (by omega),by omega⟩
theorem zmY {Hb F:Hp} {lo:Int} {n j:Nat}:zmX Hb F (Itr lo n) (zcb j) [j] (za5 lo n) (λx=>[dI x]) m:=λH hs =>
 ⟨by show n≤_;rw [zaH];exact Nat.le_refl _,λi x ex=>by
  obtain ⟨hi,rfl⟩:=zbq ex
  refine ⟨hi,λv H' y=>?_⟩
  obtain ⟨rfl,rfl⟩:=y
  exact ⟨Grow.refl hs,λσ Q k=>k [_] (.cons rfl .nil)⟩⟩
theorem zdj {t:TE} {j:Nat} {n:Int} (h:Ev Γ t false (dI n)) (hn:-(2^62)≤n∧n<2^62):Iv Γ (znA (tCons t tNil)) (zcb j) [j] (za5 0 n.toNat) (λx=>[dI x]) m:=λF0 Hb F H σ own R a k =>
 h F0 Hb F H σ own _ a λu F1 H1 g1 q1=>⟨n,by rw [q1],hn.1,hn.2,k _ F1 H1 g1 zmY⟩
theorem za6 {α β:Type} {xs:List α} {ys:List β} {i:Nat} {p:α×β} (h:(xs.zip ys)[i]?=some p):xs[i]?=some p.1∧ys[i]?=some p.2:=by
 rw [List.getElem?_zip_eq_some] at h;exact h
theorem zdI {ta tb:TE} {j1 j2:Nat} {xs:List γ} {ys:List δ} (f1:γ->Ds) (f2:δ->Ds) (h1:Ev Γ ta m (dQ K (xs.map f1))) (h2:Ev Γ tb m (dQ K (ys.map f2))) :
  Iv Γ (zoN K (tCons ta (tCons tb tNil))) (zmC K 2 (zd9 (zcb j1) (zd9 (zcb j2) znI))) [j1,j2] (xs.zip ys) (λx=>[f1 x.1,f2 x.2]) m:=λF0 Hb F H σ own R a k =>
 h1 F0 Hb F H σ own _ a λu F1 H1 g1 ⟨p,vs,e1,e2,e3⟩=>h2 F0 Hb F1 H1 σ own _ (a.grow g1) λu' F2 H2 g2 ⟨q,ws,d1,d2,d3⟩=>by
  have e2':SqL K F2 p vs:=g2.f.seq (part_sub.seq e2)
  have d2':SqL K F2 q ws:=part_sub.seq d2
  have e3':=pr_up (ds:=[]) (part_up (m:=m) (Hb:=Hb) g2.f) e3
  have le:=Paired.length e3
  have ld:=Paired.length d3
  rw [List.length_map] at le ld
  refine ⟨p,q,by rw [e1,d1],⟨vs,g2.fh.seq e2'⟩,⟨ws,g2.fh.seq d2'⟩,k _ F2 H2 (g1.trans g2) λH hs=>⟨⟨vs,ws,hs.seq e2',hs.seq d2',by rw [le,ld,List.length_zip];omega⟩,λi x ex=>?_⟩⟩
  obtain ⟨x1,x2⟩:=za6 ex
  obtain ⟨v,ev,qv⟩:=zaF e3' (show (xs.map f1)[i]?=some (f1 x.1) by rw [List.getElem?_map,x1];rfl)
  obtain ⟨w,ew,qw⟩:=zaF d3 (show (ys.map f2)[i]?=some (f2 x.2) by rw [List.getElem?_map,x2];rfl)
  refine ⟨⟨vs,ws,v,w,hs.seq e2',hs.seq d2',ev,ew⟩,λz H' y=>?_⟩
  obtain ⟨r,x',y',rfl,hr,rfl,hxy⟩:=y
  obtain ⟨hx,hy⟩:=hxy vs ws (hs.seq e2') (hs.seq d2')
  rw [ev] at hx;rw [ew] at hy
  cases hx;cases hy
  exact ⟨(Grow.refl hs).newH hr,λσ Q k=>⟨r,_,rfl,.inl (.inl upd_same),rfl,_,_,rfl,_,_,rfl,rfl,k [v,w] (.cons qv (.cons qw .nil))⟩⟩
def zoe:Option Slot->Slot
 | some (.va m d)=>.va m d
 | _=>.no
def zgU (own:Nat) (fv:List Nat) (Γ:Ctx):Ctx:=List.replicate own .no++fv.map λi=>zoe Γ[i]?
theorem At.block {F0 Hb F H:Hp} {own:Nat->Option Addr} {σ:St} (a:At F0 Hb F H σ own Γ) (k:Nat) (fv:List Nat):At F0 Hb F H (zeK k fv σ) (λ_=>none) (zgU k fv Γ):=by
 refine ⟨a.g,λ_ _ _ h=>(by cases h),λ_ _ h=>(by cases h),λi s e=>?_,?_⟩
 ·unfold zgU at e
  unfold zeK
  by_cases hi:i<k
  ·rw [List.getElem?_append_left (by simpa using hi),List.getElem?_replicate,if_pos hi] at e
   cases e;trivial
  ·rw [List.getElem?_append_right (by simpa using hi),List.length_replicate,List.getElem?_map] at e
   rw [List.getElem?_append_right (by simpa using hi),List.length_replicate,List.getElem?_map]
   cases q:fv[i-k]? with
   | none=>rw [q] at e;cases e
   | some j =>
    rw [q] at e
    have e':zoe Γ[j]?=s:=Option.some.inj e
    subst e'
    show zdY Hb F H (λ_=>none) _ ((σ[j]?).join) (zoe Γ[j]?)
    cases z:Γ[j]? with
    | none=>trivial
    | some r =>
     cases r with
     | no=>trivial
     | va m d=>exact (show zdY Hb F H own j _ (.va m d) from a.sl j _ z)
     | ow m ds=>trivial
     | ob m C p dx fs=>trivial
     | ol p ds=>trivial
     | tl d=>trivial
 ·unfold zeK zgU;simp
theorem ziG {k:Nat} {fv:List Nat} {j:Nat} {d:Ds} (e:(zgU k fv Γ)[j]?=some (.tl d)):False:=by
 unfold zgU at e
 have:=List.mem_of_getElem? e
 rcases List.mem_append.mp this with q | q
 ·cases (List.mem_replicate.mp q).2
 ·obtain ⟨l,_,q⟩:=List.mem_map.mp q
  unfold zoe at q
  split at q<;>cases q
theorem evt_noif:EvT Γ tNoIf true:=λF0 Hb F H σ own Q a k=>k F H (Grow.refl a.fh)
theorem zgS {xs:List γ} {i:Nat} {x:γ} (h:xs[i]?=some x):xs.take (i+1)=xs.take i++[x]:=by
 rw [List.take_succ,h];rfl
theorem ziZ {own:Nat} {fv:List Nat} {wi:TI} {tg:TG} {tt:TTs} {te:TE} {js:List Nat} {xs:List γ} {bds:γ->List Ds} {mi:Bool} {c:γ->Bool} {g:γ->Ds} (it:Iv Γ wi tg js xs bds mi) (hz:xs.length≤sizeLine) (hj:(∀ j∈js,j<own)∧js.Nodup)
  (ht:∀ (i:Nat) (x:γ),xs[i]?=some x->EvT (zjA js (bds x) mi (zgU own fv Γ)) tt (c x)) (he:∀ (i:Nat) (x:γ),xs[i]?=some x->c x=true->Ev (zjA js (bds x) mi (zgU own fv Γ)) te m (g x)):EvO Γ (ziJ own fv wi tg tt te) m ((xs.filter c).map g):=λF0 Hb F H σ ow Q a k =>
 it F0 Hb F H σ ow _ a λJ F1 H1 g1 ok D hD=>by
  have hno:∀ j∈js,(zgU own fv Γ)[j]?=some .no:=λj hj'=>by
   have:=hj.1 j hj'
   unfold zgU
   rw [List.getElem?_append_left (by simpa using this),List.getElem?_replicate,if_pos this]
  obtain ⟨hD0,hDF,hDb⟩:=a.free g1 hD
  refine ⟨λi mm ys σb H2=>mm=xs.length-i∧i≤xs.length∧ys.length≤i∧∃ F2,Grow F1 H1 F2 H2∧F2 D=none∧H2 D=some (.lst ys)∧Paired (λv (d:Ds)=>d.pr (part m F2 Hb) v) ys (((xs.take i).filter c).map g)∧At F0 Hb F2 H2 σb (λ_=>none) (zgU own fv Γ),
   ⟨_,rfl,Nat.zero_le _,Nat.zero_le _,F1,(Grow.refl g1.fh).newH hD,hDF,upd_same,by simpa using Paired.nil,((a.grow g1).block own fv).grow ((Grow.refl g1.fh).newH hD)⟩,?_⟩
  rintro i mm ys σb H2 ⟨rfl,hi,hy,F2,g2,hF2,hH2,hP,a2⟩
  refine ⟨hH2,?_⟩
  obtain ⟨hstop,hitem⟩:=ok.up g2.f H2 g2.fh
  by_cases hlt:i<xs.length
  ·obtain ⟨go,yl⟩:=hitem i xs[i] (List.getElem?_eq_getElem hlt)
   refine .inr ⟨go,λx H' y=>?_⟩
   obtain ⟨g3,bind⟩:=yl x H' y
   refine bind σb _ λvs hvs=>?_
   have a3:=(a2.grow g3).setMany (js:=js) hvs
   have hx:xs[i]?=some xs[i]:=List.getElem?_eq_getElem hlt
   refine ht i _ hx F0 Hb F2 H' _ _ _ a3 λF4 H4 g4=>?_
   have tk:=zgS hx
   have gD:∀ {F5 H5:Hp},Grow F2 H2 F5 H5->F5 D=none∧H5 D=some (.lst ys):=λg=>⟨g.no D (by rw [hH2];simp) hF2,g.h _ _ hH2⟩
   cases hc:c xs[i] with
   | true =>
    rw [if_pos rfl]
    refine he i _ hx hc F0 Hb F4 H4 _ _ _ (a3.grow g4) λv F5 H5 g5 q5=>?_
    have g25:=g3.trans (g4.trans g5)
    obtain ⟨n1,n2⟩:=gD g25
    have sD:Same H5 H5:=Same.refl _
    have n3:H1 D=none:=hD
    refine ⟨n2,by omega,xs.length-(i+1),by omega,rfl,hlt,by simp;omega,F5,?_,n1,upd_same,?_,?_⟩
    ·exact (g2.trans g25).setH n1 n3
    ·rw [tk,List.filter_append,List.map_append]
     refine zbF (pr_up (ds:=[]) (part_up g25.f) hP) ?_
     rw [List.filter_cons,hc]
     exact .cons q5 .nil
    ·have a5:=((a3.grow g4).grow g5).unsetMany hno hj.2
     refine ⟨a5.g.setH n1 hDb,a5.inj,λ_ _ h=>(nomatch h),λj s es=>?_,a5.len⟩
     ·have:=a5.sl j s es
      cases s with
      | no=>trivial
      | va m d=>exact this
      | ow m ds=>obtain ⟨_,_,_,h,_⟩:=this;exact (nomatch h)
      | ob m C p dx fs=>obtain ⟨_,_,h,_⟩:=this;exact (nomatch h)
      | ol p ds=>obtain ⟨_,_,h,_⟩:=this;exact (nomatch h)
      | tl d=>exact (ziG es).elim
   | false =>
    rw [if_neg Bool.false_ne_true]
    have g25:=g3.trans g4
    obtain ⟨n1,n2⟩:=gD g25
    refine ⟨xs.length-(i+1),by omega,rfl,hlt,by omega,F4,g2.trans g25,n1,n2,?_,(a3.grow g4).unsetMany hno hj.2⟩
    rw [tk,List.filter_append,List.map_append,List.filter_cons,hc]
    simpa using pr_up (ds:=[]) (part_up g25.f) hP
  ·have e:i=xs.length:=by omega
   subst e
   rw [List.take_length] at hP
   exact .inl ⟨hstop,k D ys F2 H2 (g1.trans g2) hD0 hF2 hH2 hP⟩
theorem zbJ {own:Nat} {fv:List Nat} {wi:TI} {tg:TG} {te:TE} {js:List Nat} {xs:List γ} {bds:γ->List Ds} {mi:Bool} {g:γ->Ds} (it:Iv Γ wi tg js xs bds mi) (hz:xs.length≤sizeLine) (hj:(∀ j∈js,j<own)∧js.Nodup)
  (he:∀ (i:Nat) (x:γ),xs[i]?=some x->Ev (zjA js (bds x) mi (zgU own fv Γ)) te m (g x)):EvO Γ (ziJ own fv wi tg tNoIf te) m (xs.map g):=by
 have:=ziZ (c:=λ_=>true) it hz hj (λ_ _ _=>evt_noif) (λi x hx _=>he i x hx)
 rwa [show xs.filter (λ_=>true)=xs from List.filter_eq_self.mpr λ_ _=>rfl] at this
end
inductive Oc where
 | nx (Γ:Ctx)
 | rt (m:Bool) (d:Ds)
 | rl (m:Bool) (ds:List Ds)
 | bk (Γ:Ctx)
 | ct (Γ:Ctx)
 | ex (C:Addr) (Γ:Ctx)
 | rw (Γ:Ctx) (d:Ds)
def zeF (E:XS) (F0 Hb:Hp) (D:Ends):Oc->Prop
 | .ex C Γ=>∀ dct F H σ own,At F0 Hb F H σ own Γ->E σ (.ref C) dct H
 | .rw Γ d=>∀ v F H σ own,At F0 Hb F H σ own Γ->d.pr F v->D.rt v H
 | .nx Γ=>∀ F H σ own,At F0 Hb F H σ own Γ->D.nx σ H
 | .bk Γ=>∀ F H σ own,At F0 Hb F H σ own Γ->D.bk σ H
 | .ct Γ=>∀ F H σ own,At F0 Hb F H σ own Γ->D.ct σ H
 | .rt m d=>∀ v F H,Grow F0 Hb F H->d.pr (part m F Hb) v->D.rt v H
 | .rl m ds=>∀ p vs F H,Grow F0 Hb F H->Hb p=none->F p=none->H p=some (.lst vs)->Paired (λv (d:Ds)=>d.pr (part m F Hb) v) vs ds->D.rt (.ref p) H
def Run (E:XS) (Γ:Ctx) (t:TS) (o:Oc):Prop:=∀ (F0 Hb F H:Hp) (σ:St) (own:Nat->Option Addr) (D:Ends),At F0 Hb F H σ own Γ->zeF E F0 Hb D o->t D σ H
def Let {α:Type} {β:Type} (a:α) (k:α->β):β:=k a
def loopR {σ:Type} {γ:Type} {β:Type} (f:σ->γ->σ ⊕ β):σ->List γ->σ ⊕ β
 | s,[]=>.inl s
 | s,x :: xs=>match f s x with | .inl s'=>loopR f s' xs | .inr b=>.inr b
section
variable {E:XS} {Γ Δ:Ctx} {m:Bool} {K:W.Frag} {γ β:Type} {te:TE} {t u:TS} {d:Ds} {ds:List Ds} {o:Oc} {i:Nat}
theorem zak (w:Wk Γ Δ):Run E Γ zkO (.nx Δ):=λF0 Hb F H σ own D a k=>k F H σ own (a.wk w)
theorem zap (h:Ev Γ te m d):Run E Γ (zkb te) (.rt m d):=λF0 Hb F H σ own D a k=>h F0 Hb F H σ own _ a λv F' H' g q=>k v F' H' (a.g.trans g) q
theorem zf0 (h:EvO Γ te m ds):Run E Γ (zkb te) (.rl m ds):=λF0 Hb F H σ own D a k=>h F0 Hb F H σ own _ a λp vs F' H' g h1 h2 h3 q=>k p vs F' H' (a.g.trans g) (a.g.h.free h1) h2 h3 q
theorem zfP (e:Γ[i]?=some (.ow m ds)):Run E Γ (zkb (tVar i)) (.rl m ds):=λF0 Hb F H σ own D a k=>by
 obtain ⟨p,vs,e1,e2,e3,e4,e5,e6⟩:=a.sl i _ e
 have hi:i<σ.length:=by rw [a.len];exact (List.getElem?_eq_some_iff.mp e).1
 rw [List.getElem?_eq_getElem hi] at e1
 have e':σ[i]=some (.ref p):=e1
 exact ⟨_,by rw [List.getElem?_eq_getElem hi,e'],k p vs F H a.g e4 e3 e5 e6⟩
theorem zeQ (h:Run E Γ (zkb te) o) (ho:∀ F0 Hb D D',D.rt=D'.rt->zeF E F0 Hb D o->zeF E F0 Hb D' o):Run E Γ (tSeq (zkb te) u) o:=λF0 Hb F H σ own D a k=>h F0 Hb F H σ own _ a (ho F0 Hb D { D with nx:=u D } rfl k)
theorem zah (h:Run E Γ (zkb te) (.rt m d)):Run E Γ (tSeq (zkb te) u) (.rt m d):=zeQ h λ_ _ _ _ e q v F H g p=>e ▸ q v F H g p
theorem zc1 (h:Run E Γ (zkb te) (.rl m ds)):Run E Γ (tSeq (zkb te) u) (.rl m ds):=zeQ h λ_ _ _ _ e q p vs F H g h1 h2 h3 h4=>e ▸ q p vs F H g h1 h2 h3 h4
theorem zaK (h:Ev Γ te m d) (k:Run E (Γ.set i (.va m d)) u o):Run E Γ (tSeq (zih te (zcb i)) u) o:=λF0 Hb F H σ own D a q =>
 h F0 Hb F H σ own _ a λv F' H' g p=>k F0 Hb F' H' _ own D ((a.grow g).set i p) q
theorem run_setO (h:EvO Γ te m ds) (k:Run E (Γ.set i (.ow m ds)) u o):Run E Γ (tSeq (zih te (zcb i)) u) o:=λF0 Hb F H σ own D a q =>
 h F0 Hb F H σ own _ a λp vs F' H' g h1 h2 h3 h4=>k F0 Hb F' H' _ _ D (a.setOwn g i h1 h2 h3 h4) q
theorem zaq {α:Type} {x:α} (f:α->Ds) (fo:β->Oc) {kk:α->β} (h:Ev Γ te m (f x)) (k:∀ y,y=x->Run E (Γ.set i (.va m (f y))) u (fo (kk y))):Run E Γ (tSeq (zih te (zcb i)) u) (fo (Let x kk)):=zaK h (k x rfl)
theorem run_letO {α:Type} {x:α} (f:α->List Ds) (fo:β->Oc) {kk:α->β} (h:EvO Γ te m (f x)) (k:∀ y,y=x->Run E (Γ.set i (.ow m (f y))) u (fo (kk y))):Run E Γ (tSeq (zih te (zcb i)) u) (fo (Let x kk)):=run_setO h (k x rfl)
theorem zgb (h:Ev Γ te m d) (k:Run E Γ u o):Run E Γ (tSeq (tDrop te) u) o:=λF0 Hb F H σ own D a q =>
 h F0 Hb F H σ own _ a λv F' H' g p=>k F0 Hb F' H' σ own D (a.grow g) q
theorem zc7 (e:Γ[i]?=some (.ow m ds)) (k:Run E (Γ.set i (.va m (dL ds))) t o):Run E Γ t o:=λF0 Hb F H σ own D a q=>by
 obtain ⟨F',own',_,a'⟩:=a.share e
 exact k F0 Hb F' H σ own' D a' q
theorem zax {α:Type} {tc:TT} {b:Bool} {x y:α} {r:TS} (fo:α->Oc) (h:EvT Γ tc b) (h1:b=true->Run E Γ (tSeq t r) (fo x)) (h2:b=false->Run E Γ (tSeq u r) (fo y)):Run E Γ (tSeq (zog tc t u) r) (fo (bif b then x else y)):=λF0 Hb F H σ own D a q =>
 h F0 Hb F H σ own _ a λF' H' g=>by
  cases b with
  | true=>rw [if_pos rfl];exact h1 rfl F0 Hb F' H' σ own D (a.grow g) q
  | false=>rw [if_neg Bool.false_ne_true];exact h2 rfl F0 Hb F' H' σ own D (a.grow g) q
theorem zcs {tc:TT} {r:TS} (h:EvT Γ tc false) (h1:Run E Γ (tSeq u r) o):Run E Γ (tSeq (zog tc t u) r) o:=λF0 Hb F H σ own D a q=>h F0 Hb F H σ own _ a λF' H' g=>by
 rw [if_neg Bool.false_ne_true];exact h1 F0 Hb F' H' σ own D (a.grow g) q
theorem zbR {tc:TT} {b:Bool} {r:TS} (G:Bool->Ctx) (h:EvT Γ tc b) (h1:b=true->Run E Γ t (.nx (G true))) (h2:b=false->Run E Γ u (.nx (G false))) (k:Run E (G b) r o):Run E Γ (tSeq (zog tc t u) r) o:=λF0 Hb F H σ own D a q =>
 h F0 Hb F H σ own _ a λF' H' g=>by
  cases b with
  | true=>rw [if_pos rfl];exact h1 rfl F0 Hb F' H' σ own _ (a.grow g) λF H σ own a'=>k F0 Hb F H σ own D a' q
  | false=>rw [if_neg Bool.false_ne_true];exact h2 rfl F0 Hb F' H' σ own _ (a.grow g) λF H σ own a'=>k F0 Hb F H σ own D a' q
theorem zaj (k:Run E Γ u o):Run E Γ (tSeq zkO u) o:=λF0 Hb F H σ own D a q=>k F0 Hb F H σ own D a q
theorem ziC {Δ:Ctx} (h:Run E Γ t (.nx Δ)) (k:Run E Δ u o):Run E Γ (tSeq t u) o:=λF0 Hb F H σ own D a q=>h F0 Hb F H σ own _ a λF H σ own a'=>k F0 Hb F H σ own D a' q
theorem zai {r:TS} (h:Run E Γ (tSeq t (tSeq u r)) o):Run E Γ (tSeq (tSeq t u) r) o:=λF0 Hb F H σ own D a q=>h F0 Hb F H σ own D a q
theorem zfK {F0 Hb F H:Hp} {σ:St} {own:Nat->Option Addr} (a:At F0 Hb F H σ own Γ) (e:Γ[i]?=some (.ow m ds)) :
  ∃ p vs,σ[i]?=some (some (.ref p))∧own i=some p∧F p=none∧Hb p=none∧H p=some (.lst vs)∧Paired (λv (d:Ds)=>d.pr (part m F Hb) v) vs ds:=by
 obtain ⟨p,vs,e1,e2,e3,e4,e5,e6⟩:=a.sl i _ e
 have hi:i<σ.length:=by rw [a.len];exact (List.getElem?_eq_some_iff.mp e).1
 rw [List.getElem?_eq_getElem hi] at e1
 have e':σ[i]=some (.ref p):=e1
 exact ⟨p,vs,by rw [List.getElem?_eq_getElem hi,e'],e2,e3,e4,e5,e6⟩
theorem zhZ {te:TE} (e:Γ[i]?=some (.ow m ds)) (h:Ev Γ te m d) (hz:ds.length<sizeLine) (k:Run E (Γ.set i (.ow m (ds++[d]))) u o):Run E Γ (tSeq (tDrop (tBM K "list" rAppend (tVar i) (tCons te tNil))) u) o:=λF0 Hb F H σ own D a q=>by
 obtain ⟨p,vs,e1,e2,e3,e4,e5,e6⟩:=zfK a e
 refine ⟨_,e1,.inl ⟨rfl,_,SqL.of e5⟩,?_⟩
 refine h F0 Hb F H σ own _ a λv F' H' g qv=>?_
 obtain ⟨p',vs',f1,f2,f3,f4,f5,f6⟩:=zfK (a.grow g) e
 rw [e1] at f1
 cases f1
 exact ⟨p,vs',v,rfl,rfl,f5,by rw [Paired.length f6];exact hz,k F0 Hb F' _ σ own D ((a.grow g).turn e e1 (zbF f6 (.cons qv .nil))) q⟩
theorem zko {tb:TE} {n:Bool} {j:Int} (e:Γ[i]?=some (.ow m ds)) (h2:Ev Γ tb false (dI j)) (ej:atI ds j=some d):Ev Γ (tOp (zmB K) (tVar i) tb) m d:=λF0 Hb F H σ own Q a k=>by
 obtain ⟨p,vs,e1,e2,e3,e4,e5,e6⟩:=zfK a e
 refine ⟨_,e1,h2 F0 Hb F H σ own _ a λv F' H' g qv=>?_⟩
 obtain ⟨x,ex,rx⟩:=zey e6 ej
 exact ⟨p,vs,j,x,rfl,qv,SqL.of (g.h _ _ e5),ex,k x F' H' g (d.up (part_up g.f) rx)⟩
theorem zjx {n:Bool} (e:Γ[i]?=some (.ow m ds)):Ev Γ (tCB (λxs H Q=>∃ p ys,xs=[.ref p]∧(SqL K H p ys∨SqT K H p ys)∧Q (.int ys.length) H) (tCons (tVar i) tNil)) n (dI ds.length):=λF0 Hb F H σ own Q a k=>by
 obtain ⟨p,vs,e1,e2,e3,e4,e5,e6⟩:=zfK a e
 exact ⟨_,e1,p,vs,rfl,.inl (SqL.of e5),k _ F H (Grow.refl a.fh) (by show V.int _=_;rw [Paired.length e6])⟩
theorem zjc {te tj:TE} {j:Int} {n:Nat} (e:Γ[i]?=some (.ow m ds)) (h:Ev Γ te m d) (hj:Ev Γ tj false (dI j)) (ej:ixN ds.length j=some n) (k:Run E (Γ.set i (.ow m (ds.set n d))) u o):Run E Γ (tSeq (zih te (zof (tVar i) tj zkZ)) u) o:=λF0 Hb F H σ own D a q=>by
 refine h F0 Hb F H σ own _ a λv F' H' g qv=>?_
 obtain ⟨p,vs,e1,e2,e3,e4,e5,e6⟩:=zfK (a.grow g) e
 refine ⟨_,e1,hj F0 Hb F' H' σ own _ (a.grow g) λw F2 H2 g2 qw=>?_⟩
 obtain ⟨p',vs',f1,f2,f3,f4,f5,f6⟩:=zfK ((a.grow g).grow g2) e
 rw [e1] at f1
 cases f1
 exact ⟨p,vs',j,n,rfl,qw,f5,by rw [Paired.length f6];exact ej,k F0 Hb F2 _ σ own D (((a.grow g).grow g2).turn e e1 (zfI (R:=λv (d:Ds)=>d.pr (part m F2 Hb) v) (d.up (part_up g2.f) qv) n f6)) q⟩
theorem zfD {S:Type} (f:S->γ->S ⊕ β):∀ (xs:List γ) (s:S) (i:Nat) (s':S),loopR f s (xs.take i)=.inl s'->∀ x,xs[i]?=some x->loopR f s (xs.take (i+1))=f s' x
 | [],_,_,_,_,_,h=>by simp at h
 | y :: ys,s,0,s',e,x,h=>by
  simp at h;subst h
  have e':s=s':=by simpa [loopR] using e
  subst e'
  show loopR f s [y]=_
  simp only [loopR]
  cases f s y<;>rfl
 | y :: ys,s,i+1,s',e,x,h=>by
  simp only [List.take_succ_cons,loopR] at e ⊢
  cases q:f s y with
  | inl s1=>rw [q] at e;exact zfD f ys s1 i s' e x (by simpa using h)
  | inr b=>rw [q] at e;cases e
theorem loopR_more {S:Type} (f:S->γ->S ⊕ β):∀ (xs:List γ) (s:S) (i:Nat) (b:β),loopR f s (xs.take i)=.inr b->loopR f s xs=.inr b
 | [],s,i,b,e=>by simpa using e
 | y :: ys,s,0,b,e=>by simp [loopR] at e
 | y :: ys,s,i+1,b,e=>by
  simp only [List.take_succ_cons,loopR] at e ⊢
  cases q:f s y with
  | inl s1=>rw [q] at e;exact loopR_more f ys s1 i b e
  | inr b'=>rw [q] at e;exact e
def zcw {S:Type} (G:S->Ctx) (res:β->Oc):S ⊕ β->Oc
 | .inl s=>.nx (G s)
 | .inr b=>res b
theorem Grow.rebase {F0 Hb F1 H1 F H:Hp} (g1:Grow F0 Hb F1 H1) (g:Grow F0 Hb F H) (e:Same F1 F):Grow F1 Hb F H :=
 ⟨e,g.fh,g.h,λa h1 h2=>g.no a h1 (g1.f.free h2)⟩
theorem Grow.unbase {F0 Hb F1 H1 F H:Hp} (g1:Grow F0 Hb F1 H1) (g:Grow F1 Hb F H):Grow F0 Hb F H :=
 ⟨g1.f.trans g.f,g.fh,g.h,λa h1 h2=>g.no a h1 (g1.no a h1 h2)⟩
theorem At.rebase {F0 Hb F1 H1 F H:Hp} {σ:St} {own:Nat->Option Addr} (g1:Grow F0 Hb F1 H1) (a:At F0 Hb F H σ own Γ) (e:Same F1 F):At F1 Hb F H σ own Γ:=⟨g1.rebase a.g e,a.inj,a.liv,a.sl,a.len⟩
theorem At.unbase {F0 Hb F1 H1 F H:Hp} {σ:St} {own:Nat->Option Addr} (g1:Grow F0 Hb F1 H1) (a:At F1 Hb F H σ own Γ):At F0 Hb F H σ own Γ:=⟨g1.unbase a.g,a.inj,a.liv,a.sl,a.len⟩
theorem zeF.rebase {F0 Hb F1 H1:Hp} {D:Ends} (g1:Grow F0 Hb F1 H1) (h:zeF E F0 Hb D o):zeF E F1 Hb D o:=by
 cases o with
 | nx Γ=>exact λF H σ own a=>h F H σ own (a.unbase g1)
 | bk Γ=>exact λF H σ own a=>h F H σ own (a.unbase g1)
 | ct Γ=>exact λF H σ own a=>h F H σ own (a.unbase g1)
 | rt m d=>exact λv F H g q=>h v F H (g1.unbase g) q
 | rl m ds=>exact λp vs F H g h1 h2 h3 q=>h p vs F H (g1.unbase g) h1 h2 h3 q
 | ex C Γ=>exact λdct F H σ own a=>h dct F H σ own (a.unbase g1)
 | rw Γ d=>exact λv F H σ own a q=>h v F H σ own (a.unbase g1) q
theorem zjg {S:Type} {wi:TI} {g:TG} {tb:TS} {js:List Nat} {xs:List γ} {bds:γ->List Ds} {mi:Bool} {s0:S} (G:S->Ctx) (res:β->Oc) (f:S->γ->S ⊕ β) (I:Nat->S->Prop) (it:Iv Γ wi g js xs bds mi) (w:Wk Γ (G s0)) (h0:I 0 s0)
  (hres:∀ (b:β) (F0 Hb:Hp) (D D':Ends),D.rt=D'.rt->zeF E F0 Hb D (res b)->zeF E F0 Hb D' (res b))
  (body:∀ (i:Nat) (x:γ) (s:S),xs[i]?=some x->I i s->(∀ s',f s x=.inl s'->I (i+1) s')∧Run E (zjA js (bds x) mi (G s)) tb (zcw G res (f s x))):Run E Γ (zn7 wi g tb) (zcw G res (loopR f s0 xs)):=λF0 Hb F H σ own D a q =>
 it F0 Hb F H σ own _ a λJ F1 H1 g1 ok=>by
  have gb:Grow F0 Hb F1 H1:=a.g.trans g1
  refine ⟨λi mm σ H2=>mm=xs.length-i∧i≤xs.length∧∃ s F2 own2,loopR f s0 (xs.take i)=.inl s∧I i s∧At F1 Hb F2 H2 σ own2 (G s),⟨_,rfl,Nat.zero_le _,s0,F1,own,by simp [loopR],h0,((a.grow g1).wk w).rebase gb (Same.refl _)⟩,?_⟩
  rintro i mm σ2 H2 ⟨rfl,hi,s,F2,own2,es,hI,a2⟩
  obtain ⟨hstop,hitem⟩:=ok.up a2.g.f H2 a2.fh
  by_cases hlt:i<xs.length
  ·have hx:xs[i]?=some xs[i]:=List.getElem?_eq_getElem hlt
   obtain ⟨go,yl⟩:=hitem i xs[i] hx
   obtain ⟨hI',hb⟩:=body i _ s hx hI
   have tk:=zfD f xs s0 i s es _ hx
   refine .inr ⟨go,λσ' H'=>∃ s' F3 own3,f s xs[i]=.inl s'∧At F1 Hb F3 H' σ' own3 (G s'),λσ' H' ⟨s',F3,own3,e3,a3⟩=>⟨xs.length-(i+1),by omega,rfl,hlt,s',F3,own3,by rw [tk,e3],hI' s' e3,a3⟩,λx H' y=>?_⟩
   obtain ⟨g3,bind⟩:=yl x H' y
   refine bind σ2 _ λvs hvs=>?_
   have a3:=(a2.grow g3).setMany (js:=js) hvs
   refine hb F1 Hb F2 H' _ own2 _ a3 ?_
   cases e3:f s xs[i] with
   | inl s'=>exact λF3 H3 σ3 own3 a4=>⟨s',F3,own3,rfl,a4⟩
   | inr b =>
    have:=loopR_more f xs s0 (i+1) b (by rw [tk,e3])
    rw [this] at q
    exact hres b F1 Hb D _ rfl (zeF.rebase (o:=res b) gb q)
  ·have e:i=xs.length:=by omega
   subst e
   rw [List.take_length] at es
   rw [es] at q
   exact .inl ⟨hstop,q F2 H2 σ2 own2 (a2.unbase gb)⟩
end
end L2
namespace L2
open PySem PySem.Spec PyProof.Rows
structure EqD {α:Type} [DecidableEq α] (K:W.Frag) (f:α->Ds) (n:Nat):Prop where
 eq:∀ H x y v w,(f x).pr H v->(f y).pr H w->EqV K H n v w (decide (x=y))
 inj:∀ H x y v,(f x).pr H v->(f y).pr H v->x=y
theorem EqD.int {K:W.Frag} {n:Nat}:EqD K dI n:=⟨λH x y v w h1 h2=>by
 cases h1;cases h2
 have:decide (x=y)=eqV (.int x) (.int y):=Bool.eq_iff_iff.mpr (by unfold eqV;simp)
 rw [this];exact .flat rfl rfl,λH x y v h1 h2=>by cases h1;cases h2;rfl⟩
theorem EqD.bool {K:W.Frag} {n:Nat}:EqD K dB n:=⟨λH x y v w h1 h2=>by
 cases h1;cases h2
 have:decide (x=y)=eqV (.bl x) (.bl y):=by cases x<;>cases y<;>rfl
 rw [this];exact .flat rfl rfl,λH x y v h1 h2=>by cases h1;cases h2;rfl⟩
theorem EqD.str {K:W.Frag} {n:Nat}:EqD K dS n:=⟨λH x y v w h1 h2=>by
 cases h1;cases h2
 have:decide (x=y)=eqV (.str x) (.str y):=Bool.eq_iff_iff.mpr (by unfold eqV;simp)
 rw [this];exact .flat rfl rfl,λH x y v h1 h2=>by cases h1;cases h2;rfl⟩
theorem paired_inj {α:Type} {f:α->Ds} {H:Hp} (h:∀ x y v,(f x).pr H v->(f y).pr H v->x=y):∀ {xs ys:List α} {vs:List V},Paired (λv (d:Ds)=>d.pr H v) vs (xs.map f)->Paired (λv (d:Ds)=>d.pr H v) vs (ys.map f)->xs=ys
 | [],[],_,_,_=>rfl
 | [],_ :: _,_,.nil,h2=>by cases h2
 | _ :: _,[],_,h1,.nil=>by cases h1
 | x :: xs,y :: ys,_,.cons a s,.cons b t=>by rw [h x y _ a b,paired_inj h s t]
theorem zjL {α:Type} [DecidableEq α] {xs ys:List α} (h:xs.length=ys.length):((List.range xs.length).all λj=>decide (xs[j]?=ys[j]?))=decide (xs=ys):=by
 by_cases e:xs=ys
 ·subst e;simp
 ·rw [decide_eq_false e]
  by_cases z:((List.range xs.length).all λj=>decide (xs[j]?=ys[j]?))=true
  ·exfalso
   apply e
   rw [List.all_eq_true] at z
   refine List.ext_getElem? λj=>?_
   by_cases hj:j<xs.length
   ·simpa using z j (List.mem_range.mpr hj)
   ·rw [List.getElem?_eq_none (by omega),List.getElem?_eq_none (by omega)]
  ·simpa using z
theorem zhH {α:Type} [DecidableEq α] {K:W.Frag} {f:α->Ds} {n:Nat} (E:EqD K f n) {H:Hp} {xs ys:List α} {vs ws:List V} (h1:Paired (λv (d:Ds)=>d.pr H v) vs (xs.map f)) (h2:Paired (λv (d:Ds)=>d.pr H v) ws (ys.map f)) (hl:xs.length=ys.length) :
  ∀ (j:Nat) (x y:V),vs[j]?=some x->ws[j]?=some y->EqV K H n x y (decide (xs[j]?=ys[j]?)):=λj x y e1 e2=>by
 have l1:=Paired.length h1
 have l2:=Paired.length h2
 rw [List.length_map] at l1 l2
 have hj:j<vs.length:=(List.getElem?_eq_some_iff.mp e1).1
 have q1:xs[j]?=some (xs[j]'(by omega)):=List.getElem?_eq_getElem (by omega)
 have q2:ys[j]?=some (ys[j]'(by omega)):=List.getElem?_eq_getElem (by omega)
 obtain ⟨v,ev,rv⟩:=zaF h1 (show (xs.map f)[j]?=some (f (xs[j]'(by omega))) by rw [List.getElem?_map,q1];rfl)
 obtain ⟨w,ew,rw'⟩:=zaF h2 (show (ys.map f)[j]?=some (f (ys[j]'(by omega))) by rw [List.getElem?_map,q2];rfl)
 rw [e1] at ev;rw [e2] at ew
 cases ev;cases ew
 have:=E.eq H _ _ _ _ rv rw'
 rw [q1,q2]
 simpa using this
theorem EqD.list {α:Type} [DecidableEq α] {K:W.Frag} {f:α->Ds} {n:Nat} (E:EqD K f n):EqD K (λxs:List α=>dL (xs.map f)) (n+1):=⟨λH xs ys v w h1 h2=>by
 obtain ⟨p,vs,rfl,hp,qp⟩:=h1
 obtain ⟨q,ws,rfl,hq,qq⟩:=h2
 by_cases e:p=q
 ·subst e
  rw [hp] at hq
  cases hq
  rw [paired_inj (E.inj H) qp qq,decide_eq_true rfl]
  exact .same
 ·have l1:=Paired.length qp
  have l2:=Paired.length qq
  rw [List.length_map] at l1 l2
  by_cases hl:xs.length=ys.length
  ·rw [← zjL hl,← l1]
   exact .lists e (SqL.of hp) (SqL.of hq) (by omega) (zhH E qp qq hl)
  ·have:decide (xs=ys)=false:=decide_eq_false λz=>hl (by rw [z])
   rw [this]
   exact .lens e (SqL.of hp) (SqL.of hq) (by omega),λH xs ys v h1 h2=>by
 obtain ⟨p,vs,rfl,hp,qp⟩:=h1
 obtain ⟨q,ws,e,hq,qq⟩:=h2
 cases e
 rw [hp] at hq
 cases hq
 exact paired_inj (E.inj H) qp qq⟩
theorem zlq {α:Type} [DecidableEq α] {K:W.Frag} {f:α->Ds} {n:Nat} (E:EqD K f n) {Γ:Ctx} {ta tb:TE} {m neg:Bool} {xs ys:List α} (h1:Ev Γ ta false (dQ K (xs.map f))) (h2:Ev Γ tb false (dQ K (ys.map f))) (hn:n≤50:=by decide) :
  Ev Γ (tOp (rEqL K neg) ta tb) m (dB (bif neg then !decide (xs=ys) else decide (xs=ys))):=λF0 Hb F H σ own Q a k =>
 h1 F0 Hb F H σ own _ a λu F1 H1 g1 ⟨p,vs,e1,e2,e3⟩=>h2 F0 Hb F1 H1 σ own _ (a.grow g1) λu' F2 H2 g2 ⟨q,ws,d1,d2,d3⟩=>by
  have e2':SqL K H2 p vs:=(g1.fh.trans g2.h).seq e2
  have d2':SqL K H2 q ws:=g2.fh.seq d2
  have e3':=pr_up (ds:=[]) (g1.fh.trans g2.h) e3
  have d3':=pr_up (ds:=[]) g2.fh d3
  have l1:=Paired.length e3'
  have l2:=Paired.length d3'
  rw [List.length_map] at l1 l2
  refine ⟨p,q,n,vs,ws,e1,d1,e2',d2',hn,?_⟩
  by_cases hl:xs.length=ys.length
  ·refine .inr ⟨_,by omega,zhH E e3' d3' hl,k _ F2 H2 (g1.trans g2) ?_⟩
   rw [l1,zjL hl]
   cases neg<;>rfl
  ·refine .inl ⟨by omega,k _ F2 H2 (g1.trans g2) ?_⟩
   rw [show decide (xs=ys)=false from decide_eq_false λz=>hl (by rw [z])]
   cases neg<;>rfl
def startC (N:List Str) (ds:List Ds):Ctx:=ds.map (.va false)++List.replicate (N.length-ds.length) .no
def zpl (n:Nat):Rs->Oc
 | .va m d=>.rt m d
 | .ow m ds=>.rl m ds
 | .ex C=>.ex C (List.replicate n .no)
theorem zhz {F H:Hp} {N:List Str} {vs:List V} {ds:List Ds} (hF:Same F H) (hv:Paired (λv (d:Ds)=>d.pr F v) vs ds):At F H F H (start N vs) (λ_=>none) (startC N ds):=by
 have hl:=Paired.length hv
 refine ⟨Grow.refl hF,λ_ _ _ h=>(nomatch h),λ_ _ h=>(nomatch h),λi s e=>?_,by unfold start startC;simp [hl]⟩
 unfold startC at e
 unfold start
 by_cases hi:i<ds.length
 ·rw [List.getElem?_append_left (by simpa using hi),List.getElem?_map] at e
  rw [List.getElem?_append_left (by simpa [hl] using hi),List.getElem?_map]
  obtain ⟨v,ev,rv⟩:=zaF hv (List.getElem?_eq_getElem hi)
  rw [List.getElem?_eq_getElem hi] at e
  have e':Slot.va false ds[i]=s:=Option.some.inj e
  subst e'
  exact ⟨v,by rw [ev];rfl,rv⟩
 ·rw [List.getElem?_append_right (by simpa using hi),List.getElem?_replicate] at e
  split at e
  ·cases e;trivial
  ·cases e
def ResOk (H F:Hp) (Q:VK) (E:XK):Rs->Prop
 | .ex C=>∀ dct F' H',Grow F H F' H'->E (.ref C) dct H'
 | .va m d=>∀ v F' H',Grow F H F' H'->d.pr (part m F' H) v->Q v H'
 | .ow m ds=>∀ p ws F' H',Grow F H F' H'->H p=none->F' p=none->H' p=some (.lst ws)->Paired (λv (d:Ds)=>d.pr (part m F' H) v) ws ds->Q (.ref p) H'
theorem zmb {E:XK} {F H:Hp} {N:List Str} {vs:List V} {ds:List Ds} {Q:VK} {t:TS} {r:Rs} (hF:Same F H) (hv:Paired (λv (d:Ds)=>d.pr F v) vs ds) (hq:ResOk H F Q E r) (h:Run (λ_=>E) (startC N ds) t (zpl N.length r)):t { nx:=λ_ H'=>Q .non H',rt:=Q } (start N vs) H:=by
 refine h F H F H _ _ _ (zhz hF hv) ?_
 cases r with
 | va m d=>exact λv F' H' g q=>hq v F' H' g q
 | ow m ds=>exact λp ws F' H' g h1 h2 h3 q=>hq p ws F' H' g h1 h2 h3 q
 | ex C=>exact λdct F' H' σ own a=>hq dct F' H' a.g
theorem zkj {E:XK} {F H:Hp} {N:List Str} {vs:List V} {ds:List Ds} {Q:VK} {t:TS} {m:Bool} {Δ:Ctx} (hF:Same F H) (hv:Paired (λv (d:Ds)=>d.pr F v) vs ds) (hq:ResOk H F Q E (.va m dN)) (h:Run (λ_=>E) (startC N ds) t (.nx Δ)):t { nx:=λ_ H'=>Q .non H',rt:=Q } (start N vs) H :=
 h F H F H _ _ _ (zhz hF hv) λF' H' σ own a=>hq _ F' H' a.g rfl
section
variable {P:Program} {w:World} {K:W.Frag} {mg:Str->Option Value} {base:Heap} {x qual:Str} {st:Stmt} {f:Addr} {fd:FuncData} {N ps:List Str} {k:Nat}
theorem Fun.okV {ι:Type} {args:ι->List Ds} {pre:ι->Prop} {res:ι->Rs} (F:Fun K x qual st f fd) (S:FnScope N ps (zae st)) (hl:∀ i,(args i).length=ps.length)
  (hbody:∀ (cdv:Value) (A:Around) (outer:List Env) (s:Shared) (H:Hp) (E:XK) (i:ι),Room k (A.deeper (envOfC qual (zae st) s.heap.objs.size f cdv))->pre i →
   ∃ t,PSs (ziz (CXE P w) P w K mg base N qual (zae st) f cdv A outer s H E).nox (zau st) t∧(Run (λ_=>E) (startC N (args i)) t (zpl N.length (res i))∨∃ m Δ,res i=.va m dN∧Run (λ_=>E) (startC N (args i)) t (.nx Δ))):FnOk P w K mg base (CXE P w) (k+1) f fd ps (Spv args pre res):=by
 refine F.okX S (λvs H Q E ⟨i,F',_,hv,_⟩=>by rw [Paired.length hv];exact hl i) λcdv A outer s H vs Q E hr ⟨i,F',hF,hv,hp,hq⟩=>?_
 obtain ⟨t,h1,h2⟩:=hbody cdv A outer s H E i hr hp
 have hq':ResOk H F' Q E (res i):=by
  cases e:res i with
  | va m d=>rw [e] at hq;exact hq
  | ow m ds=>rw [e] at hq;exact hq
  | ex C=>rw [e] at hq;exact hq
 refine ⟨_,zgu h1,?_⟩
 rcases h2 with h2 | ⟨m,Δ,e,h2⟩
 ·exact zmb hF hv hq' h2
 ·rw [e] at hq'
  exact zkj hF hv hq' h2
end
def putD (f:Str) (d:Ds):List (Str×Ds)->List (Str×Ds)
 | []=>[(f,d)]
 | (g,x) :: r=>if g=f then (g,d) :: r else (g,x) :: putD f d r
theorem zfB {R:V->Ds->Prop} {f:Str} {v:V} {d:Ds} (h:R v d):∀ {vs:List (Str×V)} {fs:List (Str×Ds)},Paired (λ(a:Str×V) (b:Str×Ds)=>a.1=b.1∧R a.2 b.2) vs fs->Paired (λ(a:Str×V) (b:Str×Ds)=>a.1=b.1∧R a.2 b.2) (putF f v vs) (putD f d fs)
 | _,_,.nil=>.cons ⟨rfl,h⟩ .nil
 | _,_,.cons (a:=(x,u)) (b:=(y,e)) ⟨h1,h2⟩ t=>by
  have h1:x=y:=h1
  subst h1
  unfold putF putD
  split
  ·exact .cons ⟨rfl,h⟩ t
  ·exact .cons ⟨rfl,h2⟩ (zfB h t)
theorem zl6 {Γ:Ctx} {i:Nat} {m:Bool} {C p dx:Addr} {fs:List (Str×Ds)} {K:W.Frag} {tv:TE} {d:Ds} {f:Str} {u:TS} {o:Oc} {E:XS} (e:Γ[i]?=some (.ob m C p dx fs)) (h:Ev Γ tv m d) (c:Cls K C) (nf:NoAttr K C f) (hz:fs.length<1000) (k:Run E (Γ.set i (.ob m C p dx (putD f d fs))) u o):Run E Γ (tSeq (zoA K (tVar i) tv f) u) o:=λF0 Hb F H σ own D a q=>by
 refine h F0 Hb F H σ own _ a λv F' H' g qv=>?_
 have a':=a.grow g
 obtain ⟨vs,e1,e2,e3,e4,e5,e6⟩:=a'.sl i _ e
 have hi:i<σ.length:=by rw [a.len];exact (List.getElem?_eq_some_iff.mp e).1
 rw [List.getElem?_eq_getElem hi] at e1
 have e':σ[i]=some (.ref p):=e1
 have ei:σ[i]?=some (some (.ref p)):=by rw [List.getElem?_eq_getElem hi,e']
 exact ⟨_,ei,p,C,dx,vs,rfl,e5.1,c,nf,by rw [Paired.length e6];exact hz,k F0 Hb F' _ σ own D (a'.turnOb e (zfB (R:=λv (d:Ds)=>d.pr (part m F' Hb) v) qv e6)) q⟩
def zoM {ι:Type} (C:Addr) (args:ι->List Ds) (pre:ι->Prop) (m:Bool) (fs:ι->List (Str×Ds)):Sp:=λvs H Q _=>∃ (i:ι) (p dx:Addr) (ws:List V) (H1 F:Hp),vs=.ref p :: ws∧H1 p=none∧H1 dx=none∧dx≠p∧H=upd (upd H1 dx (.own p)) p (.ins C dx [])∧Same F H1 ∧
 Paired (λv (d:Ds)=>d.pr F v) ws (args i)∧pre i∧∀ us F' H',Grow F H1 F' H'->F' p=none->F' dx=none->H' p=some (.ins C dx us)->H' dx=some (.own p)->Paired (λ(a:Str×V) (b:Str×Ds)=>a.1=b.1∧b.2.pr (part m F' H1) a.2) us (fs i)->Q .non H'
def startI (m:Bool) (C p dx:Addr) (N:List Str) (ds:List Ds):Ctx:=.ob m C p dx [] :: (ds.map (.va false)++List.replicate (N.length-(ds.length+1)) .no)
section
variable {P:Program} {w:World} {K:W.Frag} {mg:Str->Option Value} {base:Heap} {x qual:Str} {st:Stmt} {f:Addr} {fd:FuncData} {N ps:List Str} {k:Nat}
theorem zj0 {m:Bool} {F H1:Hp} {C p dx:Addr} {N:List Str} {ws:List V} {ds:List Ds} (hF:Same F H1) (hv:Paired (λv (d:Ds)=>d.pr F v) ws ds) (h1:H1 p=none) (h2:H1 dx=none) (h3:dx≠p) :
  At F H1 F (upd (upd H1 dx (.own p)) p (.ins C dx [])) (start N (.ref p :: ws)) (λi=>if i=0 then some p else none) (startI m C p dx N ds):=by
 have hl:=Paired.length hv
 have n1:upd H1 dx (.own p) p=none:=by rw [upd_ne (Ne.symm h3)];exact h1
 have g:Grow F H1 F (upd (upd H1 dx (.own p)) p (.ins C dx [])):=((Grow.refl hF).newH h2).newH n1
 refine ⟨g,λi j q e1 e2=>?_,λi q e=>?_,λi s e=>?_,?_⟩
 ·split at e1
  ·split at e2
   ·omega
   ·cases e2
  ·cases e1
 ·split at e
  ·cases e;rw [upd_same];simp
  ·cases e
 ·cases i with
  | zero =>
   have e':Slot.ob m C p dx []=s:=Option.some.inj e
   subst e'
   exact ⟨[],rfl,rfl,⟨hF.free h1,hF.free h2⟩,⟨h1,h2⟩,⟨upd_same,by rw [upd_ne h3];exact upd_same⟩,.nil⟩
  | succ i =>
   have e:(ds.map (Slot.va false)++List.replicate (N.length-(ds.length+1)) Slot.no)[i]?=some s:=e
   show zdY H1 F _ _ _ ((ws.map some++List.replicate (N.length-(ws.length+1)) none)[i]?).join s
   by_cases hi:i<ds.length
   ·rw [List.getElem?_append_left (by simpa using hi),List.getElem?_map] at e
    rw [List.getElem?_append_left (by simpa [hl] using hi),List.getElem?_map]
    obtain ⟨v,ev,rv⟩:=zaF hv (List.getElem?_eq_getElem hi)
    rw [List.getElem?_eq_getElem hi] at e
    have e':Slot.va false ds[i]=s:=Option.some.inj e
    subst e'
    exact ⟨v,by rw [ev];rfl,rv⟩
   ·rw [List.getElem?_append_right (by simpa using hi),List.getElem?_replicate] at e
    split at e
    ·cases e;trivial
    ·cases e
 ·unfold start startI;simp [hl]
theorem Fun.okI {ι:Type} {C:Addr} {args:ι->List Ds} {pre:ι->Prop} {m:Bool} {fs:ι->List (Str×Ds)} (F:Fun K x qual st f fd) (S:FnScope N ps (zae st)) (hl:∀ i,(args i).length+1=ps.length)
  (hbody:∀ (cdv:Value) (A:Around) (outer:List Env) (s:Shared) (H:Hp) (E:XK) (i:ι),Room k (A.deeper (envOfC qual (zae st) s.heap.objs.size f cdv))->pre i →
   ∃ t,PSs (ziz (CXE P w) P w K mg base N qual (zae st) f cdv A outer s H E).nox (zau st) t∧∀ p dx,∃ Δ,Run (λ_=>E) (startI m C p dx N (args i)) t (.nx Δ)∧Δ[0]?=some (.ob m C p dx (fs i))):FnOk P w K mg base (CXE P w) (k+1) f fd ps (zoM C args pre m fs):=by
 refine F.okX S (λvs H Q E ⟨i,p,dx,ws,H1,F',e,_,_,_,_,_,hv,_⟩=>by rw [e,List.length_cons,Paired.length hv];exact hl i) λcdv A outer s H vs Q E hr ⟨i,p,dx,ws,H1,F',e,h1,h2,h3,h4,hF,hv,hp,hq⟩=>?_
 subst e h4
 obtain ⟨t,t1,t2⟩:=hbody cdv A outer s _ E i hr hp
 obtain ⟨Δ,t2,t3⟩:=t2 p dx
 refine ⟨_,zgu t1,?_⟩
 refine t2 F' H1 F' _ _ _ _ (zj0 hF hv h1 h2 h3) λF2 H2 σ2 own2 a2=>?_
 obtain ⟨us,e1,e2,e3,e4,e5,e6⟩:=a2.sl 0 _ t3
 exact hq us F2 H2 a2.g e3.1 e3.2 e5.1 e5.2 e6
end
section
variable {Γ:Ctx} {K:W.Frag} {ds:List Ds} {tr:TA} {E:XK}
theorem ziI {ι:Type} {C:Addr} {args:ι->List Ds} {pre:ι->Prop} {m:Bool} {fs:ι->List (Str×Ds)} (i:ι) (h:EvA Γ tr false ds) (ha:ds=args i) (hp:pre i):Ev Γ (zmT C (zoM C args pre m fs) [] E tr) m (dO C (fs i)):=λF0 Hb F H σ own Q a k=>by
 subst ha
 refine h F0 Hb F H σ own _ a λvs F1 H1 g1 q1 p dx h1 h2 h3=>⟨i,p,dx,vs,H1,F1,by rw [List.append_nil],h1,h2,h3,rfl,g1.fh,q1,hp,λus F' H' g n1 n2 e1 e2 e3=>⟨rfl,?_⟩⟩
 have g2:=g1.trans g
 obtain ⟨p0,_,pb⟩:=a.free g1 h1
 obtain ⟨d0,_,db⟩:=a.free g1 h2
 have g3:=(g2.take p0 e1).take d0 e2
 have s1:Same F' (upd F' p (.ins C dx us)):=Same.new n1 _
 have n3:upd F' p (.ins C dx us) dx=none:=by rw [upd_ne h3];exact n2
 have s2:Same F' (upd (upd F' p (.ins C dx us)) dx (.own p)):=s1.trans (Same.new n3 _)
 refine k _ _ _ g3 ⟨p,dx,us,rfl,zdV pb (by rw [upd_ne (Ne.symm h3)];exact upd_same),zdV db upd_same,?_⟩
 exact paired_imp (λ_ b q=>⟨q.1,b.2.up ((zfU (a.g.h.trans g1.h)).trans (part_up s2)) q.2⟩) e3
end
end L2
namespace L2
open PySem PySem.Spec PyProof.Rows
def Ite (K:W.Frag) (a:Addr):It :=
 ⟨λi H=>∃ xs x,SqL K H a xs∧xs[i]?=some x,
  λi H v H'=>∃ p x,v=.ref p∧H p=none∧H'=upd H p (.tup [.int (i:Int),x])∧∀ xs,SqL K H a xs->xs[i]?=some x,
  λi H=>∃ xs,SqL K H a xs∧xs.length≤i⟩
theorem zjV {P:Program} {w:World} {K:W.Frag} {elts:List Expr} {x1:Nat} {tp:Pos} {a e it:Addr} (hne:e≠it) :
  Turn P w K (.Tuple elts x1 tp) (Ite K a) [e,it] e (λi h=>(∃ old,IsEnum h e it (i:Int) old)∧h.IsListIter it a i) where
 mem:=by simp
 obj:=λi h st c hc=>by
  obtain ⟨⟨old,he⟩,⟨o1,e1,_,d1⟩⟩:=st
  simp only [List.mem_cons,List.not_mem_nil,or_false] at hc
  rcases hc with rfl | rfl
  ·exact ⟨_,he,λv z=>by cases z⟩
  ·exact ⟨o1,e1,λv z=>by rw [d1] at z;cases z⟩
 keep:=λi h h' st k=>by
  obtain ⟨⟨old,he⟩,h1⟩:=st
  exact ⟨⟨old,k e (by simp) _ he⟩,h1.at λo q=>k it (by simp) o q⟩
 item:=by
  intro X hP hw hK hc i pins s σ H E I hf st hg
  subst hP hw hK
  obtain ⟨xs,x,hxs,hx⟩:=hg
  obtain ⟨itx,rx,px,hzx⟩:=I.list hxs
  obtain ⟨u,hu,ru⟩:=rx.get hx
  obtain ⟨⟨old,he⟩,h1⟩:=st
  refine wpAny_pyNext_enum_item (x:=u) he h1 px.isList (by simpa using hu) hne λh' a1 a2 a3 a4 hk=>?_
  refine ⟨_,rfl,wpAny_letOwnedTupleGo_enum a1 λh'' b1 b2=>?_⟩
  have elt:e<s.heap.objs.size:=Heap.lt_size he
  have itl:it<s.heap.objs.size:=by obtain ⟨_,q,_⟩:=h1;exact Heap.lt_size q
  have tup:h''.get? s.heap.objs.size=some { cls:=.type "tuple",data:=.seq #[.int i s.toks,u] }:=b2.extBut _ _ (Nat.ne_of_gt elt) a3
  have I1:Inv X pins σ (upd H s.heap.objs.size (.tup [.int (i:Int),x])) { s with heap:=h'',toks:=s.toks+1 }:=by
   refine I.turnedNew (t':=s.toks+1) (ch:=[e,it]) (λc hc=>hf c hc) (λc ob hc q=>?_) (Nat.le_refl _) ?_
   ·simp only [List.mem_cons,List.not_mem_nil,or_false,not_or] at hc
    exact b2.extBut _ _ hc.1 (hk c ob hc.1 hc.2 q)
   ·exact ⟨by show 2≤sizeLine;decide,[.int i s.toks,u],.cons ⟨_,rfl⟩ (.cons ru .nil),⟨_,tup,rfl,_,rfl⟩⟩
  refine ⟨.ref s.heap.objs.size,_,I1,rfl,⟨_,x,rfl,I.hok.fresh (Nat.le_refl _),rfl,λxs' q1=>?_⟩,⟨⟨u,?_⟩,a2.extBut b2.extBut (Ne.symm hne)⟩,λc hc=>?_⟩
  ·rw [I.list_inj q1 hxs];exact hx
  ·exact b1
  ·have:c≠s.heap.objs.size:=by
    simp only [List.mem_cons,List.not_mem_nil,or_false] at hc
    rcases hc with rfl | rfl
    ·exact Nat.ne_of_lt elt
    ·exact Nat.ne_of_lt itl
   rw [upd_ne this];exact (hf c hc).1
 done:=by
  intro X hP hw hK hc i pins s σ H E I hf st hg
  subst hP hw hK
  obtain ⟨xs,hxs,hend⟩:=hg
  obtain ⟨itx,rx,px,hzx⟩:=I.list hxs
  obtain ⟨⟨old,he⟩,h1⟩:=st
  have lx:=rx.length
  refine wpAny_pyNext_enum_end (I.ok.hd hc) he h1 px.isList (by simp;omega) λh' hk=>⟨rfl,?_⟩
  refine I.turnedL (t':=s.toks) (ch:=[e,it]) (λc hc=>hf c hc) (λc ob hc q=>?_)
  simp only [List.mem_cons,List.not_mem_nil,or_false,not_or] at hc
  exact hk c ob hc.2 q
 self:=λ_ _ _ _ _ st h=>by obtain ⟨⟨old,he⟩,_⟩:=st;exact wpAny_pyIter_enum he h
section
variable {X:Cx} {K:W.Frag}
def znr (K:W.Frag) (ta:TA):TI:=λσ H R=>ta σ H λvs H1=>∃ a,vs=[.ref a]∧(∃ xs,SqL K H1 a xs)∧R (Ite K a) H1
theorem zhg {a:Expr} {ta:TA} {p pos tp:Pos} {elts:List Expr} {x1:Nat} (hK:X.K=K) (hg:Gl X "enumerate") (hm:X.mg "enumerate"=none) (ha:PA X [a] ta) (hs:starEach [a] X.env=[(false,eval a X.env)]:=by rfl) :
  PI X (.Tuple elts x1 tp) (.Call (.Name "enumerate" p) [a] [] pos) (znr K ta):=by
 subst hK
 intro pins s σ H R I h
 refine Call_ (ld_blt I hg hm boot_enumerate (PyProof.Rows.callWith_type1 (thn (ha pos pins s σ H _ I h) λus s1 ⟨vs,H1,I1,r1,q1⟩=>?_) (by rw [hs];rfl) rfl))
 obtain ⟨l,e,⟨xs,hx⟩,q⟩:=q1
 subst e
 cases r1 with
 | cons r rr =>
  cases rr
  cases r
  obtain ⟨itx,rx,px,hzx⟩:=I1.list hx
  refine call_enumerate_list px.isList λh' he h1 hsz hk=>wpAny_pyIter_enum he ?_
  have hne:(s1.heap.objs.size+1:Nat)≠s1.heap.objs.size:=by omega
  refine ⟨s1.heap.objs.size+1,[s1.heap.objs.size+1,s1.heap.objs.size],_,Ite X.K l,H1,rfl,I1.kept (t':=s1.toks) hk,zjV hne,⟨⟨_,he⟩,h1⟩,λc hc=>?_,q⟩
  have hle:@LE.le Nat _ s1.heap.objs.size c:=by
   simp only [List.mem_cons,List.not_mem_nil,or_false] at hc
   rcases hc with rfl | rfl<;>omega
  exact I1.fpOk hle (I1.hok.fresh hle)
end
def Itv (K:W.Frag) (a:Addr) (n:Nat):It :=
 ⟨λi H=>i<n∧∃ xs x,SqL K H a xs∧xs.length=n∧xs[n-1-i]?=some x,λi H x H'=>H'=H∧∀ xs,SqL K H a xs->xs[n-1-i]?=some x,λi _=>i=n⟩
theorem zkW {P:Program} {w:World} {K:W.Frag} {tg:Expr} (a it:Addr) (n:Nat):Turn P w K tg (Itv K a n) [it] it (λi h=>h.IsRevIter it a ((n:Int)-1-(i:Int))) where
 mem:=by simp
 obj:=λi h st b hb=>by
  have e:b=it:=by simpa using hb
  subst e
  obtain ⟨o,e,c,d⟩:=st
  exact ⟨o,e,λv z=>by rw [d] at z;cases z⟩
 keep:=λi h h' st k=>st.at λo e=>k it (by simp) o e
 item:=by
  intro X hP hw hK hc i pins s σ H E I hf st hg
  subst hP hw hK
  obtain ⟨hi,xs,x,hq,hn,hx⟩:=hg
  obtain ⟨its,rv,p,hz⟩:=I.list hq
  obtain ⟨u,hu,ru⟩:=rv.get hx
  obtain ⟨f0,f1,f2,f3,f4,f5⟩:=hf it (by simp)
  have e1:(n:Int)-1-(i:Int)=((n-1-i:Nat):Int):=by omega
  have e2:((n-1-i:Nat):Int)-1=(n:Int)-1-((i+1:Nat):Int):=by omega
  rw [e1] at st
  refine wpAny_pyNext_rev_item st p.isList (x:=u) (by simpa using hu) λh' st' sb=>?_
  rw [e2] at st'
  have I1:Inv X pins σ H { s with heap:=h' }:=I.turned (t':=s.toks) (λb o hb e=>(sb.2 b hb).trans e) f0 f1 f3 f4 f5
  obtain ⟨o,e,c,d⟩:=id st'
  exact ⟨u,rfl,zlW (s:={ s with heap:=h' }) e c d (by decide) ⟨x,H,I1,ru,⟨rfl,λys hy=>by rw [I.list_inj hy hq];exact hx⟩,st',λb hb=>(hf b hb).1⟩⟩
 done:=by
  intro X hP hw hK hc i pins s σ H E I hf st hg
  subst hP hw hK
  have hg:i=n:=hg
  subst hg
  obtain ⟨f0,f1,f2,f3,f4,f5⟩:=hf it (by simp)
  have e1:(i:Int)-1-(i:Int)=-1:=by omega
  rw [e1] at st
  exact wpAny_pyNext_rev_end (I.ok.hd hc) st λh' eb=>⟨rfl,I.turned (t':=s.toks) (λb o hb e=>eb b o hb e) f0 f1 f3 f4 f5⟩
 self:=λ_ _ _ _ _ st h=>wpAny_pyIter_revIter st h
section
variable {X:Cx} {K:W.Frag}
def zpd (K:W.Frag) (ta:TA):TI:=λσ H R=>ta σ H λvs H1=>∃ a xs,vs=[.ref a]∧SqL K H1 a xs∧R (Itv K a xs.length) H1
theorem znL {a tg:Expr} {ta:TA} {p pos:Pos} (hK:X.K=K) (hg:Gl X "reversed") (hm:X.mg "reversed"=none) (ha:PA X [a] ta) (hs:starEach [a] X.env=[(false,eval a X.env)]:=by rfl) :
  PI X tg (.Call (.Name "reversed" p) [a] [] pos) (zpd K ta):=by
 subst hK
 intro pins s σ H R I h
 refine Call_ (ld_blt I hg hm boot_reversed (PyProof.Rows.callWith_type1 (thn (ha pos pins s σ H _ I h) λus s1 ⟨vs,H1,I1,r1,q1⟩=>?_) (by rw [hs];rfl) rfl))
 obtain ⟨l,xs,e,hx,q⟩:=q1
 subst e
 cases r1 with
 | cons r rr =>
  cases rr
  cases r
  obtain ⟨itx,rx,px,hzx⟩:=I1.list hx
  have hl:=rx.length
  refine call_reversed_list px.isList ?_
  have ho:=Heap.get?_push_size s1.heap (o:=revObj l ((itx.toArray.size:Int)-1)) rfl
  have st:(s1.heap.push (revObj l ((itx.toArray.size:Int)-1))).IsRevIter s1.heap.objs.size l ((xs.length:Int)-1-((0:Nat):Int)):=⟨_,ho,rfl,by rw [List.size_toArray,← hl];simp [revObj]⟩
  refine wpAny_pyIter_revIter st ?_
  refine ⟨s1.heap.objs.size,[s1.heap.objs.size],_,Itv X.K l xs.length,H1,rfl,I1.kept (t':=s1.toks) (λb o e=>Heap.get?_push_of_some _ e),zkW l s1.heap.objs.size xs.length,st,λc hc=>?_,q⟩
  have hle:@LE.le Nat _ s1.heap.objs.size c:=by
   simp only [List.mem_cons,List.not_mem_nil,or_false] at hc
   rw [hc];exact Nat.le_refl _
  exact I1.fpOk hle (I1.hok.fresh hle)
theorem zgF (hK:X.K=K) (hc:X.calm=true):zdZ X (.builtin "any") (λxs H Q=>∃ (a:Addr) (ns:List Int),xs=[.ref a]∧SqL K H a (ns.map V.int)∧Q (.bl (ns.any (· != 0))) H):=by
 subst hK
 intro pins s σ H xs us Q I r h
 obtain ⟨a,bs,rfl,hq,q⟩:=h
 obtain ⟨u,rfl,rx⟩:=zjX r
 cases rx
 obtain ⟨its,rv,p,hz⟩:=I.list hq
 have hl:=rv.length
 rw [List.length_map] at hl
 have alt:a<s.heap.objs.size:=by obtain ⟨o,e,_⟩:=p.isList;exact Heap.lt_size e
 have hl1:(s.heap.push { cls:=.type "list_iterator",data:=.fields #[.ref a,.int 0 0] }).IsList a its.toArray:=Heap.IsList.push p.isList _
 refine call_any_walk (wpAny_pyIter_list p.isList ?_)
 refine ⟨s.heap.objs.size,[s.heap.objs.size,a],[s.heap.objs.size],its.toArray.size,_,_,λi=>(bs[i]?).getD 0 != 0,rfl,Walks.list (A:=X.A.in1) (I.ok.hd hc) s.heap.objs.size a (Nat.ne_of_lt alt) its.toArray,⟨⟨_,Heap.get?_push_size _ rfl,rfl,rfl⟩,hl1⟩,λi v s' Q' E' hv hQ'=>?_,λh' tk hk=>?_⟩
 ·have hv':its[i]?=some v:=by simpa using hv
  have hi:i<its.length:=(List.getElem?_eq_some_iff.mp hv').1
  obtain ⟨u,hu,ru⟩:=rv.get (i:=i) (x:=.int (bs[i]'(by omega))) (by rw [List.getElem?_map,List.getElem?_eq_getElem (by omega)];rfl)
  rw [hv'] at hu
  cases hu
  obtain ⟨t,rfl⟩:=ru
  have e:(bs[i]?).getD 0=bs[i]'(by omega):=by rw [List.getElem?_eq_getElem (show i<bs.length by omega)];rfl
  have hQ2:Q' ((bs[i]?).getD 0 != 0) s':=hQ'
  rw [e] at hQ2
  exact PySem.P.truthy_int hQ2
 ·have e:(List.range its.toArray.size).any (λi=>(bs[i]?).getD 0 != 0)=bs.any (· != 0):=by
   rw [List.size_toArray,← hl,Bool.eq_iff_iff,List.any_eq_true,List.any_eq_true]
   constructor
   ·rintro ⟨i,hi,z⟩
    have hi':=List.mem_range.mp hi
    rw [List.getElem?_eq_getElem hi'] at z
    exact ⟨_,List.getElem_mem hi',z⟩
   ·rintro ⟨x,hx,z⟩
    obtain ⟨i,hi,rfl⟩:=List.getElem_of_mem hx
    exact ⟨i,List.mem_range.mpr hi,by rw [List.getElem?_eq_getElem hi];exact z⟩
  rw [e]
  exact ⟨.bl _,H,I.kept (h':=h') (t':=tk) λb o e=>hk b o (by simp only [List.mem_singleton];exact Nat.ne_of_lt (Heap.lt_size e)) (Heap.get?_push_of_some _ e),rfl,q⟩
end
section
variable {Γ:Ctx} {m:Bool} {K:W.Frag} {γ:Type}
def zfj {α:Type} (xs:List α):List (Int×α):=(za5 0 xs.length).zip xs
theorem zgM {α:Type} {xs:List α}:(zfj xs).length=xs.length:=by simp [zfj,List.length_zip,zaH]
theorem zdt {α:Type} {xs:List α} {i:Nat} {p:Int×α} (h:(zfj xs)[i]?=some p):i<xs.length∧p.1=i∧xs[i]?=some p.2:=by
 obtain ⟨h1,h2⟩:=za6 h
 obtain ⟨h3,h4⟩:=zbq h1
 exact ⟨h3,by rw [h4];omega,h2⟩
theorem zg7 {tl:TE} {j1 j2:Nat} {xs:List γ} (f:γ->Ds) (h:Ev Γ tl m (dQ K (xs.map f))) :
  Iv Γ (znr K (tCons tl tNil)) (zmC K 2 (zd9 (zcb j1) (zd9 (zcb j2) znI))) [j1,j2] (zfj xs) (λx=>[dI x.1,f x.2]) m:=λF0 Hb F H σ own R a k =>
 h F0 Hb F H σ own _ a λu F1 H1 g1 ⟨p,vs,e1,e2,e3⟩=>by
  have e2':SqL K F1 p vs:=part_sub.seq e2
  have le:=Paired.length e3
  rw [List.length_map] at le
  refine ⟨p,by rw [e1],⟨vs,g1.fh.seq e2'⟩,k _ F1 H1 g1 λH hs=>⟨⟨vs,hs.seq e2',by rw [le,zgM];exact Nat.le_refl _⟩,λi x ex=>?_⟩⟩
  obtain ⟨hi,x1,x2⟩:=zdt ex
  obtain ⟨v,ev,qv⟩:=zaF e3 (show (xs.map f)[i]?=some (f x.2) by rw [List.getElem?_map,x2];rfl)
  refine ⟨⟨vs,v,hs.seq e2',ev⟩,λz H' y=>?_⟩
  obtain ⟨r,x',rfl,hr,rfl,hxy⟩:=y
  have hx:=hxy vs (hs.seq e2')
  rw [ev] at hx
  cases hx
  exact ⟨(Grow.refl hs).newH hr,λσ Q k=>⟨r,_,rfl,.inl (.inl upd_same),rfl,_,_,rfl,_,_,rfl,rfl,k [.int i,v] (.cons (by show V.int _=V.int _;rw [x1]) (.cons qv .nil))⟩⟩
theorem zmF {tl:TE} {j:Nat} {xs:List γ} (f:γ->Ds) (h:Ev Γ tl m (dQ K (xs.map f))):Iv Γ (zpd K (tCons tl tNil)) (zcb j) [j] xs.reverse (λx=>[f x]) m:=λF0 Hb F H σ own R a k =>
 h F0 Hb F H σ own _ a λu F1 H1 g1 ⟨p,vs,e1,e2,e3⟩=>by
  have e2':SqL K F1 p vs:=part_sub.seq e2
  have le:=Paired.length e3
  rw [List.length_map] at le
  refine ⟨p,vs,by rw [e1],g1.fh.seq e2',k _ F1 H1 g1 λH hs=>⟨by show xs.reverse.length=vs.length;rw [List.length_reverse,le],λi x ex=>?_⟩⟩
  have hi:i<xs.length:=by simpa using (List.getElem?_eq_some_iff.mp ex).1
  rw [List.getElem?_reverse hi] at ex
  obtain ⟨v,ev,qv⟩:=zaF e3 (show (xs.map f)[xs.length-1-i]?=some (f x) by rw [List.getElem?_map,ex];rfl)
  rw [← le] at ev
  refine ⟨⟨by rw [le];exact hi,vs,v,hs.seq e2',rfl,ev⟩,λw H' y=>?_⟩
  obtain ⟨rfl,y⟩:=y
  have:=y vs (hs.seq e2')
  rw [ev] at this
  cases this
  exact ⟨Grow.refl hs,λσ Q k=>k [v] (.cons qv .nil)⟩
theorem zlx {xs:List Int} {t:TE} (h1:Ev Γ t false (dQ K (xs.map dI))):Ev Γ (tCB (λxs H Q=>∃ (a:Addr) (ns:List Int),xs=[.ref a]∧SqL K H a (ns.map V.int)∧Q (.bl (ns.any (· != 0))) H) (tCons t tNil)) m (dB (xs.any (· != 0))):=λF0 Hb F H σ own Q a k =>
 h1 F0 Hb F H σ own _ a λu F1 H1 g1 ⟨p,vs,e1,e2,e3⟩=>⟨p,xs,by rw [e1],by rw [← zfk e3];exact g1.fh.seq e2,k _ F1 H1 g1 rfl⟩
end
end L2
namespace L2
open PySem PySem.Spec PyProof.Rows
theorem Ev.any {Γ:Ctx} {t:TE} {m n:Bool} {v:V} (h:Ev Γ t m (dV v)):Ev Γ t n (dV v):=λF0 Hb F H σ own Q a k=>h F0 Hb F H σ own Q a λu F' H' g q=>k u F' H' g q
theorem zi3 {α:Type} {R R':Hp} {g:α->V} {vs:List V} {xs:List α} (h:Paired (λv (d:Ds)=>d.pr R v) vs (xs.map λx=>dV (g x))):Paired (λv (d:Ds)=>d.pr R' v) vs (xs.map λx=>dV (g x)):=by
 rw [zfk h]
 clear h
 induction xs with
 | nil=>exact .nil
 | cons x xs ih=>exact .cons rfl ih
theorem EvO.anyV {Γ:Ctx} {t:TE} {m n:Bool} {α:Type} {g:α->V} {xs:List α} (h:EvO Γ t m (xs.map λx=>dV (g x))):EvO Γ t n (xs.map λx=>dV (g x)):=λF0 Hb F H σ own Q a k=>h F0 Hb F H σ own Q a λp vs F' H' g h1 h2 h3 q=>k p vs F' H' g h1 h2 h3 (zi3 q)
theorem EvO.anyI {Γ:Ctx} {t:TE} {m n:Bool} {xs:List Int} (h:EvO Γ t m (xs.map dI)):EvO Γ t n (xs.map dI):=EvO.anyV h
section
variable {X:Cx}
def zcC (i j:Int):Prop:=(-(2^64)<i∧i<2^64)∨(-(2^64)<j∧j<2^64)∨(i.natAbs.log2<60000000∧j.natAbs.log2<60000000)
theorem ziy {a b:Int} (ha:Builtin.Int.intBits a≤60000000) (hb:Builtin.Int.intBits b≤60000000):IntMulOk a b:=by
 have h:Builtin.Int.intTooBig (Builtin.Int.intBits a+Builtin.Int.intBits b)=false:=by
  unfold Builtin.Int.intTooBig bitsLine
  exact decide_eq_false (by omega)
 unfold IntMulOk
 rw [h]
 simp
theorem zaS:OpR X (binaryOp .Mult) (rI zcC λi j=>.int (i*j)):=opI λ_ _ _ _ _ _ _ hc q=>mul_int q (by
 rcases hc with h | h | h
 ·exact .of_left (intBits_le_64 h.1 h.2)
 ·exact .of_right (intBits_le_64 h.1 h.2)
 ·exact ziy (zjn h.1) (zjn h.2))
end
def ixD {α:Type} [Inhabited α] (xs:List α) (i:Int):α:=(atI xs i).getD default
def InB (n:Nat) (i:Int):Prop:=-(n:Int)≤i∧i<n
theorem zgD {n:Nat} {i:Int} (h:InB n i):∃ j,ixN n i=some j∧j<n∧(0≤i->j=i.toNat):=by
 unfold InB at h
 unfold ixN
 by_cases h0:0≤i
 ·rw [if_pos h0,if_pos h.2];exact ⟨_,rfl,by omega,λ_=>rfl⟩
 ·rw [if_neg h0,if_pos h.1];exact ⟨_,rfl,by omega,λz=>absurd z h0⟩
theorem ziH {α:Type} [Inhabited α] {xs:List α} {i:Int} (h:InB xs.length i):atI xs i=some (ixD xs i):=by
 obtain ⟨j,e,hj,_⟩:=zgD h
 unfold ixD atI
 rw [e]
 show xs[j]?=some (xs[j]?.getD default)
 rw [List.getElem?_eq_getElem hj];rfl
theorem zcj {α:Type} [Inhabited α] {xs:List α} {n:Nat} {x:α} (h:xs[n]?=some x):ixD xs (n:Int)=x:=by
 have hn:n<xs.length:=(List.getElem?_eq_some_iff.mp h).1
 unfold ixD atI ixN
 rw [if_pos (by omega),if_pos (by omega)]
 show (xs[(n:Int).toNat]?).getD default=x
 rw [Int.toNat_natCast,h];rfl
theorem zdg {α:Type} [Inhabited α] {xs:List α} {i:Int} (h:InB xs.length i):ixD xs i∈xs:=by
 have:=ziH h
 unfold atI at this
 obtain ⟨j,e,hj,_⟩:=zgD h
 rw [e] at this
 exact List.mem_of_getElem? this
def setZ {α:Type} (xs:List α) (i:Int) (x:α):List α:=match ixN xs.length i with
 | some n=>xs.set n x
 | none=>xs
theorem zd2 {α:Type} {xs:List α} {i:Int} {x:α}:(setZ xs i x).length=xs.length:=by
 unfold setZ;split<;>simp
def repZ {α:Type} (n:Int) (xs:List α):List α:=(List.replicate n.toNat xs).flatten
def NN {α:Type} (f:α->Ds):Prop:=∀ x H v,(f x).pr H v->v≠.non
theorem NN.tup {α:Type} {f:α->List Ds}:NN (λx=>dT (f x)):=λ_ _ _ ⟨_,_,e,_⟩=>by rw [e];simp
theorem NN.obj {α:Type} {C:Addr} {f:α->List (Str×Ds)}:NN (λx=>dO C (f x)):=λ_ _ _ ⟨_,_,_,e,_⟩=>by rw [e];simp
section
variable {E:XS} {Γ:Ctx} {m:Bool} {K:W.Frag} {α β γ:Type} {f:α->Ds} {t ta tb te:TE} {u r:TS} {o:Oc} {xs ys:List α} {i:Nat}
theorem zbB [Inhabited α] {j:Int} (h1:Ev Γ ta m (dQ K (xs.map f))) (h2:Ev Γ tb false (dI j)) (h:InB xs.length j):Ev Γ (tOp (zmB K) ta tb) m (f (ixD xs j)):=zoX h1 h2 (zjm (ziH h))
theorem zbK {n:Bool} (h1:Ev Γ t false (dQ K (xs.map f))):Ev Γ (tCB (λxs H Q=>∃ p ys,xs=[.ref p]∧(SqL K H p ys∨SqT K H p ys)∧Q (.int ys.length) H) (tCons t tNil)) n (dI (xs.length:Nat)):=(zm5 h1).conv (by rw [List.length_map])
theorem zcY {tl th:TO} {lo hi:Option Int} (h1:Ev Γ t m (dQ K (xs.map f))) (h2:EvP Γ tl lo) (h3:EvP Γ th hi):EvO Γ (tSl (zoc K) t tl th) m ((cutD xs lo hi).map f):=(znH h1 h2 h3).conv zkx.symm
theorem zdM (h1:Ev Γ ta m (dL (xs.map f))) (h2:Ev Γ tb m (dL (ys.map f))) (hz:xs.length+ys.length≤sizeLine):EvO Γ (tOp zo2 ta tb) m ((xs++ys).map f):=(zmL h1 h2 (by rw [List.length_map,List.length_map];exact hz)).conv (List.map_append ..).symm
theorem ze1 {n:Nat}:(List.replicate n (xs.map f)).flatten=((List.replicate n xs).flatten).map f:=by
 induction n with
 | zero=>rfl
 | succ n ih=>rw [List.replicate_succ,List.replicate_succ,List.flatten_cons,List.flatten_cons,List.map_append,ih]
theorem zjz {n:Int} (h1:Ev Γ ta m (dL (xs.map f))) (h2:Ev Γ tb false (dI n)) (hn:-(2^63)≤n∧n<2^63) (hz:xs.length*n.toNat≤sizeLine):EvO Γ (tOp zor ta tb) m ((repZ n xs).map f):=(znw h1 h2 hn (by rw [List.length_map];exact hz)).conv ze1
theorem zbi [Inhabited α] {j:Int} (e:Γ[i]?=some (.ow m (xs.map f))) (h2:Ev Γ tb false (dI j)) (h:InB xs.length j):Ev Γ (tOp (zmB K) (tVar i) tb) m (f (ixD xs j)):=zko (n:=m) e h2 (zjm (ziH h))
theorem zeo {n:Bool} (e:Γ[i]?=some (.ow m (xs.map f))):Ev Γ (tCB (λxs H Q=>∃ p ys,xs=[.ref p]∧(SqL K H p ys∨SqT K H p ys)∧Q (.int ys.length) H) (tCons (tVar i) tNil)) n (dI (xs.length:Nat)):=(zjx (n:=n) e).conv (by rw [List.length_map])
theorem zb0 {x:α} (e:Γ[i]?=some (.ow m (xs.map f))) (h:Ev Γ te m (f x)) (hz:xs.length<sizeLine) (k:Run E (Γ.set i (.ow m ((xs++[x]).map f))) u o):Run E Γ (tSeq (tDrop (tBM K "list" rAppend (tVar i) (tCons te tNil))) u) o :=
 zhZ e h (by rw [List.length_map];exact hz) (by rw [List.map_append] at k;exact k)
theorem zew {tj:TE} {x:α} {j:Int} (e:Γ[i]?=some (.ow m (xs.map f))) (h:Ev Γ te m (f x)) (hj:Ev Γ tj false (dI j)) (hb:InB xs.length j) (k:Run E (Γ.set i (.ow m ((setZ xs j x).map f))) u o):Run E Γ (tSeq (zih te (zof (tVar i) tj zkZ)) u) o:=by
 obtain ⟨n,en,hn,_⟩:=zgD hb
 refine zjc (n:=n) e h hj (by rw [List.length_map];exact en) ?_
 unfold setZ at k
 rw [en] at k
 rw [← List.map_set]
 exact k
theorem zbv {x:α} (G:α->Ctx) (fo:β->Oc) {kk:α->β} (k:∀ y,y=x->Run E (G y) u (fo (kk y))):Run E (G x) u (fo (Let x kk)):=k x rfl
def zml (o:Oc):Prop:=(∃ m d,o=.rt m d)∨(∃ m ds,o=.rl m ds)∨∃ C Γ,o=.ex C Γ
theorem zml.meets (h:zml o) {F0 Hb:Hp} {D D':Ends} (e:D.rt=D'.rt) (q:zeF E F0 Hb D o):zeF E F0 Hb D' o:=by
 rcases h with ⟨m,d,rfl⟩ | ⟨m,ds,rfl⟩ | ⟨C,Γ',rfl⟩
 ·exact λv F H g p=>e ▸ q v F H g p
 ·exact λp vs F H g h1 h2 h3 h4=>e ▸ q p vs F H g h1 h2 h3 h4
 ·exact q
def LetR {S:Type} (x:S ⊕ β) (k:S->α) (w:β->α):α:=match x with
 | .inl s=>k s
 | .inr b=>w b
theorem zhB {f:Str} {d:Ds}:∀ {fs:List (Str×Ds)} {ns:List Str},fs.map Prod.fst=ns->ns.contains f=false->putD f d fs=fs++[(f,d)]
 | [],_,_,_=>rfl
 | (g,e) :: r,_,rfl,h=>by
  have h':f≠g∧f ∉ r.map Prod.fst:=by simpa using h
  unfold putD
  rw [if_neg (Ne.symm h'.1),zhB rfl (by simpa using h'.2)]
  rfl
theorem zhu {C p dx:Addr} {fs:List (Str×Ds)} {tv:TE} {d:Ds} {f:Str} (e:Γ[i]?=some (.ob m C p dx fs)) (h:Ev Γ tv m d) (c:Cls K C) (nf:NoAttr K C f) (ns:List Str) (hns:fs.map Prod.fst=ns) (hn:ns.contains f=false) (hz:ns.length<1000) (k:Run E (Γ.set i (.ob m C p dx (fs++[(f,d)]))) u o) :
  Run E Γ (tSeq (zoA K (tVar i) tv f) u) o:=zl6 e h c nf (by rw [← List.length_map (f:=Prod.fst),hns];exact hz) (by rw [zhB hns hn];exact k)
theorem zfz {S:Type} (f:S->γ->S):∀ (xs:List γ) (s:S),loopR (β:=Empty) (λs x=>.inl (f s x)) s xs=.inl (xs.foldl f s)
 | [],_=>rfl
 | x :: xs,s=>zfz f xs (f s x)
theorem zgH {S:Type} {f:S->γ->S} {I:Nat->S->Prop}:∀ {xs:List γ} {s:S} {n:Nat},I n s->(∀ (i:Nat) (x:γ) (s:S),xs[i]?=some x->I (n+i) s->I (n+i+1) (f s x))->I (n+xs.length) (xs.foldl f s)
 | [],s,n,h,_=>h
 | x :: xs,s,n,h,k=>by
  have h1:=k 0 x s rfl h
  have:=zgH (xs:=xs) (s:=f s x) (n:=n+1) h1 λi y s' e q=>by
   have:=k (i+1) y s' (by simpa using e) (by rw [show n+(i+1)=n+1+i by omega];exact q)
   rw [show n+1+i+1=n+(i+1)+1 by omega];exact this
  rw [List.length_cons,show n+(xs.length+1)=n+1+xs.length by omega]
  exact this
theorem zbT {S:Type} {wi:TI} {g:TG} {tb:TS} {js:List Nat} {xs:List γ} {bds:γ->List Ds} {mi:Bool} {s0:S} (G:S->Ctx) (fo:β->Oc) {kk:S->β} (f:S->γ->S) (I:Nat->S->Prop) (it:Iv Γ wi g js xs bds mi) (w:Wk Γ (G s0)) (h0:I 0 s0)
  (body:∀ (i:Nat) (x:γ) (s:S),xs[i]?=some x->I i s->I (i+1) (f s x)∧Run E (zjA js (bds x) mi (G s)) tb (.nx (G (f s x)))) (k:∀ s,s=xs.foldl f s0->I xs.length s->Run E (G s) u (fo (kk s))):Run E Γ (tSeq (zn7 wi g tb) u) (fo (Let (xs.foldl f s0) kk)):=by
 refine ziC (Δ:=G (xs.foldl f s0)) ?_ (k _ rfl (by simpa using zgH (n:=0) (I:=I) h0 λi x s e q=>by rw [Nat.zero_add] at q ⊢;exact (body i x s e q).1))
 have:=zjg (β:=Empty) G (λz=>z.elim) (λs x=>.inl (f s x)) I it w h0 (λb=>b.elim) λi x s e q=>⟨λs' z=>by cases z;exact (body i x s e q).1,(body i x s e q).2⟩
 rw [zfz] at this
 exact this
theorem zgr {S:Type} {f:S->γ->S ⊕ β} {I:Nat->S->Prop}:∀ {xs:List γ} {s s':S} {n:Nat},I n s->(∀ (i:Nat) (x:γ) (s:S),xs[i]?=some x->I (n+i) s->∀ s',f s x=.inl s'->I (n+i+1) s')->loopR f s xs=.inl s'->I (n+xs.length) s'
 | [],s,s',n,h,_,e=>by cases e;exact h
 | x :: xs,s,s',n,h,k,e=>by
  unfold loopR at e
  cases q:f s x with
  | inr b=>rw [q] at e;cases e
  | inl s1 =>
   rw [q] at e
   have h1:=k 0 x s rfl h s1 q
   have:=zgr (xs:=xs) (s:=s1) (n:=n+1) h1 (λi y s' e q=>by
    have:=k (i+1) y s' (by simpa using e) (by rw [show n+(i+1)=n+1+i by omega];exact q)
    rw [show n+1+i+1=n+(i+1)+1 by omega];exact this) e
   rw [List.length_cons,show n+(xs.length+1)=n+1+xs.length by omega]
   exact this
theorem zb7 {S:Type} {wi:TI} {g:TG} {tb:TS} {js:List Nat} {xs:List γ} {bds:γ->List Ds} {mi:Bool} {s0:S} (G:S->Ctx) (fo:α->Oc) (wr:β->α) {kk:S->α} (f:S->γ->S ⊕ β) (I:Nat->S->Prop) (hres:∀ b,zml (fo (wr b))) (it:Iv Γ wi g js xs bds mi) (w:Wk Γ (G s0)) (h0:I 0 s0)
  (body:∀ (i:Nat) (x:γ) (s:S),xs[i]?=some x->I i s->(∀ s',f s x=.inl s'->I (i+1) s')∧Run E (zjA js (bds x) mi (G s)) tb (zcw G (λb=>fo (wr b)) (f s x))) (k:∀ s,loopR f s0 xs=.inl s->I xs.length s->Run E (G s) u (fo (kk s))):Run E Γ (tSeq (zn7 wi g tb) u) (fo (LetR (loopR f s0 xs) kk wr)):=by
 have h:=zjg G (λb=>fo (wr b)) f I it w h0 (λb F0 Hb D D' e q=>(hres b).meets e q) body
 cases e:loopR f s0 xs with
 | inl s =>
  rw [e] at h
  exact ziC h (k s e (by simpa using zgr (n:=0) h0 (λi x s e q=>by rw [Nat.zero_add] at q ⊢;exact (body i x s e q).1) e))
 | inr b =>
  rw [e] at h
  exact λF0 Hb F H σ own D a q=>h F0 Hb F H σ own _ a ((hres b).meets (D:=D) rfl (show zeF E F0 Hb D (fo (wr b)) from q))
end
end L2
namespace L2
open PySem PySem.Spec PyProof.Rows PySem.Builtin PySem.Builtin.Getset_descriptor
structure XCls (K:W.Frag) (C:Addr):Prop where
 ga:W.findIn K (.ref C) "__getattribute__"=some (some (.builtin "BaseException.__getattribute__"))
 gn:W.findIn K (.ref C) "__getattr__"=some none
 cl:W.findIn K (.ref C) "__class__"=some (some (.builtin "object.__class__"))
 ob:W.mroIn K C (.type "object")=some true
 be:W.mroIn K C (.type "BaseException")=some true
 gt:W.specialIn K (.builtin "object.__class__") "__get__"=some (some (.builtin "getset_descriptor.__get__"))
 tk:W.takesIn K (.builtin "object.__class__")=some true
def XAt (h:Heap) (a C:Addr):Prop:=∃ o vs,h.get? a=some o∧o.cls=.ref C∧o.data=.fields vs
section
variable {prog:Program} {w:World} {A:Around} {E:Value->Shared->Prop} {K:W.Frag} {C a:Addr} {h:Heap} {g:Array GenState} {d:Drawn} {t:Nat} {os:OsState}
theorem XAt.ty {M:Model} (x:XAt h a C):W.Looks M h (typeOf (.ref a)) (.ref C):=by
 obtain ⟨o,vs,hx,hc,hd⟩:=x
 exact hc ▸ (W.Looks.ld hx).andThen .now
theorem zhj {tp:Value} {R:Result->Shared->Prop} (X:K.In h) (c:XCls K C) (x:XAt h a C) (hr:R (.ok (.ret (.ref C))) ⟨h,g,d,t,os⟩) :
  codeAny (model prog w) A (.call (.builtin "getset_descriptor.__get__") ⟨[.builtin "object.__class__",.ref a,tp],[]⟩) R ⟨h,g,d,t,os⟩:=by
 have L0:=x.ty (M:=model prog w)
 have L1:=W.looks_mroIn (M:=model prog w) X c.ob
 refine codeAny_call_builtin W.KF.slot_gs.plain W.KF.entry_gs (W.KF.slot_gs.check _ _ _ _ _ _ _ _ W.KF.type_class (W.KF.args_gs _ _ _) ?_)
 unfold Builtin.«getset_descriptor.__get__»
 unfold descrGet
 rw [W.dga_obj]
 refine wpAny_bind (wpAny_pure ?_)
 unfold descrGetter
 unfold descrCheckInstance descrNameAndClass
 unfold isInstance
 simp only [W.KF.owner_class]
 repeat (any_goals (first | assumption | with_reducible refine wpAny_bind (L0.at ?_) | with_reducible refine wpAny_bind (L1.at ?_) | with_reducible refine L0.at ?_ | with_reducible refine L1.at ?_ | wp_step))
 refine ⟨Code.quiet_builtin _ (by decide +kernel),codeAny_builtin (W.KF.entry_class) ?_⟩
 unfold Builtin.«object.__class__»
 unfold shownTypeOf
 repeat (any_goals (first | assumption | with_reducible refine wpAny_bind (L0.at ?_) | with_reducible refine L0.at ?_ | wp_step))
theorem zi5 {tk:Tok} {Q:Fin->Shared->Prop} (X:K.In h) (c:XCls K C) (x:XAt h a C) (hq:Q (.done (.ret (.ref C))) ⟨h,g,d,t,os⟩) :
  wpAny (model prog w) A (Builtin.«object.__getattribute__» ⟨[.ref a,.str "__class__" tk],[]⟩) Q E ⟨h,g,d,t,os⟩:=by
 have L0:=x.ty (M:=model prog w)
 have L1:=W.looks_findIn (M:=model prog w) X c.cl
 have L2:=W.looks_specialIn (M:=model prog w) X c.gt
 have L3:=W.looks_takesIn (M:=model prog w) X c.tk
 unfold Builtin.«object.__getattribute__»
 repeat (any_goals (first | assumption | with_reducible refine wpAny_bind (L0.at ?_) | with_reducible refine wpAny_bind (L1.at ?_) | with_reducible refine wpAny_bind (L2.at ?_) | with_reducible refine wpAny_bind (L3.at ?_) | wp_step))
 refine zhj X c x ?_
 repeat (any_goals (first | assumption | wp_step))
theorem zjP {nameV:Value} {Q:Unit->Shared->Prop} (X:K.In h) (c:XCls K C) (x:XAt h a C) (hq:Q () ⟨h,g,d,t,os⟩):wpAny (model prog w) A (checkBuiltinCall "BaseException.__getattribute__" ⟨[.ref a,nameV],[]⟩) Q E ⟨h,g,d,t,os⟩:=by
 have hk:builtinKind "BaseException.__getattribute__"=some .slot:=by decide +kernel
 have hsplit:splitId "BaseException.__getattribute__"=some ("BaseException","__getattribute__"):=by decide +kernel
 have L0:=x.ty (M:=model prog w)
 have L1:=W.looks_mroIn (M:=model prog w) X c.be
 have LI:W.Looks (model prog w) h (isInstance (.ref a) (.type "BaseException")) true:=L0.andThen L1
 have ha:=F.args_bexc_ga (.ref a) nameV
 simp only [checkBuiltinCall,hk,hsplit]
 refine wpAny_bind (LI.at ?_)
 repeat (any_goals (first | assumption | wp_step))
 all_goals (try exact hq)
theorem zn3 {tk:Tok} {fill expr:Bool} {Q:Value->Shared->Prop} (X:K.In h) (c:XCls K C) (x:XAt h a C) (hq:Q (.ref C) ⟨h,g,d,t,os⟩) :
  wpAny (model prog w) A (getAttrBy (.ref a) (.str "__class__" tk) fill expr) Q E ⟨h,g,d,t,os⟩:=by
 have L0:=x.ty (M:=model prog w)
 have L1:=W.looks_findIn (M:=model prog w) X c.ga
 have L2:=W.looks_findIn (M:=model prog w) X c.gn
 have f3:=(PySem.F.attr_ValueError.ga).bind (.ref a)
 have hx0:(expr&&onTheHeap (Value.builtin "BaseException.__getattribute__"))=false:=by cases expr<;>rfl
 have hx2:(Value.builtin "BaseException.__getattribute__" == Value.builtin "object.__getattribute__")=false:=by decide +kernel
 have hx1:(onTheHeap (Value.ref C)&&Value.builtin "BaseException.__getattribute__" == Value.builtin "object.__getattribute__")=false:=by rw [hx2];rfl
 unfold getAttrBy
 repeat (any_goals (first | assumption | with_reducible refine wpAny_bind (L0.at ?_) | with_reducible refine wpAny_bind (L1.at ?_) | with_reducible refine wpAny_bind (L2.at ?_) | wp_step))
 refine codeAny_call_builtin PySem.F.attr_ValueError.ga.plain F.entry_bexc_ga (zjP X c x (zi5 X c x ?_))
 repeat (any_goals (first | assumption | wp_step))
theorem zkn {Q:Option Value->Shared->Prop} (X:K.In h) (c:XCls K C) (x:XAt h a C) (hq:Q (some (.ref C)) ⟨h,g,d,t+1,os⟩) :
  wpAny (model prog w) A (getAttr? (.ref a) "__class__") Q E ⟨h,g,d,t,os⟩:=by
 unfold getAttr? getAttrBy?
 repeat (any_goals (first | assumption | with_reducible apply zn3 X c x | wp_step))
end
theorem cls_at {K:W.Frag} {C:Addr} {T:Value} {r:Bool} (e:W.mroIn K C T=some r):∃ c d cd sl,K.lookup C=some ⟨c,d,.cls cd,sl⟩:=by
 obtain ⟨cd,hc,_⟩:=Option.bind_eq_some_iff.mp e
 unfold W.clsIn at hc
 split at hc
 ·exact ⟨_,_,_,_,by assumption⟩
 ·cases hc
theorem kitx_exc {K:W.Frag} {a C:Addr} (c:XCls K C):W.KitX K (.ref a) (.ref C) (λh=>XAt h a C) where
 ty:=λ_ _ _ x=>x.ty
 it:=λM h X _=>by
  obtain ⟨c',d',cd',sl',ho⟩:=cls_at c.ob
  intro A' Q' E' s' k q
  unfold isType loadHead
  exact wpAny_bind (wpAny_loadPart (k _ _ (X _ _ ho)) (wpAny_pure q))
 ne:=λh tp dd its n sl X htp=>by
  obtain ⟨c',d',cd',sl',ho⟩:=cls_at c.ob
  refine Bool.eq_false_iff.mpr λq=>?_
  have e:C=tp:=Value.ref.inj (beq_iff_eq.mp q)
  subst e
  have z:=(X _ _ ho).symm.trans htp
  cases z
 ca:=λ{prog w A E Q s} X x k=>by
  obtain ⟨h,g,d,t,os⟩:=s
  exact zkn X c x k
def excO (a C:Addr) (fs:List (Str×V)):HO:=.ext λh=>∃ o vs,h.get? a=some o∧o.cls=.ref C∧o.data=.fields vs∧fs=[]
section
variable {X:Cx} {K:W.Frag}
theorem ziD (hK:X.K=K):zdZ X (.builtin "isinstance") (λxs H Q=>∃ a C c b,(xs=[.ref a,c])∧H a=some (excO a C [])∧XCls K C∧(∃ u,RelV c u∧(∀ u',RelV c u'->u'=u)∧W.kitOne K (.ref C) u=some b)∧Q (.bl b) H):=by
 subst hK
 intro pins s σ H xs us Q I r h
 obtain ⟨a,C,c,b,rfl,ha,hc,⟨u,hu,hu2,hk⟩,q⟩:=h
 obtain ⟨v,w',rfl,rx,ry⟩:=ziF r
 cases rx
 rw [hu2 w' ry]
 obtain ⟨⟨o,vs,h1,h2,h3,_⟩,_⟩:=(show zcG X.prog X.w H s.heap a (excO a C []) from I.hok a _ ha)
 exact W.kia_one (kitx_exc hc) I.kIn ⟨o,vs,h1,h2,h3⟩ hk (λz=>nomatch z) λtk=>⟨.bl b,H,I.tok _,rfl,q⟩
end
end L2
namespace L2
open PySem PySem.Spec PyProof.Rows
section
variable {X:Cx} {pins:List (Addr×Obj)} {σ:St} {H:Hp} {s:Shared}
theorem Inv.locals {h':Heap} {t':Nat} {m':Str->Option Value} {σ':St} (I:Inv X pins σ H s) (hs:Heap.SameBut X.env.locals s.heap h') (hn':h'.Ns X.env.locals m')
  (hl:∀ (j:Nat) (y:Str) (v:V),X.N[j]?=some y->σ'[j]?=some (some v)->Vis X.env.scope y->∃ u,RelV v u∧zpn X.env h' m' y u) (len:σ'.length=X.N.length):Inv X pins σ' H { s with heap:=h',toks:=t' }:=by
 have lt:∀ b o,X.s₀.heap.get? b=some o->b≠X.env.locals:=λb o e=>Nat.ne_of_lt (Nat.lt_of_lt_of_le (Heap.lt_size e) I.ok.above)
 refine ⟨I.ok,I.os,I.bare,⟨λb o e n hb hx=>(hs.2 b (lt b o e)).trans (I.base.keep b o e n hb hx),λb o e n hb hx=>?_,I.base.free,λb o e hx=>?_,I.base.tups,I.base.frzs,I.base.tbls⟩,⟨m',hn',hl⟩,λy c e=>?_,I.free,I.freeC,λp hp=>?_,λb u e=>?_,len⟩
 ·obtain ⟨sl,q⟩:=I.base.slot b o e n hb hx
  exact ⟨sl,(hs.2 b (lt b o e)).trans q⟩
 ·obtain ⟨o',q⟩:=I.base.there b o e hx
  exact ⟨o',(hs.2 b (lt b o e)).trans q⟩
 ·obtain ⟨w',z⟩:=I.cell y c e
  exact ⟨w',z.sameBut hs (I.cne y c e)⟩
 ·obtain ⟨e,n,ne,nf,d⟩:=I.pin p hp
  exact ⟨(hs.2 p.1 ne).trans e,n,ne,nf,d⟩
 ·refine (I.hok b u e).stay (λc v hc q=>(hs.2 c ?_).trans q) (λ_ q=>q) λ_ _ q=>q
  intro z
  have z':=I.free
  rw [← z] at z'
  rcases hc with hc | hc
  ·rw [hc,e] at z';cases z'
  ·rw [hc] at z';cases z'
end
section
variable {X:Cx} {K:W.Frag}
end
end L2
namespace L2
open PySem PySem.Spec PyProof.Rows
section
variable {X:Cx} {K:W.Frag} {e:Expr} {st:Stmt} {rest:List Stmt} {pos:Pos}
end
def rIsiB (K:W.Frag):List V->Hp->VK->Prop:=λxs H Q=>rIsi K xs H Q∨∃ a C c b,(xs=[.ref a,c])∧H a=some (excO a C [])∧XCls K C∧(∃ u,RelV c u∧(∀ u',RelV c u'->u'=u)∧W.kitOne K (.ref C) u=some b)∧Q (.bl b) H
theorem call_isiB {X:Cx} {K:W.Frag} (hK:X.K=K):zdZ X (.builtin "isinstance") (rIsiB K):=λpins s σ H xs us Q I r h=>by
 rcases h with h | h
 ·exact zid hK pins s σ H xs us Q I r h
 ·exact ziD hK pins s σ H xs us Q I r h
section
variable {E:XS} {Γ Δ Γx:Ctx} {m:Bool} {K:W.Frag} {α β ε:Type} {u:TS} {o:Oc} {ds:List Ds}
theorem zjI {v:V} {t:Value} {ta:TE} {T:String} {b:Bool} (ty:∀ H,TyOf K H v t) (h:Ev Γ ta false (dV v)) (hk:W.kitOne K t (.type T)=some b):Ev Γ (tCB (rIsiB K) (tCons ta (tCons (tC (.ty T)) tNil))) m (dB b):=λF0 Hb F H σ own Q a k =>
 h F0 Hb F H σ own _ a λv' F1 H1 g1 q1=>by
  cases q1
  exact .inl ⟨v,t,b,.inl ⟨T,rfl,hk⟩,ty H1,k _ F1 H1 g1 rfl⟩
theorem zjj {ta:TE} {T:String} {b:Bool} (h:Ev Γ ta false (dL ds)) (hk:W.kitOne K (.type "list") (.type T)=some b):Ev Γ (tCB (rIsiB K) (tCons ta (tCons (tC (.ty T)) tNil))) m (dB b):=λF0 Hb F H σ own Q a k =>
 h F0 Hb F H σ own _ a λv' F1 H1 g1 ⟨p,vs,e1,e2,e3⟩=>by
  subst e1
  exact .inl ⟨.ref p,_,b,.inl ⟨T,rfl,hk⟩,.lst (g1.fh _ _ e2),k _ F1 H1 g1 rfl⟩
end
section
variable {E:XS} {Γ:Ctx} {K:W.Frag} {α β ε:Type} {u:TS}
end
section
variable {P:Program} {w:World} {K:W.Frag} {mg:Str->Option Value} {base:Heap} {x qual:Str} {st:Stmt} {f:Addr} {fd:FuncData} {N ps:List Str} {k:Nat}
end
end L2
namespace L2
open PySem PySem.Spec PyProof.Rows
def EvN (Γ:Ctx) (t:TE) (d:Ds):Prop:=∀ (F0 Hb F H:Hp) (σ:St) (own:Nat->Option Addr) (Q:VK),At F0 Hb F H σ own Γ->(∀ v F' H',Grow F H F' H'->d.pr (off F' H) v->Q v H')->t σ H Q
def zo4:Slot->Slot
 | .va _ d=>.va false d
 | _=>.no
def zmP (Γ:Ctx):Ctx:=Γ.map zo4
theorem At.now {F0 Hb F H:Hp} {σ:St} {own:Nat->Option Addr} {Γ:Ctx} (a:At F0 Hb F H σ own Γ):At F H F H σ (λ_=>none) (zmP Γ):=by
 refine ⟨Grow.refl a.fh,λ_ _ _ h=>(nomatch h),λ_ _ h=>(nomatch h),λi s e=>?_,by unfold zmP;rw [List.length_map];exact a.len⟩
 unfold zmP at e
 rw [List.getElem?_map] at e
 cases q:Γ[i]? with
 | none=>rw [q] at e;cases e
 | some r =>
  rw [q] at e
  have e':zo4 r=s:=Option.some.inj e
  subst e'
  have h:=a.sl i r q
  cases r with
  | va m d =>
   obtain ⟨x,h1,h2⟩:=h
   exact ⟨x,h1,d.up part_sub h2⟩
  | no=>trivial
  | ow m ds=>trivial
  | ob m C p dx fs=>trivial
  | ol p ds=>trivial
  | tl d=>trivial
theorem znY {Γ:Ctx} {t:TE} {d:Ds} (h:Ev (zmP Γ) t true d):EvN Γ t d:=λF0 Hb F H σ own Q a k=>h F H F H σ _ Q a.now λv F' H' g q=>k v F' H' g q
theorem At.setTl {F0 Hb F H F' H':Hp} {σ:St} {own:Nat->Option Addr} {Γ:Ctx} (a:At F0 Hb F H σ own Γ) (g:Grow F H F' H') (i:Nat) {d:Ds} {v:V} (h:d.pr (off F' H) v):At F0 Hb F H' (σ.set i (some v)) own (Γ.set i (.tl d)):=by
 have gF:Grow F H F H':=⟨Same.refl _,a.fh.trans g.h,g.h,λ_ _ z=>z⟩
 have a':=a.grow gF
 refine ⟨a'.g,a'.inj,a'.liv,λj s e=>?_,by simp [a.len]⟩
 by_cases z:i=j
 ·subst z
  have hi:i<Γ.length:=by simpa using (List.getElem?_eq_some_iff.mp e).1
  rw [List.getElem?_set_self hi] at e
  cases e
  rw [join_set_self (by rw [a.len];exact hi)]
  refine ⟨v,off F' H,rfl,zjr.trans g.fh,λb o q=>?_,λj p q=>?_,h⟩
  ·have hb:=(off_some.mp q).1
   exact ⟨a.fh.free hb,a.g.h.free hb⟩
  ·have:=a.liv j p q
   cases w:off F' H p with
   | none=>rfl
   | some o=>exact absurd (off_some.mp w).1 this
 ·rw [List.getElem?_set_ne z] at e
  rw [zdK z]
  exact a'.sl j s e
section
variable {E:XS} {Γ:Ctx} {te:TE} {u:TS} {o:Oc} {d d1 d2:Ds} {K:W.Frag} {i j:Nat}
theorem zkC (h:EvN Γ te d) (k:Run E (Γ.set i (.tl d)) u o):Run E Γ (tSeq (zih te (zcb i)) u) o:=λF0 Hb F H σ own D a q =>
 h F0 Hb F H σ own _ a λv F' H' g p=>k F0 Hb F H' _ own D (a.setTl g i p) q
theorem zkl {α β:Type} {x:α} (f:α->Ds) (fo:β->Oc) {kk:α->β} (h:EvN Γ te (f x)) (k:∀ y,y=x->Run E (Γ.set i (.tl (f y))) u (fo (kk y))):Run E Γ (tSeq (zih te (zcb i)) u) (fo (Let x kk)):=zkC h (k x rfl)
end
def shS:Slot->Slot
 | .tl d=>.va true d
 | s=>s
def shC (Γ:Ctx):Ctx:=Γ.map shS
def zkR (Γ:Ctx):Bool:=Γ.all λs=>match s with | .ob _ _ _ _ _=>false | _=>true
open Classical in
noncomputable def wide (F Hb H:Hp) (own:Nat->Option Addr):Hp:=λa=>match F a with
 | some o=>some o
 | none=>if Hb a=none∧∀ j,own j≠some a then H a else none
theorem wide_f {F Hb H:Hp} {own:Nat->Option Addr}:Same F (wide F Hb H own):=λa o q=>by unfold wide;rw [q]
theorem zn0 {F Hb H:Hp} {own:Nat->Option Addr} (e:Same F H):Same (wide F Hb H own) H:=λa o q=>by
 unfold wide at q
 cases z:F a with
 | some o'=>rw [z] at q;cases q;exact e _ _ z
 | none =>
  rw [z] at q
  dsimp only at q
  split at q
  ·exact q
  ·cases q
theorem At.wide {F0 Hb F H:Hp} {σ:St} {own:Nat->Option Addr} {Γ:Ctx} (a:At F0 Hb F H σ own Γ) (hno:zkR Γ=true):At F0 Hb (wide F Hb H own) H σ own (shC Γ):=by
 refine ⟨⟨a.g.f.trans wide_f,zn0 a.fh,a.g.h,λb h1 h2=>?_⟩,a.inj,a.liv,λi s e=>?_,by unfold shC;rw [List.length_map];exact a.len⟩
 ·unfold L2.wide
  rw [a.g.no b h1 h2]
  dsimp only
  rw [if_neg (λz=>h1 z.1)]
 ·unfold shC at e
  rw [List.getElem?_map] at e
  cases q:Γ[i]? with
  | none=>rw [q] at e;cases e
  | some r =>
   rw [q] at e
   have e':shS r=s:=Option.some.inj e
   subst e'
   have h:=a.sl i r q
   cases r with
   | va m d =>
    obtain ⟨x,h1,h2⟩:=h
    exact ⟨x,h1,d.up (part_up wide_f) h2⟩
   | no=>trivial
   | ow m ds =>
    obtain ⟨p,vs,h1,h2,h3,h4,h5,h6⟩:=h
    refine ⟨p,vs,h1,h2,?_,h4,h5,pr_up (ds:=[]) (part_up wide_f) h6⟩
    unfold L2.wide
    rw [h3]
    dsimp only
    rw [if_neg (λz=>z.2 i h2)]
   | ol p ds =>
    obtain ⟨vs,h1,h2,h3,h4,h5,h6⟩:=h
    refine ⟨vs,h1,h2,?_,h4,h5,pr_up (ds:=[]) wide_f h6⟩
    unfold L2.wide
    rw [h3]
    dsimp only
    rw [if_neg (λz=>z.2 i h2)]
   | ob m C p dx fs =>
    have:=List.all_eq_true.mp hno _ (List.mem_of_getElem? q)
    cases this
   | tl d =>
    obtain ⟨x,R,h1,h2,h3,h4,h5⟩:=h
    refine ⟨x,h1,d.up (λb o w=>?_) h5⟩
    refine off_some.mpr ⟨(h3 b o w).2,?_⟩
    unfold L2.wide
    rw [(h3 b o w).1]
    dsimp only
    rw [if_pos ⟨(h3 b o w).2,λj z=>by rw [h4 j b z] at w;cases w⟩]
    exact h2 b o w
section
variable {E:XS} {Γ:Ctx} {t:TE} {d:Ds} {m n:Bool} {u:TS} {o:Oc}
theorem Grow.only {F H H':Hp} (e:Same F H) (g:Same H H'):Grow F H F H':=⟨Same.refl _,e.trans g,g,λ_ _ z=>z⟩
theorem Ev.borrow {v:V} (hno:zkR Γ=true) (h:Ev (shC Γ) t m (dV v)):Ev Γ t n (dV v):=λF0 Hb F H σ own Q a k =>
 h F0 Hb _ H σ own Q (a.wide hno) λx F' H' g q=>k x F H' (Grow.only a.fh g.h) q
theorem zim {t:TS} (hno:zkR Γ=true) (k:Run E (shC Γ) t o):Run E Γ t o:=λF0 Hb F H σ own D a q=>k F0 Hb _ H σ own D (a.wide hno) q
def unS:Slot->Slot
 | .tl _=>.no
 | s=>s
def unC (Γ:Ctx):Ctx:=Γ.map unS
theorem At.spoil {F0 Hb F H:Hp} {σ:St} {own:Nat->Option Addr} (a:At F0 Hb F H σ own Γ) (hno:zkR Γ=true) {p:Addr} (w:HO) (h1:F p=none) (h2:Hb p=none) (h3:∀ j,own j≠some p):At F0 Hb F (upd H p w) σ own (unC Γ):=by
 refine ⟨a.g.setH h1 h2,a.inj,λj q e=>?_,λi s e=>?_,by unfold unC;rw [List.length_map];exact a.len⟩
 ·have:q≠p:=λz=>h3 j (z ▸ e)
  rw [upd_ne this];exact a.liv j q e
 ·unfold unC at e
  rw [List.getElem?_map] at e
  cases q:Γ[i]? with
  | none=>rw [q] at e;cases e
  | some r =>
   rw [q] at e
   have e':unS r=s:=Option.some.inj e
   subst e'
   have h:=a.sl i r q
   cases r with
   | va m d=>exact h
   | no=>trivial
   | ow m ds =>
    obtain ⟨x,vs,q1,q2,q3,q4,q5,q6⟩:=h
    have:x≠p:=λz=>h3 i (z ▸ q2)
    exact ⟨x,vs,q1,q2,q3,q4,by rw [upd_ne this];exact q5,q6⟩
   | ol x ds =>
    obtain ⟨vs,q1,q2,q3,q4,q5,q6⟩:=h
    have:x≠p:=λz=>h3 i (z ▸ q2)
    exact ⟨vs,q1,q2,q3,q4,by rw [upd_ne this];exact q5,q6⟩
   | ob m C p dx fs =>
    have:=List.all_eq_true.mp hno _ (List.mem_of_getElem? q)
    cases this
   | tl d=>trivial
end
section
variable {E:XS} {Γ:Ctx} {te:TE} {u:TS} {K:W.Frag} {i j:Nat} {α β:Type} {f:α->Ds}
end
section
variable {X:Cx} {K:W.Frag}
end
end L2
namespace Lat
abbrev Vc:=Nat->Int
inductive Sp (A:Vc->Prop):Vc->Prop
 | zero:Sp A (λ_=>0)
 | add {u a:Vc} (x:Int):Sp A u->A a->Sp A (λi=>u i+x*a i)
section
variable {A B:Vc->Prop} {u v a:Vc}
theorem Sp.conv (h:Sp A u) (e:∀ i,u i=v i):Sp A v:=(funext e:u=v) ▸ h
theorem Sp.mem (h:A a):Sp A a:=(Sp.add 1 Sp.zero h).conv λi=>by grind
theorem Sp.smul (x:Int) (h:Sp A u):Sp A (λi=>x*u i):=by
 induction h with
 | zero=>exact Sp.zero.conv λi=>by grind
 | @add u a z _ ha ih=>exact (Sp.add (x*z) ih ha).conv λi=>by grind
theorem Sp.plus (h:Sp A u) (k:Sp A v):Sp A (λi=>u i+v i):=by
 induction k with
 | zero=>exact h.conv λi=>by grind
 | @add w a z _ ha ih=>exact (Sp.add z ih ha).conv λi=>by grind
theorem Sp.lin (x y:Int) (h:Sp A u) (k:Sp A v):Sp A (λi=>x*u i+y*v i):=(h.smul x).plus (k.smul y)
theorem Sp.sub (k:∀ a,A a->Sp B a) (h:Sp A u):Sp B u:=by
 induction h with
 | zero=>exact Sp.zero
 | @add u a z _ ha ih=>exact (ih.plus ((k a ha).smul z)).conv λi=>by grind
theorem Sp.mono (k:∀ a,A a->B a) (h:Sp A u):Sp B u:=h.sub λa ha=>.mem (k a ha)
theorem Sp.at0 {i:Nat} (k:∀ a,A a->a i=0) (h:Sp A u):u i=0:=by
 induction h with
 | zero=>rfl
 | @add u a z _ ha ih=>show u i+z*a i=0;rw [ih,k a ha];simp
theorem Sp.split {a:Vc} (h:Sp (λu=>A u∨u=a) v):∃ w y,Sp A w∧∀ i,v i=w i+y*a i:=by
 induction h with
 | zero=>exact ⟨_,0,.zero,λi=>by grind⟩
 | @add u b z _ hb ih =>
  obtain ⟨w,y,hw,e⟩:=ih
  rcases hb with hb | rfl
  ·exact ⟨_,y,.add z hw hb,λi=>by grind⟩
  ·exact ⟨w,y+z,hw,λi=>by grind⟩
end
def comb:List Int->List Vc->Vc
 | x :: xs,a :: as=>λi=>x*a i+comb xs as i
 | _,_=>λ_=>0
theorem zej {A:Vc->Prop}:∀ {xs:List Int} {as:List Vc},(∀ a∈as,A a)->Sp A (comb xs as)
 | [],_,_=>.zero
 | _ :: _,[],_=>.zero
 | x :: xs,a :: as,h=>(((Sp.mem (h a List.mem_cons_self)).smul x).plus (zej (xs:=xs) λb hb=>h b (List.mem_cons_of_mem _ hb))).conv λi=>by simp only [comb]
theorem zhD:∀ {xs ys:List Int} {as:List Vc} (i:Nat),xs.length=ys.length->comb (List.zipWith (·-·) xs ys) as i=comb xs as i-comb ys as i
 | [],[],_,_,_=>by simp [comb]
 | x :: xs,y :: ys,[],_,_=>by simp [comb]
 | x :: xs,y :: ys,a :: as,i,h=>by
  have:=zhD (xs:=xs) (ys:=ys) (as:=as) i (by simpa using h)
  simp only [comb,List.zipWith_cons_cons,this]
  grind
theorem zgh {X B:Nat} {i:Nat}:∀ {xs:List Int} {as:List Vc},(∀ x∈xs,x.natAbs≤X)->(∀ a∈as,(a i).natAbs≤B)->(comb xs as i).natAbs≤as.length*(X*B)
 | [],_,_,_=>by simp [comb]
 | _ :: _,[],_,_=>by simp [comb]
 | x :: xs,a :: as,h,k=>by
  have h1:=zgh (xs:=xs) (as:=as) (λy hy=>h y (List.mem_cons_of_mem _ hy)) λb hb=>k b (List.mem_cons_of_mem _ hb)
  have h2:(x*a i).natAbs≤X*B:=by rw [Int.natAbs_mul];exact Nat.mul_le_mul (h x List.mem_cons_self) (k a List.mem_cons_self)
  simp only [comb,List.length_cons,Nat.succ_mul]
  omega
theorem zln:∀ (M N:Nat) (f:Nat->Nat),M<N->(∀ n,n<N->f n<M)->∃ i j,i<j∧j<N∧f i=f j
 | 0,N,f,h,k=>absurd (k 0 h) (Nat.not_lt_zero _)
 | M+1,N,f,h,k=>by
  by_cases q:∃ i,i<N-1∧f i=f (N-1)
  ·obtain ⟨i,h1,h2⟩:=q
   exact ⟨i,N-1,h1,by omega,h2⟩
  ·have q:∀ i,i<N-1->f i≠f (N-1):=λi h1 h2=>q ⟨i,h1,h2⟩
   obtain ⟨i,j,h1,h2,h3⟩:=zln M (N-1) (λn=>if f (N-1)<f n then f n-1 else f n) (by omega) λn hn=>by
    have a:=k n (by omega)
    have b:=k (N-1) (by omega)
    have c:=q n hn
    show (if f (N-1)<f n then f n-1 else f n)<M
    split<;>omega
   refine ⟨i,j,h1,by omega,?_⟩
   have a:=q i (by omega)
   have b:=q j h2
   split at h3<;>split at h3<;>omega
def digs (b:Nat):Nat->Nat->List Int
 | 0,_=>[]
 | k+1,n=>((n%b:Nat):Int) :: digs b k (n/b)
theorem zcS {b:Nat}:∀ {k n:Nat},(digs b k n).length=k
 | 0,_=>rfl
 | k+1,n=>by simp [digs,zcS]
theorem zfV {b:Nat} (hb:0<b):∀ {k n:Nat},∀ x∈digs b k n,0≤x∧x<b
 | 0,_,x,h=>by simp [digs] at h
 | k+1,n,x,h=>by
  simp only [digs,List.mem_cons] at h
  rcases h with rfl | h
  ·have:=Nat.mod_lt n hb
   omega
  ·exact zfV hb x h
theorem zhG {b:Nat} (hb:0<b):∀ {k n m:Nat},n<b^k->m<b^k->digs b k n=digs b k m->n=m
 | 0,n,m,h1,h2,_=>by simp at h1 h2;omega
 | k+1,n,m,h1,h2,e=>by
  simp only [digs,List.cons.injEq] at e
  have h3:=zhG hb (k:=k) (Nat.div_lt_of_lt_mul (by rw [Nat.pow_succ,Nat.mul_comm] at h1;exact h1)) (Nat.div_lt_of_lt_mul (by rw [Nat.pow_succ,Nat.mul_comm] at h2;exact h2)) e.2
  have h4:=Nat.div_add_mod n b
  have h5:=Nat.div_add_mod m b
  rw [h3] at h4
  omega
def enc (W:Nat) (u:Vc):List Nat->Nat
 | []=>0
 | h :: hs=>(u h+W).toNat+(2*W+1)*enc W u hs
theorem zlm {W:Nat} {u:Vc}:∀ {hs:List Nat},(∀ h∈hs,(u h).natAbs≤W)->enc W u hs<(2*W+1)^hs.length
 | [],_=>by simp [enc]
 | h :: hs,k=>by
  have h1:=zlm (hs:=hs) λg hg=>k g (List.mem_cons_of_mem _ hg)
  have h2:=k h List.mem_cons_self
  simp only [enc,List.length_cons,Nat.pow_succ]
  have h3:(2*W+1)*(enc W u hs+1)≤(2*W+1)*(2*W+1)^hs.length:=Nat.mul_le_mul_left _ h1
  rw [Nat.mul_comm ((2*W+1)^hs.length)]
  rw [Nat.mul_add] at h3
  omega
theorem ziE {W:Nat} {u v:Vc}:∀ {hs:List Nat},(∀ h∈hs,(u h).natAbs≤W∧(v h).natAbs≤W)->enc W u hs=enc W v hs->∀ h∈hs,u h=v h
 | [],_,_,h,hh=>by simp at hh
 | g :: hs,k,e,h,hh=>by
  have h2:=k g List.mem_cons_self
  simp only [enc] at e
  have e1:((u g+W).toNat+(2*W+1)*enc W u hs)%(2*W+1)=((v g+W).toNat+(2*W+1)*enc W v hs)%(2*W+1):=by rw [e]
  rw [Nat.add_mul_mod_self_left,Nat.add_mul_mod_self_left,Nat.mod_eq_of_lt (by omega),Nat.mod_eq_of_lt (by omega)] at e1
  have e2:u g=v g:=by omega
  rcases List.mem_cons.mp hh with rfl | hh
  ·exact e2
  ·refine ziE (λx hx=>k x (List.mem_cons_of_mem _ hx)) ?_ h hh
   rw [e1] at e
   exact Nat.eq_of_mul_eq_mul_left (show 0<2*W+1 by omega) (Nat.add_left_cancel e)
theorem zk1 {as:List Vc} {hs:List Nat} {B:Nat} (hl:hs.length<as.length) (hB:∀ a∈as,∀ h∈hs,(a h).natAbs≤B) :
  ∃ xs:List Int,xs.length=as.length∧(∃ x∈xs,x≠0)∧(∀ x∈xs,x.natAbs≤(2*(as.length*B)+1)^hs.length)∧∀ h∈hs,comb xs as h=0:=by
 generalize hY:2*(as.length*B)+1=Y
 have hY1:1≤Y:=by omega
 generalize hX:Y^hs.length=X
 have hX1:1≤X:=by rw [← hX];exact Nat.one_le_pow _ _ hY1
 have key:∀ n,∀ h∈hs,(comb (digs (X+1) as.length n) as h).natAbs≤as.length*(X*B):=λn h hh =>
  zgh (λx hx=>by have:=zfV (by omega) x hx;omega) λa ha=>hB a ha h hh
 obtain ⟨i,j,h1,h2,h3⟩:=zln ((2*(as.length*(X*B))+1)^hs.length) ((X+1)^as.length) (λn=>enc (as.length*(X*B)) (comb (digs (X+1) as.length n) as) hs) (by
  have e1:2*(as.length*(X*B))+1≤Y*X:=by
   rw [← hY,Nat.add_mul,Nat.one_mul,Nat.mul_assoc,Nat.mul_assoc,Nat.mul_comm B X]
   omega
  calc (2*(as.length*(X*B))+1)^hs.length≤(Y*X)^hs.length:=Nat.pow_le_pow_left e1 _
   _=X*X^hs.length:=by rw [Nat.mul_pow,hX]
   _=X^(hs.length+1):=by rw [Nat.pow_succ,Nat.mul_comm]
   _≤X^as.length:=Nat.pow_le_pow_right hX1 hl
   _<(X+1)^as.length:=Nat.pow_lt_pow_left (by omega) (by omega)) λn _=>zlm (key n)
 refine ⟨List.zipWith (·-·) (digs (X+1) as.length i) (digs (X+1) as.length j),by simp [zcS],?_,λx hx=>?_,λh hh=>?_⟩
 ·refine Classical.byContradiction λq=>?_
  have q:∀ x∈List.zipWith (·-·) (digs (X+1) as.length i) (digs (X+1) as.length j),x=0:=λx hx=>Classical.byContradiction λz=>q ⟨x,hx,z⟩
  have e:digs (X+1) as.length i=digs (X+1) as.length j:=by
   refine List.ext_getElem (by simp [zcS]) λk k1 k2=>?_
   have:=q _ (List.getElem_mem (l:=List.zipWith (·-·) (digs (X+1) as.length i) (digs (X+1) as.length j)) (n:=k) (by simp [zcS] at *;omega))
   rw [List.getElem_zipWith] at this
   omega
  have:=zhG (by omega) (Nat.lt_trans h1 h2) h2 e
  omega
 ·obtain ⟨k,hk,rfl⟩:=List.getElem_of_mem hx
  have hk':k<as.length:=by simpa [zcS] using hk
  rw [List.getElem_zipWith]
  have:=zfV (b:=X+1) (by omega) _ (List.getElem_mem (l:=digs (X+1) as.length i) (n:=k) (by rw [zcS];exact hk'))
  have:=zfV (b:=X+1) (by omega) _ (List.getElem_mem (l:=digs (X+1) as.length j) (n:=k) (by rw [zcS];exact hk'))
  omega
 ·rw [zhD _ (by simp [zcS])]
  have:=ziE (λh hh=>⟨key i h hh,key j h hh⟩) h3 h hh
  omega
theorem first {u:Vc} {c:Nat} (h:u c≠0):∃ d,d≤c∧u d≠0∧∀ i,i<d->u i=0:=by
 induction c using Nat.strongRecOn with
 | _ c ih =>
  by_cases q:∃ i,i<c∧u i≠0
  ·obtain ⟨i,h1,h2⟩:=q
   obtain ⟨d,h3,h4⟩:=ih i h1 h2
   exact ⟨d,by omega,h4⟩
  ·exact ⟨c,Nat.le_refl c,h,λi hi=>Classical.byContradiction λz=>q ⟨i,hi,z⟩⟩
def bnd (k B C:Nat):Nat:=(k+1)*((2*((k+1)*C)+1)^k*B)
theorem zhY {k l B C:Nat} (h:k≤l):bnd k B C≤bnd l B C:=by
 unfold bnd
 refine Nat.mul_le_mul (by omega) (Nat.mul_le_mul_right _ ?_)
 refine Nat.le_trans (Nat.pow_le_pow_right (by omega) h) (Nat.pow_le_pow_left ?_ _)
 have:=Nat.mul_le_mul_right C (show k+1≤l+1 by omega)
 omega
structure Wit (A:Vc->Prop) (B E:Nat) (hs:List Nat) (as:List Vc):Prop where
 len:hs.length=as.length
 mem:∀ a∈as,A a
 bd:∀ a∈as,∀ i,(a i).natAbs≤B
 van:∀ u,Sp A u->(∀ h∈hs,u h=0)->∀ i,u i=0
 hd:∀ h∈hs,∃ v,Sp A v∧(∀ i,i<h->v i=0)∧v h≠0∧∀ i,(v i).natAbs≤E
 ind:∀ xs:List Int,xs.length=as.length->(∀ i,comb xs as i=0)->∀ x∈xs,x=0
theorem Wit.nil {B E:Nat}:Wit (λ_=>False) B E [] [] where
 len:=rfl
 mem:=by simp
 bd:=by simp
 van:=λu h _ i=>h.at0 λ_ z=>z.elim
 hd:=by simp
 ind:=λxs h _ x hx=>by rw [List.length_eq_zero_iff.mp h] at hx;simp at hx
theorem Wit.rel {A:Vc->Prop} {B C E:Nat} {hs:List Nat} {as:List Vc} {u:Vc} (W:Wit A B E hs as) (hBC:B≤C) (hu:∀ h∈hs,(u h).natAbs≤C) :
  ∃ (x:Int) (xs:List Int),x≠0∧xs.length=as.length∧x.natAbs≤(2*((as.length+1)*C)+1)^as.length∧(∀ y∈xs,y.natAbs≤(2*((as.length+1)*C)+1)^as.length)∧∀ h∈hs,x*u h+comb xs as h=0:=by
 obtain ⟨xs,h1,⟨z,hz,hz0⟩,h3,h4⟩:=zk1 (as:=u :: as) (hs:=hs) (B:=C) (by simp [W.len]) λa ha h hh=>by
  rcases List.mem_cons.mp ha with rfl | ha
  ·exact hu h hh
  ·exact Nat.le_trans (W.bd a ha h) hBC
 rw [W.len,List.length_cons] at h3
 match xs,h1 with
 | x :: xs,h1 =>
  refine ⟨x,xs,λq=>?_,by simpa using h1,h3 x List.mem_cons_self,λy hy=>h3 y (List.mem_cons_of_mem _ hy),λh hh=>by have:=h4 h hh;simpa [comb] using this⟩
  subst q
  have k1:∀ i,comb xs as i=0:=W.van _ (zej W.mem) λh hh=>by have:=h4 h hh;simpa [comb] using this
  have k2:=W.ind xs (by simpa using h1) k1
  rcases List.mem_cons.mp hz with rfl | hz
  ·exact hz0 rfl
  ·exact hz0 (k2 z hz)
theorem Wit.step {A:Vc->Prop} {B E:Nat} {hs:List Nat} {as:List Vc} {a:Vc} (W:Wit A B E hs as) (ha:∀ i,(a i).natAbs≤B) (hE:bnd as.length B B≤E) :
  ∃ hs' as',Wit (λu=>A u∨u=a) B E hs' as'∧as'.length≤as.length+1:=by
 obtain ⟨x,xs,hx,hl,b1,b2,h0⟩:=W.rel (u:=a) (Nat.le_refl B) λh _=>ha h
 have sp1:Sp A (comb xs as):=zej W.mem
 have up:∀ u,Sp A u->Sp (λu=>A u∨u=a) u:=λu hu=>hu.mono λ_=>.inl
 have hva:Sp (λu=>A u∨u=a) (λi=>x*a i+comb xs as i):=((Sp.mem (.inr rfl)).smul x).plus (up _ sp1)
 by_cases q:∃ i,x*a i+comb xs as i≠0
 ·obtain ⟨i,hi⟩:=q
  obtain ⟨c,_,hc,hc0⟩:=first (u:=λi=>x*a i+comb xs as i) hi
  refine ⟨c :: hs,a :: as,⟨by simp [W.len],λb hb=>?_,λb hb=>?_,λu hu hv=>?_,λh hh=>?_,λys hy hys=>?_⟩,by simp⟩
  ·rcases List.mem_cons.mp hb with rfl | hb
   ·exact .inr rfl
   ·exact .inl (W.mem b hb)
  ·rcases List.mem_cons.mp hb with rfl | hb
   ·exact ha
   ·exact W.bd b hb
  ·obtain ⟨w,y,hw,e⟩:=hu.split
   have k1:∀ i,x*w i-y*comb xs as i=0:=λi=>by
    have:=W.van _ (hw.lin x (-y) sp1) (λh hh=>by
     have e1:=e h
     rw [hv h (List.mem_cons_of_mem _ hh)] at e1
     have e2:=h0 h hh
     grind) i
    grind
   have k2:y=0:=by
    have e1:=e c
    rw [hv c List.mem_cons_self] at e1
    have e2:=k1 c
    have e3:y*(x*a c+comb xs as c)=0:=by grind
    rcases Int.mul_eq_zero.mp e3 with z | z
    ·exact z
    ·exact (hc z).elim
   intro i
   have e1:=e i
   have e2:=k1 i
   have e3:x*u i=0:=by grind
   exact (Int.mul_eq_zero.mp e3).resolve_left hx
  ·rcases List.mem_cons.mp hh with rfl | hh
   ·refine ⟨_,hva,hc0,hc,λi=>?_⟩
    have e1:=zgh (i:=i) b2 λb hb=>W.bd b hb i
    have e2:(x*a i).natAbs≤(2*((as.length+1)*B)+1)^as.length*B:=by rw [Int.natAbs_mul];exact Nat.mul_le_mul b1 (ha i)
    unfold bnd at hE
    rw [Nat.add_mul,Nat.one_mul] at hE
    show (x*a i+comb xs as i).natAbs≤E
    omega
   ·obtain ⟨v,q1,q2⟩:=W.hd h hh
    exact ⟨v,up v q1,q2⟩
  ·match ys,hy with
   | y :: ys,hy =>
    have k1:∀ i,x*comb ys as i-y*comb xs as i=0:=λi=>by
     have:=W.van _ ((zej (xs:=ys) W.mem).lin x (-y) sp1) (λh hh=>by
      have e1:=hys h
      simp only [comb] at e1
      have e2:=h0 h hh
      grind) i
     grind
    have k2:y=0:=by
     have e1:=hys c
     simp only [comb] at e1
     have e2:=k1 c
     have e3:y*(x*a c+comb xs as c)=0:=by grind
     rcases Int.mul_eq_zero.mp e3 with z | z
     ·exact z
     ·exact (hc z).elim
    subst k2
    have k3:=W.ind ys (by simpa using hy) λi=>by have:=hys i;simpa [comb] using this
    intro z hz
    rcases List.mem_cons.mp hz with rfl | hz
    ·rfl
    ·exact k3 z hz
 ·have q:∀ i,x*a i+comb xs as i=0:=λi=>Classical.byContradiction λz=>q ⟨i,z⟩
  refine ⟨hs,as,⟨W.len,λb hb=>.inl (W.mem b hb),W.bd,λu hu hv=>?_,λh hh=>?_,W.ind⟩,by omega⟩
  ·obtain ⟨w,y,hw,e⟩:=hu.split
   have k1:∀ i,x*w i-y*comb xs as i=0:=λi=>by
    have:=W.van _ (hw.lin x (-y) sp1) (λh hh=>by
     have e1:=e h
     rw [hv h hh] at e1
     have e2:=h0 h hh
     grind) i
    grind
   intro i
   have e1:=e i
   have e2:=k1 i
   have e3:=q i
   have e4:x*u i=0:=by grind
   exact (Int.mul_eq_zero.mp e4).resolve_left hx
  ·obtain ⟨v,q1,q2⟩:=W.hd h hh
   exact ⟨v,up v q1,q2⟩
theorem Wit.small {A:Vc->Prop} {B C E:Nat} {hs:List Nat} {as:List Vc} {u:Vc} (W:Wit A B E hs as) (hBC:B≤C) (hs_:Sp A u) (hu:∀ h∈hs,(u h).natAbs≤C) (i:Nat):(u i).natAbs≤bnd as.length B C:=by
 obtain ⟨x,xs,hx,hl,b1,b2,h0⟩:=W.rel hBC hu
 have k:=W.van _ ((hs_.smul x).plus (zej (xs:=xs) W.mem)) h0 i
 have e1:=zgh (i:=i) b2 λb hb=>W.bd b hb i
 have e2:(x*u i).natAbs=(comb xs as i).natAbs:=by
  have k:x*u i+comb xs as i=0:=k
  omega
 rw [Int.natAbs_mul] at e2
 have e3:(u i).natAbs≤x.natAbs*(u i).natAbs:=Nat.le_mul_of_pos_left _ (Int.natAbs_pos.mpr hx)
 unfold bnd
 rw [Nat.add_mul]
 omega
theorem Wit.head {A:Vc->Prop} {B E:Nat} {hs:List Nat} {as:List Vc} {u:Vc} {h:Nat} (W:Wit A B E hs as) (hu:Sp A u) (h0:∀ i,i<h->u i=0) (h1:u h≠0):h∈hs:=by
 refine Classical.byContradiction λq=>?_
 have hm:∃ n,∀ g∈hs,g<n:=by
  clear W q
  induction hs with
  | nil=>exact ⟨0,by simp⟩
  | cons g hs ih =>
   obtain ⟨n,hn⟩:=ih
   exact ⟨max n (g+1),λk hk=>by
    rcases List.mem_cons.mp hk with rfl | hk
    ·omega
    ·have:=hn k hk;omega⟩
 obtain ⟨n,hn⟩:=hm
 have main:∀ (d t:Nat) (u:Vc),n-t=d->h<t->Sp A u->u h≠0->(∀ g∈hs,g<t->u g=0)->False:=by
  intro d
  induction d with
  | zero=>exact λt u e _ hu h1 k=>h1 (W.van u hu (λg hg=>k g hg (by have:=hn g hg;omega)) h)
  | succ d ih =>
   intro t u e ht hu h1 k
   by_cases z:t∈hs
   ·obtain ⟨v,v1,v2,v3,_⟩:=W.hd t z
    refine ih (t+1) _ (by omega) (by omega) (hu.lin (v t) (-(u t)) v1) ?_ λg hg hgt=>?_
    ·show v t*u h+-u t*v h≠0
     rw [v2 h ht]
     intro y
     rcases Int.mul_eq_zero.mp (show v t*u h=0 by grind) with y | y
     ·exact v3 y
     ·exact h1 y
    ·show v t*u g+-u t*v g=0
     by_cases y:g=t
     ·subst y;grind
     ·rw [v2 g (by omega),k g hg (by omega)];grind
   ·exact ih (t+1) u (by omega) (by omega) hu h1 λg hg hgt=>k g hg (by
     have:g≠t:=λy=>z (y ▸ hg)
     omega)
 exact main _ (h+1) u rfl (by omega) hu h1 λg hg hgt=>by
  by_cases y:g=h
  ·exact (q (y ▸ hg)).elim
  ·exact h0 g (by omega)
end Lat
namespace L2
open PySem PySem.Spec PyProof.Rows
def whl {S:Type} (c:S->Bool) (f:S->S):Nat->S->S
 | 0,s=>s
 | n+1,s=>bif c s then whl c f n (f s) else s
theorem zhS {S:Type} {c:S->Bool} {f:S->S} {s:S} (h:c s=false):∀ n,whl c f n s=s
 | 0=>rfl
 | n+1=>by rw [whl,h];rfl
theorem zk4 {S:Type} {c:S->Bool} {f:S->S} {s:S} (h:c s=true) (n:Nat):whl c f (n+1) s=whl c f n (f s):=by rw [whl,h];rfl
theorem zge {S:Type} {c:S->Bool} {f:S->S} {I:S->Prop} {μ:S->Nat} (hs:∀ s,I s->c s=true->I (f s)∧μ (f s)<μ s):∀ {n:Nat} {s:S},I s->μ s≤n->I (whl c f n s)∧c (whl c f n s)=false
 | 0,s,h,k=>⟨h,by
  show c s=false
  cases q:c s with
  | false=>rfl
  | true=>have:=(hs s h q).2;omega⟩
 | n+1,s,h,k=>by
  cases q:c s with
  | false=>rw [zhS q];exact ⟨h,q⟩
  | true =>
   rw [zk4 q]
   exact zge hs (hs s h q).1 (by have:=(hs s h q).2;omega)
section
variable {E:XS} {Γ:Ctx} {β:Type} {u:TS}
theorem zgk {S:Type} {tc:TT} {tb:TS} {s0:S} (G:S->Ctx) (fo:β->Oc) {kk:S->β} (c:S->Bool) (f:S->S) (I:S->Prop) (μ:S->Nat) (n:Nat) (w:Wk Γ (G s0)) (h0:I s0) (hn:μ s0≤n)
  (body:∀ s,I s->EvT (G s) tc (c s)∧(c s=true->(I (f s)∧μ (f s)<μ s)∧Run E (G s) tb (.nx (G (f s)))))
  (k:∀ s,s=whl c f n s0->I s->c s=false->Run E (G s) u (fo (kk s))):Run E Γ (tSeq (zlp tc tb) u) (fo (Let (whl c f n s0) kk)):=λF0 Hb F H σ own D a q=>by
 obtain ⟨i1,i2⟩:=zge (n:=n) (λs hi hc=>((body s hi).2 hc).1) h0 hn
 have kf:=k _ rfl i1 i2
 refine ⟨λm σ H=>∃ s F own,At F0 Hb F H σ own (G s)∧I s∧μ s=m∧∃ j,μ s≤j∧whl c f j s=whl c f n s0,⟨_,s0,F,own,a.wk w,h0,rfl,n,hn,rfl⟩,?_⟩
 rintro m σ1 H1 ⟨s,F1,own1,a1,hI,rfl,j,hj,ej⟩
 obtain ⟨b1,b2⟩:=body s hI
 refine b1 F0 Hb F1 H1 σ1 own1 _ a1 λF2 H2 g=>?_
 cases e:c s with
 | false =>
  rw [if_neg Bool.false_ne_true]
  rw [zhS e] at ej
  rw [← ej] at kf
  exact kf F0 Hb F2 H2 σ1 own1 D (a1.grow g) (by rw [ej];exact q)
 | true =>
  rw [if_pos rfl]
  obtain ⟨⟨c1,c2⟩,c3⟩:=b2 e
  refine ⟨λσ' H'=>∃ F own,At F0 Hb F H' σ' own (G (f s)),λσ' H' ⟨F',own',a'⟩=>⟨_,c2,f s,F',own',a',c1,rfl,j-1,by omega,?_⟩,?_⟩
  ·rw [← ej,show j=(j-1)+1 by omega,zk4 e];simp
  ·exact c3 F0 Hb F2 H2 σ1 own1 _ (a1.grow g) λF' H' σ' own' a'=>⟨F',own',a'⟩
end
end L2
namespace Lat
def vec (l:List Int):Vc:=λi=>l.getD i 0
def hd:List Int->Nat
 | []=>0
 | x :: xs=>bif (!decide (x=0)) then 0 else hd xs+1
def add (l s:List Int):List Int:=List.map (λ(x:Int×Int)=>x.1+x.2) (List.zip l s)
def sub (l s:List Int):List Int:=List.map (λ(x:Int×Int)=>x.1-x.2) (List.zip l s)
def mul (l:List Int) (c:Int):List Int:=List.map (λ(x:Int)=>x*c) l
theorem zjy {x:Int} {xs:List Int}:vec (x :: xs) 0=x:=rfl
theorem zaN {x:Int} {xs:List Int} {i:Nat}:vec (x :: xs) (i+1)=vec xs i:=by simp [vec]
theorem zcv {l:List Int} {i:Nat} (h:l.length≤i):vec l i=0:=by simp [vec,List.getD_eq_getElem?_getD,List.getElem?_eq_none h]
theorem zjN {l:List Int} {i:Nat} (h:i<l.length):vec l i∈l:=by
 simp only [vec,List.getD_eq_getElem?_getD,List.getElem?_eq_getElem h,Option.getD_some];exact List.getElem_mem h
theorem zfS {l:List Int} {x:Int} (h:x∈l):∃ i,i<l.length∧vec l i=x:=by
 obtain ⟨i,hi,e⟩:=List.getElem_of_mem h
 exact ⟨i,hi,by simp [vec,List.getD_eq_getElem?_getD,List.getElem?_eq_getElem hi,e]⟩
theorem zg1 {l s:List Int} (h:l.length=s.length) (e:∀ i,vec l i=vec s i):l=s:=by
 refine List.ext_getElem h λi h1 h2=>?_
 have:=e i
 simpa [vec,List.getD_eq_getElem?_getD,List.getElem?_eq_getElem h1,List.getElem?_eq_getElem h2] using this
theorem zjs {l:List Int} {B:Nat} (h:∀ x∈l,x.natAbs≤B) (i:Nat):(vec l i).natAbs≤B:=by
 by_cases q:i<l.length
 ·exact h _ (zjN q)
 ·rw [zcv (by omega)];exact Nat.zero_le _
theorem zj2 {l s:List Int} (h:l.length=s.length):(sub l s).length=l.length:=by simp [sub,h]
theorem zl1 {l s:List Int} (h:l.length=s.length):(add l s).length=l.length:=by simp [add,h]
theorem zbc {l:List Int} {c:Int}:(mul l c).length=l.length:=by simp [mul]
theorem zg0:∀ {l s:List Int} {i:Nat},l.length=s.length->vec (sub l s) i=vec l i-vec s i
 | [],[],i,_=>by simp [sub,vec]
 | x :: l,y :: s,0,_=>rfl
 | x :: l,y :: s,i+1,h=>by
  have:=zg0 (l:=l) (s:=s) (i:=i) (by simpa using h)
  rw [zaN,zaN,← this]
  exact zaN
theorem zis:∀ {l s:List Int} {i:Nat},l.length=s.length->vec (add l s) i=vec l i+vec s i
 | [],[],i,_=>by simp [add,vec]
 | x :: l,y :: s,0,_=>rfl
 | x :: l,y :: s,i+1,h=>by
  have:=zis (l:=l) (s:=s) (i:=i) (by simpa using h)
  rw [zaN,zaN,← this]
  exact zaN
theorem zdd:∀ {l:List Int} {c:Int} {i:Nat},vec (mul l c) i=vec l i*c
 | [],c,i=>by simp [mul,vec]
 | x :: l,c,0=>rfl
 | x :: l,c,i+1=>by
  have:=zdd (l:=l) (c:=c) (i:=i)
  rw [zaN,← this]
  exact zaN
theorem zjJ:∀ {l:List Int},hd l≤l.length
 | []=>Nat.le_refl 0
 | x :: xs=>by
  unfold hd
  cases (!decide (x=0))
  ·exact Nat.succ_le_succ zjJ
  ·exact Nat.zero_le _
theorem zaY:∀ {l:List Int} {i:Nat},i<hd l->vec l i=0
 | [],i,h=>absurd h (Nat.not_lt_zero i)
 | x :: xs,i,h=>by
  unfold hd at h
  by_cases q:x=0
  ·rw [show (!decide (x=0))=false by simp [q]] at h
   have h:i<hd xs+1:=h
   cases i with
   | zero=>exact q
   | succ i=>rw [zaN];exact zaY (by omega)
  ·rw [show (!decide (x=0))=true by simp [q]] at h
   exact absurd h (Nat.not_lt_zero i)
theorem zfr:∀ {l:List Int},hd l<l.length->vec l (hd l)≠0
 | [],h=>absurd h (Nat.not_lt_zero _)
 | x :: xs,h=>by
  unfold hd at h ⊢
  by_cases q:x=0
  ·rw [show (!decide (x=0))=false by simp [q]] at h ⊢
   have h:hd xs+1<xs.length+1:=h
   show vec (x :: xs) (hd xs+1)≠0
   rw [zaN]
   exact zfr (by omega)
  ·rw [show (!decide (x=0))=true by simp [q]]
   exact q
theorem ziS {l:List Int} {d:Nat} (h:vec l d≠0) (k:∀ i,i<d->vec l i=0):hd l=d:=by
 have h1:¬ hd l<d:=λq=>by
  have hl:d<l.length:=Nat.lt_of_not_le λz=>h (zcv z)
  exact zfr (by omega) (k _ q)
 have h2:¬ d<hd l:=λq=>h (zaY q)
 omega
theorem zmu {l:List Int} {d:Nat} (hl:d≤l.length) (k:∀ i,i<d->vec l i=0):d≤hd l:=by
 refine Nat.le_of_not_lt λq=>?_
 exact zfr (by omega) (k _ q)
def quo (l s:List Int):Int:=vec l (hd s)/vec s (hd s)
def zfG (l s:List Int):List Int:=bif (!decide (quo l s=0)) then sub l (mul s (quo l s)) else l
def low (l:List Int) (ss:List (List Int)):List Int:=ss.foldl zfG l
theorem zed {l s:List Int} (h:l.length=s.length):(zfG l s).length=l.length:=by
 unfold zfG
 cases (!decide (quo l s=0))
 ·rfl
 ·show (sub l (mul s (quo l s))).length=_
  rw [zj2 (by rw [zbc];exact h)]
theorem zdW {l s:List Int} (h:l.length=s.length) (i:Nat):vec (zfG l s) i=vec l i-vec s i*quo l s:=by
 unfold zfG
 by_cases q:quo l s=0
 ·rw [show (!decide (quo l s=0))=false by simp [q],q]
  show vec l i=_
  omega
 ·rw [show (!decide (quo l s=0))=true by simp [q]]
  show vec (sub l (mul s (quo l s))) i=_
  rw [zg0 (by rw [zbc];exact h),zdd]
def Ech (n:Nat):Nat->List (List Int)->Prop
 | _,[]=>True
 | lo,s :: ss=>s.length=n∧lo≤hd s∧hd s<n∧0<vec s (hd s)∧Ech n (hd s+1) ss
def SpL (ss:List (List Int)):Vc->Prop:=Sp (λu=>∃ s∈ss,u=vec s)
theorem Ech.mono {n:Nat}:∀ {ss:List (List Int)} {lo lo':Nat},Ech n lo ss->lo'≤lo->Ech n lo' ss
 | [],_,_,_,_=>trivial
 | s :: ss,lo,lo',h,k=>⟨h.1,Nat.le_trans k h.2.1,h.2.2⟩
theorem Ech.mem {n:Nat}:∀ {ss:List (List Int)} {lo:Nat},Ech n lo ss->∀ t∈ss,t.length=n∧lo≤hd t∧hd t<n∧0<vec t (hd t)
 | [],_,_,t,h=>by simp at h
 | s :: ss,lo,h,t,ht=>by
  rcases List.mem_cons.mp ht with rfl | ht
  ·exact ⟨h.1,h.2.1,h.2.2.1,h.2.2.2.1⟩
  ·obtain ⟨a,b,c,d⟩:=Ech.mem h.2.2.2.2 t ht
   have:=h.2.1
   exact ⟨a,by omega,c,d⟩
theorem Ech.before {n lo i:Nat} {ss:List (List Int)} (h:Ech n lo ss) (hi:i<lo):∀ t∈ss,vec t i=0:=λt ht=>zaY (by have:=(h.mem t ht).2.1;omega)
theorem SpL.before {n lo i:Nat} {ss:List (List Int)} {u:Vc} (h:Ech n lo ss) (hi:i<lo) (hu:SpL ss u):u i=0:=Sp.at0 (λa ⟨s,hs,e⟩=>by rw [e];exact h.before hi s hs) hu
theorem SpL.cons {s:List Int} {ss:List (List Int)} {u:Vc} (h:SpL (s :: ss) u):∃ w y,SpL ss w∧∀ i,u i=w i+y*vec s i:=by
 have:Sp (λu=>(∃ t∈ss,u=vec t)∨u=vec s) u:=Sp.mono (λa ⟨t,ht,e⟩=>by
  rcases List.mem_cons.mp ht with rfl | ht
  ·exact .inr e
  ·exact .inl ⟨t,ht,e⟩) h
 exact this.split
theorem SpL.mem {ss:List (List Int)} {s:List Int} (h:s∈ss):SpL ss (vec s):=Sp.mem ⟨s,h,rfl⟩
theorem SpL.up {s:List Int} {ss:List (List Int)} {u:Vc} (h:SpL ss u):SpL (s :: ss) u:=Sp.mono (λ_ ⟨t,ht,e⟩=>⟨t,List.mem_cons_of_mem _ ht,e⟩) h
theorem SpL.sub {ss tt:List (List Int)} {u:Vc} (k:∀ s∈ss,SpL tt (vec s)) (h:SpL ss u):SpL tt u:=Sp.sub (λ_ ⟨s,hs,e⟩=>e ▸ k s hs) h
theorem zhv {n:Nat}:∀ {ss:List (List Int)} {lo:Nat} {u:Vc},Ech n lo ss->SpL ss u->(∀ t∈ss,0≤u (hd t)∧u (hd t)<vec t (hd t))->∀ i,u i=0
 | [],_,u,_,h,_,i=>Sp.at0 (λ_ ⟨_,z,_⟩=>by simp at z) h
 | s :: ss,lo,u,e,h,k,i=>by
  obtain ⟨w,y,hw,hu⟩:=h.cons
  have e1:=SpL.before e.2.2.2.2 (Nat.lt_succ_self (hd s)) hw
  have e2:=hu (hd s)
  have e3:=k s List.mem_cons_self
  have e4:=e.2.2.2.1
  rw [e1] at e2
  have y0:y=0:=by
   rw [e2,Int.zero_add] at e3
   refine Classical.byContradiction λq=>?_
   rcases Int.lt_or_gt_of_ne q with q | q
   ·have:=Int.mul_neg_of_neg_of_pos q e4
    omega
   ·have:=Int.mul_le_mul_of_nonneg_right (show (1:Int)≤y by omega) (Int.le_of_lt e4)
    omega
  have hu':∀ i,u i=w i:=λi=>by rw [hu i,y0];omega
  have:u=w:=funext hu'
  subst this
  exact zhv e.2.2.2.2 hw (λt ht=>k t (List.mem_cons_of_mem _ ht)) i
theorem zfQ {n:Nat}:∀ {ss:List (List Int)} {lo:Nat} {u:Vc} {t:List Int},Ech n lo ss->SpL ss u->t∈ss->(∀ i,i<hd t->u i=0)->vec t (hd t) ∣ u (hd t)
 | [],_,_,t,_,_,h,_=>by simp at h
 | s :: ss,lo,u,t,e,h,ht,k=>by
  obtain ⟨w,y,hw,hu⟩:=h.cons
  have e1:=SpL.before e.2.2.2.2 (Nat.lt_succ_self (hd s)) hw
  rcases List.mem_cons.mp ht with rfl | ht
  ·rw [hu,e1];exact ⟨y,by grind⟩
  ·have e5:=(Ech.mem e.2.2.2.2 t ht).2.1
   have e6:=hu (hd s)
   rw [k (hd s) (by omega),e1] at e6
   have y0:y=0:=(Int.mul_eq_zero.mp (show y*vec s (hd s)=0 by omega)).resolve_right (by have:=e.2.2.2.1;omega)
   have:u=w:=funext λi=>by rw [hu i,y0];omega
   subst this
   exact zfQ e.2.2.2.2 hw ht k
theorem zeH {n:Nat}:∀ {ss:List (List Int)} {lo:Nat} {u:Vc} {h:Nat},Ech n lo ss->SpL ss u->(∀ i,i<h->u i=0)->u h≠0->∃ t∈ss,hd t=h
 | [],_,u,h,_,hu,_,q=>(q (Sp.at0 (λ_ ⟨_,z,_⟩=>by simp at z) hu)).elim
 | s :: ss,lo,u,h,e,hu,k,q=>by
  obtain ⟨w,y,hw,hu⟩:=hu.cons
  by_cases z:hd s=h
  ·exact ⟨s,List.mem_cons_self,z⟩
  ·have e1:=SpL.before e.2.2.2.2 (Nat.lt_succ_self (hd s)) hw
   by_cases y0:y=0
   ·have:u=w:=funext λi=>by rw [hu i,y0];omega
    subst this
    obtain ⟨t,ht,e⟩:=zeH e.2.2.2.2 hw k q
    exact ⟨t,List.mem_cons_of_mem _ ht,e⟩
   ·have e6:=hu (hd s)
    rw [e1,Int.zero_add] at e6
    have e7:u (hd s)≠0:=by
     rw [e6];intro z;rcases Int.mul_eq_zero.mp z with z | z
     ·exact y0 z
     ·have:=e.2.2.2.1;omega
    have e8:h<hd s:=Nat.lt_of_not_le λz'=>e7 (k _ (by omega))
    have e9:w h=0:=SpL.before e.2.2.2.2 (Nat.lt_succ_of_lt e8) hw
    rw [hu h,e9,zaY e8] at q
    simp at q
theorem zcA {n:Nat}:∀ {ss:List (List Int)} {lo:Nat} {l:List Int},Ech n lo ss->l.length=n →
  (low l ss).length=n∧SpL ss (λi=>vec l i-vec (low l ss) i)∧(∀ t∈ss,0≤vec (low l ss) (hd t)∧vec (low l ss) (hd t)<vec t (hd t))∧∀ i,i<lo->vec (low l ss) i=vec l i
 | [],lo,l,_,h=>⟨h,Sp.zero.conv λi=>by show (0:Int)=vec l i-vec l i;omega,by simp,λ_ _=>rfl⟩
 | s :: ss,lo,l,e,h=>by
  have hl:l.length=s.length:=by rw [h,e.1]
  obtain ⟨a,b,c,d⟩:=zcA (l:=zfG l s) e.2.2.2.2 (by rw [zed hl,h])
  refine ⟨a,?_,λt ht=>?_,λi hi=>?_⟩
  ·refine ((SpL.up (s:=s) b).plus ((SpL.mem (ss:=s :: ss) List.mem_cons_self).smul (quo l s))).conv λi=>?_
   rw [zdW hl]
   show vec l i-vec s i*quo l s-vec (low (zfG l s) ss) i+quo l s*vec s i=vec l i-vec (low (zfG l s) ss) i
   rw [Int.mul_comm (quo l s)];omega
  ·rcases List.mem_cons.mp ht with rfl | ht
   ·show 0≤vec (low (zfG l t) ss) (hd t)∧vec (low (zfG l t) ss) (hd t)<_
    rw [d (hd t) (Nat.lt_succ_self _),zdW hl]
    have p:=e.2.2.2.1
    have e1:=Int.mul_ediv_add_emod (vec l (hd t)) (vec t (hd t))
    have e2:=Int.emod_nonneg (vec l (hd t)) (show vec t (hd t)≠0 by omega)
    have e3:=Int.emod_lt_of_pos (vec l (hd t)) p
    unfold quo
    omega
   ·exact c t ht
  ·show vec (low (zfG l s) ss) i=_
   have:=e.2.1
   rw [d i (by omega),zdW hl,zaY (show i<hd s by omega)];omega
end Lat
namespace Lat
abbrev G4:=Int×Int×Int×Int
def cmC (s:G4):Bool:=!decide (s.2.1=(0:Int))
def cmF (s:G4):G4:=(s.2.1,s.1-s.1/s.2.1*s.2.1,s.2.2.2,s.2.2.1-s.1/s.2.1*s.2.2.2)
structure GI (one other:Int) (s:G4):Prop where
 g:0<s.1
 m:0≤s.2.1
 gb:s.1≤one+other
 mb:s.2.1≤one+other
 tb:-other≤s.2.2.1∧s.2.2.1≤other
 lb:-other≤s.2.2.2∧s.2.2.2≤other
 sg:(0≤s.2.2.1∧s.2.2.2≤0∧s.2.1*s.2.2.1-s.1*s.2.2.2=other)∨(s.2.2.1≤0∧0≤s.2.2.2∧s.1*s.2.2.2-s.2.1*s.2.2.1=other)
 bg:∃ y,s.1=s.2.2.1*one+y*other
 bm:∃ y,s.2.1=s.2.2.2*one+y*other
 d1:∃ p q,one=p*s.1+q*s.2.1
 d2:∃ p q,other=p*s.1+q*s.2.1
theorem GI.start {one other:Int} (h1:0<one) (h2:0<other):GI one other (one,other,1,0) where
 g:=h1
 m:=by show 0≤other;omega
 gb:=by show one≤one+other;omega
 mb:=by show other≤one+other;omega
 tb:=by show -other≤1∧1≤other;omega
 lb:=by show -other≤0∧0≤other;omega
 sg:=.inl (by show (0:Int)≤1∧(0:Int)≤0∧other*1-one*0=other;omega)
 bg:=⟨0,by show one=1*one+0*other;omega⟩
 bm:=⟨1,by show other=0*one+1*other;omega⟩
 d1:=⟨1,0,by show one=1*one+0*other;omega⟩
 d2:=⟨0,1,by show other=0*one+1*other;omega⟩
theorem GI.step {one other:Int} {s:G4} (I:GI one other s) (hc:cmC s=true):GI one other (cmF s)∧(cmF s).2.1.toNat<s.2.1.toNat:=by
 obtain ⟨g,m,t,l⟩:=s
 obtain ⟨h1,h2,h3,h4,h5,h6,h7,⟨y1,h8⟩,⟨y2,h9⟩,⟨p1,q1,hA⟩,⟨p2,q2,hB⟩⟩:=I
 simp only at h1 h2 h3 h4 h5 h6 h7 h8 h9 hA hB
 have hm:0<m:=by
  unfold cmC at hc
  simp only [Bool.not_eq_true',decide_eq_false_iff_not] at hc
  omega
 have e1:=Int.mul_ediv_add_emod g m
 have e2:=Int.emod_nonneg g (show m≠0 by omega)
 have e3:=Int.emod_lt_of_pos g hm
 have e4:0≤g/m:=Int.ediv_nonneg (by omega) (by omega)
 have e5:g-g/m*m=g%m:=by rw [Int.mul_comm];omega
 show GI one other (m,g-g/m*m,l,t-g/m*l)∧(g-g/m*m).toNat<m.toNat
 rw [e5]
 generalize hq:g/m=q at *
 generalize hr:g%m=r at *
 have eg:g=m*q+r:=by omega
 have sg:(0≤l∧t-q*l≤0∧r*l-m*(t-q*l)=other)∨(l≤0∧0≤t-q*l∧m*(t-q*l)-r*l=other):=by
  rcases h7 with ⟨a,b,c⟩ | ⟨a,b,c⟩
  ·refine .inr ⟨b,?_,by grind⟩
   have:=Int.mul_nonneg e4 (show (0:Int)≤-l by omega)
   grind
  ·refine .inl ⟨b,?_,by grind⟩
   have:=Int.mul_nonneg e4 b
   omega
 have hl:-other≤t-q*l∧t-q*l≤other:=by
  rcases sg with ⟨a,b,c⟩ | ⟨a,b,c⟩
  ·have k1:=Int.mul_nonneg e2 a
   have k2:=Int.mul_le_mul_of_nonneg_right (show (1:Int)≤m by omega) (show (0:Int)≤-(t-q*l) by omega)
   have k3:m*-(t-q*l)=-(m*(t-q*l)):=by grind
   rw [k3] at k2
   omega
  ·have k1:=Int.mul_nonneg e2 (show (0:Int)≤-l by omega)
   have k2:=Int.mul_le_mul_of_nonneg_right (show (1:Int)≤m by omega) b
   have k3:r*-l=-(r*l):=by grind
   rw [k3] at k1
   omega
 refine ⟨⟨hm,e2,h4,by show r≤_;omega,h6,hl,sg,⟨y2,h9⟩,⟨y1-q*y2,?_⟩,⟨p1*q+q1,p1,?_⟩,⟨p2*q+q2,p2,?_⟩⟩,by omega⟩
 ·show r=(t-q*l)*one+(y1-q*y2)*other
  grind
 ·show one=(p1*q+q1)*m+p1*r
  grind
 ·show other=(p2*q+q2)*m+p2*r
  grind
structure Cm (one other g x y:Int):Prop where
 pos:0<g
 le:g≤one+other
 xb:-other≤x∧x≤other
 eq:g=x*one+y*other
 d1:one/g*g=one
 d2:other/g*g=other
theorem GI.done {one other:Int} {s:G4} (h2:0<other) (I:GI one other s) (hc:cmC s=false):Cm one other s.1 s.2.2.1 ((s.1-s.2.2.1*one)/other):=by
 obtain ⟨g,m,t,l⟩:=s
 obtain ⟨h1,_,h3,_,h5,_,_,⟨y1,h8⟩,_,⟨p1,q1,hA⟩,⟨p2,q2,hB⟩⟩:=I
 simp only at h1 h3 h5 h8 hA hB
 have hm:m=0:=by
  unfold cmC at hc
  simpa using hc
 subst hm
 have e:(g-t*one)/other=y1:=by
  rw [show g-t*one=y1*other by omega]
  exact Int.mul_ediv_cancel _ (by omega)
 refine ⟨h1,h3,h5,?_,?_,?_⟩
 ·show g=t*one+(g-t*one)/other*other
  rw [e];exact h8
 ·exact Int.ediv_mul_cancel ⟨p1,by show one=g*p1;rw [Int.mul_comm];omega⟩
 ·exact Int.ediv_mul_cancel ⟨p2,by show other=g*p2;rw [Int.mul_comm];omega⟩
def mg1 (s l:List Int) (x y:Int):List Int:=add (mul s x) (mul l y)
def mg2 (s l:List Int) (g:Int):List Int:=sub (mul l (vec s (hd s)/g)) (mul s (vec l (hd s)/g))
theorem ze4 {s l:List Int} {x y:Int} (h:s.length=l.length) (i:Nat):vec (mg1 s l x y) i=x*vec s i+y*vec l i:=by
 unfold mg1
 rw [zis (by rw [zbc,zbc,h]),zdd,zdd,Int.mul_comm,Int.mul_comm (vec l i)]
theorem zf4 {s l:List Int} {g:Int} (h:s.length=l.length) (i:Nat):vec (mg2 s l g) i=vec s (hd s)/g*vec l i-vec l (hd s)/g*vec s i:=by
 unfold mg2
 rw [zg0 (by rw [zbc,zbc,h]),zdd,zdd,Int.mul_comm,Int.mul_comm (vec s i)]
theorem zi8 {s l:List Int} {x y:Int} (h:s.length=l.length):(mg1 s l x y).length=s.length:=by unfold mg1;rw [zl1 (by rw [zbc,zbc,h]),zbc]
theorem zjB {s l:List Int} {g:Int} (h:s.length=l.length):(mg2 s l g).length=s.length:=by unfold mg2;rw [zj2 (by rw [zbc,zbc,h]),zbc,h]
theorem zjl {s l:List Int} {g x y:Int} (h:s.length=l.length) (C:Cm (vec s (hd s)) (vec l (hd s)) g x y) (i:Nat) :
  vec s i=vec s (hd s)/g*vec (mg1 s l x y) i-y*vec (mg2 s l g) i∧vec l i=vec l (hd s)/g*vec (mg1 s l x y) i+x*vec (mg2 s l g) i:=by
 rw [ze4 h,zf4 h]
 have e1:=C.eq
 have e2:=C.d1
 have e3:=C.d2
 have e4:=C.pos
 generalize vec s (hd s)=a at *
 generalize vec l (hd s)=b at *
 generalize a/g=p at *
 generalize b/g=q at *
 have u:x*p+y*q=1:=by
  have:(x*p+y*q-1)*g=0:=by grind
  rcases Int.mul_eq_zero.mp this with z | z<;>omega
 constructor<;>grind
def upr (l:List Int):List Int:=bif decide (vec l (hd l)<(0:Int)) then mul l (-(1:Int)) else l
theorem ziL {l:List Int}:(upr l).length=l.length:=by
 unfold upr
 cases decide (vec l (hd l)<(0:Int))
 ·rfl
 ·exact zbc
theorem zgX {l:List Int}:∃ c:Int,c*c=1∧(∀ i,vec (upr l) i=c*vec l i)∧0≤c*vec l (hd l):=by
 unfold upr
 by_cases q:vec l (hd l)<0
 ·rw [show decide (vec l (hd l)<(0:Int))=true by simp [q]]
  exact ⟨-1,by decide,λi=>by show vec (mul l (-(1:Int))) i=_;rw [zdd];omega,by omega⟩
 ·rw [show decide (vec l (hd l)<(0:Int))=false by simp [q]]
  exact ⟨1,by decide,λi=>by show vec l i=_;omega,by omega⟩
theorem zlc {l:List Int} (h:hd l<l.length):hd (upr l)=hd l∧0<vec (upr l) (hd l):=by
 obtain ⟨c,c1,c2,c3⟩:=zgX (l:=l)
 have e:=zfr h
 have c0:c≠0:=by intro z;subst z;simp at c1
 have e1:c*vec l (hd l)≠0:=λz=>by
  rcases Int.mul_eq_zero.mp z with z | z
  ·exact c0 z
  ·exact e z
 refine ⟨ziS (by rw [c2];exact e1) λi hi=>by rw [c2,zaY hi];simp,by rw [c2];omega⟩
theorem zlf {l:List Int} {ss:List (List Int)} (h:SpL ss (vec l)):SpL ss (vec (upr l)):=by
 obtain ⟨c,_,c2,_⟩:=zgX (l:=l)
 exact (Sp.smul c h).conv λi=>(c2 i).symm
theorem zjE {l:List Int} {ss:List (List Int)} (h:SpL ss (vec (upr l))):SpL ss (vec l):=by
 obtain ⟨c,c1,c2,_⟩:=zgX (l:=l)
 exact (Sp.smul c h).conv λi=>by rw [c2,← Int.mul_assoc,c1,Int.one_mul]
structure Mg where
 f:Int->Int->Int×Int×Int
 ok:∀ a b:Int,0<a->0<b->Cm a b (f a b).1 (f a b).2.1 (f a b).2.2
def tin (M:Mg):List (List Int)->List Int->List (List Int)
 | [],l=>bif decide (hd l<l.length) then [upr l] else []
 | s :: ss,l=>bif decide (hd l<hd s) then upr l :: s :: ss else
   bif decide (hd l=hd s) then mg1 s l (M.f (vec s (hd s)) (vec l (hd s))).2.1 (M.f (vec s (hd s)) (vec l (hd s))).2.2 :: tin M ss (low (mg2 s l (M.f (vec s (hd s)) (vec l (hd s))).1) ss) else s :: tin M ss l
theorem zeI (M:Mg) {n:Nat}:∀ {ss:List (List Int)} {lo:Nat} {l:List Int},Ech n lo ss->l.length=n->(∀ i,i<lo->vec l i=0)->(∀ t∈ss,0≤vec l (hd t)∧vec l (hd t)<vec t (hd t))->lo≤n →
  Ech n lo (tin M ss l)∧(tin M ss l).length≤ss.length+1∧(∀ t∈tin M ss l,SpL (l :: ss) (vec t))∧(∀ t∈l :: ss,SpL (tin M ss l) (vec t))
 | [],lo,l,_,hl,h0,_,hlo=>by
  unfold tin
  by_cases q:hd l<l.length
  ·rw [show decide (hd l<l.length)=true by simp [q],cond_true]
   obtain ⟨e1,e2⟩:=zlc q
   refine ⟨⟨by rw [ziL,hl],by rw [e1];exact zmu (by omega) h0,by rw [e1];omega,by rw [e1];exact e2,trivial⟩,by simp,λt ht=>?_,λt ht=>?_⟩
   ·rw [List.mem_singleton.mp ht];exact zlf (SpL.mem List.mem_cons_self)
   ·rw [List.mem_singleton.mp ht];exact zjE (SpL.mem List.mem_cons_self)
  ·rw [show decide (hd l<l.length)=false by simp [q],cond_false]
   have hz:hd l=l.length:=by have:=zjJ (l:=l);omega
   refine ⟨trivial,by simp,by simp,λt ht=>?_⟩
   rw [List.mem_singleton.mp ht]
   exact Sp.zero.conv λi=>by
    by_cases z:i<l.length
    ·rw [zaY (by omega)]
    ·rw [zcv (by omega)]
 | s :: ss,lo,l,e,hl,h0,hr,hlo=>by
  unfold tin
  have hsl:s.length=l.length:=by rw [e.1,hl]
  by_cases q:hd l<hd s
  ·rw [show decide (hd l<hd s)=true by simp [q],cond_true]
   have hsn:=e.2.2.1
   obtain ⟨e1,e2⟩:=zlc (l:=l) (by omega)
   refine ⟨⟨by rw [ziL,hl],by rw [e1];exact zmu (by omega) h0,by rw [e1];omega,by rw [e1];exact e2,e.1,by rw [e1];omega,e.2.2⟩,by simp,λt ht=>?_,λt ht=>?_⟩
   ·rcases List.mem_cons.mp ht with rfl | ht
    ·exact zlf (SpL.mem List.mem_cons_self)
    ·exact SpL.mem (List.mem_cons_of_mem _ ht)
   ·rcases List.mem_cons.mp ht with rfl | ht
    ·exact zjE (SpL.mem List.mem_cons_self)
    ·exact SpL.mem (List.mem_cons_of_mem _ ht)
  ·rw [show decide (hd l<hd s)=false by simp [q],cond_false]
   by_cases z:hd l=hd s
   ·rw [show decide (hd l=hd s)=true by simp [z],cond_true]
    have hb:0<vec l (hd s):=by
     have:=(hr s List.mem_cons_self).1
     have:=zfr (l:=l) (by rw [z,hl];exact e.2.2.1)
     rw [z] at this;omega
    have C:=M.ok _ _ e.2.2.2.1 hb
    generalize hg:(M.f (vec s (hd s)) (vec l (hd s))).1=g at *
    generalize hx:(M.f (vec s (hd s)) (vec l (hd s))).2.1=x at *
    generalize hy:(M.f (vec s (hd s)) (vec l (hd s))).2.2=y at *
    have f0:∀ i,i<hd s->vec (mg1 s l x y) i=0:=λi hi=>by rw [ze4 hsl,zaY hi,zaY (show i<hd l by omega)];omega
    have f1:vec (mg1 s l x y) (hd s)=g:=by rw [ze4 hsl];exact C.eq.symm
    have f2:hd (mg1 s l x y)=hd s:=ziS (by rw [f1];have:=C.pos;omega) f0
    have g0:∀ i,i<hd s+1->vec (mg2 s l g) i=0:=λi hi=>by
     rw [zf4 hsl]
     by_cases zi:i=hd s
     ·subst zi
      have:=C.d1;have:=C.d2
      generalize vec s (hd s)/g=p at *
      generalize vec l (hd s)/g=r at *
      generalize vec s (hd s)=a at *
      generalize vec l (hd s)=b at *
      grind
     ·rw [zaY (show i<hd s by omega),zaY (show i<hd l by omega)];omega
    obtain ⟨k1,k2,k3,k4⟩:=zcA (l:=mg2 s l g) e.2.2.2.2 (by rw [zjB hsl,e.1])
    obtain ⟨i1,i2,i3,i4⟩:=zeI M (l:=low (mg2 s l g) ss) e.2.2.2.2 k1 (λi hi=>by rw [k4 i hi,g0 i hi]) k3 (by have:=e.2.2.1;omega)
    have low_in:∀ {tt:List (List Int)},(∀ t∈ss,SpL tt (vec t))->SpL tt (vec (mg2 s l g))->SpL tt (vec (low (mg2 s l g) ss)):=λh1 h2=>(Sp.lin 1 (-1) h2 (k2.sub h1)).conv λi=>by omega
    have low_out:∀ {tt:List (List Int)},(∀ t∈ss,SpL tt (vec t))->SpL tt (vec (low (mg2 s l g) ss))->SpL tt (vec (mg2 s l g)):=λh1 h2=>(Sp.plus h2 (k2.sub h1)).conv λi=>by omega
    have hS:SpL (l :: s :: ss) (vec s):=SpL.mem (List.mem_cons_of_mem _ List.mem_cons_self)
    have hL:SpL (l :: s :: ss) (vec l):=SpL.mem List.mem_cons_self
    refine ⟨⟨by rw [zi8 hsl,e.1],by rw [f2];exact e.2.1,by rw [f2];exact e.2.2.1,by rw [f2,f1];exact C.pos,by rw [f2];exact i1⟩,by simp only [List.length_cons];omega,λt ht=>?_,λt ht=>?_⟩
    ·rcases List.mem_cons.mp ht with rfl | ht
     ·exact (Sp.lin x y hS hL).conv λi=>(ze4 hsl i).symm
     ·refine (i3 t ht).sub λv hv=>?_
      rcases List.mem_cons.mp hv with rfl | hv
      ·refine low_in (λt ht=>SpL.mem (List.mem_cons_of_mem _ (List.mem_cons_of_mem _ ht))) ((Sp.lin (vec s (hd s)/g) (-(vec l (hd s)/g)) hL hS).conv λi=>?_)
       rw [zf4 hsl];grind
      ·exact SpL.mem (List.mem_cons_of_mem _ (List.mem_cons_of_mem _ hv))
    ·have u1:∀ v∈low (mg2 s l g) ss :: ss,SpL (mg1 s l x y :: tin M ss (low (mg2 s l g) ss)) (vec v):=λv hv=>(i4 v hv).up
     have u2:=low_out (λt ht=>u1 t (List.mem_cons_of_mem _ ht)) (u1 _ List.mem_cons_self)
     have u3:SpL (mg1 s l x y :: tin M ss (low (mg2 s l g) ss)) (vec (mg1 s l x y)):=SpL.mem List.mem_cons_self
     rcases List.mem_cons.mp ht with rfl | ht
     ·exact (Sp.lin (vec t (hd s)/g) x u3 u2).conv λi=>((zjl hsl C i).2).symm
     ·rcases List.mem_cons.mp ht with rfl | ht
      ·exact (Sp.lin (vec t (hd t)/g) (-y) u3 u2).conv λi=>by rw [(zjl hsl C i).1];grind
      ·exact u1 t (List.mem_cons_of_mem _ ht)
   ·rw [show decide (hd l=hd s)=false by simp [z],cond_false]
    obtain ⟨i1,i2,i3,i4⟩:=zeI M (l:=l) e.2.2.2.2 hl (λi hi=>zaY (by omega)) (λt ht=>hr t (List.mem_cons_of_mem _ ht)) (by have:=e.2.2.1;omega)
    refine ⟨⟨e.1,e.2.1,e.2.2.1,e.2.2.2.1,i1⟩,by simp only [List.length_cons];omega,λt ht=>?_,λt ht=>?_⟩
    ·rcases List.mem_cons.mp ht with rfl | ht
     ·exact SpL.mem (List.mem_cons_of_mem _ List.mem_cons_self)
     ·refine (i3 t ht).sub λv hv=>?_
      rcases List.mem_cons.mp hv with rfl | hv
      ·exact SpL.mem List.mem_cons_self
      ·exact SpL.mem (List.mem_cons_of_mem _ (List.mem_cons_of_mem _ hv))
    ·rcases List.mem_cons.mp ht with rfl | ht
     ·exact (i4 t List.mem_cons_self).up
     ·rcases List.mem_cons.mp ht with rfl | ht
      ·exact SpL.mem List.mem_cons_self
      ·exact (i4 t (List.mem_cons_of_mem _ ht)).up
def stl:List (List Int)->List (List Int)
 | []=>[]
 | s :: ss=>low s (stl ss) :: stl ss
def Red:List (List Int)->Prop
 | []=>True
 | s :: ss=>(∀ t∈ss,0≤vec s (hd t)∧vec s (hd t)<vec t (hd t))∧Red ss
theorem zhK {n:Nat}:∀ {ss:List (List Int)} {lo:Nat},Ech n lo ss->Ech n lo (stl ss)∧Red (stl ss)∧(stl ss).length=ss.length∧(∀ t∈stl ss,SpL ss (vec t))∧∀ t∈ss,SpL (stl ss) (vec t)
 | [],_,_=>⟨trivial,trivial,rfl,by simp [stl],by simp⟩
 | s :: ss,lo,e=>by
  obtain ⟨a,b,c,d,f⟩:=zhK e.2.2.2.2
  obtain ⟨k1,k2,k3,k4⟩:=zcA (l:=s) a e.1
  have h1:hd (low s (stl ss))=hd s:=ziS (by rw [k4 _ (Nat.lt_succ_self _)];have:=e.2.2.2.1;omega) λi hi=>by rw [k4 _ (by omega),zaY hi]
  refine ⟨⟨k1,by rw [h1];exact e.2.1,by rw [h1];exact e.2.2.1,by rw [h1,k4 _ (Nat.lt_succ_self _)];exact e.2.2.2.1,by rw [h1];exact a⟩,⟨k3,b⟩,by simp [stl,c],λt ht=>?_,λt ht=>?_⟩
  ·rcases List.mem_cons.mp ht with rfl | ht
   ·exact (Sp.lin 1 (-1) (SpL.mem (ss:=s :: ss) List.mem_cons_self) (k2.sub λv hv=>(d v hv).up)).conv λi=>by omega
   ·exact (d t ht).up
  ·rcases List.mem_cons.mp ht with rfl | ht
   ·exact (Sp.plus (SpL.mem (ss:=stl (t :: ss)) (s:=low t (stl ss)) List.mem_cons_self) (k2.sub λv hv=>SpL.mem (List.mem_cons_of_mem _ hv))).conv λi=>by omega
   ·exact (f t ht).up
def clm (M:Mg) (rows:List (List Int)):List (List Int):=rows.foldl (λss r=>stl (tin M ss (low r ss))) []
structure Stairs (n:Nat) (rows ss:List (List Int)):Prop where
 ech:Ech n 0 ss
 red:Red ss
 inn:∀ t∈ss,SpL rows (vec t)
 out:∀ r∈rows,SpL ss (vec r)
theorem Stairs.nil {n:Nat}:Stairs n [] []:=⟨trivial,trivial,by simp,by simp⟩
theorem Stairs.step {n:Nat} {rows ss:List (List Int)} {r:List Int} (M:Mg) (h:Stairs n rows ss) (hr:r.length=n):Stairs n (rows++[r]) (stl (tin M ss (low r ss)))∧(stl (tin M ss (low r ss))).length≤ss.length+1:=by
 obtain ⟨k1,k2,k3,_⟩:=zcA (l:=r) h.ech hr
 obtain ⟨t1,t2,t3,t4⟩:=zeI M h.ech k1 (λi hi=>absurd hi (Nat.not_lt_zero i)) k3 (Nat.zero_le n)
 obtain ⟨s1,s2,s3,s4,s5⟩:=zhK t1
 have inn:∀ t∈ss,SpL (rows++[r]) (vec t):=λt ht=>(h.inn t ht).sub λv hv=>SpL.mem (List.mem_append_left _ hv)
 have hr':SpL (rows++[r]) (vec r):=SpL.mem (List.mem_append_right _ List.mem_cons_self)
 have f1:∀ t∈low r ss :: ss,SpL (stl (tin M ss (low r ss))) (vec t):=λt ht=>(t4 t ht).sub s5
 refine ⟨⟨s1,s2,λt ht=>(s4 t ht).sub λv hv=>(t3 v hv).sub λw hw=>?_,λt ht=>?_⟩,by rw [s3];exact t2⟩
 ·rcases List.mem_cons.mp hw with rfl | hw
  ·exact (Sp.lin 1 (-1) hr' (k2.sub inn)).conv λi=>by omega
  ·exact inn w hw
 ·rcases List.mem_append.mp ht with ht | ht
  ·exact (h.out t ht).sub λv hv=>f1 v (List.mem_cons_of_mem _ hv)
  ·rw [List.mem_singleton.mp ht]
   exact (Sp.plus (f1 _ List.mem_cons_self) (k2.sub λv hv=>f1 v (List.mem_cons_of_mem _ hv))).conv λi=>by omega
end Lat
namespace Lat
theorem ech_red {n:Nat}:∀ {ss:List (List Int)} {lo:Nat},Ech n lo ss->Red ss->∀ t∈ss,∀ t'∈ss,hd t'<hd t∨t=t'∨(0≤vec t (hd t')∧vec t (hd t')<vec t' (hd t'))
 | [],_,_,_,t,h,_,_=>by simp at h
 | s :: ss,lo,e,r,t,ht,t',ht'=>by
  rcases List.mem_cons.mp ht with h1 | h1
  ·rcases List.mem_cons.mp ht' with h2 | h2
   ·exact .inr (.inl (h1.trans h2.symm))
   ·rw [h1];exact .inr (.inr (r.1 t' h2))
  ·rcases List.mem_cons.mp ht' with h2 | h2
   ·rw [h2]
    have:=(Ech.mem e.2.2.2.2 t h1).2.1
    exact .inl (by omega)
   ·exact ech_red e.2.2.2.2 r.2 t h1 t' h2
theorem zj1 {n:Nat}:∀ {ss:List (List Int)} {lo:Nat},Ech n lo ss->lo≤n->ss.length+lo≤n
 | [],_,_,h=>by simpa using h
 | s :: ss,lo,e,h=>by
  have:=zj1 e.2.2.2.2 (by have:=e.2.2.1;omega)
  have:=e.2.1
  simp only [List.length_cons]
  omega
abbrev Rw (rows:List (List Int)):Vc->Prop:=λu=>∃ r∈rows,u=vec r
theorem zhx {B E R:Nat} (hE:bnd R B B≤E):∀ (k:Nat) (rows:List (List Int)),rows.length=k->k≤R+1->(∀ r∈rows,∀ x∈r,x.natAbs≤B)->∃ hs as,Wit (Rw rows) B E hs as∧as.length≤rows.length
 | 0,rows,h,_,_=>by
  rw [List.length_eq_zero_iff.mp h]
  refine ⟨[],[],?_,by simp⟩
  have e:Rw []=λ_=>False:=funext λu=>propext ⟨λ⟨_,z,_⟩=>by simp at z,λz=>z.elim⟩
  rw [e]
  exact Wit.nil
 | k+1,rows,h,hk,hb=>by
  have hne:rows≠[]:=by intro z;rw [z] at h;simp at h
  obtain ⟨rs,r,rfl⟩:∃ rs r,rows=rs++[r]:=⟨rows.dropLast,rows.getLast hne,(List.dropLast_concat_getLast hne).symm⟩
  have hl:rs.length=k:=by simpa using h
  obtain ⟨hs,as,W,h1⟩:=zhx hE k rs hl (by omega) λr hr=>hb r (List.mem_append_left _ hr)
  obtain ⟨hs',as',W',h2⟩:=W.step (a:=vec r) (λi=>zjs (hb r (List.mem_append_right _ List.mem_cons_self)) i) (Nat.le_trans (zhY (by omega)) hE)
  refine ⟨hs',as',?_,by simp only [List.length_append,List.length_singleton];omega⟩
  have e:Rw (rs++[r])=λu=>Rw rs u∨u=vec r:=funext λu=>propext ⟨λ⟨s,hs,e⟩=>by
   rcases List.mem_append.mp hs with z | z
   ·exact .inl ⟨s,z,e⟩
   ·rw [List.mem_singleton.mp z] at e;exact .inr e,λz=>by
   rcases z with ⟨s,hs,e⟩ | z
   ·exact ⟨s,List.mem_append_left _ hs,e⟩
   ·exact ⟨r,List.mem_append_right _ List.mem_cons_self,z⟩⟩
  rw [e]
  exact W'
theorem Stairs.wit {n B E:Nat} {rows ss:List (List Int)} {hs:List Nat} {as:List Vc} (h:Stairs n rows ss) (W:Wit (Rw rows) B E hs as) (hBE:B≤E):∀ t∈ss,(vec t (hd t)).natAbs≤E∧∀ i,(vec t i).natAbs≤bnd as.length B E:=by
 have hd1:∀ t∈ss,(vec t (hd t)).natAbs≤E:=λt ht=>by
  obtain ⟨m1,m2,m3,m4⟩:=h.ech.mem t ht
  obtain ⟨v,v1,v2,v3,v4⟩:=W.hd _ (W.head (h.inn t ht) (λi hi=>zaY hi) (by omega))
  have d:=zfQ h.ech (v1.sub λa ⟨r,hr,e⟩=>e ▸ h.out r hr) ht v2
  exact Nat.le_trans (Nat.le_of_dvd (Int.natAbs_pos.mpr v3) (Int.natAbs_dvd_natAbs.mpr d)) (v4 _)
 refine λt ht=>⟨hd1 t ht,λi=>W.small hBE (h.inn t ht) (λg hg=>?_) i⟩
 obtain ⟨v,v1,v2,v3,v4⟩:=W.hd g hg
 obtain ⟨t',ht',rfl⟩:=zeH h.ech (v1.sub λa ⟨r,hr,e⟩=>e ▸ h.out r hr) v2 v3
 rcases ech_red h.ech h.red t ht t' ht' with z | rfl | ⟨z1,z2⟩
 ·rw [zaY z];exact Nat.zero_le _
 ·exact hd1 t ht
 ·have:=hd1 t' ht';omega
theorem zhP {k R b c:Nat} (hk:k≤R) (hR:R≤31) (hbc:b≤c):bnd k (2^b) (2^c)≤2^((c+7)*(R+1)):=by
 refine Nat.le_trans (zhY hk) ?_
 unfold bnd
 have h1:R+1≤2^5:=by omega
 have h2:2*((R+1)*2^c)+1≤2^(c+7):=by
  have e1:(R+1)*2^c≤2^5*2^c:=Nat.mul_le_mul_right _ h1
  have e2:2^(c+7)=4*(2^5*2^c):=by rw [Nat.pow_add];omega
  have e3:0<2^c:=Nat.pow_pos (by decide)
  omega
 calc (R+1)*((2*((R+1)*2^c)+1)^R*2^b)≤2^5*((2^(c+7))^R*2^b):=Nat.mul_le_mul h1 (Nat.mul_le_mul_right _ (Nat.pow_le_pow_left h2 _))
  _=2^(5+((c+7)*R+b)):=by rw [← Nat.pow_mul,← Nat.pow_add,← Nat.pow_add]
  _≤2^((c+7)*(R+1)):=Nat.pow_le_pow_right (by decide) (by rw [Nat.mul_add];omega)
def Bit (a:Nat) (l:List Int):Prop:=∀ x∈l,x.natAbs≤2^a
theorem Bit.vec {a:Nat} {l:List Int} (h:Bit a l) (i:Nat):(vec l i).natAbs≤2^a:=zjs h i
theorem Bit.of {a:Nat} {l:List Int} (h:∀ i,(Lat.vec l i).natAbs≤2^a):Bit a l:=λx hx=>by
 obtain ⟨i,_,rfl⟩:=zfS hx
 exact h i
theorem Bit.mono {a b:Nat} {l:List Int} (h:Bit a l) (k:a≤b):Bit b l:=λx hx=>Nat.le_trans (h x hx) (Nat.pow_le_pow_right (by decide) k)
def eB (b R:Nat):Nat:=(b+7)*(R+1)
def sB (b R:Nat):Nat:=(eB b R+7)*(R+1)
theorem Stairs.bits {n b R:Nat} {rows ss:List (List Int)} (h:Stairs n rows ss) (hR:R≤31) (hr:rows.length≤R) (hb:∀ r∈rows,Bit b r):∀ t∈ss,(vec t (hd t)).natAbs≤2^eB b R∧Bit (sB b R) t:=by
 obtain ⟨hs,as,W,hl⟩:=zhx (B:=2^b) (E:=2^eB b R) (R:=R) (zhP (Nat.le_refl _) hR (Nat.le_refl _)) rows.length rows rfl (by omega) hb
 have e:b≤eB b R:=by unfold eB;exact Nat.le_trans (by omega) (Nat.le_mul_of_pos_right _ (Nat.succ_pos R))
 refine λt ht=>?_
 obtain ⟨a1,a2⟩:=h.wit W (Nat.pow_le_pow_right (by decide) e) t ht
 exact ⟨a1,Bit.of λi=>Nat.le_trans (a2 i) (zhP (Nat.le_trans hl hr) hR e)⟩
theorem zes {x y a b:Nat} (h1:x≤2^a) (h2:y≤2^b):x*y≤2^(a+b):=by rw [Nat.pow_add];exact Nat.mul_le_mul h1 h2
theorem zf1 {x d:Int} (_h:0<d):(x/d).natAbs≤x.natAbs:=by
 have:=Int.natAbs_ediv_le_natAbs x d
 exact this
structure Sd (n s:Nat) (t:List Int):Prop where
 len:t.length=n
 hd:hd t<n
 pos:0<vec t (Lat.hd t)
 top:(vec t (Lat.hd t)).natAbs≤2^8980
 bit:Bit s t
theorem zir {n s a:Nat} {l t:List Int} (T:Sd n s t) (hb:Bit a l):(quo l t).natAbs≤2^a:=Nat.le_trans (zf1 T.pos) (hb.vec _)
theorem zhN {n s a:Nat} {l t:List Int} (T:Sd n s t) (hl:l.length=n) (hb:Bit a l):Bit (a+(s+1)) (zfG l t):=Bit.of λi=>by
 rw [zdW (by rw [hl,T.len])]
 have e1:=hb.vec i
 have e2:(vec t i*quo l t).natAbs≤2^(s+a):=by rw [Int.natAbs_mul];exact zes (T.bit.vec i) (zir T hb)
 have e3:2^a≤2^(s+a):=Nat.pow_le_pow_right (by decide) (by omega)
 have e4:2^(a+(s+1))=2^(s+a)+2^(s+a):=by rw [show a+(s+1)=(s+a)+1 by omega,Nat.pow_succ];omega
 omega
theorem zfl {n s:Nat}:∀ {ss:List (List Int)} {a:Nat} {l:List Int},(∀ t∈ss,Sd n s t)->l.length=n->Bit a l->Bit (a+ss.length*(s+1)) (low l ss)
 | [],a,l,_,_,h=>by simpa [low] using h
 | t :: ss,a,l,T,hl,h=>by
  have T1:=T t List.mem_cons_self
  have:=zfl (ss:=ss) (λt ht=>T t (List.mem_cons_of_mem _ ht)) (by rw [zed (by rw [hl,T1.len]),hl]) (zhN T1 hl h)
  refine Bit.mono this ?_
  rw [List.length_cons,Nat.succ_mul]
  omega
theorem Cm.bd {one other g x y:Int} (C:Cm one other g x y) (h2:0<other) (hy:y=(g-x*one)/other) {c:Nat} (b1:one.natAbs≤2^c) (b2:other.natAbs≤2^c):g.natAbs≤2^(c+1)∧x.natAbs≤2^c∧y.natAbs≤2^(2*c+2):=by
 have e1:=C.le
 have e2:=C.xb
 have e3:=C.pos
 have g1:g.natAbs≤2^(c+1):=by
  rw [Nat.pow_succ]
  omega
 have x1:x.natAbs≤2^c:=by omega
 refine ⟨g1,x1,?_⟩
 rw [hy]
 refine Nat.le_trans (zf1 h2) ?_
 have e4:(x*one).natAbs≤2^(c+c):=by rw [Int.natAbs_mul];exact zes x1 b1
 have e5:2^(c+1)≤2^(c+c+1):=Nat.pow_le_pow_right (by decide) (by omega)
 have e6:2^(2*c+2)=2^(c+c+1)+2^(c+c+1):=by rw [show 2*c+2=(c+c+1)+1 by omega,Nat.pow_succ];omega
 have e7:2^(c+c)≤2^(c+c+1):=Nat.pow_le_pow_right (by decide) (by omega)
 omega
theorem zdS {a g:Int} (hg:0<g) {c:Nat} (h:a.natAbs≤2^c):(a/g).natAbs≤2^c:=Nat.le_trans (zf1 hg) h
theorem zl2 {n s a:Nat} {l t:List Int} {g x y:Int} (T:Sd n s t) (hl:l.length=n) (hb:Bit a l) (C:Cm (vec t (hd t)) (vec l (hd t)) g x y) (hlt:vec l (hd t)<vec t (hd t)) (h0:0≤vec l (hd t)):Bit (a+(s+8982)) (mg2 t l g):=Bit.of λi=>by
 rw [zf4 (by rw [hl,T.len])]
 have e1:(vec t (hd t)/g*vec l i).natAbs≤2^(8980+a):=by rw [Int.natAbs_mul];exact zes (zdS C.pos T.top) (hb.vec i)
 have e2:(vec l (hd t)/g*vec t i).natAbs≤2^(8980+s):=by rw [Int.natAbs_mul];exact zes (zdS C.pos (by have:=T.top;omega)) (T.bit.vec i)
 have e3:2^(8980+a)≤2^(a+(s+8981)):=Nat.pow_le_pow_right (by decide) (by omega)
 have e4:2^(8980+s)≤2^(a+(s+8981)):=Nat.pow_le_pow_right (by decide) (by omega)
 have e5:2^(a+(s+8982))=2^(a+(s+8981))+2^(a+(s+8981)):=by rw [show a+(s+8982)=(a+(s+8981))+1 by omega,Nat.pow_succ];omega
 omega
theorem zme {n s a:Nat} {l t:List Int} {x y:Int} (T:Sd n s t) (hl:l.length=n) (hb:Bit a l) (hx:x.natAbs≤2^8980) (hy:y.natAbs≤2^17962):Bit (a+(s+17964)) (mg1 t l x y):=Bit.of λi=>by
 rw [ze4 (by rw [hl,T.len])]
 have e1:(x*vec t i).natAbs≤2^(8980+s):=by rw [Int.natAbs_mul];exact zes hx (T.bit.vec i)
 have e2:(y*vec l i).natAbs≤2^(17962+a):=by rw [Int.natAbs_mul];exact zes hy (hb.vec i)
 have e3:2^(8980+s)≤2^(a+(s+17963)):=Nat.pow_le_pow_right (by decide) (by omega)
 have e4:2^(17962+a)≤2^(a+(s+17963)):=Nat.pow_le_pow_right (by decide) (by omega)
 have e5:2^(a+(s+17964))=2^(a+(s+17963))+2^(a+(s+17963)):=by rw [show a+(s+17964)=(a+(s+17963))+1 by omega,Nat.pow_succ];omega
 omega
theorem ziq {a:Nat} {l:List Int} (h:Bit a l):Bit a (upr l):=by
 unfold upr
 cases decide (vec l (hd l)<(0:Int))
 ·exact h
 ·exact Bit.of λi=>by
   show (vec (mul l (-(1:Int))) i).natAbs≤_
   rw [zdd]
   have:=h.vec i
   omega
end Lat
namespace Lat
open L2
theorem za1 (l:List Int) (k:Nat):ixD l (k:Int)=vec l k:=by
 by_cases h:k<l.length
 ·rw [zcj (List.getElem?_eq_getElem h)]
  simp [vec,List.getD_eq_getElem?_getD,List.getElem?_eq_getElem h]
 ·rw [zcv (by omega)]
  unfold ixD atI ixN
  rw [if_pos (by omega),if_neg (by omega)]
  rfl
theorem zdp {lo:Int} {n:Nat}:za5 lo (n+1)=lo :: za5 (lo+1) n:=by
 unfold za5
 rw [List.range_succ_eq_map,List.map_cons,List.map_map]
 congr 1
 ·simp
 ·exact List.map_congr_left λi _=>by show lo+((i+1:Nat):Int)=lo+1+(i:Int);omega
abbrev hdB:Unit->Int×Int->Unit ⊕ Int:=λ_ x=>bif (!decide (x.2=(0:Int))) then (Sum.inr x.1) else (Sum.inl ())
theorem zjb:∀ (xs:List Int) (lo:Int),LetR (loopR hdB () ((za5 lo xs.length).zip xs)) (λ(_:Unit)=>lo+(xs.length:Int)) (λb=>b)=lo+(hd xs:Int)
 | [],lo=>rfl
 | x :: xs,lo=>by
  rw [List.length_cons,zdp,List.zip_cons_cons]
  unfold loopR hd
  cases q:(!decide (x=(0:Int))) with
  | true =>
   rw [show hdB () (lo,x)=.inr lo by unfold hdB;dsimp only;rw [q];rfl]
   show lo=lo+((0:Nat):Int)
   omega
  | false =>
   rw [show hdB () (lo,x)=.inl () by unfold hdB;dsimp only;rw [q];rfl]
   have:=zjb xs (lo+1)
   have e:(λ(_:Unit)=>lo+1+(xs.length:Int))=(λ(_:Unit)=>lo+((xs.length+1:Nat):Int)):=funext λ_=>by omega
   rw [e] at this
   show LetR (loopR hdB () ((za5 (lo+1) xs.length).zip xs)) _ _=_
   rw [this]
   show lo+1+(hd xs:Int)=lo+((hd xs+1:Nat):Int)
   omega
theorem zoi (xs:List Int):LetR (loopR hdB () (zfj xs)) (λ(_:Unit)=>((xs.length:Nat):Int)) (λb=>b)=(hd xs:Int):=by
 have:=zjb xs 0
 simp only [Int.zero_add] at this
 exact this
theorem zd0 {α:Type} {xs:List α} {k:Nat}:cutD xs (some (k:Int)) none=xs.drop k:=by
 unfold cutD
 rw [HT.sIx_nat,HT.sIx_none]
 by_cases h:k≤xs.length
 ·rw [Nat.min_eq_left h,List.take_of_length_le (by rw [List.length_drop];omega)]
 ·rw [Nat.min_eq_right (by omega),List.drop_eq_nil_of_le (by omega),List.drop_eq_nil_of_le (by omega)];simp
def cmn (a b:Int):T3 Int Int Int:=Let (whl cmC cmF b.toNat (a,b,(1:Int),(0:Int))) (λ(r:G4)=>T3.mk r.1 r.2.2.1 ((r.1-(r.2.2.1*a))/b))
theorem zjM {a b:Int} (h1:0<a) (h2:0<b):Cm a b (cmn a b).a (cmn a b).b (cmn a b).c:=by
 obtain ⟨i1,i2⟩:=zge (n:=b.toNat) (c:=cmC) (f:=cmF) (I:=GI a b) (μ:=λs=>s.2.1.toNat) (λs h c=>h.step c) (GI.start h1 h2) (Nat.le_refl _)
 exact i1.done h2 i2
theorem zox {a b:Int}:(cmn a b).c=((cmn a b).a-(cmn a b).b*a)/b:=rfl
def MG:Mg:=⟨λa b=>((cmn a b).a,(cmn a b).b,(cmn a b).c),λ_ _ h1 h2=>zjM h1 h2⟩
def mrg (s l:List Int):List Int×List Int:=(mg1 s l (cmn (vec s (hd s)) (vec l (hd s))).b (cmn (vec s (hd s)) (vec l (hd s))).c,mg2 s l (cmn (vec s (hd s)) (vec l (hd s))).a)
theorem zhV {s:List Int} {ss:List (List Int)} {l:List Int}:tin MG (s :: ss) l=bif decide (hd l<hd s) then upr l :: s :: ss else bif decide (hd l=hd s) then (mrg s l).1 :: tin MG ss (low (mrg s l).2 ss) else s :: tin MG ss l:=rfl
abbrev TS2:=List (List Int)×List Int
def zio (steps:List (List Int)):TS2->Int×List Int->TS2 ⊕ List (List Int):=λs x =>
 bif decide ((hd s.2:Int)<(hd x.2:Int)) then (Sum.inr ((s.1++[upr s.2])++(cutD steps (some x.1) none)))
 else Let (bif decide ((hd s.2:Int)=(hd x.2:Int)) then (s.1++[(mrg x.2 s.2).1]) else (s.1++[x.2])) (λ(g:List (List Int)) =>
  Let (bif decide ((hd s.2:Int)=(hd x.2:Int)) then (low ((mrg x.2 s.2).2) (cutD steps (some (x.1+(1:Int))) none)) else s.2) (λ(l:List Int)=>Sum.inl (g,l)))
abbrev zod:TS2->List (List Int):=λr=>Let (bif decide ((hd r.2:Int)<((r.2.length:Nat):Int)) then (r.1++[upr r.2]) else r.1) (λ(g:List (List Int))=>g)
theorem zf8 {steps:List (List Int)}:∀ (ss:List (List Int)) (k:Nat) (g:List (List Int)) (l:List Int),steps.drop k=ss->LetR (loopR (zio steps) (g,l) ((za5 (k:Int) ss.length).zip ss)) zod (λb=>b)=g++tin MG ss l
 | [],k,g,l,_=>by
  show zod (g,l)=_
  unfold zod Let tin
  dsimp only
  by_cases q:hd l<l.length
  ·rw [show decide ((hd l:Int)<((l.length:Nat):Int))=true by simp [q],show decide (hd l<l.length)=true by simp [q]];rfl
  ·rw [show decide ((hd l:Int)<((l.length:Nat):Int))=false by simpa using q,show decide (hd l<l.length)=false by simp [q]]
   simp
 | s :: ss,k,g,l,e=>by
  have e':steps.drop (k+1)=ss:=by rw [← List.drop_drop,e];rfl
  have e2:((k:Int)+(1:Int))=((k+1:Nat):Int):=by omega
  rw [List.length_cons,zdp,List.zip_cons_cons,zhV]
  unfold loopR
  by_cases q:hd l<hd s
  ·rw [show zio steps (g,l) ((k:Int),s)=.inr ((g++[upr l])++(s :: ss)) by
    unfold zio;dsimp only
    rw [show decide ((hd l:Int)<(hd s:Int))=true by simp [q],cond_true,zd0,e]]
   rw [show decide (hd l<hd s)=true by simp [q],cond_true]
   show (g++[upr l])++(s :: ss)=_
   simp
  ·rw [show decide (hd l<hd s)=false by simp [q],cond_false]
   have q':decide ((hd l:Int)<(hd s:Int))=false:=by simp;omega
   by_cases z:hd l=hd s
   ·rw [show zio steps (g,l) ((k:Int),s)=.inl (g++[(mrg s l).1],low (mrg s l).2 ss) by
     unfold zio Let;dsimp only
     rw [q',show decide ((hd l:Int)=(hd s:Int))=true by simp [z],cond_false,cond_true,cond_true,e2,zd0,e']]
    rw [show decide (hd l=hd s)=true by simp [z],cond_true]
    show LetR (loopR (zio steps) _ ((za5 ((k:Int)+1) ss.length).zip ss)) _ _=_
    rw [e2,zf8 ss (k+1) _ _ e']
    simp
   ·rw [show zio steps (g,l) ((k:Int),s)=.inl (g++[s],l) by
     unfold zio Let;dsimp only
     rw [q',show decide ((hd l:Int)=(hd s:Int))=false by simp;omega,cond_false,cond_false,cond_false]]
    rw [show decide (hd l=hd s)=false by simp [z],cond_false]
    show LetR (loopR (zio steps) _ ((za5 ((k:Int)+1) ss.length).zip ss)) _ _=_
    rw [e2,zf8 ss (k+1) _ _ e']
    simp
theorem zpy (steps:List (List Int)) (l:List Int):LetR (loopR (zio steps) ([],l) (zfj steps)) zod (λb=>b)=tin MG steps l:=by
 have:=zf8 (steps:=steps) steps 0 [] l rfl
 simp only [List.nil_append] at this
 exact this
theorem zpf:∀ (ss:List (List Int)),List.foldl (λ(s:List (List Int)) (x:List Int)=>[low x s]++s) [] ss.reverse=stl ss
 | []=>rfl
 | s :: ss=>by
  rw [List.reverse_cons,List.foldl_append,zpf ss]
  rfl
theorem zhW:∀ {ss:List (List Int)} {j:Nat},stl (ss.drop j)=(stl ss).drop j
 | [],j=>by simp [stl]
 | s :: ss,0=>rfl
 | s :: ss,j+1=>by rw [List.drop_succ_cons,zhW];rfl
theorem zcC.of {x y:Int} {a b:Nat} (h1:x.natAbs≤2^a) (h2:y.natAbs≤2^b) (ha:a≤50000000) (hb:b≤50000000):zcC x y :=
 .inr (.inr ⟨ziB (k:=a+1) (by have:2^a<2^(a+1):=Nat.pow_lt_pow_right (by decide) (Nat.lt_succ_self a);omega) (by omega) (by omega),ziB (k:=b+1) (by have:2^b<2^(b+1):=Nat.pow_lt_pow_right (by decide) (Nat.lt_succ_self b);omega) (by omega) (by omega)⟩)
theorem zdP.of {x y:Int} {b:Nat} (h:0<y) (h2:y.natAbs≤2^b) (hb:b≤8990):zdP x y :=
 ⟨h,ziB (k:=b+1) (by have:2^b<2^(b+1):=Nat.pow_lt_pow_right (by decide) (Nat.lt_succ_self b);omega) (by omega) (by omega)⟩
def zhm (a b:Int):Prop:=0<a∧0<b∧a.natAbs≤2^8980∧b.natAbs≤2^8980
section
variable {one other:Int} {s:G4}
theorem GI.gn (I:GI one other s) (h:zhm one other):s.1.natAbs≤2^8981:=by
 have:=I.g;have:=I.gb;obtain ⟨h1,h2,h3,h4⟩:=h
 rw [Nat.pow_succ]
 omega
theorem GI.mn (I:GI one other s) (h:zhm one other):s.2.1.natAbs≤2^8981:=by
 have:=I.m;have:=I.mb;obtain ⟨h1,h2,h3,h4⟩:=h
 rw [Nat.pow_succ]
 omega
theorem GI.tn (I:GI one other s) (h:zhm one other):s.2.2.1.natAbs≤2^8980:=by
 have:=I.tb;obtain ⟨h1,h2,h3,h4⟩:=h
 omega
theorem GI.ln (I:GI one other s) (h:zhm one other):s.2.2.2.natAbs≤2^8980:=by
 have:=I.lb;obtain ⟨h1,h2,h3,h4⟩:=h
 omega
theorem GI.pos (I:GI one other s) (hc:(!decide (s.2.1=(0:Int)))=true):0<s.2.1:=by
 have:=I.m
 simp only [Bool.not_eq_true',decide_eq_false_iff_not] at hc
 omega
theorem GI.div (I:GI one other s) (h:zhm one other) (hc:(!decide (s.2.1=(0:Int)))=true):zdP s.1 s.2.1:=zdP.of (I.pos hc) (I.mn h) (by decide)
theorem GI.mul1 (I:GI one other s) (h:zhm one other) (hc:(!decide (s.2.1=(0:Int)))=true) {p:Int} (e:p=s.1/s.2.1):zcC p s.2.1:=by
 subst e;exact zcC.of (zdS (I.pos hc) (I.gn h)) (I.mn h) (by decide) (by decide)
theorem GI.mul2 (I:GI one other s) (h:zhm one other) (hc:(!decide (s.2.1=(0:Int)))=true) {p:Int} (e:p=s.1/s.2.1):zcC p s.2.2.2:=by
 subst e;exact zcC.of (zdS (I.pos hc) (I.gn h)) (I.ln h) (by decide) (by decide)
theorem GI.mul3 (I:GI one other s) (h:zhm one other):zcC s.2.2.1 one:=zcC.of (I.tn h) h.2.2.1 (by decide) (by decide)
theorem zhm.div (h:zhm one other) {x:Int}:zdP x other:=zdP.of h.2.1 h.2.2.2 (by decide)
end
def LowP (row:List Int) (steps:List (List Int)):Prop:=∃ n a s,n≤1000∧row.length=n∧steps.length≤1000∧Bit a row∧(∀ t∈steps,Sd n s t)∧a+steps.length*(s+1)+s≤50000000
section
variable {n s a i:Nat} {l t:List Int} {h q:Int}
theorem zhA (T:Sd n s t) (e:h=(hd t:Int)) (hl:l.length=n):InB l.length h:=by
 have:=T.hd
 unfold InB
 omega
theorem zi7 (T:Sd n s t) (e:h=(hd t:Int)):zdP (ixD l h) (ixD t h):=by
 subst e
 rw [za1,za1]
 exact zdP.of T.pos T.top (by decide)
theorem zlI (T:Sd n s t) (e:h=(hd t:Int)) (hb:Bit a l) (eq:q=ixD l h/ixD t h) (ha:a+s≤50000000):∀ y∈t,zcC y q:=by
 subst e eq
 rw [za1,za1]
 exact λy hy=>zcC.of (T.bit y hy) (zir T hb) (by omega) (by omega)
theorem zi2 (T:Sd n s t) (hl:l.length=n∧Bit (a+i*(s+1)) l) {y:List Int} (e:y=zfG l t):y.length=n∧Bit (a+(i+1)*(s+1)) y:=by
 subst e
 refine ⟨by rw [zed (by rw [hl.1,T.len]),hl.1],(zhN T hl.1 hl.2).mono ?_⟩
 rw [Nat.succ_mul];omega
theorem zka {k i:Nat} (h:a+k*(s+1)+s≤50000000) (hi:i<k):a+i*(s+1)+s≤50000000:=by
 have:=Nat.mul_le_mul_right (s+1) (show i≤k by omega)
 omega
end
def MrgP (t l:List Int):Prop:=∃ n a s,n≤1000∧Sd n s t∧l.length=n∧Bit a l∧0<vec l (hd t)∧vec l (hd t)<vec t (hd t)∧a+s≤40000000
section
variable {n s a:Nat} {l t:List Int} {h:Int}
theorem zjR (T:Sd n s t) (e:h=(hd t:Int)) (h0:0<vec l (hd t)) (h1:vec l (hd t)<vec t (hd t)):zhm (ixD t h) (ixD l h):=by
 subst e
 rw [za1,za1]
 exact ⟨T.pos,h0,T.top,by have:=T.top;omega⟩
theorem zlv {x y:Int} (h:zhm x y):0<(cmn x y).a∧(cmn x y).a.natAbs≤2^8981∧(cmn x y).b.natAbs≤2^8980∧(cmn x y).c.natAbs≤2^17962:=by
 have C:=zjM h.1 h.2.1
 have:=C.bd h.2.1 zox h.2.2.1 h.2.2.2
 exact ⟨C.pos,this⟩
theorem zfT {x:Int} {a b:Nat} {l:List Int} (h1:Bit a l) (h2:x.natAbs≤2^b) (ha:a≤50000000) (hb:b≤50000000):∀ y∈l,zcC y x:=λy hy=>zcC.of (h1 y hy) h2 ha hb
end
def TinP (steps:List (List Int)) (row:List Int):Prop:=∃ n a s,n≤1000∧Ech n 0 steps∧(∀ t∈steps,Sd n s t)∧row.length=n∧Bit a row∧steps.length≤100∧a+(steps.length+2)*((steps.length+1)*(s+9000))+s≤40000000
theorem zhO {n:Nat}:∀ {ss:List (List Int)} {lo j:Nat},Ech n lo ss->Ech n lo (ss.drop j)
 | [],_,_,_=>by simp [Ech]
 | _ :: _,_,0,h=>h
 | s :: ss,lo,j+1,h=>by
  rw [List.drop_succ_cons]
  exact zhO (h.2.2.2.2.mono (by have:=h.2.1;omega))
section
variable {n s a i:Nat} {steps:List (List Int)} {st:TS2} {x:Int×List Int}
structure TI (steps:List (List Int)) (n a s i:Nat) (st:TS2):Prop where
 g:st.1.length≤i
 len:st.2.length=n
 bit:Bit (a+steps.length*(s+1)+i*((steps.length+1)*(s+9000))) st.2
 red:∀ t∈steps.drop i,0≤vec st.2 (hd t)∧vec st.2 (hd t)<vec t (hd t)
theorem TI.start {row:List Int} (e:Ech n 0 steps) (T:∀ t∈steps,Sd n s t) (hl:row.length=n) (hb:Bit a row):TI steps n a s 0 ([],low row steps):=by
 obtain ⟨k1,k2,k3,k4⟩:=zcA (l:=row) e hl
 exact ⟨Nat.le_refl 0,k1,by simpa using zfl T hl hb,by simpa using k3⟩
theorem TI.mem (hx:i<steps.length∧x.1=(i:Int)∧steps[i]?=some x.2):x.2∈steps∧x.2∈steps.drop i∧steps.drop i=x.2 :: steps.drop (i+1):=by
 have e:steps.drop i=x.2 :: steps.drop (i+1):=by
  rw [List.drop_eq_getElem_cons hx.1]
  congr 1
  have:=hx.2.2
  rw [List.getElem?_eq_getElem hx.1] at this
  exact Option.some.inj this
 exact ⟨List.mem_of_getElem? hx.2.2,by rw [e];exact List.mem_cons_self,e⟩
theorem TI.num (hi:i≤steps.length) (h:a+(steps.length+2)*((steps.length+1)*(s+9000))+s≤40000000):a+steps.length*(s+1)+i*((steps.length+1)*(s+9000))+(s+9000)≤40000000:=by
 have e1:i*((steps.length+1)*(s+9000))≤steps.length*((steps.length+1)*(s+9000)):=Nat.mul_le_mul_right _ hi
 have e2:steps.length*(s+1)≤(steps.length+1)*(s+9000):=Nat.mul_le_mul (by omega) (by omega)
 have e3:s+9000≤(steps.length+1)*(s+9000):=Nat.le_mul_of_pos_left _ (by omega)
 rw [Nat.add_mul] at h
 omega
theorem TI.mrg (I:TI steps n a s i st) (hn:n≤1000) (T:∀ t∈steps,Sd n s t) (hx:i<steps.length∧x.1=(i:Int)∧steps[i]?=some x.2) (hh:hd st.2=hd x.2) (hN:a+(steps.length+2)*((steps.length+1)*(s+9000))+s≤40000000):MrgP x.2 st.2:=by
 obtain ⟨m1,m2,m3⟩:=TI.mem hx
 have r:=I.red _ m2
 have T1:=T _ m1
 have ne:=zfr (l:=st.2) (by rw [hh,I.len];exact T1.hd)
 rw [hh] at ne
 exact ⟨n,_,s,hn,T1,I.len,I.bit,by omega,r.2,by have:=TI.num (Nat.le_of_lt hx.1) hN;omega⟩
theorem zg3 {t l:List Int} {b:Nat} (T:Sd n s t) (hl:l.length=n) (hb:Bit b l) (h0:0<vec l (hd t)) (h1:vec l (hd t)<vec t (hd t)):(mrg t l).2.length=n∧Bit (b+(s+8982)) (mrg t l).2∧(mrg t l).1.length=n∧Bit (b+(s+17964)) (mrg t l).1:=by
 have e:t.length=l.length:=by rw [hl,T.len]
 have P:zhm (vec t (hd t)) (vec l (hd t)):=⟨T.pos,h0,T.top,by have:=T.top;omega⟩
 have C:=zlv P
 exact ⟨by rw [show (mrg t l).2=mg2 t l _ from rfl,zjB e,T.len],zl2 T hl hb (zjM T.pos h0) h1 (by omega),by rw [show (mrg t l).1=mg1 t l _ _ from rfl,zi8 e,T.len],zme T hl hb C.2.2.1 C.2.2.2⟩
theorem TI.low (I:TI steps n a s i st) (hn:n≤1000) (hk:steps.length≤100) (T:∀ t∈steps,Sd n s t) (hx:i<steps.length∧x.1=(i:Int)∧steps[i]?=some x.2) (hh:hd st.2=hd x.2) (hN:a+(steps.length+2)*((steps.length+1)*(s+9000))+s≤40000000):LowP (Lat.mrg x.2 st.2).2 (cutD steps (some (x.1+(1:Int))) none):=by
 obtain ⟨m1,m2,m3⟩:=TI.mem hx
 have r:=I.red _ m2
 have T1:=T _ m1
 have ne:=zfr (l:=st.2) (by rw [hh,I.len];exact T1.hd)
 rw [hh] at ne
 obtain ⟨b1,b2,_⟩:=zg3 T1 I.len I.bit (by omega) r.2
 rw [hx.2.1,show ((i:Int)+(1:Int))=((i+1:Nat):Int) by omega,zd0]
 refine ⟨n,_,s,hn,b1,by rw [List.length_drop];omega,b2,λt ht=>T t (List.mem_of_mem_drop ht),?_⟩
 have hp:(List.drop (i+1) steps).length*(s+1)≤steps.length*(s+9000):=Nat.mul_le_mul (by rw [List.length_drop];omega) (by omega)
 have hm:steps.length*(s+1)≤(steps.length+1)*(s+9000):=Nat.mul_le_mul (by omega) (by omega)
 have ho:i*((steps.length+1)*(s+9000))≤steps.length*((steps.length+1)*(s+9000)):=Nat.mul_le_mul_right _ (by omega)
 have hq:(steps.length+1)*(s+9000)=steps.length*(s+9000)+(s+9000):=Nat.succ_mul _ _
 rw [Nat.add_mul steps.length 2] at hN
 omega
theorem TI.step (I:TI steps n a s i st) (e:Ech n 0 steps) (T:∀ t∈steps,Sd n s t) (hx:i<steps.length∧x.1=(i:Int)∧steps[i]?=some x.2) {st':TS2} (hf:zio steps st x=.inl st'):TI steps n a s (i+1) st':=by
 obtain ⟨m1,m2,m3⟩:=TI.mem hx
 have r:=I.red _ m2
 have T1:=T _ m1
 have dd:∀ t∈steps.drop (i+1),t∈steps.drop i:=λt ht=>by rw [m3];exact List.mem_cons_of_mem _ ht
 have mo:a+steps.length*(s+1)+i*((steps.length+1)*(s+9000))≤a+steps.length*(s+1)+(i+1)*((steps.length+1)*(s+9000)):=by
  have:=Nat.mul_le_mul_right ((steps.length+1)*(s+9000)) (show i≤i+1 by omega)
  omega
 unfold zio Let at hf
 by_cases q:hd st.2<hd x.2
 ·rw [show decide ((hd st.2:Int)<(hd x.2:Int))=true by simp [q],cond_true] at hf
  cases hf
 ·rw [show decide ((hd st.2:Int)<(hd x.2:Int))=false by simp;omega,cond_false] at hf
  by_cases z:hd st.2=hd x.2
  ·rw [show decide ((hd st.2:Int)=(hd x.2:Int))=true by simp [z],cond_true,cond_true] at hf
   cases hf
   have ne:=zfr (l:=st.2) (by rw [z,I.len];exact T1.hd)
   rw [z] at ne
   obtain ⟨b1,b2,_⟩:=zg3 T1 I.len I.bit (by omega) r.2
   rw [hx.2.1,show ((i:Int)+(1:Int))=((i+1:Nat):Int) by omega,zd0]
   have ed:Ech n 0 (steps.drop (i+1)):=zhO e
   obtain ⟨k1,k2,k3,k4⟩:=zcA (l:=(Lat.mrg x.2 st.2).2) ed b1
   refine ⟨by have:=I.g;simp;omega,k1,(zfl (λt ht=>T t (List.mem_of_mem_drop ht)) b1 b2).mono ?_,k3⟩
   have e5:(List.drop (i+1) steps).length*(s+1)≤steps.length*(s+9000):=Nat.mul_le_mul (by rw [List.length_drop];omega) (by omega)
   rw [Nat.succ_mul i,Nat.add_mul steps.length 1]
   omega
  ·rw [show decide ((hd st.2:Int)=(hd x.2:Int))=false by simp;omega,cond_false,cond_false] at hf
   cases hf
   exact ⟨by have:=I.g;simp;omega,I.len,I.bit.mono mo,λt ht=>I.red t (dd t ht)⟩
end
theorem tin_bit {n s K:Nat}:∀ {ss:List (List Int)} {lo a:Nat} {l:List Int},Ech n lo ss->(∀ t∈ss,Sd n s t)->l.length=n->(∀ t∈ss,0≤vec l (hd t)∧vec l (hd t)<vec t (hd t))->Bit a l->ss.length≤K →
  ∀ t∈tin MG ss l,Bit (a+ss.length*((K+1)*(s+9000))+s+18000) t
 | [],lo,a,l,_,_,_,_,hb,_,t,ht=>by
  unfold tin at ht
  cases q:decide (hd l<l.length) with
  | true=>rw [q,cond_true] at ht;rw [List.mem_singleton.mp ht];exact (ziq hb).mono (by omega)
  | false=>rw [q,cond_false] at ht;simp at ht
 | s' :: ss,lo,a,l,e,T,hl,r,hb,hK,t,ht=>by
  have T1:=T s' List.mem_cons_self
  have hS:∀ t∈s' :: ss,Bit (a+(s' :: ss).length*((K+1)*(s+9000))+s+18000) t:=λt ht=>(T t ht).bit.mono (by omega)
  rw [zhV] at ht
  cases q:decide (hd l<hd s') with
  | true =>
   rw [q,cond_true] at ht
   rcases List.mem_cons.mp ht with rfl | ht
   ·exact (ziq hb).mono (by omega)
   ·exact hS t ht
  | false =>
   rw [q,cond_false] at ht
   by_cases z:hd l=hd s'
   ·rw [show decide (hd l=hd s')=true by simp [z],cond_true] at ht
    have ne:=zfr (l:=l) (by rw [z,hl];exact T1.hd)
    rw [z] at ne
    have r1:=r s' List.mem_cons_self
    obtain ⟨b1,b2,b3,b4⟩:=zg3 T1 hl hb (by omega) r1.2
    rcases List.mem_cons.mp ht with rfl | ht
    ·exact b4.mono (by omega)
    ·obtain ⟨k1,k2,k3,k4⟩:=zcA (l:=(mrg s' l).2) e.2.2.2.2 b1
     have:=tin_bit (K:=K) e.2.2.2.2 (λt ht=>T t (List.mem_cons_of_mem _ ht)) k1 k3 (zfl (λt ht=>T t (List.mem_cons_of_mem _ ht)) b1 b2) (by simp at hK;omega) t ht
     refine this.mono ?_
     have e5:ss.length*(s+1)≤K*(s+9000):=Nat.mul_le_mul (by simp at hK;omega) (by omega)
     rw [List.length_cons,Nat.succ_mul ss.length ((K+1)*(s+9000))]
     have e6:(K+1)*(s+9000)=K*(s+9000)+(s+9000):=Nat.succ_mul _ _
     omega
   ·rw [show decide (hd l=hd s')=false by simp [z],cond_false] at ht
    rcases List.mem_cons.mp ht with rfl | ht
    ·exact hS t List.mem_cons_self
    ·refine (tin_bit (K:=K) e.2.2.2.2 (λt ht=>T t (List.mem_cons_of_mem _ ht)) hl (λt ht=>r t (List.mem_cons_of_mem _ ht)) hb (by simp at hK;omega) t ht).mono ?_
     have:ss.length*((K+1)*(s+9000))≤(s' :: ss).length*((K+1)*(s+9000)):=Nat.mul_le_mul_right _ (by simp)
     omega
def znq (steps:List (List Int)):Prop:=steps.length≤1000∧∀ j x,steps[j]?=some x->LowP x (stl (steps.drop (j+1)))
section
variable {steps fl:List (List Int)} {i:Nat} {x:List Int}
theorem zgZ (hx:steps.reverse[i]?=some x):∃ j,j+1+i=steps.length∧steps[j]?=some x∧steps.drop j=x :: steps.drop (j+1):=by
 have hi:i<steps.reverse.length:=(List.getElem?_eq_some_iff.mp hx).1
 rw [List.length_reverse] at hi
 rw [List.getElem?_reverse hi] at hx
 have hj:steps.length-1-i<steps.length:=by omega
 refine ⟨steps.length-1-i,by omega,hx,?_⟩
 rw [List.getElem?_eq_getElem hj] at hx
 rw [List.drop_eq_getElem_cons hj,Option.some.inj hx]
theorem zlD (h:znq steps) (hx:steps.reverse[i]?=some x) (e:fl=stl (steps.drop (steps.length-i))):LowP x fl:=by
 obtain ⟨j,h1,h2,h3⟩:=zgZ hx
 rw [e,show steps.length-i=j+1 by omega]
 exact h.2 j x h2
theorem zlS (hx:steps.reverse[i]?=some x) (e:fl=stl (steps.drop (steps.length-i))) {y:List (List Int)} (hy:y=[low x fl]++fl):y=stl (steps.drop (steps.length-(i+1))):=by
 obtain ⟨j,h1,h2,h3⟩:=zgZ hx
 rw [hy,e,show steps.length-i=j+1 by omega,show steps.length-(i+1)=j by omega,h3]
 rfl
theorem zgY:∀ {ss:List (List Int)},(stl ss).length=ss.length
 | []=>rfl
 | s :: ss=>by simp [stl,zgY]
theorem znT (h:znq steps) (hi:i<steps.length) (e:fl=stl (steps.drop (steps.length-i))):fl.length≤1000:=by
 rw [e,zgY,List.length_drop]
 have:=h.1
 omega
end
def Fit (n b R:Nat):Prop:=n≤1000∧R≤31∧eB b R≤8980∧b+(min n R+2)*((min n R+1)*(sB b R+9000))+3*sB b R+18001+(min n R+1)*(sB b R+1)≤40000000
def zo9 (rows:List (List Int)):Prop:=∃ n b R,Fit n b R∧rows.length≤R∧∀ r∈rows,r.length=n∧Bit b r
section
variable {n b R i:Nat} {rows ss:List (List Int)} {r:List Int}
theorem zfX (hr:rows[i]?=some r):clm MG (rows.take (i+1))=stl (tin MG (clm MG (rows.take i)) (low r (clm MG (rows.take i)))):=by
 have hi:=(List.getElem?_eq_some_iff.mp hr).1
 rw [List.take_succ_eq_append_getElem hi]
 unfold clm
 rw [List.foldl_append]
 rw [List.getElem?_eq_getElem hi] at hr
 rw [← Option.some.inj hr]
 rfl
theorem zfH (h:∀ r∈rows,r.length=n):Stairs n rows (clm MG rows)∧(clm MG rows).length≤rows.length:=by
 have:∀ i,i≤rows.length->Stairs n (rows.take i) (clm MG (rows.take i))∧(clm MG (rows.take i)).length≤i:=by
  intro i
  induction i with
  | zero=>exact λ_=>⟨by simpa [clm] using Stairs.nil,by simp [clm]⟩
  | succ i ih =>
   intro hi
   obtain ⟨s1,s2⟩:=ih (by omega)
   have e:rows[i]?=some rows[i]:=List.getElem?_eq_getElem (by omega)
   obtain ⟨t1,t2⟩:=s1.step MG (r:=rows[i]) (h _ (List.getElem_mem _))
   rw [zfX e,List.take_succ_eq_append_getElem (by omega)]
   exact ⟨t1,by omega⟩
 obtain ⟨t1,t2⟩:=this rows.length (Nat.le_refl _)
 rw [List.take_length] at t1 t2
 exact ⟨t1,t2⟩
theorem zhC (F:Fit n b R) (hl:rows.length≤R) (h:∀ r∈rows,r.length=n∧Bit b r):Stairs n rows (clm MG rows)∧(clm MG rows).length≤min n R∧∀ t∈clm MG rows,Sd n (sB b R) t:=by
 obtain ⟨s1,s2⟩:=zfH (rows:=rows) λr hr=>(h r hr).1
 refine ⟨s1,?_,λt ht=>?_⟩
 ·have:=zj1 s1.ech (Nat.zero_le n)
  omega
 ·obtain ⟨a1,a2,a3,a4⟩:=s1.ech.mem t ht
  obtain ⟨b1,b2⟩:=s1.bits F.2.1 hl (λr hr=>(h r hr).2) t ht
  exact ⟨a1,a3,a4,Nat.le_trans b1 (Nat.pow_le_pow_right (by decide) F.2.2.1),b2⟩
theorem zjC (F:Fit n b R) (hl:rows.length≤R) (h:∀ r∈rows,r.length=n∧Bit b r) (hr:rows[i]?=some r) (e:ss=clm MG (rows.take i)):LowP r ss∧TinP ss r∧znq (tin MG ss (low r ss)):=by
 subst e
 have hi:=(List.getElem?_eq_some_iff.mp hr).1
 have hrm:=h r (List.mem_of_getElem? hr)
 obtain ⟨s1,s2,s3⟩:=zhC F (rows:=rows.take i) (by rw [List.length_take];omega) λr hr=>h r (List.mem_of_mem_take hr)
 obtain ⟨t1,t2,t3⟩:=zhC F (rows:=rows.take (i+1)) (by rw [List.length_take];omega) λr hr=>h r (List.mem_of_mem_take hr)
 rw [zfX hr] at t1 t2 t3
 obtain ⟨f1,f2,f3,f4⟩:=F
 generalize clm MG (rows.take i)=ss at *
 generalize hs:sB b R=s at *
 generalize hk:min n R=k at *
 obtain ⟨k1,k2,k3,k4⟩:=zcA (l:=r) s1.ech hrm.1
 have m1:ss.length*(s+1)≤(k+1)*(s+1):=Nat.mul_le_mul_right _ (by omega)
 have m2:(ss.length+2)*((ss.length+1)*(s+9000))≤(k+2)*((k+1)*(s+9000)):=Nat.mul_le_mul (by omega) (Nat.mul_le_mul_right _ (by omega))
 have hk32:k≤31:=by omega
 refine ⟨⟨n,b,s,f1,hrm.1,by omega,hrm.2,s3,by omega⟩,⟨n,b,s,f1,s1.ech,s3,hrm.1,hrm.2,by omega,by omega⟩,?_,λj x hx=>?_⟩
 ·rw [zgY] at t2;omega
 ·have hxm:=List.mem_of_getElem? hx
  have g1:=tin_bit (K:=k) s1.ech s3 k1 k3 (zfl s3 hrm.1 hrm.2) s2 x hxm
  obtain ⟨e1,_⟩:=zeI MG s1.ech k1 (λi hi=>absurd hi (Nat.not_lt_zero i)) k3 (Nat.zero_le n)
  rw [zhW]
  refine ⟨n,_,s,f1,(e1.mem x hxm).1,by rw [List.length_drop];omega,g1,λt ht=>t3 t (List.mem_of_mem_drop ht),?_⟩
  have m3:(List.drop (j+1) (stl (tin MG ss (low r ss)))).length*(s+1)≤(k+1)*(s+1):=Nat.mul_le_mul_right _ (by rw [List.length_drop];omega)
  have m4:ss.length*((k+1)*(s+9000))≤k*((k+1)*(s+9000)):=Nat.mul_le_mul_right _ s2
  have m5:(k+1)*(s+1)≤(k+1)*(s+9000):=Nat.mul_le_mul_left _ (by omega)
  rw [Nat.add_mul k 2] at f4
  omega
end
end Lat
namespace L2
open PySem PySem.Spec PyProof.Rows
section
variable {X:Cx} {K:W.Frag}
end
section
variable {E:XS} {Γ:Ctx} {te tj:TE} {u:TS} {o:Oc} {m:Bool} {K:W.Frag} {i j:Nat} {α β:Type} {f:α->Ds}
end
section
variable {E:XS} {Γ:Ctx} {u:TS} {o:Oc} {K:W.Frag} {i j:Nat}
theorem ziV {k:Nat} {s:Slot} (h:(unC Γ)[k]?=some s):∃ r,Γ[k]?=some r∧unS r=s:=by
 unfold unC at h
 rw [List.getElem?_map] at h
 cases q:Γ[k]? with
 | none=>rw [q] at h;cases h
 | some r=>rw [q] at h;exact ⟨r,rfl,Option.some.inj h⟩
theorem zno:unC (unC Γ)=unC Γ:=by
 unfold unC
 rw [List.map_map]
 refine List.map_congr_left λs _=>?_
 cases s<;>rfl
theorem noOb_un (h:zkR Γ=true):zkR (unC Γ)=true:=by
 unfold zkR unC at *
 rw [List.all_map]
 refine List.all_eq_true.mpr λs hs=>?_
 have:=List.all_eq_true.mp h s hs
 cases s<;>first | rfl | exact this
theorem paired_ints {R:Hp}:∀ {vs:List V} {ns:List Int},Paired (λv (d:Ds)=>d.pr R v) vs (ns.map dI)->vs=ns.map V.int
 | [],[],_=>rfl
 | _ :: _,_ :: _,.cons h t=>by
  have h:_=V.int _:=h
  rw [h,paired_ints t];rfl
end
end L2
namespace L2
open PySem PySem.Spec PyProof.Rows
end L2
namespace Lat
open L2
abbrev hdC (l:List Int):Unit->Int->Unit ⊕ Int:=λ_ x=>bif (!decide ((ixD l x)=(0:Int))) then (Sum.inr x) else (Sum.inl ())
theorem zhy {l:List Int}:∀ (m k:Nat),k+m=l.length->(∀ i,i<k->vec l i=0)->LetR (loopR (hdC l) () (za5 (k:Int) m)) (λ(_:Unit)=>((l.length:Nat):Int)) (λb=>b)=(hd l:Int)
 | 0,k,h,z=>by
  show ((l.length:Nat):Int)=(hd l:Int)
  have:=zmu (l:=l) (d:=k) (by omega) z
  have:=zjJ (l:=l)
  omega
 | m+1,k,h,z=>by
  rw [zdp]
  unfold loopR
  by_cases q:vec l k=0
  ·rw [show hdC l () (k:Int)=.inl () by unfold hdC;rw [za1,q];rfl]
   have:=zhy (l:=l) m (k+1) (by omega) λi hi=>by
    by_cases e:i=k
    ·rw [e];exact q
    ·exact z i (by omega)
   exact this
  ·rw [show hdC l () (k:Int)=.inr (k:Int) by
    unfold hdC;rw [za1,show (!decide (vec l k=0))=true by simp [q]];rfl]
   show (k:Int)=(hd l:Int)
   rw [ziS q z]
theorem zoY (l:List Int):LetR (loopR (hdC l) () (za5 0 ((l.length:Nat):Int).toNat)) (λ(_:Unit)=>((l.length:Nat):Int)) (λb=>b)=(hd l:Int):=by
 rw [Int.toNat_natCast]
 exact zhy l.length 0 (by omega) λi hi=>absurd hi (Nat.not_lt_zero i)
theorem zf2 {S γ β:Type} {f:S->γ->S ⊕ β} {I:Nat->S->Prop}:∀ {xs:List γ} {s:S} {n:Nat},I n s->(∀ (i:Nat) (x:γ) (s:S),xs[i]?=some x->I (n+i) s->∃ s',f s x=.inl s'∧I (n+i+1) s')->∃ s',loopR f s xs=.inl s'∧I (n+xs.length) s'
 | [],s,n,h,_=>⟨s,rfl,h⟩
 | x :: xs,s,n,h,k=>by
  obtain ⟨s1,e1,h1⟩:=k 0 x s rfl h
  obtain ⟨s2,e2,h2⟩:=zf2 (xs:=xs) (s:=s1) (n:=n+1) h1 λi y s e q=>by
   have:=k (i+1) y s (by simpa using e) (by rw [show n+(i+1)=n+1+i by omega];exact q)
   rw [show n+(i+1)+1=n+1+i+1 by omega] at this
   exact this
  refine ⟨s2,?_,by rw [List.length_cons,show n+(xs.length+1)=n+1+xs.length by omega];exact h2⟩
  unfold loopR
  rw [e1]
  exact e2
theorem zjv {n:Nat}:∀ {ss:List (List Int)} {lo i k:Nat} {t' t:List Int},Ech n lo ss->Red ss->i<k->ss[i]?=some t'->ss[k]?=some t->hd t'<hd t∧0≤vec t' (hd t)∧vec t' (hd t)<vec t (hd t)
 | [],_,_,_,_,_,_,_,_,h,_=>by simp at h
 | s :: ss,lo,0,0,_,_,_,_,h,_,_=>absurd h (Nat.lt_irrefl 0)
 | s :: ss,lo,i+1,0,_,_,_,_,h,_,_=>absurd h (Nat.not_lt_zero _)
 | s :: ss,lo,0,k+1,t',t,e,r,_,h1,h2=>by
  have h1:s=t':=by simpa using h1
  subst h1
  have hm:t∈ss:=List.mem_of_getElem? (by simpa using h2)
  have:=(Ech.mem e.2.2.2.2 t hm).2.1
  exact ⟨by omega,r.1 t hm⟩
 | s :: ss,lo,i+1,k+1,t',t,e,r,h,h1,h2=>zjv (i:=i) (k:=k) e.2.2.2.2 r.2 (by omega) (by simpa using h1) (by simpa using h2)
theorem zjF {n lo:Nat} {ss:List (List Int)} {k:Nat} {t:List Int} (e:Ech n lo ss) (h:ss[k]?=some t):t.length=n∧lo≤hd t∧hd t<n∧0<vec t (hd t):=e.mem t (List.mem_of_getElem? h)
theorem zle {l t:List Int} (h:l.length=t.length):List.map (λ(x:Int×Int)=>x.1-(quo l t*x.2)) (List.zip l t)=zfG l t:=by
 refine zg1 (by rw [zed h];simp [h]) λi=>?_
 rw [zdW h]
 have:∀ {l t:List Int} {q:Int} {i:Nat},l.length=t.length->vec (List.map (λ(x:Int×Int)=>x.1-(q*x.2)) (List.zip l t)) i=vec l i-q*vec t i:=by
  intro l
  induction l with
  | nil=>intro t q i h;rw [List.length_eq_zero_iff.mp h.symm];simp [vec]
  | cons a l ih =>
   intro t q i h
   match t,h with
   | b :: t,h =>
    cases i with
    | zero=>rfl
    | succ i =>
     rw [zaN,zaN,← ih (by simpa using h)]
     exact zaN
 rw [this h,Int.mul_comm]
theorem zkq {n:Nat} {ss:List (List Int)} {lo:Nat} {l:List Int} (e:Ech n lo ss) (hl:l.length=n) (h:SpL ss (vec l)):low l ss=List.map (λ(_:Int)=>(0:Int)) l:=by
 obtain ⟨k1,k2,k3,k4⟩:=zcA e hl
 refine zg1 (by rw [k1,List.length_map,hl]) λi=>?_
 rw [zhv e ((Sp.lin 1 (-1) h k2).conv λi=>by omega) k3 i]
 show (0:Int)=(List.map (λ(_:Int)=>(0:Int)) l).getD i 0
 rw [List.getD_eq_getElem?_getD,List.getElem?_map]
 cases l[i]?<;>rfl
def RB (w b:Nat) (rows:List (List Int)):Prop:=∀ r∈rows,r.length=w∧Bit b r
theorem setZ_mem {α:Type} {xs:List α} {i:Int} {x y:α} (h:y∈setZ xs i x):y=x∨y∈xs:=by
 unfold setZ at h
 split at h
 ·rcases List.mem_or_eq_of_mem_set h with h | h
  ·exact .inr h
  ·exact .inl h
 ·exact .inr h
theorem zma {α:Type} {xs:List α} {lo hi:Option Int} {x:α} (h:x∈cutD xs lo hi):x∈xs:=List.mem_of_mem_drop (List.mem_of_mem_take h)
theorem zf3 {α β:Type} (g:α->β):∀ (xs:List α) (acc:List β),List.foldl (λs x=>s++[g x]) acc xs=acc++xs.map g
 | [],acc=>by simp
 | x :: xs,acc=>by rw [List.foldl_cons,zf3 g xs];simp
end Lat
namespace Lat
theorem zgt {n:Nat}:∀ {ss:List (List Int)} {lo:Nat} {u:Vc},Ech n lo ss->SpL ss u->(∀ t∈ss,-vec t (hd t)<u (hd t)∧u (hd t)<vec t (hd t))->∀ i,u i=0
 | [],_,u,_,h,_,i=>Sp.at0 (λ_ ⟨_,z,_⟩=>by simp at z) h
 | s :: ss,lo,u,e,h,k,i=>by
  obtain ⟨w,y,hw,hu⟩:=h.cons
  have e1:=SpL.before e.2.2.2.2 (Nat.lt_succ_self (hd s)) hw
  have e2:=hu (hd s)
  have e3:=k s List.mem_cons_self
  have e4:=e.2.2.2.1
  rw [e1] at e2
  have y0:y=0:=by
   rw [e2,Int.zero_add] at e3
   refine Classical.byContradiction λq=>?_
   rcases Int.lt_or_gt_of_ne q with q | q
   ·have:=Int.mul_le_mul_of_nonneg_right (show y≤(-1:Int) by omega) (Int.le_of_lt e4)
    omega
   ·have:=Int.mul_le_mul_of_nonneg_right (show (1:Int)≤y by omega) (Int.le_of_lt e4)
    omega
  have hu':∀ i,u i=w i:=λi=>by rw [hu i,y0];omega
  have:u=w:=funext hu'
  subst this
  exact zgt e.2.2.2.2 hw (λt ht=>k t (List.mem_cons_of_mem _ ht)) i
theorem SpL.tail {n lo:Nat} {s:List Int} {ss:List (List Int)} {u:Vc} (e:Ech n lo (s :: ss)) (h:SpL (s :: ss) u) (h0:u (hd s)=0):SpL ss u:=by
 obtain ⟨w,y,hw,hu⟩:=h.cons
 have e1:=SpL.before e.2.2.2.2 (Nat.lt_succ_self (hd s)) hw
 have e2:=hu (hd s)
 rw [e1,h0,Int.zero_add] at e2
 have y0:y=0:=(Int.mul_eq_zero.mp e2.symm).resolve_right (by have:=e.2.2.2.1;omega)
 exact hw.conv λi=>by rw [hu i,y0];omega
theorem zj9 {n:Nat}:∀ {ss tt:List (List Int)} {lo lo':Nat},Ech n lo ss->Red ss->Ech n lo' tt->Red tt->(∀ t∈ss,SpL tt (vec t))->(∀ t∈tt,SpL ss (vec t))->ss=tt
 | [],[],_,_,_,_,_,_,_,_=>rfl
 | [],t :: tt,_,_,_,_,e,_,_,k=>by
  have:=Sp.at0 (i:=hd t) (λ_ ⟨_,z,_⟩=>by simp at z) (k t List.mem_cons_self)
  have:=e.2.2.2.1
  omega
 | s :: ss,[],_,_,e,_,_,_,k,_=>by
  have:=Sp.at0 (i:=hd s) (λ_ ⟨_,z,_⟩=>by simp at z) (k s List.mem_cons_self)
  have:=e.2.2.2.1
  omega
 | s :: ss,t :: tt,lo,lo',e,r,e',r',k,k'=>by
  have ks:=k s List.mem_cons_self
  have kt:=k' t List.mem_cons_self
  have ps:=e.2.2.2.1
  have pt:=e'.2.2.2.1
  have hh:hd s=hd t:=by
   obtain ⟨x,hx,ex⟩:=zeH e' ks (λi hi=>zaY hi) (by omega)
   obtain ⟨y,hy,ey⟩:=zeH e kt (λi hi=>zaY hi) (by omega)
   have h1:hd t≤hd s:=by
    rcases List.mem_cons.mp hx with rfl | hx
    ·omega
    ·have:=(Ech.mem e'.2.2.2.2 x hx).2.1;omega
   have h2:hd s≤hd t:=by
    rcases List.mem_cons.mp hy with rfl | hy
    ·omega
    ·have:=(Ech.mem e.2.2.2.2 y hy).2.1;omega
   omega
  have hn:vec s (hd s)=vec t (hd t):=by
   have d1:=zfQ e' ks List.mem_cons_self (λi hi=>zaY (by omega))
   have d2:=zfQ e kt List.mem_cons_self (λi hi=>zaY (by omega))
   rw [← hh] at d1
   rw [hh] at d2
   have d1':vec t (hd t) ∣ vec s (hd s):=by rw [← hh];exact d1
   have d2':vec s (hd s) ∣ vec t (hd t):=by rw [hh] at ps ⊢;exact d2
   exact Int.dvd_antisymm (by omega) (by omega) d2' d1'
  have tails:ss=tt:=zj9 e.2.2.2.2 r.2 e'.2.2.2.2 r'.2 (λx hx=>by
   refine SpL.tail e' (k x (List.mem_cons_of_mem _ hx)) ?_
   exact zaY (by have:=(Ech.mem e.2.2.2.2 x hx).2.1;omega)) λx hx=>by
   refine SpL.tail e (k' x (List.mem_cons_of_mem _ hx)) ?_
   exact zaY (by have:=(Ech.mem e'.2.2.2.2 x hx).2.1;omega)
  subst tails
  have hst:s=t:=by
   refine zg1 (by rw [e.1,e'.1]) λi=>?_
   have:=zgt (u:=λi=>vec s i-vec t i) e'.2.2.2.2 (SpL.tail e' ((Sp.lin 1 (-1) ks (SpL.mem List.mem_cons_self)).conv λi=>by omega) (by rw [← hh] at hn ⊢;omega)) (λx hx=>by
    have h1:=r.1 x hx
    have h2:=r'.1 x hx
    show -vec x (hd x)<vec s (hd x)-vec t (hd x)∧vec s (hd x)-vec t (hd x)<vec x (hd x)
    omega) i
   have this:vec s i-vec t i=0:=this
   omega
  rw [hst]
theorem Stairs.one {n:Nat} {rows rows' ss tt:List (List Int)} (h:Stairs n rows ss) (h':Stairs n rows' tt) (k:∀ r∈rows,SpL rows' (vec r)) (k':∀ r∈rows',SpL rows (vec r)):ss=tt :=
 zj9 h.ech h.red h'.ech h'.red (λt ht=>((h.inn t ht).sub k).sub h'.out) λt ht=>((h'.inn t ht).sub k').sub h.out
theorem Sp.image {A B:Vc->Prop} {g:Vc->Vc} {u:Vc} (h0:∀ i,g (λ_=>0) i=0) (hl:∀ (u a:Vc) (x:Int) i,g (λi=>u i+x*a i) i=g u i+x*g a i) (hA:∀ a,A a->Sp B (g a)) (h:Sp A u):Sp B (g u):=by
 induction h with
 | zero=>exact Sp.zero.conv λi=>(h0 i).symm
 | @add u a z _ ha ih=>exact (ih.plus ((hA a ha).smul z)).conv λi=>(hl u a z i).symm
theorem zcE {l:List Int} {n i:Nat}:vec (l.drop n) i=vec l (n+i):=by
 unfold vec
 rw [List.getD_eq_getElem?_getD,List.getD_eq_getElem?_getD,List.getElem?_drop]
theorem zgj {l t:List Int} {i:Nat}:vec (l++t) i=if i<l.length then vec l i else vec t (i-l.length):=by
 unfold vec
 rw [List.getD_eq_getElem?_getD,List.getD_eq_getElem?_getD,List.getD_eq_getElem?_getD,List.getElem?_append]
 split<;>rfl
end Lat
namespace L2
open PySem PySem.Spec PyProof.Rows
end L2
namespace Lat
open L2
theorem zfb {k:Nat}:(repZ (k:Int) [(0:Int)]).length=k:=by unfold repZ;simp
theorem zem {k j:Nat}:vec (repZ (k:Int) [(0:Int)]) j=0:=by
 by_cases h:j<(repZ (k:Int) [(0:Int)]).length
 ·have:=zjN h
  unfold repZ at this
  obtain ⟨l,h1,h2⟩:=List.mem_flatten.mp this
  rw [(List.mem_replicate.mp h1).2] at h2
  exact List.mem_singleton.mp h2
 ·exact zcv (by omega)
end Lat
namespace Lat
theorem ze5:∀ {l t:List Int} {q:Int} {i:Nat},l.length=t.length->vec (List.map (λ(x:Int×Int)=>x.1+(q*x.2)) (List.zip l t)) i=vec l i+q*vec t i
 | [],[],q,i,_=>by simp [vec]
 | a :: l,b :: t,q,0,_=>rfl
 | a :: l,b :: t,q,i+1,h=>by
  rw [zaN,zaN,← ze5 (l:=l) (t:=t) (by simpa using h)]
  exact zaN
theorem zke {α:Type} {l:List α} {i:Nat}:vec (List.map (λ(_:α)=>(0:Int)) l) i=0:=by
 unfold vec
 rw [List.getD_eq_getElem?_getD,List.getElem?_map]
 cases l[i]?<;>rfl
end Lat
namespace Lat
end Lat
namespace L2
open PySem PySem.Spec PyProof.Rows
section
variable {X:Cx} {K:W.Frag} {pos:Pos}
end
section
variable {E:XS} {Γ:Ctx} {te ta tb:TE} {u:TS} {o:Oc} {m:Bool} {K:W.Frag} {i j l:Nat} {α β:Type} {f:α->Ds}
end
end L2
namespace Lat
open L2
end Lat
namespace L2
open PySem PySem.Spec PyProof.Rows
section
variable {X:Cx}
end
end L2
namespace L2
open PySem PySem.Spec PyProof.Rows
section
variable {E:XS} {Γ Γx:Ctx} {m:Bool} {α β ε S:Type} {u:TS} {ds:List Ds}
end
end L2
namespace L2
open PySem PySem.Spec PyProof.Rows
def zfm (R:Hp) (v:V) (ns:List Int):Prop:=∃ r,v=.ref r∧R r=some (.lst (List.map V.int ns))
def dRI (nss:List (List Int)):Ds:=⟨λR v=>∃ p vs,v=.ref p∧R p=some (.lst vs)∧vs.Nodup∧V.ref p ∉ vs∧Paired (zfm R) vs nss,λe ⟨p,vs,h1,h2,h3,h4,h5⟩=>⟨p,vs,h1,e _ _ h2,h3,h4,paired_imp (λ_ _ ⟨r,q1,q2⟩=>⟨r,q1,e _ _ q2⟩) h5⟩⟩
theorem zhe {R:Hp}:∀ {ns:List Int},Paired (λv (d:Ds)=>d.pr R v) (ns.map V.int) (ns.map dI)
 | []=>.nil
 | _ :: _=>.cons rfl zhe
theorem znF {R:Hp} {v:V} {nss:List (List Int)} (h:(dRI nss).pr R v):(dL (nss.map λl=>dL (l.map dI))).pr R v:=by
 obtain ⟨p,vs,rfl,h2,h3,h4,h5⟩:=h
 refine ⟨p,vs,rfl,h2,?_⟩
 clear h2 h3 h4
 induction h5 with
 | nil=>exact .nil
 | cons q _ ih =>
  obtain ⟨r,rfl,q2⟩:=q
  exact .cons ⟨r,_,rfl,q2,zhe⟩ ih
section
variable {Γ:Ctx} {m:Bool} {K:W.Frag} {γ:Type} {te tj:TE} {i:Nat} {nss:List (List Int)}
theorem zoP {t:TE} (h:Ev Γ t m (dRI nss)):Ev Γ t m (dL (nss.map λl=>dL (l.map dI))):=λF0 Hb F H σ own Q a k=>h F0 Hb F H σ own Q a λv F' H' g q=>k v F' H' g (znF q)
theorem zks {own:Nat} {fv:List Nat} {wi:TI} {tg:TG} {js:List Nat} {xs:List γ} {bds:γ->List Ds} {mi:Bool} {ns:γ->List Int} (it:Iv Γ wi tg js xs bds mi) (hz:xs.length≤sizeLine) (hj:(∀ j∈js,j<own)∧js.Nodup)
  (he:∀ (i:Nat) (x:γ),xs[i]?=some x->EvO (zjA js (bds x) mi (zgU own fv Γ)) te true ((ns x).map dI)):Ev Γ (ziJ own fv wi tg tNoIf te) true (dRI (xs.map ns)):=λF0 Hb F H σ ow Q a k =>
 it F0 Hb F H σ ow _ a λJ F1 H1 g1 ok D hD=>by
  have hno:∀ j∈js,(zgU own fv Γ)[j]?=some .no:=λj hj'=>by
   have:=hj.1 j hj'
   unfold zgU
   rw [List.getElem?_append_left (by simpa using this),List.getElem?_replicate,if_pos this]
  obtain ⟨hD0,hDF,hDb⟩:=a.free g1 hD
  refine ⟨λi mm ys σb H2=>mm=xs.length-i∧i≤xs.length∧ys.length≤i∧∃ F2,Grow F1 H1 F2 H2∧F2 D=none∧H2 D=some (.lst ys)∧(ys.Nodup∧V.ref D ∉ ys∧Paired (zfm (off F2 Hb)) ys ((xs.take i).map ns))∧At F0 Hb F2 H2 σb (λ_=>none) (zgU own fv Γ),
   ⟨_,rfl,Nat.zero_le _,Nat.zero_le _,F1,(Grow.refl g1.fh).newH hD,hDF,upd_same,⟨.nil,by simp,by simpa using Paired.nil⟩,((a.grow g1).block own fv).grow ((Grow.refl g1.fh).newH hD)⟩,?_⟩
  rintro i mm ys σb H2 ⟨rfl,hi,hy,F2,g2,hF2,hH2,⟨hN,hDy,hP⟩,a2⟩
  refine ⟨hH2,?_⟩
  obtain ⟨hstop,hitem⟩:=ok.up g2.f H2 g2.fh
  by_cases hlt:i<xs.length
  ·obtain ⟨go,yl⟩:=hitem i xs[i] (List.getElem?_eq_getElem hlt)
   refine .inr ⟨go,λx H' y=>?_⟩
   obtain ⟨g3,bind⟩:=yl x H' y
   refine bind σb _ λvs hvs=>?_
   have a3:=(a2.grow g3).setMany (js:=js) hvs
   have hx:xs[i]?=some xs[i]:=List.getElem?_eq_getElem hlt
   refine evt_noif (Γ:=zjA js (bds xs[i]) mi (zgU own fv Γ)) F0 Hb F2 H' _ _ _ a3 λF4 H4 g4=>?_
   have tk:=zgS hx
   rw [if_pos rfl]
   refine he i _ hx F0 Hb F4 H4 _ _ _ (a3.grow g4) λp ws F5 H5 g5 p1 p2 p3 q5=>?_
   have ew:=paired_ints q5
   subst ew
   have g24:=g3.trans g4
   have g6:=g5.take p1 p3
   have g26:=g24.trans g6
   have n2:H5 D=some (.lst ys):=g26.h _ _ hH2
   have hpD:D≠p:=λz=>by rw [← z] at p1;rw [g24.h _ _ hH2] at p1;cases p1
   have n1:upd F5 p (.lst (List.map V.int (ns xs[i]))) D=none:=g26.no D (by rw [hH2];simp) hF2
   have hbp:Hb p=none:=(a2.g.h.trans g24.h).free p1
   have n3:H1 D=none:=hD
   refine ⟨n2,by omega,xs.length-(i+1),by omega,rfl,hlt,by simp;omega,upd F5 p (.lst (List.map V.int (ns xs[i]))),?_,n1,upd_same,⟨?_,?_,?_⟩,?_⟩
   ·exact (g2.trans g26).setH n1 n3
   ·
    refine List.nodup_append.mpr ⟨hN,by simp,λv hv w hw z=>?_⟩
    rw [List.mem_singleton.mp hw] at z
    subst z
    obtain ⟨n,hn⟩:=List.getElem?_of_mem hv
    have hl:=Paired.length hP
    obtain ⟨v',e',⟨r,er,hr⟩⟩:=zaF hP (List.getElem?_eq_getElem (l:=(xs.take i).map ns) (i:=n) (by have:=(List.getElem?_eq_some_iff.mp hn).1;omega))
    rw [hn] at e'
    cases e'
    cases er
    have:=(off_some.mp hr).2
    have:=g24.h _ _ (g2.fh _ _ this)
    rw [p1] at this;cases this
   ·intro z
    rcases List.mem_append.mp z with z | z
    ·exact hDy z
    ·have:=List.mem_singleton.mp z
     cases this
     exact hpD rfl
   ·rw [tk,List.map_append]
    refine zbF (paired_imp (λ_ _ ⟨r,q1,q2⟩=>⟨r,q1,off_up g26.f _ _ q2⟩) hP) (.cons ⟨p,rfl,off_some.mpr ⟨hbp,upd_same⟩⟩ .nil)
   ·have a5:=((a3.grow g4).grow g6).unsetMany hno hj.2
    refine ⟨a5.g.setH n1 hDb,a5.inj,λ_ _ h=>(nomatch h),λj s es=>?_,a5.len⟩
    have:=a5.sl j s es
    cases s with
    | no=>trivial
    | va m d=>exact this
    | ow m ds=>obtain ⟨_,_,_,h,_⟩:=this;exact (nomatch h)
    | ob m C p dx fs=>obtain ⟨_,_,h,_⟩:=this;exact (nomatch h)
    | ol p ds=>obtain ⟨_,_,h,_⟩:=this;exact (nomatch h)
    | tl d=>exact (ziG es).elim
  ·have e:i=xs.length:=by omega
   subst e
   rw [List.take_length] at hP
   refine .inl ⟨hstop,k (.ref D) (upd F2 D (.lst ys)) H2 ((g1.trans g2).take hD0 hH2) ⟨D,ys,rfl,off_some.mpr ⟨hDb,upd_same⟩,hN,hDy,?_⟩⟩
   exact paired_imp (λ_ _ ⟨r,q1,q2⟩=>⟨r,q1,off_up (Same.new hF2 _) _ _ q2⟩) hP
end
section
variable {E:XS} {Γ:Ctx} {m:Bool} {K:W.Frag} {te tj:TE} {u:TS} {o:Oc} {i:Nat} {nss:List (List Int)}
theorem zfR {R:Hp} {r:Addr} {new:List Int}:∀ {vs:List V} {nss:List (List Int)} {j:Nat},Paired (zfm R) vs nss->vs.Nodup->vs[j]?=some (.ref r)->Paired (zfm (upd R r (.lst (new.map V.int)))) vs (nss.set j new)
 | _,_,_,.nil,_,h=>by simp at h
 | v :: vs,ns :: nss,0,.cons q t,hN,h=>by
  have h:v=.ref r:=by simpa using h
  subst h
  refine .cons ⟨r,rfl,upd_same⟩ ?_
  have hn1:=(List.nodup_cons.mp hN).1
  clear q h hN
  induction t with
  | nil=>exact .nil
  | @cons a b as bs q t ih =>
   obtain ⟨r',rfl,q2⟩:=q
   have hne:r'≠r:=λz=>hn1 (by rw [z];exact List.mem_cons_self)
   exact .cons ⟨r',rfl,by rw [upd_ne hne];exact q2⟩ (ih λz=>hn1 (List.mem_cons_of_mem _ z))
 | v :: vs,ns :: nss,j+1,.cons q t,hN,h=>by
  have hN:=List.nodup_cons.mp hN
  have h:vs[j]?=some (.ref r):=by simpa using h
  obtain ⟨r',rfl,q2⟩:=q
  have hne:r'≠r:=λz=>hN.1 (by rw [z];exact List.mem_of_getElem? h)
  exact .cons ⟨r',rfl,by rw [upd_ne hne];exact q2⟩ (zfR t hN.2 h)
theorem At.row {F0 Hb F H:Hp} {σ:St} {own:Nat->Option Addr} (a:At F0 Hb F H σ own Γ) (e:Γ[i]?=some (.tl (dRI nss))) (hno:zkR Γ=true) {k:Int} (hk:InB nss.length k) :
  ∃ p vs r,σ[i]?=some (some (.ref p))∧H p=some (.lst vs)∧atI vs k=some (.ref r)∧H r=some (.lst ((ixD nss k).map V.int))∧∀ (H':Hp) (new:List Int),Same H H'->At F0 Hb F (upd H' r (.lst (new.map V.int))) σ own ((unC Γ).set i (.tl (dRI (setZ nss k new)))):=by
 obtain ⟨x,R,h1,h2,h3,h4,p,vs,rfl,h6,h7,h8,h9⟩:=a.sl i _ e
 have hi:i<σ.length:=by rw [a.len];exact (List.getElem?_eq_some_iff.mp e).1
 have e':σ[i]?=some (some (.ref p)):=by
  rw [List.getElem?_eq_getElem hi] at h1 ⊢
  exact congrArg some h1
 have hl:=Paired.length h9
 obtain ⟨j,ej,hj,_⟩:=zgD hk
 obtain ⟨v,ev,⟨r,rfl,hr⟩⟩:=zaF h9 (List.getElem?_eq_getElem (l:=nss) (i:=j) hj)
 have ex:ixD nss k=nss[j]:=by
  unfold ixD atI
  rw [ej]
  show (nss[j]?).getD default=_
  rw [List.getElem?_eq_getElem hj];rfl
 have es:∀ new,setZ nss k new=nss.set j new:=λnew=>by unfold setZ;rw [ej]
 have rF:=h3 r _ hr
 have rO:∀ l,own l≠some r:=λl z=>by rw [h4 l r z] at hr;cases hr
 have rp:p≠r:=λz=>h8 (by rw [z];exact List.mem_of_getElem? ev)
 refine ⟨p,vs,r,e',h2 _ _ h6,?_,by rw [ex];exact h2 _ _ hr,λH' new hs=>?_⟩
 ·unfold atI
  rw [hl,ej]
  exact ev
 ·have a1:=(a.grow (Grow.only a.fh hs)).spoil hno (.lst (new.map V.int)) rF.1 rF.2 rO
  refine ⟨a1.g,a1.inj,a1.liv,λl s es'=>?_,by rw [List.length_set];exact a1.len⟩
  by_cases z:i=l
  ·subst z
   rw [List.getElem?_set_self (by rw [← a1.len];exact hi)] at es'
   cases es'
   rw [e']
   refine ⟨.ref p,upd R r (.lst (new.map V.int)),rfl,λb w q=>?_,λb w q=>?_,λl' b q=>?_,p,vs,rfl,by rw [upd_ne rp];exact h6,h7,h8,by rw [es];exact zfR h9 h7 ev⟩
   ·by_cases y:b=r
    ·subst y;rw [upd_same] at q ⊢;exact q
    ·rw [upd_ne y] at q ⊢;exact hs _ _ (h2 _ _ q)
   ·by_cases y:b=r
    ·subst y;exact rF
    ·rw [upd_ne y] at q;exact h3 b w q
   ·have y:b≠r:=λy=>rO l' (y ▸ q)
    rw [upd_ne y];exact h4 l' b q
  ·rw [List.getElem?_set_ne z] at es'
   exact a1.sl l s es'
end
end L2
namespace L2
open PySem PySem.Spec PyProof.Rows
section
variable {E:XS} {Γ Δ:Ctx} {m:Bool} {K:W.Frag} {te ta tb:TE} {t u:TS} {d:Ds} {ds es:List Ds} {o:Oc} {i j:Nat}
end
section
variable {P:Program} {w:World} {K:W.Frag} {mg:Str->Option Value} {base:Heap} {x qual:Str} {st:Stmt} {f:Addr} {fd:FuncData} {N ps:List Str} {k:Nat}
end
section
variable {E:XS} {Γ Δ:Ctx} {m:Bool} {K:W.Frag} {te ta tb tj:TE} {t u:TS} {d:Ds} {ds es:List Ds} {o:Oc} {i j:Nat} {p:Addr} {α β:Type} {f:α->Ds} {xs:List α}
end
end L2
namespace L2
open PySem PySem.Spec PyProof.Rows
structure T5 (α β γ δ ε:Type) where
 a:α
 b:β
 c:γ
 d:δ
 e:ε
section
variable {E:XS} {Γ:Ctx} {m:Bool} {K:W.Frag} {te tj:TE} {u:TS} {o:Oc} {i j:Nat} {nss:List (List Int)} {α β:Type}
def zls (Γ:Ctx) (t:TE) (ds:List Ds):Prop:=∀ (F0 Hb F H:Hp) (σ:St) (own:Nat->Option Addr) (Q:VK),At F0 Hb F H σ own Γ →
 (∀ p vs F' H',Grow F H F' H'->H p=none->F' p=none->H' p=some (.lst vs)->Paired (λv (d:Ds)=>d.pr (off F' H) v) vs ds->Q (.ref p) H')->t σ H Q
theorem zlX {ds:List Ds} (h:EvO (zmP Γ) te true ds):zls Γ te ds:=λF0 Hb F H σ own Q a k=>h F H F H σ _ Q a.now λp vs F' H' g h1 h2 h3 q=>k p vs F' H' g h1 h2 h3 q
theorem zls.evo {ds:List Ds} (h:zls Γ te ds):EvO Γ te true ds:=λF0 Hb F H σ own Q a k=>h F0 Hb F H σ own Q a λp vs F' H' g h1 h2 h3 q=>k p vs F' H' g h1 h2 h3 (pr_up (ds:=[]) (ziW a.g.h) q)
theorem zls.borrowO {ds es:List Ds} (e:Γ[i]?=some (.ow m es)) (h:zls (Γ.set i (.va m (dL es))) te ds):zls Γ te ds:=λF0 Hb F H σ own Q a k=>by
 obtain ⟨F1,own1,_,a1⟩:=a.share e
 refine h F0 Hb F1 H σ own1 Q a1 λp vs F' H' g h1 h2 h3 q=>?_
 have e:∀ b o,off F' H b=some o->H b=none∧F' b=some o:=λb o z=>off_some.mp z
 refine k p vs (λb=>match H b with | some _=>F b | none=>F' b) H' ⟨λb o z=>?_,λb o z=>?_,g.h,λb z1 z2=>?_⟩ h1 (by rw [h1];exact h2) h3 (pr_up (ds:=[]) (λb o z=>?_) q)
 ·show (match H b with | some _=>F b | none=>F' b)=some o
  rw [a.fh _ _ z];exact z
 ·have z:(match H b with | some _=>F b | none=>F' b)=some o:=z
  cases w:H b with
  | some o'=>rw [w] at z;exact g.h _ _ (a.fh _ _ z)
  | none=>rw [w] at z;exact g.fh _ _ z
 ·show (match H b with | some _=>F b | none=>F' b)=none
  cases w:H b with
  | some o'=>exact z2
  | none=>exact absurd w z1
 ·obtain ⟨h1,h2⟩:=e b o z
  refine off_some.mpr ⟨h1,?_⟩
  show (match H b with | some _=>F b | none=>F' b)=some o
  rw [h1];exact h2
theorem paired_rows_up {R R':Hp} (e:Same R R') {vs:List V} (h:Paired (zfm R) vs nss):Paired (zfm R') vs nss:=paired_imp (λ_ _ ⟨r,q1,q2⟩=>⟨r,q1,e _ _ q2⟩) h
open Classical in
theorem zg5 {v:List Int->Int} {k:Int} {P:List Int->Prop} (e:Γ[i]?=some (.tl (dRI nss))) (ej:Γ[j]?=some .no) (hno:zkR Γ=true) (hP:∀ ns∈nss,P ns) (hk:∀ ns,P ns->InB ns.length k)
  (h:∀ ns,P ns->Ev ((unC Γ).set j (.tl (dL (ns.map dI)))) te false (dI (v ns))) (hj:∀ ns,P ns->Ev ((unC Γ).set j (.tl (dL (ns.map dI)))) tj false (dI k))
  (kk:Run E ((unC Γ).set i (.tl (dRI (nss.map λns=>setZ ns k (v ns))))) u o):Run E Γ (tSeq (zn7 (zkP K (tVar i)) (zcb j) (tSeq (zih te (zof (tVar j) tj zkZ)) zkO)) u) o:=λF0 Hb F H σ own D a q=>by
 obtain ⟨x,R,h1,h2,h3,h4,p,vs,rfl,h6,h7,h8,h9⟩:=a.sl i _ e
 have hi:i<σ.length:=by rw [a.len];exact (List.getElem?_eq_some_iff.mp e).1
 have e':σ[i]?=some (some (.ref p)):=by
  rw [List.getElem?_eq_getElem hi] at h1 ⊢
  exact congrArg some h1
 have hij:i≠j:=λz=>by rw [z,ej] at e;cases e
 have hl:=Paired.length h9
 have st:∀ v'∈vs,∃ r,v'=.ref r∧F r=none∧Hb r=none∧(∀ l,own l≠some r)∧r≠p:=λv' hv=>by
  obtain ⟨n,hn⟩:=List.getElem?_of_mem hv
  have hn':=(List.getElem?_eq_some_iff.mp hn).1
  obtain ⟨v2,ev,⟨r,er,hr⟩⟩:=zaF h9 (List.getElem?_eq_getElem (l:=nss) (i:=n) (by omega))
  rw [hn] at ev
  cases ev
  refine ⟨r,er,(h3 r _ hr).1,(h3 r _ hr).2,(λl z=>by rw [h4 l r z] at hr;cases hr),λz=>h8 ?_⟩
  subst z;rw [← er];exact hv
 have hp:H p=some (.lst vs):=h2 _ _ h6
 have pF:=h3 p _ h6
 have pO:∀ l,own l≠some p:=λl z=>by rw [h4 l p z] at h6;cases h6
 have a0:At F0 Hb F H σ own (unC Γ):=⟨a.g,a.inj,a.liv,λk s es=>by
  obtain ⟨r,e1,rfl⟩:=ziV es
  have:=a.sl k r e1
  cases r with
  | tl d=>trivial
  | no=>trivial
  | va m d=>exact this
  | ow m ds=>exact this
  | ol p ds=>exact this
  | ob m C p dx fs=>exact this,by unfold unC;rw [List.length_map];exact a.len⟩
 have gst:∀ n ns,nss[n]?=some ns->((nss.take n).map (λns=>setZ ns k (v ns))++nss.drop n).set n (setZ ns k (v ns))=(nss.take (n+1)).map (λns=>setZ ns k (v ns))++nss.drop (n+1):=λn ns hn=>by
  have hlt:=(List.getElem?_eq_some_iff.mp hn).1
  have en:nss[n]=ns:=by rw [List.getElem?_eq_getElem hlt] at hn;exact Option.some.inj hn
  rw [List.set_append_right _ _ (by rw [List.length_map,List.length_take];omega),List.length_map,List.length_take,Nat.min_eq_left (by omega),Nat.sub_self,List.drop_eq_getElem_cons hlt,List.set_cons_zero,List.take_succ_eq_append_getElem hlt,List.map_append,List.append_assoc,en]
  rfl
 refine ⟨_,e',p,rfl,⟨vs,SqL.of hp⟩,λn m σ' H'=>m=vs.length-n∧n≤vs.length∧At F0 Hb F H' σ' own (unC Γ)∧σ'[i]?=some (some (.ref p))∧H' p=some (.lst vs)∧Paired (zfm H') vs ((nss.take n).map (λns=>setZ ns k (v ns))++nss.drop n),⟨_,rfl,Nat.zero_le _,a0,e',hp,by simpa using paired_rows_up h2 h9⟩,?_⟩
 rintro n m σ1 H1 ⟨rfl,hn,a1,s1,p1,rows1⟩
 by_cases hlt:n<vs.length
 ·refine .inr ⟨⟨vs,vs[n],SqL.of p1,List.getElem?_eq_getElem hlt⟩,λσ' H'=>At F0 Hb F H' σ' own (unC Γ)∧σ'[i]?=some (some (.ref p))∧H' p=some (.lst vs)∧Paired (zfm H') vs ((nss.take (n+1)).map (λns=>setZ ns k (v ns))++nss.drop (n+1)),λσ' H' z=>⟨_,by omega,rfl,by omega,z⟩,λv' H' y=>?_⟩
  obtain ⟨rfl,y⟩:=y
  have hv:=y vs (SqL.of p1)
  obtain ⟨ns,hns⟩:∃ ns,nss[n]?=some ns:=⟨_,List.getElem?_eq_getElem (by omega)⟩
  have hrow:((nss.take n).map (λns=>setZ ns k (v ns))++nss.drop n)[n]?=some ns:=by
   rw [List.getElem?_append_right (by rw [List.length_map,List.length_take];omega),List.length_map,List.length_take,Nat.min_eq_left (by omega),Nat.sub_self,List.getElem?_drop]
   exact hns
  obtain ⟨v2,ev,⟨r,er,hr⟩⟩:=zaF rows1 hrow
  rw [hv] at ev
  cases ev
  subst er
  obtain ⟨r',er',rF,rB,rO,rp⟩:=st _ (List.mem_of_getElem? hv)
  cases er'
  have Pn:P ns:=hP ns (List.mem_of_getElem? hns)
  have hjl:j<σ1.length:=by rw [a1.len];unfold unC;rw [List.length_map];exact (List.getElem?_eq_some_iff.mp ej).1
  have sj:(σ1.set j (some (.ref r)))[j]?=some (some (.ref r)):=List.getElem?_set_self hjl
  have a2:At F0 Hb F H' (σ1.set j (some (.ref r))) own (unC Γ):=⟨a1.g,a1.inj,a1.liv,λk s es=>by
   by_cases z:j=k
   ·subst z
    obtain ⟨r',e1,rfl⟩:=ziV es
    rw [ej] at e1
    cases e1
    trivial
   ·rw [List.getElem?_set_ne z]
    exact a1.sl k s es,by simp [a1.len]⟩
  have a3:At F0 Hb F H' (σ1.set j (some (.ref r))) own ((unC Γ).set j (.tl (dL (ns.map dI)))):=⟨a2.g,a2.inj,a2.liv,λk s es=>by
   by_cases z:j=k
   ·subst z
    rw [List.getElem?_set_self (by rw [← a1.len];exact hjl)] at es
    cases es
    rw [sj]
    refine ⟨.ref r,λb=>if b=r then some (.lst (ns.map V.int)) else none,rfl,λb o z=>?_,λb o z=>?_,λl b z=>?_,r,ns.map V.int,rfl,if_pos rfl,zhe⟩
    ·dsimp only at z
     split at z
     ·cases z;rename_i w;rw [w];exact hr
     ·cases z
    ·dsimp only at z
     split at z
     ·rename_i w;rw [w];exact ⟨rF,rB⟩
     ·cases z
    ·dsimp only
     rw [if_neg (λw=>rO l (by rw [← w];exact z))]
   ·rw [List.getElem?_set_ne z] at es
    exact a2.sl k s es,by simpa using a2.len⟩
  obtain ⟨nn,en,hnn,_⟩:=zgD (hk ns Pn)
  refine h ns Pn F0 Hb F H' _ own _ a3 λw F2 H2 g2 qw=>?_
  have qw:w=.int (v ns):=qw
  subst qw
  have a4:=a3.grow (Grow.only a3.fh g2.h)
  refine ⟨_,sj,hj ns Pn F0 Hb F H2 _ own _ a4 λw F3 H3 g3 qk=>?_⟩
  have qk:w=.int k:=qk
  subst qk
  have s13:Same H' H3:=g2.h.trans g3.h
  refine ⟨r,ns.map V.int,k,nn,rfl,rfl,s13 _ _ hr,by rw [List.length_map];exact en,?_⟩
  have enew:(ns.map V.int).set nn (.int (v ns))=(setZ ns k (v ns)).map V.int:=by
   unfold setZ
   rw [en]
   show _=(ns.set nn (v ns)).map V.int
   rw [List.map_set]
  rw [enew]
  refine ⟨?_,?_,?_,?_⟩
  ·have:=(a2.grow (Grow.only a2.fh s13)).spoil (noOb_un hno) (.lst ((setZ ns k (v ns)).map V.int)) rF rB rO
   rwa [zno] at this
  ·rw [List.getElem?_set_ne (Ne.symm hij)];exact s1
  ·rw [upd_ne (Ne.symm rp)];exact s13 _ _ p1
  ·rw [← gst n ns hns]
   exact zfR (paired_rows_up s13 rows1) h7 hv
 ·have en:n=nss.length:=by omega
  subst en
  refine .inl ⟨⟨vs,SqL.of p1,by omega⟩,kk F0 Hb F H1 σ1 own D ?_ q⟩
  refine ⟨a1.g,a1.inj,a1.liv,λl s es=>?_,by rw [List.length_set];exact a1.len⟩
  by_cases z:i=l
  ·subst z
   rw [List.getElem?_set_self (by rw [← a1.len];exact (List.getElem?_eq_some_iff.mp s1).1)] at es
   cases es
   rw [s1]
   have rows2:Paired (zfm H1) vs (nss.map λns=>setZ ns k (v ns)):=by simpa using rows1
   refine ⟨.ref p,λb=>if b=p then some (.lst vs) else if V.ref b∈vs then H1 b else none,rfl,λb o z=>?_,λb o z=>?_,λl b z=>?_,p,vs,rfl,if_pos rfl,h7,h8,?_⟩
   ·dsimp only at z
    split at z
    ·cases z;rename_i w;rw [w];exact p1
    ·split at z
     ·exact z
     ·cases z
   ·dsimp only at z
    split at z
    ·rename_i w;rw [w];exact pF
    ·split at z
     ·rename_i w
      obtain ⟨r,er,t1,t2,_⟩:=st _ w
      cases er
      exact ⟨t1,t2⟩
     ·cases z
   ·dsimp only
    rw [if_neg (λw=>pO l (by rw [← w];exact z)),if_neg]
    intro w
    obtain ⟨r,er,_,_,t3,_⟩:=st _ w
    cases er
    exact t3 l z
   ·clear q rows1 h9 hp h6 h kk
    have key:∀ {ws:List V} {mss:List (List Int)},(∀ w∈ws,w∈vs)->Paired (zfm H1) ws mss->Paired (zfm λb=>if b=p then some (.lst vs) else if V.ref b∈vs then H1 b else none) ws mss:=by
     intro ws mss hw hq
     induction hq with
     | nil=>exact .nil
     | cons q1 _ ih =>
      obtain ⟨r,rfl,q2⟩:=q1
      have hm:=hw _ List.mem_cons_self
      refine .cons ⟨r,rfl,?_⟩ (ih λw hw'=>hw w (List.mem_cons_of_mem _ hw'))
      dsimp only
      rw [if_neg (λz=>h8 (by rw [← z];exact hm)),if_pos hm]
      exact q2
    exact key (λ_ hw=>hw) rows2
  ·rw [List.getElem?_set_ne z] at es
   exact a1.sl l s es
end
end L2
namespace Lat
open L2
theorem zeW {j:Nat}:∀ {xs:List Int} {as:List Vc} {i:Nat} {x x0:Int} {a:Vc},xs[i]?=some x0->as[i]?=some a->comb (xs.set i x) as j=comb xs as j+(x-x0)*a j
 | [],_,_,_,_,_,h,_=>by simp at h
 | _ :: _,[],_,_,_,_,_,h=>by simp at h
 | y :: xs,b :: as,0,x,x0,a,h,k=>by
  have h:y=x0:=by simpa using h
  have k:b=a:=by simpa using k
  subst h k
  simp only [List.set_cons_zero,comb]
  grind
 | y :: xs,b :: as,i+1,x,x0,a,h,k=>by
  have:=zeW (j:=j) (xs:=xs) (as:=as) (i:=i) (x:=x) (x0:=x0) (a:=a) (by simpa using h) (by simpa using k)
  simp only [List.set_cons_succ,comb,this]
  omega
theorem zgo {j:Nat}:∀ {xs:List Int} {as:List Vc} {i:Nat} {x:Int} {a a0:Vc},xs[i]?=some x->as[i]?=some a0->comb xs (as.set i a) j=comb xs as j+x*(a j-a0 j)
 | [],_,_,_,_,_,h,_=>by simp at h
 | _ :: _,[],_,_,_,_,_,h=>by simp at h
 | y :: xs,b :: as,0,x,a,a0,h,k=>by
  have h:y=x:=by simpa using h
  have k:b=a0:=by simpa using k
  subst h k
  simp only [List.set_cons_zero,comb]
  grind
 | y :: xs,b :: as,i+1,x,a,a0,h,k=>by
  have:=zgo (j:=j) (xs:=xs) (as:=as) (i:=i) (x:=x) (a:=a) (a0:=a0) (by simpa using h) (by simpa using k)
  simp only [List.set_cons_succ,comb,this]
  omega
theorem comb_zero {j:Nat}:∀ {xs:List Int} {as:List Vc},(∀ (i:Nat) (x:Int) (a:Vc),xs[i]?=some x->as[i]?=some a->x*a j=0)->comb xs as j=0
 | [],_,_=>rfl
 | _ :: _,[],_=>rfl
 | x :: xs,a :: as,h=>by
  have h0:=h 0 x a rfl rfl
  have:=comb_zero (j:=j) (xs:=xs) (as:=as) λi y b h1 h2=>h (i+1) y b (by simpa using h1) (by simpa using h2)
  simp only [comb,h0,this]
  rfl
theorem zgL {j x y:Nat} {q:Int} {t:List Int} {as:List Vc} {t1 t2:Int} {a1 a2:Vc} (hxy:x≠y) (h1:t[x]?=some t1) (h2:t[y]?=some t2) (k1:as[x]?=some a1) (k2:as[y]?=some a2) {b:Vc} (hb:b j=a2 j+q*a1 j) :
  comb (t.set x (t1-q*t2)) (as.set y b) j=comb t as j:=by
 rw [zeW h1 (by rw [List.getElem?_set_ne (Ne.symm hxy)];exact k1),zgo h2 k2,hb]
 grind
theorem zhU {j:Nat} (u a:Vc) (z:Int):∀ (xs:List Nat) (as:List Vc),comb (List.map (λi=>u i+z*a i) xs) as j=comb (List.map u xs) as j+z*comb (List.map a xs) as j
 | [],as=>by simp [comb]
 | x :: xs,[]=>by simp [comb]
 | x :: xs,b :: as=>by
  simp only [List.map_cons,comb,zhU u a z xs as]
  grind
theorem zkh {l:List Int} {k:Nat} (h:l.length=k):List.map (vec l) (List.range k)=l:=by
 refine List.ext_getElem (by simp [h]) λi h1 h2=>?_
 rw [List.getElem_map,List.getElem_range]
 simp [vec,List.getD_eq_getElem?_getD,List.getElem?_eq_getElem h2]
def tailS (n:Nat) (ss:List (List Int)):List (List Int):=List.map (λ(x:List Int)=>x.drop n) (List.filter (λ(x:List Int)=>decide (n≤hd x)) ss)
theorem zhk {l:List Int} {n:Nat} (h:n≤hd l) (hl:hd l<l.length):hd (l.drop n)=hd l-n:=ziS (by rw [zcE,show n+(hd l-n)=hd l by omega];exact zfr hl) λi hi=>by
 rw [zcE];exact zaY (by omega)
theorem zfa {n:Nat} {ss:List (List Int)} {t:List Int} (h:t∈tailS n ss):∃ s∈ss,n≤hd s∧t=s.drop n:=by
 unfold tailS at h
 obtain ⟨s,hs,rfl⟩:=List.mem_map.mp h
 obtain ⟨h1,h2⟩:=List.mem_filter.mp hs
 exact ⟨s,h1,by simpa using h2,rfl⟩
theorem zeU {n k:Nat}:∀ {ss:List (List Int)} {lo:Nat},Ech (n+k) lo ss->Ech k (lo-n) (tailS n ss)
 | [],_,_=>trivial
 | s :: ss,lo,e=>by
  unfold tailS
  by_cases q:n≤hd s
  ·rw [List.filter_cons_of_pos (by simpa using q),List.map_cons]
   have hl:=e.1
   have e1:=zhk q (by rw [hl];exact e.2.2.1)
   have e3:=e.2.2.1
   have e2:=e.2.1
   refine ⟨by rw [List.length_drop,hl];omega,by rw [e1];omega,by rw [e1];omega,by rw [e1,zcE,show n+(hd s-n)=hd s by omega];exact e.2.2.2.1,?_⟩
   have:=zeU e.2.2.2.2
   rw [e1]
   exact this.mono (by omega)
  ·rw [List.filter_cons_of_neg (by simpa using q)]
   have:=zeU e.2.2.2.2
   exact this.mono (by have:=e.2.1;omega)
theorem zeS {n k:Nat}:∀ {ss:List (List Int)} {lo:Nat},Ech (n+k) lo ss->Red ss->Red (tailS n ss)
 | [],_,_,_=>trivial
 | s :: ss,lo,e,r=>by
  unfold tailS
  by_cases q:n≤hd s
  ·rw [List.filter_cons_of_pos (by simpa using q),List.map_cons]
   refine ⟨λt ht=>?_,zeS e.2.2.2.2 r.2⟩
   obtain ⟨x,hx,h1,rfl⟩:=zfa ht
   have ex:=Ech.mem e.2.2.2.2 x hx
   rw [zhk h1 (by rw [ex.1];exact ex.2.2.1),zcE,zcE,show n+(hd x-n)=hd x by omega]
   exact r.1 x hx
  ·rw [List.filter_cons_of_neg (by simpa using q)]
   exact zeS e.2.2.2.2 r.2
theorem zha {m n:Nat}:∀ {ss:List (List Int)} {lo:Nat} {u:Vc},Ech m lo ss->SpL ss u->(∀ i,i<n->u i=0)->SpL (List.filter (λ(x:List Int)=>decide (n≤hd x)) ss) u
 | [],_,_,_,h,_=>h
 | s :: ss,lo,u,e,h,hz=>by
  obtain ⟨w,y,hw,hu⟩:=h.cons
  have e1:=SpL.before e.2.2.2.2 (Nat.lt_succ_self (hd s)) hw
  by_cases q:n≤hd s
  ·rw [List.filter_cons_of_pos (by simpa using q)]
   have hw0:∀ i,i<n->w i=0:=λi hi=>SpL.before e.2.2.2.2 (by omega) hw
   exact ((SpL.up (s:=s) (zha e.2.2.2.2 hw hw0)).plus ((SpL.mem (ss:=s :: _) List.mem_cons_self).smul y)).conv λi=>(hu i).symm
  ·rw [List.filter_cons_of_neg (by simpa using q)]
   have e2:=hu (hd s)
   rw [hz _ (by omega),e1] at e2
   have e4:=e.2.2.2.1
   have hy:y=0:=by
    rcases Int.mul_eq_zero.mp (show y*vec s (hd s)=0 by omega) with z | z
    ·exact z
    ·omega
   refine zha e.2.2.2.2 (hw.conv λi=>?_) hz
   rw [hu i,hy];simp
theorem Sd.drop {n k s:Nat} {t:List Int} (h:Sd (n+k) s t) (hn:n≤Lat.hd t):Sd k s (t.drop n):=by
 have e:=zhk hn (by rw [h.len];exact h.hd)
 have h1:=h.hd
 have e2:n+(Lat.hd t-n)=Lat.hd t:=by omega
 exact ⟨by rw [List.length_drop,h.len];omega,by rw [e];omega,by rw [e,zcE,e2];exact h.pos,by rw [e,zcE,e2];exact h.top,λx hx=>h.bit x (List.mem_of_mem_drop hx)⟩
end Lat
namespace L2
open PySem PySem.Spec PyProof.Rows
section
variable {X:Cx} {K:W.Frag}
end
section
variable {Γ:Ctx} {m:Bool} {K:W.Frag}
end
end L2
namespace L2
open PySem PySem.Spec PyProof.Rows
section
variable {E:XS} {Γ:Ctx} {u:TS} {o:Oc} {K:W.Frag} {i j:Nat}
end
end L2
namespace Lat
open L2
theorem zl4 {ss:List (List Int)} {u:Vc} (h:SpL ss u):∃ c:List Int,c.length=ss.length∧∀ i,u i=comb c (ss.map vec) i:=by
 induction h with
 | zero=>exact ⟨List.replicate ss.length 0,by simp,λi=>(comb_zero λk x a h1 _=>by
   have:=List.mem_of_getElem? h1
   rw [(List.mem_replicate.mp this).2];simp).symm⟩
 | @add u a z _ ha ih =>
  obtain ⟨s,hs,e⟩:=ha
  obtain ⟨c,hc,hu⟩:=ih
  obtain ⟨k,hk⟩:=List.getElem?_of_mem hs
  have hkl:k<c.length:=by rw [hc];exact (List.getElem?_eq_some_iff.mp hk).1
  refine ⟨c.set k (c[k]+z),by rw [List.length_set,hc],λi=>?_⟩
  rw [zeW (List.getElem?_eq_getElem hkl) (by rw [List.getElem?_map,hk];rfl)]
  show u i+z*a i=_
  rw [hu i,e]
  grind
theorem zgv {m j:Nat} {bs:List Vc}:∀ (xs:List Int) (cs:List (List Int)),(∀ c∈cs,c.length=m)->comb xs (cs.map λc=>comb c bs) j=comb (List.map (λt=>comb xs (cs.map vec) t) (List.range m)) bs j
 | [],cs,_=>by
  rw [show comb [] (cs.map λc=>comb c bs) j=0 from rfl]
  refine (comb_zero λi x a h1 _=>?_).symm
  obtain ⟨y,_,rfl⟩:=List.mem_map.mp (List.mem_of_getElem? h1)
  show (0:Int)*_=0
  simp
 | x :: xs,[],_=>by
  rw [show comb (x :: xs) (List.map (λc=>comb c bs) []) j=0 from rfl]
  refine (comb_zero λi x a h1 _=>?_).symm
  obtain ⟨y,_,rfl⟩:=List.mem_map.mp (List.mem_of_getElem? h1)
  show (0:Int)*_=0
  simp
 | x :: xs,c :: cs,h=>by
  have ih:=zgv (j:=j) (bs:=bs) xs cs λc hc=>h c (List.mem_cons_of_mem _ hc)
  have e:(λt=>comb (x :: xs) ((c :: cs).map vec) t)=λt=>(λt=>comb xs (cs.map vec) t) t+x*vec c t:=funext λt=>by
   simp only [List.map_cons,comb];omega
  rw [e,zhU,← ih,zkh (h c List.mem_cons_self)]
  simp only [List.map_cons,comb]
  omega
def zkM (A:List Vc):Prop:=∀ xs:List Int,xs.length=A.length->(∀ i,comb xs A i=0)->∀ x∈xs,x=0
theorem zk6 {A:List Vc} {ss:List (List Int)} (hA:∀ a∈A,SpL ss a) (hI:zkM A):A.length≤ss.length:=by
 refine Nat.le_of_not_lt λhlt=>?_
 obtain ⟨cs,c1,c2,c3⟩:∃ cs:List (List Int),cs.length=A.length∧(∀ c∈cs,c.length=ss.length)∧A=cs.map λc=>comb c (ss.map vec):=by
  clear hI hlt
  induction A with
  | nil=>exact ⟨[],rfl,by simp,rfl⟩
  | cons a A ih =>
   obtain ⟨cs,c1,c2,c3⟩:=ih λb hb=>hA b (List.mem_cons_of_mem _ hb)
   obtain ⟨c,hc,hu⟩:=zl4 (hA a List.mem_cons_self)
   refine ⟨c :: cs,by simp [c1],λd hd=>?_,?_⟩
   ·rcases List.mem_cons.mp hd with rfl | hd
    ·exact hc
    ·exact c2 d hd
   ·rw [List.map_cons,← c3,show a=comb c (ss.map vec) from funext hu]
 obtain ⟨B,hB⟩:∃ B,∀ c∈cs,∀ x∈c,x.natAbs≤B:=by
  clear c1 c2 c3
  induction cs with
  | nil=>exact ⟨0,by simp⟩
  | cons c cs ih =>
   obtain ⟨B,hB⟩:=ih
   obtain ⟨B2,hB2⟩:∃ B,∀ x∈c,x.natAbs≤B:=by
    clear hB
    induction c with
    | nil=>exact ⟨0,by simp⟩
    | cons y c ih =>
     obtain ⟨B,hB⟩:=ih
     refine ⟨max B y.natAbs,λx hx=>?_⟩
     rcases List.mem_cons.mp hx with rfl | hx
     ·omega
     ·have:=hB x hx;omega
   refine ⟨max B B2,λd hd x hx=>?_⟩
   rcases List.mem_cons.mp hd with rfl | hd
   ·have:=hB2 x hx;omega
   ·have:=hB d hd x hx;omega
 obtain ⟨xs,h1,h2,_,h4⟩:=zk1 (as:=cs.map vec) (hs:=List.range ss.length) (B:=B) (by rw [List.length_range,List.length_map,c1];exact hlt) λa ha h _=>by
  obtain ⟨c,hc,rfl⟩:=List.mem_map.mp ha
  exact zjs (hB c hc) h
 rw [List.length_map] at h1
 obtain ⟨x,hx,hne⟩:=h2
 refine hne (hI xs (by rw [h1,c1]) (λj=>?_) x hx)
 rw [c3,zgv xs cs c2]
 refine comb_zero λi y a q1 _=>?_
 rw [List.getElem?_map] at q1
 cases q:(List.range ss.length)[i]? with
 | none=>rw [q] at q1;cases q1
 | some t =>
  rw [q] at q1
  have q1:comb xs (cs.map vec) t=y:=Option.some.inj q1
  rw [← q1,h4 t (List.mem_of_getElem? q)]
  simp
theorem zgl {n:Nat}:∀ {ss:List (List Int)} {lo:Nat},Ech n lo ss->zkM (ss.map vec)
 | [],_,_=>λxs h _ x hx=>by rw [List.length_eq_zero_iff.mp h] at hx;simp at hx
 | s :: ss,lo,e=>λxs h hz x hx=>by
  match xs,h with
  | y :: xs,h =>
   have hS:SpL ss (comb xs (ss.map vec)):=zej λa ha=>by
    obtain ⟨t,ht,rfl⟩:=List.mem_map.mp ha
    exact ⟨t,ht,rfl⟩
   have e1:=SpL.before e.2.2.2.2 (Nat.lt_succ_self (hd s)) hS
   have e2:=hz (hd s)
   simp only [List.map_cons,comb] at e2
   rw [e1] at e2
   have hy:y=0:=by
    rcases Int.mul_eq_zero.mp (show y*vec s (hd s)=0 by omega) with z | z
    ·exact z
    ·have:=e.2.2.2.1;omega
   rcases List.mem_cons.mp hx with rfl | hx
   ·exact hy
   ·refine zgl e.2.2.2.2 xs (by simpa using h) (λi=>?_) x hx
    have:=hz i
    simp only [List.map_cons,comb] at this
    rw [hy] at this
    simpa using this
theorem zen:∀ (l:List (List Int×Int)) (xs:List Int),xs.length=(l.filter λp=>decide ((0:Int)<p.2)).length->∃ ys:List Int,ys.length=l.length∧(∀ i,comb ys (l.map λp=>vec p.1) i=comb xs ((l.filter λp=>decide ((0:Int)<p.2)).map λp=>vec (List.map (λ(y:Int)=>(p.2*y)) p.1)) i)∧((∀ y∈ys,y=0)->∀ x∈xs,x=0)
 | [],xs,h=>⟨[],rfl,λi=>by
   rw [List.length_eq_zero_iff.mp h];rfl,λ_ x hx=>by rw [List.length_eq_zero_iff.mp h] at hx;simp at hx⟩
 | p :: l,xs,h=>by
  by_cases hp:(0:Int)<p.2
  ·rw [List.filter_cons_of_pos (by simpa using hp)] at h ⊢
   match xs,h with
   | x :: xs,h =>
    obtain ⟨ys,h1,h2,h3⟩:=zen l xs (by simpa using h)
    refine ⟨(x*p.2) :: ys,by simp [h1],λi=>?_,λhz z hzm=>?_⟩
    ·simp only [List.map_cons,comb,h2 i]
     have:vec (List.map (λ(y:Int)=>(p.2*y)) p.1) i=p.2*vec p.1 i:=by
      unfold vec
      rw [List.getD_eq_getElem?_getD,List.getD_eq_getElem?_getD,List.getElem?_map]
      cases p.1[i]?<;>simp
     rw [this,Int.mul_assoc]
    ·rcases List.mem_cons.mp hzm with rfl | hzm
     ·rcases Int.mul_eq_zero.mp (hz _ List.mem_cons_self) with q | q
      ·exact q
      ·omega
     ·exact h3 (λy hy=>hz y (List.mem_cons_of_mem _ hy)) z hzm
  ·rw [List.filter_cons_of_neg (by simpa using hp)] at h ⊢
   obtain ⟨ys,h1,h2,h3⟩:=zen l xs h
   refine ⟨0 :: ys,by simp [h1],λi=>?_,λhz=>h3 λy hy=>hz y (List.mem_cons_of_mem _ hy)⟩
   simp only [List.map_cons,comb,h2 i]
   omega
theorem zpm {m:Nat} {z:Int} {i:Nat}:vec (List.map (λ(y:Int)=>(if (decide (y=z)) then (1:Int) else 0)) (za5 0 m)) i=if i<m∧(i:Int)=z then 1 else 0:=by
 unfold vec
 rw [List.getD_eq_getElem?_getD,List.getElem?_map]
 by_cases hi:i<m
 ·have:(za5 0 m)[i]?=some (i:Int):=by
   unfold za5
   rw [List.getElem?_map,List.getElem?_range hi]
   show some ((0:Int)+(i:Int))=some (i:Int)
   rw [Int.zero_add]
  rw [this]
  show (if (decide ((i:Int)=z)) then (1:Int) else 0)=_
  by_cases e:(i:Int)=z
  ·rw [decide_eq_true e,if_pos rfl,if_pos ⟨hi,e⟩]
  ·rw [decide_eq_false e,if_neg (by simp),if_neg (λq=>e q.2)]
 ·rw [List.getElem?_eq_none (by rw [zaH];omega),if_neg (λq=>hi q.1)]
  rfl
theorem zfJ {m:Nat} {c:Int}:∀ (ys:List Int) (s:Int) (i:Nat),i<m->0≤c+s->comb ys (List.map (λ(x:Int)=>vec (List.map (λ(y:Int)=>(if (decide (y=(c+x))) then (1:Int) else 0)) (za5 0 m))) (za5 s ys.length)) i=if c+s≤(i:Int) then vec ys ((i:Int)-(c+s)).toNat else 0
 | [],s,i,_,_=>by
  rw [show comb [] _ i=0 from rfl]
  split
  ·simp [vec]
  ·rfl
 | y :: ys,s,i,hi,hs=>by
  have ih:=zfJ (c:=c) ys (s+1) i hi (by omega)
  rw [List.length_cons,zdp,List.map_cons]
  simp only [comb,ih]
  rw [zpm]
  by_cases e:(i:Int)=c+s
  ·rw [if_pos ⟨hi,e⟩,if_neg (by omega),if_pos (by omega),show ((i:Int)-(c+s)).toNat=0 by omega,zjy]
   omega
  ·rw [if_neg (λq=>e q.2)]
   by_cases e2:c+s≤(i:Int)
   ·rw [if_pos (by omega),if_pos e2,show ((i:Int)-(c+s)).toNat=((i:Int)-(c+(s+1))).toNat+1 by omega,zaN]
    omega
   ·rw [if_neg (by omega),if_neg e2]
    omega
end Lat
namespace L2
open PySem PySem.Spec PyProof.Rows
section
open PySem.SeqAt PySem.MeetsSeq PySem.MeetsSeq2 PySem.MeetsSeq3
open PySem.AutoSeq1 (wpAny_loadPart')
end
section
variable {X:Cx} {K:W.Frag}
end
section
variable {X:Cx} {K:W.Frag}
end
section
variable {E:XS} {Γ:Ctx} {te tj:TE} {t u:TS} {o:Oc} {m:Bool} {K:W.Frag} {i j:Nat} {α β:Type}
end
end L2
namespace L2
open PySem PySem.Spec PyProof.Rows
section
variable {X:Cx} {CX:CXT} {k:Nat} {f C:Addr} {fd:FuncData} {ps:List Str} {sp:Sp} {E:XK} {m:Str} {pos apos:Pos} {o e:Expr} {es:List Expr} {t:TA}
structure ByCls (K:W.Frag) (C f:Addr) (m:Str):Prop where
 ga:W.specialIn K (.ref C) "__getattribute__"=some (some (.builtin "type.__getattribute__"))
 rd:W.readsIn K C (.type "type")=true
 fn:W.findCls K (.ref C) (.type "type") m=some (.val (.ref f))
 kp:W.keepIn K (.ref f)=true
end
section
variable {E:XS} {Γ:Ctx} {u:TS} {o:Oc} {m m2:Bool} {K:W.Frag} {i:Nat} {ds:List Ds} {tr:TA}
end
section
variable {Γ:Ctx} {m:Bool}
end
section
variable {X:Cx} {CX:CXT} {k k2:Nat} {f f2 C C2:Addr} {fd fd2:FuncData} {ps ps2:List Str} {sp sp2:Sp} {E:XK} {m:Str} {pos apos:Pos} {o e:Expr} {es:List Expr} {ta:TE} {t:TA}
end
section
variable {Γ:Ctx} {i:Nat} {m n:Bool} {ds:List Ds}
end
end L2
namespace Lat
open L2
def dv:List Int->Vc->Int
 | [],_=>0
 | a :: w,u=>a*u 0+dv w λi=>u (i+1)
theorem zk0:∀ (w t:List Int),(List.map (λ(x:Int×Int)=>x.1*x.2) (List.zip w t)).sum=dv w (vec t)
 | [],_=>rfl
 | a :: w,[]=>by
  have:∀ (w:List Int),dv w (λ_=>0)=0:=by
   intro w
   induction w with
   | nil=>rfl
   | cons a w ih=>show a*0+dv w (λ_=>0)=0;rw [ih];omega
  exact (this (a :: w)).symm
 | a :: w,b :: t=>by
  show a*b+(List.map (λ(x:Int×Int)=>x.1*x.2) (List.zip w t)).sum=a*b+dv w λi=>vec (b :: t) (i+1)
  rw [zk0 w t]
  congr 2
theorem ze7:∀ (w:List Int) (u v:Vc) (x:Int),dv w (λi=>u i+x*v i)=dv w u+x*dv w v
 | [],_,_,x=>by show (0:Int)=0+x*0;omega
 | a :: w,u,v,x=>by
  show a*(u 0+x*v 0)+dv w (λi=>u (i+1)+x*v (i+1))=_
  rw [ze7 w (λi=>u (i+1)) (λi=>v (i+1)) x]
  show _=a*u 0+dv w (λi=>u (i+1))+x*(a*v 0+dv w λi=>v (i+1))
  grind
theorem dv_zero (w:List Int):dv w (λ_=>0)=0:=by
 have:=ze7 w (λ_=>0) (λ_=>0) (-1)
 have e:(λ(i:Nat)=>(0:Int)+-1*0)=λ_=>0:=by funext i;omega
 rw [e] at this
 omega
theorem zex {w:List Int} {u v:Vc} (h:∀ i,u i=v i):dv w u=dv w v:=by rw [show u=v from funext h]
theorem znG {A:Vc->Prop} {w:List Int} {M:Int} {u:Vc} (h:∀ a,A a->M ∣ dv w a) (hu:Sp A u):M ∣ dv w u:=by
 induction hu with
 | zero=>rw [dv_zero];exact Int.dvd_zero _
 | @add u a z _ ha ih=>rw [ze7];exact Int.dvd_add ih (Int.dvd_trans (h a ha) (Int.dvd_mul_left _ _))
section
variable {n:Nat} {sw:List (List Int)} {x:List Int} {R ss:List (List Int)}
end
end Lat
namespace L2
open PySem PySem.Spec PyProof.Rows
section
variable {Γ:Ctx} {m:Bool} {K:W.Frag} {ta:TE} {α:Type} {f:α->Ds} {cl:α->Addr} {fs:α->List (Str×Ds)}
end
end L2
namespace L2
open PySem PySem.Spec PyProof.Rows
structure CalleeM (P:Program) (w:World) (K:W.Frag) (mg:Str->Option Value) (base:Heap) (CX:CXT) (k:Nat) (C:Addr) (m:Str) (ps:List Str) (sp:Sp):Prop where
 ex:∃ f fd,FnOk P w K mg base CX k f fd ps sp∧Meth K C m f∧ze2 K fd ps []
def zpa (t u:TE):TE:=λσ H Q=>t σ H Q∨u σ H Q
section
variable {X:Cx} {CX:CXT} {k:Nat} {C:Addr} {ps:List Str} {sp:Sp} {E:XK} {m:Str} {pos apos:Pos} {o e:Expr} {es:List Expr} {ta:TE} {t:TA}
theorem Ev.inl {Γ:Ctx} {t u:TE} {b:Bool} {d:Ds} (h:Ev Γ t b d):Ev Γ (zpa t u) b d:=λF0 Hb F H σ own Q a k=>.inl (h F0 Hb F H σ own Q a k)
theorem Ev.inr {Γ:Ctx} {t u:TE} {b:Bool} {d:Ds} (h:Ev Γ u b d):Ev Γ (zpa t u) b d:=λF0 Hb F H σ own Q a k=>.inr (h F0 Hb F H σ own Q a k)
end
section
variable {Γ:Ctx} {ta tb tc:TE} {m:Bool}
end
section
variable {E:XS} {Γ:Ctx} {m:Bool} {K:W.Frag} {te:TE} {u:TS} {α β:Type}
end
end L2
namespace L2
open PySem PySem.Spec PyProof.Rows
def orX (t u:TEX):TEX:=λσ H Q E=>t σ H Q E∨u σ H Q E
section
variable {X:Cx} {a b e o:Expr} {es:List Expr} {pos apos:Pos} {k:Nat} {C:Addr} {ps:List Str} {sp:Sp} {m:Str} {tb to:TE} {ta:TEX} {t:TA}
end
def EvX {α ε:Type} (xc:ε->Addr) (Γ:Ctx) (te:TEX) (m:Bool) (d:α->Ds) (r:Except ε α):Prop:=∀ (F0 Hb F H:Hp) (σ:St) (own:Nat->Option Addr) (Q:VK) (E:XK),At F0 Hb F H σ own Γ →
 (match r with | .ok v=>∀ v' F' H',Grow F H F' H'->(d v).pr (part m F' Hb) v'->Q v' H' | .error e=>∀ dct F' H',Grow F H F' H'->E (.ref (xc e)) dct H')->te σ H Q E
section
variable {α β ε:Type} {xc:ε->Addr} {Γ Γx:Ctx} {te:TEX} {tb:TE} {m m0:Bool} {d:α->Ds} {r:Except ε α} {ds:List Ds} {u:TS} {E:XS}
theorem EvX.inl {t u:TEX} (h:EvX xc Γ t m d r):EvX xc Γ (orX t u) m d r:=λF0 Hb F H σ own Q E a k=>.inl (h F0 Hb F H σ own Q E a k)
theorem EvX.inr {t u:TEX} (h:EvX xc Γ u m d r):EvX xc Γ (orX t u) m d r:=λF0 Hb F H σ own Q E a k=>.inr (h F0 Hb F H σ own Q E a k)
end
end L2
namespace L2
open PySem PySem.Spec PyProof.Rows
section
variable {P:Program} {w:World} {K:W.Frag} {mg:Str->Option Value} {base:Heap} {x qual:Str} {st:Stmt} {f:Addr} {fd:FuncData} {N ps:List Str} {k:Nat}
end
section
variable {X:Cx} {k:Nat} {f C:Addr} {fd:FuncData} {ps:List Str} {sp:Sp} {x:Str} {p pos:Pos} {e:Expr} {es:List Expr} {t:TA}
end
section
variable {E:XS} {Γ Γx:Ctx} {u t:TS} {o:Oc} {ds:List Ds} {tr:TA} {K:W.Frag} {m:Bool} {ta:TE}
end
end L2
namespace Lat
open L2
theorem zj8:∀ (w v:List Int) (q:Int) (u:Vc),w.length=v.length->dv (List.map (λ(x:Int×Int)=>x.1-(q*x.2)) (List.zip w v)) u=dv w u-q*dv v u
 | [],[],q,u,_=>by show (0:Int)=0-q*0;omega
 | a :: w,b :: v,q,u,h=>by
  show (a-q*b)*u 0+dv (List.map (λ(x:Int×Int)=>x.1-(q*x.2)) (List.zip w v)) (λi=>u (i+1))=(a*u 0+dv w λi=>u (i+1))-q*(b*u 0+dv v λi=>u (i+1))
  rw [zj8 w v q (λi=>u (i+1)) (by simpa using h)]
  grind
theorem zjW (w:List Int) (c:Int) (v:Vc):dv w (λi=>c*v i)=c*dv w v:=by
 have:=ze7 w (λ_=>0) v c
 rw [dv_zero,Int.zero_add] at this
 rw [← this]
 exact zex λi=>by omega
theorem zhL {c:Int} {l:List Int} {k:Nat}:vec (List.map (λ(y:Int)=>c*y) l) k=c*vec l k:=by
 have e:List.map (λ(y:Int)=>c*y) l=mul l c:=by unfold mul;congr 1;funext y;exact Int.mul_comm _ _
 rw [e,zdd,Int.mul_comm]
theorem zgW:∀ (n:Nat) (s i:Int) (u:Vc),dv (List.map (λ(y:Int)=>(if (decide (y=i)) then (1:Int) else 0)) (za5 s n)) u=if s≤i∧i<s+n then u (i-s).toNat else 0
 | 0,s,i,u=>by
  rw [if_neg (by omega)]
  rfl
 | n+1,s,i,u=>by
  rw [zdp,List.map_cons]
  show (if (decide (s=i)) then (1:Int) else 0)*u 0+dv (List.map (λ(y:Int)=>(if (decide (y=i)) then (1:Int) else 0)) (za5 (s+1) n)) (λk=>u (k+1))=_
  rw [zgW n (s+1) i]
  by_cases e:s=i
  ·have n1:¬ (s+1≤i∧i<s+1+(n:Int)):=by omega
   have n2:s≤i∧i<s+((n+1:Nat):Int):=by omega
   rw [decide_eq_true e,if_neg n1,if_pos n2,show (i-s).toNat=0 by omega]
   simp
  ·rw [decide_eq_false e]
   by_cases h:s+1≤i∧i<s+1+(n:Int)
   ·have n2:s≤i∧i<s+((n+1:Nat):Int):=by omega
    rw [if_pos h,if_pos n2,show (i-s).toNat=(i-(s+1)).toNat+1 by omega]
    simp
   ·have n2:¬ (s≤i∧i<s+((n+1:Nat):Int)):=by omega
    rw [if_neg h,if_neg n2]
    simp
structure Du (W:Nat) (s:List (List Int)×List (List Int)):Prop where
 l1:s.1.length=W
 l2:s.2.length=W
 r:∀ t∈s.1,t.length=W
 d:∀ t∈s.2,t.length=W
 A:∀ (i j:Nat) (t v:List Int),s.2[i]?=some t->s.1[j]?=some v->dv t (vec v)=if i=j then 1 else 0
 B:∀ u:Vc,(∀ k,W≤k->u k=0)->∀ j,comb (s.2.map λt=>dv t u) (s.1.map vec) j=u j
theorem Du.step {W o t:Nat} {s:List (List Int)×List (List Int)} {ro rt d_o dt:List Int} (h:Du W s) (q:Int) (hot:o≠t) (ho:s.1[o]?=some ro) (ht:s.1[t]?=some rt) (hdo:s.2[o]?=some d_o) (hdt:s.2[t]?=some dt) :
  Du W (s.1.set t (List.map (λ(x:Int×Int)=>x.1+(q*x.2)) (List.zip rt ro)),s.2.set o (List.map (λ(x:Int×Int)=>x.1-(q*x.2)) (List.zip d_o dt))):=by
 have m1:=h.r _ (List.mem_of_getElem? ho);have m2:=h.r _ (List.mem_of_getElem? ht)
 have m3:=h.d _ (List.mem_of_getElem? hdo);have m4:=h.d _ (List.mem_of_getElem? hdt)
 have hr:∀ (w:List Int),dv w (vec (List.map (λ(x:Int×Int)=>x.1+(q*x.2)) (List.zip rt ro)))=dv w (vec rt)+q*dv w (vec ro):=λw=>by
  rw [← ze7]
  exact zex λi=>ze5 (by rw [m1,m2])
 have hd:∀ u,dv (List.map (λ(x:Int×Int)=>x.1-(q*x.2)) (List.zip d_o dt)) u=dv d_o u-q*dv dt u:=λu=>zj8 _ _ _ _ (by rw [m3,m4])
 refine ⟨by show (s.1.set t _).length=W;rw [List.length_set];exact h.l1,by show (s.2.set o _).length=W;rw [List.length_set];exact h.l2,λx hx=>?_,λx hx=>?_,λi j x v hx hv=>?_,λu hu j=>?_⟩
 ·rcases List.mem_or_eq_of_mem_set hx with hx | rfl
  ·exact h.r x hx
  ·rw [List.length_map,List.length_zip,m1,m2];omega
 ·rcases List.mem_or_eq_of_mem_set hx with hx | rfl
  ·exact h.d x hx
  ·rw [List.length_map,List.length_zip,m3,m4];omega
 ·have hx2:(s.2.set o (List.map (λ(x:Int×Int)=>x.1-(q*x.2)) (List.zip d_o dt)))[i]?=some x:=hx
  have hv2:(s.1.set t (List.map (λ(x:Int×Int)=>x.1+(q*x.2)) (List.zip rt ro)))[j]?=some v:=hv
  clear hx hv
  have lo:=(List.getElem?_eq_some_iff.mp hdo).1
  have lt:=(List.getElem?_eq_some_iff.mp ht).1
  by_cases hi:i=o
  ·subst hi
   rw [List.getElem?_set_self lo] at hx2
   cases hx2
   rw [hd]
   by_cases hj:j=t
   ·subst hj
    rw [List.getElem?_set_self lt] at hv2
    cases hv2
    rw [hr,hr,h.A _ _ _ _ hdo ht,h.A _ _ _ _ hdo ho,h.A _ _ _ _ hdt ht,h.A _ _ _ _ hdt ho,if_neg hot,if_pos rfl,if_pos rfl,if_neg (Ne.symm hot)]
    omega
   ·rw [List.getElem?_set_ne (Ne.symm hj)] at hv2
    rw [h.A _ _ _ _ hdo hv2,h.A _ _ _ _ hdt hv2,if_neg (Ne.symm hj)]
    omega
  ·rw [List.getElem?_set_ne (Ne.symm hi)] at hx2
   by_cases hj:j=t
   ·subst hj
    rw [List.getElem?_set_self lt] at hv2
    cases hv2
    rw [hr,h.A _ _ _ _ hx2 ht,h.A _ _ _ _ hx2 ho,if_neg hi]
    omega
   ·rw [List.getElem?_set_ne (Ne.symm hj)] at hv2
    exact h.A _ _ _ _ hx2 hv2
 ·show comb ((s.2.set o _).map λt=>dv t u) ((s.1.set t _).map vec) j=u j
  rw [List.map_set,List.map_set,hd]
  rw [zgL (a1:=vec ro) (a2:=vec rt) hot (by rw [List.getElem?_map,hdo];rfl) (by rw [List.getElem?_map,hdt];rfl) (by rw [List.getElem?_map,ho];rfl) (by rw [List.getElem?_map,ht];rfl) (ze5 (by rw [m1,m2]))]
  exact h.B u hu j
theorem Du.start {W:Nat} {a:List (List Int)} (ha:a=List.map (λ(x:Int)=>List.map (λ(y:Int)=>(if (decide (y=x)) then (1:Int) else 0)) (za5 0 W)) (za5 0 W)):Du W (a,a):=by
 have hm:∀ t∈a,t.length=W:=λt ht=>by
  rw [ha] at ht
  obtain ⟨x,_,rfl⟩:=List.mem_map.mp ht
  rw [List.length_map,zaH]
 have hl:a.length=W:=by rw [ha,List.length_map,zaH]
 have hg:∀ (i:Nat) (t:List Int),a[i]?=some t->i<W∧t=List.map (λ(y:Int)=>(if (decide (y=(i:Int))) then (1:Int) else 0)) (za5 0 W):=λi t h=>by
  have hi:=(List.getElem?_eq_some_iff.mp h).1
  rw [ha,List.getElem?_map] at h
  cases q:(za5 0 W)[i]? with
  | none=>rw [q] at h;cases h
  | some z =>
   rw [q] at h
   obtain ⟨g1,g2⟩:=zbq q
   have h:List.map (λ(y:Int)=>(if (decide (y=z)) then (1:Int) else 0)) (za5 0 W)=t:=Option.some.inj h
   rw [← h,g2,Int.zero_add]
   exact ⟨g1,rfl⟩
 refine ⟨hl,hl,hm,hm,λi j t v ht hv=>?_,λu hu j=>?_⟩
 ·obtain ⟨hi,rfl⟩:=hg i t ht
  obtain ⟨hj,rfl⟩:=hg j v hv
  rw [zgW,if_pos (by omega)]
  rw [zpm]
  by_cases e:i=j
  ·rw [if_pos ⟨by omega,by omega⟩,if_pos e]
  ·rw [if_neg (λq=>e (by have:=q.2;omega)),if_neg e]
 ·show comb (a.map λt=>dv t u) (a.map vec) j=u j
  have e1:(a.map λt=>dv t u)=List.map (λ(x:Int)=>u x.toNat) (za5 0 W):=by
   rw [ha,List.map_map]
   refine List.map_congr_left λx hx=>?_
   obtain ⟨x1,x2⟩:=mem_rngZ.mp hx
   show dv (List.map (λ(y:Int)=>(if (decide (y=x)) then (1:Int) else 0)) (za5 0 W)) u=_
   rw [zgW,if_pos (by omega),Int.sub_zero]
  have e2:a.map vec=List.map (λ(x:Int)=>vec (List.map (λ(y:Int)=>(if (decide (y=(0+x))) then (1:Int) else 0)) (za5 0 W))) (za5 0 (List.map (λ(x:Int)=>u x.toNat) (za5 0 W)).length):=by
   rw [ha,List.map_map,List.length_map,zaH]
   refine List.map_congr_left λx _=>?_
   rw [Int.zero_add];rfl
  rw [e1,e2]
  by_cases hj:j<W
  ·rw [zfJ _ 0 j hj (by omega),if_pos (by omega)]
   rw [show ((j:Int)-(0+0)).toNat=j by omega]
   unfold vec
   rw [List.getD_eq_getElem?_getD,List.getElem?_map]
   have q:(za5 0 W)[j]?=some (j:Int):=by
    unfold za5
    rw [List.getElem?_map,List.getElem?_range hj]
    show some ((0:Int)+(j:Int))=_
    rw [Int.zero_add]
   rw [q]
   show u ((j:Int)).toNat=u j
   rw [Int.toNat_natCast]
  ·rw [hu j (by omega)]
   refine comb_zero λi x v _ hv=>?_
   rw [List.getElem?_map] at hv
   cases q:(za5 0 (List.map (λ(x:Int)=>u x.toNat) (za5 0 W)).length)[i]? with
   | none=>rw [q] at hv;cases hv
   | some z =>
    rw [q] at hv
    have hv:=Option.some.inj hv
    rw [← hv]
    show x*vec (List.map (λ(y:Int)=>(if (decide (y=0+z)) then (1:Int) else 0)) (za5 0 W)) j=0
    rw [zcv (by rw [List.length_map,zaH];omega),Int.mul_zero]
def scl (rows:List (List Int)) (bs:List Int):List (List Int):=((List.zip rows bs).filter λp=>decide (0<p.2)).map λp=>List.map (λ(y:Int)=>p.2*y) p.1
theorem scl_to {W:Nat} {s:List (List Int)×List (List Int)} {bs:List Int} {u:Vc} (h:Du W s) (hu:SpL (scl s.1 bs) u) {i:Nat} {t:List Int} {b:Int} (ht:s.2[i]?=some t) (hb:bs[i]?=some b):b ∣ dv t u:=by
 refine znG (λa ⟨r,hr,e⟩=>?_) hu
 subst e
 obtain ⟨p,hp,rfl⟩:=List.mem_map.mp hr
 have hp:=(List.mem_filter.mp hp).1
 obtain ⟨j,hj⟩:=List.getElem?_of_mem hp
 obtain ⟨j1,j2⟩:=za6 hj
 rw [show vec (List.map (λ(y:Int)=>p.2*y) p.1)=λk=>p.2*vec p.1 k from funext λk=>zhL,zjW,h.A _ _ _ _ ht j1]
 by_cases e:i=j
 ·subst e
  rw [hb] at j2
  cases j2
  exact Int.dvd_mul_right _ _
 ·rw [if_neg e,Int.mul_zero];exact Int.dvd_zero _
theorem zj4:∀ (xs:List Int) (rows:List (List Int)) (bs:List Int),xs.length=rows.length->bs.length=rows.length->(∀ (i:Nat) (x b:Int),xs[i]?=some x->bs[i]?=some b->0≤b∧b ∣ x)->SpL (scl rows bs) (comb xs (rows.map vec))
 | [],[],_,_,_,_=>Sp.zero
 | x :: xs,r :: rows,b :: bs,h1,h2,h=>by
  have ih:=zj4 xs rows bs (by simpa using h1) (by simpa using h2) λi x b hx hb=>h (i+1) x b (by simpa using hx) (by simpa using hb)
  obtain ⟨b0,c,hc⟩:=h 0 x b rfl rfl
  have up:SpL (scl (r :: rows) (b :: bs)) (comb xs (rows.map vec)):=by
   refine SpL.sub (λs hs=>SpL.mem ?_) ih
   unfold scl at hs ⊢
   obtain ⟨p,hp,rfl⟩:=List.mem_map.mp hs
   refine List.mem_map.mpr ⟨p,?_,rfl⟩
   obtain ⟨p1,p2⟩:=List.mem_filter.mp hp
   exact List.mem_filter.mpr ⟨List.mem_cons_of_mem _ p1,p2⟩
  by_cases q:b=0
  ·refine up.conv λi=>?_
   show comb xs (rows.map vec) i=x*vec r i+comb xs (rows.map vec) i
   rw [hc,q];simp
  ·have hm:List.map (λ(y:Int)=>b*y) r∈scl (r :: rows) (b :: bs):=by
    unfold scl
    refine List.mem_map.mpr ⟨(r,b),List.mem_filter.mpr ⟨List.mem_cons_self,decide_eq_true (show 0<b by omega)⟩,rfl⟩
   refine ((Sp.smul c (SpL.mem hm)).plus up).conv λi=>?_
   show c*vec (List.map (λ(y:Int)=>b*y) r) i+comb xs (rows.map vec) i=x*vec r i+comb xs (rows.map vec) i
   rw [zhL,hc,← Int.mul_assoc,Int.mul_comm c b]
theorem scl_of {W:Nat} {s:List (List Int)×List (List Int)} {bs:List Int} {u:Vc} (h:Du W s) (hl:bs.length=W) (hb:∀ b∈bs,0≤b) (hu:∀ k,W≤k->u k=0) (hd:∀ (i:Nat) (t:List Int) (b:Int),s.2[i]?=some t->bs[i]?=some b->b ∣ dv t u):SpL (scl s.1 bs) u:=by
 refine (zj4 (s.2.map λt=>dv t u) s.1 bs (by rw [List.length_map,h.l1,h.l2]) (by rw [hl,h.l1]) λi x b hx hbi=>?_).conv λj=>h.B u hu j
 rw [List.getElem?_map] at hx
 cases q:s.2[i]? with
 | none=>rw [q] at hx;cases hx
 | some t =>
  rw [q] at hx
  have hx:dv t u=x:=Option.some.inj hx
  exact ⟨hb b (List.mem_of_getElem? hbi),hx ▸ hd i t b q hbi⟩
theorem zkN {rows:List (List Int)} {o t:Nat} {ro rt y:List Int} {q:Int} (hot:o≠t) (ho:rows[o]?=some ro) (ht:rows[t]?=some rt) (hy:∀ k,vec y k=vec rt k+q*vec ro k) {u:Vc}:SpL (rows.set t y) u ↔ SpL rows u:=by
 constructor
 ·refine SpL.sub λs hs=>?_
  rcases List.mem_or_eq_of_mem_set hs with hs | rfl
  ·exact SpL.mem hs
  ·exact ((SpL.mem (List.mem_of_getElem? ht)).plus (Sp.smul q (SpL.mem (List.mem_of_getElem? ho)))).conv λk=>(hy k).symm
 ·refine SpL.sub λs hs=>?_
  have lt:=(List.getElem?_eq_some_iff.mp ht).1
  have ny:SpL (rows.set t y) (vec y):=SpL.mem (List.mem_of_getElem? (List.getElem?_set_self lt))
  have no:SpL (rows.set t y) (vec ro):=SpL.mem (List.mem_of_getElem? (by rw [List.getElem?_set_ne (Ne.symm hot)];exact ho))
  obtain ⟨j,hj⟩:=List.getElem?_of_mem hs
  by_cases e:j=t
  ·subst e
   rw [hj] at ht
   cases ht
   refine (ny.plus (Sp.smul (-q) no)).conv λk=>?_
   rw [hy k]
   grind
  ·exact SpL.mem (List.mem_of_getElem? (by rw [List.getElem?_set_ne (Ne.symm e)];exact hj))
theorem zje {a z:List (List Int)} (hz:∀ s∈z,∀ k,vec s k=0) {u:Vc}:SpL (a++z) u ↔ SpL a u:=by
 constructor
 ·refine SpL.sub λs hs=>?_
  rcases List.mem_append.mp hs with hs | hs
  ·exact SpL.mem hs
  ·exact (Sp.zero:Sp _ _).conv λk=>(hz s hs k).symm
 ·exact SpL.sub λs hs=>SpL.mem (List.mem_append_left _ hs)
end Lat
namespace L2
open PySem PySem.Spec PyProof.Rows
structure T6 (α β γ δ ε ζ:Type) where
 a:α
 b:β
 c:γ
 d:δ
 e:ε
 f:ζ
section
variable {E:XS} {Γ:Ctx} {m:Bool} {K:W.Frag} {te:TE} {u:TS} {α β:Type}
theorem zgI {x:α} {i1 i2 i3 i4 i5 i6:Nat} (d1 d2 d3 d4 d5 d6:α->Ds) (fo:β->Oc) {kk:α->β} (h:Ev Γ te m (dT [d1 x,d2 x,d3 x,d4 x,d5 x,d6 x])) (k:∀ y,y=x->Run E ((((((Γ.set i1 (.va m (d1 y))).set i2 (.va m (d2 y))).set i3 (.va m (d3 y))).set i4 (.va m (d4 y))).set i5 (.va m (d5 y))).set i6 (.va m (d6 y))) u (fo (kk y))) :
  Run E Γ (tSeq (zih te (zmC K 6 (zd9 (zcb i1) (zd9 (zcb i2) (zd9 (zcb i3) (zd9 (zcb i4) (zd9 (zcb i5) (zd9 (zcb i6) znI)))))))) u) (fo (Let x kk)):=λF0 Hb F H σ own D a q =>
 h F0 Hb F H σ own _ a λv F' H' g ⟨p,vs,e1,e2,e3⟩=>by
  cases e3 with | cons q1 t=>cases t with | cons q2 t=>cases t with | cons q3 t=>cases t with | cons q4 t=>cases t with | cons q5 t=>cases t with | cons q6 t =>
   cases t
   exact ⟨p,_,e1,.inl (.inl ((part_sub.trans g.fh) _ _ e2)),rfl,_,_,rfl,_,_,rfl,_,_,rfl,_,_,rfl,_,_,rfl,_,_,rfl,rfl,k x rfl F0 Hb F' H' _ own D (((((((a.grow g).set i1 q1).set i2 q2).set i3 q3).set i4 q4).set i5 q5).set i6 q6) q⟩
end
end L2
namespace PySem
open Sem (wp)
namespace F
theorem typeCall_zip_3 (a b c:Value):checkTypeCall "zip" ⟨[a,b,c],[]⟩=pure ():=by kernel_rfl
theorem newCall_zip_3 (a b c:Value):checkBuiltinCall "zip.__new__" ⟨[.type "zip",a,b,c],[]⟩=pure ():=by kernel_rfl
theorem args_object_init_4 (a b c d:Value):argsOk "object.__init__" ⟨[a,b,c,d],[]⟩:=by
 unfold argsOk;rw [signature?_of (id:="object.__init__") (n:=['_','_','t','i','n','i','_','_']) (o:=['t','c','e','j','b','o']) (by kernel_rfl) owner_object];kernel_rfl
end F
abbrev zdG (h:Heap) (T:Addr) (a b c:Value):Prop:=h.get? T=some { cls:=.type "tuple",data:=.seq #[a,b,c] }
structure Zip3 (h:Heap) (n:Nat) (l1 l2 l3:Addr) (k:Nat) (f0:Value):Prop where
 z:IsZip h (n+5) (n+3) (n+4) f0
 ti:zdG h (n+3) (.ref n) (.ref (n+1)) (.ref (n+2))
 to:∃ a b c,zdG h (n+4) a b c
 i1:h.IsListIter n l1 k
 i2:h.IsListIter (n+1) l2 k
 i3:h.IsListIter (n+2) l3 k
section
variable {prog:Program} {w:World} {A:Around} {E:Value->Shared->Prop} {s:Shared} {n k:Nat} {l1 l2 l3:Nat}
theorem ne_add {a b:Nat} (h:a<b):@Ne Addr a b:=Nat.ne_of_lt h
theorem ne_add' {a b:Nat} (h:b<a):@Ne Addr a b:=Nat.ne_of_gt h
theorem zaW {T:Addr} {a b c x:Value} {k:Nat} {Q:Unit->Shared->Prop} (hT:zdG s.heap T a b c)
  (h:∀ h',h'.get? T=some { cls:=.type "tuple",data:=.seq ((#[a,b,c]:Array Value).setIfInBounds k x) }->Heap.SameBut T s.heap h'->Q () { s with heap:=h' }) :
  wpAny (model prog w) A (updateSeq T (·.setIfInBounds k x)) Q E s:=by
 refine wpAny_updateSeq hT rfl (h _ ?_ (Heap.SameBut.update ..))
 rw [Heap.get?_update_self _ hT rfl]
 simp [Obj.mapSeq]
theorem zft {xs ys zs:Array Value} {x y v:Value} {Q:Value->Shared->Prop} (b1:l1<n) (b2:l2<n) (b3:l3<n)
  (Z:Zip3 s.heap n l1 l2 l3 k .none) (hl1:s.heap.IsList l1 xs) (hl2:s.heap.IsList l2 ys) (hl3:s.heap.IsList l3 zs) (hx:xs[k]?=some x) (hy:ys[k]?=some y) (hv:zs[k]?=some v)
  (hQ:∀ h',Zip3 h' n l1 l2 l3 (k+1) (rawInt s.heap.objs.size)->zdG h' s.heap.objs.size x y v->h'.objs.size=s.heap.objs.size+1 →
   (∀ c o,¬ (n≤c∧c≤n+5)->s.heap.get? c=some o->h'.get? c=some o)->Q (.ref s.heap.objs.size) { s with heap:=h' }) :
  wpAny (model prog w) A (Builtin.«zip.__next__» ⟨[.ref (n+5)],[]⟩) (λfin s'=>∃ v,fin=.done (.ret v)∧Q v s') E s:=by
 obtain ⟨hz,hTI,⟨a,b,c,hTO⟩,h1,h2,h3⟩:=Z
 show wpAny _ _ (field (.ref (n+5)) 2 >>= _) _ _ _
 refine wpAny_bind (wpAny_field hz rfl (x:=.bool false) rfl ?_)
 show wpAny _ _ (field (.ref (n+5)) 3 >>= _) _ _ _
 refine wpAny_bind (wpAny_field hz rfl (x:=.ref (n+3)) rfl ?_)
 refine wpAny_bind (wpAny_seqItems hTI rfl ?_)
 show wpAny _ _ (Builtin.SmallTypes.ownedTupleIsFree (.ref (n+5)) >>= _) _ _ _
 refine wpAny_bind ?_
 unfold Builtin.SmallTypes.ownedTupleIsFree
 refine wpAny_bind (wpAny_field hz rfl (x:=.none) rfl (wpAny_pure ?_))
 simp only [if_true]
 refine wpAny_bind (wpAny_rule ?_)
 refine wpAny_bind (wpAny_field hz rfl (x:=.ref (n+4)) rfl ?_)
 refine wpAny_bind (wpAny_setField_rec hz (by simp) λh₁ hz₁ hs₁=>?_)
 replace hz₁:IsZip h₁ (n+5) (n+3) (n+4) .ellipsis:=hz₁
 refine wpAny_bind ?_
 simp only [List.zipIdx_cons,List.zipIdx_nil,List.forIn_cons,List.forIn_nil]
 refine wpAny_bind (wpAny_bind (wpAny_onRaise ?_))
 show wpAny _ _ (Builtin.SmallTypes.nextOf (.ref n) >>= _) _ _ _
 refine wpAny_bind (wpAny_nextOf_list_item (h1.extBut hs₁.extBut (ne_add (by omega))) (hl1.extBut hs₁.extBut (ne_add (by omega))) hx λh₂ h1₂ hs₂=>wpAny_pure ?_)
 have hTO₂:zdG h₂ (n+4) a b c:=hs₂.extBut _ _ (ne_add' (by omega)) (hs₁.extBut _ _ (ne_add (by omega)) hTO)
 refine wpAny_bind (wpAny_seqItems hTO₂ rfl ?_)
 refine wpAny_bind (zaW hTO₂ λh₃ hTO₃ hs₃=>?_)
 replace hTO₃:zdG h₃ (n+4) x b c:=hTO₃
 refine wpAny_bind (wpAny_letGo (wpAny_pure ?_))
 have k₃:∀ c o,c≠n+5->c≠n+4->c≠n->s.heap.get? c=some o->h₃.get? c=some o:=λc o c1 c2 c3 e=>hs₃.extBut _ _ c2 (hs₂.extBut _ _ c3 (hs₁.extBut _ _ c1 e))
 refine wpAny_bind (wpAny_bind (wpAny_onRaise ?_))
 show wpAny _ _ (Builtin.SmallTypes.nextOf (.ref (n+1)) >>= _) _ _ _
 refine wpAny_bind (wpAny_nextOf_list_item (h2.at λo e=>k₃ _ o (ne_add (by omega)) (ne_add (by omega)) (ne_add' (by omega)) e)
  (hl2.at λo e=>k₃ _ o (ne_add (by omega)) (ne_add (by omega)) (ne_add (by omega)) e) hy λh₄ h2₄ hs₄=>wpAny_pure ?_)
 have hTO₄:zdG h₄ (n+4) x b c:=hs₄.extBut _ _ (ne_add' (by omega)) hTO₃
 refine wpAny_bind (wpAny_seqItems hTO₄ rfl ?_)
 refine wpAny_bind (zaW hTO₄ λh₅ hTO₅ hs₅=>?_)
 replace hTO₅:zdG h₅ (n+4) x y c:=hTO₅
 refine wpAny_bind (wpAny_letGo (wpAny_pure ?_))
 have k₅:∀ c o,c≠n+5->c≠n+4->c≠n->c≠n+1->s.heap.get? c=some o->h₅.get? c=some o:=λc o c1 c2 c3 c4 e=>hs₅.extBut _ _ c2 (hs₄.extBut _ _ c4 (k₃ c o c1 c2 c3 e))
 refine wpAny_bind (wpAny_bind (wpAny_onRaise ?_))
 show wpAny _ _ (Builtin.SmallTypes.nextOf (.ref (n+2)) >>= _) _ _ _
 refine wpAny_bind (wpAny_nextOf_list_item (h3.at λo e=>k₅ _ o (ne_add (by omega)) (ne_add (by omega)) (ne_add' (by omega)) (ne_add' (by omega)) e)
  (hl3.at λo e=>k₅ _ o (ne_add (by omega)) (ne_add (by omega)) (ne_add (by omega)) (ne_add (by omega)) e) hv λh₆ h3₆ hs₆=>wpAny_pure ?_)
 have hTO₆:zdG h₆ (n+4) x y c:=hs₆.extBut _ _ (ne_add' (by omega)) hTO₅
 refine wpAny_bind (wpAny_seqItems hTO₆ rfl ?_)
 refine wpAny_bind (zaW hTO₆ λh₇ hTO₇ hs₇=>?_)
 replace hTO₇:zdG h₇ (n+4) x y v:=hTO₇
 refine wpAny_bind (wpAny_letGo (wpAny_pure (wpAny_pure ?_)))
 refine wpAny_bind (wpAny_seqItems hTO₇ rfl ?_)
 refine wpAny_bind (wpAny_newTuple ?_)
 have hsz:h₇.objs.size=s.heap.objs.size:=by rw [hs₇.1,hs₆.1,hs₅.1,hs₄.1,hs₃.1,hs₂.1,hs₁.1]
 have hz₇:IsZip h₇ (n+5) (n+3) (n+4) .ellipsis:=hs₇.extBut _ _ (ne_add' (by omega)) (hs₆.extBut _ _ (ne_add' (by omega)) (hs₅.extBut _ _ (ne_add' (by omega)) (hs₄.extBut _ _ (ne_add' (by omega)) (hs₃.extBut _ _ (ne_add' (by omega)) (hs₂.extBut _ _ (ne_add' (by omega)) hz₁)))))
 have k₇:∀ c o,c≠n+5->c≠n+4->c≠n->c≠n+1->c≠n+2->s.heap.get? c=some o->h₇.get? c=some o:=λc o c1 c2 c3 c4 c5 e=>hs₇.extBut _ _ c2 (hs₆.extBut _ _ c5 (k₅ c o c1 c2 c3 c4 e))
 have h1₇:h₇.IsListIter n l1 (k+1):=h1₂.at λo e=>hs₇.extBut _ _ (ne_add (by omega)) (hs₆.extBut _ _ (ne_add (by omega)) (hs₅.extBut _ _ (ne_add (by omega)) (hs₄.extBut _ _ (ne_add (by omega)) (hs₃.extBut _ _ (ne_add (by omega)) e))))
 have h2₇:h₇.IsListIter (n+1) l2 (k+1):=h2₄.at λo e=>hs₇.extBut _ _ (ne_add (by omega)) (hs₆.extBut _ _ (ne_add (by omega)) (hs₅.extBut _ _ (ne_add (by omega)) e))
 have h3₇:h₇.IsListIter (n+2) l3 (k+1):=h3₆.at λo e=>hs₇.extBut _ _ (ne_add (by omega)) e
 have hzlt:n+5<h₇.objs.size:=Heap.lt_size hz₇
 show wpAny _ _ (Builtin.SmallTypes.ownedTupleHandOut (.ref (n+5)) (.ref h₇.objs.size) >>= _) _ _ _
 refine wpAny_bind ?_
 unfold Builtin.SmallTypes.ownedTupleHandOut
 have hz₈:IsZip (h₇.push { cls:=.type "tuple",data:=.seq #[x,y,v] }) (n+5) (n+3) (n+4) .ellipsis:=Heap.get?_push_of_some _ hz₇
 refine wpAny_bind (wpAny_setField_rec hz₈ (by simp) λh₉ hz₉ hs₉=>?_)
 replace hz₉:IsZip h₉ (n+5) (n+3) (n+4) (rawInt h₇.objs.size):=hz₉
 refine wpAny_setField_rec hz₉ (by simp) λh₀ hz₀ hs₀=>?_
 replace hz₀:IsZip h₀ (n+5) (n+3) (n+4) (rawInt h₇.objs.size):=hz₀
 have up:∀ c o,c≠n+5->h₇.get? c=some o->h₀.get? c=some o:=λc o c1 e=>hs₀.extBut _ _ c1 (hs₉.extBut _ _ c1 (Heap.get?_push_of_some _ e))
 have hT₀:zdG h₀ h₇.objs.size x y v:=hs₀.extBut _ _ (ne_add' hzlt) (hs₉.extBut _ _ (ne_add' hzlt) (Heap.get?_push_size _ rfl))
 have hz0:h₀.objs.size=h₇.objs.size+1:=by rw [hs₀.1,hs₉.1,Heap.size_push]
 rw [hsz] at hz₀ hT₀ hz0
 refine wpAny_pure ⟨_,rfl,?_⟩
 show Q (.ref h₇.objs.size) _
 rw [hsz]
 exact hQ h₀ ⟨hz₀,up _ _ (ne_add (by omega)) (k₇ _ _ (ne_add (by omega)) (ne_add (by omega)) (ne_add' (by omega)) (ne_add' (by omega)) (ne_add' (by omega)) hTI),⟨x,y,v,up _ _ (ne_add (by omega)) hTO₇⟩,h1₇.at λo e=>up _ o (ne_add (by omega)) e,h2₇.at λo e=>up _ o (ne_add (by omega)) e,h3₇.at λo e=>up _ o (ne_add (by omega)) e⟩ hT₀ hz0
  λc o hc e=>up c o (λz=>hc (by rw [z];omega)) (k₇ c o (λz=>hc (by rw [z];omega)) (λz=>hc (by rw [z];omega)) (λz=>hc (by rw [z];omega)) (λz=>hc (by rw [z];omega)) (λz=>hc (by rw [z];omega)) e)
theorem zgf {xs ys zs:Array Value} {Q:Fin->Shared->Prop} (hh:A.handled=none) (b1:l1<n) (b2:l2<n) (b3:l3<n)
  (Z:Zip3 s.heap n l1 l2 l3 k .none) (hl1:s.heap.IsList l1 xs) (hl2:s.heap.IsList l2 ys) (hl3:s.heap.IsList l3 zs) (hend:xs[k]?=none∨ys[k]?=none∨zs[k]?=none)
  (hE:∀ h' e,(∀ c o,¬ (n≤c∧c≤n+5)->s.heap.get? c=some o->h'.get? c=some o)->(∃ o,h'.get? e=some o∧o.cls=.type "StopIteration")->E (.ref e) { s with heap:=h' }) :
  wpAny (model prog w) A (Builtin.«zip.__next__» ⟨[.ref (n+5)],[]⟩) Q E s:=by
 obtain ⟨hz,hTI,⟨a,b,c,hTO⟩,h1,h2,h3⟩:=Z
 show wpAny _ _ (field (.ref (n+5)) 2 >>= _) _ _ _
 refine wpAny_bind (wpAny_field hz rfl (x:=.bool false) rfl ?_)
 show wpAny _ _ (field (.ref (n+5)) 3 >>= _) _ _ _
 refine wpAny_bind (wpAny_field hz rfl (x:=.ref (n+3)) rfl ?_)
 refine wpAny_bind (wpAny_seqItems hTI rfl ?_)
 show wpAny _ _ (Builtin.SmallTypes.ownedTupleIsFree (.ref (n+5)) >>= _) _ _ _
 refine wpAny_bind ?_
 unfold Builtin.SmallTypes.ownedTupleIsFree
 refine wpAny_bind (wpAny_field hz rfl (x:=.none) rfl (wpAny_pure ?_))
 simp only [if_true]
 refine wpAny_bind (wpAny_rule ?_)
 refine wpAny_bind (wpAny_field hz rfl (x:=.ref (n+4)) rfl ?_)
 refine wpAny_bind (wpAny_setField_rec hz (by simp) λh₁ hz₁ hs₁=>?_)
 replace hz₁:IsZip h₁ (n+5) (n+3) (n+4) .ellipsis:=hz₁
 refine wpAny_bind ?_
 simp only [List.zipIdx_cons,List.zipIdx_nil,List.forIn_cons,List.forIn_nil]
 have bye:∀ (h₂:Heap) (e:Addr) (f:Value),IsZip h₂ (n+5) (n+3) (n+4) .ellipsis->(∃ o,h₂.get? e=some o∧o.cls=.type "StopIteration")->(∀ c o,¬ (n≤c∧c≤n+5)->s.heap.get? c=some o->h₂.get? c=some o)->∀ (h₃:Heap),Heap.SameBut (n+5) h₂ h₃->E (.ref e) { s with heap:=h₃ }:=λh₂ e f hz₂ he hk h₃ hs₃=>by
  obtain ⟨oe,hoe,hce⟩:=he
  have hez:e≠n+5:=λx=>by subst x;rw [hz₂] at hoe;cases hoe;simp at hce
  exact hE h₃ e (λc o hc x=>hs₃.extBut _ _ (λz=>hc (by rw [z];omega)) (hk c o hc x)) ⟨oe,hs₃.extBut _ _ hez hoe,hce⟩
 refine wpAny_bind (wpAny_bind (wpAny_onRaise ?_))
 show wpAny _ _ (Builtin.SmallTypes.nextOf (.ref n) >>= _) _ _ _
 cases hx:xs[k]? with
 | none =>
  refine wpAny_bind (wpAny_nextOf_list_end hh (h1.extBut hs₁.extBut (ne_add (by omega))) (hl1.extBut hs₁.extBut (ne_add (by omega))) hx λh₂ e hs₂ he=>?_)
  have hz₂:IsZip h₂ (n+5) (n+3) (n+4) .ellipsis:=hs₂ _ _ (ne_add' (by omega)) hz₁
  exact wpAny_setField_rec hz₂ (by simp) λh₃ _ hs₃=>bye h₂ e .none hz₂ he (λc o hc x=>hs₂ _ _ (λz=>hc (by rw [z];omega)) (hs₁.extBut _ _ (λz=>hc (by rw [z];omega)) x)) h₃ hs₃
 | some x =>
  refine wpAny_bind (wpAny_nextOf_list_item (h1.extBut hs₁.extBut (ne_add (by omega))) (hl1.extBut hs₁.extBut (ne_add (by omega))) hx λh₂ h1₂ hs₂=>wpAny_pure ?_)
  have hTO₂:zdG h₂ (n+4) a b c:=hs₂.extBut _ _ (ne_add' (by omega)) (hs₁.extBut _ _ (ne_add (by omega)) hTO)
  refine wpAny_bind (wpAny_seqItems hTO₂ rfl ?_)
  refine wpAny_bind (zaW hTO₂ λh₃ hTO₃ hs₃=>?_)
  replace hTO₃:zdG h₃ (n+4) x b c:=hTO₃
  refine wpAny_bind (wpAny_letGo (wpAny_pure ?_))
  have k₃:∀ c o,c≠n+5->c≠n+4->c≠n->s.heap.get? c=some o->h₃.get? c=some o:=λc o c1 c2 c3 e=>hs₃.extBut _ _ c2 (hs₂.extBut _ _ c3 (hs₁.extBut _ _ c1 e))
  have hz₃:IsZip h₃ (n+5) (n+3) (n+4) .ellipsis:=hs₃.extBut _ _ (ne_add' (by omega)) (hs₂.extBut _ _ (ne_add' (by omega)) hz₁)
  have i2₃:=h2.at λo e=>k₃ _ o (ne_add (by omega)) (ne_add (by omega)) (ne_add' (by omega)) e
  have j2₃:=hl2.at λo e=>k₃ _ o (ne_add (by omega)) (ne_add (by omega)) (ne_add (by omega)) e
  refine wpAny_bind (wpAny_bind (wpAny_onRaise ?_))
  show wpAny _ _ (Builtin.SmallTypes.nextOf (.ref (n+1)) >>= _) _ _ _
  cases hy:ys[k]? with
  | none =>
   refine wpAny_bind (wpAny_nextOf_list_end hh i2₃ j2₃ hy λh₄ e hs₄ he=>?_)
   have hz₄:IsZip h₄ (n+5) (n+3) (n+4) .ellipsis:=hs₄ _ _ (ne_add' (by omega)) hz₃
   exact wpAny_setField_rec hz₄ (by simp) λh₅ _ hs₅=>bye h₄ e .none hz₄ he (λc o hc x=>hs₄ _ _ (λz=>hc (by rw [z];omega)) (k₃ c o (λz=>hc (by rw [z];omega)) (λz=>hc (by rw [z];omega)) (λz=>hc (by rw [z];omega)) x)) h₅ hs₅
  | some y =>
   have hv:zs[k]?=none:=by
    rcases hend with h | h | h
    ·rw [hx] at h;cases h
    ·rw [hy] at h;cases h
    ·exact h
   refine wpAny_bind (wpAny_nextOf_list_item i2₃ j2₃ hy λh₄ h2₄ hs₄=>wpAny_pure ?_)
   have hTO₄:zdG h₄ (n+4) x b c:=hs₄.extBut _ _ (ne_add' (by omega)) hTO₃
   refine wpAny_bind (wpAny_seqItems hTO₄ rfl ?_)
   refine wpAny_bind (zaW hTO₄ λh₅ hTO₅ hs₅=>?_)
   refine wpAny_bind (wpAny_letGo (wpAny_pure ?_))
   have k₅:∀ c o,c≠n+5->c≠n+4->c≠n->c≠n+1->s.heap.get? c=some o->h₅.get? c=some o:=λc o c1 c2 c3 c4 e=>hs₅.extBut _ _ c2 (hs₄.extBut _ _ c4 (k₃ c o c1 c2 c3 e))
   have hz₅:IsZip h₅ (n+5) (n+3) (n+4) .ellipsis:=hs₅.extBut _ _ (ne_add' (by omega)) (hs₄.extBut _ _ (ne_add' (by omega)) hz₃)
   refine wpAny_bind (wpAny_bind (wpAny_onRaise ?_))
   show wpAny _ _ (Builtin.SmallTypes.nextOf (.ref (n+2)) >>= _) _ _ _
   refine wpAny_bind (wpAny_nextOf_list_end hh (h3.at λo e=>k₅ _ o (ne_add (by omega)) (ne_add (by omega)) (ne_add' (by omega)) (ne_add' (by omega)) e) (hl3.at λo e=>k₅ _ o (ne_add (by omega)) (ne_add (by omega)) (ne_add (by omega)) (ne_add (by omega)) e) hv λh₆ e hs₆ he=>?_)
   have hz₆:IsZip h₆ (n+5) (n+3) (n+4) .ellipsis:=hs₆ _ _ (ne_add' (by omega)) hz₅
   exact wpAny_setField_rec hz₆ (by simp) λh₇ _ hs₇=>bye h₆ e .none hz₆ he (λc o hc x=>hs₆ _ _ (λz=>hc (by rw [z];omega)) (k₅ c o (λz=>hc (by rw [z];omega)) (λz=>hc (by rw [z];omega)) (λz=>hc (by rw [z];omega)) (λz=>hc (by rw [z];omega)) x)) h₇ hs₇
theorem zfq {xs ys zs:Array Value} {x y v:Value} {Q:Option Value->Shared->Prop} (b1:l1<n) (b2:l2<n) (b3:l3<n)
  (Z:Zip3 s.heap n l1 l2 l3 k .none) (hl1:s.heap.IsList l1 xs) (hl2:s.heap.IsList l2 ys) (hl3:s.heap.IsList l3 zs) (hx:xs[k]?=some x) (hy:ys[k]?=some y) (hv:zs[k]?=some v)
  (hQ:∀ h',Zip3 h' n l1 l2 l3 (k+1) (rawInt s.heap.objs.size)->zdG h' s.heap.objs.size x y v->h'.objs.size=s.heap.objs.size+1 →
   (∀ c o,¬ (n≤c∧c≤n+5)->s.heap.get? c=some o->h'.get? c=some o)->Q (some (.ref s.heap.objs.size)) { s with heap:=h' }) :
  wpAny (model prog w) A (pyNext (.ref (n+5))) Q E s:=by
 have hT:s.TypeIs (.ref (n+5)) "zip":=⟨_,Z.z,rfl⟩
 unfold pyNext
 exact wpAny_bind (wpAny_attempt (wpAny_callSpecial?_slot (name:=Str.ofString "__next__") hT F.slot_zip_next
  (wpAny_call_entry F.slot_zip_next hT F.entry_zip_next
   (zft b1 b2 b3 Z hl1 hl2 hl3 hx hy hv λh' a1 a2 a3 a4=>wpAny_pure (hQ h' a1 a2 a3 a4)) (F.args_zip_next_1 _))))
theorem zf7 {xs ys zs:Array Value} {Q:Option Value->Shared->Prop} (hh:A.handled=none) (b1:l1<n) (b2:l2<n) (b3:l3<n)
  (Z:Zip3 s.heap n l1 l2 l3 k .none) (hl1:s.heap.IsList l1 xs) (hl2:s.heap.IsList l2 ys) (hl3:s.heap.IsList l3 zs) (hend:xs[k]?=none∨ys[k]?=none∨zs[k]?=none)
  (hQ:∀ h',(∀ c o,¬ (n≤c∧c≤n+5)->s.heap.get? c=some o->h'.get? c=some o)->Q none { s with heap:=h' }):wpAny (model prog w) A (pyNext (.ref (n+5))) Q E s:=by
 have hT:s.TypeIs (.ref (n+5)) "zip":=⟨_,Z.z,rfl⟩
 unfold pyNext
 refine wpAny_bind (wpAny_attempt (wpAny_callSpecial?_slot (name:=Str.ofString "__next__") hT F.slot_zip_next
  (wpAny_call_entry F.slot_zip_next hT F.entry_zip_next (zgf hh b1 b2 b3 Z hl1 hl2 hl3 hend λh' e hk he=>?_) (F.args_zip_next_1 _))))
 obtain ⟨o,ho,hc⟩:=he
 refine wpAny_bind (wpAny_isInstance (T:="StopIteration") (b:=true) ⟨o,ho,hc⟩ isSubtype_stop ?_)
 exact wpAny_pure (hQ _ hk)
end
abbrev z3I (h:Heap) (l:Addr):Heap:=h.push { cls:=.type "list_iterator",data:=.fields #[.ref l,.int 0 0] }
abbrev z3A (h:Heap) (l1 l2 l3:Addr):Heap:=z3I (z3I (z3I h l1) l2) l3
abbrev z3B (h:Heap) (l1 l2 l3:Addr):Heap:=(z3A h l1 l2 l3).push { cls:=.type "tuple",data:=.seq #[.ref h.objs.size,.ref (z3I h l1).objs.size,.ref (z3I (z3I h l1) l2).objs.size] }
abbrev z3C (h:Heap) (l1 l2 l3:Addr):Heap:=(z3B h l1 l2 l3).push { cls:=.type "tuple",data:=.seq #[.none,.none,.none] }
abbrev z3D (h:Heap) (l1 l2 l3:Addr):Heap:=(z3C h l1 l2 l3).push { cls:=.type "zip",data:=.fields #[.none,.bool false,.bool false,.ref (z3A h l1 l2 l3).objs.size,.ref (z3B h l1 l2 l3).objs.size] }
section
variable {prog:Program} {w:World} {A:Around} {E:Value->Shared->Prop} {s:Shared}
theorem zh3 {l1 l2 l3:Addr} {xs ys zs:Array Value} {Q:Value->Shared->Prop} (hl1:s.heap.IsList l1 xs) (hl2:s.heap.IsList l2 ys) (hl3:s.heap.IsList l3 zs)
  (h:∀ h',Zip3 h' s.heap.objs.size l1 l2 l3 0 .none->(∀ c o,s.heap.get? c=some o->h'.get? c=some o)->Q (.ref (s.heap.objs.size+5)) { s with heap:=h' }) :
  wpAny (model prog w) A (call (.type "zip") [.ref l1,.ref l2,.ref l3]) Q E s:=by
 refine callType_new (S:=λ_ R s=>s.heap.IsList l1 xs∧s.heap.IsList l2 ys∧s.heap.IsList l3 zs∧R (.ok (.ret (.ref (z3C s.heap l1 l2 l3).objs.size))) { s with heap:=z3D s.heap l1 l2 l3 }) F.called_zip (by decide) (F.typeCall_zip_3 _ _ _) (F.newCall_zip_3 _ _ _) (λobj=>F.args_object_init_4 obj _ _ _) F.entry_zip_new
  (.of_wp λprog w A R s h=>by
   obtain ⟨hp,g,d,tk,os⟩:=s;obtain ⟨hl1,hl2,hl3,h⟩:=h
   have hsub:=sub_zip
   have hL1:Heap.IsList (Shared.heap ⟨hp,g,d,tk,os⟩) l1 xs:=hl1
   have hL2:Heap.IsList (Shared.heap ⟨hp.push { cls:=.type "list_iterator",data:=.fields #[.ref l1,.int 0 0] },g,d,tk,os⟩) l2 ys:=Heap.IsList.push hl2 _
   have hL3:Heap.IsList (Shared.heap ⟨(hp.push { cls:=.type "list_iterator",data:=.fields #[.ref l1,.int 0 0] }).push { cls:=.type "list_iterator",data:=.fields #[.ref l2,.int 0 0] },g,d,tk,os⟩) l3 zs:=Heap.IsList.push (Heap.IsList.push hl3 _) _
   wp_walk using wpAny_pyIter_list hL1,wpAny_pyIter_list hL2,wpAny_pyIter_list hL3
   exact ⟨_,rfl,h⟩) ⟨hl1,hl2,hl3,?_⟩
 have z1:(z3I s.heap l1).objs.size=s.heap.objs.size+1:=Heap.size_push ..
 have z2:(z3I (z3I s.heap l1) l2).objs.size=s.heap.objs.size+2:=by rw [Heap.size_push,z1]
 have z3:(z3A s.heap l1 l2 l3).objs.size=s.heap.objs.size+3:=by rw [Heap.size_push,z2]
 have z4:(z3B s.heap l1 l2 l3).objs.size=s.heap.objs.size+4:=by rw [Heap.size_push,z3]
 have z5:(z3C s.heap l1 l2 l3).objs.size=s.heap.objs.size+5:=by rw [Heap.size_push,z4]
 have p:∀ {h:Heap} {a:Addr} {o q:Obj},h.get? a=some o->(h.push q).get? a=some o:=λe=>Heap.get?_push_of_some _ e
 have g5:(z3D s.heap l1 l2 l3).get? (z3C s.heap l1 l2 l3).objs.size=some _:=Heap.get?_push_size _ rfl
 have g4:(z3D s.heap l1 l2 l3).get? (z3B s.heap l1 l2 l3).objs.size=some _:=p (Heap.get?_push_size _ rfl)
 have g3:(z3D s.heap l1 l2 l3).get? (z3A s.heap l1 l2 l3).objs.size=some _:=p (p (Heap.get?_push_size _ rfl))
 have g2:(z3D s.heap l1 l2 l3).get? (z3I (z3I s.heap l1) l2).objs.size=some _:=p (p (p (Heap.get?_push_size _ rfl)))
 have g1:(z3D s.heap l1 l2 l3).get? (z3I s.heap l1).objs.size=some _:=p (p (p (p (Heap.get?_push_size _ rfl))))
 have g0:(z3D s.heap l1 l2 l3).get? s.heap.objs.size=some _:=p (p (p (p (p (Heap.get?_push_size _ rfl)))))
 show _∧_
 rw [z3,z4,z5] at g5
 rw [z1,z2,z3] at g3
 rw [z4] at g4
 rw [z2] at g2
 rw [z1] at g1
 rw [z5]
 exact ⟨⟨_,g5,rfl⟩,h _ ⟨g5,g3,⟨_,_,_,g4⟩,⟨_,g0,rfl,rfl⟩,⟨_,g1,rfl,rfl⟩,⟨_,g2,rfl,rfl⟩⟩ λc o x=>p (p (p (p (p (p x)))))⟩
end
end PySem
namespace L2
open PySem PySem.Spec PyProof.Rows
def zoG (K:W.Frag) (a b c:Addr):It :=
 ⟨λi H=>∃ xs ys zs x y z,SqL K H a xs∧SqL K H b ys∧SqL K H c zs∧xs[i]?=some x∧ys[i]?=some y∧zs[i]?=some z,
  λi H v H'=>∃ p x y z,v=.ref p∧H p=none∧H'=upd H p (.tup [x,y,z])∧∀ xs ys zs,SqL K H a xs->SqL K H b ys->SqL K H c zs->xs[i]?=some x∧ys[i]?=some y∧zs[i]?=some z,
  λi H=>∃ xs ys zs,SqL K H a xs∧SqL K H b ys∧SqL K H c zs∧(xs.length≤i∨ys.length≤i∨zs.length≤i)⟩
theorem zkF {n c:Nat}:c∈[n+5,n+3,n+4,n,n+1,n+2] ↔ n≤c∧c≤n+5:=by
 simp only [List.mem_cons,List.not_mem_nil,or_false]
 omega
theorem zpt {n c:Nat} (h:¬ (n≤c∧c≤n+5)):@Ne Addr c (n+5):=λz=>h (by have z:c=n+5:=z;omega)
theorem zix {P:Program} {w:World} {K:W.Frag} {elts:List Expr} {x1:Nat} {tp:Pos} {a b c n:Nat} (b1:a<n) (b2:b<n) (b3:c<n) :
  Turn P w K (.Tuple elts x1 tp) (zoG K a b c) [n+5,n+3,n+4,n,n+1,n+2] (n+5) (λi h=>Zip3 h n a b c i .none) where
 mem:=by simp
 obj:=λi h st q hq=>by
  obtain ⟨hz,hTI,⟨p1,p2,p3,hTO⟩,⟨o1,e1,_,d1⟩,⟨o2,e2,_,d2⟩,⟨o3,e3,_,d3⟩⟩:=st
  simp only [List.mem_cons,List.not_mem_nil,or_false] at hq
  rcases hq with rfl | rfl | rfl | rfl | rfl | rfl
  ·exact ⟨_,hz,λv z=>by cases z⟩
  ·exact ⟨_,hTI,λv z=>by cases z⟩
  ·exact ⟨_,hTO,λv z=>by cases z⟩
  ·exact ⟨o1,e1,λv z=>by rw [d1] at z;cases z⟩
  ·exact ⟨o2,e2,λv z=>by rw [d2] at z;cases z⟩
  ·exact ⟨o3,e3,λv z=>by rw [d3] at z;cases z⟩
 keep:=λi h h' st k=>by
  obtain ⟨hz,hTI,⟨p1,p2,p3,hTO⟩,h1,h2,h3⟩:=st
  exact ⟨k _ (by simp) _ hz,k _ (by simp) _ hTI,⟨p1,p2,p3,k _ (by simp) _ hTO⟩,h1.at λo e=>k _ (by simp) o e,h2.at λo e=>k _ (by simp) o e,h3.at λo e=>k _ (by simp) o e⟩
 item:=by
  intro X hP hw hK hc i pins s σ H E I hf st hg
  subst hP hw hK
  obtain ⟨xs,ys,zs,x,y,z,hxs,hys,hzs,hx,hy,hz⟩:=hg
  obtain ⟨itx,rx,px,_⟩:=I.list hxs
  obtain ⟨ity,ry,py,_⟩:=I.list hys
  obtain ⟨itz,rz,pz,_⟩:=I.list hzs
  obtain ⟨u,hu,ru⟩:=rx.get hx
  obtain ⟨v,hv,rv⟩:=ry.get hy
  obtain ⟨t,ht,rt⟩:=rz.get hz
  have zlt:n+5<s.heap.objs.size:=Heap.lt_size st.z
  refine zfq (x:=u) (y:=v) (v:=t) b1 b2 b3 st px.isList py.isList pz.isList (by simpa using hu) (by simpa using hv) (by simpa using ht) λh' a1 a2 a3 a4=>?_
  refine ⟨_,rfl,wpAny_letOwnedTupleGo_zip a1.z λh'' c1 c2=>?_⟩
  have tup:zdG h'' s.heap.objs.size u v t:=c2.extBut _ _ (ne_add' zlt) a2
  have I1:Inv X pins σ (upd H s.heap.objs.size (.tup [x,y,z])) { s with heap:=h'' }:=by
   refine I.turnedNew (t':=s.toks) (ch:=[n+5,n+3,n+4,n,n+1,n+2]) (λq hq=>hf q hq) (λq ob hq e=>?_) (Nat.le_refl _) ?_
   ·have hq':¬ (n≤q∧q≤n+5):=λz=>hq (zkF.mpr z)
    exact c2.extBut _ _ (zpt hq') (a4 q ob hq' e)
   ·exact ⟨by show 3≤sizeLine;decide,[u,v,t],.cons ru (.cons rv (.cons rt .nil)),⟨_,tup,rfl,_,rfl⟩⟩
  obtain ⟨d1,d2,⟨p1,p2,p3,d3⟩,d4,d5,d6⟩:=a1
  have up:∀ q ob,q≠n+5->h'.get? q=some ob->h''.get? q=some ob:=λq ob hq e=>c2.extBut _ _ hq e
  refine ⟨.ref s.heap.objs.size,_,I1,rfl,⟨_,x,y,z,rfl,I.hok.fresh (Nat.le_refl _),rfl,λxs' ys' zs' q1 q2 q3=>?_⟩,⟨c1,up _ _ (ne_add (by omega)) d2,⟨_,_,_,up _ _ (ne_add (by omega)) d3⟩,d4.at λo e=>up _ o (ne_add (by omega)) e,d5.at λo e=>up _ o (ne_add (by omega)) e,d6.at λo e=>up _ o (ne_add (by omega)) e⟩,λq hq=>?_⟩
  ·rw [I.list_inj q1 hxs,I.list_inj q2 hys,I.list_inj q3 hzs];exact ⟨hx,hy,hz⟩
  ·rw [upd_ne (ne_add (by have:=zkF.mp hq;omega))];exact (hf q hq).1
 done:=by
  intro X hP hw hK hc i pins s σ H E I hf st hg
  subst hP hw hK
  obtain ⟨xs,ys,zs,hxs,hys,hzs,hend⟩:=hg
  obtain ⟨itx,rx,px,_⟩:=I.list hxs
  obtain ⟨ity,ry,py,_⟩:=I.list hys
  obtain ⟨itz,rz,pz,_⟩:=I.list hzs
  have lx:=rx.length
  have ly:=ry.length
  have lz:=rz.length
  refine zf7 (I.ok.hd hc) b1 b2 b3 st px.isList py.isList pz.isList ?_ λh' hk=>⟨rfl,?_⟩
  ·rcases hend with e | e | e
   ·exact .inl (by simp;omega)
   ·exact .inr (.inl (by simp;omega))
   ·exact .inr (.inr (by simp;omega))
  ·exact I.turnedL (t':=s.toks) (ch:=[n+5,n+3,n+4,n,n+1,n+2]) (λq hq=>hf q hq) λq ob hq e=>hk q ob (λz=>hq (zkF.mpr z)) e
 self:=λ_ _ _ _ _ st h=>wpAny_pyIter_zip st.z h
section
variable {X:Cx}
def zl8 (K:W.Frag) (ta:TA):TI:=λσ H R=>ta σ H λvs H1=>∃ a b c,vs=[.ref a,.ref b,.ref c]∧(∃ xs,SqL K H1 a xs)∧(∃ ys,SqL K H1 b ys)∧(∃ zs,SqL K H1 c zs)∧R (zoG K a b c) H1
theorem zlP {a b c:Expr} {ta:TA} {p pos tp:Pos} {elts:List Expr} {x1:Nat} (hg:Gl X "zip") (hm:X.mg "zip"=none) (ha:PA X [a,b,c] ta) (hs:starEach [a,b,c] X.env=[(false,eval a X.env),(false,eval b X.env),(false,eval c X.env)]:=by rfl) (hs2:starEach [b,c] X.env=[(false,eval b X.env),(false,eval c X.env)]:=by rfl) :
  PI X (.Tuple elts x1 tp) (.Call (.Name "zip" p) [a,b,c] [] pos) (zl8 X.K ta):=by
 intro pins s σ H R I h
 refine Call_ (ld_blt I hg hm boot_zip (PyProof.Rows.callWith_type1 (thn (ha pos pins s σ H _ I h) λus s1 ⟨vs,H1,I1,r1,q1⟩=>?_) (by rw [hs,hs2]) (by rw [hs2];rfl)))
 obtain ⟨l1,l2,l3,e,⟨xs,hx⟩,⟨ys,hy⟩,⟨zs,hz⟩,q⟩:=q1
 subst e
 cases r1 with
 | cons r rr =>
  cases rr with
  | cons r' rr =>
   cases rr with
   | cons r'' rr =>
    cases rr
    cases r
    cases r'
    cases r''
    obtain ⟨itx,rx,px,_⟩:=I1.list hx
    obtain ⟨ity,ry,py,_⟩:=I1.list hy
    obtain ⟨itz,rz,pz,_⟩:=I1.list hz
    have lt1:@LT.lt Nat _ l1 s1.heap.objs.size:=by obtain ⟨o,e,_⟩:=px.isList;exact Heap.lt_size e
    have lt2:@LT.lt Nat _ l2 s1.heap.objs.size:=by obtain ⟨o,e,_⟩:=py.isList;exact Heap.lt_size e
    have lt3:@LT.lt Nat _ l3 s1.heap.objs.size:=by obtain ⟨o,e,_⟩:=pz.isList;exact Heap.lt_size e
    refine zh3 px.isList py.isList pz.isList λh' Z hk=>?_
    refine wpAny_pyIter_zip Z.z ?_
    refine ⟨s1.heap.objs.size+5,[s1.heap.objs.size+5,s1.heap.objs.size+3,s1.heap.objs.size+4,s1.heap.objs.size,s1.heap.objs.size+1,s1.heap.objs.size+2],_,zoG X.K l1 l2 l3,H1,rfl,I1.kept (t':=s1.toks) hk,zix lt1 lt2 lt3,Z,λc hc=>?_,q⟩
    have hle:@LE.le Nat _ s1.heap.objs.size c:=(zkF.mp hc).1
    exact I1.fpOk hle (I1.hok.fresh hle)
theorem ziR {K:W.Frag} {a b c:Expr} {ta:TA} {p pos tp:Pos} {elts:List Expr} {x1:Nat} (hK:X.K=K) (hg:Gl X "zip") (hm:X.mg "zip"=none) (ha:PA X [a,b,c] ta) (hs:starEach [a,b,c] X.env=[(false,eval a X.env),(false,eval b X.env),(false,eval c X.env)]:=by rfl) (hs2:starEach [b,c] X.env=[(false,eval b X.env),(false,eval c X.env)]:=by rfl) :
  PI X (.Tuple elts x1 tp) (.Call (.Name "zip" p) [a,b,c] [] pos) (zl8 K ta):=by subst hK;exact zlP hg hm ha hs hs2
end
section
variable {Γ:Ctx} {m:Bool} {K:W.Frag} {γ δ ε:Type}
theorem zlM {ta tb tc:TE} {j1 j2 j3:Nat} {xs:List γ} {ys:List δ} {zs:List ε} (f1:γ->Ds) (f2:δ->Ds) (f3:ε->Ds) (h1:Ev Γ ta m (dQ K (xs.map f1))) (h2:Ev Γ tb m (dQ K (ys.map f2))) (h3:Ev Γ tc m (dQ K (zs.map f3))) :
  Iv Γ (zl8 K (tCons ta (tCons tb (tCons tc tNil)))) (zmC K 3 (zd9 (zcb j1) (zd9 (zcb j2) (zd9 (zcb j3) znI)))) [j1,j2,j3] (xs.zip (ys.zip zs)) (λx=>[f1 x.1,f2 x.2.1,f3 x.2.2]) m:=λF0 Hb F H σ own R a k =>
 h1 F0 Hb F H σ own _ a λu F1 H1 g1 ⟨p,vs,e1,e2,e3⟩=>h2 F0 Hb F1 H1 σ own _ (a.grow g1) λu' F2 H2 g2 ⟨q,ws,d1,d2,d3⟩=>h3 F0 Hb F2 H2 σ own _ ((a.grow g1).grow g2) λu'' F3 H3 g3 ⟨r,ts,c1,c2,c3⟩=>by
  have e2':SqL K F3 p vs:=g3.f.seq (g2.f.seq (part_sub.seq e2))
  have d2':SqL K F3 q ws:=g3.f.seq (part_sub.seq d2)
  have c2':SqL K F3 r ts:=part_sub.seq c2
  have e3':=pr_up (ds:=[]) (part_up (m:=m) (Hb:=Hb) g3.f) (pr_up (ds:=[]) (part_up (m:=m) (Hb:=Hb) g2.f) e3)
  have d3':=pr_up (ds:=[]) (part_up (m:=m) (Hb:=Hb) g3.f) d3
  have le:=Paired.length e3
  have ld:=Paired.length d3
  have lc:=Paired.length c3
  rw [List.length_map] at le ld lc
  refine ⟨p,q,r,by rw [e1,d1,c1],⟨vs,g3.fh.seq e2'⟩,⟨ws,g3.fh.seq d2'⟩,⟨ts,g3.fh.seq c2'⟩,k _ F3 H3 ((g1.trans g2).trans g3) λH hs=>⟨⟨vs,ws,ts,hs.seq e2',hs.seq d2',hs.seq c2',by rw [le,ld,lc,List.length_zip,List.length_zip];omega⟩,λi x ex=>?_⟩⟩
  obtain ⟨x1,x23⟩:=za6 ex
  obtain ⟨x2,x3⟩:=za6 x23
  obtain ⟨v,ev,qv⟩:=zaF e3' (show (xs.map f1)[i]?=some (f1 x.1) by rw [List.getElem?_map,x1];rfl)
  obtain ⟨w,ew,qw⟩:=zaF d3' (show (ys.map f2)[i]?=some (f2 x.2.1) by rw [List.getElem?_map,x2];rfl)
  obtain ⟨t,et,qt⟩:=zaF c3 (show (zs.map f3)[i]?=some (f3 x.2.2) by rw [List.getElem?_map,x3];rfl)
  refine ⟨⟨vs,ws,ts,v,w,t,hs.seq e2',hs.seq d2',hs.seq c2',ev,ew,et⟩,λz H' y=>?_⟩
  obtain ⟨o,x',y',z',rfl,hr,rfl,hxy⟩:=y
  obtain ⟨hx,hy,hz⟩:=hxy vs ws ts (hs.seq e2') (hs.seq d2') (hs.seq c2')
  rw [ev] at hx;rw [ew] at hy;rw [et] at hz
  cases hx;cases hy;cases hz
  exact ⟨(Grow.refl hs).newH hr,λσ Q k=>⟨o,_,rfl,.inl (.inl upd_same),rfl,_,_,rfl,_,_,rfl,_,_,rfl,rfl,k [v,w,t] (.cons qv (.cons qw (.cons qt .nil)))⟩⟩
end
def rEqT (K:W.Frag):R2:=λx y H Q=>∃ a b n xs ys,∃ e:Nat->Bool,x=.ref a∧y=.ref b∧SqT K H a xs∧SqT K H b ys∧xs.length=ys.length∧n≤50∧(∀ (j:Nat) (x y:V),xs[j]?=some x->ys[j]?=some y->EqV K H n x y (e j))∧Q (.bl ((List.range xs.length).all e)) H
theorem zmR {X:Cx} {K:W.Frag} (hK:X.K=K) (hu:X.A.units+64<cLine):OpR X (compareOp .Eq) (rEqT K):=by
 subst hK
 intro pins s σ H x y v u Q I rx ry h
 obtain ⟨a,b,n,xs,ys,e,rfl,rfl,ha,hb,hl,hn,he,q⟩:=h
 cases rx
 cases ry
 obtain ⟨ita,ra,pa,za⟩:=I.tuple ha
 obtain ⟨itb,rb,pb,zb⟩:=I.tuple hb
 have la:=ra.length
 have lb:=rb.length
 refine SeqAt.eq_tupleAt (e:=e) pa pb (by omega) (zfh I ra rb he (by omega)) ?_
 rw [List.size_toArray,List.size_toArray,show min ita.length itb.length=xs.length by omega,show (ita.length == itb.length)=true by simp;omega,Bool.and_true]
 exact ⟨.bl _,H,I,rfl,q⟩
theorem znx {α β:Type} [DecidableEq α] [DecidableEq β] {K:W.Frag} {f:α->Ds} {g:β->Ds} {n:Nat} (E1:EqD K f n) (E2:EqD K g n) {Γ:Ctx} {ta tb:TE} {m:Bool} {x y:α×β} (h1:Ev Γ ta false (dT [f x.1,g x.2])) (h2:Ev Γ tb false (dT [f y.1,g y.2])) (hn:n≤50:=by decide) :
  Ev Γ (tOp (rEqT K) ta tb) m (dB (decide (x=y))):=λF0 Hb F H σ own Q a k =>
 h1 F0 Hb F H σ own _ a λu F1 H1 g1 ⟨p,vs,e1,e2,e3⟩=>h2 F0 Hb F1 H1 σ own _ (a.grow g1) λu' F2 H2 g2 ⟨q,ws,d1,d2,d3⟩=>by
  have e2':=(g1.fh.trans g2.h) _ _ e2
  have d2':=g2.fh _ _ d2
  have e3':=pr_up (ds:=[]) (g1.fh.trans g2.h) e3
  have d3':=pr_up (ds:=[]) g2.fh d3
  cases e3' with | cons q1 t=>cases t with | cons q2 t =>
   cases t
   cases d3' with | cons r1 t=>cases t with | cons r2 t =>
    cases t
    refine ⟨p,q,n,_,_,λj=>if j=0 then decide (x.1=y.1) else decide (x.2=y.2),e1,d1,.inl (.inl e2'),.inl (.inl d2'),rfl,hn,λj v w hv hw=>?_,k _ F2 H2 (g1.trans g2) ?_⟩
    ·match j with
     | 0=>cases hv;cases hw;exact E1.eq _ _ _ _ _ q1 r1
     | 1=>cases hv;cases hw;exact E2.eq _ _ _ _ _ q2 r2
     | j+2=>cases hv
    ·have:(List.range 2).all (λj=>if j=0 then decide (x.1=y.1) else decide (x.2=y.2))=decide (x=y):=by
      have e:List.range 2=[0,1]:=rfl
      rw [e]
      simp [Prod.ext_iff]
     exact congrArg V.bl this
theorem zlZ {E:XS} {Γ:Ctx} {ta tb:TE} {u:TS} {o:Oc} {x y:Int} {i j:Nat} (h1:Ev Γ ta false (dI x)) (h2:Ev Γ tb false (dI y)) (k:Run E ((Γ.set i (.va false (dI x))).set j (.va false (dI y))) u o):Run E Γ (tSeq (zpp i j (tCons ta (tCons tb tNil))) u) o:=λF0 Hb F H σ own D a q =>
 h1 F0 Hb F H σ own _ a λv F1 H1 g1 q1=>h2 F0 Hb F1 H1 σ own _ (a.grow g1) λw F2 H2 g2 q2=>⟨v,w,rfl,k F0 Hb F2 H2 _ own D ((((a.grow g1).grow g2).set i q1).set j q2) q⟩
end L2
set_option maxHeartbeats 4000000
set_option maxRecDepth 100000
set_option maxHeartbeats 4000000
namespace My
open PySem L2
def top (i:Nat):Stmt:=PySem.Challenge.pw_swapbook_k62_met_books.main.body.getD i (.Pass ⟨0,0,0,0⟩)
abbrev zbb:Stmt:=top 8
abbrev zeM:Stmt:=top 9
abbrev zfn:Stmt:=top 10
abbrev zdL:Stmt:=top 11
abbrev za0:Stmt:=zmq (top 15) 0
abbrev zda:Stmt:=top 16
abbrev zdb:Stmt:=top 18
abbrev zdw:Stmt:=top 19
abbrev zc9:Stmt:=top 20
abbrev zc0:Stmt:=top 21
abbrev zdx:Stmt:=top 22
abbrev zcH:Stmt:=top 23
abbrev zc6:Stmt:=top 24
abbrev zc5:Stmt:=top 25
abbrev zdi:Stmt:=top 26
abbrev zdT:Stmt:=top 27
abbrev zaJ:Stmt:=top 29
abbrev zhd:Stmt:=top 30
abbrev zcJ:Stmt:=top 32
abbrev zc3:Stmt:=top 33
abbrev zce:Stmt:=top 34
abbrev za7:Stmt:=top 35
abbrev zbI:Stmt:=top 36
abbrev zaM:Stmt:=top 37
abbrev zcq:Stmt:=top 38
abbrev zb2:Stmt:=top 39
abbrev zbD:Stmt:=top 40
abbrev zb4:Stmt:=top 41
abbrev zbm:Stmt:=top 42
abbrev zcf:Stmt:=top 43
abbrev zb3:Stmt:=top 44
abbrev zcI:Stmt:=top 45
abbrev za3:Stmt:=top 46
abbrev zbh:Stmt:=top 47
abbrev zaV:Stmt:=top 48
abbrev zaQ:Stmt:=top 49
abbrev zfi:Stmt:=top 50
abbrev lI:List Int->Ds:=λxs=>dL (List.map dI xs)
structure Adr where
 no:Unit:=()
 Book:Addr
structure BookD where
 many:Int
 swaps:(List (List Int))
 deriving Inhabited
def zbQ (C:Addr) (b:BookD):Ds:=dO C [("many",dI b.many),("swaps",dL (List.map lI b.swaps))]
structure Txt (K:W.Frag) (mg:Str->Option Value) (A:Adr):Prop where
 any:mg "any"=none
 bool:mg "bool"=none
 enumerate:mg "enumerate"=none
 int:mg "int"=none
 isinstance:mg "isinstance"=none
 len:mg "len"=none
 list:mg "list"=none
 max:mg "max"=none
 min:mg "min"=none
 range:mg "range"=none
 reversed:mg "reversed"=none
 zip:mg "zip"=none
 Book:mg "Book"=some (.ref A.Book)
 Book_cl:Cls K A.Book
 Book_many:NoAttr K A.Book "many"
 Book_swaps:NoAttr K A.Book "swaps"
 g_MOST_WARES:∃ t,mg "MOST_WARES"=some (.int 8 t)
 g_MOST_SWAPS:∃ t,mg "MOST_SWAPS"=some (.int 12 t)
 kit_int_bool:W.kitOne K (.type "int") (.type "bool")=some false
 kit_int_int:W.kitOne K (.type "int") (.type "int")=some true
 kit_list_list:W.kitOne K (.type "list") (.type "list")=some true
section
variable {P:Program} {w:World} {K:W.Frag} {mg:Str->Option Value} {base:Heap} {f:Addr} {fd:FuncData} {A:Adr}
def m_refuse_unlike (P0:(List Int)) (P1:(List Int)):Unit:=()
def zba (P0:(List Int)) (P1:(List Int)):Prop:=P0.length=P1.length
def zbS (K:W.Frag) (A:Adr):Sp:=Spv (ι:=(List Int)×(List Int)) (λx=>[dQ K (List.map dI x.1),dQ K (List.map dI x.2)]) (λx=>zba x.1 x.2) (λx=>.va true (dN))
theorem zeG:FnScope ["one","other"] ["one","other"] (zae zbb):=⟨rfl,rfl,rfl,by decide +kernel,rfl,by decide +kernel,by decide +kernel⟩
theorem zeD (F:Fun K "refuse_unlike" "refuse_unlike" zbb f fd) (T:Txt K mg A) :FnOk P w K mg base (CXE P w) 1 f fd ["one","other"] (zbS K A):=by
 refine F.okV zeG (λ_=>rfl) (λcdv Ar outer s H E x hr hp=>?_)
 obtain ⟨P0,P1⟩:=x
 have hu:=hr.units
 replace hp:zba P0 P1:=hp
 unfold zba at hp
 refine ⟨_,(zab (zbd (pt_cmpR op_ne (pe_callB (call_len_K (K:=K) rfl) rfl T.len PySem.boot_len (pa_cons (pv 0) pa_nil)) (pe_callB (call_len_K (K:=K) rfl) rfl T.len PySem.boot_len (pa_cons (pv 1) pa_nil)) (nomark _))
 (zab zeb zad)
 zad)
 zad),.inr ⟨_,([.va false (dQ K (List.map dI P0)),.va false (dQ K (List.map dI P1))]:L2.Ctx),rfl,?_⟩⟩
 show L2.Run _ ([.va false (dQ K (List.map dI P0)),.va false (dQ K (List.map dI P1))]:L2.Ctx) _ _
 exact (zcs (EvT.conv (zan (zcO (x:=((P0.length:Nat):Int)) (y:=((P1.length:Nat):Int)) (zbK (f:=dI) (xs:=P0) (zaa (i:=0) rfl)) (zbK (f:=dI) (xs:=P1) (zaa (i:=1) rfl)))) (by ((try simp only [decide_eq_true_eq,decide_eq_false_iff_not,Bool.not_eq_true',Bool.not_eq_false',Bool.and_eq_true,Bool.or_eq_false_iff,Bool.or_eq_true,Bool.and_eq_false_iff,Bool.cond_eq_ite] at *)<;>omega))) (zaj
 (zak (Wk.refl _))))
def m_plus (P0:(List Int)) (P1:(List Int)):(List Int) :=
 (List.map (λ(x2:(Int×Int))=>(x2.1+x2.2)) (List.zip P0 P1))
def zec (P0:(List Int)) (P1:(List Int)):Prop:=P0.length=P1.length∧P0.length≤1000
def zg6 (K:W.Frag) (A:Adr):Sp:=Spv (ι:=(List Int)×(List Int)) (λx=>[dQ K (List.map dI x.1),dQ K (List.map dI x.2)]) (λx=>zec x.1 x.2) (λx=>.ow true (List.map dI (m_plus x.1 x.2)))
theorem zmm:FnScope ["one","other"] ["one","other"] (zae zeM):=⟨rfl,rfl,rfl,by decide +kernel,rfl,by decide +kernel,by decide +kernel⟩
theorem zlQ (F:Fun K "plus" "plus" zeM f fd) (T:Txt K mg A) (G_refuse_unlike:Callee P w K mg base (CXE P w) 1 "refuse_unlike" ["one","other"] (zbS K A)):FnOk P w K mg base (CXE P w) 2 f fd ["one","other"] (zg6 K A):=by
 refine F.okV zmm (λ_=>rfl) (λcdv Ar outer s H E x hr hp=>?_)
 obtain ⟨P0,P1⟩:=x
 have hu:=hr.units
 replace hp:zec P0 P1:=hp
 unfold zec at hp
 refine ⟨_,(zab (zcT (zaC G_refuse_unlike (hr.mono (by decide)) rfl zaA (pa_cons (pv 0) (pa_cons (pv 1) pa_nil))))
 (zab (zaw (zbC rfl (.of (osc:=(zae zeM)) (N:=["one","other"]) (own:=["a","b"]) (fvn:=[]) (fv:=[]) rfl rfl (by decide +kernel)) (zcm (K:=K) rfl rfl T.zip (pa_cons (pv 0) (pa_cons (pv 1) pa_nil))) (λ_ _ _ _ _=>⟨(zbg (K:=K) (n:=2) rfl rfl (zav (pg_name (i:=0) (show (["a","b"]:List Str).Nodup by decide +kernel) rfl (Or.inl rfl) (Or.inr rfl)) (zav (pg_name (i:=1) (show (["a","b"]:List Str).Nodup by decide +kernel) rfl (Or.inl rfl) (Or.inr rfl)) zb1))),zaZ,(zar zca (pv 0) (pv 1))⟩)))
 zad)),.inl ?_⟩
 show L2.Run _ ([.va false (dQ K (List.map dI P0)),.va false (dQ K (List.map dI P1))]:L2.Ctx) _ ((λr=>Oc.rl true (List.map dI r)) (m_plus P0 P1))
 unfold m_plus
 exact (zgb (m:=true) (Ev.any (m:=true) (zal (x:=(P0,P1)) (zac (zaa (i:=0) rfl) (zac (zaa (i:=1) rfl) zaf)) rfl (by show zba P0 P1;exact hp.1) rfl))
 (zc1 (zf0 (EvO.conv (zbJ (g:=(λ(x2:(Int×Int))=>dI (x2.1+x2.2))) (zdI (m:=false) dI dI (xs:=P0) (ys:=P1) (zaa (i:=0) rfl) (zaa (i:=1) rfl)) (by exact zat (by rw [List.length_zip];omega)) ⟨by decide,by decide⟩ (λi3 x2 hx4=>have qhx4:=za6 hx4;(zaD (x:=x2.1) (y:=x2.2) (Ev.any (m:=false) (zaa (i:=0) rfl)) (Ev.any (m:=false) (zaa (i:=1) rfl))))) (by first | (rw [List.map_map];rfl) | (simp only [cond_true,cond_false];rw [List.map_map];rfl))))))
def m_less (P0:(List Int)) (P1:(List Int)):(List Int) :=
 (List.map (λ(x5:(Int×Int))=>(x5.1-x5.2)) (List.zip P0 P1))
def zdm (P0:(List Int)) (P1:(List Int)):Prop:=P0.length=P1.length∧P0.length≤1000
def zga (K:W.Frag) (A:Adr):Sp:=Spv (ι:=(List Int)×(List Int)) (λx=>[dQ K (List.map dI x.1),dQ K (List.map dI x.2)]) (λx=>zdm x.1 x.2) (λx=>.ow true (List.map dI (m_less x.1 x.2)))
theorem zl5:FnScope ["one","other"] ["one","other"] (zae zfn):=⟨rfl,rfl,rfl,by decide +kernel,rfl,by decide +kernel,by decide +kernel⟩
theorem zmh (F:Fun K "less" "less" zfn f fd) (T:Txt K mg A) (G_refuse_unlike:Callee P w K mg base (CXE P w) 1 "refuse_unlike" ["one","other"] (zbS K A)):FnOk P w K mg base (CXE P w) 2 f fd ["one","other"] (zga K A):=by
 refine F.okV zl5 (λ_=>rfl) (λcdv Ar outer s H E x hr hp=>?_)
 obtain ⟨P0,P1⟩:=x
 have hu:=hr.units
 replace hp:zdm P0 P1:=hp
 unfold zdm at hp
 refine ⟨_,(zab (zcT (zaC G_refuse_unlike (hr.mono (by decide)) rfl zaA (pa_cons (pv 0) (pa_cons (pv 1) pa_nil))))
 (zab (zaw (zbC rfl (.of (osc:=(zae zfn)) (N:=["one","other"]) (own:=["a","b"]) (fvn:=[]) (fv:=[]) rfl rfl (by decide +kernel)) (zcm (K:=K) rfl rfl T.zip (pa_cons (pv 0) (pa_cons (pv 1) pa_nil))) (λ_ _ _ _ _=>⟨(zbg (K:=K) (n:=2) rfl rfl (zav (pg_name (i:=0) (show (["a","b"]:List Str).Nodup by decide +kernel) rfl (Or.inl rfl) (Or.inr rfl)) (zav (pg_name (i:=1) (show (["a","b"]:List Str).Nodup by decide +kernel) rfl (Or.inl rfl) (Or.inr rfl)) zb1))),zaZ,(zar zdJ (pv 0) (pv 1))⟩)))
 zad)),.inl ?_⟩
 show L2.Run _ ([.va false (dQ K (List.map dI P0)),.va false (dQ K (List.map dI P1))]:L2.Ctx) _ ((λr=>Oc.rl true (List.map dI r)) (m_less P0 P1))
 unfold m_less
 exact (zgb (m:=true) (Ev.any (m:=true) (zal (x:=(P0,P1)) (zac (zaa (i:=0) rfl) (zac (zaa (i:=1) rfl) zaf)) rfl (by show zba P0 P1;exact hp.1) rfl))
 (zc1 (zf0 (EvO.conv (zbJ (g:=(λ(x5:(Int×Int))=>dI (x5.1-x5.2))) (zdI (m:=false) dI dI (xs:=P0) (ys:=P1) (zaa (i:=0) rfl) (zaa (i:=1) rfl)) (by exact zat (by rw [List.length_zip];omega)) ⟨by decide,by decide⟩ (λi6 x5 hx7=>have qhx7:=za6 hx7;(zaD (x:=x5.1) (y:=x5.2) (Ev.any (m:=false) (zaa (i:=0) rfl)) (Ev.any (m:=false) (zaa (i:=1) rfl))))) (by first | (rw [List.map_map];rfl) | (simp only [cond_true,cond_false];rw [List.map_map];rfl))))))
def m_times (P0:(List Int)) (P1:Int):(List Int) :=
 (List.map (λ(x8:Int)=>(x8*P1)) P0)
def zbP (P0:(List Int)) (P1:Int):Prop:=P0.length≤1000∧∀ x∈P0,zcC x P1
def zd3 (K:W.Frag) (A:Adr):Sp:=Spv (ι:=(List Int)×Int) (λx=>[dQ K (List.map dI x.1),dI x.2]) (λx=>zbP x.1 x.2) (λx=>.ow true (List.map dI (m_times x.1 x.2)))
theorem zkk:FnScope ["some","many"] ["some","many"] (zae zdL):=⟨rfl,rfl,rfl,by decide +kernel,rfl,by decide +kernel,by decide +kernel⟩
theorem zkv (F:Fun K "times" "times" zdL f fd) (T:Txt K mg A) :FnOk P w K mg base (CXE P w) 1 f fd ["some","many"] (zd3 K A):=by
 refine F.okV zkk (λ_=>rfl) (λcdv Ar outer s H E x hr hp=>?_)
 obtain ⟨P0,P1⟩:=x
 have hu:=hr.units
 replace hp:zbP P0 P1:=hp
 unfold zbP at hp
 refine ⟨_,(zab (zaw (zbC rfl (.of (osc:=(zae zdL)) (N:=["some","many"]) (own:=["number"]) (fvn:=["many"]) (fv:=[1]) rfl rfl (by decide +kernel)) (zaB (K:=K) rfl (pv 0)) (λ_ _ _ _ _=>⟨(pg_name (i:=0) (show (["number","many"]:List Str).Nodup by decide +kernel) rfl (Or.inl rfl) (Or.inr rfl)),zaZ,(zar zaS (pv 0) (pv 1))⟩)))
 zad),.inl ?_⟩
 show L2.Run _ ([.va false (dQ K (List.map dI P0)),.va false (dI P1)]:L2.Ctx) _ ((λr=>Oc.rl true (List.map dI r)) (m_times P0 P1))
 unfold m_times
 exact (zc1 (zf0 (EvO.conv (zbJ (g:=(λ(x8:Int)=>dI (x8*P1))) (zaX (m:=false) dI (xs:=P0) (zaa (i:=0) rfl)) (by exact zat (by omega)) ⟨by decide,by decide⟩ (λi9 x8 hx10=>have v10:=List.mem_of_getElem? hx10;(zas (x:=x8) (y:=P1) (Ev.any (m:=false) (zaa (i:=0) rfl)) (Ev.any (m:=false) (zaa (i:=1) rfl)) (by exact hp.2 _ (List.mem_of_getElem? (by assumption)))))) (by first | (rw [List.map_map];rfl) | (simp only [cond_true,cond_false];rw [List.map_map];rfl)))))
theorem zkJ {α:Type} {xs:List α} {i:Nat} {p:Int×α} (h:(zfj xs)[i]?=some p):p.2∈xs:=List.mem_of_getElem? (zdt h).2.2
def m_head_of (P0:(List Int)):Int :=
 (LetR (loopR (λ(s11:Unit) (x12:(Int×Int))=>(((bif (!decide (x12.2=(0:Int))) then (Sum.inr x12.1)
 else (Sum.inl ()))):(Unit) ⊕ Int)) () (zfj P0)) (λ(r17:Unit) =>
 ((P0.length:Nat):Int)) (λb=>b))
def zaO (P0:(List Int)):Prop:=True
def zch (K:W.Frag) (A:Adr):Sp:=Spv (ι:=(List Int)) (λx=>[dQ K (List.map dI x)]) (λx=>zaO x) (λx=>.va true (dI (m_head_of x)))
theorem zeh:FnScope ["row","place","number"] ["row"] (zae zdb):=⟨rfl,rfl,rfl,by decide +kernel,rfl,by decide +kernel,by decide +kernel⟩
theorem zii (F:Fun K "head_of" "head_of" zdb f fd) (T:Txt K mg A) :FnOk P w K mg base (CXE P w) 1 f fd ["row"] (zch K A):=by
 refine F.okV zeh (λ_=>rfl) (λcdv Ar outer s H E P0 hr hp=>?_)
 have hu:=hr.units
 replace hp:zaO P0:=hp
 unfold zaO at hp
 refine ⟨_,(zab (zbo PassesOwn.never rfl (zhg rfl rfl T.enumerate (pa_cons (pv 0) pa_nil)) (zbg (K:=K) (n:=2) rfl rfl (zav (pg_name (i:=1) zeh.nd rfl (Or.inl rfl) (Or.inl rfl)) (zav (pg_name (i:=2) zeh.nd rfl (Or.inl rfl) (Or.inl rfl)) zb1)))
 (zab (zbd (pt_cmpR op_ne (pv 2) zag (nomark _))
 (zab (zaw (pv 1))
 zad)
 zad)
 zad))
 (zab (zaw (pe_callB (call_len_K (K:=K) rfl) rfl T.len PySem.boot_len (pa_cons (pv 0) pa_nil)))
 zad)),.inl ?_⟩
 show L2.Run _ ([.va false (dQ K (List.map dI P0)),.no,.no]:L2.Ctx) _ ((λ(r:Int)=>Oc.rt true (dI r)) (m_head_of P0))
 unfold m_head_of
 exact (zb7 (s0:=()) (λ(s11:Unit)=>([.va false (dQ K (List.map dI P0)),.no,.no]:L2.Ctx)) (λ(r:Int)=>Oc.rt true (dI r)) (λb=>b) (λ(s11:Unit) (x12:(Int×Int))=>(((bif (!decide (x12.2=(0:Int))) then (Sum.inr x12.1)
 else (Sum.inl ()))):(Unit) ⊕ Int)) (λ_ _=>True) (λb=>.inl ⟨_,_,rfl⟩) (zg7 (m:=false) dI (xs:=P0) (zaa (i:=0) rfl)) (.eq (.eq (.eq .nil))) trivial (λi13 x12 s11 hx14 hI15=>have v14:=zdt hx14;⟨(λ_ _=>trivial),
 (zax (b:=(!decide (x12.2=(0:Int)))) (zcw (λ(s11:Unit)=>([.va false (dQ K (List.map dI P0)),.no,.no]:L2.Ctx)) (λ(r:Int)=>Oc.rt true (dI r))) (zan (zcO (x:=x12.2) (y:=(0:Int)) (Ev.any (m:=false) (zaa (i:=2) rfl)) zaz)) (λh16=>(zai (zah (zap (Ev.any (m:=false) (zaa (i:=1) rfl)))))) (λh16 =>
 (zaj (zak (.eq (.no (.no .nil)))))))⟩) (λr17 hr17 hI =>
 (zah (zap (zbK (f:=dI) (xs:=P0) (zaa (i:=0) rfl))))))
theorem head_eq (r:List Int):m_head_of r=(Lat.hd r:Int):=Lat.zoi r
def m_common (P0:Int) (P1:Int):(T3 Int Int Int) :=
 (Let (whl (λ(s18:Int×Int×Int×Int)=>(!decide (s18.2.1=(0:Int)))) (λ(s18:Int×Int×Int×Int)=>(Let (s18.1/s18.2.1) (λ(v21:Int) =>
 (Let (s18.1-(v21*s18.2.1)) (λ(v22:Int) =>
 (Let s18.2.1 (λ(v23:Int) =>
 (Let (s18.2.2.1-(v21*s18.2.2.2)) (λ(v24:Int) =>
 (Let s18.2.2.2 (λ(v25:Int) =>
 (v23,v22,v25,v24)))))))))))) (P1.toNat) (P0,P1,(1:Int),(0:Int))) (λ(r26:Int×Int×Int×Int) =>
 (T3.mk r26.1 r26.2.2.1 ((r26.1-(r26.2.2.1*P0))/P1))))
def zdA (P0:Int) (P1:Int):Prop:=Lat.zhm P0 P1
def ze9 (K:W.Frag) (A:Adr):Sp:=Spv (ι:=Int×Int) (λx=>[dI x.1,dI x.2]) (λx=>zdA x.1 x.2) (λx=>.va true (dT [dI ((m_common x.1 x.2).a),dI ((m_common x.1 x.2).b),dI ((m_common x.1 x.2).c)]))
theorem zbj:FnScope ["one","other","great","small","taken","later","part","left"] ["one","other"] (zae zdw):=⟨rfl,rfl,rfl,by decide +kernel,rfl,by decide +kernel,by decide +kernel⟩
theorem zjT (F:Fun K "common" "common" zdw f fd) (T:Txt K mg A) :FnOk P w K mg base (CXE P w) 1 f fd ["one","other"] (ze9 K A):=by
 refine F.okV zbj (λ_=>rfl) (λcdv Ar outer s H E x hr hp=>?_)
 obtain ⟨P0,P1⟩:=x
 have hu:=hr.units
 replace hp:zdA P0 P1:=hp
 unfold zdA at hp
 refine ⟨_,(zab (zam (i:=2) zbj.nd rfl (Or.inl rfl) (pv 0))
 (zab (zam (i:=3) zbj.nd rfl (Or.inl rfl) (pv 1))
 (zab (zam (i:=4) zbj.nd rfl (Or.inl rfl) zag)
 (zab (zam (i:=5) zbj.nd rfl (Or.inl rfl) zag)
 (zab (zhX PassesOwn.never (pt_cmpR op_ne (pv 3) zag (nomark _))
 (zab (zam (i:=6) zbj.nd rfl (Or.inl rfl) (zar za9 (pv 2) (pv 3)))
 (zab (zam (i:=7) zbj.nd rfl (Or.inl rfl) (zar zdJ (pv 2) (zar zaS (pv 6) (pv 3))))
 (zab (zam (i:=2) zbj.nd rfl (Or.inl rfl) (pv 3))
 (zab (zam (i:=3) zbj.nd rfl (Or.inl rfl) (pv 7))
 (zab (zam (i:=7) zbj.nd rfl (Or.inl rfl) (zar zdJ (pv 4) (zar zaS (pv 6) (pv 5))))
 (zab (zam (i:=4) zbj.nd rfl (Or.inl rfl) (pv 5))
 (zab (zam (i:=5) zbj.nd rfl (Or.inl rfl) (pv 7))
 zad))))))))
 (zab (zaw (zgR (pa_cons (pv 2) (pa_cons (pv 4) (pa_cons (zar za9 (zar zdJ (pv 2) (zar zaS (pv 4) (pv 0))) (pv 1)) pa_nil)))))
 zad)))))),.inl ?_⟩
 show L2.Run _ ([.va false (dI P0),.va false (dI P1),.no,.no,.no,.no,.no,.no]:L2.Ctx) _ ((λ(r:(T3 Int Int Int))=>Oc.rt true (dT [dI r.a,dI r.b,dI r.c])) (m_common P0 P1))
 unfold m_common
 exact (zaK (m:=true) (Ev.any (m:=false) (zaa (i:=0) rfl))
 (zaK (m:=true) (Ev.any (m:=false) (zaa (i:=1) rfl))
 (zaK (m:=true) zaz
 (zaK (m:=true) zaz
 (zgk (s0:=(P0,P1,(1:Int),(0:Int))) (λ(s18:Int×Int×Int×Int)=>([.va false (dI P0),.va false (dI P1),.va true (dI s18.1),.va true (dI s18.2.1),.va true (dI s18.2.2.1),.va true (dI s18.2.2.2),.no,.no]:L2.Ctx)) (λ(r:(T3 Int Int Int))=>Oc.rt true (dT [dI r.a,dI r.b,dI r.c])) (λ(s18:Int×Int×Int×Int)=>(!decide (s18.2.1=(0:Int)))) (λ(s18:Int×Int×Int×Int)=>(Let (s18.1/s18.2.1) (λ(v21:Int) =>
 (Let (s18.1-(v21*s18.2.1)) (λ(v22:Int) =>
 (Let s18.2.1 (λ(v23:Int) =>
 (Let (s18.2.2.1-(v21*s18.2.2.2)) (λ(v24:Int) =>
 (Let s18.2.2.2 (λ(v25:Int) =>
 (v23,v22,v25,v24)))))))))))) (λ(s18:Int×Int×Int×Int)=>Lat.GI P0 P1 s18) (λ(s18:Int×Int×Int×Int)=>(s18.2.1).toNat) (P1.toNat) (.eq (.eq (.eq (.eq (.eq (.eq (.eq (.eq .nil)))))))) (by exact Lat.GI.start hp.1 hp.2.1) (by exact Nat.le_refl _) (λs18 hI19=>⟨(zan (zcO (x:=s18.2.1) (y:=(0:Int)) (Ev.any (m:=true) (zaa (i:=3) rfl)) zaz)),λhc20=>⟨(by exact Lat.GI.step (by assumption) (by assumption)),
 (zaq (m:=true) (x:=(s18.1/s18.2.1)) dI (λz=>Oc.nx ((λ(s18:Int×Int×Int×Int)=>([.va false (dI P0),.va false (dI P1),.va true (dI s18.1),.va true (dI s18.2.1),.va true (dI s18.2.2.1),.va true (dI s18.2.2.2),.no,.no]:L2.Ctx)) z)) (zas (x:=s18.1) (y:=s18.2.1) (Ev.any (m:=true) (zaa (i:=2) rfl)) (Ev.any (m:=true) (zaa (i:=3) rfl)) (by exact Lat.GI.div (by assumption) hp (by assumption))) (λv21 hv21 =>
 (zaq (m:=true) (x:=(s18.1-(v21*s18.2.1))) dI (λz=>Oc.nx ((λ(s18:Int×Int×Int×Int)=>([.va false (dI P0),.va false (dI P1),.va true (dI s18.1),.va true (dI s18.2.1),.va true (dI s18.2.2.1),.va true (dI s18.2.2.2),.no,.no]:L2.Ctx)) z)) (zaD (x:=s18.1) (y:=(v21*s18.2.1)) (Ev.any (m:=true) (zaa (i:=2) rfl)) (zas (x:=v21) (y:=s18.2.1) (Ev.any (m:=true) (zaa (i:=6) rfl)) (Ev.any (m:=true) (zaa (i:=3) rfl)) (by exact Lat.GI.mul1 (by assumption) hp (by assumption) (by assumption)))) (λv22 hv22 =>
 (zaq (m:=true) (x:=s18.2.1) dI (λz=>Oc.nx ((λ(s18:Int×Int×Int×Int)=>([.va false (dI P0),.va false (dI P1),.va true (dI s18.1),.va true (dI s18.2.1),.va true (dI s18.2.2.1),.va true (dI s18.2.2.2),.no,.no]:L2.Ctx)) z)) (Ev.any (m:=true) (zaa (i:=3) rfl)) (λv23 hv23 =>
 (zaK (m:=true) (Ev.any (m:=true) (zaa (i:=7) rfl))
 (zaq (m:=true) (x:=(s18.2.2.1-(v21*s18.2.2.2))) dI (λz=>Oc.nx ((λ(s18:Int×Int×Int×Int)=>([.va false (dI P0),.va false (dI P1),.va true (dI s18.1),.va true (dI s18.2.1),.va true (dI s18.2.2.1),.va true (dI s18.2.2.2),.no,.no]:L2.Ctx)) z)) (zaD (x:=s18.2.2.1) (y:=(v21*s18.2.2.2)) (Ev.any (m:=true) (zaa (i:=4) rfl)) (zas (x:=v21) (y:=s18.2.2.2) (Ev.any (m:=true) (zaa (i:=6) rfl)) (Ev.any (m:=true) (zaa (i:=5) rfl)) (by exact Lat.GI.mul2 (by assumption) hp (by assumption) (by assumption)))) (λv24 hv24 =>
 (zaq (m:=true) (x:=s18.2.2.2) dI (λz=>Oc.nx ((λ(s18:Int×Int×Int×Int)=>([.va false (dI P0),.va false (dI P1),.va true (dI s18.1),.va true (dI s18.2.1),.va true (dI s18.2.2.1),.va true (dI s18.2.2.2),.no,.no]:L2.Ctx)) z)) (Ev.any (m:=true) (zaa (i:=5) rfl)) (λv25 hv25 =>
 (zaK (m:=true) (Ev.any (m:=true) (zaa (i:=7) rfl))
 (zak (.eq (.eq (.eq (.eq (.eq (.eq (.no (.no .nil)))))))))))))))))))))⟩⟩) (λr26 hr26 hI hc =>
 (zah (zap (zgT (zac (Ev.any (m:=true) (zaa (i:=2) rfl)) (zac (Ev.any (m:=true) (zaa (i:=4) rfl)) (zac (zas (x:=(r26.1-(r26.2.2.1*P0))) (y:=P1) (zaD (x:=r26.1) (y:=(r26.2.2.1*P0)) (Ev.any (m:=true) (zaa (i:=2) rfl)) (zas (x:=r26.2.2.1) (y:=P0) (Ev.any (m:=true) (zaa (i:=4) rfl)) (Ev.any (m:=false) (zaa (i:=0) rfl)) (by exact Lat.GI.mul3 (by assumption) hp))) (Ev.any (m:=false) (zaa (i:=1) rfl)) (by exact Lat.zhm.div hp)) zaf))) (by show 3≤sizeLine;decide))))))))))
theorem ziM (a b:Int):m_common a b=Lat.cmn a b:=rfl
def m_upright (P0:(List Int)):(List Int) :=
 (bif (decide ((ixD P0 (m_head_of P0))<(0:Int))) then (m_times P0 (-(1:Int))) else P0)
def zbX (P0:(List Int)):Prop:=P0.length≤1000∧Lat.hd P0<P0.length
def zei (K:W.Frag) (A:Adr):Sp:=Spv (ι:=(List Int)) (λx=>[dL (List.map dI x)]) (λx=>zbX x) (λx=>.va false (dL (List.map dI (m_upright x))))
theorem zh2:FnScope ["row"] ["row"] (zae zc9):=⟨rfl,rfl,rfl,by decide +kernel,rfl,by decide +kernel,by decide +kernel⟩
theorem zh0 (F:Fun K "upright" "upright" zc9 f fd) (T:Txt K mg A) (G_head_of:Callee P w K mg base (CXE P w) 1 "head_of" ["row"] (zch K A)) (G_times:Callee P w K mg base (CXE P w) 1 "times" ["some","many"] (zd3 K A)):FnOk P w K mg base (CXE P w) 2 f fd ["row"] (zei K A):=by
 refine F.okV zh2 (λ_=>rfl) (λcdv Ar outer s H E P0 hr hp=>?_)
 have hu:=hr.units
 replace hp:zbX P0:=hp
 unfold zbX at hp
 refine ⟨_,(zab (zaw (zkp (pt_cmpR zg2 (zaR (zao (K:=K) rfl) (pv 0) (zaC G_head_of (hr.mono (by decide)) rfl zaA (pa_cons (pv 0) pa_nil)) (λ_ _=>rfl)) zag (nomark _)) (zaC G_times (hr.mono (by decide)) rfl zaA (pa_cons (pv 0) (pa_cons (znk zlg zag) pa_nil))) (pv 0)))
 zad),.inl ?_⟩
 show L2.Run _ ([.va false (dL (List.map dI P0))]:L2.Ctx) _ ((λ(r:(List Int))=>Oc.rt false (dL (List.map dI r))) (m_upright P0))
 unfold m_upright
 exact (zah (zap (zoR lI (b:=(decide ((ixD P0 (m_head_of P0))<(0:Int)))) (x:=(m_times P0 (-(1:Int)))) (y:=P0) (zan (zaD (x:=(ixD P0 (m_head_of P0))) (y:=(0:Int)) (Ev.any (m:=false) (zbB (f:=dI) (xs:=P0) (Ev.weak (K:=K) (zaa (i:=0) rfl)) (Ev.any (m:=true) (zal (x:=P0) (zac (Ev.weak (K:=K) (zaa (i:=0) rfl)) zaf) rfl (by show zaO P0;exact trivial) rfl)) (by have:=hp.2;rw [head_eq];unfold InB;omega))) zaz)) (λhb=>(EvO.ev (EvO.anyI (m:=true) (zbH (x:=(P0,(-(1:Int)))) (zac (Ev.weak (K:=K) (zaa (i:=0) rfl)) (zac (znD (x:=(1:Int)) zaz) zaf)) rfl (by show zbP P0 (-(1:Int));exact ⟨hp.1,λ_ _=>.inr (.inl ⟨by decide,by decide⟩)⟩) rfl)))) (λhb=>(zaa (i:=0) rfl)))))
theorem zfC (l:List Int):m_upright l=Lat.upr l:=by unfold m_upright;rw [head_eq,Lat.za1];rfl
theorem zhT (s x:List Int):Let (m_head_of x) (λ(h:Int)=>Let ((ixD s h)/(ixD x h)) (λ(q:Int)=>Let (bif (!decide (q=(0:Int))) then (m_less s (m_times x q)) else s) (λ(y:List Int)=>y)))=Lat.zfG s x:=by
 unfold Let
 dsimp only
 rw [head_eq,Lat.za1,Lat.za1];rfl
section
variable {n s a b i:Nat} {l t:List Int} {h q:Int} {steps:List (List Int)}
theorem znZ (T:Lat.Sd n s t) (e:h=(Lat.hd t:Int)) (hl:l.length=n∧Lat.Bit b l):InB l.length h:=Lat.zhA T e hl.1
theorem zhE (T:Lat.Sd n s t) (e:h=(Lat.hd t:Int)):InB t.length h:=Lat.zhA T e T.len
theorem zmJ (p1:n≤1000) (p6:a+steps.length*(s+1)+s≤50000000) (hx:steps[i]?=some t) (T:∀ t∈steps,Lat.Sd n s t) (hl:l.length=n∧Lat.Bit (a+i*(s+1)) l) (e:h=(Lat.hd t:Int)) (eq:q=ixD l h/ixD t h):zbP t q:=by
 have T1:=T t (List.mem_of_getElem? hx)
 exact ⟨by rw [T1.len];exact p1,Lat.zlI T1 e hl.2 eq (Lat.zka p6 (List.getElem?_eq_some_iff.mp hx).1)⟩
theorem zmj (p1:n≤1000) (T:Lat.Sd n s t) (hl:l.length=n∧Lat.Bit b l):zdm l (m_times t q):=⟨by rw [hl.1,show (m_times t q).length=t.length from Lat.zbc,T.len],by omega⟩
theorem zo1 {sh:T3 Int Int Int} (e:h=(Lat.hd t:Int)) (T:Lat.Sd n s t) (h0:0<Lat.vec l (Lat.hd t)) (h1:Lat.vec l (Lat.hd t)<Lat.vec t (Lat.hd t)) (hs:sh=m_common (ixD t h) (ixD l h)):0<sh.a∧sh.a.natAbs≤2^8981∧sh.b.natAbs≤2^8980∧sh.c.natAbs≤2^17962:=by
 subst hs
 exact Lat.zlv (Lat.zjR T e h0 h1)
theorem zms {x y:Int} (p1:n≤1000) (h1:t.length=n) (h2:l.length=n):zec (m_times t x) (m_times l y):=⟨by rw [show (m_times t x).length=t.length from Lat.zbc,show (m_times l y).length=l.length from Lat.zbc,h1,h2],by rw [show (m_times t x).length=t.length from Lat.zbc,h1];exact p1⟩
theorem zkS {x y:Int} (p1:n≤1000) (h1:t.length=n) (h2:l.length=n):zdm (m_times l x) (m_times t y):=⟨by rw [show (m_times t y).length=t.length from Lat.zbc,show (m_times l x).length=l.length from Lat.zbc,h1,h2],by rw [show (m_times l x).length=l.length from Lat.zbc,h2];exact p1⟩
theorem zn8 (e:h=(Lat.hd t:Int)) (T:Lat.Sd n s t):(ixD t h).natAbs≤2^8980:=by subst e;rw [Lat.za1];exact T.top
theorem zlL (e:h=(Lat.hd t:Int)) (T:Lat.Sd n s t) (h0:0<Lat.vec l (Lat.hd t)) (h1:Lat.vec l (Lat.hd t)<Lat.vec t (Lat.hd t)):(ixD l h).natAbs≤2^8980:=by subst e;rw [Lat.za1];have:=T.top;omega
end
def m_lowered (P0:(List Int)) (P1:(List (List Int))):(List Int) :=
 (Let (List.foldl (λ(s27:(List Int)) (x28:(List Int))=>(Let (m_head_of x28) (λ(hv32:Int) =>
 (Let ((ixD s27 hv32)/(ixD x28 hv32)) (λ(v33:Int) =>
 (Let (bif (!decide (v33=(0:Int))) then (m_less s27 (m_times x28 v33)) else s27) (λ(v35:(List Int)) =>
 v35))))))) P0 P1) (λ(r36:(List Int)) =>
 r36))
def zbW (P0:(List Int)) (P1:(List (List Int))):Prop:=Lat.LowP P0 P1
def zdz (K:W.Frag) (A:Adr):Sp:=Spv (ι:=(List Int)×(List (List Int))) (λx=>[dQ K (List.map dI x.1),dQ K (List.map lI x.2)]) (λx=>zbW x.1 x.2) (λx=>.va true (dL (List.map dI (m_lowered x.1 x.2))))
theorem zcK:FnScope ["row","steps","left","step","head","many"] ["row","steps"] (zae zc0):=⟨rfl,rfl,rfl,by decide +kernel,rfl,by decide +kernel,by decide +kernel⟩
theorem zh8 (F:Fun K "lowered" "lowered" zc0 f fd) (T:Txt K mg A) (G_head_of:Callee P w K mg base (CXE P w) 1 "head_of" ["row"] (zch K A)) (G_less:Callee P w K mg base (CXE P w) 2 "less" ["one","other"] (zga K A)) (G_times:Callee P w K mg base (CXE P w) 1 "times" ["some","many"] (zd3 K A)):FnOk P w K mg base (CXE P w) 3 f fd ["row","steps"] (zdz K A):=by
 refine F.okV zcK (λ_=>rfl) (λcdv Ar outer s H E x hr hp=>?_)
 obtain ⟨P0,P1⟩:=x
 have hu:=hr.units
 replace hp:zbW P0 P1:=hp
 unfold zbW at hp
 obtain ⟨N0,A0,S0,p1,p2,p3,p4,p5,p6⟩:=hp
 refine ⟨_,(zab (zam (i:=2) zcK.nd rfl (Or.inl rfl) (zcu (zck (K:=K) rfl) rfl T.list PyProof.Rows.boot_list (pa_cons (pv 0) pa_nil)))
 (zab (zbo PassesOwn.never rfl (zaB (K:=K) rfl (pv 1)) (pg_name (i:=3) zcK.nd rfl (Or.inl rfl) (Or.inl rfl))
 (zab (zam (i:=4) zcK.nd rfl (Or.inl rfl) (zaC G_head_of (hr.mono (by decide)) rfl zaA (pa_cons (pv 3) pa_nil)))
 (zab (zam (i:=5) zcK.nd rfl (Or.inl rfl) (zar za9 (zaR (zao (K:=K) rfl) (pv 2) (pv 4) (λ_ _=>rfl)) (zaR (zao (K:=K) rfl) (pv 3) (pv 4) (λ_ _=>rfl))))
 (zab (zbd (pt_cmpR op_ne (pv 5) zag (nomark _))
 (zab (zam (i:=2) zcK.nd rfl (Or.inl rfl) (zaC G_less (hr.mono (by decide)) rfl zaA (pa_cons (pv 2) (pa_cons (zaC G_times (hr.mono (by decide)) rfl zaA (pa_cons (pv 3) (pa_cons (pv 5) pa_nil))) pa_nil))))
 zad)
 zad)
 zad))))
 (zab (zaw (pv 2))
 zad))),.inl ?_⟩
 show L2.Run _ ([.va false (dQ K (List.map dI P0)),.va false (dQ K (List.map lI P1)),.no,.no,.no,.no]:L2.Ctx) _ ((λ(r:(List Int))=>Oc.rt true (dL (List.map dI r))) (m_lowered P0 P1))
 unfold m_lowered
 exact (zaK (m:=true) (EvO.ev (EvO.anyI (m:=false) (zer (zaa (i:=0) rfl))))
 (zbT (s0:=P0) (λ(s27:(List Int))=>([.va false (dQ K (List.map dI P0)),.va false (dQ K (List.map lI P1)),.va true (dL (List.map dI s27)),.no,.no,.no]:L2.Ctx)) (λ(r:(List Int))=>Oc.rt true (dL (List.map dI r))) (λ(s27:(List Int)) (x28:(List Int))=>(Let (m_head_of x28) (λ(hv32:Int) =>
 (Let ((ixD s27 hv32)/(ixD x28 hv32)) (λ(v33:Int) =>
 (Let (bif (!decide (v33=(0:Int))) then (m_less s27 (m_times x28 v33)) else s27) (λ(v35:(List Int)) =>
 v35))))))) (λ(i:Nat) (s27:(List Int))=>s27.length=N0∧Lat.Bit (A0+i*(S0+1)) s27) (zaX (m:=false) lI (xs:=P1) (zaa (i:=1) rfl)) (.eq (.eq (.eq (.eq (.eq (.eq .nil)))))) (by exact ⟨p2,by simpa using p4⟩) (λi29 x28 s27 hx30 hI31=>have v30:=List.mem_of_getElem? hx30;⟨(by exact Lat.zi2 (p5 _ (by assumption)) (by assumption) (zhT _ _)),
 (zaq (m:=true) (x:=(m_head_of x28)) dI (λz=>Oc.nx ((λ(s27:(List Int))=>([.va false (dQ K (List.map dI P0)),.va false (dQ K (List.map lI P1)),.va true (dL (List.map dI s27)),.no,.no,.no]:L2.Ctx)) z)) (Ev.any (m:=true) (zal (x:=x28) (zac (Ev.weak (K:=K) (zaa (i:=3) rfl)) zaf) rfl (by show zaO x28;exact trivial) rfl)) (λhv32 hhead32 =>
 have hH:=(hhead32).trans (head_eq _);(zaq (m:=true) (x:=((ixD s27 hv32)/(ixD x28 hv32))) dI (λz=>Oc.nx ((λ(s27:(List Int))=>([.va false (dQ K (List.map dI P0)),.va false (dQ K (List.map lI P1)),.va true (dL (List.map dI s27)),.no,.no,.no]:L2.Ctx)) z)) (zas (x:=(ixD s27 hv32)) (y:=(ixD x28 hv32)) (Ev.any (m:=true) (zbB (f:=dI) (xs:=s27) (Ev.weak (K:=K) (zaa (i:=2) rfl)) (Ev.any (m:=true) (zaa (i:=4) rfl)) (by exact znZ (p5 _ (by assumption)) hH (by assumption)))) (Ev.any (m:=false) (zbB (f:=dI) (xs:=x28) (Ev.weak (K:=K) (zaa (i:=3) rfl)) (Ev.any (m:=true) (zaa (i:=4) rfl)) (by exact zhE (p5 _ (by assumption)) hH))) (by exact Lat.zi7 (p5 _ (by assumption)) hH)) (λv33 hv33 =>
 (zbR (b:=(!decide (v33=(0:Int)))) (λbb=>([.va false (dQ K (List.map dI P0)),.va false (dQ K (List.map lI P1)),.va true (dL (List.map dI (bif bb then (m_less s27 (m_times x28 v33)) else s27))),.va false (dL (List.map dI x28)),.va true (dI hv32),.va true (dI v33)]:L2.Ctx)) (zan (zcO (x:=v33) (y:=(0:Int)) (Ev.any (m:=true) (zaa (i:=5) rfl)) zaz)) (λh34=>(zaK (m:=true) (EvO.ev (EvO.anyI (m:=true) (zbH (x:=(s27,(m_times x28 v33))) (zac (Ev.old (Ev.weak (K:=K) (zaa (i:=2) rfl))) (zac (Ev.weak (K:=K) (EvO.ev (EvO.anyI (m:=true) (zbH (x:=(x28,v33)) (zac (Ev.weak (K:=K) (zaa (i:=3) rfl)) (zac (Ev.any (m:=true) (zaa (i:=5) rfl)) zaf)) rfl (by show zbP x28 v33;exact zmJ p1 p6 (by assumption) p5 (by assumption) hH (by assumption)) rfl)))) zaf)) rfl (by show zdm s27 (m_times x28 v33);exact zmj p1 (p5 _ (by assumption)) (by assumption)) rfl)))
 (zak (.eq (.eq (.eq (.eq (.eq (.eq .nil))))))))) (λh34=>(zak (.eq (.eq (.eq (.eq (.eq (.eq .nil))))))))
 (zbv (x:=(bif (!decide (v33=(0:Int))) then (m_less s27 (m_times x28 v33)) else s27)) (λv35=>([.va false (dQ K (List.map dI P0)),.va false (dQ K (List.map lI P1)),.va true (dL (List.map dI v35)),.va false (dL (List.map dI x28)),.va true (dI hv32),.va true (dI v33)]:L2.Ctx)) (λz=>Oc.nx ((λ(s27:(List Int))=>([.va false (dQ K (List.map dI P0)),.va false (dQ K (List.map lI P1)),.va true (dL (List.map dI s27)),.no,.no,.no]:L2.Ctx)) z)) (λv35 hv35 =>
 (zak (.eq (.eq (.eq (.no (.no (.no .nil))))))))))))))⟩) (λr36 hr36 hI =>
 (zah (zap (zaa (i:=2) rfl))))))
theorem zdc (l:List Int) (ss:List (List Int)):m_lowered l ss=Lat.low l ss:=by
 unfold m_lowered
 show List.foldl _ l ss=List.foldl Lat.zfG l ss
 congr 1
 funext s x
 exact zhT s x
def m_merged (P0:(List Int)) (P1:(List Int)):((List Int)×(List Int)) :=
 (Let (m_head_of P0) (λ(hv37:Int) =>
 (Let (m_common (ixD P0 hv37) (ixD P1 hv37)) (λ(v38:(T3 Int Int Int)) =>
 (Let (m_plus (m_times P0 v38.b) (m_times P1 v38.c)) (λ(v39:(List Int)) =>
 (Let (m_less (m_times P1 ((ixD P0 hv37)/v38.a)) (m_times P0 ((ixD P1 hv37)/v38.a))) (λ(v40:(List Int)) =>
 (v39,v40)))))))))
def zdC (P0:(List Int)) (P1:(List Int)):Prop:=Lat.MrgP P0 P1
def ze0 (K:W.Frag) (A:Adr):Sp:=Spv (ι:=(List Int)×(List Int)) (λx=>[dQ K (List.map dI x.1),dQ K (List.map dI x.2)]) (λx=>zdC x.1 x.2) (λx=>.va true (dT [dL (List.map dI ((m_merged x.1 x.2).1)),dL (List.map dI ((m_merged x.1 x.2).2))]))
theorem zdq:FnScope ["step","row","head","shared","first","second"] ["step","row"] (zae zdx):=⟨rfl,rfl,rfl,by decide +kernel,rfl,by decide +kernel,by decide +kernel⟩
theorem zi1 (F:Fun K "merged" "merged" zdx f fd) (T:Txt K mg A) (G_common:Callee P w K mg base (CXE P w) 1 "common" ["one","other"] (ze9 K A)) (G_head_of:Callee P w K mg base (CXE P w) 1 "head_of" ["row"] (zch K A)) (G_less:Callee P w K mg base (CXE P w) 2 "less" ["one","other"] (zga K A)) (G_plus:Callee P w K mg base (CXE P w) 2 "plus" ["one","other"] (zg6 K A)) (G_times:Callee P w K mg base (CXE P w) 1 "times" ["some","many"] (zd3 K A)):FnOk P w K mg base (CXE P w) 3 f fd ["step","row"] (ze0 K A):=by
 refine F.okV zdq (λ_=>rfl) (λcdv Ar outer s H E x hr hp=>?_)
 obtain ⟨P0,P1⟩:=x
 have hu:=hr.units
 replace hp:zdC P0 P1:=hp
 unfold zdC at hp
 obtain ⟨N0,A0,S0,p1,p2,p3,p4,p5,p6,p7⟩:=hp
 refine ⟨_,(zab (zam (i:=2) zdq.nd rfl (Or.inl rfl) (zaC G_head_of (hr.mono (by decide)) rfl zaA (pa_cons (pv 0) pa_nil)))
 (zab (zam (i:=3) zdq.nd rfl (Or.inl rfl) (zaC G_common (hr.mono (by decide)) rfl zaA (pa_cons (zaR (zao (K:=K) rfl) (pv 0) (pv 2) (λ_ _=>rfl)) (pa_cons (zaR (zao (K:=K) rfl) (pv 1) (pv 2) (λ_ _=>rfl)) pa_nil))))
 (zab (zam (i:=4) zdq.nd rfl (Or.inl rfl) (zaC G_plus (hr.mono (by decide)) rfl zaA (pa_cons (zaC G_times (hr.mono (by decide)) rfl zaA (pa_cons (pv 0) (pa_cons (zaR (za8 (K:=K) rfl) (pv 3) zag (λ_ _=>rfl)) pa_nil))) (pa_cons (zaC G_times (hr.mono (by decide)) rfl zaA (pa_cons (pv 1) (pa_cons (zaR (za8 (K:=K) rfl) (pv 3) zag (λ_ _=>rfl)) pa_nil))) pa_nil))))
 (zab (zam (i:=5) zdq.nd rfl (Or.inl rfl) (zaC G_less (hr.mono (by decide)) rfl zaA (pa_cons (zaC G_times (hr.mono (by decide)) rfl zaA (pa_cons (pv 1) (pa_cons (zar za9 (zaR (zao (K:=K) rfl) (pv 0) (pv 2) (λ_ _=>rfl)) (zaR (za8 (K:=K) rfl) (pv 3) zag (λ_ _=>rfl))) pa_nil))) (pa_cons (zaC G_times (hr.mono (by decide)) rfl zaA (pa_cons (pv 0) (pa_cons (zar za9 (zaR (zao (K:=K) rfl) (pv 1) (pv 2) (λ_ _=>rfl)) (zaR (za8 (K:=K) rfl) (pv 3) zag (λ_ _=>rfl))) pa_nil))) pa_nil))))
 (zab (zaw (zgR (pa_cons (pv 4) (pa_cons (pv 5) pa_nil))))
 zad))))),.inl ?_⟩
 show L2.Run _ ([.va false (dQ K (List.map dI P0)),.va false (dQ K (List.map dI P1)),.no,.no,.no,.no]:L2.Ctx) _ ((λ(r:((List Int)×(List Int)))=>Oc.rt true (dT [dL (List.map dI r.1),dL (List.map dI r.2)])) (m_merged P0 P1))
 unfold m_merged
 exact (zaq (m:=true) (x:=(m_head_of P0)) dI (λ(r:((List Int)×(List Int)))=>Oc.rt true (dT [dL (List.map dI r.1),dL (List.map dI r.2)])) (Ev.any (m:=true) (zal (x:=P0) (zac (zaa (i:=0) rfl) zaf) rfl (by show zaO P0;exact trivial) rfl)) (λhv37 hhead37 =>
 have hH:=(hhead37).trans (head_eq _);(zaq (m:=true) (x:=(m_common (ixD P0 hv37) (ixD P1 hv37))) (λ(p:(T3 Int Int Int))=>dT [dI p.a,dI p.b,dI p.c]) (λ(r:((List Int)×(List Int)))=>Oc.rt true (dT [dL (List.map dI r.1),dL (List.map dI r.2)])) (zal (x:=((ixD P0 hv37),(ixD P1 hv37))) (zac (Ev.any (m:=false) (zbB (f:=dI) (xs:=P0) (zaa (i:=0) rfl) (Ev.any (m:=true) (zaa (i:=2) rfl)) (by exact zhE p2 hH))) (zac (Ev.any (m:=false) (zbB (f:=dI) (xs:=P1) (zaa (i:=1) rfl) (Ev.any (m:=true) (zaa (i:=2) rfl)) (by exact Lat.zhA p2 hH p3))) zaf)) rfl (by show zdA (ixD P0 hv37) (ixD P1 hv37);exact Lat.zjR p2 hH p5 p6) rfl) (λv38 hv38 =>
 have hC:=zo1 hH p2 p5 p6 hv38;(zaq (m:=true) (x:=(m_plus (m_times P0 v38.b) (m_times P1 v38.c))) lI (λ(r:((List Int)×(List Int)))=>Oc.rt true (dT [dL (List.map dI r.1),dL (List.map dI r.2)])) (EvO.ev (EvO.anyI (m:=true) (zbH (x:=((m_times P0 v38.b),(m_times P1 v38.c))) (zac (Ev.weak (K:=K) (EvO.ev (EvO.anyI (m:=true) (zbH (x:=(P0,v38.b)) (zac (zaa (i:=0) rfl) (zac (Ev.any (m:=true) (zcz (zaa (i:=3) rfl) zaz rfl)) zaf)) rfl (by show zbP P0 v38.b;exact ⟨by rw [p2.len];exact p1,Lat.zfT p2.bit hC.2.2.1 (by omega) (by decide)⟩) rfl)))) (zac (Ev.weak (K:=K) (EvO.ev (EvO.anyI (m:=true) (zbH (x:=(P1,v38.c)) (zac (zaa (i:=1) rfl) (zac (Ev.any (m:=true) (zcz (zaa (i:=3) rfl) zaz rfl)) zaf)) rfl (by show zbP P1 v38.c;exact ⟨by rw [p3];exact p1,Lat.zfT p4 hC.2.2.2 (by omega) (by decide)⟩) rfl)))) zaf)) rfl (by show zec (m_times P0 v38.b) (m_times P1 v38.c);exact zms p1 p2.len p3) rfl))) (λv39 hv39 =>
 (zaq (m:=true) (x:=(m_less (m_times P1 ((ixD P0 hv37)/v38.a)) (m_times P0 ((ixD P1 hv37)/v38.a)))) lI (λ(r:((List Int)×(List Int)))=>Oc.rt true (dT [dL (List.map dI r.1),dL (List.map dI r.2)])) (EvO.ev (EvO.anyI (m:=true) (zbH (x:=((m_times P1 ((ixD P0 hv37)/v38.a)),(m_times P0 ((ixD P1 hv37)/v38.a)))) (zac (Ev.weak (K:=K) (EvO.ev (EvO.anyI (m:=true) (zbH (x:=(P1,((ixD P0 hv37)/v38.a))) (zac (zaa (i:=1) rfl) (zac (zas (x:=(ixD P0 hv37)) (y:=v38.a) (Ev.any (m:=false) (zbB (f:=dI) (xs:=P0) (zaa (i:=0) rfl) (Ev.any (m:=true) (zaa (i:=2) rfl)) (by exact zhE p2 hH))) (Ev.any (m:=true) (zcz (zaa (i:=3) rfl) zaz rfl)) (by exact Lat.zdP.of hC.1 hC.2.1 (by decide))) zaf)) rfl (by show zbP P1 ((ixD P0 hv37)/v38.a);exact ⟨by rw [p3];exact p1,Lat.zfT p4 (Lat.zdS hC.1 (zn8 hH p2)) (by omega) (by decide)⟩) rfl)))) (zac (Ev.weak (K:=K) (EvO.ev (EvO.anyI (m:=true) (zbH (x:=(P0,((ixD P1 hv37)/v38.a))) (zac (zaa (i:=0) rfl) (zac (zas (x:=(ixD P1 hv37)) (y:=v38.a) (Ev.any (m:=false) (zbB (f:=dI) (xs:=P1) (zaa (i:=1) rfl) (Ev.any (m:=true) (zaa (i:=2) rfl)) (by exact Lat.zhA p2 hH p3))) (Ev.any (m:=true) (zcz (zaa (i:=3) rfl) zaz rfl)) (by exact Lat.zdP.of hC.1 hC.2.1 (by decide))) zaf)) rfl (by show zbP P0 ((ixD P1 hv37)/v38.a);exact ⟨by rw [p2.len];exact p1,Lat.zfT p2.bit (Lat.zdS hC.1 (zlL hH p2 p5 p6)) (by omega) (by decide)⟩) rfl)))) zaf)) rfl (by show zdm (m_times P1 ((ixD P0 hv37)/v38.a)) (m_times P0 ((ixD P1 hv37)/v38.a));exact zkS p1 p2.len p3) rfl))) (λv40 hv40 =>
 (zah (zap (zgT (zac (zaa (i:=4) rfl) (zac (zaa (i:=5) rfl) zaf)) (by show 2≤sizeLine;decide))))))))))))
theorem zfc (s l:List Int):m_merged s l=Lat.mrg s l:=by
 unfold m_merged Let
 dsimp only
 rw [head_eq,Lat.za1,Lat.za1,ziM];rfl
section
variable {n s a i:Nat} {l row:List Int} {steps:List (List Int)} {st:Lat.TS2} {x:Int×List Int}
theorem zmS (p1:n≤1000) (p2:Lat.Ech n 0 steps) (p3:∀ t∈steps,Lat.Sd n s t) (p4:row.length=n) (p5:Lat.Bit a row) (p6:steps.length≤100) (p7:a+(steps.length+2)*((steps.length+1)*(s+9000))+s≤40000000):Lat.LowP row steps:=by
 refine ⟨n,a,s,p1,p4,by omega,p5,p3,?_⟩
 have e2:steps.length*(s+1)≤(steps.length+1)*(s+9000):=Nat.mul_le_mul (by omega) (by omega)
 rw [Nat.add_mul steps.length 2] at p7
 omega
theorem zlk (p1:n≤1000) (I:Lat.TI steps n a s i st) (T:Lat.Sd n s x.2) (h:decide (m_head_of st.2<m_head_of x.2)=true):zbX st.2:=by
 rw [head_eq,head_eq] at h
 simp only [decide_eq_true_eq] at h
 have:=T.hd;have:=I.len
 exact ⟨by omega,by omega⟩
theorem zla (p1:n≤1000) (I:Lat.TI steps n a s i st) (h:decide (m_head_of st.2<((st.2.length:Nat):Int))=true):zbX st.2:=by
 rw [head_eq] at h
 simp only [decide_eq_true_eq] at h
 have:=I.len
 exact ⟨by omega,by omega⟩
theorem zmV (h:decide (m_head_of st.2=m_head_of x.2)=true):Lat.hd st.2=Lat.hd x.2:=by
 rw [head_eq,head_eq] at h
 simp only [decide_eq_true_eq] at h
 omega
theorem znf (I:Lat.TI steps n a s i st) (hx:i<steps.length∧x.1=(i:Int)∧steps[i]?=some x.2) (p6:steps.length≤100):st.1.length<PySem.sizeLine:=Nat.lt_of_le_of_lt (show _≤1000 by have:=I.g;omega) (by decide)
theorem zng (I:Lat.TI steps n a s (zfj steps).length st) (p6:steps.length≤100):st.1.length<PySem.sizeLine:=Nat.lt_of_le_of_lt (show _≤1000 by have:=I.g;rw [zgM] at this;omega) (by decide)
theorem zlC {y:List Int} (I:Lat.TI steps n a s i st) (hx:i<steps.length∧x.1=(i:Int)∧steps[i]?=some x.2) (p6:steps.length≤100):st.1.length+[y].length≤PySem.sizeLine:=by
 apply zat
 have:=I.g
 simp;omega
theorem zmx {lo hi:Option Int}:(cutD steps lo hi).length≤steps.length:=by
 unfold cutD;rw [List.length_take,List.length_drop];omega
theorem zlO {y:List Int} {lo hi:Option Int} (I:Lat.TI steps n a s i st) (hx:i<steps.length∧x.1=(i:Int)∧steps[i]?=some x.2) (p6:steps.length≤100):(st.1++[y]).length+(cutD steps lo hi).length≤PySem.sizeLine:=by
 apply zat
 have:=I.g
 have:=zmx (steps:=steps) (lo:=lo) (hi:=hi)
 simp;omega
end
def m_taken_in (P0:(List (List Int))) (P1:(List Int)):(List (List Int)) :=
 (Let (m_lowered P1 P0) (λ(v41:(List Int)) =>
 (LetR (loopR (λ(s51:(List (List Int))×(List Int)) (x52:(Int×(List Int)))=>(((bif (decide ((m_head_of s51.2)<(m_head_of x52.2))) then (Sum.inr ((s51.1++[(m_upright s51.2)])++(cutD P0 (some x52.1) none)))
 else (Let (bif (decide ((m_head_of s51.2)=(m_head_of x52.2))) then (s51.1++[(m_merged x52.2 s51.2).1]) else (s51.1++[x52.2])) (λ(v58:(List (List Int))) =>
 (Let (bif (decide ((m_head_of s51.2)=(m_head_of x52.2))) then (m_lowered ((m_merged x52.2 s51.2).2) (cutD P0 (some (x52.1+(1:Int))) none)) else s51.2) (λ(v59:(List Int)) =>
 (Sum.inl (v58,v59)))))))):((List (List Int))×(List Int)) ⊕ (List (List Int)))) ([],v41) (zfj P0)) (λ(r60:(List (List Int))×(List Int)) =>
 (Let (bif (decide ((m_head_of r60.2)<((r60.2.length:Nat):Int))) then (r60.1++[(m_upright r60.2)]) else r60.1) (λ(v62:(List (List Int))) =>
 v62))) (λb=>b))))
def zcR (P0:(List (List Int))) (P1:(List Int)):Prop:=Lat.TinP P0 P1
def zdO (K:W.Frag) (A:Adr):Sp:=Spv (ι:=(List (List Int))×(List Int)) (λx=>[dQ K (List.map lI x.1),dQ K (List.map dI x.2)]) (λx=>zcR x.1 x.2) (λx=>.va false (dL (List.map lI (m_taken_in x.1 x.2))))
theorem zbV:FnScope ["steps","row","loose","grown","place","step","pair"] ["steps","row"] (zae zcH):=⟨rfl,rfl,rfl,by decide +kernel,rfl,by decide +kernel,by decide +kernel⟩
theorem zhb (F:Fun K "taken_in" "taken_in" zcH f fd) (T:Txt K mg A) (G_head_of:Callee P w K mg base (CXE P w) 1 "head_of" ["row"] (zch K A)) (G_lowered:Callee P w K mg base (CXE P w) 3 "lowered" ["row","steps"] (zdz K A)) (G_merged:Callee P w K mg base (CXE P w) 3 "merged" ["step","row"] (ze0 K A)) (G_upright:Callee P w K mg base (CXE P w) 2 "upright" ["row"] (zei K A)):FnOk P w K mg base (CXE P w) 4 f fd ["steps","row"] (zdO K A):=by
 refine F.okV zbV (λ_=>rfl) (λcdv Ar outer s H E x hr hp=>?_)
 obtain ⟨P0,P1⟩:=x
 have hu:=hr.units
 replace hp:zcR P0 P1:=hp
 unfold zcR at hp
 obtain ⟨N0,A0,S0,p1,p2,p3,p4,p5,p6,p7⟩:=hp
 refine ⟨_,(zab (zam (i:=2) zbV.nd rfl (Or.inl rfl) (zaC G_lowered (hr.mono (by decide)) rfl zaA (pa_cons (pv 1) (pa_cons (pv 0) pa_nil))))
 (zab (zam (i:=3) zbV.nd rfl (Or.inl rfl) (zcP pa_nil))
 (zab (zbo PassesOwn.never rfl (zhg rfl rfl T.enumerate (pa_cons (pv 0) pa_nil)) (zbg (K:=K) (n:=2) rfl rfl (zav (pg_name (i:=4) zbV.nd rfl (Or.inl rfl) (Or.inl rfl)) (zav (pg_name (i:=5) zbV.nd rfl (Or.inl rfl) (Or.inl rfl)) zb1)))
 (zab (zbd (pt_cmpR zg2 (zaC G_head_of (hr.mono (by decide)) rfl zaA (pa_cons (pv 2) pa_nil)) (zaC G_head_of (hr.mono (by decide)) rfl zaA (pa_cons (pv 5) pa_nil)) (nomark _))
 (zab (zaw (zar zfg (zar zfg (pv 3) (zcP (pa_cons (zaC G_upright (hr.mono (by decide)) rfl zaA (pa_cons (pv 2) pa_nil)) pa_nil))) (zcn (zbO (K:=K) rfl) (pv 0) (zcc (pv 4)) zdQ)))
 zad)
 zad)
 (zab (zbd (pt_cmpR zd8 (zaC G_head_of (hr.mono (by decide)) rfl zaA (pa_cons (pv 2) pa_nil)) (zaC G_head_of (hr.mono (by decide)) rfl zaA (pa_cons (pv 5) pa_nil)) (nomark _))
 (zab (zam (i:=6) zbV.nd rfl (Or.inl rfl) (zaC G_merged (hr.mono (by decide)) rfl zaA (pa_cons (pv 5) (pa_cons (pv 2) pa_nil))))
 (zab (zcT (zbY (K:=K) rfl (pv 3) (pa_cons (zaR (za8 (K:=K) rfl) (pv 6) zag (λ_ _=>rfl)) pa_nil)))
 (zab (zam (i:=2) zbV.nd rfl (Or.inl rfl) (zaC G_lowered (hr.mono (by decide)) rfl zaA (pa_cons (zaR (za8 (K:=K) rfl) (pv 6) zag (λ_ _=>rfl)) (pa_cons (zcn (zbO (K:=K) rfl) (pv 0) (zcc (zar zca (pv 4) zag)) zdQ) pa_nil))))
 zad)))
 (zab (zcT (zbY (K:=K) rfl (pv 3) (pa_cons (pv 5) pa_nil)))
 zad))
 zad)))
 (zab (zbd (pt_cmpR zg2 (zaC G_head_of (hr.mono (by decide)) rfl zaA (pa_cons (pv 2) pa_nil)) (pe_callB (call_len_K (K:=K) rfl) rfl T.len PySem.boot_len (pa_cons (pv 2) pa_nil)) (nomark _))
 (zab (zcT (zbY (K:=K) rfl (pv 3) (pa_cons (zaC G_upright (hr.mono (by decide)) rfl zaA (pa_cons (pv 2) pa_nil)) pa_nil)))
 zad)
 zad)
 (zab (zaw (pv 3))
 zad))))),.inl ?_⟩
 show L2.Run _ ([.va false (dQ K (List.map lI P0)),.va false (dQ K (List.map dI P1)),.no,.no,.no,.no,.no]:L2.Ctx) _ ((λ(r:(List (List Int)))=>Oc.rt false (dL (List.map lI r))) (m_taken_in P0 P1))
 unfold m_taken_in
 exact (zaq (m:=true) (x:=(m_lowered P1 P0)) lI (λ(r:(List (List Int)))=>Oc.rt false (dL (List.map lI r))) (zal (x:=(P1,P0)) (zac (zaa (i:=1) rfl) (zac (zaa (i:=0) rfl) zaf)) rfl (by show zbW P1 P0;exact zmS p1 p2 p3 p4 p5 p6 p7) rfl) (λv41 hv41 =>
 have hL:=(hv41).trans (zdc _ _);(run_setO (m:=true) (ds:=List.map lI []) (zc2 (m:=true) zaf)
 (zb7 (s0:=([],v41)) (λ(s51:(List (List Int))×(List Int))=>([.va false (dQ K (List.map lI P0)),.va false (dQ K (List.map dI P1)),.va true (dL (List.map dI s51.2)),.ow false (List.map lI s51.1),.no,.no,.no]:L2.Ctx)) (λ(r:(List (List Int)))=>Oc.rt false (dL (List.map lI r))) (λb=>b) (λ(s51:(List (List Int))×(List Int)) (x52:(Int×(List Int)))=>(((bif (decide ((m_head_of s51.2)<(m_head_of x52.2))) then (Sum.inr ((s51.1++[(m_upright s51.2)])++(cutD P0 (some x52.1) none)))
 else (Let (bif (decide ((m_head_of s51.2)=(m_head_of x52.2))) then (s51.1++[(m_merged x52.2 s51.2).1]) else (s51.1++[x52.2])) (λ(v58:(List (List Int))) =>
 (Let (bif (decide ((m_head_of s51.2)=(m_head_of x52.2))) then (m_lowered ((m_merged x52.2 s51.2).2) (cutD P0 (some (x52.1+(1:Int))) none)) else s51.2) (λ(v59:(List Int)) =>
 (Sum.inl (v58,v59)))))))):((List (List Int))×(List Int)) ⊕ (List (List Int)))) (λ(i:Nat) (s51:(List (List Int))×(List Int))=>Lat.TI P0 N0 A0 S0 i s51) (λb=>.inl ⟨_,_,rfl⟩) (zg7 (m:=false) lI (xs:=P0) (zaa (i:=0) rfl)) (.eq (.eq (.eq (.oldL (.eq (.eq (.eq .nil))))))) (by rw [hL];exact Lat.TI.start p2 p3 p4 p5) (λi53 x52 s51 hx54 hI55=>have v54:=zdt hx54;⟨(by intro z hz;simp only [head_eq,zfC,zfc,zdc] at hz;exact Lat.TI.step (by assumption) p2 p3 (by assumption) hz),
 (zax (b:=(decide ((m_head_of s51.2)<(m_head_of x52.2)))) (zcw (λ(s51:(List (List Int))×(List Int))=>([.va false (dQ K (List.map lI P0)),.va false (dQ K (List.map dI P1)),.va true (dL (List.map dI s51.2)),.ow false (List.map lI s51.1),.no,.no,.no]:L2.Ctx)) (λ(r:(List (List Int)))=>Oc.rt false (dL (List.map lI r)))) (zan (zaD (x:=(m_head_of s51.2)) (y:=(m_head_of x52.2)) (Ev.any (m:=true) (zal (x:=s51.2) (zac (Ev.old (Ev.weak (K:=K) (zaa (i:=2) rfl))) zaf) rfl (by show zaO s51.2;exact trivial) rfl)) (Ev.any (m:=true) (zal (x:=x52.2) (zac (Ev.weak (K:=K) (zaa (i:=5) rfl)) zaf) rfl (by show zaO x52.2;exact trivial) rfl)))) (λh56=>(zai (zc7 (i:=3) rfl (zah (zap (EvO.ev (zdM (f:=lI) (xs:=(s51.1++[(m_upright s51.2)])) (ys:=(cutD P0 (some x52.1) none)) (EvO.ev (zdM (f:=lI) (xs:=s51.1) (ys:=[(m_upright s51.2)]) (zaa (i:=3) rfl) (EvO.ev (zdX (zac (zal (x:=s51.2) (zac (Ev.old (zaa (i:=2) rfl)) zaf) rfl (by show zbX s51.2;first | exact zlk p1 (by assumption) (p3 _ (Lat.TI.mem (by assumption)).1) (by assumption) | exact zla p1 (by assumption) (by assumption)) rfl) zaf) (by show 1≤sizeLine;decide))) (by exact zlC (by assumption) (by assumption) p6))) (EvO.ev (zcY (f:=lI) (xs:=P0) (zaa (i:=0) rfl) (zbE (Ev.any (m:=false) (zaa (i:=4) rfl))) zdh)) (by exact zlO (by assumption) (by assumption) p6)))))))) (λh56 =>
 (zaj (zbR (b:=(decide ((m_head_of s51.2)=(m_head_of x52.2)))) (λbb=>([.va false (dQ K (List.map lI P0)),.va false (dQ K (List.map dI P1)),.va true (dL (List.map dI (bif bb then (m_lowered ((m_merged x52.2 s51.2).2) (cutD P0 (some (x52.1+(1:Int))) none)) else s51.2))),.ow false (List.map lI (bif bb then (s51.1++[(m_merged x52.2 s51.2).1]) else (s51.1++[x52.2]))),.va false (dI x52.1),.va false (dL (List.map dI x52.2)),.no]:L2.Ctx)) (zan (zcN (x:=(m_head_of s51.2)) (y:=(m_head_of x52.2)) (Ev.any (m:=true) (zal (x:=s51.2) (zac (Ev.old (Ev.weak (K:=K) (zaa (i:=2) rfl))) zaf) rfl (by show zaO s51.2;exact trivial) rfl)) (Ev.any (m:=true) (zal (x:=x52.2) (zac (Ev.weak (K:=K) (zaa (i:=5) rfl)) zaf) rfl (by show zaO x52.2;exact trivial) rfl)))) (λh57=>(zaK (m:=true) (zal (x:=(x52.2,s51.2)) (zac (Ev.weak (K:=K) (zaa (i:=5) rfl)) (zac (Ev.old (Ev.weak (K:=K) (zaa (i:=2) rfl))) zaf)) rfl (by show zdC x52.2 s51.2;exact Lat.TI.mrg (by assumption) p1 p3 (by assumption) (zmV (by assumption)) p7) rfl)
 (zb0 (f:=lI) (xs:=s51.1) (x:=(m_merged x52.2 s51.2).1) rfl (Ev.old (zcz (zaa (i:=6) rfl) zaz rfl)) (by exact znf (by assumption) (by assumption) p6)
 (zaK (m:=true) (zal (x:=((m_merged x52.2 s51.2).2,(cutD P0 (some (x52.1+(1:Int))) none))) (zac (Ev.old (Ev.weak (K:=K) (zcz (zaa (i:=6) rfl) zaz rfl))) (zac (Ev.weak (K:=K) (EvO.ev (zcY (f:=lI) (xs:=P0) (zaa (i:=0) rfl) (zbE (zaD (x:=x52.1) (y:=(1:Int)) (Ev.any (m:=false) (zaa (i:=4) rfl)) zaz)) zdh))) zaf)) rfl (by show zbW ((m_merged x52.2 s51.2).2) (cutD P0 (some (x52.1+(1:Int))) none);unfold zbW;rw [zfc];exact Lat.TI.low (by assumption) p1 p6 p3 (by assumption) (zmV (by assumption)) p7) rfl)
 (zak (.eq (.eq (.eq (.eq (.eq (.eq (.no .nil)))))))))))) (λh57=>(zb0 (f:=lI) (xs:=s51.1) (x:=x52.2) rfl (zaa (i:=5) rfl) (by exact znf (by assumption) (by assumption) p6)
 (zak (.eq (.eq (.eq (.eq (.eq (.eq (.eq .nil))))))))))
 (zbv (x:=(bif (decide ((m_head_of s51.2)=(m_head_of x52.2))) then (s51.1++[(m_merged x52.2 s51.2).1]) else (s51.1++[x52.2]))) (λv58=>([.va false (dQ K (List.map lI P0)),.va false (dQ K (List.map dI P1)),.va true (dL (List.map dI (bif (decide ((m_head_of s51.2)=(m_head_of x52.2))) then (m_lowered ((m_merged x52.2 s51.2).2) (cutD P0 (some (x52.1+(1:Int))) none)) else s51.2))),.ow false (List.map lI v58),.va false (dI x52.1),.va false (dL (List.map dI x52.2)),.no]:L2.Ctx)) (zcw (λ(s51:(List (List Int))×(List Int))=>([.va false (dQ K (List.map lI P0)),.va false (dQ K (List.map dI P1)),.va true (dL (List.map dI s51.2)),.ow false (List.map lI s51.1),.no,.no,.no]:L2.Ctx)) (λ(r:(List (List Int)))=>Oc.rt false (dL (List.map lI r)))) (λv58 hv58 =>
 (zbv (x:=(bif (decide ((m_head_of s51.2)=(m_head_of x52.2))) then (m_lowered ((m_merged x52.2 s51.2).2) (cutD P0 (some (x52.1+(1:Int))) none)) else s51.2)) (λv59=>([.va false (dQ K (List.map lI P0)),.va false (dQ K (List.map dI P1)),.va true (dL (List.map dI v59)),.ow false (List.map lI v58),.va false (dI x52.1),.va false (dL (List.map dI x52.2)),.no]:L2.Ctx)) (zcw (λ(s51:(List (List Int))×(List Int))=>([.va false (dQ K (List.map lI P0)),.va false (dQ K (List.map dI P1)),.va true (dL (List.map dI s51.2)),.ow false (List.map lI s51.1),.no,.no,.no]:L2.Ctx)) (λ(r:(List (List Int)))=>Oc.rt false (dL (List.map lI r)))) (λv59 hv59 =>
 (zak (.eq (.eq (.eq (.eq (.no (.no (.eq .nil))))))))))))))))⟩) (λr60 hr60 hI =>
 (zbR (b:=(decide ((m_head_of r60.2)<((r60.2.length:Nat):Int)))) (λbb=>([.va false (dQ K (List.map lI P0)),.va false (dQ K (List.map dI P1)),.va true (dL (List.map dI r60.2)),.ow false (List.map lI (bif bb then (r60.1++[(m_upright r60.2)]) else r60.1)),.no,.no,.no]:L2.Ctx)) (zan (zaD (x:=(m_head_of r60.2)) (y:=((r60.2.length:Nat):Int)) (Ev.any (m:=true) (zal (x:=r60.2) (zac (Ev.old (Ev.weak (K:=K) (zaa (i:=2) rfl))) zaf) rfl (by show zaO r60.2;exact trivial) rfl)) (zbK (f:=dI) (xs:=r60.2) (Ev.old (Ev.weak (K:=K) (zaa (i:=2) rfl)))))) (λh61=>(zb0 (f:=lI) (xs:=r60.1) (x:=(m_upright r60.2)) rfl (zal (x:=r60.2) (zac (Ev.old (zaa (i:=2) rfl)) zaf) rfl (by show zbX r60.2;first | exact zlk p1 (by assumption) (p3 _ (Lat.TI.mem (by assumption)).1) (by assumption) | exact zla p1 (by assumption) (by assumption)) rfl) (by exact zng (by assumption) p6)
 (zak (.eq (.eq (.eq (.eq (.eq (.eq (.eq .nil)))))))))) (λh61=>(zak (.eq (.eq (.eq (.eq (.eq (.eq (.eq .nil)))))))))
 (zbv (x:=(bif (decide ((m_head_of r60.2)<((r60.2.length:Nat):Int))) then (r60.1++[(m_upright r60.2)]) else r60.1)) (λv62=>([.va false (dQ K (List.map lI P0)),.va false (dQ K (List.map dI P1)),.va true (dL (List.map dI r60.2)),.ow false (List.map lI v62),.no,.no,.no]:L2.Ctx)) (λ(r:(List (List Int)))=>Oc.rt false (dL (List.map lI r))) (λv62 hv62 =>
 (zc7 (i:=3) rfl (zah (zap (zaa (i:=3) rfl))))))))))))
theorem zf9 (ss:List (List Int)) (l:List Int):m_taken_in ss l=Lat.tin Lat.MG ss (Lat.low l ss):=by
 unfold m_taken_in
 simp only [head_eq,zfC,zfc,zdc]
 exact Lat.zpy ss _
theorem zlK (x:List Int) (fl:List (List Int)):Let ([(m_lowered x fl)]++fl) (λ(y:List (List Int))=>y)=[Lat.low x fl]++fl:=by unfold Let;rw [zdc]
theorem znX {steps fl:List (List Int)} {i:Nat} {x y:List Int} (h:Lat.znq steps) (hx:steps.reverse[i]?=some x) (e:fl=Lat.stl (steps.drop (steps.length-i))):[y].length+fl.length≤PySem.sizeLine:=by
 obtain ⟨j,h1,_⟩:=Lat.zgZ hx
 have:=Lat.znT h (by omega) e
 apply zat
 simp;omega
def m_settled (P0:(List (List Int))):(List (List Int)) :=
 (Let (List.foldl (λ(s63:(List (List Int))) (x64:(List Int))=>(Let ([(m_lowered x64 s63)]++s63) (λ(v68:(List (List Int))) =>
 v68))) [] (List.reverse P0)) (λ(r69:(List (List Int))) =>
 r69))
def zcM (P0:(List (List Int))):Prop:=Lat.znq P0
def zez (K:W.Frag) (A:Adr):Sp:=Spv (ι:=(List (List Int))) (λx=>[dQ K (List.map lI x)]) (λx=>zcM x) (λx=>.va true (dL (List.map lI (m_settled x))))
theorem zdD:FnScope ["steps","flat","step"] ["steps"] (zae zc6):=⟨rfl,rfl,rfl,by decide +kernel,rfl,by decide +kernel,by decide +kernel⟩
theorem zin (F:Fun K "settled" "settled" zc6 f fd) (T:Txt K mg A) (G_lowered:Callee P w K mg base (CXE P w) 3 "lowered" ["row","steps"] (zdz K A)):FnOk P w K mg base (CXE P w) 4 f fd ["steps"] (zez K A):=by
 refine F.okV zdD (λ_=>rfl) (λcdv Ar outer s H E P0 hr hp=>?_)
 have hu:=hr.units
 replace hp:zcM P0:=hp
 unfold zcM at hp
 refine ⟨_,(zab (zam (i:=1) zdD.nd rfl (Or.inl rfl) (zcP pa_nil))
 (zab (zbo PassesOwn.never rfl (znL rfl rfl T.reversed (pa_cons (pv 0) pa_nil)) (pg_name (i:=2) zdD.nd rfl (Or.inl rfl) (Or.inl rfl))
 (zab (zam (i:=1) zdD.nd rfl (Or.inl rfl) (zar zfg (zcP (pa_cons (zaC G_lowered (hr.mono (by decide)) rfl zaA (pa_cons (pv 2) (pa_cons (pv 1) pa_nil))) pa_nil)) (pv 1)))
 zad))
 (zab (zaw (pv 1))
 zad))),.inl ?_⟩
 show L2.Run _ ([.va false (dQ K (List.map lI P0)),.no,.no]:L2.Ctx) _ ((λ(r:(List (List Int)))=>Oc.rt true (dL (List.map lI r))) (m_settled P0))
 unfold m_settled
 exact (zaK (m:=true) (EvO.ev (zc2 (m:=true) zaf))
 (zbT (s0:=[]) (λ(s63:(List (List Int)))=>([.va false (dQ K (List.map lI P0)),.va true (dL (List.map lI s63)),.no]:L2.Ctx)) (λ(r:(List (List Int)))=>Oc.rt true (dL (List.map lI r))) (λ(s63:(List (List Int))) (x64:(List Int))=>(Let ([(m_lowered x64 s63)]++s63) (λ(v68:(List (List Int))) =>
 v68))) (λ(i:Nat) (s63:(List (List Int)))=>s63=Lat.stl (P0.drop (P0.length-i))) (zmF (m:=false) lI (xs:=P0) (zaa (i:=0) rfl)) (.eq (.eq (.eq .nil))) (by simp [Lat.stl]) (λi65 x64 s63 hx66 hI67=>have v66:=List.mem_of_getElem? hx66;⟨(by exact Lat.zlS (by assumption) (by assumption) (zlK _ _)),
 (zaq (m:=true) (x:=([(m_lowered x64 s63)]++s63)) (λ(xs:(List (List Int)))=>dL (List.map lI xs)) (λz=>Oc.nx ((λ(s63:(List (List Int)))=>([.va false (dQ K (List.map lI P0)),.va true (dL (List.map lI s63)),.no]:L2.Ctx)) z)) (EvO.ev (zdM (f:=lI) (xs:=[(m_lowered x64 s63)]) (ys:=s63) (EvO.ev (zdX (zac (zal (x:=(x64,s63)) (zac (Ev.weak (K:=K) (zaa (i:=2) rfl)) (zac (Ev.old (Ev.weak (K:=K) (zaa (i:=1) rfl))) zaf)) rfl (by show zbW x64 s63;exact Lat.zlD hp (by assumption) (by assumption)) rfl) zaf) (by show 1≤sizeLine;decide))) (zaa (i:=1) rfl) (by exact znX hp (by assumption) (by assumption)))) (λv68 hv68 =>
 (zak (.eq (.eq (.no .nil))))))⟩) (λr69 hr69 hI =>
 (zah (zap (zaa (i:=1) rfl))))))
theorem zfx (ss:List (List Int)):m_settled ss=Lat.stl ss:=by
 unfold m_settled
 simp only [zdc]
 exact Lat.zpf ss
theorem zmo {rows ss:List (List Int)} {r:List Int} {i:Nat} (hr:rows[i]?=some r) (e:ss=Lat.clm Lat.MG (rows.take i)):Let (m_settled (m_taken_in ss r)) (λ(y:List (List Int))=>y)=Lat.clm Lat.MG (rows.take (i+1)):=by
 unfold Let
 rw [zfx,zf9,Lat.zfX hr,e]
def m_climbed (P0:(List (List Int))):(List (List Int)) :=
 (Let (List.foldl (λ(s70:(List (List Int))) (x71:(List Int))=>(Let (m_settled (m_taken_in s70 x71)) (λ(v75:(List (List Int))) =>
 v75))) [] P0) (λ(r76:(List (List Int))) =>
 r76))
def zdf (P0:(List (List Int))):Prop:=Lat.zo9 P0
def zeu (K:W.Frag) (A:Adr):Sp:=Spv (ι:=(List (List Int))) (λx=>[dQ K (List.map lI x)]) (λx=>zdf x) (λx=>.va true (dL (List.map lI (m_climbed x))))
theorem zdF:FnScope ["rows","steps","row"] ["rows"] (zae zc5):=⟨rfl,rfl,rfl,by decide +kernel,rfl,by decide +kernel,by decide +kernel⟩
theorem zif (F:Fun K "climbed" "climbed" zc5 f fd) (T:Txt K mg A) (G_settled:Callee P w K mg base (CXE P w) 4 "settled" ["steps"] (zez K A)) (G_taken_in:Callee P w K mg base (CXE P w) 4 "taken_in" ["steps","row"] (zdO K A)):FnOk P w K mg base (CXE P w) 5 f fd ["rows"] (zeu K A):=by
 refine F.okV zdF (λ_=>rfl) (λcdv Ar outer s H E P0 hr hp=>?_)
 have hu:=hr.units
 replace hp:zdf P0:=hp
 unfold zdf at hp
 obtain ⟨N0,B0,R0,p1,p2,p3⟩:=hp
 refine ⟨_,(zab (zam (i:=1) zdF.nd rfl (Or.inl rfl) (zcP pa_nil))
 (zab (zbo PassesOwn.never rfl (zaB (K:=K) rfl (pv 0)) (pg_name (i:=2) zdF.nd rfl (Or.inl rfl) (Or.inl rfl))
 (zab (zam (i:=1) zdF.nd rfl (Or.inl rfl) (zaC G_settled (hr.mono (by decide)) rfl zaA (pa_cons (zaC G_taken_in (hr.mono (by decide)) rfl zaA (pa_cons (pv 1) (pa_cons (pv 2) pa_nil))) pa_nil)))
 zad))
 (zab (zaw (pv 1))
 zad))),.inl ?_⟩
 show L2.Run _ ([.va false (dQ K (List.map lI P0)),.no,.no]:L2.Ctx) _ ((λ(r:(List (List Int)))=>Oc.rt true (dL (List.map lI r))) (m_climbed P0))
 unfold m_climbed
 exact (zaK (m:=true) (EvO.ev (zc2 (m:=true) zaf))
 (zbT (s0:=[]) (λ(s70:(List (List Int)))=>([.va false (dQ K (List.map lI P0)),.va true (dL (List.map lI s70)),.no]:L2.Ctx)) (λ(r:(List (List Int)))=>Oc.rt true (dL (List.map lI r))) (λ(s70:(List (List Int))) (x71:(List Int))=>(Let (m_settled (m_taken_in s70 x71)) (λ(v75:(List (List Int))) =>
 v75))) (λ(i:Nat) (s70:(List (List Int)))=>s70=Lat.clm Lat.MG (P0.take i)) (zaX (m:=false) lI (xs:=P0) (zaa (i:=0) rfl)) (.eq (.eq (.eq .nil))) (by rfl) (λi72 x71 s70 hx73 hI74=>have v73:=List.mem_of_getElem? hx73;⟨(by exact zmo (by assumption) (by assumption)),
 (zaq (m:=true) (x:=(m_settled (m_taken_in s70 x71))) (λ(xs:(List (List Int)))=>dL (List.map lI xs)) (λz=>Oc.nx ((λ(s70:(List (List Int)))=>([.va false (dQ K (List.map lI P0)),.va true (dL (List.map lI s70)),.no]:L2.Ctx)) z)) (zal (x:=(m_taken_in s70 x71)) (zac (Ev.weak (K:=K) (zal (x:=(s70,x71)) (zac (Ev.old (Ev.weak (K:=K) (zaa (i:=1) rfl))) (zac (Ev.weak (K:=K) (zaa (i:=2) rfl)) zaf)) rfl (by show zcR s70 x71;exact (Lat.zjC p1 p2 p3 (by assumption) (by assumption)).2.1) rfl)) zaf) rfl (by show zcM (m_taken_in s70 x71);unfold zcM;rw [zf9];exact (Lat.zjC p1 p2 p3 (by assumption) (by assumption)).2.2) rfl) (λv75 hv75 =>
 (zak (.eq (.eq (.no .nil))))))⟩) (λr76 hr76 hI =>
 (zah (zap (zaa (i:=1) rfl))))))
theorem zfE (rows:List (List Int)):m_climbed rows=Lat.clm Lat.MG rows:=by
 unfold m_climbed Lat.clm
 simp only [zfx,zf9]
 rfl
def PdP (rows:List (List Int)) (m:Int):Prop:=(0≤m∧m≤8)∧(∀ r∈rows,r.length≤8)∧rows.length≤1000
theorem zpA {rows:List (List Int)} {m:Int} {r:List Int} (h:PdP rows m) (hr:r∈rows):r.length+(repZ m [(0:Int)]).length≤PySem.sizeLine:=by
 obtain ⟨k,rfl⟩:∃ k:Nat,m=(k:Int):=⟨m.toNat,by have:=h.1;omega⟩
 have:=h.1;have:=h.2.1 r hr
 rw [Lat.zfb];exact zat (by omega)
def m_padded (P0:(List (List Int))) (P1:Int):(List (List Int)) :=
 (List.map (λ(x77:(List Int))=>(x77++(repZ P1 [(0:Int)]))) P0)
def zdE (P0:(List (List Int))) (P1:Int):Prop:=PdP P0 P1
def ze3 (K:W.Frag) (A:Adr):Sp:=Spv (ι:=(List (List Int))×Int) (λx=>[dQ K (List.map lI x.1),dI x.2]) (λx=>zdE x.1 x.2) (λx=>.va true (dL (List.map lI (m_padded x.1 x.2))))
theorem zit:FnScope ["rows","many"] ["rows","many"] (zae zdi):=⟨rfl,rfl,rfl,by decide +kernel,rfl,by decide +kernel,by decide +kernel⟩
theorem ziw (F:Fun K "padded" "padded" zdi f fd) (T:Txt K mg A) :FnOk P w K mg base (CXE P w) 1 f fd ["rows","many"] (ze3 K A):=by
 refine F.okV zit (λ_=>rfl) (λcdv Ar outer s H E x hr hp=>?_)
 obtain ⟨P0,P1⟩:=x
 have hu:=hr.units
 replace hp:zdE P0 P1:=hp
 unfold zdE at hp
 refine ⟨_,(zab (zaw (zbC rfl (.of (osc:=(zae zdi)) (N:=["rows","many"]) (own:=["row"]) (fvn:=["many"]) (fv:=[1]) rfl rfl (by decide +kernel)) (zaB (K:=K) rfl (pv 0)) (λ_ _ _ _ _=>⟨(pg_name (i:=0) (show (["row","many"]:List Str).Nodup by decide +kernel) rfl (Or.inl rfl) (Or.inr rfl)),zaZ,(zar zfg (pv 0) (zar zk2 (zcP (pa_cons zag pa_nil)) (pv 1)))⟩)))
 zad),.inl ?_⟩
 show L2.Run _ ([.va false (dQ K (List.map lI P0)),.va false (dI P1)]:L2.Ctx) _ ((λ(r:(List (List Int)))=>Oc.rt true (dL (List.map lI r))) (m_padded P0 P1))
 unfold m_padded
 exact (zah (zap (EvO.ev (EvO.conv (zbJ (g:=(λ(x77:(List Int))=>dL (List.map dI (x77++(repZ P1 [(0:Int)]))))) (zaX (m:=false) lI (xs:=P0) (zaa (i:=0) rfl)) (by exact zat (by have z:=hp.2.2;omega)) ⟨by decide,by decide⟩ (λi78 x77 hx79=>have v79:=List.mem_of_getElem? hx79;(EvO.ev (EvO.anyI (m:=false) (zdM (f:=dI) (xs:=x77) (ys:=(repZ P1 [(0:Int)])) (zaa (i:=0) rfl) (EvO.ev (zjz (f:=dI) (xs:=[(0:Int)]) (n:=P1) (EvO.ev (zdX (zac zaz zaf) (by show 1≤sizeLine;decide))) (Ev.any (m:=false) (zaa (i:=1) rfl)) (by have z:=hp.1;constructor<;>omega) (by have z:=hp.1;exact zat (by rw [List.length_singleton];omega)))) (by exact zpA hp (by assumption))))))) (by first | (rw [List.map_map];rfl) | (simp only [cond_true,cond_false];rw [List.map_map];rfl))))))
def m_tails (P0:(List (List Int))) (P1:Int):(List (List Int)) :=
 (List.map (λ(x80:(List Int))=>(cutD x80 (some P1) none)) (List.filter (λ(x80:(List Int))=>(decide (P1≤(m_head_of x80)))) P0))
def zd7 (P0:(List (List Int))) (P1:Int):Prop:=P0.length≤1000
def zgc (K:W.Frag) (A:Adr):Sp:=Spv (ι:=(List (List Int))×Int) (λx=>[dQ K (List.map lI x.1),dI x.2]) (λx=>zd7 x.1 x.2) (λx=>.va true (dL (List.map lI (m_tails x.1 x.2))))
theorem zkB:FnScope ["steps","many"] ["steps","many"] (zae zdT):=⟨rfl,rfl,rfl,by decide +kernel,rfl,by decide +kernel,by decide +kernel⟩
theorem zku (F:Fun K "tails" "tails" zdT f fd) (T:Txt K mg A) (G_head_of:Callee P w K mg base (CXE P w) 1 "head_of" ["row"] (zch K A)):FnOk P w K mg base (CXE P w) 2 f fd ["steps","many"] (zgc K A):=by
 refine F.okV zkB (λ_=>rfl) (λcdv Ar outer s H E x hr hp=>?_)
 obtain ⟨P0,P1⟩:=x
 have hu:=hr.units
 replace hp:zd7 P0 P1:=hp
 unfold zd7 at hp
 refine ⟨_,(zab (zaw (zbC rfl (.of (osc:=(zae zdT)) (N:=["steps","many"]) (own:=["step"]) (fvn:=["many"]) (fv:=[1]) rfl rfl (by decide +kernel)) (zaB (K:=K) rfl (pv 0)) (λ_ _ _ _ _=>⟨(pg_name (i:=0) (show (["step","many"]:List Str).Nodup by decide +kernel) rfl (Or.inl rfl) (Or.inr rfl)),(zlz (pt_cmpR znJ (zaC G_head_of (hr.mono (by decide)) rfl zaA (pa_cons (pv 0) pa_nil)) (pv 1) (nomark _))),(zcn (zbO (K:=K) rfl) (pv 0) (zcc (pv 1)) zdQ)⟩)))
 zad),.inl ?_⟩
 show L2.Run _ ([.va false (dQ K (List.map lI P0)),.va false (dI P1)]:L2.Ctx) _ ((λ(r:(List (List Int)))=>Oc.rt true (dL (List.map lI r))) (m_tails P0 P1))
 unfold m_tails
 exact (zah (zap (EvO.ev (EvO.conv (ziZ (c:=λ(x80:(List Int))=>(decide (P1≤(m_head_of x80)))) (g:=(λ(x80:(List Int))=>dL (List.map dI (cutD x80 (some P1) none)))) (zaX (m:=false) lI (xs:=P0) (zaa (i:=0) rfl)) (by exact zat (by omega)) ⟨by decide,by decide⟩ (λi81 x80 hx82=>have v82:=List.mem_of_getElem? hx82;(zan (zaD (x:=(m_head_of x80)) (y:=P1) (Ev.any (m:=true) (zal (x:=x80) (zac (Ev.weak (K:=K) (zaa (i:=0) rfl)) zaf) rfl (by show zaO x80;exact trivial) rfl)) (Ev.any (m:=false) (zaa (i:=1) rfl))))) (λi81 x80 hx82 hc=>have v82:=List.mem_of_getElem? hx82;(EvO.ev (EvO.anyI (m:=false) (zcY (f:=dI) (xs:=x80) (Ev.weak (K:=K) (zaa (i:=0) rfl)) (zbE (Ev.any (m:=false) (zaa (i:=1) rfl))) zdh))))) (by first | (rw [List.map_map];rfl) | (simp only [cond_true,cond_false];rw [List.map_map];rfl))))))
theorem zkt {ss:List (List Int)} {n:Nat}:m_tails ss (n:Int)=Lat.tailS n ss:=by
 unfold m_tails Lat.tailS
 simp only [head_eq,Lat.zd0]
 have e:(λ(x:List Int)=>decide ((n:Int)≤(Lat.hd x:Int)))=λ(x:List Int)=>decide (n≤Lat.hd x):=funext λx=>by simp
 rw [e]
def zfL (P0:Int) (P1:(List (List Int))):BookD:=⟨P0,(List.map (λ(x83:(List Int))=>x83) P1)⟩
def zaU (P0:Int) (P1:(List (List Int))):Prop:=P1.length≤1000
def zcx (K:W.Frag) (A:Adr):Sp:=zoM (ι:=Int×(List (List Int))) A.Book (λx=>[dI x.1,dQ K (List.map lI x.2)]) (λx=>zaU x.1 x.2) true (λx=>[("many",dI ((zfL x.1 x.2).many)),("swaps",dL (List.map lI ((zfL x.1 x.2).swaps)))])
theorem zeC:FnScope ["self","many","swaps"] ["self","many","swaps"] (zae za0):=⟨rfl,rfl,rfl,by decide +kernel,rfl,by decide +kernel,by decide +kernel⟩
theorem zeB (F:Fun K "__init__" "Book.__init__" za0 f fd) (T:Txt K mg A) :FnOk P w K mg base (CXE P w) 1 f fd ["self","many","swaps"] (zcx K A):=by
 refine F.okI zeC (λ_=>rfl) (λcdv Ar outer s H E x hr hp=>?_)
 obtain ⟨P0,P1⟩:=x
 have hu:=hr.units
 replace hp:zaU P0 P1:=hp
 unfold zaU at hp
 refine ⟨_,(zab (zk9 (pv 0) (pv 1) rfl)
 (zab (zk9 (pv 0) (zbC rfl (.of (osc:=(zae za0)) (N:=["self","many","swaps"]) (own:=["swap"]) (fvn:=[]) (fv:=[]) rfl rfl (by decide +kernel)) (zaB (K:=K) rfl (pv 2)) (λ_ _ _ _ _=>⟨(pg_name (i:=0) (show (["swap"]:List Str).Nodup by decide +kernel) rfl (Or.inl rfl) (Or.inr rfl)),zaZ,(zcu (zck (K:=K) rfl) rfl T.list PyProof.Rows.boot_list (pa_cons (pv 0) pa_nil))⟩)) rfl)
 zad)),λp dx=>⟨([.ob true A.Book p dx [("many",dI P0),("swaps",dL (List.map lI (List.map (λ(x83:(List Int))=>x83) P1)))],.va false (dI P0),.va false (dQ K (List.map lI P1))]:L2.Ctx),?_,rfl⟩⟩
 show L2.Run _ ([.ob true A.Book p dx [],.va false (dI P0),.va false (dQ K (List.map lI P1))]:L2.Ctx) _ _
 exact (zhu (i:=0) rfl (Ev.any (m:=false) (zaa (i:=1) rfl)) T.Book_cl T.Book_many [] rfl (by decide +kernel) (by decide)
 (zhu (i:=0) rfl (EvO.ev (EvO.conv (zbJ (g:=(λ(x83:(List Int))=>dL (List.map dI x83))) (zaX (m:=false) lI (xs:=P1) (zaa (i:=2) rfl)) (by exact zat (by omega)) ⟨by decide,by decide⟩ (λi84 x83 hx85=>have v85:=List.mem_of_getElem? hx85;(EvO.ev (EvO.anyI (m:=false) (zer (Ev.weak (K:=K) (zaa (i:=0) rfl))))))) (by first | (rw [List.map_map];rfl) | (simp only [cond_true,cond_false];rw [List.map_map];rfl)))) T.Book_cl T.Book_swaps ["many"] rfl (by decide +kernel) (by decide)
 (zak (Wk.refl _))))
def m_book_of (P0:Int) (P1:(List (List Int))):BookD :=
 (Let (List.foldl (λ(s88:Unit) (x89:(Int×(List Int)))=>()) () (zfj P1)) (λ(r94:Unit) =>
 (zfL P0 P1)))
def zbx (P0:Int) (P1:(List (List Int))):Prop:=1≤P0∧P0≤8∧P1.length≤12∧∀ s∈P1,(s.length:Int)=P0
def zev (K:W.Frag) (A:Adr):Sp:=Spv (ι:=Int×(List (List Int))) (λx=>[dI x.1,dQ K (List.map lI x.2)]) (λx=>zbx x.1 x.2) (λx=>.va true (zbQ A.Book (m_book_of x.1 x.2)))
theorem zel:FnScope ["many","swaps","place","swap"] ["many","swaps"] (zae zda):=⟨rfl,rfl,rfl,by decide +kernel,rfl,by decide +kernel,by decide +kernel⟩
theorem zh1 (F:Fun K "book_of" "book_of" zda f fd) (T:Txt K mg A)  {f_Book:Addr} {fd_Book:FuncData} (M_Book:Mk K A.Book f_Book) (G_Book___init__:FnOk P w K mg base (CXE P w) 1 f_Book fd_Book ["self","many","swaps"] (zcx K A)) (b_Book___init__:ze2 K fd_Book ["self","many","swaps"] []):FnOk P w K mg base (CXE P w) 3 f fd ["many","swaps"] (zev K A):=by
 refine F.okV zel (λ_=>rfl) (λcdv Ar outer s H E x hr hp=>?_)
 obtain ⟨P0,P1⟩:=x
 have hu:=hr.units
 replace hp:zbx P0 P1:=hp
 unfold zbx at hp
 obtain ⟨t_MOST_SWAPS,c_MOST_SWAPS⟩:=T.g_MOST_SWAPS
 obtain ⟨t_MOST_WARES,c_MOST_WARES⟩:=T.g_MOST_WARES
 refine ⟨_,(zab (zbd (PW.pt (zf6 (pt_cmpR zg2 (pv 0) zag (nomark _)) (pw_or1 (pt_cmpR zgn (pv 0) (zjK (v:=.int 8) rfl c_MOST_WARES ⟨_,rfl⟩) (nomark _)))))
 (zab zeb zad)
 zad)
 (zab (zbd (pt_cmpR zgn (pe_callB (call_len_K (K:=K) rfl) rfl T.len PySem.boot_len (pa_cons (pv 1) pa_nil)) (zjK (v:=.int 12) rfl c_MOST_SWAPS ⟨_,rfl⟩) (nomark _))
 (zab zeb zad)
 zad)
 (zab (zbo PassesOwn.never rfl (zhg rfl rfl T.enumerate (pa_cons (pv 1) pa_nil)) (zbg (K:=K) (n:=2) rfl rfl (zav (pg_name (i:=2) zel.nd rfl (Or.inl rfl) (Or.inl rfl)) (zav (pg_name (i:=3) zel.nd rfl (Or.inl rfl) (Or.inl rfl)) zb1)))
 (zab (zbd (pt_cmpR op_ne (pe_callB (call_len_K (K:=K) rfl) rfl T.len PySem.boot_len (pa_cons (pv 3) pa_nil)) (pv 0) (nomark _))
 (zab zeb zad)
 zad)
 zad))
 (zab (zaw (zji M_Book G_Book___init__ (hr.mono (by decide)) rfl T.Book b_Book___init__ .nil zaA (pa_cons (pv 0) (pa_cons (pv 1) pa_nil))))
 zad)))),.inl ?_⟩
 show L2.Run _ ([.va false (dI P0),.va false (dQ K (List.map lI P1)),.no,.no]:L2.Ctx) _ ((λ(r:BookD)=>Oc.rt true (zbQ A.Book r)) (m_book_of P0 P1))
 unfold m_book_of
 exact (zcs (EvT.conv (zd1 (b:=(decide (P0<(1:Int)))) (zan (zaD (x:=P0) (y:=(1:Int)) (Ev.any (m:=false) (zaa (i:=0) rfl)) zaz)) (λhb=>(zan (zaD (x:=P0) (y:=8) (Ev.any (m:=false) (zaa (i:=0) rfl)) zaz)))) (by simp only [Bool.or_eq_false_iff,decide_eq_false_iff_not];omega)) (zaj
 (zcs (EvT.conv (zan (zaD (x:=((P1.length:Nat):Int)) (y:=12) (zbK (f:=lI) (xs:=P1) (zaa (i:=1) rfl)) zaz)) (by ((try simp only [decide_eq_true_eq,decide_eq_false_iff_not,Bool.not_eq_true',Bool.not_eq_false',Bool.and_eq_true,Bool.or_eq_false_iff,Bool.or_eq_true,Bool.and_eq_false_iff,Bool.cond_eq_ite] at *)<;>omega))) (zaj
 (zbT (s0:=()) (λ(s88:Unit)=>([.va false (dI P0),.va false (dQ K (List.map lI P1)),.no,.no]:L2.Ctx)) (λ(r:BookD)=>Oc.rt true (zbQ A.Book r)) (λ(s88:Unit) (x89:(Int×(List Int)))=>()) (λ_ _=>True) (zg7 (m:=false) lI (xs:=P1) (zaa (i:=1) rfl)) (.eq (.eq (.eq (.eq .nil)))) trivial (λi90 x89 s88 hx91 hI92=>have v91:=zdt hx91;⟨trivial,
 (zcs (EvT.conv (zan (zcO (x:=((x89.2.length:Nat):Int)) (y:=P0) (zbK (f:=dI) (xs:=x89.2) (Ev.weak (K:=K) (zaa (i:=3) rfl))) (Ev.any (m:=false) (zaa (i:=0) rfl)))) (by have:=hp.2.2.2 _ (zkJ (by assumption));simp only [Bool.not_eq_false',decide_eq_true_eq];exact this)) (zaj
 (zak (.eq (.eq (.no (.no .nil)))))))⟩) (λr94 hr94 hI =>
 (zah (zap (ziI (i:=(P0,P1)) (zac (Ev.any (m:=false) (zaa (i:=0) rfl)) (zac (zaa (i:=1) rfl) zaf)) rfl (by show zaU P0 P1;unfold zaU;omega))))))))))
theorem zlu {w:Int} {sw:List (List Int)}:m_book_of w sw=⟨w,sw⟩:=by
 unfold m_book_of zfL Let
 simp
theorem zgd (sw:List (List Int)):List.map (λ(x:List Int)=>x) sw=sw:=by simp
theorem zoO {a b:Int} (h:a=b):(!decide (a=b))=false:=by rw [decide_eq_true h];rfl
def MtP (a b:BookD):Prop:=∃ W bt R:Nat,a.many=(W:Int)∧b.many=(W:Int)∧W≤8∧Lat.Fit (W+W) bt R∧a.swaps.length+b.swaps.length≤R∧(∀ r∈a.swaps,r.length=W∧Lat.Bit bt r)∧∀ r∈b.swaps,r.length=W∧Lat.Bit bt r
section
variable {a b:BookD} {d ss:List (List Int)} {r:List Int}
theorem zpB (h:MtP a b):a.many=b.many:=by obtain ⟨W,bt,R,h1,h2,_⟩:=h;rw [h1,h2]
theorem zoy (h:MtP a b) (hr:r∈a.swaps):r.length+r.length≤PySem.sizeLine:=by
 obtain ⟨W,bt,R,h1,h2,h3,h4,h5,h6,h7⟩:=h
 exact zat (by rw [(h6 r hr).1];omega)
theorem zot (h:MtP a b):a.swaps.length≤PySem.sizeLine:=by
 obtain ⟨W,bt,R,h1,h2,h3,h4,h5,h6,h7⟩:=h
 exact zat (by have:=h4.2.1;omega)
theorem zoI (h:MtP a b):PdP b.swaps b.many:=by
 obtain ⟨W,bt,R,h1,h2,h3,h4,h5,h6,h7⟩:=h
 exact ⟨by omega,λr hr=>by rw [(h7 r hr).1];exact h3,by have:=h4.2.1;omega⟩
theorem zhr {A B:List (List Int)} {W bt:Nat} (h6:∀ r∈A,r.length=W∧Lat.Bit bt r) (h7:∀ r∈B,r.length=W∧Lat.Bit bt r):∀ r∈List.map (λ(x:List Int)=>x++x) A++m_padded B (W:Int),r.length=W+W∧Lat.Bit bt r:=by
 intro r hr
 rcases List.mem_append.mp hr with hr | hr
 ·obtain ⟨x,hx,rfl⟩:=List.mem_map.mp hr
  refine ⟨by rw [List.length_append,(h6 x hx).1],λy hy=>?_⟩
  rcases List.mem_append.mp hy with hy | hy<;>exact (h6 x hx).2 y hy
 ·have hr:r∈List.map (λ(x:List Int)=>x++repZ (W:Int) [(0:Int)]) B:=hr
  obtain ⟨x,hx,rfl⟩:=List.mem_map.mp hr
  refine ⟨by rw [List.length_append,(h7 x hx).1,Lat.zfb],λy hy=>?_⟩
  rcases List.mem_append.mp hy with hy | hy
  ·exact (h7 x hx).2 y hy
  ·obtain ⟨j,_,rfl⟩:=Lat.zfS hy
   rw [Lat.zem];exact Nat.zero_le _
theorem zkE {A B:List (List Int)} {W:Int}:(List.map (λ(x:List Int)=>x++x) A++m_padded B W).length=A.length+B.length:=by
 rw [List.length_append,List.length_map]
 show _+(List.map _ B).length=_
 rw [List.length_map]
theorem zns (h:MtP a b) (hD:d=List.map (λ(x:List Int)=>x++x) a.swaps):d.length+(m_padded b.swaps b.many).length≤PySem.sizeLine:=by
 obtain ⟨W,bt,R,h1,h2,h3,h4,h5,h6,h7⟩:=h
 have:=zkE (A:=a.swaps) (B:=b.swaps) (W:=b.many)
 rw [List.length_append,← hD] at this
 exact zat (by have:=h4.2.1;omega)
theorem zmM (h:MtP a b) (hD:d=List.map (λ(x:List Int)=>x++x) a.swaps):Lat.zo9 (d++m_padded b.swaps b.many):=by
 obtain ⟨W,bt,R,h1,h2,h3,h4,h5,h6,h7⟩:=h
 rw [hD,h2]
 exact ⟨W+W,bt,R,h4,by rw [zkE];exact h5,zhr h6 h7⟩
theorem zny (h:MtP a b) (hD:d=List.map (λ(x:List Int)=>x++x) a.swaps) (hS:ss=m_climbed (d++m_padded b.swaps b.many)):ss.length≤1000:=by
 obtain ⟨W,bt,R,h1,h2,h3,h4,h5,h6,h7⟩:=h
 have k:=(Lat.zhC h4 (rows:=List.map (λ(x:List Int)=>x++x) a.swaps++m_padded b.swaps (W:Int)) (by rw [zkE];exact h5) (zhr h6 h7)).2.1
 have:=h4.2.1
 rw [hS,hD,h2,zfE];omega
theorem zoq (h:MtP a b) (hD:d=List.map (λ(x:List Int)=>x++x) a.swaps) (hS:ss=m_climbed (d++m_padded b.swaps b.many)) {w:Int}:(m_tails ss w).length≤1000:=by
 unfold m_tails
 rw [List.length_map]
 exact Nat.le_trans (List.length_filter_le _ _) (zny h hD hS)
end
def m_refuse_other_wares (P0:BookD) (P1:BookD):Unit:=()
def za2 (P0:BookD) (P1:BookD):Prop:=P0.many=P1.many
def zbs (K:W.Frag) (A:Adr):Sp:=Spv (ι:=BookD×BookD) (λx=>[zbQ A.Book x.1,zbQ A.Book x.2]) (λx=>za2 x.1 x.2) (λx=>.va true (dN))
theorem zds:FnScope ["one","other"] ["one","other"] (zae zaJ):=⟨rfl,rfl,rfl,by decide +kernel,rfl,by decide +kernel,by decide +kernel⟩
theorem zdv (F:Fun K "refuse_other_wares" "refuse_other_wares" zaJ f fd) (T:Txt K mg A) :FnOk P w K mg base (CXE P w) 1 f fd ["one","other"] (zbs K A):=by
 refine F.okV zds (λ_=>rfl) (λcdv Ar outer s H E x hr hp=>?_)
 obtain ⟨P0,P1⟩:=x
 have hu:=hr.units
 replace hp:za2 P0 P1:=hp
 unfold za2 at hp
 refine ⟨_,(zab (zbd (pt_cmpR op_ne (zbU (K:=K) rfl (pv 0) rfl) (zbU (K:=K) rfl (pv 1) rfl) (nomark _))
 (zab zeb zad)
 zad)
 zad),.inr ⟨_,([.va false (zbQ A.Book P0),.va false (zbQ A.Book P1)]:L2.Ctx),rfl,?_⟩⟩
 show L2.Run _ ([.va false (zbQ A.Book P0),.va false (zbQ A.Book P1)]:L2.Ctx) _ _
 exact (zcs (EvT.conv (zan (zcO (x:=P0.many) (y:=P1.many) (Ev.any (m:=false) (zdo (zaa (i:=0) rfl) T.Book_cl T.Book_many rfl)) (Ev.any (m:=false) (zdo (zaa (i:=1) rfl) T.Book_cl T.Book_many rfl)))) (by exact zoO hp)) (zaj
 (zak (Wk.refl _))))
def m_met (P0:BookD) (P1:BookD):BookD :=
 (Let (List.map (λ(x96:(List Int))=>(x96++x96)) P0.swaps) (λ(v99:(List (List Int))) =>
 (Let (m_climbed (v99++(m_padded P1.swaps P1.many))) (λ(v100:(List (List Int))) =>
 (zfL P0.many (m_tails v100 P0.many))))))
def zeT (P0:BookD) (P1:BookD):Prop:=MtP P0 P1
def zjO (K:W.Frag) (A:Adr):Sp:=Spv (ι:=BookD×BookD) (λx=>[zbQ A.Book x.1,zbQ A.Book x.2]) (λx=>zeT x.1 x.2) (λx=>.va true (zbQ A.Book (m_met x.1 x.2)))
theorem zi0:FnScope ["one","other","doubled","steps"] ["one","other"] (zae zhd):=⟨rfl,rfl,rfl,by decide +kernel,rfl,by decide +kernel,by decide +kernel⟩
theorem znj (F:Fun K "met" "met" zhd f fd) (T:Txt K mg A) (G_climbed:Callee P w K mg base (CXE P w) 5 "climbed" ["rows"] (zeu K A)) (G_padded:Callee P w K mg base (CXE P w) 1 "padded" ["rows","many"] (ze3 K A)) (G_refuse_other_wares:Callee P w K mg base (CXE P w) 1 "refuse_other_wares" ["one","other"] (zbs K A)) (G_tails:Callee P w K mg base (CXE P w) 2 "tails" ["steps","many"] (zgc K A)) {f_Book:Addr} {fd_Book:FuncData} (M_Book:Mk K A.Book f_Book) (G_Book___init__:FnOk P w K mg base (CXE P w) 1 f_Book fd_Book ["self","many","swaps"] (zcx K A)) (b_Book___init__:ze2 K fd_Book ["self","many","swaps"] []):FnOk P w K mg base (CXE P w) 6 f fd ["one","other"] (zjO K A):=by
 refine F.okV zi0 (λ_=>rfl) (λcdv Ar outer s H E x hr hp=>?_)
 obtain ⟨P0,P1⟩:=x
 have hu:=hr.units
 replace hp:zeT P0 P1:=hp
 unfold zeT at hp
 refine ⟨_,(zab (zcT (zaC G_refuse_other_wares (hr.mono (by decide)) rfl zaA (pa_cons (pv 0) (pa_cons (pv 1) pa_nil))))
 (zab (zdR (i:=2) rfl zi0.nd rfl rfl (.of (osc:=(zae zhd)) (N:=["one","other","doubled","steps"]) (own:=["swap"]) (fvn:=[]) (fv:=[]) rfl rfl (by decide +kernel)) (zaB (K:=K) rfl (zbU (K:=K) rfl (pv 0) rfl)) (λ_ _ _ _ _=>⟨(pg_name (i:=0) (show (["swap"]:List Str).Nodup by decide +kernel) rfl (Or.inl rfl) (Or.inr rfl)),zaZ,(zar zfg (pv 0) (pv 0))⟩))
 (zab (zam (i:=3) zi0.nd rfl (Or.inl rfl) (zaC G_climbed (hr.mono (by decide)) rfl zaA (pa_cons (zar zfg (pv 2) (zaC G_padded (hr.mono (by decide)) rfl zaA (pa_cons (zbU (K:=K) rfl (pv 1) rfl) (pa_cons (zbU (K:=K) rfl (pv 1) rfl) pa_nil)))) pa_nil)))
 (zab (zaw (zji M_Book G_Book___init__ (hr.mono (by decide)) rfl T.Book b_Book___init__ .nil zaA (pa_cons (zbU (K:=K) rfl (pv 0) rfl) (pa_cons (zaC G_tails (hr.mono (by decide)) rfl zaA (pa_cons (pv 3) (pa_cons (zbU (K:=K) rfl (pv 0) rfl) pa_nil))) pa_nil))))
 zad)))),.inl ?_⟩
 show L2.Run _ ([.va false (zbQ A.Book P0),.va false (zbQ A.Book P1),.no,.no]:L2.Ctx) _ ((λ(r:BookD)=>Oc.rt true (zbQ A.Book r)) (m_met P0 P1))
 unfold m_met
 exact (zgb (m:=true) (Ev.any (m:=true) (zal (x:=(P0,P1)) (zac (zaa (i:=0) rfl) (zac (zaa (i:=1) rfl) zaf)) rfl (by show za2 P0 P1;exact zpB hp) rfl))
 (zaq (m:=true) (x:=(List.map (λ(x96:(List Int))=>(x96++x96)) P0.swaps)) (λ(xs:(List (List Int)))=>dL (List.map lI xs)) (λ(r:BookD)=>Oc.rt true (zbQ A.Book r)) (EvO.ev (EvO.conv (zbJ (g:=(λ(x96:(List Int))=>dL (List.map dI (x96++x96)))) (zaX (m:=false) lI (xs:=P0.swaps) (Ev.weak (K:=K) (zdo (zaa (i:=0) rfl) T.Book_cl T.Book_swaps rfl))) (by exact zot hp) ⟨by decide,by decide⟩ (λi97 x96 hx98=>have v98:=List.mem_of_getElem? hx98;(EvO.ev (EvO.anyI (m:=false) (zdM (f:=dI) (xs:=x96) (ys:=x96) (zaa (i:=0) rfl) (zaa (i:=0) rfl) (by exact zoy hp (by assumption))))))) (by first | (rw [List.map_map];rfl) | (simp only [cond_true,cond_false];rw [List.map_map];rfl)))) (λv99 hv99 =>
 have hD:=hv99;(zaq (m:=true) (x:=(m_climbed (v99++(m_padded P1.swaps P1.many)))) (λ(xs:(List (List Int)))=>dL (List.map lI xs)) (λ(r:BookD)=>Oc.rt true (zbQ A.Book r)) (zal (x:=(v99++(m_padded P1.swaps P1.many))) (zac (Ev.old (Ev.weak (K:=K) (EvO.ev (zdM (f:=lI) (xs:=v99) (ys:=(m_padded P1.swaps P1.many)) (zaa (i:=2) rfl) (zal (x:=(P1.swaps,P1.many)) (zac (Ev.weak (K:=K) (zdo (zaa (i:=1) rfl) T.Book_cl T.Book_swaps rfl)) (zac (Ev.any (m:=false) (zdo (zaa (i:=1) rfl) T.Book_cl T.Book_many rfl)) zaf)) rfl (by show zdE P1.swaps P1.many;exact zoI hp) rfl) (by exact zns hp hD))))) zaf) rfl (by show zdf (v99++(m_padded P1.swaps P1.many));exact zmM hp hD) rfl) (λv100 hv100 =>
 have hS:=hv100;(zah (zap (ziI (i:=(P0.many,(m_tails v100 P0.many))) (zac (Ev.any (m:=false) (zdo (zaa (i:=0) rfl) T.Book_cl T.Book_many rfl)) (zac (Ev.old (Ev.weak (K:=K) (zal (x:=(v100,P0.many)) (zac (Ev.old (Ev.weak (K:=K) (zaa (i:=3) rfl))) (zac (Ev.any (m:=false) (zdo (zaa (i:=0) rfl) T.Book_cl T.Book_many rfl)) zaf)) rfl (by show zd7 v100 P0.many;exact zny hp hD hS) rfl))) zaf)) rfl (by show zaU P0.many (m_tails v100 P0.many);exact zoq hp hD hS)))))))))
theorem Lat.meet_ok {W:Nat} {A B S:List (List Int)} (hA:∀ r∈A,r.length=W) (hB:∀ r∈B,r.length=W) (St:Lat.Stairs (W+W) (List.map (λ(x:List Int)=>x++x) A++List.map (λ(x:List Int)=>x++repZ (W:Int) [(0:Int)]) B) S) :
  Lat.Ech W 0 (Lat.tailS W S)∧Lat.Red (Lat.tailS W S)∧∀ u,Lat.SpL (Lat.tailS W S) u ↔ Lat.SpL A u∧Lat.SpL B u:=by
 have van:∀ {C:List (List Int)} {u:Lat.Vc},(∀ r∈C,r.length=W)->Lat.SpL C u->∀ j,W≤j->u j=0:=λhC h j hj=>Lat.Sp.at0 (λa ⟨s,hs,e⟩=>by rw [e];exact Lat.zcv (by rw [hC s hs];exact hj)) h
 have key:∀ v,Lat.SpL (List.map (λ(x:List Int)=>x++x) A++List.map (λ(x:List Int)=>x++repZ (W:Int) [(0:Int)]) B) v->∃ p q,Lat.SpL A p∧Lat.SpL B q∧∀ i,v i=if i<W then p i+q i else p (i-W):=by
  intro v hv
  induction hv with
  | zero=>exact ⟨λ_=>0,λ_=>0,Lat.Sp.zero,Lat.Sp.zero,λi=>by simp⟩
  | @add u a x _ ha ih =>
   obtain ⟨p,q,hp,hq,e⟩:=ih
   obtain ⟨s,hs,rfl⟩:=ha
   rcases List.mem_append.mp hs with hs | hs
   ·obtain ⟨t,ht,rfl⟩:=List.mem_map.mp hs
    refine ⟨λi=>p i+x*Lat.vec t i,q,Lat.Sp.add x hp ⟨t,ht,rfl⟩,hq,λi=>?_⟩
    show u i+x*Lat.vec (t++t) i=_
    rw [e i,Lat.zgj,hA t ht]
    by_cases hi:i<W
    ·rw [if_pos hi,if_pos hi,if_pos hi];dsimp only;omega
    ·rw [if_neg hi,if_neg hi,if_neg hi]
   ·obtain ⟨t,ht,rfl⟩:=List.mem_map.mp hs
    refine ⟨p,λi=>q i+x*Lat.vec t i,hp,Lat.Sp.add x hq ⟨t,ht,rfl⟩,λi=>?_⟩
    show u i+x*Lat.vec (t++repZ (W:Int) [(0:Int)]) i=_
    rw [e i,Lat.zgj,hB t ht,Lat.zem]
    by_cases hi:i<W
    ·rw [if_pos hi,if_pos hi,if_pos hi];dsimp only;omega
    ·rw [if_neg hi,if_neg hi,if_neg hi];omega
 have tin:∀ t∈Lat.tailS W S,Lat.SpL A (Lat.vec t)∧Lat.SpL B (Lat.vec t):=λt ht=>by
  obtain ⟨s,hs,h1,rfl⟩:=Lat.zfa ht
  obtain ⟨p,q,hp,hq,e⟩:=key _ (St.inn s hs)
  have z:∀ i,i<W->Lat.vec s i=0:=λi hi=>Lat.zaY (by omega)
  have ep:∀ i,Lat.vec (s.drop W) i=p i:=λi=>by rw [Lat.zcE,e (W+i),if_neg (by omega),Nat.add_sub_cancel_left]
  have eq:∀ i,Lat.vec (s.drop W) i=-1*q i:=λi=>by
   rw [ep i]
   by_cases hi:i<W
   ·have:=e i
    rw [z i hi,if_pos hi] at this
    omega
   ·rw [van hA hp i (by omega),van hB hq i (by omega)];rfl
  exact ⟨hp.conv λi=>(ep i).symm,(hq.smul (-1)).conv λi=>(eq i).symm⟩
 refine ⟨by have:=Lat.zeU St.ech;exact this.mono (Nat.zero_le _),Lat.zeS St.ech St.red,λu=>⟨λh=>⟨Lat.SpL.sub (λt ht=>(tin t ht).1) h,Lat.SpL.sub (λt ht=>(tin t ht).2) h⟩,λ⟨ha,hb⟩=>?_⟩⟩
 have h1:Lat.SpL (List.map (λ(x:List Int)=>x++x) A++List.map (λ(x:List Int)=>x++repZ (W:Int) [(0:Int)]) B) (λi=>if i<W then u i else u (i-W)):=Lat.Sp.image (g:=λu i=>if i<W then u i else u (i-W)) (λi=>by simp) (λu a x i=>by dsimp only;split<;>rfl) (λa ⟨s,hs,e⟩=>Lat.Sp.mem ⟨s++s,List.mem_append_left _ (List.mem_map.mpr ⟨s,hs,rfl⟩),by rw [e];funext i;rw [Lat.zgj,hA s hs]⟩) ha
 have h2:Lat.SpL (List.map (λ(x:List Int)=>x++x) A++List.map (λ(x:List Int)=>x++repZ (W:Int) [(0:Int)]) B) u:=Lat.Sp.sub (λa ⟨s,hs,e⟩=>Lat.Sp.mem ⟨s++repZ (W:Int) [(0:Int)],List.mem_append_right _ (List.mem_map.mpr ⟨s,hs,rfl⟩),by
  rw [e];funext i
  rw [Lat.zgj,hB s hs,Lat.zem]
  by_cases hi:i<W
  ·rw [if_pos hi]
  ·rw [if_neg hi];exact Lat.zcv (by rw [hB s hs];omega)⟩) hb
 have h3:=(Lat.Sp.lin 1 (-1) h1 h2).conv (v:=λi=>if i<W then 0 else u (i-W)) λi=>by
  by_cases hi:i<W
  ·simp only [if_pos hi];omega
  ·simp only [if_neg hi]
   have:=van hA ha i (by omega)
   omega
 have hs:=Lat.SpL.sub (λm hm=>St.out m hm) h3
 have ht:=Lat.zha (n:=W) St.ech hs λi hi=>by simp [hi]
 have:=Lat.Sp.image (g:=λu=>λi=>u (W+i)) (B:=λu=>∃ s∈Lat.tailS W S,u=Lat.vec s) (λi=>rfl) (λu a x i=>rfl) (λa ⟨s,hs',e⟩=>by
  refine Lat.Sp.mem ⟨s.drop W,?_,?_⟩
  ·unfold Lat.tailS
   exact List.mem_map.mpr ⟨s,hs',rfl⟩
  ·rw [e];exact funext λi=>(Lat.zcE).symm) ht
 refine Lat.Sp.conv this λi=>?_
 show (if W+i<W then (0:Int) else u (W+i-W))=u i
 rw [if_neg (by omega),Nat.add_sub_cancel_left]
theorem zjq {a b:BookD} {W:Nat} (h1:a.many=(W:Int)) (h2:b.many=(W:Int)):m_met a b=⟨(W:Int),Lat.tailS W (Lat.clm Lat.MG (List.map (λ(x:List Int)=>x++x) a.swaps++List.map (λ(x:List Int)=>x++repZ (W:Int) [(0:Int)]) b.swaps))⟩:=by
 unfold m_met Let
 dsimp only
 rw [zfE,h1,h2,zkt]
 unfold zfL
 simp [m_padded]
theorem zlw {a b:BookD} {W:Nat} (h1:a.many=(W:Int)) (h2:b.many=(W:Int)) (hA:∀ r∈a.swaps,r.length=W) (hB:∀ r∈b.swaps,r.length=W):Lat.Ech W 0 (m_met a b).swaps∧Lat.Red (m_met a b).swaps∧∀ u,Lat.SpL (m_met a b).swaps u ↔ Lat.SpL a.swaps u∧Lat.SpL b.swaps u:=by
 rw [zjq h1 h2]
 refine Lat.meet_ok hA hB (Lat.zfH λr hr=>?_).1
 rcases List.mem_append.mp hr with hr | hr
 ·obtain ⟨x,hx,rfl⟩:=List.mem_map.mp hr
  rw [List.length_append,hA x hx]
 ·obtain ⟨x,hx,rfl⟩:=List.mem_map.mp hr
  rw [List.length_append,hB x hx,Lat.zfb]
theorem znz {a b:BookD} {W bt R:Nat} (h1:a.many=(W:Int)) (h2:b.many=(W:Int)) (h4:Lat.Fit (W+W) bt R) (h5:a.swaps.length+b.swaps.length≤R) (h6:∀ r∈a.swaps,r.length=W∧Lat.Bit bt r) (h7:∀ r∈b.swaps,r.length=W∧Lat.Bit bt r):(m_met a b).swaps.length≤31∧∀ t∈(m_met a b).swaps,Lat.Sd W (Lat.sB bt R) t:=by
 obtain ⟨_,k1,k2⟩:=Lat.zhC h4 (rows:=List.map (λ(x:List Int)=>x++x) a.swaps++m_padded b.swaps (W:Int)) (by rw [zkE];exact h5) (zhr h6 h7)
 rw [zjq h1 h2]
 refine ⟨?_,λt ht=>?_⟩
 ·show (Lat.tailS _ _).length≤31
  unfold Lat.tailS
  rw [List.length_map]
  refine Nat.le_trans (List.length_filter_le _ _) (Nat.le_trans k1 ?_)
  have:=h4.2.1;omega
 ·obtain ⟨s,hs,q1,rfl⟩:=Lat.zfa ht
  exact (k2 s hs).drop q1
def m_law_cell (P0:(List Int)) (P1:Int):Int :=
 (bif (decide (P1<((P0.length:Nat):Int))) then ((ixD P0 P1)%(2147483647:Int))
 else (0:Int))
def zcr (P0:(List Int)) (P1:Int):Prop:=0≤P1
def zdN (K:W.Frag) (A:Adr):Sp:=Spv (ι:=(List Int)×Int) (λx=>[dQ K (List.map dI x.1),dI x.2]) (λx=>zcr x.1 x.2) (λx=>.va true (dI (m_law_cell x.1 x.2)))
theorem zhf:FnScope ["_law_script","_law_k"] ["_law_script","_law_k"] (zae zcJ):=⟨rfl,rfl,rfl,by decide +kernel,rfl,by decide +kernel,by decide +kernel⟩
theorem zhq (F:Fun K "_law_cell" "_law_cell" zcJ f fd) (T:Txt K mg A) :FnOk P w K mg base (CXE P w) 1 f fd ["_law_script","_law_k"] (zdN K A):=by
 refine F.okV zhf (λ_=>rfl) (λcdv Ar outer s H E x hr hp=>?_)
 obtain ⟨P0,P1⟩:=x
 have hu:=hr.units
 replace hp:zcr P0 P1:=hp
 unfold zcr at hp
 refine ⟨_,(zab (zbd (pt_cmpR zg2 (pv 1) (pe_callB (call_len_K (K:=K) rfl) rfl T.len PySem.boot_len (pa_cons (pv 0) pa_nil)) (nomark _))
 (zab (zaw (zar zbN (zaR (zao (K:=K) rfl) (pv 0) (pv 1) (λ_ _=>rfl)) zag))
 zad)
 zad)
 (zab (zaw zag)
 zad)),.inl ?_⟩
 show L2.Run _ ([.va false (dQ K (List.map dI P0)),.va false (dI P1)]:L2.Ctx) _ ((λ(r:Int)=>Oc.rt true (dI r)) (m_law_cell P0 P1))
 unfold m_law_cell
 exact (zax (b:=(decide (P1<((P0.length:Nat):Int)))) (λ(r:Int)=>Oc.rt true (dI r)) (zan (zaD (x:=P1) (y:=((P0.length:Nat):Int)) (Ev.any (m:=false) (zaa (i:=1) rfl)) (zbK (f:=dI) (xs:=P0) (zaa (i:=0) rfl)))) (λh101=>(zai (zah (zap (zas (x:=(ixD P0 P1)) (y:=(2147483647:Int)) (Ev.any (m:=false) (zbB (f:=dI) (xs:=P0) (zaa (i:=0) rfl) (Ev.any (m:=false) (zaa (i:=1) rfl)) (by unfold InB;constructor<;>((try simp only [decide_eq_true_eq,decide_eq_false_iff_not,Bool.not_eq_true',Bool.not_eq_false',Bool.and_eq_true,Bool.or_eq_false_iff,Bool.or_eq_true,Bool.and_eq_false_iff,Bool.cond_eq_ite] at *)<;>omega)))) zaz (by decide)))))) (λh101 =>
 (zaj (zah (zap zaz)))))
theorem zjZ {s:List Int} {i:Nat} {y:Int} (h:s.length≤i):(s++[y]).length≤i+1:=by simp;omega
theorem znv {s:List Int} {i n:Nat} {x lo:Int} (h:s.length≤i) (hx:i<n∧x=lo+(i:Int)) (hn:n≤400):s.length<PySem.sizeLine:=Nat.lt_of_le_of_lt (show _≤10000 by omega) (by decide)
def m_law_raw (P0:(List Int)) (P1:Int):Int :=
 (bif (decide (P1<((P0.length:Nat):Int))) then (ixD P0 P1)
 else (0:Int))
def zbZ (P0:(List Int)) (P1:Int):Prop:=0≤P1
def zee (K:W.Frag) (A:Adr):Sp:=Spv (ι:=(List Int)×Int) (λx=>[dQ K (List.map dI x.1),dI x.2]) (λx=>zbZ x.1 x.2) (λx=>.va true (dI (m_law_raw x.1 x.2)))
theorem zh7:FnScope ["_law_script","_law_k"] ["_law_script","_law_k"] (zae zc3):=⟨rfl,rfl,rfl,by decide +kernel,rfl,by decide +kernel,by decide +kernel⟩
theorem zh9 (F:Fun K "_law_raw" "_law_raw" zc3 f fd) (T:Txt K mg A) :FnOk P w K mg base (CXE P w) 1 f fd ["_law_script","_law_k"] (zee K A):=by
 refine F.okV zh7 (λ_=>rfl) (λcdv Ar outer s H E x hr hp=>?_)
 obtain ⟨P0,P1⟩:=x
 have hu:=hr.units
 replace hp:zbZ P0 P1:=hp
 unfold zbZ at hp
 refine ⟨_,(zab (zbd (pt_cmpR zg2 (pv 1) (pe_callB (call_len_K (K:=K) rfl) rfl T.len PySem.boot_len (pa_cons (pv 0) pa_nil)) (nomark _))
 (zab (zaw (zaR (zao (K:=K) rfl) (pv 0) (pv 1) (λ_ _=>rfl)))
 zad)
 zad)
 (zab (zaw zag)
 zad)),.inl ?_⟩
 show L2.Run _ ([.va false (dQ K (List.map dI P0)),.va false (dI P1)]:L2.Ctx) _ ((λ(r:Int)=>Oc.rt true (dI r)) (m_law_raw P0 P1))
 unfold m_law_raw
 exact (zax (b:=(decide (P1<((P0.length:Nat):Int)))) (λ(r:Int)=>Oc.rt true (dI r)) (zan (zaD (x:=P1) (y:=((P0.length:Nat):Int)) (Ev.any (m:=false) (zaa (i:=1) rfl)) (zbK (f:=dI) (xs:=P0) (zaa (i:=0) rfl)))) (λh102=>(zai (zah (zap (Ev.any (m:=false) (zbB (f:=dI) (xs:=P0) (zaa (i:=0) rfl) (Ev.any (m:=false) (zaa (i:=1) rfl)) (by unfold InB;simp only [decide_eq_true_eq] at *;omega))))))) (λh102 =>
 (zaj (zah (zap zaz)))))
def m_law_thing (P0:Int) (P1:Int) (P2:Int):Int :=
 (Let (P0/(2147483647:Int)) (λ(v103:Int) =>
 (bif (decide ((v103%(2:Int))=(1:Int))) then (Let (v103/(2:Int)) (λ(v105:Int) =>
 (Let (List.foldl (λ(s106:Int) (x107:Int)=>(Let (s106/(60:Int)) (λ(v111:Int) =>
 v111))) v105 (za5 0 P1.toNat)) (λ(r112:Int) =>
 ((r112%(60:Int))%P2)))))
 else (Let (((((P0%(2147483647:Int))*(48271:Int))+(((69621:Int)*P1)*P1))+((7:Int)*P1))%(2147483629:Int)) (λ(v113:Int) =>
 (Let ((v113*v113)%(2147483587:Int)) (λ(v114:Int) =>
 (((v114*(v114+(48271:Int)))%(2147483563:Int))%P2))))))))
def zaI (P0:Int) (P1:Int) (P2:Int):Prop:=0≤P1∧P1≤1000∧0<P2
def zct (K:W.Frag) (A:Adr):Sp:=Spv (ι:=Int×Int×Int) (λx=>[dI x.1,dI x.2.1,dI x.2.2]) (λx=>zaI x.1 x.2.1 x.2.2) (λx=>.va true (dI (m_law_thing x.1 x.2.1 x.2.2)))
theorem zbz:FnScope ["_law_cell_here","_law_k","_law_many","_law_free","_law_step","_law_number"] ["_law_cell_here","_law_k","_law_many"] (zae zce):=⟨rfl,rfl,rfl,by decide +kernel,rfl,by decide +kernel,by decide +kernel⟩
theorem zgG (F:Fun K "_law_thing" "_law_thing" zce f fd) (T:Txt K mg A) :FnOk P w K mg base (CXE P w) 1 f fd ["_law_cell_here","_law_k","_law_many"] (zct K A):=by
 refine F.okV zbz (λ_=>rfl) (λcdv Ar outer s H E x hr hp=>?_)
 obtain ⟨P0,P1,P2⟩:=x
 have hu:=hr.units
 replace hp:zaI P0 P1 P2:=hp
 unfold zaI at hp
 refine ⟨_,(zab (zam (i:=3) zbz.nd rfl (Or.inl rfl) (zar za9 (pv 0) zag))
 (zab (zbd (pt_cmpR zd8 (zar zbN (pv 3) zag) zag (nomark _))
 (zab (zam (i:=3) zbz.nd rfl (Or.inl rfl) (zar za9 (pv 3) zag))
 (zab (zbo PassesOwn.never rfl (zb8 rfl T.range (pa_cons (pv 1) pa_nil)) (pg_name (i:=4) zbz.nd rfl (Or.inl rfl) (Or.inl rfl))
 (zab (zam (i:=3) zbz.nd rfl (Or.inl rfl) (zar za9 (pv 3) zag))
 zad))
 (zab (zaw (zar zbN (zar zbN (pv 3) zag) (pv 2)))
 zad)))
 zad)
 (zab (zam (i:=5) zbz.nd rfl (Or.inl rfl) (zar zbN (zar zca (zar zca (zar zaS (zar zbN (pv 0) zag) zag) (zar zaS (zar zaS zag (pv 1)) (pv 1))) (zar zaS zag (pv 1))) zag))
 (zab (zam (i:=5) zbz.nd rfl (Or.inl rfl) (zar zbN (zar zaS (pv 5) (pv 5)) zag))
 (zab (zaw (zar zbN (zar zbN (zar zaS (pv 5) (zar zca (pv 5) zag)) zag) (pv 2)))
 zad))))),.inl ?_⟩
 show L2.Run _ ([.va false (dI P0),.va false (dI P1),.va false (dI P2),.no,.no,.no]:L2.Ctx) _ ((λ(r:Int)=>Oc.rt true (dI r)) (m_law_thing P0 P1 P2))
 unfold m_law_thing
 exact (zaq (m:=true) (x:=(P0/(2147483647:Int))) dI (λ(r:Int)=>Oc.rt true (dI r)) (zas (x:=P0) (y:=(2147483647:Int)) (Ev.any (m:=false) (zaa (i:=0) rfl)) zaz (by exact ⟨by decide,by decide⟩)) (λv103 hv103 =>
 (zax (b:=(decide ((v103%(2:Int))=(1:Int)))) (λ(r:Int)=>Oc.rt true (dI r)) (zan (zcN (x:=(v103%(2:Int))) (y:=(1:Int)) (zas (x:=v103) (y:=(2:Int)) (Ev.any (m:=true) (zaa (i:=3) rfl)) zaz (by decide)) zaz)) (λh104=>(zai (zaq (m:=true) (x:=(v103/(2:Int))) dI (λ(r:Int)=>Oc.rt true (dI r)) (zas (x:=v103) (y:=(2:Int)) (Ev.any (m:=true) (zaa (i:=3) rfl)) zaz (by exact ⟨by decide,by decide⟩)) (λv105 hv105 =>
 (zai (zbT (s0:=v105) (λ(s106:Int)=>([.va false (dI P0),.va false (dI P1),.va false (dI P2),.va true (dI s106),.no,.no]:L2.Ctx)) (λ(r:Int)=>Oc.rt true (dI r)) (λ(s106:Int) (x107:Int)=>(Let (s106/(60:Int)) (λ(v111:Int) =>
 v111))) (λ_ _=>True) (zdj (m:=true) (n:=P1) (Ev.any (m:=false) (zaa (i:=1) rfl)) (by refine ⟨?_,?_⟩<;>omega)) (.eq (.eq (.eq (.eq (.eq (.eq .nil)))))) trivial (λi108 x107 s106 hx109 hI110=>have v109:=zbq hx109;⟨trivial,
 (zaq (m:=true) (x:=(s106/(60:Int))) dI (λz=>Oc.nx ((λ(s106:Int)=>([.va false (dI P0),.va false (dI P1),.va false (dI P2),.va true (dI s106),.no,.no]:L2.Ctx)) z)) (zas (x:=s106) (y:=(60:Int)) (Ev.any (m:=true) (zaa (i:=3) rfl)) zaz (by exact ⟨by decide,by decide⟩)) (λv111 hv111 =>
 (zak (.eq (.eq (.eq (.eq (.no (.eq .nil)))))))))⟩) (λr112 hr112 hI =>
 (zai (zah (zap (zas (x:=(r112%(60:Int))) (y:=P2) (zas (x:=r112) (y:=(60:Int)) (Ev.any (m:=true) (zaa (i:=3) rfl)) zaz (by decide)) (Ev.any (m:=false) (zaa (i:=2) rfl)) (by exact hp.2.2)))))))))))) (λh104 =>
 (zaj (zaq (m:=true) (x:=(((((P0%(2147483647:Int))*(48271:Int))+(((69621:Int)*P1)*P1))+((7:Int)*P1))%(2147483629:Int))) dI (λ(r:Int)=>Oc.rt true (dI r)) (zas (x:=((((P0%(2147483647:Int))*(48271:Int))+(((69621:Int)*P1)*P1))+((7:Int)*P1))) (y:=(2147483629:Int)) (zaD (x:=(((P0%(2147483647:Int))*(48271:Int))+(((69621:Int)*P1)*P1))) (y:=((7:Int)*P1)) (zaD (x:=((P0%(2147483647:Int))*(48271:Int))) (y:=(((69621:Int)*P1)*P1)) (zas (x:=(P0%(2147483647:Int))) (y:=(48271:Int)) (zas (x:=P0) (y:=(2147483647:Int)) (Ev.any (m:=false) (zaa (i:=0) rfl)) zaz (by decide)) zaz (by exact .inl ⟨by omega,by omega⟩)) (zas (x:=((69621:Int)*P1)) (y:=P1) (zas (x:=(69621:Int)) (y:=P1) zaz (Ev.any (m:=false) (zaa (i:=1) rfl)) (by exact .inl ⟨by omega,by omega⟩)) (Ev.any (m:=false) (zaa (i:=1) rfl)) (by exact .inl ⟨by omega,by omega⟩))) (zas (x:=(7:Int)) (y:=P1) zaz (Ev.any (m:=false) (zaa (i:=1) rfl)) (by exact .inl ⟨by omega,by omega⟩))) zaz (by decide)) (λv113 hv113 =>
 have hNnumber113:=hv113;(zaq (m:=true) (x:=((v113*v113)%(2147483587:Int))) dI (λ(r:Int)=>Oc.rt true (dI r)) (zas (x:=(v113*v113)) (y:=(2147483587:Int)) (zas (x:=v113) (y:=v113) (Ev.any (m:=true) (zaa (i:=5) rfl)) (Ev.any (m:=true) (zaa (i:=5) rfl)) (by exact .inl ⟨by omega,by omega⟩)) zaz (by decide)) (λv114 hv114 =>
 have hNnumber114:=hv114;(zah (zap (zas (x:=((v114*(v114+(48271:Int)))%(2147483563:Int))) (y:=P2) (zas (x:=(v114*(v114+(48271:Int)))) (y:=(2147483563:Int)) (zas (x:=v114) (y:=(v114+(48271:Int))) (Ev.any (m:=true) (zaa (i:=5) rfl)) (zaD (x:=v114) (y:=(48271:Int)) (Ev.any (m:=true) (zaa (i:=5) rfl)) zaz) (by exact .inl ⟨by omega,by omega⟩)) zaz (by decide)) (Ev.any (m:=false) (zaa (i:=2) rfl)) (by exact hp.2.2)))))))))))))
theorem zdy {c k m:Int} (hm:0<m):0≤m_law_thing c k m∧m_law_thing c k m<m:=by
 unfold m_law_thing Let
 dsimp only
 have key:∀ b:Bool,∀ x y:Int,0≤(bif b then x%m else y%m)∧(bif b then x%m else y%m)<m:=λb x y=>by
  cases b
  ·exact ⟨Int.emod_nonneg y (by omega),Int.emod_lt_of_pos y hm⟩
  ·exact ⟨Int.emod_nonneg x (by omega),Int.emod_lt_of_pos x hm⟩
 exact key _ _ _
def Sq (w:Nat) (n:Nat) (rows:List (List Int)):Prop:=rows.length=n∧∀ r∈rows,r.length=w
def FrI (w:Nat) (s:List (List Int)×List (List Int)):Prop:=Sq w w s.1∧Sq w w s.2
theorem zjd {w n:Nat} {rows:List (List Int)} {i:Int} {y:List Int} (h:Sq w n rows) (hy:y.length=w):Sq w n (setZ rows i y):=⟨by rw [zd2];exact h.1,λr hr=>by
 rcases Lat.setZ_mem hr with rfl | hr
 ·exact hy
 ·exact h.2 r hr⟩
theorem zjY {w n:Nat} {b:Bool} {rows ys:List (List Int)} (h:Sq w n rows) (k:Sq w n ys):Sq w n (bif b then ys else rows):=by cases b<;>assumption
theorem sq_ix {w n:Nat} {rows:List (List Int)} {x:Int} (h:Sq w n rows) (h0:0≤x) (h1:x<(n:Int)):InB rows.length x:=by rw [h.1];unfold InB;omega
theorem ziU {w n:Nat} {rows:List (List Int)} {x:Int} (h:Sq w n rows) (h0:0≤x) (h1:x<(n:Int)):(ixD rows x).length=w:=h.2 _ (zdg (sq_ix h h0 h1))
theorem zm6 {α:Type} {w n:Nat} {xs:List α} {f:α->List Int} (h:xs.length=n) (k:∀ x,(f x).length=w):Sq w n (List.map f xs):=⟨by rw [List.length_map];exact h,λr hr=>by obtain ⟨x,_,rfl⟩:=List.mem_map.mp hr;exact k x⟩
theorem sq_zip {w n m:Nat} {rows ys:List (List Int)} {x y:Int} {f:Int×Int->Int} (h:Sq w n rows) (k:Sq w m ys) (h0:0≤x∧x<(n:Int)) (h1:0≤y∧y<(m:Int)):(List.map f (List.zip (ixD rows x) (ixD ys y))).length=w:=by
 rw [List.length_map,List.length_zip,ziU h h0.1 h0.2,ziU k h1.1 h1.2];omega
theorem zjQ {w n m:Nat} {rows ys:List (List Int)} {x y:Int} (h:Sq w n rows) (h0:0≤x∧x<(n:Int)) (hw:w≤1000):(List.zip (ixD rows x) (ixD ys y)).length≤PySem.sizeLine:=zat (by rw [List.length_zip,ziU h h0.1 h0.2];omega)
theorem zlF {W:Nat} {s:List (List Int)×List (List Int)} {x y:Int} (h:FrI W s) (hx:0≤x∧x<(W:Int)) (hw:W≤8):(List.zip (ixD s.1 x) (ixD s.1 y)).length≤PySem.sizeLine:=zjQ (ys:=s.1) (m:=0) h.1 hx (by omega)
theorem zlV {W:Nat} {s:List (List Int)×List (List Int)} {x y:Int} (h:FrI W s) (hx:0≤x∧x<(W:Int)) (hw:W≤8):(List.zip (ixD s.2 x) (ixD s.2 y)).length≤PySem.sizeLine:=zjQ (ys:=s.2) (m:=0) h.2 hx (by omega)
theorem zkX {w:Int} {W:Nat} {a b:List (List Int)} (hw:w=(W:Int)) (ha:a=List.map (λ(x:Int)=>List.map (λ(y:Int)=>(if (decide (y=x)) then (1:Int) else 0)) (za5 0 w.toNat)) (za5 0 w.toNat)) (hb:b=List.map (λ(x:List Int)=>x) a):FrI W (a,b):=by
 have h1:Sq W W a:=by
  subst ha
  exact zm6 (by rw [zaH];omega) λx=>by rw [List.length_map,zaH];omega
 exact ⟨h1,by subst hb;rw [List.map_id'];exact h1⟩
theorem zlB {W:Nat} {s:List (List Int)×List (List Int)} {b:Bool} {x y q:Int} (h:FrI W s) (hx:0≤x∧x<(W:Int)) (hy:0≤y∧y<(W:Int)):FrI W (bif b then (setZ s.1 y (List.map (λ(z:Int×Int)=>(z.1+(q*z.2))) (List.zip (ixD s.1 y) (ixD s.1 x)))) else s.1,bif b then (setZ s.2 x (List.map (λ(z:Int×Int)=>(z.1-(q*z.2))) (List.zip (ixD s.2 x) (ixD s.2 y)))) else s.2) :=
 ⟨zjY h.1 (zjd h.1 (sq_zip h.1 h.1 hy hx)),zjY h.2 (zjd h.2 (sq_zip h.2 h.2 hx hy))⟩
theorem zcQ {c k w x:Int} {W:Nat} (hw:w=(W:Int)) (h1:1≤w) (e:x=m_law_thing c k w):0≤x∧x<(W:Int):=by
 subst e;have:=zdy (c:=c) (k:=k) (m:=w) (by omega);omega
theorem zhs {c k x:Int} (e:x=m_law_thing c k (5:Int)-(2:Int)):-2≤x∧x≤2:=by
 subst e;have:=zdy (c:=c) (k:=k) (m:=5) (by decide);omega
theorem zmy {c k x:Int} (e:x=m_law_thing c k (7:Int)):InB 7 x:=by
 subst e;have:=zdy (c:=c) (k:=k) (m:=7) (by decide);unfold InB;omega
def m_law_frame (P0:Int) (P1:(List Int)):((List (List Int))×(List (List Int))) :=
 (Let (List.map (λ(x115:Int)=>(List.map (λ(x118:Int)=>(if (decide (x118=x115)) then 1 else 0)) (za5 0 P0.toNat))) (za5 0 P0.toNat)) (λ(v121:(List (List Int))) =>
 (Let (List.map (λ(x122:(List Int))=>x122) v121) (λ(v125:(List (List Int))) =>
 (Let (List.foldl (λ(s126:(List (List Int))×(List (List Int))) (x127:Int)=>(Let (m_law_thing x127 (1:Int) P0) (λ(v131:Int) =>
 (Let (m_law_thing x127 (2:Int) P0) (λ(v132:Int) =>
 (Let ((m_law_thing x127 (3:Int) (5:Int))-(2:Int)) (λ(v133:Int) =>
 (Let (bif (!decide (v131=v132)) then (setZ s126.1 v132 (List.map (λ(x135:(Int×Int))=>(x135.1+(v133*x135.2))) (List.zip (ixD s126.1 v132) (ixD s126.1 v131)))) else s126.1) (λ(v141:(List (List Int))) =>
 (Let (bif (!decide (v131=v132)) then (setZ s126.2 v131 (List.map (λ(x138:(Int×Int))=>(x138.1-(v133*x138.2))) (List.zip (ixD s126.2 v131) (ixD s126.2 v132)))) else s126.2) (λ(v142:(List (List Int))) =>
 (v141,v142)))))))))))) (v121,v125) P1) (λ(r143:(List (List Int))×(List (List Int))) =>
 (r143.1,r143.2)))))))
def zb9 (P0:Int) (P1:(List Int)):Prop:=1≤P0∧P0≤8
def zdr (K:W.Frag) (A:Adr):Sp:=Spv (ι:=Int×(List Int)) (λx=>[dI x.1,dQ K (List.map dI x.2)]) (λx=>zb9 x.1 x.2) (λx=>.va true (dT [dL (List.map lI ((m_law_frame x.1 x.2).1)),dL (List.map lI ((m_law_frame x.1 x.2).2))]))
theorem zbw:FnScope ["_law_wide","_law_cells","_law_rows","_law_duals","_law_cell_here","_law_one","_law_two_here","_law_many"] ["_law_wide","_law_cells"] (zae za7):=⟨rfl,rfl,rfl,by decide +kernel,rfl,by decide +kernel,by decide +kernel⟩
theorem zgA (F:Fun K "_law_frame" "_law_frame" za7 f fd) (T:Txt K mg A) (G_law_thing:Callee P w K mg base (CXE P w) 1 "_law_thing" ["_law_cell_here","_law_k","_law_many"] (zct K A)):FnOk P w K mg base (CXE P w) 2 f fd ["_law_wide","_law_cells"] (zdr K A):=by
 refine F.okV zbw (λ_=>rfl) (λcdv Ar outer s H E x hr hp=>?_)
 obtain ⟨P0,P1⟩:=x
 have hu:=hr.units
 replace hp:zb9 P0 P1:=hp
 unfold zb9 at hp
 obtain ⟨W,hW⟩:∃ W:Nat,P0=(W:Int):=⟨P0.toNat,by omega⟩
 refine ⟨_,(zab (zdR (i:=2) rfl zbw.nd rfl rfl (.of (osc:=(zae za7)) (N:=["_law_wide","_law_cells","_law_rows","_law_duals","_law_cell_here","_law_one","_law_two_here","_law_many"]) (own:=["_law_k"]) (fvn:=["_law_wide"]) (fv:=[0]) rfl rfl (by decide +kernel)) (zb8 rfl T.range (pa_cons (pv 0) pa_nil)) (λ_ _ _ _ _=>⟨(pg_name (i:=0) (show (["_law_k","_law_wide"]:List Str).Nodup by decide +kernel) rfl (Or.inr rfl) (Or.inl rfl)),zaZ,(zbC rfl (.of (osc:=({ kind:=.function,names:=[(".0",.local),("_law_k",.cell),("range",.globalImplicit),("_law_wide",.cell)],isGenerator:=false,isCoroutine:=false }:Scope)) (N:=["_law_k","_law_wide"]) (own:=["_law_j"]) (fvn:=["_law_k"]) (fv:=[0]) rfl rfl (by decide +kernel)) (zb8 rfl T.range (pa_cons (pv 1) pa_nil)) (λ_ _ _ _ _=>⟨(pg_name (i:=0) (show (["_law_j","_law_k"]:List Str).Nodup by decide +kernel) rfl (Or.inl rfl) (Or.inr rfl)),zaZ,(zcu zgC rfl T.int (by decide +kernel) (pa_cons (zfZ zd8 (pv 0) (pv 1) (nomark _)) pa_nil))⟩))⟩))
 (zab (zdR (i:=3) rfl zbw.nd rfl rfl (.of (osc:=(zae za7)) (N:=["_law_wide","_law_cells","_law_rows","_law_duals","_law_cell_here","_law_one","_law_two_here","_law_many"]) (own:=["_law_row"]) (fvn:=[]) (fv:=[]) rfl rfl (by decide +kernel)) (zaB (K:=K) rfl (pv 2)) (λ_ _ _ _ _=>⟨(pg_name (i:=0) (show (["_law_row"]:List Str).Nodup by decide +kernel) rfl (Or.inl rfl) (Or.inr rfl)),zaZ,(zcu (zck (K:=K) rfl) rfl T.list PyProof.Rows.boot_list (pa_cons (pv 0) pa_nil))⟩))
 (zab (zbo PassesOwn.never rfl (zaB (K:=K) rfl (pv 1)) (pg_name (i:=4) zbw.nd rfl (Or.inl rfl) (Or.inl rfl))
 (zab (zam (i:=5) zbw.nd rfl (Or.inl rfl) (zaC G_law_thing (hr.mono (by decide)) rfl zaA (pa_cons (pv 4) (pa_cons zag (pa_cons (pv 0) pa_nil)))))
 (zab (zam (i:=6) zbw.nd rfl (Or.inl rfl) (zaC G_law_thing (hr.mono (by decide)) rfl zaA (pa_cons (pv 4) (pa_cons zag (pa_cons (pv 0) pa_nil)))))
 (zab (zam (i:=7) zbw.nd rfl (Or.inr rfl) (zar zdJ (zaC G_law_thing (hr.mono (by decide)) rfl zaA (pa_cons (pv 4) (pa_cons zag (pa_cons zag pa_nil)))) zag))
 (zab (zbd (pt_cmpR op_ne (pv 5) (pv 6) (nomark _))
 (zab (zgp (zbC rfl (.of (osc:=(zae za7)) (N:=["_law_wide","_law_cells","_law_rows","_law_duals","_law_cell_here","_law_one","_law_two_here","_law_many"]) (own:=["_law_a","_law_b"]) (fvn:=["_law_many"]) (fv:=[7]) rfl rfl (by decide +kernel)) (zcm (K:=K) rfl rfl T.zip (pa_cons (zaR (zao (K:=K) rfl) (pv 2) (pv 6) (λ_ _=>rfl)) (pa_cons (zaR (zao (K:=K) rfl) (pv 2) (pv 5) (λ_ _=>rfl)) pa_nil))) (λ_ _ _ _ _=>⟨(zbg (K:=K) (n:=2) rfl rfl (zav (pg_name (i:=0) (show (["_law_a","_law_b","_law_many"]:List Str).Nodup by decide +kernel) rfl (Or.inl rfl) (Or.inr rfl)) (zav (pg_name (i:=1) (show (["_law_a","_law_b","_law_many"]:List Str).Nodup by decide +kernel) rfl (Or.inl rfl) (Or.inr rfl)) zb1))),zaZ,(zar zca (pv 0) (zar zaS (pv 2) (pv 1)))⟩)) (zht (pv 2) (pv 6) set_list))
 (zab (zgp (zbC rfl (.of (osc:=(zae za7)) (N:=["_law_wide","_law_cells","_law_rows","_law_duals","_law_cell_here","_law_one","_law_two_here","_law_many"]) (own:=["_law_a","_law_b"]) (fvn:=["_law_many"]) (fv:=[7]) rfl rfl (by decide +kernel)) (zcm (K:=K) rfl rfl T.zip (pa_cons (zaR (zao (K:=K) rfl) (pv 3) (pv 5) (λ_ _=>rfl)) (pa_cons (zaR (zao (K:=K) rfl) (pv 3) (pv 6) (λ_ _=>rfl)) pa_nil))) (λ_ _ _ _ _=>⟨(zbg (K:=K) (n:=2) rfl rfl (zav (pg_name (i:=0) (show (["_law_a","_law_b","_law_many"]:List Str).Nodup by decide +kernel) rfl (Or.inl rfl) (Or.inr rfl)) (zav (pg_name (i:=1) (show (["_law_a","_law_b","_law_many"]:List Str).Nodup by decide +kernel) rfl (Or.inl rfl) (Or.inr rfl)) zb1))),zaZ,(zar zdJ (pv 0) (zar zaS (pv 2) (pv 1)))⟩)) (zht (pv 3) (pv 5) set_list))
 zad))
 zad)
 zad)))))
 (zab (zaw (zgR (pa_cons (pv 2) (pa_cons (pv 3) pa_nil))))
 zad)))),.inl ?_⟩
 show L2.Run _ ([.va false (dI P0),.va false (dQ K (List.map dI P1)),.no,.no,.no,.no,.no,.no]:L2.Ctx) _ ((λ(r:((List (List Int))×(List (List Int))))=>Oc.rt true (dT [dL (List.map lI r.1),dL (List.map lI r.2)])) (m_law_frame P0 P1))
 unfold m_law_frame
 exact (run_letO (m:=true) (x:=(List.map (λ(x115:Int)=>(List.map (λ(x118:Int)=>(if (decide (x118=x115)) then 1 else 0)) (za5 0 P0.toNat))) (za5 0 P0.toNat))) (λz=>List.map lI z) (λ(r:((List (List Int))×(List (List Int))))=>Oc.rt true (dT [dL (List.map lI r.1),dL (List.map lI r.2)])) (EvO.conv (zbJ (g:=(λ(x115:Int)=>dL (List.map dI (List.map (λ(x118:Int)=>(if (decide (x118=x115)) then 1 else 0)) (za5 0 P0.toNat))))) (zdj (m:=true) (n:=P0) (Ev.any (m:=false) (zaa (i:=0) rfl)) (by refine ⟨?_,?_⟩<;>omega)) (by exact zat (by rw [zaH];omega)) ⟨by decide,by decide⟩ (λi116 x115 hx117=>have v117:=zbq hx117;(EvO.ev (EvO.conv (zbJ (g:=(λ(x118:Int)=>dI (if (decide (x118=x115)) then 1 else 0))) (zdj (m:=true) (n:=P0) (Ev.any (m:=false) (zaa (i:=1) rfl)) (by refine ⟨?_,?_⟩<;>omega)) (by exact zat (by rw [zaH];omega)) ⟨by decide,by decide⟩ (λi119 x118 hx120=>have v120:=zbq hx120;(ziO (b:=(decide (x118=x115))) (zac (zcN (x:=x118) (y:=x115) (Ev.any (m:=true) (zaa (i:=0) rfl)) (Ev.any (m:=true) (zaa (i:=1) rfl))) zaf)))) (by first | (rw [List.map_map];rfl) | (simp only [cond_true,cond_false];rw [List.map_map];rfl)))))) (by first | (rw [List.map_map];rfl) | (simp only [cond_true,cond_false];rw [List.map_map];rfl))) (λv121 hv121 =>
 have hA:=hv121;(run_letO (m:=true) (x:=(List.map (λ(x122:(List Int))=>x122) v121)) (λz=>List.map lI z) (λ(r:((List (List Int))×(List (List Int))))=>Oc.rt true (dT [dL (List.map lI r.1),dL (List.map lI r.2)])) (zls.evo (zls.borrowO (i:=2) rfl (zlX (EvO.conv (zbJ (g:=(λ(x122:(List Int))=>dL (List.map dI x122))) (zaX (m:=false) lI (xs:=v121) (Ev.weak (K:=K) (zaa (i:=2) rfl))) (by exact zat (by rw [hA,List.length_map,zaH];omega)) ⟨by decide,by decide⟩ (λi123 x122 hx124=>have v124:=List.mem_of_getElem? hx124;(EvO.ev (EvO.anyI (m:=false) (zer (Ev.weak (K:=K) (zaa (i:=0) rfl))))))) (by first | (rw [List.map_map];rfl) | (simp only [cond_true,cond_false];rw [List.map_map];rfl)))))) (λv125 hv125 =>
 have hF:=zkX hW hA hv125;(zbT (s0:=(v121,v125)) (λ(s126:(List (List Int))×(List (List Int)))=>([.va false (dI P0),.va false (dQ K (List.map dI P1)),.ow true (List.map lI s126.1),.ow true (List.map lI s126.2),.no,.no,.no,.no]:L2.Ctx)) (λ(r:((List (List Int))×(List (List Int))))=>Oc.rt true (dT [dL (List.map lI r.1),dL (List.map lI r.2)])) (λ(s126:(List (List Int))×(List (List Int))) (x127:Int)=>(Let (m_law_thing x127 (1:Int) P0) (λ(v131:Int) =>
 (Let (m_law_thing x127 (2:Int) P0) (λ(v132:Int) =>
 (Let ((m_law_thing x127 (3:Int) (5:Int))-(2:Int)) (λ(v133:Int) =>
 (Let (bif (!decide (v131=v132)) then (setZ s126.1 v132 (List.map (λ(x135:(Int×Int))=>(x135.1+(v133*x135.2))) (List.zip (ixD s126.1 v132) (ixD s126.1 v131)))) else s126.1) (λ(v141:(List (List Int))) =>
 (Let (bif (!decide (v131=v132)) then (setZ s126.2 v131 (List.map (λ(x138:(Int×Int))=>(x138.1-(v133*x138.2))) (List.zip (ixD s126.2 v131) (ixD s126.2 v132)))) else s126.2) (λ(v142:(List (List Int))) =>
 (v141,v142)))))))))))) (λ(i:Nat) (s126:(List (List Int))×(List (List Int)))=>FrI W s126) (zaX (m:=false) dI (xs:=P1) (zaa (i:=1) rfl)) (.eq (.eq (.eq (.eq (.eq (.eq (.eq (.eq .nil)))))))) (by exact hF) (λi128 x127 s126 hx129 hI130=>have v129:=List.mem_of_getElem? hx129;⟨(by exact zlB (by assumption) (zcQ hW hp.1 rfl) (zcQ hW hp.1 rfl)),
 (zaq (m:=true) (x:=(m_law_thing x127 (1:Int) P0)) dI (λz=>Oc.nx ((λ(s126:(List (List Int))×(List (List Int)))=>([.va false (dI P0),.va false (dQ K (List.map dI P1)),.ow true (List.map lI s126.1),.ow true (List.map lI s126.2),.no,.no,.no,.no]:L2.Ctx)) z)) (Ev.any (m:=true) (zal (x:=(x127,(1:Int),P0)) (zac (Ev.any (m:=false) (zaa (i:=4) rfl)) (zac zaz (zac (Ev.any (m:=false) (zaa (i:=0) rfl)) zaf))) rfl (by show zaI x127 (1:Int) P0;refine ⟨by omega,by omega,by omega⟩) rfl)) (λv131 hv131 =>
 have hO:=zcQ hW hp.1 hv131;(zaq (m:=true) (x:=(m_law_thing x127 (2:Int) P0)) dI (λz=>Oc.nx ((λ(s126:(List (List Int))×(List (List Int)))=>([.va false (dI P0),.va false (dQ K (List.map dI P1)),.ow true (List.map lI s126.1),.ow true (List.map lI s126.2),.no,.no,.no,.no]:L2.Ctx)) z)) (Ev.any (m:=true) (zal (x:=(x127,(2:Int),P0)) (zac (Ev.any (m:=false) (zaa (i:=4) rfl)) (zac zaz (zac (Ev.any (m:=false) (zaa (i:=0) rfl)) zaf))) rfl (by show zaI x127 (2:Int) P0;refine ⟨by omega,by omega,by omega⟩) rfl)) (λv132 hv132 =>
 have hT:=zcQ hW hp.1 hv132;(zaq (m:=true) (x:=((m_law_thing x127 (3:Int) (5:Int))-(2:Int))) dI (λz=>Oc.nx ((λ(s126:(List (List Int))×(List (List Int)))=>([.va false (dI P0),.va false (dQ K (List.map dI P1)),.ow true (List.map lI s126.1),.ow true (List.map lI s126.2),.no,.no,.no,.no]:L2.Ctx)) z)) (zaD (x:=(m_law_thing x127 (3:Int) (5:Int))) (y:=(2:Int)) (Ev.any (m:=true) (zal (x:=(x127,(3:Int),(5:Int))) (zac (Ev.any (m:=false) (zaa (i:=4) rfl)) (zac zaz (zac zaz zaf))) rfl (by show zaI x127 (3:Int) (5:Int);refine ⟨by omega,by omega,by omega⟩) rfl)) zaz) (λv133 hv133 =>
 have hM:=zhs hv133;(zbR (b:=(!decide (v131=v132))) (λbb=>([.va false (dI P0),.va false (dQ K (List.map dI P1)),.ow true (List.map lI (bif bb then (setZ s126.1 v132 (List.map (λ(x135:(Int×Int))=>(x135.1+(v133*x135.2))) (List.zip (ixD s126.1 v132) (ixD s126.1 v131)))) else s126.1)),.ow true (List.map lI (bif bb then (setZ s126.2 v131 (List.map (λ(x138:(Int×Int))=>(x138.1-(v133*x138.2))) (List.zip (ixD s126.2 v131) (ixD s126.2 v132)))) else s126.2)),.va false (dI x127),.va true (dI v131),.va true (dI v132),.va true (dI v133)]:L2.Ctx)) (zan (zcO (x:=v131) (y:=v132) (Ev.any (m:=true) (zaa (i:=5) rfl)) (Ev.any (m:=true) (zaa (i:=6) rfl)))) (λh134=>(zew (f:=lI) (xs:=s126.1) (x:=(List.map (λ(x135:(Int×Int))=>(x135.1+(v133*x135.2))) (List.zip (ixD s126.1 v132) (ixD s126.1 v131)))) rfl (EvO.ev (EvO.conv (zbJ (g:=(λ(x135:(Int×Int))=>dI (x135.1+(v133*x135.2)))) (zdI (m:=true) dI dI (xs:=(ixD s126.1 v132)) (ys:=(ixD s126.1 v131)) (Ev.weak (K:=K) (zbi (f:=lI) (xs:=s126.1) rfl (Ev.any (m:=true) (zaa (i:=6) rfl)) (by exact sq_ix ((by assumption):FrI W _).1 hT.1 hT.2))) (Ev.weak (K:=K) (zbi (f:=lI) (xs:=s126.1) rfl (Ev.any (m:=true) (zaa (i:=5) rfl)) (by exact sq_ix ((by assumption):FrI W _).1 hO.1 hO.2)))) (by exact zlF (by assumption) hT (by omega)) ⟨by decide,by decide⟩ (λi136 x135 hx137=>have v137:=za6 hx137;(zaD (x:=x135.1) (y:=(v133*x135.2)) (Ev.any (m:=true) (zaa (i:=0) rfl)) (zas (x:=v133) (y:=x135.2) (Ev.any (m:=true) (zaa (i:=2) rfl)) (Ev.any (m:=true) (zaa (i:=1) rfl)) (by exact .inl ⟨by omega,by omega⟩))))) (by first | (rw [List.map_map];rfl) | (simp only [cond_true,cond_false];rw [List.map_map];rfl)))) (Ev.any (m:=true) (zaa (i:=6) rfl)) (by exact sq_ix ((by assumption):FrI W _).1 hT.1 hT.2)
 (zew (f:=lI) (xs:=s126.2) (x:=(List.map (λ(x138:(Int×Int))=>(x138.1-(v133*x138.2))) (List.zip (ixD s126.2 v131) (ixD s126.2 v132)))) rfl (EvO.ev (EvO.conv (zbJ (g:=(λ(x138:(Int×Int))=>dI (x138.1-(v133*x138.2)))) (zdI (m:=true) dI dI (xs:=(ixD s126.2 v131)) (ys:=(ixD s126.2 v132)) (Ev.weak (K:=K) (zbi (f:=lI) (xs:=s126.2) rfl (Ev.any (m:=true) (zaa (i:=5) rfl)) (by exact sq_ix ((by assumption):FrI W _).2 hO.1 hO.2))) (Ev.weak (K:=K) (zbi (f:=lI) (xs:=s126.2) rfl (Ev.any (m:=true) (zaa (i:=6) rfl)) (by exact sq_ix ((by assumption):FrI W _).2 hT.1 hT.2)))) (by exact zlV (by assumption) hO (by omega)) ⟨by decide,by decide⟩ (λi139 x138 hx140=>have v140:=za6 hx140;(zaD (x:=x138.1) (y:=(v133*x138.2)) (Ev.any (m:=true) (zaa (i:=0) rfl)) (zas (x:=v133) (y:=x138.2) (Ev.any (m:=true) (zaa (i:=2) rfl)) (Ev.any (m:=true) (zaa (i:=1) rfl)) (by exact .inl ⟨by omega,by omega⟩))))) (by first | (rw [List.map_map];rfl) | (simp only [cond_true,cond_false];rw [List.map_map];rfl)))) (Ev.any (m:=true) (zaa (i:=5) rfl)) (by exact sq_ix ((by assumption):FrI W _).2 hO.1 hO.2)
 (zak (.eq (.eq (.eq (.eq (.eq (.eq (.eq (.eq .nil)))))))))))) (λh134=>(zak (.eq (.eq (.eq (.eq (.eq (.eq (.eq (.eq .nil))))))))))
 (zbv (x:=(bif (!decide (v131=v132)) then (setZ s126.1 v132 (List.map (λ(x135:(Int×Int))=>(x135.1+(v133*x135.2))) (List.zip (ixD s126.1 v132) (ixD s126.1 v131)))) else s126.1)) (λv141=>([.va false (dI P0),.va false (dQ K (List.map dI P1)),.ow true (List.map lI v141),.ow true (List.map lI (bif (!decide (v131=v132)) then (setZ s126.2 v131 (List.map (λ(x138:(Int×Int))=>(x138.1-(v133*x138.2))) (List.zip (ixD s126.2 v131) (ixD s126.2 v132)))) else s126.2)),.va false (dI x127),.va true (dI v131),.va true (dI v132),.va true (dI v133)]:L2.Ctx)) (λz=>Oc.nx ((λ(s126:(List (List Int))×(List (List Int)))=>([.va false (dI P0),.va false (dQ K (List.map dI P1)),.ow true (List.map lI s126.1),.ow true (List.map lI s126.2),.no,.no,.no,.no]:L2.Ctx)) z)) (λv141 hv141 =>
 have hR1:=hv141;(zbv (x:=(bif (!decide (v131=v132)) then (setZ s126.2 v131 (List.map (λ(x138:(Int×Int))=>(x138.1-(v133*x138.2))) (List.zip (ixD s126.2 v131) (ixD s126.2 v132)))) else s126.2)) (λv142=>([.va false (dI P0),.va false (dQ K (List.map dI P1)),.ow true (List.map lI v141),.ow true (List.map lI v142),.va false (dI x127),.va true (dI v131),.va true (dI v132),.va true (dI v133)]:L2.Ctx)) (λz=>Oc.nx ((λ(s126:(List (List Int))×(List (List Int)))=>([.va false (dI P0),.va false (dQ K (List.map dI P1)),.ow true (List.map lI s126.1),.ow true (List.map lI s126.2),.no,.no,.no,.no]:L2.Ctx)) z)) (λv142 hv142 =>
 (zak (.eq (.eq (.eq (.eq (.no (.no (.no (.no .nil))))))))))))))))))))⟩) (λr143 hr143 hI =>
 (zc7 (i:=2) rfl (zc7 (i:=3) rfl (zah (zap (zgT (zac (zaa (i:=2) rfl) (zac (zaa (i:=3) rfl) zaf)) (by show 2≤sizeLine;decide))))))))))))
def m_law_bottoms (P0:Int) (P1:Int) (P2:Int):(List Int) :=
 (Let (List.foldl (λ(s144:(List Int)) (x145:Int)=>(Let (m_law_thing P1 (P2+x145) (7:Int)) (λ(v149:Int) =>
 (Let (ixD [(0:Int),(1:Int),(2:Int),(3:Int),(6:Int),(0:Int),(4:Int)] v149) (λ(v150:Int) =>
 (Let (bif ((decide (v149=(6:Int)))&&(decide ((P1%(2:Int))=(1:Int)))) then ((2:Int)+(m_law_thing P1 ((P2+(20:Int))+x145) ((10:Int)^(9:Int).toNat))) else v150) (λ(v152:Int) =>
 (s144++[v152])))))))) [] (za5 0 P0.toNat)) (λ(r153:(List Int)) =>
 r153))
def zby (P0:Int) (P1:Int) (P2:Int):Prop:=0≤P0∧P0≤8∧0≤P2∧P2≤100
def zcX (K:W.Frag) (A:Adr):Sp:=Spv (ι:=Int×Int×Int) (λx=>[dI x.1,dI x.2.1,dI x.2.2]) (λx=>zby x.1 x.2.1 x.2.2) (λx=>.ow true (List.map dI (m_law_bottoms x.1 x.2.1 x.2.2)))
theorem zbl:FnScope ["_law_wide","_law_cell_here","_law_far","_law_found","_law_k","_law_way","_law_number"] ["_law_wide","_law_cell_here","_law_far"] (zae zbI):=⟨rfl,rfl,rfl,by decide +kernel,rfl,by decide +kernel,by decide +kernel⟩
theorem zfp (F:Fun K "_law_bottoms" "_law_bottoms" zbI f fd) (T:Txt K mg A) (G_law_thing:Callee P w K mg base (CXE P w) 1 "_law_thing" ["_law_cell_here","_law_k","_law_many"] (zct K A)):FnOk P w K mg base (CXE P w) 2 f fd ["_law_wide","_law_cell_here","_law_far"] (zcX K A):=by
 refine F.okV zbl (λ_=>rfl) (λcdv Ar outer s H E x hr hp=>?_)
 obtain ⟨P0,P1,P2⟩:=x
 have hu:=hr.units
 replace hp:zby P0 P1 P2:=hp
 unfold zby at hp
 refine ⟨_,(zab (zam (i:=3) zbl.nd rfl (Or.inl rfl) (zcP pa_nil))
 (zab (zbo PassesOwn.never rfl (zb8 rfl T.range (pa_cons (pv 0) pa_nil)) (pg_name (i:=4) zbl.nd rfl (Or.inl rfl) (Or.inl rfl))
 (zab (zam (i:=5) zbl.nd rfl (Or.inl rfl) (zaC G_law_thing (hr.mono (by decide)) rfl zaA (pa_cons (pv 1) (pa_cons (zar zca (pv 2) (pv 4)) (pa_cons zag pa_nil)))))
 (zab (zam (i:=6) zbl.nd rfl (Or.inl rfl) (zaR (zao (K:=K) rfl) (zcP (pa_cons zag (pa_cons zag (pa_cons zag (pa_cons zag (pa_cons zag (pa_cons zag (pa_cons zag pa_nil)))))))) (pv 5) (λ_ _=>rfl)))
 (zab (zbd (PW.pt (zgJ (pt_cmpR zd8 (pv 5) zag (nomark _)) (zeN (pt_cmpR zd8 (zar zbN (pv 1) zag) zag (nomark _)))))
 (zab (zam (i:=6) zbl.nd rfl (Or.inl rfl) (zar zca zag (zaC G_law_thing (hr.mono (by decide)) rfl zaA (pa_cons (pv 1) (pa_cons (zar zca (zar zca (pv 2) zag) (pv 4)) (pa_cons (zar zmH zag zag) pa_nil))))))
 zad)
 zad)
 (zab (zcT (zbY (K:=K) rfl (pv 3) (pa_cons (pv 6) pa_nil)))
 zad)))))
 (zab (zaw (pv 3))
 zad))),.inl ?_⟩
 show L2.Run _ ([.va false (dI P0),.va false (dI P1),.va false (dI P2),.no,.no,.no,.no]:L2.Ctx) _ ((λr=>Oc.rl true (List.map dI r)) (m_law_bottoms P0 P1 P2))
 unfold m_law_bottoms
 exact (run_setO (m:=true) (ds:=List.map dI []) (zc2 (m:=true) zaf)
 (zbT (s0:=[]) (λ(s144:(List Int))=>([.va false (dI P0),.va false (dI P1),.va false (dI P2),.ow true (List.map dI s144),.no,.no,.no]:L2.Ctx)) (λr=>Oc.rl true (List.map dI r)) (λ(s144:(List Int)) (x145:Int)=>(Let (m_law_thing P1 (P2+x145) (7:Int)) (λ(v149:Int) =>
 (Let (ixD [(0:Int),(1:Int),(2:Int),(3:Int),(6:Int),(0:Int),(4:Int)] v149) (λ(v150:Int) =>
 (Let (bif ((decide (v149=(6:Int)))&&(decide ((P1%(2:Int))=(1:Int)))) then ((2:Int)+(m_law_thing P1 ((P2+(20:Int))+x145) ((10:Int)^(9:Int).toNat))) else v150) (λ(v152:Int) =>
 (s144++[v152])))))))) (λ(i:Nat) (s144:(List Int))=>s144.length≤i) (zdj (m:=true) (n:=P0) (Ev.any (m:=false) (zaa (i:=0) rfl)) (by refine ⟨?_,?_⟩<;>omega)) (.eq (.eq (.eq (.eq (.eq (.eq (.eq .nil))))))) (by exact Nat.le_refl 0) (λi146 x145 s144 hx147 hI148=>have v147:=zbq hx147;⟨(by exact zjZ (by assumption)),
 (zaq (m:=true) (x:=(m_law_thing P1 (P2+x145) (7:Int))) dI (λz=>Oc.nx ((λ(s144:(List Int))=>([.va false (dI P0),.va false (dI P1),.va false (dI P2),.ow true (List.map dI s144),.no,.no,.no]:L2.Ctx)) z)) (Ev.any (m:=true) (zal (x:=(P1,(P2+x145),(7:Int))) (zac (Ev.any (m:=false) (zaa (i:=1) rfl)) (zac (zaD (x:=P2) (y:=x145) (Ev.any (m:=false) (zaa (i:=2) rfl)) (Ev.any (m:=true) (zaa (i:=4) rfl))) (zac zaz zaf))) rfl (by show zaI P1 (P2+x145) (7:Int);refine ⟨by omega,by omega,by first | decide | omega⟩) rfl)) (λv149 hv149 =>
 have hY:=zmy hv149;(zaq (m:=true) (x:=(ixD [(0:Int),(1:Int),(2:Int),(3:Int),(6:Int),(0:Int),(4:Int)] v149)) dI (λz=>Oc.nx ((λ(s144:(List Int))=>([.va false (dI P0),.va false (dI P1),.va false (dI P2),.ow true (List.map dI s144),.no,.no,.no]:L2.Ctx)) z)) (zbB (f:=dI) (xs:=[(0:Int),(1:Int),(2:Int),(3:Int),(6:Int),(0:Int),(4:Int)]) (Ev.weak (K:=K) (EvO.ev (zdX (zac zaz (zac zaz (zac zaz (zac zaz (zac zaz (zac zaz (zac zaz zaf))))))) (by show 7≤sizeLine;decide)))) (Ev.any (m:=true) (zaa (i:=5) rfl)) (by exact hY)) (λv150 hv150 =>
 (zbR (b:=((decide (v149=(6:Int)))&&(decide ((P1%(2:Int))=(1:Int))))) (λbb=>([.va false (dI P0),.va false (dI P1),.va false (dI P2),.ow true (List.map dI s144),.va true (dI x145),.va true (dI v149),.va true (dI (bif bb then ((2:Int)+(m_law_thing P1 ((P2+(20:Int))+x145) ((10:Int)^(9:Int).toNat))) else v150))]:L2.Ctx)) (zfd (b:=(decide (v149=(6:Int)))) (zan (zcN (x:=v149) (y:=(6:Int)) (Ev.any (m:=true) (zaa (i:=5) rfl)) zaz)) (λhb=>(zan (zcN (x:=(P1%(2:Int))) (y:=(1:Int)) (zas (x:=P1) (y:=(2:Int)) (Ev.any (m:=false) (zaa (i:=1) rfl)) zaz (by decide)) zaz)))) (λh151=>(zaK (m:=true) (zaD (x:=(2:Int)) (y:=(m_law_thing P1 ((P2+(20:Int))+x145) ((10:Int)^(9:Int).toNat))) zaz (Ev.any (m:=true) (zal (x:=(P1,((P2+(20:Int))+x145),((10:Int)^(9:Int).toNat))) (zac (Ev.any (m:=false) (zaa (i:=1) rfl)) (zac (zaD (x:=(P2+(20:Int))) (y:=x145) (zaD (x:=P2) (y:=(20:Int)) (Ev.any (m:=false) (zaa (i:=2) rfl)) zaz) (Ev.any (m:=true) (zaa (i:=4) rfl))) (zac (zas (x:=(10:Int)) (y:=(9:Int)) zaz zaz (by exact ⟨by decide,by decide,by decide⟩)) zaf))) rfl (by show zaI P1 ((P2+(20:Int))+x145) ((10:Int)^(9:Int).toNat);refine ⟨by omega,by omega,by first | decide | omega⟩) rfl)))
 (zak (.eq (.eq (.eq (.eq (.eq (.eq (.eq .nil)))))))))) (λh151=>(zak (.eq (.eq (.eq (.eq (.eq (.eq (.eq .nil)))))))))
 (zbv (x:=(bif ((decide (v149=(6:Int)))&&(decide ((P1%(2:Int))=(1:Int)))) then ((2:Int)+(m_law_thing P1 ((P2+(20:Int))+x145) ((10:Int)^(9:Int).toNat))) else v150)) (λv152=>([.va false (dI P0),.va false (dI P1),.va false (dI P2),.ow true (List.map dI s144),.va true (dI x145),.va true (dI v149),.va true (dI v152)]:L2.Ctx)) (λz=>Oc.nx ((λ(s144:(List Int))=>([.va false (dI P0),.va false (dI P1),.va false (dI P2),.ow true (List.map dI s144),.no,.no,.no]:L2.Ctx)) z)) (λv152 hv152 =>
 (zb0 (f:=dI) (xs:=s144) (x:=v152) rfl (Ev.any (m:=true) (zaa (i:=6) rfl)) (by exact znv (by assumption) (by assumption) (by omega))
 (zak (.eq (.eq (.eq (.eq (.no (.no (.no .nil))))))))))))))))⟩) (λr153 hr153 hI =>
 (zc1 (zfP (i:=3) rfl)))))
theorem zk8 {w c f:Int} (hw:0≤w):(m_law_bottoms w c f).length=w.toNat∧∀ b∈m_law_bottoms w c f,0≤b∧b≤1000000001:=by
 unfold m_law_bottoms Let
 dsimp only
 rw [Lat.zf3,List.nil_append]
 refine ⟨by rw [List.length_map,zaH],λb hb=>?_⟩
 obtain ⟨x,_,rfl⟩:=List.mem_map.mp hb
 have h7:=zdy (c:=c) (k:=f+x) (m:=7) (by decide)
 generalize m_law_thing c (f+x) 7=y at *
 have e10:(10:Int)^(9:Int).toNat=1000000000:=by decide +kernel
 rw [e10]
 have h9:=zdy (c:=c) (k:=f+20+x) (m:=1000000000) (by decide)
 have key:0≤ixD [(0:Int),(1:Int),(2:Int),(3:Int),(6:Int),(0:Int),(4:Int)] y∧ixD [(0:Int),(1:Int),(2:Int),(3:Int),(6:Int),(0:Int),(4:Int)] y≤6:=by
  have hm:=zdg (xs:=[(0:Int),(1:Int),(2:Int),(3:Int),(6:Int),(0:Int),(4:Int)]) (i:=y) (by show InB 7 y;unfold InB;omega)
  generalize ixD [(0:Int),(1:Int),(2:Int),(3:Int),(6:Int),(0:Int),(4:Int)] y=z at *
  simp at hm
  omega
 cases (decide (y=(6:Int))&&decide (c%(2:Int)=(1:Int)))
 ·rw [cond_false];omega
 ·rw [cond_true];omega
theorem zne {s:List (List Int)} {i w:Nat} {b:Bool} {y:List Int} (h:s.length≤i∧∀ r∈s,r.length=w) (hy:y.length=w):(bif b then (s++[y]) else s).length≤i+1∧∀ r∈(bif b then (s++[y]) else s),r.length=w:=by
 cases b
 ·exact ⟨by show s.length≤_;omega,h.2⟩
 ·refine ⟨by show (s++[y]).length≤_;rw [List.length_append,List.length_singleton];omega,λr hr=>?_⟩
  rcases List.mem_append.mp hr with hr | hr
  ·exact h.2 r hr
  ·rw [List.mem_singleton.mp hr];exact hy
def StP (rows:List (List Int)) (bs:List Int) (idle:Int):Prop:=∃ W:Nat,1≤W∧W≤8∧Sq W W rows∧bs.length=W∧(∀ b∈bs,0≤b∧b≤1000000001)∧0≤idle∧idle≤3
theorem zpz {s rows:List (List Int)} {bs:List Int} {W:Nat} (hI:s.length≤(List.zip rows bs).length∧∀ r∈s,r.length=W) (hq:Sq W W rows) (w8:W≤8):s.length≤8∧∀ r∈s,r.length=W:=by
 refine ⟨?_,hI.2⟩
 have:=hI.1
 rw [List.length_zip] at this
 have:=hq.1
 omega
theorem znm {w:Nat} {rows a ys:List (List Int)} {k idle:Int} (hw:rows.length=w) (h0:0≤idle) (h:a.length≤8∧∀ r∈a,r.length=w) (hk:k=((a.length:Nat):Int)) (e:ys=a++List.map (λ(_:Int)=>repZ ((rows.length:Nat):Int) [(0:Int)]) (za5 0 idle.toNat)):Sq w (k+idle).toNat ys:=by
 subst e
 refine ⟨by rw [List.length_append,List.length_map,zaH];omega,λr hr=>?_⟩
 rcases List.mem_append.mp hr with hr | hr
 ·exact h.2 r hr
 ·obtain ⟨x,_,rfl⟩:=List.mem_map.mp hr
  rw [Lat.zfb];exact hw
theorem zmt {k idle:Int} {ts:List (List Int)} (e:ts=List.map (λ(x:Int)=>List.map (λ(y:Int)=>(if (decide (y=(k+x))) then (1:Int) else 0)) (za5 0 (k+idle).toNat)) (za5 0 idle.toNat)):∀ t∈ts,t.length=(k+idle).toNat:=λt ht=>by
 subst e
 obtain ⟨x,_,rfl⟩:=List.mem_map.mp ht
 rw [List.length_map,zaH]
def StI (w n:Nat) (s:List (List Int)×List (List Int)):Prop:=Sq w n s.1∧∀ t∈s.2,t.length=n
theorem zeA {n:Nat} {w:Nat} {s:List (List Int)} {c k x:Int} (h:Sq w n s) (e:x=m_law_thing c k (max (1:Int) ((s.length:Nat):Int))):0≤x∧(x<(n:Int)∨x=0):=by
 subst e;have:=zdy (c:=c) (k:=k) (m:=max (1:Int) ((s.length:Nat):Int)) (by omega);rw [h.1] at this ⊢;omega
theorem zeq {n:Nat} {x y:Int} (hx:0≤x∧(x<(n:Int)∨x=0)) (hy:0≤y∧(y<(n:Int)∨y=0)) (h:(!decide (x=y))=true):(0≤x∧x<(n:Int))∧0≤y∧y<(n:Int):=by
 have:x≠y:=by simpa using h
 omega
theorem zlR {n:Nat} {ns:List Int} {x:Int} (h:ns.length=n) (hx:0≤x∧x<(n:Int)):InB ns.length x:=by unfold InB;omega
theorem zlH {w n:Nat} {s:List (List Int)×List (List Int)} {x y q:Int} (h:StI w n s) (hx:0≤x∧(x<(n:Int)∨x=0)) (hy:0≤y∧(y<(n:Int)∨y=0)) :
  StI w n (bif (!decide (x=y)) then (setZ s.1 y (List.map (λ(z:Int×Int)=>(z.1+(q*z.2))) (List.zip (ixD s.1 y) (ixD s.1 x)))) else s.1,bif (!decide (x=y)) then (List.map (λ(ns:List Int)=>setZ ns x (ixD ns x-(q*ixD ns y))) s.2) else s.2):=by
 by_cases e:x=y
 ·rw [decide_eq_true e];exact h
 ·rw [decide_eq_false e]
  have hl:=zeq hx hy (by simp [e])
  refine ⟨zjd h.1 (sq_zip h.1 h.1 hl.2 hl.1),λt ht=>?_⟩
  obtain ⟨z,hz,rfl⟩:=List.mem_map.mp ht
  rw [zd2];exact h.2 z hz
theorem zoU {w n:Nat} {s:List (List Int)} {x y:Int} (h:Sq w n s) (hx:0≤x∧x<(n:Int)) (hw:w≤8):(List.zip (ixD s x) (ixD s y)).length≤PySem.sizeLine:=zjQ (ys:=s) (m:=0) h hx (by omega)
theorem znE {W:Nat} {rows:List (List Int)} {r:List Int} (h:Sq W W rows) (hm:r∈rows) (hw:W≤8):r.length≤PySem.sizeLine:=zat (by have:=h.2 r hm;omega)
theorem zo0 {W:Nat} {rows:List (List Int)} {bs:List Int} {i:Nat} {p:List Int×Int} (h:Sq W W rows) (hx:rows[i]?=some p.1∧bs[i]?=some p.2):i<W:=by have:=(List.getElem?_eq_some_iff.mp hx.1).1;rw [h.1] at this;exact this
def m_law_stirred (P0:(List (List Int))) (P1:(List Int)) (P2:Int) (P3:(List Int)):((List (List Int))×(List (List Int))) :=
 (Let (List.foldl (λ(s154:(List (List Int))) (x155:((List Int)×Int))=>(Let (bif (decide ((0:Int)<x155.2)) then (s154++[(List.map (λ(x160:Int)=>(x155.2*x160)) x155.1)]) else s154) (λ(v163:(List (List Int))) =>
 v163))) [] (List.zip P0 P1)) (λ(r164:(List (List Int))) =>
 (Let ((r164.length:Nat):Int) (λ(v165:Int) =>
 (Let (r164++(List.map (λ(x166:Int)=>(repZ ((P0.length:Nat):Int) [(0:Int)])) (za5 0 P2.toNat))) (λ(v169:(List (List Int))) =>
 (Let (List.map (λ(x170:Int)=>(List.map (λ(x173:Int)=>(if (decide (x173=(v165+x170))) then 1 else 0)) (za5 0 (v165+P2).toNat))) (za5 0 P2.toNat)) (λ(v176:(List (List Int))) =>
 (Let (List.foldl (λ(s177:(List (List Int))×(List (List Int))) (x178:Int)=>(Let (m_law_thing x178 (4:Int) (max (1:Int) ((s177.1.length:Nat):Int))) (λ(v182:Int) =>
 (Let (m_law_thing x178 (5:Int) (max (1:Int) ((s177.1.length:Nat):Int))) (λ(v183:Int) =>
 (Let ((m_law_thing x178 (6:Int) (5:Int))-(2:Int)) (λ(v184:Int) =>
 (Let (bif (!decide (v182=v183)) then (setZ s177.1 v183 (List.map (λ(x186:(Int×Int))=>(x186.1+(v184*x186.2))) (List.zip (ixD s177.1 v183) (ixD s177.1 v182)))) else s177.1) (λ(v190:(List (List Int))) =>
 (Let (bif (!decide (v182=v183)) then (List.map (λ(ns189:List Int)=>setZ ns189 v182 ((ixD ns189 v182)-(v184*(ixD ns189 v183)))) s177.2) else s177.2) (λ(v191:(List (List Int))) =>
 (v190,v191)))))))))))) (v169,v176) P3) (λ(r192:(List (List Int))×(List (List Int))) =>
 (r192.1,r192.2)))))))))))
def zbA (P0:(List (List Int))) (P1:(List Int)) (P2:Int) (P3:(List Int)):Prop:=StP P0 P1 P2
def zcU (K:W.Frag) (A:Adr):Sp:=Spv (ι:=(List (List Int))×(List Int)×Int×(List Int)) (λx=>[dQ K (List.map lI x.1),dQ K (List.map dI x.2.1),dI x.2.2.1,dQ K (List.map dI x.2.2.2)]) (λx=>zbA x.1 x.2.1 x.2.2.1 x.2.2.2) (λx=>.va true (dT [dL (List.map lI ((m_law_stirred x.1 x.2.1 x.2.2.1 x.2.2.2).1)),dL (List.map lI ((m_law_stirred x.1 x.2.1 x.2.2.1 x.2.2.2).2))]))
theorem zaE:FnScope ["_law_rows","_law_bottoms_here","_law_idle","_law_cells","_law_swaps","_law_row","_law_number","_law_kept","_law_trips","_law_cell_here","_law_one","_law_two_here","_law_many","_law_trip"] ["_law_rows","_law_bottoms_here","_law_idle","_law_cells"] (zae zaM):=⟨rfl,rfl,rfl,by decide +kernel,rfl,by decide +kernel,by decide +kernel⟩
theorem zfu (F:Fun K "_law_stirred" "_law_stirred" zaM f fd) (T:Txt K mg A) (G_law_thing:Callee P w K mg base (CXE P w) 1 "_law_thing" ["_law_cell_here","_law_k","_law_many"] (zct K A)):FnOk P w K mg base (CXE P w) 2 f fd ["_law_rows","_law_bottoms_here","_law_idle","_law_cells"] (zcU K A):=by
 refine F.okV zaE (λ_=>rfl) (λcdv Ar outer s H E x hr hp=>?_)
 obtain ⟨P0,P1,P2,P3⟩:=x
 have hu:=hr.units
 replace hp:zbA P0 P1 P2 P3:=hp
 unfold zbA at hp
 obtain ⟨W,w1,w8,hq,hb,hbb,hi0,hi3⟩:=hp
 refine ⟨_,(zab (zam (i:=4) zaE.nd rfl (Or.inl rfl) (zcP pa_nil))
 (zab (zbo PassesOwn.never rfl (zcm (K:=K) rfl rfl T.zip (pa_cons (pv 0) (pa_cons (pv 1) pa_nil))) (zbg (K:=K) (n:=2) rfl rfl (zav (pg_name (i:=5) zaE.nd rfl (Or.inl rfl) (Or.inl rfl)) (zav (pg_name (i:=6) zaE.nd rfl (Or.inr rfl) (Or.inl rfl)) zb1)))
 (zab (zbd (pt_cmpR zgn (pv 6) zag (nomark _))
 (zab (zcT (zbY (K:=K) rfl (pv 4) (pa_cons (zbC rfl (.of (osc:=(zae zaM)) (N:=["_law_rows","_law_bottoms_here","_law_idle","_law_cells","_law_swaps","_law_row","_law_number","_law_kept","_law_trips","_law_cell_here","_law_one","_law_two_here","_law_many","_law_trip"]) (own:=["_law_entry"]) (fvn:=["_law_number"]) (fv:=[6]) rfl rfl (by decide +kernel)) (zaB (K:=K) rfl (pv 5)) (λ_ _ _ _ _=>⟨(pg_name (i:=0) (show (["_law_entry","_law_number"]:List Str).Nodup by decide +kernel) rfl (Or.inl rfl) (Or.inr rfl)),zaZ,(zar zaS (pv 1) (pv 0))⟩)) pa_nil)))
 zad)
 zad)
 zad))
 (zab (zam (i:=7) zaE.nd rfl (Or.inr rfl) (pe_callB (call_len_K (K:=K) rfl) rfl T.len PySem.boot_len (pa_cons (pv 4) pa_nil)))
 (zab (zam (i:=4) zaE.nd rfl (Or.inl rfl) (zar zfg (pv 4) (zbC rfl (.of (osc:=(zae zaM)) (N:=["_law_rows","_law_bottoms_here","_law_idle","_law_cells","_law_swaps","_law_row","_law_number","_law_kept","_law_trips","_law_cell_here","_law_one","_law_two_here","_law_many","_law_trip"]) (own:=["_law_k"]) (fvn:=["_law_rows"]) (fv:=[0]) rfl rfl (by decide +kernel)) (zb8 rfl T.range (pa_cons (pv 2) pa_nil)) (λ_ _ _ _ _=>⟨(pg_name (i:=0) (show (["_law_k","_law_rows"]:List Str).Nodup by decide +kernel) rfl (Or.inl rfl) (Or.inr rfl)),zaZ,(zar zk2 (zcP (pa_cons zag pa_nil)) (pe_callB (call_len_K (K:=K) rfl) rfl T.len PySem.boot_len (pa_cons (pv 1) pa_nil)))⟩))))
 (zab (zdR (i:=8) rfl zaE.nd rfl rfl (.of (osc:=(zae zaM)) (N:=["_law_rows","_law_bottoms_here","_law_idle","_law_cells","_law_swaps","_law_row","_law_number","_law_kept","_law_trips","_law_cell_here","_law_one","_law_two_here","_law_many","_law_trip"]) (own:=["_law_k"]) (fvn:=["_law_kept","_law_idle"]) (fv:=[7,2]) rfl rfl (by decide +kernel)) (zb8 rfl T.range (pa_cons (pv 2) pa_nil)) (λ_ _ _ _ _=>⟨(pg_name (i:=0) (show (["_law_k","_law_kept","_law_idle"]:List Str).Nodup by decide +kernel) rfl (Or.inr rfl) (Or.inl rfl)),zaZ,(zbC rfl (.of (osc:=({ kind:=.function,names:=[(".0",.local),("_law_k",.cell),("range",.globalImplicit),("_law_idle",.cell),("_law_kept",.cell)],isGenerator:=false,isCoroutine:=false }:Scope)) (N:=["_law_k","_law_kept","_law_idle"]) (own:=["_law_j"]) (fvn:=["_law_kept","_law_k"]) (fv:=[1,0]) rfl rfl (by decide +kernel)) (zb8 rfl T.range (pa_cons (zar zca (pv 1) (pv 2)) pa_nil)) (λ_ _ _ _ _=>⟨(pg_name (i:=0) (show (["_law_j","_law_kept","_law_k"]:List Str).Nodup by decide +kernel) rfl (Or.inl rfl) (Or.inr rfl)),zaZ,(zcu zgC rfl T.int (by decide +kernel) (pa_cons (zfZ zd8 (pv 0) (zar zca (pv 1) (pv 2)) (nomark _)) pa_nil))⟩))⟩))
 (zab (zbo PassesOwn.never rfl (zaB (K:=K) rfl (pv 3)) (pg_name (i:=9) zaE.nd rfl (Or.inl rfl) (Or.inl rfl))
 (zab (zam (i:=10) zaE.nd rfl (Or.inl rfl) (zaC G_law_thing (hr.mono (by decide)) rfl zaA (pa_cons (pv 9) (pa_cons zag (pa_cons (pe_callB (zeX rfl) rfl T.max PyProof.Rows.boot_max (pa_cons zag (pa_cons (pe_callB (call_len_K (K:=K) rfl) rfl T.len PySem.boot_len (pa_cons (pv 4) pa_nil)) pa_nil))) pa_nil)))))
 (zab (zam (i:=11) zaE.nd rfl (Or.inl rfl) (zaC G_law_thing (hr.mono (by decide)) rfl zaA (pa_cons (pv 9) (pa_cons zag (pa_cons (pe_callB (zeX rfl) rfl T.max PyProof.Rows.boot_max (pa_cons zag (pa_cons (pe_callB (call_len_K (K:=K) rfl) rfl T.len PySem.boot_len (pa_cons (pv 4) pa_nil)) pa_nil))) pa_nil)))))
 (zab (zam (i:=12) zaE.nd rfl (Or.inr rfl) (zar zdJ (zaC G_law_thing (hr.mono (by decide)) rfl zaA (pa_cons (pv 9) (pa_cons zag (pa_cons zag pa_nil)))) zag))
 (zab (zbd (pt_cmpR op_ne (pv 10) (pv 11) (nomark _))
 (zab (zgp (zbC rfl (.of (osc:=(zae zaM)) (N:=["_law_rows","_law_bottoms_here","_law_idle","_law_cells","_law_swaps","_law_row","_law_number","_law_kept","_law_trips","_law_cell_here","_law_one","_law_two_here","_law_many","_law_trip"]) (own:=["_law_a","_law_b"]) (fvn:=["_law_many"]) (fv:=[12]) rfl rfl (by decide +kernel)) (zcm (K:=K) rfl rfl T.zip (pa_cons (zaR (zao (K:=K) rfl) (pv 4) (pv 11) (λ_ _=>rfl)) (pa_cons (zaR (zao (K:=K) rfl) (pv 4) (pv 10) (λ_ _=>rfl)) pa_nil))) (λ_ _ _ _ _=>⟨(zbg (K:=K) (n:=2) rfl rfl (zav (pg_name (i:=0) (show (["_law_a","_law_b","_law_many"]:List Str).Nodup by decide +kernel) rfl (Or.inl rfl) (Or.inr rfl)) (zav (pg_name (i:=1) (show (["_law_a","_law_b","_law_many"]:List Str).Nodup by decide +kernel) rfl (Or.inl rfl) (Or.inr rfl)) zb1))),zaZ,(zar zca (pv 0) (zar zaS (pv 2) (pv 1)))⟩)) (zht (pv 4) (pv 11) set_list))
 (zab (zbo PassesOwn.never rfl (zaB (K:=K) rfl (pv 8)) (pg_name (i:=13) zaE.nd rfl (Or.inl rfl) (Or.inl rfl))
 (zab (zgp (zar zdJ (zaR (zao (K:=K) rfl) (pv 13) (pv 10) (λ_ _=>rfl)) (zar zaS (pv 12) (zaR (zao (K:=K) rfl) (pv 13) (pv 11) (λ_ _=>rfl)))) (zht (pv 13) (pv 10) set_list)) zad))
 zad))
 zad)
 zad)))))
 (zab (zaw (zgR (pa_cons (pv 4) (pa_cons (pv 8) pa_nil))))
 zad))))))),.inl ?_⟩
 show L2.Run _ ([.va false (dQ K (List.map lI P0)),.va false (dQ K (List.map dI P1)),.va false (dI P2),.va false (dQ K (List.map dI P3)),.no,.no,.no,.no,.no,.no,.no,.no,.no,.no]:L2.Ctx) _ ((λ(r:((List (List Int))×(List (List Int))))=>Oc.rt true (dT [dL (List.map lI r.1),dL (List.map lI r.2)])) (m_law_stirred P0 P1 P2 P3))
 unfold m_law_stirred
 exact (run_setO (m:=true) (ds:=List.map lI []) (zc2 (m:=true) zaf)
 (zbT (s0:=[]) (λ(s154:(List (List Int)))=>([.va false (dQ K (List.map lI P0)),.va false (dQ K (List.map dI P1)),.va false (dI P2),.va false (dQ K (List.map dI P3)),.ow true (List.map lI s154),.no,.no,.no,.no,.no,.no,.no,.no,.no]:L2.Ctx)) (λ(r:((List (List Int))×(List (List Int))))=>Oc.rt true (dT [dL (List.map lI r.1),dL (List.map lI r.2)])) (λ(s154:(List (List Int))) (x155:((List Int)×Int))=>(Let (bif (decide ((0:Int)<x155.2)) then (s154++[(List.map (λ(x160:Int)=>(x155.2*x160)) x155.1)]) else s154) (λ(v163:(List (List Int))) =>
 v163))) (λ(i:Nat) (s154:(List (List Int)))=>s154.length≤i∧∀ r∈s154,r.length=W) (zdI (m:=false) lI dI (xs:=P0) (ys:=P1) (zaa (i:=0) rfl) (zaa (i:=1) rfl)) (.eq (.eq (.eq (.eq (.eq (.eq (.eq (.eq (.eq (.eq (.eq (.eq (.eq (.eq .nil)))))))))))))) (by exact ⟨Nat.le_refl 0,λr hr=>by simp at hr⟩) (λi156 x155 s154 hx157 hI158=>have v157:=za6 hx157;⟨(by exact zne (by assumption) (by rw [List.length_map];exact hq.2 _ (List.mem_of_getElem? ((by assumption):_∧_).1))),
 (zbR (b:=(decide ((0:Int)<x155.2))) (λbb=>([.va false (dQ K (List.map lI P0)),.va false (dQ K (List.map dI P1)),.va false (dI P2),.va false (dQ K (List.map dI P3)),.ow true (List.map lI (bif bb then (s154++[(List.map (λ(x160:Int)=>(x155.2*x160)) x155.1)]) else s154)),.va false (dL (List.map dI x155.1)),.va false (dI x155.2),.no,.no,.no,.no,.no,.no,.no]:L2.Ctx)) (zan (zaD (x:=x155.2) (y:=(0:Int)) (Ev.any (m:=false) (zaa (i:=6) rfl)) zaz)) (λh159=>(zb0 (f:=lI) (xs:=s154) (x:=(List.map (λ(x160:Int)=>(x155.2*x160)) x155.1)) rfl (EvO.ev (EvO.conv (zbJ (g:=(λ(x160:Int)=>dI (x155.2*x160))) (zaX (m:=false) dI (xs:=x155.1) (Ev.weak (K:=K) (zaa (i:=5) rfl))) (by exact znE hq (List.mem_of_getElem? ((by assumption):_∧_).1) w8) ⟨by decide,by decide⟩ (λi161 x160 hx162=>have v162:=List.mem_of_getElem? hx162;(zas (x:=x155.2) (y:=x160) (Ev.any (m:=false) (zaa (i:=1) rfl)) (Ev.any (m:=false) (zaa (i:=0) rfl)) (by have z:=hbb _ (List.mem_of_getElem? ((by assumption):_∧_).2);exact .inl ⟨by omega,by omega⟩)))) (by first | (rw [List.map_map];rfl) | (simp only [cond_true,cond_false];rw [List.map_map];rfl)))) (by have z:=zo0 hq (by assumption);exact Nat.lt_of_le_of_lt (show _≤1000 by omega) (by decide))
 (zak (.eq (.eq (.eq (.eq (.eq (.eq (.eq (.eq (.eq (.eq (.eq (.eq (.eq (.eq .nil))))))))))))))))) (λh159=>(zak (.eq (.eq (.eq (.eq (.eq (.eq (.eq (.eq (.eq (.eq (.eq (.eq (.eq (.eq .nil))))))))))))))))
 (zbv (x:=(bif (decide ((0:Int)<x155.2)) then (s154++[(List.map (λ(x160:Int)=>(x155.2*x160)) x155.1)]) else s154)) (λv163=>([.va false (dQ K (List.map lI P0)),.va false (dQ K (List.map dI P1)),.va false (dI P2),.va false (dQ K (List.map dI P3)),.ow true (List.map lI v163),.va false (dL (List.map dI x155.1)),.va false (dI x155.2),.no,.no,.no,.no,.no,.no,.no]:L2.Ctx)) (λz=>Oc.nx ((λ(s154:(List (List Int)))=>([.va false (dQ K (List.map lI P0)),.va false (dQ K (List.map dI P1)),.va false (dI P2),.va false (dQ K (List.map dI P3)),.ow true (List.map lI s154),.no,.no,.no,.no,.no,.no,.no,.no,.no]:L2.Ctx)) z)) (λv163 hv163 =>
 (zak (.eq (.eq (.eq (.eq (.eq (.no (.no (.eq (.eq (.eq (.eq (.eq (.eq (.eq .nil))))))))))))))))))⟩) (λr164 hr164 hI =>
 (zaq (m:=true) (x:=((r164.length:Nat):Int)) dI (λ(r:((List (List Int))×(List (List Int))))=>Oc.rt true (dT [dL (List.map lI r.1),dL (List.map lI r.2)])) (zeo (f:=lI) (xs:=r164) rfl) (λv165 hv165 =>
 have hL:=zpz hI hq w8;have hK:=hv165;(zc7 (i:=4) rfl (run_letO (m:=true) (x:=(r164++(List.map (λ(x166:Int)=>(repZ ((P0.length:Nat):Int) [(0:Int)])) (za5 0 P2.toNat)))) (λz=>List.map lI z) (λ(r:((List (List Int))×(List (List Int))))=>Oc.rt true (dT [dL (List.map lI r.1),dL (List.map lI r.2)])) (zdM (f:=lI) (xs:=r164) (ys:=(List.map (λ(x166:Int)=>(repZ ((P0.length:Nat):Int) [(0:Int)])) (za5 0 P2.toNat))) (zaa (i:=4) rfl) (EvO.ev (EvO.conv (zbJ (g:=(λ(x166:Int)=>dL (List.map dI (repZ ((P0.length:Nat):Int) [(0:Int)])))) (zdj (m:=true) (n:=P2) (Ev.any (m:=false) (zaa (i:=2) rfl)) (by refine ⟨?_,?_⟩<;>omega)) (by exact zat (by rw [zaH];omega)) ⟨by decide,by decide⟩ (λi167 x166 hx168=>have v168:=zbq hx168;(EvO.ev (zjz (f:=dI) (xs:=[(0:Int)]) (n:=((P0.length:Nat):Int)) (EvO.ev (zdX (zac zaz zaf) (by show 1≤sizeLine;decide))) (zbK (f:=lI) (xs:=P0) (zaa (i:=1) rfl)) (by have z:=hq.1;constructor<;>omega) (by show 1*_≤PySem.sizeLine;have z:=hq.1;exact zat (by omega)))))) (by first | (rw [List.map_map];rfl) | (simp only [cond_true,cond_false];rw [List.map_map];rfl)))) (by exact zat (by rw [List.length_map,zaH];omega))) (λv169 hv169 =>
 have hS:=znm hq.1 hi0 hL hK hv169;(zkl (x:=(List.map (λ(x170:Int)=>(List.map (λ(x173:Int)=>(if (decide (x173=(v165+x170))) then 1 else 0)) (za5 0 (v165+P2).toNat))) (za5 0 P2.toNat))) dRI (λ(r:((List (List Int))×(List (List Int))))=>Oc.rt true (dT [dL (List.map lI r.1),dL (List.map lI r.2)])) (znY (zks (ns:=λ(x170:Int)=>(List.map (λ(x173:Int)=>(if (decide (x173=(v165+x170))) then 1 else 0)) (za5 0 (v165+P2).toNat))) (zdj (m:=true) (n:=P2) (Ev.any (m:=false) (zaa (i:=2) rfl)) (by refine ⟨?_,?_⟩<;>omega)) (by exact zat (by rw [zaH];omega)) ⟨by decide,by decide⟩ (λi171 x170 hx172=>have v172:=zbq hx172;(EvO.conv (zbJ (g:=(λ(x173:Int)=>dI (if (decide (x173=(v165+x170))) then 1 else 0))) (zdj (m:=true) (n:=(v165+P2)) (zaD (x:=v165) (y:=P2) (Ev.any (m:=false) (zaa (i:=1) rfl)) (Ev.any (m:=false) (zaa (i:=2) rfl))) (by refine ⟨?_,?_⟩<;>omega)) (by exact zat (by rw [zaH];omega)) ⟨by decide,by decide⟩ (λi174 x173 hx175=>have v175:=zbq hx175;(ziO (b:=(decide (x173=(v165+x170)))) (zac (zcN (x:=x173) (y:=(v165+x170)) (Ev.any (m:=true) (zaa (i:=0) rfl)) (zaD (x:=v165) (y:=x170) (Ev.any (m:=false) (zaa (i:=1) rfl)) (Ev.any (m:=true) (zaa (i:=2) rfl)))) zaf)))) (by first | (rw [List.map_map];rfl) | (simp only [cond_true,cond_false];rw [List.map_map];rfl)))))) (λv176 hv176 =>
 have hTr:=zmt hv176;(zbT (s0:=(v169,v176)) (λ(s177:(List (List Int))×(List (List Int)))=>([.va false (dQ K (List.map lI P0)),.va false (dQ K (List.map dI P1)),.va false (dI P2),.va false (dQ K (List.map dI P3)),.ow true (List.map lI s177.1),.no,.no,.va true (dI v165),.tl (dRI s177.2),.no,.no,.no,.no,.no]:L2.Ctx)) (λ(r:((List (List Int))×(List (List Int))))=>Oc.rt true (dT [dL (List.map lI r.1),dL (List.map lI r.2)])) (λ(s177:(List (List Int))×(List (List Int))) (x178:Int)=>(Let (m_law_thing x178 (4:Int) (max (1:Int) ((s177.1.length:Nat):Int))) (λ(v182:Int) =>
 (Let (m_law_thing x178 (5:Int) (max (1:Int) ((s177.1.length:Nat):Int))) (λ(v183:Int) =>
 (Let ((m_law_thing x178 (6:Int) (5:Int))-(2:Int)) (λ(v184:Int) =>
 (Let (bif (!decide (v182=v183)) then (setZ s177.1 v183 (List.map (λ(x186:(Int×Int))=>(x186.1+(v184*x186.2))) (List.zip (ixD s177.1 v183) (ixD s177.1 v182)))) else s177.1) (λ(v190:(List (List Int))) =>
 (Let (bif (!decide (v182=v183)) then (List.map (λ(ns189:List Int)=>setZ ns189 v182 ((ixD ns189 v182)-(v184*(ixD ns189 v183)))) s177.2) else s177.2) (λ(v191:(List (List Int))) =>
 (v190,v191)))))))))))) (λ(i:Nat) (s177:(List (List Int))×(List (List Int)))=>StI W (v165+P2).toNat s177) (zaX (m:=false) dI (xs:=P3) (zaa (i:=3) rfl)) (.eq (.eq (.eq (.eq (.eq (.eq (.eq (.eq (.eq (.eq (.eq (.eq (.eq (.eq .nil)))))))))))))) (by exact ⟨hS,hTr⟩) (λi179 x178 s177 hx180 hI181=>have v180:=List.mem_of_getElem? hx180;⟨(by exact zlH (by assumption) (zeA ((by assumption):StI W _ _).1 rfl) (zeA ((by assumption):StI W _ _).1 rfl)),
 (zaq (m:=true) (x:=(m_law_thing x178 (4:Int) (max (1:Int) ((s177.1.length:Nat):Int)))) dI (λz=>Oc.nx ((λ(s177:(List (List Int))×(List (List Int)))=>([.va false (dQ K (List.map lI P0)),.va false (dQ K (List.map dI P1)),.va false (dI P2),.va false (dQ K (List.map dI P3)),.ow true (List.map lI s177.1),.no,.no,.va true (dI v165),.tl (dRI s177.2),.no,.no,.no,.no,.no]:L2.Ctx)) z)) (Ev.any (m:=true) (zal (x:=(x178,(4:Int),(max (1:Int) ((s177.1.length:Nat):Int)))) (zac (Ev.any (m:=false) (zaa (i:=9) rfl)) (zac zaz (zac (ziQ (x:=(1:Int)) (y:=((s177.1.length:Nat):Int)) (zac zaz (zac (zeo (f:=lI) (xs:=s177.1) rfl) zaf))) zaf))) rfl (by show zaI x178 (4:Int) (max (1:Int) ((s177.1.length:Nat):Int));refine ⟨by decide,by decide,by omega⟩) rfl)) (λv182 hv182 =>
 have hO:=zeA ((by assumption):StI W _ _).1 hv182;(zaq (m:=true) (x:=(m_law_thing x178 (5:Int) (max (1:Int) ((s177.1.length:Nat):Int)))) dI (λz=>Oc.nx ((λ(s177:(List (List Int))×(List (List Int)))=>([.va false (dQ K (List.map lI P0)),.va false (dQ K (List.map dI P1)),.va false (dI P2),.va false (dQ K (List.map dI P3)),.ow true (List.map lI s177.1),.no,.no,.va true (dI v165),.tl (dRI s177.2),.no,.no,.no,.no,.no]:L2.Ctx)) z)) (Ev.any (m:=true) (zal (x:=(x178,(5:Int),(max (1:Int) ((s177.1.length:Nat):Int)))) (zac (Ev.any (m:=false) (zaa (i:=9) rfl)) (zac zaz (zac (ziQ (x:=(1:Int)) (y:=((s177.1.length:Nat):Int)) (zac zaz (zac (zeo (f:=lI) (xs:=s177.1) rfl) zaf))) zaf))) rfl (by show zaI x178 (5:Int) (max (1:Int) ((s177.1.length:Nat):Int));refine ⟨by decide,by decide,by omega⟩) rfl)) (λv183 hv183 =>
 have hT:=zeA ((by assumption):StI W _ _).1 hv183;(zaq (m:=true) (x:=((m_law_thing x178 (6:Int) (5:Int))-(2:Int))) dI (λz=>Oc.nx ((λ(s177:(List (List Int))×(List (List Int)))=>([.va false (dQ K (List.map lI P0)),.va false (dQ K (List.map dI P1)),.va false (dI P2),.va false (dQ K (List.map dI P3)),.ow true (List.map lI s177.1),.no,.no,.va true (dI v165),.tl (dRI s177.2),.no,.no,.no,.no,.no]:L2.Ctx)) z)) (zaD (x:=(m_law_thing x178 (6:Int) (5:Int))) (y:=(2:Int)) (Ev.any (m:=true) (zal (x:=(x178,(6:Int),(5:Int))) (zac (Ev.any (m:=false) (zaa (i:=9) rfl)) (zac zaz (zac zaz zaf))) rfl (by show zaI x178 (6:Int) (5:Int);refine ⟨by decide,by decide,by omega⟩) rfl)) zaz) (λv184 hv184 =>
 have hM:=zhs hv184;(zbR (b:=(!decide (v182=v183))) (λbb=>([.va false (dQ K (List.map lI P0)),.va false (dQ K (List.map dI P1)),.va false (dI P2),.va false (dQ K (List.map dI P3)),.ow true (List.map lI (bif bb then (setZ s177.1 v183 (List.map (λ(x186:(Int×Int))=>(x186.1+(v184*x186.2))) (List.zip (ixD s177.1 v183) (ixD s177.1 v182)))) else s177.1)),.no,.no,.va true (dI v165),.tl (dRI (bif bb then (List.map (λ(ns189:List Int)=>setZ ns189 v182 ((ixD ns189 v182)-(v184*(ixD ns189 v183)))) s177.2) else s177.2)),.va false (dI x178),.va true (dI v182),.va true (dI v183),.va true (dI v184),.no]:L2.Ctx)) (zan (zcO (x:=v182) (y:=v183) (Ev.any (m:=true) (zaa (i:=10) rfl)) (Ev.any (m:=true) (zaa (i:=11) rfl)))) (λh185=>(zew (f:=lI) (xs:=s177.1) (x:=(List.map (λ(x186:(Int×Int))=>(x186.1+(v184*x186.2))) (List.zip (ixD s177.1 v183) (ixD s177.1 v182)))) rfl (EvO.ev (EvO.conv (zbJ (g:=(λ(x186:(Int×Int))=>dI (x186.1+(v184*x186.2)))) (zdI (m:=true) dI dI (xs:=(ixD s177.1 v183)) (ys:=(ixD s177.1 v182)) (Ev.weak (K:=K) (zbi (f:=lI) (xs:=s177.1) rfl (Ev.any (m:=true) (zaa (i:=11) rfl)) (by exact sq_ix ((by assumption):StI W _ _).1 (zeq hO hT (by assumption)).2.1 (zeq hO hT (by assumption)).2.2))) (Ev.weak (K:=K) (zbi (f:=lI) (xs:=s177.1) rfl (Ev.any (m:=true) (zaa (i:=10) rfl)) (by exact sq_ix ((by assumption):StI W _ _).1 (zeq hO hT (by assumption)).1.1 (zeq hO hT (by assumption)).1.2)))) (by exact zoU ((by assumption):StI W _ _).1 (zeq hO hT (by assumption)).2 w8) ⟨by decide,by decide⟩ (λi187 x186 hx188=>have v188:=za6 hx188;(zaD (x:=x186.1) (y:=(v184*x186.2)) (Ev.any (m:=true) (zaa (i:=0) rfl)) (zas (x:=v184) (y:=x186.2) (Ev.any (m:=true) (zaa (i:=2) rfl)) (Ev.any (m:=true) (zaa (i:=1) rfl)) (by exact .inl ⟨by omega,by omega⟩))))) (by first | (rw [List.map_map];rfl) | (simp only [cond_true,cond_false];rw [List.map_map];rfl)))) (Ev.any (m:=true) (zaa (i:=11) rfl)) (by exact sq_ix ((by assumption):StI W _ _).1 (zeq hO hT (by assumption)).2.1 (zeq hO hT (by assumption)).2.2)
 (zg5 (nss:=s177.2) (i:=8) (j:=13) (v:=λ(ns189:List Int)=>((ixD ns189 v182)-(v184*(ixD ns189 v183)))) (k:=v182) (P:=λ(ns189:List Int)=>ns189.length=(v165+P2).toNat) rfl rfl rfl (by exact ((by assumption):StI W _ _).2) (λns189 hns=>(by exact zlR hns (zeq hO hT (by assumption)).1)) (λns189 hns=>Ev.borrow (m:=false) rfl (zaD (x:=(ixD ns189 v182)) (y:=(v184*(ixD ns189 v183))) (Ev.any (m:=true) (zbB (f:=dI) (xs:=ns189) (Ev.weak (K:=K) (zaa (i:=13) rfl)) (Ev.any (m:=true) (zaa (i:=10) rfl)) (by exact zlR hns (zeq hO hT (by assumption)).1))) (zas (x:=v184) (y:=(ixD ns189 v183)) (Ev.any (m:=true) (zaa (i:=12) rfl)) (Ev.any (m:=true) (zbB (f:=dI) (xs:=ns189) (Ev.weak (K:=K) (zaa (i:=13) rfl)) (Ev.any (m:=true) (zaa (i:=11) rfl)) (by exact zlR hns (zeq hO hT (by assumption)).2))) (by exact .inl ⟨by omega,by omega⟩)))) (λns189 hns=>Ev.borrow (m:=false) rfl (Ev.any (m:=true) (zaa (i:=10) rfl)))
 (zak (.eq (.eq (.eq (.eq (.eq (.eq (.eq (.eq (.eq (.eq (.eq (.eq (.eq (.eq .nil)))))))))))))))))) (λh185=>(zak (.eq (.eq (.eq (.eq (.eq (.eq (.eq (.eq (.eq (.eq (.eq (.eq (.eq (.eq .nil))))))))))))))))
 (zbv (x:=(bif (!decide (v182=v183)) then (setZ s177.1 v183 (List.map (λ(x186:(Int×Int))=>(x186.1+(v184*x186.2))) (List.zip (ixD s177.1 v183) (ixD s177.1 v182)))) else s177.1)) (λv190=>([.va false (dQ K (List.map lI P0)),.va false (dQ K (List.map dI P1)),.va false (dI P2),.va false (dQ K (List.map dI P3)),.ow true (List.map lI v190),.no,.no,.va true (dI v165),.tl (dRI (bif (!decide (v182=v183)) then (List.map (λ(ns189:List Int)=>setZ ns189 v182 ((ixD ns189 v182)-(v184*(ixD ns189 v183)))) s177.2) else s177.2)),.va false (dI x178),.va true (dI v182),.va true (dI v183),.va true (dI v184),.no]:L2.Ctx)) (λz=>Oc.nx ((λ(s177:(List (List Int))×(List (List Int)))=>([.va false (dQ K (List.map lI P0)),.va false (dQ K (List.map dI P1)),.va false (dI P2),.va false (dQ K (List.map dI P3)),.ow true (List.map lI s177.1),.no,.no,.va true (dI v165),.tl (dRI s177.2),.no,.no,.no,.no,.no]:L2.Ctx)) z)) (λv190 hv190 =>
 (zbv (x:=(bif (!decide (v182=v183)) then (List.map (λ(ns189:List Int)=>setZ ns189 v182 ((ixD ns189 v182)-(v184*(ixD ns189 v183)))) s177.2) else s177.2)) (λv191=>([.va false (dQ K (List.map lI P0)),.va false (dQ K (List.map dI P1)),.va false (dI P2),.va false (dQ K (List.map dI P3)),.ow true (List.map lI v190),.no,.no,.va true (dI v165),.tl (dRI v191),.va false (dI x178),.va true (dI v182),.va true (dI v183),.va true (dI v184),.no]:L2.Ctx)) (λz=>Oc.nx ((λ(s177:(List (List Int))×(List (List Int)))=>([.va false (dQ K (List.map lI P0)),.va false (dQ K (List.map dI P1)),.va false (dI P2),.va false (dQ K (List.map dI P3)),.ow true (List.map lI s177.1),.no,.no,.va true (dI v165),.tl (dRI s177.2),.no,.no,.no,.no,.no]:L2.Ctx)) z)) (λv191 hv191 =>
 (zak (.eq (.eq (.eq (.eq (.eq (.eq (.eq (.eq (.eq (.no (.no (.no (.no (.eq .nil))))))))))))))))))))))))))⟩) (λr192 hr192 hI =>
 (zim rfl (zc7 (i:=4) rfl (zah (zap (zgT (zac (zaa (i:=4) rfl) (zac (zoP (zaa (i:=8) rfl)) zaf)) (by show 2≤sizeLine;decide))))))))))))))))))
theorem zj5 {b:Nat} {l t:List Int} {q:Int} (h:Lat.Bit b l) (k:Lat.Bit b t) (hq:-2≤q∧q≤2):Lat.Bit (b+2) (List.map (λ(x:Int×Int)=>x.1+(q*x.2)) (List.zip l t))∧Lat.Bit (b+2) (List.map (λ(x:Int×Int)=>x.1-(q*x.2)) (List.zip l t)):=by
 have a4:(2:Nat)^(b+2)=4*2^b:=by rw [Nat.pow_add];omega
 have key:∀ x:Int×Int,x∈List.zip l t->x.1.natAbs≤2^b∧(q*x.2).natAbs≤2*2^b:=λx hx=>by
  obtain ⟨h1,h2⟩:=List.of_mem_zip (a:=x.1) (b:=x.2) hx
  exact ⟨h _ h1,by rw [Int.natAbs_mul];exact Nat.mul_le_mul (by omega) (k _ h2)⟩
 refine ⟨λy hy=>?_,λy hy=>?_⟩ <;>
 ·obtain ⟨x,hx,rfl⟩:=List.mem_map.mp hy
  have:=key x hx
  rw [a4]
  omega
def FrJ (W b:Nat) (s:List (List Int)×List (List Int)):Prop:=(s.1.length=W∧Lat.RB W b s.1)∧s.2.length=W∧Lat.RB W b s.2
theorem zlh {W b:Nat} {rows:List (List Int)} {i:Int} {y:List Int} (h:rows.length=W∧Lat.RB W b rows) (hy:y.length=W∧Lat.Bit (b+2) y):(setZ rows i y).length=W∧Lat.RB W (b+2) (setZ rows i y):=by
 refine ⟨by rw [zd2];exact h.1,λr hr=>?_⟩
 rcases Lat.setZ_mem hr with rfl | hr
 ·exact hy
 ·exact ⟨(h.2 r hr).1,((h.2 r hr).2).mono (by omega)⟩
theorem znS {W b:Nat} {rows:List (List Int)} (h:rows.length=W∧Lat.RB W b rows):rows.length=W∧Lat.RB W (b+2) rows:=⟨h.1,λr hr=>⟨(h.2 r hr).1,((h.2 r hr).2).mono (by omega)⟩⟩
theorem zic {W b n:Nat} {rows:List (List Int)} (h:rows.length=n∧Lat.RB W b rows):Sq W n rows:=⟨h.1,λr hr=>(h.2 r hr).1⟩
def frF (w:Int):List (List Int)×List (List Int)->Int->List (List Int)×List (List Int):=λs x=>Let (m_law_thing x (1:Int) w) (λ(one:Int)=>Let (m_law_thing x (2:Int) w) (λ(two:Int)=>Let ((m_law_thing x (3:Int) (5:Int))-(2:Int)) (λ(many:Int) =>
 Let (bif (!decide (one=two)) then (setZ s.1 two (List.map (λ(x35:(Int×Int))=>(x35.1+(many*x35.2))) (List.zip (ixD s.1 two) (ixD s.1 one)))) else s.1) (λ(rows41:(List (List Int))) =>
 Let (bif (!decide (one=two)) then (setZ s.2 one (List.map (λ(x38:(Int×Int))=>(x38.1-(many*x38.2))) (List.zip (ixD s.2 one) (ixD s.2 two)))) else s.2) (λ(v42:(List (List Int)))=>(rows41,v42))))))
theorem ziX {w:Int} {W:Nat} (hw:w=(W:Int)) (h1:1≤w):∀ (cs:List Int) (b:Nat) (s:List (List Int)×List (List Int)),FrJ W b s->FrJ W (b+2*cs.length) (List.foldl (frF w) s cs)
 | [],b,s,h=>h
 | c :: cs,b,s,h=>by
  rw [List.foldl_cons,List.length_cons,show b+2*(cs.length+1)=b+2+2*cs.length by omega]
  refine ziX hw h1 cs (b+2) _ ?_
  have hO:=zcQ (c:=c) (k:=1) hw h1 rfl
  have hT:=zcQ (c:=c) (k:=2) hw h1 rfl
  have hM:=zhs (c:=c) (k:=3) rfl
  unfold frF Let
  dsimp only
  generalize m_law_thing c 1 w=one at *
  generalize m_law_thing c 2 w=two at *
  generalize m_law_thing c 3 5-2=many at *
  have q1:=zic h.1
  have q2:=zic h.2
  have m:∀ {rows:List (List Int)} {x:Int},rows.length=W∧Lat.RB W b rows->0≤x∧x<(W:Int)->Lat.Bit b (ixD rows x):=λh hx=>(h.2 _ (zdg (sq_ix (zic h) hx.1 hx.2))).2
  cases (!decide (one=two))
  ·exact ⟨znS h.1,znS h.2⟩
  ·exact ⟨zlh h.1 ⟨sq_zip q1 q1 hT hO,(zj5 (m h.1 hT) (m h.1 hO) hM).1⟩,zlh h.2 ⟨sq_zip q2 q2 hO hT,(zj5 (m h.2 hO) (m h.2 hT) hM).2⟩⟩
theorem zhR {w:Int} {W:Nat} {cs:List Int} (hw:w=(W:Int)) (h1:1≤w):FrJ W (2*cs.length) (m_law_frame w cs):=by
 have h:=ziX hw h1 cs 0 (List.map (λ(x:Int)=>List.map (λ(y:Int)=>(if (decide (y=x)) then (1:Int) else 0)) (za5 0 w.toNat)) (za5 0 w.toNat),List.map (λ(x:List Int)=>x) (List.map (λ(x:Int)=>List.map (λ(y:Int)=>(if (decide (y=x)) then (1:Int) else 0)) (za5 0 w.toNat)) (za5 0 w.toNat))) (by
  have h0:∀ x:Int,Lat.Bit 0 (List.map (λ(y:Int)=>(if (decide (y=x)) then (1:Int) else 0)) (za5 0 w.toNat)):=λx y hy=>by
   obtain ⟨z,_,rfl⟩:=List.mem_map.mp hy
   cases decide (z=x)<;>decide
  have hA:((List.map (λ(x:Int)=>List.map (λ(y:Int)=>(if (decide (y=x)) then (1:Int) else 0)) (za5 0 w.toNat)) (za5 0 w.toNat)).length=W)∧Lat.RB W 0 (List.map (λ(x:Int)=>List.map (λ(y:Int)=>(if (decide (y=x)) then (1:Int) else 0)) (za5 0 w.toNat)) (za5 0 w.toNat)):=by
   refine ⟨by rw [List.length_map,zaH];omega,λr hr=>?_⟩
   obtain ⟨x,_,rfl⟩:=List.mem_map.mp hr
   exact ⟨by rw [List.length_map,zaH];omega,h0 x⟩
  exact ⟨hA,by rw [List.map_id'];exact hA⟩)
 rw [Nat.zero_add] at h
 exact h
def zo6 (n:Nat) (swaps trips:List (List Int)):Prop:=∀ t∈trips,∀ j,j<n->Lat.comb t (swaps.map Lat.vec) j=0
def StJ (n k b c:Nat) (s:List (List Int)×List (List Int)):Prop:=(s.1.length=k∧Lat.RB n b s.1)∧(∀ t∈s.2,t.length=k∧Lat.Bit c t)∧zo6 n s.1 s.2
theorem zkg {rows:List (List Int)} {k:Nat} {y:List Int}:(rows.set k y).map Lat.vec=(rows.map Lat.vec).set k (Lat.vec y):=List.map_set
theorem setZ_nt {α:Type} {xs:List α} {k:Nat} {x:α} (h:k<xs.length):setZ xs (k:Int) x=xs.set k x:=by
 unfold setZ ixN
 rw [if_pos (by omega),if_pos (by omega)]
 show xs.set (k:Int).toNat x=_
 rw [Int.toNat_natCast]
def stF:List (List Int)×List (List Int)->Int->List (List Int)×List (List Int):=λs x=>Let (m_law_thing x (4:Int) (max (1:Int) ((s.1.length:Nat):Int))) (λ(one:Int)=>Let (m_law_thing x (5:Int) (max (1:Int) ((s.1.length:Nat):Int))) (λ(two:Int)=>Let ((m_law_thing x (6:Int) (5:Int))-(2:Int)) (λ(many:Int) =>
 Let (bif (!decide (one=two)) then (setZ s.1 two (List.map (λ(z:(Int×Int))=>(z.1+(many*z.2))) (List.zip (ixD s.1 two) (ixD s.1 one)))) else s.1) (λ(swaps:(List (List Int))) =>
 Let (bif (!decide (one=two)) then (List.map (λ(ns:List Int)=>setZ ns one ((ixD ns one)-(many*(ixD ns two)))) s.2) else s.2) (λ(trips:(List (List Int)))=>(swaps,trips))))))
theorem zhi {n k:Nat}:∀ (cs:List Int) (b c:Nat) (s:List (List Int)×List (List Int)),StJ n k b c s->StJ n k (b+2*cs.length) (c+2*cs.length) (List.foldl stF s cs)
 | [],b,c,s,h=>h
 | x :: cs,b,c,s,h=>by
  rw [List.foldl_cons,List.length_cons,show b+2*(cs.length+1)=b+2+2*cs.length by omega,show c+2*(cs.length+1)=c+2+2*cs.length by omega]
  refine zhi cs (b+2) (c+2) _ ?_
  obtain ⟨h1,h2,h3⟩:=h
  have hq:=zic h1
  have hO:=zeA (c:=x) (k:=4) hq rfl
  have hT:=zeA (c:=x) (k:=5) hq rfl
  have hM:=zhs (c:=x) (k:=6) rfl
  unfold stF Let
  dsimp only
  generalize m_law_thing x 4 (max (1:Int) ((s.1.length:Nat):Int))=one at *
  generalize m_law_thing x 5 (max (1:Int) ((s.1.length:Nat):Int))=two at *
  generalize m_law_thing x 6 5-2=many at *
  by_cases e:one=two
  ·rw [decide_eq_true e]
   exact ⟨⟨h1.1,λr hr=>⟨(h1.2 r hr).1,((h1.2 r hr).2).mono (by omega)⟩⟩,λt ht=>⟨(h2 t ht).1,((h2 t ht).2).mono (by omega)⟩,h3⟩
  ·rw [decide_eq_false e]
   have hl:=zeq hO hT (by simp [e])
   obtain ⟨o,rfl⟩:∃ o:Nat,one=(o:Int):=⟨one.toNat,by omega⟩
   obtain ⟨w,rfl⟩:∃ w:Nat,two=(w:Int):=⟨two.toNat,by omega⟩
   have how:o≠w:=λz=>e (by rw [z])
   have ho:o<s.1.length:=by rw [h1.1];omega
   have hw:w<s.1.length:=by rw [h1.1];omega
   have ge:∀ {i:Nat} (hi:i<s.1.length),ixD s.1 (i:Int)=s.1[i]:=λhi=>zcj (List.getElem?_eq_getElem hi)
   show StJ n k (b+2) (c+2) (setZ s.1 (w:Int) _,List.map _ s.2)
   rw [ge ho,ge hw,setZ_nt hw]
   have ro:=h1.2 _ (List.getElem_mem ho)
   have rw':=h1.2 _ (List.getElem_mem hw)
   refine ⟨⟨by rw [List.length_set];exact h1.1,λr hr=>?_⟩,λt ht=>?_,λt ht j hj=>?_⟩
   ·rcases List.mem_or_eq_of_mem_set hr with h' | rfl
    ·exact ⟨(h1.2 r h').1,((h1.2 r h').2).mono (by omega)⟩
    ·exact ⟨by rw [List.length_map,List.length_zip,ro.1,rw'.1];omega,(zj5 rw'.2 ro.2 hM).1⟩
   ·obtain ⟨ns,hns,rfl⟩:=List.mem_map.mp ht
    have hn:=h2 ns hns
    refine ⟨by rw [zd2];exact hn.1,λy hy=>?_⟩
    have a4:(2:Nat)^(c+2)=4*2^c:=by rw [Nat.pow_add];omega
    rcases Lat.setZ_mem hy with rfl | hy
    ·have b1:=hn.2 _ (zdg (xs:=ns) (i:=(o:Int)) (by unfold InB;omega))
     have b2:=hn.2 _ (zdg (xs:=ns) (i:=(w:Int)) (by unfold InB;omega))
     have b3:(many*ixD ns (w:Int)).natAbs≤2*2^c:=by rw [Int.natAbs_mul];exact Nat.mul_le_mul (by omega) b2
     rw [a4];omega
    ·have:=hn.2 y hy
     rw [a4];omega
   ·obtain ⟨ns,hns,rfl⟩:=List.mem_map.mp ht
    have hn:=h2 ns hns
    have no:o<ns.length:=by omega
    have nw:w<ns.length:=by omega
    have e1:ixD ns (o:Int)=ns[o]:=zcj (List.getElem?_eq_getElem no)
    have e2:ixD ns (w:Int)=ns[w]:=zcj (List.getElem?_eq_getElem nw)
    rw [setZ_nt no,e1,e2,zkg]
    rw [Lat.zgL (t1:=ns[o]) (t2:=ns[w]) (a1:=Lat.vec s.1[o]) (a2:=Lat.vec s.1[w]) how (List.getElem?_eq_getElem no) (List.getElem?_eq_getElem nw) (by rw [List.getElem?_map,List.getElem?_eq_getElem ho];rfl) (by rw [List.getElem?_map,List.getElem?_eq_getElem hw];rfl) (Lat.ze5 (by rw [ro.1,rw'.1]))]
    exact h3 ns hns j hj
theorem zjh {W b:Nat}:∀ (l:List (List Int×Int)) (acc:List (List Int)),(∀ p∈l,p.1.length=W∧Lat.Bit b p.1∧0≤p.2∧p.2≤1000000001)->Lat.RB W (b+30) acc->(List.foldl (λ(s:List (List Int)) (x:List Int×Int)=>Let (bif (decide ((0:Int)<x.2)) then (s++[List.map (λ(y:Int)=>(x.2*y)) x.1]) else s) (λ(z:List (List Int))=>z)) acc l).length≤acc.length+l.length∧Lat.RB W (b+30) (List.foldl (λ(s:List (List Int)) (x:List Int×Int)=>Let (bif (decide ((0:Int)<x.2)) then (s++[List.map (λ(y:Int)=>(x.2*y)) x.1]) else s) (λ(z:List (List Int))=>z)) acc l)
 | [],acc,_,h=>⟨Nat.le_refl _,h⟩
 | p :: l,acc,hl,h=>by
  have hp:=hl p List.mem_cons_self
  rw [List.foldl_cons]
  have hn:(bif (decide ((0:Int)<p.2)) then (acc++[List.map (λ(y:Int)=>(p.2*y)) p.1]) else acc).length≤acc.length+1∧Lat.RB W (b+30) (bif (decide ((0:Int)<p.2)) then (acc++[List.map (λ(y:Int)=>(p.2*y)) p.1]) else acc):=by
   cases decide ((0:Int)<p.2)
   ·exact ⟨Nat.le_succ _,h⟩
   ·refine ⟨by rw [cond_true,List.length_append,List.length_singleton];exact Nat.le_refl _,λr hr=>?_⟩
    rcases List.mem_append.mp hr with hr | hr
    ·exact h r hr
    ·rw [List.mem_singleton.mp hr]
     refine ⟨by rw [List.length_map];exact hp.1,λy hy=>?_⟩
     obtain ⟨z,hz,rfl⟩:=List.mem_map.mp hy
     rw [Int.natAbs_mul,Nat.pow_add,Nat.mul_comm]
     exact Nat.mul_le_mul (hp.2.1 z hz) (Nat.le_trans (show p.2.natAbs≤1000000001 by omega) (by decide))
  have:=zjh l _ (λq hq=>hl q (List.mem_cons_of_mem _ hq)) hn.2
  refine ⟨Nat.le_trans this.1 ?_,this.2⟩
  rw [List.length_cons]
  have:=hn.1
  omega
theorem znU {W k:Nat} {a:List (List Int)} {idle:Int} (h0:0≤idle) {w:Int}:zo6 W (a++List.map (λ(_:Int)=>repZ w [(0:Int)]) (za5 0 idle.toNat)) (List.map (λ(x:Int)=>List.map (λ(y:Int)=>(if (decide (y=(((a.length:Nat):Int)+x))) then (1:Int) else 0)) (za5 0 (((a.length:Nat):Int)+idle).toNat)) (za5 0 idle.toNat)):=λt ht j _=>by
 obtain ⟨x,hx,rfl⟩:=List.mem_map.mp ht
 have hx0:=(mem_rngZ.mp hx).1
 refine Lat.comb_zero λi y v h1 h2=>?_
 rw [List.getElem?_map] at h1 h2
 cases q:(za5 0 (((a.length:Nat):Int)+idle).toNat)[i]? with
 | none=>rw [q] at h1;cases h1
 | some z =>
  rw [q] at h1
  obtain ⟨g1,g2⟩:=zbq q
  have h1:(if (decide (z=(((a.length:Nat):Int)+x))) then (1:Int) else 0)=y:=Option.some.inj h1
  by_cases e:i<a.length
  ·rw [decide_eq_false (by omega)] at h1
   rw [← h1];simp
  ·rw [List.getElem?_append_right (by omega),List.getElem?_map] at h2
   cases q2:(za5 0 idle.toNat)[i-a.length]? with
   | none=>rw [q2] at h2;cases h2
   | some z2 =>
    rw [q2] at h2
    have h2:Lat.vec (repZ w [(0:Int)])=v:=Option.some.inj h2
    rw [← h2]
    have:Lat.vec (repZ w [(0:Int)]) j=0:=by
     by_cases hw:0≤w
     ·obtain ⟨n,rfl⟩:∃ n:Nat,w=(n:Int):=⟨w.toNat,by omega⟩
      exact Lat.zem
     ·unfold repZ
      rw [show w.toNat=0 by omega]
      simp [Lat.vec]
    rw [this];simp
theorem zfO {W b:Nat} {rows:List (List Int)} {bs cs:List Int} {idle:Int} (hr:rows.length=W∧Lat.RB W b rows) (hw:W≤8) (hb:∀ x∈bs,0≤x∧x≤1000000001) (hi:0≤idle∧idle≤3) :
  ∃ k,k≤11∧StJ W k (b+30+2*cs.length) (2*cs.length) (m_law_stirred rows bs idle cs):=by
 have h0:=zjh (W:=W) (b:=b) (List.zip rows bs) [] (λp hp=>by
  have:=List.of_mem_zip (a:=p.1) (b:=p.2) hp
  exact ⟨(hr.2 _ this.1).1,(hr.2 _ this.1).2,hb _ this.2⟩) (λr hr=>by simp at hr)
 rw [List.length_zip,List.length_nil,Nat.zero_add] at h0
 unfold m_law_stirred
 generalize ha:(List.foldl (λ(s:List (List Int)) (x:List Int×Int)=>Let (bif (decide ((0:Int)<x.2)) then (s++[List.map (λ(y:Int)=>(x.2*y)) x.1]) else s) (λ(z:List (List Int))=>z)) [] (List.zip rows bs))=a at h0
 show ∃ k,k≤11∧StJ W k _ _ (List.foldl stF (a++List.map (λ(_:Int)=>repZ ((rows.length:Nat):Int) [(0:Int)]) (za5 0 idle.toNat),List.map (λ(x:Int)=>List.map (λ(y:Int)=>(if (decide (y=(((a.length:Nat):Int)+x))) then (1:Int) else 0)) (za5 0 (((a.length:Nat):Int)+idle).toNat)) (za5 0 idle.toNat)) cs)
 have hl:=hr.1
 refine ⟨a.length+idle.toNat,by have:=h0.1;omega,?_⟩
 have:=zhi (n:=W) (k:=a.length+idle.toNat) cs (b+30) 0 (a++List.map (λ(_:Int)=>repZ ((rows.length:Nat):Int) [(0:Int)]) (za5 0 idle.toNat),List.map (λ(x:Int)=>List.map (λ(y:Int)=>(if (decide (y=(((a.length:Nat):Int)+x))) then (1:Int) else 0)) (za5 0 (((a.length:Nat):Int)+idle).toNat)) (za5 0 idle.toNat)) ⟨⟨by rw [List.length_append,List.length_map,zaH],λr hr'=>?_⟩,λt ht=>?_,znU (k:=0) (a:=a) (w:=((rows.length:Nat):Int)) hi.1⟩
 ·rw [Nat.zero_add] at this
  exact this
 ·rcases List.mem_append.mp hr' with hr' | hr'
  ·exact h0.2 r hr'
  ·obtain ⟨x,_,rfl⟩:=List.mem_map.mp hr'
   refine ⟨by rw [Lat.zfb];exact hl,λy hy=>?_⟩
   obtain ⟨j,_,rfl⟩:=Lat.zfS hy
   rw [Lat.zem];exact Nat.zero_le _
 ·obtain ⟨x,_,rfl⟩:=List.mem_map.mp ht
  refine ⟨by rw [List.length_map,zaH];omega,λy hy=>?_⟩
  obtain ⟨z,_,rfl⟩:=List.mem_map.mp hy
  cases decide (z=(((a.length:Nat):Int)+x))<;>decide
theorem zpE {b:Bool} {c w0 w:Int} (e0:w0=((1:Int)+(c%(4:Int)))) (e:w=bif b then ((5:Int)+((c/(64:Int))%(4:Int))) else w0):1≤w∧w≤8:=by
 subst e0 e;cases b
 ·rw [cond_false];omega
 ·rw [cond_true];omega
theorem trip_len:∀ (cs:List Int) (s:List (List Int)×List (List Int)),(List.foldl stF s cs).2.length=s.2.length
 | [],_=>rfl
 | c :: cs,s=>by
  rw [List.foldl_cons,trip_len cs]
  unfold stF Let
  dsimp only
  cases (!decide (m_law_thing c (4:Int) (max (1:Int) ((s.1.length:Nat):Int))=m_law_thing c (5:Int) (max (1:Int) ((s.1.length:Nat):Int))))
  ·rfl
  ·rw [cond_true,List.length_map]
section
variable {w w0 c i x k:Int} {b b2:Bool} {xs c0 c1 cs cs2 o o1:List Int} {f s:List (List Int)×List (List Int)}
theorem zpv (e0:w0=(1:Int)+(c%(4:Int))) (e:w=bif b then ((7:Int)+(c%(2:Int))) else w0):1≤w∧w≤8:=by
 subst e0 e;cases b
 ·rw [cond_false];omega
 ·rw [cond_true];omega
theorem tw_bl (hW:1≤w∧w≤8) (hO:o=m_law_bottoms w x k):o.length≤PySem.sizeLine:=by
 rw [hO,(zk8 (by omega)).1];exact zat (by omega)
theorem zpj (hI:i=max (0:Int) (min ((c/(8:Int))%(3:Int)) ((5:Int)-w))):0≤i∧i≤3:=by omega
theorem zmG (hW:1≤w∧w≤8) (hO:o=m_law_bottoms w x k) (hO1:o1=bif b then (List.map (λ(z:Int)=>((1:Int)+(z%(6:Int)))) o) else o):o1.length=w.toNat∧∀ z∈o1,0≤z∧z≤1000000001:=by
 have hb:=zk8 (w:=w) (c:=x) (f:=k) (by omega)
 rw [← hO] at hb
 cases b with
 | false=>rw [hO1];exact hb
 | true =>
  rw [hO1,cond_true]
  refine ⟨by rw [List.length_map];exact hb.1,λz hz=>?_⟩
  obtain ⟨y,_,rfl⟩:=List.mem_map.mp hz
  omega
theorem zna (hW:1≤w∧w≤8) (hF:f=m_law_frame w cs) (hO:o=m_law_bottoms w x k) (hO1:o1=bif b then (List.map (λ(z:Int)=>((1:Int)+(z%(6:Int)))) o) else o) (hI:0≤i∧i≤3):StP f.1 o1 i:=by
 obtain ⟨W,hWW⟩:∃ W:Nat,w=(W:Int):=⟨w.toNat,by omega⟩
 have h:=zhR (cs:=cs) hWW hW.1
 rw [← hF] at h
 obtain ⟨b1,b2⟩:=zmG hW hO hO1
 exact ⟨W,by omega,by omega,zic h.1,by omega,b2,hI.1,hI.2⟩
theorem zol (hF:f=m_law_frame w cs) (hS:s=bif b2 then (m_law_frame w cs2) else f):∃ c,s=m_law_frame w c∧(c=cs∨c=cs2):=by
 cases b2 with
 | true=>exact ⟨cs2,hS,.inr rfl⟩
 | false=>exact ⟨cs,hS.trans hF,.inl rfl⟩
theorem znp (hW:1≤w∧w≤8) (hF:f=m_law_frame w cs) (hS:s=bif b2 then (m_law_frame w cs2) else f) (hO:o=m_law_bottoms w x k) (hO1:o1=bif b then (List.map (λ(z:Int)=>((1:Int)+(z%(6:Int)))) o) else o):StP s.1 o1 ((c/(24:Int))%(2:Int)):=by
 obtain ⟨q,e,_⟩:=zol hF hS
 exact zna hW e hO hO1 (by omega)
end
theorem du_fold {w:Int} {W:Nat} (hw:w=(W:Int)) (h1:1≤w):∀ (cs:List Int) (s:List (List Int)×List (List Int)),Lat.Du W s->Lat.Du W (List.foldl (frF w) s cs)
 | [],s,h=>h
 | c :: cs,s,h=>by
  rw [List.foldl_cons]
  refine du_fold hw h1 cs _ ?_
  have hO:=zcQ (c:=c) (k:=1) hw h1 rfl
  have hT:=zcQ (c:=c) (k:=2) hw h1 rfl
  unfold frF Let
  dsimp only
  generalize m_law_thing c 1 w=one at *
  generalize m_law_thing c 2 w=two at *
  generalize m_law_thing c 3 5-2=many at *
  by_cases e:one=two
  ·rw [decide_eq_true e];exact h
  ·rw [decide_eq_false e]
   obtain ⟨o,rfl⟩:∃ o:Nat,one=(o:Int):=⟨one.toNat,by omega⟩
   obtain ⟨t,rfl⟩:∃ t:Nat,two=(t:Int):=⟨two.toNat,by omega⟩
   have ho1:o<s.1.length:=by rw [h.l1];omega
   have ht1:t<s.1.length:=by rw [h.l1];omega
   have ho2:o<s.2.length:=by rw [h.l2];omega
   have ht2:t<s.2.length:=by rw [h.l2];omega
   have g1:=List.getElem?_eq_getElem ho1;have g2:=List.getElem?_eq_getElem ht1
   have g3:=List.getElem?_eq_getElem ho2;have g4:=List.getElem?_eq_getElem ht2
   show Lat.Du W (setZ s.1 (t:Int) _,setZ s.2 (o:Int) _)
   rw [zcj g1,zcj g2,zcj g3,zcj g4,setZ_nt ht1,setZ_nt ho2]
   exact h.step many (λz=>e (by rw [z])) g1 g2 g3 g4
theorem zkG {w:Int} {W:Nat} {cs:List Int} (hw:w=(W:Int)) (h1:1≤w):Lat.Du W (m_law_frame w cs):=by
 have h:=du_fold hw h1 cs (List.map (λ(x:Int)=>List.map (λ(y:Int)=>(if (decide (y=x)) then (1:Int) else 0)) (za5 0 w.toNat)) (za5 0 w.toNat),List.map (λ(x:List Int)=>x) (List.map (λ(x:Int)=>List.map (λ(y:Int)=>(if (decide (y=x)) then (1:Int) else 0)) (za5 0 w.toNat)) (za5 0 w.toNat))) (by
  rw [List.map_id']
  exact Lat.Du.start (by rw [hw,Int.toNat_natCast]))
 exact h
theorem zjp:∀ (cs:List Int) (s:List (List Int)×List (List Int)),(List.foldl stF s cs).1.length=s.1.length
 | [],_=>rfl
 | c :: cs,s=>by
  rw [List.foldl_cons,zjp cs]
  unfold stF Let
  dsimp only
  cases (!decide (m_law_thing c (4:Int) (max (1:Int) ((s.1.length:Nat):Int))=m_law_thing c (5:Int) (max (1:Int) ((s.1.length:Nat):Int))))
  ·rfl
  ·rw [cond_true,zd2]
theorem zn2 {n k:Nat} {u:Lat.Vc}:∀ (cs:List Int) (b c:Nat) (s:List (List Int)×List (List Int)),StJ n k b c s->(Lat.SpL (List.foldl stF s cs).1 u ↔ Lat.SpL s.1 u)
 | [],_,_,_,_=>Iff.rfl
 | x :: cs,b,c,s,h=>by
  have h':=zhi [x] b c s h
  rw [List.foldl_cons]
  refine (zn2 cs _ _ _ h').trans ?_
  obtain ⟨h1,h2,h3⟩:=h
  have hq:=zic h1
  have hO:=zeA (c:=x) (k:=4) hq rfl
  have hT:=zeA (c:=x) (k:=5) hq rfl
  show Lat.SpL (stF s x).1 u ↔ _
  unfold stF Let
  dsimp only
  generalize m_law_thing x 4 (max (1:Int) ((s.1.length:Nat):Int))=one at *
  generalize m_law_thing x 5 (max (1:Int) ((s.1.length:Nat):Int))=two at *
  generalize m_law_thing x 6 5-2=many at *
  by_cases e:one=two
  ·rw [decide_eq_true e];exact Iff.rfl
  ·rw [decide_eq_false e]
   have hl:=zeq hO hT (by simp [e])
   obtain ⟨o,rfl⟩:∃ o:Nat,one=(o:Int):=⟨one.toNat,by omega⟩
   obtain ⟨t,rfl⟩:∃ t:Nat,two=(t:Int):=⟨two.toNat,by omega⟩
   have ho:o<s.1.length:=by rw [h1.1];omega
   have ht:t<s.1.length:=by rw [h1.1];omega
   have g1:=List.getElem?_eq_getElem ho;have g2:=List.getElem?_eq_getElem ht
   show Lat.SpL (setZ s.1 (t:Int) _) u ↔ _
   rw [zcj g1,zcj g2,setZ_nt ht]
   exact Lat.zkN (λz=>e (by rw [z])) g1 g2 λk=>Lat.ze5 (by rw [(h1.2 _ (List.mem_of_getElem? g1)).1,(h1.2 _ (List.mem_of_getElem? g2)).1])
theorem zhw:∀ (l:List (List Int×Int)) (acc:List (List Int)),List.foldl (λ(s:List (List Int)) (x:List Int×Int)=>Let (bif (decide ((0:Int)<x.2)) then (s++[List.map (λ(y:Int)=>(x.2*y)) x.1]) else s) (λ(z:List (List Int))=>z)) acc l=acc++(l.filter λp=>decide (0<p.2)).map λp=>List.map (λ(y:Int)=>p.2*y) p.1
 | [],acc=>by simp
 | p :: l,acc=>by
  rw [List.foldl_cons,zhw l]
  show (bif (decide ((0:Int)<p.2)) then (acc++[List.map (λ(y:Int)=>(p.2*y)) p.1]) else acc)++_=_
  by_cases q:(0:Int)<p.2
  ·rw [decide_eq_true q,List.filter_cons_of_pos (by exact decide_eq_true q),List.map_cons];simp
  ·rw [decide_eq_false q,List.filter_cons_of_neg (by simpa using q)];rfl
theorem zfA {W b:Nat} {rows:List (List Int)} {bs cs:List Int} {idle:Int} {u:Lat.Vc} (hr:rows.length=W∧Lat.RB W b rows) (hw:W≤8) (hb:∀ x∈bs,0≤x∧x≤1000000001) (hi:0≤idle∧idle≤3) :
  (Lat.SpL (m_law_stirred rows bs idle cs).1 u ↔ Lat.SpL (Lat.scl rows bs) u)∧(m_law_stirred rows bs idle cs).1.length≤W+idle.toNat:=by
 obtain ⟨k,k1,k2⟩:=zfO (cs:=[]) (bs:=bs) hr hw hb hi
 have e:m_law_stirred rows bs idle cs=List.foldl stF (m_law_stirred rows bs idle []) cs:=rfl
 have e0:(m_law_stirred rows bs idle []).1=Lat.scl rows bs++List.map (λ(_:Int)=>repZ ((rows.length:Nat):Int) [(0:Int)]) (za5 0 idle.toNat):=by
  show (List.foldl (λ(s:List (List Int)) (x:List Int×Int)=>Let (bif (decide ((0:Int)<x.2)) then (s++[List.map (λ(y:Int)=>(x.2*y)) x.1]) else s) (λ(z:List (List Int))=>z)) [] (List.zip rows bs))++_=_
  rw [zhw,List.nil_append];rfl
 rw [e,zjp]
 refine ⟨(zn2 cs _ _ _ k2).trans ?_,?_⟩
 ·rw [e0]
  refine Lat.zje λs hs j=>?_
  obtain ⟨_,_,rfl⟩:=List.mem_map.mp hs
  exact Lat.zem
 ·rw [e0,List.length_append,List.length_map,zaH]
  have:(Lat.scl rows bs).length≤rows.length:=by
   unfold Lat.scl
   rw [List.length_map]
   exact Nat.le_trans (List.length_filter_le _ _) (by rw [List.length_zip];omega)
  have:=hr.1
  omega
theorem zib {W b:Nat} {rows:List (List Int)} {bs cs:List Int} {idle:Int} (hr:rows.length=W∧Lat.RB W b rows) (hw:W≤8) (hb:∀ x∈bs,0≤x∧x≤1000000001) (hi:0≤idle∧idle≤3):Lat.RB W (b+30+2*cs.length) (m_law_stirred rows bs idle cs).1:=by
 obtain ⟨k,k1,k2⟩:=zfO (cs:=cs) (bs:=bs) hr hw hb hi
 exact k2.1.2
def m_law_two (P0:(List Int)):(T6 ((List (List Int))×(List (List Int))) ((List (List Int))×(List (List Int))) (List Int) (List Int) (List (List Int)) (List (List Int))) :=
 (Let (m_law_cell P0 (0:Int)) (λ(v193:Int) =>
 (Let ((1:Int)+(v193%(4:Int))) (λ(v194:Int) =>
 (Let (cutD P0 (some (3:Int)) (some (63:Int))) (λ(v195:(List Int)) =>
 (Let (bif (decide (((v193/(48:Int))%(16:Int))=(5:Int))) then ((7:Int)+(v193%(2:Int))) else v194) (λ(v197:Int) =>
 (Let (bif (decide (((v193/(48:Int))%(16:Int))=(5:Int))) then (cutD v195 none (some (16:Int))) else v195) (λ(v198:(List Int)) =>
 (Let (((v198.length:Nat):Int)/(4:Int)) (λ(v199:Int) =>
 (Let (m_law_frame v197 (cutD v198 none (some v199))) (λ(v200:((List (List Int))×(List (List Int)))) =>
 (Let (bif (decide (((v193/(4:Int))%(2:Int))=(1:Int))) then (m_law_frame v197 (cutD v198 (some ((2:Int)*v199)) (some ((3:Int)*v199)))) else v200) (λ(v202:((List (List Int))×(List (List Int)))) =>
 (Let (m_law_bottoms v197 (m_law_raw P0 (1:Int)) (7:Int)) (λ(v203:(List Int)) =>
 (Let (m_law_bottoms v197 (m_law_raw P0 (2:Int)) (7:Int)) (λ(v204:(List Int)) =>
 (Let (max (0:Int) (min ((v193/(8:Int))%(3:Int)) ((5:Int)-v197))) (λ(v205:Int) =>
 (Let (bif (decide ((4:Int)<v197)) then (List.map (λ(x207:Int)=>((1:Int)+(x207%(6:Int)))) v203) else v203) (λ(v213:(List Int)) =>
 (Let (bif (decide ((4:Int)<v197)) then (List.map (λ(x210:Int)=>((1:Int)+(x210%(6:Int)))) v204) else v204) (λ(v214:(List Int)) =>
 (Let ((m_law_stirred v200.1 v213 v205 (cutD v198 (some v199) (some ((2:Int)*v199)))).1) (λ(v215:(List (List Int))) =>
 (Let ((m_law_stirred v202.1 v214 ((v193/(24:Int))%(2:Int)) (cutD v198 (some ((3:Int)*v199)) none)).1) (λ(v216:(List (List Int))) =>
 (T6.mk v200 v202 v213 v214 v215 v216)))))))))))))))))))))))))))))))
def zdk (P0:(List Int)):Prop:=P0.length≤63
def zet (K:W.Frag) (A:Adr):Sp:=Spv (ι:=(List Int)) (λx=>[dQ K (List.map dI x)]) (λx=>zdk x) (λx=>.va true (dT [dT [dL (List.map lI (((m_law_two x).a).1)),dL (List.map lI (((m_law_two x).a).2))],dT [dL (List.map lI (((m_law_two x).b).1)),dL (List.map lI (((m_law_two x).b).2))],dL (List.map dI ((m_law_two x).c)),dL (List.map dI ((m_law_two x).d)),dL (List.map lI ((m_law_two x).e)),dL (List.map lI ((m_law_two x).f))]))
theorem zaG:FnScope ["_law_script","_law_cell_here","_law_wide","_law_cells","_law_part","_law_first","_law_second","_law_one","_law_two_here","_law_idle","_law_left","_law_right"] ["_law_script"] (zae zcq):=⟨rfl,rfl,rfl,by decide +kernel,rfl,by decide +kernel,by decide +kernel⟩
theorem zie (F:Fun K "_law_two" "_law_two" zcq f fd) (T:Txt K mg A) (G_law_bottoms:Callee P w K mg base (CXE P w) 2 "_law_bottoms" ["_law_wide","_law_cell_here","_law_far"] (zcX K A)) (G_law_cell:Callee P w K mg base (CXE P w) 1 "_law_cell" ["_law_script","_law_k"] (zdN K A)) (G_law_frame:Callee P w K mg base (CXE P w) 2 "_law_frame" ["_law_wide","_law_cells"] (zdr K A)) (G_law_raw:Callee P w K mg base (CXE P w) 1 "_law_raw" ["_law_script","_law_k"] (zee K A)) (G_law_stirred:Callee P w K mg base (CXE P w) 2 "_law_stirred" ["_law_rows","_law_bottoms_here","_law_idle","_law_cells"] (zcU K A)):FnOk P w K mg base (CXE P w) 3 f fd ["_law_script"] (zet K A):=by
 refine F.okV zaG (λ_=>rfl) (λcdv Ar outer s H E P0 hr hp=>?_)
 have hu:=hr.units
 replace hp:zdk P0:=hp
 unfold zdk at hp
 refine ⟨_,(zab (zam (i:=1) zaG.nd rfl (Or.inl rfl) (zaC G_law_cell (hr.mono (by decide)) rfl zaA (pa_cons (pv 0) (pa_cons zag pa_nil))))
 (zab (zam (i:=2) zaG.nd rfl (Or.inl rfl) (zar zca zag (zar zbN (pv 1) zag)))
 (zab (zam (i:=3) zaG.nd rfl (Or.inl rfl) (zcn (zbO (K:=K) rfl) (pv 0) (zcc zag) (zcc zag)))
 (zab (zbd (pt_cmpR zd8 (zar zbN (zar za9 (pv 1) zag) zag) zag (nomark _))
 (zab (zam (i:=2) zaG.nd rfl (Or.inl rfl) (zar zca zag (zar zbN (pv 1) zag)))
 (zab (zam (i:=3) zaG.nd rfl (Or.inl rfl) (zcn (zbO (K:=K) rfl) (pv 3) zdQ (zcc zag)))
 zad))
 zad)
 (zab (zam (i:=4) zaG.nd rfl (Or.inl rfl) (zar za9 (pe_callB (call_len_K (K:=K) rfl) rfl T.len PySem.boot_len (pa_cons (pv 3) pa_nil)) zag))
 (zab (zam (i:=5) zaG.nd rfl (Or.inl rfl) (zaC G_law_frame (hr.mono (by decide)) rfl zaA (pa_cons (pv 2) (pa_cons (zcn (zbO (K:=K) rfl) (pv 3) zdQ (zcc (pv 4))) pa_nil))))
 (zab (zam (i:=6) zaG.nd rfl (Or.inl rfl) (pv 5))
 (zab (zbd (pt_cmpR zd8 (zar zbN (zar za9 (pv 1) zag) zag) zag (nomark _))
 (zab (zam (i:=6) zaG.nd rfl (Or.inl rfl) (zaC G_law_frame (hr.mono (by decide)) rfl zaA (pa_cons (pv 2) (pa_cons (zcn (zbO (K:=K) rfl) (pv 3) (zcc (zar zaS zag (pv 4))) (zcc (zar zaS zag (pv 4)))) pa_nil))))
 zad)
 zad)
 (zab (zam (i:=7) zaG.nd rfl (Or.inl rfl) (zaC G_law_bottoms (hr.mono (by decide)) rfl zaA (pa_cons (pv 2) (pa_cons (zaC G_law_raw (hr.mono (by decide)) rfl zaA (pa_cons (pv 0) (pa_cons zag pa_nil))) (pa_cons zag pa_nil)))))
 (zab (zam (i:=8) zaG.nd rfl (Or.inl rfl) (zaC G_law_bottoms (hr.mono (by decide)) rfl zaA (pa_cons (pv 2) (pa_cons (zaC G_law_raw (hr.mono (by decide)) rfl zaA (pa_cons (pv 0) (pa_cons zag pa_nil))) (pa_cons zag pa_nil)))))
 (zab (zam (i:=9) zaG.nd rfl (Or.inl rfl) (pe_callB (zeX rfl) rfl T.max PyProof.Rows.boot_max (pa_cons zag (pa_cons (pe_callB (zja rfl) rfl T.min PyProof.Rows.boot_min (pa_cons (zar zbN (zar za9 (pv 1) zag) zag) (pa_cons (zar zdJ zag (pv 2)) pa_nil))) pa_nil))))
 (zab (zbd (pt_cmpR zgn (pv 2) zag (nomark _))
 (zab (zdR (i:=7) rfl zaG.nd rfl rfl (.of (osc:=(zae zcq)) (N:=["_law_script","_law_cell_here","_law_wide","_law_cells","_law_part","_law_first","_law_second","_law_one","_law_two_here","_law_idle","_law_left","_law_right"]) (own:=["_law_number"]) (fvn:=[]) (fv:=[]) rfl rfl (by decide +kernel)) (zaB (K:=K) rfl (pv 7)) (λ_ _ _ _ _=>⟨(pg_name (i:=0) (show (["_law_number"]:List Str).Nodup by decide +kernel) rfl (Or.inl rfl) (Or.inr rfl)),zaZ,(zar zca zag (zar zbN (pv 0) zag))⟩))
 (zab (zdR (i:=8) rfl zaG.nd rfl rfl (.of (osc:=(zae zcq)) (N:=["_law_script","_law_cell_here","_law_wide","_law_cells","_law_part","_law_first","_law_second","_law_one","_law_two_here","_law_idle","_law_left","_law_right"]) (own:=["_law_number"]) (fvn:=[]) (fv:=[]) rfl rfl (by decide +kernel)) (zaB (K:=K) rfl (pv 8)) (λ_ _ _ _ _=>⟨(pg_name (i:=0) (show (["_law_number"]:List Str).Nodup by decide +kernel) rfl (Or.inl rfl) (Or.inr rfl)),zaZ,(zar zca zag (zar zbN (pv 0) zag))⟩))
 zad))
 zad)
 (zab (zam (i:=10) zaG.nd rfl (Or.inl rfl) (zaR (za8 (K:=K) rfl) (zaC G_law_stirred (hr.mono (by decide)) rfl zaA (pa_cons (zaR (za8 (K:=K) rfl) (pv 5) zag (λ_ _=>rfl)) (pa_cons (pv 7) (pa_cons (pv 9) (pa_cons (zcn (zbO (K:=K) rfl) (pv 3) (zcc (pv 4)) (zcc (zar zaS zag (pv 4)))) pa_nil))))) zag (λ_ _=>rfl)))
 (zab (zam (i:=11) zaG.nd rfl (Or.inl rfl) (zaR (za8 (K:=K) rfl) (zaC G_law_stirred (hr.mono (by decide)) rfl zaA (pa_cons (zaR (za8 (K:=K) rfl) (pv 6) zag (λ_ _=>rfl)) (pa_cons (pv 8) (pa_cons (zar zbN (zar za9 (pv 1) zag) zag) (pa_cons (zcn (zbO (K:=K) rfl) (pv 3) (zcc (zar zaS zag (pv 4))) zdQ) pa_nil))))) zag (λ_ _=>rfl)))
 (zab (zaw (zgR (pa_cons (pv 5) (pa_cons (pv 6) (pa_cons (pv 7) (pa_cons (pv 8) (pa_cons (pv 10) (pa_cons (pv 11) pa_nil))))))))
 zad))))))))))))))),.inl ?_⟩
 show L2.Run _ ([.va false (dQ K (List.map dI P0)),.no,.no,.no,.no,.no,.no,.no,.no,.no,.no,.no]:L2.Ctx) _ ((λ(r:(T6 ((List (List Int))×(List (List Int))) ((List (List Int))×(List (List Int))) (List Int) (List Int) (List (List Int)) (List (List Int))))=>Oc.rt true (dT [dT [dL (List.map lI r.a.1),dL (List.map lI r.a.2)],dT [dL (List.map lI r.b.1),dL (List.map lI r.b.2)],dL (List.map dI r.c),dL (List.map dI r.d),dL (List.map lI r.e),dL (List.map lI r.f)])) (m_law_two P0))
 unfold m_law_two
 exact (zaq (m:=true) (x:=(m_law_cell P0 (0:Int))) dI (λ(r:(T6 ((List (List Int))×(List (List Int))) ((List (List Int))×(List (List Int))) (List Int) (List Int) (List (List Int)) (List (List Int))))=>Oc.rt true (dT [dT [dL (List.map lI r.a.1),dL (List.map lI r.a.2)],dT [dL (List.map lI r.b.1),dL (List.map lI r.b.2)],dL (List.map dI r.c),dL (List.map dI r.d),dL (List.map lI r.e),dL (List.map lI r.f)])) (Ev.any (m:=true) (zal (x:=(P0,(0:Int))) (zac (zaa (i:=0) rfl) (zac zaz zaf)) rfl (by show zcr P0 (0:Int);unfold zcr;decide) rfl)) (λv193 hv193 =>
 (zaq (m:=true) (x:=((1:Int)+(v193%(4:Int)))) dI (λ(r:(T6 ((List (List Int))×(List (List Int))) ((List (List Int))×(List (List Int))) (List Int) (List Int) (List (List Int)) (List (List Int))))=>Oc.rt true (dT [dT [dL (List.map lI r.a.1),dL (List.map lI r.a.2)],dT [dL (List.map lI r.b.1),dL (List.map lI r.b.2)],dL (List.map dI r.c),dL (List.map dI r.d),dL (List.map lI r.e),dL (List.map lI r.f)])) (zaD (x:=(1:Int)) (y:=(v193%(4:Int))) zaz (zas (x:=v193) (y:=(4:Int)) (Ev.any (m:=true) (zaa (i:=1) rfl)) zaz (by decide))) (λv194 hv194 =>
 have hW0:=hv194;(zaq (m:=true) (x:=(cutD P0 (some (3:Int)) (some (63:Int)))) lI (λ(r:(T6 ((List (List Int))×(List (List Int))) ((List (List Int))×(List (List Int))) (List Int) (List Int) (List (List Int)) (List (List Int))))=>Oc.rt true (dT [dT [dL (List.map lI r.a.1),dL (List.map lI r.a.2)],dT [dL (List.map lI r.b.1),dL (List.map lI r.b.2)],dL (List.map dI r.c),dL (List.map dI r.d),dL (List.map lI r.e),dL (List.map lI r.f)])) (EvO.ev (EvO.anyI (m:=false) (zcY (f:=dI) (xs:=P0) (zaa (i:=0) rfl) (zbE zaz) (zbE zaz)))) (λv195 hv195 =>
 (zbR (b:=(decide (((v193/(48:Int))%(16:Int))=(5:Int)))) (λbb=>([.va false (dQ K (List.map dI P0)),.va true (dI v193),.va true (dI (bif bb then ((7:Int)+(v193%(2:Int))) else v194)),.va true (dL (List.map dI (bif bb then (cutD v195 none (some (16:Int))) else v195))),.no,.no,.no,.no,.no,.no,.no,.no]:L2.Ctx)) (zan (zcN (x:=((v193/(48:Int))%(16:Int))) (y:=(5:Int)) (zas (x:=(v193/(48:Int))) (y:=(16:Int)) (zas (x:=v193) (y:=(48:Int)) (Ev.any (m:=true) (zaa (i:=1) rfl)) zaz (by exact ⟨by decide,by decide⟩)) zaz (by decide)) zaz)) (λh196=>(zaK (m:=true) (zaD (x:=(7:Int)) (y:=(v193%(2:Int))) zaz (zas (x:=v193) (y:=(2:Int)) (Ev.any (m:=true) (zaa (i:=1) rfl)) zaz (by decide)))
 (zaK (m:=true) (EvO.ev (EvO.anyI (m:=true) (zcY (f:=dI) (xs:=v195) (Ev.weak (K:=K) (zaa (i:=3) rfl)) zdh (zbE zaz))))
 (zak (.eq (.eq (.eq (.eq (.eq (.eq (.eq (.eq (.eq (.eq (.eq (.eq .nil)))))))))))))))) (λh196=>(zak (.eq (.eq (.eq (.eq (.eq (.eq (.eq (.eq (.eq (.eq (.eq (.eq .nil))))))))))))))
 (zbv (x:=(bif (decide (((v193/(48:Int))%(16:Int))=(5:Int))) then ((7:Int)+(v193%(2:Int))) else v194)) (λv197=>([.va false (dQ K (List.map dI P0)),.va true (dI v193),.va true (dI v197),.va true (dL (List.map dI (bif (decide (((v193/(48:Int))%(16:Int))=(5:Int))) then (cutD v195 none (some (16:Int))) else v195))),.no,.no,.no,.no,.no,.no,.no,.no]:L2.Ctx)) (λ(r:(T6 ((List (List Int))×(List (List Int))) ((List (List Int))×(List (List Int))) (List Int) (List Int) (List (List Int)) (List (List Int))))=>Oc.rt true (dT [dT [dL (List.map lI r.a.1),dL (List.map lI r.a.2)],dT [dL (List.map lI r.b.1),dL (List.map lI r.b.2)],dL (List.map dI r.c),dL (List.map dI r.d),dL (List.map lI r.e),dL (List.map lI r.f)])) (λv197 hv197 =>
 have hW:=zpv hW0 hv197;(zbv (x:=(bif (decide (((v193/(48:Int))%(16:Int))=(5:Int))) then (cutD v195 none (some (16:Int))) else v195)) (λv198=>([.va false (dQ K (List.map dI P0)),.va true (dI v193),.va true (dI v197),.va true (dL (List.map dI v198)),.no,.no,.no,.no,.no,.no,.no,.no]:L2.Ctx)) (λ(r:(T6 ((List (List Int))×(List (List Int))) ((List (List Int))×(List (List Int))) (List Int) (List Int) (List (List Int)) (List (List Int))))=>Oc.rt true (dT [dT [dL (List.map lI r.a.1),dL (List.map lI r.a.2)],dT [dL (List.map lI r.b.1),dL (List.map lI r.b.2)],dL (List.map dI r.c),dL (List.map dI r.d),dL (List.map lI r.e),dL (List.map lI r.f)])) (λv198 hv198 =>
 (zaq (m:=true) (x:=(((v198.length:Nat):Int)/(4:Int))) dI (λ(r:(T6 ((List (List Int))×(List (List Int))) ((List (List Int))×(List (List Int))) (List Int) (List Int) (List (List Int)) (List (List Int))))=>Oc.rt true (dT [dT [dL (List.map lI r.a.1),dL (List.map lI r.a.2)],dT [dL (List.map lI r.b.1),dL (List.map lI r.b.2)],dL (List.map dI r.c),dL (List.map dI r.d),dL (List.map lI r.e),dL (List.map lI r.f)])) (zas (x:=((v198.length:Nat):Int)) (y:=(4:Int)) (zbK (f:=dI) (xs:=v198) (Ev.old (Ev.weak (K:=K) (zaa (i:=3) rfl)))) zaz (by exact ⟨by decide,by decide⟩)) (λv199 hv199 =>
 have hP:=hv199;(zaq (m:=true) (x:=(m_law_frame v197 (cutD v198 none (some v199)))) (λ(p:((List (List Int))×(List (List Int))))=>dT [dL (List.map lI p.1),dL (List.map lI p.2)]) (λ(r:(T6 ((List (List Int))×(List (List Int))) ((List (List Int))×(List (List Int))) (List Int) (List Int) (List (List Int)) (List (List Int))))=>Oc.rt true (dT [dT [dL (List.map lI r.a.1),dL (List.map lI r.a.2)],dT [dL (List.map lI r.b.1),dL (List.map lI r.b.2)],dL (List.map dI r.c),dL (List.map dI r.d),dL (List.map lI r.e),dL (List.map lI r.f)])) (zal (x:=(v197,(cutD v198 none (some v199)))) (zac (Ev.any (m:=true) (zaa (i:=2) rfl)) (zac (Ev.weak (K:=K) (EvO.ev (EvO.anyI (m:=true) (zcY (f:=dI) (xs:=v198) (Ev.weak (K:=K) (zaa (i:=3) rfl)) zdh (zbE (Ev.any (m:=true) (zaa (i:=4) rfl))))))) zaf)) rfl (by show zb9 v197 (cutD v198 none (some v199));exact hW) rfl) (λv200 hv200 =>
 have hF:=hv200;(zaK (m:=true) (zaa (i:=5) rfl)
 (zbR (b:=(decide (((v193/(4:Int))%(2:Int))=(1:Int)))) (λbb=>([.va false (dQ K (List.map dI P0)),.va true (dI v193),.va true (dI v197),.va true (dL (List.map dI v198)),.va true (dI v199),.va true (dT [dL (List.map lI v200.1),dL (List.map lI v200.2)]),.va true (dT [dL (List.map lI ((bif bb then (m_law_frame v197 (cutD v198 (some ((2:Int)*v199)) (some ((3:Int)*v199)))) else v200).1)),dL (List.map lI ((bif bb then (m_law_frame v197 (cutD v198 (some ((2:Int)*v199)) (some ((3:Int)*v199)))) else v200).2))]),.no,.no,.no,.no,.no]:L2.Ctx)) (zan (zcN (x:=((v193/(4:Int))%(2:Int))) (y:=(1:Int)) (zas (x:=(v193/(4:Int))) (y:=(2:Int)) (zas (x:=v193) (y:=(4:Int)) (Ev.any (m:=true) (zaa (i:=1) rfl)) zaz (by exact ⟨by decide,by decide⟩)) zaz (by decide)) zaz)) (λh201=>(zaK (m:=true) (zal (x:=(v197,(cutD v198 (some ((2:Int)*v199)) (some ((3:Int)*v199))))) (zac (Ev.any (m:=true) (zaa (i:=2) rfl)) (zac (Ev.weak (K:=K) (EvO.ev (EvO.anyI (m:=true) (zcY (f:=dI) (xs:=v198) (Ev.weak (K:=K) (zaa (i:=3) rfl)) (zbE (zas (x:=(2:Int)) (y:=v199) zaz (Ev.any (m:=true) (zaa (i:=4) rfl)) (by exact .inl ⟨by decide,by decide⟩))) (zbE (zas (x:=(3:Int)) (y:=v199) zaz (Ev.any (m:=true) (zaa (i:=4) rfl)) (by exact .inl ⟨by decide,by decide⟩))))))) zaf)) rfl (by show zb9 v197 (cutD v198 (some ((2:Int)*v199)) (some ((3:Int)*v199)));exact hW) rfl)
 (zak (.eq (.eq (.eq (.eq (.eq (.eq (.eq (.eq (.eq (.eq (.eq (.eq .nil))))))))))))))) (λh201=>(zak (.eq (.eq (.eq (.eq (.eq (.eq (.eq (.eq (.eq (.eq (.eq (.eq .nil))))))))))))))
 (zbv (x:=(bif (decide (((v193/(4:Int))%(2:Int))=(1:Int))) then (m_law_frame v197 (cutD v198 (some ((2:Int)*v199)) (some ((3:Int)*v199)))) else v200)) (λv202=>([.va false (dQ K (List.map dI P0)),.va true (dI v193),.va true (dI v197),.va true (dL (List.map dI v198)),.va true (dI v199),.va true (dT [dL (List.map lI v200.1),dL (List.map lI v200.2)]),.va true (dT [dL (List.map lI v202.1),dL (List.map lI v202.2)]),.no,.no,.no,.no,.no]:L2.Ctx)) (λ(r:(T6 ((List (List Int))×(List (List Int))) ((List (List Int))×(List (List Int))) (List Int) (List Int) (List (List Int)) (List (List Int))))=>Oc.rt true (dT [dT [dL (List.map lI r.a.1),dL (List.map lI r.a.2)],dT [dL (List.map lI r.b.1),dL (List.map lI r.b.2)],dL (List.map dI r.c),dL (List.map dI r.d),dL (List.map lI r.e),dL (List.map lI r.f)])) (λv202 hv202 =>
 have hS:=hv202;(zaq (m:=true) (x:=(m_law_bottoms v197 (m_law_raw P0 (1:Int)) (7:Int))) lI (λ(r:(T6 ((List (List Int))×(List (List Int))) ((List (List Int))×(List (List Int))) (List Int) (List Int) (List (List Int)) (List (List Int))))=>Oc.rt true (dT [dT [dL (List.map lI r.a.1),dL (List.map lI r.a.2)],dT [dL (List.map lI r.b.1),dL (List.map lI r.b.2)],dL (List.map dI r.c),dL (List.map dI r.d),dL (List.map lI r.e),dL (List.map lI r.f)])) (EvO.ev (EvO.anyI (m:=true) (zbH (x:=(v197,(m_law_raw P0 (1:Int)),(7:Int))) (zac (Ev.any (m:=true) (zaa (i:=2) rfl)) (zac (Ev.any (m:=true) (zal (x:=(P0,(1:Int))) (zac (zaa (i:=0) rfl) (zac zaz zaf)) rfl (by show zbZ P0 (1:Int);unfold zbZ;decide) rfl)) (zac zaz zaf))) rfl (by show zby v197 (m_law_raw P0 (1:Int)) (7:Int);exact ⟨by omega,by omega,by decide,by decide⟩) rfl))) (λv203 hv203 =>
 have hO:=hv203;(zaq (m:=true) (x:=(m_law_bottoms v197 (m_law_raw P0 (2:Int)) (7:Int))) lI (λ(r:(T6 ((List (List Int))×(List (List Int))) ((List (List Int))×(List (List Int))) (List Int) (List Int) (List (List Int)) (List (List Int))))=>Oc.rt true (dT [dT [dL (List.map lI r.a.1),dL (List.map lI r.a.2)],dT [dL (List.map lI r.b.1),dL (List.map lI r.b.2)],dL (List.map dI r.c),dL (List.map dI r.d),dL (List.map lI r.e),dL (List.map lI r.f)])) (EvO.ev (EvO.anyI (m:=true) (zbH (x:=(v197,(m_law_raw P0 (2:Int)),(7:Int))) (zac (Ev.any (m:=true) (zaa (i:=2) rfl)) (zac (Ev.any (m:=true) (zal (x:=(P0,(2:Int))) (zac (zaa (i:=0) rfl) (zac zaz zaf)) rfl (by show zbZ P0 (2:Int);unfold zbZ;decide) rfl)) (zac zaz zaf))) rfl (by show zby v197 (m_law_raw P0 (2:Int)) (7:Int);exact ⟨by omega,by omega,by decide,by decide⟩) rfl))) (λv204 hv204 =>
 have hT:=hv204;(zaq (m:=true) (x:=(max (0:Int) (min ((v193/(8:Int))%(3:Int)) ((5:Int)-v197)))) dI (λ(r:(T6 ((List (List Int))×(List (List Int))) ((List (List Int))×(List (List Int))) (List Int) (List Int) (List (List Int)) (List (List Int))))=>Oc.rt true (dT [dT [dL (List.map lI r.a.1),dL (List.map lI r.a.2)],dT [dL (List.map lI r.b.1),dL (List.map lI r.b.2)],dL (List.map dI r.c),dL (List.map dI r.d),dL (List.map lI r.e),dL (List.map lI r.f)])) (ziQ (x:=(0:Int)) (y:=(min ((v193/(8:Int))%(3:Int)) ((5:Int)-v197))) (zac zaz (zac (znK (x:=((v193/(8:Int))%(3:Int))) (y:=((5:Int)-v197)) (zac (zas (x:=(v193/(8:Int))) (y:=(3:Int)) (zas (x:=v193) (y:=(8:Int)) (Ev.any (m:=true) (zaa (i:=1) rfl)) zaz (by exact ⟨by decide,by decide⟩)) zaz (by decide)) (zac (zaD (x:=(5:Int)) (y:=v197) zaz (Ev.any (m:=true) (zaa (i:=2) rfl))) zaf))) zaf))) (λv205 hv205 =>
 have hI:=hv205;(zbR (b:=(decide ((4:Int)<v197))) (λbb=>([.va false (dQ K (List.map dI P0)),.va true (dI v193),.va true (dI v197),.va true (dL (List.map dI v198)),.va true (dI v199),.va true (dT [dL (List.map lI v200.1),dL (List.map lI v200.2)]),.va true (dT [dL (List.map lI v202.1),dL (List.map lI v202.2)]),.va true (dL (List.map dI (bif bb then (List.map (λ(x207:Int)=>((1:Int)+(x207%(6:Int)))) v203) else v203))),.va true (dL (List.map dI (bif bb then (List.map (λ(x210:Int)=>((1:Int)+(x210%(6:Int)))) v204) else v204))),.va true (dI v205),.no,.no]:L2.Ctx)) (zan (zaD (x:=v197) (y:=(4:Int)) (Ev.any (m:=true) (zaa (i:=2) rfl)) zaz)) (λh206=>(zaK (m:=true) (EvO.ev (EvO.conv (zbJ (g:=(λ(x207:Int)=>dI ((1:Int)+(x207%(6:Int))))) (zaX (m:=true) dI (xs:=v203) (Ev.weak (K:=K) (zaa (i:=7) rfl))) (by first | exact tw_bl hW hO | exact tw_bl hW hT) ⟨by decide,by decide⟩ (λi208 x207 hx209=>have v209:=List.mem_of_getElem? hx209;(zaD (x:=(1:Int)) (y:=(x207%(6:Int))) zaz (zas (x:=x207) (y:=(6:Int)) (Ev.any (m:=true) (zaa (i:=0) rfl)) zaz (by decide))))) (by first | (rw [List.map_map];rfl) | (simp only [cond_true,cond_false];rw [List.map_map];rfl))))
 (zaK (m:=true) (EvO.ev (EvO.conv (zbJ (g:=(λ(x210:Int)=>dI ((1:Int)+(x210%(6:Int))))) (zaX (m:=true) dI (xs:=v204) (Ev.weak (K:=K) (zaa (i:=8) rfl))) (by first | exact tw_bl hW hO | exact tw_bl hW hT) ⟨by decide,by decide⟩ (λi211 x210 hx212=>have v212:=List.mem_of_getElem? hx212;(zaD (x:=(1:Int)) (y:=(x210%(6:Int))) zaz (zas (x:=x210) (y:=(6:Int)) (Ev.any (m:=true) (zaa (i:=0) rfl)) zaz (by decide))))) (by first | (rw [List.map_map];rfl) | (simp only [cond_true,cond_false];rw [List.map_map];rfl))))
 (zak (.eq (.eq (.eq (.eq (.eq (.eq (.eq (.eq (.eq (.eq (.eq (.eq .nil)))))))))))))))) (λh206=>(zak (.eq (.eq (.eq (.eq (.eq (.eq (.eq (.eq (.eq (.eq (.eq (.eq .nil))))))))))))))
 (zbv (x:=(bif (decide ((4:Int)<v197)) then (List.map (λ(x207:Int)=>((1:Int)+(x207%(6:Int)))) v203) else v203)) (λv213=>([.va false (dQ K (List.map dI P0)),.va true (dI v193),.va true (dI v197),.va true (dL (List.map dI v198)),.va true (dI v199),.va true (dT [dL (List.map lI v200.1),dL (List.map lI v200.2)]),.va true (dT [dL (List.map lI v202.1),dL (List.map lI v202.2)]),.va true (dL (List.map dI v213)),.va true (dL (List.map dI (bif (decide ((4:Int)<v197)) then (List.map (λ(x210:Int)=>((1:Int)+(x210%(6:Int)))) v204) else v204))),.va true (dI v205),.no,.no]:L2.Ctx)) (λ(r:(T6 ((List (List Int))×(List (List Int))) ((List (List Int))×(List (List Int))) (List Int) (List Int) (List (List Int)) (List (List Int))))=>Oc.rt true (dT [dT [dL (List.map lI r.a.1),dL (List.map lI r.a.2)],dT [dL (List.map lI r.b.1),dL (List.map lI r.b.2)],dL (List.map dI r.c),dL (List.map dI r.d),dL (List.map lI r.e),dL (List.map lI r.f)])) (λv213 hv213 =>
 have hO1:=hv213;(zbv (x:=(bif (decide ((4:Int)<v197)) then (List.map (λ(x210:Int)=>((1:Int)+(x210%(6:Int)))) v204) else v204)) (λv214=>([.va false (dQ K (List.map dI P0)),.va true (dI v193),.va true (dI v197),.va true (dL (List.map dI v198)),.va true (dI v199),.va true (dT [dL (List.map lI v200.1),dL (List.map lI v200.2)]),.va true (dT [dL (List.map lI v202.1),dL (List.map lI v202.2)]),.va true (dL (List.map dI v213)),.va true (dL (List.map dI v214)),.va true (dI v205),.no,.no]:L2.Ctx)) (λ(r:(T6 ((List (List Int))×(List (List Int))) ((List (List Int))×(List (List Int))) (List Int) (List Int) (List (List Int)) (List (List Int))))=>Oc.rt true (dT [dT [dL (List.map lI r.a.1),dL (List.map lI r.a.2)],dT [dL (List.map lI r.b.1),dL (List.map lI r.b.2)],dL (List.map dI r.c),dL (List.map dI r.d),dL (List.map lI r.e),dL (List.map lI r.f)])) (λv214 hv214 =>
 have hT1:=hv214;(zaq (m:=true) (x:=(m_law_stirred v200.1 v213 v205 (cutD v198 (some v199) (some ((2:Int)*v199)))).1) (λ(xs:(List (List Int)))=>dL (List.map lI xs)) (λ(r:(T6 ((List (List Int))×(List (List Int))) ((List (List Int))×(List (List Int))) (List Int) (List Int) (List (List Int)) (List (List Int))))=>Oc.rt true (dT [dT [dL (List.map lI r.a.1),dL (List.map lI r.a.2)],dT [dL (List.map lI r.b.1),dL (List.map lI r.b.2)],dL (List.map dI r.c),dL (List.map dI r.d),dL (List.map lI r.e),dL (List.map lI r.f)])) (zcz (zal (x:=(v200.1,v213,v205,(cutD v198 (some v199) (some ((2:Int)*v199))))) (zac (Ev.old (Ev.weak (K:=K) (zcz (zaa (i:=5) rfl) zaz rfl))) (zac (Ev.old (Ev.weak (K:=K) (zaa (i:=7) rfl))) (zac (Ev.any (m:=true) (zaa (i:=9) rfl)) (zac (Ev.weak (K:=K) (EvO.ev (EvO.anyI (m:=true) (zcY (f:=dI) (xs:=v198) (Ev.weak (K:=K) (zaa (i:=3) rfl)) (zbE (Ev.any (m:=true) (zaa (i:=4) rfl))) (zbE (zas (x:=(2:Int)) (y:=v199) zaz (Ev.any (m:=true) (zaa (i:=4) rfl)) (by exact .inl ⟨by decide,by decide⟩))))))) zaf)))) rfl (by show zbA v200.1 v213 v205 (cutD v198 (some v199) (some ((2:Int)*v199)));exact zna hW hF hO hO1 (zpj hI)) rfl) zaz rfl) (λv215 hv215 =>
 (zaq (m:=true) (x:=(m_law_stirred v202.1 v214 ((v193/(24:Int))%(2:Int)) (cutD v198 (some ((3:Int)*v199)) none)).1) (λ(xs:(List (List Int)))=>dL (List.map lI xs)) (λ(r:(T6 ((List (List Int))×(List (List Int))) ((List (List Int))×(List (List Int))) (List Int) (List Int) (List (List Int)) (List (List Int))))=>Oc.rt true (dT [dT [dL (List.map lI r.a.1),dL (List.map lI r.a.2)],dT [dL (List.map lI r.b.1),dL (List.map lI r.b.2)],dL (List.map dI r.c),dL (List.map dI r.d),dL (List.map lI r.e),dL (List.map lI r.f)])) (zcz (zal (x:=(v202.1,v214,((v193/(24:Int))%(2:Int)),(cutD v198 (some ((3:Int)*v199)) none))) (zac (Ev.old (Ev.weak (K:=K) (zcz (zaa (i:=6) rfl) zaz rfl))) (zac (Ev.old (Ev.weak (K:=K) (zaa (i:=8) rfl))) (zac (zas (x:=(v193/(24:Int))) (y:=(2:Int)) (zas (x:=v193) (y:=(24:Int)) (Ev.any (m:=true) (zaa (i:=1) rfl)) zaz (by exact ⟨by decide,by decide⟩)) zaz (by decide)) (zac (Ev.weak (K:=K) (EvO.ev (EvO.anyI (m:=true) (zcY (f:=dI) (xs:=v198) (Ev.weak (K:=K) (zaa (i:=3) rfl)) (zbE (zas (x:=(3:Int)) (y:=v199) zaz (Ev.any (m:=true) (zaa (i:=4) rfl)) (by exact .inl ⟨by decide,by decide⟩))) zdh)))) zaf)))) rfl (by show zbA v202.1 v214 ((v193/(24:Int))%(2:Int)) (cutD v198 (some ((3:Int)*v199)) none);exact znp hW hF hS hT hT1) rfl) zaz rfl) (λv216 hv216 =>
 (zah (zap (zgT (zac (zaa (i:=5) rfl) (zac (zaa (i:=6) rfl) (zac (zaa (i:=7) rfl) (zac (zaa (i:=8) rfl) (zac (zaa (i:=10) rfl) (zac (zaa (i:=11) rfl) zaf)))))) (by show 6≤sizeLine;decide))))))))))))))))))))))))))))))))))))))
def GG (W bt R:Nat):Prop:=(W≤4∧bt=100∧R=7)∨(W≤8∧bt=56∧R=10)
structure Sd63 (W bt R:Nat) (f:List (List Int)×List (List Int)) (bs:List Int) (sw:List (List Int)):Prop where
 du:Lat.Du W f
 db:∀ d∈f.2,Lat.Bit 60 d
 rb:∀ r∈f.1,Lat.Bit bt r
 bl:bs.length=W
 b0:∀ b∈bs,0≤b
 b1:∀ b∈bs,b≤1000000001
 ln:sw.length+1≤R
 sr:∀ r∈sw,r.length=W∧Lat.Bit bt r
 sp:∀ u,Lat.SpL sw u ↔ Lat.SpL (Lat.scl f.1 bs) u
def T63 (y:T6 ((List (List Int))×(List (List Int))) ((List (List Int))×(List (List Int))) (List Int) (List Int) (List (List Int)) (List (List Int))):Prop:=∃ W bt R:Nat,1≤W∧GG W bt R∧Sd63 W bt R y.a y.c y.e∧Sd63 W bt R y.b y.d y.f
theorem zlG {W bt R:Nat} {w idle x k:Int} {b:Bool} {cs ds o o1:List Int} (hw:w=(W:Int)) (h1:1≤w∧w≤8) (hO:o=m_law_bottoms w x k) (hO1:o1=bif b then (List.map (λ(z:Int)=>((1:Int)+(z%(6:Int)))) o) else o) (hI:0≤idle∧idle≤3) (hR:W+idle.toNat+1≤R) (hc:2*cs.length≤60) (hb:2*cs.length+30+2*ds.length≤bt):Sd63 W bt R (m_law_frame w cs) o1 (m_law_stirred (m_law_frame w cs).1 o1 idle ds).1:=by
 have hF:=zhR (cs:=cs) hw h1.1
 obtain ⟨b1,b2⟩:=zmG h1 hO hO1
 have sb:=zib (cs:=ds) hF.1 (by omega) b2 hI
 refine ⟨zkG hw h1.1,λd hd=>((hF.2.2 d hd).2).mono hc,λr hr=>((hF.1.2 r hr).2).mono (by omega),by omega,λz hz=>(b2 z hz).1,λz hz=>(b2 z hz).2,?_,λr hr=>⟨(sb r hr).1,((sb r hr).2).mono hb⟩,λu=>(zfA (u:=u) hF.1 (by omega) b2 hI).1⟩
 have:=(zfA (cs:=ds) (u:=λ_=>0) hF.1 (by omega) b2 hI).2
 omega
theorem zfN {xs:List Int} {a b:Nat}:(cutD xs (some (a:Int)) (some (b:Int))).length≤b-a∧(cutD xs none (some (b:Int))).length≤b∧(cutD xs (some (a:Int)) none).length≤xs.length-a:=by
 unfold cutD
 simp only [HT.sIx_nat,HT.sIx_none,List.length_take,List.length_drop]
 omega
theorem zlb {xs:List Int} {y:T6 ((List (List Int))×(List (List Int))) ((List (List Int))×(List (List Int))) (List Int) (List Int) (List (List Int)) (List (List Int))} (hx:xs.length≤63) (e:y=m_law_two xs):T63 y:=by
 rw [e]
 unfold m_law_two Let
 dsimp only
 generalize m_law_cell xs 0=c
 have hc0:(cutD xs (some (3:Int)) (some (63:Int))).length≤60:=(zfN (a:=3) (b:=63)).1
 generalize cutD xs (some (3:Int)) (some (63:Int))=c0 at *
 have key:∀ (w:Int) (cs:List Int) (bt R:Nat),1≤w∧w≤8->GG w.toNat bt R->(∀ i:Int,i=max (0:Int) (min ((c/(8:Int))%(3:Int)) ((5:Int)-w))->w+i+1≤(R:Int))->w+2≤(R:Int)->cs.length≤60->2*(cs.length/4)+30+2*(cs.length-3*(cs.length/4))≤bt->T63 (T6.mk (m_law_frame w (cutD cs none (some (((cs.length:Nat):Int)/(4:Int))))) (bif (decide (((c/(4:Int))%(2:Int))=(1:Int))) then (m_law_frame w (cutD cs (some ((2:Int)*(((cs.length:Nat):Int)/(4:Int)))) (some ((3:Int)*(((cs.length:Nat):Int)/(4:Int)))))) else m_law_frame w (cutD cs none (some (((cs.length:Nat):Int)/(4:Int)))))
   (bif (decide ((4:Int)<w)) then (List.map (λ(x:Int)=>((1:Int)+(x%(6:Int)))) (m_law_bottoms w (m_law_raw xs (1:Int)) (7:Int))) else m_law_bottoms w (m_law_raw xs (1:Int)) (7:Int)) (bif (decide ((4:Int)<w)) then (List.map (λ(x:Int)=>((1:Int)+(x%(6:Int)))) (m_law_bottoms w (m_law_raw xs (2:Int)) (7:Int))) else m_law_bottoms w (m_law_raw xs (2:Int)) (7:Int))
   ((m_law_stirred (m_law_frame w (cutD cs none (some (((cs.length:Nat):Int)/(4:Int))))).1 (bif (decide ((4:Int)<w)) then (List.map (λ(x:Int)=>((1:Int)+(x%(6:Int)))) (m_law_bottoms w (m_law_raw xs (1:Int)) (7:Int))) else m_law_bottoms w (m_law_raw xs (1:Int)) (7:Int)) (max (0:Int) (min ((c/(8:Int))%(3:Int)) ((5:Int)-w))) (cutD cs (some (((cs.length:Nat):Int)/(4:Int))) (some ((2:Int)*(((cs.length:Nat):Int)/(4:Int)))))).1)
   ((m_law_stirred (bif (decide (((c/(4:Int))%(2:Int))=(1:Int))) then (m_law_frame w (cutD cs (some ((2:Int)*(((cs.length:Nat):Int)/(4:Int)))) (some ((3:Int)*(((cs.length:Nat):Int)/(4:Int)))))) else m_law_frame w (cutD cs none (some (((cs.length:Nat):Int)/(4:Int))))).1 (bif (decide ((4:Int)<w)) then (List.map (λ(x:Int)=>((1:Int)+(x%(6:Int)))) (m_law_bottoms w (m_law_raw xs (2:Int)) (7:Int))) else m_law_bottoms w (m_law_raw xs (2:Int)) (7:Int)) ((c/(24:Int))%(2:Int)) (cutD cs (some ((3:Int)*(((cs.length:Nat):Int)/(4:Int)))) none)).1)):=by
  intro w cs bt R hW hg hr1 hr2 hl hb
  obtain ⟨W,hWW⟩:∃ W:Nat,w=(W:Int):=⟨w.toNat,by omega⟩
  obtain ⟨p,hp⟩:∃ p:Nat,((cs.length:Nat):Int)/(4:Int)=(p:Int):=⟨cs.length/4,by omega⟩
  have hi:=zpj (c:=c) (w:=w) rfl
  have hr1:=hr1 _ rfl
  rw [hp,show (2:Int)*(p:Int)=((2*p:Nat):Int) by omega,show (3:Int)*(p:Int)=((3*p:Nat):Int) by omega]
  have hp':p=cs.length/4:=by omega
  have l1:=(zfN (xs:=cs) (a:=0) (b:=p)).2.1
  have l2:=(zfN (xs:=cs) (a:=p) (b:=2*p)).1
  have l3:=(zfN (xs:=cs) (a:=2*p) (b:=3*p)).1
  have l4:=(zfN (xs:=cs) (a:=3*p) (b:=0)).2.2
  have hWt:w.toNat=W:=by omega
  rw [hWt] at hg
  refine ⟨W,bt,R,by omega,hg,zlG hWW hW rfl rfl hi (by omega) (by omega) (by omega),?_⟩
  cases decide (((c/(4:Int))%(2:Int))=(1:Int)) with
  | true=>exact zlG hWW hW rfl rfl (by omega) (by omega) (by omega) (by omega)
  | false=>exact zlG hWW hW rfl rfl (by omega) (by omega) (by omega) (by omega)
 cases decide (((c/(48:Int))%(16:Int))=(5:Int)) with
 | true =>
  have l:=(zfN (xs:=c0) (a:=0) (b:=16)).2.1
  exact key (7+c%2) (cutD c0 none (some (16:Int))) 56 10 (by omega) (.inr ⟨by omega,rfl,rfl⟩) (λi hi=>by omega) (by omega) (Nat.le_trans l (by decide)) (by
   have l:(cutD c0 none (some (16:Int))).length≤16:=l
   omega)
 | false=>exact key (1+c%4) c0 100 7 (by omega) (.inl ⟨by omega,rfl,rfl⟩) (λi hi=>by omega) (by omega) hc0 (by omega)
def ShP (ds:List (List Int)) (x:List Int):Prop:=ds.length≤1000∧(∀ d∈ds,Lat.Bit 60 d)∧Lat.Bit 30000 x
theorem zmv {ds:List (List Int)} {x d:List Int} {i:Nat} {p:Int×Int} (h:ShP ds x) (hd:d∈ds) (hp:d[i]?=some p.1∧x[i]?=some p.2):zcC p.1 p.2:=Lat.zcC.of (h.2.1 d hd _ (List.mem_of_getElem? hp.1)) (h.2.2 _ (List.mem_of_getElem? hp.2)) (by decide) (by decide)
theorem znN {ds:List (List Int)} {x d s:List Int} {i:Nat} (h:ShP ds x) (hl:s.length≤i) (hi:ds[i]?=some d):s.length<PySem.sizeLine:=Nat.lt_of_le_of_lt (show s.length≤1000 by have:=(List.getElem?_eq_some_iff.mp hi).1;have:=h.1;omega) (by decide)
def m_law_shares (P0:(List (List Int))) (P1:(List Int)):(List Int) :=
 (Let (List.foldl (λ(s217:(List Int)) (x218:(List Int))=>(Let (List.foldl (λ(s222:Int) (x223:(Int×Int))=>(Let (s222+(x223.1*x223.2)) (λ(v227:Int) =>
 v227))) (0:Int) (List.zip x218 P1)) (λ(r228:Int) =>
 (s217++[r228])))) [] P0) (λ(r229:(List Int)) =>
 r229))
def zbL (P0:(List (List Int))) (P1:(List Int)):Prop:=ShP P0 P1
def zcF (K:W.Frag) (A:Adr):Sp:=Spv (ι:=(List (List Int))×(List Int)) (λx=>[dQ K (List.map lI x.1),dQ K (List.map dI x.2)]) (λx=>zbL x.1 x.2) (λx=>.ow true (List.map dI (m_law_shares x.1 x.2)))
theorem zbf:FnScope ["_law_duals","_law_basket","_law_found","_law_weights","_law_total","_law_one","_law_other"] ["_law_duals","_law_basket"] (zae zb2):=⟨rfl,rfl,rfl,by decide +kernel,rfl,by decide +kernel,by decide +kernel⟩
theorem zgg (F:Fun K "_law_shares" "_law_shares" zb2 f fd) (T:Txt K mg A) :FnOk P w K mg base (CXE P w) 1 f fd ["_law_duals","_law_basket"] (zcF K A):=by
 refine F.okV zbf (λ_=>rfl) (λcdv Ar outer s H E x hr hp=>?_)
 obtain ⟨P0,P1⟩:=x
 have hu:=hr.units
 replace hp:zbL P0 P1:=hp
 unfold zbL at hp
 refine ⟨_,(zab (zam (i:=2) zbf.nd rfl (Or.inl rfl) (zcP pa_nil))
 (zab (zbo PassesOwn.never rfl (zaB (K:=K) rfl (pv 0)) (pg_name (i:=3) zbf.nd rfl (Or.inl rfl) (Or.inl rfl))
 (zab (zam (i:=4) zbf.nd rfl (Or.inl rfl) zag)
 (zab (zbo PassesOwn.never rfl (zcm (K:=K) rfl rfl T.zip (pa_cons (pv 3) (pa_cons (pv 1) pa_nil))) (zbg (K:=K) (n:=2) rfl rfl (zav (pg_name (i:=5) zbf.nd rfl (Or.inl rfl) (Or.inl rfl)) (zav (pg_name (i:=6) zbf.nd rfl (Or.inl rfl) (Or.inl rfl)) zb1)))
 (zab (zam (i:=4) zbf.nd rfl (Or.inl rfl) (zar zca (pv 4) (zar zaS (pv 5) (pv 6))))
 zad))
 (zab (zcT (zbY (K:=K) rfl (pv 2) (pa_cons (pv 4) pa_nil)))
 zad))))
 (zab (zaw (pv 2))
 zad))),.inl ?_⟩
 show L2.Run _ ([.va false (dQ K (List.map lI P0)),.va false (dQ K (List.map dI P1)),.no,.no,.no,.no,.no]:L2.Ctx) _ ((λr=>Oc.rl true (List.map dI r)) (m_law_shares P0 P1))
 unfold m_law_shares
 exact (run_setO (m:=true) (ds:=List.map dI []) (zc2 (m:=true) zaf)
 (zbT (s0:=[]) (λ(s217:(List Int))=>([.va false (dQ K (List.map lI P0)),.va false (dQ K (List.map dI P1)),.ow true (List.map dI s217),.no,.no,.no,.no]:L2.Ctx)) (λr=>Oc.rl true (List.map dI r)) (λ(s217:(List Int)) (x218:(List Int))=>(Let (List.foldl (λ(s222:Int) (x223:(Int×Int))=>(Let (s222+(x223.1*x223.2)) (λ(v227:Int) =>
 v227))) (0:Int) (List.zip x218 P1)) (λ(r228:Int) =>
 (s217++[r228])))) (λ(i:Nat) (s217:(List Int))=>s217.length≤i) (zaX (m:=false) lI (xs:=P0) (zaa (i:=0) rfl)) (.eq (.eq (.eq (.eq (.eq (.eq (.eq .nil))))))) (by exact Nat.le_refl 0) (λi219 x218 s217 hx220 hI221=>have v220:=List.mem_of_getElem? hx220;⟨(by exact zjZ (by assumption)),
 (zaK (m:=true) zaz
 (zbT (s0:=(0:Int)) (λ(s222:Int)=>([.va false (dQ K (List.map lI P0)),.va false (dQ K (List.map dI P1)),.ow true (List.map dI s217),.va false (dL (List.map dI x218)),.va true (dI s222),.no,.no]:L2.Ctx)) (λz=>Oc.nx ((λ(s217:(List Int))=>([.va false (dQ K (List.map lI P0)),.va false (dQ K (List.map dI P1)),.ow true (List.map dI s217),.no,.no,.no,.no]:L2.Ctx)) z)) (λ(s222:Int) (x223:(Int×Int))=>(Let (s222+(x223.1*x223.2)) (λ(v227:Int) =>
 v227))) (λ_ _=>True) (zdI (m:=false) dI dI (xs:=x218) (ys:=P1) (Ev.weak (K:=K) (zaa (i:=3) rfl)) (zaa (i:=1) rfl)) (.eq (.eq (.eq (.eq (.eq (.eq (.eq .nil))))))) trivial (λi224 x223 s222 hx225 hI226=>have v225:=za6 hx225;⟨trivial,
 (zaq (m:=true) (x:=(s222+(x223.1*x223.2))) dI (λz=>Oc.nx ((λ(s222:Int)=>([.va false (dQ K (List.map lI P0)),.va false (dQ K (List.map dI P1)),.ow true (List.map dI s217),.va false (dL (List.map dI x218)),.va true (dI s222),.no,.no]:L2.Ctx)) z)) (zaD (x:=s222) (y:=(x223.1*x223.2)) (Ev.any (m:=true) (zaa (i:=4) rfl)) (zas (x:=x223.1) (y:=x223.2) (Ev.any (m:=false) (zaa (i:=5) rfl)) (Ev.any (m:=false) (zaa (i:=6) rfl)) (by exact zmv hp (by assumption) (by assumption)))) (λv227 hv227 =>
 (zak (.eq (.eq (.eq (.eq (.eq (.no (.no .nil))))))))))⟩) (λr228 hr228 hI =>
 (zb0 (f:=dI) (xs:=s217) (x:=r228) rfl (Ev.any (m:=true) (zaa (i:=4) rfl)) (by exact znN hp (by assumption) (by assumption))
 (zak (.eq (.eq (.eq (.no (.no (.eq (.eq .nil))))))))))))⟩) (λr229 hr229 hI =>
 (zc1 (zfP (i:=2) rfl)))))
def m_law_nothing (P0:(List (List Int))) (P1:(List Int)) (P2:(List Int)):Bool :=
 (LetR (loopR (λ(s230:Unit) (x231:(Int×Int))=>(((bif (((decide (x231.2=(0:Int)))&&(!decide (x231.1=(0:Int))))||((decide ((0:Int)<x231.2))&&(!decide ((x231.1%x231.2)=(0:Int))))) then (Sum.inr false)
 else (Sum.inl ()))):(Unit) ⊕ Bool)) () (List.zip (m_law_shares P0 P2) P1)) (λ(r236:Unit) =>
 true) (λb=>b))
def zbt (P0:(List (List Int))) (P1:(List Int)) (P2:(List Int)):Prop:=ShP P0 P2
def zcZ (K:W.Frag) (A:Adr):Sp:=Spv (ι:=(List (List Int))×(List Int)×(List Int)) (λx=>[dQ K (List.map lI x.1),dQ K (List.map dI x.2.1),dQ K (List.map dI x.2.2)]) (λx=>zbt x.1 x.2.1 x.2.2) (λx=>.va true (dB (m_law_nothing x.1 x.2.1 x.2.2)))
theorem zcW:FnScope ["_law_duals","_law_bottoms_here","_law_basket","_law_share","_law_number"] ["_law_duals","_law_bottoms_here","_law_basket"] (zae zbD):=⟨rfl,rfl,rfl,by decide +kernel,rfl,by decide +kernel,by decide +kernel⟩
theorem zfv (F:Fun K "_law_nothing" "_law_nothing" zbD f fd) (T:Txt K mg A) (G_law_shares:Callee P w K mg base (CXE P w) 1 "_law_shares" ["_law_duals","_law_basket"] (zcF K A)):FnOk P w K mg base (CXE P w) 2 f fd ["_law_duals","_law_bottoms_here","_law_basket"] (zcZ K A):=by
 refine F.okV zcW (λ_=>rfl) (λcdv Ar outer s H E x hr hp=>?_)
 obtain ⟨P0,P1,P2⟩:=x
 have hu:=hr.units
 replace hp:zbt P0 P1 P2:=hp
 unfold zbt at hp
 refine ⟨_,(zab (zbo PassesOwn.never rfl (zcm (K:=K) rfl rfl T.zip (pa_cons (zaC G_law_shares (hr.mono (by decide)) rfl zaA (pa_cons (pv 0) (pa_cons (pv 2) pa_nil))) (pa_cons (pv 1) pa_nil))) (zbg (K:=K) (n:=2) rfl rfl (zav (pg_name (i:=3) zcW.nd rfl (Or.inl rfl) (Or.inl rfl)) (zav (pg_name (i:=4) zcW.nd rfl (Or.inl rfl) (Or.inl rfl)) zb1)))
 (zab (zbd (PW.pt (zf6 (PW.pt (zgJ (pt_cmpR zd8 (pv 4) zag (nomark _)) (zeN (pt_cmpR op_ne (pv 3) zag (nomark _))))) (pw_or1 (PW.pt (zgJ (pt_cmpR zgn (pv 4) zag (nomark _)) (zeN (pt_cmpR op_ne (zar zbN (pv 3) (pv 4)) zag (nomark _))))))))
 (zab (zaw zc8)
 zad)
 zad)
 zad))
 (zab (zaw zc8)
 zad)),.inl ?_⟩
 show L2.Run _ ([.va false (dQ K (List.map lI P0)),.va false (dQ K (List.map dI P1)),.va false (dQ K (List.map dI P2)),.no,.no]:L2.Ctx) _ ((λ(r:Bool)=>Oc.rt true (dB r)) (m_law_nothing P0 P1 P2))
 unfold m_law_nothing
 exact (zb7 (s0:=()) (λ(s230:Unit)=>([.va false (dQ K (List.map lI P0)),.va false (dQ K (List.map dI P1)),.va false (dQ K (List.map dI P2)),.no,.no]:L2.Ctx)) (λ(r:Bool)=>Oc.rt true (dB r)) (λb=>b) (λ(s230:Unit) (x231:(Int×Int))=>(((bif (((decide (x231.2=(0:Int)))&&(!decide (x231.1=(0:Int))))||((decide ((0:Int)<x231.2))&&(!decide ((x231.1%x231.2)=(0:Int))))) then (Sum.inr false)
 else (Sum.inl ()))):(Unit) ⊕ Bool)) (λ_ _=>True) (λb=>.inl ⟨_,_,rfl⟩) (zdI (m:=false) dI dI (xs:=(m_law_shares P0 P2)) (ys:=P1) (Ev.weak (K:=K) (EvO.ev (EvO.anyI (m:=true) (zbH (x:=(P0,P2)) (zac (zaa (i:=0) rfl) (zac (zaa (i:=2) rfl) zaf)) rfl (by show zbL P0 P2;exact hp) rfl)))) (zaa (i:=1) rfl)) (.eq (.eq (.eq (.eq (.eq .nil))))) trivial (λi232 x231 s230 hx233 hI234=>have v233:=za6 hx233;⟨(λ_ _=>trivial),
 (zax (b:=(((decide (x231.2=(0:Int)))&&(!decide (x231.1=(0:Int))))||((decide ((0:Int)<x231.2))&&(!decide ((x231.1%x231.2)=(0:Int)))))) (zcw (λ(s230:Unit)=>([.va false (dQ K (List.map lI P0)),.va false (dQ K (List.map dI P1)),.va false (dQ K (List.map dI P2)),.no,.no]:L2.Ctx)) (λ(r:Bool)=>Oc.rt true (dB r))) (zd1 (b:=((decide (x231.2=(0:Int)))&&(!decide (x231.1=(0:Int))))) (zfd (b:=(decide (x231.2=(0:Int)))) (zan (zcN (x:=x231.2) (y:=(0:Int)) (Ev.any (m:=false) (zaa (i:=4) rfl)) zaz)) (λhb=>(zan (zcO (x:=x231.1) (y:=(0:Int)) (Ev.any (m:=false) (zaa (i:=3) rfl)) zaz)))) (λhb=>(zfd (b:=(decide ((0:Int)<x231.2))) (zan (zaD (x:=x231.2) (y:=(0:Int)) (Ev.any (m:=false) (zaa (i:=4) rfl)) zaz)) (λhb=>(zan (zcO (x:=(x231.1%x231.2)) (y:=(0:Int)) (zas (x:=x231.1) (y:=x231.2) (Ev.any (m:=false) (zaa (i:=3) rfl)) (Ev.any (m:=false) (zaa (i:=4) rfl)) (by show (0:Int)<_;exact of_decide_eq_true (by assumption))) zaz)))))) (λh235=>(zai (zah (zap zaz)))) (λh235 =>
 (zaj (zak (.eq (.eq (.eq (.no (.no .nil)))))))))⟩) (λr236 hr236 hI =>
 (zah (zap zaz))))
theorem zlr:∀ (w t:List Int) (a:Int),List.foldl (λ(s:Int) (x:Int×Int)=>Let (s+(x.1*x.2)) (λ(y:Int)=>y)) a (List.zip w t)=a+(List.map (λ(x:Int×Int)=>x.1*x.2) (List.zip w t)).sum
 | [],_,a=>by show a=a+0;omega
 | _ :: _,[],a=>by show a=a+0;omega
 | x :: w,y :: t,a=>by
  show List.foldl _ (a+x*y) (List.zip w t)=a+(x*y+(List.map (λ(x:Int×Int)=>x.1*x.2) (List.zip w t)).sum)
  rw [zlr w t];omega
theorem zgm (ds:List (List Int)) (x:List Int):m_law_shares ds x=ds.map λd=>Lat.dv d (Lat.vec x):=by
 show List.foldl (λ(s:List Int) (d:List Int)=>s++[List.foldl (λ(s:Int) (x:Int×Int)=>Let (s+(x.1*x.2)) (λ(y:Int)=>y)) 0 (List.zip d x)]) [] ds=_
 rw [Lat.zf3,List.nil_append]
 refine List.map_congr_left λd _=>?_
 rw [zlr,Int.zero_add,Lat.zk0]
theorem zmA {γ β:Type} {f:Unit->γ->Unit ⊕ β} {p:γ} {l:List γ} (h:f () p=.inl ()):loopR f () (p :: l)=loopR f () l:=by
 rw [loopR,h]
theorem zmd {γ β:Type} {f:Unit->γ->Unit ⊕ β} {p:γ} {l:List γ} {v:β} (h:f () p=.inr v):loopR f () (p :: l)=.inr v:=by
 rw [loopR,h]
theorem zgN {γ:Type} {c:γ->Bool}:∀ (l:List γ),LetR (loopR (λ(_:Unit) (p:γ)=>((bif c p then (Sum.inr false) else (Sum.inl ())):Unit ⊕ Bool)) () l) (λ_=>true) (λb=>b)=l.all λp=>!c p
 | []=>rfl
 | p :: l=>by
  rw [List.all_cons]
  cases q:c p
  ·rw [zmA (by show (bif c p then _ else _)=_;rw [q];rfl),zgN l];rfl
  ·rw [zmd (v:=false) (by show (bif c p then _ else _)=_;rw [q];rfl)];rfl
theorem zli {W:Nat} {f:List (List Int)×List (List Int)} {bs x:List Int} (h:Lat.Du W f) (hb:bs.length=W) (h0:∀ b∈bs,0≤b) (hx:x.length=W):m_law_nothing f.2 bs x=true ↔ Lat.SpL (Lat.scl f.1 bs) (Lat.vec x):=by
 unfold m_law_nothing
 rw [zgN,List.all_eq_true,zgm]
 have cd:∀ a b:Int,0≤b->((!(((decide (b=(0:Int)))&&(!decide (a=(0:Int))))||((decide ((0:Int)<b))&&(!decide ((a%b)=(0:Int))))))=true ↔ b ∣ a):=λa b hb=>by
  by_cases q:b=0
  ·subst q
   simp
  ·have:0<b:=by omega
   rw [decide_eq_false q,decide_eq_true this]
   simp [Int.dvd_iff_emod_eq_zero]
 constructor
 ·intro k
  refine Lat.scl_of h hb h0 (λj hj=>Lat.zcv (by omega)) λi t b ht hbi=>?_
  have hz:(List.zip (f.2.map λd=>Lat.dv d (Lat.vec x)) bs)[i]?=some (Lat.dv t (Lat.vec x),b):=by
   rw [List.getElem?_zip_eq_some]
   exact ⟨by rw [List.getElem?_map,ht];rfl,hbi⟩
  exact (cd _ _ (h0 b (List.mem_of_getElem? hbi))).mp (k _ (List.mem_of_getElem? hz))
 ·intro k p hp
  obtain ⟨i,hi⟩:=List.getElem?_of_mem hp
  obtain ⟨i1,i2⟩:=za6 hi
  rw [List.getElem?_map] at i1
  cases q:f.2[i]? with
  | none=>rw [q] at i1;cases i1
  | some t =>
   rw [q] at i1
   have i1:Lat.dv t (Lat.vec x)=p.1:=Option.some.inj i1
   refine (cd _ _ (h0 _ (List.mem_of_getElem? i2))).mpr ?_
   rw [← i1]
   exact Lat.scl_to h k q i2
def GcI (a b:Int) (p:Int×Int):Prop:=0≤p.1∧0≤p.2∧Int.gcd p.1 p.2=Int.gcd a b
theorem GcI.start {a b:Int} (h:0≤a∧0≤b):GcI a b (a,b):=⟨h.1,h.2,rfl⟩
theorem GcI.step {a b:Int} {p:Int×Int} (I:GcI a b p) (h:decide ((0:Int)<p.2)=true):GcI a b (p.2,p.1%p.2)∧(p.1%p.2).toNat<p.2.toNat:=by
 have h:=of_decide_eq_true h
 obtain ⟨h1,h2,h3⟩:=I
 have m0:=Int.emod_nonneg p.1 (show p.2≠0 by omega)
 have m1:=Int.emod_lt_of_pos p.1 h
 refine ⟨⟨by omega,m0,?_⟩,by omega⟩
 rw [← h3]
 show Int.gcd p.2 (p.1%p.2)=_
 rw [Int.gcd_comm p.1 p.2,Int.gcd_comm p.2 (p.1%p.2)]
 obtain ⟨x,hx⟩:∃ x:Nat,p.1=(x:Int):=⟨p.1.toNat,by omega⟩
 obtain ⟨y,hy⟩:∃ y:Nat,p.2=(y:Int):=⟨p.2.toNat,by omega⟩
 rw [hx,hy,← Int.natCast_emod,Int.gcd_natCast_natCast,Int.gcd_natCast_natCast]
 exact (Nat.gcd_rec y x).symm
def m_law_shared (P0:Int) (P1:Int):Int :=
 (Let (whl (λ(s237:Int×Int)=>(decide ((0:Int)<s237.2))) (λ(s237:Int×Int)=>(s237.2,(s237.1%s237.2))) (P1.toNat) (P0,P1)) (λ(r240:Int×Int) =>
 r240.1))
def zbM (P0:Int) (P1:Int):Prop:=0≤P0∧0≤P1
def zcB (K:W.Frag) (A:Adr):Sp:=Spv (ι:=Int×Int) (λx=>[dI x.1,dI x.2]) (λx=>zbM x.1 x.2) (λx=>.va true (dI (m_law_shared x.1 x.2)))
theorem zd5:FnScope ["_law_one","_law_other"] ["_law_one","_law_other"] (zae zb4):=⟨rfl,rfl,rfl,by decide +kernel,rfl,by decide +kernel,by decide +kernel⟩
theorem zf5 (F:Fun K "_law_shared" "_law_shared" zb4 f fd) (T:Txt K mg A) :FnOk P w K mg base (CXE P w) 1 f fd ["_law_one","_law_other"] (zcB K A):=by
 refine F.okV zd5 (λ_=>rfl) (λcdv Ar outer s H E x hr hp=>?_)
 obtain ⟨P0,P1⟩:=x
 have hu:=hr.units
 replace hp:zbM P0 P1:=hp
 unfold zbM at hp
 refine ⟨_,(zab (zhX PassesOwn.never (pt_cmpR zgn (pv 1) zag (nomark _))
 (zab (ps_par (i:=0) (j:=1) rfl zd5.nd rfl rfl (by decide) rfl rfl (pa_cons (pv 1) (pa_cons (zar zbN (pv 0) (pv 1)) pa_nil)) rfl)
 zad))
 (zab (zaw (pv 0))
 zad)),.inl ?_⟩
 show L2.Run _ ([.va false (dI P0),.va false (dI P1)]:L2.Ctx) _ ((λ(r:Int)=>Oc.rt true (dI r)) (m_law_shared P0 P1))
 unfold m_law_shared
 exact (zgk (s0:=(P0,P1)) (λ(s237:Int×Int)=>([.va false (dI s237.1),.va false (dI s237.2)]:L2.Ctx)) (λ(r:Int)=>Oc.rt true (dI r)) (λ(s237:Int×Int)=>(decide ((0:Int)<s237.2))) (λ(s237:Int×Int)=>(s237.2,(s237.1%s237.2))) (λ(s237:Int×Int)=>GcI P0 P1 s237) (λ(s237:Int×Int)=>(s237.2).toNat) (P1.toNat) (.eq (.eq .nil)) (by exact GcI.start hp) (by exact Nat.le_refl _) (λs237 hI238=>⟨(zan (zaD (x:=s237.2) (y:=(0:Int)) (Ev.any (m:=false) (zaa (i:=1) rfl)) zaz)),λhc239=>⟨(by exact GcI.step (by assumption) (by assumption)),
 (zlZ (x:=s237.2) (y:=(s237.1%s237.2)) (Ev.any (m:=false) (zaa (i:=1) rfl)) (zas (x:=s237.1) (y:=s237.2) (Ev.any (m:=false) (zaa (i:=0) rfl)) (Ev.any (m:=false) (zaa (i:=1) rfl)) (by show (0:Int)<_;exact of_decide_eq_true (by assumption)))
 (zak (.eq (.eq .nil))))⟩⟩) (λr240 hr240 hI hc =>
 (zah (zap (Ev.any (m:=false) (zaa (i:=0) rfl))))))
theorem zeZ {a b:Int} (h:0≤a∧0≤b):m_law_shared a b=((Int.gcd a b:Nat):Int):=by
 obtain ⟨⟨h1,h2,h3⟩,h4⟩:=zge (c:=λ(s:Int×Int)=>decide ((0:Int)<s.2)) (f:=λ(s:Int×Int)=>(s.2,(s.1%s.2))) (I:=GcI a b) (μ:=λs=>s.2.toNat) (λs hs hc=>GcI.step hs hc) (n:=b.toNat) (s:=(a,b)) (GcI.start h) (Nat.le_refl _)
 show (whl (λ(s:Int×Int)=>decide ((0:Int)<s.2)) (λ(s:Int×Int)=>(s.2,(s.1%s.2))) b.toNat (a,b)).1=_
 generalize whl (λ(s:Int×Int)=>decide ((0:Int)<s.2)) (λ(s:Int×Int)=>(s.2,(s.1%s.2))) b.toNat (a,b)=r at *
 have h4:=of_decide_eq_false h4
 have e:r.2=0:=by omega
 rw [e,Int.gcd_zero_right] at h3
 omega
def MuP (a b:Int):Prop:=0≤a∧0≤b∧a.natAbs≤2^300∧b.natAbs≤2^300
theorem zpk {a b:Int} (h:MuP a b) (q:((decide (a=(0:Int)))||(decide (b=(0:Int))))=false):0<a∧0<b∧0<m_law_shared a b∧m_law_shared a b ∣ a∧m_law_shared a b ∣ b:=by
 simp only [Bool.or_eq_false_iff,decide_eq_false_iff_not] at q
 obtain ⟨h1,h2,h3,h4⟩:=h
 rw [zeZ ⟨h1,h2⟩]
 have:0<Int.gcd a b:=Int.gcd_pos_of_ne_zero_left b q.1
 exact ⟨by omega,by omega,by omega,Int.gcd_dvd_left ..,Int.gcd_dvd_right ..⟩
theorem znM {a b:Int} (h:MuP a b) (q:((decide (a=(0:Int)))||(decide (b=(0:Int))))=false):zdP a (m_law_shared a b):=by
 obtain ⟨g1,g2,g3,g4,g5⟩:=zpk h q
 have:=Int.le_of_dvd g1 g4
 have h3:=h.2.2.1
 generalize 2^300=B at h3
 exact Lat.zdP.of (b:=300) g3 (Nat.le_trans (show (m_law_shared a b).natAbs≤a.natAbs by omega) h.2.2.1) (by decide)
theorem zmK {a b:Int} (h:MuP a b) (q:((decide (a=(0:Int)))||(decide (b=(0:Int))))=false):zcC (a/m_law_shared a b) b:=by
 obtain ⟨g1,g2,g3,g4,g5⟩:=zpk h q
 exact Lat.zcC.of (Lat.zdS g3 h.2.2.1) h.2.2.2 (by decide) (by decide)
def m_law_multiple (P0:Int) (P1:Int):Int :=
 (bif ((decide (P0=(0:Int)))||(decide (P1=(0:Int)))) then (0:Int)
 else ((P0/(m_law_shared P0 P1))*P1))
def zbk (P0:Int) (P1:Int):Prop:=MuP P0 P1
def zb6 (K:W.Frag) (A:Adr):Sp:=Spv (ι:=Int×Int) (λx=>[dI x.1,dI x.2]) (λx=>zbk x.1 x.2) (λx=>.va true (dI (m_law_multiple x.1 x.2)))
theorem zeP:FnScope ["_law_one","_law_other"] ["_law_one","_law_other"] (zae zbm):=⟨rfl,rfl,rfl,by decide +kernel,rfl,by decide +kernel,by decide +kernel⟩
theorem zeL (F:Fun K "_law_multiple" "_law_multiple" zbm f fd) (T:Txt K mg A) (G_law_shared:Callee P w K mg base (CXE P w) 1 "_law_shared" ["_law_one","_law_other"] (zcB K A)):FnOk P w K mg base (CXE P w) 2 f fd ["_law_one","_law_other"] (zb6 K A):=by
 refine F.okV zeP (λ_=>rfl) (λcdv Ar outer s H E x hr hp=>?_)
 obtain ⟨P0,P1⟩:=x
 have hu:=hr.units
 replace hp:zbk P0 P1:=hp
 unfold zbk at hp
 refine ⟨_,(zab (zbd (PW.pt (zf6 (pt_cmpR zd8 (pv 0) zag (nomark _)) (pw_or1 (pt_cmpR zd8 (pv 1) zag (nomark _)))))
 (zab (zaw zag)
 zad)
 zad)
 (zab (zaw (zar zaS (zar za9 (pv 0) (zaC G_law_shared (hr.mono (by decide)) rfl zaA (pa_cons (pv 0) (pa_cons (pv 1) pa_nil)))) (pv 1)))
 zad)),.inl ?_⟩
 show L2.Run _ ([.va false (dI P0),.va false (dI P1)]:L2.Ctx) _ ((λ(r:Int)=>Oc.rt true (dI r)) (m_law_multiple P0 P1))
 unfold m_law_multiple
 exact (zax (b:=((decide (P0=(0:Int)))||(decide (P1=(0:Int))))) (λ(r:Int)=>Oc.rt true (dI r)) (zd1 (b:=(decide (P0=(0:Int)))) (zan (zcN (x:=P0) (y:=(0:Int)) (Ev.any (m:=false) (zaa (i:=0) rfl)) zaz)) (λhb=>(zan (zcN (x:=P1) (y:=(0:Int)) (Ev.any (m:=false) (zaa (i:=1) rfl)) zaz)))) (λh241=>(zai (zah (zap zaz)))) (λh241 =>
 (zaj (zah (zap (zas (x:=(P0/(m_law_shared P0 P1))) (y:=P1) (zas (x:=P0) (y:=(m_law_shared P0 P1)) (Ev.any (m:=false) (zaa (i:=0) rfl)) (Ev.any (m:=true) (zal (x:=(P0,P1)) (zac (Ev.any (m:=false) (zaa (i:=0) rfl)) (zac (Ev.any (m:=false) (zaa (i:=1) rfl)) zaf)) rfl (by show zbM P0 P1;exact ⟨hp.1,hp.2.1⟩) rfl)) (by exact znM hp (by assumption))) (Ev.any (m:=false) (zaa (i:=1) rfl)) (by exact zmK hp (by assumption))))))))
theorem zcL {a b:Int} (h:0≤a∧0≤b):m_law_multiple a b=((Int.lcm a b:Nat):Int):=by
 unfold m_law_multiple
 by_cases q:a=0
 ·subst q;simp
 ·by_cases q2:b=0
  ·subst q2;simp
  ·rw [decide_eq_false q,decide_eq_false q2]
   show a/m_law_shared a b*b=_
   rw [zeZ h]
   obtain ⟨x,rfl⟩:∃ x:Nat,a=(x:Int):=⟨a.toNat,by omega⟩
   obtain ⟨y,rfl⟩:∃ y:Nat,b=(y:Int):=⟨b.toNat,by omega⟩
   rw [Int.gcd_natCast_natCast,Int.lcm_natCast_natCast,← Int.natCast_ediv,← Int.natCast_mul]
   congr 1
   rw [Nat.lcm]
   exact (Nat.div_mul_right_comm (Nat.gcd_dvd_left x y) y)
theorem zk5 {a b:Int} {i j:Nat} (ha:0≤a) (hb:0≤b) (h1:a.natAbs≤2^i) (h2:b.natAbs≤2^j):0≤m_law_multiple a b∧(m_law_multiple a b).natAbs≤2^(i+j):=by
 rw [zcL ⟨ha,hb⟩]
 refine ⟨Int.natCast_nonneg _,?_⟩
 rw [Int.natAbs_natCast]
 refine Nat.le_trans (m:=a.natAbs*b.natAbs) ?_ (by rw [Nat.pow_add];exact Nat.mul_le_mul h1 h2)
 show Nat.lcm a.natAbs b.natAbs≤_
 rw [Nat.lcm];exact Nat.div_le_self _ _
theorem zeR {σ γ β:Type} {f:σ->γ->σ ⊕ β} {s s':σ} {x:γ} {xs:List γ} (h:f s x=.inl s'):loopR f s (x :: xs)=loopR f s' xs:=by rw [loopR,h]
theorem zj7 {σ γ β:Type} {f:σ->γ->σ ⊕ β} {s:σ} {v:β} {x:γ} {xs:List γ} (h:f s x=.inr v):loopR f s (x :: xs)=.inr v:=by rw [loopR,h]
theorem zpg {b c:Int} (hb:0<b):0<m_law_shared b (c%b)∧m_law_shared b (c%b) ∣ b∧m_law_shared b (c%b) ∣ c:=by
 have m0:=Int.emod_nonneg c (show b≠0 by omega)
 rw [zeZ ⟨by omega,m0⟩]
 have g1:0<Int.gcd b (c%b):=Int.gcd_pos_of_ne_zero_left _ (by omega)
 have g2:((Int.gcd b (c%b):Nat):Int) ∣ b:=Int.gcd_dvd_left ..
 have g3:((Int.gcd b (c%b):Nat):Int) ∣ c%b:=Int.gcd_dvd_right ..
 refine ⟨by omega,g2,?_⟩
 have:=Int.dvd_add (Int.dvd_trans g2 (Int.dvd_mul_right b (c/b))) g3
 have e:b*(c/b)+c%b=c:=by have:=Int.emod_def c b;omega
 rw [e] at this
 exact this
theorem zg8 {b c:Int} (hb:0<b):0<b/m_law_shared b (c%b)∧b/m_law_shared b (c%b)≤b∧b ∣ b/m_law_shared b (c%b)*c:=by
 obtain ⟨g1,g2,g3⟩:=zpg (c:=c) hb
 generalize m_law_shared b (c%b)=g at *
 obtain ⟨k,hk⟩:=g2
 obtain ⟨l,hl⟩:=g3
 have e:b/g=k:=by rw [hk];exact Int.mul_ediv_cancel_left _ (by omega)
 have hk0:0<k:=by
  rcases Int.lt_trichotomy k 0 with q | q | q
  ·have:=Int.mul_neg_of_pos_of_neg g1 q;omega
  ·subst q;simp at hk;omega
  ·exact q
 rw [e]
 refine ⟨hk0,?_,⟨l,?_⟩⟩
 ·have:=Int.mul_le_mul_of_nonneg_right (show 1≤g by omega) (show 0≤k by omega)
  omega
 ·rw [hl,hk];grind
def OfP (ds:List (List Int)) (bs x:List Int):Prop:=ShP ds x∧bs.length≤8∧∀ b∈bs,0≤b∧b≤1000000001
def OfI (i:Nat) (s:Int):Prop:=0<s∧s.natAbs≤2^(30*i)
theorem zo5:OfI 0 1:=⟨by decide,by decide⟩
def ofF:Int->Int×Int->Int ⊕ Int:=λs x=>((bif ((decide (x.2=(0:Int)))&&(!decide (x.1=(0:Int)))) then (Sum.inr (0:Int)) else (Let (bif (decide ((0:Int)<x.2)) then (m_law_multiple s (x.2/(m_law_shared x.2 (x.1%x.2)))) else s) (λ(n:Int)=>(Sum.inl n)))):Int ⊕ Int)
theorem zoW {i:Nat} {s b c:Int} (I:OfI i s) (hb:0<b) (h2:b≤1000000001):OfI (i+1) (m_law_multiple s (b/m_law_shared b (c%b))):=by
 obtain ⟨p1,p2,_⟩:=zg8 (c:=c) hb
 have h:=zk5 (i:=30*i) (j:=30) (by have:=I.1;omega) (by omega) I.2 (show (b/m_law_shared b (c%b)).natAbs≤2^30 by omega)
 refine ⟨?_,by rw [show 30*(i+1)=30*i+30 by omega];exact h.2⟩
 rw [zcL ⟨by have:=I.1;omega,by omega⟩]
 have:=Int.lcm_pos (m:=s) (n:=b/m_law_shared b (c%b)) (by have:=I.1;omega) (by omega)
 omega
theorem zoa {i:Nat} {s z:Int} {x:Int×Int} (I:OfI i s) (h2:x.2≤1000000001) (hz:ofF s x=.inl z):OfI (i+1) z:=by
 unfold ofF Let at hz
 cases q:((decide (x.2=(0:Int)))&&(!decide (x.1=(0:Int)))) with
 | true=>rw [q] at hz;cases hz
 | false =>
  rw [q,cond_false] at hz
  cases q2:decide ((0:Int)<x.2) with
  | true =>
   rw [q2,cond_true] at hz
   rw [← Sum.inl.inj hz]
   exact zoW I (of_decide_eq_true q2) h2
  | false =>
   rw [q2,cond_false] at hz
   rw [← Sum.inl.inj hz]
   exact ⟨I.1,Nat.le_trans I.2 (Nat.pow_le_pow_right (by decide) (by omega))⟩
section
variable {ds:List (List Int)} {bs b:List Int} {i:Nat} {s z:Int} {x:Int×Int}
theorem zoZ (h:OfP ds bs b) (hx:(m_law_shares ds b)[i]?=some x.1∧bs[i]?=some x.2):i<8∧0≤x.2∧x.2≤1000000001:=by
 have:=(List.getElem?_eq_some_iff.mp hx.2).1
 have:=h.2.2 _ (List.mem_of_getElem? hx.2)
 have:=h.2.1
 omega
theorem of_s (h:OfP ds bs b) (I:OfI i s) (hx:(m_law_shares ds b)[i]?=some x.1∧bs[i]?=some x.2) (hz:ofF s x=.inl z):OfI (i+1) z:=zoa I (zoZ h hx).2.2 hz
theorem zoo (q:decide ((0:Int)<x.2)=true):0≤x.2∧0≤x.1%x.2:=by
 have q:=of_decide_eq_true q
 exact ⟨by omega,Int.emod_nonneg _ (by omega)⟩
theorem zn5 (h:OfP ds bs b) (hx:(m_law_shares ds b)[i]?=some x.1∧bs[i]?=some x.2) (q:decide ((0:Int)<x.2)=true):zdP x.2 (m_law_shared x.2 (x.1%x.2)):=by
 have q:=of_decide_eq_true q
 obtain ⟨g1,g2,_⟩:=zpg (c:=x.1) q
 have:=Int.le_of_dvd q g2
 have:=(zoZ h hx).2.2
 exact Lat.zdP.of (b:=30) g1 (show _≤2^30 by omega) (by decide)
theorem zoF (h:OfP ds bs b) (I:OfI i s) (hx:(m_law_shares ds b)[i]?=some x.1∧bs[i]?=some x.2) (q:decide ((0:Int)<x.2)=true):MuP s (x.2/m_law_shared x.2 (x.1%x.2)):=by
 obtain ⟨p1,p2,_⟩:=zg8 (c:=x.1) (of_decide_eq_true q)
 have k:=zoZ h hx
 refine ⟨by have:=I.1;omega,by omega,Nat.le_trans I.2 (Nat.pow_le_pow_right (by decide) (by omega)),Nat.le_trans (show _≤2^30 by omega) (Nat.pow_le_pow_right (by decide) (by decide))⟩
end
theorem often_bd:∀ (l:List (Int×Int)) (i:Nat) (s:Int),OfI i s->(∀ p∈l,p.2≤1000000001)->0≤LetR (loopR ofF s l) (λ(r:Int)=>r) (λb=>b)∧(LetR (loopR ofF s l) (λ(r:Int)=>r) (λb=>b)).natAbs≤2^(30*(i+l.length))
 | [],i,s,I,_=>⟨by have:=I.1;show 0≤s;omega,I.2⟩
 | p :: l,i,s,I,h=>by
  cases q:ofF s p with
  | inl z =>
   rw [zeR q,List.length_cons,show i+(l.length+1)=(i+1)+l.length by omega]
   exact often_bd l (i+1) z (zoa I (h p List.mem_cons_self) q) λy hy=>h y (List.mem_cons_of_mem _ hy)
  | inr v =>
   rw [zj7 q]
   have:v=0:=by
    unfold ofF Let at q
    cases q1:((decide (p.2=(0:Int)))&&(!decide (p.1=(0:Int)))) with
    | true=>rw [q1] at q;exact (Sum.inr.inj q).symm
    | false=>rw [q1] at q;cases q
   subst this
   exact ⟨Int.le_refl _,Nat.zero_le _⟩
theorem zgi:∀ (l:List (Int×Int)) (s:Int),0≤s->(∀ p∈l,0≤p.2)->s ∣ LetR (loopR ofF s l) (λ(r:Int)=>r) (λb=>b)∧∀ p∈l,p.2 ∣ LetR (loopR ofF s l) (λ(r:Int)=>r) (λb=>b)*p.1
 | [],s,_,_=>⟨Int.dvd_refl _,λp hp=>by cases hp⟩
 | p :: l,s,h0,h=>by
  have hp:=h p List.mem_cons_self
  have hl:∀ y∈l,0≤y.2:=λy hy=>h y (List.mem_cons_of_mem _ hy)
  by_cases q:p.2=0
  ·by_cases q1:p.1=0
   ·have e:ofF s p=.inl s:=by unfold ofF Let;rw [q,q1];rfl
    rw [zeR e]
    obtain ⟨k1,k2⟩:=zgi l s h0 hl
    refine ⟨k1,λy hy=>?_⟩
    rcases List.mem_cons.mp hy with rfl | hy
    ·rw [q1,Int.mul_zero];exact Int.dvd_zero _
    ·exact k2 y hy
   ·have e:ofF s p=.inr 0:=by unfold ofF;rw [decide_eq_true q,decide_eq_false q1];rfl
    rw [zj7 e]
    exact ⟨Int.dvd_zero _,λy _=>by show y.2 ∣ (0:Int)*y.1;rw [Int.zero_mul];exact Int.dvd_zero _⟩
  ·have q:0<p.2:=by omega
   have e:ofF s p=.inl (m_law_multiple s (p.2/m_law_shared p.2 (p.1%p.2))):=by unfold ofF Let;rw [decide_eq_false (show ¬ p.2=0 by omega),decide_eq_true q];rfl
   obtain ⟨p1,p2,p3⟩:=zg8 (c:=p.1) q
   have em:=zcL (a:=s) (b:=p.2/m_law_shared p.2 (p.1%p.2)) ⟨h0,by omega⟩
   rw [zeR e]
   obtain ⟨k1,k2⟩:=zgi l (m_law_multiple s (p.2/m_law_shared p.2 (p.1%p.2))) (by rw [em];omega) hl
   have d1:s ∣ m_law_multiple s (p.2/m_law_shared p.2 (p.1%p.2)):=by rw [em];exact Int.dvd_lcm_left _ _
   have d2:p.2/m_law_shared p.2 (p.1%p.2) ∣ m_law_multiple s (p.2/m_law_shared p.2 (p.1%p.2)):=by rw [em];exact Int.dvd_lcm_right _ _
   refine ⟨Int.dvd_trans d1 k1,λy hy=>?_⟩
   rcases List.mem_cons.mp hy with rfl | hy
   ·exact Int.dvd_trans p3 (Int.mul_dvd_mul (Int.dvd_trans d2 k1) (Int.dvd_refl _))
   ·exact k2 y hy
def m_law_often (P0:(List (List Int))) (P1:(List Int)) (P2:(List Int)):Int :=
 (LetR (loopR (λ(s242:Int) (x243:(Int×Int))=>(((bif ((decide (x243.2=(0:Int)))&&(!decide (x243.1=(0:Int)))) then (Sum.inr (0:Int))
 else (Let (bif (decide ((0:Int)<x243.2)) then (m_law_multiple s242 (x243.2/(m_law_shared x243.2 (x243.1%x243.2)))) else s242) (λ(v249:Int) =>
 (Sum.inl v249))))):(Int) ⊕ Int)) (1:Int) (List.zip (m_law_shares P0 P2) P1)) (λ(r250:Int) =>
 r250) (λb=>b))
def zcD (P0:(List (List Int))) (P1:(List Int)) (P2:(List Int)):Prop:=OfP P0 P1 P2
def zdu (K:W.Frag) (A:Adr):Sp:=Spv (ι:=(List (List Int))×(List Int)×(List Int)) (λx=>[dQ K (List.map lI x.1),dQ K (List.map dI x.2.1),dQ K (List.map dI x.2.2)]) (λx=>zcD x.1 x.2.1 x.2.2) (λx=>.va true (dI (m_law_often x.1 x.2.1 x.2.2)))
theorem zb5:FnScope ["_law_duals","_law_bottoms_here","_law_basket","_law_number","_law_share","_law_bottom","_law_part"] ["_law_duals","_law_bottoms_here","_law_basket"] (zae zcf):=⟨rfl,rfl,rfl,by decide +kernel,rfl,by decide +kernel,by decide +kernel⟩
theorem zgs (F:Fun K "_law_often" "_law_often" zcf f fd) (T:Txt K mg A) (G_law_multiple:Callee P w K mg base (CXE P w) 2 "_law_multiple" ["_law_one","_law_other"] (zb6 K A)) (G_law_shared:Callee P w K mg base (CXE P w) 1 "_law_shared" ["_law_one","_law_other"] (zcB K A)) (G_law_shares:Callee P w K mg base (CXE P w) 1 "_law_shares" ["_law_duals","_law_basket"] (zcF K A)):FnOk P w K mg base (CXE P w) 3 f fd ["_law_duals","_law_bottoms_here","_law_basket"] (zdu K A):=by
 refine F.okV zb5 (λ_=>rfl) (λcdv Ar outer s H E x hr hp=>?_)
 obtain ⟨P0,P1,P2⟩:=x
 have hu:=hr.units
 replace hp:zcD P0 P1 P2:=hp
 unfold zcD at hp
 refine ⟨_,(zab (zam (i:=3) zb5.nd rfl (Or.inl rfl) zag)
 (zab (zbo PassesOwn.never rfl (zcm (K:=K) rfl rfl T.zip (pa_cons (zaC G_law_shares (hr.mono (by decide)) rfl zaA (pa_cons (pv 0) (pa_cons (pv 2) pa_nil))) (pa_cons (pv 1) pa_nil))) (zbg (K:=K) (n:=2) rfl rfl (zav (pg_name (i:=4) zb5.nd rfl (Or.inl rfl) (Or.inl rfl)) (zav (pg_name (i:=5) zb5.nd rfl (Or.inl rfl) (Or.inl rfl)) zb1)))
 (zab (zbd (PW.pt (zgJ (pt_cmpR zd8 (pv 5) zag (nomark _)) (zeN (pt_cmpR op_ne (pv 4) zag (nomark _)))))
 (zab (zaw zag)
 zad)
 zad)
 (zab (zbd (pt_cmpR zgn (pv 5) zag (nomark _))
 (zab (zam (i:=6) zb5.nd rfl (Or.inl rfl) (zar za9 (pv 5) (zaC G_law_shared (hr.mono (by decide)) rfl zaA (pa_cons (pv 5) (pa_cons (zar zbN (pv 4) (pv 5)) pa_nil)))))
 (zab (zam (i:=3) zb5.nd rfl (Or.inl rfl) (zaC G_law_multiple (hr.mono (by decide)) rfl zaA (pa_cons (pv 3) (pa_cons (pv 6) pa_nil))))
 zad))
 zad)
 zad)))
 (zab (zaw (pv 3))
 zad))),.inl ?_⟩
 show L2.Run _ ([.va false (dQ K (List.map lI P0)),.va false (dQ K (List.map dI P1)),.va false (dQ K (List.map dI P2)),.no,.no,.no,.no]:L2.Ctx) _ ((λ(r:Int)=>Oc.rt true (dI r)) (m_law_often P0 P1 P2))
 unfold m_law_often
 exact (zaK (m:=true) zaz
 (zb7 (s0:=(1:Int)) (λ(s242:Int)=>([.va false (dQ K (List.map lI P0)),.va false (dQ K (List.map dI P1)),.va false (dQ K (List.map dI P2)),.va true (dI s242),.no,.no,.no]:L2.Ctx)) (λ(r:Int)=>Oc.rt true (dI r)) (λb=>b) (λ(s242:Int) (x243:(Int×Int))=>(((bif ((decide (x243.2=(0:Int)))&&(!decide (x243.1=(0:Int)))) then (Sum.inr (0:Int))
 else (Let (bif (decide ((0:Int)<x243.2)) then (m_law_multiple s242 (x243.2/(m_law_shared x243.2 (x243.1%x243.2)))) else s242) (λ(v249:Int) =>
 (Sum.inl v249))))):(Int) ⊕ Int)) (λ(i:Nat) (s242:Int)=>OfI i s242) (λb=>.inl ⟨_,_,rfl⟩) (zdI (m:=false) dI dI (xs:=(m_law_shares P0 P2)) (ys:=P1) (Ev.weak (K:=K) (EvO.ev (EvO.anyI (m:=true) (zbH (x:=(P0,P2)) (zac (zaa (i:=0) rfl) (zac (zaa (i:=2) rfl) zaf)) rfl (by show zbL P0 P2;exact hp.1) rfl)))) (zaa (i:=1) rfl)) (.eq (.eq (.eq (.eq (.eq (.eq (.eq .nil))))))) (by exact zo5) (λi244 x243 s242 hx245 hI246=>have v245:=za6 hx245;⟨(by intro z hz;exact of_s hp (by assumption) (by assumption) hz),
 (zax (b:=((decide (x243.2=(0:Int)))&&(!decide (x243.1=(0:Int))))) (zcw (λ(s242:Int)=>([.va false (dQ K (List.map lI P0)),.va false (dQ K (List.map dI P1)),.va false (dQ K (List.map dI P2)),.va true (dI s242),.no,.no,.no]:L2.Ctx)) (λ(r:Int)=>Oc.rt true (dI r))) (zfd (b:=(decide (x243.2=(0:Int)))) (zan (zcN (x:=x243.2) (y:=(0:Int)) (Ev.any (m:=false) (zaa (i:=5) rfl)) zaz)) (λhb=>(zan (zcO (x:=x243.1) (y:=(0:Int)) (Ev.any (m:=false) (zaa (i:=4) rfl)) zaz)))) (λh247=>(zai (zah (zap zaz)))) (λh247 =>
 (zaj (zbR (b:=(decide ((0:Int)<x243.2))) (λbb=>([.va false (dQ K (List.map lI P0)),.va false (dQ K (List.map dI P1)),.va false (dQ K (List.map dI P2)),.va true (dI (bif bb then (m_law_multiple s242 (x243.2/(m_law_shared x243.2 (x243.1%x243.2)))) else s242)),.va false (dI x243.1),.va false (dI x243.2),.no]:L2.Ctx)) (zan (zaD (x:=x243.2) (y:=(0:Int)) (Ev.any (m:=false) (zaa (i:=5) rfl)) zaz)) (λh248=>(zaK (m:=true) (zas (x:=x243.2) (y:=(m_law_shared x243.2 (x243.1%x243.2))) (Ev.any (m:=false) (zaa (i:=5) rfl)) (Ev.any (m:=true) (zal (x:=(x243.2,(x243.1%x243.2))) (zac (Ev.any (m:=false) (zaa (i:=5) rfl)) (zac (zas (x:=x243.1) (y:=x243.2) (Ev.any (m:=false) (zaa (i:=4) rfl)) (Ev.any (m:=false) (zaa (i:=5) rfl)) (by show (0:Int)<_;exact of_decide_eq_true (by assumption))) zaf)) rfl (by show zbM x243.2 (x243.1%x243.2);exact zoo (by assumption)) rfl)) (by exact zn5 hp (by assumption) (by assumption)))
 (zaK (m:=true) (Ev.any (m:=true) (zal (x:=(s242,(x243.2/(m_law_shared x243.2 (x243.1%x243.2))))) (zac (Ev.any (m:=true) (zaa (i:=3) rfl)) (zac (Ev.any (m:=true) (zaa (i:=6) rfl)) zaf)) rfl (by show zbk s242 (x243.2/(m_law_shared x243.2 (x243.1%x243.2)));exact zoF hp (by assumption) (by assumption) (by assumption)) rfl))
 (zak (.eq (.eq (.eq (.eq (.eq (.eq (.no .nil))))))))))) (λh248=>(zak (.eq (.eq (.eq (.eq (.eq (.eq (.eq .nil)))))))))
 (zbv (x:=(bif (decide ((0:Int)<x243.2)) then (m_law_multiple s242 (x243.2/(m_law_shared x243.2 (x243.1%x243.2)))) else s242)) (λv249=>([.va false (dQ K (List.map lI P0)),.va false (dQ K (List.map dI P1)),.va false (dQ K (List.map dI P2)),.va true (dI v249),.va false (dI x243.1),.va false (dI x243.2),.no]:L2.Ctx)) (zcw (λ(s242:Int)=>([.va false (dQ K (List.map lI P0)),.va false (dQ K (List.map dI P1)),.va false (dQ K (List.map dI P2)),.va true (dI s242),.no,.no,.no]:L2.Ctx)) (λ(r:Int)=>Oc.rt true (dI r))) (λv249 hv249 =>
 (zak (.eq (.eq (.eq (.eq (.no (.no (.eq .nil))))))))))))))⟩) (λr250 hr250 hI =>
 (zah (zap (Ev.any (m:=true) (zaa (i:=3) rfl)))))))
theorem zhQ (ds:List (List Int)) (bs x:List Int):m_law_often ds bs x=LetR (loopR ofF (1:Int) (List.zip (m_law_shares ds x) bs)) (λ(r:Int)=>r) (λb=>b):=rfl
theorem zjo {ds:List (List Int)} {bs x:List Int} (h:OfP ds bs x):(m_law_often ds bs x).natAbs≤2^240:=by
 rw [zhQ]
 refine Nat.le_trans (often_bd _ 0 1 zo5 λp hp=>(h.2.2 _ (List.of_mem_zip (a:=p.1) (b:=p.2) hp).2).2).2 (Nat.pow_le_pow_right (by decide) ?_)
 rw [List.length_zip]
 have:=h.2.1
 omega
theorem zkU {W:Nat} {f:List (List Int)×List (List Int)} {bs x:List Int} (h:Lat.Du W f) (hb:bs.length=W) (h0:∀ b∈bs,0≤b) (hx:x.length=W):Lat.SpL (Lat.scl f.1 bs) (λi=>m_law_often f.2 bs x*Lat.vec x i):=by
 refine Lat.scl_of h hb h0 (λk hk=>by rw [Lat.zcv (by omega),Int.mul_zero]) λi t b ht hbi=>?_
 have:=(zgi (List.zip (m_law_shares f.2 x) bs) 1 (by decide) λp hp=>h0 _ (List.of_mem_zip (a:=p.1) (b:=p.2) hp).2).2 (Lat.dv t (Lat.vec x),b) (by
  refine List.mem_of_getElem? (i:=i) ?_
  rw [List.getElem?_zip_eq_some,zgm]
  exact ⟨by rw [List.getElem?_map,ht];rfl,hbi⟩)
 rw [← zhQ] at this
 have e:Lat.dv t (λi=>m_law_often f.2 bs x*Lat.vec x i)=m_law_often f.2 bs x*Lat.dv t (Lat.vec x):=by
  have:=Lat.ze7 t (λ_=>0) (Lat.vec x) (m_law_often f.2 bs x)
  rw [show Lat.dv t (λ_=>0)=0 from Lat.dv_zero t,Int.zero_add] at this
  rw [← this]
  exact Lat.zex λi=>by omega
 rw [e];exact this
def m_law_wholes (P0:(List Int)) (P1:Int):Bool :=
 (bif ((!true)||(!decide (((P0.length:Nat):Int)=P1))) then false
 else (LetR (loopR (λ(s252:Unit) (x253:Int)=>(((bif ((!true)||false) then (Sum.inr false)
 else (Sum.inl ()))):(Unit) ⊕ Bool)) () P0) (λ(r258:Unit) =>
 true) (λb=>b)))
def zcp (P0:(List Int)) (P1:Int):Prop:=True
def zdl (K:W.Frag) (A:Adr):Sp:=Spv (ι:=(List Int)×Int) (λx=>[dL (List.map dI x.1),dI x.2]) (λx=>zcp x.1 x.2) (λx=>.va true (dB (m_law_wholes x.1 x.2)))
theorem zea:FnScope ["_law_found","_law_many","_law_number"] ["_law_found","_law_many"] (zae zb3):=⟨rfl,rfl,rfl,by decide +kernel,rfl,by decide +kernel,by decide +kernel⟩
theorem zfW (F:Fun K "_law_wholes" "_law_wholes" zb3 f fd) (T:Txt K mg A) :FnOk P w K mg base (CXE P w) 1 f fd ["_law_found","_law_many"] (zdl K A):=by
 refine F.okV zea (λ_=>rfl) (λcdv Ar outer s H E x hr hp=>?_)
 obtain ⟨P0,P1⟩:=x
 have hu:=hr.units
 replace hp:zcp P0 P1:=hp
 unfold zcp at hp
 refine ⟨_,(zab (zbd (PW.pt (zf6 (zdH (pt_val (pe_callB (call_isiB (K:=K) rfl) rfl T.isinstance PyProof.Rows.boot_isinstance (pa_cons (pv 0) (pa_cons (pe_bltn rfl T.list (v:=.ty "list") (u:=.type "list") (by decide +kernel) rfl) pa_nil))))) (pw_or1 (pt_cmpR op_ne (pe_callB (call_len_K (K:=K) rfl) rfl T.len PySem.boot_len (pa_cons (pv 0) pa_nil)) (pv 1) (nomark _)))))
 (zab (zaw zc8)
 zad)
 zad)
 (zab (zbo PassesOwn.never rfl (zaB (K:=K) rfl (pv 0)) (pg_name (i:=2) zea.nd rfl (Or.inl rfl) (Or.inl rfl))
 (zab (zbd (PW.pt (zf6 (zdH (pt_val (pe_callB (call_isiB (K:=K) rfl) rfl T.isinstance PyProof.Rows.boot_isinstance (pa_cons (pv 2) (pa_cons (pe_bltn rfl T.int (v:=.ty "int") (u:=.type "int") (by decide +kernel) rfl) pa_nil))))) (pw_or1 (pt_val (pe_callB (call_isiB (K:=K) rfl) rfl T.isinstance PyProof.Rows.boot_isinstance (pa_cons (pv 2) (pa_cons (pe_bltn rfl T.bool (v:=.ty "bool") (u:=.type "bool") (by decide +kernel) rfl) pa_nil)))))))
 (zab (zaw zc8)
 zad)
 zad)
 zad))
 (zab (zaw zc8)
 zad))),.inl ?_⟩
 show L2.Run _ ([.va false (dL (List.map dI P0)),.va false (dI P1),.no]:L2.Ctx) _ ((λ(r:Bool)=>Oc.rt true (dB r)) (m_law_wholes P0 P1))
 unfold m_law_wholes
 exact (zax (b:=((!true)||(!decide (((P0.length:Nat):Int)=P1)))) (λ(r:Bool)=>Oc.rt true (dB r)) (zd1 (b:=(!true)) (zcV (zci (zjj (zaa (i:=0) rfl) T.kit_list_list))) (λhb=>(zan (zcO (x:=((P0.length:Nat):Int)) (y:=P1) (zbK (f:=dI) (xs:=P0) (Ev.weak (K:=K) (zaa (i:=0) rfl))) (Ev.any (m:=false) (zaa (i:=1) rfl)))))) (λh251=>(zai (zah (zap zaz)))) (λh251 =>
 (zaj (zb7 (s0:=()) (λ(s252:Unit)=>([.va false (dL (List.map dI P0)),.va false (dI P1),.no]:L2.Ctx)) (λ(r:Bool)=>Oc.rt true (dB r)) (λb=>b) (λ(s252:Unit) (x253:Int)=>(((bif ((!true)||false) then (Sum.inr false)
 else (Sum.inl ()))):(Unit) ⊕ Bool)) (λ_ _=>True) (λb=>.inl ⟨_,_,rfl⟩) (zaX (m:=false) dI (xs:=P0) (Ev.weak (K:=K) (zaa (i:=0) rfl))) (.eq (.eq (.eq .nil))) trivial (λi254 x253 s252 hx255 hI256=>have v255:=List.mem_of_getElem? hx255;⟨(λ_ _=>trivial),
 (zax (b:=((!true)||false)) (zcw (λ(s252:Unit)=>([.va false (dL (List.map dI P0)),.va false (dI P1),.no]:L2.Ctx)) (λ(r:Bool)=>Oc.rt true (dB r))) (zd1 (b:=(!true)) (zcV (zci (zjI (λ_=>TyOf.int _) (Ev.any (m:=false) (zaa (i:=2) rfl)) T.kit_int_int))) (λhb=>(zci (zjI (λ_=>TyOf.int _) (Ev.any (m:=false) (zaa (i:=2) rfl)) T.kit_int_bool)))) (λh257=>(zai (zah (zap zaz)))) (λh257 =>
 (zaj (zak (.eq (.eq (.no .nil)))))))⟩) (λr258 hr258 hI =>
 (zah (zap zaz)))))))
theorem ziP (l:List Int) (w:Int):m_law_wholes l w=decide ((l.length:Int)=w):=by
 unfold m_law_wholes
 have:∀ l:List Int,loopR (λ(_:Unit) (_:Int)=>(((bif ((!true)||false) then (Sum.inr false) else (Sum.inl ()))):(Unit) ⊕ Bool)) () l=.inl ():=by
  intro l
  induction l with
  | nil=>rfl
  | cons x l ih=>exact ih
 rw [this]
 by_cases q:((l.length:Nat):Int)=w
 ·simp [q,LetR]
 ·simp [q,LetR]
def m_law_head (P0:(List Int)):Int :=
 (LetR (loopR (λ(s259:Unit) (x260:Int)=>(((bif (!decide ((ixD P0 x260)=(0:Int))) then (Sum.inr x260)
 else (Sum.inl ()))):(Unit) ⊕ Int)) () (za5 0 ((P0.length:Nat):Int).toNat)) (λ(r265:Unit) =>
 ((P0.length:Nat):Int)) (λb=>b))
def zbu (P0:(List Int)):Prop:=P0.length≤1000
def zde (K:W.Frag) (A:Adr):Sp:=Spv (ι:=(List Int)) (λx=>[dQ K (List.map dI x)]) (λx=>zbu x) (λx=>.va true (dI (m_law_head x)))
theorem zeV:FnScope ["_law_step","_law_place"] ["_law_step"] (zae zcI):=⟨rfl,rfl,rfl,by decide +kernel,rfl,by decide +kernel,by decide +kernel⟩
theorem zhh (F:Fun K "_law_head" "_law_head" zcI f fd) (T:Txt K mg A) :FnOk P w K mg base (CXE P w) 1 f fd ["_law_step"] (zde K A):=by
 refine F.okV zeV (λ_=>rfl) (λcdv Ar outer s H E P0 hr hp=>?_)
 have hu:=hr.units
 replace hp:zbu P0:=hp
 unfold zbu at hp
 refine ⟨_,(zab (zbo PassesOwn.never rfl (zb8 rfl T.range (pa_cons (pe_callB (call_len_K (K:=K) rfl) rfl T.len PySem.boot_len (pa_cons (pv 0) pa_nil)) pa_nil)) (pg_name (i:=1) zeV.nd rfl (Or.inl rfl) (Or.inl rfl))
 (zab (zbd (pt_cmpR op_ne (zaR (zao (K:=K) rfl) (pv 0) (pv 1) (λ_ _=>rfl)) zag (nomark _))
 (zab (zaw (pv 1))
 zad)
 zad)
 zad))
 (zab (zaw (pe_callB (call_len_K (K:=K) rfl) rfl T.len PySem.boot_len (pa_cons (pv 0) pa_nil)))
 zad)),.inl ?_⟩
 show L2.Run _ ([.va false (dQ K (List.map dI P0)),.no]:L2.Ctx) _ ((λ(r:Int)=>Oc.rt true (dI r)) (m_law_head P0))
 unfold m_law_head
 exact (zb7 (s0:=()) (λ(s259:Unit)=>([.va false (dQ K (List.map dI P0)),.no]:L2.Ctx)) (λ(r:Int)=>Oc.rt true (dI r)) (λb=>b) (λ(s259:Unit) (x260:Int)=>(((bif (!decide ((ixD P0 x260)=(0:Int))) then (Sum.inr x260)
 else (Sum.inl ()))):(Unit) ⊕ Int)) (λ_ _=>True) (λb=>.inl ⟨_,_,rfl⟩) (zdj (m:=true) (n:=((P0.length:Nat):Int)) (zbK (f:=dI) (xs:=P0) (zaa (i:=0) rfl)) (by refine ⟨?_,?_⟩<;>omega)) (.eq (.eq .nil)) trivial (λi261 x260 s259 hx262 hI263=>have v262:=zbq hx262;⟨(λ_ _=>trivial),
 (zax (b:=(!decide ((ixD P0 x260)=(0:Int)))) (zcw (λ(s259:Unit)=>([.va false (dQ K (List.map dI P0)),.no]:L2.Ctx)) (λ(r:Int)=>Oc.rt true (dI r))) (zan (zcO (x:=(ixD P0 x260)) (y:=(0:Int)) (Ev.any (m:=false) (zbB (f:=dI) (xs:=P0) (zaa (i:=0) rfl) (Ev.any (m:=true) (zaa (i:=1) rfl)) (by unfold InB;omega))) zaz)) (λh264=>(zai (zah (zap (Ev.any (m:=true) (zaa (i:=1) rfl)))))) (λh264 =>
 (zaj (zak (.eq (.no .nil))))))⟩) (λr265 hr265 hI =>
 (zah (zap (zbK (f:=dI) (xs:=P0) (zaa (i:=0) rfl))))))
theorem zd6 (l:List Int):m_law_head l=(Lat.hd l:Int):=Lat.zoY l
theorem zoV {steps:List (List Int)} {w x:Int} {i:Nat} (hp:steps.length≤1000∧(∀ s∈steps,(s.length:Int)=w)∧w≤1000) (q:i<((steps.length:Nat):Int).toNat∧x=0+(i:Int)):zbu (ixD steps x):=by
 have:=hp.2.1 _ (zdg (xs:=steps) (i:=x) (by unfold InB;omega))
 show (ixD steps x).length≤1000
 have:=hp.2.2
 omega
theorem zkc {steps:List (List Int)} {x:Int} {i:Nat} (q:i<((steps.length:Nat):Int).toNat∧x=0+(i:Int)):InB steps.length x:=by unfold InB;omega
theorem zk7 {steps:List (List Int)} {w x h:Int} {i:Nat} (hp:steps.length≤1000∧(∀ s∈steps,(s.length:Int)=w)∧w≤1000) (q:i<((steps.length:Nat):Int).toNat∧x=0+(i:Int)) (hH:h=(Lat.hd (ixD steps x):Int)) (hb:decide (h=w)=false):InB (ixD steps x).length h:=by
 have:=hp.2.1 _ (zdg (xs:=steps) (i:=x) (by unfold InB;omega))
 have:=Lat.zjJ (l:=ixD steps x)
 simp only [decide_eq_false_iff_not] at hb
 unfold InB;omega
theorem zjS {steps:List (List Int)} {w x h s:Int} {i:Nat} {c:Bool} (hp:steps.length≤1000∧(∀ s∈steps,(s.length:Int)=w)∧w≤1000) (q:i<((steps.length:Nat):Int).toNat∧x=0+(i:Int)) (hH:h=(Lat.hd (ixD steps x):Int)) (hb:((decide (h≤s))||((decide (h=w))||c))=false):InB (ixD steps x).length h:=by
 have:=hp.2.1 _ (zdg (xs:=steps) (i:=x) (by unfold InB;omega))
 have:=Lat.zjJ (l:=ixD steps x)
 simp only [Bool.or_eq_false_iff,decide_eq_false_iff_not] at hb
 unfold InB;omega
theorem zlo {steps:List (List Int)} {t:List Int} {w x h s:Int} {i:Nat} {c:Bool} {lo hi:Option Int} (hp:steps.length≤1000∧(∀ s∈steps,(s.length:Int)=w)∧w≤1000) (q:i<((steps.length:Nat):Int).toNat∧x=0+(i:Int)) (ht:t∈cutD steps lo hi) (hH:h=(Lat.hd (ixD steps x):Int)) (hb:((decide (h≤s))||((decide (h=w))||c))=false):InB t.length h:=by
 have h1:=hp.2.1 _ (zdg (xs:=steps) (i:=x) (by unfold InB;omega))
 have h2:=hp.2.1 _ (Lat.zma ht)
 have h3:=zjS hp q hH hb
 unfold InB at *;omega
theorem zop {n s:Nat} {t:List Int} (p1:n≤1000) (T:Lat.Sd n s t):zbu t:=by show t.length≤1000;rw [T.len];exact p1
theorem zmN {n s b:Nat} {l t:List Int} (T:Lat.Sd n s t) (hl:l.length=n∧Lat.Bit b l):l.length=t.length:=by rw [hl.1,T.len]
theorem zmc {l t:List Int} (h:l.length=t.length):Let (m_law_head t) (λ(h:Int)=>Let ((ixD l h)/(ixD t h)) (λ(q:Int)=>Let (List.map (λ(x:(Int×Int))=>(x.1-(q*x.2))) (List.zip l t)) (λ(y:(List Int))=>y)))=Lat.zfG l t:=by
 unfold Let
 dsimp only
 rw [zd6,Lat.za1,Lat.za1]
 exact Lat.zle h
theorem zm2 {n s a i j:Nat} {l t:List Int} {h q:Int} {steps:List (List Int)} {p:Int×Int} (p6:a+steps.length*(s+1)+s≤50000000) (hx:steps[i]?=some t) (T:∀ t∈steps,Lat.Sd n s t) (hl:l.length=n∧Lat.Bit (a+i*(s+1)) l) (e:h=(Lat.hd t:Int)) (eq:q=ixD l h/ixD t h) (hz:(List.zip l t)[j]?=some p):zcC q p.2:=by
 have T1:=T t (List.mem_of_getElem? hx)
 have hm:p.2∈t:=(List.of_mem_zip (a:=p.1) (b:=p.2) (List.mem_of_getElem? hz)).2
 have hn:=Lat.zka p6 (List.getElem?_eq_some_iff.mp hx).1
 subst e eq
 rw [Lat.za1,Lat.za1]
 exact Lat.zcC.of (Lat.zir T1 hl.2) (T1.bit _ hm) (by omega) (by omega)
theorem zoH {n b:Nat} {l t:List Int} (p1:n≤1000) (hl:l.length=n∧Lat.Bit b l):(List.zip l t).length≤PySem.sizeLine:=zat (by rw [List.length_zip];have:=hl.1;omega)
def m_law_are_stairs (P0:(List (List Int))) (P1:Int):Bool :=
 (bif (!true) then false
 else (Let (-(1:Int)) (λ(v267:Int) =>
 (LetR (loopR (λ(s268:Int) (x269:Int)=>(((bif (!(m_law_wholes (ixD P0 x269) P1)) then (Sum.inr false)
 else (Let (m_law_head (ixD P0 x269)) (λ(hv274:Int) =>
 (bif ((decide (hv274≤s268))||((decide (hv274=P1))||(decide ((ixD (ixD P0 x269) hv274)≤(0:Int))))) then (Sum.inr false)
 else (LetR (loopR (λ(s276:Unit) (x277:(List Int))=>(((bif ((decide ((ixD x277 hv274)<(0:Int)))||(decide ((ixD (ixD P0 x269) hv274)≤(ixD x277 hv274)))) then (Sum.inr false)
 else (Sum.inl ()))):(Unit) ⊕ Bool)) () (cutD P0 none (some x269))) (λ(r282:Unit) =>
 (Sum.inl hv274)) (λb=>Sum.inr b))))))):(Int) ⊕ Bool)) v267 (za5 0 ((P0.length:Nat):Int).toNat)) (λ(r283:Int) =>
 true) (λb=>b)))))
def zbp (P0:(List (List Int))) (P1:Int):Prop:=P0.length≤1000∧(∀ s∈P0,(s.length:Int)=P1)∧P1≤1000
def zcd (K:W.Frag) (A:Adr):Sp:=Spv (ι:=(List (List Int))×Int) (λx=>[dL (List.map lI x.1),dI x.2]) (λx=>zbp x.1 x.2) (λx=>.va true (dB (m_law_are_stairs x.1 x.2)))
theorem zaT:FnScope ["_law_steps","_law_wide","_law_ahead","_law_k","_law_head_here","_law_step"] ["_law_steps","_law_wide"] (zae za3):=⟨rfl,rfl,rfl,by decide +kernel,rfl,by decide +kernel,by decide +kernel⟩
theorem zeg (F:Fun K "_law_are_stairs" "_law_are_stairs" za3 f fd) (T:Txt K mg A) (G_law_head:Callee P w K mg base (CXE P w) 1 "_law_head" ["_law_step"] (zde K A)) (G_law_wholes:Callee P w K mg base (CXE P w) 1 "_law_wholes" ["_law_found","_law_many"] (zdl K A)):FnOk P w K mg base (CXE P w) 2 f fd ["_law_steps","_law_wide"] (zcd K A):=by
 refine F.okV zaT (λ_=>rfl) (λcdv Ar outer s H E x hr hp=>?_)
 obtain ⟨P0,P1⟩:=x
 have hu:=hr.units
 replace hp:zbp P0 P1:=hp
 unfold zbp at hp
 refine ⟨_,(zab (zbd (zdH (pt_val (pe_callB (call_isiB (K:=K) rfl) rfl T.isinstance PyProof.Rows.boot_isinstance (pa_cons (pv 0) (pa_cons (pe_bltn rfl T.list (v:=.ty "list") (u:=.type "list") (by decide +kernel) rfl) pa_nil)))))
 (zab (zaw zc8)
 zad)
 zad)
 (zab (zam (i:=2) zaT.nd rfl (Or.inl rfl) (znk zlg zag))
 (zab (zbo PassesOwn.never rfl (zb8 rfl T.range (pa_cons (pe_callB (call_len_K (K:=K) rfl) rfl T.len PySem.boot_len (pa_cons (pv 0) pa_nil)) pa_nil)) (pg_name (i:=3) zaT.nd rfl (Or.inl rfl) (Or.inl rfl))
 (zab (zbd (zdH (pt_val (zaC G_law_wholes (hr.mono (by decide)) rfl zaA (pa_cons (zaR (zao (K:=K) rfl) (pv 0) (pv 3) (λ_ _=>rfl)) (pa_cons (pv 1) pa_nil)))))
 (zab (zaw zc8)
 zad)
 zad)
 (zab (zam (i:=4) zaT.nd rfl (Or.inl rfl) (zaC G_law_head (hr.mono (by decide)) rfl zaA (pa_cons (zaR (zao (K:=K) rfl) (pv 0) (pv 3) (λ_ _=>rfl)) pa_nil)))
 (zab (zbd (PW.pt (zf6 (pt_cmpR zm9 (pv 4) (pv 2) (nomark _)) (zf6 (pt_cmpR zd8 (pv 4) (pv 1) (nomark _)) (pw_or1 (pt_cmpR zm9 (zaR (zao (K:=K) rfl) (zaR (zao (K:=K) rfl) (pv 0) (pv 3) (λ_ _=>rfl)) (pv 4) (λ_ _=>rfl)) zag (nomark _))))))
 (zab (zaw zc8)
 zad)
 zad)
 (zab (zam (i:=2) zaT.nd rfl (Or.inl rfl) (pv 4))
 (zab (zbo PassesOwn.never rfl (zaB (K:=K) rfl (zcn (zbO (K:=K) rfl) (pv 0) zdQ (zcc (pv 3)))) (pg_name (i:=5) zaT.nd rfl (Or.inl rfl) (Or.inl rfl))
 (zab (zbd (PW.pt (zf6 (pt_cmpR zg2 (zaR (zao (K:=K) rfl) (pv 5) (pv 4) (λ_ _=>rfl)) zag (nomark _)) (pw_or1 (pt_cmpR znJ (zaR (zao (K:=K) rfl) (pv 5) (pv 4) (λ_ _=>rfl)) (zaR (zao (K:=K) rfl) (zaR (zao (K:=K) rfl) (pv 0) (pv 3) (λ_ _=>rfl)) (pv 4) (λ_ _=>rfl)) (nomark _)))))
 (zab (zaw zc8)
 zad)
 zad)
 zad))
 zad))))))
 (zab (zaw zc8)
 zad)))),.inl ?_⟩
 show L2.Run _ ([.va false (dL (List.map lI P0)),.va false (dI P1),.no,.no,.no,.no]:L2.Ctx) _ ((λ(r:Bool)=>Oc.rt true (dB r)) (m_law_are_stairs P0 P1))
 unfold m_law_are_stairs
 exact (zax (b:=(!true)) (λ(r:Bool)=>Oc.rt true (dB r)) (zcV (zci (zjj (zaa (i:=0) rfl) T.kit_list_list))) (λh266=>(zai (zah (zap zaz)))) (λh266 =>
 (zaj (zaq (m:=true) (x:=(-(1:Int))) dI (λ(r:Bool)=>Oc.rt true (dB r)) (znD (x:=(1:Int)) zaz) (λv267 hv267 =>
 (zb7 (s0:=v267) (λ(s268:Int)=>([.va false (dL (List.map lI P0)),.va false (dI P1),.va true (dI s268),.no,.no,.no]:L2.Ctx)) (λ(r:Bool)=>Oc.rt true (dB r)) (λb=>b) (λ(s268:Int) (x269:Int)=>(((bif (!(m_law_wholes (ixD P0 x269) P1)) then (Sum.inr false)
 else (Let (m_law_head (ixD P0 x269)) (λ(hv274:Int) =>
 (bif ((decide (hv274≤s268))||((decide (hv274=P1))||(decide ((ixD (ixD P0 x269) hv274)≤(0:Int))))) then (Sum.inr false)
 else (LetR (loopR (λ(s276:Unit) (x277:(List Int))=>(((bif ((decide ((ixD x277 hv274)<(0:Int)))||(decide ((ixD (ixD P0 x269) hv274)≤(ixD x277 hv274)))) then (Sum.inr false)
 else (Sum.inl ()))):(Unit) ⊕ Bool)) () (cutD P0 none (some x269))) (λ(r282:Unit) =>
 (Sum.inl hv274)) (λb=>Sum.inr b))))))):(Int) ⊕ Bool)) (λ_ _=>True) (λb=>.inl ⟨_,_,rfl⟩) (zdj (m:=true) (n:=((P0.length:Nat):Int)) (zbK (f:=lI) (xs:=P0) (Ev.weak (K:=K) (zaa (i:=0) rfl))) (by refine ⟨?_,?_⟩<;>omega)) (.eq (.eq (.eq (.eq (.eq (.eq .nil)))))) trivial (λi270 x269 s268 hx271 hI272=>have v271:=zbq hx271;⟨(λ_ _=>trivial),
 (zax (b:=(!(m_law_wholes (ixD P0 x269) P1))) (zcw (λ(s268:Int)=>([.va false (dL (List.map lI P0)),.va false (dI P1),.va true (dI s268),.no,.no,.no]:L2.Ctx)) (λ(r:Bool)=>Oc.rt true (dB r))) (zcV (zci (Ev.any (m:=true) (zal (x:=((ixD P0 x269),P1)) (zac (zbB (f:=lI) (xs:=P0) (Ev.weak (K:=K) (zaa (i:=0) rfl)) (Ev.any (m:=true) (zaa (i:=3) rfl)) (by exact zkc (by assumption))) (zac (Ev.any (m:=false) (zaa (i:=1) rfl)) zaf)) rfl (by show zcp (ixD P0 x269) P1;exact trivial) rfl)))) (λh273=>(zai (zah (zap zaz)))) (λh273 =>
 (zaj (zaq (m:=true) (x:=(m_law_head (ixD P0 x269))) dI (zcw (λ(s268:Int)=>([.va false (dL (List.map lI P0)),.va false (dI P1),.va true (dI s268),.no,.no,.no]:L2.Ctx)) (λ(r:Bool)=>Oc.rt true (dB r))) (Ev.any (m:=true) (zal (x:=(ixD P0 x269)) (zac (Ev.weak (K:=K) (zbB (f:=lI) (xs:=P0) (Ev.weak (K:=K) (zaa (i:=0) rfl)) (Ev.any (m:=true) (zaa (i:=3) rfl)) (by exact zkc (by assumption)))) zaf) rfl (by show zbu (ixD P0 x269);exact zoV hp (by assumption)) rfl)) (λhv274 hhead274 =>
 have hH:=(hhead274).trans (zd6 _);(zax (b:=((decide (hv274≤s268))||((decide (hv274=P1))||(decide ((ixD (ixD P0 x269) hv274)≤(0:Int)))))) (zcw (λ(s268:Int)=>([.va false (dL (List.map lI P0)),.va false (dI P1),.va true (dI s268),.no,.no,.no]:L2.Ctx)) (λ(r:Bool)=>Oc.rt true (dB r))) (zd1 (b:=(decide (hv274≤s268))) (zan (zaD (x:=hv274) (y:=s268) (Ev.any (m:=true) (zaa (i:=4) rfl)) (Ev.any (m:=true) (zaa (i:=2) rfl)))) (λhb=>(zd1 (b:=(decide (hv274=P1))) (zan (zcN (x:=hv274) (y:=P1) (Ev.any (m:=true) (zaa (i:=4) rfl)) (Ev.any (m:=false) (zaa (i:=1) rfl)))) (λhb=>(zan (zaD (x:=(ixD (ixD P0 x269) hv274)) (y:=(0:Int)) (Ev.any (m:=false) (zbB (f:=dI) (xs:=(ixD P0 x269)) (Ev.weak (K:=K) (zbB (f:=lI) (xs:=P0) (Ev.weak (K:=K) (zaa (i:=0) rfl)) (Ev.any (m:=true) (zaa (i:=3) rfl)) (by exact zkc (by assumption)))) (Ev.any (m:=true) (zaa (i:=4) rfl)) (by first | exact zk7 hp (by assumption) hH hb | exact zjS hp (by assumption) hH (by assumption)))) zaz)))))) (λh275=>(zai (zah (zap zaz)))) (λh275 =>
 (zaj (zaK (m:=true) (Ev.any (m:=true) (zaa (i:=4) rfl))
 (zb7 (s0:=()) (λ(s276:Unit)=>([.va false (dL (List.map lI P0)),.va false (dI P1),.va true (dI hv274),.va true (dI x269),.va true (dI hv274),.no]:L2.Ctx)) (zcw (λ(s268:Int)=>([.va false (dL (List.map lI P0)),.va false (dI P1),.va true (dI s268),.no,.no,.no]:L2.Ctx)) (λ(r:Bool)=>Oc.rt true (dB r))) (λb=>Sum.inr b) (λ(s276:Unit) (x277:(List Int))=>(((bif ((decide ((ixD x277 hv274)<(0:Int)))||(decide ((ixD (ixD P0 x269) hv274)≤(ixD x277 hv274)))) then (Sum.inr false)
 else (Sum.inl ()))):(Unit) ⊕ Bool)) (λ_ _=>True) (λb=>.inl ⟨_,_,rfl⟩) (zaX (m:=false) lI (xs:=(cutD P0 none (some x269))) (Ev.weak (K:=K) (EvO.ev (zcY (f:=lI) (xs:=P0) (Ev.weak (K:=K) (zaa (i:=0) rfl)) zdh (zbE (Ev.any (m:=true) (zaa (i:=3) rfl))))))) (.eq (.eq (.eq (.eq (.eq (.eq .nil)))))) trivial (λi278 x277 s276 hx279 hI280=>have v279:=List.mem_of_getElem? hx279;⟨(λ_ _=>trivial),
 (zax (b:=((decide ((ixD x277 hv274)<(0:Int)))||(decide ((ixD (ixD P0 x269) hv274)≤(ixD x277 hv274))))) (zcw (λ(s276:Unit)=>([.va false (dL (List.map lI P0)),.va false (dI P1),.va true (dI hv274),.va true (dI x269),.va true (dI hv274),.no]:L2.Ctx)) (λb=>(zcw (λ(s268:Int)=>([.va false (dL (List.map lI P0)),.va false (dI P1),.va true (dI s268),.no,.no,.no]:L2.Ctx)) (λ(r:Bool)=>Oc.rt true (dB r))) (Sum.inr b))) (zd1 (b:=(decide ((ixD x277 hv274)<(0:Int)))) (zan (zaD (x:=(ixD x277 hv274)) (y:=(0:Int)) (Ev.any (m:=false) (zbB (f:=dI) (xs:=x277) (Ev.weak (K:=K) (zaa (i:=5) rfl)) (Ev.any (m:=true) (zaa (i:=4) rfl)) (by exact zlo hp (by assumption) (by assumption) hH (by assumption)))) zaz)) (λhb=>(zan (zaD (x:=(ixD x277 hv274)) (y:=(ixD (ixD P0 x269) hv274)) (Ev.any (m:=false) (zbB (f:=dI) (xs:=x277) (Ev.weak (K:=K) (zaa (i:=5) rfl)) (Ev.any (m:=true) (zaa (i:=4) rfl)) (by exact zlo hp (by assumption) (by assumption) hH (by assumption)))) (Ev.any (m:=false) (zbB (f:=dI) (xs:=(ixD P0 x269)) (Ev.weak (K:=K) (zbB (f:=lI) (xs:=P0) (Ev.weak (K:=K) (zaa (i:=0) rfl)) (Ev.any (m:=true) (zaa (i:=3) rfl)) (by exact zkc (by assumption)))) (Ev.any (m:=true) (zaa (i:=4) rfl)) (by first | exact zk7 hp (by assumption) hH hb | exact zjS hp (by assumption) hH (by assumption)))))))) (λh281=>(zai (zah (zap zaz)))) (λh281 =>
 (zaj (zak (.eq (.eq (.eq (.eq (.eq (.no .nil))))))))))⟩) (λr282 hr282 hI =>
 (zak (.eq (.eq (.eq (.no (.no (.eq .nil))))))))))))))))))⟩) (λr283 hr283 hI =>
 (zah (zap zaz)))))))))
theorem zg4 {n:Nat} {ss:List (List Int)} (e:Lat.Ech n 0 ss) (r:Lat.Red ss):m_law_are_stairs ss (n:Int)=true:=by
 obtain ⟨s',e1,_⟩:=Lat.zf2 (xs:=za5 0 ((ss.length:Nat):Int).toNat) (s:=(-(1:Int))) (n:=0) (I:=λk (s:Int)=>∀ t,ss[k]?=some t->s<(Lat.hd t:Int))
  (f:=(λ(s157:Int) (x158:Int)=>(((bif (!(m_law_wholes (ixD ss x158) (n:Int))) then (Sum.inr false)
 else (Let (m_law_head (ixD ss x158)) (λ(head163:Int) =>
 (bif ((decide (head163≤s157))||((decide (head163=(n:Int)))||(decide ((ixD (ixD ss x158) head163)≤(0:Int))))) then (Sum.inr false)
 else (LetR (loopR (λ(s165:Unit) (x166:(List Int))=>(((bif ((decide ((ixD x166 head163)<(0:Int)))||(decide ((ixD (ixD ss x158) head163)≤(ixD x166 head163)))) then (Sum.inr false)
 else (Sum.inl ()))):(Unit) ⊕ Bool)) () (cutD ss none (some x158))) (λ(r171:Unit) =>
 (Sum.inl head163)) (λb=>Sum.inr b))))))):(Int) ⊕ Bool))) (λt _=>by omega) (by
  intro k x s hx hI
  obtain ⟨h1,h2⟩:=zbq hx
  rw [Int.toNat_natCast] at h1
  rw [Nat.zero_add] at hI ⊢
  have hx':x=(k:Int):=by omega
  subst hx'
  have hk:ss[k]?=some ss[k]:=List.getElem?_eq_getElem h1
  obtain ⟨a1,a2,a3,a4⟩:=Lat.zjF e hk
  have a5:=hI _ hk
  refine ⟨(Lat.hd ss[k]:Int),?_,λt ht=>?_⟩
  ·unfold Let
   dsimp only
   rw [zcj hk,ziP,zd6,a1,Lat.za1]
   rw [show (!decide ((n:Int)=(n:Int)))=false by simp,cond_false]
   rw [show (decide ((Lat.hd ss[k]:Int)≤s)||((decide ((Lat.hd ss[k]:Int)=(n:Int)))||(decide (Lat.vec ss[k] (Lat.hd ss[k])≤(0:Int)))))=false by
    simp only [Bool.or_eq_false_iff,decide_eq_false_iff_not]
    omega,cond_false]
   obtain ⟨u,e2,_⟩:=Lat.zf2 (xs:=cutD ss none (some (k:Int))) (s:=()) (n:=0) (I:=λ_ (_:Unit)=>True) (f:=(λ(s165:Unit) (x166:(List Int))=>(((bif ((decide ((ixD x166 (Lat.hd ss[k]:Int))<(0:Int)))||(decide ((Lat.vec ss[k] (Lat.hd ss[k]))≤(ixD x166 (Lat.hd ss[k]:Int))))) then (Sum.inr false)
 else (Sum.inl ()))):(Unit) ⊕ Bool))) trivial (by
    intro i t' u hi _
    refine ⟨(),?_,trivial⟩
    have hc:cutD ss none (some (k:Int))=ss.take k:=by
     unfold cutD
     rw [HT.sIx_nat,HT.sIx_none]
     show (List.drop 0 ss).take (min k ss.length-0)=_
     rw [List.drop_zero,Nat.sub_zero,Nat.min_eq_left (by omega)]
    rw [hc] at hi
    have hik:i<k:=by
     have:=(List.getElem?_eq_some_iff.mp hi).1
     rw [List.length_take] at this
     omega
    rw [List.getElem?_take_of_lt hik] at hi
    obtain ⟨b1,b2,b3⟩:=Lat.zjv e r hik hi hk
    rw [Lat.za1]
    rw [show (decide (Lat.vec t' (Lat.hd ss[k])<(0:Int))||(decide (Lat.vec ss[k] (Lat.hd ss[k])≤Lat.vec t' (Lat.hd ss[k]))))=false by
     simp only [Bool.or_eq_false_iff,decide_eq_false_iff_not]
     omega,cond_false])
   rw [e2]
   rfl
  ·have:=(Lat.zjv e r (Nat.lt_succ_self k) hk (by simpa using ht)).1
   omega)
 exact (congrArg (λz=>LetR z (λ(_:Int)=>true) (λb=>b)) e1).trans rfl
def m_law_brought (P0:(List (List Int))) (P1:(List Int)):(List Int) :=
 (Let (List.foldl (λ(s284:(List Int)) (x285:(List Int))=>(Let (m_law_head x285) (λ(hv289:Int) =>
 (Let ((ixD s284 hv289)/(ixD x285 hv289)) (λ(v290:Int) =>
 (Let (List.map (λ(x291:(Int×Int))=>(x291.1-(v290*x291.2))) (List.zip s284 x285)) (λ(v294:(List Int)) =>
 v294))))))) P1 P0) (λ(r295:(List Int)) =>
 r295))
def zbr (P0:(List (List Int))) (P1:(List Int)):Prop:=Lat.LowP P1 P0
def zco (K:W.Frag) (A:Adr):Sp:=Spv (ι:=(List (List Int))×(List Int)) (λx=>[dQ K (List.map lI x.1),dQ K (List.map dI x.2)]) (λx=>zbr x.1 x.2) (λx=>.va true (dL (List.map dI (m_law_brought x.1 x.2))))
theorem zbn:FnScope ["_law_steps","_law_basket","_law_found","_law_step","_law_head_here","_law_many"] ["_law_steps","_law_basket"] (zae zbh):=⟨rfl,rfl,rfl,by decide +kernel,rfl,by decide +kernel,by decide +kernel⟩
theorem zfo (F:Fun K "_law_brought" "_law_brought" zbh f fd) (T:Txt K mg A) (G_law_head:Callee P w K mg base (CXE P w) 1 "_law_head" ["_law_step"] (zde K A)):FnOk P w K mg base (CXE P w) 2 f fd ["_law_steps","_law_basket"] (zco K A):=by
 refine F.okV zbn (λ_=>rfl) (λcdv Ar outer s H E x hr hp=>?_)
 obtain ⟨P0,P1⟩:=x
 have hu:=hr.units
 replace hp:zbr P0 P1:=hp
 unfold zbr at hp
 obtain ⟨N0,A0,S0,p1,p2,p3,p4,p5,p6⟩:=hp
 refine ⟨_,(zab (zam (i:=2) zbn.nd rfl (Or.inl rfl) (zcu (zck (K:=K) rfl) rfl T.list PyProof.Rows.boot_list (pa_cons (pv 1) pa_nil)))
 (zab (zbo PassesOwn.never rfl (zaB (K:=K) rfl (pv 0)) (pg_name (i:=3) zbn.nd rfl (Or.inl rfl) (Or.inl rfl))
 (zab (zam (i:=4) zbn.nd rfl (Or.inl rfl) (zaC G_law_head (hr.mono (by decide)) rfl zaA (pa_cons (pv 3) pa_nil)))
 (zab (zam (i:=5) zbn.nd rfl (Or.inr rfl) (zar za9 (zaR (zao (K:=K) rfl) (pv 2) (pv 4) (λ_ _=>rfl)) (zaR (zao (K:=K) rfl) (pv 3) (pv 4) (λ_ _=>rfl))))
 (zab (zdR (i:=2) rfl zbn.nd rfl rfl (.of (osc:=(zae zbh)) (N:=["_law_steps","_law_basket","_law_found","_law_step","_law_head_here","_law_many"]) (own:=["_law_a","_law_b"]) (fvn:=["_law_many"]) (fv:=[5]) rfl rfl (by decide +kernel)) (zcm (K:=K) rfl rfl T.zip (pa_cons (pv 2) (pa_cons (pv 3) pa_nil))) (λ_ _ _ _ _=>⟨(zbg (K:=K) (n:=2) rfl rfl (zav (pg_name (i:=0) (show (["_law_a","_law_b","_law_many"]:List Str).Nodup by decide +kernel) rfl (Or.inl rfl) (Or.inr rfl)) (zav (pg_name (i:=1) (show (["_law_a","_law_b","_law_many"]:List Str).Nodup by decide +kernel) rfl (Or.inl rfl) (Or.inr rfl)) zb1))),zaZ,(zar zdJ (pv 0) (zar zaS (pv 2) (pv 1)))⟩))
 zad))))
 (zab (zaw (pv 2))
 zad))),.inl ?_⟩
 show L2.Run _ ([.va false (dQ K (List.map lI P0)),.va false (dQ K (List.map dI P1)),.no,.no,.no,.no]:L2.Ctx) _ ((λ(r:(List Int))=>Oc.rt true (dL (List.map dI r))) (m_law_brought P0 P1))
 unfold m_law_brought
 exact (zaK (m:=true) (EvO.ev (EvO.anyI (m:=false) (zer (zaa (i:=1) rfl))))
 (zbT (s0:=P1) (λ(s284:(List Int))=>([.va false (dQ K (List.map lI P0)),.va false (dQ K (List.map dI P1)),.va true (dL (List.map dI s284)),.no,.no,.no]:L2.Ctx)) (λ(r:(List Int))=>Oc.rt true (dL (List.map dI r))) (λ(s284:(List Int)) (x285:(List Int))=>(Let (m_law_head x285) (λ(hv289:Int) =>
 (Let ((ixD s284 hv289)/(ixD x285 hv289)) (λ(v290:Int) =>
 (Let (List.map (λ(x291:(Int×Int))=>(x291.1-(v290*x291.2))) (List.zip s284 x285)) (λ(v294:(List Int)) =>
 v294))))))) (λ(i:Nat) (s284:(List Int))=>s284.length=N0∧Lat.Bit (A0+i*(S0+1)) s284) (zaX (m:=false) lI (xs:=P0) (zaa (i:=0) rfl)) (.eq (.eq (.eq (.eq (.eq (.eq .nil)))))) (by exact ⟨p2,by simpa using p4⟩) (λi286 x285 s284 hx287 hI288=>have v287:=List.mem_of_getElem? hx287;⟨(by exact Lat.zi2 (p5 _ (by assumption)) (by assumption) (zmc (zmN (p5 _ (by assumption)) (by assumption)))),
 (zaq (m:=true) (x:=(m_law_head x285)) dI (λz=>Oc.nx ((λ(s284:(List Int))=>([.va false (dQ K (List.map lI P0)),.va false (dQ K (List.map dI P1)),.va true (dL (List.map dI s284)),.no,.no,.no]:L2.Ctx)) z)) (Ev.any (m:=true) (zal (x:=x285) (zac (Ev.weak (K:=K) (zaa (i:=3) rfl)) zaf) rfl (by show zbu x285;exact zop p1 (p5 _ (by assumption))) rfl)) (λhv289 hhead289 =>
 have hH:=(hhead289).trans (zd6 _);(zaq (m:=true) (x:=((ixD s284 hv289)/(ixD x285 hv289))) dI (λz=>Oc.nx ((λ(s284:(List Int))=>([.va false (dQ K (List.map lI P0)),.va false (dQ K (List.map dI P1)),.va true (dL (List.map dI s284)),.no,.no,.no]:L2.Ctx)) z)) (zas (x:=(ixD s284 hv289)) (y:=(ixD x285 hv289)) (Ev.any (m:=true) (zbB (f:=dI) (xs:=s284) (Ev.weak (K:=K) (zaa (i:=2) rfl)) (Ev.any (m:=true) (zaa (i:=4) rfl)) (by exact znZ (p5 _ (by assumption)) hH (by assumption)))) (Ev.any (m:=false) (zbB (f:=dI) (xs:=x285) (Ev.weak (K:=K) (zaa (i:=3) rfl)) (Ev.any (m:=true) (zaa (i:=4) rfl)) (by exact zhE (p5 _ (by assumption)) hH))) (by exact Lat.zi7 (p5 _ (by assumption)) hH)) (λv290 hv290 =>
 (zaq (m:=true) (x:=(List.map (λ(x291:(Int×Int))=>(x291.1-(v290*x291.2))) (List.zip s284 x285))) lI (λz=>Oc.nx ((λ(s284:(List Int))=>([.va false (dQ K (List.map lI P0)),.va false (dQ K (List.map dI P1)),.va true (dL (List.map dI s284)),.no,.no,.no]:L2.Ctx)) z)) (EvO.ev (EvO.conv (zbJ (g:=(λ(x291:(Int×Int))=>dI (x291.1-(v290*x291.2)))) (zdI (m:=false) dI dI (xs:=s284) (ys:=x285) (Ev.old (Ev.weak (K:=K) (zaa (i:=2) rfl))) (Ev.weak (K:=K) (zaa (i:=3) rfl))) (by exact zoH p1 (by assumption)) ⟨by decide,by decide⟩ (λi292 x291 hx293=>have v293:=za6 hx293;(zaD (x:=x291.1) (y:=(v290*x291.2)) (Ev.any (m:=false) (zaa (i:=0) rfl)) (zas (x:=v290) (y:=x291.2) (Ev.any (m:=true) (zaa (i:=2) rfl)) (Ev.any (m:=false) (zaa (i:=1) rfl)) (by exact zm2 p6 (by assumption) p5 (by assumption) hH (by assumption) (by assumption)))))) (by first | (rw [List.map_map];rfl) | (simp only [cond_true,cond_false];rw [List.map_map];rfl)))) (λv294 hv294 =>
 (zak (.eq (.eq (.eq (.no (.no (.no .nil)))))))))))))⟩) (λr295 hr295 hI =>
 (zah (zap (zaa (i:=2) rfl))))))
theorem zfM:∀ {ss:List (List Int)} {l:List Int},(∀ t∈ss,t.length=l.length)->m_law_brought ss l=Lat.low l ss
 | [],l,_=>rfl
 | t :: ss,l,h=>by
  have ht:=h t List.mem_cons_self
  have e:Let (m_law_head t) (λ(h:Int)=>Let ((ixD l h)/(ixD t h)) (λ(q:Int)=>Let (List.map (λ(x:(Int×Int))=>(x.1-(q*x.2))) (List.zip l t)) (λ(y:(List Int))=>y)))=Lat.zfG l t:=by
   unfold Let
   dsimp only
   rw [zd6,Lat.za1,Lat.za1]
   exact Lat.zle ht.symm
  have:=zfM (ss:=ss) (l:=Lat.zfG l t) λs hs=>by rw [Lat.zed ht.symm,h s (List.mem_cons_of_mem _ hs)]
  show m_law_brought (t :: ss) l=Lat.low (Lat.zfG l t) ss
  rw [← this]
  unfold m_law_brought
  rw [List.foldl_cons,e]
theorem znP {l:List Int} (h:∀ i,Lat.vec l i=0):l.any (· != 0)=false:=by
 rw [List.any_eq_false]
 intro y hy
 obtain ⟨j,_,rfl⟩:=Lat.zfS hy
 simp [h j]
theorem znQ {W:Nat} {ss:List (List Int)} {l:List Int} (E:Lat.Ech W 0 ss) (hl:l.length=W) (h:Lat.SpL ss (Lat.vec l)):(m_law_brought ss l).any (· != 0)=false:=by
 rw [zfM λs hs=>by rw [(E.mem s hs).1,hl],Lat.zkq E hl h]
 exact znP λi=>Lat.zke
theorem zjw {n:Int} {l:List Int} (i:Nat):Lat.vec (List.map (λ(x:Int)=>n*x) l) i=n*Lat.vec l i:=by
 unfold Lat.vec
 rw [List.getD_eq_getElem?_getD,List.getD_eq_getElem?_getD,List.getElem?_map]
 cases l[i]?<;>simp
theorem bit_sc {n:Int} {l:List Int} {a b:Nat} (hn:n.natAbs≤2^a) (h:Lat.Bit b l):Lat.Bit (a+b) (List.map (λ(x:Int)=>n*x) l):=λx hx=>by
 obtain ⟨y,hy,rfl⟩:=List.mem_map.mp hx
 rw [Int.natAbs_mul,Nat.pow_add]
 exact Nat.mul_le_mul hn (h y hy)
structure StG (W:Nat) (steps:List (List Int)):Prop where
 w:W≤8
 len:steps.length≤31
 sd:∃ s,s≤30000∧∀ t∈steps,Lat.Sd W s t
theorem StG.low {W a:Nat} {steps:List (List Int)} {n:Int} {l:List Int} (h:StG W steps) (hn:n.natAbs≤2^a) (ha:a≤300) (hl:l.length=W) (hb:Lat.Bit 100 l):Lat.LowP (List.map (λ(x:Int)=>n*x) l) steps:=by
 obtain ⟨s,s1,s2⟩:=h.sd
 refine ⟨W,a+100,s,by have:=h.w;omega,by rw [List.length_map,hl],by have:=h.len;omega,bit_sc hn hb,s2,?_⟩
 have:=Nat.mul_le_mul h.len (show s+1≤30001 by omega)
 omega
def OnP (rows:List (List Int)) (one two:List Int) (steps:List (List Int)):Prop:=∃ W,StG W steps∧(∀ r∈rows,r.length=W∧Lat.Bit 100 r)∧(∀ b∈one,0≤b∧b≤1000000001)∧∀ b∈two,0≤b∧b≤1000000001
section
variable {rows steps:List (List Int)} {one two:List Int} {i:Nat} {x:List Int×(Int×Int)} {n y:Int}
theorem zo8 (h:OnP rows one two steps) (hx:rows[i]?=some x.1∧(List.zip one two)[i]?=some x.2):0≤x.2.1∧0≤x.2.2∧x.2.1.natAbs≤2^30∧x.2.2.natAbs≤2^30:=by
 obtain ⟨W,h1,h2,h3,h4⟩:=h
 obtain ⟨z1,z2⟩:=za6 hx.2
 have:=h3 _ (List.mem_of_getElem? z1)
 have:=h4 _ (List.mem_of_getElem? z2)
 omega
theorem zoS (h:OnP rows one two steps) (hx:rows[i]?=some x.1∧(List.zip one two)[i]?=some x.2):MuP x.2.1 x.2.2:=by
 obtain ⟨a,b,c,d⟩:=zo8 h hx
 exact ⟨a,b,Nat.le_trans c (Nat.pow_le_pow_right (by decide) (by decide)),Nat.le_trans d (Nat.pow_le_pow_right (by decide) (by decide))⟩
theorem zpc (h:OnP rows one two steps) (hx:rows[i]?=some x.1∧(List.zip one two)[i]?=some x.2) (hN:n=m_law_multiple x.2.1 x.2.2):n.natAbs≤2^60:=by
 obtain ⟨a,b,c,d⟩:=zo8 h hx
 rw [hN];exact (zk5 a b c d).2
theorem zn6 (h:OnP rows one two steps) (hx:rows[i]?=some x.1∧(List.zip one two)[i]?=some x.2) (hN:n=m_law_multiple x.2.1 x.2.2) (hy:y∈x.1):zcC n y:=by
 have:=zpc h hx hN
 obtain ⟨W,h1,h2,h3,h4⟩:=h
 exact Lat.zcC.of this ((h2 _ (List.mem_of_getElem? hx.1)).2 y hy) (by decide) (by decide)
theorem zmW (h:OnP rows one two steps) (hx:rows[i]?=some x.1∧(List.zip one two)[i]?=some x.2):x.1.length≤PySem.sizeLine:=by
 obtain ⟨W,h1,h2,h3,h4⟩:=h
 exact zat (by rw [(h2 _ (List.mem_of_getElem? hx.1)).1];have:=h1.w;omega)
theorem znR (h:OnP rows one two steps) (hx:rows[i]?=some x.1∧(List.zip one two)[i]?=some x.2) (hN:n=m_law_multiple x.2.1 x.2.2):Lat.LowP (List.map (λ(y:Int)=>(n*y)) x.1) steps:=by
 have:=zpc h hx hN
 obtain ⟨W,h1,h2,h3,h4⟩:=h
 exact h1.low this (by decide) (h2 _ (List.mem_of_getElem? hx.1)).1 (h2 _ (List.mem_of_getElem? hx.1)).2
end
def EaP (sw ds:List (List Int)) (bs:List Int) (steps:List (List Int)):Prop:=∃ W,StG W steps∧∀ x∈sw,x.length=W∧Lat.Bit 100 x∧OfP ds bs x
section
variable {sw ds steps:List (List Int)} {bs x:List Int} {n y:Int}
theorem zmk (h:EaP sw ds bs steps) (hx:x∈sw):OfP ds bs x:=by obtain ⟨W,h1,h2⟩:=h;exact (h2 x hx).2.2
theorem znb (h:EaP sw ds bs steps) (hx:x∈sw) (hN:n=m_law_often ds bs x) (hy:y∈x):zcC n y:=by
 have:=zjo (zmk h hx)
 obtain ⟨W,h1,h2⟩:=h
 rw [hN];exact Lat.zcC.of this ((h2 x hx).2.1 y hy) (by decide) (by decide)
theorem znd (h:EaP sw ds bs steps) (hx:x∈sw):x.length≤PySem.sizeLine:=by
 obtain ⟨W,h1,h2⟩:=h
 exact zat (by rw [(h2 x hx).1];have:=h1.w;omega)
theorem zm0 (h:EaP sw ds bs steps) (hx:x∈sw) (hN:n=m_law_often ds bs x):Lat.LowP (List.map (λ(y:Int)=>(n*y)) x) steps:=by
 have:=zjo (zmk h hx)
 obtain ⟨W,h1,h2⟩:=h
 rw [hN];exact h1.low this (by decide) (h2 x hx).1 (h2 x hx).2.1
end
def m_law_one_frame (P0:(List (List Int))) (P1:(List Int)) (P2:(List Int)) (P3:(List (List Int))):Bool :=
 (LetR (loopR (λ(s296:Int) (x297:((List Int)×(Int×Int)))=>(((Let (m_law_multiple x297.2.1 x297.2.2) (λ(v301:Int) =>
 (Let (bif (decide ((0:Int)<v301)) then (s296+(1:Int)) else s296) (λ(v303:Int) =>
 (bif ((m_law_brought P3 (List.map (λ(x304:Int)=>(v301*x304)) x297.1)).any (· != 0)) then (Sum.inr false)
 else (Sum.inl v303))))))):(Int) ⊕ Bool)) (0:Int) (List.zip P0 (List.zip P1 P2))) (λ(r308:Int) =>
 (decide (r308=((P3.length:Nat):Int)))) (λb=>b))
def zbG (P0:(List (List Int))) (P1:(List Int)) (P2:(List Int)) (P3:(List (List Int))):Prop:=OnP P0 P1 P2 P3
def zcy (K:W.Frag) (A:Adr):Sp:=Spv (ι:=(List (List Int))×(List Int)×(List Int)×(List (List Int))) (λx=>[dQ K (List.map lI x.1),dQ K (List.map dI x.2.1),dQ K (List.map dI x.2.2.1),dQ K (List.map lI x.2.2.2)]) (λx=>zbG x.1 x.2.1 x.2.2.1 x.2.2.2) (λx=>.va true (dB (m_law_one_frame x.1 x.2.1 x.2.2.1 x.2.2.2)))
theorem zaP:FnScope ["_law_rows","_law_one","_law_two_here","_law_steps","_law_many","_law_row","_law_left","_law_right","_law_number"] ["_law_rows","_law_one","_law_two_here","_law_steps"] (zae zaV):=⟨rfl,rfl,rfl,by decide +kernel,rfl,by decide +kernel,by decide +kernel⟩
theorem zeE (F:Fun K "_law_one_frame" "_law_one_frame" zaV f fd) (T:Txt K mg A) (G_law_brought:Callee P w K mg base (CXE P w) 2 "_law_brought" ["_law_steps","_law_basket"] (zco K A)) (G_law_multiple:Callee P w K mg base (CXE P w) 2 "_law_multiple" ["_law_one","_law_other"] (zb6 K A)):FnOk P w K mg base (CXE P w) 3 f fd ["_law_rows","_law_one","_law_two_here","_law_steps"] (zcy K A):=by
 refine F.okV zaP (λ_=>rfl) (λcdv Ar outer s H E x hr hp=>?_)
 obtain ⟨P0,P1,P2,P3⟩:=x
 have hu:=hr.units
 replace hp:zbG P0 P1 P2 P3:=hp
 unfold zbG at hp
 refine ⟨_,(zab (zam (i:=4) zaP.nd rfl (Or.inl rfl) zag)
 (zab (zbo PassesOwn.never rfl (ziR (K:=K) rfl rfl T.zip (pa_cons (pv 0) (pa_cons (pv 1) (pa_cons (pv 2) pa_nil)))) (zbg (K:=K) (n:=3) rfl rfl (zav (pg_name (i:=5) zaP.nd rfl (Or.inl rfl) (Or.inl rfl)) (zav (pg_name (i:=6) zaP.nd rfl (Or.inl rfl) (Or.inl rfl)) (zav (pg_name (i:=7) zaP.nd rfl (Or.inl rfl) (Or.inl rfl)) zb1))))
 (zab (zam (i:=8) zaP.nd rfl (Or.inr rfl) (zaC G_law_multiple (hr.mono (by decide)) rfl zaA (pa_cons (pv 6) (pa_cons (pv 7) pa_nil))))
 (zab (zbd (pt_cmpR zgn (pv 8) zag (nomark _))
 (zab (zam (i:=4) zaP.nd rfl (Or.inl rfl) (zar zca (pv 4) zag))
 zad)
 zad)
 (zab (zbd (pt_val (pe_callB (zgF (K:=K) rfl rfl) rfl T.any PyProof.Rows.boot_any (pa_cons (zaC G_law_brought (hr.mono (by decide)) rfl zaA (pa_cons (pv 3) (pa_cons (zbC rfl (.of (osc:=(zae zaV)) (N:=["_law_rows","_law_one","_law_two_here","_law_steps","_law_many","_law_row","_law_left","_law_right","_law_number"]) (own:=["_law_entry"]) (fvn:=["_law_number"]) (fv:=[8]) rfl rfl (by decide +kernel)) (zaB (K:=K) rfl (pv 5)) (λ_ _ _ _ _=>⟨(pg_name (i:=0) (show (["_law_entry","_law_number"]:List Str).Nodup by decide +kernel) rfl (Or.inl rfl) (Or.inr rfl)),zaZ,(zar zaS (pv 1) (pv 0))⟩)) pa_nil))) pa_nil)))
 (zab (zaw zc8)
 zad)
 zad)
 zad))))
 (zab (zaw (zfZ zd8 (pv 4) (pe_callB (call_len_K (K:=K) rfl) rfl T.len PySem.boot_len (pa_cons (pv 3) pa_nil)) (nomark _)))
 zad))),.inl ?_⟩
 show L2.Run _ ([.va false (dQ K (List.map lI P0)),.va false (dQ K (List.map dI P1)),.va false (dQ K (List.map dI P2)),.va false (dQ K (List.map lI P3)),.no,.no,.no,.no,.no]:L2.Ctx) _ ((λ(r:Bool)=>Oc.rt true (dB r)) (m_law_one_frame P0 P1 P2 P3))
 unfold m_law_one_frame
 exact (zaK (m:=true) zaz
 (zb7 (s0:=(0:Int)) (λ(s296:Int)=>([.va false (dQ K (List.map lI P0)),.va false (dQ K (List.map dI P1)),.va false (dQ K (List.map dI P2)),.va false (dQ K (List.map lI P3)),.va true (dI s296),.no,.no,.no,.no]:L2.Ctx)) (λ(r:Bool)=>Oc.rt true (dB r)) (λb=>b) (λ(s296:Int) (x297:((List Int)×(Int×Int)))=>(((Let (m_law_multiple x297.2.1 x297.2.2) (λ(v301:Int) =>
 (Let (bif (decide ((0:Int)<v301)) then (s296+(1:Int)) else s296) (λ(v303:Int) =>
 (bif ((m_law_brought P3 (List.map (λ(x304:Int)=>(v301*x304)) x297.1)).any (· != 0)) then (Sum.inr false)
 else (Sum.inl v303))))))):(Int) ⊕ Bool)) (λ_ _=>True) (λb=>.inl ⟨_,_,rfl⟩) (zlM (m:=false) lI dI dI (xs:=P0) (ys:=P1) (zs:=P2) (zaa (i:=0) rfl) (zaa (i:=1) rfl) (zaa (i:=2) rfl)) (.eq (.eq (.eq (.eq (.eq (.eq (.eq (.eq (.eq .nil))))))))) trivial (λi298 x297 s296 hx299 hI300=>have v299:=za6 hx299;⟨(λ_ _=>trivial),
 (zaq (m:=true) (x:=(m_law_multiple x297.2.1 x297.2.2)) dI (zcw (λ(s296:Int)=>([.va false (dQ K (List.map lI P0)),.va false (dQ K (List.map dI P1)),.va false (dQ K (List.map dI P2)),.va false (dQ K (List.map lI P3)),.va true (dI s296),.no,.no,.no,.no]:L2.Ctx)) (λ(r:Bool)=>Oc.rt true (dB r))) (Ev.any (m:=true) (zal (x:=(x297.2.1,x297.2.2)) (zac (Ev.any (m:=false) (zaa (i:=6) rfl)) (zac (Ev.any (m:=false) (zaa (i:=7) rfl)) zaf)) rfl (by show zbk x297.2.1 x297.2.2;exact zoS hp (by assumption)) rfl)) (λv301 hv301 =>
 have hN:=hv301;(zbR (b:=(decide ((0:Int)<v301))) (λbb=>([.va false (dQ K (List.map lI P0)),.va false (dQ K (List.map dI P1)),.va false (dQ K (List.map dI P2)),.va false (dQ K (List.map lI P3)),.va true (dI (bif bb then (s296+(1:Int)) else s296)),.va false (dL (List.map dI x297.1)),.va false (dI x297.2.1),.va false (dI x297.2.2),.va true (dI v301)]:L2.Ctx)) (zan (zaD (x:=v301) (y:=(0:Int)) (Ev.any (m:=true) (zaa (i:=8) rfl)) zaz)) (λh302=>(zaK (m:=true) (zaD (x:=s296) (y:=(1:Int)) (Ev.any (m:=true) (zaa (i:=4) rfl)) zaz)
 (zak (.eq (.eq (.eq (.eq (.eq (.eq (.eq (.eq (.eq .nil)))))))))))) (λh302=>(zak (.eq (.eq (.eq (.eq (.eq (.eq (.eq (.eq (.eq .nil)))))))))))
 (zbv (x:=(bif (decide ((0:Int)<v301)) then (s296+(1:Int)) else s296)) (λv303=>([.va false (dQ K (List.map lI P0)),.va false (dQ K (List.map dI P1)),.va false (dQ K (List.map dI P2)),.va false (dQ K (List.map lI P3)),.va true (dI v303),.va false (dL (List.map dI x297.1)),.va false (dI x297.2.1),.va false (dI x297.2.2),.va true (dI v301)]:L2.Ctx)) (zcw (λ(s296:Int)=>([.va false (dQ K (List.map lI P0)),.va false (dQ K (List.map dI P1)),.va false (dQ K (List.map dI P2)),.va false (dQ K (List.map lI P3)),.va true (dI s296),.no,.no,.no,.no]:L2.Ctx)) (λ(r:Bool)=>Oc.rt true (dB r))) (λv303 hv303 =>
 (zax (b:=((m_law_brought P3 (List.map (λ(x304:Int)=>(v301*x304)) x297.1)).any (· != 0))) (zcw (λ(s296:Int)=>([.va false (dQ K (List.map lI P0)),.va false (dQ K (List.map dI P1)),.va false (dQ K (List.map dI P2)),.va false (dQ K (List.map lI P3)),.va true (dI s296),.no,.no,.no,.no]:L2.Ctx)) (λ(r:Bool)=>Oc.rt true (dB r))) (zci (zlx (xs:=(m_law_brought P3 (List.map (λ(x304:Int)=>(v301*x304)) x297.1))) (Ev.old (Ev.weak (K:=K) (zal (x:=(P3,(List.map (λ(x304:Int)=>(v301*x304)) x297.1))) (zac (zaa (i:=3) rfl) (zac (Ev.weak (K:=K) (EvO.ev (EvO.conv (zbJ (g:=(λ(x304:Int)=>dI (v301*x304))) (zaX (m:=false) dI (xs:=x297.1) (Ev.weak (K:=K) (zaa (i:=5) rfl))) (by exact zmW hp (by assumption)) ⟨by decide,by decide⟩ (λi305 x304 hx306=>have v306:=List.mem_of_getElem? hx306;(zas (x:=v301) (y:=x304) (Ev.any (m:=true) (zaa (i:=1) rfl)) (Ev.any (m:=false) (zaa (i:=0) rfl)) (by exact zn6 hp (by assumption) hN (by assumption))))) (by first | (rw [List.map_map];rfl) | (simp only [cond_true,cond_false];rw [List.map_map];rfl))))) zaf)) rfl (by show zbr P3 (List.map (λ(x304:Int)=>(v301*x304)) x297.1);exact znR hp (by assumption) hN) rfl))))) (λh307=>(zai (zah (zap zaz)))) (λh307 =>
 (zaj (zak (.eq (.eq (.eq (.eq (.eq (.no (.no (.no (.no .nil))))))))))))))))))⟩) (λr308 hr308 hI =>
 (zah (zap (zcN (x:=r308) (y:=((P3.length:Nat):Int)) (Ev.any (m:=true) (zaa (i:=4) rfl)) (zbK (f:=lI) (xs:=P3) (zaa (i:=3) rfl))))))))
def m_law_each_often (P0:(List (List Int))) (P1:(List (List Int))) (P2:(List Int)) (P3:(List (List Int))):Bool :=
 (LetR (loopR (λ(s309:Unit) (x310:(List Int))=>(((Let (m_law_often P1 P2 x310) (λ(v314:Int) =>
 (bif ((m_law_brought P3 (List.map (λ(x315:Int)=>(v314*x315)) x310)).any (· != 0)) then (Sum.inr false)
 else (Sum.inl ()))))):(Unit) ⊕ Bool)) () P0) (λ(r319:Unit) =>
 true) (λb=>b))
def za4 (P0:(List (List Int))) (P1:(List (List Int))) (P2:(List Int)) (P3:(List (List Int))):Prop:=EaP P0 P1 P2 P3
def zcl (K:W.Frag) (A:Adr):Sp:=Spv (ι:=(List (List Int))×(List (List Int))×(List Int)×(List (List Int))) (λx=>[dQ K (List.map lI x.1),dQ K (List.map lI x.2.1),dQ K (List.map dI x.2.2.1),dQ K (List.map lI x.2.2.2)]) (λx=>za4 x.1 x.2.1 x.2.2.1 x.2.2.2) (λx=>.va true (dB (m_law_each_often x.1 x.2.1 x.2.2.1 x.2.2.2)))
theorem zcg:FnScope ["_law_swaps","_law_duals","_law_bottoms_here","_law_steps","_law_swap","_law_number"] ["_law_swaps","_law_duals","_law_bottoms_here","_law_steps"] (zae zaQ):=⟨rfl,rfl,rfl,by decide +kernel,rfl,by decide +kernel,by decide +kernel⟩
theorem zef (F:Fun K "_law_each_often" "_law_each_often" zaQ f fd) (T:Txt K mg A) (G_law_brought:Callee P w K mg base (CXE P w) 2 "_law_brought" ["_law_steps","_law_basket"] (zco K A)) (G_law_often:Callee P w K mg base (CXE P w) 3 "_law_often" ["_law_duals","_law_bottoms_here","_law_basket"] (zdu K A)):FnOk P w K mg base (CXE P w) 4 f fd ["_law_swaps","_law_duals","_law_bottoms_here","_law_steps"] (zcl K A):=by
 refine F.okV zcg (λ_=>rfl) (λcdv Ar outer s H E x hr hp=>?_)
 obtain ⟨P0,P1,P2,P3⟩:=x
 have hu:=hr.units
 replace hp:za4 P0 P1 P2 P3:=hp
 unfold za4 at hp
 refine ⟨_,(zab (zbo PassesOwn.never rfl (zaB (K:=K) rfl (pv 0)) (pg_name (i:=4) zcg.nd rfl (Or.inl rfl) (Or.inl rfl))
 (zab (zam (i:=5) zcg.nd rfl (Or.inr rfl) (zaC G_law_often (hr.mono (by decide)) rfl zaA (pa_cons (pv 1) (pa_cons (pv 2) (pa_cons (pv 4) pa_nil)))))
 (zab (zbd (pt_val (pe_callB (zgF (K:=K) rfl rfl) rfl T.any PyProof.Rows.boot_any (pa_cons (zaC G_law_brought (hr.mono (by decide)) rfl zaA (pa_cons (pv 3) (pa_cons (zbC rfl (.of (osc:=(zae zaQ)) (N:=["_law_swaps","_law_duals","_law_bottoms_here","_law_steps","_law_swap","_law_number"]) (own:=["_law_entry"]) (fvn:=["_law_number"]) (fv:=[5]) rfl rfl (by decide +kernel)) (zaB (K:=K) rfl (pv 4)) (λ_ _ _ _ _=>⟨(pg_name (i:=0) (show (["_law_entry","_law_number"]:List Str).Nodup by decide +kernel) rfl (Or.inl rfl) (Or.inr rfl)),zaZ,(zar zaS (pv 1) (pv 0))⟩)) pa_nil))) pa_nil)))
 (zab (zaw zc8)
 zad)
 zad)
 zad)))
 (zab (zaw zc8)
 zad)),.inl ?_⟩
 show L2.Run _ ([.va false (dQ K (List.map lI P0)),.va false (dQ K (List.map lI P1)),.va false (dQ K (List.map dI P2)),.va false (dQ K (List.map lI P3)),.no,.no]:L2.Ctx) _ ((λ(r:Bool)=>Oc.rt true (dB r)) (m_law_each_often P0 P1 P2 P3))
 unfold m_law_each_often
 exact (zb7 (s0:=()) (λ(s309:Unit)=>([.va false (dQ K (List.map lI P0)),.va false (dQ K (List.map lI P1)),.va false (dQ K (List.map dI P2)),.va false (dQ K (List.map lI P3)),.no,.no]:L2.Ctx)) (λ(r:Bool)=>Oc.rt true (dB r)) (λb=>b) (λ(s309:Unit) (x310:(List Int))=>(((Let (m_law_often P1 P2 x310) (λ(v314:Int) =>
 (bif ((m_law_brought P3 (List.map (λ(x315:Int)=>(v314*x315)) x310)).any (· != 0)) then (Sum.inr false)
 else (Sum.inl ()))))):(Unit) ⊕ Bool)) (λ_ _=>True) (λb=>.inl ⟨_,_,rfl⟩) (zaX (m:=false) lI (xs:=P0) (zaa (i:=0) rfl)) (.eq (.eq (.eq (.eq (.eq (.eq .nil)))))) trivial (λi311 x310 s309 hx312 hI313=>have v312:=List.mem_of_getElem? hx312;⟨(λ_ _=>trivial),
 (zaq (m:=true) (x:=(m_law_often P1 P2 x310)) dI (zcw (λ(s309:Unit)=>([.va false (dQ K (List.map lI P0)),.va false (dQ K (List.map lI P1)),.va false (dQ K (List.map dI P2)),.va false (dQ K (List.map lI P3)),.no,.no]:L2.Ctx)) (λ(r:Bool)=>Oc.rt true (dB r))) (Ev.any (m:=true) (zal (x:=(P1,P2,x310)) (zac (zaa (i:=1) rfl) (zac (zaa (i:=2) rfl) (zac (Ev.weak (K:=K) (zaa (i:=4) rfl)) zaf))) rfl (by show zcD P1 P2 x310;exact zmk hp (by assumption)) rfl)) (λv314 hv314 =>
 have hN:=hv314;(zax (b:=((m_law_brought P3 (List.map (λ(x315:Int)=>(v314*x315)) x310)).any (· != 0))) (zcw (λ(s309:Unit)=>([.va false (dQ K (List.map lI P0)),.va false (dQ K (List.map lI P1)),.va false (dQ K (List.map dI P2)),.va false (dQ K (List.map lI P3)),.no,.no]:L2.Ctx)) (λ(r:Bool)=>Oc.rt true (dB r))) (zci (zlx (xs:=(m_law_brought P3 (List.map (λ(x315:Int)=>(v314*x315)) x310))) (Ev.old (Ev.weak (K:=K) (zal (x:=(P3,(List.map (λ(x315:Int)=>(v314*x315)) x310))) (zac (zaa (i:=3) rfl) (zac (Ev.weak (K:=K) (EvO.ev (EvO.conv (zbJ (g:=(λ(x315:Int)=>dI (v314*x315))) (zaX (m:=false) dI (xs:=x310) (Ev.weak (K:=K) (zaa (i:=4) rfl))) (by exact znd hp (by assumption)) ⟨by decide,by decide⟩ (λi316 x315 hx317=>have v317:=List.mem_of_getElem? hx317;(zas (x:=v314) (y:=x315) (Ev.any (m:=true) (zaa (i:=1) rfl)) (Ev.any (m:=false) (zaa (i:=0) rfl)) (by exact znb hp (by assumption) hN (by assumption))))) (by first | (rw [List.map_map];rfl) | (simp only [cond_true,cond_false];rw [List.map_map];rfl))))) zaf)) rfl (by show zbr P3 (List.map (λ(x315:Int)=>(v314*x315)) x310);exact zm0 hp (by assumption) hN) rfl))))) (λh318=>(zai (zah (zap zaz)))) (λh318 =>
 (zaj (zak (.eq (.eq (.eq (.eq (.no (.no .nil))))))))))))⟩) (λr319 hr319 hI =>
 (zah (zap zaz))))
theorem zgQ {α β:Type} (x:α) (f:α->β):Let x f=f x:=rfl
theorem zep {γ β:Type} {f:Unit->γ->Unit ⊕ β}:∀ {xs:List γ},(∀ x∈xs,f () x=.inl ())->loopR f () xs=.inl ()
 | [],_=>rfl
 | x :: xs,h=>by
  simp only [loopR,h x List.mem_cons_self]
  exact zep λy hy=>h y (List.mem_cons_of_mem _ hy)
section
variable {W:Nat} {f:List (List Int)×List (List Int)} {t:List Int}
theorem zho {x:Int} {xs:List Int} {a:Lat.Vc} {as:List Lat.Vc}:Lat.dv t (Lat.comb (x :: xs) (a :: as))=Lat.dv t (Lat.comb xs as)+x*Lat.dv t a:=by
 rw [← Lat.ze7]
 exact Lat.zex λi=>by simp only [Lat.comb];omega
theorem ziK:∀ (xs:List Int) (as:List Lat.Vc),(∀ a∈as,Lat.dv t a=0)->Lat.dv t (Lat.comb xs as)=0
 | [],as,_=>by cases as<;>exact Lat.dv_zero t
 | x :: xs,[],_=>Lat.dv_zero t
 | x :: xs,a :: as,h=>by
  rw [zho,ziK xs as λb hb=>h b (List.mem_cons_of_mem _ hb),h a List.mem_cons_self];simp
theorem zjk:∀ (xs:List Int) (as:List Lat.Vc) (j:Nat) (x:Int),xs.length=as.length->(∀ (k:Nat) (a:Lat.Vc),as[k]?=some a->Lat.dv t a=if j=k then 1 else 0)->xs[j]?=some x->Lat.dv t (Lat.comb xs as)=x
 | [],_,_,_,_,_,hx=>by cases hx
 | _ :: _,[],_,_,hl,_,_=>by cases hl
 | y :: xs,a :: as,0,x,hl,h,hx=>by
  rw [zho,ziK xs as λb hb=>?_,h 0 a rfl]
  ·cases hx;simp
  ·obtain ⟨k,hk⟩:=List.getElem?_of_mem hb
   rw [h (k+1) b hk,if_neg (by omega)]
 | y :: xs,a :: as,j+1,x,hl,h,hx=>by
  rw [zho,h 0 a rfl,if_neg (by omega),zjk xs as j x (by simpa using hl) (λk b hb=>?_) hx,Int.mul_zero,Int.add_zero]
  rw [h (k+1) b hb]
  by_cases q:j=k
  ·rw [if_pos (by omega),if_pos q]
  ·rw [if_neg (by omega),if_neg q]
theorem zm7 (h:Lat.Du W f):Lat.zkM (f.1.map Lat.vec):=λxs hl hz x hx=>by
 obtain ⟨j,hj⟩:=List.getElem?_of_mem hx
 have jl:=(List.getElem?_eq_some_iff.mp hj).1
 rw [List.length_map,h.l1] at hl
 have ht:f.2[j]?=some (f.2[j]'(by rw [h.l2];omega)):=List.getElem?_eq_getElem _
 rw [← zjk (t:=f.2[j]'(by rw [h.l2];omega)) xs (f.1.map Lat.vec) j x (by rw [List.length_map,h.l1,hl]) (λk a ha=>by
  rw [List.getElem?_map] at ha
  cases q:f.1[k]? with
  | none=>rw [q] at ha;cases ha
  | some v=>rw [q] at ha;rw [← Option.some.inj ha];exact h.A j k _ v ht q) hj]
 rw [← Lat.dv_zero (f.2[j]'(by rw [h.l2];omega))]
 exact Lat.zex hz
theorem zlY {ms:List Int} (h:Lat.Du W f) (hm:ms.length=W):Lat.zkM ((Lat.scl f.1 ms).map Lat.vec):=λxs hl hz=>by
 have e:(Lat.scl f.1 ms).map Lat.vec=((List.zip f.1 ms).filter λp=>decide ((0:Int)<p.2)).map λp=>Lat.vec (List.map (λ(y:Int)=>(p.2*y)) p.1):=by
  unfold Lat.scl;rw [List.map_map];rfl
 rw [e] at hl hz
 obtain ⟨ys,y1,y2,y3⟩:=Lat.zen (List.zip f.1 ms) xs (by rw [hl,List.length_map])
 refine y3 (zm7 h ys ?_ λi=>?_)
 ·rw [y1,List.length_map,List.length_zip,h.l1,hm];omega
 ·rw [← hz i,← y2 i]
  have:f.1=(List.zip f.1 ms).map Prod.fst:=by rw [List.map_fst_zip (by rw [h.l1,hm];exact Nat.le_refl _)]
  have h2:=congrArg (List.map Lat.vec) this
  rw [List.map_map] at h2
  rw [h2];rfl
end
def onF (steps:List (List Int)):Int->List Int×(Int×Int)->Int ⊕ Bool:=λs x=>((Let (m_law_multiple x.2.1 x.2.2) (λ(n:Int)=>(Let (bif (decide ((0:Int)<n)) then (s+(1:Int)) else s) (λ(m:Int)=>(bif ((m_law_brought steps (List.map (λ(y:Int)=>(n*y)) x.1)).any (· != 0)) then (Sum.inr false) else (Sum.inl m)))))):Int ⊕ Bool)
theorem zjt {steps:List (List Int)}:∀ (l:List (List Int×(Int×Int))) (s:Int),(∀ x∈l,(m_law_brought steps (List.map (λ(y:Int)=>(m_law_multiple x.2.1 x.2.2*y)) x.1)).any (· != 0)=false)->loopR (onF steps) s l=.inl (s+(((l.filter λx=>decide (0<m_law_multiple x.2.1 x.2.2)).length:Nat):Int))
 | [],s,_=>by simp [loopR]
 | x :: l,s,h=>by
  have hx:=h x List.mem_cons_self
  have hl:=λs=>zjt l s λy hy=>h y (List.mem_cons_of_mem _ hy)
  by_cases q:0<m_law_multiple x.2.1 x.2.2
  ·have e:onF steps s x=.inl (s+1):=by unfold onF Let;dsimp only;rw [hx,decide_eq_true q];rfl
   rw [zeR e,hl,List.filter_cons_of_pos (by exact decide_eq_true q),List.length_cons]
   congr 1;omega
  ·have e:onF steps s x=.inl s:=by unfold onF Let;dsimp only;rw [hx,decide_eq_false q];rfl
   rw [zeR e,hl,List.filter_cons_of_neg (by simpa using q)]
theorem zfw {W:Nat} {f:List (List Int)×List (List Int)} {one two:List Int} {A B steps:List (List Int)} (h:Lat.Du W f) (h1:one.length=W) (h2:two.length=W) (p1:∀ b∈one,0≤b) (p2:∀ b∈two,0≤b) (hA:∀ u,Lat.SpL A u ↔ Lat.SpL (Lat.scl f.1 one) u) (hB:∀ u,Lat.SpL B u ↔ Lat.SpL (Lat.scl f.1 two) u) (E:Lat.Ech W 0 steps) (hs:∀ u,Lat.SpL steps u ↔ Lat.SpL A u∧Lat.SpL B u):m_law_one_frame f.1 one two steps=true:=by
 have hz:∀ (i:Nat) (p:Int×Int),(List.zip one two)[i]?=some p->0≤p.1∧0≤p.2:=λi p hp=>by
  obtain ⟨a,b⟩:=za6 hp
  exact ⟨p1 _ (List.mem_of_getElem? a),p2 _ (List.mem_of_getElem? b)⟩
 have lz:(List.zip one two).length=W:=by rw [List.length_zip];omega
 let ms:=List.map (λ(p:Int×Int)=>m_law_multiple p.1 p.2) (List.zip one two)
 have lm:ms.length=W:=by show (List.map _ _).length=W;rw [List.length_map,lz]
 have pm:∀ b∈ms,0≤b:=λb hb=>by
  obtain ⟨p,hp,rfl⟩:=List.mem_map.mp hb
  obtain ⟨i,hi⟩:=List.getElem?_of_mem hp
  rw [zcL (hz i p hi)];omega
 have gm:∀ (i:Nat) (b:Int),ms[i]?=some b->∃ a c,one[i]?=some a∧two[i]?=some c∧0≤a∧0≤c∧b=((Int.lcm a c:Nat):Int):=λi b hb=>by
  have hb:(List.map (λ(p:Int×Int)=>m_law_multiple p.1 p.2) (List.zip one two))[i]?=some b:=hb
  rw [List.getElem?_map] at hb
  cases q:(List.zip one two)[i]? with
  | none=>rw [q] at hb;cases hb
  | some p =>
   rw [q] at hb
   obtain ⟨a,c⟩:=za6 q
   refine ⟨p.1,p.2,a,c,(hz i p q).1,(hz i p q).2,?_⟩
   rw [← zcL (hz i p q)]
   exact (Option.some.inj hb).symm
 have van:∀ (bs:List Int) (u:Lat.Vc),Lat.SpL (Lat.scl f.1 bs) u->∀ j,W≤j->u j=0:=λbs u hu j hj=>Lat.Sp.at0 (λa ⟨s,hs,e⟩=>by
  rw [e]
  refine Lat.zcv ?_
  obtain ⟨p,hp,rfl⟩:=List.mem_map.mp hs
  rw [List.length_map,h.r _ (List.of_mem_zip (a:=p.1) (b:=p.2) (List.mem_filter.mp hp).1).1];exact hj) hu
 have key:∀ u,Lat.SpL steps u ↔ Lat.SpL (Lat.scl f.1 ms) u:=λu=>by
  rw [hs,hA,hB]
  constructor
  ·rintro ⟨ha,hb⟩
   refine Lat.scl_of h lm pm (van one u ha) λi t b ht hb'=>?_
   obtain ⟨a,c,g1,g2,g3,g4,rfl⟩:=gm i b hb'
   exact Int.ofNat_dvd_left.mpr (Nat.lcm_dvd (Int.natAbs_dvd_natAbs.mpr (Lat.scl_to h ha ht g1)) (Int.natAbs_dvd_natAbs.mpr (Lat.scl_to h hb ht g2)))
  ·intro hu
   refine ⟨Lat.scl_of h h1 p1 (van ms u hu) λi t b ht hb'=>?_,Lat.scl_of h h2 p2 (van ms u hu) λi t b ht hb'=>?_⟩
   ·have il:i<W:=by rw [← h1];exact (List.getElem?_eq_some_iff.mp hb').1
    have hm:ms[i]?=some (ms[i]'(by omega)):=List.getElem?_eq_getElem _
    obtain ⟨a,c,g1,g2,g3,g4,g5⟩:=gm i _ hm
    rw [hb'] at g1;cases g1
    exact Int.dvd_trans (by rw [g5];exact Int.dvd_lcm_left _ _) (Lat.scl_to h hu ht hm)
   ·have il:i<W:=by rw [← h2];exact (List.getElem?_eq_some_iff.mp hb').1
    have hm:ms[i]?=some (ms[i]'(by omega)):=List.getElem?_eq_getElem _
    obtain ⟨a,c,g1,g2,g3,g4,g5⟩:=gm i _ hm
    rw [hb'] at g2;cases g2
    exact Int.dvd_trans (by rw [g5];exact Int.dvd_lcm_right _ _) (Lat.scl_to h hu ht hm)
 show LetR (loopR (onF steps) (0:Int) (List.zip f.1 (List.zip one two))) (λ(r:Int)=>decide (r=((steps.length:Nat):Int))) (λb=>b)=true
 rw [zjt _ _ λx hx=>?_]
 ·show decide (_=_)=true
  rw [decide_eq_true_iff,Int.zero_add]
  congr 1
  have ec:((List.zip f.1 (List.zip one two)).filter λx=>decide (0<m_law_multiple x.2.1 x.2.2)).length=(Lat.scl f.1 ms).length:=by
   unfold Lat.scl
   rw [List.length_map]
   show _=((List.zip f.1 (List.map (λ(p:Int×Int)=>m_law_multiple p.1 p.2) (List.zip one two))).filter λp=>decide (0<p.2)).length
   rw [List.zip_map_right,List.filter_map,List.length_map]
   rfl
  rw [ec]
  have u:=Lat.zk6 (A:=steps.map Lat.vec) (ss:=Lat.scl f.1 ms) (λa ha=>by
   obtain ⟨t,ht,rfl⟩:=List.mem_map.mp ha
   exact (key _).mp (Lat.SpL.mem ht)) (Lat.zgl E)
  have v:=Lat.zk6 (A:=(Lat.scl f.1 ms).map Lat.vec) (ss:=steps) (λa ha=>by
   obtain ⟨t,ht,rfl⟩:=List.mem_map.mp ha
   exact (key _).mpr (Lat.SpL.mem ht)) (zlY h lm)
  rw [List.length_map] at u v
  omega
 ·obtain ⟨j,hj⟩:=List.getElem?_of_mem hx
  obtain ⟨j1,j2⟩:=za6 hj
  have xl:=h.r _ (List.mem_of_getElem? j1)
  refine znQ E (by rw [List.length_map,xl]) ((key _).mpr ?_)
  refine Lat.scl_of h lm pm (λk hk=>Lat.zcv (by rw [List.length_map,xl];exact hk)) λi t b ht hb=>?_
  rw [Lat.zex (v:=λi=>m_law_multiple x.2.1 x.2.2*Lat.vec x.1 i) λi=>zjw i,Lat.zjW,h.A i j t x.1 ht j1]
  by_cases q:i=j
  ·subst q
   have:b=m_law_multiple x.2.1 x.2.2:=by
    have hb:(List.map (λ(p:Int×Int)=>m_law_multiple p.1 p.2) (List.zip one two))[i]?=some b:=hb
    rw [List.getElem?_map,j2] at hb
    exact (Option.some.inj hb).symm
   rw [this,if_pos rfl,Int.mul_one];exact Int.dvd_refl _
  ·rw [if_neg q,Int.mul_zero];exact Int.dvd_zero _
theorem zgK {W:Nat} {f:List (List Int)×List (List Int)} {bs:List Int} {A B steps:List (List Int)} (h:Lat.Du W f) (hb:bs.length=W) (p:∀ b∈bs,0≤b) (hA:∀ r∈A,r.length=W) (hB:∀ u,Lat.SpL B u ↔ Lat.SpL (Lat.scl f.1 bs) u) (E:Lat.Ech W 0 steps) (hs:∀ u,Lat.SpL A u->Lat.SpL B u->Lat.SpL steps u):m_law_each_often A f.2 bs steps=true:=by
 show LetR (loopR _ () A) _ _=true
 rw [zep λx hx=>by
  have:(m_law_brought steps (List.map (λ(y:Int)=>(m_law_often f.2 bs x*y)) x)).any (· != 0)=false:=by
   refine znQ E (by rw [List.length_map,hA x hx]) (hs _ ?_ ((hB _).mpr ?_))
   ·exact ((Lat.SpL.mem hx).smul (m_law_often f.2 bs x)).conv λi=>(zjw i).symm
   ·exact (zkU h hb p (hA x hx)).conv λi=>(zjw i).symm
  show (bif (m_law_brought steps (List.map (λ(y:Int)=>(m_law_often f.2 bs x*y)) x)).any (· != 0) then _ else _)=_
  rw [this];rfl]
 rfl
theorem zll {W bt R:Nat} (hg:GG W bt R):∃ R2,Lat.Fit (W+W) bt R2∧R+R≤R2+2∧Lat.sB bt R2≤30000:=by
 rcases hg with ⟨hw,rfl,rfl⟩ | ⟨hw,rfl,rfl⟩
 ·refine ⟨12,?_,by decide,by decide⟩
  rcases (by omega:W=0∨W=1∨W=2∨W=3∨W=4) with rfl | rfl | rfl | rfl | rfl<;>exact ⟨by decide,by decide,by decide,by decide⟩
 ·refine ⟨18,?_,by decide,by decide⟩
  rcases (by omega:W=0∨W=1∨W=2∨W=3∨W=4∨W=5∨W=6∨W=7∨W=8) with rfl | rfl | rfl | rfl | rfl | rfl | rfl | rfl | rfl<;>exact ⟨by decide,by decide,by decide,by decide⟩
def L62 (y:T6 ((List (List Int))×(List (List Int))) ((List (List Int))×(List (List Int))) (List Int) (List Int) (List (List Int)) (List (List Int))) (w:Int):Prop:=∃ W bt R:Nat,w=(W:Int)∧1≤W∧GG W bt R∧Sd63 W bt R y.a y.c y.e∧Sd63 W bt R y.b y.d y.f
theorem zkL {W bt R:Nat} (hg:GG W bt R):W≤8∧bt≤100∧R≤10:=by rcases hg with ⟨a,b,c⟩ | ⟨a,b,c⟩<;>omega
theorem zo7 {W bt R:Nat} {f:List (List Int)×List (List Int)} {bs:List Int} {sw:List (List Int)} (S:Sd63 W bt R f bs sw) (h1:1≤W) (hg:GG W bt R):zbx (W:Int) (List.map (λ(x:List Int)=>x) sw):=by
 rw [zgd]
 have:=zkL hg
 have:=S.ln
 exact ⟨by omega,by omega,by omega,λs hs=>by rw [(S.sr s hs).1]⟩
theorem zpb {W bt R:Nat} {f g:List (List Int)×List (List Int)} {bs cs:List Int} {sa sb:List (List Int)} (A:Sd63 W bt R f bs sa) (B:Sd63 W bt R g cs sb) (hg:GG W bt R):MtP ⟨(W:Int),sa⟩ ⟨(W:Int),sb⟩:=by
 obtain ⟨R2,f1,f2,f3⟩:=zll hg
 have:=A.ln;have:=B.ln
 exact ⟨W,bt,R2,rfl,rfl,(zkL hg).1,f1,by show sa.length+sb.length≤R2;omega,A.sr,B.sr⟩
theorem zn9 {W bt R:Nat} {f g:List (List Int)×List (List Int)} {bs cs:List Int} {sa sb:List (List Int)} (A:Sd63 W bt R f bs sa) (B:Sd63 W bt R g cs sb) (hg:GG W bt R):StG W (m_met ⟨(W:Int),sa⟩ ⟨(W:Int),sb⟩).swaps:=by
 obtain ⟨R2,f1,f2,f3⟩:=zll hg
 have:=A.ln;have:=B.ln
 obtain ⟨k1,k2⟩:=znz (a:=⟨(W:Int),sa⟩) (b:=⟨(W:Int),sb⟩) (R:=R2) rfl rfl f1 (by show sa.length+sb.length≤R2;omega) A.sr B.sr
 exact ⟨(zkL hg).1,k1,_,f3,k2⟩
theorem zlU {w:Int} {bs:List BookD} {e f:List (List Int)} (hK:bs=[m_book_of w (List.map (λ(x:List Int)=>x) e)]):ixD (bs++[m_book_of w (List.map (λ(x:List Int)=>x) f)]) (0:Int)=⟨w,e⟩∧ixD (bs++[m_book_of w (List.map (λ(x:List Int)=>x) f)]) (1:Int)=⟨w,f⟩:=by
 rw [hK,zgd,zgd,zlu,zlu]
 exact ⟨zcj (n:=0) rfl,zcj (n:=1) rfl⟩
section
variable {y:T6 ((List (List Int))×(List (List Int))) ((List (List Int))×(List (List Int))) (List Int) (List Int) (List (List Int)) (List (List Int))} {w:Int} {bs:List BookD} {st:List (List Int)} {t:List Int} {fo:BookD}
theorem l62 (h:T63 y) (hw:w=((y.a.1.length:Nat):Int)):L62 y w:=by
 obtain ⟨W,bt,R,h1,hg,SA,SB⟩:=h
 exact ⟨W,bt,R,by rw [hw,SA.du.l1],h1,hg,SA,SB⟩
theorem zpD (h:L62 y w):y.e.length≤PySem.sizeLine:=by
 obtain ⟨W,bt,R,rfl,h1,hg,SA,SB⟩:=h
 exact zat (by have:=SA.ln;have:=zkL hg;omega)
theorem zps (h:L62 y w):y.f.length≤PySem.sizeLine:=by
 obtain ⟨W,bt,R,rfl,h1,hg,SA,SB⟩:=h
 exact zat (by have:=SB.ln;have:=zkL hg;omega)
theorem zoL (h:L62 y w):zbx w (List.map (λ(x:List Int)=>x) y.e):=by
 obtain ⟨W,bt,R,rfl,h1,hg,SA,SB⟩:=h
 exact zo7 SA h1 hg
theorem zoD (h:L62 y w):zbx w (List.map (λ(x:List Int)=>x) y.f):=by
 obtain ⟨W,bt,R,rfl,h1,hg,SA,SB⟩:=h
 exact zo7 SB h1 hg
theorem zon (h:L62 y w) (hK:bs=[m_book_of w (List.map (λ(x:List Int)=>x) y.e)]):MtP (ixD (bs++[m_book_of w (List.map (λ(x:List Int)=>x) y.f)]) (0:Int)) (ixD (bs++[m_book_of w (List.map (λ(x:List Int)=>x) y.f)]) (1:Int)):=by
 rw [(zlU hK).1,(zlU hK).2]
 obtain ⟨W,bt,R,rfl,h1,hg,SA,SB⟩:=h
 exact zpb SA SB hg
theorem zoT (h:L62 y w) (hK:bs=[m_book_of w (List.map (λ(x:List Int)=>x) y.e)]):MtP (ixD (bs++[m_book_of w (List.map (λ(x:List Int)=>x) y.f)]) (1:Int)) (ixD (bs++[m_book_of w (List.map (λ(x:List Int)=>x) y.f)]) (0:Int)):=by
 rw [(zlU hK).1,(zlU hK).2]
 obtain ⟨W,bt,R,rfl,h1,hg,SA,SB⟩:=h
 exact zpb SB SA hg
theorem zoE (hK:bs=[m_book_of w (List.map (λ(x:List Int)=>x) y.e)]) (hF:fo=m_met (ixD (bs++[m_book_of w (List.map (λ(x:List Int)=>x) y.f)]) (0:Int)) (ixD (bs++[m_book_of w (List.map (λ(x:List Int)=>x) y.f)]) (1:Int))) (hS:st=fo.swaps):st=(m_met ⟨w,y.e⟩ ⟨w,y.f⟩).swaps:=by
 rw [hS,hF,(zlU hK).1,(zlU hK).2]
theorem zfF {b:BookD} (hK:bs=[m_book_of w (List.map (λ(x:List Int)=>x) y.e)]):InB (bs++[b]).length (0:Int)∧InB (bs++[b]).length (1:Int):=by
 rw [hK];unfold InB;simp
theorem zok (hK:bs=[m_book_of w (List.map (λ(x:List Int)=>x) y.e)]):bs.length<PySem.sizeLine:=by rw [hK];exact Nat.lt_of_le_of_lt (show 1≤1 by decide) (by decide)
theorem znC (h:L62 y w) (hS:st=(m_met ⟨w,y.e⟩ ⟨w,y.f⟩).swaps):st.length≤1000∧(∀ s∈st,(s.length:Int)=w)∧w≤1000:=by
 obtain ⟨W,bt,R,rfl,h1,hg,SA,SB⟩:=h
 have G:=zn9 SA SB hg
 rw [← hS] at G
 obtain ⟨s,s1,s2⟩:=G.sd
 exact ⟨by have:=G.len;omega,λt ht=>by rw [(s2 t ht).len],by have:=G.w;omega⟩
theorem zkf {W bt R:Nat} {f:List (List Int)×List (List Int)} {b:List Int} {sw:List (List Int)} (S:Sd63 W bt R f b sw) (hg:GG W bt R) (ht:Lat.Bit 30000 t):ShP f.2 t:=⟨by rw [S.du.l2];have:=zkL hg;omega,S.db,ht⟩
theorem zm1 (h:L62 y w) (hS:st=(m_met ⟨w,y.e⟩ ⟨w,y.f⟩).swaps) (ht:t∈st):Lat.Bit 30000 t:=by
 obtain ⟨W,bt,R,rfl,h1,hg,SA,SB⟩:=h
 have G:=zn9 SA SB hg
 rw [← hS] at G
 obtain ⟨s,s1,s2⟩:=G.sd
 exact (s2 t ht).bit.mono s1
theorem zoK (h:L62 y w) (hS:st=(m_met ⟨w,y.e⟩ ⟨w,y.f⟩).swaps) (ht:t∈st):ShP y.a.2 t:=by
 have b:=zm1 h hS ht
 obtain ⟨W,bt,R,rfl,h1,hg,SA,SB⟩:=h
 exact zkf SA hg b
theorem zos (h:L62 y w) (hS:st=(m_met ⟨w,y.e⟩ ⟨w,y.f⟩).swaps) (ht:t∈st):ShP y.b.2 t:=by
 have b:=zm1 h hS ht
 obtain ⟨W,bt,R,rfl,h1,hg,SA,SB⟩:=h
 exact zkf SB hg b
theorem zoz (h:L62 y w) (hS:st=(m_met ⟨w,y.e⟩ ⟨w,y.f⟩).swaps):OnP y.a.1 y.c y.d st:=by
 obtain ⟨W,bt,R,rfl,h1,hg,SA,SB⟩:=h
 have G:=zn9 SA SB hg
 rw [← hS] at G
 exact ⟨W,G,λr hr=>⟨SA.du.r r hr,(SA.rb r hr).mono (zkL hg).2.1⟩,λb hb=>⟨SA.b0 b hb,SA.b1 b hb⟩,λb hb=>⟨SB.b0 b hb,SB.b1 b hb⟩⟩
theorem zm3 (h:L62 y w) (hS:st=(m_met ⟨w,y.e⟩ ⟨w,y.f⟩).swaps):EaP y.e y.b.2 y.d st:=by
 obtain ⟨W,bt,R,rfl,h1,hg,SA,SB⟩:=h
 have G:=zn9 SA SB hg
 rw [← hS] at G
 have:=zkL hg
 exact ⟨W,G,λx hx=>⟨(SA.sr x hx).1,((SA.sr x hx).2).mono (by omega),zkf SB hg (((SA.sr x hx).2).mono (by omega)),by rw [SB.bl];omega,λb hb=>⟨SB.b0 b hb,SB.b1 b hb⟩⟩⟩
theorem zm8 (h:L62 y w) (hS:st=(m_met ⟨w,y.e⟩ ⟨w,y.f⟩).swaps):EaP y.f y.a.2 y.c st:=by
 obtain ⟨W,bt,R,rfl,h1,hg,SA,SB⟩:=h
 have G:=zn9 SA SB hg
 rw [← hS] at G
 have:=zkL hg
 exact ⟨W,G,λx hx=>⟨(SB.sr x hx).1,((SB.sr x hx).2).mono (by omega),zkf SA hg (((SB.sr x hx).2).mono (by omega)),by rw [SA.bl];omega,λb hb=>⟨SA.b0 b hb,SA.b1 b hb⟩⟩⟩
end
def m_law (P0:(List Int)):Bool :=
 (Let (m_law_two P0) (λ(p320:(T6 ((List (List Int))×(List (List Int))) ((List (List Int))×(List (List Int))) (List Int) (List Int) (List (List Int)) (List (List Int)))) =>
 (Let ((p320.a.1.length:Nat):Int) (λ(v321:Int) =>
 (Let [(m_book_of v321 (List.map (λ(x322:(List Int))=>x322) p320.e))] (λ(v325:(List BookD)) =>
 (Let (m_met (ixD (v325++[(m_book_of v321 (List.map (λ(x326:(List Int))=>x326) p320.f))]) (0:Int)) (ixD (v325++[(m_book_of v321 (List.map (λ(x326:(List Int))=>x326) p320.f))]) (1:Int))) (λ(v329:BookD) =>
 (Let v329.swaps (λ(v330:(List (List Int))) =>
 (bif ((!decide (v329.many=v321))||(!(m_law_are_stairs v330 v321))) then false
 else (LetR (loopR (λ(s332:Unit) (x333:(List Int))=>(((bif (!(m_law_nothing p320.a.2 p320.c x333)) then (Sum.inr false)
 else (bif (!(m_law_nothing p320.b.2 p320.d x333)) then (Sum.inr false)
 else (Sum.inl ())))):(Unit) ⊕ Bool)) () v330) (λ(r339:Unit) =>
 (bif ((decide (p320.a=p320.b))&&(!(m_law_one_frame p320.a.1 p320.c p320.d v330))) then false
 else (bif (!(m_law_each_often p320.e p320.b.2 p320.d v330)) then false
 else (bif (!(m_law_each_often p320.f p320.a.2 p320.c v330)) then false
 else (bif (!decide ([(ixD (v325++[(m_book_of v321 (List.map (λ(x326:(List Int))=>x326) p320.f))]) (0:Int)).swaps,(ixD (v325++[(m_book_of v321 (List.map (λ(x326:(List Int))=>x326) p320.f))]) (1:Int)).swaps]=[p320.e,p320.f])) then false
 else (decide ((m_met (ixD (v325++[(m_book_of v321 (List.map (λ(x326:(List Int))=>x326) p320.f))]) (1:Int)) (ixD (v325++[(m_book_of v321 (List.map (λ(x326:(List Int))=>x326) p320.f))]) (0:Int))).swaps=v330))))))) (λb=>b)))))))))))))
def zhl (P0:(List Int)):Prop:=P0.length≤63
def zlj (K:W.Frag) (A:Adr):Sp:=Spv (ι:=(List Int)) (λx=>[dQ K (List.map dI x)]) (λx=>zhl x) (λx=>.va true (dB (m_law x)))
theorem zdn:FnScope ["_law_script","_law_first","_law_second","_law_one","_law_two_here","_law_left","_law_right","_law_wide","_law_books","_law_found","_law_steps","_law_step"] ["_law_script"] (zae zfi):=⟨rfl,rfl,rfl,by decide +kernel,rfl,by decide +kernel,by decide +kernel⟩
theorem zmO (F:Fun K "law" "law" zfi f fd) (T:Txt K mg A) (G_law_are_stairs:Callee P w K mg base (CXE P w) 2 "_law_are_stairs" ["_law_steps","_law_wide"] (zcd K A)) (G_law_each_often:Callee P w K mg base (CXE P w) 4 "_law_each_often" ["_law_swaps","_law_duals","_law_bottoms_here","_law_steps"] (zcl K A)) (G_law_nothing:Callee P w K mg base (CXE P w) 2 "_law_nothing" ["_law_duals","_law_bottoms_here","_law_basket"] (zcZ K A)) (G_law_one_frame:Callee P w K mg base (CXE P w) 3 "_law_one_frame" ["_law_rows","_law_one","_law_two_here","_law_steps"] (zcy K A)) (G_law_two:Callee P w K mg base (CXE P w) 3 "_law_two" ["_law_script"] (zet K A)) (G_book_of:Callee P w K mg base (CXE P w) 3 "book_of" ["many","swaps"] (zev K A)) (G_met:Callee P w K mg base (CXE P w) 6 "met" ["one","other"] (zjO K A)):FnOk P w K mg base (CXE P w) 7 f fd ["_law_script"] (zlj K A):=by
 refine F.okV zdn (λ_=>rfl) (λcdv Ar outer s H E P0 hr hp=>?_)
 have hu:=hr.units
 replace hp:zhl P0:=hp
 unfold zhl at hp
 refine ⟨_,(zab (zgp (zaC G_law_two (hr.mono (by decide)) rfl zaA (pa_cons (pv 0) pa_nil)) (zbg (K:=K) (n:=6) rfl rfl (zav (pg_name (i:=1) zdn.nd rfl (Or.inl rfl) (Or.inl rfl)) (zav (pg_name (i:=2) zdn.nd rfl (Or.inl rfl) (Or.inl rfl)) (zav (pg_name (i:=3) zdn.nd rfl (Or.inl rfl) (Or.inl rfl)) (zav (pg_name (i:=4) zdn.nd rfl (Or.inl rfl) (Or.inl rfl)) (zav (pg_name (i:=5) zdn.nd rfl (Or.inl rfl) (Or.inl rfl)) (zav (pg_name (i:=6) zdn.nd rfl (Or.inl rfl) (Or.inl rfl)) zb1))))))))
 (zab (zam (i:=7) zdn.nd rfl (Or.inl rfl) (pe_callB (call_len_K (K:=K) rfl) rfl T.len PySem.boot_len (pa_cons (zaR (za8 (K:=K) rfl) (pv 1) zag (λ_ _=>rfl)) pa_nil)))
 (zab (zam (i:=8) zdn.nd rfl (Or.inl rfl) (zcP (pa_cons (zaC G_book_of (hr.mono (by decide)) rfl zaA (pa_cons (pv 7) (pa_cons (zbC rfl (.of (osc:=(zae zfi)) (N:=["_law_script","_law_first","_law_second","_law_one","_law_two_here","_law_left","_law_right","_law_wide","_law_books","_law_found","_law_steps","_law_step"]) (own:=["_law_swap"]) (fvn:=[]) (fv:=[]) rfl rfl (by decide +kernel)) (zaB (K:=K) rfl (pv 5)) (λ_ _ _ _ _=>⟨(pg_name (i:=0) (show (["_law_swap"]:List Str).Nodup by decide +kernel) rfl (Or.inl rfl) (Or.inr rfl)),zaZ,(zcu (zck (K:=K) rfl) rfl T.list PyProof.Rows.boot_list (pa_cons (pv 0) pa_nil))⟩)) pa_nil))) pa_nil)))
 (zab (zcT (zbY (K:=K) rfl (pv 8) (pa_cons (zaC G_book_of (hr.mono (by decide)) rfl zaA (pa_cons (pv 7) (pa_cons (zbC rfl (.of (osc:=(zae zfi)) (N:=["_law_script","_law_first","_law_second","_law_one","_law_two_here","_law_left","_law_right","_law_wide","_law_books","_law_found","_law_steps","_law_step"]) (own:=["_law_swap"]) (fvn:=[]) (fv:=[]) rfl rfl (by decide +kernel)) (zaB (K:=K) rfl (pv 6)) (λ_ _ _ _ _=>⟨(pg_name (i:=0) (show (["_law_swap"]:List Str).Nodup by decide +kernel) rfl (Or.inl rfl) (Or.inr rfl)),zaZ,(zcu (zck (K:=K) rfl) rfl T.list PyProof.Rows.boot_list (pa_cons (pv 0) pa_nil))⟩)) pa_nil))) pa_nil)))
 (zab (zam (i:=9) zdn.nd rfl (Or.inl rfl) (zaC G_met (hr.mono (by decide)) rfl zaA (pa_cons (zaR (zao (K:=K) rfl) (pv 8) zag (λ_ _=>rfl)) (pa_cons (zaR (zao (K:=K) rfl) (pv 8) zag (λ_ _=>rfl)) pa_nil))))
 (zab (zam (i:=10) zdn.nd rfl (Or.inl rfl) (zbU (K:=K) rfl (pv 9) rfl))
 (zab (zbd (PW.pt (zf6 (pt_cmpR op_ne (zbU (K:=K) rfl (pv 9) rfl) (pv 7) (nomark _)) (pw_or1 (zdH (pt_val (zaC G_law_are_stairs (hr.mono (by decide)) rfl zaA (pa_cons (pv 10) (pa_cons (pv 7) pa_nil))))))))
 (zab (zaw zc8)
 zad)
 zad)
 (zab (zbo PassesOwn.never rfl (zaB (K:=K) rfl (pv 10)) (pg_name (i:=11) zdn.nd rfl (Or.inl rfl) (Or.inl rfl))
 (zab (zbd (zdH (pt_val (zaC G_law_nothing (hr.mono (by decide)) rfl zaA (pa_cons (zaR (za8 (K:=K) rfl) (pv 1) zag (λ_ _=>rfl)) (pa_cons (pv 3) (pa_cons (pv 11) pa_nil))))))
 (zab (zaw zc8)
 zad)
 zad)
 (zab (zbd (zdH (pt_val (zaC G_law_nothing (hr.mono (by decide)) rfl zaA (pa_cons (zaR (za8 (K:=K) rfl) (pv 2) zag (λ_ _=>rfl)) (pa_cons (pv 4) (pa_cons (pv 11) pa_nil))))))
 (zab (zaw zc8)
 zad)
 zad)
 zad)))
 (zab (zbd (PW.pt (zgJ (pt_cmpR (zmR (K:=K) rfl hu) (pv 1) (pv 2) (nomark _)) (zeN (zdH (pt_val (zaC G_law_one_frame (hr.mono (by decide)) rfl zaA (pa_cons (zaR (za8 (K:=K) rfl) (pv 1) zag (λ_ _=>rfl)) (pa_cons (pv 3) (pa_cons (pv 4) (pa_cons (pv 10) pa_nil))))))))))
 (zab (zaw zc8)
 zad)
 zad)
 (zab (zbd (zdH (pt_val (zaC G_law_each_often (hr.mono (by decide)) rfl zaA (pa_cons (pv 5) (pa_cons (zaR (za8 (K:=K) rfl) (pv 2) zag (λ_ _=>rfl)) (pa_cons (pv 4) (pa_cons (pv 10) pa_nil)))))))
 (zab (zaw zc8)
 zad)
 zad)
 (zab (zbd (zdH (pt_val (zaC G_law_each_often (hr.mono (by decide)) rfl zaA (pa_cons (pv 6) (pa_cons (zaR (za8 (K:=K) rfl) (pv 1) zag (λ_ _=>rfl)) (pa_cons (pv 3) (pa_cons (pv 10) pa_nil)))))))
 (zab (zaw zc8)
 zad)
 zad)
 (zab (zbd (pt_cmpR (zlE (K:=K) rfl hu) (zcP (pa_cons (zbU (K:=K) rfl (zaR (zao (K:=K) rfl) (pv 8) zag (λ_ _=>rfl)) rfl) (pa_cons (zbU (K:=K) rfl (zaR (zao (K:=K) rfl) (pv 8) zag (λ_ _=>rfl)) rfl) pa_nil))) (zcP (pa_cons (pv 5) (pa_cons (pv 6) pa_nil))) (nomark _))
 (zab (zaw zc8)
 zad)
 zad)
 (zab (zaw (zfZ (zmr (K:=K) rfl hu) (zbU (K:=K) rfl (zaC G_met (hr.mono (by decide)) rfl zaA (pa_cons (zaR (zao (K:=K) rfl) (pv 8) zag (λ_ _=>rfl)) (pa_cons (zaR (zao (K:=K) rfl) (pv 8) zag (λ_ _=>rfl)) pa_nil))) rfl) (pv 10) (nomark _)))
 zad))))))))))))),.inl ?_⟩
 show L2.Run _ ([.va false (dQ K (List.map dI P0)),.no,.no,.no,.no,.no,.no,.no,.no,.no,.no,.no]:L2.Ctx) _ ((λ(r:Bool)=>Oc.rt true (dB r)) (m_law P0))
 unfold m_law
 exact (zgI (m:=true) (x:=(m_law_two P0)) (λ(p320:(T6 ((List (List Int))×(List (List Int))) ((List (List Int))×(List (List Int))) (List Int) (List Int) (List (List Int)) (List (List Int))))=>dT [dL (List.map lI p320.a.1),dL (List.map lI p320.a.2)]) (λ(p320:(T6 ((List (List Int))×(List (List Int))) ((List (List Int))×(List (List Int))) (List Int) (List Int) (List (List Int)) (List (List Int))))=>dT [dL (List.map lI p320.b.1),dL (List.map lI p320.b.2)]) (λ(p320:(T6 ((List (List Int))×(List (List Int))) ((List (List Int))×(List (List Int))) (List Int) (List Int) (List (List Int)) (List (List Int))))=>dL (List.map dI p320.c)) (λ(p320:(T6 ((List (List Int))×(List (List Int))) ((List (List Int))×(List (List Int))) (List Int) (List Int) (List (List Int)) (List (List Int))))=>dL (List.map dI p320.d)) (λ(p320:(T6 ((List (List Int))×(List (List Int))) ((List (List Int))×(List (List Int))) (List Int) (List Int) (List (List Int)) (List (List Int))))=>dL (List.map lI p320.e)) (λ(p320:(T6 ((List (List Int))×(List (List Int))) ((List (List Int))×(List (List Int))) (List Int) (List Int) (List (List Int)) (List (List Int))))=>dL (List.map lI p320.f)) (λ(r:Bool)=>Oc.rt true (dB r)) (zal (x:=P0) (zac (zaa (i:=0) rfl) zaf) rfl (by show zdk P0;exact hp) rfl) (λp320 hp320 =>
 have hT:=zlb hp hp320;(zaq (m:=true) (x:=((p320.a.1.length:Nat):Int)) dI (λ(r:Bool)=>Oc.rt true (dB r)) (zbK (f:=lI) (xs:=p320.a.1) (Ev.old (Ev.weak (K:=K) (zcz (zaa (i:=1) rfl) zaz rfl)))) (λv321 hv321 =>
 have hL:=l62 hT hv321;(run_letO (m:=true) (x:=[(m_book_of v321 (List.map (λ(x322:(List Int))=>x322) p320.e))]) (λz=>List.map (zbQ A.Book) z) (λ(r:Bool)=>Oc.rt true (dB r)) (zdX (zac (zal (x:=(v321,(List.map (λ(x322:(List Int))=>x322) p320.e))) (zac (Ev.any (m:=true) (zaa (i:=7) rfl)) (zac (Ev.weak (K:=K) (EvO.ev (EvO.conv (zbJ (g:=(λ(x322:(List Int))=>dL (List.map dI x322))) (zaX (m:=true) lI (xs:=p320.e) (Ev.weak (K:=K) (zaa (i:=5) rfl))) (by exact zpD hL) ⟨by decide,by decide⟩ (λi323 x322 hx324=>have v324:=List.mem_of_getElem? hx324;(EvO.ev (EvO.anyI (m:=true) (zer (Ev.weak (K:=K) (zaa (i:=0) rfl))))))) (by first | (rw [List.map_map];rfl) | (simp only [cond_true,cond_false];rw [List.map_map];rfl))))) zaf)) rfl (by show zbx v321 (List.map (λ(x322:(List Int))=>x322) p320.e);exact zoL hL) rfl) zaf) (by show 1≤sizeLine;decide)) (λv325 hv325 =>
 have hK:=hv325;(zb0 (f:=(zbQ A.Book)) (xs:=v325) (x:=(m_book_of v321 (List.map (λ(x326:(List Int))=>x326) p320.f))) rfl (zal (x:=(v321,(List.map (λ(x326:(List Int))=>x326) p320.f))) (zac (Ev.any (m:=true) (zaa (i:=7) rfl)) (zac (Ev.weak (K:=K) (EvO.ev (EvO.conv (zbJ (g:=(λ(x326:(List Int))=>dL (List.map dI x326))) (zaX (m:=true) lI (xs:=p320.f) (Ev.weak (K:=K) (zaa (i:=6) rfl))) (by exact zps hL) ⟨by decide,by decide⟩ (λi327 x326 hx328=>have v328:=List.mem_of_getElem? hx328;(EvO.ev (EvO.anyI (m:=true) (zer (Ev.weak (K:=K) (zaa (i:=0) rfl))))))) (by first | (rw [List.map_map];rfl) | (simp only [cond_true,cond_false];rw [List.map_map];rfl))))) zaf)) rfl (by show zbx v321 (List.map (λ(x326:(List Int))=>x326) p320.f);exact zoD hL) rfl) (by exact zok hK)
 (zaq (m:=true) (x:=(m_met (ixD (v325++[(m_book_of v321 (List.map (λ(x326:(List Int))=>x326) p320.f))]) (0:Int)) (ixD (v325++[(m_book_of v321 (List.map (λ(x326:(List Int))=>x326) p320.f))]) (1:Int)))) (zbQ A.Book) (λ(r:Bool)=>Oc.rt true (dB r)) (zal (x:=((ixD (v325++[(m_book_of v321 (List.map (λ(x326:(List Int))=>x326) p320.f))]) (0:Int)),(ixD (v325++[(m_book_of v321 (List.map (λ(x326:(List Int))=>x326) p320.f))]) (1:Int)))) (zac (Ev.old (zbi (f:=(zbQ A.Book)) (xs:=(v325++[(m_book_of v321 (List.map (λ(x326:(List Int))=>x326) p320.f))])) rfl zaz (by exact (zfF hK).1))) (zac (Ev.old (zbi (f:=(zbQ A.Book)) (xs:=(v325++[(m_book_of v321 (List.map (λ(x326:(List Int))=>x326) p320.f))])) rfl zaz (by exact (zfF hK).2))) zaf)) rfl (by show zeT (ixD (v325++[(m_book_of v321 (List.map (λ(x326:(List Int))=>x326) p320.f))]) (0:Int)) (ixD (v325++[(m_book_of v321 (List.map (λ(x326:(List Int))=>x326) p320.f))]) (1:Int));exact zon hL hK) rfl) (λv329 hv329 =>
 have hF:=hv329;(zaq (m:=true) (x:=v329.swaps) (λ(xs:(List (List Int)))=>dL (List.map lI xs)) (λ(r:Bool)=>Oc.rt true (dB r)) (zdo (zaa (i:=9) rfl) T.Book_cl T.Book_swaps rfl) (λv330 hv330 =>
 have hS:=zoE hK hF hv330;(zax (b:=((!decide (v329.many=v321))||(!(m_law_are_stairs v330 v321)))) (λ(r:Bool)=>Oc.rt true (dB r)) (zd1 (b:=(!decide (v329.many=v321))) (zan (zcO (x:=v329.many) (y:=v321) (Ev.any (m:=true) (zdo (zaa (i:=9) rfl) T.Book_cl T.Book_many rfl)) (Ev.any (m:=true) (zaa (i:=7) rfl)))) (λhb=>(zcV (zci (Ev.any (m:=true) (zal (x:=(v330,v321)) (zac (Ev.old (zaa (i:=10) rfl)) (zac (Ev.any (m:=true) (zaa (i:=7) rfl)) zaf)) rfl (by show zbp v330 v321;exact znC hL hS) rfl)))))) (λh331=>(zai (zah (zap zaz)))) (λh331 =>
 (zaj (zb7 (s0:=()) (λ(s332:Unit)=>([.va false (dQ K (List.map dI P0)),.va true (dT [dL (List.map lI p320.a.1),dL (List.map lI p320.a.2)]),.va true (dT [dL (List.map lI p320.b.1),dL (List.map lI p320.b.2)]),.va true (dL (List.map dI p320.c)),.va true (dL (List.map dI p320.d)),.va true (dL (List.map lI p320.e)),.va true (dL (List.map lI p320.f)),.va true (dI v321),.ow true (List.map (zbQ A.Book) (v325++[(m_book_of v321 (List.map (λ(x326:(List Int))=>x326) p320.f))])),.va true (zbQ A.Book v329),.va true (dL (List.map lI v330)),.no]:L2.Ctx)) (λ(r:Bool)=>Oc.rt true (dB r)) (λb=>b) (λ(s332:Unit) (x333:(List Int))=>(((bif (!(m_law_nothing p320.a.2 p320.c x333)) then (Sum.inr false)
 else (bif (!(m_law_nothing p320.b.2 p320.d x333)) then (Sum.inr false)
 else (Sum.inl ())))):(Unit) ⊕ Bool)) (λ_ _=>True) (λb=>.inl ⟨_,_,rfl⟩) (zaX (m:=true) lI (xs:=v330) (Ev.weak (K:=K) (zaa (i:=10) rfl))) (.eq (.eq (.eq (.eq (.eq (.eq (.eq (.eq (.eq (.eq (.eq (.eq .nil)))))))))))) trivial (λi334 x333 s332 hx335 hI336=>have v335:=List.mem_of_getElem? hx335;⟨(λ_ _=>trivial),
 (zax (b:=(!(m_law_nothing p320.a.2 p320.c x333))) (zcw (λ(s332:Unit)=>([.va false (dQ K (List.map dI P0)),.va true (dT [dL (List.map lI p320.a.1),dL (List.map lI p320.a.2)]),.va true (dT [dL (List.map lI p320.b.1),dL (List.map lI p320.b.2)]),.va true (dL (List.map dI p320.c)),.va true (dL (List.map dI p320.d)),.va true (dL (List.map lI p320.e)),.va true (dL (List.map lI p320.f)),.va true (dI v321),.ow true (List.map (zbQ A.Book) (v325++[(m_book_of v321 (List.map (λ(x326:(List Int))=>x326) p320.f))])),.va true (zbQ A.Book v329),.va true (dL (List.map lI v330)),.no]:L2.Ctx)) (λ(r:Bool)=>Oc.rt true (dB r))) (zcV (zci (Ev.any (m:=true) (zal (x:=(p320.a.2,p320.c,x333)) (zac (Ev.old (Ev.weak (K:=K) (zcz (zaa (i:=1) rfl) zaz rfl))) (zac (Ev.old (Ev.weak (K:=K) (zaa (i:=3) rfl))) (zac (Ev.old (Ev.weak (K:=K) (zaa (i:=11) rfl))) zaf))) rfl (by show zbt p320.a.2 p320.c x333;exact zoK hL hS (by assumption)) rfl)))) (λh337=>(zai (zah (zap zaz)))) (λh337 =>
 (zaj (zax (b:=(!(m_law_nothing p320.b.2 p320.d x333))) (zcw (λ(s332:Unit)=>([.va false (dQ K (List.map dI P0)),.va true (dT [dL (List.map lI p320.a.1),dL (List.map lI p320.a.2)]),.va true (dT [dL (List.map lI p320.b.1),dL (List.map lI p320.b.2)]),.va true (dL (List.map dI p320.c)),.va true (dL (List.map dI p320.d)),.va true (dL (List.map lI p320.e)),.va true (dL (List.map lI p320.f)),.va true (dI v321),.ow true (List.map (zbQ A.Book) (v325++[(m_book_of v321 (List.map (λ(x326:(List Int))=>x326) p320.f))])),.va true (zbQ A.Book v329),.va true (dL (List.map lI v330)),.no]:L2.Ctx)) (λ(r:Bool)=>Oc.rt true (dB r))) (zcV (zci (Ev.any (m:=true) (zal (x:=(p320.b.2,p320.d,x333)) (zac (Ev.old (Ev.weak (K:=K) (zcz (zaa (i:=2) rfl) zaz rfl))) (zac (Ev.old (Ev.weak (K:=K) (zaa (i:=4) rfl))) (zac (Ev.old (Ev.weak (K:=K) (zaa (i:=11) rfl))) zaf))) rfl (by show zbt p320.b.2 p320.d x333;exact zos hL hS (by assumption)) rfl)))) (λh338=>(zai (zah (zap zaz)))) (λh338 =>
 (zaj (zak (.eq (.eq (.eq (.eq (.eq (.eq (.eq (.eq (.eq (.eq (.eq (.no .nil)))))))))))))))))))⟩) (λr339 hr339 hI =>
 (zax (b:=((decide (p320.a=p320.b))&&(!(m_law_one_frame p320.a.1 p320.c p320.d v330)))) (λ(r:Bool)=>Oc.rt true (dB r)) (zfd (b:=(decide (p320.a=p320.b))) (zan (znx (n:=2) (x:=p320.a) (y:=p320.b) (EqD.list (EqD.list EqD.int)) (EqD.list (EqD.list EqD.int)) (Ev.old (zaa (i:=1) rfl)) (Ev.old (zaa (i:=2) rfl)))) (λhb=>(zcV (zci (Ev.any (m:=true) (zal (x:=(p320.a.1,p320.c,p320.d,v330)) (zac (Ev.old (Ev.weak (K:=K) (zcz (zaa (i:=1) rfl) zaz rfl))) (zac (Ev.old (Ev.weak (K:=K) (zaa (i:=3) rfl))) (zac (Ev.old (Ev.weak (K:=K) (zaa (i:=4) rfl))) (zac (Ev.old (Ev.weak (K:=K) (zaa (i:=10) rfl))) zaf)))) rfl (by show zbG p320.a.1 p320.c p320.d v330;exact zoz hL hS) rfl)))))) (λh340=>(zai (zah (zap zaz)))) (λh340 =>
 (zaj (zax (b:=(!(m_law_each_often p320.e p320.b.2 p320.d v330))) (λ(r:Bool)=>Oc.rt true (dB r)) (zcV (zci (Ev.any (m:=true) (zal (x:=(p320.e,p320.b.2,p320.d,v330)) (zac (Ev.old (Ev.weak (K:=K) (zaa (i:=5) rfl))) (zac (Ev.old (Ev.weak (K:=K) (zcz (zaa (i:=2) rfl) zaz rfl))) (zac (Ev.old (Ev.weak (K:=K) (zaa (i:=4) rfl))) (zac (Ev.old (Ev.weak (K:=K) (zaa (i:=10) rfl))) zaf)))) rfl (by show za4 p320.e p320.b.2 p320.d v330;exact zm3 hL hS) rfl)))) (λh341=>(zai (zah (zap zaz)))) (λh341 =>
 (zaj (zax (b:=(!(m_law_each_often p320.f p320.a.2 p320.c v330))) (λ(r:Bool)=>Oc.rt true (dB r)) (zcV (zci (Ev.any (m:=true) (zal (x:=(p320.f,p320.a.2,p320.c,v330)) (zac (Ev.old (Ev.weak (K:=K) (zaa (i:=6) rfl))) (zac (Ev.old (Ev.weak (K:=K) (zcz (zaa (i:=1) rfl) zaz rfl))) (zac (Ev.old (Ev.weak (K:=K) (zaa (i:=3) rfl))) (zac (Ev.old (Ev.weak (K:=K) (zaa (i:=10) rfl))) zaf)))) rfl (by show za4 p320.f p320.a.2 p320.c v330;exact zm8 hL hS) rfl)))) (λh342=>(zai (zah (zap zaz)))) (λh342 =>
 (zaj (zax (b:=(!decide ([(ixD (v325++[(m_book_of v321 (List.map (λ(x326:(List Int))=>x326) p320.f))]) (0:Int)).swaps,(ixD (v325++[(m_book_of v321 (List.map (λ(x326:(List Int))=>x326) p320.f))]) (1:Int)).swaps]=[p320.e,p320.f]))) (λ(r:Bool)=>Oc.rt true (dB r)) (zan (zlq (n:=2) (neg:=true) (xs:=[(ixD (v325++[(m_book_of v321 (List.map (λ(x326:(List Int))=>x326) p320.f))]) (0:Int)).swaps,(ixD (v325++[(m_book_of v321 (List.map (λ(x326:(List Int))=>x326) p320.f))]) (1:Int)).swaps]) (ys:=[p320.e,p320.f]) (EqD.list (EqD.list EqD.int)) (Ev.old (Ev.weak (K:=K) (EvO.ev (zdX (zac (zdo (zbi (f:=(zbQ A.Book)) (xs:=(v325++[(m_book_of v321 (List.map (λ(x326:(List Int))=>x326) p320.f))])) rfl zaz (by exact (zfF hK).1)) T.Book_cl T.Book_swaps rfl) (zac (zdo (zbi (f:=(zbQ A.Book)) (xs:=(v325++[(m_book_of v321 (List.map (λ(x326:(List Int))=>x326) p320.f))])) rfl zaz (by exact (zfF hK).2)) T.Book_cl T.Book_swaps rfl) zaf)) (by show 2≤sizeLine;decide))))) (Ev.old (Ev.weak (K:=K) (EvO.ev (zdX (zac (zaa (i:=5) rfl) (zac (zaa (i:=6) rfl) zaf)) (by show 2≤sizeLine;decide))))))) (λh343=>(zai (zah (zap zaz)))) (λh343 =>
 (zaj (zah (zap (zlq (n:=1) (neg:=false) (xs:=(m_met (ixD (v325++[(m_book_of v321 (List.map (λ(x326:(List Int))=>x326) p320.f))]) (1:Int)) (ixD (v325++[(m_book_of v321 (List.map (λ(x326:(List Int))=>x326) p320.f))]) (0:Int))).swaps) (ys:=v330) (EqD.list EqD.int) (Ev.old (Ev.weak (K:=K) (zdo (zal (x:=((ixD (v325++[(m_book_of v321 (List.map (λ(x326:(List Int))=>x326) p320.f))]) (1:Int)),(ixD (v325++[(m_book_of v321 (List.map (λ(x326:(List Int))=>x326) p320.f))]) (0:Int)))) (zac (Ev.old (zbi (f:=(zbQ A.Book)) (xs:=(v325++[(m_book_of v321 (List.map (λ(x326:(List Int))=>x326) p320.f))])) rfl zaz (by exact (zfF hK).2))) (zac (Ev.old (zbi (f:=(zbQ A.Book)) (xs:=(v325++[(m_book_of v321 (List.map (λ(x326:(List Int))=>x326) p320.f))])) rfl zaz (by exact (zfF hK).1))) zaf)) rfl (by show zeT (ixD (v325++[(m_book_of v321 (List.map (λ(x326:(List Int))=>x326) p320.f))]) (1:Int)) (ixD (v325++[(m_book_of v321 (List.map (λ(x326:(List Int))=>x326) p320.f))]) (0:Int));exact zoT hL hK) rfl) T.Book_cl T.Book_swaps rfl))) (Ev.old (Ev.weak (K:=K) (zaa (i:=10) rfl))))))))))))))))))))))))))))))))))
theorem zkr (xs:List Int) (hp:xs.length≤63):m_law xs=true:=by
 unfold m_law
 rw [zgQ,zgQ]
 have hL:=l62 (zlb hp rfl) rfl
 generalize m_law_two xs=y at *
 generalize ((y.a.1.length:Nat):Int)=w at *
 rw [zgQ]
 have hx:=zlU (w:=w) (e:=y.e) (f:=y.f) rfl
 rw [hx.1,hx.2,zgQ,zgQ]
 obtain ⟨W,bt,R,rfl,h1,hg,SA,SB⟩:=hL
 have la:∀ r∈y.e,r.length=W:=λr hr=>(SA.sr r hr).1
 have lb:∀ r∈y.f,r.length=W:=λr hr=>(SB.sr r hr).1
 obtain ⟨E,Rd,S⟩:=zlw (a:=⟨(W:Int),y.e⟩) (b:=⟨(W:Int),y.f⟩) rfl rfl la lb
 obtain ⟨E',Rd',S'⟩:=zlw (a:=⟨(W:Int),y.f⟩) (b:=⟨(W:Int),y.e⟩) rfl rfl lb la
 have hm:(m_met ⟨(W:Int),y.e⟩ ⟨(W:Int),y.f⟩).many=(W:Int):=by rw [zjq (W:=W) rfl rfl]
 have same:(m_met ⟨(W:Int),y.f⟩ ⟨(W:Int),y.e⟩).swaps=(m_met ⟨(W:Int),y.e⟩ ⟨(W:Int),y.f⟩).swaps:=Lat.Stairs.one (n:=W) (rows:=(m_met ⟨(W:Int),y.f⟩ ⟨(W:Int),y.e⟩).swaps) (rows':=(m_met ⟨(W:Int),y.e⟩ ⟨(W:Int),y.f⟩).swaps) ⟨E',Rd',λt ht=>Lat.SpL.mem ht,λt ht=>Lat.SpL.mem ht⟩ ⟨E,Rd,λt ht=>Lat.SpL.mem ht,λt ht=>Lat.SpL.mem ht⟩ (λr hr=>(S _).mpr ((S' _).mp (Lat.SpL.mem hr)).symm) (λr hr=>(S' _).mpr ((S _).mp (Lat.SpL.mem hr)).symm)
 rw [hm,zg4 E Rd,same]
 generalize (m_met ⟨(W:Int),y.e⟩ ⟨(W:Int),y.f⟩).swaps=st at *
 rw [decide_eq_true (rfl:(W:Int)=(W:Int)),show ((!true)||(!true))=false from rfl,cond_false]
 rw [zep λt ht=>by
  have tl:=(E.mem t ht).1
  have sp:=(S _).mp (Lat.SpL.mem ht)
  rw [(zli SA.du SA.bl SA.b0 tl).mpr ((SA.sp _).mp sp.1),(zli SB.du SB.bl SB.b0 tl).mpr ((SB.sp _).mp sp.2)];rfl]
 show (bif _ then _ else _)=true
 rw [zgK SB.du SB.bl SB.b0 la SB.sp E (λu a b=>(S u).mpr ⟨a,b⟩),zgK SA.du SA.bl SA.b0 lb SA.sp E (λu a b=>(S u).mpr ⟨b,a⟩)]
 have oo:((decide (y.a=y.b))&&(!(m_law_one_frame y.a.1 y.c y.d st)))=false:=by
  by_cases q:y.a=y.b
  ·rw [zfw SA.du SA.bl SB.bl SA.b0 SB.b0 SA.sp (by rw [q];exact SB.sp) E S];simp
  ·rw [decide_eq_false q];rfl
 rw [oo]
 simp
def zky (K:W.Frag):Sp:=λvs H Q _=>∃ (a:Addr) (ns:List Int),vs=[.ref a]∧SqL K H a (ns.map V.int)∧ns.length≤63∧∀ H',Q (.bl true) H'
theorem zmI {K:W.Frag} {A:Adr} {vs:List V} {H:Hp} {Q:VK} {E:XK} (h:zky K vs H Q E):zlj K A vs H Q E:=by
 obtain ⟨a,ns,rfl,hS,hl,q⟩:=h
 refine ⟨ns,H,Same.refl _,.cons ⟨a,_,rfl,hS,?_⟩ .nil,hl,λv F' H' _ hv=>?_⟩
 ·clear hS hl
  induction ns with
  | nil=>exact .nil
  | cons n ns ih=>exact .cons rfl ih
 ·have hv:v=.bl (m_law ns):=hv
  rw [hv,zkr ns hl]
  exact q _
theorem all_mk {l:W.OpenLaw} {w:World} {K:W.Frag} {h:Heap} {mg:Str->Option Value} {fa f0 f1 f2 f3 f4 f5 f6 f7 f8 f9 f10 f11 f12 f13 f14 f15 f16 f17 f18 f19 f20 f21 f22 f23 f24 f25 f26 f27 f28 f29 f30 f31 f32 f33 f34 f35 f36 C_Book :Addr} (X:K.In h) (G:h.Ns mainGlobals mg) (hfa:mg "law"=some (.ref fa))
  {od0 an0 od1 an1 od2 an2 od3 an3 od4 an4 od5 an5 od6 an6 od7 an7 od8 an8 od9 an9 od10 an10 od11 an11 od12 an12 od13 an13 od14 an14 od15 an15 od16 an16 od17 an17 od18 an18 od19 an19 od20 an20 od21 an21 od22 an22 od23 an23 od24 an24 od25 an25 od26 an26 od27 an27 od28 an28 od29 an29 od30 an30 od31 an31 od32 an32 od33 an33 od34 an34 od35 an35 od36 an36:Option Addr} {sl0 sl1 sl2 sl3 sl4 sl5 sl6 sl7 sl8 sl9 sl10 sl11 sl12 sl13 sl14 sl15 sl16 sl17 sl18 sl19 sl20 sl21 sl22 sl23 sl24 sl25 sl26 sl27 sl28 sl29 sl30 sl31 sl32 sl33 sl34 sl35 sl36:Array (Option Value)} {oc0 kV0 dc0 pm0 cd0 ct0 oc1 kV1 dc1 pm1 cd1 ct1 oc2 kV2 dc2 pm2 cd2 ct2 oc3 kV3 dc3 pm3 cd3 ct3 oc4 kV4 dc4 pm4 cd4 ct4 oc5 kV5 dc5 pm5 cd5 ct5 oc6 kV6 dc6 pm6 cd6 ct6 oc7 kV7 dc7 pm7 cd7 ct7 oc8 kV8 dc8 pm8 cd8 ct8 oc9 kV9 dc9 pm9 cd9 ct9 oc10 kV10 dc10 pm10 cd10 ct10 oc11 kV11 dc11 pm11 cd11 ct11 oc12 kV12 dc12 pm12 cd12 ct12 oc13 kV13 dc13 pm13 cd13 ct13 oc14 kV14 dc14 pm14 cd14 ct14 oc15 kV15 dc15 pm15 cd15 ct15 oc16 kV16 dc16 pm16 cd16 ct16 oc17 kV17 dc17 pm17 cd17 ct17 oc18 kV18 dc18 pm18 cd18 ct18 oc19 kV19 dc19 pm19 cd19 ct19 oc20 kV20 dc20 pm20 cd20 ct20 oc21 kV21 dc21 pm21 cd21 ct21 oc22 kV22 dc22 pm22 cd22 ct22 oc23 kV23 dc23 pm23 cd23 ct23 oc24 kV24 dc24 pm24 cd24 ct24 oc25 kV25 dc25 pm25 cd25 ct25 oc26 kV26 dc26 pm26 cd26 ct26 oc27 kV27 dc27 pm27 cd27 ct27 oc28 kV28 dc28 pm28 cd28 ct28 oc29 kV29 dc29 pm29 cd29 ct29 oc30 kV30 dc30 pm30 cd30 ct30 oc31 kV31 dc31 pm31 cd31 ct31 oc32 kV32 dc32 pm32 cd32 ct32 oc33 kV33 dc33 pm33 cd33 ct33 oc34 kV34 dc34 pm34 cd34 ct34 oc35 kV35 dc35 pm35 cd35 ct35 oc36 kV36 dc36 pm36 cd36 ct36:Value} {t_MOST_WARES t_MOST_SWAPS:Tok}
  (aC_Book:W.nsIn K mainGlobals "Book"=some (some (.ref C_Book)))
  (a0:W.nsIn K mainGlobals "refuse_unlike"=some (some (.ref f0)))
  (l0:K.lookup f0=some ⟨oc0,od0,.func (W.fnOf "refuse_unlike" "refuse_unlike" (zay zbb) (zau zbb) (zae zbb) .none kV0 dc0 pm0 an0 cd0 ct0),sl0⟩)
  (c0:W.codeIn K cd0 "refuse_unlike"=true)
  (k0:W.keepIn K (.ref f0)=true)
  (a1:W.nsIn K mainGlobals "plus"=some (some (.ref f1)))
  (l1:K.lookup f1=some ⟨oc1,od1,.func (W.fnOf "plus" "plus" (zay zeM) (zau zeM) (zae zeM) .none kV1 dc1 pm1 an1 cd1 ct1),sl1⟩)
  (c1:W.codeIn K cd1 "plus"=true)
  (k1:W.keepIn K (.ref f1)=true)
  (a2:W.nsIn K mainGlobals "less"=some (some (.ref f2)))
  (l2:K.lookup f2=some ⟨oc2,od2,.func (W.fnOf "less" "less" (zay zfn) (zau zfn) (zae zfn) .none kV2 dc2 pm2 an2 cd2 ct2),sl2⟩)
  (c2:W.codeIn K cd2 "less"=true)
  (k2:W.keepIn K (.ref f2)=true)
  (a3:W.nsIn K mainGlobals "times"=some (some (.ref f3)))
  (l3:K.lookup f3=some ⟨oc3,od3,.func (W.fnOf "times" "times" (zay zdL) (zau zdL) (zae zdL) .none kV3 dc3 pm3 an3 cd3 ct3),sl3⟩)
  (c3:W.codeIn K cd3 "times"=true)
  (k3:W.keepIn K (.ref f3)=true)
  (a4:W.nsIn K mainGlobals "head_of"=some (some (.ref f4)))
  (l4:K.lookup f4=some ⟨oc4,od4,.func (W.fnOf "head_of" "head_of" (zay zdb) (zau zdb) (zae zdb) .none kV4 dc4 pm4 an4 cd4 ct4),sl4⟩)
  (c4:W.codeIn K cd4 "head_of"=true)
  (k4:W.keepIn K (.ref f4)=true)
  (a5:W.nsIn K mainGlobals "common"=some (some (.ref f5)))
  (l5:K.lookup f5=some ⟨oc5,od5,.func (W.fnOf "common" "common" (zay zdw) (zau zdw) (zae zdw) .none kV5 dc5 pm5 an5 cd5 ct5),sl5⟩)
  (c5:W.codeIn K cd5 "common"=true)
  (k5:W.keepIn K (.ref f5)=true)
  (a6:W.nsIn K mainGlobals "upright"=some (some (.ref f6)))
  (l6:K.lookup f6=some ⟨oc6,od6,.func (W.fnOf "upright" "upright" (zay zc9) (zau zc9) (zae zc9) .none kV6 dc6 pm6 an6 cd6 ct6),sl6⟩)
  (c6:W.codeIn K cd6 "upright"=true)
  (k6:W.keepIn K (.ref f6)=true)
  (a7:W.nsIn K mainGlobals "lowered"=some (some (.ref f7)))
  (l7:K.lookup f7=some ⟨oc7,od7,.func (W.fnOf "lowered" "lowered" (zay zc0) (zau zc0) (zae zc0) .none kV7 dc7 pm7 an7 cd7 ct7),sl7⟩)
  (c7:W.codeIn K cd7 "lowered"=true)
  (k7:W.keepIn K (.ref f7)=true)
  (a8:W.nsIn K mainGlobals "merged"=some (some (.ref f8)))
  (l8:K.lookup f8=some ⟨oc8,od8,.func (W.fnOf "merged" "merged" (zay zdx) (zau zdx) (zae zdx) .none kV8 dc8 pm8 an8 cd8 ct8),sl8⟩)
  (c8:W.codeIn K cd8 "merged"=true)
  (k8:W.keepIn K (.ref f8)=true)
  (a9:W.nsIn K mainGlobals "taken_in"=some (some (.ref f9)))
  (l9:K.lookup f9=some ⟨oc9,od9,.func (W.fnOf "taken_in" "taken_in" (zay zcH) (zau zcH) (zae zcH) .none kV9 dc9 pm9 an9 cd9 ct9),sl9⟩)
  (c9:W.codeIn K cd9 "taken_in"=true)
  (k9:W.keepIn K (.ref f9)=true)
  (a10:W.nsIn K mainGlobals "settled"=some (some (.ref f10)))
  (l10:K.lookup f10=some ⟨oc10,od10,.func (W.fnOf "settled" "settled" (zay zc6) (zau zc6) (zae zc6) .none kV10 dc10 pm10 an10 cd10 ct10),sl10⟩)
  (c10:W.codeIn K cd10 "settled"=true)
  (k10:W.keepIn K (.ref f10)=true)
  (a11:W.nsIn K mainGlobals "climbed"=some (some (.ref f11)))
  (l11:K.lookup f11=some ⟨oc11,od11,.func (W.fnOf "climbed" "climbed" (zay zc5) (zau zc5) (zae zc5) .none kV11 dc11 pm11 an11 cd11 ct11),sl11⟩)
  (c11:W.codeIn K cd11 "climbed"=true)
  (k11:W.keepIn K (.ref f11)=true)
  (a12:W.nsIn K mainGlobals "padded"=some (some (.ref f12)))
  (l12:K.lookup f12=some ⟨oc12,od12,.func (W.fnOf "padded" "padded" (zay zdi) (zau zdi) (zae zdi) .none kV12 dc12 pm12 an12 cd12 ct12),sl12⟩)
  (c12:W.codeIn K cd12 "padded"=true)
  (k12:W.keepIn K (.ref f12)=true)
  (a13:W.nsIn K mainGlobals "tails"=some (some (.ref f13)))
  (l13:K.lookup f13=some ⟨oc13,od13,.func (W.fnOf "tails" "tails" (zay zdT) (zau zdT) (zae zdT) .none kV13 dc13 pm13 an13 cd13 ct13),sl13⟩)
  (c13:W.codeIn K cd13 "tails"=true)
  (k13:W.keepIn K (.ref f13)=true)
  (a14:W.nsIn K mainGlobals "book_of"=some (some (.ref f14)))
  (l14:K.lookup f14=some ⟨oc14,od14,.func (W.fnOf "book_of" "book_of" (zay zda) (zau zda) (zae zda) .none kV14 dc14 pm14 an14 cd14 ct14),sl14⟩)
  (c14:W.codeIn K cd14 "book_of"=true)
  (k14:W.keepIn K (.ref f14)=true)
  (a15:W.nsIn K mainGlobals "refuse_other_wares"=some (some (.ref f15)))
  (l15:K.lookup f15=some ⟨oc15,od15,.func (W.fnOf "refuse_other_wares" "refuse_other_wares" (zay zaJ) (zau zaJ) (zae zaJ) .none kV15 dc15 pm15 an15 cd15 ct15),sl15⟩)
  (c15:W.codeIn K cd15 "refuse_other_wares"=true)
  (k15:W.keepIn K (.ref f15)=true)
  (a16:W.nsIn K mainGlobals "met"=some (some (.ref f16)))
  (l16:K.lookup f16=some ⟨oc16,od16,.func (W.fnOf "met" "met" (zay zhd) (zau zhd) (zae zhd) .none kV16 dc16 pm16 an16 cd16 ct16),sl16⟩)
  (c16:W.codeIn K cd16 "met"=true)
  (k16:W.keepIn K (.ref f16)=true)
  (a17:W.nsIn K mainGlobals "_law_cell"=some (some (.ref f17)))
  (l17:K.lookup f17=some ⟨oc17,od17,.func (W.fnOf "_law_cell" "_law_cell" (zay zcJ) (zau zcJ) (zae zcJ) .none kV17 dc17 pm17 an17 cd17 ct17),sl17⟩)
  (c17:W.codeIn K cd17 "_law_cell"=true)
  (k17:W.keepIn K (.ref f17)=true)
  (a18:W.nsIn K mainGlobals "_law_raw"=some (some (.ref f18)))
  (l18:K.lookup f18=some ⟨oc18,od18,.func (W.fnOf "_law_raw" "_law_raw" (zay zc3) (zau zc3) (zae zc3) .none kV18 dc18 pm18 an18 cd18 ct18),sl18⟩)
  (c18:W.codeIn K cd18 "_law_raw"=true)
  (k18:W.keepIn K (.ref f18)=true)
  (a19:W.nsIn K mainGlobals "_law_thing"=some (some (.ref f19)))
  (l19:K.lookup f19=some ⟨oc19,od19,.func (W.fnOf "_law_thing" "_law_thing" (zay zce) (zau zce) (zae zce) .none kV19 dc19 pm19 an19 cd19 ct19),sl19⟩)
  (c19:W.codeIn K cd19 "_law_thing"=true)
  (k19:W.keepIn K (.ref f19)=true)
  (a20:W.nsIn K mainGlobals "_law_frame"=some (some (.ref f20)))
  (l20:K.lookup f20=some ⟨oc20,od20,.func (W.fnOf "_law_frame" "_law_frame" (zay za7) (zau za7) (zae za7) .none kV20 dc20 pm20 an20 cd20 ct20),sl20⟩)
  (c20:W.codeIn K cd20 "_law_frame"=true)
  (k20:W.keepIn K (.ref f20)=true)
  (a21:W.nsIn K mainGlobals "_law_bottoms"=some (some (.ref f21)))
  (l21:K.lookup f21=some ⟨oc21,od21,.func (W.fnOf "_law_bottoms" "_law_bottoms" (zay zbI) (zau zbI) (zae zbI) .none kV21 dc21 pm21 an21 cd21 ct21),sl21⟩)
  (c21:W.codeIn K cd21 "_law_bottoms"=true)
  (k21:W.keepIn K (.ref f21)=true)
  (a22:W.nsIn K mainGlobals "_law_stirred"=some (some (.ref f22)))
  (l22:K.lookup f22=some ⟨oc22,od22,.func (W.fnOf "_law_stirred" "_law_stirred" (zay zaM) (zau zaM) (zae zaM) .none kV22 dc22 pm22 an22 cd22 ct22),sl22⟩)
  (c22:W.codeIn K cd22 "_law_stirred"=true)
  (k22:W.keepIn K (.ref f22)=true)
  (a23:W.nsIn K mainGlobals "_law_two"=some (some (.ref f23)))
  (l23:K.lookup f23=some ⟨oc23,od23,.func (W.fnOf "_law_two" "_law_two" (zay zcq) (zau zcq) (zae zcq) .none kV23 dc23 pm23 an23 cd23 ct23),sl23⟩)
  (c23:W.codeIn K cd23 "_law_two"=true)
  (k23:W.keepIn K (.ref f23)=true)
  (a24:W.nsIn K mainGlobals "_law_shares"=some (some (.ref f24)))
  (l24:K.lookup f24=some ⟨oc24,od24,.func (W.fnOf "_law_shares" "_law_shares" (zay zb2) (zau zb2) (zae zb2) .none kV24 dc24 pm24 an24 cd24 ct24),sl24⟩)
  (c24:W.codeIn K cd24 "_law_shares"=true)
  (k24:W.keepIn K (.ref f24)=true)
  (a25:W.nsIn K mainGlobals "_law_nothing"=some (some (.ref f25)))
  (l25:K.lookup f25=some ⟨oc25,od25,.func (W.fnOf "_law_nothing" "_law_nothing" (zay zbD) (zau zbD) (zae zbD) .none kV25 dc25 pm25 an25 cd25 ct25),sl25⟩)
  (c25:W.codeIn K cd25 "_law_nothing"=true)
  (k25:W.keepIn K (.ref f25)=true)
  (a26:W.nsIn K mainGlobals "_law_shared"=some (some (.ref f26)))
  (l26:K.lookup f26=some ⟨oc26,od26,.func (W.fnOf "_law_shared" "_law_shared" (zay zb4) (zau zb4) (zae zb4) .none kV26 dc26 pm26 an26 cd26 ct26),sl26⟩)
  (c26:W.codeIn K cd26 "_law_shared"=true)
  (k26:W.keepIn K (.ref f26)=true)
  (a27:W.nsIn K mainGlobals "_law_multiple"=some (some (.ref f27)))
  (l27:K.lookup f27=some ⟨oc27,od27,.func (W.fnOf "_law_multiple" "_law_multiple" (zay zbm) (zau zbm) (zae zbm) .none kV27 dc27 pm27 an27 cd27 ct27),sl27⟩)
  (c27:W.codeIn K cd27 "_law_multiple"=true)
  (k27:W.keepIn K (.ref f27)=true)
  (a28:W.nsIn K mainGlobals "_law_often"=some (some (.ref f28)))
  (l28:K.lookup f28=some ⟨oc28,od28,.func (W.fnOf "_law_often" "_law_often" (zay zcf) (zau zcf) (zae zcf) .none kV28 dc28 pm28 an28 cd28 ct28),sl28⟩)
  (c28:W.codeIn K cd28 "_law_often"=true)
  (k28:W.keepIn K (.ref f28)=true)
  (a29:W.nsIn K mainGlobals "_law_wholes"=some (some (.ref f29)))
  (l29:K.lookup f29=some ⟨oc29,od29,.func (W.fnOf "_law_wholes" "_law_wholes" (zay zb3) (zau zb3) (zae zb3) .none kV29 dc29 pm29 an29 cd29 ct29),sl29⟩)
  (c29:W.codeIn K cd29 "_law_wholes"=true)
  (k29:W.keepIn K (.ref f29)=true)
  (a30:W.nsIn K mainGlobals "_law_head"=some (some (.ref f30)))
  (l30:K.lookup f30=some ⟨oc30,od30,.func (W.fnOf "_law_head" "_law_head" (zay zcI) (zau zcI) (zae zcI) .none kV30 dc30 pm30 an30 cd30 ct30),sl30⟩)
  (c30:W.codeIn K cd30 "_law_head"=true)
  (k30:W.keepIn K (.ref f30)=true)
  (a31:W.nsIn K mainGlobals "_law_are_stairs"=some (some (.ref f31)))
  (l31:K.lookup f31=some ⟨oc31,od31,.func (W.fnOf "_law_are_stairs" "_law_are_stairs" (zay za3) (zau za3) (zae za3) .none kV31 dc31 pm31 an31 cd31 ct31),sl31⟩)
  (c31:W.codeIn K cd31 "_law_are_stairs"=true)
  (k31:W.keepIn K (.ref f31)=true)
  (a32:W.nsIn K mainGlobals "_law_brought"=some (some (.ref f32)))
  (l32:K.lookup f32=some ⟨oc32,od32,.func (W.fnOf "_law_brought" "_law_brought" (zay zbh) (zau zbh) (zae zbh) .none kV32 dc32 pm32 an32 cd32 ct32),sl32⟩)
  (c32:W.codeIn K cd32 "_law_brought"=true)
  (k32:W.keepIn K (.ref f32)=true)
  (a33:W.nsIn K mainGlobals "_law_one_frame"=some (some (.ref f33)))
  (l33:K.lookup f33=some ⟨oc33,od33,.func (W.fnOf "_law_one_frame" "_law_one_frame" (zay zaV) (zau zaV) (zae zaV) .none kV33 dc33 pm33 an33 cd33 ct33),sl33⟩)
  (c33:W.codeIn K cd33 "_law_one_frame"=true)
  (k33:W.keepIn K (.ref f33)=true)
  (a34:W.nsIn K mainGlobals "_law_each_often"=some (some (.ref f34)))
  (l34:K.lookup f34=some ⟨oc34,od34,.func (W.fnOf "_law_each_often" "_law_each_often" (zay zaQ) (zau zaQ) (zae zaQ) .none kV34 dc34 pm34 an34 cd34 ct34),sl34⟩)
  (c34:W.codeIn K cd34 "_law_each_often"=true)
  (k34:W.keepIn K (.ref f34)=true)
  (a35:W.nsIn K mainGlobals "law"=some (some (.ref f35)))
  (l35:K.lookup f35=some ⟨oc35,od35,.func (W.fnOf "law" "law" (zay zfi) (zau zfi) (zae zfi) .none kV35 dc35 pm35 an35 cd35 ct35),sl35⟩)
  (c35:W.codeIn K cd35 "law"=true)
  (k35:W.keepIn K (.ref f35)=true)
  (a36:W.findIn K (.ref C_Book) "__init__"=some (some (.ref f36)))
  (i36:W.isFn K (.ref f36)=true)
  (l36:K.lookup f36=some ⟨oc36,od36,.func (W.fnOf "__init__" "Book.__init__" (zay za0) (zau za0) (zae za0) .none kV36 dc36 pm36 an36 cd36 ct36),sl36⟩)
  (c36:W.codeIn K cd36 "Book.__init__"=true)
  (k36:W.keepIn K (.ref f36)=true)
  (pg_Book:W.plainGet K C_Book Str.empty=true)
  (hd_Book:W.hasDictIn K C_Book=true)
  (po_Book:W.plainOver K C_Book=true)
  (sa_Book:W.findIn K (.ref C_Book) "__setattr__"=some (some (.builtin "object.__setattr__")))
  (mk_Book:W.makesIn K C_Book=true)
  (kc_Book:W.keepIn K (.ref C_Book)=true)
  (n_Book_many:W.findIn K (.ref C_Book) "many"=some none)
  (n_Book_swaps:W.findIn K (.ref C_Book) "swaps"=some none)
  (z_any:W.nsIn K mainGlobals "any"=some none)
  (z_bool:W.nsIn K mainGlobals "bool"=some none)
  (z_enumerate:W.nsIn K mainGlobals "enumerate"=some none)
  (z_int:W.nsIn K mainGlobals "int"=some none)
  (z_isinstance:W.nsIn K mainGlobals "isinstance"=some none)
  (z_len:W.nsIn K mainGlobals "len"=some none)
  (z_list:W.nsIn K mainGlobals "list"=some none)
  (z_max:W.nsIn K mainGlobals "max"=some none)
  (z_min:W.nsIn K mainGlobals "min"=some none)
  (z_range:W.nsIn K mainGlobals "range"=some none)
  (z_reversed:W.nsIn K mainGlobals "reversed"=some none)
  (z_zip:W.nsIn K mainGlobals "zip"=some none)
  (g_MOST_WARES:W.nsIn K mainGlobals "MOST_WARES"=some (some (.int 8 t_MOST_WARES)))
  (g_MOST_SWAPS:W.nsIn K mainGlobals "MOST_SWAPS"=some (some (.int 12 t_MOST_SWAPS)))
  (kit_int_bool:W.kitOne K (.type "int") (.type "bool")=some false)
  (kit_int_int:W.kitOne K (.type "int") (.type "int")=some true)
  (kit_list_list:W.kitOne K (.type "list") (.type "list")=some true) :
  ∃ fd:FuncData,(∀ (s:Shared) (v:Value),BindsTo s fd ⟨[v],[]⟩ [("_law_script",v)])∧∀ base:Heap,K.In base->base.Ns mainGlobals mg->FnOk l.prog w K mg base (CXE l.prog w) 7 fa fd ["_law_script"] (zky K):=by
 have e:=hfa.symm.trans (W.mg_of X G a35)
 cases e
 have F_refuse_unlike:=zaL (st:=zbb) l0 c0 k0
 have b_refuse_unlike:=F_refuse_unlike.binds (ps:=["one","other"]) λ_ _ _ _ _ _ us hl=>match us,hl with | [_,_],_=>rfl
 have m_refuse_unlike:=W.mg_of X G a0
 have F_plus:=zaL (st:=zeM) l1 c1 k1
 have b_plus:=F_plus.binds (ps:=["one","other"]) λ_ _ _ _ _ _ us hl=>match us,hl with | [_,_],_=>rfl
 have m_plus:=W.mg_of X G a1
 have F_less:=zaL (st:=zfn) l2 c2 k2
 have b_less:=F_less.binds (ps:=["one","other"]) λ_ _ _ _ _ _ us hl=>match us,hl with | [_,_],_=>rfl
 have m_less:=W.mg_of X G a2
 have F_times:=zaL (st:=zdL) l3 c3 k3
 have b_times:=F_times.binds (ps:=["some","many"]) λ_ _ _ _ _ _ us hl=>match us,hl with | [_,_],_=>rfl
 have m_times:=W.mg_of X G a3
 have F_head_of:=zaL (st:=zdb) l4 c4 k4
 have b_head_of:=F_head_of.binds (ps:=["row"]) λ_ _ _ _ _ _ us hl=>match us,hl with | [_],_=>rfl
 have m_head_of:=W.mg_of X G a4
 have F_common:=zaL (st:=zdw) l5 c5 k5
 have b_common:=F_common.binds (ps:=["one","other"]) λ_ _ _ _ _ _ us hl=>match us,hl with | [_,_],_=>rfl
 have m_common:=W.mg_of X G a5
 have F_upright:=zaL (st:=zc9) l6 c6 k6
 have b_upright:=F_upright.binds (ps:=["row"]) λ_ _ _ _ _ _ us hl=>match us,hl with | [_],_=>rfl
 have m_upright:=W.mg_of X G a6
 have F_lowered:=zaL (st:=zc0) l7 c7 k7
 have b_lowered:=F_lowered.binds (ps:=["row","steps"]) λ_ _ _ _ _ _ us hl=>match us,hl with | [_,_],_=>rfl
 have m_lowered:=W.mg_of X G a7
 have F_merged:=zaL (st:=zdx) l8 c8 k8
 have b_merged:=F_merged.binds (ps:=["step","row"]) λ_ _ _ _ _ _ us hl=>match us,hl with | [_,_],_=>rfl
 have m_merged:=W.mg_of X G a8
 have F_taken_in:=zaL (st:=zcH) l9 c9 k9
 have b_taken_in:=F_taken_in.binds (ps:=["steps","row"]) λ_ _ _ _ _ _ us hl=>match us,hl with | [_,_],_=>rfl
 have m_taken_in:=W.mg_of X G a9
 have F_settled:=zaL (st:=zc6) l10 c10 k10
 have b_settled:=F_settled.binds (ps:=["steps"]) λ_ _ _ _ _ _ us hl=>match us,hl with | [_],_=>rfl
 have m_settled:=W.mg_of X G a10
 have F_climbed:=zaL (st:=zc5) l11 c11 k11
 have b_climbed:=F_climbed.binds (ps:=["rows"]) λ_ _ _ _ _ _ us hl=>match us,hl with | [_],_=>rfl
 have m_climbed:=W.mg_of X G a11
 have F_padded:=zaL (st:=zdi) l12 c12 k12
 have b_padded:=F_padded.binds (ps:=["rows","many"]) λ_ _ _ _ _ _ us hl=>match us,hl with | [_,_],_=>rfl
 have m_padded:=W.mg_of X G a12
 have F_tails:=zaL (st:=zdT) l13 c13 k13
 have b_tails:=F_tails.binds (ps:=["steps","many"]) λ_ _ _ _ _ _ us hl=>match us,hl with | [_,_],_=>rfl
 have m_tails:=W.mg_of X G a13
 have F_book_of:=zaL (st:=zda) l14 c14 k14
 have b_book_of:=F_book_of.binds (ps:=["many","swaps"]) λ_ _ _ _ _ _ us hl=>match us,hl with | [_,_],_=>rfl
 have m_book_of:=W.mg_of X G a14
 have F_refuse_other_wares:=zaL (st:=zaJ) l15 c15 k15
 have b_refuse_other_wares:=F_refuse_other_wares.binds (ps:=["one","other"]) λ_ _ _ _ _ _ us hl=>match us,hl with | [_,_],_=>rfl
 have m_refuse_other_wares:=W.mg_of X G a15
 have F_met:=zaL (st:=zhd) l16 c16 k16
 have b_met:=F_met.binds (ps:=["one","other"]) λ_ _ _ _ _ _ us hl=>match us,hl with | [_,_],_=>rfl
 have m_met:=W.mg_of X G a16
 have F_law_cell:=zaL (st:=zcJ) l17 c17 k17
 have b_law_cell:=F_law_cell.binds (ps:=["_law_script","_law_k"]) λ_ _ _ _ _ _ us hl=>match us,hl with | [_,_],_=>rfl
 have m_law_cell:=W.mg_of X G a17
 have F_law_raw:=zaL (st:=zc3) l18 c18 k18
 have b_law_raw:=F_law_raw.binds (ps:=["_law_script","_law_k"]) λ_ _ _ _ _ _ us hl=>match us,hl with | [_,_],_=>rfl
 have m_law_raw:=W.mg_of X G a18
 have F_law_thing:=zaL (st:=zce) l19 c19 k19
 have b_law_thing:=F_law_thing.binds (ps:=["_law_cell_here","_law_k","_law_many"]) λ_ _ _ _ _ _ us hl=>match us,hl with | [_,_,_],_=>rfl
 have m_law_thing:=W.mg_of X G a19
 have F_law_frame:=zaL (st:=za7) l20 c20 k20
 have b_law_frame:=F_law_frame.binds (ps:=["_law_wide","_law_cells"]) λ_ _ _ _ _ _ us hl=>match us,hl with | [_,_],_=>rfl
 have m_law_frame:=W.mg_of X G a20
 have F_law_bottoms:=zaL (st:=zbI) l21 c21 k21
 have b_law_bottoms:=F_law_bottoms.binds (ps:=["_law_wide","_law_cell_here","_law_far"]) λ_ _ _ _ _ _ us hl=>match us,hl with | [_,_,_],_=>rfl
 have m_law_bottoms:=W.mg_of X G a21
 have F_law_stirred:=zaL (st:=zaM) l22 c22 k22
 have b_law_stirred:=F_law_stirred.binds (ps:=["_law_rows","_law_bottoms_here","_law_idle","_law_cells"]) λ_ _ _ _ _ _ us hl=>match us,hl with | [_,_,_,_],_=>rfl
 have m_law_stirred:=W.mg_of X G a22
 have F_law_two:=zaL (st:=zcq) l23 c23 k23
 have b_law_two:=F_law_two.binds (ps:=["_law_script"]) λ_ _ _ _ _ _ us hl=>match us,hl with | [_],_=>rfl
 have m_law_two:=W.mg_of X G a23
 have F_law_shares:=zaL (st:=zb2) l24 c24 k24
 have b_law_shares:=F_law_shares.binds (ps:=["_law_duals","_law_basket"]) λ_ _ _ _ _ _ us hl=>match us,hl with | [_,_],_=>rfl
 have m_law_shares:=W.mg_of X G a24
 have F_law_nothing:=zaL (st:=zbD) l25 c25 k25
 have b_law_nothing:=F_law_nothing.binds (ps:=["_law_duals","_law_bottoms_here","_law_basket"]) λ_ _ _ _ _ _ us hl=>match us,hl with | [_,_,_],_=>rfl
 have m_law_nothing:=W.mg_of X G a25
 have F_law_shared:=zaL (st:=zb4) l26 c26 k26
 have b_law_shared:=F_law_shared.binds (ps:=["_law_one","_law_other"]) λ_ _ _ _ _ _ us hl=>match us,hl with | [_,_],_=>rfl
 have m_law_shared:=W.mg_of X G a26
 have F_law_multiple:=zaL (st:=zbm) l27 c27 k27
 have b_law_multiple:=F_law_multiple.binds (ps:=["_law_one","_law_other"]) λ_ _ _ _ _ _ us hl=>match us,hl with | [_,_],_=>rfl
 have m_law_multiple:=W.mg_of X G a27
 have F_law_often:=zaL (st:=zcf) l28 c28 k28
 have b_law_often:=F_law_often.binds (ps:=["_law_duals","_law_bottoms_here","_law_basket"]) λ_ _ _ _ _ _ us hl=>match us,hl with | [_,_,_],_=>rfl
 have m_law_often:=W.mg_of X G a28
 have F_law_wholes:=zaL (st:=zb3) l29 c29 k29
 have b_law_wholes:=F_law_wholes.binds (ps:=["_law_found","_law_many"]) λ_ _ _ _ _ _ us hl=>match us,hl with | [_,_],_=>rfl
 have m_law_wholes:=W.mg_of X G a29
 have F_law_head:=zaL (st:=zcI) l30 c30 k30
 have b_law_head:=F_law_head.binds (ps:=["_law_step"]) λ_ _ _ _ _ _ us hl=>match us,hl with | [_],_=>rfl
 have m_law_head:=W.mg_of X G a30
 have F_law_are_stairs:=zaL (st:=za3) l31 c31 k31
 have b_law_are_stairs:=F_law_are_stairs.binds (ps:=["_law_steps","_law_wide"]) λ_ _ _ _ _ _ us hl=>match us,hl with | [_,_],_=>rfl
 have m_law_are_stairs:=W.mg_of X G a31
 have F_law_brought:=zaL (st:=zbh) l32 c32 k32
 have b_law_brought:=F_law_brought.binds (ps:=["_law_steps","_law_basket"]) λ_ _ _ _ _ _ us hl=>match us,hl with | [_,_],_=>rfl
 have m_law_brought:=W.mg_of X G a32
 have F_law_one_frame:=zaL (st:=zaV) l33 c33 k33
 have b_law_one_frame:=F_law_one_frame.binds (ps:=["_law_rows","_law_one","_law_two_here","_law_steps"]) λ_ _ _ _ _ _ us hl=>match us,hl with | [_,_,_,_],_=>rfl
 have m_law_one_frame:=W.mg_of X G a33
 have F_law_each_often:=zaL (st:=zaQ) l34 c34 k34
 have b_law_each_often:=F_law_each_often.binds (ps:=["_law_swaps","_law_duals","_law_bottoms_here","_law_steps"]) λ_ _ _ _ _ _ us hl=>match us,hl with | [_,_,_,_],_=>rfl
 have m_law_each_often:=W.mg_of X G a34
 have F_law:=zaL (st:=zfi) l35 c35 k35
 have b_law:=F_law.binds (ps:=["_law_script"]) λ_ _ _ _ _ _ us hl=>match us,hl with | [_],_=>rfl
 have m_law:=W.mg_of X G a35
 have F_Book___init__:=zaL (st:=za0) l36 c36 k36
 have b_Book___init__:=F_Book___init__.binds (ps:=["self","many","swaps"]) λ_ _ _ _ _ _ us hl=>match us,hl with | [_,_,_],_=>rfl
 have T:Txt K mg ⟨(),C_Book⟩:=⟨W.mg_none_of X G z_any,W.mg_none_of X G z_bool,W.mg_none_of X G z_enumerate,W.mg_none_of X G z_int,W.mg_none_of X G z_isinstance,W.mg_none_of X G z_len,W.mg_none_of X G z_list,W.mg_none_of X G z_max,W.mg_none_of X G z_min,W.mg_none_of X G z_range,W.mg_none_of X G z_reversed,W.mg_none_of X G z_zip,W.mg_of X G aC_Book,⟨pg_Book,hd_Book,po_Book,sa_Book⟩,n_Book_many,n_Book_swaps,⟨t_MOST_WARES,W.mg_of X G g_MOST_WARES⟩,⟨t_MOST_SWAPS,W.mg_of X G g_MOST_SWAPS⟩,kit_int_bool,kit_int_int,kit_list_list⟩
 refine ⟨W.fnOf "law" "law" (zay zfi) (zau zfi) (zae zfi) .none kV35 dc35 pm35 an35 cd35 ct35,λs v=>.of_eq rfl,λbase _ _=>?_⟩
 have M_Book:Mk K C_Book f36:=⟨mk_Book,a36,i36,kc_Book⟩
 have G_refuse_unlike:Callee l.prog w K mg base (CXE l.prog w) 1 "refuse_unlike" ["one","other"] (zbS K _):=⟨_,_,zeD F_refuse_unlike T  ,m_refuse_unlike,k0,b_refuse_unlike⟩
 have G_plus:Callee l.prog w K mg base (CXE l.prog w) 2 "plus" ["one","other"] (zg6 K _):=⟨_,_,zlQ F_plus T G_refuse_unlike ,m_plus,k1,b_plus⟩
 have G_less:Callee l.prog w K mg base (CXE l.prog w) 2 "less" ["one","other"] (zga K _):=⟨_,_,zmh F_less T G_refuse_unlike ,m_less,k2,b_less⟩
 have G_times:Callee l.prog w K mg base (CXE l.prog w) 1 "times" ["some","many"] (zd3 K _):=⟨_,_,zkv F_times T  ,m_times,k3,b_times⟩
 have G_head_of:Callee l.prog w K mg base (CXE l.prog w) 1 "head_of" ["row"] (zch K _):=⟨_,_,zii F_head_of T  ,m_head_of,k4,b_head_of⟩
 have G_common:Callee l.prog w K mg base (CXE l.prog w) 1 "common" ["one","other"] (ze9 K _):=⟨_,_,zjT F_common T  ,m_common,k5,b_common⟩
 have G_upright:Callee l.prog w K mg base (CXE l.prog w) 2 "upright" ["row"] (zei K _):=⟨_,_,zh0 F_upright T G_head_of G_times ,m_upright,k6,b_upright⟩
 have G_lowered:Callee l.prog w K mg base (CXE l.prog w) 3 "lowered" ["row","steps"] (zdz K _):=⟨_,_,zh8 F_lowered T G_head_of G_less G_times ,m_lowered,k7,b_lowered⟩
 have G_merged:Callee l.prog w K mg base (CXE l.prog w) 3 "merged" ["step","row"] (ze0 K _):=⟨_,_,zi1 F_merged T G_common G_head_of G_less G_plus G_times ,m_merged,k8,b_merged⟩
 have G_taken_in:Callee l.prog w K mg base (CXE l.prog w) 4 "taken_in" ["steps","row"] (zdO K _):=⟨_,_,zhb F_taken_in T G_head_of G_lowered G_merged G_upright ,m_taken_in,k9,b_taken_in⟩
 have G_settled:Callee l.prog w K mg base (CXE l.prog w) 4 "settled" ["steps"] (zez K _):=⟨_,_,zin F_settled T G_lowered ,m_settled,k10,b_settled⟩
 have G_climbed:Callee l.prog w K mg base (CXE l.prog w) 5 "climbed" ["rows"] (zeu K _):=⟨_,_,zif F_climbed T G_settled G_taken_in ,m_climbed,k11,b_climbed⟩
 have G_padded:Callee l.prog w K mg base (CXE l.prog w) 1 "padded" ["rows","many"] (ze3 K _):=⟨_,_,ziw F_padded T  ,m_padded,k12,b_padded⟩
 have G_tails:Callee l.prog w K mg base (CXE l.prog w) 2 "tails" ["steps","many"] (zgc K _):=⟨_,_,zku F_tails T G_head_of ,m_tails,k13,b_tails⟩
 have G_Book___init__:=zeB (P:=l.prog) (w:=w) (base:=base) F_Book___init__ T
 have G_book_of:Callee l.prog w K mg base (CXE l.prog w) 3 "book_of" ["many","swaps"] (zev K _):=⟨_,_,zh1 F_book_of T  M_Book G_Book___init__ b_Book___init__ ,m_book_of,k14,b_book_of⟩
 have G_refuse_other_wares:Callee l.prog w K mg base (CXE l.prog w) 1 "refuse_other_wares" ["one","other"] (zbs K _):=⟨_,_,zdv F_refuse_other_wares T  ,m_refuse_other_wares,k15,b_refuse_other_wares⟩
 have G_met:Callee l.prog w K mg base (CXE l.prog w) 6 "met" ["one","other"] (zjO K _):=⟨_,_,znj F_met T G_climbed G_padded G_refuse_other_wares G_tails M_Book G_Book___init__ b_Book___init__ ,m_met,k16,b_met⟩
 have G_law_cell:Callee l.prog w K mg base (CXE l.prog w) 1 "_law_cell" ["_law_script","_law_k"] (zdN K _):=⟨_,_,zhq F_law_cell T  ,m_law_cell,k17,b_law_cell⟩
 have G_law_raw:Callee l.prog w K mg base (CXE l.prog w) 1 "_law_raw" ["_law_script","_law_k"] (zee K _):=⟨_,_,zh9 F_law_raw T  ,m_law_raw,k18,b_law_raw⟩
 have G_law_thing:Callee l.prog w K mg base (CXE l.prog w) 1 "_law_thing" ["_law_cell_here","_law_k","_law_many"] (zct K _):=⟨_,_,zgG F_law_thing T  ,m_law_thing,k19,b_law_thing⟩
 have G_law_frame:Callee l.prog w K mg base (CXE l.prog w) 2 "_law_frame" ["_law_wide","_law_cells"] (zdr K _):=⟨_,_,zgA F_law_frame T G_law_thing ,m_law_frame,k20,b_law_frame⟩
 have G_law_bottoms:Callee l.prog w K mg base (CXE l.prog w) 2 "_law_bottoms" ["_law_wide","_law_cell_here","_law_far"] (zcX K _):=⟨_,_,zfp F_law_bottoms T G_law_thing ,m_law_bottoms,k21,b_law_bottoms⟩
 have G_law_stirred:Callee l.prog w K mg base (CXE l.prog w) 2 "_law_stirred" ["_law_rows","_law_bottoms_here","_law_idle","_law_cells"] (zcU K _):=⟨_,_,zfu F_law_stirred T G_law_thing ,m_law_stirred,k22,b_law_stirred⟩
 have G_law_two:Callee l.prog w K mg base (CXE l.prog w) 3 "_law_two" ["_law_script"] (zet K _):=⟨_,_,zie F_law_two T G_law_bottoms G_law_cell G_law_frame G_law_raw G_law_stirred ,m_law_two,k23,b_law_two⟩
 have G_law_shares:Callee l.prog w K mg base (CXE l.prog w) 1 "_law_shares" ["_law_duals","_law_basket"] (zcF K _):=⟨_,_,zgg F_law_shares T  ,m_law_shares,k24,b_law_shares⟩
 have G_law_nothing:Callee l.prog w K mg base (CXE l.prog w) 2 "_law_nothing" ["_law_duals","_law_bottoms_here","_law_basket"] (zcZ K _):=⟨_,_,zfv F_law_nothing T G_law_shares ,m_law_nothing,k25,b_law_nothing⟩
 have G_law_shared:Callee l.prog w K mg base (CXE l.prog w) 1 "_law_shared" ["_law_one","_law_other"] (zcB K _):=⟨_,_,zf5 F_law_shared T  ,m_law_shared,k26,b_law_shared⟩
 have G_law_multiple:Callee l.prog w K mg base (CXE l.prog w) 2 "_law_multiple" ["_law_one","_law_other"] (zb6 K _):=⟨_,_,zeL F_law_multiple T G_law_shared ,m_law_multiple,k27,b_law_multiple⟩
 have G_law_often:Callee l.prog w K mg base (CXE l.prog w) 3 "_law_often" ["_law_duals","_law_bottoms_here","_law_basket"] (zdu K _):=⟨_,_,zgs F_law_often T G_law_multiple G_law_shared G_law_shares ,m_law_often,k28,b_law_often⟩
 have G_law_wholes:Callee l.prog w K mg base (CXE l.prog w) 1 "_law_wholes" ["_law_found","_law_many"] (zdl K _):=⟨_,_,zfW F_law_wholes T  ,m_law_wholes,k29,b_law_wholes⟩
 have G_law_head:Callee l.prog w K mg base (CXE l.prog w) 1 "_law_head" ["_law_step"] (zde K _):=⟨_,_,zhh F_law_head T  ,m_law_head,k30,b_law_head⟩
 have G_law_are_stairs:Callee l.prog w K mg base (CXE l.prog w) 2 "_law_are_stairs" ["_law_steps","_law_wide"] (zcd K _):=⟨_,_,zeg F_law_are_stairs T G_law_head G_law_wholes ,m_law_are_stairs,k31,b_law_are_stairs⟩
 have G_law_brought:Callee l.prog w K mg base (CXE l.prog w) 2 "_law_brought" ["_law_steps","_law_basket"] (zco K _):=⟨_,_,zfo F_law_brought T G_law_head ,m_law_brought,k32,b_law_brought⟩
 have G_law_one_frame:Callee l.prog w K mg base (CXE l.prog w) 3 "_law_one_frame" ["_law_rows","_law_one","_law_two_here","_law_steps"] (zcy K _):=⟨_,_,zeE F_law_one_frame T G_law_brought G_law_multiple ,m_law_one_frame,k33,b_law_one_frame⟩
 have G_law_each_often:Callee l.prog w K mg base (CXE l.prog w) 4 "_law_each_often" ["_law_swaps","_law_duals","_law_bottoms_here","_law_steps"] (zcl K _):=⟨_,_,zef F_law_each_often T G_law_brought G_law_often ,m_law_each_often,k34,b_law_each_often⟩
 exact (zmO F_law T G_law_are_stairs G_law_each_often G_law_nothing G_law_one_frame G_law_two G_book_of G_met ).imp λ_ _ _ _ q=>zmI q
theorem zpC {l:W.OpenLaw} {q:Program} {loose:List Str} {XP:(Str->Option Value)->Heap->Prop} {YP:World->Heap->Prop} {d:DefRec} {K:Params->W.Frag} (hn:l.most=some 63) (hdf:d.params.defaults=[])
  (hY:∀ (w:World) (h:Heap),YP w h->(K w.params).In h)
  (F:∀ (w:World) (mg:Str->Option Value) (fa:Addr) (h:Heap),(K w.params).In h->h.Ns mainGlobals mg->mg d.name=some (.ref fa) →
   ∃ fd:FuncData,(∀ (s:Shared) (u:Value),BindsTo s fd ⟨[u],[]⟩ [("_law_script",u)])∧∀ base:Heap,(K w.params).In base->base.Ns mainGlobals mg->FnOk l.prog w (K w.params) mg base (CXE l.prog w) 7 fa fd ["_law_script"] (zky (K w.params))) :
  W.WalkO q loose XP YP l.row.toRowW d [] (λf vs=>PySem.call f vs) :=
 L2.zmf (n:=63) (k:=7) (x:="_law_script") (CX:=λw=>CXE l.prog w) (sp:=λw=>zky (K w.params)) hn (by decide) hdf ⟨rfl,by decide,by decide⟩ hY F (λ_ _ a ns hl _ hS=>⟨a,ns,rfl,hS,hl,λ_=>rfl⟩) λ_ _ _ _ _ ⟨_,_,_,_,_,_,_,_,_,_,z⟩=>z
end
end My
section
open PySem PySem.W PyProof.Rows
set_option maxRecDepth 100000 in
set_option maxHeartbeats 0 in
theorem PySem.Challenge.cw_swapbook_k62_met_books_holds : PySem.Challenge.rw_swapbook_k62_met_books.Holds := by
 refine My.headT ?hc
 k_fill
 refine My.zpC (l:=PySem.Challenge.rw_swapbook_k62_met_books) rfl rfl (λw h Y=>W.kIn_of Y) ?F
 case F =>
  intro w mg fa h KX G hmg
  refine' My.all_mk KX G hmg ?aC_Book ?a0 ?l0 ?c0 ?k0 ?a1 ?l1 ?c1 ?k1 ?a2 ?l2 ?c2 ?k2 ?a3 ?l3 ?c3 ?k3 ?a4 ?l4 ?c4 ?k4 ?a5 ?l5 ?c5 ?k5 ?a6 ?l6 ?c6 ?k6 ?a7 ?l7 ?c7 ?k7 ?a8 ?l8 ?c8 ?k8 ?a9 ?l9 ?c9 ?k9 ?a10 ?l10 ?c10 ?k10 ?a11 ?l11 ?c11 ?k11 ?a12 ?l12 ?c12 ?k12 ?a13 ?l13 ?c13 ?k13 ?a14 ?l14 ?c14 ?k14 ?a15 ?l15 ?c15 ?k15 ?a16 ?l16 ?c16 ?k16 ?a17 ?l17 ?c17 ?k17 ?a18 ?l18 ?c18 ?k18 ?a19 ?l19 ?c19 ?k19 ?a20 ?l20 ?c20 ?k20 ?a21 ?l21 ?c21 ?k21 ?a22 ?l22 ?c22 ?k22 ?a23 ?l23 ?c23 ?k23 ?a24 ?l24 ?c24 ?k24 ?a25 ?l25 ?c25 ?k25 ?a26 ?l26 ?c26 ?k26 ?a27 ?l27 ?c27 ?k27 ?a28 ?l28 ?c28 ?k28 ?a29 ?l29 ?c29 ?k29 ?a30 ?l30 ?c30 ?k30 ?a31 ?l31 ?c31 ?k31 ?a32 ?l32 ?c32 ?k32 ?a33 ?l33 ?c33 ?k33 ?a34 ?l34 ?c34 ?k34 ?a35 ?l35 ?c35 ?k35 ?a36 ?i36 ?l36 ?c36 ?k36 ?pg_Book ?hd_Book ?po_Book ?sa_Book ?mk_Book ?kc_Book ?n_Book_many ?n_Book_swaps ?z_any ?z_bool ?z_enumerate ?z_int ?z_isinstance ?z_len ?z_list ?z_max ?z_min ?z_range ?z_reversed ?z_zip ?g_MOST_WARES ?g_MOST_SWAPS ?kit_int_bool ?kit_int_int ?kit_list_list
  (case aC_Book=>k_is)
  (case a0=>k_is)
  (case l0=>k_is)
  (case c0=>k_is)
  (case k0=>k_is)
  (case a1=>k_is)
  (case l1=>k_is)
  (case c1=>k_is)
  (case k1=>k_is)
  (case a2=>k_is)
  (case l2=>k_is)
  (case c2=>k_is)
  (case k2=>k_is)
  (case a3=>k_is)
  (case l3=>k_is)
  (case c3=>k_is)
  (case k3=>k_is)
  (case a4=>k_is)
  (case l4=>k_is)
  (case c4=>k_is)
  (case k4=>k_is)
  (case a5=>k_is)
  (case l5=>k_is)
  (case c5=>k_is)
  (case k5=>k_is)
  (case a6=>k_is)
  (case l6=>k_is)
  (case c6=>k_is)
  (case k6=>k_is)
  (case a7=>k_is)
  (case l7=>k_is)
  (case c7=>k_is)
  (case k7=>k_is)
  (case a8=>k_is)
  (case l8=>k_is)
  (case c8=>k_is)
  (case k8=>k_is)
  (case a9=>k_is)
  (case l9=>k_is)
  (case c9=>k_is)
  (case k9=>k_is)
  (case a10=>k_is)
  (case l10=>k_is)
  (case c10=>k_is)
  (case k10=>k_is)
  (case a11=>k_is)
  (case l11=>k_is)
  (case c11=>k_is)
  (case k11=>k_is)
  (case a12=>k_is)
  (case l12=>k_is)
  (case c12=>k_is)
  (case k12=>k_is)
  (case a13=>k_is)
  (case l13=>k_is)
  (case c13=>k_is)
  (case k13=>k_is)
  (case a14=>k_is)
  (case l14=>k_is)
  (case c14=>k_is)
  (case k14=>k_is)
  (case a15=>k_is)
  (case l15=>k_is)
  (case c15=>k_is)
  (case k15=>k_is)
  (case a16=>k_is)
  (case l16=>k_is)
  (case c16=>k_is)
  (case k16=>k_is)
  (case a17=>k_is)
  (case l17=>k_is)
  (case c17=>k_is)
  (case k17=>k_is)
  (case a18=>k_is)
  (case l18=>k_is)
  (case c18=>k_is)
  (case k18=>k_is)
  (case a19=>k_is)
  (case l19=>k_is)
  (case c19=>k_is)
  (case k19=>k_is)
  (case a20=>k_is)
  (case l20=>k_is)
  (case c20=>k_is)
  (case k20=>k_is)
  (case a21=>k_is)
  (case l21=>k_is)
  (case c21=>k_is)
  (case k21=>k_is)
  (case a22=>k_is)
  (case l22=>k_is)
  (case c22=>k_is)
  (case k22=>k_is)
  (case a23=>k_is)
  (case l23=>k_is)
  (case c23=>k_is)
  (case k23=>k_is)
  (case a24=>k_is)
  (case l24=>k_is)
  (case c24=>k_is)
  (case k24=>k_is)
  (case a25=>k_is)
  (case l25=>k_is)
  (case c25=>k_is)
  (case k25=>k_is)
  (case a26=>k_is)
  (case l26=>k_is)
  (case c26=>k_is)
  (case k26=>k_is)
  (case a27=>k_is)
  (case l27=>k_is)
  (case c27=>k_is)
  (case k27=>k_is)
  (case a28=>k_is)
  (case l28=>k_is)
  (case c28=>k_is)
  (case k28=>k_is)
  (case a29=>k_is)
  (case l29=>k_is)
  (case c29=>k_is)
  (case k29=>k_is)
  (case a30=>k_is)
  (case l30=>k_is)
  (case c30=>k_is)
  (case k30=>k_is)
  (case a31=>k_is)
  (case l31=>k_is)
  (case c31=>k_is)
  (case k31=>k_is)
  (case a32=>k_is)
  (case l32=>k_is)
  (case c32=>k_is)
  (case k32=>k_is)
  (case a33=>k_is)
  (case l33=>k_is)
  (case c33=>k_is)
  (case k33=>k_is)
  (case a34=>k_is)
  (case l34=>k_is)
  (case c34=>k_is)
  (case k34=>k_is)
  (case a35=>k_is)
  (case l35=>k_is)
  (case c35=>k_is)
  (case k35=>k_is)
  (case a36=>k_is)
  (case i36=>k_is)
  (case l36=>k_is)
  (case c36=>k_is)
  (case k36=>k_is)
  (case pg_Book=>k_is)
  (case hd_Book=>k_is)
  (case po_Book=>k_is)
  (case sa_Book=>k_is)
  (case mk_Book=>k_is)
  (case kc_Book=>k_is)
  (case n_Book_many=>k_is)
  (case n_Book_swaps=>k_is)
  (case z_any=>k_is)
  (case z_bool=>k_is)
  (case z_enumerate=>k_is)
  (case z_int=>k_is)
  (case z_isinstance=>k_is)
  (case z_len=>k_is)
  (case z_list=>k_is)
  (case z_max=>k_is)
  (case z_min=>k_is)
  (case z_range=>k_is)
  (case z_reversed=>k_is)
  (case z_zip=>k_is)
  (case g_MOST_WARES=>k_is)
  (case g_MOST_SWAPS=>k_is)
  (case kit_int_bool=>kit_is)
  (case kit_int_int=>kit_is)
  (case kit_list_list=>kit_is)
end
