import PyProof.Rows.All
import Wide.All
import OpenK.AllK
import Wide.FinOn
import Lean
import PyProof.EqAt
import PyProof.EqKinds
import PyProof.TupleCall
import PySem.Challenge.RW_swapbook_k03_a_book
set_option Elab.async false
set_option linter.all false
set_option maxRecDepth 100000
namespace Hd
open PySem PySem.W PyProof.Rows
def runT (p:Program) (w:World) (m:Nat) (a:Option Value):Nat->SharedT->Thread->Option SharedT
 | 0,_,_=>none
 | n+1,s,t=>match through t with
  | true=>some s
  | false=>match stepOk m a t with
   | true=>(match stepT (denote treeTable) p w s t with
    | some x=>runT p w m a n x.1 x.2
    | none=>none)
   | false=>none
theorem zic {p:Program} {w:World} {m:Nat} {a:Option Value}:∀ {n:Nat} {s z:SharedT} {t:Thread},runT p w m a n s t=some z->topRun treeTable p w m a n s.abs t=some z.abs
 | 0,_,_,_,h=>by cases h
 | n+1,s,z,t,h=>by
  rw [runT] at h
  rw [topRun]
  cases h1:through t<;>rw [h1] at h
  ·cases h2:stepOk m a t<;>rw [h2] at h
   ·cases h
   ·cases h3:stepT (denote treeTable) p w s t with
    | none=>rw [h3] at h;cases h
    | some x=>rw [h3] at h;rw [stepT_spec (s':=x.1) (t':=x.2) h3];exact zic h
  ·cases h;rfl
def tr:List Obj->Nat->BT->BT
 | [],_,t=>t
 | o :: r,n,t=>tr r (n+1) (t.ins n o)
noncomputable def boot (P:Params) (os:OsState):SharedT:=⟨tr (boot_heap P).objs.toList 0 .nil,11,(boot_heap P).life,Array.mk [],boot_drawn,boot_toks,os⟩
theorem zhQ (P:Params) (os:OsState):(boot P os).abs=⟨boot_heap P,Array.mk [],boot_drawn,boot_toks,os⟩:=by kernel_rfl
theorem zi8 (P:Params):((boot_heap P).isNs mainGlobals&&(Array.mk ([]:List GenState)).size == 0)=true:=by kernel_rfl
theorem ziV (P:Params):(boot_heap P).objs.size=11:=by kernel_rfl
theorem zi1 (P:Params):(boot_heap P).nsMap mainGlobals "__annotations__"=some (.ref 6):=by kernel_rfl
noncomputable def lk (p:Program) (w:World) (s:Shared):Bool:=staticsOk (importedModules p.main.body) (boot_heap w.params) s.heap&&namesBound p s.heap&&gensDone s&&laidKept (boot_heap w.params) s.heap
def getT (s:SharedT) (a:Nat):Option Obj:=match Nat.blt a s.n with
 | true=>alive ((s.tree.get a).getD default)
 | false=>none
theorem zi4 (s:SharedT) (a:Nat):s.abs.heap.get? a=getT s a:=by
 show (absHeap s.tree s.n s.life).get? a=_
 unfold Heap.get? getT
 rw [absHeap_at]
 by_cases h:a<s.n
 ·have e:Nat.blt a s.n=true:=by simpa [Nat.blt_eq] using h
  rw [if_pos h,e]
  generalize (s.tree.get a).getD default=o
  obtain ⟨c,d,dt,sl⟩:=o
  cases dt<;>rfl
 ·have e:Nat.blt a s.n=false:=by
   cases q:Nat.blt a s.n with
   | false=>rfl
   | true=>exact absurd (by simpa [Nat.blt_eq] using q) h
  rw [if_neg h,e]
theorem y_is (as:List Addr) (s:SharedT):as.map s.abs.heap.get?=as.map (getT s):=by
 congr 1
 funext a
 exact zi4 s a
theorem left_of {p q:Program} {loose:List Str} {Xt:Shared->Bool} {α:Type} {Yf:Shared->α} {Ya:World->α} {N:Nat} {g0:Bool} {YT:SharedT->α}
  (e:opening p=plainProg p.main.scope.names) (hN:Nat.ble 600 N=true) (f:∀ s,fenceModules? p s=some s) (hy:∀ s:SharedT,Yf s.abs=YT s)
  (h:∀ w os,(runT p w 11 (some (.ref 6)) N (boot w.params os) (topStub p)).map (λs=>(lk p w s.abs,openSeen q loose (importedModules p.main.body) Xt g0 s.abs,YT s))=some (true,openGood q loose,Ya w)):LeftO p q loose Xt Yf Ya N g0:=λw=>by
 obtain ⟨s,h1,h2⟩:=Option.map_eq_some_iff.mp (boot_open e hN f w)
 obtain ⟨hp,gs,dr,tk,os⟩:=s
 have h3:hp=boot_heap w.params∧gs=Array.mk []∧dr=boot_drawn∧tk=boot_toks:=by simpa using h2
 obtain ⟨rfl,rfl,rfl,rfl⟩:=h3
 obtain ⟨z,h4,h5⟩:=Option.map_eq_some_iff.mp (h w os)
 have h6:=zic h4
 rw [zhQ] at h6
 obtain ⟨l1,l2,l3⟩:_∧_∧_:=by simpa only [Prod.mk.injEq] using h5
 unfold openEnds
 rw [h1]
 show (topFrom treeTable p w N _).map _=_
 have h7:topFrom treeTable p w N ⟨boot_heap w.params,Array.mk [],boot_drawn,boot_toks,os⟩=some z.abs:=by
  unfold topFrom
  dsimp only
  rw [zi8,ziV,zi1,h6]
  show (match lk p w z.abs with | true=>_ | false=>_)=_
  rw [l1]
 rw [h7]
 exact congrArg some (Prod.ext l2 ((hy z).trans l3))
end Hd
set_option maxRecDepth 100000
namespace My
open PySem PySem.W PyProof.Rows
noncomputable def hdF (q:Program) (as:List Addr) (N:Nat) (w:World) (os:OsState) :=
 (Hd.runT PySem.Challenge.rw_swapbook_k03_a_book.row.prog w 11 (some (.ref 6)) N (Hd.boot w.params os) (topStub PySem.Challenge.rw_swapbook_k03_a_book.row.prog)).map (λs=>(Hd.lk PySem.Challenge.rw_swapbook_k03_a_book.row.prog w s.abs,
  openSeen q [] (importedModules PySem.Challenge.rw_swapbook_k03_a_book.row.prog.main.body) (λs=>xlAt q [] s&&recOk (RowW.records PySem.Challenge.rw_swapbook_k03_a_book.row.toRowW) s) true s.abs,as.map (Hd.getT s)))
noncomputable def hdG (q:Program) (K:Params->Frag) (w:World):=some (true,openGood q [],(K w.params).map λp=>some p.2)
end My
set_option Elab.async false
lay_quick My.hdF My.hdG
namespace My
open PySem PySem.W PyProof.Rows
theorem zjD {q:Program} {K:Params->Frag} {as:List Addr} {N:Nat} {e:∀ P,as=(K P).map (·.1)} (hN:Nat.ble 600 N=true)
  (h:∀ w os,W.Fast.tw6084617276858994590 q as N w os=W.Fast.tw7309032369996461460 q K w) :
  LeftO PySem.Challenge.rw_swapbook_k03_a_book.row.prog q [] (λs=>xlAt q [] s&&recOk (RowW.records PySem.Challenge.rw_swapbook_k03_a_book.row.toRowW) s) (kHook K as e).obs (kHook K as e).val N:=by
 rw [← W.Fast.te6084617276858994590,← W.Fast.te7309032369996461460] at h
 exact Hd.left_of (by kernel_rfl) hN (λs=>by kernel_rfl) (Hd.y_is as) h
end My
section
local macro_rules
 | `(tactic| refine $e:term)=>do
  if e.raw.isOfKind `Lean.Parser.Term.app&&e.raw[0].getId.eraseMacroScopes == `PySem.W.holds_open then
   let some _:=e.raw.find? (λs=>s.isOfKind `Lean.Parser.Term.syntheticHole&&s[1].getId.eraseMacroScopes == `hl) | Lean.Macro.throwUnsupported
   let h ← `(My.zjD (by decide) (λw os=>by kernel_rfl))
   let e' ← e.raw.replaceM λs=>pure (if s.isOfKind `Lean.Parser.Term.syntheticHole&&s[1].getId.eraseMacroScopes == `hl then some h.raw else none)
   `(tactic| refine $(⟨e'⟩))
  else Lean.Macro.throwUnsupported
open PySem PySem.W PyProof.Rows
set_option maxRecDepth 100000 in
set_option maxHeartbeats 0 in
open_top My.headT for PySem.Challenge.rw_swapbook_k03_a_book
end
set_option hygiene false in
local macro_rules
 | `(⇑[$x])=>`((.va false $x))
 | `(↥[$x])=>`((.va true $x))
 | `(↥($x))=>`((by exact $x))
abbrev Ji:=List Int
abbrev Jq:=List Ji
set_option hygiene false in
local macro_rules
 | `(↑[$a0])=>`((zaE $a0 zcu))
 | `(↑[$a0,$a1])=>`((zaE $a0 (zaE $a1 zcu)))
 | `(↑[$a0,$a1,$a2])=>`((zaE $a0 (zaE $a1 (zaE $a2 zcu))))
 | `(↑[$a0,$a1,$a2,$a3])=>`((zaE $a0 (zaE $a1 (zaE $a2 (zaE $a3 zcu)))))
 | `(↑[$a0,$a1,$a2,$a3,$a4])=>`((zaE $a0 (zaE $a1 (zaE $a2 (zaE $a3 (zaE $a4 zcu))))))
 | `(↑[$a0,$a1,$a2,$a3,$a4,$a5])=>`((zaE $a0 (zaE $a1 (zaE $a2 (zaE $a3 (zaE $a4 (zaE $a5 zcu)))))))
namespace L2
open PySem PySem.Spec PyProof.Rows
abbrev Key:=Sum Int Str
def zku:Key->Value->Bool
 | .inl k,v=>Value.isInt k v
 | .inr x,v=>Value.isStrOf x v
def zlq (w:World):Key->Int
 | .inl k=>hashInt k
 | .inr x=>hashStr w x
theorem za5:∀ {k:Key} {v:Value},zku k v=true->(∃ i t,k=Sum.inl i∧v=Value.int i t)∨(∃ x t,k=Sum.inr x∧v=Value.str x t)
 | .inl i,v,h=>by
  obtain ⟨t,e⟩:=Value.isInt_shape (k:=i) (v:=v) h
  exact .inl ⟨i,t,rfl,e⟩
 | .inr x,v,h=>by
  obtain ⟨t,e⟩:=Value.isStrOf_shape (x:=x) (v:=v) h
  exact .inr ⟨x,t,rfl,e⟩
theorem zjZ (a b:Int):decide ((Sum.inl a:Key)=Sum.inl b)=(a == b):=by
 by_cases e:a=b
 ·subst e;simp
 ·have h:¬ (Sum.inl a:Key)=Sum.inl b:=λq=>e (Sum.inl.inj q)
  rw [decide_eq_false h]
  exact (beq_eq_false_iff_ne.mpr e).symm
theorem zjn (a b:Str):decide ((Sum.inr a:Key)=Sum.inr b)=decide (a=b):=by
 by_cases e:a=b
 ·subst e;simp
 ·have h:¬ (Sum.inr a:Key)=Sum.inr b:=λq=>e (Sum.inr.inj q)
  rw [decide_eq_false h,decide_eq_false e]
theorem zjX (a:Int) (b:Str):decide ((Sum.inl a:Key)=Sum.inr b)=false:=decide_eq_false (λq=>nomatch q)
theorem zko (a:Str) (b:Int):decide ((Sum.inr a:Key)=Sum.inl b)=false:=decide_eq_false (λq=>nomatch q)
def zgL (prog:Program) (w:World):PySem.KeyKind prog w Key where
 is:=zku
 hash:=zlq w
 inj:=λv a b ha hb=>by
  rcases za5 ha with ⟨i,t,rfl,rfl⟩ | ⟨x,t,rfl,rfl⟩
  ·rcases za5 hb with ⟨j,u,rfl,e⟩ | ⟨y,u,rfl,e⟩
   ·injection e with e1 _;rw [e1]
   ·exact nomatch e
  ·rcases za5 hb with ⟨j,u,rfl,e⟩ | ⟨y,u,rfl,e⟩
   ·exact nomatch e
   ·injection e with e1 _;rw [e1]
 byValue:=λk v h=>by
  rcases za5 h with ⟨i,t,rfl,rfl⟩ | ⟨x,t,rfl,rfl⟩<;>rfl
 pyHash:=λhv h=>by
  rcases za5 hv with ⟨i,t,rfl,rfl⟩ | ⟨x,t,rfl,rfl⟩
  ·exact wpAny_pyHash_int h
  ·exact wpAny_pyHash_str h
 eqBool:=λhu hv h=>by
  rcases za5 hu with ⟨i,t,rfl,rfl⟩ | ⟨x,t,rfl,rfl⟩
  ·rcases za5 hv with ⟨j,u,rfl,rfl⟩ | ⟨y,u,rfl,rfl⟩
   ·rw [zjZ] at h;exact wpAny_eqBool_int h
   ·rw [zjX] at h;exact SeqAt.EqAt.int_str i t y u _ _ _ _ h
  ·rcases za5 hv with ⟨j,u,rfl,rfl⟩ | ⟨y,u,rfl,rfl⟩
   ·rw [zko] at h;exact SeqAt.EqAt.str_int x t j u _ _ _ _ h
   ·rw [zjn] at h;exact wpAny_eqBool_str h
 «strs»:=λk x t v h=>by
  rcases za5 h with ⟨i,u,rfl,e⟩ | ⟨y,u,rfl,e⟩
  ·exact nomatch e
  ·injection e with e1 _
   subst e1
   cases v<;>rfl
end L2
namespace L2
open PySem PySem.Spec PyProof.Rows
inductive V where
 | non | bl (b:Bool) | int (i:Int) | str (x:Str) | byt (b:Array UInt8) | flt (b:UInt64) | ref (a:Addr) | ty (n:String)
 deriving DecidableEq
def zbM:V->Value->Prop
 | .non,u=>u=Value.none
 | .bl b,u=>u=Value.bool b
 | .int i,u=>∃ t,u=Value.int i t
 | .str x,u=>∃ t,u=Value.str x t
 | .byt b,u=>∃ t,u=Value.bytes b t
 | .flt b,u=>∃ t,u=Value.float b t
 | .ref a,u=>u=Value.ref a
 | .ty n,u=>u=Value.type n
abbrev zbl:List V->List Value->Prop:=Paired zbM
theorem zbl.length {xs:List V} {us:List Value} (r:zbl xs us):xs.length=us.length:=Paired.length r
theorem zbl.get:∀ {xs:List V} {us:List Value} {i:Nat} {x:V},zbl xs us->xs[i]?=some x->∃ u,us[i]?=some u∧zbM x u
 | _,_,_,_,.nil,e=>by simp at e
 | _,_,0,_,.cons r _,e=>by simp at e;subst e;exact ⟨_,rfl,r⟩
 | _,_,i+1,x,.cons _ t,e=>by
  obtain ⟨u,h1,h2⟩:=zbl.get (i:=i) (x:=x) t (by simpa using e)
  exact ⟨u,by simpa using h1,h2⟩
theorem zbl.append:∀ {xs ys:List V} {us ws:List Value},zbl xs us->zbl ys ws->zbl (xs++ys) (us++ws)
 | _,_,_,_,.nil,s=>s
 | _,_,_,_,.cons r t,s=>.cons r (zbl.append t s)
theorem zbl.take:∀ {xs:List V} {us:List Value} (n:Nat),zbl xs us->zbl (xs.take n) (us.take n)
 | _,_,0,_=>.nil
 | _,_,_+1,.nil=>.nil
 | _,_,n+1,.cons r t=>.cons r (zbl.take n t)
theorem zbl.drop:∀ {xs:List V} {us:List Value} (n:Nat),zbl xs us->zbl (xs.drop n) (us.drop n)
 | _,_,0,r=>r
 | _,_,_+1,.nil=>.nil
 | _,_,n+1,.cons _ t=>zbl.drop n t
def zih:Option V->Option Value->Prop
 | some v,some u=>zbM v u
 | none,none=>True
 | _,_=>False
def KV {κ:Type}:List (κ×V)->List (κ×Value)->Prop:=Paired λ(p:κ×V) (q:κ×Value)=>p.1=q.1∧zbM p.2 q.2
def kV:Key->V
 | .inl i=>.int i
 | .inr x=>.str x
inductive HO where
 | lst (xs:List V)
 | tup (xs:List V)
 | dK (kvs:List (Key×V)) | dT (kvs:List (List Key×V))
 | set (S:Int->Bool) (n:Nat)
 | ins (C dx:Addr) (fs:List (Str×V))
 | own (x:Addr)
 | xd (fs:List (Str×V))
 | met (f x:Addr)
 | rng (lo hi:Int)
 | frz (o:Obj) (u:HO)
 | tbl (ps:Array Value)
 | ext (φ:Heap->Prop)
abbrev Hp:=Addr->Option HO
def upd (H:Hp) (a:Addr) (o:HO):Hp:=λb=>if b=a then some o else H b
theorem zak {H:Hp} {a:Addr} {o:HO}:upd H a o a=some o:=by unfold upd;rw [if_pos rfl]
theorem zad {H:Hp} {a b:Addr} {o:HO} (h:b≠a):upd H a o b=H b:=by unfold upd;rw [if_neg h]
theorem zh0 {H:Hp} {a b:Addr} {o u:HO} (h:H a=some o) (h':H b=some u) (d:o≠u):a≠b:=by
 intro e;subst e;rw [h] at h';exact d (Option.some.inj h')
theorem zam {H:Hp} {a b:Addr} {o:HO} (h:H a=some o) (h':H b=none):a≠b:=by
 intro e;subst e;rw [h] at h';cases h'
section
variable (P:Program) (w:World)
def zbs (H:Hp) (h:Heap) (a:Addr):HO->Prop
 | .lst xs=>xs.length≤sizeLine∧∃ (its:List Value) (n:Nat),zbl xs its∧h.get? a=some { cls:=.type "list",data:=.seq its.toArray n }
 | .tup xs=>xs.length≤sizeLine∧∃ its:List Value,zbl xs its∧IsTup h a its.toArray
 | .dK kvs=>kvs.length≤sizeLine∧(a == sysModules)=false∧∃ vs,KV kvs vs∧h.DictOf (zgL P w) a vs
 | .dT kvs=>kvs.length≤sizeLine∧(a == sysModules)=false∧∃ xs:List (List Key×Addr×Value),
   Paired (λ(p:List Key×V) (q:List Key×Addr×Value)=>p.1=q.1∧H q.2.1=some (.tup (p.1.map kV))∧zbM p.2 q.2.2) kvs xs ∧
   ∃ o es ep,h.get? a=some o∧o.ExactDict∧o.data=.dict es ep∧es.toList=xs.map (entryOfKey (tupleKind (zgL P w)))∧(xs.map (·.1)).Nodup
 | .set S n=>h.SetOf (intKind P w) a S n
 | .ins C dx fs=>H dx=some (.own a)∧fs.length≤1000∧dx≠a∧h.get? a=some (W.instObj C dx) ∧
   ∃ mA,h.Ns1 dx mA∧(∀ f,zih (fs.lookup f) (mA f))∧PySem.Within mA (fs.map (·.1))
 | .own _=>∃ o,h.get? a=some o
 | .xd fs=>∃ mA,h.Ns1 a mA∧∀ f,zih (fs.lookup f) (mA f)
 | .rng lo hi=>∃ t u v,h.get? a=some { cls:=.type "range",data:=.fields #[.int lo t,.int hi u,.int 1 v] }
 | .frz o u=>h.get? a=some o∧zbs H h a u
 | .tbl ps=>h.get? a=some { cls:=.none,data:=.fields ps }
 | .met f x=>h.get? a=some (W.methodObj (.ref f) (.ref x))
 | .ext φ=>φ h∧(∃ o,h.get? a=some o)∧∀ h1 h2:Heap,φ h1->(∀ o,h1.get? a=some o->h2.get? a=some o)->φ h2
def HOk (H:Hp) (h:Heap):Prop:=∀ a o,H a=some o->zbs P w H h a o
end
section
variable {P:Program} {w:World} {H H':Hp} {h h':Heap} {a:Addr} {o:HO}
theorem zbs.lt (x:zbs P w H h a o):a<h.objs.size:=by
 cases o with
 | lst xs=>obtain ⟨_,_,_,_,e⟩:=x;exact Heap.lt_size e
 | tup xs=>obtain ⟨_,_,_,p⟩:=x;exact p.lt
 | dK kvs=>obtain ⟨_,_,_,_,o,_,_,e,_⟩:=x;exact Heap.lt_size e
 | dT kvs=>obtain ⟨_,_,_,_,o,_,_,e,_⟩:=x;exact Heap.lt_size e
 | set S n=>obtain ⟨o,_,_,_,e,_⟩:=x;exact Heap.lt_size e
 | ins C dx fs=>obtain ⟨_,_,_,e,_⟩:=x;exact Heap.lt_size e
 | own y=>obtain ⟨_,e⟩:=x;exact Heap.lt_size e
 | xd fs=>obtain ⟨_,⟨_,_,_,e,_⟩,_⟩:=x;exact Heap.lt_size e
 | rng lo hi=>obtain ⟨_,_,_,e⟩:=x;exact Heap.lt_size e
 | frz ob u=>obtain ⟨e,_⟩:=x;exact Heap.lt_size e
 | tbl ps=>exact Heap.lt_size (show h.get? a=some _ from x)
 | met f y=>exact Heap.lt_size (show h.get? a=some _ from x)
 | ext φ=>obtain ⟨_,⟨_,e⟩,_⟩:=x;exact Heap.lt_size e
theorem Paired.mapP {α β:Type} {F G:α->β->Prop}:∀ {l₁:List α} {l₂:List β},Paired F l₁ l₂->(∀ a b,F a b->G a b)->Paired G l₁ l₂
 | _,_,.nil,_=>.nil
 | _,_,.cons r t,f=>.cons (f _ _ r) (Paired.mapP t f)
theorem zbs.stay (x:zbs P w H h a o) (k:∀ b u,(b=a∨H b=some (.own a))->h.get? b=some u->h'.get? b=some u)
  (ho:∀ b,H b=some (.own a)->H' b=some (.own a)) (ht:∀ b xs,H b=some (.tup xs)->H' b=some (.tup xs)):zbs P w H' h' a o:=by
 induction o with
 | lst xs=>obtain ⟨z,its,n,r,e⟩:=x;exact ⟨z,its,n,r,k _ _ (.inl rfl) e⟩
 | tup xs=>obtain ⟨z,its,r,ob,e,c⟩:=x;exact ⟨z,its,r,ob,k _ _ (.inl rfl) e,c⟩
 | dK kvs=>obtain ⟨z,y,vs,r,ob,es,ep,e,c⟩:=x;exact ⟨z,y,vs,r,ob,es,ep,k _ _ (.inl rfl) e,c⟩
 | dT kvs =>
  obtain ⟨z,y,xs,r,ob,es,ep,e,c⟩:=x
  exact ⟨z,y,xs,Paired.mapP r λp q z=>⟨z.1,ht _ _ z.2.1,z.2.2⟩,ob,es,ep,k _ _ (.inl rfl) e,c⟩
 | set S n=>obtain ⟨ob,es,ep,t,e,c⟩:=x;exact ⟨ob,es,ep,t,k _ _ (.inl rfl) e,c⟩
 | ins C dx fs =>
  obtain ⟨d,z,ne,e,mA,⟨od,es,ep,e2,c⟩,r⟩:=x
  exact ⟨ho _ d,z,ne,k _ _ (.inl rfl) e,mA,⟨od,es,ep,k _ _ (.inr d) e2,c⟩,r⟩
 | own y=>obtain ⟨ob,e⟩:=x;exact ⟨ob,k _ _ (.inl rfl) e⟩
 | xd fs=>obtain ⟨mA,⟨od,es,ep,e,c⟩,r⟩:=x;exact ⟨mA,⟨od,es,ep,k _ _ (.inl rfl) e,c⟩,r⟩
 | rng lo hi=>obtain ⟨t,u,v,e⟩:=x;exact ⟨t,u,v,k _ _ (.inl rfl) e⟩
 | frz ob u ih=>obtain ⟨e,q⟩:=x;exact ⟨k _ _ (.inl rfl) e,ih q⟩
 | tbl ps =>
  have e:h.get? a=some { cls:=.none,data:=.fields ps }:=x
  show h'.get? a=some { cls:=.none,data:=.fields ps }
  exact k a _ (.inl rfl) e
 | met f y =>
  have e:h.get? a=some (W.methodObj (.ref f) (.ref y)):=x
  show h'.get? a=some (W.methodObj (.ref f) (.ref y))
  exact k a _ (.inl rfl) e
 | ext φ=>obtain ⟨p,⟨o,e⟩,st⟩:=x;exact ⟨st _ _ p λo q=>k _ _ (.inl rfl) q,⟨o,k _ _ (.inl rfl) e⟩,st⟩
theorem HOk.lt (x:HOk P w H h) (e:H a=some o):a<h.objs.size:=(x a o e).lt
theorem HOk.fresh (x:HOk P w H h) (e:h.objs.size≤a):H a=none:=by
 cases q:H a with
 | none=>rfl
 | some u=>exact absurd (Nat.lt_of_lt_of_le (x.lt q) e) (Nat.lt_irrefl _)
theorem HOk.kept (x:HOk P w H h) (k:∀ b u,h.get? b=some u->h'.get? b=some u):HOk P w H h':=λa o e =>
 (x a o e).stay (λb u _ q=>k b u q) (λ_ q=>q) λ_ _ q=>q
theorem HOk.laid (x:HOk P w H h) (k:∀ b u,h.get? b=some u->h'.get? b=some u) (hp:h.objs.size≤a) (new:zbs P w (upd H a o) h' a o):HOk P w (upd H a o) h':=λb u e=>by
 have hn:=x.fresh hp
 by_cases hb:b=a
 ·subst hb;rw [zak] at e;cases e;exact new
 ·rw [zad hb] at e
  exact (x b u e).stay (λc v _ q=>k c v q) (λc q=>by rw [zad (zam q hn)];exact q) λc xs q=>by rw [zad (zam q hn)];exact q
end
def Rd (H:Hp) (a:Addr) (u:HO):Prop:=H a=some u∨∃ o,H a=some (.frz o u)
theorem Rd.ok {P:Program} {w:World} {H:Hp} {h:Heap} {a:Addr} {u:HO} (r:Rd H a u) (x:HOk P w H h):zbs P w H h a u:=by
 rcases r with r | ⟨o,r⟩
 ·exact x a u r
 ·obtain ⟨_,q⟩:=x a _ r
  exact q
def Mut:Option HO->Prop
 | some (.lst _)=>True
 | some (.dK _)=>True
 | some (.dT _)=>True
 | some (.set _ _)=>True
 | some (.ins _ _ _)=>True
 | some (.ext _)=>True
 | _=>False
section
variable {P:Program} {w:World} {H:Hp} {h h':Heap} {x e:Addr} {o':HO}
theorem HOk.write (ok:HOk P w H h) (mu:Mut (H x)) (he:e=x∨H e=some (.own x)) (k:∀ b u,b≠e->h.get? b=some u->h'.get? b=some u) (heo:∃ u,h'.get? e=some u)
  (new:zbs P w (upd H x o') h' x o'):HOk P w (upd H x o') h':=λb u q=>by
 have nown:∀ c y,H c=some (.own y)->c≠x:=λc y r z=>by subst z;rw [r] at mu;exact mu
 have ntup:∀ c xs,H c=some (.tup xs)->c≠x:=λc xs r z=>by subst z;rw [r] at mu;exact mu
 by_cases hb:b=x
 ·subst hb;rw [zak] at q;cases q;exact new
 ·rw [zad hb] at q
  by_cases hbe:b=e
  ·have q':H b=some (.own x):=by
    rcases he with z | z
    ·exact absurd (hbe.trans z) hb
    ·rw [hbe];exact z
   rw [q] at q';cases q'
   obtain ⟨v,hv⟩:=heo
   exact ⟨v,by rw [hbe];exact hv⟩
  ·refine (ok b u q).stay (λc v hc r=>k c v ?_ r) (λc r=>by rw [zad (nown c b r)];exact r) λc xs r=>by rw [zad (ntup c xs r)];exact r
   rcases hc with rfl | hc
   ·exact hbe
   ·rintro rfl
    rcases he with z | z
    ·exact nown c b hc z
    ·rw [hc] at z;cases z;exact hb rfl
end
structure Un (fs ex:List Addr) (H H':Hp) (h h':Heap):Prop where
 keep:∀ b o,h.get? b=some o->H b=none->b ∉ fs->b ∉ ex->h'.get? b=some o
 slot:∀ b o,h.get? b=some o->H b=none->b∈fs->b ∉ ex->∃ sl,h'.get? b=some { o with slots:=sl }
 free:∀ b o,h.get? b=some o->H b=none->b ∉ ex->H' b=none
 there:∀ b o,h.get? b=some o->b ∉ ex->∃ o',h'.get? b=some o'
 tups:∀ b xs,H b=some (.tup xs)->H' b=some (.tup xs)
 frzs:∀ b o u,H b=some (.frz o u)->H' b=some (.frz o u)
 tbls:∀ b ps,H b=some (.tbl ps)->∃ more,H' b=some (.tbl (ps++more))
section
variable {fs fs' ex ex':List Addr} {H H1 H2:Hp} {h h1 h2 h':Heap} {a x e:Addr} {o:HO}
theorem Un.any (u:Un fs ex H H1 h h1) {b:Addr} {ob:Obj} (q:h.get? b=some ob) (n:H b=none) (hx:b ∉ ex):∃ sl,h1.get? b=some { ob with slots:=sl }:=by
 by_cases hb:b∈fs
 ·exact u.slot b ob q n hb hx
 ·exact ⟨ob.slots,u.keep b ob q n hb hx⟩
theorem Un.kept (k:∀ b u,h.get? b=some u->h'.get? b=some u):Un fs ex H H h h' :=
 ⟨λb ob q _ _ _=>k b ob q,λb ob q _ _ _=>⟨ob.slots,k b ob q⟩,λ_ _ _ n _=>n,λb ob q _=>⟨ob,k b ob q⟩,λ_ _ q=>q,λ_ _ _ q=>q,λ_ ps q=>⟨#[],by rw [q];simp⟩⟩
theorem Un.refl:Un fs ex H H h h:=Un.kept λ_ _ q=>q
theorem Un.laid (k:∀ b u,h.get? b=some u->h'.get? b=some u) (hp:h.objs.size≤a) (hn:H a=none):Un fs ex H (upd H a o) h h' where
 keep:=λb u q _ _ _=>k b u q
 slot:=λb u q _ _ _=>⟨u.slots,k b u q⟩
 free:=λb u q n _=>by rw [zad (Nat.ne_of_lt (Nat.lt_of_lt_of_le (Heap.lt_size q) hp))];exact n
 there:=λb u q _=>⟨u,k b u q⟩
 tups:=λb xs q=>by rw [zad (zam q hn)];exact q
 frzs:=λb u xs q=>by rw [zad (zam q hn)];exact q
 tbls:=λb ps q=>⟨#[],by rw [zad (zam q hn),q];simp⟩
theorem Un.write (mu:Mut (H x)) (he:e=x∨H e=some (.own x)) (k:∀ b u,b≠e->h.get? b=some u->h'.get? b=some u) (heo:∃ u,h'.get? e=some u):Un fs ex H (upd H x o) h h':=by
 have hx:∀ b,H b=none->b≠x:=λb n z=>by subst z;rw [n] at mu;exact mu
 have hb:∀ b,H b=none->b≠e:=λb n z=>by
  subst z
  rcases he with r | r
  ·exact hx b n r
  ·rw [n] at r;cases r
 have hm:∀ b u,H b=some u->¬ Mut (some u)->b≠x:=λb u q nm z=>by subst z;rw [q] at mu;exact nm mu
 refine ⟨λb u q n _ _=>k b u (hb b n) q,λb u q n _ _=>⟨u.slots,k b u (hb b n) q⟩,λb u q n _=>by rw [zad (hx b n)];exact n,λb u q _=>?_,
  λb xs q=>by rw [zad (hm b _ q λz=>z)];exact q,λb u xs q=>by rw [zad (hm b _ q λz=>z)];exact q,λb ps q=>⟨#[],by rw [zad (hm b _ q λz=>z),q];simp⟩⟩
 by_cases hbe:b=e
 ·subst hbe;exact heo
 ·exact ⟨u,k b u hbe q⟩
end
def trk (h:Heap) (H:Hp):List Addr:=(List.range h.objs.size).filter λa=>(H a).isSome
def zhv (h:Heap) (H:Hp):Heap:=W.hideAll h (trk h H)
theorem zgH (h:Heap) (H:Hp):(zhv h H).objs.size=h.objs.size:=W.hideAll_size _ _
theorem zhk {h:Heap} {H:Hp} {b:Addr} {o:Obj} (e:h.get? b=some o) (n:H b=none):(zhv h H).get? b=some o :=
 W.hideAll_get _ e λhm=>by
  have q:(H b).isSome=true:=(List.mem_filter.mp hm).2
  rw [n] at q;simp at q
theorem ziv {h:Heap} {H:Hp} {b:Addr} {o:Obj} (e:(zhv h H).get? b=some o):h.get? b=some o∧H b=none:=by
 have e':h.get? b=some o:=W.of_hideAll (trk h H) e
 refine ⟨e',?_⟩
 cases q:H b with
 | none=>rfl
 | some x =>
  have hm:b∈trk h H:=List.mem_filter.mpr ⟨List.mem_range.mpr (Heap.lt_size e'),by simp [q]⟩
  have z:(zhv h H).get? b=none:=W.hideAll_none (trk h H) hm
  rw [z] at e;cases e
def ziG (g h:Heap) (L:Addr):List (Addr×Obj):=(List.range h.objs.size).filterMap λa=>if a=L∨(g.get? a).isSome=true then none else (h.get? a).map λo=>(a,o)
def rest (g h:Heap) (L d:Addr):List (Addr×Obj):=(ziG g h L).filter λp=>decide (p.1≠d)
end L2
namespace L2
open PySem PySem.Spec PyProof.Rows
structure Mod (K:W.Frag) (mg:Str->Option Value) (base:Heap):Prop where
 kin:K.In base
 glob:base.Ns mainGlobals mg
 blt:∃ mb,base.Ns builtinsNs mb∧∀ x:Str,x≠"__name__"->mb x=bootBuiltins x
 nolimit:base.NoLimit
structure Cx where
 prog:Program
 w:World
 K:W.Frag
 mg:Str->Option Value
 base:Heap
 A:Around
 N:List Str
 s₀:Shared
 H₀:Hp
 env:Env
 outer:List Env
 stack:List Env
 ex:List Addr
 fn:Str->Bool
 calm:Bool
 pn:List (Addr×Obj)
 xe:Value->Shared->Prop
def frs (l:List Env):List Addr:=l.filterMap (·.frame)
abbrev Cx.fs (X:Cx):List Addr:=frs X.outer
def Vis (sc:Scope) (x:Str):Prop:=sc.names.lookup x=some .local∨sc.names.lookup x=some .cell∨sc.names.lookup x=some .free
def Loc (sc:Scope) (x:Str):Prop:=sc.names.lookup x=some .local∨sc.names.lookup x=some .cell
def zlk (env:Env) (h:Heap) (m:Str->Option Value) (x:Str) (u:Value):Prop :=
 (env.kindOf x=some .local∧m x=some u)∨((env.kindOf x=some .cell∨env.kindOf x=some .free)∧∃ c,env.cells.lookup x=some c∧h.IsCell c (some u))
structure Cx.Ok (X:Cx):Prop where
 mod:Mod X.K X.mg X.base
 kind:X.env.scope.kind=.function
 glob:X.env.globals=mainGlobals
 blt:X.env.builtins=builtinsNs
 above:X.s₀.heap.objs.size≤X.env.locals
 inj:∀ x y c,X.env.cells.lookup x=some c->X.env.cells.lookup y=some c->x=y
 has:∀ x,(X.env.kindOf x=some .cell∨X.env.kindOf x=some .free)->∃ c,X.env.cells.lookup x=some c
 cab:∀ x c,X.fn x=true->X.env.cells.lookup x=some c->X.s₀.heap.objs.size≤c
 hd:X.calm=true->X.A.handled=none
 frames:X.A.frames=some X.stack
 stk:X.stack=X.outer∨(X.stack=X.env :: X.outer∧X.env.frame=some X.env.locals)
 exf:∀ b∈X.ex,b≠X.env.locals∧∀ x c,X.env.cells.lookup x=some c->c≠b
 bs:∀ b o,X.base.get? b=some o->X.s₀.heap.get? b=some o∧X.H₀ b=none
 bsz:X.base.objs.size≤X.s₀.heap.objs.size
 noex:∀ b o,X.base.get? b=some o->b ∉ X.ex
 exfs:∀ b∈X.ex,b ∉ X.fs
 funs:X.s₀.heap.FunFrames X.base X.outer
 frf:∀ b∈X.fs,X.H₀ b=none
structure Inv (X:Cx) (pins:List (Addr×Obj)) (σ:List (Option V)) (H:Hp) (s:Shared):Prop where
 ok:X.Ok
 os:s.os=X.s₀.os
 bare:AllBare s.gens
 base:Un X.fs X.ex X.H₀ H X.s₀.heap s.heap
 loc:∃ m,s.heap.Ns X.env.locals m∧∀ (i:Nat) (x:Str) (v:V),X.N[i]?=some x->σ[i]?=some (some v)->Vis X.env.scope x->∃ u,zbM v u∧zlk X.env s.heap m x u
 cell:∀ x c,X.env.cells.lookup x=some c->∃ v,s.heap.IsCell c v
 free:H X.env.locals=none
 freeC:∀ x c,X.env.cells.lookup x=some c->H c=none
 pin:∀ p∈X.pn++pins,s.heap.get? p.1=some p.2∧H p.1=none∧p.1≠X.env.locals∧p.1 ∉ X.fs∧∀ v,p.2.data≠.cell v
 hok:HOk X.prog X.w H s.heap
 len:σ.length=X.N.length
section
variable {X:Cx} {pins:List (Addr×Obj)} {σ:List (Option V)} {H H':Hp} {s:Shared} {h':Heap}
theorem Cx.Ok.nofr (ok:X.Ok) {b:Addr} {o:Obj} (e:X.base.get? b=some o):b ∉ X.fs:=λhb=>by
 have:=(ok.funs.mem hb).1
 rw [e] at this;cases this
theorem Inv.bs (I:Inv X pins σ H s):∀ b o,X.base.get? b=some o->s.heap.get? b=some o∧H b=none:=λb o e =>
 ⟨I.base.keep b o ((I.ok.bs b o e)).1 ((I.ok.bs b o e)).2 (I.ok.nofr e) (I.ok.noex b o e),I.base.free b o ((I.ok.bs b o e)).1 ((I.ok.bs b o e)).2 (I.ok.noex b o e)⟩
theorem Inv.bk (I:Inv X pins σ H s):∀ b o,X.base.get? b=some o->s.heap.get? b=some o:=λb o e=>(I.bs b o e).1
theorem Inv.mod (I:Inv X pins σ H s):Mod X.K X.mg X.base:=I.ok.mod
theorem Inv.kIn (I:Inv X pins σ H s):X.K.In s.heap:=I.ok.mod.kin.keeps I.bk
theorem Inv.nolimit (I:Inv X pins σ H s):s.heap.NoLimit:=I.ok.mod.nolimit.keeps I.bk
theorem Inv.fr (I:Inv X pins σ H s):∃ m,Fr X.base X.env.locals s.heap m :=
 let ⟨m,hn,_⟩:=I.loc
 ⟨m,hn,I.bk,Nat.le_trans I.ok.bsz I.ok.above⟩
theorem Inv.lt (I:Inv X pins σ H s):X.env.locals<s.heap.objs.size:=let ⟨_,hn,_⟩:=I.loc;hn.lt
theorem Inv.sz (I:Inv X pins σ H s):X.s₀.heap.objs.size≤s.heap.objs.size:=Nat.le_trans I.ok.above (Nat.le_of_lt I.lt)
theorem Inv.nofs (I:Inv X pins σ H s) {a:Addr} (h:s.heap.objs.size≤a):a ∉ X.fs:=λhb=>by
 obtain ⟨_,o,ho,_⟩:=I.ok.funs.mem hb
 exact absurd (Nat.lt_of_lt_of_le (Heap.lt_size ho) (Nat.le_trans I.sz h)) (Nat.lt_irrefl _)
theorem Inv.cne (I:Inv X pins σ H s):∀ x c,X.env.cells.lookup x=some c->c≠X.env.locals:=λx c e z=>by
 obtain ⟨v,o,ho,hd⟩:=I.cell x c e
 obtain ⟨m,⟨o',es,ep,ho',hd',_⟩,_⟩:=I.loc
 rw [z,ho'] at ho;cases ho;rw [hd'] at hd;cases hd
theorem Inv.funs (I:Inv X pins σ H s):s.heap.FunFrames X.base X.outer:=by
 have all:∀ (l:List Env),(∀ b∈frs l,b∈X.fs)->X.s₀.heap.FunFrames X.base l->s.heap.FunFrames X.base l:=by
  intro l
  induction l with
  | nil=>intro _ _;trivial
  | cons env r ih =>
   intro hs hl
   obtain ⟨hk,⟨L,o,hf,hn,ho,hd⟩,hr⟩:=hl
   have hL:L∈X.fs:=hs L (by unfold frs;rw [List.filterMap_cons,hf];exact List.mem_cons_self)
   obtain ⟨sl,e⟩:=I.base.slot L o ho (I.ok.frf L hL) hL λz=>I.ok.exfs L z hL
   exact ⟨hk,⟨L,_,hf,hn,e,hd⟩,ih (λb hb=>hs b (by unfold frs;rw [List.filterMap_cons,hf];exact List.mem_cons_of_mem _ hb)) hr⟩
 exact all X.outer (λ_ hb=>hb) I.ok.funs
theorem Inv.stack (I:Inv X pins σ H s):s.heap.FunFrames X.base X.stack:=by
 rcases I.ok.stk with e | ⟨e,hf⟩
 ·rw [e];exact I.funs
 ·rw [e]
  obtain ⟨m,hn,_⟩:=I.loc
  refine .cons (by rw [I.ok.kind];decide) hf hn ?_ I.funs
  exact Heap.get?_none_of_le (Nat.le_trans I.ok.bsz I.ok.above)
theorem Inv.stkSub (I:Inv X pins σ H s):∀ b∈frs X.stack,b∈X.env.locals :: X.fs:=λb hb=>by
 rcases I.ok.stk with e | ⟨e,hf⟩
 ·rw [e] at hb;exact List.mem_cons_of_mem _ hb
 ·rw [e] at hb
  unfold frs at hb
  rw [List.filterMap_cons,hf] at hb
  exact hb
theorem Inv.stkFree (I:Inv X pins σ H s):∀ b∈frs X.stack,H b=none:=λb hb=>by
 rcases List.mem_cons.mp (I.stkSub b hb) with e | hb
 ·rw [e];exact I.free
 ·obtain ⟨_,o,ho,_⟩:=I.ok.funs.mem hb
  exact I.base.free b o ho (I.ok.frf b hb) λz=>I.ok.exfs b z hb
theorem Inv.step {g':Array GenState} {t':Nat} {d':Drawn} {ch:List Addr} (I:Inv X pins σ H s)
  (hch:∀ b∈ch,(b∈X.ex∨X.s₀.heap.objs.size≤b)∧b≠X.env.locals∧(∀x c,X.env.cells.lookup x=some c->c≠b)∧∀ p∈X.pn++pins,p.1≠b)
  (keep:∀ b o,b≠X.env.locals->b ∉ X.fs->b ∉ ch->s.heap.get? b=some o->H b=none->h'.get? b=some o)
  (slot:∀ b o,b≠X.env.locals->b∈X.fs->b ∉ ch->s.heap.get? b=some o->H b=none->∃ sl,h'.get? b=some { o with slots:=sl }) (free:∀ b o,b ∉ ch->s.heap.get? b=some o->H b=none->H' b=none)
  (there:∀ b o,b ∉ ch->s.heap.get? b=some o->∃ o',h'.get? b=some o')
  (tups:∀ b xs,H b=some (.tup xs)->H' b=some (.tup xs)) (frzs:∀ b o u,H b=some (.frz o u)->H' b=some (.frz o u)) (tbls:∀ b ps,H b=some (.tbl ps)->∃ more,H' b=some (.tbl (ps++more)))
  (ns:∀ m,s.heap.Ns X.env.locals m->h'.Ns X.env.locals m) (hok:HOk X.prog X.w H' h') (hg:AllBare g') :
  Inv X pins σ H' { s with heap:=h',gens:=g',drawn:=d',toks:=t' }:=by
 have neL:∀ b o,X.s₀.heap.get? b=some o->b≠X.env.locals:=λb o e=>Nat.ne_of_lt (Nat.lt_of_lt_of_le (Heap.lt_size e) I.ok.above)
 have neC:∀ b o,X.s₀.heap.get? b=some o->b ∉ X.ex->b ∉ ch:=λb o e hx hb=>by
  rcases (hch b hb).1 with z | z
  ·exact hx z
  ·exact absurd (Nat.lt_of_lt_of_le (Heap.lt_size e) z) (Nat.lt_irrefl _)
 have cellK:∀ x c,X.env.cells.lookup x=some c->∀ v,s.heap.IsCell c v->h'.IsCell c v:=λx c e v ⟨o,ho,hd⟩=>by
  have nch:c ∉ ch:=λz=>(hch c z).2.2.1 x c e rfl
  by_cases hc:c∈X.fs
  ·obtain ⟨sl,q⟩:=slot c o (I.cne x c e) hc nch ho (I.freeC x c e)
   exact ⟨_,q,hd⟩
  ·exact ⟨o,keep c o (I.cne x c e) hc nch ho (I.freeC x c e),hd⟩
 refine ⟨I.ok,I.os,hg,⟨λb o e n hb hx=>?_,λb o e n hb hx=>?_,λb o e n hx=>?_,λb o e hx=>?_,λb xs e=>tups b xs (I.base.tups b xs e),λb o xs e=>frzs b o xs (I.base.frzs b o xs e),λb ps e=>?_⟩,?_,λx c e=>?_,?_,λx c e=>?_,λp hp=>?_,hok,I.len⟩
 ·exact keep b o (neL b o e) hb (neC b o e hx) (I.base.keep b o e n hb hx) (I.base.free b o e n hx)
 ·obtain ⟨sl,e1⟩:=I.base.slot b o e n hb hx
  obtain ⟨sl',e2⟩:=slot b _ (neL b o e) hb (neC b o e hx) e1 (I.base.free b o e n hx)
  exact ⟨sl',e2⟩
 ·obtain ⟨o',e1⟩:=I.base.there b o e hx
  exact free b o' (neC b o e hx) e1 (I.base.free b o e n hx)
 ·obtain ⟨o',e1⟩:=I.base.there b o e hx
  exact there b o' (neC b o e hx) e1
 ·obtain ⟨m1,e1⟩:=I.base.tbls b ps e
  obtain ⟨m2,e2⟩:=tbls b _ e1
  exact ⟨m1++m2,by rw [e2,Array.append_assoc]⟩
 ·obtain ⟨m,hn,hl⟩:=I.loc
  refine ⟨m,ns m hn,λi x v e1 e2 e3=>?_⟩
  obtain ⟨u,r,l⟩:=hl i x v e1 e2 e3
  refine ⟨u,r,?_⟩
  rcases l with l | ⟨k,c,e,z⟩
  ·exact .inl l
  ·exact .inr ⟨k,c,e,cellK x c e _ z⟩
 ·obtain ⟨v,z⟩:=I.cell x c e
  exact ⟨v,cellK x c e v z⟩
 ·obtain ⟨m,⟨o,_,_,ho,_⟩,_⟩:=I.loc
  exact free _ o (λz=>(hch _ z).2.1 rfl) ho I.free
 ·obtain ⟨v,o,ho,hd⟩:=I.cell x c e
  exact free c o (λz=>(hch c z).2.2.1 x c e rfl) ho (I.freeC x c e)
 ·obtain ⟨e,n,ne,nf,d⟩:=I.pin p hp
  have nch:p.1 ∉ ch:=λz=>(hch p.1 z).2.2.2 p hp rfl
  exact ⟨keep p.1 p.2 ne nf nch e n,free p.1 p.2 nch e n,ne,nf,d⟩
theorem Inv.un {t':Nat} (I:Inv X pins σ H s) (u:Un X.fs [] H H' s.heap h') (hok:HOk X.prog X.w H' h'):Inv X pins σ H' { s with heap:=h',toks:=t' }:=by
 obtain ⟨m,⟨o,es,ep,ho,r⟩,_⟩:=id I.loc
 obtain ⟨sl,hL⟩:=u.any ho I.free (by simp)
 exact I.step (g':=s.gens) (d':=s.drawn) (ch:=[]) (λ_ z=>nomatch z) (λb o _ hb _ e n=>u.keep b o e n hb (by simp)) (λb o _ hb _ e n=>u.slot b o e n hb (by simp)) (λb o _ e n=>u.free b o e n (by simp)) (λb o _ e=>u.there b o e (by simp)) u.tups u.frzs u.tbls (λm' hm=>by
  obtain ⟨o',es',ep',ho',r'⟩:=hm
  rw [ho] at ho';cases ho'
  exact ⟨_,es',ep',hL,r'⟩) hok I.bare
theorem Inv.call {g':Array GenState} {t':Nat} {d':Drawn} {ch:List Addr} (I:Inv X pins σ H s) (u:Un (frs X.stack) ch H H' s.heap h') (hok:HOk X.prog X.w H' h') (hg:AllBare g')
  (hch:∀ b∈ch,(b∈X.ex∨X.s₀.heap.objs.size≤b)∧b≠X.env.locals∧(∀x c,X.env.cells.lookup x=some c->c≠b)∧∀ p∈X.pn++pins,p.1≠b) :
  Inv X pins σ H' { s with heap:=h',gens:=g',drawn:=d',toks:=t' }:=by
 obtain ⟨m,⟨o,es,ep,ho,r⟩,_⟩:=id I.loc
 obtain ⟨sl,hL⟩:=u.any ho I.free λz=>(hch _ z).2.1 rfl
 exact I.step (ch:=ch) hch (λb o hL hb hc e n=>u.keep b o e n (λz=>(List.mem_cons.mp (I.stkSub b z)).elim hL hb) hc) (λb o _ _ hc e n=>u.any e n hc) (λb o hc e n=>u.free b o e n hc) (λb o hc e=>u.there b o e hc) u.tups u.frzs u.tbls (λm' hm=>by
  obtain ⟨o',es',ep',ho',r'⟩:=hm
  rw [ho] at ho';cases ho'
  exact ⟨_,es',ep',hL,r'⟩) hok hg
theorem Inv.turned {t':Nat} {it:Addr} (I:Inv X pins σ H s) (k:∀ b o,b≠it->s.heap.get? b=some o->h'.get? b=some o) (hn:H it=none) (hL:it≠X.env.locals)
  (h1:it∈X.ex∨X.s₀.heap.objs.size≤it) (h2:∀ x c,X.env.cells.lookup x=some c->c≠it) (h3:∀ p∈X.pn++pins,p.1≠it):Inv X pins σ H { s with heap:=h',toks:=t' }:=by
 have nit:∀ b u,H b=some u->b≠it:=λb u e z=>by rw [z,hn] at e;cases e
 refine I.step (g':=s.gens) (d':=s.drawn) (ch:=[it]) (λb hb=>?_) (λb o _ _ hc e _=>k b o (λz=>hc (by simp [z])) e) (λb o _ _ hc e _=>⟨o.slots,k b o (λz=>hc (by simp [z])) e⟩) (λ_ _ _ _ n=>n)
  (λb o hc e=>⟨o,k b o (λz=>hc (by simp [z])) e⟩) (λ_ _ e=>e) (λ_ _ _ e=>e) (λb ps e=>⟨#[],by rw [e];simp⟩) (λm hm=>?_) (λb u e=>?_) I.bare
 ·have e:b=it:=by simpa using hb
  subst e
  exact ⟨h1,hL,h2,h3⟩
 ·obtain ⟨o,es,ep,ho,r⟩:=hm
  exact ⟨o,es,ep,k _ o (Ne.symm hL) ho,r⟩
 ·refine ((I.hok b u e)).stay (λc v hc q=>k c v ?_ q) (λ_ q=>q) λ_ _ q=>q
  rcases hc with z | z
  ·rw [z];exact nit b u e
  ·exact nit c _ z
theorem Inv.tok (I:Inv X pins σ H s) (t:Nat):Inv X pins σ H { s with toks:=t }:=I.un (h':=s.heap) (t':=t) Un.refl I.hok
theorem Inv.kept {t':Nat} (I:Inv X pins σ H s) (k:∀ b u,s.heap.get? b=some u->h'.get? b=some u):Inv X pins σ H { s with heap:=h',toks:=t' }:=I.un (Un.kept k) (I.hok.kept k)
theorem Inv.laid {a:Addr} {o:HO} {t':Nat} (I:Inv X pins σ H s) (k:∀ b u,s.heap.get? b=some u->h'.get? b=some u) (hp:s.heap.objs.size≤a) (new:zbs X.prog X.w (upd H a o) h' a o) :
  Inv X pins σ (upd H a o) { s with heap:=h',toks:=t' }:=I.un (Un.laid k hp (I.hok.fresh hp)) (I.hok.laid k hp new)
theorem Inv.write {x e:Addr} {o:HO} {t':Nat} (I:Inv X pins σ H s) (mu:Mut (H x)) (he:e=x∨H e=some (.own x)) (k:∀ b u,b≠e->s.heap.get? b=some u->h'.get? b=some u) (heo:∃ u,h'.get? e=some u)
  (new:zbs X.prog X.w (upd H x o) h' x o):Inv X pins σ (upd H x o) { s with heap:=h',toks:=t' }:=I.un (Un.write mu he k heo) (I.hok.write mu he k heo new)
theorem Inv.pins_of {pins':List (Addr×Obj)} (I:Inv X pins σ H s) (h:∀ p∈pins',s.heap.get? p.1=some p.2∧H p.1=none∧p.1≠X.env.locals∧p.1 ∉ X.fs∧∀ v,p.2.data≠.cell v):Inv X pins' σ H s :=
 ⟨I.ok,I.os,I.bare,I.base,I.loc,I.cell,I.free,I.freeC,λp hp=>(List.mem_append.mp hp).elim (λz=>I.pin p (List.mem_append_left _ z)) (h p),I.hok,I.len⟩
theorem zef {N:List Str} (hN:N.Nodup) {i j:Nat} {x:Str} (a:N[i]?=some x) (b:N[j]?=some x):i=j:=by
 obtain ⟨h1,e1⟩:=List.getElem?_eq_some_iff.mp a
 obtain ⟨h2,e2⟩:=List.getElem?_eq_some_iff.mp b
 exact (List.getElem_inj hN).mp (e1.trans e2.symm)
theorem zeB {M:Model} {A:Around} {E:Value->Shared->Prop} {i:Nat} {x:Str} {v:V} {u:Value} {Q:Unit->Shared->Prop} (I:Inv X pins σ H s) (hN:X.N.Nodup) (hi:X.N[i]?=some x) (hx:Loc X.env.scope x) (r:zbM v u)
  (h:∀ s',Inv X pins (σ.set i (some v)) H s'->(∃ a,Heap.SameBut a s.heap s'.heap∧(a=X.env.locals∨X.env.cells.lookup x=some a))->Q () s') (hf:X.fn x=true∨X.env.scope.names.lookup x=some .local:=by first | exact .inl rfl | exact .inr rfl | assumption):wpAny M A (storeName X.env x u) Q E s:=by
 obtain ⟨m,hn,hl⟩:=id I.loc
 have hcls:(X.env.scope.kind== .class||(X.env.scope.kind== .module && X.env.locals !=X.env.globals))=false:=by rw [I.ok.kind];rfl
 have hiσ:i<σ.length:=by rw [I.len];exact (List.getElem?_eq_some_iff.mp hi).1
 have cne:=I.cne
 have tracked:∀ {a:Addr} {h':Heap},(∃ o,s.heap.get? a=some o∧H a=none)->Heap.SameBut a s.heap h'->HOk X.prog X.w H h':=λ{a h'} ha hs b ob e=>by
  obtain ⟨_,_,hfree⟩:=ha
  refine (I.hok b ob e).stay (λc w' hc q=>(hs.2 c ?_).trans q) (λ_ q=>q) λ_ _ q=>q
  rintro rfl
  rcases hc with rfl | hc
  ·rw [hfree] at e;cases e
  ·rw [hfree] at hc;cases hc
 rcases hx with hk | hk
 ·refine wpAny_storeName_local hk hn (λh' hn' hs=>?_) hcls
  obtain ⟨oL,_,_,hoL,_⟩:=id hn
  refine h _ ⟨I.ok,I.os,I.bare,⟨λb o e n hb hx=>?_,λb o e n hb hx=>?_,I.base.free,λb o e hx=>?_,I.base.tups,I.base.frzs,I.base.tbls⟩,⟨_,hn',λj y v' e1 e2 e3=>?_⟩,λy c e=>?_,I.free,I.freeC,λp hp=>?_,tracked ⟨oL,hoL,I.free⟩ hs,by simpa using I.len⟩ ⟨_,hs,.inl rfl⟩
  ·exact ((hs.2 b (Nat.ne_of_lt (Nat.lt_of_lt_of_le (Heap.lt_size e) I.ok.above)))).trans (I.base.keep b o e n hb hx)
  ·obtain ⟨sl,e1⟩:=I.base.slot b o e n hb hx
   exact ⟨sl,((hs.2 b (Nat.ne_of_lt (Nat.lt_of_lt_of_le (Heap.lt_size e) I.ok.above)))).trans e1⟩
  ·obtain ⟨o',e1⟩:=I.base.there b o e hx
   exact ⟨o',((hs.2 b (Nat.ne_of_lt (Nat.lt_of_lt_of_le (Heap.lt_size e) I.ok.above)))).trans e1⟩
  ·by_cases hj:j=i
   ·subst hj
    rw [hi] at e1;cases e1
    rw [List.getElem?_set_self hiσ] at e2
    cases e2
    exact ⟨u,r,.inl ⟨hk,by simp⟩⟩
   ·rw [List.getElem?_set_ne (Ne.symm hj)] at e2
    obtain ⟨u',r',q⟩:=hl j y v' e1 e2 e3
    refine ⟨u',r',?_⟩
    rcases q with ⟨k,e⟩ | ⟨k,c,e,z⟩
    ·refine .inl ⟨k,?_⟩
     have:y≠x:=λe=>hj (zef hN e1 (e ▸ hi))
     simp [this,e]
    ·exact .inr ⟨k,c,e,z.sameBut hs (cne y c e)⟩
  ·obtain ⟨w',z⟩:=I.cell y c e
   exact ⟨w',z.sameBut hs (cne y c e)⟩
  ·obtain ⟨e,n,ne,nf,d⟩:=I.pin p hp
   exact ⟨(hs.2 p.1 ne).trans e,n,ne,nf,d⟩
 ·have hfn:X.fn x=true:=by
   rcases hf with z | z
   ·exact z
   ·rw [z] at hk;cases hk
  obtain ⟨c,hc⟩:=I.ok.has x (.inl hk)
  obtain ⟨w',z⟩:=I.cell x c hc
  refine wpAny_storeName_cell I.ok.kind hk hc z (λh' hc' hs=>?_)
  obtain ⟨oc,hoc,hocd⟩:=id z
  refine h { s with heap:=h' } ⟨I.ok,I.os,I.bare,⟨λb o e n hb hx=>?_,λb o e n hb hx=>?_,I.base.free,λb o e hx=>?_,I.base.tups,I.base.frzs,I.base.tbls⟩,⟨m,hn.sameBut hs (Ne.symm (cne x c hc)),λj y v' e1 e2 e3=>?_⟩,λy c' e=>?_,I.free,I.freeC,λp hp=>?_,tracked ⟨oc,hoc,I.freeC x c hc⟩ hs,by simpa using I.len⟩ ⟨c,hs,.inr hc⟩
  ·exact ((hs.2 b (Nat.ne_of_lt (Nat.lt_of_lt_of_le (Heap.lt_size e) (I.ok.cab x c hfn hc))))).trans (I.base.keep b o e n hb hx)
  ·obtain ⟨sl,e1⟩:=I.base.slot b o e n hb hx
   exact ⟨sl,((hs.2 b (Nat.ne_of_lt (Nat.lt_of_lt_of_le (Heap.lt_size e) (I.ok.cab x c hfn hc))))).trans e1⟩
  ·obtain ⟨o',e1⟩:=I.base.there b o e hx
   exact ⟨o',((hs.2 b (Nat.ne_of_lt (Nat.lt_of_lt_of_le (Heap.lt_size e) (I.ok.cab x c hfn hc))))).trans e1⟩
  ·by_cases hj:j=i
   ·subst hj
    rw [hi] at e1;cases e1
    rw [List.getElem?_set_self hiσ] at e2
    cases e2
    exact ⟨u,r,.inr ⟨.inl hk,c,hc,hc'⟩⟩
   ·rw [List.getElem?_set_ne (Ne.symm hj)] at e2
    obtain ⟨u',r',q⟩:=hl j y v' e1 e2 e3
    refine ⟨u',r',?_⟩
    rcases q with q | ⟨k,c',e,z'⟩
    ·exact .inl q
    ·refine .inr ⟨k,c',e,z'.sameBut hs ?_⟩
     rintro rfl
     exact hj (zef hN e1 (I.ok.inj _ _ _ e hc ▸ hi))
  ·by_cases hcc:c'=c
   ·subst hcc;exact ⟨_,hc'⟩
   ·obtain ⟨w2,z2⟩:=I.cell y c' e
    exact ⟨w2,z2.sameBut hs hcc⟩
  ·obtain ⟨e,n,ne,nf,d⟩:=I.pin p hp
   refine ⟨(hs.2 p.1 ?_).trans e,n,ne,nf,d⟩
   intro q
   rw [q,hoc] at e
   have q':oc=p.2:=Option.some.inj e
   exact d w' (by rw [← q'];exact hocd)
theorem zcL {M:Model} {A:Around} {E:Value->Shared->Prop} {i:Nat} {x:Str} {v:V} {u:Value} {Q:Unit->Shared->Prop} (I:Inv X pins σ H s) (hN:X.N.Nodup) (hi:X.N[i]?=some x) (hx:Loc X.env.scope x) (r:zbM v u)
  (h:∀ s',Inv X pins (σ.set i (some v)) H s'->Q () s') (hf:X.fn x=true∨X.env.scope.names.lookup x=some .local:=by first | exact .inl rfl | exact .inr rfl | assumption):wpAny M A (storeName X.env x u) Q E s :=
 zeB I hN hi hx r (λs' I' _=>h s' I') hf
theorem Inv.call' {s':Shared} {ch:List Addr} (I:Inv X pins σ H s) (ho:s'.os=s.os) (u:Un (frs X.stack) ch H H' s.heap s'.heap) (hok:HOk X.prog X.w H' s'.heap) (hg:AllBare s'.gens)
  (hch:∀ b∈ch,(b∈X.ex∨X.s₀.heap.objs.size≤b)∧b≠X.env.locals∧(∀x c,X.env.cells.lookup x=some c->c≠b)∧∀ p∈X.pn++pins,p.1≠b):Inv X pins σ H' s':=by
 obtain ⟨h',g',d',t',o'⟩:=s'
 have e:o'=s.os:=ho
 subst e
 exact I.call (g':=g') (t':=t') (d':=d') u hok hg hch
end
abbrev XK:=Value->Option Addr->Hp->Prop
abbrev St:=List (Option V)
abbrev VK:=V->Hp->Prop
abbrev TE:=St->Hp->VK->Prop
abbrev TT:=St->Hp->(Bool->Hp->Prop)->Prop
abbrev TA:=St->Hp->(List V->Hp->Prop)->Prop
structure Ends where
 nx:St->Hp->Prop
 rt:VK
 bk:St->Hp->Prop:=λ_ _=>False
 ct:St->Hp->Prop:=λ_ _=>False
abbrev TS:=Ends->St->Hp->Prop
def EP (X:Cx) (pins:List (Addr×Obj)) (σ:St) (Q:VK) (u:Value) (s':Shared):Prop:=∃ v H',Inv X pins σ H' s'∧zbM v u∧Q v H'
def TP (X:Cx) (pins:List (Addr×Obj)) (σ:St) (Q:Bool->Hp->Prop) (b:Bool) (s':Shared):Prop:=∃ H',Inv X pins σ H' s'∧Q b H'
def AP (X:Cx) (pins:List (Addr×Obj)) (σ:St) (Q:List V->Hp->Prop) (us:List Value) (s':Shared):Prop:=∃ vs H',Inv X pins σ H' s'∧zbl vs us∧Q vs H'
def SP (X:Cx) (pins:List (Addr×Obj)) (D:Ends) (f:Flow) (s':Shared):Prop :=
 match f with
 | .next=>∃ σ' H',Inv X pins σ' H' s'∧D.nx σ' H'
 | .brk=>∃ σ' H',Inv X pins σ' H' s'∧D.bk σ' H'
 | .cont=>∃ σ' H',Inv X pins σ' H' s'∧D.ct σ' H'
 | .ret u=>∃ v σ' H',Inv X pins σ' H' s'∧zbM v u∧D.rt v H'
def PE (X:Cx) (e:Expr) (t:TE):Prop :=
 ∀ (pins:List (Addr×Obj)) (s:Shared) (σ:St) (H:Hp) (Q:VK),Inv X pins σ H s->t σ H Q->wpAny (model X.prog X.w) X.A (eval e X.env) (EP X pins σ Q) X.xe s
def PT (X:Cx) (e:Expr) (t:TT):Prop :=
 ∀ (pins:List (Addr×Obj)) (s:Shared) (σ:St) (H:Hp) (Q:Bool->Hp->Prop),Inv X pins σ H s->t σ H Q->wpAny (model X.prog X.w) X.A (isTrue e X.env (eval e X.env)) (TP X pins σ Q) X.xe s
def PW (X:Cx) (e:Expr) (t:TT):Prop :=
 ∀ (whole:Sem Value) (pins:List (Addr×Obj)) (s:Shared) (σ:St) (H:Hp) (Q:Bool->Hp->Prop),Inv X pins σ H s->t σ H Q->wpAny (model X.prog X.w) X.A (isTrue e X.env whole) (TP X pins σ Q) X.xe s
theorem PW.pt {X:Cx} {e:Expr} {t:TT} (h:PW X e t):PT X e t:=h _
def PA (X:Cx) (es:List Expr) (t:TA):Prop :=
 ∀ (pos:Pos) (pins:List (Addr×Obj)) (s:Shared) (σ:St) (H:Hp) (Q:List V->Hp->Prop),Inv X pins σ H s->t σ H Q->wpAny (model X.prog X.w) X.A (spliced (backTo pos (starEach es X.env))) (AP X pins σ Q) X.xe s
def PS (X:Cx) (st:Stmt) (t:TS):Prop :=
 ∀ (pins:List (Addr×Obj)) (s:Shared) (σ:St) (H:Hp) (D:Ends),Inv X pins σ H s->t D σ H->wpAny (model X.prog X.w) X.A (exec st X.env) (SP X pins D) X.xe s
def PSs (X:Cx) (st:List Stmt) (t:TS):Prop :=
 ∀ (pins:List (Addr×Obj)) (s:Shared) (σ:St) (H:Hp) (D:Ends),Inv X pins σ H s->t D σ H->wpAny (model X.prog X.w) X.A (execs st X.env) (SP X pins D) X.xe s
theorem thn {α:Type} {t:Sem α} {Q Q':α->Shared->Prop} {M:Model} {A:Around} {E:Value->Shared->Prop} {s:Shared} (h:wpAny M A t Q E s) (hQ:∀ a s,Q a s->Q' a s):wpAny M A t Q' E s:=wpAny_mono h hQ λ_ _ x=>x
end L2
namespace L2
open PySem PySem.Spec PyProof.Rows
section
variable {X:Cx}
theorem bin {a b:Expr} {ta tb:TE} (ha:PE X a ta) (hb:PE X b tb) {pins:List (Addr×Obj)} {s:Shared} {σ:St} {H:Hp} {R:V->V->Hp->Prop} (I:Inv X pins σ H s) (h:ta σ H λx H1=>tb σ H1 λy H2=>R x y H2)
  {α:Type} {Q:α->Shared->Prop} {f:Value->Value->Sem α}
  (hf:∀ v u s2 x y H2,Inv X pins σ H2 s2->zbM x v->zbM y u->R x y H2->wpAny (model X.prog X.w) X.A (f v u) Q X.xe s2) :
  wpAny (model X.prog X.w) X.A (eval a X.env) (λv s₁=>wpAny (model X.prog X.w) X.A (eval b X.env) (λu s₂=>wpAny (model X.prog X.w) X.A (f v u) Q X.xe s₂) X.xe s₁) X.xe s:=by
 refine thn (ha pins s σ H _ I h) λv s1 ⟨x,H1,I1,r1,q1⟩=>?_
 refine thn (hb pins s1 σ H1 _ I1 q1) λu s2 ⟨y,H2,I2,r2,q2⟩=>?_
 exact hf v u s2 x y H2 I2 r1 r2 q2
def ze8 (i:Nat):TE:=λσ H Q=>∃ v,σ[i]?=some (some v)∧Q v H
def tC (v:V):TE:=λ_ H Q=>Q v H
theorem zfo {i:Nat} {x:Str} {pos:Pos} (hN:X.N[i]?=some x) (hv:Vis X.env.scope x) (hd:(x==("__debug__" :Str))=false:=by decide) (hcd:(x == ("__classdict__" :Str))=false:=by decide):PE X (.Name x pos) (ze8 i):=by
 intro pins s σ H Q I h
 obtain ⟨v,e,h⟩:=h
 obtain ⟨m,hn,hl⟩:=I.loc
 obtain ⟨u,r,l⟩:=hl i x v hN e hv
 have fin:EP X pins σ Q u s:=⟨v,H,I,r,h⟩
 rcases l with ⟨hk,hm⟩ | ⟨hk,c,hc,hcell⟩
 ·exact wpAny_Name (wpAny_loadName_local I.ok.kind hk hn hm fin) hd
 ·rcases hk with hk | hk
  ·exact wpAny_Name (wpAny_loadName_cell I.ok.kind hk hc hcell fin) hd
  ·exact wpAny_Name (wpAny_loadName_free I.ok.kind hk hc hcell fin hcd) hd
theorem zae {i j pos}:PE X (.Constant (.int i) j pos) (tC (.int i)):=λ_ _ _ H _ I h=>wpAny_Constant_int ⟨.int i,H,I.tok _,⟨_,rfl⟩,h⟩
theorem zeW {b j pos}:PE X (.Constant (.bool b) j pos) (tC (.bl b)):=λ_ _ _ H _ I h=>Constant_bool ⟨.bl b,H,I,rfl,h⟩
theorem zgK {j pos}:PE X (.Constant .none j pos) (tC .non):=λ_ _ _ H _ I h=>Constant_none ⟨.non,H,I,rfl,h⟩
theorem za7 {x j pos}:PE X (.Constant (.str x) j pos) (tC (.str x)):=λ_ _ _ H _ I h=>Calls.Constant_str ⟨.str x,H,I.tok _,⟨_,rfl⟩,h⟩
def Gl (X:Cx) (x:Str):Prop:=X.env.kindOf x=some .globalImplicit
theorem zcH {E:Value->Shared->Prop} {pins:List (Addr×Obj)} {s:Shared} {σ:St} {H:Hp} {x:Str} {u:Value} {pos:Pos} {Q:Value->Shared->Prop} (I:Inv X pins σ H s) (hg:Gl X x) (hm:X.mg x=some u) (h:Q u s)
  (hd:(x==("__debug__" :Str))=false:=by decide):wpAny (model X.prog X.w) X.A (eval (.Name x pos) X.env) Q E s :=
 Calls.Name_function_global I.ok.kind hg (Calls.loadGlobal_global (by rw [I.ok.glob];exact I.mod.glob.keeps I.bk) hm h) hd
theorem zdW {E:Value->Shared->Prop} {pins:List (Addr×Obj)} {s:Shared} {σ:St} {H:Hp} {x:Str} {u:Value} {pos:Pos} {Q:Value->Shared->Prop} (I:Inv X pins σ H s) (hg:Gl X x) (hm:X.mg x=none) (hv:bootBuiltins x=some u) (h:Q u s)
  (hn:x≠"__name__":=by decide) (hd:(x==("__debug__" :Str))=false:=by decide):wpAny (model X.prog X.w) X.A (eval (.Name x pos) X.env) Q E s:=by
 obtain ⟨mb,h1,h2⟩:=I.mod.blt
 exact Calls.Name_function_global I.ok.kind hg (Calls.loadGlobal_builtin (by rw [I.ok.glob];exact I.mod.glob.keeps I.bk) hm (by rw [I.ok.blt];exact h1.keeps I.bk) ((h2 x hn).trans hv) h) hd
theorem zaN {x:Str} {v:V} {u:Value} {pos:Pos} (hg:Gl X x) (hm:X.mg x=some u) (r:zbM v u) (hd:(x==("__debug__" :Str))=false:=by decide):PE X (.Name x pos) (tC v) :=
 λ_ _ _ H _ I h=>zcH I hg hm ⟨v,H,I,r,h⟩ hd
theorem zdy {x:Str} {v:V} {u:Value} {pos:Pos} (hg:Gl X x) (hm:X.mg x=none) (hv:bootBuiltins x=some u) (r:zbM v u) (hn:x≠"__name__":=by decide) (hd:(x==("__debug__" :Str))=false:=by decide):PE X (.Name x pos) (tC v) :=
 λ_ _ _ H _ I h=>zdW I hg hm hv ⟨v,H,I,r,h⟩ hn hd
variable {a b:Expr} {ta tb:TE} {pos:Pos}
def PC (X:Cx) (op:CmpOp) (a b:Expr) (t:TE):Prop :=
 ∀ (pins:List (Addr×Obj)) (s:Shared) (σ:St) (H:Hp) (Q:VK),Inv X pins σ H s->t σ H Q →
  wpAny (model X.prog X.w) X.A (eval a X.env) (λv s₁=>wpAny (model X.prog X.w) X.A (eval b X.env) (λu s₂=>wpAny (model X.prog X.w) X.A (compareOp op v u) (EP X pins σ Q) X.xe s₂) X.xe s₁) X.xe s
theorem zhz (b:Expr) {op:CmpOp} (h:op≠.In) (h2:op≠.NotIn):behindInMarks op b=false:=by
 have e1:(op == CmpOp.In)=false:=by cases op<;>first | rfl | exact absurd rfl h
 have e2:(op == CmpOp.NotIn)=false:=by cases op<;>first | rfl | exact absurd rfl h2
 cases b<;>simp [behindInMarks,e1,e2]
def tB (t:TE):TT:=λσ H Q=>t σ H λx H1=>∃ c,x=.bl c∧Q c H1
theorem zlg {op:CmpOp} {t:TE} (h:PC X op a b t) (h1:behindInMarks op b=false:=by first | exact zhz _ (by decide) (by decide) | rfl):PT X (.Compare a [op] [b] pos) (tB t):=by
 intro pins s σ H Q I hw
 refine wpAny_isTrue_Compare1 (thn (h pins s σ H _ I hw) λv s1 h1=>thn h1 λu s2 h2=>thn h2 λc s3 ⟨x,H1,I1,r1,q1⟩=>?_) h1
 obtain ⟨d,rfl,q⟩:=q1
 cases r1
 exact wpAny_truthy_bool ⟨H1,I1,q⟩
theorem zdm {e:Expr} {t:TE} (h:PE X e t) (he:∀ whole,isTrue e X.env whole=(do let v ← whole;standAt e.pos;holding [v] (truthy v)):=by intro _;rfl):PT X e (tB t):=by
 intro pins s σ H Q I hw
 refine isTrue_plain (thn (h pins s σ H _ I hw) λv s1 ⟨x,H1,I1,r1,q1⟩=>?_) (he _)
 obtain ⟨d,rfl,q⟩:=q1
 cases r1
 exact wpAny_truthy_bool ⟨H1,I1,q⟩
variable {tA tB':TT} {rest:List Expr}
def zld (t u:TT):TT:=λσ H Q=>t σ H λc H1=>if c=true then u σ H1 Q else Q false H1
def tOr (t u:TT):TT:=λσ H Q=>t σ H λc H1=>if c=true then Q true H1 else u σ H1 Q
def zll (t:TT):TT:=λσ H Q=>t σ H λc H1=>Q (!c) H1
theorem zgD (ha:PT X a tA):PW X (.BoolOp .And [a] pos) tA:=by
 intro wh pins s σ H Q I h
 refine isTrue_and (thn (ha pins s σ H Q I h) λc s1 e=> ?_)
 cases c with
 | true=>exact isTrue_and_nil e
 | false=>exact e
theorem zdS (ha:PT X a tA):PW X (.BoolOp .Or [a] pos) tA:=by
 intro wh pins s σ H Q I h
 refine isTrue_or (thn (ha pins s σ H Q I h) λc s1 e=> ?_)
 cases c with
 | false=>exact isTrue_or_nil e
 | true=>exact e
theorem zin (ha:PT X a tA) (hb:PW X (.BoolOp .And (b :: rest) pos) tB'):PW X (.BoolOp .And (a::b::rest) pos) (zld tA tB'):=by
 intro wh pins s σ H Q I h
 refine isTrue_and (thn (ha pins s σ H _ I h) λc s1 ⟨H1,I1,q1⟩=> ?_)
 cases c with
 | true=>exact hb wh pins s1 σ H1 Q I1 q1
 | false=>exact ⟨H1,I1,q1⟩
theorem zff (ha:PT X a tA) (hb:PW X (.BoolOp .Or (b :: rest) pos) tB'):PW X (.BoolOp .Or (a::b::rest) pos) (tOr tA tB'):=by
 intro wh pins s σ H Q I h
 refine isTrue_or (thn (ha pins s σ H _ I h) λc s1 ⟨H1,I1,q1⟩=> ?_)
 cases c with
 | true=>exact ⟨H1,I1,q1⟩
 | false=>exact hb wh pins s1 σ H1 Q I1 q1
theorem zdC (ha:PT X a tA):PT X (.UnaryOp .Not a pos) (zll tA):=by
 intro pins s σ H Q I h
 exact isTrue_not (ha pins s σ H (λc H1=>Q (!c) H1) I h)
def zj7 (ta tb:TE):TE:=λσ H Q=>ta σ H λx H1=>∃ c,x=.bl c∧if c=true then tb σ H1 Q else Q (.bl false) H1
def zlf (ta tb:TE):TE:=λσ H Q=>ta σ H λx H1=>∃ c,x=.bl c∧if c=true then Q (.bl true) H1 else tb σ H1 Q
def zjo (ta:TE):TE:=λσ H Q=>ta σ H λx H1=>∃ c,x=.bl c∧Q (.bl (!c)) H1
theorem zex {op} {t:TE} (h:PE X a t):PE X (.BoolOp op [a] pos) t:=λpins s σ H Q I hw=>BoolOp_one (h pins s σ H Q I hw)
theorem zfB (ha:PE X a ta) (hb:PE X (.BoolOp .And (b :: rest) pos) tb):PE X (.BoolOp .And (a::b::rest) pos) (zj7 ta tb):=by
 intro pins s σ H Q I h
 refine BoolOp_and (thn (ha pins s σ H _ I h) λv s1 ⟨x,H1,I1,r1,q1⟩=> ?_)
 obtain ⟨c,rfl,q1⟩:=q1
 cases r1
 refine wpAny_truthy_bool ?_
 cases c with
 | true=>exact hb pins s1 σ H1 Q I1 q1
 | false=>exact ⟨.bl false,H1,I1,rfl,q1⟩
theorem zlb (ha:PE X a ta) (hb:PE X (.BoolOp .Or (b :: rest) pos) tb):PE X (.BoolOp .Or (a::b::rest) pos) (zlf ta tb):=by
 intro pins s σ H Q I h
 refine BoolOp_or (thn (ha pins s σ H _ I h) λv s1 ⟨x,H1,I1,r1,q1⟩=> ?_)
 obtain ⟨c,rfl,q1⟩:=q1
 cases r1
 refine wpAny_truthy_bool ?_
 cases c with
 | false=>exact hb pins s1 σ H1 Q I1 q1
 | true=>exact ⟨.bl true,H1,I1,rfl,q1⟩
theorem zjk (ha:PE X a ta):PE X (.UnaryOp .Not a pos) (zjo ta):=by
 intro pins s σ H Q I h
 refine UnaryOp_ (thn (ha pins s σ H _ I h) λv s1 ⟨x,H1,I1,r1,q1⟩=> ?_)
 obtain ⟨c,rfl,q1⟩:=q1
 cases r1
 exact not_of (wpAny_truthy_bool ⟨.bl (!c),H1,I1,rfl,q1⟩)
end
end L2
namespace L2
open PySem PySem.Spec PyProof.Rows
def SqL (K:W.Frag) (H:Hp) (a:Addr) (xs:List V):Prop :=
 Rd H a (.lst xs) ∨
  ∃ (o:Obj) (its:Array Value) (n:Nat),K.lookup a=some o∧o.cls=.type "list"∧o.dict=none∧o.data=.seq its n∧its.size≤sizeLine∧zbl xs its.toList
def SqT (K:W.Frag) (H:Hp) (a:Addr) (xs:List V):Prop :=
 Rd H a (.tup xs) ∨
  ∃ (o:Obj) (its:Array Value) (n:Nat),K.lookup a=some o∧o.cls=.type "tuple"∧o.data=.seq its n∧its.size≤sizeLine∧zbl xs its.toList
def zlp:Value->Option V
 | .none=>some .non
 | .bool b=>some (.bl b)
 | .int i _=>some (.int i)
 | .str x _=>some (.str x)
 | .bytes b _=>some (.byt b)
 | .float b _=>some (.flt b)
 | .ref a=>some (.ref a)
 | .type n=>some (.ty n)
 | _=>none
theorem zbM.abs {x:V} {u:Value} (r:zbM x u):zlp u=some x:=by
 cases x with
 | non=>cases r;rfl
 | bl _=>cases r;rfl
 | int _=>obtain ⟨t,rfl⟩:=r;rfl
 | str _=>obtain ⟨t,rfl⟩:=r;rfl
 | byt _=>obtain ⟨t,rfl⟩:=r;rfl
 | flt _=>obtain ⟨t,rfl⟩:=r;rfl
 | ref _=>cases r;rfl
 | ty _=>cases r;rfl
theorem zbM.inj {x y:V} {u:Value} (r:zbM x u) (q:zbM y u):x=y:=Option.some.inj (r.abs.symm.trans q.abs)
theorem zbl.inj:∀ {xs ys:List V} {us:List Value},zbl xs us->zbl ys us->xs=ys
 | _,_,_,.nil,.nil=>rfl
 | _,_,_,.cons r t,.cons r' t'=>by rw [r.inj r',zbl.inj t t']
section
variable {X:Cx} {pins:List (Addr×Obj)} {σ:St} {H:Hp} {s:Shared} {a:Addr} {xs ys:List V}
theorem SqL.of {K:W.Frag} (h:H a=some (.lst xs)):SqL K H a xs:=.inl (.inl h)
theorem Inv.list (I:Inv X pins σ H s) (h:SqL X.K H a xs):∃ its:List Value,zbl xs its∧PlainL s.heap a its.toArray∧xs.length≤sizeLine:=by
 rcases h with h | ⟨o,its,n,hk,hc,hd,hs,hz,r⟩
 ·obtain ⟨z,its,n,r,e⟩:=h.ok I.hok
  exact ⟨its,r,⟨_,n,e,rfl,rfl,rfl⟩,z⟩
 ·refine ⟨its.toList,r,⟨o,n,I.kIn a o hk,hc,hd,by simpa using hs⟩,?_⟩
  have e:=r.length
  simp only [Array.length_toList] at e
  omega
theorem Inv.tuple (I:Inv X pins σ H s) (h:SqT X.K H a xs):∃ its:List Value,zbl xs its∧IsTup s.heap a its.toArray∧xs.length≤sizeLine:=by
 rcases h with h | ⟨o,its,n,hk,hc,hs,hz,r⟩
 ·obtain ⟨z,its,r,p⟩:=h.ok I.hok
  exact ⟨its,r,p,z⟩
 ·refine ⟨its.toList,r,⟨o,I.kIn a o hk,hc,n,by simpa using hs⟩,?_⟩
  have e:=r.length
  simp only [Array.length_toList] at e
  omega
theorem Inv.list_inj (I:Inv X pins σ H s) (h:SqL X.K H a xs) (h':SqL X.K H a ys):xs=ys:=by
 obtain ⟨its,r,⟨o,n,e,_,_,d⟩,_⟩:=I.list h
 obtain ⟨its',r',⟨o',n',e',_,_,d'⟩,_⟩:=I.list h'
 rw [e] at e';cases e'
 rw [d] at d'
 injection d' with d1 _
 have:its=its':=by simpa using congrArg Array.toList d1
 subst this
 exact r.inj r'
end
abbrev Cx.wish (X:Cx) (E:Value->Shared->Prop):Cx:={ X with xe:=E }
abbrev Cx.nox (X:Cx):Cx:=X.wish λ_ _=>False
theorem Cx.Ok.wish {X:Cx} (ok:X.Ok) (E:Value->Shared->Prop):(X.wish E).Ok :=
 ⟨ok.mod,ok.kind,ok.glob,ok.blt,ok.above,ok.inj,ok.has,ok.cab,ok.hd,ok.frames,ok.stk,ok.exf,ok.bs,ok.bsz,ok.noex,ok.exfs,ok.funs,ok.frf⟩
theorem Cx.Ok.unwish {X:Cx} {E:Value->Shared->Prop} (ok:(X.wish E).Ok):X.Ok :=
 ⟨ok.mod,ok.kind,ok.glob,ok.blt,ok.above,ok.inj,ok.has,ok.cab,ok.hd,ok.frames,ok.stk,ok.exf,ok.bs,ok.bsz,ok.noex,ok.exfs,ok.funs,ok.frf⟩
section
variable {X:Cx} {pins:List (Addr×Obj)} {σ:St} {H:Hp} {s:Shared} {E:Value->Shared->Prop}
theorem Inv.wish (I:Inv X pins σ H s) (E:Value->Shared->Prop):Inv (X.wish E) pins σ H s:=⟨I.ok.wish E,I.os,I.bare,I.base,I.loc,I.cell,I.free,I.freeC,I.pin,I.hok,I.len⟩
theorem Inv.unwish (I:Inv (X.wish E) pins σ H s):Inv X pins σ H s:=⟨I.ok.unwish,I.os,I.bare,I.base,I.loc,I.cell,I.free,I.freeC,I.pin,I.hok,I.len⟩
theorem SP.unwish {D:Ends} {f:Flow} {s':Shared} (h:SP (X.wish E) pins D f s'):SP X pins D f s':=by
 cases f with
 | next=>obtain ⟨σ',H',I,q⟩:=h;exact ⟨σ',H',I.unwish,q⟩
 | brk=>obtain ⟨σ',H',I,q⟩:=h;exact ⟨σ',H',I.unwish,q⟩
 | cont=>obtain ⟨σ',H',I,q⟩:=h;exact ⟨σ',H',I.unwish,q⟩
 | ret u=>obtain ⟨v,σ',H',I,r,q⟩:=h;exact ⟨v,σ',H',I.unwish,r,q⟩
end
section
variable {X:Cx} {st:Stmt} {rest:List Stmt} {t u:TS} {e:Expr} {te:TE} {pos:Pos}
def zgB:TS:=λD σ H=>D.nx σ H
def tSeq (t u:TS):TS:=λD σ H=>t { D with nx:=u D } σ H
theorem zag:PSs X [] zgB:=λ_ _ σ H _ I h=>wpAny_execs_nil ⟨σ,H,I,h⟩
theorem zac (h1:PS X st t) (h2:PSs X rest u):PSs X (st :: rest) (tSeq t u):=by
 intro pins s σ H D I h
 refine wpAny_execs_cons (thn (h1 pins s σ H { D with nx:=u D } I h) λf s1 q=>?_)
 cases f with
 | next =>
  obtain ⟨σ',H',I',q⟩:=q
  exact h2 pins s1 σ' H' D I' q
 | ret v=>exact q
 | brk=>exact q
 | cont=>exact q
theorem zg8 (h1:PS X st t):PSs X [st] t:=by
 intro pins s σ H D I h
 refine wpAny_execs_cons (thn (h1 pins s σ H D I h) λf s1 q=>?_)
 cases f with
 | next=>exact wpAny_execs_nil q
 | ret v=>exact q
 | brk=>exact q
 | cont=>exact q
theorem Inv.quiet {pins:List (Addr×Obj)} {σ:St} {H:Hp} {s:Shared} (I:Inv X pins σ H s):interactive X.env=false:=by simp [interactive,I.ok.kind]
def zeZ (te:TE):TS:=λD σ H=>te σ H λ_ H1=>D.nx σ H1
theorem zc2 (he:PE X e te) (hs:swapsWith e none pos.line X.env=pure false:=by rfl):PS X (.Expr e pos) (zeZ te):=by
 intro pins s σ H D I h
 exact wpAny_Expr_any (thn (he pins s σ H _ I h) λv s1 ⟨x,H1,I1,r1,q1⟩=>⟨σ,H1,I1,q1⟩) I.quiet hs
def zhR (te:TE):TS:=λD σ H=>te σ H D.rt
theorem zaL (he:PE X e te):PS X (.Return (some e) pos) (zhR te):=by
 intro pins s σ H D I h
 exact wpAny_Return_some (thn (he pins s σ H _ I h) λv s1 ⟨x,H1,I1,r1,q1⟩=>⟨x,σ,H1,I1,r1,q1⟩)
def zkF (c:TT) (t u:TS):TS:=λD σ H=>c σ H λb H1=>if b=true then t D σ H1 else u D σ H1
theorem zb4 {c:Expr} {a b:List Stmt} {tc:TT} (hc:PT X c tc) (ha:PSs X a t) (hb:PSs X b u):PS X (.If c a b pos) (zkF tc t u):=by
 intro pins s σ H D I h
 refine wpAny_If (thn (hc pins s σ H _ I h) λd s1 ⟨H1,I1,q1⟩=>?_)
 cases d with
 | true=>exact ha pins s1 σ H1 D I1 q1
 | false=>exact hb pins s1 σ H1 D I1 q1
end
abbrev TG:=V->St->Hp->(St->Hp->Prop)->Prop
abbrev TGs:=List V->St->Hp->(St->Hp->Prop)->Prop
def PG (X:Cx) (target:Expr) (t:TG):Prop :=
 ∀ (pins:List (Addr×Obj)) (s:Shared) (σ:St) (H:Hp) (v:V) (u:Value) (Q:St->Hp->Prop),Inv X pins σ H s->zbM v u->t v σ H Q →
  wpAny (model X.prog X.w) X.A (assign target X.env u) (λ_ s'=>∃σ' H',Inv X pins σ' H' s'∧Q σ' H') X.xe s
def PGs (X:Cx) (ts:List Expr) (t:TGs):Prop :=
 ∀ (pins:List (Addr×Obj)) (s:Shared) (σ:St) (H:Hp) (vs:List V) (us:List Value) (Q:St->Hp->Prop),Inv X pins σ H s->zbl vs us->t vs σ H Q →
  wpAny (model X.prog X.w) X.A (assignInOrder ((assignEach ts X.env).map (·.2)) us) (λ_ s'=>∃σ' H',Inv X pins σ' H' s'∧Q σ' H') X.xe s
section
variable {X:Cx} {pos:Pos}
def zcf (i:Nat):TG:=λv σ H Q=>Q (σ.set i (some v)) H
theorem zbC {i:Nat} {x:Str} (hN:X.N.Nodup) (hi:X.N[i]?=some x) (hx:Loc X.env.scope x) (hf:X.fn x=true∨X.env.scope.names.lookup x=some .local:=by first | exact .inl rfl | exact .inr rfl | assumption):PG X (.Name x pos) (zcf i):=by
 intro pins s σ H v u Q I r h
 exact wpAny_assign_Name (zcL I hN hi hx r (λs' I'=>⟨_,H,I',h⟩) hf)
def zk9:TGs:=λvs σ H Q=>vs=[]∧Q σ H
def zgS (t:TG) (u:TGs):TGs:=λvs σ H Q=>∃ v r,vs=v :: r∧t v σ H λσ' H'=>u r σ' H' Q
theorem zgX:PGs X [] zk9:=by
 intro pins s σ H vs us Q I r h
 obtain ⟨e,h⟩:=h
 subst e
 cases r
 exact assignInOrder_nil ⟨σ,H,I,h⟩
theorem zde {e:Expr} {es:List Expr} {t:TG} {u:TGs} (h1:PG X e t) (h2:PGs X es u)
  (hs:(assignEach (e::es) X.env).map (·.2)=assign e X.env :: ((assignEach es X.env)).map (·.2):=by rfl):PGs X (e::es) (zgS t u):=by
 intro pins s σ H vs us Q I r h
 obtain ⟨v,vr,e1,h⟩:=h
 subst e1
 cases r with
 | cons r rr =>
  rw [hs]
  refine assignInOrder_cons (thn (h1 pins s σ H _ _ _ I r h) λ_ s1 ⟨σ1,H1,I1,q1⟩=>?_)
  exact h2 pins s1 σ1 H1 _ _ Q I1 rr q1
def zkJ (K:W.Frag) (n:Nat) (t:TGs):TG:=λv σ H Q=>∃ a xs,v=.ref a∧SqT K H a xs∧xs.length=n∧t xs σ H Q
theorem zjP {es:List Expr} {k:Nat} {t:TGs} {n:Nat} (hc:X.calm=true) (h:PGs X es t)
  (hn:((assignEach es X.env)).length=n:=by rfl) (hst:((assignEach es X.env)).findIdx? (·.1)=none:=by rfl):PG X (.Tuple es k pos) (zkJ X.K n t):=by
 intro pins s σ H v u Q I r hw
 obtain ⟨a,xs,e1,hq,hl,hw⟩:=hw
 subst e1
 cases r
 obtain ⟨its,rv,ht,hz⟩:=I.tuple hq
 refine assign_Tuple_tuple (I.ok.hd hc) ht (by simp [hn,← hl,rv.length]) hst λh' hx=>?_
 have I1:Inv X pins σ H { s with heap:=h' }:=I.kept (t':=s.toks) λb o e=>hx b o (Nat.ne_of_lt (Heap.lt_size e)) e
 exact h pins _ σ H xs _ Q I1 (by simpa using rv) hw
def zig (te:TE) (g:TG):TS:=λD σ H=>te σ H λx H1=>g x σ H1 D.nx
theorem zaX {i:Nat} {x:Str} {e:Expr} {te:TE} {pos':Pos} (hN:X.N.Nodup) (hi:X.N[i]?=some x) (hx:Loc X.env.scope x) (he:PE X e te) (hs:swapsWith e (some (.Name x pos')) pos.line X.env=pure false:=by rfl) (hf:X.fn x=true∨X.env.scope.names.lookup x=some .local:=by first | exact .inl rfl | exact .inr rfl | assumption) :
  PS X (.Assign [.Name x pos'] e pos) (zig te (zcf i)):=by
 intro pins s σ H D I h
 refine wpAny_Assign_Name (thn (he pins s σ H _ I h) λv s1 ⟨y,H1,I1,r1,q1⟩=>?_) hs
 exact zcL I1 hN hi hx r1 (λs2 I2=>⟨_,H1,I2,q1⟩) hf
end
section
variable {X:Cx} {pos:Pos}
end
structure It where
 go:Nat->Hp->Prop
 yld:Nat->Hp->V->Hp->Prop
 stop:Nat->Hp->Prop
def zfm (X:Cx) (pins:List (Addr×Obj)) (H:Hp) (b:Addr):Prop :=
 H b=none∧b≠X.env.locals∧b ∉ X.fs∧(b∈X.ex∨X.s₀.heap.objs.size≤b)∧(∀x c,X.env.cells.lookup x=some c->c≠b)∧∀ p∈X.pn++pins,p.1≠b
theorem Inv.fpOk {X:Cx} {pins:List (Addr×Obj)} {σ:St} {H H':Hp} {s:Shared} {b:Addr} (I:Inv X pins σ H s) (hb:s.heap.objs.size≤b) (hn:H' b=none):zfm X pins H' b:=by
 refine ⟨hn,Nat.ne_of_gt (Nat.lt_of_lt_of_le I.lt hb),I.nofs hb,.inr (Nat.le_trans I.sz hb),λx c e z=>?_,λp hp z=>?_⟩
 ·obtain ⟨v,q⟩:=I.cell x c e
  exact absurd (Nat.lt_of_lt_of_le q.lt (by rw [z];exact hb)) (Nat.lt_irrefl _)
 ·exact absurd (Nat.lt_of_lt_of_le (Heap.lt_size (I.pin p hp).1) (by rw [z];exact hb)) (Nat.lt_irrefl _)
structure Turn (P:Program) (w:World) (K:W.Frag) (tg:Expr) (J:It) (fp:List Addr) (it:Addr) (tn:Nat->Heap->Prop):Prop where
 mem:it∈fp
 obj:∀ i h,tn i h->∀ b∈fp,∃ o,h.get? b=some o∧∀ v,o.data≠.cell v
 keep:∀ i h h',tn i h->(∀ b∈fp,∀ o,h.get? b=some o->h'.get? b=some o)->tn i h'
 item:∀ (X:Cx),X.prog=P->X.w=w->X.K=K->X.calm=true->∀ (i:Nat) (pins:List (Addr×Obj)) (s:Shared) (σ:St) (H:Hp) (E:Value->Shared->Prop),Inv X pins σ H s->(∀ b∈fp,zfm X pins H b)->tn i s.heap->J.go i H →
  wpAny (model P w) X.A (pyNext (.ref it)) (λr s1=>∃ u,r=some u ∧
   wpAny (model P w) X.A (letOwnedTupleGo tg (.ref it) u) (λ_ s2=>∃ x H',Inv X pins σ H' s2∧zbM x u∧J.yld i H x H'∧tn (i+1) s2.heap∧∀ b∈fp,H' b=none) E s1) E s
 done:∀ (X:Cx),X.prog=P->X.w=w->X.K=K->X.calm=true->∀ (i:Nat) (pins:List (Addr×Obj)) (s:Shared) (σ:St) (H:Hp) (E:Value->Shared->Prop),Inv X pins σ H s->(∀ b∈fp,zfm X pins H b)->tn i s.heap->J.stop i H →
  wpAny (model P w) X.A (pyNext (.ref it)) (λr s1=>r=none∧Inv X pins σ H s1) E s
 self:∀ (A:Around) (i:Nat) (s:Shared) (Q:Value->Shared->Prop) (E:Value->Shared->Prop),tn i s.heap->Q (.ref it) s->wpAny (model P w) A (pyIter (.ref it)) Q E s
abbrev TI:=St->Hp->(It->Hp->Prop)->Prop
def PIE (X:Cx) (pins:List (Addr×Obj)) (σ:St) (tg:Expr) (R:It->Hp->Prop) (itv:Value) (s2:Shared):Prop :=
 ∃ (it:Addr) (fp:List Addr) (tn:Nat->Heap->Prop) (J:It) (H':Hp),itv=.ref it∧Inv X pins σ H' s2∧Turn X.prog X.w X.K tg J fp it tn∧tn 0 s2.heap∧(∀ b∈fp,zfm X pins H' b)∧R J H'
def PI (X:Cx) (tg iter:Expr) (wi:TI):Prop :=
 ∀ (pins:List (Addr×Obj)) (s:Shared) (σ:St) (H:Hp) (R:It->Hp->Prop),Inv X pins σ H s->wi σ H R →
  wpAny (model X.prog X.w) X.A (eval iter X.env) (λv s1=>wpAny (model X.prog X.w) X.A (pyIter v) (PIE X pins σ tg R) X.xe s1) X.xe s
theorem zjB {M:Model} {A:Around} {E:Value->Shared->Prop} {s:Shared} {tg:Expr} {it:Addr} {u:Value} {o:Obj} {n:String} {vs:Array Value} {Q:Unit->Shared->Prop} (ho:s.heap.get? it=some o) (hc:o.cls=.type n) (hd:o.data=.fields vs)
  (hn:["enumerate","zip","dict_itemiterator","dict_reverseitemiterator","odict_iterator","itertools.zip_longest","itertools.pairwise"].contains n=false) (hQ:Q () s):wpAny M A (letOwnedTupleGo tg (.ref it) u) Q E s:=by
 unfold letOwnedTupleGo
 cases tg<;>first
  | exact wpAny_pure hQ
  | (cases u<;>first
    | exact wpAny_pure hQ
    | (refine wpAny_bind (wpAny_load ho ?_)
       rw [hc,hd]
       show wpAny M A (if (["enumerate","zip","dict_itemiterator","dict_reverseitemiterator","odict_iterator","itertools.zip_longest","itertools.pairwise"].contains n&&vs[0]? == some (rawInt _))=true then _ else _) Q E s
       rw [if_neg (by intro h;rw [hn,Bool.false_and] at h;cases h)]
       exact wpAny_pure hQ))
def Itl (K:W.Frag) (a:Addr):It :=
 ⟨λi H=>∃ xs x,SqL K H a xs∧xs[i]?=some x,λi H x H'=>H'=H∧∀ xs,SqL K H a xs->xs[i]?=some x,λi H=>∃ xs,SqL K H a xs∧xs.length≤i⟩
def Itr (lo:Int) (n:Nat):It:=⟨λi _=>i<n,λi H x H'=>H'=H∧x=.int (lo+i),λi _=>n≤i⟩
theorem zgd {P:Program} {w:World} {K:W.Frag} {tg:Expr} (a it:Addr):Turn P w K tg (Itl K a) [it] it (λi h=>h.IsListIter it a i) where
 mem:=by simp
 obj:=λi h st b hb=>by
  have e:b=it:=by simpa using hb
  subst e
  obtain ⟨o,e,c,d⟩:=st
  exact ⟨o,e,λv z=>by rw [d] at z;cases z⟩
 keep:=λi h h' st k=>st.at λo e=>k it (by simp) o e
 item:=by
  intro X hP hw hK hc i pins s σ H E I hf st hg
  subst hP hw hK
  obtain ⟨xs,x,hq,hx⟩:=hg
  obtain ⟨its,rv,p,hz⟩:=I.list hq
  obtain ⟨u,hu,ru⟩:=rv.get hx
  obtain ⟨f0,f1,f2,f3,f4,f5⟩:=hf it (by simp)
  refine wpAny_pyNext_list_item st p.isList (x:=u) (by simpa using hu) λh' st' sb=>?_
  have I1:Inv X pins σ H { s with heap:=h' }:=I.turned (t':=s.toks) (λb o hb e=>(sb.2 b hb).trans e) f0 f1 f3 f4 f5
  obtain ⟨o,e,c,d⟩:=id st'
  exact ⟨u,rfl,zjB (s:={ s with heap:=h' }) e c d (by decide) ⟨x,H,I1,ru,⟨rfl,λys hy=>by rw [I.list_inj hy hq];exact hx⟩,st',λb hb=>(hf b hb).1⟩⟩
 done:=by
  intro X hP hw hK hc i pins s σ H E I hf st hg
  subst hP hw hK
  obtain ⟨xs,hq,hx⟩:=hg
  obtain ⟨its,rv,p,hz⟩:=I.list hq
  obtain ⟨f0,f1,f2,f3,f4,f5⟩:=hf it (by simp)
  have hl:=rv.length
  exact wpAny_pyNext_list_end (I.ok.hd hc) st p.isList (by simp;omega) λh' eb=>⟨rfl,I.turned (t':=s.toks) (λb o hb e=>eb b o hb e) f0 f1 f3 f4 f5⟩
 self:=λ_ _ _ _ _ st h=>wpAny_pyIter_listiter st h
theorem zfQ {P:Program} {w:World} {K:W.Frag} {tg:Expr} (it:Addr) (lo:Int) (n:Nat):Turn P w K tg (Itr lo n) [it] it (λi h=>IsRangeIter h it (lo+(i:Nat)*1) ((n:Int)-(i:Nat)) 1) where
 mem:=by simp
 obj:=λi h st b hb=>by
  have e:b=it:=by simpa using hb
  subst e
  exact ⟨_,st,λv z=>by
   have z':Data.fields _=Data.cell v:=z
   cases z'⟩
 keep:=λi h h' st k=>k it (by simp) _ st
 item:=by
  intro X hP hw hK hc i pins s σ H E I hf st hg
  subst hP hw hK
  obtain ⟨f0,f1,f2,f3,f4,f5⟩:=hf it (by simp)
  have W:=Walks.range (prog:=X.prog) (w:=X.w) (I.ok.hd hc) it lo 1 n
  refine W.item i s _ _ hg st λv h' tk hv st' kk=>?_
  obtain ⟨t,rfl⟩:=hv
  have I1:Inv X pins σ H { s with heap:=h',toks:=tk }:=I.turned (λb o hb e=>kk b o (by simpa using hb) e) f0 f1 f3 f4 f5
  refine ⟨_,rfl,zjB (s:={ s with heap:=h',toks:=tk }) (n:="range_iterator") st' rfl rfl (by decide) ⟨.int (lo+i),H,I1,⟨t,?_⟩,⟨rfl,rfl⟩,st',λb hb=>(hf b hb).1⟩⟩
  rw [Int.mul_one]
 done:=by
  intro X hP hw hK hc i pins s σ H E I hf st hg
  subst hP hw hK
  obtain ⟨f0,f1,f2,f3,f4,f5⟩:=hf it (by simp)
  exact wpAny_pyNext_range_end (I.ok.hd hc) st (by have:n≤i:=hg;omega) λh' eb=>⟨rfl,I.turned (t':=s.toks) (λb o hb e=>eb b o hb e) f0 f1 f3 f4 f5⟩
 self:=λ_ _ _ _ _ st h=>wpAny_pyIter_rangeiter st h
end L2
namespace L2
open PySem PySem.Spec PyProof.Rows
section
variable {X:Cx} {tg:Expr}
def zhl (K:W.Frag) (tl:TE):TI:=λσ H R=>tl σ H λx H1=>∃ a,x=.ref a∧(∃xs,SqL K H1 a xs)∧R (Itl K a) H1
theorem ziP {l:Expr} {tl:TE} (hl:PE X l tl):PI X tg l (zhl X.K tl):=by
 intro pins s σ H R I h
 refine thn (hl pins s σ H _ I h) λv s1 ⟨x,H1,I1,r1,q1⟩=>?_
 obtain ⟨a,e,⟨xs,hq⟩,q⟩:=q1
 subst e
 cases r1
 obtain ⟨its,rv,p,hz⟩:=I1.list hq
 refine wpAny_pyIter_list p.isList ?_
 refine ⟨s1.heap.objs.size,[s1.heap.objs.size],_,_,H1,rfl,I1.kept (t':=s1.toks) λb o e=>Heap.get?_push_of_some _ e,zgd a _,⟨_,Heap.get?_push_size _ rfl,rfl,rfl⟩,λb hb=>?_,q⟩
 have e:b=s1.heap.objs.size:=by simpa using hb
 subst e
 exact I1.fpOk (Nat.le_refl _) (I1.hok.fresh (Nat.le_refl _))
theorem zhL {pins:List (Addr×Obj)} {σ:St} {H:Hp} {s:Shared} {R:It->Hp->Prop} {E:Value->Shared->Prop} {lo hi:Int} {t u v:Tok} {tk:Nat} (I:Inv X pins σ H s) (h1:-(2^62)≤lo) (h2:lo<2^62) (h3:-(2^62)≤hi) (h4:hi<2^62)
  (q:R (Itr lo (hi-lo).toNat) H):wpAny (model X.prog X.w) X.A (pyIter (.ref s.heap.objs.size)) (PIE X pins σ tg R) E { s with heap:=s.heap.push { cls:=.type "range",data:=.fields #[.int lo t,.int hi u,.int 1 v] },toks:=tk }:=by
 refine wpAny_pyIter_range (IsRange.new ..) (small_one h1 h2 h3 h4) ?_
 have I1:Inv X pins σ H { s with heap:=s.heap.push { cls:=.type "range",data:=.fields #[.int lo t,.int hi u,.int 1 v] },toks:=tk }:=I.kept λb o e=>Heap.get?_push_of_some _ e
 refine ⟨((s.heap.push {cls:= .type "range",data:= .fields #[.int lo t,.int hi u,.int 1 v]})).objs.size,[((s.heap.push {cls:= .type "range",data:= .fields #[.int lo t,.int hi u,.int 1 v]})).objs.size],_,_,H,rfl,
  I1.kept (t':=tk) λb o e=>Heap.get?_push_of_some _ e,zfQ _ lo (hi-lo).toNat,?_,λb hb=>?_,q⟩
 ·have e1:lo+((0:Nat):Int)*1=lo:=by simp
  have e2:(((hi-lo).toNat:Nat):Int)-((0:Nat):Int)=Builtin.Range.rangeSize lo hi 1:=by rw [rangeSize_one];split<;>omega
  show IsRangeIter _ _ (lo+((0:Nat):Int)*1) ((((hi-lo).toNat:Nat):Int)-((0:Nat):Int)) 1
  rw [e1,e2]
  exact Heap.get?_push_size _ rfl
 ·have e:b=((s.heap.push {cls:= .type "range",data:= .fields #[.int lo t,.int hi u,.int 1 v]})).objs.size:=by simpa using hb
  subst e
  exact I1.fpOk (Nat.le_refl _) (I1.hok.fresh (Nat.le_refl _))
def zjs (ta:TA):TI:=λσ H R=>ta σ H λvs H1=>∃ j:Int,vs=[.int j]∧-(2^62)≤j∧j<2^62∧R (Itr 0 j.toNat) H1
theorem zcW {a:Expr} {ta:TA} {p pos:Pos} (hg:Gl X "range") (hm:X.mg "range"=none) (ha:PA X [a] ta) (hs:starEach [a] X.env=[(false,eval a X.env)]:=by rfl):PI X tg (.Call (.Name "range" p) [a] [] pos) (zjs ta):=by
 intro pins s σ H R I h
 refine Call_ (zdW I hg hm boot_range (PyProof.Rows.callWith_type1 (thn (ha pos pins s σ H _ I h) λus s1 ⟨vs,H1,I1,r1,q1⟩=> ?_) hs rfl))
 obtain ⟨j,e,q1,q2,q⟩:=q1
 subst e
 cases r1 with
 | cons r rr =>
  cases rr
  obtain ⟨t,rfl⟩:=r
  exact call_range_1 (zhL I1 (by omega) (by omega) q1 q2 (by simpa using q))
def zik (wi:TI) (g:TG) (tb:TS):TS:=λD σ H=>wi σ H λJ H1=>∃ W:Nat->Nat->St->Hp->Prop,(∃ m,W 0 m σ H1)∧∀ i m σ H,W i m σ H →
 (J.stop i H∧D.nx σ H)∨(J.go i H∧∃ N:St->Hp->Prop,(∀ σ' H',N σ' H'->∃ m',m'<m∧W (i+1) m' σ' H')∧∀ x H',J.yld i H x H'->g x σ H' λσ2 H2=>tb { D with nx:=N,ct:=N,bk:=D.nx } σ2 H2)
def zdV (fp:List Addr) (h:Heap):List (Addr×Obj):=fp.filterMap λb=>(h.get? b).map λo=>(b,o)
theorem zbX {fp:List Addr} {h:Heap} {b:Addr} {o:Obj} (hb:b∈fp) (e:h.get? b=some o):(b,o)∈zdV fp h:=List.mem_filterMap.mpr ⟨b,hb,by rw [e];rfl⟩
theorem zgO {fp:List Addr} {h:Heap} {p:Addr×Obj} (hp:p∈zdV fp h):p.1∈fp∧h.get? p.1=some p.2:=by
 obtain ⟨b,hb,e⟩:=List.mem_filterMap.mp hp
 cases q:h.get? b with
 | none=>rw [q] at e;cases e
 | some o =>
  rw [q] at e
  have e':(b,o)=p:=Option.some.inj e
  subst e'
  exact ⟨hb,q⟩
theorem Inv.pinned {pins:List (Addr×Obj)} {σ:St} {H:Hp} {s:Shared} {fp:List Addr} (I:Inv X pins σ H s) (hf:∀ b∈fp,zfm X pins H b) (ho:∀ b∈fp,∃ o,s.heap.get? b=some o∧∀ v,o.data≠.cell v):Inv X (pins++zdV fp s.heap) σ H s :=
 I.pins_of λp hp=>(List.mem_append.mp hp).elim (λz=>I.pin p (List.mem_append_right _ z)) λz=>by
  obtain ⟨hb,e⟩:=zgO z
  obtain ⟨f0,f1,f2,_⟩:=hf p.1 hb
  obtain ⟨o,e',d⟩:=ho p.1 hb
  rw [e] at e';cases e'
  exact ⟨e,f0,f1,f2,d⟩
theorem Inv.unpinned {pins pl:List (Addr×Obj)} {σ:St} {H:Hp} {s:Shared} (I:Inv X (pins++pl) σ H s):Inv X pins σ H s:=I.pins_of λp hp=>I.pin p (List.mem_append_right _ (List.mem_append_left _ hp))
theorem zdP {iter:Expr} {body:List Stmt} {wi:TI} {g:TG} {tb:TS} {pos:Pos} (hp:PassesOwn (model X.prog X.w) X.A X.env X.xe) (hc:X.calm=true) (hi:PI X tg iter wi) (hg:PG X tg g) (hb:PSs X body tb)
  (hs:∀ x,foldedSetIterable iter X.env x=pure x:=by intro _;rfl):PS X (.For tg iter body [] pos) (zik wi g tb):=by
 intro pins s σ H D I h
 refine wpAny_For (thn (hi pins s σ H _ I h) λv s1 h1=>thn h1 λitv s2 h2=>?_) hs
 obtain ⟨it,fp,tn,J,H2,e,I2,T,st2,f2,W,⟨m0,w0⟩,turn⟩:=h2
 subst e
 have stat:∀ {H':Hp},(∀b∈fp,H' b=none)->∀ b∈fp,zfm X pins H' b:=λhn b hb=>⟨hn b hb,(f2 b hb).2⟩
 refine codeAny_forLoop_any (λn s'=>∃i σ' H',Inv X pins σ' H' s'∧tn i s'.heap∧(∀b∈fp,H' b=none)∧W i n σ' H') ?_ m0 ⟨0,σ,H2,I2,st2,λb hb=>(f2 b hb).1,w0⟩
 rintro n s3 ⟨i,σ3,H3,I3,st3,fr3,w3⟩
 rcases turn i n σ3 H3 w3 with ⟨stop,qn⟩ | ⟨go,N,hN,step⟩
 ·refine wpAny_passesOwn hp (thn (T.done X rfl rfl rfl hc i pins s3 σ3 H3 X.xe I3 (stat fr3) st3 stop) λr s4 ⟨hr,I4⟩=>?_)
  subst hr
  exact wpAny_execs_nil ⟨σ3,H3,I4,qn⟩
 ·refine wpAny_passesOwn hp (thn (T.item X rfl rfl rfl hc i pins s3 σ3 H3 X.xe I3 (stat fr3) st3 go) λr s4 ⟨u,hr,h4⟩=>?_)
  subst hr
  refine wpAny_passesOwn hp (thn h4 λ_ s5 ⟨x,H5,I5,r5,y5,st5,fr5⟩=> ?_)
  have I5':=I5.pinned (stat fr5) (T.obj _ _ st5)
  refine wpAny_passesOwn hp (thn (hg _ s5 σ3 H5 x u _ I5' r5 (step x H5 y5)) λ_ s6 ⟨σ6,H6,I6,q6⟩=>?_)
  refine wpAny_passesOwn hp (thn (hb _ s6 σ6 H6 _ I6 q6) λf s7 q7=>?_)
  have again:∀ {σ7:St} {H7:Hp},Inv X (pins++zdV fp s5.heap) σ7 H7 s7->N σ7 H7->∃ m,m<n∧∃ i σ' H',Inv X pins σ' H' s7∧tn i s7.heap∧(∀b∈fp,H' b=none)∧W i m σ' H':=λ{σ7 H7} I7 n7=>by
   obtain ⟨m',hm,w7⟩:=hN σ7 H7 n7
   refine ⟨m',hm,i+1,σ7,H7,I7.unpinned,T.keep _ _ _ st5 λb hb o e=>(I7.pin (b,o) (List.mem_append_right _ (List.mem_append_right _ (zbX hb e)))).1,λb hb=> ?_,w7⟩
   obtain ⟨o,e,d⟩:=T.obj _ _ st5 b hb
   exact (I7.pin (b,o) (List.mem_append_right _ (List.mem_append_right _ (zbX hb e)))).2.1
  cases f with
  | next=>obtain ⟨σ7,H7,I7,n7⟩:=q7;exact again I7 n7
  | cont=>obtain ⟨σ7,H7,I7,n7⟩:=q7;exact again I7 n7
  | brk=>obtain ⟨σ7,H7,I7,q7⟩:=q7;exact ⟨σ7,H7,I7.unpinned,q7⟩
  | ret v=>obtain ⟨x7,σ7,H7,I7,r7,q7⟩:=q7;exact ⟨x7,σ7,H7,I7.unpinned,r7,q7⟩
end
end L2
namespace L2
open PySem PySem.Spec PyProof.Rows
abbrev R2:=V->V->Hp->VK->Prop
def OpR (X:Cx) (f:Value->Value->Sem Value) (r:R2):Prop :=
 ∀ (pins:List (Addr×Obj)) (s:Shared) (σ:St) (H:Hp) (x y:V) (v u:Value) (Q:VK),Inv X pins σ H s->zbM x v->zbM y u->r x y H Q →
  wpAny (model X.prog X.w) X.A (f v u) (EP X pins σ Q) X.xe s
def zcJ (X:Cx) (f:Value) (r:List V->Hp->VK->Prop):Prop :=
 ∀ (pins:List (Addr×Obj)) (s:Shared) (σ:St) (H:Hp) (xs:List V) (us:List Value) (Q:VK),Inv X pins σ H s->zbl xs us->r xs H Q →
  wpAny (model X.prog X.w) X.A (call f us) (EP X pins σ Q) X.xe s
def tOp (r:R2) (ta tb:TE):TE:=λσ H Q=>ta σ H λx H1=>tb σ H1 λy H2=>r x y H2 Q
def rI (C:Int->Int->Prop) (g:Int->Int->V):R2:=λx y H Q=>∃ i j,x=.int i∧y=.int j∧C i j∧Q (g i j) H
def rI0 (g:Int->Int->V):R2:=λx y H Q=>∃ i j,x=.int i∧y=.int j∧Q (g i j) H
section
variable {X:Cx} {a b c:Expr} {ta tb tc:TE} {pos:Pos}
theorem zkX (ha:PE X a ta) (hb:PE X b tb) {pins:List (Addr×Obj)} {s:Shared} {σ:St} {H:Hp} {R:V->V->Hp->Prop} (I:Inv X pins σ H s)
  (h:ta σ H λx H1=>tb σ H1 λy H2=>R x y H2) {Q:Value->Shared->Prop} {f:Value->Value->Sem Value}
  (hf:∀ v u s2 x y H2,Inv X pins σ H2 s2->zbM x v->zbM y u->R x y H2->wpAny (model X.prog X.w) X.A (f v u) Q X.xe s2) :
  wpAny (model X.prog X.w) X.A (eval a X.env) (λv s₁=>wpAny (model X.prog X.w) X.A (eval b X.env) (λu s₂=>wpAny (model X.prog X.w) X.A (f v u) Q X.xe s₂) X.xe s₁) X.xe s:=by
 refine thn (ha pins s σ H _ I h) λv s1 ⟨x,H1,I1,r1,q1⟩=>?_
 refine thn (hb pins s1 σ H1 _ I1 q1) λu s2 ⟨y,H2,I2,r2,q2⟩=>?_
 exact hf v u s2 x y H2 I2 r1 r2 q2
theorem zau {op:Operator} {r:R2} (ho:OpR X (binaryOp op) r) (ha:PE X a ta) (hb:PE X b tb):PE X (.BinOp a op b pos) (tOp r ta tb):=by
 intro pins s σ H Q I h
 exact wpAny_BinOp (zkX ha hb I h λv u s2 x y H2 I2 rx ry q=>ho pins s2 σ H2 x y v u Q I2 rx ry q)
theorem opI {f:Value->Value->Sem Value} {C:Int->Int->Prop} {g:Int->Int->Int}
  (rule:∀ (i j:Int) (t u:Tok) (s:Shared) (Q:Value->Shared->Prop) (E:Value->Shared->Prop),C i j->Q (.int (g i j) s.toks) { s with toks:=s.toks+1 }->wpAny (model X.prog X.w) X.A (f (.int i t) (.int j u)) Q E s) :
  OpR X f (rI C λi j=>.int (g i j)):=by
 intro pins s σ H x y v u Q I rx ry h
 obtain ⟨i,j,rfl,rfl,hc,q⟩:=h
 obtain ⟨t,rfl⟩:=rx
 obtain ⟨t',rfl⟩:=ry
 exact rule i j t t' s _ _ hc ⟨.int (g i j),H,I.tok _,⟨_,rfl⟩,q⟩
theorem zlj {f:Value->Value->Sem Value} {g:Int->Int->Int}
  (rule:∀ (i j:Int) (t u:Tok) (s:Shared) (Q:Value->Shared->Prop) (E:Value->Shared->Prop),Q (.int (g i j) s.toks) { s with toks:=s.toks+1 }->wpAny (model X.prog X.w) X.A (f (.int i t) (.int j u)) Q E s) :
  OpR X f (rI0 λi j=>.int (g i j)):=by
 intro pins s σ H x y v u Q I rx ry h
 obtain ⟨i,j,rfl,rfl,q⟩:=h
 obtain ⟨t,rfl⟩:=rx
 obtain ⟨t',rfl⟩:=ry
 exact rule i j t t' s _ _ ⟨.int (g i j),H,I.tok _,⟨_,rfl⟩,q⟩
theorem zlh {f:Value->Value->Sem Value} {g:Int->Int->Bool}
  (rule:∀ (i j:Int) (t u:Tok) (s:Shared) (Q:Value->Shared->Prop) (E:Value->Shared->Prop),Q (.bool (g i j)) s->wpAny (model X.prog X.w) X.A (f (.int i t) (.int j u)) Q E s) :
  OpR X f (rI0 λi j=>.bl (g i j)):=by
 intro pins s σ H x y v u Q I rx ry h
 obtain ⟨i,j,rfl,rfl,q⟩:=h
 obtain ⟨t,rfl⟩:=rx
 obtain ⟨t',rfl⟩:=ry
 exact rule i j t t' s _ _ ⟨.bl (g i j),H,I,rfl,q⟩
def zlo (i j:Int):Prop:=0≤j∧j≤1000000∧i.natAbs<2^64
theorem zdh:OpR X (binaryOp .Add) (rI0 λi j=>.int (i+j)):=zlj λ_ _ _ _ _ _ _ q=>add_int q
theorem zdT:OpR X (binaryOp .Sub) (rI0 λi j=>.int (i-j)):=zlj λ_ _ _ _ _ _ _ q=>sub_int q
theorem zbe:OpR X (binaryOp .Mod) (rI (λ_ j=>0<j) λi j=>.int (i%j)):=opI λi j _ _ _ _ _ hc q=>by
 have h1:(0:Int)<j:=hc
 exact mod_int' (by omega) (by rw [Int.fmod_eq_emod_of_nonneg i (by omega)];exact q)
theorem zh5:OpR X (binaryOp .Pow) (rI zlo λi j=>.int (i^j.toNat)):=opI λ_ _ _ _ _ _ _ hc q=>pow_int_small hc.1 hc.2.1 hc.2.2 q
end
def scal:V->V->Bool
 | .non,.non=>true | .non,.int _=>true | .int _,.non=>true | .non,.bl _=>true | .bl _,.non=>true | .non,.str _=>true | .str _,.non=>true
 | .int _,.int _=>true | .bl _,.bl _=>true | .str _,.str _=>true | .byt _,.byt _=>true
 | .int _,.str _=>true | .str _,.int _=>true | .bl _,.str _=>true | .str _,.bl _=>true
 | _,_=>false
def rEq:R2:=λx y H Q=>scal x y=true∧Q (.bl (decide (x=y))) H
def rNe:R2:=λx y H Q=>scal x y=true∧Q (.bl (!decide (x=y))) H
theorem zf7 {i j:Int}:decide (V.int i=V.int j)=(i == j):=by
 rw [Bool.eq_iff_iff]
 simp
theorem zid {i j:Bool}:decide (V.bl i=V.bl j)=(i == j):=by
 rw [Bool.eq_iff_iff]
 simp
theorem zgJ {i j:Str}:decide (V.str i=V.str j)=(i == j):=by
 rw [Bool.eq_iff_iff]
 simp
theorem zgP {i j:Array UInt8}:decide (V.byt i=V.byt j)=(i.toList == j.toList):=by
 rw [Bool.eq_iff_iff]
 cases i
 cases j
 simp
section
variable {X:Cx} {a b c:Expr} {ta tb tc:TE} {pos:Pos}
theorem zaK {pins:List (Addr×Obj)} {σ:St} {H:Hp} {s:Shared} {Q:VK} {k k':Bool} (I:Inv X pins σ H s) (q:Q (.bl k) H) (e:k=k'):EP X pins σ Q (.bool k') s:=by
 subst e
 exact ⟨.bl k,H,I,rfl,q⟩
theorem zcY:OpR X (compareOp .Eq) rEq:=by
 intro pins s σ H x y v u Q I rx ry h
 obtain ⟨hs,q⟩:=h
 cases x with
 | non =>
  cases rx
  cases y with
  | non=>cases ry;exact PySem.EqNone.eq_none_none (zaK I q (by simp))
  | bl j=>cases ry;exact PySem.EqNone.eq_none_bool (zaK I q (by simp))
  | int j=>obtain ⟨t',rfl⟩:=ry;exact PySem.EqNone.eq_none_int (zaK I q (by simp))
  | str j=>obtain ⟨t',rfl⟩:=ry;exact PySem.EqNone.eq_none_str (zaK I q (by simp))
  | _=>exact absurd (show false=true from hs) Bool.false_ne_true
 | bl i =>
  cases rx
  cases y with
  | non=>cases ry;exact PySem.EqNone.eq_bool_none (zaK I q (by simp))
  | bl j=>cases ry;exact eq_bool (zaK I q zid)
  | str j=>obtain ⟨t',rfl⟩:=ry;exact PySem.EqMixed.eq_bool_str (zaK I q (by simp))
  | _=>exact absurd (show false=true from hs) Bool.false_ne_true
 | int i =>
  obtain ⟨t,rfl⟩:=rx
  cases y with
  | non=>cases ry;exact PySem.EqNone.eq_int_none (zaK I q (by simp))
  | int j=>obtain ⟨t',rfl⟩:=ry;exact eq_int (zaK I q zf7)
  | str j=>obtain ⟨t',rfl⟩:=ry;exact PySem.EqMixed.eq_int_str (zaK I q (by simp))
  | _=>exact absurd (show false=true from hs) Bool.false_ne_true
 | str i =>
  obtain ⟨t,rfl⟩:=rx
  cases y with
  | non=>cases ry;exact PySem.EqNone.eq_str_none (zaK I q (by simp))
  | bl j=>cases ry;exact PySem.EqMixed.eq_str_bool (zaK I q (by simp))
  | int j=>obtain ⟨t',rfl⟩:=ry;exact PySem.EqMixed.eq_str_int (zaK I q (by simp))
  | str j=>obtain ⟨t',rfl⟩:=ry;exact eq_str (zaK I q zgJ)
  | _=>exact absurd (show false=true from hs) Bool.false_ne_true
 | byt i =>
  obtain ⟨t,rfl⟩:=rx
  cases y with
  | byt j=>obtain ⟨t',rfl⟩:=ry;exact W.eq_bytes (zaK I q zgP)
  | _=>exact absurd (show false=true from hs) Bool.false_ne_true
 | _=>cases y<;>exact absurd (show false=true from hs) Bool.false_ne_true
theorem zfP:OpR X (compareOp .NotEq) rNe:=by
 intro pins s σ H x y v u Q I rx ry h
 obtain ⟨hs,q⟩:=h
 cases x with
 | non =>
  cases rx
  cases y with
  | non=>cases ry;exact PySem.EqNone.ne_none_none (zaK I q (by simp))
  | bl j=>cases ry;exact PySem.EqNone.ne_none_bool (zaK I q (by simp))
  | int j=>obtain ⟨t',rfl⟩:=ry;exact PySem.EqNone.ne_none_int (zaK I q (by simp))
  | str j=>obtain ⟨t',rfl⟩:=ry;exact PySem.EqNone.ne_none_str (zaK I q (by simp))
  | _=>exact absurd (show false=true from hs) Bool.false_ne_true
 | bl i =>
  cases rx
  cases y with
  | non=>cases ry;exact PySem.EqNone.ne_bool_none (zaK I q (by simp))
  | bl j=>cases ry;exact ne_bool (zaK I q (congrArg not zid))
  | str j=>obtain ⟨t',rfl⟩:=ry;exact PySem.EqMixed.ne_bool_str (zaK I q (by simp))
  | _=>exact absurd (show false=true from hs) Bool.false_ne_true
 | int i =>
  obtain ⟨t,rfl⟩:=rx
  cases y with
  | non=>cases ry;exact PySem.EqNone.ne_int_none (zaK I q (by simp))
  | int j=>obtain ⟨t',rfl⟩:=ry;exact ne_int (zaK I q (congrArg not zf7))
  | str j=>obtain ⟨t',rfl⟩:=ry;exact PySem.EqMixed.ne_int_str (zaK I q (by simp))
  | _=>exact absurd (show false=true from hs) Bool.false_ne_true
 | str i =>
  obtain ⟨t,rfl⟩:=rx
  cases y with
  | non=>cases ry;exact PySem.EqNone.ne_str_none (zaK I q (by simp))
  | bl j=>cases ry;exact PySem.EqMixed.ne_str_bool (zaK I q (by simp))
  | int j=>obtain ⟨t',rfl⟩:=ry;exact PySem.EqMixed.ne_str_int (zaK I q (by simp))
  | str j=>obtain ⟨t',rfl⟩:=ry;exact ne_str (zaK I q (congrArg not zgJ))
  | _=>exact absurd (show false=true from hs) Bool.false_ne_true
 | byt i =>
  obtain ⟨t,rfl⟩:=rx
  cases y with
  | byt j=>obtain ⟨t',rfl⟩:=ry;exact W.ne_bytes (zaK I q (congrArg not zgP))
  | _=>exact absurd (show false=true from hs) Bool.false_ne_true
 | _=>cases y<;>exact absurd (show false=true from hs) Bool.false_ne_true
theorem ziR:OpR X (compareOp .Lt) (rI0 λi j=>.bl (decide (i<j))):=zlh λ_ _ _ _ _ _ _ q=>lt_int q
theorem zfj:OpR X (compareOp .Gt) (rI0 λi j=>.bl (decide (j<i))):=zlh λ_ _ _ _ _ _ _ q=>gt_int q
theorem ziq:OpR X (compareOp .IsNot) (λx y H Q=>y= .non∧Q (.bl (!decide (x= .non))) H):=by
 intro pins s σ H x y v u Q I rx ry h
 obtain ⟨rfl,q⟩:=h
 cases ry
 refine isnot_none_gen (zaK I q ?_)
 cases x<;>first
  | (cases rx;rfl)
  | (obtain ⟨t,rfl⟩:=rx;rfl)
theorem zaC (b:Expr) {op:CmpOp} (h:op≠.In:=by decide) (h2:op≠.NotIn:=by decide):behindInMarks op b=false:=by
 have e1:(op == CmpOp.In)=false:=by cases op<;>first | rfl | exact absurd rfl h
 have e2:(op == CmpOp.NotIn)=false:=by cases op<;>first | rfl | exact absurd rfl h2
 cases b<;>simp [behindInMarks,e1,e2]
theorem zdG {op:CmpOp} {r:R2} (ho:OpR X (compareOp op) r) (ha:PE X a ta) (hb:PE X b tb) (hm:behindInMarks op b=false):PE X (.Compare a [op] [b] pos) (tOp r ta tb):=by
 intro pins s σ H Q I h
 exact wpAny_Compare1 (zkX ha hb I h λv u s2 x y H2 I2 rx ry q=>ho pins s2 σ H2 x y v u Q I2 rx ry q) hm
def zjT (t:TE):TT:=λσ H Q=>t σ H λx H'=>∃ k,x=.bl k∧Q k H'
theorem zaw {op:CmpOp} {r:R2} (ho:OpR X (compareOp op) r) (ha:PE X a ta) (hb:PE X b tb) (hm:behindInMarks op b=false):PT X (.Compare a [op] [b] pos) (zjT (tOp r ta tb)):=by
 intro pins s σ H Q I h
 refine wpAny_isTrue_Compare1 (thn (ha pins s σ H _ I h) λv s1 ⟨x,H1,I1,r1,q1⟩=>thn (hb pins s1 σ H1 _ I1 q1) λu s2 ⟨y,H2,I2,r2,q2⟩ =>
  thn (ho pins s2 σ H2 x y v u _ I2 r1 r2 q2) λc s3 ⟨z,H3,I3,r3,k,e,q3⟩=>?_) hm
 subst e
 cases r3
 exact wpAny_truthy_bool ⟨H3,I3,q3⟩
theorem zil:(sizeLine:Nat)<2^63:=by rw [sizeLine_eq];decide
theorem zhV {x:V} {us:List Value} (r:zbl [x] us):∃ u,us=[u]∧zbM x u:=by
 cases r with
 | cons r1 r2=>cases r2;exact ⟨_,rfl,r1⟩
theorem zgf {x y:V} {us:List Value} (r:zbl [x,y] us):∃ u w',us=[u,w']∧zbM x u∧zbM y w':=by
 cases r with
 | cons r1 r2 =>
  cases r2 with
  | cons r3 r4=>cases r4;exact ⟨_,_,rfl,r1,r3⟩
theorem zgE (hc:X.calm=true):zcJ X (.builtin "max") (λxs H Q=>∃i j,xs=[.int i,.int j]∧Q (.int (if j>i then j else i)) H):=by
 intro pins s σ H xs us Q I r h
 obtain ⟨i,j,rfl,q⟩:=h
 obtain ⟨u,w',rfl,⟨t,rfl⟩,⟨t',rfl⟩⟩:=zgf r
 refine max_two_ints (I.ok.hd hc) λh' tk k=>⟨_,H,I.kept k,?_,q⟩
 by_cases hj:j > i
 ·rw [if_pos hj,if_pos hj];exact ⟨_,rfl⟩
 ·rw [if_neg hj,if_neg hj];exact ⟨_,rfl⟩
theorem zeN (hc:X.calm=true):zcJ X (.builtin "min") (λxs H Q=>∃i j,xs=[.int i,.int j]∧Q (.int (if j<i then j else i)) H):=by
 intro pins s σ H xs us Q I r h
 obtain ⟨i,j,rfl,q⟩:=h
 obtain ⟨u,w',rfl,⟨t,rfl⟩,⟨t',rfl⟩⟩:=zgf r
 refine min_two_ints (I.ok.hd hc) λh' tk k=>⟨_,H,I.kept k,?_,q⟩
 by_cases hj:j<i
 ·rw [if_pos hj,if_pos hj];exact ⟨_,rfl⟩
 ·rw [if_neg hj,if_neg hj];exact ⟨_,rfl⟩
end
end L2
namespace L2
open PySem PySem.Spec PyProof.Rows
structure ObjM (h:Heap) (x dx C:Addr) (mA:Str->Option Value):Prop where
 obj:h.get? x=some (W.instObj C dx)
 ns:h.Ns1 dx mA
 ne:dx≠x
theorem zeJ {h:Heap} {dx:Addr} {mA:Str->Option Value} (n:h.Ns1 dx mA):∃ od,h.get? dx=some od∧∀ name,W.lookIn name od=some (mA name):=by
 obtain ⟨o,es,ep,ho,hd,hk,_,hm⟩:=n
 refine ⟨o,ho,λname=>?_⟩
 have e:=hm name
 unfold nsFind findBy at e
 rw [← Array.find?_toList] at e
 unfold W.lookIn
 rw [hd]
 dsimp only
 split
 ·rename_i y q
  rw [q] at e
  exact congrArg some e
 ·rename_i q
  rw [q] at e
  have a:es.toList.any (·.refKey)=false:=by
   rw [List.any_eq_false]
   intro y hy
   obtain ⟨z,t,hkey⟩:=hk y (Array.mem_toList_iff.mp hy)
   simp [DictEntry.refKey,hkey]
  have a':¬ es.toList.any (·.refKey)=true:=by rw [a];exact Bool.false_ne_true
  rw [if_neg a']
  exact congrArg some e
theorem ObjM.look {h:Heap} {x dx C:Addr} {mA:Str->Option Value} (I:ObjM h x dx C mA):∃ od,W.InstAt h x (W.instObj C dx) C (some od)∧∀ name,W.lookIn name od=some (mA name) :=
 let ⟨od,ho,hl⟩:=zeJ I.ns
 ⟨od,⟨I.obj,rfl,rfl,ho⟩,hl⟩
section
variable {prog:Program} {w:World} {A:Around} {E:Value->Shared->Prop} {s:Shared} {K:W.Frag} {x dx C f:Addr} {mA:Str->Option Value} {name:Str} {v:Value}
theorem ziF {expr:Bool} {Q:Value->Shared->Prop} (X:K.In s.heap) (I:ObjM s.heap x dx C mA) (hg:W.plainGet K C name=true) (hh:W.hasDictIn K C=true)
  (ha:W.findIn K (.ref C) name=some none) (hv:mA name=some v) (hv':W.handedIn v=true) (h:Q v { s with toks:=s.toks+1 }) :
  wpAny (model prog w) A (getAttr (.ref x) name expr) Q E s:=by
 obtain ⟨od,J,hl⟩:=I.look
 exact W.get_value X J (W.plainGet_of hg).1 (W.findObj_own hh ha rfl (by rw [hl,hv])) hv' h
theorem ziY {ns:List Str} {Q:Unit->Shared->Prop} (X:K.In s.heap) (I:ObjM s.heap x dx C mA)
  (hs:W.findIn K (.ref C) "__setattr__"=some (some (.builtin "object.__setattr__"))) (hp:W.plainOver K C=true) (ht:W.takerIn K C name=some none) (hh:W.hasDictIn K C=true)
  (hw:PySem.Within mA ns) (hsz:ns.length≤sizeLine)
  (h:∀ h',ObjM h' x dx C (λy=>if y=name then some v else mA y)->Heap.SameBut dx s.heap h'->Q () { s with heap:=h',toks:=s.toks+2 }) :
  wpAny (model prog w) A (setAttr (.ref x) name v) Q E s:=by
 obtain ⟨od,J,hl⟩:=I.look
 refine W.set_plain X J hs (W.osa_open (s:={ s with toks:=s.toks+1 }) (r:=none) X J hp ht λb=>?_)
 obtain ⟨cd,hc,hd'⟩:=W.any_some hh
 have hx:s.heap.get? x=some ⟨.ref C,some dx,.plain,#[]⟩:=I.obj
 refine wpAny_bind (wpAny_pure (wpAny_bind (wpAny_bind (wpAny_loadPart hx (wpAny_bind (W.Looks.here (s:={ s with toks:=s.toks+1 }) (W.looks_clsIn X hc) ?_))))))
 rw [hd']
 refine wpAny_pure (a:=some dx) (wpAny_bind (wpAny_pure (wpAny_bind ?_)))
 refine wpAny_nsSet1 (s:={ s with toks:=s.toks+1 }) I.ns λh' hn2 hs2=>?_
 obtain ⟨oD,esD,epD,hoD,hdD,hcD⟩:=hn2.count (PySem.Within.cons name v hw)
 refine wpAny_bind (wpAny_lookBehind hoD (by rw [hdD];exact pastItsLine_dict (Nat.le_trans hcD (by rw [List.length_cons];omega))) ?_)
 exact wpAny_pure (h _ ⟨(hs2.2 _ (Ne.symm I.ne)).trans I.obj,hn2,I.ne⟩ hs2)
theorem zhs {R:Result->Shared->Prop} {vs:List Value} {kw:List (Str×Value)} (X:K.In s.heap) (hm:W.makesIn K C=true)
  (hi:W.findIn K (.ref C) "__init__"=some (some (.ref f))) (hf:W.typeIn K (.ref f)=some (.type "function"))
  (h:codeAny (model prog w) (A.under (.builtin "type.__call__" ⟨.ref C :: vs,kw⟩)) (.call (.ref f) ⟨.ref (s.heap.objs.size+1) :: vs,kw⟩) (W.InitBack (s.heap.objs.size+1) R)
   { s with heap:=((s.heap.push W.emptyDict)).push (W.instObj C s.heap.objs.size) }) :
  codeAny (model prog w) A (.call (.ref C) ⟨vs,kw⟩) R s:=by
 obtain ⟨hh,g,d,t,os⟩:=s
 exact W.make_core (W.makes_of X hm) (W.looks_findIn X hi) (λself=>W.bind_fn X self hf) (.inl rfl) h
end
def putF (f:Str) (v:V):List (Str×V)->List (Str×V)
 | []=>[(f,v)]
 | (g,x) :: r=>if g=f then (g,v) :: r else (g,x) :: putF f v r
theorem zdo (f g:Str) (v:V):∀ fs:List (Str×V),(putF f v fs).lookup g=if g=f then some v else fs.lookup g
 | []=>by
  show List.lookup g [(f,v)]=_
  by_cases h:g=f
  ·have hb:(g == f)=true:=beq_iff_eq.mpr h
   simp only [List.lookup,hb,if_pos h]
  ·have hb:(g == f)=false:=beq_eq_false_iff_ne.mpr h
   simp only [List.lookup,hb,if_neg h]
 | (k,x) :: r=>by
  have ih:=zdo f g v r
  rw [show putF f v ((k,x) :: r)=(if k=f then (k,v)::r else (k,x)::putF f v r) from rfl]
  by_cases hk:k=f
  ·rw [if_pos hk]
   by_cases h:g=k
   ·have hb:(g == k)=true:=beq_iff_eq.mpr h
    simp only [List.lookup,hb,if_pos (h.trans hk)]
   ·have hb:(g == k)=false:=beq_eq_false_iff_ne.mpr h
    simp only [List.lookup,hb,if_neg (λe:g=f=>h (e.trans hk.symm))]
  ·rw [if_neg hk]
   by_cases h:g=k
   ·have hb:(g == k)=true:=beq_iff_eq.mpr h
    simp only [List.lookup,hb,if_neg (λe:g=f=>hk (h.symm.trans e))]
   ·have hb:(g == k)=false:=beq_eq_false_iff_ne.mpr h
    simp only [List.lookup,hb]
    exact ih
theorem zdM (f:Str) (v:V):∀ fs:List (Str×V),f∈(putF f v fs).map (·.1)∧∀ g,g∈fs.map (·.1)->g∈(putF f v fs).map (·.1)
 | []=>⟨by simp [putF],λg h=>by simp at h⟩
 | (k,x) :: r=>by
  obtain ⟨i1,i2⟩:=zdM f v r
  rw [show putF f v ((k,x) :: r)=(if k=f then (k,v)::r else (k,x)::putF f v r) from rfl]
  by_cases hk:k=f
  ·rw [if_pos hk]
   subst hk
   exact ⟨by simp,λg h=>by simpa using h⟩
  ·rw [if_neg hk]
   refine ⟨?_,λg h=>?_⟩
   ·rw [List.map_cons]
    exact List.mem_cons_of_mem _ i1
   ·rw [List.map_cons] at h ⊢
    rcases List.mem_cons.mp h with e | e
    ·exact List.mem_cons.mpr (.inl e)
    ·exact List.mem_cons_of_mem _ (i2 g e)
theorem zdj (f:Str) (v:V):∀ fs:List (Str×V),(putF f v fs).length≤fs.length+1
 | []=>by simp [putF]
 | (k,x) :: r=>by
  have ih:=zdj f v r
  rw [show putF f v ((k,x) :: r)=(if k=f then (k,v)::r else (k,x)::putF f v r) from rfl]
  by_cases hk:k=f
  ·rw [if_pos hk,List.length_cons,List.length_cons];omega
  ·rw [if_neg hk,List.length_cons,List.length_cons];omega
theorem zih.some_of {v:V} {o:Option Value} (r:zih (some v) o):∃ u,o=some u∧zbM v u:=by
 cases o with
 | none=>exact (show False from r).elim
 | some u=>exact ⟨u,rfl,r⟩
theorem zeV {v:V} {u:Value} (r:zbM v u):W.handedIn u=true:=by
 cases v with
 | non=>cases (show u=Value.none from r);rfl
 | bl b=>cases (show u=Value.bool b from r);rfl
 | int i=>obtain ⟨t,e⟩:=(show ∃ t,u=Value.int i t from r);cases e;rfl
 | str x=>obtain ⟨t,e⟩:=(show ∃ t,u=Value.str x t from r);cases e;rfl
 | byt b=>obtain ⟨t,e⟩:=(show ∃ t,u=Value.bytes b t from r);cases e;rfl
 | flt b=>obtain ⟨t,e⟩:=(show ∃ t,u=Value.float b t from r);cases e;rfl
 | ref a=>cases (show u=Value.ref a from r);rfl
 | ty n=>cases (show u=Value.type n from r);rfl
section
variable {P:Program} {w:World} {H H':Hp} {h h':Heap} {a C dx:Addr} {fs fs':List (Str×V)}
theorem zfg (hok:HOk P w H h) (e:H a=some (.ins C dx fs)):∃ mA,ObjM h a dx C mA∧(∀ f,zih (fs.lookup f) (mA f))∧PySem.Within mA (fs.map (·.1))∧fs.length≤1000∧H dx=some (.own a):=by
 obtain ⟨d,z,ne,ob,mA,n,r,q⟩:=(show zbs P w H h a (.ins C dx fs) from hok a _ e)
 exact ⟨mA,⟨ob,n,ne⟩,r,q,z,d⟩
end
structure Cls (K:W.Frag) (C:Addr):Prop where
 pg:W.plainGet K C Str.empty=true
 hd:W.hasDictIn K C=true
 po:W.plainOver K C=true
 sa:W.findIn K (.ref C) "__setattr__"=some (some (.builtin "object.__setattr__"))
theorem Cls.get {K:W.Frag} {C:Addr} (c:Cls K C) (f:Str):W.plainGet K C f=true:=c.pg
def NoAttr (K:W.Frag) (C:Addr) (f:Str):Prop:=W.findIn K (.ref C) f=some none
theorem NoAttr.taker {K:W.Frag} {C:Addr} {f:Str} (n:NoAttr K C f):W.takerIn K C f=some none:=by
 unfold W.takerIn
 rw [show W.findIn K (.ref C) f=some none from n]
 rfl
structure Con (K:W.Frag) (C:Addr) (f:Str) (v:V) (u:Value):Prop where
 at_:W.findIn K (.ref C) f=some (some u)
 rel:zbM v u
 get:W.specialIn K u "__get__"=some none
 cp:W.copiedNames.contains f=false
structure Meth (K:W.Frag) (C:Addr) (m:Str) (f:Addr):Prop where
 at_:W.findIn K (.ref C) m=some (some (.ref f))
 fn:W.isFn K (.ref f)=true
 kp:W.keepIn K (.ref f)=true
section
variable {X:Cx} {pins:List (Addr×Obj)} {σ:St} {H:Hp} {s:Shared} {a C dx:Addr} {fs:List (Str×V)} {f:Str} {v:V} {A:Around} {E:Value->Shared->Prop}
theorem zfZ {b:Bool} {Q:Value->Shared->Prop} (I:Inv X pins σ H s) (e:H a=some (.ins C dx fs)) (c:Cls X.K C) (n:NoAttr X.K C f) (l:fs.lookup f=some v)
  (h:∀ u s',Inv X pins σ H s'->zbM v u->Q u s'):wpAny (model X.prog X.w) A (getAttr (.ref a) f b) Q E s:=by
 obtain ⟨mA,O,r,_,_,_⟩:=zfg I.hok e
 obtain ⟨u,hu,ru⟩:=zih.some_of (v:=v) (o:=mA f) (by rw [← l];exact r f)
 exact ziF I.kIn O (c.get f) c.hd n hu (zeV ru) (h u _ (I.tok _) ru)
theorem zfV {y:V} {u:Value} {Q:Unit->Shared->Prop} (I:Inv X pins σ H s) (e:H a=some (.ins C dx fs)) (c:Cls X.K C) (n:NoAttr X.K C f) (hl:fs.length<1000) (ry:zbM y u)
  (h:∀ s',Inv X pins σ (upd H a (.ins C dx (putF f y fs))) s'->Q () s'):wpAny (model X.prog X.w) A (setAttr (.ref a) f u) Q E s:=by
 obtain ⟨mA,O,r,wi,_,ho⟩:=zfg I.hok e
 have hz:(fs.map (·.1)).length≤sizeLine:=by rw [List.length_map,sizeLine_eq];omega
 refine ziY I.kIn O c.sa c.po n.taker c.hd wi hz λh' O' sb=>h _ ?_
 have hd:∃ o,h'.get? dx=some o:=let ⟨o,_,_,e',_⟩:=O'.ns;⟨o,e'⟩
 refine I.write (x:=a) (e:=dx) (by rw [e];exact True.intro) (.inr ho) (λb q hb z=>(sb.2 b hb).trans z) hd ?_
 refine ⟨by rw [zad O.ne];exact ho,?_,O.ne,O'.obj,_,O'.ns,λg=>?_,λg hg=>?_⟩
 ·have:=zdj f y fs;omega
 ·show zih ((putF f y fs).lookup g) (if g=f then some u else mA g)
  rw [zdo]
  by_cases q:g=f
  ·rw [if_pos q,if_pos q];exact ry
  ·rw [if_neg q,if_neg q];exact r g
 ·by_cases q:g=f
  ·rw [q];exact (zdM f y fs).1
  ·refine (zdM f y fs).2 g (wi g λz=>hg ?_)
   show (if g=f then some u else mA g)=none
   rw [if_neg q];exact z
theorem Inv.made (I:Inv X pins σ H s):Inv X pins σ (upd (upd H s.heap.objs.size (.own (s.heap.objs.size+1))) (s.heap.objs.size+1) (.ins C s.heap.objs.size []))
  { s with heap:=((s.heap.push W.emptyDict)).push (W.instObj C s.heap.objs.size) }:=by
 have e1:((s.heap.push W.emptyDict)).get? s.heap.objs.size=some W.emptyDict:=Heap.get?_push_size s.heap rfl
 have e2:(((s.heap.push W.emptyDict)).push (W.instObj C s.heap.objs.size)).get? (s.heap.objs.size+1)=some (W.instObj C s.heap.objs.size):=by
  have:=Heap.get?_push_size (s.heap.push W.emptyDict) (o:=W.instObj C s.heap.objs.size) rfl
  rwa [Heap.size_push] at this
 have e3:((s.heap.push W.emptyDict)).Ns s.heap.objs.size (λ_=>none):=⟨W.emptyDict,#[],_,e1,rfl,(λe he=>absurd he (by simp)),λ_=>rfl⟩
 have I1:=I.laid (a:=s.heap.objs.size) (o:=.own (s.heap.objs.size+1)) (h':=s.heap.push W.emptyDict) (t':=s.toks) (λb u q=>Heap.get?_push_of_some _ q) (Nat.le_refl _) ⟨_,e1⟩
 refine I1.laid (a:=s.heap.objs.size+1) (o:=.ins C s.heap.objs.size []) (t':=s.toks) (λb u q=>Heap.get?_push_of_some _ q) (Nat.le_of_eq (Heap.size_push _ _)) ?_
 have ne:s.heap.objs.size≠s.heap.objs.size+1:=Nat.ne_of_lt (Nat.lt_succ_self _)
 refine ⟨by rw [zad ne,zak],Nat.zero_le _,ne,e2,λ_=>none,(Heap.Ns1.of_empty e3).at λo q=>Heap.get?_push_of_some _ q,λ_=>True.intro,λy hy=>absurd rfl hy⟩
theorem zgC {prog:Program} {w:World} {env:Env} {e:Expr} {f:Str} {pos:Pos} {s:Shared} {Q:Value->Shared->Prop} (hb:attributeBase e f env (eval e env)=eval e env)
  (h:wpAny (model prog w) A (eval e env) (λo s₁=>wpAny (model prog w) A (getAttr o f true) Q E s₁) E s):wpAny (model prog w) A (eval (.Attribute e f pos) env) Q E s :=
 Attribute_any_ h (by rw [arm_eval_Attribute,hb])
end
def tFld (K:W.Frag) (ta:TE) (f:Str):TE:=λσ H Q=>ta σ H λx H1=>∃ a C dx fs v,x=.ref a∧H1 a=some (.ins C dx fs)∧Cls K C∧NoAttr K C f∧fs.lookup f=some v∧Q v H1
def zkR (K:W.Frag) (ta tv:TE) (f:Str):TS:=λD σ H=>tv σ H λy H1=>ta σ H1 λx H2=>∃ a C dx fs,x=.ref a∧H2 a=some (.ins C dx fs)∧Cls K C∧NoAttr K C f∧fs.length<1000 ∧
 D.nx σ (upd H2 a (.ins C dx (putF f y fs)))
section
variable {X:Cx} {o e value:Expr} {f:Str} {pos pos' tpos:Pos} {ta tv:TE}
theorem zjE (he:PE X e ta) (hb:attributeBase e f X.env (eval e X.env)=eval e X.env):PE X (.Attribute e f pos) (tFld X.K ta f):=by
 intro pins s σ H Q I h
 refine zgC hb (thn (he pins s σ H _ I h) λu s1 ⟨x,H1,I1,rx,a,C,dx,fs,v,ex,ea,c,n,l,q⟩=>?_)
 subst ex
 obtain rfl:u=Value.ref a:=rx
 exact zfZ I1 ea c n l λu' s2 I2 ru=>⟨v,H1,I2,ru,q⟩
theorem zh9 (ha:PE X o ta) (hv:PE X value tv) (hs:swapsWith value (some (.Attribute o f pos')) pos.line X.env=pure false):PS X (.Assign [.Attribute o f pos'] value pos) (zkR X.K ta tv f):=by
 intro pins s σ H D I h
 refine plainObj_wpAny_Assign_Attribute (thn (hv pins s σ H _ I h) λu s1 ⟨y,H1,I1,ry,q⟩=>thn (ha pins s1 σ H1 _ I1 q) λov s2 ⟨x,H2,I2,rx,a,C,dx,fs,ex,ea,c,n,l,q2⟩=>?_) hs
 subst ex
 obtain rfl:ov=Value.ref a:=rx
 exact zfV I2 ea c n l ry λs3 I3=>⟨σ,_,I3,q2⟩
end
section
variable {X:Cx} {pins:List (Addr×Obj)} {σ:St} {H:Hp} {s:Shared} {A:Around} {E:Value->Shared->Prop} {Q:Value->Shared->Prop} {c:Value} {b:Bool}
inductive TyOf (K:W.Frag) (H:Hp):V->Value->Prop where
 | non:TyOf K H .non (.type "NoneType")
 | bl (x:Bool):TyOf K H (.bl x) (.type "bool")
 | int (i:Int):TyOf K H (.int i) (.type "int")
 | str (x:Str):TyOf K H (.str x) (.type "str")
 | flt (x:UInt64):TyOf K H (.flt x) (.type "float")
 | lst {a:Addr} {xs:List V} (e:H a=some (.lst xs)):TyOf K H (.ref a) (.type "list")
 | frz {a:Addr} {o:Obj} {xs:List V} (e:H a=some (.frz o (.lst xs))):TyOf K H (.ref a) (.type "list")
 | tup {a:Addr} {xs:List V} (e:H a=some (.tup xs)):TyOf K H (.ref a) (.type "tuple")
 | dK {a:Addr} {kvs:List (Key×V)} (e:H a=some (.dK kvs)):TyOf K H (.ref a) (.type "dict")
 | dT {a:Addr} {kvs:List (List Key×V)} (e:H a=some (.dT kvs)):TyOf K H (.ref a) (.type "dict")
 | ins {a C dx:Addr} {fs:List (Str×V)} (e:H a=some (.ins C dx fs)) (cl:Cls K C) (ha:W.findIn K (.ref C) "__class__"=some (some (.builtin "object.__class__")))
   (hn:W.specialIn K (.builtin "object.__class__") "__get__"=some (some (.builtin "getset_descriptor.__get__"))) (htk:W.takesIn K (.builtin "object.__class__")=some true)
   (hm:W.mroIn K C (.type "object")=some true):TyOf K H (.ref a) (.ref C)
theorem zes {x:V} {u t:Value} (I:Inv X pins σ H s) (rx:zbM x u) (ty:TyOf X.K H x t) (e:W.kitOne X.K t c=some b) (h:∀ tk,Q (.bool b) { s with toks:=tk }) :
  wpAny (model X.prog X.w) A (call (.builtin "isinstance") [u,c]) Q E s:=by
 cases ty with
 | non=>cases (show u=Value.none from rx);exact W.kia_one W.kitx_none I.kIn True.intro e (λz=>nomatch z) h
 | bl y=>cases (show u=Value.bool y from rx);exact W.kia_one W.kitx_bool I.kIn True.intro e (λz=>nomatch z) h
 | int i=>obtain ⟨t,q⟩:=(show ∃ t,u=Value.int i t from rx);cases q;exact W.kia_one W.kitx_int I.kIn True.intro e (λz=>nomatch z) h
 | str y=>obtain ⟨t,q⟩:=(show ∃ t,u=Value.str y t from rx);cases q;exact W.kia_one W.kitx_str I.kIn True.intro e (λz=>nomatch z) h
 | flt y=>obtain ⟨t,q⟩:=(show ∃ t,u=Value.float y t from rx);cases q;exact W.kia_one W.kitx_float I.kIn True.intro e (λz=>nomatch z) h
 | @lst a xs ea =>
  cases (show u=Value.ref a from rx)
  obtain ⟨_,_,n,_,h1⟩:=(show zbs X.prog X.w H s.heap a (.lst xs) from I.hok a _ ea)
  exact W.kia_one W.kitx_list I.kIn ⟨_,h1,rfl⟩ e (λz=>nomatch z) h
 | @frz a ob xs ea =>
  cases (show u=Value.ref a from rx)
  obtain ⟨_,_,_,n,_,h1⟩:=(show zbs X.prog X.w H s.heap a (.frz ob (.lst xs)) from I.hok a _ ea)
  exact W.kia_one W.kitx_list I.kIn ⟨_,h1,rfl⟩ e (λz=>nomatch z) h
 | @tup a xs ea =>
  cases (show u=Value.ref a from rx)
  obtain ⟨_,_,_,p⟩:=(show zbs X.prog X.w H s.heap a (.tup xs) from I.hok a _ ea)
  obtain ⟨o,h1,h2,_⟩:=p
  exact W.kia_one W.kitx_tuple I.kIn ⟨o,h1,h2⟩ e (λz=>nomatch z) h
 | @dK a kvs ea =>
  cases (show u=Value.ref a from rx)
  obtain ⟨_,_,vs,_,p⟩:=(show zbs X.prog X.w H s.heap a (.dK kvs) from I.hok a _ ea)
  obtain ⟨o,es,ep,h1,h2,_⟩:=p
  exact W.kia_one W.kitx_dict I.kIn ⟨o,h1,h2.1⟩ e (λz=>nomatch z) h
 | @dT a kvs ea =>
  cases (show u=Value.ref a from rx)
  obtain ⟨_,_,xs,_,o,es,ep,h1,h2,_⟩:=(show zbs X.prog X.w H s.heap a (.dT kvs) from I.hok a _ ea)
  exact W.kia_one W.kitx_dict I.kIn ⟨o,h1,h2.1⟩ e (λz=>nomatch z) h
 | @ins a C dx fs ea cl ha hn htk hm =>
  cases (show u=Value.ref a from rx)
  obtain ⟨mA,O,_⟩:=zfg I.hok ea
  obtain ⟨od,J,_⟩:=O.look
  exact W.kia_one (W.kitx_own (cl.get _) cl.hd ha hn htk hm) I.kIn J e (λz=>nomatch z) h
end
end L2
namespace L2
open PySem PySem.Spec PyProof.Rows
structure Room (k:Nat) (A:Around):Prop where
 hd:A.handled=none
 dp:A.depth+3*k+5<recursionLimit
 un:A.units+16*k+200<cLine
theorem Room.mono {j k:Nat} {A:Around} (r:Room k A) (h:j≤k):Room j A:=⟨r.hd,by have:=r.dp;omega,by have:=r.un;omega⟩
theorem Room.deeper {k:Nat} {A:Around} (r:Room (k+1) A) (env:Env):Room k (A.deeper env) :=
 ⟨r.hd,by have:=r.dp;show A.depth+1+3*k+5<_;omega,by have:=r.un;show A.units+3+16*k+200<_;omega⟩
theorem Room.in1 {k:Nat} {A:Around} (r:Room (k+1) A):Room k A.in1 :=
 ⟨r.hd,by have:=r.dp;show A.depth+3*k+5<_;omega,by have:=r.un;show A.units+1+16*k+200<_;omega⟩
theorem zf3 {A:Around} {C:Addr} {us:List Value} {kw:List (Str×Value)}:((A.under (.builtin "type.__call__" ⟨.ref C::us,kw⟩))).depth=A.depth+1:=by
 first | rfl | simp [Around.under,Code.weight,Code.isCreation,Code.isGuard,Code.isCaller,Code.frames,Code.isFrame,guardIds]
theorem zfS {A:Around} {C:Addr} {us:List Value} {kw:List (Str×Value)}:((A.under (.builtin "type.__call__" ⟨.ref C::us,kw⟩))).units=A.units+1:=by
 first | rfl | simp [Around.under,Code.cUnits,Code.frames,Code.isFrame]
theorem Room.make {k:Nat} {A:Around} (r:Room (k+1) A) (C:Addr) (us:List Value) (kw:List (Str×Value)):Room k (A.under (.builtin "type.__call__" ⟨.ref C::us,kw⟩)) :=
 ⟨r.hd,by have:=r.dp;rw [zf3];omega,by have:=r.un;rw [zfS];omega⟩
theorem Room.depth {k:Nat} {A:Around} (r:Room k A):A.depth<recursionLimit:=by have:=r.dp;omega
theorem Room.units {k:Nat} {A:Around} (r:Room k A):A.units+64<cLine:=by have:=r.un;omega
def zdX:TA:=λ_ H Q=>Q [] H
def zbO (ta:TE) (tr:TA):TA:=λσ H Q=>ta σ H λx H1=>tr σ H1 λxs H2=>Q (x :: xs) H2
section
variable {X:Cx} {e:Expr} {es:List Expr} {te:TE} {t:TA} {pos:Pos}
theorem zcu:PA X [] zdX:=λ_ _ _ _ H Q I h=>Calls.spliced_nil ⟨[],H,I,.nil,h⟩
theorem zaE (ha:PE X e te) (hr:PA X es t) (hs:starEach (e::es) X.env=(false,eval e X.env) :: starEach es X.env:=by rfl):PA X (e::es) (zbO te t):=by
 intro pos pins s σ H Q I h
 rw [hs]
 show wpAny _ _ (spliced ((false,eval e X.env) :: backTo pos (starEach es X.env))) _ _ s
 refine Calls.spliced_cons (thn (ha pins s σ H _ I h) λu s1 ⟨x,H1,I1,r1,q1⟩=>?_)
 exact thn (hr pos pins s1 σ H1 _ I1 q1) λus s2 ⟨xs,H2,I2,r2,q2⟩=>⟨x :: xs,H2,I2,.cons r1 r2,q2⟩
def zkL (t:TA):TE:=λσ H Q=>t σ H λxs H1=>xs.length≤sizeLine∧∀ p,H1 p=none->Q (.ref p) (upd H1 p (.lst xs))
theorem zbH (h:PA X es t):PE X (.List es pos) (zkL t):=by
 intro pins s σ H Q I hq
 refine wpAny_List_spliced (thn (h pos pins s σ H _ I hq) λus s1 ⟨xs,H1,I1,r,z,q⟩=>⟨by rw [← r.length];exact z,?_⟩)
 have hf:H1 s1.heap.objs.size=none:=I1.hok.fresh (Nat.le_refl _)
 refine ⟨.ref s1.heap.objs.size,upd H1 s1.heap.objs.size (.lst xs),I1.laid (t':=s1.toks) (λb u e=>Heap.get?_push_of_some _ e) (Nat.le_refl _) ?_,rfl,q _ hf⟩
 exact ⟨z,us,0,r,Heap.get?_push_size _ rfl⟩
end
abbrev Sp:=List V->Hp->VK->XK->Prop
abbrev CXT:=List Env->Hp->Shared->XK->Value->Shared->Prop
structure Env0 (P:Program) (w:World) (K:W.Frag) (mg:Str->Option Value) (base:Heap) (A:Around) (outer:List Env) (s:Shared) (H:Hp):Prop where
 frames:A.frames=some outer
 mod:Mod K mg base
 bs:∀ b o,base.get? b=some o->s.heap.get? b=some o∧H b=none
 bsz:base.objs.size≤s.heap.objs.size
 funs:s.heap.FunFrames base outer
 frf:∀ b∈frs outer,H b=none
 hok:HOk P w H s.heap
 bare:AllBare s.gens
def CE (outer:List Env) (P:Program) (w:World) (H:Hp) (s:Shared) (Q:VK) (u:Value) (s':Shared):Prop :=
 ∃ v H',s'.os=s.os∧AllBare s'.gens∧Un (frs outer) [] H H' s.heap s'.heap∧HOk P w H' s'.heap∧zbM v u∧Q v H'
def CR (CX:CXT) (outer:List Env) (P:Program) (w:World) (H:Hp) (s:Shared) (Q:VK) (E:XK) (r:Result) (s':Shared):Prop :=
 match r with
 | .ok (.ret u)=>CE outer P w H s Q u s'
 | .ok _=>False
 | .error e=>CX outer H s E e s'
structure FnOk (P:Program) (w:World) (K:W.Frag) (mg:Str->Option Value) (base:Heap) (CX:CXT) (k:Nat) (f:Addr) (fd:FuncData) (ps:List Str) (sp:Sp):Prop where
 len:∀ vs H Q E,sp vs H Q E->vs.length=ps.length
 run:∀ (A:Around) (outer:List Env) (s:Shared) (H:Hp) (args:Args) (us:List Value) (vs:List V) (Q:VK) (E:XK),Room k A->Env0 P w K mg base A outer s H->BindsTo s fd args (ps.zip us)->zbl vs us->sp vs H Q E →
  codeAny (model P w) A (.call (.ref f) args) (CR CX outer P w H s Q E) s
theorem FnOk.imp {P:Program} {w:World} {K:W.Frag} {mg:Str->Option Value} {base:Heap} {CX:CXT} {k:Nat} {f:Addr} {fd:FuncData} {ps:List Str} {sp sp':Sp} (F:FnOk P w K mg base CX k f fd ps sp)
  (h:∀ vs H Q E,sp' vs H Q E->sp vs H Q E):FnOk P w K mg base CX k f fd ps sp' :=
 ⟨λvs H Q E q=>F.len vs H Q E (h _ _ _ _ q),λA outer s H args us vs Q E hr he hb hv hs=>F.run A outer s H args us vs Q E hr he hb hv (h _ _ _ _ hs)⟩
theorem Env0.make {P:Program} {w:World} {K:W.Frag} {mg:Str->Option Value} {base:Heap} {A:Around} {outer:List Env} {s:Shared} {H:Hp} (e:Env0 P w K mg base A outer s H) (C:Addr) (us:List Value) (kw:List (Str×Value)) :
  Env0 P w K mg base (A.under (.builtin "type.__call__" ⟨.ref C::us,kw⟩)) outer s H:=⟨by first | exact e.frames | (simpa [Around.under,Code.envs,Code.isFrame,pushEnvs] using e.frames),e.mod,e.bs,e.bsz,e.funs,e.frf,e.hok,e.bare⟩
theorem Env0.in1 {P:Program} {w:World} {K:W.Frag} {mg:Str->Option Value} {base:Heap} {A:Around} {outer:List Env} {s:Shared} {H:Hp} (e:Env0 P w K mg base A outer s H) :
  Env0 P w K mg base A.in1 outer s H:=⟨e.frames,e.mod,e.bs,e.bsz,e.funs,e.frf,e.hok,e.bare⟩
section
variable {X:Cx} {pins:List (Addr×Obj)} {σ:St} {H:Hp} {s s':Shared}
theorem Inv.env0 (I:Inv X pins σ H s):Env0 X.prog X.w X.K X.mg X.base X.A X.stack s H :=
 ⟨I.ok.frames,I.ok.mod,I.bs,Nat.le_trans I.ok.bsz I.sz,I.stack,I.stkFree,I.hok,I.bare⟩
theorem Inv.after {Q:VK} {u:Value} (I:Inv X pins σ H s) (h:CE X.stack X.prog X.w H s Q u s'):EP X pins σ Q u s':=by
 obtain ⟨v,H',os,bare,un,hok,r,q⟩:=h
 obtain ⟨hh,g,d,t,os'⟩:=s'
 obtain rfl:os'=s.os:=os
 exact ⟨v,H',I.call (h':=hh) (g':=g) (d':=d) (t':=t) (ch:=[]) un hok bare (λb z=>absurd z (by simp)),r,q⟩
end
def tCall (sp:Sp) (dvs:List V) (E:XK) (t:TA):TE:=λσ H Q=>t σ H λvs H1=>sp (vs++dvs) H1 Q E
def zj5 (C:Addr) (sp:Sp) (dvs:List V) (E:XK) (t:TA):TE:=λσ H Q=>t σ H λvs H1=>∀ x dx,H1 x=none->H1 dx=none->dx≠x →
 sp (.ref x :: (vs++dvs)) (upd (upd H1 dx (.own x)) x (.ins C dx [])) (λv H2=>v=.non∧Q (.ref x) H2) E
def zcX (K:W.Frag) (fd:FuncData) (ps:List Str) (ds:List Value):Prop :=
 ∀ (s:Shared) (us:List Value),K.In s.heap->(us++ds).length=ps.length->BindsTo s fd ⟨us,[]⟩ (ps.zip (us++ds))
theorem zcX.all {K:W.Frag} {fd:FuncData} {ps:List Str} (h:∀ us:List Value,us.length=ps.length->bindArgs fd ⟨us,[]⟩=pure (ps.zip us)):zcX K fd ps []:=λs us _ hl=>by
 rw [List.append_nil] at hl ⊢
 exact .of_eq (h us hl)
def zdY (CX:CXT) (X:Cx) (E:XK):Prop:=∀ (pins:List (Addr×Obj)) (σ:St) (H:Hp) (s:Shared) (e:Value) (s':Shared),Inv X pins σ H s->CX X.stack H s E e s'->X.xe e s'
section
variable {X:Cx} {CX:CXT} {k:Nat} {f C:Addr} {fd:FuncData} {ps:List Str} {sp:Sp} {dvs:List V} {ds:List Value} {E:XK} {x m:Str} {p pos apos:Pos} {e o:Expr} {es:List Expr} {ta:TE} {t:TA}
theorem zjy {pins:List (Addr×Obj)} {σ:St} {H:Hp} {s:Shared} {Q:VK} {us:List Value} {vs:List V} (F:FnOk X.prog X.w X.K X.mg X.base CX k f fd ps sp) (hr:Room k X.A) (hb:zcX X.K fd ps ds) (hd:zbl dvs ds) (hx:zdY CX X E)
  (I:Inv X pins σ H s) (r:zbl vs us) (h:sp (vs++dvs) H Q E):wpAny (model X.prog X.w) X.A (call (.ref f) us) (EP X pins σ Q) X.xe s:=by
 have r2:zbl (vs++dvs) (us++ds):=r.append hd
 have hl:(us++ds).length=ps.length:=by rw [← r2.length];exact F.len _ _ _ _ h
 refine wpAny_call (codeAny_mono (F.run X.A X.stack s H ⟨us,[]⟩ (us++ds) (vs++dvs) Q E hr I.env0 (hb s us I.kIn hl) r2 h) λr s' hq=>?_)
 cases r with
 | error e=>exact hx pins σ H s e s' I hq
 | ok fl =>
  cases fl with
  | ret u=>exact I.after hq
  | next=>exact False.elim hq
  | brk=>exact False.elim hq
  | cont=>exact False.elim hq
theorem ziS (F:FnOk X.prog X.w X.K X.mg X.base CX k f fd ps sp) (hr:Room k X.A) (hg:Gl X x) (hm:X.mg x=some (.ref f)) (hk:W.keepIn X.K (.ref f)=true) (hb:zcX X.K fd ps ds) (hd:zbl dvs ds) (hx:zdY CX X E)
  (ha:PA X (e::es) t) (hdb:(x==("__debug__" :Str))=false:=by decide) (he:starEach (e::es) X.env=(false,eval e X.env) :: starEach es X.env:=by rfl) (hpl:((backTo pos (starEach es X.env))).any (·.1)=false:=by rfl) :
  PE X (.Call (.Name x p) (e::es) [] pos) (tCall sp dvs E t):=by
 intro pins s σ H Q I h
 refine wpAny_Call_Name_kw (zcH I hg hm ?_ hdb)
 refine W.callWith_K (h₀:=X.base) I.ok.mod.kin hk (thn (ha pos pins s σ H _ I h) λus s1 ⟨vs,H1,I1,r,q⟩=>⟨I1.kIn,?_⟩) he hpl
 exact zjy F hr hb hd hx I1 r q
structure Mk (K:W.Frag) (C f:Addr):Prop where
 makes:W.makesIn K C=true
 init:W.findIn K (.ref C) "__init__"=some (some (.ref f))
 fn:W.isFn K (.ref f)=true
 kp:W.keepIn K (.ref C)=true
theorem zhj {pins:List (Addr×Obj)} {σ:St} {H:Hp} {s:Shared} {Q:VK} {us:List Value} {vs:List V} (M:Mk X.K C f) (F:FnOk X.prog X.w X.K X.mg X.base CX k f fd ps sp) (hr:Room (k+1) X.A) (hb:zcX X.K fd ps ds) (hd:zbl dvs ds)
  (hx:zdY CX X E) (I:Inv X pins σ H s) (r:zbl vs us)
  (h:∀ x dx,H x=none->H dx=none->dx≠x->sp (.ref x :: (vs++dvs)) (upd (upd H dx (.own x)) x (.ins C dx [])) (λv H2=>v=.non∧Q (.ref x) H2) E) :
  wpAny (model X.prog X.w) X.A (call (.ref C) us) (EP X pins σ Q) X.xe s:=by
 have hq:=h (s.heap.objs.size+1) s.heap.objs.size (I.hok.fresh (Nat.le_succ _)) (I.hok.fresh (Nat.le_refl _)) (Nat.ne_of_lt (Nat.lt_succ_self _))
 have I2:=Inv.made (C:=C) I
 have r2:zbl (V.ref (s.heap.objs.size+1) :: (vs++dvs)) (Value.ref (s.heap.objs.size+1) :: (us++ds)):=.cons rfl (r.append hd)
 have hl:(Value.ref (s.heap.objs.size+1) :: us++ds).length=ps.length:=by
  have e:=r2.length
  rw [F.len _ _ _ _ hq] at e
  exact e.symm
 refine wpAny_call (zhs (f:=f) I.kIn M.makes M.init (beq_iff_eq.mp M.fn) (codeAny_mono (F.run _ X.stack _ _ ⟨Value.ref (s.heap.objs.size+1) :: us,[]⟩ (Value.ref (s.heap.objs.size+1) :: (us++ds)) _ _ E (hr.make C us [])
  (I2.env0.make C us []) (hb _ (Value.ref (s.heap.objs.size+1) :: us) I2.kIn hl) r2 hq) λr s' hq'=>?_))
 cases r with
 | error e=>exact hx pins σ _ _ e s' I2 hq'
 | ok fl =>
  cases fl with
  | ret u =>
   obtain ⟨v,H',I3,rv,ev,q3⟩:=I2.after hq'
   subst ev
   exact ⟨rv,⟨V.ref (s.heap.objs.size+1),H',I3,rfl,q3⟩⟩
  | next=>exact False.elim hq'
  | brk=>exact False.elim hq'
  | cont=>exact False.elim hq'
theorem ziz (M:Mk X.K C f) (F:FnOk X.prog X.w X.K X.mg X.base CX k f fd ps sp) (hr:Room (k+1) X.A) (hg:Gl X x) (hm:X.mg x=some (.ref C)) (hb:zcX X.K fd ps ds) (hd:zbl dvs ds) (hx:zdY CX X E)
  (ha:PA X (e::es) t) (hdb:(x==("__debug__" :Str))=false:=by decide) (he:starEach (e::es) X.env=(false,eval e X.env) :: starEach es X.env:=by rfl) (hpl:((backTo pos (starEach es X.env))).any (·.1)=false:=by rfl) :
  PE X (.Call (.Name x p) (e::es) [] pos) (zj5 C sp dvs E t):=by
 intro pins s σ H Q I h
 refine wpAny_Call_Name_kw (zcH I hg hm ?_ hdb)
 refine W.callWith_K (h₀:=X.base) I.ok.mod.kin M.kp (thn (ha pos pins s σ H _ I h) λus s1 ⟨vs,H1,I1,r,q⟩=>⟨I1.kIn,?_⟩) he hpl
 exact zhj M F hr hb hd hx I1 r q
end
section
variable {X:Cx} {CX:CXT} {k:Nat} {f C:Addr} {fd:FuncData} {ps ks:List Str} {sp:Sp} {E:XK} {x m:Str} {p pos apos kpos:Pos} {e o:Expr} {es:List Expr} {kws:List Keyword} {te ta:TE} {t tk:TA} {nm:Option Str}
structure KBinds (K:W.Frag) (fd:FuncData) (ps ks:List Str) (g:List Value->List Value->List Value) (gV:List V->List V->List V):Prop where
 to:∀ (s:Shared) (us ws:List Value),K.In s.heap->(g us ws).length=ps.length->BindsTo s fd ⟨us,ks.zip ws⟩ (ps.zip (g us ws))
 rel:∀ {vs:List V} {us:List Value} {zs:List V} {ws:List Value},zbl vs us->zbl zs ws->zbl (gV vs zs) (g us ws)
variable {g:List Value->List Value->List Value} {gV:List V->List V->List V}
end
structure FnScope (N P:List Str) (sc:Scope):Prop where
 kind:sc.kind=.function
 co:sc.isCoroutine=false
 gen:sc.isGenerator=false
 nd:N.Nodup
 pre:N.take P.length=P
 par:∀ x∈P,sc.names.lookup x=some .local∨sc.names.lookup x=some .cell
 nofree:∀ y∈sc.names,y.2≠.free
theorem zeT {kindOf:Str->Option NameKind} {x:Str}:∀ {binds:List (Str×Value)} {m:Str->Option Value},(∀ v,(x,v) ∉ binds)->bindL kindOf binds m x=m x
 | [],_,_=>rfl
 | (n,v) :: r,m,h=>by
  unfold bindL
  rw [zeT λw hw=>h w (List.mem_cons_of_mem _ hw)]
  split
  ·have:x≠n:=by rintro rfl;exact h v List.mem_cons_self
   simp [this]
  ·rfl
theorem zer {kindOf:Str->Option NameKind} {x:Str}:∀ {binds:List (Str×Value)} {m:Str->Option Value},(∀ v,(x,v) ∉ binds)->bindC kindOf binds m x=m x
 | [],_,_=>rfl
 | (n,v) :: r,m,h=>by
  unfold bindC
  rw [zer λw hw=>h w (List.mem_cons_of_mem _ hw)]
  split
  ·rfl
  ·have:x≠n:=by rintro rfl;exact h v List.mem_cons_self
   simp [this]
theorem zeL {kindOf:Str->Option NameKind} {x:Str} {v:Value}:∀ {P:List Str} {vs:List Value} {i:Nat} {m:Str->Option Value},P.Nodup->P[i]?=some x->vs[i]?=some v->kindOf x=some .local →
  bindL kindOf (P.zip vs) m x=some v
 | [],_,_,_,_,h,_,_=>by simp at h
 | _ :: _,[],_,_,_,_,h,_=>by simp at h
 | p :: P,w :: vs,0,m,nd,h1,h2,hk=>by
  simp at h1 h2;subst h1;subst h2
  show bindL kindOf ((p,w)::P.zip vs) m p=_
  unfold bindL
  rw [zeT λv hv=>((List.nodup_cons.mp nd)).1 (List.of_mem_zip hv).1,if_pos hk]
  simp
 | p :: P,w :: vs,i+1,m,nd,h1,h2,hk=>by
  show bindL kindOf ((p,w)::P.zip vs) m x=_
  unfold bindL
  exact zeL (i:=i) ((List.nodup_cons.mp nd)).2 (by simpa using h1) (by simpa using h2) hk
theorem zez {kindOf:Str->Option NameKind} {x:Str} {v:Value}:∀ {P:List Str} {vs:List Value} {i:Nat} {m:Str->Option Value},P.Nodup->P[i]?=some x->vs[i]?=some v->kindOf x≠some .local →
  bindC kindOf (P.zip vs) m x=some v
 | [],_,_,_,_,h,_,_=>by simp at h
 | _ :: _,[],_,_,_,_,h,_=>by simp at h
 | p :: P,w :: vs,0,m,nd,h1,h2,hk=>by
  simp at h1 h2;subst h1;subst h2
  show bindC kindOf ((p,w)::P.zip vs) m p=_
  unfold bindC
  rw [zer λv hv=>((List.nodup_cons.mp nd)).1 (List.of_mem_zip hv).1,if_neg hk]
  simp
 | p :: P,w :: vs,i+1,m,nd,h1,h2,hk=>by
  show bindC kindOf ((p,w)::P.zip vs) m x=_
  unfold bindC
  exact zez (i:=i) ((List.nodup_cons.mp nd)).2 (by simpa using h1) (by simpa using h2) hk
def zcr (N:List Str) (vs:List V):St:=vs.map some++List.replicate (N.length-vs.length) none
def zfI (CX:CXT) (P:Program) (w:World) (K:W.Frag) (mg:Str->Option Value) (base:Heap) (N:List Str) (qual:Str) (scope:Scope) (f:Addr) (cd:Value) (A:Around) (outer:List Env) (s:Shared) (H:Hp) (E:XK):Cx where
 prog:=P
 w:=w
 K:=K
 mg:=mg
 base:=base
 A:=A.deeper (envOfC qual scope s.heap.objs.size f cd)
 N:=N
 s₀:=s
 H₀:=H
 env:=envOfC qual scope s.heap.objs.size f cd
 outer:=outer
 stack:=envOfC qual scope s.heap.objs.size f cd :: outer
 ex:=[]
 calm:=true
 fn:=λ_=>true
 pn:=[]
 xe:=λe s'=>wpAny (model P w) (A.deeper (envOfC qual scope s.heap.objs.size f cd)) (leaving (envOfC qual scope s.heap.objs.size f cd) e) (λ_ s''=>CX outer H s E e s'') (λe' s''=>CX outer H s E e' s'') s'
theorem zfJ {sc:Scope} {n:Nat} {x:Str} (h:sc.names.lookup x=some .cell):∃ c,(cellsFrom n sc.names []).lookup x=some c:=by
 have q:=W.cellsFrom_some sc.names n [] (.inl h)
 exact Option.isSome_iff_exists.mp q
theorem zgl {CX:CXT} {P:Program} {w:World} {K:W.Frag} {mg:Str->Option Value} {base:Heap} {N ps:List Str} {qual:Str} {scope:Scope} {f:Addr} {cd:Value} {A:Around} {outer:List Env} {s s1:Shared} {H:Hp} {E:XK} {us:List Value} {vs:List V}
  (S:FnScope N ps scope) (hd:A.handled=none) (e0:Env0 P w K mg base A outer s H) (hl:vs.length=ps.length) (r:zbl vs us)
  (x:InCallC s s.heap.objs.size (bindL ((envOfC qual scope s.heap.objs.size f cd)).kindOf (ps.zip us) λ_=>none) (cellsFrom (s.heap.objs.size+1) scope.names []) (bindC ((envOfC qual scope s.heap.objs.size f cd)).kindOf (ps.zip us) λ_=>none) s1) :
  Inv (zfI CX P w K mg base N qual scope f cd A outer s H E) [] (zcr N vs) H s1:=by
 have hpl:ps.length≤N.length:=by have:=congrArg List.length S.pre;rw [List.length_take] at this;omega
 obtain ⟨h1,tk,rfl,hk⟩:=x.done
 have noA:∀ b:Addr,b ∉ ((zfI CX P w K mg base N qual scope f cd A outer s H E)).ex:=λb z=>absurd (show b∈([]:List Addr) from z) (by simp)
 refine ⟨⟨e0.mod,S.kind,rfl,rfl,Nat.le_refl _,λy z c h1 h2=>?_,λy hy=>?_,λy c _ h=>?_,λ_=>hd,Around.frames_deeper e0.frames,.inr ⟨rfl,rfl⟩,λb z=>absurd z (noA b),e0.bs,e0.bsz,λb _ _=>noA b,λb z=>absurd z (noA b),e0.funs,e0.frf⟩,
  rfl,e0.bare,Un.kept hk,⟨_,x.toInCall.ns,λi y v h1 h2 h3=>?_⟩,λy c h=>⟨_,x.cell y c h⟩,e0.hok.fresh (Nat.le_refl _),λy c h=>?_,λp hp=>absurd (show p∈([]:List (Addr×Obj)) from hp) (by simp),e0.hok.kept hk,?_⟩
 ·exact name_of_addr x.apart (PySem.mem_of_lookup h1) (PySem.mem_of_lookup h2)
 ·have hy:scope.names.lookup y=some .cell∨scope.names.lookup y=some .free:=hy
  rcases hy with hy | hy
  ·exact zfJ hy
  ·exact absurd rfl (S.nofree _ (PySem.mem_of_lookup hy))
 ·exact Nat.le_of_lt (x.above y c (PySem.mem_of_lookup h))
 ·have hi:i<vs.length:=by
   unfold zcr at h2
   by_cases hi:i<vs.length
   ·exact hi
   ·rw [List.getElem?_append_right (by simpa using hi)] at h2
    rw [List.getElem?_replicate] at h2
    split at h2<;>cases h2
  have ha:vs[i]?=some v:=by
   unfold zcr at h2
   rw [List.getElem?_append_left (by simpa using hi),List.getElem?_map] at h2
   cases e:vs[i]? with
   | none=>rw [e] at h2;cases h2
   | some a=>rw [e] at h2;cases h2;rfl
  obtain ⟨u,hu,rv⟩:=r.get ha
  have hp:ps[i]?=some y:=by
   rw [← S.pre,List.getElem?_take_of_lt (by omega)];exact h1
  have ndP:ps.Nodup:=by rw [← S.pre];exact S.nd.sublist (List.take_sublist _ _)
  refine ⟨u,rv,?_⟩
  rcases S.par y (List.mem_of_getElem? hp) with k | k
  ·exact .inl ⟨k,zeL ndP hp hu k⟩
  ·obtain ⟨c,e⟩:=zfJ (n:=s.heap.objs.size+1) k
   refine .inr ⟨.inl k,c,e,?_⟩
   have q:=x.cell y c e
   rw [zez ndP hp hu (by show scope.names.lookup y≠_;rw [k];decide)] at q
   exact q
 ·exact e0.hok.fresh (Nat.le_of_lt (x.above y c (PySem.mem_of_lookup h)))
 ·unfold zcr
  show _=N.length
  rw [List.length_append,List.length_map,List.length_replicate]
  omega
theorem zjY {CX:CXT} {P:Program} {w:World} {K:W.Frag} {mg:Str->Option Value} {base:Heap} {k:Nat} {f:Addr} {name qual:Str} {params:Arguments} {body:List Stmt} {scope:Scope} {dV kV doc pm cdv ct oc:Value} {an od:Option Addr}
  {osl:Array (Option Value)} {N ps:List Str} {sp:Sp} (lk:K.lookup f=some ⟨oc,od,.func (W.fnOf name qual params body scope dV kV doc pm an cdv ct),osl⟩) (hcd:W.codeIn K cdv qual=true) (S:FnScope N ps scope)
  (len:∀ vs H Q E,sp vs H Q E->vs.length=ps.length)
  (hbody:∀ (A:Around) (outer:List Env) (s:Shared) (H:Hp) (vs:List V) (Q:VK) (E:XK),Room k (A.deeper (envOfC qual scope s.heap.objs.size f cdv))->sp vs H Q E →
   ∃ t,PSs (zfI CX P w K mg base N qual scope f cdv A outer s H E) body t∧t { nx:=λ_ H'=>Q .non H',rt:=Q } (zcr N vs) H) :
  FnOk P w K mg base CX (k+1) f (W.fnOf name qual params body scope dV kV doc pm an cdv ct) ps sp:=by
 refine ⟨len,λA outer s H args us vs Q E hr e0 hb r hsp=>?_⟩
 have hl:=len _ _ _ _ hsp
 have KX:K.In s.heap:=e0.mod.kin.keeps λb o e=>(e0.bs b o e).1
 have lim:s.heap.NoLimit:=e0.mod.nolimit.keeps λb o e=>(e0.bs b o e).1
 have hkind:∀ y∈ps.zip us,scope.names.lookup y.1=some .local∨(scope.names.lookup y.1=some .cell∧((cellsFrom (s.heap.objs.size+1) scope.names []).lookup y.1).isSome=true):=λ⟨n,v⟩ hy=>by
  rcases S.par n (List.of_mem_zip hy).1 with q | q
  ·exact .inl q
  ·exact .inr ⟨q,W.cellsFrom_some _ _ _ (.inl q)⟩
 refine codeAny_call_function hr.depth (KX _ _ lk) rfl S.co S.gen rfl (W.codeRec_of KX hcd) (hb _ _ _ _ ?_)
 refine wpAny_newFunctionEnv_cells S.kind hkind λenv he s1 x=>?_
 subst he
 refine ⟨lim.keeps x.toInCall.keep,codeAny_func ?_⟩
 obtain ⟨t,ht,hq⟩:=hbody A outer s H vs Q E (hr.deeper _) hsp
 have I:Inv (zfI CX P w K mg base N qual scope f cdv A outer s H E) [] (zcr N vs) H s1:=zgl S hr.hd e0 hl r x
 refine wpAny_mono (ht [] s1 (zcr N vs) H _ I hq) (λfl s' hs=>?_) λe s' hs=>hs
 have fin:∀ {σ':St} {H':Hp} {v:V} {u:Value},Inv (zfI CX P w K mg base N qual scope f cdv A outer s H E) [] σ' H' s'->zbM v u->Q v H'->CE outer P w H s Q u s' :=
  λ{σ' H' v u} J rv q=>⟨v,H',J.os,J.bare,J.base,J.hok,rv,q⟩
 cases fl with
 | ret u =>
  obtain ⟨v,σ',H',J,rv,q⟩:=hs
  exact fin J rv q
 | next =>
  obtain ⟨σ',H',J,q⟩:=hs
  exact fin (v:=V.non) (u:=Value.none) J rfl q
 | brk =>
  obtain ⟨_,_,_,q⟩:=hs
  exact False.elim q
 | cont =>
  obtain ⟨_,_,_,q⟩:=hs
  exact False.elim q
end L2
namespace L2
open PySem PySem.Spec PyProof.Rows
section
variable {X:Cx} {x:Str} {p pos:Pos} {e:Expr} {es:List Expr} {t:TA} {id T:String} {r:List V->Hp->VK->Prop}
def tCB (r:List V->Hp->VK->Prop) (t:TA):TE:=λσ H Q=>t σ H λvs H1=>r vs H1 Q
theorem zai (hc:zcJ X (.builtin id) r) (hg:Gl X x) (hm:X.mg x=none) (hv:bootBuiltins x=some (.builtin id)) (ha:PA X (e::es) t) (hn:x≠"__name__":=by decide) (hdb:(x==("__debug__" :Str))=false:=by decide)
  (he:starEach (e::es) X.env=(false,eval e X.env) :: starEach es X.env:=by rfl) (hpl:((backTo pos (starEach es X.env))).any (·.1)=false:=by rfl):PE X (.Call (.Name x p) (e::es) [] pos) (tCB r t):=by
 intro pins s σ H Q I h
 refine wpAny_Call_Name_kw (zdW I hg hm hv ?_ hn hdb)
 exact PyProof.Rows.callWith_builtin1 (thn (ha pos pins s σ H _ I h) λus s1 ⟨vs,H1,I1,r1,q1⟩=>hc pins s1 σ H1 vs us Q I1 r1 q1) he hpl
theorem zeq (hc:zcJ X (.type T) r) (hg:Gl X x) (hm:X.mg x=none) (hv:bootBuiltins x=some (.type T)) (ha:PA X (e::es) t) (hn:x≠"__name__":=by decide) (hdb:(x==("__debug__" :Str))=false:=by decide)
  (he:starEach (e::es) X.env=(false,eval e X.env) :: starEach es X.env:=by rfl) (hpl:((backTo pos (starEach es X.env))).any (·.1)=false:=by rfl):PE X (.Call (.Name x p) (e::es) [] pos) (tCB r t):=by
 intro pins s σ H Q I h
 refine wpAny_Call_Name_kw (zdW I hg hm hv ?_ hn hdb)
 exact PyProof.Rows.callWith_type1 (thn (ha pos pins s σ H _ I h) λus s1 ⟨vs,H1,I1,r1,q1⟩=>hc pins s1 σ H1 vs us Q I1 r1 q1) he hpl
end
end L2
namespace HT
open PySem PyProof.Rows
section
open PySem.SeqAt
open PySem.AutoSeq1 (wpAny_loadPart')
open PySem.MeetsSeq PySem.MeetsSeq2 PySem.MeetsSeq3
end
section
variable {prog:Program} {w:World} {A:Around} {E:Value->Shared->Prop} {s:Shared}
def sIx (n d:Nat):Option Int->Nat
 | none=>d
 | some v=>if v<0 then (v+(n:Int)).toNat else min v.toNat n
end
end HT
namespace L2
open PySem PySem.Spec PyProof.Rows
abbrev TO:=St->Hp->(Option Int->Hp->Prop)->Prop
def PO (X:Cx) (e:Option Expr) (t:TO):Prop :=
 ∀ (pins:List (Addr×Obj)) (s:Shared) (σ:St) (H:Hp) (Q:Option Int->Hp->Prop),Inv X pins σ H s->t σ H Q →
  wpAny (model X.prog X.w) X.A (evalPart e X.env) (λu s'=>∃ o H',Inv X pins σ H' s'∧IsPart u o∧Q o H') X.xe s
def zha:TO:=λ_ H Q=>Q none H
def zj9 (t:TE):TO:=λσ H Q=>t σ H λx H1=>∃ i,x=.int i∧Q (some i) H1
section
variable {X:Cx} {e:Expr} {te:TE} {lo hi:Option Expr} {tl th:TO} {pos p2:Pos}
theorem zjf:PO X none zha:=by
 intro pins s σ H Q I h
 rw [evalPart_none]
 exact wpAny_pure ⟨none,H,I,.none,h⟩
theorem ziM (h:PE X e te):PO X (some e) (zj9 te):=by
 intro pins s σ H Q I hw
 rw [evalPart_some]
 refine thn (h pins s σ H _ I hw) λu s1 ⟨x,H1,I1,r1,q1⟩=>?_
 obtain ⟨i,rfl,q⟩:=q1
 obtain ⟨t,rfl⟩:=r1
 exact ⟨some i,H1,I1,.int i t,q⟩
def SlR (X:Cx) (r:V->Option Int->Option Int->Hp->VK->Prop):Prop :=
 ∀ (pins:List (Addr×Obj)) (s:Shared) (σ:St) (H:Hp) (x:V) (v vl vu:Value) (lo hi:Option Int) (sl:Addr) (Q:VK),Inv X pins σ H s->zbM x v->s.heap.IsSliceOf sl vl vu .none->IsPart vl lo->IsPart vu hi->r x lo hi H Q →
  ∃ T id,typeLookup (.type T) "__getitem__"=pure (some (.builtin id))∧s.TypeIs v T∧wpAny (model X.prog X.w) X.A (getItem v (.ref sl)) (EP X pins σ Q) X.xe s
def tSl (r:V->Option Int->Option Int->Hp->VK->Prop) (te:TE) (tl th:TO):TE:=λσ H Q=>te σ H λx H1=>tl σ H1 λl H2=>th σ H2 λu H3=>r x l u H3 Q
theorem zh1 {r:V->Option Int->Option Int->Hp->VK->Prop} (hr:SlR X r) (he:PE X e te) (hl:PO X lo tl) (hu:PO X hi th):PE X (.Subscript e (.Slice lo hi none p2) pos) (tSl r te tl th):=by
 intro pins s σ H Q I h
 refine Subscript_ (thn (he pins s σ H _ I h) λv s1 ⟨x,H1,I1,r1,q1⟩=>?_)
 refine wpAny_Slice (thn (hl pins s1 σ H1 _ I1 q1) λvl s2 ⟨l,H2,I2,pl,q2⟩=>thn (hu pins s2 σ H2 _ I2 q2) λvu s3 ⟨u,H3,I3,pu,q3⟩=>?_)
 rw [evalPart_none]
 refine wpAny_pure ?_
 have I4:Inv X pins σ H3 { s3 with heap:=s3.heap.push { cls:=.type "slice",data:=.fields #[vl,vu,.none] } }:=I3.kept (t':=s3.toks) λb ob q=>Heap.get?_push_of_some _ q
 obtain ⟨T,id,hT,ht,hg⟩:=hr pins { s3 with heap:=s3.heap.push { cls:=.type "slice",data:=.fields #[vl,vu,.none] } } σ H3 x v vl vu l u s3.heap.objs.size Q I4 r1 (Heap.IsSliceOf.new ..) pl pu q3
 show wpAny (model X.prog X.w) X.A (subscriptTail e (.Slice lo hi none p2) v (.ref s3.heap.objs.size)) (EP X pins σ Q) X.xe { s3 with heap:=s3.heap.push { cls:=.type "slice",data:=.fields #[vl,vu,.none] } }
 exact tail_any (ops:=[.ref s3.heap.objs.size,v]) ht hT hg (by with_unfolding_all rfl)
def zkb (xs:List V) (lo hi:Option Int):List V:=(xs.drop (HT.sIx xs.length 0 lo)).take (HT.sIx xs.length xs.length hi-HT.sIx xs.length 0 lo)
theorem zfh (xs:List V) (lo hi:Option Int):(zkb xs lo hi).length≤xs.length:=by
 unfold zkb
 rw [List.length_take,List.length_drop]
 omega
end
end L2
namespace L2
open PySem PySem.Spec PyProof.Rows
def ixN (n:Nat) (i:Int):Option Nat:=if 0≤i then (if i<n then some i.toNat else none) else if -(n:Int)≤i then some (i+n).toNat else none
def atI {α:Type} (xs:List α) (i:Int):Option α:=(ixN xs.length i).bind λj=>xs[j]?
theorem zjg {n:Nat} {i:Int} {j:Nat} (h:ixN n i=some j):seqIndex? i n=some j∧j<n∧-(n:Int)≤i∧i<n:=by
 unfold ixN at h
 by_cases h0:0≤i
 ·rw [if_pos h0] at h
  by_cases h1:i<n
  ·rw [if_pos h1] at h
   have e:i.toNat=j:=Option.some.inj h
   exact ⟨by rw [seqIndex_of h0 h1,e],by omega,by omega,h1⟩
  ·rw [if_neg h1] at h;cases h
 ·rw [if_neg h0] at h
  by_cases h1:-(n:Int)≤i
  ·rw [if_pos h1] at h
   have e:(i+n).toNat=j:=Option.some.inj h
   exact ⟨by rw [seqIndex_neg (by omega) h1,e],by omega,h1,by omega⟩
  ·rw [if_neg h1] at h;cases h
theorem zi2 {α:Type} {xs:List α} {i:Int} {v:α} (h:atI xs i=some v):∃ j,seqIndex? i xs.length=some j∧xs[j]?=some v∧j<xs.length∧-(xs.length:Int)≤i∧i<xs.length:=by
 unfold atI at h
 cases e:ixN xs.length i with
 | none=>rw [e] at h;cases h
 | some j =>
  rw [e] at h
  obtain ⟨h1,h2,h3,h4⟩:=zjg e
  exact ⟨j,h1,h,h2,h3,h4⟩
def ziw (b:Expr):Prop:=∀ o i,subscripted b false o i=operate [o,i] (getItem o i)
def IxR (X:Cx) (r:R2):Prop :=
 ∀ (value slice:Expr) (pins:List (Addr×Obj)) (s:Shared) (σ:St) (H:Hp) (x y:V) (v u:Value) (Q:VK),Inv X pins σ H s->zbM x v->zbM y u->r x y H Q →
  subscripted slice false v u=operate [v,u] (getItem v u)->wpAny (model X.prog X.w) X.A (subscriptTail value slice v u) (EP X pins σ Q) X.xe s
def MtR (X:Cx) (id:String) (r:V->List V->Hp->VK->Prop):Prop :=
 ∀ (pins:List (Addr×Obj)) (s:Shared) (σ:St) (H:Hp) (x:V) (xs:List V) (v:Value) (us:List Value) (Q:VK),Inv X pins σ H s->zbM x v->zbl xs us->r x xs H Q →
  wpAny (model X.prog X.w) X.A (call (.builtin id) (v :: us)) (EP X pins σ Q) X.xe s
section
variable {X:Cx} {a b:Expr} {ta tb:TE} {pos:Pos}
theorem zej {r:R2} (hr:IxR X r) (ha:PE X a ta) (hb:PE X b tb) (hs:ziw b):PE X (.Subscript a b pos) (tOp r ta tb):=by
 intro pins s σ H Q I h
 exact Subscript_ (zkX ha hb I h λv u s2 x y H2 I2 rx ry q=>hr a b pins s2 σ H2 x y v u Q I2 rx ry q (hs _ _))
def zji (K:W.Frag):R2:=λx y H Q=>∃ p xs i v,x=.ref p∧y=.int i∧SqL K H p xs∧atI xs i=some v∧Q v H
theorem ziU:IxR X (zji X.K):=by
 intro value slice pins s σ H x y v u Q I rx ry h hs
 obtain ⟨p,xs,i,z,rfl,rfl,hq,he,q⟩:=h
 cases rx
 obtain ⟨t,rfl⟩:=ry
 obtain ⟨its,r,pl,hz⟩:=I.list hq
 obtain ⟨j,h1,h2,h3,h4,h5⟩:=zi2 he
 obtain ⟨w,ew,rw'⟩:=r.get h2
 have hl:=r.length
 have hn:=zil
 have fin:EP X pins σ Q w s:=⟨z,H,I,rw',q⟩
 by_cases h0:0≤i
 ·have hj:i.toNat=j:=by
   rw [seqIndex_of h0 h5] at h1
   exact Option.some.inj h1
  exact item_listR pl.isList h0 (by omega) (by rw [hj];simpa using ew) fin hs
 ·have hj:(i+(its.toArray.size:Int)).toNat=j:=by
   rw [seqIndex_neg (by omega) h4] at h1
   rw [List.size_toArray,← hl]
   exact Option.some.inj h1
  exact subscriptTail_builtinR (x:=w) pl.isList.typeIs slot_list_getitem.lookup
   (wpAny_getItem_list_neg (Q:=λr s'=>r=w∧EP X pins σ Q r s') pl.isList (by omega) (by rw [List.size_toArray]<;>omega) (by omega) (by rw [hj];simpa using ew) ⟨rfl,fin⟩) hs
theorem Inv.lst {pins:List (Addr×Obj)} {σ:St} {H:Hp} {s:Shared} {p:Addr} {xs:List V} (I:Inv X pins σ H s) (h:H p=some (.lst xs)) :
  ∃ (its:List Value) (n:Nat),zbl xs its∧s.heap.get? p=some { cls:=.type "list",data:=.seq its.toArray n }∧xs.length≤sizeLine:=by
 obtain ⟨z,its,n,r,e⟩:=I.hok p _ h
 exact ⟨its,n,r,e,z⟩
theorem zeI (lo hi:Option Int) (n:Nat):((sliceBounds lo hi none n)).1=((HT.sIx n 0 lo:Nat):Int)∧((sliceBounds lo hi none n)).2.1=((HT.sIx n n hi:Nat):Int)∧((sliceBounds lo hi none n)).2.2=1:=by
 refine ⟨?_,?_,rfl⟩
 ·cases lo with
  | none=>simp [sliceBounds,HT.sIx]
  | some i =>
   simp only [sliceBounds,HT.sIx,Option.getD_none,show (1:Int) > 0 by decide,if_true]
   by_cases h:i<0
   ·simp only [h,if_true]<;>omega
   ·simp only [h,if_false]<;>omega
 ·cases hi with
  | none=>simp [sliceBounds,HT.sIx]
  | some i =>
   simp only [sliceBounds,HT.sIx,Option.getD_none,show (1:Int) > 0 by decide,if_true]
   by_cases h:i<0
   ·simp only [h,if_true]<;>omega
   ·simp only [h,if_false]<;>omega
theorem zem (its:List Value) (lo hi:Option Int):slicePick its.toArray lo hi none=((its.drop (HT.sIx its.length 0 lo)).take (HT.sIx its.length its.length hi-HT.sIx its.length 0 lo)).toArray:=by
 obtain ⟨h1,h2,h3⟩:=zeI lo hi its.toArray.size
 unfold slicePick
 rw [h1,h2,h3]
 simp only [sliceRange_one,pick_run,List.size_toArray]<;>rfl
def zkG (K:W.Frag):V->Option Int->Option Int->Hp->VK->Prop:=λx lo hi H Q=>∃ a xs,x=.ref a∧SqL K H a xs∧∀ p,H p=none->Q (.ref p) (upd H p (.lst (zkb xs lo hi)))
theorem ziL:SlR X (zkG X.K):=by
 intro pins s σ H x v vl vu lo hi sl Q I rx hs pl pu h
 obtain ⟨a,xs,rfl,hx,q⟩:=h
 cases rx
 obtain ⟨its,r,ht,hz⟩:=I.list hx
 have hlen:=r.length
 refine ⟨"list",_,slot_list_getitem.lookup,ht.isList.typeIs,?_⟩
 refine wpAny_getItem_list_slice ht.isList hs pl pu .none (by simp) ?_ (by rw [List.size_toArray]<;>omega)
 rw [zem,← hlen]
 refine ⟨.ref s.heap.objs.size,_,I.laid (t':=s.toks) (o:=.lst (zkb xs lo hi)) (λb ob q=>Heap.get?_push_of_some _ q) (Nat.le_refl _) ?_,rfl,q _ (I.hok.fresh (Nat.le_refl _))⟩
 exact ⟨Nat.le_trans (zfh xs lo hi) hz,_,0,(r.drop (HT.sIx xs.length 0 lo)).take (HT.sIx xs.length xs.length hi-HT.sIx xs.length 0 lo),Heap.get?_push_size _ rfl⟩
def zhF:V->Bool
 | .non=>true
 | .bl _=>true
 | .int _=>true
 | .str _=>true
 | _=>false
def eqV:V->V->Bool
 | .non,.non=>true
 | .bl a,.bl b=>a == b
 | .bl a,.int b=>(if a then 1 else 0) == b
 | .int a,.bl b=>a == (if b then 1 else 0)
 | .int a,.int b=>a == b
 | .str a,.str b=>a == b
 | _,_=>false
theorem zkx {A:Around} {s:Shared} {y x:V} {u v:Value} (ry:zbM y u) (rx:zbM x v) (fy:zhF y=true) (fx:zhF x=true):SeqAt.EqAt A s u v (eqV y x):=by
 cases y with
 | non =>
  cases ry
  cases x with
  | non=>cases rx;exact SeqAt.EqAt.same _
  | bl b=>cases rx;exact SeqAt.EqAt.none_bool b
  | int b=>obtain ⟨t,rfl⟩:=rx;exact SeqAt.EqAt.none_int b t
  | str b=>obtain ⟨t,rfl⟩:=rx;exact SeqAt.EqAt.none_str b t
  | _=>exact absurd (show false=true from fx) Bool.false_ne_true
 | bl a =>
  cases ry
  cases x with
  | non=>cases rx;exact SeqAt.EqAt.bool_none a
  | bl b=>cases rx;exact SeqAt.EqAt.bool_bool a b
  | int b=>obtain ⟨t,rfl⟩:=rx;exact SeqAt.EqAt.bool_int a b t
  | str b=>obtain ⟨t,rfl⟩:=rx;exact SeqAt.EqAt.bool_str a b t
  | _=>exact absurd (show false=true from fx) Bool.false_ne_true
 | int a =>
  obtain ⟨t',rfl⟩:=ry
  cases x with
  | non=>cases rx;exact SeqAt.EqAt.int_none a t'
  | bl b=>cases rx;exact SeqAt.EqAt.int_bool a t' b
  | int b=>obtain ⟨t,rfl⟩:=rx;exact SeqAt.EqAt.int_int a t' b t
  | str b=>obtain ⟨t,rfl⟩:=rx;exact SeqAt.EqAt.int_str a t' b t
  | _=>exact absurd (show false=true from fx) Bool.false_ne_true
 | str a =>
  obtain ⟨t',rfl⟩:=ry
  cases x with
  | non=>cases rx;exact SeqAt.EqAt.str_none a t'
  | bl b=>cases rx;exact SeqAt.EqAt.str_bool a t' b
  | int b=>obtain ⟨t,rfl⟩:=rx;exact SeqAt.EqAt.str_int a t' b t
  | str b=>obtain ⟨t,rfl⟩:=rx;exact SeqAt.EqAt.str_str a t' b t
  | _=>exact absurd (show false=true from fx) Bool.false_ne_true
 | _=>exact absurd (show false=true from fy) Bool.false_ne_true
theorem zet:zcJ X (.builtin "len") (λxs H Q=>∃ p ys,xs=[.ref p]∧(SqL X.K H p ys∨SqT X.K H p ys)∧Q (.int ys.length) H):=by
 intro pins s σ H xs us Q I r h
 obtain ⟨p,ys,rfl,hq,q⟩:=h
 obtain ⟨u,rfl,rx⟩:=zhV r
 cases rx
 have hn:=zil
 rcases hq with hq | hq
 ·obtain ⟨its,r',pl,hz⟩:=I.list hq
  have hlen:=r'.length
  exact Calls.call_len_list pl.isList (by simp only [List.size_toArray]<;>omega) ⟨.int ys.length,H,I.tok _,⟨s.toks+1,by rw [List.size_toArray,hlen]⟩,q⟩
 ·obtain ⟨its,r',pl,hz⟩:=I.tuple hq
  have hlen:=r'.length
  exact len_tuple pl (by simp only [List.size_toArray]<;>omega) ⟨.int ys.length,H,I.tok _,⟨s.toks+1,by rw [List.size_toArray,hlen]⟩,q⟩
theorem zeY:zcJ X (.type "list") (λxs H Q=>∃ p ys,xs=[.ref p]∧(SqL X.K H p ys∨SqT X.K H p ys)∧∀ l,H l=none->Q (.ref l) (upd H l (.lst ys))):=by
 intro pins s σ H xs us Q I r h
 obtain ⟨p,ys,rfl,hq,q⟩:=h
 obtain ⟨u,rfl,rx⟩:=zhV r
 cases rx
 have fin:∀ (its:List Value),zbl ys its->ys.length≤sizeLine->∀ (h':Heap) (c':Nat),(∀ b o',s.heap.get? b=some o'->h'.get? b=some o') →
   h'.get? s.heap.objs.size=some { cls:=.type "list",dict:=none,data:=.seq its.toArray c',slots:=#[] }->EP X pins σ Q (.ref s.heap.objs.size) { s with heap:=h' }:=λits r' hz h' c' kp e =>
  ⟨.ref s.heap.objs.size,_,I.laid (t':=s.toks) kp (Nat.le_refl _) (show zbs X.prog X.w _ h' _ (.lst ys) from ⟨hz,its,c',r',e⟩),rfl,q _ (I.hok.fresh (Nat.le_refl _))⟩
 rcases hq with hq | hq
 ·obtain ⟨its,r',pl,hz⟩:=I.list hq
  have hlen:=r'.length
  obtain ⟨o,ho,hc,n,hd⟩:=pl.isList
  exact call_list_seq p (.inl rfl) ho hc hd (λh' c' kp e=>fin its r' hz h' c' kp e) (by simp only [List.size_toArray]<;>omega)
 ·obtain ⟨its,r',pl,hz⟩:=I.tuple hq
  have hlen:=r'.length
  obtain ⟨o,ho,hc,n,hd⟩:=pl
  exact call_list_seq p (.inr rfl) ho hc hd (λh' c' kp e=>fin its r' hz h' c' kp e) (by simp only [List.size_toArray]<;>omega)
def tyV (K:W.Frag) (T:String) (x:V) (H:Hp):Prop:=match x with
 | .str _=>T="str"
 | .int _=>T="int"
 | .ref p=>(T="list"∧∃ xs,SqL K H p xs)∨(T="tuple"∧∃ o,K.lookup p=some o∧o.cls=.type "tuple"∧o.dict=none) ∨
   (T="dict"∧((∃ kvs,H p=some (.dK kvs))∨∃ kvs,H p=some (.dT kvs)))∨(T="set"∧∃ S n,H p=some (.set S n))
 | _=>False
theorem zim {pins:List (Addr×Obj)} {σ:St} {H:Hp} {s:Shared} {T:String} {x:V} {v:Value} (I:Inv X pins σ H s) (r:zbM x v) (ty:tyV X.K T x H) :
  s.TypeIs v T∧∀ a,v=.ref a->∃ ob,s.heap.get? a=some ob∧ob.dict=none:=by
 cases x with
 | str z =>
  obtain ⟨t,rfl⟩:=r
  cases (show T="str" from ty)
  exact ⟨typeIs_str s z t,λ_ e=>nomatch e⟩
 | int i =>
  obtain ⟨t,rfl⟩:=r
  cases (show T="int" from ty)
  exact ⟨typeIs_int s i t,λ_ e=>nomatch e⟩
 | ref p =>
  cases r
  rcases ty with ⟨rfl,xs,hq⟩ | ⟨rfl,o,hk,hc,hd⟩ | ⟨rfl,hk⟩ | ⟨rfl,S,n,hk⟩
  ·obtain ⟨its,_,pl,_⟩:=I.list hq
   refine ⟨pl.isList.typeIs,λa e=>?_⟩
   cases e
   obtain ⟨o,n,e,c,hd,_⟩:=pl
   exact ⟨o,e,hd⟩
  ·refine ⟨⟨o,I.kIn p o hk,hc⟩,λa e=>?_⟩
   cases e
   exact ⟨o,I.kIn _ o hk,hd⟩
  ·have z:∃ o,s.heap.get? p=some o∧o.ExactDict:=by
    rcases hk with ⟨kvs,hk⟩ | ⟨kvs,hk⟩
    ·obtain ⟨_,_,_,_,o,_,_,e,ex,_⟩:=I.hok p _ hk
     exact ⟨o,e,ex⟩
    ·obtain ⟨_,_,_,_,o,_,_,e,ex,_⟩:=I.hok p _ hk
     exact ⟨o,e,ex⟩
   obtain ⟨o,e,ex⟩:=z
   refine ⟨⟨o,e,ex.1⟩,λa e2=>?_⟩
   cases e2
   exact ⟨o,e,ex.2.1⟩
  ·obtain ⟨o,_,_,_,e,ex,_⟩:=I.hok p _ hk
   refine ⟨⟨o,e,ex.1⟩,λa e2=>?_⟩
   cases e2
   exact ⟨o,e,ex.2.1⟩
 | _=>exact False.elim ty
def zk5 (K:W.Frag) (T:String) (r:V->List V->Hp->VK->Prop) (to:TE):TE:=λσ H Q=>to σ H λx H1=>tyV K T x H1∧r x [] H1 Q
def tBM (K:W.Frag) (T:String) (r:V->List V->Hp->VK->Prop) (to:TE) (t:TA):TE:=λσ H Q=>to σ H λx H1=>tyV K T x H1∧t σ H1 λxs H2=>r x xs H2 Q
variable {o e:Expr} {es:List Expr} {to:TE} {t:TA} {name:Str} {apos cpos:Pos} {T id:String} {r:V->List V->Hp->VK->Prop}
theorem zks (pa:PlainAttrs T) (slot:Slot T name id) (hty:typeOf (.builtin id)=pure (.type "method_descriptor")) (hm:MtR X id r) (ho:PE X o to)
  (hbase:attributeBase o name X.env (eval o X.env)=eval o X.env:=by rfl) (hline:(apos.endLine==cpos.line)=true:=by rfl):PE X (.Call (.Attribute o name apos) [] [] cpos) (zk5 X.K T r to):=by
 intro pins s σ H Q I h
 refine wpAny_Call_method0_late hbase hline (thn (ho pins s σ H _ I h) λv s1 ⟨x,H1,I1,r1,ty,q1⟩=> ?_)
 obtain ⟨h1,h2⟩:=zim I1 r1 ty
 exact ⟨T,id,pa,slot,hty,h1,h2,Calls.callWith_builtin rfl (PySem.evalArgs_none (hm pins s1 σ H1 x [] v [] Q I1 r1 .nil q1))⟩
theorem zk8 (pa:PlainAttrs T) (slot:Slot T name id) (hty:typeOf (.builtin id)=pure (.type "method_descriptor")) (hm:MtR X id r) (ho:PE X o to) (ha:PA X (e::es) t)
  (hbase:attributeBase o name X.env (eval o X.env)=eval o X.env:=by rfl)
  (hfew:((backTo cpos (starEach (e::es) X.env)).all (λx=>!x.1)&&((backToKw cpos (keywordEach [] X.env))).all (λx=>x.1.isSome)
   &&decide (((e::es)).length+([]:List Keyword).length+(if ([]:List Keyword).isEmpty then 0 else 1)<30))=true:=by rfl)
  (hline:(apos.endLine==cpos.line)=true:=by rfl) (hs:starEach (e::es) X.env=(false,eval e X.env) :: starEach es X.env:=by rfl) (hplain:((backTo cpos (starEach es X.env))).any (·.1)=false:=by rfl) :
  PE X (.Call (.Attribute o name apos) (e::es) [] cpos) (tBM X.K T r to t):=by
 intro pins s σ H Q I h
 refine wpAny_Call_method_late hbase hfew hline rfl (thn (ho pins s σ H _ I h) λv s1 ⟨x,H1,I1,r1,ty,q1⟩=> ?_)
 obtain ⟨h1,h2⟩:=zim I1 r1 ty
 refine ⟨T,id,pa,slot,hty,h1,h2,?_⟩
 have hA:=ha cpos pins s1 σ H1 _ I1 q1
 rw [hs] at hA ⊢
 refine Calls.callWith_builtin (by show (false||((backTo cpos (starEach es X.env))).any (·.1))=false;rw [hplain]<;>rfl) (Calls.evalArgs_plain ?_)
 exact thn hA λus s2 ⟨vs,H2,I2,r2,q2⟩=>hm pins s2 σ H2 x vs v us Q I2 r1 r2 q2
end
end L2
namespace L2
open PySem PySem.Spec PyProof.Rows
def MtM (X:Cx) (id:String) (r:V->List V->Hp->VK->Prop):Prop :=
 ∀ (pins:List (Addr×Obj)) (s:Shared) (σ:St) (H:Hp) (x:V) (xs:List V) (v:Value) (us:List Value) (Q:VK),Inv X pins σ H s->zbM x v->zbl xs us->r x xs H Q →
  wpAny (model X.prog X.w) X.A (call (.builtin id) (v :: us)) (EP X pins σ Q) X.xe s
theorem zbl.one:∀ {x:V} {us:List Value},zbl [x] us->∃ u,us=[u]∧zbM x u
 | _,_,.cons r .nil=>⟨_,rfl,r⟩
theorem zbl.zero:∀ {us:List Value},zbl [] us->us=[]
 | _,.nil=>rfl
theorem zbl.dropLast {xs:List V} {us:List Value} (h:zbl xs us):zbl xs.dropLast us.dropLast:=by
 induction h with
 | nil=>exact .nil
 | cons r t ih =>
  cases t with
  | nil=>exact .nil
  | cons q t'=>exact .cons r ih
theorem zbl.eraseIdx:∀ {xs:List V} {us:List Value} (i:Nat),zbl xs us->zbl (xs.eraseIdx i) (us.eraseIdx i)
 | _,_,_,.nil=>.nil
 | _,_,0,.cons _ t=>t
 | _,_,i+1,.cons r t=>.cons r (zbl.eraseIdx i t)
theorem zfW {α:Type} (l:List α):l.eraseIdx (l.length-1)=l.dropLast:=by
 induction l with
 | nil=>rfl
 | cons a r ih =>
  cases r with
  | nil=>rfl
  | cons b r =>
   have e:(a :: b :: r).length-1=((b :: r).length-1)+1:=by
    have h1:(a :: b :: r).length=r.length+2:=rfl
    have h2:(b :: r).length=r.length+1:=rfl
    omega
   rw [e,List.eraseIdx_cons_succ,ih]
   all_goals rfl
section
variable {X:Cx} {pins:List (Addr×Obj)} {σ:St} {H:Hp} {s:Shared} {l b:Addr} {xs ys zs:List V}
theorem Inv.lset {its its':List Value} {n:Nat} {f:Array Value->Array Value} {t':Nat} (I:Inv X pins σ H s) (hH:H l=some (.lst xs))
  (e:s.heap.get? l=some { cls:=.type "list",data:=.seq its.toArray n }) (hf:f its.toArray=its'.toArray) (hv:zbl ys its') (hz:ys.length≤sizeLine) :
  Inv X pins σ (upd H l (.lst ys)) { s with heap:=s.heap.update l (Obj.mapSeq f),toks:=t' }:=by
 have q:=PySem.IsL.update e f
 rw [hf] at q
 refine I.write (x:=l) (e:=l) (by rw [hH];exact trivial) (.inl rfl) (λb' u hb hu=>(Heap.get?_update_other s.heap (Obj.mapSeq f) (Ne.symm hb)).trans hu) ⟨_,q⟩ ?_
 exact ⟨hz,its',_,hv,q⟩
theorem Inv.lnew {its:List Value} {t':Nat} (I:Inv X pins σ H s) (hv:zbl ys its) (hz:ys.length≤sizeLine) :
  Inv X pins σ (upd H s.heap.objs.size (.lst ys)) { s with heap:=s.heap.push { cls:=.type "list",data:=.seq its.toArray },toks:=t' } :=
 I.laid (λ_ _ q=>Heap.get?_push_of_some _ q) (Nat.le_refl _) ⟨hz,its,0,hv,Heap.get?_push_size _ rfl⟩
theorem Inv.fresh (I:Inv X pins σ H s):H s.heap.objs.size=none:=I.hok.fresh (Nat.le_refl _)
theorem Inv.lstM (I:Inv X pins σ H s) (hH:H l=some (.lst xs)):xs.length≤sizeLine∧∃ (its:List Value) (n:Nat),zbl xs its∧xs.length=its.length∧s.heap.get? l=some { cls:=.type "list",data:=.seq its.toArray n }:=by
 obtain ⟨z,its,n,r,e⟩:=I.hok l _ hH
 exact ⟨z,its,n,r,r.length,e⟩
theorem zhI {n:Nat} (h:n≤sizeLine):Builtin.List.listTooLong n=false:=by
 unfold Builtin.List.listTooLong
 exact decide_eq_false (by omega)
end
section
variable {X:Cx}
def zcj:V->List V->Hp->VK->Prop:=λx vs H Q=>∃ l xs y,x=.ref l∧vs=[y]∧H l=some (.lst xs)∧xs.length<sizeLine∧Q .non (upd H l (.lst (xs++[y])))
theorem zeP:MtM X "list.append" zcj:=by
 intro pins s σ H x vs v us Q I rx rv h
 obtain ⟨l,xs,y,rfl,rfl,hH,hz,q⟩:=h
 cases rx
 obtain ⟨u,rfl,ru⟩:=rv.one
 obtain ⟨z,its,n,r,hl,e⟩:=I.lstM hH
 refine call_meets F.slot_list_append ⟨_,e,rfl⟩ F.entry_list_append (F.args_list_append_2 _ _) (PySem.list_append l its.toArray n u (by rw [List.size_toArray];omega)) ⟨e,?_⟩
 refine ⟨.non,_,I.lset (its':=its++[u]) hH e (by simp) (r.append (.cons ru .nil)) ?_,rfl,q⟩
 rw [List.length_append,List.length_singleton]
 omega
def zit:V->List V->Hp->VK->Prop:=λx vs H Q=>∃ l b xs zs,x=.ref l∧vs=[.ref b]∧H l=some (.lst xs)∧H b=some (.lst zs)∧xs.length+zs.length≤sizeLine∧Q .non (upd H l (.lst (xs++zs)))
theorem zjW:MtM X "list.extend" zit:=by
 intro pins s σ H x vs v us Q I rx rv h
 obtain ⟨l,b,xs,zs,rfl,rfl,hH,hB,hz,q⟩:=h
 cases rx
 obtain ⟨u,rfl,ru⟩:=rv.one
 cases ru
 obtain ⟨z,its,n,r,hl,e⟩:=I.lstM hH
 obtain ⟨z2,its2,n2,r2,hl2,e2⟩:=I.lstM hB
 have hsz:its.toArray.size+its2.toArray.size≤sizeLine:=by rw [List.size_toArray,List.size_toArray];omega
 have hlong:¬ (!its.toArray.isEmpty&&Builtin.List.listTooLong (its.toArray.size+its2.toArray.size))=true:=by
  rw [zhI hsz,Bool.and_false]
  exact Bool.false_ne_true
 refine call_meets F.slot_list_extend ⟨_,e,rfl⟩ F.entry_list_extend (F.args_list_extend_2 _ _)
  (AutoSeq1.list_extend_list_list_0 l its.toArray n b its2.toArray n2 hlong (by rw [List.size_toArray];omega) (by omega)) ⟨e,e2,?_⟩
 refine ⟨.non,_,I.lset (its':=its++its2) hH e (by simp) (r.append r2) ?_,rfl,q⟩
 rw [List.length_append]
 omega
def zk3:V->List V->Hp->VK->Prop:=λx vs H Q=>∃ l xs y,x=.ref l∧vs=[]∧H l=some (.lst xs)∧xs[xs.length-1]?=some y∧Q y (upd H l (.lst xs.dropLast))
theorem zkk:MtM X "list.pop" zk3:=by
 intro pins s σ H x vs v us Q I rx rv h
 obtain ⟨l,xs,y,rfl,rfl,hH,hy,q⟩:=h
 cases rx
 have hus:=rv.zero
 subst hus
 obtain ⟨z,its,n,r,hl,e⟩:=I.lstM hH
 obtain ⟨u,hu,ru⟩:=r.get hy
 have hy':its.toArray[its.toArray.size-1]?=some u:=by
  show its.toArray[its.length-1]?=some u
  rw [← Array.getElem?_toList,← hl]
  exact hu
 refine call_meets F.slot_list_pop ⟨_,e,rfl⟩ F.entry_list_pop (F.args_list_pop_1 _) (MeetsSeq.list_pop_last l its.toArray n u hy' (by rw [List.size_toArray];omega)) ⟨e,?_⟩
 refine ⟨y,_,I.lset (its':=its.dropLast) hH e ?_ r.dropLast ?_,ru,q⟩
 ·show its.toArray.eraseIdxIfInBounds (its.toArray.size-1)=its.dropLast.toArray
  rw [List.size_toArray,List.eraseIdxIfInBounds_toArray,zfW]
 ·rw [List.length_dropLast]
  omega
def zlc:R2:=λx y H Q=>∃ l b xs zs,x=.ref l∧y=.ref b∧H l=some (.lst xs)∧H b=some (.lst zs)∧xs.length+zs.length≤sizeLine∧∀ p,H p=none->Q (.ref p) (upd H p (.lst (xs++zs)))
theorem zc6:OpR X (binaryOp .Add) zlc:=by
 intro pins s σ H x y v u Q I rx ry h
 obtain ⟨l,b,xs,zs,rfl,rfl,hH,hB,hz,q⟩:=h
 cases rx
 cases ry
 obtain ⟨z,its,n,r,hl,e⟩:=I.lstM hH
 obtain ⟨z2,its2,n2,r2,hl2,e2⟩:=I.lstM hB
 refine PySem.P.add_list e e2 ?_ (by rw [List.size_toArray,List.size_toArray];omega)
 have ea:its.toArray++its2.toArray=(its++its2).toArray:=by simp
 rw [ea]
 exact ⟨.ref _,_,I.lnew (t':=s.toks) (r.append r2) (by rw [List.length_append];omega),rfl,q _ I.fresh⟩
end
section
variable {prog:Program} {w:World} {A:Around} {E:Value->Shared->Prop} {s:Shared}
end
section
variable {X:Cx}
end
end L2
namespace Att
open PySem PySem.W PySem.Calls PyProof.Rows
theorem zdl {P:Params} {h:Heap}:∀ (ns:Ji) (vs:List Value),WellAll P h vs (ns.map WData.int)->IntsAre vs ns:=by
 intro ns
 induction ns with
 | nil =>
  intro vs w
  rw [List.map_nil] at w
  cases w
  exact .nil
 | cons n ns ih =>
  intro vs w
  rw [List.map_cons] at w
  cases w with
  | cons a b =>
   cases a
   exact .cons _ _ (ih _ b)
theorem zg0 {l:OpenLaw} {n:Nat} (hn:l.most=some n) {P:Params} {h:Heap} {args:List WData} {vals:List Value}
  (hpre:l.row.toRowW.claim.pre args=true) (hwl:WellAll P h vals args) :
  ∃ a vs ns,vals=[Value.ref a]∧args=[WData.list (ns.map WData.int)]∧h.get? a=some { cls:=.type "list",data:=.seq vs.toArray }∧IntsAre vs ns∧ns.length≤n:=by
 have hsh:WShape.hasAll [] args [.list .int]=true:=(pre_splitW hpre).1
 have hc:l.pre.holds [] { args:=args }=true:=(pre_splitW hpre).2
 obtain ⟨d,r,rfl,h1,h2⟩:=hasAllW_cons hsh
 obtain rfl:=hasAllW_nil h2
 obtain ⟨xs,rfl,h3⟩:=hasW_list h1
 obtain ⟨ns,rfl⟩:=items_int h3
 have hlen:ns.length≤n:=by
  unfold OpenLaw.pre at hc
  have h4:(WTm.not (.lt (.lit (.int (n:Int))) (.len (.arg 0)))).holds [] { args:=[.list (ns.map .int)] }=true:=by
   have h4:=(holds_andW hc).1
   rw [hn] at h4
   exact h4
  have h5:=condW_of h4 (w_not (w_lt w_lit (w_len_list (w_arg rfl))))
  rw [List.length_map] at h5
  refine Nat.le_of_not_lt λq=>?_
  have q':(n:Int)<((ns.length:Nat):Int):=by omega
  first
   | (rw [decide_eq_true q'] at h5;exact absurd h5 (by decide))
   | (simp at h5;omega)
 cases hwl with
 | cons w1 w2 =>
  cases w2
  cases w1 with
  | list ho hall=>exact ⟨_,_,ns,rfl,rfl,ho,zdl ns _ hall,hlen⟩
theorem zg4 (l:OpenLaw) (args:List WData):l.row.toRowW.claim.post args (.bool true) args=true :=
 postW_of (r:=l.row.toRowW) (X:=(true == true))
  (show WShape.has [] (.bool true) .bool=true by first | rfl | decide | simp [WShape.has,WShape.arms,WShape.armsAll])
  (show (WTm.eq .res (.lit (.bool true))).value [] { args:=args,res:=some (.bool true),after:=args }=some (.bool (true == true)) from w_eq_bool (w_res rfl) w_lit) rfl
theorem attach_call {l:OpenLaw} {n:Nat} {q:Program} {loose:List Str} {XP:(Str->Option Value)->Heap->Prop} {YP:World->Heap->Prop} {d:DefRec}
  (hn:l.most=some n) (hdf:d.params.defaults=[])
  (call:∀ (w:World) (s₀ s₁:Shared) (mg mb:Str->Option Value) (fa:Addr) (o:Obj) (pm cd doc:Value) (a:Addr) (vs:List Value) (ns:Ji),
   Ground q loose [] XP w s₀ mg mb s₁.heap->YP w s₁.heap →
   s₁.heap.get? fa=some o->o.data=.func (docDef d.name d.params d.body d.scope pm cd doc)->s₁.heap.CodeRec cd d.name->mg d.name=some (.ref fa) →
   s₁.heap.get? a=some { cls:=.type "list",data:=.seq vs.toArray }->IntsAre vs ns->ns.length≤n->s₁.gens=#[] →
   codeAny (model l.prog w) callerA (.call (.ref fa) ⟨[.ref a],[]⟩) (λr s'=>r= .ok (.ret (.bool true))∧OldK s₁.heap s'.heap∧s'.os=s₁.os∧AllBare s'.gens) s₁) :
  WalkO q loose XP YP l.row.toRowW d [] (λf vs=>PySem.call f vs):=by
 intro w s₀ s₁ mg mb G Y fa o pm cd doc dV kV ho hd hcd hD hmg hg args vals as hpre hlay hrd hwl hlo
 obtain rfl:dV=.none:=Dflts.none hD hdf
 obtain rfl:kV=.none:=Dflts.noKw hD
 obtain ⟨a,vs,ns,rfl,rfl,hobj,hints,hlen⟩:=zg0 hn hpre hwl
 refine enter_call (codeAny_mono (call w s₀ s₁ mg mb fa o pm cd doc a vs ns G Y ho (fd_plain hd) hcd hmg hobj hints hlen hg) λr s' hq=>?_)
 obtain ⟨rfl,h2,h3,h4⟩:=hq
 exact ⟨.inl ⟨.bool true,.bool true,[],rfl,λ_=>rfl,.bool true,zg4 l _,λ_=>⟨List.Pairwise.nil,λ_ hm=>(nomatch hm)⟩⟩,h2,h3,h4⟩
section
variable {prog:Program} {w:World} {A:Around} {E:Value->Shared->Prop} {s:Shared} {K:Frag}
end
end Att
namespace L2
open PySem PySem.Spec PyProof.Rows
theorem zeo:∀ {vs:List Value} {ns:Ji},IntsAre vs ns->zbl (ns.map V.int) vs
 | _,_,.nil=>.nil
 | _,_,.cons n t h=>.cons ⟨t,rfl⟩ (zeo h)
def zkP (H:Hp):Prop:=∀ b,H b=none∨∃ o xs,H b=some (.frz o (.lst xs))
theorem zhU {P:Program} {w:World} {K:W.Frag} {mg mb:Str->Option Value} {CX:CXT} {k:Nat} {fa a:Addr} {fd:FuncData} {x:Str} {sp:Sp} {s₁:Shared} {vs:List Value} {ns:Ji}
  (KX:K.In s₁.heap) (hns:s₁.heap.Ns mainGlobals mg) (hb:s₁.heap.Ns builtinsNs mb) (hbb:∀ x:Str,x≠"__name__"->mb x=bootBuiltins x) (hlim:s₁.heap.NoLimit) (hg:s₁.gens=#[])
  (ha:s₁.heap.get? a=some { cls:=.type "list",data:=.seq vs.toArray }) (hi:IntsAre vs ns) (hl:ns.length≤sizeLine) (hr:Room k callerA)
  (F:∀ base:Heap,K.In base->base.Ns mainGlobals mg->FnOk P w K mg base CX k fa fd [x] sp) (hbind:∀ (s:Shared) (u:Value),BindsTo s fd ⟨[u],[]⟩ [(x,u)])
  (hsp:∀ H:Hp,zkP H->SqL K H a (ns.map V.int)->sp [.ref a] H (λv _=>v=.bl true) λ_ _ _=>False)
  (hCX:∀ H e s',CX [] H s₁ (λ_ _ _=>False) e s'->False) :
  codeAny (model P w) callerA (.call (.ref fa) ⟨[.ref a],[]⟩) (λr s'=>r= .ok (.ret (.bool true))∧OldK s₁.heap s'.heap∧s'.os=s₁.os∧AllBare s'.gens) s₁:=by
 have rv:=zeo hi
 have lenV:=hi.length
 have core:∀ H:Hp,zkP H->SqL K H a (ns.map V.int)->HOk P w H s₁.heap->(∀ b,H b≠none->b=a)->(H a≠none->K.lookup a=none) →
   codeAny (model P w) callerA (.call (.ref fa) ⟨[.ref a],[]⟩) (λr s'=>r= .ok (.ret (.bool true))∧OldK s₁.heap s'.heap∧s'.os=s₁.os∧AllBare s'.gens) s₁:=by
  intro H hO hS hok hA hK
  have base_of:∀ {b:Addr} {o:Obj},s₁.heap.get? b=some o->H b=none->((zhv s₁.heap H)).get? b=some o:=λe n=>zhk e n
  have noA:∀ {b:Addr} {o:Obj} {es:Array DictEntry} {ep:Nat},s₁.heap.get? b=some o->o.data=.dict es ep->H b=none:=λ{b o es ep} e d=>by
   cases q:H b with
   | none=>rfl
   | some u =>
    have e':b=a:=hA b (by rw [q];simp)
    subst e'
    rw [ha] at e;cases e
    have d':Data.seq vs.toArray _=Data.dict es ep:=d
    cases d'
  have nsK:∀ {b:Addr} {m:Str->Option Value},s₁.heap.Ns b m->((zhv s₁.heap H)).Ns b m:=λ{b m} ⟨o,es,ep,e,d,r⟩=>⟨o,es,ep,base_of e (noA e d),d,r⟩
  have hKb:K.In (zhv s₁.heap H):=λb o e=>base_of (KX b o e) (by
   cases q:H b with
   | none=>rfl
   | some u =>
    have e':b=a:=hA b (by rw [q];simp)
    subst e'
    rw [hK (by rw [q];simp)] at e;cases e)
  have hM:Mod K mg (zhv s₁.heap H):=⟨hKb,nsK hns,⟨mb,nsK hb,hbb⟩,let ⟨mc,h1,h2⟩:=hlim;⟨mc,nsK h1,h2⟩⟩
  have e0:Env0 P w K mg (zhv s₁.heap H) callerA [] s₁ H:=⟨rfl,hM,λb o e=>ziv e,Nat.le_of_eq (zgH _ _),trivial,λb hb=>absurd (show b∈([]:List Addr) from hb) (by simp),hok,.of_eq hg⟩
  refine codeAny_mono ((F _ hKb (nsK hns)).run callerA [] s₁ H ⟨[.ref a],[]⟩ [.ref a] [.ref a] _ _ hr e0 (hbind s₁ (.ref a)) (.cons rfl .nil) (hsp H hO hS)) λr s' h=>?_
  cases r with
  | error e=>exact (hCX H e s' h).elim
  | ok fl =>
   cases fl with
   | next=>exact False.elim h
   | brk=>exact False.elim h
   | cont=>exact False.elim h
   | ret u =>
    obtain ⟨v,H',os,bare,un,hok',r',q⟩:=h
    have q':v=.bl true:=q
    subst q'
    obtain rfl:u=Value.bool true:=r'
    refine ⟨rfl,OldK.of_keep λb o e=>?_,os,bare⟩
    cases q:H b with
    | none=>exact un.keep b o e q (by intro z;exact absurd (show b∈([]:List Addr) from z) (by simp)) (by simp)
    | some u =>
     rcases hO b with z | ⟨ob,xs,z⟩
     ·rw [q] at z;cases z
     ·have z2:=un.frzs b ob _ z
      obtain ⟨e1,_⟩:=hok b _ z
      obtain ⟨e2,_⟩:=hok' b _ z2
      rw [e] at e1;cases e1
      exact e2
 cases hk:K.lookup a with
 | some o =>
  have e:=KX a o hk
  rw [ha] at e
  cases e
  refine core (λ_=>none) (λ_=>.inl rfl) (.inr ⟨_,vs.toArray,_,hk,rfl,rfl,rfl,by rw [List.size_toArray,lenV];exact hl,by simpa using rv⟩) (λb u z=>by have z':(none:Option HO)=some u:=z;cases z') (λb z=>absurd rfl z) λz=>absurd rfl z
 | none =>
  refine core (λb=>if b=a then some (.frz { cls:=.type "list",data:=.seq vs.toArray } (.lst (ns.map V.int))) else none) (λb=>?_) (.inl (.inr ⟨{ cls:=.type "list",data:=.seq vs.toArray },if_pos rfl⟩)) (λb u z=>?_) (λb z=>?_) λ_=>hk
  ·by_cases hb:b=a
   ·exact .inr ⟨_,_,if_pos hb⟩
   ·exact .inl (if_neg hb)
  ·by_cases hb:b=a
   ·have z':=(if_pos hb).symm.trans z
    cases z'
    subst hb
    exact ⟨ha,by rw [List.length_map];exact hl,vs,_,rv,ha⟩
   ·have z':=(if_neg hb).symm.trans z
    cases z'
  ·by_cases hb:b=a
   ·exact hb
   ·exact absurd (if_neg hb) z
end L2
namespace L2
open PySem PySem.Spec PyProof.Rows
theorem zi7 {l:W.OpenLaw} {n k:Nat} {q:Program} {loose:List Str} {XP:(Str->Option Value)->Heap->Prop} {YP:World->Heap->Prop} {d:DefRec} {K:Params->W.Frag} {CX:World->CXT} {sp:World->Sp} {x:Str}
  (hn:l.most=some n) (hn2:n≤sizeLine) (hdf:d.params.defaults=[]) (hr:Room k callerA)
  (hY:∀ (w:World) (h:Heap),YP w h->(K w.params).In h)
  (F:∀ (w:World) (mg:Str->Option Value) (fa:Addr) (h:Heap),(K w.params).In h->h.Ns mainGlobals mg->mg d.name=some (.ref fa) →
   ∃ fd:FuncData,(∀ (s:Shared) (u:Value),BindsTo s fd ⟨[u],[]⟩ [(x,u)]) ∧
    ∀ base:Heap,(K w.params).In base->base.Ns mainGlobals mg->FnOk l.prog w (K w.params) mg base (CX w) k fa fd [x] (sp w))
  (hsp:∀ (w:World) (H:Hp) (a:Addr) (ns:Ji),ns.length≤n->zkP H->SqL (K w.params) H a (ns.map V.int)->sp w [.ref a] H (λv _=>v=.bl true) λ_ _ _=>False)
  (hCX:∀ (w:World) (H:Hp) (s:Shared) (e:Value) (s':Shared),CX w [] H s (λ_ _ _=>False) e s'->False) :
  W.WalkO q loose XP YP l.row.toRowW d [] (λf vs=>PySem.call f vs):=by
 refine Att.attach_call hn hdf λw s₀ s₁ mg mb fa o pm cd doc a vs ns G Y ho hd hcd hmg hobj hints hlen hg=>?_
 have KX:=hY w _ Y
 obtain ⟨fd,hb,hF⟩:=F w mg fa _ KX G.T.g hmg
 exact zhU KX G.T.g G.T.b G.T.builtins G.T.nolimit hg hobj hints (Nat.le_trans hlen hn2) hr hF hb (λH hO hS=>hsp w H a ns hlen hO hS) λH e s'=>hCX w H s₁ e s'
end L2
namespace L2
open PySem PySem.Spec PyProof.Rows
def zhc (s:Stmt) (j:Nat):Stmt:=match s with
 | .ClassDef _ _ _ body _ _ _ _ _ _ _=>body.getD j (.Pass ⟨0,0,0,0⟩)
 | _=>.Pass ⟨0,0,0,0⟩
def zcG (s:Stmt):Arguments:=match s with
 | .FunctionDef _ a _ _ _ _ _ _ _ _=>a
 | _=>{ posonlyargs:=[],args:=[],vararg:=none,kwonlyargs:=[],kw_defaults:=[],kwarg:=none,defaults:=[] }
def zbK (s:Stmt):List Stmt:=match s with
 | .FunctionDef _ _ b _ _ _ _ _ _ _=>b
 | _=>[]
def zah (s:Stmt):Scope:=match s with
 | .FunctionDef _ _ _ _ _ _ sc _ _ _=>sc
 | _=>{ kind:=.function,names:=[],isGenerator:=false,isCoroutine:=false }
abbrev E0:XK:=λ_ _ _=>False
structure Fun (K:W.Frag) (x qual:Str) (st:Stmt) (f:Addr) (fd:FuncData):Prop where
 ex:∃ (oc:Value) (od:Option Addr) (kV doc pm:Value) (an:Option Addr) (cdv ct:Value) (osl:Array (Option Value)),
  fd=W.fnOf x qual (zcG st) (zbK st) (zah st) .none kV doc pm an cdv ct∧K.lookup f=some ⟨oc,od,.func fd,osl⟩∧W.codeIn K cdv qual=true
 kp:W.keepIn K (.ref f)=true
section
variable {P:Program} {w:World} {K:W.Frag} {mg:Str->Option Value} {base:Heap}
theorem Fun.binds {x qual:Str} {st:Stmt} {f:Addr} {fd:FuncData} {ps:List Str} (F:Fun K x qual st f fd)
  (h:∀ (kV doc pm:Value) (an:Option Addr) (cdv ct:Value) (us:List Value),us.length=ps.length->bindArgs (W.fnOf x qual (zcG st) (zbK st) (zah st) .none kV doc pm an cdv ct) ⟨us,[]⟩=pure (ps.zip us)):zcX K fd ps []:=by
 obtain ⟨oc,od,kV,doc,pm,an,cdv,ct,osl,rfl,lk,hcd⟩:=F.ex
 exact .all (h kV doc pm an cdv ct)
theorem zh6 {x qual:Str} {st:Stmt} {f:Addr} {oc:Value} {od an:Option Addr} {osl:Array (Option Value)} {kV doc pm cdv ct:Value} (l:K.lookup f=some ⟨oc,od,.func (W.fnOf x qual (zcG st) (zbK st) (zah st) .none kV doc pm an cdv ct),osl⟩)
  (c:W.codeIn K cdv qual=true) (k:W.keepIn K (.ref f)=true):Fun K x qual st f (W.fnOf x qual (zcG st) (zbK st) (zah st) .none kV doc pm an cdv ct):=⟨⟨oc,od,kV,doc,pm,an,cdv,ct,osl,rfl,l,c⟩,k⟩
end
section
variable {X:Cx}
theorem pv (i:Nat) {x:Str} {pos:Pos} (hN:X.N[i]?=some x:=by rfl) (hv:Vis X.env.scope x:=by first | exact Or.inl rfl | exact Or.inr (Or.inl rfl) | exact Or.inr (Or.inr rfl)) (hd:(x==("__debug__" :Str))=false:=by decide)
  (hcd:(x == ("__classdict__" :Str))=false:=by decide):PE X (.Name x pos) (ze8 i):=zfo hN hv hd hcd
end
def Same (H H':Hp):Prop:=∀ b o,H b=some o->H' b=some o
theorem Same.refl (H:Hp):Same H H:=λ_ _ h=>h
theorem Same.trans {H H1 H2:Hp} (a:Same H H1) (b:Same H1 H2):Same H H2:=λc o h=>b c o (a c o h)
theorem Same.free {H H':Hp} (e:Same H H') {l:Addr} (h:H' l=Option.none):H l=Option.none:=by
 cases q:H l with
 | none=>rfl
 | some o =>
  rw [e l o q] at h
  cases h
theorem Same.seq {K:W.Frag} {H H':Hp} {a:Addr} {xs:List V} (e:Same H H') (h:SqL K H a xs):SqL K H' a xs:=by
 rcases h with (h | ⟨o,h⟩) | h
 ·exact .inl (.inl (e _ _ h))
 ·exact .inl (.inr ⟨o,e _ _ h⟩)
 ·exact .inr h
end L2
namespace L2
open PySem PySem.Spec PyProof.Rows
theorem zcZ {env:Env}:∀ (names:List (Str×NameKind)) (acc:List (Str×Addr)),(∀ x∈names,x.2=.free->∃ c,env.cells.lookup x.1=some c) →
  ∃ cl:List (Str×Addr),(forIn (m:=Sem) names acc λ(x:Str×NameKind) (cs:List (Str×Addr))=>if (x.2 == NameKind.free)=true then (do let a ← cellOf env x.1;pure (ForInStep.yield ((x.1,a) :: cs))) else pure (ForInStep.yield cs))=pure cl ∧
   (∀ x c,cl.lookup x=some c->acc.lookup x=some c∨env.cells.lookup x=some c)∧(∀ x,((x,NameKind.free)∈names∨∃ c,acc.lookup x=some c)->∃ c,cl.lookup x=some c)
 | [],acc,_=>⟨acc,rfl,λ_ _ h=>.inl h,λx h=>by
   rcases h with h | h
   ·cases h
   ·exact h⟩
 | (n,k) :: r,acc,h=>by
  have hr:∀ x∈r,x.2=.free->∃ c,env.cells.lookup x.1=some c:=λx hx=>h x (List.mem_cons_of_mem _ hx)
  by_cases hk:k=.free
  ·subst hk
   obtain ⟨c,hc⟩:=h (n,.free) List.mem_cons_self rfl
   obtain ⟨cl,e,h1,h2⟩:=zcZ r ((n,c) :: acc) hr
   refine ⟨cl,?_,λx c' q=>?_,λx q=>?_⟩
   ·rw [List.forIn_cons]
    have e1:cellOf env n=pure c:=by unfold cellOf;rw [hc]
    simp only [beq_self_eq_true,if_true,e1]
    exact e
   ·rcases h1 x c' q with z | z
    ·rw [List.lookup_cons] at z
     cases hx:x == n with
     | true =>
      rw [hx] at z
      have z':some c=some c':=z
      cases z'
      have:x=n:=eq_of_beq hx
      subst this
      exact .inr hc
     | false=>rw [hx] at z;exact .inl z
    ·exact .inr z
   ·refine h2 x ?_
    by_cases hx:x=n
    ·subst hx
     exact .inr ⟨c,by rw [List.lookup_cons];simp⟩
    ·rcases q with q | ⟨c',q⟩
     ·rcases List.mem_cons.mp q with q | q
      ·exact absurd (congrArg Prod.fst q) hx
      ·exact .inl q
     ·refine .inr ⟨c',?_⟩
      have:(x == n)=false:=by simpa using hx
      rw [List.lookup_cons,this]
      exact q
  ·obtain ⟨cl,e,h1,h2⟩:=zcZ r acc hr
   refine ⟨cl,?_,h1,λx q=>h2 x ?_⟩
   ·rw [List.forIn_cons]
    have e1:(k == NameKind.free)=false:=by simpa using hk
    simp only [e1,Bool.false_eq_true,if_false]
    exact e
   ·rcases q with q | q
    ·rcases List.mem_cons.mp q with q | q
     ·exact absurd (congrArg Prod.snd q).symm hk
     ·exact .inl q
    ·exact .inr q
theorem zfX {scope:Scope} {env:Env} (h:∀ x∈scope.names,x.2=.free->∃ c,env.cells.lookup x.1=some c) :
  ∃ cl,closureFor scope env=pure cl∧(∀ x c,cl.lookup x=some c->env.cells.lookup x=some c)∧∀ x,(x,NameKind.free)∈scope.names->∃ c,cl.lookup x=some c:=by
 obtain ⟨cl,e,h1,h2⟩:=zcZ (env:=env) scope.names [] h
 refine ⟨cl,?_,λx c q=>(h1 x c q).elim (λz=>by cases z) id,λx q=>h2 x (.inl q)⟩
 have e2:closureFor scope env=(forIn (m:=Sem) scope.names [] λ(x:Str×NameKind) (cs:List (Str×Addr))=>if (x.2 == NameKind.free)=true then (do let a ← cellOf env x.1;pure (ForInStep.yield ((x.1,a) :: cs))) else pure (ForInStep.yield cs)) >>= λr=>pure r:=by
  unfold closureFor
  rfl
 rw [e2,e]
 rfl
theorem zbL {env:Env}:∀ {names:List (Str×NameKind)} {x:Str} {k:NameKind},
  (names.map λ(n,k)=>if (k==NameKind.free && env.scope.kind== .function && env.kindOf n==some .cell) then (n,NameKind.cell) else (n,k)).lookup x=some k →
   names.lookup x=some k∨(k=.cell∧names.lookup x=some .free)
 | [],_,_,h=>by simp at h
 | (n,k') :: r,x,k,h=>by
  have ih:=@zbL env r x k
  have h:List.lookup x ((if (k'==NameKind.free && env.scope.kind== .function && env.kindOf n==some .cell)=true then (n,NameKind.cell) else (n,k')) :: _)=some k:=h
  cases hx:x == n with
  | true =>
   by_cases hc:(k'==NameKind.free && env.scope.kind== .function && env.kindOf n==some .cell)=true
   ·rw [if_pos hc] at h
    simp only [List.lookup_cons,hx] at h
    cases h
    simp only [Bool.and_eq_true,beq_iff_eq] at hc
    refine .inr ⟨rfl,?_⟩
    simp [List.lookup_cons,hx,hc.1.1]
   ·rw [if_neg hc] at h
    simp only [List.lookup_cons,hx] at h
    cases h
    exact .inl (by simp [List.lookup_cons,hx])
  | false =>
   have h':(r.map λ(n,k)=>if (k==NameKind.free && env.scope.kind== .function && env.kindOf n==some .cell) then (n,NameKind.cell) else (n,k)).lookup x=some k:=by
    by_cases hc:(k'==NameKind.free && env.scope.kind== .function && env.kindOf n==some .cell)=true
    ·rw [if_pos hc] at h
     simpa only [List.lookup_cons,hx] using h
    ·rw [if_neg hc] at h
     simpa only [List.lookup_cons,hx] using h
   simpa only [List.lookup_cons,hx] using ih h'
theorem zcn:∀ (names:List (Str×NameKind)) (a:Nat) (acc:List (Str×Addr)) (x:Str) (c:Addr),((cellsFrom a names acc)).lookup x=some c->((x,NameKind.cell)∈names∧a≤c)∨((x,NameKind.cell) ∉ names∧acc.lookup x=some c)
 | [],_,_,_,_,h=>.inr ⟨by simp,h⟩
 | (n,k) :: r,a,acc,x,c,h=>by
  unfold cellsFrom at h
  by_cases hk:k=.cell
  ·subst hk
   rw [if_pos (by rfl)] at h
   rcases zcn r (a+1) ((n,a) :: acc) x c h with ⟨h1,h2⟩ | ⟨h1,h2⟩
   ·exact .inl ⟨List.mem_cons_of_mem _ h1,Nat.le_of_succ_le h2⟩
   ·rw [List.lookup_cons] at h2
    cases hx:x == n with
    | true =>
     rw [hx] at h2
     have h2:some a=some c:=h2
     cases h2
     rw [eq_of_beq hx]
     exact .inl ⟨List.mem_cons_self,Nat.le_refl _⟩
    | false =>
     rw [hx] at h2
     refine .inr ⟨λz=>?_,h2⟩
     rcases List.mem_cons.mp z with z | z
     ·have:=congrArg Prod.fst z
      have:x=n:=this
      rw [this] at hx
      simp at hx
     ·exact h1 z
  ·have hk':(k==NameKind.cell)=false:=by simpa using hk
   rw [hk',if_neg (by simp)] at h
   rcases zcn r a acc x c h with ⟨h1,h2⟩ | ⟨h1,h2⟩
   ·exact .inl ⟨List.mem_cons_of_mem _ h1,h2⟩
   ·refine .inr ⟨λz=>?_,h2⟩
    rcases List.mem_cons.mp z with z | z
    ·exact hk (congrArg Prod.snd z).symm
    ·exact h1 z
theorem zdt:∀ (names:List (Str×NameKind)) (a:Nat) (acc:List (Str×Addr)) (x:Str),((x,NameKind.cell)∈names∨∃ c,acc.lookup x=some c)->∃ c,((cellsFrom a names acc)).lookup x=some c
 | [],_,_,_,h=>by
  rcases h with h | h
  ·simp at h
  ·exact h
 | (n,k) :: r,a,acc,x,h=>by
  unfold cellsFrom
  by_cases hk:k=.cell
  ·subst hk
   rw [if_pos (by rfl)]
   refine zdt r (a+1) ((n,a) :: acc) x ?_
   by_cases hx:x=n
   ·subst hx
    exact .inr ⟨a,by rw [List.lookup_cons];simp⟩
   ·rcases h with h | ⟨c,h⟩
    ·rcases List.mem_cons.mp h with h | h
     ·exact absurd (congrArg Prod.fst h) hx
     ·exact .inl h
    ·refine .inr ⟨c,?_⟩
     have:(x == n)=false:=by simpa using hx
     rw [List.lookup_cons,this]
     exact h
  ·have hk':(k==NameKind.cell)=false:=by simpa using hk
   rw [hk',if_neg (by simp)]
   refine zdt r a acc x ?_
   rcases h with h | h
   ·rcases List.mem_cons.mp h with h | h
    ·exact absurd (congrArg Prod.snd h).symm hk
    ·exact .inl h
   ·exact .inr h
theorem zcT:∀ (names:List (Str×NameKind)) (a:Nat) (acc acc':List (Str×Addr)) (x:Str),((x,NameKind.cell)∈names∨acc.lookup x=acc'.lookup x)->((cellsFrom a names acc)).lookup x=(cellsFrom a names acc').lookup x
 | [],_,_,_,_,h=>by
  rcases h with h | h
  ·simp at h
  ·exact h
 | (n,k) :: r,a,acc,acc',x,h=>by
  unfold cellsFrom
  by_cases hk:k=.cell
  ·subst hk
   rw [if_pos (by rfl),if_pos (by rfl)]
   refine zcT r (a+1) _ _ x ?_
   by_cases hx:x=n
   ·subst hx
    exact .inr (by rw [List.lookup_cons,List.lookup_cons];simp)
   ·have hx':(x == n)=false:=by simpa using hx
    rcases h with h | h
    ·rcases List.mem_cons.mp h with h | h
     ·exact absurd (congrArg Prod.fst h) hx
     ·exact .inl h
    ·exact .inr (by rw [List.lookup_cons,List.lookup_cons,hx'];exact h)
  ·have hk':(k==NameKind.cell)=false:=by simpa using hk
   rw [hk',if_neg (by simp),if_neg (by simp)]
   refine zcT r a _ _ x ?_
   rcases h with h | h
   ·rcases List.mem_cons.mp h with h | h
    ·exact absurd (congrArg Prod.snd h).symm hk
    ·exact .inl h
   ·exact .inr h
theorem zb3 {M:Model} {A:Around} {E:Value->Shared->Prop} {s:Shared} {scope:Scope} {globals:Addr} {closure:List (Str×Addr)} {qual:Str} {func:Option Addr} {code:Value} {outer:Env} {builtins:Addr} {Q:Env->Shared->Prop}
  (hQ:∀ h',h'.Ns s.heap.objs.size (λ_=>none)->(∀ b o,s.heap.get? b=some o->h'.get? b=some o) →
   (∀ x c,(x,NameKind.cell)∈scope.names->((cellsFrom (s.heap.objs.size+1) scope.names closure)).lookup x=some c->h'.IsCell c none) →
   Q (newEnv scope s.heap.objs.size globals (cellsFrom (s.heap.objs.size+1) scope.names closure) qual func code (some outer) builtins) { s with heap:=h' }) :
  wpAny M A (newFunctionEnv scope globals closure [] qual func code (some outer) builtins) Q E s:=by
 simp only [newFunctionEnv,Option.isSome_some,if_true]
 refine wpAny_bind (wpAny_alloc ?_)
 refine wpAny_bind (wpAny_layCells _ (λname kind cells=>by cases hkc:kind == NameKind.cell<;>simp [hkc]) _ _ _ _ ?_)
 have ok:=cellsFrom_ok scope.names (s.heap.push { cls:=.type "dict",data:=.dict #[] }) (s.heap.objs.size+1) [] ⟨λ_ _ hm=>(nomatch hm),List.Pairwise.nil⟩ (by rw [Heap.size_push];exact Nat.le_refl _)
 rw [Heap.size_push] at ok
 rw [show ({ s with heap:=s.heap.push { cls:=.type "dict",data:=.dict #[] } }:Shared).heap.objs.size=s.heap.objs.size+1 from Heap.size_push ..]
 simp only [List.forIn_nil]
 refine wpAny_bind (wpAny_pure (wpAny_pure (hQ _ ((Heap.Ns.new s.heap (.type "dict")).keeps (pushCells_keeps _ _)) (λb o e=>pushCells_keeps _ _ b o (Heap.get?_push_of_some _ e)) λx c hx hc=>?_)))
 rw [zcT _ _ closure [] x (.inl hx)] at hc
 exact (ok.empty x c (PySem.mem_of_lookup hc)).1
def za6 (X:Cx) (N':List Str) (scope:Scope) (cl:List (Str×Addr)) (C:Addr) (fp:List Addr) (s:Shared) (H:Hp):Cx where
 prog:=X.prog
 w:=X.w
 K:=X.K
 mg:=X.mg
 base:=X.base
 A:=X.A
 N:=N'
 s₀:=s
 H₀:=H
 env:=compEnvC scope cl C X.env
 outer:=X.stack
 stack:=X.stack
 ex:=fp
 fn:=λx=>scope.names.lookup x == some .cell
 calm:=true
 pn:=X.pn
 xe:=λ_ _=>False
def zdN (own:Nat) (fv:List Nat) (σ:St):St:=List.replicate own none++fv.map λi=>(σ[i]?).join
structure BlkScope (X:Cx) (scope:Scope) (own fvn:List Str) (fv:List Nat):Prop where
 cell:∀ y∈scope.names,y.2=.cell->scope.names.lookup y.1=some .cell
 fre:∀ y∈scope.names,y.2=.free->scope.names.lookup y.1=some .free
 kind:scope.kind=.function
 names:∀ y∈scope.names,y.2=.local->scope.names.lookup y.1=some .local
 free:∀ y∈scope.names,y.2=.free->X.env.scope.names.lookup y.1=some .cell∨X.env.scope.names.lookup y.1=some .free
 map:fvn.map some=fv.map λi=>X.N[i]?
 vis:∀ x∈fvn,scope.names.lookup x=some .free
section
variable {X:Cx} {pins:List (Addr×Obj)} {σ:St} {H:Hp} {s:Shared}
def zhE (X:Cx) (scope:Scope) (cl:List (Str×Addr)) (C:Addr):Prop:=(∀ x c,cl.lookup x=some c->(X.env.cells.lookup x=some c∧scope.names.lookup x≠some .cell)∨(C<c∧scope.names.lookup x=some .cell)) ∧
 (∀ x y c,C<c->cl.lookup x=some c->cl.lookup y=some c->x=y)∧∀ x,((x,NameKind.free)∈scope.names∨(x,NameKind.cell)∈scope.names)->∃ c,cl.lookup x=some c
theorem zkt {scope:Scope} {own fvn:List Str} {fv:List Nat} {cl:List (Str×Addr)} {C:Addr} (B:BlkScope X scope own fvn fv) (h1:∀ x c,cl.lookup x=some c->X.env.cells.lookup x=some c) (h2:∀ x,(x,NameKind.free)∈scope.names->∃ c,cl.lookup x=some c)
  (hlt:∀ x c,X.env.cells.lookup x=some c->c≤C):zhE X scope (cellsFrom (C+1) scope.names cl) C:=by
 refine ⟨λx c e=>?_,λx y c hc e1 e2=>?_,λx hx=>?_⟩
 ·rcases zcn _ _ _ _ _ e with ⟨z1,z2⟩ | ⟨z1,z2⟩
  ·exact .inr ⟨z2,B.cell _ z1 rfl⟩
  ·exact .inl ⟨h1 x c z2,λq=>z1 (PySem.mem_of_lookup q)⟩
 ·have key:∀ x,(cellsFrom (C+1) scope.names cl).lookup x=some c->(x,c)∈cellsFrom (C+1) scope.names []:=λx e=>by
   rcases zcn _ _ _ _ _ e with ⟨z1,z2⟩ | ⟨z1,z2⟩
   ·rw [zcT _ _ cl [] x (.inl z1)] at e
    exact PySem.mem_of_lookup e
   ·exact absurd (hlt x c (h1 x c z2)) (Nat.not_le.mpr hc)
  have ap:∀ (names:List (Str×NameKind)) (a:Nat) (acc:List (Str×Addr)),(∀ e∈acc,e.2<a)->(acc.Pairwise λx y=>x.2≠y.2)->((cellsFrom a names acc)).Pairwise λx y=>x.2≠y.2:=by
   intro names
   induction names with
   | nil=>intro a acc _ h;exact h
   | cons nk r ih =>
    intro a acc h h'
    obtain ⟨n,k⟩:=nk
    unfold cellsFrom
    split
    ·refine ih (a+1) _ (λe he=>?_) (List.pairwise_cons.mpr ⟨λy hy=>Nat.ne_of_gt (h y hy),h'⟩)
     rcases List.mem_cons.mp he with rfl | he
     ·exact Nat.lt_succ_self _
     ·exact Nat.lt_succ_of_lt (h e he)
    ·exact ih a acc h h'
  exact PySem.name_of_addr (ap scope.names (C+1) [] (by simp) .nil) (key x e1) (key y e2)
 ·refine zdt _ _ _ _ ?_
  rcases hx with hx | hx
  ·exact .inr (h2 x hx)
  ·exact .inl hx
theorem zhn {scope:Scope} {own fvn:List Str} {fv:List Nat} {cl:List (Str×Addr)} {C:Addr} {fp:List Addr} (I:Inv X pins σ H s) (B:BlkScope X scope own fvn fv) (hc:X.calm=true)
  (hb:zhE X scope cl C)
  (hC:s.heap.objs.size≤C) (hf:∀ b∈fp,zfm X pins H b) (hl:∀ b∈fp,b<s.heap.objs.size):((za6 X (own++fvn) scope cl C fp s H)).Ok where
 mod:=I.ok.mod
 kind:=B.kind
 glob:=I.ok.glob
 blt:=I.ok.blt
 above:=hC
 inj:=λx y c e1 e2=>by
  have lt:∀ z,X.env.cells.lookup z=some c->c<s.heap.objs.size:=λz e=>by obtain ⟨v,q⟩:=I.cell z c e;exact q.lt
  rcases hb.1 x c e1 with ⟨z1,_⟩ | ⟨z1,_⟩
  ·rcases hb.1 y c e2 with ⟨z2,_⟩ | ⟨z2,_⟩
   ·exact I.ok.inj x y c z1 z2
   ·exact absurd (Nat.lt_of_lt_of_le (lt x z1) hC) (Nat.not_lt.mpr (Nat.le_of_lt z2))
  ·exact hb.2.1 x y c z1 e1 e2
 has:=λx hx=>by
  have hx:((scope.names.map λ(n,k)=>if (k==NameKind.free && X.env.scope.kind== .function && X.env.kindOf n==some .cell) then (n,NameKind.cell) else (n,k))).lookup x=some .cell ∨
   ((scope.names.map λ(n,k)=>if (k==NameKind.free && X.env.scope.kind== .function && X.env.kindOf n==some .cell) then (n,NameKind.cell) else (n,k))).lookup x=some .free:=hx
  refine hb.2.2 x ?_
  rcases hx with hx | hx
  ·rcases zbL hx with z | ⟨_,z⟩
   ·exact .inr (PySem.mem_of_lookup z)
   ·exact .inl (PySem.mem_of_lookup z)
  ·rcases zbL hx with z | ⟨z,_⟩
   ·exact .inl (PySem.mem_of_lookup z)
   ·cases z
 cab:=λx c h e=>by
  have h:(scope.names.lookup x == some NameKind.cell)=true:=h
  rcases hb.1 x c e with ⟨_,z⟩ | ⟨z,_⟩
  ·exact absurd (eq_of_beq h) z
  ·exact Nat.le_trans hC (Nat.le_of_lt z)
 hd:=λ_=>I.ok.hd hc
 frames:=I.ok.frames
 stk:=.inl rfl
 exf:=λb hb'=>⟨Nat.ne_of_lt (Nat.lt_of_lt_of_le (hl b hb') hC),λx c e=>by
  rcases hb.1 x c e with ⟨z,_⟩ | ⟨z,_⟩
  ·exact (hf b hb').2.2.2.2.1 x c z
  ·exact Nat.ne_of_gt (Nat.lt_trans (Nat.lt_of_lt_of_le (hl b hb') hC) z)⟩
 bs:=I.bs
 bsz:=Nat.le_trans I.ok.bsz I.sz
 noex:=λb o e hb=>by
  rcases (hf b hb).2.2.2.1 with z | z
  ·exact I.ok.noex b o e z
  ·exact absurd (Nat.lt_of_lt_of_le (Heap.lt_size ((I.ok.bs b o e)).1) z) (Nat.lt_irrefl _)
 exfs:=λb hb z=>by
  rcases List.mem_cons.mp (I.stkSub b z) with q | q
  ·exact (hf b hb).2.1 q
  ·exact (hf b hb).2.2.1 q
 funs:=I.stack
 frf:=I.stkFree
theorem ziy {own:List Str} {fvn:List Str} {fv:List Nat} {i:Nat} {x:Str} {v:V} (hm:fvn.map some=fv.map λi=>X.N[i]?) (h1:(own++fvn)[i]?=some x) (h2:((zdN own.length fv σ))[i]?=some (some v)) :
  x∈fvn∧∃ j:Nat,X.N[j]?=some x∧σ[j]?=some (some v):=by
 unfold zdN at h2
 by_cases hi:i<own.length
 ·rw [List.getElem?_append_left (by simpa using hi),List.getElem?_replicate] at h2
  split at h2<;>cases h2
 ·rw [List.getElem?_append_right (by simpa using hi),List.length_replicate,List.getElem?_map] at h2
  rw [List.getElem?_append_right (by simpa using hi)] at h1
  have q:(fvn.map some)[i-own.length]?=(fv.map λi=>X.N[i]?)[i-own.length]?:=by rw [hm]
  rw [List.getElem?_map,List.getElem?_map,h1] at q
  cases e:fv[i-own.length]? with
  | none=>rw [e] at h2;cases h2
  | some j =>
   rw [e] at h2 q
   have q':X.N[j]?=some x:=(Option.some.inj q).symm
   have h2':(σ[j]?).join=some v:=Option.some.inj h2
   refine ⟨List.mem_of_getElem? h1,j,q',?_⟩
   cases e2:σ[j]? with
   | none=>rw [e2] at h2';cases h2'
   | some o =>
    rw [e2] at h2'
    have:o=some v:=h2'
    rw [this]
theorem ze2 {scope:Scope} {own fvn:List Str} {fv:List Nat} {cl:List (Str×Addr)} {C D:Addr} {fp:List Addr} {h':Heap} {t':Nat} {m:Str->Option Value} (I:Inv X pins σ H s) (B:BlkScope X scope own fvn fv) (hc:X.calm=true)
  (hb:zhE X scope cl C) (hnew:∀ x c,C<c->cl.lookup x=some c->h'.IsCell c none)
  (hf:∀ b∈fp,zfm X pins H b) (hl:∀ b∈fp,b<s.heap.objs.size) (hD:s.heap.objs.size≤D) (hC:s.heap.objs.size≤C) (hDC:D<C)
  (k:∀ b o,s.heap.get? b=some o->h'.get? b=some o) (hn:h'.Ns C m) (ho:h'.get? D=some { cls:=.type "list",data:=.seq #[] 0 }) :
  Inv (za6 X (own++fvn) scope cl C fp s H) pins (zdN own.length fv σ) (upd H D (.lst [])) { s with heap:=h',toks:=t' }:=by
 have hDn:H D=none:=I.hok.fresh hD
 have hCn:H C=none:=I.hok.fresh hC
 have lt:∀ b o,s.heap.get? b=some o->b≠D:=λb o e=>Nat.ne_of_lt (Nat.lt_of_lt_of_le (Heap.lt_size e) hD)
 refine ⟨zhn I B hc hb hC hf hl,rfl,I.bare,Un.laid k hD hDn,⟨m,hn,λi x v e1 e2 e3=>?_⟩,λx c e=>?_,?_,λx c e=>?_,λp hp=>?_,?_,?_⟩
 ·obtain ⟨hx,j,e4,e5⟩:=ziy B.map e1 e2
  have hfr:=B.vis x hx
  obtain ⟨c,hcl⟩:=hb.2.2 x (.inl (PySem.mem_of_lookup hfr))
  have h1x:X.env.cells.lookup x=some c:=by
   rcases hb.1 x c hcl with ⟨z,_⟩ | ⟨_,z⟩
   ·exact z
   ·rw [hfr] at z;cases z
  obtain ⟨m0,hn0,hl0⟩:=I.loc
  have ok:=B.free _ (PySem.mem_of_lookup hfr) rfl
  have hv:Vis X.env.scope x:=by
   rcases ok with z | z
   ·exact .inr (.inl z)
   ·exact .inr (.inr z)
  obtain ⟨u,r,l⟩:=hl0 j x v e4 e5 hv
  refine ⟨u,r,.inr ⟨?_,c,hcl,?_⟩⟩
  ·rcases e3 with z | z | z
   ·have z':((scope.names.map λ(n,k)=>if (k==NameKind.free && X.env.scope.kind== .function && X.env.kindOf n==some .cell) then (n,NameKind.cell) else (n,k))).lookup x=some .local:=z
    rcases zbL z' with y | ⟨y,_⟩
    ·rw [hfr] at y;cases y
    ·cases y
   ·exact .inl z
   ·exact .inr z
  ·rcases l with ⟨k0,_⟩ | ⟨_,c',e6,o,ho',hd⟩
   ·have k0':X.env.scope.names.lookup x=some .local:=k0
    rcases ok with z | z<;>(rw [k0'] at z;cases z)
   ·rw [h1x] at e6
    cases e6
    exact ⟨o,k _ _ ho',hd⟩
 ·rcases hb.1 x c e with ⟨z,_⟩ | ⟨z,_⟩
  ·obtain ⟨v,o,ho',hd⟩:=I.cell x c z
   exact ⟨v,o,k _ _ ho',hd⟩
  ·exact ⟨none,hnew x c z e⟩
 ·show upd H D (.lst []) C=none
  rw [zad (Nat.ne_of_gt hDC)];exact hCn
 ·rcases hb.1 x c e with ⟨z,_⟩ | ⟨z,_⟩
  ·obtain ⟨v,o,ho',hd⟩:=I.cell x c z
   rw [zad (lt _ _ ho')]
   exact I.freeC x c z
  ·rw [zad (Nat.ne_of_gt (Nat.lt_trans hDC z))]
   exact I.hok.fresh (Nat.le_trans hC (Nat.le_of_lt z))
 ·obtain ⟨e,n,ne,nf,d⟩:=I.pin p hp
  refine ⟨k _ _ e,?_,Nat.ne_of_lt (Nat.lt_of_lt_of_le (Heap.lt_size e) hC),λz=>?_,d⟩
  ·rw [zad (lt _ _ e)];exact n
  ·rcases List.mem_cons.mp (I.stkSub _ z) with q | q
   ·exact ne q
   ·exact nf q
 ·exact I.hok.laid k hD ⟨Nat.zero_le _,[],0,.nil,ho⟩
 ·have hm:=congrArg List.length B.map
  rw [List.length_map,List.length_map] at hm
  show ((zdN own.length fv σ)).length=(own++fvn).length
  unfold zdN
  rw [List.length_append,List.length_append,List.length_replicate,List.length_map,hm]
theorem zgt {scope:Scope} {N':List Str} {cl:List (Str×Addr)} {C:Addr} {fp:List Addr} {σ':St} {H':Hp} {s':Shared} (I:Inv X pins σ H s) (hC:s.heap.objs.size≤C) (hf:∀ b∈fp,zfm X pins H b)
  (J:Inv (za6 X N' scope cl C fp s H) pins σ' H' s'):Inv X pins σ H' s'∧zfm X pins H' C:=by
 have I':Inv X pins σ H' s':=I.call' (ch:=fp) J.os J.base J.hok J.bare λb hb=>⟨(hf b hb).2.2.2.1,(hf b hb).2.1,(hf b hb).2.2.2.2.1,(hf b hb).2.2.2.2.2⟩
 refine ⟨I',J.free,Nat.ne_of_gt (Nat.lt_of_lt_of_le I.lt hC),I.nofs hC,.inr (Nat.le_trans I.sz hC),λx c e z=>?_,λp hp z=>?_⟩
 ·obtain ⟨v,q⟩:=I.cell x c e
  exact absurd (Nat.lt_of_lt_of_le q.lt (by rw [z];exact hC)) (Nat.lt_irrefl _)
 ·exact absurd (Nat.lt_of_lt_of_le (Heap.lt_size (I.pin p hp).1) (by rw [z];exact hC)) (Nat.lt_irrefl _)
end
section
variable {prog:Program} {w:World} {A:Around} {R:Result->Shared->Prop} {s:Shared}
theorem zgk {elt target iter:Expr} {ifs:List Expr} {scope:Scope} {pos:Pos} {it acc:Value} {env:Env} (I:Nat->Shared->Prop)
  (turn:∀ n s,I n s->wpAny (model prog w) A (pyNext it) (λr s₁=>match r with
   | none=>R (.ok .next) s₁
   | some v=>wpAny (model prog w) A (letOwnedTupleGo target it v) (λ_ s₁'=>wpAny (model prog w) A (assign target env v) (λ_ s₂ =>
     wpAny (model prog w) A (forIn ifs true λc r=>if r=true then do let ok ← isTrue c env (eval c env);pure (ForInStep.yield ok) else pure (ForInStep.yield r)) (λok s₃ =>
      if ok=true then wpAny (model prog w) A (eval elt env) (λx s₄ =>
       wpAny (model prog w) A (call (.builtin "list.append") [acc,x]) (λ_ s₅=>∃ m,m<n∧I m s₅) (λ_ _=>False) s₄) (λ_ _=>False) s₃
      else ∃ m,m<n∧I m s₃) (λ_ _=>False) s₂) (λ_ _=>False) s₁') (λ_ _=>False) s₁) (λ_ _=>False) s)
  (n:Nat) (h:I n s) :
  codeAny (model prog w) A (.compLoop (.ListComp elt [⟨target,iter,ifs,0⟩] scope pos) 0 it acc env) R s:=by
 refine codeAny_loop rfl I (λn s hI=>?_) n h
 show wpAny _ A ((compTurn (.ListComp elt [⟨target,iter,ifs,0⟩] scope pos) 0 it acc env).onRaise (λx=>do noteFrame x env;theTreesLotGoes x)) _ _ s
 refine wpAny_noted ?_
 rw [compTurn_list]
 refine wpAny_bind (wpAny_standAt (wpAny_bind (wpAny_mono (turn n s hI) (λr s₁ h₁=>?_) λ_ _ h'=>h'.elim)))
 cases r with
 | none=>exact wpAny_pure h₁
 | some v =>
  refine wpAny_bind (wpAny_mono h₁ (λ_ s₁' h₁'=>?_) λ_ _ h'=>h'.elim)
  refine wpAny_bind (wpAny_mono h₁' (λ_ s₂ h₂=>wpAny_bind (wpAny_mono h₂ (λok s₃ h₃=>?_) λ_ _ h'=>h'.elim)) λ_ _ h'=>h'.elim)
  cases ok with
  | false=>exact wpAny_pure ⟨rfl,h₃⟩
  | true =>
   exact wpAny_bind (wpAny_bind (wpAny_mono h₃ (λx s₄ h₄=>wpAny_bind (wpAny_mono h₄ (λ_ s₅ h₅=>wpAny_pure (wpAny_pure ⟨rfl,h₅⟩)) λ_ _ h'=>h'.elim)) λ_ _ h'=>h'.elim))
end
abbrev TTs:=St->Hp->(Bool->Hp->Prop)->Prop
def PTs (X:Cx) (ifs:List Expr) (t:TTs):Prop :=
 ∀ (pins:List (Addr×Obj)) (s:Shared) (σ:St) (H:Hp) (Q:Bool->Hp->Prop),Inv X pins σ H s->t σ H Q →
  wpAny (model X.prog X.w) X.A (forIn ifs true λc r=>if r=true then do let ok ← isTrue c X.env (eval c X.env);pure (ForInStep.yield ok) else pure (ForInStep.yield r)) (TP X pins σ Q) X.xe s
def ziT:TTs:=λ_ H Q=>Q true H
theorem zdz {X:Cx}:PTs X [] ziT:=λ_ _ _ H _ I h=>wpAny_tests_nil ⟨H,I,h⟩
def zhy (own:Nat) (fv:List Nat) (wi:TI) (g:TG) (tt:TTs) (te:TE):TE:=λσ H Q=>wi σ H λJ H1=>∀ D,H1 D=none →
 ∃ W:Nat->Nat->List V->St->Hp->Prop,(∃ m,W 0 m [] (zdN own fv σ) (upd H1 D (.lst [])))∧∀ i m ys σb H,W i m ys σb H->H D=some (.lst ys) ∧
  ((J.stop i H∧Q (.ref D) H)∨(J.go i H∧∀ x H',J.yld i H x H'->g x σb H' λσ2 H2=>tt σ2 H2 λok H3=>if ok=true then te σ2 H3 λy H4=>H4 D=some (.lst ys)∧ys.length<sizeLine∧∃ m',m'<m∧W (i+1) m' (ys++[y]) σ2 (upd H4 D (.lst (ys++[y])))
   else ∃ m',m'<m∧W (i+1) m' ys σ2 H3))
section
variable {X:Cx} {tg iter elt:Expr} {ifs:List Expr} {scope:Scope} {pos:Pos} {wi:TI} {g:TG} {tt:TTs} {te:TE} {own fvn:List Str} {fv:List Nat}
theorem zfF {pins:List (Addr×Obj)} {σ:St} {s:Shared} {Q:VK} {E:Value->Shared->Prop} {cl:List (Str×Addr)} {RR:Value->Addr->Result->Shared->Prop} {itv:Value}
  (hc:X.calm=true) (B:BlkScope X scope own fvn fv) (h1:∀ x c,cl.lookup x=some c->X.env.cells.lookup x=some c) (h2:∀ x,(x,NameKind.free)∈scope.names->∃ c,cl.lookup x=some c)
  (hb:∀ (cl:List (Str×Addr)) (C:Addr) (fp:List Addr) (s:Shared) (H:Hp),PG (za6 X (own++fvn) scope cl C fp s H) tg g∧PTs (za6 X (own++fvn) scope cl C fp s H) ifs tt∧PE (za6 X (own++fvn) scope cl C fp s H) elt te)
  (P:PIE X pins σ tg (λJ H1=>∀ D,H1 D=none →
   ∃ W:Nat->Nat->List V->St->Hp->Prop,(∃ m,W 0 m [] (zdN own.length fv σ) (upd H1 D (.lst [])))∧∀ i m ys σb H,W i m ys σb H->H D=some (.lst ys) ∧
    ((J.stop i H∧Q (.ref D) H)∨(J.go i H∧∀ x H',J.yld i H x H'->g x σb H' λσ2 H2=>tt σ2 H2 λok H3=>if ok=true then te σ2 H3 λy H4=>H4 D=some (.lst ys)∧ys.length<sizeLine∧∃ m',m'<m∧W (i+1) m' (ys++[y]) σ2 (upd H4 D (.lst (ys++[y])))
     else ∃ m',m'<m∧W (i+1) m' ys σ2 H3))) itv s)
  (hRR:∀ D C s' H' m,Inv X pins σ H' s'->s'.heap.Ns C m->zfm X pins H' C->Q (.ref D) H'->RR (.ref D) C (.ok .next) s') :
  wpAny (model X.prog X.w) X.A (newList []) (λacc s₃=>wpAny (model X.prog X.w) X.A (newFunctionEnv scope X.env.globals cl [] X.env.qual none .none (some X.env)) (λcenv s₄ =>
   codeAny (model X.prog X.w) X.A (.compStart (.ListComp elt [⟨tg,iter,ifs,0⟩] scope pos) 0 itv acc { cenv with scope:=relabel scope X.env }) (RR acc cenv.locals) s₄) E s₃) E s:=by
 obtain ⟨it,fp,tn,J,H2,rfl,I2,T,st2,f2,hW⟩:=P
 have hl:∀ b∈fp,b<s.heap.objs.size:=λb hb=>by
  obtain ⟨o,e,_⟩:=T.obj _ _ st2 b hb
  exact Heap.lt_size e
 refine wpAny_newObj_type (zb3 (λh₁ hns₁ hsb₁ hcl₁=>?_))
 dsimp only at hns₁ hsb₁ hcl₁ ⊢
 generalize hH2:s.heap.push { cls:=.type "list",dict:=none,data:=.seq ([]:List Value).toArray }=G2 at hns₁ hsb₁ hcl₁ ⊢
 have hC:G2.objs.size=s.heap.objs.size+1:=by rw [← hH2,Heap.size_push]
 have hDC:s.heap.objs.size<G2.objs.size:=by rw [hC];exact Nat.lt_succ_self _
 have hCle:s.heap.objs.size≤G2.objs.size:=by rw [hC];exact Nat.le_succ _
 have old:∀ b o,s.heap.get? b=some o->h₁.get? b=some o:=λb o e=>hsb₁ b o (hH2 ▸ Heap.get?_push_of_some _ e)
 have hacc:h₁.get? s.heap.objs.size=some { cls:=.type "list",data:=.seq #[] 0 }:=hsb₁ _ _ (hH2 ▸ Heap.get?_push_size _ rfl)
 have hbc:zhE X scope (cellsFrom (G2.objs.size+1) scope.names cl) G2.objs.size:=zkt B h1 h2 λx c e=>by
  obtain ⟨v,q⟩:=I2.cell x c e
  exact Nat.le_trans (Nat.le_of_lt q.lt) hCle
 have hnew:∀ x c,G2.objs.size<c->((cellsFrom (G2.objs.size+1) scope.names cl)).lookup x=some c->h₁.IsCell c none:=λx c hc' e=>by
  rcases hbc.1 x c e with ⟨z,_⟩ | ⟨_,z⟩
  ·obtain ⟨v,q⟩:=I2.cell x c z
   exact absurd (Nat.lt_of_lt_of_le q.lt hCle) (Nat.not_lt.mpr (Nat.le_of_lt hc'))
  ·exact hcl₁ x c (PySem.mem_of_lookup z) e
 generalize cellsFrom (G2.objs.size+1) scope.names cl=cl' at hbc hnew ⊢
 clear h1 h2 hcl₁
 obtain ⟨W,⟨m0,w0⟩,turn⟩:=hW s.heap.objs.size (I2.hok.fresh (Nat.le_refl _))
 have J0:∀ t',Inv (za6 X (own++fvn) scope cl' G2.objs.size fp s H2) pins (zdN own.length fv σ) (upd H2 s.heap.objs.size (.lst [])) { s with heap:=h₁,toks:=t' }:=λt' =>
  ze2 I2 B hc hbc hnew f2 hl (Nat.le_refl _) hCle hDC old hns₁ hacc
 obtain ⟨hpg,hpt,hpe⟩:=hb cl' G2.objs.size fp s H2
 have stat:∀ {H':Hp},(∀b∈fp,H' b=none)->∀ b∈fp,zfm (za6 X (own++fvn) scope cl' G2.objs.size fp s H2) pins H' b:=λhn b hb =>
  ⟨hn b hb,Nat.ne_of_lt (Nat.lt_of_lt_of_le (hl b hb) hCle),λz=>by
   rcases List.mem_cons.mp (I2.stkSub b z) with q | q
   ·exact (f2 b hb).2.1 q
   ·exact (f2 b hb).2.2.1 q,.inl hb,λx c e=>(by
    rcases hbc.1 x c e with ⟨z,_⟩ | ⟨z,_⟩
    ·exact (f2 b hb).2.2.2.2.1 x c z
    ·exact Nat.ne_of_gt (Nat.lt_trans (Nat.lt_of_lt_of_le (hl b hb) hCle) z)),(f2 b hb).2.2.2.2.2⟩
 have st1:tn 0 h₁:=T.keep _ _ _ st2 λb hb o e=>old b o e
 have fr1:∀ b∈fp,upd H2 s.heap.objs.size (.lst []) b=none:=λb hb=>by
  rw [zad (Nat.ne_of_lt (hl b hb))];exact (f2 b hb).1
 have loop:∀ s₃:Shared,s₃={ s with heap:=h₁ } →
   codeAny (model X.prog X.w) X.A (.compLoop (.ListComp elt [⟨tg,iter,ifs,0⟩] scope pos) 0 (.ref it) (.ref s.heap.objs.size) (compEnvC scope cl' G2.objs.size X.env)) (RR (.ref s.heap.objs.size) G2.objs.size) s₃:=by
  rintro s₃ rfl
  refine zgk (λn s'=>∃ i ys σ' H',Inv (za6 X (own++fvn) scope cl' G2.objs.size fp s H2) pins σ' H' s'∧tn i s'.heap∧(∀b∈fp,H' b=none)∧W i n ys σ' H') ?_ m0 ⟨0,[],_,_,J0 s.toks,st1,fr1,w0⟩
  rintro n s3 ⟨i,ys,σ3,H3,I3,st3,fr3,w3⟩
  obtain ⟨hD,w3⟩:=turn i n ys σ3 H3 w3
  rcases w3 with ⟨stop,qn⟩ | ⟨go,step⟩
  ·refine thn (T.done (za6 X (own++fvn) scope cl' G2.objs.size fp s H2) rfl rfl rfl rfl i pins s3 σ3 H3 _ I3 (stat fr3) st3 stop) λr s4 ⟨hr,I4⟩=>?_
   subst hr
   obtain ⟨I5,fC⟩:=zgt I2 hCle f2 I4
   obtain ⟨m,hn,_⟩:=I4.loc
   exact hRR _ _ s4 H3 m I5 hn fC qn
  ·refine thn (T.item (za6 X (own++fvn) scope cl' G2.objs.size fp s H2) rfl rfl rfl rfl i pins s3 σ3 H3 _ I3 (stat fr3) st3 go) λr s4 ⟨u,hr,h4⟩=>?_
   subst hr
   refine thn h4 λ_ s5 ⟨x,H5,I5,r5,y5,st5,fr5⟩=>?_
   have I5':=I5.pinned (stat fr5) (T.obj _ _ st5)
   refine thn (hpg _ s5 σ3 H5 x u _ I5' r5 (step x H5 y5)) λ_ s6 ⟨σ6,H6,I6,q6⟩=>?_
   refine thn (hpt _ s6 σ6 H6 _ I6 q6) λok s7 ⟨H7,I7,q7⟩=>?_
   have again:∀ {s8:Shared} {σ8:St} {H8:Hp} {ys':List V} {m':Nat},Inv (za6 X (own++fvn) scope cl' G2.objs.size fp s H2) (pins++zdV fp s5.heap) σ8 H8 s8->m'<n->W (i+1) m' ys' σ8 H8 →
     ∃ m,m<n∧∃ i ys σ' H',Inv (za6 X (own++fvn) scope cl' G2.objs.size fp s H2) pins σ' H' s8∧tn i s8.heap∧(∀b∈fp,H' b=none)∧W i m ys σ' H':=λ{s8 σ8 H8 ys' m'} I8 hm w8=>by
    refine ⟨m',hm,i+1,ys',σ8,H8,I8.unpinned,T.keep _ _ _ st5 λb hb o e=>(I8.pin (b,o) (List.mem_append_right _ (List.mem_append_right _ (zbX hb e)))).1,λb hb=>?_,w8⟩
    obtain ⟨o,e,d⟩:=T.obj _ _ st5 b hb
    exact (I8.pin (b,o) (List.mem_append_right _ (List.mem_append_right _ (zbX hb e)))).2.1
   cases ok with
   | false =>
    rw [if_neg Bool.false_ne_true] at q7 ⊢
    obtain ⟨m',hm,w8⟩:=q7
    exact again I7 hm w8
   | true =>
    rw [if_pos rfl] at q7 ⊢
    refine thn (hpe _ s7 σ6 H7 _ I7 q7) λyv s8 ⟨y,H8,I8,r8,hD8,hz8,m',hm,w8⟩=>?_
    refine thn (zeP _ s8 σ6 H8 (.ref s.heap.objs.size) [y] _ [yv] (λ_ H9=>H9=upd H8 s.heap.objs.size (.lst (ys++[y]))) I8 rfl (.cons r8 .nil) ⟨_,ys,y,rfl,rfl,hD8,hz8,rfl⟩) λ_ s9 ⟨_,H9,I9,_,e9⟩=>?_
    subst e9
    exact again I9 hm w8
 exact codeAny_compStart_list (loop _ rfl) (T.self _ 0 _ _ _ st1 (loop _ rfl))
theorem zdI (B:BlkScope X scope own fvn fv) (ok:X.Ok):∃ cl,closureFor scope X.env=pure cl∧(∀ x c,cl.lookup x=some c->X.env.cells.lookup x=some c)∧∀ x,(x,NameKind.free)∈scope.names->∃ c,cl.lookup x=some c :=
 zfX λx hx hk=>ok.has x.1 (B.free x hx hk)
theorem zeg (hc:X.calm=true) (B:BlkScope X scope own fvn fv) (hi:PI X tg iter wi)
  (hb:∀ (cl:List (Str×Addr)) (C:Addr) (fp:List Addr) (s:Shared) (H:Hp),PG (za6 X (own++fvn) scope cl C fp s H) tg g∧PTs (za6 X (own++fvn) scope cl C fp s H) ifs tt∧PE (za6 X (own++fvn) scope cl C fp s H) elt te)
  (hs:∀ x,foldedSetIterable iter X.env x=pure x:=by intro _;rfl):PE X (.ListComp elt [⟨tg,iter,ifs,0⟩] scope pos) (zhy own.length fv wi g tt te):=by
 intro pins s σ H Q I h
 obtain ⟨cl,hcl,h1,h2⟩:=zdI B I.ok
 rw [eval_ListComp]
 refine wpAny_comprehension_free (use:=none) rfl hs hcl B.kind B.names (thn (hi pins s σ H _ I h) λv s1 q1=>thn q1 λitv s2 q2=> ?_)
 refine zfF (RR:=λacc C=>compPost (model X.prog X.w) X.A X.xe none (EP X pins σ Q) acc C) hc B h1 h2 hb q2 λD C s' H' m I' hn fC q=>?_
 exact ⟨m,hn,λh' hs'=>⟨.ref D,H',I'.turned (t':=s'.toks) (λb o hb e=>(hs'.2 b hb).trans e) fC.1 fC.2.1 fC.2.2.2.1 fC.2.2.2.2.1 fC.2.2.2.2.2,rfl,q⟩⟩
theorem ziD {i:Nat} {x:Str} {pos' spos:Pos} (hc:X.calm=true) (hN:X.N.Nodup) (hix:X.N[i]?=some x) (hx:X.env.scope.names.lookup x=some .local) (B:BlkScope X scope own fvn fv) (hi:PI X tg iter wi)
  (hb:∀ (cl:List (Str×Addr)) (C:Addr) (fp:List Addr) (s:Shared) (H:Hp),PG (za6 X (own++fvn) scope cl C fp s H) tg g∧PTs (za6 X (own++fvn) scope cl C fp s H) ifs tt∧PE (za6 X (own++fvn) scope cl C fp s H) elt te)
  (hsw:swapsWith (.ListComp elt [⟨tg,iter,ifs,0⟩] scope pos) (some (.Name x pos')) spos.line X.env=pure true:=by rfl)
  (hs:∀ x,foldedSetIterable iter X.env x=pure x:=by intro _;rfl) :
  PS X (.Assign [.Name x pos'] (.ListComp elt [⟨tg,iter,ifs,0⟩] scope pos) spos) (zig (zhy own.length fv wi g tt te) (zcf i)):=by
 intro pins s σ H D I h
 obtain ⟨cl,hcl,h1,h2⟩:=zdI B I.ok
 rw [exec_Assign_Name_used _ _ _ _ hsw]
 refine wpAny_bind (wpAny_standAt (wpAny_bind ?_))
 show wpAny _ _ (do let _ ← comprehension (.ListComp elt [⟨tg,iter,ifs,0⟩] scope pos) scope X.env _ (newList []) false (eval iter X.env) (some (assign (.Name x pos') X.env))) _ _ s
 refine wpAny_bind (wpAny_mono (wpAny_comprehension_free (use:=some (assign (.Name x pos') X.env)) (Q:=λ_ s'=>SP X pins D .next s') rfl hs hcl B.kind B.names
  (thn (hi pins s σ H _ I h) λv s1 q1=>thn q1 λitv s2 q2=> ?_)) (λ_ s' hq=>wpAny_pure (wpAny_pure hq)) λ_ _ e=>e)
 refine zfF (Q:=λv H1=>zcf i v σ H1 D.nx) (RR:=λacc C=>compPost (model X.prog X.w) X.A X.xe (some (assign (.Name x pos') X.env)) (λ_ s'=>SP X pins D .next s') acc C) hc B h1 h2 hb q2 λDa C s' H' m I' hn fC q=>?_
 show wpAny _ _ (assign (.Name x pos') X.env (.ref Da)) _ _ _
 refine wpAny_assign_Name (zeB I' hN hix (.inl hx) (v:=.ref Da) rfl (λs'' I'' ⟨a,hsb,ha⟩=>?_) (.inr hx))
 have hCa:C≠a:=by
  rcases ha with z | z
  ·rw [z];exact fC.2.1
  ·exact Ne.symm (fC.2.2.2.2.1 x a z)
 refine ⟨m,hn.sameBut hsb hCa,λh'' hs''=>⟨_,H',I''.turned (t':=s''.toks) (λb o hb e=>(hs''.2 b hb).trans e) fC.1 fC.2.1 fC.2.2.2.1 fC.2.2.2.2.1 fC.2.2.2.2.2,q⟩⟩
end
end L2
namespace L2
open PySem PySem.Spec PyProof.Rows
section
variable {X:Cx} {pins:List (Addr×Obj)} {σ:St} {H:Hp} {s:Shared} {h':Heap}
theorem Inv.turnedNew {t':Nat} {ch:List Addr} {T:Addr} {o:HO} (I:Inv X pins σ H s) (hf:∀ b∈ch,zfm X pins H b) (k:∀ b u,b ∉ ch->s.heap.get? b=some u->h'.get? b=some u) (hT:s.heap.objs.size≤T)
  (new:zbs X.prog X.w (upd H T o) h' T o):Inv X pins σ (upd H T o) { s with heap:=h',toks:=t' }:=by
 have hn:H T=none:=I.hok.fresh hT
 have lt:∀ b u,s.heap.get? b=some u->b≠T:=λb u e=>Nat.ne_of_lt (Nat.lt_of_lt_of_le (Heap.lt_size e) hT)
 refine I.step (g':=s.gens) (d':=s.drawn) (ch:=ch) (λb hb=>⟨(hf b hb).2.2.2.1,(hf b hb).2.1,(hf b hb).2.2.2.2.1,(hf b hb).2.2.2.2.2⟩) (λb u _ _ hc e _=>k b u hc e) (λb u _ _ hc e _=>⟨u.slots,k b u hc e⟩)
  (λb u _ e n=>by rw [zad (lt b u e)];exact n) (λb u hc e=>⟨u,k b u hc e⟩) (λb xs e=>by rw [zad (zam e hn)];exact e) (λb u xs e=>by rw [zad (zam e hn)];exact e)
  (λb ps e=>⟨#[],by rw [zad (zam e hn),e];simp⟩) (λm hm=>?_) (λb u e=>?_) I.bare
 ·obtain ⟨o,es,ep,ho,r⟩:=hm
  exact ⟨o,es,ep,k _ o (λz=>(hf _ z).2.1 rfl) ho,r⟩
 ·by_cases hb:b=T
  ·subst hb;rw [zak] at e;cases e;exact new
  ·rw [zad hb] at e
   refine ((I.hok b u e)).stay (λc v hc q=>k c v (λz=>?_) q) (λc q=>by rw [zad (zam q hn)];exact q) λc xs q=>by rw [zad (zam q hn)];exact q
   have z':=(hf c z).1
   rcases hc with hc | hc
   ·rw [hc,e] at z';cases z'
   ·rw [hc] at z';cases z'
theorem Inv.turnedL {t':Nat} {ch:List Addr} (I:Inv X pins σ H s) (hf:∀ b∈ch,zfm X pins H b) (k:∀ b u,b ∉ ch->s.heap.get? b=some u->h'.get? b=some u):Inv X pins σ H { s with heap:=h',toks:=t' }:=by
 refine I.step (g':=s.gens) (d':=s.drawn) (ch:=ch) (λb hb=>⟨(hf b hb).2.2.2.1,(hf b hb).2.1,(hf b hb).2.2.2.2.1,(hf b hb).2.2.2.2.2⟩) (λb u _ _ hc e _=>k b u hc e) (λb u _ _ hc e _=>⟨u.slots,k b u hc e⟩)
  (λb u _ e n=>n) (λb u hc e=>⟨u,k b u hc e⟩) (λb xs e=>e) (λb u xs e=>e) (λb ps e=>⟨#[],by rw [e];simp⟩) (λm hm=>?_) (λb u e=>?_) I.bare
 ·obtain ⟨o,es,ep,ho,r⟩:=hm
  exact ⟨o,es,ep,k _ o (λz=>(hf _ z).2.1 rfl) ho,r⟩
 ·refine ((I.hok b u e)).stay (λc v hc q=>k c v (λz=>?_) q) (λc q=>q) λc xs q=>q
  have z':=(hf c z).1
  rcases hc with hc | hc
  ·rw [hc,e] at z';cases z'
  ·rw [hc] at z';cases z'
end
def Itz (K:W.Frag) (a b:Addr):It :=
 ⟨λi H=>∃ xs ys x y,SqL K H a xs∧SqL K H b ys∧xs[i]?=some x∧ys[i]?=some y,
  λi H v H'=>∃ p x y,v=.ref p∧H p=none∧H'=upd H p (.tup [x,y])∧∀ xs ys,SqL K H a xs->SqL K H b ys->xs[i]?=some x∧ys[i]?=some y,
  λi H=>∃ xs ys,SqL K H a xs∧SqL K H b ys∧(xs.length≤i∨ys.length≤i)⟩
theorem zhG {P:Program} {w:World} {K:W.Frag} {elts:List Expr} {x1:Nat} {tp:Pos} {a b z TI TO i1 i2:Addr} (D:ZipApart z TI TO i1 i2 a b) :
  Turn P w K (.Tuple elts x1 tp) (Itz K a b) [z,TI,TO,i1,i2] z
   (λi h=>IsZip h z TI TO .none∧IsPair h TI (.ref i1) (.ref i2)∧(∃ p q,IsPair h TO p q)∧h.IsListIter i1 a i∧h.IsListIter i2 b i) where
 mem:=by simp
 obj:=λi h st c hc=>by
  obtain ⟨hz,hTI,⟨p,q,hTO⟩,⟨o1,e1,_,d1⟩,⟨o2,e2,_,d2⟩⟩:=st
  simp only [List.mem_cons,List.not_mem_nil,or_false] at hc
  rcases hc with rfl | rfl | rfl | rfl | rfl
  ·exact ⟨_,hz,λv z=>by cases z⟩
  ·exact ⟨_,hTI,λv z=>by cases z⟩
  ·exact ⟨_,hTO,λv z=>by cases z⟩
  ·exact ⟨o1,e1,λv z=>by rw [d1] at z;cases z⟩
  ·exact ⟨o2,e2,λv z=>by rw [d2] at z;cases z⟩
 keep:=λi h h' st k=>by
  obtain ⟨hz,hTI,⟨p,q,hTO⟩,h1,h2⟩:=st
  exact ⟨k z (by simp) _ hz,k TI (by simp) _ hTI,⟨p,q,k TO (by simp) _ hTO⟩,h1.at λo e=>k i1 (by simp) o e,h2.at λo e=>k i2 (by simp) o e⟩
 item:=by
  intro X hP hw hK hc i pins s σ H E I hf st hg
  subst hP hw hK
  obtain ⟨xs,ys,x,y,hxs,hys,hx,hy⟩:=hg
  obtain ⟨itx,rx,px,hzx⟩:=I.list hxs
  obtain ⟨ity,ry,py,hzy⟩:=I.list hys
  obtain ⟨u,hu,ru⟩:=rx.get hx
  obtain ⟨v,hv,rv⟩:=ry.get hy
  obtain ⟨hz,hTI,⟨p,q,hTO⟩,h1,h2⟩:=st
  refine wpAny_pyNext_zip_item (x:=u) (y:=v) D hz hTI hTO h1 h2 px.isList py.isList (by simpa using hu) (by simpa using hv) λh' a1 a2 a3 a4 a5 a6 hk=>?_
  refine ⟨_,rfl,wpAny_letOwnedTupleGo_zip a1 λh'' b1 b2=>?_⟩
  have zlt:z<s.heap.objs.size:=Heap.lt_size hz
  have lt:∀ c∈[z,TI,TO,i1,i2],c<s.heap.objs.size:=λc hc=>by
   simp only [List.mem_cons,List.not_mem_nil,or_false] at hc
   rcases hc with rfl | rfl | rfl | rfl | rfl
   ·exact zlt
   ·exact Heap.lt_size hTI
   ·exact Heap.lt_size hTO
   ·obtain ⟨_,e,_⟩:=h1;exact Heap.lt_size e
   ·obtain ⟨_,e,_⟩:=h2;exact Heap.lt_size e
  have tup:IsPair h'' s.heap.objs.size u v:=b2.extBut _ _ (Nat.ne_of_gt zlt) a5
  have I1:Inv X pins σ (upd H s.heap.objs.size (.tup [x,y])) { s with heap:=h'' }:=by
   refine I.turnedNew (t':=s.toks) (ch:=[z,TO,i1,i2]) (λc hc=>hf c ?_) (λc ob hc e=>?_) (Nat.le_refl _) ?_
   ·simp only [List.mem_cons,List.not_mem_nil,or_false] at hc ⊢
    rcases hc with z | z | z | z<;>simp [z]
   ·simp only [List.mem_cons,List.not_mem_nil,or_false,not_or] at hc
    exact b2.extBut _ _ hc.1 (hk c ob hc.1 hc.2.1 hc.2.2.1 hc.2.2.2 e)
   ·exact ⟨by show 2≤sizeLine;decide,[u,v],.cons ru (.cons rv .nil),⟨_,tup,rfl,_,rfl⟩⟩
  refine ⟨.ref s.heap.objs.size,_,I1,rfl,⟨_,x,y,rfl,I.hok.fresh (Nat.le_refl _),rfl,λxs' ys' q1 q2=>?_⟩,⟨b1,?_,⟨_,_,b2.extBut _ _ D.TOz a2⟩,a3.extBut b2.extBut D.i1z,a4.extBut b2.extBut D.i2z⟩,λc hc=>?_⟩
  ·rw [I.list_inj q1 hxs,I.list_inj q2 hys];exact ⟨hx,hy⟩
  ·exact b2.extBut _ _ D.TIz (hk _ _ D.TIz D.TITO D.TIi1 D.TIi2 hTI)
  ·rw [zad (Nat.ne_of_lt (lt c hc))];exact (hf c hc).1
 done:=by
  intro X hP hw hK hc i pins s σ H E I hf st hg
  subst hP hw hK
  obtain ⟨xs,ys,hxs,hys,hend⟩:=hg
  obtain ⟨itx,rx,px,hzx⟩:=I.list hxs
  obtain ⟨ity,ry,py,hzy⟩:=I.list hys
  obtain ⟨hz,hTI,⟨p,q,hTO⟩,h1,h2⟩:=st
  have lx:=rx.length
  have ly:=ry.length
  refine wpAny_pyNext_zip_end (I.ok.hd hc) D hz hTI hTO h1 h2 px.isList py.isList ?_ λh' hk=>⟨rfl,?_⟩
  ·rcases hend with e | e
   ·exact .inl (by simp;omega)
   ·exact .inr (by simp;omega)
  ·refine I.turnedL (t':=s.toks) (ch:=[z,TO,i1,i2]) (λc hc=>hf c ?_) (λc ob hc e=>?_)
   ·simp only [List.mem_cons,List.not_mem_nil,or_false] at hc ⊢
    rcases hc with z | z | z | z<;>simp [z]
   ·simp only [List.mem_cons,List.not_mem_nil,or_false,not_or] at hc
    exact hk c ob hc.1 hc.2.1 hc.2.2.1 hc.2.2.2 e
 self:=λ_ _ _ _ _ st h=>wpAny_pyIter_zip st.1 h
section
variable {X:Cx}
def zkZ (K:W.Frag) (ta:TA):TI:=λσ H R=>ta σ H λvs H1=>∃ a b,vs=[.ref a,.ref b]∧(∃xs,SqL K H1 a xs)∧(∃ ys,SqL K H1 b ys)∧R (Itz K a b) H1
theorem zjS {a b:Expr} {ta:TA} {p pos tp:Pos} {elts:List Expr} {x1:Nat} (hg:Gl X "zip") (hm:X.mg "zip"=none) (ha:PA X [a,b] ta) (hs:starEach [a,b] X.env=[(false,eval a X.env),(false,eval b X.env)]:=by rfl) (hs2:starEach [b] X.env=[(false,eval b X.env)]:=by rfl) :
  PI X (.Tuple elts x1 tp) (.Call (.Name "zip" p) [a,b] [] pos) (zkZ X.K ta):=by
 intro pins s σ H R I h
 refine Call_ (zdW I hg hm boot_zip (PyProof.Rows.callWith_type1 (thn (ha pos pins s σ H _ I h) λus s1 ⟨vs,H1,I1,r1,q1⟩=> ?_) (by rw [hs,hs2]) (by rw [hs2];rfl)))
 obtain ⟨l1,l2,e,⟨xs,hx⟩,⟨ys,hy⟩,q⟩:=q1
 subst e
 cases r1 with
 | cons r rr =>
  cases rr with
  | cons r' rr =>
   cases rr
   cases r
   cases r'
   obtain ⟨itx,rx,px,hzx⟩:=I1.list hx
   obtain ⟨ity,ry,py,hzy⟩:=I1.list hy
   have lt1:@LT.lt Nat _ l1 s1.heap.objs.size:=by obtain ⟨o,e,_⟩:=px.isList;exact Heap.lt_size e
   have lt2:@LT.lt Nat _ l2 s1.heap.objs.size:=by obtain ⟨o,e,_⟩:=py.isList;exact Heap.lt_size e
   refine call_zip_2 px.isList py.isList λh' hz hTI hTO h1 h2 hsz hk=>?_
   refine wpAny_pyIter_zip hz ?_
   have D:ZipApart (s1.heap.objs.size+4) (s1.heap.objs.size+2) (s1.heap.objs.size+3) s1.heap.objs.size (s1.heap.objs.size+1) l1 l2:=by
    constructor<;>(show @Ne Nat _ _;omega)
   refine ⟨s1.heap.objs.size+4,[s1.heap.objs.size+4,s1.heap.objs.size+2,s1.heap.objs.size+3,s1.heap.objs.size,s1.heap.objs.size+1],_,Itz X.K l1 l2,H1,rfl,I1.kept (t':=s1.toks) hk,zhG D,⟨hz,hTI,⟨_,_,hTO⟩,h1,h2⟩,λc hc=>?_,q⟩
   have hle:@LE.le Nat _ s1.heap.objs.size c:=by
    simp only [List.mem_cons,List.not_mem_nil,or_false] at hc
    rcases hc with rfl | rfl | rfl | rfl | rfl<;>omega
   exact I1.fpOk hle (I1.hok.fresh hle)
end
theorem preSum_list:∀ (ns:Ji) (k:Nat),k≤ns.length->preSum (λi=>(ns[i]?).getD 0) k=(ns.take k).sum
 | _,0,_=>by simp [preSum]
 | ns,k+1,h=>by
  have ih:=preSum_list ns k (by omega)
  have hk:k<ns.length:=by omega
  have e1:preSum (λi=>(ns[i]?).getD 0) (k+1)=preSum (λi=>(ns[i]?).getD 0) k+(ns[k]?).getD 0:=rfl
  have e2:ns.take (k+1)=ns.take k++[ns[k]]:=by rw [List.take_add_one,List.getElem?_eq_getElem hk];rfl
  rw [e1,ih,e2,List.sum_append,List.getElem?_eq_getElem hk]
  simp
section
variable {X:Cx}
theorem zky (hc:X.calm=true):zcJ X (.builtin "sum") (λxs H Q=>∃ (a:Addr) (ns:Ji),xs=[.ref a]∧SqL X.K H a (ns.map V.int)∧Q (.int ns.sum) H):=by
 intro pins s σ H xs us Q I r h
 obtain ⟨a,ns,rfl,hq,q⟩:=h
 obtain ⟨u,rfl,rx⟩:=zhV r
 cases rx
 obtain ⟨its,rv,p,hz⟩:=I.list hq
 have hl:=rv.length
 rw [List.length_map] at hl
 have alt:a<s.heap.objs.size:=by obtain ⟨o,e,_⟩:=p.isList;exact Heap.lt_size e
 have hl1:((s.heap.push {cls:= .type "list_iterator",data:= .fields #[.ref a,.int 0 0]})).IsList a its.toArray:=Heap.IsList.push p.isList _
 refine call_sum_walkG (wpAny_pyIter_list p.isList ?_)
 refine ⟨s.heap.objs.size,[s.heap.objs.size,a],[s.heap.objs.size],its.toArray.size,_,_,λi=>(ns[i]?).getD 0,rfl,Walks.list (A:=X.A.in1) (I.ok.hd hc) s.heap.objs.size a (Nat.ne_of_lt alt) its.toArray,⟨⟨_,Heap.get?_push_size _ rfl,rfl,rfl⟩,hl1⟩,λb hb=>?_,λi v hv=>?_,λh' tk t' hk=>?_⟩
 ·show b<(s.heap.push _).objs.size
  rw [Heap.size_push]
  simp only [List.mem_cons,List.not_mem_nil,or_false] at hb
  rcases hb with rfl | rfl
  ·exact Nat.lt_succ_self _
  ·exact Nat.lt_succ_of_lt alt
 ·have hv':its[i]?=some v:=by simpa using hv
  have hi:i<its.length:=((List.getElem?_eq_some_iff.mp hv')).1
  obtain ⟨u,hu,ru⟩:=rv.get (i:=i) (x:=.int (ns[i]' (by omega))) (by rw [List.getElem?_map,List.getElem?_eq_getElem (by omega)];rfl)
  rw [hv'] at hu
  cases hu
  obtain ⟨t,rfl⟩:=ru
  have e:(ns[i]?).getD 0=ns[i]' (by omega):=by rw [List.getElem?_eq_getElem (show i<ns.length by omega)];rfl
  exact ⟨t,congrArg (λz=>Value.int z t) e.symm⟩
 ·have e:preSum (λi=>(ns[i]?).getD 0) its.toArray.size=ns.sum:=by
   rw [List.size_toArray,← hl,preSum_list ns _ (Nat.le_refl _),List.take_length]
  rw [e]
  exact ⟨.int ns.sum,H,I.kept (h':=h') (t':=tk) λb o e=>hk b o (by simp only [List.mem_singleton];exact Nat.ne_of_lt (Heap.lt_size e)) (Heap.get?_push_of_some _ e),⟨t',rfl⟩,q⟩
theorem zgv (hc:X.calm=true):zcJ X (.builtin "all") (λxs H Q=>∃ (a:Addr) (bs:List Bool),xs=[.ref a]∧SqL X.K H a (bs.map V.bl)∧Q (.bl (bs.all id)) H):=by
 intro pins s σ H xs us Q I r h
 obtain ⟨a,bs,rfl,hq,q⟩:=h
 obtain ⟨u,rfl,rx⟩:=zhV r
 cases rx
 obtain ⟨its,rv,p,hz⟩:=I.list hq
 have hl:=rv.length
 rw [List.length_map] at hl
 have alt:a<s.heap.objs.size:=by obtain ⟨o,e,_⟩:=p.isList;exact Heap.lt_size e
 have hl1:((s.heap.push {cls:= .type "list_iterator",data:= .fields #[.ref a,.int 0 0]})).IsList a its.toArray:=Heap.IsList.push p.isList _
 refine call_all_walk (wpAny_pyIter_list p.isList ?_)
 refine ⟨s.heap.objs.size,[s.heap.objs.size,a],[s.heap.objs.size],its.toArray.size,_,_,λi=>(bs[i]?).getD true,rfl,Walks.list (A:=X.A.in1) (I.ok.hd hc) s.heap.objs.size a (Nat.ne_of_lt alt) its.toArray,⟨⟨_,Heap.get?_push_size _ rfl,rfl,rfl⟩,hl1⟩,λi v s' Q' E' hv hQ'=>?_,λh' tk hk=>?_⟩
 ·have hv':its[i]?=some v:=by simpa using hv
  have hi:i<its.length:=((List.getElem?_eq_some_iff.mp hv')).1
  obtain ⟨u,hu,ru⟩:=rv.get (i:=i) (x:=.bl (bs[i]' (by omega))) (by rw [List.getElem?_map,List.getElem?_eq_getElem (by omega)];rfl)
  rw [hv'] at hu
  cases hu
  cases ru
  have e:(bs[i]?).getD true=bs[i]' (by omega):=by rw [List.getElem?_eq_getElem (show i<bs.length by omega)];rfl
  have hQ2:Q' ((bs[i]?).getD true) s':=hQ'
  rw [e] at hQ2
  exact wpAny_truthy_bool hQ2
 ·have e:(List.range its.toArray.size).all (λi=>(bs[i]?).getD true)=bs.all id:=by
   rw [List.size_toArray,← hl,Bool.eq_iff_iff,List.all_eq_true,List.all_eq_true]
   constructor
   ·intro z x hx
    obtain ⟨i,hi,rfl⟩:=List.getElem_of_mem hx
    have:=z i (List.mem_range.mpr hi)
    rw [List.getElem?_eq_getElem hi] at this
    exact this
   ·intro z i hi
    have hi':=List.mem_range.mp hi
    rw [List.getElem?_eq_getElem hi']
    exact z _ (List.getElem_mem hi')
  rw [e]
  exact ⟨.bl (bs.all id),H,I.kept (h':=h') (t':=tk) λb o e=>hk b o (by simp only [List.mem_singleton];exact Nat.ne_of_lt (Heap.lt_size e)) (Heap.get?_push_of_some _ e),rfl,q⟩
def zla (K:W.Frag):List V->Hp->VK->Prop:=λxs H Q=>∃ x t b,((∃ n,xs=[x,.ty n]∧W.kitOne K t (.type n)=some b)∨(∃ C,xs=[x,.ref C]∧W.kitOne K t (.ref C)=some b))∧TyOf K H x t∧Q (.bl b) H
theorem zhX:zcJ X (.builtin "isinstance") (zla X.K):=by
 intro pins s σ H xs us Q I r h
 obtain ⟨x,t,b,hx,ty,q⟩:=h
 rcases hx with ⟨n,rfl,e⟩ | ⟨C,rfl,e⟩
 ·obtain ⟨u,w',rfl,rx,ry⟩:=zgf r
  cases ry
  exact zes I rx ty e λtk=>⟨.bl b,H,I.tok _,rfl,q⟩
 ·obtain ⟨u,w',rfl,rx,ry⟩:=zgf r
  cases ry
  exact zes I rx ty e λtk=>⟨.bl b,H,I.tok _,rfl,q⟩
end
theorem kit_int_bool (K:W.Frag):W.kitOne K (.type "int") (.type "bool")=some false:=by with_unfolding_all rfl
inductive EqV (K:W.Frag) (H:Hp):Nat->V->V->Bool->Prop where
 | flat {n:Nat} {x y:V} (fx:zhF x=true) (fy:zhF y=true):EqV K H n x y (eqV x y)
 | same {n:Nat} {a:Addr}:EqV K H n (.ref a) (.ref a) true
 | lists {n:Nat} {a b:Addr} {xs ys:List V} {e:Nat->Bool} (ne:a≠b) (ha:SqL K H a xs) (hb:SqL K H b ys) (hl:xs.length=ys.length)
   (he:∀ (j:Nat) (x y:V),xs[j]?=some x->ys[j]?=some y->EqV K H n x y (e j)):EqV K H (n+1) (.ref a) (.ref b) (((List.range xs.length)).all e)
 | lens {n:Nat} {a b:Addr} {xs ys:List V} (ne:a≠b) (ha:SqL K H a xs) (hb:SqL K H b ys) (hl:xs.length≠ys.length):EqV K H (n+1) (.ref a) (.ref b) false
theorem EqV.at {X:Cx} {pins:List (Addr×Obj)} {σ:St} {H:Hp} {s:Shared} (I:Inv X pins σ H s) {n:Nat} {x y:V} {k:Bool} (h:EqV X.K H n x y k) :
  ∀ {A:Around} {u v:Value},zbM x u->zbM y v->A.units+n<cLine->SeqAt.EqAt A s u v k:=by
 induction h with
 | flat fx fy=>intro A u v rx ry _;exact zkx rx ry fx fy
 | same=>intro A u v rx ry _;cases rx;cases ry;exact SeqAt.EqAt.same _
 | @lists n a b xs ys e ne ha hb hl he ih =>
  intro A u v rx ry hu
  cases rx
  cases ry
  obtain ⟨ita,ra,pa,za⟩:=I.list ha
  obtain ⟨itb,rb,pb,zb⟩:=I.list hb
  have la:=ra.length
  have lb:=rb.length
  have q:=SeqAt.RcAt.lists (A:=A) (e:=e) pa.isList pb.isList (by simp;omega) (by omega) λj h1 h2=>?_
  ·rw [List.size_toArray,← la] at q
   exact SeqAt.EqAt.of_refs ne q
  ·have h1':j<ita.length:=by simpa using h1
   have h2':j<itb.length:=by simpa using h2
   obtain ⟨u',hu',ru⟩:=ra.get (i:=j) (x:=xs[j]' (by omega)) (List.getElem?_eq_getElem (by omega))
   obtain ⟨v',hv',rv⟩:=rb.get (i:=j) (x:=ys[j]' (by omega)) (List.getElem?_eq_getElem (by omega))
   have eu:ita.toArray[j]=u':=by
    rw [List.getElem?_eq_getElem h1'] at hu'
    simpa using hu'
   have ev:itb.toArray[j]=v':=by
    rw [List.getElem?_eq_getElem h2'] at hv'
    simpa using hv'
   rw [eu,ev]
   exact ih j _ _ (List.getElem?_eq_getElem (by omega)) (List.getElem?_eq_getElem (by omega)) ru rv (by show A.units+1+n<cLine;omega)
 | @lens n a b xs ys ne ha hb hl =>
  intro A u v rx ry hu
  cases rx
  cases ry
  obtain ⟨ita,ra,pa,za⟩:=I.list ha
  obtain ⟨itb,rb,pb,zb⟩:=I.list hb
  have la:=ra.length
  have lb:=rb.length
  exact SeqAt.EqAt.of_refs ne (SeqAt.RcAt.lists_lengths pa.isList pb.isList (by simp;omega) (by omega))
def zhT (K:W.Frag) (neg:Bool):R2:=λx y H Q=>∃ a b n xs ys,x=.ref a∧y=.ref b∧SqL K H a xs∧SqL K H b ys∧n≤50 ∧
 ((xs.length≠ys.length∧Q (.bl neg) H)∨∃ e:Nat->Bool,xs.length=ys.length∧(∀ (j:Nat) (x y:V),xs[j]?=some x->ys[j]?=some y->EqV K H n x y (e j))∧Q (.bl (if neg then !((List.range xs.length)).all e else ((List.range xs.length)).all e)) H)
section
variable {X:Cx}
theorem zeD {pins:List (Addr×Obj)} {σ:St} {H:Hp} {s:Shared} (I:Inv X pins σ H s) {n:Nat} {xs ys:List V} {ita itb:List Value} {e:Nat->Bool} (ra:zbl xs ita) (rb:zbl ys itb) (he:∀ (j:Nat) (x y:V),xs[j]?=some x->ys[j]?=some y->EqV X.K H n x y (e j))
  {A:Around} (hu:A.units+1+n<cLine):∀ j (h1:j<ita.toArray.size) (h2:j<itb.toArray.size),SeqAt.EqAt A.in1 s ita.toArray[j] itb.toArray[j] (e j):=λj h1 h2=>by
 have la:=ra.length
 have lb:=rb.length
 have h1':j<ita.length:=by simpa using h1
 have h2':j<itb.length:=by simpa using h2
 obtain ⟨u',hu',ru⟩:=ra.get (i:=j) (x:=xs[j]' (by omega)) (List.getElem?_eq_getElem (by omega))
 obtain ⟨v',hv',rv⟩:=rb.get (i:=j) (x:=ys[j]' (by omega)) (List.getElem?_eq_getElem (by omega))
 have eu:ita.toArray[j]=u':=by
  rw [List.getElem?_eq_getElem h1'] at hu'
  simpa using hu'
 have ev:itb.toArray[j]=v':=by
  rw [List.getElem?_eq_getElem h2'] at hv'
  simpa using hv'
 rw [eu,ev]
 exact (he j _ _ (List.getElem?_eq_getElem (by omega)) (List.getElem?_eq_getElem (by omega))).at I ru rv hu
theorem zkA (hu:X.A.units+64<cLine):OpR X (compareOp .Eq) (zhT X.K false):=by
 intro pins s σ H x y v u Q I rx ry h
 obtain ⟨a,b,n,xs,ys,rfl,rfl,ha,hb,hn,h⟩:=h
 cases rx
 cases ry
 obtain ⟨ita,ra,pa,za⟩:=I.list ha
 obtain ⟨itb,rb,pb,zb⟩:=I.list hb
 have la:=ra.length
 have lb:=rb.length
 rcases h with ⟨hl,q⟩ | ⟨e,hl,he,q⟩
 ·exact SeqAt.eq_list_lengthsAt pa.isList pb.isList (by simp;omega) (by omega) ⟨.bl false,H,I,rfl,q⟩
 ·refine SeqAt.eq_listAt (e:=e) pa.isList pb.isList (by simp;omega) (by omega) (zeD I ra rb he (by omega)) ?_
  rw [List.size_toArray,← la]
  exact ⟨.bl _,H,I,rfl,q⟩
theorem zjN (hu:X.A.units+64<cLine):OpR X (compareOp .NotEq) (zhT X.K true):=by
 intro pins s σ H x y v u Q I rx ry h
 obtain ⟨a,b,n,xs,ys,rfl,rfl,ha,hb,hn,h⟩:=h
 cases rx
 cases ry
 obtain ⟨ita,ra,pa,za⟩:=I.list ha
 obtain ⟨itb,rb,pb,zb⟩:=I.list hb
 have la:=ra.length
 have lb:=rb.length
 rcases h with ⟨hl,q⟩ | ⟨e,hl,he,q⟩
 ·exact SeqAt.RcNeAt.lists_lengths pa.isList pb.isList (by simp;omega) (by omega) _ _ _ _ ⟨.bl true,H,I,rfl,q⟩
 ·refine SeqAt.RcNeAt.lists (e:=e) pa.isList pb.isList (by simp;omega) (by omega) (zeD I ra rb he (by omega)) _ _ _ _ ?_
  rw [List.size_toArray,← la]
  exact ⟨.bl _,H,I,rfl,q⟩
end
theorem all_eq {α:Type} [DecidableEq α] {xs ys:List α} (h:xs.length=ys.length):((List.range xs.length)).all (λj=>decide (xs[j]?=ys[j]?))=decide (xs=ys):=by
 rw [Bool.eq_iff_iff,List.all_eq_true,decide_eq_true_iff]
 constructor
 ·intro z
  refine List.ext_getElem? λi=>?_
  by_cases hi:i<xs.length
  ·exact of_decide_eq_true (z i (List.mem_range.mpr hi))
  ·rw [List.getElem?_eq_none (by omega),List.getElem?_eq_none (by omega)]
 ·rintro rfl i _
  exact decide_eq_true rfl
theorem zhT.ints {K:W.Frag} {neg:Bool} {H:Hp} {Q:VK} {a b:Addr} {ns ms:Ji} (ha:SqL K H a (ns.map V.int)) (hb:SqL K H b (ms.map V.int)) (q:Q (.bl (if neg then !decide (ns=ms) else decide (ns=ms))) H) :
  zhT K neg (.ref a) (.ref b) H Q:=by
 refine ⟨a,b,0,_,_,rfl,rfl,ha,hb,by omega,?_⟩
 by_cases hl:ns.length=ms.length
 ·refine .inr ⟨λj=>decide (ns[j]?=ms[j]?),by simp [hl],λj x y hx hy=>?_,?_⟩
  ·rw [List.getElem?_map] at hx hy
   cases e1:ns[j]? with
   | none=>rw [e1] at hx;cases hx
   | some i =>
    cases e2:ms[j]? with
    | none=>rw [e2] at hy;cases hy
    | some k =>
     rw [e1] at hx
     rw [e2] at hy
     cases hx
     cases hy
     have q:=EqV.flat (K:=K) (H:=H) (n:=0) (x:=.int i) (y:=.int k) rfl rfl
     have e:eqV (.int i) (.int k)=decide (some i=some k):=by
      show (i == k)=_
      rw [Bool.beq_eq_decide_eq]
      simp
     rw [e] at q
     show EqV K H 0 (V.int i) (V.int k) (decide (ns[j]?=ms[j]?))
     rw [e1,e2]
     exact q
  ·rw [List.length_map,all_eq hl]
   exact q
 ·refine .inl ⟨by simpa using hl,?_⟩
  have e:decide (ns=ms)=false:=decide_eq_false (λz=>hl (by rw [z]))
  rw [e] at q
  cases neg<;>exact q
def Rows (K:W.Frag) (H:Hp) (a:Addr) (xss:Jq):Prop :=
 ∃ as:List Addr,SqL K H a (as.map V.ref)∧as.length=xss.length∧∀ (j:Nat) (p:Addr) (ns:Ji),as[j]?=some p->xss[j]?=some ns->H p=some (.lst (ns.map V.int))
theorem zfa {ns ms:Ji} (h:ns.map V.int=ms.map V.int):ns=ms:=by
 induction ns generalizing ms with
 | nil=>cases ms with
  | nil=>rfl
  | cons _ _=>cases h
 | cons x r ih=>cases ms with
  | nil=>cases h
  | cons y s =>
   injection h with h1 h2
   injection h1 with h1
   rw [h1,ih h2]
theorem EqV.ints {K:W.Frag} {H:Hp} {n:Nat} {a b:Addr} {ns ms:Ji} (ha:H a=some (.lst (ns.map V.int))) (hb:H b=some (.lst (ms.map V.int))):EqV K H (n+1) (.ref a) (.ref b) (decide (ns=ms)):=by
 by_cases hab:a=b
 ·subst hab
  rw [ha] at hb
  have e:ns=ms:=zfa (by injection hb with hb;injection hb)
  rw [decide_eq_true e]
  exact .same
 ·by_cases hl:ns.length=ms.length
  ·have q:=EqV.lists (K:=K) (H:=H) (n:=n) (e:=λj=>decide (ns[j]?=ms[j]?)) hab (SqL.of ha) (SqL.of hb) (by simp [hl]) λj x y hx hy=>?_
   ·rw [List.length_map,all_eq hl] at q
    exact q
   ·rw [List.getElem?_map] at hx hy
    cases e1:ns[j]? with
    | none=>rw [e1] at hx;cases hx
    | some i =>
     cases e2:ms[j]? with
     | none=>rw [e2] at hy;cases hy
     | some k =>
      rw [e1] at hx
      rw [e2] at hy
      cases hx
      cases hy
      have q:=EqV.flat (K:=K) (H:=H) (n:=n) (x:=.int i) (y:=.int k) rfl rfl
      have e:eqV (.int i) (.int k)=decide (some i=some k):=by
       show (i == k)=_
       rw [Bool.beq_eq_decide_eq]
       simp
      rw [e] at q
      exact q
  ·rw [decide_eq_false (λz=>hl (by rw [z]))]
   exact .lens hab (SqL.of ha) (SqL.of hb) (by simpa using hl)
theorem zhT.rows {K:W.Frag} {neg:Bool} {H:Hp} {Q:VK} {a b:Addr} {xss yss:Jq} (ha:Rows K H a xss) (hb:Rows K H b yss) (q:Q (.bl (if neg then !decide (xss=yss) else decide (xss=yss))) H) :
  zhT K neg (.ref a) (.ref b) H Q:=by
 obtain ⟨as,hsa,hla,hra⟩:=ha
 obtain ⟨bs,hsb,hlb,hrb⟩:=hb
 refine ⟨a,b,1,_,_,rfl,rfl,hsa,hsb,by omega,?_⟩
 by_cases hl:xss.length=yss.length
 ·refine .inr ⟨λj=>decide (xss[j]?=yss[j]?),by simp;omega,λj x y hx hy=>?_,?_⟩
  ·rw [List.getElem?_map] at hx hy
   cases e1:as[j]? with
   | none=>rw [e1] at hx;cases hx
   | some p =>
    cases e2:bs[j]? with
    | none=>rw [e2] at hy;cases hy
    | some p2 =>
     rw [e1] at hx
     rw [e2] at hy
     cases hx
     cases hy
     have h1:j<xss.length:=by have:=(List.getElem?_eq_some_iff.mp e1).1;omega
     have h2:j<yss.length:=by omega
     have q:=EqV.ints (K:=K) (n:=0) (hra j p _ e1 (List.getElem?_eq_getElem h1)) (hrb j p2 _ e2 (List.getElem?_eq_getElem h2))
     show EqV K H 1 (V.ref p) (V.ref p2) (decide (xss[j]?=yss[j]?))
     rw [List.getElem?_eq_getElem h1,List.getElem?_eq_getElem h2]
     have e:decide (xss[j]=yss[j])=decide (some xss[j]=some yss[j]):=by simp
     rw [e] at q
     exact q
  ·rw [List.length_map,hla,all_eq hl]
   exact q
 ·refine .inl ⟨by simp;omega,?_⟩
  have e:decide (xss=yss)=false:=decide_eq_false (λz=>hl (by rw [z]))
  rw [e] at q
  cases neg<;>exact q
section
variable {X:Cx}
theorem zif {n k m:Nat} (h:n<2^k) (hk:k≤m) (hm:0<m):n.log2<m:=by
 by_cases hn:n=0
 ·subst hn
  exact Nat.lt_of_le_of_lt (by decide:Nat.log2 0≤0) hm
 ·exact Nat.lt_of_lt_of_le ((Nat.log2_lt hn).mpr h) hk
theorem zgc {i:Int} {k:Nat} (h:i.natAbs.log2<k):Builtin.Int.intBits i≤k:=by
 unfold Builtin.Int.intBits
 split
 ·exact Nat.zero_le _
 ·omega
def zkh (i j:Int):Prop:=0<j∧j.natAbs.log2<9000
theorem za3:OpR X (binaryOp .FloorDiv) (rI zkh λi j=>.int (i/j)):=opI λi j _ _ _ _ _ hc q=>by
 have hj:j≠0:=by have:=hc.1;omega
 have e:i.fdiv j=i/j:=Int.fdiv_eq_ediv_of_nonneg _ (by have:=hc.1;omega)
 exact floordiv_int hj (by rw [e];exact q) (.inl (PyProof.noPylong_of_log2 hc.2))
end
end L2
namespace L2
open PySem PySem.Spec PyProof.Rows
def zh8 (scope osc:Scope) (N own fvn:List Str) (fv:List Nat):Bool :=
 (scope.names.all λy=>y.2 != .cell||scope.names.lookup y.1 == some .cell)&&(scope.names.all λy=>y.2 != .free||scope.names.lookup y.1 == some .free)&&(scope.kind == .function)&&(scope.names.all λy=>y.2 != .local||scope.names.lookup y.1 == some .local) &&
 (scope.names.all λy=>y.2 != .free||osc.names.lookup y.1 == some .cell||osc.names.lookup y.1 == some .free)&&(fvn.map some == fv.map λi=>N[i]?)&&(fvn.all λx=>scope.names.lookup x == some .free)
theorem BlkScope.of {X:Cx} {scope osc:Scope} {N own fvn:List Str} {fv:List Nat} (hX:X.env.scope=osc) (hN:X.N=N) (h:zh8 scope osc N own fvn fv=true):BlkScope X scope own fvn fv:=by
 subst hX hN
 unfold zh8 at h
 simp only [Bool.and_eq_true,List.all_eq_true,bne_iff_ne,beq_iff_eq,Bool.or_eq_true] at h
 obtain ⟨⟨⟨⟨⟨⟨h1,h1'⟩,h2⟩,h3⟩,h4⟩,h5⟩,h6⟩:=h
 refine ⟨λy hy e=>?_,λy hy e=>?_,h2,λy hy e=>?_,λy hy e=>?_,h5,h6⟩
 ·rcases h1 y hy with z | z
  ·exact absurd e z
  ·exact z
 ·rcases h1' y hy with z | z
  ·exact absurd e z
  ·exact z
 ·rcases h3 y hy with z | z
  ·exact absurd e z
  ·exact z
 ·rcases h4 y hy with (z | z) | z
  ·exact absurd e z
  ·exact .inl z
  ·exact .inr z
theorem Same.new {H:Hp} {p:Addr} (h:H p=none) (o:HO):Same H (upd H p o):=λb u q=>by rw [zad (zam q h)];exact q
theorem Same.tup {K:W.Frag} {H H':Hp} {a:Addr} {xs:List V} (e:Same H H') (h:SqT K H a xs):SqT K H' a xs:=by
 rcases h with (h | ⟨o,h⟩) | h
 ·exact .inl (.inl (e _ _ h))
 ·exact .inl (.inr ⟨o,e _ _ h⟩)
 ·exact .inr h
theorem Same.rows {K:W.Frag} {H H':Hp} {a:Addr} {xss:Jq} (e:Same H H') (h:Rows K H a xss):Rows K H' a xss:=by
 obtain ⟨as,h1,h2,h3⟩:=h
 exact ⟨as,e.seq h1,h2,λj p ns q1 q2=>e _ _ (h3 j p ns q1 q2)⟩
structure Callee (P:Program) (w:World) (K:W.Frag) (mg:Str->Option Value) (base:Heap) (CX:CXT) (k:Nat) (x:Str) (ps:List Str) (sp:Sp):Prop where
 ex:∃ f fd,FnOk P w K mg base CX k f fd ps sp∧mg x=some (.ref f)∧W.keepIn K (.ref f)=true∧zcX K fd ps []
section
variable {X:Cx} {CX:CXT} {k:Nat} {ps:List Str} {sp:Sp} {E:XK} {x:Str} {p pos:Pos} {e:Expr} {es:List Expr} {t:TA}
theorem zce (F:Callee X.prog X.w X.K X.mg X.base CX k x ps sp) (hr:Room k X.A) (hg:Gl X x) (hx:zdY CX X E)
  (ha:PA X (e::es) t) (hdb:(x==("__debug__" :Str))=false:=by decide) (he:starEach (e::es) X.env=(false,eval e X.env) :: starEach es X.env:=by rfl) (hpl:((backTo pos (starEach es X.env))).any (·.1)=false:=by rfl) :
  PE X (.Call (.Name x p) (e::es) [] pos) (tCall sp [] E t):=by
 obtain ⟨f,fd,G,hm,hk,hb⟩:=F.ex
 exact ziS G hr hg hm hk hb .nil hx ha hdb he hpl
end
section
variable {X:Cx} {K:W.Frag}
theorem zaA (hK:X.K=K):zcJ X (.builtin "len") (λxs H Q=>∃p ys,xs=[.ref p]∧(SqL K H p ys∨SqT K H p ys)∧Q (.int ys.length) H):=by subst hK;exact zet
theorem zdH (hK:X.K=K):zcJ X (.type "list") (λxs H Q=>∃p ys,xs=[.ref p]∧(SqL K H p ys∨SqT K H p ys)∧∀l,H l=none->Q (.ref l) (upd H l (.lst ys))):=by subst hK;exact zeY
theorem zfT (hK:X.K=K):zcJ X (.builtin "isinstance") (zla K):=by subst hK;exact zhX
theorem zf0 (hK:X.K=K) (hc:X.calm=true):zcJ X (.builtin "all") (λxs H Q=>∃(a:Addr) (bs:List Bool),xs=[.ref a]∧SqL K H a (bs.map V.bl)∧Q (.bl (bs.all id)) H):=by subst hK;exact zgv hc
theorem zbA (hK:X.K=K):IxR X (zji K):=by subst hK;exact ziU
theorem zhg (hK:X.K=K):SlR X (zkG K):=by subst hK;exact ziL
theorem zgT (hK:X.K=K) (hu:X.A.units+64<cLine):OpR X (compareOp .Eq) (zhT K false):=by subst hK;exact zkA hu
theorem zga (hK:X.K=K) (hu:X.A.units+64<cLine):OpR X (compareOp .NotEq) (zhT K true):=by subst hK;exact zjN hu
theorem zcQ {e:Expr} {f:Str} {pos:Pos} {ta:TE} (hK:X.K=K) (he:PE X e ta) (hb:attributeBase e f X.env (eval e X.env)=eval e X.env):PE X (.Attribute e f pos) (tFld K ta f):=by subst hK;exact zjE he hb
theorem zb6 {tg l:Expr} {tl:TE} (hK:X.K=K) (hl:PE X l tl):PI X tg l (zhl K tl):=by subst hK;exact ziP hl
theorem zhY {a b:Expr} {ta:TA} {p pos tp:Pos} {elts:List Expr} {x1:Nat} (hK:X.K=K) (hg:Gl X "zip") (hm:X.mg "zip"=none) (ha:PA X [a,b] ta) (hs:starEach [a,b] X.env=[(false,eval a X.env),(false,eval b X.env)]:=by rfl) (hs2:starEach [b] X.env=[(false,eval b X.env)]:=by rfl) :
  PI X (.Tuple elts x1 tp) (.Call (.Name "zip" p) [a,b] [] pos) (zkZ K ta):=by subst hK;exact zjS hg hm ha hs hs2
theorem zfp {es:List Expr} {k:Nat} {t:TGs} {n:Nat} {pos:Pos} (hK:X.K=K) (hc:X.calm=true) (h:PGs X es t)
  (hn:((assignEach es X.env)).length=n:=by rfl) (hst:((assignEach es X.env)).findIdx? (·.1)=none:=by rfl):PG X (.Tuple es k pos) (zkJ K n t):=by subst hK;exact zjP hc h hn hst
theorem zbZ {o e:Expr} {to:TE} {t:TA} {apos cpos:Pos} (hK:X.K=K) (ho:PE X o to) (ha:PA X [e] t)
  (hbase:attributeBase o "append" X.env (eval o X.env)=eval o X.env:=by rfl)
  (hfew:((backTo cpos (starEach [e] X.env)).all (λx=>!x.1)&&((backToKw cpos (keywordEach [] X.env))).all (λx=>x.1.isSome)
   &&decide (([e]:List Expr).length+([]:List Keyword).length+(if ([]:List Keyword).isEmpty then 0 else 1)<30))=true:=by rfl)
  (hline:(apos.endLine==cpos.line)=true:=by rfl) (hs:starEach [e] X.env=(false,eval e X.env) :: starEach [] X.env:=by rfl) (hplain:(backTo cpos (starEach [] X.env)).any (·.1)=false:=by rfl) :
  PE X (.Call (.Attribute o "append" apos) [e] [] cpos) (tBM K "list" zcj to t):=by
 subst hK
 exact zk8 PySem.F.plainAttrs_list PySem.F.slot_list_append PySem.F.type_list_append zeP ho ha hbase hfew hline hs hplain
theorem zhA {o:Expr} {to:TE} {apos cpos:Pos} (hK:X.K=K) (ho:PE X o to)
  (hbase:attributeBase o "pop" X.env (eval o X.env)=eval o X.env:=by rfl) (hline:(apos.endLine==cpos.line)=true:=by rfl) :
  PE X (.Call (.Attribute o "pop" apos) [] [] cpos) (zk5 K "list" zk3 to):=by
 subst hK
 exact zks PySem.F.plainAttrs_list PySem.F.slot_list_pop PySem.F.type_list_pop zkk ho hbase hline
end
end L2
namespace L2
open PySem PySem.Spec PyProof.Rows
theorem zaY {n:Nat} (h:n≤10000):n≤sizeLine:=Nat.le_trans h (by decide)
end L2
namespace L2
open PySem PySem.Spec PyProof.Rows
theorem zdO (o:Obj) (f:Array Value->Array Value):(o.mapFields f).dict=o.dict:=by
 obtain ⟨c,d,dt,sl⟩:=o
 cases dt<;>rfl
section
variable {M:Model} {A:Around} {E:Value->Shared->Prop} {s:Shared}
theorem zgj {base:Heap} {env:Env} {outer:List Env} {L e:Addr} {oe:Obj} {vs:Array Value} {head:Value} {hadNext:Bool} {Q:Unit->Shared->Prop}
  (hfr:A.frames=some (env :: outer)) (hl:s.heap.FunFrames base (env :: outer)) (hf:env.frame=some L) (he:s.heap.get? e=some oe) (hd:oe.data=.fields vs) (hsz:1<vs.size)
  (h:∀ (h':Heap) (T:Addr) (oT:Obj) (ts:Array Value),(∀ b o,b ∉ frs (env :: outer)->b≠e->s.heap.get? b=some o->h'.get? b=some o)->(∀ b o,b≠e->s.heap.get? b=some o->∃ sl,h'.get? b=some { o with slots:=sl }) →
   h'.get? e=some (oe.mapFields (·.setIfInBounds 1 (.ref T)))->s.heap.objs.size≤T->h'.get? T=some oT->oT.data=.fields ts->ts[3]?=some (rawInt L)->Q () { s with heap:=h' }) :
  wpAny M A (do let a ← frameOf env;let pl ← entryPlaceOf L hadNext;let b ← EntryCells.newEntry head a .none (rawInt L) .none pl;setField (.ref e) 1 b) Q E s:=by
 have hene:e ∉ (env :: outer).filterMap (·.frame):=λhm=>by
  obtain ⟨_,o,ho,hnf⟩:=hl.mem hm
  rw [he] at ho;injection ho with ho;subst ho;exact hnf vs hd
 refine wpAny_bind (wpAny_frameOf_fun hfr hl hf λh₁ hs₁=>?_)
 refine wpAny_bind (wpAny_entryPlaceOf λpl hpl=>?_)
 unfold EntryCells.newEntry newFields
 refine wpAny_bind (wpAny_newObj_type ?_ (hpl.sizeOk5 _ _ _ _ _))
 have he₁:h₁.get? e=some oe:=(hs₁.2.1 e hene).trans he
 have he₂:=Heap.get?_push_of_some (h:=h₁) { cls:=.type "traceback",dict:=none,data:=.fields (([head,.ref L,.none,rawInt L,.none]++(if pl.isEmpty then List.replicate 6 Value.none else pl))).toArray } he₁
 refine wpAny_setField he₂ hd hsz ?_
 have hTe:h₁.objs.size≠e:=Nat.ne_of_gt (Heap.lt_size he₁)
 have hd₃:=Obj.data_mapFields hd (·.setIfInBounds 1 (Value.ref h₁.objs.size))
 have he₃:=Heap.get?_update_self (Obj.mapFields (·.setIfInBounds 1 (Value.ref h₁.objs.size))) he₂ (Obj.isFreed_of_fields hd₃)
 have hT₃:=(Heap.get?_update_other (h₁.push { cls:=.type "traceback",dict:=none,data:=.fields (([head,.ref L,.none,rawInt L,.none]++(if pl.isEmpty then List.replicate 6 Value.none else pl))).toArray })
  (Obj.mapFields (·.setIfInBounds 1 (Value.ref h₁.objs.size))) (Ne.symm hTe)).trans (Heap.get?_push_size h₁ rfl)
 refine h _ h₁.objs.size _ _ (λb o hb hbe e1=>?_) (λb o hbe e1=>?_) he₃ (Nat.le_of_eq hs₁.1.symm) hT₃ rfl (by first | (simp;done) | (rcases hpl with rfl | ⟨_,_,_,_,_,_,_,rfl⟩<;>simp))
 ·rw [Heap.get?_update_other _ _ (Ne.symm hbe)]
  exact Heap.get?_push_of_some _ ((hs₁.2.1 b hb).trans e1)
 ·obtain ⟨sl,e2⟩:=hs₁.2.2 b o e1
  exact ⟨sl,by rw [Heap.get?_update_other _ _ (Ne.symm hbe)];exact Heap.get?_push_of_some _ e2⟩
end
def ExcAt (h:Heap) (H:Hp) (Fz:Addr->Prop) (L e:Addr) (cls:Value) (dct:Option Addr):Prop :=
 ∃ oe vs a0,h.get? e=some oe∧oe.cls=cls∧oe.dict=dct∧oe.data=.fields vs∧vs[0]?=some a0∧1<vs.size∧H e=none∧Fz e ∧
  (vs[1]?=some .none∨∃ T oT ts,vs[1]?=some (.ref T)∧T≠e∧h.get? T=some oT∧oT.data=.fields ts∧(ts[3]?=some .none∨ts[3]?=some (rawInt L))∧H T=none∧Fz T)
def zdD (h:Heap) (H:Hp) (Fz:Addr->Prop) (fl:Value) (e:Addr) (cls:Value) (dct:Option Addr):Prop :=
 ∃ oe vs a0,h.get? e=some oe∧oe.cls=cls∧oe.dict=dct∧oe.data=.fields vs∧vs[0]?=some a0∧1<vs.size∧H e=none∧Fz e ∧
  ∃ T oT ts,vs[1]?=some (.ref T)∧T≠e∧h.get? T=some oT∧oT.data=.fields ts∧ts[3]?=some fl∧H T=none∧Fz T
theorem zdD.at {h:Heap} {H:Hp} {Fz:Addr->Prop} {L e:Addr} {cls:Value} {dct:Option Addr} (x:zdD h H Fz (rawInt L) e cls dct):ExcAt h H Fz L e cls dct:=by
 obtain ⟨oe,vs,a0,h1,h2,h3,h4,h5,h6,h7,h8,T,oT,ts,t1,t2,t3,t4,t5,t6,t7⟩:=x
 exact ⟨oe,vs,a0,h1,h2,h3,h4,h5,h6,h7,h8,.inr ⟨T,oT,ts,t1,t2,t3,t4,.inr t5,t6,t7⟩⟩
theorem zdD.atN {h:Heap} {H:Hp} {Fz:Addr->Prop} {L e:Addr} {cls:Value} {dct:Option Addr} (x:zdD h H Fz .none e cls dct):ExcAt h H Fz L e cls dct:=by
 obtain ⟨oe,vs,a0,h1,h2,h3,h4,h5,h6,h7,h8,T,oT,ts,t1,t2,t3,t4,t5,t6,t7⟩:=x
 exact ⟨oe,vs,a0,h1,h2,h3,h4,h5,h6,h7,h8,.inr ⟨T,oT,ts,t1,t2,t3,t4,.inl t5,t6,t7⟩⟩
theorem zdD.imp {h:Heap} {H:Hp} {Fz Fz':Addr->Prop} {e:Addr} {fl cls:Value} {dct:Option Addr} (x:zdD h H Fz fl e cls dct) (k:∀ b,Fz b->Fz' b):zdD h H Fz' fl e cls dct:=by
 obtain ⟨oe,vs,a0,h1,h2,h3,h4,h5,h6,h7,h8,T,oT,ts,t1,t2,t3,t4,t5,t6,t7⟩:=x
 exact ⟨oe,vs,a0,h1,h2,h3,h4,h5,h6,h7,k _ h8,T,oT,ts,t1,t2,t3,t4,t5,t6,k _ t7⟩
structure Own (X:Cx):Prop where
 stk:X.stack=X.env :: X.outer
 fr:X.env.frame=some X.env.locals
 ex:X.ex=[]
theorem zbs.there {P:Program} {w:World} {H:Hp} {h:Heap} {a:Addr} {o:HO} (x:zbs P w H h a o):∃ ob,h.get? a=some ob:=by
 cases o with
 | lst xs=>obtain ⟨_,_,_,_,e⟩:=x;exact ⟨_,e⟩
 | tup xs=>obtain ⟨_,_,_,o,e,_⟩:=x;exact ⟨_,e⟩
 | dK kvs=>obtain ⟨_,_,_,_,o,_,_,e,_⟩:=x;exact ⟨_,e⟩
 | dT kvs=>obtain ⟨_,_,_,_,o,_,_,e,_⟩:=x;exact ⟨_,e⟩
 | set S n=>obtain ⟨o,_,_,_,e,_⟩:=x;exact ⟨_,e⟩
 | ins C dx fs=>obtain ⟨_,_,_,e,_⟩:=x;exact ⟨_,e⟩
 | own y=>obtain ⟨_,e⟩:=x;exact ⟨_,e⟩
 | xd fs=>obtain ⟨_,⟨_,_,_,e,_⟩,_⟩:=x;exact ⟨_,e⟩
 | rng lo hi=>obtain ⟨_,_,_,e⟩:=x;exact ⟨_,e⟩
 | frz ob u=>obtain ⟨e,_⟩:=x;exact ⟨_,e⟩
 | tbl ps=>exact ⟨_,(show h.get? a=some _ from x)⟩
 | met f y=>exact ⟨_,(show h.get? a=some _ from x)⟩
 | ext φ=>obtain ⟨_,e,_⟩:=x;exact e
section
variable {X:Cx} {pins:List (Addr×Obj)} {σ:St} {H:Hp} {s:Shared} {h':Heap}
theorem Inv.recs {t':Nat} {ch:List Addr} (I:Inv X pins σ H s) (hch:∀ b∈ch,H b=none∧X.s₀.heap.get? b=none∧b≠X.env.locals∧(∀x c,X.env.cells.lookup x=some c->c≠b)∧∀ p∈X.pn++pins,p.1≠b)
  (hex:X.ex=[]) (k:∀ b o,b ∉ frs X.stack->b ∉ ch->s.heap.get? b=some o->h'.get? b=some o) (ks:∀ b o,b ∉ ch->s.heap.get? b=some o->∃ sl,h'.get? b=some { o with slots:=sl }) :
  Inv X pins σ H { s with heap:=h',toks:=t' }:=by
 have sub:=I.stkSub
 have nfr:∀ b,b≠X.env.locals->b ∉ X.fs->b ∉ frs X.stack:=λb h1 h2 z=>by
  rcases List.mem_cons.mp (sub b z) with q | q
  ·exact h1 q
  ·exact h2 q
 have cl:∀ x c,X.env.cells.lookup x=some c->c≠X.env.locals:=I.cne
 refine ⟨I.ok,I.os,I.bare,⟨λb o e n hb hx=>?_,λb o e n hb hx=>?_,I.base.free,λb o e hx=>?_,I.base.tups,I.base.frzs,I.base.tbls⟩,?_,λx c e=>?_,I.free,I.freeC,λp hp=>?_,λb u e=>?_,I.len⟩
 ·have nc:b ∉ ch:=λz=>by rw [(hch b z).2.1] at e;cases e
  exact k b o (nfr b (Nat.ne_of_lt (Nat.lt_of_lt_of_le (Heap.lt_size e) I.ok.above)) hb) nc (I.base.keep b o e n hb hx)
 ·have nc:b ∉ ch:=λz=>by rw [(hch b z).2.1] at e;cases e
  obtain ⟨sl,e1⟩:=I.base.slot b o e n hb hx
  obtain ⟨sl',e2⟩:=ks b _ nc e1
  exact ⟨sl',e2⟩
 ·have nc:b ∉ ch:=λz=>by rw [(hch b z).2.1] at e;cases e
  obtain ⟨o',e1⟩:=I.base.there b o e hx
  obtain ⟨sl',e2⟩:=ks b _ nc e1
  exact ⟨_,e2⟩
 ·obtain ⟨m,⟨o,es,ep,ho,hd,r⟩,hl⟩:=I.loc
  have nc:X.env.locals ∉ ch:=λz=>(hch _ z).2.2.1 rfl
  obtain ⟨sl,e1⟩:=ks _ _ nc ho
  refine ⟨m,⟨_,es,ep,e1,hd,r⟩,λi x v e1 e2 e3=>?_⟩
  obtain ⟨u,ru,l⟩:=hl i x v e1 e2 e3
  refine ⟨u,ru,?_⟩
  rcases l with l | ⟨kk,c,e,oc,hoc,hcd⟩
  ·exact .inl l
  ·obtain ⟨sl',e4⟩:=ks c oc (λz=>(hch c z).2.2.2.1 x c e rfl) hoc
   exact .inr ⟨kk,c,e,_,e4,hcd⟩
 ·obtain ⟨v,oc,hoc,hcd⟩:=I.cell x c e
  obtain ⟨sl',e4⟩:=ks c oc (λz=>(hch c z).2.2.2.1 x c e rfl) hoc
  exact ⟨v,_,e4,hcd⟩
 ·obtain ⟨e,n,ne,nf,d⟩:=I.pin p hp
  exact ⟨k _ _ (nfr _ ne nf) (λz=>(hch _ z).2.2.2.2 p hp rfl) e,n,ne,nf,d⟩
 ·refine ((I.hok b u e)).stay (λc v hc q=>?_) (λ_ q=>q) λ_ _ q=>q
  have trk:∃ u',H c=some u':=by
   rcases hc with z | z
   ·rw [z];exact ⟨u,e⟩
   ·exact ⟨_,z⟩
  obtain ⟨u',hu'⟩:=trk
  refine k c v (λz=>?_) (λz=>?_) q
  ·rw [I.stkFree c z] at hu';cases hu'
  ·rw [(hch c z).1] at hu';cases hu'
def Fz (X:Cx) (pins:List (Addr×Obj)) (b:Addr):Prop:=X.s₀.heap.get? b=none∧∀ p∈X.pn++pins,p.1≠b
theorem Inv.fz (I:Inv X pins σ H s) (hex:X.ex=[]) {b:Addr} (h:s.heap.get? b=none):Fz X pins b:=by
 refine ⟨?_,λp hp z=>?_⟩
 ·cases q:X.s₀.heap.get? b with
  | none=>rfl
  | some o =>
   obtain ⟨o',e⟩:=I.base.there b o q (by rw [hex];simp)
   rw [h] at e;cases e
 ·rw [← z,(I.pin p hp).1] at h;cases h
theorem Inv.tfree (I:Inv X pins σ H s) {b:Addr} (h:s.heap.get? b=none):H b=none:=by
 cases q:H b with
 | none=>rfl
 | some u =>
  have:=((I.hok b u q)).lt
  cases e:s.heap.get? b with
  | none =>
   obtain ⟨o,e'⟩:=zbs.there (I.hok b u q)
   rw [h] at e';cases e'
  | some o=>rw [h] at e;cases e
theorem zci (I:Inv X pins σ H s) {b:Addr} {o:Obj} {vs:Array Value} (e:s.heap.get? b=some o) (hd:o.data=.fields vs) (hn:H b=none) (hF:Fz X pins b) :
  H b=none∧X.s₀.heap.get? b=none∧b≠X.env.locals∧(∀x c,X.env.cells.lookup x=some c->c≠b)∧∀ p∈X.pn++pins,p.1≠b:=by
 refine ⟨hn,hF.1,λz=>?_,λx c ec z=>?_,hF.2⟩
 ·obtain ⟨m,⟨o',es,ep,ho',hd',_⟩,_⟩:=I.loc
  rw [← z,e] at ho';cases ho';rw [hd] at hd';cases hd'
 ·obtain ⟨v,oc,hoc,hcd⟩:=I.cell x c ec
  rw [z,e] at hoc;cases hoc;rw [hd] at hcd;cases hcd
theorem zeh {M:Model} {E:Value->Shared->Prop} {e:Addr} {cls:Value} {dct:Option Addr} {Q:Unit->Shared->Prop} (O:Own X) (I:Inv X pins σ H s) (x:ExcAt s.heap H (Fz X pins) X.env.locals e cls dct)
  {A:Around} (hA:A.frames=X.A.frames) (hQ:∀ s',Inv X pins σ H s'->zdD s'.heap H (Fz X pins) (rawInt X.env.locals) e cls dct->Q () s'):wpAny M A (noteFrame (.ref e) X.env) Q E s:=by
 obtain ⟨oe,vs,a0,h1,h2,h3,h4,h5,h6,h7,h8,h9⟩:=x
 have hfr:A.frames=some (X.env :: X.outer):=by rw [hA,I.ok.frames,O.stk]
 have hfun:s.heap.FunFrames X.base (X.env :: X.outer):=by have:=I.stack;rw [O.stk] at this;exact this
 have ae:=zci I h1 h4 h7 h8
 have newE:∀ (s1:Shared) (head:Value) (hadNext:Bool),Inv X pins σ H s1->s1.heap.get? e=some oe->(∀ b,b∈X.env :: X.outer->True) →
   wpAny M A (do let a ← frameOf X.env;let pl ← entryPlaceOf X.env.locals hadNext;let b ← EntryCells.newEntry head a .none (rawInt X.env.locals) .none pl;setField (.ref e) 1 b) Q E s1:=λs1 head hadNext I1 e1 _=>by
  have hfun1:s1.heap.FunFrames X.base (X.env :: X.outer):=by have:=I1.stack;rw [O.stk] at this;exact this
  refine zgj hfr hfun1 O.fr e1 h4 h6 λh' T oT ts k ks he hT hgT hdT ht3=>?_
  have hTn:s1.heap.get? T=none:=Heap.get?_none_of_le hT
  have I2:Inv X pins σ H { s1 with heap:=h' }:=by
   refine I1.recs (t':=s1.toks) (ch:=[e]) (λb hb=>?_) O.ex (λb o hb hc q=>?_) (λb o hc q=>?_)
   ·rw [List.mem_singleton.mp hb];exact ae
   ·rw [O.stk] at hb
    exact k b o hb (λz=>hc (by rw [z];exact List.mem_singleton.mpr rfl)) q
   ·exact ks b o (λz=>hc (by rw [z];exact List.mem_singleton.mpr rfl)) q
  refine hQ _ I2 ⟨_,_,a0,he,(Obj.cls_mapFields _ _).trans h2,(zdO _ _).trans h3,Obj.data_mapFields h4 _,?_,?_,h7,h8,T,oT,ts,?_,?_,hgT,hdT,ht3,I1.tfree hTn,I1.fz O.ex hTn⟩
  ·rw [Array.getElem?_setIfInBounds_ne (by decide)];exact h5
  ·rw [Array.size_setIfInBounds];exact h6
  ·rw [Array.getElem?_setIfInBounds_self_of_lt h6]
  ·intro z;rw [z,e1] at hTn;cases hTn
 unfold noteFrame
 simp only [O.fr]
 rcases h9 with h9 | ⟨T,oT,ts,t1,t2,t3,t4,t5,t6,t7⟩
 ·refine wpAny_bind (wpAny_field h1 h4 h9 ?_)
  rw [if_neg (by decide)]
  exact newE s _ _ I h1 (λ_ _=>trivial)
 ·refine wpAny_bind (wpAny_field h1 h4 t1 ?_)
  rw [if_pos (show (Value.ref T !=Value.none)=true from by simp)]
  rcases t5 with t5 | t5
  ·refine wpAny_bind (wpAny_field t3 t4 t5 ?_)
   rw [if_neg (show ¬ ((Value.none == rawInt X.env.locals)=true) from by simp [rawInt])]
   refine wpAny_bind (wpAny_setField t3 t4 ((Array.getElem?_eq_some_iff.mp t5)).1 ?_)
   have aT:=zci I t3 t4 t6 t7
   have other:∀ b,b≠T->(s.heap.update T (Obj.mapFields (·.setIfInBounds 3 Value.none))).get? b=s.heap.get? b:=λb hb=>Heap.get?_update_other _ _ (Ne.symm hb)
   have I1:Inv X pins σ H { s with heap:=s.heap.update T (Obj.mapFields (·.setIfInBounds 3 Value.none)) }:=by
    refine I.recs (t':=s.toks) (ch:=[T]) (λb hb=>?_) O.ex (λb o _ hc q=>?_) (λb o hc q=>⟨o.slots,?_⟩)
    ·rw [List.mem_singleton.mp hb];exact aT
    ·exact ((other b (λz=>hc (by rw [z];exact List.mem_singleton.mpr rfl)))).trans q
    ·exact ((other b (λz=>hc (by rw [z];exact List.mem_singleton.mpr rfl)))).trans q
   exact newE _ _ _ I1 ((other e (Ne.symm t2)).trans h1) (λ_ _=>trivial)
  ·refine wpAny_bind (wpAny_field t3 t4 t5 ?_)
   rw [if_pos (show (rawInt X.env.locals == rawInt X.env.locals)=true from by simp)]
   exact wpAny_pure (hQ s I ⟨oe,vs,a0,h1,h2,h3,h4,h5,h6,h7,h8,T,oT,ts,t1,t2,t3,t4,t5,t6,t7⟩)
theorem zcq {M:Model} {A:Around} {E:Value->Shared->Prop} {e:Addr} {fl cls:Value} {dct:Option Addr} {fr:Option Addr} {Q:Unit->Shared->Prop} (O:Own X) (I:Inv X pins σ H s) (x:zdD s.heap H (Fz X pins) fl e cls dct)
  (hQ:∀ s',Inv X pins σ H s'->zdD s'.heap H (Fz X pins) (fr.elim .none λf=>rawInt f) e cls dct->Q () s'):wpAny M A (setFlight (.ref e) fr) Q E s:=by
 obtain ⟨oe,vs,a0,h1,h2,h3,h4,h5,h6,h7,h8,T,oT,ts,t1,t2,t3,t4,t5,t6,t7⟩:=x
 have h3s:3<ts.size:=((Array.getElem?_eq_some_iff.mp t5)).1
 have aT:=zci I t3 t4 t6 t7
 have other:∀ b,b≠T->(s.heap.update T (Obj.mapFields (·.setIfInBounds 3 (fr.elim Value.none λf=>rawInt f)))).get? b=s.heap.get? b:=λb hb=>Heap.get?_update_other _ _ (Ne.symm hb)
 unfold setFlight
 refine wpAny_bind (wpAny_field h1 h4 t1 ?_)
 rw [if_pos (show (Value.ref T !=Value.none)=true from by simp)]
 refine wpAny_setField t3 t4 h3s (hQ _ ?_ ?_)
 ·refine I.recs (t':=s.toks) (ch:=[T]) (λb hb=>?_) O.ex (λb o _ hc q=>?_) (λb o hc q=>⟨o.slots,?_⟩)
  ·rw [List.mem_singleton.mp hb];exact aT
  ·exact ((other b (λz=>hc (by rw [z];exact List.mem_singleton.mpr rfl)))).trans q
  ·exact ((other b (λz=>hc (by rw [z];exact List.mem_singleton.mpr rfl)))).trans q
 ·exact ⟨oe,vs,a0,(other e (Ne.symm t2)).trans h1,h2,h3,h4,h5,h6,h7,h8,T,_,_,t1,t2,Heap.get?_update_self _ t3 (Obj.isFreed_of_fields (Obj.data_mapFields t4 _)),Obj.data_mapFields t4 _,by rw [Array.getElem?_setIfInBounds_self_of_lt h3s],t6,t7⟩
end
theorem exc_obj {K:W.Frag} {h:Heap} {C:Addr} {bmB:List Value} {newId:String} (X:K.In h) (q:W.excIn K C bmB newId=true) :
  ∃ bm N nm qn bs hdct sn sub ab col dd k0 k1 k2 k3 k5 mN,h.get? C=some (excClassObj nm qn C N bs bm hdct sn sub ab col dd k0 k1 k2 k3 k5 newId)∧h.Ns N mN∧mN "__init__"=none∧OwnTail h bmB bm:=by
 unfold W.excIn at q
 split at q
 ·rename_i dd cd sl ho
  split at q
  ·rename_i C' bm k0 k1 k2 k3 n k5 hm hs
   simp only [Bool.and_eq_true,beq_iff_eq,Bool.not_eq_true'] at q
   obtain ⟨⟨⟨⟨⟨rfl,rfl⟩,hdel⟩,ht⟩,hok⟩,hni⟩:=q
   obtain ⟨nm,bs,mro,ns,qn,hd,sn,sub,ab,col,del⟩:=cd
   dsimp only at hm hdel hok hni
   subst hm hdel
   have hsl:sl=#[k0,k1,k2,k3,some (.builtin n),k5]:=by
    obtain ⟨l⟩:=sl
    simp only at hs
    rw [hs]
   subst hsl
   exact ⟨bm,ns,nm,qn,bs,hd,sn,sub,ab,col,dd,k0,k1,k2,k3,k5,_,X _ _ ho,.of_isNs (W.isNs_of_in X hok),W.nsMap_none_of_in X hok hni,W.tail_of_in X ht⟩
  ·cases q
 ·cases q
end L2
namespace L2
open PySem PySem.Spec PyProof.Rows
def XP (X:Cx) (pins:List (Addr×Obj)) (σ:St) (E:XK) (ev:Value) (s':Shared):Prop :=
 ∃ e cls dct H',ev=.ref e∧Inv X pins σ H' s'∧ExcAt s'.heap H' (Fz X pins) X.env.locals e cls dct∧E cls dct H'
abbrev XS:=St->XK
def XPs (X:Cx) (pins:List (Addr×Obj)) (E:XS) (ev:Value) (s':Shared):Prop:=∃ σ',XP X pins σ' (E σ') ev s'
def CXE (P:Program) (w:World):CXT:=λouter H s E ev s'=>∃ e cls dct H',ev=.ref e∧s'.os=s.os∧AllBare s'.gens∧Un (frs outer) [] H H' s.heap s'.heap∧HOk P w H' s'.heap ∧
 zdD s'.heap H' (λb=>s.heap.get? b=none) .none e cls dct∧E cls dct H'
theorem zb8 {P:Program} {w:World} {X:Cx}:zdY (CXE P w) X E0:=λ_ _ _ _ _ _ _ h=>by
 obtain ⟨_,_,_,_,_,_,_,_,_,_,f⟩:=h
 exact False.elim f
abbrev TEX:=St->Hp->VK->XK->Prop
def PEX (X:Cx) (e:Expr) (t:TEX):Prop :=
 ∀ (pins:List (Addr×Obj)) (s:Shared) (σ:St) (H:Hp) (Q:VK) (E:XK),Inv X pins σ H s->t σ H Q E->wpAny (model X.prog X.w) X.A (eval e X.env) (EP X pins σ Q) (XP X pins σ E) s
abbrev TSX:=Ends->XS->St->Hp->Prop
def PSX (X:Cx) (st:Stmt) (t:TSX):Prop :=
 ∀ (pins:List (Addr×Obj)) (s:Shared) (σ:St) (H:Hp) (D:Ends) (E:XS),Inv X pins σ H s->t D E σ H->wpAny (model X.prog X.w) X.A (exec st X.env) (SP X pins D) (XPs X pins E) s
def ze0 (X:Cx) (st:List Stmt) (t:TSX):Prop :=
 ∀ (pins:List (Addr×Obj)) (s:Shared) (σ:St) (H:Hp) (D:Ends) (E:XS),Inv X pins σ H s->t D E σ H->wpAny (model X.prog X.w) X.A (execs st X.env) (SP X pins D) (XPs X pins E) s
section
variable {X:Cx} {e:Expr} {st:Stmt} {rest:List Stmt} {pos:Pos}
theorem zhw {t:TS} (h:PS X.nox st t):PSX X st (λD _ σ H=>t D σ H):=λpins s σ H D E I hw =>
 wpAny_mono (h pins s σ H D (I.wish _) hw) (λ_ _ q=>SP.unwish q) λ_ _ f=>f.elim
theorem zhr:ze0 X [] (λD _ σ H=>D.nx σ H):=λ_ _ σ H _ _ I h=>wpAny_execs_nil ⟨σ,H,I,h⟩
theorem zgV {t u:TSX} (h1:PSX X st t) (h2:ze0 X rest u):ze0 X (st :: rest) (λD E σ H=>t { D with nx:=u D E } E σ H):=by
 intro pins s σ H D E I h
 refine wpAny_execs_cons (thn (h1 pins s σ H { D with nx:=u D E } E I h) λf s1 q=>?_)
 cases f with
 | next =>
  obtain ⟨σ',H',I',q⟩:=q
  exact h2 pins s1 σ' H' D E I' q
 | ret v=>exact q
 | brk=>exact q
 | cont=>exact q
theorem zjz {c:Expr} {a b:List Stmt} {tc:TT} {t u:TSX} (hc:PT X.nox c tc) (ha:ze0 X a t) (hb:ze0 X b u):PSX X (.If c a b pos) (λD E σ H=>tc σ H λk H1=>if k=true then t D E σ H1 else u D E σ H1):=by
 intro pins s σ H D E I h
 refine wpAny_If (wpAny_mono (hc pins s σ H _ (I.wish _) h) (λd s1 ⟨H1,I1,q1⟩=>?_) λ_ _ f=>f.elim)
 cases d with
 | true=>exact ha pins s1 σ H1 D E I1.unwish q1
 | false=>exact hb pins s1 σ H1 D E I1.unwish q1
theorem zis {i:Nat} {x:Str} {te:TEX} {pos':Pos} (hN:X.N.Nodup) (hi:X.N[i]?=some x) (hx:Loc X.env.scope x) (he:PEX X e te) (hs:swapsWith e (some (.Name x pos')) pos.line X.env=pure false:=by rfl)
  (hf:X.fn x=true∨X.env.scope.names.lookup x=some .local:=by first | exact .inl rfl | exact .inr rfl | assumption) :
  PSX X (.Assign [.Name x pos'] e pos) (λD E σ H=>te σ H (λv H1=>D.nx (σ.set i (some v)) H1) (E σ)):=by
 intro pins s σ H D E I h
 refine wpAny_Assign_Name (wpAny_mono (he pins s σ H _ _ I h) (λv s1 ⟨y,H1,I1,r1,q1⟩=>?_) λ_ _ q=>⟨σ,q⟩) hs
 exact zcL I1 hN hi hx r1 (λs2 I2=>⟨_,H1,I2,q1⟩) hf
end
section
variable {X:Cx} {k:Nat} {ps:List Str} {sp:Sp} {x:Str} {p pos:Pos} {e:Expr} {es:List Expr} {t:TA}
theorem zgM {pins:List (Addr×Obj)} {σ:St} {H:Hp} {s s':Shared} {E:XK} {ev:Value} (O:Own X) (I:Inv X pins σ H s) (h:CXE X.prog X.w X.stack H s E ev s'):XP X pins σ E ev s':=by
 obtain ⟨a,cls,dct,H',rfl,ho,hb,u,hok,x,q⟩:=h
 have I':Inv X pins σ H' s':=I.call' (ch:=[]) ho u hok hb λb hb=>by cases hb
 exact ⟨a,cls,dct,H',rfl,I',(x.imp λb hb=>I.fz O.ex hb).atN,q⟩
theorem zk6 (O:Own X) (F:Callee X.prog X.w X.K X.mg X.base (CXE X.prog X.w) k x ps sp) (hr:Room k X.A) (hg:Gl X x)
  (ha:PA X.nox (e::es) t) (hdb:(x==("__debug__" :Str))=false:=by decide) (he:starEach (e::es) X.env=(false,eval e X.env) :: starEach es X.env:=by rfl) (hpl:((backTo pos (starEach es X.env))).any (·.1)=false:=by rfl) :
  PEX X (.Call (.Name x p) (e::es) [] pos) (λσ H Q E=>t σ H λvs H1=>sp (vs++[]) H1 Q E):=by
 obtain ⟨f,fd,G,hm,hk,hb⟩:=F.ex
 intro pins s σ H Q E I h
 refine wpAny_Call_Name_kw (zcH I hg hm ?_ hdb)
 refine W.callWith_K (h₀:=X.base) I.ok.mod.kin hk (wpAny_mono (ha pos pins s σ H _ (I.wish _) h) (λus s1 ⟨vs,H1,I1,r,q⟩=>⟨I1.unwish.kIn,?_⟩) λ_ _ f=>f.elim) he hpl
 have I2:=I1.unwish
 have r2:zbl (vs++[]) (us++[]):=r.append .nil
 have hl:(us++[]).length=ps.length:=by rw [← r2.length];exact G.len _ _ _ _ q
 refine wpAny_call (codeAny_mono (G.run X.A X.stack s1 H1 ⟨us,[]⟩ (us++[]) (vs++[]) Q E hr I2.env0 (hb s1 us I2.kIn hl) r2 q) λr s' hq=>?_)
 cases r with
 | error e=>exact zgM O I2 hq
 | ok fl =>
  cases fl with
  | ret u=>exact I2.after hq
  | next=>exact False.elim hq
  | brk=>exact False.elim hq
  | cont=>exact False.elim hq
theorem zgr {C:Addr} {B newId initId:String} {bmB:List Value} {np cpos:Pos} (O:Own X) (hc:X.calm=true) (hg:Gl X x) (hm:X.mg x=some (.ref C)) (hK:W.excIn X.K C bmB newId=true) (FB:ExcBaseFacts B newId initId bmB)
  (ha:PA X.nox (e::es) t) (hdb:(x==("__debug__" :Str))=false:=by decide) (he:starEach (e::es) X.env=(false,eval e X.env) :: starEach es X.env:=by rfl) (hpl:((backTo cpos (starEach es X.env))).any (·.1)=false:=by rfl) :
  PSX X (.Raise (some (.Call (.Name x np) (e::es) [] cpos)) none pos) (λ_ E σ H=>t σ H λvs H1=>vs.length≤sizeLine∧E σ (.ref C) none H1):=by
 intro pins s σ H D E I h
 obtain ⟨tl,N,nm,q,bs,hdct,sn,sub,ab,col,dd,k0,k1,k2,k3,k5,mN,hC,hN,hni,T⟩:=exc_obj I.ok.mod.kin hK
 refine wpAny_Raise_call_subT (C:=C) (nm:=nm) (q:=q) (N:=N) (bs:=bs) (bm:=tl) (hdct:=hdct) (sn:=sn) (sub:=sub) (ab:=ab) (col:=col) (dd:=dd) (k0:=k0) (k1:=k1) (k2:=k2) (k3:=k3) (k5:=k5)
  FB (mN:=mN) (T.hasType FB.hasBase) (I.ok.hd hc) (by rw [he];show (false||((backTo cpos (starEach es X.env))).any (·.1))=false;rw [hpl];rfl) hni (zcH I hg hm ⟨rfl,?_⟩ hdb)
 have hA:=ha cpos pins s σ H _ (I.wish _) h
 rw [he] at hA ⊢
 refine Calls.evalArgs_plain (wpAny_mono hA (λus s1 ⟨vs,H1,I1,r,hz,qE⟩=>⟨rfl,?_,?_⟩) λ_ _ f=>f.elim)
 ·show us.length≤sizeLine
  rw [← r.length];exact hz
 ·have I2:=I1.unwish
  refine ⟨I2.bk _ _ hC,hN.keeps I2.bk,T.keeps I2.bk,λh' ea hx=>?_⟩
  obtain ⟨tp,hea,_,_⟩:=hx.there
  refine ⟨σ,ea,.ref C,none,H1,rfl,I2.kept (t':=s1.toks) hx.keeps,⟨_,_,_,hea,rfl,rfl,rfl,rfl,by show 1<6;decide,I2.tfree hx.new,I2.fz O.ex hx.new,.inl rfl⟩,qE⟩
end
section
variable {P:Program} {w:World} {K:W.Frag} {mg:Str->Option Value} {base:Heap}
theorem zhd {N:List Str} {qual:Str} {scope:Scope} {f:Addr} {cd:Value} {A:Around} {outer:List Env} {s:Shared} {H:Hp} {E:XK} {pins:List (Addr×Obj)} {ev:Value} {s':Shared}
  (h:XPs (zfI (CXE P w) P w K mg base N qual scope f cd A outer s H E) pins (λ_=>E) ev s'):((zfI (CXE P w) P w K mg base N qual scope f cd A outer s H E)).xe ev s':=by
 obtain ⟨σ',e,cls,dct,H',rfl,I,x,q⟩:=h
 have O:Own (zfI (CXE P w) P w K mg base N qual scope f cd A outer s H E):=⟨rfl,rfl,rfl⟩
 show wpAny _ _ (leaving _ (.ref e)) _ _ s'
 unfold leaving
 refine wpAny_bind (zeh O I x rfl λs1 I1 x1=>?_)
 refine zcq (fr:=none) O I1 x1 λs2 I2 x2=>?_
 exact ⟨e,cls,dct,H',rfl,I2.os,I2.bare,I2.base,I2.hok,x2.imp (λb hb=>hb.1),q⟩
theorem Fun.okN {x qual:Str} {st:Stmt} {f:Addr} {fd:FuncData} {N ps:List Str} {k:Nat} {sp:Sp} (F:Fun K x qual st f fd) (S:FnScope N ps (zah st)) (len:∀ vs H Q E,sp vs H Q E->vs.length=ps.length)
  (hbody:∀ (cdv:Value) (A:Around) (outer:List Env) (s:Shared) (H:Hp) (vs:List V) (Q:VK) (E:XK),Room k (A.deeper (envOfC qual (zah st) s.heap.objs.size f cdv))->sp vs H Q E →
   ∃ t,PSs ((zfI (CXE P w) P w K mg base N qual (zah st) f cdv A outer s H E)).nox (zbK st) t∧t { nx:=λ_ H'=>Q .non H',rt:=Q } (zcr N vs) H):FnOk P w K mg base (CXE P w) (k+1) f fd ps sp:=by
 obtain ⟨oc,od,kV,doc,pm,an,cdv,ct,osl,rfl,lk,hcd⟩:=F.ex
 refine zjY lk hcd S len λA outer s H vs Q E hr hsp=>?_
 obtain ⟨t,h,q⟩:=hbody cdv A outer s H vs Q E hr hsp
 exact ⟨t,λpins s1 σ H1 D I hw=>wpAny_mono (h pins s1 σ H1 D (I.wish _) hw) (λ_ _ q=>SP.unwish q) λ_ _ f=>f.elim,q⟩
theorem Fun.okX {x qual:Str} {st:Stmt} {f:Addr} {fd:FuncData} {N ps:List Str} {k:Nat} {sp:Sp} (F:Fun K x qual st f fd) (S:FnScope N ps (zah st)) (len:∀ vs H Q E,sp vs H Q E->vs.length=ps.length)
  (hbody:∀ (cdv:Value) (A:Around) (outer:List Env) (s:Shared) (H:Hp) (vs:List V) (Q:VK) (E:XK),Room k (A.deeper (envOfC qual (zah st) s.heap.objs.size f cdv))->sp vs H Q E →
   ∃ t,ze0 (zfI (CXE P w) P w K mg base N qual (zah st) f cdv A outer s H E) (zbK st) t∧t { nx:=λ_ H'=>Q .non H',rt:=Q } (λ_=>E) (zcr N vs) H):FnOk P w K mg base (CXE P w) (k+1) f fd ps sp:=by
 obtain ⟨oc,od,kV,doc,pm,an,cdv,ct,osl,rfl,lk,hcd⟩:=F.ex
 refine zjY lk hcd S len λA outer s H vs Q E hr hsp=>?_
 obtain ⟨t,h,q⟩:=hbody cdv A outer s H vs Q E hr hsp
 exact ⟨λD σ H=>t D (λ_=>E) σ H,λpins s1 σ H1 D I hw=>wpAny_mono (h pins s1 σ H1 D _ I hw) (λ_ _ q=>q) λ_ _ q=>zhd q,q⟩
end
end L2
namespace L2
open PySem PySem.Spec PyProof.Rows
structure Ds where
 pr:Hp->V->Prop
 up:∀ {H H':Hp} {v:V},Same H H'->pr H v->pr H' v
theorem zbU {ds:List Ds} {H H':Hp} (e:Same H H'):∀ {vs:List V} {ds:List Ds},Paired (λv (d:Ds)=>d.pr H v) vs ds->Paired (λv (d:Ds)=>d.pr H' v) vs ds
 | _,_,.nil=>.nil
 | _,_,.cons (b:=d) h t=>.cons (d.up e h) (zbU (ds:=[]) e t)
theorem zbW {α β:Type} {R S:α->β->Prop} (h:∀ a b,R a b->S a b):∀ {xs:List α} {ys:List β},Paired R xs ys->Paired S xs ys
 | _,_,.nil=>.nil
 | _,_,.cons q t=>.cons (h _ _ q) (zbW h t)
theorem zaI {α β:Type} {R:α->β->Prop}:∀ {xs:List α} {ys:List β} {i:Nat} {y:β},Paired R xs ys->ys[i]?=some y->∃ x,xs[i]?=some x∧R x y
 | _,_,_,_,.nil,e=>by simp at e
 | _,_,0,_,.cons r _,e=>by simp at e;subst e;exact ⟨_,rfl,r⟩
 | _,_,i+1,y,.cons _ t,e=>by
  obtain ⟨u,h1,h2⟩:=zaI (i:=i) (y:=y) t (by simpa using e)
  exact ⟨u,by simpa using h1,h2⟩
theorem zbF {α β:Type} {R:α->β->Prop}:∀ {xs xs':List α} {ys ys':List β},Paired R xs ys->Paired R xs' ys'->Paired R (xs++xs') (ys++ys')
 | _,_,_,_,.nil,s=>s
 | _,_,_,_,.cons r t,s=>.cons r (zbF t s)
theorem zdw {α β:Type} {R:α->β->Prop}:∀ {xs:List α} {ys:List β} (n:Nat),Paired R xs ys->Paired R (xs.take n) (ys.take n)
 | _,_,0,_=>.nil
 | _,_,_+1,.nil=>.nil
 | _,_,n+1,.cons r t=>.cons r (zdw n t)
theorem zdL {α β:Type} {R:α->β->Prop}:∀ {xs:List α} {ys:List β} (n:Nat),Paired R xs ys->Paired R (xs.drop n) (ys.drop n)
 | _,_,0,r=>r
 | _,_,_+1,.nil=>.nil
 | _,_,n+1,.cons _ t=>zdL n t
abbrev dV (v:V):Ds:=⟨λ_ u=>u=v,λ_ h=>h⟩
abbrev dI (n:Int):Ds:=dV (.int n)
abbrev dB (b:Bool):Ds:=dV (.bl b)
abbrev dN:Ds:=dV .non
abbrev dS (x:Str):Ds:=dV (.str x)
def dL (ds:List Ds):Ds:=⟨λH v=>∃ p vs,v=.ref p∧H p=some (.lst vs)∧Paired (λv (d:Ds)=>d.pr H v) vs ds,λe ⟨p,vs,h1,h2,h3⟩=>⟨p,vs,h1,e _ _ h2,zbU (ds:=[]) e h3⟩⟩
def dQ (K:W.Frag) (ds:List Ds):Ds:=⟨λH v=>∃ p vs,v=.ref p∧SqL K H p vs∧Paired (λv (d:Ds)=>d.pr H v) vs ds,λe ⟨p,vs,h1,h2,h3⟩=>⟨p,vs,h1,e.seq h2,zbU (ds:=[]) e h3⟩⟩
def dT (ds:List Ds):Ds:=⟨λH v=>∃ p vs,v=.ref p∧H p=some (.tup vs)∧Paired (λv (d:Ds)=>d.pr H v) vs ds,λe ⟨p,vs,h1,h2,h3⟩=>⟨p,vs,h1,e _ _ h2,zbU (ds:=[]) e h3⟩⟩
def dO (C:Addr) (fs:List (Str×Ds)):Ds:=⟨λH v=>∃ p dx vs,v=.ref p∧H p=some (.ins C dx vs)∧H dx=some (.own p)∧Paired (λ(a:Str×V) (b:Str×Ds)=>a.1=b.1∧b.2.pr H a.2) vs fs,
 λe ⟨p,dx,vs,h1,h2,h3,h4⟩=>⟨p,dx,vs,h1,e _ _ h2,e _ _ h3,zbW (λ_ b q=>⟨q.1,b.2.up e q.2⟩) h4⟩⟩
class Enc (α:Type) where
 d:α->Ds
instance:Enc Int:=⟨dI⟩
instance:Enc Bool:=⟨dB⟩
instance:Enc Unit:=⟨λ_=>dN⟩
instance:Enc Str:=⟨dS⟩
instance {α:Type} [Enc α]:Enc (List α):=⟨λxs=>dL (xs.map Enc.d)⟩
instance {α β:Type} [Enc α] [Enc β]:Enc (α×β):=⟨λp=>dT [Enc.d p.1,Enc.d p.2]⟩
instance {α:Type} [Enc α]:Enc (Option α):=⟨λo=>match o with | none=>dN | some x=>Enc.d x⟩
structure T3 (α β γ:Type) where
 a:α
 b:β
 c:γ
instance {α β γ:Type} [Enc α] [Enc β] [Enc γ]:Enc (T3 α β γ):=⟨λp=>dT [Enc.d p.a,Enc.d p.b,Enc.d p.c]⟩
structure Grow (F H F' H':Hp):Prop where
 f:Same F F'
 fh:Same F' H'
 h:Same H H'
 no:∀ a,H a≠none->F a=none->F' a=none
theorem Grow.refl {F H:Hp} (e:Same F H):Grow F H F H:=⟨Same.refl _,e,Same.refl _,λ_ _ h=>h⟩
theorem Same.some {H H':Hp} (e:Same H H') {a:Addr} (h:H a≠none):H' a≠none:=by
 cases q:H a with
 | none=>exact absurd q h
 | some o=>rw [e _ _ q];simp
theorem Grow.trans {F H F' H' F'' H'':Hp} (g:Grow F H F' H') (k:Grow F' H' F'' H''):Grow F H F'' H'' :=
 ⟨g.f.trans k.f,k.fh,g.h.trans k.h,λa h1 h2=>k.no a (g.h.some h1) (g.no a h1 h2)⟩
theorem Grow.new {F H F' H':Hp} (g:Grow F H F' H') {p:Addr} {o:HO} (hp:H' p=none):Grow F H (upd F' p o) (upd H' p o):=by
 have hf:F' p=none:=by
  cases q:F' p with
  | none=>rfl
  | some u=>rw [g.fh _ _ q] at hp;cases hp
 refine ⟨g.f.trans (Same.new hf _),λa u q=>?_,g.h.trans (Same.new hp _),λa h1 h2=>?_⟩
 ·by_cases e:a=p
  ·subst e;rw [zak] at q ⊢;exact q
  ·rw [zad e] at q ⊢;exact g.fh _ _ q
 ·have:a≠p:=λe=>by subst e;exact (g.h.some h1) hp
  rw [zad this];exact g.no a h1 h2
theorem Grow.newH {F H F' H':Hp} (g:Grow F H F' H') {p:Addr} {o:HO} (hp:H' p=none):Grow F H F' (upd H' p o) :=
 ⟨g.f,g.fh.trans (Same.new hp _),g.h.trans (Same.new hp _),g.no⟩
theorem Grow.setH {F H F' H':Hp} (g:Grow F H F' H') {p:Addr} {o:HO} (hf:F' p=none) (hp:H p=none):Grow F H F' (upd H' p o) :=
 ⟨g.f,λa u q=>by rw [zad (zam q hf)];exact g.fh _ _ q,λa u q=>by rw [zad (zam q hp)];exact g.h _ _ q,g.no⟩
theorem Grow.take {F H F' H':Hp} (g:Grow F H F' H') {p:Addr} {o:HO} (hp:H p=none) (e:H' p=some o):Grow F H (upd F' p o) H':=by
 refine ⟨λa u q=>?_,λa u q=>?_,g.h,λa h1 h2=>?_⟩
 ·by_cases z:a=p
  ·subst z
   have:=g.fh _ _ (g.f _ _ q)
   rw [e] at this;cases this;exact zak
  ·rw [zad z];exact g.f _ _ q
 ·by_cases z:a=p
  ·subst z;rw [zak] at q;cases q;exact e
  ·rw [zad z] at q;exact g.fh _ _ q
 ·have:a≠p:=λz=>by subst z;exact h1 hp
  rw [zad this];exact g.no a h1 h2
def off (F Hb:Hp):Hp:=λa=>match Hb a with | none=>F a | some _=>none
theorem zbz {F Hb:Hp} {a:Addr} {o:HO}:off F Hb a=some o ↔ Hb a=none∧F a=some o:=by
 unfold off
 cases q:Hb a with
 | none=>simp
 | some u=>simp
theorem zjr {F F' Hb:Hp} (e:Same F F'):Same (off F Hb) (off F' Hb):=λa o q=>by
 rw [zbz] at q ⊢;exact ⟨q.1,e _ _ q.2⟩
theorem zgz {F Hb:Hp}:Same (off F Hb) F:=λa o q=>(zbz.mp q).2
theorem zi5 {F Hb Hc:Hp} (e:Same Hb Hc):Same (off F Hc) (off F Hb):=λa o q=>by
 rw [zbz] at q ⊢
 refine ⟨?_,q.2⟩
 cases z:Hb a with
 | none=>rfl
 | some u=>rw [e _ _ z] at q;cases q.1
def zcK (m:Bool) (F Hb:Hp):Hp:=match m with | true=>off F Hb | false=>F
theorem zaS {m:Bool} {F F' Hb:Hp} (e:Same F F'):Same (zcK m F Hb) (zcK m F' Hb):=by
 cases m with
 | true=>exact zjr e
 | false=>exact e
theorem zaM {m:Bool} {F Hb:Hp}:Same (zcK m F Hb) F:=by
 cases m with
 | true=>exact zgz
 | false=>exact Same.refl _
theorem zcP {m:Bool} {F Hb:Hp} {p:Addr} {o:HO} (hb:Hb p=none) (hp:F p=some o):zcK m F Hb p=some o:=by
 cases m with
 | true=>exact zbz.mpr ⟨hb,hp⟩
 | false=>exact hp
inductive Slot where
 | no
 | va (m:Bool) (d:Ds)
 | ow (m:Bool) (ds:List Ds)
 | ob (m:Bool) (C p dx:Addr) (fs:List (Str×Ds))
 | tl (d:Ds)
 | ol (p:Addr) (ds:List Ds)
abbrev Ctx:=List Slot
def zcM (Hb F H:Hp) (own:Nat->Option Addr) (i:Nat) (v:Option V):Slot->Prop
 | .tl d=>∃ x R,v=some x∧Same R H∧(∀ a o,R a=some o->F a=none∧Hb a=none)∧(∀ j p,own j=some p->R p=none)∧d.pr R x
 | .no=>True
 | .va m d=>∃ x,v=some x∧d.pr (zcK m F Hb) x
 | .ow m ds=>∃ p vs,v=some (.ref p)∧own i=some p∧F p=none∧Hb p=none∧H p=some (.lst vs)∧Paired (λv (d:Ds)=>d.pr (zcK m F Hb) v) vs ds
 | .ol p ds=>∃ vs,v=some (.ref p)∧own i=some p∧F p=none∧Hb p=none∧H p=some (.lst vs)∧Paired (λv (d:Ds)=>d.pr F v) vs ds
 | .ob m C p dx fs=>∃ vs,v=some (.ref p)∧own i=some p∧(F p=none∧F dx=none)∧(Hb p=none∧Hb dx=none)∧(H p=some (.ins C dx vs)∧H dx=some (.own p))∧Paired (λ(a:Str×V) (b:Str×Ds)=>a.1=b.1∧b.2.pr (zcK m F Hb) a.2) vs fs
structure At (F0 Hb F H:Hp) (σ:St) (own:Nat->Option Addr) (Γ:Ctx):Prop where
 g:Grow F0 Hb F H
 inj:∀ i j p,own i=some p->own j=some p->i=j
 liv:∀ i p,own i=some p->H p≠none
 sl:∀ i s,Γ[i]?=some s->zcM Hb F H own i (σ[i]?).join s
 len:σ.length=Γ.length
theorem zcM.grow {Hb F H F' H':Hp} {own:Nat->Option Addr} {i:Nat} {v:Option V} {s:Slot} (h:zcM Hb F H own i v s) (g:Grow F H F' H'):zcM Hb F' H' own i v s:=by
 cases s with
 | no=>trivial
 | tl d =>
  obtain ⟨x,R,e,h1,h2,h3,h4⟩:=h
  exact ⟨x,R,e,h1.trans g.h,λa o q=>⟨g.no a (by rw [h1 _ _ q];simp) (h2 a o q).1,(h2 a o q).2⟩,h3,h4⟩
 | va m d=>obtain ⟨x,e,q⟩:=h;exact ⟨x,e,d.up (zaS g.f) q⟩
 | ow m ds =>
  obtain ⟨p,vs,e,ho,hf,hb,hp,q⟩:=h
  exact ⟨p,vs,e,ho,g.no p (by rw [hp];simp) hf,hb,g.h _ _ hp,zbU (ds:=[]) (zaS g.f) q⟩
 | ol p ds =>
  obtain ⟨vs,e,ho,hf,hb,hp,q⟩:=h
  exact ⟨vs,e,ho,g.no p (by rw [hp];simp) hf,hb,g.h _ _ hp,zbU (ds:=[]) g.f q⟩
 | ob m C p dx fs =>
  obtain ⟨vs,e,ho,hf,hb,hp,q⟩:=h
  exact ⟨vs,e,ho,⟨g.no p (by rw [hp.1];simp) hf.1,g.no dx (by rw [hp.2];simp) hf.2⟩,hb,⟨g.h _ _ hp.1,g.h _ _ hp.2⟩,zbW (λ_ b z=>⟨z.1,b.2.up (zaS g.f) z.2⟩) q⟩
theorem At.grow {F0 Hb F H F' H':Hp} {σ:St} {own:Nat->Option Addr} {Γ:Ctx} (a:At F0 Hb F H σ own Γ) (g:Grow F H F' H'):At F0 Hb F' H' σ own Γ :=
 ⟨a.g.trans g,a.inj,λi p e=>g.h.some (a.liv i p e),λi s e=>(a.sl i s e).grow g,a.len⟩
theorem At.fh {F0 Hb F H:Hp} {σ:St} {own:Nat->Option Addr} {Γ:Ctx} (a:At F0 Hb F H σ own Γ):Same F H:=a.g.fh
theorem zb7 {σ:St} {i:Nat} {x:Option V} (h:i<σ.length):((σ.set i x)[i]?).join=x:=by
 rw [List.getElem?_set_self h];rfl
theorem zcx {σ:St} {i j:Nat} {x:Option V} (h:i≠j):((σ.set i x)[j]?).join=(σ[j]?).join:=by
 rw [List.getElem?_set_ne h]
theorem At.set {F0 Hb F H:Hp} {σ:St} {own:Nat->Option Addr} {Γ:Ctx} (a:At F0 Hb F H σ own Γ) (i:Nat) {m:Bool} {d:Ds} {v:V} (h:d.pr (zcK m F Hb) v) :
  At F0 Hb F H (σ.set i (some v)) own (Γ.set i (.va m d)):=by
 refine ⟨a.g,a.inj,a.liv,λj s e=>?_,by simp [a.len]⟩
 by_cases z:i=j
 ·subst z
  have hi:i<Γ.length:=by
   have:=((List.getElem?_eq_some_iff.mp e)).1
   simpa using this
  rw [List.getElem?_set_self hi] at e
  cases e
  rw [zb7 (by rw [a.len];exact hi)]
  exact ⟨v,rfl,h⟩
 ·rw [List.getElem?_set_ne z] at e
  rw [zcx z]
  exact a.sl j s e
theorem At.setOwn {F0 Hb F1 H1 F H:Hp} {σ:St} {own:Nat->Option Addr} {Γ:Ctx} (a1:At F0 Hb F1 H1 σ own Γ) (g:Grow F1 H1 F H) (i:Nat) {m:Bool} {ds:List Ds} {p:Addr} {vs:List V} (h1:H1 p=none) (hf:F p=none) (hp:H p=some (.lst vs))
  (h:Paired (λv (d:Ds)=>d.pr (zcK m F Hb) v) vs ds):At F0 Hb F H (σ.set i (some (.ref p))) (λj=>if j=i then some p else own j) (Γ.set i (.ow m ds)):=by
 have a:=a1.grow g
 have hb:Hb p=none:=a1.g.h.free h1
 have ho:∀ j,own j≠some p:=λj e=>a1.liv j p e h1
 refine ⟨a.g,λj k q e1 e2=>?_,λj q e=>?_,λj s e=>?_,by simp [a.len]⟩
 ·skip
  split at e1<;>split at e2
  ·omega
  ·cases e1;exact absurd e2 (ho k)
  ·cases e2;exact absurd e1 (ho j)
  ·exact a.inj j k q e1 e2
 ·skip
  split at e
  ·cases e;rw [hp];simp
  ·exact a.liv j q e
 ·by_cases z:i=j
  ·subst z
   have hi:i<Γ.length:=by
    have:=((List.getElem?_eq_some_iff.mp e)).1
    simpa using this
   rw [List.getElem?_set_self hi] at e
   cases e
   rw [zb7 (by rw [a.len];exact hi)]
   exact ⟨p,vs,rfl,by simp,hf,hb,hp,h⟩
  ·rw [List.getElem?_set_ne z] at e
   rw [zcx z]
   have z':¬ j=i:=Ne.symm z
   cases s with
   | tl d =>
    obtain ⟨x,R,q1,q2,q3,q4,q5⟩:=a1.sl j _ e
    refine ⟨x,R,q1,q2.trans g.h,λb o w=>⟨g.no b (by rw [q2 _ _ w];simp) (q3 b o w).1,(q3 b o w).2⟩,λk q w=>?_,q5⟩
    dsimp only at w
    split at w
    ·cases w;exact q2.free h1
    ·exact q4 k q w
   | no=>trivial
   | va m d=>exact a.sl j _ e
   | ow m ds =>
    obtain ⟨q,us,w1,w2,w3⟩:=a.sl j _ e
    exact ⟨q,us,w1,(if_neg z').trans w2,w3⟩
   | ol q ds =>
    obtain ⟨us,w1,w2,w3⟩:=a.sl j _ e
    exact ⟨us,w1,(if_neg z').trans w2,w3⟩
   | ob m C q dx fs =>
    obtain ⟨us,w1,w2,w3⟩:=a.sl j _ e
    exact ⟨us,w1,(if_neg z').trans w2,w3⟩
theorem At.turn {F0 Hb F H:Hp} {σ:St} {own:Nat->Option Addr} {Γ:Ctx} (a:At F0 Hb F H σ own Γ) {i:Nat} {m n:Bool} {ds es:List Ds} {p:Addr} {ws:List V} (e:Γ[i]?=some (.ow m ds)) (ep:σ[i]?=some (some (.ref p)))
  (h:Paired (λv (d:Ds)=>d.pr (zcK n F Hb) v) ws es):At F0 Hb F (upd H p (.lst ws)) σ own (Γ.set i (.ow n es)):=by
 obtain ⟨p',vs,e1,e2,hf,hb,hp,_⟩:=a.sl i _ e
 rw [ep] at e1
 have e1':p=p':=by
  have:some (V.ref p)=some (V.ref p'):=e1
  cases this;rfl
 subst e1'
 refine ⟨a.g.setH hf hb,a.inj,λj q ej=>?_,λj s es'=>?_,by simp [a.len]⟩
 ·by_cases z:q=p
  ·subst z;rw [zak];simp
  ·rw [zad z];exact a.liv j q ej
 ·by_cases z:i=j
  ·subst z
   have hi:i<Γ.length:=((List.getElem?_eq_some_iff.mp e)).1
   rw [List.getElem?_set_self hi] at es'
   cases es'
   exact ⟨p,ws,by rw [ep];rfl,e2,hf,hb,zak,h⟩
  ·rw [List.getElem?_set_ne z] at es'
   have:=a.sl j s es'
   cases s with
   | no=>trivial
   | tl d =>
    obtain ⟨x,R,q1,q2,q3,q4,q5⟩:=this
    exact ⟨x,R,q1,λb o w=>by rw [zad (zam w (q4 i p e2))];exact q2 b o w,q3,q4,q5⟩
   | va m d=>exact this
   | ow m ds =>
    obtain ⟨q,us,h1,h2,h3,h4,h5,h6⟩:=this
    have:q≠p:=λw=>by subst w;exact z (a.inj i j q e2 h2)
    exact ⟨q,us,h1,h2,h3,h4,by rw [zad this];exact h5,h6⟩
   | ol q ds =>
    obtain ⟨us,h1,h2,h3,h4,h5,h6⟩:=this
    have:q≠p:=λw=>by subst w;exact z (a.inj i j q e2 h2)
    exact ⟨us,h1,h2,h3,h4,by rw [zad this];exact h5,h6⟩
   | ob m C q dx fs =>
    obtain ⟨us,h1,h2,h3,h4,h5,h6⟩:=this
    have n1:q≠p:=λw=>by subst w;exact z (a.inj i j q e2 h2)
    have n2:dx≠p:=zh0 h5.2 hp (by intro z;cases z)
    exact ⟨us,h1,h2,h3,h4,⟨by rw [zad n1];exact h5.1,by rw [zad n2];exact h5.2⟩,h6⟩
theorem At.turnOb {F0 Hb F H:Hp} {σ:St} {own:Nat->Option Addr} {Γ:Ctx} (a:At F0 Hb F H σ own Γ) {i:Nat} {m n:Bool} {C p dx:Addr} {fs gs:List (Str×Ds)} {ws:List (Str×V)} (e:Γ[i]?=some (.ob m C p dx fs))
  (h:Paired (λ(a:Str×V) (b:Str×Ds)=>a.1=b.1∧b.2.pr (zcK n F Hb) a.2) ws gs):At F0 Hb F (upd H p (.ins C dx ws)) σ own (Γ.set i (.ob n C p dx gs)):=by
 obtain ⟨vs,e1,e2,hf,hb,hp,_⟩:=a.sl i _ e
 have ndp:dx≠p:=zh0 hp.2 hp.1 (by intro z;cases z)
 refine ⟨a.g.setH hf.1 hb.1,a.inj,λj q ej=>?_,λj s es'=>?_,by simp [a.len]⟩
 ·by_cases z:q=p
  ·subst z;rw [zak];simp
  ·rw [zad z];exact a.liv j q ej
 ·by_cases z:i=j
  ·subst z
   have hi:i<Γ.length:=((List.getElem?_eq_some_iff.mp e)).1
   rw [List.getElem?_set_self hi] at es'
   cases es'
   exact ⟨ws,e1,e2,hf,hb,⟨zak,by rw [zad ndp];exact hp.2⟩,h⟩
  ·rw [List.getElem?_set_ne z] at es'
   have:=a.sl j s es'
   cases s with
   | no=>trivial
   | tl d =>
    obtain ⟨x,R,q1,q2,q3,q4,q5⟩:=this
    exact ⟨x,R,q1,λb o w=>by rw [zad (zam w (q4 i p e2))];exact q2 b o w,q3,q4,q5⟩
   | va m d=>exact this
   | ow m ds =>
    obtain ⟨q,us,h1,h2,h3,h4,h5,h6⟩:=this
    have:q≠p:=λw=>by subst w;exact z (a.inj i j q e2 h2)
    exact ⟨q,us,h1,h2,h3,h4,by rw [zad this];exact h5,h6⟩
   | ol q ds =>
    obtain ⟨us,h1,h2,h3,h4,h5,h6⟩:=this
    have:q≠p:=λw=>by subst w;exact z (a.inj i j q e2 h2)
    exact ⟨us,h1,h2,h3,h4,by rw [zad this];exact h5,h6⟩
   | ob m C q dy fs =>
    obtain ⟨us,h1,h2,h3,h4,h5,h6⟩:=this
    have n1:q≠p:=λw=>by subst w;exact z (a.inj i j q e2 h2)
    have n2:dy≠p:=zh0 h5.2 hp.1 (by intro z;cases z)
    exact ⟨us,h1,h2,h3,h4,⟨by rw [zad n1];exact h5.1,by rw [zad n2];exact h5.2⟩,h6⟩
inductive Wk:Ctx->Ctx->Prop where
 | nil:Wk [] []
 | eq {s Γ Δ}:Wk Γ Δ->Wk (s :: Γ) (s :: Δ)
 | no {s Γ Δ}:Wk Γ Δ->Wk (s :: Γ) (.no :: Δ)
 | old {m d Γ Δ}:Wk Γ Δ->Wk (.va m d :: Γ) (.va false d :: Δ)
 | oldL {m d Γ Δ}:Wk Γ Δ->Wk (.ow m d :: Γ) (.ow false d :: Δ)
theorem Wk.refl:∀ Γ:Ctx,Wk Γ Γ
 | []=>.nil
 | _ :: Γ=>.eq (Wk.refl Γ)
theorem Wk.len {Γ Δ:Ctx} (h:Wk Γ Δ):Γ.length=Δ.length:=by
 induction h<;>simp_all
theorem Wk.slot {Γ Δ:Ctx} (h:Wk Γ Δ):∀ {i:Nat} {s:Slot},Δ[i]?=some s->∃ r,Γ[i]?=some r∧∀ {Hb F H:Hp} {own:Nat->Option Addr} {j:Nat} {v:Option V},zcM Hb F H own j v r->zcM Hb F H own j v s:=by
 induction h with
 | nil=>intro i s e;simp at e
 | eq _ ih =>
  intro i s e
  cases i with
  | zero=>simp at e;subst e;exact ⟨_,rfl,λh=>h⟩
  | succ i=>simpa using ih (i:=i) (s:=s) (by simpa using e)
 | no _ ih =>
  intro i s e
  cases i with
  | zero=>simp at e;subst e;exact ⟨_,rfl,λ_=>trivial⟩
  | succ i=>simpa using ih (i:=i) (s:=s) (by simpa using e)
 | old _ ih =>
  intro i s e
  cases i with
  | zero=>simp at e;subst e;exact ⟨_,rfl,λ⟨x,h1,h2⟩=>⟨x,h1,Ds.up _ zaM h2⟩⟩
  | succ i=>simpa using ih (i:=i) (s:=s) (by simpa using e)
 | oldL _ ih =>
  intro i s e
  cases i with
  | zero=>simp at e;subst e;exact ⟨_,rfl,λ⟨p,vs,h1,h2,h3,h4,h5,h6⟩=>⟨p,vs,h1,h2,h3,h4,h5,zbU (ds:=[]) zaM h6⟩⟩
  | succ i=>simpa using ih (i:=i) (s:=s) (by simpa using e)
theorem At.wk {F0 Hb F H:Hp} {σ:St} {own:Nat->Option Addr} {Γ Δ:Ctx} (a:At F0 Hb F H σ own Γ) (w:Wk Γ Δ):At F0 Hb F H σ own Δ :=
 ⟨a.g,a.inj,a.liv,λi s e=>by
  obtain ⟨r,e1,h⟩:=w.slot e
  exact h (a.sl i r e1),by rw [a.len,w.len]⟩
theorem At.share {F0 Hb F H:Hp} {σ:St} {own:Nat->Option Addr} {Γ:Ctx} (a:At F0 Hb F H σ own Γ) {i:Nat} {m:Bool} {ds:List Ds} (e:Γ[i]?=some (.ow m ds)) :
  ∃ F' own',Grow F0 Hb F' H∧At F0 Hb F' H σ own' (Γ.set i (.va m (dL ds))):=by
 obtain ⟨p,vs,e1,e2,hf,hb,hp,hq⟩:=a.sl i _ e
 have g:=a.g.take hb hp
 have fs:Same F (upd F p (.lst vs)):=Same.new hf _
 refine ⟨upd F p (.lst vs),λj=>if j=i then none else own j,g,g,λj k q h1 h2=>?_,λj q h1=>?_,λj s es=>?_,by simp [a.len]⟩
 ·skip
  split at h1
  ·cases h1
  ·split at h2
   ·cases h2
   ·exact a.inj j k q h1 h2
 ·skip
  split at h1
  ·cases h1
  ·exact a.liv j q h1
 ·by_cases z:i=j
  ·subst z
   have hi:i<Γ.length:=((List.getElem?_eq_some_iff.mp e)).1
   rw [List.getElem?_set_self hi] at es
   cases es
   exact ⟨.ref p,e1,p,vs,rfl,zcP hb zak,zbU (ds:=[]) (zaS fs) hq⟩
  ·rw [List.getElem?_set_ne z] at es
   have z':¬ j=i:=Ne.symm z
   have:=a.sl j s es
   cases s with
   | no=>trivial
   | tl d =>
    obtain ⟨x,R,q1,q2,q3,q4,q5⟩:=this
    refine ⟨x,R,q1,q2,λb o w=>⟨by rw [zad (zam w (q4 i p e2))];exact (q3 b o w).1,(q3 b o w).2⟩,λk q w=>?_,q5⟩
    dsimp only at w
    split at w
    ·cases w
    ·exact q4 k q w
   | va m d=>obtain ⟨x,h1,h2⟩:=this;exact ⟨x,h1,d.up (zaS fs) h2⟩
   | ow m ds =>
    obtain ⟨q,us,h1,h2,h3,h4,h5,h6⟩:=this
    have:q≠p:=λw=>by subst w;exact z (a.inj i j q e2 h2)
    exact ⟨q,us,h1,(if_neg z').trans h2,by rw [zad this];exact h3,h4,h5,zbU (ds:=[]) (zaS fs) h6⟩
   | ol q ds =>
    obtain ⟨us,h1,h2,h3,h4,h5,h6⟩:=this
    have:q≠p:=λw=>by subst w;exact z (a.inj i j q e2 h2)
    exact ⟨us,h1,(if_neg z').trans h2,by rw [zad this];exact h3,h4,h5,zbU (ds:=[]) fs h6⟩
   | ob m C q dx gs =>
    obtain ⟨us,h1,h2,h3,h4,h5,h6⟩:=this
    have n1:q≠p:=λw=>by subst w;exact z (a.inj i j q e2 h2)
    have n2:dx≠p:=zh0 h5.2 hp (by intro z;cases z)
    exact ⟨us,h1,(if_neg z').trans h2,⟨by rw [zad n1];exact h3.1,by rw [zad n2];exact h3.2⟩,h4,h5,zbW (λ_ b z=>⟨z.1,b.2.up (zaS fs) z.2⟩) h6⟩
end L2
namespace L2
open PySem PySem.Spec PyProof.Rows
def Ev (Γ:Ctx) (t:TE) (m:Bool) (d:Ds):Prop:=∀ (F0 Hb F H:Hp) (σ:St) (own:Nat->Option Addr) (Q:VK),At F0 Hb F H σ own Γ →
 (∀ v F' H',Grow F H F' H'->d.pr (zcK m F' Hb) v->Q v H')->t σ H Q
def EvO (Γ:Ctx) (t:TE) (m:Bool) (ds:List Ds):Prop:=∀ (F0 Hb F H:Hp) (σ:St) (own:Nat->Option Addr) (Q:VK),At F0 Hb F H σ own Γ →
 (∀ p vs F' H',Grow F H F' H'->H p=none->F' p=none->H' p=some (.lst vs)->Paired (λv (d:Ds)=>d.pr (zcK m F' Hb) v) vs ds->Q (.ref p) H')->t σ H Q
def EvT (Γ:Ctx) (t:TT) (b:Bool):Prop:=∀ (F0 Hb F H:Hp) (σ:St) (own:Nat->Option Addr) (Q:Bool->Hp->Prop),At F0 Hb F H σ own Γ →
 (∀ F' H',Grow F H F' H'->Q b H')->t σ H Q
def EvA (Γ:Ctx) (t:TA) (m:Bool) (ds:List Ds):Prop:=∀ (F0 Hb F H:Hp) (σ:St) (own:Nat->Option Addr) (Q:List V->Hp->Prop),At F0 Hb F H σ own Γ →
 (∀ vs F' H',Grow F H F' H'->Paired (λv (d:Ds)=>d.pr (zcK m F' Hb) v) vs ds->Q vs H')->t σ H Q
def EvP (Γ:Ctx) (t:TO) (i:Option Int):Prop:=∀ (F0 Hb F H:Hp) (σ:St) (own:Nat->Option Addr) (Q:Option Int->Hp->Prop),At F0 Hb F H σ own Γ →
 (∀ F' H',Grow F H F' H'->Q i H')->t σ H Q
theorem At.free {F0 Hb F H:Hp} {σ:St} {own:Nat->Option Addr} {Γ:Ctx} (a:At F0 Hb F H σ own Γ) {F' H':Hp} (g:Grow F H F' H') {p:Addr} (h:H' p=none):H p=none∧F' p=none∧Hb p=none:=by
 have h1:=g.h.free h
 exact ⟨h1,g.fh.free h,a.g.h.free h1⟩
section
variable {Γ:Ctx} {t ta tb:TE} {m n:Bool} {d e:Ds} {ds es:List Ds} {K:W.Frag}
theorem Ev.old (h:Ev Γ t m d):Ev Γ t false d:=λF0 Hb F H σ own Q a k=>h F0 Hb F H σ own Q a λv F' H' g q=>k v F' H' g (d.up zaM q)
theorem Ev.conv (h:Ev Γ t m d) (e':d=e):Ev Γ t m e:=e' ▸ h
theorem EvO.conv (h:EvO Γ t m ds) (e':ds=es):EvO Γ t m es:=e' ▸ h
theorem EvO.ev (h:EvO Γ t m ds):Ev Γ t m (dL ds):=λF0 Hb F H σ own Q a k=>h F0 Hb F H σ own Q a λp vs F' H' g h1 h2 h3 q=>by
 have fs:Same F' (upd F' p (.lst vs)):=Same.new h2 _
 exact k (.ref p) (upd F' p (.lst vs)) H' (g.take h1 h3) ⟨p,vs,rfl,zcP (a.g.h.free h1) zak,zbU (ds:=[]) (zaS fs) q⟩
theorem Ev.weak (h:Ev Γ t m (dL ds)):Ev Γ t m (dQ K ds):=λF0 Hb F H σ own Q a k=>h F0 Hb F H σ own Q a λv F' H' g ⟨p,vs,h1,h2,h3⟩=>k v F' H' g ⟨p,vs,h1,SqL.of h2,h3⟩
theorem zaa {i:Nat} (h:Γ[i]?=some (.va m d)):Ev Γ (ze8 i) m d:=λF0 Hb F H σ own Q a k=>by
 obtain ⟨x,e,q⟩:=a.sl i _ h
 have hi:i<σ.length:=by rw [a.len];exact (List.getElem?_eq_some_iff.mp h).1
 rw [List.getElem?_eq_getElem hi] at e
 have e':σ[i]=some x:=e
 exact ⟨x,by rw [List.getElem?_eq_getElem hi,e'],k x F H (Grow.refl a.fh) q⟩
theorem zax {v:V}:Ev Γ (tC v) m (dV v):=λF0 Hb F H σ own Q a k=>k v F H (Grow.refl a.fh) rfl
theorem zba {g:Int->Int->V} {x y:Int} (h1:Ev Γ ta false (dI x)) (h2:Ev Γ tb false (dI y)):Ev Γ (tOp (rI0 g) ta tb) m (dV (g x y)):=λF0 Hb F H σ own Q a k =>
 h1 F0 Hb F H σ own _ a λu F1 H1 g1 q1=>h2 F0 Hb F1 H1 σ own _ (a.grow g1) λv F2 H2 g2 q2=>⟨x,y,q1,q2,k _ F2 H2 (g1.trans g2) rfl⟩
theorem zat {C:Int->Int->Prop} {g:Int->Int->V} {x y:Int} (h1:Ev Γ ta false (dI x)) (h2:Ev Γ tb false (dI y)) (c:C x y):Ev Γ (tOp (rI C g) ta tb) m (dV (g x y)):=λF0 Hb F H σ own Q a k =>
 h1 F0 Hb F H σ own _ a λu F1 H1 g1 q1=>h2 F0 Hb F1 H1 σ own _ (a.grow g1) λv F2 H2 g2 q2=>⟨x,y,q1,q2,c,k _ F2 H2 (g1.trans g2) rfl⟩
theorem zjl {v w:V} (h1:Ev Γ ta false (dV v)) (h2:Ev Γ tb false (dV w)) (hs:scal v w=true):Ev Γ (tOp rEq ta tb) m (dB (decide (v=w))):=λF0 Hb F H σ own Q a k =>
 h1 F0 Hb F H σ own _ a λu F1 H1 g1 q1=>h2 F0 Hb F1 H1 σ own _ (a.grow g1) λv F2 H2 g2 q2=>by
  cases q1;cases q2;exact ⟨hs,k _ F2 H2 (g1.trans g2) rfl⟩
theorem zj6 {v w:V} (h1:Ev Γ ta false (dV v)) (h2:Ev Γ tb false (dV w)) (hs:scal v w=true):Ev Γ (tOp rNe ta tb) m (dB (!decide (v=w))):=λF0 Hb F H σ own Q a k =>
 h1 F0 Hb F H σ own _ a λu F1 H1 g1 q1=>h2 F0 Hb F1 H1 σ own _ (a.grow g1) λv F2 H2 g2 q2=>by
  cases q1;cases q2;exact ⟨hs,k _ F2 H2 (g1.trans g2) rfl⟩
theorem zgy (x y:Int):decide (V.int x=V.int y)=decide (x=y):=by simp
theorem zcc {x y:Int} (h1:Ev Γ ta false (dI x)) (h2:Ev Γ tb false (dI y)):Ev Γ (tOp rEq ta tb) m (dB (decide (x=y))):=(zjl h1 h2 rfl).conv (by rw [zgy])
theorem zeG {x y:Int} (h1:Ev Γ ta false (dI x)) (h2:Ev Γ tb false (dI y)):Ev Γ (tOp rNe ta tb) m (dB (!decide (x=y))):=(zj6 h1 h2 rfl).conv (by rw [zgy])
theorem zg3 (x y:Str):decide (V.str x=V.str y)=decide (x=y):=by simp
theorem zkj {x y:Str} (h1:Ev Γ ta false (dS x)) (h2:Ev Γ tb false (dS y)):Ev Γ (tOp rEq ta tb) m (dB (decide (x=y))):=(zjl h1 h2 rfl).conv (by rw [zg3])
theorem zkw {x y:Str} (h1:Ev Γ ta false (dS x)) (h2:Ev Γ tb false (dS y)):Ev Γ (tOp rNe ta tb) m (dB (!decide (x=y))):=(zj6 h1 h2 rfl).conv (by rw [zg3])
theorem zas {b:Bool} (h:Ev Γ t false (dB b)):EvT Γ (zjT t) b:=λF0 Hb F H σ own Q a k=>h F0 Hb F H σ own _ a λv F' H' g q=>⟨b,q,k F' H' g⟩
theorem zcE {b:Bool} (h:Ev Γ t false (dB b)):EvT Γ (tB t) b:=λF0 Hb F H σ own Q a k=>h F0 Hb F H σ own _ a λv F' H' g q=>⟨b,q,k F' H' g⟩
theorem zcC {t:TT} {b:Bool} (h:EvT Γ t b):EvT Γ (zll t) (!b):=λF0 Hb F H σ own Q a k=>h F0 Hb F H σ own _ a λF' H' g=>k F' H' g
theorem zg5 {t u:TT} {b c:Bool} (h:EvT Γ t b) (h2:b=true->EvT Γ u c):EvT Γ (zld t u) (b&&c):=λF0 Hb F H σ own Q a k=>h F0 Hb F H σ own _ a λF' H' g=>by
 cases b with
 | true=>exact h2 rfl F0 Hb F' H' σ own Q (a.grow g) λF2 H2 g2=>k F2 H2 (g.trans g2)
 | false=>exact k F' H' g
theorem zdK {t u:TT} {b c:Bool} (h:EvT Γ t b) (h2:b=false->EvT Γ u c):EvT Γ (tOr t u) (b||c):=λF0 Hb F H σ own Q a k=>h F0 Hb F H σ own _ a λF' H' g=>by
 cases b with
 | false=>exact h2 rfl F0 Hb F' H' σ own Q (a.grow g) λF2 H2 g2=>k F2 H2 (g.trans g2)
 | true=>exact k F' H' g
theorem zft {b c:Bool} (h:Ev Γ ta false (dB b)) (h2:b=true->Ev Γ tb false (dB c)):Ev Γ (zj7 ta tb) m (dB (b&&c)):=λF0 Hb F H σ own Q a k=>h F0 Hb F H σ own _ a λv F' H' g q=>⟨b,q,by
 cases b with
 | true=>exact h2 rfl F0 Hb F' H' σ own Q (a.grow g) λv F2 H2 g2 q2=>k v F2 H2 (g.trans g2) q2
 | false=>exact k _ F' H' g rfl⟩
theorem zkS {b c:Bool} (h:Ev Γ ta false (dB b)) (h2:b=false->Ev Γ tb false (dB c)):Ev Γ (zlf ta tb) m (dB (b||c)):=λF0 Hb F H σ own Q a k=>h F0 Hb F H σ own _ a λv F' H' g q=>⟨b,q,by
 cases b with
 | false=>exact h2 rfl F0 Hb F' H' σ own Q (a.grow g) λv F2 H2 g2 q2=>k v F2 H2 (g.trans g2) q2
 | true=>exact k _ F' H' g rfl⟩
theorem zjm {b:Bool} (h:Ev Γ ta false (dB b)):Ev Γ (zjo ta) m (dB (!b)):=λF0 Hb F H σ own Q a k=>h F0 Hb F H σ own _ a λv F' H' g q=>⟨b,q,k _ F' H' g rfl⟩
theorem zao:EvA Γ zdX m []:=λF0 Hb F H σ own Q a k=>k [] F H (Grow.refl a.fh) .nil
theorem zab {tr:TA} (h:Ev Γ ta m d) (h2:EvA Γ tr m ds):EvA Γ (zbO ta tr) m (d :: ds):=λF0 Hb F H σ own Q a k =>
 h F0 Hb F H σ own _ a λv F1 H1 g1 q1=>h2 F0 Hb F1 H1 σ own _ (a.grow g1) λvs F2 H2 g2 q2=>k _ F2 H2 (g1.trans g2) (.cons (d.up (zaS g2.f) q1) q2)
theorem zbY {tr:TA} (h:EvA Γ tr m ds) (hz:ds.length≤sizeLine):EvO Γ (zkL tr) m ds:=λF0 Hb F H σ own Q a k =>
 h F0 Hb F H σ own _ a λvs F1 H1 g1 q1=>⟨by rw [Paired.length q1];exact hz,λp hp=>by
  obtain ⟨h1,h2,h3⟩:=a.free g1 hp
  exact k p vs F1 _ (g1.newH hp) h1 h2 zak q1⟩
theorem zcO {tr:TA} (h:EvA Γ tr m []):EvO Γ (zkL tr) m []:=zbY h (Nat.zero_le _)
theorem zfN {R:V->Ds->Prop} {vs:List V} {ds:List Ds} {i:Int} {d:Ds} (h:Paired R vs ds) (e:atI ds i=some d):∃ v,atI vs i=some v∧R v d:=by
 unfold atI at e ⊢
 rw [Paired.length h]
 cases q:ixN ds.length i with
 | none=>rw [q] at e;cases e
 | some j =>
  rw [q] at e
  obtain ⟨v,e1,r⟩:=zaI h (show ds[j]?=some d from e)
  exact ⟨v,e1,r⟩
theorem ziC {α β:Type} {f:α->β} {xs:List α} {i:Int} {x:α} (e:atI xs i=some x):atI (xs.map f) i=some (f x):=by
 unfold atI at e ⊢
 rw [List.length_map]
 cases q:ixN xs.length i with
 | none=>rw [q] at e;cases e
 | some j =>
  rw [q] at e
  have e':xs[j]?=some x:=e
  show ((xs.map f))[j]?=_
  rw [List.getElem?_map,e']
  rfl
theorem zk4 {i:Int} (h1:Ev Γ ta m (dQ K ds)) (h2:Ev Γ tb false (dI i)) (e:atI ds i=some d):Ev Γ (tOp (zji K) ta tb) m d:=λF0 Hb F H σ own Q a k =>
 h1 F0 Hb F H σ own _ a λu F1 H1 g1 ⟨p,vs,e1,e2,e3⟩=>h2 F0 Hb F1 H1 σ own _ (a.grow g1) λv F2 H2 g2 q2=>by
  obtain ⟨x,ex,rx⟩:=zfN e3 e
  exact ⟨p,vs,i,x,e1,q2,(zaM.trans (g2.f.trans g2.fh)).seq e2,ex,k x F2 H2 (g1.trans g2) (d.up (zaS g2.f) rx)⟩
theorem zjU {t:TE} (h1:Ev Γ t false (dQ K ds)):Ev Γ (tCB (λxs H Q=>∃p ys,xs=[.ref p]∧(SqL K H p ys∨SqT K H p ys)∧Q (.int ys.length) H) (zbO t zdX)) m (dI ds.length):=λF0 Hb F H σ own Q a k =>
 h1 F0 Hb F H σ own _ a λu F1 H1 g1 ⟨p,vs,e1,e2,e3⟩=>⟨p,vs,by rw [e1],.inl (g1.fh.seq e2),k _ F1 H1 g1 (by show V.int _=_;rw [Paired.length e3])⟩
theorem zgh {t:TE} (h1:Ev Γ t m (dQ K ds)):EvO Γ (tCB (λxs H Q=>∃p ys,xs=[.ref p]∧(SqL K H p ys∨SqT K H p ys)∧∀l,H l=none->Q (.ref l) (upd H l (.lst ys))) (zbO t zdX)) m ds:=λF0 Hb F H σ own Q a k =>
 h1 F0 Hb F H σ own _ a λu F1 H1 g1 ⟨p,vs,e1,e2,e3⟩=>⟨p,vs,by rw [e1],.inl (((zaM.trans g1.fh)).seq e2),λl hl=>by
  obtain ⟨h1,h2,h3⟩:=a.free g1 hl
  exact k l vs F1 _ (g1.newH hl) h1 h2 zak e3⟩
theorem zhK:EvP Γ zha none:=λF0 Hb F H σ own Q a k=>k F H (Grow.refl a.fh)
theorem zhu {i:Int} (h:Ev Γ t false (dI i)):EvP Γ (zj9 t) (some i):=λF0 Hb F H σ own Q a k=>h F0 Hb F H σ own _ a λv F' H' g q=>⟨i,q,k F' H' g⟩
def zeS {α:Type} (xs:List α) (lo hi:Option Int):List α:=(xs.drop (HT.sIx xs.length 0 lo)).take (HT.sIx xs.length xs.length hi-HT.sIx xs.length 0 lo)
theorem zhi {α β:Type} {f:α->β} {xs:List α} {lo hi:Option Int}:(zeS xs lo hi).map f=zeS (xs.map f) lo hi:=by
 unfold zeS;rw [List.map_take,List.map_drop,List.length_map]
theorem zjL {tl th:TO} {lo hi:Option Int} (h1:Ev Γ t m (dQ K ds)) (h2:EvP Γ tl lo) (h3:EvP Γ th hi):EvO Γ (tSl (zkG K) t tl th) m (zeS ds lo hi):=λF0 Hb F H σ own Q a k =>
 h1 F0 Hb F H σ own _ a λu F1 H1 g1 ⟨p,vs,e1,e2,e3⟩=>h2 F0 Hb F1 H1 σ own _ (a.grow g1) λF2 H2 g2=>h3 F0 Hb F2 H2 σ own _ (((a.grow g1)).grow g2) λF3 H3 g3 =>
  ⟨p,vs,e1,(zaM.trans (g1.fh.trans (g2.h.trans g3.h))).seq e2,λl hl=>by
   have g:=g1.trans (g2.trans g3)
   obtain ⟨h1,h2,h3⟩:=a.free g hl
   refine k l _ F3 _ (g.newH hl) h1 h2 zak ?_
   unfold zkb zeS
   rw [Paired.length e3]
   exact zdw _ (zdL _ (zbU (ds:=[]) (zaS (g2.f.trans g3.f)) e3))⟩
theorem zjw {es:List Ds} (h1:Ev Γ ta m (dL ds)) (h2:Ev Γ tb m (dL es)) (hz:ds.length+es.length≤sizeLine):EvO Γ (tOp zlc ta tb) m (ds++es):=λF0 Hb F H σ own Q a k =>
 h1 F0 Hb F H σ own _ a λu F1 H1 g1 ⟨p,vs,e1,e2,e3⟩=>h2 F0 Hb F1 H1 σ own _ (a.grow g1) λv F2 H2 g2 ⟨q,ws,f1,f2,f3⟩ =>
  ⟨p,q,vs,ws,e1,f1,(zaM.trans (g2.f.trans g2.fh)) _ _ e2,(zaM.trans g2.fh) _ _ f2,by rw [Paired.length e3,Paired.length f3];exact hz,λl hl=>by
   have g:=g1.trans g2
   obtain ⟨h1,h2,h3⟩:=a.free g hl
   exact k l _ F2 _ (g.newH hl) h1 h2 zak (zbF (zbU (ds:=[]) (zaS g2.f) e3) f3)⟩
theorem ziH {d:Ds} {b:Bool} (h1:Ev Γ ta false d) (h2:Ev Γ tb false dN) (hb:∀ H v,d.pr H v->decide (v=V.non)=b):Ev Γ (tOp (λx y H Q=>y= .non∧Q (.bl (!decide (x= .non))) H) ta tb) m (dB (!b)):=λF0 Hb F H σ own Q a k =>
 h1 F0 Hb F H σ own _ a λu F1 H1 g1 q1=>h2 F0 Hb F1 H1 σ own _ (a.grow g1) λv F2 H2 g2 q2=>⟨q2,k _ F2 H2 (g1.trans g2) (by show V.bl _=_;rw [hb _ _ q1])⟩
theorem zio {x y:Int} {tr:TA} (h:EvA Γ tr false [dI x,dI y]):Ev Γ (tCB (λxs H Q=>∃i j,xs=[.int i,.int j]∧Q (.int (if j<i then j else i)) H) tr) m (dI (min x y)):=λF0 Hb F H σ own Q a k =>
 h F0 Hb F H σ own _ a λvs F1 H1 g1 q=>by
  cases q with | cons q1 q=>cases q with | cons q2 q=>cases q;cases q1;cases q2;exact ⟨x,y,rfl,k _ F1 H1 g1 (by show V.int _=V.int _;congr 1;omega)⟩
theorem zkg {x y:Int} {tr:TA} (h:EvA Γ tr false [dI x,dI y]):Ev Γ (tCB (λxs H Q=>∃i j,xs=[.int i,.int j]∧Q (.int (if j>i then j else i)) H) tr) m (dI (max x y)):=λF0 Hb F H σ own Q a k =>
 h F0 Hb F H σ own _ a λvs F1 H1 g1 q=>by
  cases q with | cons q1 q=>cases q with | cons q2 q=>cases q;cases q1;cases q2;exact ⟨x,y,rfl,k _ F1 H1 g1 (by show V.int _=V.int _;congr 1;omega)⟩
theorem zcA {f:α->V} {R:Hp} {xs:List α}:∀ {vs:List V},Paired (λv (d:Ds)=>d.pr R v) vs (xs.map λx=>dV (f x))->vs=xs.map f:=by
 induction xs with
 | nil=>intro vs h;cases h;rfl
 | cons x xs ih=>intro vs h;cases h with | cons h1 h2=>rw [ih h2,h1];rfl
theorem zkr {xs:List Bool} {t:TE} (h1:Ev Γ t false (dQ K (xs.map dB))):Ev Γ (tCB (λxs H Q=>∃(a:Addr) (bs:List Bool),xs=[.ref a]∧SqL K H a (bs.map V.bl)∧Q (.bl (bs.all id)) H) (zbO t zdX)) m (dB (xs.all id)):=λF0 Hb F H σ own Q a k =>
 h1 F0 Hb F H σ own _ a λu F1 H1 g1 ⟨p,vs,e1,e2,e3⟩=>⟨p,xs,by rw [e1],by rw [← zcA e3];exact g1.fh.seq e2,k _ F1 H1 g1 rfl⟩
theorem zcS {H:Hp} {f:Str} {d:Ds}:∀ {vs:List (Str×V)} {fs:List (Str×Ds)},Paired (λ(a:Str×V) (b:Str×Ds)=>a.1=b.1∧b.2.pr H a.2) vs fs->fs.lookup f=some d->∃ v,vs.lookup f=some v∧d.pr H v
 | _,_,.nil,e=>by cases e
 | _,_,.cons (a:=(x,v)) (b:=(y,d')) ⟨h1,h2⟩ t,e=>by
  have h1:x=y:=h1
  subst h1
  simp only [List.lookup_cons] at e ⊢
  cases q:f == x with
  | true=>rw [q] at e;cases e;exact ⟨v,rfl,h2⟩
  | false=>rw [q] at e;exact zcS t e
theorem zeU {C:Addr} {fs:List (Str×Ds)} {f:Str} (h1:Ev Γ ta m (dO C fs)) (c:Cls K C) (nf:NoAttr K C f) (e:fs.lookup f=some d):Ev Γ (tFld K ta f) m d:=λF0 Hb F H σ own Q a k =>
 h1 F0 Hb F H σ own _ a λu F1 H1 g1 ⟨p,dx,vs,e1,e2,e3,e4⟩=>by
  obtain ⟨v,ev,qv⟩:=zcS e4 e
  exact ⟨p,C,dx,vs,v,e1,(zaM.trans g1.fh) _ _ e2,c,nf,ev,k v F1 H1 g1 qv⟩
inductive Rs where
 | va (m:Bool) (d:Ds)
 | ow (m:Bool) (ds:List Ds)
 | ex (C:Addr) (φ:Hp->Option Addr->Prop)
def Spv {ι:Type} (args:ι->List Ds) (pre:ι->Prop) (res:ι->Rs):Sp:=λvs H Q E=>∃ (x:ι) (F:Hp),Same F H∧Paired (λv (d:Ds)=>d.pr F v) vs (args x)∧pre x∧match res x with
 | .ex C φ=>∀ dct F' H',Grow F H F' H'->φ F' dct->E (.ref C) dct H'
 | .va m d=>∀ v F' H',Grow F H F' H'->d.pr (zcK m F' H) v->Q v H'
 | .ow m ds=>∀ p ws F' H',Grow F H F' H'->H p=none->F' p=none->H' p=some (.lst ws)->Paired (λv (d:Ds)=>d.pr (zcK m F' H) v) ws ds->Q (.ref p) H'
theorem zd7 {m:Bool} {F Hb H:Hp} (e:Same Hb H):Same (zcK m F H) (zcK m F Hb):=by
 cases m with
 | true=>exact zi5 e
 | false=>exact Same.refl _
theorem zbp {ι:Type} {args:ι->List Ds} {pre:ι->Prop} {res:ι->Rs} {tr:TA} {E:XK} (x:ι) (h:EvA Γ tr false ds) (ha:ds=args x) (hp:pre x) (hr:res x=.va m d):Ev Γ (tCall (Spv args pre res) [] E tr) m d:=λF0 Hb F H σ own Q a k=>by
 subst ha
 refine h F0 Hb F H σ own _ a λvs F1 H1 g1 q1=>⟨x,F1,g1.fh,by rw [List.append_nil];exact q1,hp,?_⟩
 rw [hr]
 exact λv F' H' g q=>k v F' H' (g1.trans g) (d.up (zd7 (a.g.h.trans g1.h)) q)
theorem zfK {ι:Type} {args:ι->List Ds} {pre:ι->Prop} {res:ι->Rs} {tr:TA} {E:XK} (x:ι) (h:EvA Γ tr false es) (ha:es=args x) (hp:pre x) (hr:res x=.ow m ds):EvO Γ (tCall (Spv args pre res) [] E tr) m ds:=λF0 Hb F H σ own Q a k=>by
 subst ha
 refine h F0 Hb F H σ own _ a λvs F1 H1 g1 q1=>⟨x,F1,g1.fh,by rw [List.append_nil];exact q1,hp,?_⟩
 rw [hr]
 exact λp ws F' H' g h1 h2 h3 q=>k p ws F' H' (g1.trans g) (g1.h.free h1) h2 h3 (zbU (ds:=[]) (zd7 (a.g.h.trans g1.h)) q)
end
end L2
namespace L2
open PySem PySem.Spec PyProof.Rows
def zk1:List Nat->List V->St->St
 | j :: js,v :: vs,σ=>zk1 js vs (σ.set j (some v))
 | _,_,σ=>σ
def zhh:List Nat->List Ds->Bool->Ctx->Ctx
 | j :: js,d :: ds,m,Γ=>zhh js ds m (Γ.set j (.va m d))
 | _,_,_,Γ=>Γ
theorem At.setMany {F0 Hb F H:Hp} {own:Nat->Option Addr} {m:Bool}:∀ {js:List Nat} {vs:List V} {ds:List Ds} {σ:St} {Γ:Ctx},At F0 Hb F H σ own Γ->Paired (λv (d:Ds)=>d.pr (zcK m F Hb) v) vs ds →
  At F0 Hb F H (zk1 js vs σ) own (zhh js ds m Γ)
 | [],_,_,_,_,a,.nil=>a
 | [],_,_,_,_,a,.cons _ _=>a
 | _ :: _,_,_,_,_,a,.nil=>a
 | j :: js,_,_,_,_,a,.cons h t=>At.setMany (js:=js) (a.set j h) t
theorem At.unset {F0 Hb F H:Hp} {own:Nat->Option Addr} {σ:St} {Γ:Ctx} {j:Nat} {s:Slot} (a:At F0 Hb F H σ own (Γ.set j s)) (h:Γ[j]?=some .no):At F0 Hb F H σ own Γ :=
 ⟨a.g,a.inj,a.liv,λi r e=>by
  by_cases z:j=i
  ·subst z;rw [h] at e;cases e;trivial
  ·exact a.sl i r (by rw [List.getElem?_set_ne z];exact e),by rw [a.len];simp⟩
theorem At.unsetMany {F0 Hb F H:Hp} {own:Nat->Option Addr} {σ:St} {m:Bool}:∀ {js:List Nat} {ds:List Ds} {Γ:Ctx},At F0 Hb F H σ own (zhh js ds m Γ)->(∀ j∈js,Γ[j]?=some .no)->js.Nodup->At F0 Hb F H σ own Γ
 | [],[],_,a,_,_=>a
 | [],_ :: _,_,a,_,_=>a
 | _ :: _,[],_,a,_,_=>a
 | j :: js,d :: ds,Γ,a,h,hn=>by
  have hn:=List.nodup_cons.mp hn
  refine At.unset (At.unsetMany (js:=js) (ds:=ds) (Γ:=Γ.set j (.va m d)) a (λi hi=>?_) hn.2) (h j List.mem_cons_self)
  rw [List.getElem?_set_ne (λ(z:j=i)=>hn.1 (by rw [z];exact hi))]
  exact h i (List.mem_cons_of_mem _ hi)
def zj2 {γ:Type} (Hb F:Hp) (J:It) (g:TG) (js:List Nat) (xs:List γ) (bds:γ->List Ds) (m:Bool):Prop:=∀ H,Same F H->J.stop xs.length H∧∀ i x,xs[i]?=some x->J.go i H ∧
 ∀ v H',J.yld i H v H'->Grow F H F H'∧∀ (σ:St) (Q:St->Hp->Prop),(∀ vs,Paired (λv (d:Ds)=>d.pr (zcK m F Hb) v) vs (bds x)->Q (zk1 js vs σ) H')->g v σ H' Q
def Iv {γ:Type} (Γ:Ctx) (wi:TI) (g:TG) (js:List Nat) (xs:List γ) (bds:γ->List Ds) (m:Bool):Prop:=∀ (F0 Hb F H:Hp) (σ:St) (own:Nat->Option Addr) (R:It->Hp->Prop),At F0 Hb F H σ own Γ →
 (∀ J F' H',Grow F H F' H'->zj2 Hb F' J g js xs bds m->R J H')->wi σ H R
section
variable {Γ:Ctx} {m:Bool} {K:W.Frag} {γ δ:Type}
theorem zj2.up {Hb F F':Hp} {J:It} {g:TG} {js:List Nat} {xs:List γ} {bds:γ->List Ds} (h:zj2 Hb F J g js xs bds m) (e:Same F F'):zj2 Hb F' J g js xs bds m:=λH hs=>by
 obtain ⟨h1,h2⟩:=h H (e.trans hs)
 refine ⟨h1,λi x ex=>?_⟩
 obtain ⟨h3,h4⟩:=h2 i x ex
 refine ⟨h3,λv H' y=>?_⟩
 obtain ⟨h5,h6⟩:=h4 v H' y
 exact ⟨⟨Same.refl _,hs.trans h5.h,h5.h,λ_ _ z=>z⟩,λσ Q k=>h6 σ Q λvs q=>k vs (zbU (ds:=[]) (zaS e) q)⟩
theorem zdB {tl:TE} {j:Nat} {xs:List γ} (f:γ->Ds) (h:Ev Γ tl m (dQ K (xs.map f))):Iv Γ (zhl K tl) (zcf j) [j] xs (λx=>[f x]) m:=λF0 Hb F H σ own R a k =>
 h F0 Hb F H σ own _ a λu F1 H1 g1 ⟨p,vs,e1,e2,e3⟩=>by
  have e2':SqL K F1 p vs:=zaM.seq e2
  refine ⟨p,e1,⟨vs,g1.fh.seq e2'⟩,k _ F1 H1 g1 λH hs=>⟨⟨vs,hs.seq e2',by rw [Paired.length e3,List.length_map];exact Nat.le_refl _⟩,λi x ex=>?_⟩⟩
  obtain ⟨v,ev,qv⟩:=zaI e3 (show ((xs.map f))[i]?=some (f x) by rw [List.getElem?_map,ex];rfl)
  refine ⟨⟨vs,v,hs.seq e2',ev⟩,λw H' y=>?_⟩
  obtain ⟨rfl,y⟩:=y
  have:=y vs (hs.seq e2')
  rw [ev] at this
  cases this
  exact ⟨Grow.refl hs,λσ Q k=>k [v] (.cons qv .nil)⟩
def zc4 (lo:Int) (n:Nat):Ji:=(List.range n).map λ(i:Nat)=>lo+(i:Int)
theorem zb2 {lo:Int} {n:Nat}:(zc4 lo n).length=n:=by simp [zc4]
theorem zbQ {lo:Int} {n i:Nat} {x:Int} (h:(zc4 lo n)[i]?=some x):i<n∧x=lo+i:=by
 unfold zc4 at h
 rw [List.getElem?_map] at h
 by_cases z:i<n
 ·rw [List.getElem?_range z] at h
  exact ⟨z,(Option.some.inj h).symm⟩
 ·rw [List.getElem?_eq_none (by simp;omega)] at h;cases h
theorem zjM {Hb F:Hp} {lo:Int} {n j:Nat}:zj2 Hb F (Itr lo n) (zcf j) [j] (zc4 lo n) (λx=>[dI x]) m:=λH hs =>
 ⟨by show n≤_;rw [zb2];exact Nat.le_refl _,λi x ex=>by
  obtain ⟨hi,rfl⟩:=zbQ ex
  refine ⟨hi,λv H' y=>?_⟩
  obtain ⟨rfl,rfl⟩:=y
  exact ⟨Grow.refl hs,λσ Q k=>k [_] (.cons rfl .nil)⟩⟩
theorem zec {t:TE} {j:Nat} {n:Int} (h:Ev Γ t false (dI n)) (hn:-(2^62)≤n∧n<2^62):Iv Γ (zjs (zbO t zdX)) (zcf j) [j] (zc4 0 n.toNat) (λx=>[dI x]) m:=λF0 Hb F H σ own R a k =>
 h F0 Hb F H σ own _ a λu F1 H1 g1 q1=>⟨n,by rw [q1],hn.1,hn.2,k _ F1 H1 g1 zjM⟩
theorem zfl {α β:Type} {xs:List α} {ys:List β} {i:Nat} {p:α×β} (h:(xs.zip ys)[i]?=some p):xs[i]?=some p.1∧ys[i]?=some p.2:=by
 rw [List.getElem?_zip_eq_some] at h;exact h
theorem zkz {ta tb:TE} {j1 j2:Nat} {xs:List γ} {ys:List δ} (f1:γ->Ds) (f2:δ->Ds) (h1:Ev Γ ta m (dQ K (xs.map f1))) (h2:Ev Γ tb m (dQ K (ys.map f2))) :
  Iv Γ (zkZ K (zbO ta (zbO tb zdX))) (zkJ K 2 (zgS (zcf j1) (zgS (zcf j2) zk9))) [j1,j2] (xs.zip ys) (λx=>[f1 x.1,f2 x.2]) m:=λF0 Hb F H σ own R a k =>
 h1 F0 Hb F H σ own _ a λu F1 H1 g1 ⟨p,vs,e1,e2,e3⟩=>h2 F0 Hb F1 H1 σ own _ (a.grow g1) λu' F2 H2 g2 ⟨q,ws,d1,d2,d3⟩=>by
  have e2':SqL K F2 p vs:=g2.f.seq (zaM.seq e2)
  have d2':SqL K F2 q ws:=zaM.seq d2
  have e3':=zbU (ds:=[]) (zaS (m:=m) (Hb:=Hb) g2.f) e3
  have le:=Paired.length e3
  have ld:=Paired.length d3
  rw [List.length_map] at le ld
  refine ⟨p,q,by rw [e1,d1],⟨vs,g2.fh.seq e2'⟩,⟨ws,g2.fh.seq d2'⟩,k _ F2 H2 (g1.trans g2) λH hs=>⟨⟨vs,ws,hs.seq e2',hs.seq d2',by rw [le,ld,List.length_zip];omega⟩,λi x ex=>?_⟩⟩
  obtain ⟨x1,x2⟩:=zfl ex
  obtain ⟨v,ev,qv⟩:=zaI e3' (show (xs.map f1)[i]?=some (f1 x.1) by rw [List.getElem?_map,x1];rfl)
  obtain ⟨w,ew,qw⟩:=zaI d3 (show (ys.map f2)[i]?=some (f2 x.2) by rw [List.getElem?_map,x2];rfl)
  refine ⟨⟨vs,ws,v,w,hs.seq e2',hs.seq d2',ev,ew⟩,λz H' y=>?_⟩
  obtain ⟨r,x',y',rfl,hr,rfl,hxy⟩:=y
  obtain ⟨hx,hy⟩:=hxy vs ws (hs.seq e2') (hs.seq d2')
  rw [ev] at hx;rw [ew] at hy
  cases hx;cases hy
  exact ⟨(Grow.refl hs).newH hr,λσ Q k=>⟨r,_,rfl,.inl (.inl zak),rfl,_,_,rfl,_,_,rfl,rfl,k [v,w] (.cons qv (.cons qw .nil))⟩⟩
def zkI:Option Slot->Slot
 | some (.va m d)=>.va m d
 | _=>.no
def zgu (own:Nat) (fv:List Nat) (Γ:Ctx):Ctx:=List.replicate own .no++fv.map λi=>zkI Γ[i]?
theorem At.block {F0 Hb F H:Hp} {own:Nat->Option Addr} {σ:St} (a:At F0 Hb F H σ own Γ) (k:Nat) (fv:List Nat):At F0 Hb F H (zdN k fv σ) (λ_=>none) (zgu k fv Γ):=by
 refine ⟨a.g,λ_ _ _ h=>(by cases h),λ_ _ h=>(by cases h),λi s e=>?_,?_⟩
 ·unfold zgu at e
  unfold zdN
  by_cases hi:i<k
  ·rw [List.getElem?_append_left (by simpa using hi),List.getElem?_replicate,if_pos hi] at e
   cases e;trivial
  ·rw [List.getElem?_append_right (by simpa using hi),List.length_replicate,List.getElem?_map] at e
   rw [List.getElem?_append_right (by simpa using hi),List.length_replicate,List.getElem?_map]
   cases q:fv[i-k]? with
   | none=>rw [q] at e;cases e
   | some j =>
    rw [q] at e
    have e':zkI Γ[j]?=s:=Option.some.inj e
    subst e'
    show zcM Hb F H (λ_=>none) _ ((σ[j]?).join) (zkI Γ[j]?)
    cases z:Γ[j]? with
    | none=>trivial
    | some r =>
     cases r with
     | no=>trivial
     | va m d=>exact (show zcM Hb F H own j _ (.va m d) from a.sl j _ z)
     | ow m ds=>trivial
     | ob m C p dx fs=>trivial
     | ol p ds=>trivial
     | tl d=>trivial
 ·unfold zdN zgu;simp
theorem zi0 {k:Nat} {fv:List Nat} {j:Nat} {d:Ds} (e:(zgu k fv Γ)[j]?=some (.tl d)):False:=by
 unfold zgu at e
 have:=List.mem_of_getElem? e
 rcases List.mem_append.mp this with q | q
 ·cases (List.mem_replicate.mp q).2
 ·obtain ⟨l,_,q⟩:=List.mem_map.mp q
  unfold zkI at q
  split at q<;>cases q
theorem zhH:EvT Γ ziT true:=λF0 Hb F H σ own Q a k=>k F H (Grow.refl a.fh)
theorem zg6 {xs:List γ} {i:Nat} {x:γ} (h:xs[i]?=some x):xs.take (i+1)=xs.take i++[x]:=by
 rw [List.take_succ,h];rfl
theorem ziu {own:Nat} {fv:List Nat} {wi:TI} {tg:TG} {tt:TTs} {te:TE} {js:List Nat} {xs:List γ} {bds:γ->List Ds} {mi:Bool} {c:γ->Bool} {g:γ->Ds} (it:Iv Γ wi tg js xs bds mi) (hz:xs.length≤sizeLine) (hj:(∀ j∈js,j<own)∧js.Nodup)
  (ht:∀ (i:Nat) (x:γ),xs[i]?=some x->EvT (zhh js (bds x) mi (zgu own fv Γ)) tt (c x)) (he:∀ (i:Nat) (x:γ),xs[i]?=some x->c x=true->Ev (zhh js (bds x) mi (zgu own fv Γ)) te m (g x)):EvO Γ (zhy own fv wi tg tt te) m ((xs.filter c).map g):=λF0 Hb F H σ ow Q a k =>
 it F0 Hb F H σ ow _ a λJ F1 H1 g1 ok D hD=>by
  have hno:∀ j∈js,(zgu own fv Γ)[j]?=some .no:=λj hj'=>by
   have:=hj.1 j hj'
   unfold zgu
   rw [List.getElem?_append_left (by simpa using this),List.getElem?_replicate,if_pos this]
  obtain ⟨hD0,hDF,hDb⟩:=a.free g1 hD
  refine ⟨λi mm ys σb H2=>mm=xs.length-i∧i≤xs.length∧ys.length≤i∧∃ F2,Grow F1 H1 F2 H2∧F2 D=none∧H2 D=some (.lst ys)∧Paired (λv (d:Ds)=>d.pr (zcK m F2 Hb) v) ys (((xs.take i).filter c).map g)∧At F0 Hb F2 H2 σb (λ_=>none) (zgu own fv Γ),
   ⟨_,rfl,Nat.zero_le _,Nat.zero_le _,F1,(Grow.refl g1.fh).newH hD,hDF,zak,by simpa using Paired.nil,(((a.grow g1)).block own fv).grow ((Grow.refl g1.fh).newH hD)⟩,?_⟩
  rintro i mm ys σb H2 ⟨rfl,hi,hy,F2,g2,hF2,hH2,hP,a2⟩
  refine ⟨hH2,?_⟩
  obtain ⟨hstop,hitem⟩:=ok.up g2.f H2 g2.fh
  by_cases hlt:i<xs.length
  ·obtain ⟨go,yl⟩:=hitem i xs[i] (List.getElem?_eq_getElem hlt)
   refine .inr ⟨go,λx H' y=>?_⟩
   obtain ⟨g3,bind⟩:=yl x H' y
   refine bind σb _ λvs hvs=>?_
   have a3:=(a2.grow g3).setMany (js:=js) hvs
   have hx:xs[i]?=some xs[i]:=List.getElem?_eq_getElem hlt
   refine ht i _ hx F0 Hb F2 H' _ _ _ a3 λF4 H4 g4=>?_
   have tk:=zg6 hx
   have gD:∀ {F5 H5:Hp},Grow F2 H2 F5 H5->F5 D=none∧H5 D=some (.lst ys):=λg=>⟨g.no D (by rw [hH2];simp) hF2,g.h _ _ hH2⟩
   cases hc:c xs[i] with
   | true =>
    rw [if_pos rfl]
    refine he i _ hx hc F0 Hb F4 H4 _ _ _ (a3.grow g4) λv F5 H5 g5 q5=>?_
    have g25:=g3.trans (g4.trans g5)
    obtain ⟨n1,n2⟩:=gD g25
    have sD:Same H5 H5:=Same.refl _
    have n3:H1 D=none:=hD
    refine ⟨n2,by omega,xs.length-(i+1),by omega,rfl,hlt,by simp;omega,F5,?_,n1,zak,?_,?_⟩
    ·exact (g2.trans g25).setH n1 n3
    ·rw [tk,List.filter_append,List.map_append]
     refine zbF (zbU (ds:=[]) (zaS g25.f) hP) ?_
     rw [List.filter_cons,hc]
     exact .cons q5 .nil
    ·have a5:=((a3.grow g4).grow g5).unsetMany hno hj.2
     refine ⟨a5.g.setH n1 hDb,a5.inj,λ_ _ h=>(nomatch h),λj s es=>?_,a5.len⟩
     ·have:=a5.sl j s es
      cases s with
      | no=>trivial
      | va m d=>exact this
      | ow m ds=>obtain ⟨_,_,_,h,_⟩:=this;exact (nomatch h)
      | ob m C p dx fs=>obtain ⟨_,_,h,_⟩:=this;exact (nomatch h)
      | ol p ds=>obtain ⟨_,_,h,_⟩:=this;exact (nomatch h)
      | tl d=>exact (zi0 es).elim
   | false =>
    rw [if_neg Bool.false_ne_true]
    have g25:=g3.trans g4
    obtain ⟨n1,n2⟩:=gD g25
    refine ⟨xs.length-(i+1),by omega,rfl,hlt,by omega,F4,g2.trans g25,n1,n2,?_,(a3.grow g4).unsetMany hno hj.2⟩
    rw [tk,List.filter_append,List.map_append,List.filter_cons,hc]
    simpa using zbU (ds:=[]) (zaS g25.f) hP
  ·have e:i=xs.length:=by omega
   subst e
   rw [List.take_length] at hP
   exact .inl ⟨hstop,k D ys F2 H2 (g1.trans g2) hD0 hF2 hH2 hP⟩
theorem zew {own:Nat} {fv:List Nat} {wi:TI} {tg:TG} {te:TE} {js:List Nat} {xs:List γ} {bds:γ->List Ds} {mi:Bool} {g:γ->Ds} (it:Iv Γ wi tg js xs bds mi) (hz:xs.length≤sizeLine) (hj:(∀ j∈js,j<own)∧js.Nodup)
  (he:∀ (i:Nat) (x:γ),xs[i]?=some x->Ev (zhh js (bds x) mi (zgu own fv Γ)) te m (g x)):EvO Γ (zhy own fv wi tg ziT te) m (xs.map g):=by
 have:=ziu (c:=λ_=>true) it hz hj (λ_ _ _=>zhH) (λi x hx _=>he i x hx)
 rwa [show xs.filter (λ_=>true)=xs from List.filter_eq_self.mpr λ_ _=>rfl] at this
end
inductive Oc where
 | nx (Γ:Ctx)
 | rt (m:Bool) (d:Ds)
 | rl (m:Bool) (ds:List Ds)
 | bk (Γ:Ctx)
 | ct (Γ:Ctx)
 | ex (C:Addr) (φ:Hp->Option Addr->Prop) (Γ:Ctx)
 | rw (Γ:Ctx) (d:Ds)
def zdb (E:XS) (F0 Hb:Hp) (D:Ends):Oc->Prop
 | .ex C φ Γ=>∀ dct F H σ own,At F0 Hb F H σ own Γ->φ F dct->E σ (.ref C) dct H
 | .rw Γ d=>∀ v F H σ own,At F0 Hb F H σ own Γ->d.pr F v->D.rt v H
 | .nx Γ=>∀ F H σ own,At F0 Hb F H σ own Γ->D.nx σ H
 | .bk Γ=>∀ F H σ own,At F0 Hb F H σ own Γ->D.bk σ H
 | .ct Γ=>∀ F H σ own,At F0 Hb F H σ own Γ->D.ct σ H
 | .rt m d=>∀ v F H,Grow F0 Hb F H->d.pr (zcK m F Hb) v->D.rt v H
 | .rl m ds=>∀ p vs F H,Grow F0 Hb F H->Hb p=none->F p=none->H p=some (.lst vs)->Paired (λv (d:Ds)=>d.pr (zcK m F Hb) v) vs ds->D.rt (.ref p) H
def Run (E:XS) (Γ:Ctx) (t:TS) (o:Oc):Prop:=∀ (F0 Hb F H:Hp) (σ:St) (own:Nat->Option Addr) (D:Ends),At F0 Hb F H σ own Γ->zdb E F0 Hb D o->t D σ H
def Let {α:Type} {β:Type} (a:α) (k:α->β):β:=k a
def za8 {σ:Type} {γ:Type} {β:Type} (f:σ->γ->σ ⊕ β):σ->List γ->σ ⊕ β
 | s,[]=>.inl s
 | s,x :: xs=>match f s x with | .inl s'=>za8 f s' xs | .inr b=>.inr b
section
variable {E:XS} {Γ Δ:Ctx} {m:Bool} {K:W.Frag} {γ β:Type} {te:TE} {t u:TS} {d:Ds} {ds:List Ds} {o:Oc} {i:Nat}
theorem zaB (w:Wk Γ Δ):Run E Γ zgB (.nx Δ):=λF0 Hb F H σ own D a k=>k F H σ own (a.wk w)
theorem zaz (h:Ev Γ te m d):Run E Γ (zhR te) (.rt m d):=λF0 Hb F H σ own D a k=>h F0 Hb F H σ own _ a λv F' H' g q=>k v F' H' (a.g.trans g) q
theorem zcN (h:EvO Γ te m ds):Run E Γ (zhR te) (.rl m ds):=λF0 Hb F H σ own D a k=>h F0 Hb F H σ own _ a λp vs F' H' g h1 h2 h3 q=>k p vs F' H' (a.g.trans g) (a.g.h.free h1) h2 h3 q
theorem zdg (h:Run E Γ (zhR te) o) (ho:∀ F0 Hb D D',D.rt=D'.rt->zdb E F0 Hb D o->zdb E F0 Hb D' o):Run E Γ (tSeq (zhR te) u) o:=λF0 Hb F H σ own D a k=>h F0 Hb F H σ own _ a (ho F0 Hb D { D with nx:=u D } rfl k)
theorem zan (h:Run E Γ (zhR te) (.rt m d)):Run E Γ (tSeq (zhR te) u) (.rt m d):=zdg h λ_ _ _ _ e q v F H g p=>e ▸ q v F H g p
theorem zb5 (h:Run E Γ (zhR te) (.rl m ds)):Run E Γ (tSeq (zhR te) u) (.rl m ds):=zdg h λ_ _ _ _ e q p vs F H g h1 h2 h3 h4=>e ▸ q p vs F H g h1 h2 h3 h4
theorem zd9 (h:Ev Γ te m d) (k:Run E (Γ.set i (.va m d)) u o):Run E Γ (tSeq (zig te (zcf i)) u) o:=λF0 Hb F H σ own D a q =>
 h F0 Hb F H σ own _ a λv F' H' g p=>k F0 Hb F' H' _ own D (((a.grow g)).set i p) q
theorem zhq (h:EvO Γ te m ds) (k:Run E (Γ.set i (.ow m ds)) u o):Run E Γ (tSeq (zig te (zcf i)) u) o:=λF0 Hb F H σ own D a q =>
 h F0 Hb F H σ own _ a λp vs F' H' g h1 h2 h3 h4=>k F0 Hb F' H' _ _ D (a.setOwn g i h1 h2 h3 h4) q
theorem zaT {α:Type} {x:α} (f:α->Ds) (fo:β->Oc) {kk:α->β} (h:Ev Γ te m (f x)) (k:∀ y,y=x->Run E (Γ.set i (.va m (f y))) u (fo (kk y))):Run E Γ (tSeq (zig te (zcf i)) u) (fo (Let x kk)):=zd9 h (k x rfl)
theorem zgn (e:Γ[i]?=some (.ow m ds)) (k:Run E (Γ.set i (.va m (dL ds))) t o):Run E Γ t o:=λF0 Hb F H σ own D a q=>by
 obtain ⟨F',own',_,a'⟩:=a.share e
 exact k F0 Hb F' H σ own' D a' q
theorem zar {α:Type} {tc:TT} {b:Bool} {x y:α} {r:TS} (fo:α->Oc) (h:EvT Γ tc b) (h1:b=true->Run E Γ (tSeq t r) (fo x)) (h2:b=false->Run E Γ (tSeq u r) (fo y)):Run E Γ (tSeq (zkF tc t u) r) (fo (bif b then x else y)):=λF0 Hb F H σ own D a q =>
 h F0 Hb F H σ own _ a λF' H' g=>by
  cases b with
  | true=>rw [if_pos rfl];exact h1 rfl F0 Hb F' H' σ own D (a.grow g) q
  | false=>rw [if_neg Bool.false_ne_true];exact h2 rfl F0 Hb F' H' σ own D (a.grow g) q
theorem zcp {tc:TT} {b:Bool} {r:TS} (G:Bool->Ctx) (h:EvT Γ tc b) (h1:b=true->Run E Γ t (.nx (G true))) (h2:b=false->Run E Γ u (.nx (G false))) (k:Run E (G b) r o):Run E Γ (tSeq (zkF tc t u) r) o:=λF0 Hb F H σ own D a q =>
 h F0 Hb F H σ own _ a λF' H' g=>by
  cases b with
  | true=>rw [if_pos rfl];exact h1 rfl F0 Hb F' H' σ own _ (a.grow g) λF H σ own a'=>k F0 Hb F H σ own D a' q
  | false=>rw [if_neg Bool.false_ne_true];exact h2 rfl F0 Hb F' H' σ own _ (a.grow g) λF H σ own a'=>k F0 Hb F H σ own D a' q
theorem zal (k:Run E Γ u o):Run E Γ (tSeq zgB u) o:=λF0 Hb F H σ own D a q=>k F0 Hb F H σ own D a q
theorem zgx {Δ:Ctx} (h:Run E Γ t (.nx Δ)) (k:Run E Δ u o):Run E Γ (tSeq t u) o:=λF0 Hb F H σ own D a q=>h F0 Hb F H σ own _ a λF H σ own a'=>k F0 Hb F H σ own D a' q
theorem zaf {r:TS} (h:Run E Γ (tSeq t (tSeq u r)) o):Run E Γ (tSeq (tSeq t u) r) o:=λF0 Hb F H σ own D a q=>h F0 Hb F H σ own D a q
theorem zib {F0 Hb F H:Hp} {σ:St} {own:Nat->Option Addr} (a:At F0 Hb F H σ own Γ) (e:Γ[i]?=some (.ow m ds)) :
  ∃ p vs,σ[i]?=some (some (.ref p))∧own i=some p∧F p=none∧Hb p=none∧H p=some (.lst vs)∧Paired (λv (d:Ds)=>d.pr (zcK m F Hb) v) vs ds:=by
 obtain ⟨p,vs,e1,e2,e3,e4,e5,e6⟩:=a.sl i _ e
 have hi:i<σ.length:=by rw [a.len];exact ((List.getElem?_eq_some_iff.mp e)).1
 rw [List.getElem?_eq_getElem hi] at e1
 have e':σ[i]=some (.ref p):=e1
 exact ⟨p,vs,by rw [List.getElem?_eq_getElem hi,e'],e2,e3,e4,e5,e6⟩
theorem zf2 {te:TE} (e:Γ[i]?=some (.ow m ds)) (h:Ev Γ te m d) (hz:ds.length<sizeLine) (k:Run E (Γ.set i (.ow m (ds++[d]))) u o):Run E Γ (tSeq (zeZ (tBM K "list" zcj (ze8 i) (zbO te zdX))) u) o:=λF0 Hb F H σ own D a q=>by
 obtain ⟨p,vs,e1,e2,e3,e4,e5,e6⟩:=zib a e
 refine ⟨_,e1,.inl ⟨rfl,_,SqL.of e5⟩,?_⟩
 refine h F0 Hb F H σ own _ a λv F' H' g qv=>?_
 obtain ⟨p',vs',f1,f2,f3,f4,f5,f6⟩:=zib (a.grow g) e
 rw [e1] at f1
 cases f1
 exact ⟨p,vs',v,rfl,rfl,f5,by rw [Paired.length f6];exact hz,k F0 Hb F' _ σ own D (((a.grow g)).turn e e1 (zbF f6 (.cons qv .nil))) q⟩
theorem zdQ {S:Type} (f:S->γ->S ⊕ β):∀ (xs:List γ) (s:S) (i:Nat) (s':S),za8 f s (xs.take i)=.inl s'->∀ x,xs[i]?=some x->za8 f s (xs.take (i+1))=f s' x
 | [],_,_,_,_,_,h=>by simp at h
 | y :: ys,s,0,s',e,x,h=>by
  simp at h;subst h
  have e':s=s':=by simpa [za8] using e
  subst e'
  show za8 f s [y]=_
  simp only [za8]
  cases f s y<;>rfl
 | y :: ys,s,i+1,s',e,x,h=>by
  simp only [List.take_succ_cons,za8] at e ⊢
  cases q:f s y with
  | inl s1=>rw [q] at e;exact zdQ f ys s1 i s' e x (by simpa using h)
  | inr b=>rw [q] at e;cases e
theorem zd1 {S:Type} (f:S->γ->S ⊕ β):∀ (xs:List γ) (s:S) (i:Nat) (b:β),za8 f s (xs.take i)=.inr b->za8 f s xs=.inr b
 | [],s,i,b,e=>by simpa using e
 | y :: ys,s,0,b,e=>by simp [za8] at e
 | y :: ys,s,i+1,b,e=>by
  simp only [List.take_succ_cons,za8] at e ⊢
  cases q:f s y with
  | inl s1=>rw [q] at e;exact zd1 f ys s1 i b e
  | inr b'=>rw [q] at e;exact e
def zfR {S:Type} (G:S->Ctx) (res:β->Oc):S ⊕ β->Oc
 | .inl s=>.nx (G s)
 | .inr b=>res b
theorem Grow.rebase {F0 Hb F1 H1 F H:Hp} (g1:Grow F0 Hb F1 H1) (g:Grow F0 Hb F H) (e:Same F1 F):Grow F1 Hb F H :=
 ⟨e,g.fh,g.h,λa h1 h2=>g.no a h1 (g1.f.free h2)⟩
theorem Grow.unbase {F0 Hb F1 H1 F H:Hp} (g1:Grow F0 Hb F1 H1) (g:Grow F1 Hb F H):Grow F0 Hb F H :=
 ⟨g1.f.trans g.f,g.fh,g.h,λa h1 h2=>g.no a h1 (g1.no a h1 h2)⟩
theorem At.rebase {F0 Hb F1 H1 F H:Hp} {σ:St} {own:Nat->Option Addr} (g1:Grow F0 Hb F1 H1) (a:At F0 Hb F H σ own Γ) (e:Same F1 F):At F1 Hb F H σ own Γ:=⟨g1.rebase a.g e,a.inj,a.liv,a.sl,a.len⟩
theorem At.unbase {F0 Hb F1 H1 F H:Hp} {σ:St} {own:Nat->Option Addr} (g1:Grow F0 Hb F1 H1) (a:At F1 Hb F H σ own Γ):At F0 Hb F H σ own Γ:=⟨g1.unbase a.g,a.inj,a.liv,a.sl,a.len⟩
theorem zdb.rebase {F0 Hb F1 H1:Hp} {D:Ends} (g1:Grow F0 Hb F1 H1) (h:zdb E F0 Hb D o):zdb E F1 Hb D o:=by
 cases o with
 | nx Γ=>exact λF H σ own a=>h F H σ own (a.unbase g1)
 | bk Γ=>exact λF H σ own a=>h F H σ own (a.unbase g1)
 | ct Γ=>exact λF H σ own a=>h F H σ own (a.unbase g1)
 | rt m d=>exact λv F H g q=>h v F H (g1.unbase g) q
 | rl m ds=>exact λp vs F H g h1 h2 h3 q=>h p vs F H (g1.unbase g) h1 h2 h3 q
 | ex C φ Γ=>exact λdct F H σ own a p=>h dct F H σ own (a.unbase g1) p
 | rw Γ d=>exact λv F H σ own a q=>h v F H σ own (a.unbase g1) q
theorem zgs {S:Type} {wi:TI} {g:TG} {tb:TS} {js:List Nat} {xs:List γ} {bds:γ->List Ds} {mi:Bool} {s0:S} (G:S->Ctx) (res:β->Oc) (f:S->γ->S ⊕ β) (I:Nat->S->Prop) (it:Iv Γ wi g js xs bds mi) (w:Wk Γ (G s0)) (h0:I 0 s0)
  (hres:∀ (b:β) (F0 Hb:Hp) (D D':Ends),D.rt=D'.rt->zdb E F0 Hb D (res b)->zdb E F0 Hb D' (res b))
  (body:∀ (i:Nat) (x:γ) (s:S),xs[i]?=some x->I i s->(∀s',f s x= .inl s'->I (i+1) s')∧Run E (zhh js (bds x) mi (G s)) tb (zfR G res (f s x))):Run E Γ (zik wi g tb) (zfR G res (za8 f s0 xs)):=λF0 Hb F H σ own D a q =>
 it F0 Hb F H σ own _ a λJ F1 H1 g1 ok=>by
  have gb:Grow F0 Hb F1 H1:=a.g.trans g1
  refine ⟨λi mm σ H2=>mm=xs.length-i∧i≤xs.length∧∃ s F2 own2,za8 f s0 (xs.take i)=.inl s∧I i s∧At F1 Hb F2 H2 σ own2 (G s),⟨_,rfl,Nat.zero_le _,s0,F1,own,by simp [za8],h0,(((a.grow g1)).wk w).rebase gb (Same.refl _)⟩,?_⟩
  rintro i mm σ2 H2 ⟨rfl,hi,s,F2,own2,es,hI,a2⟩
  obtain ⟨hstop,hitem⟩:=ok.up a2.g.f H2 a2.fh
  by_cases hlt:i<xs.length
  ·have hx:xs[i]?=some xs[i]:=List.getElem?_eq_getElem hlt
   obtain ⟨go,yl⟩:=hitem i xs[i] hx
   obtain ⟨hI',hb⟩:=body i _ s hx hI
   have tk:=zdQ f xs s0 i s es _ hx
   refine .inr ⟨go,λσ' H'=>∃ s' F3 own3,f s xs[i]=.inl s'∧At F1 Hb F3 H' σ' own3 (G s'),λσ' H' ⟨s',F3,own3,e3,a3⟩=>⟨xs.length-(i+1),by omega,rfl,hlt,s',F3,own3,by rw [tk,e3],hI' s' e3,a3⟩,λx H' y=>?_⟩
   obtain ⟨g3,bind⟩:=yl x H' y
   refine bind σ2 _ λvs hvs=>?_
   have a3:=(a2.grow g3).setMany (js:=js) hvs
   refine hb F1 Hb F2 H' _ own2 _ a3 ?_
   cases e3:f s xs[i] with
   | inl s'=>exact λF3 H3 σ3 own3 a4=>⟨s',F3,own3,rfl,a4⟩
   | inr b =>
    have:=zd1 f xs s0 (i+1) b (by rw [tk,e3])
    rw [this] at q
    exact hres b F1 Hb D _ rfl (zdb.rebase (o:=res b) gb q)
  ·have e:i=xs.length:=by omega
   subst e
   rw [List.take_length] at es
   rw [es] at q
   exact .inl ⟨hstop,q F2 H2 σ2 own2 (a2.unbase gb)⟩
end
end L2
namespace L2
open PySem PySem.Spec PyProof.Rows
structure EqD {α:Type} [DecidableEq α] (K:W.Frag) (f:α->Ds) (n:Nat):Prop where
 eq:∀ H x y v w,(f x).pr H v->(f y).pr H w->EqV K H n v w (decide (x=y))
 inj:∀ H x y v,(f x).pr H v->(f y).pr H v->x=y
theorem EqD.int {K:W.Frag} {n:Nat}:EqD K dI n:=⟨λH x y v w h1 h2=>by
 cases h1;cases h2
 have:decide (x=y)=eqV (.int x) (.int y):=Bool.eq_iff_iff.mpr (by unfold eqV;simp)
 rw [this];exact .flat rfl rfl,λH x y v h1 h2=>by cases h1;cases h2;rfl⟩
theorem EqD.bool {K:W.Frag} {n:Nat}:EqD K dB n:=⟨λH x y v w h1 h2=>by
 cases h1;cases h2
 have:decide (x=y)=eqV (.bl x) (.bl y):=by cases x<;>cases y<;>rfl
 rw [this];exact .flat rfl rfl,λH x y v h1 h2=>by cases h1;cases h2;rfl⟩
theorem EqD.str {K:W.Frag} {n:Nat}:EqD K dS n:=⟨λH x y v w h1 h2=>by
 cases h1;cases h2
 have:decide (x=y)=eqV (.str x) (.str y):=Bool.eq_iff_iff.mpr (by unfold eqV;simp)
 rw [this];exact .flat rfl rfl,λH x y v h1 h2=>by cases h1;cases h2;rfl⟩
theorem zc1 {α:Type} {f:α->Ds} {H:Hp} (h:∀ x y v,(f x).pr H v->(f y).pr H v->x=y):∀ {xs ys:List α} {vs:List V},Paired (λv (d:Ds)=>d.pr H v) vs (xs.map f)->Paired (λv (d:Ds)=>d.pr H v) vs (ys.map f)->xs=ys
 | [],[],_,_,_=>rfl
 | [],_ :: _,_,.nil,h2=>by cases h2
 | _ :: _,[],_,h1,.nil=>by cases h1
 | x :: xs,y :: ys,_,.cons a s,.cons b t=>by rw [h x y _ a b,zc1 h s t]
theorem zgW {α:Type} [DecidableEq α] {xs ys:List α} (h:xs.length=ys.length):(((List.range xs.length)).all λj=>decide (xs[j]? =ys[j]?))=decide (xs=ys):=by
 by_cases e:xs=ys
 ·subst e;simp
 ·rw [decide_eq_false e]
  by_cases z:(((List.range xs.length)).all λj=>decide (xs[j]? =ys[j]?))=true
  ·exfalso
   apply e
   rw [List.all_eq_true] at z
   refine List.ext_getElem? λj=>?_
   by_cases hj:j<xs.length
   ·simpa using z j (List.mem_range.mpr hj)
   ·rw [List.getElem?_eq_none (by omega),List.getElem?_eq_none (by omega)]
  ·simpa using z
theorem zfr {α:Type} [DecidableEq α] {K:W.Frag} {f:α->Ds} {n:Nat} (E:EqD K f n) {H:Hp} {xs ys:List α} {vs ws:List V} (h1:Paired (λv (d:Ds)=>d.pr H v) vs (xs.map f)) (h2:Paired (λv (d:Ds)=>d.pr H v) ws (ys.map f)) (hl:xs.length=ys.length) :
  ∀ (j:Nat) (x y:V),vs[j]?=some x->ws[j]?=some y->EqV K H n x y (decide (xs[j]?=ys[j]?)):=λj x y e1 e2=>by
 have l1:=Paired.length h1
 have l2:=Paired.length h2
 rw [List.length_map] at l1 l2
 have hj:j<vs.length:=(List.getElem?_eq_some_iff.mp e1).1
 have q1:xs[j]?=some (xs[j]' (by omega)):=List.getElem?_eq_getElem (by omega)
 have q2:ys[j]?=some (ys[j]' (by omega)):=List.getElem?_eq_getElem (by omega)
 obtain ⟨v,ev,rv⟩:=zaI h1 (show ((xs.map f))[j]?=some (f (xs[j]' (by omega))) by rw [List.getElem?_map,q1];rfl)
 obtain ⟨w,ew,rw'⟩:=zaI h2 (show (ys.map f)[j]?=some (f (ys[j]' (by omega))) by rw [List.getElem?_map,q2];rfl)
 rw [e1] at ev;rw [e2] at ew
 cases ev;cases ew
 have:=E.eq H _ _ _ _ rv rw'
 rw [q1,q2]
 simpa using this
theorem EqD.list {α:Type} [DecidableEq α] {K:W.Frag} {f:α->Ds} {n:Nat} (E:EqD K f n):EqD K (λxs:List α=>dL (xs.map f)) (n+1):=⟨λH xs ys v w h1 h2=>by
 obtain ⟨p,vs,rfl,hp,qp⟩:=h1
 obtain ⟨q,ws,rfl,hq,qq⟩:=h2
 by_cases e:p=q
 ·subst e
  rw [hp] at hq
  cases hq
  rw [zc1 (E.inj H) qp qq,decide_eq_true rfl]
  exact .same
 ·have l1:=Paired.length qp
  have l2:=Paired.length qq
  rw [List.length_map] at l1 l2
  by_cases hl:xs.length=ys.length
  ·rw [← zgW hl,← l1]
   exact .lists e (SqL.of hp) (SqL.of hq) (by omega) (zfr E qp qq hl)
  ·have:decide (xs=ys)=false:=decide_eq_false λz=>hl (by rw [z])
   rw [this]
   exact .lens e (SqL.of hp) (SqL.of hq) (by omega),λH xs ys v h1 h2=>by
 obtain ⟨p,vs,rfl,hp,qp⟩:=h1
 obtain ⟨q,ws,e,hq,qq⟩:=h2
 cases e
 rw [hp] at hq
 cases hq
 exact zc1 (E.inj H) qp qq⟩
theorem zfG {α:Type} [DecidableEq α] {K:W.Frag} {f:α->Ds} {n:Nat} (E:EqD K f n) {Γ:Ctx} {ta tb:TE} {m neg:Bool} {xs ys:List α} (h1:Ev Γ ta false (dQ K (xs.map f))) (h2:Ev Γ tb false (dQ K (ys.map f))) (hn:n≤50:=by decide) :
  Ev Γ (tOp (zhT K neg) ta tb) m (dB (bif neg then !decide (xs=ys) else decide (xs=ys))):=λF0 Hb F H σ own Q a k =>
 h1 F0 Hb F H σ own _ a λu F1 H1 g1 ⟨p,vs,e1,e2,e3⟩=>h2 F0 Hb F1 H1 σ own _ (a.grow g1) λu' F2 H2 g2 ⟨q,ws,d1,d2,d3⟩=>by
  have e2':SqL K H2 p vs:=(g1.fh.trans g2.h).seq e2
  have d2':SqL K H2 q ws:=g2.fh.seq d2
  have e3':=zbU (ds:=[]) (g1.fh.trans g2.h) e3
  have d3':=zbU (ds:=[]) g2.fh d3
  have l1:=Paired.length e3'
  have l2:=Paired.length d3'
  rw [List.length_map] at l1 l2
  refine ⟨p,q,n,vs,ws,e1,d1,e2',d2',hn,?_⟩
  by_cases hl:xs.length=ys.length
  ·refine .inr ⟨_,by omega,zfr E e3' d3' hl,k _ F2 H2 (g1.trans g2) ?_⟩
   rw [l1,zgW hl]
   cases neg<;>rfl
  ·refine .inl ⟨by omega,k _ F2 H2 (g1.trans g2) ?_⟩
   rw [show decide (xs=ys)=false from decide_eq_false λz=>hl (by rw [z])]
   cases neg<;>rfl
def zcU (N:List Str) (ds:List Ds):Ctx:=ds.map (.va false)++List.replicate (N.length-ds.length) .no
def zj4 (n:Nat):Rs->Oc
 | .va m d=>.rt m d
 | .ow m ds=>.rl m ds
 | .ex C φ=>.ex C φ (List.replicate n .no)
theorem zfw {F H:Hp} {N:List Str} {vs:List V} {ds:List Ds} (hF:Same F H) (hv:Paired (λv (d:Ds)=>d.pr F v) vs ds):At F H F H (zcr N vs) (λ_=>none) (zcU N ds):=by
 have hl:=Paired.length hv
 refine ⟨Grow.refl hF,λ_ _ _ h=>(nomatch h),λ_ _ h=>(nomatch h),λi s e=>?_,by unfold zcr zcU;simp [hl]⟩
 unfold zcU at e
 unfold zcr
 by_cases hi:i<ds.length
 ·rw [List.getElem?_append_left (by simpa using hi),List.getElem?_map] at e
  rw [List.getElem?_append_left (by simpa [hl] using hi),List.getElem?_map]
  obtain ⟨v,ev,rv⟩:=zaI hv (List.getElem?_eq_getElem hi)
  rw [List.getElem?_eq_getElem hi] at e
  have e':Slot.va false ds[i]=s:=Option.some.inj e
  subst e'
  exact ⟨v,by rw [ev];rfl,rv⟩
 ·rw [List.getElem?_append_right (by simpa using hi),List.getElem?_replicate] at e
  split at e
  ·cases e;trivial
  ·cases e
def zhC (H F:Hp) (Q:VK) (E:XK):Rs->Prop
 | .ex C φ=>∀ dct F' H',Grow F H F' H'->φ F' dct->E (.ref C) dct H'
 | .va m d=>∀ v F' H',Grow F H F' H'->d.pr (zcK m F' H) v->Q v H'
 | .ow m ds=>∀ p ws F' H',Grow F H F' H'->H p=none->F' p=none->H' p=some (.lst ws)->Paired (λv (d:Ds)=>d.pr (zcK m F' H) v) ws ds->Q (.ref p) H'
theorem zgY {E:XK} {F H:Hp} {N:List Str} {vs:List V} {ds:List Ds} {Q:VK} {t:TS} {r:Rs} (hF:Same F H) (hv:Paired (λv (d:Ds)=>d.pr F v) vs ds) (hq:zhC H F Q E r) (h:Run (λ_=>E) (zcU N ds) t (zj4 N.length r)):t { nx:=λ_ H'=>Q .non H',rt:=Q } (zcr N vs) H:=by
 refine h F H F H _ _ _ (zfw hF hv) ?_
 cases r with
 | va m d=>exact λv F' H' g q=>hq v F' H' g q
 | ow m ds=>exact λp ws F' H' g h1 h2 h3 q=>hq p ws F' H' g h1 h2 h3 q
 | ex C φ=>exact λdct F' H' σ own a p=>hq dct F' H' a.g p
theorem zfx {E:XK} {F H:Hp} {N:List Str} {vs:List V} {ds:List Ds} {Q:VK} {t:TS} {m:Bool} {Δ:Ctx} (hF:Same F H) (hv:Paired (λv (d:Ds)=>d.pr F v) vs ds) (hq:zhC H F Q E (.va m dN)) (h:Run (λ_=>E) (zcU N ds) t (.nx Δ)):t { nx:=λ_ H'=>Q .non H',rt:=Q } (zcr N vs) H :=
 h F H F H _ _ _ (zfw hF hv) λF' H' σ own a=>hq _ F' H' a.g rfl
section
variable {P:Program} {w:World} {K:W.Frag} {mg:Str->Option Value} {base:Heap} {x qual:Str} {st:Stmt} {f:Addr} {fd:FuncData} {N ps:List Str} {k:Nat}
theorem Fun.okV {ι:Type} {args:ι->List Ds} {pre:ι->Prop} {res:ι->Rs} (F:Fun K x qual st f fd) (S:FnScope N ps (zah st)) (hl:∀ i,(args i).length=ps.length)
  (hbody:∀ (cdv:Value) (A:Around) (outer:List Env) (s:Shared) (H:Hp) (E:XK) (i:ι),Room k (A.deeper (envOfC qual (zah st) s.heap.objs.size f cdv))->pre i →
   ∃ t,PSs ((zfI (CXE P w) P w K mg base N qual (zah st) f cdv A outer s H E)).nox (zbK st) t∧(Run (λ_=>E) (zcU N (args i)) t (zj4 N.length (res i))∨∃ m Δ,res i=.va m dN∧Run (λ_=>E) (zcU N (args i)) t (.nx Δ))):FnOk P w K mg base (CXE P w) (k+1) f fd ps (Spv args pre res):=by
 refine F.okN S (λvs H Q E ⟨i,F',_,hv,_⟩=>by rw [Paired.length hv];exact hl i) λcdv A outer s H vs Q E hr ⟨i,F',hF,hv,hp,hq⟩=>?_
 obtain ⟨t,h1,h2⟩:=hbody cdv A outer s H E i hr hp
 have hq':zhC H F' Q E (res i):=by
  cases e:res i with
  | va m d=>rw [e] at hq;exact hq
  | ow m ds=>rw [e] at hq;exact hq
  | ex C φ=>rw [e] at hq;exact hq
 refine ⟨_,h1,?_⟩
 rcases h2 with h2 | ⟨m,Δ,e,h2⟩
 ·exact zgY hF hv hq' h2
 ·rw [e] at hq'
  exact zfx hF hv hq' h2
end
def putD (f:Str) (d:Ds):List (Str×Ds)->List (Str×Ds)
 | []=>[(f,d)]
 | (g,x) :: r=>if g=f then (g,d) :: r else (g,x) :: putD f d r
theorem zd2 {R:V->Ds->Prop} {f:Str} {v:V} {d:Ds} (h:R v d):∀ {vs:List (Str×V)} {fs:List (Str×Ds)},Paired (λ(a:Str×V) (b:Str×Ds)=>a.1=b.1∧R a.2 b.2) vs fs->Paired (λ(a:Str×V) (b:Str×Ds)=>a.1=b.1∧R a.2 b.2) (putF f v vs) (putD f d fs)
 | _,_,.nil=>.cons ⟨rfl,h⟩ .nil
 | _,_,.cons (a:=(x,u)) (b:=(y,e)) ⟨h1,h2⟩ t=>by
  have h1:x=y:=h1
  subst h1
  unfold putF putD
  split
  ·exact .cons ⟨rfl,h⟩ t
  ·exact .cons ⟨rfl,h2⟩ (zd2 h t)
theorem zjc {Γ:Ctx} {i:Nat} {m:Bool} {C p dx:Addr} {fs:List (Str×Ds)} {K:W.Frag} {tv:TE} {d:Ds} {f:Str} {u:TS} {o:Oc} {E:XS} (e:Γ[i]?=some (.ob m C p dx fs)) (h:Ev Γ tv m d) (c:Cls K C) (nf:NoAttr K C f) (hz:fs.length<1000) (k:Run E (Γ.set i (.ob m C p dx (putD f d fs))) u o):Run E Γ (tSeq (zkR K (ze8 i) tv f) u) o:=λF0 Hb F H σ own D a q=>by
 refine h F0 Hb F H σ own _ a λv F' H' g qv=>?_
 have a':=a.grow g
 obtain ⟨vs,e1,e2,e3,e4,e5,e6⟩:=a'.sl i _ e
 have hi:i<σ.length:=by rw [a.len];exact ((List.getElem?_eq_some_iff.mp e)).1
 rw [List.getElem?_eq_getElem hi] at e1
 have e':σ[i]=some (.ref p):=e1
 have ei:σ[i]?=some (some (.ref p)):=by rw [List.getElem?_eq_getElem hi,e']
 exact ⟨_,ei,p,C,dx,vs,rfl,e5.1,c,nf,by rw [Paired.length e6];exact hz,k F0 Hb F' _ σ own D (a'.turnOb e (zd2 (R:=λv (d:Ds)=>d.pr (zcK m F' Hb) v) qv e6)) q⟩
def zk7 {ι:Type} (C:Addr) (args:ι->List Ds) (pre:ι->Prop) (m:Bool) (fs:ι->List (Str×Ds)):Sp:=λvs H Q _=>∃ (i:ι) (p dx:Addr) (ws:List V) (H1 F:Hp),vs=.ref p :: ws∧H1 p=none∧H1 dx=none∧dx≠p∧H=upd (upd H1 dx (.own p)) p (.ins C dx [])∧Same F H1 ∧
 Paired (λv (d:Ds)=>d.pr F v) ws (args i)∧pre i∧∀ us F' H',Grow F H1 F' H'->F' p=none->F' dx=none->H' p=some (.ins C dx us)->H' dx=some (.own p)->Paired (λ(a:Str×V) (b:Str×Ds)=>a.1=b.1∧b.2.pr (zcK m F' H1) a.2) us (fs i)->Q .non H'
def zgZ (m:Bool) (C p dx:Addr) (N:List Str) (ds:List Ds):Ctx:=.ob m C p dx [] :: (ds.map (.va false)++List.replicate (N.length-(ds.length+1)) .no)
section
variable {P:Program} {w:World} {K:W.Frag} {mg:Str->Option Value} {base:Heap} {x qual:Str} {st:Stmt} {f:Addr} {fd:FuncData} {N ps:List Str} {k:Nat}
theorem zgg {m:Bool} {F H1:Hp} {C p dx:Addr} {N:List Str} {ws:List V} {ds:List Ds} (hF:Same F H1) (hv:Paired (λv (d:Ds)=>d.pr F v) ws ds) (h1:H1 p=none) (h2:H1 dx=none) (h3:dx≠p) :
  At F H1 F (upd (upd H1 dx (.own p)) p (.ins C dx [])) (zcr N (.ref p :: ws)) (λi=>if i=0 then some p else none) (zgZ m C p dx N ds):=by
 have hl:=Paired.length hv
 have n1:upd H1 dx (.own p) p=none:=by rw [zad (Ne.symm h3)];exact h1
 have g:Grow F H1 F (upd (upd H1 dx (.own p)) p (.ins C dx [])):=((Grow.refl hF).newH h2).newH n1
 refine ⟨g,λi j q e1 e2=>?_,λi q e=>?_,λi s e=>?_,?_⟩
 ·split at e1
  ·split at e2
   ·omega
   ·cases e2
  ·cases e1
 ·split at e
  ·cases e;rw [zak];simp
  ·cases e
 ·cases i with
  | zero =>
   have e':Slot.ob m C p dx []=s:=Option.some.inj e
   subst e'
   exact ⟨[],rfl,rfl,⟨hF.free h1,hF.free h2⟩,⟨h1,h2⟩,⟨zak,by rw [zad h3];exact zak⟩,.nil⟩
  | succ i =>
   have e:(ds.map (Slot.va false)++List.replicate (N.length-(ds.length+1)) Slot.no)[i]?=some s:=e
   show zcM H1 F _ _ _ ((ws.map some++List.replicate (N.length-(ws.length+1)) none)[i]?).join s
   by_cases hi:i<ds.length
   ·rw [List.getElem?_append_left (by simpa using hi),List.getElem?_map] at e
    rw [List.getElem?_append_left (by simpa [hl] using hi),List.getElem?_map]
    obtain ⟨v,ev,rv⟩:=zaI hv (List.getElem?_eq_getElem hi)
    rw [List.getElem?_eq_getElem hi] at e
    have e':Slot.va false ds[i]=s:=Option.some.inj e
    subst e'
    exact ⟨v,by rw [ev];rfl,rv⟩
   ·rw [List.getElem?_append_right (by simpa using hi),List.getElem?_replicate] at e
    split at e
    ·cases e;trivial
    ·cases e
 ·unfold zcr zgZ;simp [hl]
theorem Fun.okI {ι:Type} {C:Addr} {args:ι->List Ds} {pre:ι->Prop} {m:Bool} {fs:ι->List (Str×Ds)} (F:Fun K x qual st f fd) (S:FnScope N ps (zah st)) (hl:∀ i,(args i).length+1=ps.length)
  (hbody:∀ (cdv:Value) (A:Around) (outer:List Env) (s:Shared) (H:Hp) (E:XK) (i:ι),Room k (A.deeper (envOfC qual (zah st) s.heap.objs.size f cdv))->pre i →
   ∃ t,PSs ((zfI (CXE P w) P w K mg base N qual (zah st) f cdv A outer s H E)).nox (zbK st) t∧∀ p dx,∃ Δ,Run (λ_=>E) (zgZ m C p dx N (args i)) t (.nx Δ)∧Δ[0]?=some (.ob m C p dx (fs i))):FnOk P w K mg base (CXE P w) (k+1) f fd ps (zk7 C args pre m fs):=by
 refine F.okN S (λvs H Q E ⟨i,p,dx,ws,H1,F',e,_,_,_,_,_,hv,_⟩=>by rw [e,List.length_cons,Paired.length hv];exact hl i) λcdv A outer s H vs Q E hr ⟨i,p,dx,ws,H1,F',e,h1,h2,h3,h4,hF,hv,hp,hq⟩=>?_
 subst e h4
 obtain ⟨t,t1,t2⟩:=hbody cdv A outer s _ E i hr hp
 obtain ⟨Δ,t2,t3⟩:=t2 p dx
 refine ⟨_,t1,?_⟩
 refine t2 F' H1 F' _ _ _ _ (zgg hF hv h1 h2 h3) λF2 H2 σ2 own2 a2=>?_
 obtain ⟨us,e1,e2,e3,e4,e5,e6⟩:=a2.sl 0 _ t3
 exact hq us F2 H2 a2.g e3.1 e3.2 e5.1 e5.2 e6
end
section
variable {Γ:Ctx} {K:W.Frag} {ds:List Ds} {tr:TA} {E:XK}
theorem ziO {ι:Type} {C:Addr} {args:ι->List Ds} {pre:ι->Prop} {m:Bool} {fs:ι->List (Str×Ds)} (i:ι) (h:EvA Γ tr false ds) (ha:ds=args i) (hp:pre i):Ev Γ (zj5 C (zk7 C args pre m fs) [] E tr) m (dO C (fs i)):=λF0 Hb F H σ own Q a k=>by
 subst ha
 refine h F0 Hb F H σ own _ a λvs F1 H1 g1 q1 p dx h1 h2 h3=>⟨i,p,dx,vs,H1,F1,by rw [List.append_nil],h1,h2,h3,rfl,g1.fh,q1,hp,λus F' H' g n1 n2 e1 e2 e3=>⟨rfl,?_⟩⟩
 have g2:=g1.trans g
 obtain ⟨p0,_,pb⟩:=a.free g1 h1
 obtain ⟨d0,_,db⟩:=a.free g1 h2
 have g3:=(g2.take p0 e1).take d0 e2
 have s1:Same F' (upd F' p (.ins C dx us)):=Same.new n1 _
 have n3:upd F' p (.ins C dx us) dx=none:=by rw [zad h3];exact n2
 have s2:Same F' (upd (upd F' p (.ins C dx us)) dx (.own p)):=s1.trans (Same.new n3 _)
 refine k _ _ _ g3 ⟨p,dx,us,rfl,zcP pb (by rw [zad (Ne.symm h3)];exact zak),zcP db zak,?_⟩
 exact zbW (λ_ b q=>⟨q.1,b.2.up (((zd7 (a.g.h.trans g1.h))).trans (zaS s2)) q.2⟩) e3
end
end L2
namespace L2
open PySem PySem.Spec PyProof.Rows
def Ite (K:W.Frag) (a:Addr):It :=
 ⟨λi H=>∃ xs x,SqL K H a xs∧xs[i]?=some x,
  λi H v H'=>∃ p x,v=.ref p∧H p=none∧H'=upd H p (.tup [.int (i:Int),x])∧∀ xs,SqL K H a xs->xs[i]?=some x,
  λi H=>∃ xs,SqL K H a xs∧xs.length≤i⟩
theorem zgG {P:Program} {w:World} {K:W.Frag} {elts:List Expr} {x1:Nat} {tp:Pos} {a e it:Addr} (hne:e≠it) :
  Turn P w K (.Tuple elts x1 tp) (Ite K a) [e,it] e (λi h=>(∃ old,IsEnum h e it (i:Int) old)∧h.IsListIter it a i) where
 mem:=by simp
 obj:=λi h st c hc=>by
  obtain ⟨⟨old,he⟩,⟨o1,e1,_,d1⟩⟩:=st
  simp only [List.mem_cons,List.not_mem_nil,or_false] at hc
  rcases hc with rfl | rfl
  ·exact ⟨_,he,λv z=>by cases z⟩
  ·exact ⟨o1,e1,λv z=>by rw [d1] at z;cases z⟩
 keep:=λi h h' st k=>by
  obtain ⟨⟨old,he⟩,h1⟩:=st
  exact ⟨⟨old,k e (by simp) _ he⟩,h1.at λo q=>k it (by simp) o q⟩
 item:=by
  intro X hP hw hK hc i pins s σ H E I hf st hg
  subst hP hw hK
  obtain ⟨xs,x,hxs,hx⟩:=hg
  obtain ⟨itx,rx,px,hzx⟩:=I.list hxs
  obtain ⟨u,hu,ru⟩:=rx.get hx
  obtain ⟨⟨old,he⟩,h1⟩:=st
  refine wpAny_pyNext_enum_item (x:=u) he h1 px.isList (by simpa using hu) hne λh' a1 a2 a3 a4 hk=>?_
  refine ⟨_,rfl,wpAny_letOwnedTupleGo_enum a1 λh'' b1 b2=>?_⟩
  have elt:e<s.heap.objs.size:=Heap.lt_size he
  have itl:it<s.heap.objs.size:=by obtain ⟨_,q,_⟩:=h1;exact Heap.lt_size q
  have tup:h''.get? s.heap.objs.size=some { cls:=.type "tuple",data:=.seq #[.int i s.toks,u] }:=b2.extBut _ _ (Nat.ne_of_gt elt) a3
  have I1:Inv X pins σ (upd H s.heap.objs.size (.tup [.int (i:Int),x])) { s with heap:=h'',toks:=s.toks+1 }:=by
   refine I.turnedNew (t':=s.toks+1) (ch:=[e,it]) (λc hc=>hf c hc) (λc ob hc q=>?_) (Nat.le_refl _) ?_
   ·simp only [List.mem_cons,List.not_mem_nil,or_false,not_or] at hc
    exact b2.extBut _ _ hc.1 (hk c ob hc.1 hc.2 q)
   ·exact ⟨by show 2≤sizeLine;decide,[.int i s.toks,u],.cons ⟨_,rfl⟩ (.cons ru .nil),⟨_,tup,rfl,_,rfl⟩⟩
  refine ⟨.ref s.heap.objs.size,_,I1,rfl,⟨_,x,rfl,I.hok.fresh (Nat.le_refl _),rfl,λxs' q1=>?_⟩,⟨⟨u,?_⟩,a2.extBut b2.extBut (Ne.symm hne)⟩,λc hc=>?_⟩
  ·rw [I.list_inj q1 hxs];exact hx
  ·exact b1
  ·have:c≠s.heap.objs.size:=by
    simp only [List.mem_cons,List.not_mem_nil,or_false] at hc
    rcases hc with rfl | rfl
    ·exact Nat.ne_of_lt elt
    ·exact Nat.ne_of_lt itl
   rw [zad this];exact (hf c hc).1
 done:=by
  intro X hP hw hK hc i pins s σ H E I hf st hg
  subst hP hw hK
  obtain ⟨xs,hxs,hend⟩:=hg
  obtain ⟨itx,rx,px,hzx⟩:=I.list hxs
  obtain ⟨⟨old,he⟩,h1⟩:=st
  have lx:=rx.length
  refine wpAny_pyNext_enum_end (I.ok.hd hc) he h1 px.isList (by simp;omega) λh' hk=>⟨rfl,?_⟩
  refine I.turnedL (t':=s.toks) (ch:=[e,it]) (λc hc=>hf c hc) (λc ob hc q=>?_)
  simp only [List.mem_cons,List.not_mem_nil,or_false,not_or] at hc
  exact hk c ob hc.2 q
 self:=λ_ _ _ _ _ st h=>by obtain ⟨⟨old,he⟩,_⟩:=st;exact wpAny_pyIter_enum he h
section
variable {X:Cx} {K:W.Frag}
def zjG (K:W.Frag) (ta:TA):TI:=λσ H R=>ta σ H λvs H1=>∃ a,vs=[.ref a]∧(∃xs,SqL K H1 a xs)∧R (Ite K a) H1
theorem zir {a:Expr} {ta:TA} {p pos tp:Pos} {elts:List Expr} {x1:Nat} (hK:X.K=K) (hg:Gl X "enumerate") (hm:X.mg "enumerate"=none) (ha:PA X [a] ta) (hs:starEach [a] X.env=[(false,eval a X.env)]:=by rfl) :
  PI X (.Tuple elts x1 tp) (.Call (.Name "enumerate" p) [a] [] pos) (zjG K ta):=by
 subst hK
 intro pins s σ H R I h
 refine Call_ (zdW I hg hm boot_enumerate (PyProof.Rows.callWith_type1 (thn (ha pos pins s σ H _ I h) λus s1 ⟨vs,H1,I1,r1,q1⟩=> ?_) (by rw [hs];rfl) rfl))
 obtain ⟨l,e,⟨xs,hx⟩,q⟩:=q1
 subst e
 cases r1 with
 | cons r rr =>
  cases rr
  cases r
  obtain ⟨itx,rx,px,hzx⟩:=I1.list hx
  refine call_enumerate_list px.isList λh' he h1 hsz hk=>wpAny_pyIter_enum he ?_
  have hne:(s1.heap.objs.size+1:Nat)≠s1.heap.objs.size:=by omega
  refine ⟨s1.heap.objs.size+1,[s1.heap.objs.size+1,s1.heap.objs.size],_,Ite X.K l,H1,rfl,I1.kept (t':=s1.toks) hk,zgG hne,⟨⟨_,he⟩,h1⟩,λc hc=>?_,q⟩
  have hle:@LE.le Nat _ s1.heap.objs.size c:=by
   simp only [List.mem_cons,List.not_mem_nil,or_false] at hc
   rcases hc with rfl | rfl<;>omega
  exact I1.fpOk hle (I1.hok.fresh hle)
end
section
variable {X:Cx} {K:W.Frag}
end
section
variable {Γ:Ctx} {m:Bool} {K:W.Frag} {γ:Type}
def zdx {α:Type} (xs:List α):List (Int×α):=(zc4 0 xs.length).zip xs
theorem zeQ {α:Type} {xs:List α}:(zdx xs).length=xs.length:=by simp [zdx,List.length_zip,zb2]
theorem zdE {α:Type} {xs:List α} {i:Nat} {p:Int×α} (h:(zdx xs)[i]?=some p):i<xs.length∧p.1=i∧xs[i]?=some p.2:=by
 obtain ⟨h1,h2⟩:=zfl h
 obtain ⟨h3,h4⟩:=zbQ h1
 exact ⟨h3,by rw [h4];omega,h2⟩
theorem ziN {tl:TE} {j1 j2:Nat} {xs:List γ} (f:γ->Ds) (h:Ev Γ tl m (dQ K (xs.map f))) :
  Iv Γ (zjG K (zbO tl zdX)) (zkJ K 2 (zgS (zcf j1) (zgS (zcf j2) zk9))) [j1,j2] (zdx xs) (λx=>[dI x.1,f x.2]) m:=λF0 Hb F H σ own R a k =>
 h F0 Hb F H σ own _ a λu F1 H1 g1 ⟨p,vs,e1,e2,e3⟩=>by
  have e2':SqL K F1 p vs:=zaM.seq e2
  have le:=Paired.length e3
  rw [List.length_map] at le
  refine ⟨p,by rw [e1],⟨vs,g1.fh.seq e2'⟩,k _ F1 H1 g1 λH hs=>⟨⟨vs,hs.seq e2',by rw [le,zeQ];exact Nat.le_refl _⟩,λi x ex=>?_⟩⟩
  obtain ⟨hi,x1,x2⟩:=zdE ex
  obtain ⟨v,ev,qv⟩:=zaI e3 (show ((xs.map f))[i]?=some (f x.2) by rw [List.getElem?_map,x2];rfl)
  refine ⟨⟨vs,v,hs.seq e2',ev⟩,λz H' y=>?_⟩
  obtain ⟨r,x',rfl,hr,rfl,hxy⟩:=y
  have hx:=hxy vs (hs.seq e2')
  rw [ev] at hx
  cases hx
  exact ⟨(Grow.refl hs).newH hr,λσ Q k=>⟨r,_,rfl,.inl (.inl zak),rfl,_,_,rfl,_,_,rfl,rfl,k [.int i,v] (.cons (by show V.int _=V.int _;rw [x1]) (.cons qv .nil))⟩⟩
end
end L2
namespace L2
open PySem PySem.Spec PyProof.Rows
theorem Ev.any {Γ:Ctx} {t:TE} {m n:Bool} {v:V} (h:Ev Γ t m (dV v)):Ev Γ t n (dV v):=λF0 Hb F H σ own Q a k=>h F0 Hb F H σ own Q a λu F' H' g q=>k u F' H' g q
theorem zgb {α:Type} {R R':Hp} {g:α->V} {vs:List V} {xs:List α} (h:Paired (λv (d:Ds)=>d.pr R v) vs (xs.map λx=>dV (g x))):Paired (λv (d:Ds)=>d.pr R' v) vs (xs.map λx=>dV (g x)):=by
 rw [zcA h]
 clear h
 induction xs with
 | nil=>exact .nil
 | cons x xs ih=>exact .cons rfl ih
theorem EvO.anyV {Γ:Ctx} {t:TE} {m n:Bool} {α:Type} {g:α->V} {xs:List α} (h:EvO Γ t m (xs.map λx=>dV (g x))):EvO Γ t n (xs.map λx=>dV (g x)):=λF0 Hb F H σ own Q a k=>h F0 Hb F H σ own Q a λp vs F' H' g h1 h2 h3 q=>k p vs F' H' g h1 h2 h3 (zgb q)
theorem EvO.anyI {Γ:Ctx} {t:TE} {m n:Bool} {xs:Ji} (h:EvO Γ t m (xs.map dI)):EvO Γ t n (xs.map dI):=EvO.anyV h
theorem EvO.anyB {Γ:Ctx} {t:TE} {m n:Bool} {xs:List Bool} (h:EvO Γ t m (xs.map dB)):EvO Γ t n (xs.map dB):=EvO.anyV h
theorem EvO.anyS {Γ:Ctx} {t:TE} {m n:Bool} {xs:List Str} (h:EvO Γ t m (xs.map dS)):EvO Γ t n (xs.map dS):=EvO.anyV h
section
variable {X:Cx}
def zkW (i j:Int):Prop:=(-(2^64)<i∧i<2^64)∨(-(2^64)<j∧j<2^64)∨(i.natAbs.log2<60000000∧j.natAbs.log2<60000000)
theorem zg1 {a b:Int} (ha:Builtin.Int.intBits a≤60000000) (hb:Builtin.Int.intBits b≤60000000):IntMulOk a b:=by
 have h:Builtin.Int.intTooBig (Builtin.Int.intBits a+Builtin.Int.intBits b)=false:=by
  unfold Builtin.Int.intTooBig bitsLine
  exact decide_eq_false (by omega)
 unfold IntMulOk
 rw [h]
 simp
theorem zdA:OpR X (binaryOp .Mult) (rI zkW λi j=>.int (i*j)):=opI λ_ _ _ _ _ _ _ hc q=>mul_int q (by
 rcases hc with h | h | h
 ·exact .of_left (intBits_le_64 h.1 h.2)
 ·exact .of_right (intBits_le_64 h.1 h.2)
 ·exact zg1 (zgc h.1) (zgc h.2))
end
def ixD {α:Type} [Inhabited α] (xs:List α) (i:Int):α:=(atI xs i).getD default
def InB (n:Nat) (i:Int):Prop:=-(n:Int)≤i∧i<n
theorem zfz {n:Nat} {i:Int} (h:InB n i):∃ j,ixN n i=some j∧j<n∧(0≤i->j=i.toNat):=by
 unfold InB at h
 unfold ixN
 by_cases h0:0≤i
 ·rw [if_pos h0,if_pos h.2];exact ⟨_,rfl,by omega,λ_=>rfl⟩
 ·rw [if_neg h0,if_pos h.1];exact ⟨_,rfl,by omega,λz=>absurd z h0⟩
theorem zij {α:Type} [Inhabited α] {xs:List α} {i:Int} (h:InB xs.length i):atI xs i=some (ixD xs i):=by
 obtain ⟨j,e,hj,_⟩:=zfz h
 unfold ixD atI
 rw [e]
 show xs[j]?=some (xs[j]?.getD default)
 rw [List.getElem?_eq_getElem hj];rfl
theorem ziJ {α:Type} [Inhabited α] {xs:List α} {i:Int} (h:InB xs.length i):ixD xs i∈xs:=by
 have:=zij h
 unfold atI at this
 obtain ⟨j,e,hj,_⟩:=zfz h
 rw [e] at this
 exact List.mem_of_getElem? this
def zc3 {α:Type} (xs:List α) (i:Int) (x:α):List α:=match ixN xs.length i with
 | some n=>xs.set n x
 | none=>xs
theorem zfA {α:Type} {xs:List α} {i:Int} {x:α}:(zc3 xs i x).length=xs.length:=by
 unfold zc3;split<;>simp
def dOpt {α:Type} (f:α->Ds):Option α->Ds
 | none=>dN
 | some x=>f x
def NN {α:Type} (f:α->Ds):Prop:=∀ x H v,(f x).pr H v->v≠.non
theorem NN.lst {α:Type} {f:α->Ds}:NN (λxs:List α=>dL (xs.map f)):=λ_ _ _ ⟨_,_,e,_⟩=>by rw [e];simp
theorem NN.tup {α:Type} {f:α->List Ds}:NN (λx=>dT (f x)):=λ_ _ _ ⟨_,_,e,_⟩=>by rw [e];simp
theorem NN.obj {α:Type} {C:Addr} {f:α->List (Str×Ds)}:NN (λx=>dO C (f x)):=λ_ _ _ ⟨_,_,_,e,_⟩=>by rw [e];simp
section
variable {E:XS} {Γ:Ctx} {m:Bool} {K:W.Frag} {α β γ:Type} {f:α->Ds} {t ta tb te:TE} {u r:TS} {o:Oc} {xs ys:List α} {i:Nat}
theorem zdq [Inhabited α] {j:Int} (h1:Ev Γ ta m (dQ K (xs.map f))) (h2:Ev Γ tb false (dI j)) (h:InB xs.length j):Ev Γ (tOp (zji K) ta tb) m (f (ixD xs j)):=zk4 h1 h2 (ziC (zij h))
theorem zbB {n:Bool} (h1:Ev Γ t false (dQ K (xs.map f))):Ev Γ (tCB (λxs H Q=>∃p ys,xs=[.ref p]∧(SqL K H p ys∨SqT K H p ys)∧Q (.int ys.length) H) (zbO t zdX)) n (dI (xs.length:Nat)):=(zjU h1).conv (by rw [List.length_map])
theorem ziK {tl th:TO} {lo hi:Option Int} (h1:Ev Γ t m (dQ K (xs.map f))) (h2:EvP Γ tl lo) (h3:EvP Γ th hi):EvO Γ (tSl (zkG K) t tl th) m ((zeS xs lo hi).map f):=(zjL h1 h2 h3).conv zhi.symm
theorem zcg (h1:Ev Γ ta m (dL (xs.map f))) (h2:Ev Γ tb m (dL (ys.map f))) (hz:xs.length+ys.length≤sizeLine):EvO Γ (tOp zlc ta tb) m ((xs++ys).map f):=(zjw h1 h2 (by rw [List.length_map,List.length_map];exact hz)).conv (List.map_append ..).symm
theorem zeA {x:Option α} {n:Bool} (h1:Ev Γ ta false (dOpt f x)) (h2:Ev Γ tb false dN) (hf:NN f):Ev Γ (tOp (λx y H Q=>y= .non∧Q (.bl (!decide (x= .non))) H) ta tb) n (dB x.isSome):=(ziH (b:=x.isNone) h1 h2 λH v q=>by
 cases x with
 | none=>rw [show v=V.non from q];rfl
 | some x=>exact decide_eq_false (hf x H v q)).conv (by cases x<;>rfl)
theorem zfi {x:α} (e:Γ[i]?=some (.ow m (xs.map f))) (h:Ev Γ te m (f x)) (hz:xs.length<sizeLine) (k:Run E (Γ.set i (.ow m ((xs++[x]).map f))) u o):Run E Γ (tSeq (zeZ (tBM K "list" zcj (ze8 i) (zbO te zdX))) u) o :=
 zf2 e h (by rw [List.length_map];exact hz) (by rw [List.map_append] at k;exact k)
theorem zdF {x:α} (G:α->Ctx) (fo:β->Oc) {kk:α->β} (k:∀ y,y=x->Run E (G y) u (fo (kk y))):Run E (G x) u (fo (Let x kk)):=k x rfl
def ziA (o:Oc):Prop:=(∃ m d,o=.rt m d)∨(∃ m ds,o=.rl m ds)∨∃ C φ Γ,o=.ex C φ Γ
theorem ziA.meets (h:ziA o) {F0 Hb:Hp} {D D':Ends} (e:D.rt=D'.rt) (q:zdb E F0 Hb D o):zdb E F0 Hb D' o:=by
 rcases h with ⟨m,d,rfl⟩ | ⟨m,ds,rfl⟩ | ⟨C,φ,Γ',rfl⟩
 ·exact λv F H g p=>e ▸ q v F H g p
 ·exact λp vs F H g h1 h2 h3 h4=>e ▸ q p vs F H g h1 h2 h3 h4
 ·exact q
def zkK {S:Type} (x:S ⊕ β) (k:S->α) (w:β->α):α:=match x with
 | .inl s=>k s
 | .inr b=>w b
theorem zfE {f:Str} {d:Ds}:∀ {fs:List (Str×Ds)} {ns:List Str},fs.map Prod.fst=ns->ns.contains f=false->putD f d fs=fs++[(f,d)]
 | [],_,_,_=>rfl
 | (g,e) :: r,_,rfl,h=>by
  have h':f≠g∧f ∉ r.map Prod.fst:=by simpa using h
  unfold putD
  rw [if_neg (Ne.symm h'.1),zfE rfl (by simpa using h'.2)]
  rfl
theorem zfy {C p dx:Addr} {fs:List (Str×Ds)} {tv:TE} {d:Ds} {f:Str} (e:Γ[i]?=some (.ob m C p dx fs)) (h:Ev Γ tv m d) (c:Cls K C) (nf:NoAttr K C f) (ns:List Str) (hns:fs.map Prod.fst=ns) (hn:ns.contains f=false) (hz:ns.length<1000) (k:Run E (Γ.set i (.ob m C p dx (fs++[(f,d)]))) u o) :
  Run E Γ (tSeq (zkR K (ze8 i) tv f) u) o:=zjc e h c nf (by rw [← List.length_map (f:=Prod.fst),hns];exact hz) (by rw [zfE hns hn];exact k)
theorem zdU {S:Type} (f:S->γ->S):∀ (xs:List γ) (s:S),za8 (β:=Empty) (λs x=>.inl (f s x)) s xs=.inl (xs.foldl f s)
 | [],_=>rfl
 | x :: xs,s=>zdU f xs (f s x)
theorem zeR {S:Type} {f:S->γ->S} {I:Nat->S->Prop}:∀ {xs:List γ} {s:S} {n:Nat},I n s->(∀ (i:Nat) (x:γ) (s:S),xs[i]?=some x->I (n+i) s->I (n+i+1) (f s x))->I (n+xs.length) (xs.foldl f s)
 | [],s,n,h,_=>h
 | x :: xs,s,n,h,k=>by
  have h1:=k 0 x s rfl h
  have:=zeR (xs:=xs) (s:=f s x) (n:=n+1) h1 λi y s' e q=>by
   have:=k (i+1) y s' (by simpa using e) (by rw [show n+(i+1)=n+1+i by omega];exact q)
   rw [show n+1+i+1=n+(i+1)+1 by omega];exact this
  rw [List.length_cons,show n+(xs.length+1)=n+1+xs.length by omega]
  exact this
theorem zeb {S:Type} {wi:TI} {g:TG} {tb:TS} {js:List Nat} {xs:List γ} {bds:γ->List Ds} {mi:Bool} {s0:S} (G:S->Ctx) (fo:β->Oc) {kk:S->β} (f:S->γ->S) (I:Nat->S->Prop) (it:Iv Γ wi g js xs bds mi) (w:Wk Γ (G s0)) (h0:I 0 s0)
  (body:∀ (i:Nat) (x:γ) (s:S),xs[i]?=some x->I i s->I (i+1) (f s x)∧Run E (zhh js (bds x) mi (G s)) tb (.nx (G (f s x)))) (k:∀ s,s=xs.foldl f s0->I xs.length s->Run E (G s) u (fo (kk s))):Run E Γ (tSeq (zik wi g tb) u) (fo (Let (xs.foldl f s0) kk)):=by
 refine zgx (Δ:=G (xs.foldl f s0)) ?_ (k _ rfl (by simpa using zeR (n:=0) (I:=I) h0 λi x s e q=>by rw [Nat.zero_add] at q ⊢;exact ((body i x s e q)).1))
 have:=zgs (β:=Empty) G (λz=>z.elim) (λs x=>.inl (f s x)) I it w h0 (λb=>b.elim) λi x s e q=>⟨λs' z=>by cases z;exact ((body i x s e q)).1,((body i x s e q)).2⟩
 rw [zdU] at this
 exact this
theorem zeX {S:Type} {f:S->γ->S ⊕ β} {I:Nat->S->Prop}:∀ {xs:List γ} {s s':S} {n:Nat},I n s->(∀ (i:Nat) (x:γ) (s:S),xs[i]?=some x->I (n+i) s->∀ s',f s x=.inl s'->I (n+i+1) s')->za8 f s xs=.inl s'->I (n+xs.length) s'
 | [],s,s',n,h,_,e=>by cases e;exact h
 | x :: xs,s,s',n,h,k,e=>by
  unfold za8 at e
  cases q:f s x with
  | inr b=>rw [q] at e;cases e
  | inl s1 =>
   rw [q] at e
   have h1:=k 0 x s rfl h s1 q
   have:=zeX (xs:=xs) (s:=s1) (n:=n+1) h1 (λi y s' e q=>by
    have:=k (i+1) y s' (by simpa using e) (by rw [show n+(i+1)=n+1+i by omega];exact q)
    rw [show n+1+i+1=n+(i+1)+1 by omega];exact this) e
   rw [List.length_cons,show n+(xs.length+1)=n+1+xs.length by omega]
   exact this
theorem zd8 {S:Type} {wi:TI} {g:TG} {tb:TS} {js:List Nat} {xs:List γ} {bds:γ->List Ds} {mi:Bool} {s0:S} (G:S->Ctx) (fo:α->Oc) (wr:β->α) {kk:S->α} (f:S->γ->S ⊕ β) (I:Nat->S->Prop) (hres:∀ b,ziA (fo (wr b))) (it:Iv Γ wi g js xs bds mi) (w:Wk Γ (G s0)) (h0:I 0 s0)
  (body:∀ (i:Nat) (x:γ) (s:S),xs[i]?=some x->I i s->(∀s',f s x= .inl s'->I (i+1) s')∧Run E (zhh js (bds x) mi (G s)) tb (zfR G (λb=>fo (wr b)) (f s x))) (k:∀ s,za8 f s0 xs=.inl s->I xs.length s->Run E (G s) u (fo (kk s))):Run E Γ (tSeq (zik wi g tb) u) (fo (zkK (za8 f s0 xs) kk wr)):=by
 have h:=zgs G (λb=>fo (wr b)) f I it w h0 (λb F0 Hb D D' e q=>(hres b).meets e q) body
 cases e:za8 f s0 xs with
 | inl s =>
  rw [e] at h
  exact zgx h (k s e (by simpa using zeX (n:=0) h0 (λi x s e q=>by rw [Nat.zero_add] at q ⊢;exact ((body i x s e q)).1) e))
 | inr b =>
  rw [e] at h
  exact λF0 Hb F H σ own D a q=>h F0 Hb F H σ own _ a ((hres b).meets (D:=D) rfl (show zdb E F0 Hb D (fo (wr b)) from q))
end
end L2
namespace L2
open PySem PySem.Spec PyProof.Rows PySem.Builtin PySem.Builtin.Getset_descriptor
structure XCls (K:W.Frag) (C:Addr):Prop where
 ga:W.findIn K (.ref C) "__getattribute__"=some (some (.builtin "BaseException.__getattribute__"))
 gn:W.findIn K (.ref C) "__getattr__"=some none
 cl:W.findIn K (.ref C) "__class__"=some (some (.builtin "object.__class__"))
 ob:W.mroIn K C (.type "object")=some true
 be:W.mroIn K C (.type "BaseException")=some true
 gt:W.specialIn K (.builtin "object.__class__") "__get__"=some (some (.builtin "getset_descriptor.__get__"))
 tk:W.takesIn K (.builtin "object.__class__")=some true
def XAt (h:Heap) (a C:Addr):Prop:=∃ o vs,h.get? a=some o∧o.cls=.ref C∧o.data=.fields vs
section
variable {prog:Program} {w:World} {A:Around} {E:Value->Shared->Prop} {K:W.Frag} {C a:Addr} {h:Heap} {g:Array GenState} {d:Drawn} {t:Nat} {os:OsState}
theorem XAt.ty {M:Model} (x:XAt h a C):W.Looks M h (typeOf (.ref a)) (.ref C):=by
 obtain ⟨o,vs,hx,hc,hd⟩:=x
 exact hc ▸ (W.Looks.ld hx).andThen .now
theorem ze9 {tp:Value} {R:Result->Shared->Prop} (X:K.In h) (c:XCls K C) (x:XAt h a C) (hr:R (.ok (.ret (.ref C))) ⟨h,g,d,t,os⟩) :
  codeAny (model prog w) A (.call (.builtin "getset_descriptor.__get__") ⟨[.builtin "object.__class__",.ref a,tp],[]⟩) R ⟨h,g,d,t,os⟩:=by
 have L0:=x.ty (M:=model prog w)
 have L1:=W.looks_mroIn (M:=model prog w) X c.ob
 refine codeAny_call_builtin W.KF.slot_gs.plain W.KF.entry_gs (W.KF.slot_gs.check _ _ _ _ _ _ _ _ W.KF.type_class (W.KF.args_gs _ _ _) ?_)
 unfold Builtin.«getset_descriptor.__get__»
 unfold descrGet
 rw [W.dga_obj]
 refine wpAny_bind (wpAny_pure ?_)
 unfold descrGetter
 unfold descrCheckInstance descrNameAndClass
 unfold isInstance
 simp only [W.KF.owner_class]
 repeat (any_goals (first | assumption | with_reducible refine wpAny_bind (L0.at ?_) | with_reducible refine wpAny_bind (L1.at ?_) | with_reducible refine L0.at ?_ | with_reducible refine L1.at ?_ | wp_step))
 refine ⟨Code.quiet_builtin _ (by decide+kernel),codeAny_builtin (W.KF.entry_class) ?_⟩
 unfold Builtin.«object.__class__»
 unfold shownTypeOf
 repeat (any_goals (first | assumption | with_reducible refine wpAny_bind (L0.at ?_) | with_reducible refine L0.at ?_ | wp_step))
theorem zgo {tk:Tok} {Q:Fin->Shared->Prop} (X:K.In h) (c:XCls K C) (x:XAt h a C) (hq:Q (.done (.ret (.ref C))) ⟨h,g,d,t,os⟩) :
  wpAny (model prog w) A (Builtin.«object.__getattribute__» ⟨[.ref a,.str "__class__" tk],[]⟩) Q E ⟨h,g,d,t,os⟩:=by
 have L0:=x.ty (M:=model prog w)
 have L1:=W.looks_findIn (M:=model prog w) X c.cl
 have L2:=W.looks_specialIn (M:=model prog w) X c.gt
 have L3:=W.looks_takesIn (M:=model prog w) X c.tk
 unfold Builtin.«object.__getattribute__»
 repeat (any_goals (first | assumption | with_reducible refine wpAny_bind (L0.at ?_) | with_reducible refine wpAny_bind (L1.at ?_) | with_reducible refine wpAny_bind (L2.at ?_) | with_reducible refine wpAny_bind (L3.at ?_) | wp_step))
 refine ze9 X c x ?_
 repeat (any_goals (first | assumption | wp_step))
theorem zep {nameV:Value} {Q:Unit->Shared->Prop} (X:K.In h) (c:XCls K C) (x:XAt h a C) (hq:Q () ⟨h,g,d,t,os⟩):wpAny (model prog w) A (checkBuiltinCall "BaseException.__getattribute__" ⟨[.ref a,nameV],[]⟩) Q E ⟨h,g,d,t,os⟩:=by
 have hk:builtinKind "BaseException.__getattribute__"=some .slot:=by decide +kernel
 have hsplit:splitId "BaseException.__getattribute__"=some ("BaseException","__getattribute__"):=by decide +kernel
 have L0:=x.ty (M:=model prog w)
 have L1:=W.looks_mroIn (M:=model prog w) X c.be
 have LI:W.Looks (model prog w) h (isInstance (.ref a) (.type "BaseException")) true:=L0.andThen L1
 have ha:=F.args_bexc_ga (.ref a) nameV
 simp only [checkBuiltinCall,hk,hsplit]
 refine wpAny_bind (LI.at ?_)
 repeat (any_goals (first | assumption | wp_step))
 all_goals (try exact hq)
theorem zkp {tk:Tok} {fill expr:Bool} {Q:Value->Shared->Prop} (X:K.In h) (c:XCls K C) (x:XAt h a C) (hq:Q (.ref C) ⟨h,g,d,t,os⟩) :
  wpAny (model prog w) A (getAttrBy (.ref a) (.str "__class__" tk) fill expr) Q E ⟨h,g,d,t,os⟩:=by
 have L0:=x.ty (M:=model prog w)
 have L1:=W.looks_findIn (M:=model prog w) X c.ga
 have L2:=W.looks_findIn (M:=model prog w) X c.gn
 have f3:=(PySem.F.attr_ValueError.ga).bind (.ref a)
 have hx0:(expr && onTheHeap (Value.builtin "BaseException.__getattribute__"))=false:=by cases expr<;>rfl
 have hx2:(Value.builtin "BaseException.__getattribute__" ==Value.builtin "object.__getattribute__")=false:=by decide +kernel
 have hx1:(onTheHeap (Value.ref C) && Value.builtin "BaseException.__getattribute__" ==Value.builtin "object.__getattribute__")=false:=by rw [hx2];rfl
 unfold getAttrBy
 repeat (any_goals (first | assumption | with_reducible refine wpAny_bind (L0.at ?_) | with_reducible refine wpAny_bind (L1.at ?_) | with_reducible refine wpAny_bind (L2.at ?_) | wp_step))
 refine codeAny_call_builtin PySem.F.attr_ValueError.ga.plain F.entry_bexc_ga (zep X c x (zgo X c x ?_))
 repeat (any_goals (first | assumption | wp_step))
theorem zhP {Q:Option Value->Shared->Prop} (X:K.In h) (c:XCls K C) (x:XAt h a C) (hq:Q (some (.ref C)) ⟨h,g,d,t+1,os⟩) :
  wpAny (model prog w) A (getAttr? (.ref a) "__class__") Q E ⟨h,g,d,t,os⟩:=by
 unfold getAttr? getAttrBy?
 repeat (any_goals (first | assumption | with_reducible apply zkp X c x | wp_step))
end
theorem cls_at {K:W.Frag} {C:Addr} {T:Value} {r:Bool} (e:W.mroIn K C T=some r):∃ c d cd sl,K.lookup C=some ⟨c,d,.cls cd,sl⟩:=by
 obtain ⟨cd,hc,_⟩:=Option.bind_eq_some_iff.mp e
 unfold W.clsIn at hc
 split at hc
 ·exact ⟨_,_,_,_,by assumption⟩
 ·cases hc
theorem zhp {K:W.Frag} {a C:Addr} (c:XCls K C):W.KitX K (.ref a) (.ref C) (λh=>XAt h a C) where
 ty:=λ_ _ _ x=>x.ty
 it:=λM h X _=>by
  obtain ⟨c',d',cd',sl',ho⟩:=cls_at c.ob
  intro A' Q' E' s' k q
  unfold isType loadHead
  exact wpAny_bind (wpAny_loadPart (k _ _ (X _ _ ho)) (wpAny_pure q))
 ne:=λh tp dd its n sl X htp=>by
  obtain ⟨c',d',cd',sl',ho⟩:=cls_at c.ob
  refine Bool.eq_false_iff.mpr λq=>?_
  have e:C=tp:=Value.ref.inj (beq_iff_eq.mp q)
  subst e
  have z:=(X _ _ ho).symm.trans htp
  cases z
 ca:=λ{prog w A E Q s} X x k=>by
  obtain ⟨h,g,d,t,os⟩:=s
  exact zhP X c x k
def excO (a C:Addr) (dct:Option Addr):HO:=.ext λh=>∃ o vs,h.get? a=some o∧o.cls=.ref C∧o.data=.fields vs∧o.dict=dct
theorem zja {P:Program} {w:World} {H:Hp} {h:Heap} {a C:Addr} {dct:Option Addr} (x:∃ o vs,h.get? a=some o∧o.cls=.ref C∧o.data=.fields vs∧o.dict=dct):zbs P w H h a (excO a C dct):=by
 obtain ⟨o,vs,hx,hc,hd,hdd⟩:=x
 refine ⟨⟨o,vs,hx,hc,hd,hdd⟩,⟨o,hx⟩,λh1 h2 ⟨o',vs',q1,q2,q3,q4⟩ k=>⟨o',vs',k _ q1,q2,q3,q4⟩⟩
section
variable {X:Cx} {K:W.Frag}
theorem zgm (hK:X.K=K):zcJ X (.builtin "isinstance") (λxs H Q=>∃ a C dct c b,(xs=[.ref a,c])∧H a=some (excO a C dct)∧XCls K C∧(∃u,zbM c u∧(∀u',zbM c u'->u'=u)∧W.kitOne K (.ref C) u=some b)∧Q (.bl b) H):=by
 subst hK
 intro pins s σ H xs us Q I r h
 obtain ⟨a,C,dct,c,b,rfl,ha,hc,⟨u,hu,hu2,hk⟩,q⟩:=h
 obtain ⟨v,w',rfl,rx,ry⟩:=zgf r
 cases rx
 rw [hu2 w' ry]
 obtain ⟨⟨o,vs,h1,h2,h3,_⟩,_⟩:=(show zbs X.prog X.w H s.heap a (excO a C dct) from I.hok a _ ha)
 exact W.kia_one (zhp hc) I.kIn ⟨o,vs,h1,h2,h3⟩ hk (λz=>nomatch z) λtk=>⟨.bl b,H,I.tok _,rfl,q⟩
end
end L2
namespace L2
open PySem PySem.Spec PyProof.Rows
section
variable {X:Cx} {pins:List (Addr×Obj)} {σ:St} {H:Hp} {s:Shared}
theorem Inv.locals {h':Heap} {t':Nat} {m':Str->Option Value} {σ':St} (I:Inv X pins σ H s) (hs:Heap.SameBut X.env.locals s.heap h') (hn':h'.Ns X.env.locals m')
  (hl:∀ (j:Nat) (y:Str) (v:V),X.N[j]?=some y->σ'[j]?=some (some v)->Vis X.env.scope y->∃ u,zbM v u∧zlk X.env h' m' y u) (len:σ'.length=X.N.length):Inv X pins σ' H { s with heap:=h',toks:=t' }:=by
 have lt:∀ b o,X.s₀.heap.get? b=some o->b≠X.env.locals:=λb o e=>Nat.ne_of_lt (Nat.lt_of_lt_of_le (Heap.lt_size e) I.ok.above)
 refine ⟨I.ok,I.os,I.bare,⟨λb o e n hb hx=>(hs.2 b (lt b o e)).trans (I.base.keep b o e n hb hx),λb o e n hb hx=>?_,I.base.free,λb o e hx=>?_,I.base.tups,I.base.frzs,I.base.tbls⟩,⟨m',hn',hl⟩,λy c e=>?_,I.free,I.freeC,λp hp=>?_,λb u e=>?_,len⟩
 ·obtain ⟨sl,q⟩:=I.base.slot b o e n hb hx
  exact ⟨sl,(hs.2 b (lt b o e)).trans q⟩
 ·obtain ⟨o',q⟩:=I.base.there b o e hx
  exact ⟨o',(hs.2 b (lt b o e)).trans q⟩
 ·obtain ⟨w',z⟩:=I.cell y c e
  exact ⟨w',z.sameBut hs (I.cne y c e)⟩
 ·obtain ⟨e,n,ne,nf,d⟩:=I.pin p hp
  exact ⟨(hs.2 p.1 ne).trans e,n,ne,nf,d⟩
 ·refine ((I.hok b u e)).stay (λc v hc q=>(hs.2 c ?_).trans q) (λ_ q=>q) λ_ _ q=>q
  intro z
  have z':=I.free
  rw [← z] at z'
  rcases hc with hc | hc
  ·rw [hc,e] at z';cases z'
  ·rw [hc] at z';cases z'
theorem ziW {M:Model} {A:Around} {E:Value->Shared->Prop} {i:Nat} {n:Str} {pos:Pos} {Q:Unit->Shared->Prop} (I:Inv X pins σ H s) (hN:X.N.Nodup) (hi:X.N[i]?=some n) (hloc:X.env.scope.names.lookup n=some .local)
  (h:∀ s',Inv X pins (σ.set i none) H s'->Q () s'):wpAny M A (do bindName X.env n .none;unbindBehindTheSuite X.env n pos) Q E s:=by
 have hcls:(X.env.scope.kind== .class||(X.env.scope.kind== .module && X.env.locals !=X.env.globals))=false:=by rw [I.ok.kind];rfl
 have hk:X.env.kindOf n=some .local:=hloc
 have hiσ:i<σ.length:=by rw [I.len];exact (List.getElem?_eq_some_iff.mp hi).1
 refine wpAny_bind (wpAny_bindName (zcL I hN hi (.inl hloc) (v:=.non) (u:=.none) rfl (λs1 I1=>?_) (.inr hloc)))
 obtain ⟨m,hn,hl⟩:=id I1.loc
 have hm:m n=some .none:=by
  obtain ⟨u,r,q⟩:=hl i n .non hi (List.getElem?_set_self hiσ) (.inl hloc)
  have r:u=Value.none:=r
  subst r
  rcases q with ⟨_,e⟩ | ⟨k,_⟩
  ·exact e
  ·rw [hk] at k;rcases k with k | k<;>cases k
 unfold unbindBehindTheSuite
 refine wpAny_onRaise ?_
 unfold unbindName
 refine wpAny_bind (wpAny_point (wpAny_bind ?_))
 unfold deleteName
 simp only [hk,hcls]
 rw [if_neg (by decide)]
 refine wpAny_bind (wpAny_nsDel_keeps hn λh2 v hn2 hs2=>?_)
 rw [hm]
 simp only [Option.isSome_some,Bool.not_true,Bool.false_eq_true,if_false]
 refine wpAny_pure (wpAny_point (h { s1 with heap:=h2 } (I1.locals (t':=s1.toks) hs2 hn2 (λj y v' e1 e2 e3=>?_) (by simp [I.len]))))
 by_cases hj:i=j
 ·subst hj
  rw [List.getElem?_set_self hiσ] at e2;cases e2
 ·rw [List.getElem?_set_ne hj] at e2
  obtain ⟨u',r',q⟩:=hl j y v' e1 (by rw [List.getElem?_set_ne hj];exact e2) e3
  have hy:y≠n:=λe=>hj (zef hN hi (e ▸ e1))
  refine ⟨u',r',?_⟩
  rcases q with ⟨k,e⟩ | ⟨k,c,e,z⟩
  ·exact .inl ⟨k,by simp [hy,e]⟩
  ·exact .inr ⟨k,c,e,z.sameBut hs2 (I.cne y c e)⟩
theorem Inv.track {e C:Addr} {dct:Option Addr} (I:Inv X pins σ H s) (x:∃ o vs,s.heap.get? e=some o∧o.cls=.ref C∧o.data=.fields vs∧o.dict=dct) (hn:H e=none) (hF:Fz X pins e):Inv X pins σ (upd H e (excO e C dct)) s:=by
 obtain ⟨o,vs,hx,hc,hd,hdd⟩:=id x
 obtain ⟨_,a2,a3,a4,a5⟩:=zci I hx hd hn hF
 refine ⟨I.ok,I.os,I.bare,⟨I.base.keep,I.base.slot,λb o' q n hx=>?_,I.base.there,λb xs q=>?_,λb o' u q=>?_,λb ps q=>?_⟩,I.loc,I.cell,?_,λy c q=>?_,λp hp=>?_,λb u q=>?_,I.len⟩
 ·have hb:b≠e:=λz=>by rw [z,a2] at q;cases q
  rw [zad hb];exact I.base.free b o' q n hx
 ·have q1:=I.base.tups b xs q
  rw [zad (zam q1 hn)];exact q1
 ·have q1:=I.base.frzs b o' u q
  rw [zad (zam q1 hn)];exact q1
 ·obtain ⟨more,q1⟩:=I.base.tbls b ps q
  exact ⟨more,by rw [zad (zam q1 hn)];exact q1⟩
 ·rw [zad (Ne.symm a3)];exact I.free
 ·rw [zad (a4 y c q)];exact I.freeC y c q
 ·obtain ⟨q1,q2,q3,q4,q5⟩:=I.pin p hp
  exact ⟨q1,by rw [zad (a5 p hp)];exact q2,q3,q4,q5⟩
 ·by_cases hb:b=e
  ·subst hb;rw [zak] at q;cases q;exact zja x
  ·rw [zad hb] at q
   exact ((I.hok b u q)).stay (λ_ _ _ z=>z) (λc z=>by rw [zad (zam z hn)];exact z) λc xs z=>by rw [zad (zam z hn)];exact z
abbrev Cx.marked (X:Cx) (e:Addr):Cx:={ X with A:=X.A.mark (some (.ref e)),calm:=false,xe:=λ_ _=>False }
theorem Inv.marked {e:Addr} (I:Inv X pins σ H s):Inv (X.marked e) pins σ H s :=
 ⟨⟨I.ok.mod,I.ok.kind,I.ok.glob,I.ok.blt,I.ok.above,I.ok.inj,I.ok.has,I.ok.cab,(λz=>(nomatch z)),I.ok.frames,I.ok.stk,I.ok.exf,I.ok.bs,I.ok.bsz,I.ok.noex,I.ok.exfs,I.ok.funs,I.ok.frf⟩,I.os,I.bare,I.base,I.loc,I.cell,I.free,I.freeC,I.pin,I.hok,I.len⟩
theorem Inv.unmarked {e:Addr} (I:Inv (X.marked e) pins σ H s) (ok:X.Ok):Inv X pins σ H s :=
 ⟨ok,I.os,I.bare,I.base,I.loc,I.cell,I.free,I.freeC,I.pin,I.hok,I.len⟩
end
section
variable {X:Cx} {K:W.Frag}
theorem zi6 {body:List Stmt} {tb:TSX} {cn n x:Str} {CS:Addr} {i j:Nat} {p1 p2 p3 p4 p5 pos:Pos} (O:Own X) (hK:X.K=K) (hN:X.N.Nodup) (hn:X.N[i]?=some n) (hln:X.env.scope.names.lookup n=some .local) (hx:X.N[j]?=some x) (hlx:Loc X.env.scope x)
  (hfx:X.fn x=true∨X.env.scope.names.lookup x=some .local) (hg:Gl X cn) (hm:X.mg cn=some (.ref CS)) (hb:ze0 X body tb) (hd:(n == ("__debug__" :Str))=false:=by decide) (hcd:(n == ("__classdict__" :Str))=false:=by decide)
  (hdb:(cn == ("__debug__" :Str))=false:=by decide) (hsw:swapsWith (.Name n p3) (some (.Name x p2)) p4.line X.env=pure false:=by rfl) :
  PSX X (.Try body [.ExceptHandler (some (.Name cn p1)) (some n) [.Assign [.Name x p2] (.Name n p3) p4] p5] [] [] pos)
   (λD _ σ H=>tb D (λσ' cls dct H'=>∃C,cls= .ref C∧W.exmOne K (.ref C) (.ref CS)=some true∧∀a,H' a=none->D.nx ((σ'.set j (some (.ref a))).set i none) (upd H' a (excO a C dct))) σ H):=by
 subst hK
 intro pins s σ H D E I h
 refine wpAny_Try_except (wpAny_mono (hb pins s σ H D _ I h) (λf s1 q=>?_) λev s1 q=>?_)
 ·cases f with
  | next=>exact wpAny_execs_nil q
  | ret v=>exact q
  | brk=>exact q
  | cont=>exact q
 ·obtain ⟨σ',e,cls,dct,H',rfl,I1,x1,C,rfl,hC,q⟩:=q
  refine zeh O I1 x1 rfl λs2 I2 x2=>?_
  refine zcq (fr:=none) O I2 x2 λs3 I3 x3=>?_
  obtain ⟨oe,vs,a0,y1,y2,y3,y4,y5,y6,y7,y8,_⟩:=id x3
  have xa:XAt s3.heap e C:=⟨oe,vs,y1,y2,y4⟩
  refine wpAny_handleBy_cons (codeAny_handlers_test ?_) (by intro z;cases z)
  refine zcH (X:=X.marked e) I3.marked hg hm ?_ hdb
  refine (W.exm_one I3.kIn xa.ty hC).at ?_
  refine codeAny_handlers_suite_as ?_
  refine zcq (fr:=none) O I3 x3 λs4 I4 x4=>?_
  obtain ⟨oe,vs,a0,y1,y2,y3,y4,y5,y6,y7,y8,_⟩:=id x4
  have I5:=I4.track ⟨oe,vs,y1,y2,y4,y3⟩ y7 y8
  refine zcL I5 hN hn (.inl hln) (v:=.ref e) rfl (λs6 I6=>?_) (.inr hln)
  have hset:PS (X.marked e) (.Assign [.Name x p2] (.Name n p3) p4) (zig (ze8 i) (zcf j)):=zaX hN hx hlx (zfo hn (.inl hln) hd hcd) hsw hfx
  have hiσ:i<σ'.length:=by rw [I1.len];exact ((List.getElem?_eq_some_iff.mp hn)).1
  refine wpAny_mono ((zg8 hset) pins s6 _ _ { nx:=λσ'' H''=>σ''=(σ'.set i (some (.ref e))).set j (some (.ref e))∧H''=upd H' e (excO e C dct),rt:=λ_ _=>False } I6.marked ⟨.ref e,List.getElem?_set_self hiσ,rfl,rfl⟩) (λf s7 q7=>?_) λ_ _ z=>z.elim
  cases f with
  | ret v=>obtain ⟨_,_,_,_,_,z⟩:=q7;exact z.elim
  | brk=>obtain ⟨_,_,_,z⟩:=q7;exact z.elim
  | cont=>obtain ⟨_,_,_,z⟩:=q7;exact z.elim
  | next =>
   obtain ⟨σ7,H7,I7,rfl,rfl⟩:=q7
   show wpAny _ _ _ _ _ s7
   refine ziW (I7.unmarked I.ok) hN hn hln λs8 I8=>?_
   have eσ:((σ'.set i (some (V.ref e))).set j (some (.ref e))).set i none=(σ'.set j (some (.ref e))).set i none:=by
    by_cases hij:i=j
    ·subst hij;simp
    ·refine List.ext_getElem? λk=>?_
     by_cases h1:i=k
     ·subst h1
      rw [List.getElem?_set_self (by simpa using hiσ),List.getElem?_set_self (by simpa using hiσ)]
     ·rw [List.getElem?_set_ne h1,List.getElem?_set_ne h1]
      by_cases h2:j=k
      ·subst h2
       by_cases h3:j<σ'.length
       ·rw [List.getElem?_set_self (by simpa using h3),List.getElem?_set_self h3]
       ·rw [List.getElem?_eq_none (by simp;omega),List.getElem?_eq_none (by simp;omega)]
      ·rw [List.getElem?_set_ne h2,List.getElem?_set_ne h2,List.getElem?_set_ne h1]
   rw [eσ] at I8
   exact ⟨_,_,I8,q e y7⟩
end
end L2
namespace L2
open PySem PySem.Spec PyProof.Rows
abbrev atE (E:XS) (t:TSX):TS:=λD σ H=>t D E σ H
abbrev zkl (t:TS):TSX:=λD _ σ H=>t D σ H
abbrev zln (t u:TSX):TSX:=λD E σ H=>tSeq (atE E t) (atE E u) D σ H
abbrev ifX (c:TT) (t u:TSX):TSX:=λD E σ H=>zkF c (atE E t) (atE E u) D σ H
def zh4 (ta:TA) (C:Addr) (E:XS):TS:=λ_ σ H=>ta σ H λvs H1=>vs.length≤sizeLine∧E σ (.ref C) none H1
def zjt (te:TEX) (i:Nat) (E:XS):TS:=λD σ H=>te σ H (λv H1=>D.nx (σ.set i (some v)) H1) (E σ)
def zju (sp:Sp) (t:TA):TEX:=λσ H Q E=>t σ H λvs H1=>sp (vs++[]) H1 Q E
def zkV (K:W.Frag) (CS:Addr) (i j:Nat) (tb:TSX):TS:=λD σ H=>tb D (λσ' cls dct H'=>∃C,cls= .ref C∧W.exmOne K (.ref C) (.ref CS)=some true∧∀a,H' a=none->D.nx ((σ'.set j (some (.ref a))).set i none) (upd H' a (excO a C dct))) σ H
section
variable {X:Cx} {K:W.Frag} {e:Expr} {st:Stmt} {rest:List Stmt} {pos:Pos}
theorem zbI:ze0 X [] (zkl zgB):=zhr
theorem zay {t u:TSX} (h1:PSX X st t) (h2:ze0 X rest u):ze0 X (st :: rest) (zln t u):=zgV (t:=t) (u:=u) h1 h2
theorem zbD {t:TS} (h:PS X.nox st t):PSX X st (zkl t):=zhw h
theorem ze3 {c:Expr} {a b:List Stmt} {tc:TT} {t u:TSX} (hc:PT X.nox c tc) (ha:ze0 X a t) (hb:ze0 X b u):PSX X (.If c a b pos) (ifX tc t u):=zjz (t:=t) (u:=u) hc ha hb
theorem zjF {i:Nat} {x:Str} {te:TEX} {pos':Pos} (hN:X.N.Nodup) (hi:X.N[i]?=some x) (hx:Loc X.env.scope x) (he:PEX X e te) (hs:swapsWith e (some (.Name x pos')) pos.line X.env=pure false:=by rfl)
  (hf:X.fn x=true∨X.env.scope.names.lookup x=some .local:=by first | exact .inl rfl | exact .inr rfl | assumption):PSX X (.Assign [.Name x pos'] e pos) (λD E σ H=>zjt te i E D σ H):=zis hN hi hx he hs hf
theorem zkU {k:Nat} {ps:List Str} {sp:Sp} {x:Str} {p:Pos} {es:List Expr} {t:TA} (O:Own X) (F:Callee X.prog X.w X.K X.mg X.base (CXE X.prog X.w) k x ps sp) (hr:Room k X.A) (hg:Gl X x)
  (ha:PA X.nox (e::es) t) (hdb:(x==("__debug__" :Str))=false:=by decide) (he:starEach (e::es) X.env=(false,eval e X.env) :: starEach es X.env:=by rfl) (hpl:((backTo pos (starEach es X.env))).any (·.1)=false:=by rfl) :
  PEX X (.Call (.Name x p) (e::es) [] pos) (zju sp t):=zk6 O F hr hg ha hdb he hpl
theorem zfq {C:Addr} {B newId initId:String} {bmB:List Value} {x:Str} {es:List Expr} {t:TA} {np cpos:Pos} (O:Own X) (hc:X.calm=true) (hg:Gl X x) (hm:X.mg x=some (.ref C)) (hK:W.excIn X.K C bmB newId=true) (FB:ExcBaseFacts B newId initId bmB)
  (ha:PA X.nox (e::es) t) (hdb:(x==("__debug__" :Str))=false:=by decide) (he:starEach (e::es) X.env=(false,eval e X.env) :: starEach es X.env:=by rfl) (hpl:((backTo cpos (starEach es X.env))).any (·.1)=false:=by rfl) :
  PSX X (.Raise (some (.Call (.Name x np) (e::es) [] cpos)) none pos) (λD E σ H=>zh4 t C E D σ H):=zgr O hc hg hm hK FB ha hdb he hpl
theorem zjV {body:List Stmt} {tb:TSX} {cn n x:Str} {CS:Addr} {i j:Nat} {p1 p2 p3 p4 p5:Pos} (O:Own X) (hK:X.K=K) (hN:X.N.Nodup) (hn:X.N[i]?=some n) (hln:X.env.scope.names.lookup n=some .local) (hx:X.N[j]?=some x) (hlx:Loc X.env.scope x)
  (hfx:X.fn x=true∨X.env.scope.names.lookup x=some .local) (hg:Gl X cn) (hm:X.mg cn=some (.ref CS)) (hb:ze0 X body tb) (hd:(n == ("__debug__" :Str))=false:=by decide) (hcd:(n == ("__classdict__" :Str))=false:=by decide)
  (hdb:(cn == ("__debug__" :Str))=false:=by decide) (hsw:swapsWith (.Name n p3) (some (.Name x p2)) p4.line X.env=pure false:=by rfl) :
  PSX X (.Try body [.ExceptHandler (some (.Name cn p1)) (some n) [.Assign [.Name x p2] (.Name n p3) p4] p5] [] [] pos) (λD _ σ H=>zkV K CS i j tb D σ H):=zi6 O hK hN hn hln hx hlx hfx hg hm hb hd hcd hdb hsw
end
def dE (C:Addr) (fs:List (Str×V)):Ds:=⟨λH v=>∃ a dct,v=.ref a∧H a=some (excO a C dct)∧(fs=[]∨∃ d,dct=some d∧H d=some (.xd fs)),λe ⟨a,dct,h1,h2,h3⟩=>⟨a,dct,h1,e _ _ h2,h3.imp id λ⟨d,q1,q2⟩=>⟨d,q1,e _ _ q2⟩⟩⟩
class XF (ε:Type) where
 fs:ε->List (Str×V)
def xφ {ε:Type} [XF ε] (e:ε):Hp->Option Addr->Prop:=λF dct=>XF.fs e=[]∨∃ d,dct=some d∧F d=some (.xd (XF.fs e))
theorem NN.exc {ε:Type} [XF ε] {xc:ε->Addr}:NN (λe=>dE (xc e) (XF.fs e)):=λ_ _ _ ⟨_,_,h,_⟩=>by rw [h];simp
def zbG {ε:Type} (f:ε->Bool) (x:Option ε):Bool:=match x with
 | none=>false
 | some e=>f e
def zfY (K:W.Frag):List V->Hp->VK->Prop:=λxs H Q=>zla K xs H Q∨∃ a C dct c b,(xs=[.ref a,c])∧H a=some (excO a C dct)∧XCls K C∧(∃u,zbM c u∧(∀u',zbM c u'->u'=u)∧W.kitOne K (.ref C) u=some b)∧Q (.bl b) H
theorem zaq {X:Cx} {K:W.Frag} (hK:X.K=K):zcJ X (.builtin "isinstance") (zfY K):=λpins s σ H xs us Q I r h=>by
 rcases h with h | h
 ·exact zfT hK pins s σ H xs us Q I r h
 ·exact zgm hK pins s σ H xs us Q I r h
section
variable {E:XS} {Γ Δ Γx:Ctx} {m:Bool} {K:W.Frag} {α β ε:Type} [XF ε] {u:TS} {o:Oc} {ds:List Ds}
theorem za4 {xc:ε->Addr} {x:Option ε} {ta:TE} {C:Addr} {f:ε->Bool} (h:Ev Γ ta false (dOpt (λe=>dE (xc e) (XF.fs e)) x)) (h0:W.kitOne K (.type "NoneType") (.ref C)=some false) (h1:∀ e,XCls K (xc e)∧W.kitOne K (.ref (xc e)) (.ref C)=some (f e)) :
  Ev Γ (tCB (zfY K) (zbO ta (zbO (tC (.ref C)) zdX))) m (dB (zbG f x)):=λF0 Hb F H σ own Q a k =>
 h F0 Hb F H σ own _ a λv F1 H1 g1 q1=>by
  cases x with
  | none =>
   have q1:v=.non:=q1
   subst q1
   exact .inl ⟨.non,.type "NoneType",false,.inr ⟨C,rfl,h0⟩,.non,k _ F1 H1 g1 rfl⟩
  | some e =>
   obtain ⟨p,dct,rfl,hp,_⟩:=q1
   exact .inr ⟨p,xc e,dct,.ref C,f e,rfl,(zaM.trans g1.fh) _ _ hp,(h1 e).1,⟨.ref C,rfl,λu' z=>z,(h1 e).2⟩,k _ F1 H1 g1 rfl⟩
theorem zht {xc:ε->Addr} {x:Option ε} {ta:TE} {T:String} {f:ε->Bool} (h:Ev Γ ta false (dOpt (λe=>dE (xc e) (XF.fs e)) x)) (h0:W.kitOne K (.type "NoneType") (.type T)=some false) (h1:∀ e,XCls K (xc e)∧W.kitOne K (.ref (xc e)) (.type T)=some (f e)) :
  Ev Γ (tCB (zfY K) (zbO ta (zbO (tC (.ty T)) zdX))) m (dB (zbG f x)):=λF0 Hb F H σ own Q a k =>
 h F0 Hb F H σ own _ a λv F1 H1 g1 q1=>by
  cases x with
  | none =>
   have q1:v=.non:=q1
   subst q1
   exact .inl ⟨.non,.type "NoneType",false,.inl ⟨T,rfl,h0⟩,.non,k _ F1 H1 g1 rfl⟩
  | some e =>
   obtain ⟨p,dct,rfl,hp,_⟩:=q1
   exact .inr ⟨p,xc e,dct,.ty T,f e,rfl,(zaM.trans g1.fh) _ _ hp,(h1 e).1,⟨.type T,rfl,λu' z=>z,(h1 e).2⟩,k _ F1 H1 g1 rfl⟩
theorem zf8 {v:V} {t:Value} {ta:TE} {T:String} {b:Bool} (ty:∀ H,TyOf K H v t) (h:Ev Γ ta false (dV v)) (hk:W.kitOne K t (.type T)=some b):Ev Γ (tCB (zfY K) (zbO ta (zbO (tC (.ty T)) zdX))) m (dB b):=λF0 Hb F H σ own Q a k =>
 h F0 Hb F H σ own _ a λv' F1 H1 g1 q1=>by
  cases q1
  exact .inl ⟨v,t,b,.inl ⟨T,rfl,hk⟩,ty H1,k _ F1 H1 g1 rfl⟩
theorem zgp {ta:TE} {T:String} {b:Bool} (h:Ev Γ ta false (dL ds)) (hk:W.kitOne K (.type "list") (.type T)=some b):Ev Γ (tCB (zfY K) (zbO ta (zbO (tC (.ty T)) zdX))) m (dB b):=λF0 Hb F H σ own Q a k =>
 h F0 Hb F H σ own _ a λv' F1 H1 g1 ⟨p,vs,e1,e2,e3⟩=>by
  subst e1
  exact .inl ⟨.ref p,_,b,.inl ⟨T,rfl,hk⟩,.lst (g1.fh _ _ e2),k _ F1 H1 g1 rfl⟩
def foX (xc:ε->Addr) (Γx:Ctx) (fo:β->Oc):Except ε β->Oc
 | .ok v=>fo v
 | .error e=>.ex (xc e) (xφ e) Γx
def zjI (r:Except ε α) (k:α->Except ε β):Except ε β:=match r with
 | .ok v=>k v
 | .error e=>.error e
theorem zeu {C:Addr} {ta:TA} (h:EvA Γ ta m ds) (hz:ds.length≤sizeLine) (w:Wk Γ Γx) {φ:Hp->Option Addr->Prop} (hφ:∀ F,φ F none:=by exact λ_=>.inl rfl):Run E Γ (tSeq (zh4 ta C E) u) (.ex C φ Γx):=λF0 Hb F H σ own D a q =>
 h F0 Hb F H σ own _ a λvs F1 H1 g1 q1=>⟨by rw [Paired.length q1];exact hz,q none F1 H1 σ own (((a.grow g1)).wk w) (hφ F1)⟩
def zkN (xc:ε->Addr) (m:Bool) (d:α->Ds):Except ε α->Rs
 | .ok v=>.va m (d v)
 | .error e=>.ex (xc e) (xφ e)
theorem zi9 {mx:Bool} {CS:Addr} {i j:Nat} {tb:TSX} {xc:ε->Addr} {r:Except ε α} (Gok:α->Ctx) (Gerr:Ctx) (Gj:Except ε α->Ctx) (hb:∀ E',Run E' Γ (atE E' tb) (foX xc Gerr (λv=> .nx (Gok v)) r))
  (w1:∀ v,r=.ok v->Wk (Gok v) (Gj r)) (w2:∀ e,r=.error e->W.exmOne K (.ref (xc e)) (.ref CS)=some true∧Wk (((Gerr.set j (.va mx (dE (xc e) (XF.fs e))))).set i .no) (Gj r)) (k:Run E (Gj r) u o) (hmx:mx=true->∀ e:ε,XF.fs e=[]:=by exact λ_ _=>rfl) :
  Run E Γ (tSeq (zkV K CS i j tb) u) o:=λF0 Hb F H σ own D a q=>by
 refine hb _ F0 Hb F H σ own { D with nx:=u D } a ?_
 cases r with
 | ok v=>exact λF1 H1 σ1 own1 a1=>k F0 Hb F1 H1 σ1 own1 D (a1.wk (w1 v rfl)) q
 | error e =>
  refine λdct F1 H1 σ1 own1 a1 ph=>⟨xc e,rfl,(w2 e rfl).1,λx hx=>?_⟩
  obtain ⟨h1,h2,h3⟩:=a1.free (Grow.refl a1.fh) hx
  have g2:Grow F1 H1 (upd F1 x (excO x (xc e) dct)) (upd H1 x (excO x (xc e) dct)):=(Grow.refl a1.fh).new hx
  have pd:XF.fs e=[]∨∃ d,dct=some d∧zcK mx (upd F1 x (excO x (xc e) dct)) Hb d=some (.xd (XF.fs e)):=by
   cases mx with
   | true=>exact .inl (hmx rfl e)
   | false=>exact ph.imp id λ⟨d,q1,q2⟩=>⟨d,q1,g2.f _ _ q2⟩
  have a2:=(a1.grow g2).set j (m:=mx) (d:=dE (xc e) (XF.fs e)) (v:=.ref x) ⟨x,dct,rfl,zcP h3 zak,pd⟩
  refine k F0 Hb (upd F1 x (excO x (xc e) dct)) _ _ own1 D (At.wk ?_ (w2 e rfl).2) q
  exact ⟨a2.g,a2.inj,a2.liv,λl s es=>by
   by_cases z:i=l
   ·subst z
    have hi:i<((Gerr.set j (.va mx (dE (xc e) (XF.fs e))))).length:=by simpa using (List.getElem?_eq_some_iff.mp es).1
    rw [List.getElem?_set_self hi] at es
    cases es;trivial
   ·rw [List.getElem?_set_ne z] at es
    have:=a2.sl l s es
    rw [List.getElem?_set_ne z]
    exact this,by simp [a1.len]⟩
end
section
variable {E:XS} {Γ:Ctx} {K:W.Frag} {α β ε:Type} [XF ε] {u:TS}
def okO (r:Except ε α):Option α:=match r with
 | .ok v=>some v
 | .error _=>none
def zd3 (r:Except ε α):Option ε:=match r with
 | .ok _=>none
 | .error e=>some e
theorem zhW {mx:Bool} {CS:Addr} {i j:Nat} {tb:TSX} {xc:ε->Addr} {r:Except ε α} (Gok:α->Ctx) (Gerr:Ctx) (Gj:Except ε α->Ctx) (fo:β->Oc) {kk:Except ε α->β} (hb:∀ E',Run E' Γ (atE E' tb) (foX xc Gerr (λv=> .nx (Gok v)) r))
  (w1:∀ v,Wk (Gok v) (Gj (.ok v))) (w2:∀ e,W.exmOne K (.ref (xc e)) (.ref CS)=some true∧Wk (((Gerr.set j (.va mx (dE (xc e) (XF.fs e))))).set i .no) (Gj (.error e))) (k:∀ y,y=r->Run E (Gj y) u (fo (kk y))) (hmx:mx=true->∀ e:ε,XF.fs e=[]:=by exact λ_ _=>rfl) :
  Run E Γ (tSeq (zkV K CS i j tb) u) (fo (Let r kk)) :=
 zi9 Gok Gerr Gj hb (λv e=>by rw [e];exact w1 v) (λe' e=>by rw [e];exact w2 e') (k r rfl) hmx
theorem zg9 {xc:ε->Addr} {m:Bool} {d:α->Ds} {n:Nat} {r:Except ε α}:zj4 n (zkN xc m d r)=foX xc (List.replicate n .no) (λv=>.rt m (d v)) r:=by cases r<;>rfl
end
theorem exm_of {K:W.Frag} {C CS:Addr} (h1:W.subIn K (.ref CS) (.type "BaseException")=some true) (h2:W.mroIn K CS (.type "object")=some true) (h3:W.typeIn K (.ref CS)=some (.type "type")) (h4:W.subIn K (.ref C) (.ref CS)=some true):W.exmOne K (.ref C) (.ref CS)=some true:=by
 unfold W.exmOne
 rw [h1,if_pos (by simp)]
 unfold W.kitCls
 obtain ⟨cd,hc,_⟩:=Option.bind_eq_some_iff.mp h2
 dsimp only
 rw [hc,h3,if_pos (by simp),h4]
section
variable {P:Program} {w:World} {K:W.Frag} {mg:Str->Option Value} {base:Heap} {x qual:Str} {st:Stmt} {f:Addr} {fd:FuncData} {N ps:List Str} {k:Nat}
theorem Fun.okVX {ι:Type} {args:ι->List Ds} {pre:ι->Prop} {res:ι->Rs} (F:Fun K x qual st f fd) (S:FnScope N ps (zah st)) (hl:∀ i,(args i).length=ps.length)
  (hbody:∀ (cdv:Value) (A:Around) (outer:List Env) (s:Shared) (H:Hp) (E:XK) (i:ι),Room k (A.deeper (envOfC qual (zah st) s.heap.objs.size f cdv))->pre i->Own (zfI (CXE P w) P w K mg base N qual (zah st) f cdv A outer s H E) →
   ∃ t,ze0 (zfI (CXE P w) P w K mg base N qual (zah st) f cdv A outer s H E) (zbK st) t∧(Run (λ_=>E) (zcU N (args i)) (atE (λ_=>E) t) (zj4 N.length (res i))∨∃ m Δ,(∀ C φ,res i≠.ex C φ)∧res i=.va m dN∧Run (λ_=>E) (zcU N (args i)) (atE (λ_=>E) t) (.nx Δ))) :
  FnOk P w K mg base (CXE P w) (k+1) f fd ps (Spv args pre res):=by
 refine F.okX S (λvs H Q E ⟨i,F',_,hv,_⟩=>by rw [Paired.length hv];exact hl i) λcdv A outer s H vs Q E hr ⟨i,F',hF,hv,hp,hq⟩=>?_
 obtain ⟨t,h1,h2⟩:=hbody cdv A outer s H E i hr hp ⟨rfl,rfl,rfl⟩
 have hq':zhC H F' Q E (res i):=by
  cases e:res i with
  | va m d=>rw [e] at hq;exact hq
  | ow m ds=>rw [e] at hq;exact hq
  | ex C φ=>rw [e] at hq;exact hq
 refine ⟨t,h1,?_⟩
 rcases h2 with h2 | ⟨m,Δ,_,e,h2⟩
 ·exact zgY (t:=atE (λ_=>E) t) hF hv hq' h2
 ·rw [e] at hq'
  exact zfx (t:=atE (λ_=>E) t) hF hv hq' h2
end
theorem ev_isiO {Γ:Ctx} {m:Bool} {K:W.Frag} {ta:TE} {C:Addr} {fs:List (Str×Ds)} (h:Ev Γ ta false (dO C fs)) (hk:Cls K C∧W.findIn K (.ref C) "__class__"=some (some (.builtin "object.__class__"))∧W.specialIn K (.builtin "object.__class__") "__get__"=some (some (.builtin "getset_descriptor.__get__")) ∧
  W.takesIn K (.builtin "object.__class__")=some true∧W.mroIn K C (.type "object")=some true∧W.kitOne K (.ref C) (.ref C)=some true):Ev Γ (tCB (zfY K) (zbO ta (zbO (tC (.ref C)) zdX))) m (dB true):=λF0 Hb F H σ own Q a k =>
 h F0 Hb F H σ own _ a λv' F1 H1 g1 ⟨p,dx,vs,e1,e2,e3,e4⟩=>by
  subst e1
  exact .inl ⟨.ref p,_,true,.inr ⟨C,rfl,hk.2.2.2.2.2⟩,.ins (g1.fh _ _ e2) hk.1 hk.2.1 hk.2.2.1 hk.2.2.2.1 hk.2.2.2.2.1,k _ F1 H1 g1 rfl⟩
end L2
namespace L2
open PySem PySem.Spec PyProof.Rows
def EvN (Γ:Ctx) (t:TE) (d:Ds):Prop:=∀ (F0 Hb F H:Hp) (σ:St) (own:Nat->Option Addr) (Q:VK),At F0 Hb F H σ own Γ->(∀ v F' H',Grow F H F' H'->d.pr (off F' H) v->Q v H')->t σ H Q
def zle:Slot->Slot
 | .va _ d=>.va false d
 | _=>.no
def zkO (Γ:Ctx):Ctx:=Γ.map zle
theorem At.now {F0 Hb F H:Hp} {σ:St} {own:Nat->Option Addr} {Γ:Ctx} (a:At F0 Hb F H σ own Γ):At F H F H σ (λ_=>none) (zkO Γ):=by
 refine ⟨Grow.refl a.fh,λ_ _ _ h=>(nomatch h),λ_ _ h=>(nomatch h),λi s e=>?_,by unfold zkO;rw [List.length_map];exact a.len⟩
 unfold zkO at e
 rw [List.getElem?_map] at e
 cases q:Γ[i]? with
 | none=>rw [q] at e;cases e
 | some r =>
  rw [q] at e
  have e':zle r=s:=Option.some.inj e
  subst e'
  have h:=a.sl i r q
  cases r with
  | va m d =>
   obtain ⟨x,h1,h2⟩:=h
   exact ⟨x,h1,d.up zaM h2⟩
  | no=>trivial
  | ow m ds=>trivial
  | ob m C p dx fs=>trivial
  | ol p ds=>trivial
  | tl d=>trivial
theorem zh3 {Γ:Ctx} {t:TE} {d:Ds} (h:Ev (zkO Γ) t true d):EvN Γ t d:=λF0 Hb F H σ own Q a k=>h F H F H σ _ Q a.now λv F' H' g q=>k v F' H' g q
theorem At.setTl {F0 Hb F H F' H':Hp} {σ:St} {own:Nat->Option Addr} {Γ:Ctx} (a:At F0 Hb F H σ own Γ) (g:Grow F H F' H') (i:Nat) {d:Ds} {v:V} (h:d.pr (off F' H) v):At F0 Hb F H' (σ.set i (some v)) own (Γ.set i (.tl d)):=by
 have gF:Grow F H F H':=⟨Same.refl _,a.fh.trans g.h,g.h,λ_ _ z=>z⟩
 have a':=a.grow gF
 refine ⟨a'.g,a'.inj,a'.liv,λj s e=>?_,by simp [a.len]⟩
 by_cases z:i=j
 ·subst z
  have hi:i<Γ.length:=by simpa using ((List.getElem?_eq_some_iff.mp e)).1
  rw [List.getElem?_set_self hi] at e
  cases e
  rw [zb7 (by rw [a.len];exact hi)]
  refine ⟨v,off F' H,rfl,zgz.trans g.fh,λb o q=>?_,λj p q=>?_,h⟩
  ·have hb:=(zbz.mp q).1
   exact ⟨a.fh.free hb,a.g.h.free hb⟩
  ·have:=a.liv j p q
   cases w:off F' H p with
   | none=>rfl
   | some o=>exact absurd (zbz.mp w).1 this
 ·rw [List.getElem?_set_ne z] at e
  rw [zcx z]
  exact a'.sl j s e
section
variable {E:XS} {Γ:Ctx} {te:TE} {u:TS} {o:Oc} {d d1 d2:Ds} {K:W.Frag} {i j:Nat}
theorem zhS (h:EvN Γ te d) (k:Run E (Γ.set i (.tl d)) u o):Run E Γ (tSeq (zig te (zcf i)) u) o:=λF0 Hb F H σ own D a q =>
 h F0 Hb F H σ own _ a λv F' H' g p=>k F0 Hb F H' _ own D (a.setTl g i p) q
theorem zfD {α β:Type} {x:α} (f:α->Ds) (fo:β->Oc) {kk:α->β} (h:EvN Γ te (f x)) (k:∀ y,y=x->Run E (Γ.set i (.tl (f y))) u (fo (kk y))):Run E Γ (tSeq (zig te (zcf i)) u) (fo (Let x kk)):=zhS h (k x rfl)
end
def shS:Slot->Slot
 | .tl d=>.va true d
 | s=>s
def shC (Γ:Ctx):Ctx:=Γ.map shS
def zfc (Γ:Ctx):Bool:=Γ.all λs=>match s with | .ob _ _ _ _ _=>false | _=>true
open Classical in
noncomputable def wide (F Hb H:Hp) (own:Nat->Option Addr):Hp:=λa=>match F a with
 | some o=>some o
 | none=>if Hb a=none∧∀ j,own j≠some a then H a else none
theorem zfu {F Hb H:Hp} {own:Nat->Option Addr}:Same F (wide F Hb H own):=λa o q=>by unfold wide;rw [q]
theorem zka {F Hb H:Hp} {own:Nat->Option Addr} (e:Same F H):Same (wide F Hb H own) H:=λa o q=>by
 unfold wide at q
 cases z:F a with
 | some o'=>rw [z] at q;cases q;exact e _ _ z
 | none =>
  rw [z] at q
  dsimp only at q
  split at q
  ·exact q
  ·cases q
theorem At.wide {F0 Hb F H:Hp} {σ:St} {own:Nat->Option Addr} {Γ:Ctx} (a:At F0 Hb F H σ own Γ) (hno:zfc Γ=true):At F0 Hb (wide F Hb H own) H σ own (shC Γ):=by
 refine ⟨⟨a.g.f.trans zfu,zka a.fh,a.g.h,λb h1 h2=>?_⟩,a.inj,a.liv,λi s e=>?_,by unfold shC;rw [List.length_map];exact a.len⟩
 ·unfold L2.wide
  rw [a.g.no b h1 h2]
  dsimp only
  rw [if_neg (λz=>h1 z.1)]
 ·unfold shC at e
  rw [List.getElem?_map] at e
  cases q:Γ[i]? with
  | none=>rw [q] at e;cases e
  | some r =>
   rw [q] at e
   have e':shS r=s:=Option.some.inj e
   subst e'
   have h:=a.sl i r q
   cases r with
   | va m d =>
    obtain ⟨x,h1,h2⟩:=h
    exact ⟨x,h1,d.up (zaS zfu) h2⟩
   | no=>trivial
   | ow m ds =>
    obtain ⟨p,vs,h1,h2,h3,h4,h5,h6⟩:=h
    refine ⟨p,vs,h1,h2,?_,h4,h5,zbU (ds:=[]) (zaS zfu) h6⟩
    unfold L2.wide
    rw [h3]
    dsimp only
    rw [if_neg (λz=>z.2 i h2)]
   | ol p ds =>
    obtain ⟨vs,h1,h2,h3,h4,h5,h6⟩:=h
    refine ⟨vs,h1,h2,?_,h4,h5,zbU (ds:=[]) zfu h6⟩
    unfold L2.wide
    rw [h3]
    dsimp only
    rw [if_neg (λz=>z.2 i h2)]
   | ob m C p dx fs =>
    have:=List.all_eq_true.mp hno _ (List.mem_of_getElem? q)
    cases this
   | tl d =>
    obtain ⟨x,R,h1,h2,h3,h4,h5⟩:=h
    refine ⟨x,h1,d.up (λb o w=>?_) h5⟩
    refine zbz.mpr ⟨(h3 b o w).2,?_⟩
    unfold L2.wide
    rw [(h3 b o w).1]
    dsimp only
    rw [if_pos ⟨(h3 b o w).2,λj z=>by rw [h4 j b z] at w;cases w⟩]
    exact h2 b o w
section
variable {E:XS} {Γ:Ctx} {t:TE} {d:Ds} {m n:Bool} {u:TS} {o:Oc}
theorem Grow.only {F H H':Hp} (e:Same F H) (g:Same H H'):Grow F H F H':=⟨Same.refl _,e.trans g,g,λ_ _ z=>z⟩
theorem EvT.borrow {t:TT} {b:Bool} (hno:zfc Γ=true) (h:EvT (shC Γ) t b):EvT Γ t b:=λF0 Hb F H σ own Q a k =>
 h F0 Hb _ H σ own Q (a.wide hno) λF' H' g=>k F H' (Grow.only a.fh g.h)
theorem zfU {t:TS} (hno:zfc Γ=true) (k:Run E (shC Γ) t o):Run E Γ t o:=λF0 Hb F H σ own D a q=>k F0 Hb _ H σ own D (a.wide hno) q
def unS:Slot->Slot
 | .tl _=>.no
 | s=>s
def unC (Γ:Ctx):Ctx:=Γ.map unS
theorem At.spoil {F0 Hb F H:Hp} {σ:St} {own:Nat->Option Addr} (a:At F0 Hb F H σ own Γ) (hno:zfc Γ=true) {p:Addr} (w:HO) (h1:F p=none) (h2:Hb p=none) (h3:∀ j,own j≠some p):At F0 Hb F (upd H p w) σ own (unC Γ):=by
 refine ⟨a.g.setH h1 h2,a.inj,λj q e=>?_,λi s e=>?_,by unfold unC;rw [List.length_map];exact a.len⟩
 ·have:q≠p:=λz=>h3 j (z ▸ e)
  rw [zad this];exact a.liv j q e
 ·unfold unC at e
  rw [List.getElem?_map] at e
  cases q:Γ[i]? with
  | none=>rw [q] at e;cases e
  | some r =>
   rw [q] at e
   have e':unS r=s:=Option.some.inj e
   subst e'
   have h:=a.sl i r q
   cases r with
   | va m d=>exact h
   | no=>trivial
   | ow m ds =>
    obtain ⟨x,vs,q1,q2,q3,q4,q5,q6⟩:=h
    have:x≠p:=λz=>h3 i (z ▸ q2)
    exact ⟨x,vs,q1,q2,q3,q4,by rw [zad this];exact q5,q6⟩
   | ol x ds =>
    obtain ⟨vs,q1,q2,q3,q4,q5,q6⟩:=h
    have:x≠p:=λz=>h3 i (z ▸ q2)
    exact ⟨vs,q1,q2,q3,q4,by rw [zad this];exact q5,q6⟩
   | ob m C p dx fs =>
    have:=List.all_eq_true.mp hno _ (List.mem_of_getElem? q)
    cases this
   | tl d=>trivial
def EvW (Γ:Ctx) (t:TE) (n:Nat):Prop:=∀ (F0 Hb F H:Hp) (σ:St) (own:Nat->Option Addr) (Q:VK),At F0 Hb F H σ own Γ →
 (∀ p vs H',Same H H'->F p=none->Hb p=none->(∀ j,own j≠some p)->H' p=some (.lst vs)->vs.length=n->Q (.ref p) H')->t σ H Q
theorem ziX {i:Nat} {ds:List Ds} (e:Γ[i]?=some (.tl (dL ds))):EvW Γ (ze8 i) ds.length:=λF0 Hb F H σ own Q a k=>by
 obtain ⟨x,R,h1,h2,h3,h4,p,vs,rfl,h6,h7⟩:=a.sl i _ e
 have hi:i<σ.length:=by rw [a.len];exact ((List.getElem?_eq_some_iff.mp e)).1
 rw [List.getElem?_eq_getElem hi] at h1
 have e':σ[i]=some (.ref p):=h1
 exact ⟨_,by rw [List.getElem?_eq_getElem hi,e'],k p vs H (Same.refl _) (h3 p _ h6).1 (h3 p _ h6).2 (λj z=>by rw [h4 j p z] at h6;cases h6) (h2 _ _ h6) (Paired.length h7)⟩
end
theorem ev_some {Γ:Ctx} {t:TE} {m:Bool} {α:Type} [Inhabited α] {f:α->Ds} {x:Option α} (h:Ev Γ t m (dOpt f x)) (hs:x.isSome=true):Ev Γ t m (f (x.getD default)):=by
 cases x with
 | none=>cases hs
 | some v=>exact h
def gS {α:Type} [Inhabited α] (x:Option α):α:=x.getD default
section
variable {E:XS} {Γ:Ctx} {te:TE} {u:TS} {K:W.Frag} {i j:Nat} {α β:Type} {f:α->Ds}
theorem zhD {xs:List α} (e:Γ[i]?=some (.tl (dL (xs.map f)))):EvW Γ (ze8 i) xs.length:=by
 have:=ziX e
 rwa [List.length_map] at this
end
section
variable {X:Cx} {K:W.Frag}
end
end L2
namespace Lat
section
variable {A B:Vc->Prop} {u v a:Vc}
end
end Lat
namespace L2
open PySem PySem.Spec PyProof.Rows
section
variable {E:XS} {Γ:Ctx} {β:Type} {u:TS}
end
end L2
namespace Lat
end Lat
namespace Lat
end Lat
namespace Lat
end Lat
namespace Lat
open L2
section
variable {one other:Int} {s:G4}
end
section
variable {n s a i:Nat} {l t:Ji} {h q:Int}
end
section
variable {n s a:Nat} {l t:Ji} {h:Int}
end
section
variable {n s a i:Nat} {steps:Jq} {st:TS2} {x:Int×Ji}
end
section
variable {steps fl:Jq} {i:Nat} {x:Ji}
end
section
variable {n b R i:Nat} {rows ss:Jq} {r:Ji}
end
end Lat
namespace L2
open PySem PySem.Spec PyProof.Rows
section
variable {X:Cx} {K:W.Frag}
end
section
variable {E:XS} {Γ:Ctx} {te tj:TE} {u:TS} {o:Oc} {m:Bool} {K:W.Frag} {i j:Nat} {α β:Type} {f:α->Ds}
end
def dTop:Ds:=⟨λ_ _=>True,λ_ _=>trivial⟩
section
variable {E:XS} {Γ:Ctx} {u:TS} {o:Oc} {K:W.Frag} {i j:Nat}
theorem zgi {k:Nat} {s:Slot} (h:(unC Γ)[k]?=some s):∃ r,Γ[k]?=some r∧unS r=s:=by
 unfold unC at h
 rw [List.getElem?_map] at h
 cases q:Γ[k]? with
 | none=>rw [q] at h;cases h
 | some r=>rw [q] at h;exact ⟨r,rfl,Option.some.inj h⟩
theorem zkc:unC (unC Γ)=unC Γ:=by
 unfold unC
 rw [List.map_map]
 refine List.map_congr_left λs _=>?_
 cases s<;>rfl
theorem ziZ (h:zfc Γ=true):zfc (unC Γ)=true:=by
 unfold zfc unC at *
 rw [List.all_map]
 refine List.all_eq_true.mpr λs hs=>?_
 have:=List.all_eq_true.mp h s hs
 cases s<;>first | rfl | exact this
theorem zcz {R:Hp}:∀ {vs:List V} {ns:Ji},Paired (λv (d:Ds)=>d.pr R v) vs (ns.map dI)->vs=ns.map V.int
 | [],[],_=>rfl
 | _ :: _,_ :: _,.cons h t=>by
  have h:_=V.int _:=h
  rw [h,zcz t];rfl
end
end L2
namespace L2
open PySem PySem.Spec PyProof.Rows
theorem ze5 {E:XS} {Γ:Ctx} {u:TS} {o:Oc} {m:Bool} {K:W.Frag} {to te:TE} {d:Ds} {l:Nat} (hno:zfc Γ=true) (h:EvW Γ to l) (hv:Ev Γ te m d) (hz:l<sizeLine) (k:Run E (unC Γ) u o):Run E Γ (tSeq (zeZ (tBM K "list" zcj to (zbO te zdX))) u) o:=λF0 Hb F H σ own D a q =>
 h F0 Hb F H σ own _ a λp vs H1 g1 h1 h2 h3 h4 h5=>⟨.inl ⟨rfl,_,SqL.of h4⟩,by
  have a1:=a.grow (Grow.only a.fh g1)
  refine hv F0 Hb F H1 σ own _ a1 λx F2 H2 g2 qx=>?_
  have a2:=a.grow (Grow.only a.fh (g1.trans g2.h))
  exact ⟨p,vs,x,rfl,rfl,g2.h _ _ h4,by omega,k F0 Hb F _ σ own D (a2.spoil hno _ h1 h2 h3) q⟩⟩
end L2
namespace Lat
open L2
end Lat
namespace Lat
end Lat
namespace L2
open PySem PySem.Spec PyProof.Rows
end L2
namespace Lat
open L2
end Lat
namespace Lat
end Lat
namespace Lat
end Lat
namespace L2
open PySem PySem.Spec PyProof.Rows
section
variable {X:Cx} {K:W.Frag} {pos:Pos}
end
section
variable {E:XS} {Γ:Ctx} {te ta tb:TE} {u:TS} {o:Oc} {m:Bool} {K:W.Frag} {i j l:Nat} {α β:Type} {f:α->Ds}
end
end L2
namespace Lat
open L2
end Lat
namespace L2
open PySem PySem.Spec PyProof.Rows
section
variable {X:Cx}
theorem Fz.fewer {pins more:List (Addr×Obj)} {b:Addr} (h:Fz X (pins++more) b):Fz X pins b:=⟨h.1,λp hp=>h.2 p (by
 rcases List.mem_append.mp hp with q | q
 ·exact List.mem_append_left _ q
 ·exact List.mem_append_right _ (List.mem_append_left _ q))⟩
theorem ExcAt.imp {h:Heap} {H:Hp} {Fz Fz':Addr->Prop} {L e:Addr} {cls:Value} {dct:Option Addr} (x:ExcAt h H Fz L e cls dct) (k:∀ b,Fz b->Fz' b):ExcAt h H Fz' L e cls dct:=by
 obtain ⟨oe,vs,a0,h1,h2,h3,h4,h5,h6,h7,h8,h9⟩:=x
 refine ⟨oe,vs,a0,h1,h2,h3,h4,h5,h6,h7,k _ h8,?_⟩
 rcases h9 with h9 | ⟨T,oT,ts,t1,t2,t3,t4,t5,t6,t7⟩
 ·exact .inl h9
 ·exact .inr ⟨T,oT,ts,t1,t2,t3,t4,t5,t6,k _ t7⟩
theorem XPs.fewer {pins more:List (Addr×Obj)} {E:XS} {ev:Value} {s':Shared} (h:XPs X (pins++more) E ev s'):XPs X pins E ev s':=by
 obtain ⟨σ',e,cls,dct,H',rfl,I,x,q⟩:=h
 exact ⟨σ',e,cls,dct,H',rfl,I.unpinned,x.imp λ_=>Fz.fewer,q⟩
theorem zfO {pins:List (Addr×Obj)} {E:XS} (O:Own X):PassesOwn (model X.prog X.w) X.A X.env (XPs X pins E):=λev s' h=>by
 obtain ⟨σ',e,cls,dct,H',rfl,I,x,q⟩:=h
 unfold notedBy
 refine zeh O I x rfl λs1 I1 x1=>?_
 unfold cameBackBy
 obtain ⟨oe,vs,a0,h1,h2,h3,h4,h5,h6,h7,h8,T,oT,ts,t1,t2⟩:=id x1
 refine wpAny_bind (wpAny_field h1 h4 t1 ?_)
 rw [if_neg (show ¬ (Value.ref T == Value.none)=true by simp)]
 rw [O.fr]
 refine zcq (fr:=some X.env.locals) O I1 x1 λs2 I2 x2=>?_
 exact ⟨σ',e,cls,dct,H',rfl,I2,x2.at,q⟩
theorem ziB {tg iter:Expr} {body:List Stmt} {wi:TI} {g:TG} {tb:TSX} {pos:Pos} (O:Own X) (hc:X.calm=true) (hi:PI X.nox tg iter wi) (hg:PG X.nox tg g) (hb:ze0 X body tb)
  (hs:∀ x,foldedSetIterable iter X.env x=pure x:=by intro _;rfl):PSX X (.For tg iter body [] pos) (λD E σ H=>zik wi g (atE E tb) D σ H):=by
 intro pins s σ H D E I h
 have no:∀ {α:Type} {A:Around} {t:Sem α} {Q:α->Shared->Prop} {E':Value->Shared->Prop} {s:Shared},wpAny (model X.prog X.w) A t Q (λ_ _=>False) s->wpAny (model X.prog X.w) A t Q E' s:=λh=>wpAny_mono h (λ_ _ x=>x) λ_ _ f=>f.elim
 refine wpAny_For (no (wpAny_mono (hi pins s σ H _ (I.wish _) h) (λv s1 h1=>no (wpAny_mono h1 (λitv s2 h2=>?_) λ_ _ f=>f)) λ_ _ f=>f)) hs
 obtain ⟨it,fp,tn,J,H2,e,I2,T,st2,f2,W,⟨m0,w0⟩,turn⟩:=h2
 subst e
 have I2:=I2.unwish
 have stat:∀ {H':Hp},(∀b∈fp,H' b=none)->∀ b∈fp,zfm X pins H' b:=λhn b hb=>⟨hn b hb,(f2 b hb).2⟩
 refine codeAny_forLoop_any (λn s'=>∃i σ' H',Inv X pins σ' H' s'∧tn i s'.heap∧(∀b∈fp,H' b=none)∧W i n σ' H') ?_ m0 ⟨0,σ,H2,I2,st2,λb hb=>(f2 b hb).1,w0⟩
 rintro n s3 ⟨i,σ3,H3,I3,st3,fr3,w3⟩
 rcases turn i n σ3 H3 w3 with ⟨stop,qn⟩ | ⟨go,N,hN,step⟩
 ·refine no (thn (T.done X rfl rfl rfl hc i pins s3 σ3 H3 _ I3 (stat fr3) st3 stop) λr s4 ⟨hr,I4⟩=>?_)
  subst hr
  exact wpAny_execs_nil ⟨σ3,H3,I4,qn⟩
 ·refine no (thn (T.item X rfl rfl rfl hc i pins s3 σ3 H3 _ I3 (stat fr3) st3 go) λr s4 ⟨u,hr,h4⟩=>?_)
  subst hr
  refine no (thn h4 λ_ s5 ⟨x,H5,I5,r5,y5,st5,fr5⟩=> ?_)
  have I5':=I5.pinned (stat fr5) (T.obj _ _ st5)
  refine no (thn (hg _ s5 σ3 H5 x u _ (I5'.wish _) r5 (step x H5 y5)) λ_ s6 ⟨σ6,H6,I6,q6⟩=>?_)
  refine wpAny_mono (hb _ s6 σ6 H6 _ E I6.unwish q6) (λf s7 q7=>?_) λev s7 q7=>zfO O ev s7 q7.fewer
  have again:∀ {σ7:St} {H7:Hp},Inv X (pins++zdV fp s5.heap) σ7 H7 s7->N σ7 H7->∃ m,m<n∧∃ i σ' H',Inv X pins σ' H' s7∧tn i s7.heap∧(∀b∈fp,H' b=none)∧W i m σ' H':=λ{σ7 H7} I7 n7=>by
   obtain ⟨m',hm,w7⟩:=hN σ7 H7 n7
   refine ⟨m',hm,i+1,σ7,H7,I7.unpinned,T.keep _ _ _ st5 λb hb o e=>(I7.pin (b,o) (List.mem_append_right _ (List.mem_append_right _ (zbX hb e)))).1,λb hb=> ?_,w7⟩
   obtain ⟨o,e,d⟩:=T.obj _ _ st5 b hb
   exact (I7.pin (b,o) (List.mem_append_right _ (List.mem_append_right _ (zbX hb e)))).2.1
  cases f with
  | next=>obtain ⟨σ7,H7,I7,n7⟩:=q7;exact again I7 n7
  | cont=>obtain ⟨σ7,H7,I7,n7⟩:=q7;exact again I7 n7
  | brk=>obtain ⟨σ7,H7,I7,q7⟩:=q7;exact ⟨σ7,H7,I7.unpinned,q7⟩
  | ret v=>obtain ⟨x7,σ7,H7,I7,r7,q7⟩:=q7;exact ⟨x7,σ7,H7,I7.unpinned,r7,q7⟩
end
end L2
namespace L2
open PySem PySem.Spec PyProof.Rows
theorem zjx {X:Cx} {tg iter:Expr} {body:List Stmt} {wi:TI} {g:TG} {tb:TSX} {pos:Pos} (O:Own X) (hc:X.calm=true) (hi:PI X.nox tg iter wi) (hg:PG X.nox tg g) (hb:ze0 X body tb)
  (hs:∀ x,foldedSetIterable iter X.env x=pure x:=by intro _;rfl):PSX X (.For tg iter body [] pos) (λD E σ H=>zik wi g (atE E tb) D σ H):=ziB O hc hi hg hb hs
section
variable {E:XS} {Γ Γx:Ctx} {m:Bool} {α β ε S:Type} [XF ε] {u:TS} {ds:List Ds}
end
end L2
namespace L2
open PySem PySem.Spec PyProof.Rows
def zhe (R:Hp) (v:V) (ns:Ji):Prop:=∃ r,v=.ref r∧R r=some (.lst (List.map V.int ns))
def dRI (nss:Jq):Ds:=⟨λR v=>∃ p vs,v=.ref p∧R p=some (.lst vs)∧vs.Nodup∧V.ref p ∉ vs∧Paired (zhe R) vs nss,λe ⟨p,vs,h1,h2,h3,h4,h5⟩=>⟨p,vs,h1,e _ _ h2,h3,h4,zbW (λ_ _ ⟨r,q1,q2⟩=>⟨r,q1,e _ _ q2⟩) h5⟩⟩
theorem ze4 {R:Hp}:∀ {ns:Ji},Paired (λv (d:Ds)=>d.pr R v) (ns.map V.int) (ns.map dI)
 | []=>.nil
 | _ :: _=>.cons rfl ze4
theorem zkv {R:Hp} {v:V} {nss:Jq} (h:(dRI nss).pr R v):(dL (nss.map λl=>dL (l.map dI))).pr R v:=by
 obtain ⟨p,vs,rfl,h2,h3,h4,h5⟩:=h
 refine ⟨p,vs,rfl,h2,?_⟩
 clear h2 h3 h4
 induction h5 with
 | nil=>exact .nil
 | cons q _ ih =>
  obtain ⟨r,rfl,q2⟩:=q
  exact .cons ⟨r,_,rfl,q2,ze4⟩ ih
section
variable {Γ:Ctx} {m:Bool} {K:W.Frag} {γ:Type} {te tj:TE} {i:Nat} {nss:Jq}
theorem zjj {t:TE} (h:Ev Γ t m (dRI nss)):Ev Γ t m (dL (nss.map λl=>dL (l.map dI))):=λF0 Hb F H σ own Q a k=>h F0 Hb F H σ own Q a λv F' H' g q=>k v F' H' g (zkv q)
end
section
variable {E:XS} {Γ:Ctx} {m:Bool} {K:W.Frag} {te tj:TE} {u:TS} {o:Oc} {i:Nat} {nss:Jq}
theorem zfC {R:Hp} {r:Addr} {new:Ji}:∀ {vs:List V} {nss:Jq} {j:Nat},Paired (zhe R) vs nss->vs.Nodup->vs[j]?=some (.ref r)->Paired (zhe (upd R r (.lst (new.map V.int)))) vs (nss.set j new)
 | _,_,_,.nil,_,h=>by simp at h
 | v :: vs,ns :: nss,0,.cons q t,hN,h=>by
  have h:v=.ref r:=by simpa using h
  subst h
  refine .cons ⟨r,rfl,zak⟩ ?_
  have hn1:=(List.nodup_cons.mp hN).1
  clear q h hN
  induction t with
  | nil=>exact .nil
  | @cons a b as bs q t ih =>
   obtain ⟨r',rfl,q2⟩:=q
   have hne:r'≠r:=λz=>hn1 (by rw [z];exact List.mem_cons_self)
   exact .cons ⟨r',rfl,by rw [zad hne];exact q2⟩ (ih λz=>hn1 (List.mem_cons_of_mem _ z))
 | v :: vs,ns :: nss,j+1,.cons q t,hN,h=>by
  have hN:=List.nodup_cons.mp hN
  have h:vs[j]?=some (.ref r):=by simpa using h
  obtain ⟨r',rfl,q2⟩:=q
  have hne:r'≠r:=λz=>hN.1 (by rw [z];exact List.mem_of_getElem? h)
  exact .cons ⟨r',rfl,by rw [zad hne];exact q2⟩ (zfC t hN.2 h)
theorem At.row {F0 Hb F H:Hp} {σ:St} {own:Nat->Option Addr} (a:At F0 Hb F H σ own Γ) (e:Γ[i]?=some (.tl (dRI nss))) (hno:zfc Γ=true) {k:Int} (hk:InB nss.length k) :
  ∃ p vs r,σ[i]?=some (some (.ref p))∧H p=some (.lst vs)∧atI vs k=some (.ref r)∧H r=some (.lst ((ixD nss k).map V.int))∧∀ (H':Hp) (new:Ji),Same H H'->At F0 Hb F (upd H' r (.lst (new.map V.int))) σ own ((unC Γ).set i (.tl (dRI (zc3 nss k new)))):=by
 obtain ⟨x,R,h1,h2,h3,h4,p,vs,rfl,h6,h7,h8,h9⟩:=a.sl i _ e
 have hi:i<σ.length:=by rw [a.len];exact ((List.getElem?_eq_some_iff.mp e)).1
 have e':σ[i]?=some (some (.ref p)):=by
  rw [List.getElem?_eq_getElem hi] at h1 ⊢
  exact congrArg some h1
 have hl:=Paired.length h9
 obtain ⟨j,ej,hj,_⟩:=zfz hk
 obtain ⟨v,ev,⟨r,rfl,hr⟩⟩:=zaI h9 (List.getElem?_eq_getElem (l:=nss) (i:=j) hj)
 have ex:ixD nss k=nss[j]:=by
  unfold ixD atI
  rw [ej]
  show (nss[j]?).getD default=_
  rw [List.getElem?_eq_getElem hj];rfl
 have es:∀ new,zc3 nss k new=nss.set j new:=λnew=>by unfold zc3;rw [ej]
 have rF:=h3 r _ hr
 have rO:∀ l,own l≠some r:=λl z=>by rw [h4 l r z] at hr;cases hr
 have rp:p≠r:=λz=>h8 (by rw [z];exact List.mem_of_getElem? ev)
 refine ⟨p,vs,r,e',h2 _ _ h6,?_,by rw [ex];exact h2 _ _ hr,λH' new hs=>?_⟩
 ·unfold atI
  rw [hl,ej]
  exact ev
 ·have a1:=(a.grow (Grow.only a.fh hs)).spoil hno (.lst (new.map V.int)) rF.1 rF.2 rO
  refine ⟨a1.g,a1.inj,a1.liv,λl s es'=> ?_,by rw [List.length_set];exact a1.len⟩
  by_cases z:i=l
  ·subst z
   rw [List.getElem?_set_self (by rw [← a1.len];exact hi)] at es'
   cases es'
   rw [e']
   refine ⟨.ref p,upd R r (.lst (new.map V.int)),rfl,λb w q=>?_,λb w q=>?_,λl' b q=>?_,p,vs,rfl,by rw [zad rp];exact h6,h7,h8,by rw [es];exact zfC h9 h7 ev⟩
   ·by_cases y:b=r
    ·subst y;rw [zak] at q ⊢;exact q
    ·rw [zad y] at q ⊢;exact hs _ _ (h2 _ _ q)
   ·by_cases y:b=r
    ·subst y;exact rF
    ·rw [zad y] at q;exact h3 b w q
   ·have y:b≠r:=λy=>rO l' (y ▸ q)
    rw [zad y];exact h4 l' b q
  ·rw [List.getElem?_set_ne z] at es'
   exact a1.sl l s es'
theorem zhN {k v:Int} (e:Γ[i]?=some (.tl (dRI nss))) (hno:zfc Γ=true) (hj:Ev Γ tj false (dI k)) (hk:InB nss.length k) (hv:Ev Γ te m (dI v)) (hz:(ixD nss k).length<sizeLine) (kk:Run E ((unC Γ).set i (.tl (dRI (zc3 nss k (ixD nss k++[v]))))) u o) :
  Run E Γ (tSeq (zeZ (tBM K "list" zcj (tOp (zji K) (ze8 i) tj) (zbO te zdX))) u) o:=λF0 Hb F H σ own D a q=>by
 obtain ⟨p,vs,r,s1,s2,s3,s4,s5⟩:=a.row e hno hk
 refine ⟨_,s1,hj F0 Hb F H σ own _ a λvk F1 H1 g1 qk=>?_⟩
 have qk:vk=.int k:=qk
 subst qk
 refine ⟨p,vs,k,_,rfl,rfl,SqL.of (g1.h _ _ s2),s3,.inl ⟨rfl,_,SqL.of (g1.h _ _ s4)⟩,?_⟩
 refine hv F0 Hb F H1 σ own _ (a.grow (Grow.only a.fh g1.h)) λw F2 H2 g2 qw=>?_
 have qw:w=.int v:=qw
 subst qw
 refine ⟨r,_,_,rfl,rfl,g2.h _ _ (g1.h _ _ s4),by rw [List.length_map];exact hz,?_⟩
 have:=s5 H2 (ixD nss k++[v]) (g1.h.trans g2.h)
 rw [List.map_append] at this
 exact kk F0 Hb F _ σ own D this q
theorem zhJ {k:Int} (e:Γ[i]?=some (.tl (dRI nss))) (hno:zfc Γ=true) (hj:Ev Γ tj false (dI k)) (hk:InB nss.length k) (hz:0<(ixD nss k).length) (kk:Run E ((unC Γ).set i (.tl (dRI (zc3 nss k (ixD nss k).dropLast)))) u o) :
  Run E Γ (tSeq (zeZ (zk5 K "list" zk3 (tOp (zji K) (ze8 i) tj))) u) o:=λF0 Hb F H σ own D a q=>by
 obtain ⟨p,vs,r,s1,s2,s3,s4,s5⟩:=a.row e hno hk
 refine ⟨_,s1,hj F0 Hb F H σ own _ a λvk F1 H1 g1 qk=>?_⟩
 have qk:vk=.int k:=qk
 subst qk
 refine ⟨p,vs,k,_,rfl,rfl,SqL.of (g1.h _ _ s2),s3,.inl ⟨rfl,_,SqL.of (g1.h _ _ s4)⟩,?_⟩
 refine ⟨r,_,.int ((ixD nss k)[(ixD nss k).length-1]' (by omega)),rfl,rfl,g1.h _ _ s4,?_,?_⟩
 ·rw [List.length_map,List.getElem?_map,List.getElem?_eq_getElem (by omega)];rfl
 ·have:=s5 H1 (ixD nss k).dropLast g1.h
  rw [List.map_dropLast] at this
  exact kk F0 Hb F _ σ own D this q
end
end L2
namespace L2
open PySem PySem.Spec PyProof.Rows
section
variable {E:XS} {Γ Δ:Ctx} {m:Bool} {K:W.Frag} {te ta tb:TE} {t u:TS} {d:Ds} {ds es:List Ds} {o:Oc} {i j:Nat}
end
section
variable {P:Program} {w:World} {K:W.Frag} {mg:Str->Option Value} {base:Heap} {x qual:Str} {st:Stmt} {f:Addr} {fd:FuncData} {N ps:List Str} {k:Nat}
end
section
variable {E:XS} {Γ Δ:Ctx} {m:Bool} {K:W.Frag} {te ta tb tj:TE} {t u:TS} {d:Ds} {ds es:List Ds} {o:Oc} {i j:Nat} {p:Addr} {α β:Type} {f:α->Ds} {xs:List α}
theorem zgI {γ S:Type} {wi:TI} {g:TG} {tb:TS} {js:List Nat} {xs:List γ} {bds:γ->List Ds} {mi:Bool} {s0:S} (G:S->Ctx) (f:S->γ->S) (I:Nat->S->Prop) (it:Iv Γ wi g js xs bds mi) (w:Wk Γ (G s0)) (h0:I 0 s0)
  (body:∀ (i:Nat) (x:γ) (s:S),xs[i]?=some x->I i s->I (i+1) (f s x)∧Run E (zhh js (bds x) mi (G s)) tb (.nx (G (f s x)))) (k:Run E (G (xs.foldl f s0)) u o):Run E Γ (tSeq (zik wi g tb) u) o :=
 zeb (β:=Unit) (kk:=λ_=>()) G (λ_=>o) f I it w h0 body λs e _=>e ▸ k
end
end L2
namespace L2
open PySem PySem.Spec PyProof.Rows
structure T5 (α β γ δ ε:Type) where
 a:α
 b:β
 c:γ
 d:δ
 e:ε
section
variable {E:XS} {Γ:Ctx} {m:Bool} {K:W.Frag} {te tj:TE} {u:TS} {o:Oc} {i j:Nat} {nss:Jq} {α β:Type}
end
end L2
namespace Lat
open L2
end Lat
namespace L2
open PySem PySem.Spec PyProof.Rows
section
variable {X:Cx} {K:W.Frag}
end
section
variable {Γ:Ctx} {m:Bool} {K:W.Frag}
end
end L2
namespace L2
open PySem PySem.Spec PyProof.Rows
section
variable {E:XS} {Γ:Ctx} {u:TS} {o:Oc} {K:W.Frag} {i j:Nat}
def zkY (m:Nat) (F Hb H:Hp) (own:Nat->Option Addr) (v:V):Prop:=∃ r ns,v=.ref r∧H r=some (.lst (List.map V.int ns))∧ns.length≤m∧F r=none∧Hb r=none∧∀ j,own j≠some r
theorem zed {M:Nat} {xss:Jq} {tb:TS} (e:Γ[i]?=some (.tl (dL (xss.map λl=>dL (l.map dI))))) (ej:Γ[j]?=some .no) (hno:zfc Γ=true) (h0:∀ l∈xss,l.length≤M)
  (body:∀ (D:Ends) (σ:St) (H:Hp) (r:Addr) (ns:Ji),σ[j]?=some (some (.ref r))->H r=some (.lst (ns.map V.int))->ns.length≤M+xss.length->(∀ ns':Ji,ns'.length≤ns.length+1->D.nx σ (upd H r (.lst (ns'.map V.int))))->tb D σ H)
  (k:Run E ((unC Γ).set i (.tl (dL (xss.map λ_=>dTop)))) u o):Run E Γ (tSeq (zik (zhl K (ze8 i)) (zcf j) tb) u) o:=λF0 Hb F H σ own D a q=>by
 obtain ⟨x,R,h1,h2,h3,h4,p,vs,rfl,h6,h7⟩:=a.sl i _ e
 have hi:i<σ.length:=by rw [a.len];exact ((List.getElem?_eq_some_iff.mp e)).1
 rw [List.getElem?_eq_getElem hi] at h1
 have e':σ[i]?=some (some (.ref p)):=by rw [List.getElem?_eq_getElem hi];exact congrArg some h1
 have hij:i≠j:=λz=>by rw [z,ej] at e;cases e
 have rows0:∀ v∈vs,zkY M F Hb H own v:=λv hv=>by
  obtain ⟨n,hn⟩:=List.getElem?_of_mem hv
  obtain ⟨d,hd,qd⟩:∃ d,((xss.map λl=>dL (l.map dI)))[n]?=some d∧d.pr R v:=by
   have hl:=Paired.length h7
   have hn':n<vs.length:=((List.getElem?_eq_some_iff.mp hn)).1
   obtain ⟨v',ev',qv'⟩:=zaI h7 (List.getElem?_eq_getElem (l:=xss.map λl=>dL (l.map dI)) (i:=n) (by omega))
   rw [hn] at ev'
   cases ev'
   exact ⟨_,List.getElem?_eq_getElem (by omega),qv'⟩
  rw [List.getElem?_map] at hd
  cases w:xss[n]? with
  | none=>rw [w] at hd;cases hd
  | some l =>
   rw [w] at hd
   cases hd
   obtain ⟨r,ws,rfl,r2,r3⟩:=qd
   exact ⟨r,l,rfl,by rw [h2 _ _ r2,zcz r3],h0 l (List.mem_of_getElem? w),(h3 r _ r2).1,(h3 r _ r2).2,λj z=>by rw [h4 j r z] at r2;cases r2⟩
 have hp:H p=some (.lst vs):=h2 _ _ h6
 have pF:=h3 p _ h6
 have pO:∀ j,own j≠some p:=λj z=>by rw [h4 j p z] at h6;cases h6
 have hl:vs.length=xss.length:=by rw [Paired.length h7,List.length_map]
 have a0:At F0 Hb F H σ own (unC Γ):=⟨a.g,a.inj,a.liv,λk s es=>by
  obtain ⟨r,e1,rfl⟩:=zgi es
  have:=a.sl k r e1
  cases r with
  | tl d=>trivial
  | no=>trivial
  | va m d=>exact this
  | ow m ds=>exact this
  | ol p ds=>exact this
  | ob m C p dx fs=>exact this,by unfold unC;rw [List.length_map];exact a.len⟩
 refine ⟨_,e',p,rfl,⟨vs,SqL.of hp⟩,λn m σ' H'=>m=vs.length-n∧n≤vs.length∧At F0 Hb F H' σ' own (unC Γ)∧σ'[i]?=some (some (.ref p))∧H' p=some (.lst vs)∧∀ v∈vs,zkY (M+n) F Hb H' own v,⟨_,rfl,Nat.zero_le _,a0,e',hp,rows0⟩,?_⟩
 rintro n m σ1 H1 ⟨rfl,hn,a1,s1,p1,rows1⟩
 by_cases hlt:n<vs.length
 ·refine .inr ⟨⟨vs,vs[n],SqL.of p1,List.getElem?_eq_getElem hlt⟩,λσ' H'=>At F0 Hb F H' σ' own (unC Γ)∧σ'[i]?=some (some (.ref p))∧H' p=some (.lst vs)∧∀ v∈vs,zkY (M+(n+1)) F Hb H' own v,λσ' H' z=>⟨_,by omega,rfl,by omega,z⟩,λv H' y=>?_⟩
  obtain ⟨rfl,y⟩:=y
  have hv:=y vs (SqL.of p1)
  have hvm:=List.mem_of_getElem? hv
  obtain ⟨r,ns,rfl,r1,r2,r3,r4,r5⟩:=rows1 v hvm
  have hj:j<σ1.length:=by rw [a1.len];unfold unC;rw [List.length_map];exact (List.getElem?_eq_some_iff.mp ej).1
  have rp:p≠r:=λz=>by
   subst z
   rw [p1] at r1
   have r1:vs=ns.map V.int:=by injection r1 with r1;injection r1
   rw [r1] at hvm
   obtain ⟨_,_,z⟩:=List.mem_map.mp hvm
   cases z
  refine body _ _ _ r ns (List.getElem?_set_self hj) r1 (by omega) λns' hns=>⟨?_,?_,?_,λv' hv'=>?_⟩
  ·have a2:At F0 Hb F H' (σ1.set j (some (.ref r))) own (unC Γ):=⟨a1.g,a1.inj,a1.liv,λk s es=>by
    by_cases z:j=k
    ·subst z
     obtain ⟨r',e1,rfl⟩:=zgi es
     rw [ej] at e1
     cases e1
     trivial
    ·rw [List.getElem?_set_ne z]
     exact a1.sl k s es,by simp [a1.len]⟩
   have:=a2.spoil (ziZ hno) (.lst (ns'.map V.int)) r3 r4 r5
   rwa [zkc] at this
  ·rw [List.getElem?_set_ne (Ne.symm hij)];exact s1
  ·rw [zad rp];exact p1
  ·obtain ⟨r',ns2,rfl,q1,q2,q3,q4,q5⟩:=rows1 v' hv'
   by_cases z:r'=r
   ·subst z
    exact ⟨r',ns',rfl,zak,by omega,q3,q4,q5⟩
   ·exact ⟨r',ns2,rfl,by rw [zad z];exact q1,by omega,q3,q4,q5⟩
 ·refine .inl ⟨⟨vs,SqL.of p1,by omega⟩,k F0 Hb F H1 σ1 own D ?_ q⟩
  refine ⟨a1.g,a1.inj,a1.liv,λl s es=>?_,by rw [List.length_set];exact a1.len⟩
  by_cases z:i=l
  ·subst z
   rw [List.getElem?_set_self (by rw [← a1.len];exact (List.getElem?_eq_some_iff.mp s1).1)] at es
   cases es
   rw [s1]
   refine ⟨.ref p,λb=>if b=p then some (.lst vs) else none,rfl,λb o z=>?_,λb o z=>?_,λl b z=>?_,p,vs,rfl,if_pos rfl,?_⟩
   ·dsimp only at z
    split at z
    ·cases z;rename_i w;rw [w];exact p1
    ·cases z
   ·dsimp only at z
    split at z
    ·rename_i w;rw [w];exact pF
    ·cases z
   ·dsimp only
    rw [if_neg (λw=>pO l (by rw [← w];exact z))]
   ·clear q rows0 rows1 h7 hp p1 h6 body
    have:∀ (vs:List V) (xss:Jq) (G:Hp),vs.length=xss.length->Paired (λv (d:Ds)=>d.pr G v) vs (xss.map λ_=>dTop):=by
     intro vs
     induction vs with
     | nil=>intro xss G h;rw [List.length_eq_zero_iff.mp h.symm];exact .nil
     | cons v vs ih =>
      intro xss G h
      match xss,h with
      | _ :: xss,h=>exact .cons trivial (ih xss G (by simpa using h))
    exact this vs xss _ hl
  ·rw [List.getElem?_set_ne z] at es
   exact a1.sl l s es
theorem zgA {M:Nat} {c:Int} {D:Ends} {σ:St} {H:Hp} {r:Addr} {ns:Ji} (hM:M<sizeLine) (hj:σ[j]?=some (some (.ref r))) (hr:H r=some (.lst (ns.map V.int))) (h0:ns.length≤M) (k:∀ ns':Ji,ns'.length≤ns.length+1->D.nx σ (upd H r (.lst (ns'.map V.int)))) :
  tSeq (zeZ (tBM K "list" zcj (ze8 j) (zbO (tC (.int c)) zdX))) zgB D σ H:=by
 refine ⟨_,hj,.inl ⟨rfl,_,SqL.of hr⟩,?_⟩
 refine ⟨r,_,_,rfl,rfl,hr,by rw [List.length_map];omega,?_⟩
 have:=k (ns++[c]) (by simp)
 rw [List.map_append] at this
 exact this
end
end L2
namespace Lat
open L2
end Lat
namespace L2
open PySem PySem.Spec PyProof.Rows
section
open PySem.SeqAt PySem.MeetsSeq PySem.MeetsSeq2 PySem.MeetsSeq3
open PySem.AutoSeq1 (wpAny_loadPart')
end
section
variable {X:Cx} {K:W.Frag}
end
section
variable {X:Cx} {K:W.Frag}
end
section
variable {E:XS} {Γ:Ctx} {te tj:TE} {t u:TS} {o:Oc} {m:Bool} {K:W.Frag} {i j:Nat} {α β:Type}
end
end L2
namespace L2
open PySem PySem.Spec PyProof.Rows
section
variable {X:Cx} {CX:CXT} {k:Nat} {f C:Addr} {fd:FuncData} {ps:List Str} {sp:Sp} {E:XK} {m:Str} {pos apos:Pos} {o e:Expr} {es:List Expr} {t:TA}
structure ByCls (K:W.Frag) (C f:Addr) (m:Str):Prop where
 ga:W.specialIn K (.ref C) "__getattribute__"=some (some (.builtin "type.__getattribute__"))
 rd:W.readsIn K C (.type "type")=true
 fn:W.findCls K (.ref C) (.type "type") m=some (.val (.ref f))
 kp:W.keepIn K (.ref f)=true
end
section
variable {E:XS} {Γ:Ctx} {u:TS} {o:Oc} {m m2:Bool} {K:W.Frag} {i:Nat} {ds:List Ds} {tr:TA}
end
section
variable {Γ:Ctx} {m:Bool}
end
section
variable {X:Cx} {CX:CXT} {k k2:Nat} {f f2 C C2:Addr} {fd fd2:FuncData} {ps ps2:List Str} {sp sp2:Sp} {E:XK} {m:Str} {pos apos:Pos} {o e:Expr} {es:List Expr} {ta:TE} {t:TA}
end
section
variable {Γ:Ctx} {i:Nat} {m n:Bool} {ds:List Ds}
end
end L2
namespace Lat
open L2
section
variable {n:Nat} {sw:Jq} {x:Ji} {R ss:Jq}
end
end Lat
namespace L2
open PySem PySem.Spec PyProof.Rows
section
variable {Γ:Ctx} {m:Bool} {K:W.Frag} {ta:TE} {α:Type} {f:α->Ds} {cl:α->Addr} {fs:α->List (Str×Ds)}
end
end L2
namespace L2
open PySem PySem.Spec PyProof.Rows
structure CalleeM (P:Program) (w:World) (K:W.Frag) (mg:Str->Option Value) (base:Heap) (CX:CXT) (k:Nat) (C:Addr) (m:Str) (ps:List Str) (sp:Sp):Prop where
 ex:∃ f fd,FnOk P w K mg base CX k f fd ps sp∧Meth K C m f∧zcX K fd ps []
def zli (t u:TE):TE:=λσ H Q=>t σ H Q∨u σ H Q
section
variable {X:Cx} {CX:CXT} {k:Nat} {C:Addr} {ps:List Str} {sp:Sp} {E:XK} {m:Str} {pos apos:Pos} {o e:Expr} {es:List Expr} {ta:TE} {t:TA}
theorem Ev.inl {Γ:Ctx} {t u:TE} {b:Bool} {d:Ds} (h:Ev Γ t b d):Ev Γ (zli t u) b d:=λF0 Hb F H σ own Q a k=>.inl (h F0 Hb F H σ own Q a k)
theorem Ev.inr {Γ:Ctx} {t u:TE} {b:Bool} {d:Ds} (h:Ev Γ u b d):Ev Γ (zli t u) b d:=λF0 Hb F H σ own Q a k=>.inr (h F0 Hb F H σ own Q a k)
end
section
variable {Γ:Ctx} {ta tb tc:TE} {m:Bool}
end
section
variable {E:XS} {Γ:Ctx} {m:Bool} {K:W.Frag} {te:TE} {u:TS} {α β:Type}
end
end L2
namespace L2
open PySem PySem.Spec PyProof.Rows
def orX (t u:TEX):TEX:=λσ H Q E=>t σ H Q E∨u σ H Q E
section
variable {X:Cx} {a b e o:Expr} {es:List Expr} {pos apos:Pos} {k:Nat} {C:Addr} {ps:List Str} {sp:Sp} {m:Str} {tb to:TE} {ta:TEX} {t:TA}
end
def EvX {α ε:Type} [XF ε] (xc:ε->Addr) (Γ:Ctx) (te:TEX) (m:Bool) (d:α->Ds) (r:Except ε α):Prop:=∀ (F0 Hb F H:Hp) (σ:St) (own:Nat->Option Addr) (Q:VK) (E:XK),At F0 Hb F H σ own Γ →
 (match r with | .ok v=>∀ v' F' H',Grow F H F' H'->(d v).pr (zcK m F' Hb) v'->Q v' H' | .error e=>∀ dct F' H',Grow F H F' H'->xφ e F' dct->E (.ref (xc e)) dct H')->te σ H Q E
section
variable {α β ε:Type} [XF ε] {xc:ε->Addr} {Γ Γx:Ctx} {te:TEX} {tb:TE} {m m0:Bool} {d:α->Ds} {r:Except ε α} {ds:List Ds} {u:TS} {E:XS}
theorem EvX.inl {t u:TEX} (h:EvX xc Γ t m d r):EvX xc Γ (orX t u) m d r:=λF0 Hb F H σ own Q E a k=>.inl (h F0 Hb F H σ own Q E a k)
theorem EvX.inr {t u:TEX} (h:EvX xc Γ u m d r):EvX xc Γ (orX t u) m d r:=λF0 Hb F H σ own Q E a k=>.inr (h F0 Hb F H σ own Q E a k)
end
end L2
namespace L2
open PySem PySem.Spec PyProof.Rows
section
variable {P:Program} {w:World} {K:W.Frag} {mg:Str->Option Value} {base:Heap} {x qual:Str} {st:Stmt} {f:Addr} {fd:FuncData} {N ps:List Str} {k:Nat}
end
section
variable {X:Cx} {k:Nat} {f C:Addr} {fd:FuncData} {ps:List Str} {sp:Sp} {x:Str} {p pos:Pos} {e:Expr} {es:List Expr} {t:TA}
end
section
variable {E:XS} {Γ Γx:Ctx} {u t:TS} {o:Oc} {ds:List Ds} {tr:TA} {K:W.Frag} {m:Bool} {ta:TE}
end
end L2
namespace Lat
open L2
end Lat
namespace L2
open PySem PySem.Spec PyProof.Rows
structure T6 (α β γ δ ε ζ:Type) where
 a:α
 b:β
 c:γ
 d:δ
 e:ε
 f:ζ
section
variable {E:XS} {Γ:Ctx} {m:Bool} {K:W.Frag} {te:TE} {u:TS} {α β:Type}
end
end L2
namespace PySem
open Sem (wp)
namespace F
end F
abbrev zj3 (h:Heap) (T:Addr) (a b c:Value):Prop:=h.get? T=some { cls:=.type "tuple",data:=.seq #[a,b,c] }
structure Zip3 (h:Heap) (n:Nat) (l1 l2 l3:Addr) (k:Nat) (f0:Value):Prop where
 z:IsZip h (n+5) (n+3) (n+4) f0
 ti:zj3 h (n+3) (.ref n) (.ref (n+1)) (.ref (n+2))
 to:∃ a b c,zj3 h (n+4) a b c
 i1:h.IsListIter n l1 k
 i2:h.IsListIter (n+1) l2 k
 i3:h.IsListIter (n+2) l3 k
section
variable {prog:Program} {w:World} {A:Around} {E:Value->Shared->Prop} {s:Shared} {n k:Nat} {l1 l2 l3:Nat}
end
section
variable {prog:Program} {w:World} {A:Around} {E:Value->Shared->Prop} {s:Shared}
end
end PySem
namespace L2
open PySem PySem.Spec PyProof.Rows
section
variable {X:Cx}
end
section
variable {Γ:Ctx} {m:Bool} {K:W.Frag} {γ δ ε:Type}
end
end L2
namespace L2
open PySem PySem.Spec PyProof.Rows
structure T4 (α β γ δ:Type) where
 a:α
 b:β
 c:γ
 d:δ
 deriving Inhabited
def zkQ:Slot->Bool
 | .tl _=>false
 | _=>true
section
variable {Γ:Ctx} {te:TE} {d:Ds} {i:Nat} {m:Bool}
end
section
variable {Γ:Ctx} {te:TE} {d d1 d2 d3:Ds} {i i1 i2 i3:Nat} {m m1 m2:Bool} {v v1 v2:V} {f g k:Str} {C:Addr}
variable {ι:Type} {a1 a2 a3 b3:ι->Ds} {pre:ι->Prop} {ds:List Ds} {tr:TA} {E:XK}
end
section
variable {E:XS} {Γ:Ctx} {m:Bool} {K:W.Frag} {tj:TE} {u:TS} {o:Oc} {i:Nat}
end
end L2
namespace Lat
open L2
section
variable {α β:Type}
end
section
variable {W:Nat} {ds im Bs:Jq} {u v:Vc}
end
end Lat
namespace L2
open PySem PySem.Spec PyProof.Rows
end L2
namespace L2
open PySem PySem.Spec PyProof.Rows
def FA (K:W.Frag) (f:Addr) (sn n:Str) (st:Stmt):Prop:=∃ (oc kV dc pm cd ct:Value) (od an:Option Addr) (sl:Array (Option Value)),K.lookup f=some ⟨oc,od,.func (W.fnOf sn n (zcG st) (zbK st) (zah st) .none kV dc pm an cd ct),sl⟩∧W.codeIn K cd n=true∧W.keepIn K (.ref f)=true
theorem FA.m {K:W.Frag} {f:Addr} {sn n:Str} {st:Stmt} {oc kV dc pm cd ct:Value} {od an:Option Addr} {sl:Array (Option Value)} (l:K.lookup f=some ⟨oc,od,.func (W.fnOf sn n (zcG st) (zbK st) (zah st) .none kV dc pm an cd ct),sl⟩) (c:W.codeIn K cd n=true) (k:W.keepIn K (.ref f)=true):FA K f sn n st:=⟨_,_,_,_,_,_,_,_,_,l,c,k⟩
theorem zjQ {K:W.Frag} {f:Addr} {sn n:Str} {st:Stmt} (q:FA K f sn n st):∃ fd,Fun K sn n st f fd:=by
 obtain ⟨_,_,_,_,_,_,_,_,_,l,c,k⟩:=q
 exact ⟨_,zh6 (st:=st) l c k⟩
noncomputable def FA.fd {K:W.Frag} {f:Addr} {sn n:Str} {st:Stmt} (q:FA K f sn n st):FuncData:=Classical.choose (zjQ q)
theorem FA.f {K:W.Frag} {f:Addr} {sn n:Str} {st:Stmt} (q:FA K f sn n st):Fun K sn n st f q.fd:=Classical.choose_spec (zjQ q)
theorem FA.k {K:W.Frag} {f:Addr} {sn n:Str} {st:Stmt} (q:FA K f sn n st):W.keepIn K (.ref f)=true:=by
 obtain ⟨_,_,_,_,_,_,_,_,_,l,c,k⟩:=q
 exact k
theorem cm (l:W.OpenLaw) (w:World) (base:Heap) {K:W.Frag} {mg:Str->Option Value} {k:Nat} {x:Str} {f:Addr} {fd:FuncData} {ps:List Str} {sp:Sp} (h:FnOk l.prog w K mg base (CXE l.prog w) k f fd ps sp) (m:mg x=some (.ref f)) (z:W.keepIn K (.ref f)=true) (b:zcX K fd ps []):Callee l.prog w K mg base (CXE l.prog w) k x ps sp:=⟨_,_,h,m,z,b⟩
end L2
namespace Lat
section
variable {n s i:Nat} {rows ss more:Jq} {r x:Ji}
end
end Lat
namespace Lat
open L2
section
variable {n m:Nat} {B S ss:Jq} {u v:Vc}
end
section
variable {n k s:Nat}
end
end Lat
namespace L2
open PySem PySem.Spec PyProof.Rows
end L2
namespace L2
open PySem PySem.Spec PyProof.Rows
end L2
namespace Lat
open L2
end Lat
namespace L2
open PySem PySem.Spec PyProof.Rows PySem.Builtin PySem.Builtin.ObjectAttr
theorem zc7 {M:Model} {A:Around} {E:Value->Shared->Prop} {env:Env} {nm q:Str} {C N:Addr} {bs bm:List Value} {hdct:Bool} {sn:List Str} {sub:List Value} {ab:Bool} {col:Option Bool}
 {dd:Option Addr} {k0 k1 k2 k3 k5:Option Value} {newId:String} {s:Shared} {x:Sem Value} {Q:Flow->Shared->Prop} (hbase:bm.contains (Value.type "BaseException")=true) (hh:A.handled=none)
 (h:wpAny M A x (λv s₁=>∃ e oe t,v=Value.ref e∧s₁.heap.get? C=some (excClassObj nm q C N bs bm hdct sn sub ab col dd k0 k1 k2 k3 k5 newId)∧s₁.heap.get? e=some oe∧oe.cls=Value.ref C∧oe.data=Data.fields #[Value.ref t,Value.none,Value.none,Value.none,Value.bool false,Value.none]∧E (Value.ref e) s₁) E s) :
 wpAny M A (raiseStmt env (some x) none) Q E s:=by
 have hcB:((Value.ref C :: bm).contains (Value.type "BaseException"))=true:=by rw [List.contains_cons,hbase,Bool.or_true]
 unfold raiseStmt
 refine wpAny_bind (wpAny_mono h (λv s₁ ⟨e,oe,t,hv,hC,he,hc,hd,hE⟩=>?_) λ_ _ q=>q)
 subst hv
 obtain ⟨hp,g,d,tk,os⟩:=s₁
 refine wpAny_bind (wpAny_pure ?_)
 refine wpAny_bind (wpAny_holding ?_)
 obtain ⟨oc,od,odt,osl⟩:=oe
 dsimp only at hc hd
 subst hc hd
 unfold excFromValue
 refine wpAny_bind ?_
 unfold isExcClass
 refine wpAny_bind ?_
 unfold isType
 refine wpAny_bind ?_
 unfold loadHead
 refine wpAny_loadPart_at he (wpAny_pure (wpAny_ite_false rfl (wpAny_pure (wpAny_ite_false rfl ?_))))
 refine wpAny_bind ?_
 unfold isInstance
 refine wpAny_bind ?_
 unfold typeOf
 refine wpAny_bind (wpAny_loadPart_at he (wpAny_pure (wpAny_isSubtype_exc hC ?_)))
 rw [hcB]
 refine wpAny_ite_true rfl (wpAny_pure ?_)
 refine wpAny_bind ?_
 refine wpAny_bind ?_
 refine wpAny_loadPart_at he (wpAny_pure (wpAny_ite_false rfl ?_))
 refine wpAny_bind ?_
 unfold raisedInstance
 refine wpAny_bind ?_
 unfold typeOf
 refine wpAny_bind (wpAny_loadPart_at he (wpAny_pure ?_))
 refine wpAny_bind ?_
 refine wpAny_bind (wpAny_loadPart_at hC (wpAny_pure (wpAny_ite_true rfl (wpAny_pure ?_))))
 refine wpAny_bind ?_
 unfold setFlight
 refine wpAny_bind (wpAny_field he rfl rfl (wpAny_ite_false rfl (wpAny_pure ?_)))
 unfold raiseNew
 refine wpAny_bind (wpAny_handled ?_)
 rw [hh]
 exact wpAny_throw hE
abbrev bmV:List Value:=[.type "ValueError",.type "Exception",.type "BaseException",.type "object"]
def XL (K:W.Frag) (C S:Addr):Prop:=∃ nm q N bs sn sub ab col dd k0 k1 k2 k3 k5,K.lookup C=some (excClassObj nm q C N bs (.ref S::bmV) true sn sub ab col dd k0 k1 k2 k3 k5 "ValueError.__new__")
theorem XL.m {K:W.Frag} {C S N:Addr} {nm q:Str} {bs:List Value} {sn:List Str} {sub:List Value} {ab:Bool} {col:Option Bool} {dd:Option Addr} {k0 k1 k2 k3 k5:Option Value}
  (h:K.lookup C=some (excClassObj nm q C N bs (.ref S::bmV) true sn sub ab col dd k0 k1 k2 k3 k5 "ValueError.__new__")):XL K C S:=⟨_,_,_,_,_,_,_,_,_,_,_,_,_,_,h⟩
structure XIni (K:W.Frag) (C S f:Addr) (n:Str):Prop where
 cl:XL K C S
 up:W.excIn K S bmV "ValueError.__new__"=true
 ini:W.findIn K (.ref C) "__init__"=some (some (.ref f))
 fn:W.isFn K (.ref f)=true
 sa:W.findIn K (.ref C) "__setattr__"=some (some (.builtin "object.__setattr__"))
 na:W.findIn K (.ref C) n=some none
 ob:W.mroIn K C (.type "object")=some true
theorem XIni.hd {K:W.Frag} {C S f:Addr} {n:Str} (x:XIni K C S f n):W.hasDictIn K C=true:=by
 obtain ⟨nm,q,N,bs,sn,sub,ab,col,dd,k0,k1,k2,k3,k5,hl⟩:=x.cl
 unfold W.hasDictIn W.clsIn
 rw [hl]
 rfl
section
variable {prog:Program} {w:World} {A:Around} {E:Value->Shared->Prop} {K:W.Frag} {h:Heap} {g:Array GenState} {d:Drawn} {t:Nat} {os:OsState}
variable {nm q:Str} {C N S fI:Addr} {bs bm:List Value} {hdct:Bool} {sn:List Str} {sub:List Value} {ab:Bool} {col:Option Bool} {dd:Option Addr} {k0 k1 k2 k3 k5:Option Value} {n:Str}
theorem XIni.tail (x:XIni K C S fI n) (X:K.In h):OwnTail h bmV (.ref S :: bmV):=by
 obtain ⟨tl,N,nm,q,bs,hdct,sn,sub,ab,col,dd,k0,k1,k2,k3,k5,mN,hC,hN,hni,T⟩:=exc_obj X x.up
 exact .own hC hN hni .base
theorem zf9 {rest:List Value} {Q:Fin->Shared->Prop} (T:OwnTail h bmV bm) (hC:h.get? C=some (excClassObj nm q C N bs bm hdct sn sub ab col dd k0 k1 k2 k3 k5 "ValueError.__new__"))
  (X:K.In h) (hi:W.findIn K (.ref C) "__init__"=some (some (.ref fI))) (hf:W.isFn K (.ref fI)=true)
  (hq:∀ h' e,Heap.MadeExcOf h h' e (.ref C) rest->wpAny (model prog w) A (call (.ref fI) (.ref e :: rest)) (λr s'=>r=.none∧Q (.done (.ret (.ref e))) s') E ⟨h',g,d,t,os⟩) (hrest:rest.length≤sizeLine) :
  wpAny (model prog w) A (Builtin.«type.__call__» ⟨.ref C :: rest,[]⟩) Q E ⟨h,g,d,t,os⟩:=by
 have F:=PySem.F.excBase_ValueError
 repeat (first | with_reducible refine wpAny_loadPart_at hC ?_ | with_reducible refine wpAny_madeBy_exc hC ?_ | wp_step)
 refine codeAny_call_builtin_code (Code.quiet_builtin _ F.quiet) (wpAny_check_new_subT F T hC ?_)
 refine codeAny_exc_new_subT F T hC ?_ hrest
 show wpAny _ _ _ _ _ _
 have hk:∀ b o,h.get? b=some o->(((h.push {cls:= .type "tuple",data:= .seq rest.toArray})).push { cls:=.ref C,data:=.fields #[.ref h.objs.size,.none,.none,.none,.bool false,.none] }).get? b=some o :=
  λb o e=>Heap.get?_push_of_some _ (Heap.get?_push_of_some _ e)
 have hC₁:=hk _ _ hC
 have hget:(((h.push {cls:= .type "tuple",data:= .seq rest.toArray})).push
   { cls:=.ref C,data:=.fields #[.ref h.objs.size,.none,.none,.none,.bool false,.none] }).get? (h.objs.size+1)=some
   { cls:=.ref C,data:=.fields #[.ref h.objs.size,.none,.none,.none,.bool false,.none] }:=by heap_get
 have hcC:(Value.ref C :: bm).contains (.ref C)=true:=by simp
 have X₁:=X.keeps hk
 unfold isInstance
 repeat (first | with_reducible refine wpAny_loadPart_at hget ?_ | (with_reducible refine wpAny_isSubtype_exc hC₁ ?_;rw [hcC]) | wp_step)
 show wpAny _ _ (typeLookup (.ref C) _) _ _ _
 refine (W.looks_findIn X₁ hi).at ?_
 refine wpAny_holding (wpAny_bind ((W.bind_fn X₁ _ (beq_iff_eq.mp hf)).at ?_))
 refine (wpAny_bind (wpAny_mono (hq _ (h.objs.size+1) ⟨λb o hb=>Heap.get?_push_of_some _ (Heap.get?_push_of_some _ hb),Heap.get?_none_of_le (Nat.le_succ _),h.objs.size,hget,Heap.get?_none_of_le (Nat.le_refl _),?_⟩) (λr s' hr=>?_) λ_ _ x=>x))
 ·exact Heap.get?_push_of_some _ (Heap.get?_push_at rfl rfl)
 ·obtain ⟨rfl,hQ⟩:=hr
  wp_walk
  exact hQ
theorem zhO {rest:List Value} {Q:Value->Shared->Prop} (T:OwnTail h bmV bm) (hC:h.get? C=some (excClassObj nm q C N bs bm hdct sn sub ab col dd k0 k1 k2 k3 k5 "ValueError.__new__"))
  (X:K.In h) (hi:W.findIn K (.ref C) "__init__"=some (some (.ref fI))) (hf:W.isFn K (.ref fI)=true)
  (hq:∀ h' e,Heap.MadeExcOf h h' e (.ref C) rest->wpAny (model prog w) (A.under (.builtin "type.__call__" ⟨.ref C :: rest,[]⟩)) (call (.ref fI) (.ref e :: rest)) (λr s'=>r=.none∧Q (.ref e) s') E ⟨h',g,d,t,os⟩) (hrest:rest.length≤sizeLine) :
  wpAny (model prog w) A (call (.ref C) rest) Q E ⟨h,g,d,t,os⟩:=by
 have f1:=tc_lookup
 have f2:=tc_bind (.ref C)
 have hT:(⟨h,g,d,t,os⟩:Shared).TypeIs (.ref C) "type":=⟨_,hC,rfl⟩
 refine wpAny_call (codeAny_of_tree ?_)
 show wpAny _ _ (callAny (.ref C) _) _ _ _
 repeat (any_goals (first | assumption | with_reducible refine wpAny_loadPart_at hC ?_ | wp_step))
 refine ⟨rfl,?_⟩
 refine codeAny_call_builtin_at (Code.quiet_builtin _ (by decide+kernel)) entry_typeCall (wpAny_check_type_call_sub hC (zf9 T hC X hi hf (λh' e hm=>?_) hrest))
 exact hq h' e hm
end
section
variable {prog:Program} {w:World} {A:Around} {E:Value->Shared->Prop} {K:W.Frag} {s:Shared} {x C S fI:Addr} {n:Str} {v:Value} {ox:Obj} {vs:Array Value}
theorem ziE {Q:Unit->Shared->Prop} (X:K.In s.heap) (xi:XIni K C S fI n) (hx:s.heap.get? x=some ox) (hc:ox.cls=.ref C) (hd:ox.data=.fields vs) (hn:ox.dict=none)
  (hq:∀ (h':Heap) (dd:Addr) (t':Nat),s.heap.get? dd=none->h'.get? x=some { ox with dict:=some dd }->h'.Ns1 dd (λy=>if y=n then some v else none)->(∀ b o,b≠x->s.heap.get? b=some o->h'.get? b=some o)->Q () { s with heap:=h',toks:=t' }) :
  wpAny (model prog w) A (setAttr (.ref x) n v) Q E s:=by
 obtain ⟨h,g,d,t,os⟩:=s
 obtain ⟨oc,odi,oda,osl⟩:=ox
 dsimp only at hc hd hn hx hq X
 subst hc hd hn
 obtain ⟨nm,q,N,bs,sn,sub,ab,col,dd,k0,k1,k2,k3,k5,hl⟩:=xi.cl
 have hC:=X _ _ hl
 have I:W.InstAt h x ⟨.ref C,none,.fields vs,osl⟩ C none:=⟨hx,rfl,rfl,trivial⟩
 have SF:=PySem.F.store_ValueError
 refine W.set_plain (s:=⟨h,g,d,t,os⟩) X I xi.sa ?_
 have sub':W.Looks (model prog w) h (isInstance (.ref x) (.type "object")) true:=I.type.andThen (W.looks_mroIn X xi.ob)
 refine codeAny_call_builtin SF.slot.plain SF.entry (@W.check_slot (model prog w) _ _ ⟨h,g,d,t+1,os⟩ "object.__setattr__" "object" "__setattr__" (.ref x) [.str n t,v] [] _ SF.kind SF.split sub' (SF.args (.ref x) (.str n t) v) ?_)
 have hm:W.Looks (model prog w) h (mroOf (.ref C)) (.ref C :: .ref S :: bmV):=λA Q E s k q=>wpAny_mroOf_exc (h:=s.heap) (g:=s.gens) (d:=s.drawn) (t:=s.toks) (os:=s.os) (k _ _ hC) q
 rw [W.osa_eq,refuse_eq]
 refine wpAny_bind (wpAny_bind (I.type.at (wpAny_bind (hm.at ?_))))
 rw [refuseLoop_ref,refuseLoop_ref,SF.passes]
 refine wpAny_pure (wpAny_bind (I.type.at (wpAny_bind ((W.looks_findIn X xi.na).at (wpAny_bind (W.Looks.now.at ?_))))))
 show wpAny _ _ (storeInOwnDict (.ref x) (.ref C) (.str n t) n v false) _ _ _
 have hx₁:(h.push { cls:=.type "dict",data:=.dict #[] }).get? x=some ⟨.ref C,none,.fields vs,osl⟩:=Heap.get?_push_of_some _ hx
 have hxs:x≠h.objs.size:=Nat.ne_of_lt (Heap.lt_size hx)
 unfold storeInOwnDict ownDictForStores instanceDict
 generalize hsd:storeInDict=sd
 repeat (first | with_reducible refine wpAny_loadPart_at hx ?_ | with_reducible refine wpAny_loadPart_at hC ?_ | wp_step)
 subst hsd
 have hx₂:(((h.push {cls:= .type "dict",data:= .dict #[]}).update x λo=> {cls:=o.cls,dict:=some h.objs.size,data:=o.data,slots:=o.slots})).get? x=some ⟨.ref C,some h.objs.size,.fields vs,osl⟩:=Heap.get?_update_self _ hx₁ rfl
 have hgd:(((h.push {cls:= .type "dict",data:= .dict #[]}).update x λo=> {cls:=o.cls,dict:=some h.objs.size,data:=o.data,slots:=o.slots})).get? h.objs.size
    =some { cls:=.type "dict",data:=.dict #[] }:=(Heap.get?_update_ne _ _ _ _ hxs.symm).trans (Heap.get?_push_at rfl rfl)
 have hnd:(((h.push {cls:= .type "dict",data:= .dict #[]}).update x λo=> {cls:=o.cls,dict:=some h.objs.size,data:=o.data,slots:=o.slots})).Ns h.objs.size (λ_=>none) :=
  ⟨_,#[],_,hgd,rfl,λe he=>absurd he (by simp),λ_=>rfl⟩
 unfold storeInDict newKeyGuard
 refine wpAny_bind (wpAny_pure (wpAny_bind (wpAny_nsSet1 (Heap.Ns1.of_empty hnd) λh' hn' hs=>?_)))
 obtain ⟨oD,esD,epD,hoD,hdD,hcD⟩:=hn'.count (Within.cons n v Within.nil)
 refine wpAny_bind (wpAny_lookBehind hoD (by rw [hdD];exact pastItsLine_dict (Nat.le_trans hcD (by rw [List.length_cons,List.length_nil,sizeLine_eq];omega))) ?_)
 wp_walk
 refine hq h' h.objs.size _ (Heap.get?_none_of_le (Nat.le_refl _)) ((hs.2 x hxs).trans hx₂) hn' (λb o hb q=>?_)
 exact (hs.2 b (Nat.ne_of_lt (Heap.lt_size q))).trans ((Heap.get?_update_ne _ _ _ _ hb).trans (Heap.get?_push_of_some _ q))
end
def excN (a C:Addr) (vs:Array Value) (dct:Option Addr):HO:=.ext λh=>∃ o,h.get? a=some o∧o.cls=.ref C∧o.data=.fields vs∧o.dict=dct
theorem zge {P:Program} {w:World} {H:Hp} {h:Heap} {a C:Addr} {vs:Array Value} {dct:Option Addr} (x:∃ o,h.get? a=some o∧o.cls=.ref C∧o.data=.fields vs∧o.dict=dct):zbs P w H h a (excN a C vs dct):=by
 obtain ⟨o,hx,hc,hd,hdd⟩:=x
 refine ⟨⟨o,hx,hc,hd,hdd⟩,⟨o,hx⟩,λh1 h2 ⟨o',q1,q2,q3,q4⟩ k=>⟨o',k _ q1,q2,q3,q4⟩⟩
section
variable {X:Cx} {pins:List (Addr×Obj)} {σ:St} {H:Hp} {s:Shared} {a C S fI:Addr} {vs:Array Value} {f:Str}
theorem Inv.trackG {o:HO} (I:Inv X pins σ H s) (ap:H a=none∧X.s₀.heap.get? a=none∧a≠X.env.locals∧(∀ x c,X.env.cells.lookup x=some c->c≠a)∧∀ p∈X.pn++pins,p.1≠a) (ok:zbs X.prog X.w (upd H a o) s.heap a o):Inv X pins σ (upd H a o) s:=by
 obtain ⟨hn,a2,a3,a4,a5⟩:=ap
 refine ⟨I.ok,I.os,I.bare,⟨I.base.keep,I.base.slot,λb o' q n hx=>?_,I.base.there,λb xs q=>?_,λb o' u q=>?_,λb ps q=>?_⟩,I.loc,I.cell,?_,λy c q=>?_,λp hp=>?_,λb u q=>?_,I.len⟩
 ·have hb:b≠a:=λz=>by rw [z,a2] at q;cases q
  rw [zad hb];exact I.base.free b o' q n hx
 ·have q1:=I.base.tups b xs q
  rw [zad (zam q1 hn)];exact q1
 ·have q1:=I.base.frzs b o' u q
  rw [zad (zam q1 hn)];exact q1
 ·obtain ⟨more,q1⟩:=I.base.tbls b ps q
  exact ⟨more,by rw [zad (zam q1 hn)];exact q1⟩
 ·rw [zad (Ne.symm a3)];exact I.free
 ·rw [zad (a4 y c q)];exact I.freeC y c q
 ·obtain ⟨q1,q2,q3,q4,q5⟩:=I.pin p hp
  exact ⟨q1,by rw [zad (a5 p hp)];exact q2,q3,q4,q5⟩
 ·by_cases hb:b=a
  ·subst hb;rw [zak] at q;cases q;exact ok
  ·rw [zad hb] at q
   exact ((I.hok b u q)).stay (λ_ _ _ z=>z) (λc z=>by rw [zad (zam z hn)];exact z) λc xs z=>by rw [zad (zam z hn)];exact z
def zeF (H:Hp) (a:Addr):Hp:=λb=>if b=a then none else H b
theorem zcm {H:Hp} {a b:Addr} (h:b≠a):zeF H a b=H b:=by unfold zeF;rw [if_neg h]
theorem zco {H:Hp} {a b:Addr} (h:H b=none):zeF H a b=none:=by unfold zeF;split<;>first | rfl | exact h
theorem Inv.untrack {φ:Heap->Prop} (I:Inv X pins σ H s) (e:H a=some (.ext φ)):Inv X pins σ (zeF H a) s:=by
 have ne:∀ {b:Addr} {u:HO},H b=some u->u≠.ext φ->b≠a:=λq z w=>by rw [w,e] at q;exact z (Option.some.inj q).symm
 refine ⟨I.ok,I.os,I.bare,⟨I.base.keep,I.base.slot,λb o' q n hx=>zco (I.base.free b o' q n hx),I.base.there,λb xs q=>?_,λb o' u q=>?_,λb ps q=>?_⟩,I.loc,I.cell,zco I.free,λy c q=>zco (I.freeC y c q),λp hp=>?_,λb u q=>?_,I.len⟩
 ·have q1:=I.base.tups b xs q
  rw [zcm (ne q1 (λz=>nomatch z))];exact q1
 ·have q1:=I.base.frzs b o' u q
  rw [zcm (ne q1 (λz=>nomatch z))];exact q1
 ·obtain ⟨more,q1⟩:=I.base.tbls b ps q
  exact ⟨more,by rw [zcm (ne q1 (λz=>nomatch z))];exact q1⟩
 ·obtain ⟨q1,q2,q3,q4,q5⟩:=I.pin p hp
  exact ⟨q1,zco q2,q3,q4,q5⟩
 ·have hb:b≠a:=λz=>by rw [z] at q;unfold zeF at q;rw [if_pos rfl] at q;cases q
  rw [zcm hb] at q
  exact ((I.hok b u q)).stay (λ_ _ _ z=>z) (λc z=>by rw [zcm (ne z (λz=>nomatch z))];exact z) λc xs z=>by rw [zcm (ne z (λz=>nomatch z))];exact z
theorem zg7 {A:Around} {E:Value->Shared->Prop} {y:V} {u:Value} {Q:Unit->Shared->Prop} (I:Inv X pins σ H s) (hex:X.ex=[]) (e:H a=some (excN a C vs none)) (xi:XIni X.K C S fI f) (ry:zbM y u)
  (h:∀ d s',H d=none->d≠a->Inv X pins σ (upd (upd H a (excN a C vs (some d))) d (.xd [(f,y)])) s'->Q () s'):wpAny (model X.prog X.w) A (setAttr (.ref a) f u) Q E s:=by
 obtain ⟨⟨o,h1,h2,h3,h4⟩,_⟩:=(show zbs X.prog X.w H s.heap a (excN a C vs none) from I.hok a _ e)
 refine ziE I.kIn xi h1 h2 h3 h4 λh' d t' hd hx hns k=>?_
 have hHd:=I.tfree hd
 have da:d≠a:=λz=>by rw [z,h1] at hd;cases hd
 have I1:Inv X pins σ (upd H a (excN a C vs (some d))) { s with heap:=h',toks:=t' } :=
  I.write (x:=a) (e:=a) (by rw [e];exact True.intro) (.inl rfl) (λb o hb q=>k b o hb q) ⟨_,hx⟩ (zge ⟨_,hx,h2,h3,rfl⟩)
 obtain ⟨f1,f2⟩:=I.fz hex hd
 refine h d _ hHd da (I1.trackG ⟨by rw [zad da];exact hHd,f1,λz=>?_,λx c ec z=>?_,f2⟩ ⟨_,hns,λg=>?_⟩)
 ·obtain ⟨m,⟨o',es,ep,ho',hd',_⟩,_⟩:=I.loc
  rw [← z,hd] at ho';cases ho'
 ·obtain ⟨v,oc,hoc,hcd⟩:=I.cell x c ec
  rw [z,hd] at hoc;cases hoc
 ·by_cases q:g=f
  ·have hb:(g == f)=true:=beq_iff_eq.mpr q
   simp only [List.lookup,hb,if_pos q];exact ry
  ·have hb:(g == f)=false:=beq_eq_false_iff_ne.mpr q
   simp only [List.lookup,hb,if_neg q];exact True.intro
end
def sXFld (K:W.Frag) (ta tv:TE) (f:Str):TS:=λD σ H=>tv σ H λy H1=>ta σ H1 λx H2=>∃ a C S fI vs,x=.ref a∧H2 a=some (excN a C vs none)∧XIni K C S fI f∧∀ d,H2 d=none->d≠a->D.nx σ (upd (upd H2 a (excN a C vs (some d))) d (.xd [(f,y)]))
theorem ziQ {X:Cx} {o value:Expr} {f:Str} {pos pos':Pos} {ta tv:TE} (hex:X.ex=[]) (ha:PE X o ta) (hv:PE X value tv) (hs:swapsWith value (some (.Attribute o f pos')) pos.line X.env=pure false):PS X (.Assign [.Attribute o f pos'] value pos) (sXFld X.K ta tv f):=by
 intro pins s σ H D I h
 refine plainObj_wpAny_Assign_Attribute (thn (hv pins s σ H _ I h) λu s1 ⟨y,H1,I1,ry,q⟩=>thn (ha pins s1 σ H1 _ I1 q) λov s2 ⟨x,H2,I2,rx,a,C,S,fI,vs,ex,ea,xi,q2⟩=>?_) hs
 subst ex
 obtain rfl:ov=Value.ref a:=rx
 exact zg7 I2 hex ea xi ry λd s3 hd hne I3=>⟨σ,_,I3,q2 d hd hne⟩
def zkH (C:Addr) (f:Str):Sp:=λvs H Q _=>∃ p v cs,vs=[.ref p,v]∧H p=some (excN p C cs none)∧∀ d,H d=none->d≠p->Q .non (upd (upd H p (excN p C cs (some d))) d (.xd [(f,v)]))
theorem Fun.okXI {P:Program} {w:World} {K:W.Frag} {mg:Str->Option Value} {base:Heap} {x qual n a b:Str} {st:Stmt} {f C S fI:Addr} {fd:FuncData} {k:Nat} {p1 p2 p3 p4:Pos} (F:Fun K x qual st f fd) (hS:FnScope [a,b] [a,b] (zah st)) (xi:XIni K C S fI n)
  (hb:zbK st=[.Assign [.Attribute (.Name a p1) n p2] (.Name b p3) p4]) (va:Vis (zah st) a) (vb:Vis (zah st) b) (hs:∀ env:Env,swapsWith (.Name b p3) (some (.Attribute (.Name a p1) n p2)) p4.line env=pure false:=by exact λ_=>rfl)
  (h1:(a == ("__debug__" :Str))=false:=by decide) (h2:(b == ("__debug__" :Str))=false:=by decide) (h3:(a == ("__classdict__" :Str))=false:=by decide) (h4:(b == ("__classdict__" :Str))=false:=by decide):FnOk P w K mg base (CXE P w) (k+1) f fd [a,b] (zkH C n):=by
 refine F.okN hS (λvs H Q E h=>?_) λcdv A outer s H vs Q E _ hsp=>?_
 ·obtain ⟨p,v,cs,rfl,_⟩:=h;rfl
 ·obtain ⟨p,v,cs,rfl,hp,hq⟩:=hsp
  rw [hb]
  exact ⟨_,zg8 (ziQ rfl (zfo (i:=0) rfl va h1 h3) (zfo (i:=1) rfl vb h2 h4) (hs _)),v,rfl,.ref p,rfl,p,C,S,fI,cs,rfl,hp,xi,hq⟩
section
variable {prog:Program} {w:World} {A:Around} {E:Value->Shared->Prop} {s:Shared} {env:Env} {K:W.Frag}
variable {nm q:Str} {C N fI:Addr} {bs bm:List Value} {hdct:Bool} {sn:List Str} {sub:List Value} {ab:Bool} {col:Option Bool} {dd:Option Addr} {k0 k1 k2 k3 k5:Option Value}
theorem zfk {x:Str} {np cpos pos:Pos} {args:List Expr} {Q:Flow->Shared->Prop} (hbase:bm.contains (.type "BaseException")=true) (hh:A.handled=none) (hplain:(backTo cpos (starEach args env)).any (·.1)=false)
  (hi:W.findIn K (.ref C) "__init__"=some (some (.ref fI))) (hf:W.isFn K (.ref fI)=true)
  (h:wpAny (model prog w) A (eval (.Name x np) env) (λf s₁=>f=.ref C∧wpAny (model prog w) A (evalArgs (.ref C) true (backTo cpos (starEach args env)) [])
   (λa s₂=>a.kw=[]∧a.pos.length≤sizeLine∧s₂.heap.get? C=some (excClassObj nm q C N bs bm hdct sn sub ab col dd k0 k1 k2 k3 k5 "ValueError.__new__")∧OwnTail s₂.heap bmV bm∧K.In s₂.heap ∧
    ∀ h' e,Heap.MadeExcOf s₂.heap h' e (.ref C) a.pos->wpAny (model prog w) (A.under (.builtin "type.__call__" ⟨.ref C :: a.pos,[]⟩)) (call (.ref fI) (.ref e :: a.pos)) (λr s'=>r=.none∧∃ oe t,s'.heap.get? C=some (excClassObj nm q C N bs bm hdct sn sub ab col dd k0 k1 k2 k3 k5 "ValueError.__new__") ∧
     s'.heap.get? e=some oe∧oe.cls=Value.ref C∧oe.data=Data.fields #[Value.ref t,Value.none,Value.none,Value.none,Value.bool false,Value.none]∧E (.ref e) s') E { s₂ with heap:=h' }) E s₁) E s) :
  wpAny (model prog w) A (exec (.Raise (some (.Call (.Name x np) args [] cpos)) none pos) env) Q E s:=by
 rw [arm_exec_Raise]
 first
  | refine wpAny_bind (wpAny_standAt (zc7 (C:=C) (nm:=nm) (q:=q) (N:=N) (bs:=bs) (bm:=bm) (hdct:=hdct) (sn:=sn) (sub:=sub) (ab:=ab) (col:=col) (dd:=dd) (k0:=k0) (k1:=k1) (k2:=k2) (k3:=k3) (k5:=k5) (newId:="ValueError.__new__") hbase hh (wpAny_bind (wpAny_mono (wpAny_Call_ofName (wpAny_mono h (λf s₁ h₁=> ?_) λ_ _ x=>x)) (λv s₃ h₃=>wpAny_bind (wpAny_standAt (wpAny_pure h₃))) λ_ _ x=>x))))
  | (refine wpAny_bind (wpAny_standAt (zc7 (C:=C) (nm:=nm) (q:=q) (N:=N) (bs:=bs) (bm:=bm) (hdct:=hdct) (sn:=sn) (sub:=sub) (ab:=ab) (col:=col) (dd:=dd) (k0:=k0) (k1:=k1) (k2:=k2) (k3:=k3) (k5:=k5) (newId:="ValueError.__new__") hbase hh ?_));refine wpAny_bind (wpAny_mono (wpAny_Call_ofName (wpAny_mono h (λf s₁ h₁=> ?_) λ_ _ x=>x)) (λv s₃ h₃=>wpAny_bind (wpAny_standAt (wpAny_pure h₃))) λ_ _ x=>x))
 obtain ⟨rfl,h₁⟩:=h₁
 unfold callWith
 refine wpAny_bind (wpAny_holding (wpAny_mono h₁ (λa s₂ h₂=>wpAny_bind (wpAny_standAt ?_)) λ_ _ x=>x))
 obtain ⟨apos,akw⟩:=a
 obtain ⟨hkw,hlen,hC,T,X,h₂⟩:=h₂
 obtain rfl:akw=[]:=hkw
 obtain ⟨hp,g,d,tk,os⟩:=s₂
 simp only [hplain]
 refine wpAny_bind (wpAny_keeperOf_exc hC ?_)
 refine wpAny_bind (zhO T hC X hi hf (λh' e hm=>?_) hlen)
 refine wpAny_mono (h₂ h' e hm) (λr s' hr=>⟨hr.1,wpAny_bind (wpAny_holding (wpAny_point (wpAny_pure ?_)))⟩) λ_ _ z=>z
 obtain ⟨_,oe,t,z1,z2,z3,z4,z5⟩:=hr
 exact ⟨e,oe,t,rfl,z1,z2,z3,z4,z5⟩
end
def tRaiseI (ta:TA) (C:Addr) (n:Str) (E:XS):TS:=λ_ σ H=>ta σ H λvs H1=>∃ v,vs=[v]∧∀ d,H1 d=none->E σ (.ref C) (some d) (upd H1 d (.xd [(n,v)]))
section
variable {X:Cx} {k:Nat} {ps:List Str} {x n:Str} {pos:Pos} {e:Expr} {es:List Expr} {t:TA} {C S f:Addr} {fd:FuncData}
theorem zgR {np cpos:Pos} (O:Own X) (hc:X.calm=true) (hg:Gl X x) (hm:X.mg x=some (.ref C)) (xi:XIni X.K C S f n) (G:FnOk X.prog X.w X.K X.mg X.base (CXE X.prog X.w) k f fd ps (zkH C n)) (hr:Room (k+1) X.A) (hb:zcX X.K fd ps [])
  (ha:PA X.nox (e::es) t) (hdb:(x==("__debug__" :Str))=false:=by decide) (he:starEach (e::es) X.env=(false,eval e X.env) :: starEach es X.env:=by rfl) (hpl:((backTo cpos (starEach es X.env))).any (·.1)=false:=by rfl) :
  PSX X (.Raise (some (.Call (.Name x np) (e::es) [] cpos)) none pos) (λD E σ H=>tRaiseI t C n E D σ H):=by
 intro pins s σ H D E I h
 obtain ⟨nm,q,N,bs,sn,sub,ab,col,dd,k0,k1,k2,k3,k5,hl⟩:=xi.cl
 have hC:=I.ok.mod.kin _ _ hl
 refine zfk (C:=C) (nm:=nm) (q:=q) (N:=N) (bs:=bs) (bm:=.ref S :: bmV) (hdct:=true) (sn:=sn) (sub:=sub) (ab:=ab) (col:=col) (dd:=dd) (k0:=k0) (k1:=k1) (k2:=k2) (k3:=k3) (k5:=k5)
  ((xi.tail I.ok.mod.kin).hasType PySem.F.excBase_ValueError.hasBase) (I.ok.hd hc) (by rw [he];show (false||((backTo cpos (starEach es X.env))).any (·.1))=false;rw [hpl];rfl) xi.ini xi.fn (zcH I hg hm ⟨rfl,?_⟩ hdb)
 have hA:=ha cpos pins s σ H _ (I.wish _) h
 rw [he] at hA ⊢
 refine Calls.evalArgs_plain (wpAny_mono hA (λus s1 ⟨vs,H1,I1,r,v,hv,qE⟩=>⟨rfl,?_,?_⟩) λ_ _ f=>f.elim)
 ·show us.length≤sizeLine
  rw [← r.length,hv];exact (show 1≤sizeLine by decide)
 ·have I2:=I1.unwish
  subst hv
  refine ⟨I2.bk _ _ hC,xi.tail I2.kIn,I2.kIn,λh' ea hx=>?_⟩
  obtain ⟨tp,hea,_,_⟩:=hx.there
  have I3:Inv X pins σ H1 { s1 with heap:=h' }:=I2.kept (t':=s1.toks) hx.keeps
  have fz:=I2.fz O.ex hx.new
  have tn:=I2.tfree hx.new
  have I4:=I3.trackG (o:=excN ea C #[Value.ref tp,Value.none,Value.none,Value.none,Value.bool false,Value.none] none) (zci I3 hea rfl tn fz) (zge ⟨_,hea,rfl,rfl,rfl⟩)
  have r2:zbl (.ref ea :: [v]) (.ref ea :: us):=.cons rfl r
  have hl2:(Value.ref ea :: us++[]).length=ps.length:=by
   rw [List.append_nil,← r2.length]
   exact G.len _ _ (λ_ _=>True) (λ_ _ _=>True) ⟨ea,v,_,rfl,(zak (H:=H1) (a:=ea) (o:=excN ea C #[] none)),λ_ _ _=>trivial⟩
  refine wpAny_call (codeAny_mono (G.run _ X.stack { s1 with heap:=h' } _ ⟨.ref ea :: us,[]⟩ (.ref ea :: us) (.ref ea :: [v])
   (λv' H'=>v'=.non∧∃ d,upd H1 ea (excN ea C #[Value.ref tp,Value.none,Value.none,Value.none,Value.bool false,Value.none] none) d=none∧d≠ea∧H'=upd (upd (upd H1 ea (excN ea C #[Value.ref tp,Value.none,Value.none,Value.none,Value.bool false,Value.none] none)) ea (excN ea C #[Value.ref tp,Value.none,Value.none,Value.none,Value.bool false,Value.none] (some d))) d (.xd [(n,v)]))
   (λ_ _ _=>False) (hr.make C us []) (I4.env0.make C us []) (by have:=hb { s1 with heap:=h' } (.ref ea :: us) I3.kIn hl2;rw [List.append_nil] at this;exact this) r2 ⟨ea,v,_,rfl,zak,λd hd hne=>⟨rfl,d,hd,hne,rfl⟩⟩) λrr s' hq=>?_)
  cases rr with
  | error e=>obtain ⟨_,_,_,_,_,_,_,_,_,_,f⟩:=hq;exact f.elim
  | ok fl =>
   cases fl with
   | next=>exact False.elim hq
   | brk=>exact False.elim hq
   | cont=>exact False.elim hq
   | ret u =>
    obtain ⟨v',H',I5,rv,hv',d,hd,hne,hH⟩:=I4.after hq
    subst hv' hH
    obtain rfl:u=Value.none:=rv
    have dn:H1 d=none:=by rw [zad hne] at hd;exact hd
    have e5:upd (upd (upd H1 ea (excN ea C #[Value.ref tp,Value.none,Value.none,Value.none,Value.bool false,Value.none] none)) ea (excN ea C #[Value.ref tp,Value.none,Value.none,Value.none,Value.bool false,Value.none] (some d))) d (.xd [(n,v)]) ea=some (excN ea C #[Value.ref tp,Value.none,Value.none,Value.none,Value.bool false,Value.none] (some d)):=by
     rw [zad (Ne.symm hne),zak]
    obtain ⟨⟨o,z1,z2,z3,z4⟩,_⟩:=(show zbs X.prog X.w _ s'.heap ea (excN ea C #[Value.ref tp,Value.none,Value.none,Value.none,Value.bool false,Value.none] (some d)) from I5.hok ea _ e5)
    have I6:=I5.untrack e5
    have e6:zeF (upd (upd (upd H1 ea (excN ea C #[Value.ref tp,Value.none,Value.none,Value.none,Value.bool false,Value.none] none)) ea (excN ea C #[Value.ref tp,Value.none,Value.none,Value.none,Value.bool false,Value.none] (some d))) d (.xd [(n,v)])) ea=upd H1 d (.xd [(n,v)]):=by
     funext b
     unfold zeF upd
     by_cases q1:b=ea
     ·rw [if_pos q1,if_neg (λz=>hne (z.symm.trans q1)),q1,tn]
     ·rw [if_neg q1]
      by_cases q2:b=d
      ·rw [if_pos q2,if_pos q2]
      ·rw [if_neg q2,if_neg q2,if_neg q1,if_neg q1]
    rw [e6] at I6
    exact ⟨rfl,o,tp,I6.bk _ _ hC,z1,z2,z3,σ,ea,.ref C,some d,_,rfl,I6,⟨o,_,.ref tp,z1,z2,z4,z3,rfl,by show 1<6;decide,by rw [zad (Ne.symm hne)];exact tn,fz,.inl rfl⟩,qE d dn⟩
end
theorem run_raiseI {E:XS} {Γ Γx:Ctx} {m:Bool} {u:TS} {C:Addr} {n:Str} {v:V} {ta:TA} {φ:Hp->Option Addr->Prop} (h:EvA Γ ta m [dV v]) (w:Wk Γ Γx) (hφ:∀ F d,F d=some (.xd [(n,v)])->φ F (some d)):Run E Γ (tSeq (tRaiseI ta C n E) u) (.ex C φ Γx):=λF0 Hb F H σ own D a q =>
 h F0 Hb F H σ own _ a λvs F1 H1 g1 q1=>by
  cases q1 with
  | cons q1 q2 =>
   cases q2;cases q1
   exact ⟨v,rfl,λd hd=>q (some d) _ _ σ own ((a.grow (g1.new hd)).wk w) (hφ _ d zak)⟩
section
variable {prog:Program} {w:World} {A:Around} {E:Value->Shared->Prop} {K:W.Frag} {C a:Addr} {h:Heap} {g:Array GenState} {d:Drawn} {t:Nat} {os:OsState} {f:Str} {v:Value} {od:Obj} {ox:Obj}
theorem zf1 {tk:Tok} {Q:Fin->Shared->Prop} (X:K.In h) (I:W.InstAt h a ox C (some od)) (hf:W.findObj K C (some od) f=some (.value v)) (hq:Q (.done (.ret v)) ⟨h,g,d,t,os⟩) :
  wpAny (model prog w) A (Builtin.«object.__getattribute__» ⟨[.ref a,.str f tk],[]⟩) Q E ⟨h,g,d,t,os⟩:=by
 have L0:=I.type (M:=model prog w)
 have L1:=W.looks_find (M:=model prog w) X I hf
 unfold Builtin.«object.__getattribute__»
 repeat (any_goals (first | assumption | with_reducible refine wpAny_bind (L0.at ?_) | with_reducible refine wpAny_bind (L1.at ?_) | with_reducible refine L0.at ?_ | with_reducible refine L1.at ?_ | wp_step))
theorem ziI {tk:Tok} {fill expr:Bool} {Q:Value->Shared->Prop} (X:K.In h) (c:XCls K C) (x:XAt h a C) (I:W.InstAt h a ox C (some od)) (hf:W.findObj K C (some od) f=some (.value v)) (hv:W.handedIn v=true) (hq:Q v ⟨h,g,d,t,os⟩) :
  wpAny (model prog w) A (getAttrBy (.ref a) (.str f tk) fill expr) Q E ⟨h,g,d,t,os⟩:=by
 have L0:=x.ty (M:=model prog w)
 have L1:=W.looks_findIn (M:=model prog w) X c.ga
 have L2:=W.looks_findIn (M:=model prog w) X c.gn
 have f3:=(PySem.F.attr_ValueError.ga).bind (.ref a)
 have hx0:(expr && onTheHeap (Value.builtin "BaseException.__getattribute__"))=false:=by cases expr<;>rfl
 have hx2:(Value.builtin "BaseException.__getattribute__" ==Value.builtin "object.__getattribute__")=false:=by decide +kernel
 have hx1:(onTheHeap (Value.ref C) && Value.builtin "BaseException.__getattribute__" ==Value.builtin "object.__getattribute__")=false:=by rw [hx2];rfl
 have hhd:=W.handedOut_of hv
 unfold getAttrBy
 repeat (any_goals (first | assumption | with_reducible refine wpAny_bind (L0.at ?_) | with_reducible refine wpAny_bind (L1.at ?_) | with_reducible refine wpAny_bind (L2.at ?_) | wp_step))
 refine codeAny_call_builtin PySem.F.attr_ValueError.ga.plain F.entry_bexc_ga (zep X c x (zf1 X I hf ?_))
 repeat (any_goals (first | assumption | rw [hhd] | wp_step))
theorem zhm {expr:Bool} {Q:Value->Shared->Prop} (X:K.In h) (c:XCls K C) (x:XAt h a C) (I:W.InstAt h a ox C (some od)) (hf:W.findObj K C (some od) f=some (.value v)) (hv:W.handedIn v=true) (hq:Q v ⟨h,g,d,t+1,os⟩) :
  wpAny (model prog w) A (getAttr (.ref a) f expr) Q E ⟨h,g,d,t,os⟩:=by
 unfold getAttr
 repeat (any_goals (first | assumption | with_reducible apply ziI X c x I hf hv | wp_step))
end
def tXFld (K:W.Frag) (ta:TE) (f:Str):TE:=λσ H Q=>ta σ H λx H1=>∃ a C d fs v,x=.ref a∧H1 a=some (excO a C (some d))∧H1 d=some (.xd fs)∧XCls K C∧NoAttr K C f∧W.hasDictIn K C=true∧fs.lookup f=some v∧Q v H1
theorem zgQ {X:Cx} {K:W.Frag} {e:Expr} {f:Str} {pos:Pos} {ta:TE} (hK:X.K=K) (he:PE X e ta) (hb:attributeBase e f X.env (eval e X.env)=eval e X.env):PE X (.Attribute e f pos) (tXFld K ta f):=by
 subst hK
 intro pins s σ H Q I h
 refine zgC hb (thn (he pins s σ H _ I h) λu s1 ⟨x,H1,I1,rx,a,C,d,fs,v,ex,ea,ed,c,n,hh,l,q⟩=>?_)
 subst ex
 obtain rfl:u=Value.ref a:=rx
 obtain ⟨⟨o,vs,z1,z2,z3,z4⟩,_⟩:=(show zbs X.prog X.w H1 s1.heap a (excO a C (some d)) from I1.hok a _ ea)
 obtain ⟨mA,hns,r⟩:=(show zbs X.prog X.w H1 s1.heap d (.xd fs) from I1.hok d _ ed)
 obtain ⟨u,hu,ru⟩:=zih.some_of (v:=v) (o:=mA f) (by rw [← l];exact r f)
 obtain ⟨od,ho,hlk⟩:=zeJ hns
 obtain ⟨oc,odi,oda,osl⟩:=o
 dsimp only at z2 z3 z4
 subst z2 z3 z4
 obtain ⟨h,g,dr,t,os⟩:=s1
 exact zhm I1.kIn c ⟨_,vs,z1,rfl,rfl⟩ (⟨z1,rfl,rfl,ho⟩:W.InstAt h a ⟨.ref C,some d,.fields vs,osl⟩ C (some od)) (W.findObj_own hh n rfl (by rw [hlk,hu])) (zeV ru) ⟨v,H1,I1.tok _,ru,q⟩
theorem zgw {Γ:Ctx} {K:W.Frag} {m:Bool} {ε:Type} [XF ε] {xc:ε->Addr} {x:Option ε} {ta:TE} {f:Str} {v:V} (h:Ev Γ ta false (dOpt (λe=>dE (xc e) (XF.fs e)) x)) (hx:∃ e,x=some e∧(XF.fs e).lookup f=some v∧XCls K (xc e)∧NoAttr K (xc e) f∧W.hasDictIn K (xc e)=true) :
  Ev Γ (tXFld K ta f) m (dV v):=λF0 Hb F H σ own Q a k=>by
 obtain ⟨e,rfl,l,c,n,hh⟩:=hx
 refine h F0 Hb F H σ own _ a λu F1 H1 g1 q1=>?_
 obtain ⟨p,dct,rfl,hp,hd⟩:=q1
 rcases hd with z | ⟨d,rfl,hd⟩
 ·rw [z] at l;cases l
 ·exact ⟨p,xc e,d,_,v,rfl,(zaM.trans g1.fh) _ _ hp,(zaM.trans g1.fh) _ _ hd,c,n,hh,l,k v F1 H1 g1 rfl⟩
def zje (R:Hp):Hp:=λa=>match R a with
 | some (.lst vs)=>some (.lst vs)
 | _=>none
theorem zd6 {R:Hp} {a:Addr} {vs:List V} (h:R a=some (.lst vs)):zje R a=some (.lst vs):=by unfold zje;rw [h]
theorem zgq {R:Hp} {a:Addr} {o:HO} (q:zje R a=some o):∃ vs,o=.lst vs∧R a=some (.lst vs):=by
 unfold zje at q
 split at q
 ·rename_i vs e;cases q;exact ⟨vs,rfl,e⟩
 ·cases q
def LD (d:Ds):Prop:=∀ R v,d.pr R v->d.pr (zje R) v
theorem zg2 {R:Hp}:∀ {xss:Jq} {vs:List V},Paired (λv (d:Ds)=>d.pr R v) vs (xss.map λl=>dL (l.map dI))->Paired (λv (d:Ds)=>d.pr (zje R) v) vs (xss.map λl=>dL (l.map dI))
 | [],_,.nil=>.nil
 | l :: _,_,.cons ⟨p,ws,h1,h2,h3⟩ t=>.cons ⟨p,ws,h1,zd6 h2,by rw [zcA (f:=V.int) h3];exact ze4⟩ (zg2 t)
theorem zjq {xss:Jq}:LD (dL (xss.map λl=>dL (l.map dI))):=λR v ⟨p,vs,h1,h2,h3⟩=>⟨p,vs,h1,zd6 h2,zg2 h3⟩
open Classical in
noncomputable def wideL (F Hb H:Hp) (own:Nat->Option Addr):Hp:=λa=>match F a with
 | some o=>some o
 | none=>if Hb a=none∧∀ j,own j≠some a then zje H a else none
theorem zea {F Hb H:Hp} {own:Nat->Option Addr}:Same F (wideL F Hb H own):=λa o q=>by unfold wideL;rw [q]
theorem zfv {F Hb H:Hp} {own:Nat->Option Addr} {a:Addr} {o:HO} (q:wideL F Hb H own a=some o):F a=some o∨∃ vs,o=.lst vs∧H a=some (.lst vs):=by
 unfold wideL at q
 cases z:F a with
 | some o'=>rw [z] at q;exact .inl q
 | none =>
  rw [z] at q
  dsimp only at q
  split at q
  ·exact .inr (zgq q)
  ·cases q
theorem At.wideL {F0 Hb F H:Hp} {σ:St} {own:Nat->Option Addr} {Γ:Ctx} {i0:Nat} {d0:Ds} (a:At F0 Hb F H σ own Γ) (hno:zfc Γ=true) (e0:Γ[i0]?=some (.tl d0)) (hd:LD d0) (ht:(Γ.set i0 .no).all zkQ=true):At F0 Hb (wideL F Hb H own) H σ own (Γ.set i0 (.va true d0)):=by
 have hi0:i0<Γ.length:=(List.getElem?_eq_some_iff.mp e0).1
 refine ⟨⟨a.g.f.trans zea,λb o q=>?_,a.g.h,λb h1 h2=>?_⟩,a.inj,a.liv,λi s e=>?_,by rw [List.length_set];exact a.len⟩
 ·rcases zfv q with q1 | ⟨vs,q2,q1⟩
  ·exact a.fh _ _ q1
  ·rw [q2];exact q1
 ·unfold L2.wideL
  rw [a.g.no b h1 h2]
  dsimp only
  rw [if_neg (λz=>h1 z.1)]
 ·by_cases z:i0=i
  ·subst z
   rw [List.getElem?_set_self hi0] at e
   cases e
   obtain ⟨x,R,h1,h2,h3,h4,h5⟩:=a.sl _ _ e0
   refine ⟨x,h1,d0.up (λb o w=>?_) (hd R x h5)⟩
   obtain ⟨vs,e2,y⟩:=zgq w
   rw [e2]
   refine zbz.mpr ⟨(h3 b _ y).2,?_⟩
   unfold L2.wideL
   rw [(h3 b _ y).1]
   dsimp only
   rw [if_pos ⟨(h3 b _ y).2,λj z=>by rw [h4 j b z] at y;cases y⟩]
   exact zd6 (h2 b _ y)
  ·have hnt:zkQ s=true:=List.all_eq_true.mp ht s (List.mem_of_getElem? (by rw [List.getElem?_set_ne z] at e ⊢;exact e))
   rw [List.getElem?_set_ne z] at e
   have h:=a.sl i s e
   cases s with
   | va m d =>
    obtain ⟨x,h1,h2⟩:=h
    exact ⟨x,h1,d.up (zaS zea) h2⟩
   | no=>trivial
   | ow m ds =>
    obtain ⟨p,vs,h1,h2,h3,h4,h5,h6⟩:=h
    refine ⟨p,vs,h1,h2,?_,h4,h5,zbU (ds:=[]) (zaS zea) h6⟩
    unfold L2.wideL
    rw [h3]
    dsimp only
    rw [if_neg (λz=>z.2 i h2)]
   | ol p ds =>
    obtain ⟨vs,h1,h2,h3,h4,h5,h6⟩:=h
    refine ⟨vs,h1,h2,?_,h4,h5,zbU (ds:=[]) zea h6⟩
    unfold L2.wideL
    rw [h3]
    dsimp only
    rw [if_neg (λz=>z.2 i h2)]
   | ob m C p dx fs =>
    have:=List.all_eq_true.mp hno _ (List.mem_of_getElem? e)
    cases this
   | tl d=>exact absurd (show false=true from hnt) Bool.false_ne_true
def zkm (F F' H:Hp):Hp:=λb=>match H b with
 | some _=>F b
 | none=>F' b
theorem zdi {F F' H:Hp} {b:Addr} (h:H b=none):zkm F F' H b=F' b:=by unfold zkm;rw [h]
theorem zcV {F F' H:Hp} {b:Addr} (h:H b≠none):zkm F F' H b=F b:=by
 unfold zkm
 cases q:H b with
 | none=>exact absurd q h
 | some o=>rfl
section
variable {E:XS} {Γ Γx:Ctx} {m:Bool} {K:W.Frag} {α β ε:Type} [XF ε] {u:TS} {o:Oc} {ds:List Ds}
theorem zgU {ι:Type} {args:ι->List Ds} {pre:ι->Prop} {res:ι->Rs} {tr:TA} {xc:ε->Addr} {d:α->Ds} {r:Except ε α} {kk:α->Except ε β} {i i0:Nat} {d0:Ds} (fo:β->Oc) (x:ι) (e0:Γ[i0]?=some (.tl d0)) (hd:LD d0) (ht:(Γ.set i0 .no).all zkQ=true) (hno:zfc Γ=true)
  (h:EvA (Γ.set i0 (.va true d0)) tr false ds) (ha:ds=args x) (hp:pre x) (hr:res x=zkN xc true d r) (w:Wk Γ Γx)
  (k:∀ v,r=.ok v->Run E (Γ.set i (.va true (d v))) u (foX xc Γx fo (kk v))):Run E Γ (tSeq (zjt (zju (Spv args pre res) tr) i E) u) (foX xc Γx fo (zjI r kk)):=λF0 Hb F H σ own D a q=>by
 subst ha
 refine h F0 Hb _ H σ own _ (a.wideL hno e0 hd ht) λvs F1 H1 g1 q1=>⟨x,F1,g1.fh,by rw [List.append_nil];exact q1,hp,?_⟩
 rw [hr]
 have gr:∀ F' H',Grow F1 H1 F' H'->Grow F H (zkm F F' H) H':=λF' H' g=>by
  refine ⟨λb o z=>?_,λb o z=>?_,g1.h.trans g.h,λb z1 z2=>by rw [zcV z1];exact z2⟩
  ·rw [zcV (by rw [a.fh _ _ z];simp)];exact z
  ·by_cases c:H b=none
   ·rw [zdi c] at z;exact g.fh _ _ z
   ·rw [zcV c] at z;exact g.h _ _ (g1.h _ _ (a.fh _ _ z))
 cases r with
 | ok v =>
  refine λv' F' H' g qv=>k v rfl F0 Hb _ H' _ own D ((a.grow (gr F' H' g)).set i ((d v).up (λb o z=>?_) qv)) q
  obtain ⟨z1,z2⟩:=zbz.mp z
  have c:H b=none:=g1.h.free z1
  exact zbz.mpr ⟨a.g.h.free c,by rw [zdi c];exact z2⟩
 | error e =>
  refine λdct F' H' g p=>q dct _ H' σ own ((a.grow (gr F' H' g)).wk w) (p.imp id λ⟨d,z1,z2⟩=>⟨d,z1,?_⟩)
  by_cases c:H d=none
  ·rw [zdi c];exact z2
  ·rw [zcV c]
   cases y:wideL F Hb H own d with
   | none=>rw [(g1.trans g).no d c y] at z2;cases z2
   | some o =>
    have:=(g1.trans g).f _ _ y
    rw [z2] at this
    cases this
    rcases zfv y with y | ⟨_,y,_⟩
    ·exact y
    ·cases y
theorem zhB {Γ:Ctx} {tr:TA} (h:EvA Γ tr true []):Ev Γ (zkL tr) true (dRI []):=λF0 Hb F H σ own Q a k=>zcO h F0 Hb F H σ own Q a λp vs F' H' g h1 h2 h3 q=>by
 cases q
 exact k (.ref p) (upd F' p (.lst [])) H' (g.take h1 h3) ⟨p,[],rfl,zbz.mpr ⟨a.g.h.free h1,zak⟩,.nil,by simp,.nil⟩
theorem zdR {α β:Type} {R S:α->β->Prop}:∀ {xs:List α} {ys:List β},Paired R xs ys->(∀ a∈xs,∀ b,R a b->S a b)->Paired S xs ys
 | _,_,.nil,_=>.nil
 | _,_,.cons q t,h=>.cons (h _ List.mem_cons_self _ q) (zdR t λa ha b=>h a (List.mem_cons_of_mem _ ha) b)
theorem zf4 {te:TE} {i:Nat} {nss:Jq} {ns:Ji} (e:Γ[i]?=some (.tl (dRI nss))) (hno:zfc Γ=true) (hv:EvO Γ te true (ns.map dI)) (hz:nss.length<sizeLine) (kk:Run E ((unC Γ).set i (.tl (dRI (nss++[ns])))) u o) :
  Run E Γ (tSeq (zeZ (tBM K "list" zcj (ze8 i) (zbO te zdX))) u) o:=λF0 Hb F H σ own D a q=>by
 obtain ⟨x,R,h1,h2,h3,h4,p,vs,rfl,h6,h7,h8,h9⟩:=a.sl i _ e
 have hi:i<σ.length:=by rw [a.len];exact ((List.getElem?_eq_some_iff.mp e)).1
 have e':σ[i]?=some (some (.ref p)):=by
  rw [List.getElem?_eq_getElem hi] at h1 ⊢
  exact congrArg some h1
 have hp:=h2 _ _ h6
 refine ⟨_,e',.inl ⟨rfl,_,SqL.of hp⟩,?_⟩
 refine hv F0 Hb F H σ own _ a λr ws F1 H1 g1 r1 r2 r3 q1=>?_
 have ew:=zcz q1
 subst ew
 have rp:r≠p:=λz=>by rw [z,hp] at r1;cases r1
 refine ⟨p,vs,_,rfl,rfl,g1.h _ _ hp,by rw [Paired.length h9];exact hz,?_⟩
 have pF:=h3 p _ h6
 have pO:∀ l,own l≠some p:=λl z=>by rw [h4 l p z] at h6;cases h6
 have a1:=(a.grow (Grow.only a.fh g1.h)).spoil hno (.lst (vs++[.ref r])) pF.1 pF.2 pO
 have rF:F r=none:=by
  cases z:F r with
  | none=>rfl
  | some o=>rw [a.fh _ _ z] at r1;cases r1
 refine kk F0 Hb F _ σ own D ?_ q
 refine ⟨a1.g,a1.inj,a1.liv,λl s es'=> ?_,by rw [List.length_set];exact a1.len⟩
 by_cases z:i=l
 ·subst z
  rw [List.getElem?_set_self (by rw [← a1.len];exact hi)] at es'
  cases es'
  rw [e']
  have rn:∀ r',R r'≠none->r'≠r:=λr' w z=>by
   cases y:R r' with
   | none=>exact w y
   | some o=>have:=h2 _ _ y;rw [z,r1] at this;cases this
  refine ⟨.ref p,upd (upd R p (.lst (vs++[.ref r]))) r (.lst (ns.map V.int)),rfl,λb w q=>?_,λb w q=>?_,λl' b q=>?_,p,vs++[.ref r],rfl,by rw [zad (Ne.symm rp),zak],?_,?_,?_⟩
  ·by_cases y:b=r
   ·subst y;rw [zak] at q;cases q;rw [zad rp];exact r3
   ·rw [zad y] at q
    by_cases y2:b=p
    ·subst y2;rw [zak] at q ⊢;exact q
    ·rw [zad y2] at q ⊢;exact g1.h _ _ (h2 _ _ q)
  ·by_cases y:b=r
   ·subst y;exact ⟨rF,a.g.h.free r1⟩
   ·rw [zad y] at q
    by_cases y2:b=p
    ·subst y2;exact pF
    ·rw [zad y2] at q;exact h3 b w q
  ·have y:b≠r:=λy=>a.liv l' b q (by rw [y];exact r1)
   have y2:b≠p:=λy=>pO l' (y ▸ q)
   rw [zad y,zad y2];exact h4 l' b q
  ·refine List.nodup_append.mpr ⟨h7,by simp,λv hv w hw z=>?_⟩
   rw [List.mem_singleton.mp hw] at z
   subst z
   obtain ⟨n,hn⟩:=List.getElem?_of_mem hv
   have hl:=Paired.length h9
   obtain ⟨v',e',⟨r',er,hr⟩⟩:=zaI h9 (List.getElem?_eq_getElem (l:=nss) (i:=n) (by have:=((List.getElem?_eq_some_iff.mp hn)).1;omega))
   rw [hn] at e'
   cases e'
   cases er
   exact rn _ (by rw [hr];simp) rfl
  ·intro z
   rcases List.mem_append.mp z with z | z
   ·exact h8 z
   ·have:=List.mem_singleton.mp z
    cases this
    exact rp rfl
  ·refine zbF ?_ (.cons ⟨r,rfl,zak⟩ .nil)
   have key:∀ v∈vs,∀ ns',zhe R v ns'->zhe (upd (upd R p (.lst (vs++[.ref r]))) r (.lst (ns.map V.int))) v ns':=λv hv ns' ⟨r',z1,z2⟩=>by
    subst z1
    refine ⟨r',rfl,?_⟩
    rw [zad (rn _ (by rw [z2];simp)),zad (λz=>h8 (by rw [← z];exact hv))]
    exact z2
   exact zdR h9 key
 ·rw [List.getElem?_set_ne z] at es'
  exact a1.sl l s es'
end
def dSI:Str ⊕ Int->Ds
 | .inl s=>dS s
 | .inr n=>dI n
instance:Inhabited (Str ⊕ Int):=⟨.inl default⟩
def siS:Str ⊕ Int->Str
 | .inl s=>s
 | .inr _=>default
def siI:Str ⊕ Int->Int
 | .inl _=>0
 | .inr n=>n
section
variable {Γ:Ctx} {ta:TE} {m:Bool} {x:Str ⊕ Int}
theorem zh7 (h:Ev Γ ta m (dSI x)) (q:x.isLeft=true):Ev Γ ta m (dS (siS x)):=by
 cases x with
 | inl _=>exact h
 | inr _=>cases q
theorem zjR (h:Ev Γ ta m (dSI x)) (q:x.isRight=true):Ev Γ ta m (dI (siI x)):=by
 cases x with
 | inl _=>cases q
 | inr _=>exact h
end
theorem EqD.si {K:W.Frag} {n:Nat}:EqD K dSI n:=⟨λH x y v w h1 h2=>by
 cases x with
 | inl x =>
  cases y with
  | inl y =>
   cases h1;cases h2
   have:decide ((Sum.inl x:Str ⊕ Int)=.inl y)=eqV (.str x) (.str y):=Bool.eq_iff_iff.mpr (by unfold eqV;simp)
   rw [this];exact .flat rfl rfl
  | inr y =>
   cases h1;cases h2
   have:decide ((Sum.inl x:Str ⊕ Int)=.inr y)=eqV (.str x) (.int y):=Bool.eq_iff_iff.mpr (by unfold eqV;simp)
   rw [this];exact .flat rfl rfl
 | inr x =>
  cases y with
  | inl y =>
   cases h1;cases h2
   have:decide ((Sum.inr x:Str ⊕ Int)=.inl y)=eqV (.int x) (.str y):=Bool.eq_iff_iff.mpr (by unfold eqV;simp)
   rw [this];exact .flat rfl rfl
  | inr y =>
   cases h1;cases h2
   have:decide ((Sum.inr x:Str ⊕ Int)=.inr y)=eqV (.int x) (.int y):=Bool.eq_iff_iff.mpr (by unfold eqV;simp)
   rw [this];exact .flat rfl rfl,λH x y v h1 h2=>by
 cases x<;>cases y<;>cases h1<;>first | rfl | (cases h2;rfl) | cases h2⟩
end L2
set_option maxHeartbeats 4000000
set_option maxRecDepth 100000
set_option maxHeartbeats 4000000
namespace My
open PySem L2
def top (i:Nat):Stmt:=PySem.Challenge.pw_swapbook_k03_a_book.main.body.getD i (.Pass ⟨0,0,0,0⟩)
abbrev zby:Stmt:=zhc (top 5) 0
abbrev zbE:Stmt:=zhc (top 24) 0
abbrev zdr:Stmt:=top 25
abbrev zcI:Stmt:=top 27
abbrev zck:Stmt:=top 28
abbrev zcv:Stmt:=top 29
abbrev zcl:Stmt:=top 30
abbrev zei:Stmt:=top 31
abbrev zch:Stmt:=top 32
abbrev zcy:Stmt:=top 33
abbrev zcD:Stmt:=top 34
abbrev zcb:Stmt:=top 35
abbrev zdJ:Stmt:=top 36
abbrev zee:Stmt:=top 37
abbrev zeH:Stmt:=top 38
abbrev lI:Ji->Ds:=λxs=>dL (List.map dI xs)
inductive Xn where
 | BadWares
 | TooMany
 | BadSwap (k:Int)
 deriving DecidableEq,Inhabited
instance:XF Xn:=⟨λe=>match e with | .BadWares=>[] | .TooMany=>[] | .BadSwap k=>[("place",.int k)]⟩
structure Adr where
 no:Unit:=()
 Book:Addr
 x_BadWares:Addr
 x_TooMany:Addr
 x_BadSwap:Addr
 xf_BadSwap:Addr
 k_BadBasket:Addr
 k_BadBaskets:Addr
 k_BadNames:Addr
 k_BadRest:Addr
 k_BadRoad:Addr
 k_BadScale:Addr
 k_BadSwap:Addr
 k_BadWares:Addr
 k_Endless:Addr
 k_NoBook:Addr
 k_NoLine:Addr
 k_NoName:Addr
 k_NoSwap:Addr
 k_NotAlike:Addr
 k_NotKept:Addr
 k_OtherBook:Addr
 k_OtherWares:Addr
 k_SwapError:Addr
 k_TooGreat:Addr
 k_TooMany:Addr
noncomputable def Adr.xc (A:Adr):Xn->Addr
 | .BadWares=>A.x_BadWares
 | .TooMany=>A.x_TooMany
 | .BadSwap _=>A.x_BadSwap
noncomputable def zcB:Option Xn->Int
 | some (.BadSwap k)=>k
 | _=>0
noncomputable def zfs:Option Xn->Bool
 | some (.BadSwap _)=>true
 | _=>false
noncomputable def zaQ:Xn->Bool
 | .BadWares=>false
 | .TooMany=>false
 | .BadSwap _=>false
noncomputable def zaF:Xn->Bool
 | .BadWares=>false
 | .TooMany=>false
 | .BadSwap _=>false
noncomputable def za2:Xn->Bool
 | .BadWares=>false
 | .TooMany=>false
 | .BadSwap _=>false
noncomputable def zbk:Xn->Bool
 | .BadWares=>false
 | .TooMany=>false
 | .BadSwap _=>false
noncomputable def zbj:Xn->Bool
 | .BadWares=>false
 | .TooMany=>false
 | .BadSwap _=>false
noncomputable def za0:Xn->Bool
 | .BadWares=>false
 | .TooMany=>false
 | .BadSwap _=>false
noncomputable def zbi:Xn->Bool
 | .BadWares=>false
 | .TooMany=>false
 | .BadSwap _=>true
noncomputable def zbc:Xn->Bool
 | .BadWares=>true
 | .TooMany=>false
 | .BadSwap _=>false
noncomputable def zbb:Xn->Bool
 | .BadWares=>false
 | .TooMany=>false
 | .BadSwap _=>false
noncomputable def zbx:Xn->Bool
 | .BadWares=>false
 | .TooMany=>false
 | .BadSwap _=>false
noncomputable def zbu:Xn->Bool
 | .BadWares=>false
 | .TooMany=>false
 | .BadSwap _=>false
noncomputable def zbw:Xn->Bool
 | .BadWares=>false
 | .TooMany=>false
 | .BadSwap _=>false
noncomputable def zbJ:Xn->Bool
 | .BadWares=>false
 | .TooMany=>false
 | .BadSwap _=>false
noncomputable def zbd:Xn->Bool
 | .BadWares=>false
 | .TooMany=>false
 | .BadSwap _=>false
noncomputable def zbg:Xn->Bool
 | .BadWares=>false
 | .TooMany=>false
 | .BadSwap _=>false
noncomputable def zaR:Xn->Bool
 | .BadWares=>false
 | .TooMany=>false
 | .BadSwap _=>false
noncomputable def zaG:Xn->Bool
 | .BadWares=>false
 | .TooMany=>false
 | .BadSwap _=>false
noncomputable def zaZ:Xn->Bool
 | .BadWares=>false
 | .TooMany=>false
 | .BadSwap _=>false
noncomputable def zbt:Xn->Bool
 | .BadWares=>false
 | .TooMany=>true
 | .BadSwap _=>false
noncomputable def zaV:Xn->Bool
 | .BadWares=>true
 | .TooMany=>true
 | .BadSwap _=>true
structure BookD where
 many:Int
 swaps:Jq
 deriving Inhabited
def zcs (C:Addr) (b:BookD):Ds:=dO C [("many",dI b.many),("swaps",dL (List.map lI b.swaps))]
structure Txt (K:W.Frag) (mg:Str->Option Value) (A:Adr):Prop where
 ValueError:mg "ValueError"=none
 all:mg "all"=none
 bool:mg "bool"=none
 enumerate:mg "enumerate"=none
 int:mg "int"=none
 isinstance:mg "isinstance"=none
 len:mg "len"=none
 list:mg "list"=none
 max:mg "max"=none
 min:mg "min"=none
 range:mg "range"=none
 zip:mg "zip"=none
 Book:mg "Book"=some (.ref A.Book)
 Book_cl:Cls K A.Book
 Book_many:NoAttr K A.Book "many"
 Book_swaps:NoAttr K A.Book "swaps"
 g_MOST_WARES:∃ t,mg "MOST_WARES"=some (.int 8 t)
 g_MOST_SWAPS:∃ t,mg "MOST_SWAPS"=some (.int 12 t)
 k_BadBasket:mg "BadBasket"=some (.ref A.k_BadBasket)
 k_BadBaskets:mg "BadBaskets"=some (.ref A.k_BadBaskets)
 k_BadNames:mg "BadNames"=some (.ref A.k_BadNames)
 k_BadRest:mg "BadRest"=some (.ref A.k_BadRest)
 k_BadRoad:mg "BadRoad"=some (.ref A.k_BadRoad)
 k_BadScale:mg "BadScale"=some (.ref A.k_BadScale)
 k_BadSwap:mg "BadSwap"=some (.ref A.k_BadSwap)
 k_BadWares:mg "BadWares"=some (.ref A.k_BadWares)
 k_Endless:mg "Endless"=some (.ref A.k_Endless)
 k_NoBook:mg "NoBook"=some (.ref A.k_NoBook)
 k_NoLine:mg "NoLine"=some (.ref A.k_NoLine)
 k_NoName:mg "NoName"=some (.ref A.k_NoName)
 k_NoSwap:mg "NoSwap"=some (.ref A.k_NoSwap)
 k_NotAlike:mg "NotAlike"=some (.ref A.k_NotAlike)
 k_NotKept:mg "NotKept"=some (.ref A.k_NotKept)
 k_OtherBook:mg "OtherBook"=some (.ref A.k_OtherBook)
 k_OtherWares:mg "OtherWares"=some (.ref A.k_OtherWares)
 k_SwapError:mg "SwapError"=some (.ref A.k_SwapError)
 k_TooGreat:mg "TooGreat"=some (.ref A.k_TooGreat)
 k_TooMany:mg "TooMany"=some (.ref A.k_TooMany)
 xm_BadWares:mg "BadWares"=some (.ref (A.xc .BadWares))
 xi_BadWares:W.excIn K (A.xc .BadWares) [.type "ValueError",.type "Exception",.type "BaseException",.type "object"] "ValueError.__new__"=true
 xcl_BadWares:XCls K (A.xc .BadWares)
 exm_BadWares:W.exmOne K (.ref (A.xc .BadWares)) (.ref A.k_SwapError)=some true
 xm_TooMany:mg "TooMany"=some (.ref (A.xc .TooMany))
 xi_TooMany:W.excIn K (A.xc .TooMany) [.type "ValueError",.type "Exception",.type "BaseException",.type "object"] "ValueError.__new__"=true
 xcl_TooMany:XCls K (A.xc .TooMany)
 exm_TooMany:W.exmOne K (.ref (A.xc .TooMany)) (.ref A.k_SwapError)=some true
 xm_BadSwap:mg "BadSwap"=some (.ref (A.xc (.BadSwap 0)))
 xini_BadSwap:XIni K (A.xc (.BadSwap 0)) A.k_SwapError A.xf_BadSwap "place"
 xcl_BadSwap:XCls K (A.xc (.BadSwap 0))
 exm_BadSwap:W.exmOne K (.ref (A.xc (.BadSwap 0))) (.ref A.k_SwapError)=some true
 i0_BadBasket:W.kitOne K (.type "NoneType") (.ref A.k_BadBasket)=some false
 i_BadWares_BadBasket:W.kitOne K (.ref (A.xc .BadWares)) (.ref A.k_BadBasket)=some (zaQ .BadWares)
 i_TooMany_BadBasket:W.kitOne K (.ref (A.xc .TooMany)) (.ref A.k_BadBasket)=some (zaQ .TooMany)
 i_BadSwap_BadBasket:W.kitOne K (.ref (A.xc (.BadSwap 0))) (.ref A.k_BadBasket)=some (zaQ (.BadSwap 0))
 i0_BadBaskets:W.kitOne K (.type "NoneType") (.ref A.k_BadBaskets)=some false
 i_BadWares_BadBaskets:W.kitOne K (.ref (A.xc .BadWares)) (.ref A.k_BadBaskets)=some (zaF .BadWares)
 i_TooMany_BadBaskets:W.kitOne K (.ref (A.xc .TooMany)) (.ref A.k_BadBaskets)=some (zaF .TooMany)
 i_BadSwap_BadBaskets:W.kitOne K (.ref (A.xc (.BadSwap 0))) (.ref A.k_BadBaskets)=some (zaF (.BadSwap 0))
 i0_BadNames:W.kitOne K (.type "NoneType") (.ref A.k_BadNames)=some false
 i_BadWares_BadNames:W.kitOne K (.ref (A.xc .BadWares)) (.ref A.k_BadNames)=some (za2 .BadWares)
 i_TooMany_BadNames:W.kitOne K (.ref (A.xc .TooMany)) (.ref A.k_BadNames)=some (za2 .TooMany)
 i_BadSwap_BadNames:W.kitOne K (.ref (A.xc (.BadSwap 0))) (.ref A.k_BadNames)=some (za2 (.BadSwap 0))
 i0_BadRest:W.kitOne K (.type "NoneType") (.ref A.k_BadRest)=some false
 i_BadWares_BadRest:W.kitOne K (.ref (A.xc .BadWares)) (.ref A.k_BadRest)=some (zbk .BadWares)
 i_TooMany_BadRest:W.kitOne K (.ref (A.xc .TooMany)) (.ref A.k_BadRest)=some (zbk .TooMany)
 i_BadSwap_BadRest:W.kitOne K (.ref (A.xc (.BadSwap 0))) (.ref A.k_BadRest)=some (zbk (.BadSwap 0))
 i0_BadRoad:W.kitOne K (.type "NoneType") (.ref A.k_BadRoad)=some false
 i_BadWares_BadRoad:W.kitOne K (.ref (A.xc .BadWares)) (.ref A.k_BadRoad)=some (zbj .BadWares)
 i_TooMany_BadRoad:W.kitOne K (.ref (A.xc .TooMany)) (.ref A.k_BadRoad)=some (zbj .TooMany)
 i_BadSwap_BadRoad:W.kitOne K (.ref (A.xc (.BadSwap 0))) (.ref A.k_BadRoad)=some (zbj (.BadSwap 0))
 i0_BadScale:W.kitOne K (.type "NoneType") (.ref A.k_BadScale)=some false
 i_BadWares_BadScale:W.kitOne K (.ref (A.xc .BadWares)) (.ref A.k_BadScale)=some (za0 .BadWares)
 i_TooMany_BadScale:W.kitOne K (.ref (A.xc .TooMany)) (.ref A.k_BadScale)=some (za0 .TooMany)
 i_BadSwap_BadScale:W.kitOne K (.ref (A.xc (.BadSwap 0))) (.ref A.k_BadScale)=some (za0 (.BadSwap 0))
 i0_BadSwap:W.kitOne K (.type "NoneType") (.ref A.k_BadSwap)=some false
 i_BadWares_BadSwap:W.kitOne K (.ref (A.xc .BadWares)) (.ref A.k_BadSwap)=some (zbi .BadWares)
 i_TooMany_BadSwap:W.kitOne K (.ref (A.xc .TooMany)) (.ref A.k_BadSwap)=some (zbi .TooMany)
 i_BadSwap_BadSwap:W.kitOne K (.ref (A.xc (.BadSwap 0))) (.ref A.k_BadSwap)=some (zbi (.BadSwap 0))
 i0_BadWares:W.kitOne K (.type "NoneType") (.ref A.k_BadWares)=some false
 i_BadWares_BadWares:W.kitOne K (.ref (A.xc .BadWares)) (.ref A.k_BadWares)=some (zbc .BadWares)
 i_TooMany_BadWares:W.kitOne K (.ref (A.xc .TooMany)) (.ref A.k_BadWares)=some (zbc .TooMany)
 i_BadSwap_BadWares:W.kitOne K (.ref (A.xc (.BadSwap 0))) (.ref A.k_BadWares)=some (zbc (.BadSwap 0))
 i0_Endless:W.kitOne K (.type "NoneType") (.ref A.k_Endless)=some false
 i_BadWares_Endless:W.kitOne K (.ref (A.xc .BadWares)) (.ref A.k_Endless)=some (zbb .BadWares)
 i_TooMany_Endless:W.kitOne K (.ref (A.xc .TooMany)) (.ref A.k_Endless)=some (zbb .TooMany)
 i_BadSwap_Endless:W.kitOne K (.ref (A.xc (.BadSwap 0))) (.ref A.k_Endless)=some (zbb (.BadSwap 0))
 i0_NoBook:W.kitOne K (.type "NoneType") (.ref A.k_NoBook)=some false
 i_BadWares_NoBook:W.kitOne K (.ref (A.xc .BadWares)) (.ref A.k_NoBook)=some (zbx .BadWares)
 i_TooMany_NoBook:W.kitOne K (.ref (A.xc .TooMany)) (.ref A.k_NoBook)=some (zbx .TooMany)
 i_BadSwap_NoBook:W.kitOne K (.ref (A.xc (.BadSwap 0))) (.ref A.k_NoBook)=some (zbx (.BadSwap 0))
 i0_NoLine:W.kitOne K (.type "NoneType") (.ref A.k_NoLine)=some false
 i_BadWares_NoLine:W.kitOne K (.ref (A.xc .BadWares)) (.ref A.k_NoLine)=some (zbu .BadWares)
 i_TooMany_NoLine:W.kitOne K (.ref (A.xc .TooMany)) (.ref A.k_NoLine)=some (zbu .TooMany)
 i_BadSwap_NoLine:W.kitOne K (.ref (A.xc (.BadSwap 0))) (.ref A.k_NoLine)=some (zbu (.BadSwap 0))
 i0_NoName:W.kitOne K (.type "NoneType") (.ref A.k_NoName)=some false
 i_BadWares_NoName:W.kitOne K (.ref (A.xc .BadWares)) (.ref A.k_NoName)=some (zbw .BadWares)
 i_TooMany_NoName:W.kitOne K (.ref (A.xc .TooMany)) (.ref A.k_NoName)=some (zbw .TooMany)
 i_BadSwap_NoName:W.kitOne K (.ref (A.xc (.BadSwap 0))) (.ref A.k_NoName)=some (zbw (.BadSwap 0))
 i0_NoSwap:W.kitOne K (.type "NoneType") (.ref A.k_NoSwap)=some false
 i_BadWares_NoSwap:W.kitOne K (.ref (A.xc .BadWares)) (.ref A.k_NoSwap)=some (zbJ .BadWares)
 i_TooMany_NoSwap:W.kitOne K (.ref (A.xc .TooMany)) (.ref A.k_NoSwap)=some (zbJ .TooMany)
 i_BadSwap_NoSwap:W.kitOne K (.ref (A.xc (.BadSwap 0))) (.ref A.k_NoSwap)=some (zbJ (.BadSwap 0))
 i0_NotAlike:W.kitOne K (.type "NoneType") (.ref A.k_NotAlike)=some false
 i_BadWares_NotAlike:W.kitOne K (.ref (A.xc .BadWares)) (.ref A.k_NotAlike)=some (zbd .BadWares)
 i_TooMany_NotAlike:W.kitOne K (.ref (A.xc .TooMany)) (.ref A.k_NotAlike)=some (zbd .TooMany)
 i_BadSwap_NotAlike:W.kitOne K (.ref (A.xc (.BadSwap 0))) (.ref A.k_NotAlike)=some (zbd (.BadSwap 0))
 i0_NotKept:W.kitOne K (.type "NoneType") (.ref A.k_NotKept)=some false
 i_BadWares_NotKept:W.kitOne K (.ref (A.xc .BadWares)) (.ref A.k_NotKept)=some (zbg .BadWares)
 i_TooMany_NotKept:W.kitOne K (.ref (A.xc .TooMany)) (.ref A.k_NotKept)=some (zbg .TooMany)
 i_BadSwap_NotKept:W.kitOne K (.ref (A.xc (.BadSwap 0))) (.ref A.k_NotKept)=some (zbg (.BadSwap 0))
 i0_OtherBook:W.kitOne K (.type "NoneType") (.ref A.k_OtherBook)=some false
 i_BadWares_OtherBook:W.kitOne K (.ref (A.xc .BadWares)) (.ref A.k_OtherBook)=some (zaR .BadWares)
 i_TooMany_OtherBook:W.kitOne K (.ref (A.xc .TooMany)) (.ref A.k_OtherBook)=some (zaR .TooMany)
 i_BadSwap_OtherBook:W.kitOne K (.ref (A.xc (.BadSwap 0))) (.ref A.k_OtherBook)=some (zaR (.BadSwap 0))
 i0_OtherWares:W.kitOne K (.type "NoneType") (.ref A.k_OtherWares)=some false
 i_BadWares_OtherWares:W.kitOne K (.ref (A.xc .BadWares)) (.ref A.k_OtherWares)=some (zaG .BadWares)
 i_TooMany_OtherWares:W.kitOne K (.ref (A.xc .TooMany)) (.ref A.k_OtherWares)=some (zaG .TooMany)
 i_BadSwap_OtherWares:W.kitOne K (.ref (A.xc (.BadSwap 0))) (.ref A.k_OtherWares)=some (zaG (.BadSwap 0))
 i0_TooGreat:W.kitOne K (.type "NoneType") (.ref A.k_TooGreat)=some false
 i_BadWares_TooGreat:W.kitOne K (.ref (A.xc .BadWares)) (.ref A.k_TooGreat)=some (zaZ .BadWares)
 i_TooMany_TooGreat:W.kitOne K (.ref (A.xc .TooMany)) (.ref A.k_TooGreat)=some (zaZ .TooMany)
 i_BadSwap_TooGreat:W.kitOne K (.ref (A.xc (.BadSwap 0))) (.ref A.k_TooGreat)=some (zaZ (.BadSwap 0))
 i0_TooMany:W.kitOne K (.type "NoneType") (.ref A.k_TooMany)=some false
 i_BadWares_TooMany:W.kitOne K (.ref (A.xc .BadWares)) (.ref A.k_TooMany)=some (zbt .BadWares)
 i_TooMany_TooMany:W.kitOne K (.ref (A.xc .TooMany)) (.ref A.k_TooMany)=some (zbt .TooMany)
 i_BadSwap_TooMany:W.kitOne K (.ref (A.xc (.BadSwap 0))) (.ref A.k_TooMany)=some (zbt (.BadSwap 0))
 i0_ValueError:W.kitOne K (.type "NoneType") (.type "ValueError")=some false
 i_BadWares_ValueError:W.kitOne K (.ref (A.xc .BadWares)) (.type "ValueError")=some (zaV .BadWares)
 i_TooMany_ValueError:W.kitOne K (.ref (A.xc .TooMany)) (.type "ValueError")=some (zaV .TooMany)
 i_BadSwap_ValueError:W.kitOne K (.ref (A.xc (.BadSwap 0))) (.type "ValueError")=some (zaV (.BadSwap 0))
 kit_int_bool:W.kitOne K (.type "int") (.type "bool")=some false
 kit_int_int:W.kitOne K (.type "int") (.type "int")=some true
 kit_list_list:W.kitOne K (.type "list") (.type "list")=some true
 isi_Book:Cls K A.Book∧W.findIn K (.ref A.Book) "__class__"=some (some (.builtin "object.__class__"))∧W.specialIn K (.builtin "object.__class__") "__get__"=some (some (.builtin "getset_descriptor.__get__"))∧W.takesIn K (.builtin "object.__class__")=some true∧W.mroIn K A.Book (.type "object")=some true∧W.kitOne K (.ref A.Book) (.ref A.Book)=some true
theorem Txt.hx_BadBasket {K:W.Frag} {mg:Str->Option Value} {A:Adr} (T:Txt K mg A):∀ e,XCls K (A.xc e)∧W.kitOne K (.ref (A.xc e)) (.ref A.k_BadBasket)=some (zaQ e)
 | .BadWares=>⟨T.xcl_BadWares,T.i_BadWares_BadBasket⟩
 | .TooMany=>⟨T.xcl_TooMany,T.i_TooMany_BadBasket⟩
 | .BadSwap _=>⟨T.xcl_BadSwap,T.i_BadSwap_BadBasket⟩
theorem Txt.hx_BadBaskets {K:W.Frag} {mg:Str->Option Value} {A:Adr} (T:Txt K mg A):∀ e,XCls K (A.xc e)∧W.kitOne K (.ref (A.xc e)) (.ref A.k_BadBaskets)=some (zaF e)
 | .BadWares=>⟨T.xcl_BadWares,T.i_BadWares_BadBaskets⟩
 | .TooMany=>⟨T.xcl_TooMany,T.i_TooMany_BadBaskets⟩
 | .BadSwap _=>⟨T.xcl_BadSwap,T.i_BadSwap_BadBaskets⟩
theorem Txt.hx_BadNames {K:W.Frag} {mg:Str->Option Value} {A:Adr} (T:Txt K mg A):∀ e,XCls K (A.xc e)∧W.kitOne K (.ref (A.xc e)) (.ref A.k_BadNames)=some (za2 e)
 | .BadWares=>⟨T.xcl_BadWares,T.i_BadWares_BadNames⟩
 | .TooMany=>⟨T.xcl_TooMany,T.i_TooMany_BadNames⟩
 | .BadSwap _=>⟨T.xcl_BadSwap,T.i_BadSwap_BadNames⟩
theorem Txt.hx_BadRest {K:W.Frag} {mg:Str->Option Value} {A:Adr} (T:Txt K mg A):∀ e,XCls K (A.xc e)∧W.kitOne K (.ref (A.xc e)) (.ref A.k_BadRest)=some (zbk e)
 | .BadWares=>⟨T.xcl_BadWares,T.i_BadWares_BadRest⟩
 | .TooMany=>⟨T.xcl_TooMany,T.i_TooMany_BadRest⟩
 | .BadSwap _=>⟨T.xcl_BadSwap,T.i_BadSwap_BadRest⟩
theorem Txt.hx_BadRoad {K:W.Frag} {mg:Str->Option Value} {A:Adr} (T:Txt K mg A):∀ e,XCls K (A.xc e)∧W.kitOne K (.ref (A.xc e)) (.ref A.k_BadRoad)=some (zbj e)
 | .BadWares=>⟨T.xcl_BadWares,T.i_BadWares_BadRoad⟩
 | .TooMany=>⟨T.xcl_TooMany,T.i_TooMany_BadRoad⟩
 | .BadSwap _=>⟨T.xcl_BadSwap,T.i_BadSwap_BadRoad⟩
theorem Txt.hx_BadScale {K:W.Frag} {mg:Str->Option Value} {A:Adr} (T:Txt K mg A):∀ e,XCls K (A.xc e)∧W.kitOne K (.ref (A.xc e)) (.ref A.k_BadScale)=some (za0 e)
 | .BadWares=>⟨T.xcl_BadWares,T.i_BadWares_BadScale⟩
 | .TooMany=>⟨T.xcl_TooMany,T.i_TooMany_BadScale⟩
 | .BadSwap _=>⟨T.xcl_BadSwap,T.i_BadSwap_BadScale⟩
theorem Txt.hx_BadSwap {K:W.Frag} {mg:Str->Option Value} {A:Adr} (T:Txt K mg A):∀ e,XCls K (A.xc e)∧W.kitOne K (.ref (A.xc e)) (.ref A.k_BadSwap)=some (zbi e)
 | .BadWares=>⟨T.xcl_BadWares,T.i_BadWares_BadSwap⟩
 | .TooMany=>⟨T.xcl_TooMany,T.i_TooMany_BadSwap⟩
 | .BadSwap _=>⟨T.xcl_BadSwap,T.i_BadSwap_BadSwap⟩
theorem Txt.hx_BadWares {K:W.Frag} {mg:Str->Option Value} {A:Adr} (T:Txt K mg A):∀ e,XCls K (A.xc e)∧W.kitOne K (.ref (A.xc e)) (.ref A.k_BadWares)=some (zbc e)
 | .BadWares=>⟨T.xcl_BadWares,T.i_BadWares_BadWares⟩
 | .TooMany=>⟨T.xcl_TooMany,T.i_TooMany_BadWares⟩
 | .BadSwap _=>⟨T.xcl_BadSwap,T.i_BadSwap_BadWares⟩
theorem Txt.hx_Endless {K:W.Frag} {mg:Str->Option Value} {A:Adr} (T:Txt K mg A):∀ e,XCls K (A.xc e)∧W.kitOne K (.ref (A.xc e)) (.ref A.k_Endless)=some (zbb e)
 | .BadWares=>⟨T.xcl_BadWares,T.i_BadWares_Endless⟩
 | .TooMany=>⟨T.xcl_TooMany,T.i_TooMany_Endless⟩
 | .BadSwap _=>⟨T.xcl_BadSwap,T.i_BadSwap_Endless⟩
theorem Txt.hx_NoBook {K:W.Frag} {mg:Str->Option Value} {A:Adr} (T:Txt K mg A):∀ e,XCls K (A.xc e)∧W.kitOne K (.ref (A.xc e)) (.ref A.k_NoBook)=some (zbx e)
 | .BadWares=>⟨T.xcl_BadWares,T.i_BadWares_NoBook⟩
 | .TooMany=>⟨T.xcl_TooMany,T.i_TooMany_NoBook⟩
 | .BadSwap _=>⟨T.xcl_BadSwap,T.i_BadSwap_NoBook⟩
theorem Txt.hx_NoLine {K:W.Frag} {mg:Str->Option Value} {A:Adr} (T:Txt K mg A):∀ e,XCls K (A.xc e)∧W.kitOne K (.ref (A.xc e)) (.ref A.k_NoLine)=some (zbu e)
 | .BadWares=>⟨T.xcl_BadWares,T.i_BadWares_NoLine⟩
 | .TooMany=>⟨T.xcl_TooMany,T.i_TooMany_NoLine⟩
 | .BadSwap _=>⟨T.xcl_BadSwap,T.i_BadSwap_NoLine⟩
theorem Txt.hx_NoName {K:W.Frag} {mg:Str->Option Value} {A:Adr} (T:Txt K mg A):∀ e,XCls K (A.xc e)∧W.kitOne K (.ref (A.xc e)) (.ref A.k_NoName)=some (zbw e)
 | .BadWares=>⟨T.xcl_BadWares,T.i_BadWares_NoName⟩
 | .TooMany=>⟨T.xcl_TooMany,T.i_TooMany_NoName⟩
 | .BadSwap _=>⟨T.xcl_BadSwap,T.i_BadSwap_NoName⟩
theorem Txt.hx_NoSwap {K:W.Frag} {mg:Str->Option Value} {A:Adr} (T:Txt K mg A):∀ e,XCls K (A.xc e)∧W.kitOne K (.ref (A.xc e)) (.ref A.k_NoSwap)=some (zbJ e)
 | .BadWares=>⟨T.xcl_BadWares,T.i_BadWares_NoSwap⟩
 | .TooMany=>⟨T.xcl_TooMany,T.i_TooMany_NoSwap⟩
 | .BadSwap _=>⟨T.xcl_BadSwap,T.i_BadSwap_NoSwap⟩
theorem Txt.hx_NotAlike {K:W.Frag} {mg:Str->Option Value} {A:Adr} (T:Txt K mg A):∀ e,XCls K (A.xc e)∧W.kitOne K (.ref (A.xc e)) (.ref A.k_NotAlike)=some (zbd e)
 | .BadWares=>⟨T.xcl_BadWares,T.i_BadWares_NotAlike⟩
 | .TooMany=>⟨T.xcl_TooMany,T.i_TooMany_NotAlike⟩
 | .BadSwap _=>⟨T.xcl_BadSwap,T.i_BadSwap_NotAlike⟩
theorem Txt.hx_NotKept {K:W.Frag} {mg:Str->Option Value} {A:Adr} (T:Txt K mg A):∀ e,XCls K (A.xc e)∧W.kitOne K (.ref (A.xc e)) (.ref A.k_NotKept)=some (zbg e)
 | .BadWares=>⟨T.xcl_BadWares,T.i_BadWares_NotKept⟩
 | .TooMany=>⟨T.xcl_TooMany,T.i_TooMany_NotKept⟩
 | .BadSwap _=>⟨T.xcl_BadSwap,T.i_BadSwap_NotKept⟩
theorem Txt.hx_OtherBook {K:W.Frag} {mg:Str->Option Value} {A:Adr} (T:Txt K mg A):∀ e,XCls K (A.xc e)∧W.kitOne K (.ref (A.xc e)) (.ref A.k_OtherBook)=some (zaR e)
 | .BadWares=>⟨T.xcl_BadWares,T.i_BadWares_OtherBook⟩
 | .TooMany=>⟨T.xcl_TooMany,T.i_TooMany_OtherBook⟩
 | .BadSwap _=>⟨T.xcl_BadSwap,T.i_BadSwap_OtherBook⟩
theorem Txt.hx_OtherWares {K:W.Frag} {mg:Str->Option Value} {A:Adr} (T:Txt K mg A):∀ e,XCls K (A.xc e)∧W.kitOne K (.ref (A.xc e)) (.ref A.k_OtherWares)=some (zaG e)
 | .BadWares=>⟨T.xcl_BadWares,T.i_BadWares_OtherWares⟩
 | .TooMany=>⟨T.xcl_TooMany,T.i_TooMany_OtherWares⟩
 | .BadSwap _=>⟨T.xcl_BadSwap,T.i_BadSwap_OtherWares⟩
theorem Txt.hx_TooGreat {K:W.Frag} {mg:Str->Option Value} {A:Adr} (T:Txt K mg A):∀ e,XCls K (A.xc e)∧W.kitOne K (.ref (A.xc e)) (.ref A.k_TooGreat)=some (zaZ e)
 | .BadWares=>⟨T.xcl_BadWares,T.i_BadWares_TooGreat⟩
 | .TooMany=>⟨T.xcl_TooMany,T.i_TooMany_TooGreat⟩
 | .BadSwap _=>⟨T.xcl_BadSwap,T.i_BadSwap_TooGreat⟩
theorem Txt.hx_TooMany {K:W.Frag} {mg:Str->Option Value} {A:Adr} (T:Txt K mg A):∀ e,XCls K (A.xc e)∧W.kitOne K (.ref (A.xc e)) (.ref A.k_TooMany)=some (zbt e)
 | .BadWares=>⟨T.xcl_BadWares,T.i_BadWares_TooMany⟩
 | .TooMany=>⟨T.xcl_TooMany,T.i_TooMany_TooMany⟩
 | .BadSwap _=>⟨T.xcl_BadSwap,T.i_BadSwap_TooMany⟩
theorem Txt.hx_ValueError {K:W.Frag} {mg:Str->Option Value} {A:Adr} (T:Txt K mg A):∀ e,XCls K (A.xc e)∧W.kitOne K (.ref (A.xc e)) (.type "ValueError")=some (zaV e)
 | .BadWares=>⟨T.xcl_BadWares,T.i_BadWares_ValueError⟩
 | .TooMany=>⟨T.xcl_TooMany,T.i_TooMany_ValueError⟩
 | .BadSwap _=>⟨T.xcl_BadSwap,T.i_BadSwap_ValueError⟩
theorem Txt.h_place {K:W.Frag} {mg:Str->Option Value} {A:Adr} (T:Txt K mg A) {x:Option Xn} (h:zfs x=true):∃ e,x=some e∧(XF.fs e).lookup ("place":Str)=some (V.int (zcB x))∧XCls K (A.xc e)∧NoAttr K (A.xc e) "place"∧W.hasDictIn K (A.xc e)=true:=by
 match x,h with
 | some (.BadSwap k),_=>exact ⟨.BadSwap k,rfl,rfl,T.xcl_BadSwap,T.xini_BadSwap.na,T.xini_BadSwap.hd⟩
section
variable {P:Program} {w:World} {K:W.Frag} {mg:Str->Option Value} {base:Heap} {f:Addr} {fd:FuncData} {A:Adr}
theorem zcF:FnScope ["self","place"] ["self","place"] (zah zby):=⟨rfl,rfl,rfl,by decide+kernel,rfl,by decide+kernel,by decide+kernel⟩
theorem zcw (F:Fun K "__init__" "BadSwap.__init__" zby f fd) (T:Txt K mg A):FnOk P w K mg base (CXE P w) 1 f fd ["self","place"] (zkH (A.xc (.BadSwap 0)) "place"):=F.okXI zcF T.xini_BadSwap rfl (Or.inl rfl) (Or.inl rfl)
noncomputable def zdn (P0:Int) (P1:Jq):BookD:=⟨P0,(List.map (λ(x1:Ji)=>x1) P1)⟩
def zbo (P0:Int) (P1:Jq):Prop:=P1.length≤1000
def zcd (K:W.Frag) (A:Adr):Sp:=zk7 (ι:=Int×Jq) A.Book (λx=>[dI x.1,dQ K (List.map lI x.2)]) (λx=>zbo x.1 x.2) true (λx=>[("many",dI ((zdn x.1 x.2).many)),("swaps",dL (List.map lI ((zdn x.1 x.2).swaps)))])
theorem zdd:FnScope ["self","many","swaps"] ["self","many","swaps"] (zah zbE):=⟨rfl,rfl,rfl,by decide+kernel,rfl,by decide+kernel,by decide+kernel⟩
theorem zdc (F:Fun K "__init__" "Book.__init__" zbE f fd) (T:Txt K mg A) :FnOk P w K mg base (CXE P w) 1 f fd ["self","many","swaps"] (zcd K A):=by
 refine F.okI zdd (λ_=>rfl) (λcdv Ar outer s H E x hr hp=> ?_)
 obtain ⟨P0,P1⟩:=x
 have hu:=hr.units
 replace hp:zbo P0 P1:=hp
 unfold zbo at hp
 refine ⟨_,(zac (zh9 (pv 0) (pv 1) rfl) (zac (zh9 (pv 0) (zeg rfl (.of (osc:=(zah zbE)) (N:=["self","many","swaps"]) (own:=["swap"]) (fvn:=[]) (fv:=[]) rfl rfl (by decide+kernel)) (zb6 (K:=K) rfl (pv 2)) (λ_ _ _ _ _=>⟨(zbC (i:=0) (show (["swap"]:List Str).Nodup by decide +kernel) rfl (Or.inl rfl) (Or.inr rfl)),zdz,(zeq (zdH (K:=K) rfl) rfl T.list PyProof.Rows.boot_list ↑[pv 0])⟩)) rfl) zag)),λp dx=>⟨([.ob true A.Book p dx [("many",dI P0),("swaps",dL (List.map lI (List.map (λ(x1:Ji)=>x1) P1)))],⇑[dI P0],⇑[dQ K (List.map lI P1)]]:L2.Ctx),?_,rfl⟩⟩
 show L2.Run _ ([.ob true A.Book p dx [],⇑[dI P0],⇑[dQ K (List.map lI P1)]]:L2.Ctx) _ _
 exact (zfy (i:=0) rfl (Ev.any (m:=false) (zaa (i:=1) rfl)) T.Book_cl T.Book_many [] rfl (by decide+kernel) (by decide) (zfy (i:=0) rfl (EvO.ev (EvO.conv (zew (g:=(λ(x1:Ji)=>dL (List.map dI x1))) (zdB (m:=false) lI (xs:=P1) (zaa (i:=2) rfl)) ↥(zaY (by omega)) ⟨by decide,by decide⟩ (λi2 x1 hx3=>have qhx3:=List.mem_of_getElem? hx3;(EvO.ev (EvO.anyI (m:=false) (zgh (Ev.weak (K:=K) (zaa (i:=0) rfl))))))) (by first|(rw [List.map_map];rfl)|(simp only [cond_true,cond_false];rw [List.map_map];rfl)))) T.Book_cl T.Book_swaps ["many"] rfl (by decide+kernel) (by decide) (zaB (Wk.refl _))))
theorem zjO {w:Int} {sw:Jq}:zdn w sw=⟨w,sw⟩:=by
 unfold zdn
 simp
noncomputable def zaP (P0:Int) (P1:Jq):Except Xn BookD :=
 (bif ((decide (P0<(1:Int)))||(decide (8<P0))) then (Except.error Xn.BadWares)
 else (bif (decide (12<((P1.length:Nat):Int))) then (Except.error Xn.TooMany)
 else (zkK (za8 (λ(s6:Unit) (x7:(Int×Ji))=>(((bif (!decide (((x7.2.length:Nat):Int)=P0)) then (Sum.inr (Except.error (Xn.BadSwap x7.1)))
 else (Sum.inl ()))):(Unit) ⊕ (Except Xn BookD))) () (zdx P1)) (λ(r12:Unit) =>
 (Except.ok (zdn P0 P1))) (λb=>b))))
def zbP (P0:Int) (P1:Jq):Prop:=P1.length≤20
def zds (K:W.Frag) (A:Adr):Sp:=Spv (ι:=Int×Jq) (λx=>[dI x.1,dQ K (List.map lI x.2)]) (λx=>zbP x.1 x.2) (λx=>zkN A.xc true (zcs A.Book) (zaP x.1 x.2))
theorem zc0:FnScope ["many","swaps","place","swap"] ["many","swaps"] (zah zdr):=⟨rfl,rfl,rfl,by decide+kernel,rfl,by decide+kernel,by decide+kernel⟩
theorem zfd (F:Fun K "book_of" "book_of" zdr f fd) (T:Txt K mg A)  {ycf:Addr} {yb6:FuncData} (ybT:Mk K A.Book ycf) (yat:FnOk P w K mg base (CXE P w) 1 ycf yb6 ["self","many","swaps"] (zcd K A)) (yau:zcX K yb6 ["self","many","swaps"] []) {ybH:FuncData} (GI_BadSwap:FnOk P w K mg base (CXE P w) 1 A.xf_BadSwap ybH ["self","place"] (zkH (A.xc (.BadSwap 0)) "place")) (bI_BadSwap:zcX K ybH ["self","place"] []):FnOk P w K mg base (CXE P w) 3 f fd ["many","swaps"] (zds K A):=by
 refine F.okVX zc0 (λ_=>rfl) (λcdv Ar outer s H E x hr hp O=>?_)
 obtain ⟨P0,P1⟩:=x
 have hu:=hr.units
 replace hp:zbP P0 P1:=hp
 unfold zbP at hp
 obtain ⟨yaG,ybU⟩:=T.g_MOST_SWAPS
 obtain ⟨yaH,ybV⟩:=T.g_MOST_WARES
 refine ⟨_,(zay (ze3 (PW.pt (zff (zaw ziR (pv 0) zae (zaC _)) (zdS (zaw zfj (pv 0) (zaN (v:=.int 8) rfl ybV ⟨_,rfl⟩) (zaC _))))) (zay (zfq O rfl rfl T.xm_BadWares T.xi_BadWares PySem.F.excBase_ValueError ↑[za7]) zbI) zbI) (zay (ze3 (zaw zfj (zai (zaA (K:=K) rfl) rfl T.len PySem.boot_len ↑[pv 1]) (zaN (v:=.int 12) rfl ybU ⟨_,rfl⟩) (zaC _)) (zay (zfq O rfl rfl T.xm_TooMany T.xi_TooMany PySem.F.excBase_ValueError ↑[za7]) zbI) zbI) (zay (zjx O rfl (zir rfl rfl T.enumerate ↑[pv 1]) (zfp (K:=K) (n:=2) rfl rfl (zde (zbC (i:=2) zc0.nd rfl (Or.inl rfl) (Or.inl rfl)) (zde (zbC (i:=3) zc0.nd rfl (Or.inl rfl) (Or.inl rfl)) zgX))) (zay (ze3 (zaw zfP (zai (zaA (K:=K) rfl) rfl T.len PySem.boot_len ↑[pv 3]) (pv 0) (zaC _)) (zay (zgR O rfl rfl T.xm_BadSwap T.xini_BadSwap GI_BadSwap (hr.mono (by decide)) bI_BadSwap ↑[pv 2]) zbI) zbI) zbI)) (zay (zbD (zaL (ziz ybT yat (hr.mono (by decide)) rfl T.Book yau .nil zb8 ↑[pv 0,pv 1]))) zbI)))),.inl ?_⟩
 show L2.Run _ ([⇑[dI P0],⇑[dQ K (List.map lI P1)],.no,.no]:L2.Ctx) _ (zj4 4 (zkN A.xc true (zcs A.Book) (zaP P0 P1)))
 rw [zg9]
 show L2.Run _ _ _ ((foX A.xc ([.no,.no,.no,.no]:L2.Ctx) (λ(r:BookD)=>Oc.rt true (zcs A.Book r))) (zaP P0 P1))
 unfold zaP
 exact (zar (b:=((decide (P0<(1:Int)))||(decide (8<P0)))) (foX A.xc ([.no,.no,.no,.no]:L2.Ctx) (λ(r:BookD)=>Oc.rt true (zcs A.Book r))) (zdK (b:=(decide (P0<(1:Int)))) (zas (zba (x:=P0) (y:=(1:Int)) (Ev.any (m:=false) (zaa (i:=0) rfl)) zax)) (λhb=>(zas (zba (x:=P0) (y:=8) (Ev.any (m:=false) (zaa (i:=0) rfl)) zax)))) (λh4=>(zaf (zeu (m:=false) (zab zax zao) (by show 1≤sizeLine;decide) (.no (.no (.eq (.eq .nil))))))) (λh4=>(zal (zar (b:=(decide (12<((P1.length:Nat):Int)))) (foX A.xc ([.no,.no,.no,.no]:L2.Ctx) (λ(r:BookD)=>Oc.rt true (zcs A.Book r))) (zas (zba (x:=((P1.length:Nat):Int)) (y:=12) (zbB (f:=lI) (xs:=P1) (zaa (i:=1) rfl)) zax)) (λh5=>(zaf (zeu (m:=false) (zab zax zao) (by show 1≤sizeLine;decide) (.no (.no (.eq (.eq .nil))))))) (λh5=>(zal (zd8 (s0:=()) (λ(s6:Unit)=>([⇑[dI P0],⇑[dQ K (List.map lI P1)],.no,.no]:L2.Ctx)) (foX A.xc ([.no,.no,.no,.no]:L2.Ctx) (λ(r:BookD)=>Oc.rt true (zcs A.Book r))) (λb=>b) (λ(s6:Unit) (x7:(Int×Ji))=>(((bif (!decide (((x7.2.length:Nat):Int)=P0)) then (Sum.inr (Except.error (Xn.BadSwap x7.1))) else (Sum.inl ()))):(Unit) ⊕ (Except Xn BookD))) (λ_ _=>True) (λb=>match b with | .ok _=>.inl ⟨_,_,rfl⟩ | .error _=>.inr (.inr ⟨_,_,_,rfl⟩)) (ziN (m:=false) lI (xs:=P1) (zaa (i:=1) rfl)) (.eq (.eq (.eq (.eq .nil)))) trivial (λi8 x7 s6 hx9 hI10=>have qhx9:=zdE hx9;⟨(λ_ _=>trivial),(zar (b:=(!decide (((x7.2.length:Nat):Int)=P0))) (zfR (λ(s6:Unit)=>([⇑[dI P0],⇑[dQ K (List.map lI P1)],.no,.no]:L2.Ctx)) (foX A.xc ([.no,.no,.no,.no]:L2.Ctx) (λ(r:BookD)=>Oc.rt true (zcs A.Book r)))) (zas (zeG (x:=((x7.2.length:Nat):Int)) (y:=P0) (zbB (f:=dI) (xs:=x7.2) (Ev.weak (K:=K) (zaa (i:=3) rfl))) (Ev.any (m:=false) (zaa (i:=0) rfl)))) (λh11=>(zaf (run_raiseI (m:=false) (zab (Ev.any (m:=false) (zaa (i:=2) rfl)) zao) (.no (.no (.no (.no .nil)))) (λ_ d h=>Or.inr ⟨d,rfl,h⟩)))) (λh11=>(zal (zaB (.eq (.eq (.no (.no .nil))))))))⟩) (λr12 hr12 hI=>(zan (zaz (ziO (i:=(P0,P1)) (zab (Ev.any (m:=false) (zaa (i:=0) rfl)) (zab (zaa (i:=1) rfl) zao)) rfl (by show zbo P0 P1;show _≤1000;omega))))))))))))
noncomputable def zap (P0:Int):Bool :=
 (true&&(!false))
def zbm (P0:Int):Prop:=True
def zb0 (K:W.Frag) (A:Adr):Sp:=Spv (ι:=Int) (λx=>[dI x]) (λx=>zbm x) (λx=>↥[dB (zap x)])
theorem zeO:FnScope ["_law_found"] ["_law_found"] (zah zcI):=⟨rfl,rfl,rfl,by decide+kernel,rfl,by decide+kernel,by decide+kernel⟩
theorem zeE (F:Fun K "_law_whole" "_law_whole" zcI f fd) (T:Txt K mg A) :FnOk P w K mg base (CXE P w) 1 f fd ["_law_found"] (zb0 K A):=by
 refine F.okV zeO (λ_=>rfl) (λcdv Ar outer s H E P0 hr hp=> ?_)
 have hu:=hr.units
 replace hp:zbm P0:=hp
 unfold zbm at hp
 refine ⟨_,(zac (zaL (zfB (zai (zaq (K:=K) rfl) rfl T.isinstance PyProof.Rows.boot_isinstance ↑[pv 0,(zdy rfl T.int (v:=.ty "int") (u:=.type "int") (by decide+kernel) rfl)]) (zex (zjk (zai (zaq (K:=K) rfl) rfl T.isinstance PyProof.Rows.boot_isinstance ↑[pv 0,(zdy rfl T.bool (v:=.ty "bool") (u:=.type "bool") (by decide+kernel) rfl)]))))) zag),.inl ?_⟩
 show L2.Run _ ([⇑[dI P0]]:L2.Ctx) _ ((λ(r:Bool)=>Oc.rt true (dB r)) (zap P0))
 unfold zap
 exact (zan (zaz (zft (b:=true) (zf8 (λ_=>TyOf.int _) (Ev.any (m:=false) (zaa (i:=0) rfl)) T.kit_int_int) (λhb=>(zjm (zf8 (λ_=>TyOf.int _) (Ev.any (m:=false) (zaa (i:=0) rfl)) T.kit_int_bool))))))
noncomputable def za9 (P0:Ji) (P1:Ji):Bool :=
 (bif ((!true)||(!decide (((P0.length:Nat):Int)=((P1.length:Nat):Int)))) then false
 else ((((List.map (λ(x14:Int)=>(zap x14)) P0)).all id)&&(decide (P0=P1))))
def zbN (P0:Ji) (P1:Ji):Prop:=P0.length≤1000
def zdf (K:W.Frag) (A:Adr):Sp:=Spv (ι:=Ji×Ji) (λx=>[dL (List.map dI x.1),dQ K (List.map dI x.2)]) (λx=>zbN x.1 x.2) (λx=>↥[dB (za9 x.1 x.2)])
theorem zfb:FnScope ["_law_found","_law_due_here"] ["_law_found","_law_due_here"] (zah zck):=⟨rfl,rfl,rfl,by decide+kernel,rfl,by decide+kernel,by decide+kernel⟩
theorem zfe (F:Fun K "_law_same" "_law_same" zck f fd) (T:Txt K mg A) (yae:Callee P w K mg base (CXE P w) 1 "_law_whole" ["_law_found"] (zb0 K A)):FnOk P w K mg base (CXE P w) 2 f fd ["_law_found","_law_due_here"] (zdf K A):=by
 refine F.okV zfb (λ_=>rfl) (λcdv Ar outer s H E x hr hp=> ?_)
 obtain ⟨P0,P1⟩:=x
 have hu:=hr.units
 replace hp:zbN P0 P1:=hp
 unfold zbN at hp
 refine ⟨_,(zac (zb4 (PW.pt (zff (zdC (zdm (zai (zaq (K:=K) rfl) rfl T.isinstance PyProof.Rows.boot_isinstance ↑[pv 0,(zdy rfl T.list (v:= .ty "list") (u:= .type "list") (by decide+kernel) rfl)]))) (zdS (zaw zfP (zai (zaA (K:=K) rfl) rfl T.len PySem.boot_len ↑[pv 0]) (zai (zaA (K:=K) rfl) rfl T.len PySem.boot_len ↑[pv 1]) (zaC _))))) (zac (zaL zeW) zag) zag) (zac (zaL (zfB (zai (zf0 (K:=K) rfl rfl) rfl T.all PyProof.Rows.boot_all ↑[(zeg rfl (.of (osc:=(zah zck)) (N:=["_law_found","_law_due_here"]) (own:=["_law_one"]) (fvn:=[]) (fv:=[]) rfl rfl (by decide+kernel)) (zb6 (K:=K) rfl (pv 0)) (λ_ _ _ _ _=>⟨(zbC (i:=0) (show (["_law_one"]:List Str).Nodup by decide +kernel) rfl (Or.inl rfl) (Or.inr rfl)),zdz,(zce yae (hr.mono (by decide)) rfl zb8 ↑[pv 0])⟩))]) (zex (zdG (zgT (K:=K) rfl hu) (pv 0) (pv 1) (zaC _))))) zag)),.inl ?_⟩
 show L2.Run _ ([⇑[dL (List.map dI P0)],⇑[dQ K (List.map dI P1)]]:L2.Ctx) _ ((λ(r:Bool)=>Oc.rt true (dB r)) (za9 P0 P1))
 unfold za9
 exact (zar (b:=((!true)||(!decide (((P0.length:Nat):Int)=((P1.length:Nat):Int))))) (λ(r:Bool)=>Oc.rt true (dB r)) (zdK (b:=(!true)) (zcC (zcE (zgp (zaa (i:=0) rfl) T.kit_list_list))) (λhb=>(zas (zeG (x:=((P0.length:Nat):Int)) (y:=((P1.length:Nat):Int)) (zbB (f:=dI) (xs:=P0) (Ev.weak (K:=K) (zaa (i:=0) rfl))) (zbB (f:=dI) (xs:=P1) (zaa (i:=1) rfl)))))) (λh13=>(zaf (zan (zaz zax)))) (λh13=>(zal (zan (zaz (zft (b:=(((List.map (λ(x14:Int)=>(zap x14)) P0)).all id)) (zkr (xs:=(List.map (λ(x14:Int)=>(zap x14)) P0)) (Ev.weak (K:=K) (EvO.ev (EvO.conv (zew (g:=(λ(x14:Int)=>dB (zap x14))) (zdB (m:=false) dI (xs:=P0) (Ev.weak (K:=K) (zaa (i:=0) rfl))) ↥(zaY (by omega)) ⟨by decide,by decide⟩ (λi15 x14 hx16=>have v16:=List.mem_of_getElem? hx16;(Ev.any (m:=true) (zbp (x:=x14) (zab (Ev.any (m:=false) (zaa (i:=0) rfl)) zao) rfl (by show zbm x14;exact trivial) rfl)))) (by first|(rw [List.map_map];rfl)|(simp only [cond_true,cond_false];rw [List.map_map];rfl)))))) (λhb=>(zfG (n:=0) (neg:=false) (xs:=P0) (ys:=P1) EqD.int (Ev.weak (K:=K) (zaa (i:=0) rfl)) (zaa (i:=1) rfl)))))))))
noncomputable def zaW (P0:(Option Xn)):(List Bool) :=
 (Let [(zbG zbd P0),(zbG zbc P0),(zbG zbt P0)] (λ(v17:(List Bool)) =>
 (Let (v17++[(zbG zbi P0),(zbG zaQ P0),(zbG zbj P0)]) (λ(v18:(List Bool)) =>
 (Let (v18++[(zbG zbb P0),(zbG zaZ P0),(zbG zbk P0)]) (λ(v19:(List Bool)) =>
 (Let (v19++[(zbG za0 P0),(zbG zaG P0),(zbG zaF P0)]) (λ(v20:(List Bool)) =>
 (Let (v20++[(zbG zbg P0),(zbG zaR P0),(zbG zbu P0)]) (λ(v21:(List Bool)) =>
 (Let (v21++[(zbG za2 P0),(zbG zbx P0),(zbG zbw P0)]) (λ(v22:(List Bool)) =>
 (v22++[(zbG zbJ P0)])))))))))))))
def zbR (P0:(Option Xn)):Prop:=True
def zc5 (K:W.Frag) (A:Adr):Sp:=Spv (ι:=(Option Xn)) (λx=>[dOpt (λe=>dE (A.xc e) (XF.fs e)) x]) (λx=>zbR x) (λx=>.ow true (List.map dB (zaW x)))
theorem zbf:FnScope ["_law_caught","_law_flags_here"] ["_law_caught"] (zah zcv):=⟨rfl,rfl,rfl,by decide+kernel,rfl,by decide+kernel,by decide+kernel⟩
theorem zev (F:Fun K "_law_flags" "_law_flags" zcv f fd) (T:Txt K mg A) :FnOk P w K mg base (CXE P w) 1 f fd ["_law_caught"] (zc5 K A):=by
 refine F.okV zbf (λ_=>rfl) (λcdv Ar outer s H E P0 hr hp=> ?_)
 have hu:=hr.units
 replace hp:zbR P0:=hp
 unfold zbR at hp
 refine ⟨_,(zac (zaX (i:=1) zbf.nd rfl (Or.inl rfl) (zbH ↑[(zai (zaq (K:=K) rfl) rfl T.isinstance PyProof.Rows.boot_isinstance ↑[pv 0,(zaN (v:=.ref A.k_NotAlike) rfl T.k_NotAlike rfl)]),(zai (zaq (K:=K) rfl) rfl T.isinstance PyProof.Rows.boot_isinstance ↑[pv 0,(zaN (v:=.ref A.k_BadWares) rfl T.k_BadWares rfl)]),(zai (zaq (K:=K) rfl) rfl T.isinstance PyProof.Rows.boot_isinstance ↑[pv 0,(zaN (v:=.ref A.k_TooMany) rfl T.k_TooMany rfl)])])) (zac (zaX (i:=1) zbf.nd rfl (Or.inl rfl) (zau zc6 (pv 1) (zbH ↑[(zai (zaq (K:=K) rfl) rfl T.isinstance PyProof.Rows.boot_isinstance ↑[pv 0,(zaN (v:=.ref A.k_BadSwap) rfl T.k_BadSwap rfl)]),(zai (zaq (K:=K) rfl) rfl T.isinstance PyProof.Rows.boot_isinstance ↑[pv 0,(zaN (v:=.ref A.k_BadBasket) rfl T.k_BadBasket rfl)]),(zai (zaq (K:=K) rfl) rfl T.isinstance PyProof.Rows.boot_isinstance ↑[pv 0,(zaN (v:=.ref A.k_BadRoad) rfl T.k_BadRoad rfl)])]))) (zac (zaX (i:=1) zbf.nd rfl (Or.inl rfl) (zau zc6 (pv 1) (zbH ↑[(zai (zaq (K:=K) rfl) rfl T.isinstance PyProof.Rows.boot_isinstance ↑[pv 0,(zaN (v:=.ref A.k_Endless) rfl T.k_Endless rfl)]),(zai (zaq (K:=K) rfl) rfl T.isinstance PyProof.Rows.boot_isinstance ↑[pv 0,(zaN (v:=.ref A.k_TooGreat) rfl T.k_TooGreat rfl)]),(zai (zaq (K:=K) rfl) rfl T.isinstance PyProof.Rows.boot_isinstance ↑[pv 0,(zaN (v:=.ref A.k_BadRest) rfl T.k_BadRest rfl)])]))) (zac (zaX (i:=1) zbf.nd rfl (Or.inl rfl) (zau zc6 (pv 1) (zbH ↑[(zai (zaq (K:=K) rfl) rfl T.isinstance PyProof.Rows.boot_isinstance ↑[pv 0,(zaN (v:=.ref A.k_BadScale) rfl T.k_BadScale rfl)]),(zai (zaq (K:=K) rfl) rfl T.isinstance PyProof.Rows.boot_isinstance ↑[pv 0,(zaN (v:=.ref A.k_OtherWares) rfl T.k_OtherWares rfl)]),(zai (zaq (K:=K) rfl) rfl T.isinstance PyProof.Rows.boot_isinstance ↑[pv 0,(zaN (v:=.ref A.k_BadBaskets) rfl T.k_BadBaskets rfl)])]))) (zac (zaX (i:=1) zbf.nd rfl (Or.inl rfl) (zau zc6 (pv 1) (zbH ↑[(zai (zaq (K:=K) rfl) rfl T.isinstance PyProof.Rows.boot_isinstance ↑[pv 0,(zaN (v:=.ref A.k_NotKept) rfl T.k_NotKept rfl)]),(zai (zaq (K:=K) rfl) rfl T.isinstance PyProof.Rows.boot_isinstance ↑[pv 0,(zaN (v:=.ref A.k_OtherBook) rfl T.k_OtherBook rfl)]),(zai (zaq (K:=K) rfl) rfl T.isinstance PyProof.Rows.boot_isinstance ↑[pv 0,(zaN (v:=.ref A.k_NoLine) rfl T.k_NoLine rfl)])]))) (zac (zaX (i:=1) zbf.nd rfl (Or.inl rfl) (zau zc6 (pv 1) (zbH ↑[(zai (zaq (K:=K) rfl) rfl T.isinstance PyProof.Rows.boot_isinstance ↑[pv 0,(zaN (v:=.ref A.k_BadNames) rfl T.k_BadNames rfl)]),(zai (zaq (K:=K) rfl) rfl T.isinstance PyProof.Rows.boot_isinstance ↑[pv 0,(zaN (v:=.ref A.k_NoBook) rfl T.k_NoBook rfl)]),(zai (zaq (K:=K) rfl) rfl T.isinstance PyProof.Rows.boot_isinstance ↑[pv 0,(zaN (v:=.ref A.k_NoName) rfl T.k_NoName rfl)])]))) (zac (zaL (zau zc6 (pv 1) (zbH ↑[(zai (zaq (K:=K) rfl) rfl T.isinstance PyProof.Rows.boot_isinstance ↑[pv 0,(zaN (v:=.ref A.k_NoSwap) rfl T.k_NoSwap rfl)])]))) zag))))))),.inl ?_⟩
 show L2.Run _ ([⇑[dOpt (λe=>dE (A.xc e) (XF.fs e)) P0],.no]:L2.Ctx) _ ((λr=>Oc.rl true (List.map dB r)) (zaW P0))
 unfold zaW
 exact (zaT (m:=true) (x:=[(zbG zbd P0),(zbG zbc P0),(zbG zbt P0)]) (λ(xs:(List Bool))=>dL (List.map dB xs)) (λr=>Oc.rl true (List.map dB r)) (EvO.ev (zbY (zab (za4 (xc:=A.xc) (x:=P0) (f:=zbd) (zaa (i:=0) rfl) T.i0_NotAlike T.hx_NotAlike) (zab (za4 (xc:=A.xc) (x:=P0) (f:=zbc) (zaa (i:=0) rfl) T.i0_BadWares T.hx_BadWares) (zab (za4 (xc:=A.xc) (x:=P0) (f:=zbt) (zaa (i:=0) rfl) T.i0_TooMany T.hx_TooMany) zao))) (by show 3≤sizeLine;decide))) (λv17 hv17=>(zaT (m:=true) (x:=(v17++[(zbG zbi P0),(zbG zaQ P0),(zbG zbj P0)])) (λ(xs:(List Bool))=>dL (List.map dB xs)) (λr=>Oc.rl true (List.map dB r)) (EvO.ev (EvO.anyB (m:=true) (zcg (f:=dB) (xs:=v17) (ys:=[(zbG zbi P0),(zbG zaQ P0),(zbG zbj P0)]) (zaa (i:=1) rfl) (EvO.ev (zbY (zab (za4 (xc:=A.xc) (x:=P0) (f:=zbi) (zaa (i:=0) rfl) T.i0_BadSwap T.hx_BadSwap) (zab (za4 (xc:=A.xc) (x:=P0) (f:=zaQ) (zaa (i:=0) rfl) T.i0_BadBasket T.hx_BadBasket) (zab (za4 (xc:=A.xc) (x:=P0) (f:=zbj) (zaa (i:=0) rfl) T.i0_BadRoad T.hx_BadRoad) zao))) (by show 3≤sizeLine;decide))) (by apply zaY;subst_vars;simp only [List.length_append,List.length_cons,List.length_nil,List.length_map];omega)))) (λv18 hv18=>(zaT (m:=true) (x:=(v18++[(zbG zbb P0),(zbG zaZ P0),(zbG zbk P0)])) (λ(xs:(List Bool))=>dL (List.map dB xs)) (λr=>Oc.rl true (List.map dB r)) (EvO.ev (EvO.anyB (m:=true) (zcg (f:=dB) (xs:=v18) (ys:=[(zbG zbb P0),(zbG zaZ P0),(zbG zbk P0)]) (zaa (i:=1) rfl) (EvO.ev (zbY (zab (za4 (xc:=A.xc) (x:=P0) (f:=zbb) (zaa (i:=0) rfl) T.i0_Endless T.hx_Endless) (zab (za4 (xc:=A.xc) (x:=P0) (f:=zaZ) (zaa (i:=0) rfl) T.i0_TooGreat T.hx_TooGreat) (zab (za4 (xc:=A.xc) (x:=P0) (f:=zbk) (zaa (i:=0) rfl) T.i0_BadRest T.hx_BadRest) zao))) (by show 3≤sizeLine;decide))) (by apply zaY;subst_vars;simp only [List.length_append,List.length_cons,List.length_nil,List.length_map];omega)))) (λv19 hv19=>(zaT (m:=true) (x:=(v19++[(zbG za0 P0),(zbG zaG P0),(zbG zaF P0)])) (λ(xs:(List Bool))=>dL (List.map dB xs)) (λr=>Oc.rl true (List.map dB r)) (EvO.ev (EvO.anyB (m:=true) (zcg (f:=dB) (xs:=v19) (ys:=[(zbG za0 P0),(zbG zaG P0),(zbG zaF P0)]) (zaa (i:=1) rfl) (EvO.ev (zbY (zab (za4 (xc:=A.xc) (x:=P0) (f:=za0) (zaa (i:=0) rfl) T.i0_BadScale T.hx_BadScale) (zab (za4 (xc:=A.xc) (x:=P0) (f:=zaG) (zaa (i:=0) rfl) T.i0_OtherWares T.hx_OtherWares) (zab (za4 (xc:=A.xc) (x:=P0) (f:=zaF) (zaa (i:=0) rfl) T.i0_BadBaskets T.hx_BadBaskets) zao))) (by show 3≤sizeLine;decide))) (by apply zaY;subst_vars;simp only [List.length_append,List.length_cons,List.length_nil,List.length_map];omega)))) (λv20 hv20=>(zaT (m:=true) (x:=(v20++[(zbG zbg P0),(zbG zaR P0),(zbG zbu P0)])) (λ(xs:(List Bool))=>dL (List.map dB xs)) (λr=>Oc.rl true (List.map dB r)) (EvO.ev (EvO.anyB (m:=true) (zcg (f:=dB) (xs:=v20) (ys:=[(zbG zbg P0),(zbG zaR P0),(zbG zbu P0)]) (zaa (i:=1) rfl) (EvO.ev (zbY (zab (za4 (xc:=A.xc) (x:=P0) (f:=zbg) (zaa (i:=0) rfl) T.i0_NotKept T.hx_NotKept) (zab (za4 (xc:=A.xc) (x:=P0) (f:=zaR) (zaa (i:=0) rfl) T.i0_OtherBook T.hx_OtherBook) (zab (za4 (xc:=A.xc) (x:=P0) (f:=zbu) (zaa (i:=0) rfl) T.i0_NoLine T.hx_NoLine) zao))) (by show 3≤sizeLine;decide))) (by apply zaY;subst_vars;simp only [List.length_append,List.length_cons,List.length_nil,List.length_map];omega)))) (λv21 hv21=>(zaT (m:=true) (x:=(v21++[(zbG za2 P0),(zbG zbx P0),(zbG zbw P0)])) (λ(xs:(List Bool))=>dL (List.map dB xs)) (λr=>Oc.rl true (List.map dB r)) (EvO.ev (EvO.anyB (m:=true) (zcg (f:=dB) (xs:=v21) (ys:=[(zbG za2 P0),(zbG zbx P0),(zbG zbw P0)]) (zaa (i:=1) rfl) (EvO.ev (zbY (zab (za4 (xc:=A.xc) (x:=P0) (f:=za2) (zaa (i:=0) rfl) T.i0_BadNames T.hx_BadNames) (zab (za4 (xc:=A.xc) (x:=P0) (f:=zbx) (zaa (i:=0) rfl) T.i0_NoBook T.hx_NoBook) (zab (za4 (xc:=A.xc) (x:=P0) (f:=zbw) (zaa (i:=0) rfl) T.i0_NoName T.hx_NoName) zao))) (by show 3≤sizeLine;decide))) (by apply zaY;subst_vars;simp only [List.length_append,List.length_cons,List.length_nil,List.length_map];omega)))) (λv22 hv22=>(zb5 (zcN (EvO.anyB (m:=true) (zcg (f:=dB) (xs:=v22) (ys:=[(zbG zbJ P0)]) (zaa (i:=1) rfl) (EvO.ev (zbY (zab (za4 (xc:=A.xc) (x:=P0) (f:=zbJ) (zaa (i:=0) rfl) T.i0_NoSwap T.hx_NoSwap) zao) (by show 1≤sizeLine;decide))) (by apply zaY;subst_vars;simp only [List.length_append,List.length_cons,List.length_nil,List.length_map];omega)))))))))))))))))
noncomputable def zav (P0:(Option Xn)) (P1:Str):Bool :=
 (Let [("NotAlike":Str),("BadWares" :Str),("TooMany" :Str),("BadSwap" :Str),("BadBasket":Str),("BadRoad":Str),("Endless":Str),("TooGreat":Str)] (λ(v23:(List Str)) =>
 (Let (v23++[("BadRest" :Str),("BadScale" :Str),("OtherWares" :Str),("BadBaskets" :Str),("NotKept" :Str),("OtherBook" :Str),("NoLine" :Str)]) (λ(v24:(List Str)) =>
 (Let (v24++[("BadNames" :Str),("NoBook" :Str),("NoName" :Str),("NoSwap" :Str)]) (λ(v25:(List Str)) =>
 ((zbG zaV P0)&&(decide ((zaW P0)=(List.map (λ(x26:Str)=>(decide (x26=P1))) v25))))))))))
def zb1 (P0:(Option Xn)) (P1:Str):Prop:=True
def zdu (K:W.Frag) (A:Adr):Sp:=Spv (ι:=(Option Xn)×Str) (λx=>[dOpt (λe=>dE (A.xc e) (XF.fs e)) x.1,dS x.2]) (λx=>zb1 x.1 x.2) (λx=>↥[dB (zav x.1 x.2)])
theorem zb9:FnScope ["_law_caught","_law_name","_law_names"] ["_law_caught","_law_name"] (zah zcl):=⟨rfl,rfl,rfl,by decide+kernel,rfl,by decide+kernel,by decide+kernel⟩
theorem ze7 (F:Fun K "_law_only" "_law_only" zcl f fd) (T:Txt K mg A) (yaT:Callee P w K mg base (CXE P w) 1 "_law_flags" ["_law_caught"] (zc5 K A)):FnOk P w K mg base (CXE P w) 2 f fd ["_law_caught","_law_name"] (zdu K A):=by
 refine F.okV zb9 (λ_=>rfl) (λcdv Ar outer s H E x hr hp=> ?_)
 obtain ⟨P0,P1⟩:=x
 have hu:=hr.units
 replace hp:zb1 P0 P1:=hp
 unfold zb1 at hp
 refine ⟨_,(zac (zaX (i:=2) zb9.nd rfl (Or.inl rfl) (zbH (zaE za7 (zaE za7 ↑[za7,za7,za7,za7,za7,za7])))) (zac (zaX (i:=2) zb9.nd rfl (Or.inl rfl) (zau zc6 (pv 2) (zbH (zaE za7 ↑[za7,za7,za7,za7,za7,za7])))) (zac (zaX (i:=2) zb9.nd rfl (Or.inl rfl) (zau zc6 (pv 2) (zbH ↑[za7,za7,za7,za7]))) (zac (zaL (zfB (zai (zaq (K:=K) rfl) rfl T.isinstance PyProof.Rows.boot_isinstance ↑[pv 0,(zdy rfl T.ValueError (v:=.ty "ValueError") (u:=.type "ValueError") (by decide+kernel) rfl)]) (zex (zdG (zgT (K:=K) rfl hu) (zce yaT (hr.mono (by decide)) rfl zb8 ↑[pv 0]) (zeg rfl (.of (osc:=(zah zcl)) (N:=["_law_caught","_law_name","_law_names"]) (own:=["_law_other"]) (fvn:=["_law_name"]) (fv:=[1]) rfl rfl (by decide+kernel)) (zb6 (K:=K) rfl (pv 2)) (λ_ _ _ _ _=>⟨(zbC (i:=0) (show (["_law_other","_law_name"]:List Str).Nodup by decide +kernel) rfl (Or.inl rfl) (Or.inr rfl)),zdz,(zdG zcY (pv 0) (pv 1) (zaC _))⟩)) (zaC _))))) zag)))),.inl ?_⟩
 show L2.Run _ ([⇑[dOpt (λe=>dE (A.xc e) (XF.fs e)) P0],⇑[dS P1],.no]:L2.Ctx) _ ((λ(r:Bool)=>Oc.rt true (dB r)) (zav P0 P1))
 unfold zav
 exact (zaT (m:=true) (x:=[("NotAlike":Str),("BadWares" :Str),("TooMany" :Str),("BadSwap" :Str),("BadBasket":Str),("BadRoad":Str),("Endless":Str),("TooGreat":Str)]) (λ(xs:(List Str))=>dL (List.map dS xs)) (λ(r:Bool)=>Oc.rt true (dB r)) (EvO.ev (zbY (zab zax (zab zax (zab zax (zab zax (zab zax (zab zax (zab zax (zab zax zao)))))))) (by show 8≤sizeLine;decide))) (λv23 hv23=>(zaT (m:=true) (x:=(v23++[("BadRest" :Str),("BadScale" :Str),("OtherWares" :Str),("BadBaskets" :Str),("NotKept" :Str),("OtherBook" :Str),("NoLine" :Str)])) (λ(xs:(List Str))=>dL (List.map dS xs)) (λ(r:Bool)=>Oc.rt true (dB r)) (EvO.ev (EvO.anyS (m:=true) (zcg (f:=dS) (xs:=v23) (ys:=[("BadRest":Str),("BadScale":Str),("OtherWares":Str),("BadBaskets":Str),("NotKept":Str),("OtherBook":Str),("NoLine":Str)]) (zaa (i:=2) rfl) (EvO.ev (zbY (zab zax (zab zax (zab zax (zab zax (zab zax (zab zax (zab zax zao))))))) (by show 7≤sizeLine;decide))) (by apply zaY;subst_vars;simp only [List.length_append,List.length_cons,List.length_nil,List.length_map];omega)))) (λv24 hv24=>(zaT (m:=true) (x:=(v24++[("BadNames" :Str),("NoBook" :Str),("NoName" :Str),("NoSwap" :Str)])) (λ(xs:(List Str))=>dL (List.map dS xs)) (λ(r:Bool)=>Oc.rt true (dB r)) (EvO.ev (EvO.anyS (m:=true) (zcg (f:=dS) (xs:=v24) (ys:=[("BadNames":Str),("NoBook":Str),("NoName":Str),("NoSwap":Str)]) (zaa (i:=2) rfl) (EvO.ev (zbY (zab zax (zab zax (zab zax (zab zax zao)))) (by show 4≤sizeLine;decide))) (by apply zaY;subst_vars;simp only [List.length_append,List.length_cons,List.length_nil,List.length_map];omega)))) (λv25 hv25=>(zan (zaz (zft (b:=(zbG zaV P0)) (zht (xc:=A.xc) (x:=P0) (f:=zaV) (zaa (i:=0) rfl) T.i0_ValueError T.hx_ValueError) (λhb=>(zfG (n:=0) (neg:=false) (xs:=(zaW P0)) (ys:=(List.map (λ(x26:Str)=>(decide (x26=P1))) v25)) EqD.bool (Ev.weak (K:=K) (EvO.ev (EvO.anyB (m:=true) (zfK (x:=P0) (zab (zaa (i:=0) rfl) zao) rfl (by show zbR P0;exact trivial) rfl)))) (Ev.weak (K:=K) (EvO.ev (EvO.conv (zew (g:=(λ(x26:Str)=>dB (decide (x26=P1)))) (zdB (m:=true) dS (xs:=v25) (Ev.weak (K:=K) (zaa (i:=2) rfl))) (by apply zaY;subst_vars;simp only [List.length_append,List.length_cons,List.length_nil,List.length_map];omega) ⟨by decide,by decide⟩ (λi27 x26 hx28=>have v28:=List.mem_of_getElem? hx28;(zkj (x:=x26) (y:=P1) (Ev.any (m:=true) (zaa (i:=0) rfl)) (Ev.any (m:=false) (zaa (i:=1) rfl))))) (by first|(rw [List.map_map];rfl)|(simp only [cond_true,cond_false];rw [List.map_map];rfl))))))))))))))))
noncomputable def zaj (P0:Ji) (P1:Int):Int :=
 (bif (decide (P1<((P0.length:Nat):Int))) then (ixD P0 P1)
 else (0:Int))
def zaH (P0:Ji) (P1:Int):Prop:=0≤P1
def zdp (K:W.Frag) (A:Adr):Sp:=Spv (ι:=Ji×Int) (λx=>[dQ K (List.map dI x.1),dI x.2]) (λx=>zaH x.1 x.2) (λx=>↥[dI (zaj x.1 x.2)])
theorem zhf:FnScope ["_law_script","_law_k"] ["_law_script","_law_k"] (zah zei):=⟨rfl,rfl,rfl,by decide+kernel,rfl,by decide+kernel,by decide+kernel⟩
theorem zgF (F:Fun K "_law_at" "_law_at" zei f fd) (T:Txt K mg A) :FnOk P w K mg base (CXE P w) 1 f fd ["_law_script","_law_k"] (zdp K A):=by
 refine F.okV zhf (λ_=>rfl) (λcdv Ar outer s H E x hr hp=> ?_)
 obtain ⟨P0,P1⟩:=x
 have hu:=hr.units
 replace hp:zaH P0 P1:=hp
 unfold zaH at hp
 refine ⟨_,(zac (zb4 (zaw ziR (pv 1) (zai (zaA (K:=K) rfl) rfl T.len PySem.boot_len ↑[pv 0]) (zaC _)) (zac (zaL (zej (zbA (K:=K) rfl) (pv 0) (pv 1) (λ_ _=>rfl))) zag) zag) (zac (zaL zae) zag)),.inl ?_⟩
 show L2.Run _ ([⇑[dQ K (List.map dI P0)],⇑[dI P1]]:L2.Ctx) _ ((λ(r:Int)=>Oc.rt true (dI r)) (zaj P0 P1))
 unfold zaj
 exact (zar (b:=(decide (P1<((P0.length:Nat):Int)))) (λ(r:Int)=>Oc.rt true (dI r)) (zas (zba (x:=P1) (y:=((P0.length:Nat):Int)) (Ev.any (m:=false) (zaa (i:=1) rfl)) (zbB (f:=dI) (xs:=P0) (zaa (i:=0) rfl)))) (λh29=>(zaf (zan (zaz (Ev.any (m:=false) (zdq (f:=dI) (xs:=P0) (zaa (i:=0) rfl) (Ev.any (m:=false) (zaa (i:=1) rfl)) (by unfold InB;constructor<;>((try simp only [decide_eq_true_eq,decide_eq_false_iff_not,Bool.not_eq_true',Bool.not_eq_false',Bool.and_eq_true,Bool.or_eq_false_iff,Bool.or_eq_true,Bool.and_eq_false_iff,Bool.cond_eq_ite] at *)<;>omega)))))))) (λh29=>(zal (zan (zaz zax)))))
theorem ze1 {xs:Ji} (h:(decide (((xs.length:Nat):Int)=(0:Int)))=false):(0:Int)<(xs.length:Int):=by
 simp only [decide_eq_false_iff_not] at h;omega
theorem zj1 {xs:Ji} {k:Int} (h:(decide (((xs.length:Nat):Int)=(0:Int)))=false):InB xs.length (k%((xs.length:Nat):Int)):=by
 have h0:=ze1 h
 have h1:=Int.emod_nonneg k (show (xs.length:Int)≠0 by omega)
 have h2:=Int.emod_lt_of_pos k h0
 unfold InB;omega
theorem zi3 {x m:Int} (h1:2≤m) (h2:m.natAbs<2^1000):zkh x ((2:Int)*m-(1:Int)):=by
 refine ⟨by omega,zif (k:=1001) ?_ (by decide) (by decide)⟩
 have e:2^1001=2*2^1000:=by rw [Nat.pow_succ,Nat.mul_comm]
 rw [e]
 generalize (2:Nat)^1000=z at h2
 omega
theorem zj0 {k:Int} (h1:0≤k) (h2:k<1000000):-(2^64)<(1:Int)+k*k∧(1:Int)+k*k<2^64:=by
 have a:0≤k*k:=Int.mul_nonneg h1 h1
 have b:k*k≤1000000*1000000:=Int.mul_le_mul (by omega) (by omega) h1 (by decide)
 omega
noncomputable def zbv (P0:Int) (P1:Int):Int :=
 (bif (decide ((P0%(2:Int))=(1:Int))) then ((0:Int)-((P0/(2:Int))%P1))
 else ((P0/(2:Int))%P1))
def zbq (P0:Int) (P1:Int):Prop:=0<P1
def zcR (K:W.Frag) (A:Adr):Sp:=Spv (ι:=Int×Int) (λx=>[dI x.1,dI x.2]) (λx=>zbq x.1 x.2) (λx=>↥[dI (zbv x.1 x.2)])
theorem zel:FnScope ["_law_cell","_law_most"] ["_law_cell","_law_most"] (zah zch):=⟨rfl,rfl,rfl,by decide+kernel,rfl,by decide+kernel,by decide+kernel⟩
theorem zek (F:Fun K "_law_number" "_law_number" zch f fd) (T:Txt K mg A) :FnOk P w K mg base (CXE P w) 1 f fd ["_law_cell","_law_most"] (zcR K A):=by
 refine F.okV zel (λ_=>rfl) (λcdv Ar outer s H E x hr hp=> ?_)
 obtain ⟨P0,P1⟩:=x
 have hu:=hr.units
 replace hp:zbq P0 P1:=hp
 unfold zbq at hp
 refine ⟨_,(zac (zb4 (zaw zcY (zau zbe (pv 0) zae) zae (zaC _)) (zac (zaL (zau zdT zae (zau zbe (zau za3 (pv 0) zae) (pv 1)))) zag) zag) (zac (zaL (zau zbe (zau za3 (pv 0) zae) (pv 1))) zag)),.inl ?_⟩
 show L2.Run _ ([⇑[dI P0],⇑[dI P1]]:L2.Ctx) _ ((λ(r:Int)=>Oc.rt true (dI r)) (zbv P0 P1))
 unfold zbv
 exact (zar (b:=(decide ((P0%(2:Int))=(1:Int)))) (λ(r:Int)=>Oc.rt true (dI r)) (zas (zcc (x:=(P0%(2:Int))) (y:=(1:Int)) (zat (x:=P0) (y:=(2:Int)) (Ev.any (m:=false) (zaa (i:=0) rfl)) zax (by decide)) zax)) (λh30=>(zaf (zan (zaz (zba (x:=(0:Int)) (y:=((P0/(2:Int))%P1)) zax (zat (x:=(P0/(2:Int))) (y:=P1) (zat (x:=P0) (y:=(2:Int)) (Ev.any (m:=false) (zaa (i:=0) rfl)) zax ↥(⟨by decide,by decide⟩)) (Ev.any (m:=false) (zaa (i:=1) rfl)) ↥(hp))))))) (λh30=>(zal (zan (zaz (zat (x:=(P0/(2:Int))) (y:=P1) (zat (x:=P0) (y:=(2:Int)) (Ev.any (m:=false) (zaa (i:=0) rfl)) zax ↥(⟨by decide,by decide⟩)) (Ev.any (m:=false) (zaa (i:=1) rfl)) ↥(hp)))))))
noncomputable def zaU (P0:Ji) (P1:Int) (P2:Int):Int :=
 (bif (decide (((P0.length:Nat):Int)=(0:Int))) then (0:Int)
 else (Let (ixD P0 (P1%((P0.length:Nat):Int))) (λ(v32:Int) =>
 (Let (v32/(2:Int)) (λ(v33:Int) =>
 (bif (decide ((v32%(2:Int))=(1:Int))) then (Let (List.foldl (λ(s35:Int) (x36:Int)=>(Let (s35/(((2:Int)*P2)-(1:Int))) (λ(v40:Int) =>
 v40))) v33 (zc4 0 (min (59:Int) (P1/((P0.length:Nat):Int))).toNat)) (λ(r41:Int) =>
 (((r41%(((2:Int)*P2)-(1:Int)))-P2)+(1:Int))))
 else (Let ((v33*((1:Int)+(P1*P1)))%P2) (λ(v42:Int) =>
 (Let (bif (decide (((v33+P1)%(3:Int))=(1:Int))) then (v42%(7:Int)) else v42) (λ(v44:Int) =>
 (Let (bif (decide (((v33+P1)%(7:Int))=(2:Int))) then (0:Int) else v44) (λ(v46:Int) =>
 (bif (decide (((v33/(2:Int))%(2:Int))=(1:Int))) then ((0:Int)-v46)
 else v46)))))))))))))
def zbn (P0:Ji) (P1:Int) (P2:Int):Prop:=0≤P1∧P1<1000000∧2≤P2∧P2.natAbs<2^1000∧P0.length≤1000
def zc9 (K:W.Frag) (A:Adr):Sp:=Spv (ι:=Ji×Int×Int) (λx=>[dQ K (List.map dI x.1),dI x.2.1,dI x.2.2]) (λx=>zbn x.1 x.2.1 x.2.2) (λx=>↥[dI (zaU x.1 x.2.1 x.2.2)])
theorem za1:FnScope ["_law_script","_law_k","_law_most","_law_cell","_law_number_here","_law_step","_law_mixed"] ["_law_script","_law_k","_law_most"] (zah zcy):=⟨rfl,rfl,rfl,by decide+kernel,rfl,by decide+kernel,by decide+kernel⟩
theorem zen (F:Fun K "_law_entry" "_law_entry" zcy f fd) (T:Txt K mg A) :FnOk P w K mg base (CXE P w) 1 f fd ["_law_script","_law_k","_law_most"] (zc9 K A):=by
 refine F.okV za1 (λ_=>rfl) (λcdv Ar outer s H E x hr hp=> ?_)
 obtain ⟨P0,P1,P2⟩:=x
 have hu:=hr.units
 replace hp:zbn P0 P1 P2:=hp
 unfold zbn at hp
 refine ⟨_,(zac (zb4 (zaw zcY (zai (zaA (K:=K) rfl) rfl T.len PySem.boot_len ↑[pv 0]) zae (zaC _)) (zac (zaL zae) zag) zag) (zac (zaX (i:=3) za1.nd rfl (Or.inl rfl) (zej (zbA (K:=K) rfl) (pv 0) (zau zbe (pv 1) (zai (zaA (K:=K) rfl) rfl T.len PySem.boot_len ↑[pv 0])) (λ_ _=>rfl))) (zac (zaX (i:=4) za1.nd rfl (Or.inl rfl) (zau za3 (pv 3) zae)) (zac (zb4 (zaw zcY (zau zbe (pv 3) zae) zae (zaC _)) (zac (zdP PassesOwn.never rfl (zcW rfl T.range ↑[(zai (zeN rfl) rfl T.min PyProof.Rows.boot_min ↑[zae,(zau za3 (pv 1) (zai (zaA (K:=K) rfl) rfl T.len PySem.boot_len ↑[pv 0]))])]) (zbC (i:=5) za1.nd rfl (Or.inl rfl) (Or.inl rfl)) (zac (zaX (i:=4) za1.nd rfl (Or.inl rfl) (zau za3 (pv 4) (zau zdT (zau zdA zae (pv 2)) zae))) zag)) (zac (zaL (zau zdh (zau zdT (zau zbe (pv 4) (zau zdT (zau zdA zae (pv 2)) zae)) (pv 2)) zae)) zag)) zag) (zac (zaX (i:=6) za1.nd rfl (Or.inl rfl) (zau zbe (zau zdA (pv 4) (zau zdh zae (zau zdA (pv 1) (pv 1)))) (pv 2))) (zac (zb4 (zaw zcY (zau zbe (zau zdh (pv 4) (pv 1)) zae) zae (zaC _)) (zac (zaX (i:=6) za1.nd rfl (Or.inl rfl) (zau zbe (pv 6) zae)) zag) zag) (zac (zb4 (zaw zcY (zau zbe (zau zdh (pv 4) (pv 1)) zae) zae (zaC _)) (zac (zaX (i:=6) za1.nd rfl (Or.inl rfl) zae) zag) zag) (zac (zb4 (zaw zcY (zau zbe (zau za3 (pv 4) zae) zae) zae (zaC _)) (zac (zaL (zau zdT zae (pv 6))) zag) zag) (zac (zaL (pv 6)) zag))))))))),.inl ?_⟩
 show L2.Run _ ([⇑[dQ K (List.map dI P0)],⇑[dI P1],⇑[dI P2],.no,.no,.no,.no]:L2.Ctx) _ ((λ(r:Int)=>Oc.rt true (dI r)) (zaU P0 P1 P2))
 unfold zaU
 exact (zar (b:=(decide (((P0.length:Nat):Int)=(0:Int)))) (λ(r:Int)=>Oc.rt true (dI r)) (zas (zcc (x:=((P0.length:Nat):Int)) (y:=(0:Int)) (zbB (f:=dI) (xs:=P0) (zaa (i:=0) rfl)) zax)) (λh31=>(zaf (zan (zaz zax)))) (λh31=>(zal (zaT (m:=true) (x:=(ixD P0 (P1%((P0.length:Nat):Int)))) dI (λ(r:Int)=>Oc.rt true (dI r)) (Ev.any (m:=false) (zdq (f:=dI) (xs:=P0) (zaa (i:=0) rfl) (zat (x:=P1) (y:=((P0.length:Nat):Int)) (Ev.any (m:=false) (zaa (i:=1) rfl)) (zbB (f:=dI) (xs:=P0) (zaa (i:=0) rfl)) ↥(ze1 (by assumption))) ↥(zj1 (by assumption)))) (λv32 hv32=>(zaT (m:=true) (x:=(v32/(2:Int))) dI (λ(r:Int)=>Oc.rt true (dI r)) (zat (x:=v32) (y:=(2:Int)) (Ev.any (m:=true) (zaa (i:=3) rfl)) zax ↥(⟨by decide,by decide⟩)) (λv33 hv33=>(zar (b:=(decide ((v32%(2:Int))=(1:Int)))) (λ(r:Int)=>Oc.rt true (dI r)) (zas (zcc (x:=(v32%(2:Int))) (y:=(1:Int)) (zat (x:=v32) (y:=(2:Int)) (Ev.any (m:=true) (zaa (i:=3) rfl)) zax (by decide)) zax)) (λh34=>(zaf (zeb (s0:=v33) (λ(s35:Int)=>([⇑[dQ K (List.map dI P0)],⇑[dI P1],⇑[dI P2],↥[dI v32],↥[dI s35],.no,.no]:L2.Ctx)) (λ(r:Int)=>Oc.rt true (dI r)) (λ(s35:Int) (x36:Int)=>(Let (s35/(((2:Int)*P2)-(1:Int))) (λ(v40:Int)=>v40))) (λ_ _=>True) (zec (m:=true) (n:=(min (59:Int) (P1/((P0.length:Nat):Int)))) (zio (x:=(59:Int)) (y:=(P1/((P0.length:Nat):Int))) (zab zax (zab (zat (x:=P1) (y:=((P0.length:Nat):Int)) (Ev.any (m:=false) (zaa (i:=1) rfl)) (zbB (f:=dI) (xs:=P0) (zaa (i:=0) rfl)) ↥(⟨ze1 (by assumption),zif (k:=10) (by omega) (by decide) (by decide)⟩)) zao))) (by have:=Int.ediv_nonneg (a:=P1) (b:=(P0.length:Int)) hp.1 (by omega);constructor<;>omega)) (.eq (.eq (.eq (.eq (.eq (.eq (.eq .nil))))))) trivial (λi37 x36 s35 hx38 hI39=>have v38:=zbQ hx38;⟨trivial,(zaT (m:=true) (x:=(s35/(((2:Int)*P2)-(1:Int)))) dI (λz=>Oc.nx ((λ(s35:Int)=>([⇑[dQ K (List.map dI P0)],⇑[dI P1],⇑[dI P2],↥[dI v32],↥[dI s35],.no,.no]:L2.Ctx)) z)) (zat (x:=s35) (y:=(((2:Int)*P2)-(1:Int))) (Ev.any (m:=true) (zaa (i:=4) rfl)) (zba (x:=((2:Int)*P2)) (y:=(1:Int)) (zat (x:=(2:Int)) (y:=P2) zax (Ev.any (m:=false) (zaa (i:=2) rfl)) (by first|exact .inl ⟨by ((try simp only [decide_eq_true_eq,decide_eq_false_iff_not,Bool.not_eq_true',Bool.not_eq_false',Bool.and_eq_true,Bool.or_eq_false_iff,Bool.or_eq_true,Bool.and_eq_false_iff,Bool.cond_eq_ite] at*)<;>omega),by ((try simp only [decide_eq_true_eq,decide_eq_false_iff_not,Bool.not_eq_true',Bool.not_eq_false',Bool.and_eq_true,Bool.or_eq_false_iff,Bool.or_eq_true,Bool.and_eq_false_iff,Bool.cond_eq_ite] at*)<;>omega)⟩|exact .inr (.inl ⟨by ((try simp only [decide_eq_true_eq,decide_eq_false_iff_not,Bool.not_eq_true',Bool.not_eq_false',Bool.and_eq_true,Bool.or_eq_false_iff,Bool.or_eq_true,Bool.and_eq_false_iff,Bool.cond_eq_ite] at*)<;>omega),by ((try simp only [decide_eq_true_eq,decide_eq_false_iff_not,Bool.not_eq_true',Bool.not_eq_false',Bool.and_eq_true,Bool.or_eq_false_iff,Bool.or_eq_true,Bool.and_eq_false_iff,Bool.cond_eq_ite] at*)<;>omega)⟩))) zax) ↥(zi3 hp.2.2.1 hp.2.2.2.1)) (λv40 hv40=>(zaB (.eq (.eq (.eq (.eq (.eq (.no (.eq .nil))))))))))⟩) (λr41 hr41 hI=>(zaf (zan (zaz (zba (x:=((r41%(((2:Int)*P2)-(1:Int)))-P2)) (y:=(1:Int)) (zba (x:=(r41%(((2:Int)*P2)-(1:Int)))) (y:=P2) (zat (x:=r41) (y:=(((2:Int)*P2)-(1:Int))) (Ev.any (m:=true) (zaa (i:=4) rfl)) (zba (x:=((2:Int)*P2)) (y:=(1:Int)) (zat (x:=(2:Int)) (y:=P2) zax (Ev.any (m:=false) (zaa (i:=2) rfl)) (by first|exact .inl ⟨by ((try simp only [decide_eq_true_eq,decide_eq_false_iff_not,Bool.not_eq_true',Bool.not_eq_false',Bool.and_eq_true,Bool.or_eq_false_iff,Bool.or_eq_true,Bool.and_eq_false_iff,Bool.cond_eq_ite] at*)<;>omega),by ((try simp only [decide_eq_true_eq,decide_eq_false_iff_not,Bool.not_eq_true',Bool.not_eq_false',Bool.and_eq_true,Bool.or_eq_false_iff,Bool.or_eq_true,Bool.and_eq_false_iff,Bool.cond_eq_ite] at*)<;>omega)⟩|exact .inr (.inl ⟨by ((try simp only [decide_eq_true_eq,decide_eq_false_iff_not,Bool.not_eq_true',Bool.not_eq_false',Bool.and_eq_true,Bool.or_eq_false_iff,Bool.or_eq_true,Bool.and_eq_false_iff,Bool.cond_eq_ite] at*)<;>omega),by ((try simp only [decide_eq_true_eq,decide_eq_false_iff_not,Bool.not_eq_true',Bool.not_eq_false',Bool.and_eq_true,Bool.or_eq_false_iff,Bool.or_eq_true,Bool.and_eq_false_iff,Bool.cond_eq_ite] at*)<;>omega)⟩))) zax) (by show (0:Int)<_;omega)) (Ev.any (m:=false) (zaa (i:=2) rfl))) zax)))))))) (λh34=>(zal (zaT (m:=true) (x:=((v33*((1:Int)+(P1*P1)))%P2)) dI (λ(r:Int)=>Oc.rt true (dI r)) (zat (x:=(v33*((1:Int)+(P1*P1)))) (y:=P2) (zat (x:=v33) (y:=((1:Int)+(P1*P1))) (Ev.any (m:=true) (zaa (i:=4) rfl)) (zba (x:=(1:Int)) (y:=(P1*P1)) zax (zat (x:=P1) (y:=P1) (Ev.any (m:=false) (zaa (i:=1) rfl)) (Ev.any (m:=false) (zaa (i:=1) rfl)) (by first|exact .inl ⟨by ((try simp only [decide_eq_true_eq,decide_eq_false_iff_not,Bool.not_eq_true',Bool.not_eq_false',Bool.and_eq_true,Bool.or_eq_false_iff,Bool.or_eq_true,Bool.and_eq_false_iff,Bool.cond_eq_ite] at*)<;>omega),by ((try simp only [decide_eq_true_eq,decide_eq_false_iff_not,Bool.not_eq_true',Bool.not_eq_false',Bool.and_eq_true,Bool.or_eq_false_iff,Bool.or_eq_true,Bool.and_eq_false_iff,Bool.cond_eq_ite] at*)<;>omega)⟩|exact .inr (.inl ⟨by ((try simp only [decide_eq_true_eq,decide_eq_false_iff_not,Bool.not_eq_true',Bool.not_eq_false',Bool.and_eq_true,Bool.or_eq_false_iff,Bool.or_eq_true,Bool.and_eq_false_iff,Bool.cond_eq_ite] at*)<;>omega),by ((try simp only [decide_eq_true_eq,decide_eq_false_iff_not,Bool.not_eq_true',Bool.not_eq_false',Bool.and_eq_true,Bool.or_eq_false_iff,Bool.or_eq_true,Bool.and_eq_false_iff,Bool.cond_eq_ite] at*)<;>omega)⟩)))) ↥(.inr (.inl (zj0 hp.1 hp.2.1)))) (Ev.any (m:=false) (zaa (i:=2) rfl)) (by show (0:Int)<_;omega)) (λv42 hv42=>(zcp (b:=(decide (((v33+P1)%(3:Int))=(1:Int)))) (λbb=>([⇑[dQ K (List.map dI P0)],⇑[dI P1],⇑[dI P2],↥[dI v32],↥[dI v33],.no,↥[dI (bif bb then (v42%(7:Int)) else v42)]]:L2.Ctx)) (zas (zcc (x:=((v33+P1)%(3:Int))) (y:=(1:Int)) (zat (x:=(v33+P1)) (y:=(3:Int)) (zba (x:=v33) (y:=P1) (Ev.any (m:=true) (zaa (i:=4) rfl)) (Ev.any (m:=false) (zaa (i:=1) rfl))) zax (by decide)) zax)) (λh43=>(zd9 (m:=true) (zat (x:=v42) (y:=(7:Int)) (Ev.any (m:=true) (zaa (i:=6) rfl)) zax (by decide)) (zaB (.eq (.eq (.eq (.eq (.eq (.eq (.eq .nil)))))))))) (λh43=>(zaB (.eq (.eq (.eq (.eq (.eq (.eq (.eq .nil))))))))) (zdF (x:=(bif (decide (((v33+P1)%(3:Int))=(1:Int))) then (v42%(7:Int)) else v42)) (λv44=>([⇑[dQ K (List.map dI P0)],⇑[dI P1],⇑[dI P2],↥[dI v32],↥[dI v33],.no,↥[dI v44]]:L2.Ctx)) (λ(r:Int)=>Oc.rt true (dI r)) (λv44 hv44=>(zcp (b:=(decide (((v33+P1)%(7:Int))=(2:Int)))) (λbb=>([⇑[dQ K (List.map dI P0)],⇑[dI P1],⇑[dI P2],↥[dI v32],↥[dI v33],.no,↥[dI (bif bb then (0:Int) else v44)]]:L2.Ctx)) (zas (zcc (x:=((v33+P1)%(7:Int))) (y:=(2:Int)) (zat (x:=(v33+P1)) (y:=(7:Int)) (zba (x:=v33) (y:=P1) (Ev.any (m:=true) (zaa (i:=4) rfl)) (Ev.any (m:=false) (zaa (i:=1) rfl))) zax (by decide)) zax)) (λh45=>(zd9 (m:=true) zax (zaB (.eq (.eq (.eq (.eq (.eq (.eq (.eq .nil)))))))))) (λh45=>(zaB (.eq (.eq (.eq (.eq (.eq (.eq (.eq .nil))))))))) (zdF (x:=(bif (decide (((v33+P1)%(7:Int))=(2:Int))) then (0:Int) else v44)) (λv46=>([⇑[dQ K (List.map dI P0)],⇑[dI P1],⇑[dI P2],↥[dI v32],↥[dI v33],.no,↥[dI v46]]:L2.Ctx)) (λ(r:Int)=>Oc.rt true (dI r)) (λv46 hv46=>(zar (b:=(decide (((v33/(2:Int))%(2:Int))=(1:Int)))) (λ(r:Int)=>Oc.rt true (dI r)) (zas (zcc (x:=((v33/(2:Int))%(2:Int))) (y:=(1:Int)) (zat (x:=(v33/(2:Int))) (y:=(2:Int)) (zat (x:=v33) (y:=(2:Int)) (Ev.any (m:=true) (zaa (i:=4) rfl)) zax ↥(⟨by decide,by decide⟩)) zax (by decide)) zax)) (λh47=>(zaf (zan (zaz (zba (x:=(0:Int)) (y:=v46) zax (Ev.any (m:=true) (zaa (i:=6) rfl))))))) (λh47=>(zal (zan (zaz (Ev.any (m:=true) (zaa (i:=6) rfl)))))))))))))))))))))))))
theorem zho {α:Type} {xs:List α} {lo hi:Option Int}:(zeS xs lo hi).length≤xs.length:=by
 unfold zeS;rw [List.length_take,List.length_drop];omega
theorem zj8:(2:Int)≤((10:Int) ^ (60:Int).toNat)∧(((10:Int) ^ (60:Int).toNat)).natAbs<2^1000:=⟨by decide,by decide +kernel⟩
theorem zjb {xs:Ji} {k:Int} (h:xs.length≤63) (h0:0≤k) (h1:k<1000000):zbn (zeS xs (some (3:Int)) none) k ((10:Int) ^ (60:Int).toNat) :=
 ⟨h0,h1,zj8.1,zj8.2,by have:=zho (xs:=xs) (lo:=some 3) (hi:=none);omega⟩
theorem zkT {a b c:Int} (h0:0≤a) (h1:a<15) (h2:0≤b) (h3:b≤9) (h4:0≤c) (h5:c<b):0≤a*b+c∧a*b+c<1000000:=by
 have e1:=Int.mul_nonneg h0 h2
 have e2:a*b≤15*9:=Int.mul_le_mul (by omega) h3 h2 (by omega)
 omega
theorem zkC {w s:Int} (h:s=max (0:Int) (min (9:Int) w)):0≤s∧s≤9:=by omega
theorem zkd {a b m0 m:Int} {c:Bool} (h0:m0=a%15) (h:m=bif c then (12:Int)+b%2 else m0):0≤m∧m≤14:=by
 cases c
 ·have h:m=m0:=h
  omega
 ·have h:m=(12:Int)+b%2:=h
  omega
theorem zd5 {c:Bool} {a b m:Int} {i:Nat} {x:Int} (hm:0<m) (h:(bif c then ([a%m]++[b%m]) else [a%m])[i]?=some x):0≤x∧x<m∧i<2:=by
 have e1:=Int.emod_nonneg a (show m≠0 by omega)
 have e2:=Int.emod_lt_of_pos a hm
 have e3:=Int.emod_nonneg b (show m≠0 by omega)
 have e4:=Int.emod_lt_of_pos b hm
 cases c
 ·have h:[a%m][i]?=some x:=h
  match i,h with
  | 0,h=>cases h;exact ⟨e1,e2,by omega⟩
  | i+1,h=>simp at h
 ·have h:[a%m,b%m][i]?=some x:=h
  match i,h with
  | 0,h=>cases h;exact ⟨e1,e2,by omega⟩
  | 1,h=>cases h;exact ⟨e3,e4,by omega⟩
  | i+2,h=>simp at h
def SwI (m:Int) (n:Nat) (l:Jq):Prop:=(l.length:Int)=m∧∀ s∈l,s.length≤n
theorem zfH {l:Jq} {k:Int} {v s:Ji} (h:s∈zc3 l k v):s∈l∨s=v:=by
 unfold zc3 at h
 split at h
 ·exact (List.mem_or_eq_of_mem_set h)
 ·exact .inl h
theorem zie {l:Jq} {k:Int} {n:Nat} (h:∀ s∈l,s.length≤n) (hk:InB l.length k):(ixD l k).length≤n:=h _ (ziJ hk)
theorem SwI.step {m k:Int} {n:Nat} {l:Jq} {c:Bool} {v:Int} (h:SwI m n l) (h0:0≤k) (h1:k<m):SwI m (n+1) (bif c then (zc3 l k (List.dropLast (ixD l k))) else (zc3 l k ((ixD l k)++[v]))):=by
 have hi:InB l.length k:=by unfold InB;have:=h.1;omega
 have hk:=zie h.2 hi
 cases c
 ·refine ⟨by show ((zc3 _ _ _).length:Int)=m;rw [zfA];exact h.1,λs hs=> ?_⟩
  rcases zfH hs with q | q
  ·exact Nat.le_succ_of_le (h.2 s q)
  ·rw [q,List.length_append,List.length_singleton];omega
 ·refine ⟨by show ((zc3 _ _ _).length:Int)=m;rw [zfA];exact h.1,λs hs=> ?_⟩
  rcases zfH hs with q | q
  ·exact Nat.le_succ_of_le (h.2 s q)
  ·rw [q,List.length_dropLast];omega
theorem zhx {f:Int->Int->Int} {z:Int} {n:Nat} {r:Jq} (hz:z≤9) (h:r=List.foldl (λ(s:Jq) (x:Int)=>s++[List.map (λ(y:Int)=>f x y) (zc4 0 z.toNat)]) [] (zc4 0 n)):SwI n 9 r:=by
 have key:∀ (xs:Ji) (s:Jq),(∀ r∈s,r.length≤9)->(List.foldl (λ(s:Jq) (x:Int)=>s++[List.map (λ(y:Int)=>f x y) (zc4 0 z.toNat)]) s xs).length=s.length+xs.length∧∀ r∈List.foldl (λ(s:Jq) (x:Int)=>s++[List.map (λ(y:Int)=>f x y) (zc4 0 z.toNat)]) s xs,r.length≤9:=by
  intro xs
  induction xs with
  | nil=>exact λs hs=>⟨rfl,hs⟩
  | cons x xs ih =>
   intro s hs
   rw [List.foldl_cons]
   obtain ⟨a,b⟩:=ih (s++[List.map (λ(y:Int)=>f x y) (zc4 0 z.toNat)]) λr hr=>by
    rcases List.mem_append.mp hr with q | q
    ·exact hs r q
    ·rw [List.mem_singleton.mp q,List.length_map,zb2];omega
   refine ⟨?_,b⟩
   rw [a,List.length_append,List.length_singleton,List.length_cons];omega
 obtain ⟨a,b⟩:=key (zc4 0 n) [] (by simp)
 subst h
 exact ⟨by rw [a,zb2];simp,b⟩
theorem zk0 {s:Jq} {i:Nat} {r:Ji} (h:s.length=i∧∀ t∈s,t.length≤9) (hr:r.length≤9):(s++[r]).length=i+1∧∀ t∈s++[r],t.length≤9:=by
 refine ⟨by rw [List.length_append,List.length_singleton,h.1],λt ht=>?_⟩
 rcases List.mem_append.mp ht with q | q
 ·exact h.2 t q
 ·rw [List.mem_singleton.mp q];exact hr
theorem zkn {m:Int} {r:Jq} (hm:0≤m∧m≤14) (h:r.length=((zc4 0 m.toNat)).length∧∀ t∈r,t.length≤9):SwI m (9+0) r:=⟨by have:=h.1;rw [zb2] at this;omega,h.2⟩
theorem c03 {m:Int} {b:Bool} (h:(decide ((0:Int)<m)&&b)=true):0<m:=by simp at h;exact h.1
theorem SwI.ix {m k:Int} {n:Nat} {l:Jq} (h:SwI m n l) (h0:0≤k) (h1:k<m):InB l.length k:=by unfold InB;have:=h.1;omega
theorem SwI.lt {m k:Int} {n:Nat} {l:Jq} (h:SwI m n l) (h0:0≤k) (h1:k<m) (hn:n≤100):(ixD l k).length<sizeLine:=Nat.lt_of_le_of_lt (Nat.le_trans (zie h.2 (h.ix h0 h1)) hn) (by decide)
theorem zkB {a:Bool} {n:Nat} (h:(a&&decide ((0:Int)<((n:Nat):Int)))=true):0<n:=by simp at h;exact h.2
theorem zjA {s:Jq} {i:Nat} {x m:Int} (h:s.length=i∧∀ t∈s,t.length≤9) (hx:((zc4 0 m.toNat))[i]?=some x) (hm:0≤m∧m≤14):s.length<sizeLine:=by
 have:=zbQ hx
 exact Nat.lt_of_le_of_lt (show _≤100 by omega) (by decide)
theorem zjh {xs:Ji} {z m j k:Int} {i1 i2:Nat} (hp:xs.length≤63) (hZ:0≤z∧z≤9) (hM:0≤m∧m≤14) (h1:((zc4 0 m.toNat))[i1]?=some j) (h2:(zc4 0 z.toNat)[i2]?=some k):zbn (zeS xs (some (3:Int)) none) (j*z+k) ((10:Int) ^ (60:Int).toNat):=by
 have q1:=zbQ h1
 have q2:=zbQ h2
 have z:=zkT (a:=j) (b:=z) (c:=k) (by omega) (by omega) hZ.1 hZ.2 (by omega) (by omega)
 exact zjb hp z.1 z.2
noncomputable def zbh (P0:Int):Int :=
 (bif (decide ((P0%(8:Int))=(7:Int))) then (zbv (P0/(8:Int)) ((10:Int) ^ (60:Int).toNat))
 else (bif (decide ((4:Int)<(P0%(8:Int)))) then ((8:Int)+((P0/(8:Int))%(2:Int)))
 else (((P0/(8:Int))%(12:Int))-(1:Int))))
def zbT (P0:Int):Prop:=True
def zc8 (K:W.Frag) (A:Adr):Sp:=Spv (ι:=Int) (λx=>[dI x]) (λx=>zbT x) (λx=>↥[dI (zbh x)])
theorem zeK:FnScope ["_law_cell"] ["_law_cell"] (zah zcD):=⟨rfl,rfl,rfl,by decide+kernel,rfl,by decide+kernel,by decide+kernel⟩
theorem zeC (F:Fun K "_law_wares" "_law_wares" zcD f fd) (T:Txt K mg A) (yaI:Callee P w K mg base (CXE P w) 1 "_law_number" ["_law_cell","_law_most"] (zcR K A)):FnOk P w K mg base (CXE P w) 2 f fd ["_law_cell"] (zc8 K A):=by
 refine F.okV zeK (λ_=>rfl) (λcdv Ar outer s H E P0 hr hp=> ?_)
 have hu:=hr.units
 replace hp:zbT P0:=hp
 unfold zbT at hp
 refine ⟨_,(zac (zb4 (zaw zcY (zau zbe (pv 0) zae) zae (zaC _)) (zac (zaL (zce yaI (hr.mono (by decide)) rfl zb8 ↑[zau za3 (pv 0) zae,zau zh5 zae zae])) zag) zag) (zac (zb4 (zaw zfj (zau zbe (pv 0) zae) zae (zaC _)) (zac (zaL (zau zdh zae (zau zbe (zau za3 (pv 0) zae) zae))) zag) zag) (zac (zaL (zau zdT (zau zbe (zau za3 (pv 0) zae) zae) zae)) zag))),.inl ?_⟩
 show L2.Run _ ([⇑[dI P0]]:L2.Ctx) _ ((λ(r:Int)=>Oc.rt true (dI r)) (zbh P0))
 unfold zbh
 exact (zar (b:=(decide ((P0%(8:Int))=(7:Int)))) (λ(r:Int)=>Oc.rt true (dI r)) (zas (zcc (x:=(P0%(8:Int))) (y:=(7:Int)) (zat (x:=P0) (y:=(8:Int)) (Ev.any (m:=false) (zaa (i:=0) rfl)) zax (by decide)) zax)) (λh48=>(zaf (zan (zaz (Ev.any (m:=true) (zbp (x:=((P0/(8:Int)),((10:Int) ^ (60:Int).toNat))) (zab (zat (x:=P0) (y:=(8:Int)) (Ev.any (m:=false) (zaa (i:=0) rfl)) zax ↥(⟨by decide,by decide⟩)) (zab (zat (x:=(10:Int)) (y:=(60:Int)) zax zax ↥(⟨by decide,by decide,by decide⟩)) zao)) rfl (by show zbq (P0/(8:Int)) ((10:Int) ^ (60:Int).toNat);unfold zbq;decide +kernel) rfl)))))) (λh48=>(zal (zar (b:=(decide ((4:Int)<(P0%(8:Int))))) (λ(r:Int)=>Oc.rt true (dI r)) (zas (zba (x:=(P0%(8:Int))) (y:=(4:Int)) (zat (x:=P0) (y:=(8:Int)) (Ev.any (m:=false) (zaa (i:=0) rfl)) zax (by decide)) zax)) (λh49=>(zaf (zan (zaz (zba (x:=(8:Int)) (y:=((P0/(8:Int))%(2:Int))) zax (zat (x:=(P0/(8:Int))) (y:=(2:Int)) (zat (x:=P0) (y:=(8:Int)) (Ev.any (m:=false) (zaa (i:=0) rfl)) zax ↥(⟨by decide,by decide⟩)) zax (by decide))))))) (λh49=>(zal (zan (zaz (zba (x:=((P0/(8:Int))%(12:Int))) (y:=(1:Int)) (zat (x:=(P0/(8:Int))) (y:=(12:Int)) (zat (x:=P0) (y:=(8:Int)) (Ev.any (m:=false) (zaa (i:=0) rfl)) zax ↥(⟨by decide,by decide⟩)) zax (by decide)) zax)))))))))
noncomputable def zaD (P0:Ji) (P1:Int):Jq :=
 (Let (max (0:Int) (min (9:Int) P1)) (λ(v50:Int) =>
 (Let (((zaj P0 (1:Int))/(4:Int))%(15:Int)) (λ(v51:Int) =>
 (Let (bif (decide (((zaj P0 (1:Int))%(4:Int))=(3:Int))) then ((12:Int)+(((zaj P0 (1:Int))/(4:Int))%(2:Int))) else v51) (λ(v53:Int) =>
 (Let ([]:Jq) (λ(v54:Jq) =>
 (Let (List.foldl (λ(s55:Jq) (x56:Int)=>(s55++[(List.map (λ(x60:Int)=>(zaU (zeS P0 (some (3:Int)) none) ((x56*v50)+x60) ((10:Int) ^ (60:Int).toNat))) (zc4 0 v50.toNat))])) v54 (zc4 0 v53.toNat)) (λ(r63:Jq) =>
 (Let (zaj P0 (2:Int)) (λ(v64:Int) =>
 (Let (bif ((decide ((0:Int)<v53)) && (decide ((v64%(2:Int))=(1:Int)))) then (List.foldl (λ(s67:Jq) (x68:Int)=>(Let (bif ((decide (((v64/(32:Int))%(2:Int))=(1:Int))) && (decide ((0:Int)<(((ixD s67 x68).length:Nat):Int)))) then (zc3 s67 x68 (List.dropLast (ixD s67 x68))) else (zc3 s67 x68 ((ixD s67 x68)++[(1:Int)]))) (λ(v73:Jq) =>
 v73))) r63 (bif (decide (((v64/(64:Int))%(2:Int))=(1:Int))) then ([((v64/(2:Int))%v53)]++[((v64/(128:Int))%v53)]) else [((v64/(2:Int))%v53)])) else r63) (λ(v75:Jq) =>
 v75))))))))))))))
def zbS (P0:Ji) (P1:Int):Prop:=P0.length≤63
def zda (K:W.Frag) (A:Adr):Sp:=Spv (ι:=Ji×Int) (λx=>[dQ K (List.map dI x.1),dI x.2]) (λx=>zbS x.1 x.2) (λx=>↥[dL (List.map lI (zaD x.1 x.2))])
theorem zaO:FnScope ["_law_script","_law_wares_here","_law_size","_law_many","_law_swaps_here","_law_j","_law_cell","_law_bad","_law_at_here"] ["_law_script","_law_wares_here"] (zah zcb):=⟨rfl,rfl,rfl,by decide+kernel,rfl,by decide+kernel,by decide+kernel⟩
theorem zey (F:Fun K "_law_swaps" "_law_swaps" zcb f fd) (T:Txt K mg A) (yai:Callee P w K mg base (CXE P w) 1 "_law_at" ["_law_script","_law_k"] (zdp K A)) (yaU:Callee P w K mg base (CXE P w) 1 "_law_entry" ["_law_script","_law_k","_law_most"] (zc9 K A)):FnOk P w K mg base (CXE P w) 2 f fd ["_law_script","_law_wares_here"] (zda K A):=by
 refine F.okV zaO (λ_=>rfl) (λcdv Ar outer s H E x hr hp=> ?_)
 obtain ⟨P0,P1⟩:=x
 have hu:=hr.units
 replace hp:zbS P0 P1:=hp
 unfold zbS at hp
 refine ⟨_,(zac (zaX (i:=2) zaO.nd rfl (Or.inr rfl) (zai (zgE rfl) rfl T.max PyProof.Rows.boot_max ↑[zae,zai (zeN rfl) rfl T.min PyProof.Rows.boot_min ↑[zae,pv 1]])) (zac (zaX (i:=3) zaO.nd rfl (Or.inl rfl) (zau zbe (zau za3 (zce yai (hr.mono (by decide)) rfl zb8 ↑[pv 0,zae]) zae) zae)) (zac (zb4 (zaw zcY (zau zbe (zce yai (hr.mono (by decide)) rfl zb8 ↑[pv 0,zae]) zae) zae (zaC _)) (zac (zaX (i:=3) zaO.nd rfl (Or.inl rfl) (zau zdh zae (zau zbe (zau za3 (zce yai (hr.mono (by decide)) rfl zb8 ↑[pv 0,zae]) zae) zae))) zag) zag) (zac (zaX (i:=4) zaO.nd rfl (Or.inl rfl) (zbH zcu)) (zac (zdP PassesOwn.never rfl (zcW rfl T.range ↑[pv 3]) (zbC (i:=5) zaO.nd rfl (Or.inr rfl) (Or.inl rfl)) (zac (zc2 (zbZ (K:=K) rfl (pv 4) ↑[(zeg rfl (.of (osc:=(zah zcb)) (N:=["_law_script","_law_wares_here","_law_size","_law_many","_law_swaps_here","_law_j","_law_cell","_law_bad","_law_at_here"]) (own:=["_law_k"]) (fvn:=["_law_script","_law_j","_law_size"]) (fv:=[0,5,2]) rfl rfl (by decide+kernel)) (zcW rfl T.range ↑[pv 2]) (λ_ _ _ _ _=>⟨(zbC (i:=0) (show (["_law_k","_law_script","_law_j","_law_size"]:List Str).Nodup by decide +kernel) rfl (Or.inl rfl) (Or.inr rfl)),zdz,(zce yaU (hr.mono (by decide)) rfl zb8 ↑[(zh1 (zhg (K:=K) rfl) (pv 1) (ziM zae) zjf),zau zdh (zau zdA (pv 2) (pv 3)) (pv 0),zau zh5 zae zae])⟩))])) zag)) (zac (zaX (i:=6) zaO.nd rfl (Or.inl rfl) (zce yai (hr.mono (by decide)) rfl zb8 ↑[pv 0,zae])) (zac (zb4 (PW.pt (zin (zaw zfj (pv 3) zae (zaC _)) (zgD (zaw zcY (zau zbe (pv 6) zae) zae (zaC _))))) (zac (zaX (i:=7) zaO.nd rfl (Or.inl rfl) (zbH ↑[zau zbe (zau za3 (pv 6) zae) (pv 3)])) (zac (zb4 (zaw zcY (zau zbe (zau za3 (pv 6) zae) zae) zae (zaC _)) (zac (zc2 (zbZ (K:=K) rfl (pv 7) ↑[zau zbe (zau za3 (pv 6) zae) (pv 3)])) zag) zag) (zac (zdP PassesOwn.never rfl (zb6 (K:=K) rfl (pv 7)) (zbC (i:=8) zaO.nd rfl (Or.inl rfl) (Or.inl rfl)) (zac (zb4 (PW.pt (zin (zaw zcY (zau zbe (zau za3 (pv 6) zae) zae) zae (zaC _)) (zgD (zaw zfj (zai (zaA (K:=K) rfl) rfl T.len PySem.boot_len ↑[(zej (zbA (K:=K) rfl) (pv 4) (pv 8) (λ_ _=>rfl))]) zae (zaC _))))) (zac (zc2 (zhA (K:=K) rfl (zej (zbA (K:=K) rfl) (pv 4) (pv 8) (λ_ _=>rfl)))) zag) (zac (zc2 (zbZ (K:=K) rfl (zej (zbA (K:=K) rfl) (pv 4) (pv 8) (λ_ _=>rfl)) ↑[zae])) zag)) zag)) zag))) zag) (zac (zaL (pv 4)) zag)))))))),.inl ?_⟩
 show L2.Run _ ([⇑[dQ K (List.map dI P0)],⇑[dI P1],.no,.no,.no,.no,.no,.no,.no]:L2.Ctx) _ ((λ(r:Jq)=>Oc.rt true (dL (List.map lI r))) (zaD P0 P1))
 unfold zaD
 exact (zaT (m:=true) (x:=(max (0:Int) (min (9:Int) P1))) dI (λ(r:Jq)=>Oc.rt true (dL (List.map lI r))) (zkg (x:=(0:Int)) (y:=(min (9:Int) P1)) (zab zax (zab (zio (x:=(9:Int)) (y:=P1) (zab zax (zab (Ev.any (m:=false) (zaa (i:=1) rfl)) zao))) zao))) (λv50 hv50=>have hZ:=zkC hv50;(zaT (m:=true) (x:=(((zaj P0 (1:Int))/(4:Int))%(15:Int))) dI (λ(r:Jq)=>Oc.rt true (dL (List.map lI r))) (zat (x:=((zaj P0 (1:Int))/(4:Int))) (y:=(15:Int)) (zat (x:=(zaj P0 (1:Int))) (y:=(4:Int)) (Ev.any (m:=true) (zbp (x:=(P0,(1:Int))) (zab (zaa (i:=0) rfl) (zab zax zao)) rfl (by show zaH P0 (1:Int);unfold zaH;decide) rfl)) zax ↥(⟨by decide,by decide⟩)) zax (by decide)) (λv51 hv51=>have hM0:=hv51;(zcp (b:=(decide (((zaj P0 (1:Int))%(4:Int))=(3:Int)))) (λbb=>([⇑[dQ K (List.map dI P0)],⇑[dI P1],↥[dI v50],↥[dI (bif bb then ((12:Int)+(((zaj P0 (1:Int))/(4:Int))%(2:Int))) else v51)],.no,.no,.no,.no,.no]:L2.Ctx)) (zas (zcc (x:=((zaj P0 (1:Int))%(4:Int))) (y:=(3:Int)) (zat (x:=(zaj P0 (1:Int))) (y:=(4:Int)) (Ev.any (m:=true) (zbp (x:=(P0,(1:Int))) (zab (zaa (i:=0) rfl) (zab zax zao)) rfl (by show zaH P0 (1:Int);unfold zaH;decide) rfl)) zax (by decide)) zax)) (λh52=>(zd9 (m:=true) (zba (x:=(12:Int)) (y:=(((zaj P0 (1:Int))/(4:Int))%(2:Int))) zax (zat (x:=((zaj P0 (1:Int))/(4:Int))) (y:=(2:Int)) (zat (x:=(zaj P0 (1:Int))) (y:=(4:Int)) (Ev.any (m:=true) (zbp (x:=(P0,(1:Int))) (zab (zaa (i:=0) rfl) (zab zax zao)) rfl (by show zaH P0 (1:Int);unfold zaH;decide) rfl)) zax ↥(⟨by decide,by decide⟩)) zax (by decide))) (zaB (.eq (.eq (.eq (.eq (.eq (.eq (.eq (.eq (.eq .nil)))))))))))) (λh52=>(zaB (.eq (.eq (.eq (.eq (.eq (.eq (.eq (.eq (.eq .nil))))))))))) (zdF (x:=(bif (decide (((zaj P0 (1:Int))%(4:Int))=(3:Int))) then ((12:Int)+(((zaj P0 (1:Int))/(4:Int))%(2:Int))) else v51)) (λv53=>([⇑[dQ K (List.map dI P0)],⇑[dI P1],↥[dI v50],↥[dI v53],.no,.no,.no,.no,.no]:L2.Ctx)) (λ(r:Jq)=>Oc.rt true (dL (List.map lI r))) (λv53 hv53=>have hM:=zkd hM0 hv53;(zfD (x:=[]) dRI (λ(r:Jq)=>Oc.rt true (dL (List.map lI r))) (zh3 (zhB zao)) (λv54 hv54=>have hN:=hv54;(zeb (s0:=v54) (λ(s55:Jq)=>([⇑[dQ K (List.map dI P0)],⇑[dI P1],↥[dI v50],↥[dI v53],.tl (dRI s55),.no,.no,.no,.no]:L2.Ctx)) (λ(r:Jq)=>Oc.rt true (dL (List.map lI r))) (λ(s55:Jq) (x56:Int)=>(s55++[(List.map (λ(x60:Int)=>(zaU (zeS P0 (some (3:Int)) none) ((x56*v50)+x60) ((10:Int) ^ (60:Int).toNat))) (zc4 0 v50.toNat))])) (λ(i:Nat) (s55:Jq)=>s55.length=i∧∀ r∈s55,r.length≤9) (zec (m:=true) (n:=v53) (Ev.any (m:=true) (zaa (i:=3) rfl)) (by refine ⟨?_,?_⟩<;>((try simp only [decide_eq_true_eq,decide_eq_false_iff_not,Bool.not_eq_true',Bool.not_eq_false',Bool.and_eq_true,Bool.or_eq_false_iff,Bool.or_eq_true,Bool.and_eq_false_iff,Bool.cond_eq_ite] at*)<;>omega))) (.eq (.eq (.eq (.eq (.eq (.eq (.eq (.eq (.eq .nil))))))))) (by rw [hN];exact ⟨rfl,by simp⟩) (λi57 x56 s55 hx58 hI59=>have v58:=zbQ hx58;⟨↥(zk0 (by assumption) (by rw [List.length_map,zb2];omega)),(zf4 (i:=4) (nss:=s55) (ns:=(List.map (λ(x60:Int)=>(zaU (zeS P0 (some (3:Int)) none) ((x56*v50)+x60) ((10:Int) ^ (60:Int).toNat))) (zc4 0 v50.toNat))) rfl rfl (EvO.conv (zew (g:=(λ(x60:Int)=>dI (zaU (zeS P0 (some (3:Int)) none) ((x56*v50)+x60) ((10:Int) ^ (60:Int).toNat)))) (zec (m:=true) (n:=v50) (Ev.any (m:=true) (zaa (i:=2) rfl)) (by refine ⟨?_,?_⟩<;>((try simp only [decide_eq_true_eq,decide_eq_false_iff_not,Bool.not_eq_true',Bool.not_eq_false',Bool.and_eq_true,Bool.or_eq_false_iff,Bool.or_eq_true,Bool.and_eq_false_iff,Bool.cond_eq_ite] at*)<;>omega))) (by apply zaY;(try simp only [zb2,zeQ,List.length_zip,List.length_reverse,List.length_map,List.length_cons,List.length_nil]);((try simp only [decide_eq_true_eq,decide_eq_false_iff_not,Bool.not_eq_true',Bool.not_eq_false',Bool.and_eq_true,Bool.or_eq_false_iff,Bool.or_eq_true,Bool.and_eq_false_iff,Bool.cond_eq_ite] at *)<;>omega)) ⟨by decide,by decide⟩ (λi61 x60 hx62=>have v62:=zbQ hx62;(Ev.any (m:=true) (zbp (x:=((zeS P0 (some (3:Int)) none),((x56*v50)+x60),((10:Int) ^ (60:Int).toNat))) (zab (Ev.weak (K:=K) (EvO.ev (EvO.anyI (m:=false) (ziK (f:=dI) (xs:=P0) (zaa (i:=1) rfl) (zhu zax) zhK)))) (zab (zba (x:=(x56*v50)) (y:=x60) (zat (x:=x56) (y:=v50) (Ev.any (m:=true) (zaa (i:=2) rfl)) (Ev.any (m:=true) (zaa (i:=3) rfl)) ↥(.inl ⟨by omega,by omega⟩)) (Ev.any (m:=true) (zaa (i:=0) rfl))) (zab (zat (x:=(10:Int)) (y:=(60:Int)) zax zax ↥(⟨by decide,by decide,by decide⟩)) zao))) rfl (by show zbn (zeS P0 (some (3:Int)) none) ((x56*v50)+x60) ((10:Int) ^ (60:Int).toNat);exact zjh hp hZ hM (by assumption) (by assumption)) rfl)))) (by first|(rw [List.map_map];rfl)|(simp only [cond_true,cond_false];rw [List.map_map];rfl))) ↥(zjA (by assumption) (by assumption) hM) (zaB (.eq (.eq (.eq (.eq (.eq (.no (.eq (.eq (.eq .nil)))))))))))⟩) (λr63 hr63 hI=>(zaT (m:=true) (x:=(zaj P0 (2:Int))) dI (λ(r:Jq)=>Oc.rt true (dL (List.map lI r))) (Ev.any (m:=true) (zbp (x:=(P0,(2:Int))) (zab (zaa (i:=0) rfl) (zab zax zao)) rfl (by show zaH P0 (2:Int);unfold zaH;decide) rfl)) (λv64 hv64=>(zcp (b:=((decide ((0:Int)<v53)) && (decide ((v64%(2:Int))=(1:Int))))) (λbb=>([⇑[dQ K (List.map dI P0)],⇑[dI P1],↥[dI v50],↥[dI v53],.tl (dRI (bif bb then (List.foldl (λ(s67:Jq) (x68:Int)=>(Let (bif ((decide (((v64/(32:Int))%(2:Int))=(1:Int))) && (decide ((0:Int)<(((ixD s67 x68).length:Nat):Int)))) then (zc3 s67 x68 (List.dropLast (ixD s67 x68))) else (zc3 s67 x68 ((ixD s67 x68)++[(1:Int)]))) (λ(v73:Jq)=>v73))) r63 (bif (decide (((v64/(64:Int))%(2:Int))=(1:Int))) then ([((v64/(2:Int))%v53)]++[((v64/(128:Int))%v53)]) else [((v64/(2:Int))%v53)])) else r63)),.no,↥[dI v64],.no,.no]:L2.Ctx)) (zg5 (b:=(decide ((0:Int)<v53))) (zas (zba (x:=v53) (y:=(0:Int)) (Ev.any (m:=true) (zaa (i:=3) rfl)) zax)) (λhb=>(zas (zcc (x:=(v64%(2:Int))) (y:=(1:Int)) (zat (x:=v64) (y:=(2:Int)) (Ev.any (m:=true) (zaa (i:=6) rfl)) zax (by decide)) zax)))) (λh65=>(zhq (m:=true) (zbY (zab (zat (x:=(v64/(2:Int))) (y:=v53) (zat (x:=v64) (y:=(2:Int)) (Ev.any (m:=true) (zaa (i:=6) rfl)) zax ↥(⟨by decide,by decide⟩)) (Ev.any (m:=true) (zaa (i:=3) rfl)) ↥(c03 (by assumption))) zao) (by show 1≤sizeLine;decide)) (zcp (b:=(decide (((v64/(64:Int))%(2:Int))=(1:Int)))) (λbb=>([⇑[dQ K (List.map dI P0)],⇑[dI P1],↥[dI v50],↥[dI v53],.tl (dRI r63),.no,↥[dI v64],.ow true (List.map dI (bif bb then ([((v64/(2:Int))%v53)]++[((v64/(128:Int))%v53)]) else [((v64/(2:Int))%v53)])),.no]:L2.Ctx)) (zas (zcc (x:=((v64/(64:Int))%(2:Int))) (y:=(1:Int)) (zat (x:=(v64/(64:Int))) (y:=(2:Int)) (zat (x:=v64) (y:=(64:Int)) (Ev.any (m:=true) (zaa (i:=6) rfl)) zax ↥(⟨by decide,by decide⟩)) zax (by decide)) zax)) (λh66=>(zfi (f:=dI) (xs:=[((v64/(2:Int))%v53)]) (x:=((v64/(128:Int))%v53)) rfl (zat (x:=(v64/(128:Int))) (y:=v53) (zat (x:=v64) (y:=(128:Int)) (Ev.any (m:=true) (zaa (i:=6) rfl)) zax ↥(⟨by decide,by decide⟩)) (Ev.any (m:=true) (zaa (i:=3) rfl)) ↥(c03 (by assumption))) (by show 1<sizeLine;decide) (zaB (.eq (.eq (.eq (.eq (.eq (.eq (.eq (.eq (.eq .nil)))))))))))) (λh66=>(zaB (.eq (.eq (.eq (.eq (.eq (.eq (.eq (.eq (.eq .nil))))))))))) (zgn (i:=7) rfl (zgI (s0:=r63) (λ(s67:Jq)=>([⇑[dQ K (List.map dI P0)],⇑[dI P1],↥[dI v50],↥[dI v53],.tl (dRI s67),.no,↥[dI v64],↥[dL (List.map dI (bif (decide (((v64/(64:Int))%(2:Int))=(1:Int))) then ([((v64/(2:Int))%v53)]++[((v64/(128:Int))%v53)]) else [((v64/(2:Int))%v53)]))],.no]:L2.Ctx)) (λ(s67:Jq) (x68:Int)=>(Let (bif ((decide (((v64/(32:Int))%(2:Int))=(1:Int))) && (decide ((0:Int)<(((ixD s67 x68).length:Nat):Int)))) then (zc3 s67 x68 (List.dropLast (ixD s67 x68))) else (zc3 s67 x68 ((ixD s67 x68)++[(1:Int)]))) (λ(v73:Jq)=>v73))) (λ(i:Nat) (s67:Jq)=>SwI v53 (9+i) s67) (zdB (m:=true) dI (xs:=(bif (decide (((v64/(64:Int))%(2:Int))=(1:Int))) then ([((v64/(2:Int))%v53)]++[((v64/(128:Int))%v53)]) else [((v64/(2:Int))%v53)])) (Ev.weak (K:=K) (zaa (i:=7) rfl))) (.eq (.eq (.eq (.eq (.eq (.eq (.eq (.eq (.eq .nil))))))))) ↥(zkn hM hI) (λi69 x68 s67 hx70 hI71=>have v70:=List.mem_of_getElem? hx70;⟨(by have z:=zd5 (c03 (by assumption)) (by assumption);exact SwI.step (by assumption) z.1 z.2.1),(zcp (b:=((decide (((v64/(32:Int))%(2:Int))=(1:Int)))&&(decide ((0:Int)<((((ixD s67 x68)).length:Nat):Int))))) (λbb=>([⇑[dQ K (List.map dI P0)],⇑[dI P1],↥[dI v50],↥[dI v53],.tl (dRI (bif bb then (zc3 s67 x68 (List.dropLast (ixD s67 x68))) else (zc3 s67 x68 ((ixD s67 x68)++[(1:Int)])))),.no,↥[dI v64],↥[dL (List.map dI (bif (decide (((v64/(64:Int))%(2:Int))=(1:Int))) then ([((v64/(2:Int))%v53)]++[((v64/(128:Int))%v53)]) else [((v64/(2:Int))%v53)]))],↥[dI x68]]:L2.Ctx)) (EvT.borrow rfl (zg5 (b:=(decide (((v64/(32:Int))%(2:Int))=(1:Int)))) (zas (zcc (x:=((v64/(32:Int))%(2:Int))) (y:=(1:Int)) (zat (x:=(v64/(32:Int))) (y:=(2:Int)) (zat (x:=v64) (y:=(32:Int)) (Ev.any (m:=true) (zaa (i:=6) rfl)) zax ↥(⟨by decide,by decide⟩)) zax (by decide)) zax)) (λhb=>(zas (zba (x:=((((ixD s67 x68)).length:Nat):Int)) (y:=(0:Int)) (zbB (f:=dI) (xs:=(ixD s67 x68)) (Ev.old (Ev.weak (K:=K) (zdq (f:=lI) (xs:=s67) (Ev.weak (K:=K) (zjj (zaa (i:=4) rfl))) (Ev.any (m:=true) (zaa (i:=8) rfl)) (by have z:=zd5 (c03 (by assumption)) (by assumption);exact SwI.ix (by assumption) z.1 z.2.1))))) zax))))) (λh72=>(zhJ (nss:=s67) (k:=x68) rfl rfl (Ev.any (m:=true) (zaa (i:=8) rfl)) (by have z:=zd5 (c03 (by assumption)) (by assumption);exact SwI.ix (by assumption) z.1 z.2.1) ↥(zkB (by assumption)) (zaB (.eq (.eq (.eq (.eq (.eq (.eq (.eq (.eq (.eq .nil)))))))))))) (λh72=>(zhN (m:=false) (nss:=s67) (k:=x68) (v:=(1:Int)) rfl rfl (Ev.any (m:=true) (zaa (i:=8) rfl)) (by have z:=zd5 (c03 (by assumption)) (by assumption);exact SwI.ix (by assumption) z.1 z.2.1) zax (by have z:=zd5 (c03 (by assumption)) (by assumption);exact SwI.lt (by assumption) z.1 z.2.1 (by omega)) (zaB (.eq (.eq (.eq (.eq (.eq (.eq (.eq (.eq (.eq .nil)))))))))))) (zdF (x:=(bif ((decide (((v64/(32:Int))%(2:Int))=(1:Int))) && (decide ((0:Int)<(((ixD s67 x68).length:Nat):Int)))) then (zc3 s67 x68 (List.dropLast (ixD s67 x68))) else (zc3 s67 x68 ((ixD s67 x68)++[(1:Int)])))) (λv73=>([⇑[dQ K (List.map dI P0)],⇑[dI P1],↥[dI v50],↥[dI v53],.tl (dRI v73),.no,↥[dI v64],↥[dL (List.map dI (bif (decide (((v64/(64:Int))%(2:Int))=(1:Int))) then ([((v64/(2:Int))%v53)]++[((v64/(128:Int))%v53)]) else [((v64/(2:Int))%v53)]))],↥[dI x68]]:L2.Ctx)) (λz=>Oc.nx ((λ(s67:Jq)=>([⇑[dQ K (List.map dI P0)],⇑[dI P1],↥[dI v50],↥[dI v53],.tl (dRI s67),.no,↥[dI v64],↥[dL (List.map dI (bif (decide (((v64/(64:Int))%(2:Int))=(1:Int))) then ([((v64/(2:Int))%v53)]++[((v64/(128:Int))%v53)]) else [((v64/(2:Int))%v53)]))],.no]:L2.Ctx)) z)) (λv73 hv73=>(zaB (.eq (.eq (.eq (.eq (.eq (.eq (.eq (.eq (.no .nil)))))))))))))⟩) (zaB (.eq (.eq (.eq (.eq (.eq (.eq (.eq (.no (.eq .nil))))))))))))))) (λh65=>(zaB (.eq (.eq (.eq (.eq (.eq (.eq (.eq (.eq (.eq .nil))))))))))) (zdF (x:=(bif ((decide ((0:Int)<v53)) && (decide ((v64%(2:Int))=(1:Int)))) then (List.foldl (λ(s67:Jq) (x68:Int)=>(Let (bif ((decide (((v64/(32:Int))%(2:Int))=(1:Int))) && (decide ((0:Int)<(((ixD s67 x68).length:Nat):Int)))) then (zc3 s67 x68 (List.dropLast (ixD s67 x68))) else (zc3 s67 x68 ((ixD s67 x68)++[(1:Int)]))) (λ(v73:Jq)=>v73))) r63 (bif (decide (((v64/(64:Int))%(2:Int))=(1:Int))) then ([((v64/(2:Int))%v53)]++[((v64/(128:Int))%v53)]) else [((v64/(2:Int))%v53)])) else r63)) (λv75=>([⇑[dQ K (List.map dI P0)],⇑[dI P1],↥[dI v50],↥[dI v53],.tl (dRI v75),.no,↥[dI v64],.no,.no]:L2.Ctx)) (λ(r:Jq)=>Oc.rt true (dL (List.map lI r))) (λv75 hv75=>(zfU rfl (zan (zaz (zjj (zaa (i:=4) rfl)))))))))))))))))))))
theorem swl (xs:Ji) (w:Int):(zaD xs w).length≤14∧∀ s∈zaD xs w,s.length≤11:=by
 unfold zaD Let
 dsimp only
 have hz:=zkC (w:=w) rfl
 have hm:=zkd (a:=(zaj xs 1)/4) (b:=(zaj xs 1)/4) (c:=decide ((zaj xs (1:Int))%(4:Int)=(3:Int))) rfl rfl
 generalize max (0:Int) (min (9:Int) w)=z at *
 generalize (bif decide ((zaj xs (1:Int))%(4:Int)=(3:Int)) then _ else _)=m at *
 have h1:=zhx (f:=λx y=>zaU (zeS xs (some (3:Int)) none) ((x*z)+y) ((10:Int) ^ (60:Int).toNat)) (n:=m.toNat) hz.2 rfl
 generalize List.foldl _ [] (zc4 0 m.toNat)=r at *
 have h2:SwI m 9 r:=⟨by have:=h1.1;omega,h1.2⟩
 cases hc:((decide ((0:Int)<m))&&(decide ((zaj xs (2:Int)%(2:Int))=(1:Int)))) with
 | false =>
  have:=h2.1
  exact ⟨show r.length≤14 by omega,λs hs=>Nat.le_trans (h2.2 s hs) (by decide)⟩
 | true =>
  have hm0:0<m:=by simp at hc;exact hc.1
  rw [cond_true]
  have key:∀ (bs:Ji) (n:Nat) (l:Jq),SwI m n l->(∀ b∈bs,0≤b∧b<m)->SwI m (n+bs.length) (List.foldl (λ(s67:Jq) (x68:Int)=>(bif ((decide (((zaj xs (2:Int)/(32:Int))%(2:Int))=(1:Int)))&&(decide ((0:Int)<((((ixD s67 x68)).length:Nat):Int)))) then (zc3 s67 x68 (List.dropLast (ixD s67 x68))) else (zc3 s67 x68 ((ixD s67 x68)++[(1:Int)])))) l bs):=by
   intro bs
   induction bs with
   | nil=>exact λn l h _=>h
   | cons b bs ih =>
    intro n l h hb
    rw [List.foldl_cons,List.length_cons,show n+(bs.length+1)=(n+1)+bs.length by omega]
    exact ih _ _ (h.step (hb b List.mem_cons_self).1 (hb b List.mem_cons_self).2) λx hx=>hb x (List.mem_cons_of_mem _ hx)
  have hl:((bif (decide (((zaj xs (2:Int)/(64:Int))%(2:Int))=(1:Int))) then ([((zaj xs (2:Int)/(2:Int))%m)]++[((zaj xs (2:Int)/(128:Int))%m)]) else [((zaj xs (2:Int)/(2:Int))%m)])).length≤2:=by
   cases decide (((zaj xs (2:Int)/(64:Int))%(2:Int))=(1:Int))<;>simp
  have hk:=key (bif (decide (((zaj xs (2:Int)/(64:Int))%(2:Int))=(1:Int))) then ([((zaj xs (2:Int)/(2:Int))%m)]++[((zaj xs (2:Int)/(128:Int))%m)]) else [((zaj xs (2:Int)/(2:Int))%m)]) 9 r h2 (λb hb=>by
   obtain ⟨i,hi⟩:=List.getElem?_of_mem hb
   have:=zd5 hm0 hi
   exact ⟨this.1,this.2.1⟩)
  refine ⟨?_,λs hs=>?_⟩
  ·have:=hk.1;omega
  ·exact Nat.le_trans (hk.2 s hs) (by omega)
noncomputable def zaJ (P0:Int) (P1:Jq):(List (Str⊕Int)) :=
 (bif ((decide (P0<(1:Int)))||(decide ((8:Int)<P0))) then [(Sum.inl ("BadWares" :Str))]
 else (bif (decide ((12:Int)<((P1.length:Nat):Int))) then [(Sum.inl ("TooMany" :Str))]
 else (zkK (za8 (λ(s78:Unit) (x79:Int)=>(((bif (!decide ((((ixD P1 x79).length:Nat):Int)=P0)) then (Sum.inr [(Sum.inl ("BadSwap" :Str)),(Sum.inr x79)])
 else (Sum.inl ()))):(Unit) ⊕ (List (Str⊕Int)))) () (zc4 0 (((P1.length:Nat):Int)).toNat)) (λ(r84:Unit) =>
 []) (λb=>b))))
def zca (P0:Int) (P1:Jq):Prop:=P1.length≤20
def zdZ (K:W.Frag) (A:Adr):Sp:=Spv (ι:=Int×Jq) (λx=>[dI x.1,dQ K (List.map lI x.2)]) (λx=>zca x.1 x.2) (λx=>.ow true (List.map dSI (zaJ x.1 x.2)))
theorem zd4:FnScope ["_law_wares_here","_law_swaps_here","_law_k"] ["_law_wares_here","_law_swaps_here"] (zah zdJ):=⟨rfl,rfl,rfl,by decide+kernel,rfl,by decide+kernel,by decide+kernel⟩
theorem zf5 (F:Fun K "_law_due" "_law_due" zdJ f fd) (T:Txt K mg A) :FnOk P w K mg base (CXE P w) 1 f fd ["_law_wares_here","_law_swaps_here"] (zdZ K A):=by
 refine F.okV zd4 (λ_=>rfl) (λcdv Ar outer s H E x hr hp=> ?_)
 obtain ⟨P0,P1⟩:=x
 have hu:=hr.units
 replace hp:zca P0 P1:=hp
 unfold zca at hp
 refine ⟨_,(zac (zb4 (PW.pt (zff (zaw ziR (pv 0) zae (zaC _)) (zdS (zaw zfj (pv 0) zae (zaC _))))) (zac (zaL (zbH ↑[za7])) zag) zag) (zac (zb4 (zaw zfj (zai (zaA (K:=K) rfl) rfl T.len PySem.boot_len ↑[pv 1]) zae (zaC _)) (zac (zaL (zbH ↑[za7])) zag) zag) (zac (zdP PassesOwn.never rfl (zcW rfl T.range ↑[(zai (zaA (K:=K) rfl) rfl T.len PySem.boot_len ↑[pv 1])]) (zbC (i:=2) zd4.nd rfl (Or.inl rfl) (Or.inl rfl)) (zac (zb4 (zaw zfP (zai (zaA (K:=K) rfl) rfl T.len PySem.boot_len ↑[(zej (zbA (K:=K) rfl) (pv 1) (pv 2) (λ_ _=>rfl))]) (pv 0) (zaC _)) (zac (zaL (zbH ↑[za7,pv 2])) zag) zag) zag)) (zac (zaL (zbH zcu)) zag)))),.inl ?_⟩
 show L2.Run _ ([⇑[dI P0],⇑[dQ K (List.map lI P1)],.no]:L2.Ctx) _ ((λr=>Oc.rl true (List.map dSI r)) (zaJ P0 P1))
 unfold zaJ
 exact (zar (b:=((decide (P0<(1:Int)))||(decide ((8:Int)<P0)))) (λr=>Oc.rl true (List.map dSI r)) (zdK (b:=(decide (P0<(1:Int)))) (zas (zba (x:=P0) (y:=(1:Int)) (Ev.any (m:=false) (zaa (i:=0) rfl)) zax)) (λhb=>(zas (zba (x:=P0) (y:=(8:Int)) (Ev.any (m:=false) (zaa (i:=0) rfl)) zax)))) (λh76=>(zaf (zb5 (zcN (zbY (zab zax zao) (by show 1≤sizeLine;decide)))))) (λh76=>(zal (zar (b:=(decide ((12:Int)<((P1.length:Nat):Int)))) (λr=>Oc.rl true (List.map dSI r)) (zas (zba (x:=((P1.length:Nat):Int)) (y:=(12:Int)) (zbB (f:=lI) (xs:=P1) (zaa (i:=1) rfl)) zax)) (λh77=>(zaf (zb5 (zcN (zbY (zab zax zao) (by show 1≤sizeLine;decide)))))) (λh77=>(zal (zd8 (s0:=()) (λ(s78:Unit)=>([⇑[dI P0],⇑[dQ K (List.map lI P1)],.no]:L2.Ctx)) (λr=>Oc.rl true (List.map dSI r)) (λb=>b) (λ(s78:Unit) (x79:Int)=>(((bif (!decide ((((ixD P1 x79).length:Nat):Int)=P0)) then (Sum.inr [(Sum.inl ("BadSwap" :Str)),(Sum.inr x79)]) else (Sum.inl ()))):(Unit) ⊕ (List (Str⊕Int)))) (λ_ _=>True) (λb=>.inr (.inl ⟨_,_,rfl⟩)) (zec (m:=true) (n:=((P1.length:Nat):Int)) (zbB (f:=lI) (xs:=P1) (zaa (i:=1) rfl)) (by refine ⟨?_,?_⟩<;>omega)) (.eq (.eq (.eq .nil))) trivial (λi80 x79 s78 hx81 hI82=>have v81:=zbQ hx81;⟨(λ_ _=>trivial),(zar (b:=(!decide ((((ixD P1 x79).length:Nat):Int)=P0))) (zfR (λ(s78:Unit)=>([⇑[dI P0],⇑[dQ K (List.map lI P1)],.no]:L2.Ctx)) (λr=>Oc.rl true (List.map dSI r))) (zas (zeG (x:=(((ixD P1 x79).length:Nat):Int)) (y:=P0) (zbB (f:=dI) (xs:=(ixD P1 x79)) (Ev.weak (K:=K) (zdq (f:=lI) (xs:=P1) (zaa (i:=1) rfl) (Ev.any (m:=true) (zaa (i:=2) rfl)) (by unfold InB;omega)))) (Ev.any (m:=false) (zaa (i:=0) rfl)))) (λh83=>(zaf (zb5 (zcN (zbY (zab zax (zab (Ev.any (m:=true) (zaa (i:=2) rfl)) zao)) (by show 2≤sizeLine;decide)))))) (λh83=>(zal (zaB (.eq (.eq (.no .nil)))))))⟩) (λr84 hr84 hI=>(zb5 (zcN (zcO (m:=true) zao)))))))))))
theorem zdv (w:Int):∀ (l:List (Int×Ji)),
  (za8 (λ(s6:Unit) (x7:(Int×Ji))=>(((bif (!decide (((x7.2.length:Nat):Int)=w)) then (Sum.inr (Except.error (Xn.BadSwap x7.1))) else (Sum.inl ()))):(Unit)⊕(Except Xn BookD))) () l=.inl () ∧
   za8 (λ(s6:Unit) (x7:(Int×Ji))=>(((bif (!decide (((x7.2.length:Nat):Int)=w)) then (Sum.inr [(Sum.inl ("BadSwap" :Str)),(Sum.inr x7.1)]) else (Sum.inl ()))):(Unit)⊕(List (Str⊕Int)))) () l=.inl ()) ∨
  ∃ k,za8 (λ(s6:Unit) (x7:(Int×Ji))=>(((bif (!decide (((x7.2.length:Nat):Int)=w)) then (Sum.inr (Except.error (Xn.BadSwap x7.1))) else (Sum.inl ()))):(Unit)⊕(Except Xn BookD))) () l=.inr (.error (.BadSwap k)) ∧
   za8 (λ(s6:Unit) (x7:(Int×Ji))=>(((bif (!decide (((x7.2.length:Nat):Int)=w)) then (Sum.inr [(Sum.inl ("BadSwap" :Str)),(Sum.inr x7.1)]) else (Sum.inl ()))):(Unit)⊕(List (Str⊕Int)))) () l=.inr [.inl ("BadSwap" :Str),.inr k]
 | []=>.inl ⟨rfl,rfl⟩
 | x :: l=>by
  simp only [za8]
  cases hb:(!decide (((x.2.length:Nat):Int)=w)) with
  | true=>exact .inr ⟨x.1,rfl,rfl⟩
  | false=>exact zdv w l
theorem zfM {β:Type} {sw:Jq} {g:Ji->Int->Unit ⊕ β}:za8 (λ(_:Unit) (x:Int)=>g (ixD sw x) x) () (zc4 0 sw.length)=za8 (λ(_:Unit) (x:Int×Ji)=>g x.2 x.1) () (zdx sw):=by
 have e:zc4 0 sw.length=(zdx sw).map (·.1):=by
  unfold zdx
  rw [List.map_fst_zip]
  rw [zb2];exact Nat.le_refl _
 rw [e]
 have key:∀ (l:List (Int×Ji)),(∀ x∈l,ixD sw x.1=x.2)->za8 (λ(_:Unit) (x:Int)=>g (ixD sw x) x) () (l.map (·.1))=za8 (λ(_:Unit) (x:Int×Ji)=>g x.2 x.1) () l:=by
  intro l
  induction l with
  | nil=>intro _;rfl
  | cons x l ih =>
   intro h
   simp only [List.map_cons,za8]
   rw [h x List.mem_cons_self]
   cases g x.2 x.1 with
   | inl u=>exact ih λy hy=>h y (List.mem_cons_of_mem _ hy)
   | inr b=>rfl
 refine key _ λx hx=>?_
 obtain ⟨i,hi⟩:=List.getElem?_of_mem hx
 obtain ⟨h1,h2,h3⟩:=zdE hi
 rw [h2]
 have hI:InB sw.length (i:Int):=by unfold InB;omega
 obtain ⟨j,ej,hj,hj2⟩:=zfz hI
 unfold ixD atI
 rw [ej]
 show (sw[j]?).getD default=_
 have:j=i:=by omega
 rw [this,h3]
 rfl
theorem zia (w:Int) (sw:Jq):zaJ w sw=[]∨zaJ w sw=[Sum.inl ("BadWares" :Str)]∨zaJ w sw=[Sum.inl ("TooMany" :Str)]∨∃ k,zaJ w sw=[Sum.inl ("BadSwap" :Str),Sum.inr k]∧zaP w sw=.error (.BadSwap k):=by
 unfold zaJ zaP
 cases h1:((decide (w<(1:Int)))||(decide (8<w))) with
 | true=>exact .inr (.inl rfl)
 | false =>
  rw [cond_false,cond_false]
  cases h2:(decide (12<((sw.length:Nat):Int))) with
  | true=>exact .inr (.inr (.inl rfl))
  | false =>
   rw [cond_false,cond_false,Int.toNat_natCast,zfM (g:=λs k=>bif (!decide (((s.length:Nat):Int)=w)) then (Sum.inr [(Sum.inl ("BadSwap" :Str)),(Sum.inr k)]) else (Sum.inl ()))]
   rcases zdv w (zdx sw) with ⟨a,b⟩ | ⟨k,a,b⟩
   ·rw [b];exact .inl rfl
   ·rw [a,b];exact .inr (.inr (.inr ⟨k,rfl,rfl⟩))
theorem zkM {w:Int} {sw:Jq} {due:List (Str ⊕ Int)} (hD:due=zaJ w sw) (h:(!decide (due=[]))=true):InB due.length 0∧(ixD due 0).isLeft=true:=by
 rcases zia w sw with q | q | q | ⟨k,q,_⟩<;>rw [← hD] at q<;>subst q
 ·cases h
 ·exact ⟨by unfold InB;decide,rfl⟩
 ·exact ⟨by unfold InB;decide,rfl⟩
 ·exact ⟨by unfold InB;exact (show -((2:Nat):Int)≤0∧(0:Int)<((2:Nat):Int) by decide),rfl⟩
theorem zkE {w:Int} {sw hd:Jq} {due:List (Str ⊕ Int)} {r:Except Xn BookD} (hD:due=zaJ w sw) (h:(!decide (due=[]))=true) (h1:(!decide (siS (ixD due 0)=("BadSwap" :Str)))=false) (hh:hd=List.map (λ(x:Ji)=>x) sw) (e:r=zjI (zaP w hd) (λb=>Except.ok b)) :
  InB due.length 1∧(ixD due 1).isRight=true∧zfs (zd3 r)=true:=by
 have hh:hd=sw:=by rw [hh];simp
 subst hh
 rcases zia w hd with q | q | q | ⟨k,q,q2⟩<;>rw [← hD] at q<;>subst q
 ·cases h
 ·exact absurd h1 (by decide+kernel)
 ·exact absurd h1 (by decide+kernel)
 ·refine ⟨by unfold InB;exact (show -((2:Nat):Int)≤1∧(1:Int)<((2:Nat):Int) by decide),rfl,?_⟩
  rw [e,q2];rfl
theorem zhM {w:Int} {sw:Jq} {b:BookD} (h:zaP w sw=.ok b):b=⟨w,sw⟩:=by
 unfold zaP at h
 cases h1:((decide (w<(1:Int)))||(decide (8<w))) with
 | true=>rw [h1] at h;cases h
 | false =>
  rw [h1,cond_false] at h
  cases h2:(decide (12<((sw.length:Nat):Int))) with
  | true=>rw [h2] at h;cases h
  | false =>
   rw [h2,cond_false] at h
   revert h
   generalize hq:za8 (λ(s6:Unit) (x7:(Int×Ji))=>(((bif (!decide (((x7.2.length:Nat):Int)=w)) then (Sum.inr (Except.error (Xn.BadSwap x7.1))) else (Sum.inl ()))):(Unit)⊕(Except Xn BookD))) () (zdx sw)=q
   intro h
   cases q with
   | inl _=>cases h;exact zjO
   | inr e =>
    exfalso
    have h:e=.ok b:=h
    subst h
    have key:∀ (l:List (Int×Ji)),za8 (λ(s6:Unit) (x7:(Int×Ji))=>(((bif (!decide (((x7.2.length:Nat):Int)=w)) then (Sum.inr (Except.error (Xn.BadSwap x7.1))) else (Sum.inl ()))):(Unit)⊕(Except Xn BookD))) () l≠.inr (.ok b):=by
     intro l
     induction l with
     | nil=>intro z;cases z
     | cons x l ih =>
      intro z
      simp only [za8] at z
      cases hb:(!decide (((x.2.length:Nat):Int)=w)) with
      | true=>rw [hb] at z;cases z
      | false=>rw [hb] at z;exact ih z
    exact key _ hq
theorem zk2 {w:Int} {sw h:Jq} {r:Except Xn BookD} (hh:h=List.map (λ(x:Ji)=>x) sw) (e:r=zjI (zaP w h) (λb=>Except.ok b)) (hs:(okO r).isSome=true):gS (okO r)=⟨w,sw⟩:=by
 have hh:h=sw:=by rw [hh];simp
 subst hh e
 cases q:zaP w h with
 | ok b=>exact zhM q
 | error e=>rw [q] at hs;cases hs
theorem okE {r:Except Xn BookD} (h:(zd3 r).isSome=false):(okO r).isSome=true:=by
 cases r with
 | ok _=>rfl
 | error _=>cases h
theorem zkD {r:Except Xn BookD} {b:Bool} (h:((zd3 r).isSome||b)=false):(okO r).isSome=true:=by
 cases r with
 | ok _=>rfl
 | error _=>cases h
theorem zjJ {xs:Ji} {w:Int} {sw:Jq} (h:sw=zaD xs w):sw.length≤14∧∀ s∈sw,s.length≤11:=by rw [h];exact swl xs w
theorem zjH {sw hd:Jq} {w:Int} (hS:sw.length≤14∧∀ s∈sw,s.length≤11) (hh:hd=List.map (λ(x:Ji)=>x) sw):zbP w hd:=by
 have hh:hd=sw:=by rw [hh];simp
 subst hh
 show _≤20
 omega
theorem zf6 {sw hd:Jq} (hS:sw.length≤14∧∀ s∈sw,s.length≤11) (hh:hd=List.map (λ(x:Ji)=>x) sw):hd.length≤14∧∀ s∈hd,s.length≤1000:=by
 have hh:hd=sw:=by rw [hh];simp
 subst hh
 exact ⟨hS.1,λs hs=>Nat.le_trans (hS.2 s hs) (by decide)⟩
theorem zjK {b:BookD} {sw:Jq} {i:Nat} {x:Ji×Ji} (hp:b.swaps.length≤1000∧∀ s∈b.swaps,s.length≤1000) (hx:(List.zip b.swaps sw)[i]?=some x):zbN x.1 x.2:=hp.2 _ (List.of_mem_zip (List.mem_of_getElem? hx)).1
noncomputable def zbr (P0:BookD) (P1:Int) (P2:Jq):Bool :=
 (bif ((!true)||((!(zap P0.many))||(!decide (P0.many=P1)))) then false
 else (bif ((!true)||(!decide (((P0.swaps.length:Nat):Int)=((P2.length:Nat):Int)))) then false
 else (zkK (za8 (λ(s87:Unit) (x88:(Ji×Ji))=>(((bif (!(za9 x88.1 x88.2)) then (Sum.inr false)
 else (Sum.inl ()))):(Unit) ⊕ Bool)) () (List.zip P0.swaps P2)) (λ(r93:Unit) =>
 true) (λb=>b))))
def zbV (P0:BookD) (P1:Int) (P2:Jq):Prop:=P0.swaps.length≤1000∧∀ s∈P0.swaps,s.length≤1000
def zeM (K:W.Frag) (A:Adr):Sp:=Spv (ι:=BookD×Int×Jq) (λx=>[zcs A.Book x.1,dI x.2.1,dQ K (List.map lI x.2.2)]) (λx=>zbV x.1 x.2.1 x.2.2) (λx=>↥[dB (zbr x.1 x.2.1 x.2.2)])
theorem zdk:FnScope ["_law_book","_law_wares_here","_law_swaps_here","_law_found","_law_due_here"] ["_law_book","_law_wares_here","_law_swaps_here"] (zah zee):=⟨rfl,rfl,rfl,by decide+kernel,rfl,by decide+kernel,by decide+kernel⟩
theorem zhb (F:Fun K "_law_is" "_law_is" zee f fd) (T:Txt K mg A) (ybb:Callee P w K mg base (CXE P w) 2 "_law_same" ["_law_found","_law_due_here"] (zdf K A)) (yae:Callee P w K mg base (CXE P w) 1 "_law_whole" ["_law_found"] (zb0 K A)):FnOk P w K mg base (CXE P w) 3 f fd ["_law_book","_law_wares_here","_law_swaps_here"] (zeM K A):=by
 refine F.okV zdk (λ_=>rfl) (λcdv Ar outer s H E x hr hp=> ?_)
 obtain ⟨P0,P1,P2⟩:=x
 have hu:=hr.units
 replace hp:zbV P0 P1 P2:=hp
 unfold zbV at hp
 refine ⟨_,(zac (zb4 (PW.pt (zff (zdC (zdm (zai (zaq (K:=K) rfl) rfl T.isinstance PyProof.Rows.boot_isinstance ↑[pv 0,(zaN (v:=.ref A.Book) rfl T.Book rfl)]))) (zff (zdC (zdm (zce yae (hr.mono (by decide)) rfl zb8 ↑[(zcQ (K:=K) rfl (pv 0) rfl)]))) (zdS (zaw zfP (zcQ (K:=K) rfl (pv 0) rfl) (pv 1) (zaC _)))))) (zac (zaL zeW) zag) zag) (zac (zb4 (PW.pt (zff (zdC (zdm (zai (zaq (K:=K) rfl) rfl T.isinstance PyProof.Rows.boot_isinstance ↑[(zcQ (K:=K) rfl (pv 0) rfl),(zdy rfl T.list (v:= .ty "list") (u:= .type "list") (by decide+kernel) rfl)]))) (zdS (zaw zfP (zai (zaA (K:=K) rfl) rfl T.len PySem.boot_len ↑[(zcQ (K:=K) rfl (pv 0) rfl)]) (zai (zaA (K:=K) rfl) rfl T.len PySem.boot_len ↑[pv 2]) (zaC _))))) (zac (zaL zeW) zag) zag) (zac (zdP PassesOwn.never rfl (zhY (K:=K) rfl rfl T.zip ↑[(zcQ (K:=K) rfl (pv 0) rfl),pv 2]) (zfp (K:=K) (n:=2) rfl rfl (zde (zbC (i:=3) zdk.nd rfl (Or.inl rfl) (Or.inl rfl)) (zde (zbC (i:=4) zdk.nd rfl (Or.inl rfl) (Or.inl rfl)) zgX))) (zac (zb4 (zdC (zdm (zce ybb (hr.mono (by decide)) rfl zb8 ↑[pv 3,pv 4]))) (zac (zaL zeW) zag) zag) zag)) (zac (zaL zeW) zag)))),.inl ?_⟩
 show L2.Run _ ([⇑[zcs A.Book P0],⇑[dI P1],⇑[dQ K (List.map lI P2)],.no,.no]:L2.Ctx) _ ((λ(r:Bool)=>Oc.rt true (dB r)) (zbr P0 P1 P2))
 unfold zbr
 exact (zar (b:=((!true)||((!(zap P0.many))||(!decide (P0.many=P1))))) (λ(r:Bool)=>Oc.rt true (dB r)) (zdK (b:=(!true)) (zcC (zcE (ev_isiO (zaa (i:=0) rfl) T.isi_Book))) (λhb=>(zdK (b:=(!(zap P0.many))) (zcC (zcE (Ev.any (m:=true) (zbp (x:=P0.many) (zab (Ev.any (m:=false) (zeU (zaa (i:=0) rfl) T.Book_cl T.Book_many rfl)) zao) rfl (by show zbm P0.many;exact trivial) rfl)))) (λhb=>(zas (zeG (x:=P0.many) (y:=P1) (Ev.any (m:=false) (zeU (zaa (i:=0) rfl) T.Book_cl T.Book_many rfl)) (Ev.any (m:=false) (zaa (i:=1) rfl)))))))) (λh85=>(zaf (zan (zaz zax)))) (λh85=>(zal (zar (b:=((!true)||(!decide (((P0.swaps.length:Nat):Int)=((P2.length:Nat):Int))))) (λ(r:Bool)=>Oc.rt true (dB r)) (zdK (b:=(!true)) (zcC (zcE (zgp (zeU (zaa (i:=0) rfl) T.Book_cl T.Book_swaps rfl) T.kit_list_list))) (λhb=>(zas (zeG (x:=((P0.swaps.length:Nat):Int)) (y:=((P2.length:Nat):Int)) (zbB (f:=lI) (xs:=P0.swaps) (Ev.weak (K:=K) (zeU (zaa (i:=0) rfl) T.Book_cl T.Book_swaps rfl))) (zbB (f:=lI) (xs:=P2) (zaa (i:=2) rfl)))))) (λh86=>(zaf (zan (zaz zax)))) (λh86=>(zal (zd8 (s0:=()) (λ(s87:Unit)=>([⇑[zcs A.Book P0],⇑[dI P1],⇑[dQ K (List.map lI P2)],.no,.no]:L2.Ctx)) (λ(r:Bool)=>Oc.rt true (dB r)) (λb=>b) (λ(s87:Unit) (x88:(Ji×Ji))=>(((bif (!(za9 x88.1 x88.2)) then (Sum.inr false) else (Sum.inl ()))):(Unit) ⊕ Bool)) (λ_ _=>True) (λb=>.inl ⟨_,_,rfl⟩) (zkz (m:=false) lI lI (xs:=P0.swaps) (ys:=P2) (Ev.weak (K:=K) (zeU (zaa (i:=0) rfl) T.Book_cl T.Book_swaps rfl)) (zaa (i:=2) rfl)) (.eq (.eq (.eq (.eq (.eq .nil))))) trivial (λi89 x88 s87 hx90 hI91=>have v90:=zfl hx90;⟨(λ_ _=>trivial),(zar (b:=(!(za9 x88.1 x88.2))) (zfR (λ(s87:Unit)=>([⇑[zcs A.Book P0],⇑[dI P1],⇑[dQ K (List.map lI P2)],.no,.no]:L2.Ctx)) (λ(r:Bool)=>Oc.rt true (dB r))) (zcC (zcE (Ev.any (m:=true) (zbp (x:=(x88.1,x88.2)) (zab (zaa (i:=3) rfl) (zab (Ev.weak (K:=K) (zaa (i:=4) rfl)) zao)) rfl (by show zbN x88.1 x88.2;exact zjK hp (by assumption)) rfl)))) (λh92=>(zaf (zan (zaz zax)))) (λh92=>(zal (zaB (.eq (.eq (.eq (.no (.no .nil)))))))))⟩) (λr93 hr93 hI=>(zan (zaz zax))))))))))
theorem zjv {w:Int} {sw hd:Jq} {r:Except Xn BookD} (hS:sw.length≤14∧∀ s∈sw,s.length≤11) (hh:hd=List.map (λ(x:Ji)=>x) sw) (e:r=zjI (zaP w hd) (λb=>Except.ok b)) (hs:(okO r).isSome=true):zbV (gS (okO r)) w sw:=by
 rw [zk2 hh e hs]
 exact ⟨show sw.length≤1000 by omega,λs hs=>Nat.le_trans (hS.2 s hs) (by decide)⟩
noncomputable def zfn (P0:Ji):Bool :=
 (Let (zbh (zaj P0 (0:Int))) (λ(v94:Int) =>
 (Let (zaD P0 v94) (λ(v95:Jq) =>
 (Let (zaJ v94 v95) (λ(v96:(List (Str⊕Int))) =>
 (Let (List.map (λ(x97:Ji)=>x97) v95) (λ(hv100:Jq) =>
 (Let () (λ(v101:Unit) =>
 (Let () (λ(v102:Unit) =>
 (Let (zjI (zaP v94 hv100) (λ(v104:BookD) =>
 (Except.ok v104))) (λ(r105:Except Xn BookD) =>
 (bif (!decide (hv100=v95)) then false
 else (bif (!decide (v96=[])) then (bif (!(zav (zd3 r105) (siS (ixD v96 (0:Int))))) then false
 else ((!decide ((siS (ixD v96 (0:Int)))=("BadSwap" :Str)))||((zap (zcB (zd3 r105)))&&(decide ((zcB (zd3 r105))=(siI (ixD v96 (1:Int))))))))
 else (bif ((zd3 r105).isSome||(!(zbr (gS (okO r105)) v94 v95))) then false
 else (zbr (gS (okO r105)) v94 v95))))))))))))))))))
def ze6 (P0:Ji):Prop:=P0.length≤63
def zii (K:W.Frag) (A:Adr):Sp:=Spv (ι:=Ji) (λx=>[dQ K (List.map dI x)]) (λx=>ze6 x) (λx=>↥[dB (zfn x)])
theorem zct:FnScope ["_law_script","_law_wares_here","_law_swaps_here","_law_due_here","_law_handed","_law_book","_law_caught","e","_law_swap"] ["_law_script"] (zah zeH):=⟨rfl,rfl,rfl,by decide+kernel,rfl,by decide+kernel,by decide+kernel⟩
theorem zjp (F:Fun K "law" "law" zeH f fd) (T:Txt K mg A) (yai:Callee P w K mg base (CXE P w) 1 "_law_at" ["_law_script","_law_k"] (zdp K A)) (ybq:Callee P w K mg base (CXE P w) 1 "_law_due" ["_law_wares_here","_law_swaps_here"] (zdZ K A)) (ybc:Callee P w K mg base (CXE P w) 3 "_law_is" ["_law_book","_law_wares_here","_law_swaps_here"] (zeM K A)) (ybd:Callee P w K mg base (CXE P w) 2 "_law_only" ["_law_caught","_law_name"] (zdu K A)) (yaV:Callee P w K mg base (CXE P w) 2 "_law_swaps" ["_law_script","_law_wares_here"] (zda K A)) (yaW:Callee P w K mg base (CXE P w) 2 "_law_wares" ["_law_cell"] (zc8 K A)) (yae:Callee P w K mg base (CXE P w) 1 "_law_whole" ["_law_found"] (zb0 K A)) (ybe:Callee P w K mg base (CXE P w) 3 "book_of" ["many","swaps"] (zds K A)):FnOk P w K mg base (CXE P w) 4 f fd ["_law_script"] (zii K A):=by
 refine F.okVX zct (λ_=>rfl) (λcdv Ar outer s H E P0 hr hp O=>?_)
 have hu:=hr.units
 replace hp:ze6 P0:=hp
 unfold ze6 at hp
 refine ⟨_,(zay (zbD (zaX (i:=1) zct.nd rfl (Or.inl rfl) (zce yaW (hr.mono (by decide)) rfl zb8 ↑[zce yai (hr.mono (by decide)) rfl zb8 ↑[pv 0,zae]]))) (zay (zbD (zaX (i:=2) zct.nd rfl (Or.inl rfl) (zce yaV (hr.mono (by decide)) rfl zb8 ↑[pv 0,pv 1]))) (zay (zbD (zaX (i:=3) zct.nd rfl (Or.inl rfl) (zce ybq (hr.mono (by decide)) rfl zb8 ↑[pv 1,pv 2]))) (zay (zbD (ziD (i:=4) rfl zct.nd rfl rfl (.of (osc:=(zah zeH)) (N:=["_law_script","_law_wares_here","_law_swaps_here","_law_due_here","_law_handed","_law_book","_law_caught","e","_law_swap"]) (own:=["_law_swap"]) (fvn:=[]) (fv:=[]) rfl rfl (by decide+kernel)) (zb6 (K:=K) rfl (pv 2)) (λ_ _ _ _ _=>⟨(zbC (i:=0) (show (["_law_swap"]:List Str).Nodup by decide +kernel) rfl (Or.inl rfl) (Or.inr rfl)),zdz,(zeq (zdH (K:=K) rfl) rfl T.list PyProof.Rows.boot_list ↑[pv 0])⟩))) (zay (zbD (zaX (i:=5) zct.nd rfl (Or.inl rfl) zgK)) (zay (zbD (zaX (i:=6) zct.nd rfl (Or.inl rfl) zgK)) (zay (zjV (K:=K) O rfl zct.nd (i:=7) (j:=6) rfl rfl rfl (Or.inl rfl) (Or.inr rfl) rfl T.k_SwapError (zay (zjF (i:=5) zct.nd rfl (Or.inl rfl) (zkU O ybe (hr.mono (by decide)) rfl ↑[pv 1,pv 4])) zbI)) (zay (ze3 (zaw (zga (K:=K) rfl hu) (pv 4) (pv 2) (zaC _)) (zay (zbD (zaL zeW)) zbI) zbI) (zay (ze3 (zaw (zga (K:=K) rfl hu) (pv 3) (zbH zcu) (zaC _)) (zay (ze3 (zdC (zdm (zce ybd (hr.mono (by decide)) rfl zb8 ↑[pv 6,(zej (zbA (K:=K) rfl) (pv 3) zae (λ_ _=>rfl))]))) (zay (zbD (zaL zeW)) zbI) zbI) (zay (zbD (zaL (zlb (zdG zfP (zej (zbA (K:=K) rfl) (pv 3) zae (λ_ _=>rfl)) za7 (zaC _)) (zex (zfB (zce yae (hr.mono (by decide)) rfl zb8 ↑[(zgQ (K:=K) rfl (pv 6) rfl)]) (zex (zdG zcY (zgQ (K:=K) rfl (pv 6) rfl) (zej (zbA (K:=K) rfl) (pv 3) zae (λ_ _=>rfl)) (zaC _)))))))) zbI)) zbI) (zay (ze3 (PW.pt (zff (zaw ziq (pv 6) zgK (zaC _)) (zdS (zdC (zdm (zce ybc (hr.mono (by decide)) rfl zb8 ↑[pv 5,pv 1,pv 2])))))) (zay (zbD (zaL zeW)) zbI) zbI) (zay (zbD (zdP PassesOwn.never rfl (zb6 (K:=K) rfl (pv 4)) (zbC (i:=8) zct.nd rfl (Or.inl rfl) (Or.inl rfl)) (zac (zc2 (zbZ (K:=K) rfl (pv 8) ↑[zae])) zag))) (zay (zbD (zc2 (zbZ (K:=K) rfl (pv 4) ↑[zbH zcu]))) (zay (zbD (zaL (zce ybc (hr.mono (by decide)) rfl zb8 ↑[pv 5,pv 1,pv 2]))) zbI))))))))))))),.inl ?_⟩
 show L2.Run _ ([⇑[dQ K (List.map dI P0)],.no,.no,.no,.no,.no,.no,.no,.no]:L2.Ctx) _ ((λ(r:Bool)=>Oc.rt true (dB r)) (zfn P0))
 unfold zfn
 exact (zaT (m:=true) (x:=(zbh (zaj P0 (0:Int)))) dI (λ(r:Bool)=>Oc.rt true (dB r)) (Ev.any (m:=true) (zbp (x:=(zaj P0 (0:Int))) (zab (Ev.any (m:=true) (zbp (x:=(P0,(0:Int))) (zab (zaa (i:=0) rfl) (zab zax zao)) rfl (by show zaH P0 (0:Int);unfold zaH;decide) rfl)) zao) rfl (by show zbT (zaj P0 (0:Int));exact trivial) rfl)) (λv94 hv94=>(zaT (m:=true) (x:=(zaD P0 v94)) (λ(xs:Jq)=>dL (List.map lI xs)) (λ(r:Bool)=>Oc.rt true (dB r)) (zbp (x:=(P0,v94)) (zab (zaa (i:=0) rfl) (zab (Ev.any (m:=true) (zaa (i:=1) rfl)) zao)) rfl (by show zbS P0 v94;exact hp) rfl) (λv95 hv95=>have hS:=zjJ hv95;(zaT (m:=true) (x:=(zaJ v94 v95)) (λ(xs:(List (Str⊕Int)))=>dL (List.map dSI xs)) (λ(r:Bool)=>Oc.rt true (dB r)) (EvO.ev (zfK (x:=(v94,v95)) (zab (Ev.any (m:=true) (zaa (i:=1) rfl)) (zab (Ev.old (Ev.weak (K:=K) (zaa (i:=2) rfl))) zao)) rfl (by show zca v94 v95;show _≤20;omega) rfl)) (λv96 hv96=>have hD:=hv96;(zfD (x:=(List.map (λ(x97:Ji)=>x97) v95)) (λ(xs:Jq)=>dL (List.map lI xs)) (λ(r:Bool)=>Oc.rt true (dB r)) (zh3 (EvO.ev (EvO.conv (zew (g:=(λ(x97:Ji)=>dL (List.map dI x97))) (zdB (m:=false) lI (xs:=v95) (Ev.weak (K:=K) (zaa (i:=2) rfl))) ↥(zaY (by omega)) ⟨by decide,by decide⟩ (λi98 x97 hx99=>have v99:=List.mem_of_getElem? hx99;(EvO.ev (EvO.anyI (m:=false) (zgh (Ev.weak (K:=K) (zaa (i:=0) rfl))))))) (by first|(rw [List.map_map];rfl)|(simp only [cond_true,cond_false];rw [List.map_map];rfl))))) (λhv100 hhanded100=>have hH:=hhanded100;(zaT (m:=true) (x:=()) (λ_=>dN) (λ(r:Bool)=>Oc.rt true (dB r)) zax (λv101 hv101=>(zaT (m:=true) (x:=()) (λ_=>dN) (λ(r:Bool)=>Oc.rt true (dB r)) zax (λv102 hv102=>(zhW (mx:=false) (xc:=A.xc) (λ(z103:BookD)=>([⇑[dQ K (List.map dI P0)],↥[dI v94],↥[dL (List.map lI v95)],↥[dL (List.map dSI v96)],.tl (dL (List.map lI hv100)),↥[zcs A.Book z103],↥[dN],.no,.no]:L2.Ctx)) ([⇑[dQ K (List.map dI P0)],↥[dI v94],↥[dL (List.map lI v95)],↥[dL (List.map dSI v96)],.tl (dL (List.map lI hv100)),↥[dN],↥[dN],.no,.no]:L2.Ctx) (λ(r105:Except Xn BookD)=>([⇑[dQ K (List.map dI P0)],↥[dI v94],↥[dL (List.map lI v95)],↥[dL (List.map dSI v96)],.tl (dL (List.map lI hv100)),↥[dOpt (zcs A.Book) (okO r105)],⇑[dOpt (λe=>dE (A.xc e) (XF.fs e)) (zd3 r105)],.no,.no]:L2.Ctx)) (λ(r:Bool)=>Oc.rt true (dB r)) (λE1=>(zgU (i0:=4) (λv=>Oc.nx ((λ(z103:BookD)=>([⇑[dQ K (List.map dI P0)],↥[dI v94],↥[dL (List.map lI v95)],↥[dL (List.map dSI v96)],.tl (dL (List.map lI hv100)),↥[zcs A.Book z103],↥[dN],.no,.no]:L2.Ctx)) v)) (v94,hv100) rfl zjq rfl rfl (zab (Ev.any (m:=true) (zaa (i:=1) rfl)) (zab (Ev.old (Ev.weak (K:=K) (zaa (i:=4) rfl))) zao)) rfl (by show zbP v94 hv100;exact zjH hS hH) rfl (.eq (.eq (.eq (.eq (.eq (.eq (.eq (.eq (.eq .nil))))))))) (λv104 hv104=>(zaB (.eq (.eq (.eq (.eq (.eq (.eq (.eq (.eq (.eq .nil))))))))))))) (λz103=>(.eq (.eq (.eq (.eq (.eq (.eq (.old (.eq (.eq .nil)))))))))) (λe=>⟨match e with | .BadWares=>T.exm_BadWares | .TooMany=>T.exm_TooMany | .BadSwap _=>T.exm_BadSwap,(.eq (.eq (.eq (.eq (.eq (.eq (.eq (.eq (.eq .nil)))))))))⟩) (λr105 hr105=>(zar (b:=(!decide (hv100=v95))) (λ(r:Bool)=>Oc.rt true (dB r)) (EvT.borrow rfl (zas (zfG (n:=1) (neg:=true) (xs:=hv100) (ys:=v95) (EqD.list EqD.int) (Ev.old (Ev.weak (K:=K) (zaa (i:=4) rfl))) (Ev.old (Ev.weak (K:=K) (zaa (i:=2) rfl)))))) (λh106=>(zaf (zan (zaz zax)))) (λh106=>(zal (zar (b:=(!decide (v96=[]))) (λ(r:Bool)=>Oc.rt true (dB r)) (zas (zfG (n:=0) (neg:=true) (xs:=v96) (ys:=[]) EqD.si (Ev.old (Ev.weak (K:=K) (zaa (i:=3) rfl))) (Ev.old (Ev.weak (K:=K) (EvO.ev (zcO (m:=true) zao)))))) (λh107=>(zaf (zar (b:=(!(zav (zd3 r105) (siS (ixD v96 (0:Int)))))) (λ(r:Bool)=>Oc.rt true (dB r)) (zcC (zcE (Ev.any (m:=true) (zbp (x:=((zd3 r105),(siS (ixD v96 (0:Int))))) (zab (zaa (i:=6) rfl) (zab (Ev.old (zh7 (x:=(ixD v96 (0:Int))) (zdq (f:=dSI) (xs:=v96) (Ev.weak (K:=K) (zaa (i:=3) rfl)) zax ↥((zkM hD (by assumption)).1)) ↥((zkM hD (by assumption)).2))) zao)) rfl (by show zb1 (zd3 r105) (siS (ixD v96 (0:Int)));exact trivial) rfl)))) (λh108=>(zaf (zan (zaz zax)))) (λh108=>(zal (zaf (zan (zaz (zkS (b:=(!decide ((siS (ixD v96 (0:Int)))=("BadSwap" :Str)))) (zkw (x:=(siS (ixD v96 (0:Int)))) (y:=("BadSwap" :Str)) (Ev.old (zh7 (x:=(ixD v96 (0:Int))) (zdq (f:=dSI) (xs:=v96) (Ev.weak (K:=K) (zaa (i:=3) rfl)) zax ↥((zkM hD (by assumption)).1)) ↥((zkM hD (by assumption)).2))) zax) (λhb=>(zft (b:=(zap (zcB (zd3 r105)))) (Ev.any (m:=true) (zbp (x:=(zcB (zd3 r105))) (zab (Ev.any (m:=true) (zgw (m:=true) (xc:=A.xc) (x:=(zd3 r105)) (zaa (i:=6) rfl) (T.h_place ↥((zkE hD (by assumption) (by assumption) hH (by assumption)).2.2)))) zao) rfl (by show zbm (zcB (zd3 r105));exact trivial) rfl)) (λhb=>(zcc (x:=(zcB (zd3 r105))) (y:=(siI (ixD v96 (1:Int)))) (Ev.any (m:=true) (zgw (m:=true) (xc:=A.xc) (x:=(zd3 r105)) (zaa (i:=6) rfl) (T.h_place ↥((zkE hD (by assumption) (by assumption) hH (by assumption)).2.2)))) (Ev.old (zjR (x:=(ixD v96 (1:Int))) (zdq (f:=dSI) (xs:=v96) (Ev.weak (K:=K) (zaa (i:=3) rfl)) zax ↥((zkE hD (by assumption) (by assumption) hH (by assumption)).1)) ↥((zkE hD (by assumption) (by assumption) hH (by assumption)).2.1)))))))))))))))) (λh107=>(zal (zar (b:=((zd3 r105).isSome||(!(zbr (gS (okO r105)) v94 v95)))) (λ(r:Bool)=>Oc.rt true (dB r)) (zdK (b:=(zd3 r105).isSome) (zas (zeA (x:=(zd3 r105)) (f:=(λe=>dE (A.xc e) (XF.fs e))) (zaa (i:=6) rfl) zax NN.exc)) (λhb=>(zcC (zcE (Ev.any (m:=true) (zbp (x:=((gS (okO r105)),v94,v95)) (zab (Ev.old (ev_some (f:=(zcs A.Book)) (x:=(okO r105)) (zaa (i:=5) rfl) (by first|exact okE (by assumption)|exact zkD (by assumption)))) (zab (Ev.any (m:=true) (zaa (i:=1) rfl)) (zab (Ev.old (Ev.weak (K:=K) (zaa (i:=2) rfl))) zao))) rfl (by show zbV (gS (okO r105)) v94 v95;exact zjv hS hH (by assumption) (by first|exact okE (by assumption)|exact zkD (by assumption))) rfl)))))) (λh109=>(zaf (zan (zaz zax)))) (λh109=>(zal (zed (M:=1000) (xss:=hv100) (i:=4) (j:=8) rfl rfl rfl ↥((zf6 hS hH).2) (λ_ _ _ _ _ h1 h2 h3 h4=>zgA (by have z:=(zf6 hS hH).1;exact Nat.lt_of_le_of_lt (show _≤1100 by omega) (by decide)) h1 h2 h3 h4) (ze5 (m:=true) rfl (zhD (i:=4) rfl) (EvO.ev (zcO (m:=true) zao)) (by have z:=(zf6 hS hH).1;exact Nat.lt_of_le_of_lt (show _≤1100 by omega) (by decide)) (zan (zaz (Ev.any (m:=true) (zbp (x:=((gS (okO r105)),v94,v95)) (zab (Ev.old (ev_some (f:=(zcs A.Book)) (x:=(okO r105)) (zaa (i:=5) rfl) (by first|exact okE (by assumption)|exact zkD (by assumption)))) (zab (Ev.any (m:=true) (zaa (i:=1) rfl)) (zab (Ev.old (Ev.weak (K:=K) (zaa (i:=2) rfl))) zao))) rfl (by show zbV (gS (okO r105)) v94 v95;exact zjv hS hH (by assumption) (by first|exact okE (by assumption)|exact zkD (by assumption))) rfl)))))))))))))))) (λh=>nomatch h))))))))))))))
theorem zkf:zav (some Xn.BadWares) ("BadWares" :Str)=true:=by
 unfold zav zaW Let
 decide +kernel
theorem zkq:zav (some Xn.TooMany) ("TooMany" :Str)=true:=by
 unfold zav zaW Let
 decide +kernel
theorem zix:zav (some (Xn.BadSwap 0)) ("BadSwap" :Str)=true:=by
 unfold zav zaW Let
 decide +kernel
theorem zjC (k:Int):zav (some (Xn.BadSwap k)) ("BadSwap" :Str)=true:=zix
theorem zd0 {γ β:Type} {f:Unit->γ->Unit ⊕ β}:∀ {xs:List γ},(∀ x∈xs,f () x=.inl ())->za8 f () xs=.inl ()
 | [],_=>rfl
 | x :: xs,h=>by
  simp only [za8,h x List.mem_cons_self]
  exact zd0 λy hy=>h y (List.mem_cons_of_mem _ hy)
theorem zgN (v:Ji):za9 v v=true:=by
 unfold za9 zap
 simp
theorem zfL {α:Type}:∀ {xs:List α} {p:α×α},p∈List.zip xs xs->p.1=p.2
 | [],_,h=>by cases h
 | x :: xs,p,h=>by
  rw [List.zip_cons_cons] at h
  rcases List.mem_cons.mp h with q | q
  ·rw [q]
  ·exact zfL q
theorem zjd (w:Int) (sw:Jq):zbr ⟨w,sw⟩ w sw=true:=by
 unfold zbr
 have e1:((!true)||((!(zap w))||(!decide (w=w))))=false:=by unfold zap;simp
 have e2:((!true)||(!decide (((sw.length:Nat):Int)=((sw.length:Nat):Int))))=false:=by simp
 show (bif ((!true)||((!(zap w))||(!decide (w=w)))) then false else (bif ((!true)||(!decide (((sw.length:Nat):Int)=((sw.length:Nat):Int)))) then false else _))=true
 rw [e1,e2,cond_false,cond_false,zd0 λx hx=>by rw [zfL hx,zgN];rfl]
 rfl
theorem zh2 (xs:Ji) (hp:xs.length≤63):zfn xs=true:=by
 unfold zfn Let
 dsimp only
 generalize zbh (zaj xs (0:Int))=w
 generalize zaD xs w=sw
 have eh:List.map (λ(x:Ji)=>x) sw=sw:=by simp
 rw [eh]
 have e0:(!decide (sw=sw))=false:=by simp
 rw [e0,cond_false]
 unfold zaJ zaP
 cases h1:((decide (w<(1:Int)))||(decide (8<w))) with
 | true=>
  rw [cond_true,cond_true]
  show (bif (!(zav (some Xn.BadWares) ("BadWares" :Str))) then false else _)=true
  rw [zkf]
  decide +kernel
 | false =>
  rw [cond_false,cond_false]
  cases h2:(decide (12<((sw.length:Nat):Int))) with
  | true =>
   rw [cond_true,cond_true]
   show (bif (!(zav (some Xn.TooMany) ("TooMany" :Str))) then false else _)=true
   rw [zkq]
   decide +kernel
  | false =>
   rw [cond_false,cond_false,Int.toNat_natCast,zfM (g:=λs k=>bif (!decide (((s.length:Nat):Int)=w)) then (Sum.inr [(Sum.inl ("BadSwap" :Str)),(Sum.inr k)]) else (Sum.inl ()))]
   rcases zdv w (zdx sw) with ⟨a,b⟩ | ⟨k,a,b⟩
   ·rw [a,b]
    show (bif (false||!(zbr (zdn w sw) w sw)) then false else zbr (zdn w sw) w sw)=true
    rw [zjO,zjd]
    rfl
   ·rw [a,b]
    show (bif (!(zav (some (Xn.BadSwap k)) ("BadSwap" :Str))) then false else ((!decide (("BadSwap" :Str)=("BadSwap" :Str)))||((zap k)&&(decide (k=k)))))=true
    rw [zjC]
    unfold zap
    simp
def zhZ (K:W.Frag):Sp:=λvs H Q _=>∃ (a:Addr) (ns:Ji),vs=[.ref a]∧SqL K H a (ns.map V.int)∧ns.length≤63∧∀ H',Q (.bl true) H'
theorem zki {K:W.Frag} {A:Adr} {vs:List V} {H:Hp} {Q:VK} {E:XK} (h:zhZ K vs H Q E):zii K A vs H Q E:=by
 obtain ⟨a,ns,rfl,hS,hl,q⟩:=h
 refine ⟨ns,H,Same.refl _,.cons ⟨a,_,rfl,hS,?_⟩ .nil,hl,λv F' H' _ hv=>?_⟩
 ·clear hS hl
  induction ns with
  | nil=>exact .nil
  | cons n ns ih=>exact .cons rfl ih
 ·have hv:v=.bl (zfn ns):=hv
  rw [hv,zh2 ns hl]
  exact q _
theorem zke {l:W.OpenLaw} {w:World} {K:W.Frag} {h:Heap} {mg:Str->Option Value} {fa f0 f1 f2 f3 f4 f5 f6 f7 f8 f9 f10 f11 f12 f13 f14 yaf yaj yag yal yap yaq yam yab yaa yar yav yaw yax yay yan yas yak yah yad yao yac:Addr} (X:K.In h) (G:h.Ns mainGlobals mg) (hfa:mg "law"=some (.ref fa))
  {yaH yaG:Tok}
  (ybK:W.nsIn K mainGlobals "Book"=some (some (.ref yaf)))
  (yaJ:W.nsIn K mainGlobals "BadBasket"=some (some (.ref yaj)))
  (yaB:W.nsIn K mainGlobals "BadBaskets"=some (some (.ref yag)))
  (yaX:W.nsIn K mainGlobals "BadNames"=some (some (.ref yal)))
  (ybf:W.nsIn K mainGlobals "BadRest"=some (some (.ref yap)))
  (ybg:W.nsIn K mainGlobals "BadRoad"=some (some (.ref yaq)))
  (yaY:W.nsIn K mainGlobals "BadScale"=some (some (.ref yam)))
  (yaD:W.nsIn K mainGlobals "BadSwap"=some (some (.ref yab)))
  (yaz:W.nsIn K mainGlobals "BadWares"=some (some (.ref yaa)))
  (ybh:W.nsIn K mainGlobals "Endless"=some (some (.ref yar)))
  (ybr:W.nsIn K mainGlobals "NoBook"=some (some (.ref yav)))
  (ybs:W.nsIn K mainGlobals "NoLine"=some (some (.ref yaw)))
  (ybt:W.nsIn K mainGlobals "NoName"=some (some (.ref yax)))
  (ybu:W.nsIn K mainGlobals "NoSwap"=some (some (.ref yay)))
  (yaZ:W.nsIn K mainGlobals "NotAlike"=some (some (.ref yan)))
  (ybi:W.nsIn K mainGlobals "NotKept"=some (some (.ref yas)))
  (yaK:W.nsIn K mainGlobals "OtherBook"=some (some (.ref yak)))
  (yaC:W.nsIn K mainGlobals "OtherWares"=some (some (.ref yah)))
  (yaL:W.nsIn K mainGlobals "SwapError"=some (some (.ref yad)))
  (ya0:W.nsIn K mainGlobals "TooGreat"=some (some (.ref yao)))
  (yaE:W.nsIn K mainGlobals "TooMany"=some (some (.ref yac)))
  (a0:W.nsIn K mainGlobals "book_of"=some (some (.ref f0)))
  (q0:FA K f0 "book_of" "book_of" zdr)
  (a1:W.nsIn K mainGlobals "_law_whole"=some (some (.ref f1)))
  (q1:FA K f1 "_law_whole" "_law_whole" zcI)
  (a2:W.nsIn K mainGlobals "_law_same"=some (some (.ref f2)))
  (q2:FA K f2 "_law_same" "_law_same" zck)
  (a3:W.nsIn K mainGlobals "_law_flags"=some (some (.ref f3)))
  (q3:FA K f3 "_law_flags" "_law_flags" zcv)
  (a4:W.nsIn K mainGlobals "_law_only"=some (some (.ref f4)))
  (q4:FA K f4 "_law_only" "_law_only" zcl)
  (a5:W.nsIn K mainGlobals "_law_at"=some (some (.ref f5)))
  (q5:FA K f5 "_law_at" "_law_at" zei)
  (a6:W.nsIn K mainGlobals "_law_number"=some (some (.ref f6)))
  (q6:FA K f6 "_law_number" "_law_number" zch)
  (a7:W.nsIn K mainGlobals "_law_entry"=some (some (.ref f7)))
  (q7:FA K f7 "_law_entry" "_law_entry" zcy)
  (a8:W.nsIn K mainGlobals "_law_wares"=some (some (.ref f8)))
  (q8:FA K f8 "_law_wares" "_law_wares" zcD)
  (a9:W.nsIn K mainGlobals "_law_swaps"=some (some (.ref f9)))
  (q9:FA K f9 "_law_swaps" "_law_swaps" zcb)
  (a10:W.nsIn K mainGlobals "_law_due"=some (some (.ref f10)))
  (q10:FA K f10 "_law_due" "_law_due" zdJ)
  (a11:W.nsIn K mainGlobals "_law_is"=some (some (.ref f11)))
  (q11:FA K f11 "_law_is" "_law_is" zee)
  (a12:W.nsIn K mainGlobals "law"=some (some (.ref f12)))
  (q12:FA K f12 "law" "law" zeH)
  (a13:W.findIn K (.ref yab) "__init__"=some (some (.ref f13)))
  (i13:W.isFn K (.ref f13)=true)
  (q13:FA K f13 "__init__" "BadSwap.__init__" zby)
  (a14:W.findIn K (.ref yaf) "__init__"=some (some (.ref f14)))
  (i14:W.isFn K (.ref f14)=true)
  (q14:FA K f14 "__init__" "Book.__init__" zbE)
  (yby:W.plainGet K yaf Str.empty=true)
  (ybz:W.hasDictIn K yaf=true)
  (ybA:W.plainOver K yaf=true)
  (ybB:W.findIn K (.ref yaf) "__setattr__"=some (some (.builtin "object.__setattr__")))
  (ybL:W.makesIn K yaf=true)
  (ybM:W.keepIn K (.ref yaf)=true)
  (ya1:W.findIn K (.ref yaf) "many"=some none)
  (yaM:W.findIn K (.ref yaf) "swaps"=some none)
  (yaN:W.nsIn K mainGlobals "ValueError"=some none)
  (yb7:W.nsIn K mainGlobals "all"=some none)
  (ybW:W.nsIn K mainGlobals "bool"=some none)
  (ya2:W.nsIn K mainGlobals "enumerate"=some none)
  (yb8:W.nsIn K mainGlobals "int"=some none)
  (yaO:W.nsIn K mainGlobals "isinstance"=some none)
  (yb9:W.nsIn K mainGlobals "len"=some none)
  (ybX:W.nsIn K mainGlobals "list"=some none)
  (yca:W.nsIn K mainGlobals "max"=some none)
  (ycb:W.nsIn K mainGlobals "min"=some none)
  (ybN:W.nsIn K mainGlobals "range"=some none)
  (ycc:W.nsIn K mainGlobals "zip"=some none)
  (g_MOST_WARES:W.nsIn K mainGlobals "MOST_WARES"=some (some (.int 8 yaH)))
  (g_MOST_SWAPS:W.nsIn K mainGlobals "MOST_SWAPS"=some (some (.int 12 yaG)))
  (x_gt:W.specialIn K (.builtin "object.__class__") "__get__"=some (some (.builtin "getset_descriptor.__get__")))
  (x_tk:W.takesIn K (.builtin "object.__class__")=some true)
  (xi_BadWares:W.excIn K yaa [.type "ValueError",.type "Exception",.type "BaseException",.type "object"] "ValueError.__new__"=true)
  (yaP:W.findIn K (.ref yaa) "__getattribute__"=some (some (.builtin "BaseException.__getattribute__")))
  (yaQ:W.findIn K (.ref yaa) "__getattr__"=some none)
  (ya3:W.findIn K (.ref yaa) "__class__"=some (some (.builtin "object.__class__")))
  (ya4:W.mroIn K yaa (.type "object")=some true)
  (ya5:W.mroIn K yaa (.type "BaseException")=some true)
  (ya6:W.subIn K (.ref yaa) (.ref yad)=some true)
  (xi_TooMany:W.excIn K yac [.type "ValueError",.type "Exception",.type "BaseException",.type "object"] "ValueError.__new__"=true)
  (ya7:W.findIn K (.ref yac) "__getattribute__"=some (some (.builtin "BaseException.__getattribute__")))
  (ya8:W.findIn K (.ref yac) "__getattr__"=some none)
  (ybj:W.findIn K (.ref yac) "__class__"=some (some (.builtin "object.__class__")))
  (ybk:W.mroIn K yac (.type "object")=some true)
  (ybl:W.mroIn K yac (.type "BaseException")=some true)
  (ybm:W.subIn K (.ref yac) (.ref yad)=some true)
  (xl_BadSwap:XL K yab yad)
  (xs_BadSwap:W.findIn K (.ref yab) "__setattr__"=some (some (.builtin "object.__setattr__")))
  (xn_BadSwap:W.findIn K (.ref yab) "place"=some none)
  (ya9:W.findIn K (.ref yab) "__getattribute__"=some (some (.builtin "BaseException.__getattribute__")))
  (yba:W.findIn K (.ref yab) "__getattr__"=some none)
  (ybn:W.findIn K (.ref yab) "__class__"=some (some (.builtin "object.__class__")))
  (yaF:W.mroIn K yab (.type "object")=some true)
  (ybo:W.mroIn K yab (.type "BaseException")=some true)
  (ybp:W.subIn K (.ref yab) (.ref yad)=some true)
  (yaR:W.excIn K yad [.type "ValueError",.type "Exception",.type "BaseException",.type "object"] "ValueError.__new__"=true)
  (eb:W.subIn K (.ref yad) (.type "BaseException")=some true)
  (eo:W.mroIn K yad (.type "object")=some true)
  (et:W.typeIn K (.ref yad)=some (.type "type"))
  (i0_BadBasket:W.kitOne K (.type "NoneType") (.ref yaj)=some false)
  (i_BadWares_BadBasket:W.kitOne K (.ref yaa) (.ref yaj)=some false)
  (i_TooMany_BadBasket:W.kitOne K (.ref yac) (.ref yaj)=some false)
  (i_BadSwap_BadBasket:W.kitOne K (.ref yab) (.ref yaj)=some false)
  (i0_BadBaskets:W.kitOne K (.type "NoneType") (.ref yag)=some false)
  (i_BadWares_BadBaskets:W.kitOne K (.ref yaa) (.ref yag)=some false)
  (i_TooMany_BadBaskets:W.kitOne K (.ref yac) (.ref yag)=some false)
  (i_BadSwap_BadBaskets:W.kitOne K (.ref yab) (.ref yag)=some false)
  (i0_BadNames:W.kitOne K (.type "NoneType") (.ref yal)=some false)
  (i_BadWares_BadNames:W.kitOne K (.ref yaa) (.ref yal)=some false)
  (i_TooMany_BadNames:W.kitOne K (.ref yac) (.ref yal)=some false)
  (i_BadSwap_BadNames:W.kitOne K (.ref yab) (.ref yal)=some false)
  (i0_BadRest:W.kitOne K (.type "NoneType") (.ref yap)=some false)
  (i_BadWares_BadRest:W.kitOne K (.ref yaa) (.ref yap)=some false)
  (i_TooMany_BadRest:W.kitOne K (.ref yac) (.ref yap)=some false)
  (i_BadSwap_BadRest:W.kitOne K (.ref yab) (.ref yap)=some false)
  (i0_BadRoad:W.kitOne K (.type "NoneType") (.ref yaq)=some false)
  (i_BadWares_BadRoad:W.kitOne K (.ref yaa) (.ref yaq)=some false)
  (i_TooMany_BadRoad:W.kitOne K (.ref yac) (.ref yaq)=some false)
  (i_BadSwap_BadRoad:W.kitOne K (.ref yab) (.ref yaq)=some false)
  (i0_BadScale:W.kitOne K (.type "NoneType") (.ref yam)=some false)
  (i_BadWares_BadScale:W.kitOne K (.ref yaa) (.ref yam)=some false)
  (i_TooMany_BadScale:W.kitOne K (.ref yac) (.ref yam)=some false)
  (i_BadSwap_BadScale:W.kitOne K (.ref yab) (.ref yam)=some false)
  (i0_BadSwap:W.kitOne K (.type "NoneType") (.ref yab)=some false)
  (i_BadWares_BadSwap:W.kitOne K (.ref yaa) (.ref yab)=some false)
  (i_TooMany_BadSwap:W.kitOne K (.ref yac) (.ref yab)=some false)
  (i_BadSwap_BadSwap:W.kitOne K (.ref yab) (.ref yab)=some true)
  (i0_BadWares:W.kitOne K (.type "NoneType") (.ref yaa)=some false)
  (i_BadWares_BadWares:W.kitOne K (.ref yaa) (.ref yaa)=some true)
  (i_TooMany_BadWares:W.kitOne K (.ref yac) (.ref yaa)=some false)
  (i_BadSwap_BadWares:W.kitOne K (.ref yab) (.ref yaa)=some false)
  (i0_Endless:W.kitOne K (.type "NoneType") (.ref yar)=some false)
  (i_BadWares_Endless:W.kitOne K (.ref yaa) (.ref yar)=some false)
  (i_TooMany_Endless:W.kitOne K (.ref yac) (.ref yar)=some false)
  (i_BadSwap_Endless:W.kitOne K (.ref yab) (.ref yar)=some false)
  (i0_NoBook:W.kitOne K (.type "NoneType") (.ref yav)=some false)
  (i_BadWares_NoBook:W.kitOne K (.ref yaa) (.ref yav)=some false)
  (i_TooMany_NoBook:W.kitOne K (.ref yac) (.ref yav)=some false)
  (i_BadSwap_NoBook:W.kitOne K (.ref yab) (.ref yav)=some false)
  (i0_NoLine:W.kitOne K (.type "NoneType") (.ref yaw)=some false)
  (i_BadWares_NoLine:W.kitOne K (.ref yaa) (.ref yaw)=some false)
  (i_TooMany_NoLine:W.kitOne K (.ref yac) (.ref yaw)=some false)
  (i_BadSwap_NoLine:W.kitOne K (.ref yab) (.ref yaw)=some false)
  (i0_NoName:W.kitOne K (.type "NoneType") (.ref yax)=some false)
  (i_BadWares_NoName:W.kitOne K (.ref yaa) (.ref yax)=some false)
  (i_TooMany_NoName:W.kitOne K (.ref yac) (.ref yax)=some false)
  (i_BadSwap_NoName:W.kitOne K (.ref yab) (.ref yax)=some false)
  (i0_NoSwap:W.kitOne K (.type "NoneType") (.ref yay)=some false)
  (i_BadWares_NoSwap:W.kitOne K (.ref yaa) (.ref yay)=some false)
  (i_TooMany_NoSwap:W.kitOne K (.ref yac) (.ref yay)=some false)
  (i_BadSwap_NoSwap:W.kitOne K (.ref yab) (.ref yay)=some false)
  (i0_NotAlike:W.kitOne K (.type "NoneType") (.ref yan)=some false)
  (i_BadWares_NotAlike:W.kitOne K (.ref yaa) (.ref yan)=some false)
  (i_TooMany_NotAlike:W.kitOne K (.ref yac) (.ref yan)=some false)
  (i_BadSwap_NotAlike:W.kitOne K (.ref yab) (.ref yan)=some false)
  (i0_NotKept:W.kitOne K (.type "NoneType") (.ref yas)=some false)
  (i_BadWares_NotKept:W.kitOne K (.ref yaa) (.ref yas)=some false)
  (i_TooMany_NotKept:W.kitOne K (.ref yac) (.ref yas)=some false)
  (i_BadSwap_NotKept:W.kitOne K (.ref yab) (.ref yas)=some false)
  (i0_OtherBook:W.kitOne K (.type "NoneType") (.ref yak)=some false)
  (i_BadWares_OtherBook:W.kitOne K (.ref yaa) (.ref yak)=some false)
  (i_TooMany_OtherBook:W.kitOne K (.ref yac) (.ref yak)=some false)
  (i_BadSwap_OtherBook:W.kitOne K (.ref yab) (.ref yak)=some false)
  (i0_OtherWares:W.kitOne K (.type "NoneType") (.ref yah)=some false)
  (i_BadWares_OtherWares:W.kitOne K (.ref yaa) (.ref yah)=some false)
  (i_TooMany_OtherWares:W.kitOne K (.ref yac) (.ref yah)=some false)
  (i_BadSwap_OtherWares:W.kitOne K (.ref yab) (.ref yah)=some false)
  (i0_TooGreat:W.kitOne K (.type "NoneType") (.ref yao)=some false)
  (i_BadWares_TooGreat:W.kitOne K (.ref yaa) (.ref yao)=some false)
  (i_TooMany_TooGreat:W.kitOne K (.ref yac) (.ref yao)=some false)
  (i_BadSwap_TooGreat:W.kitOne K (.ref yab) (.ref yao)=some false)
  (i0_TooMany:W.kitOne K (.type "NoneType") (.ref yac)=some false)
  (i_BadWares_TooMany:W.kitOne K (.ref yaa) (.ref yac)=some false)
  (i_TooMany_TooMany:W.kitOne K (.ref yac) (.ref yac)=some true)
  (i_BadSwap_TooMany:W.kitOne K (.ref yab) (.ref yac)=some false)
  (i0_ValueError:W.kitOne K (.type "NoneType") (.type "ValueError")=some false)
  (i_BadWares_ValueError:W.kitOne K (.ref yaa) (.type "ValueError")=some true)
  (i_TooMany_ValueError:W.kitOne K (.ref yac) (.type "ValueError")=some true)
  (i_BadSwap_ValueError:W.kitOne K (.ref yab) (.type "ValueError")=some true)
  (kit_int_bool:W.kitOne K (.type "int") (.type "bool")=some false)
  (kit_int_int:W.kitOne K (.type "int") (.type "int")=some true)
  (kit_list_list:W.kitOne K (.type "list") (.type "list")=some true)
  (ybO:W.findIn K (.ref yaf) "__class__"=some (some (.builtin "object.__class__")))
  (ybP:W.mroIn K yaf (.type "object")=some true)
  (ybQ:W.kitOne K (.ref yaf) (.ref yaf)=some true) :
  ∃ fd:FuncData,(∀ (s:Shared) (v:Value),BindsTo s fd ⟨[v],[]⟩ [("_law_script",v)])∧∀ base:Heap,K.In base->base.Ns mainGlobals mg->FnOk l.prog w K mg base (CXE l.prog w) 4 fa fd ["_law_script"] (zhZ K):=by
 have e:=hfa.symm.trans (W.mg_of X G a12)
 cases e
 have ybR:=q0.f
 have ycg:=ybR.binds (ps:=["many","swaps"]) λ_ _ _ _ _ _ us hl=>match us,hl with | [_,_],_=>rfl
 have ych:=W.mg_of X G a0
 have ybC:=q1.f
 have yb1:=ybC.binds (ps:=["_law_found"]) λ_ _ _ _ _ _ us hl=>match us,hl with | [_],_=>rfl
 have zap:=W.mg_of X G a1
 have ybI:=q2.f
 have ycd:=ybI.binds (ps:=["_law_found","_law_due_here"]) λ_ _ _ _ _ _ us hl=>match us,hl with | [_,_],_=>rfl
 have za9:=W.mg_of X G a2
 have ybD:=q3.f
 have yb2:=ybD.binds (ps:=["_law_caught"]) λ_ _ _ _ _ _ us hl=>match us,hl with | [_],_=>rfl
 have zaW:=W.mg_of X G a3
 have ybJ:=q4.f
 have yce:=ybJ.binds (ps:=["_law_caught","_law_name"]) λ_ _ _ _ _ _ us hl=>match us,hl with | [_,_],_=>rfl
 have zav:=W.mg_of X G a4
 have ybY:=q5.f
 have ycj:=ybY.binds (ps:=["_law_script","_law_k"]) λ_ _ _ _ _ _ us hl=>match us,hl with | [_,_],_=>rfl
 have zaj:=W.mg_of X G a5
 have ybv:=q6.f
 have ybZ:=ybv.binds (ps:=["_law_cell","_law_most"]) λ_ _ _ _ _ _ us hl=>match us,hl with | [_,_],_=>rfl
 have zbv:=W.mg_of X G a6
 have ybE:=q7.f
 have yb3:=ybE.binds (ps:=["_law_script","_law_k","_law_most"]) λ_ _ _ _ _ _ us hl=>match us,hl with | [_,_,_],_=>rfl
 have zaU:=W.mg_of X G a7
 have ybF:=q8.f
 have yb4:=ybF.binds (ps:=["_law_cell"]) λ_ _ _ _ _ _ us hl=>match us,hl with | [_],_=>rfl
 have zbh:=W.mg_of X G a8
 have ybG:=q9.f
 have yb5:=ybG.binds (ps:=["_law_script","_law_wares_here"]) λ_ _ _ _ _ _ us hl=>match us,hl with | [_,_],_=>rfl
 have zaD:=W.mg_of X G a9
 have ybS:=q10.f
 have yci:=ybS.binds (ps:=["_law_wares_here","_law_swaps_here"]) λ_ _ _ _ _ _ us hl=>match us,hl with | [_,_],_=>rfl
 have zaJ:=W.mg_of X G a10
 have yb0:=q11.f
 have yck:=yb0.binds (ps:=["_law_book","_law_wares_here","_law_swaps_here"]) λ_ _ _ _ _ _ us hl=>match us,hl with | [_,_,_],_=>rfl
 have zbr:=W.mg_of X G a11
 obtain ⟨_,kV12,dc12,pm12,cd12,ct12,_,an12,_,l12,c12,k12⟩:=q12
 have ycl:=zh6 (st:=zeH) l12 c12 k12
 have ycm:=ycl.binds (ps:=["_law_script"]) λ_ _ _ _ _ _ us hl=>match us,hl with | [_],_=>rfl
 have zfn:=W.mg_of X G a12
 have yaA:=q13.f
 have ybw:=yaA.binds (ps:=["self","place"]) λ_ _ _ _ _ _ us hl=>match us,hl with | [_,_],_=>rfl
 have yaS:=q14.f
 have yau:=yaS.binds (ps:=["self","many","swaps"]) λ_ _ _ _ _ _ us hl=>match us,hl with | [_,_,_],_=>rfl
 have T:Txt K mg ⟨(),yaf,yaa,yac,yab,f13,yaj,yag,yal,yap,yaq,yam,yab,yaa,yar,yav,yaw,yax,yay,yan,yas,yak,yah,yad,yao,yac⟩:=⟨W.mg_none_of X G yaN,W.mg_none_of X G yb7,W.mg_none_of X G ybW,W.mg_none_of X G ya2,W.mg_none_of X G yb8,W.mg_none_of X G yaO,W.mg_none_of X G yb9,W.mg_none_of X G ybX,W.mg_none_of X G yca,W.mg_none_of X G ycb,W.mg_none_of X G ybN,W.mg_none_of X G ycc,W.mg_of X G ybK,⟨yby,ybz,ybA,ybB⟩,ya1,yaM,⟨yaH,W.mg_of X G g_MOST_WARES⟩,⟨yaG,W.mg_of X G g_MOST_SWAPS⟩,W.mg_of X G yaJ,W.mg_of X G yaB,W.mg_of X G yaX,W.mg_of X G ybf,W.mg_of X G ybg,W.mg_of X G yaY,W.mg_of X G yaD,W.mg_of X G yaz,W.mg_of X G ybh,W.mg_of X G ybr,W.mg_of X G ybs,W.mg_of X G ybt,W.mg_of X G ybu,W.mg_of X G yaZ,W.mg_of X G ybi,W.mg_of X G yaK,W.mg_of X G yaC,W.mg_of X G yaL,W.mg_of X G ya0,W.mg_of X G yaE,W.mg_of X G yaz,xi_BadWares,⟨yaP,yaQ,ya3,ya4,ya5,x_gt,x_tk⟩,exm_of eb eo et ya6,W.mg_of X G yaE,xi_TooMany,⟨ya7,ya8,ybj,ybk,ybl,x_gt,x_tk⟩,exm_of eb eo et ybm,W.mg_of X G yaD,⟨xl_BadSwap,yaR,a13,i13,xs_BadSwap,xn_BadSwap,yaF⟩,⟨ya9,yba,ybn,yaF,ybo,x_gt,x_tk⟩,exm_of eb eo et ybp,i0_BadBasket,i_BadWares_BadBasket,i_TooMany_BadBasket,i_BadSwap_BadBasket,i0_BadBaskets,i_BadWares_BadBaskets,i_TooMany_BadBaskets,i_BadSwap_BadBaskets,i0_BadNames,i_BadWares_BadNames,i_TooMany_BadNames,i_BadSwap_BadNames,i0_BadRest,i_BadWares_BadRest,i_TooMany_BadRest,i_BadSwap_BadRest,i0_BadRoad,i_BadWares_BadRoad,i_TooMany_BadRoad,i_BadSwap_BadRoad,i0_BadScale,i_BadWares_BadScale,i_TooMany_BadScale,i_BadSwap_BadScale,i0_BadSwap,i_BadWares_BadSwap,i_TooMany_BadSwap,i_BadSwap_BadSwap,i0_BadWares,i_BadWares_BadWares,i_TooMany_BadWares,i_BadSwap_BadWares,i0_Endless,i_BadWares_Endless,i_TooMany_Endless,i_BadSwap_Endless,i0_NoBook,i_BadWares_NoBook,i_TooMany_NoBook,i_BadSwap_NoBook,i0_NoLine,i_BadWares_NoLine,i_TooMany_NoLine,i_BadSwap_NoLine,i0_NoName,i_BadWares_NoName,i_TooMany_NoName,i_BadSwap_NoName,i0_NoSwap,i_BadWares_NoSwap,i_TooMany_NoSwap,i_BadSwap_NoSwap,i0_NotAlike,i_BadWares_NotAlike,i_TooMany_NotAlike,i_BadSwap_NotAlike,i0_NotKept,i_BadWares_NotKept,i_TooMany_NotKept,i_BadSwap_NotKept,i0_OtherBook,i_BadWares_OtherBook,i_TooMany_OtherBook,i_BadSwap_OtherBook,i0_OtherWares,i_BadWares_OtherWares,i_TooMany_OtherWares,i_BadSwap_OtherWares,i0_TooGreat,i_BadWares_TooGreat,i_TooMany_TooGreat,i_BadSwap_TooGreat,i0_TooMany,i_BadWares_TooMany,i_TooMany_TooMany,i_BadSwap_TooMany,i0_ValueError,i_BadWares_ValueError,i_TooMany_ValueError,i_BadSwap_ValueError,kit_int_bool,kit_int_int,kit_list_list,⟨⟨yby,ybz,ybA,ybB⟩,ybO,x_gt,x_tk,ybP,ybQ⟩⟩
 refine ⟨W.fnOf "law" "law" (zcG zeH) (zbK zeH) (zah zeH) .none kV12 dc12 pm12 an12 cd12 ct12,λs v=>.of_eq rfl,λbase _ _=>?_⟩
 have ybT:Mk K yaf f14:=⟨ybL,a14,i14,ybM⟩
 have ybx:=zcw (P:=l.prog) (w:=w) (base:=base) yaA T
 have yat:=zdc (P:=l.prog) (w:=w) (base:=base) yaS T
 have ybe:=cm l w base (zfd ybR T  ybT yat yau  ybx ybw) ych q0.k ycg
 have yae:=cm l w base (zeE ybC T  ) zap q1.k yb1
 have ybb:=cm l w base (zfe ybI T yae ) za9 q2.k ycd
 have yaT:=cm l w base (zev ybD T  ) zaW q3.k yb2
 have ybd:=cm l w base (ze7 ybJ T yaT ) zav q4.k yce
 have yai:=cm l w base (zgF ybY T  ) zaj q5.k ycj
 have yaI:=cm l w base (zek ybv T  ) zbv q6.k ybZ
 have yaU:=cm l w base (zen ybE T  ) zaU q7.k yb3
 have yaW:=cm l w base (zeC ybF T yaI ) zbh q8.k yb4
 have yaV:=cm l w base (zey ybG T yai yaU ) zaD q9.k yb5
 have ybq:=cm l w base (zf5 ybS T  ) zaJ q10.k yci
 have ybc:=cm l w base (zhb yb0 T ybb yae ) zbr q11.k yck
 exact (zjp ycl T yai ybq ybc ybd yaV yaW yae ybe).imp λ_ _ _ _ q=>zki q
theorem zlm {l:W.OpenLaw} {q:Program} {loose:List Str} {XP:(Str->Option Value)->Heap->Prop} {YP:World->Heap->Prop} {d:DefRec} {K:Params->W.Frag} (hn:l.most=some 63) (hdf:d.params.defaults=[])
  (hY:∀ (w:World) (h:Heap),YP w h->(K w.params).In h)
  (F:∀ (w:World) (mg:Str->Option Value) (fa:Addr) (h:Heap),(K w.params).In h->h.Ns mainGlobals mg->mg d.name=some (.ref fa) →
   ∃ fd:FuncData,(∀ (s:Shared) (u:Value),BindsTo s fd ⟨[u],[]⟩ [("_law_script",u)])∧∀ base:Heap,(K w.params).In base->base.Ns mainGlobals mg->FnOk l.prog w (K w.params) mg base (CXE l.prog w) 4 fa fd ["_law_script"] (zhZ (K w.params))) :
  W.WalkO q loose XP YP l.row.toRowW d [] (λf vs=>PySem.call f vs) :=
 L2.zi7 (n:=63) (k:=4) (x:="_law_script") (CX:=λw=>CXE l.prog w) (sp:=λw=>zhZ (K w.params)) hn (by decide) hdf ⟨rfl,by decide,by decide⟩ hY F (λ_ _ a ns hl _ hS=>⟨a,ns,rfl,hS,hl,λ_=>rfl⟩) λ_ _ _ _ _ ⟨_,_,_,_,_,_,_,_,_,_,z⟩=>z
end
end My
section
open PySem PySem.W PyProof.Rows
set_option maxRecDepth 100000 in
set_option maxHeartbeats 0 in
theorem PySem.Challenge.cw_swapbook_k03_a_book_holds : PySem.Challenge.rw_swapbook_k03_a_book.Holds := by
 refine My.headT ?hc
 k_fill
 refine My.zlm (l:=PySem.Challenge.rw_swapbook_k03_a_book) rfl rfl (λw h Y=>W.kIn_of Y) ?F
 case F =>
  intro w mg fa h KX G hmg
  refine' My.zke KX G hmg ?ybK ?yaJ ?yaB ?yaX ?ybf ?ybg ?yaY ?yaD ?yaz ?ybh ?ybr ?ybs ?ybt ?ybu ?yaZ ?ybi ?yaK ?yaC ?yaL ?ya0 ?yaE ?a0 ?q0 ?a1 ?q1 ?a2 ?q2 ?a3 ?q3 ?a4 ?q4 ?a5 ?q5 ?a6 ?q6 ?a7 ?q7 ?a8 ?q8 ?a9 ?q9 ?a10 ?q10 ?a11 ?q11 ?a12 ?q12 ?a13 ?i13 ?q13 ?a14 ?i14 ?q14 ?yby ?ybz ?ybA ?ybB ?ybL ?ybM ?ya1 ?yaM ?yaN ?yb7 ?ybW ?ya2 ?yb8 ?yaO ?yb9 ?ybX ?yca ?ycb ?ybN ?ycc ?g_MOST_WARES ?g_MOST_SWAPS ?x_gt ?x_tk ?xi_BadWares ?yaP ?yaQ ?ya3 ?ya4 ?ya5 ?ya6 ?xi_TooMany ?ya7 ?ya8 ?ybj ?ybk ?ybl ?ybm ?xl_BadSwap ?xs_BadSwap ?xn_BadSwap ?ya9 ?yba ?ybn ?yaF ?ybo ?ybp ?yaR ?eb ?eo ?et ?i0_BadBasket ?i_BadWares_BadBasket ?i_TooMany_BadBasket ?i_BadSwap_BadBasket ?i0_BadBaskets ?i_BadWares_BadBaskets ?i_TooMany_BadBaskets ?i_BadSwap_BadBaskets ?i0_BadNames ?i_BadWares_BadNames ?i_TooMany_BadNames ?i_BadSwap_BadNames ?i0_BadRest ?i_BadWares_BadRest ?i_TooMany_BadRest ?i_BadSwap_BadRest ?i0_BadRoad ?i_BadWares_BadRoad ?i_TooMany_BadRoad ?i_BadSwap_BadRoad ?i0_BadScale ?i_BadWares_BadScale ?i_TooMany_BadScale ?i_BadSwap_BadScale ?i0_BadSwap ?i_BadWares_BadSwap ?i_TooMany_BadSwap ?i_BadSwap_BadSwap ?i0_BadWares ?i_BadWares_BadWares ?i_TooMany_BadWares ?i_BadSwap_BadWares ?i0_Endless ?i_BadWares_Endless ?i_TooMany_Endless ?i_BadSwap_Endless ?i0_NoBook ?i_BadWares_NoBook ?i_TooMany_NoBook ?i_BadSwap_NoBook ?i0_NoLine ?i_BadWares_NoLine ?i_TooMany_NoLine ?i_BadSwap_NoLine ?i0_NoName ?i_BadWares_NoName ?i_TooMany_NoName ?i_BadSwap_NoName ?i0_NoSwap ?i_BadWares_NoSwap ?i_TooMany_NoSwap ?i_BadSwap_NoSwap ?i0_NotAlike ?i_BadWares_NotAlike ?i_TooMany_NotAlike ?i_BadSwap_NotAlike ?i0_NotKept ?i_BadWares_NotKept ?i_TooMany_NotKept ?i_BadSwap_NotKept ?i0_OtherBook ?i_BadWares_OtherBook ?i_TooMany_OtherBook ?i_BadSwap_OtherBook ?i0_OtherWares ?i_BadWares_OtherWares ?i_TooMany_OtherWares ?i_BadSwap_OtherWares ?i0_TooGreat ?i_BadWares_TooGreat ?i_TooMany_TooGreat ?i_BadSwap_TooGreat ?i0_TooMany ?i_BadWares_TooMany ?i_TooMany_TooMany ?i_BadSwap_TooMany ?i0_ValueError ?i_BadWares_ValueError ?i_TooMany_ValueError ?i_BadSwap_ValueError ?kit_int_bool ?kit_int_int ?kit_list_list ?ybO ?ybP ?ybQ
  (case ybK=>k_is)
  (case yaJ=>k_is)
  (case yaB=>k_is)
  (case yaX=>k_is)
  (case ybf=>k_is)
  (case ybg=>k_is)
  (case yaY=>k_is)
  (case yaD=>k_is)
  (case yaz=>k_is)
  (case ybh=>k_is)
  (case ybr=>k_is)
  (case ybs=>k_is)
  (case ybt=>k_is)
  (case ybu=>k_is)
  (case yaZ=>k_is)
  (case ybi=>k_is)
  (case yaK=>k_is)
  (case yaC=>k_is)
  (case yaL=>k_is)
  (case ya0=>k_is)
  (case yaE=>k_is)
  (case a0=>k_is)
  (case q0=>apply L2.FA.m<;>k_is)
  (case a1=>k_is)
  (case q1=>apply L2.FA.m<;>k_is)
  (case a2=>k_is)
  (case q2=>apply L2.FA.m<;>k_is)
  (case a3=>k_is)
  (case q3=>apply L2.FA.m<;>k_is)
  (case a4=>k_is)
  (case q4=>apply L2.FA.m<;>k_is)
  (case a5=>k_is)
  (case q5=>apply L2.FA.m<;>k_is)
  (case a6=>k_is)
  (case q6=>apply L2.FA.m<;>k_is)
  (case a7=>k_is)
  (case q7=>apply L2.FA.m<;>k_is)
  (case a8=>k_is)
  (case q8=>apply L2.FA.m<;>k_is)
  (case a9=>k_is)
  (case q9=>apply L2.FA.m<;>k_is)
  (case a10=>k_is)
  (case q10=>apply L2.FA.m<;>k_is)
  (case a11=>k_is)
  (case q11=>apply L2.FA.m<;>k_is)
  (case a12=>k_is)
  (case q12=>apply L2.FA.m<;>k_is)
  (case a13=>k_is)
  (case i13=>k_is)
  (case q13=>apply L2.FA.m<;>k_is)
  (case a14=>k_is)
  (case i14=>k_is)
  (case q14=>apply L2.FA.m<;>k_is)
  (case yby=>k_is)
  (case ybz=>k_is)
  (case ybA=>k_is)
  (case ybB=>k_is)
  (case ybL=>k_is)
  (case ybM=>k_is)
  (case ya1=>k_is)
  (case yaM=>k_is)
  (case yaN=>k_is)
  (case yb7=>k_is)
  (case ybW=>k_is)
  (case ya2=>k_is)
  (case yb8=>k_is)
  (case yaO=>k_is)
  (case yb9=>k_is)
  (case ybX=>k_is)
  (case yca=>k_is)
  (case ycb=>k_is)
  (case ybN=>k_is)
  (case ycc=>k_is)
  (case g_MOST_WARES=>k_is)
  (case g_MOST_SWAPS=>k_is)
  (case x_gt=>k_is)
  (case x_tk=>k_is)
  (case xi_BadWares=>k_exc)
  (case yaP=>k_is)
  (case yaQ=>k_is)
  (case ya3=>k_is)
  (case ya4=>k_is)
  (case ya5=>k_is)
  (case ya6=>k_is)
  (case xi_TooMany=>k_exc)
  (case ya7=>k_is)
  (case ya8=>k_is)
  (case ybj=>k_is)
  (case ybk=>k_is)
  (case ybl=>k_is)
  (case ybm=>k_is)
  (case xl_BadSwap=>apply L2.XL.m<;>k_is)
  (case xs_BadSwap=>k_is)
  (case xn_BadSwap=>k_is)
  (case ya9=>k_is)
  (case yba=>k_is)
  (case ybn=>k_is)
  (case yaF=>k_is)
  (case ybo=>k_is)
  (case ybp=>k_is)
  (case yaR=>k_exc)
  (case eb=>k_is)
  (case eo=>k_is)
  (case et=>k_is)
  (case i0_BadBasket=>kit_is)
  (case i_BadWares_BadBasket=>kit_is)
  (case i_TooMany_BadBasket=>kit_is)
  (case i_BadSwap_BadBasket=>kit_is)
  (case i0_BadBaskets=>kit_is)
  (case i_BadWares_BadBaskets=>kit_is)
  (case i_TooMany_BadBaskets=>kit_is)
  (case i_BadSwap_BadBaskets=>kit_is)
  (case i0_BadNames=>kit_is)
  (case i_BadWares_BadNames=>kit_is)
  (case i_TooMany_BadNames=>kit_is)
  (case i_BadSwap_BadNames=>kit_is)
  (case i0_BadRest=>kit_is)
  (case i_BadWares_BadRest=>kit_is)
  (case i_TooMany_BadRest=>kit_is)
  (case i_BadSwap_BadRest=>kit_is)
  (case i0_BadRoad=>kit_is)
  (case i_BadWares_BadRoad=>kit_is)
  (case i_TooMany_BadRoad=>kit_is)
  (case i_BadSwap_BadRoad=>kit_is)
  (case i0_BadScale=>kit_is)
  (case i_BadWares_BadScale=>kit_is)
  (case i_TooMany_BadScale=>kit_is)
  (case i_BadSwap_BadScale=>kit_is)
  (case i0_BadSwap=>kit_is)
  (case i_BadWares_BadSwap=>kit_is)
  (case i_TooMany_BadSwap=>kit_is)
  (case i_BadSwap_BadSwap=>kit_is)
  (case i0_BadWares=>kit_is)
  (case i_BadWares_BadWares=>kit_is)
  (case i_TooMany_BadWares=>kit_is)
  (case i_BadSwap_BadWares=>kit_is)
  (case i0_Endless=>kit_is)
  (case i_BadWares_Endless=>kit_is)
  (case i_TooMany_Endless=>kit_is)
  (case i_BadSwap_Endless=>kit_is)
  (case i0_NoBook=>kit_is)
  (case i_BadWares_NoBook=>kit_is)
  (case i_TooMany_NoBook=>kit_is)
  (case i_BadSwap_NoBook=>kit_is)
  (case i0_NoLine=>kit_is)
  (case i_BadWares_NoLine=>kit_is)
  (case i_TooMany_NoLine=>kit_is)
  (case i_BadSwap_NoLine=>kit_is)
  (case i0_NoName=>kit_is)
  (case i_BadWares_NoName=>kit_is)
  (case i_TooMany_NoName=>kit_is)
  (case i_BadSwap_NoName=>kit_is)
  (case i0_NoSwap=>kit_is)
  (case i_BadWares_NoSwap=>kit_is)
  (case i_TooMany_NoSwap=>kit_is)
  (case i_BadSwap_NoSwap=>kit_is)
  (case i0_NotAlike=>kit_is)
  (case i_BadWares_NotAlike=>kit_is)
  (case i_TooMany_NotAlike=>kit_is)
  (case i_BadSwap_NotAlike=>kit_is)
  (case i0_NotKept=>kit_is)
  (case i_BadWares_NotKept=>kit_is)
  (case i_TooMany_NotKept=>kit_is)
  (case i_BadSwap_NotKept=>kit_is)
  (case i0_OtherBook=>kit_is)
  (case i_BadWares_OtherBook=>kit_is)
  (case i_TooMany_OtherBook=>kit_is)
  (case i_BadSwap_OtherBook=>kit_is)
  (case i0_OtherWares=>kit_is)
  (case i_BadWares_OtherWares=>kit_is)
  (case i_TooMany_OtherWares=>kit_is)
  (case i_BadSwap_OtherWares=>kit_is)
  (case i0_TooGreat=>kit_is)
  (case i_BadWares_TooGreat=>kit_is)
  (case i_TooMany_TooGreat=>kit_is)
  (case i_BadSwap_TooGreat=>kit_is)
  (case i0_TooMany=>kit_is)
  (case i_BadWares_TooMany=>kit_is)
  (case i_TooMany_TooMany=>kit_is)
  (case i_BadSwap_TooMany=>kit_is)
  (case i0_ValueError=>kit_is)
  (case i_BadWares_ValueError=>kit_is)
  (case i_TooMany_ValueError=>kit_is)
  (case i_BadSwap_ValueError=>kit_is)
  (case kit_int_bool=>kit_is)
  (case kit_int_int=>kit_is)
  (case kit_list_list=>kit_is)
  (case ybO=>k_is)
  (case ybP=>k_is)
  (case ybQ=>kit_is)
end
