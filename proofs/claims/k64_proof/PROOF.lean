import PyProof.Rows.All
import Wide.All
import OpenK.AllK
import Wide.FinOn
import Lean
import PyProof.EqAt
import PyProof.EqKinds
import PyProof.TupleCall
import PySem.Challenge.RW_swapbook_k64_whole_books_between_books
set_option Elab.async false
set_option linter.all false
set_option maxRecDepth 100000
namespace Hd
open PySem PySem.W PyProof.Rows
def runT (p:Program) (w:World) (m:Nat) (a:Option Value):Nat->SharedT->Thread->Option SharedT
 | 0,_,_=>none
 | n+1,s,t=>match through t with
  | true=>some s
  | false=>match stepOk m a t with
   | true=>(match stepT (denote treeTable) p w s t with
    | some x=>runT p w m a n x.1 x.2
    | none=>none)
   | false=>none
theorem zor {p:Program} {w:World} {m:Nat} {a:Option Value}:∀ {n:Nat} {s z:SharedT} {t:Thread},runT p w m a n s t=some z->topRun treeTable p w m a n s.abs t=some z.abs
 | 0,_,_,_,h=>by cases h
 | n+1,s,z,t,h=>by
  rw [runT] at h
  rw [topRun]
  cases h1:through t<;>rw [h1] at h
  ·cases h2:stepOk m a t<;>rw [h2] at h
   ·cases h
   ·cases h3:stepT (denote treeTable) p w s t with
    | none=>rw [h3] at h;cases h
    | some x=>rw [h3] at h;rw [stepT_spec (s':=x.1) (t':=x.2) h3];exact zor h
  ·cases h;rfl
def tr:List Obj->Nat->BT->BT
 | [],_,t=>t
 | o :: r,n,t=>tr r (n+1) (t.ins n o)
noncomputable def boot (P:Params) (os:OsState):SharedT:=⟨tr (boot_heap P).objs.toList 0 .nil,11,(boot_heap P).life,Array.mk [],boot_drawn,boot_toks,os⟩
theorem zog (P:Params) (os:OsState):(boot P os).abs=⟨boot_heap P,Array.mk [],boot_drawn,boot_toks,os⟩:=by kernel_rfl
theorem zpX (P:Params):((boot_heap P).isNs mainGlobals&&(Array.mk ([]:List GenState)).size == 0)=true:=by kernel_rfl
theorem zpe (P:Params):(boot_heap P).objs.size=11:=by kernel_rfl
theorem zoR (P:Params):(boot_heap P).nsMap mainGlobals "__annotations__"=some (.ref 6):=by kernel_rfl
noncomputable def lk (p:Program) (w:World) (s:Shared):Bool:=staticsOk (importedModules p.main.body) (boot_heap w.params) s.heap&&namesBound p s.heap&&gensDone s&&laidKept (boot_heap w.params) s.heap
def getT (s:SharedT) (a:Nat):Option Obj:=match Nat.blt a s.n with
 | true=>alive ((s.tree.get a).getD default)
 | false=>none
theorem zpT (s:SharedT) (a:Nat):s.abs.heap.get? a=getT s a:=by
 show (absHeap s.tree s.n s.life).get? a=_
 unfold Heap.get? getT
 rw [absHeap_at]
 by_cases h:a<s.n
 ·have e:Nat.blt a s.n=true:=by simpa [Nat.blt_eq] using h
  rw [if_pos h,e]
  generalize (s.tree.get a).getD default=o
  obtain ⟨c,d,dt,sl⟩:=o
  cases dt<;>rfl
 ·have e:Nat.blt a s.n=false:=by
   cases q:Nat.blt a s.n with
   | false=>rfl
   | true=>exact absurd (by simpa [Nat.blt_eq] using q) h
  rw [if_neg h,e]
theorem y_is (as:List Addr) (s:SharedT):as.map s.abs.heap.get?=as.map (getT s):=by
 congr 1
 funext a
 exact zpT s a
theorem left_of {p q:Program} {loose:List Str} {Xt:Shared->Bool} {α:Type} {Yf:Shared->α} {Ya:World->α} {N:Nat} {g0:Bool} {YT:SharedT->α}
  (e:opening p=plainProg p.main.scope.names) (hN:Nat.ble 600 N=true) (f:∀ s,fenceModules? p s=some s) (hy:∀ s:SharedT,Yf s.abs=YT s)
  (h:∀ w os,(runT p w 11 (some (.ref 6)) N (boot w.params os) (topStub p)).map (λs=>(lk p w s.abs,openSeen q loose (importedModules p.main.body) Xt g0 s.abs,YT s))=some (true,openGood q loose,Ya w)):LeftO p q loose Xt Yf Ya N g0:=λw=>by
 obtain ⟨s,h1,h2⟩:=Option.map_eq_some_iff.mp (boot_open e hN f w)
 obtain ⟨hp,gs,dr,tk,os⟩:=s
 have h3:hp=boot_heap w.params∧gs=Array.mk []∧dr=boot_drawn∧tk=boot_toks:=by simpa using h2
 obtain ⟨rfl,rfl,rfl,rfl⟩:=h3
 obtain ⟨z,h4,h5⟩:=Option.map_eq_some_iff.mp (h w os)
 have h6:=zor h4
 rw [zog] at h6
 obtain ⟨l1,l2,l3⟩:_∧_∧_:=by simpa only [Prod.mk.injEq] using h5
 unfold openEnds
 rw [h1]
 show (topFrom treeTable p w N _).map _=_
 have h7:topFrom treeTable p w N ⟨boot_heap w.params,Array.mk [],boot_drawn,boot_toks,os⟩=some z.abs:=by
  unfold topFrom
  dsimp only
  rw [zpX,zpe,zoR,h6]
  show (match lk p w z.abs with | true=>_ | false=>_)=_
  rw [l1]
 rw [h7]
 exact congrArg some (Prod.ext l2 ((hy z).trans l3))
end Hd
set_option maxRecDepth 100000
namespace My
open PySem PySem.W PyProof.Rows
noncomputable def hdF (q:Program) (as:List Addr) (N:Nat) (w:World) (os:OsState) :=
 (Hd.runT PySem.Challenge.rw_swapbook_k64_whole_books_between_books.row.prog w 11 (some (.ref 6)) N (Hd.boot w.params os) (topStub PySem.Challenge.rw_swapbook_k64_whole_books_between_books.row.prog)).map (λs=>(Hd.lk PySem.Challenge.rw_swapbook_k64_whole_books_between_books.row.prog w s.abs,
  openSeen q [] (importedModules PySem.Challenge.rw_swapbook_k64_whole_books_between_books.row.prog.main.body) (λs=>xlAt q [] s&&recOk (RowW.records PySem.Challenge.rw_swapbook_k64_whole_books_between_books.row.toRowW) s) true s.abs,as.map (Hd.getT s)))
noncomputable def hdG (q:Program) (K:Params->Frag) (w:World):=some (true,openGood q [],(K w.params).map λp=>some p.2)
end My
set_option Elab.async false
lay_quick My.hdF My.hdG
namespace My
open PySem PySem.W PyProof.Rows
theorem zqF {q:Program} {K:Params->Frag} {as:List Addr} {N:Nat} {e:∀ P,as=(K P).map (·.1)} (hN:Nat.ble 600 N=true)
  (h:∀ w os,W.Fast.tw6084617276858994590 q as N w os=W.Fast.tw7309032369996461460 q K w) :
  LeftO PySem.Challenge.rw_swapbook_k64_whole_books_between_books.row.prog q [] (λs=>xlAt q [] s&&recOk (RowW.records PySem.Challenge.rw_swapbook_k64_whole_books_between_books.row.toRowW) s) (kHook K as e).obs (kHook K as e).val N:=by
 rw [← W.Fast.te6084617276858994590,← W.Fast.te7309032369996461460] at h
 exact Hd.left_of (by kernel_rfl) hN (λs=>by kernel_rfl) (Hd.y_is as) h
end My
section
local macro_rules
 | `(tactic| refine $e:term)=>do
  if e.raw.isOfKind `Lean.Parser.Term.app&&e.raw[0].getId.eraseMacroScopes == `PySem.W.holds_open then
   let some _:=e.raw.find? (λs=>s.isOfKind `Lean.Parser.Term.syntheticHole&&s[1].getId.eraseMacroScopes == `hl) | Lean.Macro.throwUnsupported
   let h ← `(My.zqF (by decide) (λw os=>by kernel_rfl))
   let e' ← e.raw.replaceM λs=>pure (if s.isOfKind `Lean.Parser.Term.syntheticHole&&s[1].getId.eraseMacroScopes == `hl then some h.raw else none)
   `(tactic| refine $(⟨e'⟩))
  else Lean.Macro.throwUnsupported
open PySem PySem.W PyProof.Rows
set_option maxRecDepth 100000 in
set_option maxHeartbeats 0 in
open_top My.headT for PySem.Challenge.rw_swapbook_k64_whole_books_between_books
end
set_option hygiene false in
local macro_rules
 | `(⇑[$x])=>`((.va false $x))
 | `(↥[$x])=>`((.va true $x))
 | `(↥($x))=>`((by exact $x))
abbrev Ji:=List Int
abbrev Jq:=List Ji
set_option hygiene false in
local macro_rules
 | `(↑[$a0])=>`((zbD $a0 zdW))
 | `(↑[$a0,$a1])=>`((zbD $a0 (zbD $a1 zdW)))
 | `(↑[$a0,$a1,$a2])=>`((zbD $a0 (zbD $a1 (zbD $a2 zdW))))
 | `(↑[$a0,$a1,$a2,$a3])=>`((zbD $a0 (zbD $a1 (zbD $a2 (zbD $a3 zdW)))))
 | `(↑[$a0,$a1,$a2,$a3,$a4])=>`((zbD $a0 (zbD $a1 (zbD $a2 (zbD $a3 (zbD $a4 zdW))))))
 | `(↑[$a0,$a1,$a2,$a3,$a4,$a5])=>`((zbD $a0 (zbD $a1 (zbD $a2 (zbD $a3 (zbD $a4 (zbD $a5 zdW)))))))
namespace L2
open PySem PySem.Spec PyProof.Rows
abbrev Key:=Sum Int Str
def zqY:Key->Value->Bool
 | .inl k,v=>Value.isInt k v
 | .inr x,v=>Value.isStrOf x v
def ztv (w:World):Key->Int
 | .inl k=>hashInt k
 | .inr x=>hashStr w x
theorem zb3:∀ {k:Key} {v:Value},zqY k v=true->(∃ i t,k=Sum.inl i∧v=Value.int i t)∨(∃ x t,k=Sum.inr x∧v=Value.str x t)
 | .inl i,v,h=>by
  obtain ⟨t,e⟩:=Value.isInt_shape (k:=i) (v:=v) h
  exact .inl ⟨i,t,rfl,e⟩
 | .inr x,v,h=>by
  obtain ⟨t,e⟩:=Value.isStrOf_shape (x:=x) (v:=v) h
  exact .inr ⟨x,t,rfl,e⟩
theorem zrN (a b:Int):decide ((Sum.inl a:Key)=Sum.inl b)=(a == b):=by
 by_cases e:a=b
 ·subst e;simp
 ·have h:¬ (Sum.inl a:Key)=Sum.inl b:=λq=>e (Sum.inl.inj q)
  rw [decide_eq_false h]
  exact (beq_eq_false_iff_ne.mpr e).symm
theorem zrF (a b:Str):decide ((Sum.inr a:Key)=Sum.inr b)=decide (a=b):=by
 by_cases e:a=b
 ·subst e;simp
 ·have h:¬ (Sum.inr a:Key)=Sum.inr b:=λq=>e (Sum.inr.inj q)
  rw [decide_eq_false h,decide_eq_false e]
theorem zqy (a:Int) (b:Str):decide ((Sum.inl a:Key)=Sum.inr b)=false:=decide_eq_false (λq=>nomatch q)
theorem zq9 (a:Str) (b:Int):decide ((Sum.inr a:Key)=Sum.inl b)=false:=decide_eq_false (λq=>nomatch q)
def zmG (prog:Program) (w:World):PySem.KeyKind prog w Key where
 is:=zqY
 hash:=ztv w
 inj:=λv a b ha hb=>by
  rcases zb3 ha with ⟨i,t,rfl,rfl⟩ | ⟨x,t,rfl,rfl⟩
  ·rcases zb3 hb with ⟨j,u,rfl,e⟩ | ⟨y,u,rfl,e⟩
   ·injection e with e1 _;rw [e1]
   ·exact nomatch e
  ·rcases zb3 hb with ⟨j,u,rfl,e⟩ | ⟨y,u,rfl,e⟩
   ·exact nomatch e
   ·injection e with e1 _;rw [e1]
 byValue:=λk v h=>by
  rcases zb3 h with ⟨i,t,rfl,rfl⟩ | ⟨x,t,rfl,rfl⟩<;>rfl
 pyHash:=λhv h=>by
  rcases zb3 hv with ⟨i,t,rfl,rfl⟩ | ⟨x,t,rfl,rfl⟩
  ·exact wpAny_pyHash_int h
  ·exact wpAny_pyHash_str h
 eqBool:=λhu hv h=>by
  rcases zb3 hu with ⟨i,t,rfl,rfl⟩ | ⟨x,t,rfl,rfl⟩
  ·rcases zb3 hv with ⟨j,u,rfl,rfl⟩ | ⟨y,u,rfl,rfl⟩
   ·rw [zrN] at h;exact wpAny_eqBool_int h
   ·rw [zqy] at h;exact SeqAt.EqAt.int_str i t y u _ _ _ _ h
  ·rcases zb3 hv with ⟨j,u,rfl,rfl⟩ | ⟨y,u,rfl,rfl⟩
   ·rw [zq9] at h;exact SeqAt.EqAt.str_int x t j u _ _ _ _ h
   ·rw [zrF] at h;exact wpAny_eqBool_str h
 «strs»:=λk x t v h=>by
  rcases zb3 h with ⟨i,u,rfl,e⟩ | ⟨y,u,rfl,e⟩
  ·exact nomatch e
  ·injection e with e1 _
   subst e1
   cases v<;>rfl
end L2
namespace L2
open PySem PySem.Spec PyProof.Rows
inductive V where
 | non | bl (b:Bool) | int (i:Int) | str (x:Str) | byt (b:Array UInt8) | flt (b:UInt64) | ref (a:Addr) | ty (n:String)
 deriving DecidableEq
def zdA:V->Value->Prop
 | .non,u=>u=Value.none
 | .bl b,u=>u=Value.bool b
 | .int i,u=>∃ t,u=Value.int i t
 | .str x,u=>∃ t,u=Value.str x t
 | .byt b,u=>∃ t,u=Value.bytes b t
 | .flt b,u=>∃ t,u=Value.float b t
 | .ref a,u=>u=Value.ref a
 | .ty n,u=>u=Value.type n
abbrev zb8:List V->List Value->Prop:=Paired zdA
theorem zb8.length {xs:List V} {us:List Value} (r:zb8 xs us):xs.length=us.length:=Paired.length r
theorem zb8.get:∀ {xs:List V} {us:List Value} {i:Nat} {x:V},zb8 xs us->xs[i]?=some x->∃ u,us[i]?=some u∧zdA x u
 | _,_,_,_,.nil,e=>by simp at e
 | _,_,0,_,.cons r _,e=>by simp at e;subst e;exact ⟨_,rfl,r⟩
 | _,_,i+1,x,.cons _ t,e=>by
  obtain ⟨u,h1,h2⟩:=zb8.get (i:=i) (x:=x) t (by simpa using e)
  exact ⟨u,by simpa using h1,h2⟩
theorem zb8.set {x:V} {u:Value} (r:zdA x u):∀ {xs:List V} {us:List Value} (i:Nat),zb8 xs us->zb8 (xs.set i x) (us.set i u)
 | _,_,_,.nil=>.nil
 | _,_,0,.cons _ t=>.cons r t
 | _,_,i+1,.cons q t=>.cons q (zb8.set r i t)
theorem zb8.append:∀ {xs ys:List V} {us ws:List Value},zb8 xs us->zb8 ys ws->zb8 (xs++ys) (us++ws)
 | _,_,_,_,.nil,s=>s
 | _,_,_,_,.cons r t,s=>.cons r (zb8.append t s)
theorem zb8.take:∀ {xs:List V} {us:List Value} (n:Nat),zb8 xs us->zb8 (xs.take n) (us.take n)
 | _,_,0,_=>.nil
 | _,_,_+1,.nil=>.nil
 | _,_,n+1,.cons r t=>.cons r (zb8.take n t)
theorem zb8.drop:∀ {xs:List V} {us:List Value} (n:Nat),zb8 xs us->zb8 (xs.drop n) (us.drop n)
 | _,_,0,r=>r
 | _,_,_+1,.nil=>.nil
 | _,_,n+1,.cons _ t=>zb8.drop n t
def zpA:Option V->Option Value->Prop
 | some v,some u=>zdA v u
 | none,none=>True
 | _,_=>False
def KV {κ:Type}:List (κ×V)->List (κ×Value)->Prop:=Paired λ(p:κ×V) (q:κ×Value)=>p.1=q.1∧zdA p.2 q.2
def kV:Key->V
 | .inl i=>.int i
 | .inr x=>.str x
inductive HO where
 | lst (xs:List V)
 | tup (xs:List V)
 | dK (kvs:List (Key×V)) | dT (kvs:List (List Key×V))
 | set (S:Int->Bool) (n:Nat)
 | ins (C dx:Addr) (fs:List (Str×V))
 | own (x:Addr)
 | xd (fs:List (Str×V))
 | met (f x:Addr)
 | rng (lo hi:Int)
 | frz (o:Obj) (u:HO)
 | tbl (ps:Array Value)
 | ext (φ:Heap->Prop)
abbrev Hp:=Addr->Option HO
def upd (H:Hp) (a:Addr) (o:HO):Hp:=λb=>if b=a then some o else H b
theorem zaH {H:Hp} {a:Addr} {o:HO}:upd H a o a=some o:=by unfold upd;rw [if_pos rfl]
theorem zay {H:Hp} {a b:Addr} {o:HO} (h:b≠a):upd H a o b=H b:=by unfold upd;rw [if_neg h]
theorem znq {H:Hp} {a b:Addr} {o u:HO} (h:H a=some o) (h':H b=some u) (d:o≠u):a≠b:=by
 intro e;subst e;rw [h] at h';exact d (Option.some.inj h')
theorem za7 {H:Hp} {a b:Addr} {o:HO} (h:H a=some o) (h':H b=none):a≠b:=by
 intro e;subst e;rw [h] at h';cases h'
section
variable (P:Program) (w:World)
def zeO (H:Hp) (h:Heap) (a:Addr):HO->Prop
 | .lst xs=>xs.length≤sizeLine∧∃ (its:List Value) (n:Nat),zb8 xs its∧h.get? a=some { cls:=.type "list",data:=.seq its.toArray n }
 | .tup xs=>xs.length≤sizeLine∧∃ its:List Value,zb8 xs its∧IsTup h a its.toArray
 | .dK kvs=>kvs.length≤sizeLine∧(a == sysModules)=false∧∃ vs,KV kvs vs∧h.DictOf (zmG P w) a vs
 | .dT kvs=>kvs.length≤sizeLine∧(a == sysModules)=false∧∃ xs:List (List Key×Addr×Value),
   Paired (λ(p:List Key×V) (q:List Key×Addr×Value)=>p.1=q.1∧H q.2.1=some (.tup (p.1.map kV))∧zdA p.2 q.2.2) kvs xs ∧
   ∃ o es ep,h.get? a=some o∧o.ExactDict∧o.data=.dict es ep∧es.toList=xs.map (entryOfKey (tupleKind (zmG P w)))∧(xs.map (·.1)).Nodup
 | .set S n=>h.SetOf (intKind P w) a S n
 | .ins C dx fs=>H dx=some (.own a)∧fs.length≤1000∧dx≠a∧h.get? a=some (W.instObj C dx) ∧
   ∃ mA,h.Ns1 dx mA∧(∀ f,zpA (fs.lookup f) (mA f))∧PySem.Within mA (fs.map (·.1))
 | .own _=>∃ o,h.get? a=some o
 | .xd fs=>∃ mA,h.Ns1 a mA∧∀ f,zpA (fs.lookup f) (mA f)
 | .rng lo hi=>∃ t u v,h.get? a=some { cls:=.type "range",data:=.fields #[.int lo t,.int hi u,.int 1 v] }
 | .frz o u=>h.get? a=some o∧zeO H h a u
 | .tbl ps=>h.get? a=some { cls:=.none,data:=.fields ps }
 | .met f x=>h.get? a=some (W.methodObj (.ref f) (.ref x))
 | .ext φ=>φ h∧(∃ o,h.get? a=some o)∧∀ h1 h2:Heap,φ h1->(∀ o,h1.get? a=some o->h2.get? a=some o)->φ h2
def HOk (H:Hp) (h:Heap):Prop:=∀ a o,H a=some o->zeO P w H h a o
end
section
variable {P:Program} {w:World} {H H':Hp} {h h':Heap} {a:Addr} {o:HO}
theorem zeO.lt (x:zeO P w H h a o):a<h.objs.size:=by
 cases o with
 | lst xs=>obtain ⟨_,_,_,_,e⟩:=x;exact Heap.lt_size e
 | tup xs=>obtain ⟨_,_,_,p⟩:=x;exact p.lt
 | dK kvs=>obtain ⟨_,_,_,_,o,_,_,e,_⟩:=x;exact Heap.lt_size e
 | dT kvs=>obtain ⟨_,_,_,_,o,_,_,e,_⟩:=x;exact Heap.lt_size e
 | set S n=>obtain ⟨o,_,_,_,e,_⟩:=x;exact Heap.lt_size e
 | ins C dx fs=>obtain ⟨_,_,_,e,_⟩:=x;exact Heap.lt_size e
 | own y=>obtain ⟨_,e⟩:=x;exact Heap.lt_size e
 | xd fs=>obtain ⟨_,⟨_,_,_,e,_⟩,_⟩:=x;exact Heap.lt_size e
 | rng lo hi=>obtain ⟨_,_,_,e⟩:=x;exact Heap.lt_size e
 | frz ob u=>obtain ⟨e,_⟩:=x;exact Heap.lt_size e
 | tbl ps=>exact Heap.lt_size (show h.get? a=some _ from x)
 | met f y=>exact Heap.lt_size (show h.get? a=some _ from x)
 | ext φ=>obtain ⟨_,⟨_,e⟩,_⟩:=x;exact Heap.lt_size e
theorem Paired.mapP {α β:Type} {F G:α->β->Prop}:∀ {l₁:List α} {l₂:List β},Paired F l₁ l₂->(∀ a b,F a b->G a b)->Paired G l₁ l₂
 | _,_,.nil,_=>.nil
 | _,_,.cons r t,f=>.cons (f _ _ r) (Paired.mapP t f)
theorem zeO.stay (x:zeO P w H h a o) (k:∀ b u,(b=a∨H b=some (.own a))->h.get? b=some u->h'.get? b=some u)
  (ho:∀ b,H b=some (.own a)->H' b=some (.own a)) (ht:∀ b xs,H b=some (.tup xs)->H' b=some (.tup xs)):zeO P w H' h' a o:=by
 induction o with
 | lst xs=>obtain ⟨z,its,n,r,e⟩:=x;exact ⟨z,its,n,r,k _ _ (.inl rfl) e⟩
 | tup xs=>obtain ⟨z,its,r,ob,e,c⟩:=x;exact ⟨z,its,r,ob,k _ _ (.inl rfl) e,c⟩
 | dK kvs=>obtain ⟨z,y,vs,r,ob,es,ep,e,c⟩:=x;exact ⟨z,y,vs,r,ob,es,ep,k _ _ (.inl rfl) e,c⟩
 | dT kvs =>
  obtain ⟨z,y,xs,r,ob,es,ep,e,c⟩:=x
  exact ⟨z,y,xs,Paired.mapP r λp q z=>⟨z.1,ht _ _ z.2.1,z.2.2⟩,ob,es,ep,k _ _ (.inl rfl) e,c⟩
 | set S n=>obtain ⟨ob,es,ep,t,e,c⟩:=x;exact ⟨ob,es,ep,t,k _ _ (.inl rfl) e,c⟩
 | ins C dx fs =>
  obtain ⟨d,z,ne,e,mA,⟨od,es,ep,e2,c⟩,r⟩:=x
  exact ⟨ho _ d,z,ne,k _ _ (.inl rfl) e,mA,⟨od,es,ep,k _ _ (.inr d) e2,c⟩,r⟩
 | own y=>obtain ⟨ob,e⟩:=x;exact ⟨ob,k _ _ (.inl rfl) e⟩
 | xd fs=>obtain ⟨mA,⟨od,es,ep,e,c⟩,r⟩:=x;exact ⟨mA,⟨od,es,ep,k _ _ (.inl rfl) e,c⟩,r⟩
 | rng lo hi=>obtain ⟨t,u,v,e⟩:=x;exact ⟨t,u,v,k _ _ (.inl rfl) e⟩
 | frz ob u ih=>obtain ⟨e,q⟩:=x;exact ⟨k _ _ (.inl rfl) e,ih q⟩
 | tbl ps =>
  have e:h.get? a=some { cls:=.none,data:=.fields ps }:=x
  show h'.get? a=some { cls:=.none,data:=.fields ps }
  exact k a _ (.inl rfl) e
 | met f y =>
  have e:h.get? a=some (W.methodObj (.ref f) (.ref y)):=x
  show h'.get? a=some (W.methodObj (.ref f) (.ref y))
  exact k a _ (.inl rfl) e
 | ext φ=>obtain ⟨p,⟨o,e⟩,st⟩:=x;exact ⟨st _ _ p λo q=>k _ _ (.inl rfl) q,⟨o,k _ _ (.inl rfl) e⟩,st⟩
theorem HOk.lt (x:HOk P w H h) (e:H a=some o):a<h.objs.size:=(x a o e).lt
theorem HOk.fresh (x:HOk P w H h) (e:h.objs.size≤a):H a=none:=by
 cases q:H a with
 | none=>rfl
 | some u=>exact absurd (Nat.lt_of_lt_of_le (x.lt q) e) (Nat.lt_irrefl _)
theorem HOk.kept (x:HOk P w H h) (k:∀ b u,h.get? b=some u->h'.get? b=some u):HOk P w H h':=λa o e =>
 (x a o e).stay (λb u _ q=>k b u q) (λ_ q=>q) λ_ _ q=>q
theorem HOk.laid (x:HOk P w H h) (k:∀ b u,h.get? b=some u->h'.get? b=some u) (hp:h.objs.size≤a) (new:zeO P w (upd H a o) h' a o):HOk P w (upd H a o) h':=λb u e=>by
 have hn:=x.fresh hp
 by_cases hb:b=a
 ·subst hb;rw [zaH] at e;cases e;exact new
 ·rw [zay hb] at e
  exact (x b u e).stay (λc v _ q=>k c v q) (λc q=>by rw [zay (za7 q hn)];exact q) λc xs q=>by rw [zay (za7 q hn)];exact q
end
def Rd (H:Hp) (a:Addr) (u:HO):Prop:=H a=some u∨∃ o,H a=some (.frz o u)
theorem Rd.ok {P:Program} {w:World} {H:Hp} {h:Heap} {a:Addr} {u:HO} (r:Rd H a u) (x:HOk P w H h):zeO P w H h a u:=by
 rcases r with r | ⟨o,r⟩
 ·exact x a u r
 ·obtain ⟨_,q⟩:=x a _ r
  exact q
def Mut:Option HO->Prop
 | some (.lst _)=>True
 | some (.dK _)=>True
 | some (.dT _)=>True
 | some (.set _ _)=>True
 | some (.ins _ _ _)=>True
 | some (.ext _)=>True
 | _=>False
section
variable {P:Program} {w:World} {H:Hp} {h h':Heap} {x e:Addr} {o':HO}
theorem HOk.write (ok:HOk P w H h) (mu:Mut (H x)) (he:e=x∨H e=some (.own x)) (k:∀ b u,b≠e->h.get? b=some u->h'.get? b=some u) (heo:∃ u,h'.get? e=some u)
  (new:zeO P w (upd H x o') h' x o'):HOk P w (upd H x o') h':=λb u q=>by
 have nown:∀ c y,H c=some (.own y)->c≠x:=λc y r z=>by subst z;rw [r] at mu;exact mu
 have ntup:∀ c xs,H c=some (.tup xs)->c≠x:=λc xs r z=>by subst z;rw [r] at mu;exact mu
 by_cases hb:b=x
 ·subst hb;rw [zaH] at q;cases q;exact new
 ·rw [zay hb] at q
  by_cases hbe:b=e
  ·have q':H b=some (.own x):=by
    rcases he with z | z
    ·exact absurd (hbe.trans z) hb
    ·rw [hbe];exact z
   rw [q] at q';cases q'
   obtain ⟨v,hv⟩:=heo
   exact ⟨v,by rw [hbe];exact hv⟩
  ·refine (ok b u q).stay (λc v hc r=>k c v ?_ r) (λc r=>by rw [zay (nown c b r)];exact r) λc xs r=>by rw [zay (ntup c xs r)];exact r
   rcases hc with rfl | hc
   ·exact hbe
   ·rintro rfl
    rcases he with z | z
    ·exact nown c b hc z
    ·rw [hc] at z;cases z;exact hb rfl
end
structure Un (fs ex:List Addr) (H H':Hp) (h h':Heap):Prop where
 keep:∀ b o,h.get? b=some o->H b=none->b ∉ fs->b ∉ ex->h'.get? b=some o
 slot:∀ b o,h.get? b=some o->H b=none->b∈fs->b ∉ ex->∃ sl,h'.get? b=some { o with slots:=sl }
 free:∀ b o,h.get? b=some o->H b=none->b ∉ ex->H' b=none
 there:∀ b o,h.get? b=some o->b ∉ ex->∃ o',h'.get? b=some o'
 tups:∀ b xs,H b=some (.tup xs)->H' b=some (.tup xs)
 frzs:∀ b o u,H b=some (.frz o u)->H' b=some (.frz o u)
 tbls:∀ b ps,H b=some (.tbl ps)->∃ more,H' b=some (.tbl (ps++more))
section
variable {fs fs' ex ex':List Addr} {H H1 H2:Hp} {h h1 h2 h':Heap} {a x e:Addr} {o:HO}
theorem Un.any (u:Un fs ex H H1 h h1) {b:Addr} {ob:Obj} (q:h.get? b=some ob) (n:H b=none) (hx:b ∉ ex):∃ sl,h1.get? b=some { ob with slots:=sl }:=by
 by_cases hb:b∈fs
 ·exact u.slot b ob q n hb hx
 ·exact ⟨ob.slots,u.keep b ob q n hb hx⟩
theorem Un.kept (k:∀ b u,h.get? b=some u->h'.get? b=some u):Un fs ex H H h h' :=
 ⟨λb ob q _ _ _=>k b ob q,λb ob q _ _ _=>⟨ob.slots,k b ob q⟩,λ_ _ _ n _=>n,λb ob q _=>⟨ob,k b ob q⟩,λ_ _ q=>q,λ_ _ _ q=>q,λ_ ps q=>⟨#[],by rw [q];simp⟩⟩
theorem Un.refl:Un fs ex H H h h:=Un.kept λ_ _ q=>q
theorem Un.laid (k:∀ b u,h.get? b=some u->h'.get? b=some u) (hp:h.objs.size≤a) (hn:H a=none):Un fs ex H (upd H a o) h h' where
 keep:=λb u q _ _ _=>k b u q
 slot:=λb u q _ _ _=>⟨u.slots,k b u q⟩
 free:=λb u q n _=>by rw [zay (Nat.ne_of_lt (Nat.lt_of_lt_of_le (Heap.lt_size q) hp))];exact n
 there:=λb u q _=>⟨u,k b u q⟩
 tups:=λb xs q=>by rw [zay (za7 q hn)];exact q
 frzs:=λb u xs q=>by rw [zay (za7 q hn)];exact q
 tbls:=λb ps q=>⟨#[],by rw [zay (za7 q hn),q];simp⟩
theorem Un.write (mu:Mut (H x)) (he:e=x∨H e=some (.own x)) (k:∀ b u,b≠e->h.get? b=some u->h'.get? b=some u) (heo:∃ u,h'.get? e=some u):Un fs ex H (upd H x o) h h':=by
 have hx:∀ b,H b=none->b≠x:=λb n z=>by subst z;rw [n] at mu;exact mu
 have hb:∀ b,H b=none->b≠e:=λb n z=>by
  subst z
  rcases he with r | r
  ·exact hx b n r
  ·rw [n] at r;cases r
 have hm:∀ b u,H b=some u->¬ Mut (some u)->b≠x:=λb u q nm z=>by subst z;rw [q] at mu;exact nm mu
 refine ⟨λb u q n _ _=>k b u (hb b n) q,λb u q n _ _=>⟨u.slots,k b u (hb b n) q⟩,λb u q n _=>by rw [zay (hx b n)];exact n,λb u q _=>?_,
  λb xs q=>by rw [zay (hm b _ q λz=>z)];exact q,λb u xs q=>by rw [zay (hm b _ q λz=>z)];exact q,λb ps q=>⟨#[],by rw [zay (hm b _ q λz=>z),q];simp⟩⟩
 by_cases hbe:b=e
 ·subst hbe;exact heo
 ·exact ⟨u,k b u hbe q⟩
end
def trk (h:Heap) (H:Hp):List Addr:=(List.range h.objs.size).filter λa=>(H a).isSome
def znJ (h:Heap) (H:Hp):Heap:=W.hideAll h (trk h H)
theorem zlO (h:Heap) (H:Hp):(znJ h H).objs.size=h.objs.size:=W.hideAll_size _ _
theorem zof {h:Heap} {H:Hp} {b:Addr} {o:Obj} (e:h.get? b=some o) (n:H b=none):(znJ h H).get? b=some o :=
 W.hideAll_get _ e λhm=>by
  have q:(H b).isSome=true:=(List.mem_filter.mp hm).2
  rw [n] at q;simp at q
theorem zoS {h:Heap} {H:Hp} {b:Addr} {o:Obj} (e:(znJ h H).get? b=some o):h.get? b=some o∧H b=none:=by
 have e':h.get? b=some o:=W.of_hideAll (trk h H) e
 refine ⟨e',?_⟩
 cases q:H b with
 | none=>rfl
 | some x =>
  have hm:b∈trk h H:=List.mem_filter.mpr ⟨List.mem_range.mpr (Heap.lt_size e'),by simp [q]⟩
  have z:(znJ h H).get? b=none:=W.hideAll_none (trk h H) hm
  rw [z] at e;cases e
def zo0 (g h:Heap) (L:Addr):List (Addr×Obj):=(List.range h.objs.size).filterMap λa=>if a=L∨(g.get? a).isSome=true then none else (h.get? a).map λo=>(a,o)
def rest (g h:Heap) (L d:Addr):List (Addr×Obj):=(zo0 g h L).filter λp=>decide (p.1≠d)
end L2
namespace L2
open PySem PySem.Spec PyProof.Rows
structure Mod (K:W.Frag) (mg:Str->Option Value) (base:Heap):Prop where
 kin:K.In base
 glob:base.Ns mainGlobals mg
 blt:∃ mb,base.Ns builtinsNs mb∧∀ x:Str,x≠"__name__"->mb x=bootBuiltins x
 nolimit:base.NoLimit
structure Cx where
 prog:Program
 w:World
 K:W.Frag
 mg:Str->Option Value
 base:Heap
 A:Around
 N:List Str
 s₀:Shared
 H₀:Hp
 env:Env
 outer:List Env
 stack:List Env
 ex:List Addr
 fn:Str->Bool
 calm:Bool
 pn:List (Addr×Obj)
 xe:Value->Shared->Prop
def frs (l:List Env):List Addr:=l.filterMap (·.frame)
abbrev Cx.fs (X:Cx):List Addr:=frs X.outer
def Vis (sc:Scope) (x:Str):Prop:=sc.names.lookup x=some .local∨sc.names.lookup x=some .cell∨sc.names.lookup x=some .free
def Loc (sc:Scope) (x:Str):Prop:=sc.names.lookup x=some .local∨sc.names.lookup x=some .cell
def zsW (env:Env) (h:Heap) (m:Str->Option Value) (x:Str) (u:Value):Prop :=
 (env.kindOf x=some .local∧m x=some u)∨((env.kindOf x=some .cell∨env.kindOf x=some .free)∧∃ c,env.cells.lookup x=some c∧h.IsCell c (some u))
structure Cx.Ok (X:Cx):Prop where
 mod:Mod X.K X.mg X.base
 kind:X.env.scope.kind=.function
 glob:X.env.globals=mainGlobals
 blt:X.env.builtins=builtinsNs
 above:X.s₀.heap.objs.size≤X.env.locals
 inj:∀ x y c,X.env.cells.lookup x=some c->X.env.cells.lookup y=some c->x=y
 has:∀ x,(X.env.kindOf x=some .cell∨X.env.kindOf x=some .free)->∃ c,X.env.cells.lookup x=some c
 cab:∀ x c,X.fn x=true->X.env.cells.lookup x=some c->X.s₀.heap.objs.size≤c
 hd:X.calm=true->X.A.handled=none
 frames:X.A.frames=some X.stack
 stk:X.stack=X.outer∨(X.stack=X.env :: X.outer∧X.env.frame=some X.env.locals)
 exf:∀ b∈X.ex,b≠X.env.locals∧∀ x c,X.env.cells.lookup x=some c->c≠b
 bs:∀ b o,X.base.get? b=some o->X.s₀.heap.get? b=some o∧X.H₀ b=none
 bsz:X.base.objs.size≤X.s₀.heap.objs.size
 noex:∀ b o,X.base.get? b=some o->b ∉ X.ex
 exfs:∀ b∈X.ex,b ∉ X.fs
 funs:X.s₀.heap.FunFrames X.base X.outer
 frf:∀ b∈X.fs,X.H₀ b=none
structure Inv (X:Cx) (pins:List (Addr×Obj)) (σ:List (Option V)) (H:Hp) (s:Shared):Prop where
 ok:X.Ok
 os:s.os=X.s₀.os
 bare:AllBare s.gens
 base:Un X.fs X.ex X.H₀ H X.s₀.heap s.heap
 loc:∃ m,s.heap.Ns X.env.locals m∧∀ (i:Nat) (x:Str) (v:V),X.N[i]?=some x->σ[i]?=some (some v)->Vis X.env.scope x->∃ u,zdA v u∧zsW X.env s.heap m x u
 cell:∀ x c,X.env.cells.lookup x=some c->∃ v,s.heap.IsCell c v
 free:H X.env.locals=none
 freeC:∀ x c,X.env.cells.lookup x=some c->H c=none
 pin:∀ p∈X.pn++pins,s.heap.get? p.1=some p.2∧H p.1=none∧p.1≠X.env.locals∧p.1 ∉ X.fs∧∀ v,p.2.data≠.cell v
 hok:HOk X.prog X.w H s.heap
 len:σ.length=X.N.length
section
variable {X:Cx} {pins:List (Addr×Obj)} {σ:List (Option V)} {H H':Hp} {s:Shared} {h':Heap}
theorem Cx.Ok.nofr (ok:X.Ok) {b:Addr} {o:Obj} (e:X.base.get? b=some o):b ∉ X.fs:=λhb=>by
 have:=(ok.funs.mem hb).1
 rw [e] at this;cases this
theorem Inv.bs (I:Inv X pins σ H s):∀ b o,X.base.get? b=some o->s.heap.get? b=some o∧H b=none:=λb o e =>
 ⟨I.base.keep b o ((I.ok.bs b o e)).1 ((I.ok.bs b o e)).2 (I.ok.nofr e) (I.ok.noex b o e),I.base.free b o ((I.ok.bs b o e)).1 ((I.ok.bs b o e)).2 (I.ok.noex b o e)⟩
theorem Inv.bk (I:Inv X pins σ H s):∀ b o,X.base.get? b=some o->s.heap.get? b=some o:=λb o e=>(I.bs b o e).1
theorem Inv.mod (I:Inv X pins σ H s):Mod X.K X.mg X.base:=I.ok.mod
theorem Inv.kIn (I:Inv X pins σ H s):X.K.In s.heap:=I.ok.mod.kin.keeps I.bk
theorem Inv.nolimit (I:Inv X pins σ H s):s.heap.NoLimit:=I.ok.mod.nolimit.keeps I.bk
theorem Inv.fr (I:Inv X pins σ H s):∃ m,Fr X.base X.env.locals s.heap m :=
 let ⟨m,hn,_⟩:=I.loc
 ⟨m,hn,I.bk,Nat.le_trans I.ok.bsz I.ok.above⟩
theorem Inv.lt (I:Inv X pins σ H s):X.env.locals<s.heap.objs.size:=let ⟨_,hn,_⟩:=I.loc;hn.lt
theorem Inv.sz (I:Inv X pins σ H s):X.s₀.heap.objs.size≤s.heap.objs.size:=Nat.le_trans I.ok.above (Nat.le_of_lt I.lt)
theorem Inv.nofs (I:Inv X pins σ H s) {a:Addr} (h:s.heap.objs.size≤a):a ∉ X.fs:=λhb=>by
 obtain ⟨_,o,ho,_⟩:=I.ok.funs.mem hb
 exact absurd (Nat.lt_of_lt_of_le (Heap.lt_size ho) (Nat.le_trans I.sz h)) (Nat.lt_irrefl _)
theorem Inv.cne (I:Inv X pins σ H s):∀ x c,X.env.cells.lookup x=some c->c≠X.env.locals:=λx c e z=>by
 obtain ⟨v,o,ho,hd⟩:=I.cell x c e
 obtain ⟨m,⟨o',es,ep,ho',hd',_⟩,_⟩:=I.loc
 rw [z,ho'] at ho;cases ho;rw [hd'] at hd;cases hd
theorem Inv.funs (I:Inv X pins σ H s):s.heap.FunFrames X.base X.outer:=by
 have all:∀ (l:List Env),(∀ b∈frs l,b∈X.fs)->X.s₀.heap.FunFrames X.base l->s.heap.FunFrames X.base l:=by
  intro l
  induction l with
  | nil=>intro _ _;trivial
  | cons env r ih =>
   intro hs hl
   obtain ⟨hk,⟨L,o,hf,hn,ho,hd⟩,hr⟩:=hl
   have hL:L∈X.fs:=hs L (by unfold frs;rw [List.filterMap_cons,hf];exact List.mem_cons_self)
   obtain ⟨sl,e⟩:=I.base.slot L o ho (I.ok.frf L hL) hL λz=>I.ok.exfs L z hL
   exact ⟨hk,⟨L,_,hf,hn,e,hd⟩,ih (λb hb=>hs b (by unfold frs;rw [List.filterMap_cons,hf];exact List.mem_cons_of_mem _ hb)) hr⟩
 exact all X.outer (λ_ hb=>hb) I.ok.funs
theorem Inv.stack (I:Inv X pins σ H s):s.heap.FunFrames X.base X.stack:=by
 rcases I.ok.stk with e | ⟨e,hf⟩
 ·rw [e];exact I.funs
 ·rw [e]
  obtain ⟨m,hn,_⟩:=I.loc
  refine .cons (by rw [I.ok.kind];decide) hf hn ?_ I.funs
  exact Heap.get?_none_of_le (Nat.le_trans I.ok.bsz I.ok.above)
theorem Inv.stkSub (I:Inv X pins σ H s):∀ b∈frs X.stack,b∈X.env.locals :: X.fs:=λb hb=>by
 rcases I.ok.stk with e | ⟨e,hf⟩
 ·rw [e] at hb;exact List.mem_cons_of_mem _ hb
 ·rw [e] at hb
  unfold frs at hb
  rw [List.filterMap_cons,hf] at hb
  exact hb
theorem Inv.stkFree (I:Inv X pins σ H s):∀ b∈frs X.stack,H b=none:=λb hb=>by
 rcases List.mem_cons.mp (I.stkSub b hb) with e | hb
 ·rw [e];exact I.free
 ·obtain ⟨_,o,ho,_⟩:=I.ok.funs.mem hb
  exact I.base.free b o ho (I.ok.frf b hb) λz=>I.ok.exfs b z hb
theorem Inv.step {g':Array GenState} {t':Nat} {d':Drawn} {ch:List Addr} (I:Inv X pins σ H s)
  (hch:∀ b∈ch,(b∈X.ex∨X.s₀.heap.objs.size≤b)∧b≠X.env.locals∧(∀x c,X.env.cells.lookup x=some c->c≠b)∧∀ p∈X.pn++pins,p.1≠b)
  (keep:∀ b o,b≠X.env.locals->b ∉ X.fs->b ∉ ch->s.heap.get? b=some o->H b=none->h'.get? b=some o)
  (slot:∀ b o,b≠X.env.locals->b∈X.fs->b ∉ ch->s.heap.get? b=some o->H b=none->∃ sl,h'.get? b=some { o with slots:=sl }) (free:∀ b o,b ∉ ch->s.heap.get? b=some o->H b=none->H' b=none)
  (there:∀ b o,b ∉ ch->s.heap.get? b=some o->∃ o',h'.get? b=some o')
  (tups:∀ b xs,H b=some (.tup xs)->H' b=some (.tup xs)) (frzs:∀ b o u,H b=some (.frz o u)->H' b=some (.frz o u)) (tbls:∀ b ps,H b=some (.tbl ps)->∃ more,H' b=some (.tbl (ps++more)))
  (ns:∀ m,s.heap.Ns X.env.locals m->h'.Ns X.env.locals m) (hok:HOk X.prog X.w H' h') (hg:AllBare g') :
  Inv X pins σ H' { s with heap:=h',gens:=g',drawn:=d',toks:=t' }:=by
 have neL:∀ b o,X.s₀.heap.get? b=some o->b≠X.env.locals:=λb o e=>Nat.ne_of_lt (Nat.lt_of_lt_of_le (Heap.lt_size e) I.ok.above)
 have neC:∀ b o,X.s₀.heap.get? b=some o->b ∉ X.ex->b ∉ ch:=λb o e hx hb=>by
  rcases (hch b hb).1 with z | z
  ·exact hx z
  ·exact absurd (Nat.lt_of_lt_of_le (Heap.lt_size e) z) (Nat.lt_irrefl _)
 have cellK:∀ x c,X.env.cells.lookup x=some c->∀ v,s.heap.IsCell c v->h'.IsCell c v:=λx c e v ⟨o,ho,hd⟩=>by
  have nch:c ∉ ch:=λz=>(hch c z).2.2.1 x c e rfl
  by_cases hc:c∈X.fs
  ·obtain ⟨sl,q⟩:=slot c o (I.cne x c e) hc nch ho (I.freeC x c e)
   exact ⟨_,q,hd⟩
  ·exact ⟨o,keep c o (I.cne x c e) hc nch ho (I.freeC x c e),hd⟩
 refine ⟨I.ok,I.os,hg,⟨λb o e n hb hx=>?_,λb o e n hb hx=>?_,λb o e n hx=>?_,λb o e hx=>?_,λb xs e=>tups b xs (I.base.tups b xs e),λb o xs e=>frzs b o xs (I.base.frzs b o xs e),λb ps e=>?_⟩,?_,λx c e=>?_,?_,λx c e=>?_,λp hp=>?_,hok,I.len⟩
 ·exact keep b o (neL b o e) hb (neC b o e hx) (I.base.keep b o e n hb hx) (I.base.free b o e n hx)
 ·obtain ⟨sl,e1⟩:=I.base.slot b o e n hb hx
  obtain ⟨sl',e2⟩:=slot b _ (neL b o e) hb (neC b o e hx) e1 (I.base.free b o e n hx)
  exact ⟨sl',e2⟩
 ·obtain ⟨o',e1⟩:=I.base.there b o e hx
  exact free b o' (neC b o e hx) e1 (I.base.free b o e n hx)
 ·obtain ⟨o',e1⟩:=I.base.there b o e hx
  exact there b o' (neC b o e hx) e1
 ·obtain ⟨m1,e1⟩:=I.base.tbls b ps e
  obtain ⟨m2,e2⟩:=tbls b _ e1
  exact ⟨m1++m2,by rw [e2,Array.append_assoc]⟩
 ·obtain ⟨m,hn,hl⟩:=I.loc
  refine ⟨m,ns m hn,λi x v e1 e2 e3=>?_⟩
  obtain ⟨u,r,l⟩:=hl i x v e1 e2 e3
  refine ⟨u,r,?_⟩
  rcases l with l | ⟨k,c,e,z⟩
  ·exact .inl l
  ·exact .inr ⟨k,c,e,cellK x c e _ z⟩
 ·obtain ⟨v,z⟩:=I.cell x c e
  exact ⟨v,cellK x c e v z⟩
 ·obtain ⟨m,⟨o,_,_,ho,_⟩,_⟩:=I.loc
  exact free _ o (λz=>(hch _ z).2.1 rfl) ho I.free
 ·obtain ⟨v,o,ho,hd⟩:=I.cell x c e
  exact free c o (λz=>(hch c z).2.2.1 x c e rfl) ho (I.freeC x c e)
 ·obtain ⟨e,n,ne,nf,d⟩:=I.pin p hp
  have nch:p.1 ∉ ch:=λz=>(hch p.1 z).2.2.2 p hp rfl
  exact ⟨keep p.1 p.2 ne nf nch e n,free p.1 p.2 nch e n,ne,nf,d⟩
theorem Inv.un {t':Nat} (I:Inv X pins σ H s) (u:Un X.fs [] H H' s.heap h') (hok:HOk X.prog X.w H' h'):Inv X pins σ H' { s with heap:=h',toks:=t' }:=by
 obtain ⟨m,⟨o,es,ep,ho,r⟩,_⟩:=id I.loc
 obtain ⟨sl,hL⟩:=u.any ho I.free (by simp)
 exact I.step (g':=s.gens) (d':=s.drawn) (ch:=[]) (λ_ z=>nomatch z) (λb o _ hb _ e n=>u.keep b o e n hb (by simp)) (λb o _ hb _ e n=>u.slot b o e n hb (by simp)) (λb o _ e n=>u.free b o e n (by simp)) (λb o _ e=>u.there b o e (by simp)) u.tups u.frzs u.tbls (λm' hm=>by
  obtain ⟨o',es',ep',ho',r'⟩:=hm
  rw [ho] at ho';cases ho'
  exact ⟨_,es',ep',hL,r'⟩) hok I.bare
theorem Inv.call {g':Array GenState} {t':Nat} {d':Drawn} {ch:List Addr} (I:Inv X pins σ H s) (u:Un (frs X.stack) ch H H' s.heap h') (hok:HOk X.prog X.w H' h') (hg:AllBare g')
  (hch:∀ b∈ch,(b∈X.ex∨X.s₀.heap.objs.size≤b)∧b≠X.env.locals∧(∀x c,X.env.cells.lookup x=some c->c≠b)∧∀ p∈X.pn++pins,p.1≠b) :
  Inv X pins σ H' { s with heap:=h',gens:=g',drawn:=d',toks:=t' }:=by
 obtain ⟨m,⟨o,es,ep,ho,r⟩,_⟩:=id I.loc
 obtain ⟨sl,hL⟩:=u.any ho I.free λz=>(hch _ z).2.1 rfl
 exact I.step (ch:=ch) hch (λb o hL hb hc e n=>u.keep b o e n (λz=>(List.mem_cons.mp (I.stkSub b z)).elim hL hb) hc) (λb o _ _ hc e n=>u.any e n hc) (λb o hc e n=>u.free b o e n hc) (λb o hc e=>u.there b o e hc) u.tups u.frzs u.tbls (λm' hm=>by
  obtain ⟨o',es',ep',ho',r'⟩:=hm
  rw [ho] at ho';cases ho'
  exact ⟨_,es',ep',hL,r'⟩) hok hg
theorem Inv.turned {t':Nat} {it:Addr} (I:Inv X pins σ H s) (k:∀ b o,b≠it->s.heap.get? b=some o->h'.get? b=some o) (hn:H it=none) (hL:it≠X.env.locals)
  (h1:it∈X.ex∨X.s₀.heap.objs.size≤it) (h2:∀ x c,X.env.cells.lookup x=some c->c≠it) (h3:∀ p∈X.pn++pins,p.1≠it):Inv X pins σ H { s with heap:=h',toks:=t' }:=by
 have nit:∀ b u,H b=some u->b≠it:=λb u e z=>by rw [z,hn] at e;cases e
 refine I.step (g':=s.gens) (d':=s.drawn) (ch:=[it]) (λb hb=>?_) (λb o _ _ hc e _=>k b o (λz=>hc (by simp [z])) e) (λb o _ _ hc e _=>⟨o.slots,k b o (λz=>hc (by simp [z])) e⟩) (λ_ _ _ _ n=>n)
  (λb o hc e=>⟨o,k b o (λz=>hc (by simp [z])) e⟩) (λ_ _ e=>e) (λ_ _ _ e=>e) (λb ps e=>⟨#[],by rw [e];simp⟩) (λm hm=>?_) (λb u e=>?_) I.bare
 ·have e:b=it:=by simpa using hb
  subst e
  exact ⟨h1,hL,h2,h3⟩
 ·obtain ⟨o,es,ep,ho,r⟩:=hm
  exact ⟨o,es,ep,k _ o (Ne.symm hL) ho,r⟩
 ·refine ((I.hok b u e)).stay (λc v hc q=>k c v ?_ q) (λ_ q=>q) λ_ _ q=>q
  rcases hc with z | z
  ·rw [z];exact nit b u e
  ·exact nit c _ z
theorem Inv.tok (I:Inv X pins σ H s) (t:Nat):Inv X pins σ H { s with toks:=t }:=I.un (h':=s.heap) (t':=t) Un.refl I.hok
theorem Inv.kept {t':Nat} (I:Inv X pins σ H s) (k:∀ b u,s.heap.get? b=some u->h'.get? b=some u):Inv X pins σ H { s with heap:=h',toks:=t' }:=I.un (Un.kept k) (I.hok.kept k)
theorem Inv.laid {a:Addr} {o:HO} {t':Nat} (I:Inv X pins σ H s) (k:∀ b u,s.heap.get? b=some u->h'.get? b=some u) (hp:s.heap.objs.size≤a) (new:zeO X.prog X.w (upd H a o) h' a o) :
  Inv X pins σ (upd H a o) { s with heap:=h',toks:=t' }:=I.un (Un.laid k hp (I.hok.fresh hp)) (I.hok.laid k hp new)
theorem Inv.write {x e:Addr} {o:HO} {t':Nat} (I:Inv X pins σ H s) (mu:Mut (H x)) (he:e=x∨H e=some (.own x)) (k:∀ b u,b≠e->s.heap.get? b=some u->h'.get? b=some u) (heo:∃ u,h'.get? e=some u)
  (new:zeO X.prog X.w (upd H x o) h' x o):Inv X pins σ (upd H x o) { s with heap:=h',toks:=t' }:=I.un (Un.write mu he k heo) (I.hok.write mu he k heo new)
theorem Inv.pins_of {pins':List (Addr×Obj)} (I:Inv X pins σ H s) (h:∀ p∈pins',s.heap.get? p.1=some p.2∧H p.1=none∧p.1≠X.env.locals∧p.1 ∉ X.fs∧∀ v,p.2.data≠.cell v):Inv X pins' σ H s :=
 ⟨I.ok,I.os,I.bare,I.base,I.loc,I.cell,I.free,I.freeC,λp hp=>(List.mem_append.mp hp).elim (λz=>I.pin p (List.mem_append_left _ z)) (h p),I.hok,I.len⟩
theorem zkf {N:List Str} (hN:N.Nodup) {i j:Nat} {x:Str} (a:N[i]?=some x) (b:N[j]?=some x):i=j:=by
 obtain ⟨h1,e1⟩:=List.getElem?_eq_some_iff.mp a
 obtain ⟨h2,e2⟩:=List.getElem?_eq_some_iff.mp b
 exact (List.getElem_inj hN).mp (e1.trans e2.symm)
theorem ziZ {M:Model} {A:Around} {E:Value->Shared->Prop} {i:Nat} {x:Str} {v:V} {u:Value} {Q:Unit->Shared->Prop} (I:Inv X pins σ H s) (hN:X.N.Nodup) (hi:X.N[i]?=some x) (hx:Loc X.env.scope x) (r:zdA v u)
  (h:∀ s',Inv X pins (σ.set i (some v)) H s'->(∃ a,Heap.SameBut a s.heap s'.heap∧(a=X.env.locals∨X.env.cells.lookup x=some a))->Q () s') (hf:X.fn x=true∨X.env.scope.names.lookup x=some .local:=by first | exact .inl rfl | exact .inr rfl | assumption):wpAny M A (storeName X.env x u) Q E s:=by
 obtain ⟨m,hn,hl⟩:=id I.loc
 have hcls:(X.env.scope.kind == .class||(X.env.scope.kind == .module&&X.env.locals != X.env.globals))=false:=by rw [I.ok.kind];rfl
 have hiσ:i<σ.length:=by rw [I.len];exact (List.getElem?_eq_some_iff.mp hi).1
 have cne:=I.cne
 have tracked:∀ {a:Addr} {h':Heap},(∃ o,s.heap.get? a=some o∧H a=none)->Heap.SameBut a s.heap h'->HOk X.prog X.w H h':=λ{a h'} ha hs b ob e=>by
  obtain ⟨_,_,hfree⟩:=ha
  refine (I.hok b ob e).stay (λc w' hc q=>(hs.2 c ?_).trans q) (λ_ q=>q) λ_ _ q=>q
  rintro rfl
  rcases hc with rfl | hc
  ·rw [hfree] at e;cases e
  ·rw [hfree] at hc;cases hc
 rcases hx with hk | hk
 ·refine wpAny_storeName_local hk hn (λh' hn' hs=>?_) hcls
  obtain ⟨oL,_,_,hoL,_⟩:=id hn
  refine h _ ⟨I.ok,I.os,I.bare,⟨λb o e n hb hx=>?_,λb o e n hb hx=>?_,I.base.free,λb o e hx=>?_,I.base.tups,I.base.frzs,I.base.tbls⟩,⟨_,hn',λj y v' e1 e2 e3=>?_⟩,λy c e=>?_,I.free,I.freeC,λp hp=>?_,tracked ⟨oL,hoL,I.free⟩ hs,by simpa using I.len⟩ ⟨_,hs,.inl rfl⟩
  ·exact ((hs.2 b (Nat.ne_of_lt (Nat.lt_of_lt_of_le (Heap.lt_size e) I.ok.above)))).trans (I.base.keep b o e n hb hx)
  ·obtain ⟨sl,e1⟩:=I.base.slot b o e n hb hx
   exact ⟨sl,((hs.2 b (Nat.ne_of_lt (Nat.lt_of_lt_of_le (Heap.lt_size e) I.ok.above)))).trans e1⟩
  ·obtain ⟨o',e1⟩:=I.base.there b o e hx
   exact ⟨o',((hs.2 b (Nat.ne_of_lt (Nat.lt_of_lt_of_le (Heap.lt_size e) I.ok.above)))).trans e1⟩
  ·by_cases hj:j=i
   ·subst hj
    rw [hi] at e1;cases e1
    rw [List.getElem?_set_self hiσ] at e2
    cases e2
    exact ⟨u,r,.inl ⟨hk,by simp⟩⟩
   ·rw [List.getElem?_set_ne (Ne.symm hj)] at e2
    obtain ⟨u',r',q⟩:=hl j y v' e1 e2 e3
    refine ⟨u',r',?_⟩
    rcases q with ⟨k,e⟩ | ⟨k,c,e,z⟩
    ·refine .inl ⟨k,?_⟩
     have:y≠x:=λe=>hj (zkf hN e1 (e ▸ hi))
     simp [this,e]
    ·exact .inr ⟨k,c,e,z.sameBut hs (cne y c e)⟩
  ·obtain ⟨w',z⟩:=I.cell y c e
   exact ⟨w',z.sameBut hs (cne y c e)⟩
  ·obtain ⟨e,n,ne,nf,d⟩:=I.pin p hp
   exact ⟨(hs.2 p.1 ne).trans e,n,ne,nf,d⟩
 ·have hfn:X.fn x=true:=by
   rcases hf with z | z
   ·exact z
   ·rw [z] at hk;cases hk
  obtain ⟨c,hc⟩:=I.ok.has x (.inl hk)
  obtain ⟨w',z⟩:=I.cell x c hc
  refine wpAny_storeName_cell I.ok.kind hk hc z (λh' hc' hs=>?_)
  obtain ⟨oc,hoc,hocd⟩:=id z
  refine h { s with heap:=h' } ⟨I.ok,I.os,I.bare,⟨λb o e n hb hx=>?_,λb o e n hb hx=>?_,I.base.free,λb o e hx=>?_,I.base.tups,I.base.frzs,I.base.tbls⟩,⟨m,hn.sameBut hs (Ne.symm (cne x c hc)),λj y v' e1 e2 e3=>?_⟩,λy c' e=>?_,I.free,I.freeC,λp hp=>?_,tracked ⟨oc,hoc,I.freeC x c hc⟩ hs,by simpa using I.len⟩ ⟨c,hs,.inr hc⟩
  ·exact ((hs.2 b (Nat.ne_of_lt (Nat.lt_of_lt_of_le (Heap.lt_size e) (I.ok.cab x c hfn hc))))).trans (I.base.keep b o e n hb hx)
  ·obtain ⟨sl,e1⟩:=I.base.slot b o e n hb hx
   exact ⟨sl,((hs.2 b (Nat.ne_of_lt (Nat.lt_of_lt_of_le (Heap.lt_size e) (I.ok.cab x c hfn hc))))).trans e1⟩
  ·obtain ⟨o',e1⟩:=I.base.there b o e hx
   exact ⟨o',((hs.2 b (Nat.ne_of_lt (Nat.lt_of_lt_of_le (Heap.lt_size e) (I.ok.cab x c hfn hc))))).trans e1⟩
  ·by_cases hj:j=i
   ·subst hj
    rw [hi] at e1;cases e1
    rw [List.getElem?_set_self hiσ] at e2
    cases e2
    exact ⟨u,r,.inr ⟨.inl hk,c,hc,hc'⟩⟩
   ·rw [List.getElem?_set_ne (Ne.symm hj)] at e2
    obtain ⟨u',r',q⟩:=hl j y v' e1 e2 e3
    refine ⟨u',r',?_⟩
    rcases q with q | ⟨k,c',e,z'⟩
    ·exact .inl q
    ·refine .inr ⟨k,c',e,z'.sameBut hs ?_⟩
     rintro rfl
     exact hj (zkf hN e1 (I.ok.inj _ _ _ e hc ▸ hi))
  ·by_cases hcc:c'=c
   ·subst hcc;exact ⟨_,hc'⟩
   ·obtain ⟨w2,z2⟩:=I.cell y c' e
    exact ⟨w2,z2.sameBut hs hcc⟩
  ·obtain ⟨e,n,ne,nf,d⟩:=I.pin p hp
   refine ⟨(hs.2 p.1 ?_).trans e,n,ne,nf,d⟩
   intro q
   rw [q,hoc] at e
   have q':oc=p.2:=Option.some.inj e
   exact d w' (by rw [← q'];exact hocd)
theorem zkb {M:Model} {A:Around} {E:Value->Shared->Prop} {i:Nat} {x:Str} {v:V} {u:Value} {Q:Unit->Shared->Prop} (I:Inv X pins σ H s) (hN:X.N.Nodup) (hi:X.N[i]?=some x) (hx:Loc X.env.scope x) (r:zdA v u)
  (h:∀ s',Inv X pins (σ.set i (some v)) H s'->Q () s') (hf:X.fn x=true∨X.env.scope.names.lookup x=some .local:=by first | exact .inl rfl | exact .inr rfl | assumption):wpAny M A (storeName X.env x u) Q E s :=
 ziZ I hN hi hx r (λs' I' _=>h s' I') hf
theorem Inv.call' {s':Shared} {ch:List Addr} (I:Inv X pins σ H s) (ho:s'.os=s.os) (u:Un (frs X.stack) ch H H' s.heap s'.heap) (hok:HOk X.prog X.w H' s'.heap) (hg:AllBare s'.gens)
  (hch:∀ b∈ch,(b∈X.ex∨X.s₀.heap.objs.size≤b)∧b≠X.env.locals∧(∀x c,X.env.cells.lookup x=some c->c≠b)∧∀ p∈X.pn++pins,p.1≠b):Inv X pins σ H' s':=by
 obtain ⟨h',g',d',t',o'⟩:=s'
 have e:o'=s.os:=ho
 subst e
 exact I.call (g':=g') (t':=t') (d':=d') u hok hg hch
end
abbrev XK:=Value->Option Addr->Hp->Prop
abbrev St:=List (Option V)
abbrev VK:=V->Hp->Prop
abbrev TE:=St->Hp->VK->Prop
abbrev TT:=St->Hp->(Bool->Hp->Prop)->Prop
abbrev TA:=St->Hp->(List V->Hp->Prop)->Prop
structure Ends where
 nx:St->Hp->Prop
 rt:VK
 bk:St->Hp->Prop:=λ_ _=>False
 ct:St->Hp->Prop:=λ_ _=>False
abbrev TS:=Ends->St->Hp->Prop
def EP (X:Cx) (pins:List (Addr×Obj)) (σ:St) (Q:VK) (u:Value) (s':Shared):Prop:=∃ v H',Inv X pins σ H' s'∧zdA v u∧Q v H'
def TP (X:Cx) (pins:List (Addr×Obj)) (σ:St) (Q:Bool->Hp->Prop) (b:Bool) (s':Shared):Prop:=∃ H',Inv X pins σ H' s'∧Q b H'
def AP (X:Cx) (pins:List (Addr×Obj)) (σ:St) (Q:List V->Hp->Prop) (us:List Value) (s':Shared):Prop:=∃ vs H',Inv X pins σ H' s'∧zb8 vs us∧Q vs H'
def SP (X:Cx) (pins:List (Addr×Obj)) (D:Ends) (f:Flow) (s':Shared):Prop :=
 match f with
 | .next=>∃ σ' H',Inv X pins σ' H' s'∧D.nx σ' H'
 | .brk=>∃ σ' H',Inv X pins σ' H' s'∧D.bk σ' H'
 | .cont=>∃ σ' H',Inv X pins σ' H' s'∧D.ct σ' H'
 | .ret u=>∃ v σ' H',Inv X pins σ' H' s'∧zdA v u∧D.rt v H'
def PE (X:Cx) (e:Expr) (t:TE):Prop :=
 ∀ (pins:List (Addr×Obj)) (s:Shared) (σ:St) (H:Hp) (Q:VK),Inv X pins σ H s->t σ H Q->wpAny (model X.prog X.w) X.A (eval e X.env) (EP X pins σ Q) X.xe s
def PT (X:Cx) (e:Expr) (t:TT):Prop :=
 ∀ (pins:List (Addr×Obj)) (s:Shared) (σ:St) (H:Hp) (Q:Bool->Hp->Prop),Inv X pins σ H s->t σ H Q->wpAny (model X.prog X.w) X.A (isTrue e X.env (eval e X.env)) (TP X pins σ Q) X.xe s
def PW (X:Cx) (e:Expr) (t:TT):Prop :=
 ∀ (whole:Sem Value) (pins:List (Addr×Obj)) (s:Shared) (σ:St) (H:Hp) (Q:Bool->Hp->Prop),Inv X pins σ H s->t σ H Q->wpAny (model X.prog X.w) X.A (isTrue e X.env whole) (TP X pins σ Q) X.xe s
theorem PW.pt {X:Cx} {e:Expr} {t:TT} (h:PW X e t):PT X e t:=h _
def PA (X:Cx) (es:List Expr) (t:TA):Prop :=
 ∀ (pos:Pos) (pins:List (Addr×Obj)) (s:Shared) (σ:St) (H:Hp) (Q:List V->Hp->Prop),Inv X pins σ H s->t σ H Q->wpAny (model X.prog X.w) X.A (spliced (backTo pos (starEach es X.env))) (AP X pins σ Q) X.xe s
def PS (X:Cx) (st:Stmt) (t:TS):Prop :=
 ∀ (pins:List (Addr×Obj)) (s:Shared) (σ:St) (H:Hp) (D:Ends),Inv X pins σ H s->t D σ H->wpAny (model X.prog X.w) X.A (exec st X.env) (SP X pins D) X.xe s
def PSs (X:Cx) (st:List Stmt) (t:TS):Prop :=
 ∀ (pins:List (Addr×Obj)) (s:Shared) (σ:St) (H:Hp) (D:Ends),Inv X pins σ H s->t D σ H->wpAny (model X.prog X.w) X.A (execs st X.env) (SP X pins D) X.xe s
theorem thn {α:Type} {t:Sem α} {Q Q':α->Shared->Prop} {M:Model} {A:Around} {E:Value->Shared->Prop} {s:Shared} (h:wpAny M A t Q E s) (hQ:∀ a s,Q a s->Q' a s):wpAny M A t Q' E s:=wpAny_mono h hQ λ_ _ x=>x
end L2
namespace L2
open PySem PySem.Spec PyProof.Rows
section
variable {X:Cx}
theorem bin {a b:Expr} {ta tb:TE} (ha:PE X a ta) (hb:PE X b tb) {pins:List (Addr×Obj)} {s:Shared} {σ:St} {H:Hp} {R:V->V->Hp->Prop} (I:Inv X pins σ H s) (h:ta σ H λx H1=>tb σ H1 λy H2=>R x y H2)
  {α:Type} {Q:α->Shared->Prop} {f:Value->Value->Sem α}
  (hf:∀ v u s2 x y H2,Inv X pins σ H2 s2->zdA x v->zdA y u->R x y H2->wpAny (model X.prog X.w) X.A (f v u) Q X.xe s2) :
  wpAny (model X.prog X.w) X.A (eval a X.env) (λv s₁=>wpAny (model X.prog X.w) X.A (eval b X.env) (λu s₂=>wpAny (model X.prog X.w) X.A (f v u) Q X.xe s₂) X.xe s₁) X.xe s:=by
 refine thn (ha pins s σ H _ I h) λv s1 ⟨x,H1,I1,r1,q1⟩=>?_
 refine thn (hb pins s1 σ H1 _ I1 q1) λu s2 ⟨y,H2,I2,r2,q2⟩=>?_
 exact hf v u s2 x y H2 I2 r1 r2 q2
def zje (i:Nat):TE:=λσ H Q=>∃ v,σ[i]?=some (some v)∧Q v H
def tC (v:V):TE:=λ_ H Q=>Q v H
theorem zrw {i:Nat} {x:Str} {pos:Pos} (hN:X.N[i]?=some x) (hv:Vis X.env.scope x) (hd:(x==("__debug__" :Str))=false:=by decide) (hcd:(x == ("__classdict__":Str))=false:=by decide):PE X (.Name x pos) (zje i):=by
 intro pins s σ H Q I h
 obtain ⟨v,e,h⟩:=h
 obtain ⟨m,hn,hl⟩:=I.loc
 obtain ⟨u,r,l⟩:=hl i x v hN e hv
 have fin:EP X pins σ Q u s:=⟨v,H,I,r,h⟩
 rcases l with ⟨hk,hm⟩ | ⟨hk,c,hc,hcell⟩
 ·exact wpAny_Name (wpAny_loadName_local I.ok.kind hk hn hm fin) hd
 ·rcases hk with hk | hk
  ·exact wpAny_Name (wpAny_loadName_cell I.ok.kind hk hc hcell fin) hd
  ·exact wpAny_Name (wpAny_loadName_free I.ok.kind hk hc hcell fin hcd) hd
theorem zai {i j pos}:PE X (.Constant (.int i) j pos) (tC (.int i)):=λ_ _ _ H _ I h=>wpAny_Constant_int ⟨.int i,H,I.tok _,⟨_,rfl⟩,h⟩
theorem ziY {b j pos}:PE X (.Constant (.bool b) j pos) (tC (.bl b)):=λ_ _ _ H _ I h=>Constant_bool ⟨.bl b,H,I,rfl,h⟩
theorem zfv {j pos}:PE X (.Constant .none j pos) (tC .non):=λ_ _ _ H _ I h=>Constant_none ⟨.non,H,I,rfl,h⟩
def Gl (X:Cx) (x:Str):Prop:=X.env.kindOf x=some .globalImplicit
theorem zjJ {E:Value->Shared->Prop} {pins:List (Addr×Obj)} {s:Shared} {σ:St} {H:Hp} {x:Str} {u:Value} {pos:Pos} {Q:Value->Shared->Prop} (I:Inv X pins σ H s) (hg:Gl X x) (hm:X.mg x=some u) (h:Q u s)
  (hd:(x==("__debug__" :Str))=false:=by decide):wpAny (model X.prog X.w) X.A (eval (.Name x pos) X.env) Q E s :=
 Calls.Name_function_global I.ok.kind hg (Calls.loadGlobal_global (by rw [I.ok.glob];exact I.mod.glob.keeps I.bk) hm h) hd
theorem zhT {E:Value->Shared->Prop} {pins:List (Addr×Obj)} {s:Shared} {σ:St} {H:Hp} {x:Str} {u:Value} {pos:Pos} {Q:Value->Shared->Prop} (I:Inv X pins σ H s) (hg:Gl X x) (hm:X.mg x=none) (hv:bootBuiltins x=some u) (h:Q u s)
  (hn:x≠"__name__":=by decide) (hd:(x==("__debug__" :Str))=false:=by decide):wpAny (model X.prog X.w) X.A (eval (.Name x pos) X.env) Q E s:=by
 obtain ⟨mb,h1,h2⟩:=I.mod.blt
 exact Calls.Name_function_global I.ok.kind hg (Calls.loadGlobal_builtin (by rw [I.ok.glob];exact I.mod.glob.keeps I.bk) hm (by rw [I.ok.blt];exact h1.keeps I.bk) ((h2 x hn).trans hv) h) hd
theorem zm3 {x:Str} {v:V} {u:Value} {pos:Pos} (hg:Gl X x) (hm:X.mg x=some u) (r:zdA v u) (hd:(x==("__debug__" :Str))=false:=by decide):PE X (.Name x pos) (tC v) :=
 λ_ _ _ H _ I h=>zjJ I hg hm ⟨v,H,I,r,h⟩ hd
variable {a b:Expr} {ta tb:TE} {pos:Pos}
def PC (X:Cx) (op:CmpOp) (a b:Expr) (t:TE):Prop :=
 ∀ (pins:List (Addr×Obj)) (s:Shared) (σ:St) (H:Hp) (Q:VK),Inv X pins σ H s->t σ H Q →
  wpAny (model X.prog X.w) X.A (eval a X.env) (λv s₁=>wpAny (model X.prog X.w) X.A (eval b X.env) (λu s₂=>wpAny (model X.prog X.w) X.A (compareOp op v u) (EP X pins σ Q) X.xe s₂) X.xe s₁) X.xe s
theorem znu (b:Expr) {op:CmpOp} (h:op≠.In) (h2:op≠.NotIn):behindInMarks op b=false:=by
 have e1:(op == CmpOp.In)=false:=by cases op<;>first | rfl | exact absurd rfl h
 have e2:(op == CmpOp.NotIn)=false:=by cases op<;>first | rfl | exact absurd rfl h2
 cases b<;>simp [behindInMarks,e1,e2]
def tB (t:TE):TT:=λσ H Q=>t σ H λx H1=>∃ c,x=.bl c∧Q c H1
theorem zs9 {op:CmpOp} {t:TE} (h:PC X op a b t) (h1:behindInMarks op b=false:=by first | exact znu _ (by decide) (by decide) | rfl):PT X (.Compare a [op] [b] pos) (tB t):=by
 intro pins s σ H Q I hw
 refine wpAny_isTrue_Compare1 (thn (h pins s σ H _ I hw) λv s1 h1=>thn h1 λu s2 h2=>thn h2 λc s3 ⟨x,H1,I1,r1,q1⟩=>?_) h1
 obtain ⟨d,rfl,q⟩:=q1
 cases r1
 exact wpAny_truthy_bool ⟨H1,I1,q⟩
theorem zlV {e:Expr} {t:TE} (h:PE X e t) (he:∀ whole,isTrue e X.env whole=(do let v ← whole;standAt e.pos;holding [v] (truthy v)):=by intro _;rfl):PT X e (tB t):=by
 intro pins s σ H Q I hw
 refine isTrue_plain (thn (h pins s σ H _ I hw) λv s1 ⟨x,H1,I1,r1,q1⟩=>?_) (he _)
 obtain ⟨d,rfl,q⟩:=q1
 cases r1
 exact wpAny_truthy_bool ⟨H1,I1,q⟩
variable {tA tB':TT} {rest:List Expr}
def zs0 (t u:TT):TT:=λσ H Q=>t σ H λc H1=>if c=true then u σ H1 Q else Q false H1
def tOr (t u:TT):TT:=λσ H Q=>t σ H λc H1=>if c=true then Q true H1 else u σ H1 Q
def zs3 (t:TT):TT:=λσ H Q=>t σ H λc H1=>Q (!c) H1
theorem zgw (ha:PT X a tA):PW X (.BoolOp .And [a] pos) tA:=by
 intro wh pins s σ H Q I h
 refine isTrue_and (thn (ha pins s σ H Q I h) λc s1 e=> ?_)
 cases c with
 | true=>exact isTrue_and_nil e
 | false=>exact e
theorem zkj (ha:PT X a tA):PW X (.BoolOp .Or [a] pos) tA:=by
 intro wh pins s σ H Q I h
 refine isTrue_or (thn (ha pins s σ H Q I h) λc s1 e=> ?_)
 cases c with
 | false=>exact isTrue_or_nil e
 | true=>exact e
theorem zhL (ha:PT X a tA) (hb:PW X (.BoolOp .And (b :: rest) pos) tB'):PW X (.BoolOp .And (a::b::rest) pos) (zs0 tA tB'):=by
 intro wh pins s σ H Q I h
 refine isTrue_and (thn (ha pins s σ H _ I h) λc s1 ⟨H1,I1,q1⟩=> ?_)
 cases c with
 | true=>exact hb wh pins s1 σ H1 Q I1 q1
 | false=>exact ⟨H1,I1,q1⟩
theorem znK (ha:PT X a tA) (hb:PW X (.BoolOp .Or (b :: rest) pos) tB'):PW X (.BoolOp .Or (a :: b :: rest) pos) (tOr tA tB'):=by
 intro wh pins s σ H Q I h
 refine isTrue_or (thn (ha pins s σ H _ I h) λc s1 ⟨H1,I1,q1⟩=> ?_)
 cases c with
 | true=>exact ⟨H1,I1,q1⟩
 | false=>exact hb wh pins s1 σ H1 Q I1 q1
theorem zm1 (ha:PT X a tA):PT X (.UnaryOp .Not a pos) (zs3 tA):=by
 intro pins s σ H Q I h
 exact isTrue_not (ha pins s σ H (λc H1=>Q (!c) H1) I h)
def zqZ (ta tb:TE):TE:=λσ H Q=>ta σ H λx H1=>∃ c,x=.bl c∧if c=true then tb σ H1 Q else Q (.bl false) H1
theorem zoz {op} {t:TE} (h:PE X a t):PE X (.BoolOp op [a] pos) t:=λpins s σ H Q I hw=>BoolOp_one (h pins s σ H Q I hw)
theorem zox (ha:PE X a ta) (hb:PE X (.BoolOp .And (b :: rest) pos) tb):PE X (.BoolOp .And (a::b::rest) pos) (zqZ ta tb):=by
 intro pins s σ H Q I h
 refine BoolOp_and (thn (ha pins s σ H _ I h) λv s1 ⟨x,H1,I1,r1,q1⟩=>?_)
 obtain ⟨c,rfl,q1⟩:=q1
 cases r1
 refine wpAny_truthy_bool ?_
 cases c with
 | true=>exact hb pins s1 σ H1 Q I1 q1
 | false=>exact ⟨.bl false,H1,I1,rfl,q1⟩
def tIf (t:TT) (ta tb:TE):TE:=λσ H Q=>t σ H λc H1=>if c=true then ta σ H1 Q else tb σ H1 Q
theorem zkJ {c:Expr} (hc:PT X c tA) (ha:PE X a ta) (hb:PE X b tb):PE X (.IfExp c a b pos) (tIf tA ta tb):=by
 intro pins s σ H Q I h
 refine wpAny_IfExp (thn (hc pins s σ H _ I h) λd s1 ⟨H1,I1,q1⟩=> ?_)
 cases d with
 | true=>exact ha pins s1 σ H1 Q I1 q1
 | false=>exact hb pins s1 σ H1 Q I1 q1
end
end L2
namespace L2
open PySem PySem.Spec PyProof.Rows
def SqL (K:W.Frag) (H:Hp) (a:Addr) (xs:List V):Prop :=
 Rd H a (.lst xs) ∨
  ∃ (o:Obj) (its:Array Value) (n:Nat),K.lookup a=some o∧o.cls=.type "list"∧o.dict=none∧o.data=.seq its n∧its.size≤sizeLine∧zb8 xs its.toList
def SqT (K:W.Frag) (H:Hp) (a:Addr) (xs:List V):Prop :=
 Rd H a (.tup xs) ∨
  ∃ (o:Obj) (its:Array Value) (n:Nat),K.lookup a=some o∧o.cls=.type "tuple"∧o.data=.seq its n∧its.size≤sizeLine∧zb8 xs its.toList
def ztq:Value->Option V
 | .none=>some .non
 | .bool b=>some (.bl b)
 | .int i _=>some (.int i)
 | .str x _=>some (.str x)
 | .bytes b _=>some (.byt b)
 | .float b _=>some (.flt b)
 | .ref a=>some (.ref a)
 | .type n=>some (.ty n)
 | _=>none
theorem zdA.abs {x:V} {u:Value} (r:zdA x u):ztq u=some x:=by
 cases x with
 | non=>cases r;rfl
 | bl _=>cases r;rfl
 | int _=>obtain ⟨t,rfl⟩:=r;rfl
 | str _=>obtain ⟨t,rfl⟩:=r;rfl
 | byt _=>obtain ⟨t,rfl⟩:=r;rfl
 | flt _=>obtain ⟨t,rfl⟩:=r;rfl
 | ref _=>cases r;rfl
 | ty _=>cases r;rfl
theorem zdA.inj {x y:V} {u:Value} (r:zdA x u) (q:zdA y u):x=y:=Option.some.inj (r.abs.symm.trans q.abs)
theorem zb8.inj:∀ {xs ys:List V} {us:List Value},zb8 xs us->zb8 ys us->xs=ys
 | _,_,_,.nil,.nil=>rfl
 | _,_,_,.cons r t,.cons r' t'=>by rw [r.inj r',zb8.inj t t']
section
variable {X:Cx} {pins:List (Addr×Obj)} {σ:St} {H:Hp} {s:Shared} {a:Addr} {xs ys:List V}
theorem SqL.of {K:W.Frag} (h:H a=some (.lst xs)):SqL K H a xs:=.inl (.inl h)
theorem Inv.list (I:Inv X pins σ H s) (h:SqL X.K H a xs):∃ its:List Value,zb8 xs its∧PlainL s.heap a its.toArray∧xs.length≤sizeLine:=by
 rcases h with h | ⟨o,its,n,hk,hc,hd,hs,hz,r⟩
 ·obtain ⟨z,its,n,r,e⟩:=h.ok I.hok
  exact ⟨its,r,⟨_,n,e,rfl,rfl,rfl⟩,z⟩
 ·refine ⟨its.toList,r,⟨o,n,I.kIn a o hk,hc,hd,by simpa using hs⟩,?_⟩
  have e:=r.length
  simp only [Array.length_toList] at e
  omega
theorem Inv.tuple (I:Inv X pins σ H s) (h:SqT X.K H a xs):∃ its:List Value,zb8 xs its∧IsTup s.heap a its.toArray∧xs.length≤sizeLine:=by
 rcases h with h | ⟨o,its,n,hk,hc,hs,hz,r⟩
 ·obtain ⟨z,its,r,p⟩:=h.ok I.hok
  exact ⟨its,r,p,z⟩
 ·refine ⟨its.toList,r,⟨o,I.kIn a o hk,hc,n,by simpa using hs⟩,?_⟩
  have e:=r.length
  simp only [Array.length_toList] at e
  omega
theorem Inv.list_inj (I:Inv X pins σ H s) (h:SqL X.K H a xs) (h':SqL X.K H a ys):xs=ys:=by
 obtain ⟨its,r,⟨o,n,e,_,_,d⟩,_⟩:=I.list h
 obtain ⟨its',r',⟨o',n',e',_,_,d'⟩,_⟩:=I.list h'
 rw [e] at e';cases e'
 rw [d] at d'
 injection d' with d1 _
 have:its=its':=by simpa using congrArg Array.toList d1
 subst this
 exact r.inj r'
end
abbrev Cx.wish (X:Cx) (E:Value->Shared->Prop):Cx:={ X with xe:=E }
abbrev Cx.nox (X:Cx):Cx:=X.wish λ_ _=>False
theorem Cx.Ok.wish {X:Cx} (ok:X.Ok) (E:Value->Shared->Prop):(X.wish E).Ok :=
 ⟨ok.mod,ok.kind,ok.glob,ok.blt,ok.above,ok.inj,ok.has,ok.cab,ok.hd,ok.frames,ok.stk,ok.exf,ok.bs,ok.bsz,ok.noex,ok.exfs,ok.funs,ok.frf⟩
theorem Cx.Ok.unwish {X:Cx} {E:Value->Shared->Prop} (ok:(X.wish E).Ok):X.Ok :=
 ⟨ok.mod,ok.kind,ok.glob,ok.blt,ok.above,ok.inj,ok.has,ok.cab,ok.hd,ok.frames,ok.stk,ok.exf,ok.bs,ok.bsz,ok.noex,ok.exfs,ok.funs,ok.frf⟩
section
variable {X:Cx} {pins:List (Addr×Obj)} {σ:St} {H:Hp} {s:Shared} {E:Value->Shared->Prop}
theorem Inv.wish (I:Inv X pins σ H s) (E:Value->Shared->Prop):Inv (X.wish E) pins σ H s:=⟨I.ok.wish E,I.os,I.bare,I.base,I.loc,I.cell,I.free,I.freeC,I.pin,I.hok,I.len⟩
theorem Inv.unwish (I:Inv (X.wish E) pins σ H s):Inv X pins σ H s:=⟨I.ok.unwish,I.os,I.bare,I.base,I.loc,I.cell,I.free,I.freeC,I.pin,I.hok,I.len⟩
theorem SP.unwish {D:Ends} {f:Flow} {s':Shared} (h:SP (X.wish E) pins D f s'):SP X pins D f s':=by
 cases f with
 | next=>obtain ⟨σ',H',I,q⟩:=h;exact ⟨σ',H',I.unwish,q⟩
 | brk=>obtain ⟨σ',H',I,q⟩:=h;exact ⟨σ',H',I.unwish,q⟩
 | cont=>obtain ⟨σ',H',I,q⟩:=h;exact ⟨σ',H',I.unwish,q⟩
 | ret u=>obtain ⟨v,σ',H',I,r,q⟩:=h;exact ⟨v,σ',H',I.unwish,r,q⟩
end
section
variable {X:Cx} {st:Stmt} {rest:List Stmt} {t u:TS} {e:Expr} {te:TE} {pos:Pos}
def znY:TS:=λD σ H=>D.nx σ H
def zeM (t u:TS):TS:=λD σ H=>t { D with nx:=u D } σ H
theorem zag:PSs X [] znY:=λ_ _ σ H _ I h=>wpAny_execs_nil ⟨σ,H,I,h⟩
theorem zac (h1:PS X st t) (h2:PSs X rest u):PSs X (st :: rest) (zeM t u):=by
 intro pins s σ H D I h
 refine wpAny_execs_cons (thn (h1 pins s σ H { D with nx:=u D } I h) λf s1 q=>?_)
 cases f with
 | next =>
  obtain ⟨σ',H',I',q⟩:=q
  exact h2 pins s1 σ' H' D I' q
 | ret v=>exact q
 | brk=>exact q
 | cont=>exact q
theorem Inv.quiet {pins:List (Addr×Obj)} {σ:St} {H:Hp} {s:Shared} (I:Inv X pins σ H s):interactive X.env=false:=by simp [interactive,I.ok.kind]
def zoc (te:TE):TS:=λD σ H=>te σ H λ_ H1=>D.nx σ H1
theorem zcG (he:PE X e te) (hs:swapsWith e none pos.line X.env=pure false:=by rfl):PS X (.Expr e pos) (zoc te):=by
 intro pins s σ H D I h
 exact wpAny_Expr_any (thn (he pins s σ H _ I h) λv s1 ⟨x,H1,I1,r1,q1⟩=>⟨σ,H1,I1,q1⟩) I.quiet hs
def znn (te:TE):TS:=λD σ H=>te σ H D.rt
theorem zaN (he:PE X e te):PS X (.Return (some e) pos) (znn te):=by
 intro pins s σ H D I h
 exact wpAny_Return_some (thn (he pins s σ H _ I h) λv s1 ⟨x,H1,I1,r1,q1⟩=>⟨x,σ,H1,I1,r1,q1⟩)
def zqX (c:TT) (t u:TS):TS:=λD σ H=>c σ H λb H1=>if b=true then t D σ H1 else u D σ H1
theorem zcI {c:Expr} {a b:List Stmt} {tc:TT} (hc:PT X c tc) (ha:PSs X a t) (hb:PSs X b u):PS X (.If c a b pos) (zqX tc t u):=by
 intro pins s σ H D I h
 refine wpAny_If (thn (hc pins s σ H _ I h) λd s1 ⟨H1,I1,q1⟩=> ?_)
 cases d with
 | true=>exact ha pins s1 σ H1 D I1 q1
 | false=>exact hb pins s1 σ H1 D I1 q1
def zra:TS:=λ_ _ _=>False
theorem zdG:PS X st zra:=λ_ _ _ _ _ _ h=>h.elim
end
abbrev TG:=V->St->Hp->(St->Hp->Prop)->Prop
abbrev TGs:=List V->St->Hp->(St->Hp->Prop)->Prop
def PG (X:Cx) (target:Expr) (t:TG):Prop :=
 ∀ (pins:List (Addr×Obj)) (s:Shared) (σ:St) (H:Hp) (v:V) (u:Value) (Q:St->Hp->Prop),Inv X pins σ H s->zdA v u->t v σ H Q →
  wpAny (model X.prog X.w) X.A (assign target X.env u) (λ_ s'=>∃σ' H',Inv X pins σ' H' s'∧Q σ' H') X.xe s
def PGs (X:Cx) (ts:List Expr) (t:TGs):Prop :=
 ∀ (pins:List (Addr×Obj)) (s:Shared) (σ:St) (H:Hp) (vs:List V) (us:List Value) (Q:St->Hp->Prop),Inv X pins σ H s->zb8 vs us->t vs σ H Q →
  wpAny (model X.prog X.w) X.A (assignInOrder ((assignEach ts X.env).map (·.2)) us) (λ_ s'=>∃σ' H',Inv X pins σ' H' s'∧Q σ' H') X.xe s
abbrev zsE:=V->V->V->Hp->(Hp->Prop)->Prop
def ztb (X:Cx) (t:zsE):Prop :=
 ∀ (pins:List (Addr×Obj)) (s:Shared) (σ:St) (H:Hp) (o i v:V) (ov iv u:Value) (Q:Hp->Prop),Inv X pins σ H s->zdA o ov->zdA i iv->zdA v u->t o i v H Q →
  wpAny (model X.prog X.w) X.A (setItem ov iv u) (λ_ s'=>∃ H',Inv X pins σ H' s'∧Q H') X.xe s
section
variable {X:Cx} {pos:Pos}
def zdz (i:Nat):TG:=λv σ H Q=>Q (σ.set i (some v)) H
theorem zao {i:Nat} {x:Str} (hN:X.N.Nodup) (hi:X.N[i]?=some x) (hx:Loc X.env.scope x) (hf:X.fn x=true∨X.env.scope.names.lookup x=some .local:=by first | exact .inl rfl | exact .inr rfl | assumption):PG X (.Name x pos) (zdz i):=by
 intro pins s σ H v u Q I r h
 exact wpAny_assign_Name (zkb I hN hi hx r (λs' I'=>⟨_,H,I',h⟩) hf)
def zrU:TGs:=λvs σ H Q=>vs=[]∧Q σ H
def zhp (t:TG) (u:TGs):TGs:=λvs σ H Q=>∃ v r,vs=v :: r∧t v σ H λσ' H'=>u r σ' H' Q
theorem zcj:PGs X [] zrU:=by
 intro pins s σ H vs us Q I r h
 obtain ⟨e,h⟩:=h
 subst e
 cases r
 exact assignInOrder_nil ⟨σ,H,I,h⟩
theorem zaF {e:Expr} {es:List Expr} {t:TG} {u:TGs} (h1:PG X e t) (h2:PGs X es u)
  (hs:(assignEach (e::es) X.env).map (·.2)=assign e X.env :: ((assignEach es X.env)).map (·.2):=by rfl):PGs X (e::es) (zhp t u):=by
 intro pins s σ H vs us Q I r h
 obtain ⟨v,vr,e1,h⟩:=h
 subst e1
 cases r with
 | cons r rr =>
  rw [hs]
  refine assignInOrder_cons (thn (h1 pins s σ H _ _ _ I r h) λ_ s1 ⟨σ1,H1,I1,q1⟩=>?_)
  exact h2 pins s1 σ1 H1 _ _ Q I1 rr q1
def zqM (K:W.Frag) (n:Nat) (t:TGs):TG:=λv σ H Q=>∃ a xs,v=.ref a∧SqT K H a xs∧xs.length=n∧t xs σ H Q
theorem zrI {es:List Expr} {k:Nat} {t:TGs} {n:Nat} (hc:X.calm=true) (h:PGs X es t)
  (hn:((assignEach es X.env)).length=n:=by rfl) (hst:((assignEach es X.env)).findIdx? (·.1)=none:=by rfl):PG X (.Tuple es k pos) (zqM X.K n t):=by
 intro pins s σ H v u Q I r hw
 obtain ⟨a,xs,e1,hq,hl,hw⟩:=hw
 subst e1
 cases r
 obtain ⟨its,rv,ht,hz⟩:=I.tuple hq
 refine assign_Tuple_tuple (I.ok.hd hc) ht (by simp [hn,← hl,rv.length]) hst λh' hx=>?_
 have I1:Inv X pins σ H { s with heap:=h' }:=I.kept (t':=s.toks) λb o e=>hx b o (Nat.ne_of_lt (Heap.lt_size e)) e
 exact h pins _ σ H xs _ Q I1 (by simpa using rv) hw
def zqh (to ti:TE) (t:zsE):TG:=λv σ H Q=>to σ H λo H1=>ti σ H1 λi H2=>t o i v H2 λH3=>Q σ H3
theorem zh4 {o i:Expr} {to ti:TE} {t:zsE} (ho:PE X o to) (hi:PE X i ti) (hs:ztb X t)
  (ha:∀ v,assign (.Subscript o i pos) X.env v=(do
   let ov ← holding [v] (eval o X.env)
   let iv ← holding [v,ov] (eval i X.env)
   standAt pos
   holding [v,ov,iv] (setItem ov iv v)
   release [v,ov,iv] []):=by intro _;rfl):PG X (.Subscript o i pos) (zqh to ti t):=by
 intro pins s σ H v u Q I r h
 rw [ha]
 refine wpAny_bind (wpAny_holding (thn (ho pins s σ H _ I h) λov s1 ⟨x,H1,I1,r1,q1⟩=>?_))
 refine wpAny_bind (wpAny_holding (thn (hi pins s1 σ H1 _ I1 q1) λiv s2 ⟨y,H2,I2,r2,q2⟩=>?_))
 refine wpAny_bind (wpAny_standAt (wpAny_bind (wpAny_holding (thn (hs pins s2 σ H2 x y v ov iv u _ I2 r1 r2 r q2) λ_ s3 ⟨H3,I3,q3⟩=>?_))))
 exact wpAny_release ⟨σ,H3,I3,q3⟩
def zkc (te:TE) (g:TG):TS:=λD σ H=>te σ H λx H1=>g x σ H1 D.nx
theorem zhv {tg e:Expr} {te:TE} {g:TG} (he:PE X e te) (hg:PG X tg g) (hs:swapsWithSole [tg] e pos.line X.env=pure false:=by rfl) (hw:swappedStores [tg] e X.env=pure none:=by rfl)
  (h1:(assignEach [tg] X.env).map (·.2)=[assign tg X.env]:=by rfl):PS X (.Assign [tg] e pos) (zkc te g):=by
 intro pins s σ H D I h
 refine wpAny_Assign_stores (thn (he pins s σ H _ I h) λv s1 ⟨x,H1,I1,r1,q1⟩=> ?_) hs hw
 rw [h1]
 exact thn (hg pins s1 σ H1 x v _ I1 r1 q1) λ_ s2 q=>q
theorem zar {i:Nat} {x:Str} {e:Expr} {te:TE} {pos':Pos} (hN:X.N.Nodup) (hi:X.N[i]?=some x) (hx:Loc X.env.scope x) (he:PE X e te) (hs:swapsWith e (some (.Name x pos')) pos.line X.env=pure false:=by rfl) (hf:X.fn x=true∨X.env.scope.names.lookup x=some .local:=by first | exact .inl rfl | exact .inr rfl | assumption) :
  PS X (.Assign [.Name x pos'] e pos) (zkc te (zdz i)):=by
 intro pins s σ H D I h
 refine wpAny_Assign_Name (thn (he pins s σ H _ I h) λv s1 ⟨y,H1,I1,r1,q1⟩=>?_) hs
 exact zkb I1 hN hi hx r1 (λs2 I2=>⟨_,H1,I2,q1⟩) hf
end
section
variable {X:Cx} {pos:Pos}
def zoH (c:TT) (tb:TS):TS:=λD σ H=>∃ W:Nat->St->Hp->Prop,(∃ m,W m σ H)∧∀ m σ H,W m σ H →
 c σ H λb H1=>if b=true then ∃ N:St->Hp->Prop,(∀ σ' H',N σ' H'->∃ m',m'<m∧W m' σ' H')∧tb { D with nx:=N,ct:=N,bk:=D.nx } σ H1 else D.nx σ H1
theorem znL {c:Expr} {body:List Stmt} {tc:TT} {tb:TS} (hp:PassesOwn (model X.prog X.w) X.A X.env X.xe) (hc:PT X c tc) (hb:PSs X body tb):PS X (.While c body [] pos) (zoH tc tb):=by
 intro pins s σ H D I h
 obtain ⟨W,⟨m0,w0⟩,turn⟩:=h
 refine wpAny_While (codeAny_whileLoop (λn s'=>∃ σ' H',Inv X pins σ' H' s'∧W n σ' H') ?_ m0 ⟨σ,H,I,w0⟩)
 rintro n s1 ⟨σ1,H1,I1,w1⟩
 refine wpAny_passesOwn hp (thn (hc pins s1 σ1 H1 _ I1 (turn n σ1 H1 w1)) λb s2 ⟨H2,I2,q2⟩=>?_)
 cases b with
 | true =>
  obtain ⟨N,hN,q2⟩:=q2
  rw [if_pos rfl]
  refine wpAny_passesOwn hp (thn (hb pins s2 σ1 H2 _ I2 q2) λf s3 q3=>?_)
  cases f with
  | next =>
   obtain ⟨σ3,H3,I3,n3⟩:=q3
   obtain ⟨m',hm,w3⟩:=hN σ3 H3 n3
   exact ⟨m',hm,σ3,H3,I3,w3⟩
  | cont =>
   obtain ⟨σ3,H3,I3,n3⟩:=q3
   obtain ⟨m',hm,w3⟩:=hN σ3 H3 n3
   exact ⟨m',hm,σ3,H3,I3,w3⟩
  | brk=>exact q3
  | ret v=>exact q3
 | false =>
  rw [if_neg Bool.false_ne_true]
  exact wpAny_execs_nil ⟨σ1,H2,I2,q2⟩
end
structure It where
 go:Nat->Hp->Prop
 yld:Nat->Hp->V->Hp->Prop
 stop:Nat->Hp->Prop
def zkt (X:Cx) (pins:List (Addr×Obj)) (H:Hp) (b:Addr):Prop :=
 H b=none∧b≠X.env.locals∧b ∉ X.fs∧(b∈X.ex∨X.s₀.heap.objs.size≤b)∧(∀x c,X.env.cells.lookup x=some c->c≠b)∧∀ p∈X.pn++pins,p.1≠b
theorem Inv.fpOk {X:Cx} {pins:List (Addr×Obj)} {σ:St} {H H':Hp} {s:Shared} {b:Addr} (I:Inv X pins σ H s) (hb:s.heap.objs.size≤b) (hn:H' b=none):zkt X pins H' b:=by
 refine ⟨hn,Nat.ne_of_gt (Nat.lt_of_lt_of_le I.lt hb),I.nofs hb,.inr (Nat.le_trans I.sz hb),λx c e z=>?_,λp hp z=>?_⟩
 ·obtain ⟨v,q⟩:=I.cell x c e
  exact absurd (Nat.lt_of_lt_of_le q.lt (by rw [z];exact hb)) (Nat.lt_irrefl _)
 ·exact absurd (Nat.lt_of_lt_of_le (Heap.lt_size (I.pin p hp).1) (by rw [z];exact hb)) (Nat.lt_irrefl _)
structure Turn (P:Program) (w:World) (K:W.Frag) (tg:Expr) (J:It) (fp:List Addr) (it:Addr) (tn:Nat->Heap->Prop):Prop where
 mem:it∈fp
 obj:∀ i h,tn i h->∀ b∈fp,∃ o,h.get? b=some o∧∀ v,o.data≠.cell v
 keep:∀ i h h',tn i h->(∀ b∈fp,∀ o,h.get? b=some o->h'.get? b=some o)->tn i h'
 item:∀ (X:Cx),X.prog=P->X.w=w->X.K=K->X.calm=true->∀ (i:Nat) (pins:List (Addr×Obj)) (s:Shared) (σ:St) (H:Hp) (E:Value->Shared->Prop),Inv X pins σ H s->(∀ b∈fp,zkt X pins H b)->tn i s.heap->J.go i H →
  wpAny (model P w) X.A (pyNext (.ref it)) (λr s1=>∃ u,r=some u ∧
   wpAny (model P w) X.A (letOwnedTupleGo tg (.ref it) u) (λ_ s2=>∃ x H',Inv X pins σ H' s2∧zdA x u∧J.yld i H x H'∧tn (i+1) s2.heap∧∀ b∈fp,H' b=none) E s1) E s
 done:∀ (X:Cx),X.prog=P->X.w=w->X.K=K->X.calm=true->∀ (i:Nat) (pins:List (Addr×Obj)) (s:Shared) (σ:St) (H:Hp) (E:Value->Shared->Prop),Inv X pins σ H s->(∀ b∈fp,zkt X pins H b)->tn i s.heap->J.stop i H →
  wpAny (model P w) X.A (pyNext (.ref it)) (λr s1=>r=none∧Inv X pins σ H s1) E s
 self:∀ (A:Around) (i:Nat) (s:Shared) (Q:Value->Shared->Prop) (E:Value->Shared->Prop),tn i s.heap->Q (.ref it) s->wpAny (model P w) A (pyIter (.ref it)) Q E s
abbrev TI:=St->Hp->(It->Hp->Prop)->Prop
def PIE (X:Cx) (pins:List (Addr×Obj)) (σ:St) (tg:Expr) (R:It->Hp->Prop) (itv:Value) (s2:Shared):Prop :=
 ∃ (it:Addr) (fp:List Addr) (tn:Nat->Heap->Prop) (J:It) (H':Hp),itv=.ref it∧Inv X pins σ H' s2∧Turn X.prog X.w X.K tg J fp it tn∧tn 0 s2.heap∧(∀ b∈fp,zkt X pins H' b)∧R J H'
def PI (X:Cx) (tg iter:Expr) (wi:TI):Prop :=
 ∀ (pins:List (Addr×Obj)) (s:Shared) (σ:St) (H:Hp) (R:It->Hp->Prop),Inv X pins σ H s->wi σ H R →
  wpAny (model X.prog X.w) X.A (eval iter X.env) (λv s1=>wpAny (model X.prog X.w) X.A (pyIter v) (PIE X pins σ tg R) X.xe s1) X.xe s
theorem zpP {M:Model} {A:Around} {E:Value->Shared->Prop} {s:Shared} {tg:Expr} {it:Addr} {u:Value} {o:Obj} {n:String} {vs:Array Value} {Q:Unit->Shared->Prop} (ho:s.heap.get? it=some o) (hc:o.cls=.type n) (hd:o.data=.fields vs)
  (hn:["enumerate","zip","dict_itemiterator","dict_reverseitemiterator","odict_iterator","itertools.zip_longest","itertools.pairwise"].contains n=false) (hQ:Q () s):wpAny M A (letOwnedTupleGo tg (.ref it) u) Q E s:=by
 unfold letOwnedTupleGo
 cases tg<;>first
  | exact wpAny_pure hQ
  | (cases u<;>first
    | exact wpAny_pure hQ
    | (refine wpAny_bind (wpAny_load ho ?_)
       rw [hc,hd]
       show wpAny M A (if (["enumerate","zip","dict_itemiterator","dict_reverseitemiterator","odict_iterator","itertools.zip_longest","itertools.pairwise"].contains n&&vs[0]? == some (rawInt _))=true then _ else _) Q E s
       rw [if_neg (by intro h;rw [hn,Bool.false_and] at h;cases h)]
       exact wpAny_pure hQ))
def Itl (K:W.Frag) (a:Addr):It :=
 ⟨λi H=>∃ xs x,SqL K H a xs∧xs[i]?=some x,λi H x H'=>H'=H∧∀ xs,SqL K H a xs->xs[i]?=some x,λi H=>∃ xs,SqL K H a xs∧xs.length≤i⟩
def Itr (lo:Int) (n:Nat):It:=⟨λi _=>i<n,λi H x H'=>H'=H∧x=.int (lo+i),λi _=>n≤i⟩
theorem zmi {P:Program} {w:World} {K:W.Frag} {tg:Expr} (a it:Addr):Turn P w K tg (Itl K a) [it] it (λi h=>h.IsListIter it a i) where
 mem:=by simp
 obj:=λi h st b hb=>by
  have e:b=it:=by simpa using hb
  subst e
  obtain ⟨o,e,c,d⟩:=st
  exact ⟨o,e,λv z=>by rw [d] at z;cases z⟩
 keep:=λi h h' st k=>st.at λo e=>k it (by simp) o e
 item:=by
  intro X hP hw hK hc i pins s σ H E I hf st hg
  subst hP hw hK
  obtain ⟨xs,x,hq,hx⟩:=hg
  obtain ⟨its,rv,p,hz⟩:=I.list hq
  obtain ⟨u,hu,ru⟩:=rv.get hx
  obtain ⟨f0,f1,f2,f3,f4,f5⟩:=hf it (by simp)
  refine wpAny_pyNext_list_item st p.isList (x:=u) (by simpa using hu) λh' st' sb=>?_
  have I1:Inv X pins σ H { s with heap:=h' }:=I.turned (t':=s.toks) (λb o hb e=>(sb.2 b hb).trans e) f0 f1 f3 f4 f5
  obtain ⟨o,e,c,d⟩:=id st'
  exact ⟨u,rfl,zpP (s:= {s with heap:=h'}) e c d (by decide) ⟨x,H,I1,ru,⟨rfl,λys hy=>by rw [I.list_inj hy hq];exact hx⟩,st',λb hb=>(hf b hb).1⟩⟩
 done:=by
  intro X hP hw hK hc i pins s σ H E I hf st hg
  subst hP hw hK
  obtain ⟨xs,hq,hx⟩:=hg
  obtain ⟨its,rv,p,hz⟩:=I.list hq
  obtain ⟨f0,f1,f2,f3,f4,f5⟩:=hf it (by simp)
  have hl:=rv.length
  exact wpAny_pyNext_list_end (I.ok.hd hc) st p.isList (by simp;omega) λh' eb=>⟨rfl,I.turned (t':=s.toks) (λb o hb e=>eb b o hb e) f0 f1 f3 f4 f5⟩
 self:=λ_ _ _ _ _ st h=>wpAny_pyIter_listiter st h
theorem zle {P:Program} {w:World} {K:W.Frag} {tg:Expr} (it:Addr) (lo:Int) (n:Nat):Turn P w K tg (Itr lo n) [it] it (λi h=>IsRangeIter h it (lo+(i:Nat)*1) ((n:Int)-(i:Nat)) 1) where
 mem:=by simp
 obj:=λi h st b hb=>by
  have e:b=it:=by simpa using hb
  subst e
  exact ⟨_,st,λv z=>by
   have z':Data.fields _=Data.cell v:=z
   cases z'⟩
 keep:=λi h h' st k=>k it (by simp) _ st
 item:=by
  intro X hP hw hK hc i pins s σ H E I hf st hg
  subst hP hw hK
  obtain ⟨f0,f1,f2,f3,f4,f5⟩:=hf it (by simp)
  have W:=Walks.range (prog:=X.prog) (w:=X.w) (I.ok.hd hc) it lo 1 n
  refine W.item i s _ _ hg st λv h' tk hv st' kk=>?_
  obtain ⟨t,rfl⟩:=hv
  have I1:Inv X pins σ H { s with heap:=h',toks:=tk }:=I.turned (λb o hb e=>kk b o (by simpa using hb) e) f0 f1 f3 f4 f5
  refine ⟨_,rfl,zpP (s:={ s with heap:=h',toks:=tk }) (n:="range_iterator") st' rfl rfl (by decide) ⟨.int (lo+i),H,I1,⟨t,?_⟩,⟨rfl,rfl⟩,st',λb hb=>(hf b hb).1⟩⟩
  rw [Int.mul_one]
 done:=by
  intro X hP hw hK hc i pins s σ H E I hf st hg
  subst hP hw hK
  obtain ⟨f0,f1,f2,f3,f4,f5⟩:=hf it (by simp)
  exact wpAny_pyNext_range_end (I.ok.hd hc) st (by have:n≤i:=hg;omega) λh' eb=>⟨rfl,I.turned (t':=s.toks) (λb o hb e=>eb b o hb e) f0 f1 f3 f4 f5⟩
 self:=λ_ _ _ _ _ st h=>wpAny_pyIter_rangeiter st h
end L2
namespace L2
open PySem PySem.Spec PyProof.Rows
section
variable {X:Cx} {tg:Expr}
def zn4 (K:W.Frag) (tl:TE):TI:=λσ H R=>tl σ H λx H1=>∃ a,x=.ref a∧(∃xs,SqL K H1 a xs)∧R (Itl K a) H1
theorem zpr {l:Expr} {tl:TE} (hl:PE X l tl):PI X tg l (zn4 X.K tl):=by
 intro pins s σ H R I h
 refine thn (hl pins s σ H _ I h) λv s1 ⟨x,H1,I1,r1,q1⟩=>?_
 obtain ⟨a,e,⟨xs,hq⟩,q⟩:=q1
 subst e
 cases r1
 obtain ⟨its,rv,p,hz⟩:=I1.list hq
 refine wpAny_pyIter_list p.isList ?_
 refine ⟨s1.heap.objs.size,[s1.heap.objs.size],_,_,H1,rfl,I1.kept (t':=s1.toks) λb o e=>Heap.get?_push_of_some _ e,zmi a _,⟨_,Heap.get?_push_size _ rfl,rfl,rfl⟩,λb hb=>?_,q⟩
 have e:b=s1.heap.objs.size:=by simpa using hb
 subst e
 exact I1.fpOk (Nat.le_refl _) (I1.hok.fresh (Nat.le_refl _))
theorem znO {pins:List (Addr×Obj)} {σ:St} {H:Hp} {s:Shared} {R:It->Hp->Prop} {E:Value->Shared->Prop} {lo hi:Int} {t u v:Tok} {tk:Nat} (I:Inv X pins σ H s) (h1:-(2^62)≤lo) (h2:lo<2^62) (h3:-(2^62)≤hi) (h4:hi<2^62)
  (q:R (Itr lo (hi-lo).toNat) H):wpAny (model X.prog X.w) X.A (pyIter (.ref s.heap.objs.size)) (PIE X pins σ tg R) E { s with heap:=s.heap.push { cls:=.type "range",data:=.fields #[.int lo t,.int hi u,.int 1 v] },toks:=tk }:=by
 refine wpAny_pyIter_range (IsRange.new ..) (small_one h1 h2 h3 h4) ?_
 have I1:Inv X pins σ H { s with heap:=s.heap.push { cls:=.type "range",data:=.fields #[.int lo t,.int hi u,.int 1 v] },toks:=tk }:=I.kept λb o e=>Heap.get?_push_of_some _ e
 refine ⟨((s.heap.push {cls:= .type "range",data:= .fields #[.int lo t,.int hi u,.int 1 v]})).objs.size,[((s.heap.push {cls:= .type "range",data:= .fields #[.int lo t,.int hi u,.int 1 v]})).objs.size],_,_,H,rfl,
  I1.kept (t':=tk) λb o e=>Heap.get?_push_of_some _ e,zle _ lo (hi-lo).toNat,?_,λb hb=>?_,q⟩
 ·have e1:lo+((0:Nat):Int)*1=lo:=by simp
  have e2:(((hi-lo).toNat:Nat):Int)-((0:Nat):Int)=Builtin.Range.rangeSize lo hi 1:=by rw [rangeSize_one];split<;>omega
  show IsRangeIter _ _ (lo+((0:Nat):Int)*1) ((((hi-lo).toNat:Nat):Int)-((0:Nat):Int)) 1
  rw [e1,e2]
  exact Heap.get?_push_size _ rfl
 ·have e:b=((s.heap.push {cls:= .type "range",data:= .fields #[.int lo t,.int hi u,.int 1 v]})).objs.size:=by simpa using hb
  subst e
  exact I1.fpOk (Nat.le_refl _) (I1.hok.fresh (Nat.le_refl _))
def zqq (ta:TA):TI:=λσ H R=>ta σ H λvs H1=>∃ j:Int,vs=[.int j]∧-(2^62)≤j∧j<2^62∧R (Itr 0 j.toNat) H1
theorem zdt {a:Expr} {ta:TA} {p pos:Pos} (hg:Gl X "range") (hm:X.mg "range"=none) (ha:PA X [a] ta) (hs:starEach [a] X.env=[(false,eval a X.env)]:=by rfl):PI X tg (.Call (.Name "range" p) [a] [] pos) (zqq ta):=by
 intro pins s σ H R I h
 refine Call_ (zhT I hg hm boot_range (PyProof.Rows.callWith_type1 (thn (ha pos pins s σ H _ I h) λus s1 ⟨vs,H1,I1,r1,q1⟩=> ?_) hs rfl))
 obtain ⟨j,e,q1,q2,q⟩:=q1
 subst e
 cases r1 with
 | cons r rr =>
  cases rr
  obtain ⟨t,rfl⟩:=r
  exact call_range_1 (znO I1 (by omega) (by omega) q1 q2 (by simpa using q))
def zq5 (wi:TI) (g:TG) (tb:TS):TS:=λD σ H=>wi σ H λJ H1=>∃ W:Nat->Nat->St->Hp->Prop,(∃ m,W 0 m σ H1)∧∀ i m σ H,W i m σ H →
 (J.stop i H∧D.nx σ H)∨(J.go i H∧∃ N:St->Hp->Prop,(∀ σ' H',N σ' H'->∃ m',m'<m∧W (i+1) m' σ' H')∧∀ x H',J.yld i H x H'->g x σ H' λσ2 H2=>tb { D with nx:=N,ct:=N,bk:=D.nx } σ2 H2)
def ziQ (fp:List Addr) (h:Heap):List (Addr×Obj):=fp.filterMap λb=>(h.get? b).map λo=>(b,o)
theorem zfg {fp:List Addr} {h:Heap} {b:Addr} {o:Obj} (hb:b∈fp) (e:h.get? b=some o):(b,o)∈ziQ fp h:=List.mem_filterMap.mpr ⟨b,hb,by rw [e];rfl⟩
theorem zlJ {fp:List Addr} {h:Heap} {p:Addr×Obj} (hp:p∈ziQ fp h):p.1∈fp∧h.get? p.1=some p.2:=by
 obtain ⟨b,hb,e⟩:=List.mem_filterMap.mp hp
 cases q:h.get? b with
 | none=>rw [q] at e;cases e
 | some o =>
  rw [q] at e
  have e':(b,o)=p:=Option.some.inj e
  subst e'
  exact ⟨hb,q⟩
theorem Inv.pinned {pins:List (Addr×Obj)} {σ:St} {H:Hp} {s:Shared} {fp:List Addr} (I:Inv X pins σ H s) (hf:∀ b∈fp,zkt X pins H b) (ho:∀ b∈fp,∃ o,s.heap.get? b=some o∧∀ v,o.data≠.cell v):Inv X (pins++ziQ fp s.heap) σ H s :=
 I.pins_of λp hp=>(List.mem_append.mp hp).elim (λz=>I.pin p (List.mem_append_right _ z)) λz=>by
  obtain ⟨hb,e⟩:=zlJ z
  obtain ⟨f0,f1,f2,_⟩:=hf p.1 hb
  obtain ⟨o,e',d⟩:=ho p.1 hb
  rw [e] at e';cases e'
  exact ⟨e,f0,f1,f2,d⟩
theorem Inv.unpinned {pins pl:List (Addr×Obj)} {σ:St} {H:Hp} {s:Shared} (I:Inv X (pins++pl) σ H s):Inv X pins σ H s:=I.pins_of λp hp=>I.pin p (List.mem_append_right _ (List.mem_append_left _ hp))
theorem zcE {iter:Expr} {body:List Stmt} {wi:TI} {g:TG} {tb:TS} {pos:Pos} (hp:PassesOwn (model X.prog X.w) X.A X.env X.xe) (hc:X.calm=true) (hi:PI X tg iter wi) (hg:PG X tg g) (hb:PSs X body tb)
  (hs:∀ x,foldedSetIterable iter X.env x=pure x:=by intro _;rfl):PS X (.For tg iter body [] pos) (zq5 wi g tb):=by
 intro pins s σ H D I h
 refine wpAny_For (thn (hi pins s σ H _ I h) λv s1 h1=>thn h1 λitv s2 h2=>?_) hs
 obtain ⟨it,fp,tn,J,H2,e,I2,T,st2,f2,W,⟨m0,w0⟩,turn⟩:=h2
 subst e
 have stat:∀ {H':Hp},(∀b∈fp,H' b=none)->∀ b∈fp,zkt X pins H' b:=λhn b hb=>⟨hn b hb,(f2 b hb).2⟩
 refine codeAny_forLoop_any (λn s'=>∃ i σ' H',Inv X pins σ' H' s'∧tn i s'.heap∧(∀b∈fp,H' b=none)∧W i n σ' H') ?_ m0 ⟨0,σ,H2,I2,st2,λb hb=>(f2 b hb).1,w0⟩
 rintro n s3 ⟨i,σ3,H3,I3,st3,fr3,w3⟩
 rcases turn i n σ3 H3 w3 with ⟨stop,qn⟩ | ⟨go,N,hN,step⟩
 ·refine wpAny_passesOwn hp (thn (T.done X rfl rfl rfl hc i pins s3 σ3 H3 X.xe I3 (stat fr3) st3 stop) λr s4 ⟨hr,I4⟩=>?_)
  subst hr
  exact wpAny_execs_nil ⟨σ3,H3,I4,qn⟩
 ·refine wpAny_passesOwn hp (thn (T.item X rfl rfl rfl hc i pins s3 σ3 H3 X.xe I3 (stat fr3) st3 go) λr s4 ⟨u,hr,h4⟩=>?_)
  subst hr
  refine wpAny_passesOwn hp (thn h4 λ_ s5 ⟨x,H5,I5,r5,y5,st5,fr5⟩=>?_)
  have I5':=I5.pinned (stat fr5) (T.obj _ _ st5)
  refine wpAny_passesOwn hp (thn (hg _ s5 σ3 H5 x u _ I5' r5 (step x H5 y5)) λ_ s6 ⟨σ6,H6,I6,q6⟩=>?_)
  refine wpAny_passesOwn hp (thn (hb _ s6 σ6 H6 _ I6 q6) λf s7 q7=>?_)
  have again:∀ {σ7:St} {H7:Hp},Inv X (pins++ziQ fp s5.heap) σ7 H7 s7->N σ7 H7->∃ m,m<n∧∃ i σ' H',Inv X pins σ' H' s7∧tn i s7.heap∧(∀b∈fp,H' b=none)∧W i m σ' H':=λ{σ7 H7} I7 n7=>by
   obtain ⟨m',hm,w7⟩:=hN σ7 H7 n7
   refine ⟨m',hm,i+1,σ7,H7,I7.unpinned,T.keep _ _ _ st5 λb hb o e=>(I7.pin (b,o) (List.mem_append_right _ (List.mem_append_right _ (zfg hb e)))).1,λb hb=>?_,w7⟩
   obtain ⟨o,e,d⟩:=T.obj _ _ st5 b hb
   exact (I7.pin (b,o) (List.mem_append_right _ (List.mem_append_right _ (zfg hb e)))).2.1
  cases f with
  | next=>obtain ⟨σ7,H7,I7,n7⟩:=q7;exact again I7 n7
  | cont=>obtain ⟨σ7,H7,I7,n7⟩:=q7;exact again I7 n7
  | brk=>obtain ⟨σ7,H7,I7,q7⟩:=q7;exact ⟨σ7,H7,I7.unpinned,q7⟩
  | ret v=>obtain ⟨x7,σ7,H7,I7,r7,q7⟩:=q7;exact ⟨x7,σ7,H7,I7.unpinned,r7,q7⟩
end
end L2
namespace L2
open PySem PySem.Spec PyProof.Rows
abbrev R2:=V->V->Hp->VK->Prop
def OpR (X:Cx) (f:Value->Value->Sem Value) (r:R2):Prop :=
 ∀ (pins:List (Addr×Obj)) (s:Shared) (σ:St) (H:Hp) (x y:V) (v u:Value) (Q:VK),Inv X pins σ H s->zdA x v->zdA y u->r x y H Q →
  wpAny (model X.prog X.w) X.A (f v u) (EP X pins σ Q) X.xe s
def UnR (X:Cx) (f:Value->Sem Value) (r:V->Hp->VK->Prop):Prop :=
 ∀ (pins:List (Addr×Obj)) (s:Shared) (σ:St) (H:Hp) (x:V) (v:Value) (Q:VK),Inv X pins σ H s->zdA x v->r x H Q →
  wpAny (model X.prog X.w) X.A (f v) (EP X pins σ Q) X.xe s
def zhm (X:Cx) (f:Value) (r:List V->Hp->VK->Prop):Prop :=
 ∀ (pins:List (Addr×Obj)) (s:Shared) (σ:St) (H:Hp) (xs:List V) (us:List Value) (Q:VK),Inv X pins σ H s->zb8 xs us->r xs H Q →
  wpAny (model X.prog X.w) X.A (call f us) (EP X pins σ Q) X.xe s
def tOp (r:R2) (ta tb:TE):TE:=λσ H Q=>ta σ H λx H1=>tb σ H1 λy H2=>r x y H2 Q
def tUn (r:V->Hp->VK->Prop) (ta:TE):TE:=λσ H Q=>ta σ H λx H1=>r x H1 Q
def rI (C:Int->Int->Prop) (g:Int->Int->V):R2:=λx y H Q=>∃ i j,x=.int i∧y=.int j∧C i j∧Q (g i j) H
def rI0 (g:Int->Int->V):R2:=λx y H Q=>∃ i j,x=.int i∧y=.int j∧Q (g i j) H
def rU (g:Int->V):V->Hp->VK->Prop:=λx H Q=>∃ i,x=.int i∧Q (g i) H
section
variable {X:Cx} {a b c:Expr} {ta tb tc:TE} {pos:Pos}
theorem zst (ha:PE X a ta) (hb:PE X b tb) {pins:List (Addr×Obj)} {s:Shared} {σ:St} {H:Hp} {R:V->V->Hp->Prop} (I:Inv X pins σ H s)
  (h:ta σ H λx H1=>tb σ H1 λy H2=>R x y H2) {Q:Value->Shared->Prop} {f:Value->Value->Sem Value}
  (hf:∀ v u s2 x y H2,Inv X pins σ H2 s2->zdA x v->zdA y u->R x y H2->wpAny (model X.prog X.w) X.A (f v u) Q X.xe s2) :
  wpAny (model X.prog X.w) X.A (eval a X.env) (λv s₁=>wpAny (model X.prog X.w) X.A (eval b X.env) (λu s₂=>wpAny (model X.prog X.w) X.A (f v u) Q X.xe s₂) X.xe s₁) X.xe s:=by
 refine thn (ha pins s σ H _ I h) λv s1 ⟨x,H1,I1,r1,q1⟩=>?_
 refine thn (hb pins s1 σ H1 _ I1 q1) λu s2 ⟨y,H2,I2,r2,q2⟩=>?_
 exact hf v u s2 x y H2 I2 r1 r2 q2
theorem zax {op:Operator} {r:R2} (ho:OpR X (binaryOp op) r) (ha:PE X a ta) (hb:PE X b tb):PE X (.BinOp a op b pos) (tOp r ta tb):=by
 intro pins s σ H Q I h
 exact wpAny_BinOp (zst ha hb I h λv u s2 x y H2 I2 rx ry q=>ho pins s2 σ H2 x y v u Q I2 rx ry q)
theorem zn9 {op:UnaryOp} {r:V->Hp->VK->Prop} (ho:UnR X (unaryOp op) r) (ha:PE X a ta):PE X (.UnaryOp op a pos) (tUn r ta):=by
 intro pins s σ H Q I h
 exact UnaryOp_ (thn (ha pins s σ H _ I h) λv s1 ⟨x,H1,I1,r1,q1⟩=>ho pins s1 σ H1 x v Q I1 r1 q1)
theorem opI {f:Value->Value->Sem Value} {C:Int->Int->Prop} {g:Int->Int->Int}
  (rule:∀ (i j:Int) (t u:Tok) (s:Shared) (Q:Value->Shared->Prop) (E:Value->Shared->Prop),C i j->Q (.int (g i j) s.toks) { s with toks:=s.toks+1 }->wpAny (model X.prog X.w) X.A (f (.int i t) (.int j u)) Q E s) :
  OpR X f (rI C λi j=>.int (g i j)):=by
 intro pins s σ H x y v u Q I rx ry h
 obtain ⟨i,j,rfl,rfl,hc,q⟩:=h
 obtain ⟨t,rfl⟩:=rx
 obtain ⟨t',rfl⟩:=ry
 exact rule i j t t' s _ _ hc ⟨.int (g i j),H,I.tok _,⟨_,rfl⟩,q⟩
theorem zs2 {f:Value->Value->Sem Value} {g:Int->Int->Int}
  (rule:∀ (i j:Int) (t u:Tok) (s:Shared) (Q:Value->Shared->Prop) (E:Value->Shared->Prop),Q (.int (g i j) s.toks) { s with toks:=s.toks+1 }->wpAny (model X.prog X.w) X.A (f (.int i t) (.int j u)) Q E s) :
  OpR X f (rI0 λi j=>.int (g i j)):=by
 intro pins s σ H x y v u Q I rx ry h
 obtain ⟨i,j,rfl,rfl,q⟩:=h
 obtain ⟨t,rfl⟩:=rx
 obtain ⟨t',rfl⟩:=ry
 exact rule i j t t' s _ _ ⟨.int (g i j),H,I.tok _,⟨_,rfl⟩,q⟩
theorem zsq {f:Value->Value->Sem Value} {g:Int->Int->Bool}
  (rule:∀ (i j:Int) (t u:Tok) (s:Shared) (Q:Value->Shared->Prop) (E:Value->Shared->Prop),Q (.bool (g i j)) s->wpAny (model X.prog X.w) X.A (f (.int i t) (.int j u)) Q E s) :
  OpR X f (rI0 λi j=>.bl (g i j)):=by
 intro pins s σ H x y v u Q I rx ry h
 obtain ⟨i,j,rfl,rfl,q⟩:=h
 obtain ⟨t,rfl⟩:=rx
 obtain ⟨t',rfl⟩:=ry
 exact rule i j t t' s _ _ ⟨.bl (g i j),H,I,rfl,q⟩
def ztj (i j:Int):Prop:=0≤j∧j≤1000000∧i.natAbs<2^64
theorem zcZ:OpR X (binaryOp .Add) (rI0 λi j=>.int (i+j)):=zs2 λ_ _ _ _ _ _ _ q=>add_int q
theorem zeN:OpR X (binaryOp .Sub) (rI0 λi j=>.int (i-j)):=zs2 λ_ _ _ _ _ _ _ q=>sub_int q
theorem zc0:OpR X (binaryOp .Mod) (rI (λ_ j=>0<j) λi j=>.int (i%j)):=opI λi j _ _ _ _ _ hc q=>by
 have h1:(0:Int)<j:=hc
 exact mod_int' (by omega) (by rw [Int.fmod_eq_emod_of_nonneg i (by omega)];exact q)
theorem zqd:OpR X (binaryOp .Pow) (rI ztj λi j=>.int (i^j.toNat)):=opI λ_ _ _ _ _ _ _ hc q=>pow_int_small hc.1 hc.2.1 hc.2.2 q
theorem unI {f:Value->Sem Value} {g:Int->Int}
  (rule:∀ (i:Int) (t:Tok) (s:Shared) (Q:Value->Shared->Prop) (E:Value->Shared->Prop),Q (.int (g i) s.toks) { s with toks:=s.toks+1 }->wpAny (model X.prog X.w) X.A (f (.int i t)) Q E s) :
  UnR X f (rU λi=>.int (g i)):=by
 intro pins s σ H x v Q I rx h
 obtain ⟨i,rfl,q⟩:=h
 obtain ⟨t,rfl⟩:=rx
 exact rule i t s _ _ ⟨.int (g i),H,I.tok _,⟨_,rfl⟩,q⟩
theorem zj9:UnR X (unaryOp .USub) (rU λi=>.int (-i)):=unI λ_ _ _ _ _ q=>neg_int q
end
def scal:V->V->Bool
 | .non,.non=>true | .non,.int _=>true | .int _,.non=>true | .non,.bl _=>true | .bl _,.non=>true | .non,.str _=>true | .str _,.non=>true
 | .int _,.int _=>true | .bl _,.bl _=>true | .str _,.str _=>true | .byt _,.byt _=>true
 | .int _,.str _=>true | .str _,.int _=>true | .bl _,.str _=>true | .str _,.bl _=>true
 | _,_=>false
def rEq:R2:=λx y H Q=>scal x y=true∧Q (.bl (decide (x=y))) H
def rNe:R2:=λx y H Q=>scal x y=true∧Q (.bl (!decide (x=y))) H
theorem zml {i j:Int}:decide (V.int i=V.int j)=(i == j):=by
 rw [Bool.eq_iff_iff]
 simp
theorem zou {i j:Bool}:decide (V.bl i=V.bl j)=(i == j):=by
 rw [Bool.eq_iff_iff]
 simp
theorem zlM {i j:Str}:decide (V.str i=V.str j)=(i == j):=by
 rw [Bool.eq_iff_iff]
 simp
theorem zma {i j:Array UInt8}:decide (V.byt i=V.byt j)=(i.toList == j.toList):=by
 rw [Bool.eq_iff_iff]
 cases i
 cases j
 simp
section
variable {X:Cx} {a b c:Expr} {ta tb tc:TE} {pos:Pos}
theorem zbu {pins:List (Addr×Obj)} {σ:St} {H:Hp} {s:Shared} {Q:VK} {k k':Bool} (I:Inv X pins σ H s) (q:Q (.bl k) H) (e:k=k'):EP X pins σ Q (.bool k') s:=by
 subst e
 exact ⟨.bl k,H,I,rfl,q⟩
theorem zf0:OpR X (compareOp .Eq) rEq:=by
 intro pins s σ H x y v u Q I rx ry h
 obtain ⟨hs,q⟩:=h
 cases x with
 | non =>
  cases rx
  cases y with
  | non=>cases ry;exact PySem.EqNone.eq_none_none (zbu I q (by simp))
  | bl j=>cases ry;exact PySem.EqNone.eq_none_bool (zbu I q (by simp))
  | int j=>obtain ⟨t',rfl⟩:=ry;exact PySem.EqNone.eq_none_int (zbu I q (by simp))
  | str j=>obtain ⟨t',rfl⟩:=ry;exact PySem.EqNone.eq_none_str (zbu I q (by simp))
  | _=>exact absurd (show false=true from hs) Bool.false_ne_true
 | bl i =>
  cases rx
  cases y with
  | non=>cases ry;exact PySem.EqNone.eq_bool_none (zbu I q (by simp))
  | bl j=>cases ry;exact eq_bool (zbu I q zou)
  | str j=>obtain ⟨t',rfl⟩:=ry;exact PySem.EqMixed.eq_bool_str (zbu I q (by simp))
  | _=>exact absurd (show false=true from hs) Bool.false_ne_true
 | int i =>
  obtain ⟨t,rfl⟩:=rx
  cases y with
  | non=>cases ry;exact PySem.EqNone.eq_int_none (zbu I q (by simp))
  | int j=>obtain ⟨t',rfl⟩:=ry;exact eq_int (zbu I q zml)
  | str j=>obtain ⟨t',rfl⟩:=ry;exact PySem.EqMixed.eq_int_str (zbu I q (by simp))
  | _=>exact absurd (show false=true from hs) Bool.false_ne_true
 | str i =>
  obtain ⟨t,rfl⟩:=rx
  cases y with
  | non=>cases ry;exact PySem.EqNone.eq_str_none (zbu I q (by simp))
  | bl j=>cases ry;exact PySem.EqMixed.eq_str_bool (zbu I q (by simp))
  | int j=>obtain ⟨t',rfl⟩:=ry;exact PySem.EqMixed.eq_str_int (zbu I q (by simp))
  | str j=>obtain ⟨t',rfl⟩:=ry;exact eq_str (zbu I q zlM)
  | _=>exact absurd (show false=true from hs) Bool.false_ne_true
 | byt i =>
  obtain ⟨t,rfl⟩:=rx
  cases y with
  | byt j=>obtain ⟨t',rfl⟩:=ry;exact W.eq_bytes (zbu I q zma)
  | _=>exact absurd (show false=true from hs) Bool.false_ne_true
 | _=>cases y<;>exact absurd (show false=true from hs) Bool.false_ne_true
theorem zgq:OpR X (compareOp .NotEq) rNe:=by
 intro pins s σ H x y v u Q I rx ry h
 obtain ⟨hs,q⟩:=h
 cases x with
 | non =>
  cases rx
  cases y with
  | non=>cases ry;exact PySem.EqNone.ne_none_none (zbu I q (by simp))
  | bl j=>cases ry;exact PySem.EqNone.ne_none_bool (zbu I q (by simp))
  | int j=>obtain ⟨t',rfl⟩:=ry;exact PySem.EqNone.ne_none_int (zbu I q (by simp))
  | str j=>obtain ⟨t',rfl⟩:=ry;exact PySem.EqNone.ne_none_str (zbu I q (by simp))
  | _=>exact absurd (show false=true from hs) Bool.false_ne_true
 | bl i =>
  cases rx
  cases y with
  | non=>cases ry;exact PySem.EqNone.ne_bool_none (zbu I q (by simp))
  | bl j=>cases ry;exact ne_bool (zbu I q (congrArg not zou))
  | str j=>obtain ⟨t',rfl⟩:=ry;exact PySem.EqMixed.ne_bool_str (zbu I q (by simp))
  | _=>exact absurd (show false=true from hs) Bool.false_ne_true
 | int i =>
  obtain ⟨t,rfl⟩:=rx
  cases y with
  | non=>cases ry;exact PySem.EqNone.ne_int_none (zbu I q (by simp))
  | int j=>obtain ⟨t',rfl⟩:=ry;exact ne_int (zbu I q (congrArg not zml))
  | str j=>obtain ⟨t',rfl⟩:=ry;exact PySem.EqMixed.ne_int_str (zbu I q (by simp))
  | _=>exact absurd (show false=true from hs) Bool.false_ne_true
 | str i =>
  obtain ⟨t,rfl⟩:=rx
  cases y with
  | non=>cases ry;exact PySem.EqNone.ne_str_none (zbu I q (by simp))
  | bl j=>cases ry;exact PySem.EqMixed.ne_str_bool (zbu I q (by simp))
  | int j=>obtain ⟨t',rfl⟩:=ry;exact PySem.EqMixed.ne_str_int (zbu I q (by simp))
  | str j=>obtain ⟨t',rfl⟩:=ry;exact ne_str (zbu I q (congrArg not zlM))
  | _=>exact absurd (show false=true from hs) Bool.false_ne_true
 | byt i =>
  obtain ⟨t,rfl⟩:=rx
  cases y with
  | byt j=>obtain ⟨t',rfl⟩:=ry;exact W.ne_bytes (zbu I q (congrArg not zma))
  | _=>exact absurd (show false=true from hs) Bool.false_ne_true
 | _=>cases y<;>exact absurd (show false=true from hs) Bool.false_ne_true
theorem ziU:OpR X (compareOp .Lt) (rI0 λi j=>.bl (decide (i<j))):=zsq λ_ _ _ _ _ _ _ q=>lt_int q
theorem zkZ:OpR X (compareOp .Gt) (rI0 λi j=>.bl (decide (j<i))):=zsq λ_ _ _ _ _ _ _ q=>gt_int q
theorem zsz:OpR X (compareOp .GtE) (rI0 λi j=>.bl (decide (j≤i))):=zsq λ_ _ _ _ _ _ _ q=>ge_int q
theorem zoG:OpR X (compareOp .Is) (λx y H Q=>y= .non∧Q (.bl (decide (x= .non))) H):=by
 intro pins s σ H x y v u Q I rx ry h
 obtain ⟨rfl,q⟩:=h
 cases ry
 refine is_none_gen (zbu I q ?_)
 cases x<;>first
  | (cases rx;rfl)
  | (obtain ⟨t,rfl⟩:=rx;rfl)
theorem zgS:OpR X (compareOp .IsNot) (λx y H Q=>y= .non∧Q (.bl (!decide (x= .non))) H):=by
 intro pins s σ H x y v u Q I rx ry h
 obtain ⟨rfl,q⟩:=h
 cases ry
 refine isnot_none_gen (zbu I q ?_)
 cases x<;>first
  | (cases rx;rfl)
  | (obtain ⟨t,rfl⟩:=rx;rfl)
theorem zaQ (b:Expr) {op:CmpOp} (h:op≠.In:=by decide) (h2:op≠.NotIn:=by decide):behindInMarks op b=false:=by
 have e1:(op == CmpOp.In)=false:=by cases op<;>first | rfl | exact absurd rfl h
 have e2:(op == CmpOp.NotIn)=false:=by cases op<;>first | rfl | exact absurd rfl h2
 cases b<;>simp [behindInMarks,e1,e2]
theorem zhq {op:CmpOp} {r:R2} (ho:OpR X (compareOp op) r) (ha:PE X a ta) (hb:PE X b tb) (hm:behindInMarks op b=false):PE X (.Compare a [op] [b] pos) (tOp r ta tb):=by
 intro pins s σ H Q I h
 exact wpAny_Compare1 (zst ha hb I h λv u s2 x y H2 I2 rx ry q=>ho pins s2 σ H2 x y v u Q I2 rx ry q) hm
def zrx (t:TE):TT:=λσ H Q=>t σ H λx H'=>∃ k,x=.bl k∧Q k H'
theorem zaI {op:CmpOp} {r:R2} (ho:OpR X (compareOp op) r) (ha:PE X a ta) (hb:PE X b tb) (hm:behindInMarks op b=false):PT X (.Compare a [op] [b] pos) (zrx (tOp r ta tb)):=by
 intro pins s σ H Q I h
 refine wpAny_isTrue_Compare1 (thn (ha pins s σ H _ I h) λv s1 ⟨x,H1,I1,r1,q1⟩=>thn (hb pins s1 σ H1 _ I1 q1) λu s2 ⟨y,H2,I2,r2,q2⟩ =>
  thn (ho pins s2 σ H2 x y v u _ I2 r1 r2 q2) λc s3 ⟨z,H3,I3,r3,k,e,q3⟩=>?_) hm
 subst e
 cases r3
 exact wpAny_truthy_bool ⟨H3,I3,q3⟩
theorem zka:(sizeLine:Nat)<2^63:=by rw [sizeLine_eq];decide
theorem zni {x:V} {us:List Value} (r:zb8 [x] us):∃ u,us=[u]∧zdA x u:=by
 cases r with
 | cons r1 r2=>cases r2;exact ⟨_,rfl,r1⟩
theorem zqx {x y:V} {us:List Value} (r:zb8 [x,y] us):∃ u w',us=[u,w']∧zdA x u∧zdA y w':=by
 cases r with
 | cons r1 r2 =>
  cases r2 with
  | cons r3 r4=>cases r4;exact ⟨_,_,rfl,r1,r3⟩
theorem zi7 (hc:X.calm=true):zhm X (.builtin "max") (λxs H Q=>∃i j,xs=[.int i,.int j]∧Q (.int (if j>i then j else i)) H):=by
 intro pins s σ H xs us Q I r h
 obtain ⟨i,j,rfl,q⟩:=h
 obtain ⟨u,w',rfl,⟨t,rfl⟩,⟨t',rfl⟩⟩:=zqx r
 refine max_two_ints (I.ok.hd hc) λh' tk k=>⟨_,H,I.kept k,?_,q⟩
 by_cases hj:j > i
 ·rw [if_pos hj,if_pos hj];exact ⟨_,rfl⟩
 ·rw [if_neg hj,if_neg hj];exact ⟨_,rfl⟩
theorem zlP (hc:X.calm=true):zhm X (.builtin "min") (λxs H Q=>∃i j,xs=[.int i,.int j]∧Q (.int (if j<i then j else i)) H):=by
 intro pins s σ H xs us Q I r h
 obtain ⟨i,j,rfl,q⟩:=h
 obtain ⟨u,w',rfl,⟨t,rfl⟩,⟨t',rfl⟩⟩:=zqx r
 refine min_two_ints (I.ok.hd hc) λh' tk k=>⟨_,H,I.kept k,?_,q⟩
 by_cases hj:j<i
 ·rw [if_pos hj,if_pos hj];exact ⟨_,rfl⟩
 ·rw [if_neg hj,if_neg hj];exact ⟨_,rfl⟩
theorem ziH:zhm X (.type "int") (λxs H Q=>(∃i,xs=[.int i]∧Q (.int i) H)∨∃k,xs=[.bl k]∧Q (.int (if k then 1 else 0)) H):=by
 intro pins s σ H xs us Q I r h
 rcases h with ⟨i,rfl,q⟩ | ⟨k,rfl,q⟩
 ·obtain ⟨u,rfl,t,rfl⟩:=zni r
  exact call_int_int ⟨.int i,H,I,⟨_,rfl⟩,q⟩
 ·obtain ⟨u,rfl,r1⟩:=zni r
  cases r1
  exact call_int_bool ⟨.int (if k then 1 else 0),H,I.tok _,⟨_,rfl⟩,q⟩
end
end L2
namespace L2
open PySem PySem.Spec PyProof.Rows
structure ObjM (h:Heap) (x dx C:Addr) (mA:Str->Option Value):Prop where
 obj:h.get? x=some (W.instObj C dx)
 ns:h.Ns1 dx mA
 ne:dx≠x
theorem zlU {h:Heap} {dx:Addr} {mA:Str->Option Value} (n:h.Ns1 dx mA):∃ od,h.get? dx=some od∧∀ name,W.lookIn name od=some (mA name):=by
 obtain ⟨o,es,ep,ho,hd,hk,_,hm⟩:=n
 refine ⟨o,ho,λname=>?_⟩
 have e:=hm name
 unfold nsFind findBy at e
 rw [← Array.find?_toList] at e
 unfold W.lookIn
 rw [hd]
 dsimp only
 split
 ·rename_i y q
  rw [q] at e
  exact congrArg some e
 ·rename_i q
  rw [q] at e
  have a:es.toList.any (·.refKey)=false:=by
   rw [List.any_eq_false]
   intro y hy
   obtain ⟨z,t,hkey⟩:=hk y (Array.mem_toList_iff.mp hy)
   simp [DictEntry.refKey,hkey]
  have a':¬ es.toList.any (·.refKey)=true:=by rw [a];exact Bool.false_ne_true
  rw [if_neg a']
  exact congrArg some e
theorem ObjM.look {h:Heap} {x dx C:Addr} {mA:Str->Option Value} (I:ObjM h x dx C mA):∃ od,W.InstAt h x (W.instObj C dx) C (some od)∧∀ name,W.lookIn name od=some (mA name) :=
 let ⟨od,ho,hl⟩:=zlU I.ns
 ⟨od,⟨I.obj,rfl,rfl,ho⟩,hl⟩
section
variable {prog:Program} {w:World} {A:Around} {E:Value->Shared->Prop} {s:Shared} {K:W.Frag} {x dx C f:Addr} {mA:Str->Option Value} {name:Str} {v:Value}
theorem zpy {expr:Bool} {Q:Value->Shared->Prop} (X:K.In s.heap) (I:ObjM s.heap x dx C mA) (hg:W.plainGet K C name=true) (hh:W.hasDictIn K C=true)
  (ha:W.findIn K (.ref C) name=some none) (hv:mA name=some v) (hv':W.handedIn v=true) (h:Q v { s with toks:=s.toks+1 }) :
  wpAny (model prog w) A (getAttr (.ref x) name expr) Q E s:=by
 obtain ⟨od,J,hl⟩:=I.look
 exact W.get_value X J (W.plainGet_of hg).1 (W.findObj_own hh ha rfl (by rw [hl,hv])) hv' h
theorem zpH {ns:List Str} {Q:Unit->Shared->Prop} (X:K.In s.heap) (I:ObjM s.heap x dx C mA)
  (hs:W.findIn K (.ref C) "__setattr__"=some (some (.builtin "object.__setattr__"))) (hp:W.plainOver K C=true) (ht:W.takerIn K C name=some none) (hh:W.hasDictIn K C=true)
  (hw:PySem.Within mA ns) (hsz:ns.length≤sizeLine)
  (h:∀ h',ObjM h' x dx C (λy=>if y=name then some v else mA y)->Heap.SameBut dx s.heap h'->Q () { s with heap:=h',toks:=s.toks+2 }) :
  wpAny (model prog w) A (setAttr (.ref x) name v) Q E s:=by
 obtain ⟨od,J,hl⟩:=I.look
 refine W.set_plain X J hs (W.osa_open (s:={ s with toks:=s.toks+1 }) (r:=none) X J hp ht λb=>?_)
 obtain ⟨cd,hc,hd'⟩:=W.any_some hh
 have hx:s.heap.get? x=some ⟨.ref C,some dx,.plain,#[]⟩:=I.obj
 refine wpAny_bind (wpAny_pure (wpAny_bind (wpAny_bind (wpAny_loadPart hx (wpAny_bind (W.Looks.here (s:={ s with toks:=s.toks+1 }) (W.looks_clsIn X hc) ?_))))))
 rw [hd']
 refine wpAny_pure (a:=some dx) (wpAny_bind (wpAny_pure (wpAny_bind ?_)))
 refine wpAny_nsSet1 (s:={ s with toks:=s.toks+1 }) I.ns λh' hn2 hs2=>?_
 obtain ⟨oD,esD,epD,hoD,hdD,hcD⟩:=hn2.count (PySem.Within.cons name v hw)
 refine wpAny_bind (wpAny_lookBehind hoD (by rw [hdD];exact pastItsLine_dict (Nat.le_trans hcD (by rw [List.length_cons];omega))) ?_)
 exact wpAny_pure (h _ ⟨(hs2.2 _ (Ne.symm I.ne)).trans I.obj,hn2,I.ne⟩ hs2)
theorem znT {R:Result->Shared->Prop} {vs:List Value} {kw:List (Str×Value)} (X:K.In s.heap) (hm:W.makesIn K C=true)
  (hi:W.findIn K (.ref C) "__init__"=some (some (.ref f))) (hf:W.typeIn K (.ref f)=some (.type "function"))
  (h:codeAny (model prog w) (A.under (.builtin "type.__call__" ⟨.ref C :: vs,kw⟩)) (.call (.ref f) ⟨.ref (s.heap.objs.size+1) :: vs,kw⟩) (W.InitBack (s.heap.objs.size+1) R)
   { s with heap:=((s.heap.push W.emptyDict)).push (W.instObj C s.heap.objs.size) }) :
  codeAny (model prog w) A (.call (.ref C) ⟨vs,kw⟩) R s:=by
 obtain ⟨hh,g,d,t,os⟩:=s
 exact W.make_core (W.makes_of X hm) (W.looks_findIn X hi) (λself=>W.bind_fn X self hf) (.inl rfl) h
end
def putF (f:Str) (v:V):List (Str×V)->List (Str×V)
 | []=>[(f,v)]
 | (g,x) :: r=>if g=f then (g,v) :: r else (g,x) :: putF f v r
theorem zg5 (f g:Str) (v:V):∀ fs:List (Str×V),(putF f v fs).lookup g=if g=f then some v else fs.lookup g
 | []=>by
  show List.lookup g [(f,v)]=_
  by_cases h:g=f
  ·have hb:(g == f)=true:=beq_iff_eq.mpr h
   simp only [List.lookup,hb,if_pos h]
  ·have hb:(g == f)=false:=beq_eq_false_iff_ne.mpr h
   simp only [List.lookup,hb,if_neg h]
 | (k,x) :: r=>by
  have ih:=zg5 f g v r
  rw [show putF f v ((k,x) :: r)=(if k=f then (k,v)::r else (k,x)::putF f v r) from rfl]
  by_cases hk:k=f
  ·rw [if_pos hk]
   by_cases h:g=k
   ·have hb:(g == k)=true:=beq_iff_eq.mpr h
    simp only [List.lookup,hb,if_pos (h.trans hk)]
   ·have hb:(g == k)=false:=beq_eq_false_iff_ne.mpr h
    simp only [List.lookup,hb,if_neg (λe:g=f=>h (e.trans hk.symm))]
  ·rw [if_neg hk]
   by_cases h:g=k
   ·have hb:(g == k)=true:=beq_iff_eq.mpr h
    simp only [List.lookup,hb,if_neg (λe:g=f=>hk (h.symm.trans e))]
   ·have hb:(g == k)=false:=beq_eq_false_iff_ne.mpr h
    simp only [List.lookup,hb]
    exact ih
theorem zgZ (f:Str) (v:V):∀ fs:List (Str×V),f∈(putF f v fs).map (·.1)∧∀ g,g∈fs.map (·.1)->g∈(putF f v fs).map (·.1)
 | []=>⟨by simp [putF],λg h=>by simp at h⟩
 | (k,x) :: r=>by
  obtain ⟨i1,i2⟩:=zgZ f v r
  rw [show putF f v ((k,x) :: r)=(if k=f then (k,v)::r else (k,x)::putF f v r) from rfl]
  by_cases hk:k=f
  ·rw [if_pos hk]
   subst hk
   exact ⟨by simp,λg h=>by simpa using h⟩
  ·rw [if_neg hk]
   refine ⟨?_,λg h=>?_⟩
   ·rw [List.map_cons]
    exact List.mem_cons_of_mem _ i1
   ·rw [List.map_cons] at h ⊢
    rcases List.mem_cons.mp h with e | e
    ·exact List.mem_cons.mpr (.inl e)
    ·exact List.mem_cons_of_mem _ (i2 g e)
theorem zhw (f:Str) (v:V):∀ fs:List (Str×V),(putF f v fs).length≤fs.length+1
 | []=>by simp [putF]
 | (k,x) :: r=>by
  have ih:=zhw f v r
  rw [show putF f v ((k,x) :: r)=(if k=f then (k,v)::r else (k,x)::putF f v r) from rfl]
  by_cases hk:k=f
  ·rw [if_pos hk,List.length_cons,List.length_cons];omega
  ·rw [if_neg hk,List.length_cons,List.length_cons];omega
theorem zpA.some_of {v:V} {o:Option Value} (r:zpA (some v) o):∃ u,o=some u∧zdA v u:=by
 cases o with
 | none=>exact (show False from r).elim
 | some u=>exact ⟨u,rfl,r⟩
theorem zmO {v:V} {u:Value} (r:zdA v u):W.handedIn u=true:=by
 cases v with
 | non=>cases (show u=Value.none from r);rfl
 | bl b=>cases (show u=Value.bool b from r);rfl
 | int i=>obtain ⟨t,e⟩:=(show ∃ t,u=Value.int i t from r);cases e;rfl
 | str x=>obtain ⟨t,e⟩:=(show ∃ t,u=Value.str x t from r);cases e;rfl
 | byt b=>obtain ⟨t,e⟩:=(show ∃ t,u=Value.bytes b t from r);cases e;rfl
 | flt b=>obtain ⟨t,e⟩:=(show ∃ t,u=Value.float b t from r);cases e;rfl
 | ref a=>cases (show u=Value.ref a from r);rfl
 | ty n=>cases (show u=Value.type n from r);rfl
section
variable {P:Program} {w:World} {H H':Hp} {h h':Heap} {a C dx:Addr} {fs fs':List (Str×V)}
theorem zlH (hok:HOk P w H h) (e:H a=some (.ins C dx fs)):∃ mA,ObjM h a dx C mA∧(∀ f,zpA (fs.lookup f) (mA f))∧PySem.Within mA (fs.map (·.1))∧fs.length≤1000∧H dx=some (.own a):=by
 obtain ⟨d,z,ne,ob,mA,n,r,q⟩:=(show zeO P w H h a (.ins C dx fs) from hok a _ e)
 exact ⟨mA,⟨ob,n,ne⟩,r,q,z,d⟩
end
structure Cls (K:W.Frag) (C:Addr):Prop where
 pg:W.plainGet K C Str.empty=true
 hd:W.hasDictIn K C=true
 po:W.plainOver K C=true
 sa:W.findIn K (.ref C) "__setattr__"=some (some (.builtin "object.__setattr__"))
theorem Cls.get {K:W.Frag} {C:Addr} (c:Cls K C) (f:Str):W.plainGet K C f=true:=c.pg
def NoAttr (K:W.Frag) (C:Addr) (f:Str):Prop:=W.findIn K (.ref C) f=some none
theorem NoAttr.taker {K:W.Frag} {C:Addr} {f:Str} (n:NoAttr K C f):W.takerIn K C f=some none:=by
 unfold W.takerIn
 rw [show W.findIn K (.ref C) f=some none from n]
 rfl
structure Con (K:W.Frag) (C:Addr) (f:Str) (v:V) (u:Value):Prop where
 at_:W.findIn K (.ref C) f=some (some u)
 rel:zdA v u
 get:W.specialIn K u "__get__"=some none
 cp:W.copiedNames.contains f=false
structure Meth (K:W.Frag) (C:Addr) (m:Str) (f:Addr):Prop where
 at_:W.findIn K (.ref C) m=some (some (.ref f))
 fn:W.isFn K (.ref f)=true
 kp:W.keepIn K (.ref f)=true
section
variable {X:Cx} {pins:List (Addr×Obj)} {σ:St} {H:Hp} {s:Shared} {a C dx:Addr} {fs:List (Str×V)} {f:Str} {v:V} {A:Around} {E:Value->Shared->Prop}
theorem zlm {b:Bool} {Q:Value->Shared->Prop} (I:Inv X pins σ H s) (e:H a=some (.ins C dx fs)) (c:Cls X.K C) (n:NoAttr X.K C f) (l:fs.lookup f=some v)
  (h:∀ u s',Inv X pins σ H s'->zdA v u->Q u s'):wpAny (model X.prog X.w) A (getAttr (.ref a) f b) Q E s:=by
 obtain ⟨mA,O,r,_,_,_⟩:=zlH I.hok e
 obtain ⟨u,hu,ru⟩:=zpA.some_of (v:=v) (o:=mA f) (by rw [← l];exact r f)
 exact zpy I.kIn O (c.get f) c.hd n hu (zmO ru) (h u _ (I.tok _) ru)
theorem zlb {y:V} {u:Value} {Q:Unit->Shared->Prop} (I:Inv X pins σ H s) (e:H a=some (.ins C dx fs)) (c:Cls X.K C) (n:NoAttr X.K C f) (hl:fs.length<1000) (ry:zdA y u)
  (h:∀ s',Inv X pins σ (upd H a (.ins C dx (putF f y fs))) s'->Q () s'):wpAny (model X.prog X.w) A (setAttr (.ref a) f u) Q E s:=by
 obtain ⟨mA,O,r,wi,_,ho⟩:=zlH I.hok e
 have hz:(fs.map (·.1)).length≤sizeLine:=by rw [List.length_map,sizeLine_eq];omega
 refine zpH I.kIn O c.sa c.po n.taker c.hd wi hz λh' O' sb=>h _ ?_
 have hd:∃ o,h'.get? dx=some o:=let ⟨o,_,_,e',_⟩:=O'.ns;⟨o,e'⟩
 refine I.write (x:=a) (e:=dx) (by rw [e];exact True.intro) (.inr ho) (λb q hb z=>(sb.2 b hb).trans z) hd ?_
 refine ⟨by rw [zay O.ne];exact ho,?_,O.ne,O'.obj,_,O'.ns,λg=>?_,λg hg=>?_⟩
 ·have:=zhw f y fs;omega
 ·show zpA ((putF f y fs).lookup g) (if g=f then some u else mA g)
  rw [zg5]
  by_cases q:g=f
  ·rw [if_pos q,if_pos q];exact ry
  ·rw [if_neg q,if_neg q];exact r g
 ·by_cases q:g=f
  ·rw [q];exact (zgZ f y fs).1
  ·refine (zgZ f y fs).2 g (wi g λz=>hg ?_)
   show (if g=f then some u else mA g)=none
   rw [if_neg q];exact z
theorem Inv.made (I:Inv X pins σ H s):Inv X pins σ (upd (upd H s.heap.objs.size (.own (s.heap.objs.size+1))) (s.heap.objs.size+1) (.ins C s.heap.objs.size []))
  { s with heap:=((s.heap.push W.emptyDict)).push (W.instObj C s.heap.objs.size) }:=by
 have e1:((s.heap.push W.emptyDict)).get? s.heap.objs.size=some W.emptyDict:=Heap.get?_push_size s.heap rfl
 have e2:(((s.heap.push W.emptyDict)).push (W.instObj C s.heap.objs.size)).get? (s.heap.objs.size+1)=some (W.instObj C s.heap.objs.size):=by
  have:=Heap.get?_push_size (s.heap.push W.emptyDict) (o:=W.instObj C s.heap.objs.size) rfl
  rwa [Heap.size_push] at this
 have e3:((s.heap.push W.emptyDict)).Ns s.heap.objs.size (λ_=>none):=⟨W.emptyDict,#[],_,e1,rfl,(λe he=>absurd he (by simp)),λ_=>rfl⟩
 have I1:=I.laid (a:=s.heap.objs.size) (o:=.own (s.heap.objs.size+1)) (h':=s.heap.push W.emptyDict) (t':=s.toks) (λb u q=>Heap.get?_push_of_some _ q) (Nat.le_refl _) ⟨_,e1⟩
 refine I1.laid (a:=s.heap.objs.size+1) (o:=.ins C s.heap.objs.size []) (t':=s.toks) (λb u q=>Heap.get?_push_of_some _ q) (Nat.le_of_eq (Heap.size_push _ _)) ?_
 have ne:s.heap.objs.size≠s.heap.objs.size+1:=Nat.ne_of_lt (Nat.lt_succ_self _)
 refine ⟨by rw [zay ne,zaH],Nat.zero_le _,ne,e2,λ_=>none,(Heap.Ns1.of_empty e3).at λo q=>Heap.get?_push_of_some _ q,λ_=>True.intro,λy hy=>absurd rfl hy⟩
theorem zpm {prog:Program} {w:World} {env:Env} {e:Expr} {f:Str} {pos:Pos} {s:Shared} {Q:Value->Shared->Prop} (hb:attributeBase e f env (eval e env)=eval e env)
  (h:wpAny (model prog w) A (eval e env) (λo s₁=>wpAny (model prog w) A (getAttr o f true) Q E s₁) E s):wpAny (model prog w) A (eval (.Attribute e f pos) env) Q E s :=
 Attribute_any_ h (by rw [arm_eval_Attribute,hb])
end
def tFld (K:W.Frag) (ta:TE) (f:Str):TE:=λσ H Q=>ta σ H λx H1=>∃ a C dx fs v,x=.ref a∧H1 a=some (.ins C dx fs)∧Cls K C∧NoAttr K C f∧fs.lookup f=some v∧Q v H1
def zsB (K:W.Frag) (ta tv:TE) (f:Str):TS:=λD σ H=>tv σ H λy H1=>ta σ H1 λx H2=>∃ a C dx fs,x=.ref a∧H2 a=some (.ins C dx fs)∧Cls K C∧NoAttr K C f∧fs.length<1000 ∧
 D.nx σ (upd H2 a (.ins C dx (putF f y fs)))
section
variable {X:Cx} {o e value:Expr} {f:Str} {pos pos' tpos:Pos} {ta tv:TE}
theorem zqr (he:PE X e ta) (hb:attributeBase e f X.env (eval e X.env)=eval e X.env):PE X (.Attribute e f pos) (tFld X.K ta f):=by
 intro pins s σ H Q I h
 refine zpm hb (thn (he pins s σ H _ I h) λu s1 ⟨x,H1,I1,rx,a,C,dx,fs,v,ex,ea,c,n,l,q⟩=>?_)
 subst ex
 obtain rfl:u=Value.ref a:=rx
 exact zlm I1 ea c n l λu' s2 I2 ru=>⟨v,H1,I2,ru,q⟩
theorem zjh (ha:PE X o ta) (hv:PE X value tv) (hs:swapsWith value (some (.Attribute o f pos')) pos.line X.env=pure false):PS X (.Assign [.Attribute o f pos'] value pos) (zsB X.K ta tv f):=by
 intro pins s σ H D I h
 refine plainObj_wpAny_Assign_Attribute (thn (hv pins s σ H _ I h) λu s1 ⟨y,H1,I1,ry,q⟩=>thn (ha pins s1 σ H1 _ I1 q) λov s2 ⟨x,H2,I2,rx,a,C,dx,fs,ex,ea,c,n,l,q2⟩=>?_) hs
 subst ex
 obtain rfl:ov=Value.ref a:=rx
 exact zlb I2 ea c n l ry λs3 I3=>⟨σ,_,I3,q2⟩
end
section
variable {X:Cx} {pins:List (Addr×Obj)} {σ:St} {H:Hp} {s:Shared} {A:Around} {E:Value->Shared->Prop} {Q:Value->Shared->Prop} {c:Value} {b:Bool}
inductive TyOf (K:W.Frag) (H:Hp):V->Value->Prop where
 | non:TyOf K H .non (.type "NoneType")
 | bl (x:Bool):TyOf K H (.bl x) (.type "bool")
 | int (i:Int):TyOf K H (.int i) (.type "int")
 | str (x:Str):TyOf K H (.str x) (.type "str")
 | flt (x:UInt64):TyOf K H (.flt x) (.type "float")
 | lst {a:Addr} {xs:List V} (e:H a=some (.lst xs)):TyOf K H (.ref a) (.type "list")
 | frz {a:Addr} {o:Obj} {xs:List V} (e:H a=some (.frz o (.lst xs))):TyOf K H (.ref a) (.type "list")
 | tup {a:Addr} {xs:List V} (e:H a=some (.tup xs)):TyOf K H (.ref a) (.type "tuple")
 | dK {a:Addr} {kvs:List (Key×V)} (e:H a=some (.dK kvs)):TyOf K H (.ref a) (.type "dict")
 | dT {a:Addr} {kvs:List (List Key×V)} (e:H a=some (.dT kvs)):TyOf K H (.ref a) (.type "dict")
 | ins {a C dx:Addr} {fs:List (Str×V)} (e:H a=some (.ins C dx fs)) (cl:Cls K C) (ha:W.findIn K (.ref C) "__class__"=some (some (.builtin "object.__class__")))
   (hn:W.specialIn K (.builtin "object.__class__") "__get__"=some (some (.builtin "getset_descriptor.__get__"))) (htk:W.takesIn K (.builtin "object.__class__")=some true)
   (hm:W.mroIn K C (.type "object")=some true):TyOf K H (.ref a) (.ref C)
end
end L2
namespace L2
open PySem PySem.Spec PyProof.Rows
structure Room (k:Nat) (A:Around):Prop where
 hd:A.handled=none
 dp:A.depth+3*k+5<recursionLimit
 un:A.units+16*k+200<cLine
theorem Room.mono {j k:Nat} {A:Around} (r:Room k A) (h:j≤k):Room j A:=⟨r.hd,by have:=r.dp;omega,by have:=r.un;omega⟩
theorem Room.deeper {k:Nat} {A:Around} (r:Room (k+1) A) (env:Env):Room k (A.deeper env) :=
 ⟨r.hd,by have:=r.dp;show A.depth+1+3*k+5<_;omega,by have:=r.un;show A.units+3+16*k+200<_;omega⟩
theorem Room.in1 {k:Nat} {A:Around} (r:Room (k+1) A):Room k A.in1 :=
 ⟨r.hd,by have:=r.dp;show A.depth+3*k+5<_;omega,by have:=r.un;show A.units+1+16*k+200<_;omega⟩
theorem zlp {A:Around} {C:Addr} {us:List Value} {kw:List (Str×Value)}:((A.under (.builtin "type.__call__" ⟨.ref C::us,kw⟩))).depth=A.depth+1:=by
 first | rfl | simp [Around.under,Code.weight,Code.isCreation,Code.isGuard,Code.isCaller,Code.frames,Code.isFrame,guardIds]
theorem zk2 {A:Around} {C:Addr} {us:List Value} {kw:List (Str×Value)}:((A.under (.builtin "type.__call__" ⟨.ref C::us,kw⟩))).units=A.units+1:=by
 first | rfl | simp [Around.under,Code.cUnits,Code.frames,Code.isFrame]
theorem Room.make {k:Nat} {A:Around} (r:Room (k+1) A) (C:Addr) (us:List Value) (kw:List (Str×Value)):Room k (A.under (.builtin "type.__call__" ⟨.ref C::us,kw⟩)) :=
 ⟨r.hd,by have:=r.dp;rw [zlp];omega,by have:=r.un;rw [zk2];omega⟩
theorem Room.depth {k:Nat} {A:Around} (r:Room k A):A.depth<recursionLimit:=by have:=r.dp;omega
theorem Room.units {k:Nat} {A:Around} (r:Room k A):A.units+64<cLine:=by have:=r.un;omega
def zkA:TA:=λ_ H Q=>Q [] H
def zfM (ta:TE) (tr:TA):TA:=λσ H Q=>ta σ H λx H1=>tr σ H1 λxs H2=>Q (x :: xs) H2
section
variable {X:Cx} {e:Expr} {es:List Expr} {te:TE} {t:TA} {pos:Pos}
theorem zdW:PA X [] zkA:=λ_ _ _ _ H Q I h=>Calls.spliced_nil ⟨[],H,I,.nil,h⟩
theorem zbD (ha:PE X e te) (hr:PA X es t) (hs:starEach (e::es) X.env=(false,eval e X.env) :: starEach es X.env:=by rfl):PA X (e::es) (zfM te t):=by
 intro pos pins s σ H Q I h
 rw [hs]
 show wpAny _ _ (spliced ((false,eval e X.env) :: backTo pos (starEach es X.env))) _ _ s
 refine Calls.spliced_cons (thn (ha pins s σ H _ I h) λu s1 ⟨x,H1,I1,r1,q1⟩=>?_)
 exact thn (hr pos pins s1 σ H1 _ I1 q1) λus s2 ⟨xs,H2,I2,r2,q2⟩=>⟨x :: xs,H2,I2,.cons r1 r2,q2⟩
def zsX (t:TA):TE:=λσ H Q=>t σ H λxs H1=>xs.length≤sizeLine∧∀ p,H1 p=none->Q (.ref p) (upd H1 p (.tup xs))
def zsn (t:TA):TE:=λσ H Q=>t σ H λxs H1=>xs.length≤sizeLine∧∀ p,H1 p=none->Q (.ref p) (upd H1 p (.lst xs))
theorem zho {x1} (h:PA X es t):PE X (.Tuple es x1 pos) (zsX t):=by
 intro pins s σ H Q I hq
 refine wpAny_Tuple_spliced (thn (h pos pins s σ H _ I hq) λus s1 ⟨xs,H1,I1,r,z,q⟩=>⟨by rw [←r.length];exact z,?_⟩)
 have hf:H1 s1.heap.objs.size=none:=I1.hok.fresh (Nat.le_refl _)
 refine ⟨.ref s1.heap.objs.size,upd H1 s1.heap.objs.size (.tup xs),I1.laid (t':=s1.toks) (λb u e=>Heap.get?_push_of_some _ e) (Nat.le_refl _) ?_,rfl,q _ hf⟩
 exact ⟨z,us,r,⟨_,Heap.get?_push_size _ rfl,rfl,_,rfl⟩⟩
theorem zcf (h:PA X es t):PE X (.List es pos) (zsn t):=by
 intro pins s σ H Q I hq
 refine wpAny_List_spliced (thn (h pos pins s σ H _ I hq) λus s1 ⟨xs,H1,I1,r,z,q⟩=>⟨by rw [←r.length];exact z,?_⟩)
 have hf:H1 s1.heap.objs.size=none:=I1.hok.fresh (Nat.le_refl _)
 refine ⟨.ref s1.heap.objs.size,upd H1 s1.heap.objs.size (.lst xs),I1.laid (t':=s1.toks) (λb u e=>Heap.get?_push_of_some _ e) (Nat.le_refl _) ?_,rfl,q _ hf⟩
 exact ⟨z,us,0,r,Heap.get?_push_size _ rfl⟩
end
abbrev Sp:=List V->Hp->VK->XK->Prop
abbrev CXT:=List Env->Hp->Shared->XK->Value->Shared->Prop
structure Env0 (P:Program) (w:World) (K:W.Frag) (mg:Str->Option Value) (base:Heap) (A:Around) (outer:List Env) (s:Shared) (H:Hp):Prop where
 frames:A.frames=some outer
 mod:Mod K mg base
 bs:∀ b o,base.get? b=some o->s.heap.get? b=some o∧H b=none
 bsz:base.objs.size≤s.heap.objs.size
 funs:s.heap.FunFrames base outer
 frf:∀ b∈frs outer,H b=none
 hok:HOk P w H s.heap
 bare:AllBare s.gens
def CE (outer:List Env) (P:Program) (w:World) (H:Hp) (s:Shared) (Q:VK) (u:Value) (s':Shared):Prop :=
 ∃ v H',s'.os=s.os∧AllBare s'.gens∧Un (frs outer) [] H H' s.heap s'.heap∧HOk P w H' s'.heap∧zdA v u∧Q v H'
def CR (CX:CXT) (outer:List Env) (P:Program) (w:World) (H:Hp) (s:Shared) (Q:VK) (E:XK) (r:Result) (s':Shared):Prop :=
 match r with
 | .ok (.ret u)=>CE outer P w H s Q u s'
 | .ok _=>False
 | .error e=>CX outer H s E e s'
structure FnOk (P:Program) (w:World) (K:W.Frag) (mg:Str->Option Value) (base:Heap) (CX:CXT) (k:Nat) (f:Addr) (fd:FuncData) (ps:List Str) (sp:Sp):Prop where
 len:∀ vs H Q E,sp vs H Q E->vs.length=ps.length
 run:∀ (A:Around) (outer:List Env) (s:Shared) (H:Hp) (args:Args) (us:List Value) (vs:List V) (Q:VK) (E:XK),Room k A->Env0 P w K mg base A outer s H->BindsTo s fd args (ps.zip us)->zb8 vs us->sp vs H Q E →
  codeAny (model P w) A (.call (.ref f) args) (CR CX outer P w H s Q E) s
theorem FnOk.imp {P:Program} {w:World} {K:W.Frag} {mg:Str->Option Value} {base:Heap} {CX:CXT} {k:Nat} {f:Addr} {fd:FuncData} {ps:List Str} {sp sp':Sp} (F:FnOk P w K mg base CX k f fd ps sp)
  (h:∀ vs H Q E,sp' vs H Q E->sp vs H Q E):FnOk P w K mg base CX k f fd ps sp' :=
 ⟨λvs H Q E q=>F.len vs H Q E (h _ _ _ _ q),λA outer s H args us vs Q E hr he hb hv hs=>F.run A outer s H args us vs Q E hr he hb hv (h _ _ _ _ hs)⟩
theorem Env0.make {P:Program} {w:World} {K:W.Frag} {mg:Str->Option Value} {base:Heap} {A:Around} {outer:List Env} {s:Shared} {H:Hp} (e:Env0 P w K mg base A outer s H) (C:Addr) (us:List Value) (kw:List (Str×Value)) :
  Env0 P w K mg base (A.under (.builtin "type.__call__" ⟨.ref C::us,kw⟩)) outer s H:=⟨by first | exact e.frames | (simpa [Around.under,Code.envs,Code.isFrame,pushEnvs] using e.frames),e.mod,e.bs,e.bsz,e.funs,e.frf,e.hok,e.bare⟩
theorem Env0.in1 {P:Program} {w:World} {K:W.Frag} {mg:Str->Option Value} {base:Heap} {A:Around} {outer:List Env} {s:Shared} {H:Hp} (e:Env0 P w K mg base A outer s H) :
  Env0 P w K mg base A.in1 outer s H:=⟨e.frames,e.mod,e.bs,e.bsz,e.funs,e.frf,e.hok,e.bare⟩
section
variable {X:Cx} {pins:List (Addr×Obj)} {σ:St} {H:Hp} {s s':Shared}
theorem Inv.env0 (I:Inv X pins σ H s):Env0 X.prog X.w X.K X.mg X.base X.A X.stack s H :=
 ⟨I.ok.frames,I.ok.mod,I.bs,Nat.le_trans I.ok.bsz I.sz,I.stack,I.stkFree,I.hok,I.bare⟩
theorem Inv.after {Q:VK} {u:Value} (I:Inv X pins σ H s) (h:CE X.stack X.prog X.w H s Q u s'):EP X pins σ Q u s':=by
 obtain ⟨v,H',os,bare,un,hok,r,q⟩:=h
 obtain ⟨hh,g,d,t,os'⟩:=s'
 obtain rfl:os'=s.os:=os
 exact ⟨v,H',I.call (h':=hh) (g':=g) (d':=d) (t':=t) (ch:=[]) un hok bare (λb z=>absurd z (by simp)),r,q⟩
end
def tCall (sp:Sp) (dvs:List V) (E:XK) (t:TA):TE:=λσ H Q=>t σ H λvs H1=>sp (vs++dvs) H1 Q E
def zpi (C:Addr) (sp:Sp) (dvs:List V) (E:XK) (t:TA):TE:=λσ H Q=>t σ H λvs H1=>∀ x dx,H1 x=none->H1 dx=none->dx≠x →
 sp (.ref x :: (vs++dvs)) (upd (upd H1 dx (.own x)) x (.ins C dx [])) (λv H2=>v=.non∧Q (.ref x) H2) E
def zgC (K:W.Frag) (fd:FuncData) (ps:List Str) (ds:List Value):Prop :=
 ∀ (s:Shared) (us:List Value),K.In s.heap->(us++ds).length=ps.length->BindsTo s fd ⟨us,[]⟩ (ps.zip (us++ds))
theorem zgC.all {K:W.Frag} {fd:FuncData} {ps:List Str} (h:∀ us:List Value,us.length=ps.length->bindArgs fd ⟨us,[]⟩=pure (ps.zip us)):zgC K fd ps []:=λs us _ hl=>by
 rw [List.append_nil] at hl ⊢
 exact .of_eq (h us hl)
def zhR (CX:CXT) (X:Cx) (E:XK):Prop:=∀ (pins:List (Addr×Obj)) (σ:St) (H:Hp) (s:Shared) (e:Value) (s':Shared),Inv X pins σ H s->CX X.stack H s E e s'->X.xe e s'
section
variable {X:Cx} {CX:CXT} {k:Nat} {f C:Addr} {fd:FuncData} {ps:List Str} {sp:Sp} {dvs:List V} {ds:List Value} {E:XK} {x m:Str} {p pos apos:Pos} {e o:Expr} {es:List Expr} {ta:TE} {t:TA}
theorem zrH {pins:List (Addr×Obj)} {σ:St} {H:Hp} {s:Shared} {Q:VK} {us:List Value} {vs:List V} (F:FnOk X.prog X.w X.K X.mg X.base CX k f fd ps sp) (hr:Room k X.A) (hb:zgC X.K fd ps ds) (hd:zb8 dvs ds) (hx:zhR CX X E)
  (I:Inv X pins σ H s) (r:zb8 vs us) (h:sp (vs++dvs) H Q E):wpAny (model X.prog X.w) X.A (call (.ref f) us) (EP X pins σ Q) X.xe s:=by
 have r2:zb8 (vs++dvs) (us++ds):=r.append hd
 have hl:(us++ds).length=ps.length:=by rw [← r2.length];exact F.len _ _ _ _ h
 refine wpAny_call (codeAny_mono (F.run X.A X.stack s H ⟨us,[]⟩ (us++ds) (vs++dvs) Q E hr I.env0 (hb s us I.kIn hl) r2 h) λr s' hq=>?_)
 cases r with
 | error e=>exact hx pins σ H s e s' I hq
 | ok fl =>
  cases fl with
  | ret u=>exact I.after hq
  | next=>exact False.elim hq
  | brk=>exact False.elim hq
  | cont=>exact False.elim hq
theorem zo3 (F:FnOk X.prog X.w X.K X.mg X.base CX k f fd ps sp) (hr:Room k X.A) (hg:Gl X x) (hm:X.mg x=some (.ref f)) (hk:W.keepIn X.K (.ref f)=true) (hb:zgC X.K fd ps ds) (hd:zb8 dvs ds) (hx:zhR CX X E)
  (ha:PA X (e::es) t) (hdb:(x==("__debug__" :Str))=false:=by decide) (he:starEach (e::es) X.env=(false,eval e X.env) :: starEach es X.env:=by rfl) (hpl:((backTo pos (starEach es X.env))).any (·.1)=false:=by rfl) :
  PE X (.Call (.Name x p) (e::es) [] pos) (tCall sp dvs E t):=by
 intro pins s σ H Q I h
 refine wpAny_Call_Name_kw (zjJ I hg hm ?_ hdb)
 refine W.callWith_K (h₀:=X.base) I.ok.mod.kin hk (thn (ha pos pins s σ H _ I h) λus s1 ⟨vs,H1,I1,r,q⟩=>⟨I1.kIn,?_⟩) he hpl
 exact zrH F hr hb hd hx I1 r q
structure Mk (K:W.Frag) (C f:Addr):Prop where
 makes:W.makesIn K C=true
 init:W.findIn K (.ref C) "__init__"=some (some (.ref f))
 fn:W.isFn K (.ref f)=true
 kp:W.keepIn K (.ref C)=true
theorem zn2 {pins:List (Addr×Obj)} {σ:St} {H:Hp} {s:Shared} {Q:VK} {us:List Value} {vs:List V} (M:Mk X.K C f) (F:FnOk X.prog X.w X.K X.mg X.base CX k f fd ps sp) (hr:Room (k+1) X.A) (hb:zgC X.K fd ps ds) (hd:zb8 dvs ds)
  (hx:zhR CX X E) (I:Inv X pins σ H s) (r:zb8 vs us)
  (h:∀ x dx,H x=none->H dx=none->dx≠x->sp (.ref x :: (vs++dvs)) (upd (upd H dx (.own x)) x (.ins C dx [])) (λv H2=>v=.non∧Q (.ref x) H2) E) :
  wpAny (model X.prog X.w) X.A (call (.ref C) us) (EP X pins σ Q) X.xe s:=by
 have hq:=h (s.heap.objs.size+1) s.heap.objs.size (I.hok.fresh (Nat.le_succ _)) (I.hok.fresh (Nat.le_refl _)) (Nat.ne_of_lt (Nat.lt_succ_self _))
 have I2:=Inv.made (C:=C) I
 have r2:zb8 (V.ref (s.heap.objs.size+1) :: (vs++dvs)) (Value.ref (s.heap.objs.size+1) :: (us++ds)):=.cons rfl (r.append hd)
 have hl:(Value.ref (s.heap.objs.size+1) :: us++ds).length=ps.length:=by
  have e:=r2.length
  rw [F.len _ _ _ _ hq] at e
  exact e.symm
 refine wpAny_call (znT (f:=f) I.kIn M.makes M.init (beq_iff_eq.mp M.fn) (codeAny_mono (F.run _ X.stack _ _ ⟨Value.ref (s.heap.objs.size+1) :: us,[]⟩ (Value.ref (s.heap.objs.size+1) :: (us++ds)) _ _ E (hr.make C us [])
  (I2.env0.make C us []) (hb _ (Value.ref (s.heap.objs.size+1) :: us) I2.kIn hl) r2 hq) λr s' hq'=>?_))
 cases r with
 | error e=>exact hx pins σ _ _ e s' I2 hq'
 | ok fl =>
  cases fl with
  | ret u =>
   obtain ⟨v,H',I3,rv,ev,q3⟩:=I2.after hq'
   subst ev
   exact ⟨rv,⟨V.ref (s.heap.objs.size+1),H',I3,rfl,q3⟩⟩
  | next=>exact False.elim hq'
  | brk=>exact False.elim hq'
  | cont=>exact False.elim hq'
theorem zjH (M:Mk X.K C f) (F:FnOk X.prog X.w X.K X.mg X.base CX k f fd ps sp) (hr:Room (k+1) X.A) (hg:Gl X x) (hm:X.mg x=some (.ref C)) (hb:zgC X.K fd ps ds) (hd:zb8 dvs ds) (hx:zhR CX X E)
  (ha:PA X (e::es) t) (hdb:(x==("__debug__" :Str))=false:=by decide) (he:starEach (e::es) X.env=(false,eval e X.env) :: starEach es X.env:=by rfl) (hpl:((backTo pos (starEach es X.env))).any (·.1)=false:=by rfl) :
  PE X (.Call (.Name x p) (e::es) [] pos) (zpi C sp dvs E t):=by
 intro pins s σ H Q I h
 refine wpAny_Call_Name_kw (zjJ I hg hm ?_ hdb)
 refine W.callWith_K (h₀:=X.base) I.ok.mod.kin M.kp (thn (ha pos pins s σ H _ I h) λus s1 ⟨vs,H1,I1,r,q⟩=>⟨I1.kIn,?_⟩) he hpl
 exact zn2 M F hr hb hd hx I1 r q
end
section
variable {X:Cx} {CX:CXT} {k:Nat} {f C:Addr} {fd:FuncData} {ps ks:List Str} {sp:Sp} {E:XK} {x m:Str} {p pos apos kpos:Pos} {e o:Expr} {es:List Expr} {kws:List Keyword} {te ta:TE} {t tk:TA} {nm:Option Str}
structure KBinds (K:W.Frag) (fd:FuncData) (ps ks:List Str) (g:List Value->List Value->List Value) (gV:List V->List V->List V):Prop where
 to:∀ (s:Shared) (us ws:List Value),K.In s.heap->(g us ws).length=ps.length->BindsTo s fd ⟨us,ks.zip ws⟩ (ps.zip (g us ws))
 rel:∀ {vs:List V} {us:List Value} {zs:List V} {ws:List Value},zb8 vs us->zb8 zs ws->zb8 (gV vs zs) (g us ws)
variable {g:List Value->List Value->List Value} {gV:List V->List V->List V}
end
structure FnScope (N P:List Str) (sc:Scope):Prop where
 kind:sc.kind=.function
 co:sc.isCoroutine=false
 gen:sc.isGenerator=false
 nd:N.Nodup
 pre:N.take P.length=P
 par:∀ x∈P,sc.names.lookup x=some .local∨sc.names.lookup x=some .cell
 nofree:∀ y∈sc.names,y.2≠.free
theorem ziK {kindOf:Str->Option NameKind} {x:Str}:∀ {binds:List (Str×Value)} {m:Str->Option Value},(∀ v,(x,v) ∉ binds)->bindL kindOf binds m x=m x
 | [],_,_=>rfl
 | (n,v) :: r,m,h=>by
  unfold bindL
  rw [ziK λw hw=>h w (List.mem_cons_of_mem _ hw)]
  split
  ·have:x≠n:=by rintro rfl;exact h v List.mem_cons_self
   simp [this]
  ·rfl
theorem zi4 {kindOf:Str->Option NameKind} {x:Str}:∀ {binds:List (Str×Value)} {m:Str->Option Value},(∀ v,(x,v) ∉ binds)->bindC kindOf binds m x=m x
 | [],_,_=>rfl
 | (n,v) :: r,m,h=>by
  unfold bindC
  rw [zi4 λw hw=>h w (List.mem_cons_of_mem _ hw)]
  split
  ·rfl
  ·have:x≠n:=by rintro rfl;exact h v List.mem_cons_self
   simp [this]
theorem zjc {kindOf:Str->Option NameKind} {x:Str} {v:Value}:∀ {P:List Str} {vs:List Value} {i:Nat} {m:Str->Option Value},P.Nodup->P[i]?=some x->vs[i]?=some v->kindOf x=some .local →
  bindL kindOf (P.zip vs) m x=some v
 | [],_,_,_,_,h,_,_=>by simp at h
 | _ :: _,[],_,_,_,_,h,_=>by simp at h
 | p :: P,w :: vs,0,m,nd,h1,h2,hk=>by
  simp at h1 h2;subst h1;subst h2
  show bindL kindOf ((p,w)::P.zip vs) m p=_
  unfold bindL
  rw [ziK λv hv=>((List.nodup_cons.mp nd)).1 (List.of_mem_zip hv).1,if_pos hk]
  simp
 | p :: P,w :: vs,i+1,m,nd,h1,h2,hk=>by
  show bindL kindOf ((p,w)::P.zip vs) m x=_
  unfold bindL
  exact zjc (i:=i) ((List.nodup_cons.mp nd)).2 (by simpa using h1) (by simpa using h2) hk
theorem ziR {kindOf:Str->Option NameKind} {x:Str} {v:Value}:∀ {P:List Str} {vs:List Value} {i:Nat} {m:Str->Option Value},P.Nodup->P[i]?=some x->vs[i]?=some v->kindOf x≠some .local →
  bindC kindOf (P.zip vs) m x=some v
 | [],_,_,_,_,h,_,_=>by simp at h
 | _ :: _,[],_,_,_,_,h,_=>by simp at h
 | p :: P,w :: vs,0,m,nd,h1,h2,hk=>by
  simp at h1 h2;subst h1;subst h2
  show bindC kindOf ((p,w)::P.zip vs) m p=_
  unfold bindC
  rw [zi4 λv hv=>((List.nodup_cons.mp nd)).1 (List.of_mem_zip hv).1,if_neg hk]
  simp
 | p :: P,w :: vs,i+1,m,nd,h1,h2,hk=>by
  show bindC kindOf ((p,w)::P.zip vs) m x=_
  unfold bindC
  exact ziR (i:=i) ((List.nodup_cons.mp nd)).2 (by simpa using h1) (by simpa using h2) hk
def start (N:List Str) (vs:List V):St:=vs.map some++List.replicate (N.length-vs.length) none
def zng (CX:CXT) (P:Program) (w:World) (K:W.Frag) (mg:Str->Option Value) (base:Heap) (N:List Str) (qual:Str) (scope:Scope) (f:Addr) (cd:Value) (A:Around) (outer:List Env) (s:Shared) (H:Hp) (E:XK):Cx where
 prog:=P
 w:=w
 K:=K
 mg:=mg
 base:=base
 A:=A.deeper (envOfC qual scope s.heap.objs.size f cd)
 N:=N
 s₀:=s
 H₀:=H
 env:=envOfC qual scope s.heap.objs.size f cd
 outer:=outer
 stack:=envOfC qual scope s.heap.objs.size f cd :: outer
 ex:=[]
 calm:=true
 fn:=λ_=>true
 pn:=[]
 xe:=λe s'=>wpAny (model P w) (A.deeper (envOfC qual scope s.heap.objs.size f cd)) (leaving (envOfC qual scope s.heap.objs.size f cd) e) (λ_ s''=>CX outer H s E e s'') (λe' s''=>CX outer H s E e' s'') s'
theorem zkN {sc:Scope} {n:Nat} {x:Str} (h:sc.names.lookup x=some .cell):∃ c,(cellsFrom n sc.names []).lookup x=some c:=by
 have q:=W.cellsFrom_some sc.names n [] (.inl h)
 exact Option.isSome_iff_exists.mp q
theorem zl3 {CX:CXT} {P:Program} {w:World} {K:W.Frag} {mg:Str->Option Value} {base:Heap} {N ps:List Str} {qual:Str} {scope:Scope} {f:Addr} {cd:Value} {A:Around} {outer:List Env} {s s1:Shared} {H:Hp} {E:XK} {us:List Value} {vs:List V}
  (S:FnScope N ps scope) (hd:A.handled=none) (e0:Env0 P w K mg base A outer s H) (hl:vs.length=ps.length) (r:zb8 vs us)
  (x:InCallC s s.heap.objs.size (bindL ((envOfC qual scope s.heap.objs.size f cd)).kindOf (ps.zip us) λ_=>none) (cellsFrom (s.heap.objs.size+1) scope.names []) (bindC ((envOfC qual scope s.heap.objs.size f cd)).kindOf (ps.zip us) λ_=>none) s1) :
  Inv (zng CX P w K mg base N qual scope f cd A outer s H E) [] (start N vs) H s1:=by
 have hpl:ps.length≤N.length:=by have:=congrArg List.length S.pre;rw [List.length_take] at this;omega
 obtain ⟨h1,tk,rfl,hk⟩:=x.done
 have noA:∀ b:Addr,b ∉ ((zng CX P w K mg base N qual scope f cd A outer s H E)).ex:=λb z=>absurd (show b∈([]:List Addr) from z) (by simp)
 refine ⟨⟨e0.mod,S.kind,rfl,rfl,Nat.le_refl _,λy z c h1 h2=>?_,λy hy=>?_,λy c _ h=>?_,λ_=>hd,Around.frames_deeper e0.frames,.inr ⟨rfl,rfl⟩,λb z=>absurd z (noA b),e0.bs,e0.bsz,λb _ _=>noA b,λb z=>absurd z (noA b),e0.funs,e0.frf⟩,
  rfl,e0.bare,Un.kept hk,⟨_,x.toInCall.ns,λi y v h1 h2 h3=>?_⟩,λy c h=>⟨_,x.cell y c h⟩,e0.hok.fresh (Nat.le_refl _),λy c h=>?_,λp hp=>absurd (show p∈([]:List (Addr×Obj)) from hp) (by simp),e0.hok.kept hk,?_⟩
 ·exact name_of_addr x.apart (PySem.mem_of_lookup h1) (PySem.mem_of_lookup h2)
 ·have hy:scope.names.lookup y=some .cell∨scope.names.lookup y=some .free:=hy
  rcases hy with hy | hy
  ·exact zkN hy
  ·exact absurd rfl (S.nofree _ (PySem.mem_of_lookup hy))
 ·exact Nat.le_of_lt (x.above y c (PySem.mem_of_lookup h))
 ·have hi:i<vs.length:=by
   unfold start at h2
   by_cases hi:i<vs.length
   ·exact hi
   ·rw [List.getElem?_append_right (by simpa using hi)] at h2
    rw [List.getElem?_replicate] at h2
    split at h2<;>cases h2
  have ha:vs[i]?=some v:=by
   unfold start at h2
   rw [List.getElem?_append_left (by simpa using hi),List.getElem?_map] at h2
   cases e:vs[i]? with
   | none=>rw [e] at h2;cases h2
   | some a=>rw [e] at h2;cases h2;rfl
  obtain ⟨u,hu,rv⟩:=r.get ha
  have hp:ps[i]?=some y:=by
   rw [← S.pre,List.getElem?_take_of_lt (by omega)];exact h1
  have ndP:ps.Nodup:=by rw [← S.pre];exact S.nd.sublist (List.take_sublist _ _)
  refine ⟨u,rv,?_⟩
  rcases S.par y (List.mem_of_getElem? hp) with k | k
  ·exact .inl ⟨k,zjc ndP hp hu k⟩
  ·obtain ⟨c,e⟩:=zkN (n:=s.heap.objs.size+1) k
   refine .inr ⟨.inl k,c,e,?_⟩
   have q:=x.cell y c e
   rw [ziR ndP hp hu (by show scope.names.lookup y≠_;rw [k];decide)] at q
   exact q
 ·exact e0.hok.fresh (Nat.le_of_lt (x.above y c (PySem.mem_of_lookup h)))
 ·unfold start
  show _=N.length
  rw [List.length_append,List.length_map,List.length_replicate]
  omega
theorem zsa {CX:CXT} {P:Program} {w:World} {K:W.Frag} {mg:Str->Option Value} {base:Heap} {k:Nat} {f:Addr} {name qual:Str} {params:Arguments} {body:List Stmt} {scope:Scope} {dV kV doc pm cdv ct oc:Value} {an od:Option Addr}
  {osl:Array (Option Value)} {N ps:List Str} {sp:Sp} (lk:K.lookup f=some ⟨oc,od,.func (W.fnOf name qual params body scope dV kV doc pm an cdv ct),osl⟩) (hcd:W.codeIn K cdv qual=true) (S:FnScope N ps scope)
  (len:∀ vs H Q E,sp vs H Q E->vs.length=ps.length)
  (hbody:∀ (A:Around) (outer:List Env) (s:Shared) (H:Hp) (vs:List V) (Q:VK) (E:XK),Room k (A.deeper (envOfC qual scope s.heap.objs.size f cdv))->sp vs H Q E →
   ∃ t,PSs (zng CX P w K mg base N qual scope f cdv A outer s H E) body t∧t { nx:=λ_ H'=>Q .non H',rt:=Q } (start N vs) H) :
  FnOk P w K mg base CX (k+1) f (W.fnOf name qual params body scope dV kV doc pm an cdv ct) ps sp:=by
 refine ⟨len,λA outer s H args us vs Q E hr e0 hb r hsp=>?_⟩
 have hl:=len _ _ _ _ hsp
 have KX:K.In s.heap:=e0.mod.kin.keeps λb o e=>(e0.bs b o e).1
 have lim:s.heap.NoLimit:=e0.mod.nolimit.keeps λb o e=>(e0.bs b o e).1
 have hkind:∀ y∈ps.zip us,scope.names.lookup y.1=some .local∨(scope.names.lookup y.1=some .cell∧((cellsFrom (s.heap.objs.size+1) scope.names []).lookup y.1).isSome=true):=λ⟨n,v⟩ hy=>by
  rcases S.par n (List.of_mem_zip hy).1 with q | q
  ·exact .inl q
  ·exact .inr ⟨q,W.cellsFrom_some _ _ _ (.inl q)⟩
 refine codeAny_call_function hr.depth (KX _ _ lk) rfl S.co S.gen rfl (W.codeRec_of KX hcd) (hb _ _ _ _ ?_)
 refine wpAny_newFunctionEnv_cells S.kind hkind λenv he s1 x=>?_
 subst he
 refine ⟨lim.keeps x.toInCall.keep,codeAny_func ?_⟩
 obtain ⟨t,ht,hq⟩:=hbody A outer s H vs Q E (hr.deeper _) hsp
 have I:Inv (zng CX P w K mg base N qual scope f cdv A outer s H E) [] (start N vs) H s1:=zl3 S hr.hd e0 hl r x
 refine wpAny_mono (ht [] s1 (start N vs) H _ I hq) (λfl s' hs=>?_) λe s' hs=>hs
 have fin:∀ {σ':St} {H':Hp} {v:V} {u:Value},Inv (zng CX P w K mg base N qual scope f cdv A outer s H E) [] σ' H' s'->zdA v u->Q v H'->CE outer P w H s Q u s' :=
  λ{σ' H' v u} J rv q=>⟨v,H',J.os,J.bare,J.base,J.hok,rv,q⟩
 cases fl with
 | ret u =>
  obtain ⟨v,σ',H',J,rv,q⟩:=hs
  exact fin J rv q
 | next =>
  obtain ⟨σ',H',J,q⟩:=hs
  exact fin (v:=V.non) (u:=Value.none) J rfl q
 | brk =>
  obtain ⟨_,_,_,q⟩:=hs
  exact False.elim q
 | cont =>
  obtain ⟨_,_,_,q⟩:=hs
  exact False.elim q
end L2
namespace L2
open PySem PySem.Spec PyProof.Rows
section
variable {X:Cx} {x:Str} {p pos:Pos} {e:Expr} {es:List Expr} {t:TA} {id T:String} {r:List V->Hp->VK->Prop}
def tCB (r:List V->Hp->VK->Prop) (t:TA):TE:=λσ H Q=>t σ H λvs H1=>r vs H1 Q
theorem za3 (hc:zhm X (.builtin id) r) (hg:Gl X x) (hm:X.mg x=none) (hv:bootBuiltins x=some (.builtin id)) (ha:PA X (e::es) t) (hn:x≠"__name__":=by decide) (hdb:(x==("__debug__" :Str))=false:=by decide)
  (he:starEach (e::es) X.env=(false,eval e X.env) :: starEach es X.env:=by rfl) (hpl:((backTo pos (starEach es X.env))).any (·.1)=false:=by rfl):PE X (.Call (.Name x p) (e::es) [] pos) (tCB r t):=by
 intro pins s σ H Q I h
 refine wpAny_Call_Name_kw (zhT I hg hm hv ?_ hn hdb)
 exact PyProof.Rows.callWith_builtin1 (thn (ha pos pins s σ H _ I h) λus s1 ⟨vs,H1,I1,r1,q1⟩=>hc pins s1 σ H1 vs us Q I1 r1 q1) he hpl
theorem zdQ (hc:zhm X (.type T) r) (hg:Gl X x) (hm:X.mg x=none) (hv:bootBuiltins x=some (.type T)) (ha:PA X (e::es) t) (hn:x≠"__name__":=by decide) (hdb:(x==("__debug__" :Str))=false:=by decide)
  (he:starEach (e::es) X.env=(false,eval e X.env) :: starEach es X.env:=by rfl) (hpl:((backTo pos (starEach es X.env))).any (·.1)=false:=by rfl):PE X (.Call (.Name x p) (e::es) [] pos) (tCB r t):=by
 intro pins s σ H Q I h
 refine wpAny_Call_Name_kw (zhT I hg hm hv ?_ hn hdb)
 exact PyProof.Rows.callWith_type1 (thn (ha pos pins s σ H _ I h) λus s1 ⟨vs,H1,I1,r1,q1⟩=>hc pins s1 σ H1 vs us Q I1 r1 q1) he hpl
end
end L2
namespace HT
open PySem PyProof.Rows
section
open PySem.SeqAt
open PySem.AutoSeq1 (wpAny_loadPart')
open PySem.MeetsSeq PySem.MeetsSeq2 PySem.MeetsSeq3
end
section
variable {prog:Program} {w:World} {A:Around} {E:Value->Shared->Prop} {s:Shared}
def sIx (n d:Nat):Option Int->Nat
 | none=>d
 | some v=>if v<0 then (v+(n:Int)).toNat else min v.toNat n
theorem sIx_none (n d:Nat):sIx n d none=d:=rfl
theorem sIx_nat (n d k:Nat):sIx n d (some (k:Int))=min k n:=by
 show (if (k:Int)<0 then ((k:Int)+(n:Int)).toNat else min (k:Int).toNat n)=min k n
 rw [if_neg (by omega),Int.toNat_natCast]
end
end HT
namespace L2
open PySem PySem.Spec PyProof.Rows
abbrev TO:=St->Hp->(Option Int->Hp->Prop)->Prop
def PO (X:Cx) (e:Option Expr) (t:TO):Prop :=
 ∀ (pins:List (Addr×Obj)) (s:Shared) (σ:St) (H:Hp) (Q:Option Int->Hp->Prop),Inv X pins σ H s->t σ H Q →
  wpAny (model X.prog X.w) X.A (evalPart e X.env) (λu s'=>∃ o H',Inv X pins σ H' s'∧IsPart u o∧Q o H') X.xe s
def zmu:TO:=λ_ H Q=>Q none H
def zry (t:TE):TO:=λσ H Q=>t σ H λx H1=>∃ i,x=.int i∧Q (some i) H1
section
variable {X:Cx} {e:Expr} {te:TE} {lo hi:Option Expr} {tl th:TO} {pos p2:Pos}
theorem zeQ:PO X none zmu:=by
 intro pins s σ H Q I h
 rw [evalPart_none]
 exact wpAny_pure ⟨none,H,I,.none,h⟩
theorem zcF (h:PE X e te):PO X (some e) (zry te):=by
 intro pins s σ H Q I hw
 rw [evalPart_some]
 refine thn (h pins s σ H _ I hw) λu s1 ⟨x,H1,I1,r1,q1⟩=>?_
 obtain ⟨i,rfl,q⟩:=q1
 obtain ⟨t,rfl⟩:=r1
 exact ⟨some i,H1,I1,.int i t,q⟩
def SlR (X:Cx) (r:V->Option Int->Option Int->Hp->VK->Prop):Prop :=
 ∀ (pins:List (Addr×Obj)) (s:Shared) (σ:St) (H:Hp) (x:V) (v vl vu:Value) (lo hi:Option Int) (sl:Addr) (Q:VK),Inv X pins σ H s->zdA x v->s.heap.IsSliceOf sl vl vu .none->IsPart vl lo->IsPart vu hi->r x lo hi H Q →
  ∃ T id,typeLookup (.type T) "__getitem__"=pure (some (.builtin id))∧s.TypeIs v T∧wpAny (model X.prog X.w) X.A (getItem v (.ref sl)) (EP X pins σ Q) X.xe s
def tSl (r:V->Option Int->Option Int->Hp->VK->Prop) (te:TE) (tl th:TO):TE:=λσ H Q=>te σ H λx H1=>tl σ H1 λl H2=>th σ H2 λu H3=>r x l u H3 Q
theorem zcM {r:V->Option Int->Option Int->Hp->VK->Prop} (hr:SlR X r) (he:PE X e te) (hl:PO X lo tl) (hu:PO X hi th):PE X (.Subscript e (.Slice lo hi none p2) pos) (tSl r te tl th):=by
 intro pins s σ H Q I h
 refine Subscript_ (thn (he pins s σ H _ I h) λv s1 ⟨x,H1,I1,r1,q1⟩=> ?_)
 refine wpAny_Slice (thn (hl pins s1 σ H1 _ I1 q1) λvl s2 ⟨l,H2,I2,pl,q2⟩=>thn (hu pins s2 σ H2 _ I2 q2) λvu s3 ⟨u,H3,I3,pu,q3⟩=>?_)
 rw [evalPart_none]
 refine wpAny_pure ?_
 have I4:Inv X pins σ H3 { s3 with heap:=s3.heap.push { cls:=.type "slice",data:=.fields #[vl,vu,.none] } }:=I3.kept (t':=s3.toks) λb ob q=>Heap.get?_push_of_some _ q
 obtain ⟨T,id,hT,ht,hg⟩:=hr pins { s3 with heap:=s3.heap.push { cls:=.type "slice",data:=.fields #[vl,vu,.none] } } σ H3 x v vl vu l u s3.heap.objs.size Q I4 r1 (Heap.IsSliceOf.new ..) pl pu q3
 show wpAny (model X.prog X.w) X.A (subscriptTail e (.Slice lo hi none p2) v (.ref s3.heap.objs.size)) (EP X pins σ Q) X.xe { s3 with heap:=s3.heap.push { cls:=.type "slice",data:=.fields #[vl,vu,.none] } }
 exact tail_any (ops:=[.ref s3.heap.objs.size,v]) ht hT hg (by with_unfolding_all rfl)
def zqp (xs:List V) (lo hi:Option Int):List V:=(xs.drop (HT.sIx xs.length 0 lo)).take (HT.sIx xs.length xs.length hi-HT.sIx xs.length 0 lo)
theorem zjK (xs:List V) (lo hi:Option Int):(zqp xs lo hi).length≤xs.length:=by
 unfold zqp
 rw [List.length_take,List.length_drop]
 omega
end
end L2
namespace L2
open PySem PySem.Spec PyProof.Rows
def ixN (n:Nat) (i:Int):Option Nat:=if 0≤i then (if i<n then some i.toNat else none) else if -(n:Int)≤i then some (i+n).toNat else none
def atI {α:Type} (xs:List α) (i:Int):Option α:=(ixN xs.length i).bind λj=>xs[j]?
theorem zmZ {n:Nat} {i:Int} {j:Nat} (h:ixN n i=some j):seqIndex? i n=some j∧j<n∧-(n:Int)≤i∧i<n:=by
 unfold ixN at h
 by_cases h0:0≤i
 ·rw [if_pos h0] at h
  by_cases h1:i<n
  ·rw [if_pos h1] at h
   have e:i.toNat=j:=Option.some.inj h
   exact ⟨by rw [seqIndex_of h0 h1,e],by omega,by omega,h1⟩
  ·rw [if_neg h1] at h;cases h
 ·rw [if_neg h0] at h
  by_cases h1:-(n:Int)≤i
  ·rw [if_pos h1] at h
   have e:(i+n).toNat=j:=Option.some.inj h
   exact ⟨by rw [seqIndex_neg (by omega) h1,e],by omega,h1,by omega⟩
  ·rw [if_neg h1] at h;cases h
theorem zm6 {α:Type} {xs:List α} {i:Int} {v:α} (h:atI xs i=some v):∃ j,seqIndex? i xs.length=some j∧xs[j]?=some v∧j<xs.length∧-(xs.length:Int)≤i∧i<xs.length:=by
 unfold atI at h
 cases e:ixN xs.length i with
 | none=>rw [e] at h;cases h
 | some j =>
  rw [e] at h
  obtain ⟨h1,h2,h3,h4⟩:=zmZ e
  exact ⟨j,h1,h,h2,h3,h4⟩
def zpp (b:Expr):Prop:=∀ o i,subscripted b false o i=operate [o,i] (getItem o i)
def IxR (X:Cx) (r:R2):Prop :=
 ∀ (value slice:Expr) (pins:List (Addr×Obj)) (s:Shared) (σ:St) (H:Hp) (x y:V) (v u:Value) (Q:VK),Inv X pins σ H s->zdA x v->zdA y u->r x y H Q →
  subscripted slice false v u=operate [v,u] (getItem v u)->wpAny (model X.prog X.w) X.A (subscriptTail value slice v u) (EP X pins σ Q) X.xe s
def MtR (X:Cx) (id:String) (r:V->List V->Hp->VK->Prop):Prop :=
 ∀ (pins:List (Addr×Obj)) (s:Shared) (σ:St) (H:Hp) (x:V) (xs:List V) (v:Value) (us:List Value) (Q:VK),Inv X pins σ H s->zdA x v->zb8 xs us->r x xs H Q →
  wpAny (model X.prog X.w) X.A (call (.builtin id) (v :: us)) (EP X pins σ Q) X.xe s
section
variable {X:Cx} {a b:Expr} {ta tb:TE} {pos:Pos}
theorem zbk {r:R2} (hr:IxR X r) (ha:PE X a ta) (hb:PE X b tb) (hs:zpp b):PE X (.Subscript a b pos) (tOp r ta tb):=by
 intro pins s σ H Q I h
 exact Subscript_ (zst ha hb I h λv u s2 x y H2 I2 rx ry q=>hr a b pins s2 σ H2 x y v u Q I2 rx ry q (hs _ _))
def zqc (K:W.Frag):R2:=λx y H Q=>∃ p xs i v,x=.ref p∧y=.int i∧SqL K H p xs∧atI xs i=some v∧Q v H
def zsD (K:W.Frag):R2:=λx y H Q=>∃ p xs i v,x=.ref p∧y=.int i∧SqT K H p xs∧atI xs i=some v∧Q v H
theorem zqb:IxR X (zqc X.K):=by
 intro value slice pins s σ H x y v u Q I rx ry h hs
 obtain ⟨p,xs,i,z,rfl,rfl,hq,he,q⟩:=h
 cases rx
 obtain ⟨t,rfl⟩:=ry
 obtain ⟨its,r,pl,hz⟩:=I.list hq
 obtain ⟨j,h1,h2,h3,h4,h5⟩:=zm6 he
 obtain ⟨w,ew,rw'⟩:=r.get h2
 have hl:=r.length
 have hn:=zka
 have fin:EP X pins σ Q w s:=⟨z,H,I,rw',q⟩
 by_cases h0:0≤i
 ·have hj:i.toNat=j:=by
   rw [seqIndex_of h0 h5] at h1
   exact Option.some.inj h1
  exact item_listR pl.isList h0 (by omega) (by rw [hj];simpa using ew) fin hs
 ·have hj:(i+(its.toArray.size:Int)).toNat=j:=by
   rw [seqIndex_neg (by omega) h4] at h1
   rw [List.size_toArray,← hl]
   exact Option.some.inj h1
  exact subscriptTail_builtinR (x:=w) pl.isList.typeIs slot_list_getitem.lookup
   (wpAny_getItem_list_neg (Q:=λr s'=>r=w∧EP X pins σ Q r s') pl.isList (by omega) (by rw [List.size_toArray]<;>omega) (by omega) (by rw [hj];simpa using ew) ⟨rfl,fin⟩) hs
theorem zqn:IxR X (zsD X.K):=by
 intro value slice pins s σ H x y v u Q I rx ry h hs
 obtain ⟨p,xs,i,z,rfl,rfl,hq,he,q⟩:=h
 cases rx
 obtain ⟨t,rfl⟩:=ry
 obtain ⟨its,r,pl,hz⟩:=I.tuple hq
 obtain ⟨j,h1,h2,h3,h4,h5⟩:=zm6 he
 obtain ⟨w,ew,rw'⟩:=r.get h2
 have hl:=r.length
 have hn:=zka
 have fin:EP X pins σ Q w s:=⟨z,H,I,rw',q⟩
 exact subscriptTail_builtinR (x:=w) pl.typeIs slot_tuple_getitem.lookup
  (getItem_tuple (j:=j) (Q:=λr s'=>r=w∧EP X pins σ Q r s') pl (by omega) (by omega) (by rw [List.size_toArray,← hl];exact h1) (by simpa using ew) ⟨rfl,fin⟩) hs
theorem zls (its:List Value) (n j:Nat) (u:Value):Obj.mapSeq (·.setIfInBounds j u) { cls:=.type "list",data:=.seq its.toArray n }={ cls:=.type "list",data:=.seq (its.set j u).toArray n }:=by
 simp [Obj.mapSeq]
theorem Inv.lst {pins:List (Addr×Obj)} {σ:St} {H:Hp} {s:Shared} {p:Addr} {xs:List V} (I:Inv X pins σ H s) (h:H p=some (.lst xs)) :
  ∃ (its:List Value) (n:Nat),zb8 xs its∧s.heap.get? p=some { cls:=.type "list",data:=.seq its.toArray n }∧xs.length≤sizeLine:=by
 obtain ⟨z,its,n,r,e⟩:=I.hok p _ h
 exact ⟨its,n,r,e,z⟩
theorem Inv.lstUpd {pins:List (Addr×Obj)} {σ:St} {H:Hp} {s:Shared} {p:Addr} {xs ys:List V} {its its':List Value} {n n':Nat} {f:Obj->Obj} (I:Inv X pins σ H s) (h:H p=some (.lst xs))
  (ho:s.heap.get? p=some { cls:=.type "list",data:=.seq its.toArray n }) (hf:f { cls:=.type "list",data:=.seq its.toArray n }={ cls:=.type "list",data:=.seq its'.toArray n' }) (r:zb8 ys its') (hz:ys.length≤sizeLine) (t:Nat) :
  Inv X pins σ (upd H p (.lst ys)) { s with heap:=s.heap.update p f,toks:=t }:=by
 have e:(s.heap.update p f).get? p=some { cls:=.type "list",data:=.seq its'.toArray n' }:=by
  rw [Heap.get?_update_self f ho (by rw [hf]<;>rfl),hf]
 refine I.write (x:=p) (e:=p) (by rw [h];trivial) (.inl rfl) (λb u hb q=>(Heap.get?_update_other _ _ (Ne.symm hb)).trans q) ⟨_,e⟩ ?_
 exact ⟨hz,its',n',r,e⟩
def zmg:V->V->V->Hp->(Hp->Prop)->Prop:=λo i v H Q=>∃ p xs k j,o=.ref p∧i=.int k∧H p=some (.lst xs)∧ixN xs.length k=some j∧Q (upd H p (.lst (xs.set j v)))
theorem zfd:ztb X zmg:=by
 intro pins s σ H o i v ov iv u Q I ro ri rv h
 obtain ⟨p,xs,k,j,rfl,rfl,hp,hj,q⟩:=h
 cases ro
 obtain ⟨t,rfl⟩:=ri
 obtain ⟨its,n,r,ho,hz⟩:=I.lst hp
 obtain ⟨h1,h2,h3,h4⟩:=zmZ hj
 have hl:=r.length
 have hn:=zka
 have I':Inv X pins σ (upd H p (.lst (xs.set j v))) { s with heap:=s.heap.update p (Obj.mapSeq (·.setIfInBounds j u)) } :=
  I.lstUpd hp ho (zls its n j u) (r.set rv j) (by rw [List.length_set];exact hz) s.toks
 by_cases h0:0≤k
 ·have hk:k.toNat=j:=by
   rw [seqIndex_of h0 h4] at h1
   exact Option.some.inj h1
  exact W.ki_setAt ho h0 (by omega) (by rw [List.size_toArray,← hl];exact h4) (by rw [hk];exact ⟨_,I',q⟩)
 ·have hk:(k+(its.toArray.size:Int)).toNat=j:=by
   rw [seqIndex_neg (by omega) h3] at h1
   rw [List.size_toArray,← hl]
   exact Option.some.inj h1
  exact W.ki_setBack ho (by omega) (by rw [List.size_toArray,← hl];exact h3) (by omega) (by rw [hk];exact ⟨_,I',q⟩)
theorem ziJ (lo hi:Option Int) (n:Nat):((sliceBounds lo hi none n)).1=((HT.sIx n 0 lo:Nat):Int)∧((sliceBounds lo hi none n)).2.1=((HT.sIx n n hi:Nat):Int)∧((sliceBounds lo hi none n)).2.2=1:=by
 refine ⟨?_,?_,rfl⟩
 ·cases lo with
  | none=>simp [sliceBounds,HT.sIx]
  | some i =>
   simp only [sliceBounds,HT.sIx,Option.getD_none,show (1:Int) > 0 by decide,if_true]
   by_cases h:i<0
   ·simp only [h,if_true]<;>omega
   ·simp only [h,if_false]<;>omega
 ·cases hi with
  | none=>simp [sliceBounds,HT.sIx]
  | some i =>
   simp only [sliceBounds,HT.sIx,Option.getD_none,show (1:Int) > 0 by decide,if_true]
   by_cases h:i<0
   ·simp only [h,if_true]<;>omega
   ·simp only [h,if_false]<;>omega
theorem zh9 (its:List Value) (lo hi:Option Int):slicePick its.toArray lo hi none=((its.drop (HT.sIx its.length 0 lo)).take (HT.sIx its.length its.length hi-HT.sIx its.length 0 lo)).toArray:=by
 obtain ⟨h1,h2,h3⟩:=ziJ lo hi its.toArray.size
 unfold slicePick
 rw [h1,h2,h3]
 simp only [sliceRange_one,pick_run,List.size_toArray]<;>rfl
def zrT (K:W.Frag):V->Option Int->Option Int->Hp->VK->Prop:=λx lo hi H Q=>∃ a xs,x=.ref a∧SqL K H a xs∧∀ p,H p=none->Q (.ref p) (upd H p (.lst (zqp xs lo hi)))
theorem zp9:SlR X (zrT X.K):=by
 intro pins s σ H x v vl vu lo hi sl Q I rx hs pl pu h
 obtain ⟨a,xs,rfl,hx,q⟩:=h
 cases rx
 obtain ⟨its,r,ht,hz⟩:=I.list hx
 have hlen:=r.length
 refine ⟨"list",_,slot_list_getitem.lookup,ht.isList.typeIs,?_⟩
 refine wpAny_getItem_list_slice ht.isList hs pl pu .none (by simp) ?_ (by rw [List.size_toArray]<;>omega)
 rw [zh9,← hlen]
 refine ⟨.ref s.heap.objs.size,_,I.laid (t':=s.toks) (o:=.lst (zqp xs lo hi)) (λb ob q=>Heap.get?_push_of_some _ q) (Nat.le_refl _) ?_,rfl,q _ (I.hok.fresh (Nat.le_refl _))⟩
 exact ⟨Nat.le_trans (zjK xs lo hi) hz,_,0,(r.drop (HT.sIx xs.length 0 lo)).take (HT.sIx xs.length xs.length hi-HT.sIx xs.length 0 lo),Heap.get?_push_size _ rfl⟩
def zns:V->Bool
 | .non=>true
 | .bl _=>true
 | .int _=>true
 | .str _=>true
 | _=>false
def eqV:V->V->Bool
 | .non,.non=>true
 | .bl a,.bl b=>a == b
 | .bl a,.int b=>(if a then 1 else 0) == b
 | .int a,.bl b=>a == (if b then 1 else 0)
 | .int a,.int b=>a == b
 | .str a,.str b=>a == b
 | _,_=>false
theorem zql {A:Around} {s:Shared} {y x:V} {u v:Value} (ry:zdA y u) (rx:zdA x v) (fy:zns y=true) (fx:zns x=true):SeqAt.EqAt A s u v (eqV y x):=by
 cases y with
 | non =>
  cases ry
  cases x with
  | non=>cases rx;exact SeqAt.EqAt.same _
  | bl b=>cases rx;exact SeqAt.EqAt.none_bool b
  | int b=>obtain ⟨t,rfl⟩:=rx;exact SeqAt.EqAt.none_int b t
  | str b=>obtain ⟨t,rfl⟩:=rx;exact SeqAt.EqAt.none_str b t
  | _=>exact absurd (show false=true from fx) Bool.false_ne_true
 | bl a =>
  cases ry
  cases x with
  | non=>cases rx;exact SeqAt.EqAt.bool_none a
  | bl b=>cases rx;exact SeqAt.EqAt.bool_bool a b
  | int b=>obtain ⟨t,rfl⟩:=rx;exact SeqAt.EqAt.bool_int a b t
  | str b=>obtain ⟨t,rfl⟩:=rx;exact SeqAt.EqAt.bool_str a b t
  | _=>exact absurd (show false=true from fx) Bool.false_ne_true
 | int a =>
  obtain ⟨t',rfl⟩:=ry
  cases x with
  | non=>cases rx;exact SeqAt.EqAt.int_none a t'
  | bl b=>cases rx;exact SeqAt.EqAt.int_bool a t' b
  | int b=>obtain ⟨t,rfl⟩:=rx;exact SeqAt.EqAt.int_int a t' b t
  | str b=>obtain ⟨t,rfl⟩:=rx;exact SeqAt.EqAt.int_str a t' b t
  | _=>exact absurd (show false=true from fx) Bool.false_ne_true
 | str a =>
  obtain ⟨t',rfl⟩:=ry
  cases x with
  | non=>cases rx;exact SeqAt.EqAt.str_none a t'
  | bl b=>cases rx;exact SeqAt.EqAt.str_bool a t' b
  | int b=>obtain ⟨t,rfl⟩:=rx;exact SeqAt.EqAt.str_int a t' b t
  | str b=>obtain ⟨t,rfl⟩:=rx;exact SeqAt.EqAt.str_str a t' b t
  | _=>exact absurd (show false=true from fx) Bool.false_ne_true
 | _=>exact absurd (show false=true from fy) Bool.false_ne_true
theorem zi8:zhm X (.builtin "len") (λxs H Q=>∃ p ys,xs=[.ref p]∧(SqL X.K H p ys∨SqT X.K H p ys)∧Q (.int ys.length) H):=by
 intro pins s σ H xs us Q I r h
 obtain ⟨p,ys,rfl,hq,q⟩:=h
 obtain ⟨u,rfl,rx⟩:=zni r
 cases rx
 have hn:=zka
 rcases hq with hq | hq
 ·obtain ⟨its,r',pl,hz⟩:=I.list hq
  have hlen:=r'.length
  exact Calls.call_len_list pl.isList (by simp only [List.size_toArray]<;>omega) ⟨.int ys.length,H,I.tok _,⟨s.toks+1,by rw [List.size_toArray,hlen]⟩,q⟩
 ·obtain ⟨its,r',pl,hz⟩:=I.tuple hq
  have hlen:=r'.length
  exact len_tuple pl (by simp only [List.size_toArray]<;>omega) ⟨.int ys.length,H,I.tok _,⟨s.toks+1,by rw [List.size_toArray,hlen]⟩,q⟩
theorem ziF:zhm X (.type "list") (λxs H Q=>∃ p ys,xs=[.ref p]∧(SqL X.K H p ys∨SqT X.K H p ys)∧∀ l,H l=none->Q (.ref l) (upd H l (.lst ys))):=by
 intro pins s σ H xs us Q I r h
 obtain ⟨p,ys,rfl,hq,q⟩:=h
 obtain ⟨u,rfl,rx⟩:=zni r
 cases rx
 have fin:∀ (its:List Value),zb8 ys its->ys.length≤sizeLine->∀ (h':Heap) (c':Nat),(∀ b o',s.heap.get? b=some o'->h'.get? b=some o') →
   h'.get? s.heap.objs.size=some { cls:=.type "list",dict:=none,data:=.seq its.toArray c',slots:=#[] }->EP X pins σ Q (.ref s.heap.objs.size) { s with heap:=h' }:=λits r' hz h' c' kp e =>
  ⟨.ref s.heap.objs.size,_,I.laid (t':=s.toks) kp (Nat.le_refl _) (show zeO X.prog X.w _ h' _ (.lst ys) from ⟨hz,its,c',r',e⟩),rfl,q _ (I.hok.fresh (Nat.le_refl _))⟩
 rcases hq with hq | hq
 ·obtain ⟨its,r',pl,hz⟩:=I.list hq
  have hlen:=r'.length
  obtain ⟨o,ho,hc,n,hd⟩:=pl.isList
  exact call_list_seq p (.inl rfl) ho hc hd (λh' c' kp e=>fin its r' hz h' c' kp e) (by simp only [List.size_toArray]<;>omega)
 ·obtain ⟨its,r',pl,hz⟩:=I.tuple hq
  have hlen:=r'.length
  obtain ⟨o,ho,hc,n,hd⟩:=pl
  exact call_list_seq p (.inr rfl) ho hc hd (λh' c' kp e=>fin its r' hz h' c' kp e) (by simp only [List.size_toArray]<;>omega)
def tyV (K:W.Frag) (T:String) (x:V) (H:Hp):Prop:=match x with
 | .str _=>T="str"
 | .int _=>T="int"
 | .ref p=>(T="list"∧∃ xs,SqL K H p xs)∨(T="tuple"∧∃ o,K.lookup p=some o∧o.cls=.type "tuple"∧o.dict=none) ∨
   (T="dict"∧((∃ kvs,H p=some (.dK kvs))∨∃ kvs,H p=some (.dT kvs)))∨(T="set"∧∃ S n,H p=some (.set S n))
 | _=>False
theorem zq2 {pins:List (Addr×Obj)} {σ:St} {H:Hp} {s:Shared} {T:String} {x:V} {v:Value} (I:Inv X pins σ H s) (r:zdA x v) (ty:tyV X.K T x H) :
  s.TypeIs v T∧∀ a,v=.ref a->∃ ob,s.heap.get? a=some ob∧ob.dict=none:=by
 cases x with
 | str z =>
  obtain ⟨t,rfl⟩:=r
  cases (show T="str" from ty)
  exact ⟨typeIs_str s z t,λ_ e=>nomatch e⟩
 | int i =>
  obtain ⟨t,rfl⟩:=r
  cases (show T="int" from ty)
  exact ⟨typeIs_int s i t,λ_ e=>nomatch e⟩
 | ref p =>
  cases r
  rcases ty with ⟨rfl,xs,hq⟩ | ⟨rfl,o,hk,hc,hd⟩ | ⟨rfl,hk⟩ | ⟨rfl,S,n,hk⟩
  ·obtain ⟨its,_,pl,_⟩:=I.list hq
   refine ⟨pl.isList.typeIs,λa e=>?_⟩
   cases e
   obtain ⟨o,n,e,c,hd,_⟩:=pl
   exact ⟨o,e,hd⟩
  ·refine ⟨⟨o,I.kIn p o hk,hc⟩,λa e=>?_⟩
   cases e
   exact ⟨o,I.kIn _ o hk,hd⟩
  ·have z:∃ o,s.heap.get? p=some o∧o.ExactDict:=by
    rcases hk with ⟨kvs,hk⟩ | ⟨kvs,hk⟩
    ·obtain ⟨_,_,_,_,o,_,_,e,ex,_⟩:=I.hok p _ hk
     exact ⟨o,e,ex⟩
    ·obtain ⟨_,_,_,_,o,_,_,e,ex,_⟩:=I.hok p _ hk
     exact ⟨o,e,ex⟩
   obtain ⟨o,e,ex⟩:=z
   refine ⟨⟨o,e,ex.1⟩,λa e2=>?_⟩
   cases e2
   exact ⟨o,e,ex.2.1⟩
  ·obtain ⟨o,_,_,_,e,ex,_⟩:=I.hok p _ hk
   refine ⟨⟨o,e,ex.1⟩,λa e2=>?_⟩
   cases e2
   exact ⟨o,e,ex.2.1⟩
 | _=>exact False.elim ty
def tBM (K:W.Frag) (T:String) (r:V->List V->Hp->VK->Prop) (to:TE) (t:TA):TE:=λσ H Q=>to σ H λx H1=>tyV K T x H1∧t σ H1 λxs H2=>r x xs H2 Q
variable {o e:Expr} {es:List Expr} {to:TE} {t:TA} {name:Str} {apos cpos:Pos} {T id:String} {r:V->List V->Hp->VK->Prop}
theorem zsb (pa:PlainAttrs T) (slot:Slot T name id) (hty:typeOf (.builtin id)=pure (.type "method_descriptor")) (hm:MtR X id r) (ho:PE X o to) (ha:PA X (e::es) t)
  (hbase:attributeBase o name X.env (eval o X.env)=eval o X.env:=by rfl)
  (hfew:((backTo cpos (starEach (e::es) X.env)).all (λx=>!x.1)&&((backToKw cpos (keywordEach [] X.env))).all (λx=>x.1.isSome)
   &&decide (((e::es)).length+([]:List Keyword).length+(if ([]:List Keyword).isEmpty then 0 else 1)<30))=true:=by rfl)
  (hline:(apos.endLine == cpos.line)=true:=by rfl) (hs:starEach (e::es) X.env=(false,eval e X.env) :: starEach es X.env:=by rfl) (hplain:(backTo cpos (starEach es X.env)).any (·.1)=false:=by rfl) :
  PE X (.Call (.Attribute o name apos) (e::es) [] cpos) (tBM X.K T r to t):=by
 intro pins s σ H Q I h
 refine wpAny_Call_method_late hbase hfew hline rfl (thn (ho pins s σ H _ I h) λv s1 ⟨x,H1,I1,r1,ty,q1⟩=>?_)
 obtain ⟨h1,h2⟩:=zq2 I1 r1 ty
 refine ⟨T,id,pa,slot,hty,h1,h2,?_⟩
 have hA:=ha cpos pins s1 σ H1 _ I1 q1
 rw [hs] at hA ⊢
 refine Calls.callWith_builtin (by show (false||(backTo cpos (starEach es X.env)).any (·.1))=false;rw [hplain]<;>rfl) (Calls.evalArgs_plain ?_)
 exact thn hA λus s2 ⟨vs,H2,I2,r2,q2⟩=>hm pins s2 σ H2 x vs v us Q I2 r1 r2 q2
end
end L2
namespace L2
open PySem PySem.Spec PyProof.Rows
def MtM (X:Cx) (id:String) (r:V->List V->Hp->VK->Prop):Prop :=
 ∀ (pins:List (Addr×Obj)) (s:Shared) (σ:St) (H:Hp) (x:V) (xs:List V) (v:Value) (us:List Value) (Q:VK),Inv X pins σ H s->zdA x v->zb8 xs us->r x xs H Q →
  wpAny (model X.prog X.w) X.A (call (.builtin id) (v :: us)) (EP X pins σ Q) X.xe s
theorem zb8.one:∀ {x:V} {us:List Value},zb8 [x] us->∃ u,us=[u]∧zdA x u
 | _,_,.cons r .nil=>⟨_,rfl,r⟩
theorem zb8.zero:∀ {us:List Value},zb8 [] us->us=[]
 | _,.nil=>rfl
theorem zb8.dropLast {xs:List V} {us:List Value} (h:zb8 xs us):zb8 xs.dropLast us.dropLast:=by
 induction h with
 | nil=>exact .nil
 | cons r t ih =>
  cases t with
  | nil=>exact .nil
  | cons q t'=>exact .cons r ih
theorem zb8.reverse {xs:List V} {us:List Value} (h:zb8 xs us):zb8 xs.reverse us.reverse:=by
 induction h with
 | nil=>exact .nil
 | cons r t ih=>rw [List.reverse_cons,List.reverse_cons];exact zb8.append ih (.cons r .nil)
theorem zb8.rep {xs:List V} {us:List Value} (h:zb8 xs us):∀ k:Nat,zb8 (List.replicate k xs).flatten (List.replicate k us).flatten
 | 0=>.nil
 | k+1=>by
  rw [List.replicate_succ,List.replicate_succ,List.flatten_cons,List.flatten_cons]
  exact zb8.append h (zb8.rep h k)
theorem zjg (its:List Value):∀ (k:Nat) (acc:List Value),
  List.foldl (λx1 x2=>x1++x2) acc.toArray (List.replicate k its.toArray)=(acc++(List.replicate k its).flatten).toArray
 | 0,acc=>by simp
 | k+1,acc=>by
  have e:acc.toArray++its.toArray=(acc++its).toArray:=by simp
  have e2:(acc++its)++(List.replicate k its).flatten=acc++(List.replicate (k+1) its).flatten:=by
   rw [List.replicate_succ,List.flatten_cons,List.append_assoc]
  rw [← e2,← zjg its k (acc++its),← e,List.replicate_succ,List.foldl_cons]
section
variable {X:Cx} {pins:List (Addr×Obj)} {σ:St} {H:Hp} {s:Shared} {l b:Addr} {xs ys zs:List V}
theorem Inv.lset {its its':List Value} {n:Nat} {f:Array Value->Array Value} {t':Nat} (I:Inv X pins σ H s) (hH:H l=some (.lst xs))
  (e:s.heap.get? l=some { cls:=.type "list",data:=.seq its.toArray n }) (hf:f its.toArray=its'.toArray) (hv:zb8 ys its') (hz:ys.length≤sizeLine) :
  Inv X pins σ (upd H l (.lst ys)) { s with heap:=s.heap.update l (Obj.mapSeq f),toks:=t' }:=by
 have q:=PySem.IsL.update e f
 rw [hf] at q
 refine I.write (x:=l) (e:=l) (by rw [hH];exact trivial) (.inl rfl) (λb' u hb hu=>(Heap.get?_update_other s.heap (Obj.mapSeq f) (Ne.symm hb)).trans hu) ⟨_,q⟩ ?_
 exact ⟨hz,its',_,hv,q⟩
theorem Inv.lnew {its:List Value} {t':Nat} (I:Inv X pins σ H s) (hv:zb8 ys its) (hz:ys.length≤sizeLine) :
  Inv X pins σ (upd H s.heap.objs.size (.lst ys)) { s with heap:=s.heap.push { cls:=.type "list",data:=.seq its.toArray },toks:=t' } :=
 I.laid (λ_ _ q=>Heap.get?_push_of_some _ q) (Nat.le_refl _) ⟨hz,its,0,hv,Heap.get?_push_size _ rfl⟩
theorem Inv.fresh (I:Inv X pins σ H s):H s.heap.objs.size=none:=I.hok.fresh (Nat.le_refl _)
theorem Inv.lstM (I:Inv X pins σ H s) (hH:H l=some (.lst xs)):xs.length≤sizeLine∧∃ (its:List Value) (n:Nat),zb8 xs its∧xs.length=its.length∧s.heap.get? l=some { cls:=.type "list",data:=.seq its.toArray n }:=by
 obtain ⟨z,its,n,r,e⟩:=I.hok l _ hH
 exact ⟨z,its,n,r,r.length,e⟩
theorem zkD {n:Nat} (h:n≤sizeLine):Builtin.List.listTooLong n=false:=by
 unfold Builtin.List.listTooLong
 exact decide_eq_false (by omega)
end
section
variable {X:Cx}
def zif:V->List V->Hp->VK->Prop:=λx vs H Q=>∃ l xs y,x=.ref l∧vs=[y]∧H l=some (.lst xs)∧xs.length<sizeLine∧Q .non (upd H l (.lst (xs++[y])))
theorem zi0:MtM X "list.append" zif:=by
 intro pins s σ H x vs v us Q I rx rv h
 obtain ⟨l,xs,y,rfl,rfl,hH,hz,q⟩:=h
 cases rx
 obtain ⟨u,rfl,ru⟩:=rv.one
 obtain ⟨z,its,n,r,hl,e⟩:=I.lstM hH
 refine call_meets F.slot_list_append ⟨_,e,rfl⟩ F.entry_list_append (F.args_list_append_2 _ _) (PySem.list_append l its.toArray n u (by rw [List.size_toArray];omega)) ⟨e,?_⟩
 refine ⟨.non,_,I.lset (its':=its++[u]) hH e (by simp) (r.append (.cons ru .nil)) ?_,rfl,q⟩
 rw [List.length_append,List.length_singleton]
 omega
def zpI:V->List V->Hp->VK->Prop:=λx vs H Q=>∃ l b xs zs,x=.ref l∧vs=[.ref b]∧H l=some (.lst xs)∧H b=some (.lst zs)∧xs.length+zs.length≤sizeLine∧Q .non (upd H l (.lst (xs++zs)))
theorem zrK:MtM X "list.extend" zpI:=by
 intro pins s σ H x vs v us Q I rx rv h
 obtain ⟨l,b,xs,zs,rfl,rfl,hH,hB,hz,q⟩:=h
 cases rx
 obtain ⟨u,rfl,ru⟩:=rv.one
 cases ru
 obtain ⟨z,its,n,r,hl,e⟩:=I.lstM hH
 obtain ⟨z2,its2,n2,r2,hl2,e2⟩:=I.lstM hB
 have hsz:its.toArray.size+its2.toArray.size≤sizeLine:=by rw [List.size_toArray,List.size_toArray];omega
 have hlong:¬ (!its.toArray.isEmpty&&Builtin.List.listTooLong (its.toArray.size+its2.toArray.size))=true:=by
  rw [zkD hsz,Bool.and_false]
  exact Bool.false_ne_true
 refine call_meets F.slot_list_extend ⟨_,e,rfl⟩ F.entry_list_extend (F.args_list_extend_2 _ _)
  (AutoSeq1.list_extend_list_list_0 l its.toArray n b its2.toArray n2 hlong (by rw [List.size_toArray];omega) (by omega)) ⟨e,e2,?_⟩
 refine ⟨.non,_,I.lset (its':=its++its2) hH e (by simp) (r.append r2) ?_,rfl,q⟩
 rw [List.length_append]
 omega
def zr9:R2:=λx y H Q=>∃ l b xs zs,x=.ref l∧y=.ref b∧H l=some (.lst xs)∧H b=some (.lst zs)∧xs.length+zs.length≤sizeLine∧∀ p,H p=none->Q (.ref p) (upd H p (.lst (xs++zs)))
theorem zdO:OpR X (binaryOp .Add) zr9:=by
 intro pins s σ H x y v u Q I rx ry h
 obtain ⟨l,b,xs,zs,rfl,rfl,hH,hB,hz,q⟩:=h
 cases rx
 cases ry
 obtain ⟨z,its,n,r,hl,e⟩:=I.lstM hH
 obtain ⟨z2,its2,n2,r2,hl2,e2⟩:=I.lstM hB
 refine PySem.P.add_list e e2 ?_ (by rw [List.size_toArray,List.size_toArray];omega)
 have ea:its.toArray++its2.toArray=(its++its2).toArray:=by simp
 rw [ea]
 exact ⟨.ref _,_,I.lnew (t':=s.toks) (r.append r2) (by rw [List.length_append];omega),rfl,q _ I.fresh⟩
def zsI:R2:=λx y H Q=>∃ l k xs,x=.ref l∧y=.int k∧H l=some (.lst xs)∧-(2^63)≤k∧k<2^63∧xs.length*k.toNat≤sizeLine ∧
 ∀ p,H p=none->Q (.ref p) (upd H p (.lst (List.replicate k.toNat xs).flatten))
theorem zo7 {α:Type} (xs:List α) (k:Nat):(List.replicate k xs).flatten.length=k*xs.length:=by
 induction k with
 | zero=>simp
 | succ k ih=>rw [List.replicate_succ,List.flatten_cons,List.length_append,ih,Nat.succ_mul,Nat.add_comm]
theorem zh0:OpR X (binaryOp .Mult) zsI:=by
 intro pins s σ H x y v u Q I rx ry h
 obtain ⟨l,k,xs,rfl,rfl,hH,h1,h2,hz,q⟩:=h
 cases rx
 obtain ⟨t,rfl⟩:=ry
 obtain ⟨z,its,n,r,hl,e⟩:=I.lstM hH
 have hlen:its.toArray.size*k.toNat≤sizeLine:=by rw [List.size_toArray,← hl];exact hz
 have hcap:¬ its.toArray.size*k.toNat > (2^63-1)/8:=by
  have:(sizeLine:Nat)≤(2^63-1)/8:=by decide
  omega
 have hfit:¬ (!Builtin.List.listFitsIndex k)=true:=by
  rw [fitsIndex_both h1 h2]
  exact Bool.false_ne_true
 have hlong:¬ Builtin.List.listTooLong (its.toArray.size*k.toNat)=true:=by
  rw [zkD hlen]
  exact Bool.false_ne_true
 have hnew:List.foldl (λx1 x2=>x1++x2) #[] (List.replicate (if its.toArray.isEmpty=true then 0 else k.toNat) its.toArray)=(List.replicate k.toNat its).flatten.toArray:=by
  have f0:∀ m:Nat,List.foldl (λx1 x2=>x1++x2) #[] (List.replicate m its.toArray)=(List.replicate m its).flatten.toArray:=λm=>by
   have:=zjg its m []
   rw [List.nil_append] at this
   exact this
  rw [f0]
  cases its with
  | nil=>simp
  | cons a r'=>rw [if_neg (by simp)]
 refine wpAny_binaryOp_repeat_ref (T:="list") (U:="int") (by decide) ⟨_,e,rfl⟩ (λs'=>typeIs_int s' k t) noFill_list_mul F.fills_int_mul F.slot_int_rmul repeat_list F.slot_int_index.lookup
  (call_meets F.slot_int_rmul (typeIs_int s k t) F.entry_int_rmul (F.args_int_rmul_2 _ _) (int___rmul___int_list k t l its.toArray n)
   ⟨e,rfl,⟨_,e,rfl⟩,call_meets F.slot_list_mul ⟨_,e,rfl⟩ F.entry_list_mul (F.args_list_mul_2 _ _) (AutoListH.list___mul___list_int_3 l its.toArray n k t hfit hcap hlong) ⟨e,?_⟩⟩)
 rw [hnew]
 exact ⟨.ref _,_,I.lnew (t':=s.toks) (r.rep k.toNat) (by rw [zo7,Nat.mul_comm];exact hz),rfl,q _ I.fresh⟩
end
section
variable {prog:Program} {w:World} {A:Around} {E:Value->Shared->Prop} {s:Shared}
end
section
variable {X:Cx}
end
end L2
namespace Att
open PySem PySem.W PySem.Calls PyProof.Rows
theorem zht {P:Params} {h:Heap}:∀ (ns:Ji) (vs:List Value),WellAll P h vs (ns.map WData.int)->IntsAre vs ns:=by
 intro ns
 induction ns with
 | nil =>
  intro vs w
  rw [List.map_nil] at w
  cases w
  exact .nil
 | cons n ns ih =>
  intro vs w
  rw [List.map_cons] at w
  cases w with
  | cons a b =>
   cases a
   exact .cons _ _ (ih _ b)
theorem zm4 {l:OpenLaw} {n:Nat} (hn:l.most=some n) {P:Params} {h:Heap} {args:List WData} {vals:List Value}
  (hpre:l.row.toRowW.claim.pre args=true) (hwl:WellAll P h vals args) :
  ∃ a vs ns,vals=[Value.ref a]∧args=[WData.list (ns.map WData.int)]∧h.get? a=some { cls:=.type "list",data:=.seq vs.toArray }∧IntsAre vs ns∧ns.length≤n:=by
 have hsh:WShape.hasAll [] args [.list .int]=true:=(pre_splitW hpre).1
 have hc:l.pre.holds [] { args:=args }=true:=(pre_splitW hpre).2
 obtain ⟨d,r,rfl,h1,h2⟩:=hasAllW_cons hsh
 obtain rfl:=hasAllW_nil h2
 obtain ⟨xs,rfl,h3⟩:=hasW_list h1
 obtain ⟨ns,rfl⟩:=items_int h3
 have hlen:ns.length≤n:=by
  unfold OpenLaw.pre at hc
  have h4:(WTm.not (.lt (.lit (.int (n:Int))) (.len (.arg 0)))).holds [] { args:=[.list (ns.map .int)] }=true:=by
   have h4:=(holds_andW hc).1
   rw [hn] at h4
   exact h4
  have h5:=condW_of h4 (w_not (w_lt w_lit (w_len_list (w_arg rfl))))
  rw [List.length_map] at h5
  refine Nat.le_of_not_lt λq=>?_
  have q':(n:Int)<((ns.length:Nat):Int):=by omega
  first
   | (rw [decide_eq_true q'] at h5;exact absurd h5 (by decide))
   | (simp at h5;omega)
 cases hwl with
 | cons w1 w2 =>
  cases w2
  cases w1 with
  | list ho hall=>exact ⟨_,_,ns,rfl,rfl,ho,zht ns _ hall,hlen⟩
theorem zly (l:OpenLaw) (args:List WData):l.row.toRowW.claim.post args (.bool true) args=true :=
 postW_of (r:=l.row.toRowW) (X:=(true == true))
  (show WShape.has [] (.bool true) .bool=true by first | rfl | decide | simp [WShape.has,WShape.arms,WShape.armsAll])
  (show (WTm.eq .res (.lit (.bool true))).value [] { args:=args,res:=some (.bool true),after:=args }=some (.bool (true == true)) from w_eq_bool (w_res rfl) w_lit) rfl
theorem attach_call {l:OpenLaw} {n:Nat} {q:Program} {loose:List Str} {XP:(Str->Option Value)->Heap->Prop} {YP:World->Heap->Prop} {d:DefRec}
  (hn:l.most=some n) (hdf:d.params.defaults=[])
  (call:∀ (w:World) (s₀ s₁:Shared) (mg mb:Str->Option Value) (fa:Addr) (o:Obj) (pm cd doc:Value) (a:Addr) (vs:List Value) (ns:Ji),
   Ground q loose [] XP w s₀ mg mb s₁.heap->YP w s₁.heap →
   s₁.heap.get? fa=some o->o.data=.func (docDef d.name d.params d.body d.scope pm cd doc)->s₁.heap.CodeRec cd d.name->mg d.name=some (.ref fa) →
   s₁.heap.get? a=some { cls:=.type "list",data:=.seq vs.toArray }->IntsAre vs ns->ns.length≤n->s₁.gens=#[] →
   codeAny (model l.prog w) callerA (.call (.ref fa) ⟨[.ref a],[]⟩) (λr s'=>r= .ok (.ret (.bool true))∧OldK s₁.heap s'.heap∧s'.os=s₁.os∧AllBare s'.gens) s₁) :
  WalkO q loose XP YP l.row.toRowW d [] (λf vs=>PySem.call f vs):=by
 intro w s₀ s₁ mg mb G Y fa o pm cd doc dV kV ho hd hcd hD hmg hg args vals as hpre hlay hrd hwl hlo
 obtain rfl:dV=.none:=Dflts.none hD hdf
 obtain rfl:kV=.none:=Dflts.noKw hD
 obtain ⟨a,vs,ns,rfl,rfl,hobj,hints,hlen⟩:=zm4 hn hpre hwl
 refine enter_call (codeAny_mono (call w s₀ s₁ mg mb fa o pm cd doc a vs ns G Y ho (fd_plain hd) hcd hmg hobj hints hlen hg) λr s' hq=>?_)
 obtain ⟨rfl,h2,h3,h4⟩:=hq
 exact ⟨.inl ⟨.bool true,.bool true,[],rfl,λ_=>rfl,.bool true,zly l _,λ_=>⟨List.Pairwise.nil,λ_ hm=>(nomatch hm)⟩⟩,h2,h3,h4⟩
section
variable {prog:Program} {w:World} {A:Around} {E:Value->Shared->Prop} {s:Shared} {K:Frag}
end
end Att
namespace L2
open PySem PySem.Spec PyProof.Rows
theorem zi5:∀ {vs:List Value} {ns:Ji},IntsAre vs ns->zb8 (ns.map V.int) vs
 | _,_,.nil=>.nil
 | _,_,.cons n t h=>.cons ⟨t,rfl⟩ (zi5 h)
def zsk (H:Hp):Prop:=∀ b,H b=none∨∃ o xs,H b=some (.frz o (.lst xs))
theorem znQ {P:Program} {w:World} {K:W.Frag} {mg mb:Str->Option Value} {CX:CXT} {k:Nat} {fa a:Addr} {fd:FuncData} {x:Str} {sp:Sp} {s₁:Shared} {vs:List Value} {ns:Ji}
  (KX:K.In s₁.heap) (hns:s₁.heap.Ns mainGlobals mg) (hb:s₁.heap.Ns builtinsNs mb) (hbb:∀ x:Str,x≠"__name__"->mb x=bootBuiltins x) (hlim:s₁.heap.NoLimit) (hg:s₁.gens=#[])
  (ha:s₁.heap.get? a=some { cls:=.type "list",data:=.seq vs.toArray }) (hi:IntsAre vs ns) (hl:ns.length≤sizeLine) (hr:Room k callerA)
  (F:∀ base:Heap,K.In base->base.Ns mainGlobals mg->FnOk P w K mg base CX k fa fd [x] sp) (hbind:∀ (s:Shared) (u:Value),BindsTo s fd ⟨[u],[]⟩ [(x,u)])
  (hsp:∀ H:Hp,zsk H->SqL K H a (ns.map V.int)->sp [.ref a] H (λv _=>v=.bl true) λ_ _ _=>False)
  (hCX:∀ H e s',CX [] H s₁ (λ_ _ _=>False) e s'->False) :
  codeAny (model P w) callerA (.call (.ref fa) ⟨[.ref a],[]⟩) (λr s'=>r= .ok (.ret (.bool true))∧OldK s₁.heap s'.heap∧s'.os=s₁.os∧AllBare s'.gens) s₁:=by
 have rv:=zi5 hi
 have lenV:=hi.length
 have core:∀ H:Hp,zsk H->SqL K H a (ns.map V.int)->HOk P w H s₁.heap->(∀ b,H b≠none->b=a)->(H a≠none->K.lookup a=none) →
   codeAny (model P w) callerA (.call (.ref fa) ⟨[.ref a],[]⟩) (λr s'=>r= .ok (.ret (.bool true))∧OldK s₁.heap s'.heap∧s'.os=s₁.os∧AllBare s'.gens) s₁:=by
  intro H hO hS hok hA hK
  have base_of:∀ {b:Addr} {o:Obj},s₁.heap.get? b=some o->H b=none->((znJ s₁.heap H)).get? b=some o:=λe n=>zof e n
  have noA:∀ {b:Addr} {o:Obj} {es:Array DictEntry} {ep:Nat},s₁.heap.get? b=some o->o.data=.dict es ep->H b=none:=λ{b o es ep} e d=>by
   cases q:H b with
   | none=>rfl
   | some u =>
    have e':b=a:=hA b (by rw [q];simp)
    subst e'
    rw [ha] at e;cases e
    have d':Data.seq vs.toArray _=Data.dict es ep:=d
    cases d'
  have nsK:∀ {b:Addr} {m:Str->Option Value},s₁.heap.Ns b m->((znJ s₁.heap H)).Ns b m:=λ{b m} ⟨o,es,ep,e,d,r⟩=>⟨o,es,ep,base_of e (noA e d),d,r⟩
  have hKb:K.In (znJ s₁.heap H):=λb o e=>base_of (KX b o e) (by
   cases q:H b with
   | none=>rfl
   | some u =>
    have e':b=a:=hA b (by rw [q];simp)
    subst e'
    rw [hK (by rw [q];simp)] at e;cases e)
  have hM:Mod K mg (znJ s₁.heap H):=⟨hKb,nsK hns,⟨mb,nsK hb,hbb⟩,let ⟨mc,h1,h2⟩:=hlim;⟨mc,nsK h1,h2⟩⟩
  have e0:Env0 P w K mg (znJ s₁.heap H) callerA [] s₁ H:=⟨rfl,hM,λb o e=>zoS e,Nat.le_of_eq (zlO _ _),trivial,λb hb=>absurd (show b∈([]:List Addr) from hb) (by simp),hok,.of_eq hg⟩
  refine codeAny_mono ((F _ hKb (nsK hns)).run callerA [] s₁ H ⟨[.ref a],[]⟩ [.ref a] [.ref a] _ _ hr e0 (hbind s₁ (.ref a)) (.cons rfl .nil) (hsp H hO hS)) λr s' h=>?_
  cases r with
  | error e=>exact (hCX H e s' h).elim
  | ok fl =>
   cases fl with
   | next=>exact False.elim h
   | brk=>exact False.elim h
   | cont=>exact False.elim h
   | ret u =>
    obtain ⟨v,H',os,bare,un,hok',r',q⟩:=h
    have q':v=.bl true:=q
    subst q'
    obtain rfl:u=Value.bool true:=r'
    refine ⟨rfl,OldK.of_keep λb o e=>?_,os,bare⟩
    cases q:H b with
    | none=>exact un.keep b o e q (by intro z;exact absurd (show b∈([]:List Addr) from z) (by simp)) (by simp)
    | some u =>
     rcases hO b with z | ⟨ob,xs,z⟩
     ·rw [q] at z;cases z
     ·have z2:=un.frzs b ob _ z
      obtain ⟨e1,_⟩:=hok b _ z
      obtain ⟨e2,_⟩:=hok' b _ z2
      rw [e] at e1;cases e1
      exact e2
 cases hk:K.lookup a with
 | some o =>
  have e:=KX a o hk
  rw [ha] at e
  cases e
  refine core (λ_=>none) (λ_=>.inl rfl) (.inr ⟨_,vs.toArray,_,hk,rfl,rfl,rfl,by rw [List.size_toArray,lenV];exact hl,by simpa using rv⟩) (λb u z=>by have z':(none:Option HO)=some u:=z;cases z') (λb z=>absurd rfl z) λz=>absurd rfl z
 | none =>
  refine core (λb=>if b=a then some (.frz { cls:=.type "list",data:=.seq vs.toArray } (.lst (ns.map V.int))) else none) (λb=>?_) (.inl (.inr ⟨{ cls:=.type "list",data:=.seq vs.toArray },if_pos rfl⟩)) (λb u z=>?_) (λb z=>?_) λ_=>hk
  ·by_cases hb:b=a
   ·exact .inr ⟨_,_,if_pos hb⟩
   ·exact .inl (if_neg hb)
  ·by_cases hb:b=a
   ·have z':=(if_pos hb).symm.trans z
    cases z'
    subst hb
    exact ⟨ha,by rw [List.length_map];exact hl,vs,_,rv,ha⟩
   ·have z':=(if_neg hb).symm.trans z
    cases z'
  ·by_cases hb:b=a
   ·exact hb
   ·exact absurd (if_neg hb) z
end L2
namespace L2
open PySem PySem.Spec PyProof.Rows
theorem zpZ {l:W.OpenLaw} {n k:Nat} {q:Program} {loose:List Str} {XP:(Str->Option Value)->Heap->Prop} {YP:World->Heap->Prop} {d:DefRec} {K:Params->W.Frag} {CX:World->CXT} {sp:World->Sp} {x:Str}
  (hn:l.most=some n) (hn2:n≤sizeLine) (hdf:d.params.defaults=[]) (hr:Room k callerA)
  (hY:∀ (w:World) (h:Heap),YP w h->(K w.params).In h)
  (F:∀ (w:World) (mg:Str->Option Value) (fa:Addr) (h:Heap),(K w.params).In h->h.Ns mainGlobals mg->mg d.name=some (.ref fa) →
   ∃ fd:FuncData,(∀ (s:Shared) (u:Value),BindsTo s fd ⟨[u],[]⟩ [(x,u)]) ∧
    ∀ base:Heap,(K w.params).In base->base.Ns mainGlobals mg->FnOk l.prog w (K w.params) mg base (CX w) k fa fd [x] (sp w))
  (hsp:∀ (w:World) (H:Hp) (a:Addr) (ns:Ji),ns.length≤n->zsk H->SqL (K w.params) H a (ns.map V.int)->sp w [.ref a] H (λv _=>v=.bl true) λ_ _ _=>False)
  (hCX:∀ (w:World) (H:Hp) (s:Shared) (e:Value) (s':Shared),CX w [] H s (λ_ _ _=>False) e s'->False) :
  W.WalkO q loose XP YP l.row.toRowW d [] (λf vs=>PySem.call f vs):=by
 refine Att.attach_call hn hdf λw s₀ s₁ mg mb fa o pm cd doc a vs ns G Y ho hd hcd hmg hobj hints hlen hg=>?_
 have KX:=hY w _ Y
 obtain ⟨fd,hb,hF⟩:=F w mg fa _ KX G.T.g hmg
 exact znQ KX G.T.g G.T.b G.T.builtins G.T.nolimit hg hobj hints (Nat.le_trans hlen hn2) hr hF hb (λH hO hS=>hsp w H a ns hlen hO hS) λH e s'=>hCX w H s₁ e s'
end L2
namespace L2
open PySem PySem.Spec PyProof.Rows
def zlB (s:Stmt) (j:Nat):Stmt:=match s with
 | .ClassDef _ _ _ body _ _ _ _ _ _ _=>body.getD j (.Pass ⟨0,0,0,0⟩)
 | _=>.Pass ⟨0,0,0,0⟩
def zaA (s:Stmt):Arguments:=match s with
 | .FunctionDef _ a _ _ _ _ _ _ _ _=>a
 | _=>{ posonlyargs:=[],args:=[],vararg:=none,kwonlyargs:=[],kw_defaults:=[],kwarg:=none,defaults:=[] }
def zaw (s:Stmt):List Stmt:=match s with
 | .FunctionDef _ _ b _ _ _ _ _ _ _=>b
 | _=>[]
def zad (s:Stmt):Scope:=match s with
 | .FunctionDef _ _ _ _ _ _ sc _ _ _=>sc
 | _=>{ kind:=.function,names:=[],isGenerator:=false,isCoroutine:=false }
abbrev E0:XK:=λ_ _ _=>False
structure Fun (K:W.Frag) (x qual:Str) (st:Stmt) (f:Addr) (fd:FuncData):Prop where
 ex:∃ (oc:Value) (od:Option Addr) (kV doc pm:Value) (an:Option Addr) (cdv ct:Value) (osl:Array (Option Value)),
  fd=W.fnOf x qual (zaA st) (zaw st) (zad st) .none kV doc pm an cdv ct∧K.lookup f=some ⟨oc,od,.func fd,osl⟩∧W.codeIn K cdv qual=true
 kp:W.keepIn K (.ref f)=true
section
variable {P:Program} {w:World} {K:W.Frag} {mg:Str->Option Value} {base:Heap}
theorem Fun.binds {x qual:Str} {st:Stmt} {f:Addr} {fd:FuncData} {ps:List Str} (F:Fun K x qual st f fd)
  (h:∀ (kV doc pm:Value) (an:Option Addr) (cdv ct:Value) (us:List Value),us.length=ps.length->bindArgs (W.fnOf x qual (zaA st) (zaw st) (zad st) .none kV doc pm an cdv ct) ⟨us,[]⟩=pure (ps.zip us)):zgC K fd ps []:=by
 obtain ⟨oc,od,kV,doc,pm,an,cdv,ct,osl,rfl,lk,hcd⟩:=F.ex
 exact .all (h kV doc pm an cdv ct)
theorem zaT {x qual:Str} {st:Stmt} {f:Addr} {oc:Value} {od an:Option Addr} {osl:Array (Option Value)} {kV doc pm cdv ct:Value} (l:K.lookup f=some ⟨oc,od,.func (W.fnOf x qual (zaA st) (zaw st) (zad st) .none kV doc pm an cdv ct),osl⟩)
  (c:W.codeIn K cdv qual=true) (k:W.keepIn K (.ref f)=true):Fun K x qual st f (W.fnOf x qual (zaA st) (zaw st) (zad st) .none kV doc pm an cdv ct):=⟨⟨oc,od,kV,doc,pm,an,cdv,ct,osl,rfl,l,c⟩,k⟩
end
section
variable {X:Cx}
theorem pv (i:Nat) {x:Str} {pos:Pos} (hN:X.N[i]?=some x:=by rfl) (hv:Vis X.env.scope x:=by first | exact Or.inl rfl | exact Or.inr (Or.inl rfl) | exact Or.inr (Or.inr rfl)) (hd:(x==("__debug__" :Str))=false:=by decide)
  (hcd:(x == ("__classdict__":Str))=false:=by decide):PE X (.Name x pos) (zje i):=zrw hN hv hd hcd
end
def Same (H H':Hp):Prop:=∀ b o,H b=some o->H' b=some o
theorem Same.refl (H:Hp):Same H H:=λ_ _ h=>h
theorem Same.trans {H H1 H2:Hp} (a:Same H H1) (b:Same H1 H2):Same H H2:=λc o h=>b c o (a c o h)
theorem Same.free {H H':Hp} (e:Same H H') {l:Addr} (h:H' l=Option.none):H l=Option.none:=by
 cases q:H l with
 | none=>rfl
 | some o =>
  rw [e l o q] at h
  cases h
theorem Same.seq {K:W.Frag} {H H':Hp} {a:Addr} {xs:List V} (e:Same H H') (h:SqL K H a xs):SqL K H' a xs:=by
 rcases h with (h | ⟨o,h⟩) | h
 ·exact .inl (.inl (e _ _ h))
 ·exact .inl (.inr ⟨o,e _ _ h⟩)
 ·exact .inr h
end L2
namespace L2
open PySem PySem.Spec PyProof.Rows
theorem zgi {env:Env}:∀ (names:List (Str×NameKind)) (acc:List (Str×Addr)),(∀ x∈names,x.2=.free->∃ c,env.cells.lookup x.1=some c) →
  ∃ cl:List (Str×Addr),(forIn (m:=Sem) names acc λ(x:Str×NameKind) (cs:List (Str×Addr))=>if (x.2 == NameKind.free)=true then (do let a ← cellOf env x.1;pure (ForInStep.yield ((x.1,a) :: cs))) else pure (ForInStep.yield cs))=pure cl ∧
   (∀ x c,cl.lookup x=some c->acc.lookup x=some c∨env.cells.lookup x=some c)∧(∀ x,((x,NameKind.free)∈names∨∃ c,acc.lookup x=some c)->∃ c,cl.lookup x=some c)
 | [],acc,_=>⟨acc,rfl,λ_ _ h=>.inl h,λx h=>by
   rcases h with h | h
   ·cases h
   ·exact h⟩
 | (n,k) :: r,acc,h=>by
  have hr:∀ x∈r,x.2=.free->∃ c,env.cells.lookup x.1=some c:=λx hx=>h x (List.mem_cons_of_mem _ hx)
  by_cases hk:k=.free
  ·subst hk
   obtain ⟨c,hc⟩:=h (n,.free) List.mem_cons_self rfl
   obtain ⟨cl,e,h1,h2⟩:=zgi r ((n,c) :: acc) hr
   refine ⟨cl,?_,λx c' q=>?_,λx q=>?_⟩
   ·rw [List.forIn_cons]
    have e1:cellOf env n=pure c:=by unfold cellOf;rw [hc]
    simp only [beq_self_eq_true,if_true,e1]
    exact e
   ·rcases h1 x c' q with z | z
    ·rw [List.lookup_cons] at z
     cases hx:x == n with
     | true =>
      rw [hx] at z
      have z':some c=some c':=z
      cases z'
      have:x=n:=eq_of_beq hx
      subst this
      exact .inr hc
     | false=>rw [hx] at z;exact .inl z
    ·exact .inr z
   ·refine h2 x ?_
    by_cases hx:x=n
    ·subst hx
     exact .inr ⟨c,by rw [List.lookup_cons];simp⟩
    ·rcases q with q | ⟨c',q⟩
     ·rcases List.mem_cons.mp q with q | q
      ·exact absurd (congrArg Prod.fst q) hx
      ·exact .inl q
     ·refine .inr ⟨c',?_⟩
      have:(x == n)=false:=by simpa using hx
      rw [List.lookup_cons,this]
      exact q
  ·obtain ⟨cl,e,h1,h2⟩:=zgi r acc hr
   refine ⟨cl,?_,h1,λx q=>h2 x ?_⟩
   ·rw [List.forIn_cons]
    have e1:(k == NameKind.free)=false:=by simpa using hk
    simp only [e1,Bool.false_eq_true,if_false]
    exact e
   ·rcases q with q | q
    ·rcases List.mem_cons.mp q with q | q
     ·exact absurd (congrArg Prod.snd q).symm hk
     ·exact .inl q
    ·exact .inr q
theorem zk5 {scope:Scope} {env:Env} (h:∀ x∈scope.names,x.2=.free->∃ c,env.cells.lookup x.1=some c) :
  ∃ cl,closureFor scope env=pure cl∧(∀ x c,cl.lookup x=some c->env.cells.lookup x=some c)∧∀ x,(x,NameKind.free)∈scope.names->∃ c,cl.lookup x=some c:=by
 obtain ⟨cl,e,h1,h2⟩:=zgi (env:=env) scope.names [] h
 refine ⟨cl,?_,λx c q=>(h1 x c q).elim (λz=>by cases z) id,λx q=>h2 x (.inl q)⟩
 have e2:closureFor scope env=(forIn (m:=Sem) scope.names [] λ(x:Str×NameKind) (cs:List (Str×Addr))=>if (x.2 == NameKind.free)=true then (do let a ← cellOf env x.1;pure (ForInStep.yield ((x.1,a) :: cs))) else pure (ForInStep.yield cs)) >>= λr=>pure r:=by
  unfold closureFor
  rfl
 rw [e2,e]
 rfl
theorem zdk {env:Env}:∀ {names:List (Str×NameKind)} {x:Str} {k:NameKind},
  (names.map λ(n,k)=>if (k==NameKind.free && env.scope.kind== .function && env.kindOf n==some .cell) then (n,NameKind.cell) else (n,k)).lookup x=some k →
   names.lookup x=some k∨(k=.cell∧names.lookup x=some .free)
 | [],_,_,h=>by simp at h
 | (n,k') :: r,x,k,h=>by
  have ih:=@zdk env r x k
  have h:List.lookup x ((if (k'==NameKind.free && env.scope.kind== .function && env.kindOf n==some .cell)=true then (n,NameKind.cell) else (n,k')) :: _)=some k:=h
  cases hx:x == n with
  | true =>
   by_cases hc:(k'==NameKind.free && env.scope.kind== .function && env.kindOf n==some .cell)=true
   ·rw [if_pos hc] at h
    simp only [List.lookup_cons,hx] at h
    cases h
    simp only [Bool.and_eq_true,beq_iff_eq] at hc
    refine .inr ⟨rfl,?_⟩
    simp [List.lookup_cons,hx,hc.1.1]
   ·rw [if_neg hc] at h
    simp only [List.lookup_cons,hx] at h
    cases h
    exact .inl (by simp [List.lookup_cons,hx])
  | false =>
   have h':(r.map λ(n,k)=>if (k==NameKind.free && env.scope.kind== .function && env.kindOf n==some .cell) then (n,NameKind.cell) else (n,k)).lookup x=some k:=by
    by_cases hc:(k'==NameKind.free && env.scope.kind== .function && env.kindOf n==some .cell)=true
    ·rw [if_pos hc] at h
     simpa only [List.lookup_cons,hx] using h
    ·rw [if_neg hc] at h
     simpa only [List.lookup_cons,hx] using h
   simpa only [List.lookup_cons,hx] using ih h'
theorem zfm:∀ (names:List (Str×NameKind)) (a:Nat) (acc:List (Str×Addr)) (x:Str) (c:Addr),((cellsFrom a names acc)).lookup x=some c->((x,NameKind.cell)∈names∧a≤c)∨((x,NameKind.cell) ∉ names∧acc.lookup x=some c)
 | [],_,_,_,_,h=>.inr ⟨by simp,h⟩
 | (n,k) :: r,a,acc,x,c,h=>by
  unfold cellsFrom at h
  by_cases hk:k=.cell
  ·subst hk
   rw [if_pos (by rfl)] at h
   rcases zfm r (a+1) ((n,a) :: acc) x c h with ⟨h1,h2⟩ | ⟨h1,h2⟩
   ·exact .inl ⟨List.mem_cons_of_mem _ h1,Nat.le_of_succ_le h2⟩
   ·rw [List.lookup_cons] at h2
    cases hx:x == n with
    | true =>
     rw [hx] at h2
     have h2:some a=some c:=h2
     cases h2
     rw [eq_of_beq hx]
     exact .inl ⟨List.mem_cons_self,Nat.le_refl _⟩
    | false =>
     rw [hx] at h2
     refine .inr ⟨λz=>?_,h2⟩
     rcases List.mem_cons.mp z with z | z
     ·have:=congrArg Prod.fst z
      have:x=n:=this
      rw [this] at hx
      simp at hx
     ·exact h1 z
  ·have hk':(k==NameKind.cell)=false:=by simpa using hk
   rw [hk',if_neg (by simp)] at h
   rcases zfm r a acc x c h with ⟨h1,h2⟩ | ⟨h1,h2⟩
   ·exact .inl ⟨List.mem_cons_of_mem _ h1,h2⟩
   ·refine .inr ⟨λz=>?_,h2⟩
    rcases List.mem_cons.mp z with z | z
    ·exact hk (congrArg Prod.snd z).symm
    ·exact h1 z
theorem zhe:∀ (names:List (Str×NameKind)) (a:Nat) (acc:List (Str×Addr)) (x:Str),((x,NameKind.cell)∈names∨∃ c,acc.lookup x=some c)->∃ c,((cellsFrom a names acc)).lookup x=some c
 | [],_,_,_,h=>by
  rcases h with h | h
  ·simp at h
  ·exact h
 | (n,k) :: r,a,acc,x,h=>by
  unfold cellsFrom
  by_cases hk:k=.cell
  ·subst hk
   rw [if_pos (by rfl)]
   refine zhe r (a+1) ((n,a) :: acc) x ?_
   by_cases hx:x=n
   ·subst hx
    exact .inr ⟨a,by rw [List.lookup_cons];simp⟩
   ·rcases h with h | ⟨c,h⟩
    ·rcases List.mem_cons.mp h with h | h
     ·exact absurd (congrArg Prod.fst h) hx
     ·exact .inl h
    ·refine .inr ⟨c,?_⟩
     have:(x == n)=false:=by simpa using hx
     rw [List.lookup_cons,this]
     exact h
  ·have hk':(k==NameKind.cell)=false:=by simpa using hk
   rw [hk',if_neg (by simp)]
   refine zhe r a acc x ?_
   rcases h with h | h
   ·rcases List.mem_cons.mp h with h | h
    ·exact absurd (congrArg Prod.snd h).symm hk
    ·exact .inl h
   ·exact .inr h
theorem zf6:∀ (names:List (Str×NameKind)) (a:Nat) (acc acc':List (Str×Addr)) (x:Str),((x,NameKind.cell)∈names∨acc.lookup x=acc'.lookup x)->((cellsFrom a names acc)).lookup x=(cellsFrom a names acc').lookup x
 | [],_,_,_,_,h=>by
  rcases h with h | h
  ·simp at h
  ·exact h
 | (n,k) :: r,a,acc,acc',x,h=>by
  unfold cellsFrom
  by_cases hk:k=.cell
  ·subst hk
   rw [if_pos (by rfl),if_pos (by rfl)]
   refine zf6 r (a+1) _ _ x ?_
   by_cases hx:x=n
   ·subst hx
    exact .inr (by rw [List.lookup_cons,List.lookup_cons];simp)
   ·have hx':(x == n)=false:=by simpa using hx
    rcases h with h | h
    ·rcases List.mem_cons.mp h with h | h
     ·exact absurd (congrArg Prod.fst h) hx
     ·exact .inl h
    ·exact .inr (by rw [List.lookup_cons,List.lookup_cons,hx'];exact h)
  ·have hk':(k==NameKind.cell)=false:=by simpa using hk
   rw [hk',if_neg (by simp),if_neg (by simp)]
   refine zf6 r a _ _ x ?_
   rcases h with h | h
   ·rcases List.mem_cons.mp h with h | h
    ·exact absurd (congrArg Prod.snd h).symm hk
    ·exact .inl h
   ·exact .inr h
theorem zei {M:Model} {A:Around} {E:Value->Shared->Prop} {s:Shared} {scope:Scope} {globals:Addr} {closure:List (Str×Addr)} {qual:Str} {func:Option Addr} {code:Value} {outer:Env} {builtins:Addr} {Q:Env->Shared->Prop}
  (hQ:∀ h',h'.Ns s.heap.objs.size (λ_=>none)->(∀ b o,s.heap.get? b=some o->h'.get? b=some o) →
   (∀ x c,(x,NameKind.cell)∈scope.names->((cellsFrom (s.heap.objs.size+1) scope.names closure)).lookup x=some c->h'.IsCell c none) →
   Q (newEnv scope s.heap.objs.size globals (cellsFrom (s.heap.objs.size+1) scope.names closure) qual func code (some outer) builtins) { s with heap:=h' }) :
  wpAny M A (newFunctionEnv scope globals closure [] qual func code (some outer) builtins) Q E s:=by
 simp only [newFunctionEnv,Option.isSome_some,if_true]
 refine wpAny_bind (wpAny_alloc ?_)
 refine wpAny_bind (wpAny_layCells _ (λname kind cells=>by cases hkc:kind == NameKind.cell<;>simp [hkc]) _ _ _ _ ?_)
 have ok:=cellsFrom_ok scope.names (s.heap.push { cls:=.type "dict",data:=.dict #[] }) (s.heap.objs.size+1) [] ⟨λ_ _ hm=>(nomatch hm),List.Pairwise.nil⟩ (by rw [Heap.size_push];exact Nat.le_refl _)
 rw [Heap.size_push] at ok
 rw [show ({ s with heap:=s.heap.push { cls:=.type "dict",data:=.dict #[] } }:Shared).heap.objs.size=s.heap.objs.size+1 from Heap.size_push ..]
 simp only [List.forIn_nil]
 refine wpAny_bind (wpAny_pure (wpAny_pure (hQ _ ((Heap.Ns.new s.heap (.type "dict")).keeps (pushCells_keeps _ _)) (λb o e=>pushCells_keeps _ _ b o (Heap.get?_push_of_some _ e)) λx c hx hc=>?_)))
 rw [zf6 _ _ closure [] x (.inl hx)] at hc
 exact (ok.empty x c (PySem.mem_of_lookup hc)).1
def zb4 (X:Cx) (N':List Str) (scope:Scope) (cl:List (Str×Addr)) (C:Addr) (fp:List Addr) (s:Shared) (H:Hp):Cx where
 prog:=X.prog
 w:=X.w
 K:=X.K
 mg:=X.mg
 base:=X.base
 A:=X.A
 N:=N'
 s₀:=s
 H₀:=H
 env:=compEnvC scope cl C X.env
 outer:=X.stack
 stack:=X.stack
 ex:=fp
 fn:=λx=>scope.names.lookup x == some .cell
 calm:=true
 pn:=X.pn
 xe:=λ_ _=>False
def zg7 (own:Nat) (fv:List Nat) (σ:St):St:=List.replicate own none++fv.map λi=>(σ[i]?).join
structure BlkScope (X:Cx) (scope:Scope) (own fvn:List Str) (fv:List Nat):Prop where
 cell:∀ y∈scope.names,y.2=.cell->scope.names.lookup y.1=some .cell
 fre:∀ y∈scope.names,y.2=.free->scope.names.lookup y.1=some .free
 kind:scope.kind=.function
 names:∀ y∈scope.names,y.2=.local->scope.names.lookup y.1=some .local
 free:∀ y∈scope.names,y.2=.free->X.env.scope.names.lookup y.1=some .cell∨X.env.scope.names.lookup y.1=some .free
 map:fvn.map some=fv.map λi=>X.N[i]?
 vis:∀ x∈fvn,scope.names.lookup x=some .free
section
variable {X:Cx} {pins:List (Addr×Obj)} {σ:St} {H:Hp} {s:Shared}
def znE (X:Cx) (scope:Scope) (cl:List (Str×Addr)) (C:Addr):Prop:=(∀ x c,cl.lookup x=some c->(X.env.cells.lookup x=some c∧scope.names.lookup x≠some .cell)∨(C<c∧scope.names.lookup x=some .cell)) ∧
 (∀ x y c,C<c->cl.lookup x=some c->cl.lookup y=some c->x=y)∧∀ x,((x,NameKind.free)∈scope.names∨(x,NameKind.cell)∈scope.names)->∃ c,cl.lookup x=some c
theorem zrA {scope:Scope} {own fvn:List Str} {fv:List Nat} {cl:List (Str×Addr)} {C:Addr} (B:BlkScope X scope own fvn fv) (h1:∀ x c,cl.lookup x=some c->X.env.cells.lookup x=some c) (h2:∀ x,(x,NameKind.free)∈scope.names->∃ c,cl.lookup x=some c)
  (hlt:∀ x c,X.env.cells.lookup x=some c->c≤C):znE X scope (cellsFrom (C+1) scope.names cl) C:=by
 refine ⟨λx c e=>?_,λx y c hc e1 e2=>?_,λx hx=>?_⟩
 ·rcases zfm _ _ _ _ _ e with ⟨z1,z2⟩ | ⟨z1,z2⟩
  ·exact .inr ⟨z2,B.cell _ z1 rfl⟩
  ·exact .inl ⟨h1 x c z2,λq=>z1 (PySem.mem_of_lookup q)⟩
 ·have key:∀ x,(cellsFrom (C+1) scope.names cl).lookup x=some c->(x,c)∈cellsFrom (C+1) scope.names []:=λx e=>by
   rcases zfm _ _ _ _ _ e with ⟨z1,z2⟩ | ⟨z1,z2⟩
   ·rw [zf6 _ _ cl [] x (.inl z1)] at e
    exact PySem.mem_of_lookup e
   ·exact absurd (hlt x c (h1 x c z2)) (Nat.not_le.mpr hc)
  have ap:∀ (names:List (Str×NameKind)) (a:Nat) (acc:List (Str×Addr)),(∀ e∈acc,e.2<a)->(acc.Pairwise λx y=>x.2≠y.2)->((cellsFrom a names acc)).Pairwise λx y=>x.2≠y.2:=by
   intro names
   induction names with
   | nil=>intro a acc _ h;exact h
   | cons nk r ih =>
    intro a acc h h'
    obtain ⟨n,k⟩:=nk
    unfold cellsFrom
    split
    ·refine ih (a+1) _ (λe he=>?_) (List.pairwise_cons.mpr ⟨λy hy=>Nat.ne_of_gt (h y hy),h'⟩)
     rcases List.mem_cons.mp he with rfl | he
     ·exact Nat.lt_succ_self _
     ·exact Nat.lt_succ_of_lt (h e he)
    ·exact ih a acc h h'
  exact PySem.name_of_addr (ap scope.names (C+1) [] (by simp) .nil) (key x e1) (key y e2)
 ·refine zhe _ _ _ _ ?_
  rcases hx with hx | hx
  ·exact .inr (h2 x hx)
  ·exact .inl hx
theorem znA {scope:Scope} {own fvn:List Str} {fv:List Nat} {cl:List (Str×Addr)} {C:Addr} {fp:List Addr} (I:Inv X pins σ H s) (B:BlkScope X scope own fvn fv) (hc:X.calm=true)
  (hb:znE X scope cl C)
  (hC:s.heap.objs.size≤C) (hf:∀ b∈fp,zkt X pins H b) (hl:∀ b∈fp,b<s.heap.objs.size):((zb4 X (own++fvn) scope cl C fp s H)).Ok where
 mod:=I.ok.mod
 kind:=B.kind
 glob:=I.ok.glob
 blt:=I.ok.blt
 above:=hC
 inj:=λx y c e1 e2=>by
  have lt:∀ z,X.env.cells.lookup z=some c->c<s.heap.objs.size:=λz e=>by obtain ⟨v,q⟩:=I.cell z c e;exact q.lt
  rcases hb.1 x c e1 with ⟨z1,_⟩ | ⟨z1,_⟩
  ·rcases hb.1 y c e2 with ⟨z2,_⟩ | ⟨z2,_⟩
   ·exact I.ok.inj x y c z1 z2
   ·exact absurd (Nat.lt_of_lt_of_le (lt x z1) hC) (Nat.not_lt.mpr (Nat.le_of_lt z2))
  ·exact hb.2.1 x y c z1 e1 e2
 has:=λx hx=>by
  have hx:((scope.names.map λ(n,k)=>if (k==NameKind.free && X.env.scope.kind== .function && X.env.kindOf n==some .cell) then (n,NameKind.cell) else (n,k))).lookup x=some .cell ∨
   ((scope.names.map λ(n,k)=>if (k==NameKind.free && X.env.scope.kind== .function && X.env.kindOf n==some .cell) then (n,NameKind.cell) else (n,k))).lookup x=some .free:=hx
  refine hb.2.2 x ?_
  rcases hx with hx | hx
  ·rcases zdk hx with z | ⟨_,z⟩
   ·exact .inr (PySem.mem_of_lookup z)
   ·exact .inl (PySem.mem_of_lookup z)
  ·rcases zdk hx with z | ⟨z,_⟩
   ·exact .inl (PySem.mem_of_lookup z)
   ·cases z
 cab:=λx c h e=>by
  have h:(scope.names.lookup x == some NameKind.cell)=true:=h
  rcases hb.1 x c e with ⟨_,z⟩ | ⟨z,_⟩
  ·exact absurd (eq_of_beq h) z
  ·exact Nat.le_trans hC (Nat.le_of_lt z)
 hd:=λ_=>I.ok.hd hc
 frames:=I.ok.frames
 stk:=.inl rfl
 exf:=λb hb'=>⟨Nat.ne_of_lt (Nat.lt_of_lt_of_le (hl b hb') hC),λx c e=>by
  rcases hb.1 x c e with ⟨z,_⟩ | ⟨z,_⟩
  ·exact (hf b hb').2.2.2.2.1 x c z
  ·exact Nat.ne_of_gt (Nat.lt_trans (Nat.lt_of_lt_of_le (hl b hb') hC) z)⟩
 bs:=I.bs
 bsz:=Nat.le_trans I.ok.bsz I.sz
 noex:=λb o e hb=>by
  rcases (hf b hb).2.2.2.1 with z | z
  ·exact I.ok.noex b o e z
  ·exact absurd (Nat.lt_of_lt_of_le (Heap.lt_size ((I.ok.bs b o e)).1) z) (Nat.lt_irrefl _)
 exfs:=λb hb z=>by
  rcases List.mem_cons.mp (I.stkSub b z) with q | q
  ·exact (hf b hb).2.1 q
  ·exact (hf b hb).2.2.1 q
 funs:=I.stack
 frf:=I.stkFree
theorem zp2 {own:List Str} {fvn:List Str} {fv:List Nat} {i:Nat} {x:Str} {v:V} (hm:fvn.map some=fv.map λi=>X.N[i]?) (h1:(own++fvn)[i]?=some x) (h2:((zg7 own.length fv σ))[i]?=some (some v)) :
  x∈fvn∧∃ j:Nat,X.N[j]?=some x∧σ[j]?=some (some v):=by
 unfold zg7 at h2
 by_cases hi:i<own.length
 ·rw [List.getElem?_append_left (by simpa using hi),List.getElem?_replicate] at h2
  split at h2<;>cases h2
 ·rw [List.getElem?_append_right (by simpa using hi),List.length_replicate,List.getElem?_map] at h2
  rw [List.getElem?_append_right (by simpa using hi)] at h1
  have q:(fvn.map some)[i-own.length]?=(fv.map λi=>X.N[i]?)[i-own.length]?:=by rw [hm]
  rw [List.getElem?_map,List.getElem?_map,h1] at q
  cases e:fv[i-own.length]? with
  | none=>rw [e] at h2;cases h2
  | some j =>
   rw [e] at h2 q
   have q':X.N[j]?=some x:=(Option.some.inj q).symm
   have h2':(σ[j]?).join=some v:=Option.some.inj h2
   refine ⟨List.mem_of_getElem? h1,j,q',?_⟩
   cases e2:σ[j]? with
   | none=>rw [e2] at h2';cases h2'
   | some o =>
    rw [e2] at h2'
    have:o=some v:=h2'
    rw [this]
theorem zjs {scope:Scope} {own fvn:List Str} {fv:List Nat} {cl:List (Str×Addr)} {C D:Addr} {fp:List Addr} {h':Heap} {t':Nat} {m:Str->Option Value} (I:Inv X pins σ H s) (B:BlkScope X scope own fvn fv) (hc:X.calm=true)
  (hb:znE X scope cl C) (hnew:∀ x c,C<c->cl.lookup x=some c->h'.IsCell c none)
  (hf:∀ b∈fp,zkt X pins H b) (hl:∀ b∈fp,b<s.heap.objs.size) (hD:s.heap.objs.size≤D) (hC:s.heap.objs.size≤C) (hDC:D<C)
  (k:∀ b o,s.heap.get? b=some o->h'.get? b=some o) (hn:h'.Ns C m) (ho:h'.get? D=some { cls:=.type "list",data:=.seq #[] 0 }) :
  Inv (zb4 X (own++fvn) scope cl C fp s H) pins (zg7 own.length fv σ) (upd H D (.lst [])) { s with heap:=h',toks:=t' }:=by
 have hDn:H D=none:=I.hok.fresh hD
 have hCn:H C=none:=I.hok.fresh hC
 have lt:∀ b o,s.heap.get? b=some o->b≠D:=λb o e=>Nat.ne_of_lt (Nat.lt_of_lt_of_le (Heap.lt_size e) hD)
 refine ⟨znA I B hc hb hC hf hl,rfl,I.bare,Un.laid k hD hDn,⟨m,hn,λi x v e1 e2 e3=>?_⟩,λx c e=>?_,?_,λx c e=>?_,λp hp=>?_,?_,?_⟩
 ·obtain ⟨hx,j,e4,e5⟩:=zp2 B.map e1 e2
  have hfr:=B.vis x hx
  obtain ⟨c,hcl⟩:=hb.2.2 x (.inl (PySem.mem_of_lookup hfr))
  have h1x:X.env.cells.lookup x=some c:=by
   rcases hb.1 x c hcl with ⟨z,_⟩ | ⟨_,z⟩
   ·exact z
   ·rw [hfr] at z;cases z
  obtain ⟨m0,hn0,hl0⟩:=I.loc
  have ok:=B.free _ (PySem.mem_of_lookup hfr) rfl
  have hv:Vis X.env.scope x:=by
   rcases ok with z | z
   ·exact .inr (.inl z)
   ·exact .inr (.inr z)
  obtain ⟨u,r,l⟩:=hl0 j x v e4 e5 hv
  refine ⟨u,r,.inr ⟨?_,c,hcl,?_⟩⟩
  ·rcases e3 with z | z | z
   ·have z':((scope.names.map λ(n,k)=>if (k==NameKind.free && X.env.scope.kind== .function && X.env.kindOf n==some .cell) then (n,NameKind.cell) else (n,k))).lookup x=some .local:=z
    rcases zdk z' with y | ⟨y,_⟩
    ·rw [hfr] at y;cases y
    ·cases y
   ·exact .inl z
   ·exact .inr z
  ·rcases l with ⟨k0,_⟩ | ⟨_,c',e6,o,ho',hd⟩
   ·have k0':X.env.scope.names.lookup x=some .local:=k0
    rcases ok with z | z<;>(rw [k0'] at z;cases z)
   ·rw [h1x] at e6
    cases e6
    exact ⟨o,k _ _ ho',hd⟩
 ·rcases hb.1 x c e with ⟨z,_⟩ | ⟨z,_⟩
  ·obtain ⟨v,o,ho',hd⟩:=I.cell x c z
   exact ⟨v,o,k _ _ ho',hd⟩
  ·exact ⟨none,hnew x c z e⟩
 ·show upd H D (.lst []) C=none
  rw [zay (Nat.ne_of_gt hDC)];exact hCn
 ·rcases hb.1 x c e with ⟨z,_⟩ | ⟨z,_⟩
  ·obtain ⟨v,o,ho',hd⟩:=I.cell x c z
   rw [zay (lt _ _ ho')]
   exact I.freeC x c z
  ·rw [zay (Nat.ne_of_gt (Nat.lt_trans hDC z))]
   exact I.hok.fresh (Nat.le_trans hC (Nat.le_of_lt z))
 ·obtain ⟨e,n,ne,nf,d⟩:=I.pin p hp
  refine ⟨k _ _ e,?_,Nat.ne_of_lt (Nat.lt_of_lt_of_le (Heap.lt_size e) hC),λz=>?_,d⟩
  ·rw [zay (lt _ _ e)];exact n
  ·rcases List.mem_cons.mp (I.stkSub _ z) with q | q
   ·exact ne q
   ·exact nf q
 ·exact I.hok.laid k hD ⟨Nat.zero_le _,[],0,.nil,ho⟩
 ·have hm:=congrArg List.length B.map
  rw [List.length_map,List.length_map] at hm
  show ((zg7 own.length fv σ)).length=(own++fvn).length
  unfold zg7
  rw [List.length_append,List.length_append,List.length_replicate,List.length_map,hm]
theorem znf {scope:Scope} {N':List Str} {cl:List (Str×Addr)} {C:Addr} {fp:List Addr} {σ':St} {H':Hp} {s':Shared} (I:Inv X pins σ H s) (hC:s.heap.objs.size≤C) (hf:∀ b∈fp,zkt X pins H b)
  (J:Inv (zb4 X N' scope cl C fp s H) pins σ' H' s'):Inv X pins σ H' s'∧zkt X pins H' C:=by
 have I':Inv X pins σ H' s':=I.call' (ch:=fp) J.os J.base J.hok J.bare λb hb=>⟨(hf b hb).2.2.2.1,(hf b hb).2.1,(hf b hb).2.2.2.2.1,(hf b hb).2.2.2.2.2⟩
 refine ⟨I',J.free,Nat.ne_of_gt (Nat.lt_of_lt_of_le I.lt hC),I.nofs hC,.inr (Nat.le_trans I.sz hC),λx c e z=>?_,λp hp z=>?_⟩
 ·obtain ⟨v,q⟩:=I.cell x c e
  exact absurd (Nat.lt_of_lt_of_le q.lt (by rw [z];exact hC)) (Nat.lt_irrefl _)
 ·exact absurd (Nat.lt_of_lt_of_le (Heap.lt_size (I.pin p hp).1) (by rw [z];exact hC)) (Nat.lt_irrefl _)
end
section
variable {prog:Program} {w:World} {A:Around} {R:Result->Shared->Prop} {s:Shared}
theorem zmQ {elt target iter:Expr} {ifs:List Expr} {scope:Scope} {pos:Pos} {it acc:Value} {env:Env} (I:Nat->Shared->Prop)
  (turn:∀ n s,I n s->wpAny (model prog w) A (pyNext it) (λr s₁=>match r with
   | none=>R (.ok .next) s₁
   | some v=>wpAny (model prog w) A (letOwnedTupleGo target it v) (λ_ s₁'=>wpAny (model prog w) A (assign target env v) (λ_ s₂ =>
     wpAny (model prog w) A (forIn ifs true λc r=>if r=true then do let ok ← isTrue c env (eval c env);pure (ForInStep.yield ok) else pure (ForInStep.yield r)) (λok s₃ =>
      if ok=true then wpAny (model prog w) A (eval elt env) (λx s₄ =>
       wpAny (model prog w) A (call (.builtin "list.append") [acc,x]) (λ_ s₅=>∃ m,m<n∧I m s₅) (λ_ _=>False) s₄) (λ_ _=>False) s₃
      else ∃ m,m<n∧I m s₃) (λ_ _=>False) s₂) (λ_ _=>False) s₁') (λ_ _=>False) s₁) (λ_ _=>False) s)
  (n:Nat) (h:I n s) :
  codeAny (model prog w) A (.compLoop (.ListComp elt [⟨target,iter,ifs,0⟩] scope pos) 0 it acc env) R s:=by
 refine codeAny_loop rfl I (λn s hI=>?_) n h
 show wpAny _ A ((compTurn (.ListComp elt [⟨target,iter,ifs,0⟩] scope pos) 0 it acc env).onRaise (λx=>do noteFrame x env;theTreesLotGoes x)) _ _ s
 refine wpAny_noted ?_
 rw [compTurn_list]
 refine wpAny_bind (wpAny_standAt (wpAny_bind (wpAny_mono (turn n s hI) (λr s₁ h₁=>?_) λ_ _ h'=>h'.elim)))
 cases r with
 | none=>exact wpAny_pure h₁
 | some v =>
  refine wpAny_bind (wpAny_mono h₁ (λ_ s₁' h₁'=>?_) λ_ _ h'=>h'.elim)
  refine wpAny_bind (wpAny_mono h₁' (λ_ s₂ h₂=>wpAny_bind (wpAny_mono h₂ (λok s₃ h₃=>?_) λ_ _ h'=>h'.elim)) λ_ _ h'=>h'.elim)
  cases ok with
  | false=>exact wpAny_pure ⟨rfl,h₃⟩
  | true =>
   exact wpAny_bind (wpAny_bind (wpAny_mono h₃ (λx s₄ h₄=>wpAny_bind (wpAny_mono h₄ (λ_ s₅ h₅=>wpAny_pure (wpAny_pure ⟨rfl,h₅⟩)) λ_ _ h'=>h'.elim)) λ_ _ h'=>h'.elim))
end
abbrev TTs:=St->Hp->(Bool->Hp->Prop)->Prop
def PTs (X:Cx) (ifs:List Expr) (t:TTs):Prop :=
 ∀ (pins:List (Addr×Obj)) (s:Shared) (σ:St) (H:Hp) (Q:Bool->Hp->Prop),Inv X pins σ H s->t σ H Q →
  wpAny (model X.prog X.w) X.A (forIn ifs true λc r=>if r=true then do let ok ← isTrue c X.env (eval c X.env);pure (ForInStep.yield ok) else pure (ForInStep.yield r)) (TP X pins σ Q) X.xe s
def zoa:TTs:=λ_ H Q=>Q true H
theorem zbg {X:Cx}:PTs X [] zoa:=λ_ _ _ H _ I h=>wpAny_tests_nil ⟨H,I,h⟩
theorem zjC {X:Cx} {c:Expr} {t:TT} (h:PT X c t):PTs X [c] t:=λpins s σ H Q I hw=>wpAny_tests_one (h pins s σ H Q I hw)
def zlS (own:Nat) (fv:List Nat) (wi:TI) (g:TG) (tt:TTs) (te:TE):TE:=λσ H Q=>wi σ H λJ H1=>∀ D,H1 D=none →
 ∃ W:Nat->Nat->List V->St->Hp->Prop,(∃ m,W 0 m [] (zg7 own fv σ) (upd H1 D (.lst [])))∧∀ i m ys σb H,W i m ys σb H->H D=some (.lst ys) ∧
  ((J.stop i H∧Q (.ref D) H)∨(J.go i H∧∀ x H',J.yld i H x H'->g x σb H' λσ2 H2=>tt σ2 H2 λok H3=>if ok=true then te σ2 H3 λy H4=>H4 D=some (.lst ys)∧ys.length<sizeLine∧∃ m',m'<m∧W (i+1) m' (ys++[y]) σ2 (upd H4 D (.lst (ys++[y])))
   else ∃ m',m'<m∧W (i+1) m' ys σ2 H3))
section
variable {X:Cx} {tg iter elt:Expr} {ifs:List Expr} {scope:Scope} {pos:Pos} {wi:TI} {g:TG} {tt:TTs} {te:TE} {own fvn:List Str} {fv:List Nat}
theorem zkX {pins:List (Addr×Obj)} {σ:St} {s:Shared} {Q:VK} {E:Value->Shared->Prop} {cl:List (Str×Addr)} {RR:Value->Addr->Result->Shared->Prop} {itv:Value}
  (hc:X.calm=true) (B:BlkScope X scope own fvn fv) (h1:∀ x c,cl.lookup x=some c->X.env.cells.lookup x=some c) (h2:∀ x,(x,NameKind.free)∈scope.names->∃ c,cl.lookup x=some c)
  (hb:∀ (cl:List (Str×Addr)) (C:Addr) (fp:List Addr) (s:Shared) (H:Hp),PG (zb4 X (own++fvn) scope cl C fp s H) tg g∧PTs (zb4 X (own++fvn) scope cl C fp s H) ifs tt∧PE (zb4 X (own++fvn) scope cl C fp s H) elt te)
  (P:PIE X pins σ tg (λJ H1=>∀ D,H1 D=none →
   ∃ W:Nat->Nat->List V->St->Hp->Prop,(∃ m,W 0 m [] (zg7 own.length fv σ) (upd H1 D (.lst [])))∧∀ i m ys σb H,W i m ys σb H->H D=some (.lst ys) ∧
    ((J.stop i H∧Q (.ref D) H)∨(J.go i H∧∀ x H',J.yld i H x H'->g x σb H' λσ2 H2=>tt σ2 H2 λok H3=>if ok=true then te σ2 H3 λy H4=>H4 D=some (.lst ys)∧ys.length<sizeLine∧∃ m',m'<m∧W (i+1) m' (ys++[y]) σ2 (upd H4 D (.lst (ys++[y])))
     else ∃ m',m'<m∧W (i+1) m' ys σ2 H3))) itv s)
  (hRR:∀ D C s' H' m,Inv X pins σ H' s'->s'.heap.Ns C m->zkt X pins H' C->Q (.ref D) H'->RR (.ref D) C (.ok .next) s') :
  wpAny (model X.prog X.w) X.A (newList []) (λacc s₃=>wpAny (model X.prog X.w) X.A (newFunctionEnv scope X.env.globals cl [] X.env.qual none .none (some X.env)) (λcenv s₄ =>
   codeAny (model X.prog X.w) X.A (.compStart (.ListComp elt [⟨tg,iter,ifs,0⟩] scope pos) 0 itv acc { cenv with scope:=relabel scope X.env }) (RR acc cenv.locals) s₄) E s₃) E s:=by
 obtain ⟨it,fp,tn,J,H2,rfl,I2,T,st2,f2,hW⟩:=P
 have hl:∀ b∈fp,b<s.heap.objs.size:=λb hb=>by
  obtain ⟨o,e,_⟩:=T.obj _ _ st2 b hb
  exact Heap.lt_size e
 refine wpAny_newObj_type (zei (λh₁ hns₁ hsb₁ hcl₁=>?_))
 dsimp only at hns₁ hsb₁ hcl₁ ⊢
 generalize hH2:s.heap.push { cls:=.type "list",dict:=none,data:=.seq ([]:List Value).toArray }=G2 at hns₁ hsb₁ hcl₁ ⊢
 have hC:G2.objs.size=s.heap.objs.size+1:=by rw [← hH2,Heap.size_push]
 have hDC:s.heap.objs.size<G2.objs.size:=by rw [hC];exact Nat.lt_succ_self _
 have hCle:s.heap.objs.size≤G2.objs.size:=by rw [hC];exact Nat.le_succ _
 have old:∀ b o,s.heap.get? b=some o->h₁.get? b=some o:=λb o e=>hsb₁ b o (hH2 ▸ Heap.get?_push_of_some _ e)
 have hacc:h₁.get? s.heap.objs.size=some { cls:=.type "list",data:=.seq #[] 0 }:=hsb₁ _ _ (hH2 ▸ Heap.get?_push_size _ rfl)
 have hbc:znE X scope (cellsFrom (G2.objs.size+1) scope.names cl) G2.objs.size:=zrA B h1 h2 λx c e=>by
  obtain ⟨v,q⟩:=I2.cell x c e
  exact Nat.le_trans (Nat.le_of_lt q.lt) hCle
 have hnew:∀ x c,G2.objs.size<c->((cellsFrom (G2.objs.size+1) scope.names cl)).lookup x=some c->h₁.IsCell c none:=λx c hc' e=>by
  rcases hbc.1 x c e with ⟨z,_⟩ | ⟨_,z⟩
  ·obtain ⟨v,q⟩:=I2.cell x c z
   exact absurd (Nat.lt_of_lt_of_le q.lt hCle) (Nat.not_lt.mpr (Nat.le_of_lt hc'))
  ·exact hcl₁ x c (PySem.mem_of_lookup z) e
 generalize cellsFrom (G2.objs.size+1) scope.names cl=cl' at hbc hnew ⊢
 clear h1 h2 hcl₁
 obtain ⟨W,⟨m0,w0⟩,turn⟩:=hW s.heap.objs.size (I2.hok.fresh (Nat.le_refl _))
 have J0:∀ t',Inv (zb4 X (own++fvn) scope cl' G2.objs.size fp s H2) pins (zg7 own.length fv σ) (upd H2 s.heap.objs.size (.lst [])) { s with heap:=h₁,toks:=t' }:=λt' =>
  zjs I2 B hc hbc hnew f2 hl (Nat.le_refl _) hCle hDC old hns₁ hacc
 obtain ⟨hpg,hpt,hpe⟩:=hb cl' G2.objs.size fp s H2
 have stat:∀ {H':Hp},(∀b∈fp,H' b=none)->∀ b∈fp,zkt (zb4 X (own++fvn) scope cl' G2.objs.size fp s H2) pins H' b:=λhn b hb =>
  ⟨hn b hb,Nat.ne_of_lt (Nat.lt_of_lt_of_le (hl b hb) hCle),λz=>by
   rcases List.mem_cons.mp (I2.stkSub b z) with q | q
   ·exact (f2 b hb).2.1 q
   ·exact (f2 b hb).2.2.1 q,.inl hb,λx c e=>(by
    rcases hbc.1 x c e with ⟨z,_⟩ | ⟨z,_⟩
    ·exact (f2 b hb).2.2.2.2.1 x c z
    ·exact Nat.ne_of_gt (Nat.lt_trans (Nat.lt_of_lt_of_le (hl b hb) hCle) z)),(f2 b hb).2.2.2.2.2⟩
 have st1:tn 0 h₁:=T.keep _ _ _ st2 λb hb o e=>old b o e
 have fr1:∀ b∈fp,upd H2 s.heap.objs.size (.lst []) b=none:=λb hb=>by
  rw [zay (Nat.ne_of_lt (hl b hb))];exact (f2 b hb).1
 have loop:∀ s₃:Shared,s₃={ s with heap:=h₁ } →
   codeAny (model X.prog X.w) X.A (.compLoop (.ListComp elt [⟨tg,iter,ifs,0⟩] scope pos) 0 (.ref it) (.ref s.heap.objs.size) (compEnvC scope cl' G2.objs.size X.env)) (RR (.ref s.heap.objs.size) G2.objs.size) s₃:=by
  rintro s₃ rfl
  refine zmQ (λn s'=>∃ i ys σ' H',Inv (zb4 X (own++fvn) scope cl' G2.objs.size fp s H2) pins σ' H' s'∧tn i s'.heap∧(∀b∈fp,H' b=none)∧W i n ys σ' H') ?_ m0 ⟨0,[],_,_,J0 s.toks,st1,fr1,w0⟩
  rintro n s3 ⟨i,ys,σ3,H3,I3,st3,fr3,w3⟩
  obtain ⟨hD,w3⟩:=turn i n ys σ3 H3 w3
  rcases w3 with ⟨stop,qn⟩ | ⟨go,step⟩
  ·refine thn (T.done (zb4 X (own++fvn) scope cl' G2.objs.size fp s H2) rfl rfl rfl rfl i pins s3 σ3 H3 _ I3 (stat fr3) st3 stop) λr s4 ⟨hr,I4⟩=>?_
   subst hr
   obtain ⟨I5,fC⟩:=znf I2 hCle f2 I4
   obtain ⟨m,hn,_⟩:=I4.loc
   exact hRR _ _ s4 H3 m I5 hn fC qn
  ·refine thn (T.item (zb4 X (own++fvn) scope cl' G2.objs.size fp s H2) rfl rfl rfl rfl i pins s3 σ3 H3 _ I3 (stat fr3) st3 go) λr s4 ⟨u,hr,h4⟩=>?_
   subst hr
   refine thn h4 λ_ s5 ⟨x,H5,I5,r5,y5,st5,fr5⟩=>?_
   have I5':=I5.pinned (stat fr5) (T.obj _ _ st5)
   refine thn (hpg _ s5 σ3 H5 x u _ I5' r5 (step x H5 y5)) λ_ s6 ⟨σ6,H6,I6,q6⟩=>?_
   refine thn (hpt _ s6 σ6 H6 _ I6 q6) λok s7 ⟨H7,I7,q7⟩=>?_
   have again:∀ {s8:Shared} {σ8:St} {H8:Hp} {ys':List V} {m':Nat},Inv (zb4 X (own++fvn) scope cl' G2.objs.size fp s H2) (pins++ziQ fp s5.heap) σ8 H8 s8->m'<n->W (i+1) m' ys' σ8 H8 →
     ∃ m,m<n∧∃ i ys σ' H',Inv (zb4 X (own++fvn) scope cl' G2.objs.size fp s H2) pins σ' H' s8∧tn i s8.heap∧(∀b∈fp,H' b=none)∧W i m ys σ' H':=λ{s8 σ8 H8 ys' m'} I8 hm w8=>by
    refine ⟨m',hm,i+1,ys',σ8,H8,I8.unpinned,T.keep _ _ _ st5 λb hb o e=>(I8.pin (b,o) (List.mem_append_right _ (List.mem_append_right _ (zfg hb e)))).1,λb hb=>?_,w8⟩
    obtain ⟨o,e,d⟩:=T.obj _ _ st5 b hb
    exact (I8.pin (b,o) (List.mem_append_right _ (List.mem_append_right _ (zfg hb e)))).2.1
   cases ok with
   | false =>
    rw [if_neg Bool.false_ne_true] at q7 ⊢
    obtain ⟨m',hm,w8⟩:=q7
    exact again I7 hm w8
   | true =>
    rw [if_pos rfl] at q7 ⊢
    refine thn (hpe _ s7 σ6 H7 _ I7 q7) λyv s8 ⟨y,H8,I8,r8,hD8,hz8,m',hm,w8⟩=>?_
    refine thn (zi0 _ s8 σ6 H8 (.ref s.heap.objs.size) [y] _ [yv] (λ_ H9=>H9=upd H8 s.heap.objs.size (.lst (ys++[y]))) I8 rfl (.cons r8 .nil) ⟨_,ys,y,rfl,rfl,hD8,hz8,rfl⟩) λ_ s9 ⟨_,H9,I9,_,e9⟩=>?_
    subst e9
    exact again I9 hm w8
 exact codeAny_compStart_list (loop _ rfl) (T.self _ 0 _ _ _ st1 (loop _ rfl))
theorem zgP (B:BlkScope X scope own fvn fv) (ok:X.Ok):∃ cl,closureFor scope X.env=pure cl∧(∀ x c,cl.lookup x=some c->X.env.cells.lookup x=some c)∧∀ x,(x,NameKind.free)∈scope.names->∃ c,cl.lookup x=some c :=
 zk5 λx hx hk=>ok.has x.1 (B.free x hx hk)
theorem zb0 (hc:X.calm=true) (B:BlkScope X scope own fvn fv) (hi:PI X tg iter wi)
  (hb:∀ (cl:List (Str×Addr)) (C:Addr) (fp:List Addr) (s:Shared) (H:Hp),PG (zb4 X (own++fvn) scope cl C fp s H) tg g∧PTs (zb4 X (own++fvn) scope cl C fp s H) ifs tt∧PE (zb4 X (own++fvn) scope cl C fp s H) elt te)
  (hs:∀ x,foldedSetIterable iter X.env x=pure x:=by intro _;rfl):PE X (.ListComp elt [⟨tg,iter,ifs,0⟩] scope pos) (zlS own.length fv wi g tt te):=by
 intro pins s σ H Q I h
 obtain ⟨cl,hcl,h1,h2⟩:=zgP B I.ok
 rw [eval_ListComp]
 refine wpAny_comprehension_free (use:=none) rfl hs hcl B.kind B.names (thn (hi pins s σ H _ I h) λv s1 q1=>thn q1 λitv s2 q2=> ?_)
 refine zkX (RR:=λacc C=>compPost (model X.prog X.w) X.A X.xe none (EP X pins σ Q) acc C) hc B h1 h2 hb q2 λD C s' H' m I' hn fC q=>?_
 exact ⟨m,hn,λh' hs'=>⟨.ref D,H',I'.turned (t':=s'.toks) (λb o hb e=>(hs'.2 b hb).trans e) fC.1 fC.2.1 fC.2.2.2.1 fC.2.2.2.2.1 fC.2.2.2.2.2,rfl,q⟩⟩
theorem zec {i:Nat} {x:Str} {pos' spos:Pos} (hc:X.calm=true) (hN:X.N.Nodup) (hix:X.N[i]?=some x) (hx:X.env.scope.names.lookup x=some .local) (B:BlkScope X scope own fvn fv) (hi:PI X tg iter wi)
  (hb:∀ (cl:List (Str×Addr)) (C:Addr) (fp:List Addr) (s:Shared) (H:Hp),PG (zb4 X (own++fvn) scope cl C fp s H) tg g∧PTs (zb4 X (own++fvn) scope cl C fp s H) ifs tt∧PE (zb4 X (own++fvn) scope cl C fp s H) elt te)
  (hsw:swapsWith (.ListComp elt [⟨tg,iter,ifs,0⟩] scope pos) (some (.Name x pos')) spos.line X.env=pure true:=by rfl)
  (hs:∀ x,foldedSetIterable iter X.env x=pure x:=by intro _;rfl) :
  PS X (.Assign [.Name x pos'] (.ListComp elt [⟨tg,iter,ifs,0⟩] scope pos) spos) (zkc (zlS own.length fv wi g tt te) (zdz i)):=by
 intro pins s σ H D I h
 obtain ⟨cl,hcl,h1,h2⟩:=zgP B I.ok
 rw [exec_Assign_Name_used _ _ _ _ hsw]
 refine wpAny_bind (wpAny_standAt (wpAny_bind ?_))
 show wpAny _ _ (do let _ ← comprehension (.ListComp elt [⟨tg,iter,ifs,0⟩] scope pos) scope X.env _ (newList []) false (eval iter X.env) (some (assign (.Name x pos') X.env))) _ _ s
 refine wpAny_bind (wpAny_mono (wpAny_comprehension_free (use:=some (assign (.Name x pos') X.env)) (Q:=λ_ s'=>SP X pins D .next s') rfl hs hcl B.kind B.names
  (thn (hi pins s σ H _ I h) λv s1 q1=>thn q1 λitv s2 q2=> ?_)) (λ_ s' hq=>wpAny_pure (wpAny_pure hq)) λ_ _ e=>e)
 refine zkX (Q:=λv H1=>zdz i v σ H1 D.nx) (RR:=λacc C=>compPost (model X.prog X.w) X.A X.xe (some (assign (.Name x pos') X.env)) (λ_ s'=>SP X pins D .next s') acc C) hc B h1 h2 hb q2 λDa C s' H' m I' hn fC q=>?_
 show wpAny _ _ (assign (.Name x pos') X.env (.ref Da)) _ _ _
 refine wpAny_assign_Name (ziZ I' hN hix (.inl hx) (v:=.ref Da) rfl (λs'' I'' ⟨a,hsb,ha⟩=>?_) (.inr hx))
 have hCa:C≠a:=by
  rcases ha with z | z
  ·rw [z];exact fC.2.1
  ·exact Ne.symm (fC.2.2.2.2.1 x a z)
 refine ⟨m,hn.sameBut hsb hCa,λh'' hs''=>⟨_,H',I''.turned (t':=s''.toks) (λb o hb e=>(hs''.2 b hb).trans e) fC.1 fC.2.1 fC.2.2.2.1 fC.2.2.2.2.1 fC.2.2.2.2.2,q⟩⟩
end
end L2
namespace L2
open PySem PySem.Spec PyProof.Rows
section
variable {X:Cx} {pins:List (Addr×Obj)} {σ:St} {H:Hp} {s:Shared} {h':Heap}
theorem Inv.turnedNew {t':Nat} {ch:List Addr} {T:Addr} {o:HO} (I:Inv X pins σ H s) (hf:∀ b∈ch,zkt X pins H b) (k:∀ b u,b ∉ ch->s.heap.get? b=some u->h'.get? b=some u) (hT:s.heap.objs.size≤T)
  (new:zeO X.prog X.w (upd H T o) h' T o):Inv X pins σ (upd H T o) { s with heap:=h',toks:=t' }:=by
 have hn:H T=none:=I.hok.fresh hT
 have lt:∀ b u,s.heap.get? b=some u->b≠T:=λb u e=>Nat.ne_of_lt (Nat.lt_of_lt_of_le (Heap.lt_size e) hT)
 refine I.step (g':=s.gens) (d':=s.drawn) (ch:=ch) (λb hb=>⟨(hf b hb).2.2.2.1,(hf b hb).2.1,(hf b hb).2.2.2.2.1,(hf b hb).2.2.2.2.2⟩) (λb u _ _ hc e _=>k b u hc e) (λb u _ _ hc e _=>⟨u.slots,k b u hc e⟩)
  (λb u _ e n=>by rw [zay (lt b u e)];exact n) (λb u hc e=>⟨u,k b u hc e⟩) (λb xs e=>by rw [zay (za7 e hn)];exact e) (λb u xs e=>by rw [zay (za7 e hn)];exact e)
  (λb ps e=>⟨#[],by rw [zay (za7 e hn),e];simp⟩) (λm hm=>?_) (λb u e=>?_) I.bare
 ·obtain ⟨o,es,ep,ho,r⟩:=hm
  exact ⟨o,es,ep,k _ o (λz=>(hf _ z).2.1 rfl) ho,r⟩
 ·by_cases hb:b=T
  ·subst hb;rw [zaH] at e;cases e;exact new
  ·rw [zay hb] at e
   refine ((I.hok b u e)).stay (λc v hc q=>k c v (λz=>?_) q) (λc q=>by rw [zay (za7 q hn)];exact q) λc xs q=>by rw [zay (za7 q hn)];exact q
   have z':=(hf c z).1
   rcases hc with hc | hc
   ·rw [hc,e] at z';cases z'
   ·rw [hc] at z';cases z'
theorem Inv.turnedL {t':Nat} {ch:List Addr} (I:Inv X pins σ H s) (hf:∀ b∈ch,zkt X pins H b) (k:∀ b u,b ∉ ch->s.heap.get? b=some u->h'.get? b=some u):Inv X pins σ H { s with heap:=h',toks:=t' }:=by
 refine I.step (g':=s.gens) (d':=s.drawn) (ch:=ch) (λb hb=>⟨(hf b hb).2.2.2.1,(hf b hb).2.1,(hf b hb).2.2.2.2.1,(hf b hb).2.2.2.2.2⟩) (λb u _ _ hc e _=>k b u hc e) (λb u _ _ hc e _=>⟨u.slots,k b u hc e⟩)
  (λb u _ e n=>n) (λb u hc e=>⟨u,k b u hc e⟩) (λb xs e=>e) (λb u xs e=>e) (λb ps e=>⟨#[],by rw [e];simp⟩) (λm hm=>?_) (λb u e=>?_) I.bare
 ·obtain ⟨o,es,ep,ho,r⟩:=hm
  exact ⟨o,es,ep,k _ o (λz=>(hf _ z).2.1 rfl) ho,r⟩
 ·refine ((I.hok b u e)).stay (λc v hc q=>k c v (λz=>?_) q) (λc q=>q) λc xs q=>q
  have z':=(hf c z).1
  rcases hc with hc | hc
  ·rw [hc,e] at z';cases z'
  ·rw [hc] at z';cases z'
end
def Itz (K:W.Frag) (a b:Addr):It :=
 ⟨λi H=>∃ xs ys x y,SqL K H a xs∧SqL K H b ys∧xs[i]?=some x∧ys[i]?=some y,
  λi H v H'=>∃ p x y,v=.ref p∧H p=none∧H'=upd H p (.tup [x,y])∧∀ xs ys,SqL K H a xs->SqL K H b ys->xs[i]?=some x∧ys[i]?=some y,
  λi H=>∃ xs ys,SqL K H a xs∧SqL K H b ys∧(xs.length≤i∨ys.length≤i)⟩
theorem znG {P:Program} {w:World} {K:W.Frag} {elts:List Expr} {x1:Nat} {tp:Pos} {a b z TI TO i1 i2:Addr} (D:ZipApart z TI TO i1 i2 a b) :
  Turn P w K (.Tuple elts x1 tp) (Itz K a b) [z,TI,TO,i1,i2] z
   (λi h=>IsZip h z TI TO .none∧IsPair h TI (.ref i1) (.ref i2)∧(∃ p q,IsPair h TO p q)∧h.IsListIter i1 a i∧h.IsListIter i2 b i) where
 mem:=by simp
 obj:=λi h st c hc=>by
  obtain ⟨hz,hTI,⟨p,q,hTO⟩,⟨o1,e1,_,d1⟩,⟨o2,e2,_,d2⟩⟩:=st
  simp only [List.mem_cons,List.not_mem_nil,or_false] at hc
  rcases hc with rfl | rfl | rfl | rfl | rfl
  ·exact ⟨_,hz,λv z=>by cases z⟩
  ·exact ⟨_,hTI,λv z=>by cases z⟩
  ·exact ⟨_,hTO,λv z=>by cases z⟩
  ·exact ⟨o1,e1,λv z=>by rw [d1] at z;cases z⟩
  ·exact ⟨o2,e2,λv z=>by rw [d2] at z;cases z⟩
 keep:=λi h h' st k=>by
  obtain ⟨hz,hTI,⟨p,q,hTO⟩,h1,h2⟩:=st
  exact ⟨k z (by simp) _ hz,k TI (by simp) _ hTI,⟨p,q,k TO (by simp) _ hTO⟩,h1.at λo e=>k i1 (by simp) o e,h2.at λo e=>k i2 (by simp) o e⟩
 item:=by
  intro X hP hw hK hc i pins s σ H E I hf st hg
  subst hP hw hK
  obtain ⟨xs,ys,x,y,hxs,hys,hx,hy⟩:=hg
  obtain ⟨itx,rx,px,hzx⟩:=I.list hxs
  obtain ⟨ity,ry,py,hzy⟩:=I.list hys
  obtain ⟨u,hu,ru⟩:=rx.get hx
  obtain ⟨v,hv,rv⟩:=ry.get hy
  obtain ⟨hz,hTI,⟨p,q,hTO⟩,h1,h2⟩:=st
  refine wpAny_pyNext_zip_item (x:=u) (y:=v) D hz hTI hTO h1 h2 px.isList py.isList (by simpa using hu) (by simpa using hv) λh' a1 a2 a3 a4 a5 a6 hk=>?_
  refine ⟨_,rfl,wpAny_letOwnedTupleGo_zip a1 λh'' b1 b2=>?_⟩
  have zlt:z<s.heap.objs.size:=Heap.lt_size hz
  have lt:∀ c∈[z,TI,TO,i1,i2],c<s.heap.objs.size:=λc hc=>by
   simp only [List.mem_cons,List.not_mem_nil,or_false] at hc
   rcases hc with rfl | rfl | rfl | rfl | rfl
   ·exact zlt
   ·exact Heap.lt_size hTI
   ·exact Heap.lt_size hTO
   ·obtain ⟨_,e,_⟩:=h1;exact Heap.lt_size e
   ·obtain ⟨_,e,_⟩:=h2;exact Heap.lt_size e
  have tup:IsPair h'' s.heap.objs.size u v:=b2.extBut _ _ (Nat.ne_of_gt zlt) a5
  have I1:Inv X pins σ (upd H s.heap.objs.size (.tup [x,y])) { s with heap:=h'' }:=by
   refine I.turnedNew (t':=s.toks) (ch:=[z,TO,i1,i2]) (λc hc=>hf c ?_) (λc ob hc e=>?_) (Nat.le_refl _) ?_
   ·simp only [List.mem_cons,List.not_mem_nil,or_false] at hc ⊢
    rcases hc with z | z | z | z<;>simp [z]
   ·simp only [List.mem_cons,List.not_mem_nil,or_false,not_or] at hc
    exact b2.extBut _ _ hc.1 (hk c ob hc.1 hc.2.1 hc.2.2.1 hc.2.2.2 e)
   ·exact ⟨by show 2≤sizeLine;decide,[u,v],.cons ru (.cons rv .nil),⟨_,tup,rfl,_,rfl⟩⟩
  refine ⟨.ref s.heap.objs.size,_,I1,rfl,⟨_,x,y,rfl,I.hok.fresh (Nat.le_refl _),rfl,λxs' ys' q1 q2=>?_⟩,⟨b1,?_,⟨_,_,b2.extBut _ _ D.TOz a2⟩,a3.extBut b2.extBut D.i1z,a4.extBut b2.extBut D.i2z⟩,λc hc=>?_⟩
  ·rw [I.list_inj q1 hxs,I.list_inj q2 hys];exact ⟨hx,hy⟩
  ·exact b2.extBut _ _ D.TIz (hk _ _ D.TIz D.TITO D.TIi1 D.TIi2 hTI)
  ·rw [zay (Nat.ne_of_lt (lt c hc))];exact (hf c hc).1
 done:=by
  intro X hP hw hK hc i pins s σ H E I hf st hg
  subst hP hw hK
  obtain ⟨xs,ys,hxs,hys,hend⟩:=hg
  obtain ⟨itx,rx,px,hzx⟩:=I.list hxs
  obtain ⟨ity,ry,py,hzy⟩:=I.list hys
  obtain ⟨hz,hTI,⟨p,q,hTO⟩,h1,h2⟩:=st
  have lx:=rx.length
  have ly:=ry.length
  refine wpAny_pyNext_zip_end (I.ok.hd hc) D hz hTI hTO h1 h2 px.isList py.isList ?_ λh' hk=>⟨rfl,?_⟩
  ·rcases hend with e | e
   ·exact .inl (by simp;omega)
   ·exact .inr (by simp;omega)
  ·refine I.turnedL (t':=s.toks) (ch:=[z,TO,i1,i2]) (λc hc=>hf c ?_) (λc ob hc e=>?_)
   ·simp only [List.mem_cons,List.not_mem_nil,or_false] at hc ⊢
    rcases hc with z | z | z | z<;>simp [z]
   ·simp only [List.mem_cons,List.not_mem_nil,or_false,not_or] at hc
    exact hk c ob hc.1 hc.2.1 hc.2.2.1 hc.2.2.2 e
 self:=λ_ _ _ _ _ st h=>wpAny_pyIter_zip st.1 h
section
variable {X:Cx}
def zsp (K:W.Frag) (ta:TA):TI:=λσ H R=>ta σ H λvs H1=>∃ a b,vs=[.ref a,.ref b]∧(∃xs,SqL K H1 a xs)∧(∃ ys,SqL K H1 b ys)∧R (Itz K a b) H1
theorem zrR {a b:Expr} {ta:TA} {p pos tp:Pos} {elts:List Expr} {x1:Nat} (hg:Gl X "zip") (hm:X.mg "zip"=none) (ha:PA X [a,b] ta) (hs:starEach [a,b] X.env=[(false,eval a X.env),(false,eval b X.env)]:=by rfl) (hs2:starEach [b] X.env=[(false,eval b X.env)]:=by rfl) :
  PI X (.Tuple elts x1 tp) (.Call (.Name "zip" p) [a,b] [] pos) (zsp X.K ta):=by
 intro pins s σ H R I h
 refine Call_ (zhT I hg hm boot_zip (PyProof.Rows.callWith_type1 (thn (ha pos pins s σ H _ I h) λus s1 ⟨vs,H1,I1,r1,q1⟩=> ?_) (by rw [hs,hs2]) (by rw [hs2];rfl)))
 obtain ⟨l1,l2,e,⟨xs,hx⟩,⟨ys,hy⟩,q⟩:=q1
 subst e
 cases r1 with
 | cons r rr =>
  cases rr with
  | cons r' rr =>
   cases rr
   cases r
   cases r'
   obtain ⟨itx,rx,px,hzx⟩:=I1.list hx
   obtain ⟨ity,ry,py,hzy⟩:=I1.list hy
   have lt1:@LT.lt Nat _ l1 s1.heap.objs.size:=by obtain ⟨o,e,_⟩:=px.isList;exact Heap.lt_size e
   have lt2:@LT.lt Nat _ l2 s1.heap.objs.size:=by obtain ⟨o,e,_⟩:=py.isList;exact Heap.lt_size e
   refine call_zip_2 px.isList py.isList λh' hz hTI hTO h1 h2 hsz hk=>?_
   refine wpAny_pyIter_zip hz ?_
   have D:ZipApart (s1.heap.objs.size+4) (s1.heap.objs.size+2) (s1.heap.objs.size+3) s1.heap.objs.size (s1.heap.objs.size+1) l1 l2:=by
    constructor<;>(show @Ne Nat _ _;omega)
   refine ⟨s1.heap.objs.size+4,[s1.heap.objs.size+4,s1.heap.objs.size+2,s1.heap.objs.size+3,s1.heap.objs.size,s1.heap.objs.size+1],_,Itz X.K l1 l2,H1,rfl,I1.kept (t':=s1.toks) hk,znG D,⟨hz,hTI,⟨_,_,hTO⟩,h1,h2⟩,λc hc=>?_,q⟩
   have hle:@LE.le Nat _ s1.heap.objs.size c:=by
    simp only [List.mem_cons,List.not_mem_nil,or_false] at hc
    rcases hc with rfl | rfl | rfl | rfl | rfl<;>omega
   exact I1.fpOk hle (I1.hok.fresh hle)
end
theorem preSum_list:∀ (ns:Ji) (k:Nat),k≤ns.length->preSum (λi=>(ns[i]?).getD 0) k=(ns.take k).sum
 | _,0,_=>by simp [preSum]
 | ns,k+1,h=>by
  have ih:=preSum_list ns k (by omega)
  have hk:k<ns.length:=by omega
  have e1:preSum (λi=>(ns[i]?).getD 0) (k+1)=preSum (λi=>(ns[i]?).getD 0) k+(ns[k]?).getD 0:=rfl
  have e2:ns.take (k+1)=ns.take k++[ns[k]]:=by rw [List.take_add_one,List.getElem?_eq_getElem hk];rfl
  rw [e1,ih,e2,List.sum_append,List.getElem?_eq_getElem hk]
  simp
section
variable {X:Cx}
theorem zme (hc:X.calm=true):zhm X (.builtin "sum") (λxs H Q=>∃ (a:Addr) (ns:Ji),xs=[.ref a]∧SqL X.K H a (ns.map V.int)∧Q (.int ns.sum) H):=by
 intro pins s σ H xs us Q I r h
 obtain ⟨a,ns,rfl,hq,q⟩:=h
 obtain ⟨u,rfl,rx⟩:=zni r
 cases rx
 obtain ⟨its,rv,p,hz⟩:=I.list hq
 have hl:=rv.length
 rw [List.length_map] at hl
 have alt:a<s.heap.objs.size:=by obtain ⟨o,e,_⟩:=p.isList;exact Heap.lt_size e
 have hl1:(s.heap.push { cls:=.type "list_iterator",data:=.fields #[.ref a,.int 0 0] }).IsList a its.toArray:=Heap.IsList.push p.isList _
 refine call_sum_walkG (wpAny_pyIter_list p.isList ?_)
 refine ⟨s.heap.objs.size,[s.heap.objs.size,a],[s.heap.objs.size],its.toArray.size,_,_,λi=>(ns[i]?).getD 0,rfl,Walks.list (A:=X.A.in1) (I.ok.hd hc) s.heap.objs.size a (Nat.ne_of_lt alt) its.toArray,⟨⟨_,Heap.get?_push_size _ rfl,rfl,rfl⟩,hl1⟩,λb hb=>?_,λi v hv=>?_,λh' tk t' hk=>?_⟩
 ·show b<(s.heap.push _).objs.size
  rw [Heap.size_push]
  simp only [List.mem_cons,List.not_mem_nil,or_false] at hb
  rcases hb with rfl | rfl
  ·exact Nat.lt_succ_self _
  ·exact Nat.lt_succ_of_lt alt
 ·have hv':its[i]?=some v:=by simpa using hv
  have hi:i<its.length:=(List.getElem?_eq_some_iff.mp hv').1
  obtain ⟨u,hu,ru⟩:=rv.get (i:=i) (x:=.int (ns[i]' (by omega))) (by rw [List.getElem?_map,List.getElem?_eq_getElem (by omega)];rfl)
  rw [hv'] at hu
  cases hu
  obtain ⟨t,rfl⟩:=ru
  have e:(ns[i]?).getD 0=ns[i]' (by omega):=by rw [List.getElem?_eq_getElem (show i<ns.length by omega)];rfl
  exact ⟨t,congrArg (λz=>Value.int z t) e.symm⟩
 ·have e:preSum (λi=>(ns[i]?).getD 0) its.toArray.size=ns.sum:=by
   rw [List.size_toArray,← hl,preSum_list ns _ (Nat.le_refl _),List.take_length]
  rw [e]
  exact ⟨.int ns.sum,H,I.kept (h':=h') (t':=tk) λb o e=>hk b o (by simp only [List.mem_singleton];exact Nat.ne_of_lt (Heap.lt_size e)) (Heap.get?_push_of_some _ e),⟨t',rfl⟩,q⟩
end
inductive EqV (K:W.Frag) (H:Hp):Nat->V->V->Bool->Prop where
 | flat {n:Nat} {x y:V} (fx:zns x=true) (fy:zns y=true):EqV K H n x y (eqV x y)
 | same {n:Nat} {a:Addr}:EqV K H n (.ref a) (.ref a) true
 | lists {n:Nat} {a b:Addr} {xs ys:List V} {e:Nat->Bool} (ne:a≠b) (ha:SqL K H a xs) (hb:SqL K H b ys) (hl:xs.length=ys.length)
   (he:∀ (j:Nat) (x y:V),xs[j]?=some x->ys[j]?=some y->EqV K H n x y (e j)):EqV K H (n+1) (.ref a) (.ref b) (((List.range xs.length)).all e)
 | lens {n:Nat} {a b:Addr} {xs ys:List V} (ne:a≠b) (ha:SqL K H a xs) (hb:SqL K H b ys) (hl:xs.length≠ys.length):EqV K H (n+1) (.ref a) (.ref b) false
theorem EqV.at {X:Cx} {pins:List (Addr×Obj)} {σ:St} {H:Hp} {s:Shared} (I:Inv X pins σ H s) {n:Nat} {x y:V} {k:Bool} (h:EqV X.K H n x y k) :
  ∀ {A:Around} {u v:Value},zdA x u->zdA y v->A.units+n<cLine->SeqAt.EqAt A s u v k:=by
 induction h with
 | flat fx fy=>intro A u v rx ry _;exact zql rx ry fx fy
 | same=>intro A u v rx ry _;cases rx;cases ry;exact SeqAt.EqAt.same _
 | @lists n a b xs ys e ne ha hb hl he ih =>
  intro A u v rx ry hu
  cases rx
  cases ry
  obtain ⟨ita,ra,pa,za⟩:=I.list ha
  obtain ⟨itb,rb,pb,zb⟩:=I.list hb
  have la:=ra.length
  have lb:=rb.length
  have q:=SeqAt.RcAt.lists (A:=A) (e:=e) pa.isList pb.isList (by simp;omega) (by omega) λj h1 h2=>?_
  ·rw [List.size_toArray,← la] at q
   exact SeqAt.EqAt.of_refs ne q
  ·have h1':j<ita.length:=by simpa using h1
   have h2':j<itb.length:=by simpa using h2
   obtain ⟨u',hu',ru⟩:=ra.get (i:=j) (x:=xs[j]' (by omega)) (List.getElem?_eq_getElem (by omega))
   obtain ⟨v',hv',rv⟩:=rb.get (i:=j) (x:=ys[j]' (by omega)) (List.getElem?_eq_getElem (by omega))
   have eu:ita.toArray[j]=u':=by
    rw [List.getElem?_eq_getElem h1'] at hu'
    simpa using hu'
   have ev:itb.toArray[j]=v':=by
    rw [List.getElem?_eq_getElem h2'] at hv'
    simpa using hv'
   rw [eu,ev]
   exact ih j _ _ (List.getElem?_eq_getElem (by omega)) (List.getElem?_eq_getElem (by omega)) ru rv (by show A.units+1+n<cLine;omega)
 | @lens n a b xs ys ne ha hb hl =>
  intro A u v rx ry hu
  cases rx
  cases ry
  obtain ⟨ita,ra,pa,za⟩:=I.list ha
  obtain ⟨itb,rb,pb,zb⟩:=I.list hb
  have la:=ra.length
  have lb:=rb.length
  exact SeqAt.EqAt.of_refs ne (SeqAt.RcAt.lists_lengths pa.isList pb.isList (by simp;omega) (by omega))
def zo9 (K:W.Frag) (neg:Bool):R2:=λx y H Q=>∃ a b n xs ys,x=.ref a∧y=.ref b∧SqL K H a xs∧SqL K H b ys∧n≤50 ∧
 ((xs.length≠ys.length∧Q (.bl neg) H)∨∃ e:Nat->Bool,xs.length=ys.length∧(∀ (j:Nat) (x y:V),xs[j]?=some x->ys[j]?=some y->EqV K H n x y (e j))∧Q (.bl (if neg then !((List.range xs.length)).all e else ((List.range xs.length)).all e)) H)
section
variable {X:Cx}
theorem zmT {pins:List (Addr×Obj)} {σ:St} {H:Hp} {s:Shared} (I:Inv X pins σ H s) {n:Nat} {xs ys:List V} {ita itb:List Value} {e:Nat->Bool} (ra:zb8 xs ita) (rb:zb8 ys itb) (he:∀ (j:Nat) (x y:V),xs[j]?=some x->ys[j]?=some y->EqV X.K H n x y (e j))
  {A:Around} (hu:A.units+1+n<cLine):∀ j (h1:j<ita.toArray.size) (h2:j<itb.toArray.size),SeqAt.EqAt A.in1 s ita.toArray[j] itb.toArray[j] (e j):=λj h1 h2=>by
 have la:=ra.length
 have lb:=rb.length
 have h1':j<ita.length:=by simpa using h1
 have h2':j<itb.length:=by simpa using h2
 obtain ⟨u',hu',ru⟩:=ra.get (i:=j) (x:=xs[j]' (by omega)) (List.getElem?_eq_getElem (by omega))
 obtain ⟨v',hv',rv⟩:=rb.get (i:=j) (x:=ys[j]' (by omega)) (List.getElem?_eq_getElem (by omega))
 have eu:ita.toArray[j]=u':=by
  rw [List.getElem?_eq_getElem h1'] at hu'
  simpa using hu'
 have ev:itb.toArray[j]=v':=by
  rw [List.getElem?_eq_getElem h2'] at hv'
  simpa using hv'
 rw [eu,ev]
 exact (he j _ _ (List.getElem?_eq_getElem (by omega)) (List.getElem?_eq_getElem (by omega))).at I ru rv hu
theorem zrv (hu:X.A.units+64<cLine):OpR X (compareOp .Eq) (zo9 X.K false):=by
 intro pins s σ H x y v u Q I rx ry h
 obtain ⟨a,b,n,xs,ys,rfl,rfl,ha,hb,hn,h⟩:=h
 cases rx
 cases ry
 obtain ⟨ita,ra,pa,za⟩:=I.list ha
 obtain ⟨itb,rb,pb,zb⟩:=I.list hb
 have la:=ra.length
 have lb:=rb.length
 rcases h with ⟨hl,q⟩ | ⟨e,hl,he,q⟩
 ·exact SeqAt.eq_list_lengthsAt pa.isList pb.isList (by simp;omega) (by omega) ⟨.bl false,H,I,rfl,q⟩
 ·refine SeqAt.eq_listAt (e:=e) pa.isList pb.isList (by simp;omega) (by omega) (zmT I ra rb he (by omega)) ?_
  rw [List.size_toArray,← la]
  exact ⟨.bl _,H,I,rfl,q⟩
end
theorem all_eq {α:Type} [DecidableEq α] {xs ys:List α} (h:xs.length=ys.length):((List.range xs.length)).all (λj=>decide (xs[j]?=ys[j]?))=decide (xs=ys):=by
 rw [Bool.eq_iff_iff,List.all_eq_true,decide_eq_true_iff]
 constructor
 ·intro z
  refine List.ext_getElem? λi=>?_
  by_cases hi:i<xs.length
  ·exact of_decide_eq_true (z i (List.mem_range.mpr hi))
  ·rw [List.getElem?_eq_none (by omega),List.getElem?_eq_none (by omega)]
 ·rintro rfl i _
  exact decide_eq_true rfl
theorem zo9.ints {K:W.Frag} {neg:Bool} {H:Hp} {Q:VK} {a b:Addr} {ns ms:Ji} (ha:SqL K H a (ns.map V.int)) (hb:SqL K H b (ms.map V.int)) (q:Q (.bl (if neg then !decide (ns=ms) else decide (ns=ms))) H) :
  zo9 K neg (.ref a) (.ref b) H Q:=by
 refine ⟨a,b,0,_,_,rfl,rfl,ha,hb,by omega,?_⟩
 by_cases hl:ns.length=ms.length
 ·refine .inr ⟨λj=>decide (ns[j]?=ms[j]?),by simp [hl],λj x y hx hy=>?_,?_⟩
  ·rw [List.getElem?_map] at hx hy
   cases e1:ns[j]? with
   | none=>rw [e1] at hx;cases hx
   | some i =>
    cases e2:ms[j]? with
    | none=>rw [e2] at hy;cases hy
    | some k =>
     rw [e1] at hx
     rw [e2] at hy
     cases hx
     cases hy
     have q:=EqV.flat (K:=K) (H:=H) (n:=0) (x:=.int i) (y:=.int k) rfl rfl
     have e:eqV (.int i) (.int k)=decide (some i=some k):=by
      show (i == k)=_
      rw [Bool.beq_eq_decide_eq]
      simp
     rw [e] at q
     show EqV K H 0 (V.int i) (V.int k) (decide (ns[j]?=ms[j]?))
     rw [e1,e2]
     exact q
  ·rw [List.length_map,all_eq hl]
   exact q
 ·refine .inl ⟨by simpa using hl,?_⟩
  have e:decide (ns=ms)=false:=decide_eq_false (λz=>hl (by rw [z]))
  rw [e] at q
  cases neg<;>exact q
def Rows (K:W.Frag) (H:Hp) (a:Addr) (xss:Jq):Prop :=
 ∃ as:List Addr,SqL K H a (as.map V.ref)∧as.length=xss.length∧∀ (j:Nat) (p:Addr) (ns:Ji),as[j]?=some p->xss[j]?=some ns->H p=some (.lst (ns.map V.int))
theorem zjy {ns ms:Ji} (h:ns.map V.int=ms.map V.int):ns=ms:=by
 induction ns generalizing ms with
 | nil=>cases ms with
  | nil=>rfl
  | cons _ _=>cases h
 | cons x r ih=>cases ms with
  | nil=>cases h
  | cons y s =>
   injection h with h1 h2
   injection h1 with h1
   rw [h1,ih h2]
theorem EqV.ints {K:W.Frag} {H:Hp} {n:Nat} {a b:Addr} {ns ms:Ji} (ha:H a=some (.lst (ns.map V.int))) (hb:H b=some (.lst (ms.map V.int))):EqV K H (n+1) (.ref a) (.ref b) (decide (ns=ms)):=by
 by_cases hab:a=b
 ·subst hab
  rw [ha] at hb
  have e:ns=ms:=zjy (by injection hb with hb;injection hb)
  rw [decide_eq_true e]
  exact .same
 ·by_cases hl:ns.length=ms.length
  ·have q:=EqV.lists (K:=K) (H:=H) (n:=n) (e:=λj=>decide (ns[j]?=ms[j]?)) hab (SqL.of ha) (SqL.of hb) (by simp [hl]) λj x y hx hy=>?_
   ·rw [List.length_map,all_eq hl] at q
    exact q
   ·rw [List.getElem?_map] at hx hy
    cases e1:ns[j]? with
    | none=>rw [e1] at hx;cases hx
    | some i =>
     cases e2:ms[j]? with
     | none=>rw [e2] at hy;cases hy
     | some k =>
      rw [e1] at hx
      rw [e2] at hy
      cases hx
      cases hy
      have q:=EqV.flat (K:=K) (H:=H) (n:=n) (x:=.int i) (y:=.int k) rfl rfl
      have e:eqV (.int i) (.int k)=decide (some i=some k):=by
       show (i == k)=_
       rw [Bool.beq_eq_decide_eq]
       simp
      rw [e] at q
      exact q
  ·rw [decide_eq_false (λz=>hl (by rw [z]))]
   exact .lens hab (SqL.of ha) (SqL.of hb) (by simpa using hl)
theorem zo9.rows {K:W.Frag} {neg:Bool} {H:Hp} {Q:VK} {a b:Addr} {xss yss:Jq} (ha:Rows K H a xss) (hb:Rows K H b yss) (q:Q (.bl (if neg then !decide (xss=yss) else decide (xss=yss))) H) :
  zo9 K neg (.ref a) (.ref b) H Q:=by
 obtain ⟨as,hsa,hla,hra⟩:=ha
 obtain ⟨bs,hsb,hlb,hrb⟩:=hb
 refine ⟨a,b,1,_,_,rfl,rfl,hsa,hsb,by omega,?_⟩
 by_cases hl:xss.length=yss.length
 ·refine .inr ⟨λj=>decide (xss[j]?=yss[j]?),by simp;omega,λj x y hx hy=>?_,?_⟩
  ·rw [List.getElem?_map] at hx hy
   cases e1:as[j]? with
   | none=>rw [e1] at hx;cases hx
   | some p =>
    cases e2:bs[j]? with
    | none=>rw [e2] at hy;cases hy
    | some p2 =>
     rw [e1] at hx
     rw [e2] at hy
     cases hx
     cases hy
     have h1:j<xss.length:=by have:=(List.getElem?_eq_some_iff.mp e1).1;omega
     have h2:j<yss.length:=by omega
     have q:=EqV.ints (K:=K) (n:=0) (hra j p _ e1 (List.getElem?_eq_getElem h1)) (hrb j p2 _ e2 (List.getElem?_eq_getElem h2))
     show EqV K H 1 (V.ref p) (V.ref p2) (decide (xss[j]?=yss[j]?))
     rw [List.getElem?_eq_getElem h1,List.getElem?_eq_getElem h2]
     have e:decide (xss[j]=yss[j])=decide (some xss[j]=some yss[j]):=by simp
     rw [e] at q
     exact q
  ·rw [List.length_map,hla,all_eq hl]
   exact q
 ·refine .inl ⟨by simp;omega,?_⟩
  have e:decide (xss=yss)=false:=decide_eq_false (λz=>hl (by rw [z]))
  rw [e] at q
  cases neg<;>exact q
section
variable {X:Cx}
theorem zlE {n k m:Nat} (h:n<2^k) (hk:k≤m) (hm:0<m):n.log2<m:=by
 by_cases hn:n=0
 ·subst hn
  exact Nat.lt_of_le_of_lt (by decide:Nat.log2 0≤0) hm
 ·exact Nat.lt_of_lt_of_le ((Nat.log2_lt hn).mpr h) hk
theorem zlZ {i:Int} {k:Nat} (h:i.natAbs.log2<k):Builtin.Int.intBits i≤k:=by
 unfold Builtin.Int.intBits
 split
 ·exact Nat.zero_le _
 ·omega
def zg6 (i j:Int):Prop:=0<j∧j.natAbs.log2<9000
theorem zcg:OpR X (binaryOp .FloorDiv) (rI zg6 λi j=>.int (i/j)):=opI λi j _ _ _ _ _ hc q=>by
 have hj:j≠0:=by have:=hc.1;omega
 have e:i.fdiv j=i/j:=Int.fdiv_eq_ediv_of_nonneg _ (by have:=hc.1;omega)
 exact floordiv_int hj (by rw [e];exact q) (.inl (PyProof.noPylong_of_log2 hc.2))
end
end L2
namespace L2
open PySem PySem.Spec PyProof.Rows
def zoq (scope osc:Scope) (N own fvn:List Str) (fv:List Nat):Bool :=
 (scope.names.all λy=>y.2 != .cell||scope.names.lookup y.1 == some .cell)&&(scope.names.all λy=>y.2 != .free||scope.names.lookup y.1 == some .free)&&(scope.kind == .function)&&(scope.names.all λy=>y.2 != .local||scope.names.lookup y.1 == some .local) &&
 (scope.names.all λy=>y.2 != .free||osc.names.lookup y.1 == some .cell||osc.names.lookup y.1 == some .free)&&(fvn.map some == fv.map λi=>N[i]?)&&(fvn.all λx=>scope.names.lookup x == some .free)
theorem BlkScope.of {X:Cx} {scope osc:Scope} {N own fvn:List Str} {fv:List Nat} (hX:X.env.scope=osc) (hN:X.N=N) (h:zoq scope osc N own fvn fv=true):BlkScope X scope own fvn fv:=by
 subst hX hN
 unfold zoq at h
 simp only [Bool.and_eq_true,List.all_eq_true,bne_iff_ne,beq_iff_eq,Bool.or_eq_true] at h
 obtain ⟨⟨⟨⟨⟨⟨h1,h1'⟩,h2⟩,h3⟩,h4⟩,h5⟩,h6⟩:=h
 refine ⟨λy hy e=>?_,λy hy e=>?_,h2,λy hy e=>?_,λy hy e=>?_,h5,h6⟩
 ·rcases h1 y hy with z | z
  ·exact absurd e z
  ·exact z
 ·rcases h1' y hy with z | z
  ·exact absurd e z
  ·exact z
 ·rcases h3 y hy with z | z
  ·exact absurd e z
  ·exact z
 ·rcases h4 y hy with (z | z) | z
  ·exact absurd e z
  ·exact .inl z
  ·exact .inr z
theorem Same.new {H:Hp} {p:Addr} (h:H p=none) (o:HO):Same H (upd H p o):=λb u q=>by rw [zay (za7 q h)];exact q
theorem Same.rows {K:W.Frag} {H H':Hp} {a:Addr} {xss:Jq} (e:Same H H') (h:Rows K H a xss):Rows K H' a xss:=by
 obtain ⟨as,h1,h2,h3⟩:=h
 exact ⟨as,e.seq h1,h2,λj p ns q1 q2=>e _ _ (h3 j p ns q1 q2)⟩
structure Callee (P:Program) (w:World) (K:W.Frag) (mg:Str->Option Value) (base:Heap) (CX:CXT) (k:Nat) (x:Str) (ps:List Str) (sp:Sp):Prop where
 ex:∃ f fd,FnOk P w K mg base CX k f fd ps sp∧mg x=some (.ref f)∧W.keepIn K (.ref f)=true∧zgC K fd ps []
section
variable {X:Cx} {CX:CXT} {k:Nat} {ps:List Str} {sp:Sp} {E:XK} {x:Str} {p pos:Pos} {e:Expr} {es:List Expr} {t:TA}
theorem zaD (F:Callee X.prog X.w X.K X.mg X.base CX k x ps sp) (hr:Room k X.A) (hg:Gl X x) (hx:zhR CX X E)
  (ha:PA X (e::es) t) (hdb:(x==("__debug__" :Str))=false:=by decide) (he:starEach (e::es) X.env=(false,eval e X.env) :: starEach es X.env:=by rfl) (hpl:((backTo pos (starEach es X.env))).any (·.1)=false:=by rfl) :
  PE X (.Call (.Name x p) (e::es) [] pos) (tCall sp [] E t):=by
 obtain ⟨f,fd,G,hm,hk,hb⟩:=F.ex
 exact zo3 G hr hg hm hk hb .nil hx ha hdb he hpl
end
section
variable {X:Cx} {K:W.Frag}
theorem zaR (hK:X.K=K):zhm X (.builtin "len") (λxs H Q=>∃p ys,xs=[.ref p]∧(SqL K H p ys∨SqT K H p ys)∧Q (.int ys.length) H):=by subst hK;exact zi8
theorem zdS (hK:X.K=K):zhm X (.type "list") (λxs H Q=>∃p ys,xs=[.ref p]∧(SqL K H p ys∨SqT K H p ys)∧∀l,H l=none->Q (.ref l) (upd H l (.lst ys))):=by subst hK;exact ziF
theorem zk9 (hK:X.K=K) (hc:X.calm=true):zhm X (.builtin "sum") (λxs H Q=>∃(a:Addr) (ns:Ji),xs=[.ref a]∧SqL K H a (ns.map V.int)∧Q (.int ns.sum) H):=by subst hK;exact zme hc
theorem zav (hK:X.K=K):IxR X (zqc K):=by subst hK;exact zqb
theorem zch (hK:X.K=K):IxR X (zsD K):=by subst hK;exact zqn
theorem zb9 (hK:X.K=K):SlR X (zrT K):=by subst hK;exact zp9
theorem zo6 (hK:X.K=K) (hu:X.A.units+64<cLine):OpR X (compareOp .Eq) (zo9 K false):=by subst hK;exact zrv hu
theorem za2 {e:Expr} {f:Str} {pos:Pos} {ta:TE} (hK:X.K=K) (he:PE X e ta) (hb:attributeBase e f X.env (eval e X.env)=eval e X.env):PE X (.Attribute e f pos) (tFld K ta f):=by subst hK;exact zqr he hb
theorem zaP {tg l:Expr} {tl:TE} (hK:X.K=K) (hl:PE X l tl):PI X tg l (zn4 K tl):=by subst hK;exact zpr hl
theorem zdh {a b:Expr} {ta:TA} {p pos tp:Pos} {elts:List Expr} {x1:Nat} (hK:X.K=K) (hg:Gl X "zip") (hm:X.mg "zip"=none) (ha:PA X [a,b] ta) (hs:starEach [a,b] X.env=[(false,eval a X.env),(false,eval b X.env)]:=by rfl) (hs2:starEach [b] X.env=[(false,eval b X.env)]:=by rfl) :
  PI X (.Tuple elts x1 tp) (.Call (.Name "zip" p) [a,b] [] pos) (zsp K ta):=by subst hK;exact zrR hg hm ha hs hs2
theorem zbJ {es:List Expr} {k:Nat} {t:TGs} {n:Nat} {pos:Pos} (hK:X.K=K) (hc:X.calm=true) (h:PGs X es t)
  (hn:((assignEach es X.env)).length=n:=by rfl) (hst:((assignEach es X.env)).findIdx? (·.1)=none:=by rfl):PG X (.Tuple es k pos) (zqM K n t):=by subst hK;exact zrI hc h hn hst
theorem zbZ {o e:Expr} {to:TE} {t:TA} {apos cpos:Pos} (hK:X.K=K) (ho:PE X o to) (ha:PA X [e] t)
  (hbase:attributeBase o "append" X.env (eval o X.env)=eval o X.env:=by rfl)
  (hfew:((backTo cpos (starEach [e] X.env)).all (λx=>!x.1)&&((backToKw cpos (keywordEach [] X.env))).all (λx=>x.1.isSome)
   &&decide (([e]:List Expr).length+([]:List Keyword).length+(if ([]:List Keyword).isEmpty then 0 else 1)<30))=true:=by rfl)
  (hline:(apos.endLine == cpos.line)=true:=by rfl) (hs:starEach [e] X.env=(false,eval e X.env) :: starEach [] X.env:=by rfl) (hplain:(backTo cpos (starEach [] X.env)).any (·.1)=false:=by rfl) :
  PE X (.Call (.Attribute o "append" apos) [e] [] cpos) (tBM K "list" zif to t):=by
 subst hK
 exact zsb PySem.F.plainAttrs_list PySem.F.slot_list_append PySem.F.type_list_append zi0 ho ha hbase hfew hline hs hplain
end
end L2
namespace L2
open PySem PySem.Spec PyProof.Rows
theorem zap {n:Nat} (h:n≤10000):n≤sizeLine:=Nat.le_trans h (by decide)
end L2
namespace L2
open PySem PySem.Spec PyProof.Rows
theorem zhG (o:Obj) (f:Array Value->Array Value):(o.mapFields f).dict=o.dict:=by
 obtain ⟨c,d,dt,sl⟩:=o
 cases dt<;>rfl
section
variable {M:Model} {A:Around} {E:Value->Shared->Prop} {s:Shared}
theorem zmj {base:Heap} {env:Env} {outer:List Env} {L e:Addr} {oe:Obj} {vs:Array Value} {head:Value} {hadNext:Bool} {Q:Unit->Shared->Prop}
  (hfr:A.frames=some (env :: outer)) (hl:s.heap.FunFrames base (env :: outer)) (hf:env.frame=some L) (he:s.heap.get? e=some oe) (hd:oe.data=.fields vs) (hsz:1<vs.size)
  (h:∀ (h':Heap) (T:Addr) (oT:Obj) (ts:Array Value),(∀ b o,b ∉ frs (env :: outer)->b≠e->s.heap.get? b=some o->h'.get? b=some o)->(∀ b o,b≠e->s.heap.get? b=some o->∃ sl,h'.get? b=some { o with slots:=sl }) →
   h'.get? e=some (oe.mapFields (·.setIfInBounds 1 (.ref T)))->s.heap.objs.size≤T->h'.get? T=some oT->oT.data=.fields ts->ts[3]?=some (rawInt L)->Q () { s with heap:=h' }) :
  wpAny M A (do let a ← frameOf env;let pl ← entryPlaceOf L hadNext;let b ← EntryCells.newEntry head a .none (rawInt L) .none pl;setField (.ref e) 1 b) Q E s:=by
 have hene:e ∉ (env :: outer).filterMap (·.frame):=λhm=>by
  obtain ⟨_,o,ho,hnf⟩:=hl.mem hm
  rw [he] at ho;injection ho with ho;subst ho;exact hnf vs hd
 refine wpAny_bind (wpAny_frameOf_fun hfr hl hf λh₁ hs₁=>?_)
 refine wpAny_bind (wpAny_entryPlaceOf λpl hpl=>?_)
 unfold EntryCells.newEntry newFields
 refine wpAny_bind (wpAny_newObj_type ?_ (hpl.sizeOk5 _ _ _ _ _))
 have he₁:h₁.get? e=some oe:=(hs₁.2.1 e hene).trans he
 have he₂:=Heap.get?_push_of_some (h:=h₁) { cls:=.type "traceback",dict:=none,data:=.fields (([head,.ref L,.none,rawInt L,.none]++(if pl.isEmpty then List.replicate 6 Value.none else pl))).toArray } he₁
 refine wpAny_setField he₂ hd hsz ?_
 have hTe:h₁.objs.size≠e:=Nat.ne_of_gt (Heap.lt_size he₁)
 have hd₃:=Obj.data_mapFields hd (·.setIfInBounds 1 (Value.ref h₁.objs.size))
 have he₃:=Heap.get?_update_self (Obj.mapFields (·.setIfInBounds 1 (Value.ref h₁.objs.size))) he₂ (Obj.isFreed_of_fields hd₃)
 have hT₃:=(Heap.get?_update_other (h₁.push { cls:=.type "traceback",dict:=none,data:=.fields (([head,.ref L,.none,rawInt L,.none]++(if pl.isEmpty then List.replicate 6 Value.none else pl))).toArray })
  (Obj.mapFields (·.setIfInBounds 1 (Value.ref h₁.objs.size))) (Ne.symm hTe)).trans (Heap.get?_push_size h₁ rfl)
 refine h _ h₁.objs.size _ _ (λb o hb hbe e1=>?_) (λb o hbe e1=>?_) he₃ (Nat.le_of_eq hs₁.1.symm) hT₃ rfl (by first | (simp;done) | (rcases hpl with rfl | ⟨_,_,_,_,_,_,_,rfl⟩<;>simp))
 ·rw [Heap.get?_update_other _ _ (Ne.symm hbe)]
  exact Heap.get?_push_of_some _ ((hs₁.2.1 b hb).trans e1)
 ·obtain ⟨sl,e2⟩:=hs₁.2.2 b o e1
  exact ⟨sl,by rw [Heap.get?_update_other _ _ (Ne.symm hbe)];exact Heap.get?_push_of_some _ e2⟩
end
def ExcAt (h:Heap) (H:Hp) (Fz:Addr->Prop) (L e:Addr) (cls:Value) (dct:Option Addr):Prop :=
 ∃ oe vs a0,h.get? e=some oe∧oe.cls=cls∧oe.dict=dct∧oe.data=.fields vs∧vs[0]?=some a0∧1<vs.size∧H e=none∧Fz e ∧
  (vs[1]?=some .none∨∃ T oT ts,vs[1]?=some (.ref T)∧T≠e∧h.get? T=some oT∧oT.data=.fields ts∧(ts[3]?=some .none∨ts[3]?=some (rawInt L))∧H T=none∧Fz T)
def zjB (h:Heap) (H:Hp) (Fz:Addr->Prop) (fl:Value) (e:Addr) (cls:Value) (dct:Option Addr):Prop :=
 ∃ oe vs a0,h.get? e=some oe∧oe.cls=cls∧oe.dict=dct∧oe.data=.fields vs∧vs[0]?=some a0∧1<vs.size∧H e=none∧Fz e ∧
  ∃ T oT ts,vs[1]?=some (.ref T)∧T≠e∧h.get? T=some oT∧oT.data=.fields ts∧ts[3]?=some fl∧H T=none∧Fz T
theorem zjB.imp {h:Heap} {H:Hp} {Fz Fz':Addr->Prop} {e:Addr} {fl cls:Value} {dct:Option Addr} (x:zjB h H Fz fl e cls dct) (k:∀ b,Fz b->Fz' b):zjB h H Fz' fl e cls dct:=by
 obtain ⟨oe,vs,a0,h1,h2,h3,h4,h5,h6,h7,h8,T,oT,ts,t1,t2,t3,t4,t5,t6,t7⟩:=x
 exact ⟨oe,vs,a0,h1,h2,h3,h4,h5,h6,h7,k _ h8,T,oT,ts,t1,t2,t3,t4,t5,t6,k _ t7⟩
structure Own (X:Cx):Prop where
 stk:X.stack=X.env :: X.outer
 fr:X.env.frame=some X.env.locals
 ex:X.ex=[]
theorem zeO.there {P:Program} {w:World} {H:Hp} {h:Heap} {a:Addr} {o:HO} (x:zeO P w H h a o):∃ ob,h.get? a=some ob:=by
 cases o with
 | lst xs=>obtain ⟨_,_,_,_,e⟩:=x;exact ⟨_,e⟩
 | tup xs=>obtain ⟨_,_,_,o,e,_⟩:=x;exact ⟨_,e⟩
 | dK kvs=>obtain ⟨_,_,_,_,o,_,_,e,_⟩:=x;exact ⟨_,e⟩
 | dT kvs=>obtain ⟨_,_,_,_,o,_,_,e,_⟩:=x;exact ⟨_,e⟩
 | set S n=>obtain ⟨o,_,_,_,e,_⟩:=x;exact ⟨_,e⟩
 | ins C dx fs=>obtain ⟨_,_,_,e,_⟩:=x;exact ⟨_,e⟩
 | own y=>obtain ⟨_,e⟩:=x;exact ⟨_,e⟩
 | xd fs=>obtain ⟨_,⟨_,_,_,e,_⟩,_⟩:=x;exact ⟨_,e⟩
 | rng lo hi=>obtain ⟨_,_,_,e⟩:=x;exact ⟨_,e⟩
 | frz ob u=>obtain ⟨e,_⟩:=x;exact ⟨_,e⟩
 | tbl ps=>exact ⟨_,(show h.get? a=some _ from x)⟩
 | met f y=>exact ⟨_,(show h.get? a=some _ from x)⟩
 | ext φ=>obtain ⟨_,e,_⟩:=x;exact e
section
variable {X:Cx} {pins:List (Addr×Obj)} {σ:St} {H:Hp} {s:Shared} {h':Heap}
theorem Inv.recs {t':Nat} {ch:List Addr} (I:Inv X pins σ H s) (hch:∀ b∈ch,H b=none∧X.s₀.heap.get? b=none∧b≠X.env.locals∧(∀x c,X.env.cells.lookup x=some c->c≠b)∧∀ p∈X.pn++pins,p.1≠b)
  (hex:X.ex=[]) (k:∀ b o,b ∉ frs X.stack->b ∉ ch->s.heap.get? b=some o->h'.get? b=some o) (ks:∀ b o,b ∉ ch->s.heap.get? b=some o->∃ sl,h'.get? b=some { o with slots:=sl }) :
  Inv X pins σ H { s with heap:=h',toks:=t' }:=by
 have sub:=I.stkSub
 have nfr:∀ b,b≠X.env.locals->b ∉ X.fs->b ∉ frs X.stack:=λb h1 h2 z=>by
  rcases List.mem_cons.mp (sub b z) with q | q
  ·exact h1 q
  ·exact h2 q
 have cl:∀ x c,X.env.cells.lookup x=some c->c≠X.env.locals:=I.cne
 refine ⟨I.ok,I.os,I.bare,⟨λb o e n hb hx=>?_,λb o e n hb hx=>?_,I.base.free,λb o e hx=>?_,I.base.tups,I.base.frzs,I.base.tbls⟩,?_,λx c e=>?_,I.free,I.freeC,λp hp=>?_,λb u e=>?_,I.len⟩
 ·have nc:b ∉ ch:=λz=>by rw [(hch b z).2.1] at e;cases e
  exact k b o (nfr b (Nat.ne_of_lt (Nat.lt_of_lt_of_le (Heap.lt_size e) I.ok.above)) hb) nc (I.base.keep b o e n hb hx)
 ·have nc:b ∉ ch:=λz=>by rw [(hch b z).2.1] at e;cases e
  obtain ⟨sl,e1⟩:=I.base.slot b o e n hb hx
  obtain ⟨sl',e2⟩:=ks b _ nc e1
  exact ⟨sl',e2⟩
 ·have nc:b ∉ ch:=λz=>by rw [(hch b z).2.1] at e;cases e
  obtain ⟨o',e1⟩:=I.base.there b o e hx
  obtain ⟨sl',e2⟩:=ks b _ nc e1
  exact ⟨_,e2⟩
 ·obtain ⟨m,⟨o,es,ep,ho,hd,r⟩,hl⟩:=I.loc
  have nc:X.env.locals ∉ ch:=λz=>(hch _ z).2.2.1 rfl
  obtain ⟨sl,e1⟩:=ks _ _ nc ho
  refine ⟨m,⟨_,es,ep,e1,hd,r⟩,λi x v e1 e2 e3=>?_⟩
  obtain ⟨u,ru,l⟩:=hl i x v e1 e2 e3
  refine ⟨u,ru,?_⟩
  rcases l with l | ⟨kk,c,e,oc,hoc,hcd⟩
  ·exact .inl l
  ·obtain ⟨sl',e4⟩:=ks c oc (λz=>(hch c z).2.2.2.1 x c e rfl) hoc
   exact .inr ⟨kk,c,e,_,e4,hcd⟩
 ·obtain ⟨v,oc,hoc,hcd⟩:=I.cell x c e
  obtain ⟨sl',e4⟩:=ks c oc (λz=>(hch c z).2.2.2.1 x c e rfl) hoc
  exact ⟨v,_,e4,hcd⟩
 ·obtain ⟨e,n,ne,nf,d⟩:=I.pin p hp
  exact ⟨k _ _ (nfr _ ne nf) (λz=>(hch _ z).2.2.2.2 p hp rfl) e,n,ne,nf,d⟩
 ·refine ((I.hok b u e)).stay (λc v hc q=>?_) (λ_ q=>q) λ_ _ q=>q
  have trk:∃ u',H c=some u':=by
   rcases hc with z | z
   ·rw [z];exact ⟨u,e⟩
   ·exact ⟨_,z⟩
  obtain ⟨u',hu'⟩:=trk
  refine k c v (λz=>?_) (λz=>?_) q
  ·rw [I.stkFree c z] at hu';cases hu'
  ·rw [(hch c z).1] at hu';cases hu'
def Fz (X:Cx) (pins:List (Addr×Obj)) (b:Addr):Prop:=X.s₀.heap.get? b=none∧∀ p∈X.pn++pins,p.1≠b
theorem Inv.fz (I:Inv X pins σ H s) (hex:X.ex=[]) {b:Addr} (h:s.heap.get? b=none):Fz X pins b:=by
 refine ⟨?_,λp hp z=>?_⟩
 ·cases q:X.s₀.heap.get? b with
  | none=>rfl
  | some o =>
   obtain ⟨o',e⟩:=I.base.there b o q (by rw [hex];simp)
   rw [h] at e;cases e
 ·rw [← z,(I.pin p hp).1] at h;cases h
theorem Inv.tfree (I:Inv X pins σ H s) {b:Addr} (h:s.heap.get? b=none):H b=none:=by
 cases q:H b with
 | none=>rfl
 | some u =>
  have:=(I.hok b u q).lt
  cases e:s.heap.get? b with
  | none =>
   obtain ⟨o,e'⟩:=zeO.there (I.hok b u q)
   rw [h] at e';cases e'
  | some o=>rw [h] at e;cases e
theorem zg0 (I:Inv X pins σ H s) {b:Addr} {o:Obj} {vs:Array Value} (e:s.heap.get? b=some o) (hd:o.data=.fields vs) (hn:H b=none) (hF:Fz X pins b) :
  H b=none∧X.s₀.heap.get? b=none∧b≠X.env.locals∧(∀x c,X.env.cells.lookup x=some c->c≠b)∧∀ p∈X.pn++pins,p.1≠b:=by
 refine ⟨hn,hF.1,λz=>?_,λx c ec z=>?_,hF.2⟩
 ·obtain ⟨m,⟨o',es,ep,ho',hd',_⟩,_⟩:=I.loc
  rw [← z,e] at ho';cases ho';rw [hd] at hd';cases hd'
 ·obtain ⟨v,oc,hoc,hcd⟩:=I.cell x c ec
  rw [z,e] at hoc;cases hoc;rw [hd] at hcd;cases hcd
theorem zoi {M:Model} {E:Value->Shared->Prop} {e:Addr} {cls:Value} {dct:Option Addr} {Q:Unit->Shared->Prop} (O:Own X) (I:Inv X pins σ H s) (x:ExcAt s.heap H (Fz X pins) X.env.locals e cls dct)
  {A:Around} (hA:A.frames=X.A.frames) (hQ:∀ s',Inv X pins σ H s'->zjB s'.heap H (Fz X pins) (rawInt X.env.locals) e cls dct->Q () s'):wpAny M A (noteFrame (.ref e) X.env) Q E s:=by
 obtain ⟨oe,vs,a0,h1,h2,h3,h4,h5,h6,h7,h8,h9⟩:=x
 have hfr:A.frames=some (X.env :: X.outer):=by rw [hA,I.ok.frames,O.stk]
 have hfun:s.heap.FunFrames X.base (X.env :: X.outer):=by have:=I.stack;rw [O.stk] at this;exact this
 have ae:=zg0 I h1 h4 h7 h8
 have newE:∀ (s1:Shared) (head:Value) (hadNext:Bool),Inv X pins σ H s1->s1.heap.get? e=some oe->(∀ b,b∈X.env :: X.outer->True) →
   wpAny M A (do let a ← frameOf X.env;let pl ← entryPlaceOf X.env.locals hadNext;let b ← EntryCells.newEntry head a .none (rawInt X.env.locals) .none pl;setField (.ref e) 1 b) Q E s1:=λs1 head hadNext I1 e1 _=>by
  have hfun1:s1.heap.FunFrames X.base (X.env :: X.outer):=by have:=I1.stack;rw [O.stk] at this;exact this
  refine zmj hfr hfun1 O.fr e1 h4 h6 λh' T oT ts k ks he hT hgT hdT ht3=>?_
  have hTn:s1.heap.get? T=none:=Heap.get?_none_of_le hT
  have I2:Inv X pins σ H { s1 with heap:=h' }:=by
   refine I1.recs (t':=s1.toks) (ch:=[e]) (λb hb=>?_) O.ex (λb o hb hc q=>?_) (λb o hc q=>?_)
   ·rw [List.mem_singleton.mp hb];exact ae
   ·rw [O.stk] at hb
    exact k b o hb (λz=>hc (by rw [z];exact List.mem_singleton.mpr rfl)) q
   ·exact ks b o (λz=>hc (by rw [z];exact List.mem_singleton.mpr rfl)) q
  refine hQ _ I2 ⟨_,_,a0,he,(Obj.cls_mapFields _ _).trans h2,(zhG _ _).trans h3,Obj.data_mapFields h4 _,?_,?_,h7,h8,T,oT,ts,?_,?_,hgT,hdT,ht3,I1.tfree hTn,I1.fz O.ex hTn⟩
  ·rw [Array.getElem?_setIfInBounds_ne (by decide)];exact h5
  ·rw [Array.size_setIfInBounds];exact h6
  ·rw [Array.getElem?_setIfInBounds_self_of_lt h6]
  ·intro z;rw [z,e1] at hTn;cases hTn
 unfold noteFrame
 simp only [O.fr]
 rcases h9 with h9 | ⟨T,oT,ts,t1,t2,t3,t4,t5,t6,t7⟩
 ·refine wpAny_bind (wpAny_field h1 h4 h9 ?_)
  rw [if_neg (by decide)]
  exact newE s _ _ I h1 (λ_ _=>trivial)
 ·refine wpAny_bind (wpAny_field h1 h4 t1 ?_)
  rw [if_pos (show (Value.ref T !=Value.none)=true from by simp)]
  rcases t5 with t5 | t5
  ·refine wpAny_bind (wpAny_field t3 t4 t5 ?_)
   rw [if_neg (show ¬ ((Value.none == rawInt X.env.locals)=true) from by simp [rawInt])]
   refine wpAny_bind (wpAny_setField t3 t4 ((Array.getElem?_eq_some_iff.mp t5)).1 ?_)
   have aT:=zg0 I t3 t4 t6 t7
   have other:∀ b,b≠T->(s.heap.update T (Obj.mapFields (·.setIfInBounds 3 Value.none))).get? b=s.heap.get? b:=λb hb=>Heap.get?_update_other _ _ (Ne.symm hb)
   have I1:Inv X pins σ H { s with heap:=s.heap.update T (Obj.mapFields (·.setIfInBounds 3 Value.none)) }:=by
    refine I.recs (t':=s.toks) (ch:=[T]) (λb hb=>?_) O.ex (λb o _ hc q=>?_) (λb o hc q=>⟨o.slots,?_⟩)
    ·rw [List.mem_singleton.mp hb];exact aT
    ·exact ((other b (λz=>hc (by rw [z];exact List.mem_singleton.mpr rfl)))).trans q
    ·exact ((other b (λz=>hc (by rw [z];exact List.mem_singleton.mpr rfl)))).trans q
   exact newE _ _ _ I1 ((other e (Ne.symm t2)).trans h1) (λ_ _=>trivial)
  ·refine wpAny_bind (wpAny_field t3 t4 t5 ?_)
   rw [if_pos (show (rawInt X.env.locals == rawInt X.env.locals)=true from by simp)]
   exact wpAny_pure (hQ s I ⟨oe,vs,a0,h1,h2,h3,h4,h5,h6,h7,h8,T,oT,ts,t1,t2,t3,t4,t5,t6,t7⟩)
theorem zk1 {M:Model} {A:Around} {E:Value->Shared->Prop} {e:Addr} {fl cls:Value} {dct:Option Addr} {fr:Option Addr} {Q:Unit->Shared->Prop} (O:Own X) (I:Inv X pins σ H s) (x:zjB s.heap H (Fz X pins) fl e cls dct)
  (hQ:∀ s',Inv X pins σ H s'->zjB s'.heap H (Fz X pins) (fr.elim .none λf=>rawInt f) e cls dct->Q () s'):wpAny M A (setFlight (.ref e) fr) Q E s:=by
 obtain ⟨oe,vs,a0,h1,h2,h3,h4,h5,h6,h7,h8,T,oT,ts,t1,t2,t3,t4,t5,t6,t7⟩:=x
 have h3s:3<ts.size:=((Array.getElem?_eq_some_iff.mp t5)).1
 have aT:=zg0 I t3 t4 t6 t7
 have other:∀ b,b≠T->(s.heap.update T (Obj.mapFields (·.setIfInBounds 3 (fr.elim Value.none λf=>rawInt f)))).get? b=s.heap.get? b:=λb hb=>Heap.get?_update_other _ _ (Ne.symm hb)
 unfold setFlight
 refine wpAny_bind (wpAny_field h1 h4 t1 ?_)
 rw [if_pos (show (Value.ref T !=Value.none)=true from by simp)]
 refine wpAny_setField t3 t4 h3s (hQ _ ?_ ?_)
 ·refine I.recs (t':=s.toks) (ch:=[T]) (λb hb=>?_) O.ex (λb o _ hc q=>?_) (λb o hc q=>⟨o.slots,?_⟩)
  ·rw [List.mem_singleton.mp hb];exact aT
  ·exact ((other b (λz=>hc (by rw [z];exact List.mem_singleton.mpr rfl)))).trans q
  ·exact ((other b (λz=>hc (by rw [z];exact List.mem_singleton.mpr rfl)))).trans q
 ·exact ⟨oe,vs,a0,(other e (Ne.symm t2)).trans h1,h2,h3,h4,h5,h6,h7,h8,T,_,_,t1,t2,Heap.get?_update_self _ t3 (Obj.isFreed_of_fields (Obj.data_mapFields t4 _)),Obj.data_mapFields t4 _,by rw [Array.getElem?_setIfInBounds_self_of_lt h3s],t6,t7⟩
end
end L2
namespace L2
open PySem PySem.Spec PyProof.Rows
def XP (X:Cx) (pins:List (Addr×Obj)) (σ:St) (E:XK) (ev:Value) (s':Shared):Prop :=
 ∃ e cls dct H',ev=.ref e∧Inv X pins σ H' s'∧ExcAt s'.heap H' (Fz X pins) X.env.locals e cls dct∧E cls dct H'
abbrev XS:=St->XK
def XPs (X:Cx) (pins:List (Addr×Obj)) (E:XS) (ev:Value) (s':Shared):Prop:=∃ σ',XP X pins σ' (E σ') ev s'
def CXE (P:Program) (w:World):CXT:=λouter H s E ev s'=>∃ e cls dct H',ev=.ref e∧s'.os=s.os∧AllBare s'.gens∧Un (frs outer) [] H H' s.heap s'.heap∧HOk P w H' s'.heap ∧
 zjB s'.heap H' (λb=>s.heap.get? b=none) .none e cls dct∧E cls dct H'
theorem zaB {P:Program} {w:World} {X:Cx}:zhR (CXE P w) X E0:=λ_ _ _ _ _ _ _ h=>by
 obtain ⟨_,_,_,_,_,_,_,_,_,_,f⟩:=h
 exact False.elim f
abbrev TEX:=St->Hp->VK->XK->Prop
abbrev TSX:=Ends->XS->St->Hp->Prop
def ztf (X:Cx) (st:List Stmt) (t:TSX):Prop :=
 ∀ (pins:List (Addr×Obj)) (s:Shared) (σ:St) (H:Hp) (D:Ends) (E:XS),Inv X pins σ H s->t D E σ H->wpAny (model X.prog X.w) X.A (execs st X.env) (SP X pins D) (XPs X pins E) s
section
variable {X:Cx} {e:Expr} {st:Stmt} {rest:List Stmt} {pos:Pos}
theorem ziT {sts:List Stmt} {t:TS} (h:PSs X.nox sts t):ztf X sts (λD _ σ H=>t D σ H):=λpins s σ H D E I hw =>
 wpAny_mono (h pins s σ H D (I.wish _) hw) (λ_ _ q=>SP.unwish q) λ_ _ f=>f.elim
end
section
variable {X:Cx} {k:Nat} {ps:List Str} {sp:Sp} {x:Str} {p pos:Pos} {e:Expr} {es:List Expr} {t:TA}
end
section
variable {P:Program} {w:World} {K:W.Frag} {mg:Str->Option Value} {base:Heap}
theorem zl5 {N:List Str} {qual:Str} {scope:Scope} {f:Addr} {cd:Value} {A:Around} {outer:List Env} {s:Shared} {H:Hp} {E:XK} {pins:List (Addr×Obj)} {ev:Value} {s':Shared}
  (h:XPs (zng (CXE P w) P w K mg base N qual scope f cd A outer s H E) pins (λ_=>E) ev s'):((zng (CXE P w) P w K mg base N qual scope f cd A outer s H E)).xe ev s':=by
 obtain ⟨σ',e,cls,dct,H',rfl,I,x,q⟩:=h
 have O:Own (zng (CXE P w) P w K mg base N qual scope f cd A outer s H E):=⟨rfl,rfl,rfl⟩
 show wpAny _ _ (leaving _ (.ref e)) _ _ s'
 unfold leaving
 refine wpAny_bind (zoi O I x rfl λs1 I1 x1=>?_)
 refine zk1 (fr:=none) O I1 x1 λs2 I2 x2=>?_
 exact ⟨e,cls,dct,H',rfl,I2.os,I2.bare,I2.base,I2.hok,x2.imp (λb hb=>hb.1),q⟩
theorem Fun.okX {x qual:Str} {st:Stmt} {f:Addr} {fd:FuncData} {N ps:List Str} {k:Nat} {sp:Sp} (F:Fun K x qual st f fd) (S:FnScope N ps (zad st)) (len:∀ vs H Q E,sp vs H Q E->vs.length=ps.length)
  (hbody:∀ (cdv:Value) (A:Around) (outer:List Env) (s:Shared) (H:Hp) (vs:List V) (Q:VK) (E:XK),Room k (A.deeper (envOfC qual (zad st) s.heap.objs.size f cdv))->sp vs H Q E →
   ∃ t,ztf (zng (CXE P w) P w K mg base N qual (zad st) f cdv A outer s H E) (zaw st) t∧t { nx:=λ_ H'=>Q .non H',rt:=Q } (λ_=>E) (start N vs) H):FnOk P w K mg base (CXE P w) (k+1) f fd ps sp:=by
 obtain ⟨oc,od,kV,doc,pm,an,cdv,ct,osl,rfl,lk,hcd⟩:=F.ex
 refine zsa lk hcd S len λA outer s H vs Q E hr hsp=>?_
 obtain ⟨t,h,q⟩:=hbody cdv A outer s H vs Q E hr hsp
 exact ⟨λD σ H=>t D (λ_=>E) σ H,λpins s1 σ H1 D I hw=>wpAny_mono (h pins s1 σ H1 D _ I hw) (λ_ _ q=>q) λ_ _ q=>zl5 q,q⟩
end
end L2
namespace L2
open PySem PySem.Spec PyProof.Rows
structure Ds where
 pr:Hp->V->Prop
 up:∀ {H H':Hp} {v:V},Same H H'->pr H v->pr H' v
theorem zdp {ds:List Ds} {H H':Hp} (e:Same H H'):∀ {vs:List V} {ds:List Ds},Paired (λv (d:Ds)=>d.pr H v) vs ds->Paired (λv (d:Ds)=>d.pr H' v) vs ds
 | _,_,.nil=>.nil
 | _,_,.cons (b:=d) h t=>.cons (d.up e h) (zdp (ds:=[]) e t)
theorem zcd {α β:Type} {R S:α->β->Prop} (h:∀ a b,R a b->S a b):∀ {xs:List α} {ys:List β},Paired R xs ys->Paired S xs ys
 | _,_,.nil=>.nil
 | _,_,.cons q t=>.cons (h _ _ q) (zcd h t)
theorem zbb {α β:Type} {R:α->β->Prop}:∀ {xs:List α} {ys:List β} {i:Nat} {y:β},Paired R xs ys->ys[i]?=some y->∃ x,xs[i]?=some x∧R x y
 | _,_,_,_,.nil,e=>by simp at e
 | _,_,0,_,.cons r _,e=>by simp at e;subst e;exact ⟨_,rfl,r⟩
 | _,_,i+1,y,.cons _ t,e=>by
  obtain ⟨u,h1,h2⟩:=zbb (i:=i) (y:=y) t (by simpa using e)
  exact ⟨u,by simpa using h1,h2⟩
theorem zcx {α β:Type} {R:α->β->Prop}:∀ {xs xs':List α} {ys ys':List β},Paired R xs ys->Paired R xs' ys'->Paired R (xs++xs') (ys++ys')
 | _,_,_,_,.nil,s=>s
 | _,_,_,_,.cons r t,s=>.cons r (zcx t s)
theorem zhO {α β:Type} {R:α->β->Prop} {x:α} {y:β} (r:R x y):∀ {xs:List α} {ys:List β} (i:Nat),Paired R xs ys->Paired R (xs.set i x) (ys.set i y)
 | _,_,_,.nil=>.nil
 | _,_,0,.cons _ t=>.cons r t
 | _,_,i+1,.cons q t=>.cons q (zhO r i t)
theorem zgR {α β:Type} {R:α->β->Prop}:∀ {xs:List α} {ys:List β} (n:Nat),Paired R xs ys->Paired R (xs.take n) (ys.take n)
 | _,_,0,_=>.nil
 | _,_,_+1,.nil=>.nil
 | _,_,n+1,.cons r t=>.cons r (zgR n t)
theorem zhk {α β:Type} {R:α->β->Prop}:∀ {xs:List α} {ys:List β} (n:Nat),Paired R xs ys->Paired R (xs.drop n) (ys.drop n)
 | _,_,0,r=>r
 | _,_,_+1,.nil=>.nil
 | _,_,n+1,.cons _ t=>zhk n t
theorem zhX {α β:Type} {R:α->β->Prop} {xs:List α} {ys:List β} (h:Paired R xs ys):∀ n:Nat,Paired R (List.replicate n xs).flatten (List.replicate n ys).flatten
 | 0=>.nil
 | n+1=>by
  rw [List.replicate_succ,List.replicate_succ,List.flatten_cons,List.flatten_cons]
  exact zcx h (zhX h n)
abbrev dV (v:V):Ds:=⟨λ_ u=>u=v,λ_ h=>h⟩
abbrev dI (n:Int):Ds:=dV (.int n)
abbrev dB (b:Bool):Ds:=dV (.bl b)
abbrev dN:Ds:=dV .non
abbrev dS (x:Str):Ds:=dV (.str x)
def dL (ds:List Ds):Ds:=⟨λH v=>∃ p vs,v=.ref p∧H p=some (.lst vs)∧Paired (λv (d:Ds)=>d.pr H v) vs ds,λe ⟨p,vs,h1,h2,h3⟩=>⟨p,vs,h1,e _ _ h2,zdp (ds:=[]) e h3⟩⟩
def dQ (K:W.Frag) (ds:List Ds):Ds:=⟨λH v=>∃ p vs,v=.ref p∧SqL K H p vs∧Paired (λv (d:Ds)=>d.pr H v) vs ds,λe ⟨p,vs,h1,h2,h3⟩=>⟨p,vs,h1,e.seq h2,zdp (ds:=[]) e h3⟩⟩
def dT (ds:List Ds):Ds:=⟨λH v=>∃ p vs,v=.ref p∧H p=some (.tup vs)∧Paired (λv (d:Ds)=>d.pr H v) vs ds,λe ⟨p,vs,h1,h2,h3⟩=>⟨p,vs,h1,e _ _ h2,zdp (ds:=[]) e h3⟩⟩
def dO (C:Addr) (fs:List (Str×Ds)):Ds:=⟨λH v=>∃ p dx vs,v=.ref p∧H p=some (.ins C dx vs)∧H dx=some (.own p)∧Paired (λ(a:Str×V) (b:Str×Ds)=>a.1=b.1∧b.2.pr H a.2) vs fs,
 λe ⟨p,dx,vs,h1,h2,h3,h4⟩=>⟨p,dx,vs,h1,e _ _ h2,e _ _ h3,zcd (λ_ b q=>⟨q.1,b.2.up e q.2⟩) h4⟩⟩
class Enc (α:Type) where
 d:α->Ds
instance:Enc Int:=⟨dI⟩
instance:Enc Bool:=⟨dB⟩
instance:Enc Unit:=⟨λ_=>dN⟩
instance:Enc Str:=⟨dS⟩
instance {α:Type} [Enc α]:Enc (List α):=⟨λxs=>dL (xs.map Enc.d)⟩
instance {α β:Type} [Enc α] [Enc β]:Enc (α×β):=⟨λp=>dT [Enc.d p.1,Enc.d p.2]⟩
instance {α:Type} [Enc α]:Enc (Option α):=⟨λo=>match o with | none=>dN | some x=>Enc.d x⟩
structure T3 (α β γ:Type) where
 a:α
 b:β
 c:γ
instance {α β γ:Type} [Enc α] [Enc β] [Enc γ]:Enc (T3 α β γ):=⟨λp=>dT [Enc.d p.a,Enc.d p.b,Enc.d p.c]⟩
structure Grow (F H F' H':Hp):Prop where
 f:Same F F'
 fh:Same F' H'
 h:Same H H'
 no:∀ a,H a≠none->F a=none->F' a=none
theorem Grow.refl {F H:Hp} (e:Same F H):Grow F H F H:=⟨Same.refl _,e,Same.refl _,λ_ _ h=>h⟩
theorem Same.some {H H':Hp} (e:Same H H') {a:Addr} (h:H a≠none):H' a≠none:=by
 cases q:H a with
 | none=>exact absurd q h
 | some o=>rw [e _ _ q];simp
theorem Grow.trans {F H F' H' F'' H'':Hp} (g:Grow F H F' H') (k:Grow F' H' F'' H''):Grow F H F'' H'' :=
 ⟨g.f.trans k.f,k.fh,g.h.trans k.h,λa h1 h2=>k.no a (g.h.some h1) (g.no a h1 h2)⟩
theorem Grow.new {F H F' H':Hp} (g:Grow F H F' H') {p:Addr} {o:HO} (hp:H' p=none):Grow F H (upd F' p o) (upd H' p o):=by
 have hf:F' p=none:=by
  cases q:F' p with
  | none=>rfl
  | some u=>rw [g.fh _ _ q] at hp;cases hp
 refine ⟨g.f.trans (Same.new hf _),λa u q=>?_,g.h.trans (Same.new hp _),λa h1 h2=>?_⟩
 ·by_cases e:a=p
  ·subst e;rw [zaH] at q ⊢;exact q
  ·rw [zay e] at q ⊢;exact g.fh _ _ q
 ·have:a≠p:=λe=>by subst e;exact (g.h.some h1) hp
  rw [zay this];exact g.no a h1 h2
theorem Grow.newH {F H F' H':Hp} (g:Grow F H F' H') {p:Addr} {o:HO} (hp:H' p=none):Grow F H F' (upd H' p o) :=
 ⟨g.f,g.fh.trans (Same.new hp _),g.h.trans (Same.new hp _),g.no⟩
theorem Grow.setH {F H F' H':Hp} (g:Grow F H F' H') {p:Addr} {o:HO} (hf:F' p=none) (hp:H p=none):Grow F H F' (upd H' p o) :=
 ⟨g.f,λa u q=>by rw [zay (za7 q hf)];exact g.fh _ _ q,λa u q=>by rw [zay (za7 q hp)];exact g.h _ _ q,g.no⟩
theorem Grow.take {F H F' H':Hp} (g:Grow F H F' H') {p:Addr} {o:HO} (hp:H p=none) (e:H' p=some o):Grow F H (upd F' p o) H':=by
 refine ⟨λa u q=>?_,λa u q=>?_,g.h,λa h1 h2=>?_⟩
 ·by_cases z:a=p
  ·subst z
   have:=g.fh _ _ (g.f _ _ q)
   rw [e] at this;cases this;exact zaH
  ·rw [zay z];exact g.f _ _ q
 ·by_cases z:a=p
  ·subst z;rw [zaH] at q;cases q;exact e
  ·rw [zay z] at q;exact g.fh _ _ q
 ·have:a≠p:=λz=>by subst z;exact h1 hp
  rw [zay this];exact g.no a h1 h2
def off (F Hb:Hp):Hp:=λa=>match Hb a with | none=>F a | some _=>none
theorem zcC {F Hb:Hp} {a:Addr} {o:HO}:off F Hb a=some o ↔ Hb a=none∧F a=some o:=by
 unfold off
 cases q:Hb a with
 | none=>simp
 | some u=>simp
theorem zkk {F F' Hb:Hp} (e:Same F F'):Same (off F Hb) (off F' Hb):=λa o q=>by
 rw [zcC] at q ⊢;exact ⟨q.1,e _ _ q.2⟩
theorem zjQ {F Hb:Hp}:Same (off F Hb) F:=λa o q=>(zcC.mp q).2
theorem znh {F Hb Hc:Hp} (e:Same Hb Hc):Same (off F Hc) (off F Hb):=λa o q=>by
 rw [zcC] at q ⊢
 refine ⟨?_,q.2⟩
 cases z:Hb a with
 | none=>rfl
 | some u=>rw [e _ _ z] at q;cases q.1
def zfN (m:Bool) (F Hb:Hp):Hp:=match m with | true=>off F Hb | false=>F
theorem zbs {m:Bool} {F F' Hb:Hp} (e:Same F F'):Same (zfN m F Hb) (zfN m F' Hb):=by
 cases m with
 | true=>exact zkk e
 | false=>exact e
theorem zbC {m:Bool} {F Hb:Hp}:Same (zfN m F Hb) F:=by
 cases m with
 | true=>exact zjQ
 | false=>exact Same.refl _
theorem zex {m:Bool} {F Hb:Hp} {p:Addr} {o:HO} (hb:Hb p=none) (hp:F p=some o):zfN m F Hb p=some o:=by
 cases m with
 | true=>exact zcC.mpr ⟨hb,hp⟩
 | false=>exact hp
inductive Slot where
 | no
 | va (m:Bool) (d:Ds)
 | ow (m:Bool) (ds:List Ds)
 | ob (m:Bool) (C p dx:Addr) (fs:List (Str×Ds))
 | tl (d:Ds)
 | ol (p:Addr) (ds:List Ds)
abbrev Ctx:=List Slot
def zfZ (Hb F H:Hp) (own:Nat->Option Addr) (i:Nat) (v:Option V):Slot->Prop
 | .tl d=>∃ x R,v=some x∧Same R H∧(∀ a o,R a=some o->F a=none∧Hb a=none)∧(∀ j p,own j=some p->R p=none)∧d.pr R x
 | .no=>True
 | .va m d=>∃ x,v=some x∧d.pr (zfN m F Hb) x
 | .ow m ds=>∃ p vs,v=some (.ref p)∧own i=some p∧F p=none∧Hb p=none∧H p=some (.lst vs)∧Paired (λv (d:Ds)=>d.pr (zfN m F Hb) v) vs ds
 | .ol p ds=>∃ vs,v=some (.ref p)∧own i=some p∧F p=none∧Hb p=none∧H p=some (.lst vs)∧Paired (λv (d:Ds)=>d.pr F v) vs ds
 | .ob m C p dx fs=>∃ vs,v=some (.ref p)∧own i=some p∧(F p=none∧F dx=none)∧(Hb p=none∧Hb dx=none)∧(H p=some (.ins C dx vs)∧H dx=some (.own p))∧Paired (λ(a:Str×V) (b:Str×Ds)=>a.1=b.1∧b.2.pr (zfN m F Hb) a.2) vs fs
structure At (F0 Hb F H:Hp) (σ:St) (own:Nat->Option Addr) (Γ:Ctx):Prop where
 g:Grow F0 Hb F H
 inj:∀ i j p,own i=some p->own j=some p->i=j
 liv:∀ i p,own i=some p->H p≠none
 sl:∀ i s,Γ[i]?=some s->zfZ Hb F H own i (σ[i]?).join s
 len:σ.length=Γ.length
theorem zfZ.grow {Hb F H F' H':Hp} {own:Nat->Option Addr} {i:Nat} {v:Option V} {s:Slot} (h:zfZ Hb F H own i v s) (g:Grow F H F' H'):zfZ Hb F' H' own i v s:=by
 cases s with
 | no=>trivial
 | tl d =>
  obtain ⟨x,R,e,h1,h2,h3,h4⟩:=h
  exact ⟨x,R,e,h1.trans g.h,λa o q=>⟨g.no a (by rw [h1 _ _ q];simp) (h2 a o q).1,(h2 a o q).2⟩,h3,h4⟩
 | va m d=>obtain ⟨x,e,q⟩:=h;exact ⟨x,e,d.up (zbs g.f) q⟩
 | ow m ds =>
  obtain ⟨p,vs,e,ho,hf,hb,hp,q⟩:=h
  exact ⟨p,vs,e,ho,g.no p (by rw [hp];simp) hf,hb,g.h _ _ hp,zdp (ds:=[]) (zbs g.f) q⟩
 | ol p ds =>
  obtain ⟨vs,e,ho,hf,hb,hp,q⟩:=h
  exact ⟨vs,e,ho,g.no p (by rw [hp];simp) hf,hb,g.h _ _ hp,zdp (ds:=[]) g.f q⟩
 | ob m C p dx fs =>
  obtain ⟨vs,e,ho,hf,hb,hp,q⟩:=h
  exact ⟨vs,e,ho,⟨g.no p (by rw [hp.1];simp) hf.1,g.no dx (by rw [hp.2];simp) hf.2⟩,hb,⟨g.h _ _ hp.1,g.h _ _ hp.2⟩,zcd (λ_ b z=>⟨z.1,b.2.up (zbs g.f) z.2⟩) q⟩
theorem At.grow {F0 Hb F H F' H':Hp} {σ:St} {own:Nat->Option Addr} {Γ:Ctx} (a:At F0 Hb F H σ own Γ) (g:Grow F H F' H'):At F0 Hb F' H' σ own Γ :=
 ⟨a.g.trans g,a.inj,λi p e=>g.h.some (a.liv i p e),λi s e=>(a.sl i s e).grow g,a.len⟩
theorem At.fh {F0 Hb F H:Hp} {σ:St} {own:Nat->Option Addr} {Γ:Ctx} (a:At F0 Hb F H σ own Γ):Same F H:=a.g.fh
theorem zeC {σ:St} {i:Nat} {x:Option V} (h:i<σ.length):((σ.set i x)[i]?).join=x:=by
 rw [List.getElem?_set_self h];rfl
theorem zfF {σ:St} {i j:Nat} {x:Option V} (h:i≠j):((σ.set i x)[j]?).join=(σ[j]?).join:=by
 rw [List.getElem?_set_ne h]
theorem At.set {F0 Hb F H:Hp} {σ:St} {own:Nat->Option Addr} {Γ:Ctx} (a:At F0 Hb F H σ own Γ) (i:Nat) {m:Bool} {d:Ds} {v:V} (h:d.pr (zfN m F Hb) v) :
  At F0 Hb F H (σ.set i (some v)) own (Γ.set i (.va m d)):=by
 refine ⟨a.g,a.inj,a.liv,λj s e=>?_,by simp [a.len]⟩
 by_cases z:i=j
 ·subst z
  have hi:i<Γ.length:=by
   have:=((List.getElem?_eq_some_iff.mp e)).1
   simpa using this
  rw [List.getElem?_set_self hi] at e
  cases e
  rw [zeC (by rw [a.len];exact hi)]
  exact ⟨v,rfl,h⟩
 ·rw [List.getElem?_set_ne z] at e
  rw [zfF z]
  exact a.sl j s e
theorem At.setOwn {F0 Hb F1 H1 F H:Hp} {σ:St} {own:Nat->Option Addr} {Γ:Ctx} (a1:At F0 Hb F1 H1 σ own Γ) (g:Grow F1 H1 F H) (i:Nat) {m:Bool} {ds:List Ds} {p:Addr} {vs:List V} (h1:H1 p=none) (hf:F p=none) (hp:H p=some (.lst vs))
  (h:Paired (λv (d:Ds)=>d.pr (zfN m F Hb) v) vs ds):At F0 Hb F H (σ.set i (some (.ref p))) (λj=>if j=i then some p else own j) (Γ.set i (.ow m ds)):=by
 have a:=a1.grow g
 have hb:Hb p=none:=a1.g.h.free h1
 have ho:∀ j,own j≠some p:=λj e=>a1.liv j p e h1
 refine ⟨a.g,λj k q e1 e2=>?_,λj q e=>?_,λj s e=>?_,by simp [a.len]⟩
 ·skip
  split at e1<;>split at e2
  ·omega
  ·cases e1;exact absurd e2 (ho k)
  ·cases e2;exact absurd e1 (ho j)
  ·exact a.inj j k q e1 e2
 ·skip
  split at e
  ·cases e;rw [hp];simp
  ·exact a.liv j q e
 ·by_cases z:i=j
  ·subst z
   have hi:i<Γ.length:=by
    have:=((List.getElem?_eq_some_iff.mp e)).1
    simpa using this
   rw [List.getElem?_set_self hi] at e
   cases e
   rw [zeC (by rw [a.len];exact hi)]
   exact ⟨p,vs,rfl,by simp,hf,hb,hp,h⟩
  ·rw [List.getElem?_set_ne z] at e
   rw [zfF z]
   have z':¬ j=i:=Ne.symm z
   cases s with
   | tl d =>
    obtain ⟨x,R,q1,q2,q3,q4,q5⟩:=a1.sl j _ e
    refine ⟨x,R,q1,q2.trans g.h,λb o w=>⟨g.no b (by rw [q2 _ _ w];simp) (q3 b o w).1,(q3 b o w).2⟩,λk q w=>?_,q5⟩
    dsimp only at w
    split at w
    ·cases w;exact q2.free h1
    ·exact q4 k q w
   | no=>trivial
   | va m d=>exact a.sl j _ e
   | ow m ds =>
    obtain ⟨q,us,w1,w2,w3⟩:=a.sl j _ e
    exact ⟨q,us,w1,(if_neg z').trans w2,w3⟩
   | ol q ds =>
    obtain ⟨us,w1,w2,w3⟩:=a.sl j _ e
    exact ⟨us,w1,(if_neg z').trans w2,w3⟩
   | ob m C q dx fs =>
    obtain ⟨us,w1,w2,w3⟩:=a.sl j _ e
    exact ⟨us,w1,(if_neg z').trans w2,w3⟩
theorem At.turn {F0 Hb F H:Hp} {σ:St} {own:Nat->Option Addr} {Γ:Ctx} (a:At F0 Hb F H σ own Γ) {i:Nat} {m n:Bool} {ds es:List Ds} {p:Addr} {ws:List V} (e:Γ[i]?=some (.ow m ds)) (ep:σ[i]?=some (some (.ref p)))
  (h:Paired (λv (d:Ds)=>d.pr (zfN n F Hb) v) ws es):At F0 Hb F (upd H p (.lst ws)) σ own (Γ.set i (.ow n es)):=by
 obtain ⟨p',vs,e1,e2,hf,hb,hp,_⟩:=a.sl i _ e
 rw [ep] at e1
 have e1':p=p':=by
  have:some (V.ref p)=some (V.ref p'):=e1
  cases this;rfl
 subst e1'
 refine ⟨a.g.setH hf hb,a.inj,λj q ej=>?_,λj s es'=>?_,by simp [a.len]⟩
 ·by_cases z:q=p
  ·subst z;rw [zaH];simp
  ·rw [zay z];exact a.liv j q ej
 ·by_cases z:i=j
  ·subst z
   have hi:i<Γ.length:=((List.getElem?_eq_some_iff.mp e)).1
   rw [List.getElem?_set_self hi] at es'
   cases es'
   exact ⟨p,ws,by rw [ep];rfl,e2,hf,hb,zaH,h⟩
  ·rw [List.getElem?_set_ne z] at es'
   have:=a.sl j s es'
   cases s with
   | no=>trivial
   | tl d =>
    obtain ⟨x,R,q1,q2,q3,q4,q5⟩:=this
    exact ⟨x,R,q1,λb o w=>by rw [zay (za7 w (q4 i p e2))];exact q2 b o w,q3,q4,q5⟩
   | va m d=>exact this
   | ow m ds =>
    obtain ⟨q,us,h1,h2,h3,h4,h5,h6⟩:=this
    have:q≠p:=λw=>by subst w;exact z (a.inj i j q e2 h2)
    exact ⟨q,us,h1,h2,h3,h4,by rw [zay this];exact h5,h6⟩
   | ol q ds =>
    obtain ⟨us,h1,h2,h3,h4,h5,h6⟩:=this
    have:q≠p:=λw=>by subst w;exact z (a.inj i j q e2 h2)
    exact ⟨us,h1,h2,h3,h4,by rw [zay this];exact h5,h6⟩
   | ob m C q dx fs =>
    obtain ⟨us,h1,h2,h3,h4,h5,h6⟩:=this
    have n1:q≠p:=λw=>by subst w;exact z (a.inj i j q e2 h2)
    have n2:dx≠p:=znq h5.2 hp (by intro z;cases z)
    exact ⟨us,h1,h2,h3,h4,⟨by rw [zay n1];exact h5.1,by rw [zay n2];exact h5.2⟩,h6⟩
theorem At.turnOb {F0 Hb F H:Hp} {σ:St} {own:Nat->Option Addr} {Γ:Ctx} (a:At F0 Hb F H σ own Γ) {i:Nat} {m n:Bool} {C p dx:Addr} {fs gs:List (Str×Ds)} {ws:List (Str×V)} (e:Γ[i]?=some (.ob m C p dx fs))
  (h:Paired (λ(a:Str×V) (b:Str×Ds)=>a.1=b.1∧b.2.pr (zfN n F Hb) a.2) ws gs):At F0 Hb F (upd H p (.ins C dx ws)) σ own (Γ.set i (.ob n C p dx gs)):=by
 obtain ⟨vs,e1,e2,hf,hb,hp,_⟩:=a.sl i _ e
 have ndp:dx≠p:=znq hp.2 hp.1 (by intro z;cases z)
 refine ⟨a.g.setH hf.1 hb.1,a.inj,λj q ej=>?_,λj s es'=>?_,by simp [a.len]⟩
 ·by_cases z:q=p
  ·subst z;rw [zaH];simp
  ·rw [zay z];exact a.liv j q ej
 ·by_cases z:i=j
  ·subst z
   have hi:i<Γ.length:=((List.getElem?_eq_some_iff.mp e)).1
   rw [List.getElem?_set_self hi] at es'
   cases es'
   exact ⟨ws,e1,e2,hf,hb,⟨zaH,by rw [zay ndp];exact hp.2⟩,h⟩
  ·rw [List.getElem?_set_ne z] at es'
   have:=a.sl j s es'
   cases s with
   | no=>trivial
   | tl d =>
    obtain ⟨x,R,q1,q2,q3,q4,q5⟩:=this
    exact ⟨x,R,q1,λb o w=>by rw [zay (za7 w (q4 i p e2))];exact q2 b o w,q3,q4,q5⟩
   | va m d=>exact this
   | ow m ds =>
    obtain ⟨q,us,h1,h2,h3,h4,h5,h6⟩:=this
    have:q≠p:=λw=>by subst w;exact z (a.inj i j q e2 h2)
    exact ⟨q,us,h1,h2,h3,h4,by rw [zay this];exact h5,h6⟩
   | ol q ds =>
    obtain ⟨us,h1,h2,h3,h4,h5,h6⟩:=this
    have:q≠p:=λw=>by subst w;exact z (a.inj i j q e2 h2)
    exact ⟨us,h1,h2,h3,h4,by rw [zay this];exact h5,h6⟩
   | ob m C q dy fs =>
    obtain ⟨us,h1,h2,h3,h4,h5,h6⟩:=this
    have n1:q≠p:=λw=>by subst w;exact z (a.inj i j q e2 h2)
    have n2:dy≠p:=znq h5.2 hp.1 (by intro z;cases z)
    exact ⟨us,h1,h2,h3,h4,⟨by rw [zay n1];exact h5.1,by rw [zay n2];exact h5.2⟩,h6⟩
inductive Wk:Ctx->Ctx->Prop where
 | nil:Wk [] []
 | eq {s Γ Δ}:Wk Γ Δ->Wk (s :: Γ) (s :: Δ)
 | no {s Γ Δ}:Wk Γ Δ->Wk (s :: Γ) (.no :: Δ)
 | old {m d Γ Δ}:Wk Γ Δ->Wk (.va m d :: Γ) (.va false d :: Δ)
 | oldL {m d Γ Δ}:Wk Γ Δ->Wk (.ow m d :: Γ) (.ow false d :: Δ)
theorem Wk.refl:∀ Γ:Ctx,Wk Γ Γ
 | []=>.nil
 | _ :: Γ=>.eq (Wk.refl Γ)
theorem Wk.len {Γ Δ:Ctx} (h:Wk Γ Δ):Γ.length=Δ.length:=by
 induction h<;>simp_all
theorem Wk.slot {Γ Δ:Ctx} (h:Wk Γ Δ):∀ {i:Nat} {s:Slot},Δ[i]?=some s->∃ r,Γ[i]?=some r∧∀ {Hb F H:Hp} {own:Nat->Option Addr} {j:Nat} {v:Option V},zfZ Hb F H own j v r->zfZ Hb F H own j v s:=by
 induction h with
 | nil=>intro i s e;simp at e
 | eq _ ih =>
  intro i s e
  cases i with
  | zero=>simp at e;subst e;exact ⟨_,rfl,λh=>h⟩
  | succ i=>simpa using ih (i:=i) (s:=s) (by simpa using e)
 | no _ ih =>
  intro i s e
  cases i with
  | zero=>simp at e;subst e;exact ⟨_,rfl,λ_=>trivial⟩
  | succ i=>simpa using ih (i:=i) (s:=s) (by simpa using e)
 | old _ ih =>
  intro i s e
  cases i with
  | zero=>simp at e;subst e;exact ⟨_,rfl,λ⟨x,h1,h2⟩=>⟨x,h1,Ds.up _ zbC h2⟩⟩
  | succ i=>simpa using ih (i:=i) (s:=s) (by simpa using e)
 | oldL _ ih =>
  intro i s e
  cases i with
  | zero=>simp at e;subst e;exact ⟨_,rfl,λ⟨p,vs,h1,h2,h3,h4,h5,h6⟩=>⟨p,vs,h1,h2,h3,h4,h5,zdp (ds:=[]) zbC h6⟩⟩
  | succ i=>simpa using ih (i:=i) (s:=s) (by simpa using e)
theorem At.wk {F0 Hb F H:Hp} {σ:St} {own:Nat->Option Addr} {Γ Δ:Ctx} (a:At F0 Hb F H σ own Γ) (w:Wk Γ Δ):At F0 Hb F H σ own Δ :=
 ⟨a.g,a.inj,a.liv,λi s e=>by
  obtain ⟨r,e1,h⟩:=w.slot e
  exact h (a.sl i r e1),by rw [a.len,w.len]⟩
theorem At.share {F0 Hb F H:Hp} {σ:St} {own:Nat->Option Addr} {Γ:Ctx} (a:At F0 Hb F H σ own Γ) {i:Nat} {m:Bool} {ds:List Ds} (e:Γ[i]?=some (.ow m ds)) :
  ∃ F' own',Grow F0 Hb F' H∧At F0 Hb F' H σ own' (Γ.set i (.va m (dL ds))):=by
 obtain ⟨p,vs,e1,e2,hf,hb,hp,hq⟩:=a.sl i _ e
 have g:=a.g.take hb hp
 have fs:Same F (upd F p (.lst vs)):=Same.new hf _
 refine ⟨upd F p (.lst vs),λj=>if j=i then none else own j,g,g,λj k q h1 h2=>?_,λj q h1=>?_,λj s es=>?_,by simp [a.len]⟩
 ·skip
  split at h1
  ·cases h1
  ·split at h2
   ·cases h2
   ·exact a.inj j k q h1 h2
 ·skip
  split at h1
  ·cases h1
  ·exact a.liv j q h1
 ·by_cases z:i=j
  ·subst z
   have hi:i<Γ.length:=((List.getElem?_eq_some_iff.mp e)).1
   rw [List.getElem?_set_self hi] at es
   cases es
   exact ⟨.ref p,e1,p,vs,rfl,zex hb zaH,zdp (ds:=[]) (zbs fs) hq⟩
  ·rw [List.getElem?_set_ne z] at es
   have z':¬ j=i:=Ne.symm z
   have:=a.sl j s es
   cases s with
   | no=>trivial
   | tl d =>
    obtain ⟨x,R,q1,q2,q3,q4,q5⟩:=this
    refine ⟨x,R,q1,q2,λb o w=>⟨by rw [zay (za7 w (q4 i p e2))];exact (q3 b o w).1,(q3 b o w).2⟩,λk q w=>?_,q5⟩
    dsimp only at w
    split at w
    ·cases w
    ·exact q4 k q w
   | va m d=>obtain ⟨x,h1,h2⟩:=this;exact ⟨x,h1,d.up (zbs fs) h2⟩
   | ow m ds =>
    obtain ⟨q,us,h1,h2,h3,h4,h5,h6⟩:=this
    have:q≠p:=λw=>by subst w;exact z (a.inj i j q e2 h2)
    exact ⟨q,us,h1,(if_neg z').trans h2,by rw [zay this];exact h3,h4,h5,zdp (ds:=[]) (zbs fs) h6⟩
   | ol q ds =>
    obtain ⟨us,h1,h2,h3,h4,h5,h6⟩:=this
    have:q≠p:=λw=>by subst w;exact z (a.inj i j q e2 h2)
    exact ⟨us,h1,(if_neg z').trans h2,by rw [zay this];exact h3,h4,h5,zdp (ds:=[]) fs h6⟩
   | ob m C q dx gs =>
    obtain ⟨us,h1,h2,h3,h4,h5,h6⟩:=this
    have n1:q≠p:=λw=>by subst w;exact z (a.inj i j q e2 h2)
    have n2:dx≠p:=znq h5.2 hp (by intro z;cases z)
    exact ⟨us,h1,(if_neg z').trans h2,⟨by rw [zay n1];exact h3.1,by rw [zay n2];exact h3.2⟩,h4,h5,zcd (λ_ b z=>⟨z.1,b.2.up (zbs fs) z.2⟩) h6⟩
end L2
namespace L2
open PySem PySem.Spec PyProof.Rows
def Ev (Γ:Ctx) (t:TE) (m:Bool) (d:Ds):Prop:=∀ (F0 Hb F H:Hp) (σ:St) (own:Nat->Option Addr) (Q:VK),At F0 Hb F H σ own Γ →
 (∀ v F' H',Grow F H F' H'->d.pr (zfN m F' Hb) v->Q v H')->t σ H Q
def EvO (Γ:Ctx) (t:TE) (m:Bool) (ds:List Ds):Prop:=∀ (F0 Hb F H:Hp) (σ:St) (own:Nat->Option Addr) (Q:VK),At F0 Hb F H σ own Γ →
 (∀ p vs F' H',Grow F H F' H'->H p=none->F' p=none->H' p=some (.lst vs)->Paired (λv (d:Ds)=>d.pr (zfN m F' Hb) v) vs ds->Q (.ref p) H')->t σ H Q
def EvT (Γ:Ctx) (t:TT) (b:Bool):Prop:=∀ (F0 Hb F H:Hp) (σ:St) (own:Nat->Option Addr) (Q:Bool->Hp->Prop),At F0 Hb F H σ own Γ →
 (∀ F' H',Grow F H F' H'->Q b H')->t σ H Q
def EvA (Γ:Ctx) (t:TA) (m:Bool) (ds:List Ds):Prop:=∀ (F0 Hb F H:Hp) (σ:St) (own:Nat->Option Addr) (Q:List V->Hp->Prop),At F0 Hb F H σ own Γ →
 (∀ vs F' H',Grow F H F' H'->Paired (λv (d:Ds)=>d.pr (zfN m F' Hb) v) vs ds->Q vs H')->t σ H Q
def EvP (Γ:Ctx) (t:TO) (i:Option Int):Prop:=∀ (F0 Hb F H:Hp) (σ:St) (own:Nat->Option Addr) (Q:Option Int->Hp->Prop),At F0 Hb F H σ own Γ →
 (∀ F' H',Grow F H F' H'->Q i H')->t σ H Q
theorem At.free {F0 Hb F H:Hp} {σ:St} {own:Nat->Option Addr} {Γ:Ctx} (a:At F0 Hb F H σ own Γ) {F' H':Hp} (g:Grow F H F' H') {p:Addr} (h:H' p=none):H p=none∧F' p=none∧Hb p=none:=by
 have h1:=g.h.free h
 exact ⟨h1,g.fh.free h,a.g.h.free h1⟩
section
variable {Γ:Ctx} {t ta tb:TE} {m n:Bool} {d e:Ds} {ds es:List Ds} {K:W.Frag}
theorem Ev.old (h:Ev Γ t m d):Ev Γ t false d:=λF0 Hb F H σ own Q a k=>h F0 Hb F H σ own Q a λv F' H' g q=>k v F' H' g (d.up zbC q)
theorem Ev.conv (h:Ev Γ t m d) (e':d=e):Ev Γ t m e:=e' ▸ h
theorem EvO.conv (h:EvO Γ t m ds) (e':ds=es):EvO Γ t m es:=e' ▸ h
theorem EvT.conv {t:TT} {b c:Bool} (h:EvT Γ t b) (e':b=c):EvT Γ t c:=e' ▸ h
theorem EvO.ev (h:EvO Γ t m ds):Ev Γ t m (dL ds):=λF0 Hb F H σ own Q a k=>h F0 Hb F H σ own Q a λp vs F' H' g h1 h2 h3 q=>by
 have fs:Same F' (upd F' p (.lst vs)):=Same.new h2 _
 exact k (.ref p) (upd F' p (.lst vs)) H' (g.take h1 h3) ⟨p,vs,rfl,zex (a.g.h.free h1) zaH,zdp (ds:=[]) (zbs fs) q⟩
theorem Ev.weak (h:Ev Γ t m (dL ds)):Ev Γ t m (dQ K ds):=λF0 Hb F H σ own Q a k=>h F0 Hb F H σ own Q a λv F' H' g ⟨p,vs,h1,h2,h3⟩=>k v F' H' g ⟨p,vs,h1,SqL.of h2,h3⟩
theorem zaa {i:Nat} (h:Γ[i]?=some (.va m d)):Ev Γ (zje i) m d:=λF0 Hb F H σ own Q a k=>by
 obtain ⟨x,e,q⟩:=a.sl i _ h
 have hi:i<σ.length:=by rw [a.len];exact ((List.getElem?_eq_some_iff.mp h)).1
 rw [List.getElem?_eq_getElem hi] at e
 have e':σ[i]=some x:=e
 exact ⟨x,by rw [List.getElem?_eq_getElem hi,e'],k x F H (Grow.refl a.fh) q⟩
theorem zaL {v:V}:Ev Γ (tC v) m (dV v):=λF0 Hb F H σ own Q a k=>k v F H (Grow.refl a.fh) rfl
theorem zaU {g:Int->Int->V} {x y:Int} (h1:Ev Γ ta false (dI x)) (h2:Ev Γ tb false (dI y)):Ev Γ (tOp (rI0 g) ta tb) m (dV (g x y)):=λF0 Hb F H σ own Q a k =>
 h1 F0 Hb F H σ own _ a λu F1 H1 g1 q1=>h2 F0 Hb F1 H1 σ own _ (a.grow g1) λv F2 H2 g2 q2=>⟨x,y,q1,q2,k _ F2 H2 (g1.trans g2) rfl⟩
theorem zaJ {C:Int->Int->Prop} {g:Int->Int->V} {x y:Int} (h1:Ev Γ ta false (dI x)) (h2:Ev Γ tb false (dI y)) (c:C x y):Ev Γ (tOp (rI C g) ta tb) m (dV (g x y)):=λF0 Hb F H σ own Q a k =>
 h1 F0 Hb F H σ own _ a λu F1 H1 g1 q1=>h2 F0 Hb F1 H1 σ own _ (a.grow g1) λv F2 H2 g2 q2=>⟨x,y,q1,q2,c,k _ F2 H2 (g1.trans g2) rfl⟩
theorem zn8 {g:Int->V} {x:Int} (h1:Ev Γ ta false (dI x)):Ev Γ (tUn (rU g) ta) m (dV (g x)):=λF0 Hb F H σ own Q a k =>
 h1 F0 Hb F H σ own _ a λu F1 H1 g1 q1=>⟨x,q1,k _ F1 H1 g1 rfl⟩
theorem zso {v w:V} (h1:Ev Γ ta false (dV v)) (h2:Ev Γ tb false (dV w)) (hs:scal v w=true):Ev Γ (tOp rEq ta tb) m (dB (decide (v=w))):=λF0 Hb F H σ own Q a k =>
 h1 F0 Hb F H σ own _ a λu F1 H1 g1 q1=>h2 F0 Hb F1 H1 σ own _ (a.grow g1) λv F2 H2 g2 q2=>by
  cases q1;cases q2;exact ⟨hs,k _ F2 H2 (g1.trans g2) rfl⟩
theorem zqV {v w:V} (h1:Ev Γ ta false (dV v)) (h2:Ev Γ tb false (dV w)) (hs:scal v w=true):Ev Γ (tOp rNe ta tb) m (dB (!decide (v=w))):=λF0 Hb F H σ own Q a k =>
 h1 F0 Hb F H σ own _ a λu F1 H1 g1 q1=>h2 F0 Hb F1 H1 σ own _ (a.grow g1) λv F2 H2 g2 q2=>by
  cases q1;cases q2;exact ⟨hs,k _ F2 H2 (g1.trans g2) rfl⟩
theorem zmC (x y:Int):decide (V.int x=V.int y)=decide (x=y):=by simp
theorem zd5 {x y:Int} (h1:Ev Γ ta false (dI x)) (h2:Ev Γ tb false (dI y)):Ev Γ (tOp rEq ta tb) m (dB (decide (x=y))):=(zso h1 h2 rfl).conv (by rw [zmC])
theorem zeK {x y:Int} (h1:Ev Γ ta false (dI x)) (h2:Ev Γ tb false (dI y)):Ev Γ (tOp rNe ta tb) m (dB (!decide (x=y))):=(zqV h1 h2 rfl).conv (by rw [zmC])
theorem zau {b:Bool} (h:Ev Γ t false (dB b)):EvT Γ (zrx t) b:=λF0 Hb F H σ own Q a k=>h F0 Hb F H σ own _ a λv F' H' g q=>⟨b,q,k F' H' g⟩
theorem zjD {b:Bool} (h:Ev Γ t false (dB b)):EvT Γ (tB t) b:=λF0 Hb F H σ own Q a k=>h F0 Hb F H σ own _ a λv F' H' g q=>⟨b,q,k F' H' g⟩
theorem zj6 {t:TT} {b:Bool} (h:EvT Γ t b):EvT Γ (zs3 t) (!b):=λF0 Hb F H σ own Q a k=>h F0 Hb F H σ own _ a λF' H' g=>k F' H' g
theorem zgk {t u:TT} {b c:Bool} (h:EvT Γ t b) (h2:b=true->EvT Γ u c):EvT Γ (zs0 t u) (b&&c):=λF0 Hb F H σ own Q a k=>h F0 Hb F H σ own _ a λF' H' g=>by
 cases b with
 | true=>exact h2 rfl F0 Hb F' H' σ own Q (a.grow g) λF2 H2 g2=>k F2 H2 (g.trans g2)
 | false=>exact k F' H' g
theorem zkR {t u:TT} {b c:Bool} (h:EvT Γ t b) (h2:b=false->EvT Γ u c):EvT Γ (tOr t u) (b||c):=λF0 Hb F H σ own Q a k=>h F0 Hb F H σ own _ a λF' H' g=>by
 cases b with
 | false=>exact h2 rfl F0 Hb F' H' σ own Q (a.grow g) λF2 H2 g2=>k F2 H2 (g.trans g2)
 | true=>exact k F' H' g
theorem zlF {b c:Bool} (h:Ev Γ ta false (dB b)) (h2:b=true->Ev Γ tb false (dB c)):Ev Γ (zqZ ta tb) m (dB (b&&c)):=λF0 Hb F H σ own Q a k=>h F0 Hb F H σ own _ a λv F' H' g q=>⟨b,q,by
 cases b with
 | true=>exact h2 rfl F0 Hb F' H' σ own Q (a.grow g) λv F2 H2 g2 q2=>k v F2 H2 (g.trans g2) q2
 | false=>exact k _ F' H' g rfl⟩
theorem zru {tc:TT} {α:Type} {b:Bool} {x y:α} (f:α->Ds) (h:EvT Γ tc b) (h1:b=true->Ev Γ ta m (f x)) (h2:b=false->Ev Γ tb m (f y)):Ev Γ (tIf tc ta tb) m (f (bif b then x else y)):=λF0 Hb F H σ own Q a k=>h F0 Hb F H σ own _ a λF' H' g=>by
 cases b with
 | true=>exact h1 rfl F0 Hb F' H' σ own Q (a.grow g) λv F2 H2 g2 q2=>k v F2 H2 (g.trans g2) q2
 | false=>exact h2 rfl F0 Hb F' H' σ own Q (a.grow g) λv F2 H2 g2 q2=>k v F2 H2 (g.trans g2) q2
theorem zae:EvA Γ zkA m []:=λF0 Hb F H σ own Q a k=>k [] F H (Grow.refl a.fh) .nil
theorem zab {tr:TA} (h:Ev Γ ta m d) (h2:EvA Γ tr m ds):EvA Γ (zfM ta tr) m (d :: ds):=λF0 Hb F H σ own Q a k =>
 h F0 Hb F H σ own _ a λv F1 H1 g1 q1=>h2 F0 Hb F1 H1 σ own _ (a.grow g1) λvs F2 H2 g2 q2=>k _ F2 H2 (g1.trans g2) (.cons (d.up (zbs g2.f) q1) q2)
theorem zc5 {tr:TA} (h:EvA Γ tr m ds) (hz:ds.length≤sizeLine):EvO Γ (zsn tr) m ds:=λF0 Hb F H σ own Q a k =>
 h F0 Hb F H σ own _ a λvs F1 H1 g1 q1=>⟨by rw [Paired.length q1];exact hz,λp hp=>by
  obtain ⟨h1,h2,h3⟩:=a.free g1 hp
  exact k p vs F1 _ (g1.newH hp) h1 h2 zaH q1⟩
theorem zgX {tr:TA} (h:EvA Γ tr m ds) (hz:ds.length≤sizeLine):Ev Γ (zsX tr) m (dT ds):=λF0 Hb F H σ own Q a k =>
 h F0 Hb F H σ own _ a λvs F1 H1 g1 q1=>⟨by rw [Paired.length q1];exact hz,λp hp=>by
  obtain ⟨h1,h2,h3⟩:=a.free g1 hp
  exact k (.ref p) _ _ (g1.new hp) ⟨p,vs,rfl,zex h3 zaH,zdp (ds:=[]) (zbs (Same.new h2 _)) q1⟩⟩
theorem zdu {tr:TA} (h:EvA Γ tr m []):EvO Γ (zsn tr) m []:=zc5 h (Nat.zero_le _)
theorem zgc {R:V->Ds->Prop} {vs:List V} {ds:List Ds} {i:Int} {d:Ds} (h:Paired R vs ds) (e:atI ds i=some d):∃ v,atI vs i=some v∧R v d:=by
 unfold atI at e ⊢
 rw [Paired.length h]
 cases q:ixN ds.length i with
 | none=>rw [q] at e;cases e
 | some j =>
  rw [q] at e
  obtain ⟨v,e1,r⟩:=zbb h (show ds[j]?=some d from e)
  exact ⟨v,e1,r⟩
theorem zmR {α β:Type} {f:α->β} {xs:List α} {i:Int} {x:α} (e:atI xs i=some x):atI (xs.map f) i=some (f x):=by
 unfold atI at e ⊢
 rw [List.length_map]
 cases q:ixN xs.length i with
 | none=>rw [q] at e;cases e
 | some j =>
  rw [q] at e
  have e':xs[j]?=some x:=e
  show ((xs.map f))[j]?=_
  rw [List.getElem?_map,e']
  rfl
theorem zsd {i:Int} (h1:Ev Γ ta m (dQ K ds)) (h2:Ev Γ tb false (dI i)) (e:atI ds i=some d):Ev Γ (tOp (zqc K) ta tb) m d:=λF0 Hb F H σ own Q a k =>
 h1 F0 Hb F H σ own _ a λu F1 H1 g1 ⟨p,vs,e1,e2,e3⟩=>h2 F0 Hb F1 H1 σ own _ (a.grow g1) λv F2 H2 g2 q2=>by
  obtain ⟨x,ex,rx⟩:=zgc e3 e
  exact ⟨p,vs,i,x,e1,q2,((zbC.trans (g2.f.trans g2.fh))).seq e2,ex,k x F2 H2 (g1.trans g2) (d.up (zbs g2.f) rx)⟩
theorem zdD {i:Int} (h1:Ev Γ ta m (dT ds)) (h2:Ev Γ tb false (dI i)) (e:atI ds i=some d):Ev Γ (tOp (zsD K) ta tb) m d:=λF0 Hb F H σ own Q a k =>
 h1 F0 Hb F H σ own _ a λu F1 H1 g1 ⟨p,vs,e1,e2,e3⟩=>h2 F0 Hb F1 H1 σ own _ (a.grow g1) λv F2 H2 g2 q2=>by
  obtain ⟨x,ex,rx⟩:=zgc e3 e
  exact ⟨p,vs,i,x,e1,q2,.inl (.inl ((zbC.trans (g2.f.trans g2.fh)) _ _ e2)),ex,k x F2 H2 (g1.trans g2) (d.up (zbs g2.f) rx)⟩
theorem zrs {t:TE} (h1:Ev Γ t false (dQ K ds)):Ev Γ (tCB (λxs H Q=>∃p ys,xs=[.ref p]∧(SqL K H p ys∨SqT K H p ys)∧Q (.int ys.length) H) (zfM t zkA)) m (dI ds.length):=λF0 Hb F H σ own Q a k =>
 h1 F0 Hb F H σ own _ a λu F1 H1 g1 ⟨p,vs,e1,e2,e3⟩=>⟨p,vs,by rw [e1],.inl (g1.fh.seq e2),k _ F1 H1 g1 (by show V.int _=_;rw [Paired.length e3])⟩
theorem zg3 {t:TE} (h1:Ev Γ t m (dQ K ds)):EvO Γ (tCB (λxs H Q=>∃p ys,xs=[.ref p]∧(SqL K H p ys∨SqT K H p ys)∧∀l,H l=none->Q (.ref l) (upd H l (.lst ys))) (zfM t zkA)) m ds:=λF0 Hb F H σ own Q a k =>
 h1 F0 Hb F H σ own _ a λu F1 H1 g1 ⟨p,vs,e1,e2,e3⟩=>⟨p,vs,by rw [e1],.inl ((zbC.trans g1.fh).seq e2),λl hl=>by
  obtain ⟨h1,h2,h3⟩:=a.free g1 hl
  exact k l vs F1 _ (g1.newH hl) h1 h2 zaH e3⟩
theorem zd2:EvP Γ zmu none:=λF0 Hb F H σ own Q a k=>k F H (Grow.refl a.fh)
theorem zbN {i:Int} (h:Ev Γ t false (dI i)):EvP Γ (zry t) (some i):=λF0 Hb F H σ own Q a k=>h F0 Hb F H σ own _ a λv F' H' g q=>⟨i,q,k F' H' g⟩
def zct {α:Type} (xs:List α) (lo hi:Option Int):List α:=(xs.drop (HT.sIx xs.length 0 lo)).take (HT.sIx xs.length xs.length hi-HT.sIx xs.length 0 lo)
theorem znR {α β:Type} {f:α->β} {xs:List α} {lo hi:Option Int}:(zct xs lo hi).map f=zct (xs.map f) lo hi:=by
 unfold zct;rw [List.map_take,List.map_drop,List.length_map]
theorem zqw {tl th:TO} {lo hi:Option Int} (h1:Ev Γ t m (dQ K ds)) (h2:EvP Γ tl lo) (h3:EvP Γ th hi):EvO Γ (tSl (zrT K) t tl th) m (zct ds lo hi):=λF0 Hb F H σ own Q a k =>
 h1 F0 Hb F H σ own _ a λu F1 H1 g1 ⟨p,vs,e1,e2,e3⟩=>h2 F0 Hb F1 H1 σ own _ (a.grow g1) λF2 H2 g2=>h3 F0 Hb F2 H2 σ own _ (((a.grow g1)).grow g2) λF3 H3 g3 =>
  ⟨p,vs,e1,(zbC.trans (g1.fh.trans (g2.h.trans g3.h))).seq e2,λl hl=>by
   have g:=g1.trans (g2.trans g3)
   obtain ⟨h1,h2,h3⟩:=a.free g hl
   refine k l _ F3 _ (g.newH hl) h1 h2 zaH ?_
   unfold zqp zct
   rw [Paired.length e3]
   exact zgR _ (zhk _ (zdp (ds:=[]) (zbs (g2.f.trans g3.f)) e3))⟩
theorem zrM {es:List Ds} (h1:Ev Γ ta m (dL ds)) (h2:Ev Γ tb m (dL es)) (hz:ds.length+es.length≤sizeLine):EvO Γ (tOp zr9 ta tb) m (ds++es):=λF0 Hb F H σ own Q a k =>
 h1 F0 Hb F H σ own _ a λu F1 H1 g1 ⟨p,vs,e1,e2,e3⟩=>h2 F0 Hb F1 H1 σ own _ (a.grow g1) λv F2 H2 g2 ⟨q,ws,f1,f2,f3⟩ =>
  ⟨p,q,vs,ws,e1,f1,(zbC.trans (g2.f.trans g2.fh)) _ _ e2,(zbC.trans g2.fh) _ _ f2,by rw [Paired.length e3,Paired.length f3];exact hz,λl hl=>by
   have g:=g1.trans g2
   obtain ⟨h1,h2,h3⟩:=a.free g hl
   exact k l _ F2 _ (g.newH hl) h1 h2 zaH (zcx (zdp (ds:=[]) (zbs g2.f) e3) f3)⟩
theorem zqz {n:Int} (h1:Ev Γ ta m (dL ds)) (h2:Ev Γ tb false (dI n)) (hn:-(2^63)≤n∧n<2^63) (hz:ds.length*n.toNat≤sizeLine):EvO Γ (tOp zsI ta tb) m (List.replicate n.toNat ds).flatten:=λF0 Hb F H σ own Q a k =>
 h1 F0 Hb F H σ own _ a λu F1 H1 g1 ⟨p,vs,e1,e2,e3⟩=>h2 F0 Hb F1 H1 σ own _ (a.grow g1) λv F2 H2 g2 q2 =>
  ⟨p,n,vs,e1,q2,(zbC.trans (g2.f.trans g2.fh)) _ _ e2,hn.1,hn.2,by rw [Paired.length e3];exact hz,λl hl=>by
   have g:=g1.trans g2
   obtain ⟨h1,h2,h3⟩:=a.free g hl
   exact k l _ F2 _ (g.newH hl) h1 h2 zaH (zhX (zdp (ds:=[]) (zbs g2.f) e3) _)⟩
theorem zqm {d:Ds} {b:Bool} (h1:Ev Γ ta false d) (h2:Ev Γ tb false dN) (hb:∀ H v,d.pr H v->decide (v=V.non)=b):Ev Γ (tOp (λx y H Q=>y= .non∧Q (.bl (decide (x= .non))) H) ta tb) m (dB b):=λF0 Hb F H σ own Q a k =>
 h1 F0 Hb F H σ own _ a λu F1 H1 g1 q1=>h2 F0 Hb F1 H1 σ own _ (a.grow g1) λv F2 H2 g2 q2=>⟨q2,k _ F2 H2 (g1.trans g2) (by show V.bl _=_;rw [hb _ _ q1])⟩
theorem zoX {d:Ds} {b:Bool} (h1:Ev Γ ta false d) (h2:Ev Γ tb false dN) (hb:∀ H v,d.pr H v->decide (v=V.non)=b):Ev Γ (tOp (λx y H Q=>y= .non∧Q (.bl (!decide (x= .non))) H) ta tb) m (dB (!b)):=λF0 Hb F H σ own Q a k =>
 h1 F0 Hb F H σ own _ a λu F1 H1 g1 q1=>h2 F0 Hb F1 H1 σ own _ (a.grow g1) λv F2 H2 g2 q2=>⟨q2,k _ F2 H2 (g1.trans g2) (by show V.bl _=_;rw [hb _ _ q1])⟩
theorem zqK {x y:Int} {tr:TA} (h:EvA Γ tr false [dI x,dI y]):Ev Γ (tCB (λxs H Q=>∃i j,xs=[.int i,.int j]∧Q (.int (if j<i then j else i)) H) tr) m (dI (min x y)):=λF0 Hb F H σ own Q a k =>
 h F0 Hb F H σ own _ a λvs F1 H1 g1 q=>by
  cases q with | cons q1 q=>cases q with | cons q2 q=>cases q;cases q1;cases q2;exact ⟨x,y,rfl,k _ F1 H1 g1 (by show V.int _=V.int _;congr 1;omega)⟩
theorem zoL {x y:Int} {tr:TA} (h:EvA Γ tr false [dI x,dI y]):Ev Γ (tCB (λxs H Q=>∃i j,xs=[.int i,.int j]∧Q (.int (if j>i then j else i)) H) tr) m (dI (max x y)):=λF0 Hb F H σ own Q a k =>
 h F0 Hb F H σ own _ a λvs F1 H1 g1 q=>by
  cases q with | cons q1 q=>cases q with | cons q2 q=>cases q;cases q1;cases q2;exact ⟨x,y,rfl,k _ F1 H1 g1 (by show V.int _=V.int _;congr 1;omega)⟩
theorem zm9 {b:Bool} {tr:TA} (h:EvA Γ tr false [dB b]):Ev Γ (tCB (λxs H Q=>(∃i,xs=[.int i]∧Q (.int i) H)∨∃k,xs=[.bl k]∧Q (.int (if k then 1 else 0)) H) tr) m (dI (if b then 1 else 0)):=λF0 Hb F H σ own Q a k =>
 h F0 Hb F H σ own _ a λvs F1 H1 g1 q=>by
  cases q with | cons q1 q=>cases q;cases q1;exact .inr ⟨b,rfl,k _ F1 H1 g1 rfl⟩
theorem zhd {f:α->V} {R:Hp} {xs:List α}:∀ {vs:List V},Paired (λv (d:Ds)=>d.pr R v) vs (xs.map λx=>dV (f x))->vs=xs.map f:=by
 induction xs with
 | nil=>intro vs h;cases h;rfl
 | cons x xs ih=>intro vs h;cases h with | cons h1 h2=>rw [ih h2,h1];rfl
theorem zqJ {xs:Ji} {t:TE} (h1:Ev Γ t false (dQ K (xs.map dI))):Ev Γ (tCB (λxs H Q=>∃(a:Addr) (ns:Ji),xs=[.ref a]∧SqL K H a (ns.map V.int)∧Q (.int ns.sum) H) (zfM t zkA)) m (dI xs.sum):=λF0 Hb F H σ own Q a k =>
 h1 F0 Hb F H σ own _ a λu F1 H1 g1 ⟨p,vs,e1,e2,e3⟩=>⟨p,xs,by rw [e1],by rw [← zhd e3];exact g1.fh.seq e2,k _ F1 H1 g1 rfl⟩
theorem zf9 {H:Hp} {f:Str} {d:Ds}:∀ {vs:List (Str×V)} {fs:List (Str×Ds)},Paired (λ(a:Str×V) (b:Str×Ds)=>a.1=b.1∧b.2.pr H a.2) vs fs->fs.lookup f=some d->∃ v,vs.lookup f=some v∧d.pr H v
 | _,_,.nil,e=>by cases e
 | _,_,.cons (a:=(x,v)) (b:=(y,d')) ⟨h1,h2⟩ t,e=>by
  have h1:x=y:=h1
  subst h1
  simp only [List.lookup_cons] at e ⊢
  cases q:f == x with
  | true=>rw [q] at e;cases e;exact ⟨v,rfl,h2⟩
  | false=>rw [q] at e;exact zf9 t e
theorem zca {C:Addr} {fs:List (Str×Ds)} {f:Str} (h1:Ev Γ ta m (dO C fs)) (c:Cls K C) (nf:NoAttr K C f) (e:fs.lookup f=some d):Ev Γ (tFld K ta f) m d:=λF0 Hb F H σ own Q a k =>
 h1 F0 Hb F H σ own _ a λu F1 H1 g1 ⟨p,dx,vs,e1,e2,e3,e4⟩=>by
  obtain ⟨v,ev,qv⟩:=zf9 e4 e
  exact ⟨p,C,dx,vs,v,e1,(zbC.trans g1.fh) _ _ e2,c,nf,ev,k v F1 H1 g1 qv⟩
inductive Rs where
 | va (m:Bool) (d:Ds)
 | ow (m:Bool) (ds:List Ds)
 | ex (C:Addr)
def Spv {ι:Type} (args:ι->List Ds) (pre:ι->Prop) (res:ι->Rs):Sp:=λvs H Q E=>∃ (x:ι) (F:Hp),Same F H∧Paired (λv (d:Ds)=>d.pr F v) vs (args x)∧pre x∧match res x with
 | .ex C=>∀ dct F' H',Grow F H F' H'->E (.ref C) dct H'
 | .va m d=>∀ v F' H',Grow F H F' H'->d.pr (zfN m F' H) v->Q v H'
 | .ow m ds=>∀ p ws F' H',Grow F H F' H'->H p=none->F' p=none->H' p=some (.lst ws)->Paired (λv (d:Ds)=>d.pr (zfN m F' H) v) ws ds->Q (.ref p) H'
theorem ziw {m:Bool} {F Hb H:Hp} (e:Same Hb H):Same (zfN m F H) (zfN m F Hb):=by
 cases m with
 | true=>exact znh e
 | false=>exact Same.refl _
theorem zal {ι:Type} {args:ι->List Ds} {pre:ι->Prop} {res:ι->Rs} {tr:TA} {E:XK} (x:ι) (h:EvA Γ tr false ds) (ha:ds=args x) (hp:pre x) (hr:res x=.va m d):Ev Γ (tCall (Spv args pre res) [] E tr) m d:=λF0 Hb F H σ own Q a k=>by
 subst ha
 refine h F0 Hb F H σ own _ a λvs F1 H1 g1 q1=>⟨x,F1,g1.fh,by rw [List.append_nil];exact q1,hp,?_⟩
 rw [hr]
 exact λv F' H' g q=>k v F' H' (g1.trans g) (d.up (ziw (a.g.h.trans g1.h)) q)
theorem zbG {ι:Type} {args:ι->List Ds} {pre:ι->Prop} {res:ι->Rs} {tr:TA} {E:XK} (x:ι) (h:EvA Γ tr false es) (ha:es=args x) (hp:pre x) (hr:res x=.ow m ds):EvO Γ (tCall (Spv args pre res) [] E tr) m ds:=λF0 Hb F H σ own Q a k=>by
 subst ha
 refine h F0 Hb F H σ own _ a λvs F1 H1 g1 q1=>⟨x,F1,g1.fh,by rw [List.append_nil];exact q1,hp,?_⟩
 rw [hr]
 exact λp ws F' H' g h1 h2 h3 q=>k p ws F' H' (g1.trans g) (g1.h.free h1) h2 h3 (zdp (ds:=[]) (ziw (a.g.h.trans g1.h)) q)
end
end L2
namespace L2
open PySem PySem.Spec PyProof.Rows
def zsO:List Nat->List V->St->St
 | j :: js,v :: vs,σ=>zsO js vs (σ.set j (some v))
 | _,_,σ=>σ
def zm8:List Nat->List Ds->Bool->Ctx->Ctx
 | j :: js,d :: ds,m,Γ=>zm8 js ds m (Γ.set j (.va m d))
 | _,_,_,Γ=>Γ
theorem At.setMany {F0 Hb F H:Hp} {own:Nat->Option Addr} {m:Bool}:∀ {js:List Nat} {vs:List V} {ds:List Ds} {σ:St} {Γ:Ctx},At F0 Hb F H σ own Γ->Paired (λv (d:Ds)=>d.pr (zfN m F Hb) v) vs ds →
  At F0 Hb F H (zsO js vs σ) own (zm8 js ds m Γ)
 | [],_,_,_,_,a,.nil=>a
 | [],_,_,_,_,a,.cons _ _=>a
 | _ :: _,_,_,_,_,a,.nil=>a
 | j :: js,_,_,_,_,a,.cons h t=>At.setMany (js:=js) (a.set j h) t
theorem At.unset {F0 Hb F H:Hp} {own:Nat->Option Addr} {σ:St} {Γ:Ctx} {j:Nat} {s:Slot} (a:At F0 Hb F H σ own (Γ.set j s)) (h:Γ[j]?=some .no):At F0 Hb F H σ own Γ :=
 ⟨a.g,a.inj,a.liv,λi r e=>by
  by_cases z:j=i
  ·subst z;rw [h] at e;cases e;trivial
  ·exact a.sl i r (by rw [List.getElem?_set_ne z];exact e),by rw [a.len];simp⟩
theorem At.unsetMany {F0 Hb F H:Hp} {own:Nat->Option Addr} {σ:St} {m:Bool}:∀ {js:List Nat} {ds:List Ds} {Γ:Ctx},At F0 Hb F H σ own (zm8 js ds m Γ)->(∀ j∈js,Γ[j]?=some .no)->js.Nodup->At F0 Hb F H σ own Γ
 | [],[],_,a,_,_=>a
 | [],_ :: _,_,a,_,_=>a
 | _ :: _,[],_,a,_,_=>a
 | j :: js,d :: ds,Γ,a,h,hn=>by
  have hn:=List.nodup_cons.mp hn
  refine At.unset (At.unsetMany (js:=js) (ds:=ds) (Γ:=Γ.set j (.va m d)) a (λi hi=>?_) hn.2) (h j List.mem_cons_self)
  rw [List.getElem?_set_ne (λ(z:j=i)=>hn.1 (by rw [z];exact hi))]
  exact h i (List.mem_cons_of_mem _ hi)
def zrD {γ:Type} (Hb F:Hp) (J:It) (g:TG) (js:List Nat) (xs:List γ) (bds:γ->List Ds) (m:Bool):Prop:=∀ H,Same F H->J.stop xs.length H∧∀ i x,xs[i]?=some x->J.go i H ∧
 ∀ v H',J.yld i H v H'->Grow F H F H'∧∀ (σ:St) (Q:St->Hp->Prop),(∀ vs,Paired (λv (d:Ds)=>d.pr (zfN m F Hb) v) vs (bds x)->Q (zsO js vs σ) H')->g v σ H' Q
def Iv {γ:Type} (Γ:Ctx) (wi:TI) (g:TG) (js:List Nat) (xs:List γ) (bds:γ->List Ds) (m:Bool):Prop:=∀ (F0 Hb F H:Hp) (σ:St) (own:Nat->Option Addr) (R:It->Hp->Prop),At F0 Hb F H σ own Γ →
 (∀ J F' H',Grow F H F' H'->zrD Hb F' J g js xs bds m->R J H')->wi σ H R
section
variable {Γ:Ctx} {m:Bool} {K:W.Frag} {γ δ:Type}
theorem zrD.up {Hb F F':Hp} {J:It} {g:TG} {js:List Nat} {xs:List γ} {bds:γ->List Ds} (h:zrD Hb F J g js xs bds m) (e:Same F F'):zrD Hb F' J g js xs bds m:=λH hs=>by
 obtain ⟨h1,h2⟩:=h H (e.trans hs)
 refine ⟨h1,λi x ex=>?_⟩
 obtain ⟨h3,h4⟩:=h2 i x ex
 refine ⟨h3,λv H' y=>?_⟩
 obtain ⟨h5,h6⟩:=h4 v H' y
 exact ⟨⟨Same.refl _,hs.trans h5.h,h5.h,λ_ _ z=>z⟩,λσ Q k=>h6 σ Q λvs q=>k vs (zdp (ds:=[]) (zbs e) q)⟩
theorem zbi {tl:TE} {j:Nat} {xs:List γ} (f:γ->Ds) (h:Ev Γ tl m (dQ K (xs.map f))):Iv Γ (zn4 K tl) (zdz j) [j] xs (λx=>[f x]) m:=λF0 Hb F H σ own R a k =>
 h F0 Hb F H σ own _ a λu F1 H1 g1 ⟨p,vs,e1,e2,e3⟩=>by
  have e2':SqL K F1 p vs:=zbC.seq e2
  refine ⟨p,e1,⟨vs,g1.fh.seq e2'⟩,k _ F1 H1 g1 λH hs=>⟨⟨vs,hs.seq e2',by rw [Paired.length e3,List.length_map];exact Nat.le_refl _⟩,λi x ex=>?_⟩⟩
  obtain ⟨v,ev,qv⟩:=zbb e3 (show ((xs.map f))[i]?=some (f x) by rw [List.getElem?_map,ex];rfl)
  refine ⟨⟨vs,v,hs.seq e2',ev⟩,λw H' y=>?_⟩
  obtain ⟨rfl,y⟩:=y
  have:=y vs (hs.seq e2')
  rw [ev] at this
  cases this
  exact ⟨Grow.refl hs,λσ Q k=>k [v] (.cons qv .nil)⟩
def zbo (lo:Int) (n:Nat):Ji:=(List.range n).map λ(i:Nat)=>lo+(i:Int)
theorem zaZ {lo:Int} {n:Nat}:(zbo lo n).length=n:=by simp [zbo]
theorem zcN {lo:Int} {n i:Nat} {x:Int} (h:(zbo lo n)[i]?=some x):i<n∧x=lo+i:=by
 unfold zbo at h
 rw [List.getElem?_map] at h
 by_cases z:i<n
 ·rw [List.getElem?_range z] at h
  exact ⟨z,(Option.some.inj h).symm⟩
 ·rw [List.getElem?_eq_none (by simp;omega)] at h;cases h
theorem zkB {lo:Int} {n:Nat} {x:Int}:x∈zbo lo n ↔ lo≤x∧x<lo+n:=by
 unfold zbo
 rw [List.mem_map]
 constructor
 ·rintro ⟨i,hi,rfl⟩;have:=List.mem_range.mp hi;omega
 ·intro h;exact ⟨(x-lo).toNat,List.mem_range.mpr (by omega),by omega⟩
theorem zrp {Hb F:Hp} {lo:Int} {n j:Nat}:zrD Hb F (Itr lo n) (zdz j) [j] (zbo lo n) (λx=>[dI x]) m:=λH hs =>
 ⟨by show n≤_;rw [zaZ];exact Nat.le_refl _,λi x ex=>by
  obtain ⟨hi,rfl⟩:=zcN ex
  refine ⟨hi,λv H' y=>?_⟩
  obtain ⟨rfl,rfl⟩:=y
  exact ⟨Grow.refl hs,λσ Q k=>k [_] (.cons rfl .nil)⟩⟩
theorem zeU {t:TE} {j:Nat} {n:Int} (h:Ev Γ t false (dI n)) (hn:-(2^62)≤n∧n<2^62):Iv Γ (zqq (zfM t zkA)) (zdz j) [j] (zbo 0 n.toNat) (λx=>[dI x]) m:=λF0 Hb F H σ own R a k =>
 h F0 Hb F H σ own _ a λu F1 H1 g1 q1=>⟨n,by rw [q1],hn.1,hn.2,k _ F1 H1 g1 zrp⟩
theorem zc2 {α β:Type} {xs:List α} {ys:List β} {i:Nat} {p:α×β} (h:(xs.zip ys)[i]?=some p):xs[i]?=some p.1∧ys[i]?=some p.2:=by
 rw [List.getElem?_zip_eq_some] at h;exact h
theorem zfy {ta tb:TE} {j1 j2:Nat} {xs:List γ} {ys:List δ} (f1:γ->Ds) (f2:δ->Ds) (h1:Ev Γ ta m (dQ K (xs.map f1))) (h2:Ev Γ tb m (dQ K (ys.map f2))) :
  Iv Γ (zsp K (zfM ta (zfM tb zkA))) (zqM K 2 (zhp (zdz j1) (zhp (zdz j2) zrU))) [j1,j2] (xs.zip ys) (λx=>[f1 x.1,f2 x.2]) m:=λF0 Hb F H σ own R a k =>
 h1 F0 Hb F H σ own _ a λu F1 H1 g1 ⟨p,vs,e1,e2,e3⟩=>h2 F0 Hb F1 H1 σ own _ (a.grow g1) λu' F2 H2 g2 ⟨q,ws,d1,d2,d3⟩=>by
  have e2':SqL K F2 p vs:=g2.f.seq (zbC.seq e2)
  have d2':SqL K F2 q ws:=zbC.seq d2
  have e3':=zdp (ds:=[]) (zbs (m:=m) (Hb:=Hb) g2.f) e3
  have le:=Paired.length e3
  have ld:=Paired.length d3
  rw [List.length_map] at le ld
  refine ⟨p,q,by rw [e1,d1],⟨vs,g2.fh.seq e2'⟩,⟨ws,g2.fh.seq d2'⟩,k _ F2 H2 (g1.trans g2) λH hs=>⟨⟨vs,ws,hs.seq e2',hs.seq d2',by rw [le,ld,List.length_zip];omega⟩,λi x ex=>?_⟩⟩
  obtain ⟨x1,x2⟩:=zc2 ex
  obtain ⟨v,ev,qv⟩:=zbb e3' (show (xs.map f1)[i]?=some (f1 x.1) by rw [List.getElem?_map,x1];rfl)
  obtain ⟨w,ew,qw⟩:=zbb d3 (show (ys.map f2)[i]?=some (f2 x.2) by rw [List.getElem?_map,x2];rfl)
  refine ⟨⟨vs,ws,v,w,hs.seq e2',hs.seq d2',ev,ew⟩,λz H' y=>?_⟩
  obtain ⟨r,x',y',rfl,hr,rfl,hxy⟩:=y
  obtain ⟨hx,hy⟩:=hxy vs ws (hs.seq e2') (hs.seq d2')
  rw [ev] at hx;rw [ew] at hy
  cases hx;cases hy
  exact ⟨(Grow.refl hs).newH hr,λσ Q k=>⟨r,_,rfl,.inl (.inl zaH),rfl,_,_,rfl,_,_,rfl,rfl,k [v,w] (.cons qv (.cons qw .nil))⟩⟩
def zrW:Option Slot->Slot
 | some (.va m d)=>.va m d
 | _=>.no
def zjo (own:Nat) (fv:List Nat) (Γ:Ctx):Ctx:=List.replicate own .no++fv.map λi=>zrW Γ[i]?
theorem At.block {F0 Hb F H:Hp} {own:Nat->Option Addr} {σ:St} (a:At F0 Hb F H σ own Γ) (k:Nat) (fv:List Nat):At F0 Hb F H (zg7 k fv σ) (λ_=>none) (zjo k fv Γ):=by
 refine ⟨a.g,λ_ _ _ h=>(by cases h),λ_ _ h=>(by cases h),λi s e=>?_,?_⟩
 ·unfold zjo at e
  unfold zg7
  by_cases hi:i<k
  ·rw [List.getElem?_append_left (by simpa using hi),List.getElem?_replicate,if_pos hi] at e
   cases e;trivial
  ·rw [List.getElem?_append_right (by simpa using hi),List.length_replicate,List.getElem?_map] at e
   rw [List.getElem?_append_right (by simpa using hi),List.length_replicate,List.getElem?_map]
   cases q:fv[i-k]? with
   | none=>rw [q] at e;cases e
   | some j =>
    rw [q] at e
    have e':zrW Γ[j]?=s:=Option.some.inj e
    subst e'
    show zfZ Hb F H (λ_=>none) _ ((σ[j]?).join) (zrW Γ[j]?)
    cases z:Γ[j]? with
    | none=>trivial
    | some r =>
     cases r with
     | no=>trivial
     | va m d=>exact (show zfZ Hb F H own j _ (.va m d) from a.sl j _ z)
     | ow m ds=>trivial
     | ob m C p dx fs=>trivial
     | ol p ds=>trivial
     | tl d=>trivial
 ·unfold zg7 zjo;simp
theorem zmz {k:Nat} {fv:List Nat} {j:Nat} {d:Ds} (e:(zjo k fv Γ)[j]?=some (.tl d)):False:=by
 unfold zjo at e
 have:=List.mem_of_getElem? e
 rcases List.mem_append.mp this with q | q
 ·cases (List.mem_replicate.mp q).2
 ·obtain ⟨l,_,q⟩:=List.mem_map.mp q
  unfold zrW at q
  split at q<;>cases q
theorem zku:EvT Γ zoa true:=λF0 Hb F H σ own Q a k=>k F H (Grow.refl a.fh)
theorem ziM {xs:List γ} {i:Nat} {x:γ} (h:xs[i]?=some x):xs.take (i+1)=xs.take i++[x]:=by
 rw [List.take_succ,h];rfl
theorem ziB {own:Nat} {fv:List Nat} {wi:TI} {tg:TG} {tt:TTs} {te:TE} {js:List Nat} {xs:List γ} {bds:γ->List Ds} {mi:Bool} {c:γ->Bool} {g:γ->Ds} (it:Iv Γ wi tg js xs bds mi) (hz:xs.length≤sizeLine) (hj:(∀ j∈js,j<own)∧js.Nodup)
  (ht:∀ (i:Nat) (x:γ),xs[i]?=some x->EvT (zm8 js (bds x) mi (zjo own fv Γ)) tt (c x)) (he:∀ (i:Nat) (x:γ),xs[i]?=some x->c x=true->Ev (zm8 js (bds x) mi (zjo own fv Γ)) te m (g x)):EvO Γ (zlS own fv wi tg tt te) m ((xs.filter c).map g):=λF0 Hb F H σ ow Q a k =>
 it F0 Hb F H σ ow _ a λJ F1 H1 g1 ok D hD=>by
  have hno:∀ j∈js,((zjo own fv Γ))[j]?=some .no:=λj hj'=>by
   have:=hj.1 j hj'
   unfold zjo
   rw [List.getElem?_append_left (by simpa using this),List.getElem?_replicate,if_pos this]
  obtain ⟨hD0,hDF,hDb⟩:=a.free g1 hD
  refine ⟨λi mm ys σb H2=>mm=xs.length-i∧i≤xs.length∧ys.length≤i∧∃ F2,Grow F1 H1 F2 H2∧F2 D=none∧H2 D=some (.lst ys)∧Paired (λv (d:Ds)=>d.pr (zfN m F2 Hb) v) ys (((xs.take i).filter c).map g)∧At F0 Hb F2 H2 σb (λ_=>none) (zjo own fv Γ),
   ⟨_,rfl,Nat.zero_le _,Nat.zero_le _,F1,((Grow.refl g1.fh)).newH hD,hDF,zaH,by simpa using Paired.nil,(((a.grow g1)).block own fv).grow (((Grow.refl g1.fh)).newH hD)⟩,?_⟩
  rintro i mm ys σb H2 ⟨rfl,hi,hy,F2,g2,hF2,hH2,hP,a2⟩
  refine ⟨hH2,?_⟩
  obtain ⟨hstop,hitem⟩:=ok.up g2.f H2 g2.fh
  by_cases hlt:i<xs.length
  ·obtain ⟨go,yl⟩:=hitem i xs[i] (List.getElem?_eq_getElem hlt)
   refine .inr ⟨go,λx H' y=>?_⟩
   obtain ⟨g3,bind⟩:=yl x H' y
   refine bind σb _ λvs hvs=>?_
   have a3:=(a2.grow g3).setMany (js:=js) hvs
   have hx:xs[i]?=some xs[i]:=List.getElem?_eq_getElem hlt
   refine ht i _ hx F0 Hb F2 H' _ _ _ a3 λF4 H4 g4=>?_
   have tk:=ziM hx
   have gD:∀ {F5 H5:Hp},Grow F2 H2 F5 H5->F5 D=none∧H5 D=some (.lst ys):=λg=>⟨g.no D (by rw [hH2];simp) hF2,g.h _ _ hH2⟩
   cases hc:c xs[i] with
   | true =>
    rw [if_pos rfl]
    refine he i _ hx hc F0 Hb F4 H4 _ _ _ (a3.grow g4) λv F5 H5 g5 q5=>?_
    have g25:=g3.trans (g4.trans g5)
    obtain ⟨n1,n2⟩:=gD g25
    have sD:Same H5 H5:=Same.refl _
    have n3:H1 D=none:=hD
    refine ⟨n2,by omega,xs.length-(i+1),by omega,rfl,hlt,by simp;omega,F5,?_,n1,zaH,?_,?_⟩
    ·exact (g2.trans g25).setH n1 n3
    ·rw [tk,List.filter_append,List.map_append]
     refine zcx (zdp (ds:=[]) (zbs g25.f) hP) ?_
     rw [List.filter_cons,hc]
     exact .cons q5 .nil
    ·have a5:=((a3.grow g4).grow g5).unsetMany hno hj.2
     refine ⟨a5.g.setH n1 hDb,a5.inj,λ_ _ h=>(nomatch h),λj s es=>?_,a5.len⟩
     ·have:=a5.sl j s es
      cases s with
      | no=>trivial
      | va m d=>exact this
      | ow m ds=>obtain ⟨_,_,_,h,_⟩:=this;exact (nomatch h)
      | ob m C p dx fs=>obtain ⟨_,_,h,_⟩:=this;exact (nomatch h)
      | ol p ds=>obtain ⟨_,_,h,_⟩:=this;exact (nomatch h)
      | tl d=>exact (zmz es).elim
   | false =>
    rw [if_neg Bool.false_ne_true]
    have g25:=g3.trans g4
    obtain ⟨n1,n2⟩:=gD g25
    refine ⟨xs.length-(i+1),by omega,rfl,hlt,by omega,F4,g2.trans g25,n1,n2,?_,(a3.grow g4).unsetMany hno hj.2⟩
    rw [tk,List.filter_append,List.map_append,List.filter_cons,hc]
    simpa using zdp (ds:=[]) (zbs g25.f) hP
  ·have e:i=xs.length:=by omega
   subst e
   rw [List.take_length] at hP
   exact .inl ⟨hstop,k D ys F2 H2 (g1.trans g2) hD0 hF2 hH2 hP⟩
theorem zb5 {own:Nat} {fv:List Nat} {wi:TI} {tg:TG} {te:TE} {js:List Nat} {xs:List γ} {bds:γ->List Ds} {mi:Bool} {g:γ->Ds} (it:Iv Γ wi tg js xs bds mi) (hz:xs.length≤sizeLine) (hj:(∀ j∈js,j<own)∧js.Nodup)
  (he:∀ (i:Nat) (x:γ),xs[i]?=some x->Ev (zm8 js (bds x) mi (zjo own fv Γ)) te m (g x)):EvO Γ (zlS own fv wi tg zoa te) m (xs.map g):=by
 have:=ziB (c:=λ_=>true) it hz hj (λ_ _ _=>zku) (λi x hx _=>he i x hx)
 rwa [show xs.filter (λ_=>true)=xs from List.filter_eq_self.mpr λ_ _=>rfl] at this
end
inductive Oc where
 | nx (Γ:Ctx)
 | rt (m:Bool) (d:Ds)
 | rl (m:Bool) (ds:List Ds)
 | bk (Γ:Ctx)
 | ct (Γ:Ctx)
 | ex (C:Addr) (Γ:Ctx)
 | rw (Γ:Ctx) (d:Ds)
def zgG (E:XS) (F0 Hb:Hp) (D:Ends):Oc->Prop
 | .ex C Γ=>∀ dct F H σ own,At F0 Hb F H σ own Γ->E σ (.ref C) dct H
 | .rw Γ d=>∀ v F H σ own,At F0 Hb F H σ own Γ->d.pr F v->D.rt v H
 | .nx Γ=>∀ F H σ own,At F0 Hb F H σ own Γ->D.nx σ H
 | .bk Γ=>∀ F H σ own,At F0 Hb F H σ own Γ->D.bk σ H
 | .ct Γ=>∀ F H σ own,At F0 Hb F H σ own Γ->D.ct σ H
 | .rt m d=>∀ v F H,Grow F0 Hb F H->d.pr (zfN m F Hb) v->D.rt v H
 | .rl m ds=>∀ p vs F H,Grow F0 Hb F H->Hb p=none->F p=none->H p=some (.lst vs)->Paired (λv (d:Ds)=>d.pr (zfN m F Hb) v) vs ds->D.rt (.ref p) H
def Run (E:XS) (Γ:Ctx) (t:TS) (o:Oc):Prop:=∀ (F0 Hb F H:Hp) (σ:St) (own:Nat->Option Addr) (D:Ends),At F0 Hb F H σ own Γ->zgG E F0 Hb D o->t D σ H
def Let {α:Type} {β:Type} (a:α) (k:α->β):β:=k a
def zbE {σ:Type} {γ:Type} {β:Type} (f:σ->γ->σ ⊕ β):σ->List γ->σ ⊕ β
 | s,[]=>.inl s
 | s,x :: xs=>match f s x with | .inl s'=>zbE f s' xs | .inr b=>.inr b
section
variable {E:XS} {Γ Δ:Ctx} {m:Bool} {K:W.Frag} {γ β:Type} {te:TE} {t u:TS} {d:Ds} {ds:List Ds} {o:Oc} {i:Nat}
theorem zat (w:Wk Γ Δ):Run E Γ znY (.nx Δ):=λF0 Hb F H σ own D a k=>k F H σ own (a.wk w)
theorem zaC (h:Ev Γ te m d):Run E Γ (znn te) (.rt m d):=λF0 Hb F H σ own D a k=>h F0 Hb F H σ own _ a λv F' H' g q=>k v F' H' (a.g.trans g) q
theorem zid (h:EvO Γ te m ds):Run E Γ (znn te) (.rl m ds):=λF0 Hb F H σ own D a k=>h F0 Hb F H σ own _ a λp vs F' H' g h1 h2 h3 q=>k p vs F' H' (a.g.trans g) (a.g.h.free h1) h2 h3 q
theorem zhY (e:Γ[i]?=some (.ow m ds)):Run E Γ (znn (zje i)) (.rl m ds):=λF0 Hb F H σ own D a k=>by
 obtain ⟨p,vs,e1,e2,e3,e4,e5,e6⟩:=a.sl i _ e
 have hi:i<σ.length:=by rw [a.len];exact ((List.getElem?_eq_some_iff.mp e)).1
 rw [List.getElem?_eq_getElem hi] at e1
 have e':σ[i]=some (.ref p):=e1
 exact ⟨_,by rw [List.getElem?_eq_getElem hi,e'],k p vs F H a.g e4 e3 e5 e6⟩
theorem zgQ (h:Run E Γ (znn te) o) (ho:∀ F0 Hb D D',D.rt=D'.rt->zgG E F0 Hb D o->zgG E F0 Hb D' o):Run E Γ (zeM (znn te) u) o:=λF0 Hb F H σ own D a k=>h F0 Hb F H σ own _ a (ho F0 Hb D { D with nx:=u D } rfl k)
theorem zak (h:Run E Γ (znn te) (.rt m d)):Run E Γ (zeM (znn te) u) (.rt m d):=zgQ h λ_ _ _ _ e q v F H g p=>e ▸ q v F H g p
theorem zen (h:Run E Γ (znn te) (.rl m ds)):Run E Γ (zeM (znn te) u) (.rl m ds):=zgQ h λ_ _ _ _ e q p vs F H g h1 h2 h3 h4=>e ▸ q p vs F H g h1 h2 h3 h4
theorem zbP (h:Ev Γ te m d) (k:Run E (Γ.set i (.va m d)) u o):Run E Γ (zeM (zkc te (zdz i)) u) o:=λF0 Hb F H σ own D a q =>
 h F0 Hb F H σ own _ a λv F' H' g p=>k F0 Hb F' H' _ own D (((a.grow g)).set i p) q
theorem zey (h:EvO Γ te m ds) (k:Run E (Γ.set i (.ow m ds)) u o):Run E Γ (zeM (zkc te (zdz i)) u) o:=λF0 Hb F H σ own D a q =>
 h F0 Hb F H σ own _ a λp vs F' H' g h1 h2 h3 h4=>k F0 Hb F' H' _ _ D (a.setOwn g i h1 h2 h3 h4) q
theorem zaq {α:Type} {x:α} (f:α->Ds) (fo:β->Oc) {kk:α->β} (h:Ev Γ te m (f x)) (k:∀ y,y=x->Run E (Γ.set i (.va m (f y))) u (fo (kk y))):Run E Γ (zeM (zkc te (zdz i)) u) (fo (Let x kk)):=zbP h (k x rfl)
theorem zez {α:Type} {x:α} (f:α->List Ds) (fo:β->Oc) {kk:α->β} (h:EvO Γ te m (f x)) (k:∀ y,y=x->Run E (Γ.set i (.ow m (f y))) u (fo (kk y))):Run E Γ (zeM (zkc te (zdz i)) u) (fo (Let x kk)):=zey h (k x rfl)
theorem zev (h:Ev Γ te m d) (k:Run E Γ u o):Run E Γ (zeM (zoc te) u) o:=λF0 Hb F H σ own D a q =>
 h F0 Hb F H σ own _ a λv F' H' g p=>k F0 Hb F' H' σ own D (a.grow g) q
theorem zcl (e:Γ[i]?=some (.ow m ds)) (k:Run E (Γ.set i (.va m (dL ds))) t o):Run E Γ t o:=λF0 Hb F H σ own D a q=>by
 obtain ⟨F',own',_,a'⟩:=a.share e
 exact k F0 Hb F' H σ own' D a' q
theorem zbc {α:Type} {tc:TT} {b:Bool} {x y:α} {r:TS} (fo:α->Oc) (h:EvT Γ tc b) (h1:b=true->Run E Γ (zeM t r) (fo x)) (h2:b=false->Run E Γ (zeM u r) (fo y)):Run E Γ (zeM (zqX tc t u) r) (fo (bif b then x else y)):=λF0 Hb F H σ own D a q =>
 h F0 Hb F H σ own _ a λF' H' g=>by
  cases b with
  | true=>rw [if_pos rfl];exact h1 rfl F0 Hb F' H' σ own D (a.grow g) q
  | false=>rw [if_neg Bool.false_ne_true];exact h2 rfl F0 Hb F' H' σ own D (a.grow g) q
theorem zjq {tc:TT} {r:TS} (h:EvT Γ tc true) (h1:Run E Γ (zeM t r) o):Run E Γ (zeM (zqX tc t u) r) o:=λF0 Hb F H σ own D a q=>h F0 Hb F H σ own _ a λF' H' g=>by
 rw [if_pos rfl];exact h1 F0 Hb F' H' σ own D (a.grow g) q
theorem zcu {tc:TT} {r:TS} (h:EvT Γ tc false) (h1:Run E Γ (zeM u r) o):Run E Γ (zeM (zqX tc t u) r) o:=λF0 Hb F H σ own D a q=>h F0 Hb F H σ own _ a λF' H' g=>by
 rw [if_neg Bool.false_ne_true];exact h1 F0 Hb F' H' σ own D (a.grow g) q
theorem zdi {tc:TT} {b:Bool} {r:TS} (G:Bool->Ctx) (h:EvT Γ tc b) (h1:b=true->Run E Γ t (.nx (G true))) (h2:b=false->Run E Γ u (.nx (G false))) (k:Run E (G b) r o):Run E Γ (zeM (zqX tc t u) r) o:=λF0 Hb F H σ own D a q =>
 h F0 Hb F H σ own _ a λF' H' g=>by
  cases b with
  | true=>rw [if_pos rfl];exact h1 rfl F0 Hb F' H' σ own _ (a.grow g) λF H σ own a'=>k F0 Hb F H σ own D a' q
  | false=>rw [if_neg Bool.false_ne_true];exact h2 rfl F0 Hb F' H' σ own _ (a.grow g) λF H σ own a'=>k F0 Hb F H σ own D a' q
theorem zaz (k:Run E Γ u o):Run E Γ (zeM znY u) o:=λF0 Hb F H σ own D a q=>k F0 Hb F H σ own D a q
theorem zmK {Δ:Ctx} (h:Run E Γ t (.nx Δ)) (k:Run E Δ u o):Run E Γ (zeM t u) o:=λF0 Hb F H σ own D a q=>h F0 Hb F H σ own _ a λF H σ own a'=>k F0 Hb F H σ own D a' q
theorem zaG {r:TS} (h:Run E Γ (zeM t (zeM u r)) o):Run E Γ (zeM (zeM t u) r) o:=λF0 Hb F H σ own D a q=>h F0 Hb F H σ own D a q
theorem zh3 {F0 Hb F H:Hp} {σ:St} {own:Nat->Option Addr} (a:At F0 Hb F H σ own Γ) (e:Γ[i]?=some (.ow m ds)) :
  ∃ p vs,σ[i]?=some (some (.ref p))∧own i=some p∧F p=none∧Hb p=none∧H p=some (.lst vs)∧Paired (λv (d:Ds)=>d.pr (zfN m F Hb) v) vs ds:=by
 obtain ⟨p,vs,e1,e2,e3,e4,e5,e6⟩:=a.sl i _ e
 have hi:i<σ.length:=by rw [a.len];exact ((List.getElem?_eq_some_iff.mp e)).1
 rw [List.getElem?_eq_getElem hi] at e1
 have e':σ[i]=some (.ref p):=e1
 exact ⟨p,vs,by rw [List.getElem?_eq_getElem hi,e'],e2,e3,e4,e5,e6⟩
theorem zlv {te:TE} (e:Γ[i]?=some (.ow m ds)) (h:Ev Γ te m d) (hz:ds.length<sizeLine) (k:Run E (Γ.set i (.ow m (ds++[d]))) u o):Run E Γ (zeM (zoc (tBM K "list" zif (zje i) (zfM te zkA))) u) o:=λF0 Hb F H σ own D a q=>by
 obtain ⟨p,vs,e1,e2,e3,e4,e5,e6⟩:=zh3 a e
 refine ⟨_,e1,.inl ⟨rfl,_,SqL.of e5⟩,?_⟩
 refine h F0 Hb F H σ own _ a λv F' H' g qv=>?_
 obtain ⟨p',vs',f1,f2,f3,f4,f5,f6⟩:=zh3 (a.grow g) e
 rw [e1] at f1
 cases f1
 exact ⟨p,vs',v,rfl,rfl,f5,by rw [Paired.length f6];exact hz,k F0 Hb F' _ σ own D (((a.grow g)).turn e e1 (zcx f6 (.cons qv .nil))) q⟩
theorem znx {tb:TE} {n:Bool} {j:Int} (e:Γ[i]?=some (.ow m ds)) (h2:Ev Γ tb false (dI j)) (ej:atI ds j=some d):Ev Γ (tOp (zqc K) (zje i) tb) m d:=λF0 Hb F H σ own Q a k=>by
 obtain ⟨p,vs,e1,e2,e3,e4,e5,e6⟩:=zh3 a e
 refine ⟨_,e1,h2 F0 Hb F H σ own _ a λv F' H' g qv=>?_⟩
 obtain ⟨x,ex,rx⟩:=zgc e6 ej
 exact ⟨p,vs,j,x,rfl,qv,SqL.of (g.h _ _ e5),ex,k x F' H' g (d.up (zbs g.f) rx)⟩
theorem znd {n:Bool} (e:Γ[i]?=some (.ow m ds)):Ev Γ (tCB (λxs H Q=>∃p ys,xs=[.ref p]∧(SqL K H p ys∨SqT K H p ys)∧Q (.int ys.length) H) (zfM (zje i) zkA)) n (dI ds.length):=λF0 Hb F H σ own Q a k=>by
 obtain ⟨p,vs,e1,e2,e3,e4,e5,e6⟩:=zh3 a e
 exact ⟨_,e1,p,vs,rfl,.inl (SqL.of e5),k _ F H (Grow.refl a.fh) (by show V.int _=_;rw [Paired.length e6])⟩
theorem zlN {te tj:TE} {j:Int} {n:Nat} (e:Γ[i]?=some (.ow m ds)) (h:Ev Γ te m d) (hj:Ev Γ tj false (dI j)) (ej:ixN ds.length j=some n) (k:Run E (Γ.set i (.ow m (ds.set n d))) u o):Run E Γ (zeM (zkc te (zqh (zje i) tj zmg)) u) o:=λF0 Hb F H σ own D a q=>by
 refine h F0 Hb F H σ own _ a λv F' H' g qv=>?_
 obtain ⟨p,vs,e1,e2,e3,e4,e5,e6⟩:=zh3 (a.grow g) e
 refine ⟨_,e1,hj F0 Hb F' H' σ own _ (a.grow g) λw F2 H2 g2 qw=>?_⟩
 obtain ⟨p',vs',f1,f2,f3,f4,f5,f6⟩:=zh3 (((a.grow g)).grow g2) e
 rw [e1] at f1
 cases f1
 exact ⟨p,vs',j,n,rfl,qw,f5,by rw [Paired.length f6];exact ej,k F0 Hb F2 _ σ own D ((((a.grow g)).grow g2).turn e e1 (zhO (R:=λv (d:Ds)=>d.pr (zfN m F2 Hb) v) (d.up (zbs g2.f) qv) n f6)) q⟩
theorem zhW {S:Type} (f:S->γ->S ⊕ β):∀ (xs:List γ) (s:S) (i:Nat) (s':S),zbE f s (xs.take i)=.inl s'->∀ x,xs[i]?=some x->zbE f s (xs.take (i+1))=f s' x
 | [],_,_,_,_,_,h=>by simp at h
 | y :: ys,s,0,s',e,x,h=>by
  simp at h;subst h
  have e':s=s':=by simpa [zbE] using e
  subst e'
  show zbE f s [y]=_
  simp only [zbE]
  cases f s y<;>rfl
 | y :: ys,s,i+1,s',e,x,h=>by
  simp only [List.take_succ_cons,zbE] at e ⊢
  cases q:f s y with
  | inl s1=>rw [q] at e;exact zhW f ys s1 i s' e x (by simpa using h)
  | inr b=>rw [q] at e;cases e
theorem zhM {S:Type} (f:S->γ->S ⊕ β):∀ (xs:List γ) (s:S) (i:Nat) (b:β),zbE f s (xs.take i)=.inr b->zbE f s xs=.inr b
 | [],s,i,b,e=>by simpa using e
 | y :: ys,s,0,b,e=>by simp [zbE] at e
 | y :: ys,s,i+1,b,e=>by
  simp only [List.take_succ_cons,zbE] at e ⊢
  cases q:f s y with
  | inl s1=>rw [q] at e;exact zhM f ys s1 i b e
  | inr b'=>rw [q] at e;exact e
def zf7 {S:Type} (G:S->Ctx) (res:β->Oc):S ⊕ β->Oc
 | .inl s=>.nx (G s)
 | .inr b=>res b
theorem Grow.rebase {F0 Hb F1 H1 F H:Hp} (g1:Grow F0 Hb F1 H1) (g:Grow F0 Hb F H) (e:Same F1 F):Grow F1 Hb F H :=
 ⟨e,g.fh,g.h,λa h1 h2=>g.no a h1 (g1.f.free h2)⟩
theorem Grow.unbase {F0 Hb F1 H1 F H:Hp} (g1:Grow F0 Hb F1 H1) (g:Grow F1 Hb F H):Grow F0 Hb F H :=
 ⟨g1.f.trans g.f,g.fh,g.h,λa h1 h2=>g.no a h1 (g1.no a h1 h2)⟩
theorem At.rebase {F0 Hb F1 H1 F H:Hp} {σ:St} {own:Nat->Option Addr} (g1:Grow F0 Hb F1 H1) (a:At F0 Hb F H σ own Γ) (e:Same F1 F):At F1 Hb F H σ own Γ:=⟨g1.rebase a.g e,a.inj,a.liv,a.sl,a.len⟩
theorem At.unbase {F0 Hb F1 H1 F H:Hp} {σ:St} {own:Nat->Option Addr} (g1:Grow F0 Hb F1 H1) (a:At F1 Hb F H σ own Γ):At F0 Hb F H σ own Γ:=⟨g1.unbase a.g,a.inj,a.liv,a.sl,a.len⟩
theorem zgG.rebase {F0 Hb F1 H1:Hp} {D:Ends} (g1:Grow F0 Hb F1 H1) (h:zgG E F0 Hb D o):zgG E F1 Hb D o:=by
 cases o with
 | nx Γ=>exact λF H σ own a=>h F H σ own (a.unbase g1)
 | bk Γ=>exact λF H σ own a=>h F H σ own (a.unbase g1)
 | ct Γ=>exact λF H σ own a=>h F H σ own (a.unbase g1)
 | rt m d=>exact λv F H g q=>h v F H (g1.unbase g) q
 | rl m ds=>exact λp vs F H g h1 h2 h3 q=>h p vs F H (g1.unbase g) h1 h2 h3 q
 | ex C Γ=>exact λdct F H σ own a=>h dct F H σ own (a.unbase g1)
 | rw Γ d=>exact λv F H σ own a q=>h v F H σ own (a.unbase g1) q
theorem zna {S:Type} {wi:TI} {g:TG} {tb:TS} {js:List Nat} {xs:List γ} {bds:γ->List Ds} {mi:Bool} {s0:S} (G:S->Ctx) (res:β->Oc) (f:S->γ->S ⊕ β) (I:Nat->S->Prop) (it:Iv Γ wi g js xs bds mi) (w:Wk Γ (G s0)) (h0:I 0 s0)
  (hres:∀ (b:β) (F0 Hb:Hp) (D D':Ends),D.rt=D'.rt->zgG E F0 Hb D (res b)->zgG E F0 Hb D' (res b))
  (body:∀ (i:Nat) (x:γ) (s:S),xs[i]?=some x->I i s->(∀s',f s x= .inl s'->I (i+1) s')∧Run E (zm8 js (bds x) mi (G s)) tb (zf7 G res (f s x))):Run E Γ (zq5 wi g tb) (zf7 G res (zbE f s0 xs)):=λF0 Hb F H σ own D a q =>
 it F0 Hb F H σ own _ a λJ F1 H1 g1 ok=>by
  have gb:Grow F0 Hb F1 H1:=a.g.trans g1
  refine ⟨λi mm σ H2=>mm=xs.length-i∧i≤xs.length∧∃ s F2 own2,zbE f s0 (xs.take i)=.inl s∧I i s∧At F1 Hb F2 H2 σ own2 (G s),⟨_,rfl,Nat.zero_le _,s0,F1,own,by simp [zbE],h0,(((a.grow g1)).wk w).rebase gb (Same.refl _)⟩,?_⟩
  rintro i mm σ2 H2 ⟨rfl,hi,s,F2,own2,es,hI,a2⟩
  obtain ⟨hstop,hitem⟩:=ok.up a2.g.f H2 a2.fh
  by_cases hlt:i<xs.length
  ·have hx:xs[i]?=some xs[i]:=List.getElem?_eq_getElem hlt
   obtain ⟨go,yl⟩:=hitem i xs[i] hx
   obtain ⟨hI',hb⟩:=body i _ s hx hI
   have tk:=zhW f xs s0 i s es _ hx
   refine .inr ⟨go,λσ' H'=>∃ s' F3 own3,f s xs[i]=.inl s'∧At F1 Hb F3 H' σ' own3 (G s'),λσ' H' ⟨s',F3,own3,e3,a3⟩=>⟨xs.length-(i+1),by omega,rfl,hlt,s',F3,own3,by rw [tk,e3],hI' s' e3,a3⟩,λx H' y=>?_⟩
   obtain ⟨g3,bind⟩:=yl x H' y
   refine bind σ2 _ λvs hvs=>?_
   have a3:=(a2.grow g3).setMany (js:=js) hvs
   refine hb F1 Hb F2 H' _ own2 _ a3 ?_
   cases e3:f s xs[i] with
   | inl s'=>exact λF3 H3 σ3 own3 a4=>⟨s',F3,own3,rfl,a4⟩
   | inr b =>
    have:=zhM f xs s0 (i+1) b (by rw [tk,e3])
    rw [this] at q
    exact hres b F1 Hb D _ rfl (zgG.rebase (o:=res b) gb q)
  ·have e:i=xs.length:=by omega
   subst e
   rw [List.take_length] at es
   rw [es] at q
   exact .inl ⟨hstop,q F2 H2 σ2 own2 (a2.unbase gb)⟩
end
end L2
namespace L2
open PySem PySem.Spec PyProof.Rows
structure EqD {α:Type} [DecidableEq α] (K:W.Frag) (f:α->Ds) (n:Nat):Prop where
 eq:∀ H x y v w,(f x).pr H v->(f y).pr H w->EqV K H n v w (decide (x=y))
 inj:∀ H x y v,(f x).pr H v->(f y).pr H v->x=y
theorem EqD.int {K:W.Frag} {n:Nat}:EqD K dI n:=⟨λH x y v w h1 h2=>by
 cases h1;cases h2
 have:decide (x=y)=eqV (.int x) (.int y):=Bool.eq_iff_iff.mpr (by unfold eqV;simp)
 rw [this];exact .flat rfl rfl,λH x y v h1 h2=>by cases h1;cases h2;rfl⟩
theorem EqD.bool {K:W.Frag} {n:Nat}:EqD K dB n:=⟨λH x y v w h1 h2=>by
 cases h1;cases h2
 have:decide (x=y)=eqV (.bl x) (.bl y):=by cases x<;>cases y<;>rfl
 rw [this];exact .flat rfl rfl,λH x y v h1 h2=>by cases h1;cases h2;rfl⟩
theorem EqD.str {K:W.Frag} {n:Nat}:EqD K dS n:=⟨λH x y v w h1 h2=>by
 cases h1;cases h2
 have:decide (x=y)=eqV (.str x) (.str y):=Bool.eq_iff_iff.mpr (by unfold eqV;simp)
 rw [this];exact .flat rfl rfl,λH x y v h1 h2=>by cases h1;cases h2;rfl⟩
theorem zp5 {α:Type} [DecidableEq α] {xs ys:List α} (h:xs.length=ys.length):(((List.range xs.length)).all λj=>decide (xs[j]? =ys[j]?))=decide (xs=ys):=by
 by_cases e:xs=ys
 ·subst e;simp
 ·rw [decide_eq_false e]
  by_cases z:(((List.range xs.length)).all λj=>decide (xs[j]? =ys[j]?))=true
  ·exfalso
   apply e
   rw [List.all_eq_true] at z
   refine List.ext_getElem? λj=>?_
   by_cases hj:j<xs.length
   ·simpa using z j (List.mem_range.mpr hj)
   ·rw [List.getElem?_eq_none (by omega),List.getElem?_eq_none (by omega)]
  ·simpa using z
theorem znH {α:Type} [DecidableEq α] {K:W.Frag} {f:α->Ds} {n:Nat} (E:EqD K f n) {H:Hp} {xs ys:List α} {vs ws:List V} (h1:Paired (λv (d:Ds)=>d.pr H v) vs (xs.map f)) (h2:Paired (λv (d:Ds)=>d.pr H v) ws (ys.map f)) (hl:xs.length=ys.length) :
  ∀ (j:Nat) (x y:V),vs[j]?=some x->ws[j]?=some y->EqV K H n x y (decide (xs[j]?=ys[j]?)):=λj x y e1 e2=>by
 have l1:=Paired.length h1
 have l2:=Paired.length h2
 rw [List.length_map] at l1 l2
 have hj:j<vs.length:=(List.getElem?_eq_some_iff.mp e1).1
 have q1:xs[j]?=some (xs[j]' (by omega)):=List.getElem?_eq_getElem (by omega)
 have q2:ys[j]?=some (ys[j]' (by omega)):=List.getElem?_eq_getElem (by omega)
 obtain ⟨v,ev,rv⟩:=zbb h1 (show ((xs.map f))[j]?=some (f (xs[j]' (by omega))) by rw [List.getElem?_map,q1];rfl)
 obtain ⟨w,ew,rw'⟩:=zbb h2 (show (ys.map f)[j]?=some (f (ys[j]' (by omega))) by rw [List.getElem?_map,q2];rfl)
 rw [e1] at ev;rw [e2] at ew
 cases ev;cases ew
 have:=E.eq H _ _ _ _ rv rw'
 rw [q1,q2]
 simpa using this
theorem zoj {α:Type} [DecidableEq α] {K:W.Frag} {f:α->Ds} {n:Nat} (E:EqD K f n) {Γ:Ctx} {ta tb:TE} {m neg:Bool} {xs ys:List α} (h1:Ev Γ ta false (dQ K (xs.map f))) (h2:Ev Γ tb false (dQ K (ys.map f))) (hn:n≤50:=by decide) :
  Ev Γ (tOp (zo9 K neg) ta tb) m (dB (bif neg then !decide (xs=ys) else decide (xs=ys))):=λF0 Hb F H σ own Q a k =>
 h1 F0 Hb F H σ own _ a λu F1 H1 g1 ⟨p,vs,e1,e2,e3⟩=>h2 F0 Hb F1 H1 σ own _ (a.grow g1) λu' F2 H2 g2 ⟨q,ws,d1,d2,d3⟩=>by
  have e2':SqL K H2 p vs:=(g1.fh.trans g2.h).seq e2
  have d2':SqL K H2 q ws:=g2.fh.seq d2
  have e3':=zdp (ds:=[]) (g1.fh.trans g2.h) e3
  have d3':=zdp (ds:=[]) g2.fh d3
  have l1:=Paired.length e3'
  have l2:=Paired.length d3'
  rw [List.length_map] at l1 l2
  refine ⟨p,q,n,vs,ws,e1,d1,e2',d2',hn,?_⟩
  by_cases hl:xs.length=ys.length
  ·refine .inr ⟨_,by omega,znH E e3' d3' hl,k _ F2 H2 (g1.trans g2) ?_⟩
   rw [l1,zp5 hl]
   cases neg<;>rfl
  ·refine .inl ⟨by omega,k _ F2 H2 (g1.trans g2) ?_⟩
   rw [show decide (xs=ys)=false from decide_eq_false λz=>hl (by rw [z])]
   cases neg<;>rfl
def zgU (N:List Str) (ds:List Ds):Ctx:=ds.map (.va false)++List.replicate (N.length-ds.length) .no
def zsR (n:Nat):Rs->Oc
 | .va m d=>.rt m d
 | .ow m ds=>.rl m ds
 | .ex C=>.ex C (List.replicate n .no)
theorem zkp {F H:Hp} {N:List Str} {vs:List V} {ds:List Ds} (hF:Same F H) (hv:Paired (λv (d:Ds)=>d.pr F v) vs ds):At F H F H (start N vs) (λ_=>none) (zgU N ds):=by
 have hl:=Paired.length hv
 refine ⟨Grow.refl hF,λ_ _ _ h=>(nomatch h),λ_ _ h=>(nomatch h),λi s e=>?_,by unfold start zgU;simp [hl]⟩
 unfold zgU at e
 unfold start
 by_cases hi:i<ds.length
 ·rw [List.getElem?_append_left (by simpa using hi),List.getElem?_map] at e
  rw [List.getElem?_append_left (by simpa [hl] using hi),List.getElem?_map]
  obtain ⟨v,ev,rv⟩:=zbb hv (List.getElem?_eq_getElem hi)
  rw [List.getElem?_eq_getElem hi] at e
  have e':Slot.va false ds[i]=s:=Option.some.inj e
  subst e'
  exact ⟨v,by rw [ev];rfl,rv⟩
 ·rw [List.getElem?_append_right (by simpa using hi),List.getElem?_replicate] at e
  split at e
  ·cases e;trivial
  ·cases e
def zpM (H F:Hp) (Q:VK) (E:XK):Rs->Prop
 | .ex C=>∀ dct F' H',Grow F H F' H'->E (.ref C) dct H'
 | .va m d=>∀ v F' H',Grow F H F' H'->d.pr (zfN m F' H) v->Q v H'
 | .ow m ds=>∀ p ws F' H',Grow F H F' H'->H p=none->F' p=none->H' p=some (.lst ws)->Paired (λv (d:Ds)=>d.pr (zfN m F' H) v) ws ds->Q (.ref p) H'
theorem zpF {E:XK} {F H:Hp} {N:List Str} {vs:List V} {ds:List Ds} {Q:VK} {t:TS} {r:Rs} (hF:Same F H) (hv:Paired (λv (d:Ds)=>d.pr F v) vs ds) (hq:zpM H F Q E r) (h:Run (λ_=>E) (zgU N ds) t (zsR N.length r)):t { nx:=λ_ H'=>Q .non H',rt:=Q } (start N vs) H:=by
 refine h F H F H _ _ _ (zkp hF hv) ?_
 cases r with
 | va m d=>exact λv F' H' g q=>hq v F' H' g q
 | ow m ds=>exact λp ws F' H' g h1 h2 h3 q=>hq p ws F' H' g h1 h2 h3 q
 | ex C=>exact λdct F' H' σ own a=>hq dct F' H' a.g
theorem znF {E:XK} {F H:Hp} {N:List Str} {vs:List V} {ds:List Ds} {Q:VK} {t:TS} {m:Bool} {Δ:Ctx} (hF:Same F H) (hv:Paired (λv (d:Ds)=>d.pr F v) vs ds) (hq:zpM H F Q E (.va m dN)) (h:Run (λ_=>E) (zgU N ds) t (.nx Δ)):t { nx:=λ_ H'=>Q .non H',rt:=Q } (start N vs) H :=
 h F H F H _ _ _ (zkp hF hv) λF' H' σ own a=>hq _ F' H' a.g rfl
section
variable {P:Program} {w:World} {K:W.Frag} {mg:Str->Option Value} {base:Heap} {x qual:Str} {st:Stmt} {f:Addr} {fd:FuncData} {N ps:List Str} {k:Nat}
theorem Fun.okV {ι:Type} {args:ι->List Ds} {pre:ι->Prop} {res:ι->Rs} (F:Fun K x qual st f fd) (S:FnScope N ps (zad st)) (hl:∀ i,(args i).length=ps.length)
  (hbody:∀ (cdv:Value) (A:Around) (outer:List Env) (s:Shared) (H:Hp) (E:XK) (i:ι),Room k (A.deeper (envOfC qual (zad st) s.heap.objs.size f cdv))->pre i →
   ∃ t,PSs ((zng (CXE P w) P w K mg base N qual (zad st) f cdv A outer s H E)).nox (zaw st) t∧(Run (λ_=>E) (zgU N (args i)) t (zsR N.length (res i))∨∃ m Δ,res i=.va m dN∧Run (λ_=>E) (zgU N (args i)) t (.nx Δ))):FnOk P w K mg base (CXE P w) (k+1) f fd ps (Spv args pre res):=by
 refine F.okX S (λvs H Q E ⟨i,F',_,hv,_⟩=>by rw [Paired.length hv];exact hl i) λcdv A outer s H vs Q E hr ⟨i,F',hF,hv,hp,hq⟩=>?_
 obtain ⟨t,h1,h2⟩:=hbody cdv A outer s H E i hr hp
 have hq':zpM H F' Q E (res i):=by
  cases e:res i with
  | va m d=>rw [e] at hq;exact hq
  | ow m ds=>rw [e] at hq;exact hq
  | ex C=>rw [e] at hq;exact hq
 refine ⟨_,ziT h1,?_⟩
 rcases h2 with h2 | ⟨m,Δ,e,h2⟩
 ·exact zpF hF hv hq' h2
 ·rw [e] at hq'
  exact znF hF hv hq' h2
end
def putD (f:Str) (d:Ds):List (Str×Ds)->List (Str×Ds)
 | []=>[(f,d)]
 | (g,x) :: r=>if g=f then (g,d) :: r else (g,x) :: putD f d r
theorem zh2 {R:V->Ds->Prop} {f:Str} {v:V} {d:Ds} (h:R v d):∀ {vs:List (Str×V)} {fs:List (Str×Ds)},Paired (λ(a:Str×V) (b:Str×Ds)=>a.1=b.1∧R a.2 b.2) vs fs->Paired (λ(a:Str×V) (b:Str×Ds)=>a.1=b.1∧R a.2 b.2) (putF f v vs) (putD f d fs)
 | _,_,.nil=>.cons ⟨rfl,h⟩ .nil
 | _,_,.cons (a:=(x,u)) (b:=(y,e)) ⟨h1,h2⟩ t=>by
  have h1:x=y:=h1
  subst h1
  unfold putF putD
  split
  ·exact .cons ⟨rfl,h⟩ t
  ·exact .cons ⟨rfl,h2⟩ (zh2 h t)
theorem zpD {Γ:Ctx} {i:Nat} {m:Bool} {C p dx:Addr} {fs:List (Str×Ds)} {K:W.Frag} {tv:TE} {d:Ds} {f:Str} {u:TS} {o:Oc} {E:XS} (e:Γ[i]?=some (.ob m C p dx fs)) (h:Ev Γ tv m d) (c:Cls K C) (nf:NoAttr K C f) (hz:fs.length<1000) (k:Run E (Γ.set i (.ob m C p dx (putD f d fs))) u o):Run E Γ (zeM (zsB K (zje i) tv f) u) o:=λF0 Hb F H σ own D a q=>by
 refine h F0 Hb F H σ own _ a λv F' H' g qv=>?_
 have a':=a.grow g
 obtain ⟨vs,e1,e2,e3,e4,e5,e6⟩:=a'.sl i _ e
 have hi:i<σ.length:=by rw [a.len];exact ((List.getElem?_eq_some_iff.mp e)).1
 rw [List.getElem?_eq_getElem hi] at e1
 have e':σ[i]=some (.ref p):=e1
 have ei:σ[i]?=some (some (.ref p)):=by rw [List.getElem?_eq_getElem hi,e']
 exact ⟨_,ei,p,C,dx,vs,rfl,e5.1,c,nf,by rw [Paired.length e6];exact hz,k F0 Hb F' _ σ own D (a'.turnOb e (zh2 (R:=λv (d:Ds)=>d.pr (zfN m F' Hb) v) qv e6)) q⟩
def zrP {ι:Type} (C:Addr) (args:ι->List Ds) (pre:ι->Prop) (m:Bool) (fs:ι->List (Str×Ds)):Sp:=λvs H Q _=>∃ (i:ι) (p dx:Addr) (ws:List V) (H1 F:Hp),vs=.ref p :: ws∧H1 p=none∧H1 dx=none∧dx≠p∧H=upd (upd H1 dx (.own p)) p (.ins C dx [])∧Same F H1 ∧
 Paired (λv (d:Ds)=>d.pr F v) ws (args i)∧pre i∧∀ us F' H',Grow F H1 F' H'->F' p=none->F' dx=none->H' p=some (.ins C dx us)->H' dx=some (.own p)->Paired (λ(a:Str×V) (b:Str×Ds)=>a.1=b.1∧b.2.pr (zfN m F' H1) a.2) us (fs i)->Q .non H'
def zmJ (m:Bool) (C p dx:Addr) (N:List Str) (ds:List Ds):Ctx:=.ob m C p dx [] :: (ds.map (.va false)++List.replicate (N.length-(ds.length+1)) .no)
section
variable {P:Program} {w:World} {K:W.Frag} {mg:Str->Option Value} {base:Heap} {x qual:Str} {st:Stmt} {f:Addr} {fd:FuncData} {N ps:List Str} {k:Nat}
theorem zmA {m:Bool} {F H1:Hp} {C p dx:Addr} {N:List Str} {ws:List V} {ds:List Ds} (hF:Same F H1) (hv:Paired (λv (d:Ds)=>d.pr F v) ws ds) (h1:H1 p=none) (h2:H1 dx=none) (h3:dx≠p) :
  At F H1 F (upd (upd H1 dx (.own p)) p (.ins C dx [])) (start N (.ref p :: ws)) (λi=>if i=0 then some p else none) (zmJ m C p dx N ds):=by
 have hl:=Paired.length hv
 have n1:upd H1 dx (.own p) p=none:=by rw [zay (Ne.symm h3)];exact h1
 have g:Grow F H1 F (upd (upd H1 dx (.own p)) p (.ins C dx [])):=((Grow.refl hF).newH h2).newH n1
 refine ⟨g,λi j q e1 e2=>?_,λi q e=>?_,λi s e=>?_,?_⟩
 ·split at e1
  ·split at e2
   ·omega
   ·cases e2
  ·cases e1
 ·split at e
  ·cases e;rw [zaH];simp
  ·cases e
 ·cases i with
  | zero =>
   have e':Slot.ob m C p dx []=s:=Option.some.inj e
   subst e'
   exact ⟨[],rfl,rfl,⟨hF.free h1,hF.free h2⟩,⟨h1,h2⟩,⟨zaH,by rw [zay h3];exact zaH⟩,.nil⟩
  | succ i =>
   have e:(ds.map (Slot.va false)++List.replicate (N.length-(ds.length+1)) Slot.no)[i]?=some s:=e
   show zfZ H1 F _ _ _ ((ws.map some++List.replicate (N.length-(ws.length+1)) none)[i]?).join s
   by_cases hi:i<ds.length
   ·rw [List.getElem?_append_left (by simpa using hi),List.getElem?_map] at e
    rw [List.getElem?_append_left (by simpa [hl] using hi),List.getElem?_map]
    obtain ⟨v,ev,rv⟩:=zbb hv (List.getElem?_eq_getElem hi)
    rw [List.getElem?_eq_getElem hi] at e
    have e':Slot.va false ds[i]=s:=Option.some.inj e
    subst e'
    exact ⟨v,by rw [ev];rfl,rv⟩
   ·rw [List.getElem?_append_right (by simpa using hi),List.getElem?_replicate] at e
    split at e
    ·cases e;trivial
    ·cases e
 ·unfold start zmJ;simp [hl]
theorem Fun.okI {ι:Type} {C:Addr} {args:ι->List Ds} {pre:ι->Prop} {m:Bool} {fs:ι->List (Str×Ds)} (F:Fun K x qual st f fd) (S:FnScope N ps (zad st)) (hl:∀ i,(args i).length+1=ps.length)
  (hbody:∀ (cdv:Value) (A:Around) (outer:List Env) (s:Shared) (H:Hp) (E:XK) (i:ι),Room k (A.deeper (envOfC qual (zad st) s.heap.objs.size f cdv))->pre i →
   ∃ t,PSs ((zng (CXE P w) P w K mg base N qual (zad st) f cdv A outer s H E)).nox (zaw st) t∧∀ p dx,∃ Δ,Run (λ_=>E) (zmJ m C p dx N (args i)) t (.nx Δ)∧Δ[0]?=some (.ob m C p dx (fs i))):FnOk P w K mg base (CXE P w) (k+1) f fd ps (zrP C args pre m fs):=by
 refine F.okX S (λvs H Q E ⟨i,p,dx,ws,H1,F',e,_,_,_,_,_,hv,_⟩=>by rw [e,List.length_cons,Paired.length hv];exact hl i) λcdv A outer s H vs Q E hr ⟨i,p,dx,ws,H1,F',e,h1,h2,h3,h4,hF,hv,hp,hq⟩=>?_
 subst e h4
 obtain ⟨t,t1,t2⟩:=hbody cdv A outer s _ E i hr hp
 obtain ⟨Δ,t2,t3⟩:=t2 p dx
 refine ⟨_,ziT t1,?_⟩
 refine t2 F' H1 F' _ _ _ _ (zmA hF hv h1 h2 h3) λF2 H2 σ2 own2 a2=>?_
 obtain ⟨us,e1,e2,e3,e4,e5,e6⟩:=a2.sl 0 _ t3
 exact hq us F2 H2 a2.g e3.1 e3.2 e5.1 e5.2 e6
end
section
variable {Γ:Ctx} {K:W.Frag} {ds:List Ds} {tr:TA} {E:XK}
theorem zlY {ι:Type} {C:Addr} {args:ι->List Ds} {pre:ι->Prop} {m:Bool} {fs:ι->List (Str×Ds)} (i:ι) (h:EvA Γ tr false ds) (ha:ds=args i) (hp:pre i):Ev Γ (zpi C (zrP C args pre m fs) [] E tr) m (dO C (fs i)):=λF0 Hb F H σ own Q a k=>by
 subst ha
 refine h F0 Hb F H σ own _ a λvs F1 H1 g1 q1 p dx h1 h2 h3=>⟨i,p,dx,vs,H1,F1,by rw [List.append_nil],h1,h2,h3,rfl,g1.fh,q1,hp,λus F' H' g n1 n2 e1 e2 e3=>⟨rfl,?_⟩⟩
 have g2:=g1.trans g
 obtain ⟨p0,_,pb⟩:=a.free g1 h1
 obtain ⟨d0,_,db⟩:=a.free g1 h2
 have g3:=(g2.take p0 e1).take d0 e2
 have s1:Same F' (upd F' p (.ins C dx us)):=Same.new n1 _
 have n3:upd F' p (.ins C dx us) dx=none:=by rw [zay h3];exact n2
 have s2:Same F' (upd (upd F' p (.ins C dx us)) dx (.own p)):=s1.trans (Same.new n3 _)
 refine k _ _ _ g3 ⟨p,dx,us,rfl,zex pb (by rw [zay (Ne.symm h3)];exact zaH),zex db zaH,?_⟩
 exact zcd (λ_ b q=>⟨q.1,b.2.up (((ziw (a.g.h.trans g1.h))).trans (zbs s2)) q.2⟩) e3
end
end L2
namespace L2
open PySem PySem.Spec PyProof.Rows
def Ite (K:W.Frag) (a:Addr):It :=
 ⟨λi H=>∃ xs x,SqL K H a xs∧xs[i]?=some x,
  λi H v H'=>∃ p x,v=.ref p∧H p=none∧H'=upd H p (.tup [.int (i:Int),x])∧∀ xs,SqL K H a xs->xs[i]?=some x,
  λi H=>∃ xs,SqL K H a xs∧xs.length≤i⟩
theorem zmc {P:Program} {w:World} {K:W.Frag} {elts:List Expr} {x1:Nat} {tp:Pos} {a e it:Addr} (hne:e≠it) :
  Turn P w K (.Tuple elts x1 tp) (Ite K a) [e,it] e (λi h=>(∃ old,IsEnum h e it (i:Int) old)∧h.IsListIter it a i) where
 mem:=by simp
 obj:=λi h st c hc=>by
  obtain ⟨⟨old,he⟩,⟨o1,e1,_,d1⟩⟩:=st
  simp only [List.mem_cons,List.not_mem_nil,or_false] at hc
  rcases hc with rfl | rfl
  ·exact ⟨_,he,λv z=>by cases z⟩
  ·exact ⟨o1,e1,λv z=>by rw [d1] at z;cases z⟩
 keep:=λi h h' st k=>by
  obtain ⟨⟨old,he⟩,h1⟩:=st
  exact ⟨⟨old,k e (by simp) _ he⟩,h1.at λo q=>k it (by simp) o q⟩
 item:=by
  intro X hP hw hK hc i pins s σ H E I hf st hg
  subst hP hw hK
  obtain ⟨xs,x,hxs,hx⟩:=hg
  obtain ⟨itx,rx,px,hzx⟩:=I.list hxs
  obtain ⟨u,hu,ru⟩:=rx.get hx
  obtain ⟨⟨old,he⟩,h1⟩:=st
  refine wpAny_pyNext_enum_item (x:=u) he h1 px.isList (by simpa using hu) hne λh' a1 a2 a3 a4 hk=>?_
  refine ⟨_,rfl,wpAny_letOwnedTupleGo_enum a1 λh'' b1 b2=>?_⟩
  have elt:e<s.heap.objs.size:=Heap.lt_size he
  have itl:it<s.heap.objs.size:=by obtain ⟨_,q,_⟩:=h1;exact Heap.lt_size q
  have tup:h''.get? s.heap.objs.size=some { cls:=.type "tuple",data:=.seq #[.int i s.toks,u] }:=b2.extBut _ _ (Nat.ne_of_gt elt) a3
  have I1:Inv X pins σ (upd H s.heap.objs.size (.tup [.int (i:Int),x])) { s with heap:=h'',toks:=s.toks+1 }:=by
   refine I.turnedNew (t':=s.toks+1) (ch:=[e,it]) (λc hc=>hf c hc) (λc ob hc q=>?_) (Nat.le_refl _) ?_
   ·simp only [List.mem_cons,List.not_mem_nil,or_false,not_or] at hc
    exact b2.extBut _ _ hc.1 (hk c ob hc.1 hc.2 q)
   ·exact ⟨by show 2≤sizeLine;decide,[.int i s.toks,u],.cons ⟨_,rfl⟩ (.cons ru .nil),⟨_,tup,rfl,_,rfl⟩⟩
  refine ⟨.ref s.heap.objs.size,_,I1,rfl,⟨_,x,rfl,I.hok.fresh (Nat.le_refl _),rfl,λxs' q1=>?_⟩,⟨⟨u,?_⟩,a2.extBut b2.extBut (Ne.symm hne)⟩,λc hc=>?_⟩
  ·rw [I.list_inj q1 hxs];exact hx
  ·exact b1
  ·have:c≠s.heap.objs.size:=by
    simp only [List.mem_cons,List.not_mem_nil,or_false] at hc
    rcases hc with rfl | rfl
    ·exact Nat.ne_of_lt elt
    ·exact Nat.ne_of_lt itl
   rw [zay this];exact (hf c hc).1
 done:=by
  intro X hP hw hK hc i pins s σ H E I hf st hg
  subst hP hw hK
  obtain ⟨xs,hxs,hend⟩:=hg
  obtain ⟨itx,rx,px,hzx⟩:=I.list hxs
  obtain ⟨⟨old,he⟩,h1⟩:=st
  have lx:=rx.length
  refine wpAny_pyNext_enum_end (I.ok.hd hc) he h1 px.isList (by simp;omega) λh' hk=>⟨rfl,?_⟩
  refine I.turnedL (t':=s.toks) (ch:=[e,it]) (λc hc=>hf c hc) (λc ob hc q=>?_)
  simp only [List.mem_cons,List.not_mem_nil,or_false,not_or] at hc
  exact hk c ob hc.2 q
 self:=λ_ _ _ _ _ st h=>by obtain ⟨⟨old,he⟩,_⟩:=st;exact wpAny_pyIter_enum he h
section
variable {X:Cx} {K:W.Frag}
def zq3 (K:W.Frag) (ta:TA):TI:=λσ H R=>ta σ H λvs H1=>∃ a,vs=[.ref a]∧(∃xs,SqL K H1 a xs)∧R (Ite K a) H1
theorem zgr {a:Expr} {ta:TA} {p pos tp:Pos} {elts:List Expr} {x1:Nat} (hK:X.K=K) (hg:Gl X "enumerate") (hm:X.mg "enumerate"=none) (ha:PA X [a] ta) (hs:starEach [a] X.env=[(false,eval a X.env)]:=by rfl) :
  PI X (.Tuple elts x1 tp) (.Call (.Name "enumerate" p) [a] [] pos) (zq3 K ta):=by
 subst hK
 intro pins s σ H R I h
 refine Call_ (zhT I hg hm boot_enumerate (PyProof.Rows.callWith_type1 (thn (ha pos pins s σ H _ I h) λus s1 ⟨vs,H1,I1,r1,q1⟩=> ?_) (by rw [hs];rfl) rfl))
 obtain ⟨l,e,⟨xs,hx⟩,q⟩:=q1
 subst e
 cases r1 with
 | cons r rr =>
  cases rr
  cases r
  obtain ⟨itx,rx,px,hzx⟩:=I1.list hx
  refine call_enumerate_list px.isList λh' he h1 hsz hk=>wpAny_pyIter_enum he ?_
  have hne:(s1.heap.objs.size+1:Nat)≠s1.heap.objs.size:=by omega
  refine ⟨s1.heap.objs.size+1,[s1.heap.objs.size+1,s1.heap.objs.size],_,Ite X.K l,H1,rfl,I1.kept (t':=s1.toks) hk,zmc hne,⟨⟨_,he⟩,h1⟩,λc hc=>?_,q⟩
  have hle:@LE.le Nat _ s1.heap.objs.size c:=by
   simp only [List.mem_cons,List.not_mem_nil,or_false] at hc
   rcases hc with rfl | rfl<;>omega
  exact I1.fpOk hle (I1.hok.fresh hle)
end
def Itv (K:W.Frag) (a:Addr) (n:Nat):It :=
 ⟨λi H=>i<n∧∃ xs x,SqL K H a xs∧xs.length=n∧xs[n-1-i]?=some x,λi H x H'=>H'=H∧∀ xs,SqL K H a xs->xs[n-1-i]?=some x,λi _=>i=n⟩
theorem znW {P:Program} {w:World} {K:W.Frag} {tg:Expr} (a it:Addr) (n:Nat):Turn P w K tg (Itv K a n) [it] it (λi h=>h.IsRevIter it a ((n:Int)-1-(i:Int))) where
 mem:=by simp
 obj:=λi h st b hb=>by
  have e:b=it:=by simpa using hb
  subst e
  obtain ⟨o,e,c,d⟩:=st
  exact ⟨o,e,λv z=>by rw [d] at z;cases z⟩
 keep:=λi h h' st k=>st.at λo e=>k it (by simp) o e
 item:=by
  intro X hP hw hK hc i pins s σ H E I hf st hg
  subst hP hw hK
  obtain ⟨hi,xs,x,hq,hn,hx⟩:=hg
  obtain ⟨its,rv,p,hz⟩:=I.list hq
  obtain ⟨u,hu,ru⟩:=rv.get hx
  obtain ⟨f0,f1,f2,f3,f4,f5⟩:=hf it (by simp)
  have e1:(n:Int)-1-(i:Int)=((n-1-i:Nat):Int):=by omega
  have e2:((n-1-i:Nat):Int)-1=(n:Int)-1-((i+1:Nat):Int):=by omega
  rw [e1] at st
  refine wpAny_pyNext_rev_item st p.isList (x:=u) (by simpa using hu) λh' st' sb=>?_
  rw [e2] at st'
  have I1:Inv X pins σ H { s with heap:=h' }:=I.turned (t':=s.toks) (λb o hb e=>(sb.2 b hb).trans e) f0 f1 f3 f4 f5
  obtain ⟨o,e,c,d⟩:=id st'
  exact ⟨u,rfl,zpP (s:= {s with heap:=h'}) e c d (by decide) ⟨x,H,I1,ru,⟨rfl,λys hy=>by rw [I.list_inj hy hq];exact hx⟩,st',λb hb=>(hf b hb).1⟩⟩
 done:=by
  intro X hP hw hK hc i pins s σ H E I hf st hg
  subst hP hw hK
  have hg:i=n:=hg
  subst hg
  obtain ⟨f0,f1,f2,f3,f4,f5⟩:=hf it (by simp)
  have e1:(i:Int)-1-(i:Int)=-1:=by omega
  rw [e1] at st
  exact wpAny_pyNext_rev_end (I.ok.hd hc) st λh' eb=>⟨rfl,I.turned (t':=s.toks) (λb o hb e=>eb b o hb e) f0 f1 f3 f4 f5⟩
 self:=λ_ _ _ _ _ st h=>wpAny_pyIter_revIter st h
section
variable {X:Cx} {K:W.Frag}
def zte (K:W.Frag) (ta:TA):TI:=λσ H R=>ta σ H λvs H1=>∃ a xs,vs=[.ref a]∧SqL K H1 a xs∧R (Itv K a xs.length) H1
theorem zoO {a tg:Expr} {ta:TA} {p pos:Pos} (hK:X.K=K) (hg:Gl X "reversed") (hm:X.mg "reversed"=none) (ha:PA X [a] ta) (hs:starEach [a] X.env=[(false,eval a X.env)]:=by rfl) :
  PI X tg (.Call (.Name "reversed" p) [a] [] pos) (zte K ta):=by
 subst hK
 intro pins s σ H R I h
 refine Call_ (zhT I hg hm boot_reversed (PyProof.Rows.callWith_type1 (thn (ha pos pins s σ H _ I h) λus s1 ⟨vs,H1,I1,r1,q1⟩=> ?_) (by rw [hs];rfl) rfl))
 obtain ⟨l,xs,e,hx,q⟩:=q1
 subst e
 cases r1 with
 | cons r rr =>
  cases rr
  cases r
  obtain ⟨itx,rx,px,hzx⟩:=I1.list hx
  have hl:=rx.length
  refine call_reversed_list px.isList ?_
  have ho:=Heap.get?_push_size s1.heap (o:=revObj l ((itx.toArray.size:Int)-1)) rfl
  have st:(s1.heap.push (revObj l ((itx.toArray.size:Int)-1))).IsRevIter s1.heap.objs.size l ((xs.length:Int)-1-((0:Nat):Int)):=⟨_,ho,rfl,by rw [List.size_toArray,← hl];simp [revObj]⟩
  refine wpAny_pyIter_revIter st ?_
  refine ⟨s1.heap.objs.size,[s1.heap.objs.size],_,Itv X.K l xs.length,H1,rfl,I1.kept (t':=s1.toks) (λb o e=>Heap.get?_push_of_some _ e),znW l s1.heap.objs.size xs.length,st,λc hc=>?_,q⟩
  have hle:@LE.le Nat _ s1.heap.objs.size c:=by
   simp only [List.mem_cons,List.not_mem_nil,or_false] at hc
   rw [hc];exact Nat.le_refl _
  exact I1.fpOk hle (I1.hok.fresh hle)
end
section
variable {Γ:Ctx} {m:Bool} {K:W.Frag} {γ:Type}
def zdE {α:Type} (xs:List α):List (Int×α):=(zbo 0 xs.length).zip xs
theorem zfU {α:Type} {xs:List α}:(zdE xs).length=xs.length:=by simp [zdE,List.length_zip,zaZ]
theorem zcK {α:Type} {xs:List α} {i:Nat} {p:Int×α} (h:(zdE xs)[i]?=some p):i<xs.length∧p.1=i∧xs[i]?=some p.2:=by
 obtain ⟨h1,h2⟩:=zc2 h
 obtain ⟨h3,h4⟩:=zcN h1
 exact ⟨h3,by rw [h4];omega,h2⟩
theorem zgd {tl:TE} {j1 j2:Nat} {xs:List γ} (f:γ->Ds) (h:Ev Γ tl m (dQ K (xs.map f))) :
  Iv Γ (zq3 K (zfM tl zkA)) (zqM K 2 (zhp (zdz j1) (zhp (zdz j2) zrU))) [j1,j2] (zdE xs) (λx=>[dI x.1,f x.2]) m:=λF0 Hb F H σ own R a k =>
 h F0 Hb F H σ own _ a λu F1 H1 g1 ⟨p,vs,e1,e2,e3⟩=>by
  have e2':SqL K F1 p vs:=zbC.seq e2
  have le:=Paired.length e3
  rw [List.length_map] at le
  refine ⟨p,by rw [e1],⟨vs,g1.fh.seq e2'⟩,k _ F1 H1 g1 λH hs=>⟨⟨vs,hs.seq e2',by rw [le,zfU];exact Nat.le_refl _⟩,λi x ex=>?_⟩⟩
  obtain ⟨hi,x1,x2⟩:=zcK ex
  obtain ⟨v,ev,qv⟩:=zbb e3 (show ((xs.map f))[i]?=some (f x.2) by rw [List.getElem?_map,x2];rfl)
  refine ⟨⟨vs,v,hs.seq e2',ev⟩,λz H' y=>?_⟩
  obtain ⟨r,x',rfl,hr,rfl,hxy⟩:=y
  have hx:=hxy vs (hs.seq e2')
  rw [ev] at hx
  cases hx
  exact ⟨(Grow.refl hs).newH hr,λσ Q k=>⟨r,_,rfl,.inl (.inl zaH),rfl,_,_,rfl,_,_,rfl,rfl,k [.int i,v] (.cons (by show V.int _=V.int _;rw [x1]) (.cons qv .nil))⟩⟩
theorem zol {tl:TE} {j:Nat} {xs:List γ} (f:γ->Ds) (h:Ev Γ tl m (dQ K (xs.map f))):Iv Γ (zte K (zfM tl zkA)) (zdz j) [j] xs.reverse (λx=>[f x]) m:=λF0 Hb F H σ own R a k =>
 h F0 Hb F H σ own _ a λu F1 H1 g1 ⟨p,vs,e1,e2,e3⟩=>by
  have e2':SqL K F1 p vs:=zbC.seq e2
  have le:=Paired.length e3
  rw [List.length_map] at le
  refine ⟨p,vs,by rw [e1],g1.fh.seq e2',k _ F1 H1 g1 λH hs=>⟨by show xs.reverse.length=vs.length;rw [List.length_reverse,le],λi x ex=>?_⟩⟩
  have hi:i<xs.length:=by simpa using (List.getElem?_eq_some_iff.mp ex).1
  rw [List.getElem?_reverse hi] at ex
  obtain ⟨v,ev,qv⟩:=zbb e3 (show ((xs.map f))[xs.length-1-i]?=some (f x) by rw [List.getElem?_map,ex];rfl)
  rw [← le] at ev
  refine ⟨⟨by rw [le];exact hi,vs,v,hs.seq e2',rfl,ev⟩,λw H' y=>?_⟩
  obtain ⟨rfl,y⟩:=y
  have:=y vs (hs.seq e2')
  rw [ev] at this
  cases this
  exact ⟨Grow.refl hs,λσ Q k=>k [v] (.cons qv .nil)⟩
end
end L2
namespace L2
open PySem PySem.Spec PyProof.Rows
theorem Ev.any {Γ:Ctx} {t:TE} {m n:Bool} {v:V} (h:Ev Γ t m (dV v)):Ev Γ t n (dV v):=λF0 Hb F H σ own Q a k=>h F0 Hb F H σ own Q a λu F' H' g q=>k u F' H' g q
theorem zmB {α:Type} {R R':Hp} {g:α->V} {vs:List V} {xs:List α} (h:Paired (λv (d:Ds)=>d.pr R v) vs (xs.map λx=>dV (g x))):Paired (λv (d:Ds)=>d.pr R' v) vs (xs.map λx=>dV (g x)):=by
 rw [zhd h]
 clear h
 induction xs with
 | nil=>exact .nil
 | cons x xs ih=>exact .cons rfl ih
theorem EvO.anyV {Γ:Ctx} {t:TE} {m n:Bool} {α:Type} {g:α->V} {xs:List α} (h:EvO Γ t m (xs.map λx=>dV (g x))):EvO Γ t n (xs.map λx=>dV (g x)):=λF0 Hb F H σ own Q a k=>h F0 Hb F H σ own Q a λp vs F' H' g h1 h2 h3 q=>k p vs F' H' g h1 h2 h3 (zmB q)
theorem EvO.anyI {Γ:Ctx} {t:TE} {m n:Bool} {xs:Ji} (h:EvO Γ t m (xs.map dI)):EvO Γ t n (xs.map dI):=EvO.anyV h
section
variable {X:Cx}
def zdc (i j:Int):Prop:=(-(2^64)<i∧i<2^64)∨(-(2^64)<j∧j<2^64)∨(i.natAbs.log2<60000000∧j.natAbs.log2<60000000)
theorem zmh {a b:Int} (ha:Builtin.Int.intBits a≤60000000) (hb:Builtin.Int.intBits b≤60000000):IntMulOk a b:=by
 have h:Builtin.Int.intTooBig (Builtin.Int.intBits a+Builtin.Int.intBits b)=false:=by
  unfold Builtin.Int.intTooBig bitsLine
  exact decide_eq_false (by omega)
 unfold IntMulOk
 rw [h]
 simp
theorem zbj:OpR X (binaryOp .Mult) (rI zdc λi j=>.int (i*j)):=opI λ_ _ _ _ _ _ _ hc q=>mul_int q (by
 rcases hc with h | h | h
 ·exact .of_left (intBits_le_64 h.1 h.2)
 ·exact .of_right (intBits_le_64 h.1 h.2)
 ·exact zmh (zlZ h.1) (zlZ h.2))
end
def ixD {α:Type} [Inhabited α] (xs:List α) (i:Int):α:=(atI xs i).getD default
def InB (n:Nat) (i:Int):Prop:=-(n:Int)≤i∧i<n
theorem zi6 {n:Nat} {i:Int} (h:InB n i):∃ j,ixN n i=some j∧j<n∧(0≤i->j=i.toNat):=by
 unfold InB at h
 unfold ixN
 by_cases h0:0≤i
 ·rw [if_pos h0,if_pos h.2];exact ⟨_,rfl,by omega,λ_=>rfl⟩
 ·rw [if_neg h0,if_pos h.1];exact ⟨_,rfl,by omega,λz=>absurd z h0⟩
theorem zlW {α:Type} [Inhabited α] {xs:List α} {i:Int} (h:InB xs.length i):atI xs i=some (ixD xs i):=by
 obtain ⟨j,e,hj,_⟩:=zi6 h
 unfold ixD atI
 rw [e]
 show xs[j]?=some (xs[j]?.getD default)
 rw [List.getElem?_eq_getElem hj];rfl
theorem zd9 {α:Type} [Inhabited α] {xs:List α} {n:Nat} {x:α} (h:xs[n]?=some x):ixD xs (n:Int)=x:=by
 have hn:n<xs.length:=((List.getElem?_eq_some_iff.mp h)).1
 unfold ixD atI ixN
 rw [if_pos (by omega),if_pos (by omega)]
 show (xs[(n:Int).toNat]?).getD default=x
 rw [Int.toNat_natCast,h];rfl
theorem zgj {α:Type} [Inhabited α] {xs:List α} {i:Int} (h:InB xs.length i):ixD xs i∈xs:=by
 have:=zlW h
 unfold atI at this
 obtain ⟨j,e,hj,_⟩:=zi6 h
 rw [e] at this
 exact List.mem_of_getElem? this
def zcz {α:Type} (xs:List α) (i:Int) (x:α):List α:=match ixN xs.length i with
 | some n=>xs.set n x
 | none=>xs
theorem zd3 {α:Type} {xs:List α} {i:Int} {x:α}:(zcz xs i x).length=xs.length:=by
 unfold zcz;split<;>simp
def zbV {α:Type} (n:Int) (xs:List α):List α:=(List.replicate n.toNat xs).flatten
def dOpt {α:Type} (f:α->Ds):Option α->Ds
 | none=>dN
 | some x=>f x
def NN {α:Type} (f:α->Ds):Prop:=∀ x H v,(f x).pr H v->v≠.non
theorem NN.tup {α:Type} {f:α->List Ds}:NN (λx=>dT (f x)):=λ_ _ _ ⟨_,_,e,_⟩=>by rw [e];simp
theorem NN.obj {α:Type} {C:Addr} {f:α->List (Str×Ds)}:NN (λx=>dO C (f x)):=λ_ _ _ ⟨_,_,_,e,_⟩=>by rw [e];simp
theorem NN.int:NN dI:=λ_ _ _ e=>by rw [show _=_ from e];simp
section
variable {E:XS} {Γ:Ctx} {m:Bool} {K:W.Frag} {α β γ:Type} {f:α->Ds} {t ta tb te:TE} {u r:TS} {o:Oc} {xs ys:List α} {i:Nat}
theorem zci [Inhabited α] {j:Int} (h1:Ev Γ ta m (dQ K (xs.map f))) (h2:Ev Γ tb false (dI j)) (h:InB xs.length j):Ev Γ (tOp (zqc K) ta tb) m (f (ixD xs j)):=zsd h1 h2 (zmR (zlW h))
theorem zco {n:Bool} (h1:Ev Γ t false (dQ K (xs.map f))):Ev Γ (tCB (λxs H Q=>∃p ys,xs=[.ref p]∧(SqL K H p ys∨SqT K H p ys)∧Q (.int ys.length) H) (zfM t zkA)) n (dI (xs.length:Nat)):=(zrs h1).conv (by rw [List.length_map])
theorem zdx {tl th:TO} {lo hi:Option Int} (h1:Ev Γ t m (dQ K (xs.map f))) (h2:EvP Γ tl lo) (h3:EvP Γ th hi):EvO Γ (tSl (zrT K) t tl th) m ((zct xs lo hi).map f):=(zqw h1 h2 h3).conv znR.symm
theorem zcP (h1:Ev Γ ta m (dL (xs.map f))) (h2:Ev Γ tb m (dL (ys.map f))) (hz:xs.length+ys.length≤sizeLine):EvO Γ (tOp zr9 ta tb) m ((xs++ys).map f):=(zrM h1 h2 (by rw [List.length_map,List.length_map];exact hz)).conv (List.map_append ..).symm
theorem zgY {n:Nat}:(List.replicate n (xs.map f)).flatten=((List.replicate n xs).flatten).map f:=by
 induction n with
 | zero=>rfl
 | succ n ih=>rw [List.replicate_succ,List.replicate_succ,List.flatten_cons,List.flatten_cons,List.map_append,ih]
theorem zfJ {n:Int} (h1:Ev Γ ta m (dL (xs.map f))) (h2:Ev Γ tb false (dI n)) (hn:-(2^63)≤n∧n<2^63) (hz:xs.length*n.toNat≤sizeLine):EvO Γ (tOp zsI ta tb) m ((zbV n xs).map f):=(zqz h1 h2 hn (by rw [List.length_map];exact hz)).conv zgY
theorem ziX {x:Option α} {n:Bool} (h1:Ev Γ ta false (dOpt f x)) (h2:Ev Γ tb false dN) (hf:NN f):Ev Γ (tOp (λx y H Q=>y= .non∧Q (.bl (decide (x= .non))) H) ta tb) n (dB x.isNone):=zqm h1 h2 λH v q=>by
 cases x with
 | none=>rw [show v=V.non from q];rfl
 | some x=>exact decide_eq_false (hf x H v q)
theorem zds {x:Option α} {n:Bool} (h1:Ev Γ ta false (dOpt f x)) (h2:Ev Γ tb false dN) (hf:NN f):Ev Γ (tOp (λx y H Q=>y= .non∧Q (.bl (!decide (x= .non))) H) ta tb) n (dB x.isSome):=(zoX (b:=x.isNone) h1 h2 λH v q=>by
 cases x with
 | none=>rw [show v=V.non from q];rfl
 | some x=>exact decide_eq_false (hf x H v q)).conv (by cases x<;>rfl)
theorem zbI [Inhabited α] {j:Int} (e:Γ[i]?=some (.ow m (xs.map f))) (h2:Ev Γ tb false (dI j)) (h:InB xs.length j):Ev Γ (tOp (zqc K) (zje i) tb) m (f (ixD xs j)):=znx (n:=m) e h2 (zmR (zlW h))
theorem zgb {n:Bool} (e:Γ[i]?=some (.ow m (xs.map f))):Ev Γ (tCB (λxs H Q=>∃p ys,xs=[.ref p]∧(SqL K H p ys∨SqT K H p ys)∧Q (.int ys.length) H) (zfM (zje i) zkA)) n (dI (xs.length:Nat)):=(znd (n:=n) e).conv (by rw [List.length_map])
theorem zb1 {x:α} (e:Γ[i]?=some (.ow m (xs.map f))) (h:Ev Γ te m (f x)) (hz:xs.length<sizeLine) (k:Run E (Γ.set i (.ow m ((xs++[x]).map f))) u o):Run E Γ (zeM (zoc (tBM K "list" zif (zje i) (zfM te zkA))) u) o :=
 zlv e h (by rw [List.length_map];exact hz) (by rw [List.map_append] at k;exact k)
theorem zfj {tj:TE} {x:α} {j:Int} (e:Γ[i]?=some (.ow m (xs.map f))) (h:Ev Γ te m (f x)) (hj:Ev Γ tj false (dI j)) (hb:InB xs.length j) (k:Run E (Γ.set i (.ow m ((zcz xs j x).map f))) u o):Run E Γ (zeM (zkc te (zqh (zje i) tj zmg)) u) o:=by
 obtain ⟨n,en,hn,_⟩:=zi6 hb
 refine zlN (n:=n) e h hj (by rw [List.length_map];exact en) ?_
 unfold zcz at k
 rw [en] at k
 rw [← List.map_set]
 exact k
theorem zhI {tj:TE} {x:α} {j:Int} (fo:β->Oc) {kk:List α->β} (e:Γ[i]?=some (.ow m (xs.map f))) (h:Ev Γ te m (f x)) (hj:Ev Γ tj false (dI j)) (hb:InB xs.length j) (k:∀ y,y=zcz xs j x->Run E (Γ.set i (.ow m (y.map f))) u (fo (kk y))):Run E Γ (zeM (zkc te (zqh (zje i) tj zmg)) u) (fo (Let (zcz xs j x) kk)) :=
 zfj e h hj hb (k _ rfl)
theorem zdb {x:α} (G:α->Ctx) (fo:β->Oc) {kk:α->β} (k:∀ y,y=x->Run E (G y) u (fo (kk y))):Run E (G x) u (fo (Let x kk)):=k x rfl
def zpl (o:Oc):Prop:=(∃ m d,o=.rt m d)∨(∃ m ds,o=.rl m ds)∨∃ C Γ,o=.ex C Γ
theorem zpl.meets (h:zpl o) {F0 Hb:Hp} {D D':Ends} (e:D.rt=D'.rt) (q:zgG E F0 Hb D o):zgG E F0 Hb D' o:=by
 rcases h with ⟨m,d,rfl⟩ | ⟨m,ds,rfl⟩ | ⟨C,Γ',rfl⟩
 ·exact λv F H g p=>e ▸ q v F H g p
 ·exact λp vs F H g h1 h2 h3 h4=>e ▸ q p vs F H g h1 h2 h3 h4
 ·exact q
def zjn {S:Type} (x:S ⊕ β) (k:S->α) (w:β->α):α:=match x with
 | .inl s=>k s
 | .inr b=>w b
theorem zkL {f:Str} {d:Ds}:∀ {fs:List (Str×Ds)} {ns:List Str},fs.map Prod.fst=ns->ns.contains f=false->putD f d fs=fs++[(f,d)]
 | [],_,_,_=>rfl
 | (g,e) :: r,_,rfl,h=>by
  have h':f≠g∧f ∉ r.map Prod.fst:=by simpa using h
  unfold putD
  rw [if_neg (Ne.symm h'.1),zkL rfl (by simpa using h'.2)]
  rfl
theorem zf4 {C p dx:Addr} {fs:List (Str×Ds)} {tv:TE} {d:Ds} {f:Str} (e:Γ[i]?=some (.ob m C p dx fs)) (h:Ev Γ tv m d) (c:Cls K C) (nf:NoAttr K C f) (ns:List Str) (hns:fs.map Prod.fst=ns) (hn:ns.contains f=false) (hz:ns.length<1000) (k:Run E (Γ.set i (.ob m C p dx (fs++[(f,d)]))) u o) :
  Run E Γ (zeM (zsB K (zje i) tv f) u) o:=zpD e h c nf (by rw [← List.length_map (f:=Prod.fst),hns];exact hz) (by rw [zkL hns hn];exact k)
theorem zhP {S:Type} (f:S->γ->S):∀ (xs:List γ) (s:S),zbE (β:=Empty) (λs x=>.inl (f s x)) s xs=.inl (xs.foldl f s)
 | [],_=>rfl
 | x :: xs,s=>zhP f xs (f s x)
theorem zfX {S:Type} {f:S->γ->S} {I:Nat->S->Prop}:∀ {xs:List γ} {s:S} {n:Nat},I n s->(∀ (i:Nat) (x:γ) (s:S),xs[i]?=some x->I (n+i) s->I (n+i+1) (f s x))->I (n+xs.length) (xs.foldl f s)
 | [],s,n,h,_=>h
 | x :: xs,s,n,h,k=>by
  have h1:=k 0 x s rfl h
  have:=zfX (xs:=xs) (s:=f s x) (n:=n+1) h1 λi y s' e q=>by
   have:=k (i+1) y s' (by simpa using e) (by rw [show n+(i+1)=n+1+i by omega];exact q)
   rw [show n+1+i+1=n+(i+1)+1 by omega];exact this
  rw [List.length_cons,show n+(xs.length+1)=n+1+xs.length by omega]
  exact this
theorem zbO {S:Type} {wi:TI} {g:TG} {tb:TS} {js:List Nat} {xs:List γ} {bds:γ->List Ds} {mi:Bool} {s0:S} (G:S->Ctx) (fo:β->Oc) {kk:S->β} (f:S->γ->S) (I:Nat->S->Prop) (it:Iv Γ wi g js xs bds mi) (w:Wk Γ (G s0)) (h0:I 0 s0)
  (body:∀ (i:Nat) (x:γ) (s:S),xs[i]?=some x->I i s->I (i+1) (f s x)∧Run E (zm8 js (bds x) mi (G s)) tb (.nx (G (f s x)))) (k:∀ s,s=xs.foldl f s0->I xs.length s->Run E (G s) u (fo (kk s))):Run E Γ (zeM (zq5 wi g tb) u) (fo (Let (xs.foldl f s0) kk)):=by
 refine zmK (Δ:=G (xs.foldl f s0)) ?_ (k _ rfl (by simpa using zfX (n:=0) (I:=I) h0 λi x s e q=>by rw [Nat.zero_add] at q ⊢;exact ((body i x s e q)).1))
 have:=zna (β:=Empty) G (λz=>z.elim) (λs x=>.inl (f s x)) I it w h0 (λb=>b.elim) λi x s e q=>⟨λs' z=>by cases z;exact ((body i x s e q)).1,((body i x s e q)).2⟩
 rw [zhP] at this
 exact this
theorem zjm {S:Type} {f:S->γ->S ⊕ β} {I:Nat->S->Prop}:∀ {xs:List γ} {s s':S} {n:Nat},I n s->(∀ (i:Nat) (x:γ) (s:S),xs[i]?=some x->I (n+i) s->∀ s',f s x=.inl s'->I (n+i+1) s')->zbE f s xs=.inl s'->I (n+xs.length) s'
 | [],s,s',n,h,_,e=>by cases e;exact h
 | x :: xs,s,s',n,h,k,e=>by
  unfold zbE at e
  cases q:f s x with
  | inr b=>rw [q] at e;cases e
  | inl s1 =>
   rw [q] at e
   have h1:=k 0 x s rfl h s1 q
   have:=zjm (xs:=xs) (s:=s1) (n:=n+1) h1 (λi y s' e q=>by
    have:=k (i+1) y s' (by simpa using e) (by rw [show n+(i+1)=n+1+i by omega];exact q)
    rw [show n+1+i+1=n+(i+1)+1 by omega];exact this) e
   rw [List.length_cons,show n+(xs.length+1)=n+1+xs.length by omega]
   exact this
theorem zfa {S:Type} {wi:TI} {g:TG} {tb:TS} {js:List Nat} {xs:List γ} {bds:γ->List Ds} {mi:Bool} {s0:S} (G:S->Ctx) (fo:α->Oc) (wr:β->α) {kk:S->α} (f:S->γ->S ⊕ β) (I:Nat->S->Prop) (hres:∀ b,zpl (fo (wr b))) (it:Iv Γ wi g js xs bds mi) (w:Wk Γ (G s0)) (h0:I 0 s0)
  (body:∀ (i:Nat) (x:γ) (s:S),xs[i]?=some x->I i s->(∀s',f s x= .inl s'->I (i+1) s')∧Run E (zm8 js (bds x) mi (G s)) tb (zf7 G (λb=>fo (wr b)) (f s x))) (k:∀ s,zbE f s0 xs=.inl s->I xs.length s->Run E (G s) u (fo (kk s))):Run E Γ (zeM (zq5 wi g tb) u) (fo (zjn (zbE f s0 xs) kk wr)):=by
 have h:=zna G (λb=>fo (wr b)) f I it w h0 (λb F0 Hb D D' e q=>(hres b).meets e q) body
 cases e:zbE f s0 xs with
 | inl s =>
  rw [e] at h
  exact zmK h (k s e (by simpa using zjm (n:=0) h0 (λi x s e q=>by rw [Nat.zero_add] at q ⊢;exact ((body i x s e q)).1) e))
 | inr b =>
  rw [e] at h
  exact λF0 Hb F H σ own D a q=>h F0 Hb F H σ own _ a ((hres b).meets (D:=D) rfl (show zgG E F0 Hb D (fo (wr b)) from q))
end
end L2
namespace L2
open PySem PySem.Spec PyProof.Rows PySem.Builtin PySem.Builtin.Getset_descriptor
structure XCls (K:W.Frag) (C:Addr):Prop where
 ga:W.findIn K (.ref C) "__getattribute__"=some (some (.builtin "BaseException.__getattribute__"))
 gn:W.findIn K (.ref C) "__getattr__"=some none
 cl:W.findIn K (.ref C) "__class__"=some (some (.builtin "object.__class__"))
 ob:W.mroIn K C (.type "object")=some true
 be:W.mroIn K C (.type "BaseException")=some true
 gt:W.specialIn K (.builtin "object.__class__") "__get__"=some (some (.builtin "getset_descriptor.__get__"))
 tk:W.takesIn K (.builtin "object.__class__")=some true
def XAt (h:Heap) (a C:Addr):Prop:=∃ o vs,h.get? a=some o∧o.cls=.ref C∧o.data=.fields vs
section
variable {prog:Program} {w:World} {A:Around} {E:Value->Shared->Prop} {K:W.Frag} {C a:Addr} {h:Heap} {g:Array GenState} {d:Drawn} {t:Nat} {os:OsState}
theorem XAt.ty {M:Model} (x:XAt h a C):W.Looks M h (typeOf (.ref a)) (.ref C):=by
 obtain ⟨o,vs,hx,hc,hd⟩:=x
 exact hc ▸ (W.Looks.ld hx).andThen .now
end
section
variable {X:Cx} {K:W.Frag}
end
end L2
namespace L2
open PySem PySem.Spec PyProof.Rows
section
variable {X:Cx} {pins:List (Addr×Obj)} {σ:St} {H:Hp} {s:Shared}
theorem Inv.locals {h':Heap} {t':Nat} {m':Str->Option Value} {σ':St} (I:Inv X pins σ H s) (hs:Heap.SameBut X.env.locals s.heap h') (hn':h'.Ns X.env.locals m')
  (hl:∀ (j:Nat) (y:Str) (v:V),X.N[j]?=some y->σ'[j]?=some (some v)->Vis X.env.scope y->∃ u,zdA v u∧zsW X.env h' m' y u) (len:σ'.length=X.N.length):Inv X pins σ' H { s with heap:=h',toks:=t' }:=by
 have lt:∀ b o,X.s₀.heap.get? b=some o->b≠X.env.locals:=λb o e=>Nat.ne_of_lt (Nat.lt_of_lt_of_le (Heap.lt_size e) I.ok.above)
 refine ⟨I.ok,I.os,I.bare,⟨λb o e n hb hx=>(hs.2 b (lt b o e)).trans (I.base.keep b o e n hb hx),λb o e n hb hx=>?_,I.base.free,λb o e hx=>?_,I.base.tups,I.base.frzs,I.base.tbls⟩,⟨m',hn',hl⟩,λy c e=>?_,I.free,I.freeC,λp hp=>?_,λb u e=>?_,len⟩
 ·obtain ⟨sl,q⟩:=I.base.slot b o e n hb hx
  exact ⟨sl,(hs.2 b (lt b o e)).trans q⟩
 ·obtain ⟨o',q⟩:=I.base.there b o e hx
  exact ⟨o',(hs.2 b (lt b o e)).trans q⟩
 ·obtain ⟨w',z⟩:=I.cell y c e
  exact ⟨w',z.sameBut hs (I.cne y c e)⟩
 ·obtain ⟨e,n,ne,nf,d⟩:=I.pin p hp
  exact ⟨(hs.2 p.1 ne).trans e,n,ne,nf,d⟩
 ·refine ((I.hok b u e)).stay (λc v hc q=>(hs.2 c ?_).trans q) (λ_ q=>q) λ_ _ q=>q
  intro z
  have z':=I.free
  rw [← z] at z'
  rcases hc with hc | hc
  ·rw [hc,e] at z';cases z'
  ·rw [hc] at z';cases z'
abbrev Cx.marked (X:Cx) (e:Addr):Cx:={ X with A:=X.A.mark (some (.ref e)),calm:=false,xe:=λ_ _=>False }
theorem Inv.marked {e:Addr} (I:Inv X pins σ H s):Inv (X.marked e) pins σ H s :=
 ⟨⟨I.ok.mod,I.ok.kind,I.ok.glob,I.ok.blt,I.ok.above,I.ok.inj,I.ok.has,I.ok.cab,(λz=>(nomatch z)),I.ok.frames,I.ok.stk,I.ok.exf,I.ok.bs,I.ok.bsz,I.ok.noex,I.ok.exfs,I.ok.funs,I.ok.frf⟩,I.os,I.bare,I.base,I.loc,I.cell,I.free,I.freeC,I.pin,I.hok,I.len⟩
end
section
variable {X:Cx} {K:W.Frag}
end
end L2
namespace L2
open PySem PySem.Spec PyProof.Rows
section
variable {X:Cx} {K:W.Frag} {e:Expr} {st:Stmt} {rest:List Stmt} {pos:Pos}
end
section
variable {E:XS} {Γ Δ Γx:Ctx} {m:Bool} {K:W.Frag} {α β ε:Type} {u:TS} {o:Oc} {ds:List Ds}
end
section
variable {E:XS} {Γ:Ctx} {K:W.Frag} {α β ε:Type} {u:TS}
end
section
variable {P:Program} {w:World} {K:W.Frag} {mg:Str->Option Value} {base:Heap} {x qual:Str} {st:Stmt} {f:Addr} {fd:FuncData} {N ps:List Str} {k:Nat}
end
end L2
namespace L2
open PySem PySem.Spec PyProof.Rows
def EvN (Γ:Ctx) (t:TE) (d:Ds):Prop:=∀ (F0 Hb F H:Hp) (σ:St) (own:Nat->Option Addr) (Q:VK),At F0 Hb F H σ own Γ->(∀ v F' H',Grow F H F' H'->d.pr (off F' H) v->Q v H')->t σ H Q
def zsT:Slot->Slot
 | .va _ d=>.va false d
 | _=>.no
def zqR (Γ:Ctx):Ctx:=Γ.map zsT
theorem At.now {F0 Hb F H:Hp} {σ:St} {own:Nat->Option Addr} {Γ:Ctx} (a:At F0 Hb F H σ own Γ):At F H F H σ (λ_=>none) (zqR Γ):=by
 refine ⟨Grow.refl a.fh,λ_ _ _ h=>(nomatch h),λ_ _ h=>(nomatch h),λi s e=>?_,by unfold zqR;rw [List.length_map];exact a.len⟩
 unfold zqR at e
 rw [List.getElem?_map] at e
 cases q:Γ[i]? with
 | none=>rw [q] at e;cases e
 | some r =>
  rw [q] at e
  have e':zsT r=s:=Option.some.inj e
  subst e'
  have h:=a.sl i r q
  cases r with
  | va m d =>
   obtain ⟨x,h1,h2⟩:=h
   exact ⟨x,h1,d.up zbC h2⟩
  | no=>trivial
  | ow m ds=>trivial
  | ob m C p dx fs=>trivial
  | ol p ds=>trivial
  | tl d=>trivial
theorem zrq {Γ:Ctx} {t:TE} {d:Ds} (h:Ev (zqR Γ) t true d):EvN Γ t d:=λF0 Hb F H σ own Q a k=>h F H F H σ _ Q a.now λv F' H' g q=>k v F' H' g q
theorem At.setTl {F0 Hb F H F' H':Hp} {σ:St} {own:Nat->Option Addr} {Γ:Ctx} (a:At F0 Hb F H σ own Γ) (g:Grow F H F' H') (i:Nat) {d:Ds} {v:V} (h:d.pr (off F' H) v):At F0 Hb F H' (σ.set i (some v)) own (Γ.set i (.tl d)):=by
 have gF:Grow F H F H':=⟨Same.refl _,a.fh.trans g.h,g.h,λ_ _ z=>z⟩
 have a':=a.grow gF
 refine ⟨a'.g,a'.inj,a'.liv,λj s e=>?_,by simp [a.len]⟩
 by_cases z:i=j
 ·subst z
  have hi:i<Γ.length:=by simpa using ((List.getElem?_eq_some_iff.mp e)).1
  rw [List.getElem?_set_self hi] at e
  cases e
  rw [zeC (by rw [a.len];exact hi)]
  refine ⟨v,off F' H,rfl,zjQ.trans g.fh,λb o q=>?_,λj p q=>?_,h⟩
  ·have hb:=(zcC.mp q).1
   exact ⟨a.fh.free hb,a.g.h.free hb⟩
  ·have:=a.liv j p q
   cases w:off F' H p with
   | none=>rfl
   | some o=>exact absurd (zcC.mp w).1 this
 ·rw [List.getElem?_set_ne z] at e
  rw [zfF z]
  exact a'.sl j s e
section
variable {E:XS} {Γ:Ctx} {te:TE} {u:TS} {o:Oc} {d d1 d2:Ds} {K:W.Frag} {i j:Nat}
theorem zny (h:EvN Γ te d) (k:Run E (Γ.set i (.tl d)) u o):Run E Γ (zeM (zkc te (zdz i)) u) o:=λF0 Hb F H σ own D a q =>
 h F0 Hb F H σ own _ a λv F' H' g p=>k F0 Hb F H' _ own D (a.setTl g i p) q
theorem zno {α β:Type} {x:α} (f:α->Ds) (fo:β->Oc) {kk:α->β} (h:EvN Γ te (f x)) (k:∀ y,y=x->Run E (Γ.set i (.tl (f y))) u (fo (kk y))):Run E Γ (zeM (zkc te (zdz i)) u) (fo (Let x kk)):=zny h (k x rfl)
end
def shS:Slot->Slot
 | .tl d=>.va true d
 | s=>s
def shC (Γ:Ctx):Ctx:=Γ.map shS
def zn5 (Γ:Ctx):Bool:=Γ.all λs=>match s with | .ob _ _ _ _ _=>false | _=>true
open Classical in
noncomputable def wide (F Hb H:Hp) (own:Nat->Option Addr):Hp:=λa=>match F a with
 | some o=>some o
 | none=>if Hb a=none∧∀ j,own j≠some a then H a else none
theorem zkw {F Hb H:Hp} {own:Nat->Option Addr}:Same F (wide F Hb H own):=λa o q=>by unfold wide;rw [q]
theorem zqG {F Hb H:Hp} {own:Nat->Option Addr} (e:Same F H):Same (wide F Hb H own) H:=λa o q=>by
 unfold wide at q
 cases z:F a with
 | some o'=>rw [z] at q;cases q;exact e _ _ z
 | none =>
  rw [z] at q
  dsimp only at q
  split at q
  ·exact q
  ·cases q
theorem At.wide {F0 Hb F H:Hp} {σ:St} {own:Nat->Option Addr} {Γ:Ctx} (a:At F0 Hb F H σ own Γ) (hno:zn5 Γ=true):At F0 Hb (wide F Hb H own) H σ own (shC Γ):=by
 refine ⟨⟨a.g.f.trans zkw,zqG a.fh,a.g.h,λb h1 h2=>?_⟩,a.inj,a.liv,λi s e=>?_,by unfold shC;rw [List.length_map];exact a.len⟩
 ·unfold L2.wide
  rw [a.g.no b h1 h2]
  dsimp only
  rw [if_neg (λz=>h1 z.1)]
 ·unfold shC at e
  rw [List.getElem?_map] at e
  cases q:Γ[i]? with
  | none=>rw [q] at e;cases e
  | some r =>
   rw [q] at e
   have e':shS r=s:=Option.some.inj e
   subst e'
   have h:=a.sl i r q
   cases r with
   | va m d =>
    obtain ⟨x,h1,h2⟩:=h
    exact ⟨x,h1,d.up (zbs zkw) h2⟩
   | no=>trivial
   | ow m ds =>
    obtain ⟨p,vs,h1,h2,h3,h4,h5,h6⟩:=h
    refine ⟨p,vs,h1,h2,?_,h4,h5,zdp (ds:=[]) (zbs zkw) h6⟩
    unfold L2.wide
    rw [h3]
    dsimp only
    rw [if_neg (λz=>z.2 i h2)]
   | ol p ds =>
    obtain ⟨vs,h1,h2,h3,h4,h5,h6⟩:=h
    refine ⟨vs,h1,h2,?_,h4,h5,zdp (ds:=[]) zkw h6⟩
    unfold L2.wide
    rw [h3]
    dsimp only
    rw [if_neg (λz=>z.2 i h2)]
   | ob m C p dx fs =>
    have:=List.all_eq_true.mp hno _ (List.mem_of_getElem? q)
    cases this
   | tl d =>
    obtain ⟨x,R,h1,h2,h3,h4,h5⟩:=h
    refine ⟨x,h1,d.up (λb o w=>?_) h5⟩
    refine zcC.mpr ⟨(h3 b o w).2,?_⟩
    unfold L2.wide
    rw [(h3 b o w).1]
    dsimp only
    rw [if_pos ⟨(h3 b o w).2,λj z=>by rw [h4 j b z] at w;cases w⟩]
    exact h2 b o w
section
variable {E:XS} {Γ:Ctx} {t:TE} {d:Ds} {m n:Bool} {u:TS} {o:Oc}
theorem Grow.only {F H H':Hp} (e:Same F H) (g:Same H H'):Grow F H F H':=⟨Same.refl _,e.trans g,g,λ_ _ z=>z⟩
theorem Ev.borrow {v:V} (hno:zn5 Γ=true) (h:Ev (shC Γ) t m (dV v)):Ev Γ t n (dV v):=λF0 Hb F H σ own Q a k =>
 h F0 Hb _ H σ own Q (a.wide hno) λx F' H' g q=>k x F H' (Grow.only a.fh g.h) q
theorem zlf {t:TS} (hno:zn5 Γ=true) (k:Run E (shC Γ) t o):Run E Γ t o:=λF0 Hb F H σ own D a q=>k F0 Hb _ H σ own D (a.wide hno) q
def unS:Slot->Slot
 | .tl _=>.no
 | s=>s
def unC (Γ:Ctx):Ctx:=Γ.map unS
theorem At.spoil {F0 Hb F H:Hp} {σ:St} {own:Nat->Option Addr} (a:At F0 Hb F H σ own Γ) (hno:zn5 Γ=true) {p:Addr} (w:HO) (h1:F p=none) (h2:Hb p=none) (h3:∀ j,own j≠some p):At F0 Hb F (upd H p w) σ own (unC Γ):=by
 refine ⟨a.g.setH h1 h2,a.inj,λj q e=>?_,λi s e=>?_,by unfold unC;rw [List.length_map];exact a.len⟩
 ·have:q≠p:=λz=>h3 j (z ▸ e)
  rw [zay this];exact a.liv j q e
 ·unfold unC at e
  rw [List.getElem?_map] at e
  cases q:Γ[i]? with
  | none=>rw [q] at e;cases e
  | some r =>
   rw [q] at e
   have e':unS r=s:=Option.some.inj e
   subst e'
   have h:=a.sl i r q
   cases r with
   | va m d=>exact h
   | no=>trivial
   | ow m ds =>
    obtain ⟨x,vs,q1,q2,q3,q4,q5,q6⟩:=h
    have:x≠p:=λz=>h3 i (z ▸ q2)
    exact ⟨x,vs,q1,q2,q3,q4,by rw [zay this];exact q5,q6⟩
   | ol x ds =>
    obtain ⟨vs,q1,q2,q3,q4,q5,q6⟩:=h
    have:x≠p:=λz=>h3 i (z ▸ q2)
    exact ⟨vs,q1,q2,q3,q4,by rw [zay this];exact q5,q6⟩
   | ob m C p dx fs =>
    have:=List.all_eq_true.mp hno _ (List.mem_of_getElem? q)
    cases this
   | tl d=>trivial
end
theorem ev_some {Γ:Ctx} {t:TE} {m:Bool} {α:Type} [Inhabited α] {f:α->Ds} {x:Option α} (h:Ev Γ t m (dOpt f x)) (hs:x.isSome=true):Ev Γ t m (f (x.getD default)):=by
 cases x with
 | none=>cases hs
 | some v=>exact h
def gS {α:Type} [Inhabited α] (x:Option α):α:=x.getD default
section
variable {E:XS} {Γ:Ctx} {te:TE} {u:TS} {K:W.Frag} {i j:Nat} {α β:Type} {f:α->Ds}
end
section
variable {X:Cx} {K:W.Frag}
end
end L2
namespace Lat
abbrev Vc:=Nat->Int
inductive Sp (A:Vc->Prop):Vc->Prop
 | zero:Sp A (λ_=>0)
 | add {u a:Vc} (x:Int):Sp A u->A a->Sp A (λi=>u i+x*a i)
section
variable {A B:Vc->Prop} {u v a:Vc}
theorem Sp.conv (h:Sp A u) (e:∀ i,u i=v i):Sp A v:=(funext e:u=v) ▸ h
theorem Sp.mem (h:A a):Sp A a:=(Sp.add 1 Sp.zero h).conv λi=>by grind
theorem Sp.smul (x:Int) (h:Sp A u):Sp A (λi=>x*u i):=by
 induction h with
 | zero=>exact Sp.zero.conv λi=>by grind
 | @add u a z _ ha ih=>exact (Sp.add (x*z) ih ha).conv λi=>by grind
theorem Sp.plus (h:Sp A u) (k:Sp A v):Sp A (λi=>u i+v i):=by
 induction k with
 | zero=>exact h.conv λi=>by grind
 | @add w a z _ ha ih=>exact (Sp.add z ih ha).conv λi=>by grind
theorem Sp.lin (x y:Int) (h:Sp A u) (k:Sp A v):Sp A (λi=>x*u i+y*v i):=(h.smul x).plus (k.smul y)
theorem Sp.sub (k:∀ a,A a->Sp B a) (h:Sp A u):Sp B u:=by
 induction h with
 | zero=>exact Sp.zero
 | @add u a z _ ha ih=>exact (ih.plus ((k a ha).smul z)).conv λi=>by grind
theorem Sp.mono (k:∀ a,A a->B a) (h:Sp A u):Sp B u:=h.sub λa ha=>.mem (k a ha)
theorem Sp.at0 {i:Nat} (k:∀ a,A a->a i=0) (h:Sp A u):u i=0:=by
 induction h with
 | zero=>rfl
 | @add u a z _ ha ih=>show u i+z*a i=0;rw [ih,k a ha];simp
theorem Sp.split {a:Vc} (h:Sp (λu=>A u∨u=a) v):∃ w y,Sp A w∧∀ i,v i=w i+y*a i:=by
 induction h with
 | zero=>exact ⟨_,0,.zero,λi=>by grind⟩
 | @add u b z _ hb ih =>
  obtain ⟨w,y,hw,e⟩:=ih
  rcases hb with hb | rfl
  ·exact ⟨_,y,.add z hw hb,λi=>by grind⟩
  ·exact ⟨w,y+z,hw,λi=>by grind⟩
end
def comb:Ji->List Vc->Vc
 | x :: xs,a :: as=>λi=>x*a i+comb xs as i
 | _,_=>λ_=>0
theorem zgN {A:Vc->Prop}:∀ {xs:Ji} {as:List Vc},(∀ a∈as,A a)->Sp A (comb xs as)
 | [],_,_=>.zero
 | _ :: _,[],_=>.zero
 | x :: xs,a :: as,h=>(((Sp.mem (h a List.mem_cons_self)).smul x).plus (zgN (xs:=xs) λb hb=>h b (List.mem_cons_of_mem _ hb))).conv λi=>by simp only [comb]
theorem zkQ:∀ {xs ys:Ji} {as:List Vc} (i:Nat),xs.length=ys.length->comb (List.zipWith (·-·) xs ys) as i=comb xs as i-comb ys as i
 | [],[],_,_,_=>by simp [comb]
 | x :: xs,y :: ys,[],_,_=>by simp [comb]
 | x :: xs,y :: ys,a :: as,i,h=>by
  have:=zkQ (xs:=xs) (ys:=ys) (as:=as) i (by simpa using h)
  simp only [comb,List.zipWith_cons_cons,this]
  grind
theorem ziW:∀ {xs:Ji} {as:List Vc} (c:Int) (i:Nat),comb (xs.map (c*·)) as i=c*comb xs as i
 | [],_,_,_=>by simp [comb]
 | x :: xs,[],_,_=>by simp [comb]
 | x :: xs,a :: as,c,i=>by
  have:=ziW (xs:=xs) (as:=as) c i
  simp only [comb,List.map_cons,this]
  grind
theorem zia {X B:Nat} {i:Nat}:∀ {xs:Ji} {as:List Vc},(∀ x∈xs,x.natAbs≤X)->(∀ a∈as,(a i).natAbs≤B)->(comb xs as i).natAbs≤as.length*(X*B)
 | [],_,_,_=>by simp [comb]
 | _ :: _,[],_,_=>by simp [comb]
 | x :: xs,a :: as,h,k=>by
  have h1:=zia (xs:=xs) (as:=as) (λy hy=>h y (List.mem_cons_of_mem _ hy)) λb hb=>k b (List.mem_cons_of_mem _ hb)
  have h2:(x*a i).natAbs≤X*B:=by rw [Int.natAbs_mul];exact Nat.mul_le_mul (h x List.mem_cons_self) (k a List.mem_cons_self)
  simp only [comb,List.length_cons,Nat.succ_mul]
  omega
theorem zoI:∀ (M N:Nat) (f:Nat->Nat),M<N->(∀ n,n<N->f n<M)->∃ i j,i<j∧j<N∧f i=f j
 | 0,N,f,h,k=>absurd (k 0 h) (Nat.not_lt_zero _)
 | M+1,N,f,h,k=>by
  by_cases q:∃ i,i<N-1∧f i=f (N-1)
  ·obtain ⟨i,h1,h2⟩:=q
   exact ⟨i,N-1,h1,by omega,h2⟩
  ·have q:∀ i,i<N-1->f i≠f (N-1):=λi h1 h2=>q ⟨i,h1,h2⟩
   obtain ⟨i,j,h1,h2,h3⟩:=zoI M (N-1) (λn=>if f (N-1)<f n then f n-1 else f n) (by omega) λn hn=>by
    have a:=k n (by omega)
    have b:=k (N-1) (by omega)
    have c:=q n hn
    show (if f (N-1)<f n then f n-1 else f n)<M
    split<;>omega
   refine ⟨i,j,h1,by omega,?_⟩
   have a:=q i (by omega)
   have b:=q j h2
   split at h3<;>split at h3<;>omega
def zhC (b:Nat):Nat->Nat->Ji
 | 0,_=>[]
 | k+1,n=>((n%b:Nat):Int) :: zhC b k (n/b)
theorem zdZ {b:Nat}:∀ {k n:Nat},(zhC b k n).length=k
 | 0,_=>rfl
 | k+1,n=>by simp [zhC,zdZ]
theorem zit {b:Nat} (hb:0<b):∀ {k n:Nat},∀ x∈zhC b k n,0≤x∧x<b
 | 0,_,x,h=>by simp [zhC] at h
 | k+1,n,x,h=>by
  simp only [zhC,List.mem_cons] at h
  rcases h with rfl | h
  ·have:=Nat.mod_lt n hb
   omega
  ·exact zit hb x h
theorem zkn {b:Nat} (hb:0<b):∀ {k n m:Nat},n<b^k->m<b^k->zhC b k n=zhC b k m->n=m
 | 0,n,m,h1,h2,_=>by simp at h1 h2;omega
 | k+1,n,m,h1,h2,e=>by
  simp only [zhC,List.cons.injEq] at e
  have h3:=zkn hb (k:=k) (Nat.div_lt_of_lt_mul (by rw [Nat.pow_succ,Nat.mul_comm] at h1;exact h1)) (Nat.div_lt_of_lt_mul (by rw [Nat.pow_succ,Nat.mul_comm] at h2;exact h2)) e.2
  have h4:=Nat.div_add_mod n b
  have h5:=Nat.div_add_mod m b
  rw [h3] at h4
  omega
def enc (W:Nat) (u:Vc):List Nat->Nat
 | []=>0
 | h :: hs=>(u h+W).toNat+(2*W+1)*enc W u hs
theorem zoC {W:Nat} {u:Vc}:∀ {hs:List Nat},(∀ h∈hs,(u h).natAbs≤W)->enc W u hs<(2*W+1)^hs.length
 | [],_=>by simp [enc]
 | h :: hs,k=>by
  have h1:=zoC (hs:=hs) λg hg=>k g (List.mem_cons_of_mem _ hg)
  have h2:=k h List.mem_cons_self
  simp only [enc,List.length_cons,Nat.pow_succ]
  have h3:(2*W+1)*(enc W u hs+1)≤(2*W+1)*(2*W+1)^hs.length:=Nat.mul_le_mul_left _ h1
  rw [Nat.mul_comm ((2*W+1)^hs.length)]
  rw [Nat.mul_add] at h3
  omega
theorem zmx {W:Nat} {u v:Vc}:∀ {hs:List Nat},(∀ h∈hs,(u h).natAbs≤W∧(v h).natAbs≤W)->enc W u hs=enc W v hs->∀ h∈hs,u h=v h
 | [],_,_,h,hh=>by simp at hh
 | g :: hs,k,e,h,hh=>by
  have h2:=k g List.mem_cons_self
  simp only [enc] at e
  have e1:((u g+W).toNat+(2*W+1)*enc W u hs)%(2*W+1)=((v g+W).toNat+(2*W+1)*enc W v hs)%(2*W+1):=by rw [e]
  rw [Nat.add_mul_mod_self_left,Nat.add_mul_mod_self_left,Nat.mod_eq_of_lt (by omega),Nat.mod_eq_of_lt (by omega)] at e1
  have e2:u g=v g:=by omega
  rcases List.mem_cons.mp hh with rfl | hh
  ·exact e2
  ·refine zmx (λx hx=>k x (List.mem_cons_of_mem _ hx)) ?_ h hh
   rw [e1] at e
   exact Nat.eq_of_mul_eq_mul_left (show 0<2*W+1 by omega) (Nat.add_left_cancel e)
theorem zqI {as:List Vc} {hs:List Nat} {B:Nat} (hl:hs.length<as.length) (hB:∀ a∈as,∀ h∈hs,(a h).natAbs≤B) :
  ∃ xs:Ji,xs.length=as.length∧(∃ x∈xs,x≠0)∧(∀ x∈xs,x.natAbs≤(2*(as.length*B)+1)^hs.length)∧∀ h∈hs,comb xs as h=0:=by
 generalize hY:2*(as.length*B)+1=Y
 have hY1:1≤Y:=by omega
 generalize hX:Y^hs.length=X
 have hX1:1≤X:=by rw [← hX];exact Nat.one_le_pow _ _ hY1
 have key:∀ n,∀ h∈hs,(comb (zhC (X+1) as.length n) as h).natAbs≤as.length*(X*B):=λn h hh =>
  zia (λx hx=>by have:=zit (by omega) x hx;omega) λa ha=>hB a ha h hh
 obtain ⟨i,j,h1,h2,h3⟩:=zoI ((2*(as.length*(X*B))+1)^hs.length) ((X+1)^as.length) (λn=>enc (as.length*(X*B)) (comb (zhC (X+1) as.length n) as) hs) (by
  have e1:2*(as.length*(X*B))+1≤Y*X:=by
   rw [← hY,Nat.add_mul,Nat.one_mul,Nat.mul_assoc,Nat.mul_assoc,Nat.mul_comm B X]
   omega
  calc (2*(as.length*(X*B))+1)^hs.length≤(Y*X)^hs.length:=Nat.pow_le_pow_left e1 _
   _=X*X^hs.length:=by rw [Nat.mul_pow,hX]
   _=X^(hs.length+1):=by rw [Nat.pow_succ,Nat.mul_comm]
   _≤X^as.length:=Nat.pow_le_pow_right hX1 hl
   _<(X+1)^as.length:=Nat.pow_lt_pow_left (by omega) (by omega)) λn _=>zoC (key n)
 refine ⟨List.zipWith (·-·) (zhC (X+1) as.length i) (zhC (X+1) as.length j),by simp [zdZ],?_,λx hx=>?_,λh hh=>?_⟩
 ·refine Classical.byContradiction λq=>?_
  have q:∀ x∈List.zipWith (·-·) (zhC (X+1) as.length i) (zhC (X+1) as.length j),x=0:=λx hx=>Classical.byContradiction λz=>q ⟨x,hx,z⟩
  have e:zhC (X+1) as.length i=zhC (X+1) as.length j:=by
   refine List.ext_getElem (by simp [zdZ]) λk k1 k2=>?_
   have:=q _ (List.getElem_mem (l:=List.zipWith (·-·) (zhC (X+1) as.length i) (zhC (X+1) as.length j)) (n:=k) (by simp [zdZ] at *;omega))
   rw [List.getElem_zipWith] at this
   omega
  have:=zkn (by omega) (Nat.lt_trans h1 h2) h2 e
  omega
 ·obtain ⟨k,hk,rfl⟩:=List.getElem_of_mem hx
  have hk':k<as.length:=by simpa [zdZ] using hk
  rw [List.getElem_zipWith]
  have:=zit (b:=X+1) (by omega) _ (List.getElem_mem (l:=zhC (X+1) as.length i) (n:=k) (by rw [zdZ];exact hk'))
  have:=zit (b:=X+1) (by omega) _ (List.getElem_mem (l:=zhC (X+1) as.length j) (n:=k) (by rw [zdZ];exact hk'))
  omega
 ·rw [zkQ _ (by simp [zdZ])]
  have:=zmx (λh hh=>⟨key i h hh,key j h hh⟩) h3 h hh
  omega
theorem first {u:Vc} {c:Nat} (h:u c≠0):∃ d,d≤c∧u d≠0∧∀ i,i<d->u i=0:=by
 induction c using Nat.strongRecOn with
 | _ c ih =>
  by_cases q:∃ i,i<c∧u i≠0
  ·obtain ⟨i,h1,h2⟩:=q
   obtain ⟨d,h3,h4⟩:=ih i h1 h2
   exact ⟨d,by omega,h4⟩
  ·exact ⟨c,Nat.le_refl c,h,λi hi=>Classical.byContradiction λz=>q ⟨i,hi,z⟩⟩
def bnd (k B C:Nat):Nat:=(k+1)*((2*((k+1)*C)+1)^k*B)
theorem zko {k l B C:Nat} (h:k≤l):bnd k B C≤bnd l B C:=by
 unfold bnd
 refine Nat.mul_le_mul (by omega) (Nat.mul_le_mul_right _ ?_)
 refine Nat.le_trans (Nat.pow_le_pow_right (by omega) h) (Nat.pow_le_pow_left ?_ _)
 have:=Nat.mul_le_mul_right C (show k+1≤l+1 by omega)
 omega
structure Wit (A:Vc->Prop) (B E:Nat) (hs:List Nat) (as:List Vc):Prop where
 len:hs.length=as.length
 mem:∀ a∈as,A a
 bd:∀ a∈as,∀ i,(a i).natAbs≤B
 van:∀ u,Sp A u->(∀ h∈hs,u h=0)->∀ i,u i=0
 hd:∀ h∈hs,∃ v,Sp A v∧(∀ i,i<h->v i=0)∧v h≠0∧∀ i,(v i).natAbs≤E
 ind:∀ xs:Ji,xs.length=as.length->(∀ i,comb xs as i=0)->∀ x∈xs,x=0
theorem Wit.nil {B E:Nat}:Wit (λ_=>False) B E [] [] where
 len:=rfl
 mem:=by simp
 bd:=by simp
 van:=λu h _ i=>h.at0 λ_ z=>z.elim
 hd:=by simp
 ind:=λxs h _ x hx=>by rw [List.length_eq_zero_iff.mp h] at hx;simp at hx
theorem Wit.rel {A:Vc->Prop} {B C E:Nat} {hs:List Nat} {as:List Vc} {u:Vc} (W:Wit A B E hs as) (hBC:B≤C) (hu:∀ h∈hs,(u h).natAbs≤C) :
  ∃ (x:Int) (xs:Ji),x≠0∧xs.length=as.length∧x.natAbs≤(2*((as.length+1)*C)+1)^as.length∧(∀ y∈xs,y.natAbs≤(2*((as.length+1)*C)+1)^as.length)∧∀ h∈hs,x*u h+comb xs as h=0:=by
 obtain ⟨xs,h1,⟨z,hz,hz0⟩,h3,h4⟩:=zqI (as:=u :: as) (hs:=hs) (B:=C) (by simp [W.len]) λa ha h hh=>by
  rcases List.mem_cons.mp ha with rfl | ha
  ·exact hu h hh
  ·exact Nat.le_trans (W.bd a ha h) hBC
 rw [W.len,List.length_cons] at h3
 match xs,h1 with
 | x :: xs,h1 =>
  refine ⟨x,xs,λq=>?_,by simpa using h1,h3 x List.mem_cons_self,λy hy=>h3 y (List.mem_cons_of_mem _ hy),λh hh=>by have:=h4 h hh;simpa [comb] using this⟩
  subst q
  have k1:∀ i,comb xs as i=0:=W.van _ (zgN W.mem) λh hh=>by have:=h4 h hh;simpa [comb] using this
  have k2:=W.ind xs (by simpa using h1) k1
  rcases List.mem_cons.mp hz with rfl | hz
  ·exact hz0 rfl
  ·exact hz0 (k2 z hz)
theorem Wit.step {A:Vc->Prop} {B E:Nat} {hs:List Nat} {as:List Vc} {a:Vc} (W:Wit A B E hs as) (ha:∀ i,(a i).natAbs≤B) (hE:bnd as.length B B≤E) :
  ∃ hs' as',Wit (λu=>A u∨u=a) B E hs' as'∧as'.length≤as.length+1:=by
 obtain ⟨x,xs,hx,hl,b1,b2,h0⟩:=W.rel (u:=a) (Nat.le_refl B) λh _=>ha h
 have sp1:Sp A (comb xs as):=zgN W.mem
 have up:∀ u,Sp A u->Sp (λu=>A u∨u=a) u:=λu hu=>hu.mono λ_=>.inl
 have hva:Sp (λu=>A u∨u=a) (λi=>x*a i+comb xs as i):=((Sp.mem (.inr rfl)).smul x).plus (up _ sp1)
 by_cases q:∃ i,x*a i+comb xs as i≠0
 ·obtain ⟨i,hi⟩:=q
  obtain ⟨c,_,hc,hc0⟩:=first (u:=λi=>x*a i+comb xs as i) hi
  refine ⟨c :: hs,a :: as,⟨by simp [W.len],λb hb=>?_,λb hb=>?_,λu hu hv=>?_,λh hh=>?_,λys hy hys=>?_⟩,by simp⟩
  ·rcases List.mem_cons.mp hb with rfl | hb
   ·exact .inr rfl
   ·exact .inl (W.mem b hb)
  ·rcases List.mem_cons.mp hb with rfl | hb
   ·exact ha
   ·exact W.bd b hb
  ·obtain ⟨w,y,hw,e⟩:=hu.split
   have k1:∀ i,x*w i-y*comb xs as i=0:=λi=>by
    have:=W.van _ (hw.lin x (-y) sp1) (λh hh=>by
     have e1:=e h
     rw [hv h (List.mem_cons_of_mem _ hh)] at e1
     have e2:=h0 h hh
     grind) i
    grind
   have k2:y=0:=by
    have e1:=e c
    rw [hv c List.mem_cons_self] at e1
    have e2:=k1 c
    have e3:y*(x*a c+comb xs as c)=0:=by grind
    rcases Int.mul_eq_zero.mp e3 with z | z
    ·exact z
    ·exact (hc z).elim
   intro i
   have e1:=e i
   have e2:=k1 i
   have e3:x*u i=0:=by grind
   exact (Int.mul_eq_zero.mp e3).resolve_left hx
  ·rcases List.mem_cons.mp hh with rfl | hh
   ·refine ⟨_,hva,hc0,hc,λi=>?_⟩
    have e1:=zia (i:=i) b2 λb hb=>W.bd b hb i
    have e2:(x*a i).natAbs≤(2*((as.length+1)*B)+1)^as.length*B:=by rw [Int.natAbs_mul];exact Nat.mul_le_mul b1 (ha i)
    unfold bnd at hE
    rw [Nat.add_mul,Nat.one_mul] at hE
    show (x*a i+comb xs as i).natAbs≤E
    omega
   ·obtain ⟨v,q1,q2⟩:=W.hd h hh
    exact ⟨v,up v q1,q2⟩
  ·match ys,hy with
   | y :: ys,hy =>
    have k1:∀ i,x*comb ys as i-y*comb xs as i=0:=λi=>by
     have:=W.van _ ((zgN (xs:=ys) W.mem).lin x (-y) sp1) (λh hh=>by
      have e1:=hys h
      simp only [comb] at e1
      have e2:=h0 h hh
      grind) i
     grind
    have k2:y=0:=by
     have e1:=hys c
     simp only [comb] at e1
     have e2:=k1 c
     have e3:y*(x*a c+comb xs as c)=0:=by grind
     rcases Int.mul_eq_zero.mp e3 with z | z
     ·exact z
     ·exact (hc z).elim
    subst k2
    have k3:=W.ind ys (by simpa using hy) λi=>by have:=hys i;simpa [comb] using this
    intro z hz
    rcases List.mem_cons.mp hz with rfl | hz
    ·rfl
    ·exact k3 z hz
 ·have q:∀ i,x*a i+comb xs as i=0:=λi=>Classical.byContradiction λz=>q ⟨i,z⟩
  refine ⟨hs,as,⟨W.len,λb hb=>.inl (W.mem b hb),W.bd,λu hu hv=>?_,λh hh=>?_,W.ind⟩,by omega⟩
  ·obtain ⟨w,y,hw,e⟩:=hu.split
   have k1:∀ i,x*w i-y*comb xs as i=0:=λi=>by
    have:=W.van _ (hw.lin x (-y) sp1) (λh hh=>by
     have e1:=e h
     rw [hv h hh] at e1
     have e2:=h0 h hh
     grind) i
    grind
   intro i
   have e1:=e i
   have e2:=k1 i
   have e3:=q i
   have e4:x*u i=0:=by grind
   exact (Int.mul_eq_zero.mp e4).resolve_left hx
  ·obtain ⟨v,q1,q2⟩:=W.hd h hh
   exact ⟨v,up v q1,q2⟩
theorem Wit.small {A:Vc->Prop} {B C E:Nat} {hs:List Nat} {as:List Vc} {u:Vc} (W:Wit A B E hs as) (hBC:B≤C) (hs_:Sp A u) (hu:∀ h∈hs,(u h).natAbs≤C) (i:Nat):(u i).natAbs≤bnd as.length B C:=by
 obtain ⟨x,xs,hx,hl,b1,b2,h0⟩:=W.rel hBC hu
 have k:=W.van _ ((hs_.smul x).plus (zgN (xs:=xs) W.mem)) h0 i
 have e1:=zia (i:=i) b2 λb hb=>W.bd b hb i
 have e2:(x*u i).natAbs=(comb xs as i).natAbs:=by
  have k:x*u i+comb xs as i=0:=k
  omega
 rw [Int.natAbs_mul] at e2
 have e3:(u i).natAbs≤x.natAbs*(u i).natAbs:=Nat.le_mul_of_pos_left _ (Int.natAbs_pos.mpr hx)
 unfold bnd
 rw [Nat.add_mul]
 omega
theorem Wit.head {A:Vc->Prop} {B E:Nat} {hs:List Nat} {as:List Vc} {u:Vc} {h:Nat} (W:Wit A B E hs as) (hu:Sp A u) (h0:∀ i,i<h->u i=0) (h1:u h≠0):h∈hs:=by
 refine Classical.byContradiction λq=>?_
 have hm:∃ n,∀ g∈hs,g<n:=by
  clear W q
  induction hs with
  | nil=>exact ⟨0,by simp⟩
  | cons g hs ih =>
   obtain ⟨n,hn⟩:=ih
   exact ⟨max n (g+1),λk hk=>by
    rcases List.mem_cons.mp hk with rfl | hk
    ·omega
    ·have:=hn k hk;omega⟩
 obtain ⟨n,hn⟩:=hm
 have main:∀ (d t:Nat) (u:Vc),n-t=d->h<t->Sp A u->u h≠0->(∀ g∈hs,g<t->u g=0)->False:=by
  intro d
  induction d with
  | zero=>exact λt u e _ hu h1 k=>h1 (W.van u hu (λg hg=>k g hg (by have:=hn g hg;omega)) h)
  | succ d ih =>
   intro t u e ht hu h1 k
   by_cases z:t∈hs
   ·obtain ⟨v,v1,v2,v3,_⟩:=W.hd t z
    refine ih (t+1) _ (by omega) (by omega) (hu.lin (v t) (-(u t)) v1) ?_ λg hg hgt=>?_
    ·show v t*u h+-u t*v h≠0
     rw [v2 h ht]
     intro y
     rcases Int.mul_eq_zero.mp (show v t*u h=0 by grind) with y | y
     ·exact v3 y
     ·exact h1 y
    ·show v t*u g+-u t*v g=0
     by_cases y:g=t
     ·subst y;grind
     ·rw [v2 g (by omega),k g hg (by omega)];grind
   ·exact ih (t+1) u (by omega) (by omega) hu h1 λg hg hgt=>k g hg (by
     have:g≠t:=λy=>z (y ▸ hg)
     omega)
 exact main _ (h+1) u rfl (by omega) hu h1 λg hg hgt=>by
  by_cases y:g=h
  ·exact (q (y ▸ hg)).elim
  ·exact h0 g (by omega)
end Lat
namespace L2
open PySem PySem.Spec PyProof.Rows
def whl {S:Type} (c:S->Bool) (f:S->S):Nat->S->S
 | 0,s=>s
 | n+1,s=>bif c s then whl c f n (f s) else s
theorem zkr {S:Type} {c:S->Bool} {f:S->S} {s:S} (h:c s=false):∀ n,whl c f n s=s
 | 0=>rfl
 | n+1=>by rw [whl,h];rfl
theorem zoK {S:Type} {c:S->Bool} {f:S->S} {s:S} (h:c s=true) (n:Nat):whl c f (n+1) s=whl c f n (f s):=by rw [whl,h];rfl
theorem zjI {S:Type} {c:S->Bool} {f:S->S} {I:S->Prop} {μ:S->Nat} (hs:∀ s,I s->c s=true->I (f s)∧μ (f s)<μ s):∀ {n:Nat} {s:S},I s->μ s≤n->I (whl c f n s)∧c (whl c f n s)=false
 | 0,s,h,k=>⟨h,by
  show c s=false
  cases q:c s with
  | false=>rfl
  | true=>have:=(hs s h q).2;omega⟩
 | n+1,s,h,k=>by
  cases q:c s with
  | false=>rw [zkr q];exact ⟨h,q⟩
  | true =>
   rw [zoK q]
   exact zjI hs (hs s h q).1 (by have:=(hs s h q).2;omega)
section
variable {E:XS} {Γ:Ctx} {β:Type} {u:TS}
theorem zl1 {S:Type} {tc:TT} {tb:TS} {s0:S} (G:S->Ctx) (fo:β->Oc) {kk:S->β} (c:S->Bool) (f:S->S) (I:S->Prop) (μ:S->Nat) (n:Nat) (w:Wk Γ (G s0)) (h0:I s0) (hn:μ s0≤n)
  (body:∀ s,I s->EvT (G s) tc (c s)∧(c s=true->(I (f s)∧μ (f s)<μ s)∧Run E (G s) tb (.nx (G (f s)))))
  (k:∀ s,s=whl c f n s0->I s->c s=false->Run E (G s) u (fo (kk s))):Run E Γ (zeM (zoH tc tb) u) (fo (Let (whl c f n s0) kk)):=λF0 Hb F H σ own D a q=>by
 obtain ⟨i1,i2⟩:=zjI (n:=n) (λs hi hc=>((body s hi).2 hc).1) h0 hn
 have kf:=k _ rfl i1 i2
 refine ⟨λm σ H=>∃ s F own,At F0 Hb F H σ own (G s)∧I s∧μ s=m∧∃ j,μ s≤j∧whl c f j s=whl c f n s0,⟨_,s0,F,own,a.wk w,h0,rfl,n,hn,rfl⟩,?_⟩
 rintro m σ1 H1 ⟨s,F1,own1,a1,hI,rfl,j,hj,ej⟩
 obtain ⟨b1,b2⟩:=body s hI
 refine b1 F0 Hb F1 H1 σ1 own1 _ a1 λF2 H2 g=>?_
 cases e:c s with
 | false =>
  rw [if_neg Bool.false_ne_true]
  rw [zkr e] at ej
  rw [← ej] at kf
  exact kf F0 Hb F2 H2 σ1 own1 D (a1.grow g) (by rw [ej];exact q)
 | true =>
  rw [if_pos rfl]
  obtain ⟨⟨c1,c2⟩,c3⟩:=b2 e
  refine ⟨λσ' H'=>∃ F own,At F0 Hb F H' σ' own (G (f s)),λσ' H' ⟨F',own',a'⟩=>⟨_,c2,f s,F',own',a',c1,rfl,j-1,by omega,?_⟩,?_⟩
  ·rw [← ej,show j=(j-1)+1 by omega,zoK e];simp
  ·exact c3 F0 Hb F2 H2 σ1 own1 _ (a1.grow g) λF' H' σ' own' a'=>⟨F',own',a'⟩
end
end L2
namespace Lat
def vec (l:Ji):Vc:=λi=>l.getD i 0
def hd:Ji->Nat
 | []=>0
 | x :: xs=>bif (!decide (x=0)) then 0 else hd xs+1
def add (l s:Ji):Ji:=List.map (λ(x:Int×Int)=>x.1+x.2) (List.zip l s)
def sub (l s:Ji):Ji:=List.map (λ(x:Int×Int)=>x.1-x.2) (List.zip l s)
def mul (l:Ji) (c:Int):Ji:=List.map (λ(x:Int)=>x*c) l
theorem zmo {x:Int} {xs:Ji}:vec (x :: xs) 0=x:=rfl
theorem zbm {x:Int} {xs:Ji} {i:Nat}:vec (x :: xs) (i+1)=vec xs i:=by simp [vec]
theorem zbf {l:Ji} {i:Nat} (h:l.length≤i):vec l i=0:=by simp [vec,List.getD_eq_getElem?_getD,List.getElem?_eq_none h]
theorem zm0 {l:Ji} {i:Nat} (h:i<l.length):vec l i∈l:=by
 simp only [vec,List.getD_eq_getElem?_getD,List.getElem?_eq_getElem h,Option.getD_some];exact List.getElem_mem h
theorem zh6 {l:Ji} {x:Int} (h:x∈l):∃ i,i<l.length∧vec l i=x:=by
 obtain ⟨i,hi,e⟩:=List.getElem_of_mem h
 exact ⟨i,hi,by simp [vec,List.getD_eq_getElem?_getD,List.getElem?_eq_getElem hi,e]⟩
theorem zjV {l s:Ji} (h:l.length=s.length) (e:∀ i,vec l i=vec s i):l=s:=by
 refine List.ext_getElem h λi h1 h2=>?_
 have:=e i
 simpa [vec,List.getD_eq_getElem?_getD,List.getElem?_eq_getElem h1,List.getElem?_eq_getElem h2] using this
theorem zop {l:Ji} {B:Nat} (h:∀ x∈l,x.natAbs≤B) (i:Nat):(vec l i).natAbs≤B:=by
 by_cases q:i<l.length
 ·exact h _ (zm0 q)
 ·rw [zbf (by omega)];exact Nat.zero_le _
theorem zmq {l s:Ji} (h:l.length=s.length):(sub l s).length=l.length:=by simp [sub,h]
theorem zjF {l s:Ji} (h:l.length=s.length):(add l s).length=l.length:=by simp [add,h]
theorem zba {l:Ji} {c:Int}:(mul l c).length=l.length:=by simp [mul]
theorem zju:∀ {l s:Ji} {i:Nat},l.length=s.length->vec (sub l s) i=vec l i-vec s i
 | [],[],i,_=>by simp [sub,vec]
 | x :: l,y :: s,0,_=>rfl
 | x :: l,y :: s,i+1,h=>by
  have:=zju (l:=l) (s:=s) (i:=i) (by simpa using h)
  rw [zbm,zbm,← this]
  exact zbm
theorem zjR:∀ {l s:Ji} {i:Nat},l.length=s.length->vec (add l s) i=vec l i+vec s i
 | [],[],i,_=>by simp [add,vec]
 | x :: l,y :: s,0,_=>rfl
 | x :: l,y :: s,i+1,h=>by
  have:=zjR (l:=l) (s:=s) (i:=i) (by simpa using h)
  rw [zbm,zbm,← this]
  exact zbm
theorem zc9:∀ {l:Ji} {c:Int} {i:Nat},vec (mul l c) i=vec l i*c
 | [],c,i=>by simp [mul,vec]
 | x :: l,c,0=>rfl
 | x :: l,c,i+1=>by
  have:=zc9 (l:=l) (c:=c) (i:=i)
  rw [zbm,← this]
  exact zbm
theorem zqe:∀ {l:Ji},hd l≤l.length
 | []=>Nat.le_refl 0
 | x :: xs=>by
  unfold hd
  cases (!decide (x=0))
  ·exact Nat.succ_le_succ zqe
  ·exact Nat.zero_le _
theorem za8:∀ {l:Ji} {i:Nat},i<hd l->vec l i=0
 | [],i,h=>absurd h (Nat.not_lt_zero i)
 | x :: xs,i,h=>by
  unfold hd at h
  by_cases q:x=0
  ·rw [show (!decide (x=0))=false by simp [q]] at h
   have h:i<hd xs+1:=h
   cases i with
   | zero=>exact q
   | succ i=>rw [zbm];exact za8 (by omega)
  ·rw [show (!decide (x=0))=true by simp [q]] at h
   exact absurd h (Nat.not_lt_zero i)
theorem zgl:∀ {l:Ji},hd l<l.length->vec l (hd l)≠0
 | [],h=>absurd h (Nat.not_lt_zero _)
 | x :: xs,h=>by
  unfold hd at h ⊢
  by_cases q:x=0
  ·rw [show (!decide (x=0))=false by simp [q]] at h ⊢
   have h:hd xs+1<xs.length+1:=h
   show vec (x :: xs) (hd xs+1)≠0
   rw [zbm]
   exact zgl (by omega)
  ·rw [show (!decide (x=0))=true by simp [q]]
   exact q
theorem zjf {l:Ji} {d:Nat} (h:vec l d≠0) (k:∀ i,i<d->vec l i=0):hd l=d:=by
 have h1:¬ hd l<d:=λq=>by
  have hl:d<l.length:=Nat.lt_of_not_le λz=>h (zbf z)
  exact zgl (by omega) (k _ q)
 have h2:¬ d<hd l:=λq=>h (za8 q)
 omega
theorem zqB {l:Ji} {d:Nat} (hl:d≤l.length) (k:∀ i,i<d->vec l i=0):d≤hd l:=by
 refine Nat.le_of_not_lt λq=>?_
 exact zgl (by omega) (k _ q)
def quo (l s:Ji):Int:=vec l (hd s)/vec s (hd s)
def zj7 (l s:Ji):Ji:=bif (!decide (quo l s=0)) then sub l (mul s (quo l s)) else l
def low (l:Ji) (ss:Jq):Ji:=ss.foldl zj7 l
theorem ziA {l s:Ji} (h:l.length=s.length):(zj7 l s).length=l.length:=by
 unfold zj7
 cases (!decide (quo l s=0))
 ·rfl
 ·show (sub l (mul s (quo l s))).length=_
  rw [zmq (by rw [zba];exact h)]
theorem zgJ {l s:Ji} (h:l.length=s.length) (i:Nat):vec (zj7 l s) i=vec l i-vec s i*quo l s:=by
 unfold zj7
 by_cases q:quo l s=0
 ·rw [show (!decide (quo l s=0))=false by simp [q],q]
  show vec l i=_
  omega
 ·rw [show (!decide (quo l s=0))=true by simp [q]]
  show vec (sub l (mul s (quo l s))) i=_
  rw [zju (by rw [zba];exact h),zc9]
def Ech (n:Nat):Nat->Jq->Prop
 | _,[]=>True
 | lo,s :: ss=>s.length=n∧lo≤hd s∧hd s<n∧0<vec s (hd s)∧Ech n (hd s+1) ss
def SpL (ss:Jq):Vc->Prop:=Sp (λu=>∃ s∈ss,u=vec s)
theorem Ech.mono {n:Nat}:∀ {ss:Jq} {lo lo':Nat},Ech n lo ss->lo'≤lo->Ech n lo' ss
 | [],_,_,_,_=>trivial
 | s :: ss,lo,lo',h,k=>⟨h.1,Nat.le_trans k h.2.1,h.2.2⟩
theorem Ech.mem {n:Nat}:∀ {ss:Jq} {lo:Nat},Ech n lo ss->∀ t∈ss,t.length=n∧lo≤hd t∧hd t<n∧0<vec t (hd t)
 | [],_,_,t,h=>by simp at h
 | s :: ss,lo,h,t,ht=>by
  rcases List.mem_cons.mp ht with rfl | ht
  ·exact ⟨h.1,h.2.1,h.2.2.1,h.2.2.2.1⟩
  ·obtain ⟨a,b,c,d⟩:=Ech.mem h.2.2.2.2 t ht
   have:=h.2.1
   exact ⟨a,by omega,c,d⟩
theorem Ech.before {n lo i:Nat} {ss:Jq} (h:Ech n lo ss) (hi:i<lo):∀ t∈ss,vec t i=0:=λt ht=>za8 (by have:=(h.mem t ht).2.1;omega)
theorem SpL.before {n lo i:Nat} {ss:Jq} {u:Vc} (h:Ech n lo ss) (hi:i<lo) (hu:SpL ss u):u i=0:=Sp.at0 (λa ⟨s,hs,e⟩=>by rw [e];exact h.before hi s hs) hu
theorem SpL.cons {s:Ji} {ss:Jq} {u:Vc} (h:SpL (s :: ss) u):∃ w y,SpL ss w∧∀ i,u i=w i+y*vec s i:=by
 have:Sp (λu=>(∃ t∈ss,u=vec t)∨u=vec s) u:=Sp.mono (λa ⟨t,ht,e⟩=>by
  rcases List.mem_cons.mp ht with rfl | ht
  ·exact .inr e
  ·exact .inl ⟨t,ht,e⟩) h
 exact this.split
theorem SpL.mem {ss:Jq} {s:Ji} (h:s∈ss):SpL ss (vec s):=Sp.mem ⟨s,h,rfl⟩
theorem SpL.up {s:Ji} {ss:Jq} {u:Vc} (h:SpL ss u):SpL (s :: ss) u:=Sp.mono (λ_ ⟨t,ht,e⟩=>⟨t,List.mem_cons_of_mem _ ht,e⟩) h
theorem SpL.sub {ss tt:Jq} {u:Vc} (k:∀ s∈ss,SpL tt (vec s)) (h:SpL ss u):SpL tt u:=Sp.sub (λ_ ⟨s,hs,e⟩=>e ▸ k s hs) h
theorem zkm {n:Nat}:∀ {ss:Jq} {lo:Nat} {u:Vc},Ech n lo ss->SpL ss u->(∀ t∈ss,0≤u (hd t)∧u (hd t)<vec t (hd t))->∀ i,u i=0
 | [],_,u,_,h,_,i=>Sp.at0 (λ_ ⟨_,z,_⟩=>by simp at z) h
 | s :: ss,lo,u,e,h,k,i=>by
  obtain ⟨w,y,hw,hu⟩:=h.cons
  have e1:=SpL.before e.2.2.2.2 (Nat.lt_succ_self (hd s)) hw
  have e2:=hu (hd s)
  have e3:=k s List.mem_cons_self
  have e4:=e.2.2.2.1
  rw [e1] at e2
  have y0:y=0:=by
   rw [e2,Int.zero_add] at e3
   refine Classical.byContradiction λq=>?_
   rcases Int.lt_or_gt_of_ne q with q | q
   ·have:=Int.mul_neg_of_neg_of_pos q e4
    omega
   ·have:=Int.mul_le_mul_of_nonneg_right (show (1:Int)≤y by omega) (Int.le_of_lt e4)
    omega
  have hu':∀ i,u i=w i:=λi=>by rw [hu i,y0];omega
  have:u=w:=funext hu'
  subst this
  exact zkm e.2.2.2.2 hw (λt ht=>k t (List.mem_cons_of_mem _ ht)) i
theorem zii {n:Nat}:∀ {ss:Jq} {lo:Nat} {u:Vc} {t:Ji},Ech n lo ss->SpL ss u->t∈ss->(∀ i,i<hd t->u i=0)->vec t (hd t) ∣ u (hd t)
 | [],_,_,t,_,_,h,_=>by simp at h
 | s :: ss,lo,u,t,e,h,ht,k=>by
  obtain ⟨w,y,hw,hu⟩:=h.cons
  have e1:=SpL.before e.2.2.2.2 (Nat.lt_succ_self (hd s)) hw
  rcases List.mem_cons.mp ht with rfl | ht
  ·rw [hu,e1];exact ⟨y,by grind⟩
  ·have e5:=(Ech.mem e.2.2.2.2 t ht).2.1
   have e6:=hu (hd s)
   rw [k (hd s) (by omega),e1] at e6
   have y0:y=0:=(Int.mul_eq_zero.mp (show y*vec s (hd s)=0 by omega)).resolve_right (by have:=e.2.2.2.1;omega)
   have:u=w:=funext λi=>by rw [hu i,y0];omega
   subst this
   exact zii e.2.2.2.2 hw ht k
theorem zfW {n:Nat}:∀ {ss:Jq} {lo:Nat} {u:Vc} {h:Nat},Ech n lo ss->SpL ss u->(∀ i,i<h->u i=0)->u h≠0->∃ t∈ss,hd t=h
 | [],_,u,h,_,hu,_,q=>(q (Sp.at0 (λ_ ⟨_,z,_⟩=>by simp at z) hu)).elim
 | s :: ss,lo,u,h,e,hu,k,q=>by
  obtain ⟨w,y,hw,hu⟩:=hu.cons
  by_cases z:hd s=h
  ·exact ⟨s,List.mem_cons_self,z⟩
  ·have e1:=SpL.before e.2.2.2.2 (Nat.lt_succ_self (hd s)) hw
   by_cases y0:y=0
   ·have:u=w:=funext λi=>by rw [hu i,y0];omega
    subst this
    obtain ⟨t,ht,e⟩:=zfW e.2.2.2.2 hw k q
    exact ⟨t,List.mem_cons_of_mem _ ht,e⟩
   ·have e6:=hu (hd s)
    rw [e1,Int.zero_add] at e6
    have e7:u (hd s)≠0:=by
     rw [e6];intro z;rcases Int.mul_eq_zero.mp z with z | z
     ·exact y0 z
     ·have:=e.2.2.2.1;omega
    have e8:h<hd s:=Nat.lt_of_not_le λz'=>e7 (k _ (by omega))
    have e9:w h=0:=SpL.before e.2.2.2.2 (Nat.lt_succ_of_lt e8) hw
    rw [hu h,e9,za8 e8] at q
    simp at q
theorem zbH {n:Nat}:∀ {ss:Jq} {lo:Nat} {l:Ji},Ech n lo ss->l.length=n →
  (low l ss).length=n∧SpL ss (λi=>vec l i-vec (low l ss) i)∧(∀ t∈ss,0≤vec (low l ss) (hd t)∧vec (low l ss) (hd t)<vec t (hd t))∧∀ i,i<lo->vec (low l ss) i=vec l i
 | [],lo,l,_,h=>⟨h,Sp.zero.conv λi=>by show (0:Int)=vec l i-vec l i;omega,by simp,λ_ _=>rfl⟩
 | s :: ss,lo,l,e,h=>by
  have hl:l.length=s.length:=by rw [h,e.1]
  obtain ⟨a,b,c,d⟩:=zbH (l:=zj7 l s) e.2.2.2.2 (by rw [ziA hl,h])
  refine ⟨a,?_,λt ht=>?_,λi hi=>?_⟩
  ·refine ((SpL.up (s:=s) b).plus (((SpL.mem (ss:=s::ss) List.mem_cons_self)).smul (quo l s))).conv λi=>?_
   rw [zgJ hl]
   show vec l i-vec s i*quo l s-vec (low (zj7 l s) ss) i+quo l s*vec s i=vec l i-vec (low (zj7 l s) ss) i
   rw [Int.mul_comm (quo l s)];omega
  ·rcases List.mem_cons.mp ht with rfl | ht
   ·show 0≤vec (low (zj7 l t) ss) (hd t)∧vec (low (zj7 l t) ss) (hd t)<_
    rw [d (hd t) (Nat.lt_succ_self _),zgJ hl]
    have p:=e.2.2.2.1
    have e1:=Int.mul_ediv_add_emod (vec l (hd t)) (vec t (hd t))
    have e2:=Int.emod_nonneg (vec l (hd t)) (show vec t (hd t)≠0 by omega)
    have e3:=Int.emod_lt_of_pos (vec l (hd t)) p
    unfold quo
    omega
   ·exact c t ht
  ·show vec (low (zj7 l s) ss) i=_
   have:=e.2.1
   rw [d i (by omega),zgJ hl,za8 (show i<hd s by omega)];omega
end Lat
namespace Lat
abbrev G4:=Int×Int×Int×Int
def cmC (s:G4):Bool:=!decide (s.2.1=(0:Int))
def cmF (s:G4):G4:=(s.2.1,s.1-s.1/s.2.1*s.2.1,s.2.2.2,s.2.2.1-s.1/s.2.1*s.2.2.2)
structure GI (one other:Int) (s:G4):Prop where
 g:0<s.1
 m:0≤s.2.1
 gb:s.1≤one+other
 mb:s.2.1≤one+other
 tb:-other≤s.2.2.1∧s.2.2.1≤other
 lb:-other≤s.2.2.2∧s.2.2.2≤other
 sg:(0≤s.2.2.1∧s.2.2.2≤0∧s.2.1*s.2.2.1-s.1*s.2.2.2=other)∨(s.2.2.1≤0∧0≤s.2.2.2∧s.1*s.2.2.2-s.2.1*s.2.2.1=other)
 bg:∃ y,s.1=s.2.2.1*one+y*other
 bm:∃ y,s.2.1=s.2.2.2*one+y*other
 d1:∃ p q,one=p*s.1+q*s.2.1
 d2:∃ p q,other=p*s.1+q*s.2.1
theorem GI.start {one other:Int} (h1:0<one) (h2:0<other):GI one other (one,other,1,0) where
 g:=h1
 m:=by show 0≤other;omega
 gb:=by show one≤one+other;omega
 mb:=by show other≤one+other;omega
 tb:=by show -other≤1∧1≤other;omega
 lb:=by show -other≤0∧0≤other;omega
 sg:=.inl (by show (0:Int)≤1∧(0:Int)≤0∧other*1-one*0=other;omega)
 bg:=⟨0,by show one=1*one+0*other;omega⟩
 bm:=⟨1,by show other=0*one+1*other;omega⟩
 d1:=⟨1,0,by show one=1*one+0*other;omega⟩
 d2:=⟨0,1,by show other=0*one+1*other;omega⟩
theorem GI.step {one other:Int} {s:G4} (I:GI one other s) (hc:cmC s=true):GI one other (cmF s)∧(cmF s).2.1.toNat<s.2.1.toNat:=by
 obtain ⟨g,m,t,l⟩:=s
 obtain ⟨h1,h2,h3,h4,h5,h6,h7,⟨y1,h8⟩,⟨y2,h9⟩,⟨p1,q1,hA⟩,⟨p2,q2,hB⟩⟩:=I
 simp only at h1 h2 h3 h4 h5 h6 h7 h8 h9 hA hB
 have hm:0<m:=by
  unfold cmC at hc
  simp only [Bool.not_eq_true',decide_eq_false_iff_not] at hc
  omega
 have e1:=Int.mul_ediv_add_emod g m
 have e2:=Int.emod_nonneg g (show m≠0 by omega)
 have e3:=Int.emod_lt_of_pos g hm
 have e4:0≤g/m:=Int.ediv_nonneg (by omega) (by omega)
 have e5:g-g/m*m=g%m:=by rw [Int.mul_comm];omega
 show GI one other (m,g-g/m*m,l,t-g/m*l)∧(g-g/m*m).toNat<m.toNat
 rw [e5]
 generalize hq:g/m=q at *
 generalize hr:g%m=r at *
 have eg:g=m*q+r:=by omega
 have sg:(0≤l∧t-q*l≤0∧r*l-m*(t-q*l)=other)∨(l≤0∧0≤t-q*l∧m*(t-q*l)-r*l=other):=by
  rcases h7 with ⟨a,b,c⟩ | ⟨a,b,c⟩
  ·refine .inr ⟨b,?_,by grind⟩
   have:=Int.mul_nonneg e4 (show (0:Int)≤-l by omega)
   grind
  ·refine .inl ⟨b,?_,by grind⟩
   have:=Int.mul_nonneg e4 b
   omega
 have hl:-other≤t-q*l∧t-q*l≤other:=by
  rcases sg with ⟨a,b,c⟩ | ⟨a,b,c⟩
  ·have k1:=Int.mul_nonneg e2 a
   have k2:=Int.mul_le_mul_of_nonneg_right (show (1:Int)≤m by omega) (show (0:Int)≤-(t-q*l) by omega)
   have k3:m*-(t-q*l)=-(m*(t-q*l)):=by grind
   rw [k3] at k2
   omega
  ·have k1:=Int.mul_nonneg e2 (show (0:Int)≤-l by omega)
   have k2:=Int.mul_le_mul_of_nonneg_right (show (1:Int)≤m by omega) b
   have k3:r*-l=-(r*l):=by grind
   rw [k3] at k1
   omega
 refine ⟨⟨hm,e2,h4,by show r≤_;omega,h6,hl,sg,⟨y2,h9⟩,⟨y1-q*y2,?_⟩,⟨p1*q+q1,p1,?_⟩,⟨p2*q+q2,p2,?_⟩⟩,by omega⟩
 ·show r=(t-q*l)*one+(y1-q*y2)*other
  grind
 ·show one=(p1*q+q1)*m+p1*r
  grind
 ·show other=(p2*q+q2)*m+p2*r
  grind
structure Cm (one other g x y:Int):Prop where
 pos:0<g
 le:g≤one+other
 xb:-other≤x∧x≤other
 eq:g=x*one+y*other
 d1:one/g*g=one
 d2:other/g*g=other
theorem GI.done {one other:Int} {s:G4} (h2:0<other) (I:GI one other s) (hc:cmC s=false):Cm one other s.1 s.2.2.1 ((s.1-s.2.2.1*one)/other):=by
 obtain ⟨g,m,t,l⟩:=s
 obtain ⟨h1,_,h3,_,h5,_,_,⟨y1,h8⟩,_,⟨p1,q1,hA⟩,⟨p2,q2,hB⟩⟩:=I
 simp only at h1 h3 h5 h8 hA hB
 have hm:m=0:=by
  unfold cmC at hc
  simpa using hc
 subst hm
 have e:(g-t*one)/other=y1:=by
  rw [show g-t*one=y1*other by omega]
  exact Int.mul_ediv_cancel _ (by omega)
 refine ⟨h1,h3,h5,?_,?_,?_⟩
 ·show g=t*one+(g-t*one)/other*other
  rw [e];exact h8
 ·exact Int.ediv_mul_cancel ⟨p1,by show one=g*p1;rw [Int.mul_comm];omega⟩
 ·exact Int.ediv_mul_cancel ⟨p2,by show other=g*p2;rw [Int.mul_comm];omega⟩
def mg1 (s l:Ji) (x y:Int):Ji:=add (mul s x) (mul l y)
def mg2 (s l:Ji) (g:Int):Ji:=sub (mul l (vec s (hd s)/g)) (mul s (vec l (hd s)/g))
theorem zgW {s l:Ji} {x y:Int} (h:s.length=l.length) (i:Nat):vec (mg1 s l x y) i=x*vec s i+y*vec l i:=by
 unfold mg1
 rw [zjR (by rw [zba,zba,h]),zc9,zc9,Int.mul_comm,Int.mul_comm (vec l i)]
theorem zix {s l:Ji} {g:Int} (h:s.length=l.length) (i:Nat):vec (mg2 s l g) i=vec s (hd s)/g*vec l i-vec l (hd s)/g*vec s i:=by
 unfold mg2
 rw [zju (by rw [zba,zba,h]),zc9,zc9,Int.mul_comm,Int.mul_comm (vec s i)]
theorem zmw {s l:Ji} {x y:Int} (h:s.length=l.length):((mg1 s l x y)).length=s.length:=by unfold mg1;rw [zjF (by rw [zba,zba,h]),zba]
theorem zlT {s l:Ji} {g:Int} (h:s.length=l.length):((mg2 s l g)).length=s.length:=by unfold mg2;rw [zmq (by rw [zba,zba,h]),zba,h]
theorem zmI {s l:Ji} {g x y:Int} (h:s.length=l.length) (C:Cm (vec s (hd s)) (vec l (hd s)) g x y) (i:Nat) :
  vec s i=vec s (hd s)/g*vec (mg1 s l x y) i-y*vec (mg2 s l g) i∧vec l i=vec l (hd s)/g*vec (mg1 s l x y) i+x*vec (mg2 s l g) i:=by
 rw [zgW h,zix h]
 have e1:=C.eq
 have e2:=C.d1
 have e3:=C.d2
 have e4:=C.pos
 generalize vec s (hd s)=a at *
 generalize vec l (hd s)=b at *
 generalize a/g=p at *
 generalize b/g=q at *
 have u:x*p+y*q=1:=by
  have:(x*p+y*q-1)*g=0:=by grind
  rcases Int.mul_eq_zero.mp this with z | z<;>omega
 constructor<;>grind
def upr (l:Ji):Ji:=bif decide (vec l (hd l)<(0:Int)) then mul l (-(1:Int)) else l
theorem zm7 {l:Ji}:(upr l).length=l.length:=by
 unfold upr
 cases decide (vec l (hd l)<(0:Int))
 ·rfl
 ·exact zba
theorem zjP {l:Ji}:∃ c:Int,c*c=1∧(∀ i,vec (upr l) i=c*vec l i)∧0≤c*vec l (hd l):=by
 unfold upr
 by_cases q:vec l (hd l)<0
 ·rw [show decide (vec l (hd l)<(0:Int))=true by simp [q]]
  exact ⟨-1,by decide,λi=>by show vec (mul l (-(1:Int))) i=_;rw [zc9];omega,by omega⟩
 ·rw [show decide (vec l (hd l)<(0:Int))=false by simp [q]]
  exact ⟨1,by decide,λi=>by show vec l i=_;omega,by omega⟩
theorem zoF {l:Ji} (h:hd l<l.length):hd (upr l)=hd l∧0<vec (upr l) (hd l):=by
 obtain ⟨c,c1,c2,c3⟩:=zjP (l:=l)
 have e:=zgl h
 have c0:c≠0:=by intro z;subst z;simp at c1
 have e1:c*vec l (hd l)≠0:=λz=>by
  rcases Int.mul_eq_zero.mp z with z | z
  ·exact c0 z
  ·exact e z
 refine ⟨zjf (by rw [c2];exact e1) λi hi=>by rw [c2,za8 hi];simp,by rw [c2];omega⟩
theorem zok {l:Ji} {ss:Jq} (h:SpL ss (vec l)):SpL ss (vec (upr l)):=by
 obtain ⟨c,_,c2,_⟩:=zjP (l:=l)
 exact (Sp.smul c h).conv λi=>(c2 i).symm
theorem zlx {l:Ji} {ss:Jq} (h:SpL ss (vec (upr l))):SpL ss (vec l):=by
 obtain ⟨c,c1,c2,_⟩:=zjP (l:=l)
 exact (Sp.smul c h).conv λi=>by rw [c2,← Int.mul_assoc,c1,Int.one_mul]
structure Mg where
 f:Int->Int->Int×Int×Int
 ok:∀ a b:Int,0<a->0<b->Cm a b (f a b).1 (f a b).2.1 (f a b).2.2
def tin (M:Mg):Jq->Ji->Jq
 | [],l=>bif decide (hd l<l.length) then [upr l] else []
 | s :: ss,l=>bif decide (hd l<hd s) then upr l :: s :: ss else
   bif decide (hd l=hd s) then mg1 s l ((M.f (vec s (hd s)) (vec l (hd s)))).2.1 ((M.f (vec s (hd s)) (vec l (hd s)))).2.2 :: tin M ss (low (mg2 s l ((M.f (vec s (hd s)) (vec l (hd s)))).1) ss) else s :: tin M ss l
theorem zf5 (M:Mg) {n:Nat}:∀ {ss:Jq} {lo:Nat} {l:Ji},Ech n lo ss->l.length=n->(∀ i,i<lo->vec l i=0)->(∀t∈ss,0≤vec l (hd t)∧vec l (hd t)<vec t (hd t))->lo≤n →
  Ech n lo (tin M ss l)∧(tin M ss l).length≤ss.length+1∧(∀ t∈tin M ss l,SpL (l :: ss) (vec t))∧(∀ t∈l :: ss,SpL (tin M ss l) (vec t))
 | [],lo,l,_,hl,h0,_,hlo=>by
  unfold tin
  by_cases q:hd l<l.length
  ·rw [show decide (hd l<l.length)=true by simp [q],cond_true]
   obtain ⟨e1,e2⟩:=zoF q
   refine ⟨⟨by rw [zm7,hl],by rw [e1];exact zqB (by omega) h0,by rw [e1];omega,by rw [e1];exact e2,trivial⟩,by simp,λt ht=>?_,λt ht=>?_⟩
   ·rw [List.mem_singleton.mp ht];exact zok (SpL.mem List.mem_cons_self)
   ·rw [List.mem_singleton.mp ht];exact zlx (SpL.mem List.mem_cons_self)
  ·rw [show decide (hd l<l.length)=false by simp [q],cond_false]
   have hz:hd l=l.length:=by have:=zqe (l:=l);omega
   refine ⟨trivial,by simp,by simp,λt ht=>?_⟩
   rw [List.mem_singleton.mp ht]
   exact Sp.zero.conv λi=>by
    by_cases z:i<l.length
    ·rw [za8 (by omega)]
    ·rw [zbf (by omega)]
 | s :: ss,lo,l,e,hl,h0,hr,hlo=>by
  unfold tin
  have hsl:s.length=l.length:=by rw [e.1,hl]
  by_cases q:hd l<hd s
  ·rw [show decide (hd l<hd s)=true by simp [q],cond_true]
   have hsn:=e.2.2.1
   obtain ⟨e1,e2⟩:=zoF (l:=l) (by omega)
   refine ⟨⟨by rw [zm7,hl],by rw [e1];exact zqB (by omega) h0,by rw [e1];omega,by rw [e1];exact e2,e.1,by rw [e1];omega,e.2.2⟩,by simp,λt ht=>?_,λt ht=>?_⟩
   ·rcases List.mem_cons.mp ht with rfl | ht
    ·exact zok (SpL.mem List.mem_cons_self)
    ·exact SpL.mem (List.mem_cons_of_mem _ ht)
   ·rcases List.mem_cons.mp ht with rfl | ht
    ·exact zlx (SpL.mem List.mem_cons_self)
    ·exact SpL.mem (List.mem_cons_of_mem _ ht)
  ·rw [show decide (hd l<hd s)=false by simp [q],cond_false]
   by_cases z:hd l=hd s
   ·rw [show decide (hd l=hd s)=true by simp [z],cond_true]
    have hb:0<vec l (hd s):=by
     have:=(hr s List.mem_cons_self).1
     have:=zgl (l:=l) (by rw [z,hl];exact e.2.2.1)
     rw [z] at this;omega
    have C:=M.ok _ _ e.2.2.2.1 hb
    generalize hg:((M.f (vec s (hd s)) (vec l (hd s)))).1=g at *
    generalize hx:((M.f (vec s (hd s)) (vec l (hd s)))).2.1=x at *
    generalize hy:((M.f (vec s (hd s)) (vec l (hd s)))).2.2=y at *
    have f0:∀ i,i<hd s->vec (mg1 s l x y) i=0:=λi hi=>by rw [zgW hsl,za8 hi,za8 (show i<hd l by omega)];omega
    have f1:vec (mg1 s l x y) (hd s)=g:=by rw [zgW hsl];exact C.eq.symm
    have f2:hd (mg1 s l x y)=hd s:=zjf (by rw [f1];have:=C.pos;omega) f0
    have g0:∀ i,i<hd s+1->vec (mg2 s l g) i=0:=λi hi=>by
     rw [zix hsl]
     by_cases zi:i=hd s
     ·subst zi
      have:=C.d1;have:=C.d2
      generalize vec s (hd s)/g=p at *
      generalize vec l (hd s)/g=r at *
      generalize vec s (hd s)=a at *
      generalize vec l (hd s)=b at *
      grind
     ·rw [za8 (show i<hd s by omega),za8 (show i<hd l by omega)];omega
    obtain ⟨k1,k2,k3,k4⟩:=zbH (l:=mg2 s l g) e.2.2.2.2 (by rw [zlT hsl,e.1])
    obtain ⟨i1,i2,i3,i4⟩:=zf5 M (l:=low (mg2 s l g) ss) e.2.2.2.2 k1 (λi hi=>by rw [k4 i hi,g0 i hi]) k3 (by have:=e.2.2.1;omega)
    have low_in:∀ {tt:Jq},(∀t∈ss,SpL tt (vec t))->SpL tt (vec (mg2 s l g))->SpL tt (vec (low (mg2 s l g) ss)):=λh1 h2=>(Sp.lin 1 (-1) h2 (k2.sub h1)).conv λi=>by omega
    have low_out:∀ {tt:Jq},(∀t∈ss,SpL tt (vec t))->SpL tt (vec (low (mg2 s l g) ss))->SpL tt (vec (mg2 s l g)):=λh1 h2=>(Sp.plus h2 (k2.sub h1)).conv λi=>by omega
    have hS:SpL (l :: s :: ss) (vec s):=SpL.mem (List.mem_cons_of_mem _ List.mem_cons_self)
    have hL:SpL (l :: s :: ss) (vec l):=SpL.mem List.mem_cons_self
    refine ⟨⟨by rw [zmw hsl,e.1],by rw [f2];exact e.2.1,by rw [f2];exact e.2.2.1,by rw [f2,f1];exact C.pos,by rw [f2];exact i1⟩,by simp only [List.length_cons];omega,λt ht=>?_,λt ht=>?_⟩
    ·rcases List.mem_cons.mp ht with rfl | ht
     ·exact (Sp.lin x y hS hL).conv λi=>(zgW hsl i).symm
     ·refine (i3 t ht).sub λv hv=>?_
      rcases List.mem_cons.mp hv with rfl | hv
      ·refine low_in (λt ht=>SpL.mem (List.mem_cons_of_mem _ (List.mem_cons_of_mem _ ht))) ((Sp.lin (vec s (hd s)/g) (-(vec l (hd s)/g)) hL hS).conv λi=>?_)
       rw [zix hsl];grind
      ·exact SpL.mem (List.mem_cons_of_mem _ (List.mem_cons_of_mem _ hv))
    ·have u1:∀ v∈low (mg2 s l g) ss :: ss,SpL (mg1 s l x y::tin M ss (low (mg2 s l g) ss)) (vec v):=λv hv=>(i4 v hv).up
     have u2:=low_out (λt ht=>u1 t (List.mem_cons_of_mem _ ht)) (u1 _ List.mem_cons_self)
     have u3:SpL (mg1 s l x y::tin M ss (low (mg2 s l g) ss)) (vec (mg1 s l x y)):=SpL.mem List.mem_cons_self
     rcases List.mem_cons.mp ht with rfl | ht
     ·exact (Sp.lin (vec t (hd s)/g) x u3 u2).conv λi=>((zmI hsl C i).2).symm
     ·rcases List.mem_cons.mp ht with rfl | ht
      ·exact (Sp.lin (vec t (hd t)/g) (-y) u3 u2).conv λi=>by rw [(zmI hsl C i).1];grind
      ·exact u1 t (List.mem_cons_of_mem _ ht)
   ·rw [show decide (hd l=hd s)=false by simp [z],cond_false]
    obtain ⟨i1,i2,i3,i4⟩:=zf5 M (l:=l) e.2.2.2.2 hl (λi hi=>za8 (by omega)) (λt ht=>hr t (List.mem_cons_of_mem _ ht)) (by have:=e.2.2.1;omega)
    refine ⟨⟨e.1,e.2.1,e.2.2.1,e.2.2.2.1,i1⟩,by simp only [List.length_cons];omega,λt ht=>?_,λt ht=>?_⟩
    ·rcases List.mem_cons.mp ht with rfl | ht
     ·exact SpL.mem (List.mem_cons_of_mem _ List.mem_cons_self)
     ·refine (i3 t ht).sub λv hv=>?_
      rcases List.mem_cons.mp hv with rfl | hv
      ·exact SpL.mem List.mem_cons_self
      ·exact SpL.mem (List.mem_cons_of_mem _ (List.mem_cons_of_mem _ hv))
    ·rcases List.mem_cons.mp ht with rfl | ht
     ·exact (i4 t List.mem_cons_self).up
     ·rcases List.mem_cons.mp ht with rfl | ht
      ·exact SpL.mem List.mem_cons_self
      ·exact (i4 t (List.mem_cons_of_mem _ ht)).up
def stl:Jq->Jq
 | []=>[]
 | s :: ss=>low s (stl ss) :: stl ss
def Red:Jq->Prop
 | []=>True
 | s :: ss=>(∀ t∈ss,0≤vec s (hd t)∧vec s (hd t)<vec t (hd t))∧Red ss
theorem zkg {n:Nat}:∀ {ss:Jq} {lo:Nat},Ech n lo ss->Ech n lo (stl ss)∧Red (stl ss)∧(stl ss).length=ss.length∧(∀ t∈stl ss,SpL ss (vec t))∧∀ t∈ss,SpL (stl ss) (vec t)
 | [],_,_=>⟨trivial,trivial,rfl,by simp [stl],by simp⟩
 | s :: ss,lo,e=>by
  obtain ⟨a,b,c,d,f⟩:=zkg e.2.2.2.2
  obtain ⟨k1,k2,k3,k4⟩:=zbH (l:=s) a e.1
  have h1:hd (low s (stl ss))=hd s:=zjf (by rw [k4 _ (Nat.lt_succ_self _)];have:=e.2.2.2.1;omega) λi hi=>by rw [k4 _ (by omega),za8 hi]
  refine ⟨⟨k1,by rw [h1];exact e.2.1,by rw [h1];exact e.2.2.1,by rw [h1,k4 _ (Nat.lt_succ_self _)];exact e.2.2.2.1,by rw [h1];exact a⟩,⟨k3,b⟩,by simp [stl,c],λt ht=>?_,λt ht=>?_⟩
  ·rcases List.mem_cons.mp ht with rfl | ht
   ·exact (Sp.lin 1 (-1) (SpL.mem (ss:=s::ss) List.mem_cons_self) (k2.sub λv hv=>(d v hv).up)).conv λi=>by omega
   ·exact (d t ht).up
  ·rcases List.mem_cons.mp ht with rfl | ht
   ·exact (Sp.plus (SpL.mem (ss:=stl (t :: ss)) (s:=low t (stl ss)) List.mem_cons_self) (k2.sub λv hv=>SpL.mem (List.mem_cons_of_mem _ hv))).conv λi=>by omega
   ·exact (f t ht).up
def clm (M:Mg) (rows:Jq):Jq:=rows.foldl (λss r=>stl (tin M ss (low r ss))) []
structure Stairs (n:Nat) (rows ss:Jq):Prop where
 ech:Ech n 0 ss
 red:Red ss
 inn:∀ t∈ss,SpL rows (vec t)
 out:∀ r∈rows,SpL ss (vec r)
theorem Stairs.nil {n:Nat}:Stairs n [] []:=⟨trivial,trivial,by simp,by simp⟩
theorem Stairs.step {n:Nat} {rows ss:Jq} {r:Ji} (M:Mg) (h:Stairs n rows ss) (hr:r.length=n):Stairs n (rows++[r]) (stl (tin M ss (low r ss)))∧(stl (tin M ss (low r ss))).length≤ss.length+1:=by
 obtain ⟨k1,k2,k3,_⟩:=zbH (l:=r) h.ech hr
 obtain ⟨t1,t2,t3,t4⟩:=zf5 M h.ech k1 (λi hi=>absurd hi (Nat.not_lt_zero i)) k3 (Nat.zero_le n)
 obtain ⟨s1,s2,s3,s4,s5⟩:=zkg t1
 have inn:∀ t∈ss,SpL (rows++[r]) (vec t):=λt ht=>(h.inn t ht).sub λv hv=>SpL.mem (List.mem_append_left _ hv)
 have hr':SpL (rows++[r]) (vec r):=SpL.mem (List.mem_append_right _ List.mem_cons_self)
 have f1:∀ t∈low r ss :: ss,SpL (stl (tin M ss (low r ss))) (vec t):=λt ht=>(t4 t ht).sub s5
 refine ⟨⟨s1,s2,λt ht=>(s4 t ht).sub λv hv=>(t3 v hv).sub λw hw=>?_,λt ht=>?_⟩,by rw [s3];exact t2⟩
 ·rcases List.mem_cons.mp hw with rfl | hw
  ·exact (Sp.lin 1 (-1) hr' (k2.sub inn)).conv λi=>by omega
  ·exact inn w hw
 ·rcases List.mem_append.mp ht with ht | ht
  ·exact (h.out t ht).sub λv hv=>f1 v (List.mem_cons_of_mem _ hv)
  ·rw [List.mem_singleton.mp ht]
   exact (Sp.plus (f1 _ List.mem_cons_self) (k2.sub λv hv=>f1 v (List.mem_cons_of_mem _ hv))).conv λi=>by omega
end Lat
namespace Lat
theorem zmk {n:Nat}:∀ {ss:Jq} {lo:Nat},Ech n lo ss->Red ss->∀ t∈ss,∀ t'∈ss,hd t'<hd t∨t=t'∨(0≤vec t (hd t')∧vec t (hd t')<vec t' (hd t'))
 | [],_,_,_,t,h,_,_=>by simp at h
 | s :: ss,lo,e,r,t,ht,t',ht'=>by
  rcases List.mem_cons.mp ht with h1 | h1
  ·rcases List.mem_cons.mp ht' with h2 | h2
   ·exact .inr (.inl (h1.trans h2.symm))
   ·rw [h1];exact .inr (.inr (r.1 t' h2))
  ·rcases List.mem_cons.mp ht' with h2 | h2
   ·rw [h2]
    have:=(Ech.mem e.2.2.2.2 t h1).2.1
    exact .inl (by omega)
   ·exact zmk e.2.2.2.2 r.2 t h1 t' h2
theorem zfH {n:Nat}:∀ {ss:Jq} {lo:Nat},Ech n lo ss->lo≤n->ss.length+lo≤n
 | [],_,_,h=>by simpa using h
 | s :: ss,lo,e,h=>by
  have:=zfH e.2.2.2.2 (by have:=e.2.2.1;omega)
  have:=e.2.1
  simp only [List.length_cons]
  omega
abbrev Rw (rows:Jq):Vc->Prop:=λu=>∃ r∈rows,u=vec r
theorem zkd {B E R:Nat} (hE:bnd R B B≤E):∀ (k:Nat) (rows:Jq),rows.length=k->k≤R+1->(∀ r∈rows,∀ x∈r,x.natAbs≤B)->∃ hs as,Wit (Rw rows) B E hs as∧as.length≤rows.length
 | 0,rows,h,_,_=>by
  rw [List.length_eq_zero_iff.mp h]
  refine ⟨[],[],?_,by simp⟩
  have e:Rw []=λ_=>False:=funext λu=>propext ⟨λ⟨_,z,_⟩=>by simp at z,λz=>z.elim⟩
  rw [e]
  exact Wit.nil
 | k+1,rows,h,hk,hb=>by
  have hne:rows≠[]:=by intro z;rw [z] at h;simp at h
  obtain ⟨rs,r,rfl⟩:∃ rs r,rows=rs++[r]:=⟨rows.dropLast,rows.getLast hne,(List.dropLast_concat_getLast hne).symm⟩
  have hl:rs.length=k:=by simpa using h
  obtain ⟨hs,as,W,h1⟩:=zkd hE k rs hl (by omega) λr hr=>hb r (List.mem_append_left _ hr)
  obtain ⟨hs',as',W',h2⟩:=W.step (a:=vec r) (λi=>zop (hb r (List.mem_append_right _ List.mem_cons_self)) i) (Nat.le_trans (zko (by omega)) hE)
  refine ⟨hs',as',?_,by simp only [List.length_append,List.length_singleton];omega⟩
  have e:Rw (rs++[r])=λu=>Rw rs u∨u=vec r:=funext λu=>propext ⟨λ⟨s,hs,e⟩=>by
   rcases List.mem_append.mp hs with z | z
   ·exact .inl ⟨s,z,e⟩
   ·rw [List.mem_singleton.mp z] at e;exact .inr e,λz=>by
   rcases z with ⟨s,hs,e⟩ | z
   ·exact ⟨s,List.mem_append_left _ hs,e⟩
   ·exact ⟨r,List.mem_append_right _ List.mem_cons_self,z⟩⟩
  rw [e]
  exact W'
theorem Stairs.wit {n B E:Nat} {rows ss:Jq} {hs:List Nat} {as:List Vc} (h:Stairs n rows ss) (W:Wit (Rw rows) B E hs as) (hBE:B≤E):∀ t∈ss,((vec t (hd t))).natAbs≤E∧∀ i,(vec t i).natAbs≤bnd as.length B E:=by
 have hd1:∀ t∈ss,((vec t (hd t))).natAbs≤E:=λt ht=>by
  obtain ⟨m1,m2,m3,m4⟩:=h.ech.mem t ht
  obtain ⟨v,v1,v2,v3,v4⟩:=W.hd _ (W.head (h.inn t ht) (λi hi=>za8 hi) (by omega))
  have d:=zii h.ech (v1.sub λa ⟨r,hr,e⟩=>e ▸ h.out r hr) ht v2
  exact Nat.le_trans (Nat.le_of_dvd (Int.natAbs_pos.mpr v3) (Int.natAbs_dvd_natAbs.mpr d)) (v4 _)
 refine λt ht=>⟨hd1 t ht,λi=>W.small hBE (h.inn t ht) (λg hg=>?_) i⟩
 obtain ⟨v,v1,v2,v3,v4⟩:=W.hd g hg
 obtain ⟨t',ht',rfl⟩:=zfW h.ech (v1.sub λa ⟨r,hr,e⟩=>e ▸ h.out r hr) v2 v3
 rcases zmk h.ech h.red t ht t' ht' with z | rfl | ⟨z1,z2⟩
 ·rw [za8 z];exact Nat.zero_le _
 ·exact hd1 t ht
 ·have:=hd1 t' ht';omega
theorem zkl {k R b c:Nat} (hk:k≤R) (hR:R≤31) (hbc:b≤c):bnd k (2^b) (2^c)≤2^((c+7)*(R+1)):=by
 refine Nat.le_trans (zko hk) ?_
 unfold bnd
 have h1:R+1≤2^5:=by omega
 have h2:2*((R+1)*2^c)+1≤2^(c+7):=by
  have e1:(R+1)*2^c≤2^5*2^c:=Nat.mul_le_mul_right _ h1
  have e2:2^(c+7)=4*(2^5*2^c):=by rw [Nat.pow_add];omega
  have e3:0<2^c:=Nat.pow_pos (by decide)
  omega
 calc (R+1)*((2*((R+1)*2^c)+1)^R*2^b)≤2^5*((2^(c+7))^R*2^b):=Nat.mul_le_mul h1 (Nat.mul_le_mul_right _ (Nat.pow_le_pow_left h2 _))
  _=2^(5+((c+7)*R+b)):=by rw [← Nat.pow_mul,← Nat.pow_add,← Nat.pow_add]
  _≤2^((c+7)*(R+1)):=Nat.pow_le_pow_right (by decide) (by rw [Nat.mul_add];omega)
def Bit (a:Nat) (l:Ji):Prop:=∀ x∈l,x.natAbs≤2^a
theorem Bit.vec {a:Nat} {l:Ji} (h:Bit a l) (i:Nat):(vec l i).natAbs≤2^a:=zop h i
theorem Bit.of {a:Nat} {l:Ji} (h:∀ i,(Lat.vec l i).natAbs≤2^a):Bit a l:=λx hx=>by
 obtain ⟨i,_,rfl⟩:=zh6 hx
 exact h i
theorem Bit.mono {a b:Nat} {l:Ji} (h:Bit a l) (k:a≤b):Bit b l:=λx hx=>Nat.le_trans (h x hx) (Nat.pow_le_pow_right (by decide) k)
def eB (b R:Nat):Nat:=(b+7)*(R+1)
def sB (b R:Nat):Nat:=(eB b R+7)*(R+1)
theorem Stairs.bits {n b R:Nat} {rows ss:Jq} (h:Stairs n rows ss) (hR:R≤31) (hr:rows.length≤R) (hb:∀ r∈rows,Bit b r):∀ t∈ss,((vec t (hd t))).natAbs≤2^eB b R∧Bit (sB b R) t:=by
 obtain ⟨hs,as,W,hl⟩:=zkd (B:=2^b) (E:=2^eB b R) (R:=R) (zkl (Nat.le_refl _) hR (Nat.le_refl _)) rows.length rows rfl (by omega) hb
 have e:b≤eB b R:=by unfold eB;exact Nat.le_trans (by omega) (Nat.le_mul_of_pos_right _ (Nat.succ_pos R))
 refine λt ht=>?_
 obtain ⟨a1,a2⟩:=h.wit W (Nat.pow_le_pow_right (by decide) e) t ht
 exact ⟨a1,Bit.of λi=>Nat.le_trans (a2 i) (zkl (Nat.le_trans hl hr) hR e)⟩
theorem zfB {x y a b:Nat} (h1:x≤2^a) (h2:y≤2^b):x*y≤2^(a+b):=by rw [Nat.pow_add];exact Nat.mul_le_mul h1 h2
theorem zis {x d:Int} (_h:0<d):(x/d).natAbs≤x.natAbs:=by
 have:=Int.natAbs_ediv_le_natAbs x d
 exact this
structure Sd (n s:Nat) (t:Ji):Prop where
 len:t.length=n
 hd:hd t<n
 pos:0<vec t (Lat.hd t)
 top:(vec t (Lat.hd t)).natAbs≤2^8980
 bit:Bit s t
theorem zoD {n s a:Nat} {l t:Ji} (T:Sd n s t) (hb:Bit a l):(quo l t).natAbs≤2^a:=Nat.le_trans (zis T.pos) (hb.vec _)
theorem zkV {n s a:Nat} {l t:Ji} (T:Sd n s t) (hl:l.length=n) (hb:Bit a l):Bit (a+(s+1)) (zj7 l t):=Bit.of λi=>by
 rw [zgJ (by rw [hl,T.len])]
 have e1:=hb.vec i
 have e2:(vec t i*quo l t).natAbs≤2^(s+a):=by rw [Int.natAbs_mul];exact zfB (T.bit.vec i) (zoD T hb)
 have e3:2^a≤2^(s+a):=Nat.pow_le_pow_right (by decide) (by omega)
 have e4:2^(a+(s+1))=2^(s+a)+2^(s+a):=by rw [show a+(s+1)=(s+a)+1 by omega,Nat.pow_succ];omega
 omega
theorem zgg {n s:Nat}:∀ {ss:Jq} {a:Nat} {l:Ji},(∀ t∈ss,Sd n s t)->l.length=n->Bit a l->Bit (a+ss.length*(s+1)) (low l ss)
 | [],a,l,_,_,h=>by simpa [low] using h
 | t :: ss,a,l,T,hl,h=>by
  have T1:=T t List.mem_cons_self
  have:=zgg (ss:=ss) (λt ht=>T t (List.mem_cons_of_mem _ ht)) (by rw [ziA (by rw [hl,T1.len]),hl]) (zkV T1 hl h)
  refine Bit.mono this ?_
  rw [List.length_cons,Nat.succ_mul]
  omega
theorem Cm.bd {one other g x y:Int} (C:Cm one other g x y) (h2:0<other) (hy:y=(g-x*one)/other) {c:Nat} (b1:one.natAbs≤2^c) (b2:other.natAbs≤2^c):g.natAbs≤2^(c+1)∧x.natAbs≤2^c∧y.natAbs≤2^(2*c+2):=by
 have e1:=C.le
 have e2:=C.xb
 have e3:=C.pos
 have g1:g.natAbs≤2^(c+1):=by
  rw [Nat.pow_succ]
  omega
 have x1:x.natAbs≤2^c:=by omega
 refine ⟨g1,x1,?_⟩
 rw [hy]
 refine Nat.le_trans (zis h2) ?_
 have e4:(x*one).natAbs≤2^(c+c):=by rw [Int.natAbs_mul];exact zfB x1 b1
 have e5:2^(c+1)≤2^(c+c+1):=Nat.pow_le_pow_right (by decide) (by omega)
 have e6:2^(2*c+2)=2^(c+c+1)+2^(c+c+1):=by rw [show 2*c+2=(c+c+1)+1 by omega,Nat.pow_succ];omega
 have e7:2^(c+c)≤2^(c+c+1):=Nat.pow_le_pow_right (by decide) (by omega)
 omega
theorem zgv {a g:Int} (hg:0<g) {c:Nat} (h:a.natAbs≤2^c):(a/g).natAbs≤2^c:=Nat.le_trans (zis hg) h
theorem zpt {n s a:Nat} {l t:Ji} {g x y:Int} (T:Sd n s t) (hl:l.length=n) (hb:Bit a l) (C:Cm (vec t (hd t)) (vec l (hd t)) g x y) (hlt:vec l (hd t)<vec t (hd t)) (h0:0≤vec l (hd t)):Bit (a+(s+8982)) (mg2 t l g):=Bit.of λi=>by
 rw [zix (by rw [hl,T.len])]
 have e1:(vec t (hd t)/g*vec l i).natAbs≤2^(8980+a):=by rw [Int.natAbs_mul];exact zfB (zgv C.pos T.top) (hb.vec i)
 have e2:(vec l (hd t)/g*vec t i).natAbs≤2^(8980+s):=by rw [Int.natAbs_mul];exact zfB (zgv C.pos (by have:=T.top;omega)) (T.bit.vec i)
 have e3:2^(8980+a)≤2^(a+(s+8981)):=Nat.pow_le_pow_right (by decide) (by omega)
 have e4:2^(8980+s)≤2^(a+(s+8981)):=Nat.pow_le_pow_right (by decide) (by omega)
 have e5:2^(a+(s+8982))=2^(a+(s+8981))+2^(a+(s+8981)):=by rw [show a+(s+8982)=(a+(s+8981))+1 by omega,Nat.pow_succ];omega
 omega
theorem zpN {n s a:Nat} {l t:Ji} {x y:Int} (T:Sd n s t) (hl:l.length=n) (hb:Bit a l) (hx:x.natAbs≤2^8980) (hy:y.natAbs≤2^17962):Bit (a+(s+17964)) (mg1 t l x y):=Bit.of λi=>by
 rw [zgW (by rw [hl,T.len])]
 have e1:(x*vec t i).natAbs≤2^(8980+s):=by rw [Int.natAbs_mul];exact zfB hx (T.bit.vec i)
 have e2:(y*vec l i).natAbs≤2^(17962+a):=by rw [Int.natAbs_mul];exact zfB hy (hb.vec i)
 have e3:2^(8980+s)≤2^ (a+(s+17963)):=Nat.pow_le_pow_right (by decide) (by omega)
 have e4:2^(17962+a)≤2^ (a+(s+17963)):=Nat.pow_le_pow_right (by decide) (by omega)
 have e5:2^(a+(s+17964))=2^ (a+(s+17963))+2^ (a+(s+17963)):=by rw [show a+(s+17964)=(a+(s+17963))+1 by omega,Nat.pow_succ];omega
 omega
theorem zl0 {a:Nat} {l:Ji} (h:Bit a l):Bit a (upr l):=by
 unfold upr
 cases decide (vec l (hd l)<(0:Int))
 ·exact h
 ·exact Bit.of λi=>by
   show (vec (mul l (-(1:Int))) i).natAbs≤_
   rw [zc9]
   have:=h.vec i
   omega
end Lat
namespace Lat
open L2
theorem zcq (l:Ji) (k:Nat):ixD l (k:Int)=vec l k:=by
 by_cases h:k<l.length
 ·rw [zd9 (List.getElem?_eq_getElem h)]
  simp [vec,List.getD_eq_getElem?_getD,List.getElem?_eq_getElem h]
 ·rw [zbf (by omega)]
  unfold ixD atI ixN
  rw [if_pos (by omega),if_neg (by omega)]
  rfl
theorem zf8 {lo:Int} {n:Nat}:zbo lo (n+1)=lo :: zbo (lo+1) n:=by
 unfold zbo
 rw [List.range_succ_eq_map,List.map_cons,List.map_map]
 congr 1
 ·simp
 ·exact List.map_congr_left λi _=>by show lo+((i+1:Nat):Int)=lo+1+(i:Int);omega
abbrev hdB:Unit->Int×Int->Unit ⊕ Int:=λ_ x=>bif (!decide (x.2=(0:Int))) then (Sum.inr x.1) else (Sum.inl ())
theorem zmU:∀ (xs:Ji) (lo:Int),zjn (zbE hdB () ((zbo lo xs.length).zip xs)) (λ(_:Unit)=>lo+(xs.length:Int)) (λb=>b)=lo+(hd xs:Int)
 | [],lo=>rfl
 | x :: xs,lo=>by
  rw [List.length_cons,zf8,List.zip_cons_cons]
  unfold zbE hd
  cases q:(!decide (x=(0:Int))) with
  | true =>
   rw [show hdB () (lo,x)=.inr lo by unfold hdB;dsimp only;rw [q];rfl]
   show lo=lo+((0:Nat):Int)
   omega
  | false =>
   rw [show hdB () (lo,x)=.inl () by unfold hdB;dsimp only;rw [q];rfl]
   have:=zmU xs (lo+1)
   have e:(λ(_:Unit)=>lo+1+(xs.length:Int))=(λ(_:Unit)=>lo+((xs.length+1:Nat):Int)):=funext λ_=>by omega
   rw [e] at this
   show zjn (zbE hdB () ((zbo (lo+1) xs.length).zip xs)) _ _=_
   rw [this]
   show lo+1+(hd xs:Int)=lo+((hd xs+1:Nat):Int)
   omega
theorem zr7 (xs:Ji):zjn (zbE hdB () (zdE xs)) (λ(_:Unit)=>((xs.length:Nat):Int)) (λb=>b)=(hd xs:Int):=by
 have:=zmU xs 0
 simp only [Int.zero_add] at this
 exact this
theorem zfe {α:Type} {xs:List α} {k:Nat}:zct xs (some (k:Int)) none=xs.drop k:=by
 unfold zct
 rw [HT.sIx_nat,HT.sIx_none]
 by_cases h:k≤xs.length
 ·rw [Nat.min_eq_left h,List.take_of_length_le (by rw [List.length_drop];omega)]
 ·rw [Nat.min_eq_right (by omega),List.drop_eq_nil_of_le (by omega),List.drop_eq_nil_of_le (by omega)];simp
def cmn (a b:Int):T3 Int Int Int:=Let (whl cmC cmF b.toNat (a,b,(1:Int),(0:Int))) (λ(r:G4)=>T3.mk r.1 r.2.2.1 ((r.1-(r.2.2.1*a))/b))
theorem zmX {a b:Int} (h1:0<a) (h2:0<b):Cm a b (cmn a b).a (cmn a b).b (cmn a b).c:=by
 obtain ⟨i1,i2⟩:=zjI (n:=b.toNat) (c:=cmC) (f:=cmF) (I:=GI a b) (μ:=λs=>s.2.1.toNat) (λs h c=>h.step c) (GI.start h1 h2) (Nat.le_refl _)
 exact i1.done h2 i2
theorem zsG {a b:Int}:(cmn a b).c=((cmn a b).a-(cmn a b).b*a)/b:=rfl
def MG:Mg:=⟨λa b=>((cmn a b).a,(cmn a b).b,(cmn a b).c),λ_ _ h1 h2=>zmX h1 h2⟩
def mrg (s l:Ji):Ji×Ji:=(mg1 s l ((cmn (vec s (hd s)) (vec l (hd s)))).b ((cmn (vec s (hd s)) (vec l (hd s)))).c,mg2 s l ((cmn (vec s (hd s)) (vec l (hd s)))).a)
theorem zky {s:Ji} {ss:Jq} {l:Ji}:tin MG (s :: ss) l=bif decide (hd l<hd s) then upr l :: s :: ss else bif decide (hd l=hd s) then (mrg s l).1 :: tin MG ss (low (mrg s l).2 ss) else s :: tin MG ss l:=rfl
abbrev TS2:=Jq×Ji
def zlw (steps:Jq):TS2->Int×Ji->TS2 ⊕ Jq:=λs x =>
 bif decide ((hd s.2:Int)<(hd x.2:Int)) then (Sum.inr ((s.1++[upr s.2])++(zct steps (some x.1) none)))
 else Let (bif decide ((hd s.2:Int)=(hd x.2:Int)) then (s.1++[(mrg x.2 s.2).1]) else (s.1++[x.2])) (λ(g:Jq) =>
  Let (bif decide ((hd s.2:Int)=(hd x.2:Int)) then (low ((mrg x.2 s.2).2) (zct steps (some (x.1+(1:Int))) none)) else s.2) (λ(l:Ji)=>Sum.inl (g,l)))
abbrev zrX:TS2->Jq:=λr=>Let (bif decide ((hd r.2:Int)<((r.2.length:Nat):Int)) then (r.1++[upr r.2]) else r.1) (λ(g:Jq)=>g)
theorem zin {steps:Jq}:∀ (ss:Jq) (k:Nat) (g:Jq) (l:Ji),steps.drop k=ss->zjn (zbE (zlw steps) (g,l) ((zbo (k:Int) ss.length).zip ss)) zrX (λb=>b)=g++tin MG ss l
 | [],k,g,l,_=>by
  show zrX (g,l)=_
  unfold zrX Let tin
  dsimp only
  by_cases q:hd l<l.length
  ·rw [show decide ((hd l:Int)<((l.length:Nat):Int))=true by simp [q],show decide (hd l<l.length)=true by simp [q]];rfl
  ·rw [show decide ((hd l:Int)<((l.length:Nat):Int))=false by simpa using q,show decide (hd l<l.length)=false by simp [q]]
   simp
 | s :: ss,k,g,l,e=>by
  have e':steps.drop (k+1)=ss:=by rw [← List.drop_drop,e];rfl
  have e2:((k:Int)+(1:Int))=((k+1:Nat):Int):=by omega
  rw [List.length_cons,zf8,List.zip_cons_cons,zky]
  unfold zbE
  by_cases q:hd l<hd s
  ·rw [show zlw steps (g,l) ((k:Int),s)=.inr ((g++[upr l])++(s :: ss)) by
    unfold zlw;dsimp only
    rw [show decide ((hd l:Int)<(hd s:Int))=true by simp [q],cond_true,zfe,e]]
   rw [show decide (hd l<hd s)=true by simp [q],cond_true]
   show (g++[upr l])++(s :: ss)=_
   simp
  ·rw [show decide (hd l<hd s)=false by simp [q],cond_false]
   have q':decide ((hd l:Int)<(hd s:Int))=false:=by simp;omega
   by_cases z:hd l=hd s
   ·rw [show zlw steps (g,l) ((k:Int),s)=.inl (g++[(mrg s l).1],low (mrg s l).2 ss) by
     unfold zlw Let;dsimp only
     rw [q',show decide ((hd l:Int)=(hd s:Int))=true by simp [z],cond_false,cond_true,cond_true,e2,zfe,e']]
    rw [show decide (hd l=hd s)=true by simp [z],cond_true]
    show zjn (zbE (zlw steps) _ ((zbo ((k:Int)+1) ss.length).zip ss)) _ _=_
    rw [e2,zin ss (k+1) _ _ e']
    simp
   ·rw [show zlw steps (g,l) ((k:Int),s)=.inl (g++[s],l) by
     unfold zlw Let;dsimp only
     rw [q',show decide ((hd l:Int)=(hd s:Int))=false by simp;omega,cond_false,cond_false,cond_false]]
    rw [show decide (hd l=hd s)=false by simp [z],cond_false]
    show zjn (zbE (zlw steps) _ ((zbo ((k:Int)+1) ss.length).zip ss)) _ _=_
    rw [e2,zin ss (k+1) _ _ e']
    simp
theorem ztn (steps:Jq) (l:Ji):zjn (zbE (zlw steps) ([],l) (zdE steps)) zrX (λb=>b)=tin MG steps l:=by
 have:=zin (steps:=steps) steps 0 [] l rfl
 simp only [List.nil_append] at this
 exact this
theorem zs7:∀ (ss:Jq),List.foldl (λ(s:Jq) (x:Ji)=>[low x s]++s) [] ss.reverse=stl ss
 | []=>rfl
 | s :: ss=>by
  rw [List.reverse_cons,List.foldl_append,zs7 ss]
  rfl
theorem zig:∀ {ss:Jq} {j:Nat},stl (ss.drop j)=(stl ss).drop j
 | [],j=>by simp [stl]
 | s :: ss,0=>rfl
 | s :: ss,j+1=>by rw [List.drop_succ_cons,zig];rfl
theorem zdc.of {x y:Int} {a b:Nat} (h1:x.natAbs≤2^a) (h2:y.natAbs≤2^b) (ha:a≤50000000) (hb:b≤50000000):zdc x y :=
 .inr (.inr ⟨zlE (k:=a+1) (by have:2^a<2^(a+1):=Nat.pow_lt_pow_right (by decide) (Nat.lt_succ_self a);omega) (by omega) (by omega),zlE (k:=b+1) (by have:2^b<2^(b+1):=Nat.pow_lt_pow_right (by decide) (Nat.lt_succ_self b);omega) (by omega) (by omega)⟩)
theorem zg6.of {x y:Int} {b:Nat} (h:0<y) (h2:y.natAbs≤2^b) (hb:b≤8990):zg6 x y :=
 ⟨h,zlE (k:=b+1) (by have:2^b<2^(b+1):=Nat.pow_lt_pow_right (by decide) (Nat.lt_succ_self b);omega) (by omega) (by omega)⟩
def zjO (a b:Int):Prop:=0<a∧0<b∧a.natAbs≤2^8980∧b.natAbs≤2^8980
section
variable {one other:Int} {s:G4}
theorem GI.gn (I:GI one other s) (h:zjO one other):s.1.natAbs≤2^8981:=by
 have:=I.g;have:=I.gb;obtain ⟨h1,h2,h3,h4⟩:=h
 rw [Nat.pow_succ]
 omega
theorem GI.mn (I:GI one other s) (h:zjO one other):s.2.1.natAbs≤2^8981:=by
 have:=I.m;have:=I.mb;obtain ⟨h1,h2,h3,h4⟩:=h
 rw [Nat.pow_succ]
 omega
theorem GI.tn (I:GI one other s) (h:zjO one other):s.2.2.1.natAbs≤2^8980:=by
 have:=I.tb;obtain ⟨h1,h2,h3,h4⟩:=h
 omega
theorem GI.ln (I:GI one other s) (h:zjO one other):s.2.2.2.natAbs≤2^8980:=by
 have:=I.lb;obtain ⟨h1,h2,h3,h4⟩:=h
 omega
theorem GI.pos (I:GI one other s) (hc:(!decide (s.2.1=(0:Int)))=true):0<s.2.1:=by
 have:=I.m
 simp only [Bool.not_eq_true',decide_eq_false_iff_not] at hc
 omega
theorem GI.div (I:GI one other s) (h:zjO one other) (hc:(!decide (s.2.1=(0:Int)))=true):zg6 s.1 s.2.1:=zg6.of (I.pos hc) (I.mn h) (by decide)
theorem GI.mul1 (I:GI one other s) (h:zjO one other) (hc:(!decide (s.2.1=(0:Int)))=true) {p:Int} (e:p=s.1/s.2.1):zdc p s.2.1:=by
 subst e;exact zdc.of (zgv (I.pos hc) (I.gn h)) (I.mn h) (by decide) (by decide)
theorem GI.mul2 (I:GI one other s) (h:zjO one other) (hc:(!decide (s.2.1=(0:Int)))=true) {p:Int} (e:p=s.1/s.2.1):zdc p s.2.2.2:=by
 subst e;exact zdc.of (zgv (I.pos hc) (I.gn h)) (I.ln h) (by decide) (by decide)
theorem GI.mul3 (I:GI one other s) (h:zjO one other):zdc s.2.2.1 one:=zdc.of (I.tn h) h.2.2.1 (by decide) (by decide)
theorem zjO.div (h:zjO one other) {x:Int}:zg6 x other:=zg6.of h.2.1 h.2.2.2 (by decide)
end
def LowP (row:Ji) (steps:Jq):Prop:=∃ n a s,n≤1000∧row.length=n∧steps.length≤1000∧Bit a row∧(∀ t∈steps,Sd n s t)∧a+steps.length*(s+1)+s≤50000000
section
variable {n s a i:Nat} {l t:Ji} {h q:Int}
theorem zkC (T:Sd n s t) (e:h=(hd t:Int)) (hl:l.length=n):InB l.length h:=by
 have:=T.hd
 unfold InB
 omega
theorem zpO (T:Sd n s t) (e:h=(hd t:Int)):zg6 (ixD l h) (ixD t h):=by
 subst e
 rw [zcq,zcq]
 exact zg6.of T.pos T.top (by decide)
theorem zpC (T:Sd n s t) (e:h=(hd t:Int)) (hb:Bit a l) (eq:q=ixD l h/ixD t h) (ha:a+s≤50000000):∀ y∈t,zdc y q:=by
 subst e eq
 rw [zcq,zcq]
 exact λy hy=>zdc.of (T.bit y hy) (zoD T hb) (by omega) (by omega)
theorem zpq (T:Sd n s t) (hl:l.length=n∧Bit (a+i*(s+1)) l) {y:Ji} (e:y=zj7 l t):y.length=n∧Bit (a+(i+1)*(s+1)) y:=by
 subst e
 refine ⟨by rw [ziA (by rw [hl.1,T.len]),hl.1],(zkV T hl.1 hl.2).mono ?_⟩
 rw [Nat.succ_mul];omega
theorem zps {k i:Nat} (h:a+k*(s+1)+s≤50000000) (hi:i<k):a+i*(s+1)+s≤50000000:=by
 have:=Nat.mul_le_mul_right (s+1) (show i≤k by omega)
 omega
end
def MrgP (t l:Ji):Prop:=∃ n a s,n≤1000∧Sd n s t∧l.length=n∧Bit a l∧0<vec l (hd t)∧vec l (hd t)<vec t (hd t)∧a+s≤40000000
section
variable {n s a:Nat} {l t:Ji} {h:Int}
theorem zlC (T:Sd n s t) (e:h=(hd t:Int)) (h0:0<vec l (hd t)) (h1:vec l (hd t)<vec t (hd t)):zjO (ixD t h) (ixD l h):=by
 subst e
 rw [zcq,zcq]
 exact ⟨T.pos,h0,T.top,by have:=T.top;omega⟩
theorem zos {x y:Int} (h:zjO x y):0<(cmn x y).a∧(cmn x y).a.natAbs≤2^8981∧(cmn x y).b.natAbs≤2^8980∧(cmn x y).c.natAbs≤2^17962:=by
 have C:=zmX h.1 h.2.1
 have:=C.bd h.2.1 zsG h.2.2.1 h.2.2.2
 exact ⟨C.pos,this⟩
theorem zij {x:Int} {a b:Nat} {l:Ji} (h1:Bit a l) (h2:x.natAbs≤2^b) (ha:a≤50000000) (hb:b≤50000000):∀ y∈l,zdc y x:=λy hy=>zdc.of (h1 y hy) h2 ha hb
end
def TinP (steps:Jq) (row:Ji):Prop:=∃ n a s,n≤1000∧Ech n 0 steps∧(∀ t∈steps,Sd n s t)∧row.length=n∧Bit a row∧steps.length≤100∧a+(steps.length+2)*((steps.length+1)*(s+9000))+s≤40000000
theorem zkv {n:Nat}:∀ {ss:Jq} {lo j:Nat},Ech n lo ss->Ech n lo (ss.drop j)
 | [],_,_,_=>by simp [Ech]
 | _ :: _,_,0,h=>h
 | s :: ss,lo,j+1,h=>by
  rw [List.drop_succ_cons]
  exact zkv (h.2.2.2.2.mono (by have:=h.2.1;omega))
section
variable {n s a i:Nat} {steps:Jq} {st:TS2} {x:Int×Ji}
structure TI (steps:Jq) (n a s i:Nat) (st:TS2):Prop where
 g:st.1.length≤i
 len:st.2.length=n
 bit:Bit (a+steps.length*(s+1)+i*((steps.length+1)*(s+9000))) st.2
 red:∀ t∈steps.drop i,0≤vec st.2 (hd t)∧vec st.2 (hd t)<vec t (hd t)
theorem TI.start {row:Ji} (e:Ech n 0 steps) (T:∀ t∈steps,Sd n s t) (hl:row.length=n) (hb:Bit a row):TI steps n a s 0 ([],low row steps):=by
 obtain ⟨k1,k2,k3,k4⟩:=zbH (l:=row) e hl
 exact ⟨Nat.le_refl 0,k1,by simpa using zgg T hl hb,by simpa using k3⟩
theorem TI.mem (hx:i<steps.length∧x.1=(i:Int)∧steps[i]?=some x.2):x.2∈steps∧x.2∈steps.drop i∧steps.drop i=x.2 :: steps.drop (i+1):=by
 have e:steps.drop i=x.2 :: steps.drop (i+1):=by
  rw [List.drop_eq_getElem_cons hx.1]
  congr 1
  have:=hx.2.2
  rw [List.getElem?_eq_getElem hx.1] at this
  exact Option.some.inj this
 exact ⟨List.mem_of_getElem? hx.2.2,by rw [e];exact List.mem_cons_self,e⟩
theorem TI.num (hi:i≤steps.length) (h:a+(steps.length+2)*((steps.length+1)*(s+9000))+s≤40000000):a+steps.length*(s+1)+i*((steps.length+1)*(s+9000))+(s+9000)≤40000000:=by
 have e1:i*((steps.length+1)*(s+9000))≤steps.length*((steps.length+1)*(s+9000)):=Nat.mul_le_mul_right _ hi
 have e2:steps.length*(s+1)≤(steps.length+1)*(s+9000):=Nat.mul_le_mul (by omega) (by omega)
 have e3:s+9000≤(steps.length+1)*(s+9000):=Nat.le_mul_of_pos_left _ (by omega)
 rw [Nat.add_mul] at h
 omega
theorem TI.mrg (I:TI steps n a s i st) (hn:n≤1000) (T:∀ t∈steps,Sd n s t) (hx:i<steps.length∧x.1=(i:Int)∧steps[i]?=some x.2) (hh:hd st.2=hd x.2) (hN:a+(steps.length+2)*((steps.length+1)*(s+9000))+s≤40000000):MrgP x.2 st.2:=by
 obtain ⟨m1,m2,m3⟩:=TI.mem hx
 have r:=I.red _ m2
 have T1:=T _ m1
 have ne:=zgl (l:=st.2) (by rw [hh,I.len];exact T1.hd)
 rw [hh] at ne
 exact ⟨n,_,s,hn,T1,I.len,I.bit,by omega,r.2,by have:=TI.num (Nat.le_of_lt hx.1) hN;omega⟩
theorem zjX {t l:Ji} {b:Nat} (T:Sd n s t) (hl:l.length=n) (hb:Bit b l) (h0:0<vec l (hd t)) (h1:vec l (hd t)<vec t (hd t)):(mrg t l).2.length=n∧Bit (b+(s+8982)) (mrg t l).2∧(mrg t l).1.length=n∧Bit (b+(s+17964)) (mrg t l).1:=by
 have e:t.length=l.length:=by rw [hl,T.len]
 have P:zjO (vec t (hd t)) (vec l (hd t)):=⟨T.pos,h0,T.top,by have:=T.top;omega⟩
 have C:=zos P
 exact ⟨by rw [show (mrg t l).2=mg2 t l _ from rfl,zlT e,T.len],zpt T hl hb (zmX T.pos h0) h1 (by omega),by rw [show (mrg t l).1=mg1 t l _ _ from rfl,zmw e,T.len],zpN T hl hb C.2.2.1 C.2.2.2⟩
theorem TI.low (I:TI steps n a s i st) (hn:n≤1000) (hk:steps.length≤100) (T:∀ t∈steps,Sd n s t) (hx:i<steps.length∧x.1=(i:Int)∧steps[i]?=some x.2) (hh:hd st.2=hd x.2) (hN:a+(steps.length+2)*((steps.length+1)*(s+9000))+s≤40000000):LowP (Lat.mrg x.2 st.2).2 (zct steps (some (x.1+(1:Int))) none):=by
 obtain ⟨m1,m2,m3⟩:=TI.mem hx
 have r:=I.red _ m2
 have T1:=T _ m1
 have ne:=zgl (l:=st.2) (by rw [hh,I.len];exact T1.hd)
 rw [hh] at ne
 obtain ⟨b1,b2,_⟩:=zjX T1 I.len I.bit (by omega) r.2
 rw [hx.2.1,show ((i:Int)+(1:Int))=((i+1:Nat):Int) by omega,zfe]
 refine ⟨n,_,s,hn,b1,by rw [List.length_drop];omega,b2,λt ht=>T t (List.mem_of_mem_drop ht),?_⟩
 have hp:(List.drop (i+1) steps).length*(s+1)≤steps.length*(s+9000):=Nat.mul_le_mul (by rw [List.length_drop];omega) (by omega)
 have hm:steps.length*(s+1)≤(steps.length+1)*(s+9000):=Nat.mul_le_mul (by omega) (by omega)
 have ho:i*((steps.length+1)*(s+9000))≤steps.length*((steps.length+1)*(s+9000)):=Nat.mul_le_mul_right _ (by omega)
 have hq:(steps.length+1)*(s+9000)=steps.length*(s+9000)+(s+9000):=Nat.succ_mul _ _
 rw [Nat.add_mul steps.length 2] at hN
 omega
theorem TI.step (I:TI steps n a s i st) (e:Ech n 0 steps) (T:∀ t∈steps,Sd n s t) (hx:i<steps.length∧x.1=(i:Int)∧steps[i]?=some x.2) {st':TS2} (hf:zlw steps st x=.inl st'):TI steps n a s (i+1) st':=by
 obtain ⟨m1,m2,m3⟩:=TI.mem hx
 have r:=I.red _ m2
 have T1:=T _ m1
 have dd:∀ t∈steps.drop (i+1),t∈steps.drop i:=λt ht=>by rw [m3];exact List.mem_cons_of_mem _ ht
 have mo:a+steps.length*(s+1)+i*((steps.length+1)*(s+9000))≤a+steps.length*(s+1)+(i+1)*((steps.length+1)*(s+9000)):=by
  have:=Nat.mul_le_mul_right ((steps.length+1)*(s+9000)) (show i≤i+1 by omega)
  omega
 unfold zlw Let at hf
 by_cases q:hd st.2<hd x.2
 ·rw [show decide ((hd st.2:Int)<(hd x.2:Int))=true by simp [q],cond_true] at hf
  cases hf
 ·rw [show decide ((hd st.2:Int)<(hd x.2:Int))=false by simp;omega,cond_false] at hf
  by_cases z:hd st.2=hd x.2
  ·rw [show decide ((hd st.2:Int)=(hd x.2:Int))=true by simp [z],cond_true,cond_true] at hf
   cases hf
   have ne:=zgl (l:=st.2) (by rw [z,I.len];exact T1.hd)
   rw [z] at ne
   obtain ⟨b1,b2,_⟩:=zjX T1 I.len I.bit (by omega) r.2
   rw [hx.2.1,show ((i:Int)+(1:Int))=((i+1:Nat):Int) by omega,zfe]
   have ed:Ech n 0 (steps.drop (i+1)):=zkv e
   obtain ⟨k1,k2,k3,k4⟩:=zbH (l:=(Lat.mrg x.2 st.2).2) ed b1
   refine ⟨by have:=I.g;simp;omega,k1,(zgg (λt ht=>T t (List.mem_of_mem_drop ht)) b1 b2).mono ?_,k3⟩
   have e5:(List.drop (i+1) steps).length*(s+1)≤steps.length*(s+9000):=Nat.mul_le_mul (by rw [List.length_drop];omega) (by omega)
   rw [Nat.succ_mul i,Nat.add_mul steps.length 1]
   omega
  ·rw [show decide ((hd st.2:Int)=(hd x.2:Int))=false by simp;omega,cond_false,cond_false] at hf
   cases hf
   exact ⟨by have:=I.g;simp;omega,I.len,I.bit.mono mo,λt ht=>I.red t (dd t ht)⟩
end
theorem tin_bit {n s K:Nat}:∀ {ss:Jq} {lo a:Nat} {l:Ji},Ech n lo ss->(∀ t∈ss,Sd n s t)->l.length=n->(∀t∈ss,0≤vec l (hd t)∧vec l (hd t)<vec t (hd t))->Bit a l->ss.length≤K →
  ∀ t∈tin MG ss l,Bit (a+ss.length*((K+1)*(s+9000))+s+18000) t
 | [],lo,a,l,_,_,_,_,hb,_,t,ht=>by
  unfold tin at ht
  cases q:decide (hd l<l.length) with
  | true=>rw [q,cond_true] at ht;rw [List.mem_singleton.mp ht];exact (zl0 hb).mono (by omega)
  | false=>rw [q,cond_false] at ht;simp at ht
 | s' :: ss,lo,a,l,e,T,hl,r,hb,hK,t,ht=>by
  have T1:=T s' List.mem_cons_self
  have hS:∀ t∈s' :: ss,Bit (a+(s' :: ss).length*((K+1)*(s+9000))+s+18000) t:=λt ht=>(T t ht).bit.mono (by omega)
  rw [zky] at ht
  cases q:decide (hd l<hd s') with
  | true =>
   rw [q,cond_true] at ht
   rcases List.mem_cons.mp ht with rfl | ht
   ·exact (zl0 hb).mono (by omega)
   ·exact hS t ht
  | false =>
   rw [q,cond_false] at ht
   by_cases z:hd l=hd s'
   ·rw [show decide (hd l=hd s')=true by simp [z],cond_true] at ht
    have ne:=zgl (l:=l) (by rw [z,hl];exact T1.hd)
    rw [z] at ne
    have r1:=r s' List.mem_cons_self
    obtain ⟨b1,b2,b3,b4⟩:=zjX T1 hl hb (by omega) r1.2
    rcases List.mem_cons.mp ht with rfl | ht
    ·exact b4.mono (by omega)
    ·obtain ⟨k1,k2,k3,k4⟩:=zbH (l:=(mrg s' l).2) e.2.2.2.2 b1
     have:=tin_bit (K:=K) e.2.2.2.2 (λt ht=>T t (List.mem_cons_of_mem _ ht)) k1 k3 (zgg (λt ht=>T t (List.mem_cons_of_mem _ ht)) b1 b2) (by simp at hK;omega) t ht
     refine this.mono ?_
     have e5:ss.length*(s+1)≤K*(s+9000):=Nat.mul_le_mul (by simp at hK;omega) (by omega)
     rw [List.length_cons,Nat.succ_mul ss.length ((K+1)*(s+9000))]
     have e6:(K+1)*(s+9000)=K*(s+9000)+(s+9000):=Nat.succ_mul _ _
     omega
   ·rw [show decide (hd l=hd s')=false by simp [z],cond_false] at ht
    rcases List.mem_cons.mp ht with rfl | ht
    ·exact hS t List.mem_cons_self
    ·refine (tin_bit (K:=K) e.2.2.2.2 (λt ht=>T t (List.mem_cons_of_mem _ ht)) hl (λt ht=>r t (List.mem_cons_of_mem _ ht)) hb (by simp at hK;omega) t ht).mono ?_
     have:ss.length*((K+1)*(s+9000))≤(s' :: ss).length*((K+1)*(s+9000)):=Nat.mul_le_mul_right _ (by simp)
     omega
def zo2 (steps:Jq):Prop:=steps.length≤1000∧∀ j x,steps[j]?=some x->LowP x (stl (steps.drop (j+1)))
section
variable {steps fl:Jq} {i:Nat} {x:Ji}
theorem zjN (hx:steps.reverse[i]?=some x):∃ j,j+1+i=steps.length∧steps[j]?=some x∧steps.drop j=x :: steps.drop (j+1):=by
 have hi:i<steps.reverse.length:=((List.getElem?_eq_some_iff.mp hx)).1
 rw [List.length_reverse] at hi
 rw [List.getElem?_reverse hi] at hx
 have hj:steps.length-1-i<steps.length:=by omega
 refine ⟨steps.length-1-i,by omega,hx,?_⟩
 rw [List.getElem?_eq_getElem hj] at hx
 rw [List.drop_eq_getElem_cons hj,Option.some.inj hx]
theorem zpS (h:zo2 steps) (hx:steps.reverse[i]?=some x) (e:fl=stl (steps.drop (steps.length-i))):LowP x fl:=by
 obtain ⟨j,h1,h2,h3⟩:=zjN hx
 rw [e,show steps.length-i=j+1 by omega]
 exact h.2 j x h2
theorem zo1 (hx:steps.reverse[i]?=some x) (e:fl=stl (steps.drop (steps.length-i))) {y:Jq} (hy:y=[low x fl]++fl):y=stl (steps.drop (steps.length-(i+1))):=by
 obtain ⟨j,h1,h2,h3⟩:=zjN hx
 rw [hy,e,show steps.length-i=j+1 by omega,show steps.length-(i+1)=j by omega,h3]
 rfl
theorem zim:∀ {ss:Jq},(stl ss).length=ss.length
 | []=>rfl
 | s :: ss=>by simp [stl,zim]
theorem zq0 (h:zo2 steps) (hi:i<steps.length) (e:fl=stl (steps.drop (steps.length-i))):fl.length≤1000:=by
 rw [e,zim,List.length_drop]
 have:=h.1
 omega
end
def Fit (n b R:Nat):Prop:=n≤1000∧R≤31∧eB b R≤8980∧b+(min n R+2)*((min n R+1)*(sB b R+9000))+3*sB b R+18001+(min n R+1)*(sB b R+1)≤40000000
def ztd (rows:Jq):Prop:=∃ n b R,Fit n b R∧rows.length≤R∧∀ r∈rows,r.length=n∧Bit b r
section
variable {n b R i:Nat} {rows ss:Jq} {r:Ji}
theorem zgM (hr:rows[i]?=some r):clm MG (rows.take (i+1))=stl (tin MG (clm MG (rows.take i)) (low r (clm MG (rows.take i)))):=by
 have hi:=((List.getElem?_eq_some_iff.mp hr)).1
 rw [List.take_succ_eq_append_getElem hi]
 unfold clm
 rw [List.foldl_append]
 rw [List.getElem?_eq_getElem hi] at hr
 rw [← Option.some.inj hr]
 rfl
theorem zaV (h:∀ r∈rows,r.length=n):Stairs n rows (clm MG rows)∧((clm MG rows)).length≤rows.length:=by
 have:∀ i,i≤rows.length->Stairs n (rows.take i) (clm MG (rows.take i))∧((clm MG (rows.take i))).length≤i:=by
  intro i
  induction i with
  | zero=>exact λ_=>⟨by simpa [clm] using Stairs.nil,by simp [clm]⟩
  | succ i ih =>
   intro hi
   obtain ⟨s1,s2⟩:=ih (by omega)
   have e:rows[i]?=some rows[i]:=List.getElem?_eq_getElem (by omega)
   obtain ⟨t1,t2⟩:=s1.step MG (r:=rows[i]) (h _ (List.getElem_mem _))
   rw [zgM e,List.take_succ_eq_append_getElem (by omega)]
   exact ⟨t1,by omega⟩
 obtain ⟨t1,t2⟩:=this rows.length (Nat.le_refl _)
 rw [List.take_length] at t1 t2
 exact ⟨t1,t2⟩
theorem zh1 (F:Fit n b R) (hl:rows.length≤R) (h:∀ r∈rows,r.length=n∧Bit b r):Stairs n rows (clm MG rows)∧((clm MG rows)).length≤min n R∧∀ t∈clm MG rows,Sd n (sB b R) t:=by
 obtain ⟨s1,s2⟩:=zaV (rows:=rows) λr hr=>(h r hr).1
 refine ⟨s1,?_,λt ht=>?_⟩
 ·have:=zfH s1.ech (Nat.zero_le n)
  omega
 ·obtain ⟨a1,a2,a3,a4⟩:=s1.ech.mem t ht
  obtain ⟨b1,b2⟩:=s1.bits F.2.1 hl (λr hr=>(h r hr).2) t ht
  exact ⟨a1,a3,a4,Nat.le_trans b1 (Nat.pow_le_pow_right (by decide) F.2.2.1),b2⟩
theorem zpb (F:Fit n b R) (hl:rows.length≤R) (h:∀ r∈rows,r.length=n∧Bit b r) (hr:rows[i]?=some r) (e:ss=clm MG (rows.take i)):LowP r ss∧TinP ss r∧zo2 (tin MG ss (low r ss)):=by
 subst e
 have hi:=((List.getElem?_eq_some_iff.mp hr)).1
 have hrm:=h r (List.mem_of_getElem? hr)
 obtain ⟨s1,s2,s3⟩:=zh1 F (rows:=rows.take i) (by rw [List.length_take];omega) λr hr=>h r (List.mem_of_mem_take hr)
 obtain ⟨t1,t2,t3⟩:=zh1 F (rows:=rows.take (i+1)) (by rw [List.length_take];omega) λr hr=>h r (List.mem_of_mem_take hr)
 rw [zgM hr] at t1 t2 t3
 obtain ⟨f1,f2,f3,f4⟩:=F
 generalize clm MG (rows.take i)=ss at *
 generalize hs:sB b R=s at *
 generalize hk:min n R=k at *
 obtain ⟨k1,k2,k3,k4⟩:=zbH (l:=r) s1.ech hrm.1
 have m1:ss.length*(s+1)≤(k+1)*(s+1):=Nat.mul_le_mul_right _ (by omega)
 have m2:(ss.length+2)*((ss.length+1)*(s+9000))≤(k+2)*((k+1)*(s+9000)):=Nat.mul_le_mul (by omega) (Nat.mul_le_mul_right _ (by omega))
 have hk32:k≤31:=by omega
 refine ⟨⟨n,b,s,f1,hrm.1,by omega,hrm.2,s3,by omega⟩,⟨n,b,s,f1,s1.ech,s3,hrm.1,hrm.2,by omega,by omega⟩,?_,λj x hx=>?_⟩
 ·rw [zim] at t2;omega
 ·have hxm:=List.mem_of_getElem? hx
  have g1:=tin_bit (K:=k) s1.ech s3 k1 k3 (zgg s3 hrm.1 hrm.2) s2 x hxm
  obtain ⟨e1,_⟩:=zf5 MG s1.ech k1 (λi hi=>absurd hi (Nat.not_lt_zero i)) k3 (Nat.zero_le n)
  rw [zig]
  refine ⟨n,_,s,f1,(e1.mem x hxm).1,by rw [List.length_drop];omega,g1,λt ht=>t3 t (List.mem_of_mem_drop ht),?_⟩
  have m3:(List.drop (j+1) (stl (tin MG ss (low r ss)))).length*(s+1)≤(k+1)*(s+1):=Nat.mul_le_mul_right _ (by rw [List.length_drop];omega)
  have m4:ss.length*((k+1)*(s+9000))≤k*((k+1)*(s+9000)):=Nat.mul_le_mul_right _ s2
  have m5:(k+1)*(s+1)≤(k+1)*(s+9000):=Nat.mul_le_mul_left _ (by omega)
  rw [Nat.add_mul k 2] at f4
  omega
theorem zqa (F:Fit n b R) (hl:rows.length≤R) (h:∀ r∈rows,r.length=n∧Bit b r):((clm MG (rows.take i))).length≤31:=by
 obtain ⟨s1,s2,s3⟩:=zh1 F (rows:=rows.take i) (by rw [List.length_take];omega) λr hr=>h r (List.mem_of_mem_take hr)
 have:=F.2.1
 omega
end
end Lat
namespace L2
open PySem PySem.Spec PyProof.Rows
section
variable {X:Cx} {K:W.Frag}
end
section
variable {E:XS} {Γ:Ctx} {te tj:TE} {u:TS} {o:Oc} {m:Bool} {K:W.Frag} {i j:Nat} {α β:Type} {f:α->Ds}
end
section
variable {E:XS} {Γ:Ctx} {u:TS} {o:Oc} {K:W.Frag} {i j:Nat}
theorem zl7 {k:Nat} {s:Slot} (h:(unC Γ)[k]?=some s):∃ r,Γ[k]?=some r∧unS r=s:=by
 unfold unC at h
 rw [List.getElem?_map] at h
 cases q:Γ[k]? with
 | none=>rw [q] at h;cases h
 | some r=>rw [q] at h;exact ⟨r,rfl,Option.some.inj h⟩
theorem zrE:unC (unC Γ)=unC Γ:=by
 unfold unC
 rw [List.map_map]
 refine List.map_congr_left λs _=>?_
 cases s<;>rfl
theorem zo4 (h:zn5 Γ=true):zn5 (unC Γ)=true:=by
 unfold zn5 unC at *
 rw [List.all_map]
 refine List.all_eq_true.mpr λs hs=>?_
 have:=List.all_eq_true.mp h s hs
 cases s<;>first | rfl | exact this
theorem zhc {R:Hp}:∀ {vs:List V} {ns:Ji},Paired (λv (d:Ds)=>d.pr R v) vs (ns.map dI)->vs=ns.map V.int
 | [],[],_=>rfl
 | _ :: _,_ :: _,.cons h t=>by
  have h:_=V.int _:=h
  rw [h,zhc t];rfl
end
end L2
namespace L2
open PySem PySem.Spec PyProof.Rows
end L2
namespace Lat
open L2
def RB (w b:Nat) (rows:Jq):Prop:=∀ r∈rows,r.length=w∧Bit b r
theorem zf2 {α:Type} {xs:List α} {i:Int} {x y:α} (h:y∈zcz xs i x):y=x∨y∈xs:=by
 unfold zcz at h
 split at h
 ·rcases List.mem_or_eq_of_mem_set h with h | h
  ·exact .inr h
  ·exact .inl h
 ·exact .inr h
theorem zgK {α β:Type} (g:α->β):∀ (xs:List α) (acc:List β),List.foldl (λs x=>s++[g x]) acc xs=acc++xs.map g
 | [],acc=>by simp
 | x :: xs,acc=>by rw [List.foldl_cons,zgK g xs];simp
end Lat
namespace Lat
theorem zhz {n:Nat}:∀ {ss:Jq} {lo:Nat} {u:Vc},Ech n lo ss->SpL ss u->(∀ t∈ss,-vec t (hd t)<u (hd t)∧u (hd t)<vec t (hd t))->∀ i,u i=0
 | [],_,u,_,h,_,i=>Sp.at0 (λ_ ⟨_,z,_⟩=>by simp at z) h
 | s :: ss,lo,u,e,h,k,i=>by
  obtain ⟨w,y,hw,hu⟩:=h.cons
  have e1:=SpL.before e.2.2.2.2 (Nat.lt_succ_self (hd s)) hw
  have e2:=hu (hd s)
  have e3:=k s List.mem_cons_self
  have e4:=e.2.2.2.1
  rw [e1] at e2
  have y0:y=0:=by
   rw [e2,Int.zero_add] at e3
   refine Classical.byContradiction λq=>?_
   rcases Int.lt_or_gt_of_ne q with q | q
   ·have:=Int.mul_le_mul_of_nonneg_right (show y≤(-1:Int) by omega) (Int.le_of_lt e4)
    omega
   ·have:=Int.mul_le_mul_of_nonneg_right (show (1:Int)≤y by omega) (Int.le_of_lt e4)
    omega
  have hu':∀ i,u i=w i:=λi=>by rw [hu i,y0];omega
  have:u=w:=funext hu'
  subst this
  exact zhz e.2.2.2.2 hw (λt ht=>k t (List.mem_cons_of_mem _ ht)) i
theorem SpL.tail {n lo:Nat} {s:Ji} {ss:Jq} {u:Vc} (e:Ech n lo (s :: ss)) (h:SpL (s :: ss) u) (h0:u (hd s)=0):SpL ss u:=by
 obtain ⟨w,y,hw,hu⟩:=h.cons
 have e1:=SpL.before e.2.2.2.2 (Nat.lt_succ_self (hd s)) hw
 have e2:=hu (hd s)
 rw [e1,h0,Int.zero_add] at e2
 have y0:y=0:=(Int.mul_eq_zero.mp e2.symm).resolve_right (by have:=e.2.2.2.1;omega)
 exact hw.conv λi=>by rw [hu i,y0];omega
theorem zms {n:Nat}:∀ {ss tt:Jq} {lo lo':Nat},Ech n lo ss->Red ss->Ech n lo' tt->Red tt->(∀t∈ss,SpL tt (vec t))->(∀ t∈tt,SpL ss (vec t))->ss=tt
 | [],[],_,_,_,_,_,_,_,_=>rfl
 | [],t :: tt,_,_,_,_,e,_,_,k=>by
  have:=Sp.at0 (i:=hd t) (λ_ ⟨_,z,_⟩=>by simp at z) (k t List.mem_cons_self)
  have:=e.2.2.2.1
  omega
 | s :: ss,[],_,_,e,_,_,_,k,_=>by
  have:=Sp.at0 (i:=hd s) (λ_ ⟨_,z,_⟩=>by simp at z) (k s List.mem_cons_self)
  have:=e.2.2.2.1
  omega
 | s :: ss,t :: tt,lo,lo',e,r,e',r',k,k'=>by
  have ks:=k s List.mem_cons_self
  have kt:=k' t List.mem_cons_self
  have ps:=e.2.2.2.1
  have pt:=e'.2.2.2.1
  have hh:hd s=hd t:=by
   obtain ⟨x,hx,ex⟩:=zfW e' ks (λi hi=>za8 hi) (by omega)
   obtain ⟨y,hy,ey⟩:=zfW e kt (λi hi=>za8 hi) (by omega)
   have h1:hd t≤hd s:=by
    rcases List.mem_cons.mp hx with rfl | hx
    ·omega
    ·have:=(Ech.mem e'.2.2.2.2 x hx).2.1;omega
   have h2:hd s≤hd t:=by
    rcases List.mem_cons.mp hy with rfl | hy
    ·omega
    ·have:=(Ech.mem e.2.2.2.2 y hy).2.1;omega
   omega
  have hn:vec s (hd s)=vec t (hd t):=by
   have d1:=zii e' ks List.mem_cons_self (λi hi=>za8 (by omega))
   have d2:=zii e kt List.mem_cons_self (λi hi=>za8 (by omega))
   rw [← hh] at d1
   rw [hh] at d2
   have d1':vec t (hd t) ∣ vec s (hd s):=by rw [← hh];exact d1
   have d2':vec s (hd s) ∣ vec t (hd t):=by rw [hh] at ps ⊢;exact d2
   exact Int.dvd_antisymm (by omega) (by omega) d2' d1'
  have tails:ss=tt:=zms e.2.2.2.2 r.2 e'.2.2.2.2 r'.2 (λx hx=>by
   refine SpL.tail e' (k x (List.mem_cons_of_mem _ hx)) ?_
   exact za8 (by have:=(Ech.mem e.2.2.2.2 x hx).2.1;omega)) λx hx=>by
   refine SpL.tail e (k' x (List.mem_cons_of_mem _ hx)) ?_
   exact za8 (by have:=(Ech.mem e'.2.2.2.2 x hx).2.1;omega)
  subst tails
  have hst:s=t:=by
   refine zjV (by rw [e.1,e'.1]) λi=>?_
   have:=zhz (u:=λi=>vec s i-vec t i) e'.2.2.2.2 (SpL.tail e' ((Sp.lin 1 (-1) ks (SpL.mem List.mem_cons_self)).conv λi=>by omega) (by rw [← hh] at hn ⊢;omega)) (λx hx=>by
    have h1:=r.1 x hx
    have h2:=r'.1 x hx
    show -vec x (hd x)<vec s (hd x)-vec t (hd x)∧vec s (hd x)-vec t (hd x)<vec x (hd x)
    omega) i
   have this:vec s i-vec t i=0:=this
   omega
  rw [hst]
theorem Stairs.one {n:Nat} {rows rows' ss tt:Jq} (h:Stairs n rows ss) (h':Stairs n rows' tt) (k:∀ r∈rows,SpL rows' (vec r)) (k':∀ r∈rows',SpL rows (vec r)):ss=tt :=
 zms h.ech h.red h'.ech h'.red (λt ht=>((h.inn t ht).sub k).sub h'.out) λt ht=>((h'.inn t ht).sub k').sub h.out
theorem Sp.image {A B:Vc->Prop} {g:Vc->Vc} {u:Vc} (h0:∀ i,g (λ_=>0) i=0) (hl:∀ (u a:Vc) (x:Int) i,g (λi=>u i+x*a i) i=g u i+x*g a i) (hA:∀ a,A a->Sp B (g a)) (h:Sp A u):Sp B (g u):=by
 induction h with
 | zero=>exact Sp.zero.conv λi=>(h0 i).symm
 | @add u a z _ ha ih=>exact (ih.plus ((hA a ha).smul z)).conv λi=>(hl u a z i).symm
theorem zd7 {l:Ji} {n i:Nat}:vec (l.take n) i=if i<n then vec l i else 0:=by
 unfold vec
 rw [List.getD_eq_getElem?_getD,List.getD_eq_getElem?_getD,List.getElem?_take]
 split<;>rfl
theorem zcL {l:Ji} {n i:Nat}:vec (l.drop n) i=vec l (n+i):=by
 unfold vec
 rw [List.getD_eq_getElem?_getD,List.getD_eq_getElem?_getD,List.getElem?_drop]
theorem zbT {l t:Ji} {i:Nat}:vec (l++t) i=if i<l.length then vec l i else vec t (i-l.length):=by
 unfold vec
 rw [List.getD_eq_getElem?_getD,List.getD_eq_getElem?_getD,List.getD_eq_getElem?_getD,List.getElem?_append]
 split<;>rfl
theorem ziD {l:Ji} {n:Nat} (h:hd l<n) (hl:hd l<l.length):hd (l.take n)=hd l:=zjf (by rw [zd7,if_pos h];exact zgl hl) λi hi=>by
 rw [zd7]
 split
 ·exact za8 hi
 ·rfl
def zhB (n:Nat) (ss:Jq):Jq:=List.map (λ(x:Ji)=>x.take n) (List.filter (λ(x:Ji)=>decide (hd x<n)) ss)
theorem zik {n m:Nat} (hnm:n≤m):∀ {ss:Jq} {lo:Nat},Ech m lo ss->Ech n lo (zhB n ss)
 | [],_,_=>trivial
 | s :: ss,lo,e=>by
  unfold zhB
  by_cases q:hd s<n
  ·rw [List.filter_cons_of_pos (by simpa using q),List.map_cons]
   have hl:=e.1
   have e1:=ziD q (by rw [hl];exact e.2.2.1)
   refine ⟨by rw [List.length_take,hl];omega,by rw [e1];exact e.2.1,by rw [e1];exact q,by rw [e1,zd7,if_pos q];exact e.2.2.2.1,?_⟩
   rw [e1]
   exact zik hnm e.2.2.2.2
  ·rw [List.filter_cons_of_neg (by simpa using q)]
   exact (zik hnm e.2.2.2.2).mono (by have:=e.2.1;omega)
theorem zkx {n:Nat} {ss:Jq} {t:Ji} (h:t∈zhB n ss):∃ s∈ss,hd s<n∧t=s.take n:=by
 unfold zhB at h
 obtain ⟨s,hs,rfl⟩:=List.mem_map.mp h
 obtain ⟨h1,h2⟩:=List.mem_filter.mp hs
 exact ⟨s,h1,by simpa using h2,rfl⟩
theorem zic {n m:Nat} (hnm:n≤m):∀ {ss:Jq} {lo:Nat},Ech m lo ss->Red ss->Red (zhB n ss)
 | [],_,_,_=>trivial
 | s :: ss,lo,e,r=>by
  unfold zhB
  by_cases q:hd s<n
  ·rw [List.filter_cons_of_pos (by simpa using q),List.map_cons]
   refine ⟨λt ht=>?_,zic hnm e.2.2.2.2 r.2⟩
   obtain ⟨x,hx,h1,rfl⟩:=zkx ht
   have ex:=Ech.mem e.2.2.2.2 x hx
   rw [ziD h1 (by rw [ex.1];exact ex.2.2.1),zd7,zd7,if_pos h1,if_pos h1]
   exact r.1 x hx
  ·rw [List.filter_cons_of_neg (by simpa using q)]
   exact zic hnm e.2.2.2.2 r.2
abbrev rst (n:Nat) (u:Vc):Vc:=λi=>if i<n then u i else 0
theorem zgI {n:Nat} {l:Ji}:rst n (vec l)=vec (l.take n):=funext λi=>by rw [zd7]
theorem zlR {n:Nat} (u a:Vc) (x:Int) (i:Nat):rst n (λi=>u i+x*a i) i=rst n u i+x*rst n a i:=by
 unfold rst;dsimp only;split<;>omega
theorem Stairs.cut {n m:Nat} {rows marked ss:Jq} (hnm:n≤m) (h:Stairs m marked ss) (k:∀ r∈marked,∃ r'∈rows,r.take n=r') (k':∀ r'∈rows,∃ r∈marked,r.take n=r'):Stairs n rows (zhB n ss):=by
 refine ⟨zik hnm h.ech,zic hnm h.ech h.red,λt ht=>?_,λr' hr'=>?_⟩
 ·obtain ⟨s,hs,_,rfl⟩:=zkx ht
  rw [← zgI]
  refine Sp.image (g:=rst n) (λi=>by unfold rst;split<;>rfl) zlR (λa ⟨r,hr,e⟩=>?_) (h.inn s hs)
  obtain ⟨r',hr',e'⟩:=k r hr
  rw [e,zgI,e']
  exact SpL.mem hr'
 ·obtain ⟨r,hr,rfl⟩:=k' r' hr'
  rw [← zgI]
  refine Sp.image (g:=rst n) (λi=>by unfold rst;split<;>rfl) zlR (λa ⟨s,hs,e⟩=>?_) (h.out r hr)
  rw [e,zgI]
  by_cases q:hd s<n
  ·refine SpL.mem ?_
   unfold zhB
   exact List.mem_map.mpr ⟨s,List.mem_filter.mpr ⟨hs,by simpa using q⟩,rfl⟩
  ·exact Sp.zero.conv λi=>by
    rw [zd7]
    split
    ·rw [za8 (by omega)]
    ·rfl
def Led (n k:Nat) (rows:Jq) (u:Vc):Prop:=∀ j,j<n->u j=comb (List.map (λi=>u (n+i)) (List.range k)) (rows.map vec) j
theorem Led.sp {n k:Nat} {rows:Jq} {A:Vc->Prop} {u:Vc} (hk:rows.length=k) (hA:∀ a,A a->Led n k rows a) (h:Sp A u):Led n k rows u:=by
 induction h with
 | zero =>
  intro j _
  have:=ziW (xs:=List.map (λi=>(0:Int)) (List.range k)) (as:=rows.map vec) 0 j
  rw [List.map_map] at this
  have e:(List.map ((λx=>(0:Int)*x) ∘ λ(i:Nat)=>(0:Int)) (List.range k))=List.map (λ_=>(0:Int)) (List.range k):=List.map_congr_left λ_ _=>rfl
  rw [e] at this
  show (0:Int)=comb (List.map (λ(_:Nat)=>(0:Int)) (List.range k)) (rows.map vec) j
  omega
 | @add u a z _ ha ih =>
  intro j hj
  have e1:=ih j hj
  have e2:=hA a ha j hj
  have e3:∀ (xs:List Nat) (as:List Vc),comb (List.map (λi=>u (n+i)+z*a (n+i)) xs) as j=comb (List.map (λi=>u (n+i)) xs) as j+z*comb (List.map (λi=>a (n+i)) xs) as j:=by
   intro xs
   induction xs with
   | nil=>intro as;simp [comb]
   | cons x xs ihx =>
    intro as
    match as with
    | []=>simp [comb]
    | b :: as =>
     simp only [List.map_cons,comb,ihx as]
     grind
  show u j+z*a j=comb (List.map (λi=>u (n+i)+z*a (n+i)) (List.range k)) (rows.map vec) j
  rw [e3,← e1,← e2]
end Lat
namespace L2
open PySem PySem.Spec PyProof.Rows
theorem zn0 {Γ:Ctx} {ds:List Ds} {tr:TA} {E:XK} {ι:Type} {C:Addr} {args:ι->List Ds} {pre:ι->Prop} {fs:ι->List (Str×Ds)} (i:ι) (h:EvA Γ tr true ds) (ha:ds=args i) (hp:pre i):Ev Γ (zpi C (zrP C args pre false fs) [] E tr) true (dO C (fs i)):=λF0 Hb F H σ own Q a k=>by
 subst ha
 refine h F0 Hb F H σ own _ a λvs F1 H1 g1 q1 p dx h1 h2 h3=>⟨i,p,dx,vs,H1,off F1 Hb,by rw [List.append_nil],h1,h2,h3,rfl,zjQ.trans g1.fh,q1,hp,λus F' H' g n1 n2 e1 e2 e3=>⟨rfl,?_⟩⟩
 have hb1:Same Hb H1:=a.g.h.trans g1.h
 have nb:∀ b o,F' b=some o->Hb b=none:=λb o z=>by
  cases w:Hb b with
  | none=>rfl
  | some o' =>
   have:off F1 Hb b=none:=by unfold off;rw [w]
   have:=g.no b (by rw [hb1 _ _ w];simp) this
   rw [this] at z;cases z
 have gW:Grow F1 H1 (λb=>match F1 b with | some o=>some o | none=>F' b) H':=by
  refine ⟨λb o z=>by show (match F1 b with | some o=>some o | none=>F' b)=some o;rw [z],λb o z=>?_,g.h,λb z1 z2=>?_⟩
  ·have z:(match F1 b with | some o=>some o | none=>F' b)=some o:=z
   cases w:F1 b with
   | some o'=>rw [w] at z;cases z;exact g.h _ _ (g1.fh _ _ w)
   | none=>rw [w] at z;exact g.fh _ _ z
  ·show (match F1 b with | some o=>some o | none=>F' b)=none
   rw [z2]
   exact g.no b z1 (by unfold off;cases Hb b<;>first | rfl | exact z2)
 have sW:Same F' (off (λb=>match F1 b with | some o=>some o | none=>F' b) Hb):=λb o z=>by
  refine zcC.mpr ⟨nb b o z,?_⟩
  show (match F1 b with | some o=>some o | none=>F' b)=some o
  cases w:F1 b with
  | none=>exact z
  | some o' =>
   have u1:=g.h _ _ (g1.fh _ _ w)
   have u2:=g.fh _ _ z
   rw [u1] at u2
   exact u2
 have g2:=g1.trans gW
 obtain ⟨p0,_,pb⟩:=a.free g1 h1
 obtain ⟨d0,_,db⟩:=a.free g1 h2
 have np:(λb=>match F1 b with | some o=>some o | none=>F' b) p=none:=by
  show (match F1 p with | some o=>some o | none=>F' p)=none
  rw [g1.fh.free h1];exact n1
 have nd:(λb=>match F1 b with | some o=>some o | none=>F' b) dx=none:=by
  show (match F1 dx with | some o=>some o | none=>F' dx)=none
  rw [g1.fh.free h2];exact n2
 have g3:=(g2.take p0 e1).take d0 e2
 have s1:=Same.new (H:=λb=>match F1 b with | some o=>some o | none=>F' b) (p:=p) np (.ins C dx us)
 have n3:upd (λb=>match F1 b with | some o=>some o | none=>F' b) p (.ins C dx us) dx=none:=by rw [zay h3];exact nd
 have s2:=s1.trans (Same.new n3 (.own p))
 refine k _ _ _ g3 ⟨p,dx,us,rfl,zex pb (by rw [zay (Ne.symm h3)];exact zaH),zex db zaH,?_⟩
 exact zcd (λ_ b q=>⟨q.1,b.2.up (sW.trans (zkk s2)) q.2⟩) e3
end L2
namespace Lat
open L2
def zgh (k:Nat) (i:Int):Ji:=zcz (zbV (k:Int) [(0:Int)]) i (1:Int)
def mark (rows:Jq):Jq:=List.map (λ(x:Int×Ji)=>x.2++zgh rows.length x.1) (zdE rows)
theorem zcR {k:Nat}:((zbV (k:Int) [(0:Int)])).length=k:=by unfold zbV;simp
theorem zfP {k:Nat} {i:Int}:(zgh k i).length=k:=by unfold zgh;rw [zd3,zcR]
theorem zdw {k j:Nat}:vec (zbV (k:Int) [(0:Int)]) j=0:=by
 by_cases h:j<((zbV (k:Int) [(0:Int)])).length
 ·have:=zm0 h
  unfold zbV at this
  obtain ⟨l,h1,h2⟩:=List.mem_flatten.mp this
  rw [(List.mem_replicate.mp h1).2] at h2
  exact List.mem_singleton.mp h2
 ·exact zbf (by omega)
theorem znp {k i j:Nat} (h:i<k):vec (zgh k (i:Int)) j=if j=i then 1 else 0:=by
 unfold zgh zcz ixN
 rw [if_pos (by omega),zcR,if_pos (by omega)]
 show vec (((zbV (k:Int) [(0:Int)])).set (i:Int).toNat 1) j=_
 rw [Int.toNat_natCast]
 unfold vec
 rw [List.getD_eq_getElem?_getD,List.getElem?_set]
 by_cases q:j=i
 ·subst q
  rw [if_pos rfl,if_pos (by rw [zcR];exact h),if_pos rfl];rfl
 ·rw [if_neg (λz=>q z.symm),if_neg q,← List.getD_eq_getElem?_getD]
  exact zdw
theorem zkU {k:Nat} {i:Int} {b:Nat}:Bit b (zgh k i):=λx hx=>by
 unfold zgh at hx
 rcases zf2 hx with rfl | hx
 ·exact Nat.one_le_two_pow
 ·obtain ⟨j,_,rfl⟩:=zh6 hx
  rw [zdw];exact Nat.zero_le _
theorem zeF {rows:Jq} {m:Ji} (h:m∈mark rows):∃ (i:Nat) (r:Ji),rows[i]?=some r∧m=r++zgh rows.length (i:Int):=by
 unfold mark at h
 obtain ⟨x,hx,rfl⟩:=List.mem_map.mp h
 obtain ⟨i,hi⟩:=List.getElem?_of_mem hx
 obtain ⟨h1,h2,h3⟩:=zcK hi
 exact ⟨i,x.2,h3,by rw [h2]⟩
theorem zl9 {rows:Jq} {i:Nat} {r:Ji} (h:rows[i]?=some r):r++zgh rows.length (i:Int)∈mark rows:=by
 unfold mark
 have hi:=((List.getElem?_eq_some_iff.mp h)).1
 refine List.mem_map.mpr ⟨((i:Int),r),?_,rfl⟩
 refine List.mem_of_getElem? (i:=i) ?_
 unfold zdE
 rw [List.getElem?_zip_eq_some]
 refine ⟨?_,h⟩
 unfold zbo
 rw [List.getElem?_map,List.getElem?_range hi]
 show some ((0:Int)+(i:Int))=some (i:Int)
 rw [Int.zero_add]
theorem zn6 {rows:Jq}:(mark rows).length=rows.length:=by unfold mark;rw [List.length_map,zfU]
theorem zpG {n b:Nat} {rows:Jq} (h:∀ r∈rows,r.length=n∧Bit b r):∀ m∈mark rows,m.length=n+rows.length∧Bit b m:=λm hm=>by
 obtain ⟨i,r,hr,rfl⟩:=zeF hm
 have h1:=h r (List.mem_of_getElem? hr)
 refine ⟨by rw [List.length_append,h1.1,zfP],λx hx=>?_⟩
 rcases List.mem_append.mp hx with hx | hx
 ·exact h1.2 x hx
 ·exact zkU x hx
theorem zjl:∀ {as:List Vc} {i c j:Nat} {a:Vc},as[i]?=some a->comb (List.map (λt=>if t=i+c then (1:Int) else 0) (List.map (·+c) (List.range as.length))) as j=a j
 | [],i,c,j,a,h=>by simp at h
 | b :: as,0,c,j,a,h=>by
  have h:b=a:=by simpa using h
  subst h
  rw [List.length_cons,List.range_succ_eq_map,List.map_cons,List.map_cons,List.map_map,List.map_map]
  simp only [comb,Nat.zero_add,if_true]
  have z:∀ (xs:List Nat) (as:List Vc),(∀ x∈xs,x≠0)->comb (List.map (λx=>if x+c=c then (1:Int) else 0) xs) as j=0:=by
   intro xs
   induction xs with
   | nil=>intro as _;simp [comb]
   | cons x xs ih =>
    intro as hx
    match as with
    | []=>simp [comb]
    | d :: as =>
     simp only [List.map_cons,comb]
     rw [if_neg (by have:=hx x List.mem_cons_self;omega),ih as λy hy=>hx y (List.mem_cons_of_mem _ hy)]
     omega
  have:=z (List.map Nat.succ (List.range as.length)) as (λx hx=>by obtain ⟨y,_,rfl⟩:=List.mem_map.mp hx;omega)
  rw [List.map_map] at this
  have e:(List.map (((λt=>if t=c then (1:Int) else 0) ∘ λx=>x+c) ∘ Nat.succ) (List.range as.length))=List.map ((λx=>if x+c=c then (1:Int) else 0) ∘ Nat.succ) (List.range as.length):=List.map_congr_left λ_ _=>rfl
  rw [e,this]
  omega
 | b :: as,i+1,c,j,a,h=>by
  have ih:=zjl (as:=as) (i:=i) (c:=c+1) (j:=j) (a:=a) (by simpa using h)
  rw [List.length_cons,List.range_succ_eq_map,List.map_cons,List.map_cons,List.map_map,List.map_map]
  simp only [comb]
  rw [if_neg (by omega)]
  rw [List.map_map] at ih
  have e:(List.map (((λt=>if t=i+1+c then (1:Int) else 0) ∘ λx=>x+c) ∘ Nat.succ) (List.range as.length))=List.map ((λt=>if t=i+(c+1) then (1:Int) else 0) ∘ λx=>x+(c+1)) (List.range as.length):=List.map_congr_left λx _=>by
   show (if x.succ+c=i+1+c then (1:Int) else 0)=if x+(c+1)=i+(c+1) then 1 else 0
   by_cases q:x=i
   ·rw [if_pos (by omega),if_pos (by omega)]
   ·rw [if_neg (by omega),if_neg (by omega)]
  rw [e,ih]
  omega
theorem znB {n:Nat} {rows:Jq} (h:∀ r∈rows,r.length=n):∀ m∈mark rows,Led n rows.length rows (vec m):=λm hm j hj=>by
 obtain ⟨i,r,hr,rfl⟩:=zeF hm
 have hi:=((List.getElem?_eq_some_iff.mp hr)).1
 have hl:=h r (List.mem_of_getElem? hr)
 have:=zjl (as:=rows.map vec) (i:=i) (c:=0) (j:=j) (a:=vec r) (by rw [List.getElem?_map,hr];rfl)
 rw [zbT,if_pos (by omega),← this,List.map_map,List.length_map]
 congr 1
 refine List.map_congr_left λt ht=>?_
 show (if t+0=i+0 then (1:Int) else 0)=vec (r++zgh rows.length (i:Int)) (n+t)
 rw [zbT,hl,if_neg (show ¬ n+t<n by omega),Nat.add_sub_cancel_left,znp hi]
 rfl
structure Tr (n:Nat) (rows ss:Jq):Prop where
 st:Stairs (n+rows.length) (mark rows) ss
 sw:Stairs n rows (zhB n ss)
 led:∀ t∈ss,Led n rows.length rows (vec t)
theorem ziL {n:Nat} {rows:Jq} (h:∀ r∈rows,r.length=n):Tr n rows (clm MG (mark rows)):=by
 have S:=(zaV (rows:=mark rows) (n:=n+rows.length) λm hm=>by
  obtain ⟨i,r,hr,rfl⟩:=zeF hm
  rw [List.length_append,zfP,h r (List.mem_of_getElem? hr)]).1
 have tk:∀ {i:Nat} {r:Ji},rows[i]?=some r->(r++zgh rows.length (i:Int)).take n=r:=λhr=>by
  rw [List.take_append_of_le_length (by rw [h _ (List.mem_of_getElem? hr)];exact Nat.le_refl _),List.take_of_length_le (by rw [h _ (List.mem_of_getElem? hr)];exact Nat.le_refl _)]
 refine ⟨S,S.cut (by omega) (λm hm=>?_) λr hr=>?_,λt ht=>?_⟩
 ·obtain ⟨i,r,hr,rfl⟩:=zeF hm
  exact ⟨r,List.mem_of_getElem? hr,tk hr⟩
 ·obtain ⟨i,hi⟩:=List.getElem?_of_mem hr
  exact ⟨_,zl9 hi,tk hi⟩
 ·exact Led.sp rfl (λa ⟨m,hm,e⟩=>e ▸ znB h m hm) (S.inn t ht)
end Lat
namespace Lat
theorem zhs:∀ {l t:Ji} {q:Int} {i:Nat},l.length=t.length->vec (List.map (λ(x:Int×Int)=>x.1+(q*x.2)) (List.zip l t)) i=vec l i+q*vec t i
 | [],[],q,i,_=>by simp [vec]
 | a :: l,b :: t,q,0,_=>rfl
 | a :: l,b :: t,q,i+1,h=>by
  rw [zbm,zbm,← zhs (l:=l) (t:=t) (by simpa using h)]
  exact zbm
end Lat
namespace Lat
end Lat
namespace L2
open PySem PySem.Spec PyProof.Rows
section
variable {X:Cx} {K:W.Frag} {pos:Pos}
end
section
variable {E:XS} {Γ:Ctx} {te ta tb:TE} {u:TS} {o:Oc} {m:Bool} {K:W.Frag} {i j l:Nat} {α β:Type} {f:α->Ds}
theorem zqC {x y:Bool}:decide (V.bl x=V.bl y)=decide (x=y):=by cases x<;>cases y<;>rfl
theorem zoP {x y:Bool} (h1:Ev Γ ta false (dB x)) (h2:Ev Γ tb false (dB y)):Ev Γ (tOp rNe ta tb) m (dB (!decide (x=y))):=(zqV h1 h2 rfl).conv (by rw [zqC])
end
end L2
namespace Lat
open L2
end Lat
namespace L2
open PySem PySem.Spec PyProof.Rows
section
variable {X:Cx}
end
end L2
namespace L2
open PySem PySem.Spec PyProof.Rows
section
variable {E:XS} {Γ Γx:Ctx} {m:Bool} {α β ε S:Type} {u:TS} {ds:List Ds}
end
end L2
namespace L2
open PySem PySem.Spec PyProof.Rows
def zhx (R:Hp) (v:V) (ns:Ji):Prop:=∃ r,v=.ref r∧R r=some (.lst (List.map V.int ns))
def dRI (nss:Jq):Ds:=⟨λR v=>∃ p vs,v=.ref p∧R p=some (.lst vs)∧vs.Nodup∧V.ref p ∉ vs∧Paired (zhx R) vs nss,λe ⟨p,vs,h1,h2,h3,h4,h5⟩=>⟨p,vs,h1,e _ _ h2,h3,h4,zcd (λ_ _ ⟨r,q1,q2⟩=>⟨r,q1,e _ _ q2⟩) h5⟩⟩
theorem zjx {R:Hp}:∀ {ns:Ji},Paired (λv (d:Ds)=>d.pr R v) (ns.map V.int) (ns.map dI)
 | []=>.nil
 | _ :: _=>.cons rfl zjx
theorem zqv {R:Hp} {v:V} {nss:Jq} (h:(dRI nss).pr R v):(dL (nss.map λl=>dL (l.map dI))).pr R v:=by
 obtain ⟨p,vs,rfl,h2,h3,h4,h5⟩:=h
 refine ⟨p,vs,rfl,h2,?_⟩
 clear h2 h3 h4
 induction h5 with
 | nil=>exact .nil
 | cons q _ ih =>
  obtain ⟨r,rfl,q2⟩:=q
  exact .cons ⟨r,_,rfl,q2,zjx⟩ ih
section
variable {Γ:Ctx} {m:Bool} {K:W.Frag} {γ:Type} {te tj:TE} {i:Nat} {nss:Jq}
theorem zr1 {t:TE} (h:Ev Γ t m (dRI nss)):Ev Γ t m (dL (nss.map λl=>dL (l.map dI))):=λF0 Hb F H σ own Q a k=>h F0 Hb F H σ own Q a λv F' H' g q=>k v F' H' g (zqv q)
theorem znM {own:Nat} {fv:List Nat} {wi:TI} {tg:TG} {js:List Nat} {xs:List γ} {bds:γ->List Ds} {mi:Bool} {ns:γ->Ji} (it:Iv Γ wi tg js xs bds mi) (hz:xs.length≤sizeLine) (hj:(∀ j∈js,j<own)∧js.Nodup)
  (he:∀ (i:Nat) (x:γ),xs[i]?=some x->EvO (zm8 js (bds x) mi (zjo own fv Γ)) te true ((ns x).map dI)):Ev Γ (zlS own fv wi tg zoa te) true (dRI (xs.map ns)):=λF0 Hb F H σ ow Q a k =>
 it F0 Hb F H σ ow _ a λJ F1 H1 g1 ok D hD=>by
  have hno:∀ j∈js,((zjo own fv Γ))[j]?=some .no:=λj hj'=>by
   have:=hj.1 j hj'
   unfold zjo
   rw [List.getElem?_append_left (by simpa using this),List.getElem?_replicate,if_pos this]
  obtain ⟨hD0,hDF,hDb⟩:=a.free g1 hD
  refine ⟨λi mm ys σb H2=>mm=xs.length-i∧i≤xs.length∧ys.length≤i∧∃ F2,Grow F1 H1 F2 H2∧F2 D=none∧H2 D=some (.lst ys)∧(ys.Nodup∧V.ref D ∉ ys∧Paired (zhx (off F2 Hb)) ys ((xs.take i).map ns))∧At F0 Hb F2 H2 σb (λ_=>none) (zjo own fv Γ),
   ⟨_,rfl,Nat.zero_le _,Nat.zero_le _,F1,((Grow.refl g1.fh)).newH hD,hDF,zaH,⟨.nil,by simp,by simpa using Paired.nil⟩,(((a.grow g1)).block own fv).grow (((Grow.refl g1.fh)).newH hD)⟩,?_⟩
  rintro i mm ys σb H2 ⟨rfl,hi,hy,F2,g2,hF2,hH2,⟨hN,hDy,hP⟩,a2⟩
  refine ⟨hH2,?_⟩
  obtain ⟨hstop,hitem⟩:=ok.up g2.f H2 g2.fh
  by_cases hlt:i<xs.length
  ·obtain ⟨go,yl⟩:=hitem i xs[i] (List.getElem?_eq_getElem hlt)
   refine .inr ⟨go,λx H' y=>?_⟩
   obtain ⟨g3,bind⟩:=yl x H' y
   refine bind σb _ λvs hvs=>?_
   have a3:=(a2.grow g3).setMany (js:=js) hvs
   have hx:xs[i]?=some xs[i]:=List.getElem?_eq_getElem hlt
   refine zku (Γ:=zm8 js (bds xs[i]) mi (zjo own fv Γ)) F0 Hb F2 H' _ _ _ a3 λF4 H4 g4=>?_
   have tk:=ziM hx
   rw [if_pos rfl]
   refine he i _ hx F0 Hb F4 H4 _ _ _ (a3.grow g4) λp ws F5 H5 g5 p1 p2 p3 q5=>?_
   have ew:=zhc q5
   subst ew
   have g24:=g3.trans g4
   have g6:=g5.take p1 p3
   have g26:=g24.trans g6
   have n2:H5 D=some (.lst ys):=g26.h _ _ hH2
   have hpD:D≠p:=λz=>by rw [← z] at p1;rw [g24.h _ _ hH2] at p1;cases p1
   have n1:upd F5 p (.lst (List.map V.int (ns xs[i]))) D=none:=g26.no D (by rw [hH2];simp) hF2
   have hbp:Hb p=none:=(a2.g.h.trans g24.h).free p1
   have n3:H1 D=none:=hD
   refine ⟨n2,by omega,xs.length-(i+1),by omega,rfl,hlt,by simp;omega,upd F5 p (.lst (List.map V.int (ns xs[i]))),?_,n1,zaH,⟨?_,?_,?_⟩,?_⟩
   ·exact (g2.trans g26).setH n1 n3
   ·
    refine List.nodup_append.mpr ⟨hN,by simp,λv hv w hw z=>?_⟩
    rw [List.mem_singleton.mp hw] at z
    subst z
    obtain ⟨n,hn⟩:=List.getElem?_of_mem hv
    have hl:=Paired.length hP
    obtain ⟨v',e',⟨r,er,hr⟩⟩:=zbb hP (List.getElem?_eq_getElem (l:=(xs.take i).map ns) (i:=n) (by have:=((List.getElem?_eq_some_iff.mp hn)).1;omega))
    rw [hn] at e'
    cases e'
    cases er
    have:=(zcC.mp hr).2
    have:=g24.h _ _ (g2.fh _ _ this)
    rw [p1] at this;cases this
   ·intro z
    rcases List.mem_append.mp z with z | z
    ·exact hDy z
    ·have:=List.mem_singleton.mp z
     cases this
     exact hpD rfl
   ·rw [tk,List.map_append]
    refine zcx (zcd (λ_ _ ⟨r,q1,q2⟩=>⟨r,q1,zkk g26.f _ _ q2⟩) hP) (.cons ⟨p,rfl,zcC.mpr ⟨hbp,zaH⟩⟩ .nil)
   ·have a5:=((a3.grow g4).grow g6).unsetMany hno hj.2
    refine ⟨a5.g.setH n1 hDb,a5.inj,λ_ _ h=>(nomatch h),λj s es=>?_,a5.len⟩
    have:=a5.sl j s es
    cases s with
    | no=>trivial
    | va m d=>exact this
    | ow m ds=>obtain ⟨_,_,_,h,_⟩:=this;exact (nomatch h)
    | ob m C p dx fs=>obtain ⟨_,_,h,_⟩:=this;exact (nomatch h)
    | ol p ds=>obtain ⟨_,_,h,_⟩:=this;exact (nomatch h)
    | tl d=>exact (zmz es).elim
  ·have e:i=xs.length:=by omega
   subst e
   rw [List.take_length] at hP
   refine .inl ⟨hstop,k (.ref D) (upd F2 D (.lst ys)) H2 (((g1.trans g2)).take hD0 hH2) ⟨D,ys,rfl,zcC.mpr ⟨hDb,zaH⟩,hN,hDy,?_⟩⟩
   exact zcd (λ_ _ ⟨r,q1,q2⟩=>⟨r,q1,zkk (Same.new hF2 _) _ _ q2⟩) hP
end
section
variable {E:XS} {Γ:Ctx} {m:Bool} {K:W.Frag} {te tj:TE} {u:TS} {o:Oc} {i:Nat} {nss:Jq}
theorem zio {R:Hp} {r:Addr} {new:Ji}:∀ {vs:List V} {nss:Jq} {j:Nat},Paired (zhx R) vs nss->vs.Nodup->vs[j]?=some (.ref r)->Paired (zhx (upd R r (.lst (new.map V.int)))) vs (nss.set j new)
 | _,_,_,.nil,_,h=>by simp at h
 | v :: vs,ns :: nss,0,.cons q t,hN,h=>by
  have h:v=.ref r:=by simpa using h
  subst h
  refine .cons ⟨r,rfl,zaH⟩ ?_
  have hn1:=(List.nodup_cons.mp hN).1
  clear q h hN
  induction t with
  | nil=>exact .nil
  | @cons a b as bs q t ih =>
   obtain ⟨r',rfl,q2⟩:=q
   have hne:r'≠r:=λz=>hn1 (by rw [z];exact List.mem_cons_self)
   exact .cons ⟨r',rfl,by rw [zay hne];exact q2⟩ (ih λz=>hn1 (List.mem_cons_of_mem _ z))
 | v :: vs,ns :: nss,j+1,.cons q t,hN,h=>by
  have hN:=List.nodup_cons.mp hN
  have h:vs[j]?=some (.ref r):=by simpa using h
  obtain ⟨r',rfl,q2⟩:=q
  have hne:r'≠r:=λz=>hN.1 (by rw [z];exact List.mem_of_getElem? h)
  exact .cons ⟨r',rfl,by rw [zay hne];exact q2⟩ (zio t hN.2 h)
theorem At.row {F0 Hb F H:Hp} {σ:St} {own:Nat->Option Addr} (a:At F0 Hb F H σ own Γ) (e:Γ[i]?=some (.tl (dRI nss))) (hno:zn5 Γ=true) {k:Int} (hk:InB nss.length k) :
  ∃ p vs r,σ[i]?=some (some (.ref p))∧H p=some (.lst vs)∧atI vs k=some (.ref r)∧H r=some (.lst ((ixD nss k).map V.int))∧∀ (H':Hp) (new:Ji),Same H H'->At F0 Hb F (upd H' r (.lst (new.map V.int))) σ own ((unC Γ).set i (.tl (dRI (zcz nss k new)))):=by
 obtain ⟨x,R,h1,h2,h3,h4,p,vs,rfl,h6,h7,h8,h9⟩:=a.sl i _ e
 have hi:i<σ.length:=by rw [a.len];exact ((List.getElem?_eq_some_iff.mp e)).1
 have e':σ[i]?=some (some (.ref p)):=by
  rw [List.getElem?_eq_getElem hi] at h1 ⊢
  exact congrArg some h1
 have hl:=Paired.length h9
 obtain ⟨j,ej,hj,_⟩:=zi6 hk
 obtain ⟨v,ev,⟨r,rfl,hr⟩⟩:=zbb h9 (List.getElem?_eq_getElem (l:=nss) (i:=j) hj)
 have ex:ixD nss k=nss[j]:=by
  unfold ixD atI
  rw [ej]
  show (nss[j]?).getD default=_
  rw [List.getElem?_eq_getElem hj];rfl
 have es:∀ new,zcz nss k new=nss.set j new:=λnew=>by unfold zcz;rw [ej]
 have rF:=h3 r _ hr
 have rO:∀ l,own l≠some r:=λl z=>by rw [h4 l r z] at hr;cases hr
 have rp:p≠r:=λz=>h8 (by rw [z];exact List.mem_of_getElem? ev)
 refine ⟨p,vs,r,e',h2 _ _ h6,?_,by rw [ex];exact h2 _ _ hr,λH' new hs=>?_⟩
 ·unfold atI
  rw [hl,ej]
  exact ev
 ·have a1:=(a.grow (Grow.only a.fh hs)).spoil hno (.lst (new.map V.int)) rF.1 rF.2 rO
  refine ⟨a1.g,a1.inj,a1.liv,λl s es'=>?_,by rw [List.length_set];exact a1.len⟩
  by_cases z:i=l
  ·subst z
   rw [List.getElem?_set_self (by rw [← a1.len];exact hi)] at es'
   cases es'
   rw [e']
   refine ⟨.ref p,upd R r (.lst (new.map V.int)),rfl,λb w q=>?_,λb w q=>?_,λl' b q=>?_,p,vs,rfl,by rw [zay rp];exact h6,h7,h8,by rw [es];exact zio h9 h7 ev⟩
   ·by_cases y:b=r
    ·subst y;rw [zaH] at q ⊢;exact q
    ·rw [zay y] at q ⊢;exact hs _ _ (h2 _ _ q)
   ·by_cases y:b=r
    ·subst y;exact rF
    ·rw [zay y] at q;exact h3 b w q
   ·have y:b≠r:=λy=>rO l' (y ▸ q)
    rw [zay y];exact h4 l' b q
  ·rw [List.getElem?_set_ne z] at es'
   exact a1.sl l s es'
end
end L2
namespace L2
open PySem PySem.Spec PyProof.Rows
section
variable {E:XS} {Γ Δ:Ctx} {m:Bool} {K:W.Frag} {te ta tb:TE} {t u:TS} {d:Ds} {ds es:List Ds} {o:Oc} {i j:Nat}
end
section
variable {P:Program} {w:World} {K:W.Frag} {mg:Str->Option Value} {base:Heap} {x qual:Str} {st:Stmt} {f:Addr} {fd:FuncData} {N ps:List Str} {k:Nat}
end
section
variable {E:XS} {Γ Δ:Ctx} {m:Bool} {K:W.Frag} {te ta tb tj:TE} {t u:TS} {d:Ds} {ds es:List Ds} {o:Oc} {i j:Nat} {p:Addr} {α β:Type} {f:α->Ds} {xs:List α}
end
end L2
namespace L2
open PySem PySem.Spec PyProof.Rows
structure T5 (α β γ δ ε:Type) where
 a:α
 b:β
 c:γ
 d:δ
 e:ε
section
variable {E:XS} {Γ:Ctx} {m:Bool} {K:W.Frag} {te tj:TE} {u:TS} {o:Oc} {i j:Nat} {nss:Jq} {α β:Type}
def zow (Γ:Ctx) (t:TE) (ds:List Ds):Prop:=∀ (F0 Hb F H:Hp) (σ:St) (own:Nat->Option Addr) (Q:VK),At F0 Hb F H σ own Γ →
 (∀ p vs F' H',Grow F H F' H'->H p=none->F' p=none->H' p=some (.lst vs)->Paired (λv (d:Ds)=>d.pr (off F' H) v) vs ds->Q (.ref p) H')->t σ H Q
theorem zpv {ds:List Ds} (h:EvO (zqR Γ) te true ds):zow Γ te ds:=λF0 Hb F H σ own Q a k=>h F H F H σ _ Q a.now λp vs F' H' g h1 h2 h3 q=>k p vs F' H' g h1 h2 h3 q
theorem zow.evo {ds:List Ds} (h:zow Γ te ds):EvO Γ te true ds:=λF0 Hb F H σ own Q a k=>h F0 Hb F H σ own Q a λp vs F' H' g h1 h2 h3 q=>k p vs F' H' g h1 h2 h3 (zdp (ds:=[]) (znh a.g.h) q)
theorem zow.borrowO {ds es:List Ds} (e:Γ[i]?=some (.ow m es)) (h:zow (Γ.set i (.va m (dL es))) te ds):zow Γ te ds:=λF0 Hb F H σ own Q a k=>by
 obtain ⟨F1,own1,_,a1⟩:=a.share e
 refine h F0 Hb F1 H σ own1 Q a1 λp vs F' H' g h1 h2 h3 q=>?_
 have e:∀ b o,off F' H b=some o->H b=none∧F' b=some o:=λb o z=>zcC.mp z
 refine k p vs (λb=>match H b with | some _=>F b | none=>F' b) H' ⟨λb o z=>?_,λb o z=>?_,g.h,λb z1 z2=>?_⟩ h1 (by rw [h1];exact h2) h3 (zdp (ds:=[]) (λb o z=>?_) q)
 ·show (match H b with | some _=>F b | none=>F' b)=some o
  rw [a.fh _ _ z];exact z
 ·have z:(match H b with | some _=>F b | none=>F' b)=some o:=z
  cases w:H b with
  | some o'=>rw [w] at z;exact g.h _ _ (a.fh _ _ z)
  | none=>rw [w] at z;exact g.fh _ _ z
 ·show (match H b with | some _=>F b | none=>F' b)=none
  cases w:H b with
  | some o'=>exact z2
  | none=>exact absurd w z1
 ·obtain ⟨h1,h2⟩:=e b o z
  refine zcC.mpr ⟨h1,?_⟩
  show (match H b with | some _=>F b | none=>F' b)=some o
  rw [h1];exact h2
theorem zfw {R R':Hp} (e:Same R R') {vs:List V} (h:Paired (zhx R) vs nss):Paired (zhx R') vs nss:=zcd (λ_ _ ⟨r,q1,q2⟩=>⟨r,q1,e _ _ q2⟩) h
open Classical in
theorem zjt {v:Ji->Int} {k:Int} {P:Ji->Prop} (e:Γ[i]?=some (.tl (dRI nss))) (ej:Γ[j]?=some .no) (hno:zn5 Γ=true) (hP:∀ ns∈nss,P ns) (hk:∀ ns,P ns->InB ns.length k)
  (h:∀ ns,P ns->Ev ((unC Γ).set j (.tl (dL (ns.map dI)))) te false (dI (v ns))) (hj:∀ ns,P ns->Ev ((unC Γ).set j (.tl (dL (ns.map dI)))) tj false (dI k))
  (kk:Run E ((unC Γ).set i (.tl (dRI (nss.map λns=>zcz ns k (v ns))))) u o):Run E Γ (zeM (zq5 (zn4 K (zje i)) (zdz j) (zeM (zkc te (zqh (zje j) tj zmg)) znY)) u) o:=λF0 Hb F H σ own D a q=>by
 obtain ⟨x,R,h1,h2,h3,h4,p,vs,rfl,h6,h7,h8,h9⟩:=a.sl i _ e
 have hi:i<σ.length:=by rw [a.len];exact ((List.getElem?_eq_some_iff.mp e)).1
 have e':σ[i]?=some (some (.ref p)):=by
  rw [List.getElem?_eq_getElem hi] at h1 ⊢
  exact congrArg some h1
 have hij:i≠j:=λz=>by rw [z,ej] at e;cases e
 have hl:=Paired.length h9
 have st:∀ v'∈vs,∃ r,v'=.ref r∧F r=none∧Hb r=none∧(∀ l,own l≠some r)∧r≠p:=λv' hv=>by
  obtain ⟨n,hn⟩:=List.getElem?_of_mem hv
  have hn':=((List.getElem?_eq_some_iff.mp hn)).1
  obtain ⟨v2,ev,⟨r,er,hr⟩⟩:=zbb h9 (List.getElem?_eq_getElem (l:=nss) (i:=n) (by omega))
  rw [hn] at ev
  cases ev
  refine ⟨r,er,(h3 r _ hr).1,(h3 r _ hr).2,(λl z=>by rw [h4 l r z] at hr;cases hr),λz=>h8 ?_⟩
  subst z;rw [← er];exact hv
 have hp:H p=some (.lst vs):=h2 _ _ h6
 have pF:=h3 p _ h6
 have pO:∀ l,own l≠some p:=λl z=>by rw [h4 l p z] at h6;cases h6
 have a0:At F0 Hb F H σ own (unC Γ):=⟨a.g,a.inj,a.liv,λk s es=>by
  obtain ⟨r,e1,rfl⟩:=zl7 es
  have:=a.sl k r e1
  cases r with
  | tl d=>trivial
  | no=>trivial
  | va m d=>exact this
  | ow m ds=>exact this
  | ol p ds=>exact this
  | ob m C p dx fs=>exact this,by unfold unC;rw [List.length_map];exact a.len⟩
 have gst:∀ n ns,nss[n]?=some ns->(((nss.take n).map (λns=>zcz ns k (v ns))++nss.drop n)).set n (zcz ns k (v ns))=(nss.take (n+1)).map (λns=>zcz ns k (v ns))++nss.drop (n+1):=λn ns hn=>by
  have hlt:=((List.getElem?_eq_some_iff.mp hn)).1
  have en:nss[n]=ns:=by rw [List.getElem?_eq_getElem hlt] at hn;exact Option.some.inj hn
  rw [List.set_append_right _ _ (by rw [List.length_map,List.length_take];omega),List.length_map,List.length_take,Nat.min_eq_left (by omega),Nat.sub_self,List.drop_eq_getElem_cons hlt,List.set_cons_zero,List.take_succ_eq_append_getElem hlt,List.map_append,List.append_assoc,en]
  rfl
 refine ⟨_,e',p,rfl,⟨vs,SqL.of hp⟩,λn m σ' H'=>m=vs.length-n∧n≤vs.length∧At F0 Hb F H' σ' own (unC Γ)∧σ'[i]?=some (some (.ref p))∧H' p=some (.lst vs)∧Paired (zhx H') vs ((nss.take n).map (λns=>zcz ns k (v ns))++nss.drop n),⟨_,rfl,Nat.zero_le _,a0,e',hp,by simpa using zfw h2 h9⟩,?_⟩
 rintro n m σ1 H1 ⟨rfl,hn,a1,s1,p1,rows1⟩
 by_cases hlt:n<vs.length
 ·refine .inr ⟨⟨vs,vs[n],SqL.of p1,List.getElem?_eq_getElem hlt⟩,λσ' H'=>At F0 Hb F H' σ' own (unC Γ)∧σ'[i]?=some (some (.ref p))∧H' p=some (.lst vs)∧Paired (zhx H') vs ((nss.take (n+1)).map (λns=>zcz ns k (v ns))++nss.drop (n+1)),λσ' H' z=>⟨_,by omega,rfl,by omega,z⟩,λv' H' y=>?_⟩
  obtain ⟨rfl,y⟩:=y
  have hv:=y vs (SqL.of p1)
  obtain ⟨ns,hns⟩:∃ ns,nss[n]?=some ns:=⟨_,List.getElem?_eq_getElem (by omega)⟩
  have hrow:(((nss.take n).map (λns=>zcz ns k (v ns))++nss.drop n))[n]?=some ns:=by
   rw [List.getElem?_append_right (by rw [List.length_map,List.length_take];omega),List.length_map,List.length_take,Nat.min_eq_left (by omega),Nat.sub_self,List.getElem?_drop]
   exact hns
  obtain ⟨v2,ev,⟨r,er,hr⟩⟩:=zbb rows1 hrow
  rw [hv] at ev
  cases ev
  subst er
  obtain ⟨r',er',rF,rB,rO,rp⟩:=st _ (List.mem_of_getElem? hv)
  cases er'
  have Pn:P ns:=hP ns (List.mem_of_getElem? hns)
  have hjl:j<σ1.length:=by rw [a1.len];unfold unC;rw [List.length_map];exact (List.getElem?_eq_some_iff.mp ej).1
  have sj:((σ1.set j (some (.ref r))))[j]?=some (some (.ref r)):=List.getElem?_set_self hjl
  have a2:At F0 Hb F H' (σ1.set j (some (.ref r))) own (unC Γ):=⟨a1.g,a1.inj,a1.liv,λk s es=>by
   by_cases z:j=k
   ·subst z
    obtain ⟨r',e1,rfl⟩:=zl7 es
    rw [ej] at e1
    cases e1
    trivial
   ·rw [List.getElem?_set_ne z]
    exact a1.sl k s es,by simp [a1.len]⟩
  have a3:At F0 Hb F H' (σ1.set j (some (.ref r))) own ((unC Γ).set j (.tl (dL (ns.map dI)))):=⟨a2.g,a2.inj,a2.liv,λk s es=>by
   by_cases z:j=k
   ·subst z
    rw [List.getElem?_set_self (by rw [← a1.len];exact hjl)] at es
    cases es
    rw [sj]
    refine ⟨.ref r,λb=>if b=r then some (.lst (ns.map V.int)) else none,rfl,λb o z=>?_,λb o z=>?_,λl b z=>?_,r,ns.map V.int,rfl,if_pos rfl,zjx⟩
    ·dsimp only at z
     split at z
     ·cases z;rename_i w;rw [w];exact hr
     ·cases z
    ·dsimp only at z
     split at z
     ·rename_i w;rw [w];exact ⟨rF,rB⟩
     ·cases z
    ·dsimp only
     rw [if_neg (λw=>rO l (by rw [← w];exact z))]
   ·rw [List.getElem?_set_ne z] at es
    exact a2.sl k s es,by simpa using a2.len⟩
  obtain ⟨nn,en,hnn,_⟩:=zi6 (hk ns Pn)
  refine h ns Pn F0 Hb F H' _ own _ a3 λw F2 H2 g2 qw=>?_
  have qw:w=.int (v ns):=qw
  subst qw
  have a4:=a3.grow (Grow.only a3.fh g2.h)
  refine ⟨_,sj,hj ns Pn F0 Hb F H2 _ own _ a4 λw F3 H3 g3 qk=>?_⟩
  have qk:w=.int k:=qk
  subst qk
  have s13:Same H' H3:=g2.h.trans g3.h
  refine ⟨r,ns.map V.int,k,nn,rfl,rfl,s13 _ _ hr,by rw [List.length_map];exact en,?_⟩
  have enew:((ns.map V.int)).set nn (.int (v ns))=(zcz ns k (v ns)).map V.int:=by
   unfold zcz
   rw [en]
   show _=(ns.set nn (v ns)).map V.int
   rw [List.map_set]
  rw [enew]
  refine ⟨?_,?_,?_,?_⟩
  ·have:=(a2.grow (Grow.only a2.fh s13)).spoil (zo4 hno) (.lst ((zcz ns k (v ns)).map V.int)) rF rB rO
   rwa [zrE] at this
  ·rw [List.getElem?_set_ne (Ne.symm hij)];exact s1
  ·rw [zay (Ne.symm rp)];exact s13 _ _ p1
  ·rw [← gst n ns hns]
   exact zio (zfw s13 rows1) h7 hv
 ·have en:n=nss.length:=by omega
  subst en
  refine .inl ⟨⟨vs,SqL.of p1,by omega⟩,kk F0 Hb F H1 σ1 own D ?_ q⟩
  refine ⟨a1.g,a1.inj,a1.liv,λl s es=>?_,by rw [List.length_set];exact a1.len⟩
  by_cases z:i=l
  ·subst z
   rw [List.getElem?_set_self (by rw [← a1.len];exact (List.getElem?_eq_some_iff.mp s1).1)] at es
   cases es
   rw [s1]
   have rows2:Paired (zhx H1) vs (nss.map λns=>zcz ns k (v ns)):=by simpa using rows1
   refine ⟨.ref p,λb=>if b=p then some (.lst vs) else if V.ref b∈vs then H1 b else none,rfl,λb o z=>?_,λb o z=>?_,λl b z=>?_,p,vs,rfl,if_pos rfl,h7,h8,?_⟩
   ·dsimp only at z
    split at z
    ·cases z;rename_i w;rw [w];exact p1
    ·split at z
     ·exact z
     ·cases z
   ·dsimp only at z
    split at z
    ·rename_i w;rw [w];exact pF
    ·split at z
     ·rename_i w
      obtain ⟨r,er,t1,t2,_⟩:=st _ w
      cases er
      exact ⟨t1,t2⟩
     ·cases z
   ·dsimp only
    rw [if_neg (λw=>pO l (by rw [← w];exact z)),if_neg]
    intro w
    obtain ⟨r,er,_,_,t3,_⟩:=st _ w
    cases er
    exact t3 l z
   ·clear q rows1 h9 hp h6 h kk
    have key:∀ {ws:List V} {mss:Jq},(∀ w∈ws,w∈vs)->Paired (zhx H1) ws mss->Paired (zhx λb=>if b=p then some (.lst vs) else if V.ref b∈vs then H1 b else none) ws mss:=by
     intro ws mss hw hq
     induction hq with
     | nil=>exact .nil
     | cons q1 _ ih =>
      obtain ⟨r,rfl,q2⟩:=q1
      have hm:=hw _ List.mem_cons_self
      refine .cons ⟨r,rfl,?_⟩ (ih λw hw'=>hw w (List.mem_cons_of_mem _ hw'))
      dsimp only
      rw [if_neg (λz=>h8 (by rw [← z];exact hm)),if_pos hm]
      exact q2
    exact key (λ_ hw=>hw) rows2
  ·rw [List.getElem?_set_ne z] at es
   exact a1.sl l s es
end
end L2
namespace Lat
open L2
theorem zi2 {j:Nat}:∀ {xs:Ji} {as:List Vc} {i:Nat} {x x0:Int} {a:Vc},xs[i]?=some x0->as[i]?=some a->comb (xs.set i x) as j=comb xs as j+(x-x0)*a j
 | [],_,_,_,_,_,h,_=>by simp at h
 | _ :: _,[],_,_,_,_,_,h=>by simp at h
 | y :: xs,b :: as,0,x,x0,a,h,k=>by
  have h:y=x0:=by simpa using h
  have k:b=a:=by simpa using k
  subst h k
  simp only [List.set_cons_zero,comb]
  grind
 | y :: xs,b :: as,i+1,x,x0,a,h,k=>by
  have:=zi2 (j:=j) (xs:=xs) (as:=as) (i:=i) (x:=x) (x0:=x0) (a:=a) (by simpa using h) (by simpa using k)
  simp only [List.set_cons_succ,comb,this]
  omega
theorem zji {j:Nat}:∀ {xs:Ji} {as:List Vc} {i:Nat} {x:Int} {a a0:Vc},xs[i]?=some x->as[i]?=some a0->comb xs (as.set i a) j=comb xs as j+x*(a j-a0 j)
 | [],_,_,_,_,_,h,_=>by simp at h
 | _ :: _,[],_,_,_,_,_,h=>by simp at h
 | y :: xs,b :: as,0,x,a,a0,h,k=>by
  have h:y=x:=by simpa using h
  have k:b=a0:=by simpa using k
  subst h k
  simp only [List.set_cons_zero,comb]
  grind
 | y :: xs,b :: as,i+1,x,a,a0,h,k=>by
  have:=zji (j:=j) (xs:=xs) (as:=as) (i:=i) (x:=x) (a:=a) (a0:=a0) (by simpa using h) (by simpa using k)
  simp only [List.set_cons_succ,comb,this]
  omega
theorem zhg {j:Nat}:∀ {xs:Ji} {as:List Vc},(∀ (i:Nat) (x:Int) (a:Vc),xs[i]?=some x->as[i]?=some a->x*a j=0)->comb xs as j=0
 | [],_,_=>rfl
 | _ :: _,[],_=>rfl
 | x :: xs,a :: as,h=>by
  have h0:=h 0 x a rfl rfl
  have:=zhg (j:=j) (xs:=xs) (as:=as) λi y b h1 h2=>h (i+1) y b (by simpa using h1) (by simpa using h2)
  simp only [comb,h0,this]
  rfl
theorem ziS {j x y:Nat} {q:Int} {t:Ji} {as:List Vc} {t1 t2:Int} {a1 a2:Vc} (hxy:x≠y) (h1:t[x]?=some t1) (h2:t[y]?=some t2) (k1:as[x]?=some a1) (k2:as[y]?=some a2) {b:Vc} (hb:b j=a2 j+q*a1 j) :
  comb (t.set x (t1-q*t2)) (as.set y b) j=comb t as j:=by
 rw [zi2 h1 (by rw [List.getElem?_set_ne (Ne.symm hxy)];exact k1),zji h2 k2,hb]
 grind
def zdo (n:Nat) (ss:Jq):Jq:=List.map (λ(x:Ji)=>x.drop n) (List.filter (λ(x:Ji)=>decide (n≤hd x)) ss)
theorem ziE {l:Ji} {n:Nat} (h:n≤hd l) (hl:hd l<l.length):hd (l.drop n)=hd l-n:=zjf (by rw [zcL,show n+(hd l-n)=hd l by omega];exact zgl hl) λi hi=>by
 rw [zcL];exact za8 (by omega)
theorem zgV {n:Nat} {ss:Jq} {t:Ji} (h:t∈zdo n ss):∃ s∈ss,n≤hd s∧t=s.drop n:=by
 unfold zdo at h
 obtain ⟨s,hs,rfl⟩:=List.mem_map.mp h
 obtain ⟨h1,h2⟩:=List.mem_filter.mp hs
 exact ⟨s,h1,by simpa using h2,rfl⟩
theorem zhj {n k:Nat}:∀ {ss:Jq} {lo:Nat},Ech (n+k) lo ss->Ech k (lo-n) (zdo n ss)
 | [],_,_=>trivial
 | s :: ss,lo,e=>by
  unfold zdo
  by_cases q:n≤hd s
  ·rw [List.filter_cons_of_pos (by simpa using q),List.map_cons]
   have hl:=e.1
   have e1:=ziE q (by rw [hl];exact e.2.2.1)
   have e3:=e.2.2.1
   have e2:=e.2.1
   refine ⟨by rw [List.length_drop,hl];omega,by rw [e1];omega,by rw [e1];omega,by rw [e1,zcL,show n+(hd s-n)=hd s by omega];exact e.2.2.2.1,?_⟩
   have:=zhj e.2.2.2.2
   rw [e1]
   exact this.mono (by omega)
  ·rw [List.filter_cons_of_neg (by simpa using q)]
   have:=zhj e.2.2.2.2
   exact this.mono (by have:=e.2.1;omega)
theorem zhi {n k:Nat}:∀ {ss:Jq} {lo:Nat},Ech (n+k) lo ss->Red ss->Red (zdo n ss)
 | [],_,_,_=>trivial
 | s :: ss,lo,e,r=>by
  unfold zdo
  by_cases q:n≤hd s
  ·rw [List.filter_cons_of_pos (by simpa using q),List.map_cons]
   refine ⟨λt ht=>?_,zhi e.2.2.2.2 r.2⟩
   obtain ⟨x,hx,h1,rfl⟩:=zgV ht
   have ex:=Ech.mem e.2.2.2.2 x hx
   rw [ziE h1 (by rw [ex.1];exact ex.2.2.1),zcL,zcL,show n+(hd x-n)=hd x by omega]
   exact r.1 x hx
  ·rw [List.filter_cons_of_neg (by simpa using q)]
   exact zhi e.2.2.2.2 r.2
theorem zjG {m n:Nat}:∀ {ss:Jq} {lo:Nat} {u:Vc},Ech m lo ss->SpL ss u->(∀ i,i<n->u i=0)->SpL (List.filter (λ(x:Ji)=>decide (n≤hd x)) ss) u
 | [],_,_,_,h,_=>h
 | s :: ss,lo,u,e,h,hz=>by
  obtain ⟨w,y,hw,hu⟩:=h.cons
  have e1:=SpL.before e.2.2.2.2 (Nat.lt_succ_self (hd s)) hw
  by_cases q:n≤hd s
  ·rw [List.filter_cons_of_pos (by simpa using q)]
   have hw0:∀ i,i<n->w i=0:=λi hi=>SpL.before e.2.2.2.2 (by omega) hw
   exact ((SpL.up (s:=s) (zjG e.2.2.2.2 hw hw0)).plus ((SpL.mem (ss:=s :: _) List.mem_cons_self).smul y)).conv λi=>(hu i).symm
  ·rw [List.filter_cons_of_neg (by simpa using q)]
   have e2:=hu (hd s)
   rw [hz _ (by omega),e1] at e2
   have e4:=e.2.2.2.1
   have hy:y=0:=by
    rcases Int.mul_eq_zero.mp (show y*vec s (hd s)=0 by omega) with z | z
    ·exact z
    ·omega
   refine zjG e.2.2.2.2 (hw.conv λi=>?_) hz
   rw [hu i,hy];simp
theorem Sd.drop {n k s:Nat} {t:Ji} (h:Sd (n+k) s t) (hn:n≤Lat.hd t):Sd k s (t.drop n):=by
 have e:=ziE hn (by rw [h.len];exact h.hd)
 have h1:=h.hd
 have e2:n+(Lat.hd t-n)=Lat.hd t:=by omega
 exact ⟨by rw [List.length_drop,h.len];omega,by rw [e];omega,by rw [e,zcL,e2];exact h.pos,by rw [e,zcL,e2];exact h.top,λx hx=>h.bit x (List.mem_of_mem_drop hx)⟩
end Lat
namespace L2
open PySem PySem.Spec PyProof.Rows
section
variable {X:Cx} {K:W.Frag}
end
section
variable {Γ:Ctx} {m:Bool} {K:W.Frag}
end
end L2
namespace L2
open PySem PySem.Spec PyProof.Rows
section
variable {E:XS} {Γ:Ctx} {u:TS} {o:Oc} {K:W.Frag} {i j:Nat}
end
end L2
namespace Lat
open L2
theorem zsQ {m:Nat} {z:Int} {i:Nat}:vec (List.map (λ(y:Int)=>(if (decide (y=z)) then (1:Int) else 0)) (zbo 0 m)) i=if i<m∧(i:Int)=z then 1 else 0:=by
 unfold vec
 rw [List.getD_eq_getElem?_getD,List.getElem?_map]
 by_cases hi:i<m
 ·have:(zbo 0 m)[i]?=some (i:Int):=by
   unfold zbo
   rw [List.getElem?_map,List.getElem?_range hi]
   show some ((0:Int)+(i:Int))=some (i:Int)
   rw [Int.zero_add]
  rw [this]
  show (if (decide ((i:Int)=z)) then (1:Int) else 0)=_
  by_cases e:(i:Int)=z
  ·rw [decide_eq_true e,if_pos rfl,if_pos ⟨hi,e⟩]
  ·rw [decide_eq_false e,if_neg (by simp),if_neg (λq=>e q.2)]
 ·rw [List.getElem?_eq_none (by rw [zaZ];omega),if_neg (λq=>hi q.1)]
  rfl
theorem zhS {m:Nat} {c:Int}:∀ (ys:Ji) (s:Int) (i:Nat),i<m->0≤c+s->comb ys (List.map (λ(x:Int)=>vec (List.map (λ(y:Int)=>(if (decide (y=(c+x))) then (1:Int) else 0)) (zbo 0 m))) (zbo s ys.length)) i=if c+s≤(i:Int) then vec ys ((i:Int)-(c+s)).toNat else 0
 | [],s,i,_,_=>by
  rw [show comb [] _ i=0 from rfl]
  split
  ·simp [vec]
  ·rfl
 | y :: ys,s,i,hi,hs=>by
  have ih:=zhS (c:=c) ys (s+1) i hi (by omega)
  rw [List.length_cons,zf8,List.map_cons]
  simp only [comb,ih]
  rw [zsQ]
  by_cases e:(i:Int)=c+s
  ·rw [if_pos ⟨hi,e⟩,if_neg (by omega),if_pos (by omega),show ((i:Int)-(c+s)).toNat=0 by omega,zmo]
   omega
  ·rw [if_neg (λq=>e q.2)]
   by_cases e2:c+s≤(i:Int)
   ·rw [if_pos (by omega),if_pos e2,show ((i:Int)-(c+s)).toNat=((i:Int)-(c+(s+1))).toNat+1 by omega,zbm]
    omega
   ·rw [if_neg (by omega),if_neg e2]
    omega
end Lat
namespace L2
open PySem PySem.Spec PyProof.Rows
section
open PySem.SeqAt PySem.MeetsSeq PySem.MeetsSeq2 PySem.MeetsSeq3
open PySem.AutoSeq1 (wpAny_loadPart')
end
section
variable {X:Cx} {K:W.Frag}
end
section
variable {X:Cx} {K:W.Frag}
end
section
variable {E:XS} {Γ:Ctx} {te tj:TE} {t u:TS} {o:Oc} {m:Bool} {K:W.Frag} {i j:Nat} {α β:Type}
end
end L2
namespace L2
open PySem PySem.Spec PyProof.Rows
section
variable {X:Cx} {CX:CXT} {k:Nat} {f C:Addr} {fd:FuncData} {ps:List Str} {sp:Sp} {E:XK} {m:Str} {pos apos:Pos} {o e:Expr} {es:List Expr} {t:TA}
structure ByCls (K:W.Frag) (C f:Addr) (m:Str):Prop where
 ga:W.specialIn K (.ref C) "__getattribute__"=some (some (.builtin "type.__getattribute__"))
 rd:W.readsIn K C (.type "type")=true
 fn:W.findCls K (.ref C) (.type "type") m=some (.val (.ref f))
 kp:W.keepIn K (.ref f)=true
end
section
variable {E:XS} {Γ:Ctx} {u:TS} {o:Oc} {m m2:Bool} {K:W.Frag} {i:Nat} {ds:List Ds} {tr:TA}
end
section
variable {Γ:Ctx} {m:Bool}
end
section
variable {X:Cx} {CX:CXT} {k k2:Nat} {f f2 C C2:Addr} {fd fd2:FuncData} {ps ps2:List Str} {sp sp2:Sp} {E:XK} {m:Str} {pos apos:Pos} {o e:Expr} {es:List Expr} {ta:TE} {t:TA}
end
section
variable {Γ:Ctx} {i:Nat} {m n:Bool} {ds:List Ds}
end
end L2
namespace Lat
open L2
def dv:Ji->Vc->Int
 | [],_=>0
 | a :: w,u=>a*u 0+dv w λi=>u (i+1)
theorem zmn:∀ (w t:Ji),((List.map (λ(x:Int×Int)=>x.1*x.2) (List.zip w t))).sum=dv w (vec t)
 | [],_=>rfl
 | a :: w,[]=>by
  have:∀ (w:Ji),dv w (λ_=>0)=0:=by
   intro w
   induction w with
   | nil=>rfl
   | cons a w ih=>show a*0+dv w (λ_=>0)=0;rw [ih];omega
  exact (this (a :: w)).symm
 | a :: w,b :: t=>by
  show a*b+((List.map (λ(x:Int×Int)=>x.1*x.2) (List.zip w t))).sum=a*b+dv w λi=>vec (b :: t) (i+1)
  rw [zmn w t]
  congr 2
theorem zi3:∀ (w:Ji) (u v:Vc) (x:Int),dv w (λi=>u i+x*v i)=dv w u+x*dv w v
 | [],_,_,x=>by show (0:Int)=0+x*0;omega
 | a :: w,u,v,x=>by
  show a*(u 0+x*v 0)+dv w (λi=>u (i+1)+x*v (i+1))=_
  rw [zi3 w (λi=>u (i+1)) (λi=>v (i+1)) x]
  show _=a*u 0+dv w (λi=>u (i+1))+x*(a*v 0+dv w λi=>v (i+1))
  grind
theorem znc (w:Ji):dv w (λ_=>0)=0:=by
 have:=zi3 w (λ_=>0) (λ_=>0) (-1)
 have e:(λ(i:Nat)=>(0:Int)+-1*0)=λ_=>0:=by funext i;omega
 rw [e] at this
 omega
theorem zmW {w:Ji} {u v:Vc} (h:∀ i,u i=v i):dv w u=dv w v:=by rw [show u=v from funext h]
theorem zrl {A:Vc->Prop} {w:Ji} {M:Int} {u:Vc} (h:∀ a,A a->M ∣ dv w a) (hu:Sp A u):M ∣ dv w u:=by
 induction hu with
 | zero=>rw [znc];exact Int.dvd_zero _
 | @add u a z _ ha ih=>rw [zi3];exact Int.dvd_add ih (Int.dvd_trans (h a ha) (Int.dvd_mul_left _ _))
theorem zrr {X B:Nat}:∀ {w:Ji} {u:Vc},(∀ x∈w,x.natAbs≤X)->(∀ i,(u i).natAbs≤B)->(dv w u).natAbs≤w.length*(X*B)
 | [],u,_,_=>by show (0:Int).natAbs≤_;simp
 | a :: w,u,h,k=>by
  have h1:=zrr (w:=w) (u:=λi=>u (i+1)) (λy hy=>h y (List.mem_cons_of_mem _ hy)) λi=>k (i+1)
  have h2:(a*u 0).natAbs≤X*B:=by rw [Int.natAbs_mul];exact Nat.mul_le_mul (h a List.mem_cons_self) (k 0)
  show (a*u 0+dv w λi=>u (i+1)).natAbs≤(w.length+1)*(X*B)
  rw [Nat.succ_mul]
  omega
def lv1 (w t:Ji):Ji:=zcz (mul w (vec t (hd t))) (hd t:Int) (-(dv w (vec t)))
def lv (N:Nat):Jq->Ji
 | []=>zbV ((N:Int)-1) [(0:Int)]++[(1:Int)]
 | t :: ss=>lv1 (lv N ss) t
theorem zqE {n:Nat}:(lv (n+1) []).length=n+1∧(∀ i,i<n->vec (lv (n+1) []) i=0)∧vec (lv (n+1) []) n=1:=by
 have hl:(zbV (((n+1:Nat):Int)-1) [(0:Int)]).length=n:=by rw [show ((n+1:Nat):Int)-1=(n:Int) by omega];exact zcR
 refine ⟨by show ((zbV (((n+1:Nat):Int)-1) [(0:Int)]++[(1:Int)])).length=_;rw [List.length_append,hl];rfl,λi hi=>?_,?_⟩
 ·show vec (zbV (((n+1:Nat):Int)-1) [(0:Int)]++[(1:Int)]) i=0
  rw [zbT,hl,if_pos hi]
  rw [show ((n+1:Nat):Int)-1=(n:Int) by omega]
  unfold zbV vec
  rw [List.getD_eq_getElem?_getD]
  cases q:((List.replicate (n:Int).toNat [(0:Int)]).flatten)[i]? with
  | none=>rfl
  | some y =>
   obtain ⟨l,h1,h2⟩:=List.mem_flatten.mp (List.mem_of_getElem? q)
   rw [List.eq_of_mem_replicate h1] at h2
   rw [List.mem_singleton.mp h2];rfl
 ·show vec (zbV (((n+1:Nat):Int)-1) [(0:Int)]++[(1:Int)]) n=1
  rw [zbT,hl,if_neg (by omega),Nat.sub_self];rfl
theorem zoY {n s a:Nat} {w t:Ji} (T:Sd n s t) (hw:w.length≤1000) (hb:Bit a w):Bit (a+(s+9000)) (lv1 w t):=λx hx=>by
 rcases zf2 hx with rfl | hx
 ·have h1:=zrr hb T.bit.vec
  have h2:w.length*(2^a*2^s)≤2^10*(2^a*2^s):=Nat.mul_le_mul_right _ (by omega)
  rw [← Nat.pow_add,← Nat.pow_add] at h2
  have h3:2^(10+(a+s))≤2^(a+(s+9000)):=Nat.pow_le_pow_right (by decide) (by omega)
  rw [← Nat.pow_add] at h1
  rw [Int.natAbs_neg]
  exact Nat.le_trans h1 (Nat.le_trans h2 h3)
 ·unfold mul at hx
  obtain ⟨y,hy,rfl⟩:=List.mem_map.mp hx
  show (y*vec t (hd t)).natAbs≤_
  rw [Int.natAbs_mul]
  exact Nat.le_trans (zfB (hb y hy) T.top) (Nat.pow_le_pow_right (by decide) (by omega))
theorem zpz {w t:Ji}:(lv1 w t).length=w.length:=by unfold lv1;rw [zd3,zba]
def lvI (N:Nat) (ss:Jq) (i:Nat) (w:Ji):Prop:=w=lv N (ss.drop (ss.length-i))
theorem zr0 {N:Nat} {ss:Jq}:lvI N ss 0 (lv N []):=by
 unfold lvI
 rw [Nat.sub_zero,List.drop_length]
theorem zr5 {N i:Nat} {ss:Jq} {t w:Ji} (hx:ss.reverse[i]?=some t) (I:lvI N ss i w):lvI N ss (i+1) (lv1 w t):=by
 have hi:i<ss.length:=by have:=((List.getElem?_eq_some_iff.mp hx)).1;rwa [List.length_reverse] at this
 have e:ss[ss.length-(i+1)]?=some t:=by rw [← hx,List.getElem?_reverse hi];congr 1;omega
 unfold lvI at *
 have hj:ss.length-(i+1)<ss.length:=by omega
 rw [List.drop_eq_getElem_cons hj,show ss.length-(i+1)+1=ss.length-i by omega]
 rw [List.getElem?_eq_getElem hj] at e
 cases e
 show lv1 w _=lv1 (lv N _) _
 rw [← I]
theorem zoB {n s:Nat}:∀ {ss:Jq},(∀ t∈ss,Sd (n+1) s t)->n≤900->(lv (n+1) ss).length=n+1∧Bit (1+ss.length*(s+9000)) (lv (n+1) ss)
 | [],_,_=>⟨zqE.1,λx hx=>by
  have hx:x∈zbV (((n+1:Nat):Int)-1) [(0:Int)]++[(1:Int)]:=hx
  rcases List.mem_append.mp hx with hx | hx
  ·unfold zbV at hx
   obtain ⟨l,h1,h2⟩:=List.mem_flatten.mp hx
   rw [List.eq_of_mem_replicate h1] at h2
   rw [List.mem_singleton.mp h2];exact Nat.zero_le _
  ·rw [List.mem_singleton.mp hx]
   exact Nat.one_le_two_pow⟩
 | t :: ss,h,hn=>by
  obtain ⟨h1,h2⟩:=zoB (λs hs=>h s (List.mem_cons_of_mem _ hs)) hn
  refine ⟨by show (lv1 _ _).length=_;rw [zpz,h1],(zoY (h t List.mem_cons_self) (by omega) h2).mono ?_⟩
  rw [List.length_cons,Nat.succ_mul];omega
def zhA (sw:Jq) (x:Ji):Jq:=List.map (λ(r:Ji)=>r++[(0:Int)]) sw++[x++[(-(1:Int))]]
theorem zbp {l:Ji}:vec (l++[(0:Int)])=vec l:=by
 funext i
 rw [zbT]
 split
 ·rfl
 ·rename_i h
  rw [zbf (l:=l) (by omega)]
  cases q:i-l.length with
  | zero=>rfl
  | succ k=>rw [zbm];rfl
theorem zgL {l:Ji} {n:Nat} (h:l.length=n) (i:Nat):vec (l++[(-(1:Int))]) i=vec l i-(if i=n then 1 else 0):=by
 rw [zbT,h]
 by_cases q:i<n
 ·rw [if_pos q,if_neg (by omega)];omega
 ·rw [if_neg q,zbf (l:=l) (by omega)]
  by_cases z:i=n
  ·rw [if_pos z,z,Nat.sub_self];rfl
  ·rw [if_neg z]
   obtain ⟨k,hk⟩:∃ k,i-n=k+1:=⟨i-n-1,by omega⟩
   rw [hk,zbm];rfl
theorem zl4 {n:Nat} {sw:Jq} {x:Ji} (h:∀ r∈sw,r.length=n) (hx:x.length=n):∀ r∈zhA sw x,r.length=n+1:=λr hr=>by
 rcases List.mem_append.mp hr with hr | hr
 ·obtain ⟨s,hs,rfl⟩:=List.mem_map.mp hr
  rw [List.length_append,h s hs];rfl
 ·rw [List.mem_singleton.mp hr,List.length_append,hx];rfl
theorem zo5 {b:Nat} {sw:Jq} {x:Ji} (h:∀ r∈sw,Bit b r) (hx:Bit b x):∀ r∈zhA sw x,Bit b r:=λr hr y hy=>by
 rcases List.mem_append.mp hr with hr | hr
 ·obtain ⟨s,hs,rfl⟩:=List.mem_map.mp hr
  rcases List.mem_append.mp hy with hy | hy
  ·exact h s hs y hy
  ·rw [List.mem_singleton.mp hy];exact Nat.zero_le _
 ·rw [List.mem_singleton.mp hr] at hy
  rcases List.mem_append.mp hy with hy | hy
  ·exact hx y hy
  ·rw [List.mem_singleton.mp hy];exact Nat.one_le_two_pow
theorem zsV {n:Nat} {sw:Jq} {x:Ji} (h:∀ r∈sw,r.length=n) (hx:x.length=n) {v:Vc} (hv:SpL (zhA sw x) v):SpL sw (λi=>v i+v n*(vec x i-if i=n then 1 else 0)):=by
 have hv:Sp (λu=>(∃ s∈sw,u=vec s)∨u=vec (x++[(-(1:Int))])) v:=Sp.mono (λa ⟨r,hr,e⟩=>by
  rcases List.mem_append.mp hr with hr | hr
  ·obtain ⟨s,hs,rfl⟩:=List.mem_map.mp hr
   exact .inl ⟨s,hs,by rw [e,zbp]⟩
  ·rw [List.mem_singleton.mp hr] at e
   exact .inr e) hv
 obtain ⟨u,y,hu,e⟩:=hv.split
 have u0:u n=0:=Sp.at0 (λa ⟨s,hs,e⟩=>by rw [e];exact zbf (by rw [h s hs];exact Nat.le_refl _)) hu
 have en:=e n
 rw [u0,zgL hx,if_pos rfl,zbf (l:=x) (by omega)] at en
 have hy:v n=-y:=by omega
 refine Sp.conv (A:=λu=>∃ s∈sw,u=vec s) hu λi=>?_
 rw [e i,hy,zgL hx]
 grind
theorem zqo {n:Nat} {sw:Jq} {x:Ji} (hx:x.length=n) {d:Int} (h:SpL sw (λi=>d*vec x i)):SpL (zhA sw x) (λi=>if i=n then d else 0):=by
 have h1:SpL (zhA sw x) (λi=>d*vec x i):=Sp.mono (λa ⟨s,hs,e⟩=>⟨s++[(0:Int)],List.mem_append_left _ (List.mem_map.mpr ⟨s,hs,rfl⟩),by rw [e,zbp]⟩) h
 have h2:SpL (zhA sw x) (vec (x++[(-(1:Int))])):=Sp.mem ⟨_,List.mem_append_right _ (List.mem_singleton.mpr rfl),rfl⟩
 refine (Sp.lin 1 (-d) h1 h2).conv λi=>?_
 rw [zgL hx]
 by_cases z:i=n
 ·rw [if_pos z,if_pos z];grind
 ·rw [if_neg z,if_neg z];grind
section
variable {n:Nat} {sw:Jq} {x:Ji} {R ss:Jq}
end
end Lat
namespace L2
open PySem PySem.Spec PyProof.Rows
section
variable {Γ:Ctx} {m:Bool} {K:W.Frag} {ta:TE} {α:Type} {f:α->Ds} {cl:α->Addr} {fs:α->List (Str×Ds)}
end
end L2
namespace L2
open PySem PySem.Spec PyProof.Rows
structure CalleeM (P:Program) (w:World) (K:W.Frag) (mg:Str->Option Value) (base:Heap) (CX:CXT) (k:Nat) (C:Addr) (m:Str) (ps:List Str) (sp:Sp):Prop where
 ex:∃ f fd,FnOk P w K mg base CX k f fd ps sp∧Meth K C m f∧zgC K fd ps []
def zs5 (t u:TE):TE:=λσ H Q=>t σ H Q∨u σ H Q
section
variable {X:Cx} {CX:CXT} {k:Nat} {C:Addr} {ps:List Str} {sp:Sp} {E:XK} {m:Str} {pos apos:Pos} {o e:Expr} {es:List Expr} {ta:TE} {t:TA}
theorem Ev.inl {Γ:Ctx} {t u:TE} {b:Bool} {d:Ds} (h:Ev Γ t b d):Ev Γ (zs5 t u) b d:=λF0 Hb F H σ own Q a k=>.inl (h F0 Hb F H σ own Q a k)
theorem Ev.inr {Γ:Ctx} {t u:TE} {b:Bool} {d:Ds} (h:Ev Γ u b d):Ev Γ (zs5 t u) b d:=λF0 Hb F H σ own Q a k=>.inr (h F0 Hb F H σ own Q a k)
end
section
variable {Γ:Ctx} {ta tb tc:TE} {m:Bool}
end
section
variable {E:XS} {Γ:Ctx} {m:Bool} {K:W.Frag} {te:TE} {u:TS} {α β:Type}
end
end L2
namespace L2
open PySem PySem.Spec PyProof.Rows
def orX (t u:TEX):TEX:=λσ H Q E=>t σ H Q E∨u σ H Q E
section
variable {X:Cx} {a b e o:Expr} {es:List Expr} {pos apos:Pos} {k:Nat} {C:Addr} {ps:List Str} {sp:Sp} {m:Str} {tb to:TE} {ta:TEX} {t:TA}
end
def EvX {α ε:Type} (xc:ε->Addr) (Γ:Ctx) (te:TEX) (m:Bool) (d:α->Ds) (r:Except ε α):Prop:=∀ (F0 Hb F H:Hp) (σ:St) (own:Nat->Option Addr) (Q:VK) (E:XK),At F0 Hb F H σ own Γ →
 (match r with | .ok v=>∀ v' F' H',Grow F H F' H'->(d v).pr (zfN m F' Hb) v'->Q v' H' | .error e=>∀ dct F' H',Grow F H F' H'->E (.ref (xc e)) dct H')->te σ H Q E
section
variable {α β ε:Type} {xc:ε->Addr} {Γ Γx:Ctx} {te:TEX} {tb:TE} {m m0:Bool} {d:α->Ds} {r:Except ε α} {ds:List Ds} {u:TS} {E:XS}
theorem EvX.inl {t u:TEX} (h:EvX xc Γ t m d r):EvX xc Γ (orX t u) m d r:=λF0 Hb F H σ own Q E a k=>.inl (h F0 Hb F H σ own Q E a k)
theorem EvX.inr {t u:TEX} (h:EvX xc Γ u m d r):EvX xc Γ (orX t u) m d r:=λF0 Hb F H σ own Q E a k=>.inr (h F0 Hb F H σ own Q E a k)
end
end L2
namespace L2
open PySem PySem.Spec PyProof.Rows
section
variable {P:Program} {w:World} {K:W.Frag} {mg:Str->Option Value} {base:Heap} {x qual:Str} {st:Stmt} {f:Addr} {fd:FuncData} {N ps:List Str} {k:Nat}
end
section
variable {X:Cx} {k:Nat} {f C:Addr} {fd:FuncData} {ps:List Str} {sp:Sp} {x:Str} {p pos:Pos} {e:Expr} {es:List Expr} {t:TA}
end
section
variable {E:XS} {Γ Γx:Ctx} {u t:TS} {o:Oc} {ds:List Ds} {tr:TA} {K:W.Frag} {m:Bool} {ta:TE}
end
end L2
namespace Lat
open L2
theorem zlG:∀ (w v:Ji) (q:Int) (u:Vc),w.length=v.length->dv (List.map (λ(x:Int×Int)=>x.1-(q*x.2)) (List.zip w v)) u=dv w u-q*dv v u
 | [],[],q,u,_=>by show (0:Int)=0-q*0;omega
 | a :: w,b :: v,q,u,h=>by
  show (a-q*b)*u 0+dv (List.map (λ(x:Int×Int)=>x.1-(q*x.2)) (List.zip w v)) (λi=>u (i+1))=(a*u 0+dv w λi=>u (i+1))-q*(b*u 0+dv v λi=>u (i+1))
  rw [zlG w v q (λi=>u (i+1)) (by simpa using h)]
  grind
theorem zpo (w:Ji) (c:Int) (v:Vc):dv w (λi=>c*v i)=c*dv w v:=by
 have:=zi3 w (λ_=>0) v c
 rw [znc,Int.zero_add] at this
 rw [← this]
 exact zmW λi=>by omega
theorem zkI {c:Int} {l:Ji} {k:Nat}:vec (List.map (λ(y:Int)=>c*y) l) k=c*vec l k:=by
 have e:List.map (λ(y:Int)=>c*y) l=mul l c:=by unfold mul;congr 1;funext y;exact Int.mul_comm _ _
 rw [e,zc9,Int.mul_comm]
theorem zj5:∀ (n:Nat) (s i:Int) (u:Vc),dv (List.map (λ(y:Int)=>(if (decide (y=i)) then (1:Int) else 0)) (zbo s n)) u=if s≤i∧i<s+n then u (i-s).toNat else 0
 | 0,s,i,u=>by
  rw [if_neg (by omega)]
  rfl
 | n+1,s,i,u=>by
  rw [zf8,List.map_cons]
  show (if (decide (s=i)) then (1:Int) else 0)*u 0+dv (List.map (λ(y:Int)=>(if (decide (y=i)) then (1:Int) else 0)) (zbo (s+1) n)) (λk=>u (k+1))=_
  rw [zj5 n (s+1) i]
  by_cases e:s=i
  ·have n1:¬ (s+1≤i∧i<s+1+(n:Int)):=by omega
   have n2:s≤i∧i<s+((n+1:Nat):Int):=by omega
   rw [decide_eq_true e,if_neg n1,if_pos n2,show (i-s).toNat=0 by omega]
   simp
  ·rw [decide_eq_false e]
   by_cases h:s+1≤i∧i<s+1+(n:Int)
   ·have n2:s≤i∧i<s+((n+1:Nat):Int):=by omega
    rw [if_pos h,if_pos n2,show (i-s).toNat=(i-(s+1)).toNat+1 by omega]
    simp
   ·have n2:¬ (s≤i∧i<s+((n+1:Nat):Int)):=by omega
    rw [if_neg h,if_neg n2]
    simp
structure Du (W:Nat) (s:Jq×Jq):Prop where
 l1:s.1.length=W
 l2:s.2.length=W
 r:∀ t∈s.1,t.length=W
 d:∀ t∈s.2,t.length=W
 A:∀ (i j:Nat) (t v:Ji),s.2[i]?=some t->s.1[j]?=some v->dv t (vec v)=if i=j then 1 else 0
 B:∀ u:Vc,(∀ k,W≤k->u k=0)->∀ j,comb (s.2.map λt=>dv t u) (s.1.map vec) j=u j
theorem Du.step {W o t:Nat} {s:Jq×Jq} {ro rt d_o dt:Ji} (h:Du W s) (q:Int) (hot:o≠t) (ho:s.1[o]?=some ro) (ht:s.1[t]?=some rt) (hdo:s.2[o]?=some d_o) (hdt:s.2[t]?=some dt) :
  Du W (s.1.set t (List.map (λ(x:Int×Int)=>x.1+(q*x.2)) (List.zip rt ro)),s.2.set o (List.map (λ(x:Int×Int)=>x.1-(q*x.2)) (List.zip d_o dt))):=by
 have m1:=h.r _ (List.mem_of_getElem? ho);have m2:=h.r _ (List.mem_of_getElem? ht)
 have m3:=h.d _ (List.mem_of_getElem? hdo);have m4:=h.d _ (List.mem_of_getElem? hdt)
 have hr:∀ (w:Ji),dv w (vec (List.map (λ(x:Int×Int)=>x.1+(q*x.2)) (List.zip rt ro)))=dv w (vec rt)+q*dv w (vec ro):=λw=>by
  rw [← zi3]
  exact zmW λi=>zhs (by rw [m1,m2])
 have hd:∀ u,dv (List.map (λ(x:Int×Int)=>x.1-(q*x.2)) (List.zip d_o dt)) u=dv d_o u-q*dv dt u:=λu=>zlG _ _ _ _ (by rw [m3,m4])
 refine ⟨by show (s.1.set t _).length=W;rw [List.length_set];exact h.l1,by show (s.2.set o _).length=W;rw [List.length_set];exact h.l2,λx hx=>?_,λx hx=>?_,λi j x v hx hv=>?_,λu hu j=>?_⟩
 ·rcases List.mem_or_eq_of_mem_set hx with hx | rfl
  ·exact h.r x hx
  ·rw [List.length_map,List.length_zip,m1,m2];omega
 ·rcases List.mem_or_eq_of_mem_set hx with hx | rfl
  ·exact h.d x hx
  ·rw [List.length_map,List.length_zip,m3,m4];omega
 ·have hx2:(s.2.set o (List.map (λ(x:Int×Int)=>x.1-(q*x.2)) (List.zip d_o dt)))[i]?=some x:=hx
  have hv2:(s.1.set t (List.map (λ(x:Int×Int)=>x.1+(q*x.2)) (List.zip rt ro)))[j]?=some v:=hv
  clear hx hv
  have lo:=(List.getElem?_eq_some_iff.mp hdo).1
  have lt:=(List.getElem?_eq_some_iff.mp ht).1
  by_cases hi:i=o
  ·subst hi
   rw [List.getElem?_set_self lo] at hx2
   cases hx2
   rw [hd]
   by_cases hj:j=t
   ·subst hj
    rw [List.getElem?_set_self lt] at hv2
    cases hv2
    rw [hr,hr,h.A _ _ _ _ hdo ht,h.A _ _ _ _ hdo ho,h.A _ _ _ _ hdt ht,h.A _ _ _ _ hdt ho,if_neg hot,if_pos rfl,if_pos rfl,if_neg (Ne.symm hot)]
    omega
   ·rw [List.getElem?_set_ne (Ne.symm hj)] at hv2
    rw [h.A _ _ _ _ hdo hv2,h.A _ _ _ _ hdt hv2,if_neg (Ne.symm hj)]
    omega
  ·rw [List.getElem?_set_ne (Ne.symm hi)] at hx2
   by_cases hj:j=t
   ·subst hj
    rw [List.getElem?_set_self lt] at hv2
    cases hv2
    rw [hr,h.A _ _ _ _ hx2 ht,h.A _ _ _ _ hx2 ho,if_neg hi]
    omega
   ·rw [List.getElem?_set_ne (Ne.symm hj)] at hv2
    exact h.A _ _ _ _ hx2 hv2
 ·show comb ((s.2.set o _).map λt=>dv t u) ((s.1.set t _).map vec) j=u j
  rw [List.map_set,List.map_set,hd]
  rw [ziS (a1:=vec ro) (a2:=vec rt) hot (by rw [List.getElem?_map,hdo];rfl) (by rw [List.getElem?_map,hdt];rfl) (by rw [List.getElem?_map,ho];rfl) (by rw [List.getElem?_map,ht];rfl) (zhs (by rw [m1,m2]))]
  exact h.B u hu j
theorem Du.start {W:Nat} {a:Jq} (ha:a=List.map (λ(x:Int)=>List.map (λ(y:Int)=>(if (decide (y=x)) then (1:Int) else 0)) (zbo 0 W)) (zbo 0 W)):Du W (a,a):=by
 have hm:∀ t∈a,t.length=W:=λt ht=>by
  rw [ha] at ht
  obtain ⟨x,_,rfl⟩:=List.mem_map.mp ht
  rw [List.length_map,zaZ]
 have hl:a.length=W:=by rw [ha,List.length_map,zaZ]
 have hg:∀ (i:Nat) (t:Ji),a[i]?=some t->i<W∧t=List.map (λ(y:Int)=>(if (decide (y=(i:Int))) then (1:Int) else 0)) (zbo 0 W):=λi t h=>by
  have hi:=((List.getElem?_eq_some_iff.mp h)).1
  rw [ha,List.getElem?_map] at h
  cases q:(zbo 0 W)[i]? with
  | none=>rw [q] at h;cases h
  | some z =>
   rw [q] at h
   obtain ⟨g1,g2⟩:=zcN q
   have h:List.map (λ(y:Int)=>(if (decide (y=z)) then (1:Int) else 0)) (zbo 0 W)=t:=Option.some.inj h
   rw [← h,g2,Int.zero_add]
   exact ⟨g1,rfl⟩
 refine ⟨hl,hl,hm,hm,λi j t v ht hv=>?_,λu hu j=>?_⟩
 ·obtain ⟨hi,rfl⟩:=hg i t ht
  obtain ⟨hj,rfl⟩:=hg j v hv
  rw [zj5,if_pos (by omega)]
  rw [zsQ]
  by_cases e:i=j
  ·rw [if_pos ⟨by omega,by omega⟩,if_pos e]
  ·rw [if_neg (λq=>e (by have:=q.2;omega)),if_neg e]
 ·show comb (a.map λt=>dv t u) (a.map vec) j=u j
  have e1:(a.map λt=>dv t u)=List.map (λ(x:Int)=>u x.toNat) (zbo 0 W):=by
   rw [ha,List.map_map]
   refine List.map_congr_left λx hx=>?_
   obtain ⟨x1,x2⟩:=zkB.mp hx
   show dv (List.map (λ(y:Int)=>(if (decide (y=x)) then (1:Int) else 0)) (zbo 0 W)) u=_
   rw [zj5,if_pos (by omega),Int.sub_zero]
  have e2:a.map vec=List.map (λ(x:Int)=>vec (List.map (λ(y:Int)=>(if (decide (y=(0+x))) then (1:Int) else 0)) (zbo 0 W))) (zbo 0 (List.map (λ(x:Int)=>u x.toNat) (zbo 0 W)).length):=by
   rw [ha,List.map_map,List.length_map,zaZ]
   refine List.map_congr_left λx _=>?_
   rw [Int.zero_add];rfl
  rw [e1,e2]
  by_cases hj:j<W
  ·rw [zhS _ 0 j hj (by omega),if_pos (by omega)]
   rw [show ((j:Int)-(0+0)).toNat=j by omega]
   unfold vec
   rw [List.getD_eq_getElem?_getD,List.getElem?_map]
   have q:(zbo 0 W)[j]?=some (j:Int):=by
    unfold zbo
    rw [List.getElem?_map,List.getElem?_range hj]
    show some ((0:Int)+(j:Int))=_
    rw [Int.zero_add]
   rw [q]
   show u ((j:Int)).toNat=u j
   rw [Int.toNat_natCast]
  ·rw [hu j (by omega)]
   refine zhg λi x v _ hv=>?_
   rw [List.getElem?_map] at hv
   cases q:((zbo 0 (List.map (λ(x:Int)=>u x.toNat) (zbo 0 W)).length))[i]? with
   | none=>rw [q] at hv;cases hv
   | some z =>
    rw [q] at hv
    have hv:=Option.some.inj hv
    rw [← hv]
    show x*vec (List.map (λ(y:Int)=>(if (decide (y=0+z)) then (1:Int) else 0)) (zbo 0 W)) j=0
    rw [zbf (by rw [List.length_map,zaZ];omega),Int.mul_zero]
def scl (rows:Jq) (bs:Ji):Jq:=(((List.zip rows bs)).filter λp=>decide (0<p.2)).map λp=>List.map (λ(y:Int)=>p.2*y) p.1
theorem zqQ {W:Nat} {s:Jq×Jq} {bs:Ji} {u:Vc} (h:Du W s) (hu:SpL (scl s.1 bs) u) {i:Nat} {t:Ji} {b:Int} (ht:s.2[i]?=some t) (hb:bs[i]?=some b):b ∣ dv t u:=by
 refine zrl (λa ⟨r,hr,e⟩=>?_) hu
 subst e
 obtain ⟨p,hp,rfl⟩:=List.mem_map.mp hr
 have hp:=(List.mem_filter.mp hp).1
 obtain ⟨j,hj⟩:=List.getElem?_of_mem hp
 obtain ⟨j1,j2⟩:=zc2 hj
 rw [show vec (List.map (λ(y:Int)=>p.2*y) p.1)=λk=>p.2*vec p.1 k from funext λk=>zkI,zpo,h.A _ _ _ _ ht j1]
 by_cases e:i=j
 ·subst e
  rw [hb] at j2
  cases j2
  exact Int.dvd_mul_right _ _
 ·rw [if_neg e,Int.mul_zero];exact Int.dvd_zero _
theorem zmP:∀ (xs:Ji) (rows:Jq) (bs:Ji),xs.length=rows.length->bs.length=rows.length->(∀ (i:Nat) (x b:Int),xs[i]?=some x->bs[i]?=some b->0≤b∧b ∣ x)->SpL (scl rows bs) (comb xs (rows.map vec))
 | [],[],_,_,_,_=>Sp.zero
 | x :: xs,r :: rows,b :: bs,h1,h2,h=>by
  have ih:=zmP xs rows bs (by simpa using h1) (by simpa using h2) λi x b hx hb=>h (i+1) x b (by simpa using hx) (by simpa using hb)
  obtain ⟨b0,c,hc⟩:=h 0 x b rfl rfl
  have up:SpL (scl (r :: rows) (b :: bs)) (comb xs (rows.map vec)):=by
   refine SpL.sub (λs hs=>SpL.mem ?_) ih
   unfold scl at hs ⊢
   obtain ⟨p,hp,rfl⟩:=List.mem_map.mp hs
   refine List.mem_map.mpr ⟨p,?_,rfl⟩
   obtain ⟨p1,p2⟩:=List.mem_filter.mp hp
   exact List.mem_filter.mpr ⟨List.mem_cons_of_mem _ p1,p2⟩
  by_cases q:b=0
  ·refine up.conv λi=>?_
   show comb xs (rows.map vec) i=x*vec r i+comb xs (rows.map vec) i
   rw [hc,q];simp
  ·have hm:List.map (λ(y:Int)=>b*y) r∈scl (r :: rows) (b :: bs):=by
    unfold scl
    refine List.mem_map.mpr ⟨(r,b),List.mem_filter.mpr ⟨List.mem_cons_self,decide_eq_true (show 0<b by omega)⟩,rfl⟩
   refine ((Sp.smul c (SpL.mem hm)).plus up).conv λi=>?_
   show c*vec (List.map (λ(y:Int)=>b*y) r) i+comb xs (rows.map vec) i=x*vec r i+comb xs (rows.map vec) i
   rw [zkI,hc,← Int.mul_assoc,Int.mul_comm c b]
theorem zrk {W:Nat} {s:Jq×Jq} {bs:Ji} {u:Vc} (h:Du W s) (hl:bs.length=W) (hb:∀ b∈bs,0≤b) (hu:∀ k,W≤k->u k=0) (hd:∀ (i:Nat) (t:Ji) (b:Int),s.2[i]?=some t->bs[i]?=some b->b ∣ dv t u):SpL (scl s.1 bs) u:=by
 refine (zmP (s.2.map λt=>dv t u) s.1 bs (by rw [List.length_map,h.l1,h.l2]) (by rw [hl,h.l1]) λi x b hx hbi=>?_).conv λj=>h.B u hu j
 rw [List.getElem?_map] at hx
 cases q:s.2[i]? with
 | none=>rw [q] at hx;cases hx
 | some t =>
  rw [q] at hx
  have hx:dv t u=x:=Option.some.inj hx
  exact ⟨hb b (List.mem_of_getElem? hbi),hx ▸ hd i t b q hbi⟩
theorem znX {rows:Jq} {o t:Nat} {ro rt y:Ji} {q:Int} (hot:o≠t) (ho:rows[o]?=some ro) (ht:rows[t]?=some rt) (hy:∀ k,vec y k=vec rt k+q*vec ro k) {u:Vc}:SpL (rows.set t y) u ↔ SpL rows u:=by
 constructor
 ·refine SpL.sub λs hs=>?_
  rcases List.mem_or_eq_of_mem_set hs with hs | rfl
  ·exact SpL.mem hs
  ·exact ((SpL.mem (List.mem_of_getElem? ht)).plus (Sp.smul q (SpL.mem (List.mem_of_getElem? ho)))).conv λk=>(hy k).symm
 ·refine SpL.sub λs hs=>?_
  have lt:=(List.getElem?_eq_some_iff.mp ht).1
  have ny:SpL (rows.set t y) (vec y):=SpL.mem (List.mem_of_getElem? (List.getElem?_set_self lt))
  have no:SpL (rows.set t y) (vec ro):=SpL.mem (List.mem_of_getElem? (by rw [List.getElem?_set_ne (Ne.symm hot)];exact ho))
  obtain ⟨j,hj⟩:=List.getElem?_of_mem hs
  by_cases e:j=t
  ·subst e
   rw [hj] at ht
   cases ht
   refine (ny.plus (Sp.smul (-q) no)).conv λk=>?_
   rw [hy k]
   grind
  ·exact SpL.mem (List.mem_of_getElem? (by rw [List.getElem?_set_ne (Ne.symm e)];exact hj))
theorem zmd {a z:Jq} (hz:∀ s∈z,∀ k,vec s k=0) {u:Vc}:SpL (a++z) u ↔ SpL a u:=by
 constructor
 ·refine SpL.sub λs hs=>?_
  rcases List.mem_append.mp hs with hs | hs
  ·exact SpL.mem hs
  ·exact (Sp.zero:Sp _ _).conv λk=>(hz s hs k).symm
 ·exact SpL.sub λs hs=>SpL.mem (List.mem_append_left _ hs)
end Lat
namespace L2
open PySem PySem.Spec PyProof.Rows
structure T6 (α β γ δ ε ζ:Type) where
 a:α
 b:β
 c:γ
 d:δ
 e:ε
 f:ζ
section
variable {E:XS} {Γ:Ctx} {m:Bool} {K:W.Frag} {te:TE} {u:TS} {α β:Type}
theorem zjj {x:α} {i1 i2 i3 i4 i5 i6:Nat} (d1 d2 d3 d4 d5 d6:α->Ds) (fo:β->Oc) {kk:α->β} (h:Ev Γ te m (dT [d1 x,d2 x,d3 x,d4 x,d5 x,d6 x])) (k:∀ y,y=x->Run E ((((((Γ.set i1 (.va m (d1 y))).set i2 (.va m (d2 y))).set i3 (.va m (d3 y))).set i4 (.va m (d4 y))).set i5 (.va m (d5 y))).set i6 (.va m (d6 y))) u (fo (kk y))) :
  Run E Γ (zeM (zkc te (zqM K 6 (zhp (zdz i1) (zhp (zdz i2) (zhp (zdz i3) (zhp (zdz i4) (zhp (zdz i5) (zhp (zdz i6) zrU)))))))) u) (fo (Let x kk)):=λF0 Hb F H σ own D a q =>
 h F0 Hb F H σ own _ a λv F' H' g ⟨p,vs,e1,e2,e3⟩=>by
  cases e3 with | cons q1 t=>cases t with | cons q2 t=>cases t with | cons q3 t=>cases t with | cons q4 t=>cases t with | cons q5 t=>cases t with | cons q6 t =>
   cases t
   exact ⟨p,_,e1,.inl (.inl ((zbC.trans g.fh) _ _ e2)),rfl,_,_,rfl,_,_,rfl,_,_,rfl,_,_,rfl,_,_,rfl,_,_,rfl,rfl,k x rfl F0 Hb F' H' _ own D ((((((((a.grow g)).set i1 q1).set i2 q2).set i3 q3).set i4 q4).set i5 q5).set i6 q6) q⟩
end
end L2
namespace PySem
open Sem (wp)
namespace F
end F
abbrev zqU (h:Heap) (T:Addr) (a b c:Value):Prop:=h.get? T=some { cls:=.type "tuple",data:=.seq #[a,b,c] }
structure Zip3 (h:Heap) (n:Nat) (l1 l2 l3:Addr) (k:Nat) (f0:Value):Prop where
 z:IsZip h (n+5) (n+3) (n+4) f0
 ti:zqU h (n+3) (.ref n) (.ref (n+1)) (.ref (n+2))
 to:∃ a b c,zqU h (n+4) a b c
 i1:h.IsListIter n l1 k
 i2:h.IsListIter (n+1) l2 k
 i3:h.IsListIter (n+2) l3 k
section
variable {prog:Program} {w:World} {A:Around} {E:Value->Shared->Prop} {s:Shared} {n k:Nat} {l1 l2 l3:Nat}
end
section
variable {prog:Program} {w:World} {A:Around} {E:Value->Shared->Prop} {s:Shared}
end
end PySem
namespace L2
open PySem PySem.Spec PyProof.Rows
section
variable {X:Cx}
end
section
variable {Γ:Ctx} {m:Bool} {K:W.Frag} {γ δ ε:Type}
end
end L2
namespace L2
open PySem PySem.Spec PyProof.Rows
structure T4 (α β γ δ:Type) where
 a:α
 b:β
 c:γ
 d:δ
 deriving Inhabited
section
variable {Γ:Ctx} {te:TE} {d:Ds} {i:Nat} {m:Bool}
end
section
variable {Γ:Ctx} {te:TE} {d d1 d2 d3:Ds} {i i1 i2 i3:Nat} {m m1 m2:Bool} {v v1 v2:V} {f g k:Str} {C:Addr}
variable {ι:Type} {a1 a2 a3 b3:ι->Ds} {pre:ι->Prop} {ds:List Ds} {tr:TA} {E:XK}
end
section
variable {E:XS} {Γ:Ctx} {m:Bool} {K:W.Frag} {tj:TE} {u:TS} {o:Oc} {i:Nat}
end
end L2
namespace Lat
open L2
section
variable {α β:Type}
end
section
variable {W:Nat} {ds im Bs:Jq} {u v:Vc}
theorem zjL {x y:Int} {a b:Nat} (h1:x.natAbs≤2^a) (h2:y.natAbs≤2^b):(x*y).natAbs≤2^(a+b):=by
 rw [Int.natAbs_mul,Nat.pow_add]
 exact Nat.mul_le_mul h1 h2
end
end Lat
namespace L2
open PySem PySem.Spec PyProof.Rows
end L2
namespace L2
open PySem PySem.Spec PyProof.Rows
def FA (K:W.Frag) (f:Addr) (sn n:Str) (st:Stmt):Prop:=∃ (oc kV dc pm cd ct:Value) (od an:Option Addr) (sl:Array (Option Value)),K.lookup f=some ⟨oc,od,.func (W.fnOf sn n (zaA st) (zaw st) (zad st) .none kV dc pm an cd ct),sl⟩∧W.codeIn K cd n=true∧W.keepIn K (.ref f)=true
theorem FA.m {K:W.Frag} {f:Addr} {sn n:Str} {st:Stmt} {oc kV dc pm cd ct:Value} {od an:Option Addr} {sl:Array (Option Value)} (l:K.lookup f=some ⟨oc,od,.func (W.fnOf sn n (zaA st) (zaw st) (zad st) .none kV dc pm an cd ct),sl⟩) (c:W.codeIn K cd n=true) (k:W.keepIn K (.ref f)=true):FA K f sn n st:=⟨_,_,_,_,_,_,_,_,_,l,c,k⟩
end L2
namespace Lat
def Cb (n s:Nat) (rows:Jq):Prop:=n≤9∧s≤200000∧rows.length≤31∧∀ i r,rows[i]?=some r->r.length=n∧Bit s r∧∀ t∈clm MG (rows.take (i+1)),Sd n s t
def znm (rows:Jq):Prop:=ztd rows∨∃ n s,Cb n s rows
section
variable {n s i:Nat} {rows ss more:Jq} {r x:Ji}
theorem Cb.mem (h:Cb n s rows) (hr:r∈rows):r.length=n∧Bit s r:=by
 obtain ⟨i,hi⟩:=List.getElem?_of_mem hr
 exact ⟨(h.2.2.2 i r hi).1,(h.2.2.2 i r hi).2.1⟩
theorem Cb.way (h:Cb n s rows) (hi:i≤rows.length):∀ t∈clm MG (rows.take i),Sd n s t:=by
 cases i with
 | zero=>intro t ht;rw [List.take_zero] at ht;exact absurd ht (by simp [clm])
 | succ i=>exact (h.2.2.2 i rows[i] (List.getElem?_eq_getElem (by omega))).2.2
theorem Cb.sd (h:Cb n s rows):∀ t∈clm MG rows,Sd n s t:=by
 have:=h.way (i:=rows.length) (Nat.le_refl _)
 rwa [List.take_length] at this
theorem Cb.len (h:Cb n s rows):((clm MG (rows.take i))).length≤n:=by
 have:=((zaV (n:=n) (rows:=rows.take i) λr hr=>(h.mem (List.mem_of_mem_take hr)).1)).1
 have:=zfH this.ech (Nat.zero_le n)
 omega
theorem Cb.low (h:Cb n s rows) (hr:rows[i]?=some r) (e:ss=clm MG (rows.take i)):LowP r ss∧TinP ss r∧zo2 (tin MG ss (low r ss)):=by
 subst e
 have hi:=((List.getElem?_eq_some_iff.mp hr)).1
 obtain ⟨r1,r2,t3⟩:=h.2.2.2 i r hr
 have s3:=h.way (i:=i) (by omega)
 have s2:=h.len (i:=i)
 have t2:=h.len (i:=i+1)
 have s1:=((zaV (n:=n) (rows:=rows.take i) λr hr=>(h.mem (List.mem_of_mem_take hr)).1)).1
 rw [zgM hr] at t3 t2
 obtain ⟨hn,hs,_,_⟩:=h
 generalize clm MG (rows.take i)=ss at *
 obtain ⟨k1,k2,k3,k4⟩:=zbH (l:=r) s1.ech r1
 have m1:ss.length*(s+1)≤9*200001:=Nat.mul_le_mul (by omega) (by omega)
 have m2:(ss.length+2)*((ss.length+1)*(s+9000))≤11*(10*209000):=Nat.mul_le_mul (by omega) (Nat.mul_le_mul (by omega) (by omega))
 refine ⟨⟨n,s,s,by omega,r1,by omega,r2,s3,by omega⟩,⟨n,s,s,by omega,s1.ech,s3,r1,r2,by omega,by omega⟩,?_,λj x hx=>?_⟩
 ·rw [zim] at t2;omega
 ·have hxm:=List.mem_of_getElem? hx
  have g1:=tin_bit (K:=9) s1.ech s3 k1 k3 (zgg s3 r1 r2) (by omega) x hxm
  obtain ⟨e1,_⟩:=zf5 MG s1.ech k1 (λi hi=>absurd hi (Nat.not_lt_zero i)) k3 (Nat.zero_le n)
  rw [zig]
  refine ⟨n,_,s,by omega,(e1.mem x hxm).1,by rw [List.length_drop];omega,g1,λt ht=>t3 t (List.mem_of_mem_drop ht),?_⟩
  have m3:(List.drop (j+1) (stl (tin MG ss (Lat.low r ss)))).length*(s+1)≤9*200001:=Nat.mul_le_mul (by rw [List.length_drop];omega) (by omega)
  have m4:ss.length*((9+1)*(s+9000))≤9*((9+1)*209000):=Nat.mul_le_mul (by omega) (Nat.mul_le_mul_left _ (by omega))
  omega
theorem znm.low (h:znm rows) (hr:rows[i]?=some r) (e:ss=clm MG (rows.take i)):LowP r ss∧TinP ss r∧zo2 (tin MG ss (low r ss)):=by
 rcases h with ⟨n,b,R,p1,p2,p3⟩ | ⟨n,s,h⟩
 ·exact zpb p1 p2 p3 hr e
 ·exact h.low hr e
theorem Cb.fit {b R:Nat} (F:Fit n b R) (hn:n≤9) (h1:sB b R≤s) (h2:s≤200000) (hl:rows.length≤R) (h:∀ r∈rows,r.length=n∧Bit b r):Cb n s rows:=by
 have eb:b≤sB b R:=by
  unfold sB eB
  exact Nat.le_trans (Nat.le_trans (Nat.le_trans (by omega) (Nat.le_mul_of_pos_right (b+7) (Nat.succ_pos R))) (Nat.le_add_right _ 7)) (Nat.le_mul_of_pos_right _ (Nat.succ_pos R))
 refine ⟨hn,h2,by have:=F.2.1;omega,λi r hr=>?_⟩
 obtain ⟨r1,r2⟩:=h r (List.mem_of_getElem? hr)
 refine ⟨r1,r2.mono (by omega),λt ht=>?_⟩
 obtain ⟨a1,a2,a3,a4,a5⟩:=(zh1 F (rows:=rows.take (i+1)) (by rw [List.length_take];omega) λr hr=>h r (List.mem_of_mem_take hr)).2.2 t ht
 exact ⟨a1,a2,a3,a4,a5.mono h1⟩
theorem zkF:∀ {ss:Jq} {lo i:Nat},Ech n lo ss->Ech n lo (ss.take i)
 | [],_,_,_=>by rw [List.take_nil];trivial
 | _ :: _,_,0,_=>trivial
 | _ :: _,_,_+1,h=>⟨h.1,h.2.1,h.2.2.1,h.2.2.2.1,zkF h.2.2.2.2⟩
theorem zks:∀ {ss:Jq} {i:Nat},Red ss->Red (ss.take i)
 | [],_,_=>by rw [List.take_nil];trivial
 | _ :: _,0,_=>trivial
 | _ :: _,_+1,h=>⟨λt ht=>h.1 t (List.mem_of_mem_take ht),zks h.2⟩
theorem zkG (e:Ech n 0 ss) (r:Red ss):clm MG ss=ss :=
 (zaV λt ht=>(e.mem t ht).1).1.one ⟨e,r,λ_ ht=>SpL.mem ht,λ_ ht=>SpL.mem ht⟩ (λ_ ht=>SpL.mem ht) λ_ ht=>SpL.mem ht
theorem Cb.self (hn:n≤9) (hs:s≤200000) (e:Ech n 0 ss) (r:Red ss) (h:∀ t∈ss,Sd n s t):Cb n s ss:=by
 have hl:=zfH e (Nat.zero_le n)
 refine ⟨hn,hs,by omega,λi x hx=>?_⟩
 have T:=h x (List.mem_of_getElem? hx)
 refine ⟨T.len,T.bit,λt ht=>?_⟩
 rw [zkG (zkF e) (zks r)] at ht
 exact h t (List.mem_of_mem_take ht)
theorem znV {rows':Jq} (h:∀ r∈rows,r.length=n) (h':∀ r∈rows',r.length=n) (k:∀ r∈rows,SpL rows' (vec r)) (k':∀ r∈rows',SpL rows (vec r)):clm MG rows=clm MG rows' :=
 (zaV h).1.one (zaV h').1 k k'
theorem SpL.left {u:Vc} (h:SpL rows u):SpL (rows++more) u:=Sp.mono (λ_ ⟨t,ht,e⟩=>⟨t,List.mem_append_left _ ht,e⟩) h
theorem Cb.app (h:Cb n s rows) (hl:rows.length+more.length≤31) (k:∀ r∈more,r.length=n∧Bit s r∧SpL rows (vec r)):Cb n s (rows++more)∧clm MG (rows++more)=clm MG rows:=by
 have same:∀ j,clm MG (rows++more.take j)=clm MG rows:=λj=>znV (n:=n)
  (λr hr=>by
   rcases List.mem_append.mp hr with hr | hr
   ·exact (h.mem hr).1
   ·exact (k r (List.mem_of_mem_take hr)).1)
  (λr hr=>(h.mem hr).1)
  (λr hr=>by
   rcases List.mem_append.mp hr with hr | hr
   ·exact SpL.mem hr
   ·exact (k r (List.mem_of_mem_take hr)).2.2)
  λr hr=>SpL.mem (List.mem_append_left _ hr)
 refine ⟨⟨h.1,h.2.1,by rw [List.length_append];exact hl,λi r hr=>?_⟩,?_⟩
 ·by_cases q:i<rows.length
  ·rw [List.getElem?_append_left q] at hr
   rw [List.take_append_of_le_length (by omega)]
   exact h.2.2.2 i r hr
  ·rw [List.getElem?_append_right (by omega)] at hr
   obtain ⟨k1,k2,_⟩:=k r (List.mem_of_getElem? hr)
   refine ⟨k1,k2,?_⟩
   rw [List.take_append,List.take_of_length_le (by omega),same]
   exact h.sd
 ·have:=same more.length
  rwa [List.take_length] at this
abbrev ap0 (ss:Jq):Jq:=List.map (λ(r:Ji)=>r++[(0:Int)]) ss
def zj3 (n:Nat):Ji:=List.replicate n (0:Int)++[(1:Int)]
theorem zdn {i:Nat}:vec (zj3 n) i=if i=n then 1 else 0:=by
 unfold zj3
 rw [zbT,List.length_replicate]
 by_cases q:i<n
 ·rw [if_pos q,if_neg (by omega)]
  unfold vec
  rw [List.getD_eq_getElem?_getD,List.getElem?_replicate]
  split<;>rfl
 ·rw [if_neg q]
  by_cases z:i=n
  ·rw [if_pos z,z,Nat.sub_self];rfl
  ·rw [if_neg z];exact zbf (by rw [List.length_singleton];omega)
theorem zeT:hd (zj3 n)=n:=zjf (by rw [zdn,if_pos rfl];decide) λi hi=>by rw [zdn,if_neg (by omega)]
theorem zgm {t:Ji} (h:hd t<t.length):hd (t++[(0:Int)])=hd t:=zjf (by rw [zbp];exact zgl h) λi hi=>by rw [zbp];exact za8 hi
theorem zmy:∀ {ss:Jq} {lo:Nat},Ech n lo ss->Ech (n+1) lo (ap0 ss)
 | [],_,_=>trivial
 | t :: ss,lo,⟨h1,h2,h3,h4,h5⟩=>by
  have e:=zgm (t:=t) (by omega)
  exact ⟨by rw [List.length_append,h1];rfl,by rw [e];exact h2,by rw [e];omega,by rw [e,zbp];exact h4,by rw [e];exact zmy h5⟩
theorem zmN:∀ {ss:Jq} {lo:Nat},Ech n lo ss->Red ss->Red (ap0 ss)
 | [],_,_,_=>trivial
 | t :: ss,lo,⟨h1,h2,h3,h4,h5⟩,⟨r1,r2⟩=>⟨λy hy=>by
   obtain ⟨z,hz,rfl⟩:=List.mem_map.mp hy
   have:=(h5.mem z hz)
   rw [zgm (by omega),zbp,zbp]
   exact r1 z hz,zmN h5 r2⟩
theorem znb:∀ {ss:Jq} {lo:Nat},lo≤n->Ech n lo ss->Ech (n+1) lo (ap0 ss++[zj3 n])
 | [],lo,hlo,_=>⟨by unfold zj3;rw [List.length_append,List.length_replicate];rfl,by rw [zeT];exact hlo,by rw [zeT];omega,by rw [zeT,zdn,if_pos rfl];decide,trivial⟩
 | t :: ss,lo,_,⟨h1,h2,h3,h4,h5⟩=>by
  have e:=zgm (t:=t) (by omega)
  exact ⟨by rw [List.length_append,h1];rfl,by rw [e];exact h2,by rw [e];omega,by rw [e,zbp];exact h4,by rw [e];exact znb (by omega) h5⟩
theorem zmH:∀ {ss:Jq} {lo:Nat},Ech n lo ss->Red ss->Red (ap0 ss++[zj3 n])
 | [],_,_,_=>⟨λ_ h=>absurd h (by simp),trivial⟩
 | t :: ss,lo,⟨h1,h2,h3,h4,h5⟩,⟨r1,r2⟩=>⟨λy hy=>by
   rcases List.mem_append.mp hy with hy | hy
   ·obtain ⟨z,hz,rfl⟩:=List.mem_map.mp hy
    have:=(h5.mem z hz)
    rw [zgm (by omega),zbp,zbp]
    exact r1 z hz
   ·rw [List.mem_singleton.mp hy,zeT,zbp,zdn,if_pos rfl,zbf (by omega)]
    decide,zmH h5 r2⟩
theorem zha {u:Vc}:SpL (ap0 rows) u ↔ SpL rows u :=
 ⟨Sp.mono λa ⟨t,ht,e⟩=>by
  obtain ⟨z,hz,rfl⟩:=List.mem_map.mp ht
  exact ⟨z,hz,by rw [e,zbp]⟩,
  Sp.mono λa ⟨t,ht,e⟩=>⟨t++[(0:Int)],List.mem_map.mpr ⟨t,ht,rfl⟩,by rw [e,zbp]⟩⟩
theorem zpd (h:∀ r∈rows,r.length=n):clm MG (ap0 rows)=ap0 (clm MG rows):=by
 have S:=(zaV h).1
 have h':∀ r∈ap0 rows,r.length=n+1:=λr hr=>by
  obtain ⟨z,hz,rfl⟩:=List.mem_map.mp hr
  rw [List.length_append,h z hz];rfl
 exact (zaV h').1.one (rows':=ap0 rows) ⟨zmy S.ech,zmN S.ech S.red,λt ht=>by
  obtain ⟨z,hz,rfl⟩:=List.mem_map.mp ht
  rw [zbp];exact zha.mpr (S.inn z hz),λt ht=>by
  obtain ⟨z,hz,rfl⟩:=List.mem_map.mp ht
  rw [zbp];exact zha.mpr (S.out z hz)⟩ (λ_ hr=>SpL.mem hr) λ_ hr=>SpL.mem hr
theorem Sd.app0 {t:Ji} (T:Sd n s t):Sd (n+1) s (t++[(0:Int)]):=by
 have e:=zgm (t:=t) (by have:=T.len;have:=T.hd;omega)
 refine ⟨by rw [List.length_append,T.len];rfl,by rw [e];have:=T.hd;omega,by rw [e,zbp];exact T.pos,by rw [e,zbp];exact T.top,λy hy=>?_⟩
 rcases List.mem_append.mp hy with hy | hy
 ·exact T.bit y hy
 ·rw [List.mem_singleton.mp hy];exact Nat.zero_le _
theorem zmS (h:∀ r∈rows,r.length=n) (hx:x.length=n) (k:SpL rows (vec x)):clm MG (zhA rows x)=ap0 (clm MG rows)++[zj3 n]:=by
 have S:=(zaV h).1
 have hu:SpL (zhA rows x) (vec (zj3 n)):=(zqo (d:=1) hx (Sp.conv (A:=λu=>∃ s∈rows,u=vec s) k λi=>by omega)).conv λi=>by rw [zdn]
 refine (zaV (zl4 h hx)).1.one (rows':=zhA rows x) ⟨znb (Nat.zero_le n) S.ech,zmH S.ech S.red,λt ht=>?_,λt ht=>?_⟩ (λ_ hr=>SpL.mem hr) λ_ hr=>SpL.mem hr
 ·rcases List.mem_append.mp ht with ht | ht
  ·obtain ⟨z,hz,rfl⟩:=List.mem_map.mp ht
   rw [zbp]
   exact SpL.left (zha.mpr (S.inn z hz))
  ·rw [List.mem_singleton.mp ht];exact hu
 ·rcases List.mem_append.mp ht with ht | ht
  ·obtain ⟨z,hz,rfl⟩:=List.mem_map.mp ht
   rw [zbp]
   exact SpL.left (zha.mpr (S.out z hz))
  ·rw [List.mem_singleton.mp ht]
   have a1:SpL (ap0 (clm MG rows)++[zj3 n]) (vec x):=SpL.left (zha.mpr (SpL.sub S.out k))
   have a2:SpL (ap0 (clm MG rows)++[zj3 n]) (vec (zj3 n)):=SpL.mem (List.mem_append_right _ (List.mem_singleton.mpr rfl))
   refine (Sp.lin 1 (-1) a1 a2).conv λi=>?_
   rw [zgL hx,zdn]
   omega
theorem Cb.ask (h:Cb n s rows) (hn:n≤8) (hl:rows.length≤30) (hx:x.length=n) (hb:Bit s x) (k:SpL rows (vec x)):Cb (n+1) s (zhA rows x):=by
 have hr:∀ r∈rows,r.length=n:=λr hr=>(h.mem hr).1
 have L:(ap0 rows).length=rows.length:=List.length_map _
 refine ⟨by omega,h.2.1,by unfold zhA;rw [List.length_append,L,List.length_singleton];omega,λi y hy=>⟨zl4 hr hx y (List.mem_of_getElem? hy),zo5 (λr hr=>(h.mem hr).2) hb y (List.mem_of_getElem? hy),λt ht=>?_⟩⟩
 by_cases q:i<rows.length
 ·unfold zhA at ht
  rw [List.take_append_of_le_length (by rw [L];omega),← List.map_take,zpd λr h=>hr r (List.mem_of_mem_take h)] at ht
  obtain ⟨z,hz,rfl⟩:=List.mem_map.mp ht
  exact (h.way (i:=i+1) (by omega) z hz).app0
 ·rw [List.take_of_length_le (by unfold zhA;rw [List.length_append,L,List.length_singleton];omega),zmS hr hx k] at ht
  rcases List.mem_append.mp ht with ht | ht
  ·obtain ⟨z,hz,rfl⟩:=List.mem_map.mp ht
   exact (h.sd z hz).app0
  ·rw [List.mem_singleton.mp ht]
   refine ⟨by unfold zj3;rw [List.length_append,List.length_replicate];rfl,by rw [zeT];omega,by rw [zeT,zdn,if_pos rfl];decide,by rw [zeT,zdn,if_pos rfl];exact Nat.one_le_two_pow,Bit.of λi=>?_⟩
   rw [zdn]
   split
   ·exact Nat.one_le_two_pow
   ·exact Nat.zero_le _
end
end Lat
namespace Lat
open L2
section
variable {n m:Nat} {B S ss:Jq} {u v:Vc}
theorem zjw {x:Ji}:vec (x++zbV (n:Int) [(0:Int)])=vec x:=by
 funext i
 rw [zbT,zdw]
 split
 ·rfl
 ·exact (zbf (by omega)).symm
end
section
variable {n k s:Nat}
theorem zeD {t u:Ji} {i:Nat} (h:i<t.length):vec (t++u) i=vec t i:=by rw [zbT,if_pos h]
theorem zjE {t u:Ji} (h:hd t<t.length):hd (t++u)=hd t:=zjf (by rw [zeD h];exact zgl h) λi hi=>by rw [zeD (by omega)];exact za8 hi
theorem zmm:∀ {is:Ji} {ss:Jq} {lo:Nat},Ech n lo ss->Ech (n+k) lo (List.map (λ(x:Int×Ji)=>x.2++zgh k x.1) (List.zip is ss))
 | [],_,_,_=>by rw [List.zip_nil_left];trivial
 | _ :: _,[],_,_=>trivial
 | i :: is,t :: ss,lo,⟨h1,h2,h3,h4,h5⟩=>by
  have e:=zjE (t:=t) (u:=zgh k i) (by omega)
  exact ⟨by rw [List.length_append,h1,zfP],by show lo≤hd (t++zgh k i);rw [e];exact h2,by show hd (t++zgh k i)<_;rw [e];omega,by show 0<vec (t++zgh k i) (hd (t++zgh k i));rw [e,zeD (by omega)];exact h4,by show Ech _ (hd (t++zgh k i)+1) _;rw [e];exact zmm h5⟩
theorem zmE:∀ {is:Ji} {ss:Jq} {lo:Nat},Ech n lo ss->Red ss->Red (List.map (λ(x:Int×Ji)=>x.2++zgh k x.1) (List.zip is ss))
 | [],_,_,_,_=>by rw [List.zip_nil_left];trivial
 | _ :: _,[],_,_,_=>trivial
 | i :: is,t :: ss,lo,⟨h1,h2,h3,h4,h5⟩,⟨r1,r2⟩=>⟨λy hy=>by
   obtain ⟨p,hp,rfl⟩:=List.mem_map.mp hy
   have hm:=(List.of_mem_zip hp).2
   have:=h5.mem _ hm
   show 0≤vec (t++zgh k i) (hd (p.2++zgh k p.1))∧vec (t++zgh k i) (hd (p.2++zgh k p.1))<vec (p.2++zgh k p.1) (hd (p.2++zgh k p.1))
   rw [zjE (by omega),zeD (by omega),zeD (by omega)]
   exact r1 _ hm,zmE h5 r2⟩
theorem Cb.mark {ss:Jq} (hn:n+ss.length≤9) (hs:s≤200000) (e:Ech n 0 ss) (r:Red ss) (h:∀ t∈ss,Sd n s t):Cb (n+ss.length) s (mark ss):=by
 refine Cb.self hn hs (zmm (k:=ss.length) e) (zmE e r) λy hy=>?_
 obtain ⟨i,t,ht,rfl⟩:=zeF hy
 have T:=h t (List.mem_of_getElem? ht)
 have hl:=T.len
 have hh:=T.hd
 have e:=zjE (t:=t) (u:=zgh ss.length (i:Int)) (by omega)
 refine ⟨by rw [List.length_append,hl,zfP],by rw [e];omega,by rw [e,zeD (by omega)];exact T.pos,by rw [e,zeD (by omega)];exact T.top,λy hy=>?_⟩
 rcases List.mem_append.mp hy with hy | hy
 ·exact T.bit y hy
 ·exact zkU y hy
end
end Lat
namespace L2
open PySem PySem.Spec PyProof.Rows
end L2
namespace L2
open PySem PySem.Spec PyProof.Rows
end L2
namespace Lat
open L2
theorem zhb {α:Type} [DecidableEq α]:∀ {l m:List α},l.Nodup->(∀ x∈l,x∈m)->l.length≤m.length
 | [],_,_,_=>Nat.zero_le _
 | x :: l,m,h,k=>by
  have hx:=k x List.mem_cons_self
  have:=zhb (l:=l) (m:=m.erase x) (List.nodup_cons.mp h).2 λy hy=>(List.mem_erase_of_ne (a:=y) (b:=x) λ(e:y=x)=>(List.nodup_cons.mp h).1 (by rw [← e];exact hy)).mpr (k y (List.mem_cons_of_mem _ hy))
  rw [List.length_erase_of_mem hx] at this
  have:0<m.length:=List.length_pos_of_mem hx
  rw [List.length_cons];omega
theorem zj4 {α β:Type} [DecidableEq β] {l:List α} {m:List β} {f:α->β} (h:l.Nodup) (hf:∀ x∈l,f x∈m) (hi:∀ x∈l,∀ y∈l,f x=f y->x=y):l.length≤m.length:=by
 have:(l.map f).Nodup:=by
  unfold List.Nodup at *
  rw [List.pairwise_map]
  exact List.Pairwise.imp_of_mem (λ{x y} hx hy n e=>n (hi x hx y hy e)) h
 have:=zhb this (m:=m) λy hy=>by
  obtain ⟨x,hx,rfl⟩:=List.mem_map.mp hy
  exact hf x hx
 rwa [List.length_map] at this
def zea:Ji->Jq
 | []=>[[]]
 | d :: ds=>(List.range d.toNat).flatMap λ(k:Nat)=>(zea ds).map λl=>(k:Int) :: l
def prd:Ji->Int
 | []=>1
 | d :: ds=>d*prd ds
theorem zl6:∀ (xs ys:Ji),prd (xs++ys)=prd xs*prd ys
 | [],ys=>(Int.one_mul _).symm
 | x :: xs,ys=>by show x*prd (xs++ys)=x*prd xs*prd ys;rw [zl6,Int.mul_assoc]
theorem zpa:∀ {xs:Ji},(∀ x∈xs,0<x)->0<prd xs
 | [],_=>by decide
 | x :: xs,h=>Int.mul_pos (h x List.mem_cons_self) (zpa λy hy=>h y (List.mem_cons_of_mem _ hy))
theorem zkq {α β:Type} {f:α->List β} {n:Nat}:∀ {l:List α},(∀ x∈l,(f x).length=n)->(l.flatMap f).length=l.length*n
 | [],_=>(Nat.zero_mul _).symm
 | x :: l,h=>by rw [List.flatMap_cons,List.length_append,h x List.mem_cons_self,zkq λy hy=>h y (List.mem_cons_of_mem _ hy),List.length_cons,Nat.succ_mul];omega
theorem zg2:∀ {ds:Ji},(∀ d∈ds,0<d)->(((zea ds).length:Nat):Int)=prd ds
 | [],_=>rfl
 | d :: ds,h=>by
  have h1:=h d List.mem_cons_self
  have ih:=zg2 (ds:=ds) λx hx=>h x (List.mem_cons_of_mem _ hx)
  show (((List.flatMap _ _).length:Nat):Int)=d*prd ds
  rw [zkq (n:=(zea ds).length) λx _=>List.length_map _,List.length_range,Int.natCast_mul,ih,Int.toNat_of_nonneg (by omega)]
theorem zep:∀ {ds l:Ji},l∈zea ds ↔ l.length=ds.length∧∀ (i:Nat) (d:Int),ds[i]?=some d->0≤vec l i∧vec l i<d
 | [],l=>by
  show l∈[[]] ↔ _
  rw [List.mem_singleton]
  refine ⟨λe=>⟨by rw [e],λi d h=>by cases h⟩,λh=>List.length_eq_zero_iff.mp h.1⟩
 | d :: ds,l=>by
  show l∈List.flatMap _ _ ↔ _
  rw [List.mem_flatMap]
  constructor
  ·rintro ⟨k,hk,hl⟩
   obtain ⟨m,hm,rfl⟩:=List.mem_map.mp hl
   obtain ⟨m1,m2⟩:=zep.mp hm
   have hk:=List.mem_range.mp hk
   refine ⟨by rw [List.length_cons,List.length_cons,m1],λi e he=>?_⟩
   cases i with
   | zero=>cases he;show 0≤(k:Int)∧(k:Int)<d;omega
   | succ i=>exact m2 i e he
  ·rintro ⟨h1,h2⟩
   cases l with
   | nil=>cases h1
   | cons x l =>
    have hx:=h2 0 d rfl
    have hx:0≤x∧x<d:=hx
    refine ⟨x.toNat,List.mem_range.mpr (by omega),List.mem_map.mpr ⟨l,zep.mpr ⟨by simpa using h1,λi e he=>h2 (i+1) e he⟩,?_⟩⟩
    rw [Int.toNat_of_nonneg hx.1]
theorem zfK:∀ {ds:Ji},(zea ds).Nodup
 | []=>List.nodup_cons.mpr ⟨by simp,List.nodup_nil⟩
 | d :: ds=>by
  show (List.flatMap _ _).Nodup
  unfold List.Nodup
  rw [List.pairwise_flatMap]
  refine ⟨λk _=>?_,?_⟩
  ·rw [List.pairwise_map]
   exact List.Pairwise.imp (λ{x y} n e=>n (List.cons.inj e).2) zfK
  ·refine List.Pairwise.imp (λ{x y} n a ha b hb e=>n ?_) (List.nodup_range (n:=d.toNat))
   obtain ⟨u,_,rfl⟩:=List.mem_map.mp ha
   obtain ⟨v,_,rfl⟩:=List.mem_map.mp hb
   have:=(List.cons.inj e).1
   omega
def hds (ss:Jq):Ji:=ss.map λt=>vec t (hd t)
theorem zil {n:Nat}:∀ {ss:Jq} {lo:Nat},Ech n lo ss->ss.length+lo=n->∀ (k:Nat) (t:Ji),ss[k]?=some t->hd t=lo+k
 | [],lo,_,_,k,t,h=>by cases h
 | s :: ss,lo,e,h,k,t,ht=>by
  obtain ⟨e1,e2,e3,e4,e5⟩:=e
  have h1:=zfH e5 (by omega)
  rw [List.length_cons] at h
  cases k with
  | zero=>cases ht;omega
  | succ k =>
   have:=zil e5 (by omega) k t ht
   omega
theorem zjT {n:Nat} {ss:Jq} (e:Ech n 0 ss):∀ d∈hds ss,0<d:=λd hd=>by
 obtain ⟨t,ht,rfl⟩:=List.mem_map.mp hd
 exact (e.mem t ht).2.2.2
theorem zh7 {n:Nat} {ss:Jq} {x:Ji} (e:Ech n 0 ss) (hl:ss.length=n) (hx:x.length=n):low x ss∈zea (hds ss):=by
 obtain ⟨a1,a2,a3,a4⟩:=zbH (l:=x) e hx
 refine zep.mpr ⟨by rw [a1];unfold hds;rw [List.length_map,hl],λi d h=>?_⟩
 unfold hds at h
 rw [List.getElem?_map] at h
 cases q:ss[i]? with
 | none=>rw [q] at h;cases h
 | some t =>
  rw [q] at h
  have h:vec t (hd t)=d:=Option.some.inj h
  have hh:=zil e (by omega) i t q
  rw [Nat.zero_add] at hh
  have:=a3 t (List.mem_of_getElem? q)
  rw [hh] at this h
  omega
theorem zjv {n:Nat} {ss:Jq} {x y:Ji} (e:Ech n 0 ss) (hl:ss.length=n) (hx:x∈zea (hds ss)) (hy:y∈zea (hds ss)) (k:SpL ss (λi=>vec x i-vec y i)):x=y:=by
 obtain ⟨x1,x2⟩:=zep.mp hx
 obtain ⟨y1,y2⟩:=zep.mp hy
 refine zjV (x1.trans y1.symm) λi=>?_
 have:=zhz (u:=λi=>vec x i-vec y i) e k (λt ht=>by
  obtain ⟨j,hj⟩:=List.getElem?_of_mem ht
  have hh:=zil e (by omega) j t hj
  rw [Nat.zero_add] at hh
  have hd:(hds ss)[j]?=some (vec t (hd t)):=by unfold hds;rw [List.getElem?_map,hj];rfl
  have:=x2 j _ hd;have:=y2 j _ hd
  show -vec t (Lat.hd t)<vec x (Lat.hd t)-vec y (Lat.hd t)∧vec x (Lat.hd t)-vec y (Lat.hd t)<vec t (Lat.hd t)
  rw [hh] at *
  omega) i
 have this:vec x i-vec y i=0:=this
 omega
theorem zpk {n:Nat} {tt:Jq} {x:Ji} (et:Ech n 0 tt) (lt:tt.length=n) (hx:x.length=n):∃ k:Int,0<k∧SpL tt (λi=>k*vec x i):=by
 refine Classical.byContradiction λz=>?_
 have key:∀ a b:Nat,a<b->low (mul x (a:Int)) tt=low (mul x (b:Int)) tt->False:=λa b hab e=>by
  obtain ⟨_,a2,_⟩:=zbH (l:=mul x (a:Int)) et (by rw [zba];exact hx)
  obtain ⟨_,b2,_⟩:=zbH (l:=mul x (b:Int)) et (by rw [zba];exact hx)
  rw [e] at a2
  refine z ⟨(b:Int)-a,by omega,(Sp.lin 1 (-1) b2 a2).conv λi=>?_⟩
  rw [zc9,zc9]
  grind
 have:=zj4 (l:=List.range ((zea (hds tt)).length+1)) (m:=zea (hds tt)) (f:=λa=>low (mul x (a:Int)) tt) List.nodup_range (λa _=>zh7 et lt (by rw [zba];exact hx)) λa _ b _ e=>by
  rcases Nat.lt_trichotomy a b with h | h | h
  ·exact (key a b h e).elim
  ·exact h
  ·exact (key b a h e.symm).elim
 rw [List.length_range] at this
 omega
def lst (m:Nat) (f:Nat->Int):Ji:=(List.range m).map f
theorem zeY {m:Nat} {f:Nat->Int}:(lst m f).length=m:=by unfold lst;rw [List.length_map,List.length_range]
theorem zjS {m i:Nat} {f:Nat->Int}:vec (lst m f) i=if i<m then f i else 0:=by
 unfold vec lst
 rw [List.getD_eq_getElem?_getD,List.getElem?_map]
 by_cases q:i<m
 ·rw [List.getElem?_range q,if_pos q];rfl
 ·rw [List.getElem?_eq_none (by rw [List.length_range];omega),if_neg q];rfl
theorem ziV {es b:Ji} (hb:b∈zea es):∀ {ds a:Ji},a∈zea ds->a++b∈zea (ds++es)
 | [],a,ha=>by
  have ha:a∈[[]]:=ha
  rw [List.mem_singleton.mp ha];exact hb
 | d :: ds,a,ha=>by
  obtain ⟨k,hk,hl⟩:=List.mem_flatMap.mp ha
  obtain ⟨l,hm,rfl⟩:=List.mem_map.mp hl
  exact List.mem_flatMap.mpr ⟨k,hk,List.mem_map.mpr ⟨l++b,ziV hb hm,rfl⟩⟩
theorem zew {es:Ji}:∀ {ds x:Ji},x∈zea (ds++es)->∃ a b,x=a++b∧a∈zea ds∧b∈zea es
 | [],x,h=>⟨[],x,rfl,List.mem_singleton.mpr rfl,h⟩
 | d :: ds,x,h=>by
  obtain ⟨k,hk,hl⟩:=List.mem_flatMap.mp h
  obtain ⟨l,hm,rfl⟩:=List.mem_map.mp hl
  obtain ⟨a,b,rfl,ha,hb⟩:=zew (ds:=ds) hm
  exact ⟨(k:Int) :: a,b,rfl,List.mem_flatMap.mpr ⟨k,hk,List.mem_map.mpr ⟨a,ha,rfl⟩⟩,hb⟩
theorem zie {ss:Jq}:(hds ss).length=ss.length:=List.length_map _
theorem zlA {m n:Nat} {S P Q:Jq} {D:Vc->Vc} (eS:Ech (m+n) 0 S) (lS:S.length=m+n) (eP:Ech m 0 P) (lP:P.length=m) (eQ:Ech n 0 Q) (lQ:Q.length=n)
  (hD:∀ u v i,D (λj=>u j-v j) i=D u i-D v i)
  (hk:∀ u:Vc,(∀ i,m+n≤i->u i=0)->(SpL S u ↔ SpL P (λi=>if i<m then u i-D (λw=>u (m+w)) i else 0)∧SpL Q (λw=>u (m+w)))):prd (hds S)=prd (hds P)*prd (hds Q):=by
 have pos:∀ d∈hds P++hds Q,0<d:=λd hd=>by
  rcases List.mem_append.mp hd with h | h
  ·exact zjT eP d h
  ·exact zjT eQ d h
 rw [← zl6,← zg2 (zjT eS),← zg2 pos]
 have lb:∀ {N:Nat} {T:Jq} {x:Ji},T.length=N->x∈zea (hds T)->x.length=N:=λhT hx=>by
  have:=(zep.mp hx).1
  rw [zie] at this;omega
 have sm:∀ {N:Nat} {T:Jq} {x y:Ji},Ech N 0 T->x.length=N->y.length=N->low x T=low y T->SpL T (λi=>vec x i-vec y i):=λe hx hy h=>by
  obtain ⟨_,a2,_⟩:=zbH e hx
  obtain ⟨_,b2,_⟩:=zbH e hy
  rw [h] at a2
  exact (Sp.lin 1 (-1) a2 b2).conv λi=>by omega
 have h1:(zea (hds S)).length≤(zea (hds P++hds Q)).length:=by
  refine zj4 (f:=λx=>low (lst m (λi=>vec x i-D (λw=>vec x (m+w)) i)) P++low (x.drop m) Q) zfK (λx hx=>ziV (zh7 eQ lQ (by rw [List.length_drop,lb lS hx];omega)) (zh7 eP lP zeY)) λx hx y hy e=>?_
  have xl:=lb lS hx;have yl:=lb lS hy
  have hxl:(x.drop m).length=n:=by rw [List.length_drop];omega
  have hyl:(y.drop m).length=n:=by rw [List.length_drop];omega
  obtain ⟨e1,e2⟩:=List.append_inj e (by rw [(zbH eP zeY).1,(zbH eP zeY).1])
  refine zjv eS lS hx hy ((hk (λi=>vec x i-vec y i) λi hi=>by rw [zbf (by omega),zbf (by omega)];rfl).mpr ⟨(sm eP zeY zeY e1).conv λi=>?_,(sm eQ hxl hyl e2).conv λi=>by rw [zcL,zcL]⟩)
  rw [zjS,zjS]
  by_cases q:i<m
  ·rw [if_pos q,if_pos q,if_pos q,hD];omega
  ·rw [if_neg q,if_neg q,if_neg q];rfl
 have h2:(zea (hds P++hds Q)).length≤(zea (hds S)).length:=by
  refine zj4 (f:=λy=>low (lst m (λi=>vec y i+D (λw=>vec y (m+w)) i)++y.drop m) S) zfK (λy hy=>?_) λx hx y hy e=>?_
  ·obtain ⟨a,b,rfl,ha,hb⟩:=zew hy
   exact zh7 eS lS (by rw [List.length_append,zeY,List.length_drop,List.length_append,lb lP ha,lb lQ hb];omega)
  ·obtain ⟨a,b,rfl,ha,hb⟩:=zew hx
   obtain ⟨c,d,rfl,hc,hd⟩:=zew hy
   have al:=lb lP ha;have bl:=lb lQ hb;have cl:=lb lP hc;have dl:=lb lQ hd
   have el:∀ {a b:Ji},a.length=m->b.length=n->((lst m (λi=>vec (a++b) i+D (λw=>vec (a++b) (m+w)) i)++(a++b).drop m)).length=m+n∧(∀ i,vec (lst m (λi=>vec (a++b) i+D (λw=>vec (a++b) (m+w)) i)++(a++b).drop m) i=if i<m then vec a i+D (vec b) i else vec b (i-m)):=λ{a b} ha hb=>by
    have e1:(a++b).drop m=b:=by rw [← ha,List.drop_left]
    have e2:(λw=>vec (a++b) (m+w))=vec b:=funext λw=>by rw [zbT,ha,if_neg (by omega),Nat.add_sub_cancel_left]
    rw [e1,e2]
    refine ⟨by rw [List.length_append,zeY,hb],λi=>?_⟩
    rw [zbT,zeY]
    by_cases q:i<m
    ·rw [if_pos q,if_pos q,zjS,if_pos q,zbT,ha,if_pos q]
    ·rw [if_neg q,if_neg q]
   obtain ⟨x1,x2⟩:=el al bl
   obtain ⟨y1,y2⟩:=el cl dl
   obtain ⟨k1,k2⟩:=(hk _ λi hi=>by rw [x2,y2,if_neg (by omega),if_neg (by omega),zbf (by omega),zbf (by omega)];rfl).mp (sm eS x1 y1 e)
   have eb:∀ w,vec (lst m (λi=>vec (a++b) i+D (λw=>vec (a++b) (m+w)) i)++(a++b).drop m) (m+w)-vec (lst m (λi=>vec (c++d) i+D (λw=>vec (c++d) (m+w)) i)++(c++d).drop m) (m+w)=vec b w-vec d w:=λw=>by
    rw [x2,y2,if_neg (by omega),if_neg (by omega),Nat.add_sub_cancel_left]
   have hb':=zjv eQ lQ hb hd (k2.conv eb)
   have ha':=zjv eP lP ha hc (k1.conv λi=>by
    rw [show (λw=>vec (lst m (λi=>vec (a++b) i+D (λw=>vec (a++b) (m+w)) i)++(a++b).drop m) (m+w)-vec (lst m (λi=>vec (c++d) i+D (λw=>vec (c++d) (m+w)) i)++(c++d).drop m) (m+w))=λw=>vec b w-vec d w from funext eb,x2,y2]
    by_cases q:i<m
    ·rw [if_pos q,if_pos q,if_pos q,hD];omega
    ·rw [if_neg q,zbf (by omega),zbf (by omega)];rfl)
   rw [ha',hb']
 omega
theorem ziN {m N:Nat}:∀ {S:Jq},m≤N->(∀ t∈S,t.length=N∧hd t<N)->prd (hds S)=prd (hds (zhB m S))*prd (hds (zdo m S))
 | [],_,_=>rfl
 | t :: S,hm,h=>by
  have ih:=ziN (m:=m) (S:=S) hm λs hs=>h s (List.mem_cons_of_mem _ hs)
  obtain ⟨t1,t2⟩:=h t List.mem_cons_self
  show vec t (hd t)*prd (hds S)=_
  by_cases q:hd t<m
  ·have e1:zhB m (t :: S)=t.take m :: zhB m S:=by unfold zhB;rw [List.filter_cons_of_pos (by simpa using q)];rfl
   have e2:zdo m (t :: S)=zdo m S:=by unfold zdo;rw [List.filter_cons_of_neg (by simpa using q)]
   have e3:vec (t.take m) (hd (t.take m))=vec t (hd t):=by rw [ziD q (by omega),zd7,if_pos q]
   rw [e1,e2]
   show _=vec (t.take m) (hd (t.take m))*prd (hds (zhB m S))*_
   rw [e3,ih,Int.mul_assoc]
  ·have e1:zhB m (t :: S)=zhB m S:=by unfold zhB;rw [List.filter_cons_of_neg (by simpa using q)]
   have e2:zdo m (t :: S)=t.drop m :: zdo m S:=by unfold zdo;rw [List.filter_cons_of_pos (by simpa using q)];rfl
   have e3:vec (t.drop m) (hd (t.drop m))=vec t (hd t):=by rw [ziE (by omega) (by omega),zcL,show m+(hd t-m)=hd t by omega]
   rw [e1,e2]
   show _=_*(vec (t.drop m) (hd (t.drop m))*prd (hds (zdo m S)))
   rw [e3,ih,← Int.mul_assoc,← Int.mul_assoc,Int.mul_comm (vec t (hd t))]
theorem ziy {n:Nat} {ss:Jq} (e:Ech n 0 ss) (h:∀ j,j<n->∃ u,SpL ss u∧(∀ i,i<j->u i=0)∧u j≠0):ss.length=n:=by
 have h1:=zfH e (Nat.zero_le n)
 have h2:=zhb (l:=List.range n) (m:=ss.map hd) List.nodup_range λj hj=>by
  obtain ⟨u,u1,u2,u3⟩:=h j (List.mem_range.mp hj)
  obtain ⟨t,ht,e1⟩:=zfW e u1 u2 u3
  exact List.mem_map.mpr ⟨t,ht,e1⟩
 rw [List.length_range,List.length_map] at h2
 omega
theorem zp7 {n:Nat} {ss:Jq} (e:Ech n 0 ss) (hl:ss.length=n) {j:Nat} (hj:j<n):∃ t∈ss,(∀ i,i<j->vec t i=0)∧vec t j≠0:=by
 have hk:ss[j]?=some ss[j]:=List.getElem?_eq_getElem (by omega)
 have h1:=zil e (by omega) j _ hk
 rw [Nat.zero_add] at h1
 have hm:=List.mem_of_getElem? hk
 refine ⟨_,hm,λi hi=>za8 (by omega),?_⟩
 have:=(e.mem _ hm).2.2.2
 rw [h1] at this
 omega
end Lat
set_option maxHeartbeats 4000000
set_option maxRecDepth 100000
set_option maxHeartbeats 4000000
namespace My
open PySem L2
def top (i:Nat):Stmt:=PySem.Challenge.pw_swapbook_k64_whole_books_between_books.main.body.getD i (.Pass ⟨0,0,0,0⟩)
abbrev zbS:Stmt:=top 11
abbrev zg1:Stmt:=top 12
abbrev zhy:Stmt:=top 13
abbrev zfz:Stmt:=top 14
abbrev zdN:Stmt:=top 15
abbrev zbz:Stmt:=zlB (top 19) 0
abbrev zet:Stmt:=top 20
abbrev za9:Stmt:=top 21
abbrev zer:Stmt:=top 23
abbrev zfq:Stmt:=top 24
abbrev zek:Stmt:=top 25
abbrev zem:Stmt:=top 26
abbrev zfp:Stmt:=top 27
abbrev zdL:Stmt:=top 28
abbrev zes:Stmt:=top 29
abbrev zej:Stmt:=top 30
abbrev ze8:Stmt:=top 31
abbrev zeI:Stmt:=top 32
abbrev zfc:Stmt:=top 33
abbrev zfD:Stmt:=top 34
abbrev zdM:Stmt:=top 39
abbrev zeX:Stmt:=top 42
abbrev za6:Stmt:=top 44
abbrev ze6:Stmt:=top 45
abbrev zjp:Stmt:=top 46
abbrev zfh:Stmt:=top 47
abbrev zbv:Stmt:=zlB (top 49) 0
abbrev zdj:Stmt:=top 50
abbrev zhJ:Stmt:=top 52
abbrev zbL:Stmt:=top 53
abbrev zeq:Stmt:=top 54
abbrev zcX:Stmt:=top 55
abbrev zdJ:Stmt:=top 57
abbrev zeo:Stmt:=top 58
abbrev zdf:Stmt:=top 59
abbrev zbM:Stmt:=top 60
abbrev zcA:Stmt:=top 61
abbrev zbd:Stmt:=top 62
abbrev zel:Stmt:=top 63
abbrev zcW:Stmt:=top 64
abbrev zcB:Stmt:=top 65
abbrev zdK:Stmt:=top 66
abbrev zc6:Stmt:=top 67
abbrev zda:Stmt:=top 68
abbrev zb2:Stmt:=top 69
abbrev zgH:Stmt:=top 70
abbrev lI:Ji->Ds:=λxs=>dL (List.map dI xs)
structure Adr where
 no:Unit:=()
 Book:Addr
 Scale:Addr
 Line:Addr
 Rest:Addr
 Stairs:Addr
structure BookD where
 many:Int
 swaps:Jq
 deriving Inhabited
def zaK (C:Addr) (b:BookD):Ds:=dO C [("many",dI b.many),("swaps",dL (List.map lI b.swaps))]
structure ScaleD where
 weights:Ji
 deriving Inhabited
structure LineD where
 weights:Ji
 deriving Inhabited
def zsy (C:Addr) (b:LineD):Ds:=dO C [("weights",dL (List.map dI b.weights))]
structure RestD where
 weights:Ji
 rest:Int
 deriving Inhabited
def zsL (C:Addr) (b:RestD):Ds:=dO C [("weights",dL (List.map dI b.weights)),("rest",dI b.rest)]
structure StairsD where
 steps:Jq
 heads:Ji
 roads:Jq
 deriving Inhabited
def zfA (C:Addr) (b:StairsD):Ds:=dO C [("steps",dL (List.map lI b.steps)),("heads",dL (List.map dI b.heads)),("roads",dL (List.map lI b.roads))]
instance:Inhabited (LineD ⊕ RestD):=⟨.inl default⟩
def dSc (A:Adr):LineD ⊕ RestD->Ds
 | .inl l=>zsy A.Line l
 | .inr r=>zsL A.Rest r
theorem ztw {A:Adr}:NN (dSc A):=λx H v h=>match x,h with
 | .inl l,h=>NN.obj (f:=λ(b:LineD)=>[("weights",dL (List.map dI b.weights))]) l H v h
 | .inr r,h=>NN.obj (f:=λ(b:RestD)=>[("weights",dL (List.map dI b.weights)),("rest",dI b.rest)]) r H v h
structure Txt (K:W.Frag) (mg:Str->Option Value) (A:Adr):Prop where
 enumerate:mg "enumerate"=none
 int:mg "int"=none
 len:mg "len"=none
 list:mg "list"=none
 max:mg "max"=none
 min:mg "min"=none
 range:mg "range"=none
 reversed:mg "reversed"=none
 sum:mg "sum"=none
 zip:mg "zip"=none
 Book:mg "Book"=some (.ref A.Book)
 Book_cl:Cls K A.Book
 Book_many:NoAttr K A.Book "many"
 Book_swaps:NoAttr K A.Book "swaps"
 Scale:mg "Scale"=some (.ref A.Scale)
 Scale_cl:Cls K A.Scale
 Scale_weights:NoAttr K A.Scale "weights"
 Line:mg "Line"=some (.ref A.Line)
 Line_cl:Cls K A.Line
 Line_weights:NoAttr K A.Line "weights"
 Rest:mg "Rest"=some (.ref A.Rest)
 Rest_cl:Cls K A.Rest
 Rest_weights:NoAttr K A.Rest "weights"
 Rest_rest:NoAttr K A.Rest "rest"
 Stairs:mg "Stairs"=some (.ref A.Stairs)
 Stairs_cl:Cls K A.Stairs
 Stairs_steps:NoAttr K A.Stairs "steps"
 Stairs_heads:NoAttr K A.Stairs "heads"
 Stairs_roads:NoAttr K A.Stairs "roads"
 g_MOST_WARES:∃ t,mg "MOST_WARES"=some (.int 8 t)
 g_MOST_SWAPS:∃ t,mg "MOST_SWAPS"=some (.int 12 t)
section
variable {P:Program} {w:World} {K:W.Frag} {mg:Str->Option Value} {base:Heap} {f:Addr} {fd:FuncData} {A:Adr}
def zeS (P0:Ji) (P1:Ji):Unit:=()
def zbw (P0:Ji) (P1:Ji):Prop:=P0.length=P1.length
def zb7 (K:W.Frag) (A:Adr):Sp:=Spv (ι:=Ji×Ji) (λx=>[dQ K (List.map dI x.1),dQ K (List.map dI x.2)]) (λx=>zbw x.1 x.2) (λx=>↥[dN])
theorem zgB:FnScope ["one","other"] ["one","other"] (zad zbS):=⟨rfl,rfl,rfl,by decide+kernel,rfl,by decide+kernel,by decide+kernel⟩
theorem zgF (F:Fun K "refuse_unlike" "refuse_unlike" zbS f fd) (T:Txt K mg A) :FnOk P w K mg base (CXE P w) 1 f fd ["one","other"] (zb7 K A):=by
 refine F.okV zgB (λ_=>rfl) (λcdv Ar outer s H E x hr hp=> ?_)
 obtain ⟨P0,P1⟩:=x
 have hu:=hr.units
 replace hp:zbw P0 P1:=hp
 unfold zbw at hp
 refine ⟨_,(zac (zcI (zaI zgq (za3 (zaR (K:=K) rfl) rfl T.len PySem.boot_len ↑[pv 0]) (za3 (zaR (K:=K) rfl) rfl T.len PySem.boot_len ↑[pv 1]) (zaQ _)) (zac zdG zag) zag) zag),.inr ⟨_,([⇑[dQ K (List.map dI P0)],⇑[dQ K (List.map dI P1)]]:L2.Ctx),rfl,?_⟩⟩
 show L2.Run _ ([⇑[dQ K (List.map dI P0)],⇑[dQ K (List.map dI P1)]]:L2.Ctx) _ _
 exact (zcu (EvT.conv (zau (zeK (x:=((P0.length:Nat):Int)) (y:=((P1.length:Nat):Int)) (zco (f:=dI) (xs:=P0) (zaa (i:=0) rfl)) (zco (f:=dI) (xs:=P1) (zaa (i:=1) rfl)))) (by ((try simp only [decide_eq_true_eq,decide_eq_false_iff_not,Bool.not_eq_true',Bool.not_eq_false',Bool.and_eq_true,Bool.or_eq_false_iff,Bool.or_eq_true,Bool.and_eq_false_iff,Bool.cond_eq_ite] at*)<;>omega))) (zaz (zat (Wk.refl _))))
def zbU (P0:Ji) (P1:Ji):Ji :=
 (List.map (λ(x2:(Int×Int))=>(x2.1+x2.2)) (List.zip P0 P1))
def zdF (P0:Ji) (P1:Ji):Prop:=P0.length=P1.length∧P0.length≤1000
def ziz (K:W.Frag) (A:Adr):Sp:=Spv (ι:=Ji×Ji) (λx=>[dQ K (List.map dI x.1),dQ K (List.map dI x.2)]) (λx=>zdF x.1 x.2) (λx=>.ow true (List.map dI (zbU x.1 x.2)))
theorem zpW:FnScope ["one","other"] ["one","other"] (zad zg1):=⟨rfl,rfl,rfl,by decide+kernel,rfl,by decide+kernel,by decide+kernel⟩
theorem zpn (F:Fun K "plus" "plus" zg1 f fd) (T:Txt K mg A) (yad:Callee P w K mg base (CXE P w) 1 "refuse_unlike" ["one","other"] (zb7 K A)):FnOk P w K mg base (CXE P w) 2 f fd ["one","other"] (ziz K A):=by
 refine F.okV zpW (λ_=>rfl) (λcdv Ar outer s H E x hr hp=> ?_)
 obtain ⟨P0,P1⟩:=x
 have hu:=hr.units
 replace hp:zdF P0 P1:=hp
 unfold zdF at hp
 refine ⟨_,(zac (zcG (zaD yad (hr.mono (by decide)) rfl zaB ↑[pv 0,pv 1])) (zac (zaN (zb0 rfl (.of (osc:=(zad zg1)) (N:=["one","other"]) (own:=["a","b"]) (fvn:=[]) (fv:=[]) rfl rfl (by decide+kernel)) (zdh (K:=K) rfl rfl T.zip ↑[pv 0,pv 1]) (λ_ _ _ _ _=>⟨(zbJ (K:=K) (n:=2) rfl rfl (zaF (zao (i:=0) (show (["a","b"]:List Str).Nodup by decide+kernel) rfl (Or.inl rfl) (Or.inr rfl)) (zaF (zao (i:=1) (show (["a","b"]:List Str).Nodup by decide+kernel) rfl (Or.inl rfl) (Or.inr rfl)) zcj))),zbg,(zax zcZ (pv 0) (pv 1))⟩))) zag)),.inl ?_⟩
 show L2.Run _ ([⇑[dQ K (List.map dI P0)],⇑[dQ K (List.map dI P1)]]:L2.Ctx) _ ((λr=>Oc.rl true (List.map dI r)) (zbU P0 P1))
 unfold zbU
 exact (zev (m:=true) (Ev.any (m:=true) (zal (x:=(P0,P1)) (zab (zaa (i:=0) rfl) (zab (zaa (i:=1) rfl) zae)) rfl (by show zbw P0 P1;exact hp.1) rfl)) (zen (zid (EvO.conv (zb5 (g:=(λ(x2:(Int×Int))=>dI (x2.1+x2.2))) (zfy (m:=false) dI dI (xs:=P0) (ys:=P1) (zaa (i:=0) rfl) (zaa (i:=1) rfl)) ↥(zap (by rw [List.length_zip];omega)) ⟨by decide,by decide⟩ (λi3 x2 hx4=>have qhx4:=zc2 hx4;(zaU (x:=x2.1) (y:=x2.2) (Ev.any (m:=false) (zaa (i:=0) rfl)) (Ev.any (m:=false) (zaa (i:=1) rfl))))) (by first|(rw [List.map_map];rfl)|(simp only [cond_true,cond_false];rw [List.map_map];rfl))))))
def zeL (P0:Ji) (P1:Ji):Ji :=
 (List.map (λ(x5:(Int×Int))=>(x5.1-x5.2)) (List.zip P0 P1))
def zeG (P0:Ji) (P1:Ji):Prop:=P0.length=P1.length∧P0.length≤1000
def ziu (K:W.Frag) (A:Adr):Sp:=Spv (ι:=Ji×Ji) (λx=>[dQ K (List.map dI x.1),dQ K (List.map dI x.2)]) (λx=>zeG x.1 x.2) (λx=>.ow true (List.map dI (zeL x.1 x.2)))
theorem zp0:FnScope ["one","other"] ["one","other"] (zad zhy):=⟨rfl,rfl,rfl,by decide+kernel,rfl,by decide+kernel,by decide+kernel⟩
theorem zpR (F:Fun K "less" "less" zhy f fd) (T:Txt K mg A) (yad:Callee P w K mg base (CXE P w) 1 "refuse_unlike" ["one","other"] (zb7 K A)):FnOk P w K mg base (CXE P w) 2 f fd ["one","other"] (ziu K A):=by
 refine F.okV zp0 (λ_=>rfl) (λcdv Ar outer s H E x hr hp=> ?_)
 obtain ⟨P0,P1⟩:=x
 have hu:=hr.units
 replace hp:zeG P0 P1:=hp
 unfold zeG at hp
 refine ⟨_,(zac (zcG (zaD yad (hr.mono (by decide)) rfl zaB ↑[pv 0,pv 1])) (zac (zaN (zb0 rfl (.of (osc:=(zad zhy)) (N:=["one","other"]) (own:=["a","b"]) (fvn:=[]) (fv:=[]) rfl rfl (by decide+kernel)) (zdh (K:=K) rfl rfl T.zip ↑[pv 0,pv 1]) (λ_ _ _ _ _=>⟨(zbJ (K:=K) (n:=2) rfl rfl (zaF (zao (i:=0) (show (["a","b"]:List Str).Nodup by decide+kernel) rfl (Or.inl rfl) (Or.inr rfl)) (zaF (zao (i:=1) (show (["a","b"]:List Str).Nodup by decide+kernel) rfl (Or.inl rfl) (Or.inr rfl)) zcj))),zbg,(zax zeN (pv 0) (pv 1))⟩))) zag)),.inl ?_⟩
 show L2.Run _ ([⇑[dQ K (List.map dI P0)],⇑[dQ K (List.map dI P1)]]:L2.Ctx) _ ((λr=>Oc.rl true (List.map dI r)) (zeL P0 P1))
 unfold zeL
 exact (zev (m:=true) (Ev.any (m:=true) (zal (x:=(P0,P1)) (zab (zaa (i:=0) rfl) (zab (zaa (i:=1) rfl) zae)) rfl (by show zbw P0 P1;exact hp.1) rfl)) (zen (zid (EvO.conv (zb5 (g:=(λ(x5:(Int×Int))=>dI (x5.1-x5.2))) (zfy (m:=false) dI dI (xs:=P0) (ys:=P1) (zaa (i:=0) rfl) (zaa (i:=1) rfl)) ↥(zap (by rw [List.length_zip];omega)) ⟨by decide,by decide⟩ (λi6 x5 hx7=>have qhx7:=zc2 hx7;(zaU (x:=x5.1) (y:=x5.2) (Ev.any (m:=false) (zaa (i:=0) rfl)) (Ev.any (m:=false) (zaa (i:=1) rfl))))) (by first|(rw [List.map_map];rfl)|(simp only [cond_true,cond_false];rw [List.map_map];rfl))))))
def zan (P0:Ji) (P1:Int):Ji :=
 (List.map (λ(x8:Int)=>(x8*P1)) P0)
def zbn (P0:Ji) (P1:Int):Prop:=P0.length≤1000∧∀ x∈P0,zdc x P1
def zeH (K:W.Frag) (A:Adr):Sp:=Spv (ι:=Ji×Int) (λx=>[dQ K (List.map dI x.1),dI x.2]) (λx=>zbn x.1 x.2) (λx=>.ow true (List.map dI (zan x.1 x.2)))
theorem znI:FnScope ["some","many"] ["some","many"] (zad zfz):=⟨rfl,rfl,rfl,by decide+kernel,rfl,by decide+kernel,by decide+kernel⟩
theorem zoe (F:Fun K "times" "times" zfz f fd) (T:Txt K mg A) :FnOk P w K mg base (CXE P w) 1 f fd ["some","many"] (zeH K A):=by
 refine F.okV znI (λ_=>rfl) (λcdv Ar outer s H E x hr hp=> ?_)
 obtain ⟨P0,P1⟩:=x
 have hu:=hr.units
 replace hp:zbn P0 P1:=hp
 unfold zbn at hp
 refine ⟨_,(zac (zaN (zb0 rfl (.of (osc:=(zad zfz)) (N:=["some","many"]) (own:=["number"]) (fvn:=["many"]) (fv:=[1]) rfl rfl (by decide+kernel)) (zaP (K:=K) rfl (pv 0)) (λ_ _ _ _ _=>⟨(zao (i:=0) (show (["number","many"]:List Str).Nodup by decide +kernel) rfl (Or.inl rfl) (Or.inr rfl)),zbg,(zax zbj (pv 0) (pv 1))⟩))) zag),.inl ?_⟩
 show L2.Run _ ([⇑[dQ K (List.map dI P0)],⇑[dI P1]]:L2.Ctx) _ ((λr=>Oc.rl true (List.map dI r)) (zan P0 P1))
 unfold zan
 exact (zen (zid (EvO.conv (zb5 (g:=(λ(x8:Int)=>dI (x8*P1))) (zbi (m:=false) dI (xs:=P0) (zaa (i:=0) rfl)) ↥(zap (by omega)) ⟨by decide,by decide⟩ (λi9 x8 hx10=>have v10:=List.mem_of_getElem? hx10;(zaJ (x:=x8) (y:=P1) (Ev.any (m:=false) (zaa (i:=0) rfl)) (Ev.any (m:=false) (zaa (i:=1) rfl)) ↥(hp.2 _ (List.mem_of_getElem? (by assumption)))))) (by first|(rw [List.map_map];rfl)|(simp only [cond_true,cond_false];rw [List.map_map];rfl)))))
theorem zkH {α:Type} {xs:List α} {i:Nat} {p:Int×α} (h:(zdE xs)[i]?=some p):p.2∈xs:=List.mem_of_getElem? (zcK h).2.2
def zcw (P0:Ji) (P1:Ji):Int :=
 ((List.map (λ(x11:(Int×Int))=>(x11.1*x11.2)) (List.zip P0 P1))).sum
def zdR (P0:Ji) (P1:Ji):Prop:=P0.length=P1.length∧P0.length≤1000∧∀ p∈List.zip P0 P1,zdc p.1 p.2
def zgf (K:W.Frag) (A:Adr):Sp:=Spv (ι:=Ji×Ji) (λx=>[dQ K (List.map dI x.1),dQ K (List.map dI x.2)]) (λx=>zdR x.1 x.2) (λx=>↥[dI (zcw x.1 x.2)])
theorem zll:FnScope ["one","other"] ["one","other"] (zad zdN):=⟨rfl,rfl,rfl,by decide+kernel,rfl,by decide+kernel,by decide+kernel⟩
theorem zli (F:Fun K "weighed" "weighed" zdN f fd) (T:Txt K mg A) (yad:Callee P w K mg base (CXE P w) 1 "refuse_unlike" ["one","other"] (zb7 K A)):FnOk P w K mg base (CXE P w) 2 f fd ["one","other"] (zgf K A):=by
 refine F.okV zll (λ_=>rfl) (λcdv Ar outer s H E x hr hp=> ?_)
 obtain ⟨P0,P1⟩:=x
 have hu:=hr.units
 replace hp:zdR P0 P1:=hp
 unfold zdR at hp
 refine ⟨_,(zac (zcG (zaD yad (hr.mono (by decide)) rfl zaB ↑[pv 0,pv 1])) (zac (zaN (za3 (zk9 (K:=K) rfl rfl) rfl T.sum PyProof.Rows.boot_sum ↑[(zb0 rfl (.of (osc:=(zad zdN)) (N:=["one","other"]) (own:=["a","b"]) (fvn:=[]) (fv:=[]) rfl rfl (by decide+kernel)) (zdh (K:=K) rfl rfl T.zip ↑[pv 0,pv 1]) (λ_ _ _ _ _=>⟨(zbJ (K:=K) (n:=2) rfl rfl (zaF (zao (i:=0) (show (["a","b"]:List Str).Nodup by decide+kernel) rfl (Or.inl rfl) (Or.inr rfl)) (zaF (zao (i:=1) (show (["a","b"]:List Str).Nodup by decide+kernel) rfl (Or.inl rfl) (Or.inr rfl)) zcj))),zbg,(zax zbj (pv 0) (pv 1))⟩))])) zag)),.inl ?_⟩
 show L2.Run _ ([⇑[dQ K (List.map dI P0)],⇑[dQ K (List.map dI P1)]]:L2.Ctx) _ ((λ(r:Int)=>Oc.rt true (dI r)) (zcw P0 P1))
 unfold zcw
 exact (zev (m:=true) (Ev.any (m:=true) (zal (x:=(P0,P1)) (zab (zaa (i:=0) rfl) (zab (zaa (i:=1) rfl) zae)) rfl (by show zbw P0 P1;exact hp.1) rfl)) (zak (zaC (zqJ (xs:=(List.map (λ(x11:(Int×Int))=>(x11.1*x11.2)) (List.zip P0 P1))) (Ev.weak (K:=K) (EvO.ev (EvO.conv (zb5 (g:=(λ(x11:(Int×Int))=>dI (x11.1*x11.2))) (zfy (m:=false) dI dI (xs:=P0) (ys:=P1) (zaa (i:=0) rfl) (zaa (i:=1) rfl)) ↥(zap (by rw [List.length_zip];omega)) ⟨by decide,by decide⟩ (λi12 x11 hx13=>have v13:=zc2 hx13;(zaJ (x:=x11.1) (y:=x11.2) (Ev.any (m:=false) (zaa (i:=0) rfl)) (Ev.any (m:=false) (zaa (i:=1) rfl)) ↥(hp.2.2 _ (List.mem_of_getElem? (by assumption)))))) (by first|(rw [List.map_map];rfl)|(simp only [cond_true,cond_false];rw [List.map_map];rfl)))))))))
theorem zlo (w t:Ji):zcw w t=Lat.dv w (Lat.vec t):=Lat.zmn w t
def zah (P0:Ji):Int :=
 (zjn (zbE (λ(s14:Unit) (x15:(Int×Int))=>(((bif (!decide (x15.2=(0:Int))) then (Sum.inr x15.1) else (Sum.inl ()))):(Unit)⊕Int)) () (zdE P0)) (λ(r20:Unit)=>((P0.length:Nat):Int)) (λb=>b))
def zaY (P0:Ji):Prop:=True
def zcb (K:W.Frag) (A:Adr):Sp:=Spv (ι:=Ji) (λx=>[dQ K (List.map dI x)]) (λx=>zaY x) (λx=>↥[dI (zah x)])
theorem zgt:FnScope ["row","place","number"] ["row"] (zad zer):=⟨rfl,rfl,rfl,by decide+kernel,rfl,by decide+kernel,by decide+kernel⟩
theorem zk7 (F:Fun K "head_of" "head_of" zer f fd) (T:Txt K mg A) :FnOk P w K mg base (CXE P w) 1 f fd ["row"] (zcb K A):=by
 refine F.okV zgt (λ_=>rfl) (λcdv Ar outer s H E P0 hr hp=> ?_)
 have hu:=hr.units
 replace hp:zaY P0:=hp
 unfold zaY at hp
 refine ⟨_,(zac (zcE PassesOwn.never rfl (zgr rfl rfl T.enumerate ↑[pv 0]) (zbJ (K:=K) (n:=2) rfl rfl (zaF (zao (i:=1) zgt.nd rfl (Or.inl rfl) (Or.inl rfl)) (zaF (zao (i:=2) zgt.nd rfl (Or.inl rfl) (Or.inl rfl)) zcj))) (zac (zcI (zaI zgq (pv 2) zai (zaQ _)) (zac (zaN (pv 1)) zag) zag) zag)) (zac (zaN (za3 (zaR (K:=K) rfl) rfl T.len PySem.boot_len ↑[pv 0])) zag)),.inl ?_⟩
 show L2.Run _ ([⇑[dQ K (List.map dI P0)],.no,.no]:L2.Ctx) _ ((λ(r:Int)=>Oc.rt true (dI r)) (zah P0))
 unfold zah
 exact (zfa (s0:=()) (λ(s14:Unit)=>([⇑[dQ K (List.map dI P0)],.no,.no]:L2.Ctx)) (λ(r:Int)=>Oc.rt true (dI r)) (λb=>b) (λ(s14:Unit) (x15:(Int×Int))=>(((bif (!decide (x15.2=(0:Int))) then (Sum.inr x15.1) else (Sum.inl ()))):(Unit)⊕Int)) (λ_ _=>True) (λb=> .inl ⟨_,_,rfl⟩) (zgd (m:=false) dI (xs:=P0) (zaa (i:=0) rfl)) (.eq (.eq (.eq .nil))) trivial (λi16 x15 s14 hx17 hI18=>have v17:=zcK hx17;⟨(λ_ _=>trivial),(zbc (b:=(!decide (x15.2=(0:Int)))) (zf7 (λ(s14:Unit)=>([⇑[dQ K (List.map dI P0)],.no,.no]:L2.Ctx)) (λ(r:Int)=>Oc.rt true (dI r))) (zau (zeK (x:=x15.2) (y:=(0:Int)) (Ev.any (m:=false) (zaa (i:=2) rfl)) zaL)) (λh19=>(zaG (zak (zaC (Ev.any (m:=false) (zaa (i:=1) rfl)))))) (λh19=>(zaz (zat (.eq (.no (.no .nil)))))))⟩) (λr20 hr20 hI=>(zak (zaC (zco (f:=dI) (xs:=P0) (zaa (i:=0) rfl))))))
theorem zce (r:Ji):zah r=(Lat.hd r:Int):=Lat.zr7 r
def zc1 (P0:Int) (P1:Int):(T3 Int Int Int) :=
 (Let (whl (λ(s21:Int×Int×Int×Int)=>(!decide (s21.2.1=(0:Int)))) (λ(s21:Int×Int×Int×Int)=>(Let (s21.1/s21.2.1) (λ(v24:Int)=>(Let (s21.1-(v24*s21.2.1)) (λ(v25:Int)=>(Let s21.2.1 (λ(v26:Int)=>(Let (s21.2.2.1-(v24*s21.2.2.2)) (λ(v27:Int)=>(Let s21.2.2.2 (λ(v28:Int)=>(v26,v25,v28,v27)))))))))))) (P1.toNat) (P0,P1,(1:Int),(0:Int))) (λ(r29:Int×Int×Int×Int)=>(T3.mk r29.1 r29.2.2.1 ((r29.1-(r29.2.2.1*P0))/P1))))
def ze5 (P0:Int) (P1:Int):Prop:=Lat.zjO P0 P1
def zhh (K:W.Frag) (A:Adr):Sp:=Spv (ι:=Int×Int) (λx=>[dI x.1,dI x.2]) (λx=>ze5 x.1 x.2) (λx=>↥[dT [dI ((zc1 x.1 x.2).a),dI ((zc1 x.1 x.2).b),dI ((zc1 x.1 x.2).c)]])
theorem zb6:FnScope ["one","other","great","small","taken","later","part","left"] ["one","other"] (zad zfq):=⟨rfl,rfl,rfl,by decide+kernel,rfl,by decide+kernel,by decide+kernel⟩
theorem znj (F:Fun K "common" "common" zfq f fd) (T:Txt K mg A) :FnOk P w K mg base (CXE P w) 1 f fd ["one","other"] (zhh K A):=by
 refine F.okV zb6 (λ_=>rfl) (λcdv Ar outer s H E x hr hp=> ?_)
 obtain ⟨P0,P1⟩:=x
 have hu:=hr.units
 replace hp:ze5 P0 P1:=hp
 unfold ze5 at hp
 refine ⟨_,(zac (zar (i:=2) zb6.nd rfl (Or.inl rfl) (pv 0)) (zac (zar (i:=3) zb6.nd rfl (Or.inl rfl) (pv 1)) (zac (zar (i:=4) zb6.nd rfl (Or.inl rfl) zai) (zac (zar (i:=5) zb6.nd rfl (Or.inl rfl) zai) (zac (znL PassesOwn.never (zaI zgq (pv 3) zai (zaQ _)) (zac (zar (i:=6) zb6.nd rfl (Or.inl rfl) (zax zcg (pv 2) (pv 3))) (zac (zar (i:=7) zb6.nd rfl (Or.inl rfl) (zax zeN (pv 2) (zax zbj (pv 6) (pv 3)))) (zac (zar (i:=2) zb6.nd rfl (Or.inl rfl) (pv 3)) (zac (zar (i:=3) zb6.nd rfl (Or.inl rfl) (pv 7)) (zac (zar (i:=7) zb6.nd rfl (Or.inl rfl) (zax zeN (pv 4) (zax zbj (pv 6) (pv 5)))) (zac (zar (i:=4) zb6.nd rfl (Or.inl rfl) (pv 5)) (zac (zar (i:=5) zb6.nd rfl (Or.inl rfl) (pv 7)) zag)))))))) (zac (zaN (zho ↑[pv 2,pv 4,zax zcg (zax zeN (pv 2) (zax zbj (pv 4) (pv 0))) (pv 1)])) zag)))))),.inl ?_⟩
 show L2.Run _ ([⇑[dI P0],⇑[dI P1],.no,.no,.no,.no,.no,.no]:L2.Ctx) _ ((λ(r:(T3 Int Int Int))=>Oc.rt true (dT [dI r.a,dI r.b,dI r.c])) (zc1 P0 P1))
 unfold zc1
 exact (zbP (m:=true) (Ev.any (m:=false) (zaa (i:=0) rfl)) (zbP (m:=true) (Ev.any (m:=false) (zaa (i:=1) rfl)) (zbP (m:=true) zaL (zbP (m:=true) zaL (zl1 (s0:=(P0,P1,(1:Int),(0:Int))) (λ(s21:Int×Int×Int×Int)=>([⇑[dI P0],⇑[dI P1],↥[dI s21.1],↥[dI s21.2.1],↥[dI s21.2.2.1],↥[dI s21.2.2.2],.no,.no]:L2.Ctx)) (λ(r:(T3 Int Int Int))=>Oc.rt true (dT [dI r.a,dI r.b,dI r.c])) (λ(s21:Int×Int×Int×Int)=>(!decide (s21.2.1=(0:Int)))) (λ(s21:Int×Int×Int×Int)=>(Let (s21.1/s21.2.1) (λ(v24:Int)=>(Let (s21.1-(v24*s21.2.1)) (λ(v25:Int)=>(Let s21.2.1 (λ(v26:Int)=>(Let (s21.2.2.1-(v24*s21.2.2.2)) (λ(v27:Int)=>(Let s21.2.2.2 (λ(v28:Int)=>(v26,v25,v28,v27)))))))))))) (λ(s21:Int×Int×Int×Int)=>Lat.GI P0 P1 s21) (λ(s21:Int×Int×Int×Int)=>(s21.2.1).toNat) (P1.toNat) (.eq (.eq (.eq (.eq (.eq (.eq (.eq (.eq .nil)))))))) ↥(Lat.GI.start hp.1 hp.2.1) ↥(Nat.le_refl _) (λs21 hI22=>⟨(zau (zeK (x:=s21.2.1) (y:=(0:Int)) (Ev.any (m:=true) (zaa (i:=3) rfl)) zaL)),λhc23=>⟨↥(Lat.GI.step (by assumption) (by assumption)),(zaq (m:=true) (x:=(s21.1/s21.2.1)) dI (λz=>Oc.nx ((λ(s21:Int×Int×Int×Int)=>([⇑[dI P0],⇑[dI P1],↥[dI s21.1],↥[dI s21.2.1],↥[dI s21.2.2.1],↥[dI s21.2.2.2],.no,.no]:L2.Ctx)) z)) (zaJ (x:=s21.1) (y:=s21.2.1) (Ev.any (m:=true) (zaa (i:=2) rfl)) (Ev.any (m:=true) (zaa (i:=3) rfl)) ↥(Lat.GI.div (by assumption) hp (by assumption))) (λv24 hv24=>(zaq (m:=true) (x:=(s21.1-(v24*s21.2.1))) dI (λz=>Oc.nx ((λ(s21:Int×Int×Int×Int)=>([⇑[dI P0],⇑[dI P1],↥[dI s21.1],↥[dI s21.2.1],↥[dI s21.2.2.1],↥[dI s21.2.2.2],.no,.no]:L2.Ctx)) z)) (zaU (x:=s21.1) (y:=(v24*s21.2.1)) (Ev.any (m:=true) (zaa (i:=2) rfl)) (zaJ (x:=v24) (y:=s21.2.1) (Ev.any (m:=true) (zaa (i:=6) rfl)) (Ev.any (m:=true) (zaa (i:=3) rfl)) ↥(Lat.GI.mul1 (by assumption) hp (by assumption) (by assumption)))) (λv25 hv25=>(zaq (m:=true) (x:=s21.2.1) dI (λz=>Oc.nx ((λ(s21:Int×Int×Int×Int)=>([⇑[dI P0],⇑[dI P1],↥[dI s21.1],↥[dI s21.2.1],↥[dI s21.2.2.1],↥[dI s21.2.2.2],.no,.no]:L2.Ctx)) z)) (Ev.any (m:=true) (zaa (i:=3) rfl)) (λv26 hv26=>(zbP (m:=true) (Ev.any (m:=true) (zaa (i:=7) rfl)) (zaq (m:=true) (x:=(s21.2.2.1-(v24*s21.2.2.2))) dI (λz=>Oc.nx ((λ(s21:Int×Int×Int×Int)=>([⇑[dI P0],⇑[dI P1],↥[dI s21.1],↥[dI s21.2.1],↥[dI s21.2.2.1],↥[dI s21.2.2.2],.no,.no]:L2.Ctx)) z)) (zaU (x:=s21.2.2.1) (y:=(v24*s21.2.2.2)) (Ev.any (m:=true) (zaa (i:=4) rfl)) (zaJ (x:=v24) (y:=s21.2.2.2) (Ev.any (m:=true) (zaa (i:=6) rfl)) (Ev.any (m:=true) (zaa (i:=5) rfl)) ↥(Lat.GI.mul2 (by assumption) hp (by assumption) (by assumption)))) (λv27 hv27=>(zaq (m:=true) (x:=s21.2.2.2) dI (λz=>Oc.nx ((λ(s21:Int×Int×Int×Int)=>([⇑[dI P0],⇑[dI P1],↥[dI s21.1],↥[dI s21.2.1],↥[dI s21.2.2.1],↥[dI s21.2.2.2],.no,.no]:L2.Ctx)) z)) (Ev.any (m:=true) (zaa (i:=5) rfl)) (λv28 hv28=>(zbP (m:=true) (Ev.any (m:=true) (zaa (i:=7) rfl)) (zat (.eq (.eq (.eq (.eq (.eq (.eq (.no (.no .nil)))))))))))))))))))))⟩⟩) (λr29 hr29 hI hc=>(zak (zaC (zgX (zab (Ev.any (m:=true) (zaa (i:=2) rfl)) (zab (Ev.any (m:=true) (zaa (i:=4) rfl)) (zab (zaJ (x:=(r29.1-(r29.2.2.1*P0))) (y:=P1) (zaU (x:=r29.1) (y:=(r29.2.2.1*P0)) (Ev.any (m:=true) (zaa (i:=2) rfl)) (zaJ (x:=r29.2.2.1) (y:=P0) (Ev.any (m:=true) (zaa (i:=4) rfl)) (Ev.any (m:=false) (zaa (i:=0) rfl)) ↥(Lat.GI.mul3 (by assumption) hp))) (Ev.any (m:=false) (zaa (i:=1) rfl)) ↥(Lat.zjO.div hp)) zae))) (by show 3≤sizeLine;decide))))))))))
theorem zlK (a b:Int):zc1 a b=Lat.cmn a b:=rfl
def zbA (P0:Ji):Ji :=
 (bif (decide ((ixD P0 (zah P0))<(0:Int))) then (zan P0 (-(1:Int))) else P0)
def zcT (P0:Ji):Prop:=P0.length≤1000∧Lat.hd P0<P0.length
def zge (K:W.Frag) (A:Adr):Sp:=Spv (ι:=Ji) (λx=>[dL (List.map dI x)]) (λx=>zcT x) (λx=>⇑[dL (List.map dI (zbA x))])
theorem zk0:FnScope ["row"] ["row"] (zad zek):=⟨rfl,rfl,rfl,by decide+kernel,rfl,by decide+kernel,by decide+kernel⟩
theorem zln (F:Fun K "upright" "upright" zek f fd) (T:Txt K mg A) (yaa:Callee P w K mg base (CXE P w) 1 "head_of" ["row"] (zcb K A)) (yae:Callee P w K mg base (CXE P w) 1 "times" ["some","many"] (zeH K A)):FnOk P w K mg base (CXE P w) 2 f fd ["row"] (zge K A):=by
 refine F.okV zk0 (λ_=>rfl) (λcdv Ar outer s H E P0 hr hp=> ?_)
 have hu:=hr.units
 replace hp:zcT P0:=hp
 unfold zcT at hp
 refine ⟨_,(zac (zaN (zkJ (zaI ziU (zbk (zav (K:=K) rfl) (pv 0) (zaD yaa (hr.mono (by decide)) rfl zaB ↑[pv 0]) (λ_ _=>rfl)) zai (zaQ _)) (zaD yae (hr.mono (by decide)) rfl zaB ↑[pv 0,zn9 zj9 zai]) (pv 0))) zag),.inl ?_⟩
 show L2.Run _ ([⇑[dL (List.map dI P0)]]:L2.Ctx) _ ((λ(r:Ji)=>Oc.rt false (dL (List.map dI r))) (zbA P0))
 unfold zbA
 exact (zak (zaC (zru lI (b:=(decide ((ixD P0 (zah P0))<(0:Int)))) (x:=(zan P0 (-(1:Int)))) (y:=P0) (zau (zaU (x:=(ixD P0 (zah P0))) (y:=(0:Int)) (Ev.any (m:=false) (zci (f:=dI) (xs:=P0) (Ev.weak (K:=K) (zaa (i:=0) rfl)) (Ev.any (m:=true) (zal (x:=P0) (zab (Ev.weak (K:=K) (zaa (i:=0) rfl)) zae) rfl (by show zaY P0;exact trivial) rfl)) (by have:=hp.2;rw [zce];unfold InB;omega))) zaL)) (λhb=>(EvO.ev (EvO.anyI (m:=true) (zbG (x:=(P0,(-(1:Int)))) (zab (Ev.weak (K:=K) (zaa (i:=0) rfl)) (zab (zn8 (x:=(1:Int)) zaL) zae)) rfl (by show zbn P0 (-(1:Int));exact ⟨hp.1,λ_ _=>.inr (.inl ⟨by decide,by decide⟩)⟩) rfl)))) (λhb=>(zaa (i:=0) rfl)))))
theorem zhQ (l:Ji):zbA l=Lat.upr l:=by unfold zbA;rw [zce,Lat.zcq];rfl
theorem zkT (s x:Ji):Let (zah x) (λ(h:Int)=>Let ((ixD s h)/(ixD x h)) (λ(q:Int)=>Let (bif (!decide (q=(0:Int))) then (zeL s (zan x q)) else s) (λ(y:Ji)=>y)))=Lat.zj7 s x:=by
 unfold Let
 dsimp only
 rw [zce,Lat.zcq,Lat.zcq];rfl
section
variable {n s a b i:Nat} {l t:Ji} {h q:Int} {steps:Jq}
theorem zsi (T:Lat.Sd n s t) (e:h=(Lat.hd t:Int)) (hl:l.length=n∧Lat.Bit b l):InB l.length h:=Lat.zkC T e hl.1
theorem zkK (T:Lat.Sd n s t) (e:h=(Lat.hd t:Int)):InB t.length h:=Lat.zkC T e T.len
theorem zq8 (p1:n≤1000) (p6:a+steps.length*(s+1)+s≤50000000) (hx:steps[i]?=some t) (T:∀ t∈steps,Lat.Sd n s t) (hl:l.length=n∧Lat.Bit (a+i*(s+1)) l) (e:h=(Lat.hd t:Int)) (eq:q=ixD l h/ixD t h):zbn t q:=by
 have T1:=T t (List.mem_of_getElem? hx)
 exact ⟨by rw [T1.len];exact p1,Lat.zpC T1 e hl.2 eq (Lat.zps p6 ((List.getElem?_eq_some_iff.mp hx)).1)⟩
theorem zpQ (p1:n≤1000) (T:Lat.Sd n s t) (hl:l.length=n∧Lat.Bit b l):zeG l (zan t q):=⟨by rw [hl.1,show (zan t q).length=t.length from Lat.zba,T.len],by omega⟩
theorem zsN {sh:T3 Int Int Int} (e:h=(Lat.hd t:Int)) (T:Lat.Sd n s t) (h0:0<Lat.vec l (Lat.hd t)) (h1:Lat.vec l (Lat.hd t)<Lat.vec t (Lat.hd t)) (hs:sh=zc1 (ixD t h) (ixD l h)):0<sh.a∧sh.a.natAbs≤2^8981∧sh.b.natAbs≤2^8980∧sh.c.natAbs≤2^17962:=by
 subst hs
 exact Lat.zos (Lat.zlC T e h0 h1)
theorem zp6 {x y:Int} (p1:n≤1000) (h1:t.length=n) (h2:l.length=n):zdF (zan t x) (zan l y):=⟨by rw [show (zan t x).length=t.length from Lat.zba,show (zan l y).length=l.length from Lat.zba,h1,h2],by rw [show (zan t x).length=t.length from Lat.zba,h1];exact p1⟩
theorem zn7 {x y:Int} (p1:n≤1000) (h1:t.length=n) (h2:l.length=n):zeG (zan l x) (zan t y):=⟨by rw [show (zan t y).length=t.length from Lat.zba,show (zan l x).length=l.length from Lat.zba,h1,h2],by rw [show (zan l x).length=l.length from Lat.zba,h2];exact p1⟩
theorem zqf (e:h=(Lat.hd t:Int)) (T:Lat.Sd n s t):(ixD t h).natAbs≤2^8980:=by subst e;rw [Lat.zcq];exact T.top
theorem zpw (e:h=(Lat.hd t:Int)) (T:Lat.Sd n s t) (h0:0<Lat.vec l (Lat.hd t)) (h1:Lat.vec l (Lat.hd t)<Lat.vec t (Lat.hd t)):(ixD l h).natAbs≤2^8980:=by subst e;rw [Lat.zcq];have:=T.top;omega
end
def m_lowered (P0:Ji) (P1:Jq):Ji :=
 (Let (List.foldl (λ(s30:Ji) (x31:Ji)=>(Let (zah x31) (λ(hv35:Int)=>(Let ((ixD s30 hv35)/(ixD x31 hv35)) (λ(v36:Int)=>(Let (bif (!decide (v36=(0:Int))) then (zeL s30 (zan x31 v36)) else s30) (λ(v38:Ji)=>v38))))))) P0 P1) (λ(r39:Ji)=>r39))
def zcp (P0:Ji) (P1:Jq):Prop:=Lat.LowP P0 P1
def zeu (K:W.Frag) (A:Adr):Sp:=Spv (ι:=Ji×Jq) (λx=>[dQ K (List.map dI x.1),dQ K (List.map lI x.2)]) (λx=>zcp x.1 x.2) (λx=>↥[dL (List.map dI (m_lowered x.1 x.2))])
theorem zdI:FnScope ["row","steps","left","step","head","many"] ["row","steps"] (zad zem):=⟨rfl,rfl,rfl,by decide+kernel,rfl,by decide+kernel,by decide+kernel⟩
theorem zk4 (F:Fun K "lowered" "lowered" zem f fd) (T:Txt K mg A) (yaa:Callee P w K mg base (CXE P w) 1 "head_of" ["row"] (zcb K A)) (ya0:Callee P w K mg base (CXE P w) 2 "less" ["one","other"] (ziu K A)) (yae:Callee P w K mg base (CXE P w) 1 "times" ["some","many"] (zeH K A)):FnOk P w K mg base (CXE P w) 3 f fd ["row","steps"] (zeu K A):=by
 refine F.okV zdI (λ_=>rfl) (λcdv Ar outer s H E x hr hp=> ?_)
 obtain ⟨P0,P1⟩:=x
 have hu:=hr.units
 replace hp:zcp P0 P1:=hp
 unfold zcp at hp
 obtain ⟨N0,A0,S0,p1,p2,p3,p4,p5,p6⟩:=hp
 refine ⟨_,(zac (zar (i:=2) zdI.nd rfl (Or.inl rfl) (zdQ (zdS (K:=K) rfl) rfl T.list PyProof.Rows.boot_list ↑[pv 0])) (zac (zcE PassesOwn.never rfl (zaP (K:=K) rfl (pv 1)) (zao (i:=3) zdI.nd rfl (Or.inl rfl) (Or.inl rfl)) (zac (zar (i:=4) zdI.nd rfl (Or.inl rfl) (zaD yaa (hr.mono (by decide)) rfl zaB ↑[pv 3])) (zac (zar (i:=5) zdI.nd rfl (Or.inl rfl) (zax zcg (zbk (zav (K:=K) rfl) (pv 2) (pv 4) (λ_ _=>rfl)) (zbk (zav (K:=K) rfl) (pv 3) (pv 4) (λ_ _=>rfl)))) (zac (zcI (zaI zgq (pv 5) zai (zaQ _)) (zac (zar (i:=2) zdI.nd rfl (Or.inl rfl) (zaD ya0 (hr.mono (by decide)) rfl zaB ↑[pv 2,zaD yae (hr.mono (by decide)) rfl zaB ↑[pv 3,pv 5]])) zag) zag) zag)))) (zac (zaN (pv 2)) zag))),.inl ?_⟩
 show L2.Run _ ([⇑[dQ K (List.map dI P0)],⇑[dQ K (List.map lI P1)],.no,.no,.no,.no]:L2.Ctx) _ ((λ(r:Ji)=>Oc.rt true (dL (List.map dI r))) (m_lowered P0 P1))
 unfold m_lowered
 exact (zbP (m:=true) (EvO.ev (EvO.anyI (m:=false) (zg3 (zaa (i:=0) rfl)))) (zbO (s0:=P0) (λ(s30:Ji)=>([⇑[dQ K (List.map dI P0)],⇑[dQ K (List.map lI P1)],↥[dL (List.map dI s30)],.no,.no,.no]:L2.Ctx)) (λ(r:Ji)=>Oc.rt true (dL (List.map dI r))) (λ(s30:Ji) (x31:Ji)=>(Let (zah x31) (λ(hv35:Int)=>(Let ((ixD s30 hv35)/(ixD x31 hv35)) (λ(v36:Int)=>(Let (bif (!decide (v36=(0:Int))) then (zeL s30 (zan x31 v36)) else s30) (λ(v38:Ji)=>v38))))))) (λ(i:Nat) (s30:Ji)=>s30.length=N0∧Lat.Bit (A0+i*(S0+1)) s30) (zbi (m:=false) lI (xs:=P1) (zaa (i:=1) rfl)) (.eq (.eq (.eq (.eq (.eq (.eq .nil)))))) ↥(⟨p2,by simpa using p4⟩) (λi32 x31 s30 hx33 hI34=>have v33:=List.mem_of_getElem? hx33;⟨↥(Lat.zpq (p5 _ (by assumption)) (by assumption) (zkT _ _)),(zaq (m:=true) (x:=(zah x31)) dI (λz=>Oc.nx ((λ(s30:Ji)=>([⇑[dQ K (List.map dI P0)],⇑[dQ K (List.map lI P1)],↥[dL (List.map dI s30)],.no,.no,.no]:L2.Ctx)) z)) (Ev.any (m:=true) (zal (x:=x31) (zab (Ev.weak (K:=K) (zaa (i:=3) rfl)) zae) rfl (by show zaY x31;exact trivial) rfl)) (λhv35 hhead35=>have hH:=(hhead35).trans (zce _);(zaq (m:=true) (x:=((ixD s30 hv35)/(ixD x31 hv35))) dI (λz=>Oc.nx ((λ(s30:Ji)=>([⇑[dQ K (List.map dI P0)],⇑[dQ K (List.map lI P1)],↥[dL (List.map dI s30)],.no,.no,.no]:L2.Ctx)) z)) (zaJ (x:=(ixD s30 hv35)) (y:=(ixD x31 hv35)) (Ev.any (m:=true) (zci (f:=dI) (xs:=s30) (Ev.weak (K:=K) (zaa (i:=2) rfl)) (Ev.any (m:=true) (zaa (i:=4) rfl)) ↥(zsi (p5 _ (by assumption)) hH (by assumption)))) (Ev.any (m:=false) (zci (f:=dI) (xs:=x31) (Ev.weak (K:=K) (zaa (i:=3) rfl)) (Ev.any (m:=true) (zaa (i:=4) rfl)) ↥(zkK (p5 _ (by assumption)) hH))) ↥(Lat.zpO (p5 _ (by assumption)) hH)) (λv36 hv36=>(zdi (b:=(!decide (v36=(0:Int)))) (λbb=>([⇑[dQ K (List.map dI P0)],⇑[dQ K (List.map lI P1)],↥[dL (List.map dI (bif bb then (zeL s30 (zan x31 v36)) else s30))],⇑[dL (List.map dI x31)],↥[dI hv35],↥[dI v36]]:L2.Ctx)) (zau (zeK (x:=v36) (y:=(0:Int)) (Ev.any (m:=true) (zaa (i:=5) rfl)) zaL)) (λh37=>(zbP (m:=true) (EvO.ev (EvO.anyI (m:=true) (zbG (x:=(s30,(zan x31 v36))) (zab (Ev.old (Ev.weak (K:=K) (zaa (i:=2) rfl))) (zab (Ev.weak (K:=K) (EvO.ev (EvO.anyI (m:=true) (zbG (x:=(x31,v36)) (zab (Ev.weak (K:=K) (zaa (i:=3) rfl)) (zab (Ev.any (m:=true) (zaa (i:=5) rfl)) zae)) rfl (by show zbn x31 v36;exact zq8 p1 p6 (by assumption) p5 (by assumption) hH (by assumption)) rfl)))) zae)) rfl (by show zeG s30 (zan x31 v36);exact zpQ p1 (p5 _ (by assumption)) (by assumption)) rfl))) (zat (.eq (.eq (.eq (.eq (.eq (.eq .nil))))))))) (λh37=>(zat (.eq (.eq (.eq (.eq (.eq (.eq .nil)))))))) (zdb (x:=(bif (!decide (v36=(0:Int))) then (zeL s30 (zan x31 v36)) else s30)) (λv38=>([⇑[dQ K (List.map dI P0)],⇑[dQ K (List.map lI P1)],↥[dL (List.map dI v38)],⇑[dL (List.map dI x31)],↥[dI hv35],↥[dI v36]]:L2.Ctx)) (λz=>Oc.nx ((λ(s30:Ji)=>([⇑[dQ K (List.map dI P0)],⇑[dQ K (List.map lI P1)],↥[dL (List.map dI s30)],.no,.no,.no]:L2.Ctx)) z)) (λv38 hv38=>(zat (.eq (.eq (.eq (.no (.no (.no .nil))))))))))))))⟩) (λr39 hr39 hI=>(zak (zaC (zaa (i:=2) rfl))))))
theorem zdH (l:Ji) (ss:Jq):m_lowered l ss=Lat.low l ss:=by
 unfold m_lowered
 show List.foldl _ l ss=List.foldl Lat.zj7 l ss
 congr 1
 funext s x
 exact zkT s x
def zbh (P0:Ji) (P1:Ji):(Ji×Ji) :=
 (Let (zah P0) (λ(hv40:Int)=>(Let (zc1 (ixD P0 hv40) (ixD P1 hv40)) (λ(v41:(T3 Int Int Int))=>(Let (zbU (zan P0 v41.b) (zan P1 v41.c)) (λ(v42:Ji)=>(Let (zeL (zan P1 ((ixD P0 hv40)/v41.a)) (zan P0 ((ixD P1 hv40)/v41.a))) (λ(v43:Ji)=>(v42,v43)))))))))
def zfi (P0:Ji) (P1:Ji):Prop:=Lat.MrgP P0 P1
def zhn (K:W.Frag) (A:Adr):Sp:=Spv (ι:=Ji×Ji) (λx=>[dQ K (List.map dI x.1),dQ K (List.map dI x.2)]) (λx=>zfi x.1 x.2) (λx=>↥[dT [dL (List.map dI ((zbh x.1 x.2).1)),dL (List.map dI ((zbh x.1 x.2).2))]])
theorem zeZ:FnScope ["step","row","head","shared","first","second"] ["step","row"] (zad zfp):=⟨rfl,rfl,rfl,by decide+kernel,rfl,by decide+kernel,by decide+kernel⟩
theorem zm2 (F:Fun K "merged" "merged" zfp f fd) (T:Txt K mg A) (ybx:Callee P w K mg base (CXE P w) 1 "common" ["one","other"] (zhh K A)) (yaa:Callee P w K mg base (CXE P w) 1 "head_of" ["row"] (zcb K A)) (ya0:Callee P w K mg base (CXE P w) 2 "less" ["one","other"] (ziu K A)) (yaN:Callee P w K mg base (CXE P w) 2 "plus" ["one","other"] (ziz K A)) (yae:Callee P w K mg base (CXE P w) 1 "times" ["some","many"] (zeH K A)):FnOk P w K mg base (CXE P w) 3 f fd ["step","row"] (zhn K A):=by
 refine F.okV zeZ (λ_=>rfl) (λcdv Ar outer s H E x hr hp=> ?_)
 obtain ⟨P0,P1⟩:=x
 have hu:=hr.units
 replace hp:zfi P0 P1:=hp
 unfold zfi at hp
 obtain ⟨N0,A0,S0,p1,p2,p3,p4,p5,p6,p7⟩:=hp
 refine ⟨_,(zac (zar (i:=2) zeZ.nd rfl (Or.inl rfl) (zaD yaa (hr.mono (by decide)) rfl zaB ↑[pv 0])) (zac (zar (i:=3) zeZ.nd rfl (Or.inl rfl) (zaD ybx (hr.mono (by decide)) rfl zaB ↑[(zbk (zav (K:=K) rfl) (pv 0) (pv 2) (λ_ _=>rfl)),(zbk (zav (K:=K) rfl) (pv 1) (pv 2) (λ_ _=>rfl))])) (zac (zar (i:=4) zeZ.nd rfl (Or.inl rfl) (zaD yaN (hr.mono (by decide)) rfl zaB ↑[(zaD yae (hr.mono (by decide)) rfl zaB ↑[pv 0,(zbk (zch (K:=K) rfl) (pv 3) zai (λ_ _=>rfl))]),(zaD yae (hr.mono (by decide)) rfl zaB ↑[pv 1,(zbk (zch (K:=K) rfl) (pv 3) zai (λ_ _=>rfl))])])) (zac (zar (i:=5) zeZ.nd rfl (Or.inl rfl) (zaD ya0 (hr.mono (by decide)) rfl zaB ↑[(zaD yae (hr.mono (by decide)) rfl zaB ↑[pv 1,(zax zcg (zbk (zav (K:=K) rfl) (pv 0) (pv 2) (λ_ _=>rfl)) (zbk (zch (K:=K) rfl) (pv 3) zai (λ_ _=>rfl)))]),(zaD yae (hr.mono (by decide)) rfl zaB ↑[pv 0,(zax zcg (zbk (zav (K:=K) rfl) (pv 1) (pv 2) (λ_ _=>rfl)) (zbk (zch (K:=K) rfl) (pv 3) zai (λ_ _=>rfl)))])])) (zac (zaN (zho ↑[pv 4,pv 5])) zag))))),.inl ?_⟩
 show L2.Run _ ([⇑[dQ K (List.map dI P0)],⇑[dQ K (List.map dI P1)],.no,.no,.no,.no]:L2.Ctx) _ ((λ(r:(Ji×Ji))=>Oc.rt true (dT [dL (List.map dI r.1),dL (List.map dI r.2)])) (zbh P0 P1))
 unfold zbh
 exact (zaq (m:=true) (x:=(zah P0)) dI (λ(r:(Ji×Ji))=>Oc.rt true (dT [dL (List.map dI r.1),dL (List.map dI r.2)])) (Ev.any (m:=true) (zal (x:=P0) (zab (zaa (i:=0) rfl) zae) rfl (by show zaY P0;exact trivial) rfl)) (λhv40 hhead40=>have hH:=(hhead40).trans (zce _);(zaq (m:=true) (x:=(zc1 (ixD P0 hv40) (ixD P1 hv40))) (λ(p:(T3 Int Int Int))=>dT [dI p.a,dI p.b,dI p.c]) (λ(r:(Ji×Ji))=>Oc.rt true (dT [dL (List.map dI r.1),dL (List.map dI r.2)])) (zal (x:=((ixD P0 hv40),(ixD P1 hv40))) (zab (Ev.any (m:=false) (zci (f:=dI) (xs:=P0) (zaa (i:=0) rfl) (Ev.any (m:=true) (zaa (i:=2) rfl)) ↥(zkK p2 hH))) (zab (Ev.any (m:=false) (zci (f:=dI) (xs:=P1) (zaa (i:=1) rfl) (Ev.any (m:=true) (zaa (i:=2) rfl)) ↥(Lat.zkC p2 hH p3))) zae)) rfl (by show ze5 (ixD P0 hv40) (ixD P1 hv40);exact Lat.zlC p2 hH p5 p6) rfl) (λv41 hv41=>have hC:=zsN hH p2 p5 p6 hv41;(zaq (m:=true) (x:=(zbU (zan P0 v41.b) (zan P1 v41.c))) lI (λ(r:(Ji×Ji))=>Oc.rt true (dT [dL (List.map dI r.1),dL (List.map dI r.2)])) (EvO.ev (EvO.anyI (m:=true) (zbG (x:=((zan P0 v41.b),(zan P1 v41.c))) (zab (Ev.weak (K:=K) (EvO.ev (EvO.anyI (m:=true) (zbG (x:=(P0,v41.b)) (zab (zaa (i:=0) rfl) (zab (Ev.any (m:=true) (zdD (zaa (i:=3) rfl) zaL rfl)) zae)) rfl (by show zbn P0 v41.b;exact ⟨by rw [p2.len];exact p1,Lat.zij p2.bit hC.2.2.1 (by omega) (by decide)⟩) rfl)))) (zab (Ev.weak (K:=K) (EvO.ev (EvO.anyI (m:=true) (zbG (x:=(P1,v41.c)) (zab (zaa (i:=1) rfl) (zab (Ev.any (m:=true) (zdD (zaa (i:=3) rfl) zaL rfl)) zae)) rfl (by show zbn P1 v41.c;exact ⟨by rw [p3];exact p1,Lat.zij p4 hC.2.2.2 (by omega) (by decide)⟩) rfl)))) zae)) rfl (by show zdF (zan P0 v41.b) (zan P1 v41.c);exact zp6 p1 p2.len p3) rfl))) (λv42 hv42=>(zaq (m:=true) (x:=(zeL (zan P1 ((ixD P0 hv40)/v41.a)) (zan P0 ((ixD P1 hv40)/v41.a)))) lI (λ(r:(Ji×Ji))=>Oc.rt true (dT [dL (List.map dI r.1),dL (List.map dI r.2)])) (EvO.ev (EvO.anyI (m:=true) (zbG (x:=((zan P1 ((ixD P0 hv40)/v41.a)),(zan P0 ((ixD P1 hv40)/v41.a)))) (zab (Ev.weak (K:=K) (EvO.ev (EvO.anyI (m:=true) (zbG (x:=(P1,((ixD P0 hv40)/v41.a))) (zab (zaa (i:=1) rfl) (zab (zaJ (x:=(ixD P0 hv40)) (y:=v41.a) (Ev.any (m:=false) (zci (f:=dI) (xs:=P0) (zaa (i:=0) rfl) (Ev.any (m:=true) (zaa (i:=2) rfl)) ↥(zkK p2 hH))) (Ev.any (m:=true) (zdD (zaa (i:=3) rfl) zaL rfl)) ↥(Lat.zg6.of hC.1 hC.2.1 (by decide))) zae)) rfl (by show zbn P1 ((ixD P0 hv40)/v41.a);exact ⟨by rw [p3];exact p1,Lat.zij p4 (Lat.zgv hC.1 (zqf hH p2)) (by omega) (by decide)⟩) rfl)))) (zab (Ev.weak (K:=K) (EvO.ev (EvO.anyI (m:=true) (zbG (x:=(P0,((ixD P1 hv40)/v41.a))) (zab (zaa (i:=0) rfl) (zab (zaJ (x:=(ixD P1 hv40)) (y:=v41.a) (Ev.any (m:=false) (zci (f:=dI) (xs:=P1) (zaa (i:=1) rfl) (Ev.any (m:=true) (zaa (i:=2) rfl)) ↥(Lat.zkC p2 hH p3))) (Ev.any (m:=true) (zdD (zaa (i:=3) rfl) zaL rfl)) ↥(Lat.zg6.of hC.1 hC.2.1 (by decide))) zae)) rfl (by show zbn P0 ((ixD P1 hv40)/v41.a);exact ⟨by rw [p2.len];exact p1,Lat.zij p2.bit (Lat.zgv hC.1 (zpw hH p2 p5 p6)) (by omega) (by decide)⟩) rfl)))) zae)) rfl (by show zeG (zan P1 ((ixD P0 hv40)/v41.a)) (zan P0 ((ixD P1 hv40)/v41.a));exact zn7 p1 p2.len p3) rfl))) (λv43 hv43=>(zak (zaC (zgX (zab (zaa (i:=4) rfl) (zab (zaa (i:=5) rfl) zae)) (by show 2≤sizeLine;decide))))))))))))
theorem zhu (s l:Ji):zbh s l=Lat.mrg s l:=by
 unfold zbh Let
 dsimp only
 rw [zce,Lat.zcq,Lat.zcq,zlK];rfl
section
variable {n s a i:Nat} {l row:Ji} {steps:Jq} {st:Lat.TS2} {x:Int×Ji}
theorem zqg (p1:n≤1000) (p2:Lat.Ech n 0 steps) (p3:∀ t∈steps,Lat.Sd n s t) (p4:row.length=n) (p5:Lat.Bit a row) (p6:steps.length≤100) (p7:a+(steps.length+2)*((steps.length+1)*(s+9000))+s≤40000000):Lat.LowP row steps:=by
 refine ⟨n,a,s,p1,p4,by omega,p5,p3,?_⟩
 have e2:steps.length*(s+1)≤(steps.length+1)*(s+9000):=Nat.mul_le_mul (by omega) (by omega)
 rw [Nat.add_mul steps.length 2] at p7
 omega
theorem zoo (p1:n≤1000) (I:Lat.TI steps n a s i st) (T:Lat.Sd n s x.2) (h:decide (zah st.2<zah x.2)=true):zcT st.2:=by
 rw [zce,zce] at h
 simp only [decide_eq_true_eq] at h
 have:=T.hd;have:=I.len
 exact ⟨by omega,by omega⟩
theorem zoE (p1:n≤1000) (I:Lat.TI steps n a s i st) (h:decide (zah st.2<((st.2.length:Nat):Int))=true):zcT st.2:=by
 rw [zce] at h
 simp only [decide_eq_true_eq] at h
 have:=I.len
 exact ⟨by omega,by omega⟩
theorem zre (h:decide (zah st.2=zah x.2)=true):Lat.hd st.2=Lat.hd x.2:=by
 rw [zce,zce] at h
 simp only [decide_eq_true_eq] at h
 omega
theorem zrd (I:Lat.TI steps n a s i st) (hx:i<steps.length∧x.1=(i:Int)∧steps[i]?=some x.2) (p6:steps.length≤100):st.1.length<PySem.sizeLine:=Nat.lt_of_le_of_lt (show _≤1000 by have:=I.g;omega) (by decide)
theorem zqH (I:Lat.TI steps n a s (zdE steps).length st) (p6:steps.length≤100):st.1.length<PySem.sizeLine:=Nat.lt_of_le_of_lt (show _≤1000 by have:=I.g;rw [zfU] at this;omega) (by decide)
theorem zpc {y:Ji} (I:Lat.TI steps n a s i st) (hx:i<steps.length∧x.1=(i:Int)∧steps[i]?=some x.2) (p6:steps.length≤100):st.1.length+[y].length≤PySem.sizeLine:=by
 apply zap
 have:=I.g
 simp;omega
theorem zoV {lo hi:Option Int}:(zct steps lo hi).length≤steps.length:=by
 unfold zct;rw [List.length_take,List.length_drop];omega
theorem zp3 {y:Ji} {lo hi:Option Int} (I:Lat.TI steps n a s i st) (hx:i<steps.length∧x.1=(i:Int)∧steps[i]?=some x.2) (p6:steps.length≤100):(st.1++[y]).length+(zct steps lo hi).length≤PySem.sizeLine:=by
 apply zap
 have:=I.g
 have:=zoV (steps:=steps) (lo:=lo) (hi:=hi)
 simp;omega
end
def m_taken_in (P0:Jq) (P1:Ji):Jq :=
 (Let (m_lowered P1 P0) (λ(v44:Ji)=>(zjn (zbE (λ(s54:Jq×Ji) (x55:(Int×Ji))=>(((bif (decide ((zah s54.2)<(zah x55.2))) then (Sum.inr ((s54.1++[(zbA s54.2)])++(zct P0 (some x55.1) none))) else (Let (bif (decide ((zah s54.2)=(zah x55.2))) then (s54.1++[(zbh x55.2 s54.2).1]) else (s54.1++[x55.2])) (λ(v61:Jq)=>(Let (bif (decide ((zah s54.2)=(zah x55.2))) then (m_lowered ((zbh x55.2 s54.2).2) (zct P0 (some (x55.1+(1:Int))) none)) else s54.2) (λ(v62:Ji)=>(Sum.inl (v61,v62)))))))):(Jq×Ji)⊕Jq)) ([],v44) (zdE P0)) (λ(r63:Jq×Ji)=>(Let (bif (decide ((zah r63.2)<((r63.2.length:Nat):Int))) then (r63.1++[(zbA r63.2)]) else r63.1) (λ(v65:Jq)=>v65))) (λb=>b))))
def zdX (P0:Jq) (P1:Ji):Prop:=Lat.TinP P0 P1
def zfL (K:W.Frag) (A:Adr):Sp:=Spv (ι:=Jq×Ji) (λx=>[dQ K (List.map lI x.1),dQ K (List.map dI x.2)]) (λx=>zdX x.1 x.2) (λx=>⇑[dL (List.map lI (m_taken_in x.1 x.2))])
theorem zcS:FnScope ["steps","row","loose","grown","place","step","pair"] ["steps","row"] (zad zdL):=⟨rfl,rfl,rfl,by decide+kernel,rfl,by decide+kernel,by decide+kernel⟩
theorem zjr (F:Fun K "taken_in" "taken_in" zdL f fd) (T:Txt K mg A) (yaa:Callee P w K mg base (CXE P w) 1 "head_of" ["row"] (zcb K A)) (yai:Callee P w K mg base (CXE P w) 3 "lowered" ["row","steps"] (zeu K A)) (yby:Callee P w K mg base (CXE P w) 3 "merged" ["step","row"] (zhn K A)) (yaT:Callee P w K mg base (CXE P w) 2 "upright" ["row"] (zge K A)):FnOk P w K mg base (CXE P w) 4 f fd ["steps","row"] (zfL K A):=by
 refine F.okV zcS (λ_=>rfl) (λcdv Ar outer s H E x hr hp=> ?_)
 obtain ⟨P0,P1⟩:=x
 have hu:=hr.units
 replace hp:zdX P0 P1:=hp
 unfold zdX at hp
 obtain ⟨N0,A0,S0,p1,p2,p3,p4,p5,p6,p7⟩:=hp
 refine ⟨_,(zac (zar (i:=2) zcS.nd rfl (Or.inl rfl) (zaD yai (hr.mono (by decide)) rfl zaB ↑[pv 1,pv 0])) (zac (zar (i:=3) zcS.nd rfl (Or.inl rfl) (zcf zdW)) (zac (zcE PassesOwn.never rfl (zgr rfl rfl T.enumerate ↑[pv 0]) (zbJ (K:=K) (n:=2) rfl rfl (zaF (zao (i:=4) zcS.nd rfl (Or.inl rfl) (Or.inl rfl)) (zaF (zao (i:=5) zcS.nd rfl (Or.inl rfl) (Or.inl rfl)) zcj))) (zac (zcI (zaI ziU (zaD yaa (hr.mono (by decide)) rfl zaB ↑[pv 2]) (zaD yaa (hr.mono (by decide)) rfl zaB ↑[pv 5]) (zaQ _)) (zac (zaN (zax zdO (zax zdO (pv 3) (zcf ↑[zaD yaT (hr.mono (by decide)) rfl zaB ↑[pv 2]])) (zcM (zb9 (K:=K) rfl) (pv 0) (zcF (pv 4)) zeQ))) zag) zag) (zac (zcI (zaI zf0 (zaD yaa (hr.mono (by decide)) rfl zaB ↑[pv 2]) (zaD yaa (hr.mono (by decide)) rfl zaB ↑[pv 5]) (zaQ _)) (zac (zar (i:=6) zcS.nd rfl (Or.inl rfl) (zaD yby (hr.mono (by decide)) rfl zaB ↑[pv 5,pv 2])) (zac (zcG (zbZ (K:=K) rfl (pv 3) ↑[(zbk (zch (K:=K) rfl) (pv 6) zai (λ_ _=>rfl))])) (zac (zar (i:=2) zcS.nd rfl (Or.inl rfl) (zaD yai (hr.mono (by decide)) rfl zaB ↑[(zbk (zch (K:=K) rfl) (pv 6) zai (λ_ _=>rfl)),(zcM (zb9 (K:=K) rfl) (pv 0) (zcF (zax zcZ (pv 4) zai)) zeQ)])) zag))) (zac (zcG (zbZ (K:=K) rfl (pv 3) ↑[pv 5])) zag)) zag))) (zac (zcI (zaI ziU (zaD yaa (hr.mono (by decide)) rfl zaB ↑[pv 2]) (za3 (zaR (K:=K) rfl) rfl T.len PySem.boot_len ↑[pv 2]) (zaQ _)) (zac (zcG (zbZ (K:=K) rfl (pv 3) ↑[zaD yaT (hr.mono (by decide)) rfl zaB ↑[pv 2]])) zag) zag) (zac (zaN (pv 3)) zag))))),.inl ?_⟩
 show L2.Run _ ([⇑[dQ K (List.map lI P0)],⇑[dQ K (List.map dI P1)],.no,.no,.no,.no,.no]:L2.Ctx) _ ((λ(r:Jq)=>Oc.rt false (dL (List.map lI r))) (m_taken_in P0 P1))
 unfold m_taken_in
 exact (zaq (m:=true) (x:=(m_lowered P1 P0)) lI (λ(r:Jq)=>Oc.rt false (dL (List.map lI r))) (zal (x:=(P1,P0)) (zab (zaa (i:=1) rfl) (zab (zaa (i:=0) rfl) zae)) rfl (by show zcp P1 P0;exact zqg p1 p2 p3 p4 p5 p6 p7) rfl) (λv44 hv44=>have hL:=(hv44).trans (zdH _ _);(zey (m:=true) (ds:=List.map lI []) (zdu (m:=true) zae) (zfa (s0:=([],v44)) (λ(s54:Jq×Ji)=>([⇑[dQ K (List.map lI P0)],⇑[dQ K (List.map dI P1)],↥[dL (List.map dI s54.2)],.ow false (List.map lI s54.1),.no,.no,.no]:L2.Ctx)) (λ(r:Jq)=>Oc.rt false (dL (List.map lI r))) (λb=>b) (λ(s54:Jq×Ji) (x55:(Int×Ji))=>(((bif (decide ((zah s54.2)<(zah x55.2))) then (Sum.inr ((s54.1++[(zbA s54.2)])++(zct P0 (some x55.1) none))) else (Let (bif (decide ((zah s54.2)=(zah x55.2))) then (s54.1++[(zbh x55.2 s54.2).1]) else (s54.1++[x55.2])) (λ(v61:Jq)=>(Let (bif (decide ((zah s54.2)=(zah x55.2))) then (m_lowered ((zbh x55.2 s54.2).2) (zct P0 (some (x55.1+(1:Int))) none)) else s54.2) (λ(v62:Ji)=>(Sum.inl (v61,v62)))))))):(Jq×Ji)⊕Jq)) (λ(i:Nat) (s54:Jq×Ji)=>Lat.TI P0 N0 A0 S0 i s54) (λb=> .inl ⟨_,_,rfl⟩) (zgd (m:=false) lI (xs:=P0) (zaa (i:=0) rfl)) (.eq (.eq (.eq (.oldL (.eq (.eq (.eq .nil))))))) (by rw [hL];exact Lat.TI.start p2 p3 p4 p5) (λi56 x55 s54 hx57 hI58=>have v57:=zcK hx57;⟨(by intro z hz;simp only [zce,zhQ,zhu,zdH] at hz;exact Lat.TI.step (by assumption) p2 p3 (by assumption) hz),(zbc (b:=(decide ((zah s54.2)<(zah x55.2)))) (zf7 (λ(s54:Jq×Ji)=>([⇑[dQ K (List.map lI P0)],⇑[dQ K (List.map dI P1)],↥[dL (List.map dI s54.2)],.ow false (List.map lI s54.1),.no,.no,.no]:L2.Ctx)) (λ(r:Jq)=>Oc.rt false (dL (List.map lI r)))) (zau (zaU (x:=(zah s54.2)) (y:=(zah x55.2)) (Ev.any (m:=true) (zal (x:=s54.2) (zab (Ev.old (Ev.weak (K:=K) (zaa (i:=2) rfl))) zae) rfl (by show zaY s54.2;exact trivial) rfl)) (Ev.any (m:=true) (zal (x:=x55.2) (zab (Ev.weak (K:=K) (zaa (i:=5) rfl)) zae) rfl (by show zaY x55.2;exact trivial) rfl)))) (λh59=>(zaG (zcl (i:=3) rfl (zak (zaC (EvO.ev (zcP (f:=lI) (xs:=(s54.1++[(zbA s54.2)])) (ys:=(zct P0 (some x55.1) none)) (EvO.ev (zcP (f:=lI) (xs:=s54.1) (ys:=[(zbA s54.2)]) (zaa (i:=3) rfl) (EvO.ev (zc5 (zab (zal (x:=s54.2) (zab (Ev.old (zaa (i:=2) rfl)) zae) rfl (by show zcT s54.2;first | exact zoo p1 (by assumption) (p3 _ (Lat.TI.mem (by assumption)).1) (by assumption) | exact zoE p1 (by assumption) (by assumption)) rfl) zae) (by show 1≤sizeLine;decide))) ↥(zpc (by assumption) (by assumption) p6))) (EvO.ev (zdx (f:=lI) (xs:=P0) (zaa (i:=0) rfl) (zbN (Ev.any (m:=false) (zaa (i:=4) rfl))) zd2)) ↥(zp3 (by assumption) (by assumption) p6)))))))) (λh59=>(zaz (zdi (b:=(decide ((zah s54.2)=(zah x55.2)))) (λbb=>([⇑[dQ K (List.map lI P0)],⇑[dQ K (List.map dI P1)],↥[dL (List.map dI (bif bb then (m_lowered ((zbh x55.2 s54.2).2) (zct P0 (some (x55.1+(1:Int))) none)) else s54.2))],.ow false (List.map lI (bif bb then (s54.1++[((zbh x55.2 s54.2)).1]) else (s54.1++[x55.2]))),⇑[dI x55.1],⇑[dL (List.map dI x55.2)],.no]:L2.Ctx)) (zau (zd5 (x:=(zah s54.2)) (y:=(zah x55.2)) (Ev.any (m:=true) (zal (x:=s54.2) (zab (Ev.old (Ev.weak (K:=K) (zaa (i:=2) rfl))) zae) rfl (by show zaY s54.2;exact trivial) rfl)) (Ev.any (m:=true) (zal (x:=x55.2) (zab (Ev.weak (K:=K) (zaa (i:=5) rfl)) zae) rfl (by show zaY x55.2;exact trivial) rfl)))) (λh60=>(zbP (m:=true) (zal (x:=(x55.2,s54.2)) (zab (Ev.weak (K:=K) (zaa (i:=5) rfl)) (zab (Ev.old (Ev.weak (K:=K) (zaa (i:=2) rfl))) zae)) rfl (by show zfi x55.2 s54.2;exact Lat.TI.mrg (by assumption) p1 p3 (by assumption) (zre (by assumption)) p7) rfl) (zb1 (f:=lI) (xs:=s54.1) (x:=((zbh x55.2 s54.2)).1) rfl (Ev.old (zdD (zaa (i:=6) rfl) zaL rfl)) ↥(zrd (by assumption) (by assumption) p6) (zbP (m:=true) (zal (x:=(((zbh x55.2 s54.2)).2,(zct P0 (some (x55.1+(1:Int))) none))) (zab (Ev.old (Ev.weak (K:=K) (zdD (zaa (i:=6) rfl) zaL rfl))) (zab (Ev.weak (K:=K) (EvO.ev (zdx (f:=lI) (xs:=P0) (zaa (i:=0) rfl) (zbN (zaU (x:=x55.1) (y:=(1:Int)) (Ev.any (m:=false) (zaa (i:=4) rfl)) zaL)) zd2))) zae)) rfl (by show zcp (((zbh x55.2 s54.2)).2) (zct P0 (some (x55.1+(1:Int))) none);unfold zcp;rw [zhu];exact Lat.TI.low (by assumption) p1 p6 p3 (by assumption) (zre (by assumption)) p7) rfl) (zat (.eq (.eq (.eq (.eq (.eq (.eq (.no .nil)))))))))))) (λh60=>(zb1 (f:=lI) (xs:=s54.1) (x:=x55.2) rfl (zaa (i:=5) rfl) ↥(zrd (by assumption) (by assumption) p6) (zat (.eq (.eq (.eq (.eq (.eq (.eq (.eq .nil)))))))))) (zdb (x:=(bif (decide ((zah s54.2)=(zah x55.2))) then (s54.1++[((zbh x55.2 s54.2)).1]) else (s54.1++[x55.2]))) (λv61=>([⇑[dQ K (List.map lI P0)],⇑[dQ K (List.map dI P1)],↥[dL (List.map dI (bif (decide ((zah s54.2)=(zah x55.2))) then (m_lowered ((zbh x55.2 s54.2).2) (zct P0 (some (x55.1+(1:Int))) none)) else s54.2))],.ow false (List.map lI v61),⇑[dI x55.1],⇑[dL (List.map dI x55.2)],.no]:L2.Ctx)) (zf7 (λ(s54:Jq×Ji)=>([⇑[dQ K (List.map lI P0)],⇑[dQ K (List.map dI P1)],↥[dL (List.map dI s54.2)],.ow false (List.map lI s54.1),.no,.no,.no]:L2.Ctx)) (λ(r:Jq)=>Oc.rt false (dL (List.map lI r)))) (λv61 hv61=>(zdb (x:=(bif (decide ((zah s54.2)=(zah x55.2))) then (m_lowered ((zbh x55.2 s54.2).2) (zct P0 (some (x55.1+(1:Int))) none)) else s54.2)) (λv62=>([⇑[dQ K (List.map lI P0)],⇑[dQ K (List.map dI P1)],↥[dL (List.map dI v62)],.ow false (List.map lI v61),⇑[dI x55.1],⇑[dL (List.map dI x55.2)],.no]:L2.Ctx)) (zf7 (λ(s54:Jq×Ji)=>([⇑[dQ K (List.map lI P0)],⇑[dQ K (List.map dI P1)],↥[dL (List.map dI s54.2)],.ow false (List.map lI s54.1),.no,.no,.no]:L2.Ctx)) (λ(r:Jq)=>Oc.rt false (dL (List.map lI r)))) (λv62 hv62=>(zat (.eq (.eq (.eq (.eq (.no (.no (.eq .nil))))))))))))))))⟩) (λr63 hr63 hI=>(zdi (b:=(decide ((zah r63.2)<((r63.2.length:Nat):Int)))) (λbb=>([⇑[dQ K (List.map lI P0)],⇑[dQ K (List.map dI P1)],↥[dL (List.map dI r63.2)],.ow false (List.map lI (bif bb then (r63.1++[(zbA r63.2)]) else r63.1)),.no,.no,.no]:L2.Ctx)) (zau (zaU (x:=(zah r63.2)) (y:=((r63.2.length:Nat):Int)) (Ev.any (m:=true) (zal (x:=r63.2) (zab (Ev.old (Ev.weak (K:=K) (zaa (i:=2) rfl))) zae) rfl (by show zaY r63.2;exact trivial) rfl)) (zco (f:=dI) (xs:=r63.2) (Ev.old (Ev.weak (K:=K) (zaa (i:=2) rfl)))))) (λh64=>(zb1 (f:=lI) (xs:=r63.1) (x:=(zbA r63.2)) rfl (zal (x:=r63.2) (zab (Ev.old (zaa (i:=2) rfl)) zae) rfl (by show zcT r63.2;first | exact zoo p1 (by assumption) (p3 _ (Lat.TI.mem (by assumption)).1) (by assumption) | exact zoE p1 (by assumption) (by assumption)) rfl) ↥(zqH (by assumption) p6) (zat (.eq (.eq (.eq (.eq (.eq (.eq (.eq .nil)))))))))) (λh64=>(zat (.eq (.eq (.eq (.eq (.eq (.eq (.eq .nil))))))))) (zdb (x:=(bif (decide ((zah r63.2)<((r63.2.length:Nat):Int))) then (r63.1++[(zbA r63.2)]) else r63.1)) (λv65=>([⇑[dQ K (List.map lI P0)],⇑[dQ K (List.map dI P1)],↥[dL (List.map dI r63.2)],.ow false (List.map lI v65),.no,.no,.no]:L2.Ctx)) (λ(r:Jq)=>Oc.rt false (dL (List.map lI r))) (λv65 hv65=>(zcl (i:=3) rfl (zak (zaC (zaa (i:=3) rfl))))))))))))
theorem zh8 (ss:Jq) (l:Ji):m_taken_in ss l=Lat.tin Lat.MG ss (Lat.low l ss):=by
 unfold m_taken_in
 simp only [zce,zhQ,zhu,zdH]
 exact Lat.ztn ss _
theorem zpY (x:Ji) (fl:Jq):Let ([(m_lowered x fl)]++fl) (λ(y:Jq)=>y)=[Lat.low x fl]++fl:=by unfold Let;rw [zdH]
theorem zqD {steps fl:Jq} {i:Nat} {x y:Ji} (h:Lat.zo2 steps) (hx:steps.reverse[i]?=some x) (e:fl=Lat.stl (steps.drop (steps.length-i))):[y].length+fl.length≤PySem.sizeLine:=by
 obtain ⟨j,h1,_⟩:=Lat.zjN hx
 have:=Lat.zq0 h (by omega) e
 apply zap
 simp;omega
def zcm (P0:Jq):Jq :=
 (Let (List.foldl (λ(s66:Jq) (x67:Ji)=>(Let ([(m_lowered x67 s66)]++s66) (λ(v71:Jq)=>v71))) [] (List.reverse P0)) (λ(r72:Jq)=>r72))
def zdT (P0:Jq):Prop:=Lat.zo2 P0
def zgx (K:W.Frag) (A:Adr):Sp:=Spv (ι:=Jq) (λx=>[dQ K (List.map lI x)]) (λx=>zdT x) (λx=>↥[dL (List.map lI (zcm x))])
theorem zfo:FnScope ["steps","flat","step"] ["steps"] (zad zes):=⟨rfl,rfl,rfl,by decide+kernel,rfl,by decide+kernel,by decide+kernel⟩
theorem zlc (F:Fun K "settled" "settled" zes f fd) (T:Txt K mg A) (yai:Callee P w K mg base (CXE P w) 3 "lowered" ["row","steps"] (zeu K A)):FnOk P w K mg base (CXE P w) 4 f fd ["steps"] (zgx K A):=by
 refine F.okV zfo (λ_=>rfl) (λcdv Ar outer s H E P0 hr hp=> ?_)
 have hu:=hr.units
 replace hp:zdT P0:=hp
 unfold zdT at hp
 refine ⟨_,(zac (zar (i:=1) zfo.nd rfl (Or.inl rfl) (zcf zdW)) (zac (zcE PassesOwn.never rfl (zoO rfl rfl T.reversed ↑[pv 0]) (zao (i:=2) zfo.nd rfl (Or.inl rfl) (Or.inl rfl)) (zac (zar (i:=1) zfo.nd rfl (Or.inl rfl) (zax zdO (zcf ↑[zaD yai (hr.mono (by decide)) rfl zaB ↑[pv 2,pv 1]]) (pv 1))) zag)) (zac (zaN (pv 1)) zag))),.inl ?_⟩
 show L2.Run _ ([⇑[dQ K (List.map lI P0)],.no,.no]:L2.Ctx) _ ((λ(r:Jq)=>Oc.rt true (dL (List.map lI r))) (zcm P0))
 unfold zcm
 exact (zbP (m:=true) (EvO.ev (zdu (m:=true) zae)) (zbO (s0:=[]) (λ(s66:Jq)=>([⇑[dQ K (List.map lI P0)],↥[dL (List.map lI s66)],.no]:L2.Ctx)) (λ(r:Jq)=>Oc.rt true (dL (List.map lI r))) (λ(s66:Jq) (x67:Ji)=>(Let ([(m_lowered x67 s66)]++s66) (λ(v71:Jq)=>v71))) (λ(i:Nat) (s66:Jq)=>s66=Lat.stl (P0.drop (P0.length-i))) (zol (m:=false) lI (xs:=P0) (zaa (i:=0) rfl)) (.eq (.eq (.eq .nil))) (by simp [Lat.stl]) (λi68 x67 s66 hx69 hI70=>have v69:=List.mem_of_getElem? hx69;⟨↥(Lat.zo1 (by assumption) (by assumption) (zpY _ _)),(zaq (m:=true) (x:=([(m_lowered x67 s66)]++s66)) (λ(xs:Jq)=>dL (List.map lI xs)) (λz=>Oc.nx ((λ(s66:Jq)=>([⇑[dQ K (List.map lI P0)],↥[dL (List.map lI s66)],.no]:L2.Ctx)) z)) (EvO.ev (zcP (f:=lI) (xs:=[(m_lowered x67 s66)]) (ys:=s66) (EvO.ev (zc5 (zab (zal (x:=(x67,s66)) (zab (Ev.weak (K:=K) (zaa (i:=2) rfl)) (zab (Ev.old (Ev.weak (K:=K) (zaa (i:=1) rfl))) zae)) rfl (by show zcp x67 s66;exact Lat.zpS hp (by assumption) (by assumption)) rfl) zae) (by show 1≤sizeLine;decide))) (zaa (i:=1) rfl) ↥(zqD hp (by assumption) (by assumption)))) (λv71 hv71=>(zat (.eq (.eq (.no .nil))))))⟩) (λr72 hr72 hI=>(zak (zaC (zaa (i:=1) rfl))))))
theorem zhZ (ss:Jq):zcm ss=Lat.stl ss:=by
 unfold zcm
 simp only [zdH]
 exact Lat.zs7 ss
theorem zpf {rows ss:Jq} {r:Ji} {i:Nat} (hr:rows[i]?=some r) (e:ss=Lat.clm Lat.MG (rows.take i)):Let (zcm (m_taken_in ss r)) (λ(y:Jq)=>y)=Lat.clm Lat.MG (rows.take (i+1)):=by
 unfold Let
 rw [zhZ,zh8,Lat.zgM hr,e]
def za1 (P0:Jq):Jq :=
 (Let (List.foldl (λ(s73:Jq) (x74:Ji)=>(Let (zcm (m_taken_in s73 x74)) (λ(v78:Jq)=>v78))) [] P0) (λ(r79:Jq)=>r79))
def zc8 (P0:Jq):Prop:=Lat.znm P0
def zeh (K:W.Frag) (A:Adr):Sp:=Spv (ι:=Jq) (λx=>[dQ K (List.map lI x)]) (λx=>zc8 x) (λx=>↥[dL (List.map lI (za1 x))])
theorem zfl:FnScope ["rows","steps","row"] ["rows"] (zad zej):=⟨rfl,rfl,rfl,by decide+kernel,rfl,by decide+kernel,by decide+kernel⟩
theorem zk6 (F:Fun K "climbed" "climbed" zej f fd) (T:Txt K mg A) (ybe:Callee P w K mg base (CXE P w) 4 "settled" ["steps"] (zgx K A)) (ya4:Callee P w K mg base (CXE P w) 4 "taken_in" ["steps","row"] (zfL K A)):FnOk P w K mg base (CXE P w) 5 f fd ["rows"] (zeh K A):=by
 refine F.okV zfl (λ_=>rfl) (λcdv Ar outer s H E P0 hr hp=> ?_)
 have hu:=hr.units
 replace hp:zc8 P0:=hp
 unfold zc8 at hp
 refine ⟨_,(zac (zar (i:=1) zfl.nd rfl (Or.inl rfl) (zcf zdW)) (zac (zcE PassesOwn.never rfl (zaP (K:=K) rfl (pv 0)) (zao (i:=2) zfl.nd rfl (Or.inl rfl) (Or.inl rfl)) (zac (zar (i:=1) zfl.nd rfl (Or.inl rfl) (zaD ybe (hr.mono (by decide)) rfl zaB ↑[zaD ya4 (hr.mono (by decide)) rfl zaB ↑[pv 1,pv 2]])) zag)) (zac (zaN (pv 1)) zag))),.inl ?_⟩
 show L2.Run _ ([⇑[dQ K (List.map lI P0)],.no,.no]:L2.Ctx) _ ((λ(r:Jq)=>Oc.rt true (dL (List.map lI r))) (za1 P0))
 unfold za1
 exact (zbP (m:=true) (EvO.ev (zdu (m:=true) zae)) (zbO (s0:=[]) (λ(s73:Jq)=>([⇑[dQ K (List.map lI P0)],↥[dL (List.map lI s73)],.no]:L2.Ctx)) (λ(r:Jq)=>Oc.rt true (dL (List.map lI r))) (λ(s73:Jq) (x74:Ji)=>(Let (zcm (m_taken_in s73 x74)) (λ(v78:Jq)=>v78))) (λ(i:Nat) (s73:Jq)=>s73=Lat.clm Lat.MG (P0.take i)) (zbi (m:=false) lI (xs:=P0) (zaa (i:=0) rfl)) (.eq (.eq (.eq .nil))) (by rfl) (λi75 x74 s73 hx76 hI77=>have v76:=List.mem_of_getElem? hx76;⟨↥(zpf (by assumption) (by assumption)),(zaq (m:=true) (x:=(zcm (m_taken_in s73 x74))) (λ(xs:Jq)=>dL (List.map lI xs)) (λz=>Oc.nx ((λ(s73:Jq)=>([⇑[dQ K (List.map lI P0)],↥[dL (List.map lI s73)],.no]:L2.Ctx)) z)) (zal (x:=(m_taken_in s73 x74)) (zab (Ev.weak (K:=K) (zal (x:=(s73,x74)) (zab (Ev.old (Ev.weak (K:=K) (zaa (i:=1) rfl))) (zab (Ev.weak (K:=K) (zaa (i:=2) rfl)) zae)) rfl (by show zdX s73 x74;exact (Lat.znm.low hp (by assumption) (by assumption)).2.1) rfl)) zae) rfl (by show zdT (m_taken_in s73 x74);unfold zdT;rw [zh8];exact (Lat.znm.low hp (by assumption) (by assumption)).2.2) rfl) (λv78 hv78=>(zat (.eq (.eq (.no .nil))))))⟩) (λr79 hr79 hI=>(zak (zaC (zaa (i:=1) rfl))))))
theorem zfb (rows:Jq):za1 rows=Lat.clm Lat.MG rows:=by
 unfold za1 Lat.clm
 simp only [zhZ,zh8]
 rfl
theorem zqk {s:Jq} {i:Nat} {y:Ji} (h:s.length≤i):(s++[y]).length≤i+1:=by simp;omega
theorem zr8 {rows:Jq} {i:Nat} {p:Int×Ji} {c:Ji} (q:i<rows.length∧p.1=(i:Int)∧rows[i]?=some p.2) (e:c=zbV ((rows.length:Nat):Int) [(0:Int)]):InB c.length p.1:=by
 rw [e,Lat.zcR];unfold InB;omega
theorem zrG {rows:Jq}:List.foldl (λ(s:Jq) (x:Int×Ji)=>Let (zcz (zbV ((rows.length:Nat):Int) [(0:Int)]) x.1 (1:Int)) (λ(c:Ji)=>s++[x.2++c])) [] (zdE rows)=Lat.mark rows:=by
 show List.foldl (λ(s:Jq) (x:Int×Ji)=>s++[x.2++Lat.zgh rows.length x.1]) [] (zdE rows)=_
 rw [Lat.zgK]
 rfl
theorem znt {l:Ji} {n:Nat}:zct l none (some (n:Int))=l.take n:=by
 unfold zct
 rw [HT.sIx_nat,HT.sIx_none]
 show (l.drop 0).take (min n l.length-0)=_
 rw [List.drop_zero,Nat.sub_zero]
 by_cases h:n≤l.length
 ·rw [Nat.min_eq_left h]
 ·rw [Nat.min_eq_right (by omega),List.take_of_length_le (by omega),List.take_of_length_le (by omega)]
def MkQ (rows:Jq):Prop:=rows.length≤31∧∀ r∈rows,r.length≤900
def TrQ (rows:Jq):Prop:=MkQ rows∧Lat.znm (Lat.mark rows)
theorem zsC {i:Nat} {rows:Jq} {p:Int×Ji} {c c0:Ji} {y:Int} (h:MkQ rows) (q:i<rows.length∧p.1=(i:Int)∧rows[i]?=some p.2) (e0:c0=zbV ((rows.length:Nat):Int) [(0:Int)]) (e:c=zcz c0 p.1 y):p.2.length+c.length≤PySem.sizeLine:=by
 have h1:=h.2 _ (List.mem_of_getElem? q.2.2)
 have h2:=h.1
 rw [e,zd3,e0,Lat.zcR]
 exact zap (by omega)
theorem zsA {i:Nat} {rows s:Jq} {p:Int×Ji} (p1:MkQ rows) (h:s.length≤i) (q:i<rows.length∧p.1=(i:Int)∧rows[i]?=some p.2):s.length<PySem.sizeLine:=Nat.lt_of_le_of_lt (show _≤1000 by have:=p1.1;omega) (by decide)
theorem zrn {rows ms:Jq} (h:Lat.znm (Lat.mark rows)) (e:ms=List.foldl (λ(s:Jq) (x:Int×Ji)=>Let (zcz (zbV ((rows.length:Nat):Int) [(0:Int)]) x.1 (1:Int)) (λ(c:Ji)=>s++[x.2++c])) [] (zdE rows)):Lat.znm ms:=by
 rw [e,zrG];exact h
theorem zoU {rows:Jq} (h:Lat.znm rows):(Lat.clm Lat.MG rows).length≤31:=by
 rcases h with ⟨n,b,R,p1,p2,p3⟩ | ⟨n,s,h⟩
 ·have:=Lat.zqa (i:=rows.length) p1 p2 p3
  rwa [List.take_length] at this
 ·have:=h.len (i:=rows.length)
  rw [List.take_length] at this
  have:=h.1
  omega
def PdP (rows:Jq) (m:Int):Prop:=(0≤m∧m≤8)∧(∀ r∈rows,r.length≤8)∧rows.length≤1000
theorem ztA {rows:Jq} {m:Int} {r:Ji} (h:PdP rows m) (hr:r∈rows):r.length+(zbV m [(0:Int)]).length≤PySem.sizeLine:=by
 obtain ⟨k,rfl⟩:∃ k:Nat,m=(k:Int):=⟨m.toNat,by have:=h.1;omega⟩
 have:=h.1;have:=h.2.1 r hr
 rw [Lat.zcR];exact zap (by omega)
def zd0 (P0:Jq):Jq :=
 (Let (List.foldl (λ(s80:Jq) (x81:(Int×Ji))=>(Let (zbV ((P0.length:Nat):Int) [(0:Int)]) (λ(v85:Ji)=>(Let (zcz v85 x81.1 (1:Int)) (λ(v86:Ji)=>(s80++[(x81.2++v86)])))))) [] (zdE P0)) (λ(r87:Jq)=>r87))
def zfr (P0:Jq):Prop:=MkQ P0
def zgO (K:W.Frag) (A:Adr):Sp:=Spv (ι:=Jq) (λx=>[dQ K (List.map lI x)]) (λx=>zfr x) (λx=>↥[dL (List.map lI (zd0 x))])
theorem ze0:FnScope ["rows","longer","place","row","counts"] ["rows"] (zad ze8):=⟨rfl,rfl,rfl,by decide+kernel,rfl,by decide+kernel,by decide+kernel⟩
theorem zl2 (F:Fun K "marked" "marked" ze8 f fd) (T:Txt K mg A) :FnOk P w K mg base (CXE P w) 1 f fd ["rows"] (zgO K A):=by
 refine F.okV ze0 (λ_=>rfl) (λcdv Ar outer s H E P0 hr hp=> ?_)
 have hu:=hr.units
 replace hp:zfr P0:=hp
 unfold zfr at hp
 refine ⟨_,(zac (zar (i:=1) ze0.nd rfl (Or.inl rfl) (zcf zdW)) (zac (zcE PassesOwn.never rfl (zgr rfl rfl T.enumerate ↑[pv 0]) (zbJ (K:=K) (n:=2) rfl rfl (zaF (zao (i:=2) ze0.nd rfl (Or.inl rfl) (Or.inl rfl)) (zaF (zao (i:=3) ze0.nd rfl (Or.inl rfl) (Or.inl rfl)) zcj))) (zac (zar (i:=4) ze0.nd rfl (Or.inl rfl) (zax zh0 (zcf ↑[zai]) (za3 (zaR (K:=K) rfl) rfl T.len PySem.boot_len ↑[pv 0]))) (zac (zhv zai (zh4 (pv 4) (pv 2) zfd)) (zac (zcG (zbZ (K:=K) rfl (pv 1) ↑[zax zdO (pv 3) (pv 4)])) zag)))) (zac (zaN (pv 1)) zag))),.inl ?_⟩
 show L2.Run _ ([⇑[dQ K (List.map lI P0)],.no,.no,.no,.no]:L2.Ctx) _ ((λ(r:Jq)=>Oc.rt true (dL (List.map lI r))) (zd0 P0))
 unfold zd0
 exact (zey (m:=true) (ds:=List.map lI []) (zdu (m:=true) zae) (zbO (s0:=[]) (λ(s80:Jq)=>([⇑[dQ K (List.map lI P0)],.ow true (List.map lI s80),.no,.no,.no]:L2.Ctx)) (λ(r:Jq)=>Oc.rt true (dL (List.map lI r))) (λ(s80:Jq) (x81:(Int×Ji))=>(Let (zbV ((P0.length:Nat):Int) [(0:Int)]) (λ(v85:Ji)=>(Let (zcz v85 x81.1 (1:Int)) (λ(v86:Ji)=>(s80++[(x81.2++v86)])))))) (λ(i:Nat) (s80:Jq)=>s80.length≤i) (zgd (m:=false) lI (xs:=P0) (zaa (i:=0) rfl)) (.eq (.eq (.eq (.eq (.eq .nil))))) ↥(Nat.le_refl 0) (λi82 x81 s80 hx83 hI84=>have v83:=zcK hx83;⟨↥(zqk (by assumption)),(zez (m:=true) (x:=(zbV ((P0.length:Nat):Int) [(0:Int)])) (λz=>List.map dI z) (λz=>Oc.nx ((λ(s80:Jq)=>([⇑[dQ K (List.map lI P0)],.ow true (List.map lI s80),.no,.no,.no]:L2.Ctx)) z)) (zfJ (f:=dI) (xs:=[(0:Int)]) (n:=((P0.length:Nat):Int)) (EvO.ev (zc5 (zab zaL zae) (by show 1≤sizeLine;decide))) (zco (f:=lI) (xs:=P0) (zaa (i:=0) rfl)) (by have z:=hp.1;constructor<;>omega) (by show 1*_≤PySem.sizeLine;apply zap;have z:=hp.1;omega)) (λv85 hv85=>(zhI (f:=dI) (xs:=v85) (x:=(1:Int)) (j:=x81.1) (λz=>Oc.nx ((λ(s80:Jq)=>([⇑[dQ K (List.map lI P0)],.ow true (List.map lI s80),.no,.no,.no]:L2.Ctx)) z)) rfl zaL (Ev.any (m:=false) (zaa (i:=2) rfl)) ↥(zr8 (by assumption) (by assumption)) (λv86 hv86=>(zcl (i:=4) rfl (zb1 (f:=lI) (xs:=s80) (x:=(x81.2++v86)) rfl (EvO.ev (EvO.anyI (m:=false) (zcP (f:=dI) (xs:=x81.2) (ys:=v86) (zaa (i:=3) rfl) (Ev.old (zaa (i:=4) rfl)) ↥(zsC hp (by assumption) (by assumption) (by assumption))))) ↥(zsA hp (by assumption) (by assumption)) (zat (.eq (.eq (.no (.no (.no .nil))))))))))))⟩) (λr87 hr87 hI=>(zcl (i:=1) rfl (zak (zaC (zaa (i:=1) rfl)))))))
def zbr (P0:Jq) (P1:Int):Jq :=
 (List.map (λ(x88:Ji)=>(x88++(zbV P1 [(0:Int)]))) P0)
def zfn (P0:Jq) (P1:Int):Prop:=PdP P0 P1
def zhf (K:W.Frag) (A:Adr):Sp:=Spv (ι:=Jq×Int) (λx=>[dQ K (List.map lI x.1),dI x.2]) (λx=>zfn x.1 x.2) (λx=>↥[dL (List.map lI (zbr x.1 x.2))])
theorem zmY:FnScope ["rows","many"] ["rows","many"] (zad zeI):=⟨rfl,rfl,rfl,by decide+kernel,rfl,by decide+kernel,by decide+kernel⟩
theorem zmM (F:Fun K "padded" "padded" zeI f fd) (T:Txt K mg A) :FnOk P w K mg base (CXE P w) 1 f fd ["rows","many"] (zhf K A):=by
 refine F.okV zmY (λ_=>rfl) (λcdv Ar outer s H E x hr hp=> ?_)
 obtain ⟨P0,P1⟩:=x
 have hu:=hr.units
 replace hp:zfn P0 P1:=hp
 unfold zfn at hp
 refine ⟨_,(zac (zaN (zb0 rfl (.of (osc:=(zad zeI)) (N:=["rows","many"]) (own:=["row"]) (fvn:=["many"]) (fv:=[1]) rfl rfl (by decide+kernel)) (zaP (K:=K) rfl (pv 0)) (λ_ _ _ _ _=>⟨(zao (i:=0) (show (["row","many"]:List Str).Nodup by decide +kernel) rfl (Or.inl rfl) (Or.inr rfl)),zbg,(zax zdO (pv 0) (zax zh0 (zcf ↑[zai]) (pv 1)))⟩))) zag),.inl ?_⟩
 show L2.Run _ ([⇑[dQ K (List.map lI P0)],⇑[dI P1]]:L2.Ctx) _ ((λ(r:Jq)=>Oc.rt true (dL (List.map lI r))) (zbr P0 P1))
 unfold zbr
 exact (zak (zaC (EvO.ev (EvO.conv (zb5 (g:=(λ(x88:Ji)=>dL (List.map dI (x88++(zbV P1 [(0:Int)]))))) (zbi (m:=false) lI (xs:=P0) (zaa (i:=0) rfl)) ↥(zap (by have z:=hp.2.2;omega)) ⟨by decide,by decide⟩ (λi89 x88 hx90=>have v90:=List.mem_of_getElem? hx90;(EvO.ev (EvO.anyI (m:=false) (zcP (f:=dI) (xs:=x88) (ys:=(zbV P1 [(0:Int)])) (zaa (i:=0) rfl) (EvO.ev (zfJ (f:=dI) (xs:=[(0:Int)]) (n:=P1) (EvO.ev (zc5 (zab zaL zae) (by show 1≤sizeLine;decide))) (Ev.any (m:=false) (zaa (i:=1) rfl)) (by have z:=hp.1;constructor<;>omega) (by have z:=hp.1;exact zap (by rw [List.length_singleton];omega)))) ↥(ztA hp (by assumption))))))) (by first|(rw [List.map_map];rfl)|(simp only [cond_true,cond_false];rw [List.map_map];rfl))))))
def zcD (P0:Jq):Jq :=
 (za1 (zd0 P0))
def zfs (P0:Jq):Prop:=TrQ P0
def zhl (K:W.Frag) (A:Adr):Sp:=Spv (ι:=Jq) (λx=>[dQ K (List.map lI x)]) (λx=>zfs x) (λx=>↥[dL (List.map lI (zcD x))])
theorem zlL:FnScope ["rows"] ["rows"] (zad zfc):=⟨rfl,rfl,rfl,by decide+kernel,rfl,by decide+kernel,by decide+kernel⟩
theorem zmb (F:Fun K "traced" "traced" zfc f fd) (T:Txt K mg A) (yaj:Callee P w K mg base (CXE P w) 5 "climbed" ["rows"] (zeh K A)) (ybz:Callee P w K mg base (CXE P w) 1 "marked" ["rows"] (zgO K A)):FnOk P w K mg base (CXE P w) 6 f fd ["rows"] (zhl K A):=by
 refine F.okV zlL (λ_=>rfl) (λcdv Ar outer s H E P0 hr hp=> ?_)
 have hu:=hr.units
 replace hp:zfs P0:=hp
 unfold zfs at hp
 refine ⟨_,(zac (zaN (zaD yaj (hr.mono (by decide)) rfl zaB ↑[zaD ybz (hr.mono (by decide)) rfl zaB ↑[pv 0]])) zag),.inl ?_⟩
 show L2.Run _ ([⇑[dQ K (List.map lI P0)]]:L2.Ctx) _ ((λ(r:Jq)=>Oc.rt true (dL (List.map lI r))) (zcD P0))
 unfold zcD
 exact (zak (zaC (zal (x:=(zd0 P0)) (zab (Ev.old (Ev.weak (K:=K) (zal (x:=P0) (zab (zaa (i:=0) rfl) zae) rfl (by show zfr P0;exact hp.1) rfl))) zae) rfl (by show zc8 (zd0 P0);exact zrn hp.2 rfl) rfl)))
theorem zjk (rows:Jq):zcD rows=Lat.clm Lat.MG (Lat.mark rows):=by
 unfold zcD
 rw [zfb]
 exact congrArg _ zrG
theorem zkP {rows:Jq} (h:TrQ rows):(zcD rows).length≤31:=by rw [zjk];exact zoU h.2
theorem zqi {rows:Jq} (h:TrQ rows):(zcD rows).length≤PySem.sizeLine:=zap (by have:=zkP h;omega)
theorem znS {rows ys:Jq} {c:Ji->Bool} (h:TrQ rows) (e:ys=List.map (λ(x:Ji)=>x) (List.filter c (zcD rows))):ys.length≤31:=by
 rw [e,List.length_map]
 exact Nat.le_trans (List.length_filter_le _ _) (zkP h)
def zdy (P0:Jq) (P1:Int):Jq :=
 (List.map (λ(x91:Ji)=>(zct x91 (some P1) none)) (List.filter (λ(x91:Ji)=>(decide (P1≤(zah x91)))) P0))
def zfS (P0:Jq) (P1:Int):Prop:=P0.length≤1000
def ziq (K:W.Frag) (A:Adr):Sp:=Spv (ι:=Jq×Int) (λx=>[dQ K (List.map lI x.1),dI x.2]) (λx=>zfS x.1 x.2) (λx=>↥[dL (List.map lI (zdy x.1 x.2))])
theorem znP:FnScope ["steps","many"] ["steps","many"] (zad zfD):=⟨rfl,rfl,rfl,by decide+kernel,rfl,by decide+kernel,by decide+kernel⟩
theorem zob (F:Fun K "tails" "tails" zfD f fd) (T:Txt K mg A) (yaa:Callee P w K mg base (CXE P w) 1 "head_of" ["row"] (zcb K A)):FnOk P w K mg base (CXE P w) 2 f fd ["steps","many"] (ziq K A):=by
 refine F.okV znP (λ_=>rfl) (λcdv Ar outer s H E x hr hp=> ?_)
 obtain ⟨P0,P1⟩:=x
 have hu:=hr.units
 replace hp:zfS P0 P1:=hp
 unfold zfS at hp
 refine ⟨_,(zac (zaN (zb0 rfl (.of (osc:=(zad zfD)) (N:=["steps","many"]) (own:=["step"]) (fvn:=["many"]) (fv:=[1]) rfl rfl (by decide+kernel)) (zaP (K:=K) rfl (pv 0)) (λ_ _ _ _ _=>⟨(zao (i:=0) (show (["step","many"]:List Str).Nodup by decide +kernel) rfl (Or.inl rfl) (Or.inr rfl)),(zjC (zaI zsz (zaD yaa (hr.mono (by decide)) rfl zaB ↑[pv 0]) (pv 1) (zaQ _))),(zcM (zb9 (K:=K) rfl) (pv 0) (zcF (pv 1)) zeQ)⟩))) zag),.inl ?_⟩
 show L2.Run _ ([⇑[dQ K (List.map lI P0)],⇑[dI P1]]:L2.Ctx) _ ((λ(r:Jq)=>Oc.rt true (dL (List.map lI r))) (zdy P0 P1))
 unfold zdy
 exact (zak (zaC (EvO.ev (EvO.conv (ziB (c:=λ(x91:Ji)=>(decide (P1≤(zah x91)))) (g:=(λ(x91:Ji)=>dL (List.map dI (zct x91 (some P1) none)))) (zbi (m:=false) lI (xs:=P0) (zaa (i:=0) rfl)) ↥(zap (by omega)) ⟨by decide,by decide⟩ (λi92 x91 hx93=>have v93:=List.mem_of_getElem? hx93;(zau (zaU (x:=(zah x91)) (y:=P1) (Ev.any (m:=true) (zal (x:=x91) (zab (Ev.weak (K:=K) (zaa (i:=0) rfl)) zae) rfl (by show zaY x91;exact trivial) rfl)) (Ev.any (m:=false) (zaa (i:=1) rfl))))) (λi92 x91 hx93 hc=>have v93:=List.mem_of_getElem? hx93;(EvO.ev (EvO.anyI (m:=false) (zdx (f:=dI) (xs:=x91) (Ev.weak (K:=K) (zaa (i:=0) rfl)) (zbN (Ev.any (m:=false) (zaa (i:=1) rfl))) zd2))))) (by first|(rw [List.map_map];rfl)|(simp only [cond_true,cond_false];rw [List.map_map];rfl))))))
theorem znC {ss:Jq} {n:Nat}:zdy ss (n:Int)=Lat.zdo n ss:=by
 unfold zdy Lat.zdo
 simp only [zce,Lat.zfe]
 have e:(λ(x:Ji)=>decide ((n:Int)≤(Lat.hd x:Int)))=λ(x:Ji)=>decide (n≤Lat.hd x):=funext λx=>by simp
 rw [e]
def zhU (P0:Int) (P1:Jq):BookD:=⟨P0,(List.map (λ(x94:Ji)=>x94) P1)⟩
def zby (P0:Int) (P1:Jq):Prop:=P1.length≤1000
def zdB (K:W.Frag) (A:Adr):Sp:=zrP (ι:=Int×Jq) A.Book (λx=>[dI x.1,dQ K (List.map lI x.2)]) (λx=>zby x.1 x.2) true (λx=>[("many",dI ((zhU x.1 x.2).many)),("swaps",dL (List.map lI ((zhU x.1 x.2).swaps)))])
theorem zgE:FnScope ["self","many","swaps"] ["self","many","swaps"] (zad zbz):=⟨rfl,rfl,rfl,by decide+kernel,rfl,by decide+kernel,by decide+kernel⟩
theorem zgD (F:Fun K "__init__" "Book.__init__" zbz f fd) (T:Txt K mg A) :FnOk P w K mg base (CXE P w) 1 f fd ["self","many","swaps"] (zdB K A):=by
 refine F.okI zgE (λ_=>rfl) (λcdv Ar outer s H E x hr hp=> ?_)
 obtain ⟨P0,P1⟩:=x
 have hu:=hr.units
 replace hp:zby P0 P1:=hp
 unfold zby at hp
 refine ⟨_,(zac (zjh (pv 0) (pv 1) rfl) (zac (zjh (pv 0) (zb0 rfl (.of (osc:=(zad zbz)) (N:=["self","many","swaps"]) (own:=["swap"]) (fvn:=[]) (fv:=[]) rfl rfl (by decide+kernel)) (zaP (K:=K) rfl (pv 2)) (λ_ _ _ _ _=>⟨(zao (i:=0) (show (["swap"]:List Str).Nodup by decide+kernel) rfl (Or.inl rfl) (Or.inr rfl)),zbg,(zdQ (zdS (K:=K) rfl) rfl T.list PyProof.Rows.boot_list ↑[pv 0])⟩)) rfl) zag)),λp dx=>⟨([.ob true A.Book p dx [("many",dI P0),("swaps",dL (List.map lI (List.map (λ(x94:Ji)=>x94) P1)))],⇑[dI P0],⇑[dQ K (List.map lI P1)]]:L2.Ctx),?_,rfl⟩⟩
 show L2.Run _ ([.ob true A.Book p dx [],⇑[dI P0],⇑[dQ K (List.map lI P1)]]:L2.Ctx) _ _
 exact (zf4 (i:=0) rfl (Ev.any (m:=false) (zaa (i:=1) rfl)) T.Book_cl T.Book_many [] rfl (by decide+kernel) (by decide) (zf4 (i:=0) rfl (EvO.ev (EvO.conv (zb5 (g:=(λ(x94:Ji)=>dL (List.map dI x94))) (zbi (m:=false) lI (xs:=P1) (zaa (i:=2) rfl)) ↥(zap (by omega)) ⟨by decide,by decide⟩ (λi95 x94 hx96=>have v96:=List.mem_of_getElem? hx96;(EvO.ev (EvO.anyI (m:=false) (zg3 (Ev.weak (K:=K) (zaa (i:=0) rfl))))))) (by first|(rw [List.map_map];rfl)|(simp only [cond_true,cond_false];rw [List.map_map];rfl)))) T.Book_cl T.Book_swaps ["many"] rfl (by decide+kernel) (by decide) (zat (Wk.refl _))))
def m_book_of (P0:Int) (P1:Jq):BookD :=
 (Let (List.foldl (λ(s99:Unit) (x100:(Int×Ji))=>()) () (zdE P1)) (λ(r105:Unit)=>(zhU P0 P1)))
def zbK (P0:Int) (P1:Jq):Prop:=1≤P0∧P0≤8∧P1.length≤12∧∀ s∈P1,(s.length:Int)=P0
def ze9 (K:W.Frag) (A:Adr):Sp:=Spv (ι:=Int×Jq) (λx=>[dI x.1,dQ K (List.map lI x.2)]) (λx=>zbK x.1 x.2) (λx=>↥[zaK A.Book (m_book_of x.1 x.2)])
theorem zgp:FnScope ["many","swaps","place","swap"] ["many","swaps"] (zad zet):=⟨rfl,rfl,rfl,by decide+kernel,rfl,by decide+kernel,by decide+kernel⟩
theorem zlg (F:Fun K "book_of" "book_of" zet f fd) (T:Txt K mg A)  {ybf:Addr} {ya1:FuncData} (ya2:Mk K A.Book ybf) (yag:FnOk P w K mg base (CXE P w) 1 ybf ya1 ["self","many","swaps"] (zdB K A)) (yah:zgC K ya1 ["self","many","swaps"] []):FnOk P w K mg base (CXE P w) 3 f fd ["many","swaps"] (ze9 K A):=by
 refine F.okV zgp (λ_=>rfl) (λcdv Ar outer s H E x hr hp=> ?_)
 obtain ⟨P0,P1⟩:=x
 have hu:=hr.units
 replace hp:zbK P0 P1:=hp
 unfold zbK at hp
 obtain ⟨yaO,ycn⟩:=T.g_MOST_SWAPS
 obtain ⟨yaP,yco⟩:=T.g_MOST_WARES
 refine ⟨_,(zac (zcI (PW.pt (znK (zaI ziU (pv 0) zai (zaQ _)) (zkj (zaI zkZ (pv 0) (zm3 (v:=.int 8) rfl yco ⟨_,rfl⟩) (zaQ _))))) (zac zdG zag) zag) (zac (zcI (zaI zkZ (za3 (zaR (K:=K) rfl) rfl T.len PySem.boot_len ↑[pv 1]) (zm3 (v:=.int 12) rfl ycn ⟨_,rfl⟩) (zaQ _)) (zac zdG zag) zag) (zac (zcE PassesOwn.never rfl (zgr rfl rfl T.enumerate ↑[pv 1]) (zbJ (K:=K) (n:=2) rfl rfl (zaF (zao (i:=2) zgp.nd rfl (Or.inl rfl) (Or.inl rfl)) (zaF (zao (i:=3) zgp.nd rfl (Or.inl rfl) (Or.inl rfl)) zcj))) (zac (zcI (zaI zgq (za3 (zaR (K:=K) rfl) rfl T.len PySem.boot_len ↑[pv 3]) (pv 0) (zaQ _)) (zac zdG zag) zag) zag)) (zac (zaN (zjH ya2 yag (hr.mono (by decide)) rfl T.Book yah .nil zaB ↑[pv 0,pv 1])) zag)))),.inl ?_⟩
 show L2.Run _ ([⇑[dI P0],⇑[dQ K (List.map lI P1)],.no,.no]:L2.Ctx) _ ((λ(r:BookD)=>Oc.rt true (zaK A.Book r)) (m_book_of P0 P1))
 unfold m_book_of
 exact (zcu (EvT.conv (zkR (b:=(decide (P0<(1:Int)))) (zau (zaU (x:=P0) (y:=(1:Int)) (Ev.any (m:=false) (zaa (i:=0) rfl)) zaL)) (λhb=>(zau (zaU (x:=P0) (y:=8) (Ev.any (m:=false) (zaa (i:=0) rfl)) zaL)))) (by simp only [Bool.or_eq_false_iff,decide_eq_false_iff_not];omega)) (zaz (zcu (EvT.conv (zau (zaU (x:=((P1.length:Nat):Int)) (y:=12) (zco (f:=lI) (xs:=P1) (zaa (i:=1) rfl)) zaL)) (by ((try simp only [decide_eq_true_eq,decide_eq_false_iff_not,Bool.not_eq_true',Bool.not_eq_false',Bool.and_eq_true,Bool.or_eq_false_iff,Bool.or_eq_true,Bool.and_eq_false_iff,Bool.cond_eq_ite] at*)<;>omega))) (zaz (zbO (s0:=()) (λ(s99:Unit)=>([⇑[dI P0],⇑[dQ K (List.map lI P1)],.no,.no]:L2.Ctx)) (λ(r:BookD)=>Oc.rt true (zaK A.Book r)) (λ(s99:Unit) (x100:(Int×Ji))=>()) (λ_ _=>True) (zgd (m:=false) lI (xs:=P1) (zaa (i:=1) rfl)) (.eq (.eq (.eq (.eq .nil)))) trivial (λi101 x100 s99 hx102 hI103=>have v102:=zcK hx102;⟨trivial,(zcu (EvT.conv (zau (zeK (x:=((x100.2.length:Nat):Int)) (y:=P0) (zco (f:=dI) (xs:=x100.2) (Ev.weak (K:=K) (zaa (i:=3) rfl))) (Ev.any (m:=false) (zaa (i:=0) rfl)))) (by have:=hp.2.2.2 _ (zkH (by assumption));simp only [Bool.not_eq_false',decide_eq_true_eq];exact this)) (zaz (zat (.eq (.eq (.no (.no .nil)))))))⟩) (λr105 hr105 hI=>(zak (zaC (zlY (i:=(P0,P1)) (zab (Ev.any (m:=false) (zaa (i:=0) rfl)) (zab (zaa (i:=1) rfl) zae)) rfl (by show zby P0 P1;unfold zby;omega))))))))))
theorem zkO {w:Int} {sw:Jq}:m_book_of w sw=⟨w,sw⟩:=by
 unfold m_book_of zhU Let
 simp
theorem zib (sw:Jq):List.map (λ(x:Ji)=>x) sw=sw:=by simp
theorem zsx {a b:Int} (h:a=b):(!decide (a=b))=false:=by rw [decide_eq_true h];rfl
def zdU (P0:BookD) (P1:Ji):Unit:=()
def zbF (P0:BookD) (P1:Ji):Prop:=(P1.length:Int)=P0.many
def zcH (K:W.Frag) (A:Adr):Sp:=Spv (ι:=BookD×Ji) (λx=>[zaK A.Book x.1,dQ K (List.map dI x.2)]) (λx=>zbF x.1 x.2) (λx=>↥[dN])
theorem zft:FnScope ["book","basket"] ["book","basket"] (zad za9):=⟨rfl,rfl,rfl,by decide+kernel,rfl,by decide+kernel,by decide+kernel⟩
theorem zfu (F:Fun K "refuse_bad_basket" "refuse_bad_basket" za9 f fd) (T:Txt K mg A) :FnOk P w K mg base (CXE P w) 1 f fd ["book","basket"] (zcH K A):=by
 refine F.okV zft (λ_=>rfl) (λcdv Ar outer s H E x hr hp=> ?_)
 obtain ⟨P0,P1⟩:=x
 have hu:=hr.units
 replace hp:zbF P0 P1:=hp
 unfold zbF at hp
 refine ⟨_,(zac (zcI (zaI zgq (za3 (zaR (K:=K) rfl) rfl T.len PySem.boot_len ↑[pv 1]) (za2 (K:=K) rfl (pv 0) rfl) (zaQ _)) (zac zdG zag) zag) zag),.inr ⟨_,([⇑[zaK A.Book P0],⇑[dQ K (List.map dI P1)]]:L2.Ctx),rfl,?_⟩⟩
 show L2.Run _ ([⇑[zaK A.Book P0],⇑[dQ K (List.map dI P1)]]:L2.Ctx) _ _
 exact (zcu (EvT.conv (zau (zeK (x:=((P1.length:Nat):Int)) (y:=P0.many) (zco (f:=dI) (xs:=P1) (zaa (i:=1) rfl)) (Ev.any (m:=false) (zca (zaa (i:=0) rfl) T.Book_cl T.Book_many rfl)))) (by ((try simp only [decide_eq_true_eq,decide_eq_false_iff_not,Bool.not_eq_true',Bool.not_eq_false',Bool.and_eq_true,Bool.or_eq_false_iff,Bool.or_eq_true,Bool.and_eq_false_iff,Bool.cond_eq_ite] at*)<;>omega))) (zaz (zat (Wk.refl _))))
def LvP (ss:Jq) (l:Int):Prop:=∃ n s:Nat,l=(n:Int)+1∧n≤900∧ss.length≤100∧(∀ t∈ss,Lat.Sd (n+1) s t)∧1+(ss.length+1)*(s+9000)≤50000000
theorem ztm {n:Nat} {l:Int} {ss:Jq} {w:Ji} (p1:l=(n:Int)+1) (e:w=zbV (l-(1:Int)) [(0:Int)]++[(1:Int)]):Lat.lvI (n+1) ss 0 w:=by
 have:w=Lat.lv (n+1) []:=by rw [e,p1];rfl
 rw [this];exact Lat.zr0
theorem zpu (s x:Ji):Let (zah x) (λ(head:Int)=>Let (zcw s x) (λ(weight:Int)=>Let (zan s (ixD x head)) (λ(numbers:Ji)=>Let (zcz numbers head (-weight)) (λ(y:Ji)=>y))))=Lat.lv1 s x:=by
 unfold Let
 dsimp only
 rw [zce,Lat.zcq,zlo]
 rfl
theorem ztg {n i:Nat} {ss:Jq} {s x:Ji} (hx:ss.reverse[i]?=some x) (I:Lat.lvI n ss i s):Lat.lvI n ss (i+1) (Let (zah x) (λ(head:Int)=>Let (zcw s x) (λ(weight:Int)=>Let (zan s (ixD x head)) (λ(numbers:Ji)=>Let (zcz numbers head (-weight)) (λ(y:Ji)=>y))))):=by
 rw [zpu];exact Lat.zr5 hx I
theorem zr4 {n:Nat} {l:Int} (p1:l=(n:Int)+1) (p2:n≤900):[(0:Int)].length*(l-(1:Int)).toNat≤PySem.sizeLine:=zap (by rw [List.length_singleton];omega)
theorem zse {n:Nat} {l:Int} (p1:l=(n:Int)+1) (p2:n≤900):(zbV (l-(1:Int)) [(0:Int)]).length+[(1:Int)].length≤PySem.sizeLine:=zap (by rw [p1,show (n:Int)+1-1=(n:Int) by omega,Lat.zcR,List.length_singleton];omega)
theorem zj1 {n s i:Nat} {ss:Jq} {w x:Ji} (p2:n≤900) (p4:∀ t∈ss,Lat.Sd (n+1) s t) (I:Lat.lvI (n+1) ss i w):w.length=n+1∧Lat.Bit (1+ss.length*(s+9000)) w:=by
 unfold Lat.lvI at I
 obtain ⟨h1,h2⟩:=Lat.zoB (ss:=ss.drop (ss.length-i)) (λt ht=>p4 t (List.mem_of_mem_drop ht)) p2
 rw [← I] at h1 h2
 refine ⟨h1,h2.mono ?_⟩
 have:=Nat.mul_le_mul_right (s+9000) (show (ss.drop (ss.length-i)).length≤ss.length by rw [List.length_drop];omega)
 omega
theorem znN {ss:Jq} {x:Ji} {i:Nat} (hx:ss.reverse[i]?=some x):x∈ss:=List.mem_reverse.mp (List.mem_of_getElem? hx)
theorem zsw {n s i:Nat} {ss:Jq} {w x:Ji} (p2:n≤900) (p3:ss.length≤100) (p4:∀ t∈ss,Lat.Sd (n+1) s t) (p5:1+(ss.length+1)*(s+9000)≤50000000) (hx:ss.reverse[i]?=some x) (I:Lat.lvI (n+1) ss i w):zdR w x:=by
 obtain ⟨h1,h2⟩:=zj1 (x:=x) p2 p4 I
 have T:=p4 x (znN hx)
 rw [Nat.succ_mul] at p5
 refine ⟨by rw [h1,T.len],by omega,λp hp=>?_⟩
 have hm:=List.of_mem_zip (a:=p.1) (b:=p.2) hp
 exact Lat.zdc.of (h2 _ hm.1) (T.bit _ hm.2) (by omega) (by omega)
theorem zsl {n s i:Nat} {ss:Jq} {w x:Ji} {h:Int} (p2:n≤900) (p3:ss.length≤100) (p4:∀ t∈ss,Lat.Sd (n+1) s t) (p5:1+(ss.length+1)*(s+9000)≤50000000) (hx:ss.reverse[i]?=some x) (I:Lat.lvI (n+1) ss i w) (hH:h=(Lat.hd x:Int)):zbn w (ixD x h):=by
 obtain ⟨h1,h2⟩:=zj1 (x:=x) p2 p4 I
 have T:=p4 x (znN hx)
 rw [Nat.succ_mul] at p5
 subst hH
 rw [Lat.zcq]
 exact ⟨by omega,λy hy=>Lat.zdc.of (h2 _ hy) T.top (by omega) (by decide)⟩
theorem zsM {n s i:Nat} {ss:Jq} {w x:Ji} {h c:Int} (p2:n≤900) (p4:∀ t∈ss,Lat.Sd (n+1) s t) (hx:ss.reverse[i]?=some x) (I:Lat.lvI (n+1) ss i w) (hH:h=(Lat.hd x:Int)) {y:Ji} (e:y=zan w c):InB y.length h:=by
 obtain ⟨h1,h2⟩:=zj1 (x:=x) p2 p4 I
 have T:=(p4 x (znN hx)).hd
 rw [e,show (zan w c).length=w.length from Lat.zba,h1]
 unfold InB;omega
def zc7 (P0:Jq) (P1:Int):Ji :=
 (Let ((zbV (P1-(1:Int)) [(0:Int)])++[(1:Int)]) (λ(v107:Ji)=>(Let (List.foldl (λ(s108:Ji) (x109:Ji)=>(Let (zah x109) (λ(hv113:Int)=>(Let (zcw s108 x109) (λ(v114:Int)=>(Let (zan s108 (ixD x109 hv113)) (λ(v115:Ji)=>(Let (zcz v115 hv113 (-v114)) (λ(v116:Ji)=>v116))))))))) v107 (List.reverse P0)) (λ(r117:Ji)=>r117))))
def zd6 (P0:Jq) (P1:Int):Prop:=LvP P0 P1
def zfI (K:W.Frag) (A:Adr):Sp:=Spv (ι:=Jq×Int) (λx=>[dQ K (List.map lI x.1),dI x.2]) (λx=>zd6 x.1 x.2) (λx=>↥[dL (List.map dI (zc7 x.1 x.2))])
theorem zdg:FnScope ["steps","length","numbers","step","head","weight"] ["steps","length"] (zad zdM):=⟨rfl,rfl,rfl,by decide+kernel,rfl,by decide+kernel,by decide+kernel⟩
theorem zjA (F:Fun K "levelled" "levelled" zdM f fd) (T:Txt K mg A) (yaa:Callee P w K mg base (CXE P w) 1 "head_of" ["row"] (zcb K A)) (yae:Callee P w K mg base (CXE P w) 1 "times" ["some","many"] (zeH K A)) (ybg:Callee P w K mg base (CXE P w) 2 "weighed" ["one","other"] (zgf K A)):FnOk P w K mg base (CXE P w) 3 f fd ["steps","length"] (zfI K A):=by
 refine F.okV zdg (λ_=>rfl) (λcdv Ar outer s H E x hr hp=> ?_)
 obtain ⟨P0,P1⟩:=x
 have hu:=hr.units
 replace hp:zd6 P0 P1:=hp
 unfold zd6 at hp
 obtain ⟨N0,S0,p1,p2,p3,p4,p5⟩:=hp
 refine ⟨_,(zac (zar (i:=2) zdg.nd rfl (Or.inl rfl) (zax zdO (zax zh0 (zcf ↑[zai]) (zax zeN (pv 1) zai)) (zcf ↑[zai]))) (zac (zcE PassesOwn.never rfl (zoO rfl rfl T.reversed ↑[pv 0]) (zao (i:=3) zdg.nd rfl (Or.inl rfl) (Or.inl rfl)) (zac (zar (i:=4) zdg.nd rfl (Or.inl rfl) (zaD yaa (hr.mono (by decide)) rfl zaB ↑[pv 3])) (zac (zar (i:=5) zdg.nd rfl (Or.inl rfl) (zaD ybg (hr.mono (by decide)) rfl zaB ↑[pv 2,pv 3])) (zac (zar (i:=2) zdg.nd rfl (Or.inl rfl) (zaD yae (hr.mono (by decide)) rfl zaB ↑[pv 2,(zbk (zav (K:=K) rfl) (pv 3) (pv 4) (λ_ _=>rfl))])) (zac (zhv (zn9 zj9 (pv 5)) (zh4 (pv 2) (pv 4) zfd)) zag))))) (zac (zaN (pv 2)) zag))),.inl ?_⟩
 show L2.Run _ ([⇑[dQ K (List.map lI P0)],⇑[dI P1],.no,.no,.no,.no]:L2.Ctx) _ ((λ(r:Ji)=>Oc.rt true (dL (List.map dI r))) (zc7 P0 P1))
 unfold zc7
 exact (zez (m:=true) (x:=((zbV (P1-(1:Int)) [(0:Int)])++[(1:Int)])) (λz=>List.map dI z) (λ(r:Ji)=>Oc.rt true (dL (List.map dI r))) (zcP (f:=dI) (xs:=(zbV (P1-(1:Int)) [(0:Int)])) (ys:=[(1:Int)]) (EvO.ev (zfJ (f:=dI) (xs:=[(0:Int)]) (n:=(P1-(1:Int))) (EvO.ev (zc5 (zab zaL zae) (by show 1≤sizeLine;decide))) (zaU (x:=P1) (y:=(1:Int)) (Ev.any (m:=false) (zaa (i:=1) rfl)) zaL) (by constructor<;>omega) ↥(zr4 p1 p2))) (EvO.ev (zc5 (zab zaL zae) (by show 1≤sizeLine;decide))) ↥(zse p1 p2)) (λv107 hv107=>have h0_numbers107:=hv107;(zbO (s0:=v107) (λ(s108:Ji)=>([⇑[dQ K (List.map lI P0)],⇑[dI P1],.ow true (List.map dI s108),.no,.no,.no]:L2.Ctx)) (λ(r:Ji)=>Oc.rt true (dL (List.map dI r))) (λ(s108:Ji) (x109:Ji)=>(Let (zah x109) (λ(hv113:Int)=>(Let (zcw s108 x109) (λ(v114:Int)=>(Let (zan s108 (ixD x109 hv113)) (λ(v115:Ji)=>(Let (zcz v115 hv113 (-v114)) (λ(v116:Ji)=>v116))))))))) (λ(i:Nat) (s108:Ji)=>Lat.lvI (N0+1) P0 i s108) (zol (m:=false) lI (xs:=P0) (zaa (i:=0) rfl)) (.eq (.eq (.eq (.eq (.eq (.eq .nil)))))) ↥(ztm p1 (by assumption)) (λi110 x109 s108 hx111 hI112=>have v111:=List.mem_of_getElem? hx111;⟨↥(ztg (by assumption) (by assumption)),(zaq (m:=true) (x:=(zah x109)) dI (λz=>Oc.nx ((λ(s108:Ji)=>([⇑[dQ K (List.map lI P0)],⇑[dI P1],.ow true (List.map dI s108),.no,.no,.no]:L2.Ctx)) z)) (Ev.any (m:=true) (zal (x:=x109) (zab (Ev.weak (K:=K) (zaa (i:=3) rfl)) zae) rfl (by show zaY x109;exact trivial) rfl)) (λhv113 hhead113=>have hH:=(hhead113).trans (zce _);(zcl (i:=2) rfl (zaq (m:=true) (x:=(zcw s108 x109)) dI (λz=>Oc.nx ((λ(s108:Ji)=>([⇑[dQ K (List.map lI P0)],⇑[dI P1],.ow true (List.map dI s108),.no,.no,.no]:L2.Ctx)) z)) (Ev.any (m:=true) (zal (x:=(s108,x109)) (zab (Ev.old (Ev.weak (K:=K) (zaa (i:=2) rfl))) (zab (Ev.weak (K:=K) (zaa (i:=3) rfl)) zae)) rfl (by show zdR s108 x109;exact zsw p2 p3 p4 p5 (by assumption) (by assumption)) rfl)) (λv114 hv114=>(zez (m:=true) (x:=(zan s108 (ixD x109 hv113))) (λz=>List.map dI z) (λz=>Oc.nx ((λ(s108:Ji)=>([⇑[dQ K (List.map lI P0)],⇑[dI P1],.ow true (List.map dI s108),.no,.no,.no]:L2.Ctx)) z)) (EvO.anyI (m:=true) (zbG (x:=(s108,(ixD x109 hv113))) (zab (Ev.old (Ev.weak (K:=K) (zaa (i:=2) rfl))) (zab (Ev.any (m:=false) (zci (f:=dI) (xs:=x109) (Ev.weak (K:=K) (zaa (i:=3) rfl)) (Ev.any (m:=true) (zaa (i:=4) rfl)) ↥(zkK (p4 _ (znN (by assumption))) hH))) zae)) rfl (by show zbn s108 (ixD x109 hv113);exact zsl p2 p3 p4 p5 (by assumption) (by assumption) hH) rfl)) (λv115 hv115=>have h0_numbers115:=hv115;(zhI (f:=dI) (xs:=v115) (x:=(-v114)) (j:=hv113) (λz=>Oc.nx ((λ(s108:Ji)=>([⇑[dQ K (List.map lI P0)],⇑[dI P1],.ow true (List.map dI s108),.no,.no,.no]:L2.Ctx)) z)) rfl (zn8 (x:=v114) (Ev.any (m:=true) (zaa (i:=5) rfl))) (Ev.any (m:=true) (zaa (i:=4) rfl)) ↥(zsM p2 p4 (by assumption) (by assumption) hH (by assumption)) (λv116 hv116=>(zat (.eq (.eq (.eq (.no (.no (.no .nil))))))))))))))))⟩) (λr117 hr117 hI=>(zcl (i:=2) rfl (zak (zaC (zaa (i:=2) rfl))))))))
theorem zpV {α:Type} [Inhabited α] {xs:List α} {t:α}:ixD (xs++[t]) (-(1:Int))=t:=by
 unfold ixD atI ixN
 rw [if_neg (by decide),if_pos (by rw [List.length_append,List.length_singleton];omega)]
 have:((-(1:Int))+(((xs++[t]).length:Nat):Int)).toNat=xs.length:=by rw [List.length_append,List.length_singleton];omega
 first
  | (show ((xs++[t])[_]?).getD _=t;rw [this];simp)
  | (simp [this])
def SnS (b:BookD) (x:Ji):Prop:=∃ n s:Nat,b.many=(n:Int)∧1≤n∧n≤8∧x.length=n∧b.swaps.length≤30∧Lat.Cb n s b.swaps∧Lat.Bit s x∧Lat.SpL b.swaps (Lat.vec x)
def snR (b:BookD) (x:Ji):Jq:=Lat.clm Lat.MG (Lat.zhA b.swaps x)
def snS (n:Nat) (b:BookD) (x:Ji):Jq:=List.filter (λ(t:Ji)=>decide (Lat.hd t<n)) (snR b x)
section
variable {b:BookD} {x w short:Ji} {rows ss:Jq} {num:Ji} {c:Int}
theorem zrt (hR:rows=za1 (Lat.zhA b.swaps x)):rows=snR b x:=hR.trans (zfb _)
theorem zsS {n:Nat} (hn:b.many=(n:Int)) (hR:rows=snR b x) (hS:ss=List.map (λ(t:Ji)=>t) (List.filter (λ(t:Ji)=>decide (zah t<b.many)) rows)):ss=snS n b x:=by
 rw [hS,List.map_id',hR,hn]
 unfold snS
 congr 1
 funext t
 rw [zce]
 simp
theorem zkS (h:SnS b x):∃ n s:Nat,b.many=(n:Int)∧1≤n∧n≤8∧x.length=n∧s≤200000∧snR b x=Lat.ap0 (Lat.clm Lat.MG b.swaps)++[Lat.zj3 n]∧snS n b x=Lat.ap0 (Lat.clm Lat.MG b.swaps)∧((Lat.clm Lat.MG b.swaps)).length≤n∧(∀ t∈Lat.clm Lat.MG b.swaps,Lat.Sd n s t):=by
 obtain ⟨n,s,h1,h2,h3,h4,h5,h6,h7,h8⟩:=h
 have hl:∀ r∈b.swaps,r.length=n:=λr hr=>(h6.mem hr).1
 have eR:snR b x=Lat.ap0 (Lat.clm Lat.MG b.swaps)++[Lat.zj3 n]:=Lat.zmS hl h4 h8
 have eS:snS n b x=Lat.ap0 (Lat.clm Lat.MG b.swaps):=by
  unfold snS
  rw [eR,List.filter_append,List.filter_eq_self.mpr,List.filter_eq_nil_iff.mpr,List.append_nil]
  ·intro t ht
   rw [List.mem_singleton.mp ht,Lat.zeT];simp
  ·intro t ht
   obtain ⟨z,hz,rfl⟩:=List.mem_map.mp ht
   have T:=h6.sd z hz
   rw [Lat.zgm (by have:=T.len;have:=T.hd;omega)]
   simpa using T.hd
 exact ⟨n,s,h1,h2,h3,h4,h6.2.1,eR,eS,by have:=h6.len (i:=b.swaps.length);rwa [List.take_length] at this,h6.sd⟩
theorem zkh (h:SnS b x):b.swaps.length≤PySem.sizeLine∧(∀ s∈b.swaps,s.length+[(0:Int)].length≤PySem.sizeLine)∧x.length+[(-(1:Int))].length≤PySem.sizeLine∧(List.map (λ(r:Ji)=>r++[(0:Int)]) b.swaps).length+[x++[(-(1:Int))]].length≤PySem.sizeLine:=by
 obtain ⟨n,s,h1,h2,h3,h4,h5,h6,h7,h8⟩:=h
 exact ⟨zap (by omega),λs hs=>zap (by rw [(h6.mem hs).1,List.length_singleton];omega),zap (by rw [List.length_singleton];omega),zap (by rw [List.length_map,List.length_singleton];omega)⟩
theorem zrC (h:SnS b x):Lat.znm (Lat.zhA b.swaps x):=by
 obtain ⟨n,s,h1,h2,h3,h4,h5,h6,h7,h8⟩:=h
 exact .inr ⟨n+1,s,h6.ask h3 h5 h4 h7 h8⟩
theorem zsv (h:SnS b x) (hR:rows=za1 (Lat.zhA b.swaps x)):rows.length≤PySem.sizeLine:=by
 obtain ⟨n,s,h1,h2,h3,h4,h5,h6,h7,h8,h9⟩:=zkS h
 rw [zrt hR,h6,List.length_append,List.length_map,List.length_singleton]
 exact zap (by omega)
theorem zrZ (h:SnS b x) (hR:rows=za1 (Lat.zhA b.swaps x)) (hS:ss=List.map (λ(t:Ji)=>t) (List.filter (λ(t:Ji)=>decide (zah t<b.many)) rows)):LvP ss (b.many+(1:Int)):=by
 obtain ⟨n,s,h1,h2,h3,h4,h5,h6,h7,h8,h9⟩:=zkS h
 rw [zsS h1 (zrt hR) hS,h7]
 have:=Nat.mul_le_mul (show (Lat.ap0 (Lat.clm Lat.MG b.swaps)).length+1≤9 by rw [List.length_map];omega) (show s+9000≤209000 by omega)
 exact ⟨n,s,by omega,by omega,by rw [List.length_map];omega,λt ht=>by
  obtain ⟨z,hz,rfl⟩:=List.mem_map.mp ht
  exact (h9 z hz).app0,by omega⟩
theorem zrz (h:SnS b x) (hR:rows=za1 (Lat.zhA b.swaps x)) (hS:ss=List.map (λ(t:Ji)=>t) (List.filter (λ(t:Ji)=>decide (zah t<b.many)) rows)):rows.length=ss.length+1:=by
 obtain ⟨n,s,h1,h2,h3,h4,h5,h6,h7,h8,h9⟩:=zkS h
 rw [zsS h1 (zrt hR) hS,zrt hR,h6,h7,List.length_append,List.length_singleton]
theorem ztt (h:SnS b x) (hR:rows=za1 (Lat.zhA b.swaps x)) (hS:ss=List.map (λ(t:Ji)=>t) (List.filter (λ(t:Ji)=>decide (zah t<b.many)) rows)):decide (((ss.length:Nat):Int)=((rows.length:Nat):Int))=false:=decide_eq_false (by have:=zrz h hR hS;omega)
theorem zoy (h:SnS b x) (hR:rows=za1 (Lat.zhA b.swaps x)):ixD (ixD rows (-(1:Int))) b.many=1∧(ixD rows (-(1:Int))).length=b.many.toNat+1:=by
 obtain ⟨n,s,h1,h2,h3,h4,h5,h6,h7,h8,h9⟩:=zkS h
 rw [zrt hR,h6,zpV,h1,Lat.zcq,Lat.zdn,if_pos rfl]
 exact ⟨rfl,by unfold Lat.zj3;rw [List.length_append,List.length_replicate];rfl⟩
theorem zqW (h:SnS b x) (hR:rows=za1 (Lat.zhA b.swaps x)) (hS:ss=List.map (λ(t:Ji)=>t) (List.filter (λ(t:Ji)=>decide (zah t<b.many)) rows)):InB rows.length (-(1:Int))∧InB (ixD rows (-(1:Int))).length b.many:=by
 have z:=zrz h hR hS
 have y:=(zoy h hR).2
 obtain ⟨n,s,h1,_⟩:=h
 unfold InB
 omega
end
def m_shown (P0:BookD) (P1:Ji):(Int×(Option (LineD ⊕ RestD))) :=
 (Let (za1 ((List.map (λ(x118:Ji)=>(x118++[(0:Int)])) P0.swaps)++[(P1++[(-(1:Int))])])) (λ(v121:Jq)=>(Let (List.map (λ(x122:Ji)=>x122) (List.filter (λ(x122:Ji)=>(decide ((zah x122)<P0.many))) v121)) (λ(v125:Jq)=>(Let (zc7 v125 (P0.many+(1:Int))) (λ(v126:Ji)=>(Let (zct v126 none (some P0.many)) (λ(v127:Ji)=>(Let (ixD (ixD v121 (-(1:Int))) P0.many) (λ(v129:Int)=>((1:Int),none)))))))))))
def zfO (P0:BookD) (P1:Ji):Prop:=SnS P0 P1
def zir (K:W.Frag) (A:Adr):Sp:=Spv (ι:=BookD×Ji) (λx=>[zaK A.Book x.1,dL (List.map dI x.2)]) (λx=>zfO x.1 x.2) (λx=>↥[dT [dI ((m_shown x.1 x.2).1),dOpt (dSc A) ((m_shown x.1 x.2).2)]])
theorem zff:FnScope ["book","basket","rows","steps","numbers","weights","many","short"] ["book","basket"] (zad zeX):=⟨rfl,rfl,rfl,by decide+kernel,rfl,by decide+kernel,by decide+kernel⟩
theorem znr (F:Fun K "shown" "shown" zeX f fd) (T:Txt K mg A) (yaj:Callee P w K mg base (CXE P w) 5 "climbed" ["rows"] (zeh K A)) (yaa:Callee P w K mg base (CXE P w) 1 "head_of" ["row"] (zcb K A)) (ya5:Callee P w K mg base (CXE P w) 3 "levelled" ["steps","length"] (zfI K A)):FnOk P w K mg base (CXE P w) 6 f fd ["book","basket"] (zir K A):=by
 refine F.okV zff (λ_=>rfl) (λcdv Ar outer s H E x hr hp=> ?_)
 obtain ⟨P0,P1⟩:=x
 have hu:=hr.units
 replace hp:zfO P0 P1:=hp
 unfold zfO at hp
 refine ⟨_,(zac (zar (i:=2) zff.nd rfl (Or.inl rfl) (zaD yaj (hr.mono (by decide)) rfl zaB ↑[(zax zdO (zb0 rfl (.of (osc:=(zad zeX)) (N:=["book","basket","rows","steps","numbers","weights","many","short"]) (own:=["swap"]) (fvn:=[]) (fv:=[]) rfl rfl (by decide+kernel)) (zaP (K:=K) rfl (za2 (K:=K) rfl (pv 0) rfl)) (λ_ _ _ _ _=>⟨(zao (i:=0) (show (["swap"]:List Str).Nodup by decide+kernel) rfl (Or.inl rfl) (Or.inr rfl)),zbg,(zax zdO (pv 0) (zcf ↑[zai]))⟩)) (zcf ↑[zax zdO (pv 1) (zcf ↑[zn9 zj9 zai])]))])) (zac (zec (i:=3) rfl zff.nd rfl rfl (.of (osc:=(zad zeX)) (N:=["book","basket","rows","steps","numbers","weights","many","short"]) (own:=["row"]) (fvn:=["book"]) (fv:=[0]) rfl rfl (by decide+kernel)) (zaP (K:=K) rfl (pv 2)) (λ_ _ _ _ _=>⟨(zao (i:=0) (show (["row","book"]:List Str).Nodup by decide+kernel) rfl (Or.inl rfl) (Or.inr rfl)),(zjC (zaI ziU (zaD yaa (hr.mono (by decide)) rfl zaB ↑[pv 0]) (za2 (K:=K) rfl (pv 1) rfl) (zaQ _))),(pv 0)⟩)) (zac (zar (i:=4) zff.nd rfl (Or.inl rfl) (zaD ya5 (hr.mono (by decide)) rfl zaB ↑[pv 3,(zax zcZ (za2 (K:=K) rfl (pv 0) rfl) zai)])) (zac (zar (i:=5) zff.nd rfl (Or.inl rfl) (zcM (zb9 (K:=K) rfl) (pv 4) zeQ (zcF (za2 (K:=K) rfl (pv 0) rfl)))) (zac (zcI (zaI zf0 (za3 (zaR (K:=K) rfl) rfl T.len PySem.boot_len ↑[pv 3]) (za3 (zaR (K:=K) rfl) rfl T.len PySem.boot_len ↑[pv 2]) (zaQ _)) (zac zdG zag) zag) (zac (zar (i:=6) zff.nd rfl (Or.inl rfl) (zbk (zav (K:=K) rfl) (zbk (zav (K:=K) rfl) (pv 2) (zn9 zj9 zai) (λ_ _=>rfl)) (za2 (K:=K) rfl (pv 0) rfl) (λ_ _=>rfl))) (zac (zcI (zaI zf0 (pv 6) zai (zaQ _)) (zac (zaN (zho ↑[zai,zfv])) zag) zag) (zac zdG (zac zdG zag))))))))),.inl ?_⟩
 show L2.Run _ ([⇑[zaK A.Book P0],⇑[dL (List.map dI P1)],.no,.no,.no,.no,.no,.no]:L2.Ctx) _ ((λ(r:(Int×(Option (LineD⊕RestD))))=>Oc.rt true (dT [dI r.1,dOpt (dSc A) r.2])) (m_shown P0 P1))
 unfold m_shown
 exact (zaq (m:=true) (x:=(za1 ((List.map (λ(x118:Ji)=>(x118++[(0:Int)])) P0.swaps)++[(P1++[(-(1:Int))])]))) (λ(xs:Jq)=>dL (List.map lI xs)) (λ(r:(Int×(Option (LineD⊕RestD))))=>Oc.rt true (dT [dI r.1,dOpt (dSc A) r.2])) (zal (x:=((List.map (λ(x118:Ji)=>(x118++[(0:Int)])) P0.swaps)++[(P1++[(-(1:Int))])])) (zab (Ev.weak (K:=K) (EvO.ev (zcP (f:=lI) (xs:=(List.map (λ(x118:Ji)=>(x118++[(0:Int)])) P0.swaps)) (ys:=[(P1++[(-(1:Int))])]) (EvO.ev (EvO.conv (zb5 (g:=(λ(x118:Ji)=>dL (List.map dI (x118++[(0:Int)])))) (zbi (m:=false) lI (xs:=P0.swaps) (Ev.weak (K:=K) (zca (zaa (i:=0) rfl) T.Book_cl T.Book_swaps rfl))) ↥((zkh hp).1) ⟨by decide,by decide⟩ (λi119 x118 hx120=>have v120:=List.mem_of_getElem? hx120;(EvO.ev (EvO.anyI (m:=false) (zcP (f:=dI) (xs:=x118) (ys:=[(0:Int)]) (zaa (i:=0) rfl) (EvO.ev (zc5 (zab zaL zae) (by show 1≤sizeLine;decide))) ↥((zkh hp).2.1 _ (by assumption))))))) (by first|(rw [List.map_map];rfl)|(simp only [cond_true,cond_false];rw [List.map_map];rfl)))) (EvO.ev (zc5 (zab (EvO.ev (EvO.anyI (m:=false) (zcP (f:=dI) (xs:=P1) (ys:=[(-(1:Int))]) (zaa (i:=1) rfl) (EvO.ev (zc5 (zab (zn8 (x:=(1:Int)) zaL) zae) (by show 1≤sizeLine;decide))) ↥((zkh hp).2.2.1)))) zae) (by show 1≤sizeLine;decide))) ↥((zkh hp).2.2.2)))) zae) rfl (by show zc8 ((List.map (λ(x118:Ji)=>(x118++[(0:Int)])) P0.swaps)++[(P1++[(-(1:Int))])]);exact zrC hp) rfl) (λv121 hv121=>have hR:=hv121;(zaq (m:=true) (x:=(List.map (λ(x122:Ji)=>x122) (List.filter (λ(x122:Ji)=>(decide ((zah x122)<P0.many))) v121))) (λ(xs:Jq)=>dL (List.map lI xs)) (λ(r:(Int×(Option (LineD⊕RestD))))=>Oc.rt true (dT [dI r.1,dOpt (dSc A) r.2])) (EvO.ev (EvO.conv (ziB (c:=λ(x122:Ji)=>(decide ((zah x122)<P0.many))) (g:=(λ(x122:Ji)=>dL (List.map dI x122))) (zbi (m:=true) lI (xs:=v121) (Ev.weak (K:=K) (zaa (i:=2) rfl))) ↥(zsv hp hR) ⟨by decide,by decide⟩ (λi123 x122 hx124=>have v124:=List.mem_of_getElem? hx124;(zau (zaU (x:=(zah x122)) (y:=P0.many) (Ev.any (m:=true) (zal (x:=x122) (zab (Ev.old (Ev.weak (K:=K) (zaa (i:=0) rfl))) zae) rfl (by show zaY x122;exact trivial) rfl)) (Ev.any (m:=false) (zca (zaa (i:=1) rfl) T.Book_cl T.Book_many rfl))))) (λi123 x122 hx124 hc=>have v124:=List.mem_of_getElem? hx124;(zaa (i:=0) rfl))) (by first|(rw [List.map_map];rfl)|(simp only [cond_true,cond_false];rw [List.map_map];rfl)))) (λv125 hv125=>have hS:=hv125;(zaq (m:=true) (x:=(zc7 v125 (P0.many+(1:Int)))) lI (λ(r:(Int×(Option (LineD⊕RestD))))=>Oc.rt true (dT [dI r.1,dOpt (dSc A) r.2])) (zal (x:=(v125,(P0.many+(1:Int)))) (zab (Ev.old (Ev.weak (K:=K) (zaa (i:=3) rfl))) (zab (zaU (x:=P0.many) (y:=(1:Int)) (Ev.any (m:=false) (zca (zaa (i:=0) rfl) T.Book_cl T.Book_many rfl)) zaL) zae)) rfl (by show zd6 v125 (P0.many+(1:Int));exact zrZ hp hR hS) rfl) (λv126 hv126=>(zaq (m:=true) (x:=(zct v126 none (some P0.many))) lI (λ(r:(Int×(Option (LineD⊕RestD))))=>Oc.rt true (dT [dI r.1,dOpt (dSc A) r.2])) (EvO.ev (EvO.anyI (m:=true) (zdx (f:=dI) (xs:=v126) (Ev.weak (K:=K) (zaa (i:=4) rfl)) zd2 (zbN (Ev.any (m:=false) (zca (zaa (i:=0) rfl) T.Book_cl T.Book_many rfl)))))) (λv127 hv127=>(zcu (EvT.conv (zau (zd5 (x:=((v125.length:Nat):Int)) (y:=((v121.length:Nat):Int)) (zco (f:=lI) (xs:=v125) (Ev.old (Ev.weak (K:=K) (zaa (i:=3) rfl)))) (zco (f:=lI) (xs:=v121) (Ev.old (Ev.weak (K:=K) (zaa (i:=2) rfl)))))) ↥(ztt hp hR hS)) (zaz (zaq (m:=true) (x:=(ixD (ixD v121 (-(1:Int))) P0.many)) dI (λ(r:(Int×(Option (LineD⊕RestD))))=>Oc.rt true (dT [dI r.1,dOpt (dSc A) r.2])) (Ev.any (m:=true) (zci (f:=dI) (xs:=(ixD v121 (-(1:Int)))) (Ev.weak (K:=K) (zci (f:=lI) (xs:=v121) (Ev.weak (K:=K) (zaa (i:=2) rfl)) (zn8 (x:=(1:Int)) zaL) ↥((zqW hp hR hS).1))) (Ev.any (m:=false) (zca (zaa (i:=0) rfl) T.Book_cl T.Book_many rfl)) ↥((zqW hp hR hS).2))) (λv129 hv129=>have hM:=hv129;(zjq (EvT.conv (zau (zd5 (x:=v129) (y:=(1:Int)) (Ev.any (m:=true) (zaa (i:=6) rfl)) zaL)) ↥(decide_eq_true (hM.trans (zoy hp hR).1))) (zaG (zak (zaC (zgX (zab zaL (zab zaL zae)) (by show 2≤sizeLine;decide))))))))))))))))))
theorem zpL {b:BookD} {x:Ji} (h:SnS b x):m_shown b x=(1,none):=rfl
def zdC (P0:BookD) (P1:BookD):Unit:=()
def za0 (P0:BookD) (P1:BookD):Prop:=P0.many=P1.many
def zbe (K:W.Frag) (A:Adr):Sp:=Spv (ι:=BookD×BookD) (λx=>[zaK A.Book x.1,zaK A.Book x.2]) (λx=>za0 x.1 x.2) (λx=>↥[dN])
theorem zeR:FnScope ["one","other"] ["one","other"] (zad za6):=⟨rfl,rfl,rfl,by decide+kernel,rfl,by decide+kernel,by decide+kernel⟩
theorem ze3 (F:Fun K "refuse_other_wares" "refuse_other_wares" za6 f fd) (T:Txt K mg A) :FnOk P w K mg base (CXE P w) 1 f fd ["one","other"] (zbe K A):=by
 refine F.okV zeR (λ_=>rfl) (λcdv Ar outer s H E x hr hp=> ?_)
 obtain ⟨P0,P1⟩:=x
 have hu:=hr.units
 replace hp:za0 P0 P1:=hp
 unfold za0 at hp
 refine ⟨_,(zac (zcI (zaI zgq (za2 (K:=K) rfl (pv 0) rfl) (za2 (K:=K) rfl (pv 1) rfl) (zaQ _)) (zac zdG zag) zag) zag),.inr ⟨_,([⇑[zaK A.Book P0],⇑[zaK A.Book P1]]:L2.Ctx),rfl,?_⟩⟩
 show L2.Run _ ([⇑[zaK A.Book P0],⇑[zaK A.Book P1]]:L2.Ctx) _ _
 exact (zcu (EvT.conv (zau (zeK (x:=P0.many) (y:=P1.many) (Ev.any (m:=false) (zca (zaa (i:=0) rfl) T.Book_cl T.Book_many rfl)) (Ev.any (m:=false) (zca (zaa (i:=1) rfl) T.Book_cl T.Book_many rfl)))) ↥(zsx hp)) (zaz (zat (Wk.refl _))))
def WiQ (a b:BookD):Prop:=a.many=b.many∧∀ s∈a.swaps,SnS b s
theorem ztl {a b:BookD} {i:Nat} {p:Int×Ji} (h:WiQ a b) (q:i<a.swaps.length∧p.1=(i:Int)∧a.swaps[i]?=some p.2):SnS b p.2:=h.2 _ (List.mem_of_getElem? q.2.2)
def JoP (a b:BookD):Prop:=a.many=b.many∧zbK a.many (a.swaps++b.swaps)
def MtP (a b:BookD):Prop:=∃ W bt R:Nat,a.many=(W:Int)∧b.many=(W:Int)∧W≤8∧Lat.Fit (W+W) bt R∧a.swaps.length+b.swaps.length≤R∧(∀ r∈a.swaps,r.length=W∧Lat.Bit bt r)∧∀ r∈b.swaps,r.length=W∧Lat.Bit bt r
section
variable {a b:BookD} {d ss:Jq} {r:Ji}
theorem zty (h:MtP a b):a.many=b.many:=by obtain ⟨W,bt,R,h1,h2,_⟩:=h;rw [h1,h2]
theorem zr6 (h:MtP a b) (hr:r∈a.swaps):r.length+r.length≤PySem.sizeLine:=by
 obtain ⟨W,bt,R,h1,h2,h3,h4,h5,h6,h7⟩:=h
 exact zap (by rw [(h6 r hr).1];omega)
theorem zsH (h:MtP a b):a.swaps.length≤PySem.sizeLine:=by
 obtain ⟨W,bt,R,h1,h2,h3,h4,h5,h6,h7⟩:=h
 exact zap (by have:=h4.2.1;omega)
theorem zr2 (h:MtP a b):PdP b.swaps b.many:=by
 obtain ⟨W,bt,R,h1,h2,h3,h4,h5,h6,h7⟩:=h
 exact ⟨by omega,λr hr=>by rw [(h7 r hr).1];exact h3,by have:=h4.2.1;omega⟩
theorem zj2 {A B:Jq} {W bt:Nat} (h6:∀ r∈A,r.length=W∧Lat.Bit bt r) (h7:∀ r∈B,r.length=W∧Lat.Bit bt r):∀ r∈List.map (λ(x:Ji)=>x++x) A++zbr B (W:Int),r.length=W+W∧Lat.Bit bt r:=by
 intro r hr
 rcases List.mem_append.mp hr with hr | hr
 ·obtain ⟨x,hx,rfl⟩:=List.mem_map.mp hr
  refine ⟨by rw [List.length_append,(h6 x hx).1],λy hy=>?_⟩
  rcases List.mem_append.mp hy with hy | hy<;>exact (h6 x hx).2 y hy
 ·have hr:r∈List.map (λ(x:Ji)=>x++zbV (W:Int) [(0:Int)]) B:=hr
  obtain ⟨x,hx,rfl⟩:=List.mem_map.mp hr
  refine ⟨by rw [List.length_append,(h7 x hx).1,Lat.zcR],λy hy=>?_⟩
  rcases List.mem_append.mp hy with hy | hy
  ·exact (h7 x hx).2 y hy
  ·obtain ⟨j,_,rfl⟩:=Lat.zh6 hy
   rw [Lat.zdw];exact Nat.zero_le _
theorem znZ {A B:Jq} {W:Int}:(List.map (λ(x:Ji)=>x++x) A++zbr B W).length=A.length+B.length:=by
 rw [List.length_append,List.length_map]
 show _+(List.map _ B).length=_
 rw [List.length_map]
theorem zqS (h:MtP a b) (hD:d=List.map (λ(x:Ji)=>x++x) a.swaps):d.length+(zbr b.swaps b.many).length≤PySem.sizeLine:=by
 obtain ⟨W,bt,R,h1,h2,h3,h4,h5,h6,h7⟩:=h
 have:=znZ (A:=a.swaps) (B:=b.swaps) (W:=b.many)
 rw [List.length_append,← hD] at this
 exact zap (by have:=h4.2.1;omega)
theorem zqA (h:MtP a b) (hD:d=List.map (λ(x:Ji)=>x++x) a.swaps):Lat.ztd (d++zbr b.swaps b.many):=by
 obtain ⟨W,bt,R,h1,h2,h3,h4,h5,h6,h7⟩:=h
 rw [hD,h2]
 exact ⟨W+W,bt,R,h4,by rw [znZ];exact h5,zj2 h6 h7⟩
theorem zqL (h:MtP a b) (hD:d=List.map (λ(x:Ji)=>x++x) a.swaps) (hS:ss=za1 (d++zbr b.swaps b.many)):ss.length≤1000:=by
 obtain ⟨W,bt,R,h1,h2,h3,h4,h5,h6,h7⟩:=h
 have k:=(Lat.zh1 h4 (rows:=List.map (λ(x:Ji)=>x++x) a.swaps++zbr b.swaps (W:Int)) (by rw [znZ];exact h5) (zj2 h6 h7)).2.1
 have:=h4.2.1
 rw [hS,hD,h2,zfb];omega
theorem zsc (h:MtP a b) (hD:d=List.map (λ(x:Ji)=>x++x) a.swaps) (hS:ss=za1 (d++zbr b.swaps b.many)) {w:Int}:(zdy ss w).length≤1000:=by
 unfold zdy
 rw [List.length_map]
 exact Nat.le_trans (List.length_filter_le _ _) (zqL h hD hS)
end
def m_joined (P0:BookD) (P1:BookD):BookD :=
 (m_book_of P0.many (P0.swaps++P1.swaps))
def zeg (P0:BookD) (P1:BookD):Prop:=JoP P0 P1
def zf1 (K:W.Frag) (A:Adr):Sp:=Spv (ι:=BookD×BookD) (λx=>[zaK A.Book x.1,zaK A.Book x.2]) (λx=>zeg x.1 x.2) (λx=>↥[zaK A.Book (m_joined x.1 x.2)])
theorem zlX:FnScope ["one","other"] ["one","other"] (zad ze6):=⟨rfl,rfl,rfl,by decide+kernel,rfl,by decide+kernel,by decide+kernel⟩
theorem zmL (F:Fun K "joined" "joined" ze6 f fd) (T:Txt K mg A) (yam:Callee P w K mg base (CXE P w) 3 "book_of" ["many","swaps"] (ze9 K A)) (yac:Callee P w K mg base (CXE P w) 1 "refuse_other_wares" ["one","other"] (zbe K A)):FnOk P w K mg base (CXE P w) 4 f fd ["one","other"] (zf1 K A):=by
 refine F.okV zlX (λ_=>rfl) (λcdv Ar outer s H E x hr hp=> ?_)
 obtain ⟨P0,P1⟩:=x
 have hu:=hr.units
 replace hp:zeg P0 P1:=hp
 unfold zeg at hp
 refine ⟨_,(zac (zcG (zaD yac (hr.mono (by decide)) rfl zaB ↑[pv 0,pv 1])) (zac (zaN (zaD yam (hr.mono (by decide)) rfl zaB ↑[(za2 (K:=K) rfl (pv 0) rfl),(zax zdO (za2 (K:=K) rfl (pv 0) rfl) (za2 (K:=K) rfl (pv 1) rfl))])) zag)),.inl ?_⟩
 show L2.Run _ ([⇑[zaK A.Book P0],⇑[zaK A.Book P1]]:L2.Ctx) _ ((λ(r:BookD)=>Oc.rt true (zaK A.Book r)) (m_joined P0 P1))
 unfold m_joined
 exact (zev (m:=true) (Ev.any (m:=true) (zal (x:=(P0,P1)) (zab (zaa (i:=0) rfl) (zab (zaa (i:=1) rfl) zae)) rfl (by show za0 P0 P1;exact hp.1) rfl)) (zak (zaC (zal (x:=(P0.many,(P0.swaps++P1.swaps))) (zab (Ev.any (m:=false) (zca (zaa (i:=0) rfl) T.Book_cl T.Book_many rfl)) (zab (Ev.weak (K:=K) (EvO.ev (zcP (f:=lI) (xs:=P0.swaps) (ys:=P1.swaps) (zca (zaa (i:=0) rfl) T.Book_cl T.Book_swaps rfl) (zca (zaa (i:=1) rfl) T.Book_cl T.Book_swaps rfl) ↥(zap (by have z:=hp.2.2.2.1;rw [List.length_append] at z;omega))))) zae)) rfl (by show zbK P0.many (P0.swaps++P1.swaps);exact hp.2) rfl))))
def zbR (P0:BookD) (P1:BookD):BookD :=
 (Let (List.map (λ(x132:Ji)=>(x132++x132)) P0.swaps) (λ(v135:Jq)=>(Let (za1 (v135++(zbr P1.swaps P1.many))) (λ(v136:Jq)=>(zhU P0.many (zdy v136 P0.many))))))
def zgT (P0:BookD) (P1:BookD):Prop:=MtP P0 P1
def zkz (K:W.Frag) (A:Adr):Sp:=Spv (ι:=BookD×BookD) (λx=>[zaK A.Book x.1,zaK A.Book x.2]) (λx=>zgT x.1 x.2) (λx=>↥[zaK A.Book (zbR x.1 x.2)])
theorem zmr:FnScope ["one","other","doubled","steps"] ["one","other"] (zad zjp):=⟨rfl,rfl,rfl,by decide+kernel,rfl,by decide+kernel,by decide+kernel⟩
theorem zqP (F:Fun K "met" "met" zjp f fd) (T:Txt K mg A) (yaj:Callee P w K mg base (CXE P w) 5 "climbed" ["rows"] (zeh K A)) (ybA:Callee P w K mg base (CXE P w) 1 "padded" ["rows","many"] (zhf K A)) (yac:Callee P w K mg base (CXE P w) 1 "refuse_other_wares" ["one","other"] (zbe K A)) (ybN:Callee P w K mg base (CXE P w) 2 "tails" ["steps","many"] (ziq K A)) {ybf:Addr} {ya1:FuncData} (ya2:Mk K A.Book ybf) (yag:FnOk P w K mg base (CXE P w) 1 ybf ya1 ["self","many","swaps"] (zdB K A)) (yah:zgC K ya1 ["self","many","swaps"] []):FnOk P w K mg base (CXE P w) 6 f fd ["one","other"] (zkz K A):=by
 refine F.okV zmr (λ_=>rfl) (λcdv Ar outer s H E x hr hp=> ?_)
 obtain ⟨P0,P1⟩:=x
 have hu:=hr.units
 replace hp:zgT P0 P1:=hp
 unfold zgT at hp
 refine ⟨_,(zac (zcG (zaD yac (hr.mono (by decide)) rfl zaB ↑[pv 0,pv 1])) (zac (zec (i:=2) rfl zmr.nd rfl rfl (.of (osc:=(zad zjp)) (N:=["one","other","doubled","steps"]) (own:=["swap"]) (fvn:=[]) (fv:=[]) rfl rfl (by decide+kernel)) (zaP (K:=K) rfl (za2 (K:=K) rfl (pv 0) rfl)) (λ_ _ _ _ _=>⟨(zao (i:=0) (show (["swap"]:List Str).Nodup by decide+kernel) rfl (Or.inl rfl) (Or.inr rfl)),zbg,(zax zdO (pv 0) (pv 0))⟩)) (zac (zar (i:=3) zmr.nd rfl (Or.inl rfl) (zaD yaj (hr.mono (by decide)) rfl zaB ↑[(zax zdO (pv 2) (zaD ybA (hr.mono (by decide)) rfl zaB ↑[(za2 (K:=K) rfl (pv 1) rfl),(za2 (K:=K) rfl (pv 1) rfl)]))])) (zac (zaN (zjH ya2 yag (hr.mono (by decide)) rfl T.Book yah .nil zaB ↑[(za2 (K:=K) rfl (pv 0) rfl),(zaD ybN (hr.mono (by decide)) rfl zaB ↑[pv 3,(za2 (K:=K) rfl (pv 0) rfl)])])) zag)))),.inl ?_⟩
 show L2.Run _ ([⇑[zaK A.Book P0],⇑[zaK A.Book P1],.no,.no]:L2.Ctx) _ ((λ(r:BookD)=>Oc.rt true (zaK A.Book r)) (zbR P0 P1))
 unfold zbR
 exact (zev (m:=true) (Ev.any (m:=true) (zal (x:=(P0,P1)) (zab (zaa (i:=0) rfl) (zab (zaa (i:=1) rfl) zae)) rfl (by show za0 P0 P1;exact zty hp) rfl)) (zaq (m:=true) (x:=(List.map (λ(x132:Ji)=>(x132++x132)) P0.swaps)) (λ(xs:Jq)=>dL (List.map lI xs)) (λ(r:BookD)=>Oc.rt true (zaK A.Book r)) (EvO.ev (EvO.conv (zb5 (g:=(λ(x132:Ji)=>dL (List.map dI (x132++x132)))) (zbi (m:=false) lI (xs:=P0.swaps) (Ev.weak (K:=K) (zca (zaa (i:=0) rfl) T.Book_cl T.Book_swaps rfl))) ↥(zsH hp) ⟨by decide,by decide⟩ (λi133 x132 hx134=>have v134:=List.mem_of_getElem? hx134;(EvO.ev (EvO.anyI (m:=false) (zcP (f:=dI) (xs:=x132) (ys:=x132) (zaa (i:=0) rfl) (zaa (i:=0) rfl) ↥(zr6 hp (by assumption))))))) (by first|(rw [List.map_map];rfl)|(simp only [cond_true,cond_false];rw [List.map_map];rfl)))) (λv135 hv135=>have hD:=hv135;(zaq (m:=true) (x:=(za1 (v135++(zbr P1.swaps P1.many)))) (λ(xs:Jq)=>dL (List.map lI xs)) (λ(r:BookD)=>Oc.rt true (zaK A.Book r)) (zal (x:=(v135++(zbr P1.swaps P1.many))) (zab (Ev.old (Ev.weak (K:=K) (EvO.ev (zcP (f:=lI) (xs:=v135) (ys:=(zbr P1.swaps P1.many)) (zaa (i:=2) rfl) (zal (x:=(P1.swaps,P1.many)) (zab (Ev.weak (K:=K) (zca (zaa (i:=1) rfl) T.Book_cl T.Book_swaps rfl)) (zab (Ev.any (m:=false) (zca (zaa (i:=1) rfl) T.Book_cl T.Book_many rfl)) zae)) rfl (by show zfn P1.swaps P1.many;exact zr2 hp) rfl) ↥(zqS hp hD))))) zae) rfl (by show zc8 (v135++(zbr P1.swaps P1.many));exact .inl (zqA hp hD)) rfl) (λv136 hv136=>have hS:=hv136;(zak (zaC (zlY (i:=(P0.many,(zdy v136 P0.many))) (zab (Ev.any (m:=false) (zca (zaa (i:=0) rfl) T.Book_cl T.Book_many rfl)) (zab (Ev.old (Ev.weak (K:=K) (zal (x:=(v136,P0.many)) (zab (Ev.old (Ev.weak (K:=K) (zaa (i:=3) rfl))) (zab (Ev.any (m:=false) (zca (zaa (i:=0) rfl) T.Book_cl T.Book_many rfl)) zae)) rfl (by show zfS v136 P0.many;exact zqL hp hD hS) rfl))) zae)) rfl (by show zby P0.many (zdy v136 P0.many);exact zsc hp hD hS)))))))))
theorem Lat.meet_ok {W:Nat} {A B S:Jq} (hA:∀ r∈A,r.length=W) (hB:∀ r∈B,r.length=W) (St:Lat.Stairs (W+W) (List.map (λ(x:Ji)=>x++x) A++List.map (λ(x:Ji)=>x++zbV (W:Int) [(0:Int)]) B) S) :
  Lat.Ech W 0 (Lat.zdo W S)∧Lat.Red (Lat.zdo W S)∧∀ u,Lat.SpL (Lat.zdo W S) u ↔ Lat.SpL A u∧Lat.SpL B u:=by
 have van:∀ {C:Jq} {u:Lat.Vc},(∀ r∈C,r.length=W)->Lat.SpL C u->∀ j,W≤j->u j=0:=λhC h j hj=>Lat.Sp.at0 (λa ⟨s,hs,e⟩=>by rw [e];exact Lat.zbf (by rw [hC s hs];exact hj)) h
 have key:∀ v,Lat.SpL (List.map (λ(x:Ji)=>x++x) A++List.map (λ(x:Ji)=>x++zbV (W:Int) [(0:Int)]) B) v->∃ p q,Lat.SpL A p∧Lat.SpL B q∧∀ i,v i=if i<W then p i+q i else p (i-W):=by
  intro v hv
  induction hv with
  | zero=>exact ⟨λ_=>0,λ_=>0,Lat.Sp.zero,Lat.Sp.zero,λi=>by simp⟩
  | @add u a x _ ha ih =>
   obtain ⟨p,q,hp,hq,e⟩:=ih
   obtain ⟨s,hs,rfl⟩:=ha
   rcases List.mem_append.mp hs with hs | hs
   ·obtain ⟨t,ht,rfl⟩:=List.mem_map.mp hs
    refine ⟨λi=>p i+x*Lat.vec t i,q,Lat.Sp.add x hp ⟨t,ht,rfl⟩,hq,λi=>?_⟩
    show u i+x*Lat.vec (t++t) i=_
    rw [e i,Lat.zbT,hA t ht]
    by_cases hi:i<W
    ·rw [if_pos hi,if_pos hi,if_pos hi];dsimp only;omega
    ·rw [if_neg hi,if_neg hi,if_neg hi]
   ·obtain ⟨t,ht,rfl⟩:=List.mem_map.mp hs
    refine ⟨p,λi=>q i+x*Lat.vec t i,hp,Lat.Sp.add x hq ⟨t,ht,rfl⟩,λi=>?_⟩
    show u i+x*Lat.vec (t++zbV (W:Int) [(0:Int)]) i=_
    rw [e i,Lat.zbT,hB t ht,Lat.zdw]
    by_cases hi:i<W
    ·rw [if_pos hi,if_pos hi,if_pos hi];dsimp only;omega
    ·rw [if_neg hi,if_neg hi,if_neg hi];omega
 have tin:∀ t∈Lat.zdo W S,Lat.SpL A (Lat.vec t)∧Lat.SpL B (Lat.vec t):=λt ht=>by
  obtain ⟨s,hs,h1,rfl⟩:=Lat.zgV ht
  obtain ⟨p,q,hp,hq,e⟩:=key _ (St.inn s hs)
  have z:∀ i,i<W->Lat.vec s i=0:=λi hi=>Lat.za8 (by omega)
  have ep:∀ i,Lat.vec (s.drop W) i=p i:=λi=>by rw [Lat.zcL,e (W+i),if_neg (by omega),Nat.add_sub_cancel_left]
  have eq:∀ i,Lat.vec (s.drop W) i=-1*q i:=λi=>by
   rw [ep i]
   by_cases hi:i<W
   ·have:=e i
    rw [z i hi,if_pos hi] at this
    omega
   ·rw [van hA hp i (by omega),van hB hq i (by omega)];rfl
  exact ⟨hp.conv λi=>(ep i).symm,(hq.smul (-1)).conv λi=>(eq i).symm⟩
 refine ⟨by have:=Lat.zhj St.ech;exact this.mono (Nat.zero_le _),Lat.zhi St.ech St.red,λu=>⟨λh=>⟨Lat.SpL.sub (λt ht=>(tin t ht).1) h,Lat.SpL.sub (λt ht=>(tin t ht).2) h⟩,λ⟨ha,hb⟩=>?_⟩⟩
 have h1:Lat.SpL (List.map (λ(x:Ji)=>x++x) A++List.map (λ(x:Ji)=>x++zbV (W:Int) [(0:Int)]) B) (λi=>if i<W then u i else u (i-W)):=Lat.Sp.image (g:=λu i=>if i<W then u i else u (i-W)) (λi=>by simp) (λu a x i=>by dsimp only;split<;>rfl) (λa ⟨s,hs,e⟩=>Lat.Sp.mem ⟨s++s,List.mem_append_left _ (List.mem_map.mpr ⟨s,hs,rfl⟩),by rw [e];funext i;rw [Lat.zbT,hA s hs]⟩) ha
 have h2:Lat.SpL (List.map (λ(x:Ji)=>x++x) A++List.map (λ(x:Ji)=>x++zbV (W:Int) [(0:Int)]) B) u:=Lat.Sp.sub (λa ⟨s,hs,e⟩=>Lat.Sp.mem ⟨s++zbV (W:Int) [(0:Int)],List.mem_append_right _ (List.mem_map.mpr ⟨s,hs,rfl⟩),by
  rw [e];funext i
  rw [Lat.zbT,hB s hs,Lat.zdw]
  by_cases hi:i<W
  ·rw [if_pos hi]
  ·rw [if_neg hi];exact Lat.zbf (by rw [hB s hs];omega)⟩) hb
 have h3:=(Lat.Sp.lin 1 (-1) h1 h2).conv (v:=λi=>if i<W then 0 else u (i-W)) λi=>by
  by_cases hi:i<W
  ·simp only [if_pos hi];omega
  ·simp only [if_neg hi]
   have:=van hA ha i (by omega)
   omega
 have hs:=Lat.SpL.sub (λm hm=>St.out m hm) h3
 have ht:=Lat.zjG (n:=W) St.ech hs λi hi=>by simp [hi]
 have:=Lat.Sp.image (g:=λu=>λi=>u (W+i)) (B:=λu=>∃ s∈Lat.zdo W S,u=Lat.vec s) (λi=>rfl) (λu a x i=>rfl) (λa ⟨s,hs',e⟩=>by
  refine Lat.Sp.mem ⟨s.drop W,?_,?_⟩
  ·unfold Lat.zdo
   exact List.mem_map.mpr ⟨s,hs',rfl⟩
  ·rw [e];exact funext λi=>(Lat.zcL).symm) ht
 refine Lat.Sp.conv this λi=>?_
 show (if W+i<W then (0:Int) else u (W+i-W))=u i
 rw [if_neg (by omega),Nat.add_sub_cancel_left]
theorem zi1 {a b:BookD} {W:Nat} (h1:a.many=(W:Int)) (h2:b.many=(W:Int)):zbR a b=⟨(W:Int),Lat.zdo W (Lat.clm Lat.MG (List.map (λ(x:Ji)=>x++x) a.swaps++List.map (λ(x:Ji)=>x++zbV (W:Int) [(0:Int)]) b.swaps))⟩:=by
 unfold zbR Let
 dsimp only
 rw [zfb,h1,h2,znC]
 unfold zhU
 simp [zbr]
theorem zmF {a b:BookD} {W:Nat} (h1:a.many=(W:Int)) (h2:b.many=(W:Int)) (hA:∀ r∈a.swaps,r.length=W) (hB:∀ r∈b.swaps,r.length=W):Lat.Ech W 0 (zbR a b).swaps∧Lat.Red (zbR a b).swaps∧∀ u,Lat.SpL (zbR a b).swaps u ↔ Lat.SpL a.swaps u∧Lat.SpL b.swaps u:=by
 rw [zi1 h1 h2]
 refine Lat.meet_ok hA hB (Lat.zaV λr hr=>?_).1
 rcases List.mem_append.mp hr with hr | hr
 ·obtain ⟨x,hx,rfl⟩:=List.mem_map.mp hr
  rw [List.length_append,hA x hx]
 ·obtain ⟨x,hx,rfl⟩:=List.mem_map.mp hr
  rw [List.length_append,hB x hx,Lat.zcR]
theorem zoJ {a b:BookD} {W bt R:Nat} (h1:a.many=(W:Int)) (h2:b.many=(W:Int)) (h4:Lat.Fit (W+W) bt R) (h5:a.swaps.length+b.swaps.length≤R) (h6:∀ r∈a.swaps,r.length=W∧Lat.Bit bt r) (h7:∀ r∈b.swaps,r.length=W∧Lat.Bit bt r):(zbR a b).swaps.length≤31∧∀ t∈(zbR a b).swaps,Lat.Sd W (Lat.sB bt R) t:=by
 obtain ⟨_,k1,k2⟩:=Lat.zh1 h4 (rows:=List.map (λ(x:Ji)=>x++x) a.swaps++zbr b.swaps (W:Int)) (by rw [znZ];exact h5) (zj2 h6 h7)
 rw [zi1 h1 h2]
 refine ⟨?_,λt ht=>?_⟩
 ·show (Lat.zdo _ _).length≤31
  unfold Lat.zdo
  rw [List.length_map]
  refine Nat.le_trans (List.length_filter_le _ _) (Nat.le_trans k1 ?_)
  have:=h4.2.1;omega
 ·obtain ⟨s,hs,q1,rfl⟩:=Lat.zgV ht
  exact (k2 s hs).drop q1
def zbq (P0:BookD) (P1:BookD):(Option (Int×(LineD ⊕ RestD))) :=
 (zjn (zbE (λ(s137:Unit) (x138:(Int×Ji))=>(((Let ((m_shown P1 x138.2).2) (λ(v142:(Option (LineD⊕RestD)))=>(bif v142.isSome then (Sum.inr (some (x138.1,(gS v142)))) else (Sum.inl ()))))):(Unit)⊕(Option (Int×(LineD⊕RestD))))) () (zdE P0.swaps)) (λ(r144:Unit)=>none) (λb=>b))
def zdd (P0:BookD) (P1:BookD):Prop:=WiQ P0 P1
def zfT (K:W.Frag) (A:Adr):Sp:=Spv (ι:=BookD×BookD) (λx=>[zaK A.Book x.1,zaK A.Book x.2]) (λx=>zdd x.1 x.2) (λx=>↥[dOpt (λ(p:(Int×(LineD⊕RestD)))=>dT [dI p.1,dSc A p.2]) (zbq x.1 x.2)])
theorem zga:FnScope ["one","other","place","swap","scale"] ["one","other"] (zad zfh):=⟨rfl,rfl,rfl,by decide+kernel,rfl,by decide+kernel,by decide+kernel⟩
theorem zmt (F:Fun K "within" "within" zfh f fd) (T:Txt K mg A) (yac:Callee P w K mg base (CXE P w) 1 "refuse_other_wares" ["one","other"] (zbe K A)) (ybO:Callee P w K mg base (CXE P w) 6 "shown" ["book","basket"] (zir K A)):FnOk P w K mg base (CXE P w) 7 f fd ["one","other"] (zfT K A):=by
 refine F.okV zga (λ_=>rfl) (λcdv Ar outer s H E x hr hp=> ?_)
 obtain ⟨P0,P1⟩:=x
 have hu:=hr.units
 replace hp:zdd P0 P1:=hp
 unfold zdd at hp
 refine ⟨_,(zac (zcG (zaD yac (hr.mono (by decide)) rfl zaB ↑[pv 0,pv 1])) (zac (zcE PassesOwn.never rfl (zgr rfl rfl T.enumerate ↑[(za2 (K:=K) rfl (pv 0) rfl)]) (zbJ (K:=K) (n:=2) rfl rfl (zaF (zao (i:=2) zga.nd rfl (Or.inl rfl) (Or.inl rfl)) (zaF (zao (i:=3) zga.nd rfl (Or.inl rfl) (Or.inl rfl)) zcj))) (zac (zar (i:=4) zga.nd rfl (Or.inl rfl) (zbk (zch (K:=K) rfl) (zaD ybO (hr.mono (by decide)) rfl zaB ↑[pv 1,pv 3]) zai (λ_ _=>rfl))) (zac (zcI (zaI zgS (pv 4) zfv (zaQ _)) (zac (zaN (zho ↑[pv 2,pv 4])) zag) zag) zag))) (zac (zaN zfv) zag))),.inl ?_⟩
 show L2.Run _ ([⇑[zaK A.Book P0],⇑[zaK A.Book P1],.no,.no,.no]:L2.Ctx) _ ((λ(r:(Option (Int×(LineD⊕RestD))))=>Oc.rt true (dOpt (λ(p:(Int×(LineD⊕RestD)))=>dT [dI p.1,dSc A p.2]) r)) (zbq P0 P1))
 unfold zbq
 exact (zev (m:=true) (Ev.any (m:=true) (zal (x:=(P0,P1)) (zab (zaa (i:=0) rfl) (zab (zaa (i:=1) rfl) zae)) rfl (by show za0 P0 P1;exact hp.1) rfl)) (zfa (s0:=()) (λ(s137:Unit)=>([⇑[zaK A.Book P0],⇑[zaK A.Book P1],.no,.no,.no]:L2.Ctx)) (λ(r:(Option (Int×(LineD⊕RestD))))=>Oc.rt true (dOpt (λ(p:(Int×(LineD⊕RestD)))=>dT [dI p.1,dSc A p.2]) r)) (λb=>b) (λ(s137:Unit) (x138:(Int×Ji))=>(((Let ((m_shown P1 x138.2).2) (λ(v142:(Option (LineD⊕RestD)))=>(bif v142.isSome then (Sum.inr (some (x138.1,(gS v142)))) else (Sum.inl ()))))):(Unit)⊕(Option (Int×(LineD⊕RestD))))) (λ_ _=>True) (λb=> .inl ⟨_,_,rfl⟩) (zgd (m:=false) lI (xs:=P0.swaps) (Ev.weak (K:=K) (zca (zaa (i:=0) rfl) T.Book_cl T.Book_swaps rfl))) (.eq (.eq (.eq (.eq (.eq .nil))))) trivial (λi139 x138 s137 hx140 hI141=>have v140:=zcK hx140;⟨(λ_ _=>trivial),(zaq (m:=true) (x:=(m_shown P1 x138.2).2) (dOpt (dSc A)) (zf7 (λ(s137:Unit)=>([⇑[zaK A.Book P0],⇑[zaK A.Book P1],.no,.no,.no]:L2.Ctx)) (λ(r:(Option (Int×(LineD⊕RestD))))=>Oc.rt true (dOpt (λ(p:(Int×(LineD⊕RestD)))=>dT [dI p.1,dSc A p.2]) r))) (zdD (zal (x:=(P1,x138.2)) (zab (zaa (i:=1) rfl) (zab (zaa (i:=3) rfl) zae)) rfl (by show zfO P1 x138.2;exact ztl hp (by assumption)) rfl) zaL rfl) (λv142 hv142=>(zbc (b:=v142.isSome) (zf7 (λ(s137:Unit)=>([⇑[zaK A.Book P0],⇑[zaK A.Book P1],.no,.no,.no]:L2.Ctx)) (λ(r:(Option (Int×(LineD⊕RestD))))=>Oc.rt true (dOpt (λ(p:(Int×(LineD⊕RestD)))=>dT [dI p.1,dSc A p.2]) r))) (zau (zds (x:=v142) (f:=(dSc A)) (Ev.old (zaa (i:=4) rfl)) zaL ztw)) (λh143=>(zaG (zak (zaC (zgX (zab (Ev.any (m:=false) (zaa (i:=2) rfl)) (zab (ev_some (f:=(dSc A)) (x:=v142) (zaa (i:=4) rfl) ↥((by assumption))) zae)) (by show 2≤sizeLine;decide)))))) (λh143=>(zaz (zat (.eq (.eq (.no (.no (.no .nil)))))))))))⟩) (λr144 hr144 hI=>(zak (zaC zaL)))))
def zfV (P0:Jq) (P1:Ji) (P2:Jq):StairsD:=⟨P0,P1,P2⟩
def zbX (P0:Jq) (P1:Ji) (P2:Jq):Prop:=True
def zd1 (K:W.Frag) (A:Adr):Sp:=zrP (ι:=Jq×Ji×Jq) A.Stairs (λx=>[dL (List.map lI x.1),dL (List.map dI x.2.1),dL (List.map lI x.2.2)]) (λx=>zbX x.1 x.2.1 x.2.2) false (λx=>[("steps",dL (List.map lI (((zfV x.1 x.2.1 x.2.2)).steps))),("heads",dL (List.map dI (((zfV x.1 x.2.1 x.2.2)).heads))),("roads",dL (List.map lI (((zfV x.1 x.2.1 x.2.2)).roads)))])
theorem zfQ:FnScope ["self","steps","heads","roads"] ["self","steps","heads","roads"] (zad zbv):=⟨rfl,rfl,rfl,by decide+kernel,rfl,by decide+kernel,by decide+kernel⟩
theorem zfY (F:Fun K "__init__" "Stairs.__init__" zbv f fd) (T:Txt K mg A) :FnOk P w K mg base (CXE P w) 1 f fd ["self","steps","heads","roads"] (zd1 K A):=by
 refine F.okI zfQ (λ_=>rfl) (λcdv Ar outer s H E x hr hp=> ?_)
 obtain ⟨P0,P1,P2⟩:=x
 have hu:=hr.units
 replace hp:zbX P0 P1 P2:=hp
 unfold zbX at hp
 refine ⟨_,(zac (zjh (pv 0) (pv 1) rfl) (zac (zjh (pv 0) (pv 2) rfl) (zac (zjh (pv 0) (pv 3) rfl) zag))),λp dx=>⟨([.ob false A.Stairs p dx [("steps",dL (List.map lI P0)),("heads",dL (List.map dI P1)),("roads",dL (List.map lI P2))],⇑[dL (List.map lI P0)],⇑[dL (List.map dI P1)],⇑[dL (List.map lI P2)]]:L2.Ctx),?_,rfl⟩⟩
 show L2.Run _ ([.ob false A.Stairs p dx [],⇑[dL (List.map lI P0)],⇑[dL (List.map dI P1)],⇑[dL (List.map lI P2)]]:L2.Ctx) _ _
 exact (zf4 (i:=0) rfl (zaa (i:=1) rfl) T.Stairs_cl T.Stairs_steps [] rfl (by decide+kernel) (by decide) (zf4 (i:=0) rfl (zaa (i:=2) rfl) T.Stairs_cl T.Stairs_heads ["steps"] rfl (by decide+kernel) (by decide) (zf4 (i:=0) rfl (zaa (i:=3) rfl) T.Stairs_cl T.Stairs_roads ["steps","heads"] rfl (by decide+kernel) (by decide) (zat (Wk.refl _)))))
def zbt (P0:BookD):StairsD :=
 (Let (List.map (λ(x145:Ji)=>x145) (List.filter (λ(x145:Ji)=>(decide ((zah x145)<P0.many))) (zcD P0.swaps))) (λ(v148:Jq)=>(Let (List.map (λ(x149:Ji)=>(zct x149 none (some P0.many))) v148) (λ(v152:Jq)=>(Let (List.map (λ(x153:Ji)=>(zah x153)) v148) (λ(hv156:Ji)=>(Let (List.map (λ(x157:Ji)=>(zct x157 (some P0.many) none)) v148) (λ(v160:Jq)=>(zfV v152 hv156 v160)))))))))
def zde (P0:BookD):Prop:=TrQ P0.swaps∧0≤P0.many∧P0.many≤100
def zf3 (K:W.Frag) (A:Adr):Sp:=Spv (ι:=BookD) (λx=>[zaK A.Book x]) (λx=>zde x) (λx=>↥[zfA A.Stairs (zbt x)])
theorem zeV:FnScope ["book","rows","steps","heads","roads"] ["book"] (zad zdj):=⟨rfl,rfl,rfl,by decide+kernel,rfl,by decide+kernel,by decide+kernel⟩
theorem zlI (F:Fun K "stairs" "stairs" zdj f fd) (T:Txt K mg A) (yaa:Callee P w K mg base (CXE P w) 1 "head_of" ["row"] (zcb K A)) (ybB:Callee P w K mg base (CXE P w) 6 "traced" ["rows"] (zhl K A)) {ycp:Addr} {yb8:FuncData} (ybC:Mk K A.Stairs ycp) (yap:FnOk P w K mg base (CXE P w) 1 ycp yb8 ["self","steps","heads","roads"] (zd1 K A)) (yaq:zgC K yb8 ["self","steps","heads","roads"] []):FnOk P w K mg base (CXE P w) 7 f fd ["book"] (zf3 K A):=by
 refine F.okV zeV (λ_=>rfl) (λcdv Ar outer s H E P0 hr hp=> ?_)
 have hu:=hr.units
 replace hp:zde P0:=hp
 unfold zde at hp
 refine ⟨_,(zac (zec (i:=1) rfl zeV.nd rfl rfl (.of (osc:=(zad zdj)) (N:=["book","rows","steps","heads","roads"]) (own:=["row"]) (fvn:=["book"]) (fv:=[0]) rfl rfl (by decide+kernel)) (zaP (K:=K) rfl (zaD ybB (hr.mono (by decide)) rfl zaB ↑[(za2 (K:=K) rfl (pv 0) rfl)])) (λ_ _ _ _ _=>⟨(zao (i:=0) (show (["row","book"]:List Str).Nodup by decide+kernel) rfl (Or.inl rfl) (Or.inr rfl)),(zjC (zaI ziU (zaD yaa (hr.mono (by decide)) rfl zaB ↑[pv 0]) (za2 (K:=K) rfl (pv 1) rfl) (zaQ _))),(pv 0)⟩)) (zac (zec (i:=2) rfl zeV.nd rfl rfl (.of (osc:=(zad zdj)) (N:=["book","rows","steps","heads","roads"]) (own:=["row"]) (fvn:=["book"]) (fv:=[0]) rfl rfl (by decide+kernel)) (zaP (K:=K) rfl (pv 1)) (λ_ _ _ _ _=>⟨(zao (i:=0) (show (["row","book"]:List Str).Nodup by decide+kernel) rfl (Or.inl rfl) (Or.inr rfl)),zbg,(zcM (zb9 (K:=K) rfl) (pv 0) zeQ (zcF (za2 (K:=K) rfl (pv 1) rfl)))⟩)) (zac (zec (i:=3) rfl zeV.nd rfl rfl (.of (osc:=(zad zdj)) (N:=["book","rows","steps","heads","roads"]) (own:=["row"]) (fvn:=[]) (fv:=[]) rfl rfl (by decide+kernel)) (zaP (K:=K) rfl (pv 1)) (λ_ _ _ _ _=>⟨(zao (i:=0) (show (["row"]:List Str).Nodup by decide +kernel) rfl (Or.inl rfl) (Or.inr rfl)),zbg,(zaD yaa (hr.mono (by decide)) rfl zaB ↑[pv 0])⟩)) (zac (zec (i:=4) rfl zeV.nd rfl rfl (.of (osc:=(zad zdj)) (N:=["book","rows","steps","heads","roads"]) (own:=["row"]) (fvn:=["book"]) (fv:=[0]) rfl rfl (by decide+kernel)) (zaP (K:=K) rfl (pv 1)) (λ_ _ _ _ _=>⟨(zao (i:=0) (show (["row","book"]:List Str).Nodup by decide+kernel) rfl (Or.inl rfl) (Or.inr rfl)),zbg,(zcM (zb9 (K:=K) rfl) (pv 0) (zcF (za2 (K:=K) rfl (pv 1) rfl)) zeQ)⟩)) (zac (zaN (zjH ybC yap (hr.mono (by decide)) rfl T.Stairs yaq .nil zaB ↑[pv 2,pv 3,pv 4])) zag))))),.inl ?_⟩
 show L2.Run _ ([⇑[zaK A.Book P0],.no,.no,.no,.no]:L2.Ctx) _ ((λ(r:StairsD)=>Oc.rt true (zfA A.Stairs r)) (zbt P0))
 unfold zbt
 exact (zaq (m:=true) (x:=(List.map (λ(x145:Ji)=>x145) (List.filter (λ(x145:Ji)=>(decide ((zah x145)<P0.many))) (zcD P0.swaps)))) (λ(xs:Jq)=>dL (List.map lI xs)) (λ(r:StairsD)=>Oc.rt true (zfA A.Stairs r)) (EvO.ev (EvO.conv (ziB (c:=λ(x145:Ji)=>(decide ((zah x145)<P0.many))) (g:=(λ(x145:Ji)=>dL (List.map dI x145))) (zbi (m:=true) lI (xs:=(zcD P0.swaps)) (Ev.weak (K:=K) (zal (x:=P0.swaps) (zab (Ev.weak (K:=K) (zca (zaa (i:=0) rfl) T.Book_cl T.Book_swaps rfl)) zae) rfl (by show zfs P0.swaps;exact hp.1) rfl))) ↥(zqi hp.1) ⟨by decide,by decide⟩ (λi146 x145 hx147=>have v147:=List.mem_of_getElem? hx147;(zau (zaU (x:=(zah x145)) (y:=P0.many) (Ev.any (m:=true) (zal (x:=x145) (zab (Ev.old (Ev.weak (K:=K) (zaa (i:=0) rfl))) zae) rfl (by show zaY x145;exact trivial) rfl)) (Ev.any (m:=false) (zca (zaa (i:=1) rfl) T.Book_cl T.Book_many rfl))))) (λi146 x145 hx147 hc=>have v147:=List.mem_of_getElem? hx147;(zaa (i:=0) rfl))) (by first|(rw [List.map_map];rfl)|(simp only [cond_true,cond_false];rw [List.map_map];rfl)))) (λv148 hv148=>have hR:=znS hp.1 hv148;(zaq (m:=true) (x:=(List.map (λ(x149:Ji)=>(zct x149 none (some P0.many))) v148)) (λ(xs:Jq)=>dL (List.map lI xs)) (λ(r:StairsD)=>Oc.rt true (zfA A.Stairs r)) (EvO.ev (EvO.conv (zb5 (g:=(λ(x149:Ji)=>dL (List.map dI (zct x149 none (some P0.many))))) (zbi (m:=true) lI (xs:=v148) (Ev.weak (K:=K) (zaa (i:=1) rfl))) ↥(zap (by omega)) ⟨by decide,by decide⟩ (λi150 x149 hx151=>have v151:=List.mem_of_getElem? hx151;(EvO.ev (EvO.anyI (m:=true) (zdx (f:=dI) (xs:=x149) (Ev.weak (K:=K) (zaa (i:=0) rfl)) zd2 (zbN (Ev.any (m:=false) (zca (zaa (i:=1) rfl) T.Book_cl T.Book_many rfl)))))))) (by first|(rw [List.map_map];rfl)|(simp only [cond_true,cond_false];rw [List.map_map];rfl)))) (λv152 hv152=>(zaq (m:=true) (x:=(List.map (λ(x153:Ji)=>(zah x153)) v148)) lI (λ(r:StairsD)=>Oc.rt true (zfA A.Stairs r)) (EvO.ev (EvO.conv (zb5 (g:=(λ(x153:Ji)=>dI (zah x153))) (zbi (m:=true) lI (xs:=v148) (Ev.weak (K:=K) (zaa (i:=1) rfl))) ↥(zap (by omega)) ⟨by decide,by decide⟩ (λi154 x153 hx155=>have v155:=List.mem_of_getElem? hx155;(Ev.any (m:=true) (zal (x:=x153) (zab (Ev.old (Ev.weak (K:=K) (zaa (i:=0) rfl))) zae) rfl (by show zaY x153;exact trivial) rfl)))) (by first|(rw [List.map_map];rfl)|(simp only [cond_true,cond_false];rw [List.map_map];rfl)))) (λhv156 hheads156=>(zaq (m:=true) (x:=(List.map (λ(x157:Ji)=>(zct x157 (some P0.many) none)) v148)) (λ(xs:Jq)=>dL (List.map lI xs)) (λ(r:StairsD)=>Oc.rt true (zfA A.Stairs r)) (EvO.ev (EvO.conv (zb5 (g:=(λ(x157:Ji)=>dL (List.map dI (zct x157 (some P0.many) none)))) (zbi (m:=true) lI (xs:=v148) (Ev.weak (K:=K) (zaa (i:=1) rfl))) ↥(zap (by omega)) ⟨by decide,by decide⟩ (λi158 x157 hx159=>have v159:=List.mem_of_getElem? hx159;(EvO.ev (EvO.anyI (m:=true) (zdx (f:=dI) (xs:=x157) (Ev.weak (K:=K) (zaa (i:=0) rfl)) (zbN (Ev.any (m:=false) (zca (zaa (i:=1) rfl) T.Book_cl T.Book_many rfl))) zd2))))) (by first|(rw [List.map_map];rfl)|(simp only [cond_true,cond_false];rw [List.map_map];rfl)))) (λv160 hv160=>(zak (zaC (zn0 (i:=(v152,hv156,v160)) (zab (zaa (i:=2) rfl) (zab (zaa (i:=3) rfl) (zab (zaa (i:=4) rfl) zae))) rfl (by show zbX v152 hv156 v160;exact trivial))))))))))))
def zfx (n:Nat) (sw:Jq):Jq:=List.filter (λ(x:Ji)=>decide (Lat.hd x<n)) (Lat.clm Lat.MG (Lat.mark sw))
theorem zeP {b:BookD} {n:Nat} (hn:b.many=(n:Int)):zbt b=⟨Lat.zhB n (Lat.clm Lat.MG (Lat.mark b.swaps)),List.map (λ(x:Ji)=>(Lat.hd x:Int)) (zfx n b.swaps),List.map (λ(x:Ji)=>x.drop n) (zfx n b.swaps)⟩:=by
 unfold zbt zfV Let
 simp only [zjk,zce,hn,znt,Lat.zfe]
 have e:(λ(x:Ji)=>decide ((Lat.hd x:Int)<(n:Int)))=λ(x:Ji)=>decide (Lat.hd x<n):=funext λx=>by simp
 rw [e,List.map_id']
 rfl
def zcJ (P0:BookD) (P1:Ji):Ji :=
 (m_lowered P1 ((zbt P0).steps))
def ze7 (P0:BookD) (P1:Ji):Prop:=(P1.length:Int)=P0.many∧zde P0∧Lat.LowP P1 (zbt P0).steps
def zjW (K:W.Frag) (A:Adr):Sp:=Spv (ι:=BookD×Ji) (λx=>[zaK A.Book x.1,dQ K (List.map dI x.2)]) (λx=>ze7 x.1 x.2) (λx=>↥[dL (List.map dI (zcJ x.1 x.2))])
theorem zpB:FnScope ["book","basket"] ["book","basket"] (zad zhJ):=⟨rfl,rfl,rfl,by decide+kernel,rfl,by decide+kernel,by decide+kernel⟩
theorem zpx (F:Fun K "home" "home" zhJ f fd) (T:Txt K mg A) (yai:Callee P w K mg base (CXE P w) 3 "lowered" ["row","steps"] (zeu K A)) (yal:Callee P w K mg base (CXE P w) 1 "refuse_bad_basket" ["book","basket"] (zcH K A)) (yaz:Callee P w K mg base (CXE P w) 7 "stairs" ["book"] (zf3 K A)):FnOk P w K mg base (CXE P w) 8 f fd ["book","basket"] (zjW K A):=by
 refine F.okV zpB (λ_=>rfl) (λcdv Ar outer s H E x hr hp=> ?_)
 obtain ⟨P0,P1⟩:=x
 have hu:=hr.units
 replace hp:ze7 P0 P1:=hp
 unfold ze7 at hp
 refine ⟨_,(zac (zcG (zaD yal (hr.mono (by decide)) rfl zaB ↑[pv 0,pv 1])) (zac (zaN (zaD yai (hr.mono (by decide)) rfl zaB ↑[pv 1,(za2 (K:=K) rfl (zaD yaz (hr.mono (by decide)) rfl zaB ↑[pv 0]) rfl)])) zag)),.inl ?_⟩
 show L2.Run _ ([⇑[zaK A.Book P0],⇑[dQ K (List.map dI P1)]]:L2.Ctx) _ ((λ(r:Ji)=>Oc.rt true (dL (List.map dI r))) (zcJ P0 P1))
 unfold zcJ
 exact (zev (m:=true) (Ev.any (m:=true) (zal (x:=(P0,P1)) (zab (zaa (i:=0) rfl) (zab (zaa (i:=1) rfl) zae)) rfl (by show zbF P0 P1;exact hp.1) rfl)) (zak (zaC (zal (x:=(P1,(zbt P0).steps)) (zab (zaa (i:=1) rfl) (zab (Ev.old (Ev.weak (K:=K) (zca (zal (x:=P0) (zab (zaa (i:=0) rfl) zae) rfl (by show zde P0;exact hp.2.1) rfl) T.Stairs_cl T.Stairs_steps rfl))) zae)) rfl (by show zcp P1 ((zbt P0).steps);exact hp.2.2) rfl))))
theorem zoW {b:BookD} {n:Nat} (hn:b.many=(n:Int)) (x:Ji):zcJ b x=Lat.low x (Lat.zhB n (Lat.clm Lat.MG (Lat.mark b.swaps))):=by
 unfold zcJ
 rw [zdH,zeP hn]
theorem zkW {n:Nat} {sw:Jq} (h:∀ r∈sw,r.length=n):Lat.zhB n (Lat.clm Lat.MG (Lat.mark sw))=Lat.clm Lat.MG sw:=by
 have T:=Lat.zaV (n:=n+sw.length) (rows:=Lat.mark sw) λm hm=>by
  obtain ⟨i,r,hr,rfl⟩:=Lat.zeF hm
  rw [List.length_append,h r (List.mem_of_getElem? hr),Lat.zfP]
 refine (Lat.Stairs.cut (rows:=sw) (Nat.le_add_right n _) T.1 (λm hm=>?_) λr hr=>?_).one (Lat.zaV h).1 (λ_ hr=>Lat.SpL.mem hr) λ_ hr=>Lat.SpL.mem hr
 ·obtain ⟨i,r,hr,rfl⟩:=Lat.zeF hm
  have hm:=List.mem_of_getElem? hr
  exact ⟨r,hm,by rw [List.take_append_of_le_length (by rw [h r hm];exact Nat.le_refl _),List.take_of_length_le (by rw [h r hm];exact Nat.le_refl _)]⟩
 ·obtain ⟨i,hi⟩:=List.getElem?_of_mem hr
  exact ⟨_,Lat.zl9 hi,by rw [List.take_append_of_le_length (by rw [h r hr];exact Nat.le_refl _),List.take_of_length_le (by rw [h r hr];exact Nat.le_refl _)]⟩
theorem zoQ {n:Nat} {ss:Jq} {x:Ji} (e:Lat.Ech n 0 ss) (hx:x.length=n):Lat.low x ss=zbV (n:Int) [(0:Int)] ↔ Lat.SpL ss (Lat.vec x):=by
 obtain ⟨a1,a2,a3,a4⟩:=Lat.zbH (l:=x) e hx
 refine ⟨λh=>?_,λh=>?_⟩
 ·rw [h] at a2
  exact Lat.Sp.conv a2 λi=>by rw [Lat.zdw];omega
 ·refine Lat.zjV (by rw [a1,Lat.zcR]) λi=>?_
  rw [Lat.zdw]
  exact Lat.zkm e ((Lat.Sp.lin 1 (-1) h a2).conv λi=>by omega) a3 i
theorem zod {b:BookD} {n:Nat} (hn:b.many=(n:Int)) (h:∀ r∈b.swaps,r.length=n) (x:Ji):zcJ b x=Lat.low x (Lat.clm Lat.MG b.swaps):=by rw [zoW hn,zkW h]
theorem znz {b:BookD} {n:Nat} {x:Ji} (hn:b.many=(n:Int)) (h:∀ r∈b.swaps,r.length=n) (hx:x.length=n):zcJ b x=zbV (n:Int) [(0:Int)] ↔ Lat.SpL b.swaps (Lat.vec x):=by
 have S:=(Lat.zaV h).1
 rw [zod hn h,zoQ S.ech hx]
 exact ⟨Lat.SpL.sub S.inn,Lat.SpL.sub S.out⟩
def BkQ (b:BookD):Prop:=∃ n s:Nat,b.many=(n:Int)∧1≤n∧n≤8∧TrQ b.swaps∧Lat.Cb n s b.swaps
theorem BkQ.st {b:BookD} (h:BkQ b):zde b:=by
 obtain ⟨n,s,h1,h2,h3,h4,h5⟩:=h
 exact ⟨h4,by omega,by omega⟩
theorem BkQ.sd {b:BookD} (h:BkQ b):∃ n s:Nat,b.many=(n:Int)∧n≤8∧(zbt b).steps=Lat.clm Lat.MG b.swaps∧(zbt b).steps.length≤n∧∀ t∈(zbt b).steps,Lat.Sd n s t:=by
 obtain ⟨n,s,h1,h2,h3,h4,h5⟩:=h
 have e:(zbt b).steps=Lat.clm Lat.MG b.swaps:=by rw [zeP h1];exact zkW λr hr=>(h5.mem hr).1
 have hl:=h5.len (i:=b.swaps.length)
 rw [List.take_length] at hl
 exact ⟨n,s,h1,h3,e,by rw [e];exact hl,by rw [e];exact h5.sd⟩
theorem zsh {b:BookD} {f:StairsD} {i:Nat} {x:Ji×Int} (h:BkQ b) (e:f=zbt b) (q:f.steps[i]?=some x.1∧f.heads[i]?=some x.2):InB x.1.length x.2:=by
 obtain ⟨n,s,h1,h2,h3,h4,h5⟩:=h
 have T:=Lat.ziL λr hr=>(h5.mem hr).1
 rw [e,zeP h1] at q
 obtain ⟨q1,q2⟩:=q
 have q1:((List.map (λ(x:Ji)=>x.take n) (zfx n b.swaps)))[i]?=some x.1:=q1
 have q2:((List.map (λ(x:Ji)=>(Lat.hd x:Int)) (zfx n b.swaps)))[i]?=some x.2:=q2
 rw [List.getElem?_map] at q1 q2
 cases hk:(zfx n b.swaps)[i]? with
 | none=>rw [hk] at q1;cases q1
 | some t =>
  rw [hk] at q1 q2
  have q1:t.take n=x.1:=Option.some.inj q1
  have q2:(Lat.hd t:Int)=x.2:=Option.some.inj q2
  have hm:=List.mem_of_getElem? hk
  unfold zfx at hm
  obtain ⟨m1,m2⟩:=List.mem_filter.mp hm
  have r1:=T.st.ech.mem t m1
  have m2:Lat.hd t<n:=by simpa using m2
  rw [← q1,← q2]
  unfold InB
  rw [List.length_take]
  omega
theorem zro {b:BookD} {f:StairsD} (h:BkQ b) (e:f=zbt b):(List.zip f.steps f.heads).length≤PySem.sizeLine:=by
 obtain ⟨n,s,h1,h2,h3,h4,h5⟩:=h.sd
 rw [e];exact zap (by rw [List.length_zip];omega)
def PrP (xs:Ji):Prop:=xs.length≤13∧∀ x∈xs,0<x∧x.natAbs≤2^8980
def PrI (i:Nat) (s:Int):Prop:=0<s∧s.natAbs≤2^(8980*i)
theorem ztu:PrI 0 1:=⟨by decide,by decide⟩
theorem ztp {xs:Ji} {i:Nat} {s x:Int} (hp:PrP xs) (h:x∈xs) (I:PrI i s):PrI (i+1) (Let (s*x) (λ(y:Int)=>y)):=by
 have:=hp.2 x h
 refine ⟨Int.mul_pos I.1 this.1,?_⟩
 show (s*x).natAbs≤_
 rw [Int.natAbs_mul,Nat.mul_succ,Nat.pow_add]
 exact Nat.mul_le_mul I.2 this.2
theorem zqs {xs:Ji} {i:Nat} {s x:Int} (hp:PrP xs) (hx:xs[i]?=some x) (I:PrI i s):zdc s x :=
 Lat.zdc.of I.2 (hp.2 x (List.mem_of_getElem? hx)).2 (by have:=((List.getElem?_eq_some_iff.mp hx)).1;have:=hp.1;omega) (by decide)
def za5 (P0:BookD):Ji :=
 (Let (zbt P0) (λ(v161:StairsD)=>(List.map (λ(x162:(Ji×Int))=>(ixD x162.1 x162.2)) (List.zip v161.steps v161.heads))))
def zcO (P0:BookD):Prop:=BkQ P0
def zdV (K:W.Frag) (A:Adr):Sp:=Spv (ι:=BookD) (λx=>[zaK A.Book x]) (λx=>zcO x) (λx=>↥[dL (List.map dI (za5 x))])
theorem ze4:FnScope ["book","flight"] ["book"] (zad zbL):=⟨rfl,rfl,rfl,by decide+kernel,rfl,by decide+kernel,by decide+kernel⟩
theorem zg9 (F:Fun K "head_numbers" "head_numbers" zbL f fd) (T:Txt K mg A) (yaz:Callee P w K mg base (CXE P w) 7 "stairs" ["book"] (zf3 K A)):FnOk P w K mg base (CXE P w) 8 f fd ["book"] (zdV K A):=by
 refine F.okV ze4 (λ_=>rfl) (λcdv Ar outer s H E P0 hr hp=> ?_)
 have hu:=hr.units
 replace hp:zcO P0:=hp
 unfold zcO at hp
 refine ⟨_,(zac (zar (i:=1) ze4.nd rfl (Or.inl rfl) (zaD yaz (hr.mono (by decide)) rfl zaB ↑[pv 0])) (zac (zaN (zb0 rfl (.of (osc:=(zad zbL)) (N:=["book","flight"]) (own:=["step","head"]) (fvn:=[]) (fv:=[]) rfl rfl (by decide+kernel)) (zdh (K:=K) rfl rfl T.zip ↑[(za2 (K:=K) rfl (pv 1) rfl),(za2 (K:=K) rfl (pv 1) rfl)]) (λ_ _ _ _ _=>⟨(zbJ (K:=K) (n:=2) rfl rfl (zaF (zao (i:=0) (show (["step","head"]:List Str).Nodup by decide+kernel) rfl (Or.inl rfl) (Or.inr rfl)) (zaF (zao (i:=1) (show (["step","head"]:List Str).Nodup by decide+kernel) rfl (Or.inl rfl) (Or.inr rfl)) zcj))),zbg,(zbk (zav (K:=K) rfl) (pv 0) (pv 1) (λ_ _=>rfl))⟩))) zag)),.inl ?_⟩
 show L2.Run _ ([⇑[zaK A.Book P0],.no]:L2.Ctx) _ ((λ(r:Ji)=>Oc.rt true (dL (List.map dI r))) (za5 P0))
 unfold za5
 exact (zaq (m:=true) (x:=(zbt P0)) (zfA A.Stairs) (λ(r:Ji)=>Oc.rt true (dL (List.map dI r))) (zal (x:=P0) (zab (zaa (i:=0) rfl) zae) rfl (by show zde P0;exact hp.st) rfl) (λv161 hv161=>have hF:=hv161;(zak (zaC (EvO.ev (EvO.conv (zb5 (g:=(λ(x162:(Ji×Int))=>dI (ixD x162.1 x162.2))) (zfy (m:=true) lI dI (xs:=v161.steps) (ys:=v161.heads) (Ev.weak (K:=K) (zca (zaa (i:=1) rfl) T.Stairs_cl T.Stairs_steps rfl)) (Ev.weak (K:=K) (zca (zaa (i:=1) rfl) T.Stairs_cl T.Stairs_heads rfl))) ↥(zro hp hF) ⟨by decide,by decide⟩ (λi163 x162 hx164=>have v164:=zc2 hx164;(Ev.any (m:=true) (zci (f:=dI) (xs:=x162.1) (Ev.weak (K:=K) (zaa (i:=0) rfl)) (Ev.any (m:=true) (zaa (i:=1) rfl)) ↥(zsh hp hF (by assumption)))))) (by first|(rw [List.map_map];rfl)|(simp only [cond_true,cond_false];rw [List.map_map];rfl))))))))
theorem BkQ.hn {b:BookD} (h:BkQ b):za5 b=Lat.hds (Lat.clm Lat.MG b.swaps):=by
 obtain ⟨n,s,h1,h2,h3,h4,h5⟩:=h
 have hl:∀ r∈b.swaps,r.length=n:=λr hr=>(h5.mem hr).1
 have T:=Lat.ziL hl
 unfold za5 Let
 dsimp only
 rw [zeP h1,← zkW hl]
 show List.map (λ(x:Ji×Int)=>ixD x.1 x.2) (List.zip (List.map (λ(x:Ji)=>x.take n) (zfx n b.swaps)) (List.map (λ(x:Ji)=>(Lat.hd x:Int)) (zfx n b.swaps)))=List.map (λ(t:Ji)=>Lat.vec t (Lat.hd t)) (List.map (λ(x:Ji)=>x.take n) (zfx n b.swaps))
 rw [List.zip_map',List.map_map,List.map_map]
 refine List.map_congr_left λx hx=>?_
 unfold zfx at hx
 obtain ⟨h1,h2⟩:=List.mem_filter.mp hx
 have h3:=T.st.ech.mem x h1
 have h4:Lat.hd x<n:=by simpa using h2
 show ixD (x.take n) (Lat.hd x:Int)=Lat.vec (x.take n) (Lat.hd (x.take n))
 rw [Lat.ziD h4 (by omega),Lat.zcq]
theorem BkQ.prp {b:BookD} (h:BkQ b):PrP (za5 b):=by
 obtain ⟨n,s,h1,h2,h3,h4,h5⟩:=h.sd
 rw [h.hn,← h3]
 refine ⟨by rw [Lat.zie];omega,λx hx=>?_⟩
 obtain ⟨t,ht,rfl⟩:=List.mem_map.mp hx
 exact ⟨(h5 t ht).pos,(h5 t ht).top⟩
def zdq (P0:Ji):Int :=
 (Let (List.foldl (λ(s165:Int) (x166:Int)=>(Let (s165*x166) (λ(v170:Int)=>v170))) (1:Int) P0) (λ(r171:Int)=>r171))
def zeJ (P0:Ji):Prop:=PrP P0
def zgn (K:W.Frag) (A:Adr):Sp:=Spv (ι:=Ji) (λx=>[dQ K (List.map dI x)]) (λx=>zeJ x) (λx=>↥[dI (zdq x)])
theorem zfk:FnScope ["numbers","many","number"] ["numbers"] (zad zeq):=⟨rfl,rfl,rfl,by decide+kernel,rfl,by decide+kernel,by decide+kernel⟩
theorem zlh (F:Fun K "product" "product" zeq f fd) (T:Txt K mg A) :FnOk P w K mg base (CXE P w) 1 f fd ["numbers"] (zgn K A):=by
 refine F.okV zfk (λ_=>rfl) (λcdv Ar outer s H E P0 hr hp=> ?_)
 have hu:=hr.units
 replace hp:zeJ P0:=hp
 unfold zeJ at hp
 refine ⟨_,(zac (zar (i:=1) zfk.nd rfl (Or.inl rfl) zai) (zac (zcE PassesOwn.never rfl (zaP (K:=K) rfl (pv 0)) (zao (i:=2) zfk.nd rfl (Or.inl rfl) (Or.inl rfl)) (zac (zar (i:=1) zfk.nd rfl (Or.inl rfl) (zax zbj (pv 1) (pv 2))) zag)) (zac (zaN (pv 1)) zag))),.inl ?_⟩
 show L2.Run _ ([⇑[dQ K (List.map dI P0)],.no,.no]:L2.Ctx) _ ((λ(r:Int)=>Oc.rt true (dI r)) (zdq P0))
 unfold zdq
 exact (zbP (m:=true) zaL (zbO (s0:=(1:Int)) (λ(s165:Int)=>([⇑[dQ K (List.map dI P0)],↥[dI s165],.no]:L2.Ctx)) (λ(r:Int)=>Oc.rt true (dI r)) (λ(s165:Int) (x166:Int)=>(Let (s165*x166) (λ(v170:Int)=>v170))) (λ(i:Nat) (s165:Int)=>PrI i s165) (zbi (m:=false) dI (xs:=P0) (zaa (i:=0) rfl)) (.eq (.eq (.eq .nil))) ↥(ztu) (λi167 x166 s165 hx168 hI169=>have v168:=List.mem_of_getElem? hx168;⟨↥(ztp hp (by assumption) (by assumption)),(zaq (m:=true) (x:=(s165*x166)) dI (λz=>Oc.nx ((λ(s165:Int)=>([⇑[dQ K (List.map dI P0)],↥[dI s165],.no]:L2.Ctx)) z)) (zaJ (x:=s165) (y:=x166) (Ev.any (m:=true) (zaa (i:=1) rfl)) (Ev.any (m:=false) (zaa (i:=2) rfl)) ↥(zqs hp (by assumption) (by assumption))) (λv170 hv170=>(zat (.eq (.eq (.no .nil))))))⟩) (λr171 hr171 hI=>(zak (zaC (Ev.any (m:=true) (zaa (i:=1) rfl)))))))
theorem zj8:∀ (xs:Ji) (a:Int),List.foldl (λ(s:Int) (x:Int)=>Let (s*x) (λ(y:Int)=>y)) a xs=a*Lat.prd xs
 | [],a=>(Int.mul_one a).symm
 | x :: xs,a=>by
  show List.foldl _ (a*x) xs=a*(x*Lat.prd xs)
  rw [zj8 xs,Int.mul_assoc]
theorem zlr (xs:Ji):zdq xs=Lat.prd xs:=by
 show List.foldl (λ(s:Int) (x:Int)=>Let (s*x) (λ(y:Int)=>y)) 1 xs=_
 rw [zj8,Int.one_mul]
theorem zmp:∀ {xs:Ji},(∀ x∈xs,x.natAbs≤2^8980)->(Lat.prd xs).natAbs≤2^(8980*xs.length)
 | [],_=>Nat.le_refl 1
 | x :: xs,h=>by
  have:=Lat.zjL (h x List.mem_cons_self) (zmp λy hy=>h y (List.mem_cons_of_mem _ hy))
  rw [List.length_cons,Nat.mul_succ,Nat.add_comm]
  exact this
def zaj (P0:BookD):(Option Int) :=
 (Let (za5 P0) (λ(v172:Ji)=>(bif (decide (((v172.length:Nat):Int)=P0.many)) then (some (zdq v172)) else none)))
def zdl (P0:BookD):Prop:=BkQ P0
def zeA (K:W.Frag) (A:Adr):Sp:=Spv (ι:=BookD) (λx=>[zaK A.Book x]) (λx=>zdl x) (λx=>↥[dOpt dI (zaj x)])
theorem zfR:FnScope ["book","numbers"] ["book"] (zad zcX):=⟨rfl,rfl,rfl,by decide+kernel,rfl,by decide+kernel,by decide+kernel⟩
theorem zih (F:Fun K "many_homes" "many_homes" zcX f fd) (T:Txt K mg A) (yaA:Callee P w K mg base (CXE P w) 8 "head_numbers" ["book"] (zdV K A)) (ybh:Callee P w K mg base (CXE P w) 1 "product" ["numbers"] (zgn K A)):FnOk P w K mg base (CXE P w) 9 f fd ["book"] (zeA K A):=by
 refine F.okV zfR (λ_=>rfl) (λcdv Ar outer s H E P0 hr hp=> ?_)
 have hu:=hr.units
 replace hp:zdl P0:=hp
 unfold zdl at hp
 refine ⟨_,(zac (zar (i:=1) zfR.nd rfl (Or.inl rfl) (zaD yaA (hr.mono (by decide)) rfl zaB ↑[pv 0])) (zac (zaN (zkJ (zaI zf0 (za3 (zaR (K:=K) rfl) rfl T.len PySem.boot_len ↑[pv 1]) (za2 (K:=K) rfl (pv 0) rfl) (zaQ _)) (zaD ybh (hr.mono (by decide)) rfl zaB ↑[pv 1]) zfv)) zag)),.inl ?_⟩
 show L2.Run _ ([⇑[zaK A.Book P0],.no]:L2.Ctx) _ ((λ(r:(Option Int))=>Oc.rt true (dOpt dI r)) (zaj P0))
 unfold zaj
 exact (zaq (m:=true) (x:=(za5 P0)) lI (λ(r:(Option Int))=>Oc.rt true (dOpt dI r)) (zal (x:=P0) (zab (zaa (i:=0) rfl) zae) rfl (by show zcO P0;exact hp) rfl) (λv172 hv172=>have hN:=hv172;(zak (zaC (zru (dOpt dI) (b:=(decide (((v172.length:Nat):Int)=P0.many))) (x:=(some (zdq v172))) (y:=none) (zau (zd5 (x:=((v172.length:Nat):Int)) (y:=P0.many) (zco (f:=dI) (xs:=v172) (Ev.old (Ev.weak (K:=K) (zaa (i:=1) rfl)))) (Ev.any (m:=false) (zca (zaa (i:=0) rfl) T.Book_cl T.Book_many rfl)))) (λhb=>(Ev.any (m:=true) (zal (x:=v172) (zab (Ev.old (Ev.weak (K:=K) (zaa (i:=1) rfl))) zae) rfl (by show zeJ v172;rw [hN];exact hp.prp) rfl))) (λhb=>zaL))))))
theorem zfG {b:BookD} {n:Nat} (hn:b.many=(n:Int)) (h:BkQ b):zaj b=if ((Lat.clm Lat.MG b.swaps)).length=n then some (Lat.prd (Lat.hds (Lat.clm Lat.MG b.swaps))) else none:=by
 unfold zaj Let
 dsimp only
 rw [zlr,h.hn,Lat.zie,hn]
 by_cases q:((Lat.clm Lat.MG b.swaps)).length=n
 ·rw [if_pos q,q,decide_eq_true rfl];rfl
 ·rw [if_neg q,decide_eq_false (by omega)];rfl
theorem zki {b:BookD} {c:Int} (h:BkQ b) (e:zaj b=some c):c.natAbs≤2^80000:=by
 obtain ⟨n,s,h1,h2,h3,h4,h5⟩:=h.sd
 rw [zfG h1 h] at e
 split at e
 ·cases e
  refine Nat.le_trans (zmp λx hx=>?_) (Nat.pow_le_pow_right (by decide) (show 8980*(Lat.hds (Lat.clm Lat.MG b.swaps)).length≤80000 by rw [Lat.zie,← h3];omega))
  obtain ⟨t,ht,rfl⟩:=List.mem_map.mp hx
  rw [← h3] at ht
  exact (h5 t ht).top
 ·cases e
def zcV (P0:Ji) (P1:Int):Int :=
 (bif (decide (P1<((P0.length:Nat):Int))) then ((ixD P0 P1)%(2147483647:Int)) else (0:Int))
def zdv (P0:Ji) (P1:Int):Prop:=0≤P1
def zfE (K:W.Frag) (A:Adr):Sp:=Spv (ι:=Ji×Int) (λx=>[dQ K (List.map dI x.1),dI x.2]) (λx=>zdv x.1 x.2) (λx=>↥[dI (zcV x.1 x.2)])
theorem zjM:FnScope ["_law_script","_law_k"] ["_law_script","_law_k"] (zad zdJ):=⟨rfl,rfl,rfl,by decide+kernel,rfl,by decide+kernel,by decide+kernel⟩
theorem zjY (F:Fun K "_law_cell" "_law_cell" zdJ f fd) (T:Txt K mg A) :FnOk P w K mg base (CXE P w) 1 f fd ["_law_script","_law_k"] (zfE K A):=by
 refine F.okV zjM (λ_=>rfl) (λcdv Ar outer s H E x hr hp=> ?_)
 obtain ⟨P0,P1⟩:=x
 have hu:=hr.units
 replace hp:zdv P0 P1:=hp
 unfold zdv at hp
 refine ⟨_,(zac (zcI (zaI ziU (pv 1) (za3 (zaR (K:=K) rfl) rfl T.len PySem.boot_len ↑[pv 0]) (zaQ _)) (zac (zaN (zax zc0 (zbk (zav (K:=K) rfl) (pv 0) (pv 1) (λ_ _=>rfl)) zai)) zag) zag) (zac (zaN zai) zag)),.inl ?_⟩
 show L2.Run _ ([⇑[dQ K (List.map dI P0)],⇑[dI P1]]:L2.Ctx) _ ((λ(r:Int)=>Oc.rt true (dI r)) (zcV P0 P1))
 unfold zcV
 exact (zbc (b:=(decide (P1<((P0.length:Nat):Int)))) (λ(r:Int)=>Oc.rt true (dI r)) (zau (zaU (x:=P1) (y:=((P0.length:Nat):Int)) (Ev.any (m:=false) (zaa (i:=1) rfl)) (zco (f:=dI) (xs:=P0) (zaa (i:=0) rfl)))) (λh173=>(zaG (zak (zaC (zaJ (x:=(ixD P0 P1)) (y:=(2147483647:Int)) (Ev.any (m:=false) (zci (f:=dI) (xs:=P0) (zaa (i:=0) rfl) (Ev.any (m:=false) (zaa (i:=1) rfl)) (by unfold InB;constructor<;>((try simp only [decide_eq_true_eq,decide_eq_false_iff_not,Bool.not_eq_true',Bool.not_eq_false',Bool.and_eq_true,Bool.or_eq_false_iff,Bool.or_eq_true,Bool.and_eq_false_iff,Bool.cond_eq_ite] at *)<;>omega)))) zaL (by decide)))))) (λh173=>(zaz (zak (zaC zaL)))))
theorem zmV {s:Ji} {i:Nat} {y:Int} (h:s.length≤i):(s++[y]).length≤i+1:=by simp;omega
theorem zrL {s:Ji} {i n:Nat} {x lo:Int} (h:s.length≤i) (hx:i<n∧x=lo+(i:Int)) (hn:n≤400):s.length<PySem.sizeLine:=Nat.lt_of_le_of_lt (show _≤10000 by omega) (by decide)
def zbQ (P0:Ji) (P1:Int):Int :=
 (bif (decide (P1<((P0.length:Nat):Int))) then (ixD P0 P1) else (0:Int))
def zcQ (P0:Ji) (P1:Int):Prop:=0≤P1
def zgu (K:W.Frag) (A:Adr):Sp:=Spv (ι:=Ji×Int) (λx=>[dQ K (List.map dI x.1),dI x.2]) (λx=>zcQ x.1 x.2) (λx=>↥[dI (zbQ x.1 x.2)])
theorem zlq:FnScope ["_law_script","_law_k"] ["_law_script","_law_k"] (zad zeo):=⟨rfl,rfl,rfl,by decide+kernel,rfl,by decide+kernel,by decide+kernel⟩
theorem zla (F:Fun K "_law_raw" "_law_raw" zeo f fd) (T:Txt K mg A) :FnOk P w K mg base (CXE P w) 1 f fd ["_law_script","_law_k"] (zgu K A):=by
 refine F.okV zlq (λ_=>rfl) (λcdv Ar outer s H E x hr hp=> ?_)
 obtain ⟨P0,P1⟩:=x
 have hu:=hr.units
 replace hp:zcQ P0 P1:=hp
 unfold zcQ at hp
 refine ⟨_,(zac (zcI (zaI ziU (pv 1) (za3 (zaR (K:=K) rfl) rfl T.len PySem.boot_len ↑[pv 0]) (zaQ _)) (zac (zaN (zbk (zav (K:=K) rfl) (pv 0) (pv 1) (λ_ _=>rfl))) zag) zag) (zac (zaN zai) zag)),.inl ?_⟩
 show L2.Run _ ([⇑[dQ K (List.map dI P0)],⇑[dI P1]]:L2.Ctx) _ ((λ(r:Int)=>Oc.rt true (dI r)) (zbQ P0 P1))
 unfold zbQ
 exact (zbc (b:=(decide (P1<((P0.length:Nat):Int)))) (λ(r:Int)=>Oc.rt true (dI r)) (zau (zaU (x:=P1) (y:=((P0.length:Nat):Int)) (Ev.any (m:=false) (zaa (i:=1) rfl)) (zco (f:=dI) (xs:=P0) (zaa (i:=0) rfl)))) (λh174=>(zaG (zak (zaC (Ev.any (m:=false) (zci (f:=dI) (xs:=P0) (zaa (i:=0) rfl) (Ev.any (m:=false) (zaa (i:=1) rfl)) (by unfold InB;simp only [decide_eq_true_eq] at *;omega))))))) (λh174=>(zaz (zak (zaC zaL)))))
def zaf (P0:Int) (P1:Int) (P2:Int):Int :=
 (Let (P0/(2147483647:Int)) (λ(v175:Int)=>(bif (decide ((v175%(2:Int))=(1:Int))) then (Let (v175/(2:Int)) (λ(v177:Int)=>(Let (List.foldl (λ(s178:Int) (x179:Int)=>(Let (s178/(60:Int)) (λ(v183:Int)=>v183))) v177 (zbo 0 P1.toNat)) (λ(r184:Int)=>((r184%(60:Int))%P2))))) else (Let (((((P0%(2147483647:Int))*(48271:Int))+(((69621:Int)*P1)*P1))+((7:Int)*P1))%(2147483629:Int)) (λ(v185:Int)=>(Let ((v185*v185)%(2147483587:Int)) (λ(v186:Int)=>(((v186*(v186+(48271:Int)))%(2147483563:Int))%P2))))))))
def zaW (P0:Int) (P1:Int) (P2:Int):Prop:=0≤P1∧P1≤1000∧0<P2
def zcU (K:W.Frag) (A:Adr):Sp:=Spv (ι:=Int×Int×Int) (λx=>[dI x.1,dI x.2.1,dI x.2.2]) (λx=>zaW x.1 x.2.1 x.2.2) (λx=>↥[dI (zaf x.1 x.2.1 x.2.2)])
theorem zck:FnScope ["_law_cell_here","_law_k","_law_many","_law_free","_law_step","_law_number"] ["_law_cell_here","_law_k","_law_many"] (zad zdf):=⟨rfl,rfl,rfl,by decide+kernel,rfl,by decide+kernel,by decide+kernel⟩
theorem ziP (F:Fun K "_law_thing" "_law_thing" zdf f fd) (T:Txt K mg A) :FnOk P w K mg base (CXE P w) 1 f fd ["_law_cell_here","_law_k","_law_many"] (zcU K A):=by
 refine F.okV zck (λ_=>rfl) (λcdv Ar outer s H E x hr hp=> ?_)
 obtain ⟨P0,P1,P2⟩:=x
 have hu:=hr.units
 replace hp:zaW P0 P1 P2:=hp
 unfold zaW at hp
 refine ⟨_,(zac (zar (i:=3) zck.nd rfl (Or.inl rfl) (zax zcg (pv 0) zai)) (zac (zcI (zaI zf0 (zax zc0 (pv 3) zai) zai (zaQ _)) (zac (zar (i:=3) zck.nd rfl (Or.inl rfl) (zax zcg (pv 3) zai)) (zac (zcE PassesOwn.never rfl (zdt rfl T.range ↑[pv 1]) (zao (i:=4) zck.nd rfl (Or.inl rfl) (Or.inl rfl)) (zac (zar (i:=3) zck.nd rfl (Or.inl rfl) (zax zcg (pv 3) zai)) zag)) (zac (zaN (zax zc0 (zax zc0 (pv 3) zai) (pv 2))) zag))) zag) (zac (zar (i:=5) zck.nd rfl (Or.inl rfl) (zax zc0 (zax zcZ (zax zcZ (zax zbj (zax zc0 (pv 0) zai) zai) (zax zbj (zax zbj zai (pv 1)) (pv 1))) (zax zbj zai (pv 1))) zai)) (zac (zar (i:=5) zck.nd rfl (Or.inl rfl) (zax zc0 (zax zbj (pv 5) (pv 5)) zai)) (zac (zaN (zax zc0 (zax zc0 (zax zbj (pv 5) (zax zcZ (pv 5) zai)) zai) (pv 2))) zag))))),.inl ?_⟩
 show L2.Run _ ([⇑[dI P0],⇑[dI P1],⇑[dI P2],.no,.no,.no]:L2.Ctx) _ ((λ(r:Int)=>Oc.rt true (dI r)) (zaf P0 P1 P2))
 unfold zaf
 exact (zaq (m:=true) (x:=(P0/(2147483647:Int))) dI (λ(r:Int)=>Oc.rt true (dI r)) (zaJ (x:=P0) (y:=(2147483647:Int)) (Ev.any (m:=false) (zaa (i:=0) rfl)) zaL ↥(⟨by decide,by decide⟩)) (λv175 hv175=>(zbc (b:=(decide ((v175%(2:Int))=(1:Int)))) (λ(r:Int)=>Oc.rt true (dI r)) (zau (zd5 (x:=(v175%(2:Int))) (y:=(1:Int)) (zaJ (x:=v175) (y:=(2:Int)) (Ev.any (m:=true) (zaa (i:=3) rfl)) zaL (by decide)) zaL)) (λh176=>(zaG (zaq (m:=true) (x:=(v175/(2:Int))) dI (λ(r:Int)=>Oc.rt true (dI r)) (zaJ (x:=v175) (y:=(2:Int)) (Ev.any (m:=true) (zaa (i:=3) rfl)) zaL ↥(⟨by decide,by decide⟩)) (λv177 hv177=>(zaG (zbO (s0:=v177) (λ(s178:Int)=>([⇑[dI P0],⇑[dI P1],⇑[dI P2],↥[dI s178],.no,.no]:L2.Ctx)) (λ(r:Int)=>Oc.rt true (dI r)) (λ(s178:Int) (x179:Int)=>(Let (s178/(60:Int)) (λ(v183:Int)=>v183))) (λ_ _=>True) (zeU (m:=true) (n:=P1) (Ev.any (m:=false) (zaa (i:=1) rfl)) (by refine ⟨?_,?_⟩<;>omega)) (.eq (.eq (.eq (.eq (.eq (.eq .nil)))))) trivial (λi180 x179 s178 hx181 hI182=>have v181:=zcN hx181;⟨trivial,(zaq (m:=true) (x:=(s178/(60:Int))) dI (λz=>Oc.nx ((λ(s178:Int)=>([⇑[dI P0],⇑[dI P1],⇑[dI P2],↥[dI s178],.no,.no]:L2.Ctx)) z)) (zaJ (x:=s178) (y:=(60:Int)) (Ev.any (m:=true) (zaa (i:=3) rfl)) zaL ↥(⟨by decide,by decide⟩)) (λv183 hv183=>(zat (.eq (.eq (.eq (.eq (.no (.eq .nil)))))))))⟩) (λr184 hr184 hI=>(zaG (zak (zaC (zaJ (x:=(r184%(60:Int))) (y:=P2) (zaJ (x:=r184) (y:=(60:Int)) (Ev.any (m:=true) (zaa (i:=3) rfl)) zaL (by decide)) (Ev.any (m:=false) (zaa (i:=2) rfl)) ↥(hp.2.2)))))))))))) (λh176=>(zaz (zaq (m:=true) (x:=(((((P0%(2147483647:Int))*(48271:Int))+(((69621:Int)*P1)*P1))+((7:Int)*P1))%(2147483629:Int))) dI (λ(r:Int)=>Oc.rt true (dI r)) (zaJ (x:=((((P0%(2147483647:Int))*(48271:Int))+(((69621:Int)*P1)*P1))+((7:Int)*P1))) (y:=(2147483629:Int)) (zaU (x:=(((P0%(2147483647:Int))*(48271:Int))+(((69621:Int)*P1)*P1))) (y:=((7:Int)*P1)) (zaU (x:=((P0%(2147483647:Int))*(48271:Int))) (y:=(((69621:Int)*P1)*P1)) (zaJ (x:=(P0%(2147483647:Int))) (y:=(48271:Int)) (zaJ (x:=P0) (y:=(2147483647:Int)) (Ev.any (m:=false) (zaa (i:=0) rfl)) zaL (by decide)) zaL ↥(.inl ⟨by omega,by omega⟩)) (zaJ (x:=((69621:Int)*P1)) (y:=P1) (zaJ (x:=(69621:Int)) (y:=P1) zaL (Ev.any (m:=false) (zaa (i:=1) rfl)) ↥(.inl ⟨by omega,by omega⟩)) (Ev.any (m:=false) (zaa (i:=1) rfl)) ↥(.inl ⟨by omega,by omega⟩))) (zaJ (x:=(7:Int)) (y:=P1) zaL (Ev.any (m:=false) (zaa (i:=1) rfl)) ↥(.inl ⟨by omega,by omega⟩))) zaL (by decide)) (λv185 hv185=>have hNnumber185:=hv185;(zaq (m:=true) (x:=((v185*v185)%(2147483587:Int))) dI (λ(r:Int)=>Oc.rt true (dI r)) (zaJ (x:=(v185*v185)) (y:=(2147483587:Int)) (zaJ (x:=v185) (y:=v185) (Ev.any (m:=true) (zaa (i:=5) rfl)) (Ev.any (m:=true) (zaa (i:=5) rfl)) ↥(.inl ⟨by omega,by omega⟩)) zaL (by decide)) (λv186 hv186=>have hNnumber186:=hv186;(zak (zaC (zaJ (x:=((v186*(v186+(48271:Int)))%(2147483563:Int))) (y:=P2) (zaJ (x:=(v186*(v186+(48271:Int)))) (y:=(2147483563:Int)) (zaJ (x:=v186) (y:=(v186+(48271:Int))) (Ev.any (m:=true) (zaa (i:=5) rfl)) (zaU (x:=v186) (y:=(48271:Int)) (Ev.any (m:=true) (zaa (i:=5) rfl)) zaL) ↥(.inl ⟨by omega,by omega⟩)) zaL (by decide)) (Ev.any (m:=false) (zaa (i:=2) rfl)) ↥(hp.2.2)))))))))))))
theorem zdY {c k m:Int} (hm:0<m):0≤zaf c k m∧zaf c k m<m:=by
 unfold zaf Let
 dsimp only
 have key:∀ b:Bool,∀ x y:Int,0≤(bif b then x%m else y%m)∧(bif b then x%m else y%m)<m:=λb x y=>by
  cases b
  ·exact ⟨Int.emod_nonneg y (by omega),Int.emod_lt_of_pos y hm⟩
  ·exact ⟨Int.emod_nonneg x (by omega),Int.emod_lt_of_pos x hm⟩
 exact key _ _ _
def Sq (w:Nat) (n:Nat) (rows:Jq):Prop:=rows.length=n∧∀ r∈rows,r.length=w
def FrI (w:Nat) (s:Jq×Jq):Prop:=Sq w w s.1∧Sq w w s.2
theorem zmD {w n:Nat} {rows:Jq} {i:Int} {y:Ji} (h:Sq w n rows) (hy:y.length=w):Sq w n (zcz rows i y):=⟨by rw [zd3];exact h.1,λr hr=>by
 rcases Lat.zf2 hr with rfl | hr
 ·exact hy
 ·exact h.2 r hr⟩
theorem zlQ {w n:Nat} {b:Bool} {rows ys:Jq} (h:Sq w n rows) (k:Sq w n ys):Sq w n (bif b then ys else rows):=by cases b<;>assumption
theorem zg4 {w n:Nat} {rows:Jq} {x:Int} (h:Sq w n rows) (h0:0≤x) (h1:x<(n:Int)):InB rows.length x:=by rw [h.1];unfold InB;omega
theorem zlz {w n:Nat} {rows:Jq} {x:Int} (h:Sq w n rows) (h0:0≤x) (h1:x<(n:Int)):(ixD rows x).length=w:=h.2 _ (zgj (zg4 h h0 h1))
theorem zq1 {α:Type} {w n:Nat} {xs:List α} {f:α->Ji} (h:xs.length=n) (k:∀ x,(f x).length=w):Sq w n (List.map f xs):=⟨by rw [List.length_map];exact h,λr hr=>by obtain ⟨x,_,rfl⟩:=List.mem_map.mp hr;exact k x⟩
theorem zja {w n m:Nat} {rows ys:Jq} {x y:Int} {f:Int×Int->Int} (h:Sq w n rows) (k:Sq w m ys) (h0:0≤x∧x<(n:Int)) (h1:0≤y∧y<(m:Int)):(List.map f (List.zip (ixD rows x) (ixD ys y))).length=w:=by
 rw [List.length_map,List.length_zip,zlz h h0.1 h0.2,zlz k h1.1 h1.2];omega
theorem zl8 {w n m:Nat} {rows ys:Jq} {x y:Int} (h:Sq w n rows) (h0:0≤x∧x<(n:Int)) (hw:w≤1000):((List.zip (ixD rows x) (ixD ys y))).length≤PySem.sizeLine:=zap (by rw [List.length_zip,zlz h h0.1 h0.2];omega)
theorem zp8 {W:Nat} {s:Jq×Jq} {x y:Int} (h:FrI W s) (hx:0≤x∧x<(W:Int)) (hw:W≤8):(List.zip (ixD s.1 x) (ixD s.1 y)).length≤PySem.sizeLine:=zl8 (ys:=s.1) (m:=0) h.1 hx (by omega)
theorem zoZ {W:Nat} {s:Jq×Jq} {x y:Int} (h:FrI W s) (hx:0≤x∧x<(W:Int)) (hw:W≤8):((List.zip (ixD s.2 x) (ixD s.2 y))).length≤PySem.sizeLine:=zl8 (ys:=s.2) (m:=0) h.2 hx (by omega)
theorem znw {w:Int} {W:Nat} {a b:Jq} (hw:w=(W:Int)) (ha:a=List.map (λ(x:Int)=>List.map (λ(y:Int)=>(if (decide (y=x)) then (1:Int) else 0)) (zbo 0 w.toNat)) (zbo 0 w.toNat)) (hb:b=List.map (λ(x:Ji)=>x) a):FrI W (a,b):=by
 have h1:Sq W W a:=by
  subst ha
  exact zq1 (by rw [zaZ];omega) λx=>by rw [List.length_map,zaZ];omega
 exact ⟨h1,by subst hb;rw [List.map_id'];exact h1⟩
theorem zo8 {W:Nat} {s:Jq×Jq} {b:Bool} {x y q:Int} (h:FrI W s) (hx:0≤x∧x<(W:Int)) (hy:0≤y∧y<(W:Int)):FrI W (bif b then (zcz s.1 y (List.map (λ(z:Int×Int)=>(z.1+(q*z.2))) (List.zip (ixD s.1 y) (ixD s.1 x)))) else s.1,bif b then (zcz s.2 x (List.map (λ(z:Int×Int)=>(z.1-(q*z.2))) (List.zip (ixD s.2 x) (ixD s.2 y)))) else s.2) :=
 ⟨zlQ h.1 (zmD h.1 (zja h.1 h.1 hy hx)),zlQ h.2 (zmD h.2 (zja h.2 h.2 hx hy))⟩
theorem zd4 {c k w x:Int} {W:Nat} (hw:w=(W:Int)) (h1:1≤w) (e:x=zaf c k w):0≤x∧x<(W:Int):=by
 subst e;have:=zdY (c:=c) (k:=k) (m:=w) (by omega);omega
theorem zkM {c k x:Int} (e:x=zaf c k (5:Int)-(2:Int)):-2≤x∧x≤2:=by
 subst e;have:=zdY (c:=c) (k:=k) (m:=5) (by decide);omega
theorem zpg {c k x:Int} (e:x=zaf c k (7:Int)):InB 7 x:=by
 subst e;have:=zdY (c:=c) (k:=k) (m:=7) (by decide);unfold InB;omega
def zaO (P0:Int) (P1:Ji):(Jq×Jq) :=
 (Let (List.map (λ(x187:Int)=>(List.map (λ(x190:Int)=>(if (decide (x190=x187)) then 1 else 0)) (zbo 0 P0.toNat))) (zbo 0 P0.toNat)) (λ(v193:Jq)=>(Let (List.map (λ(x194:Ji)=>x194) v193) (λ(v197:Jq)=>(Let (List.foldl (λ(s198:Jq×Jq) (x199:Int)=>(Let (zaf x199 (1:Int) P0) (λ(v203:Int)=>(Let (zaf x199 (2:Int) P0) (λ(v204:Int)=>(Let ((zaf x199 (3:Int) (5:Int))-(2:Int)) (λ(v205:Int)=>(Let (bif (!decide (v203=v204)) then (zcz s198.1 v204 (List.map (λ(x207:(Int×Int))=>(x207.1+(v205*x207.2))) (List.zip (ixD s198.1 v204) (ixD s198.1 v203)))) else s198.1) (λ(v213:Jq)=>(Let (bif (!decide (v203=v204)) then (zcz s198.2 v203 (List.map (λ(x210:(Int×Int))=>(x210.1-(v205*x210.2))) (List.zip (ixD s198.2 v203) (ixD s198.2 v204)))) else s198.2) (λ(v214:Jq)=>(v213,v214)))))))))))) (v193,v197) P1) (λ(r215:Jq×Jq)=>(r215.1,r215.2)))))))
def zc3 (P0:Int) (P1:Ji):Prop:=1≤P0∧P0≤8
def ze2 (K:W.Frag) (A:Adr):Sp:=Spv (ι:=Int×Ji) (λx=>[dI x.1,dQ K (List.map dI x.2)]) (λx=>zc3 x.1 x.2) (λx=>↥[dT [dL (List.map lI ((zaO x.1 x.2).1)),dL (List.map lI ((zaO x.1 x.2).2))]])
theorem zcv:FnScope ["_law_wide","_law_cells","_law_rows","_law_duals","_law_cell_here","_law_one","_law_two_here","_law_many"] ["_law_wide","_law_cells"] (zad zbM):=⟨rfl,rfl,rfl,by decide+kernel,rfl,by decide+kernel,by decide+kernel⟩
theorem zjd (F:Fun K "_law_frame" "_law_frame" zbM f fd) (T:Txt K mg A) (yab:Callee P w K mg base (CXE P w) 1 "_law_thing" ["_law_cell_here","_law_k","_law_many"] (zcU K A)):FnOk P w K mg base (CXE P w) 2 f fd ["_law_wide","_law_cells"] (ze2 K A):=by
 refine F.okV zcv (λ_=>rfl) (λcdv Ar outer s H E x hr hp=> ?_)
 obtain ⟨P0,P1⟩:=x
 have hu:=hr.units
 replace hp:zc3 P0 P1:=hp
 unfold zc3 at hp
 obtain ⟨W,hW⟩:∃ W:Nat,P0=(W:Int):=⟨P0.toNat,by omega⟩
 refine ⟨_,(zac (zec (i:=2) rfl zcv.nd rfl rfl (.of (osc:=(zad zbM)) (N:=["_law_wide","_law_cells","_law_rows","_law_duals","_law_cell_here","_law_one","_law_two_here","_law_many"]) (own:=["_law_k"]) (fvn:=["_law_wide"]) (fv:=[0]) rfl rfl (by decide+kernel)) (zdt rfl T.range ↑[pv 0]) (λ_ _ _ _ _=>⟨(zao (i:=0) (show (["_law_k","_law_wide"]:List Str).Nodup by decide +kernel) rfl (Or.inr rfl) (Or.inl rfl)),zbg,(zb0 rfl (.of (osc:=({ kind:=.function,names:=[(".0",.local),("_law_k",.cell),("range",.globalImplicit),("_law_wide",.cell)],isGenerator:=false,isCoroutine:=false }:Scope)) (N:=["_law_k","_law_wide"]) (own:=["_law_j"]) (fvn:=["_law_k"]) (fv:=[0]) rfl rfl (by decide+kernel)) (zdt rfl T.range ↑[pv 1]) (λ_ _ _ _ _=>⟨(zao (i:=0) (show (["_law_j","_law_k"]:List Str).Nodup by decide +kernel) rfl (Or.inl rfl) (Or.inr rfl)),zbg,(zdQ ziH rfl T.int (by decide+kernel) ↑[zhq zf0 (pv 0) (pv 1) (zaQ _)])⟩))⟩)) (zac (zec (i:=3) rfl zcv.nd rfl rfl (.of (osc:=(zad zbM)) (N:=["_law_wide","_law_cells","_law_rows","_law_duals","_law_cell_here","_law_one","_law_two_here","_law_many"]) (own:=["_law_row"]) (fvn:=[]) (fv:=[]) rfl rfl (by decide+kernel)) (zaP (K:=K) rfl (pv 2)) (λ_ _ _ _ _=>⟨(zao (i:=0) (show (["_law_row"]:List Str).Nodup by decide +kernel) rfl (Or.inl rfl) (Or.inr rfl)),zbg,(zdQ (zdS (K:=K) rfl) rfl T.list PyProof.Rows.boot_list ↑[pv 0])⟩)) (zac (zcE PassesOwn.never rfl (zaP (K:=K) rfl (pv 1)) (zao (i:=4) zcv.nd rfl (Or.inl rfl) (Or.inl rfl)) (zac (zar (i:=5) zcv.nd rfl (Or.inl rfl) (zaD yab (hr.mono (by decide)) rfl zaB ↑[pv 4,zai,pv 0])) (zac (zar (i:=6) zcv.nd rfl (Or.inl rfl) (zaD yab (hr.mono (by decide)) rfl zaB ↑[pv 4,zai,pv 0])) (zac (zar (i:=7) zcv.nd rfl (Or.inr rfl) (zax zeN (zaD yab (hr.mono (by decide)) rfl zaB ↑[pv 4,zai,zai]) zai)) (zac (zcI (zaI zgq (pv 5) (pv 6) (zaQ _)) (zac (zhv (zb0 rfl (.of (osc:=(zad zbM)) (N:=["_law_wide","_law_cells","_law_rows","_law_duals","_law_cell_here","_law_one","_law_two_here","_law_many"]) (own:=["_law_a","_law_b"]) (fvn:=["_law_many"]) (fv:=[7]) rfl rfl (by decide+kernel)) (zdh (K:=K) rfl rfl T.zip ↑[(zbk (zav (K:=K) rfl) (pv 2) (pv 6) (λ_ _=>rfl)),(zbk (zav (K:=K) rfl) (pv 2) (pv 5) (λ_ _=>rfl))]) (λ_ _ _ _ _=>⟨(zbJ (K:=K) (n:=2) rfl rfl (zaF (zao (i:=0) (show (["_law_a","_law_b","_law_many"]:List Str).Nodup by decide+kernel) rfl (Or.inl rfl) (Or.inr rfl)) (zaF (zao (i:=1) (show (["_law_a","_law_b","_law_many"]:List Str).Nodup by decide+kernel) rfl (Or.inl rfl) (Or.inr rfl)) zcj))),zbg,(zax zcZ (pv 0) (zax zbj (pv 2) (pv 1)))⟩)) (zh4 (pv 2) (pv 6) zfd)) (zac (zhv (zb0 rfl (.of (osc:=(zad zbM)) (N:=["_law_wide","_law_cells","_law_rows","_law_duals","_law_cell_here","_law_one","_law_two_here","_law_many"]) (own:=["_law_a","_law_b"]) (fvn:=["_law_many"]) (fv:=[7]) rfl rfl (by decide+kernel)) (zdh (K:=K) rfl rfl T.zip ↑[(zbk (zav (K:=K) rfl) (pv 3) (pv 5) (λ_ _=>rfl)),(zbk (zav (K:=K) rfl) (pv 3) (pv 6) (λ_ _=>rfl))]) (λ_ _ _ _ _=>⟨(zbJ (K:=K) (n:=2) rfl rfl (zaF (zao (i:=0) (show (["_law_a","_law_b","_law_many"]:List Str).Nodup by decide+kernel) rfl (Or.inl rfl) (Or.inr rfl)) (zaF (zao (i:=1) (show (["_law_a","_law_b","_law_many"]:List Str).Nodup by decide+kernel) rfl (Or.inl rfl) (Or.inr rfl)) zcj))),zbg,(zax zeN (pv 0) (zax zbj (pv 2) (pv 1)))⟩)) (zh4 (pv 3) (pv 5) zfd)) zag)) zag) zag))))) (zac (zaN (zho ↑[pv 2,pv 3])) zag)))),.inl ?_⟩
 show L2.Run _ ([⇑[dI P0],⇑[dQ K (List.map dI P1)],.no,.no,.no,.no,.no,.no]:L2.Ctx) _ ((λ(r:(Jq×Jq))=>Oc.rt true (dT [dL (List.map lI r.1),dL (List.map lI r.2)])) (zaO P0 P1))
 unfold zaO
 exact (zez (m:=true) (x:=(List.map (λ(x187:Int)=>(List.map (λ(x190:Int)=>(if (decide (x190=x187)) then 1 else 0)) (zbo 0 P0.toNat))) (zbo 0 P0.toNat))) (λz=>List.map lI z) (λ(r:(Jq×Jq))=>Oc.rt true (dT [dL (List.map lI r.1),dL (List.map lI r.2)])) (EvO.conv (zb5 (g:=(λ(x187:Int)=>dL (List.map dI (List.map (λ(x190:Int)=>(if (decide (x190=x187)) then 1 else 0)) (zbo 0 P0.toNat))))) (zeU (m:=true) (n:=P0) (Ev.any (m:=false) (zaa (i:=0) rfl)) (by refine ⟨?_,?_⟩<;>omega)) ↥(zap (by rw [zaZ];omega)) ⟨by decide,by decide⟩ (λi188 x187 hx189=>have v189:=zcN hx189;(EvO.ev (EvO.conv (zb5 (g:=(λ(x190:Int)=>dI (if (decide (x190=x187)) then 1 else 0))) (zeU (m:=true) (n:=P0) (Ev.any (m:=false) (zaa (i:=1) rfl)) (by refine ⟨?_,?_⟩<;>omega)) ↥(zap (by rw [zaZ];omega)) ⟨by decide,by decide⟩ (λi191 x190 hx192=>have v192:=zcN hx192;(zm9 (b:=(decide (x190=x187))) (zab (zd5 (x:=x190) (y:=x187) (Ev.any (m:=true) (zaa (i:=0) rfl)) (Ev.any (m:=true) (zaa (i:=1) rfl))) zae)))) (by first|(rw [List.map_map];rfl)|(simp only [cond_true,cond_false];rw [List.map_map];rfl)))))) (by first|(rw [List.map_map];rfl)|(simp only [cond_true,cond_false];rw [List.map_map];rfl))) (λv193 hv193=>have hA:=hv193;(zez (m:=true) (x:=(List.map (λ(x194:Ji)=>x194) v193)) (λz=>List.map lI z) (λ(r:(Jq×Jq))=>Oc.rt true (dT [dL (List.map lI r.1),dL (List.map lI r.2)])) (zow.evo (zow.borrowO (i:=2) rfl (zpv (EvO.conv (zb5 (g:=(λ(x194:Ji)=>dL (List.map dI x194))) (zbi (m:=false) lI (xs:=v193) (Ev.weak (K:=K) (zaa (i:=2) rfl))) ↥(zap (by rw [hA,List.length_map,zaZ];omega)) ⟨by decide,by decide⟩ (λi195 x194 hx196=>have v196:=List.mem_of_getElem? hx196;(EvO.ev (EvO.anyI (m:=false) (zg3 (Ev.weak (K:=K) (zaa (i:=0) rfl))))))) (by first|(rw [List.map_map];rfl)|(simp only [cond_true,cond_false];rw [List.map_map];rfl)))))) (λv197 hv197=>have hF:=znw hW hA hv197;(zbO (s0:=(v193,v197)) (λ(s198:Jq×Jq)=>([⇑[dI P0],⇑[dQ K (List.map dI P1)],.ow true (List.map lI s198.1),.ow true (List.map lI s198.2),.no,.no,.no,.no]:L2.Ctx)) (λ(r:(Jq×Jq))=>Oc.rt true (dT [dL (List.map lI r.1),dL (List.map lI r.2)])) (λ(s198:Jq×Jq) (x199:Int)=>(Let (zaf x199 (1:Int) P0) (λ(v203:Int)=>(Let (zaf x199 (2:Int) P0) (λ(v204:Int)=>(Let ((zaf x199 (3:Int) (5:Int))-(2:Int)) (λ(v205:Int)=>(Let (bif (!decide (v203=v204)) then (zcz s198.1 v204 (List.map (λ(x207:(Int×Int))=>(x207.1+(v205*x207.2))) (List.zip (ixD s198.1 v204) (ixD s198.1 v203)))) else s198.1) (λ(v213:Jq)=>(Let (bif (!decide (v203=v204)) then (zcz s198.2 v203 (List.map (λ(x210:(Int×Int))=>(x210.1-(v205*x210.2))) (List.zip (ixD s198.2 v203) (ixD s198.2 v204)))) else s198.2) (λ(v214:Jq)=>(v213,v214)))))))))))) (λ(i:Nat) (s198:Jq×Jq)=>FrI W s198) (zbi (m:=false) dI (xs:=P1) (zaa (i:=1) rfl)) (.eq (.eq (.eq (.eq (.eq (.eq (.eq (.eq .nil)))))))) ↥(hF) (λi200 x199 s198 hx201 hI202=>have v201:=List.mem_of_getElem? hx201;⟨↥(zo8 (by assumption) (zd4 hW hp.1 rfl) (zd4 hW hp.1 rfl)),(zaq (m:=true) (x:=(zaf x199 (1:Int) P0)) dI (λz=>Oc.nx ((λ(s198:Jq×Jq)=>([⇑[dI P0],⇑[dQ K (List.map dI P1)],.ow true (List.map lI s198.1),.ow true (List.map lI s198.2),.no,.no,.no,.no]:L2.Ctx)) z)) (Ev.any (m:=true) (zal (x:=(x199,(1:Int),P0)) (zab (Ev.any (m:=false) (zaa (i:=4) rfl)) (zab zaL (zab (Ev.any (m:=false) (zaa (i:=0) rfl)) zae))) rfl (by show zaW x199 (1:Int) P0;refine ⟨by omega,by omega,by omega⟩) rfl)) (λv203 hv203=>have hO:=zd4 hW hp.1 hv203;(zaq (m:=true) (x:=(zaf x199 (2:Int) P0)) dI (λz=>Oc.nx ((λ(s198:Jq×Jq)=>([⇑[dI P0],⇑[dQ K (List.map dI P1)],.ow true (List.map lI s198.1),.ow true (List.map lI s198.2),.no,.no,.no,.no]:L2.Ctx)) z)) (Ev.any (m:=true) (zal (x:=(x199,(2:Int),P0)) (zab (Ev.any (m:=false) (zaa (i:=4) rfl)) (zab zaL (zab (Ev.any (m:=false) (zaa (i:=0) rfl)) zae))) rfl (by show zaW x199 (2:Int) P0;refine ⟨by omega,by omega,by omega⟩) rfl)) (λv204 hv204=>have hT:=zd4 hW hp.1 hv204;(zaq (m:=true) (x:=((zaf x199 (3:Int) (5:Int))-(2:Int))) dI (λz=>Oc.nx ((λ(s198:Jq×Jq)=>([⇑[dI P0],⇑[dQ K (List.map dI P1)],.ow true (List.map lI s198.1),.ow true (List.map lI s198.2),.no,.no,.no,.no]:L2.Ctx)) z)) (zaU (x:=(zaf x199 (3:Int) (5:Int))) (y:=(2:Int)) (Ev.any (m:=true) (zal (x:=(x199,(3:Int),(5:Int))) (zab (Ev.any (m:=false) (zaa (i:=4) rfl)) (zab zaL (zab zaL zae))) rfl (by show zaW x199 (3:Int) (5:Int);refine ⟨by omega,by omega,by omega⟩) rfl)) zaL) (λv205 hv205=>have hM:=zkM hv205;(zdi (b:=(!decide (v203=v204))) (λbb=>([⇑[dI P0],⇑[dQ K (List.map dI P1)],.ow true (List.map lI (bif bb then (zcz s198.1 v204 (List.map (λ(x207:(Int×Int))=>(x207.1+(v205*x207.2))) (List.zip (ixD s198.1 v204) (ixD s198.1 v203)))) else s198.1)),.ow true (List.map lI (bif bb then (zcz s198.2 v203 (List.map (λ(x210:(Int×Int))=>(x210.1-(v205*x210.2))) (List.zip (ixD s198.2 v203) (ixD s198.2 v204)))) else s198.2)),⇑[dI x199],↥[dI v203],↥[dI v204],↥[dI v205]]:L2.Ctx)) (zau (zeK (x:=v203) (y:=v204) (Ev.any (m:=true) (zaa (i:=5) rfl)) (Ev.any (m:=true) (zaa (i:=6) rfl)))) (λh206=>(zfj (f:=lI) (xs:=s198.1) (x:=(List.map (λ(x207:(Int×Int))=>(x207.1+(v205*x207.2))) (List.zip (ixD s198.1 v204) (ixD s198.1 v203)))) rfl (EvO.ev (EvO.conv (zb5 (g:=(λ(x207:(Int×Int))=>dI (x207.1+(v205*x207.2)))) (zfy (m:=true) dI dI (xs:=(ixD s198.1 v204)) (ys:=(ixD s198.1 v203)) (Ev.weak (K:=K) (zbI (f:=lI) (xs:=s198.1) rfl (Ev.any (m:=true) (zaa (i:=6) rfl)) ↥(zg4 ((by assumption):FrI W _).1 hT.1 hT.2))) (Ev.weak (K:=K) (zbI (f:=lI) (xs:=s198.1) rfl (Ev.any (m:=true) (zaa (i:=5) rfl)) ↥(zg4 ((by assumption):FrI W _).1 hO.1 hO.2)))) ↥(zp8 (by assumption) hT (by omega)) ⟨by decide,by decide⟩ (λi208 x207 hx209=>have v209:=zc2 hx209;(zaU (x:=x207.1) (y:=(v205*x207.2)) (Ev.any (m:=true) (zaa (i:=0) rfl)) (zaJ (x:=v205) (y:=x207.2) (Ev.any (m:=true) (zaa (i:=2) rfl)) (Ev.any (m:=true) (zaa (i:=1) rfl)) ↥(.inl ⟨by omega,by omega⟩))))) (by first|(rw [List.map_map];rfl)|(simp only [cond_true,cond_false];rw [List.map_map];rfl)))) (Ev.any (m:=true) (zaa (i:=6) rfl)) ↥(zg4 ((by assumption):FrI W _).1 hT.1 hT.2) (zfj (f:=lI) (xs:=s198.2) (x:=(List.map (λ(x210:(Int×Int))=>(x210.1-(v205*x210.2))) (List.zip (ixD s198.2 v203) (ixD s198.2 v204)))) rfl (EvO.ev (EvO.conv (zb5 (g:=(λ(x210:(Int×Int))=>dI (x210.1-(v205*x210.2)))) (zfy (m:=true) dI dI (xs:=(ixD s198.2 v203)) (ys:=(ixD s198.2 v204)) (Ev.weak (K:=K) (zbI (f:=lI) (xs:=s198.2) rfl (Ev.any (m:=true) (zaa (i:=5) rfl)) ↥(zg4 ((by assumption):FrI W _).2 hO.1 hO.2))) (Ev.weak (K:=K) (zbI (f:=lI) (xs:=s198.2) rfl (Ev.any (m:=true) (zaa (i:=6) rfl)) ↥(zg4 ((by assumption):FrI W _).2 hT.1 hT.2)))) ↥(zoZ (by assumption) hO (by omega)) ⟨by decide,by decide⟩ (λi211 x210 hx212=>have v212:=zc2 hx212;(zaU (x:=x210.1) (y:=(v205*x210.2)) (Ev.any (m:=true) (zaa (i:=0) rfl)) (zaJ (x:=v205) (y:=x210.2) (Ev.any (m:=true) (zaa (i:=2) rfl)) (Ev.any (m:=true) (zaa (i:=1) rfl)) ↥(.inl ⟨by omega,by omega⟩))))) (by first|(rw [List.map_map];rfl)|(simp only [cond_true,cond_false];rw [List.map_map];rfl)))) (Ev.any (m:=true) (zaa (i:=5) rfl)) ↥(zg4 ((by assumption):FrI W _).2 hO.1 hO.2) (zat (.eq (.eq (.eq (.eq (.eq (.eq (.eq (.eq .nil)))))))))))) (λh206=>(zat (.eq (.eq (.eq (.eq (.eq (.eq (.eq (.eq .nil)))))))))) (zdb (x:=(bif (!decide (v203=v204)) then (zcz s198.1 v204 (List.map (λ(x207:(Int×Int))=>(x207.1+(v205*x207.2))) (List.zip (ixD s198.1 v204) (ixD s198.1 v203)))) else s198.1)) (λv213=>([⇑[dI P0],⇑[dQ K (List.map dI P1)],.ow true (List.map lI v213),.ow true (List.map lI (bif (!decide (v203=v204)) then (zcz s198.2 v203 (List.map (λ(x210:(Int×Int))=>(x210.1-(v205*x210.2))) (List.zip (ixD s198.2 v203) (ixD s198.2 v204)))) else s198.2)),⇑[dI x199],↥[dI v203],↥[dI v204],↥[dI v205]]:L2.Ctx)) (λz=>Oc.nx ((λ(s198:Jq×Jq)=>([⇑[dI P0],⇑[dQ K (List.map dI P1)],.ow true (List.map lI s198.1),.ow true (List.map lI s198.2),.no,.no,.no,.no]:L2.Ctx)) z)) (λv213 hv213=>have hR1:=hv213;(zdb (x:=(bif (!decide (v203=v204)) then (zcz s198.2 v203 (List.map (λ(x210:(Int×Int))=>(x210.1-(v205*x210.2))) (List.zip (ixD s198.2 v203) (ixD s198.2 v204)))) else s198.2)) (λv214=>([⇑[dI P0],⇑[dQ K (List.map dI P1)],.ow true (List.map lI v213),.ow true (List.map lI v214),⇑[dI x199],↥[dI v203],↥[dI v204],↥[dI v205]]:L2.Ctx)) (λz=>Oc.nx ((λ(s198:Jq×Jq)=>([⇑[dI P0],⇑[dQ K (List.map dI P1)],.ow true (List.map lI s198.1),.ow true (List.map lI s198.2),.no,.no,.no,.no]:L2.Ctx)) z)) (λv214 hv214=>(zat (.eq (.eq (.eq (.eq (.no (.no (.no (.no .nil))))))))))))))))))))⟩) (λr215 hr215 hI=>(zcl (i:=2) rfl (zcl (i:=3) rfl (zak (zaC (zgX (zab (zaa (i:=2) rfl) (zab (zaa (i:=3) rfl) zae)) (by show 2≤sizeLine;decide))))))))))))
def zaM (P0:Int) (P1:Int) (P2:Int):Ji :=
 (Let (List.foldl (λ(s216:Ji) (x217:Int)=>(Let (zaf P1 (P2+x217) (7:Int)) (λ(v221:Int)=>(Let (ixD [(0:Int),(1:Int),(2:Int),(3:Int),(6:Int),(0:Int),(4:Int)] v221) (λ(v222:Int)=>(Let (bif ((decide (v221=(6:Int))) && (decide ((P1%(2:Int))=(1:Int)))) then ((2:Int)+(zaf P1 ((P2+(20:Int))+x217) ((10:Int) ^ (9:Int).toNat))) else v222) (λ(v224:Int)=>(s216++[v224])))))))) [] (zbo 0 P0.toNat)) (λ(r225:Ji)=>r225))
def zcs (P0:Int) (P1:Int) (P2:Int):Prop:=0≤P0∧P0≤8∧0≤P2∧P2≤100
def zef (K:W.Frag) (A:Adr):Sp:=Spv (ι:=Int×Int×Int) (λx=>[dI x.1,dI x.2.1,dI x.2.2]) (λx=>zcs x.1 x.2.1 x.2.2) (λx=>.ow true (List.map dI (zaM x.1 x.2.1 x.2.2)))
theorem zcc:FnScope ["_law_wide","_law_cell_here","_law_far","_law_found","_law_k","_law_way","_law_number"] ["_law_wide","_law_cell_here","_law_far"] (zad zcA):=⟨rfl,rfl,rfl,by decide+kernel,rfl,by decide+kernel,by decide+kernel⟩
theorem zhF (F:Fun K "_law_bottoms" "_law_bottoms" zcA f fd) (T:Txt K mg A) (yab:Callee P w K mg base (CXE P w) 1 "_law_thing" ["_law_cell_here","_law_k","_law_many"] (zcU K A)):FnOk P w K mg base (CXE P w) 2 f fd ["_law_wide","_law_cell_here","_law_far"] (zef K A):=by
 refine F.okV zcc (λ_=>rfl) (λcdv Ar outer s H E x hr hp=> ?_)
 obtain ⟨P0,P1,P2⟩:=x
 have hu:=hr.units
 replace hp:zcs P0 P1 P2:=hp
 unfold zcs at hp
 refine ⟨_,(zac (zar (i:=3) zcc.nd rfl (Or.inl rfl) (zcf zdW)) (zac (zcE PassesOwn.never rfl (zdt rfl T.range ↑[pv 0]) (zao (i:=4) zcc.nd rfl (Or.inl rfl) (Or.inl rfl)) (zac (zar (i:=5) zcc.nd rfl (Or.inl rfl) (zaD yab (hr.mono (by decide)) rfl zaB ↑[pv 1,zax zcZ (pv 2) (pv 4),zai])) (zac (zar (i:=6) zcc.nd rfl (Or.inl rfl) (zbk (zav (K:=K) rfl) (zcf (zbD zai ↑[zai,zai,zai,zai,zai,zai])) (pv 5) (λ_ _=>rfl))) (zac (zcI (PW.pt (zhL (zaI zf0 (pv 5) zai (zaQ _)) (zgw (zaI zf0 (zax zc0 (pv 1) zai) zai (zaQ _))))) (zac (zar (i:=6) zcc.nd rfl (Or.inl rfl) (zax zcZ zai (zaD yab (hr.mono (by decide)) rfl zaB ↑[pv 1,zax zcZ (zax zcZ (pv 2) zai) (pv 4),zax zqd zai zai]))) zag) zag) (zac (zcG (zbZ (K:=K) rfl (pv 3) ↑[pv 6])) zag))))) (zac (zaN (pv 3)) zag))),.inl ?_⟩
 show L2.Run _ ([⇑[dI P0],⇑[dI P1],⇑[dI P2],.no,.no,.no,.no]:L2.Ctx) _ ((λr=>Oc.rl true (List.map dI r)) (zaM P0 P1 P2))
 unfold zaM
 exact (zey (m:=true) (ds:=List.map dI []) (zdu (m:=true) zae) (zbO (s0:=[]) (λ(s216:Ji)=>([⇑[dI P0],⇑[dI P1],⇑[dI P2],.ow true (List.map dI s216),.no,.no,.no]:L2.Ctx)) (λr=>Oc.rl true (List.map dI r)) (λ(s216:Ji) (x217:Int)=>(Let (zaf P1 (P2+x217) (7:Int)) (λ(v221:Int)=>(Let (ixD [(0:Int),(1:Int),(2:Int),(3:Int),(6:Int),(0:Int),(4:Int)] v221) (λ(v222:Int)=>(Let (bif ((decide (v221=(6:Int))) && (decide ((P1%(2:Int))=(1:Int)))) then ((2:Int)+(zaf P1 ((P2+(20:Int))+x217) ((10:Int) ^ (9:Int).toNat))) else v222) (λ(v224:Int)=>(s216++[v224])))))))) (λ(i:Nat) (s216:Ji)=>s216.length≤i) (zeU (m:=true) (n:=P0) (Ev.any (m:=false) (zaa (i:=0) rfl)) (by refine ⟨?_,?_⟩<;>omega)) (.eq (.eq (.eq (.eq (.eq (.eq (.eq .nil))))))) ↥(Nat.le_refl 0) (λi218 x217 s216 hx219 hI220=>have v219:=zcN hx219;⟨↥(zmV (by assumption)),(zaq (m:=true) (x:=(zaf P1 (P2+x217) (7:Int))) dI (λz=>Oc.nx ((λ(s216:Ji)=>([⇑[dI P0],⇑[dI P1],⇑[dI P2],.ow true (List.map dI s216),.no,.no,.no]:L2.Ctx)) z)) (Ev.any (m:=true) (zal (x:=(P1,(P2+x217),(7:Int))) (zab (Ev.any (m:=false) (zaa (i:=1) rfl)) (zab (zaU (x:=P2) (y:=x217) (Ev.any (m:=false) (zaa (i:=2) rfl)) (Ev.any (m:=true) (zaa (i:=4) rfl))) (zab zaL zae))) rfl (by show zaW P1 (P2+x217) (7:Int);refine ⟨by omega,by omega,by first|decide|omega⟩) rfl)) (λv221 hv221=>have hY:=zpg hv221;(zaq (m:=true) (x:=(ixD [(0:Int),(1:Int),(2:Int),(3:Int),(6:Int),(0:Int),(4:Int)] v221)) dI (λz=>Oc.nx ((λ(s216:Ji)=>([⇑[dI P0],⇑[dI P1],⇑[dI P2],.ow true (List.map dI s216),.no,.no,.no]:L2.Ctx)) z)) (zci (f:=dI) (xs:=[(0:Int),(1:Int),(2:Int),(3:Int),(6:Int),(0:Int),(4:Int)]) (Ev.weak (K:=K) (EvO.ev (zc5 (zab zaL (zab zaL (zab zaL (zab zaL (zab zaL (zab zaL (zab zaL zae))))))) (by show 7≤sizeLine;decide)))) (Ev.any (m:=true) (zaa (i:=5) rfl)) ↥(hY)) (λv222 hv222=>(zdi (b:=((decide (v221=(6:Int))) && (decide ((P1%(2:Int))=(1:Int))))) (λbb=>([⇑[dI P0],⇑[dI P1],⇑[dI P2],.ow true (List.map dI s216),↥[dI x217],↥[dI v221],↥[dI (bif bb then ((2:Int)+(zaf P1 ((P2+(20:Int))+x217) ((10:Int) ^ (9:Int).toNat))) else v222)]]:L2.Ctx)) (zgk (b:=(decide (v221=(6:Int)))) (zau (zd5 (x:=v221) (y:=(6:Int)) (Ev.any (m:=true) (zaa (i:=5) rfl)) zaL)) (λhb=>(zau (zd5 (x:=(P1%(2:Int))) (y:=(1:Int)) (zaJ (x:=P1) (y:=(2:Int)) (Ev.any (m:=false) (zaa (i:=1) rfl)) zaL (by decide)) zaL)))) (λh223=>(zbP (m:=true) (zaU (x:=(2:Int)) (y:=(zaf P1 ((P2+(20:Int))+x217) ((10:Int) ^ (9:Int).toNat))) zaL (Ev.any (m:=true) (zal (x:=(P1,((P2+(20:Int))+x217),((10:Int)^(9:Int).toNat))) (zab (Ev.any (m:=false) (zaa (i:=1) rfl)) (zab (zaU (x:=(P2+(20:Int))) (y:=x217) (zaU (x:=P2) (y:=(20:Int)) (Ev.any (m:=false) (zaa (i:=2) rfl)) zaL) (Ev.any (m:=true) (zaa (i:=4) rfl))) (zab (zaJ (x:=(10:Int)) (y:=(9:Int)) zaL zaL ↥(⟨by decide,by decide,by decide⟩)) zae))) rfl (by show zaW P1 ((P2+(20:Int))+x217) ((10:Int)^(9:Int).toNat);refine ⟨by omega,by omega,by first|decide|omega⟩) rfl))) (zat (.eq (.eq (.eq (.eq (.eq (.eq (.eq .nil)))))))))) (λh223=>(zat (.eq (.eq (.eq (.eq (.eq (.eq (.eq .nil))))))))) (zdb (x:=(bif ((decide (v221=(6:Int))) && (decide ((P1%(2:Int))=(1:Int)))) then ((2:Int)+(zaf P1 ((P2+(20:Int))+x217) ((10:Int) ^ (9:Int).toNat))) else v222)) (λv224=>([⇑[dI P0],⇑[dI P1],⇑[dI P2],.ow true (List.map dI s216),↥[dI x217],↥[dI v221],↥[dI v224]]:L2.Ctx)) (λz=>Oc.nx ((λ(s216:Ji)=>([⇑[dI P0],⇑[dI P1],⇑[dI P2],.ow true (List.map dI s216),.no,.no,.no]:L2.Ctx)) z)) (λv224 hv224=>(zb1 (f:=dI) (xs:=s216) (x:=v224) rfl (Ev.any (m:=true) (zaa (i:=6) rfl)) ↥(zrL (by assumption) (by assumption) (by omega)) (zat (.eq (.eq (.eq (.eq (.no (.no (.no .nil))))))))))))))))⟩) (λr225 hr225 hI=>(zen (zhY (i:=3) rfl)))))
theorem zoM {w c f:Int} (hw:0≤w):(zaM w c f).length=w.toNat∧∀ b∈zaM w c f,0≤b∧b≤1000000001:=by
 unfold zaM Let
 dsimp only
 rw [Lat.zgK,List.nil_append]
 refine ⟨by rw [List.length_map,zaZ],λb hb=>?_⟩
 obtain ⟨x,_,rfl⟩:=List.mem_map.mp hb
 have h7:=zdY (c:=c) (k:=f+x) (m:=7) (by decide)
 generalize zaf c (f+x) 7=y at *
 have e10:(10:Int)^(9:Int).toNat=1000000000:=by decide +kernel
 rw [e10]
 have h9:=zdY (c:=c) (k:=f+20+x) (m:=1000000000) (by decide)
 have key:0≤ixD [(0:Int),(1:Int),(2:Int),(3:Int),(6:Int),(0:Int),(4:Int)] y∧ixD [(0:Int),(1:Int),(2:Int),(3:Int),(6:Int),(0:Int),(4:Int)] y≤6:=by
  have hm:=zgj (xs:=[(0:Int),(1:Int),(2:Int),(3:Int),(6:Int),(0:Int),(4:Int)]) (i:=y) (by show InB 7 y;unfold InB;omega)
  generalize ixD [(0:Int),(1:Int),(2:Int),(3:Int),(6:Int),(0:Int),(4:Int)] y=z at *
  simp at hm
  omega
 cases (decide (y=(6:Int))&&decide (c%(2:Int)=(1:Int)))
 ·rw [cond_false];omega
 ·rw [cond_true];omega
theorem zrQ {s:Jq} {i w:Nat} {b:Bool} {y:Ji} (h:s.length≤i∧∀ r∈s,r.length=w) (hy:y.length=w):(bif b then (s++[y]) else s).length≤i+1∧∀ r∈(bif b then (s++[y]) else s),r.length=w:=by
 cases b
 ·exact ⟨by show s.length≤_;omega,h.2⟩
 ·refine ⟨by show (s++[y]).length≤_;rw [List.length_append,List.length_singleton];omega,λr hr=>?_⟩
  rcases List.mem_append.mp hr with hr | hr
  ·exact h.2 r hr
  ·rw [List.mem_singleton.mp hr];exact hy
def StP (rows:Jq) (bs:Ji) (idle:Int):Prop:=∃ W:Nat,1≤W∧W≤8∧Sq W W rows∧bs.length=W∧(∀ b∈bs,0≤b∧b≤1000000001)∧0≤idle∧idle≤3
theorem zts {s rows:Jq} {bs:Ji} {W:Nat} (hI:s.length≤((List.zip rows bs)).length∧∀ r∈s,r.length=W) (hq:Sq W W rows) (w8:W≤8):s.length≤8∧∀ r∈s,r.length=W:=by
 refine ⟨?_,hI.2⟩
 have:=hI.1
 rw [List.length_zip] at this
 have:=hq.1
 omega
theorem zrJ {w:Nat} {rows a ys:Jq} {k idle:Int} (hw:rows.length=w) (h0:0≤idle) (h:a.length≤8∧∀ r∈a,r.length=w) (hk:k=((a.length:Nat):Int)) (e:ys=a++List.map (λ(_:Int)=>zbV ((rows.length:Nat):Int) [(0:Int)]) (zbo 0 idle.toNat)):Sq w (k+idle).toNat ys:=by
 subst e
 refine ⟨by rw [List.length_append,List.length_map,zaZ];omega,λr hr=>?_⟩
 rcases List.mem_append.mp hr with hr | hr
 ·exact h.2 r hr
 ·obtain ⟨x,_,rfl⟩:=List.mem_map.mp hr
  rw [Lat.zcR];exact hw
theorem zph {k idle:Int} {ts:Jq} (e:ts=List.map (λ(x:Int)=>List.map (λ(y:Int)=>(if (decide (y=(k+x))) then (1:Int) else 0)) (zbo 0 (k+idle).toNat)) (zbo 0 idle.toNat)):∀ t∈ts,t.length=(k+idle).toNat:=λt ht=>by
 subst e
 obtain ⟨x,_,rfl⟩:=List.mem_map.mp ht
 rw [List.length_map,zaZ]
def StI (w n:Nat) (s:Jq×Jq):Prop:=Sq w n s.1∧∀ t∈s.2,t.length=n
theorem zgA {n:Nat} {w:Nat} {s:Jq} {c k x:Int} (h:Sq w n s) (e:x=zaf c k (max (1:Int) ((s.length:Nat):Int))):0≤x∧(x<(n:Int)∨x=0):=by
 subst e;have:=zdY (c:=c) (k:=k) (m:=max (1:Int) ((s.length:Nat):Int)) (by omega);rw [h.1] at this ⊢;omega
theorem zgo {n:Nat} {x y:Int} (hx:0≤x∧(x<(n:Int)∨x=0)) (hy:0≤y∧(y<(n:Int)∨y=0)) (h:(!decide (x=y))=true):(0≤x∧x<(n:Int))∧0≤y∧y<(n:Int):=by
 have:x≠y:=by simpa using h
 omega
theorem zpJ {n:Nat} {ns:Ji} {x:Int} (h:ns.length=n) (hx:0≤x∧x<(n:Int)):InB ns.length x:=by unfold InB;omega
theorem zp1 {w n:Nat} {s:Jq×Jq} {x y q:Int} (h:StI w n s) (hx:0≤x∧(x<(n:Int)∨x=0)) (hy:0≤y∧(y<(n:Int)∨y=0)) :
  StI w n (bif (!decide (x=y)) then (zcz s.1 y (List.map (λ(z:Int×Int)=>(z.1+(q*z.2))) (List.zip (ixD s.1 y) (ixD s.1 x)))) else s.1,bif (!decide (x=y)) then (List.map (λ(ns:Ji)=>zcz ns x (ixD ns x-(q*ixD ns y))) s.2) else s.2):=by
 by_cases e:x=y
 ·rw [decide_eq_true e];exact h
 ·rw [decide_eq_false e]
  have hl:=zgo hx hy (by simp [e])
  refine ⟨zmD h.1 (zja h.1 h.1 hl.2 hl.1),λt ht=>?_⟩
  obtain ⟨z,hz,rfl⟩:=List.mem_map.mp ht
  rw [zd3];exact h.2 z hz
theorem zsJ {w n:Nat} {s:Jq} {x y:Int} (h:Sq w n s) (hx:0≤x∧x<(n:Int)) (hw:w≤8):(List.zip (ixD s x) (ixD s y)).length≤PySem.sizeLine:=zl8 (ys:=s) (m:=0) h hx (by omega)
theorem zrO {W:Nat} {rows:Jq} {r:Ji} (h:Sq W W rows) (hm:r∈rows) (hw:W≤8):r.length≤PySem.sizeLine:=zap (by have:=h.2 r hm;omega)
theorem zsu {W:Nat} {rows:Jq} {bs:Ji} {i:Nat} {p:Ji×Int} (h:Sq W W rows) (hx:rows[i]?=some p.1∧bs[i]?=some p.2):i<W:=by have:=(List.getElem?_eq_some_iff.mp hx.1).1;rw [h.1] at this;exact this
def zaE (P0:Jq) (P1:Ji) (P2:Int) (P3:Ji):(Jq×Jq) :=
 (Let (List.foldl (λ(s226:Jq) (x227:(Ji×Int))=>(Let (bif (decide ((0:Int)<x227.2)) then (s226++[(List.map (λ(x232:Int)=>(x227.2*x232)) x227.1)]) else s226) (λ(v235:Jq)=>v235))) [] (List.zip P0 P1)) (λ(r236:Jq)=>(Let ((r236.length:Nat):Int) (λ(v237:Int)=>(Let (r236++(List.map (λ(x238:Int)=>(zbV ((P0.length:Nat):Int) [(0:Int)])) (zbo 0 P2.toNat))) (λ(v241:Jq)=>(Let (List.map (λ(x242:Int)=>(List.map (λ(x245:Int)=>(if (decide (x245=(v237+x242))) then 1 else 0)) (zbo 0 (v237+P2).toNat))) (zbo 0 P2.toNat)) (λ(v248:Jq)=>(Let (List.foldl (λ(s249:Jq×Jq) (x250:Int)=>(Let (zaf x250 (4:Int) (max (1:Int) ((s249.1.length:Nat):Int))) (λ(v254:Int)=>(Let (zaf x250 (5:Int) (max (1:Int) ((s249.1.length:Nat):Int))) (λ(v255:Int)=>(Let ((zaf x250 (6:Int) (5:Int))-(2:Int)) (λ(v256:Int)=>(Let (bif (!decide (v254=v255)) then (zcz s249.1 v255 (List.map (λ(x258:(Int×Int))=>(x258.1+(v256*x258.2))) (List.zip (ixD s249.1 v255) (ixD s249.1 v254)))) else s249.1) (λ(v262:Jq)=>(Let (bif (!decide (v254=v255)) then (List.map (λ(ns261:Ji)=>zcz ns261 v254 ((ixD ns261 v254)-(v256*(ixD ns261 v255)))) s249.2) else s249.2) (λ(v263:Jq)=>(v262,v263)))))))))))) (v241,v248) P3) (λ(r264:Jq×Jq)=>(r264.1,r264.2)))))))))))
def zcn (P0:Jq) (P1:Ji) (P2:Int) (P3:Ji):Prop:=StP P0 P1 P2
def zeb (K:W.Frag) (A:Adr):Sp:=Spv (ι:=Jq×Ji×Int×Ji) (λx=>[dQ K (List.map lI x.1),dQ K (List.map dI x.2.1),dI x.2.2.1,dQ K (List.map dI x.2.2.2)]) (λx=>zcn x.1 x.2.1 x.2.2.1 x.2.2.2) (λx=>↥[dT [dL (List.map lI ((zaE x.1 x.2.1 x.2.2.1 x.2.2.2).1)),dL (List.map lI ((zaE x.1 x.2.1 x.2.2.1 x.2.2.2).2))]])
theorem zaS:FnScope ["_law_rows","_law_bottoms_here","_law_idle","_law_cells","_law_swaps","_law_row","_law_number","_law_kept","_law_trips","_law_cell_here","_law_one","_law_two_here","_law_many","_law_trip"] ["_law_rows","_law_bottoms_here","_law_idle","_law_cells"] (zad zbd):=⟨rfl,rfl,rfl,by decide+kernel,rfl,by decide+kernel,by decide+kernel⟩
theorem zhE (F:Fun K "_law_stirred" "_law_stirred" zbd f fd) (T:Txt K mg A) (yab:Callee P w K mg base (CXE P w) 1 "_law_thing" ["_law_cell_here","_law_k","_law_many"] (zcU K A)):FnOk P w K mg base (CXE P w) 2 f fd ["_law_rows","_law_bottoms_here","_law_idle","_law_cells"] (zeb K A):=by
 refine F.okV zaS (λ_=>rfl) (λcdv Ar outer s H E x hr hp=> ?_)
 obtain ⟨P0,P1,P2,P3⟩:=x
 have hu:=hr.units
 replace hp:zcn P0 P1 P2 P3:=hp
 unfold zcn at hp
 obtain ⟨W,w1,w8,hq,hb,hbb,hi0,hi3⟩:=hp
 refine ⟨_,(zac (zar (i:=4) zaS.nd rfl (Or.inl rfl) (zcf zdW)) (zac (zcE PassesOwn.never rfl (zdh (K:=K) rfl rfl T.zip ↑[pv 0,pv 1]) (zbJ (K:=K) (n:=2) rfl rfl (zaF (zao (i:=5) zaS.nd rfl (Or.inl rfl) (Or.inl rfl)) (zaF (zao (i:=6) zaS.nd rfl (Or.inr rfl) (Or.inl rfl)) zcj))) (zac (zcI (zaI zkZ (pv 6) zai (zaQ _)) (zac (zcG (zbZ (K:=K) rfl (pv 4) ↑[(zb0 rfl (.of (osc:=(zad zbd)) (N:=["_law_rows","_law_bottoms_here","_law_idle","_law_cells","_law_swaps","_law_row","_law_number","_law_kept","_law_trips","_law_cell_here","_law_one","_law_two_here","_law_many","_law_trip"]) (own:=["_law_entry"]) (fvn:=["_law_number"]) (fv:=[6]) rfl rfl (by decide+kernel)) (zaP (K:=K) rfl (pv 5)) (λ_ _ _ _ _=>⟨(zao (i:=0) (show (["_law_entry","_law_number"]:List Str).Nodup by decide +kernel) rfl (Or.inl rfl) (Or.inr rfl)),zbg,(zax zbj (pv 1) (pv 0))⟩))])) zag) zag) zag)) (zac (zar (i:=7) zaS.nd rfl (Or.inr rfl) (za3 (zaR (K:=K) rfl) rfl T.len PySem.boot_len ↑[pv 4])) (zac (zar (i:=4) zaS.nd rfl (Or.inl rfl) (zax zdO (pv 4) (zb0 rfl (.of (osc:=(zad zbd)) (N:=["_law_rows","_law_bottoms_here","_law_idle","_law_cells","_law_swaps","_law_row","_law_number","_law_kept","_law_trips","_law_cell_here","_law_one","_law_two_here","_law_many","_law_trip"]) (own:=["_law_k"]) (fvn:=["_law_rows"]) (fv:=[0]) rfl rfl (by decide+kernel)) (zdt rfl T.range ↑[pv 2]) (λ_ _ _ _ _=>⟨(zao (i:=0) (show (["_law_k","_law_rows"]:List Str).Nodup by decide +kernel) rfl (Or.inl rfl) (Or.inr rfl)),zbg,(zax zh0 (zcf ↑[zai]) (za3 (zaR (K:=K) rfl) rfl T.len PySem.boot_len ↑[pv 1]))⟩)))) (zac (zec (i:=8) rfl zaS.nd rfl rfl (.of (osc:=(zad zbd)) (N:=["_law_rows","_law_bottoms_here","_law_idle","_law_cells","_law_swaps","_law_row","_law_number","_law_kept","_law_trips","_law_cell_here","_law_one","_law_two_here","_law_many","_law_trip"]) (own:=["_law_k"]) (fvn:=["_law_kept","_law_idle"]) (fv:=[7,2]) rfl rfl (by decide+kernel)) (zdt rfl T.range ↑[pv 2]) (λ_ _ _ _ _=>⟨(zao (i:=0) (show (["_law_k","_law_kept","_law_idle"]:List Str).Nodup by decide +kernel) rfl (Or.inr rfl) (Or.inl rfl)),zbg,(zb0 rfl (.of (osc:=({ kind:=.function,names:=[(".0",.local),("_law_k",.cell),("range",.globalImplicit),("_law_idle",.cell),("_law_kept",.cell)],isGenerator:=false,isCoroutine:=false }:Scope)) (N:=["_law_k","_law_kept","_law_idle"]) (own:=["_law_j"]) (fvn:=["_law_kept","_law_k"]) (fv:=[1,0]) rfl rfl (by decide+kernel)) (zdt rfl T.range ↑[zax zcZ (pv 1) (pv 2)]) (λ_ _ _ _ _=>⟨(zao (i:=0) (show (["_law_j","_law_kept","_law_k"]:List Str).Nodup by decide +kernel) rfl (Or.inl rfl) (Or.inr rfl)),zbg,(zdQ ziH rfl T.int (by decide+kernel) ↑[zhq zf0 (pv 0) (zax zcZ (pv 1) (pv 2)) (zaQ _)])⟩))⟩)) (zac (zcE PassesOwn.never rfl (zaP (K:=K) rfl (pv 3)) (zao (i:=9) zaS.nd rfl (Or.inl rfl) (Or.inl rfl)) (zac (zar (i:=10) zaS.nd rfl (Or.inl rfl) (zaD yab (hr.mono (by decide)) rfl zaB ↑[pv 9,zai,(za3 (zi7 rfl) rfl T.max PyProof.Rows.boot_max ↑[zai,(za3 (zaR (K:=K) rfl) rfl T.len PySem.boot_len ↑[pv 4])])])) (zac (zar (i:=11) zaS.nd rfl (Or.inl rfl) (zaD yab (hr.mono (by decide)) rfl zaB ↑[pv 9,zai,(za3 (zi7 rfl) rfl T.max PyProof.Rows.boot_max ↑[zai,(za3 (zaR (K:=K) rfl) rfl T.len PySem.boot_len ↑[pv 4])])])) (zac (zar (i:=12) zaS.nd rfl (Or.inr rfl) (zax zeN (zaD yab (hr.mono (by decide)) rfl zaB ↑[pv 9,zai,zai]) zai)) (zac (zcI (zaI zgq (pv 10) (pv 11) (zaQ _)) (zac (zhv (zb0 rfl (.of (osc:=(zad zbd)) (N:=["_law_rows","_law_bottoms_here","_law_idle","_law_cells","_law_swaps","_law_row","_law_number","_law_kept","_law_trips","_law_cell_here","_law_one","_law_two_here","_law_many","_law_trip"]) (own:=["_law_a","_law_b"]) (fvn:=["_law_many"]) (fv:=[12]) rfl rfl (by decide+kernel)) (zdh (K:=K) rfl rfl T.zip ↑[(zbk (zav (K:=K) rfl) (pv 4) (pv 11) (λ_ _=>rfl)),(zbk (zav (K:=K) rfl) (pv 4) (pv 10) (λ_ _=>rfl))]) (λ_ _ _ _ _=>⟨(zbJ (K:=K) (n:=2) rfl rfl (zaF (zao (i:=0) (show (["_law_a","_law_b","_law_many"]:List Str).Nodup by decide+kernel) rfl (Or.inl rfl) (Or.inr rfl)) (zaF (zao (i:=1) (show (["_law_a","_law_b","_law_many"]:List Str).Nodup by decide+kernel) rfl (Or.inl rfl) (Or.inr rfl)) zcj))),zbg,(zax zcZ (pv 0) (zax zbj (pv 2) (pv 1)))⟩)) (zh4 (pv 4) (pv 11) zfd)) (zac (zcE PassesOwn.never rfl (zaP (K:=K) rfl (pv 8)) (zao (i:=13) zaS.nd rfl (Or.inl rfl) (Or.inl rfl)) (zac (zhv (zax zeN (zbk (zav (K:=K) rfl) (pv 13) (pv 10) (λ_ _=>rfl)) (zax zbj (pv 12) (zbk (zav (K:=K) rfl) (pv 13) (pv 11) (λ_ _=>rfl)))) (zh4 (pv 13) (pv 10) zfd)) zag)) zag)) zag) zag))))) (zac (zaN (zho ↑[pv 4,pv 8])) zag))))))),.inl ?_⟩
 show L2.Run _ ([⇑[dQ K (List.map lI P0)],⇑[dQ K (List.map dI P1)],⇑[dI P2],⇑[dQ K (List.map dI P3)],.no,.no,.no,.no,.no,.no,.no,.no,.no,.no]:L2.Ctx) _ ((λ(r:(Jq×Jq))=>Oc.rt true (dT [dL (List.map lI r.1),dL (List.map lI r.2)])) (zaE P0 P1 P2 P3))
 unfold zaE
 exact (zey (m:=true) (ds:=List.map lI []) (zdu (m:=true) zae) (zbO (s0:=[]) (λ(s226:Jq)=>([⇑[dQ K (List.map lI P0)],⇑[dQ K (List.map dI P1)],⇑[dI P2],⇑[dQ K (List.map dI P3)],.ow true (List.map lI s226),.no,.no,.no,.no,.no,.no,.no,.no,.no]:L2.Ctx)) (λ(r:(Jq×Jq))=>Oc.rt true (dT [dL (List.map lI r.1),dL (List.map lI r.2)])) (λ(s226:Jq) (x227:(Ji×Int))=>(Let (bif (decide ((0:Int)<x227.2)) then (s226++[(List.map (λ(x232:Int)=>(x227.2*x232)) x227.1)]) else s226) (λ(v235:Jq)=>v235))) (λ(i:Nat) (s226:Jq)=>s226.length≤i∧∀ r∈s226,r.length=W) (zfy (m:=false) lI dI (xs:=P0) (ys:=P1) (zaa (i:=0) rfl) (zaa (i:=1) rfl)) (.eq (.eq (.eq (.eq (.eq (.eq (.eq (.eq (.eq (.eq (.eq (.eq (.eq (.eq .nil)))))))))))))) ↥(⟨Nat.le_refl 0,λr hr=>by simp at hr⟩) (λi228 x227 s226 hx229 hI230=>have v229:=zc2 hx229;⟨↥(zrQ (by assumption) (by rw [List.length_map];exact hq.2 _ (List.mem_of_getElem? ((by assumption):_∧_).1))),(zdi (b:=(decide ((0:Int)<x227.2))) (λbb=>([⇑[dQ K (List.map lI P0)],⇑[dQ K (List.map dI P1)],⇑[dI P2],⇑[dQ K (List.map dI P3)],.ow true (List.map lI (bif bb then (s226++[(List.map (λ(x232:Int)=>(x227.2*x232)) x227.1)]) else s226)),⇑[dL (List.map dI x227.1)],⇑[dI x227.2],.no,.no,.no,.no,.no,.no,.no]:L2.Ctx)) (zau (zaU (x:=x227.2) (y:=(0:Int)) (Ev.any (m:=false) (zaa (i:=6) rfl)) zaL)) (λh231=>(zb1 (f:=lI) (xs:=s226) (x:=(List.map (λ(x232:Int)=>(x227.2*x232)) x227.1)) rfl (EvO.ev (EvO.conv (zb5 (g:=(λ(x232:Int)=>dI (x227.2*x232))) (zbi (m:=false) dI (xs:=x227.1) (Ev.weak (K:=K) (zaa (i:=5) rfl))) ↥(zrO hq (List.mem_of_getElem? ((by assumption):_∧_).1) w8) ⟨by decide,by decide⟩ (λi233 x232 hx234=>have v234:=List.mem_of_getElem? hx234;(zaJ (x:=x227.2) (y:=x232) (Ev.any (m:=false) (zaa (i:=1) rfl)) (Ev.any (m:=false) (zaa (i:=0) rfl)) (by have z:=hbb _ (List.mem_of_getElem? ((by assumption):_∧_).2);exact .inl ⟨by omega,by omega⟩)))) (by first|(rw [List.map_map];rfl)|(simp only [cond_true,cond_false];rw [List.map_map];rfl)))) (by have z:=zsu hq (by assumption);exact Nat.lt_of_le_of_lt (show _≤1000 by omega) (by decide)) (zat (.eq (.eq (.eq (.eq (.eq (.eq (.eq (.eq (.eq (.eq (.eq (.eq (.eq (.eq .nil))))))))))))))))) (λh231=>(zat (.eq (.eq (.eq (.eq (.eq (.eq (.eq (.eq (.eq (.eq (.eq (.eq (.eq (.eq .nil)))))))))))))))) (zdb (x:=(bif (decide ((0:Int)<x227.2)) then (s226++[(List.map (λ(x232:Int)=>(x227.2*x232)) x227.1)]) else s226)) (λv235=>([⇑[dQ K (List.map lI P0)],⇑[dQ K (List.map dI P1)],⇑[dI P2],⇑[dQ K (List.map dI P3)],.ow true (List.map lI v235),⇑[dL (List.map dI x227.1)],⇑[dI x227.2],.no,.no,.no,.no,.no,.no,.no]:L2.Ctx)) (λz=>Oc.nx ((λ(s226:Jq)=>([⇑[dQ K (List.map lI P0)],⇑[dQ K (List.map dI P1)],⇑[dI P2],⇑[dQ K (List.map dI P3)],.ow true (List.map lI s226),.no,.no,.no,.no,.no,.no,.no,.no,.no]:L2.Ctx)) z)) (λv235 hv235=>(zat (.eq (.eq (.eq (.eq (.eq (.no (.no (.eq (.eq (.eq (.eq (.eq (.eq (.eq .nil))))))))))))))))))⟩) (λr236 hr236 hI=>(zaq (m:=true) (x:=((r236.length:Nat):Int)) dI (λ(r:(Jq×Jq))=>Oc.rt true (dT [dL (List.map lI r.1),dL (List.map lI r.2)])) (zgb (f:=lI) (xs:=r236) rfl) (λv237 hv237=>have hL:=zts hI hq w8;have hK:=hv237;(zcl (i:=4) rfl (zez (m:=true) (x:=(r236++(List.map (λ(x238:Int)=>(zbV ((P0.length:Nat):Int) [(0:Int)])) (zbo 0 P2.toNat)))) (λz=>List.map lI z) (λ(r:(Jq×Jq))=>Oc.rt true (dT [dL (List.map lI r.1),dL (List.map lI r.2)])) (zcP (f:=lI) (xs:=r236) (ys:=(List.map (λ(x238:Int)=>(zbV ((P0.length:Nat):Int) [(0:Int)])) (zbo 0 P2.toNat))) (zaa (i:=4) rfl) (EvO.ev (EvO.conv (zb5 (g:=(λ(x238:Int)=>dL (List.map dI (zbV ((P0.length:Nat):Int) [(0:Int)])))) (zeU (m:=true) (n:=P2) (Ev.any (m:=false) (zaa (i:=2) rfl)) (by refine ⟨?_,?_⟩<;>omega)) ↥(zap (by rw [zaZ];omega)) ⟨by decide,by decide⟩ (λi239 x238 hx240=>have v240:=zcN hx240;(EvO.ev (zfJ (f:=dI) (xs:=[(0:Int)]) (n:=((P0.length:Nat):Int)) (EvO.ev (zc5 (zab zaL zae) (by show 1≤sizeLine;decide))) (zco (f:=lI) (xs:=P0) (zaa (i:=1) rfl)) (by have z:=hq.1;constructor<;>omega) (by show 1*_≤PySem.sizeLine;have z:=hq.1;exact zap (by omega)))))) (by first|(rw [List.map_map];rfl)|(simp only [cond_true,cond_false];rw [List.map_map];rfl)))) ↥(zap (by rw [List.length_map,zaZ];omega))) (λv241 hv241=>have hS:=zrJ hq.1 hi0 hL hK hv241;(zno (x:=(List.map (λ(x242:Int)=>(List.map (λ(x245:Int)=>(if (decide (x245=(v237+x242))) then 1 else 0)) (zbo 0 (v237+P2).toNat))) (zbo 0 P2.toNat))) dRI (λ(r:(Jq×Jq))=>Oc.rt true (dT [dL (List.map lI r.1),dL (List.map lI r.2)])) (zrq (znM (ns:=λ(x242:Int)=>(List.map (λ(x245:Int)=>(if (decide (x245=(v237+x242))) then 1 else 0)) (zbo 0 (v237+P2).toNat))) (zeU (m:=true) (n:=P2) (Ev.any (m:=false) (zaa (i:=2) rfl)) (by refine ⟨?_,?_⟩<;>omega)) ↥(zap (by rw [zaZ];omega)) ⟨by decide,by decide⟩ (λi243 x242 hx244=>have v244:=zcN hx244;(EvO.conv (zb5 (g:=(λ(x245:Int)=>dI (if (decide (x245=(v237+x242))) then 1 else 0))) (zeU (m:=true) (n:=(v237+P2)) (zaU (x:=v237) (y:=P2) (Ev.any (m:=false) (zaa (i:=1) rfl)) (Ev.any (m:=false) (zaa (i:=2) rfl))) (by refine ⟨?_,?_⟩<;>omega)) ↥(zap (by rw [zaZ];omega)) ⟨by decide,by decide⟩ (λi246 x245 hx247=>have v247:=zcN hx247;(zm9 (b:=(decide (x245=(v237+x242)))) (zab (zd5 (x:=x245) (y:=(v237+x242)) (Ev.any (m:=true) (zaa (i:=0) rfl)) (zaU (x:=v237) (y:=x242) (Ev.any (m:=false) (zaa (i:=1) rfl)) (Ev.any (m:=true) (zaa (i:=2) rfl)))) zae)))) (by first|(rw [List.map_map];rfl)|(simp only [cond_true,cond_false];rw [List.map_map];rfl)))))) (λv248 hv248=>have hTr:=zph hv248;(zbO (s0:=(v241,v248)) (λ(s249:Jq×Jq)=>([⇑[dQ K (List.map lI P0)],⇑[dQ K (List.map dI P1)],⇑[dI P2],⇑[dQ K (List.map dI P3)],.ow true (List.map lI s249.1),.no,.no,↥[dI v237],.tl (dRI s249.2),.no,.no,.no,.no,.no]:L2.Ctx)) (λ(r:(Jq×Jq))=>Oc.rt true (dT [dL (List.map lI r.1),dL (List.map lI r.2)])) (λ(s249:Jq×Jq) (x250:Int)=>(Let (zaf x250 (4:Int) (max (1:Int) ((s249.1.length:Nat):Int))) (λ(v254:Int)=>(Let (zaf x250 (5:Int) (max (1:Int) ((s249.1.length:Nat):Int))) (λ(v255:Int)=>(Let ((zaf x250 (6:Int) (5:Int))-(2:Int)) (λ(v256:Int)=>(Let (bif (!decide (v254=v255)) then (zcz s249.1 v255 (List.map (λ(x258:(Int×Int))=>(x258.1+(v256*x258.2))) (List.zip (ixD s249.1 v255) (ixD s249.1 v254)))) else s249.1) (λ(v262:Jq)=>(Let (bif (!decide (v254=v255)) then (List.map (λ(ns261:Ji)=>zcz ns261 v254 ((ixD ns261 v254)-(v256*(ixD ns261 v255)))) s249.2) else s249.2) (λ(v263:Jq)=>(v262,v263)))))))))))) (λ(i:Nat) (s249:Jq×Jq)=>StI W (v237+P2).toNat s249) (zbi (m:=false) dI (xs:=P3) (zaa (i:=3) rfl)) (.eq (.eq (.eq (.eq (.eq (.eq (.eq (.eq (.eq (.eq (.eq (.eq (.eq (.eq .nil)))))))))))))) ↥(⟨hS,hTr⟩) (λi251 x250 s249 hx252 hI253=>have v252:=List.mem_of_getElem? hx252;⟨↥(zp1 (by assumption) (zgA (((by assumption):StI W _ _)).1 rfl) (zgA (((by assumption):StI W _ _)).1 rfl)),(zaq (m:=true) (x:=(zaf x250 (4:Int) (max (1:Int) ((s249.1.length:Nat):Int)))) dI (λz=>Oc.nx ((λ(s249:Jq×Jq)=>([⇑[dQ K (List.map lI P0)],⇑[dQ K (List.map dI P1)],⇑[dI P2],⇑[dQ K (List.map dI P3)],.ow true (List.map lI s249.1),.no,.no,↥[dI v237],.tl (dRI s249.2),.no,.no,.no,.no,.no]:L2.Ctx)) z)) (Ev.any (m:=true) (zal (x:=(x250,(4:Int),(max (1:Int) ((s249.1.length:Nat):Int)))) (zab (Ev.any (m:=false) (zaa (i:=9) rfl)) (zab zaL (zab (zoL (x:=(1:Int)) (y:=((s249.1.length:Nat):Int)) (zab zaL (zab (zgb (f:=lI) (xs:=s249.1) rfl) zae))) zae))) rfl (by show zaW x250 (4:Int) (max (1:Int) ((s249.1.length:Nat):Int));refine ⟨by decide,by decide,by omega⟩) rfl)) (λv254 hv254=>have hO:=zgA (((by assumption):StI W _ _)).1 hv254;(zaq (m:=true) (x:=(zaf x250 (5:Int) (max (1:Int) ((s249.1.length:Nat):Int)))) dI (λz=>Oc.nx ((λ(s249:Jq×Jq)=>([⇑[dQ K (List.map lI P0)],⇑[dQ K (List.map dI P1)],⇑[dI P2],⇑[dQ K (List.map dI P3)],.ow true (List.map lI s249.1),.no,.no,↥[dI v237],.tl (dRI s249.2),.no,.no,.no,.no,.no]:L2.Ctx)) z)) (Ev.any (m:=true) (zal (x:=(x250,(5:Int),(max (1:Int) ((s249.1.length:Nat):Int)))) (zab (Ev.any (m:=false) (zaa (i:=9) rfl)) (zab zaL (zab (zoL (x:=(1:Int)) (y:=((s249.1.length:Nat):Int)) (zab zaL (zab (zgb (f:=lI) (xs:=s249.1) rfl) zae))) zae))) rfl (by show zaW x250 (5:Int) (max (1:Int) ((s249.1.length:Nat):Int));refine ⟨by decide,by decide,by omega⟩) rfl)) (λv255 hv255=>have hT:=zgA (((by assumption):StI W _ _)).1 hv255;(zaq (m:=true) (x:=((zaf x250 (6:Int) (5:Int))-(2:Int))) dI (λz=>Oc.nx ((λ(s249:Jq×Jq)=>([⇑[dQ K (List.map lI P0)],⇑[dQ K (List.map dI P1)],⇑[dI P2],⇑[dQ K (List.map dI P3)],.ow true (List.map lI s249.1),.no,.no,↥[dI v237],.tl (dRI s249.2),.no,.no,.no,.no,.no]:L2.Ctx)) z)) (zaU (x:=(zaf x250 (6:Int) (5:Int))) (y:=(2:Int)) (Ev.any (m:=true) (zal (x:=(x250,(6:Int),(5:Int))) (zab (Ev.any (m:=false) (zaa (i:=9) rfl)) (zab zaL (zab zaL zae))) rfl (by show zaW x250 (6:Int) (5:Int);refine ⟨by decide,by decide,by omega⟩) rfl)) zaL) (λv256 hv256=>have hM:=zkM hv256;(zdi (b:=(!decide (v254=v255))) (λbb=>([⇑[dQ K (List.map lI P0)],⇑[dQ K (List.map dI P1)],⇑[dI P2],⇑[dQ K (List.map dI P3)],.ow true (List.map lI (bif bb then (zcz s249.1 v255 (List.map (λ(x258:(Int×Int))=>(x258.1+(v256*x258.2))) (List.zip (ixD s249.1 v255) (ixD s249.1 v254)))) else s249.1)),.no,.no,↥[dI v237],.tl (dRI (bif bb then (List.map (λ(ns261:Ji)=>zcz ns261 v254 ((ixD ns261 v254)-(v256*(ixD ns261 v255)))) s249.2) else s249.2)),⇑[dI x250],↥[dI v254],↥[dI v255],↥[dI v256],.no]:L2.Ctx)) (zau (zeK (x:=v254) (y:=v255) (Ev.any (m:=true) (zaa (i:=10) rfl)) (Ev.any (m:=true) (zaa (i:=11) rfl)))) (λh257=>(zfj (f:=lI) (xs:=s249.1) (x:=(List.map (λ(x258:(Int×Int))=>(x258.1+(v256*x258.2))) (List.zip (ixD s249.1 v255) (ixD s249.1 v254)))) rfl (EvO.ev (EvO.conv (zb5 (g:=(λ(x258:(Int×Int))=>dI (x258.1+(v256*x258.2)))) (zfy (m:=true) dI dI (xs:=(ixD s249.1 v255)) (ys:=(ixD s249.1 v254)) (Ev.weak (K:=K) (zbI (f:=lI) (xs:=s249.1) rfl (Ev.any (m:=true) (zaa (i:=11) rfl)) ↥(zg4 (((by assumption):StI W _ _)).1 ((zgo hO hT (by assumption))).2.1 ((zgo hO hT (by assumption))).2.2))) (Ev.weak (K:=K) (zbI (f:=lI) (xs:=s249.1) rfl (Ev.any (m:=true) (zaa (i:=10) rfl)) ↥(zg4 (((by assumption):StI W _ _)).1 ((zgo hO hT (by assumption))).1.1 ((zgo hO hT (by assumption))).1.2)))) ↥(zsJ (((by assumption):StI W _ _)).1 ((zgo hO hT (by assumption))).2 w8) ⟨by decide,by decide⟩ (λi259 x258 hx260=>have v260:=zc2 hx260;(zaU (x:=x258.1) (y:=(v256*x258.2)) (Ev.any (m:=true) (zaa (i:=0) rfl)) (zaJ (x:=v256) (y:=x258.2) (Ev.any (m:=true) (zaa (i:=2) rfl)) (Ev.any (m:=true) (zaa (i:=1) rfl)) ↥(.inl ⟨by omega,by omega⟩))))) (by first|(rw [List.map_map];rfl)|(simp only [cond_true,cond_false];rw [List.map_map];rfl)))) (Ev.any (m:=true) (zaa (i:=11) rfl)) ↥(zg4 (((by assumption):StI W _ _)).1 ((zgo hO hT (by assumption))).2.1 ((zgo hO hT (by assumption))).2.2) (zjt (nss:=s249.2) (i:=8) (j:=13) (v:=λ(ns261:Ji)=>((ixD ns261 v254)-(v256*(ixD ns261 v255)))) (k:=v254) (P:=λ(ns261:Ji)=>ns261.length=(v237+P2).toNat) rfl rfl rfl ↥((((by assumption):StI W _ _)).2) (λns261 hns=>↥(zpJ hns ((zgo hO hT (by assumption))).1)) (λns261 hns=>Ev.borrow (m:=false) rfl (zaU (x:=(ixD ns261 v254)) (y:=(v256*(ixD ns261 v255))) (Ev.any (m:=true) (zci (f:=dI) (xs:=ns261) (Ev.weak (K:=K) (zaa (i:=13) rfl)) (Ev.any (m:=true) (zaa (i:=10) rfl)) ↥(zpJ hns ((zgo hO hT (by assumption))).1))) (zaJ (x:=v256) (y:=(ixD ns261 v255)) (Ev.any (m:=true) (zaa (i:=12) rfl)) (Ev.any (m:=true) (zci (f:=dI) (xs:=ns261) (Ev.weak (K:=K) (zaa (i:=13) rfl)) (Ev.any (m:=true) (zaa (i:=11) rfl)) ↥(zpJ hns ((zgo hO hT (by assumption))).2))) ↥(.inl ⟨by omega,by omega⟩)))) (λns261 hns=>Ev.borrow (m:=false) rfl (Ev.any (m:=true) (zaa (i:=10) rfl))) (zat (.eq (.eq (.eq (.eq (.eq (.eq (.eq (.eq (.eq (.eq (.eq (.eq (.eq (.eq .nil)))))))))))))))))) (λh257=>(zat (.eq (.eq (.eq (.eq (.eq (.eq (.eq (.eq (.eq (.eq (.eq (.eq (.eq (.eq .nil)))))))))))))))) (zdb (x:=(bif (!decide (v254=v255)) then (zcz s249.1 v255 (List.map (λ(x258:(Int×Int))=>(x258.1+(v256*x258.2))) (List.zip (ixD s249.1 v255) (ixD s249.1 v254)))) else s249.1)) (λv262=>([⇑[dQ K (List.map lI P0)],⇑[dQ K (List.map dI P1)],⇑[dI P2],⇑[dQ K (List.map dI P3)],.ow true (List.map lI v262),.no,.no,↥[dI v237],.tl (dRI (bif (!decide (v254=v255)) then (List.map (λ(ns261:Ji)=>zcz ns261 v254 ((ixD ns261 v254)-(v256*(ixD ns261 v255)))) s249.2) else s249.2)),⇑[dI x250],↥[dI v254],↥[dI v255],↥[dI v256],.no]:L2.Ctx)) (λz=>Oc.nx ((λ(s249:Jq×Jq)=>([⇑[dQ K (List.map lI P0)],⇑[dQ K (List.map dI P1)],⇑[dI P2],⇑[dQ K (List.map dI P3)],.ow true (List.map lI s249.1),.no,.no,↥[dI v237],.tl (dRI s249.2),.no,.no,.no,.no,.no]:L2.Ctx)) z)) (λv262 hv262=>(zdb (x:=(bif (!decide (v254=v255)) then (List.map (λ(ns261:Ji)=>zcz ns261 v254 ((ixD ns261 v254)-(v256*(ixD ns261 v255)))) s249.2) else s249.2)) (λv263=>([⇑[dQ K (List.map lI P0)],⇑[dQ K (List.map dI P1)],⇑[dI P2],⇑[dQ K (List.map dI P3)],.ow true (List.map lI v262),.no,.no,↥[dI v237],.tl (dRI v263),⇑[dI x250],↥[dI v254],↥[dI v255],↥[dI v256],.no]:L2.Ctx)) (λz=>Oc.nx ((λ(s249:Jq×Jq)=>([⇑[dQ K (List.map lI P0)],⇑[dQ K (List.map dI P1)],⇑[dI P2],⇑[dQ K (List.map dI P3)],.ow true (List.map lI s249.1),.no,.no,↥[dI v237],.tl (dRI s249.2),.no,.no,.no,.no,.no]:L2.Ctx)) z)) (λv263 hv263=>(zat (.eq (.eq (.eq (.eq (.eq (.eq (.eq (.eq (.eq (.no (.no (.no (.no (.eq .nil))))))))))))))))))))))))))⟩) (λr264 hr264 hI=>(zlf rfl (zcl (i:=4) rfl (zak (zaC (zgX (zab (zaa (i:=4) rfl) (zab (zr1 (zaa (i:=8) rfl)) zae)) (by show 2≤sizeLine;decide))))))))))))))))))
theorem zlD {b:Nat} {l t:Ji} {q:Int} (h:Lat.Bit b l) (k:Lat.Bit b t) (hq:-2≤q∧q≤2):Lat.Bit (b+2) (List.map (λ(x:Int×Int)=>x.1+(q*x.2)) (List.zip l t))∧Lat.Bit (b+2) (List.map (λ(x:Int×Int)=>x.1-(q*x.2)) (List.zip l t)):=by
 have a4:(2:Nat)^(b+2)=4*2^b:=by rw [Nat.pow_add];omega
 have key:∀ x:Int×Int,x∈List.zip l t->x.1.natAbs≤2^b∧(q*x.2).natAbs≤2*2^b:=λx hx=>by
  obtain ⟨h1,h2⟩:=List.of_mem_zip (a:=x.1) (b:=x.2) hx
  exact ⟨h _ h1,by rw [Int.natAbs_mul];exact Nat.mul_le_mul (by omega) (k _ h2)⟩
 refine ⟨λy hy=>?_,λy hy=>?_⟩ <;>
 ·obtain ⟨x,hx,rfl⟩:=List.mem_map.mp hy
  have:=key x hx
  rw [a4]
  omega
def FrJ (W b:Nat) (s:Jq×Jq):Prop:=(s.1.length=W∧Lat.RB W b s.1)∧s.2.length=W∧Lat.RB W b s.2
theorem zon {W b:Nat} {rows:Jq} {i:Int} {y:Ji} (h:rows.length=W∧Lat.RB W b rows) (hy:y.length=W∧Lat.Bit (b+2) y):(zcz rows i y).length=W∧Lat.RB W (b+2) (zcz rows i y):=by
 refine ⟨by rw [zd3];exact h.1,λr hr=>?_⟩
 rcases Lat.zf2 hr with rfl | hr
 ·exact hy
 ·exact ⟨(h.2 r hr).1,((h.2 r hr).2).mono (by omega)⟩
theorem zrh {W b:Nat} {rows:Jq} (h:rows.length=W∧Lat.RB W b rows):rows.length=W∧Lat.RB W (b+2) rows:=⟨h.1,λr hr=>⟨(h.2 r hr).1,((h.2 r hr).2).mono (by omega)⟩⟩
theorem zk3 {W b n:Nat} {rows:Jq} (h:rows.length=n∧Lat.RB W b rows):Sq W n rows:=⟨h.1,λr hr=>(h.2 r hr).1⟩
def frF (w:Int):Jq×Jq->Int->Jq×Jq:=λs x=>Let (zaf x (1:Int) w) (λ(one:Int)=>Let (zaf x (2:Int) w) (λ(two:Int)=>Let ((zaf x (3:Int) (5:Int))-(2:Int)) (λ(many:Int)=>Let (bif (!decide (one=two)) then (zcz s.1 two (List.map (λ(x35:(Int×Int))=>(x35.1+(many*x35.2))) (List.zip (ixD s.1 two) (ixD s.1 one)))) else s.1) (λ(rows41:Jq)=>Let (bif (!decide (one=two)) then (zcz s.2 one (List.map (λ(x38:(Int×Int))=>(x38.1-(many*x38.2))) (List.zip (ixD s.2 one) (ixD s.2 two)))) else s.2) (λ(duals42:Jq)=>(rows41,duals42))))))
theorem zmf {w:Int} {W:Nat} (hw:w=(W:Int)) (h1:1≤w):∀ (cs:Ji) (b:Nat) (s:Jq×Jq),FrJ W b s->FrJ W (b+2*cs.length) (List.foldl (frF w) s cs)
 | [],b,s,h=>h
 | c :: cs,b,s,h=>by
  rw [List.foldl_cons,List.length_cons,show b+2*(cs.length+1)=b+2+2*cs.length by omega]
  refine zmf hw h1 cs (b+2) _ ?_
  have hO:=zd4 (c:=c) (k:=1) hw h1 rfl
  have hT:=zd4 (c:=c) (k:=2) hw h1 rfl
  have hM:=zkM (c:=c) (k:=3) rfl
  unfold frF Let
  dsimp only
  generalize zaf c 1 w=one at *
  generalize zaf c 2 w=two at *
  generalize zaf c 3 5-2=many at *
  have q1:=zk3 h.1
  have q2:=zk3 h.2
  have m:∀ {rows:Jq} {x:Int},rows.length=W∧Lat.RB W b rows->0≤x∧x<(W:Int)->Lat.Bit b (ixD rows x):=λh hx=>(h.2 _ (zgj (zg4 (zk3 h) hx.1 hx.2))).2
  cases (!decide (one=two))
  ·exact ⟨zrh h.1,zrh h.2⟩
  ·exact ⟨zon h.1 ⟨zja q1 q1 hT hO,(zlD (m h.1 hT) (m h.1 hO) hM).1⟩,zon h.2 ⟨zja q2 q2 hO hT,(zlD (m h.2 hO) (m h.2 hT) hM).2⟩⟩
theorem zkE {w:Int} {W:Nat} {cs:Ji} (hw:w=(W:Int)) (h1:1≤w):FrJ W (2*cs.length) (zaO w cs):=by
 have h:=zmf hw h1 cs 0 (List.map (λ(x:Int)=>List.map (λ(y:Int)=>(if (decide (y=x)) then (1:Int) else 0)) (zbo 0 w.toNat)) (zbo 0 w.toNat),List.map (λ(x:Ji)=>x) (List.map (λ(x:Int)=>List.map (λ(y:Int)=>(if (decide (y=x)) then (1:Int) else 0)) (zbo 0 w.toNat)) (zbo 0 w.toNat))) (by
  have h0:∀ x:Int,Lat.Bit 0 (List.map (λ(y:Int)=>(if (decide (y=x)) then (1:Int) else 0)) (zbo 0 w.toNat)):=λx y hy=>by
   obtain ⟨z,_,rfl⟩:=List.mem_map.mp hy
   cases decide (z=x)<;>decide
  have hA:((List.map (λ(x:Int)=>List.map (λ(y:Int)=>(if (decide (y=x)) then (1:Int) else 0)) (zbo 0 w.toNat)) (zbo 0 w.toNat)).length=W)∧Lat.RB W 0 (List.map (λ(x:Int)=>List.map (λ(y:Int)=>(if (decide (y=x)) then (1:Int) else 0)) (zbo 0 w.toNat)) (zbo 0 w.toNat)):=by
   refine ⟨by rw [List.length_map,zaZ];omega,λr hr=>?_⟩
   obtain ⟨x,_,rfl⟩:=List.mem_map.mp hr
   exact ⟨by rw [List.length_map,zaZ];omega,h0 x⟩
  exact ⟨hA,by rw [List.map_id'];exact hA⟩)
 rw [Nat.zero_add] at h
 exact h
def zs4 (n:Nat) (swaps trips:Jq):Prop:=∀ t∈trips,∀ j,j<n->Lat.comb t (swaps.map Lat.vec) j=0
def StJ (n k b c:Nat) (s:Jq×Jq):Prop:=(s.1.length=k∧Lat.RB n b s.1)∧(∀ t∈s.2,t.length=k∧Lat.Bit c t)∧zs4 n s.1 s.2
theorem znD {rows:Jq} {k:Nat} {y:Ji}:(rows.set k y).map Lat.vec=(rows.map Lat.vec).set k (Lat.vec y):=List.map_set
theorem zg8 {α:Type} {xs:List α} {k:Nat} {x:α} (h:k<xs.length):zcz xs (k:Int) x=xs.set k x:=by
 unfold zcz ixN
 rw [if_pos (by omega),if_pos (by omega)]
 show xs.set (k:Int).toNat x=_
 rw [Int.toNat_natCast]
def stF:Jq×Jq->Int->Jq×Jq:=λs x=>Let (zaf x (4:Int) (max (1:Int) ((s.1.length:Nat):Int))) (λ(one:Int)=>Let (zaf x (5:Int) (max (1:Int) ((s.1.length:Nat):Int))) (λ(two:Int)=>Let ((zaf x (6:Int) (5:Int))-(2:Int)) (λ(many:Int) =>
 Let (bif (!decide (one=two)) then (zcz s.1 two (List.map (λ(z:(Int×Int))=>(z.1+(many*z.2))) (List.zip (ixD s.1 two) (ixD s.1 one)))) else s.1) (λ(swaps:Jq) =>
 Let (bif (!decide (one=two)) then (List.map (λ(ns:Ji)=>zcz ns one ((ixD ns one)-(many*(ixD ns two)))) s.2) else s.2) (λ(trips:Jq)=>(swaps,trips))))))
theorem zjz {n k:Nat}:∀ (cs:Ji) (b c:Nat) (s:Jq×Jq),StJ n k b c s->StJ n k (b+2*cs.length) (c+2*cs.length) (List.foldl stF s cs)
 | [],b,c,s,h=>h
 | x :: cs,b,c,s,h=>by
  rw [List.foldl_cons,List.length_cons,show b+2*(cs.length+1)=b+2+2*cs.length by omega,show c+2*(cs.length+1)=c+2+2*cs.length by omega]
  refine zjz cs (b+2) (c+2) _ ?_
  obtain ⟨h1,h2,h3⟩:=h
  have hq:=zk3 h1
  have hO:=zgA (c:=x) (k:=4) hq rfl
  have hT:=zgA (c:=x) (k:=5) hq rfl
  have hM:=zkM (c:=x) (k:=6) rfl
  unfold stF Let
  dsimp only
  generalize zaf x 4 (max (1:Int) ((s.1.length:Nat):Int))=one at *
  generalize zaf x 5 (max (1:Int) ((s.1.length:Nat):Int))=two at *
  generalize zaf x 6 5-2=many at *
  by_cases e:one=two
  ·rw [decide_eq_true e]
   exact ⟨⟨h1.1,λr hr=>⟨(h1.2 r hr).1,((h1.2 r hr).2).mono (by omega)⟩⟩,λt ht=>⟨(h2 t ht).1,((h2 t ht).2).mono (by omega)⟩,h3⟩
  ·rw [decide_eq_false e]
   have hl:=zgo hO hT (by simp [e])
   obtain ⟨o,rfl⟩:∃ o:Nat,one=(o:Int):=⟨one.toNat,by omega⟩
   obtain ⟨w,rfl⟩:∃ w:Nat,two=(w:Int):=⟨two.toNat,by omega⟩
   have how:o≠w:=λz=>e (by rw [z])
   have ho:o<s.1.length:=by rw [h1.1];omega
   have hw:w<s.1.length:=by rw [h1.1];omega
   have ge:∀ {i:Nat} (hi:i<s.1.length),ixD s.1 (i:Int)=s.1[i]:=λhi=>zd9 (List.getElem?_eq_getElem hi)
   show StJ n k (b+2) (c+2) (zcz s.1 (w:Int) _,List.map _ s.2)
   rw [ge ho,ge hw,zg8 hw]
   have ro:=h1.2 _ (List.getElem_mem ho)
   have rw':=h1.2 _ (List.getElem_mem hw)
   refine ⟨⟨by rw [List.length_set];exact h1.1,λr hr=>?_⟩,λt ht=>?_,λt ht j hj=>?_⟩
   ·rcases List.mem_or_eq_of_mem_set hr with h' | rfl
    ·exact ⟨(h1.2 r h').1,((h1.2 r h').2).mono (by omega)⟩
    ·exact ⟨by rw [List.length_map,List.length_zip,ro.1,rw'.1];omega,(zlD rw'.2 ro.2 hM).1⟩
   ·obtain ⟨ns,hns,rfl⟩:=List.mem_map.mp ht
    have hn:=h2 ns hns
    refine ⟨by rw [zd3];exact hn.1,λy hy=>?_⟩
    have a4:(2:Nat)^(c+2)=4*2^c:=by rw [Nat.pow_add];omega
    rcases Lat.zf2 hy with rfl | hy
    ·have b1:=hn.2 _ (zgj (xs:=ns) (i:=(o:Int)) (by unfold InB;omega))
     have b2:=hn.2 _ (zgj (xs:=ns) (i:=(w:Int)) (by unfold InB;omega))
     have b3:(many*ixD ns (w:Int)).natAbs≤2*2^c:=by rw [Int.natAbs_mul];exact Nat.mul_le_mul (by omega) b2
     rw [a4];omega
    ·have:=hn.2 y hy
     rw [a4];omega
   ·obtain ⟨ns,hns,rfl⟩:=List.mem_map.mp ht
    have hn:=h2 ns hns
    have no:o<ns.length:=by omega
    have nw:w<ns.length:=by omega
    have e1:ixD ns (o:Int)=ns[o]:=zd9 (List.getElem?_eq_getElem no)
    have e2:ixD ns (w:Int)=ns[w]:=zd9 (List.getElem?_eq_getElem nw)
    rw [zg8 no,e1,e2,znD]
    rw [Lat.ziS (t1:=ns[o]) (t2:=ns[w]) (a1:=Lat.vec s.1[o]) (a2:=Lat.vec s.1[w]) how (List.getElem?_eq_getElem no) (List.getElem?_eq_getElem nw) (by rw [List.getElem?_map,List.getElem?_eq_getElem ho];rfl) (by rw [List.getElem?_map,List.getElem?_eq_getElem hw];rfl) (Lat.zhs (by rw [ro.1,rw'.1]))]
    exact h3 ns hns j hj
theorem znl {W b:Nat}:∀ (l:List (Ji×Int)) (acc:Jq),(∀ p∈l,p.1.length=W∧Lat.Bit b p.1∧0≤p.2∧p.2≤1000000001)->Lat.RB W (b+30) acc->(List.foldl (λ(s:Jq) (x:Ji×Int)=>Let (bif (decide ((0:Int)<x.2)) then (s++[List.map (λ(y:Int)=>(x.2*y)) x.1]) else s) (λ(z:Jq)=>z)) acc l).length≤acc.length+l.length∧Lat.RB W (b+30) (List.foldl (λ(s:Jq) (x:Ji×Int)=>Let (bif (decide ((0:Int)<x.2)) then (s++[List.map (λ(y:Int)=>(x.2*y)) x.1]) else s) (λ(z:Jq)=>z)) acc l)
 | [],acc,_,h=>⟨Nat.le_refl _,h⟩
 | p :: l,acc,hl,h=>by
  have hp:=hl p List.mem_cons_self
  rw [List.foldl_cons]
  have hn:((bif (decide ((0:Int)<p.2)) then (acc++[List.map (λ(y:Int)=>(p.2*y)) p.1]) else acc)).length≤acc.length+1∧Lat.RB W (b+30) (bif (decide ((0:Int)<p.2)) then (acc++[List.map (λ(y:Int)=>(p.2*y)) p.1]) else acc):=by
   cases decide ((0:Int)<p.2)
   ·exact ⟨Nat.le_succ _,h⟩
   ·refine ⟨by rw [cond_true,List.length_append,List.length_singleton];exact Nat.le_refl _,λr hr=>?_⟩
    rcases List.mem_append.mp hr with hr | hr
    ·exact h r hr
    ·rw [List.mem_singleton.mp hr]
     refine ⟨by rw [List.length_map];exact hp.1,λy hy=>?_⟩
     obtain ⟨z,hz,rfl⟩:=List.mem_map.mp hy
     rw [Int.natAbs_mul,Nat.pow_add,Nat.mul_comm]
     exact Nat.mul_le_mul (hp.2.1 z hz) (Nat.le_trans (show p.2.natAbs≤1000000001 by omega) (by decide))
  have:=znl l _ (λq hq=>hl q (List.mem_cons_of_mem _ hq)) hn.2
  refine ⟨Nat.le_trans this.1 ?_,this.2⟩
  rw [List.length_cons]
  have:=hn.1
  omega
theorem zrj {W k:Nat} {a:Jq} {idle:Int} (h0:0≤idle) {w:Int}:zs4 W (a++List.map (λ(_:Int)=>zbV w [(0:Int)]) (zbo 0 idle.toNat)) (List.map (λ(x:Int)=>List.map (λ(y:Int)=>(if (decide (y=(((a.length:Nat):Int)+x))) then (1:Int) else 0)) (zbo 0 (((a.length:Nat):Int)+idle).toNat)) (zbo 0 idle.toNat)):=λt ht j _=>by
 obtain ⟨x,hx,rfl⟩:=List.mem_map.mp ht
 have hx0:=(zkB.mp hx).1
 refine Lat.zhg λi y v h1 h2=>?_
 rw [List.getElem?_map] at h1 h2
 cases q:(zbo 0 (((a.length:Nat):Int)+idle).toNat)[i]? with
 | none=>rw [q] at h1;cases h1
 | some z =>
  rw [q] at h1
  obtain ⟨g1,g2⟩:=zcN q
  have h1:(if (decide (z=(((a.length:Nat):Int)+x))) then (1:Int) else 0)=y:=Option.some.inj h1
  by_cases e:i<a.length
  ·rw [decide_eq_false (by omega)] at h1
   rw [← h1];simp
  ·rw [List.getElem?_append_right (by omega),List.getElem?_map] at h2
   cases q2:((zbo 0 idle.toNat))[i-a.length]? with
   | none=>rw [q2] at h2;cases h2
   | some z2 =>
    rw [q2] at h2
    have h2:Lat.vec (zbV w [(0:Int)])=v:=Option.some.inj h2
    rw [← h2]
    have:Lat.vec (zbV w [(0:Int)]) j=0:=by
     by_cases hw:0≤w
     ·obtain ⟨n,rfl⟩:∃ n:Nat,w=(n:Int):=⟨w.toNat,by omega⟩
      exact Lat.zdw
     ·unfold zbV
      rw [show w.toNat=0 by omega]
      simp [Lat.vec]
    rw [this];simp
theorem zhV {W b:Nat} {rows:Jq} {bs cs:Ji} {idle:Int} (hr:rows.length=W∧Lat.RB W b rows) (hw:W≤8) (hb:∀ x∈bs,0≤x∧x≤1000000001) (hi:0≤idle∧idle≤3) :
  ∃ k,k≤11∧StJ W k (b+30+2*cs.length) (2*cs.length) (zaE rows bs idle cs):=by
 have h0:=znl (W:=W) (b:=b) (List.zip rows bs) [] (λp hp=>by
  have:=List.of_mem_zip (a:=p.1) (b:=p.2) hp
  exact ⟨(hr.2 _ this.1).1,(hr.2 _ this.1).2,hb _ this.2⟩) (λr hr=>by simp at hr)
 rw [List.length_zip,List.length_nil,Nat.zero_add] at h0
 unfold zaE
 generalize ha:(List.foldl (λ(s:Jq) (x:Ji×Int)=>Let (bif (decide ((0:Int)<x.2)) then (s++[List.map (λ(y:Int)=>(x.2*y)) x.1]) else s) (λ(z:Jq)=>z)) [] (List.zip rows bs))=a at h0
 show ∃ k,k≤11∧StJ W k _ _ (List.foldl stF (a++List.map (λ(_:Int)=>zbV ((rows.length:Nat):Int) [(0:Int)]) (zbo 0 idle.toNat),List.map (λ(x:Int)=>List.map (λ(y:Int)=>(if (decide (y=(((a.length:Nat):Int)+x))) then (1:Int) else 0)) (zbo 0 (((a.length:Nat):Int)+idle).toNat)) (zbo 0 idle.toNat)) cs)
 have hl:=hr.1
 refine ⟨a.length+idle.toNat,by have:=h0.1;omega,?_⟩
 have:=zjz (n:=W) (k:=a.length+idle.toNat) cs (b+30) 0 (a++List.map (λ(_:Int)=>zbV ((rows.length:Nat):Int) [(0:Int)]) (zbo 0 idle.toNat),List.map (λ(x:Int)=>List.map (λ(y:Int)=>(if (decide (y=(((a.length:Nat):Int)+x))) then (1:Int) else 0)) (zbo 0 (((a.length:Nat):Int)+idle).toNat)) (zbo 0 idle.toNat)) ⟨⟨by rw [List.length_append,List.length_map,zaZ],λr hr'=>?_⟩,λt ht=>?_,zrj (k:=0) (a:=a) (w:=((rows.length:Nat):Int)) hi.1⟩
 ·rw [Nat.zero_add] at this
  exact this
 ·rcases List.mem_append.mp hr' with hr' | hr'
  ·exact h0.2 r hr'
  ·obtain ⟨x,_,rfl⟩:=List.mem_map.mp hr'
   refine ⟨by rw [Lat.zcR];exact hl,λy hy=>?_⟩
   obtain ⟨j,_,rfl⟩:=Lat.zh6 hy
   rw [Lat.zdw];exact Nat.zero_le _
 ·obtain ⟨x,_,rfl⟩:=List.mem_map.mp ht
  refine ⟨by rw [List.length_map,zaZ];omega,λy hy=>?_⟩
  obtain ⟨z,_,rfl⟩:=List.mem_map.mp hy
  cases decide (z=(((a.length:Nat):Int)+x))<;>decide
theorem zoh:∀ (cs:Ji) (s:Jq×Jq),((List.foldl stF s cs)).2.length=s.2.length
 | [],_=>rfl
 | c :: cs,s=>by
  rw [List.foldl_cons,zoh cs]
  unfold stF Let
  dsimp only
  cases (!decide (zaf c (4:Int) (max (1:Int) ((s.1.length:Nat):Int))=zaf c (5:Int) (max (1:Int) ((s.1.length:Nat):Int))))
  ·rfl
  ·rw [cond_true,List.length_map]
theorem zp4 {w x k i:Int} {cs o:Ji} {f:Jq×Jq} (hW:1≤w∧w≤8) (hF:f=zaO w cs) (hO:o=zaM w x k) (hI:0≤i∧i≤3):StP f.1 o i:=by
 obtain ⟨W,hWW⟩:∃ W:Nat,w=(W:Int):=⟨w.toNat,by omega⟩
 have h:=zkE (cs:=cs) hWW hW.1
 rw [← hF] at h
 have b:=zoM (w:=w) (c:=x) (f:=k) (by omega)
 rw [← hO] at b
 exact ⟨W,by omega,by omega,zk3 h.1,by omega,b.2,hI.1,hI.2⟩
theorem znk {w:Int} {W:Nat} (hw:w=(W:Int)) (h1:1≤w):∀ (cs:Ji) (s:Jq×Jq),Lat.Du W s->Lat.Du W (List.foldl (frF w) s cs)
 | [],s,h=>h
 | c :: cs,s,h=>by
  rw [List.foldl_cons]
  refine znk hw h1 cs _ ?_
  have hO:=zd4 (c:=c) (k:=1) hw h1 rfl
  have hT:=zd4 (c:=c) (k:=2) hw h1 rfl
  unfold frF Let
  dsimp only
  generalize zaf c 1 w=one at *
  generalize zaf c 2 w=two at *
  generalize zaf c 3 5-2=many at *
  by_cases e:one=two
  ·rw [decide_eq_true e];exact h
  ·rw [decide_eq_false e]
   obtain ⟨o,rfl⟩:∃ o:Nat,one=(o:Int):=⟨one.toNat,by omega⟩
   obtain ⟨t,rfl⟩:∃ t:Nat,two=(t:Int):=⟨two.toNat,by omega⟩
   have ho1:o<s.1.length:=by rw [h.l1];omega
   have ht1:t<s.1.length:=by rw [h.l1];omega
   have ho2:o<s.2.length:=by rw [h.l2];omega
   have ht2:t<s.2.length:=by rw [h.l2];omega
   have g1:=List.getElem?_eq_getElem ho1;have g2:=List.getElem?_eq_getElem ht1
   have g3:=List.getElem?_eq_getElem ho2;have g4:=List.getElem?_eq_getElem ht2
   show Lat.Du W (zcz s.1 (t:Int) _,zcz s.2 (o:Int) _)
   rw [zd9 g1,zd9 g2,zd9 g3,zd9 g4,zg8 ht1,zg8 ho2]
   exact h.step many (λz=>e (by rw [z])) g1 g2 g3 g4
theorem znv {w:Int} {W:Nat} {cs:Ji} (hw:w=(W:Int)) (h1:1≤w):Lat.Du W (zaO w cs):=by
 have h:=znk hw h1 cs (List.map (λ(x:Int)=>List.map (λ(y:Int)=>(if (decide (y=x)) then (1:Int) else 0)) (zbo 0 w.toNat)) (zbo 0 w.toNat),List.map (λ(x:Ji)=>x) (List.map (λ(x:Int)=>List.map (λ(y:Int)=>(if (decide (y=x)) then (1:Int) else 0)) (zbo 0 w.toNat)) (zbo 0 w.toNat))) (by
  rw [List.map_id']
  exact Lat.Du.start (by rw [hw,Int.toNat_natCast]))
 exact h
theorem zmv:∀ (cs:Ji) (s:Jq×Jq),((List.foldl stF s cs)).1.length=s.1.length
 | [],_=>rfl
 | c :: cs,s=>by
  rw [List.foldl_cons,zmv cs]
  unfold stF Let
  dsimp only
  cases (!decide (zaf c (4:Int) (max (1:Int) ((s.1.length:Nat):Int))=zaf c (5:Int) (max (1:Int) ((s.1.length:Nat):Int))))
  ·rfl
  ·rw [cond_true,zd3]
theorem zqN {n k:Nat} {u:Lat.Vc}:∀ (cs:Ji) (b c:Nat) (s:Jq×Jq),StJ n k b c s->(Lat.SpL ((List.foldl stF s cs)).1 u ↔ Lat.SpL s.1 u)
 | [],_,_,_,_=>Iff.rfl
 | x :: cs,b,c,s,h=>by
  have h':=zjz [x] b c s h
  rw [List.foldl_cons]
  refine (zqN cs _ _ _ h').trans ?_
  obtain ⟨h1,h2,h3⟩:=h
  have hq:=zk3 h1
  have hO:=zgA (c:=x) (k:=4) hq rfl
  have hT:=zgA (c:=x) (k:=5) hq rfl
  show Lat.SpL (stF s x).1 u ↔ _
  unfold stF Let
  dsimp only
  generalize zaf x 4 (max (1:Int) ((s.1.length:Nat):Int))=one at *
  generalize zaf x 5 (max (1:Int) ((s.1.length:Nat):Int))=two at *
  generalize zaf x 6 5-2=many at *
  by_cases e:one=two
  ·rw [decide_eq_true e];exact Iff.rfl
  ·rw [decide_eq_false e]
   have hl:=zgo hO hT (by simp [e])
   obtain ⟨o,rfl⟩:∃ o:Nat,one=(o:Int):=⟨one.toNat,by omega⟩
   obtain ⟨t,rfl⟩:∃ t:Nat,two=(t:Int):=⟨two.toNat,by omega⟩
   have ho:o<s.1.length:=by rw [h1.1];omega
   have ht:t<s.1.length:=by rw [h1.1];omega
   have g1:=List.getElem?_eq_getElem ho;have g2:=List.getElem?_eq_getElem ht
   show Lat.SpL (zcz s.1 (t:Int) _) u ↔ _
   rw [zd9 g1,zd9 g2,zg8 ht]
   exact Lat.znX (λz=>e (by rw [z])) g1 g2 λk=>Lat.zhs (by rw [(h1.2 _ (List.mem_of_getElem? g1)).1,(h1.2 _ (List.mem_of_getElem? g2)).1])
theorem zke:∀ (l:List (Ji×Int)) (acc:Jq),List.foldl (λ(s:Jq) (x:Ji×Int)=>Let (bif (decide ((0:Int)<x.2)) then (s++[List.map (λ(y:Int)=>(x.2*y)) x.1]) else s) (λ(z:Jq)=>z)) acc l=acc++(l.filter λp=>decide (0<p.2)).map λp=>List.map (λ(y:Int)=>p.2*y) p.1
 | [],acc=>by simp
 | p :: l,acc=>by
  rw [List.foldl_cons,zke l]
  show (bif (decide ((0:Int)<p.2)) then (acc++[List.map (λ(y:Int)=>(p.2*y)) p.1]) else acc)++_=_
  by_cases q:(0:Int)<p.2
  ·rw [decide_eq_true q,List.filter_cons_of_pos ↥(decide_eq_true q),List.map_cons];simp
  ·rw [decide_eq_false q,List.filter_cons_of_neg (by simpa using q)];rfl
theorem zhN {W b:Nat} {rows:Jq} {bs cs:Ji} {idle:Int} {u:Lat.Vc} (hr:rows.length=W∧Lat.RB W b rows) (hw:W≤8) (hb:∀ x∈bs,0≤x∧x≤1000000001) (hi:0≤idle∧idle≤3) :
  (Lat.SpL ((zaE rows bs idle cs)).1 u ↔ Lat.SpL (Lat.scl rows bs) u)∧((zaE rows bs idle cs)).1.length≤W+idle.toNat:=by
 obtain ⟨k,k1,k2⟩:=zhV (cs:=[]) (bs:=bs) hr hw hb hi
 have e:zaE rows bs idle cs=List.foldl stF (zaE rows bs idle []) cs:=rfl
 have e0:(zaE rows bs idle []).1=Lat.scl rows bs++List.map (λ(_:Int)=>zbV ((rows.length:Nat):Int) [(0:Int)]) (zbo 0 idle.toNat):=by
  show (List.foldl (λ(s:Jq) (x:Ji×Int)=>Let (bif (decide ((0:Int)<x.2)) then (s++[List.map (λ(y:Int)=>(x.2*y)) x.1]) else s) (λ(z:Jq)=>z)) [] (List.zip rows bs))++_=_
  rw [zke,List.nil_append];rfl
 rw [e,zmv]
 refine ⟨(zqN cs _ _ _ k2).trans ?_,?_⟩
 ·rw [e0]
  refine Lat.zmd λs hs j=>?_
  obtain ⟨_,_,rfl⟩:=List.mem_map.mp hs
  exact Lat.zdw
 ·rw [e0,List.length_append,List.length_map,zaZ]
  have:(Lat.scl rows bs).length≤rows.length:=by
   unfold Lat.scl
   rw [List.length_map]
   exact Nat.le_trans (List.length_filter_le _ _) (by rw [List.length_zip];omega)
  have:=hr.1
  omega
theorem zlk {W b:Nat} {rows:Jq} {bs cs:Ji} {idle:Int} (hr:rows.length=W∧Lat.RB W b rows) (hw:W≤8) (hb:∀ x∈bs,0≤x∧x≤1000000001) (hi:0≤idle∧idle≤3):Lat.RB W (b+30+2*cs.length) ((zaE rows bs idle cs)).1:=by
 obtain ⟨k,k1,k2⟩:=zhV (cs:=cs) (bs:=bs) hr hw hb hi
 exact k2.1.2
theorem zti {w z:Int} (e:w=(1:Int)+z%(4:Int)):1≤w∧w≤8:=by omega
theorem zsY {w c i:Int} (hW:1≤w∧w≤4) (hI:i=min (c%(3:Int)) ((5:Int)-w)):0≤i∧i≤3:=by omega
theorem ztr {w z:Int} (e:w=(1:Int)+z%(4:Int)):1≤w∧w≤4:=by omega
theorem zq7 {b:Bool} {w x k i:Int} {cs ds o:Ji} {f g:Jq×Jq} (hW:1≤w∧w≤8) (hF:f=zaO w cs) (hS:g=bif b then zaO w ds else f) (hO:o=zaM w x k):StP g.1 o (i%(2:Int)):=by
 cases b with
 | true=>exact zp4 hW hS hO (by omega)
 | false=>exact zp4 hW (hS.trans hF) hO (by omega)
def zbl (P0:Ji):(T6 (Jq×Jq) (Jq×Jq) Ji Ji Jq Jq) :=
 (Let (zcV P0 (0:Int)) (λ(v265:Int)=>(Let ((1:Int)+(v265%(4:Int))) (λ(v266:Int)=>(Let (zct P0 (some (3:Int)) (some (63:Int))) (λ(v267:Ji)=>(Let (((v267.length:Nat):Int)/(4:Int)) (λ(v268:Int)=>(Let (zaO v266 (zct v267 none (some v268))) (λ(v269:(Jq×Jq))=>(Let (bif (decide (((v265/(4:Int))%(2:Int))=(1:Int))) then (zaO v266 (zct v267 (some ((2:Int)*v268)) (some ((3:Int)*v268)))) else v269) (λ(v271:(Jq×Jq))=>(Let (zaM v266 (zbQ P0 (1:Int)) (7:Int)) (λ(v272:Ji)=>(Let (zaM v266 (zbQ P0 (2:Int)) (7:Int)) (λ(v273:Ji)=>(Let (min ((v265/(8:Int))%(3:Int)) ((5:Int)-v266)) (λ(v274:Int)=>(Let ((zaE v269.1 v272 v274 (zct v267 (some v268) (some ((2:Int)*v268)))).1) (λ(v275:Jq)=>(Let ((zaE v271.1 v273 ((v265/(24:Int))%(2:Int)) (zct v267 (some ((3:Int)*v268)) none)).1) (λ(v276:Jq)=>(T6.mk v269 v271 v272 v273 v275 v276)))))))))))))))))))))))
def zeE (P0:Ji):Prop:=P0.length≤63
def zgy (K:W.Frag) (A:Adr):Sp:=Spv (ι:=Ji) (λx=>[dQ K (List.map dI x)]) (λx=>zeE x) (λx=>↥[dT [dT [dL (List.map lI (((zbl x).a).1)),dL (List.map lI (((zbl x).a).2))],dT [dL (List.map lI (((zbl x).b).1)),dL (List.map lI (((zbl x).b).2))],dL (List.map dI ((zbl x).c)),dL (List.map dI ((zbl x).d)),dL (List.map lI ((zbl x).e)),dL (List.map lI ((zbl x).f))]])
theorem zbx:FnScope ["_law_script","_law_cell_here","_law_wide","_law_cells","_law_part","_law_first","_law_second","_law_one","_law_two_here","_law_idle","_law_left","_law_right"] ["_law_script"] (zad zel):=⟨rfl,rfl,rfl,by decide+kernel,rfl,by decide+kernel,by decide+kernel⟩
theorem zk8 (F:Fun K "_law_two" "_law_two" zel f fd) (T:Txt K mg A) (yas:Callee P w K mg base (CXE P w) 2 "_law_bottoms" ["_law_wide","_law_cell_here","_law_far"] (zef K A)) (ya6:Callee P w K mg base (CXE P w) 1 "_law_cell" ["_law_script","_law_k"] (zfE K A)) (yaH:Callee P w K mg base (CXE P w) 2 "_law_frame" ["_law_wide","_law_cells"] (ze2 K A)) (yaU:Callee P w K mg base (CXE P w) 1 "_law_raw" ["_law_script","_law_k"] (zgu K A)) (yat:Callee P w K mg base (CXE P w) 2 "_law_stirred" ["_law_rows","_law_bottoms_here","_law_idle","_law_cells"] (zeb K A)):FnOk P w K mg base (CXE P w) 3 f fd ["_law_script"] (zgy K A):=by
 refine F.okV zbx (λ_=>rfl) (λcdv Ar outer s H E P0 hr hp=> ?_)
 have hu:=hr.units
 replace hp:zeE P0:=hp
 unfold zeE at hp
 refine ⟨_,(zac (zar (i:=1) zbx.nd rfl (Or.inl rfl) (zaD ya6 (hr.mono (by decide)) rfl zaB ↑[pv 0,zai])) (zac (zar (i:=2) zbx.nd rfl (Or.inl rfl) (zax zcZ zai (zax zc0 (pv 1) zai))) (zac (zar (i:=3) zbx.nd rfl (Or.inl rfl) (zcM (zb9 (K:=K) rfl) (pv 0) (zcF zai) (zcF zai))) (zac (zar (i:=4) zbx.nd rfl (Or.inl rfl) (zax zcg (za3 (zaR (K:=K) rfl) rfl T.len PySem.boot_len ↑[pv 3]) zai)) (zac (zar (i:=5) zbx.nd rfl (Or.inl rfl) (zaD yaH (hr.mono (by decide)) rfl zaB ↑[pv 2,(zcM (zb9 (K:=K) rfl) (pv 3) zeQ (zcF (pv 4)))])) (zac (zar (i:=6) zbx.nd rfl (Or.inl rfl) (pv 5)) (zac (zcI (zaI zf0 (zax zc0 (zax zcg (pv 1) zai) zai) zai (zaQ _)) (zac (zar (i:=6) zbx.nd rfl (Or.inl rfl) (zaD yaH (hr.mono (by decide)) rfl zaB ↑[pv 2,(zcM (zb9 (K:=K) rfl) (pv 3) (zcF (zax zbj zai (pv 4))) (zcF (zax zbj zai (pv 4))))])) zag) zag) (zac (zar (i:=7) zbx.nd rfl (Or.inl rfl) (zaD yas (hr.mono (by decide)) rfl zaB ↑[pv 2,zaD yaU (hr.mono (by decide)) rfl zaB ↑[pv 0,zai],zai])) (zac (zar (i:=8) zbx.nd rfl (Or.inl rfl) (zaD yas (hr.mono (by decide)) rfl zaB ↑[pv 2,zaD yaU (hr.mono (by decide)) rfl zaB ↑[pv 0,zai],zai])) (zac (zar (i:=9) zbx.nd rfl (Or.inl rfl) (za3 (zlP rfl) rfl T.min PyProof.Rows.boot_min ↑[zax zc0 (zax zcg (pv 1) zai) zai,zax zeN zai (pv 2)])) (zac (zar (i:=10) zbx.nd rfl (Or.inl rfl) (zbk (zch (K:=K) rfl) (zaD yat (hr.mono (by decide)) rfl zaB ↑[(zbk (zch (K:=K) rfl) (pv 5) zai (λ_ _=>rfl)),pv 7,pv 9,(zcM (zb9 (K:=K) rfl) (pv 3) (zcF (pv 4)) (zcF (zax zbj zai (pv 4))))]) zai (λ_ _=>rfl))) (zac (zar (i:=11) zbx.nd rfl (Or.inl rfl) (zbk (zch (K:=K) rfl) (zaD yat (hr.mono (by decide)) rfl zaB ↑[(zbk (zch (K:=K) rfl) (pv 6) zai (λ_ _=>rfl)),pv 8,zax zc0 (zax zcg (pv 1) zai) zai,(zcM (zb9 (K:=K) rfl) (pv 3) (zcF (zax zbj zai (pv 4))) zeQ)]) zai (λ_ _=>rfl))) (zac (zaN (zho ↑[pv 5,pv 6,pv 7,pv 8,pv 10,pv 11])) zag))))))))))))),.inl ?_⟩
 show L2.Run _ ([⇑[dQ K (List.map dI P0)],.no,.no,.no,.no,.no,.no,.no,.no,.no,.no,.no]:L2.Ctx) _ ((λ(r:(T6 (Jq×Jq) (Jq×Jq) Ji Ji Jq Jq))=>Oc.rt true (dT [dT [dL (List.map lI r.a.1),dL (List.map lI r.a.2)],dT [dL (List.map lI r.b.1),dL (List.map lI r.b.2)],dL (List.map dI r.c),dL (List.map dI r.d),dL (List.map lI r.e),dL (List.map lI r.f)])) (zbl P0))
 unfold zbl
 exact (zaq (m:=true) (x:=(zcV P0 (0:Int))) dI (λ(r:(T6 (Jq×Jq) (Jq×Jq) Ji Ji Jq Jq))=>Oc.rt true (dT [dT [dL (List.map lI r.a.1),dL (List.map lI r.a.2)],dT [dL (List.map lI r.b.1),dL (List.map lI r.b.2)],dL (List.map dI r.c),dL (List.map dI r.d),dL (List.map lI r.e),dL (List.map lI r.f)])) (Ev.any (m:=true) (zal (x:=(P0,(0:Int))) (zab (zaa (i:=0) rfl) (zab zaL zae)) rfl (by show zdv P0 (0:Int);unfold zdv;decide) rfl)) (λv265 hv265=>(zaq (m:=true) (x:=((1:Int)+(v265%(4:Int)))) dI (λ(r:(T6 (Jq×Jq) (Jq×Jq) Ji Ji Jq Jq))=>Oc.rt true (dT [dT [dL (List.map lI r.a.1),dL (List.map lI r.a.2)],dT [dL (List.map lI r.b.1),dL (List.map lI r.b.2)],dL (List.map dI r.c),dL (List.map dI r.d),dL (List.map lI r.e),dL (List.map lI r.f)])) (zaU (x:=(1:Int)) (y:=(v265%(4:Int))) zaL (zaJ (x:=v265) (y:=(4:Int)) (Ev.any (m:=true) (zaa (i:=1) rfl)) zaL (by decide))) (λv266 hv266=>have hW:=zti hv266;have hW4:=ztr hv266;(zaq (m:=true) (x:=(zct P0 (some (3:Int)) (some (63:Int)))) lI (λ(r:(T6 (Jq×Jq) (Jq×Jq) Ji Ji Jq Jq))=>Oc.rt true (dT [dT [dL (List.map lI r.a.1),dL (List.map lI r.a.2)],dT [dL (List.map lI r.b.1),dL (List.map lI r.b.2)],dL (List.map dI r.c),dL (List.map dI r.d),dL (List.map lI r.e),dL (List.map lI r.f)])) (EvO.ev (EvO.anyI (m:=false) (zdx (f:=dI) (xs:=P0) (zaa (i:=0) rfl) (zbN zaL) (zbN zaL)))) (λv267 hv267=>(zaq (m:=true) (x:=(((v267.length:Nat):Int)/(4:Int))) dI (λ(r:(T6 (Jq×Jq) (Jq×Jq) Ji Ji Jq Jq))=>Oc.rt true (dT [dT [dL (List.map lI r.a.1),dL (List.map lI r.a.2)],dT [dL (List.map lI r.b.1),dL (List.map lI r.b.2)],dL (List.map dI r.c),dL (List.map dI r.d),dL (List.map lI r.e),dL (List.map lI r.f)])) (zaJ (x:=((v267.length:Nat):Int)) (y:=(4:Int)) (zco (f:=dI) (xs:=v267) (Ev.old (Ev.weak (K:=K) (zaa (i:=3) rfl)))) zaL ↥(⟨by decide,by decide⟩)) (λv268 hv268=>have hP:=hv268;(zaq (m:=true) (x:=(zaO v266 (zct v267 none (some v268)))) (λ(p:(Jq×Jq))=>dT [dL (List.map lI p.1),dL (List.map lI p.2)]) (λ(r:(T6 (Jq×Jq) (Jq×Jq) Ji Ji Jq Jq))=>Oc.rt true (dT [dT [dL (List.map lI r.a.1),dL (List.map lI r.a.2)],dT [dL (List.map lI r.b.1),dL (List.map lI r.b.2)],dL (List.map dI r.c),dL (List.map dI r.d),dL (List.map lI r.e),dL (List.map lI r.f)])) (zal (x:=(v266,(zct v267 none (some v268)))) (zab (Ev.any (m:=true) (zaa (i:=2) rfl)) (zab (Ev.weak (K:=K) (EvO.ev (EvO.anyI (m:=true) (zdx (f:=dI) (xs:=v267) (Ev.weak (K:=K) (zaa (i:=3) rfl)) zd2 (zbN (Ev.any (m:=true) (zaa (i:=4) rfl))))))) zae)) rfl (by show zc3 v266 (zct v267 none (some v268));exact hW) rfl) (λv269 hv269=>have hF:=hv269;(zbP (m:=true) (zaa (i:=5) rfl) (zdi (b:=(decide (((v265/(4:Int))%(2:Int))=(1:Int)))) (λbb=>([⇑[dQ K (List.map dI P0)],↥[dI v265],↥[dI v266],↥[dL (List.map dI v267)],↥[dI v268],↥[dT [dL (List.map lI v269.1),dL (List.map lI v269.2)]],↥[dT [dL (List.map lI (((bif bb then (zaO v266 (zct v267 (some ((2:Int)*v268)) (some ((3:Int)*v268)))) else v269)).1)),dL (List.map lI (((bif bb then (zaO v266 (zct v267 (some ((2:Int)*v268)) (some ((3:Int)*v268)))) else v269)).2))]],.no,.no,.no,.no,.no]:L2.Ctx)) (zau (zd5 (x:=((v265/(4:Int))%(2:Int))) (y:=(1:Int)) (zaJ (x:=(v265/(4:Int))) (y:=(2:Int)) (zaJ (x:=v265) (y:=(4:Int)) (Ev.any (m:=true) (zaa (i:=1) rfl)) zaL ↥(⟨by decide,by decide⟩)) zaL (by decide)) zaL)) (λh270=>(zbP (m:=true) (zal (x:=(v266,(zct v267 (some ((2:Int)*v268)) (some ((3:Int)*v268))))) (zab (Ev.any (m:=true) (zaa (i:=2) rfl)) (zab (Ev.weak (K:=K) (EvO.ev (EvO.anyI (m:=true) (zdx (f:=dI) (xs:=v267) (Ev.weak (K:=K) (zaa (i:=3) rfl)) (zbN (zaJ (x:=(2:Int)) (y:=v268) zaL (Ev.any (m:=true) (zaa (i:=4) rfl)) ↥(.inl ⟨by decide,by decide⟩))) (zbN (zaJ (x:=(3:Int)) (y:=v268) zaL (Ev.any (m:=true) (zaa (i:=4) rfl)) ↥(.inl ⟨by decide,by decide⟩))))))) zae)) rfl (by show zc3 v266 (zct v267 (some ((2:Int)*v268)) (some ((3:Int)*v268)));exact hW) rfl) (zat (.eq (.eq (.eq (.eq (.eq (.eq (.eq (.eq (.eq (.eq (.eq (.eq .nil))))))))))))))) (λh270=>(zat (.eq (.eq (.eq (.eq (.eq (.eq (.eq (.eq (.eq (.eq (.eq (.eq .nil)))))))))))))) (zdb (x:=(bif (decide (((v265/(4:Int))%(2:Int))=(1:Int))) then (zaO v266 (zct v267 (some ((2:Int)*v268)) (some ((3:Int)*v268)))) else v269)) (λv271=>([⇑[dQ K (List.map dI P0)],↥[dI v265],↥[dI v266],↥[dL (List.map dI v267)],↥[dI v268],↥[dT [dL (List.map lI v269.1),dL (List.map lI v269.2)]],↥[dT [dL (List.map lI v271.1),dL (List.map lI v271.2)]],.no,.no,.no,.no,.no]:L2.Ctx)) (λ(r:(T6 (Jq×Jq) (Jq×Jq) Ji Ji Jq Jq))=>Oc.rt true (dT [dT [dL (List.map lI r.a.1),dL (List.map lI r.a.2)],dT [dL (List.map lI r.b.1),dL (List.map lI r.b.2)],dL (List.map dI r.c),dL (List.map dI r.d),dL (List.map lI r.e),dL (List.map lI r.f)])) (λv271 hv271=>have hS:=hv271;(zaq (m:=true) (x:=(zaM v266 (zbQ P0 (1:Int)) (7:Int))) lI (λ(r:(T6 (Jq×Jq) (Jq×Jq) Ji Ji Jq Jq))=>Oc.rt true (dT [dT [dL (List.map lI r.a.1),dL (List.map lI r.a.2)],dT [dL (List.map lI r.b.1),dL (List.map lI r.b.2)],dL (List.map dI r.c),dL (List.map dI r.d),dL (List.map lI r.e),dL (List.map lI r.f)])) (EvO.ev (EvO.anyI (m:=true) (zbG (x:=(v266,(zbQ P0 (1:Int)),(7:Int))) (zab (Ev.any (m:=true) (zaa (i:=2) rfl)) (zab (Ev.any (m:=true) (zal (x:=(P0,(1:Int))) (zab (zaa (i:=0) rfl) (zab zaL zae)) rfl (by show zcQ P0 (1:Int);unfold zcQ;decide) rfl)) (zab zaL zae))) rfl (by show zcs v266 (zbQ P0 (1:Int)) (7:Int);exact ⟨by omega,by omega,by decide,by decide⟩) rfl))) (λv272 hv272=>have hO:=hv272;(zaq (m:=true) (x:=(zaM v266 (zbQ P0 (2:Int)) (7:Int))) lI (λ(r:(T6 (Jq×Jq) (Jq×Jq) Ji Ji Jq Jq))=>Oc.rt true (dT [dT [dL (List.map lI r.a.1),dL (List.map lI r.a.2)],dT [dL (List.map lI r.b.1),dL (List.map lI r.b.2)],dL (List.map dI r.c),dL (List.map dI r.d),dL (List.map lI r.e),dL (List.map lI r.f)])) (EvO.ev (EvO.anyI (m:=true) (zbG (x:=(v266,(zbQ P0 (2:Int)),(7:Int))) (zab (Ev.any (m:=true) (zaa (i:=2) rfl)) (zab (Ev.any (m:=true) (zal (x:=(P0,(2:Int))) (zab (zaa (i:=0) rfl) (zab zaL zae)) rfl (by show zcQ P0 (2:Int);unfold zcQ;decide) rfl)) (zab zaL zae))) rfl (by show zcs v266 (zbQ P0 (2:Int)) (7:Int);exact ⟨by omega,by omega,by decide,by decide⟩) rfl))) (λv273 hv273=>have hT:=hv273;(zaq (m:=true) (x:=(min ((v265/(8:Int))%(3:Int)) ((5:Int)-v266))) dI (λ(r:(T6 (Jq×Jq) (Jq×Jq) Ji Ji Jq Jq))=>Oc.rt true (dT [dT [dL (List.map lI r.a.1),dL (List.map lI r.a.2)],dT [dL (List.map lI r.b.1),dL (List.map lI r.b.2)],dL (List.map dI r.c),dL (List.map dI r.d),dL (List.map lI r.e),dL (List.map lI r.f)])) (zqK (x:=((v265/(8:Int))%(3:Int))) (y:=((5:Int)-v266)) (zab (zaJ (x:=(v265/(8:Int))) (y:=(3:Int)) (zaJ (x:=v265) (y:=(8:Int)) (Ev.any (m:=true) (zaa (i:=1) rfl)) zaL ↥(⟨by decide,by decide⟩)) zaL (by decide)) (zab (zaU (x:=(5:Int)) (y:=v266) zaL (Ev.any (m:=true) (zaa (i:=2) rfl))) zae))) (λv274 hv274=>have hI:=hv274;(zaq (m:=true) (x:=(zaE v269.1 v272 v274 (zct v267 (some v268) (some ((2:Int)*v268)))).1) (λ(xs:Jq)=>dL (List.map lI xs)) (λ(r:(T6 (Jq×Jq) (Jq×Jq) Ji Ji Jq Jq))=>Oc.rt true (dT [dT [dL (List.map lI r.a.1),dL (List.map lI r.a.2)],dT [dL (List.map lI r.b.1),dL (List.map lI r.b.2)],dL (List.map dI r.c),dL (List.map dI r.d),dL (List.map lI r.e),dL (List.map lI r.f)])) (zdD (zal (x:=(v269.1,v272,v274,(zct v267 (some v268) (some ((2:Int)*v268))))) (zab (Ev.old (Ev.weak (K:=K) (zdD (zaa (i:=5) rfl) zaL rfl))) (zab (Ev.old (Ev.weak (K:=K) (zaa (i:=7) rfl))) (zab (Ev.any (m:=true) (zaa (i:=9) rfl)) (zab (Ev.weak (K:=K) (EvO.ev (EvO.anyI (m:=true) (zdx (f:=dI) (xs:=v267) (Ev.weak (K:=K) (zaa (i:=3) rfl)) (zbN (Ev.any (m:=true) (zaa (i:=4) rfl))) (zbN (zaJ (x:=(2:Int)) (y:=v268) zaL (Ev.any (m:=true) (zaa (i:=4) rfl)) ↥(.inl ⟨by decide,by decide⟩))))))) zae)))) rfl (by show zcn v269.1 v272 v274 (zct v267 (some v268) (some ((2:Int)*v268)));exact zp4 hW hF hO (zsY hW4 hI)) rfl) zaL rfl) (λv275 hv275=>(zaq (m:=true) (x:=(zaE v271.1 v273 ((v265/(24:Int))%(2:Int)) (zct v267 (some ((3:Int)*v268)) none)).1) (λ(xs:Jq)=>dL (List.map lI xs)) (λ(r:(T6 (Jq×Jq) (Jq×Jq) Ji Ji Jq Jq))=>Oc.rt true (dT [dT [dL (List.map lI r.a.1),dL (List.map lI r.a.2)],dT [dL (List.map lI r.b.1),dL (List.map lI r.b.2)],dL (List.map dI r.c),dL (List.map dI r.d),dL (List.map lI r.e),dL (List.map lI r.f)])) (zdD (zal (x:=(v271.1,v273,((v265/(24:Int))%(2:Int)),(zct v267 (some ((3:Int)*v268)) none))) (zab (Ev.old (Ev.weak (K:=K) (zdD (zaa (i:=6) rfl) zaL rfl))) (zab (Ev.old (Ev.weak (K:=K) (zaa (i:=8) rfl))) (zab (zaJ (x:=(v265/(24:Int))) (y:=(2:Int)) (zaJ (x:=v265) (y:=(24:Int)) (Ev.any (m:=true) (zaa (i:=1) rfl)) zaL ↥(⟨by decide,by decide⟩)) zaL (by decide)) (zab (Ev.weak (K:=K) (EvO.ev (EvO.anyI (m:=true) (zdx (f:=dI) (xs:=v267) (Ev.weak (K:=K) (zaa (i:=3) rfl)) (zbN (zaJ (x:=(3:Int)) (y:=v268) zaL (Ev.any (m:=true) (zaa (i:=4) rfl)) ↥(.inl ⟨by decide,by decide⟩))) zd2)))) zae)))) rfl (by show zcn v271.1 v273 ((v265/(24:Int))%(2:Int)) (zct v267 (some ((3:Int)*v268)) none);exact zq7 hW hF hS hT) rfl) zaL rfl) (λv276 hv276=>(zak (zaC (zgX (zab (zaa (i:=5) rfl) (zab (zaa (i:=6) rfl) (zab (zaa (i:=7) rfl) (zab (zaa (i:=8) rfl) (zab (zaa (i:=10) rfl) (zab (zaa (i:=11) rfl) zae)))))) (by show 6≤sizeLine;decide))))))))))))))))))))))))))))
structure Sd64 (W:Nat) (f:Jq×Jq) (bs:Ji) (sw:Jq):Prop where
 du:Lat.Du W f
 db:∀ d∈f.2,Lat.Bit 60 d
 bl:bs.length=W
 b0:∀ b∈bs,0≤b
 ln:sw.length≤5
 sr:∀ r∈sw,r.length=W∧Lat.Bit 100 r
 sp:∀ u,Lat.SpL sw u ↔ Lat.SpL (Lat.scl f.1 bs) u
def T64 (y:T6 (Jq×Jq) (Jq×Jq) Ji Ji Jq Jq):Prop:=∃ W:Nat,1≤W∧W≤4∧Sd64 W y.a y.c y.e∧Sd64 W y.b y.d y.f
theorem zm5 {W:Nat} {w idle x:Int} {cs ds:Ji} (hw:w=(W:Int)) (h1:1≤w∧w≤4) (hI:0≤idle∧idle≤3) (hR:W+idle.toNat≤5) (hc:2*cs.length≤60) (hb:2*cs.length+30+2*ds.length≤100):Sd64 W (zaO w cs) (zaM w x 7) (zaE (zaO w cs).1 (zaM w x 7) idle ds).1:=by
 have hF:=zkE (cs:=cs) hw h1.1
 have b:=zoM (w:=w) (c:=x) (f:=7) (by omega)
 have sb:=zlk (cs:=ds) hF.1 (by omega) b.2 hI
 refine ⟨znv hw h1.1,λd hd=>((hF.2.2 d hd).2).mono hc,by have:=b.1;omega,λz hz=>(b.2 z hz).1,?_,λr hr=>⟨(sb r hr).1,((sb r hr).2).mono hb⟩,λu=>(zhN (u:=u) hF.1 (by omega) b.2 hI).1⟩
 have:=(zhN (cs:=ds) (u:=λ_=>0) hF.1 (by omega) b.2 hI).2
 omega
theorem zh5 {xs:Ji} {a b:Nat}:(zct xs (some (a:Int)) (some (b:Int))).length≤b-a∧(zct xs none (some (b:Int))).length≤b∧(zct xs (some (a:Int)) none).length≤xs.length-a:=by
 unfold zct
 simp only [HT.sIx_nat,HT.sIx_none,List.length_take,List.length_drop]
 omega
theorem zot {xs:Ji} {y:T6 (Jq×Jq) (Jq×Jq) Ji Ji Jq Jq} (hx:xs.length≤63) (e:y=zbl xs):T64 y:=by
 rw [e]
 unfold zbl Let
 dsimp only
 generalize zcV xs 0=c
 have hc0:(zct xs (some (3:Int)) (some (63:Int))).length≤60:=(zh5 (a:=3) (b:=63)).1
 generalize zct xs (some (3:Int)) (some (63:Int))=cs at *
 obtain ⟨W,hW⟩:∃ W:Nat,(1:Int)+c%(4:Int)=(W:Int):=⟨((1:Int)+c%(4:Int)).toNat,by omega⟩
 obtain ⟨p,hp⟩:∃ p:Nat,((cs.length:Nat):Int)/(4:Int)=(p:Int):=⟨cs.length/4,by omega⟩
 have hi:=zsY (c:=c/(8:Int)) (w:=(1:Int)+c%(4:Int)) (by omega) rfl
 have hi2:(1:Int)+c%(4:Int)+min (c/(8:Int)%(3:Int)) ((5:Int)-((1:Int)+c%(4:Int)))≤5:=by omega
 generalize min (c/(8:Int)%(3:Int)) ((5:Int)-((1:Int)+c%(4:Int)))=idle at *
 rw [hp,show (2:Int)*(p:Int)=((2*p:Nat):Int) by omega,show (3:Int)*(p:Int)=((3*p:Nat):Int) by omega]
 have l1:=(zh5 (xs:=cs) (a:=0) (b:=p)).2.1
 have l2:=(zh5 (xs:=cs) (a:=p) (b:=2*p)).1
 have l3:=(zh5 (xs:=cs) (a:=2*p) (b:=3*p)).1
 have l4:=(zh5 (xs:=cs) (a:=3*p) (b:=0)).2.2
 refine ⟨W,by omega,by omega,zm5 hW (by omega) hi (by omega) (by omega) (by omega),?_⟩
 cases decide (((c/(4:Int))%(2:Int))=(1:Int)) with
 | true=>exact zm5 hW (by omega) (by omega) (by omega) (by omega) (by omega)
 | false=>exact zm5 hW (by omega) (by omega) (by omega) (by omega) (by omega)
def ShP (ds:Jq) (x:Ji):Prop:=ds.length≤1000∧(∀ d∈ds,Lat.Bit 60 d)∧Lat.Bit 30000 x
theorem zoT {ds:Jq} {x d:Ji} {i:Nat} {p:Int×Int} (h:ShP ds x) (hd:d∈ds) (hp:d[i]?=some p.1∧x[i]?=some p.2):zdc p.1 p.2:=Lat.zdc.of (h.2.1 d hd _ (List.mem_of_getElem? hp.1)) (h.2.2 _ (List.mem_of_getElem? hp.2)) (by decide) (by decide)
theorem zrm {ds:Jq} {x d s:Ji} {i:Nat} (h:ShP ds x) (hl:s.length≤i) (hi:ds[i]?=some d):s.length<PySem.sizeLine:=Nat.lt_of_le_of_lt (show s.length≤1000 by have:=(List.getElem?_eq_some_iff.mp hi).1;have:=h.1;omega) (by decide)
def zbW (P0:Jq) (P1:Ji):Ji :=
 (Let (List.foldl (λ(s277:Ji) (x278:Ji)=>(Let (List.foldl (λ(s282:Int) (x283:(Int×Int))=>(Let (s282+(x283.1*x283.2)) (λ(v287:Int)=>v287))) (0:Int) (List.zip x278 P1)) (λ(r288:Int)=>(s277++[r288])))) [] P0) (λ(r289:Ji)=>r289))
def zdm (P0:Jq) (P1:Ji):Prop:=ShP P0 P1
def zeB (K:W.Frag) (A:Adr):Sp:=Spv (ι:=Jq×Ji) (λx=>[dQ K (List.map lI x.1),dQ K (List.map dI x.2)]) (λx=>zdm x.1 x.2) (λx=>.ow true (List.map dI (zbW x.1 x.2)))
theorem zbY:FnScope ["_law_duals","_law_basket","_law_found","_law_weights","_law_total","_law_one","_law_other"] ["_law_duals","_law_basket"] (zad zcW):=⟨rfl,rfl,rfl,by decide+kernel,rfl,by decide+kernel,by decide+kernel⟩
theorem ziv (F:Fun K "_law_shares" "_law_shares" zcW f fd) (T:Txt K mg A) :FnOk P w K mg base (CXE P w) 1 f fd ["_law_duals","_law_basket"] (zeB K A):=by
 refine F.okV zbY (λ_=>rfl) (λcdv Ar outer s H E x hr hp=> ?_)
 obtain ⟨P0,P1⟩:=x
 have hu:=hr.units
 replace hp:zdm P0 P1:=hp
 unfold zdm at hp
 refine ⟨_,(zac (zar (i:=2) zbY.nd rfl (Or.inl rfl) (zcf zdW)) (zac (zcE PassesOwn.never rfl (zaP (K:=K) rfl (pv 0)) (zao (i:=3) zbY.nd rfl (Or.inl rfl) (Or.inl rfl)) (zac (zar (i:=4) zbY.nd rfl (Or.inl rfl) zai) (zac (zcE PassesOwn.never rfl (zdh (K:=K) rfl rfl T.zip ↑[pv 3,pv 1]) (zbJ (K:=K) (n:=2) rfl rfl (zaF (zao (i:=5) zbY.nd rfl (Or.inl rfl) (Or.inl rfl)) (zaF (zao (i:=6) zbY.nd rfl (Or.inl rfl) (Or.inl rfl)) zcj))) (zac (zar (i:=4) zbY.nd rfl (Or.inl rfl) (zax zcZ (pv 4) (zax zbj (pv 5) (pv 6)))) zag)) (zac (zcG (zbZ (K:=K) rfl (pv 2) ↑[pv 4])) zag)))) (zac (zaN (pv 2)) zag))),.inl ?_⟩
 show L2.Run _ ([⇑[dQ K (List.map lI P0)],⇑[dQ K (List.map dI P1)],.no,.no,.no,.no,.no]:L2.Ctx) _ ((λr=>Oc.rl true (List.map dI r)) (zbW P0 P1))
 unfold zbW
 exact (zey (m:=true) (ds:=List.map dI []) (zdu (m:=true) zae) (zbO (s0:=[]) (λ(s277:Ji)=>([⇑[dQ K (List.map lI P0)],⇑[dQ K (List.map dI P1)],.ow true (List.map dI s277),.no,.no,.no,.no]:L2.Ctx)) (λr=>Oc.rl true (List.map dI r)) (λ(s277:Ji) (x278:Ji)=>(Let (List.foldl (λ(s282:Int) (x283:(Int×Int))=>(Let (s282+(x283.1*x283.2)) (λ(v287:Int)=>v287))) (0:Int) (List.zip x278 P1)) (λ(r288:Int)=>(s277++[r288])))) (λ(i:Nat) (s277:Ji)=>s277.length≤i) (zbi (m:=false) lI (xs:=P0) (zaa (i:=0) rfl)) (.eq (.eq (.eq (.eq (.eq (.eq (.eq .nil))))))) ↥(Nat.le_refl 0) (λi279 x278 s277 hx280 hI281=>have v280:=List.mem_of_getElem? hx280;⟨↥(zmV (by assumption)),(zbP (m:=true) zaL (zbO (s0:=(0:Int)) (λ(s282:Int)=>([⇑[dQ K (List.map lI P0)],⇑[dQ K (List.map dI P1)],.ow true (List.map dI s277),⇑[dL (List.map dI x278)],↥[dI s282],.no,.no]:L2.Ctx)) (λz=>Oc.nx ((λ(s277:Ji)=>([⇑[dQ K (List.map lI P0)],⇑[dQ K (List.map dI P1)],.ow true (List.map dI s277),.no,.no,.no,.no]:L2.Ctx)) z)) (λ(s282:Int) (x283:(Int×Int))=>(Let (s282+(x283.1*x283.2)) (λ(v287:Int)=>v287))) (λ_ _=>True) (zfy (m:=false) dI dI (xs:=x278) (ys:=P1) (Ev.weak (K:=K) (zaa (i:=3) rfl)) (zaa (i:=1) rfl)) (.eq (.eq (.eq (.eq (.eq (.eq (.eq .nil))))))) trivial (λi284 x283 s282 hx285 hI286=>have v285:=zc2 hx285;⟨trivial,(zaq (m:=true) (x:=(s282+(x283.1*x283.2))) dI (λz=>Oc.nx ((λ(s282:Int)=>([⇑[dQ K (List.map lI P0)],⇑[dQ K (List.map dI P1)],.ow true (List.map dI s277),⇑[dL (List.map dI x278)],↥[dI s282],.no,.no]:L2.Ctx)) z)) (zaU (x:=s282) (y:=(x283.1*x283.2)) (Ev.any (m:=true) (zaa (i:=4) rfl)) (zaJ (x:=x283.1) (y:=x283.2) (Ev.any (m:=false) (zaa (i:=5) rfl)) (Ev.any (m:=false) (zaa (i:=6) rfl)) ↥(zoT hp (by assumption) (by assumption)))) (λv287 hv287=>(zat (.eq (.eq (.eq (.eq (.eq (.no (.no .nil))))))))))⟩) (λr288 hr288 hI=>(zb1 (f:=dI) (xs:=s277) (x:=r288) rfl (Ev.any (m:=true) (zaa (i:=4) rfl)) ↥(zrm hp (by assumption) (by assumption)) (zat (.eq (.eq (.eq (.no (.no (.eq (.eq .nil))))))))))))⟩) (λr289 hr289 hI=>(zen (zhY (i:=2) rfl)))))
def zas (P0:Jq) (P1:Ji) (P2:Ji):Bool :=
 (zjn (zbE (λ(s290:Unit) (x291:(Int×Int))=>(((bif (((decide (x291.2=(0:Int))) && (!decide (x291.1=(0:Int))))||((decide ((0:Int)<x291.2)) && (!decide ((x291.1%x291.2)=(0:Int))))) then (Sum.inr false) else (Sum.inl ()))):(Unit)⊕Bool)) () (List.zip (zbW P0 P2) P1)) (λ(r296:Unit)=>true) (λb=>b))
def zbB (P0:Jq) (P1:Ji) (P2:Ji):Prop:=ShP P0 P2
def zed (K:W.Frag) (A:Adr):Sp:=Spv (ι:=Jq×Ji×Ji) (λx=>[dQ K (List.map lI x.1),dQ K (List.map dI x.2.1),dQ K (List.map dI x.2.2)]) (λx=>zbB x.1 x.2.1 x.2.2) (λx=>↥[dB (zas x.1 x.2.1 x.2.2)])
theorem zee:FnScope ["_law_duals","_law_bottoms_here","_law_basket","_law_share","_law_number"] ["_law_duals","_law_bottoms_here","_law_basket"] (zad zcB):=⟨rfl,rfl,rfl,by decide+kernel,rfl,by decide+kernel,by decide+kernel⟩
theorem zhD (F:Fun K "_law_nothing" "_law_nothing" zcB f fd) (T:Txt K mg A) (yaQ:Callee P w K mg base (CXE P w) 1 "_law_shares" ["_law_duals","_law_basket"] (zeB K A)):FnOk P w K mg base (CXE P w) 2 f fd ["_law_duals","_law_bottoms_here","_law_basket"] (zed K A):=by
 refine F.okV zee (λ_=>rfl) (λcdv Ar outer s H E x hr hp=> ?_)
 obtain ⟨P0,P1,P2⟩:=x
 have hu:=hr.units
 replace hp:zbB P0 P1 P2:=hp
 unfold zbB at hp
 refine ⟨_,(zac (zcE PassesOwn.never rfl (zdh (K:=K) rfl rfl T.zip ↑[zaD yaQ (hr.mono (by decide)) rfl zaB ↑[pv 0,pv 2],pv 1]) (zbJ (K:=K) (n:=2) rfl rfl (zaF (zao (i:=3) zee.nd rfl (Or.inl rfl) (Or.inl rfl)) (zaF (zao (i:=4) zee.nd rfl (Or.inl rfl) (Or.inl rfl)) zcj))) (zac (zcI (PW.pt (znK (PW.pt (zhL (zaI zf0 (pv 4) zai (zaQ _)) (zgw (zaI zgq (pv 3) zai (zaQ _))))) (zkj (PW.pt (zhL (zaI zkZ (pv 4) zai (zaQ _)) (zgw (zaI zgq (zax zc0 (pv 3) (pv 4)) zai (zaQ _)))))))) (zac (zaN ziY) zag) zag) zag)) (zac (zaN ziY) zag)),.inl ?_⟩
 show L2.Run _ ([⇑[dQ K (List.map lI P0)],⇑[dQ K (List.map dI P1)],⇑[dQ K (List.map dI P2)],.no,.no]:L2.Ctx) _ ((λ(r:Bool)=>Oc.rt true (dB r)) (zas P0 P1 P2))
 unfold zas
 exact (zfa (s0:=()) (λ(s290:Unit)=>([⇑[dQ K (List.map lI P0)],⇑[dQ K (List.map dI P1)],⇑[dQ K (List.map dI P2)],.no,.no]:L2.Ctx)) (λ(r:Bool)=>Oc.rt true (dB r)) (λb=>b) (λ(s290:Unit) (x291:(Int×Int))=>(((bif (((decide (x291.2=(0:Int))) && (!decide (x291.1=(0:Int))))||((decide ((0:Int)<x291.2)) && (!decide ((x291.1%x291.2)=(0:Int))))) then (Sum.inr false) else (Sum.inl ()))):(Unit)⊕Bool)) (λ_ _=>True) (λb=> .inl ⟨_,_,rfl⟩) (zfy (m:=false) dI dI (xs:=(zbW P0 P2)) (ys:=P1) (Ev.weak (K:=K) (EvO.ev (EvO.anyI (m:=true) (zbG (x:=(P0,P2)) (zab (zaa (i:=0) rfl) (zab (zaa (i:=2) rfl) zae)) rfl (by show zdm P0 P2;exact hp) rfl)))) (zaa (i:=1) rfl)) (.eq (.eq (.eq (.eq (.eq .nil))))) trivial (λi292 x291 s290 hx293 hI294=>have v293:=zc2 hx293;⟨(λ_ _=>trivial),(zbc (b:=(((decide (x291.2=(0:Int))) && (!decide (x291.1=(0:Int))))||((decide ((0:Int)<x291.2)) && (!decide ((x291.1%x291.2)=(0:Int)))))) (zf7 (λ(s290:Unit)=>([⇑[dQ K (List.map lI P0)],⇑[dQ K (List.map dI P1)],⇑[dQ K (List.map dI P2)],.no,.no]:L2.Ctx)) (λ(r:Bool)=>Oc.rt true (dB r))) (zkR (b:=((decide (x291.2=(0:Int)))&&(!decide (x291.1=(0:Int))))) (zgk (b:=(decide (x291.2=(0:Int)))) (zau (zd5 (x:=x291.2) (y:=(0:Int)) (Ev.any (m:=false) (zaa (i:=4) rfl)) zaL)) (λhb=>(zau (zeK (x:=x291.1) (y:=(0:Int)) (Ev.any (m:=false) (zaa (i:=3) rfl)) zaL)))) (λhb=>(zgk (b:=(decide ((0:Int)<x291.2))) (zau (zaU (x:=x291.2) (y:=(0:Int)) (Ev.any (m:=false) (zaa (i:=4) rfl)) zaL)) (λhb=>(zau (zeK (x:=(x291.1%x291.2)) (y:=(0:Int)) (zaJ (x:=x291.1) (y:=x291.2) (Ev.any (m:=false) (zaa (i:=3) rfl)) (Ev.any (m:=false) (zaa (i:=4) rfl)) (by show (0:Int)<_;exact of_decide_eq_true (by assumption))) zaL)))))) (λh295=>(zaG (zak (zaC zaL)))) (λh295=>(zaz (zat (.eq (.eq (.eq (.no (.no .nil)))))))))⟩) (λr296 hr296 hI=>(zak (zaC zaL))))
theorem zoA:∀ (w t:Ji) (a:Int),List.foldl (λ(s:Int) (x:Int×Int)=>Let (s+(x.1*x.2)) (λ(y:Int)=>y)) a (List.zip w t)=a+((List.map (λ(x:Int×Int)=>x.1*x.2) (List.zip w t))).sum
 | [],_,a=>by show a=a+0;omega
 | _ :: _,[],a=>by show a=a+0;omega
 | x :: w,y :: t,a=>by
  show List.foldl _ (a+x*y) (List.zip w t)=a+(x*y+((List.map (λ(x:Int×Int)=>x.1*x.2) (List.zip w t))).sum)
  rw [zoA w t];omega
theorem zne (ds:Jq) (x:Ji):zbW ds x=ds.map λd=>Lat.dv d (Lat.vec x):=by
 show List.foldl (λ(s:Ji) (d:Ji)=>s++[List.foldl (λ(s:Int) (x:Int×Int)=>Let (s+(x.1*x.2)) (λ(y:Int)=>y)) 0 (List.zip d x)]) [] ds=_
 rw [Lat.zgK,List.nil_append]
 refine List.map_congr_left λd _=>?_
 rw [zoA,Int.zero_add,Lat.zmn]
theorem zpE {γ β:Type} {f:Unit->γ->Unit ⊕ β} {p:γ} {l:List γ} (h:f () p=.inl ()):zbE f () (p :: l)=zbE f () l:=by
 rw [zbE,h]
theorem zpj {γ β:Type} {f:Unit->γ->Unit ⊕ β} {p:γ} {l:List γ} {v:β} (h:f () p=.inr v):zbE f () (p :: l)=.inr v:=by
 rw [zbE,h]
theorem ziG {γ:Type} {c:γ->Bool}:∀ (l:List γ),zjn (zbE (λ(_:Unit) (p:γ)=>((bif c p then (Sum.inr false) else (Sum.inl ())):Unit ⊕ Bool)) () l) (λ_=>true) (λb=>b)=l.all λp=>!c p
 | []=>rfl
 | p :: l=>by
  rw [List.all_cons]
  cases q:c p
  ·rw [zpE (by show (bif c p then _ else _)=_;rw [q];rfl),ziG l];rfl
  ·rw [zpj (v:=false) (by show (bif c p then _ else _)=_;rw [q];rfl)];rfl
theorem zom {W:Nat} {f:Jq×Jq} {bs x:Ji} (h:Lat.Du W f) (hb:bs.length=W) (h0:∀ b∈bs,0≤b) (hx:x.length=W):zas f.2 bs x=true ↔ Lat.SpL (Lat.scl f.1 bs) (Lat.vec x):=by
 unfold zas
 rw [ziG,List.all_eq_true,zne]
 have cd:∀ a b:Int,0≤b->((!(((decide (b=(0:Int)))&&(!decide (a=(0:Int))))||((decide ((0:Int)<b))&&(!decide ((a%b)=(0:Int))))))=true ↔ b ∣ a):=λa b hb=>by
  by_cases q:b=0
  ·subst q
   simp
  ·have:0<b:=by omega
   rw [decide_eq_false q,decide_eq_true this]
   simp [Int.dvd_iff_emod_eq_zero]
 constructor
 ·intro k
  refine Lat.zrk h hb h0 (λj hj=>Lat.zbf (by omega)) λi t b ht hbi=>?_
  have hz:(List.zip (f.2.map λd=>Lat.dv d (Lat.vec x)) bs)[i]?=some (Lat.dv t (Lat.vec x),b):=by
   rw [List.getElem?_zip_eq_some]
   exact ⟨by rw [List.getElem?_map,ht];rfl,hbi⟩
  exact (cd _ _ (h0 b (List.mem_of_getElem? hbi))).mp (k _ (List.mem_of_getElem? hz))
 ·intro k p hp
  obtain ⟨i,hi⟩:=List.getElem?_of_mem hp
  obtain ⟨i1,i2⟩:=zc2 hi
  rw [List.getElem?_map] at i1
  cases q:f.2[i]? with
  | none=>rw [q] at i1;cases i1
  | some t =>
   rw [q] at i1
   have i1:Lat.dv t (Lat.vec x)=p.1:=Option.some.inj i1
   refine (cd _ _ (h0 _ (List.mem_of_getElem? i2))).mpr ?_
   rw [← i1]
   exact Lat.zqQ h k q i2
structure OrP (a m j:BookD):Prop where
 w1:WiQ a j
 w2:WiQ m a
 jo:JoP a m
 s1:WiQ (m_joined a m) a
 s2:WiQ a (m_joined a m)
 mt:MtP a j
 s3:WiQ (zbR a j) a
 s4:WiQ a (zbR a j)
def zcy (P0:BookD) (P1:BookD):Bool :=
 ((zbq P0 P1).isNone&&(zbq P1 P0).isNone)
def zdr (P0:BookD) (P1:BookD):Prop:=WiQ P0 P1∧WiQ P1 P0
def zfC (K:W.Frag) (A:Adr):Sp:=Spv (ι:=BookD×BookD) (λx=>[zaK A.Book x.1,zaK A.Book x.2]) (λx=>zdr x.1 x.2) (λx=>↥[dB (zcy x.1 x.2)])
theorem zjZ:FnScope ["_law_one","_law_other"] ["_law_one","_law_other"] (zad zdK):=⟨rfl,rfl,rfl,by decide+kernel,rfl,by decide+kernel,by decide+kernel⟩
theorem zj0 (F:Fun K "_law_same" "_law_same" zdK f fd) (T:Txt K mg A) (yan:Callee P w K mg base (CXE P w) 7 "within" ["one","other"] (zfT K A)):FnOk P w K mg base (CXE P w) 8 f fd ["_law_one","_law_other"] (zfC K A):=by
 refine F.okV zjZ (λ_=>rfl) (λcdv Ar outer s H E x hr hp=> ?_)
 obtain ⟨P0,P1⟩:=x
 have hu:=hr.units
 replace hp:zdr P0 P1:=hp
 unfold zdr at hp
 refine ⟨_,(zac (zaN (zox (zhq zoG (zaD yan (hr.mono (by decide)) rfl zaB ↑[pv 0,pv 1]) zfv (zaQ _)) (zoz (zhq zoG (zaD yan (hr.mono (by decide)) rfl zaB ↑[pv 1,pv 0]) zfv (zaQ _))))) zag),.inl ?_⟩
 show L2.Run _ ([⇑[zaK A.Book P0],⇑[zaK A.Book P1]]:L2.Ctx) _ ((λ(r:Bool)=>Oc.rt true (dB r)) (zcy P0 P1))
 unfold zcy
 exact (zak (zaC (zlF (b:=(zbq P0 P1).isNone) (ziX (x:=(zbq P0 P1)) (f:=(λ(p:(Int×(LineD⊕RestD)))=>dT [dI p.1,dSc A p.2])) (Ev.old (zal (x:=(P0,P1)) (zab (zaa (i:=0) rfl) (zab (zaa (i:=1) rfl) zae)) rfl (by show zdd P0 P1;exact hp.1) rfl)) zaL NN.tup) (λhb=>(ziX (x:=(zbq P1 P0)) (f:=(λ(p:(Int×(LineD⊕RestD)))=>dT [dI p.1,dSc A p.2])) (Ev.old (zal (x:=(P1,P0)) (zab (zaa (i:=1) rfl) (zab (zaa (i:=0) rfl) zae)) rfl (by show zdd P1 P0;exact hp.2) rfl)) zaL NN.tup)))))
def zaX (P0:BookD) (P1:BookD) (P2:BookD):Bool :=
 (bif ((zbq P0 P2).isSome||(zbq P1 P0).isSome) then false else (bif (!(zcy (m_joined P0 P1) P0)) then false else (zcy (zbR P0 P2) P0)))
def zc4 (P0:BookD) (P1:BookD) (P2:BookD):Prop:=OrP P0 P1 P2
def zeW (K:W.Frag) (A:Adr):Sp:=Spv (ι:=BookD×BookD×BookD) (λx=>[zaK A.Book x.1,zaK A.Book x.2.1,zaK A.Book x.2.2]) (λx=>zc4 x.1 x.2.1 x.2.2) (λx=>↥[dB (zaX x.1 x.2.1 x.2.2)])
theorem zi9:FnScope ["_law_one","_law_both","_law_all_of_both"] ["_law_one","_law_both","_law_all_of_both"] (zad zc6):=⟨rfl,rfl,rfl,by decide+kernel,rfl,by decide+kernel,by decide+kernel⟩
theorem ziI (F:Fun K "_law_order" "_law_order" zc6 f fd) (T:Txt K mg A) (yaM:Callee P w K mg base (CXE P w) 8 "_law_same" ["_law_one","_law_other"] (zfC K A)) (yaB:Callee P w K mg base (CXE P w) 4 "joined" ["one","other"] (zf1 K A)) (ybs:Callee P w K mg base (CXE P w) 6 "met" ["one","other"] (zkz K A)) (yan:Callee P w K mg base (CXE P w) 7 "within" ["one","other"] (zfT K A)):FnOk P w K mg base (CXE P w) 9 f fd ["_law_one","_law_both","_law_all_of_both"] (zeW K A):=by
 refine F.okV zi9 (λ_=>rfl) (λcdv Ar outer s H E x hr hp=> ?_)
 obtain ⟨P0,P1,P2⟩:=x
 have hu:=hr.units
 replace hp:zc4 P0 P1 P2:=hp
 unfold zc4 at hp
 refine ⟨_,(zac (zcI (PW.pt (znK (zaI zgS (zaD yan (hr.mono (by decide)) rfl zaB ↑[pv 0,pv 2]) zfv (zaQ _)) (zkj (zaI zgS (zaD yan (hr.mono (by decide)) rfl zaB ↑[pv 1,pv 0]) zfv (zaQ _))))) (zac (zaN ziY) zag) zag) (zac (zcI (zm1 (zlV (zaD yaM (hr.mono (by decide)) rfl zaB ↑[zaD yaB (hr.mono (by decide)) rfl zaB ↑[pv 0,pv 1],pv 0]))) (zac (zaN ziY) zag) zag) (zac (zaN (zaD yaM (hr.mono (by decide)) rfl zaB ↑[zaD ybs (hr.mono (by decide)) rfl zaB ↑[pv 0,pv 2],pv 0])) zag))),.inl ?_⟩
 show L2.Run _ ([⇑[zaK A.Book P0],⇑[zaK A.Book P1],⇑[zaK A.Book P2]]:L2.Ctx) _ ((λ(r:Bool)=>Oc.rt true (dB r)) (zaX P0 P1 P2))
 unfold zaX
 exact (zbc (b:=((zbq P0 P2).isSome||(zbq P1 P0).isSome)) (λ(r:Bool)=>Oc.rt true (dB r)) (zkR (b:=(zbq P0 P2).isSome) (zau (zds (x:=(zbq P0 P2)) (f:=(λ(p:(Int×(LineD⊕RestD)))=>dT [dI p.1,dSc A p.2])) (Ev.old (zal (x:=(P0,P2)) (zab (zaa (i:=0) rfl) (zab (zaa (i:=2) rfl) zae)) rfl (by show zdd P0 P2;exact hp.w1) rfl)) zaL NN.tup)) (λhb=>(zau (zds (x:=(zbq P1 P0)) (f:=(λ(p:(Int×(LineD⊕RestD)))=>dT [dI p.1,dSc A p.2])) (Ev.old (zal (x:=(P1,P0)) (zab (zaa (i:=1) rfl) (zab (zaa (i:=0) rfl) zae)) rfl (by show zdd P1 P0;exact hp.w2) rfl)) zaL NN.tup)))) (λh297=>(zaG (zak (zaC zaL)))) (λh297=>(zaz (zbc (b:=(!(zcy (m_joined P0 P1) P0))) (λ(r:Bool)=>Oc.rt true (dB r)) (zj6 (zjD (Ev.any (m:=true) (zal (x:=((m_joined P0 P1),P0)) (zab (Ev.old (zal (x:=(P0,P1)) (zab (zaa (i:=0) rfl) (zab (zaa (i:=1) rfl) zae)) rfl (by show zeg P0 P1;exact hp.jo) rfl)) (zab (zaa (i:=0) rfl) zae)) rfl (by show zdr (m_joined P0 P1) P0;exact ⟨hp.s1,hp.s2⟩) rfl)))) (λh298=>(zaG (zak (zaC zaL)))) (λh298=>(zaz (zak (zaC (Ev.any (m:=true) (zal (x:=((zbR P0 P2),P0)) (zab (Ev.old (zal (x:=(P0,P2)) (zab (zaa (i:=0) rfl) (zab (zaa (i:=2) rfl) zae)) rfl (by show zgT P0 P2;exact hp.mt) rfl)) (zab (zaa (i:=0) rfl) zae)) rfl (by show zdr (zbR P0 P2) P0;exact ⟨hp.s3,hp.s4⟩) rfl))))))))))
def zam (P0:Int) (P1:Int) (P2:Int):Int :=
 (bif ((decide ((29:Int)<P2)) && (decide (((P0/(2147483647:Int))%(2:Int))=(1:Int)))) then ((zaf P0 P1 (60:Int))-(30:Int)) else ((zaf P0 P1 (((2:Int)*P2)+(1:Int)))-P2))
def zcY (P0:Int) (P1:Int) (P2:Int):Prop:=0≤P1∧P1≤1000∧0≤P2∧P2≤1000000000
def ze1 (K:W.Frag) (A:Adr):Sp:=Spv (ι:=Int×Int×Int) (λx=>[dI x.1,dI x.2.1,dI x.2.2]) (λx=>zcY x.1 x.2.1 x.2.2) (λx=>↥[dI (zam x.1 x.2.1 x.2.2)])
theorem zjb:FnScope ["_law_cell_here","_law_k","_law_size"] ["_law_cell_here","_law_k","_law_size"] (zad zda):=⟨rfl,rfl,rfl,by decide+kernel,rfl,by decide+kernel,by decide+kernel⟩
theorem ziO (F:Fun K "_law_count" "_law_count" zda f fd) (T:Txt K mg A) (yab:Callee P w K mg base (CXE P w) 1 "_law_thing" ["_law_cell_here","_law_k","_law_many"] (zcU K A)):FnOk P w K mg base (CXE P w) 2 f fd ["_law_cell_here","_law_k","_law_size"] (ze1 K A):=by
 refine F.okV zjb (λ_=>rfl) (λcdv Ar outer s H E x hr hp=> ?_)
 obtain ⟨P0,P1,P2⟩:=x
 have hu:=hr.units
 replace hp:zcY P0 P1 P2:=hp
 unfold zcY at hp
 refine ⟨_,(zac (zcI (PW.pt (zhL (zaI zkZ (pv 2) zai (zaQ _)) (zgw (zaI zf0 (zax zc0 (zax zcg (pv 0) zai) zai) zai (zaQ _))))) (zac (zaN (zax zeN (zaD yab (hr.mono (by decide)) rfl zaB ↑[pv 0,pv 1,zai]) zai)) zag) zag) (zac (zaN (zax zeN (zaD yab (hr.mono (by decide)) rfl zaB ↑[pv 0,pv 1,zax zcZ (zax zbj zai (pv 2)) zai]) (pv 2))) zag)),.inl ?_⟩
 show L2.Run _ ([⇑[dI P0],⇑[dI P1],⇑[dI P2]]:L2.Ctx) _ ((λ(r:Int)=>Oc.rt true (dI r)) (zam P0 P1 P2))
 unfold zam
 exact (zbc (b:=((decide ((29:Int)<P2)) && (decide (((P0/(2147483647:Int))%(2:Int))=(1:Int))))) (λ(r:Int)=>Oc.rt true (dI r)) (zgk (b:=(decide ((29:Int)<P2))) (zau (zaU (x:=P2) (y:=(29:Int)) (Ev.any (m:=false) (zaa (i:=2) rfl)) zaL)) (λhb=>(zau (zd5 (x:=((P0/(2147483647:Int))%(2:Int))) (y:=(1:Int)) (zaJ (x:=(P0/(2147483647:Int))) (y:=(2:Int)) (zaJ (x:=P0) (y:=(2147483647:Int)) (Ev.any (m:=false) (zaa (i:=0) rfl)) zaL ↥(⟨by decide,by decide⟩)) zaL (by decide)) zaL)))) (λh299=>(zaG (zak (zaC (zaU (x:=(zaf P0 P1 (60:Int))) (y:=(30:Int)) (Ev.any (m:=true) (zal (x:=(P0,P1,(60:Int))) (zab (Ev.any (m:=false) (zaa (i:=0) rfl)) (zab (Ev.any (m:=false) (zaa (i:=1) rfl)) (zab zaL zae))) rfl (by show zaW P0 P1 (60:Int);exact ⟨hp.1,hp.2.1,by decide⟩) rfl)) zaL))))) (λh299=>(zaz (zak (zaC (zaU (x:=(zaf P0 P1 (((2:Int)*P2)+(1:Int)))) (y:=P2) (Ev.any (m:=true) (zal (x:=(P0,P1,(((2:Int)*P2)+(1:Int)))) (zab (Ev.any (m:=false) (zaa (i:=0) rfl)) (zab (Ev.any (m:=false) (zaa (i:=1) rfl)) (zab (zaU (x:=((2:Int)*P2)) (y:=(1:Int)) (zaJ (x:=(2:Int)) (y:=P2) zaL (Ev.any (m:=false) (zaa (i:=2) rfl)) ↥(.inl ⟨by decide,by decide⟩)) zaL) zae))) rfl (by show zaW P0 P1 (((2:Int)*P2)+(1:Int));exact ⟨hp.1,hp.2.1,by omega⟩) rfl)) (Ev.any (m:=false) (zaa (i:=2) rfl))))))))
theorem zn1 {c k z:Int} (hz:0≤z):-(z+30)≤zam c k z∧zam c k z≤z+30:=by
 unfold zam
 have t1:=zdY (c:=c) (k:=k) (m:=60) (by decide)
 have t2:=zdY (c:=c) (k:=k) (m:=(2:Int)*z+(1:Int)) (by omega)
 cases ((decide ((29:Int)<z))&&(decide (((c/(2147483647:Int))%(2:Int))=(1:Int)))) with
 | false=>rw [cond_false];omega
 | true=>rw [cond_true];omega
def BaP (xs:Ji) (w:Int) (l r:Jq):Prop:=xs.length≤63∧∃ W:Nat,w=(W:Int)∧1≤W∧W≤4∧l.length≤5∧r.length≤5∧∀ t∈l++r,t.length=W∧Lat.Bit 100 t
def BaI (w:Int) (i:Nat) (s:Ji):Prop:=((s.length:Nat):Int)=w∧Lat.Bit (106+i) s
def BaJ (w:Int) (i:Nat) (s:Jq):Prop:=s.length=i∧∀ t∈s,((t.length:Nat):Int)=w∧Lat.Bit 120 t
section
variable {xs t u:Ji} {w c x m:Int} {l r:Jq} {i:Nat} {p:Int×Ji}
theorem zs1:BaJ w 0 []:=⟨rfl,λt ht=>(nomatch ht)⟩
theorem zri (h:BaP xs w l r) (e:t=zbV w [(0:Int)]):BaI w 0 t:=by
 obtain ⟨_,W,h1,h2,h3,h4,h5,h6⟩:=h
 rw [e,h1]
 exact ⟨by rw [Lat.zcR],Lat.Bit.of λi=>by rw [Lat.zdw];exact Nat.zero_le _⟩
theorem zrb (h:BaP xs w l r):-(2^63)≤w∧w<2^63:=by obtain ⟨_,W,h1,h2,h3,_⟩:=h;omega
theorem zsr (h:BaP xs w l r):[(0:Int)].length*w.toNat≤PySem.sizeLine:=by obtain ⟨_,W,h1,h2,h3,_⟩:=h;exact zap (by rw [List.length_singleton];omega)
theorem zrY (h:BaP xs w l r):-(2^62)≤w∧w<2^62:=by obtain ⟨_,W,h1,h2,h3,_⟩:=h;omega
theorem zsf (h:BaP xs w l r):((zbo 0 w.toNat)).length≤PySem.sizeLine:=by obtain ⟨_,W,h1,h2,h3,_⟩:=h;rw [zaZ];exact zap (by omega)
theorem zr3 (h:BaP xs w l r):l.length+r.length≤PySem.sizeLine:=by obtain ⟨_,W,h1,h2,h3,h4,h5,_⟩:=h;exact zap (by omega)
theorem zrV (h:BaP xs w l r) (q:i<(l++r).length∧p.1=(i:Int)∧(l++r)[i]?=some p.2):i≤9∧((p.2.length:Nat):Int)=w∧p.2.length≤4∧Lat.Bit 100 p.2:=by
 obtain ⟨_,W,h1,h2,h3,h4,h5,h6⟩:=h
 obtain ⟨k1,k2⟩:=h6 p.2 (List.mem_of_getElem? q.2.2)
 have:=q.1
 rw [List.length_append] at this
 exact ⟨by omega,by rw [k1,h1],by omega,k2⟩
theorem zsm (h:BaP xs w l r) (q:i<(l++r).length∧p.1=(i:Int)∧(l++r)[i]?=some p.2):0≤p.1∧p.1≤1000∧(0:Int)≤2∧(2:Int)≤1000000000:=by
 have:=zrV h q
 exact ⟨by omega,by omega,by decide,by decide⟩
theorem zpU (e:m=zam c x (2:Int)):m.natAbs≤2^6:=by
 have:=zn1 (c:=c) (k:=x) (z:=2) (by decide)
 show _≤64
 omega
theorem zto (h:BaP xs w l r) (q:i<(l++r).length∧p.1=(i:Int)∧(l++r)[i]?=some p.2) (e:m=zam c x (2:Int)):zbn p.2 m:=by
 obtain ⟨k1,k2,k3,k4⟩:=zrV h q
 exact ⟨by omega,λy hy=>Lat.zdc.of (k4 y hy) (zpU e) (by decide) (by decide)⟩
theorem zqO (h:BaP xs w l r) (q:i<(l++r).length∧p.1=(i:Int)∧(l++r)[i]?=some p.2) (I:((t.length:Nat):Int)=w):t.length=(zan p.2 m).length∧t.length≤1000:=by
 obtain ⟨k1,k2,k3,k4⟩:=zrV h q
 rw [show (zan p.2 m).length=p.2.length from Lat.zba]
 omega
theorem zth (h:BaP xs w l r) (q:i<(l++r).length∧p.1=(i:Int)∧(l++r)[i]?=some p.2) {k:Nat} (I:BaI w k t):zdF t (zan p.2 m):=zqO h q I.1
theorem zoN {a b:Nat} (hl:t.length=u.length) (ha:Lat.Bit a t) (hb:Lat.Bit b u) (h:b≤a):Lat.Bit (a+1) (zbU t u):=Lat.Bit.of λi=>by
 have e:Lat.vec (zbU t u) i=Lat.vec t i+Lat.vec u i:=Lat.zjR hl
 have h1:=ha.vec i
 have h2:=Nat.le_trans (hb.vec i) (Nat.pow_le_pow_right (by decide) h)
 rw [e,Nat.pow_succ]
 omega
theorem zs8 (h:BaP xs w l r) (q:i<(l++r).length∧p.1=(i:Int)∧(l++r)[i]?=some p.2) (I:BaI w i t):BaI w (i+1) (Let (zam c p.1 (2:Int)) (λ(m:Int)=>Let (zbU t (zan p.2 m)) (λ(y:Ji)=>y))):=by
 obtain ⟨k1,k2,k3,k4⟩:=zrV h q
 have hl:=(zqO (m:=zam c p.1 (2:Int)) h q I.1).1
 refine ⟨by unfold Let;rw [show (zbU t (zan p.2 (zam c p.1 (2:Int)))).length=t.length from Lat.zjF hl];exact I.1,?_⟩
 refine zoN (a:=106+i) (b:=106) hl I.2 (Lat.Bit.of λj=>?_) (Nat.le_add_right _ _)
 rw [show Lat.vec (zan p.2 (zam c p.1 (2:Int))) j=Lat.vec p.2 j*zam c p.1 (2:Int) from Lat.zc9]
 exact Lat.zjL (k4.vec j) (zpU rfl)
theorem zrc (h:BaP xs w l r) (q:i<w.toNat∧x=0+(i:Int)):0≤(12:Int)+x∧(12:Int)+x≤1000∧(0:Int)≤2∧(2:Int)≤1000000000:=by
 obtain ⟨_,W,h1,h2,h3,_⟩:=h
 exact ⟨by omega,by omega,by decide,by decide⟩
theorem zqu (h:BaP xs w l r):((((List.map (λ(x:Int)=>zam c ((12:Int)+x) (2:Int)) (zbo 0 w.toNat))).length:Nat):Int)=w∧Lat.Bit 6 (List.map (λ(x:Int)=>zam c ((12:Int)+x) (2:Int)) (zbo 0 w.toNat)):=by
 obtain ⟨_,W,h1,h2,h3,_⟩:=h
 refine ⟨by rw [List.length_map,zaZ];omega,λv hv=>?_⟩
 obtain ⟨z,_,rfl⟩:=List.mem_map.mp hv
 exact zpU rfl
theorem zsg (h:BaP xs w l r) {k:Nat} (I:BaI w k t):zdF t (List.map (λ(x:Int)=>zam c ((12:Int)+x) (2:Int)) (zbo 0 w.toNat)):=by
 have:=(zqu (c:=c) h).1
 have:=I.1
 obtain ⟨_,W,h1,h2,h3,_⟩:=h
 exact ⟨by omega,by omega⟩
theorem zsj {b:Bool} (q:(b && decide ((0:Int)<((l.length:Nat):Int)))=true):InB l.length (0:Int):=by
 rw [Bool.and_eq_true] at q
 have:=of_decide_eq_true q.2
 unfold InB;omega
theorem zqj {b:Bool} (q:(b && decide ((0:Int)<((l.length:Nat):Int)))=true):InB l.length (0:Int):=zsj q
theorem zsP (h:BaP xs w l r) {b:Bool} (q:(b && decide ((0:Int)<((l.length:Nat):Int)))=true):((((ixD l (0:Int))).length:Nat):Int)=w∧((ixD l (0:Int))).length≤4∧Lat.Bit 100 (ixD l (0:Int)):=by
 obtain ⟨_,W,h1,h2,h3,h4,h5,h6⟩:=h
 obtain ⟨k1,k2⟩:=h6 _ (List.mem_append_left r (zgj (zqj q)))
 exact ⟨by rw [k1,h1],by omega,k2⟩
theorem zss (h:BaP xs w l r) {b:Bool} (q:(b && decide ((0:Int)<((l.length:Nat):Int)))=true):zbn (ixD l (0:Int)) ((1:Int)+x%(12:Int)):=by
 obtain ⟨k1,k2,k3⟩:=zsP h q
 exact ⟨by omega,λy hy=>Lat.zdc.of (k3 y hy) (show _≤2^4 by show _≤16;omega) (by decide) (by decide)⟩
theorem zsF {s:Jq} (I:BaJ w i s) (q:(zct xs (some (3:Int)) (some (9:Int))++[(1:Int)])[i]?=some x):s.length<PySem.sizeLine:=by
 have h1:=I.1
 have h2:=(List.getElem?_eq_some_iff.mp q).1
 rw [List.length_append,List.length_singleton] at h2
 have:(zct xs (some (3:Int)) (some (9:Int))).length≤6:=(zh5 (a:=3) (b:=9)).1
 exact Nat.lt_of_le_of_lt (show _≤1000 by omega) (by decide)
theorem zrB {n:Nat} (h:BaP xs w l r) (hn:n≤10) (I1:BaI w n t) (b1 b2:Bool) (e:u=(bif (b2&&(decide ((0:Int)<((l.length:Nat):Int)))) then (zan (ixD l (0:Int)) ((1:Int)+((x/(3:Int))%(12:Int)))) else (bif b1 then (zbU t (List.map (λ(x315:Int)=>(zam x ((12:Int)+x315) (2:Int))) (zbo 0 w.toNat))) else t))):((u.length:Nat):Int)=w∧Lat.Bit 120 u:=by
 rw [e]
 cases q:(b2&&(decide ((0:Int)<((l.length:Nat):Int)))) with
 | true =>
  rw [cond_true]
  obtain ⟨k1,k2,k3⟩:=zsP h q
  refine ⟨by rw [show ((zan (ixD l (0:Int)) ((1:Int)+((x/(3:Int))%(12:Int))))).length=((ixD l (0:Int))).length from Lat.zba];exact k1,Lat.Bit.of λj=>?_⟩
  rw [show Lat.vec (zan (ixD l (0:Int)) ((1:Int)+((x/(3:Int))%(12:Int)))) j=Lat.vec (ixD l (0:Int)) j*((1:Int)+((x/(3:Int))%(12:Int))) from Lat.zc9]
  exact Nat.le_trans (Lat.zjL (b:=4) (k3.vec j) (show _≤16 by omega)) (Nat.pow_le_pow_right (by decide) (by decide))
 | false =>
  rw [cond_false]
  cases b1 with
  | false=>rw [cond_false];exact ⟨I1.1,I1.2.mono (by omega)⟩
  | true =>
   rw [cond_true]
   obtain ⟨c1,c2⟩:=zqu (c:=x) h
   have e:t.length=((List.map (λ(x315:Int)=>(zam x ((12:Int)+x315) (2:Int))) (zbo 0 w.toNat))).length:=by have:=I1.1;omega
   refine ⟨by rw [show (zbU t (List.map (λ(x315:Int)=>(zam x ((12:Int)+x315) (2:Int))) (zbo 0 w.toNat))).length=t.length from Lat.zjF e];exact I1.1,(zoN e I1.2 c2 (by omega)).mono (by omega)⟩
theorem zs6 {s:Jq} (h:BaP xs w l r) (I:BaJ w i s):BaJ w (i+1) ((Let (zbV w [(0:Int)]) (λ(v305:Ji)=>(Let (List.foldl (λ(s306:Ji) (x307:(Int×Ji))=>(Let (zam x x307.1 (2:Int)) (λ(v311:Int)=>(Let (zbU s306 (zan x307.2 v311)) (λ(v312:Ji)=>v312))))) v305 (zdE (l++r))) (λ(r313:Ji)=>(Let (bif (decide ((x%(3:Int))=(1:Int))) then (zbU r313 (List.map (λ(x315:Int)=>(zam x ((12:Int)+x315) (2:Int))) (zbo 0 w.toNat))) else r313) (λ(v318:Ji)=>(Let (bif ((decide ((x%(3:Int))=(2:Int))) && (decide ((0:Int)<((l.length:Nat):Int)))) then (zan (ixD l (0:Int)) ((1:Int)+((x/(3:Int))%(12:Int)))) else v318) (λ(v320:Ji)=>(s++[v320])))))))))):=by
 have I1:BaI w (l++r).length (List.foldl (λ(s306:Ji) (x307:(Int×Ji))=>(Let (zam x x307.1 (2:Int)) (λ(v311:Int)=>(Let (zbU s306 (zan x307.2 v311)) (λ(v312:Ji)=>v312))))) (zbV w [(0:Int)]) (zdE (l++r))):=by
  have:=zfX (xs:=zdE (l++r)) (s:=zbV w [(0:Int)]) (n:=0) (I:=BaI w) (f:=λ(s306:Ji) (x307:(Int×Ji))=>(Let (zam x x307.1 (2:Int)) (λ(v311:Int)=>(Let (zbU s306 (zan x307.2 v311)) (λ(v312:Ji)=>v312))))) (zri h rfl) λi y s hx q=>by rw [Nat.zero_add] at q ⊢;exact zs8 h (zcK hx) q
  rw [Nat.zero_add,zfU] at this
  exact this
 have hl:(l++r).length≤10:=by obtain ⟨_,W,h1,h2,h3,h4,h5,_⟩:=h;rw [List.length_append];omega
 refine ⟨by unfold Let;rw [List.length_append,I.1];rfl,λu hu=>?_⟩
 rcases List.mem_append.mp hu with hu | hu
 ·exact I.2 u hu
 ·exact zrB h hl I1 _ _ (List.mem_singleton.mp hu)
theorem zrg {xs l:Ji} {lo hi:Option Int} (h:xs.length≤63) (hl:l.length≤100):(zct xs lo hi).length+l.length≤PySem.sizeLine:=zap (by have:(zct xs lo hi).length≤xs.length:=(by unfold zct;rw [List.length_take,List.length_drop];omega);omega)
end
def m_law_baskets (P0:Ji) (P1:Int) (P2:Jq) (P3:Jq):Jq :=
 (Let (List.foldl (λ(s300:Jq) (x301:Int)=>(Let (zbV P1 [(0:Int)]) (λ(v305:Ji)=>(Let (List.foldl (λ(s306:Ji) (x307:(Int×Ji))=>(Let (zam x301 x307.1 (2:Int)) (λ(v311:Int)=>(Let (zbU s306 (zan x307.2 v311)) (λ(v312:Ji)=>v312))))) v305 (zdE (P2++P3))) (λ(r313:Ji)=>(Let (bif (decide ((x301%(3:Int))=(1:Int))) then (zbU r313 (List.map (λ(x315:Int)=>(zam x301 ((12:Int)+x315) (2:Int))) (zbo 0 P1.toNat))) else r313) (λ(v318:Ji)=>(Let (bif ((decide ((x301%(3:Int))=(2:Int))) && (decide ((0:Int)<((P2.length:Nat):Int)))) then (zan (ixD P2 (0:Int)) ((1:Int)+((x301/(3:Int))%(12:Int)))) else v318) (λ(v320:Ji)=>(s300++[v320])))))))))) [] ((zct P0 (some (3:Int)) (some (9:Int)))++[(1:Int)])) (λ(r321:Jq)=>r321))
def zcr (P0:Ji) (P1:Int) (P2:Jq) (P3:Jq):Prop:=BaP P0 P1 P2 P3
def zd8 (K:W.Frag) (A:Adr):Sp:=Spv (ι:=Ji×Int×Jq×Jq) (λx=>[dQ K (List.map dI x.1),dI x.2.1,dL (List.map lI x.2.2.1),dL (List.map lI x.2.2.2)]) (λx=>zcr x.1 x.2.1 x.2.2.1 x.2.2.2) (λx=>↥[dL (List.map lI (m_law_baskets x.1 x.2.1 x.2.2.1 x.2.2.2))])
theorem za4:FnScope ["_law_script","_law_wide","_law_left","_law_right","_law_found","_law_cell_here","_law_total","_law_k","_law_swap","_law_many"] ["_law_script","_law_wide","_law_left","_law_right"] (zad zb2):=⟨rfl,rfl,rfl,by decide+kernel,rfl,by decide+kernel,by decide+kernel⟩
theorem zhH (F:Fun K "_law_baskets" "_law_baskets" zb2 f fd) (T:Txt K mg A) (yaI:Callee P w K mg base (CXE P w) 2 "_law_count" ["_law_cell_here","_law_k","_law_size"] (ze1 K A)) (yaN:Callee P w K mg base (CXE P w) 2 "plus" ["one","other"] (ziz K A)) (yae:Callee P w K mg base (CXE P w) 1 "times" ["some","many"] (zeH K A)):FnOk P w K mg base (CXE P w) 3 f fd ["_law_script","_law_wide","_law_left","_law_right"] (zd8 K A):=by
 refine F.okV za4 (λ_=>rfl) (λcdv Ar outer s H E x hr hp=> ?_)
 obtain ⟨P0,P1,P2,P3⟩:=x
 have hu:=hr.units
 replace hp:zcr P0 P1 P2 P3:=hp
 unfold zcr at hp
 refine ⟨_,(zac (zar (i:=4) za4.nd rfl (Or.inl rfl) (zcf zdW)) (zac (zcE PassesOwn.never rfl (zaP (K:=K) rfl (zax zdO (zcM (zb9 (K:=K) rfl) (pv 0) (zcF zai) (zcF zai)) (zcf ↑[zai]))) (zao (i:=5) za4.nd rfl (Or.inr rfl) (Or.inl rfl)) (zac (zar (i:=6) za4.nd rfl (Or.inl rfl) (zax zh0 (zcf ↑[zai]) (pv 1))) (zac (zcE PassesOwn.never rfl (zgr rfl rfl T.enumerate ↑[zax zdO (pv 2) (pv 3)]) (zbJ (K:=K) (n:=2) rfl rfl (zaF (zao (i:=7) za4.nd rfl (Or.inl rfl) (Or.inl rfl)) (zaF (zao (i:=8) za4.nd rfl (Or.inl rfl) (Or.inl rfl)) zcj))) (zac (zar (i:=9) za4.nd rfl (Or.inl rfl) (zaD yaI (hr.mono (by decide)) rfl zaB ↑[pv 5,pv 7,zai])) (zac (zar (i:=6) za4.nd rfl (Or.inl rfl) (zaD yaN (hr.mono (by decide)) rfl zaB ↑[pv 6,zaD yae (hr.mono (by decide)) rfl zaB ↑[pv 8,pv 9]])) zag))) (zac (zcI (zaI zf0 (zax zc0 (pv 5) zai) zai (zaQ _)) (zac (zar (i:=6) za4.nd rfl (Or.inl rfl) (zaD yaN (hr.mono (by decide)) rfl zaB ↑[pv 6,(zb0 rfl (.of (osc:=(zad zb2)) (N:=["_law_script","_law_wide","_law_left","_law_right","_law_found","_law_cell_here","_law_total","_law_k","_law_swap","_law_many"]) (own:=["_law_k"]) (fvn:=["_law_cell_here"]) (fv:=[5]) rfl rfl (by decide+kernel)) (zdt rfl T.range ↑[pv 1]) (λ_ _ _ _ _=>⟨(zao (i:=0) (show (["_law_k","_law_cell_here"]:List Str).Nodup by decide +kernel) rfl (Or.inl rfl) (Or.inr rfl)),zbg,(zaD yaI (hr.mono (by decide)) rfl zaB ↑[pv 1,zax zcZ zai (pv 0),zai])⟩))])) zag) zag) (zac (zcI (PW.pt (zhL (zaI zf0 (zax zc0 (pv 5) zai) zai (zaQ _)) (zgw (zaI zkZ (za3 (zaR (K:=K) rfl) rfl T.len PySem.boot_len ↑[pv 2]) zai (zaQ _))))) (zac (zar (i:=6) za4.nd rfl (Or.inl rfl) (zaD yae (hr.mono (by decide)) rfl zaB ↑[(zbk (zav (K:=K) rfl) (pv 2) zai (λ_ _=>rfl)),zax zcZ zai (zax zc0 (zax zcg (pv 5) zai) zai)])) zag) zag) (zac (zcG (zbZ (K:=K) rfl (pv 4) ↑[pv 6])) zag)))))) (zac (zaN (pv 4)) zag))),.inl ?_⟩
 show L2.Run _ ([⇑[dQ K (List.map dI P0)],⇑[dI P1],⇑[dL (List.map lI P2)],⇑[dL (List.map lI P3)],.no,.no,.no,.no,.no,.no]:L2.Ctx) _ ((λ(r:Jq)=>Oc.rt true (dL (List.map lI r))) (m_law_baskets P0 P1 P2 P3))
 unfold m_law_baskets
 exact (zey (m:=true) (ds:=List.map lI []) (zdu (m:=true) zae) (zbO (s0:=[]) (λ(s300:Jq)=>([⇑[dQ K (List.map dI P0)],⇑[dI P1],⇑[dL (List.map lI P2)],⇑[dL (List.map lI P3)],.ow true (List.map lI s300),.no,.no,.no,.no,.no]:L2.Ctx)) (λ(r:Jq)=>Oc.rt true (dL (List.map lI r))) (λ(s300:Jq) (x301:Int)=>(Let (zbV P1 [(0:Int)]) (λ(v305:Ji)=>(Let (List.foldl (λ(s306:Ji) (x307:(Int×Ji))=>(Let (zam x301 x307.1 (2:Int)) (λ(v311:Int)=>(Let (zbU s306 (zan x307.2 v311)) (λ(v312:Ji)=>v312))))) v305 (zdE (P2++P3))) (λ(r313:Ji)=>(Let (bif (decide ((x301%(3:Int))=(1:Int))) then (zbU r313 (List.map (λ(x315:Int)=>(zam x301 ((12:Int)+x315) (2:Int))) (zbo 0 P1.toNat))) else r313) (λ(v318:Ji)=>(Let (bif ((decide ((x301%(3:Int))=(2:Int))) && (decide ((0:Int)<((P2.length:Nat):Int)))) then (zan (ixD P2 (0:Int)) ((1:Int)+((x301/(3:Int))%(12:Int)))) else v318) (λ(v320:Ji)=>(s300++[v320])))))))))) (λ(i:Nat) (s300:Jq)=>BaJ P1 i s300) (zbi (m:=true) dI (xs:=((zct P0 (some (3:Int)) (some (9:Int)))++[(1:Int)])) (Ev.weak (K:=K) (EvO.ev (zcP (f:=dI) (xs:=(zct P0 (some (3:Int)) (some (9:Int)))) (ys:=[(1:Int)]) (EvO.ev (EvO.anyI (m:=false) (zdx (f:=dI) (xs:=P0) (zaa (i:=0) rfl) (zbN zaL) (zbN zaL)))) (EvO.ev (zc5 (zab zaL zae) (by show 1≤sizeLine;decide))) ↥(zrg hp.1 (by decide)))))) (.eq (.eq (.eq (.eq (.eq (.eq (.eq (.eq (.eq (.eq .nil)))))))))) ↥(zs1) (λi302 x301 s300 hx303 hI304=>have v303:=List.mem_of_getElem? hx303;⟨↥(zs6 hp (by assumption)),(zaq (m:=true) (x:=(zbV P1 [(0:Int)])) lI (λz=>Oc.nx ((λ(s300:Jq)=>([⇑[dQ K (List.map dI P0)],⇑[dI P1],⇑[dL (List.map lI P2)],⇑[dL (List.map lI P3)],.ow true (List.map lI s300),.no,.no,.no,.no,.no]:L2.Ctx)) z)) (EvO.ev (zfJ (f:=dI) (xs:=[(0:Int)]) (n:=P1) (EvO.ev (zc5 (zab zaL zae) (by show 1≤sizeLine;decide))) (Ev.any (m:=false) (zaa (i:=1) rfl)) ↥(zrb hp) ↥(zsr hp))) (λv305 hv305=>have hT:=hv305;(zbO (s0:=v305) (λ(s306:Ji)=>([⇑[dQ K (List.map dI P0)],⇑[dI P1],⇑[dL (List.map lI P2)],⇑[dL (List.map lI P3)],.ow true (List.map lI s300),↥[dI x301],↥[dL (List.map dI s306)],.no,.no,.no]:L2.Ctx)) (λz=>Oc.nx ((λ(s300:Jq)=>([⇑[dQ K (List.map dI P0)],⇑[dI P1],⇑[dL (List.map lI P2)],⇑[dL (List.map lI P3)],.ow true (List.map lI s300),.no,.no,.no,.no,.no]:L2.Ctx)) z)) (λ(s306:Ji) (x307:(Int×Ji))=>(Let (zam x301 x307.1 (2:Int)) (λ(v311:Int)=>(Let (zbU s306 (zan x307.2 v311)) (λ(v312:Ji)=>v312))))) (λ(i:Nat) (s306:Ji)=>BaI P1 i s306) (zgd (m:=false) lI (xs:=(P2++P3)) (Ev.weak (K:=K) (EvO.ev (zcP (f:=lI) (xs:=P2) (ys:=P3) (zaa (i:=2) rfl) (zaa (i:=3) rfl) ↥(zr3 hp))))) (.eq (.eq (.eq (.eq (.eq (.eq (.eq (.eq (.eq (.eq .nil)))))))))) ↥(zri hp hT) (λi308 x307 s306 hx309 hI310=>have v309:=zcK hx309;⟨↥(zs8 hp (by assumption) (by assumption)),(zaq (m:=true) (x:=(zam x301 x307.1 (2:Int))) dI (λz=>Oc.nx ((λ(s306:Ji)=>([⇑[dQ K (List.map dI P0)],⇑[dI P1],⇑[dL (List.map lI P2)],⇑[dL (List.map lI P3)],.ow true (List.map lI s300),↥[dI x301],↥[dL (List.map dI s306)],.no,.no,.no]:L2.Ctx)) z)) (Ev.any (m:=true) (zal (x:=(x301,x307.1,(2:Int))) (zab (Ev.any (m:=true) (zaa (i:=5) rfl)) (zab (Ev.any (m:=false) (zaa (i:=7) rfl)) (zab zaL zae))) rfl (by show zcY x301 x307.1 (2:Int);exact zsm hp (by assumption)) rfl)) (λv311 hv311=>have hM:=hv311;(zaq (m:=true) (x:=(zbU s306 (zan x307.2 v311))) lI (λz=>Oc.nx ((λ(s306:Ji)=>([⇑[dQ K (List.map dI P0)],⇑[dI P1],⇑[dL (List.map lI P2)],⇑[dL (List.map lI P3)],.ow true (List.map lI s300),↥[dI x301],↥[dL (List.map dI s306)],.no,.no,.no]:L2.Ctx)) z)) (EvO.ev (EvO.anyI (m:=true) (zbG (x:=(s306,(zan x307.2 v311))) (zab (Ev.old (Ev.weak (K:=K) (zaa (i:=6) rfl))) (zab (Ev.weak (K:=K) (EvO.ev (EvO.anyI (m:=true) (zbG (x:=(x307.2,v311)) (zab (Ev.weak (K:=K) (zaa (i:=8) rfl)) (zab (Ev.any (m:=true) (zaa (i:=9) rfl)) zae)) rfl (by show zbn x307.2 v311;exact zto hp (by assumption) hM) rfl)))) zae)) rfl (by show zdF s306 (zan x307.2 v311);exact zth hp (by assumption) (by assumption)) rfl))) (λv312 hv312=>have hT:=hv312;(zat (.eq (.eq (.eq (.eq (.eq (.eq (.eq (.no (.no (.no .nil)))))))))))))))⟩) (λr313 hr313 hI=>(zdi (b:=(decide ((x301%(3:Int))=(1:Int)))) (λbb=>([⇑[dQ K (List.map dI P0)],⇑[dI P1],⇑[dL (List.map lI P2)],⇑[dL (List.map lI P3)],.ow true (List.map lI s300),↥[dI x301],↥[dL (List.map dI (bif bb then (zbU r313 (List.map (λ(x315:Int)=>(zam x301 ((12:Int)+x315) (2:Int))) (zbo 0 P1.toNat))) else r313))],.no,.no,.no]:L2.Ctx)) (zau (zd5 (x:=(x301%(3:Int))) (y:=(1:Int)) (zaJ (x:=x301) (y:=(3:Int)) (Ev.any (m:=true) (zaa (i:=5) rfl)) zaL (by decide)) zaL)) (λh314=>(zbP (m:=true) (EvO.ev (EvO.anyI (m:=true) (zbG (x:=(r313,(List.map (λ(x315:Int)=>(zam x301 ((12:Int)+x315) (2:Int))) (zbo 0 P1.toNat)))) (zab (Ev.old (Ev.weak (K:=K) (zaa (i:=6) rfl))) (zab (Ev.weak (K:=K) (EvO.ev (EvO.conv (zb5 (g:=(λ(x315:Int)=>dI (zam x301 ((12:Int)+x315) (2:Int)))) (zeU (m:=true) (n:=P1) (Ev.any (m:=false) (zaa (i:=1) rfl)) ↥(zrY hp)) ↥(zsf hp) ⟨by decide,by decide⟩ (λi316 x315 hx317=>have v317:=zcN hx317;(Ev.any (m:=true) (zal (x:=(x301,((12:Int)+x315),(2:Int))) (zab (Ev.any (m:=true) (zaa (i:=1) rfl)) (zab (zaU (x:=(12:Int)) (y:=x315) zaL (Ev.any (m:=true) (zaa (i:=0) rfl))) (zab zaL zae))) rfl (by show zcY x301 ((12:Int)+x315) (2:Int);exact zrc hp (by assumption)) rfl)))) (by first|(rw [List.map_map];rfl)|(simp only [cond_true,cond_false];rw [List.map_map];rfl))))) zae)) rfl (by show zdF r313 (List.map (λ(x315:Int)=>(zam x301 ((12:Int)+x315) (2:Int))) (zbo 0 P1.toNat));exact zsg hp (by assumption)) rfl))) (zat (.eq (.eq (.eq (.eq (.eq (.eq (.eq (.eq (.eq (.eq .nil))))))))))))) (λh314=>(zat (.eq (.eq (.eq (.eq (.eq (.eq (.eq (.eq (.eq (.eq .nil)))))))))))) (zdb (x:=(bif (decide ((x301%(3:Int))=(1:Int))) then (zbU r313 (List.map (λ(x315:Int)=>(zam x301 ((12:Int)+x315) (2:Int))) (zbo 0 P1.toNat))) else r313)) (λv318=>([⇑[dQ K (List.map dI P0)],⇑[dI P1],⇑[dL (List.map lI P2)],⇑[dL (List.map lI P3)],.ow true (List.map lI s300),↥[dI x301],↥[dL (List.map dI v318)],.no,.no,.no]:L2.Ctx)) (λz=>Oc.nx ((λ(s300:Jq)=>([⇑[dQ K (List.map dI P0)],⇑[dI P1],⇑[dL (List.map lI P2)],⇑[dL (List.map lI P3)],.ow true (List.map lI s300),.no,.no,.no,.no,.no]:L2.Ctx)) z)) (λv318 hv318=>have hT1:=hv318;(zdi (b:=((decide ((x301%(3:Int))=(2:Int))) && (decide ((0:Int)<((P2.length:Nat):Int))))) (λbb=>([⇑[dQ K (List.map dI P0)],⇑[dI P1],⇑[dL (List.map lI P2)],⇑[dL (List.map lI P3)],.ow true (List.map lI s300),↥[dI x301],↥[dL (List.map dI (bif bb then (zan (ixD P2 (0:Int)) ((1:Int)+((x301/(3:Int))%(12:Int)))) else v318))],.no,.no,.no]:L2.Ctx)) (zgk (b:=(decide ((x301%(3:Int))=(2:Int)))) (zau (zd5 (x:=(x301%(3:Int))) (y:=(2:Int)) (zaJ (x:=x301) (y:=(3:Int)) (Ev.any (m:=true) (zaa (i:=5) rfl)) zaL (by decide)) zaL)) (λhb=>(zau (zaU (x:=((P2.length:Nat):Int)) (y:=(0:Int)) (zco (f:=lI) (xs:=P2) (Ev.weak (K:=K) (zaa (i:=2) rfl))) zaL)))) (λh319=>(zbP (m:=true) (EvO.ev (EvO.anyI (m:=true) (zbG (x:=((ixD P2 (0:Int)),((1:Int)+((x301/(3:Int))%(12:Int))))) (zab (Ev.weak (K:=K) (zci (f:=lI) (xs:=P2) (Ev.weak (K:=K) (zaa (i:=2) rfl)) zaL ↥(zqj (by assumption)))) (zab (zaU (x:=(1:Int)) (y:=((x301/(3:Int))%(12:Int))) zaL (zaJ (x:=(x301/(3:Int))) (y:=(12:Int)) (zaJ (x:=x301) (y:=(3:Int)) (Ev.any (m:=true) (zaa (i:=5) rfl)) zaL ↥(⟨by decide,by decide⟩)) zaL (by decide))) zae)) rfl (by show zbn (ixD P2 (0:Int)) ((1:Int)+((x301/(3:Int))%(12:Int)));exact zss hp (by assumption)) rfl))) (zat (.eq (.eq (.eq (.eq (.eq (.eq (.eq (.eq (.eq (.eq .nil))))))))))))) (λh319=>(zat (.eq (.eq (.eq (.eq (.eq (.eq (.eq (.eq (.eq (.eq .nil)))))))))))) (zdb (x:=(bif ((decide ((x301%(3:Int))=(2:Int))) && (decide ((0:Int)<((P2.length:Nat):Int)))) then (zan (ixD P2 (0:Int)) ((1:Int)+((x301/(3:Int))%(12:Int)))) else v318)) (λv320=>([⇑[dQ K (List.map dI P0)],⇑[dI P1],⇑[dL (List.map lI P2)],⇑[dL (List.map lI P3)],.ow true (List.map lI s300),↥[dI x301],↥[dL (List.map dI v320)],.no,.no,.no]:L2.Ctx)) (λz=>Oc.nx ((λ(s300:Jq)=>([⇑[dQ K (List.map dI P0)],⇑[dI P1],⇑[dL (List.map lI P2)],⇑[dL (List.map lI P3)],.ow true (List.map lI s300),.no,.no,.no,.no,.no]:L2.Ctx)) z)) (λv320 hv320=>have hT2:=hv320;(zb1 (f:=lI) (xs:=s300) (x:=v320) rfl (zaa (i:=6) rfl) ↥(zsF (by assumption) (by assumption)) (zat (.eq (.eq (.eq (.eq (.eq (.no (.no (.eq (.eq (.eq .nil))))))))))))))))))))))⟩) (λr321 hr321 hI=>(zcl (i:=4) rfl (zak (zaC (zaa (i:=4) rfl)))))))
theorem zgs {γ β:Type} {f:Unit->γ->Unit ⊕ β}:∀ {xs:List γ},(∀ x∈xs,f () x=.inl ())->zbE f () xs=.inl ()
 | [],_=>rfl
 | x :: xs,h=>by
  simp only [zbE,h x List.mem_cons_self]
  exact zgs λy hy=>h y (List.mem_cons_of_mem _ hy)
theorem zkY {a b:BookD} (h:∀ s∈a.swaps,SnS b s):zbq a b=none:=by
 unfold zbq
 rw [zgs λx hx=>?_]
 ·rfl
 ·obtain ⟨i,hi⟩:=List.getElem?_of_mem hx
  rw [zpL (h _ (zkH hi))]
  rfl
theorem zlu {N:Nat} (h:N≤14):Lat.Fit N 100 15:=by
 have e1:Lat.eB 100 15=1712:=rfl
 have e2:Lat.sB 100 15=27504:=rfl
 have e3:min N 15≤14:=by omega
 refine ⟨by omega,by omega,by omega,?_⟩
 rw [e2]
 generalize min N 15=k at *
 have e4:(k+2)*((k+1)*(27504+9000))≤16*(15*36504):=Nat.mul_le_mul (by omega) (Nat.mul_le_mul (by omega) (by omega))
 have e5:(k+1)*(27504+1)≤15*27505:=Nat.mul_le_mul (by omega) (by omega)
 omega
def Few (W n:Nat) (sw:Jq):Prop:=sw.length≤n∧∀ r∈sw,r.length=W∧Lat.Bit 100 r
structure Stp (W:Nat) (tt:Jq):Prop where
 e:Lat.Ech W 0 tt
 r:Lat.Red tt
 s:∀ t∈tt,Lat.Sd W 27504 t
section
variable {W n:Nat} {sw A B C J tt:Jq} {x:Ji}
theorem Few.cb (h:Few W 15 sw) (h4:W≤4):Lat.Cb W 27504 sw:=Lat.Cb.fit (R:=15) (b:=100) (zlu (by omega)) (by omega) (Nat.le_refl _) (by decide) h.1 h.2
theorem Few.mono {k:Nat} (h:Few W n sw) (hk:n≤k):Few W k sw:=⟨Nat.le_trans h.1 hk,h.2⟩
theorem Stp.cb (h:Stp W tt) (h4:W≤4):Lat.Cb W 27504 tt:=Lat.Cb.self (by omega) (by decide) h.e h.r h.s
theorem Stp.len (h:Stp W tt):tt.length≤W:=by have:=Lat.zfH h.e (Nat.zero_le W);omega
theorem Few.tr (h:Few W 10 sw) (h4:W≤4):TrQ sw :=
 ⟨⟨by have:=h.1;omega,λr hr=>by rw [(h.2 r hr).1];omega⟩,.inl ⟨W+sw.length,100,15,zlu (by have:=h.1;omega),by rw [Lat.zn6];have:=h.1;omega,Lat.zpG h.2⟩⟩
theorem Stp.tr (h:Stp W tt) (h4:W≤4):TrQ tt :=
 ⟨⟨by have:=h.len;omega,λr hr=>by rw [(h.s r hr).len];omega⟩,.inr ⟨_,_,Lat.Cb.mark (by have:=h.len;omega) (by decide) h.e h.r h.s⟩⟩
theorem zlj (h1:1≤W) (h4:W≤4) (hl:sw.length≤30) (C:Lat.Cb W 27504 sw) (hx:x.length=W) (hb:Lat.Bit 27504 x) (k:Lat.SpL sw (Lat.vec x)):SnS ⟨(W:Int),sw⟩ x:=⟨W,27504,rfl,h1,by omega,hx,hl,C,hb,k⟩
theorem zrf (h1:1≤W) (h4:W≤4) (hC:Few W 5 C) (hJ:Few W 10 J) (hT:Stp W tt) (k1:∀ s∈C,Lat.SpL J (Lat.vec s)) (k2:∀ t∈tt,Lat.SpL C (Lat.vec t)):OrP ⟨(W:Int),C⟩ ⟨(W:Int),tt⟩ ⟨(W:Int),J⟩∧zaX ⟨(W:Int),C⟩ ⟨(W:Int),tt⟩ ⟨(W:Int),J⟩=true:=by
 have cC:=(hC.mono (k:=15) (by decide)).cb h4
 have cJ:=(hJ.mono (k:=15) (by decide)).cb h4
 have lC:=hC.1;have lJ:=hJ.1;have lT:=hT.len
 have sC:∀ s∈C,s.length=W∧Lat.Bit 27504 s:=λs hs=>⟨(hC.2 s hs).1,((hC.2 s hs).2).mono (by decide)⟩
 have sT:∀ s∈tt,s.length=W∧Lat.Bit 27504 s:=λs hs=>⟨(hT.s s hs).len,(hT.s s hs).bit⟩
 have cA:=(cC.app (more:=tt) (by omega) λt ht=>⟨(sT t ht).1,(sT t ht).2,k2 t ht⟩).1
 have eJ:m_joined ⟨(W:Int),C⟩ ⟨(W:Int),tt⟩=⟨(W:Int),C++tt⟩:=zkO ..
 have lA:∀ s∈C++tt,s.length=W∧Lat.Bit 27504 s∧Lat.SpL C (Lat.vec s):=λs hs=>by
  rcases List.mem_append.mp hs with h | h
  ·exact ⟨(sC s h).1,(sC s h).2,Lat.SpL.mem h⟩
  ·exact ⟨(sT s h).1,(sT s h).2,k2 s h⟩
 have mt:MtP ⟨(W:Int),C⟩ ⟨(W:Int),J⟩:=⟨W,100,15,rfl,rfl,by omega,zlu (by omega),by show C.length+J.length≤15;omega,hC.2,hJ.2⟩
 obtain ⟨m1,m2,m3⟩:=zmF (a:=⟨(W:Int),C⟩) (b:=⟨(W:Int),J⟩) rfl rfl (λr hr=>(hC.2 r hr).1) λr hr=>(hJ.2 r hr).1
 obtain ⟨m4,m5⟩:=zoJ (a:=⟨(W:Int),C⟩) (b:=⟨(W:Int),J⟩) (bt:=100) (R:=15) rfl rfl (zlu (by omega)) (by show C.length+J.length≤15;omega) hC.2 hJ.2
 have em:zbR ⟨(W:Int),C⟩ ⟨(W:Int),J⟩=⟨(W:Int),((zbR ⟨(W:Int),C⟩ ⟨(W:Int),J⟩)).swaps⟩:=by rw [zi1 (W:=W) rfl rfl]
 have hM:Stp W ((zbR ⟨(W:Int),C⟩ ⟨(W:Int),J⟩)).swaps:=⟨m1,m2,m5⟩
 have a1:∀ s∈C,SnS ⟨(W:Int),J⟩ s:=λs hs=>zlj h1 h4 (by omega) cJ (sC s hs).1 (sC s hs).2 (k1 s hs)
 have a2:∀ s∈tt,SnS ⟨(W:Int),C⟩ s:=λs hs=>zlj h1 h4 (by omega) cC (sT s hs).1 (sT s hs).2 (k2 s hs)
 have a3:∀ s∈C++tt,SnS ⟨(W:Int),C⟩ s:=λs hs=>zlj h1 h4 (by omega) cC (lA s hs).1 (lA s hs).2.1 (lA s hs).2.2
 have a4:∀ s∈C,SnS ⟨(W:Int),C++tt⟩ s:=λs hs=>zlj h1 h4 (by rw [List.length_append];omega) cA (sC s hs).1 (sC s hs).2 (Lat.SpL.mem (List.mem_append_left _ hs))
 have a5:∀ s∈((zbR ⟨(W:Int),C⟩ ⟨(W:Int),J⟩)).swaps,SnS ⟨(W:Int),C⟩ s:=λs hs=>zlj h1 h4 (by omega) cC (m5 s hs).len (m5 s hs).bit ((m3 _).mp (Lat.SpL.mem hs)).1
 have a6:∀ s∈C,SnS (zbR ⟨(W:Int),C⟩ ⟨(W:Int),J⟩) s:=λs hs=>by
  rw [em]
  exact zlj h1 h4 (by have:=hM.len;omega) (hM.cb h4) (sC s hs).1 (sC s hs).2 ((m3 _).mpr ⟨Lat.SpL.mem hs,k1 s hs⟩)
 have mm:((zbR ⟨(W:Int),C⟩ ⟨(W:Int),J⟩)).many=(W:Int):=by rw [em]
 refine ⟨⟨⟨rfl,a1⟩,⟨rfl,a2⟩,⟨rfl,by show (1:Int)≤(W:Int);omega,by show (W:Int)≤8;omega,by show (C++tt).length≤12;rw [List.length_append];omega,λs hs=>by show (s.length:Int)=(W:Int);rw [(lA s hs).1]⟩,by rw [eJ];exact ⟨rfl,a3⟩,by rw [eJ];exact ⟨rfl,a4⟩,mt,⟨mm,a5⟩,⟨mm.symm,a6⟩⟩,?_⟩
 unfold zaX zcy
 rw [zkY (a:=⟨(W:Int),C⟩) a1,zkY (a:=⟨(W:Int),tt⟩) a2,eJ,zkY (a:=⟨(W:Int),C++tt⟩) a3,zkY (a:=⟨(W:Int),C⟩) (b:=⟨(W:Int),C++tt⟩) a4,zkY a5,zkY (a:=⟨(W:Int),C⟩) (b:=zbR ⟨(W:Int),C⟩ ⟨(W:Int),J⟩) a6]
 rfl
theorem ziC (hA:∀ r∈A,r.length=W) (hB:∀ r∈B,r.length=W) {u:Lat.Vc}:Lat.SpL (List.map (λ(x:Ji)=>x++x) A++List.map (λ(x:Ji)=>x++zbV (W:Int) [(0:Int)]) B) u ↔ Lat.SpL B (λi=>if i<W then u i-u (W+i) else 0)∧Lat.SpL A (λi=>u (W+i)):=by
 constructor
 ·intro h
  constructor
  ·refine Lat.Sp.image (A:=λa=>∃ s∈List.map (λ(x:Ji)=>x++x) A++List.map (λ(x:Ji)=>x++zbV (W:Int) [(0:Int)]) B,a=Lat.vec s) (B:=λa=>∃ s∈B,a=Lat.vec s) (g:=λu i=>if i<W then u i-u (W+i) else 0) (λi=>by dsimp only;split<;>rfl) (λu a x i=>by
    dsimp only
    split
    ·grind
    ·grind) (λa ha=>?_) h
   obtain ⟨s,hs,rfl⟩:=ha
   rcases List.mem_append.mp hs with hs | hs
   ·obtain ⟨t,ht,rfl⟩:=List.mem_map.mp hs
    refine Lat.Sp.zero.conv λi=>?_
    by_cases q:i<W
    ·rw [if_pos q,Lat.zbT,Lat.zbT,hA t ht,if_pos q,if_neg (by omega),Nat.add_sub_cancel_left];omega
    ·rw [if_neg q]
   ·obtain ⟨t,ht,rfl⟩:=List.mem_map.mp hs
    refine Lat.Sp.conv (Lat.SpL.mem ht) λi=>?_
    rw [Lat.zjw]
    by_cases q:i<W
    ·rw [if_pos q,Lat.zbf (l:=t) (i:=W+i) (by rw [hB t ht];omega)];omega
    ·rw [if_neg q,Lat.zbf (by rw [hB t ht];omega)]
  ·refine Lat.Sp.image (A:=λa=>∃ s∈List.map (λ(x:Ji)=>x++x) A++List.map (λ(x:Ji)=>x++zbV (W:Int) [(0:Int)]) B,a=Lat.vec s) (B:=λa=>∃ s∈A,a=Lat.vec s) (g:=λu i=>u (W+i)) (λi=>rfl) (λu a x i=>rfl) (λa ha=>?_) h
   obtain ⟨s,hs,rfl⟩:=ha
   rcases List.mem_append.mp hs with hs | hs
   ·obtain ⟨t,ht,rfl⟩:=List.mem_map.mp hs
    exact Lat.Sp.conv (Lat.SpL.mem ht) λi=>by rw [Lat.zbT,hA t ht,if_neg (by omega),Nat.add_sub_cancel_left]
   ·obtain ⟨t,ht,rfl⟩:=List.mem_map.mp hs
    exact Lat.Sp.zero.conv λi=>by rw [Lat.zjw,Lat.zbf (by rw [hB t ht];omega)]
 ·rintro ⟨hb,ha⟩
  have h1:Lat.SpL (List.map (λ(x:Ji)=>x++x) A++List.map (λ(x:Ji)=>x++zbV (W:Int) [(0:Int)]) B) (λi=>if i<W then u (W+i) else u (W+(i-W))):=Lat.Sp.image (A:=λa=>∃ s∈A,a=Lat.vec s) (g:=λu i=>if i<W then u i else u (i-W)) (λi=>by dsimp only;split<;>rfl) (λu a x i=>by dsimp only;split<;>rfl) (λa ⟨s,hs,e⟩=>Lat.Sp.mem ⟨s++s,List.mem_append_left _ (List.mem_map.mpr ⟨s,hs,rfl⟩),by rw [e];funext i;rw [Lat.zbT,hA s hs]⟩) ha
  have h2:Lat.SpL (List.map (λ(x:Ji)=>x++x) A++List.map (λ(x:Ji)=>x++zbV (W:Int) [(0:Int)]) B) (λi=>if i<W then u i-u (W+i) else 0):=Lat.Sp.sub (λa ⟨s,hs,e⟩=>Lat.Sp.mem ⟨s++zbV (W:Int) [(0:Int)],List.mem_append_right _ (List.mem_map.mpr ⟨s,hs,rfl⟩),by rw [e,Lat.zjw]⟩) hb
  refine (Lat.Sp.plus h1 h2).conv λi=>?_
  by_cases q:i<W
  ·rw [if_pos q,if_pos q];omega
  ·rw [if_neg q,if_neg q,show W+(i-W)=i by omega];omega
theorem zpK (hA:∀ r∈A,r.length=W) (hB:∀ r∈B,r.length=W) (lA:((Lat.clm Lat.MG A)).length=W) (lB:((Lat.clm Lat.MG B)).length=W) (hM:zbR ⟨(W:Int),A⟩ ⟨(W:Int),B⟩=⟨(W:Int),tt⟩) :
  tt.length=W∧((Lat.clm Lat.MG (A++B))).length=W∧Lat.prd (Lat.hds (Lat.clm Lat.MG A))*Lat.prd (Lat.hds (Lat.clm Lat.MG B))=Lat.prd (Lat.hds tt)*Lat.prd (Lat.hds (Lat.clm Lat.MG (A++B))):=by
 have SA:=(Lat.zaV hA).1
 have SB:=(Lat.zaV hB).1
 have hAB:∀ r∈A++B,r.length=W:=λr hr=>(List.mem_append.mp hr).elim (hA r) (hB r)
 have SC:=(Lat.zaV hAB).1
 obtain ⟨m1,m2,m3⟩:=zmF (a:=⟨(W:Int),A⟩) (b:=⟨(W:Int),B⟩) rfl rfl hA hB
 have et:tt=Lat.zdo W (Lat.clm Lat.MG (List.map (λ(x:Ji)=>x++x) A++List.map (λ(x:Ji)=>x++zbV (W:Int) [(0:Int)]) B)):=by
  rw [zi1 (W:=W) rfl rfl] at hM
  exact (BookD.mk.inj hM).2.symm
 rw [hM] at m1 m3
 have hR:∀ r∈List.map (λ(x:Ji)=>x++x) A++List.map (λ(x:Ji)=>x++zbV (W:Int) [(0:Int)]) B,r.length=W+W:=λr hr=>by
  rcases List.mem_append.mp hr with hr | hr
  ·obtain ⟨x,hx,rfl⟩:=List.mem_map.mp hr
   rw [List.length_append,hA x hx]
  ·obtain ⟨x,hx,rfl⟩:=List.mem_map.mp hr
   rw [List.length_append,hB x hx,Lat.zcR]
 have S:=(Lat.zaV hR).1
 have cut:Lat.zhB W (Lat.clm Lat.MG (List.map (λ(x:Ji)=>x++x) A++List.map (λ(x:Ji)=>x++zbV (W:Int) [(0:Int)]) B))=Lat.clm Lat.MG (A++B):=by
  have tk:∀ {x y:Ji},x.length=W->(x++y).take W=x:=λh=>by rw [List.take_append_of_le_length (by rw [h];exact Nat.le_refl _),List.take_of_length_le (by rw [h];exact Nat.le_refl _)]
  refine (Lat.Stairs.cut (rows:=A++B) (Nat.le_add_right W W) S (λr hr=>?_) λr hr=>?_).one SC (λ_ hr=>Lat.SpL.mem hr) λ_ hr=>Lat.SpL.mem hr
  ·rcases List.mem_append.mp hr with hr | hr
   ·obtain ⟨x,hx,rfl⟩:=List.mem_map.mp hr
    exact ⟨x,List.mem_append_left _ hx,tk (hA x hx)⟩
   ·obtain ⟨x,hx,rfl⟩:=List.mem_map.mp hr
    exact ⟨x,List.mem_append_right _ hx,tk (hB x hx)⟩
  ·rcases List.mem_append.mp hr with hr | hr
   ·exact ⟨r++r,List.mem_append_left _ (List.mem_map.mpr ⟨r,hr,rfl⟩),tk (hA r hr)⟩
   ·exact ⟨r++zbV (W:Int) [(0:Int)],List.mem_append_right _ (List.mem_map.mpr ⟨r,hr,rfl⟩),tk (hB r hr)⟩
 have hk:∀ u:Lat.Vc,Lat.SpL (Lat.clm Lat.MG (List.map (λ(x:Ji)=>x++x) A++List.map (λ(x:Ji)=>x++zbV (W:Int) [(0:Int)]) B)) u ↔ Lat.SpL (Lat.clm Lat.MG B) (λi=>if i<W then u i-u (W+i) else 0)∧Lat.SpL (Lat.clm Lat.MG A) (λi=>u (W+i)):=λu =>
  ⟨λh=>⟨Lat.SpL.sub SB.out (((ziC hA hB).mp (Lat.SpL.sub S.inn h))).1,Lat.SpL.sub SA.out (((ziC hA hB).mp (Lat.SpL.sub S.inn h))).2⟩,λh=>Lat.SpL.sub S.out ((ziC hA hB).mpr ⟨Lat.SpL.sub SB.inn h.1,Lat.SpL.sub SA.inn h.2⟩)⟩
 generalize Lat.clm Lat.MG (List.map (λ(x:Ji)=>x++x) A++List.map (λ(x:Ji)=>x++zbV (W:Int) [(0:Int)]) B)=T at *
 have at_:∀ j,j<W->∃ t,Lat.SpL (Lat.clm Lat.MG A) (Lat.vec t)∧t.length=W∧(∀ i,i<j->Lat.vec t i=0)∧Lat.vec t j≠0∧∃ k:Int,0<k∧Lat.SpL (Lat.clm Lat.MG B) (λi=>k*Lat.vec t i):=λj hj=>by
  obtain ⟨t,ht,t1,t2⟩:=Lat.zp7 SA.ech lA hj
  have tl:=(SA.ech.mem t ht).1
  exact ⟨t,Lat.SpL.mem ht,tl,t1,t2,Lat.zpk SB.ech lB tl⟩
 have lT:T.length=W+W:=Lat.ziy S.ech λj hj=>by
  by_cases q:j<W
  ·obtain ⟨t,t0,tl,t1,t2,k,k1,k2⟩:=at_ j q
   refine ⟨λi=>if i<W then Lat.vec t i else Lat.vec t (i-W),(hk _).mpr ⟨Lat.Sp.zero.conv λi=>?_,t0.conv λi=>?_⟩,λi hi=>?_,?_⟩
   ·by_cases z:i<W
    ·rw [if_pos z,if_pos z,if_neg (by omega),Nat.add_sub_cancel_left];omega
    ·rw [if_neg z]
   ·rw [if_neg (by omega),Nat.add_sub_cancel_left]
   ·dsimp only;rw [if_pos (by omega)];exact t1 i hi
   ·dsimp only;rw [if_pos q];exact t2
  ·obtain ⟨t,t0,tl,t1,t2,k,k1,k2⟩:=at_ (j-W) (by omega)
   refine ⟨λi=>if i<W then 0 else k*Lat.vec t (i-W),(hk _).mpr ⟨(k2.smul (-1)).conv λi=>?_,(t0.smul k).conv λi=>?_⟩,λi hi=>?_,?_⟩
   ·by_cases z:i<W
    ·rw [if_pos z,if_pos z,if_neg (by omega),Nat.add_sub_cancel_left];omega
    ·rw [if_neg z,Lat.zbf (by omega),Int.mul_zero];rfl
   ·rw [if_neg (by omega),Nat.add_sub_cancel_left]
   ·dsimp only
    by_cases z:i<W
    ·rw [if_pos z]
    ·rw [if_neg z,t1 (i-W) (by omega),Int.mul_zero]
   ·dsimp only
    rw [if_neg q]
    intro z
    rcases Int.mul_eq_zero.mp z with z | z
    ·omega
    ·exact t2 z
 have l1:tt.length=W:=Lat.ziy m1 λj hj=>by
  obtain ⟨t,t0,tl,t1,t2,k,k1,k2⟩:=at_ j hj
  refine ⟨λi=>k*Lat.vec t i,(m3 _).mpr ⟨Lat.SpL.sub SA.inn (t0.smul k),Lat.SpL.sub SB.inn k2⟩,λi hi=>by dsimp only;rw [t1 i hi,Int.mul_zero],λz=>?_⟩
  rcases Int.mul_eq_zero.mp z with z | z
  ·omega
  ·exact t2 z
 have l2:((Lat.clm Lat.MG (A++B))).length=W:=Lat.ziy SC.ech λj hj=>by
  obtain ⟨t,t0,tl,t1,t2,_⟩:=at_ j hj
  exact ⟨Lat.vec t,Lat.SpL.sub SC.out ((Lat.SpL.sub SA.inn t0).left),t1,t2⟩
 refine ⟨l1,l2,?_⟩
 have e1:=Lat.zlA (D:=λu=>u) S.ech lT SB.ech lB SA.ech lA (λ_ _ _=>rfl) λu _=>hk u
 have e2:=Lat.ziN (m:=W) (N:=W+W) (S:=T) (by omega) λt ht=>⟨(S.ech.mem t ht).1,(S.ech.mem t ht).2.2.1⟩
 rw [cut,← et] at e2
 rw [Int.mul_comm,← e1,e2,Int.mul_comm]
end
abbrev bA (y:T6 (Jq×Jq) (Jq×Jq) Ji Ji Jq Jq) (w:Int):BookD:=m_book_of w (List.map (λ(x:Ji)=>x) y.e)
abbrev bB (y:T6 (Jq×Jq) (Jq×Jq) Ji Ji Jq Jq) (w:Int):BookD:=m_book_of w (List.map (λ(x:Ji)=>x) y.f)
def SoP (a b c d:BookD):Prop:=((zaj a).isSome&&(zaj b).isSome)=true->(zaj c).isSome=true∧(zaj d).isSome=true∧gS (zaj a)*gS (zaj b)=gS (zaj c)*gS (zaj d)
structure L64 (y:T6 (Jq×Jq) (Jq×Jq) Ji Ji Jq Jq) (w:Int):Prop where
 e:y.e.length≤PySem.sizeLine
 f:y.f.length≤PySem.sizeLine
 be:zbK w (List.map (λ(x:Ji)=>x) y.e)
 bf:zbK w (List.map (λ(x:Ji)=>x) y.f)
 mt:MtP (bA y w) (bB y w)
 jo:JoP (bA y w) (bB y w)
 o1:OrP (bA y w) (zbR (bA y w) (bB y w)) (m_joined (bA y w) (bB y w))
 o2:OrP (bB y w) (zbR (bA y w) (bB y w)) (m_joined (bA y w) (bB y w))
 t1:zaX (bA y w) (zbR (bA y w) (bB y w)) (m_joined (bA y w) (bB y w))=true
 t2:zaX (bB y w) (zbR (bA y w) (bB y w)) (m_joined (bA y w) (bB y w))=true
 mh:∀ b∈[bA y w,bB y w,zbR (bA y w) (bB y w),m_joined (bA y w) (bB y w)],BkQ b
 so:SoP (bA y w) (bB y w) (zbR (bA y w) (bB y w)) (m_joined (bA y w) (bB y w))
 rp:-(2^63)≤w∧w<2^63
 rl:[(0:Int)].length*w.toNat≤PySem.sizeLine
 ba:∀ {xs:Ji},xs.length≤63->BaP xs w y.e y.f
 n1:∀ {x:Ji},((x.length:Nat):Int)=w->Lat.Bit 120 x->ShP y.a.2 x
 n2:∀ {x:Ji},((x.length:Nat):Int)=w->Lat.Bit 120 x->ShP y.b.2 x
 hm:∀ {x:Ji},((x.length:Nat):Int)=w->Lat.Bit 120 x->ze7 (zbR (bA y w) (bB y w)) x
 tr:∀ {x:Ji},((x.length:Nat):Int)=w->(decide (zcJ (zbR (bA y w) (bB y w)) x=zbV w [(0:Int)]))=(zas y.a.2 y.c x&&zas y.b.2 y.d x)
theorem zhr {xs:Ji} {w:Int} {l r:Jq} (h:BaP xs w l r):∀ t∈m_law_baskets xs w l r,((t.length:Nat):Int)=w∧Lat.Bit 120 t:=by
 have:=zfX (xs:=zct xs (some (3:Int)) (some (9:Int))++[(1:Int)]) (s:=([]:Jq)) (n:=0) (I:=BaJ w) (f:=λs x=>(Let (zbV w [(0:Int)]) (λ(v305:Ji)=>(Let (List.foldl (λ(s306:Ji) (x307:(Int×Ji))=>(Let (zam x x307.1 (2:Int)) (λ(v311:Int)=>(Let (zbU s306 (zan x307.2 v311)) (λ(v312:Ji)=>v312))))) v305 (zdE (l++r))) (λ(r313:Ji)=>(Let (bif (decide ((x%(3:Int))=(1:Int))) then (zbU r313 (List.map (λ(x315:Int)=>(zam x ((12:Int)+x315) (2:Int))) (zbo 0 w.toNat))) else r313) (λ(v318:Ji)=>(Let (bif ((decide ((x%(3:Int))=(2:Int))) && (decide ((0:Int)<((l.length:Nat):Int)))) then (zan (ixD l (0:Int)) ((1:Int)+((x/(3:Int))%(12:Int)))) else v318) (λ(v320:Ji)=>(s++[v320])))))))))) zs1 λi x s hx q=>by rw [Nat.zero_add] at q ⊢;exact zs6 h q
 exact this.2
theorem l64 {y:T6 (Jq×Jq) (Jq×Jq) Ji Ji Jq Jq} {w:Int} (h:T64 y) (hw:w=((y.a.1.length:Nat):Int)):L64 y w:=by
 obtain ⟨W,h1,h4,SA,SB⟩:=h
 have hw:w=(W:Int):=by rw [hw,SA.du.l1]
 subst hw
 have eA:bA y (W:Int)=⟨(W:Int),y.e⟩:=by unfold bA;rw [zib,zkO]
 have eB:bB y (W:Int)=⟨(W:Int),y.f⟩:=by unfold bB;rw [zib,zkO]
 have fA:Few W 5 y.e:=⟨SA.ln,SA.sr⟩
 have fB:Few W 5 y.f:=⟨SB.ln,SB.sr⟩
 have lA:=SA.ln;have lB:=SB.ln
 have fJ:Few W 10 (y.e++y.f):=⟨by rw [List.length_append];omega,λr hr=>(List.mem_append.mp hr).elim (SA.sr r) (SB.sr r)⟩
 have eJ:m_joined ⟨(W:Int),y.e⟩ ⟨(W:Int),y.f⟩=⟨(W:Int),y.e++y.f⟩:=zkO ..
 have hA:∀ r∈y.e,r.length=W:=λr hr=>(SA.sr r hr).1
 have hB:∀ r∈y.f,r.length=W:=λr hr=>(SB.sr r hr).1
 obtain ⟨m1,m2,m3⟩:=zmF (a:=⟨(W:Int),y.e⟩) (b:=⟨(W:Int),y.f⟩) rfl rfl hA hB
 obtain ⟨m4,m5⟩:=zoJ (a:=⟨(W:Int),y.e⟩) (b:=⟨(W:Int),y.f⟩) (bt:=100) (R:=15) rfl rfl (zlu (by omega)) (by show y.e.length+y.f.length≤15;omega) SA.sr SB.sr
 obtain ⟨tt,em⟩:∃ tt,zbR ⟨(W:Int),y.e⟩ ⟨(W:Int),y.f⟩=⟨(W:Int),tt⟩:=⟨_,zi1 (W:=W) rfl rfl⟩
 rw [em] at m1 m2 m3 m5
 have hT:Stp W tt:=⟨m1,m2,m5⟩
 have o1:=zrf h1 h4 fA fJ hT (λs hs=>Lat.SpL.mem (List.mem_append_left _ hs)) λt ht=>((m3 _).mp (Lat.SpL.mem ht)).1
 have o2:=zrf h1 h4 fB fJ hT (λs hs=>Lat.SpL.mem (List.mem_append_right _ hs)) λt ht=>((m3 _).mp (Lat.SpL.mem ht)).2
 have qA:BkQ ⟨(W:Int),y.e⟩:=⟨W,_,rfl,h1,by omega,(fA.mono (by decide)).tr h4,(fA.mono (by decide)).cb h4⟩
 have qB:BkQ ⟨(W:Int),y.f⟩:=⟨W,_,rfl,h1,by omega,(fB.mono (by decide)).tr h4,(fB.mono (by decide)).cb h4⟩
 have qJ:BkQ ⟨(W:Int),y.e++y.f⟩:=⟨W,_,rfl,h1,by omega,fJ.tr h4,(fJ.mono (by decide)).cb h4⟩
 have qM:BkQ ⟨(W:Int),tt⟩:=⟨W,_,rfl,h1,by omega,hT.tr h4,hT.cb h4⟩
 have cM:Lat.clm Lat.MG tt=tt:=Lat.zkG hT.e hT.r
 have pb:∀ {sw:Jq},Few W 5 sw->zbK (W:Int) (List.map (λ(x:Ji)=>x) sw):=λ{sw} hf=>by
  rw [zib]
  exact ⟨by omega,by omega,by have:=hf.1;omega,λs hs=>by rw [(hf.2 s hs).1]⟩
 have sh:∀ {W':Nat} {f:Jq×Jq} {bs:Ji} {sw:Jq} {x:Ji},W'≤4->Sd64 W' f bs sw->Lat.Bit 120 x->ShP f.2 x:=λh4 S hb=>⟨by rw [S.du.l2];omega,S.db,hb.mono (by decide)⟩
 refine ⟨zap (by omega),zap (by omega),pb fA,pb fB,?_,?_,?_,?_,?_,?_,?_,?_,by omega,zap (by rw [List.length_singleton];omega),λhx=>⟨hx,W,rfl,h1,h4,lA,lB,fJ.2⟩,λhx hb=>sh h4 SA hb,λhx hb=>sh h4 SB hb,?_,?_⟩
 ·rw [eA,eB]
  exact ⟨W,100,15,rfl,rfl,by omega,zlu (by omega),by show y.e.length+y.f.length≤15;omega,SA.sr,SB.sr⟩
 ·rw [eA,eB]
  exact ⟨rfl,by show (1:Int)≤(W:Int);omega,by show (W:Int)≤8;omega,by show (y.e++y.f).length≤12;have:=fJ.1;omega,λs hs=>by show (s.length:Int)=(W:Int);rw [(fJ.2 s hs).1]⟩
 ·rw [eA,eB,em,eJ];exact o1.1
 ·rw [eA,eB,em,eJ];exact o2.1
 ·rw [eA,eB,em,eJ];exact o1.2
 ·rw [eA,eB,em,eJ];exact o2.2
 ·rw [eA,eB,em,eJ]
  intro b hb
  simp only [List.mem_cons,List.not_mem_nil,or_false] at hb
  rcases hb with rfl | rfl | rfl | rfl
  ·exact qA
  ·exact qB
  ·exact qM
  ·exact qJ
 ·rw [eA,eB,em,eJ]
  intro q
  rw [Bool.and_eq_true] at q
  obtain ⟨q1,q2⟩:=q
  rw [zfG (n:=W) rfl qA] at q1
  rw [zfG (n:=W) rfl qB] at q2
  have cA:((Lat.clm Lat.MG y.e)).length=W:=by
   refine Classical.byContradiction λz=>?_
   rw [if_neg z] at q1;cases q1
  have cB:((Lat.clm Lat.MG y.f)).length=W:=by
   refine Classical.byContradiction λz=>?_
   rw [if_neg z] at q2;cases q2
  obtain ⟨i1,i2,i3⟩:=zpK hA hB cA cB em
  rw [zfG (n:=W) rfl qA,zfG (n:=W) rfl qB,zfG (n:=W) rfl qM,zfG (n:=W) rfl qJ]
  show ((if (Lat.clm Lat.MG tt).length=W then some (Lat.prd (Lat.hds (Lat.clm Lat.MG tt))) else none)).isSome=true∧((if (Lat.clm Lat.MG (y.e++y.f)).length=W then some (Lat.prd (Lat.hds (Lat.clm Lat.MG (y.e++y.f)))) else none)).isSome=true∧gS (if ((Lat.clm Lat.MG y.e)).length=W then some (Lat.prd (Lat.hds (Lat.clm Lat.MG y.e))) else none)*gS (if ((Lat.clm Lat.MG y.f)).length=W then some (Lat.prd (Lat.hds (Lat.clm Lat.MG y.f))) else none)=gS (if (Lat.clm Lat.MG tt).length=W then some (Lat.prd (Lat.hds (Lat.clm Lat.MG tt))) else none)*gS (if (Lat.clm Lat.MG (y.e++y.f)).length=W then some (Lat.prd (Lat.hds (Lat.clm Lat.MG (y.e++y.f)))) else none)
  rw [cM,if_pos cA,if_pos cB,if_pos i1,if_pos i2]
  exact ⟨rfl,rfl,i3⟩
 ·intro x hx hb
  rw [eA,eB,em]
  have hx:x.length=W:=by omega
  refine ⟨by rw [hx],qM.st,?_⟩
  rw [zeP (n:=W) rfl]
  show Lat.LowP x (Lat.zhB W (Lat.clm Lat.MG (Lat.mark tt)))
  rw [zkW λt ht=>(hT.s t ht).len,cM]
  have:=hT.len
  exact ⟨W,120,27504,by omega,hx,by omega,hb,hT.s,by omega⟩
 ·intro x hx
  have hx:x.length=W:=by omega
  rw [eA,eB,em]
  refine Bool.eq_iff_iff.mpr ?_
  rw [decide_eq_true_iff,Bool.and_eq_true,znz (n:=W) rfl (λt ht=>(hT.s t ht).len) hx,zom SA.du SA.bl SA.b0 hx,zom SB.du SB.bl SB.b0 hx,← SA.sp,← SB.sp]
  exact m3 _
theorem zgz {bs:List BookD} {a b:BookD} (hK:bs=[a]):InB (bs++[b]).length (0:Int)∧InB (bs++[b]).length (1:Int):=by
 rw [hK];unfold InB;simp
theorem zsK {bs:List BookD} {a:BookD} (hK:bs=[a]):bs.length<PySem.sizeLine:=by rw [hK];exact Nat.lt_of_le_of_lt (show 1≤1 by decide) (by decide)
theorem zld {cs:List (Option Int)} {a b c d:BookD} {k:Int} (hC:cs=List.map (λ(x:BookD)=>zaj x) [a,b,c,d]) (hk:0≤k∧k<4):InB cs.length k:=by
 rw [hC];unfold InB;simp only [List.length_map,List.length_cons,List.length_nil];omega
theorem zq4 {b c:BookD} (h1:BkQ b) (h2:BkQ c) (s1:(zaj b).isSome=true) (s2:(zaj c).isSome=true):zdc (gS (zaj b)) (gS (zaj c)):=by
 obtain ⟨x,hx⟩:=Option.isSome_iff_exists.mp s1
 obtain ⟨z,hz⟩:=Option.isSome_iff_exists.mp s2
 rw [hx,hz]
 exact Lat.zdc.of (zki h1 hx) (zki h2 hz) (by decide) (by decide)
section
variable {cs:List (Option Int)} {a b c d:BookD}
theorem ztc (q:((ixD cs (0:Int)).isSome && (ixD cs (1:Int)).isSome)=true):(ixD cs (0:Int)).isSome=true:=(Bool.and_eq_true _ _ ▸ q).1
theorem zsU (q:((ixD cs (0:Int)).isSome && (ixD cs (1:Int)).isSome)=true):(ixD cs (1:Int)).isSome=true:=(Bool.and_eq_true _ _ ▸ q).2
theorem zrS (hC:cs=List.map (λ(x:BookD)=>zaj x) [a,b,c,d]):ixD cs (0:Int)=zaj a∧ixD cs (1:Int)=zaj b∧ixD cs (2:Int)=zaj c∧ixD cs (3:Int)=zaj d:=by rw [hC];exact ⟨rfl,rfl,rfl,rfl⟩
theorem zsZ (h:SoP a b c d) (hC:cs=List.map (λ(x:BookD)=>zaj x) [a,b,c,d]) (q:((ixD cs (0:Int)).isSome && (ixD cs (1:Int)).isSome)=true):(ixD cs (2:Int)).isSome=true:=by
 obtain ⟨e0,e1,e2,e3⟩:=zrS hC
 rw [e0,e1] at q;rw [e2];exact (h q).1
theorem zta (h:SoP a b c d) (hC:cs=List.map (λ(x:BookD)=>zaj x) [a,b,c,d]) (q:((ixD cs (0:Int)).isSome && (ixD cs (1:Int)).isSome)=true):(ixD cs (3:Int)).isSome=true:=by
 obtain ⟨e0,e1,e2,e3⟩:=zrS hC
 rw [e0,e1] at q;rw [e3];exact (h q).2.1
theorem ztk (h:∀ z∈[a,b,c,d],BkQ z) (hC:cs=List.map (λ(x:BookD)=>zaj x) [a,b,c,d]) (q:((ixD cs (0:Int)).isSome && (ixD cs (1:Int)).isSome)=true):zdc (gS (ixD cs (0:Int))) (gS (ixD cs (1:Int))):=by
 have q0:=ztc q;have q1:=zsU q
 obtain ⟨e0,e1,e2,e3⟩:=zrS hC
 rw [e0] at q0 ⊢;rw [e1] at q1 ⊢
 exact zq4 (h _ (by simp)) (h _ (by simp)) q0 q1
theorem ztz (k:SoP a b c d) (h:∀ z∈[a,b,c,d],BkQ z) (hC:cs=List.map (λ(x:BookD)=>zaj x) [a,b,c,d]) (q:((ixD cs (0:Int)).isSome && (ixD cs (1:Int)).isSome)=true):zdc (gS (ixD cs (2:Int))) (gS (ixD cs (3:Int))):=by
 have q0:=zsZ k hC q;have q1:=zta k hC q
 obtain ⟨e0,e1,e2,e3⟩:=zrS hC
 rw [e2] at q0 ⊢;rw [e3] at q1 ⊢
 exact zq4 (h _ (by simp)) (h _ (by simp)) q0 q1
end
def m_law (P0:Ji):Bool :=
 (Let (zbl P0) (λ(p322:(T6 (Jq×Jq) (Jq×Jq) Ji Ji Jq Jq))=>(Let ((p322.a.1.length:Nat):Int) (λ(v323:Int)=>(Let [(m_book_of v323 (List.map (λ(x324:Ji)=>x324) p322.e))] (λ(v327:(List BookD))=>(Let (zbR (ixD (v327++[(m_book_of v323 (List.map (λ(x328:Ji)=>x328) p322.f))]) (0:Int)) (ixD (v327++[(m_book_of v323 (List.map (λ(x328:Ji)=>x328) p322.f))]) (1:Int))) (λ(v331:BookD)=>(Let (m_joined (ixD (v327++[(m_book_of v323 (List.map (λ(x328:Ji)=>x328) p322.f))]) (0:Int)) (ixD (v327++[(m_book_of v323 (List.map (λ(x328:Ji)=>x328) p322.f))]) (1:Int))) (λ(v332:BookD)=>(bif ((!(zaX (ixD (v327++[(m_book_of v323 (List.map (λ(x328:Ji)=>x328) p322.f))]) (0:Int)) v331 v332))||(!(zaX (ixD (v327++[(m_book_of v323 (List.map (λ(x328:Ji)=>x328) p322.f))]) (1:Int)) v331 v332))) then false else (Let (List.map (λ(x334:BookD)=>(zaj x334)) [(ixD (v327++[(m_book_of v323 (List.map (λ(x328:Ji)=>x328) p322.f))]) (0:Int)),(ixD (v327++[(m_book_of v323 (List.map (λ(x328:Ji)=>x328) p322.f))]) (1:Int)),v331,v332]) (λ(v337:(List (Option Int)))=>(bif (((ixD v337 (0:Int))).isSome && ((ixD v337 (1:Int))).isSome) then (bif (!decide (((gS (ixD v337 (0:Int)))*(gS (ixD v337 (1:Int))))=((gS (ixD v337 (2:Int)))*(gS (ixD v337 (3:Int)))))) then false else (Let (zbV v323 [(0:Int)]) (λ(v340:Ji)=>(zjn (zbE (λ(s341:Unit) (x342:Ji)=>(((Let ((zas p322.a.2 p322.c x342) && (zas p322.b.2 p322.d x342)) (λ(hv346:Bool)=>(bif (!decide ((decide ((zcJ v331 x342)=v340))=hv346)) then (Sum.inr false) else (Sum.inl ()))))):(Unit)⊕Bool)) () (m_law_baskets P0 v323 p322.e p322.f)) (λ(r348:Unit)=>true) (λb=>b))))) else (Let (zbV v323 [(0:Int)]) (λ(v349:Ji)=>(zjn (zbE (λ(s350:Unit) (x351:Ji)=>(((Let ((zas p322.a.2 p322.c x351) && (zas p322.b.2 p322.d x351)) (λ(hv355:Bool)=>(bif (!decide ((decide ((zcJ v331 x351)=v349))=hv355)) then (Sum.inr false) else (Sum.inl ()))))):(Unit)⊕Bool)) () (m_law_baskets P0 v323 p322.e p322.f)) (λ(r357:Unit)=>true) (λb=>b))))))))))))))))))
def zjU (P0:Ji):Prop:=P0.length≤63
def zov (K:W.Frag) (A:Adr):Sp:=Spv (ι:=Ji) (λx=>[dQ K (List.map dI x)]) (λx=>zjU x) (λx=>↥[dB (m_law x)])
theorem zdP:FnScope ["_law_script","_law_first","_law_second","_law_one","_law_two_here","_law_left","_law_right","_law_wide","_law_books","_law_both","_law_sums","_law_counts","_law_nothing_here","_law_basket","_law_here"] ["_law_script"] (zad zgH):=⟨rfl,rfl,rfl,by decide+kernel,rfl,by decide+kernel,by decide+kernel⟩
theorem zqt (F:Fun K "law" "law" zgH f fd) (T:Txt K mg A) (yaK:Callee P w K mg base (CXE P w) 3 "_law_baskets" ["_law_script","_law_wide","_law_left","_law_right"] (zd8 K A)) (yau:Callee P w K mg base (CXE P w) 2 "_law_nothing" ["_law_duals","_law_bottoms_here","_law_basket"] (zed K A)) (yaJ:Callee P w K mg base (CXE P w) 9 "_law_order" ["_law_one","_law_both","_law_all_of_both"] (zeW K A)) (ybi:Callee P w K mg base (CXE P w) 3 "_law_two" ["_law_script"] (zgy K A)) (yam:Callee P w K mg base (CXE P w) 3 "book_of" ["many","swaps"] (ze9 K A)) (ycq:Callee P w K mg base (CXE P w) 8 "home" ["book","basket"] (zjW K A)) (yaB:Callee P w K mg base (CXE P w) 4 "joined" ["one","other"] (zf1 K A)) (yaR:Callee P w K mg base (CXE P w) 9 "many_homes" ["book"] (zeA K A)) (ybs:Callee P w K mg base (CXE P w) 6 "met" ["one","other"] (zkz K A)):FnOk P w K mg base (CXE P w) 10 f fd ["_law_script"] (zov K A):=by
 refine F.okV zdP (λ_=>rfl) (λcdv Ar outer s H E P0 hr hp=> ?_)
 have hu:=hr.units
 replace hp:zjU P0:=hp
 unfold zjU at hp
 refine ⟨_,(zac (zhv (zaD ybi (hr.mono (by decide)) rfl zaB ↑[pv 0]) (zbJ (K:=K) (n:=6) rfl rfl (zaF (zao (i:=1) zdP.nd rfl (Or.inl rfl) (Or.inl rfl)) (zaF (zao (i:=2) zdP.nd rfl (Or.inl rfl) (Or.inl rfl)) (zaF (zao (i:=3) zdP.nd rfl (Or.inl rfl) (Or.inl rfl)) (zaF (zao (i:=4) zdP.nd rfl (Or.inl rfl) (Or.inl rfl)) (zaF (zao (i:=5) zdP.nd rfl (Or.inl rfl) (Or.inl rfl)) (zaF (zao (i:=6) zdP.nd rfl (Or.inl rfl) (Or.inl rfl)) zcj)))))))) (zac (zar (i:=7) zdP.nd rfl (Or.inl rfl) (za3 (zaR (K:=K) rfl) rfl T.len PySem.boot_len ↑[(zbk (zch (K:=K) rfl) (pv 1) zai (λ_ _=>rfl))])) (zac (zar (i:=8) zdP.nd rfl (Or.inl rfl) (zcf ↑[(zaD yam (hr.mono (by decide)) rfl zaB ↑[pv 7,(zb0 rfl (.of (osc:=(zad zgH)) (N:=["_law_script","_law_first","_law_second","_law_one","_law_two_here","_law_left","_law_right","_law_wide","_law_books","_law_both","_law_sums","_law_counts","_law_nothing_here","_law_basket","_law_here"]) (own:=["_law_swap"]) (fvn:=[]) (fv:=[]) rfl rfl (by decide+kernel)) (zaP (K:=K) rfl (pv 5)) (λ_ _ _ _ _=>⟨(zao (i:=0) (show (["_law_swap"]:List Str).Nodup by decide+kernel) rfl (Or.inl rfl) (Or.inr rfl)),zbg,(zdQ (zdS (K:=K) rfl) rfl T.list PyProof.Rows.boot_list ↑[pv 0])⟩))])])) (zac (zcG (zbZ (K:=K) rfl (pv 8) ↑[(zaD yam (hr.mono (by decide)) rfl zaB ↑[pv 7,(zb0 rfl (.of (osc:=(zad zgH)) (N:=["_law_script","_law_first","_law_second","_law_one","_law_two_here","_law_left","_law_right","_law_wide","_law_books","_law_both","_law_sums","_law_counts","_law_nothing_here","_law_basket","_law_here"]) (own:=["_law_swap"]) (fvn:=[]) (fv:=[]) rfl rfl (by decide+kernel)) (zaP (K:=K) rfl (pv 6)) (λ_ _ _ _ _=>⟨(zao (i:=0) (show (["_law_swap"]:List Str).Nodup by decide+kernel) rfl (Or.inl rfl) (Or.inr rfl)),zbg,(zdQ (zdS (K:=K) rfl) rfl T.list PyProof.Rows.boot_list ↑[pv 0])⟩))])])) (zac (zar (i:=9) zdP.nd rfl (Or.inl rfl) (zaD ybs (hr.mono (by decide)) rfl zaB ↑[(zbk (zav (K:=K) rfl) (pv 8) zai (λ_ _=>rfl)),(zbk (zav (K:=K) rfl) (pv 8) zai (λ_ _=>rfl))])) (zac (zar (i:=10) zdP.nd rfl (Or.inl rfl) (zaD yaB (hr.mono (by decide)) rfl zaB ↑[(zbk (zav (K:=K) rfl) (pv 8) zai (λ_ _=>rfl)),(zbk (zav (K:=K) rfl) (pv 8) zai (λ_ _=>rfl))])) (zac (zcI (PW.pt (znK (zm1 (zlV (zaD yaJ (hr.mono (by decide)) rfl zaB ↑[(zbk (zav (K:=K) rfl) (pv 8) zai (λ_ _=>rfl)),pv 9,pv 10]))) (zkj (zm1 (zlV (zaD yaJ (hr.mono (by decide)) rfl zaB ↑[(zbk (zav (K:=K) rfl) (pv 8) zai (λ_ _=>rfl)),pv 9,pv 10])))))) (zac (zaN ziY) zag) zag) (zac (zec (i:=11) rfl zdP.nd rfl rfl (.of (osc:=(zad zgH)) (N:=["_law_script","_law_first","_law_second","_law_one","_law_two_here","_law_left","_law_right","_law_wide","_law_books","_law_both","_law_sums","_law_counts","_law_nothing_here","_law_basket","_law_here"]) (own:=["_law_book"]) (fvn:=[]) (fv:=[]) rfl rfl (by decide+kernel)) (zaP (K:=K) rfl (zcf ↑[(zbk (zav (K:=K) rfl) (pv 8) zai (λ_ _=>rfl)),(zbk (zav (K:=K) rfl) (pv 8) zai (λ_ _=>rfl)),pv 9,pv 10])) (λ_ _ _ _ _=>⟨(zao (i:=0) (show (["_law_book"]:List Str).Nodup by decide +kernel) rfl (Or.inl rfl) (Or.inr rfl)),zbg,(zaD yaR (hr.mono (by decide)) rfl zaB ↑[pv 0])⟩)) (zac (zcI (PW.pt (zhL (zaI zgS (zbk (zav (K:=K) rfl) (pv 11) zai (λ_ _=>rfl)) zfv (zaQ _)) (zgw (zaI zgS (zbk (zav (K:=K) rfl) (pv 11) zai (λ_ _=>rfl)) zfv (zaQ _))))) (zac (zcI (zaI zgq (zax zbj (zbk (zav (K:=K) rfl) (pv 11) zai (λ_ _=>rfl)) (zbk (zav (K:=K) rfl) (pv 11) zai (λ_ _=>rfl))) (zax zbj (zbk (zav (K:=K) rfl) (pv 11) zai (λ_ _=>rfl)) (zbk (zav (K:=K) rfl) (pv 11) zai (λ_ _=>rfl))) (zaQ _)) (zac (zaN ziY) zag) zag) zag) zag) (zac (zar (i:=12) zdP.nd rfl (Or.inl rfl) (zax zh0 (zcf ↑[zai]) (pv 7))) (zac (zcE PassesOwn.never rfl (zaP (K:=K) rfl (zaD yaK (hr.mono (by decide)) rfl zaB ↑[pv 0,pv 7,pv 5,pv 6])) (zao (i:=13) zdP.nd rfl (Or.inl rfl) (Or.inl rfl)) (zac (zar (i:=14) zdP.nd rfl (Or.inl rfl) (zox (zaD yau (hr.mono (by decide)) rfl zaB ↑[(zbk (zch (K:=K) rfl) (pv 1) zai (λ_ _=>rfl)),pv 3,pv 13]) (zoz (zaD yau (hr.mono (by decide)) rfl zaB ↑[(zbk (zch (K:=K) rfl) (pv 2) zai (λ_ _=>rfl)),pv 4,pv 13])))) (zac (zcI (zaI zgq (zhq (zo6 (K:=K) rfl hu) (zaD ycq (hr.mono (by decide)) rfl zaB ↑[pv 9,pv 13]) (pv 12) (zaQ _)) (pv 14) (zaQ _)) (zac (zaN ziY) zag) zag) zag))) (zac (zaN ziY) zag)))))))))))),.inl ?_⟩
 show L2.Run _ ([⇑[dQ K (List.map dI P0)],.no,.no,.no,.no,.no,.no,.no,.no,.no,.no,.no,.no,.no,.no]:L2.Ctx) _ ((λ(r:Bool)=>Oc.rt true (dB r)) (m_law P0))
 unfold m_law
 exact (zjj (m:=true) (x:=(zbl P0)) (λ(p322:(T6 (Jq×Jq) (Jq×Jq) Ji Ji Jq Jq))=>dT [dL (List.map lI p322.a.1),dL (List.map lI p322.a.2)]) (λ(p322:(T6 (Jq×Jq) (Jq×Jq) Ji Ji Jq Jq))=>dT [dL (List.map lI p322.b.1),dL (List.map lI p322.b.2)]) (λ(p322:(T6 (Jq×Jq) (Jq×Jq) Ji Ji Jq Jq))=>dL (List.map dI p322.c)) (λ(p322:(T6 (Jq×Jq) (Jq×Jq) Ji Ji Jq Jq))=>dL (List.map dI p322.d)) (λ(p322:(T6 (Jq×Jq) (Jq×Jq) Ji Ji Jq Jq))=>dL (List.map lI p322.e)) (λ(p322:(T6 (Jq×Jq) (Jq×Jq) Ji Ji Jq Jq))=>dL (List.map lI p322.f)) (λ(r:Bool)=>Oc.rt true (dB r)) (zal (x:=P0) (zab (zaa (i:=0) rfl) zae) rfl (by show zeE P0;exact hp) rfl) (λp322 hp322=>have hT:=zot hp hp322;(zaq (m:=true) (x:=((p322.a.1.length:Nat):Int)) dI (λ(r:Bool)=>Oc.rt true (dB r)) (zco (f:=lI) (xs:=p322.a.1) (Ev.old (Ev.weak (K:=K) (zdD (zaa (i:=1) rfl) zaL rfl)))) (λv323 hv323=>have hL:=l64 hT hv323;(zez (m:=true) (x:=[(m_book_of v323 (List.map (λ(x324:Ji)=>x324) p322.e))]) (λz=>List.map (zaK A.Book) z) (λ(r:Bool)=>Oc.rt true (dB r)) (zc5 (zab (zal (x:=(v323,(List.map (λ(x324:Ji)=>x324) p322.e))) (zab (Ev.any (m:=true) (zaa (i:=7) rfl)) (zab (Ev.weak (K:=K) (EvO.ev (EvO.conv (zb5 (g:=(λ(x324:Ji)=>dL (List.map dI x324))) (zbi (m:=true) lI (xs:=p322.e) (Ev.weak (K:=K) (zaa (i:=5) rfl))) ↥(hL.e) ⟨by decide,by decide⟩ (λi325 x324 hx326=>have v326:=List.mem_of_getElem? hx326;(EvO.ev (EvO.anyI (m:=true) (zg3 (Ev.weak (K:=K) (zaa (i:=0) rfl))))))) (by first|(rw [List.map_map];rfl)|(simp only [cond_true,cond_false];rw [List.map_map];rfl))))) zae)) rfl (by show zbK v323 (List.map (λ(x324:Ji)=>x324) p322.e);exact hL.be) rfl) zae) (by show 1≤sizeLine;decide)) (λv327 hv327=>have hK:=hv327;(zb1 (f:=(zaK A.Book)) (xs:=v327) (x:=(m_book_of v323 (List.map (λ(x328:Ji)=>x328) p322.f))) rfl (zal (x:=(v323,(List.map (λ(x328:Ji)=>x328) p322.f))) (zab (Ev.any (m:=true) (zaa (i:=7) rfl)) (zab (Ev.weak (K:=K) (EvO.ev (EvO.conv (zb5 (g:=(λ(x328:Ji)=>dL (List.map dI x328))) (zbi (m:=true) lI (xs:=p322.f) (Ev.weak (K:=K) (zaa (i:=6) rfl))) ↥(hL.f) ⟨by decide,by decide⟩ (λi329 x328 hx330=>have v330:=List.mem_of_getElem? hx330;(EvO.ev (EvO.anyI (m:=true) (zg3 (Ev.weak (K:=K) (zaa (i:=0) rfl))))))) (by first|(rw [List.map_map];rfl)|(simp only [cond_true,cond_false];rw [List.map_map];rfl))))) zae)) rfl (by show zbK v323 (List.map (λ(x328:Ji)=>x328) p322.f);exact hL.bf) rfl) ↥(zsK hK) (zaq (m:=true) (x:=(zbR (ixD (v327++[(m_book_of v323 (List.map (λ(x328:Ji)=>x328) p322.f))]) (0:Int)) (ixD (v327++[(m_book_of v323 (List.map (λ(x328:Ji)=>x328) p322.f))]) (1:Int)))) (zaK A.Book) (λ(r:Bool)=>Oc.rt true (dB r)) (zal (x:=((ixD (v327++[(m_book_of v323 (List.map (λ(x328:Ji)=>x328) p322.f))]) (0:Int)),(ixD (v327++[(m_book_of v323 (List.map (λ(x328:Ji)=>x328) p322.f))]) (1:Int)))) (zab (Ev.old (zbI (f:=(zaK A.Book)) (xs:=(v327++[(m_book_of v323 (List.map (λ(x328:Ji)=>x328) p322.f))])) rfl zaL ↥((zgz hK).1))) (zab (Ev.old (zbI (f:=(zaK A.Book)) (xs:=(v327++[(m_book_of v323 (List.map (λ(x328:Ji)=>x328) p322.f))])) rfl zaL ↥((zgz hK).2))) zae)) rfl (by show zgT (ixD (v327++[(m_book_of v323 (List.map (λ(x328:Ji)=>x328) p322.f))]) (0:Int)) (ixD (v327++[(m_book_of v323 (List.map (λ(x328:Ji)=>x328) p322.f))]) (1:Int));cases hK;exact hL.mt) rfl) (λv331 hv331=>have hB:=hv331;(zaq (m:=true) (x:=(m_joined (ixD (v327++[(m_book_of v323 (List.map (λ(x328:Ji)=>x328) p322.f))]) (0:Int)) (ixD (v327++[(m_book_of v323 (List.map (λ(x328:Ji)=>x328) p322.f))]) (1:Int)))) (zaK A.Book) (λ(r:Bool)=>Oc.rt true (dB r)) (zal (x:=((ixD (v327++[(m_book_of v323 (List.map (λ(x328:Ji)=>x328) p322.f))]) (0:Int)),(ixD (v327++[(m_book_of v323 (List.map (λ(x328:Ji)=>x328) p322.f))]) (1:Int)))) (zab (Ev.old (zbI (f:=(zaK A.Book)) (xs:=(v327++[(m_book_of v323 (List.map (λ(x328:Ji)=>x328) p322.f))])) rfl zaL ↥((zgz hK).1))) (zab (Ev.old (zbI (f:=(zaK A.Book)) (xs:=(v327++[(m_book_of v323 (List.map (λ(x328:Ji)=>x328) p322.f))])) rfl zaL ↥((zgz hK).2))) zae)) rfl (by show zeg (ixD (v327++[(m_book_of v323 (List.map (λ(x328:Ji)=>x328) p322.f))]) (0:Int)) (ixD (v327++[(m_book_of v323 (List.map (λ(x328:Ji)=>x328) p322.f))]) (1:Int));cases hK;exact hL.jo) rfl) (λv332 hv332=>have hJ:=hv332;(zbc (b:=((!(zaX (ixD (v327++[(m_book_of v323 (List.map (λ(x328:Ji)=>x328) p322.f))]) (0:Int)) v331 v332))||(!(zaX (ixD (v327++[(m_book_of v323 (List.map (λ(x328:Ji)=>x328) p322.f))]) (1:Int)) v331 v332)))) (λ(r:Bool)=>Oc.rt true (dB r)) (zkR (b:=(!(zaX (ixD (v327++[(m_book_of v323 (List.map (λ(x328:Ji)=>x328) p322.f))]) (0:Int)) v331 v332))) (zj6 (zjD (Ev.any (m:=true) (zal (x:=((ixD (v327++[(m_book_of v323 (List.map (λ(x328:Ji)=>x328) p322.f))]) (0:Int)),v331,v332)) (zab (Ev.old (zbI (f:=(zaK A.Book)) (xs:=(v327++[(m_book_of v323 (List.map (λ(x328:Ji)=>x328) p322.f))])) rfl zaL ↥((zgz hK).1))) (zab (Ev.old (zaa (i:=9) rfl)) (zab (Ev.old (zaa (i:=10) rfl)) zae))) rfl (by show zc4 (ixD (v327++[(m_book_of v323 (List.map (λ(x328:Ji)=>x328) p322.f))]) (0:Int)) v331 v332;cases hK;cases hB;cases hJ;exact hL.o1) rfl)))) (λhb=>(zj6 (zjD (Ev.any (m:=true) (zal (x:=((ixD (v327++[(m_book_of v323 (List.map (λ(x328:Ji)=>x328) p322.f))]) (1:Int)),v331,v332)) (zab (Ev.old (zbI (f:=(zaK A.Book)) (xs:=(v327++[(m_book_of v323 (List.map (λ(x328:Ji)=>x328) p322.f))])) rfl zaL ↥((zgz hK).2))) (zab (Ev.old (zaa (i:=9) rfl)) (zab (Ev.old (zaa (i:=10) rfl)) zae))) rfl (by show zc4 (ixD (v327++[(m_book_of v323 (List.map (λ(x328:Ji)=>x328) p322.f))]) (1:Int)) v331 v332;cases hK;cases hB;cases hJ;exact hL.o2) rfl)))))) (λh333=>(zaG (zak (zaC zaL)))) (λh333=>(zaz (zaq (m:=true) (x:=(List.map (λ(x334:BookD)=>(zaj x334)) [(ixD (v327++[(m_book_of v323 (List.map (λ(x328:Ji)=>x328) p322.f))]) (0:Int)),(ixD (v327++[(m_book_of v323 (List.map (λ(x328:Ji)=>x328) p322.f))]) (1:Int)),v331,v332])) (λ(xs:(List (Option Int)))=>dL (List.map (dOpt dI) xs)) (λ(r:Bool)=>Oc.rt true (dB r)) (EvO.ev (EvO.conv (zb5 (g:=(λ(x334:BookD)=>dOpt dI (zaj x334))) (zbi (m:=true) (zaK A.Book) (xs:=[(ixD (v327++[(m_book_of v323 (List.map (λ(x328:Ji)=>x328) p322.f))]) (0:Int)),(ixD (v327++[(m_book_of v323 (List.map (λ(x328:Ji)=>x328) p322.f))]) (1:Int)),v331,v332]) (Ev.weak (K:=K) (EvO.ev (zc5 (zab (zbI (f:=(zaK A.Book)) (xs:=(v327++[(m_book_of v323 (List.map (λ(x328:Ji)=>x328) p322.f))])) rfl zaL ↥((zgz hK).1)) (zab (zbI (f:=(zaK A.Book)) (xs:=(v327++[(m_book_of v323 (List.map (λ(x328:Ji)=>x328) p322.f))])) rfl zaL ↥((zgz hK).2)) (zab (zaa (i:=9) rfl) (zab (zaa (i:=10) rfl) zae)))) (by show 4≤sizeLine;decide))))) ↥(zap (by show 4≤10000;decide)) ⟨by decide,by decide⟩ (λi335 x334 hx336=>have v336:=List.mem_of_getElem? hx336;(zal (x:=x334) (zab (Ev.old (zaa (i:=0) rfl)) zae) rfl (by show zdl x334;cases hK;cases hB;cases hJ;exact hL.mh _ (by assumption)) rfl))) (by first|(rw [List.map_map];rfl)|(simp only [cond_true,cond_false];rw [List.map_map];rfl)))) (λv337 hv337=>have hC:=hv337;(zbc (b:=(((ixD v337 (0:Int))).isSome && ((ixD v337 (1:Int))).isSome)) (λ(r:Bool)=>Oc.rt true (dB r)) (zgk (b:=((ixD v337 (0:Int))).isSome) (zau (zds (x:=(ixD v337 (0:Int))) (f:=dI) (Ev.old (zci (f:=(dOpt dI)) (xs:=v337) (Ev.weak (K:=K) (zaa (i:=11) rfl)) zaL ↥(zld hC (by decide)))) zaL NN.int)) (λhb=>(zau (zds (x:=(ixD v337 (1:Int))) (f:=dI) (Ev.old (zci (f:=(dOpt dI)) (xs:=v337) (Ev.weak (K:=K) (zaa (i:=11) rfl)) zaL ↥(zld hC (by decide)))) zaL NN.int)))) (λh338=>(zaG (zbc (b:=(!decide (((gS (ixD v337 (0:Int)))*(gS (ixD v337 (1:Int))))=((gS (ixD v337 (2:Int)))*(gS (ixD v337 (3:Int))))))) (λ(r:Bool)=>Oc.rt true (dB r)) (zau (zeK (x:=((gS (ixD v337 (0:Int)))*(gS (ixD v337 (1:Int))))) (y:=((gS (ixD v337 (2:Int)))*(gS (ixD v337 (3:Int))))) (zaJ (x:=(gS (ixD v337 (0:Int)))) (y:=(gS (ixD v337 (1:Int)))) (Ev.old (ev_some (f:=dI) (x:=(ixD v337 (0:Int))) (zci (f:=(dOpt dI)) (xs:=v337) (Ev.weak (K:=K) (zaa (i:=11) rfl)) zaL ↥(zld hC (by decide))) ↥(ztc (by with_reducible assumption)))) (Ev.old (ev_some (f:=dI) (x:=(ixD v337 (1:Int))) (zci (f:=(dOpt dI)) (xs:=v337) (Ev.weak (K:=K) (zaa (i:=11) rfl)) zaL ↥(zld hC (by decide))) ↥(zsU (by with_reducible assumption)))) (by cases hK;cases hB;cases hJ;exact ztk hL.mh hC (by with_reducible assumption))) (zaJ (x:=(gS (ixD v337 (2:Int)))) (y:=(gS (ixD v337 (3:Int)))) (Ev.old (ev_some (f:=dI) (x:=(ixD v337 (2:Int))) (zci (f:=(dOpt dI)) (xs:=v337) (Ev.weak (K:=K) (zaa (i:=11) rfl)) zaL ↥(zld hC (by decide))) (by cases hK;cases hB;cases hJ;exact zsZ hL.so hC (by with_reducible assumption)))) (Ev.old (ev_some (f:=dI) (x:=(ixD v337 (3:Int))) (zci (f:=(dOpt dI)) (xs:=v337) (Ev.weak (K:=K) (zaa (i:=11) rfl)) zaL ↥(zld hC (by decide))) (by cases hK;cases hB;cases hJ;exact zta hL.so hC (by with_reducible assumption)))) (by cases hK;cases hB;cases hJ;exact ztz hL.so hL.mh hC (by with_reducible assumption))))) (λh339=>(zaG (zak (zaC zaL)))) (λh339=>(zaz (zaz (zaq (m:=true) (x:=(zbV v323 [(0:Int)])) lI (λ(r:Bool)=>Oc.rt true (dB r)) (EvO.ev (zfJ (f:=dI) (xs:=[(0:Int)]) (n:=v323) (EvO.ev (zc5 (zab zaL zae) (by show 1≤sizeLine;decide))) (Ev.any (m:=true) (zaa (i:=7) rfl)) ↥(hL.rp) ↥(hL.rl))) (λv340 hv340=>have hN:=hv340;(zfa (s0:=()) (λ(s341:Unit)=>([⇑[dQ K (List.map dI P0)],↥[dT [dL (List.map lI p322.a.1),dL (List.map lI p322.a.2)]],↥[dT [dL (List.map lI p322.b.1),dL (List.map lI p322.b.2)]],↥[dL (List.map dI p322.c)],↥[dL (List.map dI p322.d)],↥[dL (List.map lI p322.e)],↥[dL (List.map lI p322.f)],↥[dI v323],.ow true (List.map (zaK A.Book) (v327++[(m_book_of v323 (List.map (λ(x328:Ji)=>x328) p322.f))])),↥[zaK A.Book v331],↥[zaK A.Book v332],↥[dL (List.map (dOpt dI) v337)],↥[dL (List.map dI v340)],.no,.no]:L2.Ctx)) (λ(r:Bool)=>Oc.rt true (dB r)) (λb=>b) (λ(s341:Unit) (x342:Ji)=>(((Let ((zas p322.a.2 p322.c x342) && (zas p322.b.2 p322.d x342)) (λ(hv346:Bool)=>(bif (!decide ((decide ((zcJ v331 x342)=v340))=hv346)) then (Sum.inr false) else (Sum.inl ()))))):(Unit)⊕Bool)) (λ_ _=>True) (λb=> .inl ⟨_,_,rfl⟩) (zbi (m:=true) lI (xs:=(m_law_baskets P0 v323 p322.e p322.f)) (Ev.weak (K:=K) (zal (x:=(P0,v323,p322.e,p322.f)) (zab (zaa (i:=0) rfl) (zab (Ev.any (m:=true) (zaa (i:=7) rfl)) (zab (Ev.old (zaa (i:=5) rfl)) (zab (Ev.old (zaa (i:=6) rfl)) zae)))) rfl (by show zcr P0 v323 p322.e p322.f;exact hL.ba hp) rfl))) (.eq (.eq (.eq (.eq (.eq (.eq (.eq (.eq (.eq (.eq (.eq (.eq (.eq (.eq (.eq .nil))))))))))))))) trivial (λi343 x342 s341 hx344 hI345=>have v344:=List.mem_of_getElem? hx344;⟨(λ_ _=>trivial),(zaq (m:=true) (x:=((zas p322.a.2 p322.c x342)&&(zas p322.b.2 p322.d x342))) dB (zf7 (λ(s341:Unit)=>([⇑[dQ K (List.map dI P0)],↥[dT [dL (List.map lI p322.a.1),dL (List.map lI p322.a.2)]],↥[dT [dL (List.map lI p322.b.1),dL (List.map lI p322.b.2)]],↥[dL (List.map dI p322.c)],↥[dL (List.map dI p322.d)],↥[dL (List.map lI p322.e)],↥[dL (List.map lI p322.f)],↥[dI v323],.ow true (List.map (zaK A.Book) (v327++[(m_book_of v323 (List.map (λ(x328:Ji)=>x328) p322.f))])),↥[zaK A.Book v331],↥[zaK A.Book v332],↥[dL (List.map (dOpt dI) v337)],↥[dL (List.map dI v340)],.no,.no]:L2.Ctx)) (λ(r:Bool)=>Oc.rt true (dB r))) (zlF (b:=(zas p322.a.2 p322.c x342)) (Ev.any (m:=true) (zal (x:=(p322.a.2,p322.c,x342)) (zab (Ev.old (Ev.weak (K:=K) (zdD (zaa (i:=1) rfl) zaL rfl))) (zab (Ev.old (Ev.weak (K:=K) (zaa (i:=3) rfl))) (zab (Ev.old (Ev.weak (K:=K) (zaa (i:=13) rfl))) zae))) rfl (by show zbB p322.a.2 p322.c x342;have z:=zhr (hL.ba hp) _ (List.mem_of_getElem? (by assumption));exact hL.n1 z.1 z.2) rfl)) (λhb=>(Ev.any (m:=true) (zal (x:=(p322.b.2,p322.d,x342)) (zab (Ev.old (Ev.weak (K:=K) (zdD (zaa (i:=2) rfl) zaL rfl))) (zab (Ev.old (Ev.weak (K:=K) (zaa (i:=4) rfl))) (zab (Ev.old (Ev.weak (K:=K) (zaa (i:=13) rfl))) zae))) rfl (by show zbB p322.b.2 p322.d x342;have z:=zhr (hL.ba hp) _ (List.mem_of_getElem? (by assumption));exact hL.n2 z.1 z.2) rfl)))) (λhv346 hhere346=>have hH:=hhere346;(zbc (b:=(!decide ((decide ((zcJ v331 x342)=v340))=hv346))) (zf7 (λ(s341:Unit)=>([⇑[dQ K (List.map dI P0)],↥[dT [dL (List.map lI p322.a.1),dL (List.map lI p322.a.2)]],↥[dT [dL (List.map lI p322.b.1),dL (List.map lI p322.b.2)]],↥[dL (List.map dI p322.c)],↥[dL (List.map dI p322.d)],↥[dL (List.map lI p322.e)],↥[dL (List.map lI p322.f)],↥[dI v323],.ow true (List.map (zaK A.Book) (v327++[(m_book_of v323 (List.map (λ(x328:Ji)=>x328) p322.f))])),↥[zaK A.Book v331],↥[zaK A.Book v332],↥[dL (List.map (dOpt dI) v337)],↥[dL (List.map dI v340)],.no,.no]:L2.Ctx)) (λ(r:Bool)=>Oc.rt true (dB r))) (zau (zoP (x:=(decide ((zcJ v331 x342)=v340))) (y:=hv346) (zoj (n:=0) (neg:=false) (xs:=(zcJ v331 x342)) (ys:=v340) EqD.int (Ev.old (Ev.weak (K:=K) (zal (x:=(v331,x342)) (zab (Ev.old (zaa (i:=9) rfl)) (zab (Ev.old (Ev.weak (K:=K) (zaa (i:=13) rfl))) zae)) rfl (by show ze7 v331 x342;cases hK;cases hB;have z:=zhr (hL.ba hp) _ (List.mem_of_getElem? (by assumption));exact hL.hm z.1 z.2) rfl))) (Ev.old (Ev.weak (K:=K) (zaa (i:=12) rfl)))) (Ev.any (m:=true) (zaa (i:=14) rfl)))) (λh347=>(zaG (zak (zaC zaL)))) (λh347=>(zaz (zat (.eq (.eq (.eq (.eq (.eq (.eq (.eq (.eq (.eq (.eq (.eq (.eq (.eq (.no (.no .nil)))))))))))))))))))))⟩) (λr348 hr348 hI=>(zak (zaC zaL)))))))))))) (λh338=>(zaz (zaq (m:=true) (x:=(zbV v323 [(0:Int)])) lI (λ(r:Bool)=>Oc.rt true (dB r)) (EvO.ev (zfJ (f:=dI) (xs:=[(0:Int)]) (n:=v323) (EvO.ev (zc5 (zab zaL zae) (by show 1≤sizeLine;decide))) (Ev.any (m:=true) (zaa (i:=7) rfl)) ↥(hL.rp) ↥(hL.rl))) (λv349 hv349=>have hN:=hv349;(zfa (s0:=()) (λ(s350:Unit)=>([⇑[dQ K (List.map dI P0)],↥[dT [dL (List.map lI p322.a.1),dL (List.map lI p322.a.2)]],↥[dT [dL (List.map lI p322.b.1),dL (List.map lI p322.b.2)]],↥[dL (List.map dI p322.c)],↥[dL (List.map dI p322.d)],↥[dL (List.map lI p322.e)],↥[dL (List.map lI p322.f)],↥[dI v323],.ow true (List.map (zaK A.Book) (v327++[(m_book_of v323 (List.map (λ(x328:Ji)=>x328) p322.f))])),↥[zaK A.Book v331],↥[zaK A.Book v332],↥[dL (List.map (dOpt dI) v337)],↥[dL (List.map dI v349)],.no,.no]:L2.Ctx)) (λ(r:Bool)=>Oc.rt true (dB r)) (λb=>b) (λ(s350:Unit) (x351:Ji)=>(((Let ((zas p322.a.2 p322.c x351) && (zas p322.b.2 p322.d x351)) (λ(hv355:Bool)=>(bif (!decide ((decide ((zcJ v331 x351)=v349))=hv355)) then (Sum.inr false) else (Sum.inl ()))))):(Unit)⊕Bool)) (λ_ _=>True) (λb=> .inl ⟨_,_,rfl⟩) (zbi (m:=true) lI (xs:=(m_law_baskets P0 v323 p322.e p322.f)) (Ev.weak (K:=K) (zal (x:=(P0,v323,p322.e,p322.f)) (zab (zaa (i:=0) rfl) (zab (Ev.any (m:=true) (zaa (i:=7) rfl)) (zab (Ev.old (zaa (i:=5) rfl)) (zab (Ev.old (zaa (i:=6) rfl)) zae)))) rfl (by show zcr P0 v323 p322.e p322.f;exact hL.ba hp) rfl))) (.eq (.eq (.eq (.eq (.eq (.eq (.eq (.eq (.eq (.eq (.eq (.eq (.eq (.eq (.eq .nil))))))))))))))) trivial (λi352 x351 s350 hx353 hI354=>have v353:=List.mem_of_getElem? hx353;⟨(λ_ _=>trivial),(zaq (m:=true) (x:=((zas p322.a.2 p322.c x351)&&(zas p322.b.2 p322.d x351))) dB (zf7 (λ(s350:Unit)=>([⇑[dQ K (List.map dI P0)],↥[dT [dL (List.map lI p322.a.1),dL (List.map lI p322.a.2)]],↥[dT [dL (List.map lI p322.b.1),dL (List.map lI p322.b.2)]],↥[dL (List.map dI p322.c)],↥[dL (List.map dI p322.d)],↥[dL (List.map lI p322.e)],↥[dL (List.map lI p322.f)],↥[dI v323],.ow true (List.map (zaK A.Book) (v327++[(m_book_of v323 (List.map (λ(x328:Ji)=>x328) p322.f))])),↥[zaK A.Book v331],↥[zaK A.Book v332],↥[dL (List.map (dOpt dI) v337)],↥[dL (List.map dI v349)],.no,.no]:L2.Ctx)) (λ(r:Bool)=>Oc.rt true (dB r))) (zlF (b:=(zas p322.a.2 p322.c x351)) (Ev.any (m:=true) (zal (x:=(p322.a.2,p322.c,x351)) (zab (Ev.old (Ev.weak (K:=K) (zdD (zaa (i:=1) rfl) zaL rfl))) (zab (Ev.old (Ev.weak (K:=K) (zaa (i:=3) rfl))) (zab (Ev.old (Ev.weak (K:=K) (zaa (i:=13) rfl))) zae))) rfl (by show zbB p322.a.2 p322.c x351;have z:=zhr (hL.ba hp) _ (List.mem_of_getElem? (by assumption));exact hL.n1 z.1 z.2) rfl)) (λhb=>(Ev.any (m:=true) (zal (x:=(p322.b.2,p322.d,x351)) (zab (Ev.old (Ev.weak (K:=K) (zdD (zaa (i:=2) rfl) zaL rfl))) (zab (Ev.old (Ev.weak (K:=K) (zaa (i:=4) rfl))) (zab (Ev.old (Ev.weak (K:=K) (zaa (i:=13) rfl))) zae))) rfl (by show zbB p322.b.2 p322.d x351;have z:=zhr (hL.ba hp) _ (List.mem_of_getElem? (by assumption));exact hL.n2 z.1 z.2) rfl)))) (λhv355 hhere355=>have hH:=hhere355;(zbc (b:=(!decide ((decide ((zcJ v331 x351)=v349))=hv355))) (zf7 (λ(s350:Unit)=>([⇑[dQ K (List.map dI P0)],↥[dT [dL (List.map lI p322.a.1),dL (List.map lI p322.a.2)]],↥[dT [dL (List.map lI p322.b.1),dL (List.map lI p322.b.2)]],↥[dL (List.map dI p322.c)],↥[dL (List.map dI p322.d)],↥[dL (List.map lI p322.e)],↥[dL (List.map lI p322.f)],↥[dI v323],.ow true (List.map (zaK A.Book) (v327++[(m_book_of v323 (List.map (λ(x328:Ji)=>x328) p322.f))])),↥[zaK A.Book v331],↥[zaK A.Book v332],↥[dL (List.map (dOpt dI) v337)],↥[dL (List.map dI v349)],.no,.no]:L2.Ctx)) (λ(r:Bool)=>Oc.rt true (dB r))) (zau (zoP (x:=(decide ((zcJ v331 x351)=v349))) (y:=hv355) (zoj (n:=0) (neg:=false) (xs:=(zcJ v331 x351)) (ys:=v349) EqD.int (Ev.old (Ev.weak (K:=K) (zal (x:=(v331,x351)) (zab (Ev.old (zaa (i:=9) rfl)) (zab (Ev.old (Ev.weak (K:=K) (zaa (i:=13) rfl))) zae)) rfl (by show ze7 v331 x351;cases hK;cases hB;have z:=zhr (hL.ba hp) _ (List.mem_of_getElem? (by assumption));exact hL.hm z.1 z.2) rfl))) (Ev.old (Ev.weak (K:=K) (zaa (i:=12) rfl)))) (Ev.any (m:=true) (zaa (i:=14) rfl)))) (λh356=>(zaG (zak (zaC zaL)))) (λh356=>(zaz (zat (.eq (.eq (.eq (.eq (.eq (.eq (.eq (.eq (.eq (.eq (.eq (.eq (.eq (.no (.no .nil)))))))))))))))))))))⟩) (λr357 hr357 hI=>(zak (zaC zaL)))))))))))))))))))))))))
theorem zhK {α β:Type} {x:α} {f:α->β} {b:β} (h:∀ y,y=x->f y=b):Let x f=b:=h x rfl
theorem znU (xs:Ji) (hp:xs.length≤63):m_law xs=true:=by
 unfold m_law
 refine zhK λy hy=>zhK λw hw=>?_
 have hL:=l64 (zot hp hy) hw
 have lp:zjn (zbE (λ(_:Unit) (x:Ji)=>(((Let ((zas y.a.2 y.c x)&&(zas y.b.2 y.d x)) (λ(here:Bool)=>(bif (!decide ((decide ((zcJ (zbR (bA y w) (bB y w)) x)=zbV w [(0:Int)]))=here)) then (Sum.inr false) else (Sum.inl ()))))):(Unit) ⊕ Bool)) () (m_law_baskets xs w y.e y.f)) (λ(_:Unit)=>true) (λb=>b)=true:=by
  rw [zgs λx hx=>?_]
  ·rfl
  ·unfold Let
   rw [hL.tr (zhr (hL.ba hp) x hx).1]
   simp
 refine zhK λbk hK=>?_
 subst hK
 refine zhK λM hM=>zhK λJ hJ=>?_
 have hM:M=zbR (bA y w) (bB y w):=hM
 have hJ:J=m_joined (bA y w) (bB y w):=hJ
 subst hM hJ
 show (bif ((!(zaX (bA y w) (zbR (bA y w) (bB y w)) (m_joined (bA y w) (bB y w))))||(!(zaX (bB y w) (zbR (bA y w) (bB y w)) (m_joined (bA y w) (bB y w))))) then false else _)=true
 have cf:∀ x:Bool,(bif (!true||!true) then false else x)=x:=λ_=>rfl
 rw [hL.t1,hL.t2,cf]
 refine zhK λcs hC=>?_
 subst hC
 show (bif ((zaj (bA y w)).isSome && (zaj (bB y w)).isSome) then (bif (!decide (gS (zaj (bA y w))*gS (zaj (bB y w))=gS (zaj (zbR (bA y w) (bB y w)))*gS (zaj (m_joined (bA y w) (bB y w))))) then false else _) else _)=true
 cases q:((zaj (bA y w)).isSome && (zaj (bB y w)).isSome) with
 | false=>exact lp
 | true =>
  rw [cond_true,decide_eq_true (hL.so q).2.2]
  exact lp
def zn3 (K:W.Frag):Sp:=λvs H Q _=>∃ (a:Addr) (ns:Ji),vs=[.ref a]∧SqL K H a (ns.map V.int)∧ns.length≤63∧∀ H',Q (.bl true) H'
theorem zq6 {K:W.Frag} {A:Adr} {vs:List V} {H:Hp} {Q:VK} {E:XK} (h:zn3 K vs H Q E):zov K A vs H Q E:=by
 obtain ⟨a,ns,rfl,hS,hl,q⟩:=h
 refine ⟨ns,H,Same.refl _,.cons ⟨a,_,rfl,hS,?_⟩ .nil,hl,λv F' H' _ hv=>?_⟩
 ·clear hS hl
  induction ns with
  | nil=>exact .nil
  | cons n ns ih=>exact .cons rfl ih
 ·have hv:v=.bl (m_law ns):=hv
  rw [hv,znU ns hl]
  exact q _
theorem zqT {l:W.OpenLaw} {w:World} {K:W.Frag} {h:Heap} {mg:Str->Option Value} {fa f0 f1 f2 f3 f4 f5 f6 f7 f8 f9 f10 f11 f12 f13 f14 f15 f16 f17 f18 f19 f20 f21 f22 f23 f24 f25 f26 f27 f28 f29 f30 f31 f32 f33 f34 f35 f36 f37 f38 f39 f40 f41 f42 f43 f44 f45 yak yao yav yar yaf :Addr} (X:K.In h) (G:h.Ns mainGlobals mg) (hfa:mg "law"=some (.ref fa))
  {od0 an0 od1 an1 od2 an2 od3 an3 od4 an4 od5 an5 od6 an6 od7 an7 od8 an8 od9 an9 od10 an10 od11 an11 od12 an12 od13 an13 od14 an14 od15 an15 od16 an16 od17 an17 od18 an18 od19 an19 od20 an20 od21 an21 od22 an22 od23 an23 od24 an24 od25 an25 od26 an26 od27 an27 od28 an28 od29 an29 od30 an30 od31 an31 od32 an32 od33 an33 od34 an34 od35 an35 od36 an36 od37 an37 od38 an38 od39 an39 od40 an40 od41 an41 od42 an42 od43 an43 od44 an44 od45 an45:Option Addr} {sl0 sl1 sl2 sl3 sl4 sl5 sl6 sl7 sl8 sl9 sl10 sl11 sl12 sl13 sl14 sl15 sl16 sl17 sl18 sl19 sl20 sl21 sl22 sl23 sl24 sl25 sl26 sl27 sl28 sl29 sl30 sl31 sl32 sl33 sl34 sl35 sl36 sl37 sl38 sl39 sl40 sl41 sl42 sl43 sl44 sl45:Array (Option Value)} {oc0 kV0 dc0 pm0 cd0 ct0 oc1 kV1 dc1 pm1 cd1 ct1 oc2 kV2 dc2 pm2 cd2 ct2 oc3 kV3 dc3 pm3 cd3 ct3 oc4 kV4 dc4 pm4 cd4 ct4 oc5 kV5 dc5 pm5 cd5 ct5 oc6 kV6 dc6 pm6 cd6 ct6 oc7 kV7 dc7 pm7 cd7 ct7 oc8 kV8 dc8 pm8 cd8 ct8 oc9 kV9 dc9 pm9 cd9 ct9 oc10 kV10 dc10 pm10 cd10 ct10 oc11 kV11 dc11 pm11 cd11 ct11 oc12 kV12 dc12 pm12 cd12 ct12 oc13 kV13 dc13 pm13 cd13 ct13 oc14 kV14 dc14 pm14 cd14 ct14 oc15 kV15 dc15 pm15 cd15 ct15 oc16 kV16 dc16 pm16 cd16 ct16 oc17 kV17 dc17 pm17 cd17 ct17 oc18 kV18 dc18 pm18 cd18 ct18 oc19 kV19 dc19 pm19 cd19 ct19 oc20 kV20 dc20 pm20 cd20 ct20 oc21 kV21 dc21 pm21 cd21 ct21 oc22 kV22 dc22 pm22 cd22 ct22 oc23 kV23 dc23 pm23 cd23 ct23 oc24 kV24 dc24 pm24 cd24 ct24 oc25 kV25 dc25 pm25 cd25 ct25 oc26 kV26 dc26 pm26 cd26 ct26 oc27 kV27 dc27 pm27 cd27 ct27 oc28 kV28 dc28 pm28 cd28 ct28 oc29 kV29 dc29 pm29 cd29 ct29 oc30 kV30 dc30 pm30 cd30 ct30 oc31 kV31 dc31 pm31 cd31 ct31 oc32 kV32 dc32 pm32 cd32 ct32 oc33 kV33 dc33 pm33 cd33 ct33 oc34 kV34 dc34 pm34 cd34 ct34 oc35 kV35 dc35 pm35 cd35 ct35 oc36 kV36 dc36 pm36 cd36 ct36 oc37 kV37 dc37 pm37 cd37 ct37 oc38 kV38 dc38 pm38 cd38 ct38 oc39 kV39 dc39 pm39 cd39 ct39 oc40 kV40 dc40 pm40 cd40 ct40 oc41 kV41 dc41 pm41 cd41 ct41 oc42 kV42 dc42 pm42 cd42 ct42 oc43 kV43 dc43 pm43 cd43 ct43 oc44 kV44 dc44 pm44 cd44 ct44 oc45 kV45 dc45 pm45 cd45 ct45:Value} {yaP yaO:Tok}
  (ybP:W.nsIn K mainGlobals "Book"=some (some (.ref yak)))
  (ybD:W.nsIn K mainGlobals "Scale"=some (some (.ref yao)))
  (ybQ:W.nsIn K mainGlobals "Line"=some (some (.ref yav)))
  (ybR:W.nsIn K mainGlobals "Rest"=some (some (.ref yar)))
  (ybj:W.nsIn K mainGlobals "Stairs"=some (some (.ref yaf)))
  (a0:W.nsIn K mainGlobals "refuse_unlike"=some (some (.ref f0)))
  (l0:K.lookup f0=some ⟨oc0,od0,.func (W.fnOf "refuse_unlike" "refuse_unlike" (zaA zbS) (zaw zbS) (zad zbS) .none kV0 dc0 pm0 an0 cd0 ct0),sl0⟩)
  (c0:W.codeIn K cd0 "refuse_unlike"=true)
  (k0:W.keepIn K (.ref f0)=true)
  (a1:W.nsIn K mainGlobals "plus"=some (some (.ref f1)))
  (l1:K.lookup f1=some ⟨oc1,od1,.func (W.fnOf "plus" "plus" (zaA zg1) (zaw zg1) (zad zg1) .none kV1 dc1 pm1 an1 cd1 ct1),sl1⟩)
  (c1:W.codeIn K cd1 "plus"=true)
  (k1:W.keepIn K (.ref f1)=true)
  (a2:W.nsIn K mainGlobals "less"=some (some (.ref f2)))
  (l2:K.lookup f2=some ⟨oc2,od2,.func (W.fnOf "less" "less" (zaA zhy) (zaw zhy) (zad zhy) .none kV2 dc2 pm2 an2 cd2 ct2),sl2⟩)
  (c2:W.codeIn K cd2 "less"=true)
  (k2:W.keepIn K (.ref f2)=true)
  (a3:W.nsIn K mainGlobals "times"=some (some (.ref f3)))
  (l3:K.lookup f3=some ⟨oc3,od3,.func (W.fnOf "times" "times" (zaA zfz) (zaw zfz) (zad zfz) .none kV3 dc3 pm3 an3 cd3 ct3),sl3⟩)
  (c3:W.codeIn K cd3 "times"=true)
  (k3:W.keepIn K (.ref f3)=true)
  (a4:W.nsIn K mainGlobals "weighed"=some (some (.ref f4)))
  (l4:K.lookup f4=some ⟨oc4,od4,.func (W.fnOf "weighed" "weighed" (zaA zdN) (zaw zdN) (zad zdN) .none kV4 dc4 pm4 an4 cd4 ct4),sl4⟩)
  (c4:W.codeIn K cd4 "weighed"=true)
  (k4:W.keepIn K (.ref f4)=true)
  (a5:W.nsIn K mainGlobals "head_of"=some (some (.ref f5)))
  (l5:K.lookup f5=some ⟨oc5,od5,.func (W.fnOf "head_of" "head_of" (zaA zer) (zaw zer) (zad zer) .none kV5 dc5 pm5 an5 cd5 ct5),sl5⟩)
  (c5:W.codeIn K cd5 "head_of"=true)
  (k5:W.keepIn K (.ref f5)=true)
  (a6:W.nsIn K mainGlobals "common"=some (some (.ref f6)))
  (l6:K.lookup f6=some ⟨oc6,od6,.func (W.fnOf "common" "common" (zaA zfq) (zaw zfq) (zad zfq) .none kV6 dc6 pm6 an6 cd6 ct6),sl6⟩)
  (c6:W.codeIn K cd6 "common"=true)
  (k6:W.keepIn K (.ref f6)=true)
  (a7:W.nsIn K mainGlobals "upright"=some (some (.ref f7)))
  (l7:K.lookup f7=some ⟨oc7,od7,.func (W.fnOf "upright" "upright" (zaA zek) (zaw zek) (zad zek) .none kV7 dc7 pm7 an7 cd7 ct7),sl7⟩)
  (c7:W.codeIn K cd7 "upright"=true)
  (k7:W.keepIn K (.ref f7)=true)
  (a8:W.nsIn K mainGlobals "lowered"=some (some (.ref f8)))
  (l8:K.lookup f8=some ⟨oc8,od8,.func (W.fnOf "lowered" "lowered" (zaA zem) (zaw zem) (zad zem) .none kV8 dc8 pm8 an8 cd8 ct8),sl8⟩)
  (c8:W.codeIn K cd8 "lowered"=true)
  (k8:W.keepIn K (.ref f8)=true)
  (a9:W.nsIn K mainGlobals "merged"=some (some (.ref f9)))
  (l9:K.lookup f9=some ⟨oc9,od9,.func (W.fnOf "merged" "merged" (zaA zfp) (zaw zfp) (zad zfp) .none kV9 dc9 pm9 an9 cd9 ct9),sl9⟩)
  (c9:W.codeIn K cd9 "merged"=true)
  (k9:W.keepIn K (.ref f9)=true)
  (a10:W.nsIn K mainGlobals "taken_in"=some (some (.ref f10)))
  (l10:K.lookup f10=some ⟨oc10,od10,.func (W.fnOf "taken_in" "taken_in" (zaA zdL) (zaw zdL) (zad zdL) .none kV10 dc10 pm10 an10 cd10 ct10),sl10⟩)
  (c10:W.codeIn K cd10 "taken_in"=true)
  (k10:W.keepIn K (.ref f10)=true)
  (a11:W.nsIn K mainGlobals "settled"=some (some (.ref f11)))
  (l11:K.lookup f11=some ⟨oc11,od11,.func (W.fnOf "settled" "settled" (zaA zes) (zaw zes) (zad zes) .none kV11 dc11 pm11 an11 cd11 ct11),sl11⟩)
  (c11:W.codeIn K cd11 "settled"=true)
  (k11:W.keepIn K (.ref f11)=true)
  (a12:W.nsIn K mainGlobals "climbed"=some (some (.ref f12)))
  (l12:K.lookup f12=some ⟨oc12,od12,.func (W.fnOf "climbed" "climbed" (zaA zej) (zaw zej) (zad zej) .none kV12 dc12 pm12 an12 cd12 ct12),sl12⟩)
  (c12:W.codeIn K cd12 "climbed"=true)
  (k12:W.keepIn K (.ref f12)=true)
  (a13:W.nsIn K mainGlobals "marked"=some (some (.ref f13)))
  (l13:K.lookup f13=some ⟨oc13,od13,.func (W.fnOf "marked" "marked" (zaA ze8) (zaw ze8) (zad ze8) .none kV13 dc13 pm13 an13 cd13 ct13),sl13⟩)
  (c13:W.codeIn K cd13 "marked"=true)
  (k13:W.keepIn K (.ref f13)=true)
  (a14:W.nsIn K mainGlobals "padded"=some (some (.ref f14)))
  (l14:K.lookup f14=some ⟨oc14,od14,.func (W.fnOf "padded" "padded" (zaA zeI) (zaw zeI) (zad zeI) .none kV14 dc14 pm14 an14 cd14 ct14),sl14⟩)
  (c14:W.codeIn K cd14 "padded"=true)
  (k14:W.keepIn K (.ref f14)=true)
  (a15:W.nsIn K mainGlobals "traced"=some (some (.ref f15)))
  (l15:K.lookup f15=some ⟨oc15,od15,.func (W.fnOf "traced" "traced" (zaA zfc) (zaw zfc) (zad zfc) .none kV15 dc15 pm15 an15 cd15 ct15),sl15⟩)
  (c15:W.codeIn K cd15 "traced"=true)
  (k15:W.keepIn K (.ref f15)=true)
  (a16:W.nsIn K mainGlobals "tails"=some (some (.ref f16)))
  (l16:K.lookup f16=some ⟨oc16,od16,.func (W.fnOf "tails" "tails" (zaA zfD) (zaw zfD) (zad zfD) .none kV16 dc16 pm16 an16 cd16 ct16),sl16⟩)
  (c16:W.codeIn K cd16 "tails"=true)
  (k16:W.keepIn K (.ref f16)=true)
  (a17:W.nsIn K mainGlobals "book_of"=some (some (.ref f17)))
  (l17:K.lookup f17=some ⟨oc17,od17,.func (W.fnOf "book_of" "book_of" (zaA zet) (zaw zet) (zad zet) .none kV17 dc17 pm17 an17 cd17 ct17),sl17⟩)
  (c17:W.codeIn K cd17 "book_of"=true)
  (k17:W.keepIn K (.ref f17)=true)
  (a18:W.nsIn K mainGlobals "refuse_bad_basket"=some (some (.ref f18)))
  (l18:K.lookup f18=some ⟨oc18,od18,.func (W.fnOf "refuse_bad_basket" "refuse_bad_basket" (zaA za9) (zaw za9) (zad za9) .none kV18 dc18 pm18 an18 cd18 ct18),sl18⟩)
  (c18:W.codeIn K cd18 "refuse_bad_basket"=true)
  (k18:W.keepIn K (.ref f18)=true)
  (a19:W.nsIn K mainGlobals "levelled"=some (some (.ref f19)))
  (l19:K.lookup f19=some ⟨oc19,od19,.func (W.fnOf "levelled" "levelled" (zaA zdM) (zaw zdM) (zad zdM) .none kV19 dc19 pm19 an19 cd19 ct19),sl19⟩)
  (c19:W.codeIn K cd19 "levelled"=true)
  (k19:W.keepIn K (.ref f19)=true)
  (a20:W.nsIn K mainGlobals "shown"=some (some (.ref f20)))
  (l20:K.lookup f20=some ⟨oc20,od20,.func (W.fnOf "shown" "shown" (zaA zeX) (zaw zeX) (zad zeX) .none kV20 dc20 pm20 an20 cd20 ct20),sl20⟩)
  (c20:W.codeIn K cd20 "shown"=true)
  (k20:W.keepIn K (.ref f20)=true)
  (a21:W.nsIn K mainGlobals "refuse_other_wares"=some (some (.ref f21)))
  (l21:K.lookup f21=some ⟨oc21,od21,.func (W.fnOf "refuse_other_wares" "refuse_other_wares" (zaA za6) (zaw za6) (zad za6) .none kV21 dc21 pm21 an21 cd21 ct21),sl21⟩)
  (c21:W.codeIn K cd21 "refuse_other_wares"=true)
  (k21:W.keepIn K (.ref f21)=true)
  (a22:W.nsIn K mainGlobals "joined"=some (some (.ref f22)))
  (l22:K.lookup f22=some ⟨oc22,od22,.func (W.fnOf "joined" "joined" (zaA ze6) (zaw ze6) (zad ze6) .none kV22 dc22 pm22 an22 cd22 ct22),sl22⟩)
  (c22:W.codeIn K cd22 "joined"=true)
  (k22:W.keepIn K (.ref f22)=true)
  (a23:W.nsIn K mainGlobals "met"=some (some (.ref f23)))
  (l23:K.lookup f23=some ⟨oc23,od23,.func (W.fnOf "met" "met" (zaA zjp) (zaw zjp) (zad zjp) .none kV23 dc23 pm23 an23 cd23 ct23),sl23⟩)
  (c23:W.codeIn K cd23 "met"=true)
  (k23:W.keepIn K (.ref f23)=true)
  (a24:W.nsIn K mainGlobals "within"=some (some (.ref f24)))
  (l24:K.lookup f24=some ⟨oc24,od24,.func (W.fnOf "within" "within" (zaA zfh) (zaw zfh) (zad zfh) .none kV24 dc24 pm24 an24 cd24 ct24),sl24⟩)
  (c24:W.codeIn K cd24 "within"=true)
  (k24:W.keepIn K (.ref f24)=true)
  (a25:W.nsIn K mainGlobals "stairs"=some (some (.ref f25)))
  (l25:K.lookup f25=some ⟨oc25,od25,.func (W.fnOf "stairs" "stairs" (zaA zdj) (zaw zdj) (zad zdj) .none kV25 dc25 pm25 an25 cd25 ct25),sl25⟩)
  (c25:W.codeIn K cd25 "stairs"=true)
  (k25:W.keepIn K (.ref f25)=true)
  (a26:W.nsIn K mainGlobals "home"=some (some (.ref f26)))
  (l26:K.lookup f26=some ⟨oc26,od26,.func (W.fnOf "home" "home" (zaA zhJ) (zaw zhJ) (zad zhJ) .none kV26 dc26 pm26 an26 cd26 ct26),sl26⟩)
  (c26:W.codeIn K cd26 "home"=true)
  (k26:W.keepIn K (.ref f26)=true)
  (a27:W.nsIn K mainGlobals "head_numbers"=some (some (.ref f27)))
  (l27:K.lookup f27=some ⟨oc27,od27,.func (W.fnOf "head_numbers" "head_numbers" (zaA zbL) (zaw zbL) (zad zbL) .none kV27 dc27 pm27 an27 cd27 ct27),sl27⟩)
  (c27:W.codeIn K cd27 "head_numbers"=true)
  (k27:W.keepIn K (.ref f27)=true)
  (a28:W.nsIn K mainGlobals "product"=some (some (.ref f28)))
  (l28:K.lookup f28=some ⟨oc28,od28,.func (W.fnOf "product" "product" (zaA zeq) (zaw zeq) (zad zeq) .none kV28 dc28 pm28 an28 cd28 ct28),sl28⟩)
  (c28:W.codeIn K cd28 "product"=true)
  (k28:W.keepIn K (.ref f28)=true)
  (a29:W.nsIn K mainGlobals "many_homes"=some (some (.ref f29)))
  (l29:K.lookup f29=some ⟨oc29,od29,.func (W.fnOf "many_homes" "many_homes" (zaA zcX) (zaw zcX) (zad zcX) .none kV29 dc29 pm29 an29 cd29 ct29),sl29⟩)
  (c29:W.codeIn K cd29 "many_homes"=true)
  (k29:W.keepIn K (.ref f29)=true)
  (a30:W.nsIn K mainGlobals "_law_cell"=some (some (.ref f30)))
  (l30:K.lookup f30=some ⟨oc30,od30,.func (W.fnOf "_law_cell" "_law_cell" (zaA zdJ) (zaw zdJ) (zad zdJ) .none kV30 dc30 pm30 an30 cd30 ct30),sl30⟩)
  (c30:W.codeIn K cd30 "_law_cell"=true)
  (k30:W.keepIn K (.ref f30)=true)
  (a31:W.nsIn K mainGlobals "_law_raw"=some (some (.ref f31)))
  (l31:K.lookup f31=some ⟨oc31,od31,.func (W.fnOf "_law_raw" "_law_raw" (zaA zeo) (zaw zeo) (zad zeo) .none kV31 dc31 pm31 an31 cd31 ct31),sl31⟩)
  (c31:W.codeIn K cd31 "_law_raw"=true)
  (k31:W.keepIn K (.ref f31)=true)
  (a32:W.nsIn K mainGlobals "_law_thing"=some (some (.ref f32)))
  (l32:K.lookup f32=some ⟨oc32,od32,.func (W.fnOf "_law_thing" "_law_thing" (zaA zdf) (zaw zdf) (zad zdf) .none kV32 dc32 pm32 an32 cd32 ct32),sl32⟩)
  (c32:W.codeIn K cd32 "_law_thing"=true)
  (k32:W.keepIn K (.ref f32)=true)
  (a33:W.nsIn K mainGlobals "_law_frame"=some (some (.ref f33)))
  (l33:K.lookup f33=some ⟨oc33,od33,.func (W.fnOf "_law_frame" "_law_frame" (zaA zbM) (zaw zbM) (zad zbM) .none kV33 dc33 pm33 an33 cd33 ct33),sl33⟩)
  (c33:W.codeIn K cd33 "_law_frame"=true)
  (k33:W.keepIn K (.ref f33)=true)
  (a34:W.nsIn K mainGlobals "_law_bottoms"=some (some (.ref f34)))
  (l34:K.lookup f34=some ⟨oc34,od34,.func (W.fnOf "_law_bottoms" "_law_bottoms" (zaA zcA) (zaw zcA) (zad zcA) .none kV34 dc34 pm34 an34 cd34 ct34),sl34⟩)
  (c34:W.codeIn K cd34 "_law_bottoms"=true)
  (k34:W.keepIn K (.ref f34)=true)
  (a35:W.nsIn K mainGlobals "_law_stirred"=some (some (.ref f35)))
  (l35:K.lookup f35=some ⟨oc35,od35,.func (W.fnOf "_law_stirred" "_law_stirred" (zaA zbd) (zaw zbd) (zad zbd) .none kV35 dc35 pm35 an35 cd35 ct35),sl35⟩)
  (c35:W.codeIn K cd35 "_law_stirred"=true)
  (k35:W.keepIn K (.ref f35)=true)
  (a36:W.nsIn K mainGlobals "_law_two"=some (some (.ref f36)))
  (l36:K.lookup f36=some ⟨oc36,od36,.func (W.fnOf "_law_two" "_law_two" (zaA zel) (zaw zel) (zad zel) .none kV36 dc36 pm36 an36 cd36 ct36),sl36⟩)
  (c36:W.codeIn K cd36 "_law_two"=true)
  (k36:W.keepIn K (.ref f36)=true)
  (a37:W.nsIn K mainGlobals "_law_shares"=some (some (.ref f37)))
  (l37:K.lookup f37=some ⟨oc37,od37,.func (W.fnOf "_law_shares" "_law_shares" (zaA zcW) (zaw zcW) (zad zcW) .none kV37 dc37 pm37 an37 cd37 ct37),sl37⟩)
  (c37:W.codeIn K cd37 "_law_shares"=true)
  (k37:W.keepIn K (.ref f37)=true)
  (a38:W.nsIn K mainGlobals "_law_nothing"=some (some (.ref f38)))
  (l38:K.lookup f38=some ⟨oc38,od38,.func (W.fnOf "_law_nothing" "_law_nothing" (zaA zcB) (zaw zcB) (zad zcB) .none kV38 dc38 pm38 an38 cd38 ct38),sl38⟩)
  (c38:W.codeIn K cd38 "_law_nothing"=true)
  (k38:W.keepIn K (.ref f38)=true)
  (a39:W.nsIn K mainGlobals "_law_same"=some (some (.ref f39)))
  (l39:K.lookup f39=some ⟨oc39,od39,.func (W.fnOf "_law_same" "_law_same" (zaA zdK) (zaw zdK) (zad zdK) .none kV39 dc39 pm39 an39 cd39 ct39),sl39⟩)
  (c39:W.codeIn K cd39 "_law_same"=true)
  (k39:W.keepIn K (.ref f39)=true)
  (a40:W.nsIn K mainGlobals "_law_order"=some (some (.ref f40)))
  (l40:K.lookup f40=some ⟨oc40,od40,.func (W.fnOf "_law_order" "_law_order" (zaA zc6) (zaw zc6) (zad zc6) .none kV40 dc40 pm40 an40 cd40 ct40),sl40⟩)
  (c40:W.codeIn K cd40 "_law_order"=true)
  (k40:W.keepIn K (.ref f40)=true)
  (a41:W.nsIn K mainGlobals "_law_count"=some (some (.ref f41)))
  (l41:K.lookup f41=some ⟨oc41,od41,.func (W.fnOf "_law_count" "_law_count" (zaA zda) (zaw zda) (zad zda) .none kV41 dc41 pm41 an41 cd41 ct41),sl41⟩)
  (c41:W.codeIn K cd41 "_law_count"=true)
  (k41:W.keepIn K (.ref f41)=true)
  (a42:W.nsIn K mainGlobals "_law_baskets"=some (some (.ref f42)))
  (l42:K.lookup f42=some ⟨oc42,od42,.func (W.fnOf "_law_baskets" "_law_baskets" (zaA zb2) (zaw zb2) (zad zb2) .none kV42 dc42 pm42 an42 cd42 ct42),sl42⟩)
  (c42:W.codeIn K cd42 "_law_baskets"=true)
  (k42:W.keepIn K (.ref f42)=true)
  (a43:W.nsIn K mainGlobals "law"=some (some (.ref f43)))
  (l43:K.lookup f43=some ⟨oc43,od43,.func (W.fnOf "law" "law" (zaA zgH) (zaw zgH) (zad zgH) .none kV43 dc43 pm43 an43 cd43 ct43),sl43⟩)
  (c43:W.codeIn K cd43 "law"=true)
  (k43:W.keepIn K (.ref f43)=true)
  (a44:W.findIn K (.ref yak) "__init__"=some (some (.ref f44)))
  (i44:W.isFn K (.ref f44)=true)
  (l44:K.lookup f44=some ⟨oc44,od44,.func (W.fnOf "__init__" "Book.__init__" (zaA zbz) (zaw zbz) (zad zbz) .none kV44 dc44 pm44 an44 cd44 ct44),sl44⟩)
  (c44:W.codeIn K cd44 "Book.__init__"=true)
  (k44:W.keepIn K (.ref f44)=true)
  (a45:W.findIn K (.ref yaf) "__init__"=some (some (.ref f45)))
  (i45:W.isFn K (.ref f45)=true)
  (l45:K.lookup f45=some ⟨oc45,od45,.func (W.fnOf "__init__" "Stairs.__init__" (zaA zbv) (zaw zbv) (zad zbv) .none kV45 dc45 pm45 an45 cd45 ct45),sl45⟩)
  (c45:W.codeIn K cd45 "Stairs.__init__"=true)
  (k45:W.keepIn K (.ref f45)=true)
  (ybS:W.plainGet K yak Str.empty=true)
  (ybT:W.hasDictIn K yak=true)
  (ybU:W.plainOver K yak=true)
  (ybV:W.findIn K (.ref yak) "__setattr__"=some (some (.builtin "object.__setattr__")))
  (ybW:W.makesIn K yak=true)
  (ybX:W.keepIn K (.ref yak)=true)
  (yaX:W.findIn K (.ref yak) "many"=some none)
  (yaS:W.findIn K (.ref yak) "swaps"=some none)
  (ybE:W.plainGet K yao Str.empty=true)
  (ybF:W.hasDictIn K yao=true)
  (ybG:W.plainOver K yao=true)
  (ybH:W.findIn K (.ref yao) "__setattr__"=some (some (.builtin "object.__setattr__")))
  (ycr:W.makesIn K yao=true)
  (ycs:W.keepIn K (.ref yao)=true)
  (yaw:W.findIn K (.ref yao) "weights"=some none)
  (ybY:W.plainGet K yav Str.empty=true)
  (ybZ:W.hasDictIn K yav=true)
  (yb0:W.plainOver K yav=true)
  (yb1:W.findIn K (.ref yav) "__setattr__"=some (some (.builtin "object.__setattr__")))
  (ycI:W.makesIn K yav=true)
  (ycJ:W.keepIn K (.ref yav)=true)
  (yaC:W.findIn K (.ref yav) "weights"=some none)
  (yb2:W.plainGet K yar Str.empty=true)
  (yb3:W.hasDictIn K yar=true)
  (yb4:W.plainOver K yar=true)
  (yb5:W.findIn K (.ref yar) "__setattr__"=some (some (.builtin "object.__setattr__")))
  (ycK:W.makesIn K yar=true)
  (ycL:W.keepIn K (.ref yar)=true)
  (yaD:W.findIn K (.ref yar) "weights"=some none)
  (yaY:W.findIn K (.ref yar) "rest"=some none)
  (ybk:W.plainGet K yaf Str.empty=true)
  (ybl:W.hasDictIn K yaf=true)
  (ybm:W.plainOver K yaf=true)
  (ybn:W.findIn K (.ref yaf) "__setattr__"=some (some (.builtin "object.__setattr__")))
  (ybo:W.makesIn K yaf=true)
  (ybp:W.keepIn K (.ref yaf)=true)
  (yaE:W.findIn K (.ref yaf) "steps"=some none)
  (yaF:W.findIn K (.ref yaf) "heads"=some none)
  (yaG:W.findIn K (.ref yaf) "roads"=some none)
  (yaZ:W.nsIn K mainGlobals "enumerate"=some none)
  (ycP:W.nsIn K mainGlobals "int"=some none)
  (ycQ:W.nsIn K mainGlobals "len"=some none)
  (yct:W.nsIn K mainGlobals "list"=some none)
  (ycR:W.nsIn K mainGlobals "max"=some none)
  (ycS:W.nsIn K mainGlobals "min"=some none)
  (yb6:W.nsIn K mainGlobals "range"=some none)
  (ya7:W.nsIn K mainGlobals "reversed"=some none)
  (ycT:W.nsIn K mainGlobals "sum"=some none)
  (ycU:W.nsIn K mainGlobals "zip"=some none)
  (g_MOST_WARES:W.nsIn K mainGlobals "MOST_WARES"=some (some (.int 8 yaP)))
  (g_MOST_SWAPS:W.nsIn K mainGlobals "MOST_SWAPS"=some (some (.int 12 yaO))) :
  ∃ fd:FuncData,(∀ (s:Shared) (v:Value),BindsTo s fd ⟨[v],[]⟩ [("_law_script",v)])∧∀ base:Heap,K.In base->base.Ns mainGlobals mg->FnOk l.prog w K mg base (CXE l.prog w) 10 fa fd ["_law_script"] (zn3 K):=by
 have e:=hfa.symm.trans (W.mg_of X G a43)
 cases e
 have yaV:=zaT (st:=zbS) l0 c0 k0
 have ybI:=yaV.binds (ps:=["one","other"]) λ_ _ _ _ _ _ us hl=>match us,hl with | [_,_],_=>rfl
 have zeS:=W.mg_of X G a0
 have ycZ:=zaT (st:=zg1) l1 c1 k1
 have ydp:=ycZ.binds (ps:=["one","other"]) λ_ _ _ _ _ _ us hl=>match us,hl with | [_,_],_=>rfl
 have zbU:=W.mg_of X G a1
 have yc0:=zaT (st:=zhy) l2 c2 k2
 have ydq:=yc0.binds (ps:=["one","other"]) λ_ _ _ _ _ _ us hl=>match us,hl with | [_,_],_=>rfl
 have zeL:=W.mg_of X G a2
 have ycM:=zaT (st:=zfz) l3 c3 k3
 have ydm:=ycM.binds (ps:=["some","many"]) λ_ _ _ _ _ _ us hl=>match us,hl with | [_,_],_=>rfl
 have zan:=W.mg_of X G a3
 have yb9:=zaT (st:=zdN) l4 c4 k4
 have yc1:=yb9.binds (ps:=["one","other"]) λ_ _ _ _ _ _ us hl=>match us,hl with | [_,_],_=>rfl
 have zcw:=W.mg_of X G a4
 have yca:=zaT (st:=zer) l5 c5 k5
 have yc2:=yca.binds (ps:=["row"]) λ_ _ _ _ _ _ us hl=>match us,hl with | [_],_=>rfl
 have zah:=W.mg_of X G a5
 have ycu:=zaT (st:=zfq) l6 c6 k6
 have ydc:=ycu.binds (ps:=["one","other"]) λ_ _ _ _ _ _ us hl=>match us,hl with | [_,_],_=>rfl
 have zc1:=W.mg_of X G a6
 have ycb:=zaT (st:=zek) l7 c7 k7
 have yc3:=ycb.binds (ps:=["row"]) λ_ _ _ _ _ _ us hl=>match us,hl with | [_],_=>rfl
 have zbA:=W.mg_of X G a7
 have ycc:=zaT (st:=zem) l8 c8 k8
 have yc4:=ycc.binds (ps:=["row","steps"]) λ_ _ _ _ _ _ us hl=>match us,hl with | [_,_],_=>rfl
 have m_lowered:=W.mg_of X G a8
 have ycv:=zaT (st:=zfp) l9 c9 k9
 have ydd:=ycv.binds (ps:=["step","row"]) λ_ _ _ _ _ _ us hl=>match us,hl with | [_,_],_=>rfl
 have zbh:=W.mg_of X G a9
 have ybJ:=zaT (st:=zdL) l10 c10 k10
 have ycV:=ybJ.binds (ps:=["steps","row"]) λ_ _ _ _ _ _ us hl=>match us,hl with | [_,_],_=>rfl
 have m_taken_in:=W.mg_of X G a10
 have ycd:=zaT (st:=zes) l11 c11 k11
 have yc5:=ycd.binds (ps:=["steps"]) λ_ _ _ _ _ _ us hl=>match us,hl with | [_],_=>rfl
 have zcm:=W.mg_of X G a11
 have yce:=zaT (st:=zej) l12 c12 k12
 have yc6:=yce.binds (ps:=["rows"]) λ_ _ _ _ _ _ us hl=>match us,hl with | [_],_=>rfl
 have za1:=W.mg_of X G a12
 have ycw:=zaT (st:=ze8) l13 c13 k13
 have yde:=ycw.binds (ps:=["rows"]) λ_ _ _ _ _ _ us hl=>match us,hl with | [_],_=>rfl
 have zd0:=W.mg_of X G a13
 have ycx:=zaT (st:=zeI) l14 c14 k14
 have ydf:=ycx.binds (ps:=["rows","many"]) λ_ _ _ _ _ _ us hl=>match us,hl with | [_,_],_=>rfl
 have zbr:=W.mg_of X G a14
 have ycy:=zaT (st:=zfc) l15 c15 k15
 have ydg:=ycy.binds (ps:=["rows"]) λ_ _ _ _ _ _ us hl=>match us,hl with | [_],_=>rfl
 have zcD:=W.mg_of X G a15
 have ycN:=zaT (st:=zfD) l16 c16 k16
 have ydn:=ycN.binds (ps:=["steps","many"]) λ_ _ _ _ _ _ us hl=>match us,hl with | [_,_],_=>rfl
 have zdy:=W.mg_of X G a16
 have ycf:=zaT (st:=zet) l17 c17 k17
 have yc7:=ycf.binds (ps:=["many","swaps"]) λ_ _ _ _ _ _ us hl=>match us,hl with | [_,_],_=>rfl
 have m_book_of:=W.mg_of X G a17
 have yay:=zaT (st:=za9) l18 c18 k18
 have ybd:=yay.binds (ps:=["book","basket"]) λ_ _ _ _ _ _ us hl=>match us,hl with | [_,_],_=>rfl
 have zdU:=W.mg_of X G a18
 have ybK:=zaT (st:=zdM) l19 c19 k19
 have ycW:=ybK.binds (ps:=["steps","length"]) λ_ _ _ _ _ _ us hl=>match us,hl with | [_,_],_=>rfl
 have zc7:=W.mg_of X G a19
 have ycO:=zaT (st:=zeX) l20 c20 k20
 have ydo:=ycO.binds (ps:=["book","basket"]) λ_ _ _ _ _ _ us hl=>match us,hl with | [_,_],_=>rfl
 have m_shown:=W.mg_of X G a20
 have yax:=zaT (st:=za6) l21 c21 k21
 have ya8:=yax.binds (ps:=["one","other"]) λ_ _ _ _ _ _ us hl=>match us,hl with | [_,_],_=>rfl
 have zdC:=W.mg_of X G a21
 have ycz:=zaT (st:=ze6) l22 c22 k22
 have ydh:=ycz.binds (ps:=["one","other"]) λ_ _ _ _ _ _ us hl=>match us,hl with | [_,_],_=>rfl
 have m_joined:=W.mg_of X G a22
 have ydk:=zaT (st:=zjp) l23 c23 k23
 have yds:=ydk.binds (ps:=["one","other"]) λ_ _ _ _ _ _ us hl=>match us,hl with | [_,_],_=>rfl
 have zbR:=W.mg_of X G a23
 have ycA:=zaT (st:=zfh) l24 c24 k24
 have ydi:=ycA.binds (ps:=["one","other"]) λ_ _ _ _ _ _ us hl=>match us,hl with | [_,_],_=>rfl
 have zbq:=W.mg_of X G a24
 have ycB:=zaT (st:=zdj) l25 c25 k25
 have ydj:=ycB.binds (ps:=["book"]) λ_ _ _ _ _ _ us hl=>match us,hl with | [_],_=>rfl
 have zbt:=W.mg_of X G a25
 have yc8:=zaT (st:=zhJ) l26 c26 k26
 have ydr:=yc8.binds (ps:=["book","basket"]) λ_ _ _ _ _ _ us hl=>match us,hl with | [_,_],_=>rfl
 have zcJ:=W.mg_of X G a26
 have ya3:=zaT (st:=zbL) l27 c27 k27
 have yb7:=ya3.binds (ps:=["book"]) λ_ _ _ _ _ _ us hl=>match us,hl with | [_],_=>rfl
 have za5:=W.mg_of X G a27
 have ycg:=zaT (st:=zeq) l28 c28 k28
 have yc9:=ycg.binds (ps:=["numbers"]) λ_ _ _ _ _ _ us hl=>match us,hl with | [_],_=>rfl
 have zdq:=W.mg_of X G a28
 have ybq:=zaT (st:=zcX) l29 c29 k29
 have ycC:=ybq.binds (ps:=["book"]) λ_ _ _ _ _ _ us hl=>match us,hl with | [_],_=>rfl
 have zaj:=W.mg_of X G a29
 have ybL:=zaT (st:=zdJ) l30 c30 k30
 have ycX:=ybL.binds (ps:=["_law_script","_law_k"]) λ_ _ _ _ _ _ us hl=>match us,hl with | [_,_],_=>rfl
 have zcV:=W.mg_of X G a30
 have ych:=zaT (st:=zeo) l31 c31 k31
 have yda:=ych.binds (ps:=["_law_script","_law_k"]) λ_ _ _ _ _ _ us hl=>match us,hl with | [_,_],_=>rfl
 have zbQ:=W.mg_of X G a31
 have ybt:=zaT (st:=zdf) l32 c32 k32
 have ycE:=ybt.binds (ps:=["_law_cell_here","_law_k","_law_many"]) λ_ _ _ _ _ _ us hl=>match us,hl with | [_,_,_],_=>rfl
 have zaf:=W.mg_of X G a32
 have ybu:=zaT (st:=zbM) l33 c33 k33
 have ycF:=ybu.binds (ps:=["_law_wide","_law_cells"]) λ_ _ _ _ _ _ us hl=>match us,hl with | [_,_],_=>rfl
 have zaO:=W.mg_of X G a33
 have ya9:=zaT (st:=zcA) l34 c34 k34
 have ycj:=ya9.binds (ps:=["_law_wide","_law_cell_here","_law_far"]) λ_ _ _ _ _ _ us hl=>match us,hl with | [_,_,_],_=>rfl
 have zaM:=W.mg_of X G a34
 have yba:=zaT (st:=zbd) l35 c35 k35
 have yck:=yba.binds (ps:=["_law_rows","_law_bottoms_here","_law_idle","_law_cells"]) λ_ _ _ _ _ _ us hl=>match us,hl with | [_,_,_,_],_=>rfl
 have zaE:=W.mg_of X G a35
 have yci:=zaT (st:=zel) l36 c36 k36
 have ydb:=yci.binds (ps:=["_law_script"]) λ_ _ _ _ _ _ us hl=>match us,hl with | [_],_=>rfl
 have zbl:=W.mg_of X G a36
 have ybr:=zaT (st:=zcW) l37 c37 k37
 have ycD:=ybr.binds (ps:=["_law_duals","_law_basket"]) λ_ _ _ _ _ _ us hl=>match us,hl with | [_,_],_=>rfl
 have zbW:=W.mg_of X G a37
 have ybb:=zaT (st:=zcB) l38 c38 k38
 have ycl:=ybb.binds (ps:=["_law_duals","_law_bottoms_here","_law_basket"]) λ_ _ _ _ _ _ us hl=>match us,hl with | [_,_,_],_=>rfl
 have zas:=W.mg_of X G a38
 have ybM:=zaT (st:=zdK) l39 c39 k39
 have ycY:=ybM.binds (ps:=["_law_one","_law_other"]) λ_ _ _ _ _ _ us hl=>match us,hl with | [_,_],_=>rfl
 have zcy:=W.mg_of X G a39
 have ybv:=zaT (st:=zc6) l40 c40 k40
 have ycG:=ybv.binds (ps:=["_law_one","_law_both","_law_all_of_both"]) λ_ _ _ _ _ _ us hl=>match us,hl with | [_,_,_],_=>rfl
 have zaX:=W.mg_of X G a40
 have ybw:=zaT (st:=zda) l41 c41 k41
 have ycH:=ybw.binds (ps:=["_law_cell_here","_law_k","_law_size"]) λ_ _ _ _ _ _ us hl=>match us,hl with | [_,_,_],_=>rfl
 have zam:=W.mg_of X G a41
 have ybc:=zaT (st:=zb2) l42 c42 k42
 have ycm:=ybc.binds (ps:=["_law_script","_law_wide","_law_left","_law_right"]) λ_ _ _ _ _ _ us hl=>match us,hl with | [_,_,_,_],_=>rfl
 have m_law_baskets:=W.mg_of X G a42
 have ydl:=zaT (st:=zgH) l43 c43 k43
 have ydt:=ydl.binds (ps:=["_law_script"]) λ_ _ _ _ _ _ us hl=>match us,hl with | [_],_=>rfl
 have m_law:=W.mg_of X G a43
 have yaW:=zaT (st:=zbz) l44 c44 k44
 have yah:=yaW.binds (ps:=["self","many","swaps"]) λ_ _ _ _ _ _ us hl=>match us,hl with | [_,_,_],_=>rfl
 have yaL:=zaT (st:=zbv) l45 c45 k45
 have yaq:=yaL.binds (ps:=["self","steps","heads","roads"]) λ_ _ _ _ _ _ us hl=>match us,hl with | [_,_,_,_],_=>rfl
 have T:Txt K mg ⟨(),yak,yao,yav,yar,yaf⟩:=⟨W.mg_none_of X G yaZ,W.mg_none_of X G ycP,W.mg_none_of X G ycQ,W.mg_none_of X G yct,W.mg_none_of X G ycR,W.mg_none_of X G ycS,W.mg_none_of X G yb6,W.mg_none_of X G ya7,W.mg_none_of X G ycT,W.mg_none_of X G ycU,W.mg_of X G ybP,⟨ybS,ybT,ybU,ybV⟩,yaX,yaS,W.mg_of X G ybD,⟨ybE,ybF,ybG,ybH⟩,yaw,W.mg_of X G ybQ,⟨ybY,ybZ,yb0,yb1⟩,yaC,W.mg_of X G ybR,⟨yb2,yb3,yb4,yb5⟩,yaD,yaY,W.mg_of X G ybj,⟨ybk,ybl,ybm,ybn⟩,yaE,yaF,yaG,⟨yaP,W.mg_of X G g_MOST_WARES⟩,⟨yaO,W.mg_of X G g_MOST_SWAPS⟩⟩
 refine ⟨W.fnOf "law" "law" (zaA zgH) (zaw zgH) (zad zgH) .none kV43 dc43 pm43 an43 cd43 ct43,λs v=>.of_eq rfl,λbase _ _=>?_⟩
 have ya2:Mk K yak f44:=⟨ybW,a44,i44,ybX⟩
 have ybC:Mk K yaf f45:=⟨ybo,a45,i45,ybp⟩
 have yad:Callee l.prog w K mg base (CXE l.prog w) 1 "refuse_unlike" ["one","other"] (zb7 K _):=⟨_,_,zgF yaV T  ,zeS,k0,ybI⟩
 have yaN:Callee l.prog w K mg base (CXE l.prog w) 2 "plus" ["one","other"] (ziz K _):=⟨_,_,zpn ycZ T yad ,zbU,k1,ydp⟩
 have ya0:Callee l.prog w K mg base (CXE l.prog w) 2 "less" ["one","other"] (ziu K _):=⟨_,_,zpR yc0 T yad ,zeL,k2,ydq⟩
 have yae:Callee l.prog w K mg base (CXE l.prog w) 1 "times" ["some","many"] (zeH K _):=⟨_,_,zoe ycM T  ,zan,k3,ydm⟩
 have ybg:Callee l.prog w K mg base (CXE l.prog w) 2 "weighed" ["one","other"] (zgf K _):=⟨_,_,zli yb9 T yad ,zcw,k4,yc1⟩
 have yaa:Callee l.prog w K mg base (CXE l.prog w) 1 "head_of" ["row"] (zcb K _):=⟨_,_,zk7 yca T  ,zah,k5,yc2⟩
 have ybx:Callee l.prog w K mg base (CXE l.prog w) 1 "common" ["one","other"] (zhh K _):=⟨_,_,znj ycu T  ,zc1,k6,ydc⟩
 have yaT:Callee l.prog w K mg base (CXE l.prog w) 2 "upright" ["row"] (zge K _):=⟨_,_,zln ycb T yaa yae ,zbA,k7,yc3⟩
 have yai:Callee l.prog w K mg base (CXE l.prog w) 3 "lowered" ["row","steps"] (zeu K _):=⟨_,_,zk4 ycc T yaa ya0 yae ,m_lowered,k8,yc4⟩
 have yby:Callee l.prog w K mg base (CXE l.prog w) 3 "merged" ["step","row"] (zhn K _):=⟨_,_,zm2 ycv T ybx yaa ya0 yaN yae ,zbh,k9,ydd⟩
 have ya4:Callee l.prog w K mg base (CXE l.prog w) 4 "taken_in" ["steps","row"] (zfL K _):=⟨_,_,zjr ybJ T yaa yai yby yaT ,m_taken_in,k10,ycV⟩
 have ybe:Callee l.prog w K mg base (CXE l.prog w) 4 "settled" ["steps"] (zgx K _):=⟨_,_,zlc ycd T yai ,zcm,k11,yc5⟩
 have yaj:Callee l.prog w K mg base (CXE l.prog w) 5 "climbed" ["rows"] (zeh K _):=⟨_,_,zk6 yce T ybe ya4 ,za1,k12,yc6⟩
 have ybz:Callee l.prog w K mg base (CXE l.prog w) 1 "marked" ["rows"] (zgO K _):=⟨_,_,zl2 ycw T  ,zd0,k13,yde⟩
 have ybA:Callee l.prog w K mg base (CXE l.prog w) 1 "padded" ["rows","many"] (zhf K _):=⟨_,_,zmM ycx T  ,zbr,k14,ydf⟩
 have ybB:Callee l.prog w K mg base (CXE l.prog w) 6 "traced" ["rows"] (zhl K _):=⟨_,_,zmb ycy T yaj ybz ,zcD,k15,ydg⟩
 have ybN:Callee l.prog w K mg base (CXE l.prog w) 2 "tails" ["steps","many"] (ziq K _):=⟨_,_,zob ycN T yaa ,zdy,k16,ydn⟩
 have yag:=zgD (P:=l.prog) (w:=w) (base:=base) yaW T
 have yam:Callee l.prog w K mg base (CXE l.prog w) 3 "book_of" ["many","swaps"] (ze9 K _):=⟨_,_,zlg ycf T  ya2 yag yah ,m_book_of,k17,yc7⟩
 have yal:Callee l.prog w K mg base (CXE l.prog w) 1 "refuse_bad_basket" ["book","basket"] (zcH K _):=⟨_,_,zfu yay T  ,zdU,k18,ybd⟩
 have ya5:Callee l.prog w K mg base (CXE l.prog w) 3 "levelled" ["steps","length"] (zfI K _):=⟨_,_,zjA ybK T yaa yae ybg ,zc7,k19,ycW⟩
 have ybO:Callee l.prog w K mg base (CXE l.prog w) 6 "shown" ["book","basket"] (zir K _):=⟨_,_,znr ycO T yaj yaa ya5 ,m_shown,k20,ydo⟩
 have yac:Callee l.prog w K mg base (CXE l.prog w) 1 "refuse_other_wares" ["one","other"] (zbe K _):=⟨_,_,ze3 yax T  ,zdC,k21,ya8⟩
 have yaB:Callee l.prog w K mg base (CXE l.prog w) 4 "joined" ["one","other"] (zf1 K _):=⟨_,_,zmL ycz T yam yac ,m_joined,k22,ydh⟩
 have ybs:Callee l.prog w K mg base (CXE l.prog w) 6 "met" ["one","other"] (zkz K _):=⟨_,_,zqP ydk T yaj ybA yac ybN ya2 yag yah ,zbR,k23,yds⟩
 have yan:Callee l.prog w K mg base (CXE l.prog w) 7 "within" ["one","other"] (zfT K _):=⟨_,_,zmt ycA T yac ybO ,zbq,k24,ydi⟩
 have yap:=zfY (P:=l.prog) (w:=w) (base:=base) yaL T
 have yaz:Callee l.prog w K mg base (CXE l.prog w) 7 "stairs" ["book"] (zf3 K _):=⟨_,_,zlI ycB T yaa ybB ybC yap yaq ,zbt,k25,ydj⟩
 have ycq:Callee l.prog w K mg base (CXE l.prog w) 8 "home" ["book","basket"] (zjW K _):=⟨_,_,zpx yc8 T yai yal yaz ,zcJ,k26,ydr⟩
 have yaA:Callee l.prog w K mg base (CXE l.prog w) 8 "head_numbers" ["book"] (zdV K _):=⟨_,_,zg9 ya3 T yaz ,za5,k27,yb7⟩
 have ybh:Callee l.prog w K mg base (CXE l.prog w) 1 "product" ["numbers"] (zgn K _):=⟨_,_,zlh ycg T  ,zdq,k28,yc9⟩
 have yaR:Callee l.prog w K mg base (CXE l.prog w) 9 "many_homes" ["book"] (zeA K _):=⟨_,_,zih ybq T yaA ybh ,zaj,k29,ycC⟩
 have ya6:Callee l.prog w K mg base (CXE l.prog w) 1 "_law_cell" ["_law_script","_law_k"] (zfE K _):=⟨_,_,zjY ybL T  ,zcV,k30,ycX⟩
 have yaU:Callee l.prog w K mg base (CXE l.prog w) 1 "_law_raw" ["_law_script","_law_k"] (zgu K _):=⟨_,_,zla ych T  ,zbQ,k31,yda⟩
 have yab:Callee l.prog w K mg base (CXE l.prog w) 1 "_law_thing" ["_law_cell_here","_law_k","_law_many"] (zcU K _):=⟨_,_,ziP ybt T  ,zaf,k32,ycE⟩
 have yaH:Callee l.prog w K mg base (CXE l.prog w) 2 "_law_frame" ["_law_wide","_law_cells"] (ze2 K _):=⟨_,_,zjd ybu T yab ,zaO,k33,ycF⟩
 have yas:Callee l.prog w K mg base (CXE l.prog w) 2 "_law_bottoms" ["_law_wide","_law_cell_here","_law_far"] (zef K _):=⟨_,_,zhF ya9 T yab ,zaM,k34,ycj⟩
 have yat:Callee l.prog w K mg base (CXE l.prog w) 2 "_law_stirred" ["_law_rows","_law_bottoms_here","_law_idle","_law_cells"] (zeb K _):=⟨_,_,zhE yba T yab ,zaE,k35,yck⟩
 have ybi:Callee l.prog w K mg base (CXE l.prog w) 3 "_law_two" ["_law_script"] (zgy K _):=⟨_,_,zk8 yci T yas ya6 yaH yaU yat ,zbl,k36,ydb⟩
 have yaQ:Callee l.prog w K mg base (CXE l.prog w) 1 "_law_shares" ["_law_duals","_law_basket"] (zeB K _):=⟨_,_,ziv ybr T  ,zbW,k37,ycD⟩
 have yau:Callee l.prog w K mg base (CXE l.prog w) 2 "_law_nothing" ["_law_duals","_law_bottoms_here","_law_basket"] (zed K _):=⟨_,_,zhD ybb T yaQ ,zas,k38,ycl⟩
 have yaM:Callee l.prog w K mg base (CXE l.prog w) 8 "_law_same" ["_law_one","_law_other"] (zfC K _):=⟨_,_,zj0 ybM T yan ,zcy,k39,ycY⟩
 have yaJ:Callee l.prog w K mg base (CXE l.prog w) 9 "_law_order" ["_law_one","_law_both","_law_all_of_both"] (zeW K _):=⟨_,_,ziI ybv T yaM yaB ybs yan ,zaX,k40,ycG⟩
 have yaI:Callee l.prog w K mg base (CXE l.prog w) 2 "_law_count" ["_law_cell_here","_law_k","_law_size"] (ze1 K _):=⟨_,_,ziO ybw T yab ,zam,k41,ycH⟩
 have yaK:Callee l.prog w K mg base (CXE l.prog w) 3 "_law_baskets" ["_law_script","_law_wide","_law_left","_law_right"] (zd8 K _):=⟨_,_,zhH ybc T yaI yaN yae ,m_law_baskets,k42,ycm⟩
 exact (zqt ydl T yaK yau yaJ ybi yam ycq yaB yaR ybs ).imp λ_ _ _ _ q=>zq6 q
theorem ztx {l:W.OpenLaw} {q:Program} {loose:List Str} {XP:(Str->Option Value)->Heap->Prop} {YP:World->Heap->Prop} {d:DefRec} {K:Params->W.Frag} (hn:l.most=some 63) (hdf:d.params.defaults=[])
  (hY:∀ (w:World) (h:Heap),YP w h->(K w.params).In h)
  (F:∀ (w:World) (mg:Str->Option Value) (fa:Addr) (h:Heap),(K w.params).In h->h.Ns mainGlobals mg->mg d.name=some (.ref fa) →
   ∃ fd:FuncData,(∀ (s:Shared) (u:Value),BindsTo s fd ⟨[u],[]⟩ [("_law_script",u)])∧∀ base:Heap,(K w.params).In base->base.Ns mainGlobals mg->FnOk l.prog w (K w.params) mg base (CXE l.prog w) 10 fa fd ["_law_script"] (zn3 (K w.params))) :
  W.WalkO q loose XP YP l.row.toRowW d [] (λf vs=>PySem.call f vs) :=
 L2.zpZ (n:=63) (k:=10) (x:="_law_script") (CX:=λw=>CXE l.prog w) (sp:=λw=>zn3 (K w.params)) hn (by decide) hdf ⟨rfl,by decide,by decide⟩ hY F (λ_ _ a ns hl _ hS=>⟨a,ns,rfl,hS,hl,λ_=>rfl⟩) λ_ _ _ _ _ ⟨_,_,_,_,_,_,_,_,_,_,z⟩=>z
end
end My
section
open PySem PySem.W PyProof.Rows
set_option maxRecDepth 100000 in
set_option maxHeartbeats 0 in
theorem PySem.Challenge.cw_swapbook_k64_whole_books_between_books_holds : PySem.Challenge.rw_swapbook_k64_whole_books_between_books.Holds := by
 refine My.headT ?hc
 k_fill
 refine My.ztx (l:=PySem.Challenge.rw_swapbook_k64_whole_books_between_books) rfl rfl (λw h Y=>W.kIn_of Y) ?F
 case F =>
  intro w mg fa h KX G hmg
  refine' My.zqT KX G hmg ?ybP ?ybD ?ybQ ?ybR ?ybj ?a0 ?l0 ?c0 ?k0 ?a1 ?l1 ?c1 ?k1 ?a2 ?l2 ?c2 ?k2 ?a3 ?l3 ?c3 ?k3 ?a4 ?l4 ?c4 ?k4 ?a5 ?l5 ?c5 ?k5 ?a6 ?l6 ?c6 ?k6 ?a7 ?l7 ?c7 ?k7 ?a8 ?l8 ?c8 ?k8 ?a9 ?l9 ?c9 ?k9 ?a10 ?l10 ?c10 ?k10 ?a11 ?l11 ?c11 ?k11 ?a12 ?l12 ?c12 ?k12 ?a13 ?l13 ?c13 ?k13 ?a14 ?l14 ?c14 ?k14 ?a15 ?l15 ?c15 ?k15 ?a16 ?l16 ?c16 ?k16 ?a17 ?l17 ?c17 ?k17 ?a18 ?l18 ?c18 ?k18 ?a19 ?l19 ?c19 ?k19 ?a20 ?l20 ?c20 ?k20 ?a21 ?l21 ?c21 ?k21 ?a22 ?l22 ?c22 ?k22 ?a23 ?l23 ?c23 ?k23 ?a24 ?l24 ?c24 ?k24 ?a25 ?l25 ?c25 ?k25 ?a26 ?l26 ?c26 ?k26 ?a27 ?l27 ?c27 ?k27 ?a28 ?l28 ?c28 ?k28 ?a29 ?l29 ?c29 ?k29 ?a30 ?l30 ?c30 ?k30 ?a31 ?l31 ?c31 ?k31 ?a32 ?l32 ?c32 ?k32 ?a33 ?l33 ?c33 ?k33 ?a34 ?l34 ?c34 ?k34 ?a35 ?l35 ?c35 ?k35 ?a36 ?l36 ?c36 ?k36 ?a37 ?l37 ?c37 ?k37 ?a38 ?l38 ?c38 ?k38 ?a39 ?l39 ?c39 ?k39 ?a40 ?l40 ?c40 ?k40 ?a41 ?l41 ?c41 ?k41 ?a42 ?l42 ?c42 ?k42 ?a43 ?l43 ?c43 ?k43 ?a44 ?i44 ?l44 ?c44 ?k44 ?a45 ?i45 ?l45 ?c45 ?k45 ?ybS ?ybT ?ybU ?ybV ?ybW ?ybX ?yaX ?yaS ?ybE ?ybF ?ybG ?ybH ?ycr ?ycs ?yaw ?ybY ?ybZ ?yb0 ?yb1 ?ycI ?ycJ ?yaC ?yb2 ?yb3 ?yb4 ?yb5 ?ycK ?ycL ?yaD ?yaY ?ybk ?ybl ?ybm ?ybn ?ybo ?ybp ?yaE ?yaF ?yaG ?yaZ ?ycP ?ycQ ?yct ?ycR ?ycS ?yb6 ?ya7 ?ycT ?ycU ?g_MOST_WARES ?g_MOST_SWAPS
  (case ybP=>k_is)
  (case ybD=>k_is)
  (case ybQ=>k_is)
  (case ybR=>k_is)
  (case ybj=>k_is)
  (case a0=>k_is)
  (case l0=>k_is)
  (case c0=>k_is)
  (case k0=>k_is)
  (case a1=>k_is)
  (case l1=>k_is)
  (case c1=>k_is)
  (case k1=>k_is)
  (case a2=>k_is)
  (case l2=>k_is)
  (case c2=>k_is)
  (case k2=>k_is)
  (case a3=>k_is)
  (case l3=>k_is)
  (case c3=>k_is)
  (case k3=>k_is)
  (case a4=>k_is)
  (case l4=>k_is)
  (case c4=>k_is)
  (case k4=>k_is)
  (case a5=>k_is)
  (case l5=>k_is)
  (case c5=>k_is)
  (case k5=>k_is)
  (case a6=>k_is)
  (case l6=>k_is)
  (case c6=>k_is)
  (case k6=>k_is)
  (case a7=>k_is)
  (case l7=>k_is)
  (case c7=>k_is)
  (case k7=>k_is)
  (case a8=>k_is)
  (case l8=>k_is)
  (case c8=>k_is)
  (case k8=>k_is)
  (case a9=>k_is)
  (case l9=>k_is)
  (case c9=>k_is)
  (case k9=>k_is)
  (case a10=>k_is)
  (case l10=>k_is)
  (case c10=>k_is)
  (case k10=>k_is)
  (case a11=>k_is)
  (case l11=>k_is)
  (case c11=>k_is)
  (case k11=>k_is)
  (case a12=>k_is)
  (case l12=>k_is)
  (case c12=>k_is)
  (case k12=>k_is)
  (case a13=>k_is)
  (case l13=>k_is)
  (case c13=>k_is)
  (case k13=>k_is)
  (case a14=>k_is)
  (case l14=>k_is)
  (case c14=>k_is)
  (case k14=>k_is)
  (case a15=>k_is)
  (case l15=>k_is)
  (case c15=>k_is)
  (case k15=>k_is)
  (case a16=>k_is)
  (case l16=>k_is)
  (case c16=>k_is)
  (case k16=>k_is)
  (case a17=>k_is)
  (case l17=>k_is)
  (case c17=>k_is)
  (case k17=>k_is)
  (case a18=>k_is)
  (case l18=>k_is)
  (case c18=>k_is)
  (case k18=>k_is)
  (case a19=>k_is)
  (case l19=>k_is)
  (case c19=>k_is)
  (case k19=>k_is)
  (case a20=>k_is)
  (case l20=>k_is)
  (case c20=>k_is)
  (case k20=>k_is)
  (case a21=>k_is)
  (case l21=>k_is)
  (case c21=>k_is)
  (case k21=>k_is)
  (case a22=>k_is)
  (case l22=>k_is)
  (case c22=>k_is)
  (case k22=>k_is)
  (case a23=>k_is)
  (case l23=>k_is)
  (case c23=>k_is)
  (case k23=>k_is)
  (case a24=>k_is)
  (case l24=>k_is)
  (case c24=>k_is)
  (case k24=>k_is)
  (case a25=>k_is)
  (case l25=>k_is)
  (case c25=>k_is)
  (case k25=>k_is)
  (case a26=>k_is)
  (case l26=>k_is)
  (case c26=>k_is)
  (case k26=>k_is)
  (case a27=>k_is)
  (case l27=>k_is)
  (case c27=>k_is)
  (case k27=>k_is)
  (case a28=>k_is)
  (case l28=>k_is)
  (case c28=>k_is)
  (case k28=>k_is)
  (case a29=>k_is)
  (case l29=>k_is)
  (case c29=>k_is)
  (case k29=>k_is)
  (case a30=>k_is)
  (case l30=>k_is)
  (case c30=>k_is)
  (case k30=>k_is)
  (case a31=>k_is)
  (case l31=>k_is)
  (case c31=>k_is)
  (case k31=>k_is)
  (case a32=>k_is)
  (case l32=>k_is)
  (case c32=>k_is)
  (case k32=>k_is)
  (case a33=>k_is)
  (case l33=>k_is)
  (case c33=>k_is)
  (case k33=>k_is)
  (case a34=>k_is)
  (case l34=>k_is)
  (case c34=>k_is)
  (case k34=>k_is)
  (case a35=>k_is)
  (case l35=>k_is)
  (case c35=>k_is)
  (case k35=>k_is)
  (case a36=>k_is)
  (case l36=>k_is)
  (case c36=>k_is)
  (case k36=>k_is)
  (case a37=>k_is)
  (case l37=>k_is)
  (case c37=>k_is)
  (case k37=>k_is)
  (case a38=>k_is)
  (case l38=>k_is)
  (case c38=>k_is)
  (case k38=>k_is)
  (case a39=>k_is)
  (case l39=>k_is)
  (case c39=>k_is)
  (case k39=>k_is)
  (case a40=>k_is)
  (case l40=>k_is)
  (case c40=>k_is)
  (case k40=>k_is)
  (case a41=>k_is)
  (case l41=>k_is)
  (case c41=>k_is)
  (case k41=>k_is)
  (case a42=>k_is)
  (case l42=>k_is)
  (case c42=>k_is)
  (case k42=>k_is)
  (case a43=>k_is)
  (case l43=>k_is)
  (case c43=>k_is)
  (case k43=>k_is)
  (case a44=>k_is)
  (case i44=>k_is)
  (case l44=>k_is)
  (case c44=>k_is)
  (case k44=>k_is)
  (case a45=>k_is)
  (case i45=>k_is)
  (case l45=>k_is)
  (case c45=>k_is)
  (case k45=>k_is)
  (case ybS=>k_is)
  (case ybT=>k_is)
  (case ybU=>k_is)
  (case ybV=>k_is)
  (case ybW=>k_is)
  (case ybX=>k_is)
  (case yaX=>k_is)
  (case yaS=>k_is)
  (case ybE=>k_is)
  (case ybF=>k_is)
  (case ybG=>k_is)
  (case ybH=>k_is)
  (case ycr=>k_is)
  (case ycs=>k_is)
  (case yaw=>k_is)
  (case ybY=>k_is)
  (case ybZ=>k_is)
  (case yb0=>k_is)
  (case yb1=>k_is)
  (case ycI=>k_is)
  (case ycJ=>k_is)
  (case yaC=>k_is)
  (case yb2=>k_is)
  (case yb3=>k_is)
  (case yb4=>k_is)
  (case yb5=>k_is)
  (case ycK=>k_is)
  (case ycL=>k_is)
  (case yaD=>k_is)
  (case yaY=>k_is)
  (case ybk=>k_is)
  (case ybl=>k_is)
  (case ybm=>k_is)
  (case ybn=>k_is)
  (case ybo=>k_is)
  (case ybp=>k_is)
  (case yaE=>k_is)
  (case yaF=>k_is)
  (case yaG=>k_is)
  (case yaZ=>k_is)
  (case ycP=>k_is)
  (case ycQ=>k_is)
  (case yct=>k_is)
  (case ycR=>k_is)
  (case ycS=>k_is)
  (case yb6=>k_is)
  (case ya7=>k_is)
  (case ycT=>k_is)
  (case ycU=>k_is)
  (case g_MOST_WARES=>k_is)
  (case g_MOST_SWAPS=>k_is)
end
