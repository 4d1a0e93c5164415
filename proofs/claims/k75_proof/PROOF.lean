import PyProof.Rows.All
import Wide.All
import OpenK.AllK
import Wide.FinOn
import Lean
import PyProof.EqAt
import PyProof.EqKinds
import PyProof.TupleCall
import PySem.Challenge.RW_swapbook_k75_one_sender_behind_another
set_option Elab.async false
set_option linter.all false
set_option maxRecDepth 100000
set_option compiler.extract_closed false
set_option genSizeOf false
namespace Hd
open PySem PySem.W PyProof.Rows
def runT (p:Program) (w:World) (m:Nat) (a:Option Value):Nat->SharedT->Thread->Option SharedT
 | 0,_,_=>none
 | n+1,s,t=>match through t with
  | true=>some s
  | false=>match stepOk m a t with
   | true=>(match stepT (denote treeTable) p w s t with
    | some x=>runT p w m a n x.1 x.2
    | none=>none)
   | false=>none
theorem zpj {p:Program} {w:World} {m:Nat} {a:Option Value}:∀ {n:Nat} {s z:SharedT} {t:Thread},runT p w m a n s t=some z->topRun treeTable p w m a n s.abs t=some z.abs
 | 0,_,_,_,h=>by cases h
 | n+1,s,z,t,h=>by
  rw [runT] at h
  rw [topRun]
  cases h1:through t<;>rw [h1] at h
  ·cases h2:stepOk m a t<;>rw [h2] at h
   ·cases h
   ·cases h3:stepT (denote treeTable) p w s t with
    | none=>rw [h3] at h;cases h
    | some x=>rw [h3] at h;rw [stepT_spec (s':=x.1) (t':=x.2) h3];exact zpj h
  ·cases h;rfl
def tr:List Obj->Nat->BT->BT
 | [],_,t=>t
 | o :: r,n,t=>tr r (n+1) (t.ins n o)
noncomputable def boot (P:Params) (os:OsState):SharedT:=⟨tr (boot_heap P).objs.toList 0 .nil,11,(boot_heap P).life,Array.mk [],boot_drawn,boot_toks,os⟩
theorem zo7 (P:Params) (os:OsState):(boot P os).abs=⟨boot_heap P,Array.mk [],boot_drawn,boot_toks,os⟩:=by kernel_rfl
theorem zqE (P:Params):((boot_heap P).isNs mainGlobals&&(Array.mk ([]:List GenState)).size == 0)=true:=by kernel_rfl
theorem zqC (P:Params):(boot_heap P).objs.size=11:=by kernel_rfl
theorem zp8 (P:Params):(boot_heap P).nsMap mainGlobals "__annotations__"=some (.ref 6):=by kernel_rfl
noncomputable def lk (p:Program) (w:World) (s:Shared):Bool:=staticsOk (importedModules p.main.body) (boot_heap w.params) s.heap&&namesBound p s.heap&&gensDone s&&laidKept (boot_heap w.params) s.heap
def getT (s:SharedT) (a:Nat):Option Obj:=match Nat.blt a s.n with
 | true=>alive ((s.tree.get a).getD default)
 | false=>none
theorem zrk (s:SharedT) (a:Nat):s.abs.heap.get? a=getT s a:=by
 show (absHeap s.tree s.n s.life).get? a=_
 unfold Heap.get? getT
 rw [absHeap_at]
 by_cases h:a<s.n
 ·have e:Nat.blt a s.n=true:=by simpa [Nat.blt_eq] using h
  rw [if_pos h,e]
  generalize (s.tree.get a).getD default=o
  obtain ⟨c,d,dt,sl⟩:=o
  cases dt<;>rfl
 ·have e:Nat.blt a s.n=false:=by
   cases q:Nat.blt a s.n with
   | false=>rfl
   | true=>exact absurd (by simpa [Nat.blt_eq] using q) h
  rw [if_neg h,e]
theorem y_is (as:List Addr) (s:SharedT):as.map s.abs.heap.get?=as.map (getT s):=by
 congr 1
 funext a
 exact zrk s a
theorem left_of {p q:Program} {loose:List Str} {Xt:Shared->Bool} {α:Type} {Yf:Shared->α} {Ya:World->α} {N:Nat} {g0:Bool} {YT:SharedT->α}
  (e:opening p=plainProg p.main.scope.names) (hN:Nat.ble 600 N=true) (f:∀ s,fenceModules? p s=some s) (hy:∀ s:SharedT,Yf s.abs=YT s)
  (h:∀ w os,(runT p w 11 (some (.ref 6)) N (boot w.params os) (topStub p)).map (λs=>(lk p w s.abs,openSeen q loose (importedModules p.main.body) Xt g0 s.abs,YT s))=some (true,openGood q loose,Ya w)):LeftO p q loose Xt Yf Ya N g0:=λw=>by
 obtain ⟨s,h1,h2⟩:=Option.map_eq_some_iff.mp (boot_open e hN f w)
 obtain ⟨hp,gs,dr,tk,os⟩:=s
 have h3:hp=boot_heap w.params∧gs=Array.mk []∧dr=boot_drawn∧tk=boot_toks:=by simpa using h2
 obtain ⟨rfl,rfl,rfl,rfl⟩:=h3
 obtain ⟨z,h4,h5⟩:=Option.map_eq_some_iff.mp (h w os)
 have h6:=zpj h4
 rw [zo7] at h6
 obtain ⟨l1,l2,l3⟩:_∧_∧_:=by simpa only [Prod.mk.injEq] using h5
 unfold openEnds
 rw [h1]
 show (topFrom treeTable p w N _).map _=_
 have h7:topFrom treeTable p w N ⟨boot_heap w.params,Array.mk [],boot_drawn,boot_toks,os⟩=some z.abs:=by
  unfold topFrom
  dsimp only
  rw [zqE,zqC,zp8,h6]
  show (match lk p w z.abs with | true=>_ | false=>_)=_
  rw [l1]
 rw [h7]
 exact congrArg some (Prod.ext l2 ((hy z).trans l3))
end Hd
set_option maxRecDepth 100000
namespace My
open PySem PySem.W PyProof.Rows
noncomputable def hdF (q:Program) (as:List Addr) (N:Nat) (w:World) (os:OsState) (bh:Heap) :=
 (Hd.runT PySem.Challenge.rw_swapbook_k75_one_sender_behind_another.row.prog w 11 (some (.ref 6)) N ⟨Hd.tr bh.objs.toList 0 .nil,11,bh.life,Array.mk [],boot_drawn,boot_toks,os⟩ (topStub PySem.Challenge.rw_swapbook_k75_one_sender_behind_another.row.prog)).map (λs=>(staticsOk (importedModules PySem.Challenge.rw_swapbook_k75_one_sender_behind_another.row.prog.main.body) bh s.abs.heap&&namesBound PySem.Challenge.rw_swapbook_k75_one_sender_behind_another.row.prog s.abs.heap&&gensDone s.abs&&laidKept bh s.abs.heap,
  openSeen q [] (importedModules PySem.Challenge.rw_swapbook_k75_one_sender_behind_another.row.prog.main.body) (λs=>xlAt q [] s&&recOk (RowW.records PySem.Challenge.rw_swapbook_k75_one_sender_behind_another.row.toRowW) s) true s.abs,as.map (Hd.getT s)))
noncomputable def hdG (q:Program) (K:Params->Frag) (w:World):=some (true,openGood q [],(K w.params).map λp=>some p.2)
end My
set_option Elab.async false
lay_quick My.hdF My.hdG
namespace My
open PySem PySem.W PyProof.Rows
theorem ztt {q:Program} {K:Params->Frag} {as:List Addr} {N:Nat} {e:∀ P,as=(K P).map (·.1)} (hN:Nat.ble 600 N=true)
  (h:∀ w os,W.Fast.tw6084617276858994590 q as N w os (boot_heap w.params)=W.Fast.tw7309032369996461460 q K w) :
  LeftO PySem.Challenge.rw_swapbook_k75_one_sender_behind_another.row.prog q [] (λs=>xlAt q [] s&&recOk (RowW.records PySem.Challenge.rw_swapbook_k75_one_sender_behind_another.row.toRowW) s) (kHook K as e).obs (kHook K as e).val N:=by
 rw [← W.Fast.te6084617276858994590,← W.Fast.te7309032369996461460] at h
 exact Hd.left_of (by kernel_rfl) hN (λs=>by kernel_rfl) (Hd.y_is as) h
end My
section
local macro_rules
 | `(tactic| refine $e:term)=>do
  if e.raw.isOfKind `Lean.Parser.Term.app&&e.raw[0].getId.eraseMacroScopes == `PySem.W.holds_open then
   let some _:=e.raw.find? (λs=>s.isOfKind `Lean.Parser.Term.syntheticHole&&s[1].getId.eraseMacroScopes == `hl) | Lean.Macro.throwUnsupported
   let h ← `(My.ztt (by decide) (λw os=>by kernel_rfl))
   let e' ← e.raw.replaceM λs=>pure (if s.isOfKind `Lean.Parser.Term.syntheticHole&&s[1].getId.eraseMacroScopes == `hl then some h.raw else none)
   `(tactic| refine $(⟨e'⟩))
  else Lean.Macro.throwUnsupported
open PySem PySem.W PyProof.Rows
set_option maxRecDepth 100000 in
set_option maxHeartbeats 0 in
open_top My.headT for PySem.Challenge.rw_swapbook_k75_one_sender_behind_another
end
set_option hygiene false in
local macro_rules
 | `(↑32)=>`((λ(p:↑24)=>dT [dL (List.map lI p.a),dL (List.map lI p.b),dL (List.map dI p.c),dL (List.map lI p.d)]))
 | `(⇑4)=>`(⟨rfl,rfl,rfl,by decide+kernel,rfl,by decide+kernel,by decide+kernel⟩)
 | `(↑8)=>`((by first|(rw [List.map_map];rfl)|(simp only [cond_true,cond_false];rw [List.map_map];rfl)))
 | `(↥0)=>`((by assumption))
 | `(↑2)=>`((zaa (i:=0) rfl))
 | `(↥1)=>`((hr.mono ↑1))
 | `(⇑0)=>`((Or.inl rfl))
 | `(↑58)=>`((.eq (.eq (.eq ↑39))))
 | `(↑0)=>`((by omega))
 | `(⇑3)=>`((zaa (i:=1) rfl))
 | `(↑207)=>`((λ(s293:Ji)=>([⇑[dT [dL ↑14,dL ↑15,dL ↑13,dL ↑16]],⇑[dT [dL ↑157,dL ↑158,dL ↑156,dL ↑159]],⇑[dI P2],⇑[dI P3],.ow true (List.map lI s287),↥[dI x288],↥[dL (List.map dI s293)],.no,.no,.no]:L2.Ctx)))
 | `(↑178)=>`((λ(s263:Jq×Jq)=>([⇑[dQ K ↑10],⇑[dQ K ⇑6],⇑[dI P2],⇑[dQ K ↑133],.ow true (List.map lI s263.1),.no,.no,↥[dI v251],.tl (dRI s263.2),.no,.no,.no,.no,.no]:L2.Ctx)))
 | `(⇑8)=>`((λcdv Ar outer s H E x hr hp=> ?_))
 | `(↑5)=>`(⟨by decide,by decide⟩)
 | `(↑123)=>`((by apply zal;subst_vars;simp only [List.length_append,List.length_cons,List.length_nil,List.length_map];omega))
 | `(↑29)=>`((zaa (i:=2) rfl))
 | `(↑76)=>`((λ(r:(BookD×Jq))=>Oc.rt false (dT [zaM A.Book r.1,dL (List.map lI r.2)])))
 | `(↑3)=>`((model X.prog X.w))
 | `(↑12)=>`((Ev.any (m:=true) ↑119))
 | `(⇑9)=>`((λ(r:Bool)=>Oc.rt true (dB r)))
 | `(↑179)=>`((λ(s212:Jq×Jq)=>([⇑[dI P0],⇑[dQ K ⇑6],.ow true (List.map lI s212.1),.ow true (List.map lI s212.2),.no,.no,.no,.no]:L2.Ctx)))
 | `(↑208)=>`(["_law_script","_law_sides","_law_left","_law_right","_law_books","_law_first","_law_start_here","_law_baskets","_law_second","_law_wide","_law_unlike","_law_due","_law_k","_law_found","_law_caught","_law_cell_here","_law_basket"])
 | `(↑4)=>`((by decide+kernel))
 | `(↑180)=>`((λ(s21:Int×Int×Int×Int)=>([⇑[dI P0],⇑[dI P1],↥[dI s21.1],↥[dI s21.2.1],↥[dI s21.2.2.1],↥[dI s21.2.2.2],.no,.no]:L2.Ctx)))
 | `(↑99)=>`((λ(r:(Jq×Jq))=>Oc.rt true (dT [dL (List.map lI r.1),dL (List.map lI r.2)])))
 | `(↑124)=>`((λ(r:(Int×(Option (LineD⊕RestD))))=>Oc.rt true (dT [dI r.1,dOpt (dSc A) r.2])))
 | `(↑235)=>`((show (["_law_a","_law_b","_law_many"]:List Str).Nodup by decide+kernel))
 | `(↥3)=>`((λ_ _=>rfl))
 | `(↑7)=>`((zap (K:=K) rfl))
 | `(↑77)=>`((EvO.ev (zb1 ↑28 ↑142)))
 | `(↑50)=>`(((Option SenderD)×(Option Xn)))
 | `(⇑1)=>`((CXE P w))
 | `(↥5)=>`((List.map dI P0))
 | `(↑6)=>`((.type "NoneType"))
 | `(↑209)=>`(["_law_rows","_law_bottoms_here","_law_idle","_law_cells","_law_swaps","_law_row","_law_number","_law_kept","_law_trips","_law_cell_here","_law_one","_law_two","_law_many","_law_trip"])
 | `(↑163)=>`((λ(x:Int)=>List.map (λ(y:Int)=>(if (decide (y=x)) then (1:Int) else 0)) (zbf 0 w.toNat)))
 | `(↑26)=>`((λ(r:Int)=>Oc.rt true (dI r)))
 | `(↑257)=>`((List.map (λ(x224:↑17)=>(x224.1-(v219*x224.2))) (List.zip (ixD s212.2 v217) (ixD s212.2 v218))))
 | `(↑210)=>`((λ(r:↑24)=>Oc.rt true (dT [dL (List.map lI r.a),dL (List.map lI r.b),dL (List.map dI r.c),dL (List.map lI r.d)])))
 | `(↑38)=>`((zaa (i:=3) rfl))
set_option hygiene false in
local macro_rules
 | `(↑181)=>`((λ(s411:Option ↑50)=>([⇑[dQ K ↥5],↥[dL (List.map ↑32 p394.a)],↥[dL (List.map lI p394.b)],↥[dL (List.map lI p394.c)],↥[dL (List.map (zaM A.Book) v398)],⇑[zav A A.Sender v402],⇑[zaM A.Book p403.1],⇑[dL (List.map lI p403.2)],⇑[zav A A.Sender v404],↥[dI v405],↥[dB v406],↥[dL (List.map lI v410)],.no,(match s411 with|none=>Slot.no|some z=> ⇑[dOpt ↑86 z.1]),(match s411 with|none=>Slot.no|some z=> ⇑[dOpt ↑96 z.2]),.no,.no]:L2.Ctx)))
 | `(↑236)=>`((λ(s421:Unit)=>([⇑[dQ K ↥5],↥[dL (List.map ↑32 p394.a)],↥[dL (List.map lI p394.b)],↥[dL (List.map lI p394.c)],↥[dL (List.map (zaM A.Book) v398)],⇑[zav A A.Sender v402],⇑[zaM A.Book p403.1],⇑[dL (List.map lI p403.2)],⇑[zav A A.Sender v404],↥[dI v405],↥[dB v406],↥[dL (List.map lI v410)],.no,⇑[dOpt ↑86 ((gS r420).1)],⇑[dOpt ↑96 ((gS r420).2)],.no,.no]:L2.Ctx)))
 | `(↑125)=>`((λ(r:(T3 ↑49 Jq Jq))=>Oc.rt true (dT [dL (List.map ↑32 r.a),dL (List.map lI r.b),dL (List.map lI r.c)])))
 | `(↑1)=>`((by decide))
 | `(↥6)=>`((Ev.any (m:=false) ⇑3))
 | `(↑237)=>`((λ_ _ _ _ _=>⟨(zbu (K:=K) (n:=2) rfl rfl (zaG (zan (i:=0) ↑235 rfl ⇑0 ↥2) (zaG (zan (i:=1) ↑235 rfl ⇑0 ↥2) zci))),za5,(zaz zcG (pv 0) (zaz zbI (pv 2) (pv 1)))⟩))
 | `(↑9)=>`((Ev.any (m:=false) ↑2))
 | `(↑211)=>`((λ(s:Jq) (x:Ji×Int)=>Let (bif (decide ((0:Int)<x.2)) then (s++[List.map (λ(y:Int)=>(x.2*y)) x.1]) else s) (λ(z:Jq)=>z)))
 | `(↑89)=>`((List.filter (λ(t:Ji)=>decide (zaj t<b.many)) rows))
 | `(↑67)=>`((λ(r:Ji)=>Oc.rt true (dL (List.map dI r))))
 | `(⇑6)=>`((List.map dI P1))
 | `(↑51)=>`((zas (K:=K) rfl))
 | `(↑134)=>`((zcA (zcc (K:=K) rfl) rfl T.list PyProof.Rows.boot_list ↑[pv 0]))
 | `(⇑2)=>`((Addr×Obj))
 | `(↑30)=>`((zaK (K:=K) rfl (pv 0) rfl))
 | `(↑52)=>`(((List.getElem?_eq_some_iff.mp e)))
 | `(↑258)=>`((by ((try simp only [decide_eq_true_eq,decide_eq_false_iff_not,Bool.not_eq_true',Bool.not_eq_false',Bool.and_eq_true,Bool.or_eq_false_iff,Bool.or_eq_true,Bool.and_eq_false_iff,Bool.cond_eq_ite] at*)<;>omega)))
 | `(↑23)=>`((.ref (A.xc .OtherBook)))
 | `(↑238)=>`((λ(head:Int)=>Let (zck s x) (λ(weight:Int)=>Let (zax s (ixD x head)) (λ(numbers:Ji)=>Let (zdn numbers head (-weight)) (λ(y:Ji)=>y)))))
 | `(↑239)=>`((bif (!decide (v268=v269)) then (List.map (λ(ns275:Ji)=>zdn ns275 v268 ((ixD ns275 v268)-(v270*(ixD ns275 v269)))) s263.2) else s263.2))
 | `(↑212)=>`((List.map (λ(x221:↑17)=>(x221.1+(v219*x221.2))) (List.zip (ixD s212.1 v218) (ixD s212.1 v217))))
 | `(↑213)=>`((List.map (λ(x272:↑17)=>(x272.1+(v270*x272.2))) (List.zip (ixD s263.1 v269) (ixD s263.1 v268))))
 | `(↑214)=>`((bif ↑139 then (v298*(v299/(zaA v299 (↑122%v299)))) else v298))
 | `(↑39)=>`((.eq (.eq ↑116)))
 | `(↑215)=>`((λ(s98:Ji)=>([⇑[dQ K ↑10],⇑[dI P1],.ow true (List.map dI s98),.no,.no,.no]:L2.Ctx)))
 | `(↑33)=>`((zaa (i:=4) rfl))
 | `(↑68)=>`((λcdv Ar outer s H E P0 hr hp=> ?_))
 | `(↑90)=>`((Ev.weak (K:=K) ↑29))
 | `(↑240)=>`((bif (decide ((zaj s54.2)=(zaj x55.2))) then (m_lowered ((↑132).2) (zcs P0 (some (x55.1+(1:Int))) none)) else s54.2))
 | `(↑47)=>`((.builtin "object.__class__"))
 | `(↑40)=>`(((10:Int) ^ (9:Int).toNat))
 | `(↑42)=>`((zaW (K:=K) rfl))
 | `(↑164)=>`((zkt ⇑1 P w K mg base N qual (zad st) f cdv A outer s H E))
 | `(↑78)=>`((Ev.any (m:=true) ↑73))
 | `(↑13)=>`((List.map dI P0.c))
 | `(↑14)=>`((List.map lI P0.a))
 | `(↑15)=>`((List.map lI P0.b))
 | `(↑16)=>`((List.map lI P0.d))
 | `(↑216)=>`((λxs H Q=>∃p ys,xs=[.ref p]∧(SqL K H p ys∨SqT K H p ys)∧Q (.int ys.length) H))
 | `(↑217)=>`(["_law_side_here","_law_right","_law_second","_law_cell_here","_law_swaps","_law_wide","_law_baskets","_law_way"])
set_option hygiene false in
local macro_rules
 | `(↥2)=>`((Or.inr rfl))
 | `(↑241)=>`((λ(s54:Jq×Ji)=>([⇑[dQ K ↑10],⇑[dQ K ⇑6],↥[dL (List.map dI s54.2)],.ow false (List.map lI s54.1),.no,.no,.no]:L2.Ctx)))
 | `(↑24)=>`((T4 Jq Jq Ji Jq))
 | `(↑135)=>`((zb8 (f:=↑32) (xs:=r347) rfl zaD ↥(zoL hI ↑1)))
 | `(↑91)=>`((zct X (own++fvn) scope cl C fp s H))
 | `(↑242)=>`((List.map (λ(x320:↑17)=>(x320.1+((ixD (ixD P0.b x316) x310)*x320.2))) (List.zip s315 (ixD P1 x316))))
 | `(↑218)=>`((zbd (f:=(zaM A.Book)) (xs:=v398) (Ev.weak (K:=K) ↑33) zaD ↥(zrT hT hK ↑1)))
 | `(↑165)=>`((Ev.any (m:=false) (zbh ↑2 T.Book_cl T.Book_many rfl)))
 | `(↑100)=>`((max (1:Int) ((s263.1.length:Nat):Int)))
 | `(↑43)=>`((Ev.any (m:=false) ↑29))
 | `(↥8)=>`((Nat.le_refl _))
 | `(↥9)=>`((List.map lI P1))
 | `(↑79)=>`((backTo pos (starEach es X.env)))
 | `(↑25)=>`((zbY I q ⇑5))
 | `(↑219)=>`(["_law_wide","_law_cells","_law_rows","_law_duals","_law_cell_here","_law_one","_law_two","_law_many"])
 | `(↑34)=>`(((P0.length:Nat):Int))
 | `(↑220)=>`((λ(r:(Ji×Ji))=>Oc.rt true (dT [dL (List.map dI r.1),dL (List.map dI r.2)])))
 | `(↑136)=>`((.eq (.eq (.eq (.eq ↑148)))))
 | `(↑59)=>`(((steps.length+1)*(s+9000)))
 | `(↑259)=>`(((scope.names.map λ(n,k)=>if (k==NameKind.free && X.env.scope.kind== .function && X.env.kindOf n==some .cell) then (n,NameKind.cell) else (n,k))))
 | `(↑243)=>`((Ev.weak (K:=K) (zbM (zbd (f:=↑32) (xs:=P1) ⇑3 zaD (by have z:=hp.1;unfold InB;omega)) zaD rfl)))
 | `(↑101)=>`((max (1:Int) ((s.1.length:Nat):Int)))
 | `(↑60)=>`(((Lat.lv (n+1) ss).take n))
 | `(↑137)=>`((.Call (.Attribute o m apos) (e::es) [] pos))
 | `(↑44)=>`(((f.c.length:Nat):Int))
 | `(↑102)=>`((Ev.any (m:=true) (zaa (i:=7) rfl)))
 | `(↑103)=>`((Ev.weak (K:=K) (zbM ↑2 zaD rfl)))
 | `(↑35)=>`((s.heap.objs.size+1))
 | `(↑53)=>`((Ev.any (m:=true) ↑38))
 | `(↑138)=>`((λ(r:Jq)=>Oc.rt true (dL (List.map lI r))))
 | `(↑182)=>`((EvO.ev (EvO.anyI (m:=false) (ze4 ↑94))))
 | `(↑69)=>`((List.mem_cons_of_mem _ ht))
 | `(↑166)=>`((zct X (own++fvn) scope cl' G2.objs.size fp s H2))
 | `(↑126)=>`((by rw [List.length_singleton];omega))
 | `(↑221)=>`((zam ↑51 rfl T.len PySem.boot_len ↑[↑201]))
 | `(↑19)=>`((za1 (K:=K) rfl))
 | `(↑167)=>`((((ss.length:Nat):Int)=((rows.length:Nat):Int)))
 | `(↑222)=>`((List.map (λ(x156:Ji)=>x156) P2))
 | `(↑54)=>`((x==("__debug__" :Str)))
 | `(↑244)=>`((zaS ↑42 (zaS ↑7 (pv 1) zai ↥3) zai ↥3))
set_option hygiene false in
local macro_rules
 | `(↑10)=>`((List.map lI P0))
 | `(↑70)=>`((zaS ↑7 (pv 4) zai ↥3))
 | `(↑55)=>`(⟨by omega,by omega⟩)
 | `(↑245)=>`((List.map (λ(x303:↑17)=>(x303.1+(v302*x303.2))) (List.zip s293 (ixD P1.a x294))))
 | `(↑168)=>`(((decide ((0:Int)<y)) && (decide (b=(0:Int)))))
 | `(↑246)=>`((λ(r:↑50)=>Oc.rt false (dT [dOpt ↑86 r.1,dOpt ↑96 r.2])))
 | `(↥4)=>`((λ_=>rfl))
 | `(↑183)=>`((λz=>hc (by rw [z];exact List.mem_singleton.mpr rfl)))
 | `(↑104)=>`((λ(xs:Jq)=>dL (List.map lI xs)))
 | `(↑61)=>`((Ev.any (m:=true) ↑29))
 | `(↑169)=>`((λ(r:Jq)=>Oc.rt false (dL (List.map lI r))))
 | `(↑71)=>`((Ev.any (m:=true) ↑33))
 | `(↑184)=>`((show (["a","b"]:List Str).Nodup by decide+kernel))
 | `(↑127)=>`((Ev.weak (K:=K) ↑119))
 | `(↑45)=>`((Lat.zgL b.swaps x))
 | `(↑80)=>`((show false=true from hs))
 | `(↑105)=>`((by show 2≤sizeLine;decide))
 | `(↑185)=>`((Nat.lt_of_lt_of_le ↑117 I.ok.above))
 | `(↑186)=>`((.ListComp elt [⟨tg,iter,ifs,0⟩] scope pos))
 | `(↑92)=>`((Lat.lv (n+1) ↑21))
 | `(↑46)=>`((ixD r347 (1:Int)))
 | `(↑187)=>`((zam ↑51 rfl T.len PySem.boot_len ↑[pv 0]))
 | `(↑188)=>`((zam ↑51 rfl T.len PySem.boot_len ↑[pv 1]))
 | `(↑189)=>`((zam ↑51 rfl T.len PySem.boot_len ↑[pv 2]))
 | `(↑223)=>`((A.deeper (envOfC qual (zad st) s.heap.objs.size f cdv)))
 | `(↑72)=>`((Ev.weak (K:=K) ↑38))
 | `(↑139)=>`((decide ((0:Int)<↑122)))
 | `(↑81)=>`(((P0.c.length:Nat):Int))
 | `(↑106)=>`((Option SenderD×Option Xn))
 | `(↑170)=>`((some (.builtin "object.__setattr__")))
 | `(↑224)=>`((λx=>[dQ K (List.map dI x.1),dQ K ↑161]))
 | `(↑62)=>`((ixD p394.a (1:Int)))
 | `(↑171)=>`((((P3+((8:Int)*x288))+x294)%(60:Int)))
 | `(↑128)=>`((by show 3≤sizeLine;decide))
 | `(↑31)=>`((.ref (A.xc e)))
 | `(↑190)=>`((∀x c,X.env.cells.lookup x=some c->c≠b))
 | `(↑247)=>`((bif (!decide (v217=v218)) then (zdn s212.2 v217 ↑257) else s212.2))
 | `(↑225)=>`((List.map (λ(x125:Ji)=>(x125++[(0:Int)])) P0.swaps))
 | `(↑41)=>`((2147483647:Int))
 | `(↑140)=>`((List.getElem?_eq_getElem ↑0))
set_option hygiene false in
local macro_rules
 | `(↑63)=>`((by simpa using hi))
 | `(⇑7)=>`((-(1:Int)))
 | `(↑27)=>`((model prog w))
 | `(↑191)=>`((λ(xs:(List Bool))=>dL (List.map dB xs)))
 | `(↥7)=>`(["one","other"])
 | `(↑82)=>`((Ev.weak (K:=K) ⇑3))
 | `(↑172)=>`((.Call (.Name x p) (e::es) [] pos))
 | `(⇑5)=>`((by simp))
 | `(↑248)=>`((List.mem_append_right _ (List.mem_append_right _ (zgd hb e))))
 | `(↑141)=>`(["_law_cell_here","_law_k","_law_many"])
 | `(↑226)=>`((List.map (λ(x246:Int)=>(x241.2*x246)) x241.1))
 | `(↑142)=>`((by show 1≤sizeLine;decide))
 | `(↑173)=>`((λr=>Oc.rl true (List.map dB r)))
 | `(↑192)=>`((.builtin "getset_descriptor.__get__"))
 | `(↑93)=>`((ixD P1 (0:Int)))
 | `(↑107)=>`(((v359.length:Nat):Int))
 | `(↑108)=>`((Ev.any (m:=true) ⇑3))
 | `(↑109)=>`((decide (v365=(5:Int))))
 | `(↑143)=>`((List.mem_singleton.mpr rfl))
 | `(↑193)=>`(((M.f (vec s (hd s)) (vec l (hd s)))))
 | `(↑94)=>`((Ev.weak (K:=K) ↑2))
 | `(↑194)=>`((backToKw pos (keywordEach [] X.env)))
 | `(↑28)=>`((zab zaD zag))
 | `(↑174)=>`((by refine ⟨?_,?_⟩<;>omega))
 | `(↑260)=>`((hs.2 b (Nat.ne_of_lt (Nat.lt_of_lt_of_le ↑117 (I.ok.cab x c hfn hc)))))
 | `(↑195)=>`((Ev.any (m:=true) (zaa (i:=10) rfl)))
 | `(↑196)=>`((zbf 0 ((y.b.length:Nat):Int).toNat))
 | `(↑83)=>`((a.inj i j q e2 h2))
 | `(↑144)=>`((zaK (K:=K) rfl (pv 1) rfl))
 | `(↑249)=>`((A.under (.builtin "type.__call__" ⟨.ref C::us,kw⟩)))
 | `(↑110)=>`((ha pins s σ H _ I h))
 | `(↑95)=>`(((s.length:Nat):Int))
 | `(↑145)=>`((ha pos pins s σ H _ I h))
 | `(↑197)=>`((λv (d:Ds)=>d.pr (part m F Hb) v))
 | `(↑227)=>`((envOfC qual scope s.heap.objs.size f cd))
 | `(↑175)=>`((λx=>[dQ K (List.map dI x)]))
 | `(↑84)=>`(("OtherBook" :Str))
 | `(↑64)=>`((.no (.no .nil)))
 | `(↑65)=>`((EP X pins σ Q))
 | `(↑85)=>`((ixD v398 (1:Int)))
set_option hygiene false in
local macro_rules
 | `(↑198)=>`((zc7 (((↑93).length:Nat):Int) [(0:Int)]))
 | `(↑20)=>`((a.grow g1))
 | `(↑21)=>`((snS n b x))
 | `(↑111)=>`(((a.length:Nat):Int))
 | `(↑112)=>`((by intro z;cases z))
 | `(↑73)=>`((zaa (i:=6) rfl))
 | `(↑11)=>`((.ref yaa))
 | `(↑199)=>`((by rw [List.length_zip];omega))
 | `(↑96)=>`((λe=>dE (A.xc e)))
 | `(↑146)=>`((Ev.any (m:=true) ↑2))
 | `(↑56)=>`((ns.map V.int))
 | `(↑147)=>`((zaV (K:=K) rfl (pv 2)))
 | `(↑250)=>`((zam ↑51 rfl T.len PySem.boot_len ↑[↑244]))
 | `(↑17)=>`((Int×Int))
 | `(↑251)=>`((zam ↑51 rfl T.len PySem.boot_len ↑[pv 4]))
 | `(↑86)=>`((zav A A.Sender))
 | `(↑87)=>`((λz=>nomatch z))
 | `(↑228)=>`(((backTo cpos (starEach es X.env))))
 | `(↑74)=>`((Sum.inr false))
 | `(↑75)=>`((by simp;omega))
 | `(↑48)=>`((g1.trans g2))
 | `(↑18)=>`((xs.map f))
 | `(↑148)=>`((.eq (.eq (.eq ↑58))))
 | `(↑149)=>`((he pins s σ H _ I h))
 | `(↑150)=>`((λv (d:Ds)=>d.pr H v))
 | `(↑113)=>`(((zg4 hO hT ↥0)))
 | `(↑66)=>`((Ev.old ↑90))
 | `(↑114)=>`((by simpa using h))
 | `(↑115)=>`((zbf 0 idle.toNat))
 | `(↑200)=>`((show u=Value.ref a from rx))
 | `(↑57)=>`((lv (n+1) ss))
 | `(↑151)=>`((zaC (zak (zaH zaD))))
 | `(↑229)=>`((λr=>Oc.rl true (List.map dI r)))
 | `(↑252)=>`((by simp only [List.size_toArray]<;>omega))
 | `(↑253)=>`((zbh ↑2 T.Sender_cl T.Sender_second rfl))
 | `(↑22)=>`((a.grow g))
 | `(↑201)=>`((zaS ↑42 (pv 0) zai ↥3))
 | `(↑202)=>`((⟨P0,P1,↑222⟩:SenderD))
 | `(↑176)=>`(((P1.c.length:Nat):Int))
 | `(↑36)=>`((Str×Addr))
set_option hygiene false in
local macro_rules
 | `(↑254)=>`((zbh ↑2 T.Sender_cl T.Sender_first rfl))
 | `(↑152)=>`(((x.natAbs:Nat):Int))
 | `(↑49)=>`((List ↑24))
 | `(↑203)=>`((Sum.inl (some (z.1,z.2))))
 | `(↑129)=>`(((↥0:StI W _ _)))
 | `(↑130)=>`((ixD r347 (2:Int)))
 | `(↑177)=>`(((s.c.length:Nat):Int))
 | `(↑204)=>`((s.heap.push W.emptyDict))
 | `(↑116)=>`((.eq (.eq .nil)))
 | `(↑117)=>`((Heap.lt_size e))
 | `(↑118)=>`((b.many+(1:Int)))
 | `(↑255)=>`((b∈X.ex∨X.s₀.heap.objs.size≤b))
 | `(↑119)=>`((zaa (i:=5) rfl))
 | `(↑120)=>`((zar (.eq ↑58)))
 | `(↑88)=>`((zbj ↑[zai]))
 | `(↑121)=>`((zde (K:=K) rfl))
 | `(↑153)=>`((zac (zaR zj3) zaf))
 | `(↑154)=>`((zed (m:=true) zag))
 | `(↑155)=>`((σ.set i (some v)))
 | `(↑230)=>`((List.getElem?_eq_getElem hl))
 | `(↑131)=>`((zar (Wk.refl _)))
 | `(↑132)=>`((zbB x55.2 s54.2))
 | `(↑205)=>`(((List.range xs.length)))
 | `(↑156)=>`((List.map dI P1.c))
 | `(↑157)=>`((List.map lI P1.a))
 | `(↑158)=>`((List.map lI P1.b))
 | `(↑159)=>`((List.map lI P1.d))
 | `(↑160)=>`((by simpa using e))
 | `(↑256)=>`(((List.getElem?_eq_some_iff.mp hn)))
 | `(↑37)=>`((.inl rfl))
 | `(↑97)=>`((.ins C dx fs))
 | `(↑122)=>`((ixD P0.c x288))
 | `(↑98)=>`((some (1:Int)))
 | `(↑133)=>`((List.map dI P3))
 | `(↑231)=>`((List.mem_cons_of_mem _ hb))
 | `(↑232)=>`((List.mem_cons_of_mem _ hv))
 | `(↑233)=>`((List.mem_cons_of_mem _ hy))
 | `(↑234)=>`((m_law_sums v410 v429 v405))
 | `(↑206)=>`(((List.of_mem_zip hz)))
 | `(↑161)=>`((List.map dI x.2))
set_option hygiene false in
local macro_rules
 | `(↑162)=>`((Nat.lt_irrefl _))
set_option hygiene false in
local macro_rules
 | `(⇑[$x])=>`((.va false $x))
 | `(↥[$x])=>`((.va true $x))
 | `(↥($x))=>`((by exact $x))
set_option hygiene false in
local macro_rules
 | `(↥991)=>`((λ_ _ _ _ _ _ us hl=>match us,hl with | [_],_=>rfl))
 | `(↥992)=>`((λ_ _ _ _ _ _ us hl=>match us,hl with | [_,_],_=>rfl))
 | `(↥993)=>`((λ_ _ _ _ _ _ us hl=>match us,hl with | [_,_,_],_=>rfl))
 | `(↥994)=>`((λ_ _ _ _ _ _ us hl=>match us,hl with | [_,_,_,_],_=>rfl))
abbrev Ji:=List Int
abbrev Jq:=List Ji
set_option hygiene false in
local macro_rules
 | `(↑[$a0])=>`((zbF $a0 zeT))
 | `(↑[$a0,$a1])=>`((zbF $a0 (zbF $a1 zeT)))
 | `(↑[$a0,$a1,$a2])=>`((zbF $a0 (zbF $a1 (zbF $a2 zeT))))
 | `(↑[$a0,$a1,$a2,$a3])=>`((zbF $a0 (zbF $a1 (zbF $a2 (zbF $a3 zeT)))))
 | `(↑[$a0,$a1,$a2,$a3,$a4])=>`((zbF $a0 (zbF $a1 (zbF $a2 (zbF $a3 (zbF $a4 zeT))))))
 | `(↑[$a0,$a1,$a2,$a3,$a4,$a5])=>`((zbF $a0 (zbF $a1 (zbF $a2 (zbF $a3 (zbF $a4 (zbF $a5 zeT)))))))
namespace L2
open PySem PySem.Spec PyProof.Rows
abbrev Key:=Sum Int Str
def zsY:Key->Value->Bool
 | .inl k,v=>Value.isInt k v
 | .inr x,v=>Value.isStrOf x v
def zvt (w:World):Key->Int
 | .inl k=>hashInt k
 | .inr x=>hashStr w x
theorem zcr:∀ {k:Key} {v:Value},zsY k v=true->(∃ i t,k=Sum.inl i∧v=Value.int i t)∨(∃ x t,k=Sum.inr x∧v=Value.str x t)
 | .inl i,v,h=>by
  obtain ⟨t,e⟩:=Value.isInt_shape (k:=i) (v:=v) h
  exact .inl ⟨i,t,rfl,e⟩
 | .inr x,v,h=>by
  obtain ⟨t,e⟩:=Value.isStrOf_shape (x:=x) (v:=v) h
  exact .inr ⟨x,t,rfl,e⟩
theorem zsi (a b:Int):decide ((Sum.inl a:Key)=Sum.inl b)=(a == b):=by
 by_cases e:a=b
 ·subst e;simp
 ·have h:¬ (Sum.inl a:Key)=Sum.inl b:=λq=>e (Sum.inl.inj q)
  rw [decide_eq_false h]
  exact (beq_eq_false_iff_ne.mpr e).symm
theorem zsM (a b:Str):decide ((Sum.inr a:Key)=Sum.inr b)=decide (a=b):=by
 by_cases e:a=b
 ·subst e;simp
 ·have h:¬ (Sum.inr a:Key)=Sum.inr b:=λq=>e (Sum.inr.inj q)
  rw [decide_eq_false h,decide_eq_false e]
theorem zsd (a:Int) (b:Str):decide ((Sum.inl a:Key)=Sum.inr b)=false:=decide_eq_false (λq=>nomatch q)
theorem zr3 (a:Str) (b:Int):decide ((Sum.inr a:Key)=Sum.inl b)=false:=decide_eq_false (λq=>nomatch q)
def znn (prog:Program) (w:World):PySem.KeyKind prog w Key where
 is:=zsY
 hash:=zvt w
 inj:=λv a b ha hb=>by
  rcases zcr ha with ⟨i,t,rfl,rfl⟩ | ⟨x,t,rfl,rfl⟩
  ·rcases zcr hb with ⟨j,u,rfl,e⟩ | ⟨y,u,rfl,e⟩
   ·injection e with e1 _;rw [e1]
   ·exact nomatch e
  ·rcases zcr hb with ⟨j,u,rfl,e⟩ | ⟨y,u,rfl,e⟩
   ·exact nomatch e
   ·injection e with e1 _;rw [e1]
 byValue:=λk v h=>by
  rcases zcr h with ⟨i,t,rfl,rfl⟩ | ⟨x,t,rfl,rfl⟩<;>rfl
 pyHash:=λhv h=>by
  rcases zcr hv with ⟨i,t,rfl,rfl⟩ | ⟨x,t,rfl,rfl⟩
  ·exact wpAny_pyHash_int h
  ·exact wpAny_pyHash_str h
 eqBool:=λhu hv h=>by
  rcases zcr hu with ⟨i,t,rfl,rfl⟩ | ⟨x,t,rfl,rfl⟩
  ·rcases zcr hv with ⟨j,u,rfl,rfl⟩ | ⟨y,u,rfl,rfl⟩
   ·rw [zsi] at h;exact wpAny_eqBool_int h
   ·rw [zsd] at h;exact SeqAt.EqAt.int_str i t y u _ _ _ _ h
  ·rcases zcr hv with ⟨j,u,rfl,rfl⟩ | ⟨y,u,rfl,rfl⟩
   ·rw [zr3] at h;exact SeqAt.EqAt.str_int x t j u _ _ _ _ h
   ·rw [zsM] at h;exact wpAny_eqBool_str h
 «strs»:=λk x t v h=>by
  rcases zcr h with ⟨i,u,rfl,e⟩ | ⟨y,u,rfl,e⟩
  ·exact nomatch e
  ·injection e with e1 _
   subst e1
   cases v<;>rfl
inductive V where
 | non | bl (b:Bool) | int (i:Int) | str (x:Str) | byt (b:Array UInt8) | flt (b:UInt64) | ref (a:Addr) | ty (n:String)
 deriving DecidableEq
def zdy:V->Value->Prop
 | .non,u=>u=Value.none
 | .bl b,u=>u=Value.bool b
 | .int i,u=>∃ t,u=Value.int i t
 | .str x,u=>∃ t,u=Value.str x t
 | .byt b,u=>∃ t,u=Value.bytes b t
 | .flt b,u=>∃ t,u=Value.float b t
 | .ref a,u=>u=Value.ref a
 | .ty n,u=>u=Value.type n
abbrev zco:List V->List Value->Prop:=Paired zdy
theorem zco.length {xs:List V} {us:List Value} (r:zco xs us):xs.length=us.length:=Paired.length r
theorem zco.get:∀ {xs:List V} {us:List Value} {i:Nat} {x:V},zco xs us->xs[i]?=some x->∃ u,us[i]?=some u∧zdy x u
 | _,_,_,_,.nil,e=>by simp at e
 | _,_,0,_,.cons r _,e=>by simp at e;subst e;exact ⟨_,rfl,r⟩
 | _,_,i+1,x,.cons _ t,e=>by
  obtain ⟨u,h1,h2⟩:=zco.get (i:=i) (x:=x) t ↑160
  exact ⟨u,by simpa using h1,h2⟩
theorem zco.set {x:V} {u:Value} (r:zdy x u):∀ {xs:List V} {us:List Value} (i:Nat),zco xs us->zco (xs.set i x) (us.set i u)
 | _,_,_,.nil=>.nil
 | _,_,0,.cons _ t=>.cons r t
 | _,_,i+1,.cons q t=>.cons q (zco.set r i t)
theorem zco.append:∀ {xs ys:List V} {us ws:List Value},zco xs us->zco ys ws->zco (xs++ys) (us++ws)
 | _,_,_,_,.nil,s=>s
 | _,_,_,_,.cons r t,s=>.cons r (zco.append t s)
theorem zco.take:∀ {xs:List V} {us:List Value} (n:Nat),zco xs us->zco (xs.take n) (us.take n)
 | _,_,0,_=>.nil
 | _,_,_+1,.nil=>.nil
 | _,_,n+1,.cons r t=>.cons r (zco.take n t)
theorem zco.drop:∀ {xs:List V} {us:List Value} (n:Nat),zco xs us->zco (xs.drop n) (us.drop n)
 | _,_,0,r=>r
 | _,_,_+1,.nil=>.nil
 | _,_,n+1,.cons _ t=>zco.drop n t
def zoh:Option V->Option Value->Prop
 | some v,some u=>zdy v u
 | none,none=>True
 | _,_=>False
def KV {κ:Type}:List (κ×V)->List (κ×Value)->Prop:=Paired λ(p:κ×V) (q:κ×Value)=>p.1=q.1∧zdy p.2 q.2
def kV:Key->V
 | .inl i=>.int i
 | .inr x=>.str x
inductive HO where
 | lst (xs:List V)
 | tup (xs:List V)
 | dK (kvs:List (Key×V)) | dT (kvs:List (List Key×V))
 | set (S:Int->Bool) (n:Nat)
 | ins (C dx:Addr) (fs:List (Str×V))
 | own (x:Addr)
 | xd (fs:List (Str×V))
 | met (f x:Addr)
 | rng (lo hi:Int)
 | frz (o:Obj) (u:HO)
 | tbl (ps:Array Value)
 | ext (φ:Heap->Prop)
abbrev Hp:=Addr->Option HO
def upd (H:Hp) (a:Addr) (o:HO):Hp:=λb=>if b=a then some o else H b
theorem zaE {H:Hp} {a:Addr} {o:HO}:upd H a o a=some o:=by unfold upd;rw [if_pos rfl]
theorem zat {H:Hp} {a b:Addr} {o:HO} (h:b≠a):upd H a o b=H b:=by unfold upd;rw [if_neg h]
theorem zjh {H:Hp} {a b:Addr} {o u:HO} (h:H a=some o) (h':H b=some u) (d:o≠u):a≠b:=by
 intro e;subst e;rw [h] at h';exact d (Option.some.inj h')
theorem zaY {H:Hp} {a b:Addr} {o:HO} (h:H a=some o) (h':H b=none):a≠b:=by
 intro e;subst e;rw [h] at h';cases h'
section
variable (P:Program) (w:World)
def zen (H:Hp) (h:Heap) (a:Addr):HO->Prop
 | .lst xs=>xs.length≤sizeLine∧∃ (its:List Value) (n:Nat),zco xs its∧h.get? a=some { cls:=.type "list",data:=.seq its.toArray n }
 | .tup xs=>xs.length≤sizeLine∧∃ its:List Value,zco xs its∧IsTup h a its.toArray
 | .dK kvs=>kvs.length≤sizeLine∧(a == sysModules)=false∧∃ vs,KV kvs vs∧h.DictOf (znn P w) a vs
 | .dT kvs=>kvs.length≤sizeLine∧(a == sysModules)=false∧∃ xs:List (List Key×Addr×Value),
   Paired (λ(p:List Key×V) (q:List Key×Addr×Value)=>p.1=q.1∧H q.2.1=some (.tup (p.1.map kV))∧zdy p.2 q.2.2) kvs xs ∧
   ∃ o es ep,h.get? a=some o∧o.ExactDict∧o.data=.dict es ep∧es.toList=xs.map (entryOfKey (tupleKind (znn P w)))∧(xs.map (·.1)).Nodup
 | .set S n=>h.SetOf (intKind P w) a S n
 | .ins C dx fs=>H dx=some (.own a)∧fs.length≤1000∧dx≠a∧h.get? a=some (W.instObj C dx) ∧
   ∃ mA,h.Ns1 dx mA∧(∀ f,zoh (fs.lookup f) (mA f))∧PySem.Within mA (fs.map (·.1))
 | .own _=>∃ o,h.get? a=some o
 | .xd fs=>∃ mA,h.Ns1 a mA∧∀ f,zoh (fs.lookup f) (mA f)
 | .rng lo hi=>∃ t u v,h.get? a=some { cls:=.type "range",data:=.fields #[.int lo t,.int hi u,.int 1 v] }
 | .frz o u=>h.get? a=some o∧zen H h a u
 | .tbl ps=>h.get? a=some { cls:=.none,data:=.fields ps }
 | .met f x=>h.get? a=some (W.methodObj (.ref f) (.ref x))
 | .ext φ=>φ h∧(∃ o,h.get? a=some o)∧∀ h1 h2:Heap,φ h1->(∀ o,h1.get? a=some o->h2.get? a=some o)->φ h2
def HOk (H:Hp) (h:Heap):Prop:=∀ a o,H a=some o->zen P w H h a o
end
section
variable {P:Program} {w:World} {H H':Hp} {h h':Heap} {a:Addr} {o:HO}
theorem zen.lt (x:zen P w H h a o):a<h.objs.size:=by
 cases o with
 | lst xs=>obtain ⟨_,_,_,_,e⟩:=x;exact Heap.lt_size e
 | tup xs=>obtain ⟨_,_,_,p⟩:=x;exact p.lt
 | dK kvs=>obtain ⟨_,_,_,_,o,_,_,e,_⟩:=x;exact Heap.lt_size e
 | dT kvs=>obtain ⟨_,_,_,_,o,_,_,e,_⟩:=x;exact Heap.lt_size e
 | set S n=>obtain ⟨o,_,_,_,e,_⟩:=x;exact Heap.lt_size e
 | ins C dx fs=>obtain ⟨_,_,_,e,_⟩:=x;exact Heap.lt_size e
 | own y=>obtain ⟨_,e⟩:=x;exact Heap.lt_size e
 | xd fs=>obtain ⟨_,⟨_,_,_,e,_⟩,_⟩:=x;exact Heap.lt_size e
 | rng lo hi=>obtain ⟨_,_,_,e⟩:=x;exact Heap.lt_size e
 | frz ob u=>obtain ⟨e,_⟩:=x;exact Heap.lt_size e
 | tbl ps=>exact Heap.lt_size (show h.get? a=some _ from x)
 | met f y=>exact Heap.lt_size (show h.get? a=some _ from x)
 | ext φ=>obtain ⟨_,⟨_,e⟩,_⟩:=x;exact Heap.lt_size e
theorem Paired.mapP {α β:Type} {F G:α->β->Prop}:∀ {l₁:List α} {l₂:List β},Paired F l₁ l₂->(∀ a b,F a b->G a b)->Paired G l₁ l₂
 | _,_,.nil,_=>.nil
 | _,_,.cons r t,f=>.cons (f _ _ r) (Paired.mapP t f)
theorem zen.stay (x:zen P w H h a o) (k:∀ b u,(b=a∨H b=some (.own a))->h.get? b=some u->h'.get? b=some u)
  (ho:∀ b,H b=some (.own a)->H' b=some (.own a)) (ht:∀ b xs,H b=some (.tup xs)->H' b=some (.tup xs)):zen P w H' h' a o:=by
 induction o with
 | lst xs=>obtain ⟨z,its,n,r,e⟩:=x;exact ⟨z,its,n,r,k _ _ ↑37 e⟩
 | tup xs=>obtain ⟨z,its,r,ob,e,c⟩:=x;exact ⟨z,its,r,ob,k _ _ ↑37 e,c⟩
 | dK kvs=>obtain ⟨z,y,vs,r,ob,es,ep,e,c⟩:=x;exact ⟨z,y,vs,r,ob,es,ep,k _ _ ↑37 e,c⟩
 | dT kvs =>
  obtain ⟨z,y,xs,r,ob,es,ep,e,c⟩:=x
  exact ⟨z,y,xs,Paired.mapP r λp q z=>⟨z.1,ht _ _ z.2.1,z.2.2⟩,ob,es,ep,k _ _ ↑37 e,c⟩
 | set S n=>obtain ⟨ob,es,ep,t,e,c⟩:=x;exact ⟨ob,es,ep,t,k _ _ ↑37 e,c⟩
 | ins C dx fs =>
  obtain ⟨d,z,ne,e,mA,⟨od,es,ep,e2,c⟩,r⟩:=x
  exact ⟨ho _ d,z,ne,k _ _ ↑37 e,mA,⟨od,es,ep,k _ _ (.inr d) e2,c⟩,r⟩
 | own y=>obtain ⟨ob,e⟩:=x;exact ⟨ob,k _ _ ↑37 e⟩
 | xd fs=>obtain ⟨mA,⟨od,es,ep,e,c⟩,r⟩:=x;exact ⟨mA,⟨od,es,ep,k _ _ ↑37 e,c⟩,r⟩
 | rng lo hi=>obtain ⟨t,u,v,e⟩:=x;exact ⟨t,u,v,k _ _ ↑37 e⟩
 | frz ob u ih=>obtain ⟨e,q⟩:=x;exact ⟨k _ _ ↑37 e,ih q⟩
 | tbl ps =>
  have e:h.get? a=some { cls:=.none,data:=.fields ps }:=x
  show h'.get? a=some { cls:=.none,data:=.fields ps }
  exact k a _ ↑37 e
 | met f y =>
  have e:h.get? a=some (W.methodObj (.ref f) (.ref y)):=x
  show h'.get? a=some (W.methodObj (.ref f) (.ref y))
  exact k a _ ↑37 e
 | ext φ=>obtain ⟨p,⟨o,e⟩,st⟩:=x;exact ⟨st _ _ p λo q=>k _ _ ↑37 q,⟨o,k _ _ ↑37 e⟩,st⟩
theorem HOk.lt (x:HOk P w H h) (e:H a=some o):a<h.objs.size:=(x a o e).lt
theorem HOk.fresh (x:HOk P w H h) (e:h.objs.size≤a):H a=none:=by
 cases q:H a with
 | none=>rfl
 | some u=>exact absurd (Nat.lt_of_lt_of_le (x.lt q) e) ↑162
theorem HOk.kept (x:HOk P w H h) (k:∀ b u,h.get? b=some u->h'.get? b=some u):HOk P w H h':=λa o e =>
 (x a o e).stay (λb u _ q=>k b u q) (λ_ q=>q) λ_ _ q=>q
theorem HOk.laid (x:HOk P w H h) (k:∀ b u,h.get? b=some u->h'.get? b=some u) (hp:h.objs.size≤a) (new:zen P w (upd H a o) h' a o):HOk P w (upd H a o) h':=λb u e=>by
 have hn:=x.fresh hp
 by_cases hb:b=a
 ·subst hb;rw [zaE] at e;cases e;exact new
 ·rw [zat hb] at e
  exact (x b u e).stay (λc v _ q=>k c v q) (λc q=>by rw [zat (zaY q hn)];exact q) λc xs q=>by rw [zat (zaY q hn)];exact q
end
def Rd (H:Hp) (a:Addr) (u:HO):Prop:=H a=some u∨∃ o,H a=some (.frz o u)
theorem Rd.ok {P:Program} {w:World} {H:Hp} {h:Heap} {a:Addr} {u:HO} (r:Rd H a u) (x:HOk P w H h):zen P w H h a u:=by
 rcases r with r | ⟨o,r⟩
 ·exact x a u r
 ·obtain ⟨_,q⟩:=x a _ r
  exact q
def Mut:Option HO->Prop
 | some (.lst _)=>True
 | some (.dK _)=>True
 | some (.dT _)=>True
 | some (.set _ _)=>True
 | some (.ins _ _ _)=>True
 | some (.ext _)=>True
 | _=>False
section
variable {P:Program} {w:World} {H:Hp} {h h':Heap} {x e:Addr} {o':HO}
theorem HOk.write (ok:HOk P w H h) (mu:Mut (H x)) (he:e=x∨H e=some (.own x)) (k:∀ b u,b≠e->h.get? b=some u->h'.get? b=some u) (heo:∃ u,h'.get? e=some u)
  (new:zen P w (upd H x o') h' x o'):HOk P w (upd H x o') h':=λb u q=>by
 have nown:∀ c y,H c=some (.own y)->c≠x:=λc y r z=>by subst z;rw [r] at mu;exact mu
 have ntup:∀ c xs,H c=some (.tup xs)->c≠x:=λc xs r z=>by subst z;rw [r] at mu;exact mu
 by_cases hb:b=x
 ·subst hb;rw [zaE] at q;cases q;exact new
 ·rw [zat hb] at q
  by_cases hbe:b=e
  ·have q':H b=some (.own x):=by
    rcases he with z | z
    ·exact absurd (hbe.trans z) hb
    ·rw [hbe];exact z
   rw [q] at q';cases q'
   obtain ⟨v,hv⟩:=heo
   exact ⟨v,by rw [hbe];exact hv⟩
  ·refine (ok b u q).stay (λc v hc r=>k c v ?_ r) (λc r=>by rw [zat (nown c b r)];exact r) λc xs r=>by rw [zat (ntup c xs r)];exact r
   rcases hc with rfl | hc
   ·exact hbe
   ·rintro rfl
    rcases he with z | z
    ·exact nown c b hc z
    ·rw [hc] at z;cases z;exact hb rfl
end
structure Un (fs ex:List Addr) (H H':Hp) (h h':Heap):Prop where
 keep:∀ b o,h.get? b=some o->H b=none->b ∉ fs->b ∉ ex->h'.get? b=some o
 slot:∀ b o,h.get? b=some o->H b=none->b∈fs->b ∉ ex->∃ sl,h'.get? b=some { o with slots:=sl }
 free:∀ b o,h.get? b=some o->H b=none->b ∉ ex->H' b=none
 there:∀ b o,h.get? b=some o->b ∉ ex->∃ o',h'.get? b=some o'
 tups:∀ b xs,H b=some (.tup xs)->H' b=some (.tup xs)
 frzs:∀ b o u,H b=some (.frz o u)->H' b=some (.frz o u)
 tbls:∀ b ps,H b=some (.tbl ps)->∃ more,H' b=some (.tbl (ps++more))
section
variable {fs ex:List Addr} {H H1:Hp} {h h1 h':Heap} {a x e:Addr} {o:HO}
theorem Un.any (u:Un fs ex H H1 h h1) {b:Addr} {ob:Obj} (q:h.get? b=some ob) (n:H b=none) (hx:b ∉ ex):∃ sl,h1.get? b=some { ob with slots:=sl }:=by
 by_cases hb:b∈fs
 ·exact u.slot b ob q n hb hx
 ·exact ⟨ob.slots,u.keep b ob q n hb hx⟩
theorem Un.kept (k:∀ b u,h.get? b=some u->h'.get? b=some u):Un fs ex H H h h' :=
 ⟨λb ob q _ _ _=>k b ob q,λb ob q _ _ _=>⟨ob.slots,k b ob q⟩,λ_ _ _ n _=>n,λb ob q _=>⟨ob,k b ob q⟩,λ_ _ q=>q,λ_ _ _ q=>q,λ_ ps q=>⟨#[],by rw [q];simp⟩⟩
theorem Un.refl:Un fs ex H H h h:=Un.kept λ_ _ q=>q
theorem Un.laid (k:∀ b u,h.get? b=some u->h'.get? b=some u) (hp:h.objs.size≤a) (hn:H a=none):Un fs ex H (upd H a o) h h' where
 keep:=λb u q _ _ _=>k b u q
 slot:=λb u q _ _ _=>⟨u.slots,k b u q⟩
 free:=λb u q n _=>by rw [zat (Nat.ne_of_lt (Nat.lt_of_lt_of_le (Heap.lt_size q) hp))];exact n
 there:=λb u q _=>⟨u,k b u q⟩
 tups:=λb xs q=>by rw [zat (zaY q hn)];exact q
 frzs:=λb u xs q=>by rw [zat (zaY q hn)];exact q
 tbls:=λb ps q=>⟨#[],by rw [zat (zaY q hn),q];simp⟩
theorem Un.write (mu:Mut (H x)) (he:e=x∨H e=some (.own x)) (k:∀ b u,b≠e->h.get? b=some u->h'.get? b=some u) (heo:∃ u,h'.get? e=some u):Un fs ex H (upd H x o) h h':=by
 have hx:∀ b,H b=none->b≠x:=λb n z=>by subst z;rw [n] at mu;exact mu
 have hb:∀ b,H b=none->b≠e:=λb n z=>by
  subst z
  rcases he with r | r
  ·exact hx b n r
  ·rw [n] at r;cases r
 have hm:∀ b u,H b=some u->¬ Mut (some u)->b≠x:=λb u q nm z=>by subst z;rw [q] at mu;exact nm mu
 refine ⟨λb u q n _ _=>k b u (hb b n) q,λb u q n _ _=>⟨u.slots,k b u (hb b n) q⟩,λb u q n _=>by rw [zat (hx b n)];exact n,λb u q _=>?_,
  λb xs q=>by rw [zat (hm b _ q λz=>z)];exact q,λb u xs q=>by rw [zat (hm b _ q λz=>z)];exact q,λb ps q=>⟨#[],by rw [zat (hm b _ q λz=>z),q];simp⟩⟩
 by_cases hbe:b=e
 ·subst hbe;exact heo
 ·exact ⟨u,k b u hbe q⟩
end
def trk (h:Heap) (H:Hp):List Addr:=(List.range h.objs.size).filter λa=>(H a).isSome
def zpd (h:Heap) (H:Hp):Heap:=W.hideAll h (trk h H)
theorem znQ (h:Heap) (H:Hp):(zpd h H).objs.size=h.objs.size:=W.hideAll_size _ _
theorem zoM {h:Heap} {H:Hp} {b:Addr} {o:Obj} (e:h.get? b=some o) (n:H b=none):(zpd h H).get? b=some o :=
 W.hideAll_get _ e λhm=>by
  have q:(H b).isSome=true:=(List.mem_filter.mp hm).2
  rw [n] at q;simp at q
theorem zrd {h:Heap} {H:Hp} {b:Addr} {o:Obj} (e:(zpd h H).get? b=some o):h.get? b=some o∧H b=none:=by
 have e':h.get? b=some o:=W.of_hideAll (trk h H) e
 refine ⟨e',?_⟩
 cases q:H b with
 | none=>rfl
 | some x =>
  have hm:b∈trk h H:=List.mem_filter.mpr ⟨List.mem_range.mpr (Heap.lt_size e'),by simp [q]⟩
  have z:(zpd h H).get? b=none:=W.hideAll_none (trk h H) hm
  rw [z] at e;cases e
structure Mod (K:W.Frag) (mg:Str->Option Value) (base:Heap):Prop where
 kin:K.In base
 glob:base.Ns mainGlobals mg
 blt:∃ mb,base.Ns builtinsNs mb∧∀ x:Str,x≠"__name__"->mb x=bootBuiltins x
 nolimit:base.NoLimit
structure Cx where
 prog:Program
 w:World
 K:W.Frag
 mg:Str->Option Value
 base:Heap
 A:Around
 N:List Str
 s₀:Shared
 H₀:Hp
 env:Env
 outer:List Env
 stack:List Env
 ex:List Addr
 fn:Str->Bool
 calm:Bool
 pn:List ⇑2
 xe:Value->Shared->Prop
def frs (l:List Env):List Addr:=l.filterMap (·.frame)
abbrev Cx.fs (X:Cx):List Addr:=frs X.outer
def Vis (sc:Scope) (x:Str):Prop:=sc.names.lookup x=some .local∨sc.names.lookup x=some .cell∨sc.names.lookup x=some .free
def Loc (sc:Scope) (x:Str):Prop:=sc.names.lookup x=some .local∨sc.names.lookup x=some .cell
def zuW (env:Env) (h:Heap) (m:Str->Option Value) (x:Str) (u:Value):Prop :=
 (env.kindOf x=some .local∧m x=some u)∨((env.kindOf x=some .cell∨env.kindOf x=some .free)∧∃ c,env.cells.lookup x=some c∧h.IsCell c (some u))
structure Cx.Ok (X:Cx):Prop where
 mod:Mod X.K X.mg X.base
 kind:X.env.scope.kind=.function
 glob:X.env.globals=mainGlobals
 blt:X.env.builtins=builtinsNs
 above:X.s₀.heap.objs.size≤X.env.locals
 inj:∀ x y c,X.env.cells.lookup x=some c->X.env.cells.lookup y=some c->x=y
 has:∀ x,(X.env.kindOf x=some .cell∨X.env.kindOf x=some .free)->∃ c,X.env.cells.lookup x=some c
 cab:∀ x c,X.fn x=true->X.env.cells.lookup x=some c->X.s₀.heap.objs.size≤c
 hd:X.calm=true->X.A.handled=none
 frames:X.A.frames=some X.stack
 stk:X.stack=X.outer∨(X.stack=X.env :: X.outer∧X.env.frame=some X.env.locals)
 exf:∀ b∈X.ex,b≠X.env.locals∧∀ x c,X.env.cells.lookup x=some c->c≠b
 bs:∀ b o,X.base.get? b=some o->X.s₀.heap.get? b=some o∧X.H₀ b=none
 bsz:X.base.objs.size≤X.s₀.heap.objs.size
 noex:∀ b o,X.base.get? b=some o->b ∉ X.ex
 exfs:∀ b∈X.ex,b ∉ X.fs
 funs:X.s₀.heap.FunFrames X.base X.outer
 frf:∀ b∈X.fs,X.H₀ b=none
structure Inv (X:Cx) (pins:List ⇑2) (σ:List (Option V)) (H:Hp) (s:Shared):Prop where
 ok:X.Ok
 os:s.os=X.s₀.os
 bare:AllBare s.gens
 base:Un X.fs X.ex X.H₀ H X.s₀.heap s.heap
 loc:∃ m,s.heap.Ns X.env.locals m∧∀ (i:Nat) (x:Str) (v:V),X.N[i]?=some x->σ[i]?=some (some v)->Vis X.env.scope x->∃ u,zdy v u∧zuW X.env s.heap m x u
 cell:∀ x c,X.env.cells.lookup x=some c->∃ v,s.heap.IsCell c v
 free:H X.env.locals=none
 freeC:∀ x c,X.env.cells.lookup x=some c->H c=none
 pin:∀ p∈X.pn++pins,s.heap.get? p.1=some p.2∧H p.1=none∧p.1≠X.env.locals∧p.1 ∉ X.fs∧∀ v,p.2.data≠.cell v
 hok:HOk X.prog X.w H s.heap
 len:σ.length=X.N.length
section
variable {X:Cx} {pins:List ⇑2} {σ:List (Option V)} {H H':Hp} {s:Shared} {h':Heap}
theorem Cx.Ok.nofr (ok:X.Ok) {b:Addr} {o:Obj} (e:X.base.get? b=some o):b ∉ X.fs:=λhb=>by
 have:=(ok.funs.mem hb).1
 rw [e] at this;cases this
theorem Inv.bs (I:Inv X pins σ H s):∀ b o,X.base.get? b=some o->s.heap.get? b=some o∧H b=none:=λb o e =>
 ⟨I.base.keep b o ((I.ok.bs b o e)).1 ((I.ok.bs b o e)).2 (I.ok.nofr e) (I.ok.noex b o e),I.base.free b o ((I.ok.bs b o e)).1 ((I.ok.bs b o e)).2 (I.ok.noex b o e)⟩
theorem Inv.bk (I:Inv X pins σ H s):∀ b o,X.base.get? b=some o->s.heap.get? b=some o:=λb o e=>(I.bs b o e).1
theorem Inv.mod (I:Inv X pins σ H s):Mod X.K X.mg X.base:=I.ok.mod
theorem Inv.kIn (I:Inv X pins σ H s):X.K.In s.heap:=I.ok.mod.kin.keeps I.bk
theorem Inv.nolimit (I:Inv X pins σ H s):s.heap.NoLimit:=I.ok.mod.nolimit.keeps I.bk
theorem Inv.fr (I:Inv X pins σ H s):∃ m,Fr X.base X.env.locals s.heap m :=
 let ⟨m,hn,_⟩:=I.loc
 ⟨m,hn,I.bk,Nat.le_trans I.ok.bsz I.ok.above⟩
theorem Inv.lt (I:Inv X pins σ H s):X.env.locals<s.heap.objs.size:=let ⟨_,hn,_⟩:=I.loc;hn.lt
theorem Inv.sz (I:Inv X pins σ H s):X.s₀.heap.objs.size≤s.heap.objs.size:=Nat.le_trans I.ok.above (Nat.le_of_lt I.lt)
theorem Inv.nofs (I:Inv X pins σ H s) {a:Addr} (h:s.heap.objs.size≤a):a ∉ X.fs:=λhb=>by
 obtain ⟨_,o,ho,_⟩:=I.ok.funs.mem hb
 exact absurd (Nat.lt_of_lt_of_le (Heap.lt_size ho) (Nat.le_trans I.sz h)) ↑162
theorem Inv.cne (I:Inv X pins σ H s):∀ x c,X.env.cells.lookup x=some c->c≠X.env.locals:=λx c e z=>by
 obtain ⟨v,o,ho,hd⟩:=I.cell x c e
 obtain ⟨m,⟨o',es,ep,ho',hd',_⟩,_⟩:=I.loc
 rw [z,ho'] at ho;cases ho;rw [hd'] at hd;cases hd
theorem Inv.funs (I:Inv X pins σ H s):s.heap.FunFrames X.base X.outer:=by
 have all:∀ (l:List Env),(∀ b∈frs l,b∈X.fs)->X.s₀.heap.FunFrames X.base l->s.heap.FunFrames X.base l:=by
  intro l
  induction l with
  | nil=>intro _ _;trivial
  | cons env r ih =>
   intro hs hl
   obtain ⟨hk,⟨L,o,hf,hn,ho,hd⟩,hr⟩:=hl
   have hL:L∈X.fs:=hs L (by unfold frs;rw [List.filterMap_cons,hf];exact List.mem_cons_self)
   obtain ⟨sl,e⟩:=I.base.slot L o ho (I.ok.frf L hL) hL λz=>I.ok.exfs L z hL
   exact ⟨hk,⟨L,_,hf,hn,e,hd⟩,ih (λb hb=>hs b (by unfold frs;rw [List.filterMap_cons,hf];exact List.mem_cons_of_mem _ hb)) hr⟩
 exact all X.outer (λ_ hb=>hb) I.ok.funs
theorem Inv.stack (I:Inv X pins σ H s):s.heap.FunFrames X.base X.stack:=by
 rcases I.ok.stk with e | ⟨e,hf⟩
 ·rw [e];exact I.funs
 ·rw [e]
  obtain ⟨m,hn,_⟩:=I.loc
  refine .cons (by rw [I.ok.kind];decide) hf hn ?_ I.funs
  exact Heap.get?_none_of_le (Nat.le_trans I.ok.bsz I.ok.above)
theorem Inv.stkSub (I:Inv X pins σ H s):∀ b∈frs X.stack,b∈X.env.locals :: X.fs:=λb hb=>by
 rcases I.ok.stk with e | ⟨e,hf⟩
 ·rw [e] at hb;exact List.mem_cons_of_mem _ hb
 ·rw [e] at hb
  unfold frs at hb
  rw [List.filterMap_cons,hf] at hb
  exact hb
theorem Inv.stkFree (I:Inv X pins σ H s):∀ b∈frs X.stack,H b=none:=λb hb=>by
 rcases List.mem_cons.mp (I.stkSub b hb) with e | hb
 ·rw [e];exact I.free
 ·obtain ⟨_,o,ho,_⟩:=I.ok.funs.mem hb
  exact I.base.free b o ho (I.ok.frf b hb) λz=>I.ok.exfs b z hb
theorem Inv.step {g':Array GenState} {t':Nat} {d':Drawn} {ch:List Addr} (I:Inv X pins σ H s)
  (hch:∀ b∈ch,↑255∧b≠X.env.locals∧↑190∧∀ p∈X.pn++pins,p.1≠b)
  (keep:∀ b o,b≠X.env.locals->b ∉ X.fs->b ∉ ch->s.heap.get? b=some o->H b=none->h'.get? b=some o)
  (slot:∀ b o,b≠X.env.locals->b∈X.fs->b ∉ ch->s.heap.get? b=some o->H b=none->∃ sl,h'.get? b=some { o with slots:=sl }) (free:∀ b o,b ∉ ch->s.heap.get? b=some o->H b=none->H' b=none)
  (there:∀ b o,b ∉ ch->s.heap.get? b=some o->∃ o',h'.get? b=some o')
  (tups:∀ b xs,H b=some (.tup xs)->H' b=some (.tup xs)) (frzs:∀ b o u,H b=some (.frz o u)->H' b=some (.frz o u)) (tbls:∀ b ps,H b=some (.tbl ps)->∃ more,H' b=some (.tbl (ps++more)))
  (ns:∀ m,s.heap.Ns X.env.locals m->h'.Ns X.env.locals m) (hok:HOk X.prog X.w H' h') (hg:AllBare g') :
  Inv X pins σ H' { s with heap:=h',gens:=g',drawn:=d',toks:=t' }:=by
 have neL:∀ b o,X.s₀.heap.get? b=some o->b≠X.env.locals:=λb o e=>Nat.ne_of_lt ↑185
 have neC:∀ b o,X.s₀.heap.get? b=some o->b ∉ X.ex->b ∉ ch:=λb o e hx hb=>by
  rcases (hch b hb).1 with z | z
  ·exact hx z
  ·exact absurd (Nat.lt_of_lt_of_le ↑117 z) ↑162
 have cellK:∀ x c,X.env.cells.lookup x=some c->∀ v,s.heap.IsCell c v->h'.IsCell c v:=λx c e v ⟨o,ho,hd⟩=>by
  have nch:c ∉ ch:=λz=>(hch c z).2.2.1 x c e rfl
  by_cases hc:c∈X.fs
  ·obtain ⟨sl,q⟩:=slot c o (I.cne x c e) hc nch ho (I.freeC x c e)
   exact ⟨_,q,hd⟩
  ·exact ⟨o,keep c o (I.cne x c e) hc nch ho (I.freeC x c e),hd⟩
 refine ⟨I.ok,I.os,hg,⟨λb o e n hb hx=>?_,λb o e n hb hx=>?_,λb o e n hx=>?_,λb o e hx=>?_,λb xs e=>tups b xs (I.base.tups b xs e),λb o xs e=>frzs b o xs (I.base.frzs b o xs e),λb ps e=>?_⟩,?_,λx c e=>?_,?_,λx c e=>?_,λp hp=>?_,hok,I.len⟩
 ·exact keep b o (neL b o e) hb (neC b o e hx) (I.base.keep b o e n hb hx) (I.base.free b o e n hx)
 ·obtain ⟨sl,e1⟩:=I.base.slot b o e n hb hx
  obtain ⟨sl',e2⟩:=slot b _ (neL b o e) hb (neC b o e hx) e1 (I.base.free b o e n hx)
  exact ⟨sl',e2⟩
 ·obtain ⟨o',e1⟩:=I.base.there b o e hx
  exact free b o' (neC b o e hx) e1 (I.base.free b o e n hx)
 ·obtain ⟨o',e1⟩:=I.base.there b o e hx
  exact there b o' (neC b o e hx) e1
 ·obtain ⟨m1,e1⟩:=I.base.tbls b ps e
  obtain ⟨m2,e2⟩:=tbls b _ e1
  exact ⟨m1++m2,by rw [e2,Array.append_assoc]⟩
 ·obtain ⟨m,hn,hl⟩:=I.loc
  refine ⟨m,ns m hn,λi x v e1 e2 e3=>?_⟩
  obtain ⟨u,r,l⟩:=hl i x v e1 e2 e3
  refine ⟨u,r,?_⟩
  rcases l with l | ⟨k,c,e,z⟩
  ·exact .inl l
  ·exact .inr ⟨k,c,e,cellK x c e _ z⟩
 ·obtain ⟨v,z⟩:=I.cell x c e
  exact ⟨v,cellK x c e v z⟩
 ·obtain ⟨m,⟨o,_,_,ho,_⟩,_⟩:=I.loc
  exact free _ o (λz=>(hch _ z).2.1 rfl) ho I.free
 ·obtain ⟨v,o,ho,hd⟩:=I.cell x c e
  exact free c o (λz=>(hch c z).2.2.1 x c e rfl) ho (I.freeC x c e)
 ·obtain ⟨e,n,ne,nf,d⟩:=I.pin p hp
  have nch:p.1 ∉ ch:=λz=>(hch p.1 z).2.2.2 p hp rfl
  exact ⟨keep p.1 p.2 ne nf nch e n,free p.1 p.2 nch e n,ne,nf,d⟩
theorem Inv.un {t':Nat} (I:Inv X pins σ H s) (u:Un X.fs [] H H' s.heap h') (hok:HOk X.prog X.w H' h'):Inv X pins σ H' { s with heap:=h',toks:=t' }:=by
 obtain ⟨m,⟨o,es,ep,ho,r⟩,_⟩:=id I.loc
 obtain ⟨sl,hL⟩:=u.any ho I.free ⇑5
 exact I.step (g':=s.gens) (d':=s.drawn) (ch:=[]) (λ_ z=>nomatch z) (λb o _ hb _ e n=>u.keep b o e n hb ⇑5) (λb o _ hb _ e n=>u.slot b o e n hb ⇑5) (λb o _ e n=>u.free b o e n ⇑5) (λb o _ e=>u.there b o e ⇑5) u.tups u.frzs u.tbls (λm' hm=>by
  obtain ⟨o',es',ep',ho',r'⟩:=hm
  rw [ho] at ho';cases ho'
  exact ⟨_,es',ep',hL,r'⟩) hok I.bare
theorem Inv.call {g':Array GenState} {t':Nat} {d':Drawn} {ch:List Addr} (I:Inv X pins σ H s) (u:Un (frs X.stack) ch H H' s.heap h') (hok:HOk X.prog X.w H' h') (hg:AllBare g')
  (hch:∀ b∈ch,↑255∧b≠X.env.locals∧↑190∧∀ p∈X.pn++pins,p.1≠b) :
  Inv X pins σ H' { s with heap:=h',gens:=g',drawn:=d',toks:=t' }:=by
 obtain ⟨m,⟨o,es,ep,ho,r⟩,_⟩:=id I.loc
 obtain ⟨sl,hL⟩:=u.any ho I.free λz=>(hch _ z).2.1 rfl
 exact I.step (ch:=ch) hch (λb o hL hb hc e n=>u.keep b o e n (λz=>(List.mem_cons.mp (I.stkSub b z)).elim hL hb) hc) (λb o _ _ hc e n=>u.any e n hc) (λb o hc e n=>u.free b o e n hc) (λb o hc e=>u.there b o e hc) u.tups u.frzs u.tbls (λm' hm=>by
  obtain ⟨o',es',ep',ho',r'⟩:=hm
  rw [ho] at ho';cases ho'
  exact ⟨_,es',ep',hL,r'⟩) hok hg
theorem Inv.turned {t':Nat} {it:Addr} (I:Inv X pins σ H s) (k:∀ b o,b≠it->s.heap.get? b=some o->h'.get? b=some o) (hn:H it=none) (hL:it≠X.env.locals)
  (h1:it∈X.ex∨X.s₀.heap.objs.size≤it) (h2:∀ x c,X.env.cells.lookup x=some c->c≠it) (h3:∀ p∈X.pn++pins,p.1≠it):Inv X pins σ H { s with heap:=h',toks:=t' }:=by
 have nit:∀ b u,H b=some u->b≠it:=λb u e z=>by rw [z,hn] at e;cases e
 refine I.step (g':=s.gens) (d':=s.drawn) (ch:=[it]) (λb hb=>?_) (λb o _ _ hc e _=>k b o (λz=>hc (by simp [z])) e) (λb o _ _ hc e _=>⟨o.slots,k b o (λz=>hc (by simp [z])) e⟩) (λ_ _ _ _ n=>n)
  (λb o hc e=>⟨o,k b o (λz=>hc (by simp [z])) e⟩) (λ_ _ e=>e) (λ_ _ _ e=>e) (λb ps e=>⟨#[],by rw [e];simp⟩) (λm hm=>?_) (λb u e=>?_) I.bare
 ·have e:b=it:=by simpa using hb
  subst e
  exact ⟨h1,hL,h2,h3⟩
 ·obtain ⟨o,es,ep,ho,r⟩:=hm
  exact ⟨o,es,ep,k _ o (Ne.symm hL) ho,r⟩
 ·refine (I.hok b u e).stay (λc v hc q=>k c v ?_ q) (λ_ q=>q) λ_ _ q=>q
  rcases hc with z | z
  ·rw [z];exact nit b u e
  ·exact nit c _ z
theorem Inv.tok (I:Inv X pins σ H s) (t:Nat):Inv X pins σ H { s with toks:=t }:=I.un (h':=s.heap) (t':=t) Un.refl I.hok
theorem Inv.kept {t':Nat} (I:Inv X pins σ H s) (k:∀ b u,s.heap.get? b=some u->h'.get? b=some u):Inv X pins σ H { s with heap:=h',toks:=t' }:=I.un (Un.kept k) (I.hok.kept k)
theorem Inv.laid {a:Addr} {o:HO} {t':Nat} (I:Inv X pins σ H s) (k:∀ b u,s.heap.get? b=some u->h'.get? b=some u) (hp:s.heap.objs.size≤a) (new:zen X.prog X.w (upd H a o) h' a o) :
  Inv X pins σ (upd H a o) { s with heap:=h',toks:=t' }:=I.un (Un.laid k hp (I.hok.fresh hp)) (I.hok.laid k hp new)
theorem Inv.write {x e:Addr} {o:HO} {t':Nat} (I:Inv X pins σ H s) (mu:Mut (H x)) (he:e=x∨H e=some (.own x)) (k:∀ b u,b≠e->s.heap.get? b=some u->h'.get? b=some u) (heo:∃ u,h'.get? e=some u)
  (new:zen X.prog X.w (upd H x o) h' x o):Inv X pins σ (upd H x o) { s with heap:=h',toks:=t' }:=I.un (Un.write mu he k heo) (I.hok.write mu he k heo new)
theorem Inv.pins_of {pins':List ⇑2} (I:Inv X pins σ H s) (h:∀ p∈pins',s.heap.get? p.1=some p.2∧H p.1=none∧p.1≠X.env.locals∧p.1 ∉ X.fs∧∀ v,p.2.data≠.cell v):Inv X pins' σ H s :=
 ⟨I.ok,I.os,I.bare,I.base,I.loc,I.cell,I.free,I.freeC,λp hp=>(List.mem_append.mp hp).elim (λz=>I.pin p (List.mem_append_left _ z)) (h p),I.hok,I.len⟩
theorem zjg {N:List Str} (hN:N.Nodup) {i j:Nat} {x:Str} (a:N[i]?=some x) (b:N[j]?=some x):i=j:=by
 obtain ⟨h1,e1⟩:=List.getElem?_eq_some_iff.mp a
 obtain ⟨h2,e2⟩:=List.getElem?_eq_some_iff.mp b
 exact (List.getElem_inj hN).mp (e1.trans e2.symm)
theorem zjB {M:Model} {A:Around} {E:Value->Shared->Prop} {i:Nat} {x:Str} {v:V} {u:Value} {Q:Unit->Shared->Prop} (I:Inv X pins σ H s) (hN:X.N.Nodup) (hi:X.N[i]?=some x) (hx:Loc X.env.scope x) (r:zdy v u)
  (h:∀ s',Inv X pins ↑155 H s'->(∃ a,Heap.SameBut a s.heap s'.heap∧(a=X.env.locals∨X.env.cells.lookup x=some a))->Q () s') (hf:X.fn x=true∨X.env.scope.names.lookup x=some .local:=by first | exact .inl rfl | exact .inr rfl | assumption):wpAny M A (storeName X.env x u) Q E s:=by
 obtain ⟨m,hn,hl⟩:=id I.loc
 have hcls:(X.env.scope.kind== .class||(X.env.scope.kind== .module && X.env.locals !=X.env.globals))=false:=by rw [I.ok.kind];rfl
 have hiσ:i<σ.length:=by rw [I.len];exact (List.getElem?_eq_some_iff.mp hi).1
 have cne:=I.cne
 have tracked:∀ {a:Addr} {h':Heap},(∃ o,s.heap.get? a=some o∧H a=none)->Heap.SameBut a s.heap h'->HOk X.prog X.w H h':=λ{a h'} ha hs b ob e=>by
  obtain ⟨_,_,hfree⟩:=ha
  refine (I.hok b ob e).stay (λc w' hc q=>(hs.2 c ?_).trans q) (λ_ q=>q) λ_ _ q=>q
  rintro rfl
  rcases hc with rfl | hc
  ·rw [hfree] at e;cases e
  ·rw [hfree] at hc;cases hc
 rcases hx with hk | hk
 ·refine wpAny_storeName_local hk hn (λh' hn' hs=>?_) hcls
  obtain ⟨oL,_,_,hoL,_⟩:=id hn
  refine h _ ⟨I.ok,I.os,I.bare,⟨λb o e n hb hx=>?_,λb o e n hb hx=>?_,I.base.free,λb o e hx=>?_,I.base.tups,I.base.frzs,I.base.tbls⟩,⟨_,hn',λj y v' e1 e2 e3=>?_⟩,λy c e=>?_,I.free,I.freeC,λp hp=>?_,tracked ⟨oL,hoL,I.free⟩ hs,by simpa using I.len⟩ ⟨_,hs,.inl rfl⟩
  ·exact ((hs.2 b (Nat.ne_of_lt ↑185))).trans (I.base.keep b o e n hb hx)
  ·obtain ⟨sl,e1⟩:=I.base.slot b o e n hb hx
   exact ⟨sl,((hs.2 b (Nat.ne_of_lt ↑185))).trans e1⟩
  ·obtain ⟨o',e1⟩:=I.base.there b o e hx
   exact ⟨o',((hs.2 b (Nat.ne_of_lt ↑185))).trans e1⟩
  ·by_cases hj:j=i
   ·subst hj
    rw [hi] at e1;cases e1
    rw [List.getElem?_set_self hiσ] at e2
    cases e2
    exact ⟨u,r,.inl ⟨hk,by simp⟩⟩
   ·rw [List.getElem?_set_ne (Ne.symm hj)] at e2
    obtain ⟨u',r',q⟩:=hl j y v' e1 e2 e3
    refine ⟨u',r',?_⟩
    rcases q with ⟨k,e⟩ | ⟨k,c,e,z⟩
    ·refine .inl ⟨k,?_⟩
     have:y≠x:=λe=>hj (zjg hN e1 (e ▸ hi))
     simp [this,e]
    ·exact .inr ⟨k,c,e,z.sameBut hs (cne y c e)⟩
  ·obtain ⟨w',z⟩:=I.cell y c e
   exact ⟨w',z.sameBut hs (cne y c e)⟩
  ·obtain ⟨e,n,ne,nf,d⟩:=I.pin p hp
   exact ⟨(hs.2 p.1 ne).trans e,n,ne,nf,d⟩
 ·have hfn:X.fn x=true:=by
   rcases hf with z | z
   ·exact z
   ·rw [z] at hk;cases hk
  obtain ⟨c,hc⟩:=I.ok.has x (.inl hk)
  obtain ⟨w',z⟩:=I.cell x c hc
  refine wpAny_storeName_cell I.ok.kind hk hc z (λh' hc' hs=>?_)
  obtain ⟨oc,hoc,hocd⟩:=id z
  refine h { s with heap:=h' } ⟨I.ok,I.os,I.bare,⟨λb o e n hb hx=>?_,λb o e n hb hx=>?_,I.base.free,λb o e hx=>?_,I.base.tups,I.base.frzs,I.base.tbls⟩,⟨m,hn.sameBut hs (Ne.symm (cne x c hc)),λj y v' e1 e2 e3=>?_⟩,λy c' e=>?_,I.free,I.freeC,λp hp=>?_,tracked ⟨oc,hoc,I.freeC x c hc⟩ hs,by simpa using I.len⟩ ⟨c,hs,.inr hc⟩
  ·exact (↑260).trans (I.base.keep b o e n hb hx)
  ·obtain ⟨sl,e1⟩:=I.base.slot b o e n hb hx
   exact ⟨sl,(↑260).trans e1⟩
  ·obtain ⟨o',e1⟩:=I.base.there b o e hx
   exact ⟨o',(↑260).trans e1⟩
  ·by_cases hj:j=i
   ·subst hj
    rw [hi] at e1;cases e1
    rw [List.getElem?_set_self hiσ] at e2
    cases e2
    exact ⟨u,r,.inr ⟨.inl hk,c,hc,hc'⟩⟩
   ·rw [List.getElem?_set_ne (Ne.symm hj)] at e2
    obtain ⟨u',r',q⟩:=hl j y v' e1 e2 e3
    refine ⟨u',r',?_⟩
    rcases q with q | ⟨k,c',e,z'⟩
    ·exact .inl q
    ·refine .inr ⟨k,c',e,z'.sameBut hs ?_⟩
     rintro rfl
     exact hj (zjg hN e1 (I.ok.inj _ _ _ e hc ▸ hi))
  ·by_cases hcc:c'=c
   ·subst hcc;exact ⟨_,hc'⟩
   ·obtain ⟨w2,z2⟩:=I.cell y c' e
    exact ⟨w2,z2.sameBut hs hcc⟩
  ·obtain ⟨e,n,ne,nf,d⟩:=I.pin p hp
   refine ⟨(hs.2 p.1 ?_).trans e,n,ne,nf,d⟩
   intro q
   rw [q,hoc] at e
   have q':oc=p.2:=Option.some.inj e
   exact d w' (by rw [← q'];exact hocd)
theorem zfo {M:Model} {A:Around} {E:Value->Shared->Prop} {i:Nat} {x:Str} {v:V} {u:Value} {Q:Unit->Shared->Prop} (I:Inv X pins σ H s) (hN:X.N.Nodup) (hi:X.N[i]?=some x) (hx:Loc X.env.scope x) (r:zdy v u)
  (h:∀ s',Inv X pins ↑155 H s'->Q () s') (hf:X.fn x=true∨X.env.scope.names.lookup x=some .local:=by first | exact .inl rfl | exact .inr rfl | assumption):wpAny M A (storeName X.env x u) Q E s :=
 zjB I hN hi hx r (λs' I' _=>h s' I') hf
theorem Inv.call' {s':Shared} {ch:List Addr} (I:Inv X pins σ H s) (ho:s'.os=s.os) (u:Un (frs X.stack) ch H H' s.heap s'.heap) (hok:HOk X.prog X.w H' s'.heap) (hg:AllBare s'.gens)
  (hch:∀ b∈ch,↑255∧b≠X.env.locals∧↑190∧∀ p∈X.pn++pins,p.1≠b):Inv X pins σ H' s':=by
 obtain ⟨h',g',d',t',o'⟩:=s'
 have e:o'=s.os:=ho
 subst e
 exact I.call (g':=g') (t':=t') (d':=d') u hok hg hch
end
abbrev XK:=Value->Option Addr->Hp->Prop
abbrev St:=List (Option V)
abbrev VK:=V->Hp->Prop
abbrev TE:=St->Hp->VK->Prop
abbrev TT:=St->Hp->(Bool->Hp->Prop)->Prop
abbrev TA:=St->Hp->(List V->Hp->Prop)->Prop
structure Ends where
 nx:St->Hp->Prop
 rt:VK
 bk:St->Hp->Prop:=λ_ _=>False
 ct:St->Hp->Prop:=λ_ _=>False
abbrev TS:=Ends->St->Hp->Prop
def EP (X:Cx) (pins:List ⇑2) (σ:St) (Q:VK) (u:Value) (s':Shared):Prop:=∃ v H',Inv X pins σ H' s'∧zdy v u∧Q v H'
def TP (X:Cx) (pins:List ⇑2) (σ:St) (Q:Bool->Hp->Prop) (b:Bool) (s':Shared):Prop:=∃ H',Inv X pins σ H' s'∧Q b H'
def AP (X:Cx) (pins:List ⇑2) (σ:St) (Q:List V->Hp->Prop) (us:List Value) (s':Shared):Prop:=∃ vs H',Inv X pins σ H' s'∧zco vs us∧Q vs H'
def SP (X:Cx) (pins:List ⇑2) (D:Ends) (f:Flow) (s':Shared):Prop :=
 match f with
 | .next=>∃ σ' H',Inv X pins σ' H' s'∧D.nx σ' H'
 | .brk=>∃ σ' H',Inv X pins σ' H' s'∧D.bk σ' H'
 | .cont=>∃ σ' H',Inv X pins σ' H' s'∧D.ct σ' H'
 | .ret u=>∃ v σ' H',Inv X pins σ' H' s'∧zdy v u∧D.rt v H'
def PE (X:Cx) (e:Expr) (t:TE):Prop :=
 ∀ (pins:List ⇑2) (s:Shared) (σ:St) (H:Hp) (Q:VK),Inv X pins σ H s->t σ H Q->wpAny ↑3 X.A (eval e X.env) ↑65 X.xe s
def PT (X:Cx) (e:Expr) (t:TT):Prop :=
 ∀ (pins:List ⇑2) (s:Shared) (σ:St) (H:Hp) (Q:Bool->Hp->Prop),Inv X pins σ H s->t σ H Q->wpAny ↑3 X.A (isTrue e X.env (eval e X.env)) (TP X pins σ Q) X.xe s
def PW (X:Cx) (e:Expr) (t:TT):Prop :=
 ∀ (whole:Sem Value) (pins:List ⇑2) (s:Shared) (σ:St) (H:Hp) (Q:Bool->Hp->Prop),Inv X pins σ H s->t σ H Q->wpAny ↑3 X.A (isTrue e X.env whole) (TP X pins σ Q) X.xe s
theorem PW.pt {X:Cx} {e:Expr} {t:TT} (h:PW X e t):PT X e t:=h _
def PA (X:Cx) (es:List Expr) (t:TA):Prop :=
 ∀ (pos:Pos) (pins:List ⇑2) (s:Shared) (σ:St) (H:Hp) (Q:List V->Hp->Prop),Inv X pins σ H s->t σ H Q->wpAny ↑3 X.A (spliced ↑79) (AP X pins σ Q) X.xe s
def PS (X:Cx) (st:Stmt) (t:TS):Prop :=
 ∀ (pins:List ⇑2) (s:Shared) (σ:St) (H:Hp) (D:Ends),Inv X pins σ H s->t D σ H->wpAny ↑3 X.A (exec st X.env) (SP X pins D) X.xe s
def PSs (X:Cx) (st:List Stmt) (t:TS):Prop :=
 ∀ (pins:List ⇑2) (s:Shared) (σ:St) (H:Hp) (D:Ends),Inv X pins σ H s->t D σ H->wpAny ↑3 X.A (execs st X.env) (SP X pins D) X.xe s
theorem thn {α:Type} {t:Sem α} {Q Q':α->Shared->Prop} {M:Model} {A:Around} {E:Value->Shared->Prop} {s:Shared} (h:wpAny M A t Q E s) (hQ:∀ a s,Q a s->Q' a s):wpAny M A t Q' E s:=wpAny_mono h hQ λ_ _ x=>x
section
variable {X:Cx}
theorem bin {a b:Expr} {ta tb:TE} (ha:PE X a ta) (hb:PE X b tb) {pins:List ⇑2} {s:Shared} {σ:St} {H:Hp} {R:V->V->Hp->Prop} (I:Inv X pins σ H s) (h:ta σ H λx H1=>tb σ H1 λy H2=>R x y H2)
  {α:Type} {Q:α->Shared->Prop} {f:Value->Value->Sem α}
  (hf:∀ v u s2 x y H2,Inv X pins σ H2 s2->zdy x v->zdy y u->R x y H2->wpAny ↑3 X.A (f v u) Q X.xe s2) :
  wpAny ↑3 X.A (eval a X.env) (λv s₁=>wpAny ↑3 X.A (eval b X.env) (λu s₂=>wpAny ↑3 X.A (f v u) Q X.xe s₂) X.xe s₁) X.xe s:=by
 refine thn ↑110 λv s1 ⟨x,H1,I1,r1,q1⟩=>?_
 refine thn (hb pins s1 σ H1 _ I1 q1) λu s2 ⟨y,H2,I2,r2,q2⟩=>?_
 exact hf v u s2 x y H2 I2 r1 r2 q2
def zis (i:Nat):TE:=λσ H Q=>∃ v,σ[i]?=some (some v)∧Q v H
def tC (v:V):TE:=λ_ H Q=>Q v H
theorem zpA {i:Nat} {x:Str} {pos:Pos} (hN:X.N[i]?=some x) (hv:Vis X.env.scope x) (hd:↑54=false:=by decide) (hcd:(x == ("__classdict__" :Str))=false:=by decide):PE X (.Name x pos) (zis i):=by
 intro pins s σ H Q I h
 obtain ⟨v,e,h⟩:=h
 obtain ⟨m,hn,hl⟩:=I.loc
 obtain ⟨u,r,l⟩:=hl i x v hN e hv
 have fin:EP X pins σ Q u s:=⟨v,H,I,r,h⟩
 rcases l with ⟨hk,hm⟩ | ⟨hk,c,hc,hcell⟩
 ·exact wpAny_Name (wpAny_loadName_local I.ok.kind hk hn hm fin) hd
 ·rcases hk with hk | hk
  ·exact wpAny_Name (wpAny_loadName_cell I.ok.kind hk hc hcell fin) hd
  ·exact wpAny_Name (wpAny_loadName_free I.ok.kind hk hc hcell fin hcd) hd
theorem zai {i j pos}:PE X (.Constant (.int i) j pos) (tC (.int i)):=λ_ _ _ H _ I h=>wpAny_Constant_int ⟨.int i,H,I.tok _,⟨_,rfl⟩,h⟩
theorem zj3 {b j pos}:PE X (.Constant (.bool b) j pos) (tC (.bl b)):=λ_ _ _ H _ I h=>Constant_bool ⟨.bl b,H,I,rfl,h⟩
theorem zjP {j pos}:PE X (.Constant .none j pos) (tC .non):=λ_ _ _ H _ I h=>Constant_none ⟨.non,H,I,rfl,h⟩
theorem zdg {x j pos}:PE X (.Constant (.str x) j pos) (tC (.str x)):=λ_ _ _ H _ I h=>Calls.Constant_str ⟨.str x,H,I.tok _,⟨_,rfl⟩,h⟩
def Gl (X:Cx) (x:Str):Prop:=X.env.kindOf x=some .globalImplicit
theorem zg9 {E:Value->Shared->Prop} {pins:List ⇑2} {s:Shared} {σ:St} {H:Hp} {x:Str} {u:Value} {pos:Pos} {Q:Value->Shared->Prop} (I:Inv X pins σ H s) (hg:Gl X x) (hm:X.mg x=some u) (h:Q u s)
  (hd:↑54=false:=by decide):wpAny ↑3 X.A (eval (.Name x pos) X.env) Q E s :=
 Calls.Name_function_global I.ok.kind hg (Calls.loadGlobal_global (by rw [I.ok.glob];exact I.mod.glob.keeps I.bk) hm h) hd
theorem zhT {E:Value->Shared->Prop} {pins:List ⇑2} {s:Shared} {σ:St} {H:Hp} {x:Str} {u:Value} {pos:Pos} {Q:Value->Shared->Prop} (I:Inv X pins σ H s) (hg:Gl X x) (hm:X.mg x=none) (hv:bootBuiltins x=some u) (h:Q u s)
  (hn:x≠"__name__":=by decide) (hd:↑54=false:=by decide):wpAny ↑3 X.A (eval (.Name x pos) X.env) Q E s:=by
 obtain ⟨mb,h1,h2⟩:=I.mod.blt
 exact Calls.Name_function_global I.ok.kind hg (Calls.loadGlobal_builtin (by rw [I.ok.glob];exact I.mod.glob.keeps I.bk) hm (by rw [I.ok.blt];exact h1.keeps I.bk) ((h2 x hn).trans hv) h) hd
theorem zbW {x:Str} {v:V} {u:Value} {pos:Pos} (hg:Gl X x) (hm:X.mg x=some u) (r:zdy v u) (hd:↑54=false:=by decide):PE X (.Name x pos) (tC v) :=
 λ_ _ _ H _ I h=>zg9 I hg hm ⟨v,H,I,r,h⟩ hd
theorem zjv {x:Str} {v:V} {u:Value} {pos:Pos} (hg:Gl X x) (hm:X.mg x=none) (hv:bootBuiltins x=some u) (r:zdy v u) (hn:x≠"__name__":=by decide) (hd:↑54=false:=by decide):PE X (.Name x pos) (tC v) :=
 λ_ _ _ H _ I h=>zhT I hg hm hv ⟨v,H,I,r,h⟩ hn hd
variable {a b:Expr} {ta tb:TE} {pos:Pos}
def PC (X:Cx) (op:CmpOp) (a b:Expr) (t:TE):Prop :=
 ∀ (pins:List ⇑2) (s:Shared) (σ:St) (H:Hp) (Q:VK),Inv X pins σ H s->t σ H Q →
  wpAny ↑3 X.A (eval a X.env) (λv s₁=>wpAny ↑3 X.A (eval b X.env) (λu s₂=>wpAny ↑3 X.A (compareOp op v u) ↑65 X.xe s₂) X.xe s₁) X.xe s
theorem zov (b:Expr) {op:CmpOp} (h:op≠.In) (h2:op≠.NotIn):behindInMarks op b=false:=by
 have e1:(op == CmpOp.In)=false:=by cases op<;>first | rfl | exact absurd rfl h
 have e2:(op == CmpOp.NotIn)=false:=by cases op<;>first | rfl | exact absurd rfl h2
 cases b<;>simp [behindInMarks,e1,e2]
def tB (t:TE):TT:=λσ H Q=>t σ H λx H1=>∃ c,x=.bl c∧Q c H1
theorem zu8 {op:CmpOp} {t:TE} (h:PC X op a b t) (h1:behindInMarks op b=false:=by first | exact zov _ ↑1 ↑1 | rfl):PT X (.Compare a [op] [b] pos) (tB t):=by
 intro pins s σ H Q I hw
 refine wpAny_isTrue_Compare1 (thn (h pins s σ H _ I hw) λv s1 h1=>thn h1 λu s2 h2=>thn h2 λc s3 ⟨x,H1,I1,r1,q1⟩=>?_) h1
 obtain ⟨d,rfl,q⟩:=q1
 cases r1
 exact wpAny_truthy_bool ⟨H1,I1,q⟩
theorem zhR {e:Expr} {t:TE} (h:PE X e t) (he:∀ whole,isTrue e X.env whole=(do let v ← whole;standAt e.pos;holding [v] (truthy v)):=by intro _;rfl):PT X e (tB t):=by
 intro pins s σ H Q I hw
 refine isTrue_plain (thn (h pins s σ H _ I hw) λv s1 ⟨x,H1,I1,r1,q1⟩=>?_) (he _)
 obtain ⟨d,rfl,q⟩:=q1
 cases r1
 exact wpAny_truthy_bool ⟨H1,I1,q⟩
variable {tA tB':TT} {rest:List Expr}
def zu4 (t u:TT):TT:=λσ H Q=>t σ H λc H1=>if c=true then u σ H1 Q else Q false H1
def tOr (t u:TT):TT:=λσ H Q=>t σ H λc H1=>if c=true then Q true H1 else u σ H1 Q
def zvc (t:TT):TT:=λσ H Q=>t σ H λc H1=>Q (!c) H1
theorem zjd (ha:PT X a tA):PW X (.BoolOp .And [a] pos) tA:=by
 intro wh pins s σ H Q I h
 refine isTrue_and (thn (ha pins s σ H Q I h) λc s1 e=> ?_)
 cases c with
 | true=>exact isTrue_and_nil e
 | false=>exact e
theorem zih (ha:PT X a tA):PW X (.BoolOp .Or [a] pos) tA:=by
 intro wh pins s σ H Q I h
 refine isTrue_or (thn (ha pins s σ H Q I h) λc s1 e=> ?_)
 cases c with
 | false=>exact isTrue_or_nil e
 | true=>exact e
theorem zlM (ha:PT X a tA) (hb:PW X (.BoolOp .And (b :: rest) pos) tB'):PW X (.BoolOp .And (a :: b :: rest) pos) (zu4 tA tB'):=by
 intro wh pins s σ H Q I h
 refine isTrue_and (thn ↑110 λc s1 ⟨H1,I1,q1⟩=>?_)
 cases c with
 | true=>exact hb wh pins s1 σ H1 Q I1 q1
 | false=>exact ⟨H1,I1,q1⟩
theorem zky (ha:PT X a tA) (hb:PW X (.BoolOp .Or (b :: rest) pos) tB'):PW X (.BoolOp .Or (a :: b :: rest) pos) (tOr tA tB'):=by
 intro wh pins s σ H Q I h
 refine isTrue_or (thn ↑110 λc s1 ⟨H1,I1,q1⟩=>?_)
 cases c with
 | true=>exact ⟨H1,I1,q1⟩
 | false=>exact hb wh pins s1 σ H1 Q I1 q1
theorem ziM (ha:PT X a tA):PT X (.UnaryOp .Not a pos) (zvc tA):=by
 intro pins s σ H Q I h
 exact isTrue_not (ha pins s σ H (λc H1=>Q (!c) H1) I h)
def zsA (ta tb:TE):TE:=λσ H Q=>ta σ H λx H1=>∃ c,x=.bl c∧if c=true then tb σ H1 Q else Q (.bl false) H1
def zu2 (ta tb:TE):TE:=λσ H Q=>ta σ H λx H1=>∃ c,x=.bl c∧if c=true then Q (.bl true) H1 else tb σ H1 Q
def zti (ta:TE):TE:=λσ H Q=>ta σ H λx H1=>∃ c,x=.bl c∧Q (.bl (!c)) H1
theorem zka {op} {t:TE} (h:PE X a t):PE X (.BoolOp op [a] pos) t:=λpins s σ H Q I hw=>BoolOp_one (h pins s σ H Q I hw)
theorem zlB (ha:PE X a ta) (hb:PE X (.BoolOp .And (b :: rest) pos) tb):PE X (.BoolOp .And (a :: b :: rest) pos) (zsA ta tb):=by
 intro pins s σ H Q I h
 refine BoolOp_and (thn ↑110 λv s1 ⟨x,H1,I1,r1,q1⟩=> ?_)
 obtain ⟨c,rfl,q1⟩:=q1
 cases r1
 refine wpAny_truthy_bool ?_
 cases c with
 | true=>exact hb pins s1 σ H1 Q I1 q1
 | false=>exact ⟨.bl false,H1,I1,rfl,q1⟩
theorem zt9 (ha:PE X a ta) (hb:PE X (.BoolOp .Or (b :: rest) pos) tb):PE X (.BoolOp .Or (a :: b :: rest) pos) (zu2 ta tb):=by
 intro pins s σ H Q I h
 refine BoolOp_or (thn ↑110 λv s1 ⟨x,H1,I1,r1,q1⟩=> ?_)
 obtain ⟨c,rfl,q1⟩:=q1
 cases r1
 refine wpAny_truthy_bool ?_
 cases c with
 | false=>exact hb pins s1 σ H1 Q I1 q1
 | true=>exact ⟨.bl true,H1,I1,rfl,q1⟩
theorem zsS (ha:PE X a ta):PE X (.UnaryOp .Not a pos) (zti ta):=by
 intro pins s σ H Q I h
 refine UnaryOp_ (thn ↑110 λv s1 ⟨x,H1,I1,r1,q1⟩=> ?_)
 obtain ⟨c,rfl,q1⟩:=q1
 cases r1
 exact not_of (wpAny_truthy_bool ⟨.bl (!c),H1,I1,rfl,q1⟩)
def tIf (t:TT) (ta tb:TE):TE:=λσ H Q=>t σ H λc H1=>if c=true then ta σ H1 Q else tb σ H1 Q
theorem zoN {c:Expr} (hc:PT X c tA) (ha:PE X a ta) (hb:PE X b tb):PE X (.IfExp c a b pos) (tIf tA ta tb):=by
 intro pins s σ H Q I h
 refine wpAny_IfExp (thn (hc pins s σ H _ I h) λd s1 ⟨H1,I1,q1⟩=> ?_)
 cases d with
 | true=>exact ha pins s1 σ H1 Q I1 q1
 | false=>exact hb pins s1 σ H1 Q I1 q1
end
def SqL (K:W.Frag) (H:Hp) (a:Addr) (xs:List V):Prop :=
 Rd H a (.lst xs) ∨
  ∃ (o:Obj) (its:Array Value) (n:Nat),K.lookup a=some o∧o.cls=.type "list"∧o.dict=none∧o.data=.seq its n∧its.size≤sizeLine∧zco xs its.toList
def SqT (K:W.Frag) (H:Hp) (a:Addr) (xs:List V):Prop :=
 Rd H a (.tup xs) ∨
  ∃ (o:Obj) (its:Array Value) (n:Nat),K.lookup a=some o∧o.cls=.type "tuple"∧o.data=.seq its n∧its.size≤sizeLine∧zco xs its.toList
def zvO:Value->Option V
 | .none=>some .non
 | .bool b=>some (.bl b)
 | .int i _=>some (.int i)
 | .str x _=>some (.str x)
 | .bytes b _=>some (.byt b)
 | .float b _=>some (.flt b)
 | .ref a=>some (.ref a)
 | .type n=>some (.ty n)
 | _=>none
theorem zdy.abs {x:V} {u:Value} (r:zdy x u):zvO u=some x:=by
 cases x with
 | non=>cases r;rfl
 | bl _=>cases r;rfl
 | int _=>obtain ⟨t,rfl⟩:=r;rfl
 | str _=>obtain ⟨t,rfl⟩:=r;rfl
 | byt _=>obtain ⟨t,rfl⟩:=r;rfl
 | flt _=>obtain ⟨t,rfl⟩:=r;rfl
 | ref _=>cases r;rfl
 | ty _=>cases r;rfl
theorem zdy.inj {x y:V} {u:Value} (r:zdy x u) (q:zdy y u):x=y:=Option.some.inj (r.abs.symm.trans q.abs)
theorem zco.inj:∀ {xs ys:List V} {us:List Value},zco xs us->zco ys us->xs=ys
 | _,_,_,.nil,.nil=>rfl
 | _,_,_,.cons r t,.cons r' t'=>by rw [r.inj r',zco.inj t t']
section
variable {X:Cx} {pins:List ⇑2} {σ:St} {H:Hp} {s:Shared} {a:Addr} {xs ys:List V}
theorem SqL.of {K:W.Frag} (h:H a=some (.lst xs)):SqL K H a xs:=.inl (.inl h)
theorem Inv.list (I:Inv X pins σ H s) (h:SqL X.K H a xs):∃ its:List Value,zco xs its∧PlainL s.heap a its.toArray∧xs.length≤sizeLine:=by
 rcases h with h | ⟨o,its,n,hk,hc,hd,hs,hz,r⟩
 ·obtain ⟨z,its,n,r,e⟩:=h.ok I.hok
  exact ⟨its,r,⟨_,n,e,rfl,rfl,rfl⟩,z⟩
 ·refine ⟨its.toList,r,⟨o,n,I.kIn a o hk,hc,hd,by simpa using hs⟩,?_⟩
  have e:=r.length
  simp only [Array.length_toList] at e
  omega
theorem Inv.tuple (I:Inv X pins σ H s) (h:SqT X.K H a xs):∃ its:List Value,zco xs its∧IsTup s.heap a its.toArray∧xs.length≤sizeLine:=by
 rcases h with h | ⟨o,its,n,hk,hc,hs,hz,r⟩
 ·obtain ⟨z,its,r,p⟩:=h.ok I.hok
  exact ⟨its,r,p,z⟩
 ·refine ⟨its.toList,r,⟨o,I.kIn a o hk,hc,n,by simpa using hs⟩,?_⟩
  have e:=r.length
  simp only [Array.length_toList] at e
  omega
theorem Inv.list_inj (I:Inv X pins σ H s) (h:SqL X.K H a xs) (h':SqL X.K H a ys):xs=ys:=by
 obtain ⟨its,r,⟨o,n,e,_,_,d⟩,_⟩:=I.list h
 obtain ⟨its',r',⟨o',n',e',_,_,d'⟩,_⟩:=I.list h'
 rw [e] at e';cases e'
 rw [d] at d'
 injection d' with d1 _
 have:its=its':=by simpa using congrArg Array.toList d1
 subst this
 exact r.inj r'
end
abbrev Cx.wish (X:Cx) (E:Value->Shared->Prop):Cx:={ X with xe:=E }
abbrev Cx.nox (X:Cx):Cx:=X.wish λ_ _=>False
theorem Cx.Ok.wish {X:Cx} (ok:X.Ok) (E:Value->Shared->Prop):(X.wish E).Ok :=
 ⟨ok.mod,ok.kind,ok.glob,ok.blt,ok.above,ok.inj,ok.has,ok.cab,ok.hd,ok.frames,ok.stk,ok.exf,ok.bs,ok.bsz,ok.noex,ok.exfs,ok.funs,ok.frf⟩
theorem Cx.Ok.unwish {X:Cx} {E:Value->Shared->Prop} (ok:(X.wish E).Ok):X.Ok :=
 ⟨ok.mod,ok.kind,ok.glob,ok.blt,ok.above,ok.inj,ok.has,ok.cab,ok.hd,ok.frames,ok.stk,ok.exf,ok.bs,ok.bsz,ok.noex,ok.exfs,ok.funs,ok.frf⟩
section
variable {X:Cx} {pins:List ⇑2} {σ:St} {H:Hp} {s:Shared} {E:Value->Shared->Prop}
theorem Inv.wish (I:Inv X pins σ H s) (E:Value->Shared->Prop):Inv (X.wish E) pins σ H s:=⟨I.ok.wish E,I.os,I.bare,I.base,I.loc,I.cell,I.free,I.freeC,I.pin,I.hok,I.len⟩
theorem Inv.unwish (I:Inv (X.wish E) pins σ H s):Inv X pins σ H s:=⟨I.ok.unwish,I.os,I.bare,I.base,I.loc,I.cell,I.free,I.freeC,I.pin,I.hok,I.len⟩
theorem SP.unwish {D:Ends} {f:Flow} {s':Shared} (h:SP (X.wish E) pins D f s'):SP X pins D f s':=by
 cases f with
 | next=>obtain ⟨σ',H',I,q⟩:=h;exact ⟨σ',H',I.unwish,q⟩
 | brk=>obtain ⟨σ',H',I,q⟩:=h;exact ⟨σ',H',I.unwish,q⟩
 | cont=>obtain ⟨σ',H',I,q⟩:=h;exact ⟨σ',H',I.unwish,q⟩
 | ret u=>obtain ⟨v,σ',H',I,r,q⟩:=h;exact ⟨v,σ',H',I.unwish,r,q⟩
end
section
variable {X:Cx} {st:Stmt} {rest:List Stmt} {t u:TS} {e:Expr} {te:TE} {pos:Pos}
def znT:TS:=λD σ H=>D.nx σ H
def tSeq (t u:TS):TS:=λD σ H=>t { D with nx:=u D } σ H
theorem zaf:PSs X [] znT:=λ_ _ σ H _ I h=>wpAny_execs_nil ⟨σ,H,I,h⟩
theorem zac (h1:PS X st t) (h2:PSs X rest u):PSs X (st :: rest) (tSeq t u):=by
 intro pins s σ H D I h
 refine wpAny_execs_cons (thn (h1 pins s σ H { D with nx:=u D } I h) λf s1 q=>?_)
 cases f with
 | next =>
  obtain ⟨σ',H',I',q⟩:=q
  exact h2 pins s1 σ' H' D I' q
 | ret v=>exact q
 | brk=>exact q
 | cont=>exact q
theorem zqJ (h1:PS X st t):PSs X [st] t:=by
 intro pins s σ H D I h
 refine wpAny_execs_cons (thn (h1 pins s σ H D I h) λf s1 q=>?_)
 cases f with
 | next=>exact wpAny_execs_nil q
 | ret v=>exact q
 | brk=>exact q
 | cont=>exact q
theorem Inv.quiet {pins:List ⇑2} {σ:St} {H:Hp} {s:Shared} (I:Inv X pins σ H s):interactive X.env=false:=by simp [interactive,I.ok.kind]
def znB (te:TE):TS:=λD σ H=>te σ H λ_ H1=>D.nx σ H1
theorem zc9 (he:PE X e te) (hs:swapsWith e none pos.line X.env=pure false:=by rfl):PS X (.Expr e pos) (znB te):=by
 intro pins s σ H D I h
 exact wpAny_Expr_any (thn ↑149 λv s1 ⟨x,H1,I1,r1,q1⟩=>⟨σ,H1,I1,q1⟩) I.quiet hs
def zoi (te:TE):TS:=λD σ H=>te σ H D.rt
theorem zaR (he:PE X e te):PS X (.Return (some e) pos) (zoi te):=by
 intro pins s σ H D I h
 exact wpAny_Return_some (thn ↑149 λv s1 ⟨x,H1,I1,r1,q1⟩=>⟨x,σ,H1,I1,r1,q1⟩)
def zs5 (c:TT) (t u:TS):TS:=λD σ H=>c σ H λb H1=>if b=true then t D σ H1 else u D σ H1
theorem zcp {c:Expr} {a b:List Stmt} {tc:TT} (hc:PT X c tc) (ha:PSs X a t) (hb:PSs X b u):PS X (.If c a b pos) (zs5 tc t u):=by
 intro pins s σ H D I h
 refine wpAny_If (thn (hc pins s σ H _ I h) λd s1 ⟨H1,I1,q1⟩=> ?_)
 cases d with
 | true=>exact ha pins s1 σ H1 D I1 q1
 | false=>exact hb pins s1 σ H1 D I1 q1
def zrN:TS:=λ_ _ _=>False
theorem zes:PS X st zrN:=λ_ _ _ _ _ _ h=>h.elim
end
abbrev TG:=V->St->Hp->(St->Hp->Prop)->Prop
abbrev TGs:=List V->St->Hp->(St->Hp->Prop)->Prop
def PG (X:Cx) (target:Expr) (t:TG):Prop :=
 ∀ (pins:List ⇑2) (s:Shared) (σ:St) (H:Hp) (v:V) (u:Value) (Q:St->Hp->Prop),Inv X pins σ H s->zdy v u->t v σ H Q →
  wpAny ↑3 X.A (assign target X.env u) (λ_ s'=>∃σ' H',Inv X pins σ' H' s'∧Q σ' H') X.xe s
def PGs (X:Cx) (ts:List Expr) (t:TGs):Prop :=
 ∀ (pins:List ⇑2) (s:Shared) (σ:St) (H:Hp) (vs:List V) (us:List Value) (Q:St->Hp->Prop),Inv X pins σ H s->zco vs us->t vs σ H Q →
  wpAny ↑3 X.A (assignInOrder ((assignEach ts X.env).map (·.2)) us) (λ_ s'=>∃σ' H',Inv X pins σ' H' s'∧Q σ' H') X.xe s
abbrev zup:=V->V->V->Hp->(Hp->Prop)->Prop
def zu9 (X:Cx) (t:zup):Prop :=
 ∀ (pins:List ⇑2) (s:Shared) (σ:St) (H:Hp) (o i v:V) (ov iv u:Value) (Q:Hp->Prop),Inv X pins σ H s->zdy o ov->zdy i iv->zdy v u->t o i v H Q →
  wpAny ↑3 X.A (setItem ov iv u) (λ_ s'=>∃ H',Inv X pins σ H' s'∧Q H') X.xe s
section
variable {X:Cx} {pos:Pos}
def zd8 (i:Nat):TG:=λv σ H Q=>Q ↑155 H
theorem zan {i:Nat} {x:Str} (hN:X.N.Nodup) (hi:X.N[i]?=some x) (hx:Loc X.env.scope x) (hf:X.fn x=true∨X.env.scope.names.lookup x=some .local:=by first | exact .inl rfl | exact .inr rfl | assumption):PG X (.Name x pos) (zd8 i):=by
 intro pins s σ H v u Q I r h
 exact wpAny_assign_Name (zfo I hN hi hx r (λs' I'=>⟨_,H,I',h⟩) hf)
def zrw:TGs:=λvs σ H Q=>vs=[]∧Q σ H
def zhA (t:TG) (u:TGs):TGs:=λvs σ H Q=>∃ v r,vs=v :: r∧t v σ H λσ' H'=>u r σ' H' Q
theorem zci:PGs X [] zrw:=by
 intro pins s σ H vs us Q I r h
 obtain ⟨e,h⟩:=h
 subst e
 cases r
 exact assignInOrder_nil ⟨σ,H,I,h⟩
theorem zaG {e:Expr} {es:List Expr} {t:TG} {u:TGs} (h1:PG X e t) (h2:PGs X es u)
  (hs:(assignEach (e::es) X.env).map (·.2)=assign e X.env :: ((assignEach es X.env)).map (·.2):=by rfl):PGs X (e::es) (zhA t u):=by
 intro pins s σ H vs us Q I r h
 obtain ⟨v,vr,e1,h⟩:=h
 subst e1
 cases r with
 | cons r rr =>
  rw [hs]
  refine assignInOrder_cons (thn (h1 pins s σ H _ _ _ I r h) λ_ s1 ⟨σ1,H1,I1,q1⟩=>?_)
  exact h2 pins s1 σ1 H1 _ _ Q I1 rr q1
def zrq (K:W.Frag) (n:Nat) (t:TGs):TG:=λv σ H Q=>∃ a xs,v=.ref a∧SqT K H a xs∧xs.length=n∧t xs σ H Q
theorem ztl {es:List Expr} {k:Nat} {t:TGs} {n:Nat} (hc:X.calm=true) (h:PGs X es t)
  (hn:((assignEach es X.env)).length=n:=by rfl) (hst:((assignEach es X.env)).findIdx? (·.1)=none:=by rfl):PG X (.Tuple es k pos) (zrq X.K n t):=by
 intro pins s σ H v u Q I r hw
 obtain ⟨a,xs,e1,hq,hl,hw⟩:=hw
 subst e1
 cases r
 obtain ⟨its,rv,ht,hz⟩:=I.tuple hq
 refine assign_Tuple_tuple (I.ok.hd hc) ht (by simp [hn,← hl,rv.length]) hst λh' hx=>?_
 have I1:Inv X pins σ H { s with heap:=h' }:=I.kept (t':=s.toks) λb o e=>hx b o (Nat.ne_of_lt ↑117) e
 exact h pins _ σ H xs _ Q I1 (by simpa using rv) hw
def zsj (to ti:TE) (t:zup):TG:=λv σ H Q=>to σ H λo H1=>ti σ H1 λi H2=>t o i v H2 λH3=>Q σ H3
theorem zkb {o i:Expr} {to ti:TE} {t:zup} (ho:PE X o to) (hi:PE X i ti) (hs:zu9 X t)
  (ha:∀ v,assign (.Subscript o i pos) X.env v=(do
   let ov ← holding [v] (eval o X.env)
   let iv ← holding [v,ov] (eval i X.env)
   standAt pos
   holding [v,ov,iv] (setItem ov iv v)
   release [v,ov,iv] []):=by intro _;rfl):PG X (.Subscript o i pos) (zsj to ti t):=by
 intro pins s σ H v u Q I r h
 rw [ha]
 refine wpAny_bind (wpAny_holding (thn (ho pins s σ H _ I h) λov s1 ⟨x,H1,I1,r1,q1⟩=>?_))
 refine wpAny_bind (wpAny_holding (thn (hi pins s1 σ H1 _ I1 q1) λiv s2 ⟨y,H2,I2,r2,q2⟩=>?_))
 refine wpAny_bind (wpAny_standAt (wpAny_bind (wpAny_holding (thn (hs pins s2 σ H2 x y v ov iv u _ I2 r1 r2 r q2) λ_ s3 ⟨H3,I3,q3⟩=>?_))))
 exact wpAny_release ⟨σ,H3,I3,q3⟩
def zjR (te:TE) (g:TG):TS:=λD σ H=>te σ H λx H1=>g x σ H1 D.nx
theorem zgY {tg e:Expr} {te:TE} {g:TG} (he:PE X e te) (hg:PG X tg g) (hs:swapsWithSole [tg] e pos.line X.env=pure false:=by rfl) (hw:swappedStores [tg] e X.env=pure none:=by rfl)
  (h1:(assignEach [tg] X.env).map (·.2)=[assign tg X.env]:=by rfl):PS X (.Assign [tg] e pos) (zjR te g):=by
 intro pins s σ H D I h
 refine wpAny_Assign_stores (thn ↑149 λv s1 ⟨x,H1,I1,r1,q1⟩=> ?_) hs hw
 rw [h1]
 exact thn (hg pins s1 σ H1 x v _ I1 r1 q1) λ_ s2 q=>q
theorem zaq {i:Nat} {x:Str} {e:Expr} {te:TE} {pos':Pos} (hN:X.N.Nodup) (hi:X.N[i]?=some x) (hx:Loc X.env.scope x) (he:PE X e te) (hs:swapsWith e (some (.Name x pos')) pos.line X.env=pure false:=by rfl) (hf:X.fn x=true∨X.env.scope.names.lookup x=some .local:=by first | exact .inl rfl | exact .inr rfl | assumption) :
  PS X (.Assign [.Name x pos'] e pos) (zjR te (zd8 i)):=by
 intro pins s σ H D I h
 refine wpAny_Assign_Name (thn ↑149 λv s1 ⟨y,H1,I1,r1,q1⟩=>?_) hs
 exact zfo I1 hN hi hx r1 (λs2 I2=>⟨_,H1,I2,q1⟩) hf
def tPar (i j:Nat) (ta:TA):TS:=λD σ H=>ta σ H λvs H1=>∃ v w,vs=[v,w]∧D.nx ((↑155).set j (some w)) H1
theorem zrG {i j:Nat} {x y:Str} {a b:Expr} {ta:TA} {px py pt:Pos} {kt k2 pt2} (hc:X.calm=true) (hN:X.N.Nodup) (hi:X.N[i]?=some x) (hj:X.N[j]?=some y) (hij:i≠j)
  (hx:X.env.scope.names.lookup x=some .local) (hy:X.env.scope.names.lookup y=some .local) (ha:PA X [a,b] ta)
  (hw:swappedStores [.Tuple [.Name x px,.Name y py] kt pt] (.Tuple [a,b] k2 pt2) X.env=pure (some [x,y]))
  (hs:swapsWithSole [.Tuple [.Name x px,.Name y py] kt pt] (.Tuple [a,b] k2 pt2) pos.line X.env=pure false:=by rfl) :
  PS X (.Assign [.Tuple [.Name x px,.Name y py] kt pt] (.Tuple [a,b] k2 pt2) pos) (tPar i j ta):=by
 intro pins s σ H D I h
 rw [exec_Assign_arm]
 refine wpAny_bind (wpAny_standAt ?_)
 rw [hs]
 refine wpAny_bind (wpAny_pure ?_)
 rw [if_neg ↑1]
 refine wpAny_bind (Tuple_ (thn (ha _ pins s σ H _ I h) λus s1 ⟨vs,H1,I1,r1,q1⟩=>?_))
 obtain ⟨v,w,e1,q1⟩:=q1
 subst e1
 obtain ⟨u1,u2,rfl,rv,rw'⟩:∃ u1 u2,us=[u1,u2]∧zdy v u1∧zdy w u2:=by
  cases r1 with
  | cons p q =>
   cases q with
   | cons p' q' =>
    cases q'
    exact ⟨_,_,rfl,p,p'⟩
 refine wpAny_newObj_type ?_ ↑105
 have I2:Inv X pins σ H1 { s1 with heap:=s1.heap.push { cls:=.type "tuple",data:=.seq [u1,u2].toArray } }:=I1.kept (t':=s1.toks) λb o e=>Heap.get?_push_of_some _ e
 rw [hw]
 refine wpAny_bind (wpAny_pure ?_)
 show wpAny ↑3 X.A (do rule "assign.swapped-stores";let items ← unpackItems (.ref s1.heap.objs.size) 2 none;assignInOrder [λv=>bindName X.env y v,λv=>bindName X.env x v] items.reverse;pure Flow.next) _ _ _
 refine wpAny_bind (wpAny_rule (wpAny_bind (unpackItems_tuple (items:=#[u1,u2]) (I.ok.hd hc) (IsTup.new s1.heap _) λh' hx'=>?_)))
 have I3:=I2.kept (h':=h') (t':=s1.toks) λb o e=>hx' b o (Nat.ne_of_lt ↑117) e
 show wpAny _ _ (assignInOrder [λv=>bindName X.env y v,λv=>bindName X.env x v] [u2,u1] >>= λ_=>pure Flow.next) _ _ _
 refine wpAny_bind (assignInOrder_cons (wpAny_bindName (zfo I3 hN hj (.inl hy) rw' (λs2 I4=>?_) (.inr hy))))
 refine assignInOrder_cons (wpAny_bindName (zfo I4 hN hi (.inl hx) rv (λs3 I5=>assignInOrder_nil (wpAny_pure ?_)) (.inr hx)))
 rw [List.set_comm _ _ (Ne.symm hij)] at I5
 exact ⟨_,H1,I5,q1⟩
end
section
variable {X:Cx} {pos:Pos}
def zpy (c:TT) (tb:TS):TS:=λD σ H=>∃ W:Nat->St->Hp->Prop,(∃ m,W m σ H)∧∀ m σ H,W m σ H →
 c σ H λb H1=>if b=true then ∃ N:St->Hp->Prop,(∀ σ' H',N σ' H'->∃ m',m'<m∧W m' σ' H')∧tb { D with nx:=N,ct:=N,bk:=D.nx } σ H1 else D.nx σ H1
theorem zi4 {c:Expr} {body:List Stmt} {tc:TT} {tb:TS} (hp:PassesOwn ↑3 X.A X.env X.xe) (hc:PT X c tc) (hb:PSs X body tb):PS X (.While c body [] pos) (zpy tc tb):=by
 intro pins s σ H D I h
 obtain ⟨W,⟨m0,w0⟩,turn⟩:=h
 refine wpAny_While (codeAny_whileLoop (λn s'=>∃ σ' H',Inv X pins σ' H' s'∧W n σ' H') ?_ m0 ⟨σ,H,I,w0⟩)
 rintro n s1 ⟨σ1,H1,I1,w1⟩
 refine wpAny_passesOwn hp (thn (hc pins s1 σ1 H1 _ I1 (turn n σ1 H1 w1)) λb s2 ⟨H2,I2,q2⟩=>?_)
 cases b with
 | true =>
  obtain ⟨N,hN,q2⟩:=q2
  rw [if_pos rfl]
  refine wpAny_passesOwn hp (thn (hb pins s2 σ1 H2 _ I2 q2) λf s3 q3=>?_)
  cases f with
  | next =>
   obtain ⟨σ3,H3,I3,n3⟩:=q3
   obtain ⟨m',hm,w3⟩:=hN σ3 H3 n3
   exact ⟨m',hm,σ3,H3,I3,w3⟩
  | cont =>
   obtain ⟨σ3,H3,I3,n3⟩:=q3
   obtain ⟨m',hm,w3⟩:=hN σ3 H3 n3
   exact ⟨m',hm,σ3,H3,I3,w3⟩
  | brk=>exact q3
  | ret v=>exact q3
 | false =>
  rw [if_neg Bool.false_ne_true]
  exact wpAny_execs_nil ⟨σ1,H2,I2,q2⟩
end
structure It where
 go:Nat->Hp->Prop
 yld:Nat->Hp->V->Hp->Prop
 stop:Nat->Hp->Prop
def zlz (X:Cx) (pins:List ⇑2) (H:Hp) (b:Addr):Prop :=
 H b=none∧b≠X.env.locals∧b ∉ X.fs∧↑255∧↑190∧∀ p∈X.pn++pins,p.1≠b
theorem Inv.fpOk {X:Cx} {pins:List ⇑2} {σ:St} {H H':Hp} {s:Shared} {b:Addr} (I:Inv X pins σ H s) (hb:s.heap.objs.size≤b) (hn:H' b=none):zlz X pins H' b:=by
 refine ⟨hn,Nat.ne_of_gt (Nat.lt_of_lt_of_le I.lt hb),I.nofs hb,.inr (Nat.le_trans I.sz hb),λx c e z=>?_,λp hp z=>?_⟩
 ·obtain ⟨v,q⟩:=I.cell x c e
  exact absurd (Nat.lt_of_lt_of_le q.lt (by rw [z];exact hb)) ↑162
 ·exact absurd (Nat.lt_of_lt_of_le (Heap.lt_size (I.pin p hp).1) (by rw [z];exact hb)) ↑162
structure Turn (P:Program) (w:World) (K:W.Frag) (tg:Expr) (J:It) (fp:List Addr) (it:Addr) (tn:Nat->Heap->Prop):Prop where
 mem:it∈fp
 obj:∀ i h,tn i h->∀ b∈fp,∃ o,h.get? b=some o∧∀ v,o.data≠.cell v
 keep:∀ i h h',tn i h->(∀ b∈fp,∀ o,h.get? b=some o->h'.get? b=some o)->tn i h'
 item:∀ (X:Cx),X.prog=P->X.w=w->X.K=K->X.calm=true->∀ (i:Nat) (pins:List ⇑2) (s:Shared) (σ:St) (H:Hp) (E:Value->Shared->Prop),Inv X pins σ H s->(∀ b∈fp,zlz X pins H b)->tn i s.heap->J.go i H →
  wpAny (model P w) X.A (pyNext (.ref it)) (λr s1=>∃ u,r=some u ∧
   wpAny (model P w) X.A (letOwnedTupleGo tg (.ref it) u) (λ_ s2=>∃ x H',Inv X pins σ H' s2∧zdy x u∧J.yld i H x H'∧tn (i+1) s2.heap∧∀ b∈fp,H' b=none) E s1) E s
 done:∀ (X:Cx),X.prog=P->X.w=w->X.K=K->X.calm=true->∀ (i:Nat) (pins:List ⇑2) (s:Shared) (σ:St) (H:Hp) (E:Value->Shared->Prop),Inv X pins σ H s->(∀ b∈fp,zlz X pins H b)->tn i s.heap->J.stop i H →
  wpAny (model P w) X.A (pyNext (.ref it)) (λr s1=>r=none∧Inv X pins σ H s1) E s
 self:∀ (A:Around) (i:Nat) (s:Shared) (Q:Value->Shared->Prop) (E:Value->Shared->Prop),tn i s.heap->Q (.ref it) s->wpAny (model P w) A (pyIter (.ref it)) Q E s
abbrev TI:=St->Hp->(It->Hp->Prop)->Prop
def PIE (X:Cx) (pins:List ⇑2) (σ:St) (tg:Expr) (R:It->Hp->Prop) (itv:Value) (s2:Shared):Prop :=
 ∃ (it:Addr) (fp:List Addr) (tn:Nat->Heap->Prop) (J:It) (H':Hp),itv=.ref it∧Inv X pins σ H' s2∧Turn X.prog X.w X.K tg J fp it tn∧tn 0 s2.heap∧(∀ b∈fp,zlz X pins H' b)∧R J H'
def PI (X:Cx) (tg iter:Expr) (wi:TI):Prop :=
 ∀ (pins:List ⇑2) (s:Shared) (σ:St) (H:Hp) (R:It->Hp->Prop),Inv X pins σ H s->wi σ H R →
  wpAny ↑3 X.A (eval iter X.env) (λv s1=>wpAny ↑3 X.A (pyIter v) (PIE X pins σ tg R) X.xe s1) X.xe s
theorem zqQ {M:Model} {A:Around} {E:Value->Shared->Prop} {s:Shared} {tg:Expr} {it:Addr} {u:Value} {o:Obj} {n:String} {vs:Array Value} {Q:Unit->Shared->Prop} (ho:s.heap.get? it=some o) (hc:o.cls=.type n) (hd:o.data=.fields vs)
  (hn:["enumerate","zip","dict_itemiterator","dict_reverseitemiterator","odict_iterator","itertools.zip_longest","itertools.pairwise"].contains n=false) (hQ:Q () s):wpAny M A (letOwnedTupleGo tg (.ref it) u) Q E s:=by
 unfold letOwnedTupleGo
 cases tg<;>first
  | exact wpAny_pure hQ
  | (cases u<;>first
    | exact wpAny_pure hQ
    | (refine wpAny_bind (wpAny_load ho ?_)
       rw [hc,hd]
       show wpAny M A (if (["enumerate","zip","dict_itemiterator","dict_reverseitemiterator","odict_iterator","itertools.zip_longest","itertools.pairwise"].contains n&&vs[0]? == some (rawInt _))=true then _ else _) Q E s
       rw [if_neg (by intro h;rw [hn,Bool.false_and] at h;cases h)]
       exact wpAny_pure hQ))
def Itl (K:W.Frag) (a:Addr):It :=
 ⟨λi H=>∃ xs x,SqL K H a xs∧xs[i]?=some x,λi H x H'=>H'=H∧∀ xs,SqL K H a xs->xs[i]?=some x,λi H=>∃ xs,SqL K H a xs∧xs.length≤i⟩
def Itr (lo:Int) (n:Nat):It:=⟨λi _=>i<n,λi H x H'=>H'=H∧x=.int (lo+i),λi _=>n≤i⟩
theorem zoe {P:Program} {w:World} {K:W.Frag} {tg:Expr} (a it:Addr):Turn P w K tg (Itl K a) [it] it (λi h=>h.IsListIter it a i) where
 mem:=by simp
 obj:=λi h st b hb=>by
  have e:b=it:=by simpa using hb
  subst e
  obtain ⟨o,e,c,d⟩:=st
  exact ⟨o,e,λv z=>by rw [d] at z;cases z⟩
 keep:=λi h h' st k=>st.at λo e=>k it ⇑5 o e
 item:=by
  intro X hP hw hK hc i pins s σ H E I hf st hg
  subst hP hw hK
  obtain ⟨xs,x,hq,hx⟩:=hg
  obtain ⟨its,rv,p,hz⟩:=I.list hq
  obtain ⟨u,hu,ru⟩:=rv.get hx
  obtain ⟨f0,f1,f2,f3,f4,f5⟩:=hf it ⇑5
  refine wpAny_pyNext_list_item st p.isList (x:=u) (by simpa using hu) λh' st' sb=>?_
  have I1:Inv X pins σ H { s with heap:=h' }:=I.turned (t':=s.toks) (λb o hb e=>(sb.2 b hb).trans e) f0 f1 f3 f4 f5
  obtain ⟨o,e,c,d⟩:=id st'
  exact ⟨u,rfl,zqQ (s:= {s with heap:=h'}) e c d ↑1 ⟨x,H,I1,ru,⟨rfl,λys hy=>by rw [I.list_inj hy hq];exact hx⟩,st',λb hb=>(hf b hb).1⟩⟩
 done:=by
  intro X hP hw hK hc i pins s σ H E I hf st hg
  subst hP hw hK
  obtain ⟨xs,hq,hx⟩:=hg
  obtain ⟨its,rv,p,hz⟩:=I.list hq
  obtain ⟨f0,f1,f2,f3,f4,f5⟩:=hf it ⇑5
  have hl:=rv.length
  exact wpAny_pyNext_list_end (I.ok.hd hc) st p.isList ↑75 λh' eb=>⟨rfl,I.turned (t':=s.toks) (λb o hb e=>eb b o hb e) f0 f1 f3 f4 f5⟩
 self:=λ_ _ _ _ _ st h=>wpAny_pyIter_listiter st h
theorem zmf {P:Program} {w:World} {K:W.Frag} {tg:Expr} (it:Addr) (lo:Int) (n:Nat):Turn P w K tg (Itr lo n) [it] it (λi h=>IsRangeIter h it (lo+(i:Nat)*1) ((n:Int)-(i:Nat)) 1) where
 mem:=by simp
 obj:=λi h st b hb=>by
  have e:b=it:=by simpa using hb
  subst e
  exact ⟨_,st,λv z=>by
   have z':Data.fields _=Data.cell v:=z
   cases z'⟩
 keep:=λi h h' st k=>k it ⇑5 _ st
 item:=by
  intro X hP hw hK hc i pins s σ H E I hf st hg
  subst hP hw hK
  obtain ⟨f0,f1,f2,f3,f4,f5⟩:=hf it ⇑5
  have W:=Walks.range (prog:=X.prog) (w:=X.w) (I.ok.hd hc) it lo 1 n
  refine W.item i s _ _ hg st λv h' tk hv st' kk=>?_
  obtain ⟨t,rfl⟩:=hv
  have I1:Inv X pins σ H { s with heap:=h',toks:=tk }:=I.turned (λb o hb e=>kk b o (by simpa using hb) e) f0 f1 f3 f4 f5
  refine ⟨_,rfl,zqQ (s:={ s with heap:=h',toks:=tk }) (n:="range_iterator") st' rfl rfl ↑1 ⟨.int (lo+i),H,I1,⟨t,?_⟩,⟨rfl,rfl⟩,st',λb hb=>(hf b hb).1⟩⟩
  rw [Int.mul_one]
 done:=by
  intro X hP hw hK hc i pins s σ H E I hf st hg
  subst hP hw hK
  obtain ⟨f0,f1,f2,f3,f4,f5⟩:=hf it ⇑5
  exact wpAny_pyNext_range_end (I.ok.hd hc) st (by have:n≤i:=hg;omega) λh' eb=>⟨rfl,I.turned (t':=s.toks) (λb o hb e=>eb b o hb e) f0 f1 f3 f4 f5⟩
 self:=λ_ _ _ _ _ st h=>wpAny_pyIter_rangeiter st h
section
variable {X:Cx} {tg:Expr}
def zo4 (K:W.Frag) (tl:TE):TI:=λσ H R=>tl σ H λx H1=>∃ a,x=.ref a∧(∃ xs,SqL K H1 a xs)∧R (Itl K a) H1
theorem zqh {l:Expr} {tl:TE} (hl:PE X l tl):PI X tg l (zo4 X.K tl):=by
 intro pins s σ H R I h
 refine thn (hl pins s σ H _ I h) λv s1 ⟨x,H1,I1,r1,q1⟩=>?_
 obtain ⟨a,e,⟨xs,hq⟩,q⟩:=q1
 subst e
 cases r1
 obtain ⟨its,rv,p,hz⟩:=I1.list hq
 refine wpAny_pyIter_list p.isList ?_
 refine ⟨s1.heap.objs.size,[s1.heap.objs.size],_,_,H1,rfl,I1.kept (t':=s1.toks) λb o e=>Heap.get?_push_of_some _ e,zoe a _,⟨_,Heap.get?_push_size _ rfl,rfl,rfl⟩,λb hb=>?_,q⟩
 have e:b=s1.heap.objs.size:=by simpa using hb
 subst e
 exact I1.fpOk ↥8 (I1.hok.fresh ↥8)
theorem zpe {pins:List ⇑2} {σ:St} {H:Hp} {s:Shared} {R:It->Hp->Prop} {E:Value->Shared->Prop} {lo hi:Int} {t u v:Tok} {tk:Nat} (I:Inv X pins σ H s) (h1:-(2^62)≤lo) (h2:lo<2^62) (h3:-(2^62)≤hi) (h4:hi<2^62)
  (q:R (Itr lo (hi-lo).toNat) H):wpAny ↑3 X.A (pyIter (.ref s.heap.objs.size)) (PIE X pins σ tg R) E { s with heap:=s.heap.push { cls:=.type "range",data:=.fields #[.int lo t,.int hi u,.int 1 v] },toks:=tk }:=by
 refine wpAny_pyIter_range (IsRange.new ..) (small_one h1 h2 h3 h4) ?_
 have I1:Inv X pins σ H { s with heap:=s.heap.push { cls:=.type "range",data:=.fields #[.int lo t,.int hi u,.int 1 v] },toks:=tk }:=I.kept λb o e=>Heap.get?_push_of_some _ e
 refine ⟨((s.heap.push {cls:= .type "range",data:= .fields #[.int lo t,.int hi u,.int 1 v]})).objs.size,[((s.heap.push {cls:= .type "range",data:= .fields #[.int lo t,.int hi u,.int 1 v]})).objs.size],_,_,H,rfl,
  I1.kept (t':=tk) λb o e=>Heap.get?_push_of_some _ e,zmf _ lo (hi-lo).toNat,?_,λb hb=>?_,q⟩
 ·have e1:lo+((0:Nat):Int)*1=lo:=by simp
  have e2:(((hi-lo).toNat:Nat):Int)-((0:Nat):Int)=Builtin.Range.rangeSize lo hi 1:=by rw [rangeSize_one];split<;>omega
  show IsRangeIter _ _ (lo+((0:Nat):Int)*1) ((((hi-lo).toNat:Nat):Int)-((0:Nat):Int)) 1
  rw [e1,e2]
  exact Heap.get?_push_size _ rfl
 ·have e:b=((s.heap.push {cls:= .type "range",data:= .fields #[.int lo t,.int hi u,.int 1 v]})).objs.size:=by simpa using hb
  subst e
  exact I1.fpOk ↥8 (I1.hok.fresh ↥8)
def zs7 (ta:TA):TI:=λσ H R=>ta σ H λvs H1=>∃ j:Int,vs=[.int j]∧-(2^62)≤j∧j<2^62∧R (Itr 0 j.toNat) H1
theorem zbR {a:Expr} {ta:TA} {p pos:Pos} (hg:Gl X "range") (hm:X.mg "range"=none) (ha:PA X [a] ta) (hs:starEach [a] X.env=[(false,eval a X.env)]:=by rfl):PI X tg (.Call (.Name "range" p) [a] [] pos) (zs7 ta):=by
 intro pins s σ H R I h
 refine Call_ (zhT I hg hm boot_range (PyProof.Rows.callWith_type1 (thn ↑145 λus s1 ⟨vs,H1,I1,r1,q1⟩=> ?_) hs rfl))
 obtain ⟨j,e,q1,q2,q⟩:=q1
 subst e
 cases r1 with
 | cons r rr =>
  cases rr
  obtain ⟨t,rfl⟩:=r
  exact call_range_1 (zpe I1 ↑0 ↑0 q1 q2 (by simpa using q))
def zrv (wi:TI) (g:TG) (tb:TS):TS:=λD σ H=>wi σ H λJ H1=>∃ W:Nat->Nat->St->Hp->Prop,(∃ m,W 0 m σ H1)∧∀ i m σ H,W i m σ H →
 (J.stop i H∧D.nx σ H)∨(J.go i H∧∃ N:St->Hp->Prop,(∀ σ' H',N σ' H'->∃ m',m'<m∧W (i+1) m' σ' H')∧∀ x H',J.yld i H x H'->g x σ H' λσ2 H2=>tb { D with nx:=N,ct:=N,bk:=D.nx } σ2 H2)
def zjS (fp:List Addr) (h:Heap):List ⇑2:=fp.filterMap λb=>(h.get? b).map λo=>(b,o)
theorem zgd {fp:List Addr} {h:Heap} {b:Addr} {o:Obj} (hb:b∈fp) (e:h.get? b=some o):(b,o)∈zjS fp h:=List.mem_filterMap.mpr ⟨b,hb,by rw [e];rfl⟩
theorem zmE {fp:List Addr} {h:Heap} {p:Addr×Obj} (hp:p∈zjS fp h):p.1∈fp∧h.get? p.1=some p.2:=by
 obtain ⟨b,hb,e⟩:=List.mem_filterMap.mp hp
 cases q:h.get? b with
 | none=>rw [q] at e;cases e
 | some o =>
  rw [q] at e
  have e':(b,o)=p:=Option.some.inj e
  subst e'
  exact ⟨hb,q⟩
theorem Inv.pinned {pins:List ⇑2} {σ:St} {H:Hp} {s:Shared} {fp:List Addr} (I:Inv X pins σ H s) (hf:∀ b∈fp,zlz X pins H b) (ho:∀ b∈fp,∃ o,s.heap.get? b=some o∧∀ v,o.data≠.cell v):Inv X (pins++zjS fp s.heap) σ H s :=
 I.pins_of λp hp=>(List.mem_append.mp hp).elim (λz=>I.pin p (List.mem_append_right _ z)) λz=>by
  obtain ⟨hb,e⟩:=zmE z
  obtain ⟨f0,f1,f2,_⟩:=hf p.1 hb
  obtain ⟨o,e',d⟩:=ho p.1 hb
  rw [e] at e';cases e'
  exact ⟨e,f0,f1,f2,d⟩
theorem Inv.unpinned {pins pl:List ⇑2} {σ:St} {H:Hp} {s:Shared} (I:Inv X (pins++pl) σ H s):Inv X pins σ H s:=I.pins_of λp hp=>I.pin p (List.mem_append_right _ (List.mem_append_left _ hp))
theorem zcy {iter:Expr} {body:List Stmt} {wi:TI} {g:TG} {tb:TS} {pos:Pos} (hp:PassesOwn ↑3 X.A X.env X.xe) (hc:X.calm=true) (hi:PI X tg iter wi) (hg:PG X tg g) (hb:PSs X body tb)
  (hs:∀ x,foldedSetIterable iter X.env x=pure x:=by intro _;rfl):PS X (.For tg iter body [] pos) (zrv wi g tb):=by
 intro pins s σ H D I h
 refine wpAny_For (thn (hi pins s σ H _ I h) λv s1 h1=>thn h1 λitv s2 h2=>?_) hs
 obtain ⟨it,fp,tn,J,H2,e,I2,T,st2,f2,W,⟨m0,w0⟩,turn⟩:=h2
 subst e
 have stat:∀ {H':Hp},(∀b∈fp,H' b=none)->∀ b∈fp,zlz X pins H' b:=λhn b hb=>⟨hn b hb,(f2 b hb).2⟩
 refine codeAny_forLoop_any (λn s'=>∃ i σ' H',Inv X pins σ' H' s'∧tn i s'.heap∧(∀b∈fp,H' b=none)∧W i n σ' H') ?_ m0 ⟨0,σ,H2,I2,st2,λb hb=>(f2 b hb).1,w0⟩
 rintro n s3 ⟨i,σ3,H3,I3,st3,fr3,w3⟩
 rcases turn i n σ3 H3 w3 with ⟨stop,qn⟩ | ⟨go,N,hN,step⟩
 ·refine wpAny_passesOwn hp (thn (T.done X rfl rfl rfl hc i pins s3 σ3 H3 X.xe I3 (stat fr3) st3 stop) λr s4 ⟨hr,I4⟩=>?_)
  subst hr
  exact wpAny_execs_nil ⟨σ3,H3,I4,qn⟩
 ·refine wpAny_passesOwn hp (thn (T.item X rfl rfl rfl hc i pins s3 σ3 H3 X.xe I3 (stat fr3) st3 go) λr s4 ⟨u,hr,h4⟩=>?_)
  subst hr
  refine wpAny_passesOwn hp (thn h4 λ_ s5 ⟨x,H5,I5,r5,y5,st5,fr5⟩=>?_)
  have I5':=I5.pinned (stat fr5) (T.obj _ _ st5)
  refine wpAny_passesOwn hp (thn (hg _ s5 σ3 H5 x u _ I5' r5 (step x H5 y5)) λ_ s6 ⟨σ6,H6,I6,q6⟩=>?_)
  refine wpAny_passesOwn hp (thn (hb _ s6 σ6 H6 _ I6 q6) λf s7 q7=>?_)
  have again:∀ {σ7:St} {H7:Hp},Inv X (pins++zjS fp s5.heap) σ7 H7 s7->N σ7 H7->∃ m,m<n∧∃ i σ' H',Inv X pins σ' H' s7∧tn i s7.heap∧(∀b∈fp,H' b=none)∧W i m σ' H':=λ{σ7 H7} I7 n7=>by
   obtain ⟨m',hm,w7⟩:=hN σ7 H7 n7
   refine ⟨m',hm,i+1,σ7,H7,I7.unpinned,T.keep _ _ _ st5 λb hb o e=>(I7.pin (b,o) ↑248).1,λb hb=>?_,w7⟩
   obtain ⟨o,e,d⟩:=T.obj _ _ st5 b hb
   exact (I7.pin (b,o) ↑248).2.1
  cases f with
  | next=>obtain ⟨σ7,H7,I7,n7⟩:=q7;exact again I7 n7
  | cont=>obtain ⟨σ7,H7,I7,n7⟩:=q7;exact again I7 n7
  | brk=>obtain ⟨σ7,H7,I7,q7⟩:=q7;exact ⟨σ7,H7,I7.unpinned,q7⟩
  | ret v=>obtain ⟨x7,σ7,H7,I7,r7,q7⟩:=q7;exact ⟨x7,σ7,H7,I7.unpinned,r7,q7⟩
end
abbrev R2:=V->V->Hp->VK->Prop
def OpR (X:Cx) (f:Value->Value->Sem Value) (r:R2):Prop :=
 ∀ (pins:List ⇑2) (s:Shared) (σ:St) (H:Hp) (x y:V) (v u:Value) (Q:VK),Inv X pins σ H s->zdy x v->zdy y u->r x y H Q →
  wpAny ↑3 X.A (f v u) ↑65 X.xe s
def UnR (X:Cx) (f:Value->Sem Value) (r:V->Hp->VK->Prop):Prop :=
 ∀ (pins:List ⇑2) (s:Shared) (σ:St) (H:Hp) (x:V) (v:Value) (Q:VK),Inv X pins σ H s->zdy x v->r x H Q →
  wpAny ↑3 X.A (f v) ↑65 X.xe s
def zf6 (X:Cx) (f:Value) (r:List V->Hp->VK->Prop):Prop :=
 ∀ (pins:List ⇑2) (s:Shared) (σ:St) (H:Hp) (xs:List V) (us:List Value) (Q:VK),Inv X pins σ H s->zco xs us->r xs H Q →
  wpAny ↑3 X.A (call f us) ↑65 X.xe s
def tOp (r:R2) (ta tb:TE):TE:=λσ H Q=>ta σ H λx H1=>tb σ H1 λy H2=>r x y H2 Q
def tUn (r:V->Hp->VK->Prop) (ta:TE):TE:=λσ H Q=>ta σ H λx H1=>r x H1 Q
def rI (C:Int->Int->Prop) (g:Int->Int->V):R2:=λx y H Q=>∃ i j,x=.int i∧y=.int j∧C i j∧Q (g i j) H
def rI0 (g:Int->Int->V):R2:=λx y H Q=>∃ i j,x=.int i∧y=.int j∧Q (g i j) H
def rU (g:Int->V):V->Hp->VK->Prop:=λx H Q=>∃ i,x=.int i∧Q (g i) H
section
variable {X:Cx} {a b:Expr} {ta tb:TE} {pos:Pos}
theorem zuM (ha:PE X a ta) (hb:PE X b tb) {pins:List ⇑2} {s:Shared} {σ:St} {H:Hp} {R:V->V->Hp->Prop} (I:Inv X pins σ H s)
  (h:ta σ H λx H1=>tb σ H1 λy H2=>R x y H2) {Q:Value->Shared->Prop} {f:Value->Value->Sem Value}
  (hf:∀ v u s2 x y H2,Inv X pins σ H2 s2->zdy x v->zdy y u->R x y H2->wpAny ↑3 X.A (f v u) Q X.xe s2) :
  wpAny ↑3 X.A (eval a X.env) (λv s₁=>wpAny ↑3 X.A (eval b X.env) (λu s₂=>wpAny ↑3 X.A (f v u) Q X.xe s₂) X.xe s₁) X.xe s:=by
 refine thn ↑110 λv s1 ⟨x,H1,I1,r1,q1⟩=>?_
 refine thn (hb pins s1 σ H1 _ I1 q1) λu s2 ⟨y,H2,I2,r2,q2⟩=>?_
 exact hf v u s2 x y H2 I2 r1 r2 q2
theorem zaz {op:Operator} {r:R2} (ho:OpR X (binaryOp op) r) (ha:PE X a ta) (hb:PE X b tb):PE X (.BinOp a op b pos) (tOp r ta tb):=by
 intro pins s σ H Q I h
 exact wpAny_BinOp (zuM ha hb I h λv u s2 x y H2 I2 rx ry q=>ho pins s2 σ H2 x y v u Q I2 rx ry q)
theorem zox {op:UnaryOp} {r:V->Hp->VK->Prop} (ho:UnR X (unaryOp op) r) (ha:PE X a ta):PE X (.UnaryOp op a pos) (tUn r ta):=by
 intro pins s σ H Q I h
 exact UnaryOp_ (thn ↑110 λv s1 ⟨x,H1,I1,r1,q1⟩=>ho pins s1 σ H1 x v Q I1 r1 q1)
theorem opI {f:Value->Value->Sem Value} {C:Int->Int->Prop} {g:Int->Int->Int}
  (rule:∀ (i j:Int) (t u:Tok) (s:Shared) (Q:Value->Shared->Prop) (E:Value->Shared->Prop),C i j->Q (.int (g i j) s.toks) { s with toks:=s.toks+1 }->wpAny ↑3 X.A (f (.int i t) (.int j u)) Q E s) :
  OpR X f (rI C λi j=>.int (g i j)):=by
 intro pins s σ H x y v u Q I rx ry h
 obtain ⟨i,j,rfl,rfl,hc,q⟩:=h
 obtain ⟨t,rfl⟩:=rx
 obtain ⟨t',rfl⟩:=ry
 exact rule i j t t' s _ _ hc ⟨.int (g i j),H,I.tok _,⟨_,rfl⟩,q⟩
theorem zuS {f:Value->Value->Sem Value} {g:Int->Int->Int}
  (rule:∀ (i j:Int) (t u:Tok) (s:Shared) (Q:Value->Shared->Prop) (E:Value->Shared->Prop),Q (.int (g i j) s.toks) { s with toks:=s.toks+1 }->wpAny ↑3 X.A (f (.int i t) (.int j u)) Q E s) :
  OpR X f (rI0 λi j=>.int (g i j)):=by
 intro pins s σ H x y v u Q I rx ry h
 obtain ⟨i,j,rfl,rfl,q⟩:=h
 obtain ⟨t,rfl⟩:=rx
 obtain ⟨t',rfl⟩:=ry
 exact rule i j t t' s _ _ ⟨.int (g i j),H,I.tok _,⟨_,rfl⟩,q⟩
theorem zuR {f:Value->Value->Sem Value} {g:Int->Int->Bool}
  (rule:∀ (i j:Int) (t u:Tok) (s:Shared) (Q:Value->Shared->Prop) (E:Value->Shared->Prop),Q (.bool (g i j)) s->wpAny ↑3 X.A (f (.int i t) (.int j u)) Q E s) :
  OpR X f (rI0 λi j=>.bl (g i j)):=by
 intro pins s σ H x y v u Q I rx ry h
 obtain ⟨i,j,rfl,rfl,q⟩:=h
 obtain ⟨t,rfl⟩:=rx
 obtain ⟨t',rfl⟩:=ry
 exact rule i j t t' s _ _ ⟨.bl (g i j),H,I,rfl,q⟩
def zvo (i j:Int):Prop:=0≤j∧j≤1000000∧i.natAbs<2^64
theorem zcG:OpR X (binaryOp .Add) (rI0 λi j=>.int (i+j)):=zuS λ_ _ _ _ _ _ _ q=>add_int q
theorem zeQ:OpR X (binaryOp .Sub) (rI0 λi j=>.int (i-j)):=zuS λ_ _ _ _ _ _ _ q=>sub_int q
theorem zdB:OpR X (binaryOp .Mod) (rI (λ_ j=>0<j) λi j=>.int (i%j)):=opI λi j _ _ _ _ _ hc q=>by
 have h1:(0:Int)<j:=hc
 exact mod_int' ↑0 (by rw [Int.fmod_eq_emod_of_nonneg i ↑0];exact q)
theorem zpD:OpR X (binaryOp .Pow) (rI zvo λi j=>.int (i^j.toNat)):=opI λ_ _ _ _ _ _ _ hc q=>pow_int_small hc.1 hc.2.1 hc.2.2 q
theorem unI {f:Value->Sem Value} {g:Int->Int}
  (rule:∀ (i:Int) (t:Tok) (s:Shared) (Q:Value->Shared->Prop) (E:Value->Shared->Prop),Q (.int (g i) s.toks) { s with toks:=s.toks+1 }->wpAny ↑3 X.A (f (.int i t)) Q E s) :
  UnR X f (rU λi=>.int (g i)):=by
 intro pins s σ H x v Q I rx h
 obtain ⟨i,rfl,q⟩:=h
 obtain ⟨t,rfl⟩:=rx
 exact rule i t s _ _ ⟨.int (g i),H,I.tok _,⟨_,rfl⟩,q⟩
theorem zlv:UnR X (unaryOp .USub) (rU λi=>.int (-i)):=unI λ_ _ _ _ _ q=>neg_int q
end
def scal:V->V->Bool
 | .non,.non=>true | .non,.int _=>true | .int _,.non=>true | .non,.bl _=>true | .bl _,.non=>true | .non,.str _=>true | .str _,.non=>true
 | .int _,.int _=>true | .bl _,.bl _=>true | .str _,.str _=>true | .byt _,.byt _=>true
 | .int _,.str _=>true | .str _,.int _=>true | .bl _,.str _=>true | .str _,.bl _=>true
 | _,_=>false
def rEq:R2:=λx y H Q=>scal x y=true∧Q (.bl (decide (x=y))) H
def rNe:R2:=λx y H Q=>scal x y=true∧Q (.bl (!decide (x=y))) H
theorem znL {i j:Int}:decide (V.int i=V.int j)=(i == j):=by
 rw [Bool.eq_iff_iff]
 simp
theorem zpm {i j:Bool}:decide (V.bl i=V.bl j)=(i == j):=by
 rw [Bool.eq_iff_iff]
 simp
theorem zn3 {i j:Str}:decide (V.str i=V.str j)=(i == j):=by
 rw [Bool.eq_iff_iff]
 simp
theorem zmX {i j:Array UInt8}:decide (V.byt i=V.byt j)=(i.toList == j.toList):=by
 rw [Bool.eq_iff_iff]
 cases i
 cases j
 simp
section
variable {X:Cx} {a b:Expr} {ta tb:TE} {pos:Pos}
theorem zbY {pins:List ⇑2} {σ:St} {H:Hp} {s:Shared} {Q:VK} {k k':Bool} (I:Inv X pins σ H s) (q:Q (.bl k) H) (e:k=k'):EP X pins σ Q (.bool k') s:=by
 subst e
 exact ⟨.bl k,H,I,rfl,q⟩
theorem zgr:OpR X (compareOp .Eq) rEq:=by
 intro pins s σ H x y v u Q I rx ry h
 obtain ⟨hs,q⟩:=h
 cases x with
 | non =>
  cases rx
  cases y with
  | non=>cases ry;exact PySem.EqNone.eq_none_none ↑25
  | bl j=>cases ry;exact PySem.EqNone.eq_none_bool ↑25
  | int j=>obtain ⟨t',rfl⟩:=ry;exact PySem.EqNone.eq_none_int ↑25
  | str j=>obtain ⟨t',rfl⟩:=ry;exact PySem.EqNone.eq_none_str ↑25
  | _=>exact absurd ↑80 Bool.false_ne_true
 | bl i =>
  cases rx
  cases y with
  | non=>cases ry;exact PySem.EqNone.eq_bool_none ↑25
  | bl j=>cases ry;exact eq_bool (zbY I q zpm)
  | str j=>obtain ⟨t',rfl⟩:=ry;exact PySem.EqMixed.eq_bool_str ↑25
  | _=>exact absurd ↑80 Bool.false_ne_true
 | int i =>
  obtain ⟨t,rfl⟩:=rx
  cases y with
  | non=>cases ry;exact PySem.EqNone.eq_int_none ↑25
  | int j=>obtain ⟨t',rfl⟩:=ry;exact eq_int (zbY I q znL)
  | str j=>obtain ⟨t',rfl⟩:=ry;exact PySem.EqMixed.eq_int_str ↑25
  | _=>exact absurd ↑80 Bool.false_ne_true
 | str i =>
  obtain ⟨t,rfl⟩:=rx
  cases y with
  | non=>cases ry;exact PySem.EqNone.eq_str_none ↑25
  | bl j=>cases ry;exact PySem.EqMixed.eq_str_bool ↑25
  | int j=>obtain ⟨t',rfl⟩:=ry;exact PySem.EqMixed.eq_str_int ↑25
  | str j=>obtain ⟨t',rfl⟩:=ry;exact eq_str (zbY I q zn3)
  | _=>exact absurd ↑80 Bool.false_ne_true
 | byt i =>
  obtain ⟨t,rfl⟩:=rx
  cases y with
  | byt j=>obtain ⟨t',rfl⟩:=ry;exact W.eq_bytes (zbY I q zmX)
  | _=>exact absurd ↑80 Bool.false_ne_true
 | _=>cases y<;>exact absurd ↑80 Bool.false_ne_true
theorem zf4:OpR X (compareOp .NotEq) rNe:=by
 intro pins s σ H x y v u Q I rx ry h
 obtain ⟨hs,q⟩:=h
 cases x with
 | non =>
  cases rx
  cases y with
  | non=>cases ry;exact PySem.EqNone.ne_none_none ↑25
  | bl j=>cases ry;exact PySem.EqNone.ne_none_bool ↑25
  | int j=>obtain ⟨t',rfl⟩:=ry;exact PySem.EqNone.ne_none_int ↑25
  | str j=>obtain ⟨t',rfl⟩:=ry;exact PySem.EqNone.ne_none_str ↑25
  | _=>exact absurd ↑80 Bool.false_ne_true
 | bl i =>
  cases rx
  cases y with
  | non=>cases ry;exact PySem.EqNone.ne_bool_none ↑25
  | bl j=>cases ry;exact ne_bool (zbY I q (congrArg not zpm))
  | str j=>obtain ⟨t',rfl⟩:=ry;exact PySem.EqMixed.ne_bool_str ↑25
  | _=>exact absurd ↑80 Bool.false_ne_true
 | int i =>
  obtain ⟨t,rfl⟩:=rx
  cases y with
  | non=>cases ry;exact PySem.EqNone.ne_int_none ↑25
  | int j=>obtain ⟨t',rfl⟩:=ry;exact ne_int (zbY I q (congrArg not znL))
  | str j=>obtain ⟨t',rfl⟩:=ry;exact PySem.EqMixed.ne_int_str ↑25
  | _=>exact absurd ↑80 Bool.false_ne_true
 | str i =>
  obtain ⟨t,rfl⟩:=rx
  cases y with
  | non=>cases ry;exact PySem.EqNone.ne_str_none ↑25
  | bl j=>cases ry;exact PySem.EqMixed.ne_str_bool ↑25
  | int j=>obtain ⟨t',rfl⟩:=ry;exact PySem.EqMixed.ne_str_int ↑25
  | str j=>obtain ⟨t',rfl⟩:=ry;exact ne_str (zbY I q (congrArg not zn3))
  | _=>exact absurd ↑80 Bool.false_ne_true
 | byt i =>
  obtain ⟨t,rfl⟩:=rx
  cases y with
  | byt j=>obtain ⟨t',rfl⟩:=ry;exact W.ne_bytes (zbY I q (congrArg not zmX))
  | _=>exact absurd ↑80 Bool.false_ne_true
 | _=>cases y<;>exact absurd ↑80 Bool.false_ne_true
theorem zjK:OpR X (compareOp .Lt) (rI0 λi j=>.bl (decide (i<j))):=zuR λ_ _ _ _ _ _ _ q=>lt_int q
theorem zki:OpR X (compareOp .Gt) (rI0 λi j=>.bl (decide (j<i))):=zuR λ_ _ _ _ _ _ _ q=>gt_int q
theorem znd:OpR X (compareOp .IsNot) (λx y H Q=>y= .non∧Q (.bl (!decide (x= .non))) H):=by
 intro pins s σ H x y v u Q I rx ry h
 obtain ⟨rfl,q⟩:=h
 cases ry
 refine isnot_none_gen (zbY I q ?_)
 cases x<;>first
  | (cases rx;rfl)
  | (obtain ⟨t,rfl⟩:=rx;rfl)
theorem zaP (b:Expr) {op:CmpOp} (h:op≠.In:=by decide) (h2:op≠.NotIn:=by decide):behindInMarks op b=false:=by
 have e1:(op == CmpOp.In)=false:=by cases op<;>first | rfl | exact absurd rfl h
 have e2:(op == CmpOp.NotIn)=false:=by cases op<;>first | rfl | exact absurd rfl h2
 cases b<;>simp [behindInMarks,e1,e2]
theorem zfC {op:CmpOp} {r:R2} (ho:OpR X (compareOp op) r) (ha:PE X a ta) (hb:PE X b tb) (hm:behindInMarks op b=false):PE X (.Compare a [op] [b] pos) (tOp r ta tb):=by
 intro pins s σ H Q I h
 exact wpAny_Compare1 (zuM ha hb I h λv u s2 x y H2 I2 rx ry q=>ho pins s2 σ H2 x y v u Q I2 rx ry q) hm
def zrK (t:TE):TT:=λσ H Q=>t σ H λx H'=>∃ k,x=.bl k∧Q k H'
theorem zaJ {op:CmpOp} {r:R2} (ho:OpR X (compareOp op) r) (ha:PE X a ta) (hb:PE X b tb) (hm:behindInMarks op b=false):PT X (.Compare a [op] [b] pos) (zrK (tOp r ta tb)):=by
 intro pins s σ H Q I h
 refine wpAny_isTrue_Compare1 (thn ↑110 λv s1 ⟨x,H1,I1,r1,q1⟩=>thn (hb pins s1 σ H1 _ I1 q1) λu s2 ⟨y,H2,I2,r2,q2⟩ =>
  thn (ho pins s2 σ H2 x y v u _ I2 r1 r2 q2) λc s3 ⟨z,H3,I3,r3,k,e,q3⟩=>?_) hm
 subst e
 cases r3
 exact wpAny_truthy_bool ⟨H3,I3,q3⟩
theorem zly:(sizeLine:Nat)<2^63:=by rw [sizeLine_eq];decide
theorem zk0 {x:V} {us:List Value} (r:zco [x] us):∃ u,us=[u]∧zdy x u:=by
 cases r with
 | cons r1 r2=>cases r2;exact ⟨_,rfl,r1⟩
theorem zpb {x y:V} {us:List Value} (r:zco [x,y] us):∃ u w',us=[u,w']∧zdy x u∧zdy y w':=by
 cases r with
 | cons r1 r2 =>
  cases r2 with
  | cons r3 r4=>cases r4;exact ⟨_,_,rfl,r1,r3⟩
theorem zor:zf6 X (.builtin "abs") (λxs H Q=>∃i,xs=[.int i]∧Q (.int (if i<0 then-i else i)) H):=by
 intro pins s σ H xs us Q I r h
 obtain ⟨i,rfl,q⟩:=h
 obtain ⟨u,rfl,t,rfl⟩:=zk0 r
 exact call_abs_int λu tk=>⟨.int (if i<0 then -i else i),H,I.tok _,⟨_,rfl⟩,q⟩
theorem zjM (hc:X.calm=true):zf6 X (.builtin "max") (λxs H Q=>∃i j,xs=[.int i,.int j]∧Q (.int (if j>i then j else i)) H):=by
 intro pins s σ H xs us Q I r h
 obtain ⟨i,j,rfl,q⟩:=h
 obtain ⟨u,w',rfl,⟨t,rfl⟩,⟨t',rfl⟩⟩:=zpb r
 refine max_two_ints (I.ok.hd hc) λh' tk k=>⟨_,H,I.kept k,?_,q⟩
 by_cases hj:j > i
 ·rw [if_pos hj,if_pos hj];exact ⟨_,rfl⟩
 ·rw [if_neg hj,if_neg hj];exact ⟨_,rfl⟩
theorem zjW:zf6 X (.type "int") (λxs H Q=>(∃i,xs=[.int i]∧Q (.int i) H)∨∃k,xs=[.bl k]∧Q (.int (if k then 1 else 0)) H):=by
 intro pins s σ H xs us Q I r h
 rcases h with ⟨i,rfl,q⟩ | ⟨k,rfl,q⟩
 ·obtain ⟨u,rfl,t,rfl⟩:=zk0 r
  exact call_int_int ⟨.int i,H,I,⟨_,rfl⟩,q⟩
 ·obtain ⟨u,rfl,r1⟩:=zk0 r
  cases r1
  exact call_int_bool ⟨.int (if k then 1 else 0),H,I.tok _,⟨_,rfl⟩,q⟩
end
structure ObjM (h:Heap) (x dx C:Addr) (mA:Str->Option Value):Prop where
 obj:h.get? x=some (W.instObj C dx)
 ns:h.Ns1 dx mA
 ne:dx≠x
theorem znD {h:Heap} {dx:Addr} {mA:Str->Option Value} (n:h.Ns1 dx mA):∃ od,h.get? dx=some od∧∀ name,W.lookIn name od=some (mA name):=by
 obtain ⟨o,es,ep,ho,hd,hk,_,hm⟩:=n
 refine ⟨o,ho,λname=>?_⟩
 have e:=hm name
 unfold nsFind findBy at e
 rw [← Array.find?_toList] at e
 unfold W.lookIn
 rw [hd]
 dsimp only
 split
 ·rename_i y q
  rw [q] at e
  exact congrArg some e
 ·rename_i q
  rw [q] at e
  have a:es.toList.any (·.refKey)=false:=by
   rw [List.any_eq_false]
   intro y hy
   obtain ⟨z,t,hkey⟩:=hk y (Array.mem_toList_iff.mp hy)
   simp [DictEntry.refKey,hkey]
  have a':¬ es.toList.any (·.refKey)=true:=by rw [a];exact Bool.false_ne_true
  rw [if_neg a']
  exact congrArg some e
theorem ObjM.look {h:Heap} {x dx C:Addr} {mA:Str->Option Value} (I:ObjM h x dx C mA):∃ od,W.InstAt h x (W.instObj C dx) C (some od)∧∀ name,W.lookIn name od=some (mA name) :=
 let ⟨od,ho,hl⟩:=znD I.ns
 ⟨od,⟨I.obj,rfl,rfl,ho⟩,hl⟩
section
variable {prog:Program} {w:World} {A:Around} {E:Value->Shared->Prop} {s:Shared} {K:W.Frag} {x dx C f:Addr} {mA:Str->Option Value} {name:Str} {v:Value}
theorem zqX {expr:Bool} {Q:Value->Shared->Prop} (X:K.In s.heap) (I:ObjM s.heap x dx C mA) (hg:W.plainGet K C name=true) (hh:W.hasDictIn K C=true)
  (ha:W.findIn K (.ref C) name=some none) (hv:mA name=some v) (hv':W.handedIn v=true) (h:Q v { s with toks:=s.toks+1 }) :
  wpAny ↑27 A (getAttr (.ref x) name expr) Q E s:=by
 obtain ⟨od,J,hl⟩:=I.look
 exact W.get_value X J (W.plainGet_of hg).1 (W.findObj_own hh ha rfl (by rw [hl,hv])) hv' h
theorem zo3 {pl:Sem Bool} {Q:Value×List Value->Shared->Prop} (X:K.In s.heap) (I:ObjM s.heap x dx C mA) (hg:W.plainGet K C name=true)
  (hf:W.findIn K (.ref C) name=some (some (.ref f))) (ht:W.isFn K (.ref f)=true) (hv:mA name=none) (h:Q (.ref f,[.ref x]) s) :
  wpAny ↑27 A (getMethod (.ref x) name pl) Q E s:=by
 obtain ⟨od,J,hl⟩:=I.look
 exact W.method_fn X J (W.plainGet_of hg).1 (W.plainGet_of hg).2 hf (beq_iff_eq.mp ht) (by show (W.lookIn name od).map (·.isSome)=some false;rw [hl,hv];rfl) h
theorem zqd {ns:List Str} {Q:Unit->Shared->Prop} (X:K.In s.heap) (I:ObjM s.heap x dx C mA)
  (hs:W.findIn K (.ref C) "__setattr__"=some ↑170) (hp:W.plainOver K C=true) (ht:W.takerIn K C name=some none) (hh:W.hasDictIn K C=true)
  (hw:PySem.Within mA ns) (hsz:ns.length≤sizeLine)
  (h:∀ h',ObjM h' x dx C (λy=>if y=name then some v else mA y)->Heap.SameBut dx s.heap h'->Q () { s with heap:=h',toks:=s.toks+2 }) :
  wpAny ↑27 A (setAttr (.ref x) name v) Q E s:=by
 obtain ⟨od,J,hl⟩:=I.look
 refine W.set_plain X J hs (W.osa_open (s:={ s with toks:=s.toks+1 }) (r:=none) X J hp ht λb=>?_)
 obtain ⟨cd,hc,hd'⟩:=W.any_some hh
 have hx:s.heap.get? x=some ⟨.ref C,some dx,.plain,#[]⟩:=I.obj
 refine wpAny_bind (wpAny_pure (wpAny_bind (wpAny_bind (wpAny_loadPart hx (wpAny_bind (W.Looks.here (s:={ s with toks:=s.toks+1 }) (W.looks_clsIn X hc) ?_))))))
 rw [hd']
 refine wpAny_pure (a:=some dx) (wpAny_bind (wpAny_pure (wpAny_bind ?_)))
 refine wpAny_nsSet1 (s:={ s with toks:=s.toks+1 }) I.ns λh' hn2 hs2=>?_
 obtain ⟨oD,esD,epD,hoD,hdD,hcD⟩:=hn2.count (PySem.Within.cons name v hw)
 refine wpAny_bind (wpAny_lookBehind hoD (by rw [hdD];exact pastItsLine_dict (Nat.le_trans hcD (by rw [List.length_cons];omega))) ?_)
 exact wpAny_pure (h _ ⟨(hs2.2 _ (Ne.symm I.ne)).trans I.obj,hn2,I.ne⟩ hs2)
theorem zoK {R:Result->Shared->Prop} {vs:List Value} {kw:List (Str×Value)} (X:K.In s.heap) (hm:W.makesIn K C=true)
  (hi:W.findIn K (.ref C) "__init__"=some (some (.ref f))) (hf:W.typeIn K (.ref f)=some (.type "function"))
  (h:codeAny ↑27 (A.under (.builtin "type.__call__" ⟨.ref C :: vs,kw⟩)) (.call (.ref f) ⟨.ref ↑35 :: vs,kw⟩) (W.InitBack ↑35 R)
   { s with heap:=(↑204).push (W.instObj C s.heap.objs.size) }) :
  codeAny ↑27 A (.call (.ref C) ⟨vs,kw⟩) R s:=by
 obtain ⟨hh,g,d,t,os⟩:=s
 exact W.make_core (W.makes_of X hm) (W.looks_findIn X hi) (λself=>W.bind_fn X self hf) ↑37 h
end
def putF (f:Str) (v:V):List (Str×V)->List (Str×V)
 | []=>[(f,v)]
 | (g,x) :: r=>if g=f then (g,v) :: r else (g,x) :: putF f v r
theorem zif (f g:Str) (v:V):∀ fs:List (Str×V),(putF f v fs).lookup g=if g=f then some v else fs.lookup g
 | []=>by
  show List.lookup g [(f,v)]=_
  by_cases h:g=f
  ·have hb:(g == f)=true:=beq_iff_eq.mpr h
   simp only [List.lookup,hb,if_pos h]
  ·have hb:(g == f)=false:=beq_eq_false_iff_ne.mpr h
   simp only [List.lookup,hb,if_neg h]
 | (k,x) :: r=>by
  have ih:=zif f g v r
  rw [show putF f v ((k,x) :: r)=(if k=f then (k,v)::r else (k,x)::putF f v r) from rfl]
  by_cases hk:k=f
  ·rw [if_pos hk]
   by_cases h:g=k
   ·have hb:(g == k)=true:=beq_iff_eq.mpr h
    simp only [List.lookup,hb,if_pos (h.trans hk)]
   ·have hb:(g == k)=false:=beq_eq_false_iff_ne.mpr h
    simp only [List.lookup,hb,if_neg (λe:g=f=>h (e.trans hk.symm))]
  ·rw [if_neg hk]
   by_cases h:g=k
   ·have hb:(g == k)=true:=beq_iff_eq.mpr h
    simp only [List.lookup,hb,if_neg (λe:g=f=>hk (h.symm.trans e))]
   ·have hb:(g == k)=false:=beq_eq_false_iff_ne.mpr h
    simp only [List.lookup,hb]
    exact ih
theorem zh5 (f:Str) (v:V):∀ fs:List (Str×V),f∈(putF f v fs).map (·.1)∧∀ g,g∈fs.map (·.1)->g∈(putF f v fs).map (·.1)
 | []=>⟨by simp [putF],λg h=>by simp at h⟩
 | (k,x) :: r=>by
  obtain ⟨i1,i2⟩:=zh5 f v r
  rw [show putF f v ((k,x) :: r)=(if k=f then (k,v)::r else (k,x)::putF f v r) from rfl]
  by_cases hk:k=f
  ·rw [if_pos hk]
   subst hk
   exact ⟨by simp,λg h=>by simpa using h⟩
  ·rw [if_neg hk]
   refine ⟨?_,λg h=>?_⟩
   ·rw [List.map_cons]
    exact List.mem_cons_of_mem _ i1
   ·rw [List.map_cons] at h ⊢
    rcases List.mem_cons.mp h with e | e
    ·exact List.mem_cons.mpr (.inl e)
    ·exact List.mem_cons_of_mem _ (i2 g e)
theorem zic (f:Str) (v:V):∀ fs:List (Str×V),(putF f v fs).length≤fs.length+1
 | []=>by simp [putF]
 | (k,x) :: r=>by
  have ih:=zic f v r
  rw [show putF f v ((k,x) :: r)=(if k=f then (k,v)::r else (k,x)::putF f v r) from rfl]
  by_cases hk:k=f
  ·rw [if_pos hk,List.length_cons,List.length_cons];omega
  ·rw [if_neg hk,List.length_cons,List.length_cons];omega
theorem zoh.some_of {v:V} {o:Option Value} (r:zoh (some v) o):∃ u,o=some u∧zdy v u:=by
 cases o with
 | none=>exact (show False from r).elim
 | some u=>exact ⟨u,rfl,r⟩
theorem zoh.none_of {o:Option Value} (r:zoh none o):o=none:=by
 cases o with
 | none=>rfl
 | some u=>exact (show False from r).elim
theorem zmV {v:V} {u:Value} (r:zdy v u):W.handedIn u=true:=by
 cases v with
 | non=>cases (show u=Value.none from r);rfl
 | bl b=>cases (show u=Value.bool b from r);rfl
 | int i=>obtain ⟨t,e⟩:=(show ∃ t,u=Value.int i t from r);cases e;rfl
 | str x=>obtain ⟨t,e⟩:=(show ∃ t,u=Value.str x t from r);cases e;rfl
 | byt b=>obtain ⟨t,e⟩:=(show ∃ t,u=Value.bytes b t from r);cases e;rfl
 | flt b=>obtain ⟨t,e⟩:=(show ∃ t,u=Value.float b t from r);cases e;rfl
 | ref a=>cases (show u=Value.ref a from r);rfl
 | ty n=>cases (show u=Value.type n from r);rfl
section
variable {P:Program} {w:World} {H:Hp} {h:Heap} {a C dx:Addr} {fs:List (Str×V)}
theorem zjc (hok:HOk P w H h) (e:H a=some ↑97):∃ mA,ObjM h a dx C mA∧(∀ f,zoh (fs.lookup f) (mA f))∧PySem.Within mA (fs.map (·.1))∧fs.length≤1000∧H dx=some (.own a):=by
 obtain ⟨d,z,ne,ob,mA,n,r,q⟩:=(show zen P w H h a ↑97 from hok a _ e)
 exact ⟨mA,⟨ob,n,ne⟩,r,q,z,d⟩
end
structure Cls (K:W.Frag) (C:Addr):Prop where
 pg:W.plainGet K C Str.empty=true
 hd:W.hasDictIn K C=true
 po:W.plainOver K C=true
 sa:W.findIn K (.ref C) "__setattr__"=some ↑170
theorem Cls.get {K:W.Frag} {C:Addr} (c:Cls K C) (f:Str):W.plainGet K C f=true:=c.pg
def NoAttr (K:W.Frag) (C:Addr) (f:Str):Prop:=W.findIn K (.ref C) f=some none
theorem NoAttr.taker {K:W.Frag} {C:Addr} {f:Str} (n:NoAttr K C f):W.takerIn K C f=some none:=by
 unfold W.takerIn
 rw [show W.findIn K (.ref C) f=some none from n]
 rfl
structure Con (K:W.Frag) (C:Addr) (f:Str) (v:V) (u:Value):Prop where
 at_:W.findIn K (.ref C) f=some (some u)
 rel:zdy v u
 get:W.specialIn K u "__get__"=some none
 cp:W.copiedNames.contains f=false
structure Meth (K:W.Frag) (C:Addr) (m:Str) (f:Addr):Prop where
 at_:W.findIn K (.ref C) m=some (some (.ref f))
 fn:W.isFn K (.ref f)=true
 kp:W.keepIn K (.ref f)=true
section
variable {X:Cx} {pins:List ⇑2} {σ:St} {H:Hp} {s:Shared} {a C dx:Addr} {fs:List (Str×V)} {f:Str} {v:V} {A:Around} {E:Value->Shared->Prop}
theorem zl5 {b:Bool} {Q:Value->Shared->Prop} (I:Inv X pins σ H s) (e:H a=some ↑97) (c:Cls X.K C) (n:NoAttr X.K C f) (l:fs.lookup f=some v)
  (h:∀ u s',Inv X pins σ H s'->zdy v u->Q u s'):wpAny ↑3 A (getAttr (.ref a) f b) Q E s:=by
 obtain ⟨mA,O,r,_,_,_⟩:=zjc I.hok e
 obtain ⟨u,hu,ru⟩:=zoh.some_of (v:=v) (o:=mA f) (by rw [← l];exact r f)
 exact zqX I.kIn O (c.get f) c.hd n hu (zmV ru) (h u _ (I.tok _) ru)
theorem zg8 {m:Str} {g:Addr} {pl:Sem Bool} {Q:Value×List Value->Shared->Prop} (I:Inv X pins σ H s) (e:H a=some ↑97) (c:Cls X.K C) (k:Meth X.K C m g) (l:fs.lookup m=none)
  (h:Q (.ref g,[.ref a]) s):wpAny ↑3 A (getMethod (.ref a) m pl) Q E s:=by
 obtain ⟨mA,O,r,_,_,_⟩:=zjc I.hok e
 have hn:mA m=none:=zoh.none_of (by rw [← l];exact r m)
 exact zo3 I.kIn O (c.get m) k.at_ k.fn hn h
theorem zl0 {y:V} {u:Value} {Q:Unit->Shared->Prop} (I:Inv X pins σ H s) (e:H a=some ↑97) (c:Cls X.K C) (n:NoAttr X.K C f) (hl:fs.length<1000) (ry:zdy y u)
  (h:∀ s',Inv X pins σ (upd H a (.ins C dx (putF f y fs))) s'->Q () s'):wpAny ↑3 A (setAttr (.ref a) f u) Q E s:=by
 obtain ⟨mA,O,r,wi,_,ho⟩:=zjc I.hok e
 have hz:(fs.map (·.1)).length≤sizeLine:=by rw [List.length_map,sizeLine_eq];omega
 refine zqd I.kIn O c.sa c.po n.taker c.hd wi hz λh' O' sb=>h _ ?_
 have hd:∃ o,h'.get? dx=some o:=let ⟨o,_,_,e',_⟩:=O'.ns;⟨o,e'⟩
 refine I.write (x:=a) (e:=dx) (by rw [e];exact True.intro) (.inr ho) (λb q hb z=>(sb.2 b hb).trans z) hd ?_
 refine ⟨by rw [zat O.ne];exact ho,?_,O.ne,O'.obj,_,O'.ns,λg=>?_,λg hg=>?_⟩
 ·have:=zic f y fs;omega
 ·show zoh ((putF f y fs).lookup g) (if g=f then some u else mA g)
  rw [zif]
  by_cases q:g=f
  ·rw [if_pos q,if_pos q];exact ry
  ·rw [if_neg q,if_neg q];exact r g
 ·by_cases q:g=f
  ·rw [q];exact (zh5 f y fs).1
  ·refine (zh5 f y fs).2 g (wi g λz=>hg ?_)
   show (if g=f then some u else mA g)=none
   rw [if_neg q];exact z
theorem Inv.made (I:Inv X pins σ H s):Inv X pins σ (upd (upd H s.heap.objs.size (.own ↑35)) ↑35 (.ins C s.heap.objs.size []))
  { s with heap:=(↑204).push (W.instObj C s.heap.objs.size) }:=by
 have e1:(↑204).get? s.heap.objs.size=some W.emptyDict:=Heap.get?_push_size s.heap rfl
 have e2:((↑204).push (W.instObj C s.heap.objs.size)).get? ↑35=some (W.instObj C s.heap.objs.size):=by
  have:=Heap.get?_push_size ↑204 (o:=W.instObj C s.heap.objs.size) rfl
  rwa [Heap.size_push] at this
 have e3:(↑204).Ns s.heap.objs.size (λ_=>none):=⟨W.emptyDict,#[],_,e1,rfl,(λe he=>absurd he ⇑5),λ_=>rfl⟩
 have I1:=I.laid (a:=s.heap.objs.size) (o:=.own ↑35) (h':=s.heap.push W.emptyDict) (t':=s.toks) (λb u q=>Heap.get?_push_of_some _ q) ↥8 ⟨_,e1⟩
 refine I1.laid (a:=s.heap.objs.size+1) (o:=.ins C s.heap.objs.size []) (t':=s.toks) (λb u q=>Heap.get?_push_of_some _ q) (Nat.le_of_eq (Heap.size_push _ _)) ?_
 have ne:s.heap.objs.size≠s.heap.objs.size+1:=Nat.ne_of_lt (Nat.lt_succ_self _)
 refine ⟨by rw [zat ne,zaE],Nat.zero_le _,ne,e2,λ_=>none,(Heap.Ns1.of_empty e3).at λo q=>Heap.get?_push_of_some _ q,λ_=>True.intro,λy hy=>absurd rfl hy⟩
theorem zp9 {prog:Program} {w:World} {env:Env} {e:Expr} {f:Str} {pos:Pos} {s:Shared} {Q:Value->Shared->Prop} (hb:attributeBase e f env (eval e env)=eval e env)
  (h:wpAny ↑27 A (eval e env) (λo s₁=>wpAny ↑27 A (getAttr o f true) Q E s₁) E s):wpAny ↑27 A (eval (.Attribute e f pos) env) Q E s :=
 Attribute_any_ h (by rw [arm_eval_Attribute,hb])
end
def tFld (K:W.Frag) (ta:TE) (f:Str):TE:=λσ H Q=>ta σ H λx H1=>∃ a C dx fs v,x=.ref a∧H1 a=some ↑97∧Cls K C∧NoAttr K C f∧fs.lookup f=some v∧Q v H1
def zuy (K:W.Frag) (ta tv:TE) (f:Str):TS:=λD σ H=>tv σ H λy H1=>ta σ H1 λx H2=>∃ a C dx fs,x=.ref a∧H2 a=some ↑97∧Cls K C∧NoAttr K C f∧fs.length<1000 ∧
 D.nx σ (upd H2 a (.ins C dx (putF f y fs)))
section
variable {X:Cx} {o e value:Expr} {f:Str} {pos pos':Pos} {ta tv:TE}
theorem zr2 (he:PE X e ta) (hb:attributeBase e f X.env (eval e X.env)=eval e X.env):PE X (.Attribute e f pos) (tFld X.K ta f):=by
 intro pins s σ H Q I h
 refine zp9 hb (thn ↑149 λu s1 ⟨x,H1,I1,rx,a,C,dx,fs,v,ex,ea,c,n,l,q⟩=>?_)
 subst ex
 obtain rfl:u=Value.ref a:=rx
 exact zl5 I1 ea c n l λu' s2 I2 ru=>⟨v,H1,I2,ru,q⟩
theorem zhs (ha:PE X o ta) (hv:PE X value tv) (hs:swapsWith value (some (.Attribute o f pos')) pos.line X.env=pure false):PS X (.Assign [.Attribute o f pos'] value pos) (zuy X.K ta tv f):=by
 intro pins s σ H D I h
 refine plainObj_wpAny_Assign_Attribute (thn (hv pins s σ H _ I h) λu s1 ⟨y,H1,I1,ry,q⟩=>thn (ha pins s1 σ H1 _ I1 q) λov s2 ⟨x,H2,I2,rx,a,C,dx,fs,ex,ea,c,n,l,q2⟩=>?_) hs
 subst ex
 obtain rfl:ov=Value.ref a:=rx
 exact zl0 I2 ea c n l ry λs3 I3=>⟨σ,_,I3,q2⟩
theorem zqZ {pl:Sem Bool} {m:Str} {apos:Pos} {args:List Expr} {pins:List ⇑2} {s:Shared} {σ:St} {H:Hp} {Q:Value->Shared->Prop} {te:TE} (he:PE X e te) (I:Inv X pins σ H s)
  (h:te σ H λx H1=>∃ a C dx fs g,x=.ref a∧H1 a=some ↑97∧Cls X.K C∧Meth X.K C m g∧fs.lookup m=none ∧
   ∀ s1,Inv X pins σ H1 s1->wpAny ↑3 X.A (callWith pos (.ref g) [.ref a] (backTo pos (starEach args X.env)) ↑194) Q X.xe s1)
  (ht:eval (.Call (.Attribute e m apos) args [] pos) X.env=(do
   let ov ← eval e X.env
   standAt apos.atName
   let (f,first) ← holding [ov] (getMethod ov m pl)
   callWith pos f first (backTo pos (starEach args X.env)) ↑194)) :
  wpAny ↑3 X.A (eval (.Call (.Attribute e m apos) args [] pos) X.env) Q X.xe s:=by
 refine W.methodCall_KW (pl:=pl) (thn ↑149 λu s1 ⟨x,H1,I1,rx,a,C,dx,fs,g,ex,ea,c,k,l,q⟩=>?_) ht
 subst ex
 obtain rfl:u=Value.ref a:=rx
 exact zg8 I1 ea c k l (q s1 I1)
end
section
variable {X:Cx} {pins:List ⇑2} {σ:St} {H:Hp} {s:Shared} {A:Around} {E:Value->Shared->Prop} {Q:Value->Shared->Prop} {c:Value} {b:Bool}
inductive TyOf (K:W.Frag) (H:Hp):V->Value->Prop where
 | non:TyOf K H .non ↑6
 | bl (x:Bool):TyOf K H (.bl x) (.type "bool")
 | int (i:Int):TyOf K H (.int i) (.type "int")
 | str (x:Str):TyOf K H (.str x) (.type "str")
 | flt (x:UInt64):TyOf K H (.flt x) (.type "float")
 | lst {a:Addr} {xs:List V} (e:H a=some (.lst xs)):TyOf K H (.ref a) (.type "list")
 | frz {a:Addr} {o:Obj} {xs:List V} (e:H a=some (.frz o (.lst xs))):TyOf K H (.ref a) (.type "list")
 | tup {a:Addr} {xs:List V} (e:H a=some (.tup xs)):TyOf K H (.ref a) (.type "tuple")
 | dK {a:Addr} {kvs:List (Key×V)} (e:H a=some (.dK kvs)):TyOf K H (.ref a) (.type "dict")
 | dT {a:Addr} {kvs:List (List Key×V)} (e:H a=some (.dT kvs)):TyOf K H (.ref a) (.type "dict")
 | ins {a C dx:Addr} {fs:List (Str×V)} (e:H a=some ↑97) (cl:Cls K C) (ha:W.findIn K (.ref C) "__class__"=some (some ↑47))
   (hn:W.specialIn K ↑47 "__get__"=some (some ↑192)) (htk:W.takesIn K ↑47=some true)
   (hm:W.mroIn K C (.type "object")=some true):TyOf K H (.ref a) (.ref C)
theorem zjL {x:V} {u t:Value} (I:Inv X pins σ H s) (rx:zdy x u) (ty:TyOf X.K H x t) (e:W.kitOne X.K t c=some b) (h:∀ tk,Q (.bool b) { s with toks:=tk }) :
  wpAny ↑3 A (call (.builtin "isinstance") [u,c]) Q E s:=by
 cases ty with
 | non=>cases (show u=Value.none from rx);exact W.kia_one W.kitx_none I.kIn True.intro e ↑87 h
 | bl y=>cases (show u=Value.bool y from rx);exact W.kia_one W.kitx_bool I.kIn True.intro e ↑87 h
 | int i=>obtain ⟨t,q⟩:=(show ∃ t,u=Value.int i t from rx);cases q;exact W.kia_one W.kitx_int I.kIn True.intro e ↑87 h
 | str y=>obtain ⟨t,q⟩:=(show ∃ t,u=Value.str y t from rx);cases q;exact W.kia_one W.kitx_str I.kIn True.intro e ↑87 h
 | flt y=>obtain ⟨t,q⟩:=(show ∃ t,u=Value.float y t from rx);cases q;exact W.kia_one W.kitx_float I.kIn True.intro e ↑87 h
 | @lst a xs ea =>
  cases ↑200
  obtain ⟨_,_,n,_,h1⟩:=(show zen X.prog X.w H s.heap a (.lst xs) from I.hok a _ ea)
  exact W.kia_one W.kitx_list I.kIn ⟨_,h1,rfl⟩ e ↑87 h
 | @frz a ob xs ea =>
  cases ↑200
  obtain ⟨_,_,_,n,_,h1⟩:=(show zen X.prog X.w H s.heap a (.frz ob (.lst xs)) from I.hok a _ ea)
  exact W.kia_one W.kitx_list I.kIn ⟨_,h1,rfl⟩ e ↑87 h
 | @tup a xs ea =>
  cases ↑200
  obtain ⟨_,_,_,p⟩:=(show zen X.prog X.w H s.heap a (.tup xs) from I.hok a _ ea)
  obtain ⟨o,h1,h2,_⟩:=p
  exact W.kia_one W.kitx_tuple I.kIn ⟨o,h1,h2⟩ e ↑87 h
 | @dK a kvs ea =>
  cases ↑200
  obtain ⟨_,_,vs,_,p⟩:=(show zen X.prog X.w H s.heap a (.dK kvs) from I.hok a _ ea)
  obtain ⟨o,es,ep,h1,h2,_⟩:=p
  exact W.kia_one W.kitx_dict I.kIn ⟨o,h1,h2.1⟩ e ↑87 h
 | @dT a kvs ea =>
  cases ↑200
  obtain ⟨_,_,xs,_,o,es,ep,h1,h2,_⟩:=(show zen X.prog X.w H s.heap a (.dT kvs) from I.hok a _ ea)
  exact W.kia_one W.kitx_dict I.kIn ⟨o,h1,h2.1⟩ e ↑87 h
 | @ins a C dx fs ea cl ha hn htk hm =>
  cases ↑200
  obtain ⟨mA,O,_⟩:=zjc I.hok ea
  obtain ⟨od,J,_⟩:=O.look
  exact W.kia_one (W.kitx_own (cl.get _) cl.hd ha hn htk hm) I.kIn J e ↑87 h
end
structure Room (k:Nat) (A:Around):Prop where
 hd:A.handled=none
 dp:A.depth+3*k+5<recursionLimit
 un:A.units+16*k+200<cLine
theorem Room.mono {j k:Nat} {A:Around} (r:Room k A) (h:j≤k):Room j A:=⟨r.hd,by have:=r.dp;omega,by have:=r.un;omega⟩
theorem Room.deeper {k:Nat} {A:Around} (r:Room (k+1) A) (env:Env):Room k (A.deeper env) :=
 ⟨r.hd,by have:=r.dp;show A.depth+1+3*k+5<_;omega,by have:=r.un;show A.units+3+16*k+200<_;omega⟩
theorem Room.in1 {k:Nat} {A:Around} (r:Room (k+1) A):Room k A.in1 :=
 ⟨r.hd,by have:=r.dp;show A.depth+3*k+5<_;omega,by have:=r.un;show A.units+1+16*k+200<_;omega⟩
theorem zmi {A:Around} {C:Addr} {us:List Value} {kw:List (Str×Value)}:(↑249).depth=A.depth+1:=by
 first | rfl | simp [Around.under,Code.weight,Code.isCreation,Code.isGuard,Code.isCaller,Code.frames,Code.isFrame,guardIds]
theorem zml {A:Around} {C:Addr} {us:List Value} {kw:List (Str×Value)}:(↑249).units=A.units+1:=by
 first | rfl | simp [Around.under,Code.cUnits,Code.frames,Code.isFrame]
theorem Room.make {k:Nat} {A:Around} (r:Room (k+1) A) (C:Addr) (us:List Value) (kw:List (Str×Value)):Room k ↑249 :=
 ⟨r.hd,by have:=r.dp;rw [zmi];omega,by have:=r.un;rw [zml];omega⟩
theorem Room.depth {k:Nat} {A:Around} (r:Room k A):A.depth<recursionLimit:=by have:=r.dp;omega
theorem Room.units {k:Nat} {A:Around} (r:Room k A):A.units+64<cLine:=by have:=r.un;omega
def tNil:TA:=λ_ H Q=>Q [] H
def tCons (ta:TE) (tr:TA):TA:=λσ H Q=>ta σ H λx H1=>tr σ H1 λxs H2=>Q (x :: xs) H2
section
variable {X:Cx} {e:Expr} {es:List Expr} {te:TE} {t:TA} {pos:Pos}
theorem zeT:PA X [] tNil:=λ_ _ _ _ H Q I h=>Calls.spliced_nil ⟨[],H,I,.nil,h⟩
theorem zbF (ha:PE X e te) (hr:PA X es t) (hs:starEach (e::es) X.env=(false,eval e X.env) :: starEach es X.env:=by rfl):PA X (e::es) (tCons te t):=by
 intro pos pins s σ H Q I h
 rw [hs]
 show wpAny _ _ (spliced ((false,eval e X.env) :: backTo pos (starEach es X.env))) _ _ s
 refine Calls.spliced_cons (thn ↑110 λu s1 ⟨x,H1,I1,r1,q1⟩=>?_)
 exact thn (hr pos pins s1 σ H1 _ I1 q1) λus s2 ⟨xs,H2,I2,r2,q2⟩=>⟨x :: xs,H2,I2,.cons r1 r2,q2⟩
def zu6 (t:TA):TE:=λσ H Q=>t σ H λxs H1=>xs.length≤sizeLine∧∀ p,H1 p=none->Q (.ref p) (upd H1 p (.tup xs))
def zud (t:TA):TE:=λσ H Q=>t σ H λxs H1=>xs.length≤sizeLine∧∀ p,H1 p=none->Q (.ref p) (upd H1 p (.lst xs))
theorem zfJ {x1} (h:PA X es t):PE X (.Tuple es x1 pos) (zu6 t):=by
 intro pins s σ H Q I hq
 refine wpAny_Tuple_spliced (thn (h pos pins s σ H _ I hq) λus s1 ⟨xs,H1,I1,r,z,q⟩=>⟨by rw [←r.length];exact z,?_⟩)
 have hf:H1 s1.heap.objs.size=none:=I1.hok.fresh ↥8
 refine ⟨.ref s1.heap.objs.size,upd H1 s1.heap.objs.size (.tup xs),I1.laid (t':=s1.toks) (λb u e=>Heap.get?_push_of_some _ e) ↥8 ?_,rfl,q _ hf⟩
 exact ⟨z,us,r,⟨_,Heap.get?_push_size _ rfl,rfl,_,rfl⟩⟩
theorem zbj (h:PA X es t):PE X (.List es pos) (zud t):=by
 intro pins s σ H Q I hq
 refine wpAny_List_spliced (thn (h pos pins s σ H _ I hq) λus s1 ⟨xs,H1,I1,r,z,q⟩=>⟨by rw [←r.length];exact z,?_⟩)
 have hf:H1 s1.heap.objs.size=none:=I1.hok.fresh ↥8
 refine ⟨.ref s1.heap.objs.size,upd H1 s1.heap.objs.size (.lst xs),I1.laid (t':=s1.toks) (λb u e=>Heap.get?_push_of_some _ e) ↥8 ?_,rfl,q _ hf⟩
 exact ⟨z,us,0,r,Heap.get?_push_size _ rfl⟩
end
abbrev Sp:=List V->Hp->VK->XK->Prop
abbrev CXT:=List Env->Hp->Shared->XK->Value->Shared->Prop
structure Env0 (P:Program) (w:World) (K:W.Frag) (mg:Str->Option Value) (base:Heap) (A:Around) (outer:List Env) (s:Shared) (H:Hp):Prop where
 frames:A.frames=some outer
 mod:Mod K mg base
 bs:∀ b o,base.get? b=some o->s.heap.get? b=some o∧H b=none
 bsz:base.objs.size≤s.heap.objs.size
 funs:s.heap.FunFrames base outer
 frf:∀ b∈frs outer,H b=none
 hok:HOk P w H s.heap
 bare:AllBare s.gens
def CE (outer:List Env) (P:Program) (w:World) (H:Hp) (s:Shared) (Q:VK) (u:Value) (s':Shared):Prop :=
 ∃ v H',s'.os=s.os∧AllBare s'.gens∧Un (frs outer) [] H H' s.heap s'.heap∧HOk P w H' s'.heap∧zdy v u∧Q v H'
def CR (CX:CXT) (outer:List Env) (P:Program) (w:World) (H:Hp) (s:Shared) (Q:VK) (E:XK) (r:Result) (s':Shared):Prop :=
 match r with
 | .ok (.ret u)=>CE outer P w H s Q u s'
 | .ok _=>False
 | .error e=>CX outer H s E e s'
structure FnOk (P:Program) (w:World) (K:W.Frag) (mg:Str->Option Value) (base:Heap) (CX:CXT) (k:Nat) (f:Addr) (fd:FuncData) (ps:List Str) (sp:Sp):Prop where
 len:∀ vs H Q E,sp vs H Q E->vs.length=ps.length
 run:∀ (A:Around) (outer:List Env) (s:Shared) (H:Hp) (args:Args) (us:List Value) (vs:List V) (Q:VK) (E:XK),Room k A->Env0 P w K mg base A outer s H->BindsTo s fd args (ps.zip us)->zco vs us->sp vs H Q E →
  codeAny (model P w) A (.call (.ref f) args) (CR CX outer P w H s Q E) s
theorem FnOk.imp {P:Program} {w:World} {K:W.Frag} {mg:Str->Option Value} {base:Heap} {CX:CXT} {k:Nat} {f:Addr} {fd:FuncData} {ps:List Str} {sp sp':Sp} (F:FnOk P w K mg base CX k f fd ps sp)
  (h:∀ vs H Q E,sp' vs H Q E->sp vs H Q E):FnOk P w K mg base CX k f fd ps sp' :=
 ⟨λvs H Q E q=>F.len vs H Q E (h _ _ _ _ q),λA outer s H args us vs Q E hr he hb hv hs=>F.run A outer s H args us vs Q E hr he hb hv (h _ _ _ _ hs)⟩
theorem Env0.make {P:Program} {w:World} {K:W.Frag} {mg:Str->Option Value} {base:Heap} {A:Around} {outer:List Env} {s:Shared} {H:Hp} (e:Env0 P w K mg base A outer s H) (C:Addr) (us:List Value) (kw:List (Str×Value)) :
  Env0 P w K mg base ↑249 outer s H:=⟨by first | exact e.frames | (simpa [Around.under,Code.envs,Code.isFrame,pushEnvs] using e.frames),e.mod,e.bs,e.bsz,e.funs,e.frf,e.hok,e.bare⟩
theorem Env0.in1 {P:Program} {w:World} {K:W.Frag} {mg:Str->Option Value} {base:Heap} {A:Around} {outer:List Env} {s:Shared} {H:Hp} (e:Env0 P w K mg base A outer s H) :
  Env0 P w K mg base A.in1 outer s H:=⟨e.frames,e.mod,e.bs,e.bsz,e.funs,e.frf,e.hok,e.bare⟩
section
variable {X:Cx} {pins:List ⇑2} {σ:St} {H:Hp} {s s':Shared}
theorem Inv.env0 (I:Inv X pins σ H s):Env0 X.prog X.w X.K X.mg X.base X.A X.stack s H :=
 ⟨I.ok.frames,I.ok.mod,I.bs,Nat.le_trans I.ok.bsz I.sz,I.stack,I.stkFree,I.hok,I.bare⟩
theorem Inv.after {Q:VK} {u:Value} (I:Inv X pins σ H s) (h:CE X.stack X.prog X.w H s Q u s'):EP X pins σ Q u s':=by
 obtain ⟨v,H',os,bare,un,hok,r,q⟩:=h
 obtain ⟨hh,g,d,t,os'⟩:=s'
 obtain rfl:os'=s.os:=os
 exact ⟨v,H',I.call (h':=hh) (g':=g) (d':=d) (t':=t) (ch:=[]) un hok bare (λb z=>absurd z ⇑5),r,q⟩
end
def tCall (sp:Sp) (dvs:List V) (E:XK) (t:TA):TE:=λσ H Q=>t σ H λvs H1=>sp (vs++dvs) H1 Q E
def zqq (C:Addr) (m:Str) (sp:Sp) (dvs:List V) (E:XK) (ta:TE) (t:TA):TE:=λσ H Q=>ta σ H λx H1=>∃ a dx fs,x=.ref a∧H1 a=some ↑97∧fs.lookup m=none ∧
 t σ H1 λvs H2=>sp (x :: (vs++dvs)) H2 Q E
def zqv (C:Addr) (sp:Sp) (dvs:List V) (E:XK) (t:TA):TE:=λσ H Q=>t σ H λvs H1=>∀ x dx,H1 x=none->H1 dx=none->dx≠x →
 sp (.ref x :: (vs++dvs)) (upd (upd H1 dx (.own x)) x (.ins C dx [])) (λv H2=>v=.non∧Q (.ref x) H2) E
def zfP (K:W.Frag) (fd:FuncData) (ps:List Str) (ds:List Value):Prop :=
 ∀ (s:Shared) (us:List Value),K.In s.heap->(us++ds).length=ps.length->BindsTo s fd ⟨us,[]⟩ (ps.zip (us++ds))
theorem zfP.all {K:W.Frag} {fd:FuncData} {ps:List Str} (h:∀ us:List Value,us.length=ps.length->bindArgs fd ⟨us,[]⟩=pure (ps.zip us)):zfP K fd ps []:=λs us _ hl=>by
 rw [List.append_nil] at hl ⊢
 exact .of_eq (h us hl)
def zgS (CX:CXT) (X:Cx) (E:XK):Prop:=∀ (pins:List ⇑2) (σ:St) (H:Hp) (s:Shared) (e:Value) (s':Shared),Inv X pins σ H s->CX X.stack H s E e s'->X.xe e s'
section
variable {X:Cx} {CX:CXT} {k:Nat} {f C:Addr} {fd:FuncData} {ps:List Str} {sp:Sp} {dvs:List V} {ds:List Value} {E:XK} {x m:Str} {p pos apos:Pos} {e o:Expr} {es:List Expr} {ta:TE} {t:TA}
theorem znh {pins:List ⇑2} {σ:St} {H:Hp} {s:Shared} {Q:VK} {us:List Value} {vs:List V} (F:FnOk X.prog X.w X.K X.mg X.base CX k f fd ps sp) (hr:Room k X.A) (hb:zfP X.K fd ps ds) (hd:zco dvs ds) (hx:zgS CX X E)
  (I:Inv X pins σ H s) (r:zco vs us) (h:sp (vs++dvs) H Q E):wpAny ↑3 X.A (call (.ref f) us) ↑65 X.xe s:=by
 have r2:zco (vs++dvs) (us++ds):=r.append hd
 have hl:(us++ds).length=ps.length:=by rw [← r2.length];exact F.len _ _ _ _ h
 refine wpAny_call (codeAny_mono (F.run X.A X.stack s H ⟨us,[]⟩ (us++ds) (vs++dvs) Q E hr I.env0 (hb s us I.kIn hl) r2 h) λr s' hq=>?_)
 cases r with
 | error e=>exact hx pins σ H s e s' I hq
 | ok fl =>
  cases fl with
  | ret u=>exact I.after hq
  | next=>exact False.elim hq
  | brk=>exact False.elim hq
  | cont=>exact False.elim hq
theorem zp7 (F:FnOk X.prog X.w X.K X.mg X.base CX k f fd ps sp) (hr:Room k X.A) (hg:Gl X x) (hm:X.mg x=some (.ref f)) (hk:W.keepIn X.K (.ref f)=true) (hb:zfP X.K fd ps ds) (hd:zco dvs ds) (hx:zgS CX X E)
  (ha:PA X (e::es) t) (hdb:↑54=false:=by decide) (he:starEach (e::es) X.env=(false,eval e X.env) :: starEach es X.env:=by rfl) (hpl:(↑79).any (·.1)=false:=by rfl) :
  PE X ↑172 (tCall sp dvs E t):=by
 intro pins s σ H Q I h
 refine wpAny_Call_Name_kw (zg9 I hg hm ?_ hdb)
 refine W.callWith_K (h₀:=X.base) I.ok.mod.kin hk (thn ↑145 λus s1 ⟨vs,H1,I1,r,q⟩=>⟨I1.kIn,?_⟩) he hpl
 exact znh F hr hb hd hx I1 r q
theorem zqw {pl:Sem Bool} (he:PE X o ta) (c:Cls X.K C) (hm:Meth X.K C m f) (F:FnOk X.prog X.w X.K X.mg X.base CX k f fd ps sp) (hr:Room k X.A) (hb:zfP X.K fd ps ds) (hd:zco dvs ds) (hx:zgS CX X E) (ha:PA X (e::es) t)
  (hst:starEach (e::es) X.env=(false,eval e X.env) :: starEach es X.env:=by rfl) (hpl:(↑79).any (·.1)=false:=by rfl)
  (ht:eval ↑137 X.env=(do
   let ov ← eval o X.env
   standAt apos.atName
   let (f,first) ← holding [ov] (getMethod ov m pl)
   callWith pos f first (backTo pos (starEach (e::es) X.env)) ↑194):=by rfl) :
  PE X ↑137 (zqq C m sp dvs E ta t):=by
 intro pins s σ H Q I h
 refine W.methodCall_KW (pl:=pl) (thn ↑149 λu s1 ⟨x,H1,I1,rx,a,dx,fs,ex,ea,l,q⟩=>?_) ht
 subst ex
 obtain rfl:u=Value.ref a:=rx
 refine zg8 I1 ea c hm l ?_
 refine W.callWith_K (first:=[.ref a]) (h₀:=X.base) I.ok.mod.kin hm.kp (thn (ha pos pins s1 σ H1 _ I1 q) λus s2 ⟨vs,H2,I2,r,q2⟩=>⟨I2.kIn,?_⟩) hst hpl
 exact znh (us:=.ref a :: us) (vs:=.ref a :: vs) F hr hb hd hx I2 (.cons rfl r) q2
structure Mk (K:W.Frag) (C f:Addr):Prop where
 makes:W.makesIn K C=true
 init:W.findIn K (.ref C) "__init__"=some (some (.ref f))
 fn:W.isFn K (.ref f)=true
 kp:W.keepIn K (.ref C)=true
theorem zo0 {pins:List ⇑2} {σ:St} {H:Hp} {s:Shared} {Q:VK} {us:List Value} {vs:List V} (M:Mk X.K C f) (F:FnOk X.prog X.w X.K X.mg X.base CX k f fd ps sp) (hr:Room (k+1) X.A) (hb:zfP X.K fd ps ds) (hd:zco dvs ds)
  (hx:zgS CX X E) (I:Inv X pins σ H s) (r:zco vs us)
  (h:∀ x dx,H x=none->H dx=none->dx≠x->sp (.ref x :: (vs++dvs)) (upd (upd H dx (.own x)) x (.ins C dx [])) (λv H2=>v=.non∧Q (.ref x) H2) E) :
  wpAny ↑3 X.A (call (.ref C) us) ↑65 X.xe s:=by
 have hq:=h ↑35 s.heap.objs.size (I.hok.fresh (Nat.le_succ _)) (I.hok.fresh ↥8) (Nat.ne_of_lt (Nat.lt_succ_self _))
 have I2:=Inv.made (C:=C) I
 have r2:zco (V.ref ↑35 :: (vs++dvs)) (Value.ref ↑35 :: (us++ds)):=.cons rfl (r.append hd)
 have hl:(Value.ref ↑35 :: us++ds).length=ps.length:=by
  have e:=r2.length
  rw [F.len _ _ _ _ hq] at e
  exact e.symm
 refine wpAny_call (zoK (f:=f) I.kIn M.makes M.init (beq_iff_eq.mp M.fn) (codeAny_mono (F.run _ X.stack _ _ ⟨Value.ref ↑35 :: us,[]⟩ (Value.ref ↑35 :: (us++ds)) _ _ E (hr.make C us [])
  (I2.env0.make C us []) (hb _ (Value.ref ↑35 :: us) I2.kIn hl) r2 hq) λr s' hq'=>?_))
 cases r with
 | error e=>exact hx pins σ _ _ e s' I2 hq'
 | ok fl =>
  cases fl with
  | ret u =>
   obtain ⟨v,H',I3,rv,ev,q3⟩:=I2.after hq'
   subst ev
   exact ⟨rv,⟨V.ref ↑35,H',I3,rfl,q3⟩⟩
  | next=>exact False.elim hq'
  | brk=>exact False.elim hq'
  | cont=>exact False.elim hq'
theorem zhc (M:Mk X.K C f) (F:FnOk X.prog X.w X.K X.mg X.base CX k f fd ps sp) (hr:Room (k+1) X.A) (hg:Gl X x) (hm:X.mg x=some (.ref C)) (hb:zfP X.K fd ps ds) (hd:zco dvs ds) (hx:zgS CX X E)
  (ha:PA X (e::es) t) (hdb:↑54=false:=by decide) (he:starEach (e::es) X.env=(false,eval e X.env) :: starEach es X.env:=by rfl) (hpl:(↑79).any (·.1)=false:=by rfl) :
  PE X ↑172 (zqv C sp dvs E t):=by
 intro pins s σ H Q I h
 refine wpAny_Call_Name_kw (zg9 I hg hm ?_ hdb)
 refine W.callWith_K (h₀:=X.base) I.ok.mod.kin M.kp (thn ↑145 λus s1 ⟨vs,H1,I1,r,q⟩=>⟨I1.kIn,?_⟩) he hpl
 exact zo0 M F hr hb hd hx I1 r q
end
section
variable {fd:FuncData} {ps ks:List Str}
structure KBinds (K:W.Frag) (fd:FuncData) (ps ks:List Str) (g:List Value->List Value->List Value) (gV:List V->List V->List V):Prop where
 to:∀ (s:Shared) (us ws:List Value),K.In s.heap->(g us ws).length=ps.length->BindsTo s fd ⟨us,ks.zip ws⟩ (ps.zip (g us ws))
 rel:∀ {vs:List V} {us:List Value} {zs:List V} {ws:List Value},zco vs us->zco zs ws->zco (gV vs zs) (g us ws)
end
structure FnScope (N P:List Str) (sc:Scope):Prop where
 kind:sc.kind=.function
 co:sc.isCoroutine=false
 gen:sc.isGenerator=false
 nd:N.Nodup
 pre:N.take P.length=P
 par:∀ x∈P,sc.names.lookup x=some .local∨sc.names.lookup x=some .cell
 nofree:∀ y∈sc.names,y.2≠.free
theorem zjU {kindOf:Str->Option NameKind} {x:Str}:∀ {binds:List (Str×Value)} {m:Str->Option Value},(∀ v,(x,v) ∉ binds)->bindL kindOf binds m x=m x
 | [],_,_=>rfl
 | (n,v) :: r,m,h=>by
  unfold bindL
  rw [zjU λw hw=>h w (List.mem_cons_of_mem _ hw)]
  split
  ·have:x≠n:=by rintro rfl;exact h v List.mem_cons_self
   simp [this]
  ·rfl
theorem zjC {kindOf:Str->Option NameKind} {x:Str}:∀ {binds:List (Str×Value)} {m:Str->Option Value},(∀ v,(x,v) ∉ binds)->bindC kindOf binds m x=m x
 | [],_,_=>rfl
 | (n,v) :: r,m,h=>by
  unfold bindC
  rw [zjC λw hw=>h w (List.mem_cons_of_mem _ hw)]
  split
  ·rfl
  ·have:x≠n:=by rintro rfl;exact h v List.mem_cons_self
   simp [this]
theorem zj0 {kindOf:Str->Option NameKind} {x:Str} {v:Value}:∀ {P:List Str} {vs:List Value} {i:Nat} {m:Str->Option Value},P.Nodup->P[i]?=some x->vs[i]?=some v->kindOf x=some .local →
  bindL kindOf (P.zip vs) m x=some v
 | [],_,_,_,_,h,_,_=>by simp at h
 | _ :: _,[],_,_,_,_,h,_=>by simp at h
 | p :: P,w :: vs,0,m,nd,h1,h2,hk=>by
  simp at h1 h2;subst h1;subst h2
  show bindL kindOf ((p,w)::P.zip vs) m p=_
  unfold bindL
  rw [zjU λv hv=>((List.nodup_cons.mp nd)).1 (List.of_mem_zip hv).1,if_pos hk]
  simp
 | p :: P,w :: vs,i+1,m,nd,h1,h2,hk=>by
  show bindL kindOf ((p,w)::P.zip vs) m x=_
  unfold bindL
  exact zj0 (i:=i) ((List.nodup_cons.mp nd)).2 (by simpa using h1) (by simpa using h2) hk
theorem zjT {kindOf:Str->Option NameKind} {x:Str} {v:Value}:∀ {P:List Str} {vs:List Value} {i:Nat} {m:Str->Option Value},P.Nodup->P[i]?=some x->vs[i]?=some v->kindOf x≠some .local →
  bindC kindOf (P.zip vs) m x=some v
 | [],_,_,_,_,h,_,_=>by simp at h
 | _ :: _,[],_,_,_,_,h,_=>by simp at h
 | p :: P,w :: vs,0,m,nd,h1,h2,hk=>by
  simp at h1 h2;subst h1;subst h2
  show bindC kindOf ((p,w)::P.zip vs) m p=_
  unfold bindC
  rw [zjC λv hv=>((List.nodup_cons.mp nd)).1 (List.of_mem_zip hv).1,if_neg hk]
  simp
 | p :: P,w :: vs,i+1,m,nd,h1,h2,hk=>by
  show bindC kindOf ((p,w)::P.zip vs) m x=_
  unfold bindC
  exact zjT (i:=i) ((List.nodup_cons.mp nd)).2 (by simpa using h1) (by simpa using h2) hk
def start (N:List Str) (vs:List V):St:=vs.map some++List.replicate (N.length-vs.length) none
def zkt (CX:CXT) (P:Program) (w:World) (K:W.Frag) (mg:Str->Option Value) (base:Heap) (N:List Str) (qual:Str) (scope:Scope) (f:Addr) (cd:Value) (A:Around) (outer:List Env) (s:Shared) (H:Hp) (E:XK):Cx where
 prog:=P
 w:=w
 K:=K
 mg:=mg
 base:=base
 A:=A.deeper ↑227
 N:=N
 s₀:=s
 H₀:=H
 env:=envOfC qual scope s.heap.objs.size f cd
 outer:=outer
 stack:=envOfC qual scope s.heap.objs.size f cd :: outer
 ex:=[]
 calm:=true
 fn:=λ_=>true
 pn:=[]
 xe:=λe s'=>wpAny (model P w) (A.deeper ↑227) (leaving ↑227 e) (λ_ s''=>CX outer H s E e s'') (λe' s''=>CX outer H s E e' s'') s'
theorem zk6 {sc:Scope} {n:Nat} {x:Str} (h:sc.names.lookup x=some .cell):∃ c,(cellsFrom n sc.names []).lookup x=some c:=by
 have q:=W.cellsFrom_some sc.names n [] (.inl h)
 exact Option.isSome_iff_exists.mp q
theorem zms {CX:CXT} {P:Program} {w:World} {K:W.Frag} {mg:Str->Option Value} {base:Heap} {N ps:List Str} {qual:Str} {scope:Scope} {f:Addr} {cd:Value} {A:Around} {outer:List Env} {s s1:Shared} {H:Hp} {E:XK} {us:List Value} {vs:List V}
  (S:FnScope N ps scope) (hd:A.handled=none) (e0:Env0 P w K mg base A outer s H) (hl:vs.length=ps.length) (r:zco vs us)
  (x:InCallC s s.heap.objs.size (bindL (↑227).kindOf (ps.zip us) λ_=>none) (cellsFrom ↑35 scope.names []) (bindC (↑227).kindOf (ps.zip us) λ_=>none) s1) :
  Inv (zkt CX P w K mg base N qual scope f cd A outer s H E) [] (start N vs) H s1:=by
 have hpl:ps.length≤N.length:=by have:=congrArg List.length S.pre;rw [List.length_take] at this;omega
 obtain ⟨h1,tk,rfl,hk⟩:=x.done
 have noA:∀ b:Addr,b ∉ ((zkt CX P w K mg base N qual scope f cd A outer s H E)).ex:=λb z=>absurd (show b∈([]:List Addr) from z) ⇑5
 refine ⟨⟨e0.mod,S.kind,rfl,rfl,Nat.le_refl _,λy z c h1 h2=>?_,λy hy=>?_,λy c _ h=>?_,λ_=>hd,Around.frames_deeper e0.frames,.inr ⟨rfl,rfl⟩,λb z=>absurd z (noA b),e0.bs,e0.bsz,λb _ _=>noA b,λb z=>absurd z (noA b),e0.funs,e0.frf⟩,
  rfl,e0.bare,Un.kept hk,⟨_,x.toInCall.ns,λi y v h1 h2 h3=>?_⟩,λy c h=>⟨_,x.cell y c h⟩,e0.hok.fresh ↥8,λy c h=>?_,λp hp=>absurd (show p∈([]:List ⇑2) from hp) ⇑5,e0.hok.kept hk,?_⟩
 ·exact name_of_addr x.apart (PySem.mem_of_lookup h1) (PySem.mem_of_lookup h2)
 ·have hy:scope.names.lookup y=some .cell∨scope.names.lookup y=some .free:=hy
  rcases hy with hy | hy
  ·exact zk6 hy
  ·exact absurd rfl (S.nofree _ (PySem.mem_of_lookup hy))
 ·exact Nat.le_of_lt (x.above y c (PySem.mem_of_lookup h))
 ·have hi:i<vs.length:=by
   unfold start at h2
   by_cases hi:i<vs.length
   ·exact hi
   ·rw [List.getElem?_append_right ↑63] at h2
    rw [List.getElem?_replicate] at h2
    split at h2<;>cases h2
  have ha:vs[i]?=some v:=by
   unfold start at h2
   rw [List.getElem?_append_left ↑63,List.getElem?_map] at h2
   cases e:vs[i]? with
   | none=>rw [e] at h2;cases h2
   | some a=>rw [e] at h2;cases h2;rfl
  obtain ⟨u,hu,rv⟩:=r.get ha
  have hp:ps[i]?=some y:=by
   rw [← S.pre,List.getElem?_take_of_lt ↑0];exact h1
  have ndP:ps.Nodup:=by rw [← S.pre];exact S.nd.sublist (List.take_sublist _ _)
  refine ⟨u,rv,?_⟩
  rcases S.par y (List.mem_of_getElem? hp) with k | k
  ·exact .inl ⟨k,zj0 ndP hp hu k⟩
  ·obtain ⟨c,e⟩:=zk6 (n:=s.heap.objs.size+1) k
   refine .inr ⟨.inl k,c,e,?_⟩
   have q:=x.cell y c e
   rw [zjT ndP hp hu (by show scope.names.lookup y≠_;rw [k];decide)] at q
   exact q
 ·exact e0.hok.fresh (Nat.le_of_lt (x.above y c (PySem.mem_of_lookup h)))
 ·unfold start
  show _=N.length
  rw [List.length_append,List.length_map,List.length_replicate]
  omega
theorem zuf {CX:CXT} {P:Program} {w:World} {K:W.Frag} {mg:Str->Option Value} {base:Heap} {k:Nat} {f:Addr} {name qual:Str} {params:Arguments} {body:List Stmt} {scope:Scope} {dV kV doc pm cdv ct oc:Value} {an od:Option Addr}
  {osl:Array (Option Value)} {N ps:List Str} {sp:Sp} (lk:K.lookup f=some ⟨oc,od,.func (W.fnOf name qual params body scope dV kV doc pm an cdv ct),osl⟩) (hcd:W.codeIn K cdv qual=true) (S:FnScope N ps scope)
  (len:∀ vs H Q E,sp vs H Q E->vs.length=ps.length)
  (hbody:∀ (A:Around) (outer:List Env) (s:Shared) (H:Hp) (vs:List V) (Q:VK) (E:XK),Room k (A.deeper (envOfC qual scope s.heap.objs.size f cdv))->sp vs H Q E →
   ∃ t,PSs (zkt CX P w K mg base N qual scope f cdv A outer s H E) body t∧t { nx:=λ_ H'=>Q .non H',rt:=Q } (start N vs) H) :
  FnOk P w K mg base CX (k+1) f (W.fnOf name qual params body scope dV kV doc pm an cdv ct) ps sp:=by
 refine ⟨len,λA outer s H args us vs Q E hr e0 hb r hsp=>?_⟩
 have hl:=len _ _ _ _ hsp
 have KX:K.In s.heap:=e0.mod.kin.keeps λb o e=>(e0.bs b o e).1
 have lim:s.heap.NoLimit:=e0.mod.nolimit.keeps λb o e=>(e0.bs b o e).1
 have hkind:∀ y∈ps.zip us,scope.names.lookup y.1=some .local∨(scope.names.lookup y.1=some .cell∧((cellsFrom ↑35 scope.names []).lookup y.1).isSome=true):=λ⟨n,v⟩ hy=>by
  rcases S.par n (List.of_mem_zip hy).1 with q | q
  ·exact .inl q
  ·exact .inr ⟨q,W.cellsFrom_some _ _ _ (.inl q)⟩
 refine codeAny_call_function hr.depth (KX _ _ lk) rfl S.co S.gen rfl (W.codeRec_of KX hcd) (hb _ _ _ _ ?_)
 refine wpAny_newFunctionEnv_cells S.kind hkind λenv he s1 x=>?_
 subst he
 refine ⟨lim.keeps x.toInCall.keep,codeAny_func ?_⟩
 obtain ⟨t,ht,hq⟩:=hbody A outer s H vs Q E (hr.deeper _) hsp
 have I:Inv (zkt CX P w K mg base N qual scope f cdv A outer s H E) [] (start N vs) H s1:=zms S hr.hd e0 hl r x
 refine wpAny_mono (ht [] s1 (start N vs) H _ I hq) (λfl s' hs=>?_) λe s' hs=>hs
 have fin:∀ {σ':St} {H':Hp} {v:V} {u:Value},Inv (zkt CX P w K mg base N qual scope f cdv A outer s H E) [] σ' H' s'->zdy v u->Q v H'->CE outer P w H s Q u s' :=
  λ{σ' H' v u} J rv q=>⟨v,H',J.os,J.bare,J.base,J.hok,rv,q⟩
 cases fl with
 | ret u =>
  obtain ⟨v,σ',H',J,rv,q⟩:=hs
  exact fin J rv q
 | next =>
  obtain ⟨σ',H',J,q⟩:=hs
  exact fin (v:=V.non) (u:=Value.none) J rfl q
 | brk =>
  obtain ⟨_,_,_,q⟩:=hs
  exact False.elim q
 | cont =>
  obtain ⟨_,_,_,q⟩:=hs
  exact False.elim q
section
variable {X:Cx} {x:Str} {p pos:Pos} {e:Expr} {es:List Expr} {t:TA} {id T:String} {r:List V->Hp->VK->Prop}
def tCB (r:List V->Hp->VK->Prop) (t:TA):TE:=λσ H Q=>t σ H λvs H1=>r vs H1 Q
theorem zam (hc:zf6 X (.builtin id) r) (hg:Gl X x) (hm:X.mg x=none) (hv:bootBuiltins x=some (.builtin id)) (ha:PA X (e::es) t) (hn:x≠"__name__":=by decide) (hdb:↑54=false:=by decide)
  (he:starEach (e::es) X.env=(false,eval e X.env) :: starEach es X.env:=by rfl) (hpl:(↑79).any (·.1)=false:=by rfl):PE X ↑172 (tCB r t):=by
 intro pins s σ H Q I h
 refine wpAny_Call_Name_kw (zhT I hg hm hv ?_ hn hdb)
 exact PyProof.Rows.callWith_builtin1 (thn ↑145 λus s1 ⟨vs,H1,I1,r1,q1⟩=>hc pins s1 σ H1 vs us Q I1 r1 q1) he hpl
theorem zcA (hc:zf6 X (.type T) r) (hg:Gl X x) (hm:X.mg x=none) (hv:bootBuiltins x=some (.type T)) (ha:PA X (e::es) t) (hn:x≠"__name__":=by decide) (hdb:↑54=false:=by decide)
  (he:starEach (e::es) X.env=(false,eval e X.env) :: starEach es X.env:=by rfl) (hpl:(↑79).any (·.1)=false:=by rfl):PE X ↑172 (tCB r t):=by
 intro pins s σ H Q I h
 refine wpAny_Call_Name_kw (zhT I hg hm hv ?_ hn hdb)
 exact PyProof.Rows.callWith_type1 (thn ↑145 λus s1 ⟨vs,H1,I1,r1,q1⟩=>hc pins s1 σ H1 vs us Q I1 r1 q1) he hpl
end
end L2
namespace HT
open PySem PyProof.Rows
section
def sIx (n d:Nat):Option Int->Nat
 | none=>d
 | some v=>if v<0 then (v+(n:Int)).toNat else min v.toNat n
theorem sIx_none (n d:Nat):sIx n d none=d:=rfl
theorem sIx_nat (n d k:Nat):sIx n d (some (k:Int))=min k n:=by
 show (if (k:Int)<0 then ((k:Int)+(n:Int)).toNat else min (k:Int).toNat n)=min k n
 rw [if_neg ↑0,Int.toNat_natCast]
end
end HT
namespace L2
open PySem PySem.Spec PyProof.Rows
abbrev TO:=St->Hp->(Option Int->Hp->Prop)->Prop
def PO (X:Cx) (e:Option Expr) (t:TO):Prop :=
 ∀ (pins:List ⇑2) (s:Shared) (σ:St) (H:Hp) (Q:Option Int->Hp->Prop),Inv X pins σ H s->t σ H Q →
  wpAny ↑3 X.A (evalPart e X.env) (λu s'=>∃ o H',Inv X pins σ H' s'∧IsPart u o∧Q o H') X.xe s
def zn2:TO:=λ_ H Q=>Q none H
def zrS (t:TE):TO:=λσ H Q=>t σ H λx H1=>∃ i,x=.int i∧Q (some i) H1
section
variable {X:Cx} {e:Expr} {te:TE} {lo hi:Option Expr} {tl th:TO} {pos p2:Pos}
theorem zgz:PO X none zn2:=by
 intro pins s σ H Q I h
 rw [evalPart_none]
 exact wpAny_pure ⟨none,H,I,.none,h⟩
theorem zdX (h:PE X e te):PO X (some e) (zrS te):=by
 intro pins s σ H Q I hw
 rw [evalPart_some]
 refine thn (h pins s σ H _ I hw) λu s1 ⟨x,H1,I1,r1,q1⟩=>?_
 obtain ⟨i,rfl,q⟩:=q1
 obtain ⟨t,rfl⟩:=r1
 exact ⟨some i,H1,I1,.int i t,q⟩
def SlR (X:Cx) (r:V->Option Int->Option Int->Hp->VK->Prop):Prop :=
 ∀ (pins:List ⇑2) (s:Shared) (σ:St) (H:Hp) (x:V) (v vl vu:Value) (lo hi:Option Int) (sl:Addr) (Q:VK),Inv X pins σ H s->zdy x v->s.heap.IsSliceOf sl vl vu .none->IsPart vl lo->IsPart vu hi->r x lo hi H Q →
  ∃ T id,typeLookup (.type T) "__getitem__"=pure (some (.builtin id))∧s.TypeIs v T∧wpAny ↑3 X.A (getItem v (.ref sl)) ↑65 X.xe s
def tSl (r:V->Option Int->Option Int->Hp->VK->Prop) (te:TE) (tl th:TO):TE:=λσ H Q=>te σ H λx H1=>tl σ H1 λl H2=>th σ H2 λu H3=>r x l u H3 Q
theorem zd9 {r:V->Option Int->Option Int->Hp->VK->Prop} (hr:SlR X r) (he:PE X e te) (hl:PO X lo tl) (hu:PO X hi th):PE X (.Subscript e (.Slice lo hi none p2) pos) (tSl r te tl th):=by
 intro pins s σ H Q I h
 refine Subscript_ (thn ↑149 λv s1 ⟨x,H1,I1,r1,q1⟩=> ?_)
 refine wpAny_Slice (thn (hl pins s1 σ H1 _ I1 q1) λvl s2 ⟨l,H2,I2,pl,q2⟩=>thn (hu pins s2 σ H2 _ I2 q2) λvu s3 ⟨u,H3,I3,pu,q3⟩=>?_)
 rw [evalPart_none]
 refine wpAny_pure ?_
 have I4:Inv X pins σ H3 { s3 with heap:=s3.heap.push { cls:=.type "slice",data:=.fields #[vl,vu,.none] } }:=I3.kept (t':=s3.toks) λb ob q=>Heap.get?_push_of_some _ q
 obtain ⟨T,id,hT,ht,hg⟩:=hr pins { s3 with heap:=s3.heap.push { cls:=.type "slice",data:=.fields #[vl,vu,.none] } } σ H3 x v vl vu l u s3.heap.objs.size Q I4 r1 (Heap.IsSliceOf.new ..) pl pu q3
 show wpAny ↑3 X.A (subscriptTail e (.Slice lo hi none p2) v (.ref s3.heap.objs.size)) ↑65 X.xe { s3 with heap:=s3.heap.push { cls:=.type "slice",data:=.fields #[vl,vu,.none] } }
 exact tail_any (ops:=[.ref s3.heap.objs.size,v]) ht hT hg (by with_unfolding_all rfl)
def ztd (xs:List V) (lo hi:Option Int):List V:=(xs.drop (HT.sIx xs.length 0 lo)).take (HT.sIx xs.length xs.length hi-HT.sIx xs.length 0 lo)
theorem zkZ (xs:List V) (lo hi:Option Int):(ztd xs lo hi).length≤xs.length:=by
 unfold ztd
 rw [List.length_take,List.length_drop]
 omega
end
def ixN (n:Nat) (i:Int):Option Nat:=if 0≤i then (if i<n then some i.toNat else none) else if -(n:Int)≤i then some (i+n).toNat else none
def atI {α:Type} (xs:List α) (i:Int):Option α:=(ixN xs.length i).bind λj=>xs[j]?
theorem znF {n:Nat} {i:Int} {j:Nat} (h:ixN n i=some j):seqIndex? i n=some j∧j<n∧-(n:Int)≤i∧i<n:=by
 unfold ixN at h
 by_cases h0:0≤i
 ·rw [if_pos h0] at h
  by_cases h1:i<n
  ·rw [if_pos h1] at h
   have e:i.toNat=j:=Option.some.inj h
   exact ⟨by rw [seqIndex_of h0 h1,e],by omega,by omega,h1⟩
  ·rw [if_neg h1] at h;cases h
 ·rw [if_neg h0] at h
  by_cases h1:-(n:Int)≤i
  ·rw [if_pos h1] at h
   have e:(i+n).toNat=j:=Option.some.inj h
   exact ⟨by rw [seqIndex_neg ↑0 h1,e],by omega,h1,by omega⟩
  ·rw [if_neg h1] at h;cases h
theorem znx {α:Type} {xs:List α} {i:Int} {v:α} (h:atI xs i=some v):∃ j,seqIndex? i xs.length=some j∧xs[j]?=some v∧j<xs.length∧-(xs.length:Int)≤i∧i<xs.length:=by
 unfold atI at h
 cases e:ixN xs.length i with
 | none=>rw [e] at h;cases h
 | some j =>
  rw [e] at h
  obtain ⟨h1,h2,h3,h4⟩:=znF e
  exact ⟨j,h1,h,h2,h3,h4⟩
def zqx (b:Expr):Prop:=∀ o i,subscripted b false o i=operate [o,i] (getItem o i)
def IxR (X:Cx) (r:R2):Prop :=
 ∀ (value slice:Expr) (pins:List ⇑2) (s:Shared) (σ:St) (H:Hp) (x y:V) (v u:Value) (Q:VK),Inv X pins σ H s->zdy x v->zdy y u->r x y H Q →
  subscripted slice false v u=operate [v,u] (getItem v u)->wpAny ↑3 X.A (subscriptTail value slice v u) ↑65 X.xe s
def MtR (X:Cx) (id:String) (r:V->List V->Hp->VK->Prop):Prop :=
 ∀ (pins:List ⇑2) (s:Shared) (σ:St) (H:Hp) (x:V) (xs:List V) (v:Value) (us:List Value) (Q:VK),Inv X pins σ H s->zdy x v->zco xs us->r x xs H Q →
  wpAny ↑3 X.A (call (.builtin id) (v :: us)) ↑65 X.xe s
section
variable {X:Cx} {a b:Expr} {ta tb:TE} {pos:Pos}
theorem zaS {r:R2} (hr:IxR X r) (ha:PE X a ta) (hb:PE X b tb) (hs:zqx b):PE X (.Subscript a b pos) (tOp r ta tb):=by
 intro pins s σ H Q I h
 exact Subscript_ (zuM ha hb I h λv u s2 x y H2 I2 rx ry q=>hr a b pins s2 σ H2 x y v u Q I2 rx ry q (hs _ _))
def zru (K:W.Frag):R2:=λx y H Q=>∃ p xs i v,x=.ref p∧y=.int i∧SqL K H p xs∧atI xs i=some v∧Q v H
def zt0 (K:W.Frag):R2:=λx y H Q=>∃ p xs i v,x=.ref p∧y=.int i∧SqT K H p xs∧atI xs i=some v∧Q v H
theorem zqN:IxR X (zru X.K):=by
 intro value slice pins s σ H x y v u Q I rx ry h hs
 obtain ⟨p,xs,i,z,rfl,rfl,hq,he,q⟩:=h
 cases rx
 obtain ⟨t,rfl⟩:=ry
 obtain ⟨its,r,pl,hz⟩:=I.list hq
 obtain ⟨j,h1,h2,h3,h4,h5⟩:=znx he
 obtain ⟨w,ew,rw'⟩:=r.get h2
 have hl:=r.length
 have hn:=zly
 have fin:EP X pins σ Q w s:=⟨z,H,I,rw',q⟩
 by_cases h0:0≤i
 ·have hj:i.toNat=j:=by
   rw [seqIndex_of h0 h5] at h1
   exact Option.some.inj h1
  exact item_listR pl.isList h0 ↑0 (by rw [hj];simpa using ew) fin hs
 ·have hj:(i+(its.toArray.size:Int)).toNat=j:=by
   rw [seqIndex_neg ↑0 h4] at h1
   rw [List.size_toArray,← hl]
   exact Option.some.inj h1
  exact subscriptTail_builtinR (x:=w) pl.isList.typeIs slot_list_getitem.lookup
   (wpAny_getItem_list_neg (Q:=λr s'=>r=w∧EP X pins σ Q r s') pl.isList ↑0 (by rw [List.size_toArray]<;>omega) ↑0 (by rw [hj];simpa using ew) ⟨rfl,fin⟩) hs
theorem zrJ:IxR X (zt0 X.K):=by
 intro value slice pins s σ H x y v u Q I rx ry h hs
 obtain ⟨p,xs,i,z,rfl,rfl,hq,he,q⟩:=h
 cases rx
 obtain ⟨t,rfl⟩:=ry
 obtain ⟨its,r,pl,hz⟩:=I.tuple hq
 obtain ⟨j,h1,h2,h3,h4,h5⟩:=znx he
 obtain ⟨w,ew,rw'⟩:=r.get h2
 have hl:=r.length
 have hn:=zly
 have fin:EP X pins σ Q w s:=⟨z,H,I,rw',q⟩
 exact subscriptTail_builtinR (x:=w) pl.typeIs slot_tuple_getitem.lookup
  (getItem_tuple (j:=j) (Q:=λr s'=>r=w∧EP X pins σ Q r s') pl ↑0 ↑0 (by rw [List.size_toArray,← hl];exact h1) (by simpa using ew) ⟨rfl,fin⟩) hs
theorem zlW (its:List Value) (n j:Nat) (u:Value):Obj.mapSeq (·.setIfInBounds j u) { cls:=.type "list",data:=.seq its.toArray n }={ cls:=.type "list",data:=.seq (its.set j u).toArray n }:=by
 simp [Obj.mapSeq]
theorem Inv.lst {pins:List ⇑2} {σ:St} {H:Hp} {s:Shared} {p:Addr} {xs:List V} (I:Inv X pins σ H s) (h:H p=some (.lst xs)) :
  ∃ (its:List Value) (n:Nat),zco xs its∧s.heap.get? p=some { cls:=.type "list",data:=.seq its.toArray n }∧xs.length≤sizeLine:=by
 obtain ⟨z,its,n,r,e⟩:=I.hok p _ h
 exact ⟨its,n,r,e,z⟩
theorem Inv.lstUpd {pins:List ⇑2} {σ:St} {H:Hp} {s:Shared} {p:Addr} {xs ys:List V} {its its':List Value} {n n':Nat} {f:Obj->Obj} (I:Inv X pins σ H s) (h:H p=some (.lst xs))
  (ho:s.heap.get? p=some { cls:=.type "list",data:=.seq its.toArray n }) (hf:f { cls:=.type "list",data:=.seq its.toArray n }={ cls:=.type "list",data:=.seq its'.toArray n' }) (r:zco ys its') (hz:ys.length≤sizeLine) (t:Nat) :
  Inv X pins σ (upd H p (.lst ys)) { s with heap:=s.heap.update p f,toks:=t }:=by
 have e:(s.heap.update p f).get? p=some { cls:=.type "list",data:=.seq its'.toArray n' }:=by
  rw [Heap.get?_update_self f ho (by rw [hf]<;>rfl),hf]
 refine I.write (x:=p) (e:=p) (by rw [h];trivial) ↑37 (λb u hb q=>(Heap.get?_update_other _ _ (Ne.symm hb)).trans q) ⟨_,e⟩ ?_
 exact ⟨hz,its',n',r,e⟩
def zmL:V->V->V->Hp->(Hp->Prop)->Prop:=λo i v H Q=>∃ p xs k j,o=.ref p∧i=.int k∧H p=some (.lst xs)∧ixN xs.length k=some j∧Q (upd H p (.lst (xs.set j v)))
theorem zgP:zu9 X zmL:=by
 intro pins s σ H o i v ov iv u Q I ro ri rv h
 obtain ⟨p,xs,k,j,rfl,rfl,hp,hj,q⟩:=h
 cases ro
 obtain ⟨t,rfl⟩:=ri
 obtain ⟨its,n,r,ho,hz⟩:=I.lst hp
 obtain ⟨h1,h2,h3,h4⟩:=znF hj
 have hl:=r.length
 have hn:=zly
 have I':Inv X pins σ (upd H p (.lst (xs.set j v))) { s with heap:=s.heap.update p (Obj.mapSeq (·.setIfInBounds j u)) } :=
  I.lstUpd hp ho (zlW its n j u) (r.set rv j) (by rw [List.length_set];exact hz) s.toks
 by_cases h0:0≤k
 ·have hk:k.toNat=j:=by
   rw [seqIndex_of h0 h4] at h1
   exact Option.some.inj h1
  exact W.ki_setAt ho h0 ↑0 (by rw [List.size_toArray,← hl];exact h4) (by rw [hk];exact ⟨_,I',q⟩)
 ·have hk:(k+(its.toArray.size:Int)).toNat=j:=by
   rw [seqIndex_neg ↑0 h3] at h1
   rw [List.size_toArray,← hl]
   exact Option.some.inj h1
  exact W.ki_setBack ho ↑0 (by rw [List.size_toArray,← hl];exact h3) ↑0 (by rw [hk];exact ⟨_,I',q⟩)
theorem zj8 (lo hi:Option Int) (n:Nat):((sliceBounds lo hi none n)).1=((HT.sIx n 0 lo:Nat):Int)∧((sliceBounds lo hi none n)).2.1=((HT.sIx n n hi:Nat):Int)∧((sliceBounds lo hi none n)).2.2=1:=by
 refine ⟨?_,?_,rfl⟩
 ·cases lo with
  | none=>simp [sliceBounds,HT.sIx]
  | some i =>
   simp only [sliceBounds,HT.sIx,Option.getD_none,show (1:Int) > 0 by decide,if_true]
   by_cases h:i<0
   ·simp only [h,if_true]<;>omega
   ·simp only [h,if_false]<;>omega
 ·cases hi with
  | none=>simp [sliceBounds,HT.sIx]
  | some i =>
   simp only [sliceBounds,HT.sIx,Option.getD_none,show (1:Int) > 0 by decide,if_true]
   by_cases h:i<0
   ·simp only [h,if_true]<;>omega
   ·simp only [h,if_false]<;>omega
theorem zjo (its:List Value) (lo hi:Option Int):slicePick its.toArray lo hi none=((its.drop (HT.sIx its.length 0 lo)).take (HT.sIx its.length its.length hi-HT.sIx its.length 0 lo)).toArray:=by
 obtain ⟨h1,h2,h3⟩:=zj8 lo hi its.toArray.size
 unfold slicePick
 rw [h1,h2,h3]
 simp only [sliceRange_one,pick_run,List.size_toArray]<;>rfl
def ztA (K:W.Frag):V->Option Int->Option Int->Hp->VK->Prop:=λx lo hi H Q=>∃ a xs,x=.ref a∧SqL K H a xs∧∀ p,H p=none->Q (.ref p) (upd H p (.lst (ztd xs lo hi)))
theorem zra:SlR X (ztA X.K):=by
 intro pins s σ H x v vl vu lo hi sl Q I rx hs pl pu h
 obtain ⟨a,xs,rfl,hx,q⟩:=h
 cases rx
 obtain ⟨its,r,ht,hz⟩:=I.list hx
 have hlen:=r.length
 refine ⟨"list",_,slot_list_getitem.lookup,ht.isList.typeIs,?_⟩
 refine wpAny_getItem_list_slice ht.isList hs pl pu .none ⇑5 ?_ (by rw [List.size_toArray]<;>omega)
 rw [zjo,← hlen]
 refine ⟨.ref s.heap.objs.size,_,I.laid (t':=s.toks) (o:=.lst (ztd xs lo hi)) (λb ob q=>Heap.get?_push_of_some _ q) ↥8 ?_,rfl,q _ (I.hok.fresh ↥8)⟩
 exact ⟨Nat.le_trans (zkZ xs lo hi) hz,_,0,(r.drop (HT.sIx xs.length 0 lo)).take (HT.sIx xs.length xs.length hi-HT.sIx xs.length 0 lo),Heap.get?_push_size _ rfl⟩
def zoH:V->Bool
 | .non=>true
 | .bl _=>true
 | .int _=>true
 | .str _=>true
 | _=>false
def eqV:V->V->Bool
 | .non,.non=>true
 | .bl a,.bl b=>a == b
 | .bl a,.int b=>(if a then 1 else 0) == b
 | .int a,.bl b=>a == (if b then 1 else 0)
 | .int a,.int b=>a == b
 | .str a,.str b=>a == b
 | _,_=>false
theorem zrH {A:Around} {s:Shared} {y x:V} {u v:Value} (ry:zdy y u) (rx:zdy x v) (fy:zoH y=true) (fx:zoH x=true):SeqAt.EqAt A s u v (eqV y x):=by
 cases y with
 | non =>
  cases ry
  cases x with
  | non=>cases rx;exact SeqAt.EqAt.same _
  | bl b=>cases rx;exact SeqAt.EqAt.none_bool b
  | int b=>obtain ⟨t,rfl⟩:=rx;exact SeqAt.EqAt.none_int b t
  | str b=>obtain ⟨t,rfl⟩:=rx;exact SeqAt.EqAt.none_str b t
  | _=>exact absurd (show false=true from fx) Bool.false_ne_true
 | bl a =>
  cases ry
  cases x with
  | non=>cases rx;exact SeqAt.EqAt.bool_none a
  | bl b=>cases rx;exact SeqAt.EqAt.bool_bool a b
  | int b=>obtain ⟨t,rfl⟩:=rx;exact SeqAt.EqAt.bool_int a b t
  | str b=>obtain ⟨t,rfl⟩:=rx;exact SeqAt.EqAt.bool_str a b t
  | _=>exact absurd (show false=true from fx) Bool.false_ne_true
 | int a =>
  obtain ⟨t',rfl⟩:=ry
  cases x with
  | non=>cases rx;exact SeqAt.EqAt.int_none a t'
  | bl b=>cases rx;exact SeqAt.EqAt.int_bool a t' b
  | int b=>obtain ⟨t,rfl⟩:=rx;exact SeqAt.EqAt.int_int a t' b t
  | str b=>obtain ⟨t,rfl⟩:=rx;exact SeqAt.EqAt.int_str a t' b t
  | _=>exact absurd (show false=true from fx) Bool.false_ne_true
 | str a =>
  obtain ⟨t',rfl⟩:=ry
  cases x with
  | non=>cases rx;exact SeqAt.EqAt.str_none a t'
  | bl b=>cases rx;exact SeqAt.EqAt.str_bool a t' b
  | int b=>obtain ⟨t,rfl⟩:=rx;exact SeqAt.EqAt.str_int a t' b t
  | str b=>obtain ⟨t,rfl⟩:=rx;exact SeqAt.EqAt.str_str a t' b t
  | _=>exact absurd (show false=true from fx) Bool.false_ne_true
 | _=>exact absurd (show false=true from fy) Bool.false_ne_true
theorem zjF:zf6 X (.builtin "len") (λxs H Q=>∃ p ys,xs=[.ref p]∧(SqL X.K H p ys∨SqT X.K H p ys)∧Q (.int ys.length) H):=by
 intro pins s σ H xs us Q I r h
 obtain ⟨p,ys,rfl,hq,q⟩:=h
 obtain ⟨u,rfl,rx⟩:=zk0 r
 cases rx
 have hn:=zly
 rcases hq with hq | hq
 ·obtain ⟨its,r',pl,hz⟩:=I.list hq
  have hlen:=r'.length
  exact Calls.call_len_list pl.isList ↑252 ⟨.int ys.length,H,I.tok _,⟨s.toks+1,by rw [List.size_toArray,hlen]⟩,q⟩
 ·obtain ⟨its,r',pl,hz⟩:=I.tuple hq
  have hlen:=r'.length
  exact len_tuple pl ↑252 ⟨.int ys.length,H,I.tok _,⟨s.toks+1,by rw [List.size_toArray,hlen]⟩,q⟩
theorem zjH:zf6 X (.type "list") (λxs H Q=>∃ p ys,xs=[.ref p]∧(SqL X.K H p ys∨SqT X.K H p ys)∧∀ l,H l=none->Q (.ref l) (upd H l (.lst ys))):=by
 intro pins s σ H xs us Q I r h
 obtain ⟨p,ys,rfl,hq,q⟩:=h
 obtain ⟨u,rfl,rx⟩:=zk0 r
 cases rx
 have fin:∀ (its:List Value),zco ys its->ys.length≤sizeLine->∀ (h':Heap) (c':Nat),(∀ b o',s.heap.get? b=some o'->h'.get? b=some o') →
   h'.get? s.heap.objs.size=some { cls:=.type "list",dict:=none,data:=.seq its.toArray c',slots:=#[] }->EP X pins σ Q (.ref s.heap.objs.size) { s with heap:=h' }:=λits r' hz h' c' kp e =>
  ⟨.ref s.heap.objs.size,_,I.laid (t':=s.toks) kp ↥8 (show zen X.prog X.w _ h' _ (.lst ys) from ⟨hz,its,c',r',e⟩),rfl,q _ (I.hok.fresh ↥8)⟩
 rcases hq with hq | hq
 ·obtain ⟨its,r',pl,hz⟩:=I.list hq
  have hlen:=r'.length
  obtain ⟨o,ho,hc,n,hd⟩:=pl.isList
  exact call_list_seq p ↑37 ho hc hd (λh' c' kp e=>fin its r' hz h' c' kp e) ↑252
 ·obtain ⟨its,r',pl,hz⟩:=I.tuple hq
  have hlen:=r'.length
  obtain ⟨o,ho,hc,n,hd⟩:=pl
  exact call_list_seq p (.inr rfl) ho hc hd (λh' c' kp e=>fin its r' hz h' c' kp e) ↑252
def tyV (K:W.Frag) (T:String) (x:V) (H:Hp):Prop:=match x with
 | .str _=>T="str"
 | .int _=>T="int"
 | .ref p=>(T="list"∧∃ xs,SqL K H p xs)∨(T="tuple"∧∃ o,K.lookup p=some o∧o.cls=.type "tuple"∧o.dict=none) ∨
   (T="dict"∧((∃ kvs,H p=some (.dK kvs))∨∃ kvs,H p=some (.dT kvs)))∨(T="set"∧∃ S n,H p=some (.set S n))
 | _=>False
theorem zsx {pins:List ⇑2} {σ:St} {H:Hp} {s:Shared} {T:String} {x:V} {v:Value} (I:Inv X pins σ H s) (r:zdy x v) (ty:tyV X.K T x H) :
  s.TypeIs v T∧∀ a,v=.ref a->∃ ob,s.heap.get? a=some ob∧ob.dict=none:=by
 cases x with
 | str z =>
  obtain ⟨t,rfl⟩:=r
  cases (show T="str" from ty)
  exact ⟨typeIs_str s z t,λ_ e=>nomatch e⟩
 | int i =>
  obtain ⟨t,rfl⟩:=r
  cases (show T="int" from ty)
  exact ⟨typeIs_int s i t,λ_ e=>nomatch e⟩
 | ref p =>
  cases r
  rcases ty with ⟨rfl,xs,hq⟩ | ⟨rfl,o,hk,hc,hd⟩ | ⟨rfl,hk⟩ | ⟨rfl,S,n,hk⟩
  ·obtain ⟨its,_,pl,_⟩:=I.list hq
   refine ⟨pl.isList.typeIs,λa e=>?_⟩
   cases e
   obtain ⟨o,n,e,c,hd,_⟩:=pl
   exact ⟨o,e,hd⟩
  ·refine ⟨⟨o,I.kIn p o hk,hc⟩,λa e=>?_⟩
   cases e
   exact ⟨o,I.kIn _ o hk,hd⟩
  ·have z:∃ o,s.heap.get? p=some o∧o.ExactDict:=by
    rcases hk with ⟨kvs,hk⟩ | ⟨kvs,hk⟩
    ·obtain ⟨_,_,_,_,o,_,_,e,ex,_⟩:=I.hok p _ hk
     exact ⟨o,e,ex⟩
    ·obtain ⟨_,_,_,_,o,_,_,e,ex,_⟩:=I.hok p _ hk
     exact ⟨o,e,ex⟩
   obtain ⟨o,e,ex⟩:=z
   refine ⟨⟨o,e,ex.1⟩,λa e2=>?_⟩
   cases e2
   exact ⟨o,e,ex.2.1⟩
  ·obtain ⟨o,_,_,_,e,ex,_⟩:=I.hok p _ hk
   refine ⟨⟨o,e,ex.1⟩,λa e2=>?_⟩
   cases e2
   exact ⟨o,e,ex.2.1⟩
 | _=>exact False.elim ty
def tBM (K:W.Frag) (T:String) (r:V->List V->Hp->VK->Prop) (to:TE) (t:TA):TE:=λσ H Q=>to σ H λx H1=>tyV K T x H1∧t σ H1 λxs H2=>r x xs H2 Q
variable {o e:Expr} {es:List Expr} {to:TE} {t:TA} {name:Str} {apos cpos:Pos} {T id:String} {r:V->List V->Hp->VK->Prop}
theorem zuI (pa:PlainAttrs T) (slot:Slot T name id) (hty:typeOf (.builtin id)=pure (.type "method_descriptor")) (hm:MtR X id r) (ho:PE X o to) (ha:PA X (e::es) t)
  (hbase:attributeBase o name X.env (eval o X.env)=eval o X.env:=by rfl)
  (hfew:((backTo cpos (starEach (e::es) X.env)).all (λx=>!x.1)&&(backToKw cpos (keywordEach [] X.env)).all (λx=>x.1.isSome)
   &&decide (((e::es)).length+([]:List Keyword).length+(if ([]:List Keyword).isEmpty then 0 else 1)<30))=true:=by rfl)
  (hline:(apos.endLine == cpos.line)=true:=by rfl) (hs:starEach (e::es) X.env=(false,eval e X.env) :: starEach es X.env:=by rfl) (hplain:(↑228).any (·.1)=false:=by rfl) :
  PE X (.Call (.Attribute o name apos) (e::es) [] cpos) (tBM X.K T r to t):=by
 intro pins s σ H Q I h
 refine wpAny_Call_method_late hbase hfew hline rfl (thn (ho pins s σ H _ I h) λv s1 ⟨x,H1,I1,r1,ty,q1⟩=>?_)
 obtain ⟨h1,h2⟩:=zsx I1 r1 ty
 refine ⟨T,id,pa,slot,hty,h1,h2,?_⟩
 have hA:=ha cpos pins s1 σ H1 _ I1 q1
 rw [hs] at hA ⊢
 refine Calls.callWith_builtin (by show (false||(↑228).any (·.1))=false;rw [hplain]<;>rfl) (Calls.evalArgs_plain ?_)
 exact thn hA λus s2 ⟨vs,H2,I2,r2,q2⟩=>hm pins s2 σ H2 x vs v us Q I2 r1 r2 q2
end
def MtM (X:Cx) (id:String) (r:V->List V->Hp->VK->Prop):Prop :=
 ∀ (pins:List ⇑2) (s:Shared) (σ:St) (H:Hp) (x:V) (xs:List V) (v:Value) (us:List Value) (Q:VK),Inv X pins σ H s->zdy x v->zco xs us->r x xs H Q →
  wpAny ↑3 X.A (call (.builtin id) (v :: us)) ↑65 X.xe s
theorem zco.one:∀ {x:V} {us:List Value},zco [x] us->∃ u,us=[u]∧zdy x u
 | _,_,.cons r .nil=>⟨_,rfl,r⟩
theorem zco.two:∀ {x y:V} {us:List Value},zco [x,y] us->∃ u v,us=[u,v]∧zdy x u∧zdy y v
 | _,_,_,.cons r (.cons q .nil)=>⟨_,_,rfl,r,q⟩
theorem zco.zero:∀ {us:List Value},zco [] us->us=[]
 | _,.nil=>rfl
theorem zco.dropLast {xs:List V} {us:List Value} (h:zco xs us):zco xs.dropLast us.dropLast:=by
 induction h with
 | nil=>exact .nil
 | cons r t ih =>
  cases t with
  | nil=>exact .nil
  | cons q t'=>exact .cons r ih
theorem zco.reverse {xs:List V} {us:List Value} (h:zco xs us):zco xs.reverse us.reverse:=by
 induction h with
 | nil=>exact .nil
 | cons r t ih=>rw [List.reverse_cons,List.reverse_cons];exact zco.append ih (.cons r .nil)
theorem zco.rep {xs:List V} {us:List Value} (h:zco xs us):∀ k:Nat,zco (List.replicate k xs).flatten (List.replicate k us).flatten
 | 0=>.nil
 | k+1=>by
  rw [List.replicate_succ,List.replicate_succ,List.flatten_cons,List.flatten_cons]
  exact zco.append h (zco.rep h k)
theorem zjD (its:List Value):∀ (k:Nat) (acc:List Value),
  List.foldl (λx1 x2=>x1++x2) acc.toArray (List.replicate k its.toArray)=(acc++(List.replicate k its).flatten).toArray
 | 0,acc=>by simp
 | k+1,acc=>by
  have e:acc.toArray++its.toArray=(acc++its).toArray:=by simp
  have e2:(acc++its)++(List.replicate k its).flatten=acc++(List.replicate (k+1) its).flatten:=by
   rw [List.replicate_succ,List.flatten_cons,List.append_assoc]
  rw [← e2,← zjD its k (acc++its),← e,List.replicate_succ,List.foldl_cons]
section
variable {X:Cx} {pins:List ⇑2} {σ:St} {H:Hp} {s:Shared} {l:Addr} {xs ys:List V}
theorem Inv.lset {its its':List Value} {n:Nat} {f:Array Value->Array Value} {t':Nat} (I:Inv X pins σ H s) (hH:H l=some (.lst xs))
  (e:s.heap.get? l=some { cls:=.type "list",data:=.seq its.toArray n }) (hf:f its.toArray=its'.toArray) (hv:zco ys its') (hz:ys.length≤sizeLine) :
  Inv X pins σ (upd H l (.lst ys)) { s with heap:=s.heap.update l (Obj.mapSeq f),toks:=t' }:=by
 have q:=PySem.IsL.update e f
 rw [hf] at q
 refine I.write (x:=l) (e:=l) (by rw [hH];exact trivial) ↑37 (λb' u hb hu=>(Heap.get?_update_other s.heap (Obj.mapSeq f) (Ne.symm hb)).trans hu) ⟨_,q⟩ ?_
 exact ⟨hz,its',_,hv,q⟩
theorem Inv.lnew {its:List Value} {t':Nat} (I:Inv X pins σ H s) (hv:zco ys its) (hz:ys.length≤sizeLine) :
  Inv X pins σ (upd H s.heap.objs.size (.lst ys)) { s with heap:=s.heap.push { cls:=.type "list",data:=.seq its.toArray },toks:=t' } :=
 I.laid (λ_ _ q=>Heap.get?_push_of_some _ q) ↥8 ⟨hz,its,0,hv,Heap.get?_push_size _ rfl⟩
theorem Inv.fresh (I:Inv X pins σ H s):H s.heap.objs.size=none:=I.hok.fresh ↥8
theorem Inv.lstM (I:Inv X pins σ H s) (hH:H l=some (.lst xs)):xs.length≤sizeLine∧∃ (its:List Value) (n:Nat),zco xs its∧xs.length=its.length∧s.heap.get? l=some { cls:=.type "list",data:=.seq its.toArray n }:=by
 obtain ⟨z,its,n,r,e⟩:=I.hok l _ hH
 exact ⟨z,its,n,r,r.length,e⟩
theorem zls {n:Nat} (h:n≤sizeLine):Builtin.List.listTooLong n=false:=by
 unfold Builtin.List.listTooLong
 exact decide_eq_false ↑0
end
section
variable {X:Cx}
def zjl:V->List V->Hp->VK->Prop:=λx vs H Q=>∃ l xs y,x=.ref l∧vs=[y]∧H l=some (.lst xs)∧xs.length<sizeLine∧Q .non (upd H l (.lst (xs++[y])))
theorem zjZ:MtM X "list.append" zjl:=by
 intro pins s σ H x vs v us Q I rx rv h
 obtain ⟨l,xs,y,rfl,rfl,hH,hz,q⟩:=h
 cases rx
 obtain ⟨u,rfl,ru⟩:=rv.one
 obtain ⟨z,its,n,r,hl,e⟩:=I.lstM hH
 refine call_meets F.slot_list_append ⟨_,e,rfl⟩ F.entry_list_append (F.args_list_append_2 _ _) (PySem.list_append l its.toArray n u (by rw [List.size_toArray];omega)) ⟨e,?_⟩
 refine ⟨.non,_,I.lset (its':=its++[u]) hH e ⇑5 (r.append (.cons ru .nil)) ?_,rfl,q⟩
 rw [List.length_append,List.length_singleton]
 omega
def zrn:V->List V->Hp->VK->Prop:=λx vs H Q=>∃ l b xs zs,x=.ref l∧vs=[.ref b]∧H l=some (.lst xs)∧H b=some (.lst zs)∧xs.length+zs.length≤sizeLine∧Q .non (upd H l (.lst (xs++zs)))
theorem zr4:MtM X "list.extend" zrn:=by
 intro pins s σ H x vs v us Q I rx rv h
 obtain ⟨l,b,xs,zs,rfl,rfl,hH,hB,hz,q⟩:=h
 cases rx
 obtain ⟨u,rfl,ru⟩:=rv.one
 cases ru
 obtain ⟨z,its,n,r,hl,e⟩:=I.lstM hH
 obtain ⟨z2,its2,n2,r2,hl2,e2⟩:=I.lstM hB
 have hsz:its.toArray.size+its2.toArray.size≤sizeLine:=by rw [List.size_toArray,List.size_toArray];omega
 have hlong:¬ (!its.toArray.isEmpty&&Builtin.List.listTooLong (its.toArray.size+its2.toArray.size))=true:=by
  rw [zls hsz,Bool.and_false]
  exact Bool.false_ne_true
 refine call_meets F.slot_list_extend ⟨_,e,rfl⟩ F.entry_list_extend (F.args_list_extend_2 _ _)
  (AutoSeq1.list_extend_list_list_0 l its.toArray n b its2.toArray n2 hlong (by rw [List.size_toArray];omega) ↑0) ⟨e,e2,?_⟩
 refine ⟨.non,_,I.lset (its':=its++its2) hH e ⇑5 (r.append r2) ?_,rfl,q⟩
 rw [List.length_append]
 omega
def zuD:R2:=λx y H Q=>∃ l b xs zs,x=.ref l∧y=.ref b∧H l=some (.lst xs)∧H b=some (.lst zs)∧xs.length+zs.length≤sizeLine∧∀ p,H p=none->Q (.ref p) (upd H p (.lst (xs++zs)))
theorem zdD:OpR X (binaryOp .Add) zuD:=by
 intro pins s σ H x y v u Q I rx ry h
 obtain ⟨l,b,xs,zs,rfl,rfl,hH,hB,hz,q⟩:=h
 cases rx
 cases ry
 obtain ⟨z,its,n,r,hl,e⟩:=I.lstM hH
 obtain ⟨z2,its2,n2,r2,hl2,e2⟩:=I.lstM hB
 refine PySem.P.add_list e e2 ?_ (by rw [List.size_toArray,List.size_toArray];omega)
 have ea:its.toArray++its2.toArray=(its++its2).toArray:=by simp
 rw [ea]
 exact ⟨.ref _,_,I.lnew (t':=s.toks) (r.append r2) (by rw [List.length_append];omega),rfl,q _ I.fresh⟩
def zuk:R2:=λx y H Q=>∃ l k xs,x=.ref l∧y=.int k∧H l=some (.lst xs)∧-(2^63)≤k∧k<2^63∧xs.length*k.toNat≤sizeLine ∧
 ∀ p,H p=none->Q (.ref p) (upd H p (.lst (List.replicate k.toNat xs).flatten))
theorem zqB {α:Type} (xs:List α) (k:Nat):(List.replicate k xs).flatten.length=k*xs.length:=by
 induction k with
 | zero=>simp
 | succ k ih=>rw [List.replicate_succ,List.flatten_cons,List.length_append,ih,Nat.succ_mul,Nat.add_comm]
theorem zhr:OpR X (binaryOp .Mult) zuk:=by
 intro pins s σ H x y v u Q I rx ry h
 obtain ⟨l,k,xs,rfl,rfl,hH,h1,h2,hz,q⟩:=h
 cases rx
 obtain ⟨t,rfl⟩:=ry
 obtain ⟨z,its,n,r,hl,e⟩:=I.lstM hH
 have hlen:its.toArray.size*k.toNat≤sizeLine:=by rw [List.size_toArray,← hl];exact hz
 have hcap:¬ its.toArray.size*k.toNat > (2^63-1)/8:=by
  have:(sizeLine:Nat)≤(2^63-1)/8:=by decide
  omega
 have hfit:¬ (!Builtin.List.listFitsIndex k)=true:=by
  rw [fitsIndex_both h1 h2]
  exact Bool.false_ne_true
 have hlong:¬ Builtin.List.listTooLong (its.toArray.size*k.toNat)=true:=by
  rw [zls hlen]
  exact Bool.false_ne_true
 have hnew:List.foldl (λx1 x2=>x1++x2) #[] (List.replicate (if its.toArray.isEmpty=true then 0 else k.toNat) its.toArray)=(List.replicate k.toNat its).flatten.toArray:=by
  have f0:∀ m:Nat,List.foldl (λx1 x2=>x1++x2) #[] (List.replicate m its.toArray)=(List.replicate m its).flatten.toArray:=λm=>by
   have:=zjD its m []
   rw [List.nil_append] at this
   exact this
  rw [f0]
  cases its with
  | nil=>simp
  | cons a r'=>rw [if_neg ⇑5]
 refine wpAny_binaryOp_repeat_ref (T:="list") (U:="int") ↑1 ⟨_,e,rfl⟩ (λs'=>typeIs_int s' k t) noFill_list_mul F.fills_int_mul F.slot_int_rmul repeat_list F.slot_int_index.lookup
  (call_meets F.slot_int_rmul (typeIs_int s k t) F.entry_int_rmul (F.args_int_rmul_2 _ _) (int___rmul___int_list k t l its.toArray n)
   ⟨e,rfl,⟨_,e,rfl⟩,call_meets F.slot_list_mul ⟨_,e,rfl⟩ F.entry_list_mul (F.args_list_mul_2 _ _) (AutoListH.list___mul___list_int_3 l its.toArray n k t hfit hcap hlong) ⟨e,?_⟩⟩)
 rw [hnew]
 exact ⟨.ref _,_,I.lnew (t':=s.toks) (r.rep k.toNat) (by rw [zqB,Nat.mul_comm];exact hz),rfl,q _ I.fresh⟩
end
end L2
namespace Att
open PySem PySem.W PySem.Calls PyProof.Rows
theorem zh4 {P:Params} {h:Heap}:∀ (ns:Ji) (vs:List Value),WellAll P h vs (ns.map WData.int)->IntsAre vs ns:=by
 intro ns
 induction ns with
 | nil =>
  intro vs w
  rw [List.map_nil] at w
  cases w
  exact .nil
 | cons n ns ih =>
  intro vs w
  rw [List.map_cons] at w
  cases w with
  | cons a b =>
   cases a
   exact .cons _ _ (ih _ b)
theorem zmH {l:OpenLaw} {n:Nat} (hn:l.most=some n) {P:Params} {h:Heap} {args:List WData} {vals:List Value}
  (hpre:l.row.toRowW.claim.pre args=true) (hwl:WellAll P h vals args) :
  ∃ a vs ns,vals=[Value.ref a]∧args=[WData.list (ns.map WData.int)]∧h.get? a=some { cls:=.type "list",data:=.seq vs.toArray }∧IntsAre vs ns∧ns.length≤n:=by
 have hsh:WShape.hasAll [] args [.list .int]=true:=(pre_splitW hpre).1
 have hc:l.pre.holds [] { args:=args }=true:=(pre_splitW hpre).2
 obtain ⟨d,r,rfl,h1,h2⟩:=hasAllW_cons hsh
 obtain rfl:=hasAllW_nil h2
 obtain ⟨xs,rfl,h3⟩:=hasW_list h1
 obtain ⟨ns,rfl⟩:=items_int h3
 have hlen:ns.length≤n:=by
  unfold OpenLaw.pre at hc
  have h4:(WTm.not (.lt (.lit (.int (n:Int))) (.len (.arg 0)))).holds [] { args:=[.list (ns.map .int)] }=true:=by
   have h4:=(holds_andW hc).1
   rw [hn] at h4
   exact h4
  have h5:=condW_of h4 (w_not (w_lt w_lit (w_len_list (w_arg rfl))))
  rw [List.length_map] at h5
  refine Nat.le_of_not_lt λq=>?_
  have q':(n:Int)<((ns.length:Nat):Int):=by omega
  first
   | (rw [decide_eq_true q'] at h5;exact absurd h5 ↑1)
   | (simp at h5;omega)
 cases hwl with
 | cons w1 w2 =>
  cases w2
  cases w1 with
  | list ho hall=>exact ⟨_,_,ns,rfl,rfl,ho,zh4 ns _ hall,hlen⟩
theorem zmq (l:OpenLaw) (args:List WData):l.row.toRowW.claim.post args (.bool true) args=true :=
 postW_of (r:=l.row.toRowW) (X:=(true == true))
  (show WShape.has [] (.bool true) .bool=true by first | rfl | decide | simp [WShape.has,WShape.arms,WShape.armsAll])
  (show (WTm.eq .res (.lit (.bool true))).value [] { args:=args,res:=some (.bool true),after:=args }=some (.bool (true == true)) from w_eq_bool (w_res rfl) w_lit) rfl
theorem attach_call {l:OpenLaw} {n:Nat} {q:Program} {loose:List Str} {XP:(Str->Option Value)->Heap->Prop} {YP:World->Heap->Prop} {d:DefRec}
  (hn:l.most=some n) (hdf:d.params.defaults=[])
  (call:∀ (w:World) (s₀ s₁:Shared) (mg mb:Str->Option Value) (fa:Addr) (o:Obj) (pm cd doc:Value) (a:Addr) (vs:List Value) (ns:Ji),
   Ground q loose [] XP w s₀ mg mb s₁.heap->YP w s₁.heap →
   s₁.heap.get? fa=some o->o.data=.func (docDef d.name d.params d.body d.scope pm cd doc)->s₁.heap.CodeRec cd d.name->mg d.name=some (.ref fa) →
   s₁.heap.get? a=some { cls:=.type "list",data:=.seq vs.toArray }->IntsAre vs ns->ns.length≤n->s₁.gens=#[] →
   codeAny (model l.prog w) callerA (.call (.ref fa) ⟨[.ref a],[]⟩) (λr s'=>r= .ok (.ret (.bool true))∧OldK s₁.heap s'.heap∧s'.os=s₁.os∧AllBare s'.gens) s₁) :
  WalkO q loose XP YP l.row.toRowW d [] (λf vs=>PySem.call f vs):=by
 intro w s₀ s₁ mg mb G Y fa o pm cd doc dV kV ho hd hcd hD hmg hg args vals as hpre hlay hrd hwl hlo
 obtain rfl:dV=.none:=Dflts.none hD hdf
 obtain rfl:kV=.none:=Dflts.noKw hD
 obtain ⟨a,vs,ns,rfl,rfl,hobj,hints,hlen⟩:=zmH hn hpre hwl
 refine enter_call (codeAny_mono (call w s₀ s₁ mg mb fa o pm cd doc a vs ns G Y ho (fd_plain hd) hcd hmg hobj hints hlen hg) λr s' hq=>?_)
 obtain ⟨rfl,h2,h3,h4⟩:=hq
 exact ⟨.inl ⟨.bool true,.bool true,[],rfl,λ_=>rfl,.bool true,zmq l _,λ_=>⟨List.Pairwise.nil,λ_ hm=>(nomatch hm)⟩⟩,h2,h3,h4⟩
end Att
namespace L2
open PySem PySem.Spec PyProof.Rows
theorem zjw:∀ {vs:List Value} {ns:Ji},IntsAre vs ns->zco ↑56 vs
 | _,_,.nil=>.nil
 | _,_,.cons n t h=>.cons ⟨t,rfl⟩ (zjw h)
def zuB (H:Hp):Prop:=∀ b,H b=none∨∃ o xs,H b=some (.frz o (.lst xs))
theorem zoO {P:Program} {w:World} {K:W.Frag} {mg mb:Str->Option Value} {CX:CXT} {k:Nat} {fa a:Addr} {fd:FuncData} {x:Str} {sp:Sp} {s₁:Shared} {vs:List Value} {ns:Ji}
  (KX:K.In s₁.heap) (hns:s₁.heap.Ns mainGlobals mg) (hb:s₁.heap.Ns builtinsNs mb) (hbb:∀ x:Str,x≠"__name__"->mb x=bootBuiltins x) (hlim:s₁.heap.NoLimit) (hg:s₁.gens=#[])
  (ha:s₁.heap.get? a=some { cls:=.type "list",data:=.seq vs.toArray }) (hi:IntsAre vs ns) (hl:ns.length≤sizeLine) (hr:Room k callerA)
  (F:∀ base:Heap,K.In base->base.Ns mainGlobals mg->FnOk P w K mg base CX k fa fd [x] sp) (hbind:∀ (s:Shared) (u:Value),BindsTo s fd ⟨[u],[]⟩ [(x,u)])
  (hsp:∀ H:Hp,zuB H->SqL K H a ↑56->sp [.ref a] H (λv _=>v=.bl true) λ_ _ _=>False)
  (hCX:∀ H e s',CX [] H s₁ (λ_ _ _=>False) e s'->False) :
  codeAny (model P w) callerA (.call (.ref fa) ⟨[.ref a],[]⟩) (λr s'=>r= .ok (.ret (.bool true))∧OldK s₁.heap s'.heap∧s'.os=s₁.os∧AllBare s'.gens) s₁:=by
 have rv:=zjw hi
 have lenV:=hi.length
 have core:∀ H:Hp,zuB H->SqL K H a ↑56->HOk P w H s₁.heap->(∀ b,H b≠none->b=a)->(H a≠none->K.lookup a=none) →
   codeAny (model P w) callerA (.call (.ref fa) ⟨[.ref a],[]⟩) (λr s'=>r= .ok (.ret (.bool true))∧OldK s₁.heap s'.heap∧s'.os=s₁.os∧AllBare s'.gens) s₁:=by
  intro H hO hS hok hA hK
  have base_of:∀ {b:Addr} {o:Obj},s₁.heap.get? b=some o->H b=none->((zpd s₁.heap H)).get? b=some o:=λe n=>zoM e n
  have noA:∀ {b:Addr} {o:Obj} {es:Array DictEntry} {ep:Nat},s₁.heap.get? b=some o->o.data=.dict es ep->H b=none:=λ{b o es ep} e d=>by
   cases q:H b with
   | none=>rfl
   | some u =>
    have e':b=a:=hA b (by rw [q];simp)
    subst e'
    rw [ha] at e;cases e
    have d':Data.seq vs.toArray _=Data.dict es ep:=d
    cases d'
  have nsK:∀ {b:Addr} {m:Str->Option Value},s₁.heap.Ns b m->((zpd s₁.heap H)).Ns b m:=λ{b m} ⟨o,es,ep,e,d,r⟩=>⟨o,es,ep,base_of e (noA e d),d,r⟩
  have hKb:K.In (zpd s₁.heap H):=λb o e=>base_of (KX b o e) (by
   cases q:H b with
   | none=>rfl
   | some u =>
    have e':b=a:=hA b (by rw [q];simp)
    subst e'
    rw [hK (by rw [q];simp)] at e;cases e)
  have hM:Mod K mg (zpd s₁.heap H):=⟨hKb,nsK hns,⟨mb,nsK hb,hbb⟩,let ⟨mc,h1,h2⟩:=hlim;⟨mc,nsK h1,h2⟩⟩
  have e0:Env0 P w K mg (zpd s₁.heap H) callerA [] s₁ H:=⟨rfl,hM,λb o e=>zrd e,Nat.le_of_eq (znQ _ _),trivial,λb hb=>absurd (show b∈([]:List Addr) from hb) ⇑5,hok,.of_eq hg⟩
  refine codeAny_mono ((F _ hKb (nsK hns)).run callerA [] s₁ H ⟨[.ref a],[]⟩ [.ref a] [.ref a] _ _ hr e0 (hbind s₁ (.ref a)) (.cons rfl .nil) (hsp H hO hS)) λr s' h=>?_
  cases r with
  | error e=>exact (hCX H e s' h).elim
  | ok fl =>
   cases fl with
   | next=>exact False.elim h
   | brk=>exact False.elim h
   | cont=>exact False.elim h
   | ret u =>
    obtain ⟨v,H',os,bare,un,hok',r',q⟩:=h
    have q':v=.bl true:=q
    subst q'
    obtain rfl:u=Value.bool true:=r'
    refine ⟨rfl,OldK.of_keep λb o e=>?_,os,bare⟩
    cases q:H b with
    | none=>exact un.keep b o e q (by intro z;exact absurd (show b∈([]:List Addr) from z) ⇑5) ⇑5
    | some u =>
     rcases hO b with z | ⟨ob,xs,z⟩
     ·rw [q] at z;cases z
     ·have z2:=un.frzs b ob _ z
      obtain ⟨e1,_⟩:=hok b _ z
      obtain ⟨e2,_⟩:=hok' b _ z2
      rw [e] at e1;cases e1
      exact e2
 cases hk:K.lookup a with
 | some o =>
  have e:=KX a o hk
  rw [ha] at e
  cases e
  refine core (λ_=>none) (λ_=>.inl rfl) (.inr ⟨_,vs.toArray,_,hk,rfl,rfl,rfl,by rw [List.size_toArray,lenV];exact hl,by simpa using rv⟩) (λb u z=>by have z':(none:Option HO)=some u:=z;cases z') (λb z=>absurd rfl z) λz=>absurd rfl z
 | none =>
  refine core (λb=>if b=a then some (.frz { cls:=.type "list",data:=.seq vs.toArray } (.lst ↑56)) else none) (λb=>?_) (.inl (.inr ⟨{ cls:=.type "list",data:=.seq vs.toArray },if_pos rfl⟩)) (λb u z=>?_) (λb z=>?_) λ_=>hk
  ·by_cases hb:b=a
   ·exact .inr ⟨_,_,if_pos hb⟩
   ·exact .inl (if_neg hb)
  ·by_cases hb:b=a
   ·have z':=(if_pos hb).symm.trans z
    cases z'
    subst hb
    exact ⟨ha,by rw [List.length_map];exact hl,vs,_,rv,ha⟩
   ·have z':=(if_neg hb).symm.trans z
    cases z'
  ·by_cases hb:b=a
   ·exact hb
   ·exact absurd (if_neg hb) z
theorem zqW {l:W.OpenLaw} {n k:Nat} {q:Program} {loose:List Str} {XP:(Str->Option Value)->Heap->Prop} {YP:World->Heap->Prop} {d:DefRec} {K:Params->W.Frag} {CX:World->CXT} {sp:World->Sp} {x:Str}
  (hn:l.most=some n) (hn2:n≤sizeLine) (hdf:d.params.defaults=[]) (hr:Room k callerA)
  (hY:∀ (w:World) (h:Heap),YP w h->(K w.params).In h)
  (F:∀ (w:World) (mg:Str->Option Value) (fa:Addr) (h:Heap),(K w.params).In h->h.Ns mainGlobals mg->mg d.name=some (.ref fa) →
   ∃ fd:FuncData,(∀ (s:Shared) (u:Value),BindsTo s fd ⟨[u],[]⟩ [(x,u)]) ∧
    ∀ base:Heap,(K w.params).In base->base.Ns mainGlobals mg->FnOk l.prog w (K w.params) mg base (CX w) k fa fd [x] (sp w))
  (hsp:∀ (w:World) (H:Hp) (a:Addr) (ns:Ji),ns.length≤n->zuB H->SqL (K w.params) H a ↑56->sp w [.ref a] H (λv _=>v=.bl true) λ_ _ _=>False)
  (hCX:∀ (w:World) (H:Hp) (s:Shared) (e:Value) (s':Shared),CX w [] H s (λ_ _ _=>False) e s'->False) :
  W.WalkO q loose XP YP l.row.toRowW d [] (λf vs=>PySem.call f vs):=by
 refine Att.attach_call hn hdf λw s₀ s₁ mg mb fa o pm cd doc a vs ns G Y ho hd hcd hmg hobj hints hlen hg=>?_
 have KX:=hY w _ Y
 obtain ⟨fd,hb,hF⟩:=F w mg fa _ KX G.T.g hmg
 exact zoO KX G.T.g G.T.b G.T.builtins G.T.nolimit hg hobj hints (Nat.le_trans hlen hn2) hr hF hb (λH hO hS=>hsp w H a ns hlen hO hS) λH e s'=>hCX w H s₁ e s'
def zf5 (s:Stmt) (j:Nat):Stmt:=match s with
 | .ClassDef _ _ _ body _ _ _ _ _ _ _=>body.getD j (.Pass ⟨0,0,0,0⟩)
 | _=>.Pass ⟨0,0,0,0⟩
def zaF (s:Stmt):Arguments:=match s with
 | .FunctionDef _ a _ _ _ _ _ _ _ _=>a
 | _=>{ posonlyargs:=[],args:=[],vararg:=none,kwonlyargs:=[],kw_defaults:=[],kwarg:=none,defaults:=[] }
def zaB (s:Stmt):List Stmt:=match s with
 | .FunctionDef _ _ b _ _ _ _ _ _ _=>b
 | _=>[]
def zad (s:Stmt):Scope:=match s with
 | .FunctionDef _ _ _ _ _ _ sc _ _ _=>sc
 | _=>{ kind:=.function,names:=[],isGenerator:=false,isCoroutine:=false }
abbrev E0:XK:=λ_ _ _=>False
structure Fun (K:W.Frag) (x qual:Str) (st:Stmt) (f:Addr) (fd:FuncData):Prop where
 ex:∃ (oc:Value) (od:Option Addr) (kV doc pm:Value) (an:Option Addr) (cdv ct:Value) (osl:Array (Option Value)),
  fd=W.fnOf x qual (zaF st) (zaB st) (zad st) .none kV doc pm an cdv ct∧K.lookup f=some ⟨oc,od,.func fd,osl⟩∧W.codeIn K cdv qual=true
 kp:W.keepIn K (.ref f)=true
section
variable {K:W.Frag}
theorem Fun.binds {x qual:Str} {st:Stmt} {f:Addr} {fd:FuncData} {ps:List Str} (F:Fun K x qual st f fd)
  (h:∀ (kV doc pm:Value) (an:Option Addr) (cdv ct:Value) (us:List Value),us.length=ps.length->bindArgs (W.fnOf x qual (zaF st) (zaB st) (zad st) .none kV doc pm an cdv ct) ⟨us,[]⟩=pure (ps.zip us)):zfP K fd ps []:=by
 obtain ⟨oc,od,kV,doc,pm,an,cdv,ct,osl,rfl,lk,hcd⟩:=F.ex
 exact .all (h kV doc pm an cdv ct)
theorem za0 {x qual:Str} {st:Stmt} {f:Addr} {oc:Value} {od an:Option Addr} {osl:Array (Option Value)} {kV doc pm cdv ct:Value} (l:K.lookup f=some ⟨oc,od,.func (W.fnOf x qual (zaF st) (zaB st) (zad st) .none kV doc pm an cdv ct),osl⟩)
  (c:W.codeIn K cdv qual=true) (k:W.keepIn K (.ref f)=true):Fun K x qual st f (W.fnOf x qual (zaF st) (zaB st) (zad st) .none kV doc pm an cdv ct):=⟨⟨oc,od,kV,doc,pm,an,cdv,ct,osl,rfl,l,c⟩,k⟩
end
section
variable {X:Cx}
theorem pv (i:Nat) {x:Str} {pos:Pos} (hN:X.N[i]?=some x:=by rfl) (hv:Vis X.env.scope x:=by first | exact Or.inl rfl | exact Or.inr ⇑0 | exact Or.inr ↥2) (hd:↑54=false:=by decide)
  (hcd:(x == ("__classdict__" :Str))=false:=by decide):PE X (.Name x pos) (zis i):=zpA hN hv hd hcd
end
def Same (H H':Hp):Prop:=∀ b o,H b=some o->H' b=some o
theorem Same.refl (H:Hp):Same H H:=λ_ _ h=>h
theorem Same.trans {H H1 H2:Hp} (a:Same H H1) (b:Same H1 H2):Same H H2:=λc o h=>b c o (a c o h)
theorem Same.free {H H':Hp} (e:Same H H') {l:Addr} (h:H' l=Option.none):H l=Option.none:=by
 cases q:H l with
 | none=>rfl
 | some o =>
  rw [e l o q] at h
  cases h
theorem Same.seq {K:W.Frag} {H H':Hp} {a:Addr} {xs:List V} (e:Same H H') (h:SqL K H a xs):SqL K H' a xs:=by
 rcases h with (h | ⟨o,h⟩) | h
 ·exact .inl (.inl (e _ _ h))
 ·exact .inl (.inr ⟨o,e _ _ h⟩)
 ·exact .inr h
theorem zg7 {env:Env}:∀ (names:List (Str×NameKind)) (acc:List ↑36),(∀ x∈names,x.2=.free->∃ c,env.cells.lookup x.1=some c) →
  ∃ cl:List ↑36,(forIn (m:=Sem) names acc λ(x:Str×NameKind) (cs:List ↑36)=>if (x.2 == NameKind.free)=true then (do let a ← cellOf env x.1;pure (ForInStep.yield ((x.1,a) :: cs))) else pure (ForInStep.yield cs))=pure cl ∧
   (∀ x c,cl.lookup x=some c->acc.lookup x=some c∨env.cells.lookup x=some c)∧(∀ x,((x,NameKind.free)∈names∨∃ c,acc.lookup x=some c)->∃ c,cl.lookup x=some c)
 | [],acc,_=>⟨acc,rfl,λ_ _ h=>.inl h,λx h=>by
   rcases h with h | h
   ·cases h
   ·exact h⟩
 | (n,k) :: r,acc,h=>by
  have hr:∀ x∈r,x.2=.free->∃ c,env.cells.lookup x.1=some c:=λx hx=>h x (List.mem_cons_of_mem _ hx)
  by_cases hk:k=.free
  ·subst hk
   obtain ⟨c,hc⟩:=h (n,.free) List.mem_cons_self rfl
   obtain ⟨cl,e,h1,h2⟩:=zg7 r ((n,c) :: acc) hr
   refine ⟨cl,?_,λx c' q=>?_,λx q=>?_⟩
   ·rw [List.forIn_cons]
    have e1:cellOf env n=pure c:=by unfold cellOf;rw [hc]
    simp only [beq_self_eq_true,if_true,e1]
    exact e
   ·rcases h1 x c' q with z | z
    ·rw [List.lookup_cons] at z
     cases hx:x == n with
     | true =>
      rw [hx] at z
      have z':some c=some c':=z
      cases z'
      have:x=n:=eq_of_beq hx
      subst this
      exact .inr hc
     | false=>rw [hx] at z;exact .inl z
    ·exact .inr z
   ·refine h2 x ?_
    by_cases hx:x=n
    ·subst hx
     exact .inr ⟨c,by rw [List.lookup_cons];simp⟩
    ·rcases q with q | ⟨c',q⟩
     ·rcases List.mem_cons.mp q with q | q
      ·exact absurd (congrArg Prod.fst q) hx
      ·exact .inl q
     ·refine .inr ⟨c',?_⟩
      have:(x == n)=false:=by simpa using hx
      rw [List.lookup_cons,this]
      exact q
  ·obtain ⟨cl,e,h1,h2⟩:=zg7 r acc hr
   refine ⟨cl,?_,h1,λx q=>h2 x ?_⟩
   ·rw [List.forIn_cons]
    have e1:(k == NameKind.free)=false:=by simpa using hk
    simp only [e1,Bool.false_eq_true,if_false]
    exact e
   ·rcases q with q | q
    ·rcases List.mem_cons.mp q with q | q
     ·exact absurd (congrArg Prod.snd q).symm hk
     ·exact .inl q
    ·exact .inr q
theorem zlQ {scope:Scope} {env:Env} (h:∀ x∈scope.names,x.2=.free->∃ c,env.cells.lookup x.1=some c) :
  ∃ cl,closureFor scope env=pure cl∧(∀ x c,cl.lookup x=some c->env.cells.lookup x=some c)∧∀ x,(x,NameKind.free)∈scope.names->∃ c,cl.lookup x=some c:=by
 obtain ⟨cl,e,h1,h2⟩:=zg7 (env:=env) scope.names [] h
 refine ⟨cl,?_,λx c q=>(h1 x c q).elim (λz=>by cases z) id,λx q=>h2 x (.inl q)⟩
 have e2:closureFor scope env=(forIn (m:=Sem) scope.names [] λ(x:Str×NameKind) (cs:List ↑36)=>if (x.2 == NameKind.free)=true then (do let a ← cellOf env x.1;pure (ForInStep.yield ((x.1,a) :: cs))) else pure (ForInStep.yield cs)) >>= λr=>pure r:=by
  unfold closureFor
  rfl
 rw [e2,e]
 rfl
theorem zea {env:Env}:∀ {names:List (Str×NameKind)} {x:Str} {k:NameKind},
  (names.map λ(n,k)=>if (k==NameKind.free && env.scope.kind== .function && env.kindOf n==some .cell) then (n,NameKind.cell) else (n,k)).lookup x=some k →
   names.lookup x=some k∨(k=.cell∧names.lookup x=some .free)
 | [],_,_,h=>by simp at h
 | (n,k') :: r,x,k,h=>by
  have ih:=@zea env r x k
  have h:List.lookup x ((if (k'==NameKind.free && env.scope.kind== .function && env.kindOf n==some .cell)=true then (n,NameKind.cell) else (n,k')) :: _)=some k:=h
  cases hx:x == n with
  | true =>
   by_cases hc:(k'==NameKind.free && env.scope.kind== .function && env.kindOf n==some .cell)=true
   ·rw [if_pos hc] at h
    simp only [List.lookup_cons,hx] at h
    cases h
    simp only [Bool.and_eq_true,beq_iff_eq] at hc
    refine .inr ⟨rfl,?_⟩
    simp [List.lookup_cons,hx,hc.1.1]
   ·rw [if_neg hc] at h
    simp only [List.lookup_cons,hx] at h
    cases h
    exact .inl (by simp [List.lookup_cons,hx])
  | false =>
   have h':(r.map λ(n,k)=>if (k==NameKind.free && env.scope.kind== .function && env.kindOf n==some .cell) then (n,NameKind.cell) else (n,k)).lookup x=some k:=by
    by_cases hc:(k'==NameKind.free && env.scope.kind== .function && env.kindOf n==some .cell)=true
    ·rw [if_pos hc] at h
     simpa only [List.lookup_cons,hx] using h
    ·rw [if_neg hc] at h
     simpa only [List.lookup_cons,hx] using h
   simpa only [List.lookup_cons,hx] using ih h'
theorem zgn:∀ (names:List (Str×NameKind)) (a:Nat) (acc:List ↑36) (x:Str) (c:Addr),((cellsFrom a names acc)).lookup x=some c->((x,NameKind.cell)∈names∧a≤c)∨((x,NameKind.cell) ∉ names∧acc.lookup x=some c)
 | [],_,_,_,_,h=>.inr ⟨by simp,h⟩
 | (n,k) :: r,a,acc,x,c,h=>by
  unfold cellsFrom at h
  by_cases hk:k=.cell
  ·subst hk
   rw [if_pos (by rfl)] at h
   rcases zgn r (a+1) ((n,a) :: acc) x c h with ⟨h1,h2⟩ | ⟨h1,h2⟩
   ·exact .inl ⟨List.mem_cons_of_mem _ h1,Nat.le_of_succ_le h2⟩
   ·rw [List.lookup_cons] at h2
    cases hx:x == n with
    | true =>
     rw [hx] at h2
     have h2:some a=some c:=h2
     cases h2
     rw [eq_of_beq hx]
     exact .inl ⟨List.mem_cons_self,Nat.le_refl _⟩
    | false =>
     rw [hx] at h2
     refine .inr ⟨λz=>?_,h2⟩
     rcases List.mem_cons.mp z with z | z
     ·have:=congrArg Prod.fst z
      have:x=n:=this
      rw [this] at hx
      simp at hx
     ·exact h1 z
  ·have hk':(k == NameKind.cell)=false:=by simpa using hk
   rw [hk',if_neg ⇑5] at h
   rcases zgn r a acc x c h with ⟨h1,h2⟩ | ⟨h1,h2⟩
   ·exact .inl ⟨List.mem_cons_of_mem _ h1,h2⟩
   ·refine .inr ⟨λz=>?_,h2⟩
    rcases List.mem_cons.mp z with z | z
    ·exact hk (congrArg Prod.snd z).symm
    ·exact h1 z
theorem zhQ:∀ (names:List (Str×NameKind)) (a:Nat) (acc:List ↑36) (x:Str),((x,NameKind.cell)∈names∨∃ c,acc.lookup x=some c)->∃ c,((cellsFrom a names acc)).lookup x=some c
 | [],_,_,_,h=>by
  rcases h with h | h
  ·simp at h
  ·exact h
 | (n,k) :: r,a,acc,x,h=>by
  unfold cellsFrom
  by_cases hk:k=.cell
  ·subst hk
   rw [if_pos (by rfl)]
   refine zhQ r (a+1) ((n,a) :: acc) x ?_
   by_cases hx:x=n
   ·subst hx
    exact .inr ⟨a,by rw [List.lookup_cons];simp⟩
   ·rcases h with h | ⟨c,h⟩
    ·rcases List.mem_cons.mp h with h | h
     ·exact absurd (congrArg Prod.fst h) hx
     ·exact .inl h
    ·refine .inr ⟨c,?_⟩
     have:(x == n)=false:=by simpa using hx
     rw [List.lookup_cons,this]
     exact h
  ·have hk':(k == NameKind.cell)=false:=by simpa using hk
   rw [hk',if_neg ⇑5]
   refine zhQ r a acc x ?_
   rcases h with h | h
   ·rcases List.mem_cons.mp h with h | h
    ·exact absurd (congrArg Prod.snd h).symm hk
    ·exact .inl h
   ·exact .inr h
theorem zgW:∀ (names:List (Str×NameKind)) (a:Nat) (acc acc':List ↑36) (x:Str),((x,NameKind.cell)∈names∨acc.lookup x=acc'.lookup x)->((cellsFrom a names acc)).lookup x=(cellsFrom a names acc').lookup x
 | [],_,_,_,_,h=>by
  rcases h with h | h
  ·simp at h
  ·exact h
 | (n,k) :: r,a,acc,acc',x,h=>by
  unfold cellsFrom
  by_cases hk:k=.cell
  ·subst hk
   rw [if_pos (by rfl),if_pos (by rfl)]
   refine zgW r (a+1) _ _ x ?_
   by_cases hx:x=n
   ·subst hx
    exact .inr (by rw [List.lookup_cons,List.lookup_cons];simp)
   ·have hx':(x == n)=false:=by simpa using hx
    rcases h with h | h
    ·rcases List.mem_cons.mp h with h | h
     ·exact absurd (congrArg Prod.fst h) hx
     ·exact .inl h
    ·exact .inr (by rw [List.lookup_cons,List.lookup_cons,hx'];exact h)
  ·have hk':(k == NameKind.cell)=false:=by simpa using hk
   rw [hk',if_neg ⇑5,if_neg ⇑5]
   refine zgW r a _ _ x ?_
   rcases h with h | h
   ·rcases List.mem_cons.mp h with h | h
    ·exact absurd (congrArg Prod.snd h).symm hk
    ·exact .inl h
   ·exact .inr h
theorem zfa {M:Model} {A:Around} {E:Value->Shared->Prop} {s:Shared} {scope:Scope} {globals:Addr} {closure:List ↑36} {qual:Str} {func:Option Addr} {code:Value} {outer:Env} {builtins:Addr} {Q:Env->Shared->Prop}
  (hQ:∀ h',h'.Ns s.heap.objs.size (λ_=>none)->(∀ b o,s.heap.get? b=some o->h'.get? b=some o) →
   (∀ x c,(x,NameKind.cell)∈scope.names->(cellsFrom ↑35 scope.names closure).lookup x=some c->h'.IsCell c none) →
   Q (newEnv scope s.heap.objs.size globals (cellsFrom ↑35 scope.names closure) qual func code (some outer) builtins) { s with heap:=h' }) :
  wpAny M A (newFunctionEnv scope globals closure [] qual func code (some outer) builtins) Q E s:=by
 simp only [newFunctionEnv,Option.isSome_some,if_true]
 refine wpAny_bind (wpAny_alloc ?_)
 refine wpAny_bind (wpAny_layCells _ (λname kind cells=>by cases hkc:kind == NameKind.cell<;>simp [hkc]) _ _ _ _ ?_)
 have ok:=cellsFrom_ok scope.names (s.heap.push { cls:=.type "dict",data:=.dict #[] }) ↑35 [] ⟨λ_ _ hm=>(nomatch hm),List.Pairwise.nil⟩ (by rw [Heap.size_push];exact Nat.le_refl _)
 rw [Heap.size_push] at ok
 rw [show ({ s with heap:=s.heap.push { cls:=.type "dict",data:=.dict #[] } }:Shared).heap.objs.size=s.heap.objs.size+1 from Heap.size_push ..]
 simp only [List.forIn_nil]
 refine wpAny_bind (wpAny_pure (wpAny_pure (hQ _ ((Heap.Ns.new s.heap (.type "dict")).keeps (pushCells_keeps _ _)) (λb o e=>pushCells_keeps _ _ b o (Heap.get?_push_of_some _ e)) λx c hx hc=>?_)))
 rw [zgW _ _ closure [] x (.inl hx)] at hc
 exact (ok.empty x c (PySem.mem_of_lookup hc)).1
def zct (X:Cx) (N':List Str) (scope:Scope) (cl:List ↑36) (C:Addr) (fp:List Addr) (s:Shared) (H:Hp):Cx where
 prog:=X.prog
 w:=X.w
 K:=X.K
 mg:=X.mg
 base:=X.base
 A:=X.A
 N:=N'
 s₀:=s
 H₀:=H
 env:=compEnvC scope cl C X.env
 outer:=X.stack
 stack:=X.stack
 ex:=fp
 fn:=λx=>scope.names.lookup x == some .cell
 calm:=true
 pn:=X.pn
 xe:=λ_ _=>False
def zhO (own:Nat) (fv:List Nat) (σ:St):St:=List.replicate own none++fv.map λi=>(σ[i]?).join
structure BlkScope (X:Cx) (scope:Scope) (own fvn:List Str) (fv:List Nat):Prop where
 cell:∀ y∈scope.names,y.2=.cell->scope.names.lookup y.1=some .cell
 fre:∀ y∈scope.names,y.2=.free->scope.names.lookup y.1=some .free
 kind:scope.kind=.function
 names:∀ y∈scope.names,y.2=.local->scope.names.lookup y.1=some .local
 free:∀ y∈scope.names,y.2=.free->X.env.scope.names.lookup y.1=some .cell∨X.env.scope.names.lookup y.1=some .free
 map:fvn.map some=fv.map λi=>X.N[i]?
 vis:∀ x∈fvn,scope.names.lookup x=some .free
section
variable {X:Cx} {pins:List ⇑2} {σ:St} {H:Hp} {s:Shared}
def zpg (X:Cx) (scope:Scope) (cl:List ↑36) (C:Addr):Prop:=(∀ x c,cl.lookup x=some c->(X.env.cells.lookup x=some c∧scope.names.lookup x≠some .cell)∨(C<c∧scope.names.lookup x=some .cell)) ∧
 (∀ x y c,C<c->cl.lookup x=some c->cl.lookup y=some c->x=y)∧∀ x,((x,NameKind.free)∈scope.names∨(x,NameKind.cell)∈scope.names)->∃ c,cl.lookup x=some c
theorem zrA {scope:Scope} {own fvn:List Str} {fv:List Nat} {cl:List ↑36} {C:Addr} (B:BlkScope X scope own fvn fv) (h1:∀ x c,cl.lookup x=some c->X.env.cells.lookup x=some c) (h2:∀ x,(x,NameKind.free)∈scope.names->∃ c,cl.lookup x=some c)
  (hlt:∀ x c,X.env.cells.lookup x=some c->c≤C):zpg X scope (cellsFrom (C+1) scope.names cl) C:=by
 refine ⟨λx c e=>?_,λx y c hc e1 e2=>?_,λx hx=>?_⟩
 ·rcases zgn _ _ _ _ _ e with ⟨z1,z2⟩ | ⟨z1,z2⟩
  ·exact .inr ⟨z2,B.cell _ z1 rfl⟩
  ·exact .inl ⟨h1 x c z2,λq=>z1 (PySem.mem_of_lookup q)⟩
 ·have key:∀ x,(cellsFrom (C+1) scope.names cl).lookup x=some c->(x,c)∈cellsFrom (C+1) scope.names []:=λx e=>by
   rcases zgn _ _ _ _ _ e with ⟨z1,z2⟩ | ⟨z1,z2⟩
   ·rw [zgW _ _ cl [] x (.inl z1)] at e
    exact PySem.mem_of_lookup e
   ·exact absurd (hlt x c (h1 x c z2)) (Nat.not_le.mpr hc)
  have ap:∀ (names:List (Str×NameKind)) (a:Nat) (acc:List ↑36),(∀ e∈acc,e.2<a)->(acc.Pairwise λx y=>x.2≠y.2)->((cellsFrom a names acc)).Pairwise λx y=>x.2≠y.2:=by
   intro names
   induction names with
   | nil=>intro a acc _ h;exact h
   | cons nk r ih =>
    intro a acc h h'
    obtain ⟨n,k⟩:=nk
    unfold cellsFrom
    split
    ·refine ih (a+1) _ (λe he=>?_) (List.pairwise_cons.mpr ⟨λy hy=>Nat.ne_of_gt (h y hy),h'⟩)
     rcases List.mem_cons.mp he with rfl | he
     ·exact Nat.lt_succ_self _
     ·exact Nat.lt_succ_of_lt (h e he)
    ·exact ih a acc h h'
  exact PySem.name_of_addr (ap scope.names (C+1) [] ⇑5 .nil) (key x e1) (key y e2)
 ·refine zhQ _ _ _ _ ?_
  rcases hx with hx | hx
  ·exact .inr (h2 x hx)
  ·exact .inl hx
theorem zpc {scope:Scope} {own fvn:List Str} {fv:List Nat} {cl:List ↑36} {C:Addr} {fp:List Addr} (I:Inv X pins σ H s) (B:BlkScope X scope own fvn fv) (hc:X.calm=true)
  (hb:zpg X scope cl C)
  (hC:s.heap.objs.size≤C) (hf:∀ b∈fp,zlz X pins H b) (hl:∀ b∈fp,b<s.heap.objs.size):(↑91).Ok where
 mod:=I.ok.mod
 kind:=B.kind
 glob:=I.ok.glob
 blt:=I.ok.blt
 above:=hC
 inj:=λx y c e1 e2=>by
  have lt:∀ z,X.env.cells.lookup z=some c->c<s.heap.objs.size:=λz e=>by obtain ⟨v,q⟩:=I.cell z c e;exact q.lt
  rcases hb.1 x c e1 with ⟨z1,_⟩ | ⟨z1,_⟩
  ·rcases hb.1 y c e2 with ⟨z2,_⟩ | ⟨z2,_⟩
   ·exact I.ok.inj x y c z1 z2
   ·exact absurd (Nat.lt_of_lt_of_le (lt x z1) hC) (Nat.not_lt.mpr (Nat.le_of_lt z2))
  ·exact hb.2.1 x y c z1 e1 e2
 has:=λx hx=>by
  have hx:(↑259).lookup x=some .cell ∨
   (↑259).lookup x=some .free:=hx
  refine hb.2.2 x ?_
  rcases hx with hx | hx
  ·rcases zea hx with z | ⟨_,z⟩
   ·exact .inr (PySem.mem_of_lookup z)
   ·exact .inl (PySem.mem_of_lookup z)
  ·rcases zea hx with z | ⟨z,_⟩
   ·exact .inl (PySem.mem_of_lookup z)
   ·cases z
 cab:=λx c h e=>by
  have h:(scope.names.lookup x == some NameKind.cell)=true:=h
  rcases hb.1 x c e with ⟨_,z⟩ | ⟨z,_⟩
  ·exact absurd (eq_of_beq h) z
  ·exact Nat.le_trans hC (Nat.le_of_lt z)
 hd:=λ_=>I.ok.hd hc
 frames:=I.ok.frames
 stk:=.inl rfl
 exf:=λb hb'=>⟨Nat.ne_of_lt (Nat.lt_of_lt_of_le (hl b hb') hC),λx c e=>by
  rcases hb.1 x c e with ⟨z,_⟩ | ⟨z,_⟩
  ·exact (hf b hb').2.2.2.2.1 x c z
  ·exact Nat.ne_of_gt (Nat.lt_trans (Nat.lt_of_lt_of_le (hl b hb') hC) z)⟩
 bs:=I.bs
 bsz:=Nat.le_trans I.ok.bsz I.sz
 noex:=λb o e hb=>by
  rcases (hf b hb).2.2.2.1 with z | z
  ·exact I.ok.noex b o e z
  ·exact absurd (Nat.lt_of_lt_of_le (Heap.lt_size ((I.ok.bs b o e)).1) z) ↑162
 exfs:=λb hb z=>by
  rcases List.mem_cons.mp (I.stkSub b z) with q | q
  ·exact (hf b hb).2.1 q
  ·exact (hf b hb).2.2.1 q
 funs:=I.stack
 frf:=I.stkFree
theorem zrj {own:List Str} {fvn:List Str} {fv:List Nat} {i:Nat} {x:Str} {v:V} (hm:fvn.map some=fv.map λi=>X.N[i]?) (h1:(own++fvn)[i]?=some x) (h2:((zhO own.length fv σ))[i]?=some (some v)) :
  x∈fvn∧∃ j:Nat,X.N[j]?=some x∧σ[j]?=some (some v):=by
 unfold zhO at h2
 by_cases hi:i<own.length
 ·rw [List.getElem?_append_left ↑63,List.getElem?_replicate] at h2
  split at h2<;>cases h2
 ·rw [List.getElem?_append_right ↑63,List.length_replicate,List.getElem?_map] at h2
  rw [List.getElem?_append_right ↑63] at h1
  have q:(fvn.map some)[i-own.length]?=(fv.map λi=>X.N[i]?)[i-own.length]?:=by rw [hm]
  rw [List.getElem?_map,List.getElem?_map,h1] at q
  cases e:fv[i-own.length]? with
  | none=>rw [e] at h2;cases h2
  | some j =>
   rw [e] at h2 q
   have q':X.N[j]?=some x:=(Option.some.inj q).symm
   have h2':(σ[j]?).join=some v:=Option.some.inj h2
   refine ⟨List.mem_of_getElem? h1,j,q',?_⟩
   cases e2:σ[j]? with
   | none=>rw [e2] at h2';cases h2'
   | some o =>
    rw [e2] at h2'
    have:o=some v:=h2'
    rw [this]
theorem zkV {scope:Scope} {own fvn:List Str} {fv:List Nat} {cl:List ↑36} {C D:Addr} {fp:List Addr} {h':Heap} {t':Nat} {m:Str->Option Value} (I:Inv X pins σ H s) (B:BlkScope X scope own fvn fv) (hc:X.calm=true)
  (hb:zpg X scope cl C) (hnew:∀ x c,C<c->cl.lookup x=some c->h'.IsCell c none)
  (hf:∀ b∈fp,zlz X pins H b) (hl:∀ b∈fp,b<s.heap.objs.size) (hD:s.heap.objs.size≤D) (hC:s.heap.objs.size≤C) (hDC:D<C)
  (k:∀ b o,s.heap.get? b=some o->h'.get? b=some o) (hn:h'.Ns C m) (ho:h'.get? D=some { cls:=.type "list",data:=.seq #[] 0 }) :
  Inv ↑91 pins (zhO own.length fv σ) (upd H D (.lst [])) { s with heap:=h',toks:=t' }:=by
 have hDn:H D=none:=I.hok.fresh hD
 have hCn:H C=none:=I.hok.fresh hC
 have lt:∀ b o,s.heap.get? b=some o->b≠D:=λb o e=>Nat.ne_of_lt (Nat.lt_of_lt_of_le ↑117 hD)
 refine ⟨zpc I B hc hb hC hf hl,rfl,I.bare,Un.laid k hD hDn,⟨m,hn,λi x v e1 e2 e3=>?_⟩,λx c e=>?_,?_,λx c e=>?_,λp hp=>?_,?_,?_⟩
 ·obtain ⟨hx,j,e4,e5⟩:=zrj B.map e1 e2
  have hfr:=B.vis x hx
  obtain ⟨c,hcl⟩:=hb.2.2 x (.inl (PySem.mem_of_lookup hfr))
  have h1x:X.env.cells.lookup x=some c:=by
   rcases hb.1 x c hcl with ⟨z,_⟩ | ⟨_,z⟩
   ·exact z
   ·rw [hfr] at z;cases z
  obtain ⟨m0,hn0,hl0⟩:=I.loc
  have ok:=B.free _ (PySem.mem_of_lookup hfr) rfl
  have hv:Vis X.env.scope x:=by
   rcases ok with z | z
   ·exact .inr (.inl z)
   ·exact .inr (.inr z)
  obtain ⟨u,r,l⟩:=hl0 j x v e4 e5 hv
  refine ⟨u,r,.inr ⟨?_,c,hcl,?_⟩⟩
  ·rcases e3 with z | z | z
   ·have z':(↑259).lookup x=some .local:=z
    rcases zea z' with y | ⟨y,_⟩
    ·rw [hfr] at y;cases y
    ·cases y
   ·exact .inl z
   ·exact .inr z
  ·rcases l with ⟨k0,_⟩ | ⟨_,c',e6,o,ho',hd⟩
   ·have k0':X.env.scope.names.lookup x=some .local:=k0
    rcases ok with z | z<;>(rw [k0'] at z;cases z)
   ·rw [h1x] at e6
    cases e6
    exact ⟨o,k _ _ ho',hd⟩
 ·rcases hb.1 x c e with ⟨z,_⟩ | ⟨z,_⟩
  ·obtain ⟨v,o,ho',hd⟩:=I.cell x c z
   exact ⟨v,o,k _ _ ho',hd⟩
  ·exact ⟨none,hnew x c z e⟩
 ·show upd H D (.lst []) C=none
  rw [zat (Nat.ne_of_gt hDC)];exact hCn
 ·rcases hb.1 x c e with ⟨z,_⟩ | ⟨z,_⟩
  ·obtain ⟨v,o,ho',hd⟩:=I.cell x c z
   rw [zat (lt _ _ ho')]
   exact I.freeC x c z
  ·rw [zat (Nat.ne_of_gt (Nat.lt_trans hDC z))]
   exact I.hok.fresh (Nat.le_trans hC (Nat.le_of_lt z))
 ·obtain ⟨e,n,ne,nf,d⟩:=I.pin p hp
  refine ⟨k _ _ e,?_,Nat.ne_of_lt (Nat.lt_of_lt_of_le ↑117 hC),λz=>?_,d⟩
  ·rw [zat (lt _ _ e)];exact n
  ·rcases List.mem_cons.mp (I.stkSub _ z) with q | q
   ·exact ne q
   ·exact nf q
 ·exact I.hok.laid k hD ⟨Nat.zero_le _,[],0,.nil,ho⟩
 ·have hm:=congrArg List.length B.map
  rw [List.length_map,List.length_map] at hm
  show ((zhO own.length fv σ)).length=(own++fvn).length
  unfold zhO
  rw [List.length_append,List.length_append,List.length_replicate,List.length_map,hm]
theorem zmy {scope:Scope} {N':List Str} {cl:List ↑36} {C:Addr} {fp:List Addr} {σ':St} {H':Hp} {s':Shared} (I:Inv X pins σ H s) (hC:s.heap.objs.size≤C) (hf:∀ b∈fp,zlz X pins H b)
  (J:Inv (zct X N' scope cl C fp s H) pins σ' H' s'):Inv X pins σ H' s'∧zlz X pins H' C:=by
 have I':Inv X pins σ H' s':=I.call' (ch:=fp) J.os J.base J.hok J.bare λb hb=>⟨(hf b hb).2.2.2.1,(hf b hb).2.1,(hf b hb).2.2.2.2.1,(hf b hb).2.2.2.2.2⟩
 refine ⟨I',J.free,Nat.ne_of_gt (Nat.lt_of_lt_of_le I.lt hC),I.nofs hC,.inr (Nat.le_trans I.sz hC),λx c e z=>?_,λp hp z=>?_⟩
 ·obtain ⟨v,q⟩:=I.cell x c e
  exact absurd (Nat.lt_of_lt_of_le q.lt (by rw [z];exact hC)) ↑162
 ·exact absurd (Nat.lt_of_lt_of_le (Heap.lt_size (I.pin p hp).1) (by rw [z];exact hC)) ↑162
end
section
variable {prog:Program} {w:World} {A:Around} {R:Result->Shared->Prop} {s:Shared}
theorem zm5 {elt target iter:Expr} {ifs:List Expr} {scope:Scope} {pos:Pos} {it acc:Value} {env:Env} (I:Nat->Shared->Prop)
  (turn:∀ n s,I n s->wpAny ↑27 A (pyNext it) (λr s₁=>match r with
   | none=>R (.ok .next) s₁
   | some v=>wpAny ↑27 A (letOwnedTupleGo target it v) (λ_ s₁'=>wpAny ↑27 A (assign target env v) (λ_ s₂ =>
     wpAny ↑27 A (forIn ifs true λc r=>if r=true then do let ok ← isTrue c env (eval c env);pure (ForInStep.yield ok) else pure (ForInStep.yield r)) (λok s₃ =>
      if ok=true then wpAny ↑27 A (eval elt env) (λx s₄ =>
       wpAny ↑27 A (call (.builtin "list.append") [acc,x]) (λ_ s₅=>∃ m,m<n∧I m s₅) (λ_ _=>False) s₄) (λ_ _=>False) s₃
      else ∃ m,m<n∧I m s₃) (λ_ _=>False) s₂) (λ_ _=>False) s₁') (λ_ _=>False) s₁) (λ_ _=>False) s)
  (n:Nat) (h:I n s) :
  codeAny ↑27 A (.compLoop (.ListComp elt [⟨target,iter,ifs,0⟩] scope pos) 0 it acc env) R s:=by
 refine codeAny_loop rfl I (λn s hI=>?_) n h
 show wpAny _ A ((compTurn (.ListComp elt [⟨target,iter,ifs,0⟩] scope pos) 0 it acc env).onRaise (λx=>do noteFrame x env;theTreesLotGoes x)) _ _ s
 refine wpAny_noted ?_
 rw [compTurn_list]
 refine wpAny_bind (wpAny_standAt (wpAny_bind (wpAny_mono (turn n s hI) (λr s₁ h₁=>?_) λ_ _ h'=>h'.elim)))
 cases r with
 | none=>exact wpAny_pure h₁
 | some v =>
  refine wpAny_bind (wpAny_mono h₁ (λ_ s₁' h₁'=>?_) λ_ _ h'=>h'.elim)
  refine wpAny_bind (wpAny_mono h₁' (λ_ s₂ h₂=>wpAny_bind (wpAny_mono h₂ (λok s₃ h₃=>?_) λ_ _ h'=>h'.elim)) λ_ _ h'=>h'.elim)
  cases ok with
  | false=>exact wpAny_pure ⟨rfl,h₃⟩
  | true =>
   exact wpAny_bind (wpAny_bind (wpAny_mono h₃ (λx s₄ h₄=>wpAny_bind (wpAny_mono h₄ (λ_ s₅ h₅=>wpAny_pure (wpAny_pure ⟨rfl,h₅⟩)) λ_ _ h'=>h'.elim)) λ_ _ h'=>h'.elim))
end
abbrev TTs:=St->Hp->(Bool->Hp->Prop)->Prop
def PTs (X:Cx) (ifs:List Expr) (t:TTs):Prop :=
 ∀ (pins:List ⇑2) (s:Shared) (σ:St) (H:Hp) (Q:Bool->Hp->Prop),Inv X pins σ H s->t σ H Q →
  wpAny ↑3 X.A (forIn ifs true λc r=>if r=true then do let ok ← isTrue c X.env (eval c X.env);pure (ForInStep.yield ok) else pure (ForInStep.yield r)) (TP X pins σ Q) X.xe s
def zo6:TTs:=λ_ H Q=>Q true H
theorem za5 {X:Cx}:PTs X [] zo6:=λ_ _ _ H _ I h=>wpAny_tests_nil ⟨H,I,h⟩
theorem zqI {X:Cx} {c:Expr} {t:TT} (h:PT X c t):PTs X [c] t:=λpins s σ H Q I hw=>wpAny_tests_one (h pins s σ H Q I hw)
def zmC (own:Nat) (fv:List Nat) (wi:TI) (g:TG) (tt:TTs) (te:TE):TE:=λσ H Q=>wi σ H λJ H1=>∀ D,H1 D=none →
 ∃ W:Nat->Nat->List V->St->Hp->Prop,(∃ m,W 0 m [] (zhO own fv σ) (upd H1 D (.lst [])))∧∀ i m ys σb H,W i m ys σb H->H D=some (.lst ys) ∧
  ((J.stop i H∧Q (.ref D) H)∨(J.go i H∧∀ x H',J.yld i H x H'->g x σb H' λσ2 H2=>tt σ2 H2 λok H3=>if ok=true then te σ2 H3 λy H4=>H4 D=some (.lst ys)∧ys.length<sizeLine∧∃ m',m'<m∧W (i+1) m' (ys++[y]) σ2 (upd H4 D (.lst (ys++[y])))
   else ∃ m',m'<m∧W (i+1) m' ys σ2 H3))
section
variable {X:Cx} {tg iter elt:Expr} {ifs:List Expr} {scope:Scope} {pos:Pos} {wi:TI} {g:TG} {tt:TTs} {te:TE} {own fvn:List Str} {fv:List Nat}
theorem zlH {pins:List ⇑2} {σ:St} {s:Shared} {Q:VK} {E:Value->Shared->Prop} {cl:List ↑36} {RR:Value->Addr->Result->Shared->Prop} {itv:Value}
  (hc:X.calm=true) (B:BlkScope X scope own fvn fv) (h1:∀ x c,cl.lookup x=some c->X.env.cells.lookup x=some c) (h2:∀ x,(x,NameKind.free)∈scope.names->∃ c,cl.lookup x=some c)
  (hb:∀ (cl:List ↑36) (C:Addr) (fp:List Addr) (s:Shared) (H:Hp),PG ↑91 tg g∧PTs ↑91 ifs tt∧PE ↑91 elt te)
  (P:PIE X pins σ tg (λJ H1=>∀ D,H1 D=none →
   ∃ W:Nat->Nat->List V->St->Hp->Prop,(∃ m,W 0 m [] (zhO own.length fv σ) (upd H1 D (.lst [])))∧∀ i m ys σb H,W i m ys σb H->H D=some (.lst ys) ∧
    ((J.stop i H∧Q (.ref D) H)∨(J.go i H∧∀ x H',J.yld i H x H'->g x σb H' λσ2 H2=>tt σ2 H2 λok H3=>if ok=true then te σ2 H3 λy H4=>H4 D=some (.lst ys)∧ys.length<sizeLine∧∃ m',m'<m∧W (i+1) m' (ys++[y]) σ2 (upd H4 D (.lst (ys++[y])))
     else ∃ m',m'<m∧W (i+1) m' ys σ2 H3))) itv s)
  (hRR:∀ D C s' H' m,Inv X pins σ H' s'->s'.heap.Ns C m->zlz X pins H' C->Q (.ref D) H'->RR (.ref D) C (.ok .next) s') :
  wpAny ↑3 X.A (newList []) (λacc s₃=>wpAny ↑3 X.A (newFunctionEnv scope X.env.globals cl [] X.env.qual none .none (some X.env)) (λcenv s₄ =>
   codeAny ↑3 X.A (.compStart ↑186 0 itv acc { cenv with scope:=relabel scope X.env }) (RR acc cenv.locals) s₄) E s₃) E s:=by
 obtain ⟨it,fp,tn,J,H2,rfl,I2,T,st2,f2,hW⟩:=P
 have hl:∀ b∈fp,b<s.heap.objs.size:=λb hb=>by
  obtain ⟨o,e,_⟩:=T.obj _ _ st2 b hb
  exact Heap.lt_size e
 refine wpAny_newObj_type (zfa (λh₁ hns₁ hsb₁ hcl₁=>?_))
 dsimp only at hns₁ hsb₁ hcl₁ ⊢
 generalize hH2:s.heap.push { cls:=.type "list",dict:=none,data:=.seq ([]:List Value).toArray }=G2 at hns₁ hsb₁ hcl₁ ⊢
 have hC:G2.objs.size=s.heap.objs.size+1:=by rw [← hH2,Heap.size_push]
 have hDC:s.heap.objs.size<G2.objs.size:=by rw [hC];exact Nat.lt_succ_self _
 have hCle:s.heap.objs.size≤G2.objs.size:=by rw [hC];exact Nat.le_succ _
 have old:∀ b o,s.heap.get? b=some o->h₁.get? b=some o:=λb o e=>hsb₁ b o (hH2 ▸ Heap.get?_push_of_some _ e)
 have hacc:h₁.get? s.heap.objs.size=some { cls:=.type "list",data:=.seq #[] 0 }:=hsb₁ _ _ (hH2 ▸ Heap.get?_push_size _ rfl)
 have hbc:zpg X scope (cellsFrom (G2.objs.size+1) scope.names cl) G2.objs.size:=zrA B h1 h2 λx c e=>by
  obtain ⟨v,q⟩:=I2.cell x c e
  exact Nat.le_trans (Nat.le_of_lt q.lt) hCle
 have hnew:∀ x c,G2.objs.size<c->((cellsFrom (G2.objs.size+1) scope.names cl)).lookup x=some c->h₁.IsCell c none:=λx c hc' e=>by
  rcases hbc.1 x c e with ⟨z,_⟩ | ⟨_,z⟩
  ·obtain ⟨v,q⟩:=I2.cell x c z
   exact absurd (Nat.lt_of_lt_of_le q.lt hCle) (Nat.not_lt.mpr (Nat.le_of_lt hc'))
  ·exact hcl₁ x c (PySem.mem_of_lookup z) e
 generalize cellsFrom (G2.objs.size+1) scope.names cl=cl' at hbc hnew ⊢
 clear h1 h2 hcl₁
 obtain ⟨W,⟨m0,w0⟩,turn⟩:=hW s.heap.objs.size (I2.hok.fresh ↥8)
 have J0:∀ t',Inv ↑166 pins (zhO own.length fv σ) (upd H2 s.heap.objs.size (.lst [])) { s with heap:=h₁,toks:=t' }:=λt' =>
  zkV I2 B hc hbc hnew f2 hl ↥8 hCle hDC old hns₁ hacc
 obtain ⟨hpg,hpt,hpe⟩:=hb cl' G2.objs.size fp s H2
 have stat:∀ {H':Hp},(∀b∈fp,H' b=none)->∀ b∈fp,zlz ↑166 pins H' b:=λhn b hb =>
  ⟨hn b hb,Nat.ne_of_lt (Nat.lt_of_lt_of_le (hl b hb) hCle),λz=>by
   rcases List.mem_cons.mp (I2.stkSub b z) with q | q
   ·exact (f2 b hb).2.1 q
   ·exact (f2 b hb).2.2.1 q,.inl hb,λx c e=>(by
    rcases hbc.1 x c e with ⟨z,_⟩ | ⟨z,_⟩
    ·exact (f2 b hb).2.2.2.2.1 x c z
    ·exact Nat.ne_of_gt (Nat.lt_trans (Nat.lt_of_lt_of_le (hl b hb) hCle) z)),(f2 b hb).2.2.2.2.2⟩
 have st1:tn 0 h₁:=T.keep _ _ _ st2 λb hb o e=>old b o e
 have fr1:∀ b∈fp,upd H2 s.heap.objs.size (.lst []) b=none:=λb hb=>by
  rw [zat (Nat.ne_of_lt (hl b hb))];exact (f2 b hb).1
 have loop:∀ s₃:Shared,s₃={ s with heap:=h₁ } →
   codeAny ↑3 X.A (.compLoop ↑186 0 (.ref it) (.ref s.heap.objs.size) (compEnvC scope cl' G2.objs.size X.env)) (RR (.ref s.heap.objs.size) G2.objs.size) s₃:=by
  rintro s₃ rfl
  refine zm5 (λn s'=>∃ i ys σ' H',Inv ↑166 pins σ' H' s'∧tn i s'.heap∧(∀b∈fp,H' b=none)∧W i n ys σ' H') ?_ m0 ⟨0,[],_,_,J0 s.toks,st1,fr1,w0⟩
  rintro n s3 ⟨i,ys,σ3,H3,I3,st3,fr3,w3⟩
  obtain ⟨hD,w3⟩:=turn i n ys σ3 H3 w3
  rcases w3 with ⟨stop,qn⟩ | ⟨go,step⟩
  ·refine thn (T.done ↑166 rfl rfl rfl rfl i pins s3 σ3 H3 _ I3 (stat fr3) st3 stop) λr s4 ⟨hr,I4⟩=>?_
   subst hr
   obtain ⟨I5,fC⟩:=zmy I2 hCle f2 I4
   obtain ⟨m,hn,_⟩:=I4.loc
   exact hRR _ _ s4 H3 m I5 hn fC qn
  ·refine thn (T.item ↑166 rfl rfl rfl rfl i pins s3 σ3 H3 _ I3 (stat fr3) st3 go) λr s4 ⟨u,hr,h4⟩=>?_
   subst hr
   refine thn h4 λ_ s5 ⟨x,H5,I5,r5,y5,st5,fr5⟩=>?_
   have I5':=I5.pinned (stat fr5) (T.obj _ _ st5)
   refine thn (hpg _ s5 σ3 H5 x u _ I5' r5 (step x H5 y5)) λ_ s6 ⟨σ6,H6,I6,q6⟩=>?_
   refine thn (hpt _ s6 σ6 H6 _ I6 q6) λok s7 ⟨H7,I7,q7⟩=>?_
   have again:∀ {s8:Shared} {σ8:St} {H8:Hp} {ys':List V} {m':Nat},Inv ↑166 (pins++zjS fp s5.heap) σ8 H8 s8->m'<n->W (i+1) m' ys' σ8 H8 →
     ∃ m,m<n∧∃ i ys σ' H',Inv ↑166 pins σ' H' s8∧tn i s8.heap∧(∀b∈fp,H' b=none)∧W i m ys σ' H':=λ{s8 σ8 H8 ys' m'} I8 hm w8=>by
    refine ⟨m',hm,i+1,ys',σ8,H8,I8.unpinned,T.keep _ _ _ st5 λb hb o e=>(I8.pin (b,o) ↑248).1,λb hb=>?_,w8⟩
    obtain ⟨o,e,d⟩:=T.obj _ _ st5 b hb
    exact (I8.pin (b,o) ↑248).2.1
   cases ok with
   | false =>
    rw [if_neg Bool.false_ne_true] at q7 ⊢
    obtain ⟨m',hm,w8⟩:=q7
    exact again I7 hm w8
   | true =>
    rw [if_pos rfl] at q7 ⊢
    refine thn (hpe _ s7 σ6 H7 _ I7 q7) λyv s8 ⟨y,H8,I8,r8,hD8,hz8,m',hm,w8⟩=>?_
    refine thn (zjZ _ s8 σ6 H8 (.ref s.heap.objs.size) [y] _ [yv] (λ_ H9=>H9=upd H8 s.heap.objs.size (.lst (ys++[y]))) I8 rfl (.cons r8 .nil) ⟨_,ys,y,rfl,rfl,hD8,hz8,rfl⟩) λ_ s9 ⟨_,H9,I9,_,e9⟩=>?_
    subst e9
    exact again I9 hm w8
 exact codeAny_compStart_list (loop _ rfl) (T.self _ 0 _ _ _ st1 (loop _ rfl))
theorem zig (B:BlkScope X scope own fvn fv) (ok:X.Ok):∃ cl,closureFor scope X.env=pure cl∧(∀ x c,cl.lookup x=some c->X.env.cells.lookup x=some c)∧∀ x,(x,NameKind.free)∈scope.names->∃ c,cl.lookup x=some c :=
 zlQ λx hx hk=>ok.has x.1 (B.free x hx hk)
theorem zbG (hc:X.calm=true) (B:BlkScope X scope own fvn fv) (hi:PI X tg iter wi)
  (hb:∀ (cl:List ↑36) (C:Addr) (fp:List Addr) (s:Shared) (H:Hp),PG ↑91 tg g∧PTs ↑91 ifs tt∧PE ↑91 elt te)
  (hs:∀ x,foldedSetIterable iter X.env x=pure x:=by intro _;rfl):PE X ↑186 (zmC own.length fv wi g tt te):=by
 intro pins s σ H Q I h
 obtain ⟨cl,hcl,h1,h2⟩:=zig B I.ok
 rw [eval_ListComp]
 refine wpAny_comprehension_free (use:=none) rfl hs hcl B.kind B.names (thn (hi pins s σ H _ I h) λv s1 q1=>thn q1 λitv s2 q2=> ?_)
 refine zlH (RR:=λacc C=>compPost ↑3 X.A X.xe none ↑65 acc C) hc B h1 h2 hb q2 λD C s' H' m I' hn fC q=>?_
 exact ⟨m,hn,λh' hs'=>⟨.ref D,H',I'.turned (t':=s'.toks) (λb o hb e=>(hs'.2 b hb).trans e) fC.1 fC.2.1 fC.2.2.2.1 fC.2.2.2.2.1 fC.2.2.2.2.2,rfl,q⟩⟩
theorem zeI {i:Nat} {x:Str} {pos' spos:Pos} (hc:X.calm=true) (hN:X.N.Nodup) (hix:X.N[i]?=some x) (hx:X.env.scope.names.lookup x=some .local) (B:BlkScope X scope own fvn fv) (hi:PI X tg iter wi)
  (hb:∀ (cl:List ↑36) (C:Addr) (fp:List Addr) (s:Shared) (H:Hp),PG ↑91 tg g∧PTs ↑91 ifs tt∧PE ↑91 elt te)
  (hsw:swapsWith ↑186 (some (.Name x pos')) spos.line X.env=pure true:=by rfl)
  (hs:∀ x,foldedSetIterable iter X.env x=pure x:=by intro _;rfl) :
  PS X (.Assign [.Name x pos'] ↑186 spos) (zjR (zmC own.length fv wi g tt te) (zd8 i)):=by
 intro pins s σ H D I h
 obtain ⟨cl,hcl,h1,h2⟩:=zig B I.ok
 rw [exec_Assign_Name_used _ _ _ _ hsw]
 refine wpAny_bind (wpAny_standAt (wpAny_bind ?_))
 show wpAny _ _ (do let _ ← comprehension ↑186 scope X.env _ (newList []) false (eval iter X.env) (some (assign (.Name x pos') X.env))) _ _ s
 refine wpAny_bind (wpAny_mono (wpAny_comprehension_free (use:=some (assign (.Name x pos') X.env)) (Q:=λ_ s'=>SP X pins D .next s') rfl hs hcl B.kind B.names
  (thn (hi pins s σ H _ I h) λv s1 q1=>thn q1 λitv s2 q2=> ?_)) (λ_ s' hq=>wpAny_pure (wpAny_pure hq)) λ_ _ e=>e)
 refine zlH (Q:=λv H1=>zd8 i v σ H1 D.nx) (RR:=λacc C=>compPost ↑3 X.A X.xe (some (assign (.Name x pos') X.env)) (λ_ s'=>SP X pins D .next s') acc C) hc B h1 h2 hb q2 λDa C s' H' m I' hn fC q=>?_
 show wpAny _ _ (assign (.Name x pos') X.env (.ref Da)) _ _ _
 refine wpAny_assign_Name (zjB I' hN hix (.inl hx) (v:=.ref Da) rfl (λs'' I'' ⟨a,hsb,ha⟩=>?_) (.inr hx))
 have hCa:C≠a:=by
  rcases ha with z | z
  ·rw [z];exact fC.2.1
  ·exact Ne.symm (fC.2.2.2.2.1 x a z)
 refine ⟨m,hn.sameBut hsb hCa,λh'' hs''=>⟨_,H',I''.turned (t':=s''.toks) (λb o hb e=>(hs''.2 b hb).trans e) fC.1 fC.2.1 fC.2.2.2.1 fC.2.2.2.2.1 fC.2.2.2.2.2,q⟩⟩
end
section
variable {X:Cx} {pins:List ⇑2} {σ:St} {H:Hp} {s:Shared} {h':Heap}
theorem Inv.turnedNew {t':Nat} {ch:List Addr} {T:Addr} {o:HO} (I:Inv X pins σ H s) (hf:∀ b∈ch,zlz X pins H b) (k:∀ b u,b ∉ ch->s.heap.get? b=some u->h'.get? b=some u) (hT:s.heap.objs.size≤T)
  (new:zen X.prog X.w (upd H T o) h' T o):Inv X pins σ (upd H T o) { s with heap:=h',toks:=t' }:=by
 have hn:H T=none:=I.hok.fresh hT
 have lt:∀ b u,s.heap.get? b=some u->b≠T:=λb u e=>Nat.ne_of_lt (Nat.lt_of_lt_of_le ↑117 hT)
 refine I.step (g':=s.gens) (d':=s.drawn) (ch:=ch) (λb hb=>⟨(hf b hb).2.2.2.1,(hf b hb).2.1,(hf b hb).2.2.2.2.1,(hf b hb).2.2.2.2.2⟩) (λb u _ _ hc e _=>k b u hc e) (λb u _ _ hc e _=>⟨u.slots,k b u hc e⟩)
  (λb u _ e n=>by rw [zat (lt b u e)];exact n) (λb u hc e=>⟨u,k b u hc e⟩) (λb xs e=>by rw [zat (zaY e hn)];exact e) (λb u xs e=>by rw [zat (zaY e hn)];exact e)
  (λb ps e=>⟨#[],by rw [zat (zaY e hn),e];simp⟩) (λm hm=>?_) (λb u e=>?_) I.bare
 ·obtain ⟨o,es,ep,ho,r⟩:=hm
  exact ⟨o,es,ep,k _ o (λz=>(hf _ z).2.1 rfl) ho,r⟩
 ·by_cases hb:b=T
  ·subst hb;rw [zaE] at e;cases e;exact new
  ·rw [zat hb] at e
   refine (I.hok b u e).stay (λc v hc q=>k c v (λz=>?_) q) (λc q=>by rw [zat (zaY q hn)];exact q) λc xs q=>by rw [zat (zaY q hn)];exact q
   have z':=(hf c z).1
   rcases hc with hc | hc
   ·rw [hc,e] at z';cases z'
   ·rw [hc] at z';cases z'
theorem Inv.turnedL {t':Nat} {ch:List Addr} (I:Inv X pins σ H s) (hf:∀ b∈ch,zlz X pins H b) (k:∀ b u,b ∉ ch->s.heap.get? b=some u->h'.get? b=some u):Inv X pins σ H { s with heap:=h',toks:=t' }:=by
 refine I.step (g':=s.gens) (d':=s.drawn) (ch:=ch) (λb hb=>⟨(hf b hb).2.2.2.1,(hf b hb).2.1,(hf b hb).2.2.2.2.1,(hf b hb).2.2.2.2.2⟩) (λb u _ _ hc e _=>k b u hc e) (λb u _ _ hc e _=>⟨u.slots,k b u hc e⟩)
  (λb u _ e n=>n) (λb u hc e=>⟨u,k b u hc e⟩) (λb xs e=>e) (λb u xs e=>e) (λb ps e=>⟨#[],by rw [e];simp⟩) (λm hm=>?_) (λb u e=>?_) I.bare
 ·obtain ⟨o,es,ep,ho,r⟩:=hm
  exact ⟨o,es,ep,k _ o (λz=>(hf _ z).2.1 rfl) ho,r⟩
 ·refine (I.hok b u e).stay (λc v hc q=>k c v (λz=>?_) q) (λc q=>q) λc xs q=>q
  have z':=(hf c z).1
  rcases hc with hc | hc
  ·rw [hc,e] at z';cases z'
  ·rw [hc] at z';cases z'
end
def Itz (K:W.Frag) (a b:Addr):It :=
 ⟨λi H=>∃ xs ys x y,SqL K H a xs∧SqL K H b ys∧xs[i]?=some x∧ys[i]?=some y,
  λi H v H'=>∃ p x y,v=.ref p∧H p=none∧H'=upd H p (.tup [x,y])∧∀ xs ys,SqL K H a xs->SqL K H b ys->xs[i]?=some x∧ys[i]?=some y,
  λi H=>∃ xs ys,SqL K H a xs∧SqL K H b ys∧(xs.length≤i∨ys.length≤i)⟩
theorem zoX {P:Program} {w:World} {K:W.Frag} {elts:List Expr} {x1:Nat} {tp:Pos} {a b z TI TO i1 i2:Addr} (D:ZipApart z TI TO i1 i2 a b) :
  Turn P w K (.Tuple elts x1 tp) (Itz K a b) [z,TI,TO,i1,i2] z
   (λi h=>IsZip h z TI TO .none∧IsPair h TI (.ref i1) (.ref i2)∧(∃ p q,IsPair h TO p q)∧h.IsListIter i1 a i∧h.IsListIter i2 b i) where
 mem:=by simp
 obj:=λi h st c hc=>by
  obtain ⟨hz,hTI,⟨p,q,hTO⟩,⟨o1,e1,_,d1⟩,⟨o2,e2,_,d2⟩⟩:=st
  simp only [List.mem_cons,List.not_mem_nil,or_false] at hc
  rcases hc with rfl | rfl | rfl | rfl | rfl
  ·exact ⟨_,hz,λv z=>by cases z⟩
  ·exact ⟨_,hTI,λv z=>by cases z⟩
  ·exact ⟨_,hTO,λv z=>by cases z⟩
  ·exact ⟨o1,e1,λv z=>by rw [d1] at z;cases z⟩
  ·exact ⟨o2,e2,λv z=>by rw [d2] at z;cases z⟩
 keep:=λi h h' st k=>by
  obtain ⟨hz,hTI,⟨p,q,hTO⟩,h1,h2⟩:=st
  exact ⟨k z ⇑5 _ hz,k TI ⇑5 _ hTI,⟨p,q,k TO ⇑5 _ hTO⟩,h1.at λo e=>k i1 ⇑5 o e,h2.at λo e=>k i2 ⇑5 o e⟩
 item:=by
  intro X hP hw hK hc i pins s σ H E I hf st hg
  subst hP hw hK
  obtain ⟨xs,ys,x,y,hxs,hys,hx,hy⟩:=hg
  obtain ⟨itx,rx,px,hzx⟩:=I.list hxs
  obtain ⟨ity,ry,py,hzy⟩:=I.list hys
  obtain ⟨u,hu,ru⟩:=rx.get hx
  obtain ⟨v,hv,rv⟩:=ry.get hy
  obtain ⟨hz,hTI,⟨p,q,hTO⟩,h1,h2⟩:=st
  refine wpAny_pyNext_zip_item (x:=u) (y:=v) D hz hTI hTO h1 h2 px.isList py.isList (by simpa using hu) (by simpa using hv) λh' a1 a2 a3 a4 a5 a6 hk=>?_
  refine ⟨_,rfl,wpAny_letOwnedTupleGo_zip a1 λh'' b1 b2=>?_⟩
  have zlt:z<s.heap.objs.size:=Heap.lt_size hz
  have lt:∀ c∈[z,TI,TO,i1,i2],c<s.heap.objs.size:=λc hc=>by
   simp only [List.mem_cons,List.not_mem_nil,or_false] at hc
   rcases hc with rfl | rfl | rfl | rfl | rfl
   ·exact zlt
   ·exact Heap.lt_size hTI
   ·exact Heap.lt_size hTO
   ·obtain ⟨_,e,_⟩:=h1;exact Heap.lt_size e
   ·obtain ⟨_,e,_⟩:=h2;exact Heap.lt_size e
  have tup:IsPair h'' s.heap.objs.size u v:=b2.extBut _ _ (Nat.ne_of_gt zlt) a5
  have I1:Inv X pins σ (upd H s.heap.objs.size (.tup [x,y])) { s with heap:=h'' }:=by
   refine I.turnedNew (t':=s.toks) (ch:=[z,TO,i1,i2]) (λc hc=>hf c ?_) (λc ob hc e=>?_) ↥8 ?_
   ·simp only [List.mem_cons,List.not_mem_nil,or_false] at hc ⊢
    rcases hc with z | z | z | z<;>simp [z]
   ·simp only [List.mem_cons,List.not_mem_nil,or_false,not_or] at hc
    exact b2.extBut _ _ hc.1 (hk c ob hc.1 hc.2.1 hc.2.2.1 hc.2.2.2 e)
   ·exact ⟨by show 2≤sizeLine;decide,[u,v],.cons ru (.cons rv .nil),⟨_,tup,rfl,_,rfl⟩⟩
  refine ⟨.ref s.heap.objs.size,_,I1,rfl,⟨_,x,y,rfl,I.hok.fresh ↥8,rfl,λxs' ys' q1 q2=>?_⟩,⟨b1,?_,⟨_,_,b2.extBut _ _ D.TOz a2⟩,a3.extBut b2.extBut D.i1z,a4.extBut b2.extBut D.i2z⟩,λc hc=>?_⟩
  ·rw [I.list_inj q1 hxs,I.list_inj q2 hys];exact ⟨hx,hy⟩
  ·exact b2.extBut _ _ D.TIz (hk _ _ D.TIz D.TITO D.TIi1 D.TIi2 hTI)
  ·rw [zat (Nat.ne_of_lt (lt c hc))];exact (hf c hc).1
 done:=by
  intro X hP hw hK hc i pins s σ H E I hf st hg
  subst hP hw hK
  obtain ⟨xs,ys,hxs,hys,hend⟩:=hg
  obtain ⟨itx,rx,px,hzx⟩:=I.list hxs
  obtain ⟨ity,ry,py,hzy⟩:=I.list hys
  obtain ⟨hz,hTI,⟨p,q,hTO⟩,h1,h2⟩:=st
  have lx:=rx.length
  have ly:=ry.length
  refine wpAny_pyNext_zip_end (I.ok.hd hc) D hz hTI hTO h1 h2 px.isList py.isList ?_ λh' hk=>⟨rfl,?_⟩
  ·rcases hend with e | e
   ·exact .inl ↑75
   ·exact .inr ↑75
  ·refine I.turnedL (t':=s.toks) (ch:=[z,TO,i1,i2]) (λc hc=>hf c ?_) (λc ob hc e=>?_)
   ·simp only [List.mem_cons,List.not_mem_nil,or_false] at hc ⊢
    rcases hc with z | z | z | z<;>simp [z]
   ·simp only [List.mem_cons,List.not_mem_nil,or_false,not_or] at hc
    exact hk c ob hc.1 hc.2.1 hc.2.2.1 hc.2.2.2 e
 self:=λ_ _ _ _ _ st h=>wpAny_pyIter_zip st.1 h
section
variable {X:Cx}
def zuc (K:W.Frag) (ta:TA):TI:=λσ H R=>ta σ H λvs H1=>∃ a b,vs=[.ref a,.ref b]∧(∃ xs,SqL K H1 a xs)∧(∃ ys,SqL K H1 b ys)∧R (Itz K a b) H1
theorem zsI {a b:Expr} {ta:TA} {p pos tp:Pos} {elts:List Expr} {x1:Nat} (hg:Gl X "zip") (hm:X.mg "zip"=none) (ha:PA X [a,b] ta) (hs:starEach [a,b] X.env=[(false,eval a X.env),(false,eval b X.env)]:=by rfl) (hs2:starEach [b] X.env=[(false,eval b X.env)]:=by rfl) :
  PI X (.Tuple elts x1 tp) (.Call (.Name "zip" p) [a,b] [] pos) (zuc X.K ta):=by
 intro pins s σ H R I h
 refine Call_ (zhT I hg hm boot_zip (PyProof.Rows.callWith_type1 (thn ↑145 λus s1 ⟨vs,H1,I1,r1,q1⟩=> ?_) (by rw [hs,hs2]) (by rw [hs2];rfl)))
 obtain ⟨l1,l2,e,⟨xs,hx⟩,⟨ys,hy⟩,q⟩:=q1
 subst e
 cases r1 with
 | cons r rr =>
  cases rr with
  | cons r' rr =>
   cases rr
   cases r
   cases r'
   obtain ⟨itx,rx,px,hzx⟩:=I1.list hx
   obtain ⟨ity,ry,py,hzy⟩:=I1.list hy
   have lt1:@LT.lt Nat _ l1 s1.heap.objs.size:=by obtain ⟨o,e,_⟩:=px.isList;exact Heap.lt_size e
   have lt2:@LT.lt Nat _ l2 s1.heap.objs.size:=by obtain ⟨o,e,_⟩:=py.isList;exact Heap.lt_size e
   refine call_zip_2 px.isList py.isList λh' hz hTI hTO h1 h2 hsz hk=>?_
   refine wpAny_pyIter_zip hz ?_
   have D:ZipApart (s1.heap.objs.size+4) (s1.heap.objs.size+2) (s1.heap.objs.size+3) s1.heap.objs.size (s1.heap.objs.size+1) l1 l2:=by
    constructor<;>(show @Ne Nat _ _;omega)
   refine ⟨s1.heap.objs.size+4,[s1.heap.objs.size+4,s1.heap.objs.size+2,s1.heap.objs.size+3,s1.heap.objs.size,s1.heap.objs.size+1],_,Itz X.K l1 l2,H1,rfl,I1.kept (t':=s1.toks) hk,zoX D,⟨hz,hTI,⟨_,_,hTO⟩,h1,h2⟩,λc hc=>?_,q⟩
   have hle:@LE.le Nat _ s1.heap.objs.size c:=by
    simp only [List.mem_cons,List.not_mem_nil,or_false] at hc
    rcases hc with rfl | rfl | rfl | rfl | rfl<;>omega
   exact I1.fpOk hle (I1.hok.fresh hle)
end
theorem preSum_list:∀ (ns:Ji) (k:Nat),k≤ns.length->preSum (λi=>(ns[i]?).getD 0) k=(ns.take k).sum
 | _,0,_=>by simp [preSum]
 | ns,k+1,h=>by
  have ih:=preSum_list ns k ↑0
  have hk:k<ns.length:=by omega
  have e1:preSum (λi=>(ns[i]?).getD 0) (k+1)=preSum (λi=>(ns[i]?).getD 0) k+(ns[k]?).getD 0:=rfl
  have e2:ns.take (k+1)=ns.take k++[ns[k]]:=by rw [List.take_add_one,List.getElem?_eq_getElem hk];rfl
  rw [e1,ih,e2,List.sum_append,List.getElem?_eq_getElem hk]
  simp
section
variable {X:Cx}
theorem zmK (hc:X.calm=true):zf6 X (.builtin "sum") (λxs H Q=>∃ (a:Addr) (ns:Ji),xs=[.ref a]∧SqL X.K H a ↑56∧Q (.int ns.sum) H):=by
 intro pins s σ H xs us Q I r h
 obtain ⟨a,ns,rfl,hq,q⟩:=h
 obtain ⟨u,rfl,rx⟩:=zk0 r
 cases rx
 obtain ⟨its,rv,p,hz⟩:=I.list hq
 have hl:=rv.length
 rw [List.length_map] at hl
 have alt:a<s.heap.objs.size:=by obtain ⟨o,e,_⟩:=p.isList;exact Heap.lt_size e
 have hl1:((s.heap.push {cls:= .type "list_iterator",data:= .fields #[.ref a,.int 0 0]})).IsList a its.toArray:=Heap.IsList.push p.isList _
 refine call_sum_walkG (wpAny_pyIter_list p.isList ?_)
 refine ⟨s.heap.objs.size,[s.heap.objs.size,a],[s.heap.objs.size],its.toArray.size,_,_,λi=>(ns[i]?).getD 0,rfl,Walks.list (A:=X.A.in1) (I.ok.hd hc) s.heap.objs.size a (Nat.ne_of_lt alt) its.toArray,⟨⟨_,Heap.get?_push_size _ rfl,rfl,rfl⟩,hl1⟩,λb hb=>?_,λi v hv=>?_,λh' tk t' hk=>?_⟩
 ·show b<(s.heap.push _).objs.size
  rw [Heap.size_push]
  simp only [List.mem_cons,List.not_mem_nil,or_false] at hb
  rcases hb with rfl | rfl
  ·exact Nat.lt_succ_self _
  ·exact Nat.lt_succ_of_lt alt
 ·have hv':its[i]?=some v:=by simpa using hv
  have hi:i<its.length:=(List.getElem?_eq_some_iff.mp hv').1
  obtain ⟨u,hu,ru⟩:=rv.get (i:=i) (x:=.int (ns[i]' ↑0)) (by rw [List.getElem?_map,List.getElem?_eq_getElem ↑0];rfl)
  rw [hv'] at hu
  cases hu
  obtain ⟨t,rfl⟩:=ru
  have e:(ns[i]?).getD 0=ns[i]' ↑0:=by rw [List.getElem?_eq_getElem (show i<ns.length by omega)];rfl
  exact ⟨t,congrArg (λz=>Value.int z t) e.symm⟩
 ·have e:preSum (λi=>(ns[i]?).getD 0) its.toArray.size=ns.sum:=by
   rw [List.size_toArray,← hl,preSum_list ns _ ↥8,List.take_length]
  rw [e]
  exact ⟨.int ns.sum,H,I.kept (h':=h') (t':=tk) λb o e=>hk b o (by simp only [List.mem_singleton];exact Nat.ne_of_lt ↑117) (Heap.get?_push_of_some _ e),⟨t',rfl⟩,q⟩
theorem zm7 (hc:X.calm=true):zf6 X (.builtin "all") (λxs H Q=>∃ (a:Addr) (bs:List Bool),xs=[.ref a]∧SqL X.K H a (bs.map V.bl)∧Q (.bl (bs.all id)) H):=by
 intro pins s σ H xs us Q I r h
 obtain ⟨a,bs,rfl,hq,q⟩:=h
 obtain ⟨u,rfl,rx⟩:=zk0 r
 cases rx
 obtain ⟨its,rv,p,hz⟩:=I.list hq
 have hl:=rv.length
 rw [List.length_map] at hl
 have alt:a<s.heap.objs.size:=by obtain ⟨o,e,_⟩:=p.isList;exact Heap.lt_size e
 have hl1:((s.heap.push {cls:= .type "list_iterator",data:= .fields #[.ref a,.int 0 0]})).IsList a its.toArray:=Heap.IsList.push p.isList _
 refine call_all_walk (wpAny_pyIter_list p.isList ?_)
 refine ⟨s.heap.objs.size,[s.heap.objs.size,a],[s.heap.objs.size],its.toArray.size,_,_,λi=>(bs[i]?).getD true,rfl,Walks.list (A:=X.A.in1) (I.ok.hd hc) s.heap.objs.size a (Nat.ne_of_lt alt) its.toArray,⟨⟨_,Heap.get?_push_size _ rfl,rfl,rfl⟩,hl1⟩,λi v s' Q' E' hv hQ'=>?_,λh' tk hk=>?_⟩
 ·have hv':its[i]?=some v:=by simpa using hv
  have hi:i<its.length:=(List.getElem?_eq_some_iff.mp hv').1
  obtain ⟨u,hu,ru⟩:=rv.get (i:=i) (x:=.bl (bs[i]' ↑0)) (by rw [List.getElem?_map,List.getElem?_eq_getElem ↑0];rfl)
  rw [hv'] at hu
  cases hu
  cases ru
  have e:(bs[i]?).getD true=bs[i]' ↑0:=by rw [List.getElem?_eq_getElem (show i<bs.length by omega)];rfl
  have hQ2:Q' ((bs[i]?).getD true) s':=hQ'
  rw [e] at hQ2
  exact wpAny_truthy_bool hQ2
 ·have e:(List.range its.toArray.size).all (λi=>(bs[i]?).getD true)=bs.all id:=by
   rw [List.size_toArray,← hl,Bool.eq_iff_iff,List.all_eq_true,List.all_eq_true]
   constructor
   ·intro z x hx
    obtain ⟨i,hi,rfl⟩:=List.getElem_of_mem hx
    have:=z i (List.mem_range.mpr hi)
    rw [List.getElem?_eq_getElem hi] at this
    exact this
   ·intro z i hi
    have hi':=List.mem_range.mp hi
    rw [List.getElem?_eq_getElem hi']
    exact z _ (List.getElem_mem hi')
  rw [e]
  exact ⟨.bl (bs.all id),H,I.kept (h':=h') (t':=tk) λb o e=>hk b o (by simp only [List.mem_singleton];exact Nat.ne_of_lt ↑117) (Heap.get?_push_of_some _ e),rfl,q⟩
def ztW (K:W.Frag):List V->Hp->VK->Prop:=λxs H Q=>∃ x t b,((∃ n,xs=[x,.ty n]∧W.kitOne K t (.type n)=some b)∨(∃ C,xs=[x,.ref C]∧W.kitOne K t (.ref C)=some b))∧TyOf K H x t∧Q (.bl b) H
theorem zpi:zf6 X (.builtin "isinstance") (ztW X.K):=by
 intro pins s σ H xs us Q I r h
 obtain ⟨x,t,b,hx,ty,q⟩:=h
 rcases hx with ⟨n,rfl,e⟩ | ⟨C,rfl,e⟩
 ·obtain ⟨u,w',rfl,rx,ry⟩:=zpb r
  cases ry
  exact zjL I rx ty e λtk=>⟨.bl b,H,I.tok _,rfl,q⟩
 ·obtain ⟨u,w',rfl,rx,ry⟩:=zpb r
  cases ry
  exact zjL I rx ty e λtk=>⟨.bl b,H,I.tok _,rfl,q⟩
end
theorem kit_int_bool (K:W.Frag):W.kitOne K (.type "int") (.type "bool")=some false:=by with_unfolding_all rfl
inductive EqV (K:W.Frag) (H:Hp):Nat->V->V->Bool->Prop where
 | flat {n:Nat} {x y:V} (fx:zoH x=true) (fy:zoH y=true):EqV K H n x y (eqV x y)
 | same {n:Nat} {a:Addr}:EqV K H n (.ref a) (.ref a) true
 | lists {n:Nat} {a b:Addr} {xs ys:List V} {e:Nat->Bool} (ne:a≠b) (ha:SqL K H a xs) (hb:SqL K H b ys) (hl:xs.length=ys.length)
   (he:∀ (j:Nat) (x y:V),xs[j]?=some x->ys[j]?=some y->EqV K H n x y (e j)):EqV K H (n+1) (.ref a) (.ref b) ((↑205).all e)
 | lens {n:Nat} {a b:Addr} {xs ys:List V} (ne:a≠b) (ha:SqL K H a xs) (hb:SqL K H b ys) (hl:xs.length≠ys.length):EqV K H (n+1) (.ref a) (.ref b) false
theorem EqV.at {X:Cx} {pins:List ⇑2} {σ:St} {H:Hp} {s:Shared} (I:Inv X pins σ H s) {n:Nat} {x y:V} {k:Bool} (h:EqV X.K H n x y k) :
  ∀ {A:Around} {u v:Value},zdy x u->zdy y v->A.units+n<cLine->SeqAt.EqAt A s u v k:=by
 induction h with
 | flat fx fy=>intro A u v rx ry _;exact zrH rx ry fx fy
 | same=>intro A u v rx ry _;cases rx;cases ry;exact SeqAt.EqAt.same _
 | @lists n a b xs ys e ne ha hb hl he ih =>
  intro A u v rx ry hu
  cases rx
  cases ry
  obtain ⟨ita,ra,pa,za⟩:=I.list ha
  obtain ⟨itb,rb,pb,zb⟩:=I.list hb
  have la:=ra.length
  have lb:=rb.length
  have q:=SeqAt.RcAt.lists (A:=A) (e:=e) pa.isList pb.isList ↑75 ↑0 λj h1 h2=>?_
  ·rw [List.size_toArray,← la] at q
   exact SeqAt.EqAt.of_refs ne q
  ·have h1':j<ita.length:=by simpa using h1
   have h2':j<itb.length:=by simpa using h2
   obtain ⟨u',hu',ru⟩:=ra.get (i:=j) (x:=xs[j]' ↑0) ↑140
   obtain ⟨v',hv',rv⟩:=rb.get (i:=j) (x:=ys[j]' ↑0) ↑140
   have eu:ita.toArray[j]=u':=by
    rw [List.getElem?_eq_getElem h1'] at hu'
    simpa using hu'
   have ev:itb.toArray[j]=v':=by
    rw [List.getElem?_eq_getElem h2'] at hv'
    simpa using hv'
   rw [eu,ev]
   exact ih j _ _ ↑140 ↑140 ru rv (by show A.units+1+n<cLine;omega)
 | @lens n a b xs ys ne ha hb hl =>
  intro A u v rx ry hu
  cases rx
  cases ry
  obtain ⟨ita,ra,pa,za⟩:=I.list ha
  obtain ⟨itb,rb,pb,zb⟩:=I.list hb
  have la:=ra.length
  have lb:=rb.length
  exact SeqAt.EqAt.of_refs ne (SeqAt.RcAt.lists_lengths pa.isList pb.isList ↑75 ↑0)
def zos (K:W.Frag) (neg:Bool):R2:=λx y H Q=>∃ a b n xs ys,x=.ref a∧y=.ref b∧SqL K H a xs∧SqL K H b ys∧n≤50 ∧
 ((xs.length≠ys.length∧Q (.bl neg) H)∨∃ e:Nat->Bool,xs.length=ys.length∧(∀ (j:Nat) (x y:V),xs[j]?=some x->ys[j]?=some y->EqV K H n x y (e j))∧Q (.bl (if neg then !(↑205).all e else (↑205).all e)) H)
section
variable {X:Cx}
theorem zjx {pins:List ⇑2} {σ:St} {H:Hp} {s:Shared} (I:Inv X pins σ H s) {n:Nat} {xs ys:List V} {ita itb:List Value} {e:Nat->Bool} (ra:zco xs ita) (rb:zco ys itb) (he:∀ (j:Nat) (x y:V),xs[j]?=some x->ys[j]?=some y->EqV X.K H n x y (e j))
  {A:Around} (hu:A.units+1+n<cLine):∀ j (h1:j<ita.toArray.size) (h2:j<itb.toArray.size),SeqAt.EqAt A.in1 s ita.toArray[j] itb.toArray[j] (e j):=λj h1 h2=>by
 have la:=ra.length
 have lb:=rb.length
 have h1':j<ita.length:=by simpa using h1
 have h2':j<itb.length:=by simpa using h2
 obtain ⟨u',hu',ru⟩:=ra.get (i:=j) (x:=xs[j]' ↑0) ↑140
 obtain ⟨v',hv',rv⟩:=rb.get (i:=j) (x:=ys[j]' ↑0) ↑140
 have eu:ita.toArray[j]=u':=by
  rw [List.getElem?_eq_getElem h1'] at hu'
  simpa using hu'
 have ev:itb.toArray[j]=v':=by
  rw [List.getElem?_eq_getElem h2'] at hv'
  simpa using hv'
 rw [eu,ev]
 exact (he j _ _ ↑140 ↑140).at I ru rv hu
theorem zsQ (hu:X.A.units+64<cLine):OpR X (compareOp .Eq) (zos X.K false):=by
 intro pins s σ H x y v u Q I rx ry h
 obtain ⟨a,b,n,xs,ys,rfl,rfl,ha,hb,hn,h⟩:=h
 cases rx
 cases ry
 obtain ⟨ita,ra,pa,za⟩:=I.list ha
 obtain ⟨itb,rb,pb,zb⟩:=I.list hb
 have la:=ra.length
 have lb:=rb.length
 rcases h with ⟨hl,q⟩ | ⟨e,hl,he,q⟩
 ·exact SeqAt.eq_list_lengthsAt pa.isList pb.isList ↑75 ↑0 ⟨.bl false,H,I,rfl,q⟩
 ·refine SeqAt.eq_listAt (e:=e) pa.isList pb.isList ↑75 ↑0 (zjx I ra rb he ↑0) ?_
  rw [List.size_toArray,← la]
  exact ⟨.bl _,H,I,rfl,q⟩
theorem zrL (hu:X.A.units+64<cLine):OpR X (compareOp .NotEq) (zos X.K true):=by
 intro pins s σ H x y v u Q I rx ry h
 obtain ⟨a,b,n,xs,ys,rfl,rfl,ha,hb,hn,h⟩:=h
 cases rx
 cases ry
 obtain ⟨ita,ra,pa,za⟩:=I.list ha
 obtain ⟨itb,rb,pb,zb⟩:=I.list hb
 have la:=ra.length
 have lb:=rb.length
 rcases h with ⟨hl,q⟩ | ⟨e,hl,he,q⟩
 ·exact SeqAt.RcNeAt.lists_lengths pa.isList pb.isList ↑75 ↑0 _ _ _ _ ⟨.bl true,H,I,rfl,q⟩
 ·refine SeqAt.RcNeAt.lists (e:=e) pa.isList pb.isList ↑75 ↑0 (zjx I ra rb he ↑0) _ _ _ _ ?_
  rw [List.size_toArray,← la]
  exact ⟨.bl _,H,I,rfl,q⟩
end
theorem all_eq {α:Type} [DecidableEq α] {xs ys:List α} (h:xs.length=ys.length):(↑205).all (λj=>decide (xs[j]?=ys[j]?))=decide (xs=ys):=by
 rw [Bool.eq_iff_iff,List.all_eq_true,decide_eq_true_iff]
 constructor
 ·intro z
  refine List.ext_getElem? λi=>?_
  by_cases hi:i<xs.length
  ·exact of_decide_eq_true (z i (List.mem_range.mpr hi))
  ·rw [List.getElem?_eq_none ↑0,List.getElem?_eq_none ↑0]
 ·rintro rfl i _
  exact decide_eq_true rfl
theorem zos.ints {K:W.Frag} {neg:Bool} {H:Hp} {Q:VK} {a b:Addr} {ns ms:Ji} (ha:SqL K H a ↑56) (hb:SqL K H b (ms.map V.int)) (q:Q (.bl (if neg then !decide (ns=ms) else decide (ns=ms))) H) :
  zos K neg (.ref a) (.ref b) H Q:=by
 refine ⟨a,b,0,_,_,rfl,rfl,ha,hb,by omega,?_⟩
 by_cases hl:ns.length=ms.length
 ·refine .inr ⟨λj=>decide (ns[j]?=ms[j]?),by simp [hl],λj x y hx hy=>?_,?_⟩
  ·rw [List.getElem?_map] at hx hy
   cases e1:ns[j]? with
   | none=>rw [e1] at hx;cases hx
   | some i =>
    cases e2:ms[j]? with
    | none=>rw [e2] at hy;cases hy
    | some k =>
     rw [e1] at hx
     rw [e2] at hy
     cases hx
     cases hy
     have q:=EqV.flat (K:=K) (H:=H) (n:=0) (x:=.int i) (y:=.int k) rfl rfl
     have e:eqV (.int i) (.int k)=decide (some i=some k):=by
      show (i == k)=_
      rw [Bool.beq_eq_decide_eq]
      simp
     rw [e] at q
     show EqV K H 0 (V.int i) (V.int k) (decide (ns[j]?=ms[j]?))
     rw [e1,e2]
     exact q
  ·rw [List.length_map,all_eq hl]
   exact q
 ·refine .inl ⟨by simpa using hl,?_⟩
  have e:decide (ns=ms)=false:=decide_eq_false (λz=>hl (by rw [z]))
  rw [e] at q
  cases neg<;>exact q
def Rows (K:W.Frag) (H:Hp) (a:Addr) (xss:Jq):Prop :=
 ∃ as:List Addr,SqL K H a (as.map V.ref)∧as.length=xss.length∧∀ (j:Nat) (p:Addr) (ns:Ji),as[j]?=some p->xss[j]?=some ns->H p=some (.lst ↑56)
theorem zkO {ns ms:Ji} (h:ns.map V.int=ms.map V.int):ns=ms:=by
 induction ns generalizing ms with
 | nil=>cases ms with
  | nil=>rfl
  | cons _ _=>cases h
 | cons x r ih=>cases ms with
  | nil=>cases h
  | cons y s =>
   injection h with h1 h2
   injection h1 with h1
   rw [h1,ih h2]
theorem EqV.ints {K:W.Frag} {H:Hp} {n:Nat} {a b:Addr} {ns ms:Ji} (ha:H a=some (.lst ↑56)) (hb:H b=some (.lst (ms.map V.int))):EqV K H (n+1) (.ref a) (.ref b) (decide (ns=ms)):=by
 by_cases hab:a=b
 ·subst hab
  rw [ha] at hb
  have e:ns=ms:=zkO (by injection hb with hb;injection hb)
  rw [decide_eq_true e]
  exact .same
 ·by_cases hl:ns.length=ms.length
  ·have q:=EqV.lists (K:=K) (H:=H) (n:=n) (e:=λj=>decide (ns[j]?=ms[j]?)) hab (SqL.of ha) (SqL.of hb) (by simp [hl]) λj x y hx hy=>?_
   ·rw [List.length_map,all_eq hl] at q
    exact q
   ·rw [List.getElem?_map] at hx hy
    cases e1:ns[j]? with
    | none=>rw [e1] at hx;cases hx
    | some i =>
     cases e2:ms[j]? with
     | none=>rw [e2] at hy;cases hy
     | some k =>
      rw [e1] at hx
      rw [e2] at hy
      cases hx
      cases hy
      have q:=EqV.flat (K:=K) (H:=H) (n:=n) (x:=.int i) (y:=.int k) rfl rfl
      have e:eqV (.int i) (.int k)=decide (some i=some k):=by
       show (i == k)=_
       rw [Bool.beq_eq_decide_eq]
       simp
      rw [e] at q
      exact q
  ·rw [decide_eq_false (λz=>hl (by rw [z]))]
   exact .lens hab (SqL.of ha) (SqL.of hb) (by simpa using hl)
theorem zos.rows {K:W.Frag} {neg:Bool} {H:Hp} {Q:VK} {a b:Addr} {xss yss:Jq} (ha:Rows K H a xss) (hb:Rows K H b yss) (q:Q (.bl (if neg then !decide (xss=yss) else decide (xss=yss))) H) :
  zos K neg (.ref a) (.ref b) H Q:=by
 obtain ⟨as,hsa,hla,hra⟩:=ha
 obtain ⟨bs,hsb,hlb,hrb⟩:=hb
 refine ⟨a,b,1,_,_,rfl,rfl,hsa,hsb,by omega,?_⟩
 by_cases hl:xss.length=yss.length
 ·refine .inr ⟨λj=>decide (xss[j]?=yss[j]?),by simp;omega,λj x y hx hy=>?_,?_⟩
  ·rw [List.getElem?_map] at hx hy
   cases e1:as[j]? with
   | none=>rw [e1] at hx;cases hx
   | some p =>
    cases e2:bs[j]? with
    | none=>rw [e2] at hy;cases hy
    | some p2 =>
     rw [e1] at hx
     rw [e2] at hy
     cases hx
     cases hy
     have h1:j<xss.length:=by have:=(List.getElem?_eq_some_iff.mp e1).1;omega
     have h2:j<yss.length:=by omega
     have q:=EqV.ints (K:=K) (n:=0) (hra j p _ e1 (List.getElem?_eq_getElem h1)) (hrb j p2 _ e2 (List.getElem?_eq_getElem h2))
     show EqV K H 1 (V.ref p) (V.ref p2) (decide (xss[j]?=yss[j]?))
     rw [List.getElem?_eq_getElem h1,List.getElem?_eq_getElem h2]
     have e:decide (xss[j]=yss[j])=decide (some xss[j]=some yss[j]):=by simp
     rw [e] at q
     exact q
  ·rw [List.length_map,hla,all_eq hl]
   exact q
 ·refine .inl ⟨by simp;omega,?_⟩
  have e:decide (xss=yss)=false:=decide_eq_false (λz=>hl (by rw [z]))
  rw [e] at q
  cases neg<;>exact q
section
variable {X:Cx}
theorem zm9 {n k m:Nat} (h:n<2^k) (hk:k≤m) (hm:0<m):n.log2<m:=by
 by_cases hn:n=0
 ·subst hn
  exact Nat.lt_of_le_of_lt (by decide:Nat.log2 0≤0) hm
 ·exact Nat.lt_of_lt_of_le ((Nat.log2_lt hn).mpr h) hk
theorem zmx {i:Int} {k:Nat} (h:i.natAbs.log2<k):Builtin.Int.intBits i≤k:=by
 unfold Builtin.Int.intBits
 split
 ·exact Nat.zero_le _
 ·omega
def zfv (i j:Int):Prop:=0<j∧j.natAbs.log2<9000
theorem zcw:OpR X (binaryOp .FloorDiv) (rI zfv λi j=>.int (i/j)):=opI λi j _ _ _ _ _ hc q=>by
 have hj:j≠0:=by have:=hc.1;omega
 have e:i.fdiv j=i/j:=Int.fdiv_eq_ediv_of_nonneg _ (by have:=hc.1;omega)
 exact floordiv_int hj (by rw [e];exact q) (.inl (PyProof.noPylong_of_log2 hc.2))
end
def zpF (scope osc:Scope) (N own fvn:List Str) (fv:List Nat):Bool :=
 (scope.names.all λy=>y.2 != .cell||scope.names.lookup y.1 == some .cell)&&(scope.names.all λy=>y.2 != .free||scope.names.lookup y.1 == some .free)&&(scope.kind == .function)&&(scope.names.all λy=>y.2 != .local||scope.names.lookup y.1 == some .local) &&
 (scope.names.all λy=>y.2 != .free||osc.names.lookup y.1 == some .cell||osc.names.lookup y.1 == some .free)&&(fvn.map some == fv.map λi=>N[i]?)&&(fvn.all λx=>scope.names.lookup x == some .free)
theorem BlkScope.of {X:Cx} {scope osc:Scope} {N own fvn:List Str} {fv:List Nat} (hX:X.env.scope=osc) (hN:X.N=N) (h:zpF scope osc N own fvn fv=true):BlkScope X scope own fvn fv:=by
 subst hX hN
 unfold zpF at h
 simp only [Bool.and_eq_true,List.all_eq_true,bne_iff_ne,beq_iff_eq,Bool.or_eq_true] at h
 obtain ⟨⟨⟨⟨⟨⟨h1,h1'⟩,h2⟩,h3⟩,h4⟩,h5⟩,h6⟩:=h
 refine ⟨λy hy e=>?_,λy hy e=>?_,h2,λy hy e=>?_,λy hy e=>?_,h5,h6⟩
 ·rcases h1 y hy with z | z
  ·exact absurd e z
  ·exact z
 ·rcases h1' y hy with z | z
  ·exact absurd e z
  ·exact z
 ·rcases h3 y hy with z | z
  ·exact absurd e z
  ·exact z
 ·rcases h4 y hy with (z | z) | z
  ·exact absurd e z
  ·exact .inl z
  ·exact .inr z
theorem Same.new {H:Hp} {p:Addr} (h:H p=none) (o:HO):Same H (upd H p o):=λb u q=>by rw [zat (zaY q h)];exact q
theorem Same.tup {K:W.Frag} {H H':Hp} {a:Addr} {xs:List V} (e:Same H H') (h:SqT K H a xs):SqT K H' a xs:=by
 rcases h with (h | ⟨o,h⟩) | h
 ·exact .inl (.inl (e _ _ h))
 ·exact .inl (.inr ⟨o,e _ _ h⟩)
 ·exact .inr h
theorem Same.rows {K:W.Frag} {H H':Hp} {a:Addr} {xss:Jq} (e:Same H H') (h:Rows K H a xss):Rows K H' a xss:=by
 obtain ⟨as,h1,h2,h3⟩:=h
 exact ⟨as,e.seq h1,h2,λj p ns q1 q2=>e _ _ (h3 j p ns q1 q2)⟩
structure Callee (P:Program) (w:World) (K:W.Frag) (mg:Str->Option Value) (base:Heap) (CX:CXT) (k:Nat) (x:Str) (ps:List Str) (sp:Sp):Prop where
 ex:∃ f fd,FnOk P w K mg base CX k f fd ps sp∧mg x=some (.ref f)∧W.keepIn K (.ref f)=true∧zfP K fd ps []
section
variable {X:Cx} {CX:CXT} {k:Nat} {ps:List Str} {sp:Sp} {E:XK} {x:Str} {p pos:Pos} {e:Expr} {es:List Expr} {t:TA}
theorem zaT (F:Callee X.prog X.w X.K X.mg X.base CX k x ps sp) (hr:Room k X.A) (hg:Gl X x) (hx:zgS CX X E)
  (ha:PA X (e::es) t) (hdb:↑54=false:=by decide) (he:starEach (e::es) X.env=(false,eval e X.env) :: starEach es X.env:=by rfl) (hpl:(↑79).any (·.1)=false:=by rfl) :
  PE X ↑172 (tCall sp [] E t):=by
 obtain ⟨f,fd,G,hm,hk,hb⟩:=F.ex
 exact zp7 G hr hg hm hk hb .nil hx ha hdb he hpl
end
section
variable {X:Cx} {K:W.Frag}
theorem zas (hK:X.K=K):zf6 X (.builtin "len") ↑216:=by subst hK;exact zjF
theorem zcc (hK:X.K=K):zf6 X (.type "list") (λxs H Q=>∃p ys,xs=[.ref p]∧(SqL K H p ys∨SqT K H p ys)∧∀l,H l=none->Q (.ref l) (upd H l (.lst ys))):=by subst hK;exact zjH
theorem zmg (hK:X.K=K):zf6 X (.builtin "isinstance") (ztW K):=by subst hK;exact zpi
theorem zmj (hK:X.K=K) (hc:X.calm=true):zf6 X (.builtin "sum") (λxs H Q=>∃(a:Addr) (ns:Ji),xs=[.ref a]∧SqL K H a ↑56∧Q (.int ns.sum) H):=by subst hK;exact zmK hc
theorem ziA (hK:X.K=K) (hc:X.calm=true):zf6 X (.builtin "all") (λxs H Q=>∃(a:Addr) (bs:List Bool),xs=[.ref a]∧SqL K H a (bs.map V.bl)∧Q (.bl (bs.all id)) H):=by subst hK;exact zm7 hc
theorem zap (hK:X.K=K):IxR X (zru K):=by subst hK;exact zqN
theorem zaW (hK:X.K=K):IxR X (zt0 K):=by subst hK;exact zrJ
theorem zde (hK:X.K=K):SlR X (ztA K):=by subst hK;exact zra
theorem zi7 (hK:X.K=K) (hu:X.A.units+64<cLine):OpR X (compareOp .Eq) (zos K false):=by subst hK;exact zsQ hu
theorem zhP (hK:X.K=K) (hu:X.A.units+64<cLine):OpR X (compareOp .NotEq) (zos K true):=by subst hK;exact zrL hu
theorem zaK {e:Expr} {f:Str} {pos:Pos} {ta:TE} (hK:X.K=K) (he:PE X e ta) (hb:attributeBase e f X.env (eval e X.env)=eval e X.env):PE X (.Attribute e f pos) (tFld K ta f):=by subst hK;exact zr2 he hb
theorem zaV {tg l:Expr} {tl:TE} (hK:X.K=K) (hl:PE X l tl):PI X tg l (zo4 K tl):=by subst hK;exact zqh hl
theorem zc6 {a b:Expr} {ta:TA} {p pos tp:Pos} {elts:List Expr} {x1:Nat} (hK:X.K=K) (hg:Gl X "zip") (hm:X.mg "zip"=none) (ha:PA X [a,b] ta) (hs:starEach [a,b] X.env=[(false,eval a X.env),(false,eval b X.env)]:=by rfl) (hs2:starEach [b] X.env=[(false,eval b X.env)]:=by rfl) :
  PI X (.Tuple elts x1 tp) (.Call (.Name "zip" p) [a,b] [] pos) (zuc K ta):=by subst hK;exact zsI hg hm ha hs hs2
theorem zbu {es:List Expr} {k:Nat} {t:TGs} {n:Nat} {pos:Pos} (hK:X.K=K) (hc:X.calm=true) (h:PGs X es t)
  (hn:((assignEach es X.env)).length=n:=by rfl) (hst:((assignEach es X.env)).findIdx? (·.1)=none:=by rfl):PG X (.Tuple es k pos) (zrq K n t):=by subst hK;exact ztl hc h hn hst
theorem zch {o e:Expr} {to:TE} {t:TA} {apos cpos:Pos} (hK:X.K=K) (ho:PE X o to) (ha:PA X [e] t)
  (hbase:attributeBase o "append" X.env (eval o X.env)=eval o X.env:=by rfl)
  (hfew:((backTo cpos (starEach [e] X.env)).all (λx=>!x.1)&&(backToKw cpos (keywordEach [] X.env)).all (λx=>x.1.isSome)
   &&decide (([e]:List Expr).length+([]:List Keyword).length+(if ([]:List Keyword).isEmpty then 0 else 1)<30))=true:=by rfl)
  (hline:(apos.endLine == cpos.line)=true:=by rfl) (hs:starEach [e] X.env=(false,eval e X.env) :: starEach [] X.env:=by rfl) (hplain:(backTo cpos (starEach [] X.env)).any (·.1)=false:=by rfl) :
  PE X (.Call (.Attribute o "append" apos) [e] [] cpos) (tBM K "list" zjl to t):=by
 subst hK
 exact zuI PySem.F.plainAttrs_list PySem.F.slot_list_append PySem.F.type_list_append zjZ ho ha hbase hfew hline hs hplain
end
theorem zal {n:Nat} (h:n≤10000):n≤sizeLine:=Nat.le_trans h ↑1
theorem zit (o:Obj) (f:Array Value->Array Value):(o.mapFields f).dict=o.dict:=by
 obtain ⟨c,d,dt,sl⟩:=o
 cases dt<;>rfl
section
variable {M:Model} {A:Around} {E:Value->Shared->Prop} {s:Shared}
theorem zmz {base:Heap} {env:Env} {outer:List Env} {L e:Addr} {oe:Obj} {vs:Array Value} {head:Value} {hadNext:Bool} {Q:Unit->Shared->Prop}
  (hfr:A.frames=some (env :: outer)) (hl:s.heap.FunFrames base (env :: outer)) (hf:env.frame=some L) (he:s.heap.get? e=some oe) (hd:oe.data=.fields vs) (hsz:1<vs.size)
  (h:∀ (h':Heap) (T:Addr) (oT:Obj) (ts:Array Value),(∀ b o,b ∉ frs (env :: outer)->b≠e->s.heap.get? b=some o->h'.get? b=some o)->(∀ b o,b≠e->s.heap.get? b=some o->∃ sl,h'.get? b=some { o with slots:=sl }) →
   h'.get? e=some (oe.mapFields (·.setIfInBounds 1 (.ref T)))->s.heap.objs.size≤T->h'.get? T=some oT->oT.data=.fields ts->ts[3]?=some (rawInt L)->Q () { s with heap:=h' }) :
  wpAny M A (do let a ← frameOf env;let pl ← entryPlaceOf L hadNext;let b ← EntryCells.newEntry head a .none (rawInt L) .none pl;setField (.ref e) 1 b) Q E s:=by
 have hene:e ∉ (env :: outer).filterMap (·.frame):=λhm=>by
  obtain ⟨_,o,ho,hnf⟩:=hl.mem hm
  rw [he] at ho;injection ho with ho;subst ho;exact hnf vs hd
 refine wpAny_bind (wpAny_frameOf_fun hfr hl hf λh₁ hs₁=>?_)
 refine wpAny_bind (wpAny_entryPlaceOf λpl hpl=>?_)
 unfold EntryCells.newEntry newFields
 refine wpAny_bind (wpAny_newObj_type ?_ (hpl.sizeOk5 _ _ _ _ _))
 have he₁:h₁.get? e=some oe:=(hs₁.2.1 e hene).trans he
 have he₂:=Heap.get?_push_of_some (h:=h₁) { cls:=.type "traceback",dict:=none,data:=.fields (([head,.ref L,.none,rawInt L,.none]++(if pl.isEmpty then List.replicate 6 Value.none else pl))).toArray } he₁
 refine wpAny_setField he₂ hd hsz ?_
 have hTe:h₁.objs.size≠e:=Nat.ne_of_gt (Heap.lt_size he₁)
 have hd₃:=Obj.data_mapFields hd (·.setIfInBounds 1 (Value.ref h₁.objs.size))
 have he₃:=Heap.get?_update_self (Obj.mapFields (·.setIfInBounds 1 (Value.ref h₁.objs.size))) he₂ (Obj.isFreed_of_fields hd₃)
 have hT₃:=(Heap.get?_update_other (h₁.push { cls:=.type "traceback",dict:=none,data:=.fields (([head,.ref L,.none,rawInt L,.none]++(if pl.isEmpty then List.replicate 6 Value.none else pl))).toArray })
  (Obj.mapFields (·.setIfInBounds 1 (Value.ref h₁.objs.size))) (Ne.symm hTe)).trans (Heap.get?_push_size h₁ rfl)
 refine h _ h₁.objs.size _ _ (λb o hb hbe e1=>?_) (λb o hbe e1=>?_) he₃ (Nat.le_of_eq hs₁.1.symm) hT₃ rfl (by first | (simp;done) | (rcases hpl with rfl | ⟨_,_,_,_,_,_,_,rfl⟩<;>simp))
 ·rw [Heap.get?_update_other _ _ (Ne.symm hbe)]
  exact Heap.get?_push_of_some _ ((hs₁.2.1 b hb).trans e1)
 ·obtain ⟨sl,e2⟩:=hs₁.2.2 b o e1
  exact ⟨sl,by rw [Heap.get?_update_other _ _ (Ne.symm hbe)];exact Heap.get?_push_of_some _ e2⟩
end
def ExcAt (h:Heap) (H:Hp) (Fz:Addr->Prop) (L e:Addr) (cls:Value) (dct:Option Addr):Prop :=
 ∃ oe vs a0,h.get? e=some oe∧oe.cls=cls∧oe.dict=dct∧oe.data=.fields vs∧vs[0]?=some a0∧1<vs.size∧H e=none∧Fz e ∧
  (vs[1]?=some .none∨∃ T oT ts,vs[1]?=some (.ref T)∧T≠e∧h.get? T=some oT∧oT.data=.fields ts∧(ts[3]?=some .none∨ts[3]?=some (rawInt L))∧H T=none∧Fz T)
def zi6 (h:Heap) (H:Hp) (Fz:Addr->Prop) (fl:Value) (e:Addr) (cls:Value) (dct:Option Addr):Prop :=
 ∃ oe vs a0,h.get? e=some oe∧oe.cls=cls∧oe.dict=dct∧oe.data=.fields vs∧vs[0]?=some a0∧1<vs.size∧H e=none∧Fz e ∧
  ∃ T oT ts,vs[1]?=some (.ref T)∧T≠e∧h.get? T=some oT∧oT.data=.fields ts∧ts[3]?=some fl∧H T=none∧Fz T
theorem zi6.atN {h:Heap} {H:Hp} {Fz:Addr->Prop} {L e:Addr} {cls:Value} {dct:Option Addr} (x:zi6 h H Fz .none e cls dct):ExcAt h H Fz L e cls dct:=by
 obtain ⟨oe,vs,a0,h1,h2,h3,h4,h5,h6,h7,h8,T,oT,ts,t1,t2,t3,t4,t5,t6,t7⟩:=x
 exact ⟨oe,vs,a0,h1,h2,h3,h4,h5,h6,h7,h8,.inr ⟨T,oT,ts,t1,t2,t3,t4,.inl t5,t6,t7⟩⟩
theorem zi6.imp {h:Heap} {H:Hp} {Fz Fz':Addr->Prop} {e:Addr} {fl cls:Value} {dct:Option Addr} (x:zi6 h H Fz fl e cls dct) (k:∀ b,Fz b->Fz' b):zi6 h H Fz' fl e cls dct:=by
 obtain ⟨oe,vs,a0,h1,h2,h3,h4,h5,h6,h7,h8,T,oT,ts,t1,t2,t3,t4,t5,t6,t7⟩:=x
 exact ⟨oe,vs,a0,h1,h2,h3,h4,h5,h6,h7,k _ h8,T,oT,ts,t1,t2,t3,t4,t5,t6,k _ t7⟩
structure Own (X:Cx):Prop where
 stk:X.stack=X.env :: X.outer
 fr:X.env.frame=some X.env.locals
 ex:X.ex=[]
theorem zen.there {P:Program} {w:World} {H:Hp} {h:Heap} {a:Addr} {o:HO} (x:zen P w H h a o):∃ ob,h.get? a=some ob:=by
 cases o with
 | lst xs=>obtain ⟨_,_,_,_,e⟩:=x;exact ⟨_,e⟩
 | tup xs=>obtain ⟨_,_,_,o,e,_⟩:=x;exact ⟨_,e⟩
 | dK kvs=>obtain ⟨_,_,_,_,o,_,_,e,_⟩:=x;exact ⟨_,e⟩
 | dT kvs=>obtain ⟨_,_,_,_,o,_,_,e,_⟩:=x;exact ⟨_,e⟩
 | set S n=>obtain ⟨o,_,_,_,e,_⟩:=x;exact ⟨_,e⟩
 | ins C dx fs=>obtain ⟨_,_,_,e,_⟩:=x;exact ⟨_,e⟩
 | own y=>obtain ⟨_,e⟩:=x;exact ⟨_,e⟩
 | xd fs=>obtain ⟨_,⟨_,_,_,e,_⟩,_⟩:=x;exact ⟨_,e⟩
 | rng lo hi=>obtain ⟨_,_,_,e⟩:=x;exact ⟨_,e⟩
 | frz ob u=>obtain ⟨e,_⟩:=x;exact ⟨_,e⟩
 | tbl ps=>exact ⟨_,(show h.get? a=some _ from x)⟩
 | met f y=>exact ⟨_,(show h.get? a=some _ from x)⟩
 | ext φ=>obtain ⟨_,e,_⟩:=x;exact e
section
variable {X:Cx} {pins:List ⇑2} {σ:St} {H:Hp} {s:Shared} {h':Heap}
theorem Inv.recs {t':Nat} {ch:List Addr} (I:Inv X pins σ H s) (hch:∀ b∈ch,H b=none∧X.s₀.heap.get? b=none∧b≠X.env.locals∧↑190∧∀ p∈X.pn++pins,p.1≠b)
  (hex:X.ex=[]) (k:∀ b o,b ∉ frs X.stack->b ∉ ch->s.heap.get? b=some o->h'.get? b=some o) (ks:∀ b o,b ∉ ch->s.heap.get? b=some o->∃ sl,h'.get? b=some { o with slots:=sl }) :
  Inv X pins σ H { s with heap:=h',toks:=t' }:=by
 have sub:=I.stkSub
 have nfr:∀ b,b≠X.env.locals->b ∉ X.fs->b ∉ frs X.stack:=λb h1 h2 z=>by
  rcases List.mem_cons.mp (sub b z) with q | q
  ·exact h1 q
  ·exact h2 q
 have cl:∀ x c,X.env.cells.lookup x=some c->c≠X.env.locals:=I.cne
 refine ⟨I.ok,I.os,I.bare,⟨λb o e n hb hx=>?_,λb o e n hb hx=>?_,I.base.free,λb o e hx=>?_,I.base.tups,I.base.frzs,I.base.tbls⟩,?_,λx c e=>?_,I.free,I.freeC,λp hp=>?_,λb u e=>?_,I.len⟩
 ·have nc:b ∉ ch:=λz=>by rw [(hch b z).2.1] at e;cases e
  exact k b o (nfr b (Nat.ne_of_lt ↑185) hb) nc (I.base.keep b o e n hb hx)
 ·have nc:b ∉ ch:=λz=>by rw [(hch b z).2.1] at e;cases e
  obtain ⟨sl,e1⟩:=I.base.slot b o e n hb hx
  obtain ⟨sl',e2⟩:=ks b _ nc e1
  exact ⟨sl',e2⟩
 ·have nc:b ∉ ch:=λz=>by rw [(hch b z).2.1] at e;cases e
  obtain ⟨o',e1⟩:=I.base.there b o e hx
  obtain ⟨sl',e2⟩:=ks b _ nc e1
  exact ⟨_,e2⟩
 ·obtain ⟨m,⟨o,es,ep,ho,hd,r⟩,hl⟩:=I.loc
  have nc:X.env.locals ∉ ch:=λz=>(hch _ z).2.2.1 rfl
  obtain ⟨sl,e1⟩:=ks _ _ nc ho
  refine ⟨m,⟨_,es,ep,e1,hd,r⟩,λi x v e1 e2 e3=>?_⟩
  obtain ⟨u,ru,l⟩:=hl i x v e1 e2 e3
  refine ⟨u,ru,?_⟩
  rcases l with l | ⟨kk,c,e,oc,hoc,hcd⟩
  ·exact .inl l
  ·obtain ⟨sl',e4⟩:=ks c oc (λz=>(hch c z).2.2.2.1 x c e rfl) hoc
   exact .inr ⟨kk,c,e,_,e4,hcd⟩
 ·obtain ⟨v,oc,hoc,hcd⟩:=I.cell x c e
  obtain ⟨sl',e4⟩:=ks c oc (λz=>(hch c z).2.2.2.1 x c e rfl) hoc
  exact ⟨v,_,e4,hcd⟩
 ·obtain ⟨e,n,ne,nf,d⟩:=I.pin p hp
  exact ⟨k _ _ (nfr _ ne nf) (λz=>(hch _ z).2.2.2.2 p hp rfl) e,n,ne,nf,d⟩
 ·refine (I.hok b u e).stay (λc v hc q=>?_) (λ_ q=>q) λ_ _ q=>q
  have trk:∃ u',H c=some u':=by
   rcases hc with z | z
   ·rw [z];exact ⟨u,e⟩
   ·exact ⟨_,z⟩
  obtain ⟨u',hu'⟩:=trk
  refine k c v (λz=>?_) (λz=>?_) q
  ·rw [I.stkFree c z] at hu';cases hu'
  ·rw [(hch c z).1] at hu';cases hu'
def Fz (X:Cx) (pins:List ⇑2) (b:Addr):Prop:=X.s₀.heap.get? b=none∧∀ p∈X.pn++pins,p.1≠b
theorem Inv.fz (I:Inv X pins σ H s) (hex:X.ex=[]) {b:Addr} (h:s.heap.get? b=none):Fz X pins b:=by
 refine ⟨?_,λp hp z=>?_⟩
 ·cases q:X.s₀.heap.get? b with
  | none=>rfl
  | some o =>
   obtain ⟨o',e⟩:=I.base.there b o q (by rw [hex];simp)
   rw [h] at e;cases e
 ·rw [← z,(I.pin p hp).1] at h;cases h
theorem Inv.tfree (I:Inv X pins σ H s) {b:Addr} (h:s.heap.get? b=none):H b=none:=by
 cases q:H b with
 | none=>rfl
 | some u =>
  have:=(I.hok b u q).lt
  cases e:s.heap.get? b with
  | none =>
   obtain ⟨o,e'⟩:=zen.there (I.hok b u q)
   rw [h] at e';cases e'
  | some o=>rw [h] at e;cases e
theorem zgO (I:Inv X pins σ H s) {b:Addr} {o:Obj} {vs:Array Value} (e:s.heap.get? b=some o) (hd:o.data=.fields vs) (hn:H b=none) (hF:Fz X pins b) :
  H b=none∧X.s₀.heap.get? b=none∧b≠X.env.locals∧↑190∧∀ p∈X.pn++pins,p.1≠b:=by
 refine ⟨hn,hF.1,λz=>?_,λx c ec z=>?_,hF.2⟩
 ·obtain ⟨m,⟨o',es,ep,ho',hd',_⟩,_⟩:=I.loc
  rw [← z,e] at ho';cases ho';rw [hd] at hd';cases hd'
 ·obtain ⟨v,oc,hoc,hcd⟩:=I.cell x c ec
  rw [z,e] at hoc;cases hoc;rw [hd] at hcd;cases hcd
theorem zlk {M:Model} {E:Value->Shared->Prop} {e:Addr} {cls:Value} {dct:Option Addr} {Q:Unit->Shared->Prop} (O:Own X) (I:Inv X pins σ H s) (x:ExcAt s.heap H (Fz X pins) X.env.locals e cls dct)
  {A:Around} (hA:A.frames=X.A.frames) (hQ:∀ s',Inv X pins σ H s'->zi6 s'.heap H (Fz X pins) (rawInt X.env.locals) e cls dct->Q () s'):wpAny M A (noteFrame (.ref e) X.env) Q E s:=by
 obtain ⟨oe,vs,a0,h1,h2,h3,h4,h5,h6,h7,h8,h9⟩:=x
 have hfr:A.frames=some (X.env :: X.outer):=by rw [hA,I.ok.frames,O.stk]
 have hfun:s.heap.FunFrames X.base (X.env :: X.outer):=by have:=I.stack;rw [O.stk] at this;exact this
 have ae:=zgO I h1 h4 h7 h8
 have newE:∀ (s1:Shared) (head:Value) (hadNext:Bool),Inv X pins σ H s1->s1.heap.get? e=some oe->(∀ b,b∈X.env :: X.outer->True) →
   wpAny M A (do let a ← frameOf X.env;let pl ← entryPlaceOf X.env.locals hadNext;let b ← EntryCells.newEntry head a .none (rawInt X.env.locals) .none pl;setField (.ref e) 1 b) Q E s1:=λs1 head hadNext I1 e1 _=>by
  have hfun1:s1.heap.FunFrames X.base (X.env :: X.outer):=by have:=I1.stack;rw [O.stk] at this;exact this
  refine zmz hfr hfun1 O.fr e1 h4 h6 λh' T oT ts k ks he hT hgT hdT ht3=>?_
  have hTn:s1.heap.get? T=none:=Heap.get?_none_of_le hT
  have I2:Inv X pins σ H { s1 with heap:=h' }:=by
   refine I1.recs (t':=s1.toks) (ch:=[e]) (λb hb=>?_) O.ex (λb o hb hc q=>?_) (λb o hc q=>?_)
   ·rw [List.mem_singleton.mp hb];exact ae
   ·rw [O.stk] at hb
    exact k b o hb ↑183 q
   ·exact ks b o ↑183 q
  refine hQ _ I2 ⟨_,_,a0,he,(Obj.cls_mapFields _ _).trans h2,(zit _ _).trans h3,Obj.data_mapFields h4 _,?_,?_,h7,h8,T,oT,ts,?_,?_,hgT,hdT,ht3,I1.tfree hTn,I1.fz O.ex hTn⟩
  ·rw [Array.getElem?_setIfInBounds_ne ↑1];exact h5
  ·rw [Array.size_setIfInBounds];exact h6
  ·rw [Array.getElem?_setIfInBounds_self_of_lt h6]
  ·intro z;rw [z,e1] at hTn;cases hTn
 unfold noteFrame
 simp only [O.fr]
 rcases h9 with h9 | ⟨T,oT,ts,t1,t2,t3,t4,t5,t6,t7⟩
 ·refine wpAny_bind (wpAny_field h1 h4 h9 ?_)
  rw [if_neg ↑1]
  exact newE s _ _ I h1 (λ_ _=>trivial)
 ·refine wpAny_bind (wpAny_field h1 h4 t1 ?_)
  rw [if_pos (show (Value.ref T !=Value.none)=true from by simp)]
  rcases t5 with t5 | t5
  ·refine wpAny_bind (wpAny_field t3 t4 t5 ?_)
   rw [if_neg (show ¬ ((Value.none == rawInt X.env.locals)=true) from by simp [rawInt])]
   refine wpAny_bind (wpAny_setField t3 t4 (Array.getElem?_eq_some_iff.mp t5).1 ?_)
   have aT:=zgO I t3 t4 t6 t7
   have other:∀ b,b≠T->(s.heap.update T (Obj.mapFields (·.setIfInBounds 3 Value.none))).get? b=s.heap.get? b:=λb hb=>Heap.get?_update_other _ _ (Ne.symm hb)
   have I1:Inv X pins σ H { s with heap:=s.heap.update T (Obj.mapFields (·.setIfInBounds 3 Value.none)) }:=by
    refine I.recs (t':=s.toks) (ch:=[T]) (λb hb=>?_) O.ex (λb o _ hc q=>?_) (λb o hc q=>⟨o.slots,?_⟩)
    ·rw [List.mem_singleton.mp hb];exact aT
    ·exact (other b ↑183).trans q
    ·exact (other b ↑183).trans q
   exact newE _ _ _ I1 ((other e (Ne.symm t2)).trans h1) (λ_ _=>trivial)
  ·refine wpAny_bind (wpAny_field t3 t4 t5 ?_)
   rw [if_pos (show (rawInt X.env.locals == rawInt X.env.locals)=true from by simp)]
   exact wpAny_pure (hQ s I ⟨oe,vs,a0,h1,h2,h3,h4,h5,h6,h7,h8,T,oT,ts,t1,t2,t3,t4,t5,t6,t7⟩)
theorem zhk {M:Model} {A:Around} {E:Value->Shared->Prop} {e:Addr} {fl cls:Value} {dct:Option Addr} {fr:Option Addr} {Q:Unit->Shared->Prop} (O:Own X) (I:Inv X pins σ H s) (x:zi6 s.heap H (Fz X pins) fl e cls dct)
  (hQ:∀ s',Inv X pins σ H s'->zi6 s'.heap H (Fz X pins) (fr.elim .none λf=>rawInt f) e cls dct->Q () s'):wpAny M A (setFlight (.ref e) fr) Q E s:=by
 obtain ⟨oe,vs,a0,h1,h2,h3,h4,h5,h6,h7,h8,T,oT,ts,t1,t2,t3,t4,t5,t6,t7⟩:=x
 have h3s:3<ts.size:=(Array.getElem?_eq_some_iff.mp t5).1
 have aT:=zgO I t3 t4 t6 t7
 have other:∀ b,b≠T->(s.heap.update T (Obj.mapFields (·.setIfInBounds 3 (fr.elim Value.none λf=>rawInt f)))).get? b=s.heap.get? b:=λb hb=>Heap.get?_update_other _ _ (Ne.symm hb)
 unfold setFlight
 refine wpAny_bind (wpAny_field h1 h4 t1 ?_)
 rw [if_pos (show (Value.ref T !=Value.none)=true from by simp)]
 refine wpAny_setField t3 t4 h3s (hQ _ ?_ ?_)
 ·refine I.recs (t':=s.toks) (ch:=[T]) (λb hb=>?_) O.ex (λb o _ hc q=>?_) (λb o hc q=>⟨o.slots,?_⟩)
  ·rw [List.mem_singleton.mp hb];exact aT
  ·exact (other b ↑183).trans q
  ·exact (other b ↑183).trans q
 ·exact ⟨oe,vs,a0,(other e (Ne.symm t2)).trans h1,h2,h3,h4,h5,h6,h7,h8,T,_,_,t1,t2,Heap.get?_update_self _ t3 (Obj.isFreed_of_fields (Obj.data_mapFields t4 _)),Obj.data_mapFields t4 _,by rw [Array.getElem?_setIfInBounds_self_of_lt h3s],t6,t7⟩
end
theorem exc_obj {K:W.Frag} {h:Heap} {C:Addr} {bmB:List Value} {newId:String} (X:K.In h) (q:W.excIn K C bmB newId=true) :
  ∃ bm N nm qn bs hdct sn sub ab col dd k0 k1 k2 k3 k5 mN,h.get? C=some (excClassObj nm qn C N bs bm hdct sn sub ab col dd k0 k1 k2 k3 k5 newId)∧h.Ns N mN∧mN "__init__"=none∧OwnTail h bmB bm:=by
 unfold W.excIn at q
 split at q
 ·rename_i dd cd sl ho
  split at q
  ·rename_i C' bm k0 k1 k2 k3 n k5 hm hs
   simp only [Bool.and_eq_true,beq_iff_eq,Bool.not_eq_true'] at q
   obtain ⟨⟨⟨⟨⟨rfl,rfl⟩,hdel⟩,ht⟩,hok⟩,hni⟩:=q
   obtain ⟨nm,bs,mro,ns,qn,hd,sn,sub,ab,col,del⟩:=cd
   dsimp only at hm hdel hok hni
   subst hm hdel
   have hsl:sl=#[k0,k1,k2,k3,some (.builtin n),k5]:=by
    obtain ⟨l⟩:=sl
    simp only at hs
    rw [hs]
   subst hsl
   exact ⟨bm,ns,nm,qn,bs,hd,sn,sub,ab,col,dd,k0,k1,k2,k3,k5,_,X _ _ ho,.of_isNs (W.isNs_of_in X hok),W.nsMap_none_of_in X hok hni,W.tail_of_in X ht⟩
  ·cases q
 ·cases q
def XP (X:Cx) (pins:List ⇑2) (σ:St) (E:XK) (ev:Value) (s':Shared):Prop :=
 ∃ e cls dct H',ev=.ref e∧Inv X pins σ H' s'∧ExcAt s'.heap H' (Fz X pins) X.env.locals e cls dct∧E cls dct H'
abbrev XS:=St->XK
def XPs (X:Cx) (pins:List ⇑2) (E:XS) (ev:Value) (s':Shared):Prop:=∃ σ',XP X pins σ' (E σ') ev s'
def CXE (P:Program) (w:World):CXT:=λouter H s E ev s'=>∃ e cls dct H',ev=.ref e∧s'.os=s.os∧AllBare s'.gens∧Un (frs outer) [] H H' s.heap s'.heap∧HOk P w H' s'.heap ∧
 zi6 s'.heap H' (λb=>s.heap.get? b=none) .none e cls dct∧E cls dct H'
theorem zaL {P:Program} {w:World} {X:Cx}:zgS ⇑1 X E0:=λ_ _ _ _ _ _ _ h=>by
 obtain ⟨_,_,_,_,_,_,_,_,_,_,f⟩:=h
 exact False.elim f
abbrev TEX:=St->Hp->VK->XK->Prop
def PEX (X:Cx) (e:Expr) (t:TEX):Prop :=
 ∀ (pins:List ⇑2) (s:Shared) (σ:St) (H:Hp) (Q:VK) (E:XK),Inv X pins σ H s->t σ H Q E->wpAny ↑3 X.A (eval e X.env) ↑65 (XP X pins σ E) s
abbrev TSX:=Ends->XS->St->Hp->Prop
def PSX (X:Cx) (st:Stmt) (t:TSX):Prop :=
 ∀ (pins:List ⇑2) (s:Shared) (σ:St) (H:Hp) (D:Ends) (E:XS),Inv X pins σ H s->t D E σ H->wpAny ↑3 X.A (exec st X.env) (SP X pins D) (XPs X pins E) s
def zkh (X:Cx) (st:List Stmt) (t:TSX):Prop :=
 ∀ (pins:List ⇑2) (s:Shared) (σ:St) (H:Hp) (D:Ends) (E:XS),Inv X pins σ H s->t D E σ H->wpAny ↑3 X.A (execs st X.env) (SP X pins D) (XPs X pins E) s
section
variable {X:Cx} {e:Expr} {st:Stmt} {rest:List Stmt} {pos:Pos}
theorem zoU {t:TS} (h:PS X.nox st t):PSX X st (λD _ σ H=>t D σ H):=λpins s σ H D E I hw =>
 wpAny_mono (h pins s σ H D (I.wish _) hw) (λ_ _ q=>SP.unwish q) λ_ _ f=>f.elim
theorem zj9 {sts:List Stmt} {t:TS} (h:PSs X.nox sts t):zkh X sts (λD _ σ H=>t D σ H):=λpins s σ H D E I hw =>
 wpAny_mono (h pins s σ H D (I.wish _) hw) (λ_ _ q=>SP.unwish q) λ_ _ f=>f.elim
theorem zoT:zkh X [] (λD _ σ H=>D.nx σ H):=λ_ _ σ H _ _ I h=>wpAny_execs_nil ⟨σ,H,I,h⟩
theorem zoa {t u:TSX} (h1:PSX X st t) (h2:zkh X rest u):zkh X (st :: rest) (λD E σ H=>t { D with nx:=u D E } E σ H):=by
 intro pins s σ H D E I h
 refine wpAny_execs_cons (thn (h1 pins s σ H { D with nx:=u D E } E I h) λf s1 q=>?_)
 cases f with
 | next =>
  obtain ⟨σ',H',I',q⟩:=q
  exact h2 pins s1 σ' H' D E I' q
 | ret v=>exact q
 | brk=>exact q
 | cont=>exact q
theorem zrZ {c:Expr} {a b:List Stmt} {tc:TT} {t u:TSX} (hc:PT X.nox c tc) (ha:zkh X a t) (hb:zkh X b u):PSX X (.If c a b pos) (λD E σ H=>tc σ H λk H1=>if k=true then t D E σ H1 else u D E σ H1):=by
 intro pins s σ H D E I h
 refine wpAny_If (wpAny_mono (hc pins s σ H _ (I.wish _) h) (λd s1 ⟨H1,I1,q1⟩=>?_) λ_ _ f=>f.elim)
 cases d with
 | true=>exact ha pins s1 σ H1 D E I1.unwish q1
 | false=>exact hb pins s1 σ H1 D E I1.unwish q1
theorem zpa {te:TEX} (he:PEX X e te) (hs:swapsWith e none pos.line X.env=pure false:=by rfl):PSX X (.Expr e pos) (λD E σ H=>te σ H (λ_ H1=>D.nx σ H1) (E σ)):=by
 intro pins s σ H D E I h
 exact wpAny_Expr_any (wpAny_mono (he pins s σ H _ _ I h) (λv s1 ⟨x,H1,I1,r1,q1⟩=>⟨σ,H1,I1,q1⟩) λ_ _ q=>⟨σ,q⟩) I.quiet hs
theorem zqU {i:Nat} {x:Str} {te:TEX} {pos':Pos} (hN:X.N.Nodup) (hi:X.N[i]?=some x) (hx:Loc X.env.scope x) (he:PEX X e te) (hs:swapsWith e (some (.Name x pos')) pos.line X.env=pure false:=by rfl)
  (hf:X.fn x=true∨X.env.scope.names.lookup x=some .local:=by first | exact .inl rfl | exact .inr rfl | assumption) :
  PSX X (.Assign [.Name x pos'] e pos) (λD E σ H=>te σ H (λv H1=>D.nx ↑155 H1) (E σ)):=by
 intro pins s σ H D E I h
 refine wpAny_Assign_Name (wpAny_mono (he pins s σ H _ _ I h) (λv s1 ⟨y,H1,I1,r1,q1⟩=>?_) λ_ _ q=>⟨σ,q⟩) hs
 exact zfo I1 hN hi hx r1 (λs2 I2=>⟨_,H1,I2,q1⟩) hf
end
section
variable {X:Cx} {k:Nat} {ps:List Str} {sp:Sp} {x:Str} {p pos:Pos} {e:Expr} {es:List Expr} {t:TA}
theorem zj7 {pins:List ⇑2} {σ:St} {H:Hp} {s s':Shared} {E:XK} {ev:Value} (O:Own X) (I:Inv X pins σ H s) (h:CXE X.prog X.w X.stack H s E ev s'):XP X pins σ E ev s':=by
 obtain ⟨a,cls,dct,H',rfl,ho,hb,u,hok,x,q⟩:=h
 have I':Inv X pins σ H' s':=I.call' (ch:=[]) ho u hok hb λb hb=>by cases hb
 exact ⟨a,cls,dct,H',rfl,I',(x.imp λb hb=>I.fz O.ex hb).atN,q⟩
theorem zur (O:Own X) (F:Callee X.prog X.w X.K X.mg X.base (CXE X.prog X.w) k x ps sp) (hr:Room k X.A) (hg:Gl X x)
  (ha:PA X.nox (e::es) t) (hdb:↑54=false:=by decide) (he:starEach (e::es) X.env=(false,eval e X.env) :: starEach es X.env:=by rfl) (hpl:(↑79).any (·.1)=false:=by rfl) :
  PEX X ↑172 (λσ H Q E=>t σ H λvs H1=>sp (vs++[]) H1 Q E):=by
 obtain ⟨f,fd,G,hm,hk,hb⟩:=F.ex
 intro pins s σ H Q E I h
 refine wpAny_Call_Name_kw (zg9 I hg hm ?_ hdb)
 refine W.callWith_K (h₀:=X.base) I.ok.mod.kin hk (wpAny_mono (ha pos pins s σ H _ (I.wish _) h) (λus s1 ⟨vs,H1,I1,r,q⟩=>⟨I1.unwish.kIn,?_⟩) λ_ _ f=>f.elim) he hpl
 have I2:=I1.unwish
 have r2:zco (vs++[]) (us++[]):=r.append .nil
 have hl:(us++[]).length=ps.length:=by rw [← r2.length];exact G.len _ _ _ _ q
 refine wpAny_call (codeAny_mono (G.run X.A X.stack s1 H1 ⟨us,[]⟩ (us++[]) (vs++[]) Q E hr I2.env0 (hb s1 us I2.kIn hl) r2 q) λr s' hq=>?_)
 cases r with
 | error e=>exact zj7 O I2 hq
 | ok fl =>
  cases fl with
  | ret u=>exact I2.after hq
  | next=>exact False.elim hq
  | brk=>exact False.elim hq
  | cont=>exact False.elim hq
theorem zn0 {C:Addr} {B newId initId:String} {bmB:List Value} {np cpos:Pos} (O:Own X) (hc:X.calm=true) (hg:Gl X x) (hm:X.mg x=some (.ref C)) (hK:W.excIn X.K C bmB newId=true) (FB:ExcBaseFacts B newId initId bmB)
  (ha:PA X.nox (e::es) t) (hdb:↑54=false:=by decide) (he:starEach (e::es) X.env=(false,eval e X.env) :: starEach es X.env:=by rfl) (hpl:(↑228).any (·.1)=false:=by rfl) :
  PSX X (.Raise (some (.Call (.Name x np) (e::es) [] cpos)) none pos) (λ_ E σ H=>t σ H λvs H1=>vs.length≤sizeLine∧E σ (.ref C) none H1):=by
 intro pins s σ H D E I h
 obtain ⟨tl,N,nm,q,bs,hdct,sn,sub,ab,col,dd,k0,k1,k2,k3,k5,mN,hC,hN,hni,T⟩:=exc_obj I.ok.mod.kin hK
 refine wpAny_Raise_call_subT (C:=C) (nm:=nm) (q:=q) (N:=N) (bs:=bs) (bm:=tl) (hdct:=hdct) (sn:=sn) (sub:=sub) (ab:=ab) (col:=col) (dd:=dd) (k0:=k0) (k1:=k1) (k2:=k2) (k3:=k3) (k5:=k5)
  FB (mN:=mN) (T.hasType FB.hasBase) (I.ok.hd hc) (by rw [he];show (false||(↑228).any (·.1))=false;rw [hpl];rfl) hni (zg9 I hg hm ⟨rfl,?_⟩ hdb)
 have hA:=ha cpos pins s σ H _ (I.wish _) h
 rw [he] at hA ⊢
 refine Calls.evalArgs_plain (wpAny_mono hA (λus s1 ⟨vs,H1,I1,r,hz,qE⟩=>⟨rfl,?_,?_⟩) λ_ _ f=>f.elim)
 ·show us.length≤sizeLine
  rw [← r.length];exact hz
 ·have I2:=I1.unwish
  refine ⟨I2.bk _ _ hC,hN.keeps I2.bk,T.keeps I2.bk,λh' ea hx=>?_⟩
  obtain ⟨tp,hea,_,_⟩:=hx.there
  refine ⟨σ,ea,.ref C,none,H1,rfl,I2.kept (t':=s1.toks) hx.keeps,⟨_,_,_,hea,rfl,rfl,rfl,rfl,by show 1<6;decide,I2.tfree hx.new,I2.fz O.ex hx.new,.inl rfl⟩,qE⟩
end
section
variable {P:Program} {w:World} {K:W.Frag} {mg:Str->Option Value} {base:Heap}
theorem zny {N:List Str} {qual:Str} {scope:Scope} {f:Addr} {cd:Value} {A:Around} {outer:List Env} {s:Shared} {H:Hp} {E:XK} {pins:List ⇑2} {ev:Value} {s':Shared}
  (h:XPs (zkt ⇑1 P w K mg base N qual scope f cd A outer s H E) pins (λ_=>E) ev s'):((zkt ⇑1 P w K mg base N qual scope f cd A outer s H E)).xe ev s':=by
 obtain ⟨σ',e,cls,dct,H',rfl,I,x,q⟩:=h
 have O:Own (zkt ⇑1 P w K mg base N qual scope f cd A outer s H E):=⟨rfl,rfl,rfl⟩
 show wpAny _ _ (leaving _ (.ref e)) _ _ s'
 unfold leaving
 refine wpAny_bind (zlk O I x rfl λs1 I1 x1=>?_)
 refine zhk (fr:=none) O I1 x1 λs2 I2 x2=>?_
 exact ⟨e,cls,dct,H',rfl,I2.os,I2.bare,I2.base,I2.hok,x2.imp (λb hb=>hb.1),q⟩
theorem Fun.okX {x qual:Str} {st:Stmt} {f:Addr} {fd:FuncData} {N ps:List Str} {k:Nat} {sp:Sp} (F:Fun K x qual st f fd) (S:FnScope N ps (zad st)) (len:∀ vs H Q E,sp vs H Q E->vs.length=ps.length)
  (hbody:∀ (cdv:Value) (A:Around) (outer:List Env) (s:Shared) (H:Hp) (vs:List V) (Q:VK) (E:XK),Room k ↑223->sp vs H Q E →
   ∃ t,zkh ↑164 (zaB st) t∧t { nx:=λ_ H'=>Q .non H',rt:=Q } (λ_=>E) (start N vs) H):FnOk P w K mg base ⇑1 (k+1) f fd ps sp:=by
 obtain ⟨oc,od,kV,doc,pm,an,cdv,ct,osl,rfl,lk,hcd⟩:=F.ex
 refine zuf lk hcd S len λA outer s H vs Q E hr hsp=>?_
 obtain ⟨t,h,q⟩:=hbody cdv A outer s H vs Q E hr hsp
 exact ⟨λD σ H=>t D (λ_=>E) σ H,λpins s1 σ H1 D I hw=>wpAny_mono (h pins s1 σ H1 D _ I hw) (λ_ _ q=>q) λ_ _ q=>zny q,q⟩
end
structure Ds where
 pr:Hp->V->Prop
 up:∀ {H H':Hp} {v:V},Same H H'->pr H v->pr H' v
theorem zdG {ds:List Ds} {H H':Hp} (e:Same H H'):∀ {vs:List V} {ds:List Ds},Paired ↑150 vs ds->Paired (λv (d:Ds)=>d.pr H' v) vs ds
 | _,_,.nil=>.nil
 | _,_,.cons (b:=d) h t=>.cons (d.up e h) (zdG (ds:=[]) e t)
theorem zb4 {α β:Type} {R S:α->β->Prop} (h:∀ a b,R a b->S a b):∀ {xs:List α} {ys:List β},Paired R xs ys->Paired S xs ys
 | _,_,.nil=>.nil
 | _,_,.cons q t=>.cons (h _ _ q) (zb4 h t)
theorem zbC {α β:Type} {R:α->β->Prop}:∀ {xs:List α} {ys:List β} {i:Nat} {y:β},Paired R xs ys->ys[i]?=some y->∃ x,xs[i]?=some x∧R x y
 | _,_,_,_,.nil,e=>by simp at e
 | _,_,0,_,.cons r _,e=>by simp at e;subst e;exact ⟨_,rfl,r⟩
 | _,_,i+1,y,.cons _ t,e=>by
  obtain ⟨u,h1,h2⟩:=zbC (i:=i) (y:=y) t ↑160
  exact ⟨u,by simpa using h1,h2⟩
theorem zcY {α β:Type} {R:α->β->Prop}:∀ {xs xs':List α} {ys ys':List β},Paired R xs ys->Paired R xs' ys'->Paired R (xs++xs') (ys++ys')
 | _,_,_,_,.nil,s=>s
 | _,_,_,_,.cons r t,s=>.cons r (zcY t s)
theorem ziz {α β:Type} {R:α->β->Prop} {x:α} {y:β} (r:R x y):∀ {xs:List α} {ys:List β} (i:Nat),Paired R xs ys->Paired R (xs.set i x) (ys.set i y)
 | _,_,_,.nil=>.nil
 | _,_,0,.cons _ t=>.cons r t
 | _,_,i+1,.cons q t=>.cons q (ziz r i t)
theorem zii {α β:Type} {R:α->β->Prop}:∀ {xs:List α} {ys:List β} (n:Nat),Paired R xs ys->Paired R (xs.take n) (ys.take n)
 | _,_,0,_=>.nil
 | _,_,_+1,.nil=>.nil
 | _,_,n+1,.cons r t=>.cons r (zii n t)
theorem zhN {α β:Type} {R:α->β->Prop}:∀ {xs:List α} {ys:List β} (n:Nat),Paired R xs ys->Paired R (xs.drop n) (ys.drop n)
 | _,_,0,r=>r
 | _,_,_+1,.nil=>.nil
 | _,_,n+1,.cons _ t=>zhN n t
theorem ziN {α β:Type} {R:α->β->Prop} {xs:List α} {ys:List β} (h:Paired R xs ys):∀ n:Nat,Paired R (List.replicate n xs).flatten (List.replicate n ys).flatten
 | 0=>.nil
 | n+1=>by
  rw [List.replicate_succ,List.replicate_succ,List.flatten_cons,List.flatten_cons]
  exact zcY h (ziN h n)
abbrev dV (v:V):Ds:=⟨λ_ u=>u=v,λ_ h=>h⟩
abbrev dI (n:Int):Ds:=dV (.int n)
abbrev dB (b:Bool):Ds:=dV (.bl b)
abbrev dN:Ds:=dV .non
abbrev dS (x:Str):Ds:=dV (.str x)
def dL (ds:List Ds):Ds:=⟨λH v=>∃ p vs,v=.ref p∧H p=some (.lst vs)∧Paired ↑150 vs ds,λe ⟨p,vs,h1,h2,h3⟩=>⟨p,vs,h1,e _ _ h2,zdG (ds:=[]) e h3⟩⟩
def dQ (K:W.Frag) (ds:List Ds):Ds:=⟨λH v=>∃ p vs,v=.ref p∧SqL K H p vs∧Paired ↑150 vs ds,λe ⟨p,vs,h1,h2,h3⟩=>⟨p,vs,h1,e.seq h2,zdG (ds:=[]) e h3⟩⟩
def dT (ds:List Ds):Ds:=⟨λH v=>∃ p vs,v=.ref p∧H p=some (.tup vs)∧Paired ↑150 vs ds,λe ⟨p,vs,h1,h2,h3⟩=>⟨p,vs,h1,e _ _ h2,zdG (ds:=[]) e h3⟩⟩
def dO (C:Addr) (fs:List (Str×Ds)):Ds:=⟨λH v=>∃ p dx vs,v=.ref p∧H p=some (.ins C dx vs)∧H dx=some (.own p)∧Paired (λ(a:Str×V) (b:Str×Ds)=>a.1=b.1∧b.2.pr H a.2) vs fs,
 λe ⟨p,dx,vs,h1,h2,h3,h4⟩=>⟨p,dx,vs,h1,e _ _ h2,e _ _ h3,zb4 (λ_ b q=>⟨q.1,b.2.up e q.2⟩) h4⟩⟩
class Enc (α:Type) where
 d:α->Ds
instance:Enc Int:=⟨dI⟩
instance:Enc Bool:=⟨dB⟩
instance:Enc Unit:=⟨λ_=>dN⟩
instance:Enc Str:=⟨dS⟩
instance {α:Type} [Enc α]:Enc (List α):=⟨λxs=>dL (xs.map Enc.d)⟩
instance {α β:Type} [Enc α] [Enc β]:Enc (α×β):=⟨λp=>dT [Enc.d p.1,Enc.d p.2]⟩
instance {α:Type} [Enc α]:Enc (Option α):=⟨λo=>match o with | none=>dN | some x=>Enc.d x⟩
structure T3 (α β γ:Type) where
 a:α
 b:β
 c:γ
instance {α β γ:Type} [Enc α] [Enc β] [Enc γ]:Enc (T3 α β γ):=⟨λp=>dT [Enc.d p.a,Enc.d p.b,Enc.d p.c]⟩
structure Grow (F H F' H':Hp):Prop where
 f:Same F F'
 fh:Same F' H'
 h:Same H H'
 no:∀ a,H a≠none->F a=none->F' a=none
theorem Grow.refl {F H:Hp} (e:Same F H):Grow F H F H:=⟨Same.refl _,e,Same.refl _,λ_ _ h=>h⟩
theorem Same.some {H H':Hp} (e:Same H H') {a:Addr} (h:H a≠none):H' a≠none:=by
 cases q:H a with
 | none=>exact absurd q h
 | some o=>rw [e _ _ q];simp
theorem Grow.trans {F H F' H' F'' H'':Hp} (g:Grow F H F' H') (k:Grow F' H' F'' H''):Grow F H F'' H'' :=
 ⟨g.f.trans k.f,k.fh,g.h.trans k.h,λa h1 h2=>k.no a (g.h.some h1) (g.no a h1 h2)⟩
theorem Grow.new {F H F' H':Hp} (g:Grow F H F' H') {p:Addr} {o:HO} (hp:H' p=none):Grow F H (upd F' p o) (upd H' p o):=by
 have hf:F' p=none:=by
  cases q:F' p with
  | none=>rfl
  | some u=>rw [g.fh _ _ q] at hp;cases hp
 refine ⟨g.f.trans (Same.new hf _),λa u q=>?_,g.h.trans (Same.new hp _),λa h1 h2=>?_⟩
 ·by_cases e:a=p
  ·subst e;rw [zaE] at q ⊢;exact q
  ·rw [zat e] at q ⊢;exact g.fh _ _ q
 ·have:a≠p:=λe=>by subst e;exact (g.h.some h1) hp
  rw [zat this];exact g.no a h1 h2
theorem Grow.newH {F H F' H':Hp} (g:Grow F H F' H') {p:Addr} {o:HO} (hp:H' p=none):Grow F H F' (upd H' p o) :=
 ⟨g.f,g.fh.trans (Same.new hp _),g.h.trans (Same.new hp _),g.no⟩
theorem Grow.setH {F H F' H':Hp} (g:Grow F H F' H') {p:Addr} {o:HO} (hf:F' p=none) (hp:H p=none):Grow F H F' (upd H' p o) :=
 ⟨g.f,λa u q=>by rw [zat (zaY q hf)];exact g.fh _ _ q,λa u q=>by rw [zat (zaY q hp)];exact g.h _ _ q,g.no⟩
theorem Grow.take {F H F' H':Hp} (g:Grow F H F' H') {p:Addr} {o:HO} (hp:H p=none) (e:H' p=some o):Grow F H (upd F' p o) H':=by
 refine ⟨λa u q=>?_,λa u q=>?_,g.h,λa h1 h2=>?_⟩
 ·by_cases z:a=p
  ·subst z
   have:=g.fh _ _ (g.f _ _ q)
   rw [e] at this;cases this;exact zaE
  ·rw [zat z];exact g.f _ _ q
 ·by_cases z:a=p
  ·subst z;rw [zaE] at q;cases q;exact e
  ·rw [zat z] at q;exact g.fh _ _ q
 ·have:a≠p:=λz=>by subst z;exact h1 hp
  rw [zat this];exact g.no a h1 h2
def off (F Hb:Hp):Hp:=λa=>match Hb a with | none=>F a | some _=>none
theorem zcK {F Hb:Hp} {a:Addr} {o:HO}:off F Hb a=some o ↔ Hb a=none∧F a=some o:=by
 unfold off
 cases q:Hb a with
 | none=>simp
 | some u=>simp
theorem zmO {F F' Hb:Hp} (e:Same F F'):Same (off F Hb) (off F' Hb):=λa o q=>by
 rw [zcK] at q ⊢;exact ⟨q.1,e _ _ q.2⟩
theorem zmP {F Hb:Hp}:Same (off F Hb) F:=λa o q=>(zcK.mp q).2
theorem zkL {F Hb Hc:Hp} (e:Same Hb Hc):Same (off F Hc) (off F Hb):=λa o q=>by
 rw [zcK] at q ⊢
 refine ⟨?_,q.2⟩
 cases z:Hb a with
 | none=>rfl
 | some u=>rw [e _ _ z] at q;cases q.1
def part (m:Bool) (F Hb:Hp):Hp:=match m with | true=>off F Hb | false=>F
theorem zbi {m:Bool} {F F' Hb:Hp} (e:Same F F'):Same (part m F Hb) (part m F' Hb):=by
 cases m with
 | true=>exact zmO e
 | false=>exact e
theorem zbb {m:Bool} {F Hb:Hp}:Same (part m F Hb) F:=by
 cases m with
 | true=>exact zmP
 | false=>exact Same.refl _
theorem zeY {m:Bool} {F Hb:Hp} {p:Addr} {o:HO} (hb:Hb p=none) (hp:F p=some o):part m F Hb p=some o:=by
 cases m with
 | true=>exact zcK.mpr ⟨hb,hp⟩
 | false=>exact hp
inductive Slot where
 | no
 | va (m:Bool) (d:Ds)
 | ow (m:Bool) (ds:List Ds)
 | ob (m:Bool) (C p dx:Addr) (fs:List (Str×Ds))
 | tl (d:Ds)
 | ol (p:Addr) (ds:List Ds)
abbrev Ctx:=List Slot
def zgN (Hb F H:Hp) (own:Nat->Option Addr) (i:Nat) (v:Option V):Slot->Prop
 | .tl d=>∃ x R,v=some x∧Same R H∧(∀ a o,R a=some o->F a=none∧Hb a=none)∧(∀ j p,own j=some p->R p=none)∧d.pr R x
 | .no=>True
 | .va m d=>∃ x,v=some x∧d.pr (part m F Hb) x
 | .ow m ds=>∃ p vs,v=some (.ref p)∧own i=some p∧F p=none∧Hb p=none∧H p=some (.lst vs)∧Paired ↑197 vs ds
 | .ol p ds=>∃ vs,v=some (.ref p)∧own i=some p∧F p=none∧Hb p=none∧H p=some (.lst vs)∧Paired (λv (d:Ds)=>d.pr F v) vs ds
 | .ob m C p dx fs=>∃ vs,v=some (.ref p)∧own i=some p∧(F p=none∧F dx=none)∧(Hb p=none∧Hb dx=none)∧(H p=some (.ins C dx vs)∧H dx=some (.own p))∧Paired (λ(a:Str×V) (b:Str×Ds)=>a.1=b.1∧b.2.pr (part m F Hb) a.2) vs fs
structure At (F0 Hb F H:Hp) (σ:St) (own:Nat->Option Addr) (Γ:Ctx):Prop where
 g:Grow F0 Hb F H
 inj:∀ i j p,own i=some p->own j=some p->i=j
 liv:∀ i p,own i=some p->H p≠none
 sl:∀ i s,Γ[i]?=some s->zgN Hb F H own i (σ[i]?).join s
 len:σ.length=Γ.length
theorem zgN.grow {Hb F H F' H':Hp} {own:Nat->Option Addr} {i:Nat} {v:Option V} {s:Slot} (h:zgN Hb F H own i v s) (g:Grow F H F' H'):zgN Hb F' H' own i v s:=by
 cases s with
 | no=>trivial
 | tl d =>
  obtain ⟨x,R,e,h1,h2,h3,h4⟩:=h
  exact ⟨x,R,e,h1.trans g.h,λa o q=>⟨g.no a (by rw [h1 _ _ q];simp) (h2 a o q).1,(h2 a o q).2⟩,h3,h4⟩
 | va m d=>obtain ⟨x,e,q⟩:=h;exact ⟨x,e,d.up (zbi g.f) q⟩
 | ow m ds =>
  obtain ⟨p,vs,e,ho,hf,hb,hp,q⟩:=h
  exact ⟨p,vs,e,ho,g.no p (by rw [hp];simp) hf,hb,g.h _ _ hp,zdG (ds:=[]) (zbi g.f) q⟩
 | ol p ds =>
  obtain ⟨vs,e,ho,hf,hb,hp,q⟩:=h
  exact ⟨vs,e,ho,g.no p (by rw [hp];simp) hf,hb,g.h _ _ hp,zdG (ds:=[]) g.f q⟩
 | ob m C p dx fs =>
  obtain ⟨vs,e,ho,hf,hb,hp,q⟩:=h
  exact ⟨vs,e,ho,⟨g.no p (by rw [hp.1];simp) hf.1,g.no dx (by rw [hp.2];simp) hf.2⟩,hb,⟨g.h _ _ hp.1,g.h _ _ hp.2⟩,zb4 (λ_ b z=>⟨z.1,b.2.up (zbi g.f) z.2⟩) q⟩
theorem At.grow {F0 Hb F H F' H':Hp} {σ:St} {own:Nat->Option Addr} {Γ:Ctx} (a:At F0 Hb F H σ own Γ) (g:Grow F H F' H'):At F0 Hb F' H' σ own Γ :=
 ⟨a.g.trans g,a.inj,λi p e=>g.h.some (a.liv i p e),λi s e=>(a.sl i s e).grow g,a.len⟩
theorem At.fh {F0 Hb F H:Hp} {σ:St} {own:Nat->Option Addr} {Γ:Ctx} (a:At F0 Hb F H σ own Γ):Same F H:=a.g.fh
theorem zfq {σ:St} {i:Nat} {x:Option V} (h:i<σ.length):((σ.set i x)[i]?).join=x:=by
 rw [List.getElem?_set_self h];rfl
theorem zgF {σ:St} {i j:Nat} {x:Option V} (h:i≠j):((σ.set i x)[j]?).join=(σ[j]?).join:=by
 rw [List.getElem?_set_ne h]
theorem At.set {F0 Hb F H:Hp} {σ:St} {own:Nat->Option Addr} {Γ:Ctx} (a:At F0 Hb F H σ own Γ) (i:Nat) {m:Bool} {d:Ds} {v:V} (h:d.pr (part m F Hb) v) :
  At F0 Hb F H ↑155 own (Γ.set i (.va m d)):=by
 refine ⟨a.g,a.inj,a.liv,λj s e=>?_,by simp [a.len]⟩
 by_cases z:i=j
 ·subst z
  have hi:i<Γ.length:=by
   have:=(↑52).1
   simpa using this
  rw [List.getElem?_set_self hi] at e
  cases e
  rw [zfq (by rw [a.len];exact hi)]
  exact ⟨v,rfl,h⟩
 ·rw [List.getElem?_set_ne z] at e
  rw [zgF z]
  exact a.sl j s e
theorem At.setOwn {F0 Hb F1 H1 F H:Hp} {σ:St} {own:Nat->Option Addr} {Γ:Ctx} (a1:At F0 Hb F1 H1 σ own Γ) (g:Grow F1 H1 F H) (i:Nat) {m:Bool} {ds:List Ds} {p:Addr} {vs:List V} (h1:H1 p=none) (hf:F p=none) (hp:H p=some (.lst vs))
  (h:Paired ↑197 vs ds):At F0 Hb F H (σ.set i (some (.ref p))) (λj=>if j=i then some p else own j) (Γ.set i (.ow m ds)):=by
 have a:=a1.grow g
 have hb:Hb p=none:=a1.g.h.free h1
 have ho:∀ j,own j≠some p:=λj e=>a1.liv j p e h1
 refine ⟨a.g,λj k q e1 e2=>?_,λj q e=>?_,λj s e=>?_,by simp [a.len]⟩
 ·skip
  split at e1<;>split at e2
  ·omega
  ·cases e1;exact absurd e2 (ho k)
  ·cases e2;exact absurd e1 (ho j)
  ·exact a.inj j k q e1 e2
 ·skip
  split at e
  ·cases e;rw [hp];simp
  ·exact a.liv j q e
 ·by_cases z:i=j
  ·subst z
   have hi:i<Γ.length:=by
    have:=(↑52).1
    simpa using this
   rw [List.getElem?_set_self hi] at e
   cases e
   rw [zfq (by rw [a.len];exact hi)]
   exact ⟨p,vs,rfl,by simp,hf,hb,hp,h⟩
  ·rw [List.getElem?_set_ne z] at e
   rw [zgF z]
   have z':¬ j=i:=Ne.symm z
   cases s with
   | tl d =>
    obtain ⟨x,R,q1,q2,q3,q4,q5⟩:=a1.sl j _ e
    refine ⟨x,R,q1,q2.trans g.h,λb o w=>⟨g.no b (by rw [q2 _ _ w];simp) (q3 b o w).1,(q3 b o w).2⟩,λk q w=>?_,q5⟩
    dsimp only at w
    split at w
    ·cases w;exact q2.free h1
    ·exact q4 k q w
   | no=>trivial
   | va m d=>exact a.sl j _ e
   | ow m ds =>
    obtain ⟨q,us,w1,w2,w3⟩:=a.sl j _ e
    exact ⟨q,us,w1,(if_neg z').trans w2,w3⟩
   | ol q ds =>
    obtain ⟨us,w1,w2,w3⟩:=a.sl j _ e
    exact ⟨us,w1,(if_neg z').trans w2,w3⟩
   | ob m C q dx fs =>
    obtain ⟨us,w1,w2,w3⟩:=a.sl j _ e
    exact ⟨us,w1,(if_neg z').trans w2,w3⟩
theorem At.turn {F0 Hb F H:Hp} {σ:St} {own:Nat->Option Addr} {Γ:Ctx} (a:At F0 Hb F H σ own Γ) {i:Nat} {m n:Bool} {ds es:List Ds} {p:Addr} {ws:List V} (e:Γ[i]?=some (.ow m ds)) (ep:σ[i]?=some (some (.ref p)))
  (h:Paired (λv (d:Ds)=>d.pr (part n F Hb) v) ws es):At F0 Hb F (upd H p (.lst ws)) σ own (Γ.set i (.ow n es)):=by
 obtain ⟨p',vs,e1,e2,hf,hb,hp,_⟩:=a.sl i _ e
 rw [ep] at e1
 have e1':p=p':=by
  have:some (V.ref p)=some (V.ref p'):=e1
  cases this;rfl
 subst e1'
 refine ⟨a.g.setH hf hb,a.inj,λj q ej=>?_,λj s es'=>?_,by simp [a.len]⟩
 ·by_cases z:q=p
  ·subst z;rw [zaE];simp
  ·rw [zat z];exact a.liv j q ej
 ·by_cases z:i=j
  ·subst z
   have hi:i<Γ.length:=(↑52).1
   rw [List.getElem?_set_self hi] at es'
   cases es'
   exact ⟨p,ws,by rw [ep];rfl,e2,hf,hb,zaE,h⟩
  ·rw [List.getElem?_set_ne z] at es'
   have:=a.sl j s es'
   cases s with
   | no=>trivial
   | tl d =>
    obtain ⟨x,R,q1,q2,q3,q4,q5⟩:=this
    exact ⟨x,R,q1,λb o w=>by rw [zat (zaY w (q4 i p e2))];exact q2 b o w,q3,q4,q5⟩
   | va m d=>exact this
   | ow m ds =>
    obtain ⟨q,us,h1,h2,h3,h4,h5,h6⟩:=this
    have:q≠p:=λw=>by subst w;exact z ↑83
    exact ⟨q,us,h1,h2,h3,h4,by rw [zat this];exact h5,h6⟩
   | ol q ds =>
    obtain ⟨us,h1,h2,h3,h4,h5,h6⟩:=this
    have:q≠p:=λw=>by subst w;exact z ↑83
    exact ⟨us,h1,h2,h3,h4,by rw [zat this];exact h5,h6⟩
   | ob m C q dx fs =>
    obtain ⟨us,h1,h2,h3,h4,h5,h6⟩:=this
    have n1:q≠p:=λw=>by subst w;exact z ↑83
    have n2:dx≠p:=zjh h5.2 hp ↑112
    exact ⟨us,h1,h2,h3,h4,⟨by rw [zat n1];exact h5.1,by rw [zat n2];exact h5.2⟩,h6⟩
theorem At.turnOb {F0 Hb F H:Hp} {σ:St} {own:Nat->Option Addr} {Γ:Ctx} (a:At F0 Hb F H σ own Γ) {i:Nat} {m n:Bool} {C p dx:Addr} {fs gs:List (Str×Ds)} {ws:List (Str×V)} (e:Γ[i]?=some (.ob m C p dx fs))
  (h:Paired (λ(a:Str×V) (b:Str×Ds)=>a.1=b.1∧b.2.pr (part n F Hb) a.2) ws gs):At F0 Hb F (upd H p (.ins C dx ws)) σ own (Γ.set i (.ob n C p dx gs)):=by
 obtain ⟨vs,e1,e2,hf,hb,hp,_⟩:=a.sl i _ e
 have ndp:dx≠p:=zjh hp.2 hp.1 ↑112
 refine ⟨a.g.setH hf.1 hb.1,a.inj,λj q ej=>?_,λj s es'=>?_,by simp [a.len]⟩
 ·by_cases z:q=p
  ·subst z;rw [zaE];simp
  ·rw [zat z];exact a.liv j q ej
 ·by_cases z:i=j
  ·subst z
   have hi:i<Γ.length:=(↑52).1
   rw [List.getElem?_set_self hi] at es'
   cases es'
   exact ⟨ws,e1,e2,hf,hb,⟨zaE,by rw [zat ndp];exact hp.2⟩,h⟩
  ·rw [List.getElem?_set_ne z] at es'
   have:=a.sl j s es'
   cases s with
   | no=>trivial
   | tl d =>
    obtain ⟨x,R,q1,q2,q3,q4,q5⟩:=this
    exact ⟨x,R,q1,λb o w=>by rw [zat (zaY w (q4 i p e2))];exact q2 b o w,q3,q4,q5⟩
   | va m d=>exact this
   | ow m ds =>
    obtain ⟨q,us,h1,h2,h3,h4,h5,h6⟩:=this
    have:q≠p:=λw=>by subst w;exact z ↑83
    exact ⟨q,us,h1,h2,h3,h4,by rw [zat this];exact h5,h6⟩
   | ol q ds =>
    obtain ⟨us,h1,h2,h3,h4,h5,h6⟩:=this
    have:q≠p:=λw=>by subst w;exact z ↑83
    exact ⟨us,h1,h2,h3,h4,by rw [zat this];exact h5,h6⟩
   | ob m C q dy fs =>
    obtain ⟨us,h1,h2,h3,h4,h5,h6⟩:=this
    have n1:q≠p:=λw=>by subst w;exact z ↑83
    have n2:dy≠p:=zjh h5.2 hp.1 ↑112
    exact ⟨us,h1,h2,h3,h4,⟨by rw [zat n1];exact h5.1,by rw [zat n2];exact h5.2⟩,h6⟩
inductive Wk:Ctx->Ctx->Prop where
 | nil:Wk [] []
 | eq {s Γ Δ}:Wk Γ Δ->Wk (s :: Γ) (s :: Δ)
 | no {s Γ Δ}:Wk Γ Δ->Wk (s :: Γ) (.no :: Δ)
 | old {m d Γ Δ}:Wk Γ Δ->Wk (.va m d :: Γ) (.va false d :: Δ)
 | oldL {m d Γ Δ}:Wk Γ Δ->Wk (.ow m d :: Γ) (.ow false d :: Δ)
theorem Wk.refl:∀ Γ:Ctx,Wk Γ Γ
 | []=>.nil
 | _ :: Γ=>.eq (Wk.refl Γ)
theorem Wk.len {Γ Δ:Ctx} (h:Wk Γ Δ):Γ.length=Δ.length:=by
 induction h<;>simp_all
theorem Wk.slot {Γ Δ:Ctx} (h:Wk Γ Δ):∀ {i:Nat} {s:Slot},Δ[i]?=some s->∃ r,Γ[i]?=some r∧∀ {Hb F H:Hp} {own:Nat->Option Addr} {j:Nat} {v:Option V},zgN Hb F H own j v r->zgN Hb F H own j v s:=by
 induction h with
 | nil=>intro i s e;simp at e
 | eq _ ih =>
  intro i s e
  cases i with
  | zero=>simp at e;subst e;exact ⟨_,rfl,λh=>h⟩
  | succ i=>simpa using ih (i:=i) (s:=s) ↑160
 | no _ ih =>
  intro i s e
  cases i with
  | zero=>simp at e;subst e;exact ⟨_,rfl,λ_=>trivial⟩
  | succ i=>simpa using ih (i:=i) (s:=s) ↑160
 | old _ ih =>
  intro i s e
  cases i with
  | zero=>simp at e;subst e;exact ⟨_,rfl,λ⟨x,h1,h2⟩=>⟨x,h1,Ds.up _ zbb h2⟩⟩
  | succ i=>simpa using ih (i:=i) (s:=s) ↑160
 | oldL _ ih =>
  intro i s e
  cases i with
  | zero=>simp at e;subst e;exact ⟨_,rfl,λ⟨p,vs,h1,h2,h3,h4,h5,h6⟩=>⟨p,vs,h1,h2,h3,h4,h5,zdG (ds:=[]) zbb h6⟩⟩
  | succ i=>simpa using ih (i:=i) (s:=s) ↑160
theorem At.wk {F0 Hb F H:Hp} {σ:St} {own:Nat->Option Addr} {Γ Δ:Ctx} (a:At F0 Hb F H σ own Γ) (w:Wk Γ Δ):At F0 Hb F H σ own Δ :=
 ⟨a.g,a.inj,a.liv,λi s e=>by
  obtain ⟨r,e1,h⟩:=w.slot e
  exact h (a.sl i r e1),by rw [a.len,w.len]⟩
theorem At.share {F0 Hb F H:Hp} {σ:St} {own:Nat->Option Addr} {Γ:Ctx} (a:At F0 Hb F H σ own Γ) {i:Nat} {m:Bool} {ds:List Ds} (e:Γ[i]?=some (.ow m ds)) :
  ∃ F' own',Grow F0 Hb F' H∧At F0 Hb F' H σ own' (Γ.set i (.va m (dL ds))):=by
 obtain ⟨p,vs,e1,e2,hf,hb,hp,hq⟩:=a.sl i _ e
 have g:=a.g.take hb hp
 have fs:Same F (upd F p (.lst vs)):=Same.new hf _
 refine ⟨upd F p (.lst vs),λj=>if j=i then none else own j,g,g,λj k q h1 h2=>?_,λj q h1=>?_,λj s es=>?_,by simp [a.len]⟩
 ·skip
  split at h1
  ·cases h1
  ·split at h2
   ·cases h2
   ·exact a.inj j k q h1 h2
 ·skip
  split at h1
  ·cases h1
  ·exact a.liv j q h1
 ·by_cases z:i=j
  ·subst z
   have hi:i<Γ.length:=(↑52).1
   rw [List.getElem?_set_self hi] at es
   cases es
   exact ⟨.ref p,e1,p,vs,rfl,zeY hb zaE,zdG (ds:=[]) (zbi fs) hq⟩
  ·rw [List.getElem?_set_ne z] at es
   have z':¬ j=i:=Ne.symm z
   have:=a.sl j s es
   cases s with
   | no=>trivial
   | tl d =>
    obtain ⟨x,R,q1,q2,q3,q4,q5⟩:=this
    refine ⟨x,R,q1,q2,λb o w=>⟨by rw [zat (zaY w (q4 i p e2))];exact (q3 b o w).1,(q3 b o w).2⟩,λk q w=>?_,q5⟩
    dsimp only at w
    split at w
    ·cases w
    ·exact q4 k q w
   | va m d=>obtain ⟨x,h1,h2⟩:=this;exact ⟨x,h1,d.up (zbi fs) h2⟩
   | ow m ds =>
    obtain ⟨q,us,h1,h2,h3,h4,h5,h6⟩:=this
    have:q≠p:=λw=>by subst w;exact z ↑83
    exact ⟨q,us,h1,(if_neg z').trans h2,by rw [zat this];exact h3,h4,h5,zdG (ds:=[]) (zbi fs) h6⟩
   | ol q ds =>
    obtain ⟨us,h1,h2,h3,h4,h5,h6⟩:=this
    have:q≠p:=λw=>by subst w;exact z ↑83
    exact ⟨us,h1,(if_neg z').trans h2,by rw [zat this];exact h3,h4,h5,zdG (ds:=[]) fs h6⟩
   | ob m C q dx gs =>
    obtain ⟨us,h1,h2,h3,h4,h5,h6⟩:=this
    have n1:q≠p:=λw=>by subst w;exact z ↑83
    have n2:dx≠p:=zjh h5.2 hp ↑112
    exact ⟨us,h1,(if_neg z').trans h2,⟨by rw [zat n1];exact h3.1,by rw [zat n2];exact h3.2⟩,h4,h5,zb4 (λ_ b z=>⟨z.1,b.2.up (zbi fs) z.2⟩) h6⟩
def Ev (Γ:Ctx) (t:TE) (m:Bool) (d:Ds):Prop:=∀ (F0 Hb F H:Hp) (σ:St) (own:Nat->Option Addr) (Q:VK),At F0 Hb F H σ own Γ →
 (∀ v F' H',Grow F H F' H'->d.pr (part m F' Hb) v->Q v H')->t σ H Q
def EvO (Γ:Ctx) (t:TE) (m:Bool) (ds:List Ds):Prop:=∀ (F0 Hb F H:Hp) (σ:St) (own:Nat->Option Addr) (Q:VK),At F0 Hb F H σ own Γ →
 (∀ p vs F' H',Grow F H F' H'->H p=none->F' p=none->H' p=some (.lst vs)->Paired (λv (d:Ds)=>d.pr (part m F' Hb) v) vs ds->Q (.ref p) H')->t σ H Q
def EvT (Γ:Ctx) (t:TT) (b:Bool):Prop:=∀ (F0 Hb F H:Hp) (σ:St) (own:Nat->Option Addr) (Q:Bool->Hp->Prop),At F0 Hb F H σ own Γ →
 (∀ F' H',Grow F H F' H'->Q b H')->t σ H Q
def EvA (Γ:Ctx) (t:TA) (m:Bool) (ds:List Ds):Prop:=∀ (F0 Hb F H:Hp) (σ:St) (own:Nat->Option Addr) (Q:List V->Hp->Prop),At F0 Hb F H σ own Γ →
 (∀ vs F' H',Grow F H F' H'->Paired (λv (d:Ds)=>d.pr (part m F' Hb) v) vs ds->Q vs H')->t σ H Q
def EvP (Γ:Ctx) (t:TO) (i:Option Int):Prop:=∀ (F0 Hb F H:Hp) (σ:St) (own:Nat->Option Addr) (Q:Option Int->Hp->Prop),At F0 Hb F H σ own Γ →
 (∀ F' H',Grow F H F' H'->Q i H')->t σ H Q
theorem At.free {F0 Hb F H:Hp} {σ:St} {own:Nat->Option Addr} {Γ:Ctx} (a:At F0 Hb F H σ own Γ) {F' H':Hp} (g:Grow F H F' H') {p:Addr} (h:H' p=none):H p=none∧F' p=none∧Hb p=none:=by
 have h1:=g.h.free h
 exact ⟨h1,g.fh.free h,a.g.h.free h1⟩
section
variable {Γ:Ctx} {t ta tb:TE} {m n:Bool} {d e:Ds} {ds es:List Ds} {K:W.Frag}
theorem Ev.old (h:Ev Γ t m d):Ev Γ t false d:=λF0 Hb F H σ own Q a k=>h F0 Hb F H σ own Q a λv F' H' g q=>k v F' H' g (d.up zbb q)
theorem Ev.conv (h:Ev Γ t m d) (e':d=e):Ev Γ t m e:=e' ▸ h
theorem EvO.conv (h:EvO Γ t m ds) (e':ds=es):EvO Γ t m es:=e' ▸ h
theorem EvT.conv {t:TT} {b c:Bool} (h:EvT Γ t b) (e':b=c):EvT Γ t c:=e' ▸ h
theorem EvO.ev (h:EvO Γ t m ds):Ev Γ t m (dL ds):=λF0 Hb F H σ own Q a k=>h F0 Hb F H σ own Q a λp vs F' H' g h1 h2 h3 q=>by
 have fs:Same F' (upd F' p (.lst vs)):=Same.new h2 _
 exact k (.ref p) (upd F' p (.lst vs)) H' (g.take h1 h3) ⟨p,vs,rfl,zeY (a.g.h.free h1) zaE,zdG (ds:=[]) (zbi fs) q⟩
theorem Ev.weak (h:Ev Γ t m (dL ds)):Ev Γ t m (dQ K ds):=λF0 Hb F H σ own Q a k=>h F0 Hb F H σ own Q a λv F' H' g ⟨p,vs,h1,h2,h3⟩=>k v F' H' g ⟨p,vs,h1,SqL.of h2,h3⟩
theorem zaa {i:Nat} (h:Γ[i]?=some (.va m d)):Ev Γ (zis i) m d:=λF0 Hb F H σ own Q a k=>by
 obtain ⟨x,e,q⟩:=a.sl i _ h
 have hi:i<σ.length:=by rw [a.len];exact ((List.getElem?_eq_some_iff.mp h)).1
 rw [List.getElem?_eq_getElem hi] at e
 have e':σ[i]=some x:=e
 exact ⟨x,by rw [List.getElem?_eq_getElem hi,e'],k x F H (Grow.refl a.fh) q⟩
theorem zaD {v:V}:Ev Γ (tC v) m (dV v):=λF0 Hb F H σ own Q a k=>k v F H (Grow.refl a.fh) rfl
theorem zaX {g:Int->Int->V} {x y:Int} (h1:Ev Γ ta false (dI x)) (h2:Ev Γ tb false (dI y)):Ev Γ (tOp (rI0 g) ta tb) m (dV (g x y)):=λF0 Hb F H σ own Q a k =>
 h1 F0 Hb F H σ own _ a λu F1 H1 g1 q1=>h2 F0 Hb F1 H1 σ own _ ↑20 λv F2 H2 g2 q2=>⟨x,y,q1,q2,k _ F2 H2 ↑48 rfl⟩
theorem zaN {C:Int->Int->Prop} {g:Int->Int->V} {x y:Int} (h1:Ev Γ ta false (dI x)) (h2:Ev Γ tb false (dI y)) (c:C x y):Ev Γ (tOp (rI C g) ta tb) m (dV (g x y)):=λF0 Hb F H σ own Q a k =>
 h1 F0 Hb F H σ own _ a λu F1 H1 g1 q1=>h2 F0 Hb F1 H1 σ own _ ↑20 λv F2 H2 g2 q2=>⟨x,y,q1,q2,c,k _ F2 H2 ↑48 rfl⟩
theorem zpf {g:Int->V} {x:Int} (h1:Ev Γ ta false (dI x)):Ev Γ (tUn (rU g) ta) m (dV (g x)):=λF0 Hb F H σ own Q a k =>
 h1 F0 Hb F H σ own _ a λu F1 H1 g1 q1=>⟨x,q1,k _ F1 H1 g1 rfl⟩
theorem zto {v w:V} (h1:Ev Γ ta false (dV v)) (h2:Ev Γ tb false (dV w)) (hs:scal v w=true):Ev Γ (tOp rEq ta tb) m (dB (decide (v=w))):=λF0 Hb F H σ own Q a k =>
 h1 F0 Hb F H σ own _ a λu F1 H1 g1 q1=>h2 F0 Hb F1 H1 σ own _ ↑20 λv F2 H2 g2 q2=>by
  cases q1;cases q2;exact ⟨hs,k _ F2 H2 ↑48 rfl⟩
theorem zuA {v w:V} (h1:Ev Γ ta false (dV v)) (h2:Ev Γ tb false (dV w)) (hs:scal v w=true):Ev Γ (tOp rNe ta tb) m (dB (!decide (v=w))):=λF0 Hb F H σ own Q a k =>
 h1 F0 Hb F H σ own _ a λu F1 H1 g1 q1=>h2 F0 Hb F1 H1 σ own _ ↑20 λv F2 H2 g2 q2=>by
  cases q1;cases q2;exact ⟨hs,k _ F2 H2 ↑48 rfl⟩
theorem zmW (x y:Int):decide (V.int x=V.int y)=decide (x=y):=by simp
theorem zeN {x y:Int} (h1:Ev Γ ta false (dI x)) (h2:Ev Γ tb false (dI y)):Ev Γ (tOp rEq ta tb) m (dB (decide (x=y))):=(zto h1 h2 rfl).conv (by rw [zmW])
theorem zeg {x y:Int} (h1:Ev Γ ta false (dI x)) (h2:Ev Γ tb false (dI y)):Ev Γ (tOp rNe ta tb) m (dB (!decide (x=y))):=(zuA h1 h2 rfl).conv (by rw [zmW])
theorem zq6 (x y:Str):decide (V.str x=V.str y)=decide (x=y):=by simp
theorem zts {x y:Str} (h1:Ev Γ ta false (dS x)) (h2:Ev Γ tb false (dS y)):Ev Γ (tOp rEq ta tb) m (dB (decide (x=y))):=(zto h1 h2 rfl).conv (by rw [zq6])
theorem zay {b:Bool} (h:Ev Γ t false (dB b)):EvT Γ (zrK t) b:=λF0 Hb F H σ own Q a k=>h F0 Hb F H σ own _ a λv F' H' g q=>⟨b,q,k F' H' g⟩
theorem zgC {b:Bool} (h:Ev Γ t false (dB b)):EvT Γ (tB t) b:=λF0 Hb F H σ own Q a k=>h F0 Hb F H σ own _ a λv F' H' g q=>⟨b,q,k F' H' g⟩
theorem zho {t:TT} {b:Bool} (h:EvT Γ t b):EvT Γ (zvc t) (!b):=λF0 Hb F H σ own Q a k=>h F0 Hb F H σ own _ a λF' H' g=>k F' H' g
theorem zjf {t u:TT} {b c:Bool} (h:EvT Γ t b) (h2:b=true->EvT Γ u c):EvT Γ (zu4 t u) (b&&c):=λF0 Hb F H σ own Q a k=>h F0 Hb F H σ own _ a λF' H' g=>by
 cases b with
 | true=>exact h2 rfl F0 Hb F' H' σ own Q ↑22 λF2 H2 g2=>k F2 H2 (g.trans g2)
 | false=>exact k F' H' g
theorem zhX {t u:TT} {b c:Bool} (h:EvT Γ t b) (h2:b=false->EvT Γ u c):EvT Γ (tOr t u) (b||c):=λF0 Hb F H σ own Q a k=>h F0 Hb F H σ own _ a λF' H' g=>by
 cases b with
 | false=>exact h2 rfl F0 Hb F' H' σ own Q ↑22 λF2 H2 g2=>k F2 H2 (g.trans g2)
 | true=>exact k F' H' g
theorem zk9 {b c:Bool} (h:Ev Γ ta false (dB b)) (h2:b=true->Ev Γ tb false (dB c)):Ev Γ (zsA ta tb) m (dB (b&&c)):=λF0 Hb F H σ own Q a k=>h F0 Hb F H σ own _ a λv F' H' g q=>⟨b,q,by
 cases b with
 | true=>exact h2 rfl F0 Hb F' H' σ own Q ↑22 λv F2 H2 g2 q2=>k v F2 H2 (g.trans g2) q2
 | false=>exact k _ F' H' g rfl⟩
theorem ztL {b c:Bool} (h:Ev Γ ta false (dB b)) (h2:b=false->Ev Γ tb false (dB c)):Ev Γ (zu2 ta tb) m (dB (b||c)):=λF0 Hb F H σ own Q a k=>h F0 Hb F H σ own _ a λv F' H' g q=>⟨b,q,by
 cases b with
 | false=>exact h2 rfl F0 Hb F' H' σ own Q ↑22 λv F2 H2 g2 q2=>k v F2 H2 (g.trans g2) q2
 | true=>exact k _ F' H' g rfl⟩
theorem zsD {b:Bool} (h:Ev Γ ta false (dB b)):Ev Γ (zti ta) m (dB (!b)):=λF0 Hb F H σ own Q a k=>h F0 Hb F H σ own _ a λv F' H' g q=>⟨b,q,k _ F' H' g rfl⟩
theorem zuL {tc:TT} {α:Type} {b:Bool} {x y:α} (f:α->Ds) (h:EvT Γ tc b) (h1:b=true->Ev Γ ta m (f x)) (h2:b=false->Ev Γ tb m (f y)):Ev Γ (tIf tc ta tb) m (f (bif b then x else y)):=λF0 Hb F H σ own Q a k=>h F0 Hb F H σ own _ a λF' H' g=>by
 cases b with
 | true=>exact h1 rfl F0 Hb F' H' σ own Q ↑22 λv F2 H2 g2 q2=>k v F2 H2 (g.trans g2) q2
 | false=>exact h2 rfl F0 Hb F' H' σ own Q ↑22 λv F2 H2 g2 q2=>k v F2 H2 (g.trans g2) q2
theorem zag:EvA Γ tNil m []:=λF0 Hb F H σ own Q a k=>k [] F H (Grow.refl a.fh) .nil
theorem zab {tr:TA} (h:Ev Γ ta m d) (h2:EvA Γ tr m ds):EvA Γ (tCons ta tr) m (d :: ds):=λF0 Hb F H σ own Q a k =>
 h F0 Hb F H σ own _ a λv F1 H1 g1 q1=>h2 F0 Hb F1 H1 σ own _ ↑20 λvs F2 H2 g2 q2=>k _ F2 H2 ↑48 (.cons (d.up (zbi g2.f) q1) q2)
theorem zb1 {tr:TA} (h:EvA Γ tr m ds) (hz:ds.length≤sizeLine):EvO Γ (zud tr) m ds:=λF0 Hb F H σ own Q a k =>
 h F0 Hb F H σ own _ a λvs F1 H1 g1 q1=>⟨by rw [Paired.length q1];exact hz,λp hp=>by
  obtain ⟨h1,h2,h3⟩:=a.free g1 hp
  exact k p vs F1 _ (g1.newH hp) h1 h2 zaE q1⟩
theorem zfH {tr:TA} (h:EvA Γ tr m ds) (hz:ds.length≤sizeLine):Ev Γ (zu6 tr) m (dT ds):=λF0 Hb F H σ own Q a k =>
 h F0 Hb F H σ own _ a λvs F1 H1 g1 q1=>⟨by rw [Paired.length q1];exact hz,λp hp=>by
  obtain ⟨h1,h2,h3⟩:=a.free g1 hp
  exact k (.ref p) _ _ (g1.new hp) ⟨p,vs,rfl,zeY h3 zaE,zdG (ds:=[]) (zbi (Same.new h2 _)) q1⟩⟩
theorem zed {tr:TA} (h:EvA Γ tr m []):EvO Γ (zud tr) m []:=zb1 h (Nat.zero_le _)
theorem zhd {R:V->Ds->Prop} {vs:List V} {ds:List Ds} {i:Int} {d:Ds} (h:Paired R vs ds) (e:atI ds i=some d):∃ v,atI vs i=some v∧R v d:=by
 unfold atI at e ⊢
 rw [Paired.length h]
 cases q:ixN ds.length i with
 | none=>rw [q] at e;cases e
 | some j =>
  rw [q] at e
  obtain ⟨v,e1,r⟩:=zbC h (show ds[j]?=some d from e)
  exact ⟨v,e1,r⟩
theorem zmu {α β:Type} {f:α->β} {xs:List α} {i:Int} {x:α} (e:atI xs i=some x):atI ↑18 i=some (f x):=by
 unfold atI at e ⊢
 rw [List.length_map]
 cases q:ixN xs.length i with
 | none=>rw [q] at e;cases e
 | some j =>
  rw [q] at e
  have e':xs[j]?=some x:=e
  show (↑18)[j]?=_
  rw [List.getElem?_map,e']
  rfl
theorem ztI {i:Int} (h1:Ev Γ ta m (dQ K ds)) (h2:Ev Γ tb false (dI i)) (e:atI ds i=some d):Ev Γ (tOp (zru K) ta tb) m d:=λF0 Hb F H σ own Q a k =>
 h1 F0 Hb F H σ own _ a λu F1 H1 g1 ⟨p,vs,e1,e2,e3⟩=>h2 F0 Hb F1 H1 σ own _ ↑20 λv F2 H2 g2 q2=>by
  obtain ⟨x,ex,rx⟩:=zhd e3 e
  exact ⟨p,vs,i,x,e1,q2,((zbb.trans (g2.f.trans g2.fh))).seq e2,ex,k x F2 H2 ↑48 (d.up (zbi g2.f) rx)⟩
theorem zbM {i:Int} (h1:Ev Γ ta m (dT ds)) (h2:Ev Γ tb false (dI i)) (e:atI ds i=some d):Ev Γ (tOp (zt0 K) ta tb) m d:=λF0 Hb F H σ own Q a k =>
 h1 F0 Hb F H σ own _ a λu F1 H1 g1 ⟨p,vs,e1,e2,e3⟩=>h2 F0 Hb F1 H1 σ own _ ↑20 λv F2 H2 g2 q2=>by
  obtain ⟨x,ex,rx⟩:=zhd e3 e
  exact ⟨p,vs,i,x,e1,q2,.inl (.inl ((zbb.trans (g2.f.trans g2.fh)) _ _ e2)),ex,k x F2 H2 ↑48 (d.up (zbi g2.f) rx)⟩
theorem zr6 {t:TE} (h1:Ev Γ t false (dQ K ds)):Ev Γ (tCB ↑216 (tCons t tNil)) m (dI ds.length):=λF0 Hb F H σ own Q a k =>
 h1 F0 Hb F H σ own _ a λu F1 H1 g1 ⟨p,vs,e1,e2,e3⟩=>⟨p,vs,by rw [e1],.inl (g1.fh.seq e2),k _ F1 H1 g1 (by show V.int _=_;rw [Paired.length e3])⟩
theorem ze4 {t:TE} (h1:Ev Γ t m (dQ K ds)):EvO Γ (tCB (λxs H Q=>∃p ys,xs=[.ref p]∧(SqL K H p ys∨SqT K H p ys)∧∀l,H l=none->Q (.ref l) (upd H l (.lst ys))) (tCons t tNil)) m ds:=λF0 Hb F H σ own Q a k =>
 h1 F0 Hb F H σ own _ a λu F1 H1 g1 ⟨p,vs,e1,e2,e3⟩=>⟨p,vs,by rw [e1],.inl (((zbb.trans g1.fh)).seq e2),λl hl=>by
  obtain ⟨h1,h2,h3⟩:=a.free g1 hl
  exact k l vs F1 _ (g1.newH hl) h1 h2 zaE e3⟩
theorem zfB:EvP Γ zn2 none:=λF0 Hb F H σ own Q a k=>k F H (Grow.refl a.fh)
theorem zcX {i:Int} (h:Ev Γ t false (dI i)):EvP Γ (zrS t) (some i):=λF0 Hb F H σ own Q a k=>h F0 Hb F H σ own _ a λv F' H' g q=>⟨i,q,k F' H' g⟩
def zcs {α:Type} (xs:List α) (lo hi:Option Int):List α:=(xs.drop (HT.sIx xs.length 0 lo)).take (HT.sIx xs.length xs.length hi-HT.sIx xs.length 0 lo)
theorem zoj {α β:Type} {f:α->β} {xs:List α} {lo hi:Option Int}:(zcs xs lo hi).map f=zcs ↑18 lo hi:=by
 unfold zcs;rw [List.map_take,List.map_drop,List.length_map]
theorem ztm {tl th:TO} {lo hi:Option Int} (h1:Ev Γ t m (dQ K ds)) (h2:EvP Γ tl lo) (h3:EvP Γ th hi):EvO Γ (tSl (ztA K) t tl th) m (zcs ds lo hi):=λF0 Hb F H σ own Q a k =>
 h1 F0 Hb F H σ own _ a λu F1 H1 g1 ⟨p,vs,e1,e2,e3⟩=>h2 F0 Hb F1 H1 σ own _ ↑20 λF2 H2 g2=>h3 F0 Hb F2 H2 σ own _ ((↑20).grow g2) λF3 H3 g3 =>
  ⟨p,vs,e1,(zbb.trans (g1.fh.trans (g2.h.trans g3.h))).seq e2,λl hl=>by
   have g:=g1.trans (g2.trans g3)
   obtain ⟨h1,h2,h3⟩:=a.free g hl
   refine k l _ F3 _ (g.newH hl) h1 h2 zaE ?_
   unfold ztd zcs
   rw [Paired.length e3]
   exact zii _ (zhN _ (zdG (ds:=[]) (zbi (g2.f.trans g3.f)) e3))⟩
theorem zth {es:List Ds} (h1:Ev Γ ta m (dL ds)) (h2:Ev Γ tb m (dL es)) (hz:ds.length+es.length≤sizeLine):EvO Γ (tOp zuD ta tb) m (ds++es):=λF0 Hb F H σ own Q a k =>
 h1 F0 Hb F H σ own _ a λu F1 H1 g1 ⟨p,vs,e1,e2,e3⟩=>h2 F0 Hb F1 H1 σ own _ ↑20 λv F2 H2 g2 ⟨q,ws,f1,f2,f3⟩ =>
  ⟨p,q,vs,ws,e1,f1,(zbb.trans (g2.f.trans g2.fh)) _ _ e2,(zbb.trans g2.fh) _ _ f2,by rw [Paired.length e3,Paired.length f3];exact hz,λl hl=>by
   have g:=g1.trans g2
   obtain ⟨h1,h2,h3⟩:=a.free g hl
   exact k l _ F2 _ (g.newH hl) h1 h2 zaE (zcY (zdG (ds:=[]) (zbi g2.f) e3) f3)⟩
theorem ztn {n:Int} (h1:Ev Γ ta m (dL ds)) (h2:Ev Γ tb false (dI n)) (hn:-(2^63)≤n∧n<2^63) (hz:ds.length*n.toNat≤sizeLine):EvO Γ (tOp zuk ta tb) m (List.replicate n.toNat ds).flatten:=λF0 Hb F H σ own Q a k =>
 h1 F0 Hb F H σ own _ a λu F1 H1 g1 ⟨p,vs,e1,e2,e3⟩=>h2 F0 Hb F1 H1 σ own _ ↑20 λv F2 H2 g2 q2 =>
  ⟨p,n,vs,e1,q2,(zbb.trans (g2.f.trans g2.fh)) _ _ e2,hn.1,hn.2,by rw [Paired.length e3];exact hz,λl hl=>by
   have g:=g1.trans g2
   obtain ⟨h1,h2,h3⟩:=a.free g hl
   exact k l _ F2 _ (g.newH hl) h1 h2 zaE (ziN (zdG (ds:=[]) (zbi g2.f) e3) _)⟩
theorem zqm {d:Ds} {b:Bool} (h1:Ev Γ ta false d) (h2:Ev Γ tb false dN) (hb:∀ H v,d.pr H v->decide (v=V.non)=b):Ev Γ (tOp (λx y H Q=>y= .non∧Q (.bl (!decide (x= .non))) H) ta tb) m (dB (!b)):=λF0 Hb F H σ own Q a k =>
 h1 F0 Hb F H σ own _ a λu F1 H1 g1 q1=>h2 F0 Hb F1 H1 σ own _ ↑20 λv F2 H2 g2 q2=>⟨q2,k _ F2 H2 ↑48 (by show V.bl _=_;rw [hb _ _ q1])⟩
theorem zpB {x y:Int} {tr:TA} (h:EvA Γ tr false [dI x,dI y]):Ev Γ (tCB (λxs H Q=>∃i j,xs=[.int i,.int j]∧Q (.int (if j>i then j else i)) H) tr) m (dI (max x y)):=λF0 Hb F H σ own Q a k =>
 h F0 Hb F H σ own _ a λvs F1 H1 g1 q=>by
  cases q with | cons q1 q=>cases q with | cons q2 q=>cases q;cases q1;cases q2;exact ⟨x,y,rfl,k _ F1 H1 g1 (by show V.int _=V.int _;congr 1;omega)⟩
theorem zmp {b:Bool} {tr:TA} (h:EvA Γ tr false [dB b]):Ev Γ (tCB (λxs H Q=>(∃i,xs=[.int i]∧Q (.int i) H)∨∃k,xs=[.bl k]∧Q (.int (if k then 1 else 0)) H) tr) m (dI (if b then 1 else 0)):=λF0 Hb F H σ own Q a k =>
 h F0 Hb F H σ own _ a λvs F1 H1 g1 q=>by
  cases q with | cons q1 q=>cases q;cases q1;exact .inr ⟨b,rfl,k _ F1 H1 g1 rfl⟩
theorem zgA {f:α->V} {R:Hp} {xs:List α}:∀ {vs:List V},Paired (λv (d:Ds)=>d.pr R v) vs (xs.map λx=>dV (f x))->vs=xs.map f:=by
 induction xs with
 | nil=>intro vs h;cases h;rfl
 | cons x xs ih=>intro vs h;cases h with | cons h1 h2=>rw [ih h2,h1];rfl
theorem zsG {xs:Ji} {t:TE} (h1:Ev Γ t false (dQ K (xs.map dI))):Ev Γ (tCB (λxs H Q=>∃(a:Addr) (ns:Ji),xs=[.ref a]∧SqL K H a ↑56∧Q (.int ns.sum) H) (tCons t tNil)) m (dI xs.sum):=λF0 Hb F H σ own Q a k =>
 h1 F0 Hb F H σ own _ a λu F1 H1 g1 ⟨p,vs,e1,e2,e3⟩=>⟨p,xs,by rw [e1],by rw [←zgA e3];exact g1.fh.seq e2,k _ F1 H1 g1 rfl⟩
theorem zpq {xs:List Bool} {t:TE} (h1:Ev Γ t false (dQ K (xs.map dB))):Ev Γ (tCB (λxs H Q=>∃(a:Addr) (bs:List Bool),xs=[.ref a]∧SqL K H a (bs.map V.bl)∧Q (.bl (bs.all id)) H) (tCons t tNil)) m (dB (xs.all id)):=λF0 Hb F H σ own Q a k =>
 h1 F0 Hb F H σ own _ a λu F1 H1 g1 ⟨p,vs,e1,e2,e3⟩=>⟨p,xs,by rw [e1],by rw [←zgA e3];exact g1.fh.seq e2,k _ F1 H1 g1 rfl⟩
theorem zgM {H:Hp} {f:Str} {d:Ds}:∀ {vs:List (Str×V)} {fs:List (Str×Ds)},Paired (λ(a:Str×V) (b:Str×Ds)=>a.1=b.1∧b.2.pr H a.2) vs fs->fs.lookup f=some d->∃ v,vs.lookup f=some v∧d.pr H v
 | _,_,.nil,e=>by cases e
 | _,_,.cons (a:=(x,v)) (b:=(y,d')) ⟨h1,h2⟩ t,e=>by
  have h1:x=y:=h1
  subst h1
  simp only [List.lookup_cons] at e ⊢
  cases q:f == x with
  | true=>rw [q] at e;cases e;exact ⟨v,rfl,h2⟩
  | false=>rw [q] at e;exact zgM t e
theorem zbh {C:Addr} {fs:List (Str×Ds)} {f:Str} (h1:Ev Γ ta m (dO C fs)) (c:Cls K C) (nf:NoAttr K C f) (e:fs.lookup f=some d):Ev Γ (tFld K ta f) m d:=λF0 Hb F H σ own Q a k =>
 h1 F0 Hb F H σ own _ a λu F1 H1 g1 ⟨p,dx,vs,e1,e2,e3,e4⟩=>by
  obtain ⟨v,ev,qv⟩:=zgM e4 e
  exact ⟨p,C,dx,vs,v,e1,(zbb.trans g1.fh) _ _ e2,c,nf,ev,k v F1 H1 g1 qv⟩
inductive Rs where
 | va (m:Bool) (d:Ds)
 | ow (m:Bool) (ds:List Ds)
 | ex (C:Addr)
def Spv {ι:Type} (args:ι->List Ds) (pre:ι->Prop) (res:ι->Rs):Sp:=λvs H Q E=>∃ (x:ι) (F:Hp),Same F H∧Paired (λv (d:Ds)=>d.pr F v) vs (args x)∧pre x∧match res x with
 | .ex C=>∀ dct F' H',Grow F H F' H'->E (.ref C) dct H'
 | .va m d=>∀ v F' H',Grow F H F' H'->d.pr (part m F' H) v->Q v H'
 | .ow m ds=>∀ p ws F' H',Grow F H F' H'->H p=none->F' p=none->H' p=some (.lst ws)->Paired (λv (d:Ds)=>d.pr (part m F' H) v) ws ds->Q (.ref p) H'
theorem zgh {m:Bool} {F Hb H:Hp} (e:Same Hb H):Same (part m F H) (part m F Hb):=by
 cases m with
 | true=>exact zkL e
 | false=>exact Same.refl _
theorem zau {ι:Type} {args:ι->List Ds} {pre:ι->Prop} {res:ι->Rs} {tr:TA} {E:XK} (x:ι) (h:EvA Γ tr false ds) (ha:ds=args x) (hp:pre x) (hr:res x=.va m d):Ev Γ (tCall (Spv args pre res) [] E tr) m d:=λF0 Hb F H σ own Q a k=>by
 subst ha
 refine h F0 Hb F H σ own _ a λvs F1 H1 g1 q1=>⟨x,F1,g1.fh,by rw [List.append_nil];exact q1,hp,?_⟩
 rw [hr]
 exact λv F' H' g q=>k v F' H' (g1.trans g) (d.up (zgh (a.g.h.trans g1.h)) q)
theorem zcH {ι:Type} {args:ι->List Ds} {pre:ι->Prop} {res:ι->Rs} {tr:TA} {E:XK} (x:ι) (h:EvA Γ tr false es) (ha:es=args x) (hp:pre x) (hr:res x=.ow m ds):EvO Γ (tCall (Spv args pre res) [] E tr) m ds:=λF0 Hb F H σ own Q a k=>by
 subst ha
 refine h F0 Hb F H σ own _ a λvs F1 H1 g1 q1=>⟨x,F1,g1.fh,by rw [List.append_nil];exact q1,hp,?_⟩
 rw [hr]
 exact λp ws F' H' g h1 h2 h3 q=>k p ws F' H' (g1.trans g) (g1.h.free h1) h2 h3 (zdG (ds:=[]) (zgh (a.g.h.trans g1.h)) q)
end
def ztS:List Nat->List V->St->St
 | j :: js,v :: vs,σ=>ztS js vs (σ.set j (some v))
 | _,_,σ=>σ
def zmn:List Nat->List Ds->Bool->Ctx->Ctx
 | j :: js,d :: ds,m,Γ=>zmn js ds m (Γ.set j (.va m d))
 | _,_,_,Γ=>Γ
theorem At.setMany {F0 Hb F H:Hp} {own:Nat->Option Addr} {m:Bool}:∀ {js:List Nat} {vs:List V} {ds:List Ds} {σ:St} {Γ:Ctx},At F0 Hb F H σ own Γ->Paired ↑197 vs ds →
  At F0 Hb F H (ztS js vs σ) own (zmn js ds m Γ)
 | [],_,_,_,_,a,.nil=>a
 | [],_,_,_,_,a,.cons _ _=>a
 | _ :: _,_,_,_,_,a,.nil=>a
 | j :: js,_,_,_,_,a,.cons h t=>At.setMany (js:=js) (a.set j h) t
theorem At.unset {F0 Hb F H:Hp} {own:Nat->Option Addr} {σ:St} {Γ:Ctx} {j:Nat} {s:Slot} (a:At F0 Hb F H σ own (Γ.set j s)) (h:Γ[j]?=some .no):At F0 Hb F H σ own Γ :=
 ⟨a.g,a.inj,a.liv,λi r e=>by
  by_cases z:j=i
  ·subst z;rw [h] at e;cases e;trivial
  ·exact a.sl i r (by rw [List.getElem?_set_ne z];exact e),by rw [a.len];simp⟩
theorem At.unsetMany {F0 Hb F H:Hp} {own:Nat->Option Addr} {σ:St} {m:Bool}:∀ {js:List Nat} {ds:List Ds} {Γ:Ctx},At F0 Hb F H σ own (zmn js ds m Γ)->(∀ j∈js,Γ[j]?=some .no)->js.Nodup->At F0 Hb F H σ own Γ
 | [],[],_,a,_,_=>a
 | [],_ :: _,_,a,_,_=>a
 | _ :: _,[],_,a,_,_=>a
 | j :: js,d :: ds,Γ,a,h,hn=>by
  have hn:=List.nodup_cons.mp hn
  refine At.unset (At.unsetMany (js:=js) (ds:=ds) (Γ:=Γ.set j (.va m d)) a (λi hi=>?_) hn.2) (h j List.mem_cons_self)
  rw [List.getElem?_set_ne (λ(z:j=i)=>hn.1 (by rw [z];exact hi))]
  exact h i (List.mem_cons_of_mem _ hi)
def zsk {γ:Type} (Hb F:Hp) (J:It) (g:TG) (js:List Nat) (xs:List γ) (bds:γ->List Ds) (m:Bool):Prop:=∀ H,Same F H->J.stop xs.length H∧∀ i x,xs[i]?=some x->J.go i H ∧
 ∀ v H',J.yld i H v H'->Grow F H F H'∧∀ (σ:St) (Q:St->Hp->Prop),(∀ vs,Paired ↑197 vs (bds x)->Q (ztS js vs σ) H')->g v σ H' Q
def Iv {γ:Type} (Γ:Ctx) (wi:TI) (g:TG) (js:List Nat) (xs:List γ) (bds:γ->List Ds) (m:Bool):Prop:=∀ (F0 Hb F H:Hp) (σ:St) (own:Nat->Option Addr) (R:It->Hp->Prop),At F0 Hb F H σ own Γ →
 (∀ J F' H',Grow F H F' H'->zsk Hb F' J g js xs bds m->R J H')->wi σ H R
section
variable {Γ:Ctx} {m:Bool} {K:W.Frag} {γ δ:Type}
theorem zsk.up {Hb F F':Hp} {J:It} {g:TG} {js:List Nat} {xs:List γ} {bds:γ->List Ds} (h:zsk Hb F J g js xs bds m) (e:Same F F'):zsk Hb F' J g js xs bds m:=λH hs=>by
 obtain ⟨h1,h2⟩:=h H (e.trans hs)
 refine ⟨h1,λi x ex=>?_⟩
 obtain ⟨h3,h4⟩:=h2 i x ex
 refine ⟨h3,λv H' y=>?_⟩
 obtain ⟨h5,h6⟩:=h4 v H' y
 exact ⟨⟨Same.refl _,hs.trans h5.h,h5.h,λ_ _ z=>z⟩,λσ Q k=>h6 σ Q λvs q=>k vs (zdG (ds:=[]) (zbi e) q)⟩
theorem zbx {tl:TE} {j:Nat} {xs:List γ} (f:γ->Ds) (h:Ev Γ tl m (dQ K ↑18)):Iv Γ (zo4 K tl) (zd8 j) [j] xs (λx=>[f x]) m:=λF0 Hb F H σ own R a k =>
 h F0 Hb F H σ own _ a λu F1 H1 g1 ⟨p,vs,e1,e2,e3⟩=>by
  have e2':SqL K F1 p vs:=zbb.seq e2
  refine ⟨p,e1,⟨vs,g1.fh.seq e2'⟩,k _ F1 H1 g1 λH hs=>⟨⟨vs,hs.seq e2',by rw [Paired.length e3,List.length_map];exact Nat.le_refl _⟩,λi x ex=>?_⟩⟩
  obtain ⟨v,ev,qv⟩:=zbC e3 (show (↑18)[i]?=some (f x) by rw [List.getElem?_map,ex];rfl)
  refine ⟨⟨vs,v,hs.seq e2',ev⟩,λw H' y=>?_⟩
  obtain ⟨rfl,y⟩:=y
  have:=y vs (hs.seq e2')
  rw [ev] at this
  cases this
  exact ⟨Grow.refl hs,λσ Q k=>k [v] (.cons qv .nil)⟩
def zbf (lo:Int) (n:Nat):Ji:=(List.range n).map λ(i:Nat)=>lo+(i:Int)
theorem zaO {lo:Int} {n:Nat}:(zbf lo n).length=n:=by simp [zbf]
theorem zbe {lo:Int} {n i:Nat} {x:Int} (h:(zbf lo n)[i]?=some x):i<n∧x=lo+i:=by
 unfold zbf at h
 rw [List.getElem?_map] at h
 by_cases z:i<n
 ·rw [List.getElem?_range z] at h
  exact ⟨z,(Option.some.inj h).symm⟩
 ·rw [List.getElem?_eq_none ↑75] at h;cases h
theorem zla {lo:Int} {n:Nat} {x:Int}:x∈zbf lo n ↔ lo≤x∧x<lo+n:=by
 unfold zbf
 rw [List.mem_map]
 constructor
 ·rintro ⟨i,hi,rfl⟩;have:=List.mem_range.mp hi;omega
 ·intro h;exact ⟨(x-lo).toNat,List.mem_range.mpr ↑0,by omega⟩
theorem zss {Hb F:Hp} {lo:Int} {n j:Nat}:zsk Hb F (Itr lo n) (zd8 j) [j] (zbf lo n) (λx=>[dI x]) m:=λH hs =>
 ⟨by show n≤_;rw [zaO];exact Nat.le_refl _,λi x ex=>by
  obtain ⟨hi,rfl⟩:=zbe ex
  refine ⟨hi,λv H' y=>?_⟩
  obtain ⟨rfl,rfl⟩:=y
  exact ⟨Grow.refl hs,λσ Q k=>k [_] (.cons rfl .nil)⟩⟩
theorem zdq {t:TE} {j:Nat} {n:Int} (h:Ev Γ t false (dI n)) (hn:-(2^62)≤n∧n<2^62):Iv Γ (zs7 (tCons t tNil)) (zd8 j) [j] (zbf 0 n.toNat) (λx=>[dI x]) m:=λF0 Hb F H σ own R a k =>
 h F0 Hb F H σ own _ a λu F1 H1 g1 q1=>⟨n,by rw [q1],hn.1,hn.2,k _ F1 H1 g1 zss⟩
theorem zcE {α β:Type} {xs:List α} {ys:List β} {i:Nat} {p:α×β} (h:(xs.zip ys)[i]?=some p):xs[i]?=some p.1∧ys[i]?=some p.2:=by
 rw [List.getElem?_zip_eq_some] at h;exact h
theorem ze9 {ta tb:TE} {j1 j2:Nat} {xs:List γ} {ys:List δ} (f1:γ->Ds) (f2:δ->Ds) (h1:Ev Γ ta m (dQ K (xs.map f1))) (h2:Ev Γ tb m (dQ K (ys.map f2))) :
  Iv Γ (zuc K (tCons ta (tCons tb tNil))) (zrq K 2 (zhA (zd8 j1) (zhA (zd8 j2) zrw))) [j1,j2] (xs.zip ys) (λx=>[f1 x.1,f2 x.2]) m:=λF0 Hb F H σ own R a k =>
 h1 F0 Hb F H σ own _ a λu F1 H1 g1 ⟨p,vs,e1,e2,e3⟩=>h2 F0 Hb F1 H1 σ own _ ↑20 λu' F2 H2 g2 ⟨q,ws,d1,d2,d3⟩=>by
  have e2':SqL K F2 p vs:=g2.f.seq (zbb.seq e2)
  have d2':SqL K F2 q ws:=zbb.seq d2
  have e3':=zdG (ds:=[]) (zbi (m:=m) (Hb:=Hb) g2.f) e3
  have le:=Paired.length e3
  have ld:=Paired.length d3
  rw [List.length_map] at le ld
  refine ⟨p,q,by rw [e1,d1],⟨vs,g2.fh.seq e2'⟩,⟨ws,g2.fh.seq d2'⟩,k _ F2 H2 ↑48 λH hs=>⟨⟨vs,ws,hs.seq e2',hs.seq d2',by rw [le,ld,List.length_zip];omega⟩,λi x ex=>?_⟩⟩
  obtain ⟨x1,x2⟩:=zcE ex
  obtain ⟨v,ev,qv⟩:=zbC e3' (show (xs.map f1)[i]?=some (f1 x.1) by rw [List.getElem?_map,x1];rfl)
  obtain ⟨w,ew,qw⟩:=zbC d3 (show (ys.map f2)[i]?=some (f2 x.2) by rw [List.getElem?_map,x2];rfl)
  refine ⟨⟨vs,ws,v,w,hs.seq e2',hs.seq d2',ev,ew⟩,λz H' y=>?_⟩
  obtain ⟨r,x',y',rfl,hr,rfl,hxy⟩:=y
  obtain ⟨hx,hy⟩:=hxy vs ws (hs.seq e2') (hs.seq d2')
  rw [ev] at hx;rw [ew] at hy
  cases hx;cases hy
  exact ⟨(Grow.refl hs).newH hr,λσ Q k=>⟨r,_,rfl,.inl (.inl zaE),rfl,_,_,rfl,_,_,rfl,rfl,k [v,w] (.cons qv (.cons qw .nil))⟩⟩
def ztz:Option Slot->Slot
 | some (.va m d)=>.va m d
 | _=>.no
def zkg (own:Nat) (fv:List Nat) (Γ:Ctx):Ctx:=List.replicate own .no++fv.map λi=>ztz Γ[i]?
theorem At.block {F0 Hb F H:Hp} {own:Nat->Option Addr} {σ:St} (a:At F0 Hb F H σ own Γ) (k:Nat) (fv:List Nat):At F0 Hb F H (zhO k fv σ) (λ_=>none) (zkg k fv Γ):=by
 refine ⟨a.g,λ_ _ _ h=>(by cases h),λ_ _ h=>(by cases h),λi s e=>?_,?_⟩
 ·unfold zkg at e
  unfold zhO
  by_cases hi:i<k
  ·rw [List.getElem?_append_left ↑63,List.getElem?_replicate,if_pos hi] at e
   cases e;trivial
  ·rw [List.getElem?_append_right ↑63,List.length_replicate,List.getElem?_map] at e
   rw [List.getElem?_append_right ↑63,List.length_replicate,List.getElem?_map]
   cases q:fv[i-k]? with
   | none=>rw [q] at e;cases e
   | some j =>
    rw [q] at e
    have e':ztz Γ[j]?=s:=Option.some.inj e
    subst e'
    show zgN Hb F H (λ_=>none) _ ((σ[j]?).join) (ztz Γ[j]?)
    cases z:Γ[j]? with
    | none=>trivial
    | some r =>
     cases r with
     | no=>trivial
     | va m d=>exact (show zgN Hb F H own j _ (.va m d) from a.sl j _ z)
     | ow m ds=>trivial
     | ob m C p dx fs=>trivial
     | ol p ds=>trivial
     | tl d=>trivial
 ·unfold zhO zkg;simp
theorem znJ {k:Nat} {fv:List Nat} {j:Nat} {d:Ds} (e:(zkg k fv Γ)[j]?=some (.tl d)):False:=by
 unfold zkg at e
 have:=List.mem_of_getElem? e
 rcases List.mem_append.mp this with q | q
 ·cases (List.mem_replicate.mp q).2
 ·obtain ⟨l,_,q⟩:=List.mem_map.mp q
  unfold ztz at q
  split at q<;>cases q
theorem zlb:EvT Γ zo6 true:=λF0 Hb F H σ own Q a k=>k F H (Grow.refl a.fh)
theorem zkd {xs:List γ} {i:Nat} {x:γ} (h:xs[i]?=some x):xs.take (i+1)=xs.take i++[x]:=by
 rw [List.take_succ,h];rfl
theorem znC {own:Nat} {fv:List Nat} {wi:TI} {tg:TG} {tt:TTs} {te:TE} {js:List Nat} {xs:List γ} {bds:γ->List Ds} {mi:Bool} {c:γ->Bool} {g:γ->Ds} (it:Iv Γ wi tg js xs bds mi) (hz:xs.length≤sizeLine) (hj:(∀ j∈js,j<own)∧js.Nodup)
  (ht:∀ (i:Nat) (x:γ),xs[i]?=some x->EvT (zmn js (bds x) mi (zkg own fv Γ)) tt (c x)) (he:∀ (i:Nat) (x:γ),xs[i]?=some x->c x=true->Ev (zmn js (bds x) mi (zkg own fv Γ)) te m (g x)):EvO Γ (zmC own fv wi tg tt te) m ((xs.filter c).map g):=λF0 Hb F H σ ow Q a k =>
 it F0 Hb F H σ ow _ a λJ F1 H1 g1 ok D hD=>by
  have hno:∀ j∈js,((zkg own fv Γ))[j]?=some .no:=λj hj'=>by
   have:=hj.1 j hj'
   unfold zkg
   rw [List.getElem?_append_left (by simpa using this),List.getElem?_replicate,if_pos this]
  obtain ⟨hD0,hDF,hDb⟩:=a.free g1 hD
  refine ⟨λi mm ys σb H2=>mm=xs.length-i∧i≤xs.length∧ys.length≤i∧∃ F2,Grow F1 H1 F2 H2∧F2 D=none∧H2 D=some (.lst ys)∧Paired (λv (d:Ds)=>d.pr (part m F2 Hb) v) ys (((xs.take i).filter c).map g)∧At F0 Hb F2 H2 σb (λ_=>none) (zkg own fv Γ),
   ⟨_,rfl,Nat.zero_le _,Nat.zero_le _,F1,((Grow.refl g1.fh)).newH hD,hDF,zaE,by simpa using Paired.nil,((↑20).block own fv).grow (((Grow.refl g1.fh)).newH hD)⟩,?_⟩
  rintro i mm ys σb H2 ⟨rfl,hi,hy,F2,g2,hF2,hH2,hP,a2⟩
  refine ⟨hH2,?_⟩
  obtain ⟨hstop,hitem⟩:=ok.up g2.f H2 g2.fh
  by_cases hlt:i<xs.length
  ·obtain ⟨go,yl⟩:=hitem i xs[i] (List.getElem?_eq_getElem hlt)
   refine .inr ⟨go,λx H' y=>?_⟩
   obtain ⟨g3,bind⟩:=yl x H' y
   refine bind σb _ λvs hvs=>?_
   have a3:=(a2.grow g3).setMany (js:=js) hvs
   have hx:xs[i]?=some xs[i]:=List.getElem?_eq_getElem hlt
   refine ht i _ hx F0 Hb F2 H' _ _ _ a3 λF4 H4 g4=>?_
   have tk:=zkd hx
   have gD:∀ {F5 H5:Hp},Grow F2 H2 F5 H5->F5 D=none∧H5 D=some (.lst ys):=λg=>⟨g.no D (by rw [hH2];simp) hF2,g.h _ _ hH2⟩
   cases hc:c xs[i] with
   | true =>
    rw [if_pos rfl]
    refine he i _ hx hc F0 Hb F4 H4 _ _ _ (a3.grow g4) λv F5 H5 g5 q5=>?_
    have g25:=g3.trans (g4.trans g5)
    obtain ⟨n1,n2⟩:=gD g25
    have sD:Same H5 H5:=Same.refl _
    have n3:H1 D=none:=hD
    refine ⟨n2,by omega,xs.length-(i+1),by omega,rfl,hlt,by simp;omega,F5,?_,n1,zaE,?_,?_⟩
    ·exact (g2.trans g25).setH n1 n3
    ·rw [tk,List.filter_append,List.map_append]
     refine zcY (zdG (ds:=[]) (zbi g25.f) hP) ?_
     rw [List.filter_cons,hc]
     exact .cons q5 .nil
    ·have a5:=((a3.grow g4).grow g5).unsetMany hno hj.2
     refine ⟨a5.g.setH n1 hDb,a5.inj,λ_ _ h=>(nomatch h),λj s es=>?_,a5.len⟩
     ·have:=a5.sl j s es
      cases s with
      | no=>trivial
      | va m d=>exact this
      | ow m ds=>obtain ⟨_,_,_,h,_⟩:=this;exact (nomatch h)
      | ob m C p dx fs=>obtain ⟨_,_,h,_⟩:=this;exact (nomatch h)
      | ol p ds=>obtain ⟨_,_,h,_⟩:=this;exact (nomatch h)
      | tl d=>exact (znJ es).elim
   | false =>
    rw [if_neg Bool.false_ne_true]
    have g25:=g3.trans g4
    obtain ⟨n1,n2⟩:=gD g25
    refine ⟨xs.length-(i+1),by omega,rfl,hlt,by omega,F4,g2.trans g25,n1,n2,?_,(a3.grow g4).unsetMany hno hj.2⟩
    rw [tk,List.filter_append,List.map_append,List.filter_cons,hc]
    simpa using zdG (ds:=[]) (zbi g25.f) hP
  ·have e:i=xs.length:=by omega
   subst e
   rw [List.take_length] at hP
   exact .inl ⟨hstop,k D ys F2 H2 ↑48 hD0 hF2 hH2 hP⟩
theorem zbA {own:Nat} {fv:List Nat} {wi:TI} {tg:TG} {te:TE} {js:List Nat} {xs:List γ} {bds:γ->List Ds} {mi:Bool} {g:γ->Ds} (it:Iv Γ wi tg js xs bds mi) (hz:xs.length≤sizeLine) (hj:(∀ j∈js,j<own)∧js.Nodup)
  (he:∀ (i:Nat) (x:γ),xs[i]?=some x->Ev (zmn js (bds x) mi (zkg own fv Γ)) te m (g x)):EvO Γ (zmC own fv wi tg zo6 te) m (xs.map g):=by
 have:=znC (c:=λ_=>true) it hz hj (λ_ _ _=>zlb) (λi x hx _=>he i x hx)
 rwa [show xs.filter (λ_=>true)=xs from List.filter_eq_self.mpr λ_ _=>rfl] at this
end
inductive Oc where
 | nx (Γ:Ctx)
 | rt (m:Bool) (d:Ds)
 | rl (m:Bool) (ds:List Ds)
 | bk (Γ:Ctx)
 | ct (Γ:Ctx)
 | ex (C:Addr) (Γ:Ctx)
 | rw (Γ:Ctx) (d:Ds)
def zhy (E:XS) (F0 Hb:Hp) (D:Ends):Oc->Prop
 | .ex C Γ=>∀ dct F H σ own,At F0 Hb F H σ own Γ->E σ (.ref C) dct H
 | .rw Γ d=>∀ v F H σ own,At F0 Hb F H σ own Γ->d.pr F v->D.rt v H
 | .nx Γ=>∀ F H σ own,At F0 Hb F H σ own Γ->D.nx σ H
 | .bk Γ=>∀ F H σ own,At F0 Hb F H σ own Γ->D.bk σ H
 | .ct Γ=>∀ F H σ own,At F0 Hb F H σ own Γ->D.ct σ H
 | .rt m d=>∀ v F H,Grow F0 Hb F H->d.pr (part m F Hb) v->D.rt v H
 | .rl m ds=>∀ p vs F H,Grow F0 Hb F H->Hb p=none->F p=none->H p=some (.lst vs)->Paired ↑197 vs ds->D.rt (.ref p) H
def Run (E:XS) (Γ:Ctx) (t:TS) (o:Oc):Prop:=∀ (F0 Hb F H:Hp) (σ:St) (own:Nat->Option Addr) (D:Ends),At F0 Hb F H σ own Γ->zhy E F0 Hb D o->t D σ H
def Let {α:Type} {β:Type} (a:α) (k:α->β):β:=k a
def zcF {σ:Type} {γ:Type} {β:Type} (f:σ->γ->σ ⊕ β):σ->List γ->σ ⊕ β
 | s,[]=>.inl s
 | s,x :: xs=>match f s x with | .inl s'=>zcF f s' xs | .inr b=>.inr b
section
variable {E:XS} {Γ Δ:Ctx} {m:Bool} {K:W.Frag} {γ β:Type} {te:TE} {t u:TS} {d:Ds} {ds:List Ds} {o:Oc} {i:Nat}
theorem zar (w:Wk Γ Δ):Run E Γ znT (.nx Δ):=λF0 Hb F H σ own D a k=>k F H σ own (a.wk w)
theorem zaH (h:Ev Γ te m d):Run E Γ (zoi te) (.rt m d):=λF0 Hb F H σ own D a k=>h F0 Hb F H σ own _ a λv F' H' g q=>k v F' H' (a.g.trans g) q
theorem zhJ (h:EvO Γ te m ds):Run E Γ (zoi te) (.rl m ds):=λF0 Hb F H σ own D a k=>h F0 Hb F H σ own _ a λp vs F' H' g h1 h2 h3 q=>k p vs F' H' (a.g.trans g) (a.g.h.free h1) h2 h3 q
theorem zme (e:Γ[i]?=some (.ow m ds)):Run E Γ (zoi (zis i)) (.rl m ds):=λF0 Hb F H σ own D a k=>by
 obtain ⟨p,vs,e1,e2,e3,e4,e5,e6⟩:=a.sl i _ e
 have hi:i<σ.length:=by rw [a.len];exact (↑52).1
 rw [List.getElem?_eq_getElem hi] at e1
 have e':σ[i]=some (.ref p):=e1
 exact ⟨_,by rw [List.getElem?_eq_getElem hi,e'],k p vs F H a.g e4 e3 e5 e6⟩
theorem zil (h:Run E Γ (zoi te) o) (ho:∀ F0 Hb D D',D.rt=D'.rt->zhy E F0 Hb D o->zhy E F0 Hb D' o):Run E Γ (tSeq (zoi te) u) o:=λF0 Hb F H σ own D a k=>h F0 Hb F H σ own _ a (ho F0 Hb D { D with nx:=u D } rfl k)
theorem zak (h:Run E Γ (zoi te) (.rt m d)):Run E Γ (tSeq (zoi te) u) (.rt m d):=zil h λ_ _ _ _ e q v F H g p=>e ▸ q v F H g p
theorem ze7 (h:Run E Γ (zoi te) (.rl m ds)):Run E Γ (tSeq (zoi te) u) (.rl m ds):=zil h λ_ _ _ _ e q p vs F H g h1 h2 h3 h4=>e ▸ q p vs F H g h1 h2 h3 h4
theorem zcq (h:Ev Γ te m d) (k:Run E (Γ.set i (.va m d)) u o):Run E Γ (tSeq (zjR te (zd8 i)) u) o:=λF0 Hb F H σ own D a q =>
 h F0 Hb F H σ own _ a λv F' H' g p=>k F0 Hb F' H' _ own D ((↑22).set i p) q
theorem zeb (h:EvO Γ te m ds) (k:Run E (Γ.set i (.ow m ds)) u o):Run E Γ (tSeq (zjR te (zd8 i)) u) o:=λF0 Hb F H σ own D a q =>
 h F0 Hb F H σ own _ a λp vs F' H' g h1 h2 h3 h4=>k F0 Hb F' H' _ _ D (a.setOwn g i h1 h2 h3 h4) q
theorem zao {α:Type} {x:α} (f:α->Ds) (fo:β->Oc) {kk:α->β} (h:Ev Γ te m (f x)) (k:∀ y,y=x->Run E (Γ.set i (.va m (f y))) u (fo (kk y))):Run E Γ (tSeq (zjR te (zd8 i)) u) (fo (Let x kk)):=zcq h (k x rfl)
theorem zfE {α:Type} {x:α} (f:α->List Ds) (fo:β->Oc) {kk:α->β} (h:EvO Γ te m (f x)) (k:∀ y,y=x->Run E (Γ.set i (.ow m (f y))) u (fo (kk y))):Run E Γ (tSeq (zjR te (zd8 i)) u) (fo (Let x kk)):=zeb h (k x rfl)
theorem zgI (h:Ev Γ te m d) (k:Run E Γ u o):Run E Γ (tSeq (znB te) u) o:=λF0 Hb F H σ own D a q =>
 h F0 Hb F H σ own _ a λv F' H' g p=>k F0 Hb F' H' σ own D ↑22 q
theorem zbz (e:Γ[i]?=some (.ow m ds)) (k:Run E (Γ.set i (.va m (dL ds))) t o):Run E Γ t o:=λF0 Hb F H σ own D a q=>by
 obtain ⟨F',own',_,a'⟩:=a.share e
 exact k F0 Hb F' H σ own' D a' q
theorem ztc (w:Wk Γ Δ) (k:Run E Δ t o):Run E Γ t o:=λF0 Hb F H σ own D a q=>k F0 Hb F H σ own D (a.wk w) q
theorem za8 {α:Type} {tc:TT} {b:Bool} {x y:α} {r:TS} (fo:α->Oc) (h:EvT Γ tc b) (h1:b=true->Run E Γ (tSeq t r) (fo x)) (h2:b=false->Run E Γ (tSeq u r) (fo y)):Run E Γ (tSeq (zs5 tc t u) r) (fo (bif b then x else y)):=λF0 Hb F H σ own D a q =>
 h F0 Hb F H σ own _ a λF' H' g=>by
  cases b with
  | true=>rw [if_pos rfl];exact h1 rfl F0 Hb F' H' σ own D ↑22 q
  | false=>rw [if_neg Bool.false_ne_true];exact h2 rfl F0 Hb F' H' σ own D ↑22 q
theorem zb5 {tc:TT} {r:TS} (h:EvT Γ tc false) (h1:Run E Γ (tSeq u r) o):Run E Γ (tSeq (zs5 tc t u) r) o:=λF0 Hb F H σ own D a q=>h F0 Hb F H σ own _ a λF' H' g=>by
 rw [if_neg Bool.false_ne_true];exact h1 F0 Hb F' H' σ own D ↑22 q
theorem zc3 {tc:TT} {b:Bool} {r:TS} (G:Bool->Ctx) (h:EvT Γ tc b) (h1:b=true->Run E Γ t (.nx (G true))) (h2:b=false->Run E Γ u (.nx (G false))) (k:Run E (G b) r o):Run E Γ (tSeq (zs5 tc t u) r) o:=λF0 Hb F H σ own D a q =>
 h F0 Hb F H σ own _ a λF' H' g=>by
  cases b with
  | true=>rw [if_pos rfl];exact h1 rfl F0 Hb F' H' σ own _ ↑22 λF H σ own a'=>k F0 Hb F H σ own D a' q
  | false=>rw [if_neg Bool.false_ne_true];exact h2 rfl F0 Hb F' H' σ own _ ↑22 λF H σ own a'=>k F0 Hb F H σ own D a' q
theorem zaw (k:Run E Γ u o):Run E Γ (tSeq znT u) o:=λF0 Hb F H σ own D a q=>k F0 Hb F H σ own D a q
theorem znV {Δ:Ctx} (h:Run E Γ t (.nx Δ)) (k:Run E Δ u o):Run E Γ (tSeq t u) o:=λF0 Hb F H σ own D a q=>h F0 Hb F H σ own _ a λF H σ own a'=>k F0 Hb F H σ own D a' q
theorem zaC {r:TS} (h:Run E Γ (tSeq t (tSeq u r)) o):Run E Γ (tSeq (tSeq t u) r) o:=λF0 Hb F H σ own D a q=>h F0 Hb F H σ own D a q
theorem ziB {F0 Hb F H:Hp} {σ:St} {own:Nat->Option Addr} (a:At F0 Hb F H σ own Γ) (e:Γ[i]?=some (.ow m ds)) :
  ∃ p vs,σ[i]?=some (some (.ref p))∧own i=some p∧F p=none∧Hb p=none∧H p=some (.lst vs)∧Paired ↑197 vs ds:=by
 obtain ⟨p,vs,e1,e2,e3,e4,e5,e6⟩:=a.sl i _ e
 have hi:i<σ.length:=by rw [a.len];exact (↑52).1
 rw [List.getElem?_eq_getElem hi] at e1
 have e':σ[i]=some (.ref p):=e1
 exact ⟨p,vs,by rw [List.getElem?_eq_getElem hi,e'],e2,e3,e4,e5,e6⟩
theorem zlY {te:TE} (e:Γ[i]?=some (.ow m ds)) (h:Ev Γ te m d) (hz:ds.length<sizeLine) (k:Run E (Γ.set i (.ow m (ds++[d]))) u o):Run E Γ (tSeq (znB (tBM K "list" zjl (zis i) (tCons te tNil))) u) o:=λF0 Hb F H σ own D a q=>by
 obtain ⟨p,vs,e1,e2,e3,e4,e5,e6⟩:=ziB a e
 refine ⟨_,e1,.inl ⟨rfl,_,SqL.of e5⟩,?_⟩
 refine h F0 Hb F H σ own _ a λv F' H' g qv=>?_
 obtain ⟨p',vs',f1,f2,f3,f4,f5,f6⟩:=ziB ↑22 e
 rw [e1] at f1
 cases f1
 exact ⟨p,vs',v,rfl,rfl,f5,by rw [Paired.length f6];exact hz,k F0 Hb F' _ σ own D ((↑22).turn e e1 (zcY f6 (.cons qv .nil))) q⟩
theorem zok {tb:TE} {n:Bool} {j:Int} (e:Γ[i]?=some (.ow m ds)) (h2:Ev Γ tb false (dI j)) (ej:atI ds j=some d):Ev Γ (tOp (zru K) (zis i) tb) m d:=λF0 Hb F H σ own Q a k=>by
 obtain ⟨p,vs,e1,e2,e3,e4,e5,e6⟩:=ziB a e
 refine ⟨_,e1,h2 F0 Hb F H σ own _ a λv F' H' g qv=>?_⟩
 obtain ⟨x,ex,rx⟩:=zhd e6 ej
 exact ⟨p,vs,j,x,rfl,qv,SqL.of (g.h _ _ e5),ex,k x F' H' g (d.up (zbi g.f) rx)⟩
theorem zng {n:Bool} (e:Γ[i]?=some (.ow m ds)):Ev Γ (tCB ↑216 (tCons (zis i) tNil)) n (dI ds.length):=λF0 Hb F H σ own Q a k=>by
 obtain ⟨p,vs,e1,e2,e3,e4,e5,e6⟩:=ziB a e
 exact ⟨_,e1,p,vs,rfl,.inl (SqL.of e5),k _ F H (Grow.refl a.fh) (by show V.int _=_;rw [Paired.length e6])⟩
theorem znc {te tj:TE} {j:Int} {n:Nat} (e:Γ[i]?=some (.ow m ds)) (h:Ev Γ te m d) (hj:Ev Γ tj false (dI j)) (ej:ixN ds.length j=some n) (k:Run E (Γ.set i (.ow m (ds.set n d))) u o):Run E Γ (tSeq (zjR te (zsj (zis i) tj zmL)) u) o:=λF0 Hb F H σ own D a q=>by
 refine h F0 Hb F H σ own _ a λv F' H' g qv=>?_
 obtain ⟨p,vs,e1,e2,e3,e4,e5,e6⟩:=ziB ↑22 e
 refine ⟨_,e1,hj F0 Hb F' H' σ own _ ↑22 λw F2 H2 g2 qw=>?_⟩
 obtain ⟨p',vs',f1,f2,f3,f4,f5,f6⟩:=ziB ((↑22).grow g2) e
 rw [e1] at f1
 cases f1
 exact ⟨p,vs',j,n,rfl,qw,f5,by rw [Paired.length f6];exact ej,k F0 Hb F2 _ σ own D (((↑22).grow g2).turn e e1 (ziz (R:=λv (d:Ds)=>d.pr (part m F2 Hb) v) (d.up (zbi g2.f) qv) n f6)) q⟩
theorem ziK {S:Type} (f:S->γ->S ⊕ β):∀ (xs:List γ) (s:S) (i:Nat) (s':S),zcF f s (xs.take i)=.inl s'->∀ x,xs[i]?=some x->zcF f s (xs.take (i+1))=f s' x
 | [],_,_,_,_,_,h=>by simp at h
 | y :: ys,s,0,s',e,x,h=>by
  simp at h;subst h
  have e':s=s':=by simpa [zcF] using e
  subst e'
  show zcF f s [y]=_
  simp only [zcF]
  cases f s y<;>rfl
 | y :: ys,s,i+1,s',e,x,h=>by
  simp only [List.take_succ_cons,zcF] at e ⊢
  cases q:f s y with
  | inl s1=>rw [q] at e;exact ziK f ys s1 i s' e x ↑114
  | inr b=>rw [q] at e;cases e
theorem ziJ {S:Type} (f:S->γ->S ⊕ β):∀ (xs:List γ) (s:S) (i:Nat) (b:β),zcF f s (xs.take i)=.inr b->zcF f s xs=.inr b
 | [],s,i,b,e=>by simpa using e
 | y :: ys,s,0,b,e=>by simp [zcF] at e
 | y :: ys,s,i+1,b,e=>by
  simp only [List.take_succ_cons,zcF] at e ⊢
  cases q:f s y with
  | inl s1=>rw [q] at e;exact ziJ f ys s1 i b e
  | inr b'=>rw [q] at e;exact e
def zgH {S:Type} (G:S->Ctx) (res:β->Oc):S ⊕ β->Oc
 | .inl s=>.nx (G s)
 | .inr b=>res b
theorem Grow.rebase {F0 Hb F1 H1 F H:Hp} (g1:Grow F0 Hb F1 H1) (g:Grow F0 Hb F H) (e:Same F1 F):Grow F1 Hb F H :=
 ⟨e,g.fh,g.h,λa h1 h2=>g.no a h1 (g1.f.free h2)⟩
theorem Grow.unbase {F0 Hb F1 H1 F H:Hp} (g1:Grow F0 Hb F1 H1) (g:Grow F1 Hb F H):Grow F0 Hb F H :=
 ⟨g1.f.trans g.f,g.fh,g.h,λa h1 h2=>g.no a h1 (g1.no a h1 h2)⟩
theorem At.rebase {F0 Hb F1 H1 F H:Hp} {σ:St} {own:Nat->Option Addr} (g1:Grow F0 Hb F1 H1) (a:At F0 Hb F H σ own Γ) (e:Same F1 F):At F1 Hb F H σ own Γ:=⟨g1.rebase a.g e,a.inj,a.liv,a.sl,a.len⟩
theorem At.unbase {F0 Hb F1 H1 F H:Hp} {σ:St} {own:Nat->Option Addr} (g1:Grow F0 Hb F1 H1) (a:At F1 Hb F H σ own Γ):At F0 Hb F H σ own Γ:=⟨g1.unbase a.g,a.inj,a.liv,a.sl,a.len⟩
theorem zhy.rebase {F0 Hb F1 H1:Hp} {D:Ends} (g1:Grow F0 Hb F1 H1) (h:zhy E F0 Hb D o):zhy E F1 Hb D o:=by
 cases o with
 | nx Γ=>exact λF H σ own a=>h F H σ own (a.unbase g1)
 | bk Γ=>exact λF H σ own a=>h F H σ own (a.unbase g1)
 | ct Γ=>exact λF H σ own a=>h F H σ own (a.unbase g1)
 | rt m d=>exact λv F H g q=>h v F H (g1.unbase g) q
 | rl m ds=>exact λp vs F H g h1 h2 h3 q=>h p vs F H (g1.unbase g) h1 h2 h3 q
 | ex C Γ=>exact λdct F H σ own a=>h dct F H σ own (a.unbase g1)
 | rw Γ d=>exact λv F H σ own a q=>h v F H σ own (a.unbase g1) q
theorem zmM {S:Type} {wi:TI} {g:TG} {tb:TS} {js:List Nat} {xs:List γ} {bds:γ->List Ds} {mi:Bool} {s0:S} (G:S->Ctx) (res:β->Oc) (f:S->γ->S ⊕ β) (I:Nat->S->Prop) (it:Iv Γ wi g js xs bds mi) (w:Wk Γ (G s0)) (h0:I 0 s0)
  (hres:∀ (b:β) (F0 Hb:Hp) (D D':Ends),D.rt=D'.rt->zhy E F0 Hb D (res b)->zhy E F0 Hb D' (res b))
  (body:∀ (i:Nat) (x:γ) (s:S),xs[i]?=some x->I i s->(∀ s',f s x=.inl s'->I (i+1) s')∧Run E (zmn js (bds x) mi (G s)) tb (zgH G res (f s x))):Run E Γ (zrv wi g tb) (zgH G res (zcF f s0 xs)):=λF0 Hb F H σ own D a q =>
 it F0 Hb F H σ own _ a λJ F1 H1 g1 ok=>by
  have gb:Grow F0 Hb F1 H1:=a.g.trans g1
  refine ⟨λi mm σ H2=>mm=xs.length-i∧i≤xs.length∧∃ s F2 own2,zcF f s0 (xs.take i)=.inl s∧I i s∧At F1 Hb F2 H2 σ own2 (G s),⟨_,rfl,Nat.zero_le _,s0,F1,own,by simp [zcF],h0,((↑20).wk w).rebase gb (Same.refl _)⟩,?_⟩
  rintro i mm σ2 H2 ⟨rfl,hi,s,F2,own2,es,hI,a2⟩
  obtain ⟨hstop,hitem⟩:=ok.up a2.g.f H2 a2.fh
  by_cases hlt:i<xs.length
  ·have hx:xs[i]?=some xs[i]:=List.getElem?_eq_getElem hlt
   obtain ⟨go,yl⟩:=hitem i xs[i] hx
   obtain ⟨hI',hb⟩:=body i _ s hx hI
   have tk:=ziK f xs s0 i s es _ hx
   refine .inr ⟨go,λσ' H'=>∃ s' F3 own3,f s xs[i]=.inl s'∧At F1 Hb F3 H' σ' own3 (G s'),λσ' H' ⟨s',F3,own3,e3,a3⟩=>⟨xs.length-(i+1),by omega,rfl,hlt,s',F3,own3,by rw [tk,e3],hI' s' e3,a3⟩,λx H' y=>?_⟩
   obtain ⟨g3,bind⟩:=yl x H' y
   refine bind σ2 _ λvs hvs=>?_
   have a3:=(a2.grow g3).setMany (js:=js) hvs
   refine hb F1 Hb F2 H' _ own2 _ a3 ?_
   cases e3:f s xs[i] with
   | inl s'=>exact λF3 H3 σ3 own3 a4=>⟨s',F3,own3,rfl,a4⟩
   | inr b =>
    have:=ziJ f xs s0 (i+1) b (by rw [tk,e3])
    rw [this] at q
    exact hres b F1 Hb D _ rfl (zhy.rebase (o:=res b) gb q)
  ·have e:i=xs.length:=by omega
   subst e
   rw [List.take_length] at es
   rw [es] at q
   exact .inl ⟨hstop,q F2 H2 σ2 own2 (a2.unbase gb)⟩
end
structure EqD {α:Type} [DecidableEq α] (K:W.Frag) (f:α->Ds) (n:Nat):Prop where
 eq:∀ H x y v w,(f x).pr H v->(f y).pr H w->EqV K H n v w (decide (x=y))
 inj:∀ H x y v,(f x).pr H v->(f y).pr H v->x=y
theorem EqD.int {K:W.Frag} {n:Nat}:EqD K dI n:=⟨λH x y v w h1 h2=>by
 cases h1;cases h2
 have:decide (x=y)=eqV (.int x) (.int y):=Bool.eq_iff_iff.mpr (by unfold eqV;simp)
 rw [this];exact .flat rfl rfl,λH x y v h1 h2=>by cases h1;cases h2;rfl⟩
theorem EqD.bool {K:W.Frag} {n:Nat}:EqD K dB n:=⟨λH x y v w h1 h2=>by
 cases h1;cases h2
 have:decide (x=y)=eqV (.bl x) (.bl y):=by cases x<;>cases y<;>rfl
 rw [this];exact .flat rfl rfl,λH x y v h1 h2=>by cases h1;cases h2;rfl⟩
theorem EqD.str {K:W.Frag} {n:Nat}:EqD K dS n:=⟨λH x y v w h1 h2=>by
 cases h1;cases h2
 have:decide (x=y)=eqV (.str x) (.str y):=Bool.eq_iff_iff.mpr (by unfold eqV;simp)
 rw [this];exact .flat rfl rfl,λH x y v h1 h2=>by cases h1;cases h2;rfl⟩
theorem zhg {α:Type} {f:α->Ds} {H:Hp} (h:∀ x y v,(f x).pr H v->(f y).pr H v->x=y):∀ {xs ys:List α} {vs:List V},Paired ↑150 vs ↑18->Paired ↑150 vs (ys.map f)->xs=ys
 | [],[],_,_,_=>rfl
 | [],_ :: _,_,.nil,h2=>by cases h2
 | _ :: _,[],_,h1,.nil=>by cases h1
 | x :: xs,y :: ys,_,.cons a s,.cons b t=>by rw [h x y _ a b,zhg h s t]
theorem zm0 {α:Type} [DecidableEq α] {xs ys:List α} (h:xs.length=ys.length):((↑205).all λj=>decide (xs[j]? =ys[j]?))=decide (xs=ys):=by
 by_cases e:xs=ys
 ·subst e;simp
 ·rw [decide_eq_false e]
  by_cases z:((↑205).all λj=>decide (xs[j]? =ys[j]?))=true
  ·exfalso
   apply e
   rw [List.all_eq_true] at z
   refine List.ext_getElem? λj=>?_
   by_cases hj:j<xs.length
   ·simpa using z j (List.mem_range.mpr hj)
   ·rw [List.getElem?_eq_none ↑0,List.getElem?_eq_none ↑0]
  ·simpa using z
theorem zlC {α:Type} [DecidableEq α] {K:W.Frag} {f:α->Ds} {n:Nat} (E:EqD K f n) {H:Hp} {xs ys:List α} {vs ws:List V} (h1:Paired ↑150 vs ↑18) (h2:Paired ↑150 ws (ys.map f)) (hl:xs.length=ys.length) :
  ∀ (j:Nat) (x y:V),vs[j]?=some x->ws[j]?=some y->EqV K H n x y (decide (xs[j]?=ys[j]?)):=λj x y e1 e2=>by
 have l1:=Paired.length h1
 have l2:=Paired.length h2
 rw [List.length_map] at l1 l2
 have hj:j<vs.length:=(List.getElem?_eq_some_iff.mp e1).1
 have q1:xs[j]?=some (xs[j]' ↑0):=List.getElem?_eq_getElem ↑0
 have q2:ys[j]?=some (ys[j]' ↑0):=List.getElem?_eq_getElem ↑0
 obtain ⟨v,ev,rv⟩:=zbC h1 (show (↑18)[j]?=some (f (xs[j]' ↑0)) by rw [List.getElem?_map,q1];rfl)
 obtain ⟨w,ew,rw'⟩:=zbC h2 (show (ys.map f)[j]?=some (f (ys[j]' ↑0)) by rw [List.getElem?_map,q2];rfl)
 rw [e1] at ev;rw [e2] at ew
 cases ev;cases ew
 have:=E.eq H _ _ _ _ rv rw'
 rw [q1,q2]
 simpa using this
theorem EqD.list {α:Type} [DecidableEq α] {K:W.Frag} {f:α->Ds} {n:Nat} (E:EqD K f n):EqD K (λxs:List α=>dL ↑18) (n+1):=⟨λH xs ys v w h1 h2=>by
 obtain ⟨p,vs,rfl,hp,qp⟩:=h1
 obtain ⟨q,ws,rfl,hq,qq⟩:=h2
 by_cases e:p=q
 ·subst e
  rw [hp] at hq
  cases hq
  rw [zhg (E.inj H) qp qq,decide_eq_true rfl]
  exact .same
 ·have l1:=Paired.length qp
  have l2:=Paired.length qq
  rw [List.length_map] at l1 l2
  by_cases hl:xs.length=ys.length
  ·rw [← zm0 hl,← l1]
   exact .lists e (SqL.of hp) (SqL.of hq) ↑0 (zlC E qp qq hl)
  ·have:decide (xs=ys)=false:=decide_eq_false λz=>hl (by rw [z])
   rw [this]
   exact .lens e (SqL.of hp) (SqL.of hq) ↑0,λH xs ys v h1 h2=>by
 obtain ⟨p,vs,rfl,hp,qp⟩:=h1
 obtain ⟨q,ws,e,hq,qq⟩:=h2
 cases e
 rw [hp] at hq
 cases hq
 exact zhg (E.inj H) qp qq⟩
theorem zgJ {α:Type} [DecidableEq α] {K:W.Frag} {f:α->Ds} {n:Nat} (E:EqD K f n) {Γ:Ctx} {ta tb:TE} {m neg:Bool} {xs ys:List α} (h1:Ev Γ ta false (dQ K ↑18)) (h2:Ev Γ tb false (dQ K (ys.map f))) (hn:n≤50:=by decide) :
  Ev Γ (tOp (zos K neg) ta tb) m (dB (bif neg then !decide (xs=ys) else decide (xs=ys))):=λF0 Hb F H σ own Q a k =>
 h1 F0 Hb F H σ own _ a λu F1 H1 g1 ⟨p,vs,e1,e2,e3⟩=>h2 F0 Hb F1 H1 σ own _ ↑20 λu' F2 H2 g2 ⟨q,ws,d1,d2,d3⟩=>by
  have e2':SqL K H2 p vs:=(g1.fh.trans g2.h).seq e2
  have d2':SqL K H2 q ws:=g2.fh.seq d2
  have e3':=zdG (ds:=[]) (g1.fh.trans g2.h) e3
  have d3':=zdG (ds:=[]) g2.fh d3
  have l1:=Paired.length e3'
  have l2:=Paired.length d3'
  rw [List.length_map] at l1 l2
  refine ⟨p,q,n,vs,ws,e1,d1,e2',d2',hn,?_⟩
  by_cases hl:xs.length=ys.length
  ·refine .inr ⟨_,by omega,zlC E e3' d3' hl,k _ F2 H2 ↑48 ?_⟩
   rw [l1,zm0 hl]
   cases neg<;>rfl
  ·refine .inl ⟨by omega,k _ F2 H2 ↑48 ?_⟩
   rw [show decide (xs=ys)=false from decide_eq_false λz=>hl (by rw [z])]
   cases neg<;>rfl
def zgs (N:List Str) (ds:List Ds):Ctx:=ds.map (.va false)++List.replicate (N.length-ds.length) .no
def zrD (n:Nat):Rs->Oc
 | .va m d=>.rt m d
 | .ow m ds=>.rl m ds
 | .ex C=>.ex C (List.replicate n .no)
theorem zk5 {F H:Hp} {N:List Str} {vs:List V} {ds:List Ds} (hF:Same F H) (hv:Paired (λv (d:Ds)=>d.pr F v) vs ds):At F H F H (start N vs) (λ_=>none) (zgs N ds):=by
 have hl:=Paired.length hv
 refine ⟨Grow.refl hF,λ_ _ _ h=>(nomatch h),λ_ _ h=>(nomatch h),λi s e=>?_,by unfold start zgs;simp [hl]⟩
 unfold zgs at e
 unfold start
 by_cases hi:i<ds.length
 ·rw [List.getElem?_append_left ↑63,List.getElem?_map] at e
  rw [List.getElem?_append_left (by simpa [hl] using hi),List.getElem?_map]
  obtain ⟨v,ev,rv⟩:=zbC hv (List.getElem?_eq_getElem hi)
  rw [List.getElem?_eq_getElem hi] at e
  have e':Slot.va false ds[i]=s:=Option.some.inj e
  subst e'
  exact ⟨v,by rw [ev];rfl,rv⟩
 ·rw [List.getElem?_append_right ↑63,List.getElem?_replicate] at e
  split at e
  ·cases e;trivial
  ·cases e
def zo8 (H F:Hp) (Q:VK) (E:XK):Rs->Prop
 | .ex C=>∀ dct F' H',Grow F H F' H'->E (.ref C) dct H'
 | .va m d=>∀ v F' H',Grow F H F' H'->d.pr (part m F' H) v->Q v H'
 | .ow m ds=>∀ p ws F' H',Grow F H F' H'->H p=none->F' p=none->H' p=some (.lst ws)->Paired (λv (d:Ds)=>d.pr (part m F' H) v) ws ds->Q (.ref p) H'
theorem zn6 {E:XK} {F H:Hp} {N:List Str} {vs:List V} {ds:List Ds} {Q:VK} {t:TS} {r:Rs} (hF:Same F H) (hv:Paired (λv (d:Ds)=>d.pr F v) vs ds) (hq:zo8 H F Q E r) (h:Run (λ_=>E) (zgs N ds) t (zrD N.length r)):t { nx:=λ_ H'=>Q .non H',rt:=Q } (start N vs) H:=by
 refine h F H F H _ _ _ (zk5 hF hv) ?_
 cases r with
 | va m d=>exact λv F' H' g q=>hq v F' H' g q
 | ow m ds=>exact λp ws F' H' g h1 h2 h3 q=>hq p ws F' H' g h1 h2 h3 q
 | ex C=>exact λdct F' H' σ own a=>hq dct F' H' a.g
theorem zlg {E:XK} {F H:Hp} {N:List Str} {vs:List V} {ds:List Ds} {Q:VK} {t:TS} {m:Bool} {Δ:Ctx} (hF:Same F H) (hv:Paired (λv (d:Ds)=>d.pr F v) vs ds) (hq:zo8 H F Q E (.va m dN)) (h:Run (λ_=>E) (zgs N ds) t (.nx Δ)):t { nx:=λ_ H'=>Q .non H',rt:=Q } (start N vs) H :=
 h F H F H _ _ _ (zk5 hF hv) λF' H' σ own a=>hq _ F' H' a.g rfl
section
variable {P:Program} {w:World} {K:W.Frag} {mg:Str->Option Value} {base:Heap} {x qual:Str} {st:Stmt} {f:Addr} {fd:FuncData} {N ps:List Str} {k:Nat}
theorem Fun.okV {ι:Type} {args:ι->List Ds} {pre:ι->Prop} {res:ι->Rs} (F:Fun K x qual st f fd) (S:FnScope N ps (zad st)) (hl:∀ i,(args i).length=ps.length)
  (hbody:∀ (cdv:Value) (A:Around) (outer:List Env) (s:Shared) (H:Hp) (E:XK) (i:ι),Room k ↑223->pre i →
   ∃ t,PSs (↑164).nox (zaB st) t∧(Run (λ_=>E) (zgs N (args i)) t (zrD N.length (res i))∨∃ m Δ,res i=.va m dN∧Run (λ_=>E) (zgs N (args i)) t (.nx Δ))):FnOk P w K mg base ⇑1 (k+1) f fd ps (Spv args pre res):=by
 refine F.okX S (λvs H Q E ⟨i,F',_,hv,_⟩=>by rw [Paired.length hv];exact hl i) λcdv A outer s H vs Q E hr ⟨i,F',hF,hv,hp,hq⟩=>?_
 obtain ⟨t,h1,h2⟩:=hbody cdv A outer s H E i hr hp
 have hq':zo8 H F' Q E (res i):=by
  cases e:res i with
  | va m d=>rw [e] at hq;exact hq
  | ow m ds=>rw [e] at hq;exact hq
  | ex C=>rw [e] at hq;exact hq
 refine ⟨_,zj9 h1,?_⟩
 rcases h2 with h2 | ⟨m,Δ,e,h2⟩
 ·exact zn6 hF hv hq' h2
 ·rw [e] at hq'
  exact zlg hF hv hq' h2
end
def putD (f:Str) (d:Ds):List (Str×Ds)->List (Str×Ds)
 | []=>[(f,d)]
 | (g,x) :: r=>if g=f then (g,d) :: r else (g,x) :: putD f d r
theorem ziG {R:V->Ds->Prop} {f:Str} {v:V} {d:Ds} (h:R v d):∀ {vs:List (Str×V)} {fs:List (Str×Ds)},Paired (λ(a:Str×V) (b:Str×Ds)=>a.1=b.1∧R a.2 b.2) vs fs->Paired (λ(a:Str×V) (b:Str×Ds)=>a.1=b.1∧R a.2 b.2) (putF f v vs) (putD f d fs)
 | _,_,.nil=>.cons ⟨rfl,h⟩ .nil
 | _,_,.cons (a:=(x,u)) (b:=(y,e)) ⟨h1,h2⟩ t=>by
  have h1:x=y:=h1
  subst h1
  unfold putF putD
  split
  ·exact .cons ⟨rfl,h⟩ t
  ·exact .cons ⟨rfl,h2⟩ (ziG h t)
theorem zq5 {Γ:Ctx} {i:Nat} {m:Bool} {C p dx:Addr} {fs:List (Str×Ds)} {K:W.Frag} {tv:TE} {d:Ds} {f:Str} {u:TS} {o:Oc} {E:XS} (e:Γ[i]?=some (.ob m C p dx fs)) (h:Ev Γ tv m d) (c:Cls K C) (nf:NoAttr K C f) (hz:fs.length<1000) (k:Run E (Γ.set i (.ob m C p dx (putD f d fs))) u o):Run E Γ (tSeq (zuy K (zis i) tv f) u) o:=λF0 Hb F H σ own D a q=>by
 refine h F0 Hb F H σ own _ a λv F' H' g qv=>?_
 have a':=a.grow g
 obtain ⟨vs,e1,e2,e3,e4,e5,e6⟩:=a'.sl i _ e
 have hi:i<σ.length:=by rw [a.len];exact (↑52).1
 rw [List.getElem?_eq_getElem hi] at e1
 have e':σ[i]=some (.ref p):=e1
 have ei:σ[i]?=some (some (.ref p)):=by rw [List.getElem?_eq_getElem hi,e']
 exact ⟨_,ei,p,C,dx,vs,rfl,e5.1,c,nf,by rw [Paired.length e6];exact hz,k F0 Hb F' _ σ own D (a'.turnOb e (ziG (R:=λv (d:Ds)=>d.pr (part m F' Hb) v) qv e6)) q⟩
def zpX {ι:Type} (C:Addr) (args:ι->List Ds) (pre:ι->Prop) (m:Bool) (fs:ι->List (Str×Ds)):Sp:=λvs H Q _=>∃ (i:ι) (p dx:Addr) (ws:List V) (H1 F:Hp),vs=.ref p :: ws∧H1 p=none∧H1 dx=none∧dx≠p∧H=upd (upd H1 dx (.own p)) p (.ins C dx [])∧Same F H1 ∧
 Paired (λv (d:Ds)=>d.pr F v) ws (args i)∧pre i∧∀ us F' H',Grow F H1 F' H'->F' p=none->F' dx=none->H' p=some (.ins C dx us)->H' dx=some (.own p)->Paired (λ(a:Str×V) (b:Str×Ds)=>a.1=b.1∧b.2.pr (part m F' H1) a.2) us (fs i)->Q .non H'
def zm4 (m:Bool) (C p dx:Addr) (N:List Str) (ds:List Ds):Ctx:=.ob m C p dx [] :: (ds.map (.va false)++List.replicate (N.length-(ds.length+1)) .no)
section
variable {P:Program} {w:World} {K:W.Frag} {mg:Str->Option Value} {base:Heap} {x qual:Str} {st:Stmt} {f:Addr} {fd:FuncData} {N ps:List Str} {k:Nat}
theorem zn8 {m:Bool} {F H1:Hp} {C p dx:Addr} {N:List Str} {ws:List V} {ds:List Ds} (hF:Same F H1) (hv:Paired (λv (d:Ds)=>d.pr F v) ws ds) (h1:H1 p=none) (h2:H1 dx=none) (h3:dx≠p) :
  At F H1 F (upd (upd H1 dx (.own p)) p (.ins C dx [])) (start N (.ref p :: ws)) (λi=>if i=0 then some p else none) (zm4 m C p dx N ds):=by
 have hl:=Paired.length hv
 have n1:upd H1 dx (.own p) p=none:=by rw [zat (Ne.symm h3)];exact h1
 have g:Grow F H1 F (upd (upd H1 dx (.own p)) p (.ins C dx [])):=((Grow.refl hF).newH h2).newH n1
 refine ⟨g,λi j q e1 e2=>?_,λi q e=>?_,λi s e=>?_,?_⟩
 ·split at e1
  ·split at e2
   ·omega
   ·cases e2
  ·cases e1
 ·split at e
  ·cases e;rw [zaE];simp
  ·cases e
 ·cases i with
  | zero =>
   have e':Slot.ob m C p dx []=s:=Option.some.inj e
   subst e'
   exact ⟨[],rfl,rfl,⟨hF.free h1,hF.free h2⟩,⟨h1,h2⟩,⟨zaE,by rw [zat h3];exact zaE⟩,.nil⟩
  | succ i =>
   have e:(ds.map (Slot.va false)++List.replicate (N.length-(ds.length+1)) Slot.no)[i]?=some s:=e
   show zgN H1 F _ _ _ ((ws.map some++List.replicate (N.length-(ws.length+1)) none)[i]?).join s
   by_cases hi:i<ds.length
   ·rw [List.getElem?_append_left ↑63,List.getElem?_map] at e
    rw [List.getElem?_append_left (by simpa [hl] using hi),List.getElem?_map]
    obtain ⟨v,ev,rv⟩:=zbC hv (List.getElem?_eq_getElem hi)
    rw [List.getElem?_eq_getElem hi] at e
    have e':Slot.va false ds[i]=s:=Option.some.inj e
    subst e'
    exact ⟨v,by rw [ev];rfl,rv⟩
   ·rw [List.getElem?_append_right ↑63,List.getElem?_replicate] at e
    split at e
    ·cases e;trivial
    ·cases e
 ·unfold start zm4;simp [hl]
theorem Fun.okI {ι:Type} {C:Addr} {args:ι->List Ds} {pre:ι->Prop} {m:Bool} {fs:ι->List (Str×Ds)} (F:Fun K x qual st f fd) (S:FnScope N ps (zad st)) (hl:∀ i,(args i).length+1=ps.length)
  (hbody:∀ (cdv:Value) (A:Around) (outer:List Env) (s:Shared) (H:Hp) (E:XK) (i:ι),Room k ↑223->pre i →
   ∃ t,PSs (↑164).nox (zaB st) t∧∀ p dx,∃ Δ,Run (λ_=>E) (zm4 m C p dx N (args i)) t (.nx Δ)∧Δ[0]?=some (.ob m C p dx (fs i))):FnOk P w K mg base ⇑1 (k+1) f fd ps (zpX C args pre m fs):=by
 refine F.okX S (λvs H Q E ⟨i,p,dx,ws,H1,F',e,_,_,_,_,_,hv,_⟩=>by rw [e,List.length_cons,Paired.length hv];exact hl i) λcdv A outer s H vs Q E hr ⟨i,p,dx,ws,H1,F',e,h1,h2,h3,h4,hF,hv,hp,hq⟩=>?_
 subst e h4
 obtain ⟨t,t1,t2⟩:=hbody cdv A outer s _ E i hr hp
 obtain ⟨Δ,t2,t3⟩:=t2 p dx
 refine ⟨_,zj9 t1,?_⟩
 refine t2 F' H1 F' _ _ _ _ (zn8 hF hv h1 h2 h3) λF2 H2 σ2 own2 a2=>?_
 obtain ⟨us,e1,e2,e3,e4,e5,e6⟩:=a2.sl 0 _ t3
 exact hq us F2 H2 a2.g e3.1 e3.2 e5.1 e5.2 e6
end
section
variable {Γ:Ctx} {ds:List Ds} {tr:TA} {E:XK}
theorem zkw {ι:Type} {C:Addr} {args:ι->List Ds} {pre:ι->Prop} {m:Bool} {fs:ι->List (Str×Ds)} (i:ι) (h:EvA Γ tr false ds) (ha:ds=args i) (hp:pre i):Ev Γ (zqv C (zpX C args pre m fs) [] E tr) m (dO C (fs i)):=λF0 Hb F H σ own Q a k=>by
 subst ha
 refine h F0 Hb F H σ own _ a λvs F1 H1 g1 q1 p dx h1 h2 h3=>⟨i,p,dx,vs,H1,F1,by rw [List.append_nil],h1,h2,h3,rfl,g1.fh,q1,hp,λus F' H' g n1 n2 e1 e2 e3=>⟨rfl,?_⟩⟩
 have g2:=g1.trans g
 obtain ⟨p0,_,pb⟩:=a.free g1 h1
 obtain ⟨d0,_,db⟩:=a.free g1 h2
 have g3:=(g2.take p0 e1).take d0 e2
 have s1:Same F' (upd F' p (.ins C dx us)):=Same.new n1 _
 have n3:upd F' p (.ins C dx us) dx=none:=by rw [zat h3];exact n2
 have s2:Same F' (upd (upd F' p (.ins C dx us)) dx (.own p)):=s1.trans (Same.new n3 _)
 refine k _ _ _ g3 ⟨p,dx,us,rfl,zeY pb (by rw [zat (Ne.symm h3)];exact zaE),zeY db zaE,?_⟩
 exact zb4 (λ_ b q=>⟨q.1,b.2.up (((zgh (a.g.h.trans g1.h))).trans (zbi s2)) q.2⟩) e3
end
def Ite (K:W.Frag) (a:Addr):It :=
 ⟨λi H=>∃ xs x,SqL K H a xs∧xs[i]?=some x,
  λi H v H'=>∃ p x,v=.ref p∧H p=none∧H'=upd H p (.tup [.int (i:Int),x])∧∀ xs,SqL K H a xs->xs[i]?=some x,
  λi H=>∃ xs,SqL K H a xs∧xs.length≤i⟩
theorem zm6 {P:Program} {w:World} {K:W.Frag} {elts:List Expr} {x1:Nat} {tp:Pos} {a e it:Addr} (hne:e≠it) :
  Turn P w K (.Tuple elts x1 tp) (Ite K a) [e,it] e (λi h=>(∃ old,IsEnum h e it (i:Int) old)∧h.IsListIter it a i) where
 mem:=by simp
 obj:=λi h st c hc=>by
  obtain ⟨⟨old,he⟩,⟨o1,e1,_,d1⟩⟩:=st
  simp only [List.mem_cons,List.not_mem_nil,or_false] at hc
  rcases hc with rfl | rfl
  ·exact ⟨_,he,λv z=>by cases z⟩
  ·exact ⟨o1,e1,λv z=>by rw [d1] at z;cases z⟩
 keep:=λi h h' st k=>by
  obtain ⟨⟨old,he⟩,h1⟩:=st
  exact ⟨⟨old,k e ⇑5 _ he⟩,h1.at λo q=>k it ⇑5 o q⟩
 item:=by
  intro X hP hw hK hc i pins s σ H E I hf st hg
  subst hP hw hK
  obtain ⟨xs,x,hxs,hx⟩:=hg
  obtain ⟨itx,rx,px,hzx⟩:=I.list hxs
  obtain ⟨u,hu,ru⟩:=rx.get hx
  obtain ⟨⟨old,he⟩,h1⟩:=st
  refine wpAny_pyNext_enum_item (x:=u) he h1 px.isList (by simpa using hu) hne λh' a1 a2 a3 a4 hk=>?_
  refine ⟨_,rfl,wpAny_letOwnedTupleGo_enum a1 λh'' b1 b2=>?_⟩
  have elt:e<s.heap.objs.size:=Heap.lt_size he
  have itl:it<s.heap.objs.size:=by obtain ⟨_,q,_⟩:=h1;exact Heap.lt_size q
  have tup:h''.get? s.heap.objs.size=some { cls:=.type "tuple",data:=.seq #[.int i s.toks,u] }:=b2.extBut _ _ (Nat.ne_of_gt elt) a3
  have I1:Inv X pins σ (upd H s.heap.objs.size (.tup [.int (i:Int),x])) { s with heap:=h'',toks:=s.toks+1 }:=by
   refine I.turnedNew (t':=s.toks+1) (ch:=[e,it]) (λc hc=>hf c hc) (λc ob hc q=>?_) ↥8 ?_
   ·simp only [List.mem_cons,List.not_mem_nil,or_false,not_or] at hc
    exact b2.extBut _ _ hc.1 (hk c ob hc.1 hc.2 q)
   ·exact ⟨by show 2≤sizeLine;decide,[.int i s.toks,u],.cons ⟨_,rfl⟩ (.cons ru .nil),⟨_,tup,rfl,_,rfl⟩⟩
  refine ⟨.ref s.heap.objs.size,_,I1,rfl,⟨_,x,rfl,I.hok.fresh ↥8,rfl,λxs' q1=>?_⟩,⟨⟨u,?_⟩,a2.extBut b2.extBut (Ne.symm hne)⟩,λc hc=>?_⟩
  ·rw [I.list_inj q1 hxs];exact hx
  ·exact b1
  ·have:c≠s.heap.objs.size:=by
    simp only [List.mem_cons,List.not_mem_nil,or_false] at hc
    rcases hc with rfl | rfl
    ·exact Nat.ne_of_lt elt
    ·exact Nat.ne_of_lt itl
   rw [zat this];exact (hf c hc).1
 done:=by
  intro X hP hw hK hc i pins s σ H E I hf st hg
  subst hP hw hK
  obtain ⟨xs,hxs,hend⟩:=hg
  obtain ⟨itx,rx,px,hzx⟩:=I.list hxs
  obtain ⟨⟨old,he⟩,h1⟩:=st
  have lx:=rx.length
  refine wpAny_pyNext_enum_end (I.ok.hd hc) he h1 px.isList ↑75 λh' hk=>⟨rfl,?_⟩
  refine I.turnedL (t':=s.toks) (ch:=[e,it]) (λc hc=>hf c hc) (λc ob hc q=>?_)
  simp only [List.mem_cons,List.not_mem_nil,or_false,not_or] at hc
  exact hk c ob hc.2 q
 self:=λ_ _ _ _ _ st h=>by obtain ⟨⟨old,he⟩,_⟩:=st;exact wpAny_pyIter_enum he h
section
variable {X:Cx} {K:W.Frag}
def zr9 (K:W.Frag) (ta:TA):TI:=λσ H R=>ta σ H λvs H1=>∃ a,vs=[.ref a]∧(∃ xs,SqL K H1 a xs)∧R (Ite K a) H1
theorem zjq {a:Expr} {ta:TA} {p pos tp:Pos} {elts:List Expr} {x1:Nat} (hK:X.K=K) (hg:Gl X "enumerate") (hm:X.mg "enumerate"=none) (ha:PA X [a] ta) (hs:starEach [a] X.env=[(false,eval a X.env)]:=by rfl) :
  PI X (.Tuple elts x1 tp) (.Call (.Name "enumerate" p) [a] [] pos) (zr9 K ta):=by
 subst hK
 intro pins s σ H R I h
 refine Call_ (zhT I hg hm boot_enumerate (PyProof.Rows.callWith_type1 (thn ↑145 λus s1 ⟨vs,H1,I1,r1,q1⟩=> ?_) (by rw [hs];rfl) rfl))
 obtain ⟨l,e,⟨xs,hx⟩,q⟩:=q1
 subst e
 cases r1 with
 | cons r rr =>
  cases rr
  cases r
  obtain ⟨itx,rx,px,hzx⟩:=I1.list hx
  refine call_enumerate_list px.isList λh' he h1 hsz hk=>wpAny_pyIter_enum he ?_
  have hne:(s1.heap.objs.size+1:Nat)≠s1.heap.objs.size:=by omega
  refine ⟨s1.heap.objs.size+1,[s1.heap.objs.size+1,s1.heap.objs.size],_,Ite X.K l,H1,rfl,I1.kept (t':=s1.toks) hk,zm6 hne,⟨⟨_,he⟩,h1⟩,λc hc=>?_,q⟩
  have hle:@LE.le Nat _ s1.heap.objs.size c:=by
   simp only [List.mem_cons,List.not_mem_nil,or_false] at hc
   rcases hc with rfl | rfl<;>omega
  exact I1.fpOk hle (I1.hok.fresh hle)
end
def Itv (K:W.Frag) (a:Addr) (n:Nat):It :=
 ⟨λi H=>i<n∧∃ xs x,SqL K H a xs∧xs.length=n∧xs[n-1-i]?=some x,λi H x H'=>H'=H∧∀ xs,SqL K H a xs->xs[n-1-i]?=some x,λi _=>i=n⟩
theorem zoB {P:Program} {w:World} {K:W.Frag} {tg:Expr} (a it:Addr) (n:Nat):Turn P w K tg (Itv K a n) [it] it (λi h=>h.IsRevIter it a ((n:Int)-1-(i:Int))) where
 mem:=by simp
 obj:=λi h st b hb=>by
  have e:b=it:=by simpa using hb
  subst e
  obtain ⟨o,e,c,d⟩:=st
  exact ⟨o,e,λv z=>by rw [d] at z;cases z⟩
 keep:=λi h h' st k=>st.at λo e=>k it ⇑5 o e
 item:=by
  intro X hP hw hK hc i pins s σ H E I hf st hg
  subst hP hw hK
  obtain ⟨hi,xs,x,hq,hn,hx⟩:=hg
  obtain ⟨its,rv,p,hz⟩:=I.list hq
  obtain ⟨u,hu,ru⟩:=rv.get hx
  obtain ⟨f0,f1,f2,f3,f4,f5⟩:=hf it ⇑5
  have e1:(n:Int)-1-(i:Int)=((n-1-i:Nat):Int):=by omega
  have e2:((n-1-i:Nat):Int)-1=(n:Int)-1-((i+1:Nat):Int):=by omega
  rw [e1] at st
  refine wpAny_pyNext_rev_item st p.isList (x:=u) (by simpa using hu) λh' st' sb=>?_
  rw [e2] at st'
  have I1:Inv X pins σ H { s with heap:=h' }:=I.turned (t':=s.toks) (λb o hb e=>(sb.2 b hb).trans e) f0 f1 f3 f4 f5
  obtain ⟨o,e,c,d⟩:=id st'
  exact ⟨u,rfl,zqQ (s:= {s with heap:=h'}) e c d ↑1 ⟨x,H,I1,ru,⟨rfl,λys hy=>by rw [I.list_inj hy hq];exact hx⟩,st',λb hb=>(hf b hb).1⟩⟩
 done:=by
  intro X hP hw hK hc i pins s σ H E I hf st hg
  subst hP hw hK
  have hg:i=n:=hg
  subst hg
  obtain ⟨f0,f1,f2,f3,f4,f5⟩:=hf it ⇑5
  have e1:(i:Int)-1-(i:Int)=-1:=by omega
  rw [e1] at st
  exact wpAny_pyNext_rev_end (I.ok.hd hc) st λh' eb=>⟨rfl,I.turned (t':=s.toks) (λb o hb e=>eb b o hb e) f0 f1 f3 f4 f5⟩
 self:=λ_ _ _ _ _ st h=>wpAny_pyIter_revIter st h
section
variable {X:Cx} {K:W.Frag}
def zuZ (K:W.Frag) (ta:TA):TI:=λσ H R=>ta σ H λvs H1=>∃ a xs,vs=[.ref a]∧SqL K H1 a xs∧R (Itv K a xs.length) H1
theorem zpN {a tg:Expr} {ta:TA} {p pos:Pos} (hK:X.K=K) (hg:Gl X "reversed") (hm:X.mg "reversed"=none) (ha:PA X [a] ta) (hs:starEach [a] X.env=[(false,eval a X.env)]:=by rfl) :
  PI X tg (.Call (.Name "reversed" p) [a] [] pos) (zuZ K ta):=by
 subst hK
 intro pins s σ H R I h
 refine Call_ (zhT I hg hm boot_reversed (PyProof.Rows.callWith_type1 (thn ↑145 λus s1 ⟨vs,H1,I1,r1,q1⟩=> ?_) (by rw [hs];rfl) rfl))
 obtain ⟨l,xs,e,hx,q⟩:=q1
 subst e
 cases r1 with
 | cons r rr =>
  cases rr
  cases r
  obtain ⟨itx,rx,px,hzx⟩:=I1.list hx
  have hl:=rx.length
  refine call_reversed_list px.isList ?_
  have ho:=Heap.get?_push_size s1.heap (o:=revObj l ((itx.toArray.size:Int)-1)) rfl
  have st:(s1.heap.push (revObj l ((itx.toArray.size:Int)-1))).IsRevIter s1.heap.objs.size l ((xs.length:Int)-1-((0:Nat):Int)):=⟨_,ho,rfl,by rw [List.size_toArray,← hl];simp [revObj]⟩
  refine wpAny_pyIter_revIter st ?_
  refine ⟨s1.heap.objs.size,[s1.heap.objs.size],_,Itv X.K l xs.length,H1,rfl,I1.kept (t':=s1.toks) (λb o e=>Heap.get?_push_of_some _ e),zoB l s1.heap.objs.size xs.length,st,λc hc=>?_,q⟩
  have hle:@LE.le Nat _ s1.heap.objs.size c:=by
   simp only [List.mem_cons,List.not_mem_nil,or_false] at hc
   rw [hc];exact Nat.le_refl _
  exact I1.fpOk hle (I1.hok.fresh hle)
end
section
variable {Γ:Ctx} {m:Bool} {K:W.Frag} {γ:Type}
def zhU {α:Type} (xs:List α):List (Int×α):=(zbf 0 xs.length).zip xs
theorem zjQ {α:Type} {xs:List α}:(zhU xs).length=xs.length:=by simp [zhU,List.length_zip,zaO]
theorem zfj {α:Type} {xs:List α} {i:Nat} {p:Int×α} (h:(zhU xs)[i]?=some p):i<xs.length∧p.1=i∧xs[i]?=some p.2:=by
 obtain ⟨h1,h2⟩:=zcE h
 obtain ⟨h3,h4⟩:=zbe h1
 exact ⟨h3,by rw [h4];omega,h2⟩
theorem ziY {tl:TE} {j1 j2:Nat} {xs:List γ} (f:γ->Ds) (h:Ev Γ tl m (dQ K ↑18)) :
  Iv Γ (zr9 K (tCons tl tNil)) (zrq K 2 (zhA (zd8 j1) (zhA (zd8 j2) zrw))) [j1,j2] (zhU xs) (λx=>[dI x.1,f x.2]) m:=λF0 Hb F H σ own R a k =>
 h F0 Hb F H σ own _ a λu F1 H1 g1 ⟨p,vs,e1,e2,e3⟩=>by
  have e2':SqL K F1 p vs:=zbb.seq e2
  have le:=Paired.length e3
  rw [List.length_map] at le
  refine ⟨p,by rw [e1],⟨vs,g1.fh.seq e2'⟩,k _ F1 H1 g1 λH hs=>⟨⟨vs,hs.seq e2',by rw [le,zjQ];exact Nat.le_refl _⟩,λi x ex=>?_⟩⟩
  obtain ⟨hi,x1,x2⟩:=zfj ex
  obtain ⟨v,ev,qv⟩:=zbC e3 (show (↑18)[i]?=some (f x.2) by rw [List.getElem?_map,x2];rfl)
  refine ⟨⟨vs,v,hs.seq e2',ev⟩,λz H' y=>?_⟩
  obtain ⟨r,x',rfl,hr,rfl,hxy⟩:=y
  have hx:=hxy vs (hs.seq e2')
  rw [ev] at hx
  cases hx
  exact ⟨(Grow.refl hs).newH hr,λσ Q k=>⟨r,_,rfl,.inl (.inl zaE),rfl,_,_,rfl,_,_,rfl,rfl,k [.int i,v] (.cons (by show V.int _=V.int _;rw [x1]) (.cons qv .nil))⟩⟩
theorem zpI {tl:TE} {j:Nat} {xs:List γ} (f:γ->Ds) (h:Ev Γ tl m (dQ K ↑18)):Iv Γ (zuZ K (tCons tl tNil)) (zd8 j) [j] xs.reverse (λx=>[f x]) m:=λF0 Hb F H σ own R a k =>
 h F0 Hb F H σ own _ a λu F1 H1 g1 ⟨p,vs,e1,e2,e3⟩=>by
  have e2':SqL K F1 p vs:=zbb.seq e2
  have le:=Paired.length e3
  rw [List.length_map] at le
  refine ⟨p,vs,by rw [e1],g1.fh.seq e2',k _ F1 H1 g1 λH hs=>⟨by show xs.reverse.length=vs.length;rw [List.length_reverse,le],λi x ex=>?_⟩⟩
  have hi:i<xs.length:=by simpa using (List.getElem?_eq_some_iff.mp ex).1
  rw [List.getElem?_reverse hi] at ex
  obtain ⟨v,ev,qv⟩:=zbC e3 (show (↑18)[xs.length-1-i]?=some (f x) by rw [List.getElem?_map,ex];rfl)
  rw [← le] at ev
  refine ⟨⟨by rw [le];exact hi,vs,v,hs.seq e2',rfl,ev⟩,λw H' y=>?_⟩
  obtain ⟨rfl,y⟩:=y
  have:=y vs (hs.seq e2')
  rw [ev] at this
  cases this
  exact ⟨Grow.refl hs,λσ Q k=>k [v] (.cons qv .nil)⟩
end
theorem Ev.any {Γ:Ctx} {t:TE} {m n:Bool} {v:V} (h:Ev Γ t m (dV v)):Ev Γ t n (dV v):=λF0 Hb F H σ own Q a k=>h F0 Hb F H σ own Q a λu F' H' g q=>k u F' H' g q
theorem znt {α:Type} {R R':Hp} {g:α->V} {vs:List V} {xs:List α} (h:Paired (λv (d:Ds)=>d.pr R v) vs (xs.map λx=>dV (g x))):Paired (λv (d:Ds)=>d.pr R' v) vs (xs.map λx=>dV (g x)):=by
 rw [zgA h]
 clear h
 induction xs with
 | nil=>exact .nil
 | cons x xs ih=>exact .cons rfl ih
theorem EvO.anyV {Γ:Ctx} {t:TE} {m n:Bool} {α:Type} {g:α->V} {xs:List α} (h:EvO Γ t m (xs.map λx=>dV (g x))):EvO Γ t n (xs.map λx=>dV (g x)):=λF0 Hb F H σ own Q a k=>h F0 Hb F H σ own Q a λp vs F' H' g h1 h2 h3 q=>k p vs F' H' g h1 h2 h3 (znt q)
theorem EvO.anyI {Γ:Ctx} {t:TE} {m n:Bool} {xs:Ji} (h:EvO Γ t m (xs.map dI)):EvO Γ t n (xs.map dI):=EvO.anyV h
theorem EvO.anyB {Γ:Ctx} {t:TE} {m n:Bool} {xs:List Bool} (h:EvO Γ t m (xs.map dB)):EvO Γ t n (xs.map dB):=EvO.anyV h
theorem EvO.anyS {Γ:Ctx} {t:TE} {m n:Bool} {xs:List Str} (h:EvO Γ t m (xs.map dS)):EvO Γ t n (xs.map dS):=EvO.anyV h
section
variable {X:Cx}
def zdJ (i j:Int):Prop:=(-(2^64)<i∧i<2^64)∨(-(2^64)<j∧j<2^64)∨(i.natAbs.log2<60000000∧j.natAbs.log2<60000000)
theorem zmZ {a b:Int} (ha:Builtin.Int.intBits a≤60000000) (hb:Builtin.Int.intBits b≤60000000):IntMulOk a b:=by
 have h:Builtin.Int.intTooBig (Builtin.Int.intBits a+Builtin.Int.intBits b)=false:=by
  unfold Builtin.Int.intTooBig bitsLine
  exact decide_eq_false ↑0
 unfold IntMulOk
 rw [h]
 simp
theorem zbI:OpR X (binaryOp .Mult) (rI zdJ λi j=>.int (i*j)):=opI λ_ _ _ _ _ _ _ hc q=>mul_int q (by
 rcases hc with h | h | h
 ·exact .of_left (intBits_le_64 h.1 h.2)
 ·exact .of_right (intBits_le_64 h.1 h.2)
 ·exact zmZ (zmx h.1) (zmx h.2))
end
def ixD {α:Type} [Inhabited α] (xs:List α) (i:Int):α:=(atI xs i).getD default
def InB (n:Nat) (i:Int):Prop:=-(n:Int)≤i∧i<n
theorem zlI {n:Nat} {i:Int} (h:InB n i):∃ j,ixN n i=some j∧j<n∧(0≤i->j=i.toNat):=by
 unfold InB at h
 unfold ixN
 by_cases h0:0≤i
 ·rw [if_pos h0,if_pos h.2];exact ⟨_,rfl,by omega,λ_=>rfl⟩
 ·rw [if_neg h0,if_pos h.1];exact ⟨_,rfl,by omega,λz=>absurd z h0⟩
theorem zmF {α:Type} [Inhabited α] {xs:List α} {i:Int} (h:InB xs.length i):atI xs i=some (ixD xs i):=by
 obtain ⟨j,e,hj,_⟩:=zlI h
 unfold ixD atI
 rw [e]
 show xs[j]?=some (xs[j]?.getD default)
 rw [List.getElem?_eq_getElem hj];rfl
theorem zbU {α:Type} [Inhabited α] {xs:List α} {n:Nat} {x:α} (h:xs[n]?=some x):ixD xs (n:Int)=x:=by
 have hn:n<xs.length:=((List.getElem?_eq_some_iff.mp h)).1
 unfold ixD atI ixN
 rw [if_pos ↑0,if_pos ↑0]
 show (xs[(n:Int).toNat]?).getD default=x
 rw [Int.toNat_natCast,h];rfl
theorem zb3 {α:Type} [Inhabited α] {xs:List α} {i:Int} (h:InB xs.length i):ixD xs i∈xs:=by
 have:=zmF h
 unfold atI at this
 obtain ⟨j,e,hj,_⟩:=zlI h
 rw [e] at this
 exact List.mem_of_getElem? this
def zdn {α:Type} (xs:List α) (i:Int) (x:α):List α:=match ixN xs.length i with
 | some n=>xs.set n x
 | none=>xs
theorem zgi {α:Type} {xs:List α} {i:Int} {x:α}:(zdn xs i x).length=xs.length:=by
 unfold zdn;split<;>simp
def zc7 {α:Type} (n:Int) (xs:List α):List α:=(List.replicate n.toNat xs).flatten
def dOpt {α:Type} (f:α->Ds):Option α->Ds
 | none=>dN
 | some x=>f x
def NN {α:Type} (f:α->Ds):Prop:=∀ x H v,(f x).pr H v->v≠.non
theorem NN.tup {α:Type} {f:α->List Ds}:NN (λx=>dT (f x)):=λ_ _ _ ⟨_,_,e,_⟩=>by rw [e];simp
theorem NN.obj {α:Type} {C:Addr} {f:α->List (Str×Ds)}:NN (λx=>dO C (f x)):=λ_ _ _ ⟨_,_,_,e,_⟩=>by rw [e];simp
section
variable {E:XS} {Γ:Ctx} {m:Bool} {K:W.Frag} {α β γ:Type} {f:α->Ds} {t ta tb te:TE} {u r:TS} {o:Oc} {xs ys:List α} {i:Nat}
theorem zbd [Inhabited α] {j:Int} (h1:Ev Γ ta m (dQ K ↑18)) (h2:Ev Γ tb false (dI j)) (h:InB xs.length j):Ev Γ (tOp (zru K) ta tb) m (f (ixD xs j)):=ztI h1 h2 (zmu (zmF h))
theorem zaZ {n:Bool} (h1:Ev Γ t false (dQ K ↑18)):Ev Γ (tCB ↑216 (tCons t tNil)) n (dI (xs.length:Nat)):=(zr6 h1).conv (by rw [List.length_map])
theorem ze6 {tl th:TO} {lo hi:Option Int} (h1:Ev Γ t m (dQ K ↑18)) (h2:EvP Γ tl lo) (h3:EvP Γ th hi):EvO Γ (tSl (ztA K) t tl th) m ((zcs xs lo hi).map f):=(ztm h1 h2 h3).conv zoj.symm
theorem zcu (h1:Ev Γ ta m (dL ↑18)) (h2:Ev Γ tb m (dL (ys.map f))) (hz:xs.length+ys.length≤sizeLine):EvO Γ (tOp zuD ta tb) m ((xs++ys).map f):=(zth h1 h2 (by rw [List.length_map,List.length_map];exact hz)).conv (List.map_append ..).symm
theorem zik {n:Nat}:(List.replicate n ↑18).flatten=((List.replicate n xs).flatten).map f:=by
 induction n with
 | zero=>rfl
 | succ n ih=>rw [List.replicate_succ,List.replicate_succ,List.flatten_cons,List.flatten_cons,List.map_append,ih]
theorem zfU {n:Int} (h1:Ev Γ ta m (dL ↑18)) (h2:Ev Γ tb false (dI n)) (hn:-(2^63)≤n∧n<2^63) (hz:xs.length*n.toNat≤sizeLine):EvO Γ (tOp zuk ta tb) m ((zc7 n xs).map f):=(ztn h1 h2 hn (by rw [List.length_map];exact hz)).conv zik
theorem zhp {x:Option α} {n:Bool} (h1:Ev Γ ta false (dOpt f x)) (h2:Ev Γ tb false dN) (hf:NN f):Ev Γ (tOp (λx y H Q=>y= .non∧Q (.bl (!decide (x= .non))) H) ta tb) n (dB x.isSome):=(zqm (b:=x.isNone) h1 h2 λH v q=>by
 cases x with
 | none=>rw [show v=V.non from q];rfl
 | some x=>exact decide_eq_false (hf x H v q)).conv (by cases x<;>rfl)
theorem zb8 [Inhabited α] {j:Int} (e:Γ[i]?=some (.ow m ↑18)) (h2:Ev Γ tb false (dI j)) (h:InB xs.length j):Ev Γ (tOp (zru K) (zis i) tb) m (f (ixD xs j)):=zok (n:=m) e h2 (zmu (zmF h))
theorem zhe {n:Bool} (e:Γ[i]?=some (.ow m ↑18)):Ev Γ (tCB ↑216 (tCons (zis i) tNil)) n (dI (xs.length:Nat)):=(zng (n:=n) e).conv (by rw [List.length_map])
theorem zcd {x:α} (e:Γ[i]?=some (.ow m ↑18)) (h:Ev Γ te m (f x)) (hz:xs.length<sizeLine) (k:Run E (Γ.set i (.ow m ((xs++[x]).map f))) u o):Run E Γ (tSeq (znB (tBM K "list" zjl (zis i) (tCons te tNil))) u) o :=
 zlY e h (by rw [List.length_map];exact hz) (by rw [List.map_append] at k;exact k)
theorem zgb {tj:TE} {x:α} {j:Int} (e:Γ[i]?=some (.ow m ↑18)) (h:Ev Γ te m (f x)) (hj:Ev Γ tj false (dI j)) (hb:InB xs.length j) (k:Run E (Γ.set i (.ow m ((zdn xs j x).map f))) u o):Run E Γ (tSeq (zjR te (zsj (zis i) tj zmL)) u) o:=by
 obtain ⟨n,en,hn,_⟩:=zlI hb
 refine znc (n:=n) e h hj (by rw [List.length_map];exact en) ?_
 unfold zdn at k
 rw [en] at k
 rw [← List.map_set]
 exact k
theorem zl2 {tj:TE} {x:α} {j:Int} (fo:β->Oc) {kk:List α->β} (e:Γ[i]?=some (.ow m ↑18)) (h:Ev Γ te m (f x)) (hj:Ev Γ tj false (dI j)) (hb:InB xs.length j) (k:∀ y,y=zdn xs j x->Run E (Γ.set i (.ow m (y.map f))) u (fo (kk y))):Run E Γ (tSeq (zjR te (zsj (zis i) tj zmL)) u) (fo (Let (zdn xs j x) kk)) :=
 zgb e h hj hb (k _ rfl)
theorem zkI {d1 d2:Ds} {i j:Nat} (h:Ev Γ te m (dT [d1,d2])) (k:Run E ((Γ.set i (.va m d1)).set j (.va m d2)) u o):Run E Γ (tSeq (zjR te (zrq K 2 (zhA (zd8 i) (zhA (zd8 j) zrw)))) u) o:=λF0 Hb F H σ own D a q =>
 h F0 Hb F H σ own _ a λv F' H' g ⟨p,vs,e1,e2,e3⟩=>by
  cases e3 with | cons q1 t=>cases t with | cons q2 t=>cases t;exact ⟨p,_,e1,.inl (.inl ((zbb.trans g.fh) _ _ e2)),rfl,_,_,rfl,_,_,rfl,rfl,k F0 Hb F' H' _ own D (((↑22).set i q1).set j q2) q⟩
theorem zcM {x:α} (G:α->Ctx) (fo:β->Oc) {kk:α->β} (k:∀ y,y=x->Run E (G y) u (fo (kk y))):Run E (G x) u (fo (Let x kk)):=k x rfl
def zp2 (o:Oc):Prop:=(∃ m d,o=.rt m d)∨(∃ m ds,o=.rl m ds)∨∃ C Γ,o=.ex C Γ
theorem zp2.meets (h:zp2 o) {F0 Hb:Hp} {D D':Ends} (e:D.rt=D'.rt) (q:zhy E F0 Hb D o):zhy E F0 Hb D' o:=by
 rcases h with ⟨m,d,rfl⟩ | ⟨m,ds,rfl⟩ | ⟨C,Γ',rfl⟩
 ·exact λv F H g p=>e ▸ q v F H g p
 ·exact λp vs F H g h1 h2 h3 h4=>e ▸ q p vs F H g h1 h2 h3 h4
 ·exact q
def zl3 {S:Type} (x:S ⊕ β) (k:S->α) (w:β->α):α:=match x with
 | .inl s=>k s
 | .inr b=>w b
theorem zlD {f:Str} {d:Ds}:∀ {fs:List (Str×Ds)} {ns:List Str},fs.map Prod.fst=ns->ns.contains f=false->putD f d fs=fs++[(f,d)]
 | [],_,_,_=>rfl
 | (g,e) :: r,_,rfl,h=>by
  have h':f≠g∧f ∉ r.map Prod.fst:=by simpa using h
  unfold putD
  rw [if_neg (Ne.symm h'.1),zlD rfl (by simpa using h'.2)]
  rfl
theorem zeW {C p dx:Addr} {fs:List (Str×Ds)} {tv:TE} {d:Ds} {f:Str} (e:Γ[i]?=some (.ob m C p dx fs)) (h:Ev Γ tv m d) (c:Cls K C) (nf:NoAttr K C f) (ns:List Str) (hns:fs.map Prod.fst=ns) (hn:ns.contains f=false) (hz:ns.length<1000) (k:Run E (Γ.set i (.ob m C p dx (fs++[(f,d)]))) u o) :
  Run E Γ (tSeq (zuy K (zis i) tv f) u) o:=zq5 e h c nf (by rw [← List.length_map (f:=Prod.fst),hns];exact hz) (by rw [zlD hns hn];exact k)
theorem ziF {S:Type} (f:S->γ->S):∀ (xs:List γ) (s:S),zcF (β:=Empty) (λs x=>.inl (f s x)) s xs=.inl (xs.foldl f s)
 | [],_=>rfl
 | x :: xs,s=>ziF f xs (f s x)
theorem zh8 {S:Type} {f:S->γ->S} {I:Nat->S->Prop}:∀ {xs:List γ} {s:S} {n:Nat},I n s->(∀ (i:Nat) (x:γ) (s:S),xs[i]?=some x->I (n+i) s->I (n+i+1) (f s x))->I (n+xs.length) (xs.foldl f s)
 | [],s,n,h,_=>h
 | x :: xs,s,n,h,k=>by
  have h1:=k 0 x s rfl h
  have:=zh8 (xs:=xs) (s:=f s x) (n:=n+1) h1 λi y s' e q=>by
   have:=k (i+1) y s' ↑160 (by rw [show n+(i+1)=n+1+i by omega];exact q)
   rw [show n+1+i+1=n+(i+1)+1 by omega];exact this
  rw [List.length_cons,show n+(xs.length+1)=n+1+xs.length by omega]
  exact this
theorem zbL {S:Type} {wi:TI} {g:TG} {tb:TS} {js:List Nat} {xs:List γ} {bds:γ->List Ds} {mi:Bool} {s0:S} (G:S->Ctx) (fo:β->Oc) {kk:S->β} (f:S->γ->S) (I:Nat->S->Prop) (it:Iv Γ wi g js xs bds mi) (w:Wk Γ (G s0)) (h0:I 0 s0)
  (body:∀ (i:Nat) (x:γ) (s:S),xs[i]?=some x->I i s->I (i+1) (f s x)∧Run E (zmn js (bds x) mi (G s)) tb (.nx (G (f s x)))) (k:∀ s,s=xs.foldl f s0->I xs.length s->Run E (G s) u (fo (kk s))):Run E Γ (tSeq (zrv wi g tb) u) (fo (Let (xs.foldl f s0) kk)):=by
 refine znV (Δ:=G (xs.foldl f s0)) ?_ (k _ rfl (by simpa using zh8 (n:=0) (I:=I) h0 λi x s e q=>by rw [Nat.zero_add] at q ⊢;exact (body i x s e q).1))
 have:=zmM (β:=Empty) G (λz=>z.elim) (λs x=>.inl (f s x)) I it w h0 (λb=>b.elim) λi x s e q=>⟨λs' z=>by cases z;exact (body i x s e q).1,(body i x s e q).2⟩
 rw [ziF] at this
 exact this
theorem zjJ {S:Type} {f:S->γ->S ⊕ β} {I:Nat->S->Prop}:∀ {xs:List γ} {s s':S} {n:Nat},I n s->(∀ (i:Nat) (x:γ) (s:S),xs[i]?=some x->I (n+i) s->∀ s',f s x=.inl s'->I (n+i+1) s')->zcF f s xs=.inl s'->I (n+xs.length) s'
 | [],s,s',n,h,_,e=>by cases e;exact h
 | x :: xs,s,s',n,h,k,e=>by
  unfold zcF at e
  cases q:f s x with
  | inr b=>rw [q] at e;cases e
  | inl s1 =>
   rw [q] at e
   have h1:=k 0 x s rfl h s1 q
   have:=zjJ (xs:=xs) (s:=s1) (n:=n+1) h1 (λi y s' e q=>by
    have:=k (i+1) y s' ↑160 (by rw [show n+(i+1)=n+1+i by omega];exact q)
    rw [show n+1+i+1=n+(i+1)+1 by omega];exact this) e
   rw [List.length_cons,show n+(xs.length+1)=n+1+xs.length by omega]
   exact this
theorem zhL {S:Type} {wi:TI} {g:TG} {tb:TS} {js:List Nat} {xs:List γ} {bds:γ->List Ds} {mi:Bool} {s0:S} (G:S->Ctx) (fo:α->Oc) (wr:β->α) {kk:S->α} (f:S->γ->S ⊕ β) (I:Nat->S->Prop) (hres:∀ b,zp2 (fo (wr b))) (it:Iv Γ wi g js xs bds mi) (w:Wk Γ (G s0)) (h0:I 0 s0)
  (body:∀ (i:Nat) (x:γ) (s:S),xs[i]?=some x->I i s->(∀ s',f s x=.inl s'->I (i+1) s')∧Run E (zmn js (bds x) mi (G s)) tb (zgH G (λb=>fo (wr b)) (f s x))) (k:∀ s,zcF f s0 xs=.inl s->I xs.length s->Run E (G s) u (fo (kk s))):Run E Γ (tSeq (zrv wi g tb) u) (fo (zl3 (zcF f s0 xs) kk wr)):=by
 have h:=zmM G (λb=>fo (wr b)) f I it w h0 (λb F0 Hb D D' e q=>(hres b).meets e q) body
 cases e:zcF f s0 xs with
 | inl s =>
  rw [e] at h
  exact znV h (k s e (by simpa using zjJ (n:=0) h0 (λi x s e q=>by rw [Nat.zero_add] at q ⊢;exact (body i x s e q).1) e))
 | inr b =>
  rw [e] at h
  exact λF0 Hb F H σ own D a q=>h F0 Hb F H σ own _ a ((hres b).meets (D:=D) rfl (show zhy E F0 Hb D (fo (wr b)) from q))
end
end L2
namespace L2
open PySem PySem.Spec PyProof.Rows PySem.Builtin PySem.Builtin.Getset_descriptor
structure XCls (K:W.Frag) (C:Addr):Prop where
 ga:W.findIn K (.ref C) "__getattribute__"=some (some (.builtin "BaseException.__getattribute__"))
 gn:W.findIn K (.ref C) "__getattr__"=some none
 cl:W.findIn K (.ref C) "__class__"=some (some ↑47)
 ob:W.mroIn K C (.type "object")=some true
 be:W.mroIn K C (.type "BaseException")=some true
 gt:W.specialIn K ↑47 "__get__"=some (some ↑192)
 tk:W.takesIn K ↑47=some true
def XAt (h:Heap) (a C:Addr):Prop:=∃ o vs,h.get? a=some o∧o.cls=.ref C∧o.data=.fields vs
section
variable {prog:Program} {w:World} {A:Around} {E:Value->Shared->Prop} {K:W.Frag} {C a:Addr} {h:Heap} {g:Array GenState} {d:Drawn} {t:Nat} {os:OsState}
theorem XAt.ty {M:Model} (x:XAt h a C):W.Looks M h (typeOf (.ref a)) (.ref C):=by
 obtain ⟨o,vs,hx,hc,hd⟩:=x
 exact hc ▸ (W.Looks.ld hx).andThen .now
theorem zkN {tp:Value} {R:Result->Shared->Prop} (X:K.In h) (c:XCls K C) (x:XAt h a C) (hr:R (.ok (.ret (.ref C))) ⟨h,g,d,t,os⟩) :
  codeAny ↑27 A (.call ↑192 ⟨[.builtin "object.__class__",.ref a,tp],[]⟩) R ⟨h,g,d,t,os⟩:=by
 have L0:=x.ty (M:=model prog w)
 have L1:=W.looks_mroIn (M:=model prog w) X c.ob
 refine codeAny_call_builtin W.KF.slot_gs.plain W.KF.entry_gs (W.KF.slot_gs.check _ _ _ _ _ _ _ _ W.KF.type_class (W.KF.args_gs _ _ _) ?_)
 unfold Builtin.«getset_descriptor.__get__»
 unfold descrGet
 rw [W.dga_obj]
 refine wpAny_bind (wpAny_pure ?_)
 unfold descrGetter
 unfold descrCheckInstance descrNameAndClass
 unfold isInstance
 simp only [W.KF.owner_class]
 repeat (any_goals (first | assumption | with_reducible refine wpAny_bind (L0.at ?_) | with_reducible refine wpAny_bind (L1.at ?_) | with_reducible refine L0.at ?_ | with_reducible refine L1.at ?_ | wp_step))
 refine ⟨Code.quiet_builtin _ ↑4,codeAny_builtin (W.KF.entry_class) ?_⟩
 unfold Builtin.«object.__class__»
 unfold shownTypeOf
 repeat (any_goals (first | assumption | with_reducible refine wpAny_bind (L0.at ?_) | with_reducible refine L0.at ?_ | wp_step))
theorem znS {tk:Tok} {Q:Fin->Shared->Prop} (X:K.In h) (c:XCls K C) (x:XAt h a C) (hq:Q (.done (.ret (.ref C))) ⟨h,g,d,t,os⟩) :
  wpAny ↑27 A (Builtin.«object.__getattribute__» ⟨[.ref a,.str "__class__" tk],[]⟩) Q E ⟨h,g,d,t,os⟩:=by
 have L0:=x.ty (M:=model prog w)
 have L1:=W.looks_findIn (M:=model prog w) X c.cl
 have L2:=W.looks_specialIn (M:=model prog w) X c.gt
 have L3:=W.looks_takesIn (M:=model prog w) X c.tk
 unfold Builtin.«object.__getattribute__»
 repeat (any_goals (first | assumption | with_reducible refine wpAny_bind (L0.at ?_) | with_reducible refine wpAny_bind (L1.at ?_) | with_reducible refine wpAny_bind (L2.at ?_) | with_reducible refine wpAny_bind (L3.at ?_) | wp_step))
 refine zkN X c x ?_
 repeat (any_goals (first | assumption | wp_step))
theorem zog {nameV:Value} {Q:Unit->Shared->Prop} (X:K.In h) (c:XCls K C) (x:XAt h a C) (hq:Q () ⟨h,g,d,t,os⟩):wpAny ↑27 A (checkBuiltinCall "BaseException.__getattribute__" ⟨[.ref a,nameV],[]⟩) Q E ⟨h,g,d,t,os⟩:=by
 have hk:builtinKind "BaseException.__getattribute__"=some .slot:=by decide +kernel
 have hsplit:splitId "BaseException.__getattribute__"=some ("BaseException","__getattribute__"):=by decide +kernel
 have L0:=x.ty (M:=model prog w)
 have L1:=W.looks_mroIn (M:=model prog w) X c.be
 have LI:W.Looks ↑27 h (isInstance (.ref a) (.type "BaseException")) true:=L0.andThen L1
 have ha:=F.args_bexc_ga (.ref a) nameV
 simp only [checkBuiltinCall,hk,hsplit]
 refine wpAny_bind (LI.at ?_)
 repeat (any_goals (first | assumption | wp_step))
 all_goals (try exact hq)
theorem zrO {tk:Tok} {fill expr:Bool} {Q:Value->Shared->Prop} (X:K.In h) (c:XCls K C) (x:XAt h a C) (hq:Q (.ref C) ⟨h,g,d,t,os⟩) :
  wpAny ↑27 A (getAttrBy (.ref a) (.str "__class__" tk) fill expr) Q E ⟨h,g,d,t,os⟩:=by
 have L0:=x.ty (M:=model prog w)
 have L1:=W.looks_findIn (M:=model prog w) X c.ga
 have L2:=W.looks_findIn (M:=model prog w) X c.gn
 have f3:=(PySem.F.attr_ValueError.ga).bind (.ref a)
 have hx0:(expr&&onTheHeap (Value.builtin "BaseException.__getattribute__"))=false:=by cases expr<;>rfl
 have hx2:(Value.builtin "BaseException.__getattribute__" == Value.builtin "object.__getattribute__")=false:=by decide +kernel
 have hx1:(onTheHeap (Value.ref C)&&Value.builtin "BaseException.__getattribute__" == Value.builtin "object.__getattribute__")=false:=by rw [hx2];rfl
 unfold getAttrBy
 repeat (any_goals (first | assumption | with_reducible refine wpAny_bind (L0.at ?_) | with_reducible refine wpAny_bind (L1.at ?_) | with_reducible refine wpAny_bind (L2.at ?_) | wp_step))
 refine codeAny_call_builtin PySem.F.attr_ValueError.ga.plain F.entry_bexc_ga (zog X c x (znS X c x ?_))
 repeat (any_goals (first | assumption | wp_step))
theorem zoD {Q:Option Value->Shared->Prop} (X:K.In h) (c:XCls K C) (x:XAt h a C) (hq:Q (some (.ref C)) ⟨h,g,d,t+1,os⟩) :
  wpAny ↑27 A (getAttr? (.ref a) "__class__") Q E ⟨h,g,d,t,os⟩:=by
 unfold getAttr? getAttrBy?
 repeat (any_goals (first | assumption | with_reducible apply zrO X c x | wp_step))
end
theorem cls_at {K:W.Frag} {C:Addr} {T:Value} {r:Bool} (e:W.mroIn K C T=some r):∃ c d cd sl,K.lookup C=some ⟨c,d,.cls cd,sl⟩:=by
 obtain ⟨cd,hc,_⟩:=Option.bind_eq_some_iff.mp e
 unfold W.clsIn at hc
 split at hc
 ·exact ⟨_,_,_,_,by assumption⟩
 ·cases hc
theorem zoI {K:W.Frag} {a C:Addr} (c:XCls K C):W.KitX K (.ref a) (.ref C) (λh=>XAt h a C) where
 ty:=λ_ _ _ x=>x.ty
 it:=λM h X _=>by
  obtain ⟨c',d',cd',sl',ho⟩:=cls_at c.ob
  intro A' Q' E' s' k q
  unfold isType loadHead
  exact wpAny_bind (wpAny_loadPart (k _ _ (X _ _ ho)) (wpAny_pure q))
 ne:=λh tp dd its n sl X htp=>by
  obtain ⟨c',d',cd',sl',ho⟩:=cls_at c.ob
  refine Bool.eq_false_iff.mpr λq=>?_
  have e:C=tp:=Value.ref.inj (beq_iff_eq.mp q)
  subst e
  have z:=(X _ _ ho).symm.trans htp
  cases z
 ca:=λ{prog w A E Q s} X x k=>by
  obtain ⟨h,g,d,t,os⟩:=s
  exact zoD X c x k
def excO (a C:Addr) (fs:List (Str×V)):HO:=.ext λh=>∃ o vs,h.get? a=some o∧o.cls=.ref C∧o.data=.fields vs∧fs=[]
theorem zql {P:Program} {w:World} {H:Hp} {h:Heap} {a C:Addr} (x:XAt h a C):zen P w H h a (excO a C []):=by
 obtain ⟨o,vs,hx,hc,hd⟩:=x
 refine ⟨⟨o,vs,hx,hc,hd,rfl⟩,⟨o,hx⟩,λh1 h2 ⟨o',vs',q1,q2,q3,q4⟩ k=>⟨o',vs',k _ q1,q2,q3,q4⟩⟩
section
variable {X:Cx} {K:W.Frag}
theorem zn1 (hK:X.K=K):zf6 X (.builtin "isinstance") (λxs H Q=>∃ a C c b,(xs=[.ref a,c])∧H a=some (excO a C [])∧XCls K C∧(∃u,zdy c u∧(∀u',zdy c u'->u'=u)∧W.kitOne K (.ref C) u=some b)∧Q (.bl b) H):=by
 subst hK
 intro pins s σ H xs us Q I r h
 obtain ⟨a,C,c,b,rfl,ha,hc,⟨u,hu,hu2,hk⟩,q⟩:=h
 obtain ⟨v,w',rfl,rx,ry⟩:=zpb r
 cases rx
 rw [hu2 w' ry]
 obtain ⟨⟨o,vs,h1,h2,h3,_⟩,_⟩:=(show zen X.prog X.w H s.heap a (excO a C []) from I.hok a _ ha)
 exact W.kia_one (zoI hc) I.kIn ⟨o,vs,h1,h2,h3⟩ hk ↑87 λtk=>⟨.bl b,H,I.tok _,rfl,q⟩
end
end L2
namespace L2
open PySem PySem.Spec PyProof.Rows
section
variable {X:Cx} {pins:List ⇑2} {σ:St} {H:Hp} {s:Shared}
theorem Inv.locals {h':Heap} {t':Nat} {m':Str->Option Value} {σ':St} (I:Inv X pins σ H s) (hs:Heap.SameBut X.env.locals s.heap h') (hn':h'.Ns X.env.locals m')
  (hl:∀ (j:Nat) (y:Str) (v:V),X.N[j]?=some y->σ'[j]?=some (some v)->Vis X.env.scope y->∃ u,zdy v u∧zuW X.env h' m' y u) (len:σ'.length=X.N.length):Inv X pins σ' H { s with heap:=h',toks:=t' }:=by
 have lt:∀ b o,X.s₀.heap.get? b=some o->b≠X.env.locals:=λb o e=>Nat.ne_of_lt ↑185
 refine ⟨I.ok,I.os,I.bare,⟨λb o e n hb hx=>(hs.2 b (lt b o e)).trans (I.base.keep b o e n hb hx),λb o e n hb hx=>?_,I.base.free,λb o e hx=>?_,I.base.tups,I.base.frzs,I.base.tbls⟩,⟨m',hn',hl⟩,λy c e=>?_,I.free,I.freeC,λp hp=>?_,λb u e=>?_,len⟩
 ·obtain ⟨sl,q⟩:=I.base.slot b o e n hb hx
  exact ⟨sl,(hs.2 b (lt b o e)).trans q⟩
 ·obtain ⟨o',q⟩:=I.base.there b o e hx
  exact ⟨o',(hs.2 b (lt b o e)).trans q⟩
 ·obtain ⟨w',z⟩:=I.cell y c e
  exact ⟨w',z.sameBut hs (I.cne y c e)⟩
 ·obtain ⟨e,n,ne,nf,d⟩:=I.pin p hp
  exact ⟨(hs.2 p.1 ne).trans e,n,ne,nf,d⟩
 ·refine (I.hok b u e).stay (λc v hc q=>(hs.2 c ?_).trans q) (λ_ q=>q) λ_ _ q=>q
  intro z
  have z':=I.free
  rw [← z] at z'
  rcases hc with hc | hc
  ·rw [hc,e] at z';cases z'
  ·rw [hc] at z';cases z'
theorem zq4 {M:Model} {A:Around} {E:Value->Shared->Prop} {i:Nat} {n:Str} {pos:Pos} {Q:Unit->Shared->Prop} (I:Inv X pins σ H s) (hN:X.N.Nodup) (hi:X.N[i]?=some n) (hloc:X.env.scope.names.lookup n=some .local)
  (h:∀ s',Inv X pins (σ.set i none) H s'->Q () s'):wpAny M A (do bindName X.env n .none;unbindBehindTheSuite X.env n pos) Q E s:=by
 have hcls:(X.env.scope.kind== .class||(X.env.scope.kind== .module && X.env.locals !=X.env.globals))=false:=by rw [I.ok.kind];rfl
 have hk:X.env.kindOf n=some .local:=hloc
 have hiσ:i<σ.length:=by rw [I.len];exact (List.getElem?_eq_some_iff.mp hi).1
 refine wpAny_bind (wpAny_bindName (zfo I hN hi (.inl hloc) (v:=.non) (u:=.none) rfl (λs1 I1=>?_) (.inr hloc)))
 obtain ⟨m,hn,hl⟩:=id I1.loc
 have hm:m n=some .none:=by
  obtain ⟨u,r,q⟩:=hl i n .non hi (List.getElem?_set_self hiσ) (.inl hloc)
  have r:u=Value.none:=r
  subst r
  rcases q with ⟨_,e⟩ | ⟨k,_⟩
  ·exact e
  ·rw [hk] at k;rcases k with k | k<;>cases k
 unfold unbindBehindTheSuite
 refine wpAny_onRaise ?_
 unfold unbindName
 refine wpAny_bind (wpAny_point (wpAny_bind ?_))
 unfold deleteName
 simp only [hk,hcls]
 rw [if_neg ↑1]
 refine wpAny_bind (wpAny_nsDel_keeps hn λh2 v hn2 hs2=>?_)
 rw [hm]
 simp only [Option.isSome_some,Bool.not_true,Bool.false_eq_true,if_false]
 refine wpAny_pure (wpAny_point (h { s1 with heap:=h2 } (I1.locals (t':=s1.toks) hs2 hn2 (λj y v' e1 e2 e3=>?_) (by simp [I.len]))))
 by_cases hj:i=j
 ·subst hj
  rw [List.getElem?_set_self hiσ] at e2;cases e2
 ·rw [List.getElem?_set_ne hj] at e2
  obtain ⟨u',r',q⟩:=hl j y v' e1 (by rw [List.getElem?_set_ne hj];exact e2) e3
  have hy:y≠n:=λe=>hj (zjg hN hi (e ▸ e1))
  refine ⟨u',r',?_⟩
  rcases q with ⟨k,e⟩ | ⟨k,c,e,z⟩
  ·exact .inl ⟨k,by simp [hy,e]⟩
  ·exact .inr ⟨k,c,e,z.sameBut hs2 (I.cne y c e)⟩
theorem Inv.track {e C:Addr} (I:Inv X pins σ H s) (x:XAt s.heap e C) (hn:H e=none) (hF:Fz X pins e):Inv X pins σ (upd H e (excO e C [])) s:=by
 obtain ⟨o,vs,hx,hc,hd⟩:=id x
 obtain ⟨_,a2,a3,a4,a5⟩:=zgO I hx hd hn hF
 refine ⟨I.ok,I.os,I.bare,⟨I.base.keep,I.base.slot,λb o' q n hx=>?_,I.base.there,λb xs q=>?_,λb o' u q=>?_,λb ps q=>?_⟩,I.loc,I.cell,?_,λy c q=>?_,λp hp=>?_,λb u q=>?_,I.len⟩
 ·have hb:b≠e:=λz=>by rw [z,a2] at q;cases q
  rw [zat hb];exact I.base.free b o' q n hx
 ·have q1:=I.base.tups b xs q
  rw [zat (zaY q1 hn)];exact q1
 ·have q1:=I.base.frzs b o' u q
  rw [zat (zaY q1 hn)];exact q1
 ·obtain ⟨more,q1⟩:=I.base.tbls b ps q
  exact ⟨more,by rw [zat (zaY q1 hn)];exact q1⟩
 ·rw [zat (Ne.symm a3)];exact I.free
 ·rw [zat (a4 y c q)];exact I.freeC y c q
 ·obtain ⟨q1,q2,q3,q4,q5⟩:=I.pin p hp
  exact ⟨q1,by rw [zat (a5 p hp)];exact q2,q3,q4,q5⟩
 ·by_cases hb:b=e
  ·subst hb;rw [zaE] at q;cases q;exact zql x
  ·rw [zat hb] at q
   exact (I.hok b u q).stay (λ_ _ _ z=>z) (λc z=>by rw [zat (zaY z hn)];exact z) λc xs z=>by rw [zat (zaY z hn)];exact z
abbrev Cx.marked (X:Cx) (e:Addr):Cx:={ X with A:=X.A.mark (some (.ref e)),calm:=false,xe:=λ_ _=>False }
theorem Inv.marked {e:Addr} (I:Inv X pins σ H s):Inv (X.marked e) pins σ H s :=
 ⟨⟨I.ok.mod,I.ok.kind,I.ok.glob,I.ok.blt,I.ok.above,I.ok.inj,I.ok.has,I.ok.cab,(λz=>(nomatch z)),I.ok.frames,I.ok.stk,I.ok.exf,I.ok.bs,I.ok.bsz,I.ok.noex,I.ok.exfs,I.ok.funs,I.ok.frf⟩,I.os,I.bare,I.base,I.loc,I.cell,I.free,I.freeC,I.pin,I.hok,I.len⟩
theorem Inv.unmarked {e:Addr} (I:Inv (X.marked e) pins σ H s) (ok:X.Ok):Inv X pins σ H s :=
 ⟨ok,I.os,I.bare,I.base,I.loc,I.cell,I.free,I.freeC,I.pin,I.hok,I.len⟩
end
section
variable {X:Cx} {K:W.Frag}
theorem zq1 {body:List Stmt} {tb:TSX} {cn n x:Str} {CS:Addr} {i j:Nat} {p1 p2 p3 p4 p5 pos:Pos} (O:Own X) (hK:X.K=K) (hN:X.N.Nodup) (hn:X.N[i]?=some n) (hln:X.env.scope.names.lookup n=some .local) (hx:X.N[j]?=some x) (hlx:Loc X.env.scope x)
  (hfx:X.fn x=true∨X.env.scope.names.lookup x=some .local) (hg:Gl X cn) (hm:X.mg cn=some (.ref CS)) (hb:zkh X body tb) (hd:(n == ("__debug__" :Str))=false:=by decide) (hcd:(n == ("__classdict__" :Str))=false:=by decide)
  (hdb:(cn == ("__debug__" :Str))=false:=by decide) (hsw:swapsWith (.Name n p3) (some (.Name x p2)) p4.line X.env=pure false:=by rfl) :
  PSX X (.Try body [.ExceptHandler (some (.Name cn p1)) (some n) [.Assign [.Name x p2] (.Name n p3) p4] p5] [] [] pos)
   (λD _ σ H=>tb D (λσ' cls _ H'=>∃C,cls= .ref C∧W.exmOne K (.ref C) (.ref CS)=some true∧∀a,H' a=none->D.nx ((σ'.set j (some (.ref a))).set i none) (upd H' a (excO a C []))) σ H):=by
 subst hK
 intro pins s σ H D E I h
 refine wpAny_Try_except (wpAny_mono (hb pins s σ H D _ I h) (λf s1 q=>?_) λev s1 q=>?_)
 ·cases f with
  | next=>exact wpAny_execs_nil q
  | ret v=>exact q
  | brk=>exact q
  | cont=>exact q
 ·obtain ⟨σ',e,cls,dct,H',rfl,I1,x1,C,rfl,hC,q⟩:=q
  refine zlk O I1 x1 rfl λs2 I2 x2=>?_
  refine zhk (fr:=none) O I2 x2 λs3 I3 x3=>?_
  obtain ⟨oe,vs,a0,y1,y2,y3,y4,y5,y6,y7,y8,_⟩:=id x3
  have xa:XAt s3.heap e C:=⟨oe,vs,y1,y2,y4⟩
  refine wpAny_handleBy_cons (codeAny_handlers_test ?_) ↑112
  refine zg9 (X:=X.marked e) I3.marked hg hm ?_ hdb
  refine (W.exm_one I3.kIn xa.ty hC).at ?_
  refine codeAny_handlers_suite_as ?_
  refine zhk (fr:=none) O I3 x3 λs4 I4 x4=>?_
  obtain ⟨oe,vs,a0,y1,y2,y3,y4,y5,y6,y7,y8,_⟩:=id x4
  have I5:=I4.track ⟨oe,vs,y1,y2,y4⟩ y7 y8
  refine zfo I5 hN hn (.inl hln) (v:=.ref e) rfl (λs6 I6=>?_) (.inr hln)
  have hset:PS (X.marked e) (.Assign [.Name x p2] (.Name n p3) p4) (zjR (zis i) (zd8 j)):=zaq hN hx hlx (zpA hn (.inl hln) hd hcd) hsw hfx
  have hiσ:i<σ'.length:=by rw [I1.len];exact (↑256).1
  refine wpAny_mono ((zqJ hset) pins s6 _ _ { nx:=λσ'' H''=>σ''=(σ'.set i (some (.ref e))).set j (some (.ref e))∧H''=upd H' e (excO e C []),rt:=λ_ _=>False } I6.marked ⟨.ref e,List.getElem?_set_self hiσ,rfl,rfl⟩) (λf s7 q7=>?_) λ_ _ z=>z.elim
  cases f with
  | ret v=>obtain ⟨_,_,_,_,_,z⟩:=q7;exact z.elim
  | brk=>obtain ⟨_,_,_,z⟩:=q7;exact z.elim
  | cont=>obtain ⟨_,_,_,z⟩:=q7;exact z.elim
  | next =>
   obtain ⟨σ7,H7,I7,rfl,rfl⟩:=q7
   show wpAny _ _ _ _ _ s7
   refine zq4 (I7.unmarked I.ok) hN hn hln λs8 I8=>?_
   have eσ:((σ'.set i (some (V.ref e))).set j (some (.ref e))).set i none=(σ'.set j (some (.ref e))).set i none:=by
    by_cases hij:i=j
    ·subst hij;simp
    ·refine List.ext_getElem? λk=>?_
     by_cases h1:i=k
     ·subst h1
      rw [List.getElem?_set_self (by simpa using hiσ),List.getElem?_set_self (by simpa using hiσ)]
     ·rw [List.getElem?_set_ne h1,List.getElem?_set_ne h1]
      by_cases h2:j=k
      ·subst h2
       by_cases h3:j<σ'.length
       ·rw [List.getElem?_set_self (by simpa using h3),List.getElem?_set_self h3]
       ·rw [List.getElem?_eq_none ↑75,List.getElem?_eq_none ↑75]
      ·rw [List.getElem?_set_ne h2,List.getElem?_set_ne h2,List.getElem?_set_ne h1]
   rw [eσ] at I8
   exact ⟨_,_,I8,q e y7⟩
end
abbrev atE (E:XS) (t:TSX):TS:=λD σ H=>t D E σ H
abbrev ztb (t:TS):TSX:=λD _ σ H=>t D σ H
abbrev zvD (t u:TSX):TSX:=λD E σ H=>tSeq (atE E t) (atE E u) D σ H
abbrev ifX (c:TT) (t u:TSX):TSX:=λD E σ H=>zs5 c (atE E t) (atE E u) D σ H
def zpG (ta:TA) (C:Addr) (E:XS):TS:=λ_ σ H=>ta σ H λvs H1=>vs.length≤sizeLine∧E σ (.ref C) none H1
def zp1 (te:TEX) (E:XS):TS:=λD σ H=>te σ H (λ_ H1=>D.nx σ H1) (E σ)
def zrE (te:TEX) (i:Nat) (E:XS):TS:=λD σ H=>te σ H (λv H1=>D.nx ↑155 H1) (E σ)
def zsu (sp:Sp) (t:TA):TEX:=λσ H Q E=>t σ H λvs H1=>sp (vs++[]) H1 Q E
def zt4 (K:W.Frag) (CS:Addr) (i j:Nat) (tb:TSX):TS:=λD σ H=>tb D (λσ' cls _ H'=>∃C,cls= .ref C∧W.exmOne K (.ref C) (.ref CS)=some true∧∀a,H' a=none->D.nx ((σ'.set j (some (.ref a))).set i none) (upd H' a (excO a C []))) σ H
section
variable {X:Cx} {K:W.Frag} {e:Expr} {st:Stmt} {rest:List Stmt} {pos:Pos}
theorem ziv:zkh X [] (ztb znT):=zoT
theorem zfx {t u:TSX} (h1:PSX X st t) (h2:zkh X rest u):zkh X (st :: rest) (zvD t u):=zoa (t:=t) (u:=u) h1 h2
theorem ziP {t:TS} (h:PS X.nox st t):PSX X st (ztb t):=zoU h
theorem ztV {c:Expr} {a b:List Stmt} {tc:TT} {t u:TSX} (hc:PT X.nox c tc) (ha:zkh X a t) (hb:zkh X b u):PSX X (.If c a b pos) (ifX tc t u):=zrZ (t:=t) (u:=u) hc ha hb
theorem zrl {te:TEX} (he:PEX X e te) (hs:swapsWith e none pos.line X.env=pure false:=by rfl):PSX X (.Expr e pos) (λD E σ H=>zp1 te E D σ H):=zpa he hs
theorem zsq {i:Nat} {x:Str} {te:TEX} {pos':Pos} (hN:X.N.Nodup) (hi:X.N[i]?=some x) (hx:Loc X.env.scope x) (he:PEX X e te) (hs:swapsWith e (some (.Name x pos')) pos.line X.env=pure false:=by rfl)
  (hf:X.fn x=true∨X.env.scope.names.lookup x=some .local:=by first | exact .inl rfl | exact .inr rfl | assumption):PSX X (.Assign [.Name x pos'] e pos) (λD E σ H=>zrE te i E D σ H):=zqU hN hi hx he hs hf
theorem zuj {k:Nat} {ps:List Str} {sp:Sp} {x:Str} {p:Pos} {es:List Expr} {t:TA} (O:Own X) (F:Callee X.prog X.w X.K X.mg X.base (CXE X.prog X.w) k x ps sp) (hr:Room k X.A) (hg:Gl X x)
  (ha:PA X.nox (e::es) t) (hdb:↑54=false:=by decide) (he:starEach (e::es) X.env=(false,eval e X.env) :: starEach es X.env:=by rfl) (hpl:(↑79).any (·.1)=false:=by rfl) :
  PEX X ↑172 (zsu sp t):=zur O F hr hg ha hdb he hpl
theorem zoV {C:Addr} {B newId initId:String} {bmB:List Value} {x:Str} {es:List Expr} {t:TA} {np cpos:Pos} (O:Own X) (hc:X.calm=true) (hg:Gl X x) (hm:X.mg x=some (.ref C)) (hK:W.excIn X.K C bmB newId=true) (FB:ExcBaseFacts B newId initId bmB)
  (ha:PA X.nox (e::es) t) (hdb:↑54=false:=by decide) (he:starEach (e::es) X.env=(false,eval e X.env) :: starEach es X.env:=by rfl) (hpl:(↑228).any (·.1)=false:=by rfl) :
  PSX X (.Raise (some (.Call (.Name x np) (e::es) [] cpos)) none pos) (λD E σ H=>zpG t C E D σ H):=zn0 O hc hg hm hK FB ha hdb he hpl
theorem ztk {body:List Stmt} {tb:TSX} {cn n x:Str} {CS:Addr} {i j:Nat} {p1 p2 p3 p4 p5:Pos} (O:Own X) (hK:X.K=K) (hN:X.N.Nodup) (hn:X.N[i]?=some n) (hln:X.env.scope.names.lookup n=some .local) (hx:X.N[j]?=some x) (hlx:Loc X.env.scope x)
  (hfx:X.fn x=true∨X.env.scope.names.lookup x=some .local) (hg:Gl X cn) (hm:X.mg cn=some (.ref CS)) (hb:zkh X body tb) (hd:(n == ("__debug__" :Str))=false:=by decide) (hcd:(n == ("__classdict__" :Str))=false:=by decide)
  (hdb:(cn == ("__debug__" :Str))=false:=by decide) (hsw:swapsWith (.Name n p3) (some (.Name x p2)) p4.line X.env=pure false:=by rfl) :
  PSX X (.Try body [.ExceptHandler (some (.Name cn p1)) (some n) [.Assign [.Name x p2] (.Name n p3) p4] p5] [] [] pos) (λD _ σ H=>zt4 K CS i j tb D σ H):=zq1 O hK hN hn hln hx hlx hfx hg hm hb hd hcd hdb hsw
end
def dE (C:Addr):Ds:=⟨λH v=>∃ a,v=.ref a∧H a=some (excO a C []),λe ⟨a,h1,h2⟩=>⟨a,h1,e _ _ h2⟩⟩
theorem NN.exc {ε:Type} {xc:ε->Addr}:NN (λe=>dE (xc e)):=λ_ _ _ ⟨_,h,_⟩=>by rw [h];simp
def zdI {ε:Type} (f:ε->Bool) (x:Option ε):Bool:=match x with
 | none=>false
 | some e=>f e
def zl6 (K:W.Frag):List V->Hp->VK->Prop:=λxs H Q=>ztW K xs H Q∨∃ a C c b,(xs=[.ref a,c])∧H a=some (excO a C [])∧XCls K C∧(∃u,zdy c u∧(∀u',zdy c u'->u'=u)∧W.kitOne K (.ref C) u=some b)∧Q (.bl b) H
theorem za1 {X:Cx} {K:W.Frag} (hK:X.K=K):zf6 X (.builtin "isinstance") (zl6 K):=λpins s σ H xs us Q I r h=>by
 rcases h with h | h
 ·exact zmg hK pins s σ H xs us Q I r h
 ·exact zn1 hK pins s σ H xs us Q I r h
section
variable {E:XS} {Γ Γx:Ctx} {m:Bool} {K:W.Frag} {α β ε:Type} {u:TS} {o:Oc} {ds:List Ds}
theorem zcv {xc:ε->Addr} {x:Option ε} {ta:TE} {C:Addr} {f:ε->Bool} (h:Ev Γ ta false (dOpt (λe=>dE (xc e)) x)) (h0:W.kitOne K ↑6 (.ref C)=some false) (h1:∀ e,XCls K (xc e)∧W.kitOne K (.ref (xc e)) (.ref C)=some (f e)) :
  Ev Γ (tCB (zl6 K) (tCons ta (tCons (tC (.ref C)) tNil))) m (dB (zdI f x)):=λF0 Hb F H σ own Q a k =>
 h F0 Hb F H σ own _ a λv F1 H1 g1 q1=>by
  cases x with
  | none =>
   have q1:v=.non:=q1
   subst q1
   exact .inl ⟨.non,.type "NoneType",false,.inr ⟨C,rfl,h0⟩,.non,k _ F1 H1 g1 rfl⟩
  | some e =>
   obtain ⟨p,rfl,hp⟩:=q1
   exact .inr ⟨p,xc e,.ref C,f e,rfl,(zbb.trans g1.fh) _ _ hp,(h1 e).1,⟨.ref C,rfl,λu' z=>z,(h1 e).2⟩,k _ F1 H1 g1 rfl⟩
theorem zoz {xc:ε->Addr} {x:Option ε} {ta:TE} {T:String} {f:ε->Bool} (h:Ev Γ ta false (dOpt (λe=>dE (xc e)) x)) (h0:W.kitOne K ↑6 (.type T)=some false) (h1:∀ e,XCls K (xc e)∧W.kitOne K (.ref (xc e)) (.type T)=some (f e)) :
  Ev Γ (tCB (zl6 K) (tCons ta (tCons (tC (.ty T)) tNil))) m (dB (zdI f x)):=λF0 Hb F H σ own Q a k =>
 h F0 Hb F H σ own _ a λv F1 H1 g1 q1=>by
  cases x with
  | none =>
   have q1:v=.non:=q1
   subst q1
   exact .inl ⟨.non,.type "NoneType",false,.inl ⟨T,rfl,h0⟩,.non,k _ F1 H1 g1 rfl⟩
  | some e =>
   obtain ⟨p,rfl,hp⟩:=q1
   exact .inr ⟨p,xc e,.ty T,f e,rfl,(zbb.trans g1.fh) _ _ hp,(h1 e).1,⟨.type T,rfl,λu' z=>z,(h1 e).2⟩,k _ F1 H1 g1 rfl⟩
theorem zn7 {v:V} {t:Value} {ta:TE} {T:String} {b:Bool} (ty:∀ H,TyOf K H v t) (h:Ev Γ ta false (dV v)) (hk:W.kitOne K t (.type T)=some b):Ev Γ (tCB (zl6 K) (tCons ta (tCons (tC (.ty T)) tNil))) m (dB b):=λF0 Hb F H σ own Q a k =>
 h F0 Hb F H σ own _ a λv' F1 H1 g1 q1=>by
  cases q1
  exact .inl ⟨v,t,b,.inl ⟨T,rfl,hk⟩,ty H1,k _ F1 H1 g1 rfl⟩
theorem zqL {ta:TE} {T:String} {b:Bool} (h:Ev Γ ta false (dL ds)) (hk:W.kitOne K (.type "list") (.type T)=some b):Ev Γ (tCB (zl6 K) (tCons ta (tCons (tC (.ty T)) tNil))) m (dB b):=λF0 Hb F H σ own Q a k =>
 h F0 Hb F H σ own _ a λv' F1 H1 g1 ⟨p,vs,e1,e2,e3⟩=>by
  subst e1
  exact .inl ⟨.ref p,_,b,.inl ⟨T,rfl,hk⟩,.lst (g1.fh _ _ e2),k _ F1 H1 g1 rfl⟩
def foX (xc:ε->Addr) (Γx:Ctx) (fo:β->Oc):Except ε β->Oc
 | .ok v=>fo v
 | .error e=>.ex (xc e) Γx
def zry (r:Except ε α) (k:α->Except ε β):Except ε β:=match r with
 | .ok v=>k v
 | .error e=>.error e
theorem znK {C:Addr} {ta:TA} (h:EvA Γ ta m ds) (hz:ds.length≤sizeLine) (w:Wk Γ Γx):Run E Γ (tSeq (zpG ta C E) u) (.ex C Γx):=λF0 Hb F H σ own D a q =>
 h F0 Hb F H σ own _ a λvs F1 H1 g1 q1=>⟨by rw [Paired.length q1];exact hz,q none F1 H1 σ own ((↑20).wk w)⟩
def zqs (xc:ε->Addr) (m:Bool) (d:α->Ds):Except ε α->Rs
 | .ok v=>.va m (d v)
 | .error e=>.ex (xc e)
theorem znk {ι:Type} {args:ι->List Ds} {pre:ι->Prop} {res:ι->Rs} {tr:TA} {xc:ε->Addr} {d:α->Ds} {r:Except ε α} {kk:α->Except ε β} (fo:β->Oc) (x:ι) (h:EvA Γ tr false ds) (ha:ds=args x) (hp:pre x) (hr:res x=zqs xc m d r) (w:Wk Γ Γx)
  (k:∀ v,r=.ok v->Run E Γ u (foX xc Γx fo (kk v))):Run E Γ (tSeq (zp1 (zsu (Spv args pre res) tr) E) u) (foX xc Γx fo (zry r kk)):=λF0 Hb F H σ own D a q=>by
 subst ha
 refine h F0 Hb F H σ own _ a λvs F1 H1 g1 q1=>⟨x,F1,g1.fh,by rw [List.append_nil];exact q1,hp,?_⟩
 rw [hr]
 cases r with
 | ok v=>exact λv' F' H' g _=>k v rfl F0 Hb F' H' σ own D (a.grow (g1.trans g)) q
 | error e=>exact λdct F' H' g=>q dct F' H' σ own ((a.grow (g1.trans g)).wk w)
theorem zqf {CS:Addr} {i j:Nat} {tb:TSX} {xc:ε->Addr} {r:Except ε α} (Gok:α->Ctx) (Gerr:Ctx) (Gj:Except ε α->Ctx) (hb:∀ E',Run E' Γ (atE E' tb) (foX xc Gerr (λv=>.nx (Gok v)) r))
  (w1:∀ v,r=.ok v->Wk (Gok v) (Gj r)) (w2:∀ e,r=.error e->W.exmOne K (.ref (xc e)) (.ref CS)=some true∧Wk (((Gerr.set j (.va true (dE (xc e))))).set i .no) (Gj r)) (k:Run E (Gj r) u o) :
  Run E Γ (tSeq (zt4 K CS i j tb) u) o:=λF0 Hb F H σ own D a q=>by
 refine hb _ F0 Hb F H σ own { D with nx:=u D } a ?_
 cases r with
 | ok v=>exact λF1 H1 σ1 own1 a1=>k F0 Hb F1 H1 σ1 own1 D (a1.wk (w1 v rfl)) q
 | error e =>
  refine λdct F1 H1 σ1 own1 a1=>⟨xc e,rfl,(w2 e rfl).1,λx hx=>?_⟩
  obtain ⟨h1,h2,h3⟩:=a1.free (Grow.refl a1.fh) hx
  have g2:Grow F1 H1 (upd F1 x (excO x (xc e) [])) (upd H1 x (excO x (xc e) [])):=(Grow.refl a1.fh).new hx
  have a2:=(a1.grow g2).set j (m:=true) (d:=dE (xc e)) (v:=.ref x) ⟨x,rfl,zeY h3 zaE⟩
  refine k F0 Hb (upd F1 x (excO x (xc e) [])) _ _ own1 D (At.wk ?_ (w2 e rfl).2) q
  exact ⟨a2.g,a2.inj,a2.liv,λl s es=>by
   by_cases z:i=l
   ·subst z
    have hi:i<((Gerr.set j (.va true (dE (xc e))))).length:=by simpa using (List.getElem?_eq_some_iff.mp es).1
    rw [List.getElem?_set_self hi] at es
    cases es;trivial
   ·rw [List.getElem?_set_ne z] at es
    have:=a2.sl l s es
    rw [List.getElem?_set_ne z]
    exact this,by simp [a1.len]⟩
end
section
variable {E:XS} {Γ:Ctx} {K:W.Frag} {α β ε:Type} {u:TS}
def okO (r:Except ε α):Option α:=match r with
 | .ok v=>some v
 | .error _=>none
def zt7 (r:Except ε α):Option ε:=match r with
 | .ok _=>none
 | .error e=>some e
theorem zo5 {CS:Addr} {i j:Nat} {tb:TSX} {xc:ε->Addr} {r:Except ε α} (Gok:α->Ctx) (Gerr:Ctx) (Gj:Except ε α->Ctx) (fo:β->Oc) {kk:Except ε α->β} (hb:∀ E',Run E' Γ (atE E' tb) (foX xc Gerr (λv=>.nx (Gok v)) r))
  (w1:∀ v,Wk (Gok v) (Gj (.ok v))) (w2:∀ e,W.exmOne K (.ref (xc e)) (.ref CS)=some true∧Wk (((Gerr.set j (.va true (dE (xc e))))).set i .no) (Gj (.error e))) (k:∀ y,y=r->Run E (Gj y) u (fo (kk y))) :
  Run E Γ (tSeq (zt4 K CS i j tb) u) (fo (Let r kk)) :=
 zqf Gok Gerr Gj hb (λv e=>by rw [e];exact w1 v) (λe' e=>by rw [e];exact w2 e') (k r rfl)
theorem znM {xc:ε->Addr} {m:Bool} {d:α->Ds} {n:Nat} {r:Except ε α}:zrD n (zqs xc m d r)=foX xc (List.replicate n .no) (λv=>.rt m (d v)) r:=by cases r<;>rfl
end
theorem exm_of {K:W.Frag} {C CS:Addr} (h1:W.subIn K (.ref CS) (.type "BaseException")=some true) (h2:W.mroIn K CS (.type "object")=some true) (h3:W.typeIn K (.ref CS)=some (.type "type")) (h4:W.subIn K (.ref C) (.ref CS)=some true):W.exmOne K (.ref C) (.ref CS)=some true:=by
 unfold W.exmOne
 rw [h1,if_pos ⇑5]
 unfold W.kitCls
 obtain ⟨cd,hc,_⟩:=Option.bind_eq_some_iff.mp h2
 dsimp only
 rw [hc,h3,if_pos ⇑5,h4]
section
variable {P:Program} {w:World} {K:W.Frag} {mg:Str->Option Value} {base:Heap} {x qual:Str} {st:Stmt} {f:Addr} {fd:FuncData} {N ps:List Str} {k:Nat}
theorem Fun.okVX {ι:Type} {args:ι->List Ds} {pre:ι->Prop} {res:ι->Rs} (F:Fun K x qual st f fd) (S:FnScope N ps (zad st)) (hl:∀ i,(args i).length=ps.length)
  (hbody:∀ (cdv:Value) (A:Around) (outer:List Env) (s:Shared) (H:Hp) (E:XK) (i:ι),Room k ↑223->pre i->Own ↑164 →
   ∃ t,zkh ↑164 (zaB st) t∧(Run (λ_=>E) (zgs N (args i)) (atE (λ_=>E) t) (zrD N.length (res i))∨∃ m Δ,(∀ C,res i≠.ex C)∧res i=.va m dN∧Run (λ_=>E) (zgs N (args i)) (atE (λ_=>E) t) (.nx Δ))) :
  FnOk P w K mg base ⇑1 (k+1) f fd ps (Spv args pre res):=by
 refine F.okX S (λvs H Q E ⟨i,F',_,hv,_⟩=>by rw [Paired.length hv];exact hl i) λcdv A outer s H vs Q E hr ⟨i,F',hF,hv,hp,hq⟩=>?_
 obtain ⟨t,h1,h2⟩:=hbody cdv A outer s H E i hr hp ⟨rfl,rfl,rfl⟩
 have hq':zo8 H F' Q E (res i):=by
  cases e:res i with
  | va m d=>rw [e] at hq;exact hq
  | ow m ds=>rw [e] at hq;exact hq
  | ex C=>rw [e] at hq;exact hq
 refine ⟨t,h1,?_⟩
 rcases h2 with h2 | ⟨m,Δ,_,e,h2⟩
 ·exact zn6 (t:=atE (λ_=>E) t) hF hv hq' h2
 ·rw [e] at hq'
  exact zlg (t:=atE (λ_=>E) t) hF hv hq' h2
theorem Fun.okVXN {ι ε:Type} {args:ι->List Ds} {pre:ι->Prop} {xc:ε->Addr} {r:ι->Except ε Unit} {m:Bool} (F:Fun K x qual st f fd) (S:FnScope N ps (zad st)) (hl:∀ i,(args i).length=ps.length)
  (hbody:∀ (cdv:Value) (A:Around) (outer:List Env) (s:Shared) (H:Hp) (E:XK) (i:ι),Room k ↑223->pre i->Own ↑164 →
   ∃ t Δ,zkh ↑164 (zaB st) t∧Run (λ_=>E) (zgs N (args i)) (atE (λ_=>E) t) (foX xc (List.replicate N.length .no) (λ_=>.nx Δ) (r i))) :
  FnOk P w K mg base ⇑1 (k+1) f fd ps (Spv args pre λi=>zqs xc m (λ_=>dN) (r i)):=by
 refine F.okVX S hl λcdv A outer s H E i hr hp O=>?_
 obtain ⟨t,Δ,h1,h2⟩:=hbody cdv A outer s H E i hr hp O
 refine ⟨t,h1,?_⟩
 cases q:r i with
 | ok v =>
  rw [q] at h2
  exact .inr ⟨m,Δ,λC z=>(by cases z),rfl,h2⟩
 | error e =>
  rw [q] at h2
  exact .inl h2
end
theorem ev_isiO {Γ:Ctx} {m:Bool} {K:W.Frag} {ta:TE} {C:Addr} {fs:List (Str×Ds)} (h:Ev Γ ta false (dO C fs)) (hk:Cls K C∧W.findIn K (.ref C) "__class__"=some (some ↑47)∧W.specialIn K ↑47 "__get__"=some (some ↑192) ∧
  W.takesIn K ↑47=some true∧W.mroIn K C (.type "object")=some true∧W.kitOne K (.ref C) (.ref C)=some true):Ev Γ (tCB (zl6 K) (tCons ta (tCons (tC (.ref C)) tNil))) m (dB true):=λF0 Hb F H σ own Q a k =>
 h F0 Hb F H σ own _ a λv' F1 H1 g1 ⟨p,dx,vs,e1,e2,e3,e4⟩=>by
  subst e1
  exact .inl ⟨.ref p,_,true,.inr ⟨C,rfl,hk.2.2.2.2.2⟩,.ins (g1.fh _ _ e2) hk.1 hk.2.1 hk.2.2.1 hk.2.2.2.1 hk.2.2.2.2.1,k _ F1 H1 g1 rfl⟩
def EvN (Γ:Ctx) (t:TE) (d:Ds):Prop:=∀ (F0 Hb F H:Hp) (σ:St) (own:Nat->Option Addr) (Q:VK),At F0 Hb F H σ own Γ->(∀ v F' H',Grow F H F' H'->d.pr (off F' H) v->Q v H')->t σ H Q
def zuQ:Slot->Slot
 | .va _ d=>.va false d
 | _=>.no
def zsB (Γ:Ctx):Ctx:=Γ.map zuQ
theorem At.now {F0 Hb F H:Hp} {σ:St} {own:Nat->Option Addr} {Γ:Ctx} (a:At F0 Hb F H σ own Γ):At F H F H σ (λ_=>none) (zsB Γ):=by
 refine ⟨Grow.refl a.fh,λ_ _ _ h=>(nomatch h),λ_ _ h=>(nomatch h),λi s e=>?_,by unfold zsB;rw [List.length_map];exact a.len⟩
 unfold zsB at e
 rw [List.getElem?_map] at e
 cases q:Γ[i]? with
 | none=>rw [q] at e;cases e
 | some r =>
  rw [q] at e
  have e':zuQ r=s:=Option.some.inj e
  subst e'
  have h:=a.sl i r q
  cases r with
  | va m d =>
   obtain ⟨x,h1,h2⟩:=h
   exact ⟨x,h1,d.up zbb h2⟩
  | no=>trivial
  | ow m ds=>trivial
  | ob m C p dx fs=>trivial
  | ol p ds=>trivial
  | tl d=>trivial
theorem zpR {Γ:Ctx} {t:TE} {d:Ds} (h:Ev (zsB Γ) t true d):EvN Γ t d:=λF0 Hb F H σ own Q a k=>h F H F H σ _ Q a.now λv F' H' g q=>k v F' H' g q
theorem At.setTl {F0 Hb F H F' H':Hp} {σ:St} {own:Nat->Option Addr} {Γ:Ctx} (a:At F0 Hb F H σ own Γ) (g:Grow F H F' H') (i:Nat) {d:Ds} {v:V} (h:d.pr (off F' H) v):At F0 Hb F H' ↑155 own (Γ.set i (.tl d)):=by
 have gF:Grow F H F H':=⟨Same.refl _,a.fh.trans g.h,g.h,λ_ _ z=>z⟩
 have a':=a.grow gF
 refine ⟨a'.g,a'.inj,a'.liv,λj s e=>?_,by simp [a.len]⟩
 by_cases z:i=j
 ·subst z
  have hi:i<Γ.length:=by simpa using (↑52).1
  rw [List.getElem?_set_self hi] at e
  cases e
  rw [zfq (by rw [a.len];exact hi)]
  refine ⟨v,off F' H,rfl,zmP.trans g.fh,λb o q=>?_,λj p q=>?_,h⟩
  ·have hb:=(zcK.mp q).1
   exact ⟨a.fh.free hb,a.g.h.free hb⟩
  ·have:=a.liv j p q
   cases w:off F' H p with
   | none=>rfl
   | some o=>exact absurd (zcK.mp w).1 this
 ·rw [List.getElem?_set_ne z] at e
  rw [zgF z]
  exact a'.sl j s e
section
variable {E:XS} {Γ:Ctx} {te:TE} {u:TS} {o:Oc} {d:Ds} {i:Nat}
theorem zoJ (h:EvN Γ te d) (k:Run E (Γ.set i (.tl d)) u o):Run E Γ (tSeq (zjR te (zd8 i)) u) o:=λF0 Hb F H σ own D a q =>
 h F0 Hb F H σ own _ a λv F' H' g p=>k F0 Hb F H' _ own D (a.setTl g i p) q
theorem zoS {α β:Type} {x:α} (f:α->Ds) (fo:β->Oc) {kk:α->β} (h:EvN Γ te (f x)) (k:∀ y,y=x->Run E (Γ.set i (.tl (f y))) u (fo (kk y))):Run E Γ (tSeq (zjR te (zd8 i)) u) (fo (Let x kk)):=zoJ h (k x rfl)
end
def shS:Slot->Slot
 | .tl d=>.va true d
 | s=>s
def shC (Γ:Ctx):Ctx:=Γ.map shS
def zpT (Γ:Ctx):Bool:=Γ.all λs=>match s with | .ob _ _ _ _ _=>false | _=>true
open Classical in
noncomputable def wide (F Hb H:Hp) (own:Nat->Option Addr):Hp:=λa=>match F a with
 | some o=>some o
 | none=>if Hb a=none∧∀ j,own j≠some a then H a else none
theorem zlO {F Hb H:Hp} {own:Nat->Option Addr}:Same F (wide F Hb H own):=λa o q=>by unfold wide;rw [q]
theorem zst {F Hb H:Hp} {own:Nat->Option Addr} (e:Same F H):Same (wide F Hb H own) H:=λa o q=>by
 unfold wide at q
 cases z:F a with
 | some o'=>rw [z] at q;cases q;exact e _ _ z
 | none =>
  rw [z] at q
  dsimp only at q
  split at q
  ·exact q
  ·cases q
theorem At.wide {F0 Hb F H:Hp} {σ:St} {own:Nat->Option Addr} {Γ:Ctx} (a:At F0 Hb F H σ own Γ) (hno:zpT Γ=true):At F0 Hb (wide F Hb H own) H σ own (shC Γ):=by
 refine ⟨⟨a.g.f.trans zlO,zst a.fh,a.g.h,λb h1 h2=>?_⟩,a.inj,a.liv,λi s e=>?_,by unfold shC;rw [List.length_map];exact a.len⟩
 ·unfold L2.wide
  rw [a.g.no b h1 h2]
  dsimp only
  rw [if_neg (λz=>h1 z.1)]
 ·unfold shC at e
  rw [List.getElem?_map] at e
  cases q:Γ[i]? with
  | none=>rw [q] at e;cases e
  | some r =>
   rw [q] at e
   have e':shS r=s:=Option.some.inj e
   subst e'
   have h:=a.sl i r q
   cases r with
   | va m d =>
    obtain ⟨x,h1,h2⟩:=h
    exact ⟨x,h1,d.up (zbi zlO) h2⟩
   | no=>trivial
   | ow m ds =>
    obtain ⟨p,vs,h1,h2,h3,h4,h5,h6⟩:=h
    refine ⟨p,vs,h1,h2,?_,h4,h5,zdG (ds:=[]) (zbi zlO) h6⟩
    unfold L2.wide
    rw [h3]
    dsimp only
    rw [if_neg (λz=>z.2 i h2)]
   | ol p ds =>
    obtain ⟨vs,h1,h2,h3,h4,h5,h6⟩:=h
    refine ⟨vs,h1,h2,?_,h4,h5,zdG (ds:=[]) zlO h6⟩
    unfold L2.wide
    rw [h3]
    dsimp only
    rw [if_neg (λz=>z.2 i h2)]
   | ob m C p dx fs =>
    have:=List.all_eq_true.mp hno _ (List.mem_of_getElem? q)
    cases this
   | tl d =>
    obtain ⟨x,R,h1,h2,h3,h4,h5⟩:=h
    refine ⟨x,h1,d.up (λb o w=>?_) h5⟩
    refine zcK.mpr ⟨(h3 b o w).2,?_⟩
    unfold L2.wide
    rw [(h3 b o w).1]
    dsimp only
    rw [if_pos ⟨(h3 b o w).2,λj z=>by rw [h4 j b z] at w;cases w⟩]
    exact h2 b o w
section
variable {E:XS} {Γ:Ctx} {t:TE} {d:Ds} {m n:Bool} {o:Oc}
theorem Grow.only {F H H':Hp} (e:Same F H) (g:Same H H'):Grow F H F H':=⟨Same.refl _,e.trans g,g,λ_ _ z=>z⟩
theorem Ev.borrow {v:V} (hno:zpT Γ=true) (h:Ev (shC Γ) t m (dV v)):Ev Γ t n (dV v):=λF0 Hb F H σ own Q a k =>
 h F0 Hb _ H σ own Q (a.wide hno) λx F' H' g q=>k x F H' (Grow.only a.fh g.h) q
theorem EvN.ev (h:EvN Γ t d):Ev Γ t true d:=λF0 Hb F H σ own Q a k=>h F0 Hb F H σ own Q a λv F' H' g q=>k v F' H' g (d.up (zkL a.g.h) q)
theorem zlS {t:TS} (hno:zpT Γ=true) (k:Run E (shC Γ) t o):Run E Γ t o:=λF0 Hb F H σ own D a q=>k F0 Hb _ H σ own D (a.wide hno) q
def unS:Slot->Slot
 | .tl _=>.no
 | s=>s
def unC (Γ:Ctx):Ctx:=Γ.map unS
theorem At.spoil {F0 Hb F H:Hp} {σ:St} {own:Nat->Option Addr} (a:At F0 Hb F H σ own Γ) (hno:zpT Γ=true) {p:Addr} (w:HO) (h1:F p=none) (h2:Hb p=none) (h3:∀ j,own j≠some p):At F0 Hb F (upd H p w) σ own (unC Γ):=by
 refine ⟨a.g.setH h1 h2,a.inj,λj q e=>?_,λi s e=>?_,by unfold unC;rw [List.length_map];exact a.len⟩
 ·have:q≠p:=λz=>h3 j (z ▸ e)
  rw [zat this];exact a.liv j q e
 ·unfold unC at e
  rw [List.getElem?_map] at e
  cases q:Γ[i]? with
  | none=>rw [q] at e;cases e
  | some r =>
   rw [q] at e
   have e':unS r=s:=Option.some.inj e
   subst e'
   have h:=a.sl i r q
   cases r with
   | va m d=>exact h
   | no=>trivial
   | ow m ds =>
    obtain ⟨x,vs,q1,q2,q3,q4,q5,q6⟩:=h
    have:x≠p:=λz=>h3 i (z ▸ q2)
    exact ⟨x,vs,q1,q2,q3,q4,by rw [zat this];exact q5,q6⟩
   | ol x ds =>
    obtain ⟨vs,q1,q2,q3,q4,q5,q6⟩:=h
    have:x≠p:=λz=>h3 i (z ▸ q2)
    exact ⟨vs,q1,q2,q3,q4,by rw [zat this];exact q5,q6⟩
   | ob m C p dx fs =>
    have:=List.all_eq_true.mp hno _ (List.mem_of_getElem? q)
    cases this
   | tl d=>trivial
end
theorem ev_some {Γ:Ctx} {t:TE} {m:Bool} {α:Type} [Inhabited α] {f:α->Ds} {x:Option α} (h:Ev Γ t m (dOpt f x)) (hs:x.isSome=true):Ev Γ t m (f (x.getD default)):=by
 cases x with
 | none=>cases hs
 | some v=>exact h
def gS {α:Type} [Inhabited α] (x:Option α):α:=x.getD default
end L2
namespace Lat
abbrev Vc:=Nat->Int
inductive Sp (A:Vc->Prop):Vc->Prop
 | zero:Sp A (λ_=>0)
 | add {u a:Vc} (x:Int):Sp A u->A a->Sp A (λi=>u i+x*a i)
section
variable {A B:Vc->Prop} {u v a:Vc}
theorem Sp.conv (h:Sp A u) (e:∀ i,u i=v i):Sp A v:=(funext e:u=v) ▸ h
theorem Sp.mem (h:A a):Sp A a:=(Sp.add 1 Sp.zero h).conv λi=>by grind
theorem Sp.smul (x:Int) (h:Sp A u):Sp A (λi=>x*u i):=by
 induction h with
 | zero=>exact Sp.zero.conv λi=>by grind
 | @add u a z _ ha ih=>exact (Sp.add (x*z) ih ha).conv λi=>by grind
theorem Sp.plus (h:Sp A u) (k:Sp A v):Sp A (λi=>u i+v i):=by
 induction k with
 | zero=>exact h.conv λi=>by grind
 | @add w a z _ ha ih=>exact (Sp.add z ih ha).conv λi=>by grind
theorem Sp.lin (x y:Int) (h:Sp A u) (k:Sp A v):Sp A (λi=>x*u i+y*v i):=(h.smul x).plus (k.smul y)
theorem Sp.sub (k:∀ a,A a->Sp B a) (h:Sp A u):Sp B u:=by
 induction h with
 | zero=>exact Sp.zero
 | @add u a z _ ha ih=>exact (ih.plus ((k a ha).smul z)).conv λi=>by grind
theorem Sp.mono (k:∀ a,A a->B a) (h:Sp A u):Sp B u:=h.sub λa ha=>.mem (k a ha)
theorem Sp.at0 {i:Nat} (k:∀ a,A a->a i=0) (h:Sp A u):u i=0:=by
 induction h with
 | zero=>rfl
 | @add u a z _ ha ih=>show u i+z*a i=0;rw [ih,k a ha];simp
theorem Sp.split {a:Vc} (h:Sp (λu=>A u∨u=a) v):∃ w y,Sp A w∧∀ i,v i=w i+y*a i:=by
 induction h with
 | zero=>exact ⟨_,0,.zero,λi=>by grind⟩
 | @add u b z _ hb ih =>
  obtain ⟨w,y,hw,e⟩:=ih
  rcases hb with hb | rfl
  ·exact ⟨_,y,.add z hw hb,λi=>by grind⟩
  ·exact ⟨w,y+z,hw,λi=>by grind⟩
end
def comb:Ji->List Vc->Vc
 | x :: xs,a :: as=>λi=>x*a i+comb xs as i
 | _,_=>λ_=>0
theorem zh6 {A:Vc->Prop}:∀ {xs:Ji} {as:List Vc},(∀ a∈as,A a)->Sp A (comb xs as)
 | [],_,_=>.zero
 | _ :: _,[],_=>.zero
 | x :: xs,a :: as,h=>(((Sp.mem (h a List.mem_cons_self)).smul x).plus (zh6 (xs:=xs) λb hb=>h b ↑231)).conv λi=>by simp only [comb]
theorem zk8:∀ {xs ys:Ji} {as:List Vc} (i:Nat),xs.length=ys.length->comb (List.zipWith (·-·) xs ys) as i=comb xs as i-comb ys as i
 | [],[],_,_,_=>by simp [comb]
 | x :: xs,y :: ys,[],_,_=>by simp [comb]
 | x :: xs,y :: ys,a :: as,i,h=>by
  have:=zk8 (xs:=xs) (ys:=ys) (as:=as) i ↑114
  simp only [comb,List.zipWith_cons_cons,this]
  grind
theorem zjn {X B:Nat} {i:Nat}:∀ {xs:Ji} {as:List Vc},(∀ x∈xs,x.natAbs≤X)->(∀ a∈as,(a i).natAbs≤B)->(comb xs as i).natAbs≤as.length*(X*B)
 | [],_,_,_=>by simp [comb]
 | _ :: _,[],_,_=>by simp [comb]
 | x :: xs,a :: as,h,k=>by
  have h1:=zjn (xs:=xs) (as:=as) (λy hy=>h y ↑233) λb hb=>k b ↑231
  have h2:(x*a i).natAbs≤X*B:=by rw [Int.natAbs_mul];exact Nat.mul_le_mul (h x List.mem_cons_self) (k a List.mem_cons_self)
  simp only [comb,List.length_cons,Nat.succ_mul]
  omega
theorem zpn:∀ (M N:Nat) (f:Nat->Nat),M<N->(∀ n,n<N->f n<M)->∃ i j,i<j∧j<N∧f i=f j
 | 0,N,f,h,k=>absurd (k 0 h) (Nat.not_lt_zero _)
 | M+1,N,f,h,k=>by
  by_cases q:∃ i,i<N-1∧f i=f (N-1)
  ·obtain ⟨i,h1,h2⟩:=q
   exact ⟨i,N-1,h1,by omega,h2⟩
  ·have q:∀ i,i<N-1->f i≠f (N-1):=λi h1 h2=>q ⟨i,h1,h2⟩
   obtain ⟨i,j,h1,h2,h3⟩:=zpn M (N-1) (λn=>if f (N-1)<f n then f n-1 else f n) ↑0 λn hn=>by
    have a:=k n ↑0
    have b:=k (N-1) ↑0
    have c:=q n hn
    show (if f (N-1)<f n then f n-1 else f n)<M
    split<;>omega
   refine ⟨i,j,h1,by omega,?_⟩
   have a:=q i ↑0
   have b:=q j h2
   split at h3<;>split at h3<;>omega
def zio (b:Nat):Nat->Nat->Ji
 | 0,_=>[]
 | k+1,n=>((n%b:Nat):Int) :: zio b k (n/b)
theorem zeU {b:Nat}:∀ {k n:Nat},(zio b k n).length=k
 | 0,_=>rfl
 | k+1,n=>by simp [zio,zeU]
theorem ziU {b:Nat} (hb:0<b):∀ {k n:Nat},∀ x∈zio b k n,0≤x∧x<b
 | 0,_,x,h=>by simp [zio] at h
 | k+1,n,x,h=>by
  simp only [zio,List.mem_cons] at h
  rcases h with rfl | h
  ·have:=Nat.mod_lt n hb
   omega
  ·exact ziU hb x h
theorem zle {b:Nat} (hb:0<b):∀ {k n m:Nat},n<b^k->m<b^k->zio b k n=zio b k m->n=m
 | 0,n,m,h1,h2,_=>by simp at h1 h2;omega
 | k+1,n,m,h1,h2,e=>by
  simp only [zio,List.cons.injEq] at e
  have h3:=zle hb (k:=k) (Nat.div_lt_of_lt_mul (by rw [Nat.pow_succ,Nat.mul_comm] at h1;exact h1)) (Nat.div_lt_of_lt_mul (by rw [Nat.pow_succ,Nat.mul_comm] at h2;exact h2)) e.2
  have h4:=Nat.div_add_mod n b
  have h5:=Nat.div_add_mod m b
  rw [h3] at h4
  omega
def enc (W:Nat) (u:Vc):List Nat->Nat
 | []=>0
 | h :: hs=>(u h+W).toNat+(2*W+1)*enc W u hs
theorem zpM {W:Nat} {u:Vc}:∀ {hs:List Nat},(∀ h∈hs,(u h).natAbs≤W)->enc W u hs<(2*W+1)^hs.length
 | [],_=>by simp [enc]
 | h :: hs,k=>by
  have h1:=zpM (hs:=hs) λg hg=>k g (List.mem_cons_of_mem _ hg)
  have h2:=k h List.mem_cons_self
  simp only [enc,List.length_cons,Nat.pow_succ]
  have h3:(2*W+1)*(enc W u hs+1)≤(2*W+1)*(2*W+1)^hs.length:=Nat.mul_le_mul_left _ h1
  rw [Nat.mul_comm ((2*W+1)^hs.length)]
  rw [Nat.mul_add] at h3
  omega
theorem znH {W:Nat} {u v:Vc}:∀ {hs:List Nat},(∀ h∈hs,(u h).natAbs≤W∧(v h).natAbs≤W)->enc W u hs=enc W v hs->∀ h∈hs,u h=v h
 | [],_,_,h,hh=>by simp at hh
 | g :: hs,k,e,h,hh=>by
  have h2:=k g List.mem_cons_self
  simp only [enc] at e
  have e1:((u g+W).toNat+(2*W+1)*enc W u hs)%(2*W+1)=((v g+W).toNat+(2*W+1)*enc W v hs)%(2*W+1):=by rw [e]
  rw [Nat.add_mul_mod_self_left,Nat.add_mul_mod_self_left,Nat.mod_eq_of_lt ↑0,Nat.mod_eq_of_lt ↑0] at e1
  have e2:u g=v g:=by omega
  rcases List.mem_cons.mp hh with rfl | hh
  ·exact e2
  ·refine znH (λx hx=>k x (List.mem_cons_of_mem _ hx)) ?_ h hh
   rw [e1] at e
   exact Nat.eq_of_mul_eq_mul_left (show 0<2*W+1 by omega) (Nat.add_left_cancel e)
theorem zsv {as:List Vc} {hs:List Nat} {B:Nat} (hl:hs.length<as.length) (hB:∀ a∈as,∀ h∈hs,(a h).natAbs≤B) :
  ∃ xs:Ji,xs.length=as.length∧(∃ x∈xs,x≠0)∧(∀ x∈xs,x.natAbs≤(2*(as.length*B)+1)^hs.length)∧∀ h∈hs,comb xs as h=0:=by
 generalize hY:2*(as.length*B)+1=Y
 have hY1:1≤Y:=by omega
 generalize hX:Y^hs.length=X
 have hX1:1≤X:=by rw [← hX];exact Nat.one_le_pow _ _ hY1
 have key:∀ n,∀ h∈hs,(comb (zio (X+1) as.length n) as h).natAbs≤as.length*(X*B):=λn h hh =>
  zjn (λx hx=>by have:=ziU ↑0 x hx;omega) λa ha=>hB a ha h hh
 obtain ⟨i,j,h1,h2,h3⟩:=zpn ((2*(as.length*(X*B))+1)^hs.length) ((X+1)^as.length) (λn=>enc (as.length*(X*B)) (comb (zio (X+1) as.length n) as) hs) (by
  have e1:2*(as.length*(X*B))+1≤Y*X:=by
   rw [← hY,Nat.add_mul,Nat.one_mul,Nat.mul_assoc,Nat.mul_assoc,Nat.mul_comm B X]
   omega
  calc (2*(as.length*(X*B))+1)^hs.length≤(Y*X)^hs.length:=Nat.pow_le_pow_left e1 _
   _=X*X^hs.length:=by rw [Nat.mul_pow,hX]
   _=X^(hs.length+1):=by rw [Nat.pow_succ,Nat.mul_comm]
   _≤X^as.length:=Nat.pow_le_pow_right hX1 hl
   _<(X+1)^as.length:=Nat.pow_lt_pow_left ↑0 ↑0) λn _=>zpM (key n)
 refine ⟨List.zipWith (·-·) (zio (X+1) as.length i) (zio (X+1) as.length j),by simp [zeU],?_,λx hx=>?_,λh hh=>?_⟩
 ·refine Classical.byContradiction λq=>?_
  have q:∀ x∈List.zipWith (·-·) (zio (X+1) as.length i) (zio (X+1) as.length j),x=0:=λx hx=>Classical.byContradiction λz=>q ⟨x,hx,z⟩
  have e:zio (X+1) as.length i=zio (X+1) as.length j:=by
   refine List.ext_getElem (by simp [zeU]) λk k1 k2=>?_
   have:=q _ (List.getElem_mem (l:=List.zipWith (·-·) (zio (X+1) as.length i) (zio (X+1) as.length j)) (n:=k) (by simp [zeU] at *;omega))
   rw [List.getElem_zipWith] at this
   omega
  have:=zle ↑0 (Nat.lt_trans h1 h2) h2 e
  omega
 ·obtain ⟨k,hk,rfl⟩:=List.getElem_of_mem hx
  have hk':k<as.length:=by simpa [zeU] using hk
  rw [List.getElem_zipWith]
  have:=ziU (b:=X+1) ↑0 _ (List.getElem_mem (l:=zio (X+1) as.length i) (n:=k) (by rw [zeU];exact hk'))
  have:=ziU (b:=X+1) ↑0 _ (List.getElem_mem (l:=zio (X+1) as.length j) (n:=k) (by rw [zeU];exact hk'))
  omega
 ·rw [zk8 _ (by simp [zeU])]
  have:=znH (λh hh=>⟨key i h hh,key j h hh⟩) h3 h hh
  omega
theorem first {u:Vc} {c:Nat} (h:u c≠0):∃ d,d≤c∧u d≠0∧∀ i,i<d->u i=0:=by
 induction c using Nat.strongRecOn with
 | _ c ih =>
  by_cases q:∃ i,i<c∧u i≠0
  ·obtain ⟨i,h1,h2⟩:=q
   obtain ⟨d,h3,h4⟩:=ih i h1 h2
   exact ⟨d,by omega,h4⟩
  ·exact ⟨c,Nat.le_refl c,h,λi hi=>Classical.byContradiction λz=>q ⟨i,hi,z⟩⟩
def bnd (k B C:Nat):Nat:=(k+1)*((2*((k+1)*C)+1)^k*B)
theorem zlG {k l B C:Nat} (h:k≤l):bnd k B C≤bnd l B C:=by
 unfold bnd
 refine Nat.mul_le_mul ↑0 (Nat.mul_le_mul_right _ ?_)
 refine Nat.le_trans (Nat.pow_le_pow_right ↑0 h) (Nat.pow_le_pow_left ?_ _)
 have:=Nat.mul_le_mul_right C (show k+1≤l+1 by omega)
 omega
structure Wit (A:Vc->Prop) (B E:Nat) (hs:List Nat) (as:List Vc):Prop where
 len:hs.length=as.length
 mem:∀ a∈as,A a
 bd:∀ a∈as,∀ i,(a i).natAbs≤B
 van:∀ u,Sp A u->(∀ h∈hs,u h=0)->∀ i,u i=0
 hd:∀ h∈hs,∃ v,Sp A v∧(∀ i,i<h->v i=0)∧v h≠0∧∀ i,(v i).natAbs≤E
 ind:∀ xs:Ji,xs.length=as.length->(∀ i,comb xs as i=0)->∀ x∈xs,x=0
theorem Wit.nil {B E:Nat}:Wit (λ_=>False) B E [] [] where
 len:=rfl
 mem:=by simp
 bd:=by simp
 van:=λu h _ i=>h.at0 λ_ z=>z.elim
 hd:=by simp
 ind:=λxs h _ x hx=>by rw [List.length_eq_zero_iff.mp h] at hx;simp at hx
theorem Wit.rel {A:Vc->Prop} {B C E:Nat} {hs:List Nat} {as:List Vc} {u:Vc} (W:Wit A B E hs as) (hBC:B≤C) (hu:∀ h∈hs,(u h).natAbs≤C) :
  ∃ (x:Int) (xs:Ji),x≠0∧xs.length=as.length∧x.natAbs≤(2*((as.length+1)*C)+1)^as.length∧(∀ y∈xs,y.natAbs≤(2*((as.length+1)*C)+1)^as.length)∧∀ h∈hs,x*u h+comb xs as h=0:=by
 obtain ⟨xs,h1,⟨z,hz,hz0⟩,h3,h4⟩:=zsv (as:=u :: as) (hs:=hs) (B:=C) (by simp [W.len]) λa ha h hh=>by
  rcases List.mem_cons.mp ha with rfl | ha
  ·exact hu h hh
  ·exact Nat.le_trans (W.bd a ha h) hBC
 rw [W.len,List.length_cons] at h3
 match xs,h1 with
 | x :: xs,h1 =>
  refine ⟨x,xs,λq=>?_,by simpa using h1,h3 x List.mem_cons_self,λy hy=>h3 y ↑233,λh hh=>by have:=h4 h hh;simpa [comb] using this⟩
  subst q
  have k1:∀ i,comb xs as i=0:=W.van _ (zh6 W.mem) λh hh=>by have:=h4 h hh;simpa [comb] using this
  have k2:=W.ind xs (by simpa using h1) k1
  rcases List.mem_cons.mp hz with rfl | hz
  ·exact hz0 rfl
  ·exact hz0 (k2 z hz)
theorem Wit.step {A:Vc->Prop} {B E:Nat} {hs:List Nat} {as:List Vc} {a:Vc} (W:Wit A B E hs as) (ha:∀ i,(a i).natAbs≤B) (hE:bnd as.length B B≤E) :
  ∃ hs' as',Wit (λu=>A u∨u=a) B E hs' as'∧as'.length≤as.length+1:=by
 obtain ⟨x,xs,hx,hl,b1,b2,h0⟩:=W.rel (u:=a) (Nat.le_refl B) λh _=>ha h
 have sp1:Sp A (comb xs as):=zh6 W.mem
 have up:∀ u,Sp A u->Sp (λu=>A u∨u=a) u:=λu hu=>hu.mono λ_=>.inl
 have hva:Sp (λu=>A u∨u=a) (λi=>x*a i+comb xs as i):=((Sp.mem (.inr rfl)).smul x).plus (up _ sp1)
 by_cases q:∃ i,x*a i+comb xs as i≠0
 ·obtain ⟨i,hi⟩:=q
  obtain ⟨c,_,hc,hc0⟩:=first (u:=λi=>x*a i+comb xs as i) hi
  refine ⟨c :: hs,a :: as,⟨by simp [W.len],λb hb=>?_,λb hb=>?_,λu hu hv=>?_,λh hh=>?_,λys hy hys=>?_⟩,by simp⟩
  ·rcases List.mem_cons.mp hb with rfl | hb
   ·exact .inr rfl
   ·exact .inl (W.mem b hb)
  ·rcases List.mem_cons.mp hb with rfl | hb
   ·exact ha
   ·exact W.bd b hb
  ·obtain ⟨w,y,hw,e⟩:=hu.split
   have k1:∀ i,x*w i-y*comb xs as i=0:=λi=>by
    have:=W.van _ (hw.lin x (-y) sp1) (λh hh=>by
     have e1:=e h
     rw [hv h (List.mem_cons_of_mem _ hh)] at e1
     have e2:=h0 h hh
     grind) i
    grind
   have k2:y=0:=by
    have e1:=e c
    rw [hv c List.mem_cons_self] at e1
    have e2:=k1 c
    have e3:y*(x*a c+comb xs as c)=0:=by grind
    rcases Int.mul_eq_zero.mp e3 with z | z
    ·exact z
    ·exact (hc z).elim
   intro i
   have e1:=e i
   have e2:=k1 i
   have e3:x*u i=0:=by grind
   exact (Int.mul_eq_zero.mp e3).resolve_left hx
  ·rcases List.mem_cons.mp hh with rfl | hh
   ·refine ⟨_,hva,hc0,hc,λi=>?_⟩
    have e1:=zjn (i:=i) b2 λb hb=>W.bd b hb i
    have e2:(x*a i).natAbs≤(2*((as.length+1)*B)+1)^as.length*B:=by rw [Int.natAbs_mul];exact Nat.mul_le_mul b1 (ha i)
    unfold bnd at hE
    rw [Nat.add_mul,Nat.one_mul] at hE
    show (x*a i+comb xs as i).natAbs≤E
    omega
   ·obtain ⟨v,q1,q2⟩:=W.hd h hh
    exact ⟨v,up v q1,q2⟩
  ·match ys,hy with
   | y :: ys,hy =>
    have k1:∀ i,x*comb ys as i-y*comb xs as i=0:=λi=>by
     have:=W.van _ ((zh6 (xs:=ys) W.mem).lin x (-y) sp1) (λh hh=>by
      have e1:=hys h
      simp only [comb] at e1
      have e2:=h0 h hh
      grind) i
     grind
    have k2:y=0:=by
     have e1:=hys c
     simp only [comb] at e1
     have e2:=k1 c
     have e3:y*(x*a c+comb xs as c)=0:=by grind
     rcases Int.mul_eq_zero.mp e3 with z | z
     ·exact z
     ·exact (hc z).elim
    subst k2
    have k3:=W.ind ys (by simpa using hy) λi=>by have:=hys i;simpa [comb] using this
    intro z hz
    rcases List.mem_cons.mp hz with rfl | hz
    ·rfl
    ·exact k3 z hz
 ·have q:∀ i,x*a i+comb xs as i=0:=λi=>Classical.byContradiction λz=>q ⟨i,z⟩
  refine ⟨hs,as,⟨W.len,λb hb=>.inl (W.mem b hb),W.bd,λu hu hv=>?_,λh hh=>?_,W.ind⟩,by omega⟩
  ·obtain ⟨w,y,hw,e⟩:=hu.split
   have k1:∀ i,x*w i-y*comb xs as i=0:=λi=>by
    have:=W.van _ (hw.lin x (-y) sp1) (λh hh=>by
     have e1:=e h
     rw [hv h hh] at e1
     have e2:=h0 h hh
     grind) i
    grind
   intro i
   have e1:=e i
   have e2:=k1 i
   have e3:=q i
   have e4:x*u i=0:=by grind
   exact (Int.mul_eq_zero.mp e4).resolve_left hx
  ·obtain ⟨v,q1,q2⟩:=W.hd h hh
   exact ⟨v,up v q1,q2⟩
theorem Wit.small {A:Vc->Prop} {B C E:Nat} {hs:List Nat} {as:List Vc} {u:Vc} (W:Wit A B E hs as) (hBC:B≤C) (hs_:Sp A u) (hu:∀ h∈hs,(u h).natAbs≤C) (i:Nat):(u i).natAbs≤bnd as.length B C:=by
 obtain ⟨x,xs,hx,hl,b1,b2,h0⟩:=W.rel hBC hu
 have k:=W.van _ ((hs_.smul x).plus (zh6 (xs:=xs) W.mem)) h0 i
 have e1:=zjn (i:=i) b2 λb hb=>W.bd b hb i
 have e2:(x*u i).natAbs=(comb xs as i).natAbs:=by
  have k:x*u i+comb xs as i=0:=k
  omega
 rw [Int.natAbs_mul] at e2
 have e3:(u i).natAbs≤x.natAbs*(u i).natAbs:=Nat.le_mul_of_pos_left _ (Int.natAbs_pos.mpr hx)
 unfold bnd
 rw [Nat.add_mul]
 omega
theorem Wit.head {A:Vc->Prop} {B E:Nat} {hs:List Nat} {as:List Vc} {u:Vc} {h:Nat} (W:Wit A B E hs as) (hu:Sp A u) (h0:∀ i,i<h->u i=0) (h1:u h≠0):h∈hs:=by
 refine Classical.byContradiction λq=>?_
 have hm:∃ n,∀ g∈hs,g<n:=by
  clear W q
  induction hs with
  | nil=>exact ⟨0,by simp⟩
  | cons g hs ih =>
   obtain ⟨n,hn⟩:=ih
   exact ⟨max n (g+1),λk hk=>by
    rcases List.mem_cons.mp hk with rfl | hk
    ·omega
    ·have:=hn k hk;omega⟩
 obtain ⟨n,hn⟩:=hm
 have main:∀ (d t:Nat) (u:Vc),n-t=d->h<t->Sp A u->u h≠0->(∀ g∈hs,g<t->u g=0)->False:=by
  intro d
  induction d with
  | zero=>exact λt u e _ hu h1 k=>h1 (W.van u hu (λg hg=>k g hg (by have:=hn g hg;omega)) h)
  | succ d ih =>
   intro t u e ht hu h1 k
   by_cases z:t∈hs
   ·obtain ⟨v,v1,v2,v3,_⟩:=W.hd t z
    refine ih (t+1) _ ↑0 ↑0 (hu.lin (v t) (-(u t)) v1) ?_ λg hg hgt=>?_
    ·show v t*u h+-u t*v h≠0
     rw [v2 h ht]
     intro y
     rcases Int.mul_eq_zero.mp (show v t*u h=0 by grind) with y | y
     ·exact v3 y
     ·exact h1 y
    ·show v t*u g+-u t*v g=0
     by_cases y:g=t
     ·subst y;grind
     ·rw [v2 g ↑0,k g hg ↑0];grind
   ·exact ih (t+1) u ↑0 ↑0 hu h1 λg hg hgt=>k g hg (by
     have:g≠t:=λy=>z (y ▸ hg)
     omega)
 exact main _ (h+1) u rfl ↑0 hu h1 λg hg hgt=>by
  by_cases y:g=h
  ·exact (q (y ▸ hg)).elim
  ·exact h0 g ↑0
end Lat
namespace L2
open PySem PySem.Spec PyProof.Rows
def whl {S:Type} (c:S->Bool) (f:S->S):Nat->S->S
 | 0,s=>s
 | n+1,s=>bif c s then whl c f n (f s) else s
theorem zlm {S:Type} {c:S->Bool} {f:S->S} {s:S} (h:c s=false):∀ n,whl c f n s=s
 | 0=>rfl
 | n+1=>by rw [whl,h];rfl
theorem zpo {S:Type} {c:S->Bool} {f:S->S} {s:S} (h:c s=true) (n:Nat):whl c f (n+1) s=whl c f n (f s):=by rw [whl,h];rfl
theorem zhM {S:Type} {c:S->Bool} {f:S->S} {I:S->Prop} {μ:S->Nat} (hs:∀ s,I s->c s=true->I (f s)∧μ (f s)<μ s):∀ {n:Nat} {s:S},I s->μ s≤n->I (whl c f n s)∧c (whl c f n s)=false
 | 0,s,h,k=>⟨h,by
  show c s=false
  cases q:c s with
  | false=>rfl
  | true=>have:=(hs s h q).2;omega⟩
 | n+1,s,h,k=>by
  cases q:c s with
  | false=>rw [zlm q];exact ⟨h,q⟩
  | true =>
   rw [zpo q]
   exact zhM hs (hs s h q).1 (by have:=(hs s h q).2;omega)
section
variable {E:XS} {Γ:Ctx} {β:Type} {u:TS}
theorem zh9 {S:Type} {tc:TT} {tb:TS} {s0:S} (G:S->Ctx) (fo:β->Oc) {kk:S->β} (c:S->Bool) (f:S->S) (I:S->Prop) (μ:S->Nat) (n:Nat) (w:Wk Γ (G s0)) (h0:I s0) (hn:μ s0≤n)
  (body:∀ s,I s->EvT (G s) tc (c s)∧(c s=true->(I (f s)∧μ (f s)<μ s)∧Run E (G s) tb (.nx (G (f s)))))
  (k:∀ s,s=whl c f n s0->I s->c s=false->Run E (G s) u (fo (kk s))):Run E Γ (tSeq (zpy tc tb) u) (fo (Let (whl c f n s0) kk)):=λF0 Hb F H σ own D a q=>by
 obtain ⟨i1,i2⟩:=zhM (n:=n) (λs hi hc=>((body s hi).2 hc).1) h0 hn
 have kf:=k _ rfl i1 i2
 refine ⟨λm σ H=>∃ s F own,At F0 Hb F H σ own (G s)∧I s∧μ s=m∧∃ j,μ s≤j∧whl c f j s=whl c f n s0,⟨_,s0,F,own,a.wk w,h0,rfl,n,hn,rfl⟩,?_⟩
 rintro m σ1 H1 ⟨s,F1,own1,a1,hI,rfl,j,hj,ej⟩
 obtain ⟨b1,b2⟩:=body s hI
 refine b1 F0 Hb F1 H1 σ1 own1 _ a1 λF2 H2 g=>?_
 cases e:c s with
 | false =>
  rw [if_neg Bool.false_ne_true]
  rw [zlm e] at ej
  rw [← ej] at kf
  exact kf F0 Hb F2 H2 σ1 own1 D (a1.grow g) (by rw [ej];exact q)
 | true =>
  rw [if_pos rfl]
  obtain ⟨⟨c1,c2⟩,c3⟩:=b2 e
  refine ⟨λσ' H'=>∃ F own,At F0 Hb F H' σ' own (G (f s)),λσ' H' ⟨F',own',a'⟩=>⟨_,c2,f s,F',own',a',c1,rfl,j-1,by omega,?_⟩,?_⟩
  ·rw [← ej,show j=(j-1)+1 by omega,zpo e];simp
  ·exact c3 F0 Hb F2 H2 σ1 own1 _ (a1.grow g) λF' H' σ' own' a'=>⟨F',own',a'⟩
end
end L2
namespace Lat
def vec (l:Ji):Vc:=λi=>l.getD i 0
def hd:Ji->Nat
 | []=>0
 | x :: xs=>bif (!decide (x=0)) then 0 else hd xs+1
def add (l s:Ji):Ji:=List.map (λ(x:Int×Int)=>x.1+x.2) (List.zip l s)
def sub (l s:Ji):Ji:=List.map (λ(x:Int×Int)=>x.1-x.2) (List.zip l s)
def mul (l:Ji) (c:Int):Ji:=List.map (λ(x:Int)=>x*c) l
theorem zm2 {x:Int} {xs:Ji}:vec (x :: xs) 0=x:=rfl
theorem zbk {x:Int} {xs:Ji} {i:Nat}:vec (x :: xs) (i+1)=vec xs i:=by simp [vec]
theorem zda {l:Ji} {i:Nat} (h:l.length≤i):vec l i=0:=by simp [vec,List.getD_eq_getElem?_getD,List.getElem?_eq_none h]
theorem znq {l:Ji} {i:Nat} (h:i<l.length):vec l i∈l:=by
 simp only [vec,List.getD_eq_getElem?_getD,List.getElem?_eq_getElem h,Option.getD_some];exact List.getElem_mem h
theorem zmN {l:Ji} {x:Int} (h:x∈l):∃ i,i<l.length∧vec l i=x:=by
 obtain ⟨i,hi,e⟩:=List.getElem_of_mem h
 exact ⟨i,hi,by simp [vec,List.getD_eq_getElem?_getD,List.getElem?_eq_getElem hi,e]⟩
theorem zk3 {l s:Ji} (h:l.length=s.length) (e:∀ i,vec l i=vec s i):l=s:=by
 refine List.ext_getElem h λi h1 h2=>?_
 have:=e i
 simpa [vec,List.getD_eq_getElem?_getD,List.getElem?_eq_getElem h1,List.getElem?_eq_getElem h2] using this
theorem zpZ {l:Ji} {B:Nat} (h:∀ x∈l,x.natAbs≤B) (i:Nat):(vec l i).natAbs≤B:=by
 by_cases q:i<l.length
 ·exact h _ (znq q)
 ·rw [zda ↑0];exact Nat.zero_le _
theorem zno {l s:Ji} (h:l.length=s.length):(sub l s).length=l.length:=by simp [sub,h]
theorem zku {l s:Ji} (h:l.length=s.length):(add l s).length=l.length:=by simp [add,h]
theorem zby {l:Ji} {c:Int}:(mul l c).length=l.length:=by simp [mul]
theorem zkR:∀ {l s:Ji} {i:Nat},l.length=s.length->vec (sub l s) i=vec l i-vec s i
 | [],[],i,_=>by simp [sub,vec]
 | x :: l,y :: s,0,_=>rfl
 | x :: l,y :: s,i+1,h=>by
  have:=zkR (l:=l) (s:=s) (i:=i) ↑114
  rw [zbk,zbk,← this]
  exact zbk
theorem zkC:∀ {l s:Ji} {i:Nat},l.length=s.length->vec (add l s) i=vec l i+vec s i
 | [],[],i,_=>by simp [add,vec]
 | x :: l,y :: s,0,_=>rfl
 | x :: l,y :: s,i+1,h=>by
  have:=zkC (l:=l) (s:=s) (i:=i) ↑114
  rw [zbk,zbk,← this]
  exact zbk
theorem zdZ:∀ {l:Ji} {c:Int} {i:Nat},vec (mul l c) i=vec l i*c
 | [],c,i=>by simp [mul,vec]
 | x :: l,c,0=>rfl
 | x :: l,c,i+1=>by
  have:=zdZ (l:=l) (c:=c) (i:=i)
  rw [zbk,← this]
  exact zbk
theorem ztq:∀ {l:Ji},hd l≤l.length
 | []=>Nat.le_refl 0
 | x :: xs=>by
  unfold hd
  cases (!decide (x=0))
  ·exact Nat.succ_le_succ ztq
  ·exact Nat.zero_le _
theorem zdb:∀ {l:Ji} {i:Nat},i<hd l->vec l i=0
 | [],i,h=>absurd h (Nat.not_lt_zero i)
 | x :: xs,i,h=>by
  unfold hd at h
  by_cases q:x=0
  ·rw [show (!decide (x=0))=false by simp [q]] at h
   have h:i<hd xs+1:=h
   cases i with
   | zero=>exact q
   | succ i=>rw [zbk];exact zdb ↑0
  ·rw [show (!decide (x=0))=true by simp [q]] at h
   exact absurd h (Nat.not_lt_zero i)
theorem zja:∀ {l:Ji},hd l<l.length->vec l (hd l)≠0
 | [],h=>absurd h (Nat.not_lt_zero _)
 | x :: xs,h=>by
  unfold hd at h ⊢
  by_cases q:x=0
  ·rw [show (!decide (x=0))=false by simp [q]] at h ⊢
   have h:hd xs+1<xs.length+1:=h
   show vec (x :: xs) (hd xs+1)≠0
   rw [zbk]
   exact zja ↑0
  ·rw [show (!decide (x=0))=true by simp [q]]
   exact q
theorem zq2 {l:Ji} {d:Nat} (h:vec l d≠0) (k:∀ i,i<d->vec l i=0):hd l=d:=by
 have h1:¬ hd l<d:=λq=>by
  have hl:d<l.length:=Nat.lt_of_not_le λz=>h (zda z)
  exact zja ↑0 (k _ q)
 have h2:¬ d<hd l:=λq=>h (zdb q)
 omega
theorem zsO {l:Ji} {d:Nat} (hl:d≤l.length) (k:∀ i,i<d->vec l i=0):d≤hd l:=by
 refine Nat.le_of_not_lt λq=>?_
 exact zja ↑0 (k _ q)
def quo (l s:Ji):Int:=vec l (hd s)/vec s (hd s)
def zkB (l s:Ji):Ji:=bif (!decide (quo l s=0)) then sub l (mul s (quo l s)) else l
def low (l:Ji) (ss:Jq):Ji:=ss.foldl zkB l
theorem ziQ {l s:Ji} (h:l.length=s.length):(zkB l s).length=l.length:=by
 unfold zkB
 cases (!decide (quo l s=0))
 ·rfl
 ·show (sub l (mul s (quo l s))).length=_
  rw [zno (by rw [zby];exact h)]
theorem zhF {l s:Ji} (h:l.length=s.length) (i:Nat):vec (zkB l s) i=vec l i-vec s i*quo l s:=by
 unfold zkB
 by_cases q:quo l s=0
 ·rw [show (!decide (quo l s=0))=false by simp [q],q]
  show vec l i=_
  omega
 ·rw [show (!decide (quo l s=0))=true by simp [q]]
  show vec (sub l (mul s (quo l s))) i=_
  rw [zkR (by rw [zby];exact h),zdZ]
def Ech (n:Nat):Nat->Jq->Prop
 | _,[]=>True
 | lo,s :: ss=>s.length=n∧lo≤hd s∧hd s<n∧0<vec s (hd s)∧Ech n (hd s+1) ss
def SpL (ss:Jq):Vc->Prop:=Sp (λu=>∃ s∈ss,u=vec s)
theorem Ech.mono {n:Nat}:∀ {ss:Jq} {lo lo':Nat},Ech n lo ss->lo'≤lo->Ech n lo' ss
 | [],_,_,_,_=>trivial
 | s :: ss,lo,lo',h,k=>⟨h.1,Nat.le_trans k h.2.1,h.2.2⟩
theorem Ech.mem {n:Nat}:∀ {ss:Jq} {lo:Nat},Ech n lo ss->∀ t∈ss,t.length=n∧lo≤hd t∧hd t<n∧0<vec t (hd t)
 | [],_,_,t,h=>by simp at h
 | s :: ss,lo,h,t,ht=>by
  rcases List.mem_cons.mp ht with rfl | ht
  ·exact ⟨h.1,h.2.1,h.2.2.1,h.2.2.2.1⟩
  ·obtain ⟨a,b,c,d⟩:=Ech.mem h.2.2.2.2 t ht
   have:=h.2.1
   exact ⟨a,by omega,c,d⟩
theorem Ech.before {n lo i:Nat} {ss:Jq} (h:Ech n lo ss) (hi:i<lo):∀ t∈ss,vec t i=0:=λt ht=>zdb (by have:=(h.mem t ht).2.1;omega)
theorem SpL.before {n lo i:Nat} {ss:Jq} {u:Vc} (h:Ech n lo ss) (hi:i<lo) (hu:SpL ss u):u i=0:=Sp.at0 (λa ⟨s,hs,e⟩=>by rw [e];exact h.before hi s hs) hu
theorem SpL.cons {s:Ji} {ss:Jq} {u:Vc} (h:SpL (s :: ss) u):∃ w y,SpL ss w∧∀ i,u i=w i+y*vec s i:=by
 have:Sp (λu=>(∃ t∈ss,u=vec t)∨u=vec s) u:=Sp.mono (λa ⟨t,ht,e⟩=>by
  rcases List.mem_cons.mp ht with rfl | ht
  ·exact .inr e
  ·exact .inl ⟨t,ht,e⟩) h
 exact this.split
theorem SpL.mem {ss:Jq} {s:Ji} (h:s∈ss):SpL ss (vec s):=Sp.mem ⟨s,h,rfl⟩
theorem SpL.up {s:Ji} {ss:Jq} {u:Vc} (h:SpL ss u):SpL (s :: ss) u:=Sp.mono (λ_ ⟨t,ht,e⟩=>⟨t,List.mem_cons_of_mem _ ht,e⟩) h
theorem SpL.sub {ss tt:Jq} {u:Vc} (k:∀ s∈ss,SpL tt (vec s)) (h:SpL ss u):SpL tt u:=Sp.sub (λ_ ⟨s,hs,e⟩=>e ▸ k s hs) h
theorem zow {n:Nat}:∀ {ss:Jq} {lo:Nat} {u:Vc},Ech n lo ss->SpL ss u->(∀ t∈ss,0≤u (hd t)∧u (hd t)<vec t (hd t))->∀ i,u i=0
 | [],_,u,_,h,_,i=>Sp.at0 (λ_ ⟨_,z,_⟩=>by simp at z) h
 | s :: ss,lo,u,e,h,k,i=>by
  obtain ⟨w,y,hw,hu⟩:=h.cons
  have e1:=SpL.before e.2.2.2.2 (Nat.lt_succ_self (hd s)) hw
  have e2:=hu (hd s)
  have e3:=k s List.mem_cons_self
  have e4:=e.2.2.2.1
  rw [e1] at e2
  have y0:y=0:=by
   rw [e2,Int.zero_add] at e3
   refine Classical.byContradiction λq=>?_
   rcases Int.lt_or_gt_of_ne q with q | q
   ·have:=Int.mul_neg_of_neg_of_pos q e4
    omega
   ·have:=Int.mul_le_mul_of_nonneg_right (show (1:Int)≤y by omega) (Int.le_of_lt e4)
    omega
  have hu':∀ i,u i=w i:=λi=>by rw [hu i,y0];omega
  have:u=w:=funext hu'
  subst this
  exact zow e.2.2.2.2 hw (λt ht=>k t ↑69) i
theorem zks {n:Nat}:∀ {ss:Jq} {lo:Nat} {u:Vc} {t:Ji},Ech n lo ss->SpL ss u->t∈ss->(∀ i,i<hd t->u i=0)->vec t (hd t) ∣ u (hd t)
 | [],_,_,t,_,_,h,_=>by simp at h
 | s :: ss,lo,u,t,e,h,ht,k=>by
  obtain ⟨w,y,hw,hu⟩:=h.cons
  have e1:=SpL.before e.2.2.2.2 (Nat.lt_succ_self (hd s)) hw
  rcases List.mem_cons.mp ht with rfl | ht
  ·rw [hu,e1];exact ⟨y,by grind⟩
  ·have e5:=(Ech.mem e.2.2.2.2 t ht).2.1
   have e6:=hu (hd s)
   rw [k (hd s) ↑0,e1] at e6
   have y0:y=0:=(Int.mul_eq_zero.mp (show y*vec s (hd s)=0 by omega)).resolve_right (by have:=e.2.2.2.1;omega)
   have:u=w:=funext λi=>by rw [hu i,y0];omega
   subst this
   exact zks e.2.2.2.2 hw ht k
theorem zi1 {n:Nat}:∀ {ss:Jq} {lo:Nat} {u:Vc} {h:Nat},Ech n lo ss->SpL ss u->(∀ i,i<h->u i=0)->u h≠0->∃ t∈ss,hd t=h
 | [],_,u,h,_,hu,_,q=>(q (Sp.at0 (λ_ ⟨_,z,_⟩=>by simp at z) hu)).elim
 | s :: ss,lo,u,h,e,hu,k,q=>by
  obtain ⟨w,y,hw,hu⟩:=hu.cons
  by_cases z:hd s=h
  ·exact ⟨s,List.mem_cons_self,z⟩
  ·have e1:=SpL.before e.2.2.2.2 (Nat.lt_succ_self (hd s)) hw
   by_cases y0:y=0
   ·have:u=w:=funext λi=>by rw [hu i,y0];omega
    subst this
    obtain ⟨t,ht,e⟩:=zi1 e.2.2.2.2 hw k q
    exact ⟨t,List.mem_cons_of_mem _ ht,e⟩
   ·have e6:=hu (hd s)
    rw [e1,Int.zero_add] at e6
    have e7:u (hd s)≠0:=by
     rw [e6];intro z;rcases Int.mul_eq_zero.mp z with z | z
     ·exact y0 z
     ·have:=e.2.2.2.1;omega
    have e8:h<hd s:=Nat.lt_of_not_le λz'=>e7 (k _ ↑0)
    have e9:w h=0:=SpL.before e.2.2.2.2 (Nat.lt_succ_of_lt e8) hw
    rw [hu h,e9,zdb e8] at q
    simp at q
theorem ze1 {n:Nat}:∀ {ss:Jq} {lo:Nat} {l:Ji},Ech n lo ss->l.length=n →
  (low l ss).length=n∧SpL ss (λi=>vec l i-vec (low l ss) i)∧(∀ t∈ss,0≤vec (low l ss) (hd t)∧vec (low l ss) (hd t)<vec t (hd t))∧∀ i,i<lo->vec (low l ss) i=vec l i
 | [],lo,l,_,h=>⟨h,Sp.zero.conv λi=>by show (0:Int)=vec l i-vec l i;omega,by simp,λ_ _=>rfl⟩
 | s :: ss,lo,l,e,h=>by
  have hl:l.length=s.length:=by rw [h,e.1]
  obtain ⟨a,b,c,d⟩:=ze1 (l:=zkB l s) e.2.2.2.2 (by rw [ziQ hl,h])
  refine ⟨a,?_,λt ht=>?_,λi hi=>?_⟩
  ·refine ((SpL.up (s:=s) b).plus (((SpL.mem (ss:=s::ss) List.mem_cons_self)).smul (quo l s))).conv λi=>?_
   rw [zhF hl]
   show vec l i-vec s i*quo l s-vec (low (zkB l s) ss) i+quo l s*vec s i=vec l i-vec (low (zkB l s) ss) i
   rw [Int.mul_comm (quo l s)];omega
  ·rcases List.mem_cons.mp ht with rfl | ht
   ·show 0≤vec (low (zkB l t) ss) (hd t)∧vec (low (zkB l t) ss) (hd t)<_
    rw [d (hd t) (Nat.lt_succ_self _),zhF hl]
    have p:=e.2.2.2.1
    have e1:=Int.mul_ediv_add_emod (vec l (hd t)) (vec t (hd t))
    have e2:=Int.emod_nonneg (vec l (hd t)) (show vec t (hd t)≠0 by omega)
    have e3:=Int.emod_lt_of_pos (vec l (hd t)) p
    unfold quo
    omega
   ·exact c t ht
  ·show vec (low (zkB l s) ss) i=_
   have:=e.2.1
   rw [d i ↑0,zhF hl,zdb (show i<hd s by omega)];omega
abbrev G4:=Int×Int×Int×Int
def cmC (s:G4):Bool:=!decide (s.2.1=(0:Int))
def cmF (s:G4):G4:=(s.2.1,s.1-s.1/s.2.1*s.2.1,s.2.2.2,s.2.2.1-s.1/s.2.1*s.2.2.2)
structure GI (one other:Int) (s:G4):Prop where
 g:0<s.1
 m:0≤s.2.1
 gb:s.1≤one+other
 mb:s.2.1≤one+other
 tb:-other≤s.2.2.1∧s.2.2.1≤other
 lb:-other≤s.2.2.2∧s.2.2.2≤other
 sg:(0≤s.2.2.1∧s.2.2.2≤0∧s.2.1*s.2.2.1-s.1*s.2.2.2=other)∨(s.2.2.1≤0∧0≤s.2.2.2∧s.1*s.2.2.2-s.2.1*s.2.2.1=other)
 bg:∃ y,s.1=s.2.2.1*one+y*other
 bm:∃ y,s.2.1=s.2.2.2*one+y*other
 d1:∃ p q,one=p*s.1+q*s.2.1
 d2:∃ p q,other=p*s.1+q*s.2.1
theorem GI.start {one other:Int} (h1:0<one) (h2:0<other):GI one other (one,other,1,0) where
 g:=h1
 m:=by show 0≤other;omega
 gb:=by show one≤one+other;omega
 mb:=by show other≤one+other;omega
 tb:=by show -other≤1∧1≤other;omega
 lb:=by show -other≤0∧0≤other;omega
 sg:=.inl (by show (0:Int)≤1∧(0:Int)≤0∧other*1-one*0=other;omega)
 bg:=⟨0,by show one=1*one+0*other;omega⟩
 bm:=⟨1,by show other=0*one+1*other;omega⟩
 d1:=⟨1,0,by show one=1*one+0*other;omega⟩
 d2:=⟨0,1,by show other=0*one+1*other;omega⟩
theorem GI.step {one other:Int} {s:G4} (I:GI one other s) (hc:cmC s=true):GI one other (cmF s)∧(cmF s).2.1.toNat<s.2.1.toNat:=by
 obtain ⟨g,m,t,l⟩:=s
 obtain ⟨h1,h2,h3,h4,h5,h6,h7,⟨y1,h8⟩,⟨y2,h9⟩,⟨p1,q1,hA⟩,⟨p2,q2,hB⟩⟩:=I
 simp only at h1 h2 h3 h4 h5 h6 h7 h8 h9 hA hB
 have hm:0<m:=by
  unfold cmC at hc
  simp only [Bool.not_eq_true',decide_eq_false_iff_not] at hc
  omega
 have e1:=Int.mul_ediv_add_emod g m
 have e2:=Int.emod_nonneg g (show m≠0 by omega)
 have e3:=Int.emod_lt_of_pos g hm
 have e4:0≤g/m:=Int.ediv_nonneg ↑0 ↑0
 have e5:g-g/m*m=g%m:=by rw [Int.mul_comm];omega
 show GI one other (m,g-g/m*m,l,t-g/m*l)∧(g-g/m*m).toNat<m.toNat
 rw [e5]
 generalize hq:g/m=q at *
 generalize hr:g%m=r at *
 have eg:g=m*q+r:=by omega
 have sg:(0≤l∧t-q*l≤0∧r*l-m*(t-q*l)=other)∨(l≤0∧0≤t-q*l∧m*(t-q*l)-r*l=other):=by
  rcases h7 with ⟨a,b,c⟩ | ⟨a,b,c⟩
  ·refine .inr ⟨b,?_,by grind⟩
   have:=Int.mul_nonneg e4 (show (0:Int)≤-l by omega)
   grind
  ·refine .inl ⟨b,?_,by grind⟩
   have:=Int.mul_nonneg e4 b
   omega
 have hl:-other≤t-q*l∧t-q*l≤other:=by
  rcases sg with ⟨a,b,c⟩ | ⟨a,b,c⟩
  ·have k1:=Int.mul_nonneg e2 a
   have k2:=Int.mul_le_mul_of_nonneg_right (show (1:Int)≤m by omega) (show (0:Int)≤-(t-q*l) by omega)
   have k3:m*-(t-q*l)=-(m*(t-q*l)):=by grind
   rw [k3] at k2
   omega
  ·have k1:=Int.mul_nonneg e2 (show (0:Int)≤-l by omega)
   have k2:=Int.mul_le_mul_of_nonneg_right (show (1:Int)≤m by omega) b
   have k3:r*-l=-(r*l):=by grind
   rw [k3] at k1
   omega
 refine ⟨⟨hm,e2,h4,by show r≤_;omega,h6,hl,sg,⟨y2,h9⟩,⟨y1-q*y2,?_⟩,⟨p1*q+q1,p1,?_⟩,⟨p2*q+q2,p2,?_⟩⟩,by omega⟩
 ·show r=(t-q*l)*one+(y1-q*y2)*other
  grind
 ·show one=(p1*q+q1)*m+p1*r
  grind
 ·show other=(p2*q+q2)*m+p2*r
  grind
structure Cm (one other g x y:Int):Prop where
 pos:0<g
 le:g≤one+other
 xb:-other≤x∧x≤other
 eq:g=x*one+y*other
 d1:one/g*g=one
 d2:other/g*g=other
theorem GI.done {one other:Int} {s:G4} (h2:0<other) (I:GI one other s) (hc:cmC s=false):Cm one other s.1 s.2.2.1 ((s.1-s.2.2.1*one)/other):=by
 obtain ⟨g,m,t,l⟩:=s
 obtain ⟨h1,_,h3,_,h5,_,_,⟨y1,h8⟩,_,⟨p1,q1,hA⟩,⟨p2,q2,hB⟩⟩:=I
 simp only at h1 h3 h5 h8 hA hB
 have hm:m=0:=by
  unfold cmC at hc
  simpa using hc
 subst hm
 have e:(g-t*one)/other=y1:=by
  rw [show g-t*one=y1*other by omega]
  exact Int.mul_ediv_cancel _ ↑0
 refine ⟨h1,h3,h5,?_,?_,?_⟩
 ·show g=t*one+(g-t*one)/other*other
  rw [e];exact h8
 ·exact Int.ediv_mul_cancel ⟨p1,by show one=g*p1;rw [Int.mul_comm];omega⟩
 ·exact Int.ediv_mul_cancel ⟨p2,by show other=g*p2;rw [Int.mul_comm];omega⟩
def mg1 (s l:Ji) (x y:Int):Ji:=add (mul s x) (mul l y)
def mg2 (s l:Ji) (g:Int):Ji:=sub (mul l (vec s (hd s)/g)) (mul s (vec l (hd s)/g))
theorem zhZ {s l:Ji} {x y:Int} (h:s.length=l.length) (i:Nat):vec (mg1 s l x y) i=x*vec s i+y*vec l i:=by
 unfold mg1
 rw [zkC (by rw [zby,zby,h]),zdZ,zdZ,Int.mul_comm,Int.mul_comm (vec l i)]
theorem zjr {s l:Ji} {g:Int} (h:s.length=l.length) (i:Nat):vec (mg2 s l g) i=vec s (hd s)/g*vec l i-vec l (hd s)/g*vec s i:=by
 unfold mg2
 rw [zkR (by rw [zby,zby,h]),zdZ,zdZ,Int.mul_comm,Int.mul_comm (vec s i)]
theorem znb {s l:Ji} {x y:Int} (h:s.length=l.length):((mg1 s l x y)).length=s.length:=by unfold mg1;rw [zku (by rw [zby,zby,h]),zby]
theorem znj {s l:Ji} {g:Int} (h:s.length=l.length):((mg2 s l g)).length=s.length:=by unfold mg2;rw [zno (by rw [zby,zby,h]),zby,h]
theorem znr {s l:Ji} {g x y:Int} (h:s.length=l.length) (C:Cm (vec s (hd s)) (vec l (hd s)) g x y) (i:Nat) :
  vec s i=vec s (hd s)/g*vec (mg1 s l x y) i-y*vec (mg2 s l g) i∧vec l i=vec l (hd s)/g*vec (mg1 s l x y) i+x*vec (mg2 s l g) i:=by
 rw [zhZ h,zjr h]
 have e1:=C.eq
 have e2:=C.d1
 have e3:=C.d2
 have e4:=C.pos
 generalize vec s (hd s)=a at *
 generalize vec l (hd s)=b at *
 generalize a/g=p at *
 generalize b/g=q at *
 have u:x*p+y*q=1:=by
  have:(x*p+y*q-1)*g=0:=by grind
  rcases Int.mul_eq_zero.mp this with z | z<;>omega
 constructor<;>grind
def upr (l:Ji):Ji:=bif decide (vec l (hd l)<(0:Int)) then mul l ⇑7 else l
theorem zmU {l:Ji}:(upr l).length=l.length:=by
 unfold upr
 cases decide (vec l (hd l)<(0:Int))
 ·rfl
 ·exact zby
theorem zkA {l:Ji}:∃ c:Int,c*c=1∧(∀ i,vec (upr l) i=c*vec l i)∧0≤c*vec l (hd l):=by
 unfold upr
 by_cases q:vec l (hd l)<0
 ·rw [show decide (vec l (hd l)<(0:Int))=true by simp [q]]
  exact ⟨-1,by decide,λi=>by show vec (mul l ⇑7) i=_;rw [zdZ];omega,by omega⟩
 ·rw [show decide (vec l (hd l)<(0:Int))=false by simp [q]]
  exact ⟨1,by decide,λi=>by show vec l i=_;omega,by omega⟩
theorem zp0 {l:Ji} (h:hd l<l.length):hd (upr l)=hd l∧0<vec (upr l) (hd l):=by
 obtain ⟨c,c1,c2,c3⟩:=zkA (l:=l)
 have e:=zja h
 have c0:c≠0:=by intro z;subst z;simp at c1
 have e1:c*vec l (hd l)≠0:=λz=>by
  rcases Int.mul_eq_zero.mp z with z | z
  ·exact c0 z
  ·exact e z
 refine ⟨zq2 (by rw [c2];exact e1) λi hi=>by rw [c2,zdb hi];simp,by rw [c2];omega⟩
theorem zpK {l:Ji} {ss:Jq} (h:SpL ss (vec l)):SpL ss (vec (upr l)):=by
 obtain ⟨c,_,c2,_⟩:=zkA (l:=l)
 exact (Sp.smul c h).conv λi=>(c2 i).symm
theorem zn5 {l:Ji} {ss:Jq} (h:SpL ss (vec (upr l))):SpL ss (vec l):=by
 obtain ⟨c,c1,c2,_⟩:=zkA (l:=l)
 exact (Sp.smul c h).conv λi=>by rw [c2,← Int.mul_assoc,c1,Int.one_mul]
structure Mg where
 f:Int->Int->Int×Int×Int
 ok:∀ a b:Int,0<a->0<b->Cm a b (f a b).1 (f a b).2.1 (f a b).2.2
def tin (M:Mg):Jq->Ji->Jq
 | [],l=>bif decide (hd l<l.length) then [upr l] else []
 | s :: ss,l=>bif decide (hd l<hd s) then upr l :: s :: ss else
   bif decide (hd l=hd s) then mg1 s l (↑193).2.1 (↑193).2.2 :: tin M ss (low (mg2 s l (↑193).1) ss) else s :: tin M ss l
theorem zhH (M:Mg) {n:Nat}:∀ {ss:Jq} {lo:Nat} {l:Ji},Ech n lo ss->l.length=n->(∀ i,i<lo->vec l i=0)->(∀t∈ss,0≤vec l (hd t)∧vec l (hd t)<vec t (hd t))->lo≤n →
  Ech n lo (tin M ss l)∧(tin M ss l).length≤ss.length+1∧(∀ t∈tin M ss l,SpL (l :: ss) (vec t))∧(∀ t∈l :: ss,SpL (tin M ss l) (vec t))
 | [],lo,l,_,hl,h0,_,hlo=>by
  unfold tin
  by_cases q:hd l<l.length
  ·rw [show decide (hd l<l.length)=true by simp [q],cond_true]
   obtain ⟨e1,e2⟩:=zp0 q
   refine ⟨⟨by rw [zmU,hl],by rw [e1];exact zsO ↑0 h0,by rw [e1];omega,by rw [e1];exact e2,trivial⟩,by simp,λt ht=>?_,λt ht=>?_⟩
   ·rw [List.mem_singleton.mp ht];exact zpK (SpL.mem List.mem_cons_self)
   ·rw [List.mem_singleton.mp ht];exact zn5 (SpL.mem List.mem_cons_self)
  ·rw [show decide (hd l<l.length)=false by simp [q],cond_false]
   have hz:hd l=l.length:=by have:=ztq (l:=l);omega
   refine ⟨trivial,by simp,by simp,λt ht=>?_⟩
   rw [List.mem_singleton.mp ht]
   exact Sp.zero.conv λi=>by
    by_cases z:i<l.length
    ·rw [zdb ↑0]
    ·rw [zda ↑0]
 | s :: ss,lo,l,e,hl,h0,hr,hlo=>by
  unfold tin
  have hsl:s.length=l.length:=by rw [e.1,hl]
  by_cases q:hd l<hd s
  ·rw [show decide (hd l<hd s)=true by simp [q],cond_true]
   have hsn:=e.2.2.1
   obtain ⟨e1,e2⟩:=zp0 (l:=l) ↑0
   refine ⟨⟨by rw [zmU,hl],by rw [e1];exact zsO ↑0 h0,by rw [e1];omega,by rw [e1];exact e2,e.1,by rw [e1];omega,e.2.2⟩,by simp,λt ht=>?_,λt ht=>?_⟩
   ·rcases List.mem_cons.mp ht with rfl | ht
    ·exact zpK (SpL.mem List.mem_cons_self)
    ·exact SpL.mem ↑69
   ·rcases List.mem_cons.mp ht with rfl | ht
    ·exact zn5 (SpL.mem List.mem_cons_self)
    ·exact SpL.mem ↑69
  ·rw [show decide (hd l<hd s)=false by simp [q],cond_false]
   by_cases z:hd l=hd s
   ·rw [show decide (hd l=hd s)=true by simp [z],cond_true]
    have hb:0<vec l (hd s):=by
     have:=(hr s List.mem_cons_self).1
     have:=zja (l:=l) (by rw [z,hl];exact e.2.2.1)
     rw [z] at this;omega
    have C:=M.ok _ _ e.2.2.2.1 hb
    generalize hg:(↑193).1=g at *
    generalize hx:(↑193).2.1=x at *
    generalize hy:(↑193).2.2=y at *
    have f0:∀ i,i<hd s->vec (mg1 s l x y) i=0:=λi hi=>by rw [zhZ hsl,zdb hi,zdb (show i<hd l by omega)];omega
    have f1:vec (mg1 s l x y) (hd s)=g:=by rw [zhZ hsl];exact C.eq.symm
    have f2:hd (mg1 s l x y)=hd s:=zq2 (by rw [f1];have:=C.pos;omega) f0
    have g0:∀ i,i<hd s+1->vec (mg2 s l g) i=0:=λi hi=>by
     rw [zjr hsl]
     by_cases zi:i=hd s
     ·subst zi
      have:=C.d1;have:=C.d2
      generalize vec s (hd s)/g=p at *
      generalize vec l (hd s)/g=r at *
      generalize vec s (hd s)=a at *
      generalize vec l (hd s)=b at *
      grind
     ·rw [zdb (show i<hd s by omega),zdb (show i<hd l by omega)];omega
    obtain ⟨k1,k2,k3,k4⟩:=ze1 (l:=mg2 s l g) e.2.2.2.2 (by rw [znj hsl,e.1])
    obtain ⟨i1,i2,i3,i4⟩:=zhH M (l:=low (mg2 s l g) ss) e.2.2.2.2 k1 (λi hi=>by rw [k4 i hi,g0 i hi]) k3 (by have:=e.2.2.1;omega)
    have low_in:∀ {tt:Jq},(∀ t∈ss,SpL tt (vec t))->SpL tt (vec (mg2 s l g))->SpL tt (vec (low (mg2 s l g) ss)):=λh1 h2=>(Sp.lin 1 (-1) h2 (k2.sub h1)).conv λi=>by omega
    have low_out:∀ {tt:Jq},(∀ t∈ss,SpL tt (vec t))->SpL tt (vec (low (mg2 s l g) ss))->SpL tt (vec (mg2 s l g)):=λh1 h2=>(Sp.plus h2 (k2.sub h1)).conv λi=>by omega
    have hS:SpL (l :: s :: ss) (vec s):=SpL.mem (List.mem_cons_of_mem _ List.mem_cons_self)
    have hL:SpL (l :: s :: ss) (vec l):=SpL.mem List.mem_cons_self
    refine ⟨⟨by rw [znb hsl,e.1],by rw [f2];exact e.2.1,by rw [f2];exact e.2.2.1,by rw [f2,f1];exact C.pos,by rw [f2];exact i1⟩,by simp only [List.length_cons];omega,λt ht=>?_,λt ht=>?_⟩
    ·rcases List.mem_cons.mp ht with rfl | ht
     ·exact (Sp.lin x y hS hL).conv λi=>(zhZ hsl i).symm
     ·refine (i3 t ht).sub λv hv=>?_
      rcases List.mem_cons.mp hv with rfl | hv
      ·refine low_in (λt ht=>SpL.mem (List.mem_cons_of_mem _ ↑69)) ((Sp.lin (vec s (hd s)/g) (-(vec l (hd s)/g)) hL hS).conv λi=>?_)
       rw [zjr hsl];grind
      ·exact SpL.mem (List.mem_cons_of_mem _ ↑232)
    ·have u1:∀ v∈low (mg2 s l g) ss :: ss,SpL (mg1 s l x y::tin M ss (low (mg2 s l g) ss)) (vec v):=λv hv=>(i4 v hv).up
     have u2:=low_out (λt ht=>u1 t ↑69) (u1 _ List.mem_cons_self)
     have u3:SpL (mg1 s l x y::tin M ss (low (mg2 s l g) ss)) (vec (mg1 s l x y)):=SpL.mem List.mem_cons_self
     rcases List.mem_cons.mp ht with rfl | ht
     ·exact (Sp.lin (vec t (hd s)/g) x u3 u2).conv λi=>((znr hsl C i).2).symm
     ·rcases List.mem_cons.mp ht with rfl | ht
      ·exact (Sp.lin (vec t (hd t)/g) (-y) u3 u2).conv λi=>by rw [(znr hsl C i).1];grind
      ·exact u1 t ↑69
   ·rw [show decide (hd l=hd s)=false by simp [z],cond_false]
    obtain ⟨i1,i2,i3,i4⟩:=zhH M (l:=l) e.2.2.2.2 hl (λi hi=>zdb ↑0) (λt ht=>hr t ↑69) (by have:=e.2.2.1;omega)
    refine ⟨⟨e.1,e.2.1,e.2.2.1,e.2.2.2.1,i1⟩,by simp only [List.length_cons];omega,λt ht=>?_,λt ht=>?_⟩
    ·rcases List.mem_cons.mp ht with rfl | ht
     ·exact SpL.mem (List.mem_cons_of_mem _ List.mem_cons_self)
     ·refine (i3 t ht).sub λv hv=>?_
      rcases List.mem_cons.mp hv with rfl | hv
      ·exact SpL.mem List.mem_cons_self
      ·exact SpL.mem (List.mem_cons_of_mem _ ↑232)
    ·rcases List.mem_cons.mp ht with rfl | ht
     ·exact (i4 t List.mem_cons_self).up
     ·rcases List.mem_cons.mp ht with rfl | ht
      ·exact SpL.mem List.mem_cons_self
      ·exact (i4 t ↑69).up
def stl:Jq->Jq
 | []=>[]
 | s :: ss=>low s (stl ss) :: stl ss
def Red:Jq->Prop
 | []=>True
 | s :: ss=>(∀ t∈ss,0≤vec s (hd t)∧vec s (hd t)<vec t (hd t))∧Red ss
theorem zlJ {n:Nat}:∀ {ss:Jq} {lo:Nat},Ech n lo ss->Ech n lo (stl ss)∧Red (stl ss)∧(stl ss).length=ss.length∧(∀ t∈stl ss,SpL ss (vec t))∧∀ t∈ss,SpL (stl ss) (vec t)
 | [],_,_=>⟨trivial,trivial,rfl,by simp [stl],by simp⟩
 | s :: ss,lo,e=>by
  obtain ⟨a,b,c,d,f⟩:=zlJ e.2.2.2.2
  obtain ⟨k1,k2,k3,k4⟩:=ze1 (l:=s) a e.1
  have h1:hd (low s (stl ss))=hd s:=zq2 (by rw [k4 _ (Nat.lt_succ_self _)];have:=e.2.2.2.1;omega) λi hi=>by rw [k4 _ ↑0,zdb hi]
  refine ⟨⟨k1,by rw [h1];exact e.2.1,by rw [h1];exact e.2.2.1,by rw [h1,k4 _ (Nat.lt_succ_self _)];exact e.2.2.2.1,by rw [h1];exact a⟩,⟨k3,b⟩,by simp [stl,c],λt ht=>?_,λt ht=>?_⟩
  ·rcases List.mem_cons.mp ht with rfl | ht
   ·exact (Sp.lin 1 (-1) (SpL.mem (ss:=s::ss) List.mem_cons_self) (k2.sub λv hv=>(d v hv).up)).conv λi=>by omega
   ·exact (d t ht).up
  ·rcases List.mem_cons.mp ht with rfl | ht
   ·exact (Sp.plus (SpL.mem (ss:=stl (t :: ss)) (s:=low t (stl ss)) List.mem_cons_self) (k2.sub λv hv=>SpL.mem ↑232)).conv λi=>by omega
   ·exact (f t ht).up
def clm (M:Mg) (rows:Jq):Jq:=rows.foldl (λss r=>stl (tin M ss (low r ss))) []
structure Stairs (n:Nat) (rows ss:Jq):Prop where
 ech:Ech n 0 ss
 red:Red ss
 inn:∀ t∈ss,SpL rows (vec t)
 out:∀ r∈rows,SpL ss (vec r)
theorem Stairs.nil {n:Nat}:Stairs n [] []:=⟨trivial,trivial,by simp,by simp⟩
theorem Stairs.step {n:Nat} {rows ss:Jq} {r:Ji} (M:Mg) (h:Stairs n rows ss) (hr:r.length=n):Stairs n (rows++[r]) (stl (tin M ss (low r ss)))∧(stl (tin M ss (low r ss))).length≤ss.length+1:=by
 obtain ⟨k1,k2,k3,_⟩:=ze1 (l:=r) h.ech hr
 obtain ⟨t1,t2,t3,t4⟩:=zhH M h.ech k1 (λi hi=>absurd hi (Nat.not_lt_zero i)) k3 (Nat.zero_le n)
 obtain ⟨s1,s2,s3,s4,s5⟩:=zlJ t1
 have inn:∀ t∈ss,SpL (rows++[r]) (vec t):=λt ht=>(h.inn t ht).sub λv hv=>SpL.mem (List.mem_append_left _ hv)
 have hr':SpL (rows++[r]) (vec r):=SpL.mem (List.mem_append_right _ List.mem_cons_self)
 have f1:∀ t∈low r ss :: ss,SpL (stl (tin M ss (low r ss))) (vec t):=λt ht=>(t4 t ht).sub s5
 refine ⟨⟨s1,s2,λt ht=>(s4 t ht).sub λv hv=>(t3 v hv).sub λw hw=>?_,λt ht=>?_⟩,by rw [s3];exact t2⟩
 ·rcases List.mem_cons.mp hw with rfl | hw
  ·exact (Sp.lin 1 (-1) hr' (k2.sub inn)).conv λi=>by omega
  ·exact inn w hw
 ·rcases List.mem_append.mp ht with ht | ht
  ·exact (h.out t ht).sub λv hv=>f1 v ↑232
  ·rw [List.mem_singleton.mp ht]
   exact (Sp.plus (f1 _ List.mem_cons_self) (k2.sub λv hv=>f1 v ↑232)).conv λi=>by omega
theorem zn9 {n:Nat}:∀ {ss:Jq} {lo:Nat},Ech n lo ss->Red ss->∀ t∈ss,∀ t'∈ss,hd t'<hd t∨t=t'∨(0≤vec t (hd t')∧vec t (hd t')<vec t' (hd t'))
 | [],_,_,_,t,h,_,_=>by simp at h
 | s :: ss,lo,e,r,t,ht,t',ht'=>by
  rcases List.mem_cons.mp ht with h1 | h1
  ·rcases List.mem_cons.mp ht' with h2 | h2
   ·exact .inr (.inl (h1.trans h2.symm))
   ·rw [h1];exact .inr (.inr (r.1 t' h2))
  ·rcases List.mem_cons.mp ht' with h2 | h2
   ·rw [h2]
    have:=(Ech.mem e.2.2.2.2 t h1).2.1
    exact .inl ↑0
   ·exact zn9 e.2.2.2.2 r.2 t h1 t' h2
theorem znU {n:Nat}:∀ {ss:Jq} {lo:Nat},Ech n lo ss->lo≤n->ss.length+lo≤n
 | [],_,_,h=>by simpa using h
 | s :: ss,lo,e,h=>by
  have:=znU e.2.2.2.2 (by have:=e.2.2.1;omega)
  have:=e.2.1
  simp only [List.length_cons]
  omega
abbrev Rw (rows:Jq):Vc->Prop:=λu=>∃ r∈rows,u=vec r
theorem zll {B E R:Nat} (hE:bnd R B B≤E):∀ (k:Nat) (rows:Jq),rows.length=k->k≤R+1->(∀ r∈rows,∀ x∈r,x.natAbs≤B)->∃ hs as,Wit (Rw rows) B E hs as∧as.length≤rows.length
 | 0,rows,h,_,_=>by
  rw [List.length_eq_zero_iff.mp h]
  refine ⟨[],[],?_,by simp⟩
  have e:Rw []=λ_=>False:=funext λu=>propext ⟨λ⟨_,z,_⟩=>by simp at z,λz=>z.elim⟩
  rw [e]
  exact Wit.nil
 | k+1,rows,h,hk,hb=>by
  have hne:rows≠[]:=by intro z;rw [z] at h;simp at h
  obtain ⟨rs,r,rfl⟩:∃ rs r,rows=rs++[r]:=⟨rows.dropLast,rows.getLast hne,(List.dropLast_concat_getLast hne).symm⟩
  have hl:rs.length=k:=by simpa using h
  obtain ⟨hs,as,W,h1⟩:=zll hE k rs hl ↑0 λr hr=>hb r (List.mem_append_left _ hr)
  obtain ⟨hs',as',W',h2⟩:=W.step (a:=vec r) (λi=>zpZ (hb r (List.mem_append_right _ List.mem_cons_self)) i) (Nat.le_trans (zlG ↑0) hE)
  refine ⟨hs',as',?_,by simp only [List.length_append,List.length_singleton];omega⟩
  have e:Rw (rs++[r])=λu=>Rw rs u∨u=vec r:=funext λu=>propext ⟨λ⟨s,hs,e⟩=>by
   rcases List.mem_append.mp hs with z | z
   ·exact .inl ⟨s,z,e⟩
   ·rw [List.mem_singleton.mp z] at e;exact .inr e,λz=>by
   rcases z with ⟨s,hs,e⟩ | z
   ·exact ⟨s,List.mem_append_left _ hs,e⟩
   ·exact ⟨r,List.mem_append_right _ List.mem_cons_self,z⟩⟩
  rw [e]
  exact W'
theorem Stairs.wit {n B E:Nat} {rows ss:Jq} {hs:List Nat} {as:List Vc} (h:Stairs n rows ss) (W:Wit (Rw rows) B E hs as) (hBE:B≤E):∀ t∈ss,((vec t (hd t))).natAbs≤E∧∀ i,(vec t i).natAbs≤bnd as.length B E:=by
 have hd1:∀ t∈ss,((vec t (hd t))).natAbs≤E:=λt ht=>by
  obtain ⟨m1,m2,m3,m4⟩:=h.ech.mem t ht
  obtain ⟨v,v1,v2,v3,v4⟩:=W.hd _ (W.head (h.inn t ht) (λi hi=>zdb hi) ↑0)
  have d:=zks h.ech (v1.sub λa ⟨r,hr,e⟩=>e ▸ h.out r hr) ht v2
  exact Nat.le_trans (Nat.le_of_dvd (Int.natAbs_pos.mpr v3) (Int.natAbs_dvd_natAbs.mpr d)) (v4 _)
 refine λt ht=>⟨hd1 t ht,λi=>W.small hBE (h.inn t ht) (λg hg=>?_) i⟩
 obtain ⟨v,v1,v2,v3,v4⟩:=W.hd g hg
 obtain ⟨t',ht',rfl⟩:=zi1 h.ech (v1.sub λa ⟨r,hr,e⟩=>e ▸ h.out r hr) v2 v3
 rcases zn9 h.ech h.red t ht t' ht' with z | rfl | ⟨z1,z2⟩
 ·rw [zdb z];exact Nat.zero_le _
 ·exact hd1 t ht
 ·have:=hd1 t' ht';omega
theorem zlL {k R b c:Nat} (hk:k≤R) (hR:R≤31) (hbc:b≤c):bnd k (2^b) (2^c)≤2^((c+7)*(R+1)):=by
 refine Nat.le_trans (zlG hk) ?_
 unfold bnd
 have h1:R+1≤2^5:=by omega
 have h2:2*((R+1)*2^c)+1≤2^(c+7):=by
  have e1:(R+1)*2^c≤2^5*2^c:=Nat.mul_le_mul_right _ h1
  have e2:2^(c+7)=4*(2^5*2^c):=by rw [Nat.pow_add];omega
  have e3:0<2^c:=Nat.pow_pos ↑1
  omega
 calc (R+1)*((2*((R+1)*2^c)+1)^R*2^b)≤2^5*((2^(c+7))^R*2^b):=Nat.mul_le_mul h1 (Nat.mul_le_mul_right _ (Nat.pow_le_pow_left h2 _))
  _=2^(5+((c+7)*R+b)):=by rw [← Nat.pow_mul,← Nat.pow_add,← Nat.pow_add]
  _≤2^((c+7)*(R+1)):=Nat.pow_le_pow_right ↑1 (by rw [Nat.mul_add];omega)
def Bit (a:Nat) (l:Ji):Prop:=∀ x∈l,x.natAbs≤2^a
theorem Bit.vec {a:Nat} {l:Ji} (h:Bit a l) (i:Nat):(vec l i).natAbs≤2^a:=zpZ h i
theorem Bit.of {a:Nat} {l:Ji} (h:∀ i,(Lat.vec l i).natAbs≤2^a):Bit a l:=λx hx=>by
 obtain ⟨i,_,rfl⟩:=zmN hx
 exact h i
theorem Bit.mono {a b:Nat} {l:Ji} (h:Bit a l) (k:a≤b):Bit b l:=λx hx=>Nat.le_trans (h x hx) (Nat.pow_le_pow_right ↑1 k)
def eB (b R:Nat):Nat:=(b+7)*(R+1)
def sB (b R:Nat):Nat:=(eB b R+7)*(R+1)
theorem Stairs.bits {n b R:Nat} {rows ss:Jq} (h:Stairs n rows ss) (hR:R≤31) (hr:rows.length≤R) (hb:∀ r∈rows,Bit b r):∀ t∈ss,((vec t (hd t))).natAbs≤2^eB b R∧Bit (sB b R) t:=by
 obtain ⟨hs,as,W,hl⟩:=zll (B:=2^b) (E:=2^eB b R) (R:=R) (zlL ↥8 hR ↥8) rows.length rows rfl ↑0 hb
 have e:b≤eB b R:=by unfold eB;exact Nat.le_trans ↑0 (Nat.le_mul_of_pos_right _ (Nat.succ_pos R))
 refine λt ht=>?_
 obtain ⟨a1,a2⟩:=h.wit W (Nat.pow_le_pow_right ↑1 e) t ht
 exact ⟨a1,Bit.of λi=>Nat.le_trans (a2 i) (zlL (Nat.le_trans hl hr) hR e)⟩
theorem zfX {x y a b:Nat} (h1:x≤2^a) (h2:y≤2^b):x*y≤2^(a+b):=by rw [Nat.pow_add];exact Nat.mul_le_mul h1 h2
theorem zhI {x d:Int} (_h:0<d):(x/d).natAbs≤x.natAbs:=by
 have:=Int.natAbs_ediv_le_natAbs x d
 exact this
structure Sd (n s:Nat) (t:Ji):Prop where
 len:t.length=n
 hd:hd t<n
 pos:0<vec t (Lat.hd t)
 top:(vec t (Lat.hd t)).natAbs≤2^8980
 bit:Bit s t
theorem zpp {n s a:Nat} {l t:Ji} (T:Sd n s t) (hb:Bit a l):(quo l t).natAbs≤2^a:=Nat.le_trans (zhI T.pos) (hb.vec _)
theorem zlp {n s a:Nat} {l t:Ji} (T:Sd n s t) (hl:l.length=n) (hb:Bit a l):Bit (a+(s+1)) (zkB l t):=Bit.of λi=>by
 rw [zhF (by rw [hl,T.len])]
 have e1:=hb.vec i
 have e2:(vec t i*quo l t).natAbs≤2^(s+a):=by rw [Int.natAbs_mul];exact zfX (T.bit.vec i) (zpp T hb)
 have e3:2^a≤2^(s+a):=Nat.pow_le_pow_right ↑1 ↑0
 have e4:2^(a+(s+1))=2^(s+a)+2^(s+a):=by rw [show a+(s+1)=(s+a)+1 by omega,Nat.pow_succ];omega
 omega
theorem zie {n s:Nat}:∀ {ss:Jq} {a:Nat} {l:Ji},(∀ t∈ss,Sd n s t)->l.length=n->Bit a l->Bit (a+ss.length*(s+1)) (low l ss)
 | [],a,l,_,_,h=>by simpa [low] using h
 | t :: ss,a,l,T,hl,h=>by
  have T1:=T t List.mem_cons_self
  have:=zie (ss:=ss) (λt ht=>T t ↑69) (by rw [ziQ (by rw [hl,T1.len]),hl]) (zlp T1 hl h)
  refine Bit.mono this ?_
  rw [List.length_cons,Nat.succ_mul]
  omega
theorem Cm.bd {one other g x y:Int} (C:Cm one other g x y) (h2:0<other) (hy:y=(g-x*one)/other) {c:Nat} (b1:one.natAbs≤2^c) (b2:other.natAbs≤2^c):g.natAbs≤2^(c+1)∧x.natAbs≤2^c∧y.natAbs≤2^(2*c+2):=by
 have e1:=C.le
 have e2:=C.xb
 have e3:=C.pos
 have g1:g.natAbs≤2^(c+1):=by
  rw [Nat.pow_succ]
  omega
 have x1:x.natAbs≤2^c:=by omega
 refine ⟨g1,x1,?_⟩
 rw [hy]
 refine Nat.le_trans (zhI h2) ?_
 have e4:(x*one).natAbs≤2^(c+c):=by rw [Int.natAbs_mul];exact zfX x1 b1
 have e5:2^(c+1)≤2^(c+c+1):=Nat.pow_le_pow_right ↑1 ↑0
 have e6:2^(2*c+2)=2^(c+c+1)+2^(c+c+1):=by rw [show 2*c+2=(c+c+1)+1 by omega,Nat.pow_succ];omega
 have e7:2^(c+c)≤2^(c+c+1):=Nat.pow_le_pow_right ↑1 ↑0
 omega
theorem zhh {a g:Int} (hg:0<g) {c:Nat} (h:a.natAbs≤2^c):(a/g).natAbs≤2^c:=Nat.le_trans (zhI hg) h
theorem zqS {n s a:Nat} {l t:Ji} {g x y:Int} (T:Sd n s t) (hl:l.length=n) (hb:Bit a l) (C:Cm (vec t (hd t)) (vec l (hd t)) g x y) (hlt:vec l (hd t)<vec t (hd t)) (h0:0≤vec l (hd t)):Bit (a+(s+8982)) (mg2 t l g):=Bit.of λi=>by
 rw [zjr (by rw [hl,T.len])]
 have e1:(vec t (hd t)/g*vec l i).natAbs≤2^(8980+a):=by rw [Int.natAbs_mul];exact zfX (zhh C.pos T.top) (hb.vec i)
 have e2:(vec l (hd t)/g*vec t i).natAbs≤2^(8980+s):=by rw [Int.natAbs_mul];exact zfX (zhh C.pos (by have:=T.top;omega)) (T.bit.vec i)
 have e3:2^(8980+a)≤2^(a+(s+8981)):=Nat.pow_le_pow_right ↑1 ↑0
 have e4:2^(8980+s)≤2^(a+(s+8981)):=Nat.pow_le_pow_right ↑1 ↑0
 have e5:2^(a+(s+8982))=2^(a+(s+8981))+2^(a+(s+8981)):=by rw [show a+(s+8982)=(a+(s+8981))+1 by omega,Nat.pow_succ];omega
 omega
theorem zqj {n s a:Nat} {l t:Ji} {x y:Int} (T:Sd n s t) (hl:l.length=n) (hb:Bit a l) (hx:x.natAbs≤2^8980) (hy:y.natAbs≤2^17962):Bit (a+(s+17964)) (mg1 t l x y):=Bit.of λi=>by
 rw [zhZ (by rw [hl,T.len])]
 have e1:(x*vec t i).natAbs≤2^(8980+s):=by rw [Int.natAbs_mul];exact zfX hx (T.bit.vec i)
 have e2:(y*vec l i).natAbs≤2^(17962+a):=by rw [Int.natAbs_mul];exact zfX hy (hb.vec i)
 have e3:2^(8980+s)≤2^(a+(s+17963)):=Nat.pow_le_pow_right ↑1 ↑0
 have e4:2^(17962+a)≤2^(a+(s+17963)):=Nat.pow_le_pow_right ↑1 ↑0
 have e5:2^(a+(s+17964))=2^(a+(s+17963))+2^(a+(s+17963)):=by rw [show a+(s+17964)=(a+(s+17963))+1 by omega,Nat.pow_succ];omega
 omega
theorem znp {a:Nat} {l:Ji} (h:Bit a l):Bit a (upr l):=by
 unfold upr
 cases decide (vec l (hd l)<(0:Int))
 ·exact h
 ·exact Bit.of λi=>by
   show (vec (mul l ⇑7) i).natAbs≤_
   rw [zdZ]
   have:=h.vec i
   omega
open L2
theorem zb2 (l:Ji) (k:Nat):ixD l (k:Int)=vec l k:=by
 by_cases h:k<l.length
 ·rw [zbU (List.getElem?_eq_getElem h)]
  simp [vec,List.getD_eq_getElem?_getD,List.getElem?_eq_getElem h]
 ·rw [zda ↑0]
  unfold ixD atI ixN
  rw [if_pos ↑0,if_neg ↑0]
  rfl
theorem zgV {lo:Int} {n:Nat}:zbf lo (n+1)=lo :: zbf (lo+1) n:=by
 unfold zbf
 rw [List.range_succ_eq_map,List.map_cons,List.map_map]
 congr 1
 ·simp
 ·exact List.map_congr_left λi _=>by show lo+((i+1:Nat):Int)=lo+1+(i:Int);omega
abbrev hdB:Unit->Int×Int->Unit ⊕ Int:=λ_ x=>bif (!decide (x.2=(0:Int))) then (Sum.inr x.1) else (Sum.inl ())
theorem znW:∀ (xs:Ji) (lo:Int),zl3 (zcF hdB () ((zbf lo xs.length).zip xs)) (λ(_:Unit)=>lo+(xs.length:Int)) (λb=>b)=lo+(hd xs:Int)
 | [],lo=>rfl
 | x :: xs,lo=>by
  rw [List.length_cons,zgV,List.zip_cons_cons]
  unfold zcF hd
  cases q:(!decide (x=(0:Int))) with
  | true =>
   rw [show hdB () (lo,x)=.inr lo by unfold hdB;dsimp only;rw [q];rfl]
   show lo=lo+((0:Nat):Int)
   omega
  | false =>
   rw [show hdB () (lo,x)=.inl () by unfold hdB;dsimp only;rw [q];rfl]
   have:=znW xs (lo+1)
   have e:(λ(_:Unit)=>lo+1+(xs.length:Int))=(λ(_:Unit)=>lo+((xs.length+1:Nat):Int)):=funext λ_=>by omega
   rw [e] at this
   show zl3 (zcF hdB () ((zbf (lo+1) xs.length).zip xs)) _ _=_
   rw [this]
   show lo+1+(hd xs:Int)=lo+((hd xs+1:Nat):Int)
   omega
theorem zut (xs:Ji):zl3 (zcF hdB () (zhU xs)) (λ(_:Unit)=>((xs.length:Nat):Int)) (λb=>b)=(hd xs:Int):=by
 have:=znW xs 0
 simp only [Int.zero_add] at this
 exact this
theorem zgT {α:Type} {xs:List α} {k:Nat}:zcs xs (some (k:Int)) none=xs.drop k:=by
 unfold zcs
 rw [HT.sIx_nat,HT.sIx_none]
 by_cases h:k≤xs.length
 ·rw [Nat.min_eq_left h,List.take_of_length_le (by rw [List.length_drop];omega)]
 ·rw [Nat.min_eq_right ↑0,List.drop_eq_nil_of_le ↑0,List.drop_eq_nil_of_le ↑0];simp
def cmn (a b:Int):T3 Int Int Int:=Let (whl cmC cmF b.toNat (a,b,(1:Int),(0:Int))) (λ(r:G4)=>T3.mk r.1 r.2.2.1 ((r.1-(r.2.2.1*a))/b))
theorem znz {a b:Int} (h1:0<a) (h2:0<b):Cm a b (cmn a b).a (cmn a b).b (cmn a b).c:=by
 obtain ⟨i1,i2⟩:=zhM (n:=b.toNat) (c:=cmC) (f:=cmF) (I:=GI a b) (μ:=λs=>s.2.1.toNat) (λs h c=>h.step c) (GI.start h1 h2) ↥8
 exact i1.done h2 i2
theorem zuF {a b:Int}:(cmn a b).c=((cmn a b).a-(cmn a b).b*a)/b:=rfl
def MG:Mg:=⟨λa b=>((cmn a b).a,(cmn a b).b,(cmn a b).c),λ_ _ h1 h2=>znz h1 h2⟩
def mrg (s l:Ji):Ji×Ji:=(mg1 s l ((cmn (vec s (hd s)) (vec l (hd s)))).b ((cmn (vec s (hd s)) (vec l (hd s)))).c,mg2 s l ((cmn (vec s (hd s)) (vec l (hd s)))).a)
theorem zlP {s:Ji} {ss:Jq} {l:Ji}:tin MG (s :: ss) l=bif decide (hd l<hd s) then upr l :: s :: ss else bif decide (hd l=hd s) then (mrg s l).1 :: tin MG ss (low (mrg s l).2 ss) else s :: tin MG ss l:=rfl
abbrev TS2:=Jq×Ji
def zmo (steps:Jq):TS2->Int×Ji->TS2 ⊕ Jq:=λs x =>
 bif decide ((hd s.2:Int)<(hd x.2:Int)) then (Sum.inr ((s.1++[upr s.2])++(zcs steps (some x.1) none)))
 else Let (bif decide ((hd s.2:Int)=(hd x.2:Int)) then (s.1++[(mrg x.2 s.2).1]) else (s.1++[x.2])) (λ(g:Jq) =>
  Let (bif decide ((hd s.2:Int)=(hd x.2:Int)) then (low ((mrg x.2 s.2).2) (zcs steps (some (x.1+(1:Int))) none)) else s.2) (λ(l:Ji)=>Sum.inl (g,l)))
abbrev ztu:TS2->Jq:=λr=>Let (bif decide ((hd r.2:Int)<((r.2.length:Nat):Int)) then (r.1++[upr r.2]) else r.1) (λ(g:Jq)=>g)
theorem zjm {steps:Jq}:∀ (ss:Jq) (k:Nat) (g:Jq) (l:Ji),steps.drop k=ss->zl3 (zcF (zmo steps) (g,l) ((zbf (k:Int) ss.length).zip ss)) ztu (λb=>b)=g++tin MG ss l
 | [],k,g,l,_=>by
  show ztu (g,l)=_
  unfold ztu Let tin
  dsimp only
  by_cases q:hd l<l.length
  ·rw [show decide ((hd l:Int)<((l.length:Nat):Int))=true by simp [q],show decide (hd l<l.length)=true by simp [q]];rfl
  ·rw [show decide ((hd l:Int)<((l.length:Nat):Int))=false by simpa using q,show decide (hd l<l.length)=false by simp [q]]
   simp
 | s :: ss,k,g,l,e=>by
  have e':steps.drop (k+1)=ss:=by rw [← List.drop_drop,e];rfl
  have e2:((k:Int)+(1:Int))=((k+1:Nat):Int):=by omega
  rw [List.length_cons,zgV,List.zip_cons_cons,zlP]
  unfold zcF
  by_cases q:hd l<hd s
  ·rw [show zmo steps (g,l) ((k:Int),s)=.inr ((g++[upr l])++(s :: ss)) by
    unfold zmo;dsimp only
    rw [show decide ((hd l:Int)<(hd s:Int))=true by simp [q],cond_true,zgT,e]]
   rw [show decide (hd l<hd s)=true by simp [q],cond_true]
   show (g++[upr l])++(s :: ss)=_
   simp
  ·rw [show decide (hd l<hd s)=false by simp [q],cond_false]
   have q':decide ((hd l:Int)<(hd s:Int))=false:=by simp;omega
   by_cases z:hd l=hd s
   ·rw [show zmo steps (g,l) ((k:Int),s)=.inl (g++[(mrg s l).1],low (mrg s l).2 ss) by
     unfold zmo Let;dsimp only
     rw [q',show decide ((hd l:Int)=(hd s:Int))=true by simp [z],cond_false,cond_true,cond_true,e2,zgT,e']]
    rw [show decide (hd l=hd s)=true by simp [z],cond_true]
    show zl3 (zcF (zmo steps) _ ((zbf ((k:Int)+1) ss.length).zip ss)) _ _=_
    rw [e2,zjm ss (k+1) _ _ e']
    simp
   ·rw [show zmo steps (g,l) ((k:Int),s)=.inl (g++[s],l) by
     unfold zmo Let;dsimp only
     rw [q',show decide ((hd l:Int)=(hd s:Int))=false by simp;omega,cond_false,cond_false,cond_false]]
    rw [show decide (hd l=hd s)=false by simp [z],cond_false]
    show zl3 (zcF (zmo steps) _ ((zbf ((k:Int)+1) ss.length).zip ss)) _ _=_
    rw [e2,zjm ss (k+1) _ _ e']
    simp
theorem zvm (steps:Jq) (l:Ji):zl3 (zcF (zmo steps) ([],l) (zhU steps)) ztu (λb=>b)=tin MG steps l:=by
 have:=zjm (steps:=steps) steps 0 [] l rfl
 simp only [List.nil_append] at this
 exact this
theorem zuU:∀ (ss:Jq),List.foldl (λ(s:Jq) (x:Ji)=>[low x s]++s) [] ss.reverse=stl ss
 | []=>rfl
 | s :: ss=>by
  rw [List.reverse_cons,List.foldl_append,zuU ss]
  rfl
theorem zlE:∀ {ss:Jq} {j:Nat},stl (ss.drop j)=(stl ss).drop j
 | [],j=>by simp [stl]
 | s :: ss,0=>rfl
 | s :: ss,j+1=>by rw [List.drop_succ_cons,zlE];rfl
theorem zdJ.of {x y:Int} {a b:Nat} (h1:x.natAbs≤2^a) (h2:y.natAbs≤2^b) (ha:a≤50000000) (hb:b≤50000000):zdJ x y :=
 .inr (.inr ⟨zm9 (k:=a+1) (by have:2^a<2^(a+1):=Nat.pow_lt_pow_right ↑1 (Nat.lt_succ_self a);omega) ↑0 ↑0,zm9 (k:=b+1) (by have:2^b<2^(b+1):=Nat.pow_lt_pow_right ↑1 (Nat.lt_succ_self b);omega) ↑0 ↑0⟩)
theorem zfv.of {x y:Int} {b:Nat} (h:0<y) (h2:y.natAbs≤2^b) (hb:b≤8990):zfv x y :=
 ⟨h,zm9 (k:=b+1) (by have:2^b<2^(b+1):=Nat.pow_lt_pow_right ↑1 (Nat.lt_succ_self b);omega) ↑0 ↑0⟩
def zkk (a b:Int):Prop:=0<a∧0<b∧a.natAbs≤2^8980∧b.natAbs≤2^8980
section
variable {one other:Int} {s:G4}
theorem GI.gn (I:GI one other s) (h:zkk one other):s.1.natAbs≤2^8981:=by
 have:=I.g;have:=I.gb;obtain ⟨h1,h2,h3,h4⟩:=h
 rw [Nat.pow_succ]
 omega
theorem GI.mn (I:GI one other s) (h:zkk one other):s.2.1.natAbs≤2^8981:=by
 have:=I.m;have:=I.mb;obtain ⟨h1,h2,h3,h4⟩:=h
 rw [Nat.pow_succ]
 omega
theorem GI.tn (I:GI one other s) (h:zkk one other):s.2.2.1.natAbs≤2^8980:=by
 have:=I.tb;obtain ⟨h1,h2,h3,h4⟩:=h
 omega
theorem GI.ln (I:GI one other s) (h:zkk one other):s.2.2.2.natAbs≤2^8980:=by
 have:=I.lb;obtain ⟨h1,h2,h3,h4⟩:=h
 omega
theorem GI.pos (I:GI one other s) (hc:(!decide (s.2.1=(0:Int)))=true):0<s.2.1:=by
 have:=I.m
 simp only [Bool.not_eq_true',decide_eq_false_iff_not] at hc
 omega
theorem GI.div (I:GI one other s) (h:zkk one other) (hc:(!decide (s.2.1=(0:Int)))=true):zfv s.1 s.2.1:=zfv.of (I.pos hc) (I.mn h) ↑1
theorem GI.mul1 (I:GI one other s) (h:zkk one other) (hc:(!decide (s.2.1=(0:Int)))=true) {p:Int} (e:p=s.1/s.2.1):zdJ p s.2.1:=by
 subst e;exact zdJ.of (zhh (I.pos hc) (I.gn h)) (I.mn h) ↑1 ↑1
theorem GI.mul2 (I:GI one other s) (h:zkk one other) (hc:(!decide (s.2.1=(0:Int)))=true) {p:Int} (e:p=s.1/s.2.1):zdJ p s.2.2.2:=by
 subst e;exact zdJ.of (zhh (I.pos hc) (I.gn h)) (I.ln h) ↑1 ↑1
theorem GI.mul3 (I:GI one other s) (h:zkk one other):zdJ s.2.2.1 one:=zdJ.of (I.tn h) h.2.2.1 ↑1 ↑1
theorem zkk.div (h:zkk one other) {x:Int}:zfv x other:=zfv.of h.2.1 h.2.2.2 ↑1
end
def LowP (row:Ji) (steps:Jq):Prop:=∃ n a s,n≤1000∧row.length=n∧steps.length≤1000∧Bit a row∧(∀ t∈steps,Sd n s t)∧a+steps.length*(s+1)+s≤50000000
section
variable {n s a i:Nat} {l t:Ji} {h q:Int}
theorem zlw (T:Sd n s t) (e:h=(hd t:Int)) (hl:l.length=n):InB l.length h:=by
 have:=T.hd
 unfold InB
 omega
theorem zqg (T:Sd n s t) (e:h=(hd t:Int)):zfv (ixD l h) (ixD t h):=by
 subst e
 rw [zb2,zb2]
 exact zfv.of T.pos T.top ↑1
theorem zqo (T:Sd n s t) (e:h=(hd t:Int)) (hb:Bit a l) (eq:q=ixD l h/ixD t h) (ha:a+s≤50000000):∀ y∈t,zdJ y q:=by
 subst e eq
 rw [zb2,zb2]
 exact λy hy=>zdJ.of (T.bit y hy) (zpp T hb) ↑0 ↑0
theorem zrb (T:Sd n s t) (hl:l.length=n∧Bit (a+i*(s+1)) l) {y:Ji} (e:y=zkB l t):y.length=n∧Bit (a+(i+1)*(s+1)) y:=by
 subst e
 refine ⟨by rw [ziQ (by rw [hl.1,T.len]),hl.1],(zlp T hl.1 hl.2).mono ?_⟩
 rw [Nat.succ_mul];omega
theorem zq8 {k i:Nat} (h:a+k*(s+1)+s≤50000000) (hi:i<k):a+i*(s+1)+s≤50000000:=by
 have:=Nat.mul_le_mul_right (s+1) (show i≤k by omega)
 omega
end
def MrgP (t l:Ji):Prop:=∃ n a s,n≤1000∧Sd n s t∧l.length=n∧Bit a l∧0<vec l (hd t)∧vec l (hd t)<vec t (hd t)∧a+s≤40000000
section
variable {n s a:Nat} {l t:Ji} {h:Int}
theorem zmD (T:Sd n s t) (e:h=(hd t:Int)) (h0:0<vec l (hd t)) (h1:vec l (hd t)<vec t (hd t)):zkk (ixD t h) (ixD l h):=by
 subst e
 rw [zb2,zb2]
 exact ⟨T.pos,h0,T.top,by have:=T.top;omega⟩
theorem zpw {x y:Int} (h:zkk x y):0<(cmn x y).a∧(cmn x y).a.natAbs≤2^8981∧(cmn x y).b.natAbs≤2^8980∧(cmn x y).c.natAbs≤2^17962:=by
 have C:=znz h.1 h.2.1
 have:=C.bd h.2.1 zuF h.2.2.1 h.2.2.2
 exact ⟨C.pos,this⟩
theorem ziZ {x:Int} {a b:Nat} {l:Ji} (h1:Bit a l) (h2:x.natAbs≤2^b) (ha:a≤50000000) (hb:b≤50000000):∀ y∈l,zdJ y x:=λy hy=>zdJ.of (h1 y hy) h2 ha hb
end
def TinP (steps:Jq) (row:Ji):Prop:=∃ n a s,n≤1000∧Ech n 0 steps∧(∀ t∈steps,Sd n s t)∧row.length=n∧Bit a row∧steps.length≤100∧a+(steps.length+2)*↑59+s≤40000000
theorem zlr {n:Nat}:∀ {ss:Jq} {lo j:Nat},Ech n lo ss->Ech n lo (ss.drop j)
 | [],_,_,_=>by simp [Ech]
 | _ :: _,_,0,h=>h
 | s :: ss,lo,j+1,h=>by
  rw [List.drop_succ_cons]
  exact zlr (h.2.2.2.2.mono (by have:=h.2.1;omega))
section
variable {n s a i:Nat} {steps:Jq} {st:TS2} {x:Int×Ji}
structure TI (steps:Jq) (n a s i:Nat) (st:TS2):Prop where
 g:st.1.length≤i
 len:st.2.length=n
 bit:Bit (a+steps.length*(s+1)+i*↑59) st.2
 red:∀ t∈steps.drop i,0≤vec st.2 (hd t)∧vec st.2 (hd t)<vec t (hd t)
theorem TI.start {row:Ji} (e:Ech n 0 steps) (T:∀ t∈steps,Sd n s t) (hl:row.length=n) (hb:Bit a row):TI steps n a s 0 ([],low row steps):=by
 obtain ⟨k1,k2,k3,k4⟩:=ze1 (l:=row) e hl
 exact ⟨Nat.le_refl 0,k1,by simpa using zie T hl hb,by simpa using k3⟩
theorem TI.mem (hx:i<steps.length∧x.1=(i:Int)∧steps[i]?=some x.2):x.2∈steps∧x.2∈steps.drop i∧steps.drop i=x.2 :: steps.drop (i+1):=by
 have e:steps.drop i=x.2 :: steps.drop (i+1):=by
  rw [List.drop_eq_getElem_cons hx.1]
  congr 1
  have:=hx.2.2
  rw [List.getElem?_eq_getElem hx.1] at this
  exact Option.some.inj this
 exact ⟨List.mem_of_getElem? hx.2.2,by rw [e];exact List.mem_cons_self,e⟩
theorem TI.num (hi:i≤steps.length) (h:a+(steps.length+2)*↑59+s≤40000000):a+steps.length*(s+1)+i*↑59+(s+9000)≤40000000:=by
 have e1:i*↑59≤steps.length*↑59:=Nat.mul_le_mul_right _ hi
 have e2:steps.length*(s+1)≤(steps.length+1)*(s+9000):=Nat.mul_le_mul ↑0 ↑0
 have e3:s+9000≤(steps.length+1)*(s+9000):=Nat.le_mul_of_pos_left _ ↑0
 rw [Nat.add_mul] at h
 omega
theorem TI.mrg (I:TI steps n a s i st) (hn:n≤1000) (T:∀ t∈steps,Sd n s t) (hx:i<steps.length∧x.1=(i:Int)∧steps[i]?=some x.2) (hh:hd st.2=hd x.2) (hN:a+(steps.length+2)*↑59+s≤40000000):MrgP x.2 st.2:=by
 obtain ⟨m1,m2,m3⟩:=TI.mem hx
 have r:=I.red _ m2
 have T1:=T _ m1
 have ne:=zja (l:=st.2) (by rw [hh,I.len];exact T1.hd)
 rw [hh] at ne
 exact ⟨n,_,s,hn,T1,I.len,I.bit,by omega,r.2,by have:=TI.num (Nat.le_of_lt hx.1) hN;omega⟩
theorem zkl {t l:Ji} {b:Nat} (T:Sd n s t) (hl:l.length=n) (hb:Bit b l) (h0:0<vec l (hd t)) (h1:vec l (hd t)<vec t (hd t)):(mrg t l).2.length=n∧Bit (b+(s+8982)) (mrg t l).2∧(mrg t l).1.length=n∧Bit (b+(s+17964)) (mrg t l).1:=by
 have e:t.length=l.length:=by rw [hl,T.len]
 have P:zkk (vec t (hd t)) (vec l (hd t)):=⟨T.pos,h0,T.top,by have:=T.top;omega⟩
 have C:=zpw P
 exact ⟨by rw [show (mrg t l).2=mg2 t l _ from rfl,znj e,T.len],zqS T hl hb (znz T.pos h0) h1 ↑0,by rw [show (mrg t l).1=mg1 t l _ _ from rfl,znb e,T.len],zqj T hl hb C.2.2.1 C.2.2.2⟩
theorem TI.low (I:TI steps n a s i st) (hn:n≤1000) (hk:steps.length≤100) (T:∀ t∈steps,Sd n s t) (hx:i<steps.length∧x.1=(i:Int)∧steps[i]?=some x.2) (hh:hd st.2=hd x.2) (hN:a+(steps.length+2)*↑59+s≤40000000):LowP (Lat.mrg x.2 st.2).2 (zcs steps (some (x.1+(1:Int))) none):=by
 obtain ⟨m1,m2,m3⟩:=TI.mem hx
 have r:=I.red _ m2
 have T1:=T _ m1
 have ne:=zja (l:=st.2) (by rw [hh,I.len];exact T1.hd)
 rw [hh] at ne
 obtain ⟨b1,b2,_⟩:=zkl T1 I.len I.bit ↑0 r.2
 rw [hx.2.1,show ((i:Int)+(1:Int))=((i+1:Nat):Int) by omega,zgT]
 refine ⟨n,_,s,hn,b1,by rw [List.length_drop];omega,b2,λt ht=>T t (List.mem_of_mem_drop ht),?_⟩
 have hp:(List.drop (i+1) steps).length*(s+1)≤steps.length*(s+9000):=Nat.mul_le_mul (by rw [List.length_drop];omega) ↑0
 have hm:steps.length*(s+1)≤(steps.length+1)*(s+9000):=Nat.mul_le_mul ↑0 ↑0
 have ho:i*↑59≤steps.length*↑59:=Nat.mul_le_mul_right _ ↑0
 have hq:(steps.length+1)*(s+9000)=steps.length*(s+9000)+(s+9000):=Nat.succ_mul _ _
 rw [Nat.add_mul steps.length 2] at hN
 omega
theorem TI.step (I:TI steps n a s i st) (e:Ech n 0 steps) (T:∀ t∈steps,Sd n s t) (hx:i<steps.length∧x.1=(i:Int)∧steps[i]?=some x.2) {st':TS2} (hf:zmo steps st x=.inl st'):TI steps n a s (i+1) st':=by
 obtain ⟨m1,m2,m3⟩:=TI.mem hx
 have r:=I.red _ m2
 have T1:=T _ m1
 have dd:∀ t∈steps.drop (i+1),t∈steps.drop i:=λt ht=>by rw [m3];exact List.mem_cons_of_mem _ ht
 have mo:a+steps.length*(s+1)+i*↑59≤a+steps.length*(s+1)+(i+1)*↑59:=by
  have:=Nat.mul_le_mul_right ↑59 (show i≤i+1 by omega)
  omega
 unfold zmo Let at hf
 by_cases q:hd st.2<hd x.2
 ·rw [show decide ((hd st.2:Int)<(hd x.2:Int))=true by simp [q],cond_true] at hf
  cases hf
 ·rw [show decide ((hd st.2:Int)<(hd x.2:Int))=false by simp;omega,cond_false] at hf
  by_cases z:hd st.2=hd x.2
  ·rw [show decide ((hd st.2:Int)=(hd x.2:Int))=true by simp [z],cond_true,cond_true] at hf
   cases hf
   have ne:=zja (l:=st.2) (by rw [z,I.len];exact T1.hd)
   rw [z] at ne
   obtain ⟨b1,b2,_⟩:=zkl T1 I.len I.bit ↑0 r.2
   rw [hx.2.1,show ((i:Int)+(1:Int))=((i+1:Nat):Int) by omega,zgT]
   have ed:Ech n 0 (steps.drop (i+1)):=zlr e
   obtain ⟨k1,k2,k3,k4⟩:=ze1 (l:=(Lat.mrg x.2 st.2).2) ed b1
   refine ⟨by have:=I.g;simp;omega,k1,(zie (λt ht=>T t (List.mem_of_mem_drop ht)) b1 b2).mono ?_,k3⟩
   have e5:(List.drop (i+1) steps).length*(s+1)≤steps.length*(s+9000):=Nat.mul_le_mul (by rw [List.length_drop];omega) ↑0
   rw [Nat.succ_mul i,Nat.add_mul steps.length 1]
   omega
  ·rw [show decide ((hd st.2:Int)=(hd x.2:Int))=false by simp;omega,cond_false,cond_false] at hf
   cases hf
   exact ⟨by have:=I.g;simp;omega,I.len,I.bit.mono mo,λt ht=>I.red t (dd t ht)⟩
end
theorem tin_bit {n s K:Nat}:∀ {ss:Jq} {lo a:Nat} {l:Ji},Ech n lo ss->(∀ t∈ss,Sd n s t)->l.length=n->(∀t∈ss,0≤vec l (hd t)∧vec l (hd t)<vec t (hd t))->Bit a l->ss.length≤K →
  ∀ t∈tin MG ss l,Bit (a+ss.length*((K+1)*(s+9000))+s+18000) t
 | [],lo,a,l,_,_,_,_,hb,_,t,ht=>by
  unfold tin at ht
  cases q:decide (hd l<l.length) with
  | true=>rw [q,cond_true] at ht;rw [List.mem_singleton.mp ht];exact (znp hb).mono ↑0
  | false=>rw [q,cond_false] at ht;simp at ht
 | s' :: ss,lo,a,l,e,T,hl,r,hb,hK,t,ht=>by
  have T1:=T s' List.mem_cons_self
  have hS:∀ t∈s' :: ss,Bit (a+(s' :: ss).length*((K+1)*(s+9000))+s+18000) t:=λt ht=>(T t ht).bit.mono ↑0
  rw [zlP] at ht
  cases q:decide (hd l<hd s') with
  | true =>
   rw [q,cond_true] at ht
   rcases List.mem_cons.mp ht with rfl | ht
   ·exact (znp hb).mono ↑0
   ·exact hS t ht
  | false =>
   rw [q,cond_false] at ht
   by_cases z:hd l=hd s'
   ·rw [show decide (hd l=hd s')=true by simp [z],cond_true] at ht
    have ne:=zja (l:=l) (by rw [z,hl];exact T1.hd)
    rw [z] at ne
    have r1:=r s' List.mem_cons_self
    obtain ⟨b1,b2,b3,b4⟩:=zkl T1 hl hb ↑0 r1.2
    rcases List.mem_cons.mp ht with rfl | ht
    ·exact b4.mono ↑0
    ·obtain ⟨k1,k2,k3,k4⟩:=ze1 (l:=(mrg s' l).2) e.2.2.2.2 b1
     have:=tin_bit (K:=K) e.2.2.2.2 (λt ht=>T t ↑69) k1 k3 (zie (λt ht=>T t ↑69) b1 b2) (by simp at hK;omega) t ht
     refine this.mono ?_
     have e5:ss.length*(s+1)≤K*(s+9000):=Nat.mul_le_mul (by simp at hK;omega) ↑0
     rw [List.length_cons,Nat.succ_mul ss.length ((K+1)*(s+9000))]
     have e6:(K+1)*(s+9000)=K*(s+9000)+(s+9000):=Nat.succ_mul _ _
     omega
   ·rw [show decide (hd l=hd s')=false by simp [z],cond_false] at ht
    rcases List.mem_cons.mp ht with rfl | ht
    ·exact hS t List.mem_cons_self
    ·refine (tin_bit (K:=K) e.2.2.2.2 (λt ht=>T t ↑69) hl (λt ht=>r t ↑69) hb (by simp at hK;omega) t ht).mono ?_
     have:ss.length*((K+1)*(s+9000))≤(s' :: ss).length*((K+1)*(s+9000)):=Nat.mul_le_mul_right _ ⇑5
     omega
def ztf (steps:Jq):Prop:=steps.length≤1000∧∀ j x,steps[j]?=some x->LowP x (stl (steps.drop (j+1)))
section
variable {steps fl:Jq} {i:Nat} {x:Ji}
theorem zkX (hx:steps.reverse[i]?=some x):∃ j,j+1+i=steps.length∧steps[j]?=some x∧steps.drop j=x :: steps.drop (j+1):=by
 have hi:i<steps.reverse.length:=((List.getElem?_eq_some_iff.mp hx)).1
 rw [List.length_reverse] at hi
 rw [List.getElem?_reverse hi] at hx
 have hj:steps.length-1-i<steps.length:=by omega
 refine ⟨steps.length-1-i,by omega,hx,?_⟩
 rw [List.getElem?_eq_getElem hj] at hx
 rw [List.drop_eq_getElem_cons hj,Option.some.inj hx]
theorem zrm (h:ztf steps) (hx:steps.reverse[i]?=some x) (e:fl=stl (steps.drop (steps.length-i))):LowP x fl:=by
 obtain ⟨j,h1,h2,h3⟩:=zkX hx
 rw [e,show steps.length-i=j+1 by omega]
 exact h.2 j x h2
theorem zqA (hx:steps.reverse[i]?=some x) (e:fl=stl (steps.drop (steps.length-i))) {y:Jq} (hy:y=[low x fl]++fl):y=stl (steps.drop (steps.length-(i+1))):=by
 obtain ⟨j,h1,h2,h3⟩:=zkX hx
 rw [hy,e,show steps.length-i=j+1 by omega,show steps.length-(i+1)=j by omega,h3]
 rfl
theorem zkx:∀ {ss:Jq},(stl ss).length=ss.length
 | []=>rfl
 | s :: ss=>by simp [stl,zkx]
theorem ztg (h:ztf steps) (hi:i<steps.length) (e:fl=stl (steps.drop (steps.length-i))):fl.length≤1000:=by
 rw [e,zkx,List.length_drop]
 have:=h.1
 omega
end
def Fit (n b R:Nat):Prop:=n≤1000∧R≤31∧eB b R≤8980∧b+(min n R+2)*((min n R+1)*(sB b R+9000))+3*sB b R+18001+(min n R+1)*(sB b R+1)≤40000000
def zu5 (rows:Jq):Prop:=∃ n b R,Fit n b R∧rows.length≤R∧∀ r∈rows,r.length=n∧Bit b r
section
variable {n b R i:Nat} {rows ss:Jq} {r:Ji}
theorem ziV (hr:rows[i]?=some r):clm MG (rows.take (i+1))=stl (tin MG (clm MG (rows.take i)) (low r (clm MG (rows.take i)))):=by
 have hi:=(List.getElem?_eq_some_iff.mp hr).1
 rw [List.take_succ_eq_append_getElem hi]
 unfold clm
 rw [List.foldl_append]
 rw [List.getElem?_eq_getElem hi] at hr
 rw [← Option.some.inj hr]
 rfl
theorem zlZ (h:∀ r∈rows,r.length=n):Stairs n rows (clm MG rows)∧(clm MG rows).length≤rows.length:=by
 have:∀ i,i≤rows.length->Stairs n (rows.take i) (clm MG (rows.take i))∧(clm MG (rows.take i)).length≤i:=by
  intro i
  induction i with
  | zero=>exact λ_=>⟨by simpa [clm] using Stairs.nil,by simp [clm]⟩
  | succ i ih =>
   intro hi
   obtain ⟨s1,s2⟩:=ih ↑0
   have e:rows[i]?=some rows[i]:=List.getElem?_eq_getElem ↑0
   obtain ⟨t1,t2⟩:=s1.step MG (r:=rows[i]) (h _ (List.getElem_mem _))
   rw [ziV e,List.take_succ_eq_append_getElem ↑0]
   exact ⟨t1,by omega⟩
 obtain ⟨t1,t2⟩:=this rows.length ↥8
 rw [List.take_length] at t1 t2
 exact ⟨t1,t2⟩
theorem znf (F:Fit n b R) (hl:rows.length≤R) (h:∀ r∈rows,r.length=n∧Bit b r):Stairs n rows (clm MG rows)∧(clm MG rows).length≤min n R∧∀ t∈clm MG rows,Sd n (sB b R) t:=by
 obtain ⟨s1,s2⟩:=zlZ (rows:=rows) λr hr=>(h r hr).1
 refine ⟨s1,?_,λt ht=>?_⟩
 ·have:=znU s1.ech (Nat.zero_le n)
  omega
 ·obtain ⟨a1,a2,a3,a4⟩:=s1.ech.mem t ht
  obtain ⟨b1,b2⟩:=s1.bits F.2.1 hl (λr hr=>(h r hr).2) t ht
  exact ⟨a1,a3,a4,Nat.le_trans b1 (Nat.pow_le_pow_right ↑1 F.2.2.1),b2⟩
theorem zmr (F:Fit n b R) (hl:rows.length≤R) (h:∀ r∈rows,r.length=n∧Bit b r) (hr:rows[i]?=some r) (e:ss=clm MG (rows.take i)):LowP r ss∧TinP ss r∧ztf (tin MG ss (low r ss)):=by
 subst e
 have hi:=(List.getElem?_eq_some_iff.mp hr).1
 have hrm:=h r (List.mem_of_getElem? hr)
 obtain ⟨s1,s2,s3⟩:=znf F (rows:=rows.take i) (by rw [List.length_take];omega) λr hr=>h r (List.mem_of_mem_take hr)
 obtain ⟨t1,t2,t3⟩:=znf F (rows:=rows.take (i+1)) (by rw [List.length_take];omega) λr hr=>h r (List.mem_of_mem_take hr)
 rw [ziV hr] at t1 t2 t3
 obtain ⟨f1,f2,f3,f4⟩:=F
 generalize clm MG (rows.take i)=ss at *
 generalize hs:sB b R=s at *
 generalize hk:min n R=k at *
 obtain ⟨k1,k2,k3,k4⟩:=ze1 (l:=r) s1.ech hrm.1
 have m1:ss.length*(s+1)≤(k+1)*(s+1):=Nat.mul_le_mul_right _ ↑0
 have m2:(ss.length+2)*((ss.length+1)*(s+9000))≤(k+2)*((k+1)*(s+9000)):=Nat.mul_le_mul ↑0 (Nat.mul_le_mul_right _ ↑0)
 have hk32:k≤31:=by omega
 refine ⟨⟨n,b,s,f1,hrm.1,by omega,hrm.2,s3,by omega⟩,⟨n,b,s,f1,s1.ech,s3,hrm.1,hrm.2,by omega,by omega⟩,?_,λj x hx=>?_⟩
 ·rw [zkx] at t2;omega
 ·have hxm:=List.mem_of_getElem? hx
  have g1:=tin_bit (K:=k) s1.ech s3 k1 k3 (zie s3 hrm.1 hrm.2) s2 x hxm
  obtain ⟨e1,_⟩:=zhH MG s1.ech k1 (λi hi=>absurd hi (Nat.not_lt_zero i)) k3 (Nat.zero_le n)
  rw [zlE]
  refine ⟨n,_,s,f1,(e1.mem x hxm).1,by rw [List.length_drop];omega,g1,λt ht=>t3 t (List.mem_of_mem_drop ht),?_⟩
  have m3:(List.drop (j+1) (stl (tin MG ss (low r ss)))).length*(s+1)≤(k+1)*(s+1):=Nat.mul_le_mul_right _ (by rw [List.length_drop];omega)
  have m4:ss.length*((k+1)*(s+9000))≤k*((k+1)*(s+9000)):=Nat.mul_le_mul_right _ s2
  have m5:(k+1)*(s+1)≤(k+1)*(s+9000):=Nat.mul_le_mul_left _ ↑0
  rw [Nat.add_mul k 2] at f4
  omega
end
end Lat
namespace L2
open PySem PySem.Spec PyProof.Rows
section
variable {Γ:Ctx}
theorem zmS {k:Nat} {s:Slot} (h:(unC Γ)[k]?=some s):∃ r,Γ[k]?=some r∧unS r=s:=by
 unfold unC at h
 rw [List.getElem?_map] at h
 cases q:Γ[k]? with
 | none=>rw [q] at h;cases h
 | some r=>rw [q] at h;exact ⟨r,rfl,Option.some.inj h⟩
theorem ztp:unC (unC Γ)=unC Γ:=by
 unfold unC
 rw [List.map_map]
 refine List.map_congr_left λs _=>?_
 cases s<;>rfl
theorem zqa (h:zpT Γ=true):zpT (unC Γ)=true:=by
 unfold zpT unC at *
 rw [List.all_map]
 refine List.all_eq_true.mpr λs hs=>?_
 have:=List.all_eq_true.mp h s hs
 cases s<;>first | rfl | exact this
theorem zh0 {R:Hp}:∀ {vs:List V} {ns:Ji},Paired (λv (d:Ds)=>d.pr R v) vs (ns.map dI)->vs=ns.map V.int
 | [],[],_=>rfl
 | _ :: _,_ :: _,.cons h t=>by
  have h:_=V.int _:=h
  rw [h,zh0 t];rfl
end
end L2
namespace Lat
open L2
def RB (w b:Nat) (rows:Jq):Prop:=∀ r∈rows,r.length=w∧Bit b r
theorem zhK {α:Type} {xs:List α} {i:Int} {x y:α} (h:y∈zdn xs i x):y=x∨y∈xs:=by
 unfold zdn at h
 split at h
 ·rcases List.mem_or_eq_of_mem_set h with h | h
  ·exact .inr h
  ·exact .inl h
 ·exact .inr h
theorem zmB {α:Type} {xs:List α} {lo hi:Option Int} {x:α} (h:x∈zcs xs lo hi):x∈xs:=List.mem_of_mem_drop (List.mem_of_mem_take h)
theorem zhG {α β:Type} (g:α->β):∀ (xs:List α) (acc:List β),List.foldl (λs x=>s++[g x]) acc xs=acc++xs.map g
 | [],acc=>by simp
 | x :: xs,acc=>by rw [List.foldl_cons,zhG g xs];simp
end Lat
namespace Lat
theorem zi0 {l t:Ji} {i:Nat}:vec (l++t) i=if i<l.length then vec l i else vec t (i-l.length):=by
 unfold vec
 rw [List.getD_eq_getElem?_getD,List.getD_eq_getElem?_getD,List.getD_eq_getElem?_getD,List.getElem?_append]
 split<;>rfl
open L2
theorem zdc {k:Nat}:((zc7 (k:Int) [(0:Int)])).length=k:=by unfold zc7;simp
theorem ze3 {k j:Nat}:vec (zc7 (k:Int) [(0:Int)]) j=0:=by
 by_cases h:j<((zc7 (k:Int) [(0:Int)])).length
 ·have:=znq h
  unfold zc7 at this
  obtain ⟨l,h1,h2⟩:=List.mem_flatten.mp this
  rw [(List.mem_replicate.mp h1).2] at h2
  exact List.mem_singleton.mp h2
 ·exact zda ↑0
end Lat
namespace Lat
theorem zfY:∀ {l t:Ji} {q:Int} {i:Nat},l.length=t.length->vec (List.map (λ(x:Int×Int)=>x.1+(q*x.2)) (List.zip l t)) i=vec l i+q*vec t i
 | [],[],q,i,_=>by simp [vec]
 | a :: l,b :: t,q,0,_=>rfl
 | a :: l,b :: t,q,i+1,h=>by
  rw [zbk,zbk,← zfY (l:=l) (t:=t) ↑114]
  exact zbk
end Lat
namespace L2
open PySem PySem.Spec PyProof.Rows
def zid (R:Hp) (v:V) (ns:Ji):Prop:=∃ r,v=.ref r∧R r=some (.lst (List.map V.int ns))
def dRI (nss:Jq):Ds:=⟨λR v=>∃ p vs,v=.ref p∧R p=some (.lst vs)∧vs.Nodup∧V.ref p ∉ vs∧Paired (zid R) vs nss,λe ⟨p,vs,h1,h2,h3,h4,h5⟩=>⟨p,vs,h1,e _ _ h2,h3,h4,zb4 (λ_ _ ⟨r,q1,q2⟩=>⟨r,q1,e _ _ q2⟩) h5⟩⟩
theorem zkm {R:Hp}:∀ {ns:Ji},Paired (λv (d:Ds)=>d.pr R v) ↑56 (ns.map dI)
 | []=>.nil
 | _ :: _=>.cons rfl zkm
theorem zso {R:Hp} {v:V} {nss:Jq} (h:(dRI nss).pr R v):(dL (nss.map λl=>dL (l.map dI))).pr R v:=by
 obtain ⟨p,vs,rfl,h2,h3,h4,h5⟩:=h
 refine ⟨p,vs,rfl,h2,?_⟩
 clear h2 h3 h4
 induction h5 with
 | nil=>exact .nil
 | cons q _ ih =>
  obtain ⟨r,rfl,q2⟩:=q
  exact .cons ⟨r,_,rfl,q2,zkm⟩ ih
section
variable {Γ:Ctx} {m:Bool} {γ:Type} {te:TE} {i:Nat} {nss:Jq}
theorem ztX {t:TE} (h:Ev Γ t m (dRI nss)):Ev Γ t m (dL (nss.map λl=>dL (l.map dI))):=λF0 Hb F H σ own Q a k=>h F0 Hb F H σ own Q a λv F' H' g q=>k v F' H' g (zso q)
theorem zon {own:Nat} {fv:List Nat} {wi:TI} {tg:TG} {js:List Nat} {xs:List γ} {bds:γ->List Ds} {mi:Bool} {ns:γ->Ji} (it:Iv Γ wi tg js xs bds mi) (hz:xs.length≤sizeLine) (hj:(∀ j∈js,j<own)∧js.Nodup)
  (he:∀ (i:Nat) (x:γ),xs[i]?=some x->EvO (zmn js (bds x) mi (zkg own fv Γ)) te true ((ns x).map dI)):Ev Γ (zmC own fv wi tg zo6 te) true (dRI (xs.map ns)):=λF0 Hb F H σ ow Q a k =>
 it F0 Hb F H σ ow _ a λJ F1 H1 g1 ok D hD=>by
  have hno:∀ j∈js,((zkg own fv Γ))[j]?=some .no:=λj hj'=>by
   have:=hj.1 j hj'
   unfold zkg
   rw [List.getElem?_append_left (by simpa using this),List.getElem?_replicate,if_pos this]
  obtain ⟨hD0,hDF,hDb⟩:=a.free g1 hD
  refine ⟨λi mm ys σb H2=>mm=xs.length-i∧i≤xs.length∧ys.length≤i∧∃ F2,Grow F1 H1 F2 H2∧F2 D=none∧H2 D=some (.lst ys)∧(ys.Nodup∧V.ref D ∉ ys∧Paired (zid (off F2 Hb)) ys ((xs.take i).map ns))∧At F0 Hb F2 H2 σb (λ_=>none) (zkg own fv Γ),
   ⟨_,rfl,Nat.zero_le _,Nat.zero_le _,F1,((Grow.refl g1.fh)).newH hD,hDF,zaE,⟨.nil,by simp,by simpa using Paired.nil⟩,((↑20).block own fv).grow (((Grow.refl g1.fh)).newH hD)⟩,?_⟩
  rintro i mm ys σb H2 ⟨rfl,hi,hy,F2,g2,hF2,hH2,⟨hN,hDy,hP⟩,a2⟩
  refine ⟨hH2,?_⟩
  obtain ⟨hstop,hitem⟩:=ok.up g2.f H2 g2.fh
  by_cases hlt:i<xs.length
  ·obtain ⟨go,yl⟩:=hitem i xs[i] (List.getElem?_eq_getElem hlt)
   refine .inr ⟨go,λx H' y=>?_⟩
   obtain ⟨g3,bind⟩:=yl x H' y
   refine bind σb _ λvs hvs=>?_
   have a3:=(a2.grow g3).setMany (js:=js) hvs
   have hx:xs[i]?=some xs[i]:=List.getElem?_eq_getElem hlt
   refine zlb (Γ:=zmn js (bds xs[i]) mi (zkg own fv Γ)) F0 Hb F2 H' _ _ _ a3 λF4 H4 g4=>?_
   have tk:=zkd hx
   rw [if_pos rfl]
   refine he i _ hx F0 Hb F4 H4 _ _ _ (a3.grow g4) λp ws F5 H5 g5 p1 p2 p3 q5=>?_
   have ew:=zh0 q5
   subst ew
   have g24:=g3.trans g4
   have g6:=g5.take p1 p3
   have g26:=g24.trans g6
   have n2:H5 D=some (.lst ys):=g26.h _ _ hH2
   have hpD:D≠p:=λz=>by rw [← z] at p1;rw [g24.h _ _ hH2] at p1;cases p1
   have n1:upd F5 p (.lst (List.map V.int (ns xs[i]))) D=none:=g26.no D (by rw [hH2];simp) hF2
   have hbp:Hb p=none:=(a2.g.h.trans g24.h).free p1
   have n3:H1 D=none:=hD
   refine ⟨n2,by omega,xs.length-(i+1),by omega,rfl,hlt,by simp;omega,upd F5 p (.lst (List.map V.int (ns xs[i]))),?_,n1,zaE,⟨?_,?_,?_⟩,?_⟩
   ·exact (g2.trans g26).setH n1 n3
   ·
    refine List.nodup_append.mpr ⟨hN,by simp,λv hv w hw z=>?_⟩
    rw [List.mem_singleton.mp hw] at z
    subst z
    obtain ⟨n,hn⟩:=List.getElem?_of_mem hv
    have hl:=Paired.length hP
    obtain ⟨v',e',⟨r,er,hr⟩⟩:=zbC hP (List.getElem?_eq_getElem (l:=(xs.take i).map ns) (i:=n) (by have:=(↑256).1;omega))
    rw [hn] at e'
    cases e'
    cases er
    have:=(zcK.mp hr).2
    have:=g24.h _ _ (g2.fh _ _ this)
    rw [p1] at this;cases this
   ·intro z
    rcases List.mem_append.mp z with z | z
    ·exact hDy z
    ·have:=List.mem_singleton.mp z
     cases this
     exact hpD rfl
   ·rw [tk,List.map_append]
    refine zcY (zb4 (λ_ _ ⟨r,q1,q2⟩=>⟨r,q1,zmO g26.f _ _ q2⟩) hP) (.cons ⟨p,rfl,zcK.mpr ⟨hbp,zaE⟩⟩ .nil)
   ·have a5:=((a3.grow g4).grow g6).unsetMany hno hj.2
    refine ⟨a5.g.setH n1 hDb,a5.inj,λ_ _ h=>(nomatch h),λj s es=>?_,a5.len⟩
    have:=a5.sl j s es
    cases s with
    | no=>trivial
    | va m d=>exact this
    | ow m ds=>obtain ⟨_,_,_,h,_⟩:=this;exact (nomatch h)
    | ob m C p dx fs=>obtain ⟨_,_,h,_⟩:=this;exact (nomatch h)
    | ol p ds=>obtain ⟨_,_,h,_⟩:=this;exact (nomatch h)
    | tl d=>exact (znJ es).elim
  ·have e:i=xs.length:=by omega
   subst e
   rw [List.take_length] at hP
   refine .inl ⟨hstop,k (.ref D) (upd F2 D (.lst ys)) H2 ((↑48).take hD0 hH2) ⟨D,ys,rfl,zcK.mpr ⟨hDb,zaE⟩,hN,hDy,?_⟩⟩
   exact zb4 (λ_ _ ⟨r,q1,q2⟩=>⟨r,q1,zmO (Same.new hF2 _) _ _ q2⟩) hP
end
section
variable {nss:Jq}
theorem zlf {R:Hp} {r:Addr} {new:Ji}:∀ {vs:List V} {nss:Jq} {j:Nat},Paired (zid R) vs nss->vs.Nodup->vs[j]?=some (.ref r)->Paired (zid (upd R r (.lst (new.map V.int)))) vs (nss.set j new)
 | _,_,_,.nil,_,h=>by simp at h
 | v :: vs,ns :: nss,0,.cons q t,hN,h=>by
  have h:v=.ref r:=by simpa using h
  subst h
  refine .cons ⟨r,rfl,zaE⟩ ?_
  have hn1:=(List.nodup_cons.mp hN).1
  clear q h hN
  induction t with
  | nil=>exact .nil
  | @cons a b as bs q t ih =>
   obtain ⟨r',rfl,q2⟩:=q
   have hne:r'≠r:=λz=>hn1 (by rw [z];exact List.mem_cons_self)
   exact .cons ⟨r',rfl,by rw [zat hne];exact q2⟩ (ih λz=>hn1 (List.mem_cons_of_mem _ z))
 | v :: vs,ns :: nss,j+1,.cons q t,hN,h=>by
  have hN:=List.nodup_cons.mp hN
  have h:vs[j]?=some (.ref r):=by simpa using h
  obtain ⟨r',rfl,q2⟩:=q
  have hne:r'≠r:=λz=>hN.1 (by rw [z];exact List.mem_of_getElem? h)
  exact .cons ⟨r',rfl,by rw [zat hne];exact q2⟩ (zlf t hN.2 h)
end
section
variable {E:XS} {Γ:Ctx} {tb:TE} {u:TS} {o:Oc} {i:Nat} {α β:Type} {f:α->Ds} {xs:List α}
theorem zjY {γ S:Type} {wi:TI} {g:TG} {tb:TS} {js:List Nat} {xs:List γ} {bds:γ->List Ds} {mi:Bool} {s0:S} (G:S->Ctx) (f:S->γ->S) (I:Nat->S->Prop) (it:Iv Γ wi g js xs bds mi) (w:Wk Γ (G s0)) (h0:I 0 s0)
  (body:∀ (i:Nat) (x:γ) (s:S),xs[i]?=some x->I i s->I (i+1) (f s x)∧Run E (zmn js (bds x) mi (G s)) tb (.nx (G (f s x)))) (k:Run E (G (xs.foldl f s0)) u o):Run E Γ (tSeq (zrv wi g tb) u) o :=
 zbL (β:=Unit) (kk:=λ_=>()) G (λ_=>o) f I it w h0 body λs e _=>e ▸ k
end
structure T5 (α β γ δ ε:Type) where
 a:α
 b:β
 c:γ
 d:δ
 e:ε
section
variable {E:XS} {Γ:Ctx} {m:Bool} {K:W.Frag} {te tj:TE} {u:TS} {o:Oc} {i j:Nat} {nss:Jq} {α β:Type}
def zpl (Γ:Ctx) (t:TE) (ds:List Ds):Prop:=∀ (F0 Hb F H:Hp) (σ:St) (own:Nat->Option Addr) (Q:VK),At F0 Hb F H σ own Γ →
 (∀ p vs F' H',Grow F H F' H'->H p=none->F' p=none->H' p=some (.lst vs)->Paired (λv (d:Ds)=>d.pr (off F' H) v) vs ds->Q (.ref p) H')->t σ H Q
theorem zqe {ds:List Ds} (h:EvO (zsB Γ) te true ds):zpl Γ te ds:=λF0 Hb F H σ own Q a k=>h F H F H σ _ Q a.now λp vs F' H' g h1 h2 h3 q=>k p vs F' H' g h1 h2 h3 q
theorem zpl.evo {ds:List Ds} (h:zpl Γ te ds):EvO Γ te true ds:=λF0 Hb F H σ own Q a k=>h F0 Hb F H σ own Q a λp vs F' H' g h1 h2 h3 q=>k p vs F' H' g h1 h2 h3 (zdG (ds:=[]) (zkL a.g.h) q)
theorem zpl.borrowO {ds es:List Ds} (e:Γ[i]?=some (.ow m es)) (h:zpl (Γ.set i (.va m (dL es))) te ds):zpl Γ te ds:=λF0 Hb F H σ own Q a k=>by
 obtain ⟨F1,own1,_,a1⟩:=a.share e
 refine h F0 Hb F1 H σ own1 Q a1 λp vs F' H' g h1 h2 h3 q=>?_
 have e:∀ b o,off F' H b=some o->H b=none∧F' b=some o:=λb o z=>zcK.mp z
 refine k p vs (λb=>match H b with | some _=>F b | none=>F' b) H' ⟨λb o z=>?_,λb o z=>?_,g.h,λb z1 z2=>?_⟩ h1 (by rw [h1];exact h2) h3 (zdG (ds:=[]) (λb o z=>?_) q)
 ·show (match H b with | some _=>F b | none=>F' b)=some o
  rw [a.fh _ _ z];exact z
 ·have z:(match H b with | some _=>F b | none=>F' b)=some o:=z
  cases w:H b with
  | some o'=>rw [w] at z;exact g.h _ _ (a.fh _ _ z)
  | none=>rw [w] at z;exact g.fh _ _ z
 ·show (match H b with | some _=>F b | none=>F' b)=none
  cases w:H b with
  | some o'=>exact z2
  | none=>exact absurd w z1
 ·obtain ⟨h1,h2⟩:=e b o z
  refine zcK.mpr ⟨h1,?_⟩
  show (match H b with | some _=>F b | none=>F' b)=some o
  rw [h1];exact h2
theorem zfR {x:α} {i j:Nat} (d1 d2:α->Ds) (fo:β->Oc) {kk:α->β} (h:Ev Γ te m (dT [d1 x,d2 x])) (k:∀ y,y=x->Run E ((Γ.set i (.va m (d1 y))).set j (.va m (d2 y))) u (fo (kk y))):Run E Γ (tSeq (zjR te (zrq K 2 (zhA (zd8 i) (zhA (zd8 j) zrw)))) u) (fo (Let x kk)):=zkI h (k x rfl)
theorem zgt {R R':Hp} (e:Same R R') {vs:List V} (h:Paired (zid R) vs nss):Paired (zid R') vs nss:=zb4 (λ_ _ ⟨r,q1,q2⟩=>⟨r,q1,e _ _ q2⟩) h
open Classical in
theorem zkP {v:Ji->Int} {k:Int} {P:Ji->Prop} (e:Γ[i]?=some (.tl (dRI nss))) (ej:Γ[j]?=some .no) (hno:zpT Γ=true) (hP:∀ ns∈nss,P ns) (hk:∀ ns,P ns->InB ns.length k)
  (h:∀ ns,P ns->Ev ((unC Γ).set j (.tl (dL (ns.map dI)))) te false (dI (v ns))) (hj:∀ ns,P ns->Ev ((unC Γ).set j (.tl (dL (ns.map dI)))) tj false (dI k))
  (kk:Run E ((unC Γ).set i (.tl (dRI (nss.map λns=>zdn ns k (v ns))))) u o):Run E Γ (tSeq (zrv (zo4 K (zis i)) (zd8 j) (tSeq (zjR te (zsj (zis j) tj zmL)) znT)) u) o:=λF0 Hb F H σ own D a q=>by
 obtain ⟨x,R,h1,h2,h3,h4,p,vs,rfl,h6,h7,h8,h9⟩:=a.sl i _ e
 have hi:i<σ.length:=by rw [a.len];exact (↑52).1
 have e':σ[i]?=some (some (.ref p)):=by
  rw [List.getElem?_eq_getElem hi] at h1 ⊢
  exact congrArg some h1
 have hij:i≠j:=λz=>by rw [z,ej] at e;cases e
 have hl:=Paired.length h9
 have st:∀ v'∈vs,∃ r,v'=.ref r∧F r=none∧Hb r=none∧(∀ l,own l≠some r)∧r≠p:=λv' hv=>by
  obtain ⟨n,hn⟩:=List.getElem?_of_mem hv
  have hn':=(↑256).1
  obtain ⟨v2,ev,⟨r,er,hr⟩⟩:=zbC h9 (List.getElem?_eq_getElem (l:=nss) (i:=n) ↑0)
  rw [hn] at ev
  cases ev
  refine ⟨r,er,(h3 r _ hr).1,(h3 r _ hr).2,(λl z=>by rw [h4 l r z] at hr;cases hr),λz=>h8 ?_⟩
  subst z;rw [← er];exact hv
 have hp:H p=some (.lst vs):=h2 _ _ h6
 have pF:=h3 p _ h6
 have pO:∀ l,own l≠some p:=λl z=>by rw [h4 l p z] at h6;cases h6
 have a0:At F0 Hb F H σ own (unC Γ):=⟨a.g,a.inj,a.liv,λk s es=>by
  obtain ⟨r,e1,rfl⟩:=zmS es
  have:=a.sl k r e1
  cases r with
  | tl d=>trivial
  | no=>trivial
  | va m d=>exact this
  | ow m ds=>exact this
  | ol p ds=>exact this
  | ob m C p dx fs=>exact this,by unfold unC;rw [List.length_map];exact a.len⟩
 have gst:∀ n ns,nss[n]?=some ns->(((nss.take n).map (λns=>zdn ns k (v ns))++nss.drop n)).set n (zdn ns k (v ns))=(nss.take (n+1)).map (λns=>zdn ns k (v ns))++nss.drop (n+1):=λn ns hn=>by
  have hlt:=(↑256).1
  have en:nss[n]=ns:=by rw [List.getElem?_eq_getElem hlt] at hn;exact Option.some.inj hn
  rw [List.set_append_right _ _ (by rw [List.length_map,List.length_take];omega),List.length_map,List.length_take,Nat.min_eq_left ↑0,Nat.sub_self,List.drop_eq_getElem_cons hlt,List.set_cons_zero,List.take_succ_eq_append_getElem hlt,List.map_append,List.append_assoc,en]
  rfl
 refine ⟨_,e',p,rfl,⟨vs,SqL.of hp⟩,λn m σ' H'=>m=vs.length-n∧n≤vs.length∧At F0 Hb F H' σ' own (unC Γ)∧σ'[i]?=some (some (.ref p))∧H' p=some (.lst vs)∧Paired (zid H') vs ((nss.take n).map (λns=>zdn ns k (v ns))++nss.drop n),⟨_,rfl,Nat.zero_le _,a0,e',hp,by simpa using zgt h2 h9⟩,?_⟩
 rintro n m σ1 H1 ⟨rfl,hn,a1,s1,p1,rows1⟩
 by_cases hlt:n<vs.length
 ·refine .inr ⟨⟨vs,vs[n],SqL.of p1,List.getElem?_eq_getElem hlt⟩,λσ' H'=>At F0 Hb F H' σ' own (unC Γ)∧σ'[i]?=some (some (.ref p))∧H' p=some (.lst vs)∧Paired (zid H') vs ((nss.take (n+1)).map (λns=>zdn ns k (v ns))++nss.drop (n+1)),λσ' H' z=>⟨_,by omega,rfl,by omega,z⟩,λv' H' y=>?_⟩
  obtain ⟨rfl,y⟩:=y
  have hv:=y vs (SqL.of p1)
  obtain ⟨ns,hns⟩:∃ ns,nss[n]?=some ns:=⟨_,List.getElem?_eq_getElem ↑0⟩
  have hrow:(((nss.take n).map (λns=>zdn ns k (v ns))++nss.drop n))[n]?=some ns:=by
   rw [List.getElem?_append_right (by rw [List.length_map,List.length_take];omega),List.length_map,List.length_take,Nat.min_eq_left ↑0,Nat.sub_self,List.getElem?_drop]
   exact hns
  obtain ⟨v2,ev,⟨r,er,hr⟩⟩:=zbC rows1 hrow
  rw [hv] at ev
  cases ev
  subst er
  obtain ⟨r',er',rF,rB,rO,rp⟩:=st _ (List.mem_of_getElem? hv)
  cases er'
  have Pn:P ns:=hP ns (List.mem_of_getElem? hns)
  have hjl:j<σ1.length:=by rw [a1.len];unfold unC;rw [List.length_map];exact (List.getElem?_eq_some_iff.mp ej).1
  have sj:((σ1.set j (some (.ref r))))[j]?=some (some (.ref r)):=List.getElem?_set_self hjl
  have a2:At F0 Hb F H' (σ1.set j (some (.ref r))) own (unC Γ):=⟨a1.g,a1.inj,a1.liv,λk s es=>by
   by_cases z:j=k
   ·subst z
    obtain ⟨r',e1,rfl⟩:=zmS es
    rw [ej] at e1
    cases e1
    trivial
   ·rw [List.getElem?_set_ne z]
    exact a1.sl k s es,by simp [a1.len]⟩
  have a3:At F0 Hb F H' (σ1.set j (some (.ref r))) own ((unC Γ).set j (.tl (dL (ns.map dI)))):=⟨a2.g,a2.inj,a2.liv,λk s es=>by
   by_cases z:j=k
   ·subst z
    rw [List.getElem?_set_self (by rw [← a1.len];exact hjl)] at es
    cases es
    rw [sj]
    refine ⟨.ref r,λb=>if b=r then some (.lst ↑56) else none,rfl,λb o z=>?_,λb o z=>?_,λl b z=>?_,r,ns.map V.int,rfl,if_pos rfl,zkm⟩
    ·dsimp only at z
     split at z
     ·cases z;rename_i w;rw [w];exact hr
     ·cases z
    ·dsimp only at z
     split at z
     ·rename_i w;rw [w];exact ⟨rF,rB⟩
     ·cases z
    ·dsimp only
     rw [if_neg (λw=>rO l (by rw [← w];exact z))]
   ·rw [List.getElem?_set_ne z] at es
    exact a2.sl k s es,by simpa using a2.len⟩
  obtain ⟨nn,en,hnn,_⟩:=zlI (hk ns Pn)
  refine h ns Pn F0 Hb F H' _ own _ a3 λw F2 H2 g2 qw=>?_
  have qw:w=.int (v ns):=qw
  subst qw
  have a4:=a3.grow (Grow.only a3.fh g2.h)
  refine ⟨_,sj,hj ns Pn F0 Hb F H2 _ own _ a4 λw F3 H3 g3 qk=>?_⟩
  have qk:w=.int k:=qk
  subst qk
  have s13:Same H' H3:=g2.h.trans g3.h
  refine ⟨r,ns.map V.int,k,nn,rfl,rfl,s13 _ _ hr,by rw [List.length_map];exact en,?_⟩
  have enew:(↑56).set nn (.int (v ns))=(zdn ns k (v ns)).map V.int:=by
   unfold zdn
   rw [en]
   show _=(ns.set nn (v ns)).map V.int
   rw [List.map_set]
  rw [enew]
  refine ⟨?_,?_,?_,?_⟩
  ·have:=(a2.grow (Grow.only a2.fh s13)).spoil (zqa hno) (.lst ((zdn ns k (v ns)).map V.int)) rF rB rO
   rwa [ztp] at this
  ·rw [List.getElem?_set_ne (Ne.symm hij)];exact s1
  ·rw [zat (Ne.symm rp)];exact s13 _ _ p1
  ·rw [← gst n ns hns]
   exact zlf (zgt s13 rows1) h7 hv
 ·have en:n=nss.length:=by omega
  subst en
  refine .inl ⟨⟨vs,SqL.of p1,by omega⟩,kk F0 Hb F H1 σ1 own D ?_ q⟩
  refine ⟨a1.g,a1.inj,a1.liv,λl s es=>?_,by rw [List.length_set];exact a1.len⟩
  by_cases z:i=l
  ·subst z
   rw [List.getElem?_set_self (by rw [← a1.len];exact (List.getElem?_eq_some_iff.mp s1).1)] at es
   cases es
   rw [s1]
   have rows2:Paired (zid H1) vs (nss.map λns=>zdn ns k (v ns)):=by simpa using rows1
   refine ⟨.ref p,λb=>if b=p then some (.lst vs) else if V.ref b∈vs then H1 b else none,rfl,λb o z=>?_,λb o z=>?_,λl b z=>?_,p,vs,rfl,if_pos rfl,h7,h8,?_⟩
   ·dsimp only at z
    split at z
    ·cases z;rename_i w;rw [w];exact p1
    ·split at z
     ·exact z
     ·cases z
   ·dsimp only at z
    split at z
    ·rename_i w;rw [w];exact pF
    ·split at z
     ·rename_i w
      obtain ⟨r,er,t1,t2,_⟩:=st _ w
      cases er
      exact ⟨t1,t2⟩
     ·cases z
   ·dsimp only
    rw [if_neg (λw=>pO l (by rw [← w];exact z)),if_neg]
    intro w
    obtain ⟨r,er,_,_,t3,_⟩:=st _ w
    cases er
    exact t3 l z
   ·clear q rows1 h9 hp h6 h kk
    have key:∀ {ws:List V} {mss:Jq},(∀ w∈ws,w∈vs)->Paired (zid H1) ws mss->Paired (zid λb=>if b=p then some (.lst vs) else if V.ref b∈vs then H1 b else none) ws mss:=by
     intro ws mss hw hq
     induction hq with
     | nil=>exact .nil
     | cons q1 _ ih =>
      obtain ⟨r,rfl,q2⟩:=q1
      have hm:=hw _ List.mem_cons_self
      refine .cons ⟨r,rfl,?_⟩ (ih λw hw'=>hw w (List.mem_cons_of_mem _ hw'))
      dsimp only
      rw [if_neg (λz=>h8 (by rw [← z];exact hm)),if_pos hm]
      exact q2
    exact key (λ_ hw=>hw) rows2
  ·rw [List.getElem?_set_ne z] at es
   exact a1.sl l s es
end
end L2
namespace Lat
open L2
theorem zjO {j:Nat}:∀ {xs:Ji} {as:List Vc} {i:Nat} {x x0:Int} {a:Vc},xs[i]?=some x0->as[i]?=some a->comb (xs.set i x) as j=comb xs as j+(x-x0)*a j
 | [],_,_,_,_,_,h,_=>by simp at h
 | _ :: _,[],_,_,_,_,_,h=>by simp at h
 | y :: xs,b :: as,0,x,x0,a,h,k=>by
  have h:y=x0:=by simpa using h
  have k:b=a:=by simpa using k
  subst h k
  simp only [List.set_cons_zero,comb]
  grind
 | y :: xs,b :: as,i+1,x,x0,a,h,k=>by
  have:=zjO (j:=j) (xs:=xs) (as:=as) (i:=i) (x:=x) (x0:=x0) (a:=a) ↑114 (by simpa using k)
  simp only [List.set_cons_succ,comb,this]
  omega
theorem zjG {j:Nat}:∀ {xs:Ji} {as:List Vc} {i:Nat} {x:Int} {a a0:Vc},xs[i]?=some x->as[i]?=some a0->comb xs (as.set i a) j=comb xs as j+x*(a j-a0 j)
 | [],_,_,_,_,_,h,_=>by simp at h
 | _ :: _,[],_,_,_,_,_,h=>by simp at h
 | y :: xs,b :: as,0,x,a,a0,h,k=>by
  have h:y=x:=by simpa using h
  have k:b=a0:=by simpa using k
  subst h k
  simp only [List.set_cons_zero,comb]
  grind
 | y :: xs,b :: as,i+1,x,a,a0,h,k=>by
  have:=zjG (j:=j) (xs:=xs) (as:=as) (i:=i) (x:=x) (a:=a) (a0:=a0) ↑114 (by simpa using k)
  simp only [List.set_cons_succ,comb,this]
  omega
theorem zib {j:Nat}:∀ {xs:Ji} {as:List Vc},(∀ (i:Nat) (x:Int) (a:Vc),xs[i]?=some x->as[i]?=some a->x*a j=0)->comb xs as j=0
 | [],_,_=>rfl
 | _ :: _,[],_=>rfl
 | x :: xs,a :: as,h=>by
  have h0:=h 0 x a rfl rfl
  have:=zib (j:=j) (xs:=xs) (as:=as) λi y b h1 h2=>h (i+1) y b (by simpa using h1) (by simpa using h2)
  simp only [comb,h0,this]
  rfl
theorem zkc {j x y:Nat} {q:Int} {t:Ji} {as:List Vc} {t1 t2:Int} {a1 a2:Vc} (hxy:x≠y) (h1:t[x]?=some t1) (h2:t[y]?=some t2) (k1:as[x]?=some a1) (k2:as[y]?=some a2) {b:Vc} (hb:b j=a2 j+q*a1 j) :
  comb (t.set x (t1-q*t2)) (as.set y b) j=comb t as j:=by
 rw [zjO h1 (by rw [List.getElem?_set_ne (Ne.symm hxy)];exact k1),zjG h2 k2,hb]
 grind
theorem zuT {m:Nat} {z:Int} {i:Nat}:vec (List.map (λ(y:Int)=>(if (decide (y=z)) then (1:Int) else 0)) (zbf 0 m)) i=if i<m∧(i:Int)=z then 1 else 0:=by
 unfold vec
 rw [List.getD_eq_getElem?_getD,List.getElem?_map]
 by_cases hi:i<m
 ·have:(zbf 0 m)[i]?=some (i:Int):=by
   unfold zbf
   rw [List.getElem?_map,List.getElem?_range hi]
   show some ((0:Int)+(i:Int))=some (i:Int)
   rw [Int.zero_add]
  rw [this]
  show (if (decide ((i:Int)=z)) then (1:Int) else 0)=_
  by_cases e:(i:Int)=z
  ·rw [decide_eq_true e,if_pos rfl,if_pos ⟨hi,e⟩]
  ·rw [decide_eq_false e,if_neg ⇑5,if_neg (λq=>e q.2)]
 ·rw [List.getElem?_eq_none (by rw [zaO];omega),if_neg (λq=>hi q.1)]
  rfl
theorem ziu {m:Nat} {c:Int}:∀ (ys:Ji) (s:Int) (i:Nat),i<m->0≤c+s->comb ys (List.map (λ(x:Int)=>vec (List.map (λ(y:Int)=>(if (decide (y=(c+x))) then (1:Int) else 0)) (zbf 0 m))) (zbf s ys.length)) i=if c+s≤(i:Int) then vec ys ((i:Int)-(c+s)).toNat else 0
 | [],s,i,_,_=>by
  rw [show comb [] _ i=0 from rfl]
  split
  ·simp [vec]
  ·rfl
 | y :: ys,s,i,hi,hs=>by
  have ih:=ziu (c:=c) ys (s+1) i hi ↑0
  rw [List.length_cons,zgV,List.map_cons]
  simp only [comb,ih]
  rw [zuT]
  by_cases e:(i:Int)=c+s
  ·rw [if_pos ⟨hi,e⟩,if_neg ↑0,if_pos ↑0,show ((i:Int)-(c+s)).toNat=0 by omega,zm2]
   omega
  ·rw [if_neg (λq=>e q.2)]
   by_cases e2:c+s≤(i:Int)
   ·rw [if_pos ↑0,if_pos e2,show ((i:Int)-(c+s)).toNat=((i:Int)-(c+(s+1))).toNat+1 by omega,zbk]
    omega
   ·rw [if_neg ↑0,if_neg e2]
    omega
end Lat
namespace L2
open PySem PySem.Spec PyProof.Rows
section
variable {Γ:Ctx} {u:TS} {m:Bool} {i:Nat}
def dX (v:V) (d:Ds):Ds:=⟨λH u=>u=v∧d.pr H u,λe h=>⟨h.1,d.up e h.2⟩⟩
theorem ziS {v:V} {d:Ds} (e:Γ[i]?=some (.va m (dX v d))):Ev Γ (zis i) m d:=λF0 Hb F H σ own Q a k =>
 (zaa e) F0 Hb F H σ own Q a λx F' H' g q=>k x F' H' g q.2
end
section
variable {X:Cx} {CX:CXT} {k:Nat} {f C:Addr} {fd:FuncData} {ps:List Str} {sp:Sp} {E:XK} {m:Str} {pos apos:Pos} {o e:Expr} {es:List Expr} {t:TA}
structure ByCls (K:W.Frag) (C f:Addr) (m:Str):Prop where
 ga:W.specialIn K (.ref C) "__getattribute__"=some (some (.builtin "type.__getattribute__"))
 rd:W.readsIn K C (.type "type")=true
 fn:W.findCls K (.ref C) (.type "type") m=some (.val (.ref f))
 kp:W.keepIn K (.ref f)=true
theorem zom {pl:Sem Bool} (he:PE X o (tC (.ref C))) (B:ByCls X.K C f m) (F:FnOk X.prog X.w X.K X.mg X.base CX k f fd ps sp) (hr:Room k X.A) (hb:zfP X.K fd ps []) (hx:zgS CX X E) (ha:PA X (e::es) t)
  (hst:starEach (e::es) X.env=(false,eval e X.env) :: starEach es X.env:=by rfl) (hpl:(↑79).any (·.1)=false:=by rfl)
  (ht:eval ↑137 X.env=(do
   let ov ← eval o X.env
   standAt apos.atName
   let (f,first) ← holding [ov] (getMethod ov m pl)
   callWith pos f first (backTo pos (starEach (e::es) X.env)) ↑194):=by rfl) :
  PE X ↑137 (tCall sp [] E t):=by
 intro pins s σ H Q I h
 refine W.methodCall_KW (pl:=pl) (thn (he pins s σ H (λv H1=>v=.ref C∧t σ H1 λvs H2=>sp (vs++[]) H2 Q E) I ⟨rfl,h⟩) λu s1 ⟨x,H1,I1,rx,ex,q⟩=>?_) ht
 subst ex
 obtain rfl:u=Value.ref C:=rx
 refine W.method_cls I1.kIn B.ga (W.cls_value I1.kIn B.rd B.fn rfl ?_)
 refine W.callWith_K (first:=[]) (h₀:=X.base) I.ok.mod.kin B.kp (thn (ha pos pins _ σ H1 _ (I1.tok _) q) λus s2 ⟨vs,H2,I2,r,q2⟩=>⟨I2.kIn,?_⟩) hst hpl
 exact znh F hr hb .nil hx I2 r q2
end
section
variable {E:XS} {Γ:Ctx} {u:TS} {o:Oc} {m m2:Bool} {i:Nat} {ds:List Ds} {tr:TA}
theorem zl1 {ι:Type} {C p dx:Addr} {args:ι->List Ds} {pre:ι->Prop} {fs:ι->List (Str×Ds)} {E1:XK} (x:ι) (e:Γ[i]?=some (.ob m C p dx [])) (h:EvA Γ tr m2 ds) (ha:ds=args x) (hp:pre x) (k:Run E (Γ.set i (.ob m C p dx (fs x))) u o) :
  Run E Γ (tSeq (znB (tCall (zpX C args pre m fs) [] E1 (tCons (zis i) tr))) u) o:=λF0 Hb F H σ own D a q=>by
 subst ha
 have hi:i<σ.length:=by rw [a.len];exact (↑52).1
 obtain ⟨vs0,z1,_⟩:=a.sl i _ e
 have e':σ[i]?=some (some (.ref p)):=by
  rw [List.getElem?_eq_getElem hi] at z1 ⊢
  exact congrArg some z1
 refine ⟨_,e',h F0 Hb F H σ own _ a λvs F1 H1 g1 q1=>?_⟩
 have a1:=a.grow g1
 obtain ⟨vs1,w1,w2,w3,w4,w5,w6⟩:=a1.sl i _ e
 cases w6
 have ne:dx≠p:=λz=>by
  have h1:=w5.1;have h2:=w5.2
  rw [z] at h2
  rw [h1] at h2;cases h2
 have hE:∀ b,b≠p->b≠dx->(if b=p∨b=dx then none else H1 b)=H1 b:=λb n1 n2=>by
  rw [if_neg (by simp [n1,n2])]
 have hEp:(λb=>if b=p∨b=dx then none else H1 b) p=none:=if_pos ↑37
 have hEd:(λb=>if b=p∨b=dx then none else H1 b) dx=none:=if_pos (.inr rfl)
 have sE:∀ {R:Hp},Same R H1->R p=none->R dx=none->Same R (λb=>if b=p∨b=dx then none else H1 b):=λhR n1 n2 b w z=>by
  have b1:b≠p:=λy=>by rw [y,n1] at z;cases z
  have b2:b≠dx:=λy=>by rw [y,n2] at z;cases z
  show (if b=p∨b=dx then none else H1 b)=some w
  rw [hE b b1 b2];exact hR b w z
 refine ⟨x,p,dx,vs,λb=>if b=p∨b=dx then none else H1 b,F1,by rw [List.append_nil],hEp,hEd,ne,?_,sE a1.fh w3.1 w3.2,?_,hp,λus F' H' g n1 n2 h1 h2 h3=>?_⟩
 ·funext b
  by_cases b1:b=p
  ·rw [b1,zaE,w5.1]
  ·rw [zat b1]
   by_cases b2:b=dx
   ·rw [b2,zaE,w5.2]
   ·rw [zat b2,hE b b1 b2]
 ·exact zdG (ds:=[]) zbb q1
 ·have gg:Grow F1 H1 F' (upd H' p (.ins C dx [])):=by
   refine ⟨g.f,λb w z=>?_,λb w z=>?_,λb z1 z2=>?_⟩
   ·rw [zat (λy=>by rw [y,n1] at z;cases z)];exact g.fh b w z
   ·by_cases b1:b=p
    ·rw [b1,zaE];rw [b1,w5.1] at z;exact z
    ·rw [zat b1]
     by_cases b2:b=dx
     ·rw [b2,h2];rw [b2,w5.2] at z;exact z
     ·exact g.h b w (by show (if b=p∨b=dx then none else H1 b)=some w;rw [hE b b1 b2];exact z)
   ·by_cases b1:b=p
    ·rw [b1];exact n1
    ·by_cases b2:b=dx
     ·rw [b2];exact n2
     ·exact g.no b (by show (if b=p∨b=dx then none else H1 b)≠none;rw [hE b b1 b2];exact z1) z2
  have a2:=(a1.grow gg).turnOb (n:=m) (ws:=us) (gs:=fs x) e (zb4 (λ_ b z=>⟨z.1,b.2.up (zgh (sE a1.g.h w4.1 w4.2)) z.2⟩) h3)
  have eq:upd (upd H' p (.ins C dx [])) p (.ins C dx us)=H':=by
   funext b
   by_cases b1:b=p
   ·rw [b1,zaE,h1]
   ·rw [zat b1,zat b1]
  rw [eq] at a2
  exact k F0 Hb F' H' σ own D a2 q
end
section
variable {Γ:Ctx} {m:Bool}
theorem zsa {ta:TE} {n:Int} (h:Ev Γ ta false (dI n)):Ev Γ (tCB (λxs H Q=>∃i,xs=[.int i]∧Q (.int (if i<0 then-i else i)) H) (tCons ta tNil)) m (dI ((n.natAbs:Nat):Int)):=λF0 Hb F H σ own Q a k =>
 h F0 Hb F H σ own _ a λv F1 H1 g1 q1=>by
  have q1:v=.int n:=q1
  subst q1
  refine ⟨n,rfl,k _ F1 H1 g1 ?_⟩
  show V.int _=V.int _
  congr 1
  split<;>omega
end
section
variable {f C:Addr} {E:XK} {m:Str} {ta:TE} {t:TA}
theorem zi2 {Γ:Ctx} {b:Bool} {ι:Type} {args:ι->List Ds} {pre:ι->Prop} {res:ι->Rs} {ds:List Ds} {d:Ds} {fs:List (Str×Ds)} (x:ι) (h1:Ev Γ ta false (dO C fs)) (h:EvA Γ t false ds) (ha:dO C fs :: ds=args x) (hp:pre x) (hr:res x=.va b d) (hn:((fs.map Prod.fst)).contains m=false) :
  Ev Γ (zqq C m (Spv args pre res) [] E ta t) b d:=λF0 Hb F H σ own Q a kk=>by
 refine h1 F0 Hb F H σ own _ a λu F1 H1 g1 ⟨p,dx,vs,e1,e2,e3,e4⟩=>⟨p,dx,vs,e1,g1.fh _ _ e2,?_,?_⟩
 ·have:∀ {vs:List (Str×V)} {fs:List (Str×Ds)} {R:Str×V->Str×Ds->Prop},Paired (λa b=>a.1=b.1∧R a b) vs fs->((fs.map Prod.fst)).contains m=false->vs.lookup m=none:=by
   intro vs fs R hq
   induction hq with
   | nil=>intro _;rfl
   | @cons a b _ _ w _ ih =>
    intro z
    rw [List.map_cons,List.contains_cons,Bool.or_eq_false_iff] at z
    obtain ⟨a1,a2⟩:=a
    rw [List.lookup_cons]
    have:(m == a1)=false:=by rw [show a1=b.1 from w.1];exact z.1
    rw [this]
    exact ih z.2
  exact this e4 hn
 ·refine h F0 Hb F1 H1 σ own _ ↑20 λws F2 H2 g2 q2=>⟨x,F2,g2.fh,?_,hp,?_⟩
  ·rw [← ha,List.append_nil]
   refine .cons ((dO C fs).up (show Same F1 F2 from g2.f) ⟨p,dx,vs,e1,e2,e3,e4⟩) q2
  ·rw [hr]
   exact λv F' H' g q=>kk v F' H' ((↑48).trans g) (d.up (zgh ((↑20).g.h.trans g2.h)) q)
end
end L2
namespace Lat
open L2
def dv:Ji->Vc->Int
 | [],_=>0
 | a :: w,u=>a*u 0+dv w λi=>u (i+1)
theorem zpx:∀ (w t:Ji),((List.map (λ(x:Int×Int)=>x.1*x.2) (List.zip w t))).sum=dv w (vec t)
 | [],_=>rfl
 | a :: w,[]=>by
  have:∀ (w:Ji),dv w (λ_=>0)=0:=by
   intro w
   induction w with
   | nil=>rfl
   | cons a w ih=>show a*0+dv w (λ_=>0)=0;rw [ih];omega
  exact (this (a :: w)).symm
 | a :: w,b :: t=>by
  show a*b+((List.map (λ(x:Int×Int)=>x.1*x.2) (List.zip w t))).sum=a*b+dv w λi=>vec (b :: t) (i+1)
  rw [zpx w t]
  congr 2
theorem ziy:∀ (w:Ji) (u v:Vc) (x:Int),dv w (λi=>u i+x*v i)=dv w u+x*dv w v
 | [],_,_,x=>by show (0:Int)=0+x*0;omega
 | a :: w,u,v,x=>by
  show a*(u 0+x*v 0)+dv w (λi=>u (i+1)+x*v (i+1))=_
  rw [ziy w (λi=>u (i+1)) (λi=>v (i+1)) x]
  show _=a*u 0+dv w (λi=>u (i+1))+x*(a*v 0+dv w λi=>v (i+1))
  grind
theorem zkE (w:Ji):dv w (λ_=>0)=0:=by
 have:=ziy w (λ_=>0) (λ_=>0) (-1)
 have e:(λ(i:Nat)=>(0:Int)+-1*0)=λ_=>0:=by funext i;omega
 rw [e] at this
 omega
theorem ziX {w:Ji} {u v:Vc} (h:∀ i,u i=v i):dv w u=dv w v:=by rw [show u=v from funext h]
theorem zpV:∀ (w:Ji) (c:Int) (u:Vc),dv (mul w c) u=dv w u*c
 | [],c,u=>by show (0:Int)=0*c;omega
 | a :: w,c,u=>by
  show a*c*u 0+dv (mul w c) (λi=>u (i+1))=(a*u 0+dv w λi=>u (i+1))*c
  rw [zpV w c]
  grind
theorem zm1:∀ {w:Ji} {k:Nat} {y:Int} {u:Vc},k<w.length->dv (w.set k y) u=dv w u+(y-vec w k)*u k
 | a :: w,0,y,u,_=>by
  show y*u 0+dv w (λi=>u (i+1))=a*u 0+dv w (λi=>u (i+1))+(y-a)*u 0
  grind
 | a :: w,k+1,y,u,h=>by
  show a*u 0+dv (w.set k y) (λi=>u (i+1))=a*u 0+dv w (λi=>u (i+1))+(y-vec (a :: w) (k+1))*u (k+1)
  rw [zm1 (w:=w) (k:=k) ↑114,zbk]
  omega
theorem zpW {A:Vc->Prop} {w:Ji} {M:Int} {u:Vc} (h:∀ a,A a->M ∣ dv w a) (hu:Sp A u):M ∣ dv w u:=by
 induction hu with
 | zero=>rw [zkE];exact Int.dvd_zero _
 | @add u a z _ ha ih=>rw [ziy];exact Int.dvd_add ih (Int.dvd_trans (h a ha) (Int.dvd_mul_left _ _))
theorem zsn {X B:Nat}:∀ {w:Ji} {u:Vc},(∀ x∈w,x.natAbs≤X)->(∀ i,(u i).natAbs≤B)->(dv w u).natAbs≤w.length*(X*B)
 | [],u,_,_=>by show (0:Int).natAbs≤_;simp
 | a :: w,u,h,k=>by
  have h1:=zsn (w:=w) (u:=λi=>u (i+1)) (λy hy=>h y ↑233) λi=>k (i+1)
  have h2:(a*u 0).natAbs≤X*B:=by rw [Int.natAbs_mul];exact Nat.mul_le_mul (h a List.mem_cons_self) (k 0)
  show ((a*u 0+dv w λi=>u (i+1))).natAbs≤(w.length+1)*(X*B)
  rw [Nat.succ_mul]
  omega
theorem zq7 {α:Type} {xs:List α} {k:Nat} {x:α} (h:k<xs.length):zdn xs (k:Int) x=xs.set k x:=by
 unfold zdn ixN
 rw [if_pos ↑0,if_pos ↑0]
 simp
theorem zlu {l:Ji} {o:Nat} {x:Int} {i:Nat} (h:o<l.length):vec (l.set o x) i=if i=o then x else vec l i:=by
 unfold vec
 rw [List.getD_eq_getElem?_getD,List.getD_eq_getElem?_getD,List.getElem?_set]
 by_cases z:o=i
 ·subst z;rw [if_pos rfl,if_pos rfl,if_pos h];rfl
 ·rw [if_neg z,if_neg (Ne.symm z)]
def lv1 (w t:Ji):Ji:=zdn (mul w (vec t (hd t))) (hd t:Int) (-(dv w (vec t)))
def lv (N:Nat):Jq->Ji
 | []=>zc7 ((N:Int)-1) [(0:Int)]++[(1:Int)]
 | t :: ss=>lv1 (lv N ss) t
def prh:Jq->Int
 | []=>1
 | t :: ss=>vec t (hd t)*prh ss
theorem znm (N:Nat):∀ ss:Jq,List.foldl lv1 (lv N []) ss.reverse=lv N ss
 | []=>rfl
 | t :: ss=>by rw [List.reverse_cons,List.foldl_append,znm N ss];rfl
theorem zpP {n:Nat}:(lv (n+1) []).length=n+1∧(∀ i,i<n->vec (lv (n+1) []) i=0)∧vec (lv (n+1) []) n=1:=by
 have hl:(zc7 (((n+1:Nat):Int)-1) [(0:Int)]).length=n:=by rw [show ((n+1:Nat):Int)-1=(n:Int) by omega];exact zdc
 refine ⟨by show ((zc7 (((n+1:Nat):Int)-1) [(0:Int)]++[(1:Int)])).length=_;rw [List.length_append,hl];rfl,λi hi=>?_,?_⟩
 ·show vec (zc7 (((n+1:Nat):Int)-1) [(0:Int)]++[(1:Int)]) i=0
  rw [zi0,hl,if_pos hi]
  rw [show ((n+1:Nat):Int)-1=(n:Int) by omega]
  unfold zc7 vec
  rw [List.getD_eq_getElem?_getD]
  cases q:((List.replicate (n:Int).toNat [(0:Int)]).flatten)[i]? with
  | none=>rfl
  | some y =>
   obtain ⟨l,h1,h2⟩:=List.mem_flatten.mp (List.mem_of_getElem? q)
   rw [List.eq_of_mem_replicate h1] at h2
   rw [List.mem_singleton.mp h2];rfl
 ·show vec (zc7 (((n+1:Nat):Int)-1) [(0:Int)]++[(1:Int)]) n=1
  rw [zi0,hl,if_neg ↑0,Nat.sub_self];rfl
theorem zsy {n:Nat}:∀ {ss:Jq} {lo:Nat},Ech (n+1) lo ss->(∀ t∈ss,hd t<n) →
  (↑57).length=n+1∧(∀ i,i<lo->i<n->vec ↑57 i=0)∧(∀ t∈ss,dv ↑57 (vec t)=0)∧vec ↑57 n=prh ss∧0<prh ss
 | [],lo,_,_=>by
  obtain ⟨h1,h2,h3⟩:=zpP (n:=n)
  exact ⟨h1,λi _ hi=>h2 i hi,by simp,h3,by decide⟩
 | t :: ss,lo,e,h=>by
  obtain ⟨e1,e2,e3,e4,e5⟩:=e
  obtain ⟨h1,h2,h3,h4,h5⟩:=zsy e5 λs hs=>h s (List.mem_cons_of_mem _ hs)
  have ht:=h t List.mem_cons_self
  have hk:hd t<(mul ↑57 (vec t (hd t))).length:=by rw [zby,h1];omega
  have z0:vec ↑57 (hd t)=0:=h2 _ ↑0 ht
  have ew:lv (n+1) (t :: ss)=(mul ↑57 (vec t (hd t))).set (hd t) (-(dv ↑57 (vec t))):=by
   show lv1 _ _=_
   unfold lv1
   rw [zq7 hk]
  have hdv:∀ u:Vc,dv (lv (n+1) (t :: ss)) u=dv ↑57 u*vec t (hd t)-dv ↑57 (vec t)*u (hd t):=λu=>by
   rw [ew,zm1 hk,zpV,zdZ,z0]
   grind
  refine ⟨by rw [ew,List.length_set,zby,h1],λi hi hn=>?_,λs hs=>?_,?_,Int.mul_pos e4 h5⟩
  ·rw [ew,zlu hk,if_neg ↑0,zdZ,h2 i ↑0 hn];omega
  ·rw [hdv]
   rcases List.mem_cons.mp hs with rfl | hs
   ·omega
   ·rw [h3 s hs,e5.before (Nat.lt_succ_self _) s hs];omega
  ·rw [ew,zlu hk,if_neg ↑0,zdZ,h4]
   show prh ss*vec t (hd t)=vec t (hd t)*prh ss
   exact Int.mul_comm _ _
theorem zqb {n s a:Nat} {w t:Ji} (T:Sd n s t) (hw:w.length≤1000) (hb:Bit a w):Bit (a+(s+9000)) (lv1 w t):=λx hx=>by
 rcases zhK hx with rfl | hx
 ·have h1:=zsn hb T.bit.vec
  have h2:w.length*(2^a*2^s)≤2^10*(2^a*2^s):=Nat.mul_le_mul_right _ ↑0
  rw [← Nat.pow_add,← Nat.pow_add] at h2
  have h3:2^(10+(a+s))≤2^(a+(s+9000)):=Nat.pow_le_pow_right ↑1 ↑0
  rw [← Nat.pow_add] at h1
  rw [Int.natAbs_neg]
  exact Nat.le_trans h1 (Nat.le_trans h2 h3)
 ·unfold mul at hx
  obtain ⟨y,hy,rfl⟩:=List.mem_map.mp hx
  show (y*vec t (hd t)).natAbs≤_
  rw [Int.natAbs_mul]
  exact Nat.le_trans (zfX (hb y hy) T.top) (Nat.pow_le_pow_right ↑1 ↑0)
theorem zre {w t:Ji}:(lv1 w t).length=w.length:=by unfold lv1;rw [zgi,zby]
def lvI (N:Nat) (ss:Jq) (i:Nat) (w:Ji):Prop:=w=lv N (ss.drop (ss.length-i))
theorem zuh {N:Nat} {ss:Jq}:lvI N ss 0 (lv N []):=by
 unfold lvI
 rw [Nat.sub_zero,List.drop_length]
theorem ztR {N i:Nat} {ss:Jq} {t w:Ji} (hx:ss.reverse[i]?=some t) (I:lvI N ss i w):lvI N ss (i+1) (lv1 w t):=by
 have hi:i<ss.length:=by have:=((List.getElem?_eq_some_iff.mp hx)).1;rwa [List.length_reverse] at this
 have e:ss[ss.length-(i+1)]?=some t:=by rw [← hx,List.getElem?_reverse hi];congr 1;omega
 unfold lvI at *
 have hj:ss.length-(i+1)<ss.length:=by omega
 rw [List.drop_eq_getElem_cons hj,show ss.length-(i+1)+1=ss.length-i by omega]
 rw [List.getElem?_eq_getElem hj] at e
 cases e
 show lv1 w _=lv1 (lv N _) _
 rw [← I]
theorem zns {n s:Nat}:∀ {ss:Jq},(∀ t∈ss,Sd (n+1) s t)->n≤900->(↑57).length=n+1∧Bit (1+ss.length*(s+9000)) ↑57
 | [],_,_=>⟨zpP.1,λx hx=>by
  have hx:x∈zc7 (((n+1:Nat):Int)-1) [(0:Int)]++[(1:Int)]:=hx
  rcases List.mem_append.mp hx with hx | hx
  ·unfold zc7 at hx
   obtain ⟨l,h1,h2⟩:=List.mem_flatten.mp hx
   rw [List.eq_of_mem_replicate h1] at h2
   rw [List.mem_singleton.mp h2];exact Nat.zero_le _
  ·rw [List.mem_singleton.mp hx]
   exact Nat.one_le_two_pow⟩
 | t :: ss,h,hn=>by
  obtain ⟨h1,h2⟩:=zns (λs hs=>h s (List.mem_cons_of_mem _ hs)) hn
  refine ⟨by show (lv1 _ _).length=_;rw [zre,h1],(zqb (h t List.mem_cons_self) ↑0 h2).mono ?_⟩
  rw [List.length_cons,Nat.succ_mul];omega
theorem zpH {E:Nat}:∀ {ss:Jq},(∀ t∈ss,((vec t (hd t))).natAbs≤2^E)->(prh ss).natAbs≤2^(E*ss.length)
 | [],_=>by show (1:Int).natAbs≤_;rw [List.length_nil,Nat.mul_zero];decide
 | t :: ss,h=>by
  show (vec t (hd t)*prh ss).natAbs≤_
  rw [Int.natAbs_mul,List.length_cons,Nat.mul_succ,Nat.add_comm]
  exact zfX (h t List.mem_cons_self) (zpH λs hs=>h s (List.mem_cons_of_mem _ hs))
structure GdI (g0 s0:Int) (p:Int×Int):Prop where
 a:0≤p.1
 b:0≤p.2
 d:∀ d:Int,d ∣ p.1->d ∣ p.2->d ∣ g0∧d ∣ s0
 n:g0≠0∨s0≠0->p.1≠0∨p.2≠0
theorem GdI.start {g s:Int} (h1:0≤g) (h2:0≤s):GdI g s (g,s):=⟨h1,h2,λ_ a b=>⟨a,b⟩,λh=>h⟩
theorem GdI.step {g s:Int} {p:Int×Int} (I:GdI g s p) (h:p.2≠0):GdI g s (p.2,p.1%p.2)∧(p.1%p.2).toNat<p.2.toNat:=by
 have hb:=I.b
 have m0:=Int.emod_nonneg p.1 h
 have m1:=Int.emod_lt_of_pos p.1 (show 0<p.2 by omega)
 refine ⟨⟨hb,m0,λd d1 d2=>I.d d ?_ d1,λ_=>.inl h⟩,by omega⟩
 have:p.1%p.2+p.2*(p.1/p.2)=p.1:=Int.emod_add_mul_ediv p.1 p.2
 rw [← this]
 exact Int.dvd_add d2 (Int.dvd_trans d1 (Int.dvd_mul_right _ _))
theorem GdI.done {g s:Int} {p:Int×Int} (I:GdI g s p) (h:p.2=0):0≤p.1∧p.1 ∣ g∧p.1 ∣ s∧(g≠0∨s≠0->0<p.1):=by
 have:=I.d p.1 (Int.dvd_refl _) (by rw [h];exact Int.dvd_zero _)
 refine ⟨I.a,this.1,this.2,λz=>?_⟩
 have:=I.a
 rcases I.n z with w | w
 ·omega
 ·exact absurd h w
def DvI (l:Ji) (i:Nat) (g:Int):Prop:=0≤g∧(∀ x∈l.take i,g ∣ x)∧((∃ x∈l.take i,x≠0)->0<g)
theorem DvI.start {l:Ji}:DvI l 0 0:=⟨Int.le_refl _,by simp,by simp⟩
theorem DvI.step {l:Ji} {i:Nat} {g g' x:Int} (hx:l[i]?=some x) (I:DvI l i g) (h:0≤g'∧g' ∣ g∧g' ∣ ↑152∧(g≠0∨↑152≠0->0<g')):DvI l (i+1) g':=by
 obtain ⟨h1,h2,h3,h4⟩:=h
 have hm:∀ y∈l.take (i+1),y∈l.take i∨y=x:=λy hy=>by
  rw [List.take_add_one,hx] at hy
  rcases List.mem_append.mp hy with hy | hy
  ·exact .inl hy
  ·exact .inr (by simpa using hy)
 have hxx:g' ∣ x:=by rw [← Int.dvd_natAbs];exact h3
 refine ⟨h1,λy hy=>?_,λ⟨y,hy,hn⟩=>h4 ?_⟩
 ·rcases hm y hy with hy | rfl
  ·exact Int.dvd_trans h2 (I.2.1 y hy)
  ·exact hxx
 ·rcases hm y hy with hy | rfl
  ·have:=I.2.2 ⟨y,hy,hn⟩
   exact .inl ↑0
  ·exact .inr ↑0
def zgL (sw:Jq) (x:Ji):Jq:=List.map (λ(r:Ji)=>r++[(0:Int)]) sw++[x++[⇑7]]
theorem zgl {l:Ji}:vec (l++[(0:Int)])=vec l:=by
 funext i
 rw [zi0]
 split
 ·rfl
 ·rename_i h
  rw [zda (l:=l) ↑0]
  cases q:i-l.length with
  | zero=>rfl
  | succ k=>rw [zbk];rfl
theorem zgQ {l:Ji} {n:Nat} (h:l.length=n) (i:Nat):vec (l++[⇑7]) i=vec l i-(if i=n then 1 else 0):=by
 rw [zi0,h]
 by_cases q:i<n
 ·rw [if_pos q,if_neg ↑0];omega
 ·rw [if_neg q,zda (l:=l) ↑0]
  by_cases z:i=n
  ·rw [if_pos z,z,Nat.sub_self];rfl
  ·rw [if_neg z]
   obtain ⟨k,hk⟩:∃ k,i-n=k+1:=⟨i-n-1,by omega⟩
   rw [hk,zbk];rfl
theorem znX {n:Nat} {sw:Jq} {x:Ji} (h:∀ r∈sw,r.length=n) (hx:x.length=n):∀ r∈zgL sw x,r.length=n+1:=λr hr=>by
 rcases List.mem_append.mp hr with hr | hr
 ·obtain ⟨s,hs,rfl⟩:=List.mem_map.mp hr
  rw [List.length_append,h s hs];rfl
 ·rw [List.mem_singleton.mp hr,List.length_append,hx];rfl
theorem zni {b:Nat} {sw:Jq} {x:Ji} (h:∀ r∈sw,Bit b r) (hx:Bit b x):∀ r∈zgL sw x,Bit b r:=λr hr y hy=>by
 rcases List.mem_append.mp hr with hr | hr
 ·obtain ⟨s,hs,rfl⟩:=List.mem_map.mp hr
  rcases List.mem_append.mp hy with hy | hy
  ·exact h s hs y hy
  ·rw [List.mem_singleton.mp hy];exact Nat.zero_le _
 ·rw [List.mem_singleton.mp hr] at hy
  rcases List.mem_append.mp hy with hy | hy
  ·exact hx y hy
  ·rw [List.mem_singleton.mp hy];exact Nat.one_le_two_pow
theorem zsE {n:Nat} {sw:Jq} {x:Ji} (h:∀ r∈sw,r.length=n) (hx:x.length=n) {v:Vc} (hv:SpL (zgL sw x) v):SpL sw (λi=>v i+v n*(vec x i-if i=n then 1 else 0)):=by
 have hv:Sp (λu=>(∃ s∈sw,u=vec s)∨u=vec (x++[⇑7])) v:=Sp.mono (λa ⟨r,hr,e⟩=>by
  rcases List.mem_append.mp hr with hr | hr
  ·obtain ⟨s,hs,rfl⟩:=List.mem_map.mp hr
   exact .inl ⟨s,hs,by rw [e,zgl]⟩
  ·rw [List.mem_singleton.mp hr] at e
   exact .inr e) hv
 obtain ⟨u,y,hu,e⟩:=hv.split
 have u0:u n=0:=Sp.at0 (λa ⟨s,hs,e⟩=>by rw [e];exact zda (by rw [h s hs];exact Nat.le_refl _)) hu
 have en:=e n
 rw [u0,zgQ hx,if_pos rfl,zda (l:=x) ↑0] at en
 have hy:v n=-y:=by omega
 refine Sp.conv (A:=λu=>∃ s∈sw,u=vec s) hu λi=>?_
 rw [e i,hy,zgQ hx]
 grind
theorem zpr {n:Nat} {sw:Jq} {x:Ji} (hx:x.length=n) {d:Int} (h:SpL sw (λi=>d*vec x i)):SpL (zgL sw x) (λi=>if i=n then d else 0):=by
 have h1:SpL (zgL sw x) (λi=>d*vec x i):=Sp.mono (λa ⟨s,hs,e⟩=>⟨s++[(0:Int)],List.mem_append_left _ (List.mem_map.mpr ⟨s,hs,rfl⟩),by rw [e,zgl]⟩) h
 have h2:SpL (zgL sw x) (vec (x++[⇑7])):=Sp.mem ⟨_,List.mem_append_right _ ↑143,rfl⟩
 refine (Sp.lin 1 (-d) h1 h2).conv λi=>?_
 rw [zgQ hx]
 by_cases z:i=n
 ·rw [if_pos z,if_pos z];grind
 ·rw [if_neg z,if_neg z];grind
theorem zkH {n:Nat}:∀ {R:Jq} {lo:Nat},Ech (n+1) lo R->R=List.filter (λ(t:Ji)=>decide (hd t<n)) R∨∃ t,hd t=n∧R=List.filter (λ(t:Ji)=>decide (hd t<n)) R++[t]
 | [],_,_=>.inl rfl
 | t :: R,lo,e=>by
  obtain ⟨e1,e2,e3,e4,e5⟩:=e
  by_cases q:hd t<n
  ·rw [List.filter_cons,if_pos (by simpa using q)]
   rcases zkH e5 with z | ⟨s,h1,h2⟩
   ·exact .inl (by rw [← z])
   ·exact .inr ⟨s,h1,by rw [List.cons_append,← h2]⟩
  ·have hR:R=[]:=by
    cases R with
    | nil=>rfl
    | cons s R=>have:=e5.2.1;have:=e5.2.2.1;omega
   subst hR
   rw [List.filter_cons,if_neg (by simpa using q)]
   exact .inr ⟨t,by omega,rfl⟩
theorem zhn {n N:Nat} {p:Ji->Bool}:∀ {R:Jq} {lo:Nat},Ech N lo R->Ech N lo (List.filter p R)
 | [],_,_=>trivial
 | t :: R,lo,e=>by
  obtain ⟨e1,e2,e3,e4,e5⟩:=e
  rw [List.filter_cons]
  split
  ·exact ⟨e1,e2,e3,e4,zhn (n:=n) e5⟩
  ·exact (zhn (n:=n) e5).mono ↑0
theorem zkJ:∀ {ss:Jq} {t:Ji},prh (ss++[t])=prh ss*vec t (hd t)
 | [],t=>by show vec t (hd t)*1=1*vec t (hd t);omega
 | s :: ss,t=>by show vec s (hd s)*prh (ss++[t])=vec s (hd s)*prh ss*vec t (hd t);rw [zkJ,Int.mul_assoc]
theorem zjs:∀ {w:Ji} {n:Nat} {u:Vc},w.length=n+1->dv w u=dv (w.take n) u+vec w n*u n
 | [a],0,u,_=>by show a*u 0+0=0+a*u 0;omega
 | a :: b :: w,n+1,u,h=>by
  show a*u 0+dv (b :: w) (λi=>u (i+1))=a*u 0+dv ((b :: w).take n) (λi=>u (i+1))+vec (a :: b :: w) (n+1)*u (n+1)
  rw [zjs (w:=b :: w) (n:=n) ↑114,zbk]
  omega
 | [a],n+1,u,h=>by simp at h
 | _ :: _ :: _,0,u,h=>by simp at h
 | [],_,u,h=>by simp at h
structure Shw (n:Nat) (sw:Jq) (x:Ji) (R ss:Jq):Prop where
 st:Stairs (n+1) (zgL sw x) R
 ss:ss=List.filter (λ(t:Ji)=>decide (hd t<n)) R
 hl:∀ r∈sw,r.length=n
 hx:x.length=n
section
variable {n:Nat} {sw:Jq} {x:Ji} {R ss:Jq}
theorem Shw.low (h:Shw n sw x R ss):∀ t∈ss,t∈R∧hd t<n:=λt ht=>by
 rw [h.ss] at ht
 obtain ⟨h1,h2⟩:=List.mem_filter.mp ht
 exact ⟨h1,by simpa using h2⟩
theorem Shw.lv (h:Shw n sw x R ss):(↑57).length=n+1∧(∀ t∈ss,dv ↑57 (vec t)=0)∧vec ↑57 n=prh ss∧0<prh ss:=by
 have e:Ech (n+1) 0 ss:=by rw [h.ss];exact zhn (n:=n) h.st.ech
 obtain ⟨h1,h2,h3,h4,h5⟩:=zsy e λt ht=>(h.low t ht).2
 exact ⟨h1,h3,h4,h5⟩
theorem Shw.row (h:Shw n sw x R ss) {M:Int} (hM:∀ t∈R,M ∣ dv (Lat.lv (n+1) ss) (vec t)):(∀ s∈sw,M ∣ dv ↑60 (vec s))∧M ∣ dv ↑60 (vec x)-prh ss:=by
 obtain ⟨h1,h2,h3,h4⟩:=h.lv
 have hs:∀ r∈zgL sw x,M ∣ dv (Lat.lv (n+1) ss) (vec r):=λr hr=>zpW (λa ⟨t,ht,e⟩=>by rw [e];exact hM t ht) (h.st.out r hr)
 refine ⟨λs hs'=>?_,?_⟩
 ·have:=hs (s++[(0:Int)]) (List.mem_append_left _ (List.mem_map.mpr ⟨s,hs',rfl⟩))
  rw [zgl,zjs h1,zda (l:=s) (by rw [h.hl s hs'];exact Nat.le_refl _)] at this
  simpa using this
 ·have:=hs _ (List.mem_append_right _ ↑143)
  rw [zjs h1,zgQ h.hx,if_pos rfl,zda (l:=x) (by rw [h.hx];exact Nat.le_refl _),h3] at this
  have e:dv ↑60 (vec (x++[⇑7]))=dv ↑60 (vec x):=by
   have hl:(↑60).length≤n:=by rw [List.length_take];omega
   have:∀ {w:Ji} {u v:Vc},(∀ i,i<w.length->u i=v i)->dv w u=dv w v:=by
    intro w
    induction w with
    | nil=>intro u v _;rfl
    | cons a w ih =>
     intro u v q
     show a*u 0+_=a*v 0+_
     rw [q 0 ⇑5,ih λi hi=>q (i+1) ↑63]
   exact this λi hi=>by rw [zgQ h.hx,if_neg ↑0];omega
  rw [e] at this
  have e2:dv ↑60 (vec x)+prh ss*(0-1)=dv ↑60 (vec x)-prh ss:=by omega
  rw [e2] at this
  exact this
theorem Shw.line (h:Shw n sw x R ss) (e:R=ss):(∀ s∈sw,dv ↑60 (vec s)=0)∧dv ↑60 (vec x)=prh ss∧∀ d:Int,SpL sw (λi=>d*vec x i)->d=0:=by
 obtain ⟨h1,h2,h3,h4⟩:=h.lv
 obtain ⟨r1,r2⟩:=h.row (M:=0) λt ht=>by rw [e] at ht;rw [h2 t ht];exact Int.dvd_refl _
 refine ⟨λs hs=>Int.zero_dvd.mp (r1 s hs),by have:=Int.zero_dvd.mp r2;omega,λd hd'=>Classical.byContradiction λhn=>?_⟩
 have hv:=zpr h.hx hd'
 have hv2:SpL R (λi=>if i=n then d else 0):=Sp.sub (A:=λu=>∃ r∈zgL sw x,u=vec r) (λa ⟨r,hr,q⟩=>by rw [q];exact h.st.out r hr) hv
 obtain ⟨t,ht,q⟩:=zi1 (h:=n) h.st.ech hv2 (λi hi=>if_neg ↑0) (by rw [if_pos rfl];exact hn)
 rw [e] at ht
 have:=(h.low t ht).2
 omega
theorem Shw.rest (h:Shw n sw x R ss) {t:Ji} (ht:hd t=n) (e:R=ss++[t]):0<vec t n∧(∀ s∈sw,prh ss*vec t n ∣ dv ↑60 (vec s))∧(prh ss*vec t n ∣ dv ↑60 (vec x)-prh ss)∧SpL sw (λi=>vec t n*vec x i)∧∀ d:Int,SpL sw (λi=>d*vec x i)->vec t n ∣ d:=by
 obtain ⟨h1,h2,h3,h4⟩:=h.lv
 have hm:t∈R:=by rw [e];exact List.mem_append_right _ ↑143
 obtain ⟨t1,t2,t3,t4⟩:=h.st.ech.mem t hm
 rw [ht] at t4
 have tz:∀ i,i≠n->vec t i=0:=λi hi=>by
  by_cases q:i<n
  ·exact zdb ↑0
  ·exact zda ↑0
 obtain ⟨r1,r2⟩:=h.row (M:=prh ss*vec t n) λs hs=>by
  rw [e] at hs
  rcases List.mem_append.mp hs with hs | hs
  ·rw [h2 s hs];exact Int.dvd_zero _
  ·rw [List.mem_singleton.mp hs,zjs h1,h3]
   have:dv ↑60 (vec t)=0:=by
    have hl:(↑60).length≤n:=by rw [List.length_take];omega
    have:∀ {w:Ji} {u:Vc},(∀ i,i<w.length->u i=0)->dv w u=0:=by
     intro w
     induction w with
     | nil=>intro u _;rfl
     | cons a w ih =>
      intro u q
      show a*u 0+_=0
      rw [q 0 ⇑5,ih λi hi=>q (i+1) ↑63];omega
    exact this λi hi=>tz i ↑0
   rw [this,Int.zero_add]
   exact Int.dvd_refl _
 refine ⟨t4,r1,r2,?_,λd hd'=>?_⟩
 ·refine (zsE h.hl h.hx (h.st.inn t hm)).conv λi=>?_
  by_cases q:i=n
  ·subst q
   rw [if_pos rfl,zda (l:=x) (by rw [h.hx];exact Nat.le_refl _)];omega
  ·rw [if_neg q,tz i q,Int.sub_zero,Int.zero_add]
 ·have hv:=zpr h.hx hd'
  have hv2:SpL R (λi=>if i=n then d else 0):=Sp.sub (A:=λu=>∃ r∈zgL sw x,u=vec r) (λa ⟨r,hr,q⟩=>by rw [q];exact h.st.out r hr) hv
  have:=zks h.st.ech hv2 hm (λi hi=>if_neg ↑0)
  rw [ht,if_pos rfl] at this
  exact this
end
end Lat
namespace L2
open PySem PySem.Spec PyProof.Rows
structure CalleeM (P:Program) (w:World) (K:W.Frag) (mg:Str->Option Value) (base:Heap) (CX:CXT) (k:Nat) (C:Addr) (m:Str) (ps:List Str) (sp:Sp):Prop where
 ex:∃ f fd,FnOk P w K mg base CX k f fd ps sp∧Meth K C m f∧zfP K fd ps []
def zuV (t u:TE):TE:=λσ H Q=>t σ H Q∨u σ H Q
section
variable {X:Cx} {CX:CXT} {k:Nat} {C:Addr} {ps:List Str} {sp:Sp} {E:XK} {m:Str} {pos apos:Pos} {o e:Expr} {es:List Expr} {ta:TE} {t:TA}
theorem zlK {pl:Sem Bool} (he:PE X o ta) (c:Cls X.K C) (F:CalleeM X.prog X.w X.K X.mg X.base CX k C m ps sp) (hr:Room k X.A) (hx:zgS CX X E) (ha:PA X (e::es) t)
  (hst:starEach (e::es) X.env=(false,eval e X.env) :: starEach es X.env:=by rfl) (hpl:(↑79).any (·.1)=false:=by rfl)
  (ht:eval ↑137 X.env=(do
   let ov ← eval o X.env
   standAt apos.atName
   let (f,first) ← holding [ov] (getMethod ov m pl)
   callWith pos f first (backTo pos (starEach (e::es) X.env)) ↑194):=by rfl) :
  PE X ↑137 (zqq C m sp [] E ta t):=by
 obtain ⟨f,fd,G,hm,hb⟩:=F.ex
 exact zqw he c hm G hr hb .nil hx ha hst hpl ht
theorem Ev.inl {Γ:Ctx} {t u:TE} {b:Bool} {d:Ds} (h:Ev Γ t b d):Ev Γ (zuV t u) b d:=λF0 Hb F H σ own Q a k=>.inl (h F0 Hb F H σ own Q a k)
theorem Ev.inr {Γ:Ctx} {t u:TE} {b:Bool} {d:Ds} (h:Ev Γ u b d):Ev Γ (zuV t u) b d:=λF0 Hb F H σ own Q a k=>.inr (h F0 Hb F H σ own Q a k)
end
section
variable {E:XS} {Γ:Ctx} {m:Bool} {K:W.Frag} {te:TE} {u:TS} {α β:Type}
theorem ziW {x:α} {i1 i2 i3:Nat} (d1 d2 d3:α->Ds) (fo:β->Oc) {kk:α->β} (h:Ev Γ te m (dT [d1 x,d2 x,d3 x])) (k:∀ y,y=x->Run E (((Γ.set i1 (.va m (d1 y))).set i2 (.va m (d2 y))).set i3 (.va m (d3 y))) u (fo (kk y))) :
  Run E Γ (tSeq (zjR te (zrq K 3 (zhA (zd8 i1) (zhA (zd8 i2) (zhA (zd8 i3) zrw))))) u) (fo (Let x kk)):=λF0 Hb F H σ own D a q =>
 h F0 Hb F H σ own _ a λv F' H' g ⟨p,vs,e1,e2,e3⟩=>by
  cases e3 with | cons q1 t=>cases t with | cons q2 t=>cases t with | cons q3 t =>
   cases t
   exact ⟨p,_,e1,.inl (.inl ((zbb.trans g.fh) _ _ e2)),rfl,_,_,rfl,_,_,rfl,_,_,rfl,rfl,k x rfl F0 Hb F' H' _ own D ((((↑22).set i1 q1).set i2 q2).set i3 q3) q⟩
end
def zu7 (C:Addr) (m:Str) (sp:Sp) (ta:TE) (t:TA):TEX:=λσ H Q E=>ta σ H λx H1=>∃ a dx fs,x=.ref a∧H1 a=some ↑97∧fs.lookup m=none∧t σ H1 λvs H2=>sp (x :: (vs++[])) H2 Q E
def orX (t u:TEX):TEX:=λσ H Q E=>t σ H Q E∨u σ H Q E
section
variable {X:Cx} {a e o:Expr} {es:List Expr} {pos apos:Pos} {k:Nat} {C:Addr} {ps:List Str} {sp:Sp} {m:Str} {to:TE} {t:TA}
theorem zr7 {pl:Sem Bool} (O:Own X) (he:PE X.nox o to) (c:Cls X.K C) (F:CalleeM X.prog X.w X.K X.mg X.base (CXE X.prog X.w) k C m ps sp) (hr:Room k X.A) (ha:PA X.nox (e::es) t)
  (hst:starEach (e::es) X.env=(false,eval e X.env) :: starEach es X.env:=by rfl) (hpl:(↑79).any (·.1)=false:=by rfl)
  (ht:eval ↑137 X.env=(do
   let ov ← eval o X.env
   standAt apos.atName
   let (f,first) ← holding [ov] (getMethod ov m pl)
   callWith pos f first (backTo pos (starEach (e::es) X.env)) ↑194):=by rfl) :
  PEX X ↑137 (zu7 C m sp to t):=by
 obtain ⟨f,fd,G,hm,hb⟩:=F.ex
 intro pins s σ H Q E I h
 refine W.methodCall_KW (pl:=pl) (wpAny_mono (he pins s σ H _ (I.wish _) h) (λu s1 ⟨x,H1,I1,rx,a,dx,fs,ex,ea,l,q⟩=>?_) λ_ _ f=>f.elim) ht
 subst ex
 obtain rfl:u=Value.ref a:=rx
 refine zg8 I1.unwish ea c hm l ?_
 refine W.callWith_K (first:=[.ref a]) (h₀:=X.base) I.ok.mod.kin hm.kp (wpAny_mono (ha pos pins s1 σ H1 _ I1 q) (λus s2 ⟨vs,H2,I2,r,q2⟩=>⟨I2.unwish.kIn,?_⟩) λ_ _ f=>f.elim) hst hpl
 have I3:=I2.unwish
 have r2:zco (V.ref a :: (vs++[])) (Value.ref a::(us++[])):=.cons rfl (r.append .nil)
 have hl:(Value.ref a :: us++[]).length=ps.length:=by
  have e:=r2.length
  rw [G.len _ _ _ _ q2] at e
  exact e.symm
 refine wpAny_call (codeAny_mono (G.run X.A X.stack s2 H2 ⟨Value.ref a :: us,[]⟩ (Value.ref a::(us++[])) _ Q E hr I3.env0 (show BindsTo s2 fd ⟨Value.ref a :: us,[]⟩ (ps.zip (Value.ref a::(us++[]))) from hb s2 (Value.ref a :: us) I3.kIn hl) r2 q2) λr s' hq=>?_)
 cases r with
 | error e=>exact zj7 O I3 hq
 | ok fl =>
  cases fl with
  | ret u=>exact I3.after hq
  | next=>exact False.elim hq
  | brk=>exact False.elim hq
  | cont=>exact False.elim hq
end
def EvX {α ε:Type} (xc:ε->Addr) (Γ:Ctx) (te:TEX) (m:Bool) (d:α->Ds) (r:Except ε α):Prop:=∀ (F0 Hb F H:Hp) (σ:St) (own:Nat->Option Addr) (Q:VK) (E:XK),At F0 Hb F H σ own Γ →
 (match r with | .ok v=>∀ v' F' H',Grow F H F' H'->(d v).pr (part m F' Hb) v'->Q v' H' | .error e=>∀ dct F' H',Grow F H F' H'->E (.ref (xc e)) dct H')->te σ H Q E
section
variable {α β ε:Type} {xc:ε->Addr} {Γ Γx:Ctx} {te:TEX} {tb:TE} {m:Bool} {d:α->Ds} {r:Except ε α} {ds:List Ds} {u:TS} {E:XS}
theorem zq3 {ι:Type} {C:Addr} {mt:Str} {args:ι->List Ds} {pre:ι->Prop} {res:ι->Rs} {t:TA} {fs:List (Str×Ds)} (x:ι) (h1:Ev Γ tb false (dO C fs)) (h:EvA Γ t false ds) (ha:dO C fs :: ds=args x) (hp:pre x) (hr:res x=zqs xc m d r) (hn:((fs.map Prod.fst)).contains mt=false) :
  EvX xc Γ (zu7 C mt (Spv args pre res) tb t) m d r:=λF0 Hb F H σ own Q E a k=>by
 refine h1 F0 Hb F H σ own _ a λu F1 H1 g1 ⟨p,dx,vs,e1,e2,e3,e4⟩=>⟨p,dx,vs,e1,g1.fh _ _ e2,?_,?_⟩
 ·have:∀ {vs:List (Str×V)} {fs:List (Str×Ds)} {R:Str×V->Str×Ds->Prop},Paired (λa b=>a.1=b.1∧R a b) vs fs->((fs.map Prod.fst)).contains mt=false->vs.lookup mt=none:=by
   intro vs fs R hq
   induction hq with
   | nil=>intro _;rfl
   | @cons a b _ _ w _ ih =>
    intro z
    rw [List.map_cons,List.contains_cons,Bool.or_eq_false_iff] at z
    obtain ⟨a1,a2⟩:=a
    rw [List.lookup_cons]
    have:(mt == a1)=false:=by rw [show a1=b.1 from w.1];exact z.1
    rw [this]
    exact ih z.2
  exact this e4 hn
 ·refine h F0 Hb F1 H1 σ own _ ↑20 λws F2 H2 g2 q2=>⟨x,F2,g2.fh,?_,hp,?_⟩
  ·rw [← ha,List.append_nil]
   refine .cons ((dO C fs).up (show Same F1 F2 from g2.f) ⟨p,dx,vs,e1,e2,e3,e4⟩) q2
  ·rw [hr]
   cases r with
   | ok v=>exact λv' F' H' g q=>k v' F' H' ((↑48).trans g) ((d v).up (zgh ((↑20).g.h.trans g2.h)) q)
   | error e=>exact λdct F' H' g=>k dct F' H' ((↑48).trans g)
theorem EvX.inl {t u:TEX} (h:EvX xc Γ t m d r):EvX xc Γ (orX t u) m d r:=λF0 Hb F H σ own Q E a k=>.inl (h F0 Hb F H σ own Q E a k)
theorem EvX.inr {t u:TEX} (h:EvX xc Γ u m d r):EvX xc Γ (orX t u) m d r:=λF0 Hb F H σ own Q E a k=>.inr (h F0 Hb F H σ own Q E a k)
theorem znu {kk:α->Except ε β} {i:Nat} (fo:β->Oc) (h:EvX xc Γ te m d r) (w:Wk Γ Γx) (k:∀ v,r=.ok v->Run E (Γ.set i (.va m (d v))) u (foX xc Γx fo (kk v))):Run E Γ (tSeq (zrE te i E) u) (foX xc Γx fo (zry r kk)):=λF0 Hb F H σ own D a q =>
 h F0 Hb F H σ own _ (E σ) a (by
  cases r with
  | ok v=>exact λv' F' H' g qv=>k v rfl F0 Hb F' H' _ own D ((↑22).set i qv) q
  | error e=>exact λdct F' H' g=>q dct F' H' σ own ((↑22).wk w))
end
end L2
namespace Lat
open L2
theorem znE:∀ (w v:Ji) (q:Int) (u:Vc),w.length=v.length->dv (List.map (λ(x:Int×Int)=>x.1-(q*x.2)) (List.zip w v)) u=dv w u-q*dv v u
 | [],[],q,u,_=>by show (0:Int)=0-q*0;omega
 | a :: w,b :: v,q,u,h=>by
  show (a-q*b)*u 0+dv (List.map (λ(x:Int×Int)=>x.1-(q*x.2)) (List.zip w v)) (λi=>u (i+1))=(a*u 0+dv w λi=>u (i+1))-q*(b*u 0+dv v λi=>u (i+1))
  rw [znE w v q (λi=>u (i+1)) ↑114]
  grind
theorem zqc (w:Ji) (c:Int) (v:Vc):dv w (λi=>c*v i)=c*dv w v:=by
 have:=ziy w (λ_=>0) v c
 rw [zkE,Int.zero_add] at this
 rw [← this]
 exact ziX λi=>by omega
theorem zlA {c:Int} {l:Ji} {k:Nat}:vec (List.map (λ(y:Int)=>c*y) l) k=c*vec l k:=by
 have e:List.map (λ(y:Int)=>c*y) l=mul l c:=by unfold mul;congr 1;funext y;exact Int.mul_comm _ _
 rw [e,zdZ,Int.mul_comm]
theorem zkp:∀ (n:Nat) (s i:Int) (u:Vc),dv (List.map (λ(y:Int)=>(if (decide (y=i)) then (1:Int) else 0)) (zbf s n)) u=if s≤i∧i<s+n then u (i-s).toNat else 0
 | 0,s,i,u=>by
  rw [if_neg ↑0]
  rfl
 | n+1,s,i,u=>by
  rw [zgV,List.map_cons]
  show (if (decide (s=i)) then (1:Int) else 0)*u 0+dv (List.map (λ(y:Int)=>(if (decide (y=i)) then (1:Int) else 0)) (zbf (s+1) n)) (λk=>u (k+1))=_
  rw [zkp n (s+1) i]
  by_cases e:s=i
  ·have n1:¬ (s+1≤i∧i<s+1+(n:Int)):=by omega
   have n2:s≤i∧i<s+((n+1:Nat):Int):=by omega
   rw [decide_eq_true e,if_neg n1,if_pos n2,show (i-s).toNat=0 by omega]
   simp
  ·rw [decide_eq_false e]
   by_cases h:s+1≤i∧i<s+1+(n:Int)
   ·have n2:s≤i∧i<s+((n+1:Nat):Int):=by omega
    rw [if_pos h,if_pos n2,show (i-s).toNat=(i-(s+1)).toNat+1 by omega]
    simp
   ·have n2:¬ (s≤i∧i<s+((n+1:Nat):Int)):=by omega
    rw [if_neg h,if_neg n2]
    simp
structure Du (W:Nat) (s:Jq×Jq):Prop where
 l1:s.1.length=W
 l2:s.2.length=W
 r:∀ t∈s.1,t.length=W
 d:∀ t∈s.2,t.length=W
 A:∀ (i j:Nat) (t v:Ji),s.2[i]?=some t->s.1[j]?=some v->dv t (vec v)=if i=j then 1 else 0
 B:∀ u:Vc,(∀ k,W≤k->u k=0)->∀ j,comb (s.2.map λt=>dv t u) (s.1.map vec) j=u j
theorem Du.step {W o t:Nat} {s:Jq×Jq} {ro rt d_o dt:Ji} (h:Du W s) (q:Int) (hot:o≠t) (ho:s.1[o]?=some ro) (ht:s.1[t]?=some rt) (hdo:s.2[o]?=some d_o) (hdt:s.2[t]?=some dt) :
  Du W (s.1.set t (List.map (λ(x:Int×Int)=>x.1+(q*x.2)) (List.zip rt ro)),s.2.set o (List.map (λ(x:Int×Int)=>x.1-(q*x.2)) (List.zip d_o dt))):=by
 have m1:=h.r _ (List.mem_of_getElem? ho);have m2:=h.r _ (List.mem_of_getElem? ht)
 have m3:=h.d _ (List.mem_of_getElem? hdo);have m4:=h.d _ (List.mem_of_getElem? hdt)
 have hr:∀ (w:Ji),dv w (vec (List.map (λ(x:Int×Int)=>x.1+(q*x.2)) (List.zip rt ro)))=dv w (vec rt)+q*dv w (vec ro):=λw=>by
  rw [← ziy]
  exact ziX λi=>zfY (by rw [m1,m2])
 have hd:∀ u,dv (List.map (λ(x:Int×Int)=>x.1-(q*x.2)) (List.zip d_o dt)) u=dv d_o u-q*dv dt u:=λu=>znE _ _ _ _ (by rw [m3,m4])
 refine ⟨by show (s.1.set t _).length=W;rw [List.length_set];exact h.l1,by show (s.2.set o _).length=W;rw [List.length_set];exact h.l2,λx hx=>?_,λx hx=>?_,λi j x v hx hv=>?_,λu hu j=>?_⟩
 ·rcases List.mem_or_eq_of_mem_set hx with hx | rfl
  ·exact h.r x hx
  ·rw [List.length_map,List.length_zip,m1,m2];omega
 ·rcases List.mem_or_eq_of_mem_set hx with hx | rfl
  ·exact h.d x hx
  ·rw [List.length_map,List.length_zip,m3,m4];omega
 ·have hx2:(s.2.set o (List.map (λ(x:Int×Int)=>x.1-(q*x.2)) (List.zip d_o dt)))[i]?=some x:=hx
  have hv2:(s.1.set t (List.map (λ(x:Int×Int)=>x.1+(q*x.2)) (List.zip rt ro)))[j]?=some v:=hv
  clear hx hv
  have lo:=(List.getElem?_eq_some_iff.mp hdo).1
  have lt:=(List.getElem?_eq_some_iff.mp ht).1
  by_cases hi:i=o
  ·subst hi
   rw [List.getElem?_set_self lo] at hx2
   cases hx2
   rw [hd]
   by_cases hj:j=t
   ·subst hj
    rw [List.getElem?_set_self lt] at hv2
    cases hv2
    rw [hr,hr,h.A _ _ _ _ hdo ht,h.A _ _ _ _ hdo ho,h.A _ _ _ _ hdt ht,h.A _ _ _ _ hdt ho,if_neg hot,if_pos rfl,if_pos rfl,if_neg (Ne.symm hot)]
    omega
   ·rw [List.getElem?_set_ne (Ne.symm hj)] at hv2
    rw [h.A _ _ _ _ hdo hv2,h.A _ _ _ _ hdt hv2,if_neg (Ne.symm hj)]
    omega
  ·rw [List.getElem?_set_ne (Ne.symm hi)] at hx2
   by_cases hj:j=t
   ·subst hj
    rw [List.getElem?_set_self lt] at hv2
    cases hv2
    rw [hr,h.A _ _ _ _ hx2 ht,h.A _ _ _ _ hx2 ho,if_neg hi]
    omega
   ·rw [List.getElem?_set_ne (Ne.symm hj)] at hv2
    exact h.A _ _ _ _ hx2 hv2
 ·show comb ((s.2.set o _).map λt=>dv t u) ((s.1.set t _).map vec) j=u j
  rw [List.map_set,List.map_set,hd]
  rw [zkc (a1:=vec ro) (a2:=vec rt) hot (by rw [List.getElem?_map,hdo];rfl) (by rw [List.getElem?_map,hdt];rfl) (by rw [List.getElem?_map,ho];rfl) (by rw [List.getElem?_map,ht];rfl) (zfY (by rw [m1,m2]))]
  exact h.B u hu j
theorem Du.start {W:Nat} {a:Jq} (ha:a=List.map (λ(x:Int)=>List.map (λ(y:Int)=>(if (decide (y=x)) then (1:Int) else 0)) (zbf 0 W)) (zbf 0 W)):Du W (a,a):=by
 have hm:∀ t∈a,t.length=W:=λt ht=>by
  rw [ha] at ht
  obtain ⟨x,_,rfl⟩:=List.mem_map.mp ht
  rw [List.length_map,zaO]
 have hl:a.length=W:=by rw [ha,List.length_map,zaO]
 have hg:∀ (i:Nat) (t:Ji),a[i]?=some t->i<W∧t=List.map (λ(y:Int)=>(if (decide (y=(i:Int))) then (1:Int) else 0)) (zbf 0 W):=λi t h=>by
  have hi:=((List.getElem?_eq_some_iff.mp h)).1
  rw [ha,List.getElem?_map] at h
  cases q:(zbf 0 W)[i]? with
  | none=>rw [q] at h;cases h
  | some z =>
   rw [q] at h
   obtain ⟨g1,g2⟩:=zbe q
   have h:List.map (λ(y:Int)=>(if (decide (y=z)) then (1:Int) else 0)) (zbf 0 W)=t:=Option.some.inj h
   rw [← h,g2,Int.zero_add]
   exact ⟨g1,rfl⟩
 refine ⟨hl,hl,hm,hm,λi j t v ht hv=>?_,λu hu j=>?_⟩
 ·obtain ⟨hi,rfl⟩:=hg i t ht
  obtain ⟨hj,rfl⟩:=hg j v hv
  rw [zkp,if_pos ↑0]
  rw [zuT]
  by_cases e:i=j
  ·rw [if_pos ↑55,if_pos e]
  ·rw [if_neg (λq=>e (by have:=q.2;omega)),if_neg e]
 ·show comb (a.map λt=>dv t u) (a.map vec) j=u j
  have e1:(a.map λt=>dv t u)=List.map (λ(x:Int)=>u x.toNat) (zbf 0 W):=by
   rw [ha,List.map_map]
   refine List.map_congr_left λx hx=>?_
   obtain ⟨x1,x2⟩:=zla.mp hx
   show dv (List.map (λ(y:Int)=>(if (decide (y=x)) then (1:Int) else 0)) (zbf 0 W)) u=_
   rw [zkp,if_pos ↑0,Int.sub_zero]
  have e2:a.map vec=List.map (λ(x:Int)=>vec (List.map (λ(y:Int)=>(if (decide (y=(0+x))) then (1:Int) else 0)) (zbf 0 W))) (zbf 0 (List.map (λ(x:Int)=>u x.toNat) (zbf 0 W)).length):=by
   rw [ha,List.map_map,List.length_map,zaO]
   refine List.map_congr_left λx _=>?_
   rw [Int.zero_add];rfl
  rw [e1,e2]
  by_cases hj:j<W
  ·rw [ziu _ 0 j hj ↑0,if_pos ↑0]
   rw [show ((j:Int)-(0+0)).toNat=j by omega]
   unfold vec
   rw [List.getD_eq_getElem?_getD,List.getElem?_map]
   have q:(zbf 0 W)[j]?=some (j:Int):=by
    unfold zbf
    rw [List.getElem?_map,List.getElem?_range hj]
    show some ((0:Int)+(j:Int))=_
    rw [Int.zero_add]
   rw [q]
   show u ((j:Int)).toNat=u j
   rw [Int.toNat_natCast]
  ·rw [hu j ↑0]
   refine zib λi x v _ hv=>?_
   rw [List.getElem?_map] at hv
   cases q:((zbf 0 (List.map (λ(x:Int)=>u x.toNat) (zbf 0 W)).length))[i]? with
   | none=>rw [q] at hv;cases hv
   | some z =>
    rw [q] at hv
    have hv:=Option.some.inj hv
    rw [← hv]
    show x*vec (List.map (λ(y:Int)=>(if (decide (y=0+z)) then (1:Int) else 0)) (zbf 0 W)) j=0
    rw [zda (by rw [List.length_map,zaO];omega),Int.mul_zero]
def scl (rows:Jq) (bs:Ji):Jq:=(((List.zip rows bs)).filter λp=>decide (0<p.2)).map λp=>List.map (λ(y:Int)=>p.2*y) p.1
theorem zs2 {W:Nat} {s:Jq×Jq} {bs:Ji} {u:Vc} (h:Du W s) (hu:SpL (scl s.1 bs) u) {i:Nat} {t:Ji} {b:Int} (ht:s.2[i]?=some t) (hb:bs[i]?=some b):b ∣ dv t u:=by
 refine zpW (λa ⟨r,hr,e⟩=>?_) hu
 subst e
 obtain ⟨p,hp,rfl⟩:=List.mem_map.mp hr
 have hp:=(List.mem_filter.mp hp).1
 obtain ⟨j,hj⟩:=List.getElem?_of_mem hp
 obtain ⟨j1,j2⟩:=zcE hj
 rw [show vec (List.map (λ(y:Int)=>p.2*y) p.1)=λk=>p.2*vec p.1 k from funext λk=>zlA,zqc,h.A _ _ _ _ ht j1]
 by_cases e:i=j
 ·subst e
  rw [hb] at j2
  cases j2
  exact Int.dvd_mul_right _ _
 ·rw [if_neg e,Int.mul_zero];exact Int.dvd_zero _
theorem znG:∀ (xs:Ji) (rows:Jq) (bs:Ji),xs.length=rows.length->bs.length=rows.length->(∀ (i:Nat) (x b:Int),xs[i]?=some x->bs[i]?=some b->0≤b∧b ∣ x)->SpL (scl rows bs) (comb xs (rows.map vec))
 | [],[],_,_,_,_=>Sp.zero
 | x :: xs,r :: rows,b :: bs,h1,h2,h=>by
  have ih:=znG xs rows bs (by simpa using h1) (by simpa using h2) λi x b hx hb=>h (i+1) x b (by simpa using hx) (by simpa using hb)
  obtain ⟨b0,c,hc⟩:=h 0 x b rfl rfl
  have up:SpL (scl (r :: rows) (b :: bs)) (comb xs (rows.map vec)):=by
   refine SpL.sub (λs hs=>SpL.mem ?_) ih
   unfold scl at hs ⊢
   obtain ⟨p,hp,rfl⟩:=List.mem_map.mp hs
   refine List.mem_map.mpr ⟨p,?_,rfl⟩
   obtain ⟨p1,p2⟩:=List.mem_filter.mp hp
   exact List.mem_filter.mpr ⟨List.mem_cons_of_mem _ p1,p2⟩
  by_cases q:b=0
  ·refine up.conv λi=>?_
   show comb xs (rows.map vec) i=x*vec r i+comb xs (rows.map vec) i
   rw [hc,q];simp
  ·have hm:List.map (λ(y:Int)=>b*y) r∈scl (r :: rows) (b :: bs):=by
    unfold scl
    refine List.mem_map.mpr ⟨(r,b),List.mem_filter.mpr ⟨List.mem_cons_self,decide_eq_true (show 0<b by omega)⟩,rfl⟩
   refine ((Sp.smul c (SpL.mem hm)).plus up).conv λi=>?_
   show c*vec (List.map (λ(y:Int)=>b*y) r) i+comb xs (rows.map vec) i=x*vec r i+comb xs (rows.map vec) i
   rw [zlA,hc,← Int.mul_assoc,Int.mul_comm c b]
theorem zsb {W:Nat} {s:Jq×Jq} {bs:Ji} {u:Vc} (h:Du W s) (hl:bs.length=W) (hb:∀ b∈bs,0≤b) (hu:∀ k,W≤k->u k=0) (hd:∀ (i:Nat) (t:Ji) (b:Int),s.2[i]?=some t->bs[i]?=some b->b ∣ dv t u):SpL (scl s.1 bs) u:=by
 refine (znG (s.2.map λt=>dv t u) s.1 bs (by rw [List.length_map,h.l1,h.l2]) (by rw [hl,h.l1]) λi x b hx hbi=>?_).conv λj=>h.B u hu j
 rw [List.getElem?_map] at hx
 cases q:s.2[i]? with
 | none=>rw [q] at hx;cases hx
 | some t =>
  rw [q] at hx
  have hx:dv t u=x:=Option.some.inj hx
  exact ⟨hb b (List.mem_of_getElem? hbi),hx ▸ hd i t b q hbi⟩
theorem zot {rows:Jq} {o t:Nat} {ro rt y:Ji} {q:Int} (hot:o≠t) (ho:rows[o]?=some ro) (ht:rows[t]?=some rt) (hy:∀ k,vec y k=vec rt k+q*vec ro k) {u:Vc}:SpL (rows.set t y) u ↔ SpL rows u:=by
 constructor
 ·refine SpL.sub λs hs=>?_
  rcases List.mem_or_eq_of_mem_set hs with hs | rfl
  ·exact SpL.mem hs
  ·exact ((SpL.mem (List.mem_of_getElem? ht)).plus (Sp.smul q (SpL.mem (List.mem_of_getElem? ho)))).conv λk=>(hy k).symm
 ·refine SpL.sub λs hs=>?_
  have lt:=(List.getElem?_eq_some_iff.mp ht).1
  have ny:SpL (rows.set t y) (vec y):=SpL.mem (List.mem_of_getElem? (List.getElem?_set_self lt))
  have no:SpL (rows.set t y) (vec ro):=SpL.mem (List.mem_of_getElem? (by rw [List.getElem?_set_ne (Ne.symm hot)];exact ho))
  obtain ⟨j,hj⟩:=List.getElem?_of_mem hs
  by_cases e:j=t
  ·subst e
   rw [hj] at ht
   cases ht
   refine (ny.plus (Sp.smul (-q) no)).conv λk=>?_
   rw [hy k]
   grind
  ·exact SpL.mem (List.mem_of_getElem? (by rw [List.getElem?_set_ne (Ne.symm e)];exact hj))
theorem znP {a z:Jq} (hz:∀ s∈z,∀ k,vec s k=0) {u:Vc}:SpL (a++z) u ↔ SpL a u:=by
 constructor
 ·refine SpL.sub λs hs=>?_
  rcases List.mem_append.mp hs with hs | hs
  ·exact SpL.mem hs
  ·exact (Sp.zero:Sp _ _).conv λk=>(hz s hs k).symm
 ·exact SpL.sub λs hs=>SpL.mem (List.mem_append_left _ hs)
end Lat
namespace L2
open PySem PySem.Spec PyProof.Rows
structure T6 (α β γ δ ε ζ:Type) where
 a:α
 b:β
 c:γ
 d:δ
 e:ε
 f:ζ
end L2
namespace PySem
open Sem (wp)
abbrev zse (h:Heap) (T:Addr) (a b c:Value):Prop:=h.get? T=some { cls:=.type "tuple",data:=.seq #[a,b,c] }
structure Zip3 (h:Heap) (n:Nat) (l1 l2 l3:Addr) (k:Nat) (f0:Value):Prop where
 z:IsZip h (n+5) (n+3) (n+4) f0
 ti:zse h (n+3) (.ref n) (.ref (n+1)) (.ref (n+2))
 to:∃ a b c,zse h (n+4) a b c
 i1:h.IsListIter n l1 k
 i2:h.IsListIter (n+1) l2 k
 i3:h.IsListIter (n+2) l3 k
end PySem
namespace L2
open PySem PySem.Spec PyProof.Rows
theorem run_par {E:XS} {Γ:Ctx} {ta tb:TE} {u:TS} {o:Oc} {x y:Int} {i j:Nat} (h1:Ev Γ ta false (dI x)) (h2:Ev Γ tb false (dI y)) (k:Run E ((Γ.set i (.va false (dI x))).set j (.va false (dI y))) u o):Run E Γ (tSeq (tPar i j (tCons ta (tCons tb tNil))) u) o:=λF0 Hb F H σ own D a q =>
 h1 F0 Hb F H σ own _ a λv F1 H1 g1 q1=>h2 F0 Hb F1 H1 σ own _ ↑20 λw F2 H2 g2 q2=>⟨v,w,rfl,k F0 Hb F2 H2 _ own D ((((↑20).grow g2).set i q1).set j q2) q⟩
structure T4 (α β γ δ:Type) where
 a:α
 b:β
 c:γ
 d:δ
 deriving Inhabited
def ztY:Slot->Bool
 | .tl _=>false
 | _=>true
theorem At.shareB {F0 Hb F H:Hp} {σ:St} {own:Nat->Option Addr} {Γ:Ctx} (a:At F0 Hb F H σ own Γ) {i:Nat} {m:Bool} {C p dx:Addr} {fs:List (Str×Ds)} (e:Γ[i]?=some (.ob m C p dx fs)) (ht:Γ.all ztY=true) :
  ∃ F' own',Grow F0 Hb F' H∧At F0 Hb F' H σ own' (Γ.set i (.va m (dO C fs))):=by
 obtain ⟨vs,e1,e2,hf,hb,hp,hq⟩:=a.sl i _ e
 have ne:dx≠p:=zjh hp.2 hp.1 ↑112
 have g:=(a.g.take hb.1 hp.1).take hb.2 hp.2
 have n3:upd F p (.ins C dx vs) dx=none:=by rw [zat ne];exact hf.2
 have fs':Same F (upd (upd F p (.ins C dx vs)) dx (.own p)):=(Same.new hf.1 _).trans (Same.new n3 _)
 refine ⟨upd (upd F p (.ins C dx vs)) dx (.own p),λj=>if j=i then none else own j,g,g,λj k q h1 h2=>?_,λj q h1=>?_,λj s es=>?_,by simp [a.len]⟩
 ·skip
  split at h1
  ·cases h1
  ·split at h2
   ·cases h2
   ·exact a.inj j k q h1 h2
 ·skip
  split at h1
  ·cases h1
  ·exact a.liv j q h1
 ·by_cases z:i=j
  ·subst z
   have hi:i<Γ.length:=(↑52).1
   rw [List.getElem?_set_self hi] at es
   cases es
   exact ⟨.ref p,e1,p,dx,vs,rfl,zeY hb.1 (by rw [zat (Ne.symm ne)];exact zaE),zeY hb.2 zaE,zb4 (λ_ b z=>⟨z.1,b.2.up (zbi fs') z.2⟩) hq⟩
  ·rw [List.getElem?_set_ne z] at es
   have z':¬ j=i:=Ne.symm z
   have:=a.sl j s es
   cases s with
   | no=>trivial
   | tl d =>
    have:=List.all_eq_true.mp ht _ (List.mem_of_getElem? es)
    cases this
   | va m d=>obtain ⟨x,h1,h2⟩:=this;exact ⟨x,h1,d.up (zbi fs') h2⟩
   | ow m ds =>
    obtain ⟨q,us,h1,h2,h3,h4,h5,h6⟩:=this
    have n1:q≠p:=λw=>by subst w;exact z ↑83
    have n2:q≠dx:=zjh h5 hp.2 ↑112
    exact ⟨q,us,h1,(if_neg z').trans h2,by rw [zat n2,zat n1];exact h3,h4,h5,zdG (ds:=[]) (zbi fs') h6⟩
   | ol q ds =>
    obtain ⟨us,h1,h2,h3,h4,h5,h6⟩:=this
    have n1:q≠p:=λw=>by subst w;exact z ↑83
    have n2:q≠dx:=zjh h5 hp.2 ↑112
    exact ⟨us,h1,(if_neg z').trans h2,by rw [zat n2,zat n1];exact h3,h4,h5,zdG (ds:=[]) fs' h6⟩
   | ob m C q dy gs =>
    obtain ⟨us,h1,h2,h3,h4,h5,h6⟩:=this
    have n1:q≠p:=λw=>by subst w;exact z ↑83
    have n2:dy≠p:=zjh h5.2 hp.1 ↑112
    have n3:q≠dx:=zjh h5.1 hp.2 ↑112
    have n4:dy≠dx:=λw=>by
     have:=h5.2
     rw [w,hp.2] at this
     cases this;exact n1 rfl
    exact ⟨us,h1,(if_neg z').trans h2,⟨by rw [zat n3,zat n1];exact h3.1,by rw [zat n4,zat n2];exact h3.2⟩,h4,h5,zb4 (λ_ b z=>⟨z.1,b.2.up (zbi fs') z.2⟩) h6⟩
section
variable {Γ:Ctx} {te:TE} {d:Ds} {i:Nat} {m:Bool}
theorem EvN.borrowB {C p dx:Addr} {fs:List (Str×Ds)} (e:Γ[i]?=some (.ob m C p dx fs)) (ht:Γ.all ztY=true) (h:EvN (Γ.set i (.va m (dO C fs))) te d):EvN Γ te d:=λF0 Hb F H σ own Q a k=>by
 obtain ⟨F1,own1,_,a1⟩:=a.shareB e ht
 refine h F0 Hb F1 H σ own1 Q a1 λx F' H' g q=>?_
 have e:∀ b o,off F' H b=some o->H b=none∧F' b=some o:=λb o z=>zcK.mp z
 refine k x (λb=>match H b with | some _=>F b | none=>F' b) H' ⟨λb o z=>?_,λb o z=>?_,g.h,λb z1 z2=>?_⟩ (d.up (λb o z=>?_) q)
 ·show (match H b with | some _=>F b | none=>F' b)=some o
  rw [a.fh _ _ z];exact z
 ·have z:(match H b with | some _=>F b | none=>F' b)=some o:=z
  cases w:H b with
  | some o'=>rw [w] at z;exact g.h _ _ (a.fh _ _ z)
  | none=>rw [w] at z;exact g.fh _ _ z
 ·show (match H b with | some _=>F b | none=>F' b)=none
  cases w:H b with
  | some o'=>exact z2
  | none=>exact absurd w z1
 ·obtain ⟨h1,h2⟩:=e b o z
  refine zcK.mpr ⟨h1,?_⟩
  show (match H b with | some _=>F b | none=>F' b)=some o
  rw [h1];exact h2
end
theorem At.reset {F0 Hb F H:Hp} {σ:St} {own:Nat->Option Addr} {Γ:Ctx} (a:At F0 Hb F H σ own Γ) {i:Nat} {m m':Bool} {d d':Ds} (e:Γ[i]?=some (.va m d)) (h:∀ x,(σ[i]?).join=some x->d.pr (part m F Hb) x->d'.pr (part m' F Hb) x):At F0 Hb F H σ own (Γ.set i (.va m' d')):=by
 obtain ⟨x,e1,e2⟩:=a.sl i _ e
 have hi:i<σ.length:=by rw [a.len];exact (↑52).1
 have:=a.set i (h x e1 e2)
 rw [List.getElem?_eq_getElem hi] at e1
 have e1:σ[i]=some x:=e1
 rw [← e1,List.set_getElem_self] at this
 exact this
theorem At.looks {F0 Hb F H:Hp} {σ:St} {own:Nat->Option Addr} {Γ:Ctx} (a:At F0 Hb F H σ own Γ) {i:Nat} {m:Bool} {d:Ds} (e:Γ[i]?=some (.va m d)):∃ x,σ[i]?=some (some x)∧d.pr F x:=by
 obtain ⟨x,e1,e2⟩:=a.sl i _ e
 have hi:i<σ.length:=by rw [a.len];exact (↑52).1
 rw [List.getElem?_eq_getElem hi] at e1
 have e1:σ[i]=some x:=e1
 exact ⟨x,by rw [List.getElem?_eq_getElem hi,e1],d.up zbb e2⟩
section
variable {Γ:Ctx} {te:TE} {d d1 d2 d3:Ds} {i i1 i2:Nat} {m m1 m2:Bool} {v v1 v2:V} {f g k:Str} {C:Addr}
theorem zna (e:Γ[i]?=some (.va m (dX v d))) {m':Bool}:Ev Γ (zis i) m' (dV v):=λF0 Hb F H σ own Q a k =>
 (zaa e) F0 Hb F H σ own Q a λx F' H' g q=>k x F' H' g q.1
theorem zqK {H H1:Hp} {x:V} (s:Same H H1) (h:(dO C [(f,dV v1),(g,dV v2),(k,d3)]).pr H x) (h1:d1.pr H1 v1) (h2:d2.pr H1 v2):(dO C [(f,d1),(g,d2),(k,d3)]).pr H1 x:=by
 obtain ⟨p,dx,vs,q1,q2,q3,q4⟩:=h
 refine ⟨p,dx,vs,q1,s _ _ q2,s _ _ q3,?_⟩
 cases q4 with | cons r1 t=>cases t with | cons r2 t=>cases t with | cons r3 t =>
  cases t
  exact .cons ⟨r1.1,by rw [r1.2];exact h1⟩ (.cons ⟨r2.1,by rw [r2.2];exact h2⟩ (.cons ⟨r3.1,d3.up s r3.2⟩ .nil))
theorem EvN.borrowBX {p dx:Addr} (e:Γ[i]?=some (.ob m C p dx [(f,dV v1),(g,dV v2),(k,d3)])) (ht:Γ.all ztY=true) (n1:i≠i1) (n2:i≠i2) (e1:Γ[i1]?=some (.va m1 (dX v1 d1))) (e2:Γ[i2]?=some (.va m2 (dX v2 d2))) (h:EvN (Γ.set i (.va false (dO C [(f,d1),(g,d2),(k,d3)]))) te d):EvN Γ te d :=
 EvN.borrowB e ht λF0 Hb F H σ own Q a kk=>by
  have hi:i<Γ.length:=(↑52).1
  obtain ⟨x1,_,q1⟩:=a.looks (i:=i1) (by rw [List.getElem?_set_ne n1];exact e1)
  obtain ⟨x2,_,q2⟩:=a.looks (i:=i2) (by rw [List.getElem?_set_ne n2];exact e2)
  have a1:=a.reset (i:=i) (m':=false) (d':=dO C [(f,d1),(g,d2),(k,d3)]) (List.getElem?_set_self hi) λx _ q=>zqK zbb q (by rw [← q1.1];exact q1.2) (by rw [← q2.1];exact q2.2)
  rw [List.set_set] at a1
  exact h F0 Hb F H σ own Q a1 kk
def zu1 {ι:Type} (C:Addr) (f g k:Str) (a1 a2 a3:ι->Ds) (pre:ι->Prop) (d3:ι->Ds):Sp:=zpX (ι:=V×V×ι) C (λy=>[dX y.1 (a1 y.2.2),dX y.2.1 (a2 y.2.2),a3 y.2.2]) (λy=>pre y.2.2) true (λy=>[(f,dV y.1),(g,dV y.2.1),(k,d3 y.2.2)])
variable {ι:Type} {a1 a2 a3 b3:ι->Ds} {pre:ι->Prop} {ds:List Ds} {tr:TA} {E:XK}
theorem zjp (x:ι) (h:EvA Γ tr false ds) (ha:ds=[a1 x,a2 x,a3 x]) (hp:pre x):Ev Γ (zqv C (zu1 C f g k a1 a2 a3 pre b3) [] E tr) false (dO C [(f,a1 x),(g,a2 x),(k,b3 x)]):=λF0 Hb F H σ own Q a kk=>by
 subst ha
 refine h F0 Hb F H σ own _ a λvs F1 H1 g1 q1 p dx h1 h2 h3=>?_
 cases q1 with | cons r1 t=>cases t with | cons r2 t=>cases t with | cons r3 t =>
  cases t
  refine ⟨(_,_,x),p,dx,_,H1,F1,by rw [List.append_nil],h1,h2,h3,rfl,g1.fh,.cons ⟨rfl,r1⟩ (.cons ⟨rfl,r2⟩ (.cons r3 .nil)),hp,λus F' H' g n1 n2 e1 e2 e3=>⟨rfl,?_⟩⟩
  have g2:=g1.trans g
  obtain ⟨p0,_,pb⟩:=a.free g1 h1
  obtain ⟨d0,_,db⟩:=a.free g1 h2
  have g3:=(g2.take p0 e1).take d0 e2
  have n3:upd F' p (.ins C dx us) dx=none:=by rw [zat h3];exact n2
  have s2:Same F' (upd (upd F' p (.ins C dx us)) dx (.own p)):=(Same.new n1 _).trans (Same.new n3 _)
  refine kk _ _ _ g3 ⟨p,dx,us,rfl,by show upd _ _ _ p=_;rw [zat (Ne.symm h3)];exact zaE,zaE,?_⟩
  cases e3 with | cons z1 t=>cases t with | cons z2 t=>cases t with | cons z3 t =>
   cases t
   exact .cons ⟨z1.1,by rw [z1.2];exact (a1 x).up (g.f.trans s2) r1⟩ (.cons ⟨z2.1,by rw [z2.2];exact (a2 x).up (g.f.trans s2) r2⟩ (.cons ⟨z3.1,(b3 x).up (zbb.trans s2) z3.2⟩ .nil))
end
end L2
namespace Lat
open L2
def lsum:Ji->Int
 | []=>0
 | x :: xs=>x+lsum xs
section
variable {α β:Type}
theorem zlo (f g:α->Int):∀ l:List α,lsum (l.map λa=>f a+g a)=lsum (l.map f)+lsum (l.map g)
 | []=>rfl
 | a :: l=>by
  simp only [List.map_cons,lsum]
  rw [zlo f g l];omega
theorem zf9 (c:Int) (f:α->Int):∀ l:List α,lsum (l.map λa=>c*f a)=c*lsum (l.map f)
 | []=>by simp [lsum]
 | a :: l=>by
  simp only [List.map_cons,lsum]
  rw [zf9 c f l,Int.mul_add]
theorem zhS:∀ l:List α,lsum (l.map λ_=>(0:Int))=0
 | []=>rfl
 | a :: l=>by
  simp only [List.map_cons,lsum]
  rw [zhS l];omega
theorem zh3 (h:α->β->Int) (m:List β):∀ l:List α,lsum (l.map λa=>lsum (m.map λb=>h a b))=lsum (m.map λb=>lsum (l.map λa=>h a b))
 | []=>(zhS m).symm
 | a :: l=>by
  simp only [List.map_cons,lsum]
  rw [zh3 h m l,← zlo]
theorem ziR {d:Int} {f:α->Int}:∀ {l:List α},(∀ a∈l,d ∣ f a)->d ∣ lsum (l.map f)
 | [],_=>⟨0,by simp [lsum]⟩
 | a :: l,h=>by
  simp only [List.map_cons,lsum]
  exact Int.dvd_add (h a List.mem_cons_self) (ziR λb hb=>h b ↑231)
theorem znI {B:Nat} {f:α->Int}:∀ {l:List α},(∀ a∈l,(f a).natAbs≤B)->(lsum (l.map f)).natAbs≤l.length*B
 | [],_=>by simp [lsum]
 | a :: l,h=>by
  simp only [List.map_cons,lsum,List.length_cons]
  have h1:=h a List.mem_cons_self
  have h2:=znI (l:=l) λb hb=>h b ↑231
  rw [Nat.add_mul]
  omega
theorem zcj {f g:α->Int} {l:List α} (h:∀ a∈l,f a=g a):lsum (l.map f)=lsum (l.map g):=by rw [List.map_congr_left h]
theorem zgX {W:Nat} {F:Ji->α->Ji} {c:α->Nat->Int}:∀ (l:List α) (acc:Ji),acc.length=W->(∀ s a,a∈l->s.length=W->(F s a).length=W∧∀ i,vec (F s a) i=vec s i+c a i)->(l.foldl F acc).length=W∧∀ i,vec (l.foldl F acc) i=vec acc i+lsum (l.map λa=>c a i)
 | [],acc,h,_=>⟨h,λi=>by simp [lsum]⟩
 | a :: l,acc,h,k=>by
  obtain ⟨h1,h2⟩:=k acc a List.mem_cons_self h
  obtain ⟨h3,h4⟩:=zgX l (F acc a) h1 λs b hb=>k s b ↑231
  refine ⟨h3,λi=>?_⟩
  rw [List.foldl_cons,h4 i,h2 i]
  simp only [List.map_cons,lsum]
  omega
theorem zkK (t:Ji) (c:α->Int) (v:α->Vc):∀ l:List α,dv t (λi=>lsum (l.map λa=>c a*v a i))=lsum (l.map λa=>c a*dv t (v a))
 | []=>zkE t
 | a :: l=>by
  simp only [List.map_cons,lsum]
  exact (ziX λi=>Int.add_comm _ _).trans ((ziy t _ (v a) (c a)).trans (by rw [zkK t c v l];exact Int.add_comm _ _))
end
theorem dv_sum:∀ (t:Ji) (u:Vc),dv t u=lsum ((List.range t.length).map λw=>vec t w*u w)
 | [],_=>rfl
 | a :: t,u=>by
  rw [List.length_cons,List.range_succ_eq_map,List.map_cons,List.map_map]
  show a*u 0+dv t (λi=>u (i+1))=_
  rw [dv_sum t]
  rfl
def Phi (W:Nat) (ds im:Jq) (u:Vc):Vc:=λi=>lsum (((List.range W)).map λ(k:Nat)=>dv (ixD ds (k:Int)) u*vec (ixD im (k:Int)) i)
section
variable {W:Nat} {ds im Bs:Jq} {u:Vc}
theorem zht {rows:Jq} {k:Nat} (h:k<rows.length):ixD rows (k:Int)∈rows:=zb3 (by unfold InB;omega)
theorem zsl (hl:ds.length=W) (hd:∀ t∈ds,t.length=W) (hB:∀ w,w<W->∀ i,vec (ixD Bs (w:Int)) i=lsum (((List.range W)).map λ(k:Nat)=>vec (ixD ds (k:Int)) w*vec (ixD im (k:Int)) i)) (i:Nat) :
  lsum (((List.range W)).map λ(w:Nat)=>u w*vec (ixD Bs (w:Int)) i)=Phi W ds im u i:=by
 unfold Phi
 have e:∀ k∈List.range W,dv (ixD ds (k:Int)) u*vec (ixD im (k:Int)) i=lsum (((List.range W)).map λ(w:Nat)=>u w*(vec (ixD ds (k:Int)) w*vec (ixD im (k:Int)) i)):=λk hk=>by
  rw [dv_sum,hd _ (zht (by rw [hl];exact List.mem_range.mp hk)),Int.mul_comm,← zf9]
  exact zcj λw _=>by grind
 rw [zcj e,← zh3]
 exact zcj λw hw=>by rw [hB w (List.mem_range.mp hw) i,← zf9]
theorem zqD {cs:Ji} {t:Ji} {b:Int} (h1:∀ k,k<W->ixD cs (k:Int) ∣ dv (ixD ds (k:Int)) u) (h2:∀ k,k<W->b ∣ ixD cs (k:Int)*dv t (vec (ixD im (k:Int)))):b ∣ dv t (Phi W ds im u):=by
 unfold Phi
 rw [zkK]
 refine ziR λk hk=>?_
 obtain ⟨q,hq⟩:=h1 k (List.mem_range.mp hk)
 rw [hq,Int.mul_comm (ixD cs (k:Int)) q,Int.mul_assoc]
 exact Int.dvd_trans (h2 k (List.mem_range.mp hk)) (Int.dvd_mul_left _ _)
theorem zjV {α β:Type} [Inhabited α] [Inhabited β] {as:List α} {bs:List β} (h1:as.length=W) (h2:bs.length=W):List.zip as bs=((List.range W)).map λ(w:Nat)=>(ixD as (w:Int),ixD bs (w:Int)):=by
 refine List.ext_getElem (by rw [List.length_zip,List.length_map,List.length_range];omega) λk hk _=>?_
 rw [List.length_zip] at hk
 rw [List.getElem_zip,List.getElem_map,List.getElem_range,zbU (List.getElem?_eq_getElem (show k<as.length by omega)),zbU (List.getElem?_eq_getElem (show k<bs.length by omega))]
theorem zjj {α:Type} {t:Ji} {l:List α} {c:α->Nat->Int} {n b:Nat} (h:∀ i,vec t i=lsum (l.map λa=>c a i)) (hl:l.length≤2^n) (hc:∀ a∈l,∀ i,(c a i).natAbs≤2^b):Bit (n+b) t:=Bit.of λi=>by
 rw [h i]
 refine Nat.le_trans (znI λa ha=>hc a ha i) ?_
 rw [Nat.pow_add]
 exact Nat.mul_le_mul_right _ hl
theorem zi8 {x y:Int} {a b:Nat} (h1:x.natAbs≤2^a) (h2:y.natAbs≤2^b):(x*y).natAbs≤2^(a+b):=by
 rw [Int.natAbs_mul,Nat.pow_add]
 exact Nat.mul_le_mul h1 h2
end
end Lat
namespace L2
open PySem PySem.Spec PyProof.Rows
theorem zoR {E:XS} {Γ Δ:Ctx} {t:TS} {o:Oc} (h:Γ=Δ) (k:Run E Δ t o):Run E Γ t o:=h ▸ k
theorem zqk {α:Type} [Inhabited α] {x:Option α} (h:x.isSome=true):x=some (gS x):=by
 cases x with
 | none=>cases h
 | some _=>rfl
end L2
set_option maxHeartbeats 4000000
set_option maxRecDepth 100000
set_option maxHeartbeats 4000000
namespace My
open PySem L2
def top (i:Nat):Stmt:=PySem.Challenge.pw_swapbook_k75_one_sender_behind_another.main.body.getD i (.Pass ⟨0,0,0,0⟩)
abbrev zcn:Stmt:=top 23
abbrev zia:Stmt:=top 24
abbrev zhW:Stmt:=top 25
abbrev zgv:Stmt:=top 26
abbrev zeM:Stmt:=top 27
abbrev zbT:Stmt:=zf5 (top 31) 0
abbrev zfi:Stmt:=top 32
abbrev zbo:Stmt:=top 33
abbrev zfl:Stmt:=top 35
abbrev zgg:Stmt:=top 36
abbrev zff:Stmt:=top 37
abbrev zfg:Stmt:=top 38
abbrev zgj:Stmt:=top 39
abbrev zez:Stmt:=top 40
abbrev zfd:Stmt:=top 41
abbrev zfk:Stmt:=top 42
abbrev zdk:Stmt:=zf5 (top 44) 0
abbrev zbX:Stmt:=zf5 (top 46) 0
abbrev zeB:Stmt:=top 47
abbrev zfe:Stmt:=top 48
abbrev zdm:Stmt:=top 49
abbrev zfO:Stmt:=top 50
abbrev zbg:Stmt:=top 52
abbrev zbq:Stmt:=top 53
abbrev zbt:Stmt:=zf5 (top 54) 0
abbrev zc0:Stmt:=zf5 (top 54) 1
abbrev zbS:Stmt:=zf5 (top 54) 6
abbrev zdQ:Stmt:=top 56
abbrev zdV:Stmt:=top 57
abbrev zdR:Stmt:=top 58
abbrev zd6:Stmt:=top 59
abbrev zeA:Stmt:=top 60
abbrev zfb:Stmt:=top 61
abbrev zdT:Stmt:=top 62
abbrev zcb:Stmt:=top 63
abbrev zc5:Stmt:=top 64
abbrev zbv:Stmt:=top 65
abbrev zeD:Stmt:=top 66
abbrev zdt:Stmt:=top 67
abbrev zcQ:Stmt:=top 68
abbrev zbE:Stmt:=top 69
abbrev zd0:Stmt:=top 70
abbrev zeE:Stmt:=top 71
abbrev zdP:Stmt:=top 72
abbrev zd1:Stmt:=top 73
abbrev zcg:Stmt:=top 74
abbrev zdY:Stmt:=top 75
abbrev zfu:Stmt:=top 76
abbrev zhm:Stmt:=top 77
abbrev zee:Stmt:=zf5 (top 44) 0
abbrev zek:Stmt:=zf5 (top 44) 0
abbrev lI:Ji->Ds:=λxs=>dL (List.map dI xs)
inductive Xn where
 | OtherBook
 deriving DecidableEq,Inhabited
structure Adr where
 no:Unit:=()
 Book:Addr
 Scale:Addr
 Line:Addr
 Rest:Addr
 Sender:Addr
 xc:Xn->Addr
 k_BadBasket:Addr
 k_BadBaskets:Addr
 k_BadNames:Addr
 k_BadRest:Addr
 k_BadRoad:Addr
 k_BadScale:Addr
 k_BadSwap:Addr
 k_BadWares:Addr
 k_Endless:Addr
 k_NoBook:Addr
 k_NoLine:Addr
 k_NoName:Addr
 k_NoSwap:Addr
 k_NotAlike:Addr
 k_NotKept:Addr
 k_OtherBook:Addr
 k_OtherWares:Addr
 k_SwapError:Addr
 k_TooGreat:Addr
 k_TooMany:Addr
def zcZ:Xn->Bool
 | .OtherBook=>false
def zcC:Xn->Bool
 | .OtherBook=>false
def zdx:Xn->Bool
 | .OtherBook=>false
def zd7:Xn->Bool
 | .OtherBook=>false
def zdO:Xn->Bool
 | .OtherBook=>false
def zds:Xn->Bool
 | .OtherBook=>false
def zd2:Xn->Bool
 | .OtherBook=>false
def zel:Xn->Bool
 | .OtherBook=>false
def zdS:Xn->Bool
 | .OtherBook=>false
def zey:Xn->Bool
 | .OtherBook=>false
def zeF:Xn->Bool
 | .OtherBook=>false
def zex:Xn->Bool
 | .OtherBook=>false
def zfc:Xn->Bool
 | .OtherBook=>false
def zei:Xn->Bool
 | .OtherBook=>false
def zdN:Xn->Bool
 | .OtherBook=>false
def zc2:Xn->Bool
 | .OtherBook=>true
def zcB:Xn->Bool
 | .OtherBook=>false
def zdv:Xn->Bool
 | .OtherBook=>false
def zeH:Xn->Bool
 | .OtherBook=>false
def zdh:Xn->Bool
 | .OtherBook=>true
structure BookD where
 many:Int
 swaps:Jq
 deriving Inhabited
def zaM (C:Addr) (b:BookD):Ds:=dO C [("many",dI b.many),("swaps",dL (List.map lI b.swaps))]
structure ScaleD where
 weights:Ji
 deriving Inhabited
structure LineD where
 weights:Ji
 deriving Inhabited
def ztM (C:Addr) (b:LineD):Ds:=dO C [("weights",dL (List.map dI b.weights))]
structure RestD where
 weights:Ji
 rest:Int
 deriving Inhabited
def ztT (C:Addr) (b:RestD):Ds:=dO C [("weights",dL (List.map dI b.weights)),("rest",dI b.rest)]
structure SenderD where
 first:BookD
 second:BookD
 baskets:Jq
 deriving Inhabited
def zav (A:Adr) (C:Addr) (b:SenderD):Ds:=dO C [("first",zaM A.Book b.first),("second",zaM A.Book b.second),("baskets",dL (List.map lI b.baskets))]
instance:Inhabited (LineD⊕RestD):=⟨.inl default⟩
def dSc (A:Adr):LineD ⊕ RestD->Ds
 | .inl l=>ztM A.Line l
 | .inr r=>ztT A.Rest r
theorem zvV {A:Adr}:NN (dSc A):=λx H v h=>match x,h with
 | .inl l,h=>NN.obj (f:=λ(b:LineD)=>[("weights",dL (List.map dI b.weights))]) l H v h
 | .inr r,h=>NN.obj (f:=λ(b:RestD)=>[("weights",dL (List.map dI b.weights)),("rest",dI b.rest)]) r H v h
structure Txt (K:W.Frag) (mg:Str->Option Value) (A:Adr):Prop where
 ValueError:mg "ValueError"=none
 abs:mg "abs"=none
 all:mg "all"=none
 bool:mg "bool"=none
 enumerate:mg "enumerate"=none
 int:mg "int"=none
 isinstance:mg "isinstance"=none
 len:mg "len"=none
 list:mg "list"=none
 max:mg "max"=none
 range:mg "range"=none
 reversed:mg "reversed"=none
 sum:mg "sum"=none
 zip:mg "zip"=none
 Book:mg "Book"=some (.ref A.Book)
 Book_cl:Cls K A.Book
 Book_many:NoAttr K A.Book "many"
 Book_swaps:NoAttr K A.Book "swaps"
 Scale:mg "Scale"=some (.ref A.Scale)
 Scale_cl:Cls K A.Scale
 Scale_weights:NoAttr K A.Scale "weights"
 Line:mg "Line"=some (.ref A.Line)
 Line_cl:Cls K A.Line
 Line_weights:NoAttr K A.Line "weights"
 Rest:mg "Rest"=some (.ref A.Rest)
 Rest_cl:Cls K A.Rest
 Rest_weights:NoAttr K A.Rest "weights"
 Rest_rest:NoAttr K A.Rest "rest"
 Sender:mg "Sender"=some (.ref A.Sender)
 Sender_cl:Cls K A.Sender
 Sender_first:NoAttr K A.Sender "first"
 Sender_second:NoAttr K A.Sender "second"
 Sender_baskets:NoAttr K A.Sender "baskets"
 g_MOST_WARES:∃ t,mg "MOST_WARES"=some (.int 8 t)
 g_MOST_SWAPS:∃ t,mg "MOST_SWAPS"=some (.int 12 t)
 k_BadBasket:mg "BadBasket"=some (.ref A.k_BadBasket)
 k_BadBaskets:mg "BadBaskets"=some (.ref A.k_BadBaskets)
 k_BadNames:mg "BadNames"=some (.ref A.k_BadNames)
 k_BadRest:mg "BadRest"=some (.ref A.k_BadRest)
 k_BadRoad:mg "BadRoad"=some (.ref A.k_BadRoad)
 k_BadScale:mg "BadScale"=some (.ref A.k_BadScale)
 k_BadSwap:mg "BadSwap"=some (.ref A.k_BadSwap)
 k_BadWares:mg "BadWares"=some (.ref A.k_BadWares)
 k_Endless:mg "Endless"=some (.ref A.k_Endless)
 k_NoBook:mg "NoBook"=some (.ref A.k_NoBook)
 k_NoLine:mg "NoLine"=some (.ref A.k_NoLine)
 k_NoName:mg "NoName"=some (.ref A.k_NoName)
 k_NoSwap:mg "NoSwap"=some (.ref A.k_NoSwap)
 k_NotAlike:mg "NotAlike"=some (.ref A.k_NotAlike)
 k_NotKept:mg "NotKept"=some (.ref A.k_NotKept)
 k_OtherBook:mg "OtherBook"=some (.ref A.k_OtherBook)
 k_OtherWares:mg "OtherWares"=some (.ref A.k_OtherWares)
 k_SwapError:mg "SwapError"=some (.ref A.k_SwapError)
 k_TooGreat:mg "TooGreat"=some (.ref A.k_TooGreat)
 k_TooMany:mg "TooMany"=some (.ref A.k_TooMany)
 xm_OtherBook:mg "OtherBook"=some ↑23
 xi_OtherBook:W.excIn K (A.xc .OtherBook) [.type "ValueError",.type "Exception",.type "BaseException",.type "object"] "ValueError.__new__"=true
 xcl_OtherBook:XCls K (A.xc .OtherBook)
 exm_OtherBook:W.exmOne K ↑23 (.ref A.k_SwapError)=some true
 i0_BadBasket:W.kitOne K ↑6 (.ref A.k_BadBasket)=some false
 i_OtherBook_BadBasket:W.kitOne K ↑23 (.ref A.k_BadBasket)=some (zcZ .OtherBook)
 i0_BadBaskets:W.kitOne K ↑6 (.ref A.k_BadBaskets)=some false
 i_OtherBook_BadBaskets:W.kitOne K ↑23 (.ref A.k_BadBaskets)=some (zcC .OtherBook)
 i0_BadNames:W.kitOne K ↑6 (.ref A.k_BadNames)=some false
 i_OtherBook_BadNames:W.kitOne K ↑23 (.ref A.k_BadNames)=some (zdx .OtherBook)
 i0_BadRest:W.kitOne K ↑6 (.ref A.k_BadRest)=some false
 i_OtherBook_BadRest:W.kitOne K ↑23 (.ref A.k_BadRest)=some (zd7 .OtherBook)
 i0_BadRoad:W.kitOne K ↑6 (.ref A.k_BadRoad)=some false
 i_OtherBook_BadRoad:W.kitOne K ↑23 (.ref A.k_BadRoad)=some (zdO .OtherBook)
 i0_BadScale:W.kitOne K ↑6 (.ref A.k_BadScale)=some false
 i_OtherBook_BadScale:W.kitOne K ↑23 (.ref A.k_BadScale)=some (zds .OtherBook)
 i0_BadSwap:W.kitOne K ↑6 (.ref A.k_BadSwap)=some false
 i_OtherBook_BadSwap:W.kitOne K ↑23 (.ref A.k_BadSwap)=some (zd2 .OtherBook)
 i0_BadWares:W.kitOne K ↑6 (.ref A.k_BadWares)=some false
 i_OtherBook_BadWares:W.kitOne K ↑23 (.ref A.k_BadWares)=some (zel .OtherBook)
 i0_Endless:W.kitOne K ↑6 (.ref A.k_Endless)=some false
 i_OtherBook_Endless:W.kitOne K ↑23 (.ref A.k_Endless)=some (zdS .OtherBook)
 i0_NoBook:W.kitOne K ↑6 (.ref A.k_NoBook)=some false
 i_OtherBook_NoBook:W.kitOne K ↑23 (.ref A.k_NoBook)=some (zey .OtherBook)
 i0_NoLine:W.kitOne K ↑6 (.ref A.k_NoLine)=some false
 i_OtherBook_NoLine:W.kitOne K ↑23 (.ref A.k_NoLine)=some (zeF .OtherBook)
 i0_NoName:W.kitOne K ↑6 (.ref A.k_NoName)=some false
 i_OtherBook_NoName:W.kitOne K ↑23 (.ref A.k_NoName)=some (zex .OtherBook)
 i0_NoSwap:W.kitOne K ↑6 (.ref A.k_NoSwap)=some false
 i_OtherBook_NoSwap:W.kitOne K ↑23 (.ref A.k_NoSwap)=some (zfc .OtherBook)
 i0_NotAlike:W.kitOne K ↑6 (.ref A.k_NotAlike)=some false
 i_OtherBook_NotAlike:W.kitOne K ↑23 (.ref A.k_NotAlike)=some (zei .OtherBook)
 i0_NotKept:W.kitOne K ↑6 (.ref A.k_NotKept)=some false
 i_OtherBook_NotKept:W.kitOne K ↑23 (.ref A.k_NotKept)=some (zdN .OtherBook)
 i0_OtherBook:W.kitOne K ↑6 (.ref A.k_OtherBook)=some false
 i_OtherBook_OtherBook:W.kitOne K ↑23 (.ref A.k_OtherBook)=some (zc2 .OtherBook)
 i0_OtherWares:W.kitOne K ↑6 (.ref A.k_OtherWares)=some false
 i_OtherBook_OtherWares:W.kitOne K ↑23 (.ref A.k_OtherWares)=some (zcB .OtherBook)
 i0_TooGreat:W.kitOne K ↑6 (.ref A.k_TooGreat)=some false
 i_OtherBook_TooGreat:W.kitOne K ↑23 (.ref A.k_TooGreat)=some (zdv .OtherBook)
 i0_TooMany:W.kitOne K ↑6 (.ref A.k_TooMany)=some false
 i_OtherBook_TooMany:W.kitOne K ↑23 (.ref A.k_TooMany)=some (zeH .OtherBook)
 i0_ValueError:W.kitOne K ↑6 (.type "ValueError")=some false
 i_OtherBook_ValueError:W.kitOne K ↑23 (.type "ValueError")=some (zdh .OtherBook)
 kit_int_bool:W.kitOne K (.type "int") (.type "bool")=some false
 kit_int_int:W.kitOne K (.type "int") (.type "int")=some true
 kit_list_list:W.kitOne K (.type "list") (.type "list")=some true
 isi_Sender:Cls K A.Sender∧W.findIn K (.ref A.Sender) "__class__"=some (some ↑47)∧W.specialIn K ↑47 "__get__"=some (some ↑192)∧W.takesIn K ↑47=some true∧W.mroIn K A.Sender (.type "object")=some true∧W.kitOne K (.ref A.Sender) (.ref A.Sender)=some true
theorem Txt.hx_BadBasket {K:W.Frag} {mg:Str->Option Value} {A:Adr} (T:Txt K mg A):∀ e,XCls K (A.xc e)∧W.kitOne K ↑31 (.ref A.k_BadBasket)=some (zcZ e)
 | .OtherBook=>⟨T.xcl_OtherBook,T.i_OtherBook_BadBasket⟩
theorem Txt.hx_BadBaskets {K:W.Frag} {mg:Str->Option Value} {A:Adr} (T:Txt K mg A):∀ e,XCls K (A.xc e)∧W.kitOne K ↑31 (.ref A.k_BadBaskets)=some (zcC e)
 | .OtherBook=>⟨T.xcl_OtherBook,T.i_OtherBook_BadBaskets⟩
theorem Txt.hx_BadNames {K:W.Frag} {mg:Str->Option Value} {A:Adr} (T:Txt K mg A):∀ e,XCls K (A.xc e)∧W.kitOne K ↑31 (.ref A.k_BadNames)=some (zdx e)
 | .OtherBook=>⟨T.xcl_OtherBook,T.i_OtherBook_BadNames⟩
theorem Txt.hx_BadRest {K:W.Frag} {mg:Str->Option Value} {A:Adr} (T:Txt K mg A):∀ e,XCls K (A.xc e)∧W.kitOne K ↑31 (.ref A.k_BadRest)=some (zd7 e)
 | .OtherBook=>⟨T.xcl_OtherBook,T.i_OtherBook_BadRest⟩
theorem Txt.hx_BadRoad {K:W.Frag} {mg:Str->Option Value} {A:Adr} (T:Txt K mg A):∀ e,XCls K (A.xc e)∧W.kitOne K ↑31 (.ref A.k_BadRoad)=some (zdO e)
 | .OtherBook=>⟨T.xcl_OtherBook,T.i_OtherBook_BadRoad⟩
theorem Txt.hx_BadScale {K:W.Frag} {mg:Str->Option Value} {A:Adr} (T:Txt K mg A):∀ e,XCls K (A.xc e)∧W.kitOne K ↑31 (.ref A.k_BadScale)=some (zds e)
 | .OtherBook=>⟨T.xcl_OtherBook,T.i_OtherBook_BadScale⟩
theorem Txt.hx_BadSwap {K:W.Frag} {mg:Str->Option Value} {A:Adr} (T:Txt K mg A):∀ e,XCls K (A.xc e)∧W.kitOne K ↑31 (.ref A.k_BadSwap)=some (zd2 e)
 | .OtherBook=>⟨T.xcl_OtherBook,T.i_OtherBook_BadSwap⟩
theorem Txt.hx_BadWares {K:W.Frag} {mg:Str->Option Value} {A:Adr} (T:Txt K mg A):∀ e,XCls K (A.xc e)∧W.kitOne K ↑31 (.ref A.k_BadWares)=some (zel e)
 | .OtherBook=>⟨T.xcl_OtherBook,T.i_OtherBook_BadWares⟩
theorem Txt.hx_Endless {K:W.Frag} {mg:Str->Option Value} {A:Adr} (T:Txt K mg A):∀ e,XCls K (A.xc e)∧W.kitOne K ↑31 (.ref A.k_Endless)=some (zdS e)
 | .OtherBook=>⟨T.xcl_OtherBook,T.i_OtherBook_Endless⟩
theorem Txt.hx_NoBook {K:W.Frag} {mg:Str->Option Value} {A:Adr} (T:Txt K mg A):∀ e,XCls K (A.xc e)∧W.kitOne K ↑31 (.ref A.k_NoBook)=some (zey e)
 | .OtherBook=>⟨T.xcl_OtherBook,T.i_OtherBook_NoBook⟩
theorem Txt.hx_NoLine {K:W.Frag} {mg:Str->Option Value} {A:Adr} (T:Txt K mg A):∀ e,XCls K (A.xc e)∧W.kitOne K ↑31 (.ref A.k_NoLine)=some (zeF e)
 | .OtherBook=>⟨T.xcl_OtherBook,T.i_OtherBook_NoLine⟩
theorem Txt.hx_NoName {K:W.Frag} {mg:Str->Option Value} {A:Adr} (T:Txt K mg A):∀ e,XCls K (A.xc e)∧W.kitOne K ↑31 (.ref A.k_NoName)=some (zex e)
 | .OtherBook=>⟨T.xcl_OtherBook,T.i_OtherBook_NoName⟩
theorem Txt.hx_NoSwap {K:W.Frag} {mg:Str->Option Value} {A:Adr} (T:Txt K mg A):∀ e,XCls K (A.xc e)∧W.kitOne K ↑31 (.ref A.k_NoSwap)=some (zfc e)
 | .OtherBook=>⟨T.xcl_OtherBook,T.i_OtherBook_NoSwap⟩
theorem Txt.hx_NotAlike {K:W.Frag} {mg:Str->Option Value} {A:Adr} (T:Txt K mg A):∀ e,XCls K (A.xc e)∧W.kitOne K ↑31 (.ref A.k_NotAlike)=some (zei e)
 | .OtherBook=>⟨T.xcl_OtherBook,T.i_OtherBook_NotAlike⟩
theorem Txt.hx_NotKept {K:W.Frag} {mg:Str->Option Value} {A:Adr} (T:Txt K mg A):∀ e,XCls K (A.xc e)∧W.kitOne K ↑31 (.ref A.k_NotKept)=some (zdN e)
 | .OtherBook=>⟨T.xcl_OtherBook,T.i_OtherBook_NotKept⟩
theorem Txt.hx_OtherBook {K:W.Frag} {mg:Str->Option Value} {A:Adr} (T:Txt K mg A):∀ e,XCls K (A.xc e)∧W.kitOne K ↑31 (.ref A.k_OtherBook)=some (zc2 e)
 | .OtherBook=>⟨T.xcl_OtherBook,T.i_OtherBook_OtherBook⟩
theorem Txt.hx_OtherWares {K:W.Frag} {mg:Str->Option Value} {A:Adr} (T:Txt K mg A):∀ e,XCls K (A.xc e)∧W.kitOne K ↑31 (.ref A.k_OtherWares)=some (zcB e)
 | .OtherBook=>⟨T.xcl_OtherBook,T.i_OtherBook_OtherWares⟩
theorem Txt.hx_TooGreat {K:W.Frag} {mg:Str->Option Value} {A:Adr} (T:Txt K mg A):∀ e,XCls K (A.xc e)∧W.kitOne K ↑31 (.ref A.k_TooGreat)=some (zdv e)
 | .OtherBook=>⟨T.xcl_OtherBook,T.i_OtherBook_TooGreat⟩
theorem Txt.hx_TooMany {K:W.Frag} {mg:Str->Option Value} {A:Adr} (T:Txt K mg A):∀ e,XCls K (A.xc e)∧W.kitOne K ↑31 (.ref A.k_TooMany)=some (zeH e)
 | .OtherBook=>⟨T.xcl_OtherBook,T.i_OtherBook_TooMany⟩
theorem Txt.hx_ValueError {K:W.Frag} {mg:Str->Option Value} {A:Adr} (T:Txt K mg A):∀ e,XCls K (A.xc e)∧W.kitOne K ↑31 (.type "ValueError")=some (zdh e)
 | .OtherBook=>⟨T.xcl_OtherBook,T.i_OtherBook_ValueError⟩
section
variable {P:Program} {w:World} {K:W.Frag} {mg:Str->Option Value} {base:Heap} {f:Addr} {fd:FuncData} {A:Adr}
def zfS (P0:Ji) (P1:Ji):Unit:=()
def zbN (P0:Ji) (P1:Ji):Prop:=P0.length=P1.length
def zcx (K:W.Frag) (A:Adr):Sp:=Spv (ι:=Ji×Ji) ↑224 (λx=>zbN x.1 x.2) (λx=>↥[dN])
theorem zhB:FnScope ↥7 ↥7 (zad zcn):=⇑4
theorem zhC (F:Fun K "refuse_unlike" "refuse_unlike" zcn f fd) (T:Txt K mg A) :FnOk P w K mg base ⇑1 1 f fd ↥7 (zcx K A):=by
 refine F.okV zhB ↥4 ⇑8
 obtain ⟨P0,P1⟩:=x
 have hu:=hr.units
 replace hp:zbN P0 P1:=hp
 unfold zbN at hp
 refine ⟨_,(zac (zcp (zaJ zf4 ↑187 ↑188 (zaP _)) (zac zes zaf) zaf) zaf),.inr ⟨_,([⇑[dQ K ↥5],⇑[dQ K ⇑6]]:L2.Ctx),rfl,?_⟩⟩
 show L2.Run _ ([⇑[dQ K ↥5],⇑[dQ K ⇑6]]:L2.Ctx) _ _
 exact (zb5 (EvT.conv (zay (zeg (x:=↑34) (y:=((P1.length:Nat):Int)) (zaZ (f:=dI) (xs:=P0) ↑2) (zaZ (f:=dI) (xs:=P1) ⇑3))) ↑258) (zaw ↑131))
def ze8 (P0:Ji) (P1:Ji):Ji :=
 (List.map (λ(x2:↑17)=>(x2.1+x2.2)) (List.zip P0 P1))
def zfz (P0:Ji) (P1:Ji):Prop:=P0.length=P1.length∧P0.length≤1000
def zju (K:W.Frag) (A:Adr):Sp:=Spv (ι:=Ji×Ji) ↑224 (λx=>zfz x.1 x.2) (λx=>.ow true (List.map dI (ze8 x.1 x.2)))
theorem zrs:FnScope ↥7 ↥7 (zad zia):=⇑4
theorem zp3 (F:Fun K "plus" "plus" zia f fd) (T:Txt K mg A) (yae:Callee P w K mg base ⇑1 1 "refuse_unlike" ↥7 (zcx K A)):FnOk P w K mg base ⇑1 2 f fd ↥7 (zju K A):=by
 refine F.okV zrs ↥4 ⇑8
 obtain ⟨P0,P1⟩:=x
 have hu:=hr.units
 replace hp:zfz P0 P1:=hp
 unfold zfz at hp
 refine ⟨_,(zac (zc9 (zaT yae ↥1 rfl zaL ↑[pv 0,pv 1])) (zac (zaR (zbG rfl (.of (osc:=(zad zia)) (N:=↥7) (own:=["a","b"]) (fvn:=[]) (fv:=[]) rfl rfl ↑4) (zc6 (K:=K) rfl rfl T.zip ↑[pv 0,pv 1]) (λ_ _ _ _ _=>⟨(zbu (K:=K) (n:=2) rfl rfl (zaG (zan (i:=0) ↑184 rfl ⇑0 ↥2) (zaG (zan (i:=1) ↑184 rfl ⇑0 ↥2) zci))),za5,(zaz zcG (pv 0) (pv 1))⟩))) zaf)),.inl ?_⟩
 show L2.Run _ ([⇑[dQ K ↥5],⇑[dQ K ⇑6]]:L2.Ctx) _ (↑229 (ze8 P0 P1))
 unfold ze8
 exact (zgI (m:=true) (Ev.any (m:=true) (zau (x:=(P0,P1)) (zab ↑2 (zab ⇑3 zag)) rfl (by show zbN P0 P1;exact hp.1) rfl)) (ze7 (zhJ (EvO.conv (zbA (g:=(λ(x2:↑17)=>dI (x2.1+x2.2))) (ze9 (m:=false) dI dI (xs:=P0) (ys:=P1) ↑2 ⇑3) ↥(zal ↑199) ↑5 (λi3 x2 hx4=>have qhx4:=zcE hx4;(zaX (x:=x2.1) (y:=x2.2) ↑9 ↥6))) ↑8))))
def zfF (P0:Ji) (P1:Ji):Ji :=
 (List.map (λ(x5:↑17)=>(x5.1-x5.2)) (List.zip P0 P1))
def zfA (P0:Ji) (P1:Ji):Prop:=P0.length=P1.length∧P0.length≤1000
def ziT (K:W.Frag) (A:Adr):Sp:=Spv (ι:=Ji×Ji) ↑224 (λx=>zfA x.1 x.2) (λx=>.ow true (List.map dI (zfF x.1 x.2)))
theorem zqy:FnScope ↥7 ↥7 (zad zhW):=⇑4
theorem zqV (F:Fun K "less" "less" zhW f fd) (T:Txt K mg A) (yae:Callee P w K mg base ⇑1 1 "refuse_unlike" ↥7 (zcx K A)):FnOk P w K mg base ⇑1 2 f fd ↥7 (ziT K A):=by
 refine F.okV zqy ↥4 ⇑8
 obtain ⟨P0,P1⟩:=x
 have hu:=hr.units
 replace hp:zfA P0 P1:=hp
 unfold zfA at hp
 refine ⟨_,(zac (zc9 (zaT yae ↥1 rfl zaL ↑[pv 0,pv 1])) (zac (zaR (zbG rfl (.of (osc:=(zad zhW)) (N:=↥7) (own:=["a","b"]) (fvn:=[]) (fv:=[]) rfl rfl ↑4) (zc6 (K:=K) rfl rfl T.zip ↑[pv 0,pv 1]) (λ_ _ _ _ _=>⟨(zbu (K:=K) (n:=2) rfl rfl (zaG (zan (i:=0) ↑184 rfl ⇑0 ↥2) (zaG (zan (i:=1) ↑184 rfl ⇑0 ↥2) zci))),za5,(zaz zeQ (pv 0) (pv 1))⟩))) zaf)),.inl ?_⟩
 show L2.Run _ ([⇑[dQ K ↥5],⇑[dQ K ⇑6]]:L2.Ctx) _ (↑229 (zfF P0 P1))
 unfold zfF
 exact (zgI (m:=true) (Ev.any (m:=true) (zau (x:=(P0,P1)) (zab ↑2 (zab ⇑3 zag)) rfl (by show zbN P0 P1;exact hp.1) rfl)) (ze7 (zhJ (EvO.conv (zbA (g:=(λ(x5:↑17)=>dI (x5.1-x5.2))) (ze9 (m:=false) dI dI (xs:=P0) (ys:=P1) ↑2 ⇑3) ↥(zal ↑199) ↑5 (λi6 x5 hx7=>have qhx7:=zcE hx7;(zaX (x:=x5.1) (y:=x5.2) ↑9 ↥6))) ↑8))))
def zax (P0:Ji) (P1:Int):Ji :=
 (List.map (λ(x8:Int)=>(x8*P1)) P0)
def zb9 (P0:Ji) (P1:Int):Prop:=P0.length≤1000∧∀ x∈P0,zdJ x P1
def zfw (K:W.Frag) (A:Adr):Sp:=Spv (ι:=Ji×Int) (λx=>[dQ K (List.map dI x.1),dI x.2]) (λx=>zb9 x.1 x.2) (λx=>.ow true (List.map dI (zax x.1 x.2)))
theorem zoY:FnScope ["some","many"] ["some","many"] (zad zgv):=⇑4
theorem zop (F:Fun K "times" "times" zgv f fd) (T:Txt K mg A) :FnOk P w K mg base ⇑1 1 f fd ["some","many"] (zfw K A):=by
 refine F.okV zoY ↥4 ⇑8
 obtain ⟨P0,P1⟩:=x
 have hu:=hr.units
 replace hp:zb9 P0 P1:=hp
 unfold zb9 at hp
 refine ⟨_,(zac (zaR (zbG rfl (.of (osc:=(zad zgv)) (N:=["some","many"]) (own:=["number"]) (fvn:=["many"]) (fv:=[1]) rfl rfl ↑4) (zaV (K:=K) rfl (pv 0)) (λ_ _ _ _ _=>⟨(zan (i:=0) (show (["number","many"]:List Str).Nodup by decide +kernel) rfl ⇑0 ↥2),za5,(zaz zbI (pv 0) (pv 1))⟩))) zaf),.inl ?_⟩
 show L2.Run _ ([⇑[dQ K ↥5],⇑[dI P1]]:L2.Ctx) _ (↑229 (zax P0 P1))
 unfold zax
 exact (ze7 (zhJ (EvO.conv (zbA (g:=(λ(x8:Int)=>dI (x8*P1))) (zbx (m:=false) dI (xs:=P0) ↑2) ↥(zal ↑0) ↑5 (λi9 x8 hx10=>have v10:=List.mem_of_getElem? hx10;(zaN (x:=x8) (y:=P1) ↑9 ↥6 ↥(hp.2 _ (List.mem_of_getElem? ↥0))))) ↑8)))
theorem zoQ {α:Type} {xs:List α} {i:Nat} {p:Int×α} (h:(zhU xs)[i]?=some p):p.2∈xs:=List.mem_of_getElem? (zfj h).2.2
def zck (P0:Ji) (P1:Ji):Int :=
 ((List.map (λ(x11:↑17)=>(x11.1*x11.2)) (List.zip P0 P1))).sum
def zeL (P0:Ji) (P1:Ji):Prop:=P0.length=P1.length∧P0.length≤1000∧∀ p∈List.zip P0 P1,zdJ p.1 p.2
def zhb (K:W.Frag) (A:Adr):Sp:=Spv (ι:=Ji×Ji) ↑224 (λx=>zeL x.1 x.2) (λx=>↥[dI (zck x.1 x.2)])
theorem zlT:FnScope ↥7 ↥7 (zad zeM):=⇑4
theorem zmb (F:Fun K "weighed" "weighed" zeM f fd) (T:Txt K mg A) (yae:Callee P w K mg base ⇑1 1 "refuse_unlike" ↥7 (zcx K A)):FnOk P w K mg base ⇑1 2 f fd ↥7 (zhb K A):=by
 refine F.okV zlT ↥4 ⇑8
 obtain ⟨P0,P1⟩:=x
 have hu:=hr.units
 replace hp:zeL P0 P1:=hp
 unfold zeL at hp
 refine ⟨_,(zac (zc9 (zaT yae ↥1 rfl zaL ↑[pv 0,pv 1])) (zac (zaR (zam (zmj (K:=K) rfl rfl) rfl T.sum PyProof.Rows.boot_sum ↑[(zbG rfl (.of (osc:=(zad zeM)) (N:=↥7) (own:=["a","b"]) (fvn:=[]) (fv:=[]) rfl rfl ↑4) (zc6 (K:=K) rfl rfl T.zip ↑[pv 0,pv 1]) (λ_ _ _ _ _=>⟨(zbu (K:=K) (n:=2) rfl rfl (zaG (zan (i:=0) ↑184 rfl ⇑0 ↥2) (zaG (zan (i:=1) ↑184 rfl ⇑0 ↥2) zci))),za5,(zaz zbI (pv 0) (pv 1))⟩))])) zaf)),.inl ?_⟩
 show L2.Run _ ([⇑[dQ K ↥5],⇑[dQ K ⇑6]]:L2.Ctx) _ (↑26 (zck P0 P1))
 unfold zck
 exact (zgI (m:=true) (Ev.any (m:=true) (zau (x:=(P0,P1)) (zab ↑2 (zab ⇑3 zag)) rfl (by show zbN P0 P1;exact hp.1) rfl)) (zak (zaH (zsG (xs:=(List.map (λ(x11:↑17)=>(x11.1*x11.2)) (List.zip P0 P1))) (Ev.weak (K:=K) (EvO.ev (EvO.conv (zbA (g:=(λ(x11:↑17)=>dI (x11.1*x11.2))) (ze9 (m:=false) dI dI (xs:=P0) (ys:=P1) ↑2 ⇑3) ↥(zal ↑199) ↑5 (λi12 x11 hx13=>have v13:=zcE hx13;(zaN (x:=x11.1) (y:=x11.2) ↑9 ↥6 ↥(hp.2.2 _ (List.mem_of_getElem? ↥0))))) ↑8)))))))
theorem zlR (w t:Ji):zck w t=Lat.dv w (Lat.vec t):=Lat.zpx w t
def zaj (P0:Ji):Int :=
 (zl3 (zcF (λ(s14:Unit) (x15:↑17)=>(((bif (!decide (x15.2=(0:Int))) then (Sum.inr x15.1) else (Sum.inl ()))):(Unit)⊕Int)) () (zhU P0)) (λ(r20:Unit)=>↑34) (λb=>b))
def zbs (P0:Ji):Prop:=True
def zdu (K:W.Frag) (A:Adr):Sp:=Spv (ι:=Ji) ↑175 (λx=>zbs x) (λx=>↥[dI (zaj x)])
theorem zg6:FnScope ["row","place","number"] ["row"] (zad zfl):=⇑4
theorem zl9 (F:Fun K "head_of" "head_of" zfl f fd) (T:Txt K mg A) :FnOk P w K mg base ⇑1 1 f fd ["row"] (zdu K A):=by
 refine F.okV zg6 ↥4 ↑68
 have hu:=hr.units
 replace hp:zbs P0:=hp
 unfold zbs at hp
 refine ⟨_,(zac (zcy PassesOwn.never rfl (zjq rfl rfl T.enumerate ↑[pv 0]) (zbu (K:=K) (n:=2) rfl rfl (zaG (zan (i:=1) zg6.nd rfl ⇑0 ⇑0) (zaG (zan (i:=2) zg6.nd rfl ⇑0 ⇑0) zci))) (zac (zcp (zaJ zf4 (pv 2) zai (zaP _)) (zac (zaR (pv 1)) zaf) zaf) zaf)) (zac (zaR ↑187) zaf)),.inl ?_⟩
 show L2.Run _ ([⇑[dQ K ↥5],.no,.no]:L2.Ctx) _ (↑26 (zaj P0))
 unfold zaj
 exact (zhL (s0:=()) (λ(s14:Unit)=>([⇑[dQ K ↥5],.no,.no]:L2.Ctx)) ↑26 (λb=>b) (λ(s14:Unit) (x15:↑17)=>(((bif (!decide (x15.2=(0:Int))) then (Sum.inr x15.1) else (Sum.inl ()))):(Unit)⊕Int)) (λ_ _=>True) (λb=> .inl ⟨_,_,rfl⟩) (ziY (m:=false) dI (xs:=P0) ↑2) (.eq ↑116) trivial (λi16 x15 s14 hx17 hI18=>have v17:=zfj hx17;⟨(λ_ _=>trivial),(za8 (b:=(!decide (x15.2=(0:Int)))) (zgH (λ(s14:Unit)=>([⇑[dQ K ↥5],.no,.no]:L2.Ctx)) ↑26) (zay (zeg (x:=x15.2) (y:=(0:Int)) ↑43 zaD)) (λh19=>(zaC (zak (zaH ↥6)))) (λh19=>(zaw (zar (.eq ↑64)))))⟩) (λr20 hr20 hI=>(zak (zaH (zaZ (f:=dI) (xs:=P0) ↑2)))))
theorem zc8 (r:Ji):zaj r=(Lat.hd r:Int):=Lat.zut r
def zdA (P0:Int) (P1:Int):(T3 Int Int Int) :=
 (Let (whl (λ(s21:Int×Int×Int×Int)=>(!decide (s21.2.1=(0:Int)))) (λ(s21:Int×Int×Int×Int)=>(Let (s21.1/s21.2.1) (λ(v24:Int)=>(Let (s21.1-(v24*s21.2.1)) (λ(v25:Int)=>(Let s21.2.1 (λ(v26:Int)=>(Let (s21.2.2.1-(v24*s21.2.2.2)) (λ(v27:Int)=>(Let s21.2.2.2 (λ(v28:Int)=>(v26,v25,v28,v27)))))))))))) (P1.toNat) (P0,P1,(1:Int),(0:Int))) (λ(r29:Int×Int×Int×Int)=>(T3.mk r29.1 r29.2.2.1 ((r29.1-(r29.2.2.1*P0))/P1))))
def zgf (P0:Int) (P1:Int):Prop:=Lat.zkk P0 P1
def zhY (K:W.Frag) (A:Adr):Sp:=Spv (ι:=Int×Int) (λx=>[dI x.1,dI x.2]) (λx=>zgf x.1 x.2) (λx=>↥[dT [dI ((zdA x.1 x.2).a),dI ((zdA x.1 x.2).b),dI ((zdA x.1 x.2).c)]])
theorem zcz:FnScope ["one","other","great","small","taken","later","part","left"] ↥7 (zad zgg):=⇑4
theorem zmR (F:Fun K "common" "common" zgg f fd) (T:Txt K mg A) :FnOk P w K mg base ⇑1 1 f fd ↥7 (zhY K A):=by
 refine F.okV zcz ↥4 ⇑8
 obtain ⟨P0,P1⟩:=x
 have hu:=hr.units
 replace hp:zgf P0 P1:=hp
 unfold zgf at hp
 refine ⟨_,(zac (zaq (i:=2) zcz.nd rfl ⇑0 (pv 0)) (zac (zaq (i:=3) zcz.nd rfl ⇑0 (pv 1)) (zac (zaq (i:=4) zcz.nd rfl ⇑0 zai) (zac (zaq (i:=5) zcz.nd rfl ⇑0 zai) (zac (zi4 PassesOwn.never (zaJ zf4 (pv 3) zai (zaP _)) (zac (zaq (i:=6) zcz.nd rfl ⇑0 (zaz zcw (pv 2) (pv 3))) (zac (zaq (i:=7) zcz.nd rfl ⇑0 (zaz zeQ (pv 2) (zaz zbI (pv 6) (pv 3)))) (zac (zaq (i:=2) zcz.nd rfl ⇑0 (pv 3)) (zac (zaq (i:=3) zcz.nd rfl ⇑0 (pv 7)) (zac (zaq (i:=7) zcz.nd rfl ⇑0 (zaz zeQ (pv 4) (zaz zbI (pv 6) (pv 5)))) (zac (zaq (i:=4) zcz.nd rfl ⇑0 (pv 5)) (zac (zaq (i:=5) zcz.nd rfl ⇑0 (pv 7)) zaf)))))))) (zac (zaR (zfJ ↑[pv 2,pv 4,zaz zcw (zaz zeQ (pv 2) (zaz zbI (pv 4) (pv 0))) (pv 1)])) zaf)))))),.inl ?_⟩
 show L2.Run _ ([⇑[dI P0],⇑[dI P1],.no,.no,.no,.no,.no,.no]:L2.Ctx) _ ((λ(r:(T3 Int Int Int))=>Oc.rt true (dT [dI r.a,dI r.b,dI r.c])) (zdA P0 P1))
 unfold zdA
 exact (zcq (m:=true) ↑9 (zcq (m:=true) ↥6 (zcq (m:=true) zaD (zcq (m:=true) zaD (zh9 (s0:=(P0,P1,(1:Int),(0:Int))) ↑180 (λ(r:(T3 Int Int Int))=>Oc.rt true (dT [dI r.a,dI r.b,dI r.c])) (λ(s21:Int×Int×Int×Int)=>(!decide (s21.2.1=(0:Int)))) (λ(s21:Int×Int×Int×Int)=>(Let (s21.1/s21.2.1) (λ(v24:Int)=>(Let (s21.1-(v24*s21.2.1)) (λ(v25:Int)=>(Let s21.2.1 (λ(v26:Int)=>(Let (s21.2.2.1-(v24*s21.2.2.2)) (λ(v27:Int)=>(Let s21.2.2.2 (λ(v28:Int)=>(v26,v25,v28,v27)))))))))))) (λ(s21:Int×Int×Int×Int)=>Lat.GI P0 P1 s21) (λ(s21:Int×Int×Int×Int)=>(s21.2.1).toNat) (P1.toNat) (.eq ↑58) ↥(Lat.GI.start hp.1 hp.2.1) ↥(Nat.le_refl _) (λs21 hI22=>⟨(zay (zeg (x:=s21.2.1) (y:=(0:Int)) ↑53 zaD)),λhc23=>⟨↥(Lat.GI.step ↥0 ↥0),(zao (m:=true) (x:=(s21.1/s21.2.1)) dI (λz=>Oc.nx (↑180 z)) (zaN (x:=s21.1) (y:=s21.2.1) ↑61 ↑53 ↥(Lat.GI.div ↥0 hp ↥0)) (λv24 hv24=>(zao (m:=true) (x:=(s21.1-(v24*s21.2.1))) dI (λz=>Oc.nx (↑180 z)) (zaX (x:=s21.1) (y:=(v24*s21.2.1)) ↑61 (zaN (x:=v24) (y:=s21.2.1) ↑78 ↑53 ↥(Lat.GI.mul1 ↥0 hp ↥0 ↥0))) (λv25 hv25=>(zao (m:=true) (x:=s21.2.1) dI (λz=>Oc.nx (↑180 z)) ↑53 (λv26 hv26=>(zcq (m:=true) ↑102 (zao (m:=true) (x:=(s21.2.2.1-(v24*s21.2.2.2))) dI (λz=>Oc.nx (↑180 z)) (zaX (x:=s21.2.2.1) (y:=(v24*s21.2.2.2)) ↑71 (zaN (x:=v24) (y:=s21.2.2.2) ↑78 ↑12 ↥(Lat.GI.mul2 ↥0 hp ↥0 ↥0))) (λv27 hv27=>(zao (m:=true) (x:=s21.2.2.2) dI (λz=>Oc.nx (↑180 z)) ↑12 (λv28 hv28=>(zcq (m:=true) ↑102 (zar (.eq (.eq (.eq (.eq (.eq (.eq ↑64)))))))))))))))))))⟩⟩) (λr29 hr29 hI hc=>(zak (zaH (zfH (zab ↑61 (zab ↑71 (zab (zaN (x:=(r29.1-(r29.2.2.1*P0))) (y:=P1) (zaX (x:=r29.1) (y:=(r29.2.2.1*P0)) ↑61 (zaN (x:=r29.2.2.1) (y:=P0) ↑71 ↑9 ↥(Lat.GI.mul3 ↥0 hp))) ↥6 ↥(Lat.zkk.div hp)) zag))) ↑128)))))))))
theorem zmt (a b:Int):zdA a b=Lat.cmn a b:=rfl
def zbV (P0:Ji):Ji :=
 (bif (decide ((ixD P0 (zaj P0))<(0:Int))) then (zax P0 ⇑7) else P0)
def zdr (P0:Ji):Prop:=P0.length≤1000∧Lat.hd P0<P0.length
def zg2 (K:W.Frag) (A:Adr):Sp:=Spv (ι:=Ji) (λx=>[dL (List.map dI x)]) (λx=>zdr x) (λx=>⇑[dL (List.map dI (zbV x))])
theorem zlU:FnScope ["row"] ["row"] (zad zff):=⇑4
theorem zma (F:Fun K "upright" "upright" zff f fd) (T:Txt K mg A) (yac:Callee P w K mg base ⇑1 1 "head_of" ["row"] (zdu K A)) (yai:Callee P w K mg base ⇑1 1 "times" ["some","many"] (zfw K A)):FnOk P w K mg base ⇑1 2 f fd ["row"] (zg2 K A):=by
 refine F.okV zlU ↥4 ↑68
 have hu:=hr.units
 replace hp:zdr P0:=hp
 unfold zdr at hp
 refine ⟨_,(zac (zaR (zoN (zaJ zjK (zaS ↑7 (pv 0) (zaT yac ↥1 rfl zaL ↑[pv 0]) ↥3) zai (zaP _)) (zaT yai ↥1 rfl zaL ↑[pv 0,zox zlv zai]) (pv 0))) zaf),.inl ?_⟩
 show L2.Run _ ([⇑[dL ↥5]]:L2.Ctx) _ ((λ(r:Ji)=>Oc.rt false (dL (List.map dI r))) (zbV P0))
 unfold zbV
 exact (zak (zaH (zuL lI (b:=(decide ((ixD P0 (zaj P0))<(0:Int)))) (x:=(zax P0 ⇑7)) (y:=P0) (zay (zaX (x:=(ixD P0 (zaj P0))) (y:=(0:Int)) (Ev.any (m:=false) (zbd (f:=dI) (xs:=P0) ↑94 (Ev.any (m:=true) (zau (x:=P0) (zab ↑94 zag) rfl (by show zbs P0;exact trivial) rfl)) (by have:=hp.2;rw [zc8];unfold InB;omega))) zaD)) (λhb=>(EvO.ev (EvO.anyI (m:=true) (zcH (x:=(P0,⇑7)) (zab ↑94 (zab (zpf (x:=(1:Int)) zaD) zag)) rfl (by show zb9 P0 ⇑7;exact ⟨hp.1,λ_ _=>.inr (.inl ↑5)⟩) rfl)))) (λhb=>↑2))))
theorem ziH (l:Ji):zbV l=Lat.upr l:=by unfold zbV;rw [zc8,Lat.zb2];rfl
theorem zld (s x:Ji):Let (zaj x) (λ(h:Int)=>Let ((ixD s h)/(ixD x h)) (λ(q:Int)=>Let (bif (!decide (q=(0:Int))) then (zfF s (zax x q)) else s) (λ(y:Ji)=>y)))=Lat.zkB s x:=by
 unfold Let
 dsimp only
 rw [zc8,Lat.zb2,Lat.zb2];rfl
section
variable {n s a b i:Nat} {l t:Ji} {h q:Int} {steps:Jq}
theorem ztO (T:Lat.Sd n s t) (e:h=(Lat.hd t:Int)) (hl:l.length=n∧Lat.Bit b l):InB l.length h:=Lat.zlw T e hl.1
theorem zlj (T:Lat.Sd n s t) (e:h=(Lat.hd t:Int)):InB t.length h:=Lat.zlw T e T.len
theorem zsh (p1:n≤1000) (p6:a+steps.length*(s+1)+s≤50000000) (hx:steps[i]?=some t) (T:∀ t∈steps,Lat.Sd n s t) (hl:l.length=n∧Lat.Bit (a+i*(s+1)) l) (e:h=(Lat.hd t:Int)) (eq:q=ixD l h/ixD t h):zb9 t q:=by
 have T1:=T t (List.mem_of_getElem? hx)
 exact ⟨by rw [T1.len];exact p1,Lat.zqo T1 e hl.2 eq (Lat.zq8 p6 ((List.getElem?_eq_some_iff.mp hx)).1)⟩
theorem zp5 (p1:n≤1000) (T:Lat.Sd n s t) (hl:l.length=n∧Lat.Bit b l):zfA l (zax t q):=⟨by rw [hl.1,show (zax t q).length=t.length from Lat.zby,T.len],by omega⟩
theorem ztK {sh:T3 Int Int Int} (e:h=(Lat.hd t:Int)) (T:Lat.Sd n s t) (h0:0<Lat.vec l (Lat.hd t)) (h1:Lat.vec l (Lat.hd t)<Lat.vec t (Lat.hd t)) (hs:sh=zdA (ixD t h) (ixD l h)):0<sh.a∧sh.a.natAbs≤2^8981∧sh.b.natAbs≤2^8980∧sh.c.natAbs≤2^17962:=by
 subst hs
 exact Lat.zpw (Lat.zmD T e h0 h1)
theorem zqR {x y:Int} (p1:n≤1000) (h1:t.length=n) (h2:l.length=n):zfz (zax t x) (zax l y):=⟨by rw [show (zax t x).length=t.length from Lat.zby,show (zax l y).length=l.length from Lat.zby,h1,h2],by rw [show (zax t x).length=t.length from Lat.zby,h1];exact p1⟩
theorem zoF {x y:Int} (p1:n≤1000) (h1:t.length=n) (h2:l.length=n):zfA (zax l x) (zax t y):=⟨by rw [show (zax t y).length=t.length from Lat.zby,show (zax l x).length=l.length from Lat.zby,h1,h2],by rw [show (zax l x).length=l.length from Lat.zby,h2];exact p1⟩
theorem zsC (e:h=(Lat.hd t:Int)) (T:Lat.Sd n s t):(ixD t h).natAbs≤2^8980:=by subst e;rw [Lat.zb2];exact T.top
theorem zqG (e:h=(Lat.hd t:Int)) (T:Lat.Sd n s t) (h0:0<Lat.vec l (Lat.hd t)) (h1:Lat.vec l (Lat.hd t)<Lat.vec t (Lat.hd t)):(ixD l h).natAbs≤2^8980:=by subst e;rw [Lat.zb2];have:=T.top;omega
end
def m_lowered (P0:Ji) (P1:Jq):Ji :=
 (Let (List.foldl (λ(s30:Ji) (x31:Ji)=>(Let (zaj x31) (λ(hv35:Int)=>(Let ((ixD s30 hv35)/(ixD x31 hv35)) (λ(v36:Int)=>(Let (bif (!decide (v36=(0:Int))) then (zfF s30 (zax x31 v36)) else s30) (λ(v38:Ji)=>v38))))))) P0 P1) (λ(r39:Ji)=>r39))
def zdo (P0:Ji) (P1:Jq):Prop:=Lat.LowP P0 P1
def zf8 (K:W.Frag) (A:Adr):Sp:=Spv (ι:=Ji×Jq) (λx=>[dQ K (List.map dI x.1),dQ K (List.map lI x.2)]) (λx=>zdo x.1 x.2) (λx=>↥[dL (List.map dI (m_lowered x.1 x.2))])
theorem zeC:FnScope ["row","steps","left","step","head","many"] ["row","steps"] (zad zfg):=⇑4
theorem zmk (F:Fun K "lowered" "lowered" zfg f fd) (T:Txt K mg A) (yac:Callee P w K mg base ⇑1 1 "head_of" ["row"] (zdu K A)) (ybU:Callee P w K mg base ⇑1 2 "less" ↥7 (ziT K A)) (yai:Callee P w K mg base ⇑1 1 "times" ["some","many"] (zfw K A)):FnOk P w K mg base ⇑1 3 f fd ["row","steps"] (zf8 K A):=by
 refine F.okV zeC ↥4 ⇑8
 obtain ⟨P0,P1⟩:=x
 have hu:=hr.units
 replace hp:zdo P0 P1:=hp
 unfold zdo at hp
 obtain ⟨N0,A0,S0,p1,p2,p3,p4,p5,p6⟩:=hp
 refine ⟨_,(zac (zaq (i:=2) zeC.nd rfl ⇑0 ↑134) (zac (zcy PassesOwn.never rfl (zaV (K:=K) rfl (pv 1)) (zan (i:=3) zeC.nd rfl ⇑0 ⇑0) (zac (zaq (i:=4) zeC.nd rfl ⇑0 (zaT yac ↥1 rfl zaL ↑[pv 3])) (zac (zaq (i:=5) zeC.nd rfl ⇑0 (zaz zcw (zaS ↑7 (pv 2) (pv 4) ↥3) (zaS ↑7 (pv 3) (pv 4) ↥3))) (zac (zcp (zaJ zf4 (pv 5) zai (zaP _)) (zac (zaq (i:=2) zeC.nd rfl ⇑0 (zaT ybU ↥1 rfl zaL ↑[pv 2,zaT yai ↥1 rfl zaL ↑[pv 3,pv 5]])) zaf) zaf) zaf)))) (zac (zaR (pv 2)) zaf))),.inl ?_⟩
 show L2.Run _ ([⇑[dQ K ↥5],⇑[dQ K ↥9],.no,.no,.no,.no]:L2.Ctx) _ (↑67 (m_lowered P0 P1))
 unfold m_lowered
 exact (zcq (m:=true) (EvO.ev (EvO.anyI (m:=false) (ze4 ↑2))) (zbL (s0:=P0) (λ(s30:Ji)=>([⇑[dQ K ↥5],⇑[dQ K ↥9],↥[dL (List.map dI s30)],.no,.no,.no]:L2.Ctx)) ↑67 (λ(s30:Ji) (x31:Ji)=>(Let (zaj x31) (λ(hv35:Int)=>(Let ((ixD s30 hv35)/(ixD x31 hv35)) (λ(v36:Int)=>(Let (bif (!decide (v36=(0:Int))) then (zfF s30 (zax x31 v36)) else s30) (λ(v38:Ji)=>v38))))))) (λ(i:Nat) (s30:Ji)=>s30.length=N0∧Lat.Bit (A0+i*(S0+1)) s30) (zbx (m:=false) lI (xs:=P1) ⇑3) (.eq (.eq ↑39)) ↥(⟨p2,by simpa using p4⟩) (λi32 x31 s30 hx33 hI34=>have v33:=List.mem_of_getElem? hx33;⟨↥(Lat.zrb (p5 _ ↥0) ↥0 (zld _ _)),(zao (m:=true) (x:=(zaj x31)) dI (λz=>Oc.nx ((λ(s30:Ji)=>([⇑[dQ K ↥5],⇑[dQ K ↥9],↥[dL (List.map dI s30)],.no,.no,.no]:L2.Ctx)) z)) (Ev.any (m:=true) (zau (x:=x31) (zab ↑72 zag) rfl (by show zbs x31;exact trivial) rfl)) (λhv35 hhead35=>have hH:=(hhead35).trans (zc8 _);(zao (m:=true) (x:=((ixD s30 hv35)/(ixD x31 hv35))) dI (λz=>Oc.nx ((λ(s30:Ji)=>([⇑[dQ K ↥5],⇑[dQ K ↥9],↥[dL (List.map dI s30)],.no,.no,.no]:L2.Ctx)) z)) (zaN (x:=(ixD s30 hv35)) (y:=(ixD x31 hv35)) (Ev.any (m:=true) (zbd (f:=dI) (xs:=s30) ↑90 ↑71 ↥(ztO (p5 _ ↥0) hH ↥0))) (Ev.any (m:=false) (zbd (f:=dI) (xs:=x31) ↑72 ↑71 ↥(zlj (p5 _ ↥0) hH))) ↥(Lat.zqg (p5 _ ↥0) hH)) (λv36 hv36=>(zc3 (b:=(!decide (v36=(0:Int)))) (λbb=>([⇑[dQ K ↥5],⇑[dQ K ↥9],↥[dL (List.map dI (bif bb then (zfF s30 (zax x31 v36)) else s30))],⇑[dL (List.map dI x31)],↥[dI hv35],↥[dI v36]]:L2.Ctx)) (zay (zeg (x:=v36) (y:=(0:Int)) ↑12 zaD)) (λh37=>(zcq (m:=true) (EvO.ev (EvO.anyI (m:=true) (zcH (x:=(s30,(zax x31 v36))) (zab ↑66 (zab (Ev.weak (K:=K) (EvO.ev (EvO.anyI (m:=true) (zcH (x:=(x31,v36)) (zab ↑72 (zab ↑12 zag)) rfl (by show zb9 x31 v36;exact zsh p1 p6 ↥0 p5 ↥0 hH ↥0) rfl)))) zag)) rfl (by show zfA s30 (zax x31 v36);exact zp5 p1 (p5 _ ↥0) ↥0) rfl))) (zar (.eq (.eq ↑39))))) (λh37=>(zar (.eq (.eq ↑39)))) (zcM (x:=(bif (!decide (v36=(0:Int))) then (zfF s30 (zax x31 v36)) else s30)) (λv38=>([⇑[dQ K ↥5],⇑[dQ K ↥9],↥[dL (List.map dI v38)],⇑[dL (List.map dI x31)],↥[dI hv35],↥[dI v36]]:L2.Ctx)) (λz=>Oc.nx ((λ(s30:Ji)=>([⇑[dQ K ↥5],⇑[dQ K ↥9],↥[dL (List.map dI s30)],.no,.no,.no]:L2.Ctx)) z)) (λv38 hv38=>(zar (.eq (.eq (.eq (.no ↑64))))))))))))⟩) (λr39 hr39 hI=>(zak (zaH ↑29)))))
theorem zfh (l:Ji) (ss:Jq):m_lowered l ss=Lat.low l ss:=by
 unfold m_lowered
 show List.foldl _ l ss=List.foldl Lat.zkB l ss
 congr 1
 funext s x
 exact zld s x
def zbB (P0:Ji) (P1:Ji):(Ji×Ji) :=
 (Let (zaj P0) (λ(hv40:Int)=>(Let (zdA (ixD P0 hv40) (ixD P1 hv40)) (λ(v41:(T3 Int Int Int))=>(Let (ze8 (zax P0 v41.b) (zax P1 v41.c)) (λ(v42:Ji)=>(Let (zfF (zax P1 ((ixD P0 hv40)/v41.a)) (zax P0 ((ixD P1 hv40)/v41.a))) (λ(v43:Ji)=>(v42,v43)))))))))
def zgk (P0:Ji) (P1:Ji):Prop:=Lat.MrgP P0 P1
def zh7 (K:W.Frag) (A:Adr):Sp:=Spv (ι:=Ji×Ji) ↑224 (λx=>zgk x.1 x.2) (λx=>↥[dT [dL (List.map dI ((zbB x.1 x.2).1)),dL (List.map dI ((zbB x.1 x.2).2))]])
theorem zfV:FnScope ["step","row","head","shared","first","second"] ["step","row"] (zad zgj):=⇑4
theorem znv (F:Fun K "merged" "merged" zgj f fd) (T:Txt K mg A) (ycM:Callee P w K mg base ⇑1 1 "common" ↥7 (zhY K A)) (yac:Callee P w K mg base ⇑1 1 "head_of" ["row"] (zdu K A)) (ybU:Callee P w K mg base ⇑1 2 "less" ↥7 (ziT K A)) (ybV:Callee P w K mg base ⇑1 2 "plus" ↥7 (zju K A)) (yai:Callee P w K mg base ⇑1 1 "times" ["some","many"] (zfw K A)):FnOk P w K mg base ⇑1 3 f fd ["step","row"] (zh7 K A):=by
 refine F.okV zfV ↥4 ⇑8
 obtain ⟨P0,P1⟩:=x
 have hu:=hr.units
 replace hp:zgk P0 P1:=hp
 unfold zgk at hp
 obtain ⟨N0,A0,S0,p1,p2,p3,p4,p5,p6,p7⟩:=hp
 refine ⟨_,(zac (zaq (i:=2) zfV.nd rfl ⇑0 (zaT yac ↥1 rfl zaL ↑[pv 0])) (zac (zaq (i:=3) zfV.nd rfl ⇑0 (zaT ycM ↥1 rfl zaL ↑[(zaS ↑7 (pv 0) (pv 2) ↥3),(zaS ↑7 (pv 1) (pv 2) ↥3)])) (zac (zaq (i:=4) zfV.nd rfl ⇑0 (zaT ybV ↥1 rfl zaL ↑[(zaT yai ↥1 rfl zaL ↑[pv 0,(zaS ↑42 (pv 3) zai ↥3)]),(zaT yai ↥1 rfl zaL ↑[pv 1,(zaS ↑42 (pv 3) zai ↥3)])])) (zac (zaq (i:=5) zfV.nd rfl ⇑0 (zaT ybU ↥1 rfl zaL ↑[(zaT yai ↥1 rfl zaL ↑[pv 1,(zaz zcw (zaS ↑7 (pv 0) (pv 2) ↥3) (zaS ↑42 (pv 3) zai ↥3))]),(zaT yai ↥1 rfl zaL ↑[pv 0,(zaz zcw (zaS ↑7 (pv 1) (pv 2) ↥3) (zaS ↑42 (pv 3) zai ↥3))])])) (zac (zaR (zfJ ↑[pv 4,pv 5])) zaf))))),.inl ?_⟩
 show L2.Run _ ([⇑[dQ K ↥5],⇑[dQ K ⇑6],.no,.no,.no,.no]:L2.Ctx) _ (↑220 (zbB P0 P1))
 unfold zbB
 exact (zao (m:=true) (x:=(zaj P0)) dI ↑220 (Ev.any (m:=true) (zau (x:=P0) (zab ↑2 zag) rfl (by show zbs P0;exact trivial) rfl)) (λhv40 hhead40=>have hH:=(hhead40).trans (zc8 _);(zao (m:=true) (x:=(zdA (ixD P0 hv40) (ixD P1 hv40))) (λ(p:(T3 Int Int Int))=>dT [dI p.a,dI p.b,dI p.c]) ↑220 (zau (x:=((ixD P0 hv40),(ixD P1 hv40))) (zab (Ev.any (m:=false) (zbd (f:=dI) (xs:=P0) ↑2 ↑61 ↥(zlj p2 hH))) (zab (Ev.any (m:=false) (zbd (f:=dI) (xs:=P1) ⇑3 ↑61 ↥(Lat.zlw p2 hH p3))) zag)) rfl (by show zgf (ixD P0 hv40) (ixD P1 hv40);exact Lat.zmD p2 hH p5 p6) rfl) (λv41 hv41=>have hC:=ztK hH p2 p5 p6 hv41;(zao (m:=true) (x:=(ze8 (zax P0 v41.b) (zax P1 v41.c))) lI ↑220 (EvO.ev (EvO.anyI (m:=true) (zcH (x:=((zax P0 v41.b),(zax P1 v41.c))) (zab (Ev.weak (K:=K) (EvO.ev (EvO.anyI (m:=true) (zcH (x:=(P0,v41.b)) (zab ↑2 (zab (Ev.any (m:=true) (zbM ↑38 zaD rfl)) zag)) rfl (by show zb9 P0 v41.b;exact ⟨by rw [p2.len];exact p1,Lat.ziZ p2.bit hC.2.2.1 ↑0 ↑1⟩) rfl)))) (zab (Ev.weak (K:=K) (EvO.ev (EvO.anyI (m:=true) (zcH (x:=(P1,v41.c)) (zab ⇑3 (zab (Ev.any (m:=true) (zbM ↑38 zaD rfl)) zag)) rfl (by show zb9 P1 v41.c;exact ⟨by rw [p3];exact p1,Lat.ziZ p4 hC.2.2.2 ↑0 ↑1⟩) rfl)))) zag)) rfl (by show zfz (zax P0 v41.b) (zax P1 v41.c);exact zqR p1 p2.len p3) rfl))) (λv42 hv42=>(zao (m:=true) (x:=(zfF (zax P1 ((ixD P0 hv40)/v41.a)) (zax P0 ((ixD P1 hv40)/v41.a)))) lI ↑220 (EvO.ev (EvO.anyI (m:=true) (zcH (x:=((zax P1 ((ixD P0 hv40)/v41.a)),(zax P0 ((ixD P1 hv40)/v41.a)))) (zab (Ev.weak (K:=K) (EvO.ev (EvO.anyI (m:=true) (zcH (x:=(P1,((ixD P0 hv40)/v41.a))) (zab ⇑3 (zab (zaN (x:=(ixD P0 hv40)) (y:=v41.a) (Ev.any (m:=false) (zbd (f:=dI) (xs:=P0) ↑2 ↑61 ↥(zlj p2 hH))) (Ev.any (m:=true) (zbM ↑38 zaD rfl)) ↥(Lat.zfv.of hC.1 hC.2.1 ↑1)) zag)) rfl (by show zb9 P1 ((ixD P0 hv40)/v41.a);exact ⟨by rw [p3];exact p1,Lat.ziZ p4 (Lat.zhh hC.1 (zsC hH p2)) ↑0 ↑1⟩) rfl)))) (zab (Ev.weak (K:=K) (EvO.ev (EvO.anyI (m:=true) (zcH (x:=(P0,((ixD P1 hv40)/v41.a))) (zab ↑2 (zab (zaN (x:=(ixD P1 hv40)) (y:=v41.a) (Ev.any (m:=false) (zbd (f:=dI) (xs:=P1) ⇑3 ↑61 ↥(Lat.zlw p2 hH p3))) (Ev.any (m:=true) (zbM ↑38 zaD rfl)) ↥(Lat.zfv.of hC.1 hC.2.1 ↑1)) zag)) rfl (by show zb9 P0 ((ixD P1 hv40)/v41.a);exact ⟨by rw [p2.len];exact p1,Lat.ziZ p2.bit (Lat.zhh hC.1 (zqG hH p2 p5 p6)) ↑0 ↑1⟩) rfl)))) zag)) rfl (by show zfA (zax P1 ((ixD P0 hv40)/v41.a)) (zax P0 ((ixD P1 hv40)/v41.a));exact zoF p1 p2.len p3) rfl))) (λv43 hv43=>(zak (zaH (zfH (zab ↑33 (zab ↑119 zag)) ↑105)))))))))))
theorem zh1 (s l:Ji):zbB s l=Lat.mrg s l:=by
 unfold zbB Let
 dsimp only
 rw [zc8,Lat.zb2,Lat.zb2,zmt];rfl
section
variable {n s a i:Nat} {row:Ji} {steps:Jq} {st:Lat.TS2} {x:Int×Ji}
theorem zr1 (p1:n≤1000) (p2:Lat.Ech n 0 steps) (p3:∀ t∈steps,Lat.Sd n s t) (p4:row.length=n) (p5:Lat.Bit a row) (p6:steps.length≤100) (p7:a+(steps.length+2)*↑59+s≤40000000):Lat.LowP row steps:=by
 refine ⟨n,a,s,p1,p4,by omega,p5,p3,?_⟩
 have e2:steps.length*(s+1)≤(steps.length+1)*(s+9000):=Nat.mul_le_mul ↑0 ↑0
 rw [Nat.add_mul steps.length 2] at p7
 omega
theorem zpO (p1:n≤1000) (I:Lat.TI steps n a s i st) (T:Lat.Sd n s x.2) (h:decide (zaj st.2<zaj x.2)=true):zdr st.2:=by
 rw [zc8,zc8] at h
 simp only [decide_eq_true_eq] at h
 have:=T.hd;have:=I.len
 exact ↑55
theorem zpC (p1:n≤1000) (I:Lat.TI steps n a s i st) (h:decide (zaj st.2<((st.2.length:Nat):Int))=true):zdr st.2:=by
 rw [zc8] at h
 simp only [decide_eq_true_eq] at h
 have:=I.len
 exact ↑55
theorem zrB (h:decide (zaj st.2=zaj x.2)=true):Lat.hd st.2=Lat.hd x.2:=by
 rw [zc8,zc8] at h
 simp only [decide_eq_true_eq] at h
 omega
theorem zs8 (I:Lat.TI steps n a s i st) (hx:i<steps.length∧x.1=(i:Int)∧steps[i]?=some x.2) (p6:steps.length≤100):st.1.length<PySem.sizeLine:=Nat.lt_of_le_of_lt (show _≤1000 by have:=I.g;omega) ↑1
theorem zsc (I:Lat.TI steps n a s (zhU steps).length st) (p6:steps.length≤100):st.1.length<PySem.sizeLine:=Nat.lt_of_le_of_lt (show _≤1000 by have:=I.g;rw [zjQ] at this;omega) ↑1
theorem zp6 {y:Ji} (I:Lat.TI steps n a s i st) (hx:i<steps.length∧x.1=(i:Int)∧steps[i]?=some x.2) (p6:steps.length≤100):st.1.length+[y].length≤PySem.sizeLine:=by
 apply zal
 have:=I.g
 simp;omega
theorem zrg {lo hi:Option Int}:(zcs steps lo hi).length≤steps.length:=by
 unfold zcs;rw [List.length_take,List.length_drop];omega
theorem zq9 {y:Ji} {lo hi:Option Int} (I:Lat.TI steps n a s i st) (hx:i<steps.length∧x.1=(i:Int)∧steps[i]?=some x.2) (p6:steps.length≤100):(st.1++[y]).length+(zcs steps lo hi).length≤PySem.sizeLine:=by
 apply zal
 have:=I.g
 have:=zrg (steps:=steps) (lo:=lo) (hi:=hi)
 simp;omega
end
def m_taken_in (P0:Jq) (P1:Ji):Jq :=
 (Let (m_lowered P1 P0) (λ(v44:Ji)=>(zl3 (zcF (λ(s54:Jq×Ji) (x55:(Int×Ji))=>(((bif (decide ((zaj s54.2)<(zaj x55.2))) then (Sum.inr ((s54.1++[(zbV s54.2)])++(zcs P0 (some x55.1) none))) else (Let (bif (decide ((zaj s54.2)=(zaj x55.2))) then (s54.1++[(↑132).1]) else (s54.1++[x55.2])) (λ(v61:Jq)=>(Let ↑240 (λ(v62:Ji)=>(Sum.inl (v61,v62)))))))):(Jq×Ji)⊕Jq)) ([],v44) (zhU P0)) (λ(r63:Jq×Ji)=>(Let (bif (decide ((zaj r63.2)<((r63.2.length:Nat):Int))) then (r63.1++[(zbV r63.2)]) else r63.1) (λ(v65:Jq)=>v65))) (λb=>b))))
def zeR (P0:Jq) (P1:Ji):Prop:=Lat.TinP P0 P1
def zgw (K:W.Frag) (A:Adr):Sp:=Spv (ι:=Jq×Ji) (λx=>[dQ K (List.map lI x.1),dQ K ↑161]) (λx=>zeR x.1 x.2) (λx=>⇑[dL (List.map lI (m_taken_in x.1 x.2))])
theorem zdp:FnScope ["steps","row","loose","grown","place","step","pair"] ["steps","row"] (zad zez):=⇑4
theorem zkF (F:Fun K "taken_in" "taken_in" zez f fd) (T:Txt K mg A) (yac:Callee P w K mg base ⇑1 1 "head_of" ["row"] (zdu K A)) (yau:Callee P w K mg base ⇑1 3 "lowered" ["row","steps"] (zf8 K A)) (ycN:Callee P w K mg base ⇑1 3 "merged" ["step","row"] (zh7 K A)) (ybr:Callee P w K mg base ⇑1 2 "upright" ["row"] (zg2 K A)):FnOk P w K mg base ⇑1 4 f fd ["steps","row"] (zgw K A):=by
 refine F.okV zdp ↥4 ⇑8
 obtain ⟨P0,P1⟩:=x
 have hu:=hr.units
 replace hp:zeR P0 P1:=hp
 unfold zeR at hp
 obtain ⟨N0,A0,S0,p1,p2,p3,p4,p5,p6,p7⟩:=hp
 refine ⟨_,(zac (zaq (i:=2) zdp.nd rfl ⇑0 (zaT yau ↥1 rfl zaL ↑[pv 1,pv 0])) (zac (zaq (i:=3) zdp.nd rfl ⇑0 (zbj zeT)) (zac (zcy PassesOwn.never rfl (zjq rfl rfl T.enumerate ↑[pv 0]) (zbu (K:=K) (n:=2) rfl rfl (zaG (zan (i:=4) zdp.nd rfl ⇑0 ⇑0) (zaG (zan (i:=5) zdp.nd rfl ⇑0 ⇑0) zci))) (zac (zcp (zaJ zjK (zaT yac ↥1 rfl zaL ↑[pv 2]) (zaT yac ↥1 rfl zaL ↑[pv 5]) (zaP _)) (zac (zaR (zaz zdD (zaz zdD (pv 3) (zbj ↑[zaT ybr ↥1 rfl zaL ↑[pv 2]])) (zd9 ↑121 (pv 0) (zdX (pv 4)) zgz))) zaf) zaf) (zac (zcp (zaJ zgr (zaT yac ↥1 rfl zaL ↑[pv 2]) (zaT yac ↥1 rfl zaL ↑[pv 5]) (zaP _)) (zac (zaq (i:=6) zdp.nd rfl ⇑0 (zaT ycN ↥1 rfl zaL ↑[pv 5,pv 2])) (zac (zc9 (zch (K:=K) rfl (pv 3) ↑[(zaS ↑42 (pv 6) zai ↥3)])) (zac (zaq (i:=2) zdp.nd rfl ⇑0 (zaT yau ↥1 rfl zaL ↑[(zaS ↑42 (pv 6) zai ↥3),(zd9 ↑121 (pv 0) (zdX (zaz zcG (pv 4) zai)) zgz)])) zaf))) (zac (zc9 (zch (K:=K) rfl (pv 3) ↑[pv 5])) zaf)) zaf))) (zac (zcp (zaJ zjK (zaT yac ↥1 rfl zaL ↑[pv 2]) ↑189 (zaP _)) (zac (zc9 (zch (K:=K) rfl (pv 3) ↑[zaT ybr ↥1 rfl zaL ↑[pv 2]])) zaf) zaf) (zac (zaR (pv 3)) zaf))))),.inl ?_⟩
 show L2.Run _ ([⇑[dQ K ↑10],⇑[dQ K ⇑6],.no,.no,.no,.no,.no]:L2.Ctx) _ (↑169 (m_taken_in P0 P1))
 unfold m_taken_in
 exact (zao (m:=true) (x:=(m_lowered P1 P0)) lI ↑169 (zau (x:=(P1,P0)) (zab ⇑3 (zab ↑2 zag)) rfl (by show zdo P1 P0;exact zr1 p1 p2 p3 p4 p5 p6 p7) rfl) (λv44 hv44=>have hL:=(hv44).trans (zfh _ _);(zeb (m:=true) (ds:=List.map lI []) ↑154 (zhL (s0:=([],v44)) ↑241 ↑169 (λb=>b) (λ(s54:Jq×Ji) (x55:(Int×Ji))=>(((bif (decide ((zaj s54.2)<(zaj x55.2))) then (Sum.inr ((s54.1++[(zbV s54.2)])++(zcs P0 (some x55.1) none))) else (Let (bif (decide ((zaj s54.2)=(zaj x55.2))) then (s54.1++[(↑132).1]) else (s54.1++[x55.2])) (λ(v61:Jq)=>(Let ↑240 (λ(v62:Ji)=>(Sum.inl (v61,v62)))))))):(Jq×Ji)⊕Jq)) (λ(i:Nat) (s54:Jq×Ji)=>Lat.TI P0 N0 A0 S0 i s54) (λb=> .inl ⟨_,_,rfl⟩) (ziY (m:=false) lI (xs:=P0) ↑2) (.eq (.eq (.eq (.oldL (.eq ↑116))))) (by rw [hL];exact Lat.TI.start p2 p3 p4 p5) (λi56 x55 s54 hx57 hI58=>have v57:=zfj hx57;⟨(by intro z hz;simp only [zc8,ziH,zh1,zfh] at hz;exact Lat.TI.step ↥0 p2 p3 ↥0 hz),(za8 (b:=(decide ((zaj s54.2)<(zaj x55.2)))) (zgH ↑241 ↑169) (zay (zaX (x:=(zaj s54.2)) (y:=(zaj x55.2)) (Ev.any (m:=true) (zau (x:=s54.2) (zab ↑66 zag) rfl (by show zbs s54.2;exact trivial) rfl)) (Ev.any (m:=true) (zau (x:=x55.2) (zab ↑127 zag) rfl (by show zbs x55.2;exact trivial) rfl)))) (λh59=>(zaC (zbz (i:=3) rfl (zak (zaH (EvO.ev (zcu (f:=lI) (xs:=(s54.1++[(zbV s54.2)])) (ys:=(zcs P0 (some x55.1) none)) (EvO.ev (zcu (f:=lI) (xs:=s54.1) (ys:=[(zbV s54.2)]) ↑38 (EvO.ev (zb1 (zab (zau (x:=s54.2) (zab (Ev.old ↑29) zag) rfl (by show zdr s54.2;first | exact zpO p1 ↥0 (p3 _ (Lat.TI.mem ↥0).1) ↥0 | exact zpC p1 ↥0 ↥0) rfl) zag) ↑142)) ↥(zp6 ↥0 ↥0 p6))) (EvO.ev (ze6 (f:=lI) (xs:=P0) ↑2 (zcX (Ev.any (m:=false) ↑33)) zfB)) ↥(zq9 ↥0 ↥0 p6)))))))) (λh59=>(zaw (zc3 (b:=(decide ((zaj s54.2)=(zaj x55.2)))) (λbb=>([⇑[dQ K ↑10],⇑[dQ K ⇑6],↥[dL (List.map dI (bif bb then (m_lowered ((↑132).2) (zcs P0 (some (x55.1+(1:Int))) none)) else s54.2))],.ow false (List.map lI (bif bb then (s54.1++[(↑132).1]) else (s54.1++[x55.2]))),⇑[dI x55.1],⇑[dL (List.map dI x55.2)],.no]:L2.Ctx)) (zay (zeN (x:=(zaj s54.2)) (y:=(zaj x55.2)) (Ev.any (m:=true) (zau (x:=s54.2) (zab ↑66 zag) rfl (by show zbs s54.2;exact trivial) rfl)) (Ev.any (m:=true) (zau (x:=x55.2) (zab ↑127 zag) rfl (by show zbs x55.2;exact trivial) rfl)))) (λh60=>(zcq (m:=true) (zau (x:=(x55.2,s54.2)) (zab ↑127 (zab ↑66 zag)) rfl (by show zgk x55.2 s54.2;exact Lat.TI.mrg ↥0 p1 p3 ↥0 (zrB ↥0) p7) rfl) (zcd (f:=lI) (xs:=s54.1) (x:=(↑132).1) rfl (Ev.old (zbM ↑73 zaD rfl)) ↥(zs8 ↥0 ↥0 p6) (zcq (m:=true) (zau (x:=((↑132).2,(zcs P0 (some (x55.1+(1:Int))) none))) (zab (Ev.old (Ev.weak (K:=K) (zbM ↑73 zaD rfl))) (zab (Ev.weak (K:=K) (EvO.ev (ze6 (f:=lI) (xs:=P0) ↑2 (zcX (zaX (x:=x55.1) (y:=(1:Int)) (Ev.any (m:=false) ↑33) zaD)) zfB))) zag)) rfl (by show zdo ((↑132).2) (zcs P0 (some (x55.1+(1:Int))) none);unfold zdo;rw [zh1];exact Lat.TI.low ↥0 p1 p6 p3 ↥0 (zrB ↥0) p7) rfl) (zar (.eq (.eq (.eq (.eq (.eq (.eq (.no .nil)))))))))))) (λh60=>(zcd (f:=lI) (xs:=s54.1) (x:=x55.2) rfl ↑119 ↥(zs8 ↥0 ↥0 p6) (zar ↑58))) (zcM (x:=(bif (decide ((zaj s54.2)=(zaj x55.2))) then (s54.1++[(↑132).1]) else (s54.1++[x55.2]))) (λv61=>([⇑[dQ K ↑10],⇑[dQ K ⇑6],↥[dL (List.map dI ↑240)],.ow false (List.map lI v61),⇑[dI x55.1],⇑[dL (List.map dI x55.2)],.no]:L2.Ctx)) (zgH ↑241 ↑169) (λv61 hv61=>(zcM (x:=↑240) (λv62=>([⇑[dQ K ↑10],⇑[dQ K ⇑6],↥[dL (List.map dI v62)],.ow false (List.map lI v61),⇑[dI x55.1],⇑[dL (List.map dI x55.2)],.no]:L2.Ctx)) (zgH ↑241 ↑169) (λv62 hv62=>(zar (.eq (.eq (.eq (.eq (.no (.no (.eq .nil))))))))))))))))⟩) (λr63 hr63 hI=>(zc3 (b:=(decide ((zaj r63.2)<((r63.2.length:Nat):Int)))) (λbb=>([⇑[dQ K ↑10],⇑[dQ K ⇑6],↥[dL (List.map dI r63.2)],.ow false (List.map lI (bif bb then (r63.1++[(zbV r63.2)]) else r63.1)),.no,.no,.no]:L2.Ctx)) (zay (zaX (x:=(zaj r63.2)) (y:=((r63.2.length:Nat):Int)) (Ev.any (m:=true) (zau (x:=r63.2) (zab ↑66 zag) rfl (by show zbs r63.2;exact trivial) rfl)) (zaZ (f:=dI) (xs:=r63.2) ↑66))) (λh64=>(zcd (f:=lI) (xs:=r63.1) (x:=(zbV r63.2)) rfl (zau (x:=r63.2) (zab (Ev.old ↑29) zag) rfl (by show zdr r63.2;first | exact zpO p1 ↥0 (p3 _ (Lat.TI.mem ↥0).1) ↥0 | exact zpC p1 ↥0 ↥0) rfl) ↥(zsc ↥0 p6) (zar ↑58))) (λh64=>(zar ↑58)) (zcM (x:=(bif (decide ((zaj r63.2)<((r63.2.length:Nat):Int))) then (r63.1++[(zbV r63.2)]) else r63.1)) (λv65=>([⇑[dQ K ↑10],⇑[dQ K ⇑6],↥[dL (List.map dI r63.2)],.ow false (List.map lI v65),.no,.no,.no]:L2.Ctx)) ↑169 (λv65 hv65=>(zbz (i:=3) rfl (zak (zaH ↑38)))))))))))
theorem zjb (ss:Jq) (l:Ji):m_taken_in ss l=Lat.tin Lat.MG ss (Lat.low l ss):=by
 unfold m_taken_in
 simp only [zc8,ziH,zh1,zfh]
 exact Lat.zvm ss _
theorem zqO (x:Ji) (fl:Jq):Let ([(m_lowered x fl)]++fl) (λ(y:Jq)=>y)=[Lat.low x fl]++fl:=by unfold Let;rw [zfh]
theorem zrR {steps fl:Jq} {i:Nat} {x y:Ji} (h:Lat.ztf steps) (hx:steps.reverse[i]?=some x) (e:fl=Lat.stl (steps.drop (steps.length-i))):[y].length+fl.length≤PySem.sizeLine:=by
 obtain ⟨j,h1,_⟩:=Lat.zkX hx
 have:=Lat.ztg h ↑0 e
 apply zal
 simp;omega
def zcT (P0:Jq):Jq :=
 (Let (List.foldl (λ(s66:Jq) (x67:Ji)=>(Let ([(m_lowered x67 s66)]++s66) (λ(v71:Jq)=>v71))) [] (List.reverse P0)) (λ(r72:Jq)=>r72))
def zeK (P0:Jq):Prop:=Lat.ztf P0
def zhl (K:W.Frag) (A:Adr):Sp:=Spv (ι:=Jq) (λx=>[dQ K (List.map lI x)]) (λx=>zeK x) (λx=>↥[dL (List.map lI (zcT x))])
theorem zga:FnScope ["steps","flat","step"] ["steps"] (zad zfd):=⇑4
theorem zl7 (F:Fun K "settled" "settled" zfd f fd) (T:Txt K mg A) (yau:Callee P w K mg base ⇑1 3 "lowered" ["row","steps"] (zf8 K A)):FnOk P w K mg base ⇑1 4 f fd ["steps"] (zhl K A):=by
 refine F.okV zga ↥4 ↑68
 have hu:=hr.units
 replace hp:zeK P0:=hp
 unfold zeK at hp
 refine ⟨_,(zac (zaq (i:=1) zga.nd rfl ⇑0 (zbj zeT)) (zac (zcy PassesOwn.never rfl (zpN rfl rfl T.reversed ↑[pv 0]) (zan (i:=2) zga.nd rfl ⇑0 ⇑0) (zac (zaq (i:=1) zga.nd rfl ⇑0 (zaz zdD (zbj ↑[zaT yau ↥1 rfl zaL ↑[pv 2,pv 1]]) (pv 1))) zaf)) (zac (zaR (pv 1)) zaf))),.inl ?_⟩
 show L2.Run _ ([⇑[dQ K ↑10],.no,.no]:L2.Ctx) _ (↑138 (zcT P0))
 unfold zcT
 exact (zcq (m:=true) (EvO.ev ↑154) (zbL (s0:=[]) (λ(s66:Jq)=>([⇑[dQ K ↑10],↥[dL (List.map lI s66)],.no]:L2.Ctx)) ↑138 (λ(s66:Jq) (x67:Ji)=>(Let ([(m_lowered x67 s66)]++s66) (λ(v71:Jq)=>v71))) (λ(i:Nat) (s66:Jq)=>s66=Lat.stl (P0.drop (P0.length-i))) (zpI (m:=false) lI (xs:=P0) ↑2) (.eq ↑116) (by simp [Lat.stl]) (λi68 x67 s66 hx69 hI70=>have v69:=List.mem_of_getElem? hx69;⟨↥(Lat.zqA ↥0 ↥0 (zqO _ _)),(zao (m:=true) (x:=([(m_lowered x67 s66)]++s66)) ↑104 (λz=>Oc.nx ((λ(s66:Jq)=>([⇑[dQ K ↑10],↥[dL (List.map lI s66)],.no]:L2.Ctx)) z)) (EvO.ev (zcu (f:=lI) (xs:=[(m_lowered x67 s66)]) (ys:=s66) (EvO.ev (zb1 (zab (zau (x:=(x67,s66)) (zab ↑90 (zab (Ev.old ↑82) zag)) rfl (by show zdo x67 s66;exact Lat.zrm hp ↥0 ↥0) rfl) zag) ↑142)) ⇑3 ↥(zrR hp ↥0 ↥0))) (λv71 hv71=>(zar (.eq (.eq (.no .nil))))))⟩) (λr72 hr72 hI=>(zak (zaH ⇑3)))))
theorem ziw (ss:Jq):zcT ss=Lat.stl ss:=by
 unfold zcT
 simp only [zfh]
 exact Lat.zuU ss
theorem zqp {rows ss:Jq} {r:Ji} {i:Nat} (hr:rows[i]?=some r) (e:ss=Lat.clm Lat.MG (rows.take i)):Let (zcT (m_taken_in ss r)) (λ(y:Jq)=>y)=Lat.clm Lat.MG (rows.take (i+1)):=by
 unfold Let
 rw [ziw,zjb,Lat.ziV hr,e]
def za6 (P0:Jq):Jq :=
 (Let (List.foldl (λ(s73:Jq) (x74:Ji)=>(Let (zcT (m_taken_in s73 x74)) (λ(v78:Jq)=>v78))) [] P0) (λ(r79:Jq)=>r79))
def zfy (P0:Jq):Prop:=Lat.zu5 P0
def zg5 (K:W.Frag) (A:Adr):Sp:=Spv (ι:=Jq) (λx=>[dQ K (List.map lI x)]) (λx=>zfy x) (λx=>↥[dL (List.map lI (za6 x))])
theorem zgm:FnScope ["rows","steps","row"] ["rows"] (zad zfk):=⇑4
theorem zmc (F:Fun K "climbed" "climbed" zfk f fd) (T:Txt K mg A) (yco:Callee P w K mg base ⇑1 4 "settled" ["steps"] (zhl K A)) (ybY:Callee P w K mg base ⇑1 4 "taken_in" ["steps","row"] (zgw K A)):FnOk P w K mg base ⇑1 5 f fd ["rows"] (zg5 K A):=by
 refine F.okV zgm ↥4 ↑68
 have hu:=hr.units
 replace hp:zfy P0:=hp
 unfold zfy at hp
 obtain ⟨N0,B0,R0,p1,p2,p3⟩:=hp
 refine ⟨_,(zac (zaq (i:=1) zgm.nd rfl ⇑0 (zbj zeT)) (zac (zcy PassesOwn.never rfl (zaV (K:=K) rfl (pv 0)) (zan (i:=2) zgm.nd rfl ⇑0 ⇑0) (zac (zaq (i:=1) zgm.nd rfl ⇑0 (zaT yco ↥1 rfl zaL ↑[zaT ybY ↥1 rfl zaL ↑[pv 1,pv 2]])) zaf)) (zac (zaR (pv 1)) zaf))),.inl ?_⟩
 show L2.Run _ ([⇑[dQ K ↑10],.no,.no]:L2.Ctx) _ (↑138 (za6 P0))
 unfold za6
 exact (zcq (m:=true) (EvO.ev ↑154) (zbL (s0:=[]) (λ(s73:Jq)=>([⇑[dQ K ↑10],↥[dL (List.map lI s73)],.no]:L2.Ctx)) ↑138 (λ(s73:Jq) (x74:Ji)=>(Let (zcT (m_taken_in s73 x74)) (λ(v78:Jq)=>v78))) (λ(i:Nat) (s73:Jq)=>s73=Lat.clm Lat.MG (P0.take i)) (zbx (m:=false) lI (xs:=P0) ↑2) (.eq ↑116) (by rfl) (λi75 x74 s73 hx76 hI77=>have v76:=List.mem_of_getElem? hx76;⟨↥(zqp ↥0 ↥0),(zao (m:=true) (x:=(zcT (m_taken_in s73 x74))) ↑104 (λz=>Oc.nx ((λ(s73:Jq)=>([⇑[dQ K ↑10],↥[dL (List.map lI s73)],.no]:L2.Ctx)) z)) (zau (x:=(m_taken_in s73 x74)) (zab (Ev.weak (K:=K) (zau (x:=(s73,x74)) (zab (Ev.old ↑82) (zab ↑90 zag)) rfl (by show zeR s73 x74;exact (Lat.zmr p1 p2 p3 ↥0 ↥0).2.1) rfl)) zag) rfl (by show zeK (m_taken_in s73 x74);unfold zeK;rw [zjb];exact (Lat.zmr p1 p2 p3 ↥0 ↥0).2.2) rfl) (λv78 hv78=>(zar (.eq (.eq (.no .nil))))))⟩) (λr79 hr79 hI=>(zak (zaH ⇑3)))))
theorem ziL (rows:Jq):za6 rows=Lat.clm Lat.MG rows:=by
 unfold za6 Lat.clm
 simp only [ziw,zjb]
 rfl
theorem zpQ {s:Jq} {i:Nat} {y:Ji} (h:s.length≤i):(s++[y]).length≤i+1:=by simp;omega
theorem zoq {l:Ji} {n:Nat}:zcs l none (some (n:Int))=l.take n:=by
 unfold zcs
 rw [HT.sIx_nat,HT.sIx_none]
 show (l.drop 0).take (min n l.length-0)=_
 rw [List.drop_zero,Nat.sub_zero]
 by_cases h:n≤l.length
 ·rw [Nat.min_eq_left h]
 ·rw [Nat.min_eq_right ↑0,List.take_of_length_le ↑0,List.take_of_length_le ↑0]
def zlq (P0:Int) (P1:Jq):BookD:=⟨P0,(List.map (λ(x80:Ji)=>x80) P1)⟩
def zcm (P0:Int) (P1:Jq):Prop:=P1.length≤1000
def zfG (K:W.Frag) (A:Adr):Sp:=zpX (ι:=Int×Jq) A.Book (λx=>[dI x.1,dQ K (List.map lI x.2)]) (λx=>zcm x.1 x.2) true (λx=>[("many",dI ((zlq x.1 x.2).many)),("swaps",dL (List.map lI ((zlq x.1 x.2).swaps)))])
theorem zhz:FnScope ["self","many","swaps"] ["self","many","swaps"] (zad zbT):=⇑4
theorem zhE (F:Fun K "__init__" "Book.__init__" zbT f fd) (T:Txt K mg A) :FnOk P w K mg base ⇑1 1 f fd ["self","many","swaps"] (zfG K A):=by
 refine F.okI zhz ↥4 ⇑8
 obtain ⟨P0,P1⟩:=x
 have hu:=hr.units
 replace hp:zcm P0 P1:=hp
 unfold zcm at hp
 refine ⟨_,(zac (zhs (pv 0) (pv 1) rfl) (zac (zhs (pv 0) (zbG rfl (.of (osc:=(zad zbT)) (N:=["self","many","swaps"]) (own:=["swap"]) (fvn:=[]) (fv:=[]) rfl rfl ↑4) ↑147 (λ_ _ _ _ _=>⟨(zan (i:=0) (show (["swap"]:List Str).Nodup by decide+kernel) rfl ⇑0 ↥2),za5,↑134⟩)) rfl) zaf)),λp dx=>⟨([.ob true A.Book p dx [("many",dI P0),("swaps",dL (List.map lI (List.map (λ(x80:Ji)=>x80) P1)))],⇑[dI P0],⇑[dQ K ↥9]]:L2.Ctx),?_,rfl⟩⟩
 show L2.Run _ ([.ob true A.Book p dx [],⇑[dI P0],⇑[dQ K ↥9]]:L2.Ctx) _ _
 exact (zeW (i:=0) rfl ↥6 T.Book_cl T.Book_many [] rfl ↑4 ↑1 (zeW (i:=0) rfl (EvO.ev (EvO.conv (zbA (g:=(λ(x80:Ji)=>dL (List.map dI x80))) (zbx (m:=false) lI (xs:=P1) ↑29) ↥(zal ↑0) ↑5 (λi81 x80 hx82=>have v82:=List.mem_of_getElem? hx82;↑182)) ↑8)) T.Book_cl T.Book_swaps ["many"] rfl ↑4 ↑1 ↑131))
def zdE (P0:Int) (P1:Jq):BookD :=
 (Let (List.foldl (λ(s85:Unit) (x86:(Int×Ji))=>()) () (zhU P1)) (λ(r91:Unit)=>(zlq P0 P1)))
def zdl (P0:Int) (P1:Jq):Prop:=1≤P0∧P0≤8∧P1.length≤12∧∀ s∈P1,(s.length:Int)=P0
def zgc (K:W.Frag) (A:Adr):Sp:=Spv (ι:=Int×Jq) (λx=>[dI x.1,dQ K (List.map lI x.2)]) (λx=>zdl x.1 x.2) (λx=>↥[zaM A.Book (zdE x.1 x.2)])
theorem zha:FnScope ["many","swaps","place","swap"] ["many","swaps"] (zad zfi):=⇑4
theorem zl8 (F:Fun K "book_of" "book_of" zfi f fd) (T:Txt K mg A)  {yen:Addr} {yd2:FuncData} (ydG:Mk K A.Book yen) (yaF:FnOk P w K mg base ⇑1 1 yen yd2 ["self","many","swaps"] (zfG K A)) (yaG:zfP K yd2 ["self","many","swaps"] []):FnOk P w K mg base ⇑1 3 f fd ["many","swaps"] (zgc K A):=by
 refine F.okV zha ↥4 ⇑8
 obtain ⟨P0,P1⟩:=x
 have hu:=hr.units
 replace hp:zdl P0 P1:=hp
 unfold zdl at hp
 obtain ⟨ybc,ydH⟩:=T.g_MOST_SWAPS
 obtain ⟨ybd,ydI⟩:=T.g_MOST_WARES
 refine ⟨_,(zac (zcp (PW.pt (zky (zaJ zjK (pv 0) zai (zaP _)) (zih (zaJ zki (pv 0) (zbW (v:=.int 8) rfl ydI ⟨_,rfl⟩) (zaP _))))) (zac zes zaf) zaf) (zac (zcp (zaJ zki ↑188 (zbW (v:=.int 12) rfl ydH ⟨_,rfl⟩) (zaP _)) (zac zes zaf) zaf) (zac (zcy PassesOwn.never rfl (zjq rfl rfl T.enumerate ↑[pv 1]) (zbu (K:=K) (n:=2) rfl rfl (zaG (zan (i:=2) zha.nd rfl ⇑0 ⇑0) (zaG (zan (i:=3) zha.nd rfl ⇑0 ⇑0) zci))) (zac (zcp (zaJ zf4 (zam ↑51 rfl T.len PySem.boot_len ↑[pv 3]) (pv 0) (zaP _)) (zac zes zaf) zaf) zaf)) (zac (zaR (zhc ydG yaF ↥1 rfl T.Book yaG .nil zaL ↑[pv 0,pv 1])) zaf)))),.inl ?_⟩
 show L2.Run _ ([⇑[dI P0],⇑[dQ K ↥9],.no,.no]:L2.Ctx) _ ((λ(r:BookD)=>Oc.rt true (zaM A.Book r)) (zdE P0 P1))
 unfold zdE
 exact (zb5 (EvT.conv (zhX (b:=(decide (P0<(1:Int)))) (zay (zaX (x:=P0) (y:=(1:Int)) ↑9 zaD)) (λhb=>(zay (zaX (x:=P0) (y:=8) ↑9 zaD)))) (by simp only [Bool.or_eq_false_iff,decide_eq_false_iff_not];omega)) (zaw (zb5 (EvT.conv (zay (zaX (x:=((P1.length:Nat):Int)) (y:=12) (zaZ (f:=lI) (xs:=P1) ⇑3) zaD)) ↑258) (zaw (zbL (s0:=()) (λ(s85:Unit)=>([⇑[dI P0],⇑[dQ K ↥9],.no,.no]:L2.Ctx)) (λ(r:BookD)=>Oc.rt true (zaM A.Book r)) (λ(s85:Unit) (x86:(Int×Ji))=>()) (λ_ _=>True) (ziY (m:=false) lI (xs:=P1) ⇑3) ↑39 trivial (λi87 x86 s85 hx88 hI89=>have v88:=zfj hx88;⟨trivial,(zb5 (EvT.conv (zay (zeg (x:=((x86.2.length:Nat):Int)) (y:=P0) (zaZ (f:=dI) (xs:=x86.2) ↑72) ↑9)) (by have:=hp.2.2.2 _ (zoQ ↥0);simp only [Bool.not_eq_false',decide_eq_true_eq];exact this)) (zaw (zar (.eq (.eq ↑64)))))⟩) (λr91 hr91 hI=>(zak (zaH (zkw (i:=(P0,P1)) (zab ↑9 (zab ⇑3 zag)) rfl (by show zcm P0 P1;unfold zcm;omega))))))))))
theorem zpk {w:Int} {sw:Jq}:zdE w sw=⟨w,sw⟩:=by
 unfold zdE zlq Let
 simp
theorem zc4 (sw:Jq):List.map (λ(x:Ji)=>x) sw=sw:=by simp
theorem zsV {a b:Int} (h:a=b):(!decide (a=b))=false:=by rw [decide_eq_true h];rfl
def zeO (P0:BookD) (P1:Ji):Unit:=()
def zb6 (P0:BookD) (P1:Ji):Prop:=(P1.length:Int)=P0.many
def zdd (K:W.Frag) (A:Adr):Sp:=Spv (ι:=BookD×Ji) (λx=>[zaM A.Book x.1,dQ K ↑161]) (λx=>zb6 x.1 x.2) (λx=>↥[dN])
theorem zgq:FnScope ["book","basket"] ["book","basket"] (zad zbo):=⇑4
theorem zgo (F:Fun K "refuse_bad_basket" "refuse_bad_basket" zbo f fd) (T:Txt K mg A) :FnOk P w K mg base ⇑1 1 f fd ["book","basket"] (zdd K A):=by
 refine F.okV zgq ↥4 ⇑8
 obtain ⟨P0,P1⟩:=x
 have hu:=hr.units
 replace hp:zb6 P0 P1:=hp
 unfold zb6 at hp
 refine ⟨_,(zac (zcp (zaJ zf4 ↑188 ↑30 (zaP _)) (zac zes zaf) zaf) zaf),.inr ⟨_,([⇑[zaM A.Book P0],⇑[dQ K ⇑6]]:L2.Ctx),rfl,?_⟩⟩
 show L2.Run _ ([⇑[zaM A.Book P0],⇑[dQ K ⇑6]]:L2.Ctx) _ _
 exact (zb5 (EvT.conv (zay (zeg (x:=((P1.length:Nat):Int)) (y:=P0.many) (zaZ (f:=dI) (xs:=P1) ⇑3) ↑165)) ↑258) (zaw ↑131))
def zmv (P0:Ji):LineD:=⟨P0⟩
def zbK (P0:Ji):Prop:=True
def zdM (K:W.Frag) (A:Adr):Sp:=zpX (ι:=Ji) A.Line ↑175 (λx=>zbK x) true (λx=>[("weights",dL (List.map dI ((zmv x).weights)))])
theorem zfN:FnScope ["self","weights"] ["self","weights"] (zad zee):=⇑4
theorem zfL (F:Fun K "__init__" "Scale.__init__" zee f fd) (T:Txt K mg A) :FnOk P w K mg base ⇑1 1 f fd ["self","weights"] (zdM K A):=by
 refine F.okI zfN ↥4 ↑68
 have hu:=hr.units
 replace hp:zbK P0:=hp
 unfold zbK at hp
 refine ⟨_,(zac (zhs (pv 0) (zcA (zcc (K:=K) rfl) rfl T.list PyProof.Rows.boot_list ↑[pv 1]) rfl) zaf),λp dx=>⟨([.ob true A.Line p dx [("weights",dL ↥5)],⇑[dQ K ↥5]]:L2.Ctx),?_,rfl⟩⟩
 show L2.Run _ ([.ob true A.Line p dx [],⇑[dQ K ↥5]]:L2.Ctx) _ _
 exact (zeW (i:=0) rfl (EvO.ev (EvO.anyI (m:=false) (ze4 ⇑3))) T.Line_cl T.Line_weights [] rfl ↑4 ↑1 ↑131)
def zbD (P0:Ji):Ji:=P0
def zbJ (P0:Ji):Prop:=True
def zdK (K:W.Frag) (A:Adr):Sp:=zpX (ι:=Ji) A.Rest ↑175 (λx=>zbJ x) true (λx=>[("weights",dL (List.map dI (zbD x)))])
theorem zfK:FnScope ["self","weights"] ["self","weights"] (zad zek):=⇑4
theorem zfM (F:Fun K "__init__" "Scale.__init__" zek f fd) (T:Txt K mg A) :FnOk P w K mg base ⇑1 1 f fd ["self","weights"] (zdK K A):=by
 refine F.okI zfK ↥4 ↑68
 have hu:=hr.units
 replace hp:zbJ P0:=hp
 unfold zbJ at hp
 refine ⟨_,(zac (zhs (pv 0) (zcA (zcc (K:=K) rfl) rfl T.list PyProof.Rows.boot_list ↑[pv 1]) rfl) zaf),λp dx=>⟨([.ob true A.Rest p dx [("weights",dL ↥5)],⇑[dQ K ↥5]]:L2.Ctx),?_,rfl⟩⟩
 show L2.Run _ ([.ob true A.Rest p dx [],⇑[dQ K ↥5]]:L2.Ctx) _ _
 exact (zeW (i:=0) rfl (EvO.ev (EvO.anyI (m:=false) (ze4 ⇑3))) T.Rest_cl T.Rest_weights [] rfl ↑4 ↑1 ↑131)
theorem zt5 {r:Int} {ws:Ji} (h:2≤r∧ws.length≤1000):decide (r<(2:Int))=false:=decide_eq_false ↑0
def zj5 (P0:Int) (P1:Ji):RestD:=⟨(zbD (List.map (λ(x94:Int)=>(x94%P0)) P1)),P0⟩
def zc1 (P0:Int) (P1:Ji):Prop:=2≤P0∧P1.length≤1000
def zfI (K:W.Frag) (A:Adr):Sp:=zpX (ι:=Int×Ji) A.Rest (λx=>[dI x.1,dQ K ↑161]) (λx=>zc1 x.1 x.2) true (λx=>[("weights",dL (List.map dI ((zj5 x.1 x.2).weights))),("rest",dI ((zj5 x.1 x.2).rest))])
theorem zhx:FnScope ["self","rest","weights"] ["self","rest","weights"] (zad zbX):=⇑4
theorem zhD (F:Fun K "__init__" "Rest.__init__" zbX f fd) (T:Txt K mg A) {yaD:Addr} {yay:FuncData} (yak:ByCls K A.Scale yaD "__init__") (yal:FnOk P w K mg base ⇑1 1 yaD yay ["self","weights"] (zdK K A)) (ybW:zfP K yay ["self","weights"] []):FnOk P w K mg base ⇑1 2 f fd ["self","rest","weights"] (zfI K A):=by
 refine F.okI zhx ↥4 ⇑8
 obtain ⟨P0,P1⟩:=x
 have hu:=hr.units
 replace hp:zc1 P0 P1:=hp
 unfold zc1 at hp
 refine ⟨_,(zac (zcp (zaJ zjK (pv 1) zai (zaP _)) (zac zes zaf) zaf) (zac (zc9 (zom (zbW (v:=.ref A.Scale) rfl T.Scale rfl) yak yal ↥1 ybW zaL ↑[pv 0,(zbG rfl (.of (osc:=(zad zbX)) (N:=["self","rest","weights"]) (own:=["weight"]) (fvn:=["rest"]) (fv:=[1]) rfl rfl ↑4) ↑147 (λ_ _ _ _ _=>⟨(zan (i:=0) (show (["weight","rest"]:List Str).Nodup by decide +kernel) rfl ⇑0 ↥2),za5,(zaz zdB (pv 0) (pv 1))⟩))])) (zac (zhs (pv 0) (pv 1) rfl) zaf))),λp dx=>⟨([.ob true A.Rest p dx [("weights",dL (List.map dI (zbD (List.map (λ(x94:Int)=>(x94%P0)) P1)))),("rest",dI P0)],⇑[dI P0],⇑[dQ K ⇑6]]:L2.Ctx),?_,rfl⟩⟩
 show L2.Run _ ([.ob true A.Rest p dx [],⇑[dI P0],⇑[dQ K ⇑6]]:L2.Ctx) _ _
 exact (zb5 (EvT.conv (zay (zaX (x:=P0) (y:=(2:Int)) ↥6 zaD)) ↥(zt5 hp)) (zaw (zl1 (m2:=false) (i:=0) (x:=(List.map (λ(x94:Int)=>(x94%P0)) P1)) rfl (zab (Ev.weak (K:=K) (EvO.ev (EvO.conv (zbA (g:=(λ(x94:Int)=>dI (x94%P0))) (zbx (m:=false) dI (xs:=P1) ↑29) ↥(zal (by have z:=hp.2;omega)) ↑5 (λi95 x94 hx96=>have v96:=List.mem_of_getElem? hx96;(zaN (x:=x94) (y:=P0) ↑9 ↥6 (by show (0:Int)<_;have z:=hp.1;omega)))) ↑8))) zag) rfl (by show zbJ (List.map (λ(x94:Int)=>(x94%P0)) P1);exact trivial) (zeW (i:=0) rfl ↥6 T.Rest_cl T.Rest_rest ["weights"] rfl ↑4 ↑1 ↑131))))
def LvP (ss:Jq) (l:Int):Prop:=∃ n s:Nat,l=(n:Int)+1∧n≤900∧ss.length≤100∧(∀ t∈ss,Lat.Sd (n+1) s t)∧1+(ss.length+1)*(s+9000)≤50000000
theorem zvP {n:Nat} {l:Int} {ss:Jq} {w:Ji} (p1:l=(n:Int)+1) (e:w=zc7 (l-(1:Int)) [(0:Int)]++[(1:Int)]):Lat.lvI (n+1) ss 0 w:=by
 have:w=Lat.lv (n+1) []:=by rw [e,p1];rfl
 rw [this];exact Lat.zuh
theorem zof (s x:Ji):Let (zaj x) ↑238=Lat.lv1 s x:=by
 unfold Let
 dsimp only
 rw [zc8,Lat.zb2,zlR]
 rfl
theorem zvS {n i:Nat} {ss:Jq} {s x:Ji} (hx:ss.reverse[i]?=some x) (I:Lat.lvI n ss i s):Lat.lvI n ss (i+1) (Let (zaj x) ↑238):=by
 rw [zof];exact Lat.ztR hx I
theorem zui {n:Nat} {l:Int} (p1:l=(n:Int)+1) (p2:n≤900):[(0:Int)].length*(l-(1:Int)).toNat≤PySem.sizeLine:=zal ↑126
theorem zt1 {n:Nat} {l:Int} (p1:l=(n:Int)+1) (p2:n≤900):(zc7 (l-(1:Int)) [(0:Int)]).length+[(1:Int)].length≤PySem.sizeLine:=zal (by rw [p1,show (n:Int)+1-1=(n:Int) by omega,Lat.zdc,List.length_singleton];omega)
theorem zkj {n s i:Nat} {ss:Jq} {w x:Ji} (p2:n≤900) (p4:∀ t∈ss,Lat.Sd (n+1) s t) (I:Lat.lvI (n+1) ss i w):w.length=n+1∧Lat.Bit (1+ss.length*(s+9000)) w:=by
 unfold Lat.lvI at I
 obtain ⟨h1,h2⟩:=Lat.zns (ss:=ss.drop (ss.length-i)) (λt ht=>p4 t (List.mem_of_mem_drop ht)) p2
 rw [← I] at h1 h2
 refine ⟨h1,h2.mono ?_⟩
 have:=Nat.mul_le_mul_right (s+9000) (show (ss.drop (ss.length-i)).length≤ss.length by rw [List.length_drop];omega)
 omega
theorem zoo {ss:Jq} {x:Ji} {i:Nat} (hx:ss.reverse[i]?=some x):x∈ss:=List.mem_reverse.mp (List.mem_of_getElem? hx)
theorem zun {n s i:Nat} {ss:Jq} {w x:Ji} (p2:n≤900) (p3:ss.length≤100) (p4:∀ t∈ss,Lat.Sd (n+1) s t) (p5:1+(ss.length+1)*(s+9000)≤50000000) (hx:ss.reverse[i]?=some x) (I:Lat.lvI (n+1) ss i w):zeL w x:=by
 obtain ⟨h1,h2⟩:=zkj (x:=x) p2 p4 I
 have T:=p4 x (zoo hx)
 rw [Nat.succ_mul] at p5
 refine ⟨by rw [h1,T.len],by omega,λp hp=>?_⟩
 have hm:=List.of_mem_zip (a:=p.1) (b:=p.2) hp
 exact Lat.zdJ.of (h2 _ hm.1) (T.bit _ hm.2) ↑0 ↑0
theorem zuH {n s i:Nat} {ss:Jq} {w x:Ji} {h:Int} (p2:n≤900) (p3:ss.length≤100) (p4:∀ t∈ss,Lat.Sd (n+1) s t) (p5:1+(ss.length+1)*(s+9000)≤50000000) (hx:ss.reverse[i]?=some x) (I:Lat.lvI (n+1) ss i w) (hH:h=(Lat.hd x:Int)):zb9 w (ixD x h):=by
 obtain ⟨h1,h2⟩:=zkj (x:=x) p2 p4 I
 have T:=p4 x (zoo hx)
 rw [Nat.succ_mul] at p5
 subst hH
 rw [Lat.zb2]
 exact ⟨by omega,λy hy=>Lat.zdJ.of (h2 _ hy) T.top ↑0 ↑1⟩
theorem zuo {n s i:Nat} {ss:Jq} {w x:Ji} {h c:Int} (p2:n≤900) (p4:∀ t∈ss,Lat.Sd (n+1) s t) (hx:ss.reverse[i]?=some x) (I:Lat.lvI (n+1) ss i w) (hH:h=(Lat.hd x:Int)) {y:Ji} (e:y=zax w c):InB y.length h:=by
 obtain ⟨h1,h2⟩:=zkj (x:=x) p2 p4 I
 have T:=(p4 x (zoo hx)).hd
 rw [e,show (zax w c).length=w.length from Lat.zby,h1]
 unfold InB;omega
def zbc (P0:Jq) (P1:Int):Ji :=
 (Let ((zc7 (P1-(1:Int)) [(0:Int)])++[(1:Int)]) (λ(v97:Ji)=>(Let (List.foldl (λ(s98:Ji) (x99:Ji)=>(Let (zaj x99) (λ(hv103:Int)=>(Let (zck s98 x99) (λ(v104:Int)=>(Let (zax s98 (ixD x99 hv103)) (λ(v105:Ji)=>(Let (zdn v105 hv103 (-v104)) (λ(v106:Ji)=>v106))))))))) v97 (List.reverse P0)) (λ(r107:Ji)=>r107))))
def zeZ (P0:Jq) (P1:Int):Prop:=LvP P0 P1
def zgE (K:W.Frag) (A:Adr):Sp:=Spv (ι:=Jq×Int) (λx=>[dQ K (List.map lI x.1),dI x.2]) (λx=>zeZ x.1 x.2) (λx=>↥[dL (List.map dI (zbc x.1 x.2))])
theorem zd5:FnScope ["steps","length","numbers","step","head","weight"] ["steps","length"] (zad zeB):=⇑4
theorem zkS (F:Fun K "levelled" "levelled" zeB f fd) (T:Txt K mg A) (yac:Callee P w K mg base ⇑1 1 "head_of" ["row"] (zdu K A)) (yai:Callee P w K mg base ⇑1 1 "times" ["some","many"] (zfw K A)) (ycp:Callee P w K mg base ⇑1 2 "weighed" ↥7 (zhb K A)):FnOk P w K mg base ⇑1 3 f fd ["steps","length"] (zgE K A):=by
 refine F.okV zd5 ↥4 ⇑8
 obtain ⟨P0,P1⟩:=x
 have hu:=hr.units
 replace hp:zeZ P0 P1:=hp
 unfold zeZ at hp
 obtain ⟨N0,S0,p1,p2,p3,p4,p5⟩:=hp
 refine ⟨_,(zac (zaq (i:=2) zd5.nd rfl ⇑0 (zaz zdD (zaz zhr ↑88 (zaz zeQ (pv 1) zai)) ↑88)) (zac (zcy PassesOwn.never rfl (zpN rfl rfl T.reversed ↑[pv 0]) (zan (i:=3) zd5.nd rfl ⇑0 ⇑0) (zac (zaq (i:=4) zd5.nd rfl ⇑0 (zaT yac ↥1 rfl zaL ↑[pv 3])) (zac (zaq (i:=5) zd5.nd rfl ⇑0 (zaT ycp ↥1 rfl zaL ↑[pv 2,pv 3])) (zac (zaq (i:=2) zd5.nd rfl ⇑0 (zaT yai ↥1 rfl zaL ↑[pv 2,(zaS ↑7 (pv 3) (pv 4) ↥3)])) (zac (zgY (zox zlv (pv 5)) (zkb (pv 2) (pv 4) zgP)) zaf))))) (zac (zaR (pv 2)) zaf))),.inl ?_⟩
 show L2.Run _ ([⇑[dQ K ↑10],⇑[dI P1],.no,.no,.no,.no]:L2.Ctx) _ (↑67 (zbc P0 P1))
 unfold zbc
 exact (zfE (m:=true) (x:=((zc7 (P1-(1:Int)) [(0:Int)])++[(1:Int)])) (λz=>List.map dI z) ↑67 (zcu (f:=dI) (xs:=(zc7 (P1-(1:Int)) [(0:Int)])) (ys:=[(1:Int)]) (EvO.ev (zfU (f:=dI) (xs:=[(0:Int)]) (n:=(P1-(1:Int))) ↑77 (zaX (x:=P1) (y:=(1:Int)) ↥6 zaD) (by constructor<;>omega) ↥(zui p1 p2))) ↑77 ↥(zt1 p1 p2)) (λv97 hv97=>have h0_numbers97:=hv97;(zbL (s0:=v97) ↑215 ↑67 (λ(s98:Ji) (x99:Ji)=>(Let (zaj x99) (λ(hv103:Int)=>(Let (zck s98 x99) (λ(v104:Int)=>(Let (zax s98 (ixD x99 hv103)) (λ(v105:Ji)=>(Let (zdn v105 hv103 (-v104)) (λ(v106:Ji)=>v106))))))))) (λ(i:Nat) (s98:Ji)=>Lat.lvI (N0+1) P0 i s98) (zpI (m:=false) lI (xs:=P0) ↑2) (.eq (.eq ↑39)) ↥(zvP p1 ↥0) (λi100 x99 s98 hx101 hI102=>have v101:=List.mem_of_getElem? hx101;⟨↥(zvS ↥0 ↥0),(zao (m:=true) (x:=(zaj x99)) dI (λz=>Oc.nx (↑215 z)) (Ev.any (m:=true) (zau (x:=x99) (zab ↑72 zag) rfl (by show zbs x99;exact trivial) rfl)) (λhv103 hhead103=>have hH:=(hhead103).trans (zc8 _);(zbz (i:=2) rfl (zao (m:=true) (x:=(zck s98 x99)) dI (λz=>Oc.nx (↑215 z)) (Ev.any (m:=true) (zau (x:=(s98,x99)) (zab ↑66 (zab ↑72 zag)) rfl (by show zeL s98 x99;exact zun p2 p3 p4 p5 ↥0 ↥0) rfl)) (λv104 hv104=>(zfE (m:=true) (x:=(zax s98 (ixD x99 hv103))) (λz=>List.map dI z) (λz=>Oc.nx (↑215 z)) (EvO.anyI (m:=true) (zcH (x:=(s98,(ixD x99 hv103))) (zab ↑66 (zab (Ev.any (m:=false) (zbd (f:=dI) (xs:=x99) ↑72 ↑71 ↥(zlj (p4 _ (zoo ↥0)) hH))) zag)) rfl (by show zb9 s98 (ixD x99 hv103);exact zuH p2 p3 p4 p5 ↥0 ↥0 hH) rfl)) (λv105 hv105=>have h0_numbers105:=hv105;(zl2 (f:=dI) (xs:=v105) (x:=(-v104)) (j:=hv103) (λz=>Oc.nx (↑215 z)) rfl (zpf (x:=v104) ↑12) ↑71 ↥(zuo p2 p4 ↥0 ↥0 hH ↥0) (λv106 hv106=>(zar (.eq (.eq (.eq (.no ↑64))))))))))))))⟩) (λr107 hr107 hI=>(zbz (i:=2) rfl (zak (zaH ↑29)))))))
theorem zkr (ss:Jq) (n:Nat):zbc ss ((n:Int)+1)=Lat.lv (n+1) ss:=by
 show List.foldl (λ(s:Ji) (x:Ji)=>Let (zaj x) ↑238) (zc7 ((n:Int)+1-(1:Int)) [(0:Int)]++[(1:Int)]) (List.reverse ss)=_
 have e:(λ(s:Ji) (x:Ji)=>Let (zaj x) ↑238)=Lat.lv1:=funext λs=>funext λx=>zof s x
 rw [e]
 exact Lat.znm (n+1) ss
theorem zte {g s:Int} {p:Int×Int} (I:Lat.GdI g s p) (h:(!decide (p.2=(0:Int)))=true):0<p.2:=by
 have:=I.b
 simp only [Bool.not_eq_true',decide_eq_false_iff_not] at h
 omega
theorem zmT {g s:Int} {p:Int×Int} (I:Lat.GdI g s p) (h:(!decide (p.2=(0:Int)))=true):Lat.GdI g s (Let (p.1%p.2) (λ(l:Int)=>Let p.2 (λ(g:Int)=>(g,l))))∧(((Let (p.1%p.2) (λ(l:Int)=>Let p.2 (λ(g:Int)=>(g,l))))).2).toNat<(p.2).toNat:=by
 simp only [Bool.not_eq_true',decide_eq_false_iff_not] at h
 exact I.step h
theorem ztP {l:Ji} {i:Nat} {g s x:Int} (I:Lat.DvI l i g) (hA:s=↑152):Lat.GdI g s (g,s):=Lat.GdI.start I.1 ↑0
theorem zm3 {l:Ji} {i:Nat} {g x:Int} (hx:l[i]?=some x) (I:Lat.DvI l i g):Lat.DvI l (i+1) (Let ↑152 (λ(small:Int)=>Let (whl (λ(s:Int×Int)=>(!decide (s.2=(0:Int)))) (λ(s:Int×Int)=>Let (s.1%s.2) (λ(l:Int)=>Let s.2 (λ(g:Int)=>(g,l)))) ((small).toNat) (g,small)) (λ(r:Int×Int)=>r.1))):=by
 obtain ⟨h1,h2⟩:=zhM (c:=λ(s:Int×Int)=>(!decide (s.2=(0:Int)))) (f:=λ(s:Int×Int)=>Let (s.1%s.2) (λ(l:Int)=>Let s.2 (λ(g:Int)=>(g,l)))) (I:=Lat.GdI g ↑152) (μ:=λs=>s.2.toNat) (λs hs hc=>zmT hs hc) (n:=(↑152).toNat) (s:=(g,↑152)) (Lat.GdI.start I.1 ↑0) ↥8
 simp only [Bool.not_eq_false',decide_eq_true_eq] at h2
 exact I.step hx (h1.done h2)
def zbl (P0:Ji):Int :=
 (Let (List.foldl (λ(s108:Int) (x109:Int)=>(Let ((x109.natAbs:Nat):Int) (λ(v113:Int)=>(Let (whl (λ(s114:Int×Int)=>(!decide (s114.2=(0:Int)))) (λ(s114:Int×Int)=>(Let (s114.1%s114.2) (λ(v117:Int)=>(Let s114.2 (λ(v118:Int)=>(v118,v117)))))) ((v113).toNat) (s108,v113)) (λ(r119:Int×Int)=>r119.1))))) (0:Int) P0) (λ(r120:Int)=>r120))
def zfD (P0:Ji):Prop:=True
def zg1 (K:W.Frag) (A:Adr):Sp:=Spv (ι:=Ji) ↑175 (λx=>zfD x) (λx=>↥[dI (zbl x)])
theorem zdU:FnScope ["numbers","great","number","small","left"] ["numbers"] (zad zfe):=⇑4
theorem zmh (F:Fun K "divisor" "divisor" zfe f fd) (T:Txt K mg A) :FnOk P w K mg base ⇑1 1 f fd ["numbers"] (zg1 K A):=by
 refine F.okV zdU ↥4 ↑68
 have hu:=hr.units
 replace hp:zfD P0:=hp
 unfold zfD at hp
 refine ⟨_,(zac (zaq (i:=1) zdU.nd rfl ⇑0 zai) (zac (zcy PassesOwn.never rfl (zaV (K:=K) rfl (pv 0)) (zan (i:=2) zdU.nd rfl ⇑0 ⇑0) (zac (zaq (i:=3) zdU.nd rfl ⇑0 (zam zor rfl T.abs ↑4 ↑[pv 2])) (zac (zi4 PassesOwn.never (zaJ zf4 (pv 3) zai (zaP _)) (zac (zaq (i:=4) zdU.nd rfl ⇑0 (zaz zdB (pv 1) (pv 3))) (zac (zaq (i:=1) zdU.nd rfl ⇑0 (pv 3)) (zac (zaq (i:=3) zdU.nd rfl ⇑0 (pv 4)) zaf)))) zaf))) (zac (zaR (pv 1)) zaf))),.inl ?_⟩
 show L2.Run _ ([⇑[dQ K ↥5],.no,.no,.no,.no]:L2.Ctx) _ (↑26 (zbl P0))
 unfold zbl
 exact (zcq (m:=true) zaD (zbL (s0:=(0:Int)) (λ(s108:Int)=>([⇑[dQ K ↥5],↥[dI s108],.no,.no,.no]:L2.Ctx)) ↑26 (λ(s108:Int) (x109:Int)=>(Let ((x109.natAbs:Nat):Int) (λ(v113:Int)=>(Let (whl (λ(s114:Int×Int)=>(!decide (s114.2=(0:Int)))) (λ(s114:Int×Int)=>(Let (s114.1%s114.2) (λ(v117:Int)=>(Let s114.2 (λ(v118:Int)=>(v118,v117)))))) ((v113).toNat) (s108,v113)) (λ(r119:Int×Int)=>r119.1))))) (λ(i:Nat) (s108:Int)=>Lat.DvI P0 i s108) (zbx (m:=false) dI (xs:=P0) ↑2) (.eq ↑39) ↥(Lat.DvI.start) (λi110 x109 s108 hx111 hI112=>have v111:=List.mem_of_getElem? hx111;⟨↥(zm3 ↥0 ↥0),(zao (m:=true) (x:=((x109.natAbs:Nat):Int)) dI (λz=>Oc.nx ((λ(s108:Int)=>([⇑[dQ K ↥5],↥[dI s108],.no,.no,.no]:L2.Ctx)) z)) (zsa ↑43) (λv113 hv113=>have hA:=hv113;(zh9 (s0:=(s108,v113)) (λ(s114:Int×Int)=>([⇑[dQ K ↥5],↥[dI s114.1],⇑[dI x109],↥[dI s114.2],.no]:L2.Ctx)) (λz=>Oc.nx ((λ(s108:Int)=>([⇑[dQ K ↥5],↥[dI s108],.no,.no,.no]:L2.Ctx)) z)) (λ(s114:Int×Int)=>(!decide (s114.2=(0:Int)))) (λ(s114:Int×Int)=>(Let (s114.1%s114.2) (λ(v117:Int)=>(Let s114.2 (λ(v118:Int)=>(v118,v117)))))) (λ(s114:Int×Int)=>Lat.GdI (s108) (v113) s114) (λ(s114:Int×Int)=>(s114.2).toNat) ((v113).toNat) (.eq ↑39) ↥(ztP ↥0 hA) ↥(Nat.le_refl _) (λs114 hI115=>⟨(zay (zeg (x:=s114.2) (y:=(0:Int)) ↑53 zaD)),λhc116=>⟨↥(zmT ↥0 ↥0),(zao (m:=true) (x:=(s114.1%s114.2)) dI (λz=>Oc.nx ((λ(s114:Int×Int)=>([⇑[dQ K ↥5],↥[dI s114.1],⇑[dI x109],↥[dI s114.2],.no]:L2.Ctx)) z)) (zaN (x:=s114.1) (y:=s114.2) ↑108 ↑53 (by show (0:Int)<_;exact zte ↥0 ↥0)) (λv117 hv117=>(zao (m:=true) (x:=s114.2) dI (λz=>Oc.nx ((λ(s114:Int×Int)=>([⇑[dQ K ↥5],↥[dI s114.1],⇑[dI x109],↥[dI s114.2],.no]:L2.Ctx)) z)) ↑53 (λv118 hv118=>(zcq (m:=true) ↑71 (zar (.eq (.eq (.eq (.eq (.no .nil)))))))))))⟩⟩) (λr119 hr119 hI hc=>(zar (.eq (.eq (.no (.no (.eq .nil))))))))))⟩) (λr120 hr120 hI=>(zak (zaH ↑108)))))
theorem zhq (l:Ji):∀ k,k≤l.length->Lat.DvI l k (List.foldl (λ(s:Int) (x:Int)=>Let ↑152 (λ(small:Int)=>Let (whl (λ(s:Int×Int)=>(!decide (s.2=(0:Int)))) (λ(s:Int×Int)=>Let (s.1%s.2) (λ(l:Int)=>Let s.2 (λ(g:Int)=>(g,l)))) ((small).toNat) (s,small)) (λ(r:Int×Int)=>r.1))) (0:Int) (l.take k))
 | 0,_=>Lat.DvI.start
 | k+1,h=>by
  have hk:l[k]?=some l[k]:=List.getElem?_eq_getElem h
  rw [List.take_succ_eq_append_getElem h,List.foldl_append]
  exact zm3 hk (zhq l k ↑0)
theorem zhf (l:Ji):0≤zbl l∧(∀ x∈l,zbl l ∣ x)∧((∃ x∈l,x≠0)->0<zbl l):=by
 have:=zhq l l.length ↥8
 unfold Lat.DvI at this
 rw [List.take_length] at this
 exact this
def zqF (l:Ji):Prop:=l.length≤1000∧0<zbl l∧(zbl l).natAbs≤2^8990
theorem zqY {l:Ji} {g x:Int} (h:zqF l) (e:g=zbl l):zfv x g:=by
 subst e
 exact Lat.zfv.of h.2.1 h.2.2 ↑1
theorem ziD {g:Int}:∀ {l:Ji},(∀ x∈l,g ∣ x)->∀ u:Lat.Vc,Lat.dv (List.map (λ(x:Int)=>x/g) l) u*g=Lat.dv l u∧g ∣ Lat.dv l u
 | [],_,u=>⟨by show (0:Int)*g=0;omega,Int.dvd_zero _⟩
 | a :: l,h,u=>by
  obtain ⟨h1,h2⟩:=ziD (l:=l) (λx hx=>h x (List.mem_cons_of_mem _ hx)) λi=>u (i+1)
  have h3:=h a List.mem_cons_self
  refine ⟨?_,Int.dvd_add (Int.dvd_trans h3 (Int.dvd_mul_right _ _)) h2⟩
  show (a/g*u 0+Lat.dv (List.map (λ(x:Int)=>x/g) l) λi=>u (i+1))*g=a*u 0+Lat.dv l λi=>u (i+1)
  rw [Int.add_mul,h1,Int.mul_right_comm,Int.ediv_mul_cancel h3]
def zaU (P0:Ji):Ji :=
 (Let (zbl P0) (λ(v121:Int)=>(List.map (λ(x122:Int)=>(x122/v121)) P0)))
def zdH (P0:Ji):Prop:=zqF P0
def zf7 (K:W.Frag) (A:Adr):Sp:=Spv (ι:=Ji) ↑175 (λx=>zdH x) (λx=>↥[dL (List.map dI (zaU x))])
theorem zhv:FnScope ["numbers","shared"] ["numbers"] (zad zdm):=⇑4
theorem zj2 (F:Fun K "shortened" "shortened" zdm f fd) (T:Txt K mg A) (ycq:Callee P w K mg base ⇑1 1 "divisor" ["numbers"] (zg1 K A)):FnOk P w K mg base ⇑1 2 f fd ["numbers"] (zf7 K A):=by
 refine F.okV zhv ↥4 ↑68
 have hu:=hr.units
 replace hp:zdH P0:=hp
 unfold zdH at hp
 refine ⟨_,(zac (zaq (i:=1) zhv.nd rfl ↥2 (zaT ycq ↥1 rfl zaL ↑[pv 0])) (zac (zaR (zbG rfl (.of (osc:=(zad zdm)) (N:=["numbers","shared"]) (own:=["number"]) (fvn:=["shared"]) (fv:=[1]) rfl rfl ↑4) (zaV (K:=K) rfl (pv 0)) (λ_ _ _ _ _=>⟨(zan (i:=0) (show (["number","shared"]:List Str).Nodup by decide +kernel) rfl ⇑0 ↥2),za5,(zaz zcw (pv 0) (pv 1))⟩))) zaf)),.inl ?_⟩
 show L2.Run _ ([⇑[dQ K ↥5],.no]:L2.Ctx) _ (↑67 (zaU P0))
 unfold zaU
 exact (zao (m:=true) (x:=(zbl P0)) dI ↑67 (Ev.any (m:=true) (zau (x:=P0) (zab ↑2 zag) rfl (by show zfD P0;exact trivial) rfl)) (λv121 hv121=>have hS:=hv121;(zak (zaH (EvO.ev (EvO.conv (zbA (g:=(λ(x122:Int)=>dI (x122/v121))) (zbx (m:=false) dI (xs:=P0) ↑2) ↥(zal (by have z:=hp.1;omega)) ↑5 (λi123 x122 hx124=>have v124:=List.mem_of_getElem? hx124;(zaN (x:=x122) (y:=v121) ↑9 ↑108 ↥(zqY hp hS)))) ↑8))))))
theorem zgK (l:Ji):zaU l=List.map (λ(x:Int)=>x/zbl l) l:=rfl
def SnP (b:BookD) (x:Ji):Prop:=∃ n R bt:Nat,b.many=(n:Int)∧1≤n∧n≤8∧x.length=n∧(∀ r∈b.swaps,r.length=n∧Lat.Bit bt r)∧Lat.Bit bt x∧b.swaps.length+1≤R∧R≤13∧bt≤400∧Lat.eB bt R*(n+1)≤8990
theorem zrF {n R bt:Nat} (h1:1≤n) (h2:n≤8) (h3:R≤13) (h4:bt≤400) (h5:Lat.eB bt R*(n+1)≤8990):Lat.Fit (n+1) bt R∧Lat.sB bt R≤63028∧Lat.eB bt R≤4495:=by
 have e1:Lat.eB bt R*2≤Lat.eB bt R*(n+1):=Nat.mul_le_mul_left _ ↑0
 have e2:Lat.sB bt R≤4502*14:=Nat.mul_le_mul ↑0 ↑0
 refine ⟨⟨by omega,by omega,by omega,?_⟩,by omega,by omega⟩
 have e3:min (n+1) R≤9:=by omega
 generalize Lat.sB bt R=s at *
 generalize min (n+1) R=k at *
 have e4:(k+2)*((k+1)*(s+9000))≤11*(10*(63028+9000)):=Nat.mul_le_mul ↑0 (Nat.mul_le_mul ↑0 ↑0)
 have e5:(k+1)*(s+1)≤10*63029:=Nat.mul_le_mul ↑0 ↑0
 omega
def snR (b:BookD) (x:Ji):Jq:=Lat.clm Lat.MG ↑45
def snS (n:Nat) (b:BookD) (x:Ji):Jq:=List.filter (λ(t:Ji)=>decide (Lat.hd t<n)) (snR b x)
theorem SnP.all {b:BookD} {x:Ji} (h:SnP b x):∃ n s E:Nat,b.many=(n:Int)∧1≤n∧n≤8∧x.length=n∧b.swaps.length≤12∧Lat.Shw n b.swaps x (snR b x) ↑21∧(∀ t∈snR b x,Lat.Sd (n+1) s t)∧(∀ t∈snR b x,(Lat.vec t (Lat.hd t)).natAbs≤2^E)∧E*(n+1)≤8990∧s≤63028∧(snR b x).length≤n+1:=by
 obtain ⟨n,R,bt,h1,h2,h3,h4,h5,h6,h7,h8,h9,h10⟩:=h
 obtain ⟨F,f2,f3⟩:=zrF h2 h3 h8 h9 h10
 have hl:=Lat.znX (λr hr=>(h5 r hr).1) h4
 have hb:=Lat.zni (λr hr=>(h5 r hr).2) h6
 have hR:(↑45).length≤R:=by unfold Lat.zgL;rw [List.length_append,List.length_map];exact h7
 obtain ⟨S,s2,s3⟩:=Lat.znf F hR λr hr=>⟨hl r hr,hb r hr⟩
 exact ⟨n,Lat.sB bt R,Lat.eB bt R,h1,h2,h3,h4,by omega,⟨S,rfl,λr hr=>(h5 r hr).1,h4⟩,s3,λt ht=>(S.bits ↑0 hR hb t ht).1,h10,f2,by unfold snR;omega⟩
theorem zlN {b:BookD} {x:Ji} (h:SnP b x):b.swaps.length≤PySem.sizeLine∧(∀ s∈b.swaps,s.length+[(0:Int)].length≤PySem.sizeLine)∧x.length+[⇑7].length≤PySem.sizeLine∧(List.map (λ(r:Ji)=>r++[(0:Int)]) b.swaps).length+[x++[⇑7]].length≤PySem.sizeLine:=by
 obtain ⟨n,R,bt,h1,h2,h3,h4,h5,h6,h7,h8,h9,h10⟩:=h
 refine ⟨zal ↑0,λs hs=>zal (by rw [(h5 s hs).1,List.length_singleton];omega),zal ↑126,zal (by rw [List.length_map,List.length_singleton];omega)⟩
theorem zsK {b:BookD} {x:Ji} (h:SnP b x):Lat.zu5 ↑45:=by
 obtain ⟨n,R,bt,h1,h2,h3,h4,h5,h6,h7,h8,h9,h10⟩:=h
 exact ⟨n+1,bt,R,(zrF h2 h3 h8 h9 h10).1,by unfold Lat.zgL;rw [List.length_append,List.length_map];exact h7,λr hr=>⟨Lat.znX (λr hr=>(h5 r hr).1) h4 r hr,Lat.zni (λr hr=>(h5 r hr).2) h6 r hr⟩⟩
section
variable {b:BookD} {x w short:Ji} {rows ss:Jq} {num:Ji} {c:Int}
theorem zmm (hR:rows=za6 ↑45):rows=snR b x:=hR.trans (ziL _)
theorem zrh {n:Nat} (hn:b.many=(n:Int)) (hR:rows=snR b x) (hS:ss=List.map (λ(t:Ji)=>t) ↑89):ss=snS n b x:=by
 rw [hS,List.map_id',hR,hn]
 unfold snS
 congr 1
 funext t
 rw [zc8]
 simp
theorem ztG (h:SnP b x) (hR:rows=za6 ↑45):rows.length≤PySem.sizeLine:=by
 obtain ⟨n,s,E,h1,h2,h3,h4,h5,h6,h7,h8,h9,h10,h11⟩:=h.all
 rw [zmm hR];exact zal ↑0
theorem zua (h:SnP b x) (hR:rows=za6 ↑45) (hS:ss=List.map (λ(t:Ji)=>t) ↑89):LvP ss ↑118:=by
 obtain ⟨n,s,E,h1,h2,h3,h4,h5,h6,h7,h8,h9,h10,h11⟩:=h.all
 have hl:(↑21).length≤n+1:=Nat.le_trans (List.length_filter_le _ _) h11
 rw [zrh h1 (zmm hR) hS]
 have:=Nat.mul_le_mul (show (↑21).length+1≤10 by omega) (show s+9000≤72028 by omega)
 exact ⟨n,s,by omega,by omega,by omega,λt ht=>h7 t (h6.low t ht).1,by omega⟩
theorem zsF {n:Nat} (hn:b.many=(n:Int)) (hS:ss=snS n b x) (hN:num=zbc ss ↑118):num=Lat.lv (n+1) ↑21:=by rw [hN,hS,hn,zkr]
theorem ztv {n:Nat} (hn:b.many=(n:Int)) (hN:num=Lat.lv (n+1) ↑21) (hW:w=zcs num none (some b.many)):w=(↑92).take n:=by rw [hW,hN,hn,zoq]
theorem znY:∀ {l:Ji} {u:Lat.Vc},(∀ y∈l,y=0)->Lat.dv l u=0
 | [],_,_=>rfl
 | a :: l,u,h=>by
  show a*u 0+Lat.dv l _=0
  rw [h a List.mem_cons_self,znY λy hy=>h y ↑233];omega
theorem zko {n E:Nat} {R:Jq} (h8:∀ t∈R,(Lat.vec t (Lat.hd t)).natAbs≤2^E) (h9:E*(n+1)≤8990) (h11:R.length≤n+1):(Lat.prh R).natAbs≤2^8990 :=
 Nat.le_trans (Lat.zpH h8) (Nat.pow_le_pow_right ↑1 (Nat.le_trans (Nat.mul_le_mul_left _ h11) h9))
theorem zmA {g P:Int} (hP:0<P) (h:g ∣ P) (hb:P.natAbs≤2^8990):g.natAbs≤2^8990:=Nat.le_trans (Nat.le_of_dvd (Int.natAbs_pos.mpr ↑0) (Int.natAbs_dvd_natAbs.mpr h)) hb
theorem ztj {n:Nat} (S:Lat.Shw n b.swaps x (snR b x) ↑21) (q:(↑21).length=(snR b x).length):snR b x=snS n b x:=by
 rcases Lat.zkH S.st.ech with z | ⟨t,h1,h2⟩
 ·exact z
 ·have:(snR b x).length=(↑21).length+1:=by
   conv=>lhs;rw [h2]
   rw [List.length_append];rfl
  omega
theorem zqr {n:Nat} (S:Lat.Shw n b.swaps x (snR b x) ↑21) (q:¬ (↑21).length=(snR b x).length):∃ t,Lat.hd t=n∧snR b x=snS n b x++[t]:=by
 rcases Lat.zkH S.st.ech with z | z
 ·exact absurd (congrArg List.length z).symm q
 ·exact z
theorem zkQ {α:Type} [Inhabited α] {xs:List α} {t:α}:ixD (xs++[t]) ⇑7=t:=by
 unfold ixD atI ixN
 rw [if_neg ↑1,if_pos (by rw [List.length_append,List.length_singleton];omega)]
 have:(⇑7+(((xs++[t]).length:Nat):Int)).toNat=xs.length:=by rw [List.length_append,List.length_singleton];omega
 first
  | (show ((xs++[t])[_]?).getD _=t;rw [this];simp)
  | (simp [this])
theorem znR {n E:Nat} (S:Lat.Shw n b.swaps x (snR b x) ↑21) (h8:∀ t∈snR b x,(Lat.vec t (Lat.hd t)).natAbs≤2^E) (h9:E*(n+1)≤8990) (h11:(snR b x).length≤n+1) (h3:n≤8) (q:(↑21).length=(snR b x).length):zqF ((↑92).take n):=by
 have e:=ztj S q
 obtain ⟨l1,l2,l3⟩:=S.line e
 obtain ⟨v1,v2,v3,v4⟩:=S.lv
 obtain ⟨d1,d2,d3⟩:=zhf ((↑92).take n)
 have hx:=(ziD d2 (Lat.vec x)).2
 rw [l2] at hx
 refine ⟨by rw [List.length_take];omega,d3 (Classical.byContradiction λz=>?_),zmA v4 hx (by rw [← e];exact zko h8 h9 h11)⟩
 have:=znY (u:=Lat.vec x) λy hy=>Classical.byContradiction λw=>z ⟨y,hy,w⟩
 omega
theorem zq0 (h:SnP b x) (hR:rows=za6 ↑45) (hS:ss=List.map (λ(t:Ji)=>t) ↑89) (hN:num=zbc ss ↑118) (hW:w=zcs num none (some b.many)) (q:decide ↑167=true):zqF w:=by
 obtain ⟨n,s,E,h1,h2,h3,h4,h5,h6,h7,h8,h9,h10,h11⟩:=h.all
 have eS:=zrh h1 (zmm hR) hS
 rw [eS,zmm hR] at q
 rw [ztv h1 (zsF h1 eS hN) hW]
 exact znR h6 h8 h9 h11 h3 (by have:=of_decide_eq_true q;omega)
theorem zsL (h:SnP b x) (hR:rows=za6 ↑45) (hS:ss=List.map (λ(t:Ji)=>t) ↑89) (q:decide ↑167=false):InB rows.length ⇑7∧InB ((ixD rows ⇑7)).length b.many:=by
 obtain ⟨n,s,E,h1,h2,h3,h4,h5,h6,h7,h8,h9,h10,h11⟩:=h.all
 have eS:=zrh h1 (zmm hR) hS
 rw [eS,zmm hR] at q
 obtain ⟨t,t1,t2⟩:=zqr h6 (by have:=of_decide_eq_false q;omega)
 have ht:t∈snR b x:=by rw [t2];exact List.mem_append_right _ ↑143
 rw [zmm hR,t2,zkQ,(h7 t ht).len,h1,List.length_append]
 unfold InB
 simp only [List.length_singleton]
 omega
theorem zuw (h:SnP b x) (hR:rows=za6 ↑45) (hS:ss=List.map (λ(t:Ji)=>t) ↑89) (hN:num=zbc ss ↑118):InB num.length b.many:=by
 obtain ⟨n,s,E,h1,h2,h3,h4,h5,h6,h7,h8,h9,h10,h11⟩:=h.all
 rw [zsF h1 (zrh h1 (zmm hR) hS) hN,h6.lv.1,h1]
 unfold InB;omega
theorem zpU (h:SnP b x) (hR:rows=za6 ↑45) (hS:ss=List.map (λ(t:Ji)=>t) ↑89) (hN:num=zbc ss ↑118) (q:decide ↑167=false) (hM:c=ixD (ixD rows ⇑7) b.many):∃ (n:Nat) (t:Ji),b.many=(n:Int)∧n≤8∧Lat.hd t=n∧snR b x=snS n b x++[t]∧Lat.Shw n b.swaps x (snR b x) ↑21∧c=Lat.vec t n∧ixD num b.many=Lat.prh ↑21∧0<Lat.prh ↑21∧num=Lat.lv (n+1) ↑21∧(Lat.prh ↑21*c).natAbs≤2^8990∧c.natAbs≤2^8980∧0<c:=by
 obtain ⟨n,s,E,h1,h2,h3,h4,h5,h6,h7,h8,h9,h10,h11⟩:=h.all
 have eS:=zrh h1 (zmm hR) hS
 have eN:=zsF h1 eS hN
 rw [eS,zmm hR] at q
 obtain ⟨t,t1,t2⟩:=zqr h6 (by have:=of_decide_eq_false q;omega)
 have ht:t∈snR b x:=by rw [t2];exact List.mem_append_right _ ↑143
 rw [zmm hR,t2,zkQ,h1,Lat.zb2] at hM
 have hb:=zko h8 h9 h11
 rw [t2,Lat.zkJ,t1,← hM] at hb
 obtain ⟨v1,v2,v3,v4⟩:=h6.lv
 have T:=h7 t ht
 have T1:=T.top
 have T2:=T.pos
 rw [t1,← hM] at T1 T2
 exact ⟨n,t,h1,h3,t1,t2,h6,hM,by rw [eN,h1,Lat.zb2,v3],v4,eN,hb,T1,T2⟩
theorem zsU (h:SnP b x) (hR:rows=za6 ↑45) (hS:ss=List.map (λ(t:Ji)=>t) ↑89) (hN:num=zbc ss ↑118) (q:decide ↑167=false) (hM:c=ixD (ixD rows ⇑7) b.many):zdJ (ixD num b.many) c:=by
 obtain ⟨n,t,t1,t2,t3,t4,t5,t6,t7,t8,t9,t10,t11,t12⟩:=zpU h hR hS hN q hM
 rw [t7]
 refine Lat.zdJ.of (a:=8990) (Nat.le_trans ?_ t10) t11 ↑1 ↑1
 rw [Int.natAbs_mul]
 exact Nat.le_mul_of_pos_right _ (Int.natAbs_pos.mpr ↑0)
theorem ztE {y:Int} (h:SnP b x) (hR:rows=za6 ↑45) (hS:ss=List.map (λ(t:Ji)=>t) ↑89) (hN:num=zbc ss ↑118) (hW:w=zcs num none (some b.many)):[y].length+w.length≤PySem.sizeLine:=by
 obtain ⟨n,s,E,h1,h2,h3,h4,h5,h6,h7,h8,h9,h10,h11⟩:=h.all
 rw [ztv h1 (zsF h1 (zrh h1 (zmm hR) hS) hN) hW]
 exact zal (by rw [List.length_take,List.length_singleton];omega)
structure RsO (n:Nat) (sw:Jq) (x:Ji) (c:Int) (l:Ji) (r:Int) (v:Ji):Prop where
 sho:zqF l
 er:ixD (zaU l) (0:Int)=r
 ev:zcs (zaU l) ↑98 none=v
 len:v.length=n
 two:c≠1->2≤r
 d:c ∣ r
 lev:∀ s∈sw,r ∣ Lat.dv v (Lat.vec s)
 xx:r ∣ Lat.dv v (Lat.vec x)-r/c
 q:0<r/c∧(c≠1->r/c<r)
 top:r.natAbs≤2^8990
theorem zsJ {n:Nat} {sw R ss:Jq} {x t:Ji} (S:Lat.Shw n sw x R ss) (ht:Lat.hd t=n) (e:R=ss++[t]) (hb:(Lat.prh ss*Lat.vec t n).natAbs≤2^8990) (hn:n≤8):∃ r v,RsO n sw x (Lat.vec t n) ([Lat.prh ss*Lat.vec t n]++((Lat.lv (n+1) ss)).take n) r v:=by
 obtain ⟨r1,r2,r3,r4,r5⟩:=S.rest ht e
 obtain ⟨v1,v2,v3,v4⟩:=S.lv
 generalize hc:Lat.vec t n=c at *
 generalize hP:Lat.prh ss=P at *
 have hw:(↑60).length=n:=by rw [List.length_take];omega
 generalize ((Lat.lv (n+1) ss)).take n=W at *
 obtain ⟨d1,d2,d3⟩:=zhf ([P*c]++W)
 have hM:0<P*c:=Int.mul_pos v4 r1
 have g0:=d3 ⟨P*c,List.mem_append_left _ ↑143,by omega⟩
 have gM:=d2 (P*c) (List.mem_append_left _ ↑143)
 have hs:zaU ([P*c]++W)=(P*c/zbl ([P*c]++W)) :: List.map (λ(y:Int)=>y/zbl ([P*c]++W)) W:=rfl
 have hsho:zqF ([P*c]++W):=⟨by rw [List.length_append,hw,List.length_singleton];omega,g0,zmA hM gM hb⟩
 have gW:∀ y∈W,zbl ([P*c]++W) ∣ y:=λy hy=>d2 y (List.mem_append_right _ hy)
 generalize zbl ([P*c]++W)=g at *
 have gP:g ∣ P:=by
  have a1:=(ziD gW (Lat.vec x)).2
  have a2:=Int.dvd_trans gM r3
  have:=Int.dvd_sub a1 a2
  rwa [show Lat.dv W (Lat.vec x)-(Lat.dv W (Lat.vec x)-P)=P by omega] at this
 obtain ⟨P',hP'⟩:=gP
 have p0:0<P':=by
  refine Classical.byContradiction λz=>?_
  have:=Int.mul_nonpos_of_nonneg_of_nonpos (show 0≤g by omega) (show P'≤0 by omega)
  omega
 have er:P*c/g=P'*c:=by rw [hP',Int.mul_assoc];exact Int.mul_ediv_cancel_left _ ↑0
 have ec:P'*c/c=P':=Int.mul_ediv_cancel _ ↑0
 have key:∀ (u:Lat.Vc) (a:Int),P*c ∣ Lat.dv W u-g*a->P'*c ∣ Lat.dv (List.map (λ(y:Int)=>y/g) W) u-a:=λu a ⟨k,hk⟩=>by
  refine ⟨k,?_⟩
  have h1:=(ziD gW u).1
  refine Int.eq_of_mul_eq_mul_left (show g≠0 by omega) ?_
  rw [Int.mul_sub,Int.mul_comm g,h1,hk,hP']
  simp only [Int.mul_assoc]
 refine ⟨P'*c,List.map (λ(y:Int)=>y/g) W,hsho,by rw [hs,er];exact zbU (n:=0) rfl,?_,by rw [List.length_map,hw],λh1=>?_,Int.dvd_mul_left _ _,λs hs'=>?_,?_,?_,zmA hM ⟨g,by rw [hP',Int.mul_comm g,Int.mul_right_comm]⟩ hb⟩
 ·rw [hs,show ↑98=some ((1:Nat):Int) from rfl,Lat.zgT];rfl
 ·have:=Int.mul_le_mul_of_nonneg_right (show (1:Int)≤P' by omega) (show 0≤c by omega)
  omega
 ·have:=key (Lat.vec s) 0 (by rw [Int.mul_zero,Int.sub_zero];exact r2 s hs')
  rwa [Int.sub_zero] at this
 ·rw [ec]
  exact key (Lat.vec x) P' (by rw [← hP'];exact r3)
 ·rw [ec]
  refine ⟨p0,λh1=>?_⟩
  have:=Int.mul_le_mul_of_nonneg_left (show (2:Int)≤c by omega) (show 0≤P' by omega)
  omega
theorem zpu (h:SnP b x) (hR:rows=za6 ↑45) (hS:ss=List.map (λ(t:Ji)=>t) ↑89) (hN:num=zbc ss ↑118) (hW:w=zcs num none (some b.many)) (q:decide ↑167=false) (hM:c=ixD (ixD rows ⇑7) b.many):∃ n r v,n≤8∧RsO n b.swaps x c ([ixD num b.many*c]++w) r v:=by
 obtain ⟨n,t,t1,t2,t3,t4,t5,t6,t7,t8,t9,t10,t11,t12⟩:=zpU h hR hS hN q hM
 rw [t7,ztv t1 t9 hW,t6]
 rw [t6] at t10
 obtain ⟨r,v,z⟩:=zsJ t5 t3 t4 t10 t2
 exact ⟨n,r,v,t2,z⟩
theorem zqM (h:SnP b x) (hR:rows=za6 ↑45) (hS:ss=List.map (λ(t:Ji)=>t) ↑89) (hN:num=zbc ss ↑118) (hW:w=zcs num none (some b.many)) (q:decide ↑167=false) (hM:c=ixD (ixD rows ⇑7) b.many):zqF ([ixD num b.many*c]++w):=by
 obtain ⟨n,r,v,_,z⟩:=zpu h hR hS hN hW q hM
 exact z.sho
theorem zus {y:Int} (e:short=zaU ([y]++w)):InB short.length (0:Int):=by
 rw [e,zgK,List.length_map,List.length_append,List.length_singleton]
 unfold InB;omega
theorem zrr (h:SnP b x) (hR:rows=za6 ↑45) (hS:ss=List.map (λ(t:Ji)=>t) ↑89) (hN:num=zbc ss ↑118) (hW:w=zcs num none (some b.many)) (q:decide ↑167=false) (hM:c=ixD (ixD rows ⇑7) b.many) (q1:decide (c=(1:Int))=false) (hQ:short=zaU ([ixD num b.many*c]++w)):2≤ixD short (0:Int)∧(zcs short ↑98 none).length≤1000:=by
 obtain ⟨n,r,v,hn,z⟩:=zpu h hR hS hN hW q hM
 rw [hQ,z.er,z.ev,z.len]
 exact ⟨z.two (of_decide_eq_false q1),by omega⟩
end
def m_shown (P0:BookD) (P1:Ji):(Int×(Option (LineD⊕RestD))) :=
 (Let (za6 (↑225++[(P1++[⇑7])])) (λ(v128:Jq)=>(Let (List.map (λ(x129:Ji)=>x129) (List.filter (λ(x129:Ji)=>(decide ((zaj x129)<P0.many))) v128)) (λ(v132:Jq)=>(Let (zbc v132 (P0.many+(1:Int))) (λ(v133:Ji)=>(Let (zcs v133 none (some P0.many)) (λ(v134:Ji)=>(bif (decide (((v132.length:Nat):Int)=((v128.length:Nat):Int))) then ((0:Int),(some (Sum.inl (zmv (zaU v134))))) else (Let (ixD (ixD v128 ⇑7) P0.many) (λ(v136:Int)=>(bif (decide (v136=(1:Int))) then ((1:Int),none) else (Let (zaU ([((ixD v133 P0.many)*v136)]++v134)) (λ(v138:Ji)=>(v136,(some (Sum.inr (zj5 (ixD v138 (0:Int)) (zcs v138 ↑98 none)))))))))))))))))))
def zgU (P0:BookD) (P1:Ji):Prop:=SnP P0 P1
def zjt (K:W.Frag) (A:Adr):Sp:=Spv (ι:=BookD×Ji) (λx=>[zaM A.Book x.1,dL ↑161]) (λx=>zgU x.1 x.2) (λx=>↥[dT [dI ((m_shown x.1 x.2).1),dOpt (dSc A) ((m_shown x.1 x.2).2)]])
theorem zfp:FnScope ["book","basket","rows","steps","numbers","weights","many","short"] ["book","basket"] (zad zfO):=⇑4
theorem zoA (F:Fun K "shown" "shown" zfO f fd) (T:Txt K mg A) (ycr:Callee P w K mg base ⇑1 5 "climbed" ["rows"] (zg5 K A)) (yac:Callee P w K mg base ⇑1 1 "head_of" ["row"] (zdu K A)) (ybZ:Callee P w K mg base ⇑1 3 "levelled" ["steps","length"] (zgE K A)) (yaW:Callee P w K mg base ⇑1 2 "shortened" ["numbers"] (zf7 K A)) {yeo:Addr} {yd3:FuncData} (ydJ:Mk K A.Rest yeo) (yaH:FnOk P w K mg base ⇑1 2 yeo yd3 ["self","rest","weights"] (zfI K A)) (yaI:zfP K yd3 ["self","rest","weights"] [])  {yep:Addr} {yd4:FuncData} (ydK:Mk K A.Line yep) (yam:FnOk P w K mg base ⇑1 1 yep yd4 ["self","weights"] (zdM K A)) (ybX:zfP K yd4 ["self","weights"] []):FnOk P w K mg base ⇑1 6 f fd ["book","basket"] (zjt K A):=by
 refine F.okV zfp ↥4 ⇑8
 obtain ⟨P0,P1⟩:=x
 have hu:=hr.units
 replace hp:zgU P0 P1:=hp
 unfold zgU at hp
 refine ⟨_,(zac (zaq (i:=2) zfp.nd rfl ⇑0 (zaT ycr ↥1 rfl zaL ↑[(zaz zdD (zbG rfl (.of (osc:=(zad zfO)) (N:=["book","basket","rows","steps","numbers","weights","many","short"]) (own:=["swap"]) (fvn:=[]) (fv:=[]) rfl rfl ↑4) (zaV (K:=K) rfl ↑30) (λ_ _ _ _ _=>⟨(zan (i:=0) (show (["swap"]:List Str).Nodup by decide+kernel) rfl ⇑0 ↥2),za5,(zaz zdD (pv 0) ↑88)⟩)) (zbj ↑[zaz zdD (pv 1) (zbj ↑[zox zlv zai])]))])) (zac (zeI (i:=3) rfl zfp.nd rfl rfl (.of (osc:=(zad zfO)) (N:=["book","basket","rows","steps","numbers","weights","many","short"]) (own:=["row"]) (fvn:=["book"]) (fv:=[0]) rfl rfl ↑4) ↑147 (λ_ _ _ _ _=>⟨(zan (i:=0) (show (["row","book"]:List Str).Nodup by decide +kernel) rfl ⇑0 ↥2),(zqI (zaJ zjK (zaT yac ↥1 rfl zaL ↑[pv 0]) ↑144 (zaP _))),(pv 0)⟩)) (zac (zaq (i:=4) zfp.nd rfl ⇑0 (zaT ybZ ↥1 rfl zaL ↑[pv 3,(zaz zcG ↑30 zai)])) (zac (zaq (i:=5) zfp.nd rfl ⇑0 (zd9 ↑121 (pv 4) zgz (zdX ↑30))) (zac (zcp (zaJ zgr (zam ↑51 rfl T.len PySem.boot_len ↑[pv 3]) ↑189 (zaP _)) (zac (zaR (zfJ ↑[zai,zhc ydK yam ↥1 rfl T.Line ybX .nil zaL ↑[zaT yaW ↥1 rfl zaL ↑[pv 5]]])) zaf) zaf) (zac (zaq (i:=6) zfp.nd rfl ⇑0 (zaS ↑7 (zaS ↑7 (pv 2) (zox zlv zai) ↥3) ↑30 ↥3)) (zac (zcp (zaJ zgr (pv 6) zai (zaP _)) (zac (zaR (zfJ ↑[zai,zjP])) zaf) zaf) (zac (zaq (i:=7) zfp.nd rfl ⇑0 (zaT yaW ↥1 rfl zaL ↑[(zaz zdD (zbj ↑[(zaz zbI (zaS ↑7 (pv 4) ↑30 ↥3) (pv 6))]) (pv 5))])) (zac (zaR (zfJ ↑[pv 6,(zhc ydJ yaH ↥1 rfl T.Rest yaI .nil zaL ↑[(zaS ↑7 (pv 7) zai ↥3),(zd9 ↑121 (pv 7) (zdX zai) zgz)])])) zaf))))))))),.inl ?_⟩
 show L2.Run _ ([⇑[zaM A.Book P0],⇑[dL ⇑6],.no,.no,.no,.no,.no,.no]:L2.Ctx) _ (↑124 (m_shown P0 P1))
 unfold m_shown
 exact (zao (m:=true) (x:=(za6 (↑225++[(P1++[⇑7])]))) ↑104 ↑124 (zau (x:=(↑225++[(P1++[⇑7])])) (zab (Ev.weak (K:=K) (EvO.ev (zcu (f:=lI) (xs:=↑225) (ys:=[(P1++[⇑7])]) (EvO.ev (EvO.conv (zbA (g:=(λ(x125:Ji)=>dL (List.map dI (x125++[(0:Int)])))) (zbx (m:=false) lI (xs:=P0.swaps) (Ev.weak (K:=K) (zbh ↑2 T.Book_cl T.Book_swaps rfl))) ↥((zlN hp).1) ↑5 (λi126 x125 hx127=>have v127:=List.mem_of_getElem? hx127;(EvO.ev (EvO.anyI (m:=false) (zcu (f:=dI) (xs:=x125) (ys:=[(0:Int)]) ↑2 ↑77 ↥((zlN hp).2.1 _ ↥0)))))) ↑8)) (EvO.ev (zb1 (zab (EvO.ev (EvO.anyI (m:=false) (zcu (f:=dI) (xs:=P1) (ys:=[⇑7]) ⇑3 (EvO.ev (zb1 (zab (zpf (x:=(1:Int)) zaD) zag) ↑142)) ↥((zlN hp).2.2.1)))) zag) ↑142)) ↥((zlN hp).2.2.2)))) zag) rfl (by show zfy (↑225++[(P1++[⇑7])]);exact zsK hp) rfl) (λv128 hv128=>have hR:=hv128;(zao (m:=true) (x:=(List.map (λ(x129:Ji)=>x129) (List.filter (λ(x129:Ji)=>(decide ((zaj x129)<P0.many))) v128))) ↑104 ↑124 (EvO.ev (EvO.conv (znC (c:=λ(x129:Ji)=>(decide ((zaj x129)<P0.many))) (g:=(λ(x129:Ji)=>dL (List.map dI x129))) (zbx (m:=true) lI (xs:=v128) ↑90) ↥(ztG hp hR) ↑5 (λi130 x129 hx131=>have v131:=List.mem_of_getElem? hx131;(zay (zaX (x:=(zaj x129)) (y:=P0.many) (Ev.any (m:=true) (zau (x:=x129) (zab (Ev.old ↑94) zag) rfl (by show zbs x129;exact trivial) rfl)) (Ev.any (m:=false) (zbh ⇑3 T.Book_cl T.Book_many rfl))))) (λi130 x129 hx131 hc=>have v131:=List.mem_of_getElem? hx131;↑2)) ↑8)) (λv132 hv132=>have hS:=hv132;(zao (m:=true) (x:=(zbc v132 (P0.many+(1:Int)))) lI ↑124 (zau (x:=(v132,(P0.many+(1:Int)))) (zab (Ev.old ↑72) (zab (zaX (x:=P0.many) (y:=(1:Int)) ↑165 zaD) zag)) rfl (by show zeZ v132 (P0.many+(1:Int));exact zua hp hR hS) rfl) (λv133 hv133=>have hN:=hv133;(zao (m:=true) (x:=(zcs v133 none (some P0.many))) lI ↑124 (EvO.ev (EvO.anyI (m:=true) (ze6 (f:=dI) (xs:=v133) (Ev.weak (K:=K) ↑33) zfB (zcX ↑165)))) (λv134 hv134=>have hW:=hv134;(za8 (b:=(decide (((v132.length:Nat):Int)=((v128.length:Nat):Int)))) ↑124 (zay (zeN (x:=((v132.length:Nat):Int)) (y:=((v128.length:Nat):Int)) (zaZ (f:=lI) (xs:=v132) (Ev.old ↑72)) (zaZ (f:=lI) (xs:=v128) ↑66))) (λh135=>(zaC (zak (zaH (zfH (zab zaD (zab (zkw (i:=(zaU v134)) (zab (Ev.old (Ev.weak (K:=K) (zau (x:=v134) (zab (Ev.old ↑127) zag) rfl (by show zdH v134;exact zq0 hp hR hS hN hW ↥0) rfl))) zag) rfl (by show zbK (zaU v134);exact trivial)) zag)) ↑105))))) (λh135=>(zaw (zao (m:=true) (x:=(ixD (ixD v128 ⇑7) P0.many)) dI ↑124 (Ev.any (m:=true) (zbd (f:=dI) (xs:=(ixD v128 ⇑7)) (Ev.weak (K:=K) (zbd (f:=lI) (xs:=v128) ↑90 (zpf (x:=(1:Int)) zaD) ↥((zsL hp hR hS ↥0).1))) ↑165 ↥((zsL hp hR hS ↥0).2))) (λv136 hv136=>have hM:=hv136;(za8 (b:=(decide (v136=(1:Int)))) ↑124 (zay (zeN (x:=v136) (y:=(1:Int)) ↑78 zaD)) (λh137=>(zaC (zak (zaH (zfH (zab zaD ↑28) ↑105))))) (λh137=>(zaw (zao (m:=true) (x:=(zaU ([((ixD v133 P0.many)*v136)]++v134))) lI ↑124 (zau (x:=([((ixD v133 P0.many)*v136)]++v134)) (zab (Ev.weak (K:=K) (EvO.ev (EvO.anyI (m:=true) (zcu (f:=dI) (xs:=[((ixD v133 P0.many)*v136)]) (ys:=v134) (EvO.ev (zb1 (zab (zaN (x:=(ixD v133 P0.many)) (y:=v136) (Ev.any (m:=true) (zbd (f:=dI) (xs:=v133) (Ev.weak (K:=K) ↑33) ↑165 ↥(zuw hp hR hS hN))) ↑78 ↥(zsU hp hR hS hN ↥0 hM)) zag) ↑142)) ↑119 ↥(ztE hp hR hS hN hW))))) zag) rfl (by show zdH ([((ixD v133 P0.many)*v136)]++v134);exact zqM hp hR hS hN hW ↥0 hM) rfl) (λv138 hv138=>have hQ:=hv138;(zak (zaH (zfH (zab ↑78 (zab (zkw (i:=((ixD v138 (0:Int)),(zcs v138 ↑98 none))) (zab (Ev.any (m:=true) (zbd (f:=dI) (xs:=v138) (Ev.weak (K:=K) (zaa (i:=7) rfl)) zaD ↥(zus hQ))) (zab (Ev.weak (K:=K) (EvO.ev (EvO.anyI (m:=true) (ze6 (f:=dI) (xs:=v138) (Ev.weak (K:=K) (zaa (i:=7) rfl)) (zcX zaD) zfB)))) zag)) rfl (by show zc1 (ixD v138 (0:Int)) (zcs v138 ↑98 none);exact zrr hp hR hS hN hW ↥0 hM ↥0 hQ)) zag)) ↑105)))))))))))))))))))))
theorem zoG {b:BookD} {x:Ji} (h:SnP b x):∃ n:Nat,b.many=(n:Int) ∧
  ((∃ v,m_shown b x=(0,some (Sum.inl ⟨v⟩))∧Lat.Bit 700000 v∧v.length=n∧(∀ s∈b.swaps,Lat.dv v (Lat.vec s)=0)∧Lat.dv v (Lat.vec x)≠0∧∀ d:Int,Lat.SpL b.swaps (λi=>d*Lat.vec x i)->d=0) ∨
  (∃ c:Int,0<c∧c.natAbs≤2^8980∧Lat.SpL b.swaps (λi=>c*Lat.vec x i)∧(∀ d:Int,Lat.SpL b.swaps (λi=>d*Lat.vec x i)->c ∣ d) ∧
   ((c=1∧m_shown b x=(1,none))∨(2≤c∧∃ l r v,RsO n b.swaps x c l r v∧m_shown b x=(c,some (Sum.inr (zj5 r v))))))):=by
 obtain ⟨n,s,E,h1,h2,h3,h4,h5,h6,h7,h8,h9,h10,h11⟩:=h.all
 refine ⟨n,h1,?_⟩
 have eR:za6 ↑45=snR b x:=ziL _
 have eS:=zrh (x:=x) (rows:=snR b x) h1 rfl rfl
 have eN:=zsF (b:=b) (x:=x) h1 rfl rfl
 have eW:=ztv (b:=b) (x:=x) h1 rfl rfl
 have hs:m_shown b x=bif decide ((((↑21).length:Nat):Int)=(((snR b x).length:Nat):Int)) then ((0:Int),some (Sum.inl (zmv (zaU ((↑92).take n))))) else (bif (decide (ixD (ixD (snR b x) ⇑7) b.many=(1:Int))) then ((1:Int),none) else (ixD (ixD (snR b x) ⇑7) b.many,some (Sum.inr (zj5 (ixD (zaU ([ixD ↑92 b.many*ixD (ixD (snR b x) ⇑7) b.many]++(↑92).take n)) (0:Int)) (zcs (zaU ([ixD ↑92 b.many*ixD (ixD (snR b x) ⇑7) b.many]++(↑92).take n)) ↑98 none))))):=by
  unfold m_shown
  show Let (za6 ↑45) _=_
  rw [eR]
  unfold Let
  dsimp only
  rw [eS,eN,eW]
 rw [hs]
 by_cases q:(↑21).length=(snR b x).length
 ·left
  rw [decide_eq_true (show (((↑21).length:Nat):Int)=(((snR b x).length:Nat):Int) by omega)]
  have e:=ztj h6 q
  obtain ⟨l1,l2,l3⟩:=h6.line e
  obtain ⟨v1,v2,v3,v4⟩:=h6.lv
  have sh:=znR h6 h8 h9 h11 h3 q
  obtain ⟨d1,d2,d3⟩:=zhf ((↑92).take n)
  have g0:=sh.2.1
  have lb:=(Lat.zns (ss:=snS n b x) (λt ht=>h7 t (h6.low t ht).1) ↑0).2
  have hsl:(↑21).length≤9:=by omega
  have hb9:=Nat.mul_le_mul hsl (show s+9000≤72028 by omega)
  refine ⟨zaU ((↑92).take n),rfl,λy hy=>?_,by rw [zgK,List.length_map,List.length_take];omega,λs hs=>?_,?_,l3⟩
  ·rw [zgK] at hy
   obtain ⟨z,hz,rfl⟩:=List.mem_map.mp hy
   exact Nat.le_trans (Lat.zhI g0) ((lb.mono ↑0) z (List.mem_of_mem_take hz))
  ·have:=(ziD d2 (Lat.vec s)).1
   rw [l1 s hs] at this
   rw [zgK]
   rcases Int.mul_eq_zero.mp this with z | z
   ·exact z
   ·omega
  ·intro z
   rw [zgK] at z
   have:=(ziD d2 (Lat.vec x)).1
   rw [l2,z] at this
   omega
 ·right
  rw [decide_eq_false (show ¬ (((↑21).length:Nat):Int)=(((snR b x).length:Nat):Int) by omega)]
  obtain ⟨t,t1,t2⟩:=zqr h6 q
  have ht:t∈snR b x:=by rw [t2];exact List.mem_append_right _ ↑143
  obtain ⟨r1,r2,r3,r4,r5⟩:=h6.rest t1 t2
  have T:=(h7 t ht).top
  rw [t1] at T
  have hb:=zko h8 h9 h11
  rw [t2,Lat.zkJ,t1] at hb
  obtain ⟨v1,v2,v3,v4⟩:=h6.lv
  have e1:ixD (ixD (snR b x) ⇑7) b.many=Lat.vec t n:=by rw [t2,zkQ,h1,Lat.zb2]
  have e2:ixD ↑92 b.many=Lat.prh ↑21:=by rw [h1,Lat.zb2,v3]
  rw [e1,e2,cond_false]
  refine ⟨Lat.vec t n,r1,T,r4,r5,?_⟩
  by_cases q1:Lat.vec t n=1
  ·left
   rw [q1,decide_eq_true rfl]
   exact ⟨rfl,rfl⟩
  ·right
   rw [decide_eq_false q1,cond_false]
   obtain ⟨r,v,z⟩:=zsJ h6 t1 t2 hb h3
   refine ⟨by omega,_,r,v,z,?_⟩
   rw [z.er,z.ev]
theorem zoW {b:BookD} {s:Ji} (h:SnP b s):(m_shown b s).2.isSome=true ↔ ¬ Lat.SpL b.swaps (Lat.vec s):=by
 obtain ⟨n,n1,n2⟩:=zoG h
 rcases n2 with ⟨v,e,z1,z2,z3,z4,z5⟩ | ⟨c,c1,c2,c3,c4,c5⟩
 ·rw [e]
  refine ⟨λ_ hs=>?_,λ_=>rfl⟩
  have:=z5 1 (hs.conv λi=>by omega)
  omega
 ·rcases c5 with ⟨q,e⟩ | ⟨q,l,r,v,z,e⟩
  ·rw [e]
   exact ⟨(λk=>by cases k),(λk=>absurd (c3.conv λi=>by rw [q];omega) k)⟩
  ·rw [e]
   refine ⟨λ_ hs=>?_,λ_=>rfl⟩
   have:=c4 1 (hs.conv λi=>by omega)
   have:=Int.le_of_dvd ↑1 this
   omega
def zeo (P0:BookD) (P1:BookD) (P2:Jq):Unit:=()
def zbm (P0:BookD) (P1:BookD) (P2:Jq):Prop:=(P2.length:Int)=P0.many∧∀ r∈P2,(r.length:Int)=P1.many
def zcV (K:W.Frag) (A:Adr):Sp:=Spv (ι:=BookD×BookD×Jq) (λx=>[zaM A.Book x.1,zaM A.Book x.2.1,dQ K (List.map lI x.2.2)]) (λx=>zbm x.1 x.2.1 x.2.2) (λx=>↥[dN])
theorem zeh:FnScope ["first","second","baskets","basket"] ["first","second","baskets"] (zad zbg):=⇑4
theorem zfZ (F:Fun K "refuse_bad_baskets" "refuse_bad_baskets" zbg f fd) (T:Txt K mg A) :FnOk P w K mg base ⇑1 1 f fd ["first","second","baskets"] (zcV K A):=by
 refine F.okV zeh ↥4 ⇑8
 obtain ⟨P0,P1,P2⟩:=x
 have hu:=hr.units
 replace hp:zbm P0 P1 P2:=hp
 unfold zbm at hp
 refine ⟨_,(zac (zcp (zaJ zf4 ↑189 ↑30 (zaP _)) (zac zes zaf) zaf) (zac (zcy PassesOwn.never rfl ↑147 (zan (i:=3) zeh.nd rfl ⇑0 ⇑0) (zac (zcp (zaJ zf4 (zam ↑51 rfl T.len PySem.boot_len ↑[pv 3]) ↑144 (zaP _)) (zac zes zaf) zaf) zaf)) zaf)),.inr ⟨_,([⇑[zaM A.Book P0],⇑[zaM A.Book P1],⇑[dQ K (List.map lI P2)],.no]:L2.Ctx),rfl,?_⟩⟩
 show L2.Run _ ([⇑[zaM A.Book P0],⇑[zaM A.Book P1],⇑[dQ K (List.map lI P2)],.no]:L2.Ctx) _ _
 exact (zb5 (EvT.conv (zay (zeg (x:=((P2.length:Nat):Int)) (y:=P0.many) (zaZ (f:=lI) (xs:=P2) ↑29) ↑165)) ↥(zsV hp.1)) (zaw (zjY (s0:=()) (λ(s140:Unit)=>([⇑[zaM A.Book P0],⇑[zaM A.Book P1],⇑[dQ K (List.map lI P2)],.no]:L2.Ctx)) (λ(s140:Unit) (x141:Ji)=>()) (λ_ _=>True) (zbx (m:=false) lI (xs:=P2) ↑29) ↑39 trivial (λi142 x141 s140 hx143 hI144=>have v143:=List.mem_of_getElem? hx143;⟨trivial,(zb5 (EvT.conv (zay (zeg (x:=((x141.length:Nat):Int)) (y:=P1.many) (zaZ (f:=dI) (xs:=x141) ↑72) (Ev.any (m:=false) (zbh ⇑3 T.Book_cl T.Book_many rfl)))) ↥(zsV (hp.2 _ (List.mem_of_getElem? ↥0)))) (zaw (zar (.eq (.eq (.eq (.no .nil)))))))⟩) ↑131)))
def SeX (S:SenderD) (x:Ji):Prop:=∃ W2:Nat,S.second.many=(W2:Int)∧W2≤8∧(∀ r∈S.baskets,r.length=W2)∧∀ p∈List.zip S.baskets x,∀ y∈p.1,zdJ y p.2
def SeP (S:SenderD) (x:Ji):Prop:=(x.length:Int)=S.first.many∧SeX S x
section
variable {S:SenderD} {x s r:Ji} {i:Nat} {p:Ji×Int}
theorem zvx (h:SeX S x):-(2^63)≤S.second.many∧S.second.many<2^63:=by obtain ⟨W,h1,h2,_⟩:=h;omega
theorem zuz (h:SeX S x):[(0:Int)].length*S.second.many.toNat≤PySem.sizeLine:=by obtain ⟨W,h1,h2,_⟩:=h;exact zal ↑126
theorem zvg (h:SeX S x) (hx:((List.zip S.baskets x))[i]?=some p):zb9 p.1 p.2:=by
 obtain ⟨W,h1,h2,h3,h4⟩:=h
 exact ⟨by rw [h3 _ (List.mem_of_getElem? (zcE hx).1)];omega,h4 _ (List.mem_of_getElem? hx)⟩
theorem zpY (h:SeX S x) (hx:((List.zip S.baskets x))[i]?=some p) (hs:(s.length:Int)=S.second.many):s.length=((zax p.1 p.2)).length∧s.length≤1000:=by
 obtain ⟨W,h1,h2,h3,h4⟩:=h
 have e:((zax p.1 p.2)).length=p.1.length:=Lat.zby
 rw [e,h3 _ (List.mem_of_getElem? (zcE hx).1)]
 omega
theorem zvq (h:SeX S x) (hx:((List.zip S.baskets x))[i]?=some p) (hs:(s.length:Int)=S.second.many):zfz s (zax p.1 p.2):=zpY h hx hs
theorem zvj (h:SeX S x) (hR:r=zc7 S.second.many [(0:Int)]):(r.length:Int)=S.second.many:=by
 obtain ⟨W,h1,h2,h3,h4⟩:=h
 rw [hR,h1,Lat.zdc]
theorem zvX (h:SeX S x) (hx:((List.zip S.baskets x))[i]?=some p) (hs:(s.length:Int)=S.second.many):((Let (ze8 s (zax p.1 p.2)) (λ(y:Ji)=>y)).length:Int)=S.second.many:=by
 have e:(ze8 s (zax p.1 p.2)).length=s.length:=Lat.zku (zpY h hx hs).1
 unfold Let
 rw [e];exact hs
end
def x_refuse_other_book (P0:BookD) (P1:BookD):Except Xn Unit :=
 (bif ((!decide (P0.many=P1.many))||(!decide (P0.swaps=P1.swaps))) then (Except.error Xn.OtherBook) else (Except.ok ()))
def zb0 (P0:BookD) (P1:BookD):Prop:=True
def zcS (K:W.Frag) (A:Adr):Sp:=Spv (ι:=BookD×BookD) (λx=>[zaM A.Book x.1,zaM A.Book x.2]) (λx=>zb0 x.1 x.2) (λx=>zqs A.xc true (λ_=>dN) (x_refuse_other_book x.1 x.2))
theorem zgp:FnScope ↥7 ↥7 (zad zbq):=⇑4
theorem zfW (F:Fun K "refuse_other_book" "refuse_other_book" zbq f fd) (T:Txt K mg A) :FnOk P w K mg base ⇑1 1 f fd ↥7 (zcS K A):=by
 refine F.okVXN zgp ↥4 (λcdv Ar outer s H E x hr hp O=> ?_)
 obtain ⟨P0,P1⟩:=x
 have hu:=hr.units
 replace hp:zb0 P0 P1:=hp
 unfold zb0 at hp
 refine ⟨_,([⇑[zaM A.Book P0],⇑[zaM A.Book P1]]:L2.Ctx),(zfx (ztV (PW.pt (zky (zaJ zf4 ↑30 ↑144 (zaP _)) (zih (zaJ (zhP (K:=K) rfl hu) ↑30 ↑144 (zaP _))))) (zfx (zoV O rfl rfl T.xm_OtherBook T.xi_OtherBook PySem.F.excBase_ValueError ↑[zdg]) ziv) ziv) ziv),?_⟩
 show L2.Run _ ([⇑[zaM A.Book P0],⇑[zaM A.Book P1]]:L2.Ctx) _ ((foX A.xc ([.no,.no]:L2.Ctx) (λ(_:Unit)=>Oc.nx ([⇑[zaM A.Book P0],⇑[zaM A.Book P1]]:L2.Ctx))) (x_refuse_other_book P0 P1))
 unfold x_refuse_other_book
 exact (za8 (b:=((!decide (P0.many=P1.many))||(!decide (P0.swaps=P1.swaps)))) (foX A.xc ([.no,.no]:L2.Ctx) (λ(_:Unit)=>Oc.nx ([⇑[zaM A.Book P0],⇑[zaM A.Book P1]]:L2.Ctx))) (zhX (b:=(!decide (P0.many=P1.many))) (zay (zeg (x:=P0.many) (y:=P1.many) ↑165 (Ev.any (m:=false) (zbh ⇑3 T.Book_cl T.Book_many rfl)))) (λhb=>(zay (zgJ (n:=1) (neg:=true) (xs:=P0.swaps) (ys:=P1.swaps) (EqD.list EqD.int) (Ev.weak (K:=K) (zbh ↑2 T.Book_cl T.Book_swaps rfl)) (Ev.weak (K:=K) (zbh ⇑3 T.Book_cl T.Book_swaps rfl)))))) (λh147=>(zaC (znK (m:=false) ↑28 ↑142 ↑64))) (λh147=>(zaw ↑131)))
def zah (P0:SenderD) (P1:Ji):Ji :=
 (Let (zc7 P0.second.many [(0:Int)]) (λ(v148:Ji)=>(Let (List.foldl (λ(s149:Ji) (x150:(Ji×Int))=>(Let (ze8 s149 (zax x150.1 x150.2)) (λ(v154:Ji)=>v154))) v148 (List.zip P0.baskets P1)) (λ(r155:Ji)=>r155))))
def zbQ (P0:SenderD) (P1:Ji):Prop:=SeP P0 P1
def zdj (K:W.Frag) (A:Adr):Sp:=Spv (ι:=SenderD×Ji) (λx=>[zav A A.Sender x.1,dQ K ↑161]) (λx=>zbQ x.1 x.2) (λx=>↥[dL (List.map dI (zah x.1 x.2))])
theorem zdf:FnScope ["self","basket","reached","image","many"] ["self","basket"] (zad zc0):=⇑4
theorem ziq (F:Fun K "sent" "Sender.sent" zc0 f fd) (T:Txt K mg A) (ybV:Callee P w K mg base ⇑1 2 "plus" ↥7 (zju K A)) (yat:Callee P w K mg base ⇑1 1 "refuse_bad_basket" ["book","basket"] (zdd K A)) (yai:Callee P w K mg base ⇑1 1 "times" ["some","many"] (zfw K A)):FnOk P w K mg base ⇑1 3 f fd ["self","basket"] (zdj K A):=by
 refine F.okV zdf ↥4 ⇑8
 obtain ⟨P0,P1⟩:=x
 have hu:=hr.units
 replace hp:zbQ P0 P1:=hp
 unfold zbQ at hp
 refine ⟨_,(zac (zc9 (zaT yat ↥1 rfl zaL ↑[↑30,pv 1])) (zac (zaq (i:=2) zdf.nd rfl ⇑0 (zaz zhr ↑88 (zaK (K:=K) rfl ↑30 rfl))) (zac (zcy PassesOwn.never rfl (zc6 (K:=K) rfl rfl T.zip ↑[↑30,pv 1]) (zbu (K:=K) (n:=2) rfl rfl (zaG (zan (i:=3) zdf.nd rfl ⇑0 ⇑0) (zaG (zan (i:=4) zdf.nd rfl ⇑0 ⇑0) zci))) (zac (zaq (i:=2) zdf.nd rfl ⇑0 (zaT ybV ↥1 rfl zaL ↑[pv 2,zaT yai ↥1 rfl zaL ↑[pv 3,pv 4]])) zaf)) (zac (zaR (pv 2)) zaf)))),.inl ?_⟩
 show L2.Run _ ([⇑[zav A A.Sender P0],⇑[dQ K ⇑6],.no,.no,.no]:L2.Ctx) _ (↑67 (zah P0 P1))
 unfold zah
 exact (zgI (m:=true) (Ev.any (m:=true) (zau (x:=(P0.first,P1)) (zab ↑254 (zab ⇑3 zag)) rfl (by show zb6 P0.first P1;exact hp.1) rfl)) (zao (m:=true) (x:=(zc7 P0.second.many [(0:Int)])) lI ↑67 (EvO.ev (zfU (f:=dI) (xs:=[(0:Int)]) (n:=P0.second.many) ↑77 (Ev.any (m:=false) (zbh ↑253 T.Book_cl T.Book_many rfl)) ↥(zvx hp.2) ↥(zuz hp.2))) (λv148 hv148=>have hR:=hv148;(zbL (s0:=v148) (λ(s149:Ji)=>([⇑[zav A A.Sender P0],⇑[dQ K ⇑6],↥[dL (List.map dI s149)],.no,.no]:L2.Ctx)) ↑67 (λ(s149:Ji) (x150:(Ji×Int))=>(Let (ze8 s149 (zax x150.1 x150.2)) (λ(v154:Ji)=>v154))) (λ(i:Nat) (s149:Ji)=>(s149.length:Int)=P0.second.many) (ze9 (m:=false) lI dI (xs:=P0.baskets) (ys:=P1) (Ev.weak (K:=K) (zbh ↑2 T.Sender_cl T.Sender_baskets rfl)) ⇑3) (.eq ↑39) ↥(zvj hp.2 hR) (λi151 x150 s149 hx152 hI153=>have v152:=zcE hx152;⟨↥(zvX hp.2 ↥0 ↥0),(zao (m:=true) (x:=(ze8 s149 (zax x150.1 x150.2))) lI (λz=>Oc.nx ((λ(s149:Ji)=>([⇑[zav A A.Sender P0],⇑[dQ K ⇑6],↥[dL (List.map dI s149)],.no,.no]:L2.Ctx)) z)) (EvO.ev (EvO.anyI (m:=true) (zcH (x:=(s149,(zax x150.1 x150.2))) (zab ↑66 (zab (Ev.weak (K:=K) (EvO.ev (EvO.anyI (m:=true) (zcH (x:=(x150.1,x150.2)) (zab ↑72 (zab (Ev.any (m:=false) ↑33) zag)) rfl (by show zb9 x150.1 x150.2;exact zvg hp.2 ↥0) rfl)))) zag)) rfl (by show zfz s149 (zax x150.1 x150.2);exact zvq hp.2 ↥0 ↥0) rfl))) (λv154 hv154=>have hR:=hv154;(zar (.eq (.eq (.eq ↑64))))))⟩) (λr155 hr155 hI=>(zak (zaH ↑29)))))))
theorem zeG {S:SenderD} {x:Ji} {W1 W2:Nat} (h:S.second.many=(W2:Int)) (hb:∀ r∈S.baskets,r.length=W2) (hl:S.baskets.length=W1) (hx:x.length=W1):(zah S x).length=W2∧∀ i,Lat.vec (zah S x) i=Lat.lsum (((List.range W1)).map λ(w:Nat)=>Lat.vec x w*Lat.vec (ixD S.baskets (w:Int)) i):=by
 have k:=Lat.zgX (W:=W2) (F:=λ(s:Ji) (p:Ji×Int)=>ze8 s (zax p.1 p.2)) (c:=λp i=>Lat.vec p.1 i*p.2) (List.zip S.baskets x) (zc7 S.second.many [(0:Int)]) (by rw [h,Lat.zdc]) λs p hp hs=>by
  have hq:=hb _ ((List.of_mem_zip hp)).1
  have e:((zax p.1 p.2)).length=p.1.length:=Lat.zby
  have e1:s.length=((zax p.1 p.2)).length:=by omega
  exact ⟨(Lat.zku (s:=zax p.1 p.2) e1).trans hs,λi=>(Lat.zkC e1).trans (by rw [show Lat.vec (zax p.1 p.2) i=Lat.vec p.1 i*p.2 from Lat.zdZ])⟩
 refine ⟨k.1,λi=>(k.2 i).trans ?_⟩
 rw [h,Lat.ze3,Int.zero_add,Lat.zjV hl hx,List.map_map]
 exact Lat.zcj λw _=>by
  show Lat.vec (ixD S.baskets (w:Int)) i*ixD x (w:Int)=_
  rw [Lat.zb2,Int.mul_comm]
def SiP (a b:BookD) (bs:Jq):Prop:=zbm a b bs∧bs.length≤1000∧∀ s∈a.swaps,SeP ⟨a,b,bs⟩ s∧SnP b (zah ⟨a,b,bs⟩ s)∧Lat.SpL b.swaps (Lat.vec (zah ⟨a,b,bs⟩ s))
section
variable {a b:BookD} {bs:Jq} {i:Nat} {p:Int×Ji}
theorem zvs (h:SiP a b bs):bs.length≤PySem.sizeLine:=zal (by have:=h.2.1;omega)
theorem zue (q:i<a.swaps.length∧p.1=(i:Int)∧a.swaps[i]?=some p.2):p.2∈a.swaps:=List.mem_of_getElem? q.2.2
theorem zvK (h:SiP a b bs) (q:i<a.swaps.length∧p.1=(i:Int)∧a.swaps[i]?=some p.2):SeP ⟨a,b,List.map (λ(x:Ji)=>x) bs⟩ p.2:=by rw [zc4];exact (h.2.2 _ (zue q)).1
theorem zvJ (h:SiP a b bs) (q:i<a.swaps.length∧p.1=(i:Int)∧a.swaps[i]?=some p.2):SnP b (zah ⟨a,b,List.map (λ(x:Ji)=>x) bs⟩ p.2):=by rw [zc4];exact (h.2.2 _ (zue q)).2.1
theorem zvT {c:Option (LineD⊕RestD)} (h:SiP a b bs) (q:i<a.swaps.length∧p.1=(i:Int)∧a.swaps[i]?=some p.2) (hC:c=(m_shown b (zah ⟨a,b,List.map (λ(x:Ji)=>x) bs⟩ p.2)).2):c.isSome=false:=by
 rw [zc4] at hC
 have k:=h.2.2 _ (zue q)
 rw [hC]
 cases e:(m_shown b (zah ⟨a,b,bs⟩ p.2)).2.isSome with
 | false=>rfl
 | true=>exact absurd k.2.2 ((zoW k.2.1).mp e)
end
def m_Sender (P0:BookD) (P1:BookD) (P2:Jq):SenderD:=⟨P0,P1,↑222⟩
def zbp (P0:BookD) (P1:BookD) (P2:Jq):Prop:=SiP P0 P1 P2
def zdF (K:W.Frag) (A:Adr):Sp:=zu1 (ι:=BookD×BookD×Jq) A.Sender "first" "second" "baskets" (λx=>zaM A.Book x.1) (λx=>zaM A.Book x.2.1) (λx=>dQ K (List.map lI x.2.2)) (λx=>zbp x.1 x.2.1 x.2.2) (λx=>dL (List.map lI ((m_Sender x.1 x.2.1 x.2.2).baskets)))
theorem zcL:FnScope ["self","first","second","baskets","place","swap","scale"] ["self","first","second","baskets"] (zad zbt):=⇑4
theorem zgR (F:Fun K "__init__" "Sender.__init__" zbt f fd) (T:Txt K mg A) (yaf:CalleeM P w K mg base ⇑1 3 A.Sender "sent" ["self","basket"] (zdj K A)) (yan:Callee P w K mg base ⇑1 1 "refuse_bad_baskets" ["first","second","baskets"] (zcV K A)) (yc7:Callee P w K mg base ⇑1 6 "shown" ["book","basket"] (zjt K A)):FnOk P w K mg base ⇑1 7 f fd ["self","first","second","baskets"] (zdF K A):=by
 refine F.okI (ι:=V×V×BookD×BookD×Jq) zcL ↥4 ⇑8
 obtain ⟨v1,v2,P0,P1,P2⟩:=x
 have hu:=hr.units
 replace hp:zbp P0 P1 P2:=hp
 unfold zbp at hp
 refine ⟨_,(zac (zc9 (zaT yan ↥1 rfl zaL ↑[pv 1,pv 2,pv 3])) (zac (zhs (pv 0) (pv 1) rfl) (zac (zhs (pv 0) (pv 2) rfl) (zac (zhs (pv 0) (zbG rfl (.of (osc:=(zad zbt)) (N:=["self","first","second","baskets","place","swap","scale"]) (own:=["basket"]) (fvn:=[]) (fv:=[]) rfl rfl ↑4) (zaV (K:=K) rfl (pv 3)) (λ_ _ _ _ _=>⟨(zan (i:=0) (show (["basket"]:List Str).Nodup by decide +kernel) rfl ⇑0 ↥2),za5,↑134⟩)) rfl) (zac (zcy PassesOwn.never rfl (zjq rfl rfl T.enumerate ↑[↑144]) (zbu (K:=K) (n:=2) rfl rfl (zaG (zan (i:=4) zcL.nd rfl ⇑0 ⇑0) (zaG (zan (i:=5) zcL.nd rfl ⇑0 ⇑0) zci))) (zac (zaq (i:=6) zcL.nd rfl ⇑0 (zaS ↑42 (zaT yc7 ↥1 rfl zaL ↑[pv 2,zlK (pv 0) T.Sender_cl yaf ↥1 zaL ↑[pv 5]]) zai ↥3)) (zac (zcp (zaJ znd (pv 6) zjP (zaP _)) (zac zes zaf) zaf) zaf))) zaf))))),λp dx=>⟨([.ob true A.Sender p dx [("first",dV v1),("second",dV v2),("baskets",dL (List.map lI ↑222))],⇑[dX (v1) (zaM A.Book P0)],⇑[dX (v2) (zaM A.Book P1)],⇑[dQ K (List.map lI P2)],.no,.no,.no]:L2.Ctx),?_,rfl⟩⟩
 show L2.Run _ ([.ob true A.Sender p dx [],⇑[dX (v1) (zaM A.Book P0)],⇑[dX (v2) (zaM A.Book P1)],⇑[dQ K (List.map lI P2)],.no,.no,.no]:L2.Ctx) _ _
 exact (zgI (m:=true) (Ev.any (m:=true) (zau (x:=(P0,P1,P2)) (zab (ziS (i:=1) rfl) (zab (ziS (i:=2) rfl) (zab ↑38 zag))) rfl (by show zbm P0 P1 P2;exact hp.1) rfl)) (zeW (i:=0) rfl (zna (i:=1) rfl) T.Sender_cl T.Sender_first [] rfl ↑4 ↑1 (zeW (i:=0) rfl (zna (i:=2) rfl) T.Sender_cl T.Sender_second ["first"] rfl ↑4 ↑1 (zeW (i:=0) rfl (EvO.ev (EvO.conv (zbA (g:=(λ(x156:Ji)=>dL (List.map dI x156))) (zbx (m:=false) lI (xs:=P2) ↑38) ↥(zvs hp) ↑5 (λi157 x156 hx158=>have v158:=List.mem_of_getElem? hx158;↑182)) ↑8)) T.Sender_cl T.Sender_baskets ["first","second"] rfl ↑4 ↑1 (zjY (s0:=()) (λ(s159:Unit)=>([.ob true A.Sender p dx [("first",dV v1),("second",dV v2),("baskets",dL (List.map lI ↑222))],⇑[dX (v1) (zaM A.Book P0)],⇑[dX (v2) (zaM A.Book P1)],⇑[dQ K (List.map lI P2)],.no,.no,.no]:L2.Ctx)) (λ(s159:Unit) (x160:(Int×Ji))=>(Let ((m_shown P1 (zah ↑202 x160.2)).2) (λ(v164:(Option (LineD⊕RestD)))=>()))) (λ_ _=>True) (ziY (m:=false) lI (xs:=P0.swaps) (Ev.weak (K:=K) (zbh (ziS (i:=1) rfl) T.Book_cl T.Book_swaps rfl))) ↑58 trivial (λi161 x160 s159 hx162 hI163=>have v162:=zfj hx162;⟨trivial,(zao (m:=true) (x:=(m_shown P1 (zah ↑202 x160.2)).2) (kk:=λ(v164:(Option (LineD⊕RestD)))=>()) (dOpt (dSc A)) (λz=>Oc.nx ((λ(s159:Unit)=>([.ob true A.Sender p dx [("first",dV v1),("second",dV v2),("baskets",dL (List.map lI ↑222))],⇑[dX (v1) (zaM A.Book P0)],⇑[dX (v2) (zaM A.Book P1)],⇑[dQ K (List.map lI P2)],.no,.no,.no]:L2.Ctx)) z)) (EvN.ev (EvN.borrowBX (i:=0) (i1:=1) (i2:=2) rfl rfl ↑1 ↑1 rfl rfl (zpR (zbM (zau (x:=(P1,(zah ↑202 x160.2))) (zab (ziS (i:=2) rfl) (zab (Ev.old (zi2 (x:=(↑202,x160.2)) ↑2 (zab ↑127 zag) rfl (by show zbQ ↑202 x160.2;exact zvK hp ↥0) rfl rfl)) zag)) rfl (by show zgU P1 (zah ↑202 x160.2);exact zvJ hp ↥0) rfl) zaD rfl)))) (λv164 hv164=>have hC:=hv164;(zb5 (EvT.conv (zay (zhp (x:=v164) (f:=(dSc A)) (Ev.old ↑73) zaD zvV)) ↥(zvT hp ↥0 hC)) (zaw (zar (.eq (.eq (.eq (.eq (.no ↑64))))))))))⟩) ↑131)))))
def BhX (S T:SenderD):Prop:=T.second.many=S.first.many->T.second.swaps=S.first.swaps->(∀ b∈T.baskets,SeP S b)∧T.baskets.length≤1000∧SiP T.first S.second (List.map (λ(x:Ji)=>zah S x) T.baskets)
section
variable {S T:SenderD} {v:Unit} {b:Ji}
theorem ziC {a b:BookD} (h:x_refuse_other_book a b=.ok v):a.many=b.many∧a.swaps=b.swaps:=by
 unfold x_refuse_other_book at h
 cases q:((!decide (a.many=b.many))||(!decide (a.swaps=b.swaps))) with
 | true=>rw [q] at h;cases h
 | false=>simp only [Bool.or_eq_false_iff,Bool.not_eq_false',decide_eq_true_eq] at q;exact q
theorem zvh (h:BhX S T) (q:x_refuse_other_book T.second S.first=.ok v) (hb:b∈T.baskets):SeP S b:=((h (ziC q).1 (ziC q).2)).1 b hb
theorem zvk (h:BhX S T) (q:x_refuse_other_book T.second S.first=.ok v):T.baskets.length≤PySem.sizeLine:=zal (by have:=((h (ziC q).1 (ziC q).2)).2.1;omega)
theorem zvE (h:BhX S T) (q:x_refuse_other_book T.second S.first=.ok v):SiP T.first S.second (List.map (λ(x:Ji)=>zah S x) T.baskets):=((h (ziC q).1 (ziC q).2)).2.2
end
def x_Sender_behind (P0:SenderD) (P1:SenderD):Except Xn SenderD :=
 (zry (x_refuse_other_book P1.second P0.first) (λ_=>(Except.ok (m_Sender P1.first P0.second (List.map (λ(x167:Ji)=>(zah P0 x167)) P1.baskets)))))
def zcI (P0:SenderD) (P1:SenderD):Prop:=BhX P0 P1
def zd4 (K:W.Frag) (A:Adr):Sp:=Spv (ι:=SenderD×SenderD) (λx=>[zav A A.Sender x.1,zav A A.Sender x.2]) (λx=>zcI x.1 x.2) (λx=>zqs A.xc false ↑86 (x_Sender_behind x.1 x.2))
theorem zhw:FnScope ["self","other"] ["self","other"] (zad zbS):=⇑4
theorem zhi (F:Fun K "behind" "Sender.behind" zbS f fd) (T:Txt K mg A) (yaf:CalleeM P w K mg base ⇑1 3 A.Sender "sent" ["self","basket"] (zdj K A)) {ybe:Addr} {yaY:FuncData} (yaz:Mk K A.Sender ybe) (yag:FnOk P w K mg base ⇑1 7 ybe yaY ["self","first","second","baskets"] (zdF K A)) (yah:zfP K yaY ["self","first","second","baskets"] []) (yao:Callee P w K mg base ⇑1 1 "refuse_other_book" ↥7 (zcS K A)):FnOk P w K mg base ⇑1 9 f fd ["self","other"] (zd4 K A):=by
 refine F.okVX zhw ↥4 (λcdv Ar outer s H E x hr hp O=> ?_)
 obtain ⟨P0,P1⟩:=x
 have hu:=hr.units
 replace hp:zcI P0 P1:=hp
 unfold zcI at hp
 refine ⟨_,(zfx (zrl (zuj O yao ↥1 rfl ↑[↑144,↑30])) (zfx (ziP (zaR (zhc yaz yag ↥1 rfl T.Sender yah .nil zaL ↑[↑144,↑30,(zbG rfl (.of (osc:=(zad zbS)) (N:=["self","other"]) (own:=["basket"]) (fvn:=["self"]) (fv:=[0]) rfl rfl ↑4) (zaV (K:=K) rfl ↑144) (λ_ _ _ _ _=>⟨(zan (i:=0) (show (["basket","self"]:List Str).Nodup by decide +kernel) rfl ⇑0 ↥2),za5,(zlK (pv 1) T.Sender_cl yaf ↥1 zaL ↑[pv 0])⟩))]))) ziv)),.inl ?_⟩
 show L2.Run _ ([⇑[zav A A.Sender P0],⇑[zav A A.Sender P1]]:L2.Ctx) _ (zrD 2 (zqs A.xc false ↑86 (x_Sender_behind P0 P1)))
 rw [znM]
 show L2.Run _ _ _ ((foX A.xc ([.no,.no]:L2.Ctx) (λ(r:SenderD)=>Oc.rt false (zav A A.Sender r))) (x_Sender_behind P0 P1))
 unfold x_Sender_behind
 exact (znk (λ(r:SenderD)=>Oc.rt false (zav A A.Sender r)) (P1.second,P0.first) (zab (zbh ⇑3 T.Sender_cl T.Sender_second rfl) (zab ↑254 zag)) rfl (by show zb0 P1.second P0.first;exact trivial) rfl ↑64 (λv170 hv170=>(zak (zaH (zjp (x:=(P1.first,P0.second,(List.map (λ(x167:Ji)=>(zah P0 x167)) P1.baskets))) (zab (zbh ⇑3 T.Sender_cl T.Sender_first rfl) (zab ↑253 (zab (Ev.old (Ev.weak (K:=K) (EvO.ev (EvO.conv (zbA (g:=(λ(x167:Ji)=>dL (List.map dI (zah P0 x167)))) (zbx (m:=false) lI (xs:=P1.baskets) (Ev.weak (K:=K) (zbh ⇑3 T.Sender_cl T.Sender_baskets rfl))) ↥(zvk hp ↥0) ↑5 (λi168 x167 hx169=>have v169:=List.mem_of_getElem? hx169;(zi2 (x:=(P0,x167)) ⇑3 (zab ↑94 zag) rfl (by show zbQ P0 x167;exact zvh hp ↥0 ↥0) rfl rfl))) ↑8)))) zag))) rfl (by show zbp P1.first P0.second (List.map (λ(x167:Ji)=>(zah P0 x167)) P1.baskets);exact zvE hp ↥0))))))
theorem zlx (S T:SenderD):x_Sender_behind S T=if T.second.many=S.first.many∧T.second.swaps=S.first.swaps then .ok ⟨T.first,S.second,List.map (λ(x:Ji)=>zah S x) T.baskets⟩ else .error .OtherBook:=by
 unfold x_Sender_behind x_refuse_other_book zry m_Sender
 rw [zc4]
 by_cases h:T.second.many=S.first.many∧T.second.swaps=S.first.swaps
 ·have q:((!decide (T.second.many=S.first.many))||(!decide (T.second.swaps=S.first.swaps)))=false:=by simp [h]
  rw [if_pos h,q];rfl
 ·have q:((!decide (T.second.many=S.first.many))||(!decide (T.second.swaps=S.first.swaps)))=true:=by
   by_cases z:T.second.many=S.first.many
   ·have:¬ T.second.swaps=S.first.swaps:=λy=>h ⟨z,y⟩
    simp [z,this]
   ·simp [z]
  rw [if_neg h,q];rfl
def zcf (P0:Int):Bool :=
 (true&&(!false))
def zer (P0:Int):Prop:=True
def zfQ (K:W.Frag) (A:Adr):Sp:=Spv (ι:=Int) (λx=>[dI x]) (λx=>zer x) (λx=>↥[dB (zcf x)])
theorem zke:FnScope ["_law_found"] ["_law_found"] (zad zdQ):=⇑4
theorem zj4 (F:Fun K "_law_whole" "_law_whole" zdQ f fd) (T:Txt K mg A) :FnOk P w K mg base ⇑1 1 f fd ["_law_found"] (zfQ K A):=by
 refine F.okV zke ↥4 ↑68
 have hu:=hr.units
 replace hp:zer P0:=hp
 unfold zer at hp
 refine ⟨_,(zac (zaR (zlB (zam ↑19 rfl T.isinstance PyProof.Rows.boot_isinstance ↑[pv 0,(zjv rfl T.int (v:=.ty "int") (u:=.type "int") ↑4 rfl)]) (zka (zsS (zam ↑19 rfl T.isinstance PyProof.Rows.boot_isinstance ↑[pv 0,(zjv rfl T.bool (v:=.ty "bool") (u:=.type "bool") ↑4 rfl)]))))) zaf),.inl ?_⟩
 show L2.Run _ ([⇑[dI P0]]:L2.Ctx) _ (⇑9 (zcf P0))
 unfold zcf
 exact (zak (zaH (zk9 (b:=true) (zn7 (λ_=>TyOf.int _) ↑9 T.kit_int_int) (λhb=>(zsD (zn7 (λ_=>TyOf.int _) ↑9 T.kit_int_bool))))))
def zbr (P0:Ji) (P1:Ji):Bool :=
 (bif ((!true)||(!decide (↑34=((P1.length:Nat):Int)))) then false else ((((List.map (λ(x172:Int)=>(zcf x172)) P0)).all id)&&(decide (P0=P1))))
def zem (P0:Ji) (P1:Ji):Prop:=P0.length≤1000
def zft (K:W.Frag) (A:Adr):Sp:=Spv (ι:=Ji×Ji) (λx=>[dL (List.map dI x.1),dQ K ↑161]) (λx=>zem x.1 x.2) (λx=>↥[dB (zbr x.1 x.2)])
theorem zkn:FnScope ["_law_found","_law_due"] ["_law_found","_law_due"] (zad zdV):=⇑4
theorem zkW (F:Fun K "_law_same" "_law_same" zdV f fd) (T:Txt K mg A) (ybG:Callee P w K mg base ⇑1 1 "_law_whole" ["_law_found"] (zfQ K A)):FnOk P w K mg base ⇑1 2 f fd ["_law_found","_law_due"] (zft K A):=by
 refine F.okV zkn ↥4 ⇑8
 obtain ⟨P0,P1⟩:=x
 have hu:=hr.units
 replace hp:zem P0 P1:=hp
 unfold zem at hp
 refine ⟨_,(zac (zcp (PW.pt (zky (ziM (zhR (zam ↑19 rfl T.isinstance PyProof.Rows.boot_isinstance ↑[pv 0,(zjv rfl T.list (v:=.ty "list") (u:=.type "list") ↑4 rfl)]))) (zih (zaJ zf4 ↑187 ↑188 (zaP _))))) ↑153 zaf) (zac (zaR (zlB (zam (ziA (K:=K) rfl rfl) rfl T.all PyProof.Rows.boot_all ↑[(zbG rfl (.of (osc:=(zad zdV)) (N:=["_law_found","_law_due"]) (own:=["_law_one"]) (fvn:=[]) (fv:=[]) rfl rfl ↑4) (zaV (K:=K) rfl (pv 0)) (λ_ _ _ _ _=>⟨(zan (i:=0) (show (["_law_one"]:List Str).Nodup by decide +kernel) rfl ⇑0 ↥2),za5,(zaT ybG ↥1 rfl zaL ↑[pv 0])⟩))]) (zka (zfC (zi7 (K:=K) rfl hu) (pv 0) (pv 1) (zaP _))))) zaf)),.inl ?_⟩
 show L2.Run _ ([⇑[dL ↥5],⇑[dQ K ⇑6]]:L2.Ctx) _ (⇑9 (zbr P0 P1))
 unfold zbr
 exact (za8 (b:=((!true)||(!decide (↑34=((P1.length:Nat):Int))))) ⇑9 (zhX (b:=(!true)) (zho (zgC (zqL ↑2 T.kit_list_list))) (λhb=>(zay (zeg (x:=↑34) (y:=((P1.length:Nat):Int)) (zaZ (f:=dI) (xs:=P0) ↑94) (zaZ (f:=dI) (xs:=P1) ⇑3))))) (λh171=>↑151) (λh171=>(zaw (zak (zaH (zk9 (b:=(((List.map (λ(x172:Int)=>(zcf x172)) P0)).all id)) (zpq (xs:=(List.map (λ(x172:Int)=>(zcf x172)) P0)) (Ev.weak (K:=K) (EvO.ev (EvO.conv (zbA (g:=(λ(x172:Int)=>dB (zcf x172))) (zbx (m:=false) dI (xs:=P0) ↑94) ↥(zal ↑0) ↑5 (λi173 x172 hx174=>have v174:=List.mem_of_getElem? hx174;(Ev.any (m:=true) (zau (x:=x172) (zab ↑9 zag) rfl (by show zer x172;exact trivial) rfl)))) ↑8)))) (λhb=>(zgJ (n:=0) (neg:=false) (xs:=P0) (ys:=P1) EqD.int ↑94 ⇑3))))))))
def zcR (P0:(Option Xn)):(List Bool) :=
 (Let [(zdI zei P0),(zdI zel P0),(zdI zeH P0)] (λ(v175:(List Bool))=>(Let (v175++[(zdI zd2 P0),(zdI zcZ P0),(zdI zdO P0)]) (λ(v176:(List Bool))=>(Let (v176++[(zdI zdS P0),(zdI zdv P0),(zdI zd7 P0)]) (λ(v177:(List Bool))=>(Let (v177++[(zdI zds P0),(zdI zcB P0),(zdI zcC P0)]) (λ(v178:(List Bool))=>(Let (v178++[(zdI zdN P0),(zdI zc2 P0),(zdI zeF P0)]) (λ(v179:(List Bool))=>(Let (v179++[(zdI zdx P0),(zdI zey P0),(zdI zex P0)]) (λ(v180:(List Bool))=>(v180++[(zdI zfc P0)])))))))))))))
def zep (P0:(Option Xn)):Prop:=True
def zfT (K:W.Frag) (A:Adr):Sp:=Spv (ι:=(Option Xn)) (λx=>[dOpt ↑96 x]) (λx=>zep x) (λx=>.ow true (List.map dB (zcR x)))
theorem zcW:FnScope ["_law_caught","_law_flags_here"] ["_law_caught"] (zad zdR):=⇑4
theorem zkf (F:Fun K "_law_flags" "_law_flags" zdR f fd) (T:Txt K mg A) :FnOk P w K mg base ⇑1 1 f fd ["_law_caught"] (zfT K A):=by
 refine F.okV zcW ↥4 ↑68
 have hu:=hr.units
 replace hp:zep P0:=hp
 unfold zep at hp
 refine ⟨_,(zac (zaq (i:=1) zcW.nd rfl ⇑0 (zbj ↑[(zam ↑19 rfl T.isinstance PyProof.Rows.boot_isinstance ↑[pv 0,(zbW (v:=.ref A.k_NotAlike) rfl T.k_NotAlike rfl)]),(zam ↑19 rfl T.isinstance PyProof.Rows.boot_isinstance ↑[pv 0,(zbW (v:=.ref A.k_BadWares) rfl T.k_BadWares rfl)]),(zam ↑19 rfl T.isinstance PyProof.Rows.boot_isinstance ↑[pv 0,(zbW (v:=.ref A.k_TooMany) rfl T.k_TooMany rfl)])])) (zac (zaq (i:=1) zcW.nd rfl ⇑0 (zaz zdD (pv 1) (zbj ↑[(zam ↑19 rfl T.isinstance PyProof.Rows.boot_isinstance ↑[pv 0,(zbW (v:=.ref A.k_BadSwap) rfl T.k_BadSwap rfl)]),(zam ↑19 rfl T.isinstance PyProof.Rows.boot_isinstance ↑[pv 0,(zbW (v:=.ref A.k_BadBasket) rfl T.k_BadBasket rfl)]),(zam ↑19 rfl T.isinstance PyProof.Rows.boot_isinstance ↑[pv 0,(zbW (v:=.ref A.k_BadRoad) rfl T.k_BadRoad rfl)])]))) (zac (zaq (i:=1) zcW.nd rfl ⇑0 (zaz zdD (pv 1) (zbj ↑[(zam ↑19 rfl T.isinstance PyProof.Rows.boot_isinstance ↑[pv 0,(zbW (v:=.ref A.k_Endless) rfl T.k_Endless rfl)]),(zam ↑19 rfl T.isinstance PyProof.Rows.boot_isinstance ↑[pv 0,(zbW (v:=.ref A.k_TooGreat) rfl T.k_TooGreat rfl)]),(zam ↑19 rfl T.isinstance PyProof.Rows.boot_isinstance ↑[pv 0,(zbW (v:=.ref A.k_BadRest) rfl T.k_BadRest rfl)])]))) (zac (zaq (i:=1) zcW.nd rfl ⇑0 (zaz zdD (pv 1) (zbj ↑[(zam ↑19 rfl T.isinstance PyProof.Rows.boot_isinstance ↑[pv 0,(zbW (v:=.ref A.k_BadScale) rfl T.k_BadScale rfl)]),(zam ↑19 rfl T.isinstance PyProof.Rows.boot_isinstance ↑[pv 0,(zbW (v:=.ref A.k_OtherWares) rfl T.k_OtherWares rfl)]),(zam ↑19 rfl T.isinstance PyProof.Rows.boot_isinstance ↑[pv 0,(zbW (v:=.ref A.k_BadBaskets) rfl T.k_BadBaskets rfl)])]))) (zac (zaq (i:=1) zcW.nd rfl ⇑0 (zaz zdD (pv 1) (zbj ↑[(zam ↑19 rfl T.isinstance PyProof.Rows.boot_isinstance ↑[pv 0,(zbW (v:=.ref A.k_NotKept) rfl T.k_NotKept rfl)]),(zam ↑19 rfl T.isinstance PyProof.Rows.boot_isinstance ↑[pv 0,(zbW (v:=.ref A.k_OtherBook) rfl T.k_OtherBook rfl)]),(zam ↑19 rfl T.isinstance PyProof.Rows.boot_isinstance ↑[pv 0,(zbW (v:=.ref A.k_NoLine) rfl T.k_NoLine rfl)])]))) (zac (zaq (i:=1) zcW.nd rfl ⇑0 (zaz zdD (pv 1) (zbj ↑[(zam ↑19 rfl T.isinstance PyProof.Rows.boot_isinstance ↑[pv 0,(zbW (v:=.ref A.k_BadNames) rfl T.k_BadNames rfl)]),(zam ↑19 rfl T.isinstance PyProof.Rows.boot_isinstance ↑[pv 0,(zbW (v:=.ref A.k_NoBook) rfl T.k_NoBook rfl)]),(zam ↑19 rfl T.isinstance PyProof.Rows.boot_isinstance ↑[pv 0,(zbW (v:=.ref A.k_NoName) rfl T.k_NoName rfl)])]))) (zac (zaR (zaz zdD (pv 1) (zbj ↑[(zam ↑19 rfl T.isinstance PyProof.Rows.boot_isinstance ↑[pv 0,(zbW (v:=.ref A.k_NoSwap) rfl T.k_NoSwap rfl)])]))) zaf))))))),.inl ?_⟩
 show L2.Run _ ([⇑[dOpt ↑96 P0],.no]:L2.Ctx) _ (↑173 (zcR P0))
 unfold zcR
 exact (zao (m:=true) (x:=[(zdI zei P0),(zdI zel P0),(zdI zeH P0)]) ↑191 ↑173 (EvO.ev (zb1 (zab (zcv (xc:=A.xc) (x:=P0) (f:=zei) ↑2 T.i0_NotAlike T.hx_NotAlike) (zab (zcv (xc:=A.xc) (x:=P0) (f:=zel) ↑2 T.i0_BadWares T.hx_BadWares) (zab (zcv (xc:=A.xc) (x:=P0) (f:=zeH) ↑2 T.i0_TooMany T.hx_TooMany) zag))) ↑128)) (λv175 hv175=>(zao (m:=true) (x:=(v175++[(zdI zd2 P0),(zdI zcZ P0),(zdI zdO P0)])) ↑191 ↑173 (EvO.ev (EvO.anyB (m:=true) (zcu (f:=dB) (xs:=v175) (ys:=[(zdI zd2 P0),(zdI zcZ P0),(zdI zdO P0)]) ⇑3 (EvO.ev (zb1 (zab (zcv (xc:=A.xc) (x:=P0) (f:=zd2) ↑2 T.i0_BadSwap T.hx_BadSwap) (zab (zcv (xc:=A.xc) (x:=P0) (f:=zcZ) ↑2 T.i0_BadBasket T.hx_BadBasket) (zab (zcv (xc:=A.xc) (x:=P0) (f:=zdO) ↑2 T.i0_BadRoad T.hx_BadRoad) zag))) ↑128)) ↑123))) (λv176 hv176=>(zao (m:=true) (x:=(v176++[(zdI zdS P0),(zdI zdv P0),(zdI zd7 P0)])) ↑191 ↑173 (EvO.ev (EvO.anyB (m:=true) (zcu (f:=dB) (xs:=v176) (ys:=[(zdI zdS P0),(zdI zdv P0),(zdI zd7 P0)]) ⇑3 (EvO.ev (zb1 (zab (zcv (xc:=A.xc) (x:=P0) (f:=zdS) ↑2 T.i0_Endless T.hx_Endless) (zab (zcv (xc:=A.xc) (x:=P0) (f:=zdv) ↑2 T.i0_TooGreat T.hx_TooGreat) (zab (zcv (xc:=A.xc) (x:=P0) (f:=zd7) ↑2 T.i0_BadRest T.hx_BadRest) zag))) ↑128)) ↑123))) (λv177 hv177=>(zao (m:=true) (x:=(v177++[(zdI zds P0),(zdI zcB P0),(zdI zcC P0)])) ↑191 ↑173 (EvO.ev (EvO.anyB (m:=true) (zcu (f:=dB) (xs:=v177) (ys:=[(zdI zds P0),(zdI zcB P0),(zdI zcC P0)]) ⇑3 (EvO.ev (zb1 (zab (zcv (xc:=A.xc) (x:=P0) (f:=zds) ↑2 T.i0_BadScale T.hx_BadScale) (zab (zcv (xc:=A.xc) (x:=P0) (f:=zcB) ↑2 T.i0_OtherWares T.hx_OtherWares) (zab (zcv (xc:=A.xc) (x:=P0) (f:=zcC) ↑2 T.i0_BadBaskets T.hx_BadBaskets) zag))) ↑128)) ↑123))) (λv178 hv178=>(zao (m:=true) (x:=(v178++[(zdI zdN P0),(zdI zc2 P0),(zdI zeF P0)])) ↑191 ↑173 (EvO.ev (EvO.anyB (m:=true) (zcu (f:=dB) (xs:=v178) (ys:=[(zdI zdN P0),(zdI zc2 P0),(zdI zeF P0)]) ⇑3 (EvO.ev (zb1 (zab (zcv (xc:=A.xc) (x:=P0) (f:=zdN) ↑2 T.i0_NotKept T.hx_NotKept) (zab (zcv (xc:=A.xc) (x:=P0) (f:=zc2) ↑2 T.i0_OtherBook T.hx_OtherBook) (zab (zcv (xc:=A.xc) (x:=P0) (f:=zeF) ↑2 T.i0_NoLine T.hx_NoLine) zag))) ↑128)) ↑123))) (λv179 hv179=>(zao (m:=true) (x:=(v179++[(zdI zdx P0),(zdI zey P0),(zdI zex P0)])) ↑191 ↑173 (EvO.ev (EvO.anyB (m:=true) (zcu (f:=dB) (xs:=v179) (ys:=[(zdI zdx P0),(zdI zey P0),(zdI zex P0)]) ⇑3 (EvO.ev (zb1 (zab (zcv (xc:=A.xc) (x:=P0) (f:=zdx) ↑2 T.i0_BadNames T.hx_BadNames) (zab (zcv (xc:=A.xc) (x:=P0) (f:=zey) ↑2 T.i0_NoBook T.hx_NoBook) (zab (zcv (xc:=A.xc) (x:=P0) (f:=zex) ↑2 T.i0_NoName T.hx_NoName) zag))) ↑128)) ↑123))) (λv180 hv180=>(ze7 (zhJ (EvO.anyB (m:=true) (zcu (f:=dB) (xs:=v180) (ys:=[(zdI zfc P0)]) ⇑3 (EvO.ev (zb1 (zab (zcv (xc:=A.xc) (x:=P0) (f:=zfc) ↑2 T.i0_NoSwap T.hx_NoSwap) zag) ↑142)) ↑123))))))))))))))))
def zbO (P0:(Option Xn)) (P1:Str):Bool :=
 (Let [("NotAlike":Str),("BadWares":Str),("TooMany":Str),("BadSwap":Str),("BadBasket":Str),("BadRoad":Str),("Endless":Str),("TooGreat":Str)] (λ(v181:(List Str))=>(Let (v181++[("BadRest" :Str),("BadScale" :Str),("OtherWares" :Str),("BadBaskets" :Str),("NotKept" :Str),↑84,("NoLine" :Str)]) (λ(v182:(List Str))=>(Let (v182++[("BadNames" :Str),("NoBook" :Str),("NoName" :Str),("NoSwap" :Str)]) (λ(v183:(List Str))=>((zdI zdh P0)&&(decide ((zcR P0)=(List.map (λ(x184:Str)=>(decide (x184=P1))) v183))))))))))
def zeS (P0:(Option Xn)) (P1:Str):Prop:=True
def zgy (K:W.Frag) (A:Adr):Sp:=Spv (ι:=(Option Xn)×Str) (λx=>[dOpt ↑96 x.1,dS x.2]) (λx=>zeS x.1 x.2) (λx=>↥[dB (zbO x.1 x.2)])
theorem zfn:FnScope ["_law_caught","_law_name","_law_names"] ["_law_caught","_law_name"] (zad zd6):=⇑4
theorem zkD (F:Fun K "_law_only" "_law_only" zd6 f fd) (T:Txt K mg A) (ybH:Callee P w K mg base ⇑1 1 "_law_flags" ["_law_caught"] (zfT K A)):FnOk P w K mg base ⇑1 2 f fd ["_law_caught","_law_name"] (zgy K A):=by
 refine F.okV zfn ↥4 ⇑8
 obtain ⟨P0,P1⟩:=x
 have hu:=hr.units
 replace hp:zeS P0 P1:=hp
 unfold zeS at hp
 refine ⟨_,(zac (zaq (i:=2) zfn.nd rfl ⇑0 (zbj (zbF zdg (zbF zdg ↑[zdg,zdg,zdg,zdg,zdg,zdg])))) (zac (zaq (i:=2) zfn.nd rfl ⇑0 (zaz zdD (pv 2) (zbj (zbF zdg ↑[zdg,zdg,zdg,zdg,zdg,zdg])))) (zac (zaq (i:=2) zfn.nd rfl ⇑0 (zaz zdD (pv 2) (zbj ↑[zdg,zdg,zdg,zdg]))) (zac (zaR (zlB (zam ↑19 rfl T.isinstance PyProof.Rows.boot_isinstance ↑[pv 0,(zjv rfl T.ValueError (v:=.ty "ValueError") (u:=.type "ValueError") ↑4 rfl)]) (zka (zfC (zi7 (K:=K) rfl hu) (zaT ybH ↥1 rfl zaL ↑[pv 0]) (zbG rfl (.of (osc:=(zad zd6)) (N:=["_law_caught","_law_name","_law_names"]) (own:=["_law_other"]) (fvn:=["_law_name"]) (fv:=[1]) rfl rfl ↑4) ↑147 (λ_ _ _ _ _=>⟨(zan (i:=0) (show (["_law_other","_law_name"]:List Str).Nodup by decide +kernel) rfl ⇑0 ↥2),za5,(zfC zgr (pv 0) (pv 1) (zaP _))⟩)) (zaP _))))) zaf)))),.inl ?_⟩
 show L2.Run _ ([⇑[dOpt ↑96 P0],⇑[dS P1],.no]:L2.Ctx) _ (⇑9 (zbO P0 P1))
 unfold zbO
 exact (zao (m:=true) (x:=[("NotAlike":Str),("BadWares":Str),("TooMany":Str),("BadSwap":Str),("BadBasket":Str),("BadRoad":Str),("Endless":Str),("TooGreat":Str)]) (λ(xs:(List Str))=>dL (List.map dS xs)) ⇑9 (EvO.ev (zb1 (zab zaD (zab zaD (zab zaD (zab zaD (zab zaD (zab zaD (zab zaD ↑28))))))) (by show 8≤sizeLine;decide))) (λv181 hv181=>(zao (m:=true) (x:=(v181++[("BadRest" :Str),("BadScale" :Str),("OtherWares" :Str),("BadBaskets" :Str),("NotKept" :Str),↑84,("NoLine" :Str)])) (λ(xs:(List Str))=>dL (List.map dS xs)) ⇑9 (EvO.ev (EvO.anyS (m:=true) (zcu (f:=dS) (xs:=v181) (ys:=[("BadRest":Str),("BadScale":Str),("OtherWares":Str),("BadBaskets":Str),("NotKept":Str),↑84,("NoLine":Str)]) ↑29 (EvO.ev (zb1 (zab zaD (zab zaD (zab zaD (zab zaD (zab zaD (zab zaD ↑28)))))) (by show 7≤sizeLine;decide))) ↑123))) (λv182 hv182=>(zao (m:=true) (x:=(v182++[("BadNames" :Str),("NoBook" :Str),("NoName" :Str),("NoSwap" :Str)])) (λ(xs:(List Str))=>dL (List.map dS xs)) ⇑9 (EvO.ev (EvO.anyS (m:=true) (zcu (f:=dS) (xs:=v182) (ys:=[("BadNames":Str),("NoBook":Str),("NoName":Str),("NoSwap":Str)]) ↑29 (EvO.ev (zb1 (zab zaD (zab zaD (zab zaD ↑28))) (by show 4≤sizeLine;decide))) ↑123))) (λv183 hv183=>(zak (zaH (zk9 (b:=(zdI zdh P0)) (zoz (xc:=A.xc) (x:=P0) (f:=zdh) ↑2 T.i0_ValueError T.hx_ValueError) (λhb=>(zgJ (n:=0) (neg:=false) (xs:=(zcR P0)) (ys:=(List.map (λ(x184:Str)=>(decide (x184=P1))) v183)) EqD.bool (Ev.weak (K:=K) (EvO.ev (EvO.anyB (m:=true) (zcH (x:=P0) (zab ↑2 zag) rfl (by show zep P0;exact trivial) rfl)))) (Ev.weak (K:=K) (EvO.ev (EvO.conv (zbA (g:=(λ(x184:Str)=>dB (decide (x184=P1)))) (zbx (m:=true) dS (xs:=v183) ↑90) ↑123 ↑5 (λi185 x184 hx186=>have v186:=List.mem_of_getElem? hx186;(zts (x:=x184) (y:=P1) ↑146 ↥6))) ↑8))))))))))))))
def zcl (P0:Ji) (P1:Int):Int :=
 (bif (decide (P1<↑34)) then ((ixD P0 P1)%↑41) else (0:Int))
def zcP (P0:Ji) (P1:Int):Prop:=0≤P1
def zfm (K:W.Frag) (A:Adr):Sp:=Spv (ι:=Ji×Int) (λx=>[dQ K (List.map dI x.1),dI x.2]) (λx=>zcP x.1 x.2) (λx=>↥[dI (zcl x.1 x.2)])
theorem zkz:FnScope ["_law_script","_law_k"] ["_law_script","_law_k"] (zad zeA):=⇑4
theorem zk1 (F:Fun K "_law_cell" "_law_cell" zeA f fd) (T:Txt K mg A) :FnOk P w K mg base ⇑1 1 f fd ["_law_script","_law_k"] (zfm K A):=by
 refine F.okV zkz ↥4 ⇑8
 obtain ⟨P0,P1⟩:=x
 have hu:=hr.units
 replace hp:zcP P0 P1:=hp
 unfold zcP at hp
 refine ⟨_,(zac (zcp (zaJ zjK (pv 1) ↑187 (zaP _)) (zac (zaR (zaz zdB (zaS ↑7 (pv 0) (pv 1) ↥3) zai)) zaf) zaf) (zac (zaR zai) zaf)),.inl ?_⟩
 show L2.Run _ ([⇑[dQ K ↥5],⇑[dI P1]]:L2.Ctx) _ (↑26 (zcl P0 P1))
 unfold zcl
 exact (za8 (b:=(decide (P1<↑34))) ↑26 (zay (zaX (x:=P1) (y:=↑34) ↥6 (zaZ (f:=dI) (xs:=P0) ↑2))) (λh187=>(zaC (zak (zaH (zaN (x:=(ixD P0 P1)) (y:=↑41) (Ev.any (m:=false) (zbd (f:=dI) (xs:=P0) ↑2 ↥6 (by unfold InB;constructor<;>((try simp only [decide_eq_true_eq,decide_eq_false_iff_not,Bool.not_eq_true',Bool.not_eq_false',Bool.and_eq_true,Bool.or_eq_false_iff,Bool.or_eq_true,Bool.and_eq_false_iff,Bool.cond_eq_ite] at *)<;>omega)))) zaD ↑1))))) (λh187=>(zaw (zak (zaH zaD)))))
theorem zqn {s:Ji} {i:Nat} {y:Int} (h:s.length≤i):(s++[y]).length≤i+1:=by simp;omega
theorem zsT {s:Ji} {i n:Nat} {x lo:Int} (h:s.length≤i) (hx:i<n∧x=lo+(i:Int)) (hn:n≤400):s.length<PySem.sizeLine:=Nat.lt_of_le_of_lt (show _≤10000 by omega) ↑1
def zba (P0:Ji) (P1:Int):Int :=
 (bif (decide (P1<↑34)) then (ixD P0 P1) else (0:Int))
def zce (P0:Ji) (P1:Int):Prop:=0≤P1
def zhj (K:W.Frag) (A:Adr):Sp:=Spv (ι:=Ji×Int) (λx=>[dQ K (List.map dI x.1),dI x.2]) (λx=>zce x.1 x.2) (λx=>↥[dI (zba x.1 x.2)])
theorem zlV:FnScope ["_law_script","_law_k"] ["_law_script","_law_k"] (zad zfb):=⇑4
theorem zmd (F:Fun K "_law_raw" "_law_raw" zfb f fd) (T:Txt K mg A) :FnOk P w K mg base ⇑1 1 f fd ["_law_script","_law_k"] (zhj K A):=by
 refine F.okV zlV ↥4 ⇑8
 obtain ⟨P0,P1⟩:=x
 have hu:=hr.units
 replace hp:zce P0 P1:=hp
 unfold zce at hp
 refine ⟨_,(zac (zcp (zaJ zjK (pv 1) ↑187 (zaP _)) (zac (zaR (zaS ↑7 (pv 0) (pv 1) ↥3)) zaf) zaf) (zac (zaR zai) zaf)),.inl ?_⟩
 show L2.Run _ ([⇑[dQ K ↥5],⇑[dI P1]]:L2.Ctx) _ (↑26 (zba P0 P1))
 unfold zba
 exact (za8 (b:=(decide (P1<↑34))) ↑26 (zay (zaX (x:=P1) (y:=↑34) ↥6 (zaZ (f:=dI) (xs:=P0) ↑2))) (λh188=>(zaC (zak (zaH (Ev.any (m:=false) (zbd (f:=dI) (xs:=P0) ↑2 ↥6 (by unfold InB;simp only [decide_eq_true_eq] at *;omega))))))) (λh188=>(zaw (zak (zaH zaD)))))
def zae (P0:Int) (P1:Int) (P2:Int):Int :=
 (Let (P0/↑41) (λ(v189:Int)=>(bif (decide ((v189%(2:Int))=(1:Int))) then (Let (v189/(2:Int)) (λ(v191:Int)=>(Let (List.foldl (λ(s192:Int) (x193:Int)=>(Let (s192/(60:Int)) (λ(v197:Int)=>v197))) v191 (zbf 0 P1.toNat)) (λ(r198:Int)=>((r198%(60:Int))%P2))))) else (Let (((((P0%↑41)*(48271:Int))+(((69621:Int)*P1)*P1))+((7:Int)*P1))%(2147483629:Int)) (λ(v199:Int)=>(Let ((v199*v199)%(2147483587:Int)) (λ(v200:Int)=>(((v200*(v200+(48271:Int)))%(2147483563:Int))%P2))))))))
def za2 (P0:Int) (P1:Int) (P2:Int):Prop:=0≤P1∧P1≤1000∧0<P2
def zcU (K:W.Frag) (A:Adr):Sp:=Spv (ι:=Int×Int×Int) (λx=>[dI x.1,dI x.2.1,dI x.2.2]) (λx=>za2 x.1 x.2.1 x.2.2) (λx=>↥[dI (zae x.1 x.2.1 x.2.2)])
theorem zcO:FnScope ["_law_cell_here","_law_k","_law_many","_law_free","_law_step","_law_number"] ↑141 (zad zdT):=⇑4
theorem zj6 (F:Fun K "_law_thing" "_law_thing" zdT f fd) (T:Txt K mg A) :FnOk P w K mg base ⇑1 1 f fd ↑141 (zcU K A):=by
 refine F.okV zcO ↥4 ⇑8
 obtain ⟨P0,P1,P2⟩:=x
 have hu:=hr.units
 replace hp:za2 P0 P1 P2:=hp
 unfold za2 at hp
 refine ⟨_,(zac (zaq (i:=3) zcO.nd rfl ⇑0 (zaz zcw (pv 0) zai)) (zac (zcp (zaJ zgr (zaz zdB (pv 3) zai) zai (zaP _)) (zac (zaq (i:=3) zcO.nd rfl ⇑0 (zaz zcw (pv 3) zai)) (zac (zcy PassesOwn.never rfl (zbR rfl T.range ↑[pv 1]) (zan (i:=4) zcO.nd rfl ⇑0 ⇑0) (zac (zaq (i:=3) zcO.nd rfl ⇑0 (zaz zcw (pv 3) zai)) zaf)) (zac (zaR (zaz zdB (zaz zdB (pv 3) zai) (pv 2))) zaf))) zaf) (zac (zaq (i:=5) zcO.nd rfl ⇑0 (zaz zdB (zaz zcG (zaz zcG (zaz zbI (zaz zdB (pv 0) zai) zai) (zaz zbI (zaz zbI zai (pv 1)) (pv 1))) (zaz zbI zai (pv 1))) zai)) (zac (zaq (i:=5) zcO.nd rfl ⇑0 (zaz zdB (zaz zbI (pv 5) (pv 5)) zai)) (zac (zaR (zaz zdB (zaz zdB (zaz zbI (pv 5) (zaz zcG (pv 5) zai)) zai) (pv 2))) zaf))))),.inl ?_⟩
 show L2.Run _ ([⇑[dI P0],⇑[dI P1],⇑[dI P2],.no,.no,.no]:L2.Ctx) _ (↑26 (zae P0 P1 P2))
 unfold zae
 exact (zao (m:=true) (x:=(P0/↑41)) dI ↑26 (zaN (x:=P0) (y:=↑41) ↑9 zaD ↥(↑5)) (λv189 hv189=>(za8 (b:=(decide ((v189%(2:Int))=(1:Int)))) ↑26 (zay (zeN (x:=(v189%(2:Int))) (y:=(1:Int)) (zaN (x:=v189) (y:=(2:Int)) ↑53 zaD ↑1) zaD)) (λh190=>(zaC (zao (m:=true) (x:=(v189/(2:Int))) dI ↑26 (zaN (x:=v189) (y:=(2:Int)) ↑53 zaD ↥(↑5)) (λv191 hv191=>(zaC (zbL (s0:=v191) (λ(s192:Int)=>([⇑[dI P0],⇑[dI P1],⇑[dI P2],↥[dI s192],.no,.no]:L2.Ctx)) ↑26 (λ(s192:Int) (x193:Int)=>(Let (s192/(60:Int)) (λ(v197:Int)=>v197))) (λ_ _=>True) (zdq (m:=true) (n:=P1) ↥6 ↑174) (.eq (.eq ↑39)) trivial (λi194 x193 s192 hx195 hI196=>have v195:=zbe hx195;⟨trivial,(zao (m:=true) (x:=(s192/(60:Int))) dI (λz=>Oc.nx ((λ(s192:Int)=>([⇑[dI P0],⇑[dI P1],⇑[dI P2],↥[dI s192],.no,.no]:L2.Ctx)) z)) (zaN (x:=s192) (y:=(60:Int)) ↑53 zaD ↥(↑5)) (λv197 hv197=>(zar (.eq (.eq (.eq (.eq (.no (.eq .nil)))))))))⟩) (λr198 hr198 hI=>(zaC (zak (zaH (zaN (x:=(r198%(60:Int))) (y:=P2) (zaN (x:=r198) (y:=(60:Int)) ↑53 zaD ↑1) ↑43 ↥(hp.2.2)))))))))))) (λh190=>(zaw (zao (m:=true) (x:=(((((P0%↑41)*(48271:Int))+(((69621:Int)*P1)*P1))+((7:Int)*P1))%(2147483629:Int))) dI ↑26 (zaN (x:=((((P0%↑41)*(48271:Int))+(((69621:Int)*P1)*P1))+((7:Int)*P1))) (y:=(2147483629:Int)) (zaX (x:=(((P0%↑41)*(48271:Int))+(((69621:Int)*P1)*P1))) (y:=((7:Int)*P1)) (zaX (x:=((P0%↑41)*(48271:Int))) (y:=(((69621:Int)*P1)*P1)) (zaN (x:=(P0%↑41)) (y:=(48271:Int)) (zaN (x:=P0) (y:=↑41) ↑9 zaD ↑1) zaD ↥(.inl ↑55)) (zaN (x:=((69621:Int)*P1)) (y:=P1) (zaN (x:=(69621:Int)) (y:=P1) zaD ↥6 ↥(.inl ↑55)) ↥6 ↥(.inl ↑55))) (zaN (x:=(7:Int)) (y:=P1) zaD ↥6 ↥(.inl ↑55))) zaD ↑1) (λv199 hv199=>have hNnumber199:=hv199;(zao (m:=true) (x:=((v199*v199)%(2147483587:Int))) dI ↑26 (zaN (x:=(v199*v199)) (y:=(2147483587:Int)) (zaN (x:=v199) (y:=v199) ↑12 ↑12 ↥(.inl ↑55)) zaD ↑1) (λv200 hv200=>have hNnumber200:=hv200;(zak (zaH (zaN (x:=((v200*(v200+(48271:Int)))%(2147483563:Int))) (y:=P2) (zaN (x:=(v200*(v200+(48271:Int)))) (y:=(2147483563:Int)) (zaN (x:=v200) (y:=(v200+(48271:Int))) ↑12 (zaX (x:=v200) (y:=(48271:Int)) ↑12 zaD) ↥(.inl ↑55)) zaD ↑1) ↑43 ↥(hp.2.2)))))))))))))
theorem zev {c k m:Int} (hm:0<m):0≤zae c k m∧zae c k m<m:=by
 unfold zae Let
 dsimp only
 have key:∀ b:Bool,∀ x y:Int,0≤(bif b then x%m else y%m)∧(bif b then x%m else y%m)<m:=λb x y=>by
  cases b
  ·exact ⟨Int.emod_nonneg y ↑0,Int.emod_lt_of_pos y hm⟩
  ·exact ⟨Int.emod_nonneg x ↑0,Int.emod_lt_of_pos x hm⟩
 exact key _ _ _
def Sq (w:Nat) (n:Nat) (rows:Jq):Prop:=rows.length=n∧∀ r∈rows,r.length=w
def FrI (w:Nat) (s:Jq×Jq):Prop:=Sq w w s.1∧Sq w w s.2
theorem zob {w n:Nat} {rows:Jq} {i:Int} {y:Ji} (h:Sq w n rows) (hy:y.length=w):Sq w n (zdn rows i y):=⟨by rw [zgi];exact h.1,λr hr=>by
 rcases Lat.zhK hr with rfl | hr
 ·exact hy
 ·exact h.2 r hr⟩
theorem znZ {w n:Nat} {b:Bool} {rows ys:Jq} (h:Sq w n rows) (k:Sq w n ys):Sq w n (bif b then ys else rows):=by cases b<;>assumption
theorem zhV {w n:Nat} {rows:Jq} {x:Int} (h:Sq w n rows) (h0:0≤x) (h1:x<(n:Int)):InB rows.length x:=by rw [h.1];unfold InB;omega
theorem zne {w n:Nat} {rows:Jq} {x:Int} (h:Sq w n rows) (h0:0≤x) (h1:x<(n:Int)):(ixD rows x).length=w:=h.2 _ (zb3 (zhV h h0 h1))
theorem zsw {α:Type} {w n:Nat} {xs:List α} {f:α->Ji} (h:xs.length=n) (k:∀ x,(f x).length=w):Sq w n (List.map f xs):=⟨by rw [List.length_map];exact h,λr hr=>by obtain ⟨x,_,rfl⟩:=List.mem_map.mp hr;exact k x⟩
theorem zjy {w n m:Nat} {rows ys:Jq} {x y:Int} {f:Int×Int->Int} (h:Sq w n rows) (k:Sq w m ys) (h0:0≤x∧x<(n:Int)) (h1:0≤y∧y<(m:Int)):(List.map f (List.zip (ixD rows x) (ixD ys y))).length=w:=by
 rw [List.length_map,List.length_zip,zne h h0.1 h0.2,zne k h1.1 h1.2];omega
theorem zod {w n m:Nat} {rows ys:Jq} {x y:Int} (h:Sq w n rows) (h0:0≤x∧x<(n:Int)) (hw:w≤1000):(List.zip (ixD rows x) (ixD ys y)).length≤PySem.sizeLine:=zal (by rw [List.length_zip,zne h h0.1 h0.2];omega)
theorem zqH {W:Nat} {s:Jq×Jq} {x y:Int} (h:FrI W s) (hx:0≤x∧x<(W:Int)) (hw:W≤8):(List.zip (ixD s.1 x) (ixD s.1 y)).length≤PySem.sizeLine:=zod (ys:=s.1) (m:=0) h.1 hx ↑0
theorem zqz {W:Nat} {s:Jq×Jq} {x y:Int} (h:FrI W s) (hx:0≤x∧x<(W:Int)) (hw:W≤8):(List.zip (ixD s.2 x) (ixD s.2 y)).length≤PySem.sizeLine:=zod (ys:=s.2) (m:=0) h.2 hx ↑0
theorem zo1 {w:Int} {W:Nat} {a b:Jq} (hw:w=(W:Int)) (ha:a=List.map ↑163 (zbf 0 w.toNat)) (hb:b=List.map (λ(x:Ji)=>x) a):FrI W (a,b):=by
 have h1:Sq W W a:=by
  subst ha
  exact zsw (by rw [zaO];omega) λx=>by rw [List.length_map,zaO];omega
 exact ⟨h1,by subst hb;rw [List.map_id'];exact h1⟩
theorem zro {W:Nat} {s:Jq×Jq} {b:Bool} {x y q:Int} (h:FrI W s) (hx:0≤x∧x<(W:Int)) (hy:0≤y∧y<(W:Int)):FrI W (bif b then (zdn s.1 y (List.map (λ(z:Int×Int)=>(z.1+(q*z.2))) (List.zip (ixD s.1 y) (ixD s.1 x)))) else s.1,bif b then (zdn s.2 x (List.map (λ(z:Int×Int)=>(z.1-(q*z.2))) (List.zip (ixD s.2 x) (ixD s.2 y)))) else s.2) :=
 ⟨znZ h.1 (zob h.1 (zjy h.1 h.1 hy hx)),znZ h.2 (zob h.2 (zjy h.2 h.2 hx hy))⟩
theorem zeV {c k w x:Int} {W:Nat} (hw:w=(W:Int)) (h1:1≤w) (e:x=zae c k w):0≤x∧x<(W:Int):=by
 subst e;have:=zev (c:=c) (k:=k) (m:=w) ↑0;omega
theorem zln {c k x:Int} (e:x=zae c k (5:Int)-(2:Int)):-2≤x∧x≤2:=by
 subst e;have:=zev (c:=c) (k:=k) (m:=5) ↑1;omega
theorem zqT {c k x:Int} (e:x=zae c k (7:Int)):InB 7 x:=by
 subst e;have:=zev (c:=c) (k:=k) (m:=7) ↑1;unfold InB;omega
def zbZ (P0:Int) (P1:Ji):(Jq×Jq) :=
 (Let (List.map (λ(x201:Int)=>(List.map (λ(x204:Int)=>(if (decide (x204=x201)) then 1 else 0)) (zbf 0 P0.toNat))) (zbf 0 P0.toNat)) (λ(v207:Jq)=>(Let (List.map (λ(x208:Ji)=>x208) v207) (λ(v211:Jq)=>(Let (List.foldl (λ(s212:Jq×Jq) (x213:Int)=>(Let (zae x213 (1:Int) P0) (λ(v217:Int)=>(Let (zae x213 (2:Int) P0) (λ(v218:Int)=>(Let ((zae x213 (3:Int) (5:Int))-(2:Int)) (λ(v219:Int)=>(Let (bif (!decide (v217=v218)) then (zdn s212.1 v218 ↑212) else s212.1) (λ(v227:Jq)=>(Let ↑247 (λ(v228:Jq)=>(v227,v228)))))))))))) (v207,v211) P1) (λ(r229:Jq×Jq)=>(r229.1,r229.2)))))))
def zeu (P0:Int) (P1:Ji):Prop:=1≤P0∧P0≤8
def zf0 (K:W.Frag) (A:Adr):Sp:=Spv (ι:=Int×Ji) (λx=>[dI x.1,dQ K ↑161]) (λx=>zeu x.1 x.2) (λx=>↥[dT [dL (List.map lI ((zbZ x.1 x.2).1)),dL (List.map lI ((zbZ x.1 x.2).2))]])
theorem zcN:FnScope ↑219 ["_law_wide","_law_cells"] (zad zcb):=⇑4
theorem zjA (F:Fun K "_law_frame" "_law_frame" zcb f fd) (T:Txt K mg A) (yab:Callee P w K mg base ⇑1 1 "_law_thing" ↑141 (zcU K A)):FnOk P w K mg base ⇑1 2 f fd ["_law_wide","_law_cells"] (zf0 K A):=by
 refine F.okV zcN ↥4 ⇑8
 obtain ⟨P0,P1⟩:=x
 have hu:=hr.units
 replace hp:zeu P0 P1:=hp
 unfold zeu at hp
 obtain ⟨W,hW⟩:∃ W:Nat,P0=(W:Int):=⟨P0.toNat,by omega⟩
 refine ⟨_,(zac (zeI (i:=2) rfl zcN.nd rfl rfl (.of (osc:=(zad zcb)) (N:=↑219) (own:=["_law_k"]) (fvn:=["_law_wide"]) (fv:=[0]) rfl rfl ↑4) (zbR rfl T.range ↑[pv 0]) (λ_ _ _ _ _=>⟨(zan (i:=0) (show (["_law_k","_law_wide"]:List Str).Nodup by decide +kernel) rfl ↥2 ⇑0),za5,(zbG rfl (.of (osc:=({ kind:=.function,names:=[(".0",.local),("_law_k",.cell),("range",.globalImplicit),("_law_wide",.cell)],isGenerator:=false,isCoroutine:=false }:Scope)) (N:=["_law_k","_law_wide"]) (own:=["_law_j"]) (fvn:=["_law_k"]) (fv:=[0]) rfl rfl ↑4) (zbR rfl T.range ↑[pv 1]) (λ_ _ _ _ _=>⟨(zan (i:=0) (show (["_law_j","_law_k"]:List Str).Nodup by decide +kernel) rfl ⇑0 ↥2),za5,(zcA zjW rfl T.int ↑4 ↑[zfC zgr (pv 0) (pv 1) (zaP _)])⟩))⟩)) (zac (zeI (i:=3) rfl zcN.nd rfl rfl (.of (osc:=(zad zcb)) (N:=↑219) (own:=["_law_row"]) (fvn:=[]) (fv:=[]) rfl rfl ↑4) ↑147 (λ_ _ _ _ _=>⟨(zan (i:=0) (show (["_law_row"]:List Str).Nodup by decide +kernel) rfl ⇑0 ↥2),za5,↑134⟩)) (zac (zcy PassesOwn.never rfl (zaV (K:=K) rfl (pv 1)) (zan (i:=4) zcN.nd rfl ⇑0 ⇑0) (zac (zaq (i:=5) zcN.nd rfl ⇑0 (zaT yab ↥1 rfl zaL ↑[pv 4,zai,pv 0])) (zac (zaq (i:=6) zcN.nd rfl ⇑0 (zaT yab ↥1 rfl zaL ↑[pv 4,zai,pv 0])) (zac (zaq (i:=7) zcN.nd rfl ↥2 (zaz zeQ (zaT yab ↥1 rfl zaL ↑[pv 4,zai,zai]) zai)) (zac (zcp (zaJ zf4 (pv 5) (pv 6) (zaP _)) (zac (zgY (zbG rfl (.of (osc:=(zad zcb)) (N:=↑219) (own:=["_law_a","_law_b"]) (fvn:=["_law_many"]) (fv:=[7]) rfl rfl ↑4) (zc6 (K:=K) rfl rfl T.zip ↑[(zaS ↑7 (pv 2) (pv 6) ↥3),(zaS ↑7 (pv 2) (pv 5) ↥3)]) ↑237) (zkb (pv 2) (pv 6) zgP)) (zac (zgY (zbG rfl (.of (osc:=(zad zcb)) (N:=↑219) (own:=["_law_a","_law_b"]) (fvn:=["_law_many"]) (fv:=[7]) rfl rfl ↑4) (zc6 (K:=K) rfl rfl T.zip ↑[(zaS ↑7 (pv 3) (pv 5) ↥3),(zaS ↑7 (pv 3) (pv 6) ↥3)]) (λ_ _ _ _ _=>⟨(zbu (K:=K) (n:=2) rfl rfl (zaG (zan (i:=0) ↑235 rfl ⇑0 ↥2) (zaG (zan (i:=1) ↑235 rfl ⇑0 ↥2) zci))),za5,(zaz zeQ (pv 0) (zaz zbI (pv 2) (pv 1)))⟩)) (zkb (pv 3) (pv 5) zgP)) zaf)) zaf) zaf))))) (zac (zaR (zfJ ↑[pv 2,pv 3])) zaf)))),.inl ?_⟩
 show L2.Run _ ([⇑[dI P0],⇑[dQ K ⇑6],.no,.no,.no,.no,.no,.no]:L2.Ctx) _ (↑99 (zbZ P0 P1))
 unfold zbZ
 exact (zfE (m:=true) (x:=(List.map (λ(x201:Int)=>(List.map (λ(x204:Int)=>(if (decide (x204=x201)) then 1 else 0)) (zbf 0 P0.toNat))) (zbf 0 P0.toNat))) (λz=>List.map lI z) ↑99 (EvO.conv (zbA (g:=(λ(x201:Int)=>dL (List.map dI (List.map (λ(x204:Int)=>(if (decide (x204=x201)) then 1 else 0)) (zbf 0 P0.toNat))))) (zdq (m:=true) (n:=P0) ↑9 ↑174) ↥(zal (by rw [zaO];omega)) ↑5 (λi202 x201 hx203=>have v203:=zbe hx203;(EvO.ev (EvO.conv (zbA (g:=(λ(x204:Int)=>dI (if (decide (x204=x201)) then 1 else 0))) (zdq (m:=true) (n:=P0) ↥6 ↑174) ↥(zal (by rw [zaO];omega)) ↑5 (λi205 x204 hx206=>have v206:=zbe hx206;(zmp (b:=(decide (x204=x201))) (zab (zeN (x:=x204) (y:=x201) ↑146 ↑108) zag)))) ↑8)))) ↑8) (λv207 hv207=>have hA:=hv207;(zfE (m:=true) (x:=(List.map (λ(x208:Ji)=>x208) v207)) (λz=>List.map lI z) ↑99 (zpl.evo (zpl.borrowO (i:=2) rfl (zqe (EvO.conv (zbA (g:=(λ(x208:Ji)=>dL (List.map dI x208))) (zbx (m:=false) lI (xs:=v207) ↑90) ↥(zal (by rw [hA,List.length_map,zaO];omega)) ↑5 (λi209 x208 hx210=>have v210:=List.mem_of_getElem? hx210;↑182)) ↑8)))) (λv211 hv211=>have hF:=zo1 hW hA hv211;(zbL (s0:=(v207,v211)) ↑179 ↑99 (λ(s212:Jq×Jq) (x213:Int)=>(Let (zae x213 (1:Int) P0) (λ(v217:Int)=>(Let (zae x213 (2:Int) P0) (λ(v218:Int)=>(Let ((zae x213 (3:Int) (5:Int))-(2:Int)) (λ(v219:Int)=>(Let (bif (!decide (v217=v218)) then (zdn s212.1 v218 ↑212) else s212.1) (λ(v227:Jq)=>(Let ↑247 (λ(v228:Jq)=>(v227,v228)))))))))))) (λ(i:Nat) (s212:Jq×Jq)=>FrI W s212) (zbx (m:=false) dI (xs:=P1) ⇑3) (.eq ↑58) ↥(hF) (λi214 x213 s212 hx215 hI216=>have v215:=List.mem_of_getElem? hx215;⟨↥(zro ↥0 (zeV hW hp.1 rfl) (zeV hW hp.1 rfl)),(zao (m:=true) (x:=(zae x213 (1:Int) P0)) dI (λz=>Oc.nx (↑179 z)) (Ev.any (m:=true) (zau (x:=(x213,(1:Int),P0)) (zab (Ev.any (m:=false) ↑33) (zab zaD (zab ↑9 zag))) rfl (by show za2 x213 (1:Int) P0;refine ⟨by omega,by omega,by omega⟩) rfl)) (λv217 hv217=>have hO:=zeV hW hp.1 hv217;(zao (m:=true) (x:=(zae x213 (2:Int) P0)) dI (λz=>Oc.nx (↑179 z)) (Ev.any (m:=true) (zau (x:=(x213,(2:Int),P0)) (zab (Ev.any (m:=false) ↑33) (zab zaD (zab ↑9 zag))) rfl (by show za2 x213 (2:Int) P0;refine ⟨by omega,by omega,by omega⟩) rfl)) (λv218 hv218=>have hT:=zeV hW hp.1 hv218;(zao (m:=true) (x:=((zae x213 (3:Int) (5:Int))-(2:Int))) dI (λz=>Oc.nx (↑179 z)) (zaX (x:=(zae x213 (3:Int) (5:Int))) (y:=(2:Int)) (Ev.any (m:=true) (zau (x:=(x213,(3:Int),(5:Int))) (zab (Ev.any (m:=false) ↑33) (zab zaD ↑28)) rfl (by show za2 x213 (3:Int) (5:Int);refine ⟨by omega,by omega,by omega⟩) rfl)) zaD) (λv219 hv219=>have hM:=zln hv219;(zc3 (b:=(!decide (v217=v218))) (λbb=>([⇑[dI P0],⇑[dQ K ⇑6],.ow true (List.map lI (bif bb then (zdn s212.1 v218 ↑212) else s212.1)),.ow true (List.map lI (bif bb then (zdn s212.2 v217 ↑257) else s212.2)),⇑[dI x213],↥[dI v217],↥[dI v218],↥[dI v219]]:L2.Ctx)) (zay (zeg (x:=v217) (y:=v218) ↑12 ↑78)) (λh220=>(zgb (f:=lI) (xs:=s212.1) (x:=↑212) rfl (EvO.ev (EvO.conv (zbA (g:=(λ(x221:↑17)=>dI (x221.1+(v219*x221.2)))) (ze9 (m:=true) dI dI (xs:=(ixD s212.1 v218)) (ys:=(ixD s212.1 v217)) (Ev.weak (K:=K) (zb8 (f:=lI) (xs:=s212.1) rfl ↑78 ↥(zhV (↥0:FrI W _).1 hT.1 hT.2))) (Ev.weak (K:=K) (zb8 (f:=lI) (xs:=s212.1) rfl ↑12 ↥(zhV (↥0:FrI W _).1 hO.1 hO.2)))) ↥(zqH ↥0 hT ↑0) ↑5 (λi222 x221 hx223=>have v223:=zcE hx223;(zaX (x:=x221.1) (y:=(v219*x221.2)) ↑146 (zaN (x:=v219) (y:=x221.2) ↑61 ↑108 ↥(.inl ↑55))))) ↑8)) ↑78 ↥(zhV (↥0:FrI W _).1 hT.1 hT.2) (zgb (f:=lI) (xs:=s212.2) (x:=↑257) rfl (EvO.ev (EvO.conv (zbA (g:=(λ(x224:↑17)=>dI (x224.1-(v219*x224.2)))) (ze9 (m:=true) dI dI (xs:=(ixD s212.2 v217)) (ys:=(ixD s212.2 v218)) (Ev.weak (K:=K) (zb8 (f:=lI) (xs:=s212.2) rfl ↑12 ↥(zhV (↥0:FrI W _).2 hO.1 hO.2))) (Ev.weak (K:=K) (zb8 (f:=lI) (xs:=s212.2) rfl ↑78 ↥(zhV (↥0:FrI W _).2 hT.1 hT.2)))) ↥(zqz ↥0 hO ↑0) ↑5 (λi225 x224 hx226=>have v226:=zcE hx226;(zaX (x:=x224.1) (y:=(v219*x224.2)) ↑146 (zaN (x:=v219) (y:=x224.2) ↑61 ↑108 ↥(.inl ↑55))))) ↑8)) ↑12 ↥(zhV (↥0:FrI W _).2 hO.1 hO.2) ↑120))) (λh220=>↑120) (zcM (x:=(bif (!decide (v217=v218)) then (zdn s212.1 v218 ↑212) else s212.1)) (λv227=>([⇑[dI P0],⇑[dQ K ⇑6],.ow true (List.map lI v227),.ow true (List.map lI ↑247),⇑[dI x213],↥[dI v217],↥[dI v218],↥[dI v219]]:L2.Ctx)) (λz=>Oc.nx (↑179 z)) (λv227 hv227=>have hR1:=hv227;(zcM (x:=↑247) (λv228=>([⇑[dI P0],⇑[dQ K ⇑6],.ow true (List.map lI v227),.ow true (List.map lI v228),⇑[dI x213],↥[dI v217],↥[dI v218],↥[dI v219]]:L2.Ctx)) (λz=>Oc.nx (↑179 z)) (λv228 hv228=>(zar (.eq (.eq (.eq (.eq (.no (.no ↑64))))))))))))))))))⟩) (λr229 hr229 hI=>(zbz (i:=2) rfl (zbz (i:=3) rfl (zak (zaH (zfH (zab ↑29 (zab ↑38 zag)) ↑105)))))))))))
def za3 (P0:Int) (P1:Int) (P2:Int):Ji :=
 (Let (List.foldl (λ(s230:Ji) (x231:Int)=>(Let (zae P1 (P2+x231) (7:Int)) (λ(v235:Int)=>(Let (ixD [(0:Int),(1:Int),(2:Int),(3:Int),(6:Int),(0:Int),(4:Int)] v235) (λ(v236:Int)=>(Let (bif ((decide (v235=(6:Int))) && (decide ((P1%(2:Int))=(1:Int)))) then ((2:Int)+(zae P1 ((P2+(20:Int))+x231) ↑40)) else v236) (λ(v238:Int)=>(s230++[v238])))))))) [] (zbf 0 P0.toNat)) (λ(r239:Ji)=>r239))
def zdz (P0:Int) (P1:Int) (P2:Int):Prop:=0≤P0∧P0≤8∧0≤P2∧P2≤100
def ze5 (K:W.Frag) (A:Adr):Sp:=Spv (ι:=Int×Int×Int) (λx=>[dI x.1,dI x.2.1,dI x.2.2]) (λx=>zdz x.1 x.2.1 x.2.2) (λx=>.ow true (List.map dI (za3 x.1 x.2.1 x.2.2)))
theorem zcD:FnScope ["_law_wide","_law_cell_here","_law_far","_law_found","_law_k","_law_way","_law_number"] ["_law_wide","_law_cell_here","_law_far"] (zad zc5):=⇑4
theorem zir (F:Fun K "_law_bottoms" "_law_bottoms" zc5 f fd) (T:Txt K mg A) (yab:Callee P w K mg base ⇑1 1 "_law_thing" ↑141 (zcU K A)):FnOk P w K mg base ⇑1 2 f fd ["_law_wide","_law_cell_here","_law_far"] (ze5 K A):=by
 refine F.okV zcD ↥4 ⇑8
 obtain ⟨P0,P1,P2⟩:=x
 have hu:=hr.units
 replace hp:zdz P0 P1 P2:=hp
 unfold zdz at hp
 refine ⟨_,(zac (zaq (i:=3) zcD.nd rfl ⇑0 (zbj zeT)) (zac (zcy PassesOwn.never rfl (zbR rfl T.range ↑[pv 0]) (zan (i:=4) zcD.nd rfl ⇑0 ⇑0) (zac (zaq (i:=5) zcD.nd rfl ⇑0 (zaT yab ↥1 rfl zaL ↑[pv 1,zaz zcG (pv 2) (pv 4),zai])) (zac (zaq (i:=6) zcD.nd rfl ⇑0 (zaS ↑7 (zbj (zbF zai ↑[zai,zai,zai,zai,zai,zai])) (pv 5) ↥3)) (zac (zcp (PW.pt (zlM (zaJ zgr (pv 5) zai (zaP _)) (zjd (zaJ zgr (zaz zdB (pv 1) zai) zai (zaP _))))) (zac (zaq (i:=6) zcD.nd rfl ⇑0 (zaz zcG zai (zaT yab ↥1 rfl zaL ↑[pv 1,zaz zcG (zaz zcG (pv 2) zai) (pv 4),zaz zpD zai zai]))) zaf) zaf) (zac (zc9 (zch (K:=K) rfl (pv 3) ↑[pv 6])) zaf))))) (zac (zaR (pv 3)) zaf))),.inl ?_⟩
 show L2.Run _ ([⇑[dI P0],⇑[dI P1],⇑[dI P2],.no,.no,.no,.no]:L2.Ctx) _ (↑229 (za3 P0 P1 P2))
 unfold za3
 exact (zeb (m:=true) (ds:=List.map dI []) ↑154 (zbL (s0:=[]) (λ(s230:Ji)=>([⇑[dI P0],⇑[dI P1],⇑[dI P2],.ow true (List.map dI s230),.no,.no,.no]:L2.Ctx)) ↑229 (λ(s230:Ji) (x231:Int)=>(Let (zae P1 (P2+x231) (7:Int)) (λ(v235:Int)=>(Let (ixD [(0:Int),(1:Int),(2:Int),(3:Int),(6:Int),(0:Int),(4:Int)] v235) (λ(v236:Int)=>(Let (bif ((decide (v235=(6:Int))) && (decide ((P1%(2:Int))=(1:Int)))) then ((2:Int)+(zae P1 ((P2+(20:Int))+x231) ↑40)) else v236) (λ(v238:Int)=>(s230++[v238])))))))) (λ(i:Nat) (s230:Ji)=>s230.length≤i) (zdq (m:=true) (n:=P0) ↑9 ↑174) ↑58 ↥(Nat.le_refl 0) (λi232 x231 s230 hx233 hI234=>have v233:=zbe hx233;⟨↥(zqn ↥0),(zao (m:=true) (x:=(zae P1 (P2+x231) (7:Int))) dI (λz=>Oc.nx ((λ(s230:Ji)=>([⇑[dI P0],⇑[dI P1],⇑[dI P2],.ow true (List.map dI s230),.no,.no,.no]:L2.Ctx)) z)) (Ev.any (m:=true) (zau (x:=(P1,(P2+x231),(7:Int))) (zab ↥6 (zab (zaX (x:=P2) (y:=x231) ↑43 ↑71) ↑28)) rfl (by show za2 P1 (P2+x231) (7:Int);refine ⟨by omega,by omega,by first|decide|omega⟩) rfl)) (λv235 hv235=>have hY:=zqT hv235;(zao (m:=true) (x:=(ixD [(0:Int),(1:Int),(2:Int),(3:Int),(6:Int),(0:Int),(4:Int)] v235)) dI (λz=>Oc.nx ((λ(s230:Ji)=>([⇑[dI P0],⇑[dI P1],⇑[dI P2],.ow true (List.map dI s230),.no,.no,.no]:L2.Ctx)) z)) (zbd (f:=dI) (xs:=[(0:Int),(1:Int),(2:Int),(3:Int),(6:Int),(0:Int),(4:Int)]) (Ev.weak (K:=K) (EvO.ev (zb1 (zab zaD (zab zaD (zab zaD (zab zaD (zab zaD (zab zaD ↑28)))))) (by show 7≤sizeLine;decide)))) ↑12 ↥(hY)) (λv236 hv236=>(zc3 (b:=((decide (v235=(6:Int))) && (decide ((P1%(2:Int))=(1:Int))))) (λbb=>([⇑[dI P0],⇑[dI P1],⇑[dI P2],.ow true (List.map dI s230),↥[dI x231],↥[dI v235],↥[dI (bif bb then ((2:Int)+(zae P1 ((P2+(20:Int))+x231) ↑40)) else v236)]]:L2.Ctx)) (zjf (b:=(decide (v235=(6:Int)))) (zay (zeN (x:=v235) (y:=(6:Int)) ↑12 zaD)) (λhb=>(zay (zeN (x:=(P1%(2:Int))) (y:=(1:Int)) (zaN (x:=P1) (y:=(2:Int)) ↥6 zaD ↑1) zaD)))) (λh237=>(zcq (m:=true) (zaX (x:=(2:Int)) (y:=(zae P1 ((P2+(20:Int))+x231) ↑40)) zaD (Ev.any (m:=true) (zau (x:=(P1,((P2+(20:Int))+x231),↑40)) (zab ↥6 (zab (zaX (x:=(P2+(20:Int))) (y:=x231) (zaX (x:=P2) (y:=(20:Int)) ↑43 zaD) ↑71) (zab (zaN (x:=(10:Int)) (y:=(9:Int)) zaD zaD ↥(⟨by decide,by decide,by decide⟩)) zag))) rfl (by show za2 P1 ((P2+(20:Int))+x231) ↑40;refine ⟨by omega,by omega,by first|decide|omega⟩) rfl))) (zar ↑58))) (λh237=>(zar ↑58)) (zcM (x:=(bif ((decide (v235=(6:Int))) && (decide ((P1%(2:Int))=(1:Int)))) then ((2:Int)+(zae P1 ((P2+(20:Int))+x231) ↑40)) else v236)) (λv238=>([⇑[dI P0],⇑[dI P1],⇑[dI P2],.ow true (List.map dI s230),↥[dI x231],↥[dI v235],↥[dI v238]]:L2.Ctx)) (λz=>Oc.nx ((λ(s230:Ji)=>([⇑[dI P0],⇑[dI P1],⇑[dI P2],.ow true (List.map dI s230),.no,.no,.no]:L2.Ctx)) z)) (λv238 hv238=>(zcd (f:=dI) (xs:=s230) (x:=v238) rfl ↑78 ↥(zsT ↥0 ↥0 ↑0) (zar (.eq (.eq (.eq (.eq (.no ↑64))))))))))))))⟩) (λr239 hr239 hI=>(ze7 (zme (i:=3) rfl)))))
theorem zpL {w c f:Int} (hw:0≤w):(za3 w c f).length=w.toNat∧∀ b∈za3 w c f,0≤b∧b≤1000000001:=by
 unfold za3 Let
 dsimp only
 rw [Lat.zhG,List.nil_append]
 refine ⟨by rw [List.length_map,zaO],λb hb=>?_⟩
 obtain ⟨x,_,rfl⟩:=List.mem_map.mp hb
 have h7:=zev (c:=c) (k:=f+x) (m:=7) ↑1
 generalize zae c (f+x) 7=y at *
 have e10:(10:Int)^(9:Int).toNat=1000000000:=by decide +kernel
 rw [e10]
 have h9:=zev (c:=c) (k:=f+20+x) (m:=1000000000) ↑1
 have key:0≤ixD [(0:Int),(1:Int),(2:Int),(3:Int),(6:Int),(0:Int),(4:Int)] y∧ixD [(0:Int),(1:Int),(2:Int),(3:Int),(6:Int),(0:Int),(4:Int)] y≤6:=by
  have hm:=zb3 (xs:=[(0:Int),(1:Int),(2:Int),(3:Int),(6:Int),(0:Int),(4:Int)]) (i:=y) (by show InB 7 y;unfold InB;omega)
  generalize ixD [(0:Int),(1:Int),(2:Int),(3:Int),(6:Int),(0:Int),(4:Int)] y=z at *
  simp at hm
  omega
 cases (decide (y=(6:Int))&&decide (c%(2:Int)=(1:Int)))
 ·rw [cond_false];omega
 ·rw [cond_true];omega
theorem zsR {s:Jq} {i w:Nat} {b:Bool} {y:Ji} (h:s.length≤i∧∀ r∈s,r.length=w) (hy:y.length=w):(bif b then (s++[y]) else s).length≤i+1∧∀ r∈(bif b then (s++[y]) else s),r.length=w:=by
 cases b
 ·exact ⟨by show s.length≤_;omega,h.2⟩
 ·refine ⟨by show (s++[y]).length≤_;rw [List.length_append,List.length_singleton];omega,λr hr=>?_⟩
  rcases List.mem_append.mp hr with hr | hr
  ·exact h.2 r hr
  ·rw [List.mem_singleton.mp hr];exact hy
def StP (rows:Jq) (bs:Ji) (idle:Int):Prop:=∃ W:Nat,1≤W∧W≤8∧Sq W W rows∧bs.length=W∧(∀ b∈bs,0≤b∧b≤1000000001)∧0≤idle∧idle≤3
theorem zvl {s rows:Jq} {bs:Ji} {W:Nat} (hI:s.length≤((List.zip rows bs)).length∧∀ r∈s,r.length=W) (hq:Sq W W rows) (w8:W≤8):s.length≤8∧∀ r∈s,r.length=W:=by
 refine ⟨?_,hI.2⟩
 have:=hI.1
 rw [List.length_zip] at this
 have:=hq.1
 omega
theorem zsz {w:Nat} {rows a ys:Jq} {k idle:Int} (hw:rows.length=w) (h0:0≤idle) (h:a.length≤8∧∀ r∈a,r.length=w) (hk:k=↑111) (e:ys=a++List.map (λ(_:Int)=>zc7 ((rows.length:Nat):Int) [(0:Int)]) ↑115):Sq w (k+idle).toNat ys:=by
 subst e
 refine ⟨by rw [List.length_append,List.length_map,zaO];omega,λr hr=>?_⟩
 rcases List.mem_append.mp hr with hr | hr
 ·exact h.2 r hr
 ·obtain ⟨x,_,rfl⟩:=List.mem_map.mp hr
  rw [Lat.zdc];exact hw
theorem zqi {k idle:Int} {ts:Jq} (e:ts=List.map (λ(x:Int)=>List.map (λ(y:Int)=>(if (decide (y=(k+x))) then (1:Int) else 0)) (zbf 0 (k+idle).toNat)) ↑115):∀ t∈ts,t.length=(k+idle).toNat:=λt ht=>by
 subst e
 obtain ⟨x,_,rfl⟩:=List.mem_map.mp ht
 rw [List.length_map,zaO]
def StI (w n:Nat) (s:Jq×Jq):Prop:=Sq w n s.1∧∀ t∈s.2,t.length=n
theorem zhu {n:Nat} {w:Nat} {s:Jq} {c k x:Int} (h:Sq w n s) (e:x=zae c k (max (1:Int) ↑95)):0≤x∧(x<(n:Int)∨x=0):=by
 subst e;have:=zev (c:=c) (k:=k) (m:=max (1:Int) ↑95) ↑0;rw [h.1] at this ⊢;omega
theorem zg4 {n:Nat} {x y:Int} (hx:0≤x∧(x<(n:Int)∨x=0)) (hy:0≤y∧(y<(n:Int)∨y=0)) (h:(!decide (x=y))=true):(0≤x∧x<(n:Int))∧0≤y∧y<(n:Int):=by
 have:x≠y:=by simpa using h
 omega
theorem zrt {n:Nat} {ns:Ji} {x:Int} (h:ns.length=n) (hx:0≤x∧x<(n:Int)):InB ns.length x:=by unfold InB;omega
theorem zri {w n:Nat} {s:Jq×Jq} {x y q:Int} (h:StI w n s) (hx:0≤x∧(x<(n:Int)∨x=0)) (hy:0≤y∧(y<(n:Int)∨y=0)) :
  StI w n (bif (!decide (x=y)) then (zdn s.1 y (List.map (λ(z:Int×Int)=>(z.1+(q*z.2))) (List.zip (ixD s.1 y) (ixD s.1 x)))) else s.1,bif (!decide (x=y)) then (List.map (λ(ns:Ji)=>zdn ns x (ixD ns x-(q*ixD ns y))) s.2) else s.2):=by
 by_cases e:x=y
 ·rw [decide_eq_true e];exact h
 ·rw [decide_eq_false e]
  have hl:=zg4 hx hy (by simp [e])
  refine ⟨zob h.1 (zjy h.1 h.1 hl.2 hl.1),λt ht=>?_⟩
  obtain ⟨z,hz,rfl⟩:=List.mem_map.mp ht
  rw [zgi];exact h.2 z hz
theorem ztB {w n:Nat} {s:Jq} {x y:Int} (h:Sq w n s) (hx:0≤x∧x<(n:Int)) (hw:w≤8):(List.zip (ixD s x) (ixD s y)).length≤PySem.sizeLine:=zod (ys:=s) (m:=0) h hx ↑0
theorem zs9 {W:Nat} {rows:Jq} {r:Ji} (h:Sq W W rows) (hm:r∈rows) (hw:W≤8):r.length≤PySem.sizeLine:=zal (by have:=h.2 r hm;omega)
theorem zt6 {W:Nat} {rows:Jq} {bs:Ji} {i:Nat} {p:Ji×Int} (h:Sq W W rows) (hx:rows[i]?=some p.1∧bs[i]?=some p.2):i<W:=by have:=(List.getElem?_eq_some_iff.mp hx.1).1;rw [h.1] at this;exact this
def zaQ (P0:Jq) (P1:Ji) (P2:Int) (P3:Ji):(Jq×Jq) :=
 (Let (List.foldl (λ(s240:Jq) (x241:(Ji×Int))=>(Let (bif (decide ((0:Int)<x241.2)) then (s240++[↑226]) else s240) (λ(v249:Jq)=>v249))) [] (List.zip P0 P1)) (λ(r250:Jq)=>(Let ((r250.length:Nat):Int) (λ(v251:Int)=>(Let (r250++(List.map (λ(x252:Int)=>(zc7 ↑34 [(0:Int)])) (zbf 0 P2.toNat))) (λ(v255:Jq)=>(Let (List.map (λ(x256:Int)=>(List.map (λ(x259:Int)=>(if (decide (x259=(v251+x256))) then 1 else 0)) (zbf 0 (v251+P2).toNat))) (zbf 0 P2.toNat)) (λ(v262:Jq)=>(Let (List.foldl (λ(s263:Jq×Jq) (x264:Int)=>(Let (zae x264 (4:Int) ↑100) (λ(v268:Int)=>(Let (zae x264 (5:Int) ↑100) (λ(v269:Int)=>(Let ((zae x264 (6:Int) (5:Int))-(2:Int)) (λ(v270:Int)=>(Let (bif (!decide (v268=v269)) then (zdn s263.1 v269 ↑213) else s263.1) (λ(v276:Jq)=>(Let ↑239 (λ(v277:Jq)=>(v276,v277)))))))))))) (v255,v262) P3) (λ(r278:Jq×Jq)=>(r278.1,r278.2)))))))))))
def zdC (P0:Jq) (P1:Ji) (P2:Int) (P3:Ji):Prop:=StP P0 P1 P2
def ze2 (K:W.Frag) (A:Adr):Sp:=Spv (ι:=Jq×Ji×Int×Ji) (λx=>[dQ K (List.map lI x.1),dQ K (List.map dI x.2.1),dI x.2.2.1,dQ K (List.map dI x.2.2.2)]) (λx=>zdC x.1 x.2.1 x.2.2.1 x.2.2.2) (λx=>↥[dT [dL (List.map lI ((zaQ x.1 x.2.1 x.2.2.1 x.2.2.2).1)),dL (List.map lI ((zaQ x.1 x.2.1 x.2.2.1 x.2.2.2).2))]])
theorem za7:FnScope ↑209 ["_law_rows","_law_bottoms_here","_law_idle","_law_cells"] (zad zbv):=⇑4
theorem zin (F:Fun K "_law_stirred" "_law_stirred" zbv f fd) (T:Txt K mg A) (yab:Callee P w K mg base ⇑1 1 "_law_thing" ↑141 (zcU K A)):FnOk P w K mg base ⇑1 2 f fd ["_law_rows","_law_bottoms_here","_law_idle","_law_cells"] (ze2 K A):=by
 refine F.okV za7 ↥4 ⇑8
 obtain ⟨P0,P1,P2,P3⟩:=x
 have hu:=hr.units
 replace hp:zdC P0 P1 P2 P3:=hp
 unfold zdC at hp
 obtain ⟨W,w1,w8,hq,hb,hbb,hi0,hi3⟩:=hp
 refine ⟨_,(zac (zaq (i:=4) za7.nd rfl ⇑0 (zbj zeT)) (zac (zcy PassesOwn.never rfl (zc6 (K:=K) rfl rfl T.zip ↑[pv 0,pv 1]) (zbu (K:=K) (n:=2) rfl rfl (zaG (zan (i:=5) za7.nd rfl ⇑0 ⇑0) (zaG (zan (i:=6) za7.nd rfl ↥2 ⇑0) zci))) (zac (zcp (zaJ zki (pv 6) zai (zaP _)) (zac (zc9 (zch (K:=K) rfl (pv 4) ↑[(zbG rfl (.of (osc:=(zad zbv)) (N:=↑209) (own:=["_law_entry"]) (fvn:=["_law_number"]) (fv:=[6]) rfl rfl ↑4) (zaV (K:=K) rfl (pv 5)) (λ_ _ _ _ _=>⟨(zan (i:=0) (show (["_law_entry","_law_number"]:List Str).Nodup by decide +kernel) rfl ⇑0 ↥2),za5,(zaz zbI (pv 1) (pv 0))⟩))])) zaf) zaf) zaf)) (zac (zaq (i:=7) za7.nd rfl ↥2 ↑251) (zac (zaq (i:=4) za7.nd rfl ⇑0 (zaz zdD (pv 4) (zbG rfl (.of (osc:=(zad zbv)) (N:=↑209) (own:=["_law_k"]) (fvn:=["_law_rows"]) (fv:=[0]) rfl rfl ↑4) (zbR rfl T.range ↑[pv 2]) (λ_ _ _ _ _=>⟨(zan (i:=0) (show (["_law_k","_law_rows"]:List Str).Nodup by decide +kernel) rfl ⇑0 ↥2),za5,(zaz zhr ↑88 ↑188)⟩)))) (zac (zeI (i:=8) rfl za7.nd rfl rfl (.of (osc:=(zad zbv)) (N:=↑209) (own:=["_law_k"]) (fvn:=["_law_kept","_law_idle"]) (fv:=[7,2]) rfl rfl ↑4) (zbR rfl T.range ↑[pv 2]) (λ_ _ _ _ _=>⟨(zan (i:=0) (show (["_law_k","_law_kept","_law_idle"]:List Str).Nodup by decide +kernel) rfl ↥2 ⇑0),za5,(zbG rfl (.of (osc:=({ kind:=.function,names:=[(".0",.local),("_law_k",.cell),("range",.globalImplicit),("_law_idle",.cell),("_law_kept",.cell)],isGenerator:=false,isCoroutine:=false }:Scope)) (N:=["_law_k","_law_kept","_law_idle"]) (own:=["_law_j"]) (fvn:=["_law_kept","_law_k"]) (fv:=[1,0]) rfl rfl ↑4) (zbR rfl T.range ↑[zaz zcG (pv 1) (pv 2)]) (λ_ _ _ _ _=>⟨(zan (i:=0) (show (["_law_j","_law_kept","_law_k"]:List Str).Nodup by decide +kernel) rfl ⇑0 ↥2),za5,(zcA zjW rfl T.int ↑4 ↑[zfC zgr (pv 0) (zaz zcG (pv 1) (pv 2)) (zaP _)])⟩))⟩)) (zac (zcy PassesOwn.never rfl (zaV (K:=K) rfl (pv 3)) (zan (i:=9) za7.nd rfl ⇑0 ⇑0) (zac (zaq (i:=10) za7.nd rfl ⇑0 (zaT yab ↥1 rfl zaL ↑[pv 9,zai,(zam (zjM rfl) rfl T.max PyProof.Rows.boot_max ↑[zai,↑251])])) (zac (zaq (i:=11) za7.nd rfl ⇑0 (zaT yab ↥1 rfl zaL ↑[pv 9,zai,(zam (zjM rfl) rfl T.max PyProof.Rows.boot_max ↑[zai,↑251])])) (zac (zaq (i:=12) za7.nd rfl ↥2 (zaz zeQ (zaT yab ↥1 rfl zaL ↑[pv 9,zai,zai]) zai)) (zac (zcp (zaJ zf4 (pv 10) (pv 11) (zaP _)) (zac (zgY (zbG rfl (.of (osc:=(zad zbv)) (N:=↑209) (own:=["_law_a","_law_b"]) (fvn:=["_law_many"]) (fv:=[12]) rfl rfl ↑4) (zc6 (K:=K) rfl rfl T.zip ↑[(zaS ↑7 (pv 4) (pv 11) ↥3),(zaS ↑7 (pv 4) (pv 10) ↥3)]) ↑237) (zkb (pv 4) (pv 11) zgP)) (zac (zcy PassesOwn.never rfl (zaV (K:=K) rfl (pv 8)) (zan (i:=13) za7.nd rfl ⇑0 ⇑0) (zac (zgY (zaz zeQ (zaS ↑7 (pv 13) (pv 10) ↥3) (zaz zbI (pv 12) (zaS ↑7 (pv 13) (pv 11) ↥3))) (zkb (pv 13) (pv 10) zgP)) zaf)) zaf)) zaf) zaf))))) (zac (zaR (zfJ ↑[pv 4,pv 8])) zaf))))))),.inl ?_⟩
 show L2.Run _ ([⇑[dQ K ↑10],⇑[dQ K ⇑6],⇑[dI P2],⇑[dQ K ↑133],.no,.no,.no,.no,.no,.no,.no,.no,.no,.no]:L2.Ctx) _ (↑99 (zaQ P0 P1 P2 P3))
 unfold zaQ
 exact (zeb (m:=true) (ds:=List.map lI []) ↑154 (zbL (s0:=[]) (λ(s240:Jq)=>([⇑[dQ K ↑10],⇑[dQ K ⇑6],⇑[dI P2],⇑[dQ K ↑133],.ow true (List.map lI s240),.no,.no,.no,.no,.no,.no,.no,.no,.no]:L2.Ctx)) ↑99 (λ(s240:Jq) (x241:(Ji×Int))=>(Let (bif (decide ((0:Int)<x241.2)) then (s240++[↑226]) else s240) (λ(v249:Jq)=>v249))) (λ(i:Nat) (s240:Jq)=>s240.length≤i∧∀ r∈s240,r.length=W) (ze9 (m:=false) lI dI (xs:=P0) (ys:=P1) ↑2 ⇑3) ↑136 ↥(⟨Nat.le_refl 0,λr hr=>by simp at hr⟩) (λi242 x241 s240 hx243 hI244=>have v243:=zcE hx243;⟨↥(zsR ↥0 (by rw [List.length_map];exact hq.2 _ (List.mem_of_getElem? (↥0:_∧_).1))),(zc3 (b:=(decide ((0:Int)<x241.2))) (λbb=>([⇑[dQ K ↑10],⇑[dQ K ⇑6],⇑[dI P2],⇑[dQ K ↑133],.ow true (List.map lI (bif bb then (s240++[↑226]) else s240)),⇑[dL (List.map dI x241.1)],⇑[dI x241.2],.no,.no,.no,.no,.no,.no,.no]:L2.Ctx)) (zay (zaX (x:=x241.2) (y:=(0:Int)) (Ev.any (m:=false) ↑73) zaD)) (λh245=>(zcd (f:=lI) (xs:=s240) (x:=↑226) rfl (EvO.ev (EvO.conv (zbA (g:=(λ(x246:Int)=>dI (x241.2*x246))) (zbx (m:=false) dI (xs:=x241.1) ↑127) ↥(zs9 hq (List.mem_of_getElem? (↥0:_∧_).1) w8) ↑5 (λi247 x246 hx248=>have v248:=List.mem_of_getElem? hx248;(zaN (x:=x241.2) (y:=x246) ↥6 ↑9 (by have z:=hbb _ (List.mem_of_getElem? (↥0:_∧_).2);exact .inl ↑55)))) ↑8)) (by have z:=zt6 hq ↥0;exact Nat.lt_of_le_of_lt (show _≤1000 by omega) ↑1) (zar ↑136))) (λh245=>(zar ↑136)) (zcM (x:=(bif (decide ((0:Int)<x241.2)) then (s240++[↑226]) else s240)) (λv249=>([⇑[dQ K ↑10],⇑[dQ K ⇑6],⇑[dI P2],⇑[dQ K ↑133],.ow true (List.map lI v249),⇑[dL (List.map dI x241.1)],⇑[dI x241.2],.no,.no,.no,.no,.no,.no,.no]:L2.Ctx)) (λz=>Oc.nx ((λ(s240:Jq)=>([⇑[dQ K ↑10],⇑[dQ K ⇑6],⇑[dI P2],⇑[dQ K ↑133],.ow true (List.map lI s240),.no,.no,.no,.no,.no,.no,.no,.no,.no]:L2.Ctx)) z)) (λv249 hv249=>(zar (.eq (.eq (.eq (.eq (.eq (.no (.no ↑58)))))))))))⟩) (λr250 hr250 hI=>(zao (m:=true) (x:=((r250.length:Nat):Int)) dI ↑99 (zhe (f:=lI) (xs:=r250) rfl) (λv251 hv251=>have hL:=zvl hI hq w8;have hK:=hv251;(zbz (i:=4) rfl (zfE (m:=true) (x:=(r250++(List.map (λ(x252:Int)=>(zc7 ↑34 [(0:Int)])) (zbf 0 P2.toNat)))) (λz=>List.map lI z) ↑99 (zcu (f:=lI) (xs:=r250) (ys:=(List.map (λ(x252:Int)=>(zc7 ↑34 [(0:Int)])) (zbf 0 P2.toNat))) ↑33 (EvO.ev (EvO.conv (zbA (g:=(λ(x252:Int)=>dL (List.map dI (zc7 ↑34 [(0:Int)])))) (zdq (m:=true) (n:=P2) ↑43 ↑174) ↥(zal (by rw [zaO];omega)) ↑5 (λi253 x252 hx254=>have v254:=zbe hx254;(EvO.ev (zfU (f:=dI) (xs:=[(0:Int)]) (n:=↑34) ↑77 (zaZ (f:=lI) (xs:=P0) ⇑3) (by have z:=hq.1;constructor<;>omega) (by show 1*_≤PySem.sizeLine;have z:=hq.1;exact zal ↑0))))) ↑8)) ↥(zal (by rw [List.length_map,zaO];omega))) (λv255 hv255=>have hS:=zsz hq.1 hi0 hL hK hv255;(zoS (x:=(List.map (λ(x256:Int)=>(List.map (λ(x259:Int)=>(if (decide (x259=(v251+x256))) then 1 else 0)) (zbf 0 (v251+P2).toNat))) (zbf 0 P2.toNat))) dRI ↑99 (zpR (zon (ns:=λ(x256:Int)=>(List.map (λ(x259:Int)=>(if (decide (x259=(v251+x256))) then 1 else 0)) (zbf 0 (v251+P2).toNat))) (zdq (m:=true) (n:=P2) ↑43 ↑174) ↥(zal (by rw [zaO];omega)) ↑5 (λi257 x256 hx258=>have v258:=zbe hx258;(EvO.conv (zbA (g:=(λ(x259:Int)=>dI (if (decide (x259=(v251+x256))) then 1 else 0))) (zdq (m:=true) (n:=(v251+P2)) (zaX (x:=v251) (y:=P2) ↥6 ↑43) ↑174) ↥(zal (by rw [zaO];omega)) ↑5 (λi260 x259 hx261=>have v261:=zbe hx261;(zmp (b:=(decide (x259=(v251+x256)))) (zab (zeN (x:=x259) (y:=(v251+x256)) ↑146 (zaX (x:=v251) (y:=x256) ↥6 ↑61)) zag)))) ↑8)))) (λv262 hv262=>have hTr:=zqi hv262;(zbL (s0:=(v255,v262)) ↑178 ↑99 (λ(s263:Jq×Jq) (x264:Int)=>(Let (zae x264 (4:Int) ↑100) (λ(v268:Int)=>(Let (zae x264 (5:Int) ↑100) (λ(v269:Int)=>(Let ((zae x264 (6:Int) (5:Int))-(2:Int)) (λ(v270:Int)=>(Let (bif (!decide (v268=v269)) then (zdn s263.1 v269 ↑213) else s263.1) (λ(v276:Jq)=>(Let ↑239 (λ(v277:Jq)=>(v276,v277)))))))))))) (λ(i:Nat) (s263:Jq×Jq)=>StI W (v251+P2).toNat s263) (zbx (m:=false) dI (xs:=P3) ↑38) ↑136 ↥(⟨hS,hTr⟩) (λi265 x264 s263 hx266 hI267=>have v266:=List.mem_of_getElem? hx266;⟨↥(zri ↥0 (zhu (↑129).1 rfl) (zhu (↑129).1 rfl)),(zao (m:=true) (x:=(zae x264 (4:Int) ↑100)) dI (λz=>Oc.nx (↑178 z)) (Ev.any (m:=true) (zau (x:=(x264,(4:Int),↑100)) (zab (Ev.any (m:=false) (zaa (i:=9) rfl)) (zab zaD (zab (zpB (x:=(1:Int)) (y:=((s263.1.length:Nat):Int)) (zab zaD (zab (zhe (f:=lI) (xs:=s263.1) rfl) zag))) zag))) rfl (by show za2 x264 (4:Int) ↑100;refine ⟨by decide,by decide,by omega⟩) rfl)) (λv268 hv268=>have hO:=zhu (↑129).1 hv268;(zao (m:=true) (x:=(zae x264 (5:Int) ↑100)) dI (λz=>Oc.nx (↑178 z)) (Ev.any (m:=true) (zau (x:=(x264,(5:Int),↑100)) (zab (Ev.any (m:=false) (zaa (i:=9) rfl)) (zab zaD (zab (zpB (x:=(1:Int)) (y:=((s263.1.length:Nat):Int)) (zab zaD (zab (zhe (f:=lI) (xs:=s263.1) rfl) zag))) zag))) rfl (by show za2 x264 (5:Int) ↑100;refine ⟨by decide,by decide,by omega⟩) rfl)) (λv269 hv269=>have hT:=zhu (↑129).1 hv269;(zao (m:=true) (x:=((zae x264 (6:Int) (5:Int))-(2:Int))) dI (λz=>Oc.nx (↑178 z)) (zaX (x:=(zae x264 (6:Int) (5:Int))) (y:=(2:Int)) (Ev.any (m:=true) (zau (x:=(x264,(6:Int),(5:Int))) (zab (Ev.any (m:=false) (zaa (i:=9) rfl)) (zab zaD ↑28)) rfl (by show za2 x264 (6:Int) (5:Int);refine ⟨by decide,by decide,by omega⟩) rfl)) zaD) (λv270 hv270=>have hM:=zln hv270;(zc3 (b:=(!decide (v268=v269))) (λbb=>([⇑[dQ K ↑10],⇑[dQ K ⇑6],⇑[dI P2],⇑[dQ K ↑133],.ow true (List.map lI (bif bb then (zdn s263.1 v269 ↑213) else s263.1)),.no,.no,↥[dI v251],.tl (dRI (bif bb then (List.map (λ(ns275:Ji)=>zdn ns275 v268 ((ixD ns275 v268)-(v270*(ixD ns275 v269)))) s263.2) else s263.2)),⇑[dI x264],↥[dI v268],↥[dI v269],↥[dI v270],.no]:L2.Ctx)) (zay (zeg (x:=v268) (y:=v269) ↑195 (Ev.any (m:=true) (zaa (i:=11) rfl)))) (λh271=>(zgb (f:=lI) (xs:=s263.1) (x:=↑213) rfl (EvO.ev (EvO.conv (zbA (g:=(λ(x272:↑17)=>dI (x272.1+(v270*x272.2)))) (ze9 (m:=true) dI dI (xs:=(ixD s263.1 v269)) (ys:=(ixD s263.1 v268)) (Ev.weak (K:=K) (zb8 (f:=lI) (xs:=s263.1) rfl (Ev.any (m:=true) (zaa (i:=11) rfl)) ↥(zhV (↑129).1 (↑113).2.1 (↑113).2.2))) (Ev.weak (K:=K) (zb8 (f:=lI) (xs:=s263.1) rfl ↑195 ↥(zhV (↑129).1 (↑113).1.1 (↑113).1.2)))) ↥(ztB (↑129).1 (↑113).2 w8) ↑5 (λi273 x272 hx274=>have v274:=zcE hx274;(zaX (x:=x272.1) (y:=(v270*x272.2)) ↑146 (zaN (x:=v270) (y:=x272.2) ↑61 ↑108 ↥(.inl ↑55))))) ↑8)) (Ev.any (m:=true) (zaa (i:=11) rfl)) ↥(zhV (↑129).1 (↑113).2.1 (↑113).2.2) (zkP (nss:=s263.2) (i:=8) (j:=13) (v:=λ(ns275:Ji)=>((ixD ns275 v268)-(v270*(ixD ns275 v269)))) (k:=v268) (P:=λ(ns275:Ji)=>ns275.length=(v251+P2).toNat) rfl rfl rfl ↥((↑129).2) (λns275 hns=>↥(zrt hns (↑113).1)) (λns275 hns=>Ev.borrow (m:=false) rfl (zaX (x:=(ixD ns275 v268)) (y:=(v270*(ixD ns275 v269))) (Ev.any (m:=true) (zbd (f:=dI) (xs:=ns275) (Ev.weak (K:=K) (zaa (i:=13) rfl)) ↑195 ↥(zrt hns (↑113).1))) (zaN (x:=v270) (y:=(ixD ns275 v269)) (Ev.any (m:=true) (zaa (i:=12) rfl)) (Ev.any (m:=true) (zbd (f:=dI) (xs:=ns275) (Ev.weak (K:=K) (zaa (i:=13) rfl)) (Ev.any (m:=true) (zaa (i:=11) rfl)) ↥(zrt hns (↑113).2))) ↥(.inl ↑55)))) (λns275 hns=>Ev.borrow (m:=false) rfl ↑195) (zar ↑136)))) (λh271=>(zar ↑136)) (zcM (x:=(bif (!decide (v268=v269)) then (zdn s263.1 v269 ↑213) else s263.1)) (λv276=>([⇑[dQ K ↑10],⇑[dQ K ⇑6],⇑[dI P2],⇑[dQ K ↑133],.ow true (List.map lI v276),.no,.no,↥[dI v251],.tl (dRI ↑239),⇑[dI x264],↥[dI v268],↥[dI v269],↥[dI v270],.no]:L2.Ctx)) (λz=>Oc.nx (↑178 z)) (λv276 hv276=>(zcM (x:=↑239) (λv277=>([⇑[dQ K ↑10],⇑[dQ K ⇑6],⇑[dI P2],⇑[dQ K ↑133],.ow true (List.map lI v276),.no,.no,↥[dI v251],.tl (dRI v277),⇑[dI x264],↥[dI v268],↥[dI v269],↥[dI v270],.no]:L2.Ctx)) (λz=>Oc.nx (↑178 z)) (λv277 hv277=>(zar (.eq (.eq (.eq (.eq (.eq (.eq (.eq (.eq (.eq (.no (.no (.no (.no (.eq .nil))))))))))))))))))))))))))⟩) (λr278 hr278 hI=>(zlS rfl (zbz (i:=4) rfl (zak (zaH (zfH (zab ↑33 (zab (ztX (zaa (i:=8) rfl)) zag)) ↑105)))))))))))))))))
theorem znO {b:Nat} {l t:Ji} {q:Int} (h:Lat.Bit b l) (k:Lat.Bit b t) (hq:-2≤q∧q≤2):Lat.Bit (b+2) (List.map (λ(x:Int×Int)=>x.1+(q*x.2)) (List.zip l t))∧Lat.Bit (b+2) (List.map (λ(x:Int×Int)=>x.1-(q*x.2)) (List.zip l t)):=by
 have a4:(2:Nat)^(b+2)=4*2^b:=by rw [Nat.pow_add];omega
 have key:∀ x:Int×Int,x∈List.zip l t->x.1.natAbs≤2^b∧(q*x.2).natAbs≤2*2^b:=λx hx=>by
  obtain ⟨h1,h2⟩:=List.of_mem_zip (a:=x.1) (b:=x.2) hx
  exact ⟨h _ h1,by rw [Int.natAbs_mul];exact Nat.mul_le_mul ↑0 (k _ h2)⟩
 refine ⟨λy hy=>?_,λy hy=>?_⟩ <;>
 ·obtain ⟨x,hx,rfl⟩:=List.mem_map.mp hy
  have:=key x hx
  rw [a4]
  omega
def FrJ (W b:Nat) (s:Jq×Jq):Prop:=(s.1.length=W∧Lat.RB W b s.1)∧s.2.length=W∧Lat.RB W b s.2
theorem zpt {W b:Nat} {rows:Jq} {i:Int} {y:Ji} (h:rows.length=W∧Lat.RB W b rows) (hy:y.length=W∧Lat.Bit (b+2) y):(zdn rows i y).length=W∧Lat.RB W (b+2) (zdn rows i y):=by
 refine ⟨by rw [zgi];exact h.1,λr hr=>?_⟩
 rcases Lat.zhK hr with rfl | hr
 ·exact hy
 ·exact ⟨(h.2 r hr).1,((h.2 r hr).2).mono ↑0⟩
theorem zs0 {W b:Nat} {rows:Jq} (h:rows.length=W∧Lat.RB W b rows):rows.length=W∧Lat.RB W (b+2) rows:=⟨h.1,λr hr=>⟨(h.2 r hr).1,((h.2 r hr).2).mono ↑0⟩⟩
theorem zlX {W b n:Nat} {rows:Jq} (h:rows.length=n∧Lat.RB W b rows):Sq W n rows:=⟨h.1,λr hr=>(h.2 r hr).1⟩
def frF (w:Int):Jq×Jq->Int->Jq×Jq:=λs x=>Let (zae x (1:Int) w) (λ(one:Int)=>Let (zae x (2:Int) w) (λ(two:Int)=>Let ((zae x (3:Int) (5:Int))-(2:Int)) (λ(many:Int)=>Let (bif (!decide (one=two)) then (zdn s.1 two (List.map (λ(x35:↑17)=>(x35.1+(many*x35.2))) (List.zip (ixD s.1 two) (ixD s.1 one)))) else s.1) (λ(rows41:Jq)=>Let (bif (!decide (one=two)) then (zdn s.2 one (List.map (λ(x38:↑17)=>(x38.1-(many*x38.2))) (List.zip (ixD s.2 one) (ixD s.2 two)))) else s.2) (λ(duals42:Jq)=>(rows41,duals42))))))
theorem zmG {w:Int} {W:Nat} (hw:w=(W:Int)) (h1:1≤w):∀ (cs:Ji) (b:Nat) (s:Jq×Jq),FrJ W b s->FrJ W (b+2*cs.length) (List.foldl (frF w) s cs)
 | [],b,s,h=>h
 | c :: cs,b,s,h=>by
  rw [List.foldl_cons,List.length_cons,show b+2*(cs.length+1)=b+2+2*cs.length by omega]
  refine zmG hw h1 cs (b+2) _ ?_
  have hO:=zeV (c:=c) (k:=1) hw h1 rfl
  have hT:=zeV (c:=c) (k:=2) hw h1 rfl
  have hM:=zln (c:=c) (k:=3) rfl
  unfold frF Let
  dsimp only
  generalize zae c 1 w=one at *
  generalize zae c 2 w=two at *
  generalize zae c 3 5-2=many at *
  have q1:=zlX h.1
  have q2:=zlX h.2
  have m:∀ {rows:Jq} {x:Int},rows.length=W∧Lat.RB W b rows->0≤x∧x<(W:Int)->Lat.Bit b (ixD rows x):=λh hx=>(h.2 _ (zb3 (zhV (zlX h) hx.1 hx.2))).2
  cases (!decide (one=two))
  ·exact ⟨zs0 h.1,zs0 h.2⟩
  ·exact ⟨zpt h.1 ⟨zjy q1 q1 hT hO,(znO (m h.1 hT) (m h.1 hO) hM).1⟩,zpt h.2 ⟨zjy q2 q2 hO hT,(znO (m h.2 hO) (m h.2 hT) hM).2⟩⟩
theorem zlc {w:Int} {W:Nat} {cs:Ji} (hw:w=(W:Int)) (h1:1≤w):FrJ W (2*cs.length) (zbZ w cs):=by
 have h:=zmG hw h1 cs 0 (List.map ↑163 (zbf 0 w.toNat),List.map (λ(x:Ji)=>x) (List.map ↑163 (zbf 0 w.toNat))) (by
  have h0:∀ x:Int,Lat.Bit 0 (List.map (λ(y:Int)=>(if (decide (y=x)) then (1:Int) else 0)) (zbf 0 w.toNat)):=λx y hy=>by
   obtain ⟨z,_,rfl⟩:=List.mem_map.mp hy
   cases decide (z=x)<;>decide
  have hA:((List.map ↑163 (zbf 0 w.toNat)).length=W)∧Lat.RB W 0 (List.map ↑163 (zbf 0 w.toNat)):=by
   refine ⟨by rw [List.length_map,zaO];omega,λr hr=>?_⟩
   obtain ⟨x,_,rfl⟩:=List.mem_map.mp hr
   exact ⟨by rw [List.length_map,zaO];omega,h0 x⟩
  exact ⟨hA,by rw [List.map_id'];exact hA⟩)
 rw [Nat.zero_add] at h
 exact h
def zvd (n:Nat) (swaps trips:Jq):Prop:=∀ t∈trips,∀ j,j<n->Lat.comb t (swaps.map Lat.vec) j=0
def StJ (n k b c:Nat) (s:Jq×Jq):Prop:=(s.1.length=k∧Lat.RB n b s.1)∧(∀ t∈s.2,t.length=k∧Lat.Bit c t)∧zvd n s.1 s.2
theorem zoZ {rows:Jq} {k:Nat} {y:Ji}:(rows.set k y).map Lat.vec=(rows.map Lat.vec).set k (Lat.vec y):=List.map_set
theorem zij {α:Type} {xs:List α} {k:Nat} {x:α} (h:k<xs.length):zdn xs (k:Int) x=xs.set k x:=by
 unfold zdn ixN
 rw [if_pos ↑0,if_pos ↑0]
 show xs.set (k:Int).toNat x=_
 rw [Int.toNat_natCast]
def stF:Jq×Jq->Int->Jq×Jq:=λs x=>Let (zae x (4:Int) ↑101) (λ(one:Int)=>Let (zae x (5:Int) ↑101) (λ(two:Int)=>Let ((zae x (6:Int) (5:Int))-(2:Int)) (λ(many:Int) =>
 Let (bif (!decide (one=two)) then (zdn s.1 two (List.map (λ(z:↑17)=>(z.1+(many*z.2))) (List.zip (ixD s.1 two) (ixD s.1 one)))) else s.1) (λ(swaps:Jq) =>
 Let (bif (!decide (one=two)) then (List.map (λ(ns:Ji)=>zdn ns one ((ixD ns one)-(many*(ixD ns two)))) s.2) else s.2) (λ(trips:Jq)=>(swaps,trips))))))
theorem zkG {n k:Nat}:∀ (cs:Ji) (b c:Nat) (s:Jq×Jq),StJ n k b c s->StJ n k (b+2*cs.length) (c+2*cs.length) (List.foldl stF s cs)
 | [],b,c,s,h=>h
 | x :: cs,b,c,s,h=>by
  rw [List.foldl_cons,List.length_cons,show b+2*(cs.length+1)=b+2+2*cs.length by omega,show c+2*(cs.length+1)=c+2+2*cs.length by omega]
  refine zkG cs (b+2) (c+2) _ ?_
  obtain ⟨h1,h2,h3⟩:=h
  have hq:=zlX h1
  have hO:=zhu (c:=x) (k:=4) hq rfl
  have hT:=zhu (c:=x) (k:=5) hq rfl
  have hM:=zln (c:=x) (k:=6) rfl
  unfold stF Let
  dsimp only
  generalize zae x 4 ↑101=one at *
  generalize zae x 5 ↑101=two at *
  generalize zae x 6 5-2=many at *
  by_cases e:one=two
  ·rw [decide_eq_true e]
   exact ⟨⟨h1.1,λr hr=>⟨(h1.2 r hr).1,((h1.2 r hr).2).mono ↑0⟩⟩,λt ht=>⟨(h2 t ht).1,((h2 t ht).2).mono ↑0⟩,h3⟩
  ·rw [decide_eq_false e]
   have hl:=zg4 hO hT (by simp [e])
   obtain ⟨o,rfl⟩:∃ o:Nat,one=(o:Int):=⟨one.toNat,by omega⟩
   obtain ⟨w,rfl⟩:∃ w:Nat,two=(w:Int):=⟨two.toNat,by omega⟩
   have how:o≠w:=λz=>e (by rw [z])
   have ho:o<s.1.length:=by rw [h1.1];omega
   have hw:w<s.1.length:=by rw [h1.1];omega
   have ge:∀ {i:Nat} (hi:i<s.1.length),ixD s.1 (i:Int)=s.1[i]:=λhi=>zbU (List.getElem?_eq_getElem hi)
   show StJ n k (b+2) (c+2) (zdn s.1 (w:Int) _,List.map _ s.2)
   rw [ge ho,ge hw,zij hw]
   have ro:=h1.2 _ (List.getElem_mem ho)
   have rw':=h1.2 _ (List.getElem_mem hw)
   refine ⟨⟨by rw [List.length_set];exact h1.1,λr hr=>?_⟩,λt ht=>?_,λt ht j hj=>?_⟩
   ·rcases List.mem_or_eq_of_mem_set hr with h' | rfl
    ·exact ⟨(h1.2 r h').1,((h1.2 r h').2).mono ↑0⟩
    ·exact ⟨by rw [List.length_map,List.length_zip,ro.1,rw'.1];omega,(znO rw'.2 ro.2 hM).1⟩
   ·obtain ⟨ns,hns,rfl⟩:=List.mem_map.mp ht
    have hn:=h2 ns hns
    refine ⟨by rw [zgi];exact hn.1,λy hy=>?_⟩
    have a4:(2:Nat)^(c+2)=4*2^c:=by rw [Nat.pow_add];omega
    rcases Lat.zhK hy with rfl | hy
    ·have b1:=hn.2 _ (zb3 (xs:=ns) (i:=(o:Int)) (by unfold InB;omega))
     have b2:=hn.2 _ (zb3 (xs:=ns) (i:=(w:Int)) (by unfold InB;omega))
     have b3:(many*ixD ns (w:Int)).natAbs≤2*2^c:=by rw [Int.natAbs_mul];exact Nat.mul_le_mul ↑0 b2
     rw [a4];omega
    ·have:=hn.2 y hy
     rw [a4];omega
   ·obtain ⟨ns,hns,rfl⟩:=List.mem_map.mp ht
    have hn:=h2 ns hns
    have no:o<ns.length:=by omega
    have nw:w<ns.length:=by omega
    have e1:ixD ns (o:Int)=ns[o]:=zbU (List.getElem?_eq_getElem no)
    have e2:ixD ns (w:Int)=ns[w]:=zbU (List.getElem?_eq_getElem nw)
    rw [zij no,e1,e2,zoZ]
    rw [Lat.zkc (t1:=ns[o]) (t2:=ns[w]) (a1:=Lat.vec s.1[o]) (a2:=Lat.vec s.1[w]) how (List.getElem?_eq_getElem no) (List.getElem?_eq_getElem nw) (by rw [List.getElem?_map,List.getElem?_eq_getElem ho];rfl) (by rw [List.getElem?_map,List.getElem?_eq_getElem hw];rfl) (Lat.zfY (by rw [ro.1,rw'.1]))]
    exact h3 ns hns j hj
theorem zmI {W b:Nat}:∀ (l:List (Ji×Int)) (acc:Jq),(∀ p∈l,p.1.length=W∧Lat.Bit b p.1∧0≤p.2∧p.2≤1000000001)->Lat.RB W (b+30) acc->(List.foldl ↑211 acc l).length≤acc.length+l.length∧Lat.RB W (b+30) (List.foldl ↑211 acc l)
 | [],acc,_,h=>⟨Nat.le_refl _,h⟩
 | p :: l,acc,hl,h=>by
  have hp:=hl p List.mem_cons_self
  rw [List.foldl_cons]
  have hn:((bif (decide ((0:Int)<p.2)) then (acc++[List.map (λ(y:Int)=>(p.2*y)) p.1]) else acc)).length≤acc.length+1∧Lat.RB W (b+30) (bif (decide ((0:Int)<p.2)) then (acc++[List.map (λ(y:Int)=>(p.2*y)) p.1]) else acc):=by
   cases decide ((0:Int)<p.2)
   ·exact ⟨Nat.le_succ _,h⟩
   ·refine ⟨by rw [cond_true,List.length_append,List.length_singleton];exact Nat.le_refl _,λr hr=>?_⟩
    rcases List.mem_append.mp hr with hr | hr
    ·exact h r hr
    ·rw [List.mem_singleton.mp hr]
     refine ⟨by rw [List.length_map];exact hp.1,λy hy=>?_⟩
     obtain ⟨z,hz,rfl⟩:=List.mem_map.mp hy
     rw [Int.natAbs_mul,Nat.pow_add,Nat.mul_comm]
     exact Nat.mul_le_mul (hp.2.1 z hz) (Nat.le_trans (show p.2.natAbs≤1000000001 by omega) ↑1)
  have:=zmI l _ (λq hq=>hl q (List.mem_cons_of_mem _ hq)) hn.2
  refine ⟨Nat.le_trans this.1 ?_,this.2⟩
  rw [List.length_cons]
  have:=hn.1
  omega
theorem zr8 {W k:Nat} {a:Jq} {idle:Int} (h0:0≤idle) {w:Int}:zvd W (a++List.map (λ(_:Int)=>zc7 w [(0:Int)]) ↑115) (List.map (λ(x:Int)=>List.map (λ(y:Int)=>(if (decide (y=(↑111+x))) then (1:Int) else 0)) (zbf 0 (↑111+idle).toNat)) ↑115):=λt ht j _=>by
 obtain ⟨x,hx,rfl⟩:=List.mem_map.mp ht
 have hx0:=(zla.mp hx).1
 refine Lat.zib λi y v h1 h2=>?_
 rw [List.getElem?_map] at h1 h2
 cases q:(zbf 0 (↑111+idle).toNat)[i]? with
 | none=>rw [q] at h1;cases h1
 | some z =>
  rw [q] at h1
  obtain ⟨g1,g2⟩:=zbe q
  have h1:(if (decide (z=(↑111+x))) then (1:Int) else 0)=y:=Option.some.inj h1
  by_cases e:i<a.length
  ·rw [decide_eq_false ↑0] at h1
   rw [← h1];simp
  ·rw [List.getElem?_append_right ↑0,List.getElem?_map] at h2
   cases q2:(↑115)[i-a.length]? with
   | none=>rw [q2] at h2;cases h2
   | some z2 =>
    rw [q2] at h2
    have h2:Lat.vec (zc7 w [(0:Int)])=v:=Option.some.inj h2
    rw [← h2]
    have:Lat.vec (zc7 w [(0:Int)]) j=0:=by
     by_cases hw:0≤w
     ·obtain ⟨n,rfl⟩:∃ n:Nat,w=(n:Int):=⟨w.toNat,by omega⟩
      exact Lat.ze3
     ·unfold zc7
      rw [show w.toNat=0 by omega]
      simp [Lat.vec]
    rw [this];simp
theorem zix {W b:Nat} {rows:Jq} {bs cs:Ji} {idle:Int} (hr:rows.length=W∧Lat.RB W b rows) (hw:W≤8) (hb:∀ x∈bs,0≤x∧x≤1000000001) (hi:0≤idle∧idle≤3) :
  ∃ k,k≤11∧StJ W k (b+30+2*cs.length) (2*cs.length) (zaQ rows bs idle cs):=by
 have h0:=zmI (W:=W) (b:=b) (List.zip rows bs) [] (λp hp=>by
  have:=List.of_mem_zip (a:=p.1) (b:=p.2) hp
  exact ⟨(hr.2 _ this.1).1,(hr.2 _ this.1).2,hb _ this.2⟩) (λr hr=>by simp at hr)
 rw [List.length_zip,List.length_nil,Nat.zero_add] at h0
 unfold zaQ
 generalize ha:(List.foldl ↑211 [] (List.zip rows bs))=a at h0
 show ∃ k,k≤11∧StJ W k _ _ (List.foldl stF (a++List.map (λ(_:Int)=>zc7 ((rows.length:Nat):Int) [(0:Int)]) ↑115,List.map (λ(x:Int)=>List.map (λ(y:Int)=>(if (decide (y=(↑111+x))) then (1:Int) else 0)) (zbf 0 (↑111+idle).toNat)) ↑115) cs)
 have hl:=hr.1
 refine ⟨a.length+idle.toNat,by have:=h0.1;omega,?_⟩
 have:=zkG (n:=W) (k:=a.length+idle.toNat) cs (b+30) 0 (a++List.map (λ(_:Int)=>zc7 ((rows.length:Nat):Int) [(0:Int)]) ↑115,List.map (λ(x:Int)=>List.map (λ(y:Int)=>(if (decide (y=(↑111+x))) then (1:Int) else 0)) (zbf 0 (↑111+idle).toNat)) ↑115) ⟨⟨by rw [List.length_append,List.length_map,zaO],λr hr'=>?_⟩,λt ht=>?_,zr8 (k:=0) (a:=a) (w:=((rows.length:Nat):Int)) hi.1⟩
 ·rw [Nat.zero_add] at this
  exact this
 ·rcases List.mem_append.mp hr' with hr' | hr'
  ·exact h0.2 r hr'
  ·obtain ⟨x,_,rfl⟩:=List.mem_map.mp hr'
   refine ⟨by rw [Lat.zdc];exact hl,λy hy=>?_⟩
   obtain ⟨j,_,rfl⟩:=Lat.zmN hy
   rw [Lat.ze3];exact Nat.zero_le _
 ·obtain ⟨x,_,rfl⟩:=List.mem_map.mp ht
  refine ⟨by rw [List.length_map,zaO];omega,λy hy=>?_⟩
  obtain ⟨z,_,rfl⟩:=List.mem_map.mp hy
  cases decide (z=(↑111+x))<;>decide
theorem zoE:∀ (cs:Ji) (s:Jq×Jq),((List.foldl stF s cs)).2.length=s.2.length
 | [],_=>rfl
 | c :: cs,s=>by
  rw [List.foldl_cons,zoE cs]
  unfold stF Let
  dsimp only
  cases (!decide (zae c (4:Int) ↑101=zae c (5:Int) ↑101))
  ·rfl
  ·rw [cond_true,List.length_map]
abbrev Sd4:=T4 Jq Jq Ji Jq
theorem ztJ {w x k i:Int} {cs o:Ji} {f:Jq×Jq} (hW:1≤w∧w≤8) (hF:f=zbZ w cs) (hO:o=za3 w x k) (hI:0≤i∧i≤3):StP f.1 o i:=by
 obtain ⟨W,hWW⟩:∃ W:Nat,w=(W:Int):=⟨w.toNat,by omega⟩
 have h:=zlc (cs:=cs) hWW hW.1
 rw [← hF] at h
 have b:=zpL (w:=w) (c:=x) (f:=k) ↑0
 rw [← hO] at b
 exact ⟨W,by omega,by omega,zlX h.1,by omega,b.2,hI.1,hI.2⟩
theorem znl {w:Int} {W:Nat} (hw:w=(W:Int)) (h1:1≤w):∀ (cs:Ji) (s:Jq×Jq),Lat.Du W s->Lat.Du W (List.foldl (frF w) s cs)
 | [],s,h=>h
 | c :: cs,s,h=>by
  rw [List.foldl_cons]
  refine znl hw h1 cs _ ?_
  have hO:=zeV (c:=c) (k:=1) hw h1 rfl
  have hT:=zeV (c:=c) (k:=2) hw h1 rfl
  unfold frF Let
  dsimp only
  generalize zae c 1 w=one at *
  generalize zae c 2 w=two at *
  generalize zae c 3 5-2=many at *
  by_cases e:one=two
  ·rw [decide_eq_true e];exact h
  ·rw [decide_eq_false e]
   obtain ⟨o,rfl⟩:∃ o:Nat,one=(o:Int):=⟨one.toNat,by omega⟩
   obtain ⟨t,rfl⟩:∃ t:Nat,two=(t:Int):=⟨two.toNat,by omega⟩
   have ho1:o<s.1.length:=by rw [h.l1];omega
   have ht1:t<s.1.length:=by rw [h.l1];omega
   have ho2:o<s.2.length:=by rw [h.l2];omega
   have ht2:t<s.2.length:=by rw [h.l2];omega
   have g1:=List.getElem?_eq_getElem ho1;have g2:=List.getElem?_eq_getElem ht1
   have g3:=List.getElem?_eq_getElem ho2;have g4:=List.getElem?_eq_getElem ht2
   show Lat.Du W (zdn s.1 (t:Int) _,zdn s.2 (o:Int) _)
   rw [zbU g1,zbU g2,zbU g3,zbU g4,zij ht1,zij ho2]
   exact h.step many (λz=>e (by rw [z])) g1 g2 g3 g4
theorem zph {w:Int} {W:Nat} {cs:Ji} (hw:w=(W:Int)) (h1:1≤w):Lat.Du W (zbZ w cs):=by
 have h:=znl hw h1 cs (List.map ↑163 (zbf 0 w.toNat),List.map (λ(x:Ji)=>x) (List.map ↑163 (zbf 0 w.toNat))) (by
  rw [List.map_id']
  exact Lat.Du.start (by rw [hw,Int.toNat_natCast]))
 exact h
theorem zoc:∀ (cs:Ji) (s:Jq×Jq),((List.foldl stF s cs)).1.length=s.1.length
 | [],_=>rfl
 | c :: cs,s=>by
  rw [List.foldl_cons,zoc cs]
  unfold stF Let
  dsimp only
  cases (!decide (zae c (4:Int) ↑101=zae c (5:Int) ↑101))
  ·rfl
  ·rw [cond_true,zgi]
theorem zs1 {n k:Nat} {u:Lat.Vc}:∀ (cs:Ji) (b c:Nat) (s:Jq×Jq),StJ n k b c s->(Lat.SpL ((List.foldl stF s cs)).1 u ↔ Lat.SpL s.1 u)
 | [],_,_,_,_=>Iff.rfl
 | x :: cs,b,c,s,h=>by
  have h':=zkG [x] b c s h
  rw [List.foldl_cons]
  refine (zs1 cs _ _ _ h').trans ?_
  obtain ⟨h1,h2,h3⟩:=h
  have hq:=zlX h1
  have hO:=zhu (c:=x) (k:=4) hq rfl
  have hT:=zhu (c:=x) (k:=5) hq rfl
  show Lat.SpL (stF s x).1 u ↔ _
  unfold stF Let
  dsimp only
  generalize zae x 4 ↑101=one at *
  generalize zae x 5 ↑101=two at *
  generalize zae x 6 5-2=many at *
  by_cases e:one=two
  ·rw [decide_eq_true e];exact Iff.rfl
  ·rw [decide_eq_false e]
   have hl:=zg4 hO hT (by simp [e])
   obtain ⟨o,rfl⟩:∃ o:Nat,one=(o:Int):=⟨one.toNat,by omega⟩
   obtain ⟨t,rfl⟩:∃ t:Nat,two=(t:Int):=⟨two.toNat,by omega⟩
   have ho:o<s.1.length:=by rw [h1.1];omega
   have ht:t<s.1.length:=by rw [h1.1];omega
   have g1:=List.getElem?_eq_getElem ho;have g2:=List.getElem?_eq_getElem ht
   show Lat.SpL (zdn s.1 (t:Int) _) u ↔ _
   rw [zbU g1,zbU g2,zij ht]
   exact Lat.zot (λz=>e (by rw [z])) g1 g2 λk=>Lat.zfY (by rw [(h1.2 _ (List.mem_of_getElem? g1)).1,(h1.2 _ (List.mem_of_getElem? g2)).1])
theorem zli:∀ (l:List (Ji×Int)) (acc:Jq),List.foldl ↑211 acc l=acc++(l.filter λp=>decide (0<p.2)).map λp=>List.map (λ(y:Int)=>p.2*y) p.1
 | [],acc=>by simp
 | p :: l,acc=>by
  rw [List.foldl_cons,zli l]
  show (bif (decide ((0:Int)<p.2)) then (acc++[List.map (λ(y:Int)=>(p.2*y)) p.1]) else acc)++_=_
  by_cases q:(0:Int)<p.2
  ·rw [decide_eq_true q,List.filter_cons_of_pos ↥(decide_eq_true q),List.map_cons];simp
  ·rw [decide_eq_false q,List.filter_cons_of_neg (by simpa using q)];rfl
theorem ziE {W b:Nat} {rows:Jq} {bs cs:Ji} {idle:Int} {u:Lat.Vc} (hr:rows.length=W∧Lat.RB W b rows) (hw:W≤8) (hb:∀ x∈bs,0≤x∧x≤1000000001) (hi:0≤idle∧idle≤3) :
  (Lat.SpL ((zaQ rows bs idle cs)).1 u ↔ Lat.SpL (Lat.scl rows bs) u)∧((zaQ rows bs idle cs)).1.length≤W+idle.toNat:=by
 obtain ⟨k,k1,k2⟩:=zix (cs:=[]) (bs:=bs) hr hw hb hi
 have e:zaQ rows bs idle cs=List.foldl stF (zaQ rows bs idle []) cs:=rfl
 have e0:(zaQ rows bs idle []).1=Lat.scl rows bs++List.map (λ(_:Int)=>zc7 ((rows.length:Nat):Int) [(0:Int)]) ↑115:=by
  show (List.foldl ↑211 [] (List.zip rows bs))++_=_
  rw [zli,List.nil_append];rfl
 rw [e,zoc]
 refine ⟨(zs1 cs _ _ _ k2).trans ?_,?_⟩
 ·rw [e0]
  refine Lat.znP λs hs j=>?_
  obtain ⟨_,_,rfl⟩:=List.mem_map.mp hs
  exact Lat.ze3
 ·rw [e0,List.length_append,List.length_map,zaO]
  have:(Lat.scl rows bs).length≤rows.length:=by
   unfold Lat.scl
   rw [List.length_map]
   exact Nat.le_trans (List.length_filter_le _ _) ↑199
  have:=hr.1
  omega
theorem zl4 {W b:Nat} {rows:Jq} {bs cs:Ji} {idle:Int} (hr:rows.length=W∧Lat.RB W b rows) (hw:W≤8) (hb:∀ x∈bs,0≤x∧x≤1000000001) (hi:0≤idle∧idle≤3):Lat.RB W (b+30+2*cs.length) ((zaQ rows bs idle cs)).1:=by
 obtain ⟨k,k1,k2⟩:=zix (cs:=cs) (bs:=bs) hr hw hb hi
 exact k2.1.2
def zbn (P0:Ji) (P1:Int) (P2:Int) (P3:Int):↑24 :=
 (Let (↑34/(2:Int)) (λ(hv279:Int)=>(Let (zbZ P1 (zcs P0 none (some hv279))) (λ(p280:(Jq×Jq))=>(Let (za3 P1 P2 (7:Int)) (λ(v281:Ji)=>(Let ((zaQ p280.1 v281 P3 (zcs P0 (some hv279) none)).1) (λ(v282:Jq)=>(T4.mk p280.1 p280.2 v281 v282)))))))))
def zeX (P0:Ji) (P1:Int) (P2:Int) (P3:Int):Prop:=(1≤P1∧P1≤8)∧0≤P3∧P3≤3
def zgu (K:W.Frag) (A:Adr):Sp:=Spv (ι:=Ji×Int×Int×Int) (λx=>[dQ K (List.map dI x.1),dI x.2.1,dI x.2.2.1,dI x.2.2.2]) (λx=>zeX x.1 x.2.1 x.2.2.1 x.2.2.2) (λx=>↥[dT [dL (List.map lI (((zbn x.1 x.2.1 x.2.2.1 x.2.2.2)).a)),dL (List.map lI (((zbn x.1 x.2.1 x.2.2.1 x.2.2.2)).b)),dL (List.map dI (((zbn x.1 x.2.1 x.2.2.1 x.2.2.2)).c)),dL (List.map lI (((zbn x.1 x.2.1 x.2.2.1 x.2.2.2)).d))]])
theorem zdW:FnScope ["_law_cells","_law_wide","_law_cell_here","_law_idle","_law_half","_law_rows","_law_duals","_law_bottoms_here","_law_swaps"] ["_law_cells","_law_wide","_law_cell_here","_law_idle"] (zad zeD):=⇑4
theorem zk2 (F:Fun K "_law_side" "_law_side" zeD f fd) (T:Txt K mg A) (ya0:Callee P w K mg base ⇑1 2 "_law_bottoms" ["_law_wide","_law_cell_here","_law_far"] (ze5 K A)) (ybI:Callee P w K mg base ⇑1 2 "_law_frame" ["_law_wide","_law_cells"] (zf0 K A)) (ya1:Callee P w K mg base ⇑1 2 "_law_stirred" ["_law_rows","_law_bottoms_here","_law_idle","_law_cells"] (ze2 K A)):FnOk P w K mg base ⇑1 3 f fd ["_law_cells","_law_wide","_law_cell_here","_law_idle"] (zgu K A):=by
 refine F.okV zdW ↥4 ⇑8
 obtain ⟨P0,P1,P2,P3⟩:=x
 have hu:=hr.units
 replace hp:zeX P0 P1 P2 P3:=hp
 unfold zeX at hp
 refine ⟨_,(zac (zaq (i:=4) zdW.nd rfl ⇑0 (zaz zcw ↑187 zai)) (zac (zgY (zaT ybI ↥1 rfl zaL ↑[pv 1,(zd9 ↑121 (pv 0) zgz (zdX (pv 4)))]) (zbu (K:=K) (n:=2) rfl rfl (zaG (zan (i:=5) zdW.nd rfl ⇑0 ⇑0) (zaG (zan (i:=6) zdW.nd rfl ⇑0 ⇑0) zci)))) (zac (zaq (i:=7) zdW.nd rfl ⇑0 (zaT ya0 ↥1 rfl zaL ↑[pv 1,pv 2,zai])) (zac (zaq (i:=8) zdW.nd rfl ⇑0 (zaS ↑42 (zaT ya1 ↥1 rfl zaL ↑[pv 5,pv 7,pv 3,(zd9 ↑121 (pv 0) (zdX (pv 4)) zgz)]) zai ↥3)) (zac (zaR (zfJ ↑[pv 5,pv 6,pv 7,pv 8])) zaf))))),.inl ?_⟩
 show L2.Run _ ([⇑[dQ K ↥5],⇑[dI P1],⇑[dI P2],⇑[dI P3],.no,.no,.no,.no,.no]:L2.Ctx) _ (↑210 (zbn P0 P1 P2 P3))
 unfold zbn
 exact (zao (m:=true) (x:=(↑34/(2:Int))) dI ↑210 (zaN (x:=↑34) (y:=(2:Int)) (zaZ (f:=dI) (xs:=P0) ↑2) zaD ↥(↑5)) (λhv279 hhalf279=>(zfR (m:=true) (x:=(zbZ P1 (zcs P0 none (some hv279)))) (λ(p280:(Jq×Jq))=>dL (List.map lI p280.1)) (λ(p280:(Jq×Jq))=>dL (List.map lI p280.2)) ↑210 (zau (x:=(P1,(zcs P0 none (some hv279)))) (zab ↥6 (zab (Ev.weak (K:=K) (EvO.ev (EvO.anyI (m:=false) (ze6 (f:=dI) (xs:=P0) ↑2 zfB (zcX ↑71))))) zag)) rfl (by show zeu P1 (zcs P0 none (some hv279));exact hp.1) rfl) (λp280 hp280=>have hF:=hp280;(zao (m:=true) (x:=(za3 P1 P2 (7:Int))) lI ↑210 (EvO.ev (EvO.anyI (m:=true) (zcH (x:=(P1,P2,(7:Int))) (zab ↥6 (zab ↑43 ↑28)) rfl (by show zdz P1 P2 (7:Int);exact ⟨by omega,by omega,by decide,by decide⟩) rfl))) (λv281 hv281=>have hB:=hv281;(zao (m:=true) (x:=(zaQ p280.1 v281 P3 (zcs P0 (some hv279) none)).1) ↑104 ↑210 (zbM (zau (x:=(p280.1,v281,P3,(zcs P0 (some hv279) none))) (zab (Ev.old ↑127) (zab (Ev.old (Ev.weak (K:=K) (zaa (i:=7) rfl))) (zab (Ev.any (m:=false) ↑38) (zab (Ev.weak (K:=K) (EvO.ev (EvO.anyI (m:=false) (ze6 (f:=dI) (xs:=P0) ↑2 (zcX ↑71) zfB)))) zag)))) rfl (by show zdC p280.1 v281 P3 (zcs P0 (some hv279) none);exact ztJ hp.1 hF hB hp.2) rfl) zaD rfl) (λv282 hv282=>(zak (zaH (zfH (zab ↑119 (zab ↑73 (zab (zaa (i:=7) rfl) (zab (zaa (i:=8) rfl) zag)))) (by show 4≤sizeLine;decide))))))))))))
structure Sd71 (W fb sb:Nat) (y:Sd4):Prop where
 w1:1≤W
 w8:W≤8
 du:Lat.Du W (y.a,y.b)
 ra:∀ r∈y.a,Lat.Bit fb r
 rb:∀ r∈y.b,Lat.Bit fb r
 bl:y.c.length=W
 b0:∀ b∈y.c,0≤b∧b≤1000000001
 ln:y.d.length≤W+1
 sr:∀ r∈y.d,r.length=W∧Lat.Bit sb r
 sp:∀ u,Lat.SpL y.d u ↔ Lat.SpL (Lat.scl y.a y.c) u
theorem zrf {W h:Nat} {w c idle:Int} {cs:Ji} (hw:w=(W:Int)) (h1:1≤w∧w≤8) (hI:0≤idle∧idle≤1) (hc:cs.length≤2*h):Sd71 W (2*h) (2*h+30+2*h) (zbn cs w c idle):=by
 unfold zbn Let
 dsimp only
 obtain ⟨n,hn⟩:∃ n:Nat,((cs.length:Nat):Int)/2=(n:Int):=⟨cs.length/2,by omega⟩
 rw [hn]
 have c1:(zcs cs none (some (n:Int))).length≤h:=by
  have:(zcs cs none (some (n:Int))).length≤n:=by unfold zcs;simp only [HT.sIx_nat,HT.sIx_none,List.length_take,List.length_drop];omega
  omega
 have c2:(zcs cs (some (n:Int)) none).length≤h:=by
  have:(zcs cs (some (n:Int)) none).length≤cs.length-n:=by unfold zcs;simp only [HT.sIx_nat,HT.sIx_none,List.length_take,List.length_drop];omega
  omega
 generalize zcs cs none (some (n:Int))=ca at *
 generalize zcs cs (some (n:Int)) none=cb at *
 have hF:=zlc (cs:=ca) hw h1.1
 have b:=zpL (w:=w) (c:=c) (f:=7) ↑0
 have sb:=zl4 (cs:=cb) (bs:=za3 w c 7) hF.1 ↑0 b.2 ⟨hI.1,by omega⟩
 refine ⟨by omega,by omega,zph hw h1.1,λr hr=>((hF.1.2 r hr).2).mono ↑0,λd hd=>((hF.2.2 d hd).2).mono ↑0,by have:=b.1;show (za3 w c 7).length=W;omega,b.2,?_,λr hr=>⟨(sb r hr).1,((sb r hr).2).mono ↑0⟩,λu=>(ziE (u:=u) hF.1 ↑0 b.2 ⟨hI.1,by omega⟩).1⟩
 have:=(ziE (cs:=cb) (bs:=za3 w c 7) (u:=λ_=>0) hF.1 ↑0 b.2 ⟨hI.1,by omega⟩).2
 show (zaQ _ _ _ _).1.length≤_
 omega
def GcI (a b:Int) (p:Int×Int):Prop:=0≤p.1∧0≤p.2∧Int.gcd p.1 p.2=Int.gcd a b
theorem GcI.start {a b:Int} (h:0≤a∧0≤b):GcI a b (a,b):=⟨h.1,h.2,rfl⟩
theorem GcI.step {a b:Int} {p:Int×Int} (I:GcI a b p) (h:decide ((0:Int)<p.2)=true):GcI a b (p.2,p.1%p.2)∧(p.1%p.2).toNat<p.2.toNat:=by
 have h:=of_decide_eq_true h
 obtain ⟨h1,h2,h3⟩:=I
 have m0:=Int.emod_nonneg p.1 (show p.2≠0 by omega)
 have m1:=Int.emod_lt_of_pos p.1 h
 refine ⟨⟨by omega,m0,?_⟩,by omega⟩
 rw [← h3]
 show Int.gcd p.2 (p.1%p.2)=_
 rw [Int.gcd_comm p.1 p.2,Int.gcd_comm p.2 (p.1%p.2)]
 obtain ⟨x,hx⟩:∃ x:Nat,p.1=(x:Int):=⟨p.1.toNat,by omega⟩
 obtain ⟨y,hy⟩:∃ y:Nat,p.2=(y:Int):=⟨p.2.toNat,by omega⟩
 rw [hx,hy,← Int.natCast_emod,Int.gcd_natCast_natCast,Int.gcd_natCast_natCast]
 exact (Nat.gcd_rec y x).symm
def zaA (P0:Int) (P1:Int):Int :=
 (Let (whl (λ(s283:Int×Int)=>(decide ((0:Int)<s283.2))) (λ(s283:Int×Int)=>(s283.2,(s283.1%s283.2))) (P1.toNat) (P0,P1)) (λ(r286:Int×Int)=>r286.1))
def zec (P0:Int) (P1:Int):Prop:=0≤P0∧0≤P1
def zfs (K:W.Frag) (A:Adr):Sp:=Spv (ι:=Int×Int) (λx=>[dI x.1,dI x.2]) (λx=>zec x.1 x.2) (λx=>↥[dI (zaA x.1 x.2)])
theorem zgG:FnScope ["_law_one","_law_other"] ["_law_one","_law_other"] (zad zdt):=⇑4
theorem zi5 (F:Fun K "_law_shared" "_law_shared" zdt f fd) (T:Txt K mg A) :FnOk P w K mg base ⇑1 1 f fd ["_law_one","_law_other"] (zfs K A):=by
 refine F.okV zgG ↥4 ⇑8
 obtain ⟨P0,P1⟩:=x
 have hu:=hr.units
 replace hp:zec P0 P1:=hp
 unfold zec at hp
 refine ⟨_,(zac (zi4 PassesOwn.never (zaJ zki (pv 1) zai (zaP _)) (zac (zrG (i:=0) (j:=1) rfl zgG.nd rfl rfl ↑1 rfl rfl ↑[pv 1,zaz zdB (pv 0) (pv 1)] rfl) zaf)) (zac (zaR (pv 0)) zaf)),.inl ?_⟩
 show L2.Run _ ([⇑[dI P0],⇑[dI P1]]:L2.Ctx) _ (↑26 (zaA P0 P1))
 unfold zaA
 exact (zh9 (s0:=(P0,P1)) (λ(s283:Int×Int)=>([⇑[dI s283.1],⇑[dI s283.2]]:L2.Ctx)) ↑26 (λ(s283:Int×Int)=>(decide ((0:Int)<s283.2))) (λ(s283:Int×Int)=>(s283.2,(s283.1%s283.2))) (λ(s283:Int×Int)=>GcI P0 P1 s283) (λ(s283:Int×Int)=>(s283.2).toNat) (P1.toNat) ↑116 ↥(GcI.start hp) ↥(Nat.le_refl _) (λs283 hI284=>⟨(zay (zaX (x:=s283.2) (y:=(0:Int)) ↥6 zaD)),λhc285=>⟨↥(GcI.step ↥0 ↥0),(run_par (x:=s283.2) (y:=(s283.1%s283.2)) ↥6 (zaN (x:=s283.1) (y:=s283.2) ↑9 ↥6 (by show (0:Int)<_;exact of_decide_eq_true ↥0)) (zar ↑116))⟩⟩) (λr286 hr286 hI hc=>(zak (zaH ↑9))))
theorem znA {a b:Int} (h:0≤a∧0≤b):zaA a b=((Int.gcd a b:Nat):Int):=by
 obtain ⟨⟨h1,h2,h3⟩,h4⟩:=zhM (c:=λ(s:Int×Int)=>decide ((0:Int)<s.2)) (f:=λ(s:Int×Int)=>(s.2,(s.1%s.2))) (I:=GcI a b) (μ:=λs=>s.2.toNat) (λs hs hc=>GcI.step hs hc) (n:=b.toNat) (s:=(a,b)) (GcI.start h) ↥8
 show (whl (λ(s:Int×Int)=>decide ((0:Int)<s.2)) (λ(s:Int×Int)=>(s.2,(s.1%s.2))) b.toNat (a,b)).1=_
 generalize whl (λ(s:Int×Int)=>decide ((0:Int)<s.2)) (λ(s:Int×Int)=>(s.2,(s.1%s.2))) b.toNat (a,b)=r at *
 have h4:=of_decide_eq_false h4
 have e:r.2=0:=by omega
 rw [e,Int.gcd_zero_right] at h3
 omega
def ImP (f s:Sd4) (far:Int):Prop:=f.c.length≤8∧s.c.length≤8∧s.a.length=s.c.length∧(∀ r∈s.a,r.length=s.c.length)∧∀ b∈s.c,0≤b∧b≤1000000001
section
variable {f s:Sd4} {far x y b c m m0 k:Int} {i n:Nat} {l r t:Ji}
theorem zvA (h:ImP f s far) (q:i<(↑177).toNat∧x=0+(i:Int)) (e:b=ixD s.c x):0≤b∧b≤1000000001:=by
 rw [e];exact h.2.2.2.2 _ (zb3 (by unfold InB;omega))
theorem zn4 {α:Type} {l:List α} (q:i<((l.length:Nat):Int).toNat∧x=0+(i:Int)):InB l.length x:=by unfold InB;omega
theorem zrM (h:ImP f s far) (q:i<(↑177).toNat∧x=0+(i:Int)):InB s.a.length x:=by rw [h.2.2.1];exact zn4 q
theorem zjN (hB:0≤b∧b≤1000000001) (h1:↑168=false) (h2:(decide ((0:Int)<y))=true):0<b:=by
 rw [h2] at h1
 have h1:decide (b=0)=false:=h1
 have:=of_decide_eq_false h1
 omega
theorem zt3 (hB:0≤b∧b≤1000000001) (h1:↑168=false) (h2:(decide ((0:Int)<y))=true):0≤b∧0≤y%b:=⟨hB.1,Int.emod_nonneg _ (by have:=zjN hB h1 h2;omega)⟩
theorem ztw (hb:0<b):0<zaA b (y%b)∧zaA b (y%b) ∣ b∧zaA b (y%b) ∣ y:=by
 have hy:=Int.emod_nonneg y (show b≠0 by omega)
 rw [znA ⟨by omega,hy⟩]
 have d1:((Int.gcd b (y%b):Nat):Int) ∣ b:=Int.gcd_dvd_left ..
 have d2:((Int.gcd b (y%b):Nat):Int) ∣ y%b:=Int.gcd_dvd_right ..
 have:0<Int.gcd b (y%b):=Int.gcd_pos_of_ne_zero_left _ ↑0
 refine ⟨by omega,d1,?_⟩
 have e:=Int.dvd_add (Int.dvd_trans d1 (Int.dvd_mul_right b (y/b))) d2
 rw [Int.mul_ediv_add_emod] at e
 exact e
theorem zux (hb:0<b):zaA b (y%b)≤b:=Int.le_of_dvd hb (ztw hb).2.1
theorem zrY (hB:0≤b∧b≤1000000001) (h1:↑168=false) (h2:(decide ((0:Int)<y))=true):zfv b (zaA b (y%b)):=by
 have hb:=zjN hB h1 h2
 have g:=ztw (y:=y) hb
 have:=zux (y:=y) hb
 exact Lat.zfv.of (b:=30) g.1 (show _≤1073741824 by omega) ↑1
theorem zsP (hM0:m0=zae c k (7:Int)-(3:Int)):-3≤m0∧m0≤3:=by
 have:=zev (c:=c) (k:=k) (m:=7) ↑1;omega
theorem ztC (hM0:m0=zae c k (7:Int)-(3:Int)):-(2^64)<m0∧m0<2^64:=by have:=zsP hM0;omega
theorem zuX (hM0:m0=zae c k (7:Int)-(3:Int)) (hB:0≤b∧b≤1000000001) (h:m=bif ↑168 then (0:Int) else (bif (decide ((0:Int)<y)) then (m0*(b/(zaA b (y%b)))) else m0)):-3000000003≤m∧m≤3000000003:=by
 have h3:=zsP hM0
 cases q1:↑168 with
 | true=>rw [q1] at h;have h:m=0:=h;omega
 | false =>
  rw [q1,cond_false] at h
  cases q2:(decide ((0:Int)<y)) with
  | false=>rw [q2,cond_false] at h;omega
  | true =>
   rw [q2,cond_true] at h
   have hb:=zjN hB q1 q2
   have g:=ztw (y:=y) hb
   have d1:0≤b/zaA b (y%b):=Int.ediv_nonneg hB.1 ↑0
   have d2:b/zaA b (y%b)≤b:=Int.ediv_le_self _ hB.1
   generalize b/zaA b (y%b)=z at *
   have:m0=-3∨m0=-2∨m0=-1∨m0=0∨m0=1∨m0=2∨m0=3:=by omega
   rcases this with e | e | e | e | e | e | e<;>(rw [e] at h;omega)
theorem zrV (hy:0≤y) (hB:0≤b∧b≤1000000001) (h:m=bif ↑168 then (0:Int) else (bif (decide ((0:Int)<y)) then (m0*(b/(zaA b (y%b)))) else m0)):b ∣ y*m:=by
 cases q1:↑168 with
 | true=>rw [q1] at h;have h:m=0:=h;rw [h,Int.mul_zero];exact Int.dvd_zero _
 | false =>
  rw [q1,cond_false] at h
  cases q2:(decide ((0:Int)<y)) with
  | false=>have:=of_decide_eq_false q2;rw [show y=0 by omega,Int.zero_mul];exact Int.dvd_zero _
  | true =>
   rw [q2,cond_true] at h
   obtain ⟨g1,⟨u,hu⟩,⟨v,hv⟩⟩:=ztw (y:=y) (zjN hB q1 q2)
   generalize zaA b (y%b)=g at *
   have e:b/g=u:=by rw [hu];exact Int.mul_ediv_cancel_left _ ↑0
   rw [h,e,hv,hu]
   exact ⟨v*m0,by grind⟩
theorem zvw (h:r=zc7 ((n:Nat):Int) [(0:Int)]):r.length=n:=by rw [h,Lat.zdc]
theorem zrQ (h:ImP f s far) (q:i<(↑177).toNat∧x=0+(i:Int)):(ixD s.a x).length=s.c.length:=h.2.2.2.1 _ (zb3 (zrM h q))
theorem ztQ (h:ImP f s far) (hr:r.length=s.c.length):(List.zip r t).length≤PySem.sizeLine:=zal (by rw [List.length_zip];have:=h.2.1;omega)
theorem ztF {ys:Jq} (h:ImP f s far) (hl:ys.length≤i) (q:i<(↑44).toNat∧x=0+(i:Int)):ys.length<PySem.sizeLine:=Nat.lt_of_le_of_lt (show ys.length≤1000 by have:=h.1;omega) ↑1
end
def m_law_images (P0:↑24) (P1:↑24) (P2:Int) (P3:Int):Jq :=
 (Let (List.foldl (λ(s287:Jq) (x288:Int)=>(Let (zc7 ↑176 [(0:Int)]) (λ(v292:Ji)=>(Let (List.foldl (λ(s293:Ji) (x294:Int)=>(Let ((zae P2 ↑171 (7:Int))-(3:Int)) (λ(v298:Int)=>(Let (ixD P1.c x294) (λ(v299:Int)=>(Let (bif (↑139 && (decide (v299=(0:Int)))) then (0:Int) else ↑214) (λ(v302:Int)=>(Let ↑245 (λ(v306:Ji)=>v306))))))))) v292 (zbf 0 (↑176).toNat)) (λ(r307:Ji)=>(s287++[r307])))))) [] (zbf 0 (↑81).toNat)) (λ(r308:Jq)=>r308))
def zdi (P0:↑24) (P1:↑24) (P2:Int) (P3:Int):Prop:=ImP P0 P1 P3
def zfr (K:W.Frag) (A:Adr):Sp:=Spv (ι:=↑24×↑24×Int×Int) (λx=>[dT [dL (List.map lI x.1.a),dL (List.map lI x.1.b),dL (List.map dI x.1.c),dL (List.map lI x.1.d)],dT [dL (List.map lI x.2.1.a),dL (List.map lI x.2.1.b),dL (List.map dI x.2.1.c),dL (List.map lI x.2.1.d)],dI x.2.2.1,dI x.2.2.2]) (λx=>zdi x.1 x.2.1 x.2.2.1 x.2.2.2) (λx=>↥[dL (List.map lI (m_law_images x.1 x.2.1 x.2.2.1 x.2.2.2))])
theorem zbw:FnScope ["_law_first","_law_second","_law_cell_here","_law_far","_law_found","_law_k","_law_image","_law_j","_law_many","_law_bottom"] ["_law_first","_law_second","_law_cell_here","_law_far"] (zad zcQ):=⇑4
theorem zji (F:Fun K "_law_images" "_law_images" zcQ f fd) (T:Txt K mg A) (ybf:Callee P w K mg base ⇑1 1 "_law_shared" ["_law_one","_law_other"] (zfs K A)) (yab:Callee P w K mg base ⇑1 1 "_law_thing" ↑141 (zcU K A)):FnOk P w K mg base ⇑1 2 f fd ["_law_first","_law_second","_law_cell_here","_law_far"] (zfr K A):=by
 refine F.okV zbw ↥4 ⇑8
 obtain ⟨P0,P1,P2,P3⟩:=x
 have hu:=hr.units
 replace hp:zdi P0 P1 P2 P3:=hp
 unfold zdi at hp
 refine ⟨_,(zac (zaq (i:=4) zbw.nd rfl ⇑0 (zbj zeT)) (zac (zcy PassesOwn.never rfl (zbR rfl T.range ↑[↑221]) (zan (i:=5) zbw.nd rfl ⇑0 ⇑0) (zac (zaq (i:=6) zbw.nd rfl ⇑0 (zaz zhr ↑88 (zam ↑51 rfl T.len PySem.boot_len ↑[(zaS ↑42 (pv 1) zai ↥3)]))) (zac (zcy PassesOwn.never rfl (zbR rfl T.range ↑[(zam ↑51 rfl T.len PySem.boot_len ↑[(zaS ↑42 (pv 1) zai ↥3)])]) (zan (i:=7) zbw.nd rfl ⇑0 ⇑0) (zac (zaq (i:=8) zbw.nd rfl ↥2 (zaz zeQ (zaT yab ↥1 rfl zaL ↑[pv 2,zaz zdB (zaz zcG (zaz zcG (pv 3) (zaz zbI zai (pv 5))) (pv 7)) zai,zai]) zai)) (zac (zaq (i:=9) zbw.nd rfl ⇑0 (zaS ↑7 (zaS ↑42 (pv 1) zai ↥3) (pv 7) ↥3)) (zac (zcp (PW.pt (zlM (zaJ zki (zaS ↑7 ↑201 (pv 5) ↥3) zai (zaP _)) (zjd (zaJ zgr (pv 9) zai (zaP _))))) (zac (zaq (i:=8) zbw.nd rfl ↥2 zai) zaf) (zac (zcp (zaJ zki (zaS ↑7 ↑201 (pv 5) ↥3) zai (zaP _)) (zac (zaq (i:=8) zbw.nd rfl ↥2 (zaz zbI (pv 8) (zaz zcw (pv 9) (zaT ybf ↥1 rfl zaL ↑[pv 9,(zaz zdB (zaS ↑7 ↑201 (pv 5) ↥3) (pv 9))])))) zaf) zaf) zaf)) (zac (zeI (i:=6) rfl zbw.nd rfl rfl (.of (osc:=(zad zcQ)) (N:=["_law_first","_law_second","_law_cell_here","_law_far","_law_found","_law_k","_law_image","_law_j","_law_many","_law_bottom"]) (own:=["_law_a","_law_b"]) (fvn:=["_law_many"]) (fv:=[8]) rfl rfl ↑4) (zc6 (K:=K) rfl rfl T.zip ↑[pv 6,(zaS ↑7 (zaS ↑42 (pv 1) zai ↥3) (pv 7) ↥3)]) ↑237) zaf))))) (zac (zc9 (zch (K:=K) rfl (pv 4) ↑[pv 6])) zaf)))) (zac (zaR (pv 4)) zaf))),.inl ?_⟩
 show L2.Run _ ([⇑[dT [dL ↑14,dL ↑15,dL ↑13,dL ↑16]],⇑[dT [dL ↑157,dL ↑158,dL ↑156,dL ↑159]],⇑[dI P2],⇑[dI P3],.no,.no,.no,.no,.no,.no]:L2.Ctx) _ (↑138 (m_law_images P0 P1 P2 P3))
 unfold m_law_images
 exact (zeb (m:=true) (ds:=List.map lI []) ↑154 (zbL (s0:=[]) (λ(s287:Jq)=>([⇑[dT [dL ↑14,dL ↑15,dL ↑13,dL ↑16]],⇑[dT [dL ↑157,dL ↑158,dL ↑156,dL ↑159]],⇑[dI P2],⇑[dI P3],.ow true (List.map lI s287),.no,.no,.no,.no,.no]:L2.Ctx)) ↑138 (λ(s287:Jq) (x288:Int)=>(Let (zc7 ↑176 [(0:Int)]) (λ(v292:Ji)=>(Let (List.foldl (λ(s293:Ji) (x294:Int)=>(Let ((zae P2 ↑171 (7:Int))-(3:Int)) (λ(v298:Int)=>(Let (ixD P1.c x294) (λ(v299:Int)=>(Let (bif (↑139 && (decide (v299=(0:Int)))) then (0:Int) else ↑214) (λ(v302:Int)=>(Let ↑245 (λ(v306:Ji)=>v306))))))))) v292 (zbf 0 (↑176).toNat)) (λ(r307:Ji)=>(s287++[r307])))))) (λ(i:Nat) (s287:Jq)=>s287.length≤i) (zdq (m:=true) (n:=↑81) (zaZ (f:=dI) (xs:=P0.c) ↑103) (by have z1:=hp.1;have z2:=hp.2.1;refine ⟨?_,?_⟩<;>omega)) ↑148 ↥(Nat.le_refl 0) (λi289 x288 s287 hx290 hI291=>have v290:=zbe hx290;⟨↥(zpQ ↥0),(zao (m:=true) (x:=(zc7 ↑176 [(0:Int)])) lI (λz=>Oc.nx ((λ(s287:Jq)=>([⇑[dT [dL ↑14,dL ↑15,dL ↑13,dL ↑16]],⇑[dT [dL ↑157,dL ↑158,dL ↑156,dL ↑159]],⇑[dI P2],⇑[dI P3],.ow true (List.map lI s287),.no,.no,.no,.no,.no]:L2.Ctx)) z)) (EvO.ev (zfU (f:=dI) (xs:=[(0:Int)]) (n:=↑176) ↑77 (zaZ (f:=dI) (xs:=P1.c) (Ev.weak (K:=K) (zbM ⇑3 zaD rfl))) (by have z2:=hp.2.1;constructor<;>omega) (by have z2:=hp.2.1;exact zal ↑126))) (λv292 hv292=>have hI:=hv292;(zbL (s0:=v292) ↑207 (λz=>Oc.nx ((λ(s287:Jq)=>([⇑[dT [dL ↑14,dL ↑15,dL ↑13,dL ↑16]],⇑[dT [dL ↑157,dL ↑158,dL ↑156,dL ↑159]],⇑[dI P2],⇑[dI P3],.ow true (List.map lI s287),.no,.no,.no,.no,.no]:L2.Ctx)) z)) (λ(s293:Ji) (x294:Int)=>(Let ((zae P2 ↑171 (7:Int))-(3:Int)) (λ(v298:Int)=>(Let (ixD P1.c x294) (λ(v299:Int)=>(Let (bif (↑139 && (decide (v299=(0:Int)))) then (0:Int) else ↑214) (λ(v302:Int)=>(Let ↑245 (λ(v306:Ji)=>v306))))))))) (λ(i:Nat) (s293:Ji)=>s293.length=P1.c.length) (zdq (m:=true) (n:=↑176) (zaZ (f:=dI) (xs:=P1.c) (Ev.weak (K:=K) (zbM ⇑3 zaD rfl))) (by have z1:=hp.1;have z2:=hp.2.1;refine ⟨?_,?_⟩<;>omega)) ↑148 ↥(zvw hI) (λi295 x294 s293 hx296 hI297=>have v296:=zbe hx296;⟨(by unfold Let;rw [List.length_map,List.length_zip,zrQ hp ↥0];omega),(zao (m:=true) (x:=((zae P2 ↑171 (7:Int))-(3:Int))) dI (λz=>Oc.nx (↑207 z)) (zaX (x:=(zae P2 ↑171 (7:Int))) (y:=(3:Int)) (Ev.any (m:=true) (zau (x:=(P2,↑171,(7:Int))) (zab ↑43 (zab (zaN (x:=((P3+((8:Int)*x288))+x294)) (y:=(60:Int)) (zaX (x:=(P3+((8:Int)*x288))) (y:=x294) (zaX (x:=P3) (y:=((8:Int)*x288)) (Ev.any (m:=false) ↑38) (zaN (x:=(8:Int)) (y:=x288) zaD ↑12 ↥(.inl ↑5))) ↑102) zaD ↑1) ↑28)) rfl (by show za2 P2 ↑171 (7:Int);exact ⟨Int.emod_nonneg _ ↑1,Int.le_of_lt (Int.lt_of_lt_of_le (Int.emod_lt_of_pos _ ↑1) ↑1),by decide⟩) rfl)) zaD) (λv298 hv298=>have hM0:=hv298;(zao (m:=true) (x:=(ixD P1.c x294)) dI (λz=>Oc.nx (↑207 z)) (Ev.any (m:=false) (zbd (f:=dI) (xs:=P1.c) (Ev.weak (K:=K) (zbM ⇑3 zaD rfl)) ↑102 ↥(zn4 ↥0))) (λv299 hv299=>have hB:=zvA hp ↥0 hv299;(zc3 (b:=(↑139 &&(decide (v299=(0:Int))))) (λbb=>([⇑[dT [dL ↑14,dL ↑15,dL ↑13,dL ↑16]],⇑[dT [dL ↑157,dL ↑158,dL ↑156,dL ↑159]],⇑[dI P2],⇑[dI P3],.ow true (List.map lI s287),↥[dI x288],↥[dL (List.map dI s293)],↥[dI x294],↥[dI (bif bb then (0:Int) else ↑214)],↥[dI v299]]:L2.Ctx)) (zjf (b:=↑139) (zay (zaX (x:=↑122) (y:=(0:Int)) (Ev.any (m:=false) (zbd (f:=dI) (xs:=P0.c) ↑103 ↑12 ↥(zn4 ↥0))) zaD)) (λhb=>(zay (zeN (x:=v299) (y:=(0:Int)) (Ev.any (m:=true) (zaa (i:=9) rfl)) zaD)))) (λh300=>(zcq (m:=true) zaD (zar ↑148))) (λh300=>(zc3 (b:=↑139) (λbb=>([⇑[dT [dL ↑14,dL ↑15,dL ↑13,dL ↑16]],⇑[dT [dL ↑157,dL ↑158,dL ↑156,dL ↑159]],⇑[dI P2],⇑[dI P3],.ow true (List.map lI s287),↥[dI x288],↥[dL (List.map dI s293)],↥[dI x294],↥[dI (bif bb then (v298*(v299/(zaA v299 (↑122%v299)))) else v298)],↥[dI v299]]:L2.Ctx)) (zay (zaX (x:=↑122) (y:=(0:Int)) (Ev.any (m:=false) (zbd (f:=dI) (xs:=P0.c) ↑103 ↑12 ↥(zn4 ↥0))) zaD)) (λh301=>(zcq (m:=true) (zaN (x:=v298) (y:=(v299/(zaA v299 (↑122%v299)))) (Ev.any (m:=true) (zaa (i:=8) rfl)) (zaN (x:=v299) (y:=(zaA v299 (↑122%v299))) (Ev.any (m:=true) (zaa (i:=9) rfl)) (Ev.any (m:=true) (zau (x:=(v299,(↑122%v299))) (zab (Ev.any (m:=true) (zaa (i:=9) rfl)) (zab (zaN (x:=↑122) (y:=v299) (Ev.any (m:=false) (zbd (f:=dI) (xs:=P0.c) ↑103 ↑12 ↥(zn4 ↥0))) (Ev.any (m:=true) (zaa (i:=9) rfl)) (by show (0:Int)<_;exact zjN hB ↥0 ↥0)) zag)) rfl (by show zec v299 (↑122%v299);exact zt3 hB ↥0 ↥0) rfl)) ↥(zrY hB ↥0 ↥0)) ↥(.inl (ztC hM0))) (zar ↑148))) (λh301=>(zar ↑148)) (zar ↑148))) (zcM (x:=(bif (↑139 &&(decide (v299=(0:Int)))) then (0:Int) else ↑214)) (λv302=>([⇑[dT [dL ↑14,dL ↑15,dL ↑13,dL ↑16]],⇑[dT [dL ↑157,dL ↑158,dL ↑156,dL ↑159]],⇑[dI P2],⇑[dI P3],.ow true (List.map lI s287),↥[dI x288],↥[dL (List.map dI s293)],↥[dI x294],↥[dI v302],↥[dI v299]]:L2.Ctx)) (λz=>Oc.nx (↑207 z)) (λv302 hv302=>have hM:=zuX hM0 hB hv302;(zao (m:=true) (x:=↑245) lI (λz=>Oc.nx (↑207 z)) (EvO.ev (EvO.conv (zbA (g:=(λ(x303:↑17)=>dI (x303.1+(v302*x303.2)))) (ze9 (m:=false) dI dI (xs:=s293) (ys:=(ixD P1.a x294)) (Ev.old (Ev.weak (K:=K) ↑73)) (Ev.weak (K:=K) (zbd (f:=lI) (xs:=P1.a) (Ev.weak (K:=K) (zbM ⇑3 zaD rfl)) ↑102 ↥(zrM hp ↥0)))) ↥(ztQ hp ↥0) ↑5 (λi304 x303 hx305=>have v305:=zcE hx305;(zaX (x:=x303.1) (y:=(v302*x303.2)) ↑9 (zaN (x:=v302) (y:=x303.2) ↑61 ↥6 ↥(.inl ↑55))))) ↑8)) (λv306 hv306=>have hI:=hv306;(zar (.eq (.eq (.eq (.eq (.eq (.eq (.eq (.no ↑64))))))))))))))))))⟩) (λr307 hr307 hI=>(zcd (f:=lI) (xs:=s287) (x:=r307) rfl ↑73 ↥(ztF hp ↥0 ↥0) (zar (.eq (.eq (.eq (.eq (.eq (.no (.no (.eq ↑116))))))))))))))⟩) (λr308 hr308 hI=>(zbz (i:=4) rfl (zak (zaH ↑33))))))
def imM (f s:Sd4) (c far x y:Int):Int:=bif ((decide ((0:Int)<(ixD f.c x)))&&(decide ((ixD s.c y)=(0:Int)))) then (0:Int) else (bif (decide ((0:Int)<(ixD f.c x))) then ((zae c (((far+((8:Int)*x))+y)%(60:Int)) (7:Int)-(3:Int))*((ixD s.c y)/(zaA (ixD s.c y) ((ixD f.c x)%(ixD s.c y))))) else (zae c (((far+((8:Int)*x))+y)%(60:Int)) (7:Int)-(3:Int)))
def imR (f s:Sd4) (c far x:Int):Ji:=List.foldl (λ(a:Ji) (y:Int)=>List.map (λ(p:Int×Int)=>(p.1+(imM f s c far x y*p.2))) (List.zip a (ixD s.a y))) (zc7 ↑177 [(0:Int)]) (zbf 0 (↑177).toNat)
theorem zmY (f s:Sd4) (c far:Int):m_law_images f s c far=((zbf 0 (↑44).toNat)).map (imR f s c far):=by
 show List.foldl (λ(a:Jq) (x:Int)=>a++[imR f s c far x]) [] _=_
 rw [Lat.zhG,List.nil_append]
theorem zjk {β:Type} (n:Nat) (g:Int->β):(zbf 0 ((n:Nat):Int).toNat).map g=(List.range n).map λ(k:Nat)=>g (k:Int):=by
 unfold zbf
 rw [List.map_map,Int.toNat_natCast]
 exact List.map_congr_left λk _=>by simp
theorem zpS {W1 W2 fa fb sa sb:Nat} {f s:Sd4} {c far x:Int} (h:Sd71 W2 fb sb s):(imR f s c far x).length=W2∧(∀ i,Lat.vec (imR f s c far x) i=Lat.lsum ((List.range W2).map λ(j:Nat)=>imM f s c far x (j:Int)*Lat.vec (ixD s.a (j:Int)) i)):=by
 have hl:=h.du.l1
 have hr:=h.du.r
 have k:=Lat.zgX (W:=W2) (F:=λ(a:Ji) (y:Int)=>List.map (λ(p:Int×Int)=>(p.1+(imM f s c far x y*p.2))) (List.zip a (ixD s.a y))) (c:=λy i=>imM f s c far x y*Lat.vec (ixD s.a y) i) (zbf 0 (↑177).toNat) (zc7 ↑177 [(0:Int)]) (by rw [Lat.zdc,h.bl]) λa y hy ha=>by
  obtain ⟨i,hi⟩:=List.getElem?_of_mem hy
  have q:=zbe hi
  have hm:(ixD s.a y).length=W2:=hr _ (zb3 (by rw [hl];have:=h.bl;unfold InB;omega))
  exact ⟨by rw [List.length_map,List.length_zip,hm];omega,λi=>Lat.zfY ↑0⟩
 refine ⟨k.1,λi=>(k.2 i).trans ?_⟩
 rw [Lat.ze3,Int.zero_add,zjk,h.bl]
structure Ims (W1 W2 ib:Nat) (f s:Sd4) (im:Jq):Prop where
 l:im.length=W1
 r:∀ t∈im,t.length=W2∧Lat.Bit ib t
 d:∀ k,k<W1->∀ (j:Nat) (t:Ji) (b:Int),s.b[j]?=some t->s.c[j]?=some b->b ∣ ixD f.c (k:Int)*Lat.dv t (Lat.vec (ixD im (k:Int)))
theorem zh2 {W1 W2 fa fb sa sb:Nat} {f s:Sd4} {c far:Int} (h1:Sd71 W1 fa sa f) (h2:Sd71 W2 fb sb s):Ims W1 W2 (fb+35) f s (m_law_images f s c far):=by
 have hm:∀ (x:Int) (j:Nat),j<W2->-3000000003≤imM f s c far x (j:Int)∧imM f s c far x (j:Int)≤3000000003:=λx j hj=>zuX rfl (h2.b0 _ (zb3 (by rw [h2.bl];unfold InB;omega))) rfl
 have e:m_law_images f s c far=((List.range W1)).map λ(k:Nat)=>imR f s c far (k:Int):=by rw [zmY,zjk,h1.bl]
 have g:∀ k,k<W1->ixD (m_law_images f s c far) (k:Int)=imR f s c far (k:Int):=λk hk=>zbU (by rw [e,List.getElem?_map,List.getElem?_range hk];rfl)
 refine ⟨by rw [e,List.length_map,List.length_range],λt ht=>?_,λk hk j t b ht hb=>?_⟩
 ·rw [e] at ht
  obtain ⟨k,hk,rfl⟩:=List.mem_map.mp ht
  obtain ⟨q1,q2⟩:=zpS (W1:=W1) (fa:=fa) (sa:=sa) (f:=f) (c:=c) (far:=far) (x:=(k:Int)) h2
  refine ⟨q1,?_⟩
  have:=Lat.zjj (n:=3) (b:=32+fb) q2 (by rw [List.length_range];exact h2.w8) λj hj i=>Lat.zi8 (a:=32) (by have:=hm (k:Int) j (List.mem_range.mp hj);show _≤4294967296;omega) ((h2.ra _ (Lat.zht (by rw [h2.du.l1];exact List.mem_range.mp hj))).vec i)
  exact this.mono ↑0
 ·rw [g k hk]
  obtain ⟨q1,q2⟩:=zpS (W1:=W1) (fa:=fa) (sa:=sa) (f:=f) (c:=c) (far:=far) (x:=(k:Int)) h2
  rw [Lat.ziX q2,Lat.zkK,← Lat.zf9]
  refine Lat.ziR λi hi=>?_
  have hi:=List.mem_range.mp hi
  have hrow:s.a[i]?=some (ixD s.a (i:Int)):=by
   have hl:i<s.a.length:=by rw [h2.du.l1];exact hi
   rw [zbU ↑230];exact List.getElem?_eq_getElem hl
  rw [h2.du.A j i t _ ht hrow]
  by_cases z:j=i
  ·subst z
   rw [if_pos rfl,Int.mul_one]
   have eb:ixD s.c (j:Int)=b:=zbU hb
   have:=zrV (m:=imM f s c far (k:Int) (j:Int)) (h1.b0 _ (zb3 (i:=(k:Int)) (by rw [h1.bl];unfold InB;omega))).1 (h2.b0 _ (List.mem_of_getElem? hb)) (m0:=zae c (((far+((8:Int)*(k:Int)))+(j:Int))%(60:Int)) (7:Int)-(3:Int)) (by rw [← eb];rfl)
   exact this
  ·rw [if_neg z,Int.mul_zero,Int.mul_zero];exact Int.dvd_zero _
def WsP (f:Sd4) (im:Jq) (w:Int):Prop:=∃ W1 W2:Nat,f.c.length=W1∧W1≤8∧f.b.length=W1∧(∀ r∈f.b,r.length=W1∧Lat.Bit 100 r)∧im.length=W1∧w=(W2:Int)∧W2≤8∧∀ r∈im,r.length=W2∧Lat.Bit 200 r
section
variable {f:Sd4} {im:Jq} {w x y:Int} {i j n:Nat} {l r t:Ji} {p:Int×Int}
theorem zpJ (h:WsP f im w):-(2^62)≤↑44∧↑44<2^62:=by obtain ⟨W1,W2,h1,h2,_⟩:=h;omega
theorem zrU (h:WsP f im w):-(2^63)≤w∧w<2^63:=by obtain ⟨W1,W2,h1,h2,h3,h4,h5,h6,h7,h8⟩:=h;omega
theorem ztD (h:WsP f im w):[(0:Int)].length*w.toNat≤PySem.sizeLine:=by obtain ⟨W1,W2,h1,h2,h3,h4,h5,h6,h7,h8⟩:=h;exact zal ↑126
theorem zvU (h:WsP f im w) (e:r=zc7 w [(0:Int)]):(r.length:Int)=w:=by obtain ⟨W1,W2,h1,h2,h3,h4,h5,h6,h7,h8⟩:=h;rw [e,h6,Lat.zdc]
theorem zrp (h:WsP f im w) (q:i<(↑44).toNat∧x=0+(i:Int)):InB f.b.length x:=by obtain ⟨W1,W2,h1,h2,h3,_⟩:=h;unfold InB;omega
theorem zqu (h:WsP f im w) (q:i<(↑44).toNat∧x=0+(i:Int)):InB im.length x:=by obtain ⟨W1,W2,h1,h2,h3,h4,h5,_⟩:=h;unfold InB;omega
theorem zta (h:WsP f im w) (q:i<(↑44).toNat∧x=0+(i:Int)) (q2:j<(↑44).toNat∧y=0+(j:Int)):InB (ixD f.b x).length y:=by
 have hm:=zb3 (zrp h q)
 obtain ⟨W1,W2,h1,h2,h3,h4,_⟩:=h
 rw [(h4 _ hm).1];unfold InB;omega
theorem zrI (h:WsP f im w) (q:i<(↑44).toNat∧x=0+(i:Int)) (q2:j<(↑44).toNat∧y=0+(j:Int)) (hp:l[n]?=some p.1∧(ixD im x)[n]?=some p.2):zdJ (ixD (ixD f.b x) y) p.2:=by
 have hy:=zb3 (zta h q q2)
 have hm:=zb3 (zrp h q)
 have hi:=zb3 (zqu h q)
 obtain ⟨W1,W2,h1,h2,h3,h4,h5,h6,h7,h8⟩:=h
 exact Lat.zdJ.of ((h4 _ hm).2 _ hy) ((h8 _ hi).2 _ (List.mem_of_getElem? hp.2)) ↑1 ↑1
theorem zub (h:WsP f im w) (hr:(r.length:Int)=w):(List.zip r t).length≤PySem.sizeLine:=by
 obtain ⟨W1,W2,h1,h2,h3,h4,h5,h6,h7,h8⟩:=h
 exact zal ↑199
theorem zvp (h:WsP f im w) (q:i<(↑44).toNat∧x=0+(i:Int)) (hr:(r.length:Int)=w) {g:Int×Int->Int}:((Let (List.map g (List.zip r (ixD im x))) (λ(z:Ji)=>z)).length:Int)=w:=by
 have hi:=zb3 (zqu h q)
 obtain ⟨W1,W2,h1,h2,h3,h4,h5,h6,h7,h8⟩:=h
 unfold Let
 rw [List.length_map,List.length_zip,(h8 _ hi).1];omega
theorem zul {ys:Jq} (h:WsP f im w) (hl:ys.length≤i) (q:i<(↑44).toNat∧x=0+(i:Int)):ys.length<PySem.sizeLine:=by
 obtain ⟨W1,W2,h1,h2,_⟩:=h
 exact Nat.lt_of_le_of_lt (show ys.length≤1000 by omega) ↑1
end
def m_law_wares_sent (P0:↑24) (P1:Jq) (P2:Int):Jq :=
 (Let (List.foldl (λ(s309:Jq) (x310:Int)=>(Let (zc7 P2 [(0:Int)]) (λ(v314:Ji)=>(Let (List.foldl (λ(s315:Ji) (x316:Int)=>(Let ↑242 (λ(v323:Ji)=>v323))) v314 (zbf 0 (↑81).toNat)) (λ(r324:Ji)=>(s309++[r324])))))) [] (zbf 0 (↑81).toNat)) (λ(r325:Jq)=>r325))
def zca (P0:↑24) (P1:Jq) (P2:Int):Prop:=WsP P0 P1 P2
def zd3 (K:W.Frag) (A:Adr):Sp:=Spv (ι:=↑24×Jq×Int) (λx=>[dT [dL (List.map lI x.1.a),dL (List.map lI x.1.b),dL (List.map dI x.1.c),dL (List.map lI x.1.d)],dQ K (List.map lI x.2.1),dI x.2.2]) (λx=>zca x.1 x.2.1 x.2.2) (λx=>↥[dL (List.map lI (m_law_wares_sent x.1 x.2.1 x.2.2))])
theorem zbP:FnScope ["_law_first","_law_images_here","_law_wide","_law_baskets","_law_ware","_law_basket","_law_k"] ["_law_first","_law_images_here","_law_wide"] (zad zbE):=⇑4
theorem zg3 (F:Fun K "_law_wares_sent" "_law_wares_sent" zbE f fd) (T:Txt K mg A) :FnOk P w K mg base ⇑1 1 f fd ["_law_first","_law_images_here","_law_wide"] (zd3 K A):=by
 refine F.okV zbP ↥4 ⇑8
 obtain ⟨P0,P1,P2⟩:=x
 have hu:=hr.units
 replace hp:zca P0 P1 P2:=hp
 unfold zca at hp
 refine ⟨_,(zac (zaq (i:=3) zbP.nd rfl ⇑0 (zbj zeT)) (zac (zcy PassesOwn.never rfl (zbR rfl T.range ↑[↑221]) (zan (i:=4) zbP.nd rfl ↥2 ⇑0) (zac (zaq (i:=5) zbP.nd rfl ⇑0 (zaz zhr ↑88 (pv 2))) (zac (zcy PassesOwn.never rfl (zbR rfl T.range ↑[↑221]) (zan (i:=6) zbP.nd rfl ↥2 ⇑0) (zac (zeI (i:=5) rfl zbP.nd rfl rfl (.of (osc:=(zad zbE)) (N:=["_law_first","_law_images_here","_law_wide","_law_baskets","_law_ware","_law_basket","_law_k"]) (own:=["_law_a","_law_b"]) (fvn:=["_law_first","_law_k","_law_ware"]) (fv:=[0,6,4]) rfl rfl ↑4) (zc6 (K:=K) rfl rfl T.zip ↑[pv 5,(zaS ↑7 (pv 1) (pv 6) ↥3)]) (λ_ _ _ _ _=>⟨(zbu (K:=K) (n:=2) rfl rfl (zaG (zan (i:=0) (show (["_law_a","_law_b","_law_first","_law_k","_law_ware"]:List Str).Nodup by decide+kernel) rfl ⇑0 ↥2) (zaG (zan (i:=1) (show (["_law_a","_law_b","_law_first","_law_k","_law_ware"]:List Str).Nodup by decide+kernel) rfl ⇑0 ↥2) zci))),za5,(zaz zcG (pv 0) (zaz zbI (zaS ↑7 (zaS ↑7 (zaS ↑42 (pv 2) zai ↥3) (pv 3) ↥3) (pv 4) ↥3) (pv 1)))⟩)) zaf)) (zac (zc9 (zch (K:=K) rfl (pv 3) ↑[pv 5])) zaf)))) (zac (zaR (pv 3)) zaf))),.inl ?_⟩
 show L2.Run _ ([⇑[dT [dL ↑14,dL ↑15,dL ↑13,dL ↑16]],⇑[dQ K ↥9],⇑[dI P2],.no,.no,.no,.no]:L2.Ctx) _ (↑138 (m_law_wares_sent P0 P1 P2))
 unfold m_law_wares_sent
 exact (zeb (m:=true) (ds:=List.map lI []) ↑154 (zbL (s0:=[]) (λ(s309:Jq)=>([⇑[dT [dL ↑14,dL ↑15,dL ↑13,dL ↑16]],⇑[dQ K ↥9],⇑[dI P2],.ow true (List.map lI s309),.no,.no,.no]:L2.Ctx)) ↑138 (λ(s309:Jq) (x310:Int)=>(Let (zc7 P2 [(0:Int)]) (λ(v314:Ji)=>(Let (List.foldl (λ(s315:Ji) (x316:Int)=>(Let ↑242 (λ(v323:Ji)=>v323))) v314 (zbf 0 (↑81).toNat)) (λ(r324:Ji)=>(s309++[r324])))))) (λ(i:Nat) (s309:Jq)=>s309.length≤i) (zdq (m:=true) (n:=↑81) (zaZ (f:=dI) (xs:=P0.c) ↑103) ↥(zpJ hp)) ↑58 ↥(Nat.le_refl 0) (λi311 x310 s309 hx312 hI313=>have v312:=zbe hx312;⟨↥(zpQ ↥0),(zao (m:=true) (x:=(zc7 P2 [(0:Int)])) lI (λz=>Oc.nx ((λ(s309:Jq)=>([⇑[dT [dL ↑14,dL ↑15,dL ↑13,dL ↑16]],⇑[dQ K ↥9],⇑[dI P2],.ow true (List.map lI s309),.no,.no,.no]:L2.Ctx)) z)) (EvO.ev (zfU (f:=dI) (xs:=[(0:Int)]) (n:=P2) ↑77 ↑43 ↥(zrU hp) ↥(ztD hp))) (λv314 hv314=>have hI:=hv314;(zbL (s0:=v314) (λ(s315:Ji)=>([⇑[dT [dL ↑14,dL ↑15,dL ↑13,dL ↑16]],⇑[dQ K ↥9],⇑[dI P2],.ow true (List.map lI s309),↥[dI x310],↥[dL (List.map dI s315)],.no]:L2.Ctx)) (λz=>Oc.nx ((λ(s309:Jq)=>([⇑[dT [dL ↑14,dL ↑15,dL ↑13,dL ↑16]],⇑[dQ K ↥9],⇑[dI P2],.ow true (List.map lI s309),.no,.no,.no]:L2.Ctx)) z)) (λ(s315:Ji) (x316:Int)=>(Let ↑242 (λ(v323:Ji)=>v323))) (λ(i:Nat) (s315:Ji)=>(s315.length:Int)=P2) (zdq (m:=true) (n:=↑81) (zaZ (f:=dI) (xs:=P0.c) ↑103) ↥(zpJ hp)) ↑58 ↥(zvU hp hI) (λi317 x316 s315 hx318 hI319=>have v318:=zbe hx318;⟨↥(zvp hp ↥0 ↥0),(zao (m:=true) (x:=↑242) lI (λz=>Oc.nx ((λ(s315:Ji)=>([⇑[dT [dL ↑14,dL ↑15,dL ↑13,dL ↑16]],⇑[dQ K ↥9],⇑[dI P2],.ow true (List.map lI s309),↥[dI x310],↥[dL (List.map dI s315)],.no]:L2.Ctx)) z)) (EvO.ev (EvO.conv (zbA (g:=(λ(x320:↑17)=>dI (x320.1+((ixD (ixD P0.b x316) x310)*x320.2)))) (ze9 (m:=false) dI dI (xs:=s315) (ys:=(ixD P1 x316)) (Ev.old ↑127) (Ev.weak (K:=K) (zbd (f:=lI) (xs:=P1) ⇑3 ↑78 ↥(zqu hp ↥0)))) ↥(zub hp ↥0) ↑5 (λi321 x320 hx322=>have v322:=zcE hx322;(zaX (x:=x320.1) (y:=((ixD (ixD P0.b x316) x310)*x320.2)) ↑9 (zaN (x:=(ixD (ixD P0.b x316) x310)) (y:=x320.2) (Ev.any (m:=false) (zbd (f:=dI) (xs:=(ixD P0.b x316)) (Ev.weak (K:=K) (zbd (f:=lI) (xs:=P0.b) (Ev.weak (K:=K) (zbM ↑29 zaD rfl)) ↑53 ↥(zrp hp ↥0))) ↑71 ↥(zta hp ↥0 ↥0))) ↥6 ↥(zrI hp ↥0 ↥0 ↥0))))) ↑8)) (λv323 hv323=>have hI:=hv323;(zar (.eq (.eq (.eq (.eq (.eq (.eq (.no .nil))))))))))⟩) (λr324 hr324 hI=>(zcd (f:=lI) (xs:=s309) (x:=r324) rfl ↑119 ↥(zul hp ↥0 ↥0) (zar (.eq (.eq (.eq (.eq (.no (.no (.eq .nil)))))))))))))⟩) (λr325 hr325 hI=>(zbz (i:=3) rfl (zak (zaH ↑38))))))
def wsR (f:Sd4) (im:Jq) (w x:Int):Ji:=List.foldl (λ(a:Ji) (y:Int)=>List.map (λ(p:Int×Int)=>(p.1+((ixD (ixD f.b y) x)*p.2))) (List.zip a (ixD im y))) (zc7 w [(0:Int)]) (zbf 0 (↑44).toNat)
theorem zoy (f:Sd4) (im:Jq) (w:Int):m_law_wares_sent f im w=((zbf 0 (↑44).toNat)).map (wsR f im w):=by
 show List.foldl (λ(a:Jq) (x:Int)=>a++[wsR f im w x]) [] _=_
 rw [Lat.zhG,List.nil_append]
theorem zlh {W1 W2 fa sa ib:Nat} {f s:Sd4} {im:Jq} {w:Int} (h1:Sd71 W1 fa sa f) (hi:Ims W1 W2 ib f s im) (hw:w=(W2:Int)):(m_law_wares_sent f im w).length=W1∧(∀ r∈m_law_wares_sent f im w,r.length=W2∧Lat.Bit (3+(fa+ib)) r)∧∀ k,k<W1->∀ i,Lat.vec (ixD (m_law_wares_sent f im w) (k:Int)) i=Lat.lsum ((List.range W1).map λ(j:Nat)=>Lat.vec (ixD f.b (j:Int)) k*Lat.vec (ixD im (j:Int)) i):=by
 have e:m_law_wares_sent f im w=((List.range W1)).map λ(k:Nat)=>wsR f im w (k:Int):=by rw [zoy,zjk,h1.bl]
 have key:∀ k:Nat,(wsR f im w (k:Int)).length=W2∧∀ i,Lat.vec (wsR f im w (k:Int)) i=Lat.lsum ((List.range W1).map λ(j:Nat)=>Lat.vec (ixD f.b (j:Int)) k*Lat.vec (ixD im (j:Int)) i):=λk=>by
  have q:=Lat.zgX (W:=W2) (F:=λ(a:Ji) (y:Int)=>List.map (λ(p:Int×Int)=>(p.1+((ixD (ixD f.b y) (k:Int))*p.2))) (List.zip a (ixD im y))) (c:=λy i=>(ixD (ixD f.b y) (k:Int))*Lat.vec (ixD im y) i) (zbf 0 (↑44).toNat) (zc7 w [(0:Int)]) (by rw [hw,Lat.zdc]) λa y hy ha=>by
   obtain ⟨i,hi'⟩:=List.getElem?_of_mem hy
   have q:=zbe hi'
   have hm:(ixD im y).length=W2:=(hi.r _ (zb3 (by rw [hi.l];have:=h1.bl;unfold InB;omega))).1
   exact ⟨by rw [List.length_map,List.length_zip,hm];omega,λi=>Lat.zfY ↑0⟩
  refine ⟨q.1,λi=>(q.2 i).trans ?_⟩
  rw [hw,Lat.ze3,Int.zero_add,zjk,h1.bl]
  exact Lat.zcj λj _=>by rw [Lat.zb2]
 refine ⟨by rw [e,List.length_map,List.length_range],λr hr=>?_,λk hk i=>?_⟩
 ·rw [e] at hr
  obtain ⟨k,hk,rfl⟩:=List.mem_map.mp hr
  exact ⟨(key k).1,Lat.zjj (n:=3) (b:=fa+ib) (key k).2 (by rw [List.length_range];exact h1.w8) λj hj i=>Lat.zi8 ((h1.rb _ (Lat.zht (by rw [h1.du.l2];exact List.mem_range.mp hj))).vec k) ((((hi.r _ (Lat.zht (by rw [hi.l];exact List.mem_range.mp hj)))).2).vec i)⟩
 ·rw [zbU (x:=wsR f im w (k:Int)) (by rw [e,List.getElem?_map,List.getElem?_range hk];rfl)]
  exact (key k).2 i
structure Snt (W1 W2:Nat) (f s:Sd4) (im bs:Jq) (xb:Nat):Prop where
 l:bs.length=W1
 r:∀ t∈bs,t.length=W2∧Lat.Bit xb t
 v:∀ k,k<W1->∀ i,Lat.vec (ixD bs (k:Int)) i=Lat.lsum ((List.range W1).map λ(j:Nat)=>Lat.vec (ixD f.b (j:Int)) k*Lat.vec (ixD im (j:Int)) i)
theorem zi3 {W1 W2 fa sa xb:Nat} {f s:Sd4} {im bs:Jq} {a b:BookD} {x:Ji} (h1:Sd71 W1 fa sa f) (hs:Snt W1 W2 f s im bs xb) (hb:b.many=(W2:Int)) (hx:x.length=W1):((zah ⟨a,b,bs⟩ x)).length=W2∧∀ i,Lat.vec (zah ⟨a,b,bs⟩ x) i=Lat.Phi W1 f.b im (Lat.vec x) i:=by
 obtain ⟨k1,k2⟩:=zeG (S:=⟨a,b,bs⟩) (x:=x) (W1:=W1) (W2:=W2) hb (λr hr=>(hs.r r hr).1) hs.l hx
 exact ⟨k1,λi=>(k2 i).trans (Lat.zsl h1.du.l2 h1.du.d hs.v i)⟩
theorem zoC {W1 W2 fa sa xb n:Nat} {f s:Sd4} {im bs:Jq} {a b:BookD} {x:Ji} (h1:Sd71 W1 fa sa f) (hs:Snt W1 W2 f s im bs xb) (hb:b.many=(W2:Int)) (hx:x.length=W1) (hn:Lat.Bit n x):Lat.Bit (3+(n+xb)) (zah ⟨a,b,bs⟩ x):=by
 obtain ⟨k1,k2⟩:=zeG (S:=⟨a,b,bs⟩) (x:=x) (W1:=W1) (W2:=W2) hb (λr hr=>(hs.r r hr).1) hs.l hx
 exact Lat.zjj (n:=3) (b:=n+xb) k2 (by rw [List.length_range];exact h1.w8) λw hw i=>Lat.zi8 (hn.vec w) (((hs.r _ (Lat.zht (by rw [show (({first:=a,second:=b,baskets:=bs}:SenderD)).baskets.length=W1 from hs.l];exact List.mem_range.mp hw))).2).vec i)
theorem zs4 {W1 W2 fa sa fb sb ib:Nat} {f s:Sd4} {im:Jq} {u:Lat.Vc} (h1:Sd71 W1 fa sa f) (h2:Sd71 W2 fb sb s) (hi:Ims W1 W2 ib f s im) (hu:Lat.SpL f.d u):Lat.SpL (Lat.scl s.a s.c) (Lat.Phi W1 f.b im u):=by
 refine Lat.zsb (s:=(s.a,s.b)) h2.du h2.bl (λb hb=>(h2.b0 b hb).1) (λk hk=>?_) λj t b ht hb=>?_
 ·unfold Lat.Phi
  rw [Lat.zcj (g:=λ_=>0) λj hj=>by rw [Lat.zda (by rw [((hi.r _ (Lat.zht (by rw [hi.l];exact List.mem_range.mp hj)))).1];exact hk),Int.mul_zero],Lat.zhS]
 ·refine Lat.zqD (cs:=f.c) (λk hk=>?_) λk hk=>hi.d k hk j t b ht hb
  have hd:f.b[k]?=some (ixD f.b (k:Int)):=by
   have hl:k<f.b.length:=by rw [h1.du.l2];exact hk
   rw [zbU ↑230];exact List.getElem?_eq_getElem hl
  have hc:f.c[k]?=some (ixD f.c (k:Int)):=by
   have hl:k<f.c.length:=by rw [h1.bl];exact hk
   rw [zbU ↑230];exact List.getElem?_eq_getElem hl
  exact Lat.zs2 (s:=(f.a,f.b)) h1.du ((h1.sp u).mp hu) hd hc
theorem zsN {W1 W2 fa sa ib:Nat} {f s:Sd4} {im:Jq} {w:Int} (h1:Sd71 W1 fa sa f) (hi:Ims W1 W2 ib f s im) (hw:w=(W2:Int)) (h2:W2≤8) (ha:fa≤100) (hb:ib≤200):WsP f im w:=⟨W1,W2,h1.bl,h1.w8,h1.du.l2,λr hr=>⟨h1.du.d r hr,(h1.rb r hr).mono ha⟩,hi.l,hw,h2,λr hr=>⟨(hi.r r hr).1,((hi.r r hr).2).mono hb⟩⟩
theorem zsr {W1 W2 fa sa fb sb:Nat} {f s:Sd4} {far:Int} (h1:Sd71 W1 fa sa f) (h2:Sd71 W2 fb sb s):ImP f s far:=⟨by rw [h1.bl];exact h1.w8,by rw [h2.bl];exact h2.w8,by rw [h2.bl];exact h2.du.l1,λr hr=>by rw [h2.bl];exact h2.du.r r hr,h2.b0⟩
def SmP (bs:Jq) (x:Ji) (w:Int):Prop:=∃ W:Nat,w=(W:Int)∧W≤8∧(∀ r∈bs,r.length=W∧Lat.Bit 300 r)∧Lat.Bit 300 x
section
variable {bs:Jq} {x r l t:Ji} {w:Int} {i n:Nat} {p:Int×Ji} {q:Int×Int}
theorem zrX (h:SmP bs x w):-(2^63)≤w∧w<2^63:=by obtain ⟨W,h1,h2,_⟩:=h;omega
theorem zuv (h:SmP bs x w):[(0:Int)].length*w.toNat≤PySem.sizeLine:=by obtain ⟨W,h1,h2,_⟩:=h;exact zal ↑126
theorem zvQ (h:SmP bs x w) (e:r=zc7 w [(0:Int)]):(r.length:Int)=w:=by obtain ⟨W,h1,h2,_⟩:=h;rw [e,h1,Lat.zdc]
theorem zsX (h:SmP bs x w) (hx:x[i]?=some p.1∧bs[i]?=some p.2) (hq:l[n]?=some q.1∧p.2[n]?=some q.2):zdJ p.1 q.2:=by
 obtain ⟨W,h1,h2,h3,h4⟩:=h
 exact Lat.zdJ.of (h4 _ (List.mem_of_getElem? hx.1)) ((h3 _ (List.mem_of_getElem? hx.2)).2 _ (List.mem_of_getElem? hq.2)) ↑1 ↑1
theorem zuu (h:SmP bs x w) (hr:(r.length:Int)=w):(List.zip r t).length≤PySem.sizeLine:=by
 obtain ⟨W,h1,h2,h3,h4⟩:=h
 exact zal ↑199
theorem zvW (h:SmP bs x w) (hx:x[i]?=some p.1∧bs[i]?=some p.2) (hr:(r.length:Int)=w) {g:Int×Int->Int}:((Let (List.map g (List.zip r p.2)) (λ(z:Ji)=>z)).length:Int)=w:=by
 obtain ⟨W,h1,h2,h3,h4⟩:=h
 unfold Let
 rw [List.length_map,List.length_zip,(h3 _ (List.mem_of_getElem? hx.2)).1];omega
end
def m_law_sums (P0:Jq) (P1:Ji) (P2:Int):Ji :=
 (Let (zc7 P2 [(0:Int)]) (λ(v326:Ji)=>(Let (List.foldl (λ(s327:Ji) (x328:(Int×Ji))=>(Let (List.map (λ(x332:↑17)=>(x332.1+(x328.1*x332.2))) (List.zip s327 x328.2)) (λ(v335:Ji)=>v335))) v326 (List.zip P1 P0)) (λ(r336:Ji)=>r336))))
def zdw (P0:Jq) (P1:Ji) (P2:Int):Prop:=SmP P0 P1 P2
def zgD (K:W.Frag) (A:Adr):Sp:=Spv (ι:=Jq×Ji×Int) (λx=>[dQ K (List.map lI x.1),dQ K (List.map dI x.2.1),dI x.2.2]) (λx=>zdw x.1 x.2.1 x.2.2) (λx=>↥[dL (List.map dI (m_law_sums x.1 x.2.1 x.2.2))])
theorem zeJ:FnScope ["_law_baskets","_law_basket","_law_wide","_law_found","_law_many","_law_row"] ["_law_baskets","_law_basket","_law_wide"] (zad zd0):=⇑4
theorem zkU (F:Fun K "_law_sums" "_law_sums" zd0 f fd) (T:Txt K mg A) :FnOk P w K mg base ⇑1 1 f fd ["_law_baskets","_law_basket","_law_wide"] (zgD K A):=by
 refine F.okV zeJ ↥4 ⇑8
 obtain ⟨P0,P1,P2⟩:=x
 have hu:=hr.units
 replace hp:zdw P0 P1 P2:=hp
 unfold zdw at hp
 refine ⟨_,(zac (zaq (i:=3) zeJ.nd rfl ⇑0 (zaz zhr ↑88 (pv 2))) (zac (zcy PassesOwn.never rfl (zc6 (K:=K) rfl rfl T.zip ↑[pv 1,pv 0]) (zbu (K:=K) (n:=2) rfl rfl (zaG (zan (i:=4) zeJ.nd rfl ↥2 ⇑0) (zaG (zan (i:=5) zeJ.nd rfl ⇑0 ⇑0) zci))) (zac (zeI (i:=3) rfl zeJ.nd rfl rfl (.of (osc:=(zad zd0)) (N:=["_law_baskets","_law_basket","_law_wide","_law_found","_law_many","_law_row"]) (own:=["_law_a","_law_b"]) (fvn:=["_law_many"]) (fv:=[4]) rfl rfl ↑4) (zc6 (K:=K) rfl rfl T.zip ↑[pv 3,pv 5]) ↑237) zaf)) (zac (zaR (pv 3)) zaf))),.inl ?_⟩
 show L2.Run _ ([⇑[dQ K ↑10],⇑[dQ K ⇑6],⇑[dI P2],.no,.no,.no]:L2.Ctx) _ (↑67 (m_law_sums P0 P1 P2))
 unfold m_law_sums
 exact (zao (m:=true) (x:=(zc7 P2 [(0:Int)])) lI ↑67 (EvO.ev (zfU (f:=dI) (xs:=[(0:Int)]) (n:=P2) ↑77 ↑43 ↥(zrX hp) ↥(zuv hp))) (λv326 hv326=>have hF:=hv326;(zbL (s0:=v326) (λ(s327:Ji)=>([⇑[dQ K ↑10],⇑[dQ K ⇑6],⇑[dI P2],↥[dL (List.map dI s327)],.no,.no]:L2.Ctx)) ↑67 (λ(s327:Ji) (x328:(Int×Ji))=>(Let (List.map (λ(x332:↑17)=>(x332.1+(x328.1*x332.2))) (List.zip s327 x328.2)) (λ(v335:Ji)=>v335))) (λ(i:Nat) (s327:Ji)=>(s327.length:Int)=P2) (ze9 (m:=false) dI lI (xs:=P1) (ys:=P0) ⇑3 ↑2) (.eq (.eq ↑39)) ↥(zvQ hp hF) (λi329 x328 s327 hx330 hI331=>have v330:=zcE hx330;⟨↥(zvW hp ↥0 ↥0),(zao (m:=true) (x:=(List.map (λ(x332:↑17)=>(x332.1+(x328.1*x332.2))) (List.zip s327 x328.2))) lI (λz=>Oc.nx ((λ(s327:Ji)=>([⇑[dQ K ↑10],⇑[dQ K ⇑6],⇑[dI P2],↥[dL (List.map dI s327)],.no,.no]:L2.Ctx)) z)) (EvO.ev (EvO.conv (zbA (g:=(λ(x332:↑17)=>dI (x332.1+(x328.1*x332.2)))) (ze9 (m:=false) dI dI (xs:=s327) (ys:=x328.2) (Ev.old ↑72) ↑127) ↥(zuu hp ↥0) ↑5 (λi333 x332 hx334=>have v334:=zcE hx334;(zaX (x:=x332.1) (y:=(x328.1*x332.2)) ↑9 (zaN (x:=x328.1) (y:=x332.2) ↑43 ↥6 ↥(zsX hp ↥0 ↥0))))) ↑8)) (λv335 hv335=>have hF:=hv335;(zar (.eq (.eq (.eq (.eq ↑64)))))))⟩) (λr336 hr336 hI=>(zak (zaH ↑38))))))
theorem zp4 {W1 W2:Nat} {bs:Jq} {x:Ji} {w:Int} (hw:w=(W2:Int)) (hb:∀ r∈bs,r.length=W2) (hl:bs.length=W1) (hx:x.length=W1):(m_law_sums bs x w).length=W2∧∀ i,Lat.vec (m_law_sums bs x w) i=Lat.lsum (((List.range W1)).map λ(k:Nat)=>Lat.vec x k*Lat.vec (ixD bs (k:Int)) i):=by
 have k:=Lat.zgX (W:=W2) (F:=λ(s:Ji) (p:Int×Ji)=>List.map (λ(q:Int×Int)=>(q.1+(p.1*q.2))) (List.zip s p.2)) (c:=λp i=>p.1*Lat.vec p.2 i) (List.zip x bs) (zc7 w [(0:Int)]) (by rw [hw,Lat.zdc]) λs p hp hs=>by
  have hq:=hb _ ((List.of_mem_zip hp)).2
  exact ⟨by rw [List.length_map,List.length_zip,hq];omega,λi=>Lat.zfY ↑0⟩
 refine ⟨k.1,λi=>(k.2 i).trans ?_⟩
 rw [hw,Lat.ze3,Int.zero_add,Lat.zjV hx hl,List.map_map]
 exact Lat.zcj λw _=>by
  show ixD x (w:Int)*Lat.vec (ixD bs (w:Int)) i=_
  rw [Lat.zb2]
theorem zg0 {W1 W2:Nat} {bs:Jq} {x:Ji} {w:Int} {a b:BookD} (hw:w=(W2:Int)) (hm:b.many=(W2:Int)) (hb:∀ r∈bs,r.length=W2) (hl:bs.length=W1) (hx:x.length=W1):m_law_sums bs x w=zah ⟨a,b,bs⟩ x:=by
 obtain ⟨k1,k2⟩:=zp4 hw hb hl hx
 obtain ⟨j1,j2⟩:=zeG (S:=⟨a,b,bs⟩) (x:=x) hm hb hl hx
 exact Lat.zk3 (k1.trans j1.symm) λi=>(k2 i).trans (j2 i).symm
theorem zdL {α β:Type} {P:β->Prop} {x:α} {f:α->β} (h:∀ y,y=x->P (f y)):P (Let x f):=h x rfl
theorem zgZ {α β:Type} {x:α} {f:α->β} {b:β} (h:∀ y,y=x->f y=b):Let x f=b:=h x rfl
theorem zqt {W1 W2 n xb:Nat} {bs:Jq} {a b:BookD} {x:Ji} (hb:b.many=(W2:Int)) (hr:∀ t∈bs,t.length=W2∧Lat.Bit xb t) (hl:bs.length=W1) (h8:W1≤8) (hx:x.length=W1) (hn:Lat.Bit n x):Lat.Bit (3+(n+xb)) (zah ⟨a,b,bs⟩ x):=by
 obtain ⟨k1,k2⟩:=zeG (S:=⟨a,b,bs⟩) (x:=x) (W1:=W1) (W2:=W2) hb (λr hr'=>(hr r hr').1) hl hx
 exact Lat.zjj (n:=3) (b:=n+xb) k2 (by rw [List.length_range];exact h8) λw hw i=>Lat.zi8 (hn.vec w) (((hr _ (Lat.zht (by rw [show (({first:=a,second:=b,baskets:=bs}:SenderD)).baskets.length=W1 from hl];exact List.mem_range.mp hw))).2).vec i)
theorem zje {W1 W2 fa sa fb sb ib xb:Nat} {f s:Sd4} {im bs:Jq} {a b:BookD} {x:Ji} (hF:Sd71 W1 fa sa f) (hS:Sd71 W2 fb sb s) (hI:Ims W1 W2 ib f s im) (hN:Snt W1 W2 f s im bs xb) (hb:b.many=(W2:Int)) (hx:x.length=W1) (hu:Lat.SpL f.d (Lat.vec x)):Lat.SpL s.d (Lat.vec (zah ⟨a,b,bs⟩ x)) :=
 (hS.sp _).mpr ((zs4 hF hS hI hu).conv λi=>((zi3 (a:=a) hF hN hb hx).2 i).symm)
theorem zm8 {W0 W1 W2:Nat} {bs cs:Jq} {a c d e:BookD} {x:Ji} (hc:c.many=(W2:Int)) (he:e.many=(W1:Int)) (h1:∀ t∈bs,t.length=W1) (l1:bs.length=W0) (h2:∀ t∈cs,t.length=W2) (l2:cs.length=W1) (hx:x.length=W0) :
  zah ⟨a,c,List.map (λ(y:Ji)=>zah ⟨d,c,cs⟩ y) bs⟩ x=zah ⟨d,c,cs⟩ (zah ⟨a,e,bs⟩ x):=by
 have s2:∀ y:Ji,y.length=W1->(zah ⟨d,c,cs⟩ y).length=W2∧∀ i,Lat.vec (zah ⟨d,c,cs⟩ y) i=Lat.lsum (((List.range W1)).map λ(w:Nat)=>Lat.vec y w*Lat.vec (ixD cs (w:Int)) i):=λy hy=>zeG (S:=⟨d,c,cs⟩) hc h2 l2 hy
 obtain ⟨k1,k2⟩:=zeG (S:=⟨a,e,bs⟩) (x:=x) he h1 l1 hx
 obtain ⟨j1,j2⟩:=s2 _ k1
 obtain ⟨i1,i2⟩:=zeG (S:=⟨a,c,List.map (λ(y:Ji)=>zah ⟨d,c,cs⟩ y) bs⟩) (x:=x) (W1:=W0) (W2:=W2) hc (λr hr=>by
  obtain ⟨y,hy,rfl⟩:=List.mem_map.mp hr
  exact (s2 y (h1 y hy)).1) (by rw [List.length_map];exact l1) hx
 refine Lat.zk3 (i1.trans j1.symm) λi=>?_
 rw [i2 i,j2 i]
 have e1:∀ w∈List.range W1,Lat.vec (zah ⟨a,e,bs⟩ x) w*Lat.vec (ixD cs (w:Int)) i=Lat.lsum ((List.range W0).map λ(v:Nat)=>Lat.vec x v*(Lat.vec (ixD bs (v:Int)) w*Lat.vec (ixD cs (w:Int)) i)):=λw _=>by
  rw [k2 w,Int.mul_comm,← Lat.zf9]
  exact Lat.zcj λv _=>by grind
 rw [Lat.zcj e1,← Lat.zh3]
 refine Lat.zcj λv hv=>?_
 have hl:v<bs.length:=by rw [l1];exact List.mem_range.mp hv
 have ev:ixD (List.map (λ(y:Ji)=>zah ⟨d,c,cs⟩ y) bs) (v:Int)=zah ⟨d,c,cs⟩ (ixD bs (v:Int)):=zbU (by rw [List.getElem?_map,List.getElem?_eq_getElem hl,zbU ↑230];rfl)
 show Lat.vec x v*Lat.vec (ixD (List.map (λ(y:Ji)=>zah ⟨d,c,cs⟩ y) bs) (v:Int)) i=_
 rw [ev,(s2 _ (h1 _ (Lat.zht hl))).2 i,← Lat.zf9]
theorem zmw {W1 W2 fb sb sc xb:Nat} {s:Sd4} {bs:Jq} {a:BookD} (hS:Sd71 W2 fb sb s) (h8:W1≤8) (hl:bs.length=W1) (hr:∀ t∈bs,t.length=W2∧Lat.Bit xb t) (ha:a.many=(W1:Int)) (hsw:∀ t∈a.swaps,t.length=W1∧Lat.Bit sc t∧Lat.SpL s.d (Lat.vec (zah ⟨a,⟨(W2:Int),s.d⟩,bs⟩ t))) (h3:W2≤3) (hbt:3+(sc+xb)≤250) (hsb:sb≤250):SiP a ⟨(W2:Int),s.d⟩ bs:=by
 refine ⟨⟨by rw [hl,ha],λr h=>by rw [(hr r h).1]⟩,by omega,λt ht=>?_⟩
 obtain ⟨t1,t2,t3⟩:=hsw t ht
 refine ⟨⟨by show (t.length:Int)=a.many;rw [t1,ha],W2,rfl,hS.w8,λr h=>(hr r h).1,λp hp z hz=>Lat.zdJ.of (a:=xb) (b:=sc) ((hr _ ((List.of_mem_zip hp)).1).2 z hz) (t2 _ ((List.of_mem_zip hp)).2) ↑0 ↑0⟩,?_,t3⟩
 have k1:=(zeG (S:=⟨a,⟨(W2:Int),s.d⟩,bs⟩) (x:=t) (W1:=W1) (W2:=W2) rfl (λr h=>(hr r h).1) hl t1).1
 have k2:Lat.Bit 250 (zah ⟨a,⟨(W2:Int),s.d⟩,bs⟩ t):=(zqt rfl hr hl h8 t1 t2).mono hbt
 refine ⟨W2,5,250,rfl,hS.w1,hS.w8,k1,λr h=>⟨(hS.sr r h).1,((hS.sr r h).2).mono hsb⟩,k2,?_,by decide,by decide,?_⟩
 ·show s.d.length+1≤5
  have:=hS.ln;omega
 ·rw [show Lat.eB 250 5=1542 from rfl]
  omega
def TrI (i:Nat) (s:List Sd4):Prop:=s.length=i∧∀ y∈s,∃ W:Nat,W≤3∧Sd71 W 20 70 y
section
variable {xs cs o:Ji} {c d p w x z k:Int} {i:Nat} {s r:List Sd4} {im:Jq}
theorem zuO:TrI 0 []:=⟨rfl,λy hy=>(nomatch hy)⟩
theorem zva (hp:xs.length≤63) (hC:cs=zcs xs (some (4:Int)) (some (63:Int))) (e:p=((cs.length:Nat):Int)/(3:Int)):0≤p∧p≤19:=by
 have l:cs.length≤59:=by
  rw [hC];unfold zcs
  simp only [show (4:Int)=((4:Nat):Int) from rfl,show (63:Int)=((63:Nat):Int) from rfl,HT.sIx_nat,List.length_take,List.length_drop];omega
 omega
theorem zvI (e:w=(1:Int)+z%(3:Int)):1≤w∧w≤3:=by omega
theorem zu0 (hT:0≤p∧p≤19) (q:i<(3:Int).toNat∧x=0+(i:Int)) (e:o=zcs cs (some (p*x)) (some ((p*x)+p))):o.length≤2*10:=by
 obtain ⟨n,rfl⟩:∃ n:Nat,p=(n:Int):=⟨p.toNat,by omega⟩
 have hx:x=(i:Int):=by omega
 rw [e,hx,show ((n:Int)*(i:Int))=((n*i:Nat):Int) from (Int.natCast_mul n i).symm,show (((n*i:Nat):Int)+(n:Int))=((n*i+n:Nat):Int) from rfl]
 unfold zcs
 simp only [HT.sIx_nat,List.length_take,List.length_drop]
 omega
theorem zsm (q:i<(3:Int).toNat∧x=0+(i:Int)):zce xs ((1:Int)+x):=by unfold zce;omega
theorem zvz (q:i<(3:Int).toNat∧x=0+(i:Int)):InB [(1:Int),(3:Int),(9:Int)].length x:=by have:=q.1;have:(3:Int).toNat=3:=rfl;unfold InB;simp only [List.length_cons,List.length_nil];omega
theorem zvi (q:i<(3:Int).toNat∧x=0+(i:Int)):zfv c (ixD [(1:Int),(3:Int),(9:Int)] x):=by
 have h3:(3:Int).toNat=3:=rfl
 have:x=0∨x=1∨x=2:=by omega
 rcases this with e | e | e
 ·rw [e];show zfv c 1;exact ↑5
 ·rw [e];show zfv c 3;exact ↑5
 ·rw [e];show zfv c 9;exact ↑5
theorem zvb (hT:0≤p∧p≤19):-(2^64)<p∧p<2^64:=by omega
theorem zuK (I:TrI i s) (q:i<(3:Int).toNat∧x=0+(i:Int)):s.length<PySem.sizeLine:=Nat.lt_of_le_of_lt (show s.length≤1000 by have:=I.1;have h3:(3:Int).toNat=3:=rfl;omega) ↑1
theorem zuN (hT:0≤p∧p≤19) (q:i<(3:Int).toNat∧x=0+(i:Int)) (I:TrI i s):TrI (i+1) (Let ((1:Int)+(z%(3:Int))) (λ(w:Int)=>Let (zcs cs (some (p*x)) (some ((p*x)+p))) (λ(o:Ji)=>s++[zbn o w k (d%(2:Int))]))):=by
 unfold Let
 refine ⟨by rw [List.length_append,I.1];rfl,λy hy=>?_⟩
 rcases List.mem_append.mp hy with h | h
 ·exact I.2 y h
 ·rw [List.mem_singleton.mp h]
  refine ⟨((1:Int)+(z%(3:Int))).toNat,by omega,zrf (h:=10) ↑0 ↑0 ↑0 (zu0 hT q rfl)⟩
theorem zoL (h:TrI ((zbf 0 (3:Int).toNat)).length r) (hk:0≤k∧k<3):InB r.length k:=by
 have:r.length=3:=h.1.trans (by rw [zaO];rfl)
 unfold InB;omega
theorem zkM (h:TrI ((zbf 0 (3:Int).toNat)).length r) (hk:0≤k∧k<3):∃ W:Nat,W≤3∧Sd71 W 20 70 (ixD r k):=h.2 _ (zb3 (zoL h hk))
theorem zrW {j:Int} {far:Int} (h:TrI ((zbf 0 (3:Int).toNat)).length r) (hk:0≤k∧k<3) (hj:0≤j∧j<3):ImP (ixD r k) (ixD r j) far:=by
 obtain ⟨W0,_,h0⟩:=zkM h hk
 obtain ⟨W1,_,h1⟩:=zkM h hj
 exact zsr h0 h1
theorem zrP {j:Int} {far:Int} (h:TrI ((zbf 0 (3:Int).toNat)).length r) (hk:0≤k∧k<3) (hj:0≤j∧j<3) (e:im=m_law_images (ixD r k) (ixD r j) c far):WsP (ixD r k) im ((((ixD r j).c).length:Nat):Int):=by
 obtain ⟨W0,_,h0⟩:=zkM h hk
 obtain ⟨W1,_,h1⟩:=zkM h hj
 rw [e]
 exact zsN h0 (zh2 h0 h1) (by rw [h1.bl]) h1.w8 ↑1 ↑1
end
def m_law_trio (P0:Ji):(T3 ↑49 Jq Jq) :=
 (Let (zcl P0 (0:Int)) (λ(v337:Int)=>(Let (zcs P0 (some (4:Int)) (some (63:Int))) (λ(v338:Ji)=>(Let (((v338.length:Nat):Int)/(3:Int)) (λ(v339:Int)=>(Let (List.foldl (λ(s340:↑49) (x341:Int)=>(Let ((1:Int)+((v337/(ixD [(1:Int),(3:Int),(9:Int)] x341))%(3:Int))) (λ(v345:Int)=>(Let (zcs v338 (some (v339*x341)) (some ((v339*x341)+v339))) (λ(v346:Ji)=>(s340++[(zbn v346 v345 (zba P0 ((1:Int)+x341)) ((v337/(27:Int))%(2:Int)))])))))) [] (zbf 0 (3:Int).toNat)) (λ(r347:↑49)=>(Let (m_law_images (ixD r347 (0:Int)) ↑46 (zba P0 (0:Int)) (0:Int)) (λ(v348:Jq)=>(Let (m_law_images ↑46 ↑130 (zba P0 (0:Int)) (30:Int)) (λ(v349:Jq)=>(Let (m_law_wares_sent (ixD r347 (0:Int)) v348 ((((↑46).c).length:Nat):Int)) (λ(v350:Jq)=>(Let (m_law_wares_sent ↑46 v349 ((((↑130).c).length:Nat):Int)) (λ(v351:Jq)=>(T3.mk r347 v350 v351)))))))))))))))))
def zeP (P0:Ji):Prop:=P0.length≤63
def zgx (K:W.Frag) (A:Adr):Sp:=Spv (ι:=Ji) ↑175 (λx=>zeP x) (λx=>↥[dT [dL (List.map ↑32 ((m_law_trio x).a)),dL (List.map lI ((m_law_trio x).b)),dL (List.map lI ((m_law_trio x).c))]])
theorem zbH:FnScope ["_law_script","_law_cell_here","_law_cells","_law_part","_law_sides","_law_k","_law_wide","_law_own","_law_one","_law_two","_law_left","_law_right"] ["_law_script"] (zad zeE):=⇑4
theorem zkv (F:Fun K "_law_trio" "_law_trio" zeE f fd) (T:Txt K mg A) (yaw:Callee P w K mg base ⇑1 1 "_law_cell" ["_law_script","_law_k"] (zfm K A)) (yaJ:Callee P w K mg base ⇑1 2 "_law_images" ["_law_first","_law_second","_law_cell_here","_law_far"] (zfr K A)) (yaZ:Callee P w K mg base ⇑1 1 "_law_raw" ["_law_script","_law_k"] (zhj K A)) (yb0:Callee P w K mg base ⇑1 3 "_law_side" ["_law_cells","_law_wide","_law_cell_here","_law_idle"] (zgu K A)) (yap:Callee P w K mg base ⇑1 1 "_law_wares_sent" ["_law_first","_law_images_here","_law_wide"] (zd3 K A)):FnOk P w K mg base ⇑1 4 f fd ["_law_script"] (zgx K A):=by
 refine F.okV zbH ↥4 ↑68
 have hu:=hr.units
 replace hp:zeP P0:=hp
 unfold zeP at hp
 refine ⟨_,(zac (zaq (i:=1) zbH.nd rfl ⇑0 (zaT yaw ↥1 rfl zaL ↑[pv 0,zai])) (zac (zaq (i:=2) zbH.nd rfl ⇑0 (zd9 ↑121 (pv 0) (zdX zai) (zdX zai))) (zac (zaq (i:=3) zbH.nd rfl ⇑0 (zaz zcw ↑189 zai)) (zac (zaq (i:=4) zbH.nd rfl ⇑0 (zbj zeT)) (zac (zcy PassesOwn.never rfl (zbR rfl T.range ↑[zai]) (zan (i:=5) zbH.nd rfl ⇑0 ⇑0) (zac (zaq (i:=6) zbH.nd rfl ⇑0 (zaz zcG zai (zaz zdB (zaz zcw (pv 1) (zaS ↑7 (zbj ↑[zai,zai,zai]) (pv 5) ↥3)) zai))) (zac (zaq (i:=7) zbH.nd rfl ⇑0 (zd9 ↑121 (pv 2) (zdX (zaz zbI (pv 3) (pv 5))) (zdX (zaz zcG (zaz zbI (pv 3) (pv 5)) (pv 3))))) (zac (zc9 (zch (K:=K) rfl (pv 4) ↑[zaT yb0 ↥1 rfl zaL ↑[pv 7,pv 6,zaT yaZ ↥1 rfl zaL ↑[pv 0,zaz zcG zai (pv 5)],zaz zdB (zaz zcw (pv 1) zai) zai]])) zaf)))) (zac (zaq (i:=8) zbH.nd rfl ⇑0 (zaT yaJ ↥1 rfl zaL ↑[↑70,↑70,zaT yaZ ↥1 rfl zaL ↑[pv 0,zai],zai])) (zac (zaq (i:=9) zbH.nd rfl ⇑0 (zaT yaJ ↥1 rfl zaL ↑[↑70,↑70,zaT yaZ ↥1 rfl zaL ↑[pv 0,zai],zai])) (zac (zaq (i:=10) zbH.nd rfl ⇑0 (zaT yap ↥1 rfl zaL ↑[↑70,pv 8,(zam ↑51 rfl T.len PySem.boot_len ↑[(zaS ↑42 ↑70 zai ↥3)])])) (zac (zaq (i:=11) zbH.nd rfl ⇑0 (zaT yap ↥1 rfl zaL ↑[↑70,pv 9,(zam ↑51 rfl T.len PySem.boot_len ↑[(zaS ↑42 ↑70 zai ↥3)])])) (zac (zaR (zfJ ↑[pv 4,pv 10,pv 11])) zaf)))))))))),.inl ?_⟩
 show L2.Run _ ([⇑[dQ K ↥5],.no,.no,.no,.no,.no,.no,.no,.no,.no,.no,.no]:L2.Ctx) _ (↑125 (m_law_trio P0))
 unfold m_law_trio
 exact (zao (m:=true) (x:=(zcl P0 (0:Int))) dI ↑125 (Ev.any (m:=true) (zau (x:=(P0,(0:Int))) (zab ↑2 ↑28) rfl (by show zcP P0 (0:Int);unfold zcP;decide) rfl)) (λv337 hv337=>(zao (m:=true) (x:=(zcs P0 (some (4:Int)) (some (63:Int)))) lI ↑125 (EvO.ev (EvO.anyI (m:=false) (ze6 (f:=dI) (xs:=P0) ↑2 (zcX zaD) (zcX zaD)))) (λv338 hv338=>have hC:=hv338;(zao (m:=true) (x:=(((v338.length:Nat):Int)/(3:Int))) dI ↑125 (zaN (x:=((v338.length:Nat):Int)) (y:=(3:Int)) (zaZ (f:=dI) (xs:=v338) ↑66) zaD ↥(↑5)) (λv339 hv339=>have hT:=zva hp hC hv339;(zeb (m:=true) (ds:=List.map ↑32 []) ↑154 (zbL (s0:=[]) (λ(s340:↑49)=>([⇑[dQ K ↥5],↥[dI v337],↥[dL (List.map dI v338)],↥[dI v339],.ow true (List.map ↑32 s340),.no,.no,.no,.no,.no,.no,.no]:L2.Ctx)) ↑125 (λ(s340:↑49) (x341:Int)=>(Let ((1:Int)+((v337/(ixD [(1:Int),(3:Int),(9:Int)] x341))%(3:Int))) (λ(v345:Int)=>(Let (zcs v338 (some (v339*x341)) (some ((v339*x341)+v339))) (λ(v346:Ji)=>(s340++[(zbn v346 v345 (zba P0 ((1:Int)+x341)) ((v337/(27:Int))%(2:Int)))])))))) (λ(i:Nat) (s340:↑49)=>TrI i s340) (zdq (m:=true) (n:=(3:Int)) zaD ↑1) (.eq (.eq ↑148)) ↥(zuO) (λi342 x341 s340 hx343 hI344=>have v343:=zbe hx343;⟨↥(zuN hT ↥0 ↥0),(zao (m:=true) (x:=((1:Int)+((v337/(ixD [(1:Int),(3:Int),(9:Int)] x341))%(3:Int)))) dI (λz=>Oc.nx ((λ(s340:↑49)=>([⇑[dQ K ↥5],↥[dI v337],↥[dL (List.map dI v338)],↥[dI v339],.ow true (List.map ↑32 s340),.no,.no,.no,.no,.no,.no,.no]:L2.Ctx)) z)) (zaX (x:=(1:Int)) (y:=((v337/(ixD [(1:Int),(3:Int),(9:Int)] x341))%(3:Int))) zaD (zaN (x:=(v337/(ixD [(1:Int),(3:Int),(9:Int)] x341))) (y:=(3:Int)) (zaN (x:=v337) (y:=(ixD [(1:Int),(3:Int),(9:Int)] x341)) ↑108 (zbd (f:=dI) (xs:=[(1:Int),(3:Int),(9:Int)]) (Ev.weak (K:=K) (EvO.ev (zb1 (zab zaD (zab zaD ↑28)) ↑128))) ↑12 ↥(zvz ↥0)) ↥(zvi ↥0)) zaD ↑1)) (λv345 hv345=>have hW:=zvI hv345;(zao (m:=true) (x:=(zcs v338 (some (v339*x341)) (some ((v339*x341)+v339)))) lI (λz=>Oc.nx ((λ(s340:↑49)=>([⇑[dQ K ↥5],↥[dI v337],↥[dL (List.map dI v338)],↥[dI v339],.ow true (List.map ↑32 s340),.no,.no,.no,.no,.no,.no,.no]:L2.Ctx)) z)) (EvO.ev (EvO.anyI (m:=true) (ze6 (f:=dI) (xs:=v338) ↑90 (zcX (zaN (x:=v339) (y:=x341) ↑53 ↑12 ↥(.inl (zvb hT)))) (zcX (zaX (x:=(v339*x341)) (y:=v339) (zaN (x:=v339) (y:=x341) ↑53 ↑12 ↥(.inl (zvb hT))) ↑53))))) (λv346 hv346=>have hO:=zu0 hT ↥0 hv346;(zcd (f:=↑32) (xs:=s340) (x:=(zbn v346 v345 (zba P0 ((1:Int)+x341)) ((v337/(27:Int))%(2:Int)))) rfl (zau (x:=(v346,v345,(zba P0 ((1:Int)+x341)),((v337/(27:Int))%(2:Int)))) (zab (Ev.old (Ev.weak (K:=K) (zaa (i:=7) rfl))) (zab ↑78 (zab (Ev.any (m:=true) (zau (x:=(P0,((1:Int)+x341))) (zab ↑2 (zab (zaX (x:=(1:Int)) (y:=x341) zaD ↑12) zag)) rfl (by show zce P0 ((1:Int)+x341);exact zsm ↥0) rfl)) (zab (zaN (x:=(v337/(27:Int))) (y:=(2:Int)) (zaN (x:=v337) (y:=(27:Int)) ↑108 zaD ↥(↑5)) zaD ↑1) zag)))) rfl (by show zeX v346 v345 (zba P0 ((1:Int)+x341)) ((v337/(27:Int))%(2:Int));exact ⟨by omega,by omega,by omega⟩) rfl) ↥(zuK ↥0 ↥0) (zar (.eq (.eq (.eq (.eq (.eq (.no (.no (.no ↑39))))))))))))))⟩) (λr347 hr347 hI=>(zao (m:=true) (x:=(m_law_images (ixD r347 (0:Int)) ↑46 (zba P0 (0:Int)) (0:Int))) ↑104 ↑125 (zau (x:=((ixD r347 (0:Int)),↑46,(zba P0 (0:Int)),(0:Int))) (zab (Ev.old ↑135) (zab (Ev.old ↑135) (zab (Ev.any (m:=true) (zau (x:=(P0,(0:Int))) (zab ↑2 ↑28) rfl (by show zce P0 (0:Int);unfold zce;decide) rfl)) ↑28))) rfl (by show zdi (ixD r347 (0:Int)) ↑46 (zba P0 (0:Int)) (0:Int);exact zrW hI ↑1 ↑1) rfl) (λv348 hv348=>have h1:=hv348;(zao (m:=true) (x:=(m_law_images ↑46 ↑130 (zba P0 (0:Int)) (30:Int))) ↑104 ↑125 (zau (x:=(↑46,↑130,(zba P0 (0:Int)),(30:Int))) (zab (Ev.old ↑135) (zab (Ev.old ↑135) (zab (Ev.any (m:=true) (zau (x:=(P0,(0:Int))) (zab ↑2 ↑28) rfl (by show zce P0 (0:Int);unfold zce;decide) rfl)) ↑28))) rfl (by show zdi ↑46 ↑130 (zba P0 (0:Int)) (30:Int);exact zrW hI ↑1 ↑1) rfl) (λv349 hv349=>have h2:=hv349;(zao (m:=true) (x:=(m_law_wares_sent (ixD r347 (0:Int)) v348 ((((↑46).c).length:Nat):Int))) ↑104 ↑125 (zau (x:=((ixD r347 (0:Int)),v348,((((↑46).c).length:Nat):Int))) (zab (Ev.old ↑135) (zab (Ev.old (Ev.weak (K:=K) (zaa (i:=8) rfl))) (zab (zaZ (f:=dI) (xs:=(↑46).c) (Ev.old (Ev.weak (K:=K) (zbM ↑135 zaD rfl)))) zag))) rfl (by show zca (ixD r347 (0:Int)) v348 ((((↑46).c).length:Nat):Int);exact zrP hI ↑1 ↑1 h1) rfl) (λv350 hv350=>(zao (m:=true) (x:=(m_law_wares_sent ↑46 v349 ((((↑130).c).length:Nat):Int))) ↑104 ↑125 (zau (x:=(↑46,v349,((((↑130).c).length:Nat):Int))) (zab (Ev.old ↑135) (zab (Ev.old (Ev.weak (K:=K) (zaa (i:=9) rfl))) (zab (zaZ (f:=dI) (xs:=(↑130).c) (Ev.old (Ev.weak (K:=K) (zbM ↑135 zaD rfl)))) zag))) rfl (by show zca ↑46 v349 ((((↑130).c).length:Nat):Int);exact zrP hI ↑1 ↑1 h2) rfl) (λv351 hv351=>(zbz (i:=4) rfl (zak (zaH (zfH (zab ↑33 (zab (zaa (i:=10) rfl) (zab (zaa (i:=11) rfl) zag))) ↑128)))))))))))))))))))))
def Q75 (W0 W1:Nat) (f s:Sd4) (bs:Jq):Prop:=∃ im,Sd71 W0 20 70 f∧Sd71 W1 20 70 s∧Ims W0 W1 55 f s im∧Snt W0 W1 f s im bs 78
def P75 (y:T3 (List Sd4) Jq Jq):Prop:=∃ (s0 s1 s2:Sd4) (W0 W1 W2:Nat),y.a=[s0,s1,s2]∧(W0≤3∧W1≤3∧W2≤3)∧Q75 W0 W1 s0 s1 y.b∧Q75 W1 W2 s1 s2 y.c
theorem zmJ {xs:Ji} {y:T3 (List Sd4) Jq Jq} (hp:xs.length≤63) (e:y=m_law_trio xs):P75 y:=by
 rw [e]
 unfold m_law_trio
 refine zdL (P:=P75) λc _=>zdL (P:=P75) λcs hC=>zdL (P:=P75) λp hP=>zdL (P:=P75) λr hr=>zdL (P:=P75) λi1 h1=>zdL (P:=P75) λi2 h2=>zdL (P:=P75) λl hl=>zdL (P:=P75) λt ht=>?_
 have hT:=zva hp hC hP
 have I:TrI ((zbf 0 (3:Int).toNat)).length r:=by
  have:=zh8 (xs:=zbf 0 (3:Int).toNat) (s:=([]:List Sd4)) (n:=0) (I:=TrI) (f:=λ(s:List Sd4) (x:Int)=>Let ((1:Int)+((c/(ixD [(1:Int),(3:Int),(9:Int)] x))%(3:Int))) (λ(w:Int)=>Let (zcs cs (some (p*x)) (some ((p*x)+p))) (λ(o:Ji)=>s++[zbn o w (zba xs ((1:Int)+x)) ((c/(27:Int))%(2:Int))]))) zuO λi x s hx q=>by rw [Nat.zero_add] at q ⊢;exact zuN hT (zbe hx) q
  rw [Nat.zero_add,← hr] at this
  exact this
 obtain ⟨W0,w0,k0⟩:=zkM (k:=0) I ↑1
 obtain ⟨W1,w1,k1⟩:=zkM (k:=1) I ↑1
 obtain ⟨W2,w2,k2⟩:=zkM (k:=2) I ↑1
 have j1:=zh2 (c:=zba xs 0) (far:=0) k0 k1
 have j2:=zh2 (c:=zba xs 0) (far:=30) k1 k2
 rw [← h1] at j1;rw [← h2] at j2
 have m1:=zlh k0 j1 (w:=((((ixD r (1:Int)).c).length:Nat):Int)) (by rw [k1.bl])
 have m2:=zlh k1 j2 (w:=((((ixD r (2:Int)).c).length:Nat):Int)) (by rw [k2.bl])
 rw [← hl] at m1;rw [← ht] at m2
 refine ⟨ixD r 0,ixD r 1,ixD r 2,W0,W1,W2,?_,⟨w0,w1,w2⟩,⟨i1,k0,k1,j1,⟨m1.1,m1.2.1,m1.2.2⟩⟩,⟨i2,k1,k2,j2,⟨m2.1,m2.2.1,m2.2.2⟩⟩⟩
 have h3:r.length=3:=I.1.trans (by rw [zaO];rfl)
 show r=_
 match r,h3 with
 | [a,b,c],_=>rfl
def BoP (y:Sd4):Prop:=∃ W:Nat,W≤3∧Sd71 W 20 70 y
theorem zvR {y:Sd4} (h:BoP y):y.d.length≤PySem.sizeLine:=by obtain ⟨W,w,h⟩:=h;exact zal (by have:=h.ln;omega)
theorem zvr {y:Sd4} (h:BoP y):zdl ((y.c.length:Nat):Int) (List.map (λ(x:Ji)=>x) y.d):=by
 obtain ⟨W,w,h⟩:=h
 have:=h.ln;have:=h.w1;have:=h.w8;have:=h.bl
 rw [zc4]
 exact ⟨by omega,by omega,by omega,λs hs=>by rw [(h.sr s hs).1];omega⟩
def za9 (P0:↑24):BookD :=
 (zdE ↑81 (List.map (λ(x352:Ji)=>x352) P0.d))
def ze0 (P0:↑24):Prop:=BoP P0
def zgB (K:W.Frag) (A:Adr):Sp:=Spv (ι:=↑24) (λx=>[dT [dL (List.map lI x.a),dL (List.map lI x.b),dL (List.map dI x.c),dL (List.map lI x.d)]]) (λx=>ze0 x) (λx=>↥[zaM A.Book (za9 x)])
theorem zk4:FnScope ["_law_side_here"] ["_law_side_here"] (zad zdP):=⇑4
theorem zkT (F:Fun K "_law_book" "_law_book" zdP f fd) (T:Txt K mg A) (yaE:Callee P w K mg base ⇑1 3 "book_of" ["many","swaps"] (zgc K A)):FnOk P w K mg base ⇑1 4 f fd ["_law_side_here"] (zgB K A):=by
 refine F.okV zk4 ↥4 ↑68
 have hu:=hr.units
 replace hp:ze0 P0:=hp
 unfold ze0 at hp
 refine ⟨_,(zac (zaR (zaT yaE ↥1 rfl zaL ↑[↑221,(zbG rfl (.of (osc:=(zad zdP)) (N:=["_law_side_here"]) (own:=["_law_swap"]) (fvn:=[]) (fv:=[]) rfl rfl ↑4) (zaV (K:=K) rfl ↑201) (λ_ _ _ _ _=>⟨(zan (i:=0) (show (["_law_swap"]:List Str).Nodup by decide+kernel) rfl ⇑0 ↥2),za5,↑134⟩))])) zaf),.inl ?_⟩
 show L2.Run _ ([⇑[dT [dL ↑14,dL ↑15,dL ↑13,dL ↑16]]]:L2.Ctx) _ ((λ(r:BookD)=>Oc.rt true (zaM A.Book r)) (za9 P0))
 unfold za9
 exact (zak (zaH (zau (x:=(↑81,(List.map (λ(x352:Ji)=>x352) P0.d))) (zab (zaZ (f:=dI) (xs:=P0.c) ↑103) (zab (Ev.weak (K:=K) (EvO.ev (EvO.conv (zbA (g:=(λ(x352:Ji)=>dL (List.map dI x352))) (zbx (m:=false) lI (xs:=P0.d) ↑103) ↥(zvR hp) ↑5 (λi353 x352 hx354=>have v354:=List.mem_of_getElem? hx354;↑182)) ↑8))) zag)) rfl (by show zdl ↑81 (List.map (λ(x352:Ji)=>x352) P0.d);exact zvr hp) rfl)))
theorem zkY {y:Sd4} {W:Nat} (h:Sd71 W 20 70 y):za9 y=⟨(W:Int),y.d⟩:=by unfold za9;rw [zc4,zpk,h.bl]
def za4 (P0:Int) (P1:Int) (P2:Int):Int :=
 (bif ((decide ((29:Int)<P2)) && (decide (((P0/↑41)%(2:Int))=(1:Int)))) then ((zae P0 P1 (60:Int))-(30:Int)) else ((zae P0 P1 (((2:Int)*P2)+(1:Int)))-P2))
def zew (P0:Int) (P1:Int) (P2:Int):Prop:=0≤P1∧P1≤1000∧0≤P2∧P2≤1000000000
def zf2 (K:W.Frag) (A:Adr):Sp:=Spv (ι:=Int×Int×Int) (λx=>[dI x.1,dI x.2.1,dI x.2.2]) (λx=>zew x.1 x.2.1 x.2.2) (λx=>↥[dI (za4 x.1 x.2.1 x.2.2)])
theorem zjX:FnScope ["_law_cell_here","_law_k","_law_size"] ["_law_cell_here","_law_k","_law_size"] (zad zd1):=⇑4
theorem zjE (F:Fun K "_law_count" "_law_count" zd1 f fd) (T:Txt K mg A) (yab:Callee P w K mg base ⇑1 1 "_law_thing" ↑141 (zcU K A)):FnOk P w K mg base ⇑1 2 f fd ["_law_cell_here","_law_k","_law_size"] (zf2 K A):=by
 refine F.okV zjX ↥4 ⇑8
 obtain ⟨P0,P1,P2⟩:=x
 have hu:=hr.units
 replace hp:zew P0 P1 P2:=hp
 unfold zew at hp
 refine ⟨_,(zac (zcp (PW.pt (zlM (zaJ zki (pv 2) zai (zaP _)) (zjd (zaJ zgr (zaz zdB (zaz zcw (pv 0) zai) zai) zai (zaP _))))) (zac (zaR (zaz zeQ (zaT yab ↥1 rfl zaL ↑[pv 0,pv 1,zai]) zai)) zaf) zaf) (zac (zaR (zaz zeQ (zaT yab ↥1 rfl zaL ↑[pv 0,pv 1,zaz zcG (zaz zbI zai (pv 2)) zai]) (pv 2))) zaf)),.inl ?_⟩
 show L2.Run _ ([⇑[dI P0],⇑[dI P1],⇑[dI P2]]:L2.Ctx) _ (↑26 (za4 P0 P1 P2))
 unfold za4
 exact (za8 (b:=((decide ((29:Int)<P2)) && (decide (((P0/↑41)%(2:Int))=(1:Int))))) ↑26 (zjf (b:=(decide ((29:Int)<P2))) (zay (zaX (x:=P2) (y:=(29:Int)) ↑43 zaD)) (λhb=>(zay (zeN (x:=((P0/↑41)%(2:Int))) (y:=(1:Int)) (zaN (x:=(P0/↑41)) (y:=(2:Int)) (zaN (x:=P0) (y:=↑41) ↑9 zaD ↥(↑5)) zaD ↑1) zaD)))) (λh355=>(zaC (zak (zaH (zaX (x:=(zae P0 P1 (60:Int))) (y:=(30:Int)) (Ev.any (m:=true) (zau (x:=(P0,P1,(60:Int))) (zab ↑9 (zab ↥6 ↑28)) rfl (by show za2 P0 P1 (60:Int);exact ⟨hp.1,hp.2.1,by decide⟩) rfl)) zaD))))) (λh355=>(zaw (zak (zaH (zaX (x:=(zae P0 P1 (((2:Int)*P2)+(1:Int)))) (y:=P2) (Ev.any (m:=true) (zau (x:=(P0,P1,(((2:Int)*P2)+(1:Int)))) (zab ↑9 (zab ↥6 (zab (zaX (x:=((2:Int)*P2)) (y:=(1:Int)) (zaN (x:=(2:Int)) (y:=P2) zaD ↑43 ↥(.inl ↑5)) zaD) zag))) rfl (by show za2 P0 P1 (((2:Int)*P2)+(1:Int));exact ⟨hp.1,hp.2.1,by omega⟩) rfl)) ↑43))))))
theorem zoP {c k z:Int} (hz:0≤z):-(z+30)≤za4 c k z∧za4 c k z≤z+30:=by
 unfold za4
 have t1:=zev (c:=c) (k:=k) (m:=60) ↑1
 have t2:=zev (c:=c) (k:=k) (m:=(2:Int)*z+(1:Int)) ↑0
 cases ((decide ((29:Int)<z))&&(decide (((c/↑41)%(2:Int))=(1:Int)))) with
 | false=>rw [cond_false];omega
 | true=>rw [cond_true];omega
def zo2 (f:Sd4) (bs:Jq):Prop:=∃ W1 W2:Nat,W1≤3∧W2≤3∧Sd71 W1 20 70 f∧bs.length=W1∧∀ r∈bs,r.length=W2
def RW (W n:Nat) (s:Jq):Prop:=s.length≤n∧∀ r∈s,r.length=W
section
variable {f:Sd4} {bs s s1:Jq} {w w0 c x:Int} {i n W:Nat} {b:Bool}
theorem ztU (h:zo2 f bs) (e:s=List.map (λ(x:Ji)=>x) f.d):RW f.c.length 4 s:=by
 obtain ⟨W1,W2,w1,w2,hF,_⟩:=h
 rw [e,zc4,hF.bl]
 exact ⟨by have:=hF.ln;omega,λr hr=>(hF.sr r hr).1⟩
theorem zqP (h:RW W n s):RW W n (List.map (λ(x:Int)=>(ixD s ((↑95-(1:Int))-x))) (zbf 0 (↑95).toNat)):=by
 refine ⟨by rw [List.length_map,zaO];have:=h.1;omega,λr hr=>?_⟩
 obtain ⟨x,hx,rfl⟩:=List.mem_map.mp hr
 obtain ⟨i,hi⟩:=List.getElem?_of_mem hx
 have q:=zbe hi
 exact h.2 _ (zb3 (by unfold InB;omega))
theorem ztZ (h:RW W n s) (e:s1=bif b then (List.map (λ(x:Int)=>(ixD s ((↑95-(1:Int))-x))) (zbf 0 (↑95).toNat)) else s):RW W n s1:=by
 cases b
 ·rw [e];exact h
 ·rw [e];exact zqP h
theorem zuG (h:RW W n s) (hw:w=((W:Nat):Int)) (e:s1=bif b then (s++[(zc7 w [(0:Int)])]) else s):RW W (n+1) s1:=by
 cases b
 ·rw [e];exact ⟨Nat.le_succ_of_le h.1,h.2⟩
 ·rw [e]
  refine ⟨by show (s++[_]).length≤_;rw [List.length_append];have:=h.1;simp;omega,λr hr=>?_⟩
  rcases List.mem_append.mp hr with q | q
  ·exact h.2 r q
  ·rw [List.mem_singleton.mp q,hw,Lat.zdc]
theorem zuq (h:RW W n s) (e:s1=bif b then (zcs s ↑98 none) else s):RW W n s1:=by
 cases b
 ·rw [e];exact h
 ·rw [e]
  exact ⟨Nat.le_trans (m:=s.length) (by show (zcs s _ _).length≤_;unfold zcs;rw [List.length_take,List.length_drop];omega) h.1,λr hr=>h.2 r (Lat.zmB hr)⟩
theorem zuJ (h:zo2 f bs) (k:RW f.c.length 5 s) (hw:w0=↑44) (e:s1=bif b then (List.map (λ(x:Ji)=>(x++[(0:Int)])) s) else s) (ew:w=bif b then (w0+(1:Int)) else w0):zdl w s1:=by
 obtain ⟨W1,W2,w1,w2,hF,_⟩:=h
 have:=hF.w1;have:=hF.bl
 cases b
 ·rw [e,ew]
  exact ⟨by show 1≤w0;omega,by show w0≤8;omega,by show s.length≤12;have:=k.1;omega,λr hr=>by rw [k.2 r hr,cond_false,hw]⟩
 ·rw [e,ew]
  refine ⟨by show 1≤w0+1;omega,by show w0+1≤8;omega,by show (List.map _ s).length≤12;rw [List.length_map];have:=k.1;omega,λr hr=>?_⟩
  obtain ⟨x,hx,rfl⟩:=List.mem_map.mp hr
  rw [List.length_append,k.2 x hx,cond_true,hw];rfl
theorem zrC (h:zo2 f bs):f.d.length≤PySem.sizeLine∧bs.length≤PySem.sizeLine:=by
 obtain ⟨W1,W2,w1,w2,hF,hb,_⟩:=h
 exact ⟨zal (by have:=hF.ln;omega),zal ↑0⟩
theorem zps (k:RW W n s) (hn:n≤9):s.length≤PySem.sizeLine∧s.length<PySem.sizeLine:=⟨zal (by have:=k.1;omega),Nat.lt_of_le_of_lt (show s.length≤1000 by have:=k.1;omega) ↑1⟩
theorem zsg (k:RW W n s) (hn:n≤9):-(2^62)≤↑95∧↑95<2^62:=by have:=k.1;omega
theorem zs3 (k:RW W n s) (hn:n≤9):(zbf 0 (↑95).toNat).length≤PySem.sizeLine:=by rw [zaO];exact zal (by have:=k.1;omega)
theorem zpv (q:i<(↑95).toNat∧x=0+(i:Int)):InB s.length ((↑95-(1:Int))-x):=by unfold InB;omega
theorem zr5 (h:zo2 f bs) (hw:w=↑44):0≤w∧w≤3:=by obtain ⟨W1,W2,w1,w2,hF,hb,_⟩:=h;have:=hF.bl;omega
theorem zsf (h:zo2 f bs) (k:RW f.c.length n s) {r:Ji} (hr:r∈s):r.length+[(0:Int)].length≤PySem.sizeLine:=by
 obtain ⟨W1,W2,w1,w2,hF,hb,_⟩:=h
 rw [k.2 r hr,hF.bl];exact zal ↑126
theorem zmQ (h:zo2 f bs):InB bs.length (0:Int)∧(ixD bs (0:Int)).length≤3:=by
 obtain ⟨W1,W2,w1,w2,hF,hb,hr⟩:=h
 have hx:InB bs.length (0:Int):=by have:=hF.w1;unfold InB;omega
 exact ⟨hx,by rw [hr _ (zb3 hx)];exact w2⟩
theorem zrz (h:zo2 f bs) (e:s=List.map (λ(x:Ji)=>x) bs):s.length<PySem.sizeLine:=by
 obtain ⟨W1,W2,w1,w2,hF,hb,hr⟩:=h
 rw [e,zc4];exact Nat.lt_of_le_of_lt (show bs.length≤1000 by omega) ↑1
end
def m_law_start (P0:↑24) (P1:Jq) (P2:BookD) (P3:Int):(BookD×Jq) :=
 (Let (List.map (λ(x356:Ji)=>x356) P0.d) (λ(v359:Jq)=>(Let ↑81 (λ(v360:Int)=>(Let (List.map (λ(x361:Ji)=>x361) P1) (λ(v364:Jq)=>(Let (P3%(6:Int)) (λ(v365:Int)=>(bif (decide (v365=(0:Int))) then (P2,v364) else (Let (bif (decide (v365=(2:Int))) then (List.map (λ(x368:Int)=>(ixD v359 ((↑107-(1:Int))-x368))) (zbf 0 (↑107).toNat)) else v359) (λ(v371:Jq)=>(Let (bif (decide (v365=(3:Int))) then (v371++[(zc7 v360 [(0:Int)])]) else v371) (λ(v373:Jq)=>(Let (bif (decide (v365=(4:Int))) then (zcs v373 ↑98 none) else v373) (λ(v375:Jq)=>(Let (bif ↑109 then (List.map (λ(x377:Ji)=>(x377++[(0:Int)])) v375) else v375) (λ(v380:Jq)=>(Let (bif ↑109 then (v360+(1:Int)) else v360) (λ(v381:Int)=>(Let (bif ↑109 then (v364++[↑198]) else v364) (λ(v382:Jq)=>((zdE v381 v380),v382))))))))))))))))))))))
def zet (P0:↑24) (P1:Jq) (P2:BookD) (P3:Int):Prop:=zo2 P0 P1
def zf1 (K:W.Frag) (A:Adr):Sp:=Spv (ι:=↑24×Jq×BookD×Int) (λx=>[dT [dL (List.map lI x.1.a),dL (List.map lI x.1.b),dL (List.map dI x.1.c),dL (List.map lI x.1.d)],dQ K (List.map lI x.2.1),zaM A.Book x.2.2.1,dI x.2.2.2]) (λx=>zet x.1 x.2.1 x.2.2.1 x.2.2.2) (λx=>⇑[dT [zaM A.Book (((m_law_start x.1 x.2.1 x.2.2.1 x.2.2.2)).1),dL (List.map lI (((m_law_start x.1 x.2.1 x.2.2.1 x.2.2.2)).2))]])
theorem zb7:FnScope ↑217 ["_law_side_here","_law_right","_law_second","_law_cell_here"] (zad zcg):=⇑4
theorem zjz (F:Fun K "_law_start" "_law_start" zcg f fd) (T:Txt K mg A) (yaE:Callee P w K mg base ⇑1 3 "book_of" ["many","swaps"] (zgc K A)):FnOk P w K mg base ⇑1 4 f fd ["_law_side_here","_law_right","_law_second","_law_cell_here"] (zf1 K A):=by
 refine F.okV zb7 ↥4 ⇑8
 obtain ⟨P0,P1,P2,P3⟩:=x
 have hu:=hr.units
 replace hp:zet P0 P1 P2 P3:=hp
 unfold zet at hp
 refine ⟨_,(zac (zaq (i:=4) zb7.nd rfl ↥2 (zbG rfl (.of (osc:=(zad zcg)) (N:=↑217) (own:=["_law_swap"]) (fvn:=[]) (fv:=[]) rfl rfl ↑4) (zaV (K:=K) rfl ↑201) (λ_ _ _ _ _=>⟨(zan (i:=0) (show (["_law_swap"]:List Str).Nodup by decide+kernel) rfl ⇑0 ↥2),za5,↑134⟩))) (zac (zaq (i:=5) zb7.nd rfl ⇑0 ↑221) (zac (zeI (i:=6) rfl zb7.nd rfl rfl (.of (osc:=(zad zcg)) (N:=↑217) (own:=["_law_basket"]) (fvn:=[]) (fv:=[]) rfl rfl ↑4) (zaV (K:=K) rfl (pv 1)) (λ_ _ _ _ _=>⟨(zan (i:=0) (show (["_law_basket"]:List Str).Nodup by decide+kernel) rfl ⇑0 ↥2),za5,↑134⟩)) (zac (zaq (i:=7) zb7.nd rfl ⇑0 (zaz zdB (pv 3) zai)) (zac (zcp (zaJ zgr (pv 7) zai (zaP _)) (zac (zaR (zfJ ↑[pv 2,pv 6])) zaf) zaf) (zac (zcp (zaJ zgr (pv 7) zai (zaP _)) (zac (zaq (i:=4) zb7.nd rfl ↥2 (zbG rfl (.of (osc:=(zad zcg)) (N:=↑217) (own:=["_law_k"]) (fvn:=["_law_swaps"]) (fv:=[4]) rfl rfl ↑4) (zbR rfl T.range ↑[↑251]) (λ_ _ _ _ _=>⟨(zan (i:=0) (show (["_law_k","_law_swaps"]:List Str).Nodup by decide +kernel) rfl ⇑0 ↥2),za5,(zaS ↑7 (pv 1) (zaz zeQ (zaz zeQ ↑188 zai) (pv 0)) ↥3)⟩))) zaf) zaf) (zac (zcp (zaJ zgr (pv 7) zai (zaP _)) (zac (zc9 (zch (K:=K) rfl (pv 4) ↑[zaz zhr ↑88 (pv 5)])) zaf) zaf) (zac (zcp (zaJ zgr (pv 7) zai (zaP _)) (zac (zaq (i:=4) zb7.nd rfl ↥2 (zd9 ↑121 (pv 4) (zdX zai) zgz)) zaf) zaf) (zac (zcp (zaJ zgr (pv 7) zai (zaP _)) (zac (zaq (i:=4) zb7.nd rfl ↥2 (zbG rfl (.of (osc:=(zad zcg)) (N:=↑217) (own:=["_law_swap"]) (fvn:=[]) (fv:=[]) rfl rfl ↑4) (zaV (K:=K) rfl (pv 4)) (λ_ _ _ _ _=>⟨(zan (i:=0) (show (["_law_swap"]:List Str).Nodup by decide+kernel) rfl ⇑0 ↥2),za5,(zaz zdD (pv 0) ↑88)⟩))) (zac (zaq (i:=5) zb7.nd rfl ⇑0 (zaz zcG (pv 5) zai)) (zac (zc9 (zch (K:=K) rfl (pv 6) ↑[(zaz zhr ↑88 (zam ↑51 rfl T.len PySem.boot_len ↑[(zaS ↑7 (pv 1) zai ↥3)]))])) zaf))) zaf) (zac (zaR (zfJ ↑[zaT yaE ↥1 rfl zaL ↑[pv 5,pv 4],pv 6])) zaf)))))))))),.inl ?_⟩
 show L2.Run _ ([⇑[dT [dL ↑14,dL ↑15,dL ↑13,dL ↑16]],⇑[dQ K ↥9],⇑[zaM A.Book P2],⇑[dI P3],.no,.no,.no,.no]:L2.Ctx) _ (↑76 (m_law_start P0 P1 P2 P3))
 unfold m_law_start
 exact (zfE (m:=true) (x:=(List.map (λ(x356:Ji)=>x356) P0.d)) (λz=>List.map lI z) ↑76 (EvO.conv (zbA (g:=(λ(x356:Ji)=>dL (List.map dI x356))) (zbx (m:=false) lI (xs:=P0.d) ↑103) ↥((zrC hp).1) ↑5 (λi357 x356 hx358=>have v358:=List.mem_of_getElem? hx358;↑182)) ↑8) (λv359 hv359=>have hS:=ztU hp hv359;(zao (m:=true) (x:=↑81) dI ↑76 (zaZ (f:=dI) (xs:=P0.c) ↑103) (λv360 hv360=>have hW:=hv360;(zfE (m:=true) (x:=(List.map (λ(x361:Ji)=>x361) P1)) (λz=>List.map lI z) ↑76 (EvO.conv (zbA (g:=(λ(x361:Ji)=>dL (List.map dI x361))) (zbx (m:=false) lI (xs:=P1) ⇑3) ↥((zrC hp).2) ↑5 (λi362 x361 hx363=>have v363:=List.mem_of_getElem? hx363;↑182)) ↑8) (λv364 hv364=>have hB:=hv364;(zao (m:=true) (x:=(P3%(6:Int))) dI ↑76 (zaN (x:=P3) (y:=(6:Int)) (Ev.any (m:=false) ↑38) zaD ↑1) (λv365 hv365=>(za8 (b:=(decide (v365=(0:Int)))) ↑76 (zay (zeN (x:=v365) (y:=(0:Int)) ↑102 zaD)) (λh366=>(zaC (zbz (i:=6) rfl (zak (zaH (zfH (zab ↑29 (zab (Ev.old ↑73) zag)) ↑105)))))) (λh366=>(zaw (zc3 (b:=(decide (v365=(2:Int)))) (λbb=>([⇑[dT [dL ↑14,dL ↑15,dL ↑13,dL ↑16]],⇑[dQ K ↥9],⇑[zaM A.Book P2],⇑[dI P3],.ow true (List.map lI (bif bb then (List.map (λ(x368:Int)=>(ixD v359 ((↑107-(1:Int))-x368))) (zbf 0 (↑107).toNat)) else v359)),↥[dI v360],.ow true (List.map lI v364),↥[dI v365]]:L2.Ctx)) (zay (zeN (x:=v365) (y:=(2:Int)) ↑102 zaD)) (λh367=>(zbz (i:=4) rfl (zeb (m:=true) (EvO.conv (zbA (g:=(λ(x368:Int)=>dL (List.map dI (ixD v359 ((↑107-(1:Int))-x368))))) (zdq (m:=true) (n:=↑107) (zaZ (f:=lI) (xs:=v359) (Ev.old (Ev.weak (K:=K) ↑33))) ↥(zsg hS ↑1)) ↥(zs3 hS ↑1) ↑5 (λi369 x368 hx370=>have v370:=zbe hx370;(zbd (f:=lI) (xs:=v359) ↑82 (zaX (x:=(↑107-(1:Int))) (y:=x368) (zaX (x:=↑107) (y:=(1:Int)) (zaZ (f:=lI) (xs:=v359) (Ev.old ↑82)) zaD) ↑146) ↥(zpv ↥0)))) ↑8) ↑120))) (λh367=>↑120) (zcM (x:=(bif (decide (v365=(2:Int))) then (List.map (λ(x368:Int)=>(ixD v359 ((↑107-(1:Int))-x368))) (zbf 0 (↑107).toNat)) else v359)) (λv371=>([⇑[dT [dL ↑14,dL ↑15,dL ↑13,dL ↑16]],⇑[dQ K ↥9],⇑[zaM A.Book P2],⇑[dI P3],.ow true (List.map lI v371),↥[dI v360],.ow true (List.map lI v364),↥[dI v365]]:L2.Ctx)) ↑76 (λv371 hv371=>have hS1:=ztZ hS hv371;(zc3 (b:=(decide (v365=(3:Int)))) (λbb=>([⇑[dT [dL ↑14,dL ↑15,dL ↑13,dL ↑16]],⇑[dQ K ↥9],⇑[zaM A.Book P2],⇑[dI P3],.ow true (List.map lI (bif bb then (v371++[(zc7 v360 [(0:Int)])]) else v371)),↥[dI v360],.ow true (List.map lI v364),↥[dI v365]]:L2.Ctx)) (zay (zeN (x:=v365) (y:=(3:Int)) ↑102 zaD)) (λh372=>(zcd (f:=lI) (xs:=v371) (x:=(zc7 v360 [(0:Int)])) rfl (EvO.ev (zfU (f:=dI) (xs:=[(0:Int)]) (n:=v360) ↑77 ↑12 (by have z:=zr5 hp hW;constructor<;>omega) (by have z:=zr5 hp hW;exact zal ↑126))) ↥((zps hS1 ↑1).2) ↑120)) (λh372=>↑120) (zcM (x:=(bif (decide (v365=(3:Int))) then (v371++[(zc7 v360 [(0:Int)])]) else v371)) (λv373=>([⇑[dT [dL ↑14,dL ↑15,dL ↑13,dL ↑16]],⇑[dQ K ↥9],⇑[zaM A.Book P2],⇑[dI P3],.ow true (List.map lI v373),↥[dI v360],.ow true (List.map lI v364),↥[dI v365]]:L2.Ctx)) ↑76 (λv373 hv373=>have hS2:=zuG hS1 hW hv373;(zc3 (b:=(decide (v365=(4:Int)))) (λbb=>([⇑[dT [dL ↑14,dL ↑15,dL ↑13,dL ↑16]],⇑[dQ K ↥9],⇑[zaM A.Book P2],⇑[dI P3],.ow true (List.map lI (bif bb then (zcs v373 ↑98 none) else v373)),↥[dI v360],.ow true (List.map lI v364),↥[dI v365]]:L2.Ctx)) (zay (zeN (x:=v365) (y:=(4:Int)) ↑102 zaD)) (λh374=>(zbz (i:=4) rfl (zeb (m:=true) (ze6 (f:=lI) (xs:=v373) (Ev.weak (K:=K) ↑33) (zcX zaD) zfB) ↑120))) (λh374=>↑120) (zcM (x:=(bif (decide (v365=(4:Int))) then (zcs v373 ↑98 none) else v373)) (λv375=>([⇑[dT [dL ↑14,dL ↑15,dL ↑13,dL ↑16]],⇑[dQ K ↥9],⇑[zaM A.Book P2],⇑[dI P3],.ow true (List.map lI v375),↥[dI v360],.ow true (List.map lI v364),↥[dI v365]]:L2.Ctx)) ↑76 (λv375 hv375=>have hS3:=zuq hS2 hv375;(zc3 (b:=↑109) (λbb=>([⇑[dT [dL ↑14,dL ↑15,dL ↑13,dL ↑16]],⇑[dQ K ↥9],⇑[zaM A.Book P2],⇑[dI P3],.ow true (List.map lI (bif bb then (List.map (λ(x377:Ji)=>(x377++[(0:Int)])) v375) else v375)),↥[dI (bif bb then (v360+(1:Int)) else v360)],.ow true (List.map lI (bif bb then (v364++[↑198]) else v364)),↥[dI v365]]:L2.Ctx)) (zay (zeN (x:=v365) (y:=(5:Int)) ↑102 zaD)) (λh376=>(zbz (i:=4) rfl (zeb (m:=true) (EvO.conv (zbA (g:=(λ(x377:Ji)=>dL (List.map dI (x377++[(0:Int)])))) (zbx (m:=true) lI (xs:=v375) (Ev.weak (K:=K) ↑33)) ↥((zps hS3 ↑1).1) ↑5 (λi378 x377 hx379=>have v379:=List.mem_of_getElem? hx379;(EvO.ev (EvO.anyI (m:=true) (zcu (f:=dI) (xs:=x377) (ys:=[(0:Int)]) ↑2 ↑77 ↥(zsf hp hS3 ↥0)))))) ↑8) (zcq (m:=true) (zaX (x:=v360) (y:=(1:Int)) ↑12 zaD) (zcd (f:=lI) (xs:=v364) (x:=↑198) rfl (EvO.ev (zfU (f:=dI) (xs:=[(0:Int)]) (n:=(((↑93).length:Nat):Int)) ↑77 (zaZ (f:=dI) (xs:=↑93) (Ev.weak (K:=K) (zbd (f:=lI) (xs:=P1) ⇑3 zaD ↥((zmQ hp).1)))) (by have z:=(zmQ hp).2;constructor<;>omega) (by have z:=(zmQ hp).2;exact zal ↑126))) ↥(zrz hp hB) ↑120))))) (λh376=>↑120) (zcM (x:=(bif ↑109 then (List.map (λ(x377:Ji)=>(x377++[(0:Int)])) v375) else v375)) (λv380=>([⇑[dT [dL ↑14,dL ↑15,dL ↑13,dL ↑16]],⇑[dQ K ↥9],⇑[zaM A.Book P2],⇑[dI P3],.ow true (List.map lI v380),↥[dI (bif ↑109 then (v360+(1:Int)) else v360)],.ow true (List.map lI (bif ↑109 then (v364++[↑198]) else v364)),↥[dI v365]]:L2.Ctx)) ↑76 (λv380 hv380=>have hS4:=hv380;(zcM (x:=(bif ↑109 then (v360+(1:Int)) else v360)) (λv381=>([⇑[dT [dL ↑14,dL ↑15,dL ↑13,dL ↑16]],⇑[dQ K ↥9],⇑[zaM A.Book P2],⇑[dI P3],.ow true (List.map lI v380),↥[dI v381],.ow true (List.map lI (bif ↑109 then (v364++[↑198]) else v364)),↥[dI v365]]:L2.Ctx)) ↑76 (λv381 hv381=>have hW4:=hv381;(zcM (x:=(bif ↑109 then (v364++[↑198]) else v364)) (λv382=>([⇑[dT [dL ↑14,dL ↑15,dL ↑13,dL ↑16]],⇑[dQ K ↥9],⇑[zaM A.Book P2],⇑[dI P3],.ow true (List.map lI v380),↥[dI v381],.ow true (List.map lI v382),↥[dI v365]]:L2.Ctx)) ↑76 (λv382 hv382=>(zbz (i:=4) rfl (zbz (i:=6) rfl (zak (zaH (Ev.old (zfH (zab (zau (x:=(v381,v380)) (zab ↑12 (zab (Ev.old (Ev.weak (K:=K) ↑33)) zag)) rfl (by show zdl v381 v380;exact zuJ hp hS3 hW hS4 hW4) rfl) (zab ↑73 zag)) ↑105)))))))))))))))))))))))))))))))))
def StO (W1 W2:Nat) (f:Sd4) (bs:Jq) (p:BookD×Jq):Prop :=
 (p.1.many=(W1:Int)∧p.2=bs∧∀ t∈p.1.swaps,t.length=W1∧Lat.Bit 70 t∧Lat.SpL f.d (Lat.vec t))∨(p.1.many=((W1+1:Nat):Int)∧p.2=bs++[zc7 (W2:Int) [(0:Int)]]∧∀ t∈p.1.swaps,∃ u∈f.d,t=u++[(0:Int)])
theorem zlF {W1 W2:Nat} {f:Sd4} {bs:Jq} {c:Int} {b2:BookD} {p:BookD×Jq} (hF:Sd71 W1 20 70 f) (hl:bs.length=W1) (hr:∀ r∈bs,r.length=W2) (hb:b2=⟨(W1:Int),f.d⟩) (e:p=m_law_start f bs b2 c):StO W1 W2 f bs p:=by
 have own:∀ t∈f.d,t.length=W1∧Lat.Bit 70 t∧Lat.SpL f.d (Lat.vec t):=λt ht=>⟨(hF.sr t ht).1,(hF.sr t ht).2,Lat.Sp.mem ⟨t,ht,rfl⟩⟩
 rw [e]
 unfold m_law_start
 refine zdL (P:=StO W1 W2 f bs) λs hs=>zdL (P:=StO W1 W2 f bs) λw hw=>zdL (P:=StO W1 W2 f bs) λbk hbk=>zdL (P:=StO W1 W2 f bs) λway _=>?_
 rw [zc4] at hs hbk
 rw [hF.bl] at hw
 by_cases q0:way=0
 ·rw [decide_eq_true q0,cond_true]
  exact .inl ⟨by rw [hb],hbk,by rw [hb];exact own⟩
 ·rw [decide_eq_false q0,cond_false]
  refine zdL (P:=StO W1 W2 f bs) λs1 h1=>zdL (P:=StO W1 W2 f bs) λs2 h2=>zdL (P:=StO W1 W2 f bs) λs3 h3=>zdL (P:=StO W1 W2 f bs) λs4 h4=>zdL (P:=StO W1 W2 f bs) λw4 h5=>zdL (P:=StO W1 W2 f bs) λb4 h6=>?_
  rw [zpk]
  by_cases q5:way=5
  ·rw [decide_eq_true q5,cond_true] at h4 h5 h6
   rw [decide_eq_false (show ¬ way=2 by omega),cond_false] at h1
   rw [decide_eq_false (show ¬ way=3 by omega),cond_false] at h2
   rw [decide_eq_false (show ¬ way=4 by omega),cond_false] at h3
   refine .inr ⟨by show w4=_;rw [h5,hw];rfl,?_,λt ht=>?_⟩
   ·show b4=_
    have hx:InB bs.length (0:Int):=by have:=hF.w1;unfold InB;omega
    rw [h6,hbk,hr _ (zb3 hx)]
   ·have ht:t∈s4:=ht
    rw [h4,h3,h2,h1,hs] at ht
    obtain ⟨u,hu,rfl⟩:=List.mem_map.mp ht
    exact ⟨u,hu,rfl⟩
  ·rw [decide_eq_false q5,cond_false] at h4 h5 h6
   have k0:∀ t∈s,t.length=W1∧Lat.Bit 70 t∧Lat.SpL f.d (Lat.vec t):=by rw [hs];exact own
   have k1:∀ t∈s1,t.length=W1∧Lat.Bit 70 t∧Lat.SpL f.d (Lat.vec t):=λt ht=>by
    rw [h1] at ht
    cases q:decide (way=2) with
    | false=>rw [q] at ht;exact k0 t ht
    | true =>
     rw [q] at ht
     obtain ⟨x,hx,rfl⟩:=List.mem_map.mp ht
     obtain ⟨i,hi⟩:=List.getElem?_of_mem hx
     exact k0 _ (zb3 (zpv (zbe hi)))
   have k2:∀ t∈s2,t.length=W1∧Lat.Bit 70 t∧Lat.SpL f.d (Lat.vec t):=λt ht=>by
    rw [h2] at ht
    cases q:decide (way=3) with
    | false=>rw [q] at ht;exact k1 t ht
    | true =>
     rw [q,cond_true] at ht
     rcases List.mem_append.mp ht with ht | ht
     ·exact k1 t ht
     ·rw [List.mem_singleton.mp ht,hw]
      exact ⟨Lat.zdc,Lat.Bit.of λi=>by rw [Lat.ze3];exact Nat.zero_le _,Lat.Sp.zero.conv λi=>Lat.ze3.symm⟩
   have k3:∀ t∈s3,t.length=W1∧Lat.Bit 70 t∧Lat.SpL f.d (Lat.vec t):=λt ht=>by
    rw [h3] at ht
    cases q:decide (way=4) with
    | false=>rw [q] at ht;exact k2 t ht
    | true=>rw [q] at ht;exact k2 t (Lat.zmB ht)
   exact .inl ⟨by show w4=_;rw [h5,hw],by show b4=_;rw [h6,hbk],λt ht=>by
    have ht:t∈s4:=ht
    rw [h4] at ht;exact k3 t ht⟩
theorem zvu {W1 W2 fa sa fb sb ib xb:Nat} {f s:Sd4} {im bs:Jq} {a b c:BookD} {u:Ji} (hF:Sd71 W1 fa sa f) (hN:Snt W1 W2 f s im bs xb) (hb:b.many=(W2:Int)) (hu:u.length=W1):zah ⟨a,b,bs++[zc7 (W2:Int) [(0:Int)]]⟩ (u++[(0:Int)])=zah ⟨c,b,bs⟩ u:=by
 obtain ⟨k1,k2⟩:=zeG (S:=⟨a,b,bs++[zc7 (W2:Int) [(0:Int)]]⟩) (x:=u++[(0:Int)]) (W1:=W1+1) (W2:=W2) hb (λr hr=>by
  rcases List.mem_append.mp hr with q | q
  ·exact (hN.r r q).1
  ·rw [List.mem_singleton.mp q];exact Lat.zdc) (by rw [List.length_append,hN.l];rfl) (by rw [List.length_append,hu];rfl)
 obtain ⟨j1,j2⟩:=zeG (S:=⟨c,b,bs⟩) (x:=u) (W1:=W1) (W2:=W2) hb (λr hr=>(hN.r r hr).1) hN.l hu
 refine Lat.zk3 (k1.trans j1.symm) λi=>?_
 rw [k2 i,j2 i,List.range_succ,List.map_append]
 have ls:∀ (x y:Ji),Lat.lsum (x++y)=Lat.lsum x+Lat.lsum y:=by
  intro x y
  induction x with
  | nil=>simp [Lat.lsum]
  | cons z x ih=>simp only [List.cons_append,Lat.lsum];rw [ih];omega
 rw [ls]
 have e0:Lat.lsum ([W1].map λ(w:Nat)=>Lat.vec (u++[(0:Int)]) w*Lat.vec (ixD (bs++[zc7 (W2:Int) [(0:Int)]]) (w:Int)) i)=0:=by
  have:Lat.vec (u++[(0:Int)]) W1=0:=by rw [Lat.zgl];exact Lat.zda ↑0
  simp [Lat.lsum,this]
 refine (congrArg (_+·) e0).trans ?_
 rw [Int.add_zero]
 refine Lat.zcj λw hw=>?_
 have hl:w<bs.length:=by rw [hN.l];exact List.mem_range.mp hw
 show Lat.vec (u++[(0:Int)]) w*Lat.vec (ixD (bs++[zc7 (W2:Int) [(0:Int)]]) (w:Int)) i=Lat.vec u w*Lat.vec (ixD bs (w:Int)) i
 rw [Lat.zgl,zbU (x:=bs[w]) (by rw [List.getElem?_append_left hl,List.getElem?_eq_getElem hl]),zbU ↑230]
def IsP (f:SenderD) (sd:List Sd4) (due:Jq):Prop:=sd.length=3∧f.baskets.length≤1000∧∀ r∈f.baskets,r.length≤1000
def zaI (P0:SenderD) (P1:SenderD):↑50 :=
 (Let () (λ(v383:Unit)=>(Let () (λ(v384:Unit)=>(Let (zry (x_Sender_behind P0 P1) (λ(v386:SenderD)=>(Except.ok v386))) (λ(r387:Except Xn SenderD)=>((okO r387),(zt7 r387))))))))
def zeq (P0:SenderD) (P1:SenderD):Prop:=BhX P0 P1
def zf3 (K:W.Frag) (A:Adr):Sp:=Spv (ι:=SenderD×SenderD) (λx=>[zav A A.Sender x.1,zav A A.Sender x.2]) (λx=>zeq x.1 x.2) (λx=>⇑[dT [dOpt ↑86 ((zaI x.1 x.2).1),dOpt ↑96 ((zaI x.1 x.2).2)]])
theorem zej:FnScope ["_law_sender","_law_other","_law_found","_law_caught","e"] ["_law_sender","_law_other"] (zad zdY):=⇑4
theorem zj1 (F:Fun K "_law_asked" "_law_asked" zdY f fd) (T:Txt K mg A)  (yaA:CalleeM P w K mg base ⇑1 9 A.Sender "behind" ["self","other"] (zd4 K A)):FnOk P w K mg base ⇑1 10 f fd ["_law_sender","_law_other"] (zf3 K A):=by
 refine F.okVX zej ↥4 (λcdv Ar outer s H E x hr hp O=> ?_)
 obtain ⟨P0,P1⟩:=x
 have hu:=hr.units
 replace hp:zeq P0 P1:=hp
 unfold zeq at hp
 refine ⟨_,(zfx (ziP (zaq (i:=2) zej.nd rfl ⇑0 zjP)) (zfx (ziP (zaq (i:=3) zej.nd rfl ⇑0 zjP)) (zfx (ztk (K:=K) O rfl zej.nd (i:=4) (j:=3) rfl rfl rfl ⇑0 ↥2 rfl T.k_SwapError (zfx (zsq (i:=2) zej.nd rfl ⇑0 (zr7 O (pv 0) T.Sender_cl yaA ↥1 ↑[pv 1])) ziv)) (zfx (ziP (zaR (zfJ ↑[pv 2,pv 3]))) ziv)))),.inl ?_⟩
 show L2.Run _ ([⇑[zav A A.Sender P0],⇑[zav A A.Sender P1],.no,.no,.no]:L2.Ctx) _ (↑246 (zaI P0 P1))
 unfold zaI
 exact (zao (m:=true) (x:=()) (λ_=>dN) ↑246 zaD (λv383 hv383=>(zao (m:=true) (x:=()) (λ_=>dN) ↑246 zaD (λv384 hv384=>(zo5 (xc:=A.xc) (λ(z385:SenderD)=>([⇑[zav A A.Sender P0],⇑[zav A A.Sender P1],⇑[zav A A.Sender z385],↥[dN],.no]:L2.Ctx)) ([⇑[zav A A.Sender P0],⇑[zav A A.Sender P1],↥[dN],↥[dN],.no]:L2.Ctx) (λ(r387:Except Xn SenderD)=>([⇑[zav A A.Sender P0],⇑[zav A A.Sender P1],⇑[dOpt ↑86 (okO r387)],↥[dOpt ↑96 (zt7 r387)],.no]:L2.Ctx)) ↑246 (λE1=>(znu (λv=>Oc.nx ((λ(z385:SenderD)=>([⇑[zav A A.Sender P0],⇑[zav A A.Sender P1],⇑[zav A A.Sender z385],↥[dN],.no]:L2.Ctx)) v)) (zq3 (x:=(P0,P1)) ↑2 (zab ⇑3 zag) rfl (by show zcI P0 P1;exact hp) rfl rfl) (.eq ↑39) (λv386 hv386=>(zar (.eq ↑39))))) (λz385=>(.eq ↑39)) (λe=>⟨match e with | .OtherBook=>T.exm_OtherBook,(.eq (.eq (.old ↑116)))⟩) (λr387 hr387=>(zak (zaH (zfH (zab ↑29 (zab (Ev.old ↑38) zag)) ↑105)))))))))
theorem zi9 (S T:SenderD):zaI S T=(okO (x_Sender_behind S T),zt7 (x_Sender_behind S T)):=by
 unfold zaI Let zry
 cases x_Sender_behind S T<;>rfl
theorem ziO {S T:SenderD} {p:Option SenderD×Option Xn} (e:p=zaI S T) (h:p.2.isSome=false):p.1.isSome=true:=by
 rw [e,zi9] at *
 cases q:x_Sender_behind S T with
 | ok v=>rfl
 | error e=>rw [q] at h;cases h
def zcJ (P0:SenderD) (P1:↑49) (P2:Jq):Bool :=
 (bif ((!true)||(!decide (P0.first.swaps=(↑93).d))) then false else (bif ((!decide (P0.first.many=((((↑93).c).length:Nat):Int)))||(!decide (P0.second.many=((((ixD P1 (2:Int)).c).length:Nat):Int)))) then false else (bif ((!decide (P0.second.swaps=(ixD P1 (2:Int)).d))||(!decide (((P0.baskets.length:Nat):Int)=((P2.length:Nat):Int)))) then false else (((List.map (λ(x391:(Ji×Ji))=>(zbr x391.1 x391.2)) (List.zip P0.baskets P2))).all id))))
def zge (P0:SenderD) (P1:↑49) (P2:Jq):Prop:=IsP P0 P1 P2
def zim (K:W.Frag) (A:Adr):Sp:=Spv (ι:=SenderD×↑49×Jq) (λx=>[zav A A.Sender x.1,dQ K (List.map ↑32 x.2.1),dQ K (List.map lI x.2.2)]) (λx=>zge x.1 x.2.1 x.2.2) (λx=>↥[dB (zcJ x.1 x.2.1 x.2.2)])
theorem znw:FnScope ["_law_found","_law_sides","_law_due"] ["_law_found","_law_sides","_law_due"] (zad zfu):=⇑4
theorem znN (F:Fun K "_law_is" "_law_is" zfu f fd) (T:Txt K mg A) (yax:Callee P w K mg base ⇑1 2 "_law_same" ["_law_found","_law_due"] (zft K A)):FnOk P w K mg base ⇑1 3 f fd ["_law_found","_law_sides","_law_due"] (zim K A):=by
 refine F.okV znw ↥4 ⇑8
 obtain ⟨P0,P1,P2⟩:=x
 have hu:=hr.units
 replace hp:zge P0 P1 P2:=hp
 unfold zge at hp
 refine ⟨_,(zac (zcp (PW.pt (zky (ziM (zhR (zam ↑19 rfl T.isinstance PyProof.Rows.boot_isinstance ↑[pv 0,(zbW (v:=.ref A.Sender) rfl T.Sender rfl)]))) (zih (zaJ (zhP (K:=K) rfl hu) (zaK (K:=K) rfl ↑30 rfl) ↑244 (zaP _))))) ↑153 zaf) (zac (zcp (PW.pt (zky (zaJ zf4 (zaK (K:=K) rfl ↑30 rfl) ↑250 (zaP _)) (zih (zaJ zf4 (zaK (K:=K) rfl ↑30 rfl) ↑250 (zaP _))))) ↑153 zaf) (zac (zcp (PW.pt (zky (zaJ (zhP (K:=K) rfl hu) (zaK (K:=K) rfl ↑30 rfl) ↑244 (zaP _)) (zih (zaJ zf4 (zam ↑51 rfl T.len PySem.boot_len ↑[↑30]) ↑189 (zaP _))))) ↑153 zaf) (zac (zaR (zam (ziA (K:=K) rfl rfl) rfl T.all PyProof.Rows.boot_all ↑[(zbG rfl (.of (osc:=(zad zfu)) (N:=["_law_found","_law_sides","_law_due"]) (own:=["_law_one","_law_other"]) (fvn:=[]) (fv:=[]) rfl rfl ↑4) (zc6 (K:=K) rfl rfl T.zip ↑[↑30,pv 2]) (λ_ _ _ _ _=>⟨(zbu (K:=K) (n:=2) rfl rfl (zaG (zan (i:=0) (show (["_law_one","_law_other"]:List Str).Nodup by decide+kernel) rfl ⇑0 ↥2) (zaG (zan (i:=1) (show (["_law_one","_law_other"]:List Str).Nodup by decide+kernel) rfl ⇑0 ↥2) zci))),za5,(zaT yax ↥1 rfl zaL ↑[pv 0,pv 1])⟩))])) zaf)))),.inl ?_⟩
 show L2.Run _ ([⇑[zav A A.Sender P0],⇑[dQ K (List.map ↑32 P1)],⇑[dQ K (List.map lI P2)]]:L2.Ctx) _ (⇑9 (zcJ P0 P1 P2))
 unfold zcJ
 exact (za8 (b:=((!true)||(!decide (P0.first.swaps=(↑93).d)))) ⇑9 (zhX (b:=(!true)) (zho (zgC (ev_isiO ↑2 T.isi_Sender))) (λhb=>(zay (zgJ (n:=1) (neg:=true) (xs:=P0.first.swaps) (ys:=(↑93).d) (EqD.list EqD.int) (Ev.weak (K:=K) (zbh ↑254 T.Book_cl T.Book_swaps rfl)) ↑243)))) (λh388=>↑151) (λh388=>(zaw (za8 (b:=((!decide (P0.first.many=((((↑93).c).length:Nat):Int)))||(!decide (P0.second.many=((((ixD P1 (2:Int)).c).length:Nat):Int))))) ⇑9 (zhX (b:=(!decide (P0.first.many=((((↑93).c).length:Nat):Int)))) (zay (zeg (x:=P0.first.many) (y:=((((↑93).c).length:Nat):Int)) (Ev.any (m:=false) (zbh ↑254 T.Book_cl T.Book_many rfl)) (zaZ (f:=dI) (xs:=(↑93).c) ↑243))) (λhb=>(zay (zeg (x:=P0.second.many) (y:=((((ixD P1 (2:Int)).c).length:Nat):Int)) (Ev.any (m:=false) (zbh ↑253 T.Book_cl T.Book_many rfl)) (zaZ (f:=dI) (xs:=(ixD P1 (2:Int)).c) ↑243))))) (λh389=>↑151) (λh389=>(zaw (za8 (b:=((!decide (P0.second.swaps=(ixD P1 (2:Int)).d))||(!decide (((P0.baskets.length:Nat):Int)=((P2.length:Nat):Int))))) ⇑9 (zhX (b:=(!decide (P0.second.swaps=(ixD P1 (2:Int)).d))) (zay (zgJ (n:=1) (neg:=true) (xs:=P0.second.swaps) (ys:=(ixD P1 (2:Int)).d) (EqD.list EqD.int) (Ev.weak (K:=K) (zbh ↑253 T.Book_cl T.Book_swaps rfl)) ↑243)) (λhb=>(zay (zeg (x:=((P0.baskets.length:Nat):Int)) (y:=((P2.length:Nat):Int)) (zaZ (f:=lI) (xs:=P0.baskets) (Ev.weak (K:=K) (zbh ↑2 T.Sender_cl T.Sender_baskets rfl))) (zaZ (f:=lI) (xs:=P2) ↑29))))) (λh390=>↑151) (λh390=>(zaw (zak (zaH (zpq (xs:=(List.map (λ(x391:(Ji×Ji))=>(zbr x391.1 x391.2)) (List.zip P0.baskets P2))) (Ev.weak (K:=K) (EvO.ev (EvO.conv (zbA (g:=(λ(x391:(Ji×Ji))=>dB (zbr x391.1 x391.2))) (ze9 (m:=false) lI lI (xs:=P0.baskets) (ys:=P2) (Ev.weak (K:=K) (zbh ↑2 T.Sender_cl T.Sender_baskets rfl)) ↑29) ↥(zal (by rw [List.length_zip];have z:=hp.2.1;omega)) ↑5 (λi392 x391 hx393=>have v393:=zcE hx393;(Ev.any (m:=true) (zau (x:=(x391.1,x391.2)) (zab ↑2 (zab ↑82 zag)) rfl (by show zem x391.1 x391.2;exact hp.2.2 _ (List.mem_of_getElem? (And.left ↥0))) rfl)))) ↑8)))))))))))))))
def L75 (y:T3 (List Sd4) Jq Jq) (S1 S2:SenderD) (p:BookD×Jq) (w:Int) (u:Bool) (due:Jq):Prop:=∃ (s0 s1 s2:Sd4) (W0 W1 W2:Nat),y.a=[s0,s1,s2]∧(W0≤3∧W1≤3∧W2≤3)∧Q75 W0 W1 s0 s1 y.b∧Q75 W1 W2 s1 s2 y.c∧S1=⟨⟨(W0:Int),s0.d⟩,⟨(W1:Int),s1.d⟩,y.b⟩∧S2=⟨p.1,⟨(W2:Int),s2.d⟩,p.2⟩∧StO W1 W2 s1 y.c p∧w=(W2:Int)∧(u=false->p.1.many=(W1:Int)∧p.1.swaps=s1.d)∧(u=true->¬ (p.1.many=(W1:Int)∧p.1.swaps=s1.d))∧due=List.map (λ(x:Ji)=>m_law_sums y.c x w) y.b
section
variable {y:T3 (List Sd4) Jq Jq} {S1 S2:SenderD} {p:BookD×Jq} {w c x k:Int} {u:Bool} {due hd:Jq} {bk:List BookD} {i:Nat} {r t:Ji} {xs:Ji} {z:Option SenderD×Option Xn}
theorem zvF (h:P75 y) {v:Sd4} (hv:v∈y.a):BoP v:=by
 obtain ⟨s0,s1,s2,W0,W1,W2,e,hw,⟨i1,a1,a2,_⟩,⟨i2,a3,a4,_⟩⟩:=h
 rw [e] at hv
 simp only [List.mem_cons,List.not_mem_nil,or_false] at hv
 rcases hv with rfl | rfl | rfl
 ·exact ⟨W0,hw.1,a1⟩
 ·exact ⟨W1,hw.2.1,a2⟩
 ·exact ⟨W2,hw.2.2,a4⟩
theorem zug (h:P75 y):y.a.length=3:=by obtain ⟨s0,s1,s2,W0,W1,W2,e,_⟩:=h;rw [e];rfl
theorem zsH (h:P75 y) (hk:0≤k∧k<3):InB y.a.length k:=by have:=zug h;unfold InB;omega
theorem zvC (h:P75 y):y.a.length≤PySem.sizeLine:=zal (by have:=zug h;omega)
theorem zrT (h:P75 y) (hK:bk=List.map (λ(v:Sd4)=>za9 v) y.a) (hk:0≤k∧k<3):InB bk.length k:=by rw [hK,List.length_map];exact zsH h hk
theorem zuY (h:P75 y):y.b.length≤PySem.sizeLine:=by
 obtain ⟨s0,s1,s2,W0,W1,W2,e,hw,⟨i1,a1,a2,b1,b2⟩,_⟩:=h
 exact zal (by have:=b2.l;omega)
theorem zt8 (h:P75 y) (hK:bk=List.map (λ(v:Sd4)=>za9 v) y.a):∃ (s0 s1 s2:Sd4) (W0 W1 W2:Nat),y.a=[s0,s1,s2]∧(W0≤3∧W1≤3∧W2≤3)∧Q75 W0 W1 s0 s1 y.b∧Q75 W1 W2 s1 s2 y.c∧bk=[⟨(W0:Int),s0.d⟩,⟨(W1:Int),s1.d⟩,⟨(W2:Int),s2.d⟩]:=by
 obtain ⟨s0,s1,s2,W0,W1,W2,e,hw,q1,q2⟩:=h
 obtain ⟨i1,a1,a2,_⟩:=id q1
 obtain ⟨i2,a3,a4,_⟩:=id q2
 refine ⟨s0,s1,s2,W0,W1,W2,e,hw,q1,q2,?_⟩
 rw [hK,e]
 show [za9 s0,za9 s1,za9 s2]=_
 rw [zkY a1,zkY a2,zkY a4]
theorem zu3 {W0 W1:Nat} {f s:Sd4} {bs:Jq} {a:BookD} (h:Q75 W0 W1 f s bs) (h3:W1≤3) (ha:a.many=(W0:Int)) (hsw:∀ t∈a.swaps,t.length=W0∧Lat.Bit 70 t∧Lat.SpL f.d (Lat.vec t)):SiP a ⟨(W1:Int),s.d⟩ bs:=by
 obtain ⟨im,hF,hS,hI,hN⟩:=h
 exact zmw (xb:=78) (sc:=70) hS hF.w8 hN.l hN.r ha (λt ht=>⟨(hsw t ht).1,(hsw t ht).2.1,zje hF hS hI hN rfl (hsw t ht).1 (hsw t ht).2.2⟩) h3 ↑1 ↑1
theorem ztH {W0 W1:Nat} {f s:Sd4} {bs:Jq} (h:Q75 W0 W1 f s bs):∀ t∈f.d,t.length=W0∧Lat.Bit 70 t∧Lat.SpL f.d (Lat.vec t):=λt ht=>by
 obtain ⟨im,hF,hS,hI,hN⟩:=h
 exact ⟨(hF.sr t ht).1,(hF.sr t ht).2,Lat.Sp.mem ⟨t,ht,rfl⟩⟩
theorem zvB (h:P75 y) (hK:bk=List.map (λ(v:Sd4)=>za9 v) y.a):SiP (ixD bk (0:Int)) (ixD bk (1:Int)) (List.map (λ(v:Ji)=>v) y.b):=by
 obtain ⟨s0,s1,s2,W0,W1,W2,e,hw,q1,q2,hb⟩:=zt8 h hK
 rw [hb,zc4]
 exact zu3 q1 hw.2.1 rfl (ztH q1)
theorem zt2 (h:P75 y):zo2 (ixD y.a (1:Int)) y.c:=by
 obtain ⟨s0,s1,s2,W0,W1,W2,e,hw,q1,q2⟩:=h
 rw [e]
 obtain ⟨im,hF,hS,hI,hN⟩:=q2
 exact ⟨W1,W2,hw.2.1,hw.2.2,hF,hN.l,λr hr=>(hN.r r hr).1⟩
theorem zum {W1 W2:Nat} {f s:Sd4} {bs:Jq} (q:Q75 W1 W2 f s bs) (h3:W2≤3) (h1:W1≤3) (h:StO W1 W2 f bs p):SiP p.1 ⟨(W2:Int),s.d⟩ p.2:=by
 rcases h with ⟨e1,e2,e3⟩ | ⟨e1,e2,e3⟩
 ·rw [e2];exact zu3 q h3 e1 e3
 ·rw [e2]
  obtain ⟨im,hF,hS,hI,hN⟩:=q
  refine zmw (W1:=W1+1) (xb:=78) (sc:=70) hS ↑0 (by rw [List.length_append,hN.l];rfl) (λt ht=>?_) e1 (λt ht=>?_) h3 ↑1 ↑1
  ·rcases List.mem_append.mp ht with z | z
   ·exact hN.r t z
   ·rw [List.mem_singleton.mp z];exact ⟨Lat.zdc,Lat.Bit.of λi=>by rw [Lat.ze3];exact Nat.zero_le _⟩
  ·obtain ⟨v,hv,rfl⟩:=e3 t ht
   have hl:=(hF.sr v hv).1
   refine ⟨by rw [List.length_append,hl];rfl,Lat.Bit.of λi=>by rw [Lat.zgl];exact ((hF.sr v hv).2).vec i,?_⟩
   rw [zvu (fa:=20) (sa:=70) (fb:=20) (sb:=70) (ib:=55) (c:=p.1) hF hN rfl hl]
   exact zje hF hS hI hN rfl hl (Lat.Sp.mem ⟨v,hv,rfl⟩)
theorem zvY (h:P75 y) (hK:bk=List.map (λ(v:Sd4)=>za9 v) y.a) (e:p=m_law_start (ixD y.a (1:Int)) y.c (ixD bk (1:Int)) c):SiP p.1 (ixD bk (2:Int)) p.2:=by
 obtain ⟨s0,s1,s2,W0,W1,W2,ey,hw,q1,q2,hb⟩:=zt8 h hK
 obtain ⟨im,hF,hS,hI,hN⟩:=id q2
 rw [ey,hb] at e
 rw [hb]
 exact zum q2 hw.2.2 hw.2.1 (zlF hF hN.l (λr hr=>(hN.r r hr).1) rfl e)
theorem zvG (h:P75 y) (hw:w=((((ixD y.a (2:Int)).c).length:Nat):Int)) (hr:r∈y.b):SmP y.c r w:=by
 obtain ⟨s0,s1,s2,W0,W1,W2,e,hW,⟨i1,a1,a2,a3,a4⟩,⟨im,hF,hS,hI,hN⟩⟩:=h
 rw [e] at hw
 exact ⟨W2,by rw [hw];show ((s2.c.length:Nat):Int)=_;rw [hS.bl],hS.w8,λt ht=>⟨(hN.r t ht).1,((hN.r t ht).2).mono ↑1⟩,((a4.r r hr).2).mono ↑1⟩
theorem l75 (h:P75 y) (hK:bk=List.map (λ(v:Sd4)=>za9 v) y.a) (h1:S1=m_Sender (ixD bk (0:Int)) (ixD bk (1:Int)) (List.map (λ(v:Ji)=>v) y.b)) (e:p=m_law_start (ixD y.a (1:Int)) y.c (ixD bk (1:Int)) c) (h2:S2=m_Sender p.1 (ixD bk (2:Int)) p.2) (hw:w=((((ixD y.a (2:Int)).c).length:Nat):Int)) (hu:u=((!decide (p.1.many=((ixD bk (1:Int))).many))||(!decide (p.1.swaps=((ixD y.a (1:Int))).d)))) (hd:due=List.map (λ(x:Ji)=>m_law_sums y.c x w) y.b):L75 y S1 S2 p w u due:=by
 obtain ⟨s0,s1,s2,W0,W1,W2,ey,hW,q1,q2,hb⟩:=zt8 h hK
 obtain ⟨im,hF,hS,hI,hN⟩:=id q2
 rw [hb,zc4] at h1
 rw [ey,hb] at e
 rw [hb] at h2
 rw [ey] at hw
 rw [hb,ey] at hu
 refine ⟨s0,s1,s2,W0,W1,W2,ey,hW,q1,q2,?_,?_,zlF hF hN.l (λr hr=>(hN.r r hr).1) rfl e,?_,λz=>?_,λz=>?_,hd⟩
 ·rw [h1];unfold m_Sender;rw [zc4];rfl
 ·rw [h2];unfold m_Sender;rw [zc4];rfl
 ·rw [hw];show ((s2.c.length:Nat):Int)=_;rw [hS.bl]
 ·rw [z] at hu
  have hu:=hu.symm
  simp only [Bool.or_eq_false_iff,Bool.not_eq_false',decide_eq_true_eq] at hu
  exact hu
 ·rw [z] at hu
  intro k
  have k1:p.1.many=(ixD [(⟨(W0:Int),s0.d⟩:BookD),⟨(W1:Int),s1.d⟩,⟨(W2:Int),s2.d⟩] (1:Int)).many:=k.1
  have k2:p.1.swaps=(ixD [s0,s1,s2] (1:Int)).d:=k.2
  rw [decide_eq_true k1,decide_eq_true k2] at hu
  cases hu
theorem zpz (h:L75 y S1 S2 p w u due) (hu:u=false):p.2=y.c:=by
 obtain ⟨s0,s1,s2,W0,W1,W2,ey,hW,q1,q2,e1,e2,st,ew,u1,u2,ed⟩:=h
 rcases st with ⟨_,e,_⟩ | ⟨e,_⟩
 ·exact e
 ·have:=(u1 hu).1
  omega
theorem zr0 (h:L75 y S1 S2 p w u due) (hu:u=false):List.map (λ(x:Ji)=>zah S2 x) S1.baskets=due:=by
 have e:=zpz h hu
 obtain ⟨s0,s1,s2,W0,W1,W2,ey,hW,⟨i1,a1,a2,a3,a4⟩,⟨im,hF,hS,hI,hN⟩,e1,e2,st,ew,u1,u2,ed⟩:=h
 rw [ed,e1,e2,e]
 exact List.map_congr_left λx hx=>(zg0 ew rfl (λt ht=>(hN.r t ht).1) hN.l (a4.r x hx).1).symm
theorem zrx (h:L75 y S1 S2 p w u due):due.length=S1.baskets.length∧S1.baskets.length≤3∧∃ W2:Nat,W2≤3∧w=(W2:Int)∧∀ r∈due,r.length=W2∧Lat.Bit 159 r:=by
 obtain ⟨s0,s1,s2,W0,W1,W2,ey,hW,⟨i1,a1,a2,a3,a4⟩,⟨im,hF,hS,hI,hN⟩,e1,e2,st,ew,u1,u2,ed⟩:=h
 refine ⟨by rw [ed,e1,List.length_map],by rw [e1];show y.b.length≤3;rw [a4.l];exact hW.1,W2,hW.2.2,ew,λr hr=>?_⟩
 rw [ed] at hr
 obtain ⟨x,hx,rfl⟩:=List.mem_map.mp hr
 rw [zg0 (a:=p.1) (b:=⟨(W2:Int),s2.d⟩) ew rfl (λt ht=>(hN.r t ht).1) hN.l (a4.r x hx).1]
 exact ⟨(zi3 hF hN rfl (a4.r x hx).1).1,zoC (n:=78) hF hN rfl (a4.r x hx).1 (a4.r x hx).2⟩
theorem zvM (h:L75 y S1 S2 p w u due):BhX S2 S1:=λm1 m2=>by
 have dl:=zrx h
 have dd:=zr0 h
 obtain ⟨s0,s1,s2,W0,W1,W2,ey,hW,q1,⟨im,hF,hS,hI,hN⟩,e1,e2,st,ew,u1,u2,ed⟩:=id h
 have hu:u=false:=by
  cases hh:u with
  | false=>rfl
  | true=>exact absurd ⟨by rw [e1,e2] at m1;exact m1.symm,by rw [e1,e2] at m2;exact m2.symm⟩ (u2 hh)
 have ep:=zpz h hu
 have dd:=dd hu
 obtain ⟨i1,a1,a2,a3,a4⟩:=id q1
 refine ⟨λb hb=>?_,by omega,?_⟩
 ·rw [e1] at hb
  rw [e2,ep]
  exact ⟨by show (b.length:Int)=p.1.many;rw [(u1 hu).1,(a4.r b hb).1],W2,rfl,hS.w8,λr hr=>(hN.r r hr).1,λz hz v hv=>Lat.zdJ.of ((hN.r _ (↑206).1).2 v hv) ((a4.r b hb).2 _ (↑206).2) ↑1 ↑1⟩
 ·obtain ⟨d1,d2,W2',w2',ew',d3⟩:=dl
  have:W2'=W2:=by omega
  subst this
  have ds:due=List.map (λ(x:Ji)=>zah ⟨p.1,⟨(W2':Int),s2.d⟩,y.c⟩ x) y.b:=by rw [← dd,e1,e2,ep]
  rw [dd,e1,e2]
  refine zmw (W1:=W0) (xb:=159) (sc:=70) hS a1.w8 (by rw [d1,e1];exact a4.l) d3 rfl (λt ht=>?_) hW.2.2 ↑1 ↑1
  obtain ⟨t1,t2⟩:=a1.sr t ht
  refine ⟨t1,t2,?_⟩
  rw [ds,zm8 (e:=⟨(W1:Int),s1.d⟩) rfl rfl (λr hr=>(a4.r r hr).1) a4.l (λr hr=>(hN.r r hr).1) hN.l t1]
  exact zje hF hS hI hN rfl (zi3 a1 a4 rfl t1).1 (zje a1 a2 a3 a4 rfl t1 (Lat.Sp.mem ⟨t,ht,rfl⟩))
theorem zrc (h:L75 y S1 S2 p w u due) (hu:u=false):zaI S2 S1=(some ⟨S1.first,S2.second,due⟩,none):=by
 have dd:=zr0 h hu
 obtain ⟨s0,s1,s2,W0,W1,W2,ey,hW,q1,q2,e1,e2,st,ew,u1,u2,ed⟩:=h
 rw [zi9,zlx,if_pos (by rw [e1,e2];exact ⟨(u1 hu).1.symm,(u1 hu).2.symm⟩),dd];rfl
theorem zuC (h:L75 y S1 S2 p w u due) (hu:u=true):zaI S2 S1=(none,some .OtherBook):=by
 obtain ⟨s0,s1,s2,W0,W1,W2,ey,hW,q1,q2,e1,e2,st,ew,u1,u2,ed⟩:=h
 rw [zi9,zlx,if_neg λk=>u2 hu (by rw [e1,e2] at k;exact ⟨k.1.symm,k.2.symm⟩)];rfl
theorem zuE (hT:P75 y) (h:L75 y S1 S2 p w u due) (hu:u=false) (e:z=zaI S2 S1):IsP (gS z.1) y.a due:=by
 rw [e,zrc h hu]
 obtain ⟨d1,d2,W2,w2,ew,d3⟩:=zrx h
 exact ⟨zug hT,by show due.length≤1000;omega,λr hr=>by rw [(d3 r hr).1];omega⟩
theorem zvn {q:Option ↑106} (hz:(Let (zaI S2 S1) (λ(z:Option SenderD×Option Xn)=>(bif u then (bif (!(zbO z.2 ↑84)) then (Sum.inr false:Option ↑106⊕Bool) else ↑203) else (bif (z.2.isSome||(!(zcJ (gS z.1) y.a due))) then ↑74 else ↑203))))=Sum.inl q):q=some (zaI S2 S1):=by
 unfold Let at hz
 have key:∀ (a b:Bool) (v:Option ↑106),(bif u then (bif a then (Sum.inr false:Option ↑106 ⊕ Bool) else (Sum.inl v)) else (bif b then ↑74 else (Sum.inl v)))=Sum.inl q->q=v:=by
  intro a b v
  cases u<;>cases a<;>cases b<;>intro h<;>cases h<;>rfl
 exact key _ _ _ hz
theorem ztx (h:(!u)=true):u=false:=by cases u<;>simp_all
theorem zvN (h:P75 y):-(2^62)≤((y.b.length:Nat):Int)∧((y.b.length:Nat):Int)<2^62:=by
 obtain ⟨s0,s1,s2,W0,W1,W2,e,hw,⟨i1,a1,a2,b1,b2⟩,_⟩:=h
 have:=b2.l;omega
theorem zvL (h:P75 y):(↑196).length≤PySem.sizeLine:=by
 obtain ⟨s0,s1,s2,W0,W1,W2,e,hw,⟨i1,a1,a2,b1,b2⟩,_⟩:=h
 rw [zaO];exact zal (by have:=b2.l;omega)
theorem zvH (h:P75 y) (q:i<(((y.b.length:Nat):Int)).toNat∧x=0+(i:Int)):0≤x∧x≤1000∧0≤(10:Int)^(9:Int).toNat∧(10:Int)^(9:Int).toNat≤1000000000:=by
 obtain ⟨s0,s1,s2,W0,W1,W2,e,hw,⟨i1,a1,a2,b1,b2⟩,_⟩:=h
 exact ⟨by omega,by have:=b2.l;omega,by decide,by decide⟩
theorem ztr (hB:r=List.map (λ(x:Int)=>za4 c x ↑40) ↑196):r.length=y.b.length∧Lat.Bit 31 r:=by
 rw [hB]
 refine ⟨by rw [List.length_map,zaO];omega,λz hz=>?_⟩
 obtain ⟨x,_,rfl⟩:=List.mem_map.mp hz
 have:=zoP (c:=c) (k:=x) (z:=10^(9:Int).toNat) ↑1
 have e:(10:Int)^(9:Int).toNat=1000000000:=by decide +kernel
 rw [e] at this ⊢
 show _≤2147483648
 omega
theorem zvf (h:L75 y S1 S2 p w u due) (hB:r=List.map (λ(x:Int)=>za4 c x ↑40) ↑196):SeP S1 r:=by
 obtain ⟨b1,b2⟩:=ztr hB
 obtain ⟨s0,s1,s2,W0,W1,W2,ey,hW,⟨i1,a1,a2,a3,a4⟩,q2,e1,e2,st,ew,u1,u2,ed⟩:=h
 rw [e1]
 exact ⟨by show (r.length:Int)=(W0:Int);rw [b1,a4.l],W1,rfl,a2.w8,λt ht=>(a4.r t ht).1,λz hz v hv=>Lat.zdJ.of ((a4.r _ (↑206).1).2 v hv) (b2 _ (↑206).2) ↑1 ↑1⟩
theorem zty (h:L75 y S1 S2 p w u due) (hu:u=false) {R:Option ↑106} (hR:R=some (zaI S2 S1)):(gS R).1.isSome=true∧gS (gS R).1=⟨S1.first,S2.second,due⟩:=by
 rw [hR,zrc h hu];exact ⟨rfl,rfl⟩
theorem zuP (h:L75 y S1 S2 p w u due) (hu:u=false) {R:Option ↑106} (hR:R=some (zaI S2 S1)) (hB:r=List.map (λ(x:Int)=>za4 c x ↑40) ↑196):SeP (gS (gS R).1) r∧(zah (gS (gS R).1) r).length≤1000:=by
 obtain ⟨b1,b2⟩:=ztr hB
 rw [(zty h hu hR).2]
 obtain ⟨d1,d2,W2',w2',ew',d3⟩:=zrx h
 obtain ⟨s0,s1,s2,W0,W1,W2,ey,hW,⟨i1,a1,a2,a3,a4⟩,q2,e1,e2,st,ew,u1,u2,ed⟩:=h
 have:W2'=W2:=by omega
 subst this
 rw [e1] at d1 ⊢;rw [e2]
 have k:=zeG (S:=⟨⟨(W0:Int),s0.d⟩,⟨(W2':Int),s2.d⟩,due⟩) (x:=r) (W1:=W0) (W2:=W2') rfl (λt ht=>(d3 t ht).1) (by rw [d1];exact a4.l) (by rw [b1,a4.l])
 refine ⟨⟨by show (r.length:Int)=(W0:Int);rw [b1,a4.l],W2',rfl,by omega,λt ht=>(d3 t ht).1,λz hz v hv=>Lat.zdJ.of ((d3 _ (↑206).1).2 v hv) (b2 _ (↑206).2) ↑1 ↑1⟩,?_⟩
 have k1:(zah ⟨⟨(W0:Int),s0.d⟩,⟨(W2':Int),s2.d⟩,due⟩ r).length=W2':=k.1
 show (zah ⟨⟨(W0:Int),s0.d⟩,⟨(W2':Int),s2.d⟩,due⟩ r).length≤1000
 omega
theorem zvy (h:L75 y S1 S2 p w u due) (hB:r=List.map (λ(x:Int)=>za4 c x ↑40) ↑196):SmP due r w:=by
 obtain ⟨b1,b2⟩:=ztr hB
 obtain ⟨d1,d2,W2,w2,ew,d3⟩:=zrx h
 exact ⟨W2,ew,by omega,λt ht=>⟨(d3 t ht).1,((d3 t ht).2).mono ↑1⟩,b2.mono ↑1⟩
theorem zve (h:L75 y S1 S2 p w u due) (hB:r=List.map (λ(x:Int)=>za4 c x ↑40) ↑196):SmP y.b r ((((ixD y.a (1:Int)).c).length:Nat):Int):=by
 obtain ⟨b1,b2⟩:=ztr hB
 obtain ⟨s0,s1,s2,W0,W1,W2,ey,hW,⟨i1,a1,a2,a3,a4⟩,q2,e1,e2,st,ew,u1,u2,ed⟩:=h
 exact ⟨W1,by rw [ey];show ((s1.c.length:Nat):Int)=_;rw [a2.bl],a2.w8,λt ht=>⟨(a4.r t ht).1,((a4.r t ht).2).mono ↑1⟩,b2.mono ↑1⟩
theorem ztN {xs:Ji} {lo hi:Option Int} (h:xs.length≤63):(zcs xs lo hi).length≤63:=Nat.le_trans (by unfold zcs;rw [List.length_take,List.length_drop];omega) h
end
def m_law (P0:Ji):Bool :=
 (Let (m_law_trio P0) (λ(p394:(T3 ↑49 Jq Jq))=>(Let (List.map (λ(x395:↑24)=>(za9 x395)) p394.a) (λ(v398:(List BookD))=>(Let (m_Sender (ixD v398 (0:Int)) ↑85 (List.map (λ(x399:Ji)=>x399) p394.b)) (λ(v402:SenderD)=>(Let (m_law_start ↑62 p394.c ↑85 (zcl P0 (4:Int))) (λ(p403:(BookD×Jq))=>(Let (m_Sender p403.1 (ixD v398 (2:Int)) p403.2) (λ(v404:SenderD)=>(Let ((((ixD p394.a (2:Int)).c).length:Nat):Int) (λ(v405:Int)=>(Let ((!decide (p403.1.many=(↑85).many))||(!decide (p403.1.swaps=(↑62).d))) (λ(v406:Bool)=>(Let (List.map (λ(x407:Ji)=>(m_law_sums p394.c x407 v405)) p394.b) (λ(v410:Jq)=>(zl3 (zcF (λ(s411:Option ↑50) (x412:Int)=>(((Let (zaI v404 v402) (λ(p416:↑50)=>(bif v406 then (bif (!(zbO p416.2 ↑84)) then ↑74 else (Sum.inl (some (p416.1,p416.2)))) else (bif (p416.2.isSome||(!(zcJ (gS p416.1) p394.a v410))) then ↑74 else (Sum.inl (some (p416.1,p416.2)))))))):(Option ↑50)⊕Bool)) (none:Option ↑50) (zbf 0 (2:Int).toNat)) (λ(r420:Option ↑50)=>(zl3 (zcF (λ(s421:Unit) (x422:Int)=>(((Let (List.map (λ(x426:Int)=>(za4 x422 x426 ↑40)) (zbf 0 ((p394.b.length:Nat):Int).toNat)) (λ(v429:Ji)=>(bif ((!v406) && (!(zbr (zah (gS ((gS r420).1)) v429) ↑234))) then ↑74 else (bif (!decide ((zah v402 v429)=(m_law_sums p394.b v429 ((((↑62).c).length:Nat):Int)))) then ↑74 else (Sum.inl ())))))):(Unit)⊕Bool)) () ((zcs P0 (some (4:Int)) (some (63:Int)))++[(1:Int)])) (λ(r432:Unit)=>((decide (v402.baskets=p394.b))&&(decide (v404.baskets=p403.2)))) (λb=>b))) (λb=>b))))))))))))))))))
def zkq (P0:Ji):Prop:=P0.length≤63
def zpE (K:W.Frag) (A:Adr):Sp:=Spv (ι:=Ji) ↑175 (λx=>zkq x) (λx=>↥[dB (m_law x)])
theorem zef:FnScope ↑208 ["_law_script"] (zad zhm):=⇑4
theorem zsZ (F:Fun K "law" "law" zhm f fd) (T:Txt K mg A) (yaf:CalleeM P w K mg base ⇑1 3 A.Sender "sent" ["self","basket"] (zdj K A)) (ybJ:Callee P w K mg base ⇑1 10 "_law_asked" ["_law_sender","_law_other"] (zf3 K A)) (yb1:Callee P w K mg base ⇑1 4 "_law_book" ["_law_side_here"] (zgB K A)) (yaw:Callee P w K mg base ⇑1 1 "_law_cell" ["_law_script","_law_k"] (zfm K A)) (ybK:Callee P w K mg base ⇑1 2 "_law_count" ["_law_cell_here","_law_k","_law_size"] (zf2 K A)) (ycO:Callee P w K mg base ⇑1 3 "_law_is" ["_law_found","_law_sides","_law_due"] (zim K A)) (yb2:Callee P w K mg base ⇑1 2 "_law_only" ["_law_caught","_law_name"] (zgy K A)) (yax:Callee P w K mg base ⇑1 2 "_law_same" ["_law_found","_law_due"] (zft K A)) (ybL:Callee P w K mg base ⇑1 4 "_law_start" ["_law_side_here","_law_right","_law_second","_law_cell_here"] (zf1 K A)) (yaK:Callee P w K mg base ⇑1 1 "_law_sums" ["_law_baskets","_law_basket","_law_wide"] (zgD K A)) (yb3:Callee P w K mg base ⇑1 4 "_law_trio" ["_law_script"] (zgx K A)) {ybe:Addr} {yaY:FuncData} (yaz:Mk K A.Sender ybe) (yag:FnOk P w K mg base ⇑1 7 ybe yaY ["self","first","second","baskets"] (zdF K A)) (yah:zfP K yaY ["self","first","second","baskets"] []):FnOk P w K mg base ⇑1 11 f fd ["_law_script"] (zpE K A):=by
 refine F.okV zef ↥4 ↑68
 have hu:=hr.units
 replace hp:zkq P0:=hp
 unfold zkq at hp
 refine ⟨_,(zac (zgY (zaT yb3 ↥1 rfl zaL ↑[pv 0]) (zbu (K:=K) (n:=3) rfl rfl (zaG (zan (i:=1) zef.nd rfl ⇑0 ⇑0) (zaG (zan (i:=2) zef.nd rfl ⇑0 ⇑0) (zaG (zan (i:=3) zef.nd rfl ↥2 ⇑0) zci))))) (zac (zeI (i:=4) rfl zef.nd rfl rfl (.of (osc:=(zad zhm)) (N:=↑208) (own:=["_law_side_here"]) (fvn:=[]) (fv:=[]) rfl rfl ↑4) (zaV (K:=K) rfl (pv 1)) (λ_ _ _ _ _=>⟨(zan (i:=0) (show (["_law_side_here"]:List Str).Nodup by decide +kernel) rfl ⇑0 ↥2),za5,(zaT yb1 ↥1 rfl zaL ↑[pv 0])⟩)) (zac (zaq (i:=5) zef.nd rfl ⇑0 (zhc yaz yag ↥1 rfl T.Sender yah .nil zaL ↑[↑70,↑70,(zbG rfl (.of (osc:=(zad zhm)) (N:=↑208) (own:=["_law_basket"]) (fvn:=[]) (fv:=[]) rfl rfl ↑4) ↑147 (λ_ _ _ _ _=>⟨(zan (i:=0) (show (["_law_basket"]:List Str).Nodup by decide+kernel) rfl ⇑0 ↥2),za5,↑134⟩))])) (zac (zgY (zaT ybL ↥1 rfl zaL ↑[(zaS ↑7 (pv 1) zai ↥3),pv 3,↑70,zaT yaw ↥1 rfl zaL ↑[pv 0,zai]]) (zbu (K:=K) (n:=2) rfl rfl (zaG (zan (i:=6) zef.nd rfl ⇑0 ⇑0) (zaG (zan (i:=7) zef.nd rfl ⇑0 ⇑0) zci)))) (zac (zaq (i:=8) zef.nd rfl ⇑0 (zhc yaz yag ↥1 rfl T.Sender yah .nil zaL ↑[pv 6,↑70,pv 7])) (zac (zaq (i:=9) zef.nd rfl ↥2 ↑250) (zac (zaq (i:=10) zef.nd rfl ⇑0 (zt9 (zfC zf4 (zaK (K:=K) rfl (pv 6) rfl) (zaK (K:=K) rfl ↑70 rfl) (zaP _)) (zka (zfC (zhP (K:=K) rfl hu) (zaK (K:=K) rfl (pv 6) rfl) ↑244 (zaP _))))) (zac (zeI (i:=11) rfl zef.nd rfl rfl (.of (osc:=(zad zhm)) (N:=↑208) (own:=["_law_basket"]) (fvn:=["_law_right","_law_wide"]) (fv:=[3,9]) rfl rfl ↑4) ↑147 (λ_ _ _ _ _=>⟨(zan (i:=0) (show (["_law_basket","_law_right","_law_wide"]:List Str).Nodup by decide +kernel) rfl ⇑0 ↥2),za5,(zaT yaK ↥1 rfl zaL ↑[pv 1,pv 0,pv 2])⟩)) (zac (zcy PassesOwn.never rfl (zbR rfl T.range ↑[zai]) (zan (i:=12) zef.nd rfl ⇑0 ⇑0) (zac (zgY (zaT ybJ ↥1 rfl zaL ↑[pv 8,pv 5]) (zbu (K:=K) (n:=2) rfl rfl (zaG (zan (i:=13) zef.nd rfl ⇑0 ⇑0) (zaG (zan (i:=14) zef.nd rfl ⇑0 ⇑0) zci)))) (zac (zcp (zhR (pv 10)) (zac (zcp (ziM (zhR (zaT yb2 ↥1 rfl zaL ↑[pv 14,zdg]))) ↑153 zaf) zaf) (zac (zcp (PW.pt (zky (zaJ znd (pv 14) zjP (zaP _)) (zih (ziM (zhR (zaT ycO ↥1 rfl zaL ↑[pv 13,pv 1,pv 11])))))) ↑153 zaf) zaf)) zaf))) (zac (zcy PassesOwn.never rfl (zaV (K:=K) rfl (zaz zdD (zd9 ↑121 (pv 0) (zdX zai) (zdX zai)) ↑88)) (zan (i:=15) zef.nd rfl ↥2 ⇑0) (zac (zeI (i:=16) rfl zef.nd rfl rfl (.of (osc:=(zad zhm)) (N:=↑208) (own:=["_law_k"]) (fvn:=["_law_cell_here"]) (fv:=[15]) rfl rfl ↑4) (zbR rfl T.range ↑[↑189]) (λ_ _ _ _ _=>⟨(zan (i:=0) (show (["_law_k","_law_cell_here"]:List Str).Nodup by decide +kernel) rfl ⇑0 ↥2),za5,(zaT ybK ↥1 rfl zaL ↑[pv 1,pv 0,zaz zpD zai zai])⟩)) (zac (zcp (PW.pt (zlM (ziM (zhR (pv 10))) (zjd (ziM (zhR (zaT yax ↥1 rfl zaL ↑[zlK (pv 13) T.Sender_cl yaf ↥1 zaL ↑[pv 16],zaT yaK ↥1 rfl zaL ↑[pv 11,pv 16,pv 9]])))))) ↑153 zaf) (zac (zcp (zaJ (zhP (K:=K) rfl hu) (zlK (pv 5) T.Sender_cl yaf ↥1 zaL ↑[pv 16]) (zaT yaK ↥1 rfl zaL ↑[pv 2,pv 16,↑250]) (zaP _)) ↑153 zaf) zaf)))) (zac (zaR (zlB (zfC (zi7 (K:=K) rfl hu) (zaK (K:=K) rfl (pv 5) rfl) (pv 2) (zaP _)) (zka (zfC (zi7 (K:=K) rfl hu) (zaK (K:=K) rfl (pv 8) rfl) (pv 7) (zaP _))))) zaf))))))))))),.inl ?_⟩
 show L2.Run _ ([⇑[dQ K ↥5],.no,.no,.no,.no,.no,.no,.no,.no,.no,.no,.no,.no,.no,.no,.no,.no]:L2.Ctx) _ (⇑9 (m_law P0))
 unfold m_law
 exact (ziW (m:=true) (x:=(m_law_trio P0)) (λ(p394:(T3 ↑49 Jq Jq))=>dL (List.map ↑32 p394.a)) (λ(p394:(T3 ↑49 Jq Jq))=>dL (List.map lI p394.b)) (λ(p394:(T3 ↑49 Jq Jq))=>dL (List.map lI p394.c)) ⇑9 (zau (x:=P0) (zab ↑2 zag) rfl (by show zeP P0;exact hp) rfl) (λp394 hp394=>have hT:=zmJ hp hp394;(zao (m:=true) (x:=(List.map (λ(x395:↑24)=>(za9 x395)) p394.a)) (λ(xs:(List BookD))=>dL (List.map (zaM A.Book) xs)) ⇑9 (EvO.ev (EvO.conv (zbA (g:=(λ(x395:↑24)=>zaM A.Book (za9 x395))) (zbx (m:=true) ↑32 (xs:=p394.a) ↑82) ↥(zvC hT) ↑5 (λi396 x395 hx397=>have v397:=List.mem_of_getElem? hx397;(zau (x:=x395) (zab (Ev.old ↑2) zag) rfl (by show ze0 x395;exact zvF hT ↥0) rfl))) ↑8)) (λv398 hv398=>have hK:=hv398;(zao (m:=false) (x:=(m_Sender (ixD v398 (0:Int)) ↑85 (List.map (λ(x399:Ji)=>x399) p394.b))) ↑86 ⇑9 (zjp (x:=((ixD v398 (0:Int)),↑85,(List.map (λ(x399:Ji)=>x399) p394.b))) (zab (Ev.old ↑218) (zab (Ev.old ↑218) (zab (Ev.weak (K:=K) (EvO.ev (EvO.conv (zbA (g:=(λ(x399:Ji)=>dL (List.map dI x399))) (zbx (m:=true) lI (xs:=p394.b) ↑90) ↥(zuY hT) ↑5 (λi400 x399 hx401=>have v401:=List.mem_of_getElem? hx401;(EvO.ev (EvO.anyI (m:=true) (ze4 ↑94))))) ↑8))) zag))) rfl (by show zbp (ixD v398 (0:Int)) ↑85 (List.map (λ(x399:Ji)=>x399) p394.b);exact zvB hT hK)) (λv402 hv402=>have h1:=hv402;(zfR (m:=false) (x:=(m_law_start ↑62 p394.c ↑85 (zcl P0 (4:Int)))) (λ(p403:(BookD×Jq))=>zaM A.Book p403.1) (λ(p403:(BookD×Jq))=>dL (List.map lI p403.2)) ⇑9 (zau (x:=(↑62,p394.c,↑85,(zcl P0 (4:Int)))) (zab (Ev.old (zbd (f:=↑32) (xs:=p394.a) ↑82 zaD ↥(zsH hT ↑1))) (zab (Ev.old ↑72) (zab (Ev.old ↑218) (zab (Ev.any (m:=true) (zau (x:=(P0,(4:Int))) (zab ↑2 ↑28) rfl (by show zcP P0 (4:Int);unfold zcP;decide) rfl)) zag)))) rfl (by show zet ↑62 p394.c ↑85 (zcl P0 (4:Int));exact zt2 hT) rfl) (λp403 hp403=>have hS:=hp403;(zao (m:=false) (x:=(m_Sender p403.1 (ixD v398 (2:Int)) p403.2)) ↑86 ⇑9 (zjp (x:=(p403.1,(ixD v398 (2:Int)),p403.2)) (zab ↑73 (zab (Ev.old ↑218) (zab (Ev.weak (K:=K) (zaa (i:=7) rfl)) zag))) rfl (by show zbp p403.1 (ixD v398 (2:Int)) p403.2;exact zvY hT hK hS)) (λv404 hv404=>have h2:=hv404;(zao (m:=true) (x:=((((ixD p394.a (2:Int)).c).length:Nat):Int)) dI ⇑9 (zaZ (f:=dI) (xs:=(ixD p394.a (2:Int)).c) (Ev.old (Ev.weak (K:=K) (zbM (zbd (f:=↑32) (xs:=p394.a) ↑82 zaD ↥(zsH hT ↑1)) zaD rfl)))) (λv405 hv405=>have hW:=hv405;(zao (m:=true) (x:=((!decide (p403.1.many=(↑85).many))||(!decide (p403.1.swaps=(↑62).d)))) dB ⇑9 (ztL (b:=(!decide (p403.1.many=(↑85).many))) (zeg (x:=p403.1.many) (y:=(↑85).many) (Ev.any (m:=false) (zbh ↑73 T.Book_cl T.Book_many rfl)) (Ev.any (m:=true) (zbh ↑218 T.Book_cl T.Book_many rfl))) (λhb=>(zgJ (n:=1) (neg:=true) (xs:=p403.1.swaps) (ys:=(↑62).d) (EqD.list EqD.int) (Ev.weak (K:=K) (zbh ↑73 T.Book_cl T.Book_swaps rfl)) (Ev.old (Ev.weak (K:=K) (zbM (zbd (f:=↑32) (xs:=p394.a) ↑82 zaD ↥(zsH hT ↑1)) zaD rfl)))))) (λv406 hv406=>have hU:=hv406;(zao (m:=true) (x:=(List.map (λ(x407:Ji)=>(m_law_sums p394.c x407 v405)) p394.b)) ↑104 ⇑9 (EvO.ev (EvO.conv (zbA (g:=(λ(x407:Ji)=>dL (List.map dI (m_law_sums p394.c x407 v405)))) (zbx (m:=true) lI (xs:=p394.b) ↑90) ↥(zuY hT) ↑5 (λi408 x407 hx409=>have v409:=List.mem_of_getElem? hx409;(zau (x:=(p394.c,x407,v405)) (zab (Ev.old ↑82) (zab (Ev.old ↑94) (zab ↑61 zag))) rfl (by show zdw p394.c x407 v405;exact zvG hT hW ↥0) rfl))) ↑8)) (λv410 hv410=>have hL:=l75 hT hK h1 hS h2 hW hU hv410;(zhL (s0:=(none:Option ↑50)) ↑181 ⇑9 (λb=>b) (λ(s411:Option ↑50) (x412:Int)=>(((Let (zaI v404 v402) (λ(p416:↑50)=>(bif v406 then (bif (!(zbO p416.2 ↑84)) then ↑74 else (Sum.inl (some (p416.1,p416.2)))) else (bif (p416.2.isSome||(!(zcJ (gS p416.1) p394.a v410))) then ↑74 else (Sum.inl (some (p416.1,p416.2)))))))):(Option ↑50)⊕Bool)) (λ(i:Nat) (s411:Option ↑50)=>0<i->s411=some (zaI (v404) (v402))) (λb=> .inl ⟨_,_,rfl⟩) (zdq (m:=true) (n:=(2:Int)) zaD ↑1) (.eq (.eq (.eq ↑136))) (by intro h;omega) (λi413 x412 s411 hx414 hI415=>have v414:=zbe hx414;⟨(by intro z hz _;exact zvn hz),(ztc (.eq (.eq (.eq (.eq (.eq (.eq (.eq (.eq (.eq (.eq (.eq (.eq (.eq (.no (.no ↑116))))))))))))))) (zfR (m:=false) (x:=(zaI v404 v402)) (λ(p416:↑50)=>dOpt ↑86 p416.1) (λ(p416:↑50)=>dOpt ↑96 p416.2) (zgH ↑181 ⇑9) (zau (x:=(v404,v402)) (zab (zaa (i:=8) rfl) (zab ↑119 zag)) rfl (by show zeq v404 v402;exact zvM hL) rfl) (λp416 hp416=>have hA:=hp416;(za8 (b:=v406) (zgH ↑181 ⇑9) (zgC ↑195) (λh417=>(zaC (za8 (b:=(!(zbO p416.2 ↑84))) (zgH ↑181 ⇑9) (zho (zgC (Ev.any (m:=true) (zau (x:=(p416.2,↑84)) (zab (zaa (i:=14) rfl) ↑28) rfl (by show zeS p416.2 ↑84;exact trivial) rfl)))) (λh418=>↑151) (λh418=>(zaw (zaw (zar (.eq (.eq (.eq (.eq (.eq (.eq (.eq (.eq (.eq (.eq (.eq (.eq (.no ↑39)))))))))))))))))))) (λh417=>(zaC (za8 (b:=(p416.2.isSome||(!(zcJ (gS p416.1) p394.a v410)))) (zgH ↑181 ⇑9) (zhX (b:=p416.2.isSome) (zay (zhp (x:=p416.2) (f:=↑96) (zaa (i:=14) rfl) zaD NN.exc)) (λhb=>(zho (zgC (Ev.any (m:=true) (zau (x:=((gS p416.1),p394.a,v410)) (zab (ev_some (f:=↑86) (x:=p416.1) (zaa (i:=13) rfl) (by first|exact ziO hA ↥0|exact (zty hL (ztx ↥0) (hI (by rw [zaO];decide))).1)) (zab (Ev.old ↑82) (zab (Ev.old (Ev.weak (K:=K) (zaa (i:=11) rfl))) zag))) rfl (by show zge (gS p416.1) p394.a v410;exact zuE hT hL ↥0 hA) rfl)))))) (λh419=>↑151) (λh419=>(zaw (zaw (zar (.eq (.eq (.eq (.eq (.eq (.eq (.eq (.eq (.eq (.eq (.eq (.eq (.no ↑39))))))))))))))))))))))))⟩) (λr420 hr420 hI=>(zoR (congrArg ↑181 (zqk (by rw [hI (by rw [zaO];decide)];rfl))) (zhL (s0:=()) ↑236 ⇑9 (λb=>b) (λ(s421:Unit) (x422:Int)=>(((Let (List.map (λ(x426:Int)=>(za4 x422 x426 ↑40)) (zbf 0 ((p394.b.length:Nat):Int).toNat)) (λ(v429:Ji)=>(bif ((!v406) && (!(zbr (zah (gS ((gS r420).1)) v429) ↑234))) then ↑74 else (bif (!decide ((zah v402 v429)=(m_law_sums p394.b v429 ((((↑62).c).length:Nat):Int)))) then ↑74 else (Sum.inl ())))))):(Unit)⊕Bool)) (λ_ _=>True) (λb=> .inl ⟨_,_,rfl⟩) (zbx (m:=true) dI (xs:=((zcs P0 (some (4:Int)) (some (63:Int)))++[(1:Int)])) (Ev.weak (K:=K) (EvO.ev (zcu (f:=dI) (xs:=(zcs P0 (some (4:Int)) (some (63:Int)))) (ys:=[(1:Int)]) (EvO.ev (EvO.anyI (m:=false) (ze6 (f:=dI) (xs:=P0) ↑2 (zcX zaD) (zcX zaD)))) ↑77 ↥(zal (by have z:=ztN (xs:=P0) (lo:=some 4) (hi:=some 63) hp;rw [List.length_singleton];omega)))))) (.eq (.eq (.eq ↑136))) trivial (λi423 x422 s421 hx424 hI425=>have v424:=List.mem_of_getElem? hx424;⟨(λ_ _=>trivial),(zao (m:=true) (x:=(List.map (λ(x426:Int)=>(za4 x422 x426 ↑40)) (zbf 0 ((p394.b.length:Nat):Int).toNat))) lI (zgH ↑236 ⇑9) (EvO.ev (EvO.conv (zbA (g:=(λ(x426:Int)=>dI (za4 x422 x426 ↑40))) (zdq (m:=true) (n:=((p394.b.length:Nat):Int)) (zaZ (f:=lI) (xs:=p394.b) ↑66) ↥(zvN hT)) ↥(zvL hT) ↑5 (λi427 x426 hx428=>have v428:=zbe hx428;(Ev.any (m:=true) (zau (x:=(x422,x426,↑40)) (zab ↑108 (zab ↑146 (zab (zaN (x:=(10:Int)) (y:=(9:Int)) zaD zaD ↥(⟨by decide,by decide,by decide⟩)) zag))) rfl (by show zew x422 x426 ↑40;exact zvH hT ↥0) rfl)))) ↑8)) (λv429 hv429=>have hB:=hv429;(za8 (b:=((!v406)&&(!(zbr (zah (gS ((gS r420).1)) v429) ↑234)))) (zgH ↑236 ⇑9) (zjf (b:=(!v406)) (zho (zgC ↑195)) (λhb=>(zho (zgC (Ev.any (m:=true) (zau (x:=((zah (gS ((gS r420).1)) v429),↑234)) (zab (Ev.old (zi2 (x:=((gS ((gS r420).1)),v429)) (ev_some (f:=↑86) (x:=((gS r420).1)) (zaa (i:=13) rfl) (by first|exact ziO hA ↥0|exact (zty hL (ztx ↥0) (hI (by rw [zaO];decide))).1)) (zab (Ev.old (Ev.weak (K:=K) (zaa (i:=16) rfl))) zag) rfl (by show zbQ (gS ((gS r420).1)) v429;exact ((zuP hL (ztx ↥0) (hI (by rw [zaO];decide)) hB)).1) rfl rfl)) (zab (Ev.old (Ev.weak (K:=K) (zau (x:=(v410,v429,v405)) (zab (Ev.old (Ev.weak (K:=K) (zaa (i:=11) rfl))) (zab (Ev.old (Ev.weak (K:=K) (zaa (i:=16) rfl))) (zab (Ev.any (m:=true) (zaa (i:=9) rfl)) zag))) rfl (by show zdw v410 v429 v405;exact zvy hL hB) rfl))) zag)) rfl (by show zem (zah (gS ((gS r420).1)) v429) ↑234;exact ((zuP hL (ztx ↥0) (hI (by rw [zaO];decide)) hB)).2) rfl)))))) (λh430=>↑151) (λh430=>(zaw (za8 (b:=(!decide ((zah v402 v429)=(m_law_sums p394.b v429 ((((↑62).c).length:Nat):Int))))) (zgH ↑236 ⇑9) (zay (zgJ (n:=0) (neg:=true) (xs:=(zah v402 v429)) (ys:=(m_law_sums p394.b v429 ((((↑62).c).length:Nat):Int))) EqD.int (Ev.old (Ev.weak (K:=K) (zi2 (x:=(v402,v429)) ↑119 (zab (Ev.old (Ev.weak (K:=K) (zaa (i:=16) rfl))) zag) rfl (by show zbQ v402 v429;exact zvf hL hB) rfl rfl))) (Ev.old (Ev.weak (K:=K) (zau (x:=(p394.b,v429,((((↑62).c).length:Nat):Int))) (zab ↑66 (zab (Ev.old (Ev.weak (K:=K) (zaa (i:=16) rfl))) (zab (zaZ (f:=dI) (xs:=(↑62).c) (Ev.old (Ev.weak (K:=K) (zbM (zbd (f:=↑32) (xs:=p394.a) ↑82 zaD ↥(zsH hT ↑1)) zaD rfl)))) zag))) rfl (by show zdw p394.b v429 ((((↑62).c).length:Nat):Int);exact zve hL hB) rfl))))) (λh431=>↑151) (λh431=>(zaw (zar (.eq (.eq (.eq (.eq (.eq (.eq (.eq (.eq (.eq (.eq (.eq (.eq (.eq (.eq (.eq ↑64))))))))))))))))))))))))⟩) (λr432 hr432 hI=>(zak (zaH (zk9 (b:=(decide (v402.baskets=p394.b))) (zgJ (n:=1) (neg:=false) (xs:=v402.baskets) (ys:=p394.b) (EqD.list EqD.int) (Ev.weak (K:=K) (zbh ↑119 T.Sender_cl T.Sender_baskets rfl)) ↑66) (λhb=>(zgJ (n:=1) (neg:=false) (xs:=v404.baskets) (ys:=p403.2) (EqD.list EqD.int) (Ev.weak (K:=K) (zbh (zaa (i:=8) rfl) T.Sender_cl T.Sender_baskets rfl)) (Ev.weak (K:=K) (zaa (i:=7) rfl))))))))))))))))))))))))))))
theorem ziI {γ β:Type} {f:Unit->γ->Unit ⊕ β}:∀ {xs:List γ},(∀ x∈xs,f () x=.inl ())->zcF f () xs=.inl ()
 | [],_=>rfl
 | x :: xs,h=>by
  simp only [zcF,h x List.mem_cons_self]
  exact ziI λy hy=>h y ↑233
theorem zsW:zbO (some Xn.OtherBook) ↑84=true:=by
 unfold zbO zcR Let
 decide +kernel
theorem zjI (v:Ji):zbr v v=true:=by
 unfold zbr zcf
 simp
theorem zk7 {α:Type}:∀ {l:List α} {x:α×α},x∈List.zip l l->x.1=x.2
 | y :: ys,x,h=>by
  rw [List.zip_cons_cons] at h
  rcases List.mem_cons.mp h with h | h
  ·rw [h]
  ·exact zk7 h
 | [],x,h=>by cases h
theorem zo9 {α β γ:Type} {x:α} {f:α->γ} {g:β->γ}:zl3 (Sum.inl x) f g=f x:=rfl
theorem zou (xs:Ji) (hp:xs.length≤63):m_law xs=true:=by
 unfold m_law
 refine zgZ λy hy=>zgZ λbk hK=>zgZ λS1 h1=>zgZ λp hP=>zgZ λS2 h2=>zgZ λw hw=>zgZ λu hu=>zgZ λdue hd=>?_
 have hT:=zmJ hp hy
 have hL:=l75 hT hK h1 hP h2 hw hu hd
 have first:∀ (R:Option ↑106) (x:Int),(Let (zaI S2 S1) (λ(z:Option SenderD×Option Xn)=>(bif u then (bif (!(zbO z.2 ↑84)) then (Sum.inr false:Option ↑106⊕Bool) else ↑203) else (bif (z.2.isSome||(!(zcJ (gS z.1) y.a due))) then ↑74 else ↑203))))=Sum.inl (some (zaI S2 S1)):=λR x=>by
  unfold Let
  cases q:u with
  | true =>
   rw [zuC hL q]
   dsimp only
   rw [zsW];rfl
  | false =>
   rw [zrc hL q]
   dsimp only
   rw [cond_false]
   have e:zcJ ⟨S1.first,S2.second,due⟩ y.a due=true:=by
    obtain ⟨d1,_⟩:=zrx hL
    obtain ⟨s0,s1,s2,W0,W1,W2,ey,hW,⟨i1,a1,a2,a3,a4⟩,⟨im,hF,hS,hI,hN⟩,e1,e2,st,ew,u1,u2,ed⟩:=hL
    unfold zcJ
    rw [e1,e2,ey]
    have t1:((!true)||(!decide (s0.d=s0.d)))=false:=by simp
    have t2:((!decide ((W0:Int)=((s0.c.length:Nat):Int)))||(!decide ((W2:Int)=((s2.c.length:Nat):Int))))=false:=by rw [a1.bl,hS.bl];simp
    have t3:((!decide (s2.d=s2.d))||(!decide (((due.length:Nat):Int)=((due.length:Nat):Int))))=false:=by simp
    show (bif ((!true)||(!decide (s0.d=s0.d))) then false else (bif ((!decide ((W0:Int)=((s0.c.length:Nat):Int)))||(!decide ((W2:Int)=((s2.c.length:Nat):Int)))) then false else (bif ((!decide (s2.d=s2.d))||(!decide (((due.length:Nat):Int)=((due.length:Nat):Int)))) then false else ((List.map (λ(x:Ji×Ji)=>(zbr x.1 x.2)) (List.zip due due)).all id))))=true
    rw [t1,t2,t3,cond_false,cond_false,cond_false,List.all_eq_true]
    intro b hb
    obtain ⟨x,hx,rfl⟩:=List.mem_map.mp hb
    show zbr x.1 x.2=true
    rw [zk7 hx];exact zjI _
   show (bif (false||(!(zcJ ⟨S1.first,S2.second,due⟩ y.a due))) then _ else _)=_
   rw [e];rfl
 have e2:zbf 0 (2:Int).toNat=[0,1]:=rfl
 rw [e2]
 have lp:zcF (λ(s:Option ↑106) (x:Int)=>((Let (zaI S2 S1) (λ(z:Option SenderD×Option Xn)=>(bif u then (bif (!(zbO z.2 ↑84)) then ↑74 else ↑203) else (bif (z.2.isSome||(!(zcJ (gS z.1) y.a due))) then ↑74 else ↑203)))):(Option ↑106) ⊕ Bool)) none [0,1]=Sum.inl (some (zaI S2 S1)):=by
  rw [zcF,first none 0]
  rfl
 rw [lp,zo9]
 rw [ziI λx _=>?_]
 ·show (decide (S1.baskets=y.b)&&decide (S2.baskets=p.2))=true
  obtain ⟨s0,s1,s2,W0,W1,W2,ey,hW,q1,q2,e1,e2,st,ew,u1,u2,ed⟩:=hL
  rw [e1,e2];simp
 ·refine zgZ λr hB=>?_
  obtain ⟨b1,b2⟩:=ztr hB
  have c1:zah S1 r=m_law_sums y.b r ((((ixD y.a (1:Int)).c).length:Nat):Int):=by
   obtain ⟨s0,s1,s2,W0,W1,W2,ey,hW,⟨i1,a1,a2,a3,a4⟩,q2,e1,e2,st,ew,u1,u2,ed⟩:=hL
   rw [e1]
   exact (zg0 (by rw [ey];show ((s1.c.length:Nat):Int)=_;rw [a2.bl]) rfl (λt ht=>(a4.r t ht).1) a4.l (by rw [b1,a4.l])).symm
  rw [c1]
  have c0:(!decide (m_law_sums y.b r ((((ixD y.a (1:Int)).c).length:Nat):Int)=m_law_sums y.b r ((((ixD y.a (1:Int)).c).length:Nat):Int)))=false:=by simp
  rw [c0,cond_false]
  cases q:u with
  | true=>rfl
  | false =>
   have c2:zah (gS ((gS (some (zaI S2 S1))).1)) r=m_law_sums due r w:=by
    rw [(zty hL q rfl).2]
    obtain ⟨d1,d2,W2',w2',ew',d3⟩:=zrx hL
    obtain ⟨s0,s1,s2,W0,W1,W2,ey,hW,⟨i1,a1,a2,a3,a4⟩,q2,e1,e2,st,ew,u1,u2,ed⟩:=hL
    have:W2'=W2:=by omega
    subst this
    rw [e1] at d1 ⊢;rw [e2]
    exact (zg0 (W1:=W0) ew rfl (λt ht=>(d3 t ht).1) (by rw [d1];exact a4.l) (by rw [b1,a4.l])).symm
   rw [c2,zjI];rfl
def zol (K:W.Frag):Sp:=λvs H Q _=>∃ (a:Addr) (ns:Ji),vs=[.ref a]∧SqL K H a ↑56∧ns.length≤63∧∀ H',Q (.bl true) H'
theorem zs6 {K:W.Frag} {A:Adr} {vs:List V} {H:Hp} {Q:VK} {E:XK} (h:zol K vs H Q E):zpE K A vs H Q E:=by
 obtain ⟨a,ns,rfl,hS,hl,q⟩:=h
 refine ⟨ns,H,Same.refl _,.cons ⟨a,_,rfl,hS,?_⟩ .nil,hl,λv F' H' _ hv=>?_⟩
 ·clear hS hl
  induction ns with
  | nil=>exact .nil
  | cons n ns ih=>exact .cons rfl ih
 ·have hv:v=.bl (m_law ns):=hv
  rw [hv,zou ns hl]
  exact q _
def FA (K:W.Frag) (f:Addr) (sn n:Str) (st:Stmt):Prop:=∃ (oc kV dc pm cd ct:Value) (od an:Option Addr) (sl:Array (Option Value)),K.lookup f=some ⟨oc,od,.func (W.fnOf sn n (zaF st) (zaB st) (zad st) .none kV dc pm an cd ct),sl⟩∧W.codeIn K cd n=true∧W.keepIn K (.ref f)=true
section
variable {K:W.Frag} {ad:Addr} {sn n:Str} {st:Stmt}
theorem FA.gm {oc kV dc pm cd ct:Value} {od an:Option Addr} {sl:Array (Option Value)} (l:K.lookup ad=some ⟨oc,od,.func (W.fnOf sn n (zaF st) (zaB st) (zad st) .none kV dc pm an cd ct),sl⟩) (c:W.codeIn K cd n=true) (k:W.keepIn K (.ref ad)=true):FA K ad sn n st:=⟨_,_,_,_,_,_,_,_,_,l,c,k⟩
theorem FA.gx (q:FA K ad sn n st):∃ fd,Fun K sn n st ad fd:=by
 obtain ⟨_,_,_,_,_,_,_,_,_,l,c,k⟩:=q
 exact ⟨_,za0 (st:=st) l c k⟩
noncomputable def FA.gd (q:FA K ad sn n st):FuncData:=Classical.choose q.gx
theorem FA.gf (q:FA K ad sn n st):Fun K sn n st ad q.gd:=Classical.choose_spec q.gx
theorem FA.gk (q:FA K ad sn n st):W.keepIn K (.ref ad)=true:=by
 obtain ⟨_,_,_,_,_,_,_,_,_,l,c,k⟩:=q
 exact k
end
theorem cm (l:W.OpenLaw) (w:World) (base:Heap) {K:W.Frag} {mg:Str->Option Value} {k:Nat} {x:Str} {f:Addr} {fd:FuncData} {ps:List Str} {sp:Sp} (h:FnOk l.prog w K mg base (CXE l.prog w) k f fd ps sp) (m:mg x=some (.ref f)) (z:W.keepIn K (.ref f)=true) (b:zfP K fd ps []):Callee l.prog w K mg base (CXE l.prog w) k x ps sp:=⟨_,_,h,m,z,b⟩
theorem zsp {l:W.OpenLaw} {w:World} {K:W.Frag} {h:Heap} {mg:Str->Option Value} {fa f0 f1 f2 f3 f4 f5 f6 f7 f8 f9 f10 f11 f12 f13 f14 f15 f16 f17 f18 f19 f20 f21 f22 f23 f24 f25 f26 f27 f28 f29 f30 f31 f32 f33 f34 f35 f36 f37 f38 f39 f40 f41 f42 f43 f44 f45 f46 f47 f48 yaq yaj yav yar yad yaX yaL ya7 ybs ybt ya8 ybu ya9 ybv yb4 yb5 yb6 yb7 yba ybw yaa yaM yas ybb ybx:Addr} (X:K.In h) (G:h.Ns mainGlobals mg) (hfa:mg "law"=some (.ref fa))
  {ybd ybc:Tok}
  (yc8:W.nsIn K mainGlobals "Book"=some (some (.ref yaq)))
  (ycP:W.nsIn K mainGlobals "Scale"=some (some (.ref yaj)))
  (yc9:W.nsIn K mainGlobals "Line"=some (some (.ref yav)))
  (yda:W.nsIn K mainGlobals "Rest"=some (some (.ref yar)))
  (ycs:W.nsIn K mainGlobals "Sender"=some (some (.ref yad)))
  (a0:W.nsIn K mainGlobals "refuse_unlike"=some (some (.ref f0)))
  (q0:FA K f0 "refuse_unlike" "refuse_unlike" zcn)
  (a1:W.nsIn K mainGlobals "plus"=some (some (.ref f1)))
  (q1:FA K f1 "plus" "plus" zia)
  (a2:W.nsIn K mainGlobals "less"=some (some (.ref f2)))
  (q2:FA K f2 "less" "less" zhW)
  (a3:W.nsIn K mainGlobals "times"=some (some (.ref f3)))
  (q3:FA K f3 "times" "times" zgv)
  (a4:W.nsIn K mainGlobals "weighed"=some (some (.ref f4)))
  (q4:FA K f4 "weighed" "weighed" zeM)
  (a5:W.nsIn K mainGlobals "head_of"=some (some (.ref f5)))
  (q5:FA K f5 "head_of" "head_of" zfl)
  (a6:W.nsIn K mainGlobals "common"=some (some (.ref f6)))
  (q6:FA K f6 "common" "common" zgg)
  (a7:W.nsIn K mainGlobals "upright"=some (some (.ref f7)))
  (q7:FA K f7 "upright" "upright" zff)
  (a8:W.nsIn K mainGlobals "lowered"=some (some (.ref f8)))
  (q8:FA K f8 "lowered" "lowered" zfg)
  (a9:W.nsIn K mainGlobals "merged"=some (some (.ref f9)))
  (q9:FA K f9 "merged" "merged" zgj)
  (a10:W.nsIn K mainGlobals "taken_in"=some (some (.ref f10)))
  (q10:FA K f10 "taken_in" "taken_in" zez)
  (a11:W.nsIn K mainGlobals "settled"=some (some (.ref f11)))
  (q11:FA K f11 "settled" "settled" zfd)
  (a12:W.nsIn K mainGlobals "climbed"=some (some (.ref f12)))
  (q12:FA K f12 "climbed" "climbed" zfk)
  (a13:W.nsIn K mainGlobals "book_of"=some (some (.ref f13)))
  (q13:FA K f13 "book_of" "book_of" zfi)
  (a14:W.nsIn K mainGlobals "refuse_bad_basket"=some (some (.ref f14)))
  (q14:FA K f14 "refuse_bad_basket" "refuse_bad_basket" zbo)
  (a15:W.nsIn K mainGlobals "levelled"=some (some (.ref f15)))
  (q15:FA K f15 "levelled" "levelled" zeB)
  (a16:W.nsIn K mainGlobals "divisor"=some (some (.ref f16)))
  (q16:FA K f16 "divisor" "divisor" zfe)
  (a17:W.nsIn K mainGlobals "shortened"=some (some (.ref f17)))
  (q17:FA K f17 "shortened" "shortened" zdm)
  (a18:W.nsIn K mainGlobals "shown"=some (some (.ref f18)))
  (q18:FA K f18 "shown" "shown" zfO)
  (a19:W.nsIn K mainGlobals "refuse_bad_baskets"=some (some (.ref f19)))
  (q19:FA K f19 "refuse_bad_baskets" "refuse_bad_baskets" zbg)
  (a20:W.nsIn K mainGlobals "refuse_other_book"=some (some (.ref f20)))
  (q20:FA K f20 "refuse_other_book" "refuse_other_book" zbq)
  (a21:W.nsIn K mainGlobals "_law_whole"=some (some (.ref f21)))
  (q21:FA K f21 "_law_whole" "_law_whole" zdQ)
  (a22:W.nsIn K mainGlobals "_law_same"=some (some (.ref f22)))
  (q22:FA K f22 "_law_same" "_law_same" zdV)
  (a23:W.nsIn K mainGlobals "_law_flags"=some (some (.ref f23)))
  (q23:FA K f23 "_law_flags" "_law_flags" zdR)
  (a24:W.nsIn K mainGlobals "_law_only"=some (some (.ref f24)))
  (q24:FA K f24 "_law_only" "_law_only" zd6)
  (a25:W.nsIn K mainGlobals "_law_cell"=some (some (.ref f25)))
  (q25:FA K f25 "_law_cell" "_law_cell" zeA)
  (a26:W.nsIn K mainGlobals "_law_raw"=some (some (.ref f26)))
  (q26:FA K f26 "_law_raw" "_law_raw" zfb)
  (a27:W.nsIn K mainGlobals "_law_thing"=some (some (.ref f27)))
  (q27:FA K f27 "_law_thing" "_law_thing" zdT)
  (a28:W.nsIn K mainGlobals "_law_frame"=some (some (.ref f28)))
  (q28:FA K f28 "_law_frame" "_law_frame" zcb)
  (a29:W.nsIn K mainGlobals "_law_bottoms"=some (some (.ref f29)))
  (q29:FA K f29 "_law_bottoms" "_law_bottoms" zc5)
  (a30:W.nsIn K mainGlobals "_law_stirred"=some (some (.ref f30)))
  (q30:FA K f30 "_law_stirred" "_law_stirred" zbv)
  (a31:W.nsIn K mainGlobals "_law_side"=some (some (.ref f31)))
  (q31:FA K f31 "_law_side" "_law_side" zeD)
  (a32:W.nsIn K mainGlobals "_law_shared"=some (some (.ref f32)))
  (q32:FA K f32 "_law_shared" "_law_shared" zdt)
  (a33:W.nsIn K mainGlobals "_law_images"=some (some (.ref f33)))
  (q33:FA K f33 "_law_images" "_law_images" zcQ)
  (a34:W.nsIn K mainGlobals "_law_wares_sent"=some (some (.ref f34)))
  (q34:FA K f34 "_law_wares_sent" "_law_wares_sent" zbE)
  (a35:W.nsIn K mainGlobals "_law_sums"=some (some (.ref f35)))
  (q35:FA K f35 "_law_sums" "_law_sums" zd0)
  (a36:W.nsIn K mainGlobals "_law_trio"=some (some (.ref f36)))
  (q36:FA K f36 "_law_trio" "_law_trio" zeE)
  (a37:W.nsIn K mainGlobals "_law_book"=some (some (.ref f37)))
  (q37:FA K f37 "_law_book" "_law_book" zdP)
  (a38:W.nsIn K mainGlobals "_law_count"=some (some (.ref f38)))
  (q38:FA K f38 "_law_count" "_law_count" zd1)
  (a39:W.nsIn K mainGlobals "_law_start"=some (some (.ref f39)))
  (q39:FA K f39 "_law_start" "_law_start" zcg)
  (a40:W.nsIn K mainGlobals "_law_asked"=some (some (.ref f40)))
  (q40:FA K f40 "_law_asked" "_law_asked" zdY)
  (a41:W.nsIn K mainGlobals "_law_is"=some (some (.ref f41)))
  (q41:FA K f41 "_law_is" "_law_is" zfu)
  (a42:W.nsIn K mainGlobals "law"=some (some (.ref f42)))
  (q42:FA K f42 "law" "law" zhm)
  (yb8:W.findIn K (.ref yad) "sent"=some (some (.ref f43)))
  (i43:W.isFn K (.ref f43)=true)
  (q43:FA K f43 "sent" "Sender.sent" zc0)
  (yb9:W.findIn K (.ref yad) "behind"=some (some (.ref f44)))
  (i44:W.isFn K (.ref f44)=true)
  (q44:FA K f44 "behind" "Sender.behind" zbS)
  (a45:W.findIn K (.ref yaq) "__init__"=some (some (.ref f45)))
  (i45:W.isFn K (.ref f45)=true)
  (q45:FA K f45 "__init__" "Book.__init__" zbT)
  (a46:W.findIn K (.ref yaj) "__init__"=some (some (.ref f46)))
  (i46:W.isFn K (.ref f46)=true)
  (ycQ:W.findIn K (.ref yav) "__init__"=some (some (.ref f46)))
  (bg46:W.specialIn K (.ref yaj) "__getattribute__"=some (some (.builtin "type.__getattribute__")))
  (br46:W.readsIn K yaj (.type "type")=true)
  (bf46:W.findCls K (.ref yaj) (.type "type") "__init__"=some (.val (.ref f46)))
  (q46:FA K f46 "__init__" "Scale.__init__" zdk)
  (a47:W.findIn K (.ref yar) "__init__"=some (some (.ref f47)))
  (i47:W.isFn K (.ref f47)=true)
  (q47:FA K f47 "__init__" "Rest.__init__" zbX)
  (a48:W.findIn K (.ref yad) "__init__"=some (some (.ref f48)))
  (i48:W.isFn K (.ref f48)=true)
  (q48:FA K f48 "__init__" "Sender.__init__" zbt)
  (ydb:W.plainGet K yaq Str.empty=true)
  (ydc:W.hasDictIn K yaq=true)
  (ydd:W.plainOver K yaq=true)
  (yde:W.findIn K (.ref yaq) "__setattr__"=some ↑170)
  (ydf:W.makesIn K yaq=true)
  (ydg:W.keepIn K (.ref yaq)=true)
  (ybM:W.findIn K (.ref yaq) "many"=some none)
  (ybg:W.findIn K (.ref yaq) "swaps"=some none)
  (ycR:W.plainGet K yaj Str.empty=true)
  (ycS:W.hasDictIn K yaj=true)
  (ycT:W.plainOver K yaj=true)
  (ycU:W.findIn K (.ref yaj) "__setattr__"=some ↑170)
  (ydL:W.makesIn K yaj=true)
  (ydM:W.keepIn K (.ref yaj)=true)
  (yaN:W.findIn K (.ref yaj) "weights"=some none)
  (ydh:W.plainGet K yav Str.empty=true)
  (ydi:W.hasDictIn K yav=true)
  (ydj:W.plainOver K yav=true)
  (ydk:W.findIn K (.ref yav) "__setattr__"=some ↑170)
  (ydl:W.makesIn K yav=true)
  (ydm:W.keepIn K (.ref yav)=true)
  (yaT:W.findIn K (.ref yav) "weights"=some none)
  (ydn:W.plainGet K yar Str.empty=true)
  (ydo:W.hasDictIn K yar=true)
  (ydp:W.plainOver K yar=true)
  (ydq:W.findIn K (.ref yar) "__setattr__"=some ↑170)
  (ydr:W.makesIn K yar=true)
  (yds:W.keepIn K (.ref yar)=true)
  (yaU:W.findIn K (.ref yar) "weights"=some none)
  (ybN:W.findIn K (.ref yar) "rest"=some none)
  (yby:W.plainGet K yad Str.empty=true)
  (ybz:W.hasDictIn K yad=true)
  (ybA:W.plainOver K yad=true)
  (ybB:W.findIn K (.ref yad) "__setattr__"=some ↑170)
  (yct:W.makesIn K yad=true)
  (ycu:W.keepIn K (.ref yad)=true)
  (yaV:W.findIn K (.ref yad) "first"=some none)
  (yaO:W.findIn K (.ref yad) "second"=some none)
  (yaB:W.findIn K (.ref yad) "baskets"=some none)
  (ybh:W.nsIn K mainGlobals "ValueError"=some none)
  (yd7:W.nsIn K mainGlobals "abs"=some none)
  (yd8:W.nsIn K mainGlobals "all"=some none)
  (ydN:W.nsIn K mainGlobals "bool"=some none)
  (ybO:W.nsIn K mainGlobals "enumerate"=some none)
  (yd9:W.nsIn K mainGlobals "int"=some none)
  (ybi:W.nsIn K mainGlobals "isinstance"=some none)
  (yea:W.nsIn K mainGlobals "len"=some none)
  (ydO:W.nsIn K mainGlobals "list"=some none)
  (yeb:W.nsIn K mainGlobals "max"=some none)
  (ydt:W.nsIn K mainGlobals "range"=some none)
  (yca:W.nsIn K mainGlobals "reversed"=some none)
  (yec:W.nsIn K mainGlobals "sum"=some none)
  (yed:W.nsIn K mainGlobals "zip"=some none)
  (g_MOST_WARES:W.nsIn K mainGlobals "MOST_WARES"=some (some (.int 8 ybd)))
  (g_MOST_SWAPS:W.nsIn K mainGlobals "MOST_SWAPS"=some (some (.int 12 ybc)))
  (ybj:W.nsIn K mainGlobals "BadBasket"=some (some (.ref yaX)))
  (ya2:W.nsIn K mainGlobals "BadBaskets"=some (some (.ref yaL)))
  (ybP:W.nsIn K mainGlobals "BadNames"=some (some (.ref ya7)))
  (ycb:W.nsIn K mainGlobals "BadRest"=some (some (.ref ybs)))
  (ycc:W.nsIn K mainGlobals "BadRoad"=some (some (.ref ybt)))
  (ybQ:W.nsIn K mainGlobals "BadScale"=some (some (.ref ya8)))
  (ycd:W.nsIn K mainGlobals "BadSwap"=some (some (.ref ybu)))
  (ybR:W.nsIn K mainGlobals "BadWares"=some (some (.ref ya9)))
  (yce:W.nsIn K mainGlobals "Endless"=some (some (.ref ybv)))
  (ycv:W.nsIn K mainGlobals "NoBook"=some (some (.ref yb4)))
  (ycw:W.nsIn K mainGlobals "NoLine"=some (some (.ref yb5)))
  (ycx:W.nsIn K mainGlobals "NoName"=some (some (.ref yb6)))
  (ycy:W.nsIn K mainGlobals "NoSwap"=some (some (.ref yb7)))
  (ybS:W.nsIn K mainGlobals "NotAlike"=some (some (.ref yba)))
  (ycf:W.nsIn K mainGlobals "NotKept"=some (some (.ref ybw)))
  (yaP:W.nsIn K mainGlobals "OtherBook"=some (some ↑11))
  (ya3:W.nsIn K mainGlobals "OtherWares"=some (some (.ref yaM)))
  (ybk:W.nsIn K mainGlobals "SwapError"=some (some (.ref yas)))
  (ybT:W.nsIn K mainGlobals "TooGreat"=some (some (.ref ybb)))
  (ycg:W.nsIn K mainGlobals "TooMany"=some (some (.ref ybx)))
  (x_gt:W.specialIn K ↑47 "__get__"=some (some ↑192))
  (x_tk:W.takesIn K ↑47=some true)
  (xi_OtherBook:W.excIn K yaa [.type "ValueError",.type "Exception",.type "BaseException",.type "object"] "ValueError.__new__"=true)
  (ya4:W.findIn K ↑11 "__getattribute__"=some (some (.builtin "BaseException.__getattribute__")))
  (ya5:W.findIn K ↑11 "__getattr__"=some none)
  (ybl:W.findIn K ↑11 "__class__"=some (some ↑47))
  (ybm:W.mroIn K yaa (.type "object")=some true)
  (ybn:W.mroIn K yaa (.type "BaseException")=some true)
  (ybo:W.subIn K ↑11 (.ref yas)=some true)
  (eb:W.subIn K (.ref yas) (.type "BaseException")=some true)
  (eo:W.mroIn K yas (.type "object")=some true)
  (et:W.typeIn K (.ref yas)=some (.type "type"))
  (i0_BadBasket:W.kitOne K ↑6 (.ref yaX)=some false)
  (i_OtherBook_BadBasket:W.kitOne K ↑11 (.ref yaX)=some false)
  (i0_BadBaskets:W.kitOne K ↑6 (.ref yaL)=some false)
  (i_OtherBook_BadBaskets:W.kitOne K ↑11 (.ref yaL)=some false)
  (i0_BadNames:W.kitOne K ↑6 (.ref ya7)=some false)
  (i_OtherBook_BadNames:W.kitOne K ↑11 (.ref ya7)=some false)
  (i0_BadRest:W.kitOne K ↑6 (.ref ybs)=some false)
  (i_OtherBook_BadRest:W.kitOne K ↑11 (.ref ybs)=some false)
  (i0_BadRoad:W.kitOne K ↑6 (.ref ybt)=some false)
  (i_OtherBook_BadRoad:W.kitOne K ↑11 (.ref ybt)=some false)
  (i0_BadScale:W.kitOne K ↑6 (.ref ya8)=some false)
  (i_OtherBook_BadScale:W.kitOne K ↑11 (.ref ya8)=some false)
  (i0_BadSwap:W.kitOne K ↑6 (.ref ybu)=some false)
  (i_OtherBook_BadSwap:W.kitOne K ↑11 (.ref ybu)=some false)
  (i0_BadWares:W.kitOne K ↑6 (.ref ya9)=some false)
  (i_OtherBook_BadWares:W.kitOne K ↑11 (.ref ya9)=some false)
  (i0_Endless:W.kitOne K ↑6 (.ref ybv)=some false)
  (i_OtherBook_Endless:W.kitOne K ↑11 (.ref ybv)=some false)
  (i0_NoBook:W.kitOne K ↑6 (.ref yb4)=some false)
  (i_OtherBook_NoBook:W.kitOne K ↑11 (.ref yb4)=some false)
  (i0_NoLine:W.kitOne K ↑6 (.ref yb5)=some false)
  (i_OtherBook_NoLine:W.kitOne K ↑11 (.ref yb5)=some false)
  (i0_NoName:W.kitOne K ↑6 (.ref yb6)=some false)
  (i_OtherBook_NoName:W.kitOne K ↑11 (.ref yb6)=some false)
  (i0_NoSwap:W.kitOne K ↑6 (.ref yb7)=some false)
  (i_OtherBook_NoSwap:W.kitOne K ↑11 (.ref yb7)=some false)
  (i0_NotAlike:W.kitOne K ↑6 (.ref yba)=some false)
  (i_OtherBook_NotAlike:W.kitOne K ↑11 (.ref yba)=some false)
  (i0_NotKept:W.kitOne K ↑6 (.ref ybw)=some false)
  (i_OtherBook_NotKept:W.kitOne K ↑11 (.ref ybw)=some false)
  (i0_OtherBook:W.kitOne K ↑6 ↑11=some false)
  (i_OtherBook_OtherBook:W.kitOne K ↑11 ↑11=some true)
  (i0_OtherWares:W.kitOne K ↑6 (.ref yaM)=some false)
  (i_OtherBook_OtherWares:W.kitOne K ↑11 (.ref yaM)=some false)
  (i0_TooGreat:W.kitOne K ↑6 (.ref ybb)=some false)
  (i_OtherBook_TooGreat:W.kitOne K ↑11 (.ref ybb)=some false)
  (i0_TooMany:W.kitOne K ↑6 (.ref ybx)=some false)
  (i_OtherBook_TooMany:W.kitOne K ↑11 (.ref ybx)=some false)
  (i0_ValueError:W.kitOne K ↑6 (.type "ValueError")=some false)
  (i_OtherBook_ValueError:W.kitOne K ↑11 (.type "ValueError")=some true)
  (kit_int_bool:W.kitOne K (.type "int") (.type "bool")=some false)
  (kit_int_int:W.kitOne K (.type "int") (.type "int")=some true)
  (kit_list_list:W.kitOne K (.type "list") (.type "list")=some true)
  (ycz:W.findIn K (.ref yad) "__class__"=some (some ↑47))
  (ycA:W.mroIn K yad (.type "object")=some true)
  (ycB:W.kitOne K (.ref yad) (.ref yad)=some true) :
  ∃ fd:FuncData,(∀ (s:Shared) (v:Value),BindsTo s fd ⟨[v],[]⟩ [("_law_script",v)])∧∀ base:Heap,K.In base->base.Ns mainGlobals mg->FnOk l.prog w K mg base (CXE l.prog w) 11 fa fd ["_law_script"] (zol K):=by
 have e:=hfa.symm.trans (W.mg_of X G a42)
 cases e
 have ybC:=q0.gf
 have ycW:=ybC.binds (ps:=↥7) ↥992
 have zfS:=W.mg_of X G a0
 have yeq:=q1.gf
 have yeH:=yeq.binds (ps:=↥7) ↥992
 have ze8:=W.mg_of X G a1
 have yer:=q2.gf
 have yeI:=yer.binds (ps:=↥7) ↥992
 have zfF:=W.mg_of X G a2
 have yd5:=q3.gf
 have yeF:=yd5.binds (ps:=["some","many"]) ↥992
 have zax:=W.mg_of X G a3
 have ydu:=q4.gf
 have yes:=ydu.binds (ps:=↥7) ↥992
 have zck:=W.mg_of X G a4
 have ydv:=q5.gf
 have yet:=ydv.binds (ps:=["row"]) ↥991
 have zaj:=W.mg_of X G a5
 have ydP:=q6.gf
 have yeB:=ydP.binds (ps:=↥7) ↥992
 have zdA:=W.mg_of X G a6
 have ydw:=q7.gf
 have yeu:=ydw.binds (ps:=["row"]) ↥991
 have zbV:=W.mg_of X G a7
 have ydx:=q8.gf
 have yev:=ydx.binds (ps:=["row","steps"]) ↥992
 have m_lowered:=W.mg_of X G a8
 have ydQ:=q9.gf
 have yeC:=ydQ.binds (ps:=["step","row"]) ↥992
 have zbB:=W.mg_of X G a9
 have ycX:=q10.gf
 have yee:=ycX.binds (ps:=["steps","row"]) ↥992
 have m_taken_in:=W.mg_of X G a10
 have ydy:=q11.gf
 have yew:=ydy.binds (ps:=["steps"]) ↥991
 have zcT:=W.mg_of X G a11
 have ydz:=q12.gf
 have yex:=ydz.binds (ps:=["rows"]) ↥991
 have za6:=W.mg_of X G a12
 have ydA:=q13.gf
 have yey:=ydA.binds (ps:=["many","swaps"]) ↥992
 have zdE:=W.mg_of X G a13
 have yaR:=q14.gf
 have ycl:=yaR.binds (ps:=["book","basket"]) ↥992
 have zeO:=W.mg_of X G a14
 have ycY:=q15.gf
 have yef:=ycY.binds (ps:=["steps","length"]) ↥992
 have zbc:=W.mg_of X G a15
 have ydB:=q16.gf
 have yez:=ydB.binds (ps:=["numbers"]) ↥991
 have zbl:=W.mg_of X G a16
 have ycE:=q17.gf
 have ydU:=ycE.binds (ps:=["numbers"]) ↥991
 have zaU:=W.mg_of X G a17
 have yd6:=q18.gf
 have yeG:=yd6.binds (ps:=["book","basket"]) ↥992
 have m_shown:=W.mg_of X G a18
 have yaQ:=q19.gf
 have ych:=yaQ.binds (ps:=["first","second","baskets"]) ↥993
 have zeo:=W.mg_of X G a19
 have yaS:=q20.gf
 have ycm:=yaS.binds (ps:=↥7) ↥992
 have ycn:=W.mg_of X G a20
 have ycF:=q21.gf
 have ydV:=ycF.binds (ps:=["_law_found"]) ↥991
 have zcf:=W.mg_of X G a21
 have ycZ:=q22.gf
 have yeg:=ycZ.binds (ps:=["_law_found","_law_due"]) ↥992
 have zbr:=W.mg_of X G a22
 have ycG:=q23.gf
 have ydW:=ycG.binds (ps:=["_law_caught"]) ↥991
 have zcR:=W.mg_of X G a23
 have yc0:=q24.gf
 have yeh:=yc0.binds (ps:=["_law_caught","_law_name"]) ↥992
 have zbO:=W.mg_of X G a24
 have yc1:=q25.gf
 have yei:=yc1.binds (ps:=["_law_script","_law_k"]) ↥992
 have zcl:=W.mg_of X G a25
 have ydC:=q26.gf
 have yeA:=ydC.binds (ps:=["_law_script","_law_k"]) ↥992
 have zba:=W.mg_of X G a26
 have ycH:=q27.gf
 have ydX:=ycH.binds (ps:=↑141) ↥993
 have zae:=W.mg_of X G a27
 have ycI:=q28.gf
 have ydY:=ycI.binds (ps:=["_law_wide","_law_cells"]) ↥992
 have zbZ:=W.mg_of X G a28
 have yci:=q29.gf
 have ydD:=yci.binds (ps:=["_law_wide","_law_cell_here","_law_far"]) ↥993
 have za3:=W.mg_of X G a29
 have ycj:=q30.gf
 have ydE:=ycj.binds (ps:=["_law_rows","_law_bottoms_here","_law_idle","_law_cells"]) ↥994
 have zaQ:=W.mg_of X G a30
 have yc2:=q31.gf
 have yej:=yc2.binds (ps:=["_law_cells","_law_wide","_law_cell_here","_law_idle"]) ↥994
 have zbn:=W.mg_of X G a31
 have ycC:=q32.gf
 have ydR:=ycC.binds (ps:=["_law_one","_law_other"]) ↥992
 have zaA:=W.mg_of X G a32
 have ycD:=q33.gf
 have ydS:=ycD.binds (ps:=["_law_first","_law_second","_law_cell_here","_law_far"]) ↥994
 have m_law_images:=W.mg_of X G a33
 have ybp:=q34.gf
 have ycV:=ybp.binds (ps:=["_law_first","_law_images_here","_law_wide"]) ↥993
 have m_law_wares_sent:=W.mg_of X G a34
 have yc3:=q35.gf
 have yek:=yc3.binds (ps:=["_law_baskets","_law_basket","_law_wide"]) ↥993
 have m_law_sums:=W.mg_of X G a35
 have yc4:=q36.gf
 have yel:=yc4.binds (ps:=["_law_script"]) ↥991
 have m_law_trio:=W.mg_of X G a36
 have yc5:=q37.gf
 have yem:=yc5.binds (ps:=["_law_side_here"]) ↥991
 have za9:=W.mg_of X G a37
 have ycJ:=q38.gf
 have ydZ:=ycJ.binds (ps:=["_law_cell_here","_law_k","_law_size"]) ↥993
 have za4:=W.mg_of X G a38
 have ycK:=q39.gf
 have yd0:=ycK.binds (ps:=["_law_side_here","_law_right","_law_second","_law_cell_here"]) ↥994
 have m_law_start:=W.mg_of X G a39
 have ycL:=q40.gf
 have yd1:=ycL.binds (ps:=["_law_sender","_law_other"]) ↥992
 have zaI:=W.mg_of X G a40
 have ydT:=q41.gf
 have yeD:=ydT.binds (ps:=["_law_found","_law_sides","_law_due"]) ↥993
 have zcJ:=W.mg_of X G a41
 obtain ⟨_,kV42,dc42,pm42,cd42,ct42,_,an42,_,l42,c42,k42⟩:=q42
 have yeE:=za0 (st:=zhm) l42 c42 k42
 have yeJ:=yeE.binds (ps:=["_law_script"]) ↥991
 have m_law:=W.mg_of X G a42
 have yck:=q43.gf
 have ydF:=yck.binds (ps:=["self","basket"]) ↥992
 have ybD:=q44.gf
 have yc6:=ybD.binds (ps:=["self","other"]) ↥992
 have ybE:=q45.gf
 have yaG:=ybE.binds (ps:=["self","many","swaps"]) ↥993
 have yaC:=q46.gf
 have ybq:=yaC.binds (ps:=["self","weights"]) ↥992
 have ybF:=q47.gf
 have yaI:=ybF.binds (ps:=["self","rest","weights"]) ↥993
 have ya6:=q48.gf
 have yah:=ya6.binds (ps:=["self","first","second","baskets"]) ↥994
 have T:Txt K mg ⟨(),yaq,yaj,yav,yar,yad,λe=>match e with | .OtherBook=>yaa,yaX,yaL,ya7,ybs,ybt,ya8,ybu,ya9,ybv,yb4,yb5,yb6,yb7,yba,ybw,yaa,yaM,yas,ybb,ybx⟩:=⟨W.mg_none_of X G ybh,W.mg_none_of X G yd7,W.mg_none_of X G yd8,W.mg_none_of X G ydN,W.mg_none_of X G ybO,W.mg_none_of X G yd9,W.mg_none_of X G ybi,W.mg_none_of X G yea,W.mg_none_of X G ydO,W.mg_none_of X G yeb,W.mg_none_of X G ydt,W.mg_none_of X G yca,W.mg_none_of X G yec,W.mg_none_of X G yed,W.mg_of X G yc8,⟨ydb,ydc,ydd,yde⟩,ybM,ybg,W.mg_of X G ycP,⟨ycR,ycS,ycT,ycU⟩,yaN,W.mg_of X G yc9,⟨ydh,ydi,ydj,ydk⟩,yaT,W.mg_of X G yda,⟨ydn,ydo,ydp,ydq⟩,yaU,ybN,W.mg_of X G ycs,⟨yby,ybz,ybA,ybB⟩,yaV,yaO,yaB,⟨ybd,W.mg_of X G g_MOST_WARES⟩,⟨ybc,W.mg_of X G g_MOST_SWAPS⟩,W.mg_of X G ybj,W.mg_of X G ya2,W.mg_of X G ybP,W.mg_of X G ycb,W.mg_of X G ycc,W.mg_of X G ybQ,W.mg_of X G ycd,W.mg_of X G ybR,W.mg_of X G yce,W.mg_of X G ycv,W.mg_of X G ycw,W.mg_of X G ycx,W.mg_of X G ycy,W.mg_of X G ybS,W.mg_of X G ycf,W.mg_of X G yaP,W.mg_of X G ya3,W.mg_of X G ybk,W.mg_of X G ybT,W.mg_of X G ycg,W.mg_of X G yaP,xi_OtherBook,⟨ya4,ya5,ybl,ybm,ybn,x_gt,x_tk⟩,exm_of eb eo et ybo,i0_BadBasket,i_OtherBook_BadBasket,i0_BadBaskets,i_OtherBook_BadBaskets,i0_BadNames,i_OtherBook_BadNames,i0_BadRest,i_OtherBook_BadRest,i0_BadRoad,i_OtherBook_BadRoad,i0_BadScale,i_OtherBook_BadScale,i0_BadSwap,i_OtherBook_BadSwap,i0_BadWares,i_OtherBook_BadWares,i0_Endless,i_OtherBook_Endless,i0_NoBook,i_OtherBook_NoBook,i0_NoLine,i_OtherBook_NoLine,i0_NoName,i_OtherBook_NoName,i0_NoSwap,i_OtherBook_NoSwap,i0_NotAlike,i_OtherBook_NotAlike,i0_NotKept,i_OtherBook_NotKept,i0_OtherBook,i_OtherBook_OtherBook,i0_OtherWares,i_OtherBook_OtherWares,i0_TooGreat,i_OtherBook_TooGreat,i0_TooMany,i_OtherBook_TooMany,i0_ValueError,i_OtherBook_ValueError,kit_int_bool,kit_int_int,kit_list_list,⟨⟨yby,ybz,ybA,ybB⟩,ycz,x_gt,x_tk,ycA,ycB⟩⟩
 refine ⟨W.fnOf "law" "law" (zaF zhm) (zaB zhm) (zad zhm) .none kV42 dc42 pm42 an42 cd42 ct42,λs v=>.of_eq rfl,λbase _ _=>?_⟩
 have ydG:Mk K yaq f45:=⟨ydf,a45,i45,ydg⟩
 have ydK:Mk K yav f46:=⟨ydl,ycQ,i46,ydm⟩
 have yak:ByCls K yaj f46 "__init__":=⟨bg46,br46,bf46,q46.gk⟩
 have ydJ:Mk K yar f47:=⟨ydr,a47,i47,yds⟩
 have yaz:Mk K yad f48:=⟨yct,a48,i48,ycu⟩
 have yae:=cm l w base (zhC ybC T) zfS q0.gk ycW
 have ybV:=cm l w base (zp3 yeq T yae) ze8 q1.gk yeH
 have ybU:=cm l w base (zqV yer T yae) zfF q2.gk yeI
 have yai:=cm l w base (zop yd5 T) zax q3.gk yeF
 have ycp:=cm l w base (zmb ydu T yae) zck q4.gk yes
 have yac:=cm l w base (zl9 ydv T) zaj q5.gk yet
 have ycM:=cm l w base (zmR ydP T) zdA q6.gk yeB
 have ybr:=cm l w base (zma ydw T yac yai) zbV q7.gk yeu
 have yau:=cm l w base (zmk ydx T yac ybU yai) m_lowered q8.gk yev
 have ycN:=cm l w base (znv ydQ T ycM yac ybU ybV yai) zbB q9.gk yeC
 have ybY:=cm l w base (zkF ycX T yac yau ycN ybr) m_taken_in q10.gk yee
 have yco:=cm l w base (zl7 ydy T yau) zcT q11.gk yew
 have ycr:=cm l w base (zmc ydz T yco ybY) za6 q12.gk yex
 have yaF:=zhE (P:=l.prog) (w:=w) (base:=base) ybE T
 have yaE:=cm l w base (zl8 ydA T  ydG yaF yaG) zdE q13.gk yey
 have yat:=cm l w base (zgo yaR T) zeO q14.gk ycl
 have yam:=zfL (P:=l.prog) (w:=w) (base:=base) yaC T
 have yal:=zfM (P:=l.prog) (w:=w) (base:=base) yaC T
 have yaH:=zhD (P:=l.prog) (w:=w) (base:=base) ybF T  yak yal ybq
 have ybZ:=cm l w base (zkS ycY T yac yai ycp) zbc q15.gk yef
 have ycq:=cm l w base (zmh ydB T) zbl q16.gk yez
 have yaW:=cm l w base (zj2 ycE T ycq) zaU q17.gk ydU
 have yc7:=cm l w base (zoA yd6 T ycr yac ybZ yaW ydJ yaH yaI ydK yam ybq) m_shown q18.gk yeG
 have yan:=cm l w base (zfZ yaQ T) zeo q19.gk ych
 have yao:=cm l w base (zfW yaS T) ycn q20.gk ycm
 have yaf:CalleeM l.prog w K mg base (CXE l.prog w) 3 yad "sent" ["self","basket"] (zdj K _):=⟨_,_,ziq yck T ybV yat yai ,⟨yb8,i43,q43.gk⟩,ydF⟩
 have yag:=zgR (P:=l.prog) (w:=w) (base:=base) ya6 T  yaf yan yc7
 have yaA:CalleeM l.prog w K mg base (CXE l.prog w) 9 yad "behind" ["self","other"] (zd4 K _):=⟨_,_,zhi ybD T yaf yaz yag yah yao,⟨yb9,i44,q44.gk⟩,yc6⟩
 have ybG:=cm l w base (zj4 ycF T) zcf q21.gk ydV
 have yax:=cm l w base (zkW ycZ T ybG) zbr q22.gk yeg
 have ybH:=cm l w base (zkf ycG T) zcR q23.gk ydW
 have yb2:=cm l w base (zkD yc0 T ybH) zbO q24.gk yeh
 have yaw:=cm l w base (zk1 yc1 T) zcl q25.gk yei
 have yaZ:=cm l w base (zmd ydC T) zba q26.gk yeA
 have yab:=cm l w base (zj6 ycH T) zae q27.gk ydX
 have ybI:=cm l w base (zjA ycI T yab) zbZ q28.gk ydY
 have ya0:=cm l w base (zir yci T yab) za3 q29.gk ydD
 have ya1:=cm l w base (zin ycj T yab) zaQ q30.gk ydE
 have yb0:=cm l w base (zk2 yc2 T ya0 ybI ya1) zbn q31.gk yej
 have ybf:=cm l w base (zi5 ycC T) zaA q32.gk ydR
 have yaJ:=cm l w base (zji ycD T ybf yab) m_law_images q33.gk ydS
 have yap:=cm l w base (zg3 ybp T) m_law_wares_sent q34.gk ycV
 have yaK:=cm l w base (zkU yc3 T) m_law_sums q35.gk yek
 have yb3:=cm l w base (zkv yc4 T yaw yaJ yaZ yb0 yap) m_law_trio q36.gk yel
 have yb1:=cm l w base (zkT yc5 T yaE) za9 q37.gk yem
 have ybK:=cm l w base (zjE ycJ T yab) za4 q38.gk ydZ
 have ybL:=cm l w base (zjz ycK T yaE) m_law_start q39.gk yd0
 have ybJ:=cm l w base (zj1 ycL T  yaA) zaI q40.gk yd1
 have ycO:=cm l w base (znN ydT T yax) zcJ q41.gk yeD
 exact (zsZ yeE T yaf ybJ yb1 yaw ybK ycO yb2 yax ybL yaK yb3 yaz yag yah ).imp λ_ _ _ _ q=>zs6 q
theorem zvv {l:W.OpenLaw} {q:Program} {loose:List Str} {XP:(Str->Option Value)->Heap->Prop} {YP:World->Heap->Prop} {d:DefRec} {K:Params->W.Frag} (hn:l.most=some 63) (hdf:d.params.defaults=[])
  (hY:∀ (w:World) (h:Heap),YP w h->(K w.params).In h)
  (F:∀ (w:World) (mg:Str->Option Value) (fa:Addr) (h:Heap),(K w.params).In h->h.Ns mainGlobals mg->mg d.name=some (.ref fa) →
   ∃ fd:FuncData,(∀ (s:Shared) (u:Value),BindsTo s fd ⟨[u],[]⟩ [("_law_script",u)])∧∀ base:Heap,(K w.params).In base->base.Ns mainGlobals mg->FnOk l.prog w (K w.params) mg base (CXE l.prog w) 11 fa fd ["_law_script"] (zol (K w.params))) :
  W.WalkO q loose XP YP l.row.toRowW d [] (λf vs=>PySem.call f vs) :=
 L2.zqW (n:=63) (k:=11) (x:="_law_script") (CX:=λw=>CXE l.prog w) (sp:=λw=>zol (K w.params)) hn ↑1 hdf ⟨rfl,by decide,by decide⟩ hY F (λ_ _ a ns hl _ hS=>⟨a,ns,rfl,hS,hl,λ_=>rfl⟩) λ_ _ _ _ _ ⟨_,_,_,_,_,_,_,_,_,_,z⟩=>z
end
end My
section
open PySem PySem.W PyProof.Rows
set_option maxRecDepth 100000 in
set_option maxHeartbeats 0 in
theorem PySem.Challenge.cw_swapbook_k75_one_sender_behind_another_holds : PySem.Challenge.rw_swapbook_k75_one_sender_behind_another.Holds := by
 refine My.headT ?hc
 k_fill
 refine My.zvv (l:=PySem.Challenge.rw_swapbook_k75_one_sender_behind_another) rfl rfl (λw h Y=>W.kIn_of Y) ?F
 case F =>
  intro w mg fa h KX G hmg
  refine' My.zsp KX G hmg ?yc8 ?ycP ?yc9 ?yda ?ycs ?a0 ?q0 ?a1 ?q1 ?a2 ?q2 ?a3 ?q3 ?a4 ?q4 ?a5 ?q5 ?a6 ?q6 ?a7 ?q7 ?a8 ?q8 ?a9 ?q9 ?a10 ?q10 ?a11 ?q11 ?a12 ?q12 ?a13 ?q13 ?a14 ?q14 ?a15 ?q15 ?a16 ?q16 ?a17 ?q17 ?a18 ?q18 ?a19 ?q19 ?a20 ?q20 ?a21 ?q21 ?a22 ?q22 ?a23 ?q23 ?a24 ?q24 ?a25 ?q25 ?a26 ?q26 ?a27 ?q27 ?a28 ?q28 ?a29 ?q29 ?a30 ?q30 ?a31 ?q31 ?a32 ?q32 ?a33 ?q33 ?a34 ?q34 ?a35 ?q35 ?a36 ?q36 ?a37 ?q37 ?a38 ?q38 ?a39 ?q39 ?a40 ?q40 ?a41 ?q41 ?a42 ?q42 ?yb8 ?i43 ?q43 ?yb9 ?i44 ?q44 ?a45 ?i45 ?q45 ?a46 ?i46 ?ycQ ?bg46 ?br46 ?bf46 ?q46 ?a47 ?i47 ?q47 ?a48 ?i48 ?q48 ?ydb ?ydc ?ydd ?yde ?ydf ?ydg ?ybM ?ybg ?ycR ?ycS ?ycT ?ycU ?ydL ?ydM ?yaN ?ydh ?ydi ?ydj ?ydk ?ydl ?ydm ?yaT ?ydn ?ydo ?ydp ?ydq ?ydr ?yds ?yaU ?ybN ?yby ?ybz ?ybA ?ybB ?yct ?ycu ?yaV ?yaO ?yaB ?ybh ?yd7 ?yd8 ?ydN ?ybO ?yd9 ?ybi ?yea ?ydO ?yeb ?ydt ?yca ?yec ?yed ?g_MOST_WARES ?g_MOST_SWAPS ?ybj ?ya2 ?ybP ?ycb ?ycc ?ybQ ?ycd ?ybR ?yce ?ycv ?ycw ?ycx ?ycy ?ybS ?ycf ?yaP ?ya3 ?ybk ?ybT ?ycg ?x_gt ?x_tk ?xi_OtherBook ?ya4 ?ya5 ?ybl ?ybm ?ybn ?ybo ?eb ?eo ?et ?i0_BadBasket ?i_OtherBook_BadBasket ?i0_BadBaskets ?i_OtherBook_BadBaskets ?i0_BadNames ?i_OtherBook_BadNames ?i0_BadRest ?i_OtherBook_BadRest ?i0_BadRoad ?i_OtherBook_BadRoad ?i0_BadScale ?i_OtherBook_BadScale ?i0_BadSwap ?i_OtherBook_BadSwap ?i0_BadWares ?i_OtherBook_BadWares ?i0_Endless ?i_OtherBook_Endless ?i0_NoBook ?i_OtherBook_NoBook ?i0_NoLine ?i_OtherBook_NoLine ?i0_NoName ?i_OtherBook_NoName ?i0_NoSwap ?i_OtherBook_NoSwap ?i0_NotAlike ?i_OtherBook_NotAlike ?i0_NotKept ?i_OtherBook_NotKept ?i0_OtherBook ?i_OtherBook_OtherBook ?i0_OtherWares ?i_OtherBook_OtherWares ?i0_TooGreat ?i_OtherBook_TooGreat ?i0_TooMany ?i_OtherBook_TooMany ?i0_ValueError ?i_OtherBook_ValueError ?kit_int_bool ?kit_int_int ?kit_list_list ?ycz ?ycA ?ycB
  (case yc8|ycP|yc9|yda|ycs|a0|a1|a2|a3|a4|a5|a6|a7|a8|a9|a10|a11|a12|a13|a14|a15|a16|a17|a18|a19|a20|a21|a22|a23|a24|a25|a26|a27|a28|a29|a30|a31|a32|a33|a34|a35|a36|a37|a38|a39|a40|a41|a42|yb8|i43|yb9|i44|a45|i45|a46|i46|ycQ|bg46|br46|bf46|a47|i47|a48|i48|ydb|ydc|ydd|yde|ydf|ydg|ybM|ybg|ycR|ycS|ycT|ycU|ydL|ydM|yaN|ydh|ydi|ydj|ydk|ydl|ydm|yaT|ydn|ydo|ydp|ydq|ydr|yds|yaU|ybN|yby|ybz|ybA|ybB|yct|ycu|yaV|yaO|yaB|ybh|yd7|yd8|ydN|ybO|yd9|ybi|yea|ydO|yeb|ydt|yca|yec|yed|g_MOST_WARES|g_MOST_SWAPS|ybj|ya2|ybP|ycb|ycc|ybQ|ycd|ybR|yce|ycv|ycw|ycx|ycy|ybS|ycf|yaP|ya3|ybk|ybT|ycg|x_gt|x_tk|ya4|ya5|ybl|ybm|ybn|ybo|eb|eo|et|ycz|ycA=>k_is)
  (case q0|q1|q2|q3|q4|q5|q6|q7|q8|q9|q10|q11|q12|q13|q14|q15|q16|q17|q18|q19|q20|q21|q22|q23|q24|q25|q26|q27|q28|q29|q30|q31|q32|q33|q34|q35|q36|q37|q38|q39|q40|q41|q42|q43|q44|q45|q46|q47|q48=>apply My.FA.gm<;>k_is)
  (case xi_OtherBook=>k_exc)
  (case i0_BadBasket|i_OtherBook_BadBasket|i0_BadBaskets|i_OtherBook_BadBaskets|i0_BadNames|i_OtherBook_BadNames|i0_BadRest|i_OtherBook_BadRest|i0_BadRoad|i_OtherBook_BadRoad|i0_BadScale|i_OtherBook_BadScale|i0_BadSwap|i_OtherBook_BadSwap|i0_BadWares|i_OtherBook_BadWares|i0_Endless|i_OtherBook_Endless|i0_NoBook|i_OtherBook_NoBook|i0_NoLine|i_OtherBook_NoLine|i0_NoName|i_OtherBook_NoName|i0_NoSwap|i_OtherBook_NoSwap|i0_NotAlike|i_OtherBook_NotAlike|i0_NotKept|i_OtherBook_NotKept|i0_OtherBook|i_OtherBook_OtherBook|i0_OtherWares|i_OtherBook_OtherWares|i0_TooGreat|i_OtherBook_TooGreat|i0_TooMany|i_OtherBook_TooMany|i0_ValueError|i_OtherBook_ValueError|kit_int_bool|kit_int_int|kit_list_list|ycB=>kit_is)
end
